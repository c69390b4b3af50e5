/- The walk over a digest's first signs. -/
import Derived.Test.YtgdmgmklncmanaaGreatDoorDigW7
import Derived.Test.YtgdmgmklncmanaaGreatDoorOwnStep
import Derived.Laws.BytesArg
namespace Go.Proofs.YtgdmgmklncmanaaGreatDoor
open Go.RowKit

def hexD : List UInt8 := [48, 49, 50, 51, 52, 53, 54, 55, 56, 57, 97, 98, 99, 100, 101, 102]
/-- A sign of a number below sixteen. -/
def hexS (n : Int) : UInt8 := hexD.getD n.toNat 48
/-- The signs of the first k bytes of a digest. -/
def shortTo (r : R8) : Nat → List UInt8
  | 0 => []
  | k + 1 => shortTo r k ++ [hexS (byteAt r k / 16), hexS (byteAt r k % 16)]
def short (K : Nat → Int) (x : List UInt8) : List UInt8 := shortTo (hashTo K x (nb x)) 8
theorem shortTo_len (r : R8) : ∀ k, (shortTo r k).length = 2 * k
  | 0 => rfl
  | k + 1 => by rw [shortTo, List.length_append, shortTo_len r k]; simp; omega
theorem byteAt_bd (r : R8) (k : Nat) : 0 ≤ byteAt r k ∧ byteAt r k < 256 := by unfold byteAt; omega
theorem sumTo_get (r : R8) (j : Nat) (hj : j < 32) : ∀ k, j < k → (sumTo r k)[j]? = some (.int .u8 (byteAt r j))
  | 0, h => by omega
  | k + 1, h => by
    rw [sumTo, Array.getElem?_setIfInBounds]
    by_cases e : k = j
    · subst e; simp [sumTo_size, hj]
    · rw [if_neg e]; exact sumTo_get r j hj k (by omega)
theorem hex_at (n : Nat) (h : n < 16) : ∃ hh, (⟨#[48, 49, 50, 51, 52, 53, 54, 55, 56, 57, 97, 98, 99, 100, 101, 102]⟩ : ByteArray)[n]'hh = hexS (n : Int) := by
  refine ⟨by simpa [ByteArray.size] using h, ?_⟩
  rcases (show n = 0 ∨ n = 1 ∨ n = 2 ∨ n = 3 ∨ n = 4 ∨ n = 5 ∨ n = 6 ∨ n = 7 ∨ n = 8 ∨ n = 9 ∨ n = 10 ∨ n = 11 ∨ n = 12 ∨ n = 13 ∨ n = 14 ∨ n = 15 from by omega) with rfl | rfl | rfl | rfl | rfl | rfl | rfl | rfl | rfl | rfl | rfl | rfl | rfl | rfl | rfl | rfl <;> rfl
theorem and15 : ∀ n : Nat, n < 256 → bits BinOp.and IntKind.u8 (n : Int) 15 = ((n % 16 : Nat) : Int) := by
  have h : ∀ n : Fin 256, bits BinOp.and IntKind.u8 (n.val : Int) 15 = ((n.val % 16 : Nat) : Int) := by decide +kernel
  exact fun n hn => h ⟨n, hn⟩

structure ShIn (b : Nat) (W : Array Value) (w wr : World) : Prop where
  st : wr.heap[b]? = some (.cells W 164 (0, 0))
  bel : Below w.heap.size w wr

theorem cell_two_new (w : World) (x y : Value) (t : TypeId) : ∀ j u, [x, y][j]? = some u → (w.alloc (.cells #[x, y] t)).cell? ((⟨w.heap.size, 0, none⟩ : Addr).add j) = some u := by
  intro j u h
  have hadd : (⟨w.heap.size, 0, none⟩ : Addr).add j = ⟨w.heap.size, j, none⟩ := by unfold Addr.add; split <;> simp_all
  rw [hadd, row_cell (heap_alloc_new w _)]
  simpa using h

theorem ShIn.grow {b B : Nat} {W : Array Value} {w wr w3 : World} {o : Obj} {g n c : Nat} (h : ShIn b W w wr) (hb : b < wr.heap.size) (hB : B = b + 1) (hg : B ≤ g) (hgr : (wr.alloc o).drew.grownBy w3 (Value.slice (some ⟨g, 0, none⟩) n c).ownBlock) (hw : w.heap.size ≤ b := by omega) : ShIn b W w w3 := by
  refine ⟨?_, ?_⟩
  · have h1 := hgr.block b (by simp; omega) (by simp [Value.ownBlock]; omega)
    rw [h1]
    exact (Below.heap_alloc wr o b hb).trans h.st
  · exact ((h.bel.alloc h.bel.size o).drew).grown hgr (by have := h.bel.size; simp; omega) (fun k hk => by simp [Value.ownBlock] at hk; omega)
theorem sh_next {wr : World} {B : Nat} {v : Value} {R : R8} {k n m : Nat} {q1 : n < (⟨#[48, 49, 50, 51, 52, 53, 54, 55, 56, 57, 97, 98, 99, 100, 101, 102]⟩ : ByteArray).size} {q2 : m < (⟨#[48, 49, 50, 51, 52, 53, 54, 55, 56, 57, 97, 98, 99, 100, 101, 102]⟩ : ByteArray).size}
    (hn : byteAt R k / 16 = n) (hm : byteAt R k % 16 = m) (h1 : (⟨#[48, 49, 50, 51, 52, 53, 54, 55, 56, 57, 97, 98, 99, 100, 101, 102]⟩ : ByteArray)[n]'q1 = hexS n) (h2 : (⟨#[48, 49, 50, 51, 52, 53, 54, 55, 56, 57, 97, 98, 99, 100, 101, 102]⟩ : ByteArray)[m]'q2 = hexS m)
    (h : wr.ownsRow B 5 1 v (2 * k + 2) (bcells (shortTo R k) ++ [Value.int .u8 ((⟨#[48, 49, 50, 51, 52, 53, 54, 55, 56, 57, 97, 98, 99, 100, 101, 102]⟩ : ByteArray)[n]'q1).toNat, Value.int .u8 ((⟨#[48, 49, 50, 51, 52, 53, 54, 55, 56, 57, 97, 98, 99, 100, 101, 102]⟩ : ByteArray)[m]'q2).toNat])) :
    wr.ownsRow B 5 1 v (2 * (k + 1)) (bcells (shortTo R (k + 1))) := by
  rw [h1, h2] at h
  have e : bcells (shortTo R (k + 1)) = bcells (shortTo R k) ++ [Value.int .u8 (hexS n).toNat, Value.int .u8 (hexS m).toNat] := by rw [shortTo, bcells_app, hn, hm]; rfl
  rw [e]; exact h
set_option maxRecDepth 100000 in
theorem sh_string {wr : World} {B g c : Nat} {l : List UInt8} (hl : l.length = 16) (h : wr.ownsRow B 5 1 (.slice (some ⟨g, 0, none⟩) 16 c) 16 (bcells l)) :
    (convert 113 9 (.slice (some ⟨g, 0, none⟩) 16 c)).run Tryz.prog wr = .ok (.string ⟨l.toArray⟩) wr := by
  have := run_convert_bytes_arg (P := Tryz.prog) wr 113 5 Tryz.underlying113 Tryz.underlying5 g 0 16 c (l.map fun c => (c.toNat : Int)) (by simp [hl]) (fun i hi => by
    rw [Nat.zero_add, h.cellAt i (by omega), bcells, List.getElem?_map, List.getElem?_eq_getElem (by omega)]
    simp [List.getD, List.getElem?_eq_getElem (show i < l.length by omega)]) 9 Tryz.underlying9
  rw [this]
  congr 2
  apply bytes_ext
  simp [strOfNums, Function.comp_def]

set_option maxRecDepth 100000 in
set_option maxHeartbeats 400000 in
theorem short_any (x : List UInt8) (hx : x.length ≤ 1000000) (K : Nat → Int) (w : World) (hg : 3 < w.heap.size)
    (hK : ∀ i : Nat, i < 64 → w.cell? ⟨3, i, none⟩ = some (.int .u32 (K i))) :
    Calls Tryz.prog 113 #[.string ⟨x.toArray⟩] w fun e w' => e = .returned (.string ⟨(short K x).toArray⟩) ∧ Below w.heap.size w w' := by
  obtain ⟨i0, hi, hz0, hz1, hz2⟩ := info_three info_byte
  obtain ⟨R, hR⟩ : ∃ R, hashTo K x (nb x) = R := ⟨_, rfl⟩
  have HR := hide hR; clear hR
  obtain ⟨W, hW⟩ : ∃ W, sumTo R 32 = W := ⟨_, rfl⟩
  have HW := hide hW; clear hW
  go_enter Tryz.func113, Tryz.ntmps113
  have hsz : W.size = 32 := by rw [← HW.out]; exact sumTo_size R 32
  have HI : Hid ((Tryz.prog.info? 164).map (·.size) = some W.size) := hide (by rw [hsz]; kernel_rfl)
  have HZ : Hid ((sumTo iv 0).size = W.size) := hide (by rw [hsz, sumTo_size])
  have HONE : Hid (W.all (·.oneCell') = true) := hide (by rw [← HW.out]; exact sumTo_all R)
  have HSZ := hide hsz; clear hsz
  go_wp2_with (first
    | (go_at_call 125; refine (sum_any x hx K _ hg hK).mono ?_; rintro e w1 ⟨he, hb1⟩; rw [HR.out, HW.out] at he; subst he)
    | (refine wpList_store_row rfl 164 _ _ rfl w1.heap.size W rfl rfl _ (sumTo iv 0) (heap_alloc_new w1 _) HI.out HZ.out HONE.out ?_)
    | (refine wpList_make_own _ rfl _ _ _ rfl (w1.heap.size + 1) 5 i0 (.int .u8 0) 1 Tryz.underlying113 hi hz0 hz1 _ _ 16 16 rfl rfl rfl (by omega) (by unfold maxLen; omega) (by simp) ?_; intro w2 hown hgrow))
  have HS : Hid (ShIn w1.heap.size W w w2) := by
    have h0 := heap_alloc_new w1 (.cells (sumTo iv 0) 164)
    have h1 := setRow_heap _ w1.heap.size _ W _ _ h0
    have b1 : Below w.heap.size w (w1.alloc (.cells (sumTo iv 0) 164)) := hb1.alloc hb1.size _
    have b2 := below_setRow b1 (g := w1.heap.size) hb1.size W
    have e0 : ((w1.alloc (.cells (sumTo iv 0) 164)).setRow w1.heap.size W).heap.size = w1.heap.size + 1 := by simp
    refine hide ⟨?_, b2.grown hgrow (by rw [e0]; have := hb1.size; omega) (fun k hk => by cases hk)⟩
    have := hgrow.block w1.heap.size (by simp) (by simp)
    exact this.trans h1
  have hw2 : w1.heap.size + 1 ≤ w2.heap.size := by
    have := hgrow.size; simp at this; omega
  have hs1 : w.heap.size ≤ w1.heap.size := hb1.size
  clear hgrow hb1
  have e1 : ((w1.alloc (.cells (sumTo iv 0) 164)).setRow w1.heap.size W).heap.size = w1.heap.size + 1 := by simp
  go_loopw [4, 12] (fun v i wr => ∃ (k g c : Nat), k ≤ 8 ∧ i = .int .i64 k ∧ v = .slice (some ⟨g, 0, none⟩) (2 * k) c ∧ wr.ownsRow (w1.heap.size + 1) 5 1 v (2 * k) (bcells (shortTo R k)) ∧ w1.heap.size + 1 ≤ wr.heap.size ∧ Hid (ShIn w1.heap.size W w wr))
    (fun _ i _ => 8 - (intOf i).toNat)
  case atStart => exact ⟨0, _, 16, by omega, rfl, rfl, by simpa [shortTo, bcells] using hown, hw2, HS⟩
  case round =>
    clear hown HS hw2 e1
    obtain ⟨k, g, c, hk, rfl, rfl, hown, hsz, HX⟩ := hrel
    by_cases hlt : k < 8
    · obtain ⟨b, hb⟩ : ∃ b : Nat, byteAt R k = (b : Int) := ⟨(byteAt R k).toNat, by have := byteAt_bd R k; omega⟩
      have hb256 : b < 256 := by have := byteAt_bd R k; omega
      have hcell : wr.cell? ⟨w1.heap.size, k, none⟩ = some (.int .u8 (b : Int)) := by rw [row_cell HX.out.st k, ← HW.out, sumTo_get R k (by omega) 32 (by omega), hb]
      have HBB := hide hb; clear hb
      have b8 : (k : Int) < 8 := by omega
      go_wp2_with fail
      have hown1 : wr.drew.ownsRow (w1.heap.size + 1) 5 1 (.slice (some ⟨g, 0, none⟩) (2 * k) c) (2 * k) (bcells (shortTo R k)) := hown
      obtain ⟨n, hn, hn16⟩ : ∃ n : Nat, (b : Int) / 16 = (n : Int) ∧ (n : Int) < 16 := ⟨b / 16, by omega, by omega⟩
      obtain ⟨m, hm, hm16⟩ : ∃ m : Nat, bits BinOp.and IntKind.u8 (b : Int) 15 = (m : Int) ∧ (m : Int) < 16 := ⟨b % 16, and15 b hb256, by omega⟩
      have HM : Hid ((b : Int) % 16 = m) := hide (by have := (and15 b hb256).symm.trans hm; omega)
      obtain ⟨q1, hq1⟩ := hex_at n (by omega)
      obtain ⟨q2, hq2⟩ := hex_at m (by omega)
      have HQ1 := hide hq1
      have HQ2 := hide hq2
      clear hq1 hq2
      go_region_law (refine step_append_own rfl _ _ 113 rfl (w1.heap.size + 1) 5 i0 (.int .u8 0) 1 1 Tryz.underlying113 hi hz0 hz1 hz2 rfl (by decide) _ _ _ rfl (hown1.alloc _) ⟨wr.heap.size, 0, none⟩ 2 2 [_, _] rfl rfl (cell_two_new _ _ _ _) (fun x hx => by simp at hx; rcases hx with rfl | rfl <;> rfl) (by unfold maxLen; omega) (by omega) (by simp; omega) ?_; intro v' w3 hown' hgrow3 hnil3 hblk3)
      all_goals go_wp2_with fail
      all_goals
        go_roundw
        case rel =>
          obtain ⟨g3, c3, hv3⟩ := own_shape hown' (by omega)
          have hgb := (hown.lt g rfl).1
          have hn3 := sh_next (by rw [HBB.out]; exact hn) (by rw [HBB.out]; exact HM.out) HQ1.out HQ2.out hown'
          refine ⟨k + 1, g3, c3, by omega, by go_num, hv3, hn3, ?_, hide (ShIn.grow HX.out (by omega) (by omega) hgb hgrow3)⟩
          have := hgrow3.size; simp at this; omega
        case measure => simp [intOf]; omega
    · obtain rfl : k = 8 := by omega
      have hcv := sh_string (shortTo_len R 8) hown
      rw [show 2 * 8 = 16 from rfl]
      have HH := HX.out.bel
      have HF : Hid (short K x = shortTo R 8) := hide (by rw [short, HR.out])
      clear hown
      go_wp2_with fail
      go_ret
      exact ⟨ret_str (by rw [HF.out]), HH⟩
end Go.Proofs.YtgdmgmklncmanaaGreatDoor
