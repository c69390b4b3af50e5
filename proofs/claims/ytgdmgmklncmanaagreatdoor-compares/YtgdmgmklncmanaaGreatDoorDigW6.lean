/- The walk over a text's padding. -/
import Derived.Test.YtgdmgmklncmanaaGreatDoorOwnT
import Derived.Test.YtgdmgmklncmanaaGreatDoorVerW9
import Derived.BigCall
namespace Go.Proofs.YtgdmgmklncmanaaGreatDoor
open Go.RowKit

/-- How many noughts. -/
def zc (n : Nat) : Nat := (119 - n % 64) % 64
/-- A number's eight bytes, the highest first; of them the first k. -/
def lenB (n k : Nat) : List UInt8 := (List.range k).map fun i => UInt8.ofNat (8 * n / 2 ^ (56 - 8 * i))
def padTo (x : List UInt8) (z k : Nat) : List UInt8 := x ++ 128 :: (List.replicate z 0 ++ lenB x.length k)
def padB (x : List UInt8) : List UInt8 := padTo x (zc x.length) 8
theorem padTo_len (x : List UInt8) (z k : Nat) : (padTo x z k).length = x.length + 1 + z + k := by simp [padTo, lenB]; omega
theorem padB_len (x : List UInt8) : (padB x).length = x.length + 1 + zc x.length + 8 := padTo_len _ _ _
theorem padB_mod (x : List UInt8) : (padB x).length % 64 = 0 := by rw [padB_len, zc]; omega
theorem bcells_app (a b : List UInt8) : bcells (a ++ b) = bcells a ++ bcells b := by simp [bcells]
theorem bcells_len (a : List UInt8) : (bcells a).length = a.length := by simp [bcells]
theorem padTo_zero (x : List UInt8) (z : Nat) : padTo x (z + 1) 0 = padTo x z 0 ++ [0] := by simp [padTo, lenB, List.replicate_succ']
theorem padTo_byte (x : List UInt8) (z k : Nat) : padTo x z (k + 1) = padTo x z k ++ [UInt8.ofNat (8 * x.length / 2 ^ (56 - 8 * k))] := by simp [padTo, lenB, List.range_succ]
def lenOf : Value → Nat
  | .slice _ n _ => n
  | _ => 0
theorem info_byte : (Tryz.prog.info? 5).map (fun i => (i.zero, i.size, i.bytes)) = some (some (.int .u8 0), 1, 1) := by kernel_rfl
theorem info_three {P : Program} {t : TypeId} {z : Value} {n b : Nat} (h : (P.info? t).map (fun i => (i.zero, i.size, i.bytes)) = some (some z, n, b)) : ∃ i0, P.info? t = some i0 ∧ i0.zero = some z ∧ i0.size = n ∧ i0.bytes = b := by
  cases hi : P.info? t with
  | none => simp [hi] at h
  | some i => simp [hi] at h; exact ⟨i, rfl, h.1, h.2.1, h.2.2⟩
theorem own_next {wr : World} {b : Nat} {e : TypeId} {v u : Value} {m : Nat} {x : List UInt8} {z k : Nat} (h : OwnT wr b e v m (bcells (padTo x z k) ++ [u])) (hu : u = .int .u8 (UInt8.ofNat (8 * x.length / 2 ^ (56 - 8 * k))).toNat) : OwnT wr b e v m (bcells (padTo x z (k + 1))) := by
  rw [padTo_byte, bcells_app]; subst hu; exact h
theorem conv_bytes (x : List UInt8) (hx : x.length ≤ 1000000) (w : World) : ∃ (w1 : World) (cap : Nat), (convert 9 113 (.string ⟨x.toArray⟩)).run Tryz.prog w = .ok (.slice (some ⟨w.heap.size, 0, none⟩) x.length cap) w1
    ∧ OwnT w1 w.heap.size 5 (.slice (some ⟨w.heap.size, 0, none⟩) x.length cap) x.length (bcells x) ∧ Below w.heap.size w w1 := by
  refine ⟨_, _, ?_, ownT_bytes w 5 x hx, below_bytesWorld w 5 _⟩
  have := Lib.run_convert_string_bytes (P := Tryz.prog) w 9 113 5 ⟨x.toArray⟩ Tryz.underlying9 Tryz.underlying113 Tryz.underlying5
  simpa [ByteArray.size] using this

set_option maxRecDepth 8000 in
set_option maxHeartbeats 2000000 in
theorem pad_any (x : List UInt8) (hx : x.length ≤ 1000000) (w : World) :
    Calls Tryz.prog 135 #[.string ⟨x.toArray⟩] w fun e w' => ∃ v, e = .returned v ∧ OwnT w' w.heap.size 5 v (padB x).length (bcells (padB x)) ∧ Below w.heap.size w w' := by
  obtain ⟨i0, hi, hz0, hz1, hz2⟩ := info_three info_byte
  obtain ⟨w1, cap, hrun, hown, hb⟩ := conv_bytes x hx w
  have HO := hide hown; clear hown
  have HB := hide hb; clear hb
  go_enter Tryz.func135, Tryz.ntmps135
  go_wp2_with (first
    | (at_builtin; refine wpList_append_T _ rfl _ _ 113 rfl w.heap.size 5 i0 (.int .u8 0) Tryz.underlying113 hi hz0 hz1 hz2 rfl _ _ _ rfl (HO.out.alloc _) ⟨w1.heap.size, 0, none⟩ 1 1 [.int .u8 128] rfl rfl (cell_one_new _ _ _) (fun x hx => by simp at hx; subst hx; rfl) (by unfold maxLen; omega) (by omega) (by have := HB.out.size; simp; omega) ?_; intro v' w3 hown' hgrow3))
  obtain ⟨g1, cap1, rfl, hg1, hg1', -, -, -⟩ := hown'.shape
  have e1 : bcells x ++ [Value.int .u8 128] = bcells (padTo x 0 0) := by simp [padTo, lenB, bcells]
  rw [e1] at hown'
  have hb3 : Below w.heap.size w w3 := (HB.out.alloc (by have := HB.out.size; omega) _).grown hgrow3 (by have := HB.out.size; simp; omega) (fun k hk => (HO.out.lt k hk).1)
  go_loopw [3] (fun o wr => ∃ (z n g c : Nat), o = .slice (some ⟨g, 0, none⟩) n c ∧ n ≤ 1000100 ∧ Hid (n = x.length + 1 + z ∧ z ≤ zc x.length) ∧ OwnT wr w.heap.size 5 o n (bcells (padTo x z 0)) ∧ Below w.heap.size w wr)
    (fun o _ => x.length + 100 - lenOf o)
  case atStart => exact ⟨0, x.length + 1, g1, cap1, rfl, by omega, hide ⟨by omega, by omega⟩, hown', hb3⟩
  case round =>
    clear hown' hb3 hgrow3 hrun e1
    obtain ⟨z, n, g, c, rfl, hn, HN, hown, hbel⟩ := hrel
    have hsize := hbel.size
    have hzb : zc x.length < 64 := by unfold zc; omega
    by_cases hz : z < zc x.length
    · have hne : ((n : Int) % 64 != 56) = true := by
        have := HN.out; unfold zc at this hz; rw [bne_iff_ne]; omega
      go_wp2_with (first
        | (at_builtin; refine wpList_append_T _ rfl _ _ 113 rfl w.heap.size 5 i0 (.int .u8 0) Tryz.underlying113 hi hz0 hz1 hz2 rfl _ _ _ rfl (hown.alloc _) ⟨wr.heap.size, 0, none⟩ 1 1 [.int .u8 0] rfl rfl (cell_one_new _ _ _) (fun x hx => by simp at hx; subst hx; rfl) (by unfold maxLen; omega) (by omega) (by simp; omega) ?_; intro v' w3 hown' hgrow3))
      go_roundw
      case rel =>
        obtain ⟨g1, cap1, rfl, hg1, hg1', -, -, -⟩ := hown'.shape
        have e2 : bcells (padTo x z 0) ++ [Value.int .u8 0] = bcells (padTo x (z + 1) 0) := by rw [padTo_zero, bcells_app]; rfl
        rw [e2] at hown'
        exact ⟨z + 1, n + 1, g1, cap1, rfl, by have := HN.out; omega, hide (by have := HN.out; omega), hown', (hbel.alloc hsize _).grown hgrow3 (by simp; omega) (fun q hq => (hown.lt q hq).1)⟩
      case measure => obtain ⟨g1, cap1, rfl, -⟩ := hown'.shape; simp [lenOf]; have := HN.out; omega
    · have hze : z = zc x.length := by have := HN.out; omega
      subst hze
      have hne : ((n : Int) % 64 != 56) = false := by
        have := HN.out; unfold zc at this; simp; omega
      have HE : Hid (n = x.length + 1 + zc x.length) := hide HN.out.1
      clear HN hz hzb
      go_wp2_with fail
      go_loopw [3, 5] (fun o sh wr => ∃ (k n g c : Nat), k ≤ 8 ∧ o = .slice (some ⟨g, 0, none⟩) n c ∧ n ≤ 1000200 ∧ sh = .int .i64 (56 - 8 * (k : Int)) ∧ Hid (n = x.length + 1 + zc x.length + k) ∧ OwnT wr w.heap.size 5 o n (bcells (padTo x (zc x.length) k)) ∧ Below w.heap.size w wr)
        (fun _ sh _ => (intOf sh + 8).toNat)
      case atStart => exact ⟨0, n, g, c, by omega, rfl, by omega, rfl, hide (by have := HE.out; omega), hown, hbel⟩
      case round =>
        clear hown hbel hsize hne HE hn
        obtain ⟨k, n, g, c, hk, rfl, hn, rfl, HN, hown, hbel⟩ := hrel
        have hsize := hbel.size
        by_cases hlt : k < 8
        · rcases (show k = 0 ∨ k = 1 ∨ k = 2 ∨ k = 3 ∨ k = 4 ∨ k = 5 ∨ k = 6 ∨ k = 7 from by omega) with rfl | rfl | rfl | rfl | rfl | rfl | rfl | rfl
          all_goals
            go_wp2_with (first
              | (at_builtin; refine wpList_append_T _ rfl _ _ 113 rfl w.heap.size 5 i0 (.int .u8 0) Tryz.underlying113 hi hz0 hz1 hz2 rfl _ _ _ rfl (hown.alloc _) ⟨wr.heap.size, 0, none⟩ 1 1 [_] rfl rfl (cell_one_new _ _ _) (fun x hx => by simp at hx; subst hx; rfl) (by unfold maxLen; omega) (by omega) (by simp; omega) ?_; intro v' w3 hown' hgrow3))
            go_roundw
            case rel =>
              obtain ⟨g1, cap1, rfl, hg1, hg1', -, -, -⟩ := hown'.shape
              have hown2 := own_next hown' (by simp; try omega)
              exact ⟨_, n + 1, g1, cap1, by omega, rfl, by have := HN.out; unfold zc at this; omega, by simp, hide (by have := HN.out; omega), hown2, (hbel.alloc hsize _).grown hgrow3 (by simp; omega) (fun q hq => (hown.lt q hq).1)⟩
            case measure => simp [intOf]
        · obtain rfl : k = 8 := by omega
          have HP : Hid (n = (padB x).length) := hide (by rw [padB_len]; exact HN.out)
          go_wp2_with fail
          go_ret
          exact ⟨_, rfl, by rw [← HP.out]; exact hown, hbel⟩
end Go.Proofs.YtgdmgmklncmanaaGreatDoor
