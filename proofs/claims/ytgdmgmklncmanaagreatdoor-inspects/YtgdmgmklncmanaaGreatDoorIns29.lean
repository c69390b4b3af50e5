/- Of Ins: HsW6. -/
import Derived.Test.YtgdmgmklncmanaaGreatDoorIns28
/- The walk over the document's hash: a content's first signs. -/
namespace Go.Proofs.YtgdmgmklncmanaaGreatDoor
open Go.RowKit

theorem list_append' (x y : List UInt8) : (⟨x.toArray⟩ : ByteArray) ++ ⟨y.toArray⟩ = ⟨(x ++ y).toArray⟩ := by
  apply bytes_ext; simp
theorem padTo_end (x : List UInt8) (z : Nat) : padTo x z 8 = padTo x z 0 ++ lenB x.length 8 := by simp [padTo, lenB]
theorem wf_congr {b c : Nat → Int} (h : ∀ j, j < 64 → b j = c j) : ∀ i, i < 64 → wf b i = wf c i := by
  intro i
  induction i using Nat.strongRecOn with
  | ind i ih =>
    intro hi
    by_cases h16 : i < 16
    · rw [wf_low h16, wf_low h16, word4, word4, h _ (by omega), h _ (by omega), h _ (by omega), h _ (by omega)]
    · rw [wf_high h16, wf_high h16, ih (i - 2) (by omega) (by omega), ih (i - 7) (by omega) (by omega), ih (i - 15) (by omega) (by omega), ih (i - 16) (by omega) (by omega)]
theorem rounds_congr (r : R8) {F G K : Nat → Int} : ∀ n, (∀ i, i < n → F i = G i) → rounds r F K n = rounds r G K n
  | 0, _ => rfl
  | n + 1, h => by rw [rounds, rounds, rounds_congr r n (fun i hi => h i (by omega)), h n (by omega)]
theorem bs_blk (x : List UInt8) (k : Nat) (s : List UInt8) (hs : s = ((padB x).drop (64 * k)).take 64) : ∀ j, j < 64 → bs s j = blk x k j := by
  intro j hj
  subst hs
  rw [bs, blk, List.getD, List.getElem?_take, if_pos hj, List.getElem?_drop]
theorem hash_next (K : Nat → Int) (x : List UInt8) (k : Nat) (s : List UInt8) (hs : s = ((padB x).drop (64 * k)).take 64) : R8.plus (hashTo K x k) (rounds (hashTo K x k) (wf (bs s)) K 64) = hashTo K x (k + 1) := by
  rw [hashTo, rounds_congr (hashTo K x k) 64 (wf_congr (bs_blk x k s hs))]
theorem plus_bd (r s : R8) (j : Nat) : 0 ≤ (R8.plus r s).nth j ∧ (R8.plus r s).nth j < 4294967296 := by rw [plus_nth]; omega
theorem hashTo_bd (K : Nat → Int) (x : List UInt8) : ∀ k j, 0 ≤ (hashTo K x k).nth j ∧ (hashTo K x k).nth j < 4294967296
  | 0, j => by
    match j with
    | 0 => show 0 ≤ (1779033703 : Int) ∧ (1779033703 : Int) < 4294967296; decide
    | 1 => show 0 ≤ (3144134277 : Int) ∧ (3144134277 : Int) < 4294967296; decide
    | 2 => show 0 ≤ (1013904242 : Int) ∧ (1013904242 : Int) < 4294967296; decide
    | 3 => show 0 ≤ (2773480762 : Int) ∧ (2773480762 : Int) < 4294967296; decide
    | 4 => show 0 ≤ (1359893119 : Int) ∧ (1359893119 : Int) < 4294967296; decide
    | 5 => show 0 ≤ (2600822924 : Int) ∧ (2600822924 : Int) < 4294967296; decide
    | 6 => show 0 ≤ (528734635 : Int) ∧ (528734635 : Int) < 4294967296; decide
    | _ + 7 => show 0 ≤ (1541459225 : Int) ∧ (1541459225 : Int) < 4294967296; decide
  | k + 1, j => by rw [hashTo]; exact plus_bd _ _ j
theorem mask4 (n : Int) (h0 : 0 ≤ n) (h1 : n < 4294967296) : bits BinOp.and IntKind.u32 n 15 = n % 16 := by
  obtain ⟨m, rfl⟩ : ∃ m : Nat, n = m := ⟨n.toNat, by omega⟩
  have hm : m % 2 ^ 32 = m := Nat.mod_eq_of_lt (by omega)
  have e : (BitVec.ofInt 32 (m : Int) &&& BitVec.ofInt 32 15).toNat = m % 16 := by
    rw [BitVec.toNat_and]
    have e1 : (BitVec.ofInt 32 (m : Int)).toNat = m := by
      rw [BitVec.ofInt_natCast, BitVec.toNat_ofNat, hm]
    have e2 : (BitVec.ofInt 32 15).toNat = 2 ^ 4 - 1 := by decide
    rw [e1, e2, Nat.and_two_pow_sub_one_eq_mod]
  show IntKind.u32.wrap (((BitVec.ofInt 32 (m : Int) &&& BitVec.ofInt 32 15).toNat : Nat) : Int) = _
  rw [e]
  have : IntKind.u32.wrap ((m % 16 : Nat) : Int) = ((m % 16 : Nat) : Int) % 4294967296 := rfl
  rw [this]
  omega
/-- The signs of a word, from the highest on. -/
def nibs (v : Int) : Nat → List UInt8
  | 0 => []
  | m + 1 => nibs v m ++ [hexS (v / 2 ^ (28 - 4 * m) % 16)]
theorem nibs_len (v : Int) : ∀ m, (nibs v m).length = m
  | 0 => rfl
  | m + 1 => by rw [nibs, List.length_append, nibs_len v m]; rfl
theorem nibs_last (v : Int) : nibs v 8 = nibs v 7 ++ [hexS (v % 16)] := by simp [nibs]
theorem nibs_short (r : R8) : nibs (r.nth 0) 8 ++ nibs (r.nth 1) 8 = shortTo r 8 := by
  simp only [nibs, shortTo, byteAt, List.nil_append, List.cons_append]
  generalize r.nth 0 = a
  generalize r.nth 1 = b
  have h : ∀ v : Int, v / 2 ^ 24 % 256 / 16 = v / 2 ^ 28 % 16 ∧ v / 2 ^ 24 % 256 % 16 = v / 2 ^ 24 % 16 ∧ v / 2 ^ 16 % 256 / 16 = v / 2 ^ 20 % 16 ∧ v / 2 ^ 16 % 256 % 16 = v / 2 ^ 16 % 16 ∧ v / 2 ^ 8 % 256 / 16 = v / 2 ^ 12 % 16 ∧ v / 2 ^ 8 % 256 % 16 = v / 2 ^ 8 % 16 ∧ v / 2 ^ 0 % 256 / 16 = v / 2 ^ 4 % 16 ∧ v / 2 ^ 0 % 256 % 16 = v / 2 ^ 0 % 16 := by
    intro v
    refine ⟨?_, ?_, ?_, ?_, ?_, ?_, ?_, ?_⟩ <;> omega
  obtain ⟨a1, a2, a3, a4, a5, a6, a7, a8⟩ := h a
  obtain ⟨b1, b2, b3, b4, b5, b6, b7, b8⟩ := h b
  simp only [Nat.reduceMul, Nat.reduceSub, Nat.reduceMod, a1, a2, a3, a4, a5, a6, a7, a8, b1, b2, b3, b4, b5, b6, b7, b8]
theorem hex_slice (n : Nat) (h : n < 16) : (⟨#[48, 49, 50, 51, 52, 53, 54, 55, 56, 57, 97, 98, 99, 100, 101, 102]⟩ : ByteArray).extract n (n + 1) = ⟨[hexS (n : Int)].toArray⟩ := by
  rcases (show n = 0 ∨ n = 1 ∨ n = 2 ∨ n = 3 ∨ n = 4 ∨ n = 5 ∨ n = 6 ∨ n = 7 ∨ n = 8 ∨ n = 9 ∨ n = 10 ∨ n = 11 ∨ n = 12 ∨ n = 13 ∨ n = 14 ∨ n = 15 from by omega) with rfl | rfl | rfl | rfl | rfl | rfl | rfl | rfl | rfl | rfl | rfl | rfl | rfl | rfl | rfl | rfl <;> rfl

set_option maxRecDepth 100000 in
theorem conv_lit (l : List UInt8) (w : World) (cs : Array Value) (hcs : cs = (bcells l).toArray) (n : Nat) (hn : l.length = n) :
    (convert 113 9 (.slice (some ⟨w.heap.size, 0, none⟩) n n)).run Tryz.prog (w.alloc (.cells cs 5)) = .ok (.string ⟨l.toArray⟩) (w.alloc (.cells cs 5)) := by
  subst hcs
  have := run_convert_bytes_arg (P := Tryz.prog) (w.alloc (.cells (bcells l).toArray 5)) 113 5 Tryz.underlying113 Tryz.underlying5 w.heap.size 0 n n (l.map fun c => (c.toNat : Int)) (by simp [hn]) (fun i hi => by
    rw [Nat.zero_add, row_cell (heap_alloc_new w _)]
    simp [bcells, List.getD, List.getElem?_eq_getElem (show i < l.length by omega)]) 9 Tryz.underlying9
  rw [this]
  congr 2
  apply bytes_ext
  simp [strOfNums, Function.comp_def]
theorem lenB_vals (n : Nat) (hn : n ≤ 2000) : bcells (lenB n 8) = [.int .u8 0, .int .u8 0, .int .u8 0, .int .u8 0, .int .u8 (8 * (n : Int) / 16777216), .int .u8 (8 * (n : Int) / 65536), .int .u8 (8 * (n : Int) / 256), .int .u8 (8 * (n : Int) % 256)] := by
  have e : ∀ m : Nat, (((UInt8.ofNat m).toNat : Nat) : Int) = (m : Int) % 256 := fun m => by rw [UInt8.toNat_ofNat']; omega
  simp only [bcells, lenB, List.range, List.range.loop, List.map, e, List.cons.injEq, and_true, true_and, Value.int.injEq]
  omega

set_option maxRecDepth 100000 in
set_option maxHeartbeats 2000000 in
theorem rhash_any (x : List UInt8) (hx : x.length ≤ 2000) (K : Nat → Int) (gh ch gk ck : Nat) (w : World) (hgh : gh < w.heap.size) (hgk : gk < w.heap.size)
    (ch8 : ∀ j, j < 8 → w.cell? ⟨gh, j, none⟩ = some (.int .u32 (iv.nth j))) (ck64 : ∀ j, j < 64 → w.cell? ⟨gk, j, none⟩ = some (.int .u32 (K j))) :
    Calls Tryz.prog 25 #[.agg #[.slice (some ⟨gh, 0, none⟩) 8 ch, .slice (some ⟨gk, 0, none⟩) 64 ck], .string ⟨x.toArray⟩] w fun e w' => e = .returned (.string ⟨(short K x).toArray⟩) ∧ Below w.heap.size w w' := by
  have HC8 := hide ch8; have HC64 := hide ck64
  have e1 : (⟨x.toArray⟩ : ByteArray) ++ ⟨#[128]⟩ = ⟨(padTo x 0 0).toArray⟩ := list_append' x [128]
  clear ch8 ck64
  go_enter Tryz.func25, Tryz.ntmps25
  go_wp2_with fail
  go_loop [1] (fun s => ∃ z : Nat, z ≤ zc x.length ∧ s = .string ⟨(padTo x z 0).toArray⟩) (fun s => x.length + 1 + zc x.length - strLen s)
  case atStart => exact ⟨0, by omega, rfl⟩
  case round =>
    clear e1
    obtain ⟨z, hz, rfl⟩ := hrel
    by_cases hlt : z < zc x.length
    · have e2 : (⟨(padTo x z 0).toArray⟩ : ByteArray) ++ ⟨#[0]⟩ = ⟨(padTo x (z + 1) 0).toArray⟩ := by rw [padTo_zero]; exact list_append' _ [0]
      have hl := padTo_len x z 0
      have hzc : zc x.length < 64 := by unfold zc; omega
      have hmod : ((((padTo x z 0).length : Int) % 64) == 56) = false := by
        simp only [beq_eq_false_iff_ne]
        unfold zc at hlt; omega
      go_wp2_with fail
      refine ⟨⟨z + 1, by omega, rfl⟩, by have hl2 := padTo_len x (z + 1) 0; have s1 : strLen (.string ⟨(padTo x (z + 1) 0).toArray⟩) = (padTo x (z + 1) 0).length := rfl; have s2 : strLen (.string ⟨(padTo x z 0).toArray⟩) = (padTo x z 0).length := rfl; omega⟩
    · obtain rfl : z = zc x.length := by omega
      have hl := padTo_len x (zc x.length) 0
      have hzc : zc x.length < 64 := by unfold zc; omega
      have hmod : ((((padTo x (zc x.length) 0).length : Int) % 64) == 56) = true := by
        simp only [beq_iff_eq]
        unfold zc at hl ⊢; omega
      have hcv := conv_lit (lenB x.length 8) (w.alloc (.cells #[.slice (some ⟨gh, 0, none⟩) 8 ch, .slice (some ⟨gk, 0, none⟩) 64 ck] 78)) #[.int .u8 0, .int .u8 0, .int .u8 0, .int .u8 0, .int .u8 (8 * (x.length : Int) / 16777216), .int .u8 (8 * (x.length : Int) / 65536), .int .u8 (8 * (x.length : Int) / 256), .int .u8 (8 * (x.length : Int) % 256)] (by rw [lenB_vals x.length hx]) 8 (by simp [lenB])
      rw [show (w.alloc (.cells #[.slice (some ⟨gh, 0, none⟩) 8 ch, .slice (some ⟨gk, 0, none⟩) 64 ck] 78)).heap.size = w.heap.size + 1 from by simp] at hcv
      have e3 : (⟨(padTo x (zc x.length) 0).toArray⟩ : ByteArray) ++ ⟨(lenB x.length 8).toArray⟩ = ⟨(padB x).toArray⟩ := by rw [padB, padTo_end]; exact list_append' _ _
      have hll : (lenB x.length 8).length = 8 := by simp [lenB]
      have HB0 : Hid (Below w.heap.size w ((w.alloc (.cells #[.slice (some ⟨gh, 0, none⟩) 8 ch, .slice (some ⟨gk, 0, none⟩) 64 ck] 78)).alloc (.cells #[.int .u8 0, .int .u8 0, .int .u8 0, .int .u8 0, .int .u8 (8 * (x.length : Int) / 16777216), .int .u8 (8 * (x.length : Int) / 65536), .int .u8 (8 * (x.length : Int) / 256), .int .u8 (8 * (x.length : Int) % 256)] 5))) := hide (((Below.refl _ w).alloc (Nat.le_refl _) _).alloc (by simp) _)
      have HT0 : Hid (((w.alloc (.cells #[.slice (some ⟨gh, 0, none⟩) 8 ch, .slice (some ⟨gk, 0, none⟩) 64 ck] 78)).alloc (.cells #[.int .u8 0, .int .u8 0, .int .u8 0, .int .u8 0, .int .u8 (8 * (x.length : Int) / 16777216), .int .u8 (8 * (x.length : Int) / 65536), .int .u8 (8 * (x.length : Int) / 256), .int .u8 (8 * (x.length : Int) % 256)] 5)).heap[w.heap.size]? = some (.cells #[.slice (some ⟨gh, 0, none⟩) 8 ch, .slice (some ⟨gk, 0, none⟩) 64 ck] 78 (0, 0))) := hide ((Below.heap_alloc _ _ _ (by simp)).trans (heap_alloc_new w _))
      go_wp2_with fail
      clear hcv e3 hll hmod hl
      generalize (w.alloc (.cells #[.slice (some ⟨gh, 0, none⟩) 8 ch, .slice (some ⟨gk, 0, none⟩) 64 ck] 78)).alloc (.cells #[.int .u8 0, .int .u8 0, .int .u8 0, .int .u8 0, .int .u8 (8 * (x.length : Int) / 16777216), .int .u8 (8 * (x.length : Int) / 65536), .int .u8 (8 * (x.length : Int) / 256), .int .u8 (8 * (x.length : Int) % 256)] 5) = W0 at *
      have hnb : (padB x).length = 64 * nb x := by have := padB_mod x; unfold nb; omega
      have hpl : (padB x).length ≤ 3000 := by rw [padB_len]; omega
      have HNB := hide hnb
      generalize hPL : (padB x).length = PL at *
      have HPL := hide hPL
      clear hPL hnb
      go_loopw [6, 7] (fun h i wr => ∃ (k g c m : Nat), k ≤ nb x ∧ m = 64 * k ∧ i = .int .i64 (m : Int) ∧ h = .slice (some ⟨g, 0, none⟩) 8 c ∧ g < wr.heap.size ∧ Hid (∀ j, j < 8 → wr.cell? ⟨g, j, none⟩ = some (.int .u32 ((hashTo K x k).nth j))) ∧ Hid (Below w.heap.size w wr) ∧ Hid (wr.heap[w.heap.size]? = some (.cells #[.slice (some ⟨gh, 0, none⟩) 8 ch, .slice (some ⟨gk, 0, none⟩) 64 ck] 78 (0, 0)))) (fun _ i _ => PL - (intOf i).toNat)
      case atStart =>
        have hs := HB0.out.size
        exact ⟨0, gh, ch, 0, by omega, rfl, rfl, rfl, by omega, hide (fun j hj => (HB0.out.cell (p := ⟨gh, j, none⟩) hgh).trans (HC8.out j hj)), HB0, HT0⟩
      case round =>
        clear HB0 HT0
        obtain ⟨k, g, c, m, hk, hm, rfl, rfl, hg, HC, HB, HT⟩ := hrel
        have hnb := HNB.out
        have hsz := HB.out.size
        have HM := hide hm
        by_cases hlt : k < nb x
        · have b1 : (m : Int) < (PL : Int) := by omega
          obtain ⟨m2, hm2⟩ : ∃ m2, m + 64 = m2 := ⟨_, rfl⟩
          have z : (m : Int) + 64 = (m2 : Int) := by omega
          have b2 : (m2 : Int) ≤ (PL : Int) := by omega
          have b3 : (m : Int) ≤ (m2 : Int) := by omega
          have y : IntKind.i64.wrap (m2 : Int) = (m2 : Int) := IntWalk.i64_in _ (by omega)
          obtain ⟨s, hs⟩ : ∃ s, ((padB x).drop (64 * k)).take 64 = s := ⟨_, rfl⟩
          have hsl : s.length = 64 := by rw [← hs, List.length_take, List.length_drop, HPL.out]; omega
          have ex : (⟨(padB x).toArray⟩ : ByteArray).extract m m2 = ⟨s.toArray⟩ := by rw [cut_mid, ← hs, hm, show m2 - 64 * k = 64 from by omega]
          have HN := hide (hash_next K x k s hs.symm)
          have t1 := (row_cell HT.out 1).trans (show _ = some (.slice (some ⟨gk, 0, none⟩) 64 ck) from rfl)
          have PLe := HPL.out
          have HS := hide hsl
          clear hs hm hsl hm2 hnb
          go_wp2_with fail
          go_region_held3 (fun w' => w'.cell? ⟨w.heap.size, 1, none⟩ = some (.slice (some ⟨gk, 0, none⟩) 64 ck))
            (first | assumption | simp [go_sem, *] | exact t2)
            (first
              | (go_at_call 52; refine (rblock_any (hashTo K x k) K s HS.out g c gk ck wr.drew hg (by show gk < wr.heap.size; omega) (fun j hj => HC.out j hj) (fun j hj => (HB.out.cell (p := ⟨gk, j, none⟩) hgk).trans (HC64.out j hj))).mono ?_; rintro e w2 ⟨g2, c2, rfl, hg2, hc2, hb2⟩; have HT2 := hide ((hb2.block w.heap.size (by have := lt_of_block HT.out; exact this)).trans HT.out); have t2 := (row_cell HT2.out 1).trans (show _ = some (.slice (some ⟨gk, 0, none⟩) 64 ck) from rfl); have HC2 := hide hc2; have HB2 := hide (HB.out.drew.trans (hb2.mono hsz)); clear hc2 hb2))
          all_goals go_wp2_with fail
          all_goals exact ⟨⟨k + 1, g2, c2, m2, by omega, by have := HM.out; omega, by go_num, rfl, hg2, by rw [← HN.out]; exact HC2, HB2, HT2⟩, by simp [intOf]; omega⟩
        · obtain rfl : k = nb x := by omega
          have b1 : ¬ (m : Int) < (PL : Int) := by omega
          have PLe := HPL.out
          obtain ⟨a, ha⟩ : ∃ a, (hashTo K x (nb x)).nth 0 = a := ⟨_, rfl⟩
          obtain ⟨b, hb⟩ : ∃ b, (hashTo K x (nb x)).nth 1 = b := ⟨_, rfl⟩
          have abd := hashTo_bd K x (nb x) 0
          have bbd := hashTo_bd K x (nb x) 1
          have v0 := HC.out 0 (by omega)
          have v1 := HC.out 1 (by omega)
          have HF := hide (show short K x = nibs a 8 ++ nibs b 8 by rw [← ha, ← hb, nibs_short, short])
          rw [ha] at abd v0
          rw [hb] at bbd v1
          clear ha hb hnb hm HM
          obtain ⟨a0, a1⟩ := abd
          obtain ⟨b0, b1'⟩ := bbd
          go_wp2_with fail
          go_loop [8, 9] (fun o i => ∃ n : Nat, n ≤ 2 ∧ i = .int .i64 (n : Int) ∧ o = .string ⟨(if n = 0 then ([] : List UInt8) else if n = 1 then nibs a 8 else nibs a 8 ++ nibs b 8).toArray⟩) (fun _ i => 2 - (intOf i).toNat)
          case atStart => exact ⟨0, by omega, rfl, rfl⟩
          case round =>
            obtain ⟨n, hn2, rfl, rfl⟩ := hrel
            rcases (show n = 0 ∨ n = 1 ∨ n = 2 from by omega) with rfl | rfl | rfl
            · go_wp2_with fail
              go_loop [8, 10] (fun o k => ∃ m : Nat, m ≤ 8 ∧ k = .int .i64 (28 - 4 * (m : Int)) ∧ o = .string ⟨(nibs a m).toArray⟩) (fun _ k => (intOf k + 4).toNat)
              case atStart => exact ⟨0, by omega, rfl, rfl⟩
              case round =>
                obtain ⟨m, hm8, rfl, rfl⟩ := hrel
                rcases (show m = 0 ∨ m = 1 ∨ m = 2 ∨ m = 3 ∨ m = 4 ∨ m = 5 ∨ m = 6 ∨ m = 7 ∨ m = 8 from by omega) with rfl | rfl | rfl | rfl | rfl | rfl | rfl | rfl | rfl
                · obtain ⟨q, hq⟩ : ∃ q : Nat, a / 268435456 % 16 = q := ⟨(a / 268435456 % 16).toNat, by omega⟩
                  have hmk := mask4 (a / 268435456) (by omega) (by omega)
                  rw [hq] at hmk
                  have hq16 : q < 16 := by omega
                  have hqi : (q : Int) < 16 := by omega
                  have hx1 := hex_slice q hq16
                  have ea : (⟨(nibs a 0).toArray⟩ : ByteArray) ++ ⟨#[hexS (q : Int)]⟩ = ⟨(nibs a 1).toArray⟩ := by
                    rw [← hq, show nibs a 1 = nibs a 0 ++ [hexS (a / 268435456 % 16)] from rfl]
                    exact list_append' (nibs a 0) [hexS (a / 268435456 % 16)]
                  have hlen := nibs_len a 0
                  have HQ := hide hq
                  clear hq
                  go_wp2_with fail
                  exact ⟨⟨1, by omega, by go_num, rfl⟩, by simp [intOf]⟩
                · obtain ⟨q, hq⟩ : ∃ q : Nat, a / 16777216 % 16 = q := ⟨(a / 16777216 % 16).toNat, by omega⟩
                  have hmk := mask4 (a / 16777216) (by omega) (by omega)
                  rw [hq] at hmk
                  have hq16 : q < 16 := by omega
                  have hqi : (q : Int) < 16 := by omega
                  have hx1 := hex_slice q hq16
                  have ea : (⟨(nibs a 1).toArray⟩ : ByteArray) ++ ⟨#[hexS (q : Int)]⟩ = ⟨(nibs a 2).toArray⟩ := by
                    rw [← hq, show nibs a 2 = nibs a 1 ++ [hexS (a / 16777216 % 16)] from rfl]
                    exact list_append' (nibs a 1) [hexS (a / 16777216 % 16)]
                  have hlen := nibs_len a 1
                  have HQ := hide hq
                  clear hq
                  go_wp2_with fail
                  exact ⟨⟨2, by omega, by go_num, rfl⟩, by simp [intOf]⟩
                · obtain ⟨q, hq⟩ : ∃ q : Nat, a / 1048576 % 16 = q := ⟨(a / 1048576 % 16).toNat, by omega⟩
                  have hmk := mask4 (a / 1048576) (by omega) (by omega)
                  rw [hq] at hmk
                  have hq16 : q < 16 := by omega
                  have hqi : (q : Int) < 16 := by omega
                  have hx1 := hex_slice q hq16
                  have ea : (⟨(nibs a 2).toArray⟩ : ByteArray) ++ ⟨#[hexS (q : Int)]⟩ = ⟨(nibs a 3).toArray⟩ := by
                    rw [← hq, show nibs a 3 = nibs a 2 ++ [hexS (a / 1048576 % 16)] from rfl]
                    exact list_append' (nibs a 2) [hexS (a / 1048576 % 16)]
                  have hlen := nibs_len a 2
                  have HQ := hide hq
                  clear hq
                  go_wp2_with fail
                  exact ⟨⟨3, by omega, by go_num, rfl⟩, by simp [intOf]⟩
                · obtain ⟨q, hq⟩ : ∃ q : Nat, a / 65536 % 16 = q := ⟨(a / 65536 % 16).toNat, by omega⟩
                  have hmk := mask4 (a / 65536) (by omega) (by omega)
                  rw [hq] at hmk
                  have hq16 : q < 16 := by omega
                  have hqi : (q : Int) < 16 := by omega
                  have hx1 := hex_slice q hq16
                  have ea : (⟨(nibs a 3).toArray⟩ : ByteArray) ++ ⟨#[hexS (q : Int)]⟩ = ⟨(nibs a 4).toArray⟩ := by
                    rw [← hq, show nibs a 4 = nibs a 3 ++ [hexS (a / 65536 % 16)] from rfl]
                    exact list_append' (nibs a 3) [hexS (a / 65536 % 16)]
                  have hlen := nibs_len a 3
                  have HQ := hide hq
                  clear hq
                  go_wp2_with fail
                  exact ⟨⟨4, by omega, by go_num, rfl⟩, by simp [intOf]⟩
                · obtain ⟨q, hq⟩ : ∃ q : Nat, a / 4096 % 16 = q := ⟨(a / 4096 % 16).toNat, by omega⟩
                  have hmk := mask4 (a / 4096) (by omega) (by omega)
                  rw [hq] at hmk
                  have hq16 : q < 16 := by omega
                  have hqi : (q : Int) < 16 := by omega
                  have hx1 := hex_slice q hq16
                  have ea : (⟨(nibs a 4).toArray⟩ : ByteArray) ++ ⟨#[hexS (q : Int)]⟩ = ⟨(nibs a 5).toArray⟩ := by
                    rw [← hq, show nibs a 5 = nibs a 4 ++ [hexS (a / 4096 % 16)] from rfl]
                    exact list_append' (nibs a 4) [hexS (a / 4096 % 16)]
                  have hlen := nibs_len a 4
                  have HQ := hide hq
                  clear hq
                  go_wp2_with fail
                  exact ⟨⟨5, by omega, by go_num, rfl⟩, by simp [intOf]⟩
                · obtain ⟨q, hq⟩ : ∃ q : Nat, a / 256 % 16 = q := ⟨(a / 256 % 16).toNat, by omega⟩
                  have hmk := mask4 (a / 256) (by omega) (by omega)
                  rw [hq] at hmk
                  have hq16 : q < 16 := by omega
                  have hqi : (q : Int) < 16 := by omega
                  have hx1 := hex_slice q hq16
                  have ea : (⟨(nibs a 5).toArray⟩ : ByteArray) ++ ⟨#[hexS (q : Int)]⟩ = ⟨(nibs a 6).toArray⟩ := by
                    rw [← hq, show nibs a 6 = nibs a 5 ++ [hexS (a / 256 % 16)] from rfl]
                    exact list_append' (nibs a 5) [hexS (a / 256 % 16)]
                  have hlen := nibs_len a 5
                  have HQ := hide hq
                  clear hq
                  go_wp2_with fail
                  exact ⟨⟨6, by omega, by go_num, rfl⟩, by simp [intOf]⟩
                · obtain ⟨q, hq⟩ : ∃ q : Nat, a / 16 % 16 = q := ⟨(a / 16 % 16).toNat, by omega⟩
                  have hmk := mask4 (a / 16) (by omega) (by omega)
                  rw [hq] at hmk
                  have hq16 : q < 16 := by omega
                  have hqi : (q : Int) < 16 := by omega
                  have hx1 := hex_slice q hq16
                  have ea : (⟨(nibs a 6).toArray⟩ : ByteArray) ++ ⟨#[hexS (q : Int)]⟩ = ⟨(nibs a 7).toArray⟩ := by
                    rw [← hq, show nibs a 7 = nibs a 6 ++ [hexS (a / 16 % 16)] from rfl]
                    exact list_append' (nibs a 6) [hexS (a / 16 % 16)]
                  have hlen := nibs_len a 6
                  have HQ := hide hq
                  clear hq
                  go_wp2_with fail
                  exact ⟨⟨7, by omega, by go_num, rfl⟩, by simp [intOf]⟩
                · obtain ⟨q, hq⟩ : ∃ q : Nat, a % 16 = q := ⟨(a % 16).toNat, by omega⟩
                  have hmk := mask4 (a) (by omega) (by omega)
                  rw [hq] at hmk
                  have hq16 : q < 16 := by omega
                  have hqi : (q : Int) < 16 := by omega
                  have hx1 := hex_slice q hq16
                  have ea : (⟨(nibs a 7).toArray⟩ : ByteArray) ++ ⟨#[hexS (q : Int)]⟩ = ⟨(nibs a 8).toArray⟩ := by
                    rw [← hq, nibs_last a]
                    exact list_append' (nibs a 7) [hexS (a % 16)]
                  have hlen := nibs_len a 7
                  have HQ := hide hq
                  clear hq
                  go_wp2_with fail
                  exact ⟨⟨8, by omega, by go_num, rfl⟩, by simp [intOf]⟩
                · go_wp2_with fail
                  exact ⟨⟨1, by omega, rfl, by simp⟩, by simp [intOf]⟩
            · go_wp2_with fail
              go_loop [8, 10] (fun o k => ∃ m : Nat, m ≤ 8 ∧ k = .int .i64 (28 - 4 * (m : Int)) ∧ o = .string ⟨(nibs a 8 ++ nibs b m).toArray⟩) (fun _ k => (intOf k + 4).toNat)
              case atStart => exact ⟨0, by omega, rfl, by simp [nibs]⟩
              case round =>
                obtain ⟨m, hm8, rfl, rfl⟩ := hrel
                rcases (show m = 0 ∨ m = 1 ∨ m = 2 ∨ m = 3 ∨ m = 4 ∨ m = 5 ∨ m = 6 ∨ m = 7 ∨ m = 8 from by omega) with rfl | rfl | rfl | rfl | rfl | rfl | rfl | rfl | rfl
                · obtain ⟨q, hq⟩ : ∃ q : Nat, b / 268435456 % 16 = q := ⟨(b / 268435456 % 16).toNat, by omega⟩
                  have hmk := mask4 (b / 268435456) (by omega) (by omega)
                  rw [hq] at hmk
                  have hq16 : q < 16 := by omega
                  have hqi : (q : Int) < 16 := by omega
                  have hx1 := hex_slice q hq16
                  have ea : (⟨(nibs a 8 ++ nibs b 0).toArray⟩ : ByteArray) ++ ⟨#[hexS (q : Int)]⟩ = ⟨(nibs a 8 ++ nibs b 1).toArray⟩ := by
                    rw [← hq, show nibs b 1 = nibs b 0 ++ [hexS (b / 268435456 % 16)] from rfl, ← List.append_assoc]
                    exact list_append' (nibs a 8 ++ nibs b 0) [hexS (b / 268435456 % 16)]
                  have hlen := nibs_len b 0
                  have hlen2 := nibs_len a 8
                  have HQ := hide hq
                  clear hq
                  go_wp2_with fail
                  exact ⟨⟨1, by omega, by go_num, rfl⟩, by simp [intOf]⟩
                · obtain ⟨q, hq⟩ : ∃ q : Nat, b / 16777216 % 16 = q := ⟨(b / 16777216 % 16).toNat, by omega⟩
                  have hmk := mask4 (b / 16777216) (by omega) (by omega)
                  rw [hq] at hmk
                  have hq16 : q < 16 := by omega
                  have hqi : (q : Int) < 16 := by omega
                  have hx1 := hex_slice q hq16
                  have ea : (⟨(nibs a 8 ++ nibs b 1).toArray⟩ : ByteArray) ++ ⟨#[hexS (q : Int)]⟩ = ⟨(nibs a 8 ++ nibs b 2).toArray⟩ := by
                    rw [← hq, show nibs b 2 = nibs b 1 ++ [hexS (b / 16777216 % 16)] from rfl, ← List.append_assoc]
                    exact list_append' (nibs a 8 ++ nibs b 1) [hexS (b / 16777216 % 16)]
                  have hlen := nibs_len b 1
                  have hlen2 := nibs_len a 8
                  have HQ := hide hq
                  clear hq
                  go_wp2_with fail
                  exact ⟨⟨2, by omega, by go_num, rfl⟩, by simp [intOf]⟩
                · obtain ⟨q, hq⟩ : ∃ q : Nat, b / 1048576 % 16 = q := ⟨(b / 1048576 % 16).toNat, by omega⟩
                  have hmk := mask4 (b / 1048576) (by omega) (by omega)
                  rw [hq] at hmk
                  have hq16 : q < 16 := by omega
                  have hqi : (q : Int) < 16 := by omega
                  have hx1 := hex_slice q hq16
                  have ea : (⟨(nibs a 8 ++ nibs b 2).toArray⟩ : ByteArray) ++ ⟨#[hexS (q : Int)]⟩ = ⟨(nibs a 8 ++ nibs b 3).toArray⟩ := by
                    rw [← hq, show nibs b 3 = nibs b 2 ++ [hexS (b / 1048576 % 16)] from rfl, ← List.append_assoc]
                    exact list_append' (nibs a 8 ++ nibs b 2) [hexS (b / 1048576 % 16)]
                  have hlen := nibs_len b 2
                  have hlen2 := nibs_len a 8
                  have HQ := hide hq
                  clear hq
                  go_wp2_with fail
                  exact ⟨⟨3, by omega, by go_num, rfl⟩, by simp [intOf]⟩
                · obtain ⟨q, hq⟩ : ∃ q : Nat, b / 65536 % 16 = q := ⟨(b / 65536 % 16).toNat, by omega⟩
                  have hmk := mask4 (b / 65536) (by omega) (by omega)
                  rw [hq] at hmk
                  have hq16 : q < 16 := by omega
                  have hqi : (q : Int) < 16 := by omega
                  have hx1 := hex_slice q hq16
                  have ea : (⟨(nibs a 8 ++ nibs b 3).toArray⟩ : ByteArray) ++ ⟨#[hexS (q : Int)]⟩ = ⟨(nibs a 8 ++ nibs b 4).toArray⟩ := by
                    rw [← hq, show nibs b 4 = nibs b 3 ++ [hexS (b / 65536 % 16)] from rfl, ← List.append_assoc]
                    exact list_append' (nibs a 8 ++ nibs b 3) [hexS (b / 65536 % 16)]
                  have hlen := nibs_len b 3
                  have hlen2 := nibs_len a 8
                  have HQ := hide hq
                  clear hq
                  go_wp2_with fail
                  exact ⟨⟨4, by omega, by go_num, rfl⟩, by simp [intOf]⟩
                · obtain ⟨q, hq⟩ : ∃ q : Nat, b / 4096 % 16 = q := ⟨(b / 4096 % 16).toNat, by omega⟩
                  have hmk := mask4 (b / 4096) (by omega) (by omega)
                  rw [hq] at hmk
                  have hq16 : q < 16 := by omega
                  have hqi : (q : Int) < 16 := by omega
                  have hx1 := hex_slice q hq16
                  have ea : (⟨(nibs a 8 ++ nibs b 4).toArray⟩ : ByteArray) ++ ⟨#[hexS (q : Int)]⟩ = ⟨(nibs a 8 ++ nibs b 5).toArray⟩ := by
                    rw [← hq, show nibs b 5 = nibs b 4 ++ [hexS (b / 4096 % 16)] from rfl, ← List.append_assoc]
                    exact list_append' (nibs a 8 ++ nibs b 4) [hexS (b / 4096 % 16)]
                  have hlen := nibs_len b 4
                  have hlen2 := nibs_len a 8
                  have HQ := hide hq
                  clear hq
                  go_wp2_with fail
                  exact ⟨⟨5, by omega, by go_num, rfl⟩, by simp [intOf]⟩
                · obtain ⟨q, hq⟩ : ∃ q : Nat, b / 256 % 16 = q := ⟨(b / 256 % 16).toNat, by omega⟩
                  have hmk := mask4 (b / 256) (by omega) (by omega)
                  rw [hq] at hmk
                  have hq16 : q < 16 := by omega
                  have hqi : (q : Int) < 16 := by omega
                  have hx1 := hex_slice q hq16
                  have ea : (⟨(nibs a 8 ++ nibs b 5).toArray⟩ : ByteArray) ++ ⟨#[hexS (q : Int)]⟩ = ⟨(nibs a 8 ++ nibs b 6).toArray⟩ := by
                    rw [← hq, show nibs b 6 = nibs b 5 ++ [hexS (b / 256 % 16)] from rfl, ← List.append_assoc]
                    exact list_append' (nibs a 8 ++ nibs b 5) [hexS (b / 256 % 16)]
                  have hlen := nibs_len b 5
                  have hlen2 := nibs_len a 8
                  have HQ := hide hq
                  clear hq
                  go_wp2_with fail
                  exact ⟨⟨6, by omega, by go_num, rfl⟩, by simp [intOf]⟩
                · obtain ⟨q, hq⟩ : ∃ q : Nat, b / 16 % 16 = q := ⟨(b / 16 % 16).toNat, by omega⟩
                  have hmk := mask4 (b / 16) (by omega) (by omega)
                  rw [hq] at hmk
                  have hq16 : q < 16 := by omega
                  have hqi : (q : Int) < 16 := by omega
                  have hx1 := hex_slice q hq16
                  have ea : (⟨(nibs a 8 ++ nibs b 6).toArray⟩ : ByteArray) ++ ⟨#[hexS (q : Int)]⟩ = ⟨(nibs a 8 ++ nibs b 7).toArray⟩ := by
                    rw [← hq, show nibs b 7 = nibs b 6 ++ [hexS (b / 16 % 16)] from rfl, ← List.append_assoc]
                    exact list_append' (nibs a 8 ++ nibs b 6) [hexS (b / 16 % 16)]
                  have hlen := nibs_len b 6
                  have hlen2 := nibs_len a 8
                  have HQ := hide hq
                  clear hq
                  go_wp2_with fail
                  exact ⟨⟨7, by omega, by go_num, rfl⟩, by simp [intOf]⟩
                · obtain ⟨q, hq⟩ : ∃ q : Nat, b % 16 = q := ⟨(b % 16).toNat, by omega⟩
                  have hmk := mask4 (b) (by omega) (by omega)
                  rw [hq] at hmk
                  have hq16 : q < 16 := by omega
                  have hqi : (q : Int) < 16 := by omega
                  have hx1 := hex_slice q hq16
                  have ea : (⟨(nibs a 8 ++ nibs b 7).toArray⟩ : ByteArray) ++ ⟨#[hexS (q : Int)]⟩ = ⟨(nibs a 8 ++ nibs b 8).toArray⟩ := by
                    rw [← hq, nibs_last b, ← List.append_assoc]
                    exact list_append' (nibs a 8 ++ nibs b 7) [hexS (b % 16)]
                  have hlen := nibs_len b 7
                  have hlen2 := nibs_len a 8
                  have HQ := hide hq
                  clear hq
                  go_wp2_with fail
                  exact ⟨⟨8, by omega, by go_num, rfl⟩, by simp [intOf]⟩
                · go_wp2_with fail
                  exact ⟨⟨2, by omega, rfl, by simp⟩, by simp [intOf]⟩
            · go_wp2_with fail
              go_ret
              exact ⟨by rw [HF.out]; rfl, HB.out⟩
end Go.Proofs.YtgdmgmklncmanaaGreatDoor
