/- Of Ins: OwnT, DigW6. -/
import Derived.Laws.AppendOwn
import Derived.Laws.CopyRow
import Derived.Lib.ConvBytes
import Derived.Maps.AppendAt
import Derived.Test.YtgdmgmklncmanaaGreatDoorIns4
import Derived.BigCall
import Derived.Test.YtgdmgmklncmanaaGreatDoorIns8
/- A row that the call owns and that may bear a mark behind its end (what a text turned into bytes leaves): it can be appended to. -/
namespace Go.Proofs.YtgdmgmklncmanaaGreatDoor
open Go

theorem alloc_old (w : World) (o : Obj) {r : Nat} (h : r < w.heap.size) : (w.alloc o).heap[r]? = w.heap[r]? := by
  first | exact heap_alloc_old w o h | exact heap_alloc_old w o r h

/-- No cell of the row is marked. -/
def NoMark (fz : Nat × Nat) (n : Nat) : Prop := ∀ j, j < n → ¬ (fz.1 ≤ j ∧ j < fz.2)

/-- The slice v, of n elements of one cell each, owns the cells xs; whatever is marked lies behind its row. -/
def OwnT (w : World) (base : Nat) (e : TypeId) (v : Value) (n : Nat) (xs : List Value) : Prop :=
  xs.length = n ∧ ∃ g cap cur fz, v = .slice (some ⟨g, 0, none⟩) n cap ∧ base ≤ g ∧ w.heap[g]? = some (.cells cur e fz) ∧ NoMark fz cap ∧ n ≤ cap ∧ cap ≤ maxLen ∧ cur.size = cap ∧ cur.toList.take n = xs

section
variable {w : World} {base : Nat} {e : TypeId} {v : Value} {n : Nat} {xs : List Value}
theorem OwnT.lt (h : OwnT w base e v n xs) : ∀ k, v.ownBlock = some k → base ≤ k ∧ k < w.heap.size := by
  intro k hk
  obtain ⟨_, g, cap, cur, fz, rfl, hb, hg, _⟩ := h
  simp [Value.ownBlock] at hk
  subst hk
  exact ⟨hb, (Array.getElem?_eq_some_iff.1 hg).1⟩
theorem OwnT.shape (h : OwnT w base e v n xs) : ∃ g cap, v = .slice (some ⟨g, 0, none⟩) n cap ∧ base ≤ g ∧ g < w.heap.size ∧ n ≤ cap ∧ cap ≤ maxLen ∧ ∀ j, w.cell? ⟨g, j, none⟩ = xs[j]? ∨ n ≤ j := by
  obtain ⟨hl, g, cap, cur, fz, rfl, hb, hg, _, h1, h2, h3, h4⟩ := h
  refine ⟨g, cap, rfl, hb, (Array.getElem?_eq_some_iff.1 hg).1, h1, h2, fun j => ?_⟩
  by_cases hj : j < n
  · left
    rw [← h4, List.getElem?_take, if_pos hj]
    simp [World.cell?, hg]
  · right; omega
theorem OwnT.alloc (h : OwnT w base e v n xs) (o : Obj) : OwnT (w.alloc o) base e v n xs := by
  obtain ⟨hl, g, cap, cur, fz, rfl, hb, hg, rest⟩ := h
  exact ⟨hl, g, cap, cur, fz, rfl, hb, (alloc_old w o (Array.getElem?_eq_some_iff.1 hg).1).trans hg, rest⟩
end

theorem storeCells_T (P : Program) (g o : Nat) (t : TypeId) (fz : Nat × Nat) (top : Nat) (hm : NoMark fz top) : ∀ (vs : List Value) (i : Nat) (cur : Array Value) (w : World), w.heap[g]? = some (.cells cur t fz) → cur.size = top → o + i + vs.length ≤ cur.size → (∀ v ∈ vs, v.oneCell' = true) →
    (storeCells ⟨g, o, none⟩ vs i).run P w = .ok () (w.setRow g (cur.toList.take (o + i) ++ vs ++ cur.toList.drop (o + i + vs.length)).toArray)
  | [], i, cur, w, hg, _, _, _ => by
    simp only [storeCells, List.append_nil, List.length_nil, Nat.add_zero, List.take_append_drop, Array.toArray_toList]
    rw [setRow_self w g cur t fz hg]
    rfl
  | v :: rest, i, cur, w, hg, htop, hl, h1 => by
    have hi : o + i < cur.size := by simp at hl; omega
    have hadd : (⟨g, o, none⟩ : Addr).add i = ⟨g, o + i, none⟩ := by unfold Addr.add; split <;> simp_all
    have hcell : w.cell? ⟨g, o + i, none⟩ = some cur[o + i] := by simp [World.cell?, hg, hi]
    have hfro : w.frozen? ⟨g, o + i, none⟩ = false := by
      have hq := hm (o + i) (by omega)
      obtain ⟨lo, hi'⟩ := fz
      simp only at hq
      simp only [World.frozen?, hg, Bool.and_eq_false_iff, decide_eq_false_iff_not]
      omega
    have hst : (store ((⟨g, o, none⟩ : Addr).add i) v).run P w = .ok () (w.setRow g (cur.setIfInBounds (o + i) v)) := by
      rw [hadd, run_store P w _ v _ (h1 v (by simp)), hcell]
      simp [hfro, setCell_eq_setRow w g (o + i) cur t fz v hg]
    have ih := storeCells_T P g o t fz top hm rest (i + 1) (cur.setIfInBounds (o + i) v) (w.setRow g (cur.setIfInBounds (o + i) v)) (setRow_heap w g cur _ t _ hg) (by simpa using htop) (by simp at hl ⊢; omega) (fun x hx => h1 x (by simp [hx]))
    simp only [storeCells, Sem.run_bind, hst, Result.andThen_ok, ih, setRow_setRow]
    congr 3
    have e := list_seg_step cur.toList (o + i) v rest (by simp at hl ⊢; omega)
    simpa [Array.toList_setIfInBounds, Nat.add_assoc] using e

section
variable {P : Program} (w : World)
theorem append_T (base : Nat) (t ty e : TypeId) (i : TypeInfo) (z : Value) (ht : P.underlying t = some (.slice e)) (hi : P.info? e = some i) (hz : i.zero = some z)
    (hsize : i.size = 1) (hby : i.bytes = 1) (hzs : z.cells.size = 1)
    (v : Value) (n : Nat) (xs : List Value) (hown : OwnT w base e v n xs)
    (a : Addr) (m c : Nat) (news : List Value) (hl : news.length = m) (hnews : ∀ j u, news[j]? = some u → w.cell? (a.add j) = some u) (h1 : ∀ u ∈ news, u.oneCell' = true)
    (h63 : n + m ≤ maxLen) (hbytes : n + m ≤ 140737488355328) (hbase : base ≤ w.heap.size) :
    ∃ v' w', (Builtin.append_ #[t, t] ty #[v, .slice (some a) m c]).run P w = .ok v' w' ∧ OwnT w' base e v' (n + m) (xs ++ news) ∧ w.grownBy w' v.ownBlock := by
  obtain ⟨hxl, g, cap, cur, fz, rfl, hbg, hg, hfz, hnc, hcm, hcs, htake⟩ := hown
  have hsmall : n + m ≤ 9223372036854775807 := by simp only [maxLen] at h63; omega
  have hlen : (xs ++ news).length = n + m := by rw [List.length_append, hxl, hl]
  by_cases hroom : n + m ≤ cap
  · have hfit : n * i.size + news.length ≤ cur.size := by rw [hl, hcs, hsize]; omega
    have hf := run_firstCells_some (P := P) w i.size m a m c news (by rw [hl, hsize]; omega) hnews
    have hst := storeCells_T P g (n * i.size) e fz cap hfz news 0 cur w hg hcs (by simpa using hfit) h1
    simp only [Nat.add_zero] at hst
    have hr : (Builtin.append_ #[t, t] ty #[.slice (some ⟨g, 0, none⟩) n cap, .slice (some a) m c]).run P w =
      .ok (.slice (some ⟨g, 0, none⟩) (n + m) cap) (w.setRow g (cur.toList.take (n * i.size) ++ news ++ cur.toList.drop (n * i.size + news.length)).toArray) := by
      simp [Builtin.append_, run_underlying ht, sizeOf, typeInfo, hi, Builtin.lenOf, hroom, hf, Addr.add_lit, hst]
    rw [hsize, Nat.mul_one] at hr
    refine ⟨_, _, hr, ⟨hlen, g, cap, _, fz, rfl, hbg, setRow_heap w g cur _ e _ hg, hfz, hroom, hcm, ?_, ?_⟩, ⟨rfl, rfl, rfl, by simp, fun k _ hk => setRow_other w g k _ (fun e => hk (by simp [Value.ownBlock, e]))⟩⟩
    · simp only [List.size_toArray, List.length_append, List.length_take, List.length_drop, Array.length_toList]
      omega
    · rw [htake, ← hlen]
      exact List.take_left
  · have holds : ∀ j u, xs[j]? = some u → w.cell? ((⟨g, 0, none⟩ : Addr).add j) = some u := by
      intro j u hu
      have hadd : (⟨g, 0, none⟩ : Addr).add j = ⟨g, j, none⟩ := by unfold Addr.add; split <;> simp_all
      rw [hadd]
      rw [← htake, List.getElem?_take] at hu
      split at hu
      · simpa [World.cell?, hg] using hu
      · cases hu
    have hr := run_append_grow (P := P) w t ty e i z ht hi hz ⟨g, 0, none⟩ n cap xs (by rw [hxl, hsize]; omega) holds a m c news (by rw [hl, hsize]; omega) hnews (by omega) (by omega) (growslice_fits (by omega) (by rw [hby]; omega))
    have hge := grownCap_ge w (n + m) cap e
    have hcm2 : grownCap w (n + m) cap e ≤ maxLen := grownCap_le_maxLen w (n + m) cap e h63
    refine ⟨_, _, hr, ⟨hlen, w.heap.size, _, _, (0, 0), rfl, hbase, heap_alloc_new w.drew _, fun j _ h => by simp at h, hge, hcm2, ?_, ?_⟩, ⟨rfl, rfl, rfl, by simp, fun k hk _ => alloc_old w.drew _ hk⟩⟩
    · simp only [Array.size_append, List.size_toArray, size_zeroCells, hzs, hxl, hl]
      omega
    · simp only [Array.toList_append, List.append_assoc]
      rw [← List.append_assoc, ← hlen]
      exact List.take_left

theorem wpList_append_T {ops : Array Oper} {rest : List Oper} {o : Oper} {a : Act} {Q : Exit → Act → World → Prop} (hgd : o.guard = none) (s x : Operand) (t : TypeId)
    (ho : o.op = .call { callee := .builtin .append, args := #[s, x], argTypes := #[t, t] })
    (base : Nat) (e : TypeId) (i : TypeInfo) (z : Value) (ht : P.underlying t = some (.slice e)) (hi : P.info? e = some i) (hz : i.zero = some z)
    (hsize : i.size = 1) (hby : i.bytes = 1) (hzs : z.cells.size = 1)
    (v : Value) (n : Nat) (xs : List Value) (hs : a.eval s = v) (hown : OwnT w base e v n xs)
    (ad : Addr) (m c : Nat) (news : List Value) (hx : a.eval x = .slice (some ad) m c) (hl : news.length = m) (hnews : ∀ j u, news[j]? = some u → w.cell? (ad.add j) = some u) (h1 : ∀ u ∈ news, u.oneCell' = true)
    (h63 : n + m ≤ maxLen) (hbytes : n + m ≤ 140737488355328) (hbase : base ≤ w.heap.size)
    (h : ∀ v' w', OwnT w' base e v' (n + m) (xs ++ news) → w.grownBy w' v.ownBlock → wpList P ops Q rest (a.put o.dst v') w') : wpList P ops Q (o :: rest) a w := by
  refine wpList_plain hgd fun K hK => ?_
  obtain ⟨v', w', hr, h2, h3⟩ := append_T (P := P) w base t o.type e i z ht hi hz hsize hby hzs v n xs hown ad m c news hl hnews h1 h63 hbytes hbase
  unfold Oper.wp execOp
  simp only [ho, resolve, invoke, builtin, Sem.run_bind, Sem.run_pure, Result.andThen_ok, List.map_toArray, List.map_cons, List.map_nil, hs, hx, hr]
  exact hK _ _ (h v' w' h2 h3)
end

/-- A text's bytes, as cells. -/
def bcells (l : List UInt8) : List Value := l.map fun c => .int .u8 c.toNat
/-- What a text turned into bytes makes is such a row. -/
theorem ownT_bytes (w : World) (e : TypeId) (x : List UInt8) (hx : x.length ≤ 1000000) : OwnT (Lib.bytesWorld w e ⟨x.toArray⟩) w.heap.size e (.slice (some ⟨w.heap.size, 0, none⟩) x.length (grownCap w x.length 0 e)) x.length (bcells x) := by
  have hge := grownCap_ge w x.length 0 e
  have hcm := grownCap_le_maxLen w x.length 0 e (by unfold maxLen; omega)
  refine ⟨by simp [bcells], w.heap.size, grownCap w x.length 0 e, _, _, rfl, Nat.le_refl _, Lib.bytesWorld_at_new w e _, fun j hj h => ?_, hge, hcm, ?_, ?_⟩
  · simp [Lib.bytesCells] at h
    have : (⟨x.toArray⟩ : ByteArray).size = x.length := by simp [ByteArray.size]
    rw [this] at h
    omega
  · simp [Lib.bytesCells]
    have : (⟨x.toArray⟩ : ByteArray).size = x.length := by simp [ByteArray.size]
    rw [this]
    omega
  · simp [Lib.bytesCells, bcells]
end Go.Proofs.YtgdmgmklncmanaaGreatDoor
/- The walk over a text's padding. -/
namespace Go.Proofs.YtgdmgmklncmanaaGreatDoor
open Go.RowKit

/-- How many noughts. -/
def zc (n : Nat) : Nat := (119 - n % 64) % 64
/-- A number's eight bytes, the highest first; of them the first k. -/
def lenB (n k : Nat) : List UInt8 := (List.range k).map fun i => UInt8.ofNat (8 * n / 2 ^ (56 - 8 * i))
def padTo (x : List UInt8) (z k : Nat) : List UInt8 := x ++ 128 :: (List.replicate z 0 ++ lenB x.length k)
def padB (x : List UInt8) : List UInt8 := padTo x (zc x.length) 8
theorem padTo_len (x : List UInt8) (z k : Nat) : (padTo x z k).length = x.length + 1 + z + k := by simp [padTo, lenB]; omega
theorem padB_len (x : List UInt8) : (padB x).length = x.length + 1 + zc x.length + 8 := padTo_len _ _ _
theorem padB_mod (x : List UInt8) : (padB x).length % 64 = 0 := by rw [padB_len, zc]; omega
theorem bcells_app (a b : List UInt8) : bcells (a ++ b) = bcells a ++ bcells b := by simp [bcells]
theorem bcells_len (a : List UInt8) : (bcells a).length = a.length := by simp [bcells]
theorem padTo_zero (x : List UInt8) (z : Nat) : padTo x (z + 1) 0 = padTo x z 0 ++ [0] := by simp [padTo, lenB, List.replicate_succ']
theorem padTo_byte (x : List UInt8) (z k : Nat) : padTo x z (k + 1) = padTo x z k ++ [UInt8.ofNat (8 * x.length / 2 ^ (56 - 8 * k))] := by simp [padTo, lenB, List.range_succ]
def lenOf : Value → Nat
  | .slice _ n _ => n
  | _ => 0
theorem info_byte : (Tryz.prog.info? 5).map (fun i => (i.zero, i.size, i.bytes)) = some (some (.int .u8 0), 1, 1) := by kernel_rfl
theorem info_three {P : Program} {t : TypeId} {z : Value} {n b : Nat} (h : (P.info? t).map (fun i => (i.zero, i.size, i.bytes)) = some (some z, n, b)) : ∃ i0, P.info? t = some i0 ∧ i0.zero = some z ∧ i0.size = n ∧ i0.bytes = b := by
  cases hi : P.info? t with
  | none => simp [hi] at h
  | some i => simp [hi] at h; exact ⟨i, rfl, h.1, h.2.1, h.2.2⟩
theorem own_next {wr : World} {b : Nat} {e : TypeId} {v u : Value} {m : Nat} {x : List UInt8} {z k : Nat} (h : OwnT wr b e v m (bcells (padTo x z k) ++ [u])) (hu : u = .int .u8 (UInt8.ofNat (8 * x.length / 2 ^ (56 - 8 * k))).toNat) : OwnT wr b e v m (bcells (padTo x z (k + 1))) := by
  rw [padTo_byte, bcells_app]; subst hu; exact h
theorem conv_bytes (x : List UInt8) (hx : x.length ≤ 1000000) (w : World) : ∃ (w1 : World) (cap : Nat), (convert 9 113 (.string ⟨x.toArray⟩)).run Tryz.prog w = .ok (.slice (some ⟨w.heap.size, 0, none⟩) x.length cap) w1
    ∧ OwnT w1 w.heap.size 5 (.slice (some ⟨w.heap.size, 0, none⟩) x.length cap) x.length (bcells x) ∧ Below w.heap.size w w1 := by
  refine ⟨_, _, ?_, ownT_bytes w 5 x hx, below_bytesWorld w 5 _⟩
  have := Lib.run_convert_string_bytes (P := Tryz.prog) w 9 113 5 ⟨x.toArray⟩ Tryz.underlying9 Tryz.underlying113 Tryz.underlying5
  simpa [ByteArray.size] using this

set_option maxRecDepth 8000 in
set_option maxHeartbeats 2000000 in
theorem pad_any (x : List UInt8) (hx : x.length ≤ 1000000) (w : World) :
    Calls Tryz.prog 135 #[.string ⟨x.toArray⟩] w fun e w' => ∃ v, e = .returned v ∧ OwnT w' w.heap.size 5 v (padB x).length (bcells (padB x)) ∧ Below w.heap.size w w' := by
  obtain ⟨i0, hi, hz0, hz1, hz2⟩ := info_three info_byte
  obtain ⟨w1, cap, hrun, hown, hb⟩ := conv_bytes x hx w
  have HO := hide hown; clear hown
  have HB := hide hb; clear hb
  go_enter Tryz.func135, Tryz.ntmps135
  go_wp2_with (first
    | (at_builtin; refine wpList_append_T _ rfl _ _ 113 rfl w.heap.size 5 i0 (.int .u8 0) Tryz.underlying113 hi hz0 hz1 hz2 rfl _ _ _ rfl (HO.out.alloc _) ⟨w1.heap.size, 0, none⟩ 1 1 [.int .u8 128] rfl rfl (cell_one_new _ _ _) (fun x hx => by simp at hx; subst hx; rfl) (by unfold maxLen; omega) (by omega) (by have := HB.out.size; simp; omega) ?_; intro v' w3 hown' hgrow3))
  obtain ⟨g1, cap1, rfl, hg1, hg1', -, -, -⟩ := hown'.shape
  have e1 : bcells x ++ [Value.int .u8 128] = bcells (padTo x 0 0) := by simp [padTo, lenB, bcells]
  rw [e1] at hown'
  have hb3 : Below w.heap.size w w3 := (HB.out.alloc (by have := HB.out.size; omega) _).grown hgrow3 (by have := HB.out.size; simp; omega) (fun k hk => (HO.out.lt k hk).1)
  go_loopw [3] (fun o wr => ∃ (z n g c : Nat), o = .slice (some ⟨g, 0, none⟩) n c ∧ n ≤ 1000100 ∧ Hid (n = x.length + 1 + z ∧ z ≤ zc x.length) ∧ OwnT wr w.heap.size 5 o n (bcells (padTo x z 0)) ∧ Below w.heap.size w wr)
    (fun o _ => x.length + 100 - lenOf o)
  case atStart => exact ⟨0, x.length + 1, g1, cap1, rfl, by omega, hide ⟨by omega, by omega⟩, hown', hb3⟩
  case round =>
    clear hown' hb3 hgrow3 hrun e1
    obtain ⟨z, n, g, c, rfl, hn, HN, hown, hbel⟩ := hrel
    have hsize := hbel.size
    have hzb : zc x.length < 64 := by unfold zc; omega
    by_cases hz : z < zc x.length
    · have hne : ((n : Int) % 64 != 56) = true := by
        have := HN.out; unfold zc at this hz; rw [bne_iff_ne]; omega
      go_wp2_with (first
        | (at_builtin; refine wpList_append_T _ rfl _ _ 113 rfl w.heap.size 5 i0 (.int .u8 0) Tryz.underlying113 hi hz0 hz1 hz2 rfl _ _ _ rfl (hown.alloc _) ⟨wr.heap.size, 0, none⟩ 1 1 [.int .u8 0] rfl rfl (cell_one_new _ _ _) (fun x hx => by simp at hx; subst hx; rfl) (by unfold maxLen; omega) (by omega) (by simp; omega) ?_; intro v' w3 hown' hgrow3))
      go_roundw
      case rel =>
        obtain ⟨g1, cap1, rfl, hg1, hg1', -, -, -⟩ := hown'.shape
        have e2 : bcells (padTo x z 0) ++ [Value.int .u8 0] = bcells (padTo x (z + 1) 0) := by rw [padTo_zero, bcells_app]; rfl
        rw [e2] at hown'
        exact ⟨z + 1, n + 1, g1, cap1, rfl, by have := HN.out; omega, hide (by have := HN.out; omega), hown', (hbel.alloc hsize _).grown hgrow3 (by simp; omega) (fun q hq => (hown.lt q hq).1)⟩
      case measure => obtain ⟨g1, cap1, rfl, -⟩ := hown'.shape; simp [lenOf]; have := HN.out; omega
    · have hze : z = zc x.length := by have := HN.out; omega
      subst hze
      have hne : ((n : Int) % 64 != 56) = false := by
        have := HN.out; unfold zc at this; simp; omega
      have HE : Hid (n = x.length + 1 + zc x.length) := hide HN.out.1
      clear HN hz hzb
      go_wp2_with fail
      go_loopw [3, 5] (fun o sh wr => ∃ (k n g c : Nat), k ≤ 8 ∧ o = .slice (some ⟨g, 0, none⟩) n c ∧ n ≤ 1000200 ∧ sh = .int .i64 (56 - 8 * (k : Int)) ∧ Hid (n = x.length + 1 + zc x.length + k) ∧ OwnT wr w.heap.size 5 o n (bcells (padTo x (zc x.length) k)) ∧ Below w.heap.size w wr)
        (fun _ sh _ => (intOf sh + 8).toNat)
      case atStart => exact ⟨0, n, g, c, by omega, rfl, by omega, rfl, hide (by have := HE.out; omega), hown, hbel⟩
      case round =>
        clear hown hbel hsize hne HE hn
        obtain ⟨k, n, g, c, hk, rfl, hn, rfl, HN, hown, hbel⟩ := hrel
        have hsize := hbel.size
        by_cases hlt : k < 8
        · rcases (show k = 0 ∨ k = 1 ∨ k = 2 ∨ k = 3 ∨ k = 4 ∨ k = 5 ∨ k = 6 ∨ k = 7 from by omega) with rfl | rfl | rfl | rfl | rfl | rfl | rfl | rfl
          all_goals
            go_wp2_with (first
              | (at_builtin; refine wpList_append_T _ rfl _ _ 113 rfl w.heap.size 5 i0 (.int .u8 0) Tryz.underlying113 hi hz0 hz1 hz2 rfl _ _ _ rfl (hown.alloc _) ⟨wr.heap.size, 0, none⟩ 1 1 [_] rfl rfl (cell_one_new _ _ _) (fun x hx => by simp at hx; subst hx; rfl) (by unfold maxLen; omega) (by omega) (by simp; omega) ?_; intro v' w3 hown' hgrow3))
            go_roundw
            case rel =>
              obtain ⟨g1, cap1, rfl, hg1, hg1', -, -, -⟩ := hown'.shape
              have hown2 := own_next hown' (by simp; try omega)
              exact ⟨_, n + 1, g1, cap1, by omega, rfl, by have := HN.out; unfold zc at this; omega, by simp, hide (by have := HN.out; omega), hown2, (hbel.alloc hsize _).grown hgrow3 (by simp; omega) (fun q hq => (hown.lt q hq).1)⟩
            case measure => simp [intOf]
        · obtain rfl : k = 8 := by omega
          have HP : Hid (n = (padB x).length) := hide (by rw [padB_len]; exact HN.out)
          go_wp2_with fail
          go_ret
          exact ⟨_, rfl, by rw [← HP.out]; exact hown, hbel⟩
end Go.Proofs.YtgdmgmklncmanaaGreatDoor
