/- For every text Inspects returns true, and the text reads as it did (havenlaw.Inspects, at the commit that SEAT.json names): what the program says of a text as an archive is what the document's own reading says of it; the list that it gave out, written full and appended to by its owner, is its owner's, and a second answer is as the first; ahead of it the document's first examples hold. The package variables that its row lists are tied to the program's text by the given tie; of them only the 64 numbers of the digest's rounds are used. -/
import Derived.Test.YtgdmgmklncmanaaGreatDoorCards
import Derived.Test.YtgdmgmklncmanaaGreatDoorTie
import Derived.Test.YtgdmgmklncmanaaGreatDoorIns39
import Derived.ProofKit
import Derived.OpenShut
import Derived.Deep.DeepHandedRow
import Derived.Deep.DeepWitnessRowRef
import Derived.Lib.LaidTab
import Derived.Lib.LaidU8
import Derived.Shelf.Vars
namespace Go.Proofs.YtgdmgmklncmanaaGreatDoor
open Go.ChangeShapes Go.WideShapes Go.ChangeAt Go.RowKit
open Go.ChangeMaps (open_string shut_string)
namespace CardInspects

theorem own : ownKnob Tryz.prog.godebug = none := by kernel_rfl
theorem noHandles : (Rows.inspectsRow.laid.filter fun x => x.2.handleName?.isSome) = [] := by kernel_rfl
theorem plainLaid {W : World} (h : laidMetH Tryz.prog Rows.inspectsRow.laid W) : laidMet Tryz.prog Rows.inspectsRow.laid W := by
  unfold laidMetH at h
  rw [noHandles] at h
  exact h
theorem cellsRow : Tryz.prog.cellsOf 178 = 64 := by kernel_rfl
theorem cellsOne : Tryz.prog.cellsOf 110 = 1 := by kernel_rfl
theorem tabRounds : (Rows.laid_haven_digest_roundConstants : DataW Unit) = Lib.tabData .u32 kList := by kernel_rfl
theorem rounds_cells {W : World} (h : laidMetH Tryz.prog Rows.inspectsRow.laid W) : ∀ i : Nat, i < 64 → W.cell? ⟨3, i, none⟩ = some (.int .u32 (kTab i)) := by
  obtain ⟨ps, hv, -, -⟩ := plainLaid h
  obtain ⟨g, t, cs, fuel, p, hg, hty, hvar, hd⟩ := Lib.LaidVars_reads hv "haven/digest.roundConstants" Rows.laid_haven_digest_roundConstants (.tail _ (.tail _ (.head _)))
  obtain rfl := Option.some.inj ((show Tryz.prog.globalNamed "haven/digest.roundConstants" = some 3 by kernel_rfl).symm.trans hg)
  obtain rfl := Option.some.inj ((show (Tryz.prog.globals[3]?).map (·.type) = some 178 by kernel_rfl).symm.trans hty)
  rw [tabRounds] at hd
  have hcs := Lib.cells_of_tab Tryz.underlying178 Tryz.underlying110 cellsOne cellsRow hd
  intro i hi
  have := World.var?_cell hg hvar i
  rw [this, ← Array.getElem?_toList, hcs]
  have hl : kList.length = 64 := rfl
  simp [kTab, List.getD, List.getElem?_eq_getElem (show i < kList.length by omega)]
theorem max_cell {W : World} (h : W.ShapedOpen Tryz.prog) : ∃ m, W.cell? ⟨0, 0, none⟩ = some (.int .i64 m) :=
  Go.Proofs.cell_of_shapedOpen_int (zero := #[.int .i64 0]) (t := 3) h (of_decide_eq_true (by kernel_rfl)) (by kernel_rfl) rfl (by kernel_rfl) (by kernel_rfl) Tryz.underlying3
theorem many_blocks {W : World} (h : W.ShapedOpen Tryz.prog) : 9 ≤ W.heap.size := by
  obtain ⟨cs, hh, -, -⟩ := h.1 8 (Array.replicate 64 (.int .u8 0)) 208 (of_decide_eq_true (by kernel_rfl)) (by kernel_rfl)
  have := (Array.getElem?_eq_some_iff.1 hh).1
  omega

set_option maxRecDepth 100000 in
theorem contract (H : Type) (enc : TypeId × Value → H) (W : World) (base : Nat) (args : Array Value) (ds gs : List (DataW H)) (before : List MemPlace)
    (hval : ∀ (j : Nat) t v, Tryz.f4.params[j]? = some t → args[j]? = some v → Value.okWide Tryz.prog W .any base t v)
    (hW : DataW.Whole enc Tryz.prog Tryz.f4.params.toList Rows.inspectsSpec.vars false W args.toList ds gs before)
    (hL : laidMetH Tryz.prog Rows.inspectsRow.laid W) (hS : W.ShapedOpen Tryz.prog) :
    Calls Tryz.prog 4 args W fun e W' => ∃ v, e = .returned v ∧ Rows.inspectsSpec.post enc Tryz.prog Tryz.f4 false true false false W args v W' := by
  have hW' := hW
  obtain ⟨p, q, hA0, hV, rfl, hfz, hnd⟩ := hW
  have hA : DataW.TrodAll enc Tryz.prog W 0 (fun _ => true) true Tryz.f4.params.toList args.toList ds p := hA0
  rw [Tryz.params4] at hA hval
  obtain ⟨v0, vs0, d0, ds0, p0, q0, hargs, rfl, rfl, h0, r0⟩ := trodAll_cons hA
  obtain ⟨rfl, rfl, rfl⟩ := trodAll_nil r0
  obtain rfl : args = #[v0] := by cases args; simp_all
  obtain ⟨rfl, rfl⟩ := trodVars_none hV
  obtain ⟨a, rfl, rfl, rfl, ha⟩ := open_string Tryz.underlying9 (hval 0 9 v0 rfl rfl) h0
  clear hA0
  simp only [List.append_nil] at hW'
  obtain ⟨mx, hm⟩ := max_cell hS
  refine (inspects_any a.data.toList mx W (many_blocks hS) hm (rounds_cells hL)).mono fun e W' ⟨he, hg⟩ => ?_
  subst he
  exact ⟨_, rfl, _, _, _, [], [], [], hW', trodAll_cons_mk (shut_bool Tryz.underlying4 _) trodAll_mk0,
    trodAll_cons_mk (shut_string Tryz.underlying9 ha) trodAll_mk0,
    rfl, hg.frame _, fun h => by cases h⟩

/-- A world for the witness: the tables as they are listed, the two errors in blocks of their own. -/
def flat {H : Type} : Nat → List (DataW H) → List Value
  | 0, _ => []
  | _ + 1, [] => []
  | n + 1, .lit (.int k x) :: l => .int k x :: flat n l
  | n + 1, .agg l' :: l => flat n (l' ++ l)
  | n + 1, _ :: l => flat n l
def laidIn (cs : List Value) : Obj → Obj
  | .cells _ t frozen => .cells cs.toArray t frozen
  | o => o
noncomputable def low : Nat := (World.holding Tryz.prog default ⟨#[], #[], []⟩).heap.size
noncomputable def laidWorld (os : Os) : World :=
  let w0 := World.holding Tryz.prog os ⟨#[.cells #[.string ⟨#[118, 97, 108, 117, 101, 32, 111, 117, 116, 32, 111, 102, 32, 114, 97, 110, 103, 101]⟩] 196, .cells #[.string ⟨#[105, 110, 118, 97, 108, 105, 100, 32, 115, 121, 110, 116, 97, 120]⟩] 196], #[], []⟩
  { w0 with heap := (((((((w0.heap.modify 1 (laidIn (flat 1000 [Rows.laid_unicode_utf8_first]))).modify 2 (laidIn (flat 1000 [Rows.laid_unicode_utf8_acceptRanges (H := Unit)]))).modify
      3 (laidIn (flat 1000 [Rows.laid_haven_digest_roundConstants (H := Unit)]))).modify 6 (laidIn (flat 1000 [Rows.laid_internal_strconv_uint64pow10 (H := Unit)]))).modify
      7 (laidIn (flat 1000 [Rows.laid_math_bits_deBruijn32tab (H := Unit)]))).modify 8 (laidIn (flat 1000 [Rows.laid_math_bits_deBruijn64tab (H := Unit)]))).modify
      5 (laidIn [.iface 194 (.pointer (some ⟨low, 0, none⟩))])).modify 4 (laidIn [.iface 194 (.pointer (some ⟨low + 1, 0, none⟩))]) }
def wargs : Array Value := #[.string ⟨#[]⟩]
theorem laid_met (os : Os) : laidMet Tryz.prog Rows.inspectsRow.laid ((laidWorld os).forCall (fun _ _ => 0) ⟨#[], wargs, []⟩).memory :=
  laidMet_of_run' 8 (by kernel_rfl) (by kernel_rfl)
theorem reads (os : Os) {H : Type} (enc : TypeId × Value → H) : ∃ places, DataW.whole enc Tryz.prog ((laidWorld os).forCall (fun _ _ => 0) ⟨#[], wargs, []⟩).memory Tryz.f4.params.toList Rows.inspectsSpec.vars false wargs.toList 8 =
    some ([.lit (.string [])], [], places) :=
  ⟨[], by kernel_rfl⟩

set_option maxRecDepth 100000 in
theorem lifted (os : Os) (started : os.Started) (H : Type) (enc : TypeId × Value → H) (F : Stop.Interp) :
    ReturnsInHanded {} Tryz.checked os 4 .any ((OpenSpec.ofChange Rows.inspectsSpec).preRow enc Tryz.prog Tryz.f4 Rows.inspectsRow.domain false Rows.inspectsRow.laid) (((OpenSpec.ofChange Rows.inspectsSpec).at F).post enc Tryz.prog Tryz.f4 false true false false) := by
  obtain ⟨places, hx⟩ := reads os enc
  refine returnsInHanded_of_row (C := Tryz.checked) (s := OpenSpec.ofChange Rows.inspectsSpec) own started (by kernel_rfl) Tryz.func4
    (witness_row_atRef (enc := enc) (C := Tryz.checked) false (laidWorld os) wargs rfl (by kernel_rfl) (by kernel_rfl) (by kernel_rfl)
      (OpenSpec.preRow_of_cond 8 hx (by kernel_rfl) (fun k hk => by cases hk) (by kernel_rfl) (laid_met os))) ?_
  intro W base args ds gs before hval hW _ _ _ hL hS _
  exact contract H enc W base args ds gs before hval hW hL hS

theorem said : Rows.InspectsSaid :=
  OpenClaim.holds_of_cond 4 Tryz.f4 rfl rfl rfl rfl rfl rfl rfl ⟨rfl, rfl, rfl, rfl, rfl⟩ rfl rfl rfl rfl rfl (by kernel_rfl) Tryz.func4 (by kernel_rfl)
    (of_decide_eq_true (by kernel_rfl)) (by unfold Func.isWrapper; first | (rw [if_pos (by decide +kernel)]; kernel_rfl) | (rw [if_neg (by decide +kernel)]; exact ⟨rfl, rfl⟩))
    (fun os started H enc _ F => by rw [OpenClaim.pre_eq_preRow]; exact lifted os started H enc F)

theorem plain (f : FuncId) (fn : Func) (hf : Tryz.pinned.checked.prog.funcNamed "haven/havenlaw.Inspects" = some f) (hfn : Tryz.pinned.checked.prog.funcs[f]? = some fn) :
    true = Tryz.pinned.checked.prog.looks [] ∧ ∀ (j : Nat) t, fn.params[j]? = some t → Tryz.pinned.checked.prog.wantsStandIn t = false := by
  obtain rfl : f = 4 := Option.some.inj ((show Tryz.prog.funcNamed "haven/havenlaw.Inspects" = some 4 by kernel_rfl).symm.trans hf) |>.symm
  obtain rfl : fn = Tryz.f4 := (Option.some.inj (Tryz.func4.symm.trans hfn)).symm
  refine ⟨by kernel_rfl, fun j t ht => ?_⟩
  rw [Tryz.params4] at ht
  have hm : t ∈ [9] := by
    have := Array.mem_of_getElem? ht
    simp at this ⊢; omega
  have hall : ([9].all fun u => !Tryz.prog.wantsStandIn u) = true := by kernel_rfl
  exact (show Tryz.prog.wantsStandIn t = false by simpa using List.all_eq_true.1 hall t hm)
end CardInspects

theorem inspects_card : Rows.InspectsCardSaid :=
  Claim7.holds_tied_plain_at .later [] _ _ _ _ CardInspects.said (fun _ h => by cases h) (by kernel_rfl) (fun _ h => by cases h) inspects_row_tie rfl ⟨rfl, rfl⟩ (by kernel_rfl) rfl CardInspects.plain (by kernel_rfl)
#print axioms inspects_card
end Go.Proofs.YtgdmgmklncmanaaGreatDoor
