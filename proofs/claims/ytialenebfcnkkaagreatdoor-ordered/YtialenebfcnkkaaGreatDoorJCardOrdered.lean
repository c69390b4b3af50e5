/- For every list of numbers and every number Ordered returns true (havenkeep.Ordered, at the commit that SEAT.json names): on a fresh machine six packages, each of which needs some of those ahead of it in an order made of the numbers, are configured in one transaction each behind all that it needs; without one that is needed nothing is done; it can't be removed alone. The package variables that its row lists are tied to the program's text by the given tie. -/
import Derived.Test.YtialenebfcnkkaaGreatDoorOrdJ34
import Derived.ChangeSlices
import Derived.Carry
import Derived.Test.YtialenebfcnkkaaGreatDoorOrdJ35
import Derived.Test.YtialenebfcnkkaaGreatDoorOrdJ36
namespace Go.Proofs.YtialenebfcnkkaaGreatDoor
open Go.ChangeShapes Go.WideShapes Go.ChangeAt Go.RowKit
namespace pQ
theorem own : ownKnob Tryz.prog.godebug = none := by kernel_rfl
theorem laidOut : laidOutB Tryz.prog = true := by kernel_rfl
theorem RL : Tryz.prog.cellsOf 3 = 1 := by kernel_rfl
theorem full : Rows.orderedRow.laid = CardKeep.Nc := by kernel_rfl
set_option maxRecDepth 100000 in
theorem contract (H : Type) (enc : TypeId × Value → H) (W : World) (base : Nat) (args : Array Value) (ds gs : List (DataW H)) (before : List MemPlace)
    (hval : ∀ (j : Nat) t v, Tryz.f3.params[j]? = some t → args[j]? = some v → Value.okWide Tryz.prog W .any base t v)
    (hW : DataW.Whole enc Tryz.prog Tryz.f3.params.toList Rows.orderedSpec.vars false W args.toList ds gs before)
    (hL : laidMetH Tryz.prog Rows.orderedRow.laid W) (hS : W.ShapedOpen Tryz.prog) :
    Calls Tryz.prog 3 args W fun e W' => ∃ v, e = .returned v ∧ Rows.orderedSpec.post enc Tryz.prog Tryz.f3 false true false false W args v W' := by
  have hW' := hW
  obtain ⟨p, q, hA0, hV, rfl, hfz, hnd⟩ := hW
  have hA : DataW.TrodAll enc Tryz.prog W 0 (fun _ => true) true Tryz.f3.params.toList args.toList ds p := hA0
  rw [Tryz.params3] at hA hval
  obtain ⟨v0, vs0, d0, ds0, p0, q0, hargs, rfl, rfl, h0, r0⟩ := trodAll_cons hA
  obtain ⟨v1, vs1, d1, ds1, p1, q1, rfl, rfl, rfl, h1, r1⟩ := trodAll_cons r0
  obtain ⟨rfl, rfl, rfl⟩ := trodAll_nil r1
  obtain rfl : args = #[v0, v1] := by cases args; simp_all
  obtain ⟨rfl, rfl⟩ := trodVars_none hV
  obtain ⟨m, rfl, rfl, rfl, wm⟩ := open_int Tryz.underlying3 (hval 1 3 v1 rfl rfl) h1
  obtain ⟨a0, len, cap, rfl⟩ := okWide_slice Tryz.underlying22 (hval 0 22 v0 rfl rfl)
  clear hA0
  simp only [List.append_nil] at hW'
  rw [full] at hL
  have hM := CardKeep.met hL
  obtain ⟨x, y, hE⟩ := CardKeep.Wm hM
  have hlt : ∀ x ∈ p0, x.block < W.heap.size := fun x hx => by simpa using hW'.lt x hx
  obtain ⟨rs, h1, h2⟩ : ∃ rs : Nat → Int, (∀ i, i < len → ∃ a : Addr, a0 = some a ∧ -9223372036854775808 ≤ rs i ∧ rs i ≤ 9223372036854775807) ∧ ∀ (a : Addr) i, a0 = some a → i < len → W.cell? (a.add i) = some (.int .i64 (rs i)) := by
    obtain ⟨fuel, hf⟩ := h0
    rcases open_ints Tryz.underlying22 Tryz.underlying3 RL hf with ⟨hcs, hx⟩ | ⟨a, len', cap', zs, hcs, _, hl, hm, hz, hx, hcell, hwz⟩
    · simp [Value.cells] at hcs
      obtain ⟨rfl, rfl, rfl⟩ := hcs
      exact ⟨fun _ => 0, fun i hi => by omega, fun a i _ hi => by omega⟩
    · simp [Value.cells] at hcs
      obtain ⟨rfl, rfl, rfl⟩ := hcs
      have hz' : zs.length = cap := by simpa using hz
      refine ⟨fun i => zs.getD i 0, fun i hi => ⟨a, rfl, ?_⟩, fun a' i e hi => ?_⟩
      · exact CardKeep.wf_i64 (hwz _ (by
          show zs.getD i 0 ∈ zs
          rw [List.getD_eq_getElem?_getD, List.getElem?_eq_getElem (by omega)]
          exact List.getElem_mem _))
      · obtain rfl := Option.some.inj e
        exact hcell i (by omega)
  refine (I6 a0 len cap rs h1 m (CardKeep.wf_i64 wm).1 (CardKeep.wf_i64 wm).2 x y W (CardKeep.base_of hM hS) hE h2).mono fun e W' ⟨he, hg⟩ => ?_
  subst he
  exact ⟨_, rfl, _, _, _, [], p0 ++ [], [], hW', trodAll_cons_mk (shut_bool Tryz.underlying4 _) trodAll_mk0,
    trodAll_cons_mk (Below.trod laidOut (by kernel_rfl) (of_decide_eq_true (by kernel_rfl)) h0 hg hlt) (trodAll_cons_mk (shut_int Tryz.underlying3 wm) trodAll_mk0),
    rfl, hg.frame _, fun h => by cases h⟩
def NM : Array Value := #[.slice none 0 0, .int .i64 0]
theorem SX (os : Os) : laidMetH Tryz.prog Rows.orderedRow.laid ((CardKeep.xu os).forCall (fun _ _ => 0) ⟨#[], NM, []⟩).memory := by
  rw [full]
  exact laidMetH_of_parts (by rw [CardKeep.X6]; exact laidMet_of_run' 8 (by kernel_rfl) (by kernel_rfl)) (by kernel_rfl)
theorem reads (os : Os) {H : Type} (enc : TypeId × Value → H) : ∃ places, DataW.whole enc Tryz.prog ((CardKeep.xu os).forCall (fun _ _ => 0) ⟨#[], NM, []⟩).memory Tryz.f3.params.toList Rows.orderedSpec.vars false NM.toList 8 =
    some ([.nil, .lit (.int .i64 0)], [], places) :=
  ⟨[], by kernel_rfl⟩
set_option maxRecDepth 100000 in
theorem lifted (os : Os) (started : os.Started) (H : Type) (enc : TypeId × Value → H) (F : Stop.Interp) :
    ReturnsInHanded {} Tryz.checked os 3 .any ((OpenSpec.ofChange Rows.orderedSpec).preRow enc Tryz.prog Tryz.f3 Rows.orderedRow.domain false Rows.orderedRow.laid) (((OpenSpec.ofChange Rows.orderedSpec).at F).post enc Tryz.prog Tryz.f3 false true false false) := by
  obtain ⟨places, hx⟩ := reads os enc
  refine returnsInHanded_of_row (C := Tryz.checked) (s := OpenSpec.ofChange Rows.orderedSpec) own started (by kernel_rfl) Tryz.func3
    (witness_row_atRef (enc := enc) (C := Tryz.checked) false (CardKeep.xu os) NM rfl (by kernel_rfl) (by kernel_rfl) (by kernel_rfl)
      (OpenSpec.preRow_of_cond 8 hx (by kernel_rfl) (fun k hk => by cases hk) (by kernel_rfl) (SX os))) ?_
  intro W base args ds gs before hval hW _ _ _ hL hS _
  exact contract H enc W base args ds gs before hval hW hL hS
theorem Ls (os : Os) (started : os.Started) (H : Type) (enc : TypeId × Value → H) (F : Stop.Interp) :
    ReturnsInHanded {} Tryz.checked os 3 .any (Rows.orderedRow.pre enc Tryz.prog Tryz.f3 (OpenSpec.ofChange Rows.orderedSpec)) (((OpenSpec.ofChange Rows.orderedSpec).at F).post enc Tryz.prog Tryz.f3 false true false false) := by
  rw [OpenClaim.pre_eq_preRow]
  exact lifted os started H enc F
set_option maxRecDepth 100000 in
set_option maxHeartbeats 4000000 in
theorem said : Rows.OrderedSaid :=
  OpenClaim.holds_of_cond 3 Tryz.f3 rfl rfl rfl rfl rfl rfl rfl ⟨rfl, rfl, rfl, rfl, rfl⟩ rfl rfl rfl rfl rfl (by as_aux_lemma => kernel_rfl) Tryz.func3 CardFactO.closed
    (of_decide_eq_true (by as_aux_lemma => kernel_rfl)) (by as_aux_lemma => unfold Func.isWrapper; first | (rw [if_pos (by decide +kernel)]; kernel_rfl) | (rw [if_neg (by decide +kernel)]; exact ⟨rfl, rfl⟩))
    (fun os started H enc _ F => Ls os started H enc F)
theorem plain (f : FuncId) (fn : Func) (hf : Tryz.pinned.checked.prog.funcNamed "haven/havenkeep.Ordered" = some f) (hfn : Tryz.pinned.checked.prog.funcs[f]? = some fn) :
    true = Tryz.pinned.checked.prog.looks [] ∧ ∀ (j : Nat) t, fn.params[j]? = some t → Tryz.pinned.checked.prog.wantsStandIn t = false := by
  obtain rfl : f = 3 := Option.some.inj ((show Tryz.prog.funcNamed "haven/havenkeep.Ordered" = some 3 by kernel_rfl).symm.trans hf) |>.symm
  obtain rfl : fn = Tryz.f3 := (Option.some.inj (Tryz.func3.symm.trans hfn)).symm
  refine ⟨by kernel_rfl, fun j t ht => ?_⟩
  rw [Tryz.params3] at ht
  have hm : t ∈ [22, 3] := by
    have := Array.mem_of_getElem? ht
    simpa using this
  have hall : ([22, 3].all fun u => !Tryz.prog.wantsStandIn u) = true := by kernel_rfl
  exact (show Tryz.prog.wantsStandIn t = false by simpa using List.all_eq_true.1 hall t hm)
end pQ
theorem ordered_card : Rows.OrderedCardSaid :=
  Claim7.holds_tied_plain_at .later [] _ _ _ _ pQ.said (fun _ h => by cases h) (by kernel_rfl) (fun _ h => by cases h) ordered_row_tie rfl ⟨rfl, rfl⟩ (by kernel_rfl) rfl pQ.plain (by kernel_rfl)
end Go.Proofs.YtialenebfcnkkaaGreatDoor
