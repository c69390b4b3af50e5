/- Proved: havenkeep.Finished returns true at every input, with the package variables as the program's text lays them: transactions cut off anywhere, and their ends, leave in the end what would be there had nothing happened. -/
import Derived.Test.YtfhmaiicimdldaaGreatDoorFinJ38
import Derived.Test.YtfhmaiicimdldaaGreatDoorFinJ40
import Derived.Test.YtfhmaiicimdldaaGreatDoorFinJ41
namespace Go.Proofs.YtfhmaiicimdldaaGreatDoor
open Go.ChangeShapes Go.WideShapes Go.ChangeAt Go.RowKit
namespace Ob
theorem own : ownKnob Tryz.prog.godebug = none := by kernel_rfl
theorem laidOut : laidOutB Tryz.prog = true := by kernel_rfl
theorem Qt : Tryz.prog.cellsOf 3 = 1 := by kernel_rfl
theorem ah2 : Tryz.prog.cellsOf 35 = 2 := by kernel_rfl
theorem ah3 : Tryz.prog.cellsOf 37 = 4 := by kernel_rfl
set_option maxRecDepth 100000 in
theorem contract (H : Type) (enc : TypeId × Value -> H) (W : World) (base : Nat) (args : Array Value) (ds gs : List (DataW H)) (before : List MemPlace)
 (hval : ∀ (j : Nat) t v, Tryz.f3.params[j]? = some t -> args[j]? = some v -> Value.okWide Tryz.prog W .any base t v)
 (hW : DataW.Whole enc Tryz.prog Tryz.f3.params.toList Rows.finishedSpec.vars false W args.toList ds gs before)
 (hL : laidMetH Tryz.prog Rows.finishedRow.laid W) (hS : W.ShapedOpen Tryz.prog) :
 Calls Tryz.prog 3 args W fun e W' => ∃ v, e = .returned v /\ Rows.finishedSpec.post enc Tryz.prog Tryz.f3 false true false false W args v W' := by
 have hW' := hW;obtain ⟨p, q, DF, hV, rfl, hfz, hnd⟩ := hW;have hA : DataW.TrodAll enc Tryz.prog W 0 (fun _ => true) true Tryz.f3.params.toList args.toList ds p := DF;rw [Tryz.params3] at hA hval;obtain ⟨v0, JS, d0, ds0, p0, q0, hargs, rfl, rfl, h0, r0⟩ := trodAll_cons hA;obtain ⟨v1, vs1, d1, ds1, p1, q1, rfl, rfl, rfl, h1, r1⟩ := trodAll_cons r0;obtain ⟨rfl, rfl, rfl⟩ := trodAll_nil r1;obtain rfl : args = #[v0, v1] := by cases args; simp_all
 obtain ⟨rfl, rfl⟩ := trodVars_none hV;obtain ⟨a0, na, ca, rfl⟩ := okWide_slice Tryz.underlying22 (hval 0 22 v0 rfl rfl);obtain ⟨a1, nc, cc, rfl⟩ := okWide_slice Tryz.underlying23 (hval 1 23 v1 rfl rfl);clear DF;simp only [List.append_nil] at hW';rw [full] at hL;have hM := CardKeep.met hL;obtain ⟨x, y, hE⟩ := CardKeep.ake hM;have qX : ∀ z ∈ p0, z.block < W.heap.size := fun z hz => hW'.lt z (by simp [hz])
 have mX : ∀ z ∈ p1, z.block < W.heap.size := fun z hz => hW'.lt z (by simp [hz])
 obtain ⟨Z, hZ⟩ : ∃ Z : Nat -> Nat -> Int, ∀ i, i < na -> ∀ j, j < 2 -> ∃ a, a0 = some a /\ W.cell? (a.add (i * 2 + j)) = some (.int .i64 (Z i j)) /\ (Lit.int .i64 (Z i j)).wf = true := by
  obtain ⟨fuel, hf⟩ := h0;exact open_row Tryz.underlying22 Tryz.underlying35 ah2 rfl (fun j f q => by
   match j with
   | 0 => cases q; exact ⟨rfl, Qt, I1⟩
   | 1 => cases q; exact ⟨rfl, Qt, I1⟩
   | n + 2 => cases q) hf
 obtain ⟨Y, hY⟩ : ∃ Y : Nat -> Nat -> Int, ∀ i, i < nc -> ∀ j, j < 4 -> ∃ a, a1 = some a /\ W.cell? (a.add (i * 4 + j)) = some (.int .i64 (Y i j)) /\ (Lit.int .i64 (Y i j)).wf = true := by
  obtain ⟨fuel, hf⟩ := h1;exact open_row Tryz.underlying23 Tryz.underlying37 ah3 rfl (fun j f q => by
   match j with
   | 0 => cases q; exact ⟨rfl, Qt, I1⟩
   | 1 => cases q; exact ⟨rfl, Qt, I1⟩
   | 2 => cases q; exact ⟨rfl, Qt, I1⟩
   | 3 => cases q; exact ⟨rfl, Qt, I1⟩
   | n + 4 => cases q) hf
 have GA : abx W a0 na (fun i => Z i 0) (fun i => Z i 1) := fun i hi => by
  obtain ⟨a, rfl, k1, k2⟩ := hZ i hi 0 (by omega);obtain ⟨a', e, k3, k4⟩ := hZ i hi 1 (by omega);cases e;exact ⟨a, rfl, k1, k3, CardKeep.wf_i64 k2, CardKeep.wf_i64 k4⟩
 have yA : aby W a1 nc (fun i j => if j < 4 then Y i j else 0) := fun i hi => by
  obtain ⟨a, rfl, k0, w0⟩ := hY i hi 0 (by omega);obtain ⟨b1, e1, k1, w1⟩ := hY i hi 1 (by omega);obtain ⟨b2, e2, k2, w2⟩ := hY i hi 2 (by omega);obtain ⟨b3, e3, k3, w3⟩ := hY i hi 3 (by omega);cases e1; cases e2; cases e3;refine ⟨a, rfl, k0, k1, k2, k3, fun j => ?_⟩;have hj : j = 0 \/ j = 1 \/ j = 2 \/ j = 3 \/ ¬ j < 4 := by omega
  rcases hj with rfl | rfl | rfl | rfl | hj
  · exact CardKeep.wf_i64 w0
  · exact CardKeep.wf_i64 w1
  · exact CardKeep.wf_i64 w2
  · exact CardKeep.wf_i64 w3
  · simp only [Bm hj]; omega
 have GL : Ph W.heap.size x y W := by
  obtain ⟨c0, t0, q0⟩ := hE.atA;obtain ⟨c1, t1, q1⟩ := hE.atB;exact ⟨CardKeep.base_of hM hS, hE, akd hL, CardKeep.Wm hS, blt q0, blt q1, AC _⟩
 refine (aaV a0 a1 na ca nc cc _ _ _ x y W GA yA GL).mono fun e W' ⟨he, hg⟩ => ?_
 subst he;exact ⟨_, rfl, _, _, _, [], p0 ++ (p1 ++ []), [], hW', trodAll_cons_mk (shut_bool I2 _) trodAll_mk0,
  trodAll_cons_mk (Below.trod laidOut (by kernel_rfl) (of_decide_eq_true (by kernel_rfl)) h0 hg qX) (trodAll_cons_mk (Below.trod laidOut (by kernel_rfl) (of_decide_eq_true (by kernel_rfl)) h1 hg mX) trodAll_mk0),
  rfl, hg.frame _, fun h => by cases h⟩
def afT : Array Value := #[.slice none 0 0, .slice none 0 0]
theorem aiB (os : Os) : laidMetH Tryz.prog Rows.finishedRow.laid ((CardKeep.Vn os).forCall (fun _ _ => 0) ⟨#[], afT, []⟩).memory := by
 rw [full];exact laidMetH_of_parts (by rw [CardKeep.ali]; exact laidMet_of_run' 8 (by kernel_rfl) (by kernel_rfl)) (by kernel_rfl)
theorem reads (os : Os) {H : Type} (enc : TypeId × Value -> H) : ∃ places, DataW.whole enc Tryz.prog ((CardKeep.Vn os).forCall (fun _ _ => 0) ⟨#[], afT, []⟩).memory Tryz.f3.params.toList Rows.finishedSpec.vars false afT.toList 8 =
 some ([.nil, .nil], [], places) :=
 ⟨[], by kernel_rfl⟩
set_option maxRecDepth 100000 in
theorem lifted (os : Os) (started : os.Started) (H : Type) (enc : TypeId × Value -> H) (F : Stop.Interp) :
 ReturnsInHanded {} Tryz.checked os 3 .any ((OpenSpec.ofChange Rows.finishedSpec).preRow enc Tryz.prog Tryz.f3 Rows.finishedRow.domain false Rows.finishedRow.laid) (((OpenSpec.ofChange Rows.finishedSpec).at F).post enc Tryz.prog Tryz.f3 false true false false) := by
 obtain ⟨places, hx⟩ := reads os enc;refine returnsInHanded_of_row (C := Tryz.checked) (s := OpenSpec.ofChange Rows.finishedSpec) own started (by kernel_rfl) Tryz.func3
  (witness_row_atRef (enc := enc) (C := Tryz.checked) false (CardKeep.Vn os) afT rfl (by kernel_rfl) (by kernel_rfl) (by kernel_rfl)
   (OpenSpec.preRow_of_cond 8 hx (by kernel_rfl) (fun k hk => by cases hk) (by kernel_rfl) (aiB os))) ?_
 intro W base args ds gs before hval hW _ _ _ hL hS _;exact contract H enc W base args ds gs before hval hW hL hS
theorem aeh (os : Os) (started : os.Started) (H : Type) (enc : TypeId × Value -> H) (F : Stop.Interp) :
 ReturnsInHanded {} Tryz.checked os 3 .any (Rows.finishedRow.pre enc Tryz.prog Tryz.f3 (OpenSpec.ofChange Rows.finishedSpec)) (((OpenSpec.ofChange Rows.finishedSpec).at F).post enc Tryz.prog Tryz.f3 false true false false) := by
 rw [OpenClaim.pre_eq_preRow];exact lifted os started H enc F
set_option maxRecDepth 100000 in
set_option maxHeartbeats 4000000 in
theorem said : Rows.FinishedSaid :=
 OpenClaim.holds_of_cond 3 Tryz.f3 rfl rfl rfl rfl rfl rfl rfl ⟨rfl, rfl, rfl, rfl, rfl⟩ rfl rfl rfl rfl rfl (by as_aux_lemma => kernel_rfl) Tryz.func3 CardFactF.closed
  (of_decide_eq_true (by as_aux_lemma => kernel_rfl)) (by as_aux_lemma => unfold Func.isWrapper; first | (rw [By (by decide +kernel)]; kernel_rfl) | (rw [Bm (by decide +kernel)]; exact ⟨rfl, rfl⟩))
  (fun os started H enc _ F => aeh os started H enc F)
theorem plain (f : FuncId) (fn : Func) (hf : Tryz.pinned.checked.prog.funcNamed "haven/havenkeep.Finished" = some f) (hfn : Tryz.pinned.checked.prog.funcs[f]? = some fn) :
 true = Tryz.pinned.checked.prog.looks [] /\ ∀ (j : Nat) t, fn.params[j]? = some t -> Tryz.pinned.checked.prog.wantsStandIn t = false := by
 obtain rfl : f = 3 := Cd ((show Tryz.prog.funcNamed "haven/havenkeep.Finished" = some 3 by kernel_rfl).symm.trans hf) |>.symm;obtain rfl : fn = Tryz.f3 := (Cd (Tryz.func3.symm.trans hfn)).symm;refine ⟨by kernel_rfl, fun j t ht => ?_⟩;rw [Tryz.params3] at ht;have hm : t ∈ [22, 23] := by
  have := Array.mem_of_getElem? ht;simpa using this
 have hall : ([22, 23].all fun u => !Tryz.prog.wantsStandIn u) = true := by kernel_rfl
 exact (show Tryz.prog.wantsStandIn t = false by simpa using List.all_eq_true.1 hall t hm)
end Ob
theorem finished_card : Rows.FinishedCardSaid :=
 Claim7.holds_tied_plain_at .later [] _ _ _ _ Ob.said (fun _ h => by cases h) (by kernel_rfl) (fun _ h => by cases h) finished_row_tie rfl ⟨rfl, rfl⟩ (by kernel_rfl) rfl Ob.plain (by kernel_rfl)
end Go.Proofs.YtfhmaiicimdldaaGreatDoor
