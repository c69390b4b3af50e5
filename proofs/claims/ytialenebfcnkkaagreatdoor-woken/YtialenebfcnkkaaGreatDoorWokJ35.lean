/- CardFactW -/
import Derived.Test.YtialenebfcnkkaaGreatDoorCards
import Derived.JoinedOf
import Derived.KernelRfl
namespace Go.Proofs.YtialenebfcnkkaaGreatDoor
section
open Go
namespace CardFactW
theorem closed_of {P:Program} {f:FuncId} {fn:Func} {s:ChangeSpec} {c:OpenClaim} (h0:(c.wf (OpenSpec.ofChange s):Bool)=true) (h1:(laidOutB P:Bool)=true) (h2:(mapsRowed P:Bool)=true) (h3:(fn.params.all (P.readableRec ·):Bool)=true) (h4:(namedTie P c.named s.vars:Bool)=true) (h5:((c.stops==[]):Bool)=true) (h6:((P.stops==[]):Bool)=true) (h7:((c.knobs==[]):Bool)=true) (h8:((P.stopKnobs==[]):Bool)=true) (h9:((c.inPlace==P.inPlace f):Bool)=true) (h10:((c.unfollowed==P.unfollowed f):Bool)=true) (h11:((c.recurses==P.recurses f):Bool)=true) (h12:((c.named==P.varsNamed f):Bool)=true) (h13:((c.maps==(fn.params.toList++s.plain.varTypes P).any (P.mapsRec ·)):Bool)=true) (h14:((c.ifaces==(fn.params.toList++s.plain.varTypes P).any (P.ifacesRec ·)):Bool)=true) (h15:((c.mapsOut==P.mapsAmong fn.resultTypes.toList):Bool)=true) (h16:((c.loops==(fn.params.toList++s.plain.varTypes P).any (P.loopsFrom ·)):Bool)=true) (h17:((c.wideKeys==(fn.params.toList++s.plain.varTypes P++fn.resultTypes.toList).any (P.wideKeysFrom ·)):Bool)=true) (h18:(s.vars.all (P.varReadable ·):Bool)=true) (h19:(fn.resultTypes.all (fun t=>P.readableRec t&&decide (t<P.types.size)):Bool)=true) (h20:((c.ifacesOut==fn.resultTypes.toList.any (P.ifacesRec ·)):Bool)=true) (h21:((c.loopsOut==fn.resultTypes.toList.any (P.loopsFrom ·)):Bool)=true) (h22:((c.plainKeys==P.plainKeys):Bool)=true) (h23:(c.shortTexts.isNone:Bool)=true) (h24:(P.stopsHeard:Bool)=true) (h25:(P.mayEnter:Bool)=true) (h26:((c.lifted==P.liftsFinal):Bool)=true) (h27:((P.make==some c.make):Bool)=true) (h28:((c.kinds==(if c.domain.isEmpty then [] else fn.params.toList.map fun t=>match P.underlying t with | some (.int k)=>some k | _=>none)):Bool)=true) (h29:((c.pinned==c.pinnedBy):Bool)=true) (h30:((c.veiled==(fn.params.toList++s.plain.varTypes P++fn.resultTypes.toList).any (P.veiledRec ·)):Bool)=true) (h31:(c.veiledFits P fn.params.toList (fn.params.toList++s.plain.varTypes P++fn.resultTypes.toList):Bool)=true):joinedFacts P f fn s c=true:=by
 unfold joinedFacts
 simp only[Bool.and_eq_true]
 exact ⟨⟨⟨⟨⟨⟨⟨⟨⟨⟨⟨⟨⟨⟨⟨⟨⟨⟨⟨⟨⟨⟨⟨⟨⟨⟨⟨⟨⟨⟨⟨h0,h1⟩,h2⟩,h3⟩,h4⟩,h5⟩,h6⟩,h7⟩,h8⟩,h9⟩,h10⟩,h11⟩,h12⟩,h13⟩,h14⟩,h15⟩,h16⟩,h17⟩,h18⟩,h19⟩,h20⟩,h21⟩,h22⟩,h23⟩,h24⟩,h25⟩,h26⟩,h27⟩,h28⟩,h29⟩,h30⟩,h31⟩
theorem fact0:(Rows.wokenRow.wf (OpenSpec.ofChange Rows.wokenSpec):Bool)=true:=by kernel_rfl
theorem fact1:(laidOutB Tryz.prog:Bool)=true:=by kernel_rfl
theorem fact2:(mapsRowed Tryz.prog:Bool)=true:=by kernel_rfl
theorem fact3:(Tryz.f4.params.all (Tryz.prog.readableRec ·):Bool)=true:=by kernel_rfl
theorem fact4:(namedTie Tryz.prog Rows.wokenRow.named Rows.wokenSpec.vars:Bool)=true:=by kernel_rfl
theorem fact5:((Rows.wokenRow.stops==[]):Bool)=true:=by kernel_rfl
theorem fact6:((Tryz.prog.stops==[]):Bool)=true:=by kernel_rfl
theorem fact7:((Rows.wokenRow.knobs==[]):Bool)=true:=by kernel_rfl
theorem fact8:((Tryz.prog.stopKnobs==[]):Bool)=true:=by kernel_rfl
theorem fact9:((Rows.wokenRow.inPlace==Tryz.prog.inPlace 4):Bool)=true:=by kernel_rfl
theorem fact10:((Rows.wokenRow.unfollowed==Tryz.prog.unfollowed 4):Bool)=true:=by kernel_rfl
theorem fact11:((Rows.wokenRow.recurses==Tryz.prog.recurses 4):Bool)=true:=by kernel_rfl
theorem fact12:((Rows.wokenRow.named==Tryz.prog.varsNamed 4):Bool)=true:=by kernel_rfl
theorem fact13:((Rows.wokenRow.maps==(Tryz.f4.params.toList++Rows.wokenSpec.plain.varTypes Tryz.prog).any (Tryz.prog.mapsRec ·)):Bool)=true:=by kernel_rfl
theorem fact14:((Rows.wokenRow.ifaces==(Tryz.f4.params.toList++Rows.wokenSpec.plain.varTypes Tryz.prog).any (Tryz.prog.ifacesRec ·)):Bool)=true:=by kernel_rfl
theorem fact15:((Rows.wokenRow.mapsOut==Tryz.prog.mapsAmong Tryz.f4.resultTypes.toList):Bool)=true:=by kernel_rfl
theorem fact16:((Rows.wokenRow.loops==(Tryz.f4.params.toList++Rows.wokenSpec.plain.varTypes Tryz.prog).any (Tryz.prog.loopsFrom ·)):Bool)=true:=by kernel_rfl
theorem fact17:((Rows.wokenRow.wideKeys==(Tryz.f4.params.toList++Rows.wokenSpec.plain.varTypes Tryz.prog++Tryz.f4.resultTypes.toList).any (Tryz.prog.wideKeysFrom ·)):Bool)=true:=by kernel_rfl
theorem fact18:(Rows.wokenSpec.vars.all (Tryz.prog.varReadable ·):Bool)=true:=by kernel_rfl
theorem fact19:(Tryz.f4.resultTypes.all (fun t=>Tryz.prog.readableRec t&&decide (t<Tryz.prog.types.size)):Bool)=true:=by kernel_rfl
theorem fact20:((Rows.wokenRow.ifacesOut==Tryz.f4.resultTypes.toList.any (Tryz.prog.ifacesRec ·)):Bool)=true:=by kernel_rfl
theorem fact21:((Rows.wokenRow.loopsOut==Tryz.f4.resultTypes.toList.any (Tryz.prog.loopsFrom ·)):Bool)=true:=by kernel_rfl
theorem fact22:((Rows.wokenRow.plainKeys==Tryz.prog.plainKeys):Bool)=true:=by kernel_rfl
theorem fact23:(Rows.wokenRow.shortTexts.isNone:Bool)=true:=by kernel_rfl
theorem fact24:(Tryz.prog.stopsHeard:Bool)=true:=by kernel_rfl
theorem fact25:(Tryz.prog.mayEnter:Bool)=true:=by kernel_rfl
theorem fact26:((Rows.wokenRow.lifted==Tryz.prog.liftsFinal):Bool)=true:=by kernel_rfl
theorem fact27:((Tryz.prog.make==some Rows.wokenRow.make):Bool)=true:=by kernel_rfl
theorem fact28:((Rows.wokenRow.kinds==(if Rows.wokenRow.domain.isEmpty then [] else Tryz.f4.params.toList.map fun t=>match Tryz.prog.underlying t with | some (.int k)=>some k | _=>none)):Bool)=true:=by kernel_rfl
theorem fact29:((Rows.wokenRow.pinned==Rows.wokenRow.pinnedBy):Bool)=true:=by kernel_rfl
theorem fact30:((Rows.wokenRow.veiled==(Tryz.f4.params.toList++Rows.wokenSpec.plain.varTypes Tryz.prog++Tryz.f4.resultTypes.toList).any (Tryz.prog.veiledRec ·)):Bool)=true:=by kernel_rfl
theorem fact31:(Rows.wokenRow.veiledFits Tryz.prog Tryz.f4.params.toList (Tryz.f4.params.toList++Rows.wokenSpec.plain.varTypes Tryz.prog++Tryz.f4.resultTypes.toList):Bool)=true:=by kernel_rfl
theorem closed:joinedFacts Tryz.prog 4 Tryz.f4 Rows.wokenSpec Rows.wokenRow=true :=
 closed_of (P:=Tryz.prog) fact0 fact1 fact2 fact3 fact4 fact5 fact6 fact7 fact8 fact9 fact10 fact11 fact12 fact13 fact14 fact15 fact16 fact17 fact18 fact19 fact20 fact21 fact22 fact23 fact24 fact25 fact26 fact27 fact28 fact29 fact30 fact31
end CardFactW
end
end Go.Proofs.YtialenebfcnkkaaGreatDoor
