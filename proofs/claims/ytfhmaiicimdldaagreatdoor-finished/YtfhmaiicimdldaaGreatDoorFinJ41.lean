import Derived.Test.YtfhmaiicimdldaaGreatDoorFinJ0
import Derived.Test.YtfhmaiicimdldaaGreatDoorCards
import Derived.JoinedOf
namespace Go.Proofs.YtfhmaiicimdldaaGreatDoor
section
open Go
namespace CardFactF
theorem agf {P:Program} {f:FuncId} {fn:Func} {s:ChangeSpec} {c:OpenClaim} (h0:(c.wf (OpenSpec.ofChange s):Bool)=true) (h1:(laidOutB P:Bool)=true) (h2:(mapsRowed P:Bool)=true) (h3:(fn.params.all (P.readableRec ·):Bool)=true) (h4:(namedTie P c.named s.vars:Bool)=true) (h5:((c.stops==[]):Bool)=true) (h6:((P.stops==[]):Bool)=true) (h7:((c.knobs==[]):Bool)=true) (h8:((P.stopKnobs==[]):Bool)=true) (h9:((c.inPlace==P.inPlace f):Bool)=true) (h10:((c.unfollowed==P.unfollowed f):Bool)=true) (h11:((c.recurses==P.recurses f):Bool)=true) (h12:((c.named==P.varsNamed f):Bool)=true) (h13:((c.maps==(fn.params.toList++s.plain.varTypes P).any (P.mapsRec ·)):Bool)=true) (h14:((c.ifaces==(fn.params.toList++s.plain.varTypes P).any (P.ifacesRec ·)):Bool)=true) (h15:((c.mapsOut==P.mapsAmong fn.resultTypes.toList):Bool)=true) (h16:((c.loops==(fn.params.toList++s.plain.varTypes P).any (P.loopsFrom ·)):Bool)=true) (h17:((c.wideKeys==(fn.params.toList++s.plain.varTypes P++fn.resultTypes.toList).any (P.wideKeysFrom ·)):Bool)=true) (h18:(s.vars.all (P.varReadable ·):Bool)=true) (h19:(fn.resultTypes.all (fun t=>P.readableRec t&&decide (t<P.types.size)):Bool)=true) (h20:((c.ifacesOut==fn.resultTypes.toList.any (P.ifacesRec ·)):Bool)=true) (h21:((c.loopsOut==fn.resultTypes.toList.any (P.loopsFrom ·)):Bool)=true) (h22:((c.plainKeys==P.plainKeys):Bool)=true) (h23:(c.shortTexts.isNone:Bool)=true) (DB:(P.stopsHeard:Bool)=true) (h25:(P.mayEnter:Bool)=true) (h26:((c.lifted==P.liftsFinal):Bool)=true) (h27:((P.make==some c.make):Bool)=true) (Gq:((c.kinds==(if c.domain.isEmpty then [] else fn.params.toList.map fun t=>match P.underlying t with | some (.int k)=>some k | _=>none)):Bool)=true) (Gs:((c.pinned==c.pinnedBy):Bool)=true) (Gx:((c.veiled==(fn.params.toList++s.plain.varTypes P++fn.resultTypes.toList).any (P.veiledRec ·)):Bool)=true) (Gy:(c.veiledFits P fn.params.toList (fn.params.toList++s.plain.varTypes P++fn.resultTypes.toList):Bool)=true):joinedFacts P f fn s c=true:=by
 unfold joinedFacts;simp only[Bool.and_eq_true];exact ⟨⟨⟨⟨⟨⟨⟨⟨⟨⟨⟨⟨⟨⟨⟨⟨⟨⟨⟨⟨⟨⟨⟨⟨⟨⟨⟨⟨⟨⟨⟨h0,h1⟩,h2⟩,h3⟩,h4⟩,h5⟩,h6⟩,h7⟩,h8⟩,h9⟩,h10⟩,h11⟩,h12⟩,h13⟩,h14⟩,h15⟩,h16⟩,h17⟩,h18⟩,h19⟩,h20⟩,h21⟩,h22⟩,h23⟩,DB⟩,h25⟩,h26⟩,h27⟩,Gq⟩,Gs⟩,Gx⟩,Gy⟩
theorem amM:(Rows.finishedRow.wf (OpenSpec.ofChange Rows.finishedSpec):Bool)=true:=by kernel_rfl
theorem amN:(laidOutB Tryz.prog:Bool)=true:=by kernel_rfl
theorem amO:(mapsRowed Tryz.prog:Bool)=true:=by kernel_rfl
theorem amP:(Tryz.f3.params.all (Tryz.prog.readableRec ·):Bool)=true:=by kernel_rfl
theorem amQ:(namedTie Tryz.prog Rows.finishedRow.named Rows.finishedSpec.vars:Bool)=true:=by kernel_rfl
theorem amR:((Rows.finishedRow.stops==[]):Bool)=true:=by kernel_rfl
theorem amS:((Tryz.prog.stops==[]):Bool)=true:=by kernel_rfl
theorem amT:((Rows.finishedRow.knobs==[]):Bool)=true:=by kernel_rfl
theorem amU:((Tryz.prog.stopKnobs==[]):Bool)=true:=by kernel_rfl
theorem amV:((Rows.finishedRow.inPlace==Tryz.prog.inPlace 3):Bool)=true:=by kernel_rfl
theorem alG:((Rows.finishedRow.unfollowed==Tryz.prog.unfollowed 3):Bool)=true:=by kernel_rfl
theorem alH:((Rows.finishedRow.recurses==Tryz.prog.recurses 3):Bool)=true:=by kernel_rfl
theorem alI:((Rows.finishedRow.named==Tryz.prog.varsNamed 3):Bool)=true:=by kernel_rfl
theorem alJ:((Rows.finishedRow.maps==(Tryz.f3.params.toList++Rows.finishedSpec.plain.varTypes Tryz.prog).any (Tryz.prog.mapsRec ·)):Bool)=true:=by kernel_rfl
theorem alK:((Rows.finishedRow.ifaces==(Tryz.f3.params.toList++Rows.finishedSpec.plain.varTypes Tryz.prog).any (Tryz.prog.ifacesRec ·)):Bool)=true:=by kernel_rfl
theorem alL:((Rows.finishedRow.mapsOut==Tryz.prog.mapsAmong Tryz.f3.resultTypes.toList):Bool)=true:=by kernel_rfl
theorem alM:((Rows.finishedRow.loops==(Tryz.f3.params.toList++Rows.finishedSpec.plain.varTypes Tryz.prog).any (Tryz.prog.loopsFrom ·)):Bool)=true:=by kernel_rfl
theorem alN:((Rows.finishedRow.wideKeys==(Tryz.f3.params.toList++Rows.finishedSpec.plain.varTypes Tryz.prog++Tryz.f3.resultTypes.toList).any (Tryz.prog.wideKeysFrom ·)):Bool)=true:=by kernel_rfl
theorem alO:(Rows.finishedSpec.vars.all (Tryz.prog.varReadable ·):Bool)=true:=by kernel_rfl
theorem alP:(Tryz.f3.resultTypes.all (fun t=>Tryz.prog.readableRec t&&decide (t<Tryz.prog.types.size)):Bool)=true:=by kernel_rfl
theorem alQ:((Rows.finishedRow.ifacesOut==Tryz.f3.resultTypes.toList.any (Tryz.prog.ifacesRec ·)):Bool)=true:=by kernel_rfl
theorem alR:((Rows.finishedRow.loopsOut==Tryz.f3.resultTypes.toList.any (Tryz.prog.loopsFrom ·)):Bool)=true:=by kernel_rfl
theorem alS:((Rows.finishedRow.plainKeys==Tryz.prog.plainKeys):Bool)=true:=by kernel_rfl
theorem alT:(Rows.finishedRow.shortTexts.isNone:Bool)=true:=by kernel_rfl
theorem alU:(Tryz.prog.stopsHeard:Bool)=true:=by kernel_rfl
theorem alV:(Tryz.prog.mayEnter:Bool)=true:=by kernel_rfl
theorem alW:((Rows.finishedRow.lifted==Tryz.prog.liftsFinal):Bool)=true:=by kernel_rfl
theorem alX:((Tryz.prog.make==some Rows.finishedRow.make):Bool)=true:=by kernel_rfl
theorem alY:((Rows.finishedRow.kinds==(if Rows.finishedRow.domain.isEmpty then [] else Tryz.f3.params.toList.map fun t=>match Tryz.prog.underlying t with | some (.int k)=>some k | _=>none)):Bool)=true:=by kernel_rfl
theorem alZ:((Rows.finishedRow.pinned==Rows.finishedRow.pinnedBy):Bool)=true:=by kernel_rfl
theorem al0:((Rows.finishedRow.veiled==(Tryz.f3.params.toList++Rows.finishedSpec.plain.varTypes Tryz.prog++Tryz.f3.resultTypes.toList).any (Tryz.prog.veiledRec ·)):Bool)=true:=by kernel_rfl
theorem al1:(Rows.finishedRow.veiledFits Tryz.prog Tryz.f3.params.toList (Tryz.f3.params.toList++Rows.finishedSpec.plain.varTypes Tryz.prog++Tryz.f3.resultTypes.toList):Bool)=true:=by kernel_rfl
theorem closed:joinedFacts Tryz.prog 3 Tryz.f3 Rows.finishedSpec Rows.finishedRow=true :=
 agf (P:=Tryz.prog) amM amN amO amP amQ amR amS amT amU amV alG alH alI alJ alK alL alM alN alO alP alQ alR alS alT alU alV alW alX alY alZ al0 al1
end CardFactF
end
end Go.Proofs.YtfhmaiicimdldaaGreatDoor
