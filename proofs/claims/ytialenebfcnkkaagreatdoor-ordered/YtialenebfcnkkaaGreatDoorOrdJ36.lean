/- CardFactO -/
import Derived.Test.YtialenebfcnkkaaGreatDoorCards
import Derived.JoinedOf
import Derived.KernelRfl
namespace Go.Proofs.YtialenebfcnkkaaGreatDoor
section
open Go
namespace CardFactO
theorem Ox {P:Program} {f:FuncId} {fn:Func} {s:ChangeSpec} {c:OpenClaim} (h0:(c.wf (OpenSpec.ofChange s):Bool)=true) (h1:(laidOutB P:Bool)=true) (h2:(mapsRowed P:Bool)=true) (h3:(fn.params.all (P.readableRec ·):Bool)=true) (h4:(namedTie P c.named s.vars:Bool)=true) (h5:((c.stops==[]):Bool)=true) (h6:((P.stops==[]):Bool)=true) (h7:((c.knobs==[]):Bool)=true) (h8:((P.stopKnobs==[]):Bool)=true) (h9:((c.inPlace==P.inPlace f):Bool)=true) (h10:((c.unfollowed==P.unfollowed f):Bool)=true) (h11:((c.recurses==P.recurses f):Bool)=true) (h12:((c.named==P.varsNamed f):Bool)=true) (h13:((c.maps==(fn.params.toList++s.plain.varTypes P).any (P.mapsRec ·)):Bool)=true) (h14:((c.ifaces==(fn.params.toList++s.plain.varTypes P).any (P.ifacesRec ·)):Bool)=true) (h15:((c.mapsOut==P.mapsAmong fn.resultTypes.toList):Bool)=true) (h16:((c.loops==(fn.params.toList++s.plain.varTypes P).any (P.loopsFrom ·)):Bool)=true) (h17:((c.wideKeys==(fn.params.toList++s.plain.varTypes P++fn.resultTypes.toList).any (P.wideKeysFrom ·)):Bool)=true) (h18:(s.vars.all (P.varReadable ·):Bool)=true) (h19:(fn.resultTypes.all (fun t=>P.readableRec t&&decide (t<P.types.size)):Bool)=true) (h20:((c.ifacesOut==fn.resultTypes.toList.any (P.ifacesRec ·)):Bool)=true) (h21:((c.loopsOut==fn.resultTypes.toList.any (P.loopsFrom ·)):Bool)=true) (h22:((c.plainKeys==P.plainKeys):Bool)=true) (h23:(c.shortTexts.isNone:Bool)=true) (ZF:(P.stopsHeard:Bool)=true) (h25:(P.mayEnter:Bool)=true) (h26:((c.lifted==P.liftsFinal):Bool)=true) (h27:((P.make==some c.make):Bool)=true) (h28:((c.kinds==(if c.domain.isEmpty then [] else fn.params.toList.map fun t=>match P.underlying t with | some (.int k)=>some k | _=>none)):Bool)=true) (h29:((c.pinned==c.pinnedBy):Bool)=true) (h30:((c.veiled==(fn.params.toList++s.plain.varTypes P++fn.resultTypes.toList).any (P.veiledRec ·)):Bool)=true) (h31:(c.veiledFits P fn.params.toList (fn.params.toList++s.plain.varTypes P++fn.resultTypes.toList):Bool)=true):joinedFacts P f fn s c=true:=by
 unfold joinedFacts
 simp only[Bool.and_eq_true]
 exact ⟨⟨⟨⟨⟨⟨⟨⟨⟨⟨⟨⟨⟨⟨⟨⟨⟨⟨⟨⟨⟨⟨⟨⟨⟨⟨⟨⟨⟨⟨⟨h0,h1⟩,h2⟩,h3⟩,h4⟩,h5⟩,h6⟩,h7⟩,h8⟩,h9⟩,h10⟩,h11⟩,h12⟩,h13⟩,h14⟩,h15⟩,h16⟩,h17⟩,h18⟩,h19⟩,h20⟩,h21⟩,h22⟩,h23⟩,ZF⟩,h25⟩,h26⟩,h27⟩,h28⟩,h29⟩,h30⟩,h31⟩
theorem abh:(Rows.orderedRow.wf (OpenSpec.ofChange Rows.orderedSpec):Bool)=true:=by kernel_rfl
theorem abj:(laidOutB Tryz.prog:Bool)=true:=by kernel_rfl
theorem abk:(mapsRowed Tryz.prog:Bool)=true:=by kernel_rfl
theorem abl:(Tryz.f3.params.all (Tryz.prog.readableRec ·):Bool)=true:=by kernel_rfl
theorem abm:(namedTie Tryz.prog Rows.orderedRow.named Rows.orderedSpec.vars:Bool)=true:=by kernel_rfl
theorem abn:((Rows.orderedRow.stops==[]):Bool)=true:=by kernel_rfl
theorem abo:((Tryz.prog.stops==[]):Bool)=true:=by kernel_rfl
theorem abp:((Rows.orderedRow.knobs==[]):Bool)=true:=by kernel_rfl
theorem abq:((Tryz.prog.stopKnobs==[]):Bool)=true:=by kernel_rfl
theorem abr:((Rows.orderedRow.inPlace==Tryz.prog.inPlace 3):Bool)=true:=by kernel_rfl
theorem Zf:((Rows.orderedRow.unfollowed==Tryz.prog.unfollowed 3):Bool)=true:=by kernel_rfl
theorem Zg:((Rows.orderedRow.recurses==Tryz.prog.recurses 3):Bool)=true:=by kernel_rfl
theorem Zh:((Rows.orderedRow.named==Tryz.prog.varsNamed 3):Bool)=true:=by kernel_rfl
theorem Zi:((Rows.orderedRow.maps==(Tryz.f3.params.toList++Rows.orderedSpec.plain.varTypes Tryz.prog).any (Tryz.prog.mapsRec ·)):Bool)=true:=by kernel_rfl
theorem Zj:((Rows.orderedRow.ifaces==(Tryz.f3.params.toList++Rows.orderedSpec.plain.varTypes Tryz.prog).any (Tryz.prog.ifacesRec ·)):Bool)=true:=by kernel_rfl
theorem Zk:((Rows.orderedRow.mapsOut==Tryz.prog.mapsAmong Tryz.f3.resultTypes.toList):Bool)=true:=by kernel_rfl
theorem Zl:((Rows.orderedRow.loops==(Tryz.f3.params.toList++Rows.orderedSpec.plain.varTypes Tryz.prog).any (Tryz.prog.loopsFrom ·)):Bool)=true:=by kernel_rfl
theorem Zm:((Rows.orderedRow.wideKeys==(Tryz.f3.params.toList++Rows.orderedSpec.plain.varTypes Tryz.prog++Tryz.f3.resultTypes.toList).any (Tryz.prog.wideKeysFrom ·)):Bool)=true:=by kernel_rfl
theorem Zn:(Rows.orderedSpec.vars.all (Tryz.prog.varReadable ·):Bool)=true:=by kernel_rfl
theorem Zo:(Tryz.f3.resultTypes.all (fun t=>Tryz.prog.readableRec t&&decide (t<Tryz.prog.types.size)):Bool)=true:=by kernel_rfl
theorem Zp:((Rows.orderedRow.ifacesOut==Tryz.f3.resultTypes.toList.any (Tryz.prog.ifacesRec ·)):Bool)=true:=by kernel_rfl
theorem Zq:((Rows.orderedRow.loopsOut==Tryz.f3.resultTypes.toList.any (Tryz.prog.loopsFrom ·)):Bool)=true:=by kernel_rfl
theorem Zr:((Rows.orderedRow.plainKeys==Tryz.prog.plainKeys):Bool)=true:=by kernel_rfl
theorem Zt:(Rows.orderedRow.shortTexts.isNone:Bool)=true:=by kernel_rfl
theorem Zu:(Tryz.prog.stopsHeard:Bool)=true:=by kernel_rfl
theorem Zv:(Tryz.prog.mayEnter:Bool)=true:=by kernel_rfl
theorem Zw:((Rows.orderedRow.lifted==Tryz.prog.liftsFinal):Bool)=true:=by kernel_rfl
theorem Zx:((Tryz.prog.make==some Rows.orderedRow.make):Bool)=true:=by kernel_rfl
theorem Zy:((Rows.orderedRow.kinds==(if Rows.orderedRow.domain.isEmpty then [] else Tryz.f3.params.toList.map fun t=>match Tryz.prog.underlying t with | some (.int k)=>some k | _=>none)):Bool)=true:=by kernel_rfl
theorem Zz:((Rows.orderedRow.pinned==Rows.orderedRow.pinnedBy):Bool)=true:=by kernel_rfl
theorem ZA:((Rows.orderedRow.veiled==(Tryz.f3.params.toList++Rows.orderedSpec.plain.varTypes Tryz.prog++Tryz.f3.resultTypes.toList).any (Tryz.prog.veiledRec ·)):Bool)=true:=by kernel_rfl
theorem ZB:(Rows.orderedRow.veiledFits Tryz.prog Tryz.f3.params.toList (Tryz.f3.params.toList++Rows.orderedSpec.plain.varTypes Tryz.prog++Tryz.f3.resultTypes.toList):Bool)=true:=by kernel_rfl
theorem closed:joinedFacts Tryz.prog 3 Tryz.f3 Rows.orderedSpec Rows.orderedRow=true :=
 Ox (P:=Tryz.prog) abh abj abk abl abm abn abo abp abq abr Zf Zg Zh Zi Zj Zk Zl Zm Zn Zo Zp Zq Zr Zt Zu Zv Zw Zx Zy Zz ZA ZB
end CardFactO
end
end Go.Proofs.YtialenebfcnkkaaGreatDoor
