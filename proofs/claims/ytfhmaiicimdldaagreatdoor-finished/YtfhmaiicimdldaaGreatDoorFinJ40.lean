import Derived.Test.YtfhmaiicimdldaaGreatDoorFinJ39
import Derived.Test.YtfhmaiicimdldaaGreatDoorFinJ25
namespace Go.Proofs.YtfhmaiicimdldaaGreatDoor
section
open Go.ChangeShapes Go.WideShapes Go.ChangeAt Go.RowKit
namespace Ob
theorem open_row {H:Type} {enc:TypeId × Value->H} {P:Program} {w:World} {base:Nat} {spare:Nat->Bool} {held:Bool} {t e:TypeId} {fs:Array Field} {m:Nat} {fuel:Nat} {a0:Option Addr} {len cap:Nat} {x:DataW H × List MemPlace} (ht:P.underlying t=some (.slice e)) (he:P.underlying e=some (.struct fs)) (ce:P.cellsOf e=m) (hs:fs.size=m) (hfs:∀ (j:Nat) (f:Field),fs[j]? = some f->f.offset=j/\P.cellsOf f.type=1/\P.underlying f.type=some (.int .i64)) (h:DataW.trod enc P w base spare held fuel t (Value.slice a0 len cap).cells.toList=some x) :
 ∃ Z:Nat->Nat->Int,∀ i,i<len->∀ j,j<m->∃ a,a0=some a/\w.cell? (a.add (i*m+j))=some (.int .i64 (Z i j))/\(Lit.int .i64 (Z i j)).wf=true:=by
 rcases Go.Deep.open_slice ht h with ⟨hcs, -⟩ | ⟨a,len',cap',m',n,D,Pl,hcs, -,hl, -,hmm, -,hx⟩
 · simp[Value.cells] at hcs;obtain ⟨rfl,rfl,rfl⟩:=hcs;exact ⟨fun _ _=>0,fun i hi=>by omega⟩
 simp[Value.cells] at hcs;obtain ⟨rfl,rfl,rfl⟩:=hcs;have hlm:len<=m':=by rw[hmm];split<;>omega
 have key:∀ i,i<len->∀ j,j<m->∃ z,w.cell? (a.add (i*m+j))=some (.int .i64 z)/\(Lit.int .i64 z).wf=true:=fun i hi j hj=>by
  obtain ⟨cs',h1,h2⟩:=hx i (by omega);rw[ce] at h1;obtain ⟨-,hlen,hcell⟩:=World.cells?_some h1;obtain ⟨xs,k, -, -, -,hxl,hf⟩:=DataW.trod_struct he h2;have hj':j<fs.size:=by omega
  obtain ⟨o1,o2,o3⟩:=hfs j fs[j] (Array.getElem?_eq_getElem hj');have g:=hf j fs[j] (Array.getElem?_eq_getElem hj');rw[o1,o2,B9 (by omega)] at g;obtain ⟨z,hz, -,hw⟩:=DataW.trod_int o3 g;refine ⟨z,?_,hw⟩;have e:=hcell j hj;rw[Go.Deep.add_add] at e;rw[e];have e2:=IN (fun l=>l[0]?) hz;simpa [List.getElem?_take,List.getElem?_drop] using e2
 refine ⟨fun i j=>if q:i<len/\j<m then (key i q.1 j q.2).choose else 0,fun i hi j hj=>⟨a,rfl,?_⟩⟩;simp only[dif_pos (And.intro hi hj)];exact (key i hi j hj).choose_spec
theorem ang:(Tryz.prog.cutTypes.find? (·.1 == "internal/reflectlite.rtype")).map (·.2)=some 263:=by kernel_rfl
theorem am5:((List.range Tryz.prog.types.size).all fun t => !(Tryz.prog.rowNamed t [101,114,114,111,114])||t==74)=true:=by kernel_rfl
theorem akd {W:World} (h:laidMetH Tryz.prog CardKeep.aci W):afY W:=by
 unfold laidMetH at h;rw[CardKeep.alj] at h;obtain ⟨name,u,ty,h1,h2,h3,h4,h5⟩:=h.2 ("errors.errorType",Rows.laid_errors_errorType) (List.mem_singleton.2 rfl);obtain rfl:[101,114,114,111,114]=name:=Cd ((show DataW.handleName? (Rows.laid_errors_errorType:DataW Unit)=some [101,114,114,111,114] by kernel_rfl).symm.trans h1);obtain rfl:=Cd (ang.symm.trans h2);have e:=List.all_eq_true.1 am5 ty (List.mem_range.2 h3);rw[h4] at e;obtain rfl:ty=74:=by simpa using e
 have hg:Tryz.prog.globalNamed "errors.errorType" = some 2:=by kernel_rfl
 have hc:=World.var?_cell hg h5 0;unfold afY;rw[hc];show some _=some _;unfold typeHandle;rw[show Tryz.prog.globals.size=12 by kernel_rfl];rfl
theorem full:Rows.finishedRow.laid=CardKeep.aci:=by kernel_rfl
end Ob
end
end Go.Proofs.YtfhmaiicimdldaaGreatDoor
