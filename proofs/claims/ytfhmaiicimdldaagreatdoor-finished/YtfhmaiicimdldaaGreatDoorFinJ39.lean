import Derived.Test.YtfhmaiicimdldaaGreatDoorCards
import Derived.Test.YtfhmaiicimdldaaGreatDoorTie
import Derived.Test.YtfhmaiicimdldaaGreatDoorFinJ8
import Derived.ProofKit
import Derived.OpenShut
import Derived.Deep.DeepWitnessRowRef
import Derived.Lib.LaidU8
set_option maxRecDepth 100000
namespace Go.Proofs.YtfhmaiicimdldaaGreatDoor
variable {W:World}
section
open Go.ChangeShapes Go.WideShapes Go.ChangeAt Go.RowKit
namespace CardKeep
theorem wf_i64{x:Int} (h:(Lit.int .i64 x).wf=true) : -9223372036854775808<=x/\x<=9223372036854775807:=by
 simp[Lit.wf,IntKind.min,IntKind.max,IntKind.signed,IntKind.bits] at h;exact ⟨by omega,by omega⟩
def VD:List (String × DataW Unit):=[("math/bits.deBruijn32tab",Rows.laid_math_bits_deBruijn32tab),("math/bits.deBruijn64tab",Rows.laid_math_bits_deBruijn64tab),("haven/digest.roundConstants",Rows.laid_haven_digest_roundConstants),("internal/strconv.uint64pow10",Rows.laid_internal_strconv_uint64pow10),("unicode/utf8.acceptRanges",Rows.laid_unicode_utf8_acceptRanges),("strconv.ErrRange",Rows.laid_strconv_ErrRange),("strconv.ErrSyntax",Rows.laid_strconv_ErrSyntax),("haven/faults.ErrPower",Rows.laid_haven_faults_ErrPower),("haven/store.ErrNothing",Rows.laid_haven_store_ErrNothing),("unicode/utf8.first",Rows.laid_unicode_utf8_first)]
def aci:List (String × DataW Unit):=[("math/bits.deBruijn32tab",Rows.laid_math_bits_deBruijn32tab),("math/bits.deBruijn64tab",Rows.laid_math_bits_deBruijn64tab),("haven/digest.roundConstants",Rows.laid_haven_digest_roundConstants),("internal/strconv.uint64pow10",Rows.laid_internal_strconv_uint64pow10),("unicode/utf8.acceptRanges",Rows.laid_unicode_utf8_acceptRanges),("errors.errorType",Rows.laid_errors_errorType),("strconv.ErrRange",Rows.laid_strconv_ErrRange),("strconv.ErrSyntax",Rows.laid_strconv_ErrSyntax),("haven/faults.ErrPower",Rows.laid_haven_faults_ErrPower),("haven/store.ErrNothing",Rows.laid_haven_store_ErrNothing),("unicode/utf8.first",Rows.laid_unicode_utf8_first)]
theorem ali:(aci.filter fun x=>x.2.handleName?.isNone)=VD:=by kernel_rfl
theorem alj:(aci.filter fun x=>x.2.handleName?.isSome)=[("errors.errorType",Rows.laid_errors_errorType)]:=by kernel_rfl
theorem met(h:laidMetH Tryz.prog aci W):laidMet Tryz.prog VD W:=by
 unfold laidMetH at h;rw[alj,ali] at h;exact h.1
theorem Ox{P:Program} {w:World} {a:String × DataW Unit} {l:List (String × DataW Unit)} {ps:List MemPlace} (h:DataW.LaidVars P w (a::l) ps):∃ q,DataW.LaidVars P w l q/\q <:+ ps:=by
 obtain ⟨n,d⟩:=a;obtain ⟨g,t,cs,fuel,p,q,h1,h2,h3,h4,h5,rfl⟩:=h;exact ⟨q,h5,List.suffix_append _ _⟩
theorem ah6:Tryz.prog.cellsOf 315=64:=by kernel_rfl
theorem ah4:Tryz.prog.cellsOf 65=1:=by kernel_rfl
theorem ahi:(Rows.laid_haven_digest_roundConstants:DataW Unit)=Lib.tabData .u32 afr:=by kernel_rfl
theorem abf(h:laidMet Tryz.prog VD W):∀ i:Nat,i<64->W.cell? ⟨4,i,none⟩=some (.int .u32 (KH i)):=by
 obtain ⟨ps,hv, -, -⟩:=h;obtain ⟨g,t,cs,fuel,p,hg,hty,hvar,hd⟩:=Lib.LaidVars_reads hv "haven/digest.roundConstants" Rows.laid_haven_digest_roundConstants (.tail _ (.tail _ (.head _)));obtain rfl:=Cd ((show Tryz.prog.globalNamed "haven/digest.roundConstants" = some 4 by kernel_rfl).symm.trans hg);obtain rfl:=Cd ((show (Tryz.prog.globals[4]?).map (·.type)=some 315 by kernel_rfl).symm.trans hty);rw[ahi] at hd;have hcs:=Lib.cells_of_tab Tryz.underlying315 Tryz.underlying65 ah4 ah6 hd;intro i hi;have:=World.var?_cell hg hvar i;rw[this,<- Array.getElem?_toList,hcs];have hl:afr.length=64:=rfl;simp[KH,List.getD,B9 (show i<afr.length by omega)]
theorem aiQ(h:W.ShapedOpen Tryz.prog):∃ m,W.cell? ⟨3,0,none⟩=some (.int .i64 m) :=
 Go.Proofs.cell_of_shapedOpen_int (zero := #[.int .i64 0]) (t:=3) h (of_decide_eq_true (by kernel_rfl)) (by kernel_rfl) rfl (by kernel_rfl) (by kernel_rfl) I1
theorem Wm(h:W.ShapedOpen Tryz.prog):12<=W.heap.size:=by
 obtain ⟨cs,hh, -, -⟩:=h.1 11 (Array.replicate 64 (.int .u8 0)) 403 (of_decide_eq_true (by kernel_rfl)) (by kernel_rfl);have:=(Array.getElem?_eq_some_iff.1 hh).1;omega
theorem am6:(Tryz.prog.globals[5]?).map (·.type)=some 377:=by kernel_rfl
theorem ah5:Tryz.prog.cellsOf 377=20:=by kernel_rfl
theorem agc:Tryz.prog.cellsOf 342=1:=by kernel_rfl
theorem amq:(Rows.laid_internal_strconv_uint64pow10:DataW Unit)=Lib.tabData .u64 Lib.pow10Tab:=by kernel_rfl
theorem akL(h:laidMet Tryz.prog VD W):Lib.TabIs Tryz.prog W "internal/strconv.uint64pow10" .u64 Lib.pow10Tab:=by
 obtain ⟨ps,hv, -, -⟩:=h;obtain ⟨g,t,cs,fuel,p,hg,hty,hvar,hd⟩:=Lib.LaidVars_reads hv "internal/strconv.uint64pow10" Rows.laid_internal_strconv_uint64pow10 (.tail _ (.tail _ (.tail _ (.head _))));obtain rfl:=Cd ((show Tryz.prog.globalNamed "internal/strconv.uint64pow10" = some 5 by kernel_rfl).symm.trans hg);obtain rfl:=Cd (am6.symm.trans hty);rw[amq] at hd;have hcs:=Lib.cells_of_tab Tryz.underlying377 Tryz.underlying342 agc ah5 hd;unfold Lib.TabIs;rw[hvar,<- hcs]
theorem star: "*errors.errorString" = "*" ++ "errors.errorString" := by decide
theorem anc(u:TypeId) (h:Tryz.prog.typeName? 3 u=some "*errors.errorString"):u=398 :=
 typeName_ptr_named (nm := "errors.errorString") (by rw[<- star];kernel_rfl) (by kernel_rfl) (by decide) u (by rw[<- star];exact h)
theorem cellsE:Tryz.prog.cellsOf 400=1:=by kernel_rfl
theorem cellsS:Tryz.prog.cellsOf 9=1:=by kernel_rfl
theorem ak1:(Tryz.prog.globals[1]?).map (·.type)=some 74:=by kernel_rfl
theorem ahs:(Tryz.prog.globals[0]?).map (·.type)=some 74:=by kernel_rfl
theorem ake(h:laidMet Tryz.prog VD W):∃ x y,Tn x y W:=by
 obtain ⟨ps,hv,hnd,hrows⟩:=h;obtain ⟨q1,v1,s1⟩:=Ox hv;obtain ⟨q2,v2,s2⟩:=Ox v1;obtain ⟨q3,v3,s3⟩:=Ox v2;obtain ⟨q4,v4,s4⟩:=Ox v3;obtain ⟨q5,v5,s5⟩:=Ox v4;obtain ⟨q6,v6,s6⟩:=Ox v5;obtain ⟨q7,v7,s7⟩:=Ox v6;have hs:=((((((s7.trans s6).trans s5).trans s4).trans s3).trans s2).trans s1);have BN:=hnd.sublist hs.sublist;have ij:∀ b off,MemPlace.cell b off∈q7->(∃ c t,W.heap[b]? = some (.cells c t (0,0)))/\∀ u v,W.cell? ⟨b,off,none⟩=some (.iface u v)->Value.okWide Tryz.prog W .any 0 u v:=fun b off m=>hrows b off (hs.subset m)
 obtain ⟨g0,t0,cs0,f0,p0,r0,hg0,ht0,hv0,hd0,⟨g1,t1,cs1,f1,p1,r1,hg1,ht1,hv1,hd1, -,e1⟩,e0⟩:=v7;obtain rfl:=Cd ((show Tryz.prog.globalNamed "haven/faults.ErrPower" = some 1 by kernel_rfl).symm.trans hg0);obtain rfl:=Cd ((show Tryz.prog.globalNamed "haven/store.ErrNothing" = some 0 by kernel_rfl).symm.trans hg1);obtain rfl:=Cd (ak1.symm.trans ht0);obtain rfl:=Cd (ahs.symm.trans ht1);subst e1;subst e0;obtain ⟨l0⟩:=cs0;obtain ⟨l1⟩:=cs1;have ok0:∀ u v,l0=[.iface u v]->Value.okWide Tryz.prog W .any 0 u v:=fun u v e=>by
  subst e;exact (ij 1 0 (by simp[MemPlace.row])).2 u v (by simpa using World.var?_cell hg0 hv0 0)
 have ok1:∀ u v,l1=[.iface u v]->Value.okWide Tryz.prog W .any 0 u v:=fun u v e=>by
  subst e;exact (ij 0 0 (by simp[MemPlace.row])).2 u v (by simpa using World.var?_cell hg1 hv1 0)
 obtain ⟨a0,s0,rfl,hc0,hs0,hz0,rfl⟩:=errorString_of_trod Tryz.underlying74 anc Tryz.underlying398 Tryz.underlying400 rfl rfl IT cellsE cellsS hd0 ok0;obtain ⟨a1,s1,rfl,hc1,hs1,hz1,rfl⟩:=errorString_of_trod Tryz.underlying74 anc Tryz.underlying398 Tryz.underlying400 rfl rfl IT cellsE cellsS hd1 ok1;refine ⟨a1,a0,by simpa [Rz] using World.var?_cell hg1 hv1 0,by simpa [Rz] using World.var?_cell hg0 hv0 0,?_,(ij a1.block a1.off (by simp[MemPlace.row])).1,(ij a0.block a0.off (by simp[MemPlace.row])).1⟩;rintro rfl;simp[MemPlace.row] at BN
theorem base_of(h:laidMet Tryz.prog VD W) (hS:W.ShapedOpen Tryz.prog):Base W:=⟨Wm hS,aiQ hS,abf h,akL h⟩
def flat {H:Type}:Nat->List (DataW H)->List Value
 | 0,_=>[]
 | _+1,[]=>[]
 | n+1, .lit (.int k x)::l => .int k x::flat n l
 | n+1, .agg l'::l=>flat n (l'++l)
 | n+1,_::l=>flat n l
def PV (cs:List Value):Obj->Obj
 | .cells _ t frozen => .cells cs.toArray t frozen
 | o=>o
noncomputable def low:Nat:=(World.holding Tryz.prog default ⟨#[], #[],[]⟩).heap.size
noncomputable def Vn (os:Os):World :=
 let w0:=World.holding Tryz.prog os ⟨#[.cells #[.string ⟨#[118,97,108,117,101,32,111,117,116,32,111,102,32,114,97,110,103,101]⟩] 400, .cells #[.string ⟨#[105,110,118,97,108,105,100,32,115,121,110,116,97,120]⟩] 400, .cells #[.string ⟨#[116,104,101,32,112,111,119,101,114,32,104,97,115,32,103,111,110,101]⟩] 400, .cells #[.string ⟨#[110,111,116,104,105,110,103,32,105,115,32,115,116,111,114,101,100]⟩] 400], #[],[]⟩
 { w0 with heap:=(((((((((((w0.heap.modify 8 (PV (flat 1000 [Rows.laid_unicode_utf8_first]))).modify 9 (PV (flat 1000 [Rows.laid_unicode_utf8_acceptRanges (H:=Unit)]))).modify 4 (PV (flat 1000 [Rows.laid_haven_digest_roundConstants (H:=Unit)]))).modify 5 (PV (flat 1000 [Rows.laid_internal_strconv_uint64pow10 (H:=Unit)]))).modify 10 (PV (flat 1000 [Rows.laid_math_bits_deBruijn32tab (H:=Unit)]))).modify 11 (PV (flat 1000 [Rows.laid_math_bits_deBruijn64tab (H:=Unit)]))).modify 7 (PV [.iface 398 (.pointer (some ⟨low+0,0,none⟩))])).modify 6 (PV [.iface 398 (.pointer (some ⟨low+1,0,none⟩))])).modify 1 (PV [.iface 398 (.pointer (some ⟨low+2,0,none⟩))])).modify 0 (PV [.iface 398 (.pointer (some ⟨low+3,0,none⟩))])).modify 2 (PV [.iface 263 (.agg #[typeHandle Tryz.prog 74])])) }
end CardKeep
end
end Go.Proofs.YtfhmaiicimdldaaGreatDoor
