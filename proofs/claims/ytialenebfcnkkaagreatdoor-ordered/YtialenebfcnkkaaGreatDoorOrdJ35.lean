/- CardKeep -/
import Derived.Test.YtialenebfcnkkaaGreatDoorCards
import Derived.Test.YtialenebfcnkkaaGreatDoorTie
import Derived.Test.YtialenebfcnkkaaGreatDoorOrdJ10
import Derived.ProofKit
import Derived.OpenShut
import Derived.Deep.DeepHandedRow
import Derived.Deep.DeepWitnessRowRef
import Derived.Lib.LaidTab
import Derived.Lib.LaidU8
import Derived.Shelf.Vars
import Derived.LaidHandle
set_option maxRecDepth 100000
namespace Go.Proofs.YtialenebfcnkkaaGreatDoor
section
open Go.ChangeShapes Go.WideShapes Go.ChangeAt Go.RowKit
namespace CardKeep
theorem wf_i64 {x:Int} (h:(Lit.int .i64 x).wf=true) : -9223372036854775808≤x∧x≤9223372036854775807:=by
 simp[Lit.wf,IntKind.min,IntKind.max,IntKind.signed,IntKind.bits] at h
 exact ⟨by omega,by omega⟩
def xJ:List (String × DataW Unit):=[("math/bits.deBruijn32tab",Rows.laid_math_bits_deBruijn32tab),("math/bits.deBruijn64tab",Rows.laid_math_bits_deBruijn64tab),("haven/digest.roundConstants",Rows.laid_haven_digest_roundConstants),("internal/strconv.uint64pow10",Rows.laid_internal_strconv_uint64pow10),("unicode/utf8.acceptRanges",Rows.laid_unicode_utf8_acceptRanges),("strconv.ErrRange",Rows.laid_strconv_ErrRange),("strconv.ErrSyntax",Rows.laid_strconv_ErrSyntax),("haven/faults.ErrPower",Rows.laid_haven_faults_ErrPower),("haven/store.ErrNothing",Rows.laid_haven_store_ErrNothing),("unicode/utf8.first",Rows.laid_unicode_utf8_first)]
def Nc:List (String × DataW Unit):=[("math/bits.deBruijn32tab",Rows.laid_math_bits_deBruijn32tab),("math/bits.deBruijn64tab",Rows.laid_math_bits_deBruijn64tab),("haven/digest.roundConstants",Rows.laid_haven_digest_roundConstants),("internal/strconv.uint64pow10",Rows.laid_internal_strconv_uint64pow10),("unicode/utf8.acceptRanges",Rows.laid_unicode_utf8_acceptRanges),("errors.errorType",Rows.laid_errors_errorType),("strconv.ErrRange",Rows.laid_strconv_ErrRange),("strconv.ErrSyntax",Rows.laid_strconv_ErrSyntax),("haven/faults.ErrPower",Rows.laid_haven_faults_ErrPower),("haven/store.ErrNothing",Rows.laid_haven_store_ErrNothing),("unicode/utf8.first",Rows.laid_unicode_utf8_first)]
theorem X6:(Nc.filter fun x=>x.2.handleName?.isNone)=xJ:=by kernel_rfl
theorem abu:(Nc.filter fun x=>x.2.handleName?.isSome)=[("errors.errorType",Rows.laid_errors_errorType)]:=by kernel_rfl
theorem met {W:World} (h:laidMetH Tryz.prog Nc W):laidMet Tryz.prog xJ W:=by
 unfold laidMetH at h
 rw[abu,X6] at h
 exact h.1
theorem jV {P:Program} {w:World} {a:String × DataW Unit} {l:List (String × DataW Unit)} {ps:List MemPlace} (h:DataW.LaidVars P w (a::l) ps):∃ q,DataW.LaidVars P w l q∧q <:+ ps:=by
 obtain ⟨n,d⟩:=a
 obtain ⟨g,t,cs,fuel,p,q,h1,h2,h3,h4,h5,rfl⟩:=h
 exact ⟨q,h5,List.suffix_append _ _⟩
theorem RP:Tryz.prog.cellsOf 303=64:=by kernel_rfl
theorem RN:Tryz.prog.cellsOf 55=1:=by kernel_rfl
theorem Qx:(Rows.laid_haven_digest_roundConstants:DataW Unit)=Lib.tabData .u32 Nh:=by kernel_rfl
theorem F6 {W:World} (h:laidMet Tryz.prog xJ W):∀ i:Nat,i<64→W.cell? ⟨4,i,none⟩=some (.int .u32 (aF i)):=by
 obtain ⟨ps,hv, -, -⟩:=h
 obtain ⟨g,t,cs,fuel,p,hg,hty,hvar,hd⟩:=Lib.LaidVars_reads hv "haven/digest.roundConstants" Rows.laid_haven_digest_roundConstants (.tail _ (.tail _ (.head _)))
 obtain rfl:=Option.some.inj ((show Tryz.prog.globalNamed "haven/digest.roundConstants" = some 4 by kernel_rfl).symm.trans hg)
 obtain rfl:=Option.some.inj ((show (Tryz.prog.globals[4]?).map (·.type)=some 303 by kernel_rfl).symm.trans hty)
 rw[Qx] at hd
 have hcs:=Lib.cells_of_tab Tryz.underlying303 Tryz.underlying55 RN RP hd
 intro i hi
 have:=World.var?_cell hg hvar i
 rw[this,← Array.getElem?_toList,hcs]
 have hl:Nh.length=64:=rfl
 simp[aF,List.getD,List.getElem?_eq_getElem (show i<Nh.length by omega)]
theorem Tk {W:World} (h:W.ShapedOpen Tryz.prog):∃ m,W.cell? ⟨3,0,none⟩=some (.int .i64 m) :=
 Go.Proofs.cell_of_shapedOpen_int (zero := #[.int .i64 0]) (t:=3) h (of_decide_eq_true (by kernel_rfl)) (by kernel_rfl) rfl (by kernel_rfl) (by kernel_rfl) Tryz.underlying3
theorem IL {W:World} (h:W.ShapedOpen Tryz.prog):12≤W.heap.size:=by
 obtain ⟨cs,hh, -, -⟩:=h.1 11 (Array.replicate 64 (.int .u8 0)) 391 (of_decide_eq_true (by kernel_rfl)) (by kernel_rfl)
 have:=(Array.getElem?_eq_some_iff.1 hh).1
 omega
theorem ab4:(Tryz.prog.globals[5]?).map (·.type)=some 365:=by kernel_rfl
theorem RO:Tryz.prog.cellsOf 365=20:=by kernel_rfl
theorem Ov:Tryz.prog.cellsOf 330=1:=by kernel_rfl
theorem aat:(Rows.laid_internal_strconv_uint64pow10:DataW Unit)=Lib.tabData .u64 Lib.pow10Tab:=by kernel_rfl
theorem Xg {W:World} (h:laidMet Tryz.prog xJ W):Lib.TabIs Tryz.prog W "internal/strconv.uint64pow10" .u64 Lib.pow10Tab:=by
 obtain ⟨ps,hv, -, -⟩:=h
 obtain ⟨g,t,cs,fuel,p,hg,hty,hvar,hd⟩:=Lib.LaidVars_reads hv "internal/strconv.uint64pow10" Rows.laid_internal_strconv_uint64pow10 (.tail _ (.tail _ (.tail _ (.head _))))
 obtain rfl:=Option.some.inj ((show Tryz.prog.globalNamed "internal/strconv.uint64pow10" = some 5 by kernel_rfl).symm.trans hg)
 obtain rfl:=Option.some.inj (ab4.symm.trans hty)
 rw[aat] at hd
 have hcs:=Lib.cells_of_tab Tryz.underlying365 Tryz.underlying330 Ov RO hd
 unfold Lib.TabIs
 rw[hvar,← hcs]
theorem star : "*errors.errorString" = "*" ++ "errors.errorString" := by decide
theorem ace (u:TypeId) (h:Tryz.prog.typeName? 3 u=some "*errors.errorString"):u=386 :=
 typeName_ptr_named (nm := "errors.errorString") (by rw[← star];kernel_rfl) (by kernel_rfl) (by decide) u (by rw[← star];exact h)
theorem cellsE:Tryz.prog.cellsOf 388=1:=by kernel_rfl
theorem cellsS:Tryz.prog.cellsOf 9=1:=by kernel_rfl
theorem Xw:(Tryz.prog.globals[1]?).map (·.type)=some 64:=by kernel_rfl
theorem QD:(Tryz.prog.globals[0]?).map (·.type)=some 64:=by kernel_rfl
theorem Wm {W:World} (h:laidMet Tryz.prog xJ W):∃ x y,sQ x y W:=by
 obtain ⟨ps,hv,hnd,hrows⟩:=h
 obtain ⟨q1,v1,s1⟩:=jV hv
 obtain ⟨q2,v2,s2⟩:=jV v1
 obtain ⟨q3,v3,s3⟩:=jV v2
 obtain ⟨q4,v4,s4⟩:=jV v3
 obtain ⟨q5,v5,s5⟩:=jV v4
 obtain ⟨q6,v6,s6⟩:=jV v5
 obtain ⟨q7,v7,s7⟩:=jV v6
 have hs:=((((((s7.trans s6).trans s5).trans s4).trans s3).trans s2).trans s1)
 have ac1:=hnd.sublist hs.sublist
 have SA:∀ b off,MemPlace.cell b off∈q7→(∃ c t,W.heap[b]? = some (.cells c t (0,0)))∧∀ u v,W.cell? ⟨b,off,none⟩=some (.iface u v)→Value.okWide Tryz.prog W .any 0 u v:=fun b off m=>hrows b off (hs.subset m)
 obtain ⟨g0,t0,cs0,f0,p0,r0,hg0,ht0,hv0,hd0,⟨g1,t1,cs1,f1,p1,r1,hg1,ht1,hv1,hd1, -,e1⟩,e0⟩:=v7
 obtain rfl:=Option.some.inj ((show Tryz.prog.globalNamed "haven/faults.ErrPower" = some 1 by kernel_rfl).symm.trans hg0)
 obtain rfl:=Option.some.inj ((show Tryz.prog.globalNamed "haven/store.ErrNothing" = some 0 by kernel_rfl).symm.trans hg1)
 obtain rfl:=Option.some.inj (Xw.symm.trans ht0)
 obtain rfl:=Option.some.inj (QD.symm.trans ht1)
 subst e1
 subst e0
 obtain ⟨l0⟩:=cs0
 obtain ⟨l1⟩:=cs1
 have ok0:∀ u v,l0=[.iface u v]→Value.okWide Tryz.prog W .any 0 u v:=fun u v e=>by
   subst e
   exact (SA 1 0 (by simp[MemPlace.row])).2 u v (by simpa using World.var?_cell hg0 hv0 0)
 have ok1:∀ u v,l1=[.iface u v]→Value.okWide Tryz.prog W .any 0 u v:=fun u v e=>by
   subst e
   exact (SA 0 0 (by simp[MemPlace.row])).2 u v (by simpa using World.var?_cell hg1 hv1 0)
 obtain ⟨a0,s0,rfl,hc0,hs0,hz0,rfl⟩:=errorString_of_trod Tryz.underlying64 ace Tryz.underlying386 Tryz.underlying388 rfl rfl Tryz.underlying9 cellsE cellsS hd0 ok0
 obtain ⟨a1,s1,rfl,hc1,hs1,hz1,rfl⟩:=errorString_of_trod Tryz.underlying64 ace Tryz.underlying386 Tryz.underlying388 rfl rfl Tryz.underlying9 cellsE cellsS hd1 ok1
 refine ⟨a1,a0,by simpa [wY] using World.var?_cell hg1 hv1 0,by simpa [wY] using World.var?_cell hg0 hv0 0,?_,(SA a1.block a1.off (by simp[MemPlace.row])).1,(SA a0.block a0.off (by simp[MemPlace.row])).1⟩
 rintro rfl
 simp[MemPlace.row] at ac1
theorem base_of {W:World} (h:laidMet Tryz.prog xJ W) (hS:W.ShapedOpen Tryz.prog):Base W:=⟨IL hS,Tk hS,F6 h,Xg h⟩
def flat {H:Type}:Nat→List (DataW H)→List Value
 | 0,_=>[]
 | _+1,[]=>[]
 | n+1, .lit (.int k x)::l => .int k x::flat n l
 | n+1, .agg l'::l=>flat n (l'++l)
 | n+1,_::l=>flat n l
def lY (cs:List Value):Obj→Obj
 | .cells _ t frozen => .cells cs.toArray t frozen
 | o=>o
noncomputable def low:Nat:=(World.holding Tryz.prog default ⟨#[], #[],[]⟩).heap.size
noncomputable def xu (os:Os):World :=
 let w0:=World.holding Tryz.prog os ⟨#[.cells #[.string ⟨#[118,97,108,117,101,32,111,117,116,32,111,102,32,114,97,110,103,101]⟩] 388, .cells #[.string ⟨#[105,110,118,97,108,105,100,32,115,121,110,116,97,120]⟩] 388, .cells #[.string ⟨#[116,104,101,32,112,111,119,101,114,32,104,97,115,32,103,111,110,101]⟩] 388, .cells #[.string ⟨#[110,111,116,104,105,110,103,32,105,115,32,115,116,111,114,101,100]⟩] 388], #[],[]⟩
 { w0 with heap:=(((((((((((w0.heap.modify 8 (lY (flat 1000 [Rows.laid_unicode_utf8_first]))).modify 9 (lY (flat 1000 [Rows.laid_unicode_utf8_acceptRanges (H:=Unit)]))).modify 4 (lY (flat 1000 [Rows.laid_haven_digest_roundConstants (H:=Unit)]))).modify 5 (lY (flat 1000 [Rows.laid_internal_strconv_uint64pow10 (H:=Unit)]))).modify 10 (lY (flat 1000 [Rows.laid_math_bits_deBruijn32tab (H:=Unit)]))).modify 11 (lY (flat 1000 [Rows.laid_math_bits_deBruijn64tab (H:=Unit)]))).modify 7 (lY [.iface 386 (.pointer (some ⟨low+0,0,none⟩))])).modify 6 (lY [.iface 386 (.pointer (some ⟨low+1,0,none⟩))])).modify 1 (lY [.iface 386 (.pointer (some ⟨low+2,0,none⟩))])).modify 0 (lY [.iface 386 (.pointer (some ⟨low+3,0,none⟩))])).modify 2 (lY [.iface 251 (.agg #[typeHandle Tryz.prog 64])])) }
end CardKeep
end
end Go.Proofs.YtialenebfcnkkaaGreatDoor
