/- DigW7, OwnStep, DigW8, CmdW1, SizeW1, ParW1, ParW2, ParW3, ParW4, ParW5, ParW6 -/
import Derived.Test.YtialenebfcnkkaaGreatDoorOrdJ5
import Derived.Deep.RegionLaw
import Derived.Deep.RegionHeld3
import Derived.Maps.AppendAt
import Derived.OwnWalk
import Derived.Laws.BytesArg
import Derived.Test.YtialenebfcnkkaaGreatDoorOrdJ1
import Derived.Shelf.Strings.SlTrimAscii
import Derived.BigQuiet
set_option maxHeartbeats 1000000
set_option maxRecDepth 100000
namespace Go.Proofs.YtialenebfcnkkaaGreatDoor
section
open Go.RowKit
def iv:R8:=⟨1779033703,3144134277,1013904242,2773480762,1359893119,2600822924,528734635,1541459225⟩
def blk (x:List UInt8) (k j:Nat):Int:=(((qE x)[64*k+j]?).getD 0).toNat
def gT (K:Nat→Int) (x:List UInt8):Nat→R8
 | 0=>iv
 | k+1=>R8.plus (gT K x k) (rounds (gT K x k) (wf (blk x k)) K 64)
def nb (x:List UInt8):Nat:=(qE x).length / 64
structure DU (K:Nat→Int) (x:List UInt8) (k g:Nat) (w wr:World):Prop where
 out:wr.heap[w.heap.size]? = some (.cells (sumTo iv 0) 243 (0,0))
 st:wr.heap[w.heap.size+1]? = some (.cells (gT K x k).vals 300 (0,0))
 cells:∀ j,j<(qE x).length→wr.cell? ⟨g,j,none⟩=some (.int .u8 (((qE x)[j]?).getD 0).toNat)
 gb:w.heap.size+2≤g
 gt:g<wr.heap.size
 bA:Below w.heap.size w wr
theorem PV {x:List UInt8} {g n:Nat} {w:World} (hn:n=(qE x).length) (h:∀ j,w.cell? ⟨g,j,none⟩=(cZ (qE x))[j]? ∨ n≤j):∀ j,j<(qE x).length→w.cell? ⟨g,j,none⟩=some (.int .u8 (((qE x)[j]?).getD 0).toNat):=by
 intro j hj
 rcases h j with h | h
 · rw[h,cZ,List.getElem?_map,List.getElem?_eq_getElem hj];rfl
 · omega
theorem GR {K:Nat→Int} {x:List UInt8} {k g o n:Nat} {w wr:World} (h:DU K x k g w wr) (ho:o=64*k) (hn:o+n=(qE x).length) (h64:64≤n):∀ j:Nat,j<64→wr.cell? ⟨g,o+j,none⟩=some (.int .u8 (blk x k j)):=by
 intro j hj
 subst ho
 exact h.cells (64*k+j) (by omega)
structure yw (w0 w1:World) (b:Nat) (t:TypeId) (cs:Array Value) (wr:World):Prop where
 row:wr.heap[b]? = some (.cells cs t (0,0))
 bA:Below w0.heap.size w0 wr
 oth:∀ k,k≠b→wr.heap[k]? = w1.heap[k]?
 zk:wr.heap.size=w1.heap.size
theorem yw.set {w0 w1 wr:World} {b:Nat} {t:TypeId} {cs:Array Value} (h:yw w0 w1 b t cs wr) (hlt:w0.heap.size≤b) (j:Nat) (v:Value):yw w0 w1 b t (cs.setIfInBounds j v) (wr.setCell ⟨b,j,none⟩ v) :=
 ⟨heap_setCell_same _ b j _ _ v h.row,h.bA.setCell (p:=⟨b,j,none⟩) hlt v,fun k hk=>(Below.heap_setCell _ _ _ _ hk).trans (h.oth k hk),by rw[← h.zk];simp⟩
theorem OO {w0 wr:World} {b:Nat} {t:TypeId} {s0 s1 s2 s3 s4 s5 s6 s7:Int} (n0 n1 n2 n3 n4 n5 n6 n7:Int) (h:wr.heap[b]? = some (.cells (R8.vals ⟨s0,s1,s2,s3,s4,s5,s6,s7⟩) t (0,0))) (hb:Below w0.heap.size w0 wr) (hlt:w0.heap.size≤b) :
   yw w0 wr b t (R8.vals ⟨n0,n1,n2,n3,n4,n5,n6,n7⟩) ((((((((wr.setCell ⟨b,0,none⟩ (.int .u32 n0)).setCell ⟨b,1,none⟩ (.int .u32 n1)).setCell ⟨b,2,none⟩ (.int .u32 n2)).setCell ⟨b,3,none⟩ (.int .u32 n3)).setCell ⟨b,4,none⟩ (.int .u32 n4)).setCell ⟨b,5,none⟩ (.int .u32 n5)).setCell ⟨b,6,none⟩ (.int .u32 n6)).setCell ⟨b,7,none⟩ (.int .u32 n7)):=by
 have g:yw w0 wr b t _ wr:=⟨h,hb,fun _ _=>rfl,rfl⟩
 have g8:=(((((((g.set hlt 0 (.int .u32 n0)).set hlt 1 (.int .u32 n1)).set hlt 2 (.int .u32 n2)).set hlt 3 (.int .u32 n3)).set hlt 4 (.int .u32 n4)).set hlt 5 (.int .u32 n5)).set hlt 6 (.int .u32 n6)).set hlt 7 (.int .u32 n7)
 have e:((((((((R8.vals ⟨s0,s1,s2,s3,s4,s5,s6,s7⟩).setIfInBounds 0 (.int .u32 n0)).setIfInBounds 1 (.int .u32 n1)).setIfInBounds 2 (.int .u32 n2)).setIfInBounds 3 (.int .u32 n3)).setIfInBounds 4 (.int .u32 n4)).setIfInBounds 5 (.int .u32 n5)).setIfInBounds 6 (.int .u32 n6)).setIfInBounds 7 (.int .u32 n7)=R8.vals ⟨n0,n1,n2,n3,n4,n5,n6,n7⟩:=by simp[R8.vals]
 rw[e] at g8
 exact g8
theorem oM {w:World} {b:Nat} {t:TypeId} {s0 s1 s2 s3 s4 s5 s6 s7:Int} (h:w.heap[b]? = some (.cells (R8.vals ⟨s0,s1,s2,s3,s4,s5,s6,s7⟩) t (0,0))) :
   w.cell? ⟨b,0,none⟩=some (.int .u32 s0)∧w.cell? ⟨b,1,none⟩=some (.int .u32 s1)∧w.cell? ⟨b,2,none⟩=some (.int .u32 s2)∧w.cell? ⟨b,3,none⟩=some (.int .u32 s3)∧w.cell? ⟨b,4,none⟩=some (.int .u32 s4)∧w.cell? ⟨b,5,none⟩=some (.int .u32 s5)∧w.cell? ⟨b,6,none⟩=some (.int .u32 s6)∧w.cell? ⟨b,7,none⟩=some (.int .u32 s7)
   ∧ w.frozen? ⟨b,0,none⟩=false∧w.frozen? ⟨b,1,none⟩=false∧w.frozen? ⟨b,2,none⟩=false∧w.frozen? ⟨b,3,none⟩=false∧w.frozen? ⟨b,4,none⟩=false∧w.frozen? ⟨b,5,none⟩=false∧w.frozen? ⟨b,6,none⟩=false∧w.frozen? ⟨b,7,none⟩=false :=
 ⟨(ah h 0).trans rfl,(ah h 1).trans rfl,(ah h 2).trans rfl,(ah h 3).trans rfl,(ah h 4).trans rfl,(ah h 5).trans rfl,(ah h 6).trans rfl,(ah h 7).trans rfl,ak h 0,ak h 1,ak h 2,ak h 3,ak h 4,ak h 5,ak h 6,ak h 7⟩
theorem JC {K:Nat→Int} {x:List UInt8} {k g o n c:Nat} {w wr:World} {b:Nat} {t:TypeId} {s0 s1 s2 s3 s4 s5 s6 s7:Int} (h:DU K x k g w wr) (ho:o=64*k) (hn:o+n=(qE x).length) (h64:64≤n) (hnc:n≤c)
   (hst:wr.heap[b]? = some (.cells (R8.vals ⟨s0,s1,s2,s3,s4,s5,s6,s7⟩) t (0,0))) (w1:World) (h1:w1=wr.drew) :
   Calls Tryz.prog 209 #[.slice (some ⟨g,o,none⟩) 64 c] w1 fun e w2=>e = .returned (.agg (gu (blk x k) 64))∧Below wr.heap.size wr w2∧wr.heap.size≤w2.heap.size ∧
   w2.cell? ⟨b,0,none⟩=some (.int .u32 s0)∧w2.cell? ⟨b,1,none⟩=some (.int .u32 s1)∧w2.cell? ⟨b,2,none⟩=some (.int .u32 s2)∧w2.cell? ⟨b,3,none⟩=some (.int .u32 s3)∧w2.cell? ⟨b,4,none⟩=some (.int .u32 s4)∧w2.cell? ⟨b,5,none⟩=some (.int .u32 s5)∧w2.cell? ⟨b,6,none⟩=some (.int .u32 s6)∧w2.cell? ⟨b,7,none⟩=some (.int .u32 s7)
   ∧ w2.frozen? ⟨b,0,none⟩=false∧w2.frozen? ⟨b,1,none⟩=false∧w2.frozen? ⟨b,2,none⟩=false∧w2.frozen? ⟨b,3,none⟩=false∧w2.frozen? ⟨b,4,none⟩=false∧w2.frozen? ⟨b,5,none⟩=false∧w2.frozen? ⟨b,6,none⟩=false∧w2.frozen? ⟨b,7,none⟩=false:=by
 subst h1
 refine (F7 (blk x k) g o c (by omega) wr.drew (by exact h.gt) (GR (wr:=wr) h ho hn h64)).mono ?_
 rintro e w2 ⟨rfl,hb2⟩
 have hb2':Below wr.heap.size wr w2:=(Below.refl _ wr).drew.trans hb2
 exact ⟨rfl,hb2',hb2'.size,oM ((hb2'.block _ (Array.getElem?_eq_some_iff.1 hst).1).trans hst)⟩
theorem Z8 {s0 s1 s2 s3 s4 s5 s6 s7 n0 n1 n2 n3 n4 n5 n6 n7:Int} {b K:Nat→Int} (hn:Hid (R8.plus ⟨s0,s1,s2,s3,s4,s5,s6,s7⟩ (rounds ⟨s0,s1,s2,s3,s4,s5,s6,s7⟩ (wf b) K 64)=⟨n0,n1,n2,n3,n4,n5,n6,n7⟩)) (w:World)
   (hg:4<w.heap.size) (hK:∀ i:Nat,i<64→w.cell? ⟨4,i,none⟩=some (.int .u32 (K i))) :
   Calls Tryz.prog 208 #[.agg #[.int .u32 s0, .int .u32 s1, .int .u32 s2, .int .u32 s3, .int .u32 s4, .int .u32 s5, .int .u32 s6, .int .u32 s7], .agg (gu b 64)] w fun e w'=>e = .returned (.agg #[.int .u32 n0, .int .u32 n1, .int .u32 n2, .int .u32 n3, .int .u32 n4, .int .u32 n5, .int .u32 n6, .int .u32 n7])∧Below w.heap.size w w':=by
 refine (WR _ _ _ _ _ _ _ _ (gu b 64) (wf b) K (fun i hi=>lI _ i hi 64 (by omega)) w hg hK).mono ?_
 rintro e w' ⟨he,hb⟩
 rw[hn.out] at he
 exact ⟨he,hb⟩
theorem ED (R:R8):(sumTo R 32).all (·.oneCell')=true:=Array.all_eq_true_iff_forall_mem.2 (xV R 32)
theorem bytes_at {s0 s1 s2 s3 s4 s5 s6 s7:Int} {R:R8} (hR:Hid (R=⟨s0,s1,s2,s3,s4,s5,s6,s7⟩)) (w:World) :
   Calls Tryz.prog 210 #[.agg #[.int .u32 s0, .int .u32 s1, .int .u32 s2, .int .u32 s3, .int .u32 s4, .int .u32 s5, .int .u32 s6, .int .u32 s7]] w fun e w'=>e = .returned (.agg (sumTo R 32))∧Below w.heap.size w w':=by
 have h:=Oo R w
 rw[hR.out] at h ⊢
 exact h
theorem Ud {K:Nat→Int} {x:List UInt8} {k g:Nat} {w wr w2 w3:World} {s0 s1 s2 s3 s4 s5 s6 s7 n0 n1 n2 n3 n4 n5 n6 n7:Int} (h:DU K x k g w wr) (hb2:Below wr.heap.size wr w2) (hb3:Below w2.heap.size w2 w3)
   (hr:gT K x k=⟨s0,s1,s2,s3,s4,s5,s6,s7⟩) (hr2:R8.plus ⟨s0,s1,s2,s3,s4,s5,s6,s7⟩ (rounds ⟨s0,s1,s2,s3,s4,s5,s6,s7⟩ (wf (blk x k)) K 64)=⟨n0,n1,n2,n3,n4,n5,n6,n7⟩) :
   DU K x (k+1) g w ((((((((w3.setCell ⟨w.heap.size+1,0,none⟩ (.int .u32 n0)).setCell ⟨w.heap.size+1,1,none⟩ (.int .u32 n1)).setCell ⟨w.heap.size+1,2,none⟩ (.int .u32 n2)).setCell ⟨w.heap.size+1,3,none⟩ (.int .u32 n3)).setCell ⟨w.heap.size+1,4,none⟩ (.int .u32 n4)).setCell ⟨w.heap.size+1,5,none⟩ (.int .u32 n5)).setCell ⟨w.heap.size+1,6,none⟩ (.int .u32 n6)).setCell ⟨w.heap.size+1,7,none⟩ (.int .u32 n7)):=by
 have hst:=h.st
 rw[hr] at hst
 have hlt:w.heap.size+1<wr.heap.size:=(Array.getElem?_eq_some_iff.1 hst).1
 have hb:Below wr.heap.size wr w3:=hb2.trans (hb3.mono hb2.size)
 have hbw:Below w.heap.size w w3:=h.bA.trans (hb.mono (by omega))
 have R:=OO (w0:=w) n0 n1 n2 n3 n4 n5 n6 n7 ((hb.block _ hlt).trans hst) hbw (by omega)
 refine ⟨?_,?_,fun j hj => ?_,h.gb,?_,R.bA⟩
 · rw[R.oth _ (by omega),hb.block _ (by omega)];exact h.out
 · rw[R.row,gT,hr,hr2]
 · have:=h.cells j hj
   rw[← this]
   have e:((((((((w3.setCell ⟨w.heap.size+1,0,none⟩ (.int .u32 n0)).setCell ⟨w.heap.size+1,1,none⟩ (.int .u32 n1)).setCell ⟨w.heap.size+1,2,none⟩ (.int .u32 n2)).setCell ⟨w.heap.size+1,3,none⟩ (.int .u32 n3)).setCell ⟨w.heap.size+1,4,none⟩ (.int .u32 n4)).setCell ⟨w.heap.size+1,5,none⟩ (.int .u32 n5)).setCell ⟨w.heap.size+1,6,none⟩ (.int .u32 n6)).setCell ⟨w.heap.size+1,7,none⟩ (.int .u32 n7)).heap[g]? = wr.heap[g]? := by
     rw[R.oth _ (by have:=h.gb;omega),hb.block _ h.gt]
   exact World.cell?_of_block e
 · rw[R.zk];exact Nat.lt_of_lt_of_le h.gt hb.size
theorem TB {c o g:Nat}:∃ o',(if c=64 then some (⟨g,o,none⟩:Addr) else some ⟨g,o+64,none⟩)=some ⟨g,o',none⟩∧(c=64∨o'=o+64):=by
 by_cases h:c=64
 · exact ⟨o,by rw[if_pos h], .inl h⟩
 · exact ⟨o+64,by rw[if_neg h], .inr rfl⟩
theorem Xq (x:List UInt8) (hx:x.length≤1000000) (K:Nat→Int) (w:World) (hg:4<w.heap.size)
   (hK:∀ i:Nat,i<64→w.cell? ⟨4,i,none⟩=some (.int .u32 (K i))) :
   Calls Tryz.prog 156 #[.string ⟨x.toArray⟩] w fun e w'=>e = .returned (.agg (sumTo (gT K x (nb x)) 32))∧Below w.heap.size w w':=by
 go_enter Tryz.func156,Tryz.ntmps156
 go_wp2_with (first
   | (go_at_call 207;refine (Xb x hx _).mono ?_;rintro e w1 ⟨v,rfl,hown,hb⟩;obtain ⟨g1,GV,rfl,hg1,hg2,hc1,hc2,hcell⟩:=hown.shape;clear hown))
 have HS:Hid (DU K x 0 g1 w w1):=by
   have a1:=Below.alloc (Below.refl _ w) (Nat.le_refl _) (.cells (sumTo iv 0) 243)
   have e0:∀ (u:World) (q:Obj),(u.alloc q).heap.size=u.heap.size+1:=fun u q=>by simp
   have e1:=e0 w (.cells (sumTo iv 0) 243)
   have a2:=Below.alloc a1 (by rw[e1];omega) (.cells (gT K x 0).vals 300)
   have e2:((w.alloc (.cells (sumTo iv 0) 243)).alloc (.cells (gT K x 0).vals 300)).heap.size=w.heap.size+2:=by rw[e0,e1]
   have hb':Below ((w.alloc (.cells (sumTo iv 0) 243)).alloc (.cells (gT K x 0).vals 300)).heap.size ((w.alloc (.cells (sumTo iv 0) 243)).alloc (.cells (gT K x 0).vals 300)) w1:=hb
   refine hide ⟨?_,?_,PV rfl hcell,?_,hg2,a2.trans (hb'.mono (by rw[e2];omega))⟩
   · rw[hb'.block _ (by rw[e2];omega),Below.heap_alloc _ _ _ (by omega),heap_alloc_new]
   · rw[hb'.block _ (by rw[e2];omega),← e1,heap_alloc_new]
   · have:((w.alloc (.cells (sumTo iv 0) 243)).alloc (.cells (gT K x 0).vals 300)).heap.size≤g1:=hg1
     omega
 clear hb hg1 hg2 hcell
 have hmod:=TM x
 generalize hL:(qE x).length=L at *
 have HL:=hide hL;clear hL
 go_loopw [4] (fun v wr=>∃ (k o n c:Nat),v = .slice (some ⟨g1,o,none⟩) n c∧Hid ((n=0∨o=64*k)∧64*k+n=L)∧n≤c∧c≤maxLen∧Hid (DU K x k g1 w wr))
   (fun v _=>lenOf v)
 case atStart=>exact ⟨0,0,L,GV,rfl,hide ⟨.inr rfl,by omega⟩,hc1,hc2,HS⟩
 case round =>
   clear HS hc1 hc2
   obtain ⟨k,o,n,c,rfl,HN,hnc,hcm,HW⟩:=hrel
   unfold maxLen at hcm
   by_cases hlt:0<n
   · have h64:64≤n:=by have:=HN.out;omega
     obtain ⟨r,hr⟩:∃ r,gT K x k=r:=⟨_,rfl⟩
     obtain ⟨s0,s1,s2,s3,s4,s5,s6,s7⟩:=r
     obtain ⟨r,hr2⟩:∃ r,R8.plus ⟨s0,s1,s2,s3,s4,s5,s6,s7⟩ (rounds ⟨s0,s1,s2,s3,s4,s5,s6,s7⟩ (wf (blk x k)) K 64)=r:=⟨_,rfl⟩
     obtain ⟨n0,n1,n2,n3,n4,n5,n6,n7⟩:=r
     have HR2:=hide hr2;clear hr2
     have ho:o=64*k:=by have:=HN.out;omega
     have HO:=hide ho;clear ho
     have hst:=HW.out.st
     rw[hr] at hst
     have HR:=hide hr;clear hr
     obtain ⟨k0,k1,k2,k3,k4,k5,k6,k7,f0,f1,f2,f3,f4,f5,f6,f7⟩:=oM hst
     have hB:w.heap.size+1<wr.heap.size:=(Array.getElem?_eq_some_iff.1 hst).1
     have HST:=hide hst;clear hst
     have hgt:=HW.out.gt
     have hg':4<wr.heap.size:=by omega
     have HKr:Hid (∀ i:Nat,i<64→wr.cell? ⟨4,i,none⟩=some (.int .u32 (K i))):=hide fun i hi=>(HW.out.bA.cell (p:=⟨4,i,none⟩) hg).trans (hK i hi)
     have HK0:=hide hK;clear hK
     go_wp2_with fail
     go_region_with (first
       | (go_at_call 209;refine (JC HW.out HO.out (by rw[HL.out,HO.out];exact HN.out.2) h64 hnc HST.out _ rfl).mono ?_;rintro e w2 ⟨rfl,hb2,hs2,l0,l1,l2,l3,l4,l5,l6,l7,m0,m1,m2,m3,m4,m5,m6,m7⟩;have hz2:w.heap.size+1<w2.heap.size:=by omega)
       | (go_at_call 208;refine (Z8 HR2 _ (by omega) (fun i hi=>(hb2.cell (p:=⟨4,i,none⟩) (by exact hg')).trans (HKr.out i hi))).mono ?_;rintro e w3 ⟨rfl,hb3⟩;obtain ⟨q0,q1,q2,q3,q4,q5,q6,q7,p0,p1,p2,p3,p4,p5,p6,p7⟩:=oM ((hb3.block _ hz2).trans ((hb2.block _ (by exact hB)).trans HST.out))))
     all_goals go_wp2_with fail
     all_goals
       go_roundw
       case rel =>
         obtain ⟨o',ho',ho2⟩:=TB (c:=c) (o:=o) (g:=g1)
         refine ⟨k+1,o',n-64,c-64,by rw[ho'],?_,by omega,by unfold maxLen;omega,?_⟩
         · have h1:=HN.out
           have h2:=HO.out
           exact hide (by omega)
         · exact hide (Ud HW.out hb2 hb3 HR.out HR2.out)
       case measure=>simp[lenOf];omega
   · obtain rfl:n=0:=by omega
     have hk:k=nb x:=by have:=HN.out;have:=HL.out;unfold nb;omega
     subst hk
     have hst:=HW.out.st
     have hrw:=HW.out.out
     have hbel:=HW.out.bA
     obtain ⟨R,hr⟩:∃ R,gT K x (nb x)=R:=⟨_,rfl⟩
     rw[hr] at hst
     have QT:=hide hr
     clear hr
     obtain ⟨r,hr⟩:∃ r:R8,R=r:=⟨_,rfl⟩
     obtain ⟨s0,s1,s2,s3,s4,s5,s6,s7⟩:=r
     have HR:=hide hr
     rw[hr] at hst
     clear hr
     obtain ⟨k0,k1,k2,k3,k4,k5,k6,k7,f0,f1,f2,f3,f4,f5,f6,f7⟩:=oM hst
     have HRW:=hide hrw;clear hrw hst
     have abX:w.heap.size<wr.heap.size:=(Array.getElem?_eq_some_iff.1 HRW.out).1
     have YR:=hide (ED R)
     go_wp2_with (first
       | (go_at_call 210;refine (bytes_at HR _).mono ?_;rintro e w2 ⟨rfl,hb2⟩;have H3:=hide ((hb2.block _ abX).trans HRW.out);have H4:=hide (hbel.trans (hb2.mono (Nat.le_of_lt abX)));clear hb2)
       | (refine wpList_store_row rfl 243 _ _ rfl w.heap.size (sumTo R 32) rfl rfl _ (sumTo iv 0) H3.out (mH R 32) ((fH iv 0).trans (fH R 32).symm) YR.out ?_))
     have h3:=setRow_heap w2 w.heap.size _ (sumTo R 32) _ _ H3.out
     have hb3:=below_setRow H4.out (g:=w.heap.size) (by omega) (sumTo R 32)
     refine bodyPost_ret (results_cell_row rfl _ _ w.heap.size _ _ (0,0) _ rfl h3 Tryz.underlying243 rfl (mH R 32)) rfl ⟨by rw[QT.out],hb3⟩
end
section
open Go
theorem bF {P:Program} {ops:Array Oper} {o:Oper} {a:Act} {w:World} {K:Act→World→Prop} {Q:Exit→Act→World→Prop} {E:Prop}
   (hg:o.guard=none) (s x:Operand) (t:TypeId) (hop:o.op=Op.call { callee:=Callee.builtin Builtin.append,args := #[s,x],argTypes := #[t,t] })
   (base:Nat) (e:TypeId) (i:TypeInfo) (z:Value) (size bytes:Nat) (ht:P.underlying t=some (.slice e)) (hi:P.info? e=some i) (hz:i.zero=some z)
   (hsize:i.size=size) (hby:i.bytes=bytes) (hzs:z.cells.size=size) (hsz:0<size)
   (v:Value) (n:Nat) (xs:List Value) (hs:a.eval s=v) (hown:w.ownsRow base e size v n xs)
   (ad:Addr) (m c:Nat) (news:List Value) (hx:a.eval x = .slice (some ad) m c) (hl:news.length=m*size) (hnews:∀ j u,news[j]? = some u→w.cell? (ad.add j)=some u) (h1:∀ u∈news,u.oneCell'=true)
   (h63:n+m≤maxLen) (hbytes:(n+m)*bytes≤140737488355328) (hbase:base≤w.heap.size)
   (hK:∀ v' w',w'.ownsRow base e size v' (n+m) (xs++news)→w.grownBy w' v.ownBlock→(v' = .slice none 0 0 ↔ v = .slice none 0 0∧m=0)→(v'.ownBlock=v.ownBlock∨v'.ownBlock=some w.heap.size)→K (a.put o.dst v') w') :
   if Region.wanted o (yielded ops a.tmps)=true then Oper.wp P o a w K Q else E:=by
 have hw:Region.wanted o (yielded ops a.tmps)=true:=by simp[Region.wanted,hg]
 rw[if_pos hw]
 obtain ⟨v',w',hrun,r1,r2,r3,r4⟩:=run_append_own_at (P:=P) w base t o.type e i z size bytes ht hi hz hsize hby hzs hsz v n xs hown ad m c news hl hnews h1 h63 hbytes hbase
 unfold Oper.wp
 simp[execOp,hop,resolve,invoke,builtin,hs,hx,hrun,Result.andThen]
 exact hK v' w' r1 r2 r3 r4
end
section
open Go.RowKit
def Wv:List UInt8:=[48,49,50,51,52,53,54,55,56,57,97,98,99,100,101,102]
def FE (n:Int):UInt8:=Wv.getD n.toNat 48
def gD (r:R8):Nat→List UInt8
 | 0=>[]
 | k+1=>gD r k++[FE (jO r k / 16),FE (jO r k%16)]
def short (K:Nat→Int) (x:List UInt8):List UInt8:=gD (gT K x (nb x)) 8
theorem qI (r:R8):∀ k,(gD r k).length=2*k
 | 0=>rfl
 | k+1=>by rw[gD,List.length_append,qI r k];simp;omega
theorem DX (r:R8) (k:Nat):0≤jO r k∧jO r k<256:=by unfold jO;omega
theorem EF (r:R8) (j:Nat) (hj:j<32):∀ k,j<k→(sumTo r k)[j]? = some (.int .u8 (jO r j))
 | 0,h=>by omega
 | k+1,h=>by
   rw[sumTo,Array.getElem?_setIfInBounds]
   by_cases e:k=j
   · subst e;simp[fH,hj]
   · rw[if_neg e];exact EF r j hj k (by omega)
theorem Sg (n:Nat) (h:n<16):∃ hh,(⟨#[48,49,50,51,52,53,54,55,56,57,97,98,99,100,101,102]⟩:ByteArray)[n]'hh=FE (n:Int):=by
 refine ⟨by simpa [ByteArray.size] using h,?_⟩
 rcases (show n=0∨n=1∨n=2∨n=3∨n=4∨n=5∨n=6∨n=7∨n=8∨n=9∨n=10∨n=11∨n=12∨n=13∨n=14∨n=15 from by omega) with rfl | rfl | rfl | rfl | rfl | rfl | rfl | rfl | rfl | rfl | rfl | rfl | rfl | rfl | rfl | rfl<;>rfl
theorem XZ:∀ n:Nat,n<256→bits BinOp.and IntKind.u8 (n:Int) 15=((n%16:Nat):Int):=by
 have h:∀ n:Fin 256,bits BinOp.and IntKind.u8 (n.val:Int) 15=((n.val%16:Nat):Int):=by decide +kernel
 exact fun n hn=>h ⟨n,hn⟩
structure Ob (b:Nat) (W:Array Value) (w wr:World):Prop where
 st:wr.heap[b]? = some (.cells W 243 (0,0))
 bA:Below w.heap.size w wr
theorem cell_two_new (w:World) (x y:Value) (t:TypeId):∀ j u,[x,y][j]? = some u→(w.alloc (.cells #[x,y] t)).cell? ((⟨w.heap.size,0,none⟩:Addr).add j)=some u:=by
 intro j u h
 have hadd:(⟨w.heap.size,0,none⟩:Addr).add j=⟨w.heap.size,j,none⟩:=by unfold Addr.add;split<;>simp_all
 rw[hadd,ah (heap_alloc_new w _)]
 simpa using h
theorem Ob.grow {b B:Nat} {W:Array Value} {w wr w3:World} {o:Obj} {g n c:Nat} (h:Ob b W w wr) (hb:b<wr.heap.size) (hB:B=b+1) (hg:B≤g) (hgr:(wr.alloc o).drew.grownBy w3 (Value.slice (some ⟨g,0,none⟩) n c).ownBlock) (hw:w.heap.size≤b:=by omega):Ob b W w w3:=by
 refine ⟨?_,?_⟩
 · have h1:=hgr.block b (by simp;omega) (by simp[Value.ownBlock];omega)
   rw[h1]
   exact (Below.heap_alloc wr o b hb).trans h.st
 · exact ((h.bA.alloc h.bA.size o).drew).grown hgr (by have:=h.bA.size;simp;omega) (fun k hk=>by simp[Value.ownBlock] at hk;omega)
theorem Xn {wr:World} {B:Nat} {v:Value} {R:R8} {k n m:Nat} {q1:n<(⟨#[48,49,50,51,52,53,54,55,56,57,97,98,99,100,101,102]⟩:ByteArray).size} {q2:m<(⟨#[48,49,50,51,52,53,54,55,56,57,97,98,99,100,101,102]⟩:ByteArray).size}
   (hn:jO R k / 16=n) (hm:jO R k%16=m) (h1:(⟨#[48,49,50,51,52,53,54,55,56,57,97,98,99,100,101,102]⟩:ByteArray)[n]'q1=FE n) (h2:(⟨#[48,49,50,51,52,53,54,55,56,57,97,98,99,100,101,102]⟩:ByteArray)[m]'q2=FE m)
   (h:wr.ownsRow B 5 1 v (2*k+2) (cZ (gD R k)++[Value.int .u8 ((⟨#[48,49,50,51,52,53,54,55,56,57,97,98,99,100,101,102]⟩:ByteArray)[n]'q1).toNat,Value.int .u8 ((⟨#[48,49,50,51,52,53,54,55,56,57,97,98,99,100,101,102]⟩:ByteArray)[m]'q2).toNat])) :
   wr.ownsRow B 5 1 v (2*(k+1)) (cZ (gD R (k+1))):=by
 rw[h1,h2] at h
 have e:cZ (gD R (k+1))=cZ (gD R k)++[Value.int .u8 (FE n).toNat,Value.int .u8 (FE m).toNat]:=by rw[gD,tF,hn,hm];rfl
 rw[e];exact h
theorem Qk {wr:World} {B g c:Nat} {l:List UInt8} (hl:l.length=16) (h:wr.ownsRow B 5 1 (.slice (some ⟨g,0,none⟩) 16 c) 16 (cZ l)) :
   (convert 47 9 (.slice (some ⟨g,0,none⟩) 16 c)).run Tryz.prog wr = .ok (.string ⟨l.toArray⟩) wr:=by
 have:=run_convert_bytes_arg (P:=Tryz.prog) wr 47 5 Tryz.underlying47 Tryz.underlying5 g 0 16 c (l.map fun c=>(c.toNat:Int)) (by simp[hl]) (fun i hi=>by
   rw[Nat.zero_add,h.cellAt i (by omega),cZ,List.getElem?_map,List.getElem?_eq_getElem (by omega)]
   simp[List.getD,List.getElem?_eq_getElem (show i<l.length by omega)]) 9 Tryz.underlying9
 rw[this]
 congr 2
 apply nT
 simp[strOfNums,Function.comp_def]
theorem xP (x:List UInt8) (hx:x.length≤1000000) (K:Nat→Int) (w:World) (hg:4<w.heap.size)
   (hK:∀ i:Nat,i<64→w.cell? ⟨4,i,none⟩=some (.int .u32 (K i))) :
   Calls Tryz.prog 88 #[.string ⟨x.toArray⟩] w fun e w'=>e = .returned (.string ⟨(short K x).toArray⟩)∧Below w.heap.size w w':=by
 obtain ⟨i0,hi,hz0,hz1,hz2⟩:=aW Ed
 obtain ⟨R,hR⟩:∃ R,gT K x (nb x)=R:=⟨_,rfl⟩
 have HR:=hide hR;clear hR
 obtain ⟨W,hW⟩:∃ W,sumTo R 32=W:=⟨_,rfl⟩
 have HW:=hide hW;clear hW
 go_enter Tryz.func88,Tryz.ntmps88
 have hsz:W.size=32:=by rw[← HW.out];exact fH R 32
 have HI:Hid ((Tryz.prog.info? 243).map (·.size)=some W.size):=hide (by rw[hsz];kernel_rfl)
 have HZ:Hid ((sumTo iv 0).size=W.size):=hide (by rw[hsz,fH])
 have YR:Hid (W.all (·.oneCell')=true):=hide (by rw[← HW.out];exact ED R)
 have wQ:=hide hsz;clear hsz
 go_wp2_with (first
   | (go_at_call 156;refine (Xq x hx K _ hg hK).mono ?_;rintro e w1 ⟨he,hb1⟩;rw[HR.out,HW.out] at he;subst he)
   | (refine wpList_store_row rfl 243 _ _ rfl w1.heap.size W rfl rfl _ (sumTo iv 0) (heap_alloc_new w1 _) HI.out HZ.out YR.out ?_)
   | (refine wpList_make_own _ rfl _ _ _ rfl (w1.heap.size+1) 5 i0 (.int .u8 0) 1 Tryz.underlying47 hi hz0 hz1 _ _ 16 16 rfl rfl rfl (by omega) (by unfold maxLen;omega) (by simp) ?_;intro w2 hown hgrow))
 have HS:Hid (Ob w1.heap.size W w w2):=by
   have h0:=heap_alloc_new w1 (.cells (sumTo iv 0) 243)
   have h1:=setRow_heap _ w1.heap.size _ W _ _ h0
   have b1:Below w.heap.size w (w1.alloc (.cells (sumTo iv 0) 243)):=hb1.alloc hb1.size _
   have b2:=below_setRow b1 (g:=w1.heap.size) hb1.size W
   have e0:((w1.alloc (.cells (sumTo iv 0) 243)).setRow w1.heap.size W).heap.size=w1.heap.size+1:=by simp
   refine hide ⟨?_,b2.grown hgrow (by rw[e0];have:=hb1.size;omega) (fun k hk=>by cases hk)⟩
   have:=hgrow.block w1.heap.size (by simp) (by simp)
   exact this.trans h1
 have hw2:w1.heap.size+1≤w2.heap.size:=by
   have:=hgrow.size;simp at this;omega
 have hs1:w.heap.size≤w1.heap.size:=hb1.size
 clear hgrow hb1
 have e1:((w1.alloc (.cells (sumTo iv 0) 243)).setRow w1.heap.size W).heap.size=w1.heap.size+1:=by simp
 go_loopw [4,12] (fun v i wr=>∃ (k g c:Nat),k≤8∧i = .int .i64 k∧v = .slice (some ⟨g,0,none⟩) (2*k) c∧wr.ownsRow (w1.heap.size+1) 5 1 v (2*k) (cZ (gD R k))∧w1.heap.size+1≤wr.heap.size∧Hid (Ob w1.heap.size W w wr))
   (fun _ i _=>8-(intOf i).toNat)
 case atStart=>exact ⟨0,_,16,by omega,rfl,rfl,by simpa [gD,cZ] using hown,hw2,HS⟩
 case round =>
   clear hown HS hw2 e1
   obtain ⟨k,g,c,hk,rfl,rfl,hown,hsz,HX⟩:=hrel
   by_cases hlt:k<8
   · obtain ⟨b,hb⟩:∃ b:Nat,jO R k=(b:Int):=⟨(jO R k).toNat,by have:=DX R k;omega⟩
     have hb256:b<256:=by have:=DX R k;omega
     have hcell:wr.cell? ⟨w1.heap.size,k,none⟩=some (.int .u8 (b:Int)):=by rw[ah HX.out.st k,← HW.out,EF R k (by omega) 32 (by omega),hb]
     have J8:=hide hb;clear hb
     have b8:(k:Int)<8:=by omega
     go_wp2_with fail
     have hown1:wr.drew.ownsRow (w1.heap.size+1) 5 1 (.slice (some ⟨g,0,none⟩) (2*k) c) (2*k) (cZ (gD R k)):=hown
     obtain ⟨n,hn,hn16⟩:∃ n:Nat,(b:Int) / 16=(n:Int)∧(n:Int)<16:=⟨b / 16,by omega,by omega⟩
     obtain ⟨m,hm,ZV⟩:∃ m:Nat,bits BinOp.and IntKind.u8 (b:Int) 15=(m:Int)∧(m:Int)<16:=⟨b%16,XZ b hb256,by omega⟩
     have HM:Hid ((b:Int)%16=m):=hide (by have:=(XZ b hb256).symm.trans hm;omega)
     obtain ⟨q1,hq1⟩:=Sg n (by omega)
     obtain ⟨q2,hq2⟩:=Sg m (by omega)
     have Rk:=hide hq1
     have CQ:=hide hq2
     clear hq1 hq2
     go_region_law (refine bF rfl _ _ 47 rfl (w1.heap.size+1) 5 i0 (.int .u8 0) 1 1 Tryz.underlying47 hi hz0 hz1 hz2 rfl (by decide) _ _ _ rfl (hown1.alloc _) ⟨wr.heap.size,0,none⟩ 2 2 [_,_] rfl rfl (cell_two_new _ _ _ _) (fun x hx=>by simp at hx;rcases hx with rfl | rfl<;>rfl) (by unfold maxLen;omega) (by omega) (by simp;omega) ?_;intro v' w3 hown' hgrow3 hnil3 hblk3)
     all_goals go_wp2_with fail
     all_goals
       go_roundw
       case rel =>
         obtain ⟨g3,c3,hv3⟩:=PO hown' (by omega)
         have hgb:=(hown.lt g rfl).1
         have FI:=Xn (by rw[J8.out];exact hn) (by rw[J8.out];exact HM.out) Rk.out CQ.out hown'
         refine ⟨k+1,g3,c3,by omega,by go_num,hv3,FI,?_,hide (Ob.grow HX.out (by omega) (by omega) hgb hgrow3)⟩
         have:=hgrow3.size;simp at this;omega
       case measure=>simp[intOf];omega
   · obtain rfl:k=8:=by omega
     have hcv:=Qk (qI R 8) hown
     rw[show 2*8=16 from rfl]
     have HH:=HX.out.bA
     have HF:Hid (short K x=gD R 8):=hide (by rw[short,HR.out])
     clear hown
     go_wp2_with fail
     go_ret
     exact ⟨Nq (by rw[HF.out]),HH⟩
theorem xX (b g o c:Nat) (p q:List UInt8) (hq:q.length≤2000) (w:World)
   (hb:w.heap[b]? = some (.cells #[.int .i64 2, .string ⟨p.toArray⟩, .string ⟨#[]⟩, .string ⟨#[]⟩] 317 (0,0)))
   (h2:w.cell? ⟨g,o+2,none⟩=some (.string ⟨q.toArray⟩)) :
   Calls Tryz.prog 310 #[.pointer (some ⟨b,0,none⟩), .slice (some ⟨g,o,none⟩) 3 c] w fun e w'=>e = .returned (.bool (Wd.isWord q))∧Below (w.setCell ⟨b,2,none⟩ (.string ⟨q.toArray⟩)).heap.size (w.setCell ⟨b,2,none⟩ (.string ⟨q.toArray⟩)) w':=by
 have k0:=(ah hb 0).trans (show _=some (.int .i64 2) from rfl)
 have k2:=(ah hb 2).trans (show _=some (.string ⟨#[]⟩) from rfl)
 have f2:=ak hb 2
 have HB:=hide hb;clear hb
 go_enter Tryz.func310,Tryz.ntmps310
 go_wp2_with (go_at_call 315;refine (Bz q hq _).mono ?_;rintro e w' ⟨rfl,hbw⟩)
 go_ret
 exact ⟨rfl,hbw⟩
theorem ay {w:World} {b:Nat} {t:TypeId} {a0 a1 a2 a3:Value} (h:w.heap[b]? = some (.cells #[a0,a1,a2,a3] t (0,0))) :
   w.cell? ⟨b,0,none⟩=some a0∧w.cell? ⟨b,1,none⟩=some a1∧w.cell? ⟨b,2,none⟩=some a2∧w.cell? ⟨b,3,none⟩=some a3∧w.frozen? ⟨b,0,none⟩=false∧w.frozen? ⟨b,1,none⟩=false∧w.frozen? ⟨b,2,none⟩=false∧w.frozen? ⟨b,3,none⟩=false :=
 ⟨(ah h 0).trans rfl,(ah h 1).trans rfl,(ah h 2).trans rfl,(ah h 3).trans rfl,ak h 0,ak h 1,ak h 2,ak h 3⟩
structure dH (w:World) (a b c d a' b' c' d':Value) (w1:World):Prop where
 out:w1.heap[w.heap.size]? = some (.cells #[a,b,c,d] 317 (0,0))
 cmd:w1.heap[w.heap.size+1]? = some (.cells #[a',b',c',d'] 317 (0,0))
 bA:Below w.heap.size w w1
theorem dH.begin (w:World) (a b c d a' b' c' d':Value):dH w a b c d a' b' c' d' ((w.alloc (.cells #[a,b,c,d] 317)).alloc (.cells #[a',b',c',d'] 317)):=by
 obtain ⟨h0,h1,h2⟩:=Rz w (.cells #[a,b,c,d] 317) (.cells #[a',b',c',d'] 317)
 exact ⟨h0,h1,h2⟩
theorem dH.set2 {w w1:World} {a b c d a' b' c' d':Value} (h:dH w a b c d a' b' c' d' w1) (v:Value):dH w a b c d a' b' v d' (w1.setCell ⟨w.heap.size+1,2,none⟩ v) :=
 ⟨(Below.heap_setCell _ _ _ _ (by simp)).trans h.out,heap_setCell_same _ _ 2 _ _ v h.cmd,h.bA.setCell (p:=⟨w.heap.size+1,2,none⟩) (by simp) v⟩
theorem dH.on {w w1 w2:World} {a b c d a' b' c' d':Value} (h:dH w a b c d a' b' c' d' w1) (hb:Below w1.heap.size w1 w2):dH w a b c d a' b' c' d' w2:=by
 have h1:w.heap.size+1<w1.heap.size:=(Array.getElem?_eq_some_iff.1 h.cmd).1
 exact ⟨(hb.block _ (by omega)).trans h.out,(hb.block _ h1).trans h.cmd,h.bA.trans (hb.mono (by omega))⟩
theorem dH.told {w w1:World} {a b c d a' b' c' d':Value} (h:dH w a b c d a' b' c' d' w1):∃ w2,w2=(((w1.setCell ⟨w.heap.size,0,none⟩ a').setCell ⟨w.heap.size,1,none⟩ b').setCell ⟨w.heap.size,2,none⟩ c').setCell ⟨w.heap.size,3,none⟩ d' ∧
   w2.heap[w.heap.size]? = some (.cells #[a',b',c',d'] 317 (0,0))∧Below w.heap.size w w2 :=
 ⟨_,rfl,heap_setCell_same _ _ 3 _ _ d' (heap_setCell_same _ _ 2 _ _ c' (heap_setCell_same _ _ 1 _ _ b' (heap_setCell_same _ _ 0 _ _ a' h.out))),(((h.bA.setCell (p:=⟨w.heap.size,0,none⟩) (Nat.le_refl _) _).setCell (p:=⟨w.heap.size,1,none⟩) (Nat.le_refl _) _).setCell (p:=⟨w.heap.size,2,none⟩) (Nat.le_refl _) _).setCell (p:=⟨w.heap.size,3,none⟩) (Nat.le_refl _) _⟩
def Dy:List UInt8:=[48,49,50,51,52,53,54,55,56,57]
theorem rM (x:List UInt8) (hx:x.length≤2000) (w:World) :
   Calls Tryz.prog 312 #[.string ⟨x.toArray⟩, .string ⟨#[48,49,50,51,52,53,54,55,56,57]⟩] w fun e w'=>e = .returned (.string ⟨(Lib.trimS x Dy).toArray⟩)∧Below w.heap.size w w' :=
 Any.strings_Trim_laid Tryz.lays160 (by kernel_rfl) ⟨x.toArray⟩ ⟨#[48,49,50,51,52,53,54,55,56,57]⟩ w (by simp[ByteArray.size];omega) (by decide) (ascii_of_all (by decide))
theorem GL (x:List UInt8) (n:Int) (hl:x.length≤4) (h:Lib.atoi x=some n) (w:World) :
   Calls Tryz.prog 154 #[.string ⟨x.toArray⟩] w fun e w'=>e = .returned (.tuple #[.int .i64 n, .nilIface])∧Below w.heap.size w w':=by
 refine (Tryz.strconv_Atoi ⟨x.toArray⟩ n (by simp[ByteArray.size];omega) h w).mono ?_
 rintro e w' ⟨rfl,t,rfl⟩
 exact ⟨rfl,below_bytesWorld w _ t⟩
theorem Xo (x:List UInt8) (n:Int) (h1:1≤x.length) (h4:x.length≤4) (hd:Wd.jS (fun c=>(c.toNat:Int)==48) x=false) (ht:Lib.trimS x Dy=[]) (ha:Lib.atoi x=some n) (w:World) :
   Calls Tryz.prog 308 #[.string ⟨x.toArray⟩] w fun e w'=>e = .returned (.tuple #[.int .i64 n, .bool true])∧Below w.heap.size w w':=by
 obtain ⟨c0,hc0,hhead⟩:∃ c0,(⟨x.toArray⟩:ByteArray)[0]'(by show 0<x.length;omega)=c0∧∀ f,Wd.jS f x=f c0:=by
   cases x with
   | nil=>simp at h1
   | cons c l=>exact ⟨c,rfl,fun _=>rfl⟩
 rw[hhead] at hd
 have he:(x==[])=false:=by cases x with
   | nil=>simp at h1
   | cons c l=>rfl
 have b4 : ¬ (4:Int)<x.length:=by omega
 have hp:(0:Int)<x.length:=by omega
 have HA:=hide ha;have HT:=hide ht
 clear ha ht hhead
 go_enter Tryz.func308,Tryz.ntmps308
 go_wp2_with (first
   | (go_at_call 312;refine (rM x (by omega) _).mono ?_;rintro e w1 ⟨he1,hb1⟩;rw[HT.out] at he1;subst he1)
   | (go_at_call 154;refine (GL x n h4 HA.out _).mono ?_;rintro e w2 ⟨rfl,hb2⟩))
 go_quiet (fail)
 go_wp2_with fail
 go_ret2
 exact ⟨rfl,below_drewN (hb1.trans (hb2.mono hb1.size)) _⟩
end
section
open Go.RowKit
open aH (St gH S)
def aO (x:S):Value := .string ⟨x.toArray⟩
def pty:Fin 6→TypeId
 | 0=>275 | 1=>9 | 2=>9 | 3=>234 | 4=>317 | 5=>317
def Np:Fin 6→Nat
 | 0=>2 | 1=>1 | 2=>1 | 3=>2 | 4=>4 | 5=>4
def cB (p:S × S):List Value:=[aO p.1,aO p.2]
def rT (c:gH):List Value:=[.int .i64 c.verb,aO c.path,aO c.word,aO c.ZC]
def aU (st:St):Fin 6→Nat × List Value
 | 0=>(st.needs.length,st.needs.flatMap cB) | 1=>(st.breaks.length,st.breaks.map aO) | 2=>(st.wakes.length,st.wakes.map aO)
 | 3=>(st.files.length,st.files.flatMap cB) | 4=>(st.runs.length,st.runs.flatMap rT) | 5=>(st.aL.length,st.aL.flatMap rT)
def sset (sl:Fin 6→Value) (i:Fin 6) (v:Value):Fin 6→Value:=fun j=>if j=i then v else sl j
def FY (nm ve:S) (sl:Fin 6→Value) (left:S):Array Value := #[aO nm,aO ve,sl 0,sl 1,sl 2,sl 3,sl 4,sl 5,aO left]
structure fD (pb:Nat) (nm ve:S) (st:St) (sl:Fin 6→Value) (w:World):Prop where
 blk:w.heap[pb]? = some (.cells (FY nm ve sl st.left) 308 (0,0))
 own:∀ i,w.ownsRow (pb+1) (pty i) (Np i) (sl i) (aU st i).1 (aU st i).2
 apart:∀ i j,i≠j→∀ g,(sl i).ownBlock=some g→(sl j).ownBlock≠some g
theorem own_below {w w':World} {B e size n:Nat} {v:Value} {xs:List Value} (h:w.ownsRow B e size v n xs) (hb:Below w.heap.size w w'):w'.ownsRow B e size v n xs:=by
 refine ⟨h.1,?_⟩
 rcases h.2 with hn | ⟨g,cap,cur,rfl,hg,hgg,rest⟩
 · exact .inl hn
 · exact .inr ⟨g,cap,cur,rfl,hg,by rw[hb.block g (Array.getElem?_eq_some_iff.1 hgg).1];exact hgg,rest⟩
theorem aP {w:World} {base size:Nat} {t:TypeId} {v:Value} {n:Nat} {xs:List Value} (h:w.ownsRow base t size v n xs) (hn:0<n):∃ g cap,v = .slice (some ⟨g,0,none⟩) n cap:=by
 rcases h.2 with ⟨_,h⟩ | ⟨g,cap,_,h,_⟩
 · omega
 · exact ⟨g,cap,h⟩
theorem fD.lt {pb:Nat} {nm ve:S} {st:St} {sl:Fin 6→Value} {w:World} (h:fD pb nm ve st sl w):pb<w.heap.size:=(Array.getElem?_eq_some_iff.1 h.blk).1
theorem fD.below {pb:Nat} {nm ve:S} {st:St} {sl:Fin 6→Value} {w w':World} (h:fD pb nm ve st sl w) (hb:Below w.heap.size w w'):fD pb nm ve st sl w' :=
 ⟨(hb.block _ h.lt).trans h.blk,fun i=>own_below (h.own i) hb,h.apart⟩
theorem fD.drew {pb:Nat} {nm ve:S} {st:St} {sl:Fin 6→Value} {w:World} (h:fD pb nm ve st sl w):fD pb nm ve st sl w.drew:=⟨h.blk,h.own,h.apart⟩
theorem fD.drewN {pb:Nat} {nm ve:S} {st:St} {sl:Fin 6→Value} {w:World} (h:fD pb nm ve st sl w) (n:Nat):fD pb nm ve st sl (w.drewN n):=⟨h.blk,h.own,h.apart⟩
theorem fD.alloc {pb:Nat} {nm ve:S} {st:St} {sl:Fin 6→Value} {w:World} (h:fD pb nm ve st sl w) (o:Obj):fD pb nm ve st sl (w.alloc o):=h.below ((Below.refl _ w).alloc (Nat.le_refl _) o)
theorem fD.left {pb:Nat} {nm ve:S} {st:St} {sl:Fin 6→Value} {w:World} (h:fD pb nm ve st sl w) (x:S):fD pb nm ve { st with left:=x } sl (w.setCell ⟨pb,8,none⟩ (aO x)) :=
 ⟨heap_setCell_same _ pb 8 _ _ _ h.blk,fun i=>by
   have:=ownsRow_setCell_below (h.own i) (a:=⟨pb,8,none⟩) (by simp) (aO x)
   cases i using Fin.cases<;>exact this,h.apart⟩
theorem fD.names {pb:Nat} {nm ve:S} {st:St} {sl:Fin 6→Value} {w:World} (h:fD pb nm ve st sl w) (x y:S):fD pb x y st sl ((w.setCell ⟨pb,0,none⟩ (aO x)).setCell ⟨pb,1,none⟩ (aO y)) :=
 ⟨heap_setCell_same _ pb 1 _ _ _ (heap_setCell_same _ pb 0 _ _ _ h.blk),fun i=>ownsRow_setCell_below (ownsRow_setCell_below (h.own i) (a:=⟨pb,0,none⟩) (by simp) _) (a:=⟨pb,1,none⟩) (by simp) _,h.apart⟩
theorem fD.kept {pb:Nat} {nm ve:S} {st:St} {sl:Fin 6→Value} {w w':World} (h:fD pb nm ve st sl w) (i:Fin 6) (hg:w.grownBy w' (sl i).ownBlock):w'.heap[pb]? = some (.cells (FY nm ve sl st.left) 308 (0,0)):=by
 refine (hg.block pb h.lt fun e => ?_).trans h.blk
 have:=((h.own i).lt pb e.symm).1
 omega
theorem Me (nm ve:S) (sl:Fin 6→Value) (left:S) (i:Fin 6) (v:Value):(FY nm ve sl left).setIfInBounds (2+i.val) v=FY nm ve (sset sl i v) left:=by
 match i with
 | 0=>rfl
 | 1=>rfl
 | 2=>rfl
 | 3=>rfl
 | 4=>rfl
 | 5=>rfl
theorem fD.put {pb:Nat} {nm ve:S} {st st':St} {sl:Fin 6→Value} {w w':World} (h:fD pb nm ve st sl w) (i:Fin 6) {v':Value} (hg:w.grownBy w' (sl i).ownBlock)
   (hown:w'.ownsRow (pb+1) (pty i) (Np i) v' (aU st' i).1 (aU st' i).2) (hblk:v'.ownBlock=(sl i).ownBlock∨v'.ownBlock=some w.heap.size) (hst:∀ j,j≠i→aU st' j=aU st j) (hl:st'.left=st.left) :
   fD pb nm ve st' (sset sl i v') (w'.setCell ⟨pb,2+i.val,none⟩ v'):=by
 refine ⟨?_,fun j => ?_,fun j k hjk g hj hk => ?_⟩
 · rw[hl,← Me]
   exact heap_setCell_same _ pb (2+i.val) _ _ v' (h.kept i hg)
 · refine ownsRow_setCell_below ?_ (by simp) _
   by_cases e:j=i
   · subst e;simp only[sset,if_pos];exact hown
   · simp only[sset,if_neg e]
     rw[hst j e]
     refine (h.own j).kept hg ?_
     cases hj:(sl j).ownBlock with
     | none=>exact .inl rfl
     | some g=>exact .inr fun e2=>h.apart j i e g hj e2.symm
 · have new:∀ m:Fin 6,m≠i→(sl m).ownBlock=some g→v'.ownBlock≠some g:=by
     intro m hm e1 e2
     rcases hblk with e3 | e3
     · exact h.apart m i hm g e1 (e3▸e2)
     · have:=((h.own m).lt g e1).2
       rw[e3] at e2;cases e2;omega
   by_cases e:j=i
   · subst e
     simp only[sset,if_pos] at hj
     simp only[sset,if_neg (Ne.symm hjk)] at hk
     exact new k (Ne.symm hjk) hk hj
   · simp only[sset,if_neg e] at hj
     by_cases e2:k=i
     · subst e2
       simp only[sset,if_pos] at hk
       exact new j e hj hk
     · simp only[sset,if_neg e2] at hk
       exact h.apart j k hjk g hj hk
theorem Ph:(Tryz.prog.info? 234).map (fun i=>(i.zero,i.size,i.bytes))=some (some (.agg #[.string ByteArray.empty, .string ByteArray.empty]),2,32):=by kernel_rfl
theorem Bu:(Tryz.prog.info? 317).map (fun i=>(i.zero,i.size,i.bytes))=some (some (.agg #[.int .i64 0, .string ByteArray.empty, .string ByteArray.empty, .string ByteArray.empty]),4,56):=by kernel_rfl
theorem nJ (w:World) (a b c d:Value) (t:TypeId):∀ j u,[a,b,c,d][j]? = some u→(w.alloc (.cells #[a,b,c,d] t)).cell? ((⟨w.heap.size,0,none⟩:Addr).add j)=some u:=by
 intro j u h
 have hadd:(⟨w.heap.size,0,none⟩:Addr).add j=⟨w.heap.size,j,none⟩:=by unfold Addr.add;split<;>simp_all
 rw[hadd,ah (heap_alloc_new w _)]
 simpa using h
theorem dG (d:UInt8) (x:S) (hx:x.length≤2000) (mx:Int) (w:World) (hm:w.cell? ⟨3,0,none⟩=some (.int .i64 mx)) :
   Calls Tryz.prog 152 #[.string ⟨x.toArray⟩, .string ⟨#[d]⟩] w fun e w'=>e = .returned (.slice (some ⟨w.heap.size,0,none⟩) (sp d x).length (sp d x).length)∧w'=w.alloc (.cells ((sp d x).map aO).toArray 9):=by
 refine (Tryz.strings_Split ⟨x.toArray⟩ ⟨#[d]⟩ mx w (by simp[ByteArray.size];omega) hm (Nat.le_refl 1)).mono ?_
 rintro e w' ⟨he,hw⟩
 rw[D5] at he
 refine ⟨he,?_⟩
 rw[hw,xS,List.map_map]
 rfl
theorem jw {d:UInt8} {x:S} {wr w1:World} (hw:w1=wr.alloc (.cells ((sp d x).map aO).toArray 9)):∀ j,j<(sp d x).length→w1.cell? ⟨wr.heap.size,j,none⟩=some (aO ((sp d x).getD j [])):=by
 intro j hj
 subst hw
 rw[ah (heap_alloc_new wr _)]
 simp[List.getD,List.getElem?_eq_getElem hj]
theorem jA {wr w1:World} {o:Obj} (hw:w1=wr.alloc o):Below wr.heap.size wr w1∧w1.heap.size=wr.heap.size+1:=by
 subst hw
 exact ⟨(Below.refl _ wr).alloc (Nat.le_refl _) _,by simp⟩
theorem fF (x p:S) (w:World) :
   Calls Tryz.prog 151 #[.string ⟨x.toArray⟩, .string ⟨p.toArray⟩] w fun e w'=>e = .returned (.tuple #[.string ⟨(Lib.trimPrefix x p).toArray⟩, .bool (Lib.hasPrefix x p)])∧w'=w :=
 Tryz.strings_CutPrefix ⟨x.toArray⟩ ⟨p.toArray⟩ w
theorem mY (x u v:S) (hx:x.length≤2000) (h:aZ x=some (u,v)) (mx:Int) (w:World) (hm:w.cell? ⟨3,0,none⟩=some (.int .i64 mx)) :
   Calls Tryz.prog 48 #[.string ⟨x.toArray⟩, .string ⟨#[10,10]⟩] w fun e w'=>e = .returned (.tuple #[.string ⟨u.toArray⟩, .string ⟨v.toArray⟩, .bool true])∧Below w.heap.size w w'∧w'.heap.size=w.heap.size:=by
 refine (Tryz.strings_Cut ⟨x.toArray⟩ ⟨#[10,10]⟩ mx w (by simp[ByteArray.size];omega) hm).mono ?_
 rintro e w' ⟨he,n,rfl⟩
 have hc:=AY x
 rw[h] at hc
 refine ⟨?_,below_drewN (Below.refl _ _) n,rfl⟩
 rw[he]
 show Ending.returned (.tuple #[.string ⟨(Lib.cut x [10,10]).1.toArray⟩, .string ⟨(Lib.cut x [10,10]).2.1.toArray⟩, .bool (Lib.cut x [10,10]).2.2])=_
 rw[hc]
theorem fD.begin (w:World) (x:S):fD w.heap.size [] [] (.of x) (fun _ => .slice none 0 0) (w.alloc (.cells #[.string ⟨#[]⟩, .string ⟨#[]⟩, .slice none 0 0, .slice none 0 0, .slice none 0 0, .slice none 0 0, .slice none 0 0, .slice none 0 0, .string ⟨x.toArray⟩] 308)):=by
 refine ⟨heap_alloc_new w _,fun i => ?_,fun i j _ g hg=>by cases hg⟩
 match i with
 | 0=>exact World.ownsRow_nil _ _ _ _
 | 1=>exact World.ownsRow_nil _ _ _ _
 | 2=>exact World.ownsRow_nil _ _ _ _
 | 3=>exact World.ownsRow_nil _ _ _ _
 | 4=>exact World.ownsRow_nil _ _ _ _
 | 5=>exact World.ownsRow_nil _ _ _ _
theorem rC {w:World} {b:Nat} {t:TypeId} {a0 a1 a2 a3 a4 a5 a6 a7 a8:Value} (h:w.heap[b]? = some (.cells #[a0,a1,a2,a3,a4,a5,a6,a7,a8] t (0,0))) :
   w.cell? ⟨b,0,none⟩=some a0∧w.cell? ⟨b,1,none⟩=some a1∧w.cell? ⟨b,2,none⟩=some a2∧w.cell? ⟨b,3,none⟩=some a3∧w.cell? ⟨b,4,none⟩=some a4∧w.cell? ⟨b,5,none⟩=some a5∧w.cell? ⟨b,6,none⟩=some a6∧w.cell? ⟨b,7,none⟩=some a7∧w.cell? ⟨b,8,none⟩=some a8 :=
 ⟨(ah h 0).trans rfl,(ah h 1).trans rfl,(ah h 2).trans rfl,(ah h 3).trans rfl,(ah h 4).trans rfl,(ah h 5).trans rfl,(ah h 6).trans rfl,(ah h 7).trans rfl,(ah h 8).trans rfl⟩
theorem bT {w:World} {b:Nat} {t:TypeId} {a0 a1 a2 a3 a4 a5 a6 a7:Value} (h:w.heap[b]? = some (.cells #[a0,a1,a2,a3,a4,a5,a6,a7] t (0,0))) :
   w.cell? ⟨b,0,none⟩=some a0∧w.cell? ⟨b,1,none⟩=some a1∧w.cell? ⟨b,2,none⟩=some a2∧w.cell? ⟨b,3,none⟩=some a3∧w.cell? ⟨b,4,none⟩=some a4∧w.cell? ⟨b,5,none⟩=some a5∧w.cell? ⟨b,6,none⟩=some a6∧w.cell? ⟨b,7,none⟩=some a7
   ∧ w.frozen? ⟨b,0,none⟩=false∧w.frozen? ⟨b,1,none⟩=false∧w.frozen? ⟨b,2,none⟩=false∧w.frozen? ⟨b,3,none⟩=false∧w.frozen? ⟨b,4,none⟩=false∧w.frozen? ⟨b,5,none⟩=false∧w.frozen? ⟨b,6,none⟩=false∧w.frozen? ⟨b,7,none⟩=false :=
 ⟨(ah h 0).trans rfl,(ah h 1).trans rfl,(ah h 2).trans rfl,(ah h 3).trans rfl,(ah h 4).trans rfl,(ah h 5).trans rfl,(ah h 6).trans rfl,(ah h 7).trans rfl,ak h 0,ak h 1,ak h 2,ak h 3,ak h 4,ak h 5,ak h 6,ak h 7⟩
theorem iL {w0 wr:World} {b:Nat} {t:TypeId} {a0 a1 a2 a3 a4 a5 a6 a7:Value} (n0 n1 n2 n3 n4 n5 n6 n7:Value) (h:wr.heap[b]? = some (.cells #[a0,a1,a2,a3,a4,a5,a6,a7] t (0,0))) (hb:Below w0.heap.size w0 wr) (hlt:w0.heap.size≤b) :
   yw w0 wr b t #[n0,n1,n2,n3,n4,n5,n6,n7] ((((((((wr.setCell ⟨b,0,none⟩ n0).setCell ⟨b,1,none⟩ n1).setCell ⟨b,2,none⟩ n2).setCell ⟨b,3,none⟩ n3).setCell ⟨b,4,none⟩ n4).setCell ⟨b,5,none⟩ n5).setCell ⟨b,6,none⟩ n6).setCell ⟨b,7,none⟩ n7):=by
 have g:yw w0 wr b t _ wr:=⟨h,hb,fun _ _=>rfl,rfl⟩
 have g8:=(((((((g.set hlt 0 n0).set hlt 1 n1).set hlt 2 n2).set hlt 3 n3).set hlt 4 n4).set hlt 5 n5).set hlt 6 n6).set hlt 7 n7
 have e:((((((((#[a0,a1,a2,a3,a4,a5,a6,a7]:Array Value).setIfInBounds 0 n0).setIfInBounds 1 n1).setIfInBounds 2 n2).setIfInBounds 3 n3).setIfInBounds 4 n4).setIfInBounds 5 n5).setIfInBounds 6 n6).setIfInBounds 7 n7 = #[n0,n1,n2,n3,n4,n5,n6,n7]:=by simp
 rw[e] at g8
 exact g8
structure Gx (w:World) (x head contents:S) (w1:World):Prop where
 out:w1.heap[w.heap.size]? = some (.cells #[.string ⟨#[]⟩, .string ⟨#[]⟩, .slice none 0 0, .slice none 0 0, .slice none 0 0, .slice none 0 0, .slice none 0 0, .slice none 0 0] 154 (0,0))
 lines:w1.heap[w.heap.size+1]? = some (.cells ((sp 10 head).map aO).toArray 9 (0,0))
 par:fD (w.heap.size+1+1) [] [] (.of contents) (fun _ => .slice none 0 0) w1
 bA:Below w.heap.size w w1
 zk:w1.heap.size=w.heap.size+3
theorem Gx.begin (w w1:World) (x head contents:S) {o:Obj} (ho:o = .cells #[.string ⟨#[]⟩, .string ⟨#[]⟩, .slice none 0 0, .slice none 0 0, .slice none 0 0, .slice none 0 0, .slice none 0 0, .slice none 0 0] 154)
   (hb:Below (w.alloc o).heap.size (w.alloc o) w1) (hs:w1.heap.size=(w.alloc o).heap.size) :
   Gx w x head contents ((w1.alloc (.cells ((sp 10 head).map aO).toArray 9)).alloc (.cells #[.string ⟨#[]⟩, .string ⟨#[]⟩, .slice none 0 0, .slice none 0 0, .slice none 0 0, .slice none 0 0, .slice none 0 0, .slice none 0 0, .string ⟨contents.toArray⟩] 308)):=by
 subst ho
 have e0:∀ (u:World) (q:Obj),(u.alloc q).heap.size=u.heap.size+1:=fun u q=>by simp
 rw[e0] at hs hb
 have hp:=fD.begin (w1.alloc (.cells ((sp 10 head).map aO).toArray 9)) contents
 rw[e0,hs] at hp
 refine ⟨?_,?_,hp,?_,by rw[e0,e0,hs]⟩
 · rw[Below.heap_alloc _ _ _ (by rw[e0];omega),Below.heap_alloc _ _ _ (by omega),hb.block _ (by omega),heap_alloc_new]
 · rw[Below.heap_alloc _ _ _ (by rw[e0];omega),← hs,heap_alloc_new]
 · exact ((((Below.refl _ w).alloc (Nat.le_refl _) _).trans (hb.mono (by omega))).alloc (by omega) _).alloc (by rw[e0];omega) _
theorem slice_form {w:World} {base size:Nat} {t:TypeId} {v:Value} {n:Nat} {xs:List Value} (h:w.ownsRow base t size v n xs):∃ ao c,v = .slice ao n c:=by
 rcases h.2 with ⟨h1,rfl⟩ | ⟨g,cap,_,h1,_⟩
 · exact ⟨none,0,h1⟩
 · exact ⟨_,cap,h1⟩
theorem TL {w w4 w5:World} {nm ve:S} {st:St} {sl:Fin 6→Value} {t:TypeId} {cs:Array Value} (h:fD (w.heap.size+1+1) nm ve st sl w4) (R:yw w w4 w.heap.size t cs w5) (i:Fin 6) :
   w5.ownsRow w.heap.size (pty i) (Np i) (sl i) (aU st i).1 (aU st i).2:=by
 have ho:=h.own i
 refine ⟨ho.1,?_⟩
 rcases ho.2 with hn | ⟨g,cap,cur,hv,hg,hgg,rest⟩
 · exact .inl hn
 · exact .inr ⟨g,cap,cur,hv,by omega,by rw[R.oth g (by omega)];exact hgg,rest⟩
end
end Go.Proofs.YtialenebfcnkkaaGreatDoor
