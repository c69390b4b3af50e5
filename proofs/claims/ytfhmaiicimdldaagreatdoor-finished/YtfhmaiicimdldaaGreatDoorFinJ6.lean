import Derived.Test.YtfhmaiicimdldaaGreatDoorFinJ5
import Derived.Shelf.Strings.SlTrimAscii
set_option maxHeartbeats 1000000
set_option maxRecDepth 100000
namespace Go.Proofs.YtfhmaiicimdldaaGreatDoor
variable {x:List UInt8}{B b c e g k n o pb:Nat}{w w' w0 w1 w2 w3 wr:World}{K:Nat->Int}{n0 n1 n2 n3 n4 n5 n6 n7 s0 s1 s2 s3 s4 s5 s6 s7:Int}{a a' b' c' d' v:Value}{xs:List Value}
section
open Go.RowKit
def iv:R8:=⟨1779033703,3144134277,1013904242,2773480762,1359893119,2600822924,528734635,1541459225⟩
def blk (x:List UInt8) (k j:Nat):Int:=(((RP x)[64*k+j]?).getD 0).toNat
def M8 (K:Nat->Int) (x:List UInt8):Nat->R8
 | 0=>iv
 | k+1=>R8.plus (M8 K x k) (rounds (M8 K x k) (wf (blk x k)) K 64)
def nb (x:List UInt8):Nat:=(RP x).length / 64
structure Zn (K:Nat->Int) (x:List UInt8) (k g:Nat) (w wr:World):Prop where
 out:wr.heap[w.heap.size]? = some (.cells (sumTo iv 0) 255 (0,0))
 st:wr.heap[w.heap.size+1]? = some (.cells (M8 K x k).vals 312 (0,0))
 cells:∀ j,j<(RP x).length->wr.cell? ⟨g,j,none⟩=some (.int .u8 (((RP x)[j]?).getD 0).toNat)
 gb:w.heap.size+2<=g
 gt:g<wr.heap.size
 K7:Below w.heap.size w wr
theorem agU(hn:n=(RP x).length) (h:∀ j,w.cell? ⟨g,j,none⟩=(Lv (RP x))[j]? \/ n<=j):∀ j,j<(RP x).length->w.cell? ⟨g,j,none⟩=some (.int .u8 (((RP x)[j]?).getD 0).toNat):=by
 intro j hj;rcases h j with h | h
 · rw[h,Lv,GO,B9 hj];rfl
 · omega
theorem abO(h:Zn K x k g w wr) (ho:o=64*k) (hn:o+n=(RP x).length) (h64:64<=n):∀ j:Nat,j<64->wr.cell? ⟨g,o+j,none⟩=some (.int .u8 (blk x k j)):=by
 intro j hj;subst ho;exact h.cells (64*k+j) (by omega)
structure VX (w0 w1:World) (b:Nat) (t:TypeId) (cs:Array Value) (wr:World):Prop where
 row:wr.heap[b]? = some (.cells cs t (0,0))
 K7:Below w0.heap.size w0 wr
 oth:∀ k,k≠b->wr.heap[k]? = w1.heap[k]?
 siz:wr.heap.size=w1.heap.size
theorem VX.set{t:TypeId} {cs:Array Value} (h:VX w0 w1 b t cs wr) (hlt:w0.heap.size<=b) (j:Nat) (v:Value):VX w0 w1 b t (cs.setIfInBounds j v) (wr.setCell ⟨b,j,none⟩ v) :=
 ⟨AI _ b j _ _ v h.row,h.K7.setCell (p:=⟨b,j,none⟩) hlt v,fun k hk=>(BY _ _ _ _ hk).trans (h.oth k hk),by rw[<- h.siz];simp⟩
theorem ags{t:TypeId}  (n0 n1 n2 n3 n4 n5 n6 n7:Int) (h:wr.heap[b]? = some (.cells (R8.vals ⟨s0,s1,s2,s3,s4,s5,s6,s7⟩) t (0,0))) (hb:Below w0.heap.size w0 wr) (hlt:w0.heap.size<=b) :
 VX w0 wr b t (R8.vals ⟨n0,n1,n2,n3,n4,n5,n6,n7⟩) ((((((((wr.setCell ⟨b,0,none⟩ (.int .u32 n0)).setCell ⟨b,1,none⟩ (.int .u32 n1)).setCell ⟨b,2,none⟩ (.int .u32 n2)).setCell ⟨b,3,none⟩ (.int .u32 n3)).setCell ⟨b,4,none⟩ (.int .u32 n4)).setCell ⟨b,5,none⟩ (.int .u32 n5)).setCell ⟨b,6,none⟩ (.int .u32 n6)).setCell ⟨b,7,none⟩ (.int .u32 n7)):=by
 have g:VX w0 wr b t _ wr:=⟨h,hb,fun _ _=>rfl,rfl⟩;have g8:=(((((((g.set hlt 0 (.int .u32 n0)).set hlt 1 (.int .u32 n1)).set hlt 2 (.int .u32 n2)).set hlt 3 (.int .u32 n3)).set hlt 4 (.int .u32 n4)).set hlt 5 (.int .u32 n5)).set hlt 6 (.int .u32 n6)).set hlt 7 (.int .u32 n7);have e:((((((((R8.vals ⟨s0,s1,s2,s3,s4,s5,s6,s7⟩).setIfInBounds 0 (.int .u32 n0)).setIfInBounds 1 (.int .u32 n1)).setIfInBounds 2 (.int .u32 n2)).setIfInBounds 3 (.int .u32 n3)).setIfInBounds 4 (.int .u32 n4)).setIfInBounds 5 (.int .u32 n5)).setIfInBounds 6 (.int .u32 n6)).setIfInBounds 7 (.int .u32 n7)=R8.vals ⟨n0,n1,n2,n3,n4,n5,n6,n7⟩:=by simp[R8.vals]
 rw[e] at g8;exact g8
theorem QK{t:TypeId}  (h:w.heap[b]? = some (.cells (R8.vals ⟨s0,s1,s2,s3,s4,s5,s6,s7⟩) t (0,0))) :
 w.cell? ⟨b,0,none⟩=some (.int .u32 s0)/\w.cell? ⟨b,1,none⟩=some (.int .u32 s1)/\w.cell? ⟨b,2,none⟩=some (.int .u32 s2)/\w.cell? ⟨b,3,none⟩=some (.int .u32 s3)/\w.cell? ⟨b,4,none⟩=some (.int .u32 s4)/\w.cell? ⟨b,5,none⟩=some (.int .u32 s5)/\w.cell? ⟨b,6,none⟩=some (.int .u32 s6)/\w.cell? ⟨b,7,none⟩=some (.int .u32 s7)
 /\ w.frozen? ⟨b,0,none⟩=false/\w.frozen? ⟨b,1,none⟩=false/\w.frozen? ⟨b,2,none⟩=false/\w.frozen? ⟨b,3,none⟩=false/\w.frozen? ⟨b,4,none⟩=false/\w.frozen? ⟨b,5,none⟩=false/\w.frozen? ⟨b,6,none⟩=false/\w.frozen? ⟨b,7,none⟩=false :=
 ⟨(JZ h 0).trans rfl,(JZ h 1).trans rfl,(JZ h 2).trans rfl,(JZ h 3).trans rfl,(JZ h 4).trans rfl,(JZ h 5).trans rfl,(JZ h 6).trans rfl,(JZ h 7).trans rfl,J2 h 0,J2 h 1,J2 h 2,J2 h 3,J2 h 4,J2 h 5,J2 h 6,J2 h 7⟩
theorem ac7{t:TypeId}  (h:Zn K x k g w wr) (ho:o=64*k) (hn:o+n=(RP x).length) (h64:64<=n) (hnc:n<=c)
 (hst:wr.heap[b]? = some (.cells (R8.vals ⟨s0,s1,s2,s3,s4,s5,s6,s7⟩) t (0,0))) (w1:World) (h1:w1=wr.drew) :
 Calls Tryz.prog 214 #[.slice (some ⟨g,o,none⟩) 64 c] w1 fun e w2=>e = .returned (.agg (MQ (blk x k) 64))/\Below wr.heap.size wr w2/\wr.heap.size<=w2.heap.size /\
 w2.cell? ⟨b,0,none⟩=some (.int .u32 s0)/\w2.cell? ⟨b,1,none⟩=some (.int .u32 s1)/\w2.cell? ⟨b,2,none⟩=some (.int .u32 s2)/\w2.cell? ⟨b,3,none⟩=some (.int .u32 s3)/\w2.cell? ⟨b,4,none⟩=some (.int .u32 s4)/\w2.cell? ⟨b,5,none⟩=some (.int .u32 s5)/\w2.cell? ⟨b,6,none⟩=some (.int .u32 s6)/\w2.cell? ⟨b,7,none⟩=some (.int .u32 s7)
 /\ w2.frozen? ⟨b,0,none⟩=false/\w2.frozen? ⟨b,1,none⟩=false/\w2.frozen? ⟨b,2,none⟩=false/\w2.frozen? ⟨b,3,none⟩=false/\w2.frozen? ⟨b,4,none⟩=false/\w2.frozen? ⟨b,5,none⟩=false/\w2.frozen? ⟨b,6,none⟩=false/\w2.frozen? ⟨b,7,none⟩=false:=by
 subst h1;refine (abh (blk x k) g o c (by omega) wr.drew (by exact h.gt) (abO (wr:=wr) h ho hn h64)).mono ?_;rintro e w2 ⟨rfl,hb2⟩;have qJ:Below wr.heap.size wr w2:=(AD _ wr).drew.trans hb2;exact ⟨rfl,qJ,qJ.size,QK ((qJ.block _ (Array.getElem?_eq_some_iff.1 hst).1).trans hst)⟩
theorem al7{b:Nat->Int} (hn:Hid (R8.plus ⟨s0,s1,s2,s3,s4,s5,s6,s7⟩ (rounds ⟨s0,s1,s2,s3,s4,s5,s6,s7⟩ (wf b) K 64)=⟨n0,n1,n2,n3,n4,n5,n6,n7⟩)) (w:World)
 (hg:4<w.heap.size) (hK:∀ i:Nat,i<64->w.cell? ⟨4,i,none⟩=some (.int .u32 (K i))) :
 Calls Tryz.prog 213 #[.agg #[.int .u32 s0, .int .u32 s1, .int .u32 s2, .int .u32 s3, .int .u32 s4, .int .u32 s5, .int .u32 s6, .int .u32 s7], .agg (MQ b 64)] w fun e w'=>e = .returned (.agg #[.int .u32 n0, .int .u32 n1, .int .u32 n2, .int .u32 n3, .int .u32 n4, .int .u32 n5, .int .u32 n6, .int .u32 n7])/\Below w.heap.size w w':=by
 refine (akx _ _ _ _ _ _ _ _ (MQ b 64) (wf b) K (fun i hi=>Pw _ i hi 64 (by omega)) w hg hK).mono ?_;rintro e w' ⟨he,hb⟩;rw[hn.out] at he;exact ⟨he,hb⟩
theorem aae(R:R8):(sumTo R 32).all (·.oneCell')=true:=Array.all_eq_true_iff_forall_mem.2 (VL R 32)
theorem bytes_at{R:R8} (hR:Hid (R=⟨s0,s1,s2,s3,s4,s5,s6,s7⟩)) (w:World) :
 Calls Tryz.prog 215 #[.agg #[.int .u32 s0, .int .u32 s1, .int .u32 s2, .int .u32 s3, .int .u32 s4, .int .u32 s5, .int .u32 s6, .int .u32 s7]] w fun e w'=>e = .returned (.agg (sumTo R 32))/\Below w.heap.size w w':=by
 have h:=agb R w;rw[hR.out] at h |-;exact h
theorem ajm(h:Zn K x k g w wr) (hb2:Below wr.heap.size wr w2) (hb3:Below w2.heap.size w2 w3)
 (hr:M8 K x k=⟨s0,s1,s2,s3,s4,s5,s6,s7⟩) (hr2:R8.plus ⟨s0,s1,s2,s3,s4,s5,s6,s7⟩ (rounds ⟨s0,s1,s2,s3,s4,s5,s6,s7⟩ (wf (blk x k)) K 64)=⟨n0,n1,n2,n3,n4,n5,n6,n7⟩) :
 Zn K x (k+1) g w ((((((((w3.setCell ⟨w.heap.size+1,0,none⟩ (.int .u32 n0)).setCell ⟨w.heap.size+1,1,none⟩ (.int .u32 n1)).setCell ⟨w.heap.size+1,2,none⟩ (.int .u32 n2)).setCell ⟨w.heap.size+1,3,none⟩ (.int .u32 n3)).setCell ⟨w.heap.size+1,4,none⟩ (.int .u32 n4)).setCell ⟨w.heap.size+1,5,none⟩ (.int .u32 n5)).setCell ⟨w.heap.size+1,6,none⟩ (.int .u32 n6)).setCell ⟨w.heap.size+1,7,none⟩ (.int .u32 n7)):=by
 have hst:=h.st;rw[hr] at hst;have hlt:w.heap.size+1<wr.heap.size:=(Array.getElem?_eq_some_iff.1 hst).1;have hb:Below wr.heap.size wr w3:=hb2.trans (hb3.mono hb2.size);have fT:Below w.heap.size w w3:=h.K7.trans (hb.mono (by omega));have R:=ags (w0:=w) n0 n1 n2 n3 n4 n5 n6 n7 ((hb.block _ hlt).trans hst) fT (by omega);refine ⟨?_,?_,fun j hj => ?_,h.gb,?_,R.K7⟩
 · rw[R.oth _ (by omega),hb.block _ (by omega)];exact h.out
 · rw[R.row,M8,hr,hr2]
 · have:=h.cells j hj;rw[<- this];have e:((((((((w3.setCell ⟨w.heap.size+1,0,none⟩ (.int .u32 n0)).setCell ⟨w.heap.size+1,1,none⟩ (.int .u32 n1)).setCell ⟨w.heap.size+1,2,none⟩ (.int .u32 n2)).setCell ⟨w.heap.size+1,3,none⟩ (.int .u32 n3)).setCell ⟨w.heap.size+1,4,none⟩ (.int .u32 n4)).setCell ⟨w.heap.size+1,5,none⟩ (.int .u32 n5)).setCell ⟨w.heap.size+1,6,none⟩ (.int .u32 n6)).setCell ⟨w.heap.size+1,7,none⟩ (.int .u32 n7)).heap[g]? = wr.heap[g]? := by
    rw[R.oth _ (by have:=h.gb;omega),hb.block _ h.gt]
   exact Be e
 · rw[R.siz];exact B3 h.gt hb.size
theorem aiZ:∃ o',(if c=64 then some (⟨g,o,none⟩:Addr) else some ⟨g,o+64,none⟩)=some ⟨g,o',none⟩/\(c=64\/o'=o+64):=by
 by_cases h:c=64
 · exact ⟨o,by rw[By h], .inl h⟩
 · exact ⟨o+64,by rw[Bm h], .inr rfl⟩
theorem akX(x:List UInt8) (hx:x.length<=1000000) (K:Nat->Int) (w:World) (hg:4<w.heap.size)
 (hK:∀ i:Nat,i<64->w.cell? ⟨4,i,none⟩=some (.int .u32 (K i))) :
 Calls Tryz.prog 161 #[.string ⟨x.toArray⟩] w fun e w'=>e = .returned (.agg (sumTo (M8 K x (nb x)) 32))/\Below w.heap.size w w':=by
 go_enter Tryz.func161,Tryz.ntmps161;go_wp2_with (first
  | (go_at_call 212;refine (akG x hx _).mono ?_;rintro e w1 ⟨v,rfl,hown,hb⟩;obtain ⟨g1,gi,rfl,hg1,hg2,hc1,hc2,hcell⟩:=hown.shape;clear hown))
 have HS:Hid (Zn K x 0 g1 w w1):=by
  have a1:=Below.alloc (AD _ w) (AC _) (.cells (sumTo iv 0) 255);have e0:∀ (u:World) (q:Obj),(u.alloc q).heap.size=u.heap.size+1:=fun u q=>by simp
  have e1:=e0 w (.cells (sumTo iv 0) 255);have a2:=Below.alloc a1 (by rw[e1];omega) (.cells (M8 K x 0).vals 312);have e2:((w.alloc (.cells (sumTo iv 0) 255)).alloc (.cells (M8 K x 0).vals 312)).heap.size=w.heap.size+2:=by rw[e0,e1]
  have hb':Below ((w.alloc (.cells (sumTo iv 0) 255)).alloc (.cells (M8 K x 0).vals 312)).heap.size ((w.alloc (.cells (sumTo iv 0) 255)).alloc (.cells (M8 K x 0).vals 312)) w1:=hb;refine JY ⟨?_,?_,agU rfl hcell,?_,hg2,a2.trans (hb'.mono (by rw[e2];omega))⟩
  · rw[hb'.block _ (by rw[e2];omega),AM _ _ _ (by omega),AF]
  · rw[hb'.block _ (by rw[e2];omega),<- e1,AF]
  · have:((w.alloc (.cells (sumTo iv 0) 255)).alloc (.cells (M8 K x 0).vals 312)).heap.size<=g1:=hg1;omega
 clear hb hg1 hg2 hcell;have Ho:=ai7 x;generalize hL:(RP x).length=L at *;have HL:=JY hL;clear hL;go_loopw [4] (fun v wr=>∃ (k o n c:Nat),v = .slice (some ⟨g1,o,none⟩) n c/\Hid ((n=0\/o=64*k)/\64*k+n=L)/\n<=c/\c<=maxLen/\Hid (Zn K x k g1 w wr))
  (fun v _=>lenOf v)
 case atStart=>exact ⟨0,0,L,gi,rfl,JY ⟨.inr rfl,by omega⟩,hc1,hc2,HS⟩
 case round =>
  clear HS hc1 hc2;obtain ⟨k,o,n,c,rfl,HN,hnc,hcm,HW⟩:=hrel;unfold maxLen at hcm;by_cases hlt:0<n
  · have h64:64<=n:=by have:=HN.out;omega
    obtain ⟨r,hr⟩:∃ r,M8 K x k=r:=⟨_,rfl⟩
    obtain ⟨s0,s1,s2,s3,s4,s5,s6,s7⟩:=r;obtain ⟨r,hr2⟩:∃ r,R8.plus ⟨s0,s1,s2,s3,s4,s5,s6,s7⟩ (rounds ⟨s0,s1,s2,s3,s4,s5,s6,s7⟩ (wf (blk x k)) K 64)=r:=⟨_,rfl⟩
    obtain ⟨n0,n1,n2,n3,n4,n5,n6,n7⟩:=r;have aU:=JY hr2;clear hr2;have ho:o=64*k:=by have:=HN.out;omega
    have HO:=JY ho;clear ho;have hst:=HW.out.st;rw[hr] at hst;have HR:=JY hr;clear hr;obtain ⟨k0,k1,k2,k3,k4,k5,k6,k7,f0,f1,f2,f3,f4,f5,f6,f7⟩:=QK hst;have hB:w.heap.size+1<wr.heap.size:=(Array.getElem?_eq_some_iff.1 hst).1;have HST:=JY hst;clear hst;have hgt:=HW.out.gt;have hg':4<wr.heap.size:=by omega
    have FC:Hid (∀ i:Nat,i<64->wr.cell? ⟨4,i,none⟩=some (.int .u32 (K i))):=JY fun i hi=>(HW.out.K7.cell (p:=⟨4,i,none⟩) hg).trans (hK i hi)
    have tR:=JY hK;clear hK;go_wp2_with fail
    go_region_with (first
     | (go_at_call 214;refine (ac7 HW.out HO.out (by rw[HL.out,HO.out];exact HN.out.2) h64 hnc HST.out _ rfl).mono ?_;rintro e w2 ⟨rfl,hb2,hs2,l0,l1,l2,l3,l4,l5,l6,l7,m0,m1,m2,m3,m4,m5,m6,m7⟩;have hz2:w.heap.size+1<w2.heap.size:=by omega)
     | (go_at_call 213;refine (al7 aU _ (by omega) (fun i hi=>(hb2.cell (p:=⟨4,i,none⟩) (by exact hg')).trans (FC.out i hi))).mono ?_;rintro e w3 ⟨rfl,hb3⟩;obtain ⟨q0,q1,q2,q3,q4,q5,q6,q7,p0,p1,p2,p3,p4,p5,p6,p7⟩:=QK ((hb3.block _ hz2).trans ((hb2.block _ (by exact hB)).trans HST.out))))
    all_goals go_wp2_with fail
    all_goals
     go_roundw
     case rel =>
      obtain ⟨o',ho',ow⟩:=aiZ (c:=c) (o:=o) (g:=g1);refine ⟨k+1,o',n-64,c-64,by rw[ho'],?_,by omega,by unfold maxLen;omega,?_⟩
      · have h1:=HN.out;have h2:=HO.out;exact JY (by omega)
      · exact JY (ajm HW.out hb2 hb3 HR.out aU.out)
     case measure=>simp[lenOf];omega
  · obtain rfl:n=0:=by omega
    have hk:k=nb x:=by have:=HN.out;have:=HL.out;unfold nb;omega
    subst hk;have hst:=HW.out.st;have bl:=HW.out.out;have aR:=HW.out.K7;obtain ⟨R,hr⟩:∃ R,M8 K x (nb x)=R:=⟨_,rfl⟩
    rw[hr] at hst;have cS:=JY hr;clear hr;obtain ⟨r,hr⟩:∃ r:R8,R=r:=⟨_,rfl⟩
    obtain ⟨s0,s1,s2,s3,s4,s5,s6,s7⟩:=r;have HR:=JY hr;rw[hr] at hst;clear hr;obtain ⟨k0,k1,k2,k3,k4,k5,k6,k7,f0,f1,f2,f3,f4,f5,f6,f7⟩:=QK hst;have uD:=JY bl;clear bl hst;have xB:w.heap.size<wr.heap.size:=(Array.getElem?_eq_some_iff.1 uD.out).1;have fC:=JY (aae R);go_wp2_with (first
     | (go_at_call 215;refine (bytes_at HR _).mono ?_;rintro e w2 ⟨rfl,hb2⟩;have H3:=JY ((hb2.block _ xB).trans uD.out);have H4:=JY (aR.trans (hb2.mono (Nat.le_of_lt xB)));clear hb2)
     | (refine wpList_store_row rfl 255 _ _ rfl w.heap.size (sumTo R 32) rfl rfl _ (sumTo iv 0) H3.out (P7 R 32) ((MC iv 0).trans (MC R 32).symm) fC.out ?_))
    have h3:=setRow_heap w2 w.heap.size _ (sumTo R 32) _ _ H3.out;have hb3:=below_setRow H4.out (g:=w.heap.size) (by omega) (sumTo R 32);refine IH (results_cell_row rfl _ _ w.heap.size _ _ (0,0) _ rfl h3 Tryz.underlying255 rfl (P7 R 32)) rfl ⟨by rw[cS.out],hb3⟩
end
section
open Go
theorem LW{P:Program} {ops:Array Oper} {o:Oper} {a:Act}  {K:Act->World->Prop} {Q:Exit->Act->World->Prop} {E:Prop}
 (hg:o.guard=none) (s x:Operand) (t:TypeId) (hop:o.op=Op.call { callee:=Callee.builtin Builtin.append,args := #[s,x],argTypes := #[t,t] })
 (base:Nat) (e:TypeId) (i:TypeInfo) (z:Value) (size bytes:Nat) (ht:P.underlying t=some (.slice e)) (hi:P.info? e=some i) (hz:i.zero=some z)
 (hsize:i.size=size) (hby:i.bytes=bytes) (hzs:z.cells.size=size) (hsz:0<size)
 (v:Value) (n:Nat) (xs:List Value) (hs:a.eval s=v) (hown:w.ownsRow base e size v n xs)
 (ad:Addr) (m c:Nat) (news:List Value) (hx:a.eval x = .slice (some ad) m c) (hl:news.length=m*size) (hnews:∀ j u,news[j]? = some u->w.cell? (ad.add j)=some u) (h1:∀ u∈news,u.oneCell'=true)
 (h63:n+m<=maxLen) (hbytes:(n+m)*bytes<=140737488355328) (hbase:base<=w.heap.size)
 (hK:∀ v' w',w'.ownsRow base e size v' (n+m) (xs++news)->w.grownBy w' v.ownBlock->(v' = .slice none 0 0 ↔ v = .slice none 0 0/\m=0)->(v'.ownBlock=v.ownBlock\/v'.ownBlock=some w.heap.size)->K (a.put o.dst v') w') :
 if Region.wanted o (yielded ops a.tmps)=true then Oper.wp P o a w K Q else E:=by
 have hw:Region.wanted o (yielded ops a.tmps)=true:=by simp[Region.wanted,hg]
 rw[By hw];obtain ⟨v',w',hrun,r1,r2,r3,r4⟩:=run_append_own_at (P:=P) w base t o.type e i z size bytes ht hi hz hsize hby hzs hsz v n xs hown ad m c news hl hnews h1 h63 hbytes hbase;unfold Oper.wp;simp[execOp,hop,resolve,invoke,builtin,hs,hx,hrun,Result.andThen];exact hK v' w' r1 r2 r3 r4
end
section
open Go.RowKit
def akm:List UInt8:=[48,49,50,51,52,53,54,55,56,57,97,98,99,100,101,102]
def aa0 (n:Int):UInt8:=akm.getD n.toNat 48
def MU (r:R8):Nat->List UInt8
 | 0=>[]
 | k+1=>MU r k++[aa0 (Oq r k / 16),aa0 (Oq r k%16)]
def short (K:Nat->Int) (x:List UInt8):List UInt8:=MU (M8 K x (nb x)) 8
theorem R3(r:R8):∀ k,(MU r k).length=2*k
 | 0=>rfl
 | k+1=>by rw[MU,AS,R3 r k];simp;omega
theorem Zq(r:R8) (k:Nat):0<=Oq r k/\Oq r k<256:=by unfold Oq;omega
theorem aaf(r:R8) (j:Nat) (hj:j<32):∀ k,j<k->(sumTo r k)[j]? = some (.int .u8 (Oq r j))
 | 0,h=>by omega
 | k+1,h=>by
   rw[sumTo,Array.getElem?_setIfInBounds];by_cases e:k=j
   · subst e;simp[MC,hj]
   · rw[Bm e];exact aaf r j hj k (by omega)
theorem ait(n:Nat) (h:n<16):∃ hh,(⟨#[48,49,50,51,52,53,54,55,56,57,97,98,99,100,101,102]⟩:ByteArray)[n]'hh=aa0 (n:Int):=by
 refine ⟨by simpa [ByteArray.size] using h,?_⟩;rcases (show n=0\/n=1\/n=2\/n=3\/n=4\/n=5\/n=6\/n=7\/n=8\/n=9\/n=10\/n=11\/n=12\/n=13\/n=14\/n=15 from by omega) with rfl | rfl | rfl | rfl | rfl | rfl | rfl | rfl | rfl | rfl | rfl | rfl | rfl | rfl | rfl | rfl<;>rfl
theorem alf:∀ n:Nat,n<256->bits BinOp.and IntKind.u8 (n:Int) 15=((n%16:Nat):Int):=by
 have h:∀ n:Fin 256,bits BinOp.and IntKind.u8 (n.val:Int) 15=((n.val%16:Nat):Int):=by decide +kernel
 exact fun n hn=>h ⟨n,hn⟩
structure af0 (b:Nat) (W:Array Value) (w wr:World):Prop where
 st:wr.heap[b]? = some (.cells W 255 (0,0))
 K7:Below w.heap.size w wr
theorem cell_two_new(w:World) (x y:Value) (t:TypeId):∀ j u,[x,y][j]? = some u->(w.alloc (.cells #[x,y] t)).cell? ((⟨w.heap.size,0,none⟩:Addr).add j)=some u:=by
 intro j u h;have hadd:(⟨w.heap.size,0,none⟩:Addr).add j=⟨w.heap.size,j,none⟩:=by unfold Addr.add;split<;>simp_all
 rw[hadd,JZ (AF w _)];simpa using h
theorem af0.grow{W:Array Value}  {o:Obj}  (h:af0 b W w wr) (hb:b<wr.heap.size) (hB:B=b+1) (hg:B<=g) (hgr:(wr.alloc o).drew.grownBy w3 (Value.slice (some ⟨g,0,none⟩) n c).ownBlock) (hw:w.heap.size<=b:=by omega):af0 b W w w3:=by
 refine ⟨?_,?_⟩
 · have h1:=hgr.block b (by simp;omega) (by simp[Value.ownBlock];omega);rw[h1];exact (AM wr o b hb).trans h.st
 · exact ((h.K7.alloc h.K7.size o).drew).grown hgr (by have:=h.K7.size;simp;omega) (fun k hk=>by simp[Value.ownBlock] at hk;omega)
theorem akS{R:R8} {m:Nat} {q1:n<(⟨#[48,49,50,51,52,53,54,55,56,57,97,98,99,100,101,102]⟩:ByteArray).size} {q2:m<(⟨#[48,49,50,51,52,53,54,55,56,57,97,98,99,100,101,102]⟩:ByteArray).size}
 (hn:Oq R k / 16=n) (hm:Oq R k%16=m) (h1:(⟨#[48,49,50,51,52,53,54,55,56,57,97,98,99,100,101,102]⟩:ByteArray)[n]'q1=aa0 n) (h2:(⟨#[48,49,50,51,52,53,54,55,56,57,97,98,99,100,101,102]⟩:ByteArray)[m]'q2=aa0 m)
 (h:wr.ownsRow B 5 1 v (2*k+2) (Lv (MU R k)++[Value.int .u8 ((⟨#[48,49,50,51,52,53,54,55,56,57,97,98,99,100,101,102]⟩:ByteArray)[n]'q1).toNat,Value.int .u8 ((⟨#[48,49,50,51,52,53,54,55,56,57,97,98,99,100,101,102]⟩:ByteArray)[m]'q2).toNat])) :
 wr.ownsRow B 5 1 v (2*(k+1)) (Lv (MU R (k+1))):=by
 rw[h1,h2] at h;have e:Lv (MU R (k+1))=Lv (MU R k)++[Value.int .u8 (aa0 n).toNat,Value.int .u8 (aa0 m).toNat]:=by rw[MU,Tx,hn,hm];rfl
 rw[e];exact h
theorem ag8{l:List UInt8} (hl:l.length=16) (h:wr.ownsRow B 5 1 (.slice (some ⟨g,0,none⟩) 16 c) 16 (Lv l)) :
 (convert 53 9 (.slice (some ⟨g,0,none⟩) 16 c)).run Tryz.prog wr = .ok (.string ⟨l.toArray⟩) wr:=by
 have:=run_convert_bytes_arg (P:=Tryz.prog) wr 53 5 Tryz.underlying53 Tryz.underlying5 g 0 16 c (l.map fun c=>(c.toNat:Int)) (by simp[hl]) (fun i hi=>by
  rw[Nat.zero_add,h.cellAt i (by omega),Lv,GO,B9 (by omega)];simp[List.getD,B9 (show i<l.length by omega)]) 9 IT
 rw[this]
 congr 2
 apply Qs;simp[strOfNums,Function.comp_def]
theorem VI(x:List UInt8) (hx:x.length<=1000000) (K:Nat->Int) (w:World) (hg:4<w.heap.size)
 (hK:∀ i:Nat,i<64->w.cell? ⟨4,i,none⟩=some (.int .u32 (K i))) :
 Calls Tryz.prog 93 #[.string ⟨x.toArray⟩] w fun e w'=>e = .returned (.string ⟨(short K x).toArray⟩)/\Below w.heap.size w w':=by
 obtain ⟨i0,hi,hz0,hz1,hz2⟩:=KJ Vl;obtain ⟨R,hR⟩:∃ R,M8 K x (nb x)=R:=⟨_,rfl⟩
 have HR:=JY hR;clear hR;obtain ⟨W,hW⟩:∃ W,sumTo R 32=W:=⟨_,rfl⟩
 have HW:=JY hW;clear hW;go_enter Tryz.func93,Tryz.ntmps93;have hsz:W.size=32:=by rw[<- HW.out];exact MC R 32
 have HI:Hid ((Tryz.prog.info? 255).map (·.size)=some W.size):=JY (by rw[hsz];kernel_rfl);have HZ:Hid ((sumTo iv 0).size=W.size):=JY (by rw[hsz,MC]);have fC:Hid (W.all (·.oneCell')=true):=JY (by rw[<- HW.out];exact aae R);have lf:=JY hsz;clear hsz;go_wp2_with (first
  | (go_at_call 161;refine (akX x hx K _ hg hK).mono ?_;rintro e w1 ⟨he,hb1⟩;rw[HR.out,HW.out] at he;subst he)
  | (refine wpList_store_row rfl 255 _ _ rfl w1.heap.size W rfl rfl _ (sumTo iv 0) (AF w1 _) HI.out HZ.out fC.out ?_)
  | (refine wpList_make_own _ rfl _ _ _ rfl (w1.heap.size+1) 5 i0 (.int .u8 0) 1 Tryz.underlying53 hi hz0 hz1 _ _ 16 16 rfl rfl rfl (by omega) (by unfold maxLen;omega) (by simp) ?_;intro w2 hown hgrow))
 have HS:Hid (af0 w1.heap.size W w w2):=by
  have h0:=AF w1 (.cells (sumTo iv 0) 255);have h1:=setRow_heap _ w1.heap.size _ W _ _ h0;have b1:Below w.heap.size w (w1.alloc (.cells (sumTo iv 0) 255)):=hb1.alloc hb1.size _;have b2:=below_setRow b1 (g:=w1.heap.size) hb1.size W;have e0:((w1.alloc (.cells (sumTo iv 0) 255)).setRow w1.heap.size W).heap.size=w1.heap.size+1:=by simp
  refine JY ⟨?_,b2.grown hgrow (by rw[e0];have:=hb1.size;omega) (fun k hk=>by cases hk)⟩;have:=hgrow.block w1.heap.size (by simp) (by simp);exact this.trans h1
 have hw2:w1.heap.size+1<=w2.heap.size:=by
  have:=hgrow.size;simp at this;omega
 have hs1:w.heap.size<=w1.heap.size:=hb1.size;clear hgrow hb1;have e1:((w1.alloc (.cells (sumTo iv 0) 255)).setRow w1.heap.size W).heap.size=w1.heap.size+1:=by simp
 go_loopw [4,12] (fun v i wr=>∃ (k g c:Nat),k<=8/\i = .int .i64 k/\v = .slice (some ⟨g,0,none⟩) (2*k) c/\wr.ownsRow (w1.heap.size+1) 5 1 v (2*k) (Lv (MU R k))/\w1.heap.size+1<=wr.heap.size/\Hid (af0 w1.heap.size W w wr))
  (fun _ i _=>8-(intOf i).toNat)
 case atStart=>exact ⟨0,_,16,by omega,rfl,rfl,by simpa [MU,Lv] using hown,hw2,HS⟩
 case round =>
  clear hown HS hw2 e1;obtain ⟨k,g,c,hk,rfl,rfl,hown,hsz,HX⟩:=hrel;by_cases hlt:k<8
  · obtain ⟨b,hb⟩:∃ b:Nat,Oq R k=(b:Int):=⟨(Oq R k).toNat,by have:=Zq R k;omega⟩
    have n9:b<256:=by have:=Zq R k;omega
    have hcell:wr.cell? ⟨w1.heap.size,k,none⟩=some (.int .u8 (b:Int)):=by rw[JZ HX.out.st k,<- HW.out,aaf R k (by omega) 32 (by omega),hb]
    have bG:=JY hb;clear hb;have b8:(k:Int)<8:=by omega
    go_wp2_with fail;have hown1:wr.drew.ownsRow (w1.heap.size+1) 5 1 (.slice (some ⟨g,0,none⟩) (2*k) c) (2*k) (Lv (MU R k)):=hown;obtain ⟨n,hn,Hq⟩:∃ n:Nat,(b:Int) / 16=(n:Int)/\(n:Int)<16:=⟨b / 16,by omega,by omega⟩
    obtain ⟨m,hm,qY⟩:∃ m:Nat,bits BinOp.and IntKind.u8 (b:Int) 15=(m:Int)/\(m:Int)<16:=⟨b%16,alf b n9,by omega⟩
    have HM:Hid ((b:Int)%16=m):=JY (by have:=(alf b n9).symm.trans hm;omega);obtain ⟨q1,hq1⟩:=ait n (by omega);obtain ⟨q2,hq2⟩:=ait m (by omega);have cR:=JY hq1;have bR:=JY hq2;clear hq1 hq2
    go_region_law (refine LW rfl _ _ 53 rfl (w1.heap.size+1) 5 i0 (.int .u8 0) 1 1 Tryz.underlying53 hi hz0 hz1 hz2 rfl (by decide) _ _ _ rfl (hown1.alloc _) ⟨wr.heap.size,0,none⟩ 2 2 [_,_] rfl rfl (cell_two_new _ _ _ _) (fun x hx=>by simp at hx;rcases hx with rfl | rfl<;>rfl) (by unfold maxLen;omega) (by omega) (by simp;omega) ?_;intro v' w3 hown' hgrow3 hnil3 hblk3)
    all_goals go_wp2_with fail
    all_goals
     go_roundw
     case rel =>
      obtain ⟨g3,c3,hv3⟩:=agR hown' (by omega);have hgb:=(hown.lt g rfl).1;have yO:=akS (by rw[bG.out];exact hn) (by rw[bG.out];exact HM.out) cR.out bR.out hown';refine ⟨k+1,g3,c3,by omega,by go_num,hv3,yO,?_,JY (af0.grow HX.out (by omega) (by omega) hgb hgrow3)⟩;have:=hgrow3.size;simp at this;omega
     case measure=>simp[intOf];omega
  · obtain rfl:k=8:=by omega
    have hcv:=ag8 (R3 R 8) hown;rw[show 2*8=16 from rfl];have HH:=HX.out.K7;have HF:Hid (short K x=MU R 8):=JY (by rw[short,HR.out]);clear hown;go_wp2_with fail;go_ret;exact ⟨afE (by rw[HF.out]),HH⟩
theorem aho(b g o c:Nat) (p q:List UInt8) (hq:q.length<=2000) (w:World)
 (hb:w.heap[b]? = some (.cells #[.int .i64 2, .string ⟨p.toArray⟩, .string ⟨#[]⟩, .string ⟨#[]⟩] 329 (0,0)))
 (h2:w.cell? ⟨g,o+2,none⟩=some (.string ⟨q.toArray⟩)) :
 Calls Tryz.prog 315 #[.pointer (some ⟨b,0,none⟩), .slice (some ⟨g,o,none⟩) 3 c] w fun e w'=>e = .returned (.bool (Wd.isWord q))/\Below (w.setCell ⟨b,2,none⟩ (.string ⟨q.toArray⟩)).heap.size (w.setCell ⟨b,2,none⟩ (.string ⟨q.toArray⟩)) w':=by
 have k0:=(JZ hb 0).trans (show _=some (.int .i64 2) from rfl);have k2:=(JZ hb 2).trans (show _=some (.string ⟨#[]⟩) from rfl);have f2:=J2 hb 2;have HB:=JY hb;clear hb;go_enter Tryz.func315,Tryz.ntmps315;go_wp2_with (go_at_call 320;refine (aeb q hq _).mono ?_;rintro e w' ⟨rfl,fT⟩)
 go_ret;exact ⟨rfl,fT⟩
theorem Qu{t:TypeId} {a0 a1 a2 a3:Value} (h:w.heap[b]? = some (.cells #[a0,a1,a2,a3] t (0,0))) :
 w.cell? ⟨b,0,none⟩=some a0/\w.cell? ⟨b,1,none⟩=some a1/\w.cell? ⟨b,2,none⟩=some a2/\w.cell? ⟨b,3,none⟩=some a3/\w.frozen? ⟨b,0,none⟩=false/\w.frozen? ⟨b,1,none⟩=false/\w.frozen? ⟨b,2,none⟩=false/\w.frozen? ⟨b,3,none⟩=false :=
 ⟨(JZ h 0).trans rfl,(JZ h 1).trans rfl,(JZ h 2).trans rfl,(JZ h 3).trans rfl,J2 h 0,J2 h 1,J2 h 2,J2 h 3⟩
structure Rj (w:World) (a b c d a' b' c' d':Value) (w1:World):Prop where
 out:w1.heap[w.heap.size]? = some (.cells #[a,b,c,d] 329 (0,0))
 cmd:w1.heap[w.heap.size+1]? = some (.cells #[a',b',c',d'] 329 (0,0))
 K7:Below w.heap.size w w1
theorem Rj.begin(w:World) (a b c d a' b' c' d':Value):Rj w a b c d a' b' c' d' ((w.alloc (.cells #[a,b,c,d] 329)).alloc (.cells #[a',b',c',d'] 329)):=by
 obtain ⟨h0,h1,h2⟩:=ahT w (.cells #[a,b,c,d] 329) (.cells #[a',b',c',d'] 329);exact ⟨h0,h1,h2⟩
theorem Rj.set2{b c d:Value} (h:Rj w a b c d a' b' c' d' w1) (v:Value):Rj w a b c d a' b' v d' (w1.setCell ⟨w.heap.size+1,2,none⟩ v) :=
 ⟨(BY _ _ _ _ (by simp)).trans h.out,AI _ _ 2 _ _ v h.cmd,h.K7.setCell (p:=⟨w.heap.size+1,2,none⟩) (by simp) v⟩
theorem Rj.on{b c d:Value} (h:Rj w a b c d a' b' c' d' w1) (hb:Below w1.heap.size w1 w2):Rj w a b c d a' b' c' d' w2:=by
 have h1:w.heap.size+1<w1.heap.size:=(Array.getElem?_eq_some_iff.1 h.cmd).1;exact ⟨(hb.block _ (by omega)).trans h.out,(hb.block _ h1).trans h.cmd,h.K7.trans (hb.mono (by omega))⟩
theorem Rj.told{b c d:Value} (h:Rj w a b c d a' b' c' d' w1):∃ w2,w2=(((w1.setCell ⟨w.heap.size,0,none⟩ a').setCell ⟨w.heap.size,1,none⟩ b').setCell ⟨w.heap.size,2,none⟩ c').setCell ⟨w.heap.size,3,none⟩ d' /\
 w2.heap[w.heap.size]? = some (.cells #[a',b',c',d'] 329 (0,0))/\Below w.heap.size w w2 :=
 ⟨_,rfl,AI _ _ 3 _ _ d' (AI _ _ 2 _ _ c' (AI _ _ 1 _ _ b' (AI _ _ 0 _ _ a' h.out))),(((h.K7.setCell (p:=⟨w.heap.size,0,none⟩) (AC _) _).setCell (p:=⟨w.heap.size,1,none⟩) (AC _) _).setCell (p:=⟨w.heap.size,2,none⟩) (AC _) _).setCell (p:=⟨w.heap.size,3,none⟩) (AC _) _⟩
theorem abV(g o c:Nat) (p q:List UInt8) (hq:q.length<=2000) (hp:p.length<=2000) (h1:Wd.isWord q=true) (h2:Wd.isVar p=true) (mx:Int) (w:World) (hg0:3<w.heap.size) (hm:w.cell? ⟨3,0,none⟩=some (.int .i64 mx))
 (hg:g<w.heap.size) (c0:w.cell? ⟨g,o,none⟩=some (.string ⟨#[97,100,100]⟩)) (c1:w.cell? ⟨g,o+1,none⟩=some (.string ⟨p.toArray⟩)) (c2:w.cell? ⟨g,o+2,none⟩=some (.string ⟨q.toArray⟩)) :
 Calls Tryz.prog 302 #[.slice (some ⟨g,o,none⟩) 3 c] w fun e w'=>e = .returned (.tuple #[.agg #[.int .i64 2, .string ⟨p.toArray⟩, .string ⟨q.toArray⟩, .string ⟨#[]⟩], .bool true])/\Below w.heap.size w w':=by
 have HI:=JY (Rj.begin w (.int .i64 0) (.string ⟨#[]⟩) (.string ⟨#[]⟩) (.string ⟨#[]⟩) (.int .i64 2) (.string ⟨p.toArray⟩) (.string ⟨#[]⟩) (.string ⟨#[]⟩));have HM:=JY hm;clear hm;have bA:=JY c2;clear c2;go_enter Tryz.func302,Tryz.ntmps302;go_wp2_with (first
  | (go_at_call 315;refine (aho _ g o c p q hq _ HI.out.cmd ((HI.out.K7.cell (p:=⟨g,o+2,none⟩) hg).trans bA.out)).mono ?_;rintro e w1 ⟨rfl,hb1⟩;have cj:=JY ((HI.out.set2 (.string ⟨q.toArray⟩)).on hb1);obtain ⟨r0,r1,r2,r3,r4,r5,r6,r7⟩:=Qu cj.out.cmd;clear hb1)
  | (go_at_call 165;refine (ZJ p hp mx _ ((cj.out.K7.cell (p:=⟨3,0,none⟩) hg0).trans HM.out)).mono ?_;rintro e w2 ⟨rfl,hb2⟩;have aM:=JY (cj.out.on hb2);obtain ⟨s0,s1,s2,s3,s4,s5,s6,s7⟩:=Qu aM.out.cmd;obtain ⟨t0,t1,t2,t3,t4,t5,t6,t7⟩:=Qu aM.out.out;clear hb2))
 obtain ⟨w9,kL,hrow,aR⟩:=aM.out.told;obtain ⟨u0,u1,u2,u3, -⟩:=Qu hrow;rw[kL] at u0 u1 u2 u3 aR;exact IH (v := .tuple #[.agg #[.int .i64 2, .string ⟨p.toArray⟩, .string ⟨q.toArray⟩, .string ⟨#[]⟩], .bool true]) (by simp[results,Tryz.results302,go_sem,u0,u1,u2,u3]) rfl ⟨rfl,aR⟩
def akY:List UInt8:=[48,49,50,51,52,53,54,55,56,57]
theorem ahp(x:List UInt8) (hx:x.length<=2000) (w:World) :
 Calls Tryz.prog 317 #[.string ⟨x.toArray⟩, .string ⟨#[48,49,50,51,52,53,54,55,56,57]⟩] w fun e w'=>e = .returned (.string ⟨(Lib.trimS x akY).toArray⟩)/\Below w.heap.size w w' :=
 Any.strings_Trim_laid Tryz.lays160 (by kernel_rfl) ⟨x.toArray⟩ ⟨#[48,49,50,51,52,53,54,55,56,57]⟩ w (by simp[ByteArray.size];omega) (by decide) (ascii_of_all (by decide))
theorem ahY(x:List UInt8) (n:Int) (hl:x.length<=4) (h:Lib.atoi x=some n) (w:World) :
 Calls Tryz.prog 159 #[.string ⟨x.toArray⟩] w fun e w'=>e = .returned (.tuple #[.int .i64 n, .nilIface])/\Below w.heap.size w w':=by
 refine (Tryz.strconv_Atoi ⟨x.toArray⟩ n (by simp[ByteArray.size];omega) h w).mono ?_;rintro e w' ⟨rfl,t,rfl⟩;exact ⟨rfl,below_bytesWorld w _ t⟩
theorem akT(x:List UInt8) (n:Int) (h1:1<=x.length) (h4:x.length<=4) (hd:Wd.QO (fun c=>(c.toNat:Int)==48) x=false) (ht:Lib.trimS x akY=[]) (ha:Lib.atoi x=some n) (w:World) :
 Calls Tryz.prog 313 #[.string ⟨x.toArray⟩] w fun e w'=>e = .returned (.tuple #[.int .i64 n, .bool true])/\Below w.heap.size w w':=by
 obtain ⟨c0,hc0,hhead⟩:∃ c0,(⟨x.toArray⟩:ByteArray)[0]'(by show 0<x.length;omega)=c0/\∀ f,Wd.QO f x=f c0:=by
  cases x with
  | nil=>simp at h1
  | cons c l=>exact ⟨c,rfl,fun _=>rfl⟩
 rw[hhead] at hd;have he:(x==[])=false:=by cases x with
  | nil=>simp at h1
  | cons c l=>rfl
 have b4 : ¬ (4:Int)<x.length:=by omega
 have hp:(0:Int)<x.length:=by omega
 have HA:=JY ha;have HT:=JY ht;clear ha ht hhead;go_enter Tryz.func313,Tryz.ntmps313;go_wp2_with (first
  | (go_at_call 317;refine (ahp x (by omega) _).mono ?_;rintro e w1 ⟨lA,hb1⟩;rw[HT.out] at lA;subst lA)
  | (go_at_call 159;refine (ahY x n h4 HA.out _).mono ?_;rintro e w2 ⟨rfl,hb2⟩))
 go_quiet (fail);go_wp2_with fail;go_ret2;exact ⟨rfl,below_drewN (hb1.trans (hb2.mono hb1.size)) _⟩
end
section
open Go.RowKit
open Kw (St ME S)
variable {nm ve:S}{st:St}
def Kl (x:S):Value := .string ⟨x.toArray⟩
def pty:Fin 6->TypeId
 | 0=>287 | 1=>9 | 2=>9 | 3=>247 | 4=>329 | 5=>329
def psz:Fin 6->Nat
 | 0=>2 | 1=>1 | 2=>1 | 3=>2 | 4=>4 | 5=>4
def Lj (p:S × S):List Value:=[Kl p.1,Kl p.2]
def Us (c:ME):List Value:=[.int .i64 c.verb,Kl c.path,Kl c.word,Kl c.frm]
def Ku (st:St):Fin 6->Nat × List Value
 | 0=>(st.needs.length,st.needs.flatMap Lj) | 1=>(st.breaks.length,st.breaks.map Kl) | 2=>(st.wakes.length,st.wakes.map Kl)
 | 3=>(st.files.length,st.files.flatMap Lj) | 4=>(st.runs.length,st.runs.flatMap Us) | 5=>(st.Kn.length,st.Kn.flatMap Us)
def sset (sl:Fin 6->Value) (i:Fin 6) (v:Value):Fin 6->Value:=fun j=>if j=i then v else sl j
def abb (nm ve:S) (sl:Fin 6->Value) (left:S):Array Value := #[Kl nm,Kl ve,sl 0,sl 1,sl 2,sl 3,sl 4,sl 5,Kl left]
structure O9 (pb:Nat) (nm ve:S) (st:St) (sl:Fin 6->Value) (w:World):Prop where
 blk:w.heap[pb]? = some (.cells (abb nm ve sl st.left) 320 (0,0))
 own:∀ i,w.ownsRow (pb+1) (pty i) (psz i) (sl i) (Ku st i).1 (Ku st i).2
 apart:∀ i j,i≠j->∀ g,(sl i).ownBlock=some g->(sl j).ownBlock≠some g
theorem Ky{size:Nat}   (h:w.ownsRow B e size v n xs) (hb:Below w.heap.size w w'):w'.ownsRow B e size v n xs:=by
 refine ⟨h.1,?_⟩;rcases h.2 with hn | ⟨g,cap,cur,rfl,hg,hgg,rest⟩
 · exact .inl hn
 · exact .inr ⟨g,cap,cur,rfl,hg,by rw[hb.block g (Array.getElem?_eq_some_iff.1 hgg).1];exact hgg,rest⟩
theorem Kt{base size:Nat} {t:TypeId}    (h:w.ownsRow base t size v n xs) (hn:0<n):∃ g cap,v = .slice (some ⟨g,0,none⟩) n cap:=by
 rcases h.2 with ⟨_,h⟩ | ⟨g,cap,_,h,_⟩
 · omega
 · exact ⟨g,cap,h⟩
theorem O9.lt{sl:Fin 6->Value}  (h:O9 pb nm ve st sl w):pb<w.heap.size:=(Array.getElem?_eq_some_iff.1 h.blk).1
theorem O9.below{sl:Fin 6->Value}  (h:O9 pb nm ve st sl w) (hb:Below w.heap.size w w'):O9 pb nm ve st sl w' :=
 ⟨(hb.block _ h.lt).trans h.blk,fun i=>Ky (h.own i) hb,h.apart⟩
theorem O9.drew{sl:Fin 6->Value}  (h:O9 pb nm ve st sl w):O9 pb nm ve st sl w.drew:=⟨h.blk,h.own,h.apart⟩
theorem O9.drewN{sl:Fin 6->Value}  (h:O9 pb nm ve st sl w) (n:Nat):O9 pb nm ve st sl (w.drewN n):=⟨h.blk,h.own,h.apart⟩
theorem O9.alloc{sl:Fin 6->Value}  (h:O9 pb nm ve st sl w) (o:Obj):O9 pb nm ve st sl (w.alloc o):=h.below ((AD _ w).alloc (AC _) o)
theorem O9.left{sl:Fin 6->Value}  (h:O9 pb nm ve st sl w) (x:S):O9 pb nm ve { st with left:=x } sl (w.setCell ⟨pb,8,none⟩ (Kl x)) :=
 ⟨AI _ pb 8 _ _ _ h.blk,fun i=>by
  have:=ownsRow_setCell_below (h.own i) (a:=⟨pb,8,none⟩) (by simp) (Kl x);cases i using Fin.cases<;>exact this,h.apart⟩
theorem O9.names{sl:Fin 6->Value}  (h:O9 pb nm ve st sl w) (x y:S):O9 pb x y st sl ((w.setCell ⟨pb,0,none⟩ (Kl x)).setCell ⟨pb,1,none⟩ (Kl y)) :=
 ⟨AI _ pb 1 _ _ _ (AI _ pb 0 _ _ _ h.blk),fun i=>ownsRow_setCell_below (ownsRow_setCell_below (h.own i) (a:=⟨pb,0,none⟩) (by simp) _) (a:=⟨pb,1,none⟩) (by simp) _,h.apart⟩
theorem O9.kept{sl:Fin 6->Value}  (h:O9 pb nm ve st sl w) (i:Fin 6) (hg:w.grownBy w' (sl i).ownBlock):w'.heap[pb]? = some (.cells (abb nm ve sl st.left) 320 (0,0)):=by
 refine (hg.block pb h.lt fun e => ?_).trans h.blk;have:=((h.own i).lt pb e.symm).1;omega
theorem aeE(nm ve:S) (sl:Fin 6->Value) (left:S) (i:Fin 6) (v:Value):(abb nm ve sl left).setIfInBounds (2+i.val) v=abb nm ve (sset sl i v) left:=by
 match i with
 | 0=>rfl
 | 1=>rfl
 | 2=>rfl
 | 3=>rfl
 | 4=>rfl
 | 5=>rfl
theorem O9.put{st':St} {sl:Fin 6->Value}  (h:O9 pb nm ve st sl w) (i:Fin 6) {v':Value} (hg:w.grownBy w' (sl i).ownBlock)
 (hown:w'.ownsRow (pb+1) (pty i) (psz i) v' (Ku st' i).1 (Ku st' i).2) (hblk:v'.ownBlock=(sl i).ownBlock\/v'.ownBlock=some w.heap.size) (hst:∀ j,j≠i->Ku st' j=Ku st j) (hl:st'.left=st.left) :
 O9 pb nm ve st' (sset sl i v') (w'.setCell ⟨pb,2+i.val,none⟩ v'):=by
 refine ⟨?_,fun j => ?_,fun j k hjk g hj hk => ?_⟩
 · rw[hl,<- aeE];exact AI _ pb (2+i.val) _ _ v' (h.kept i hg)
 · refine ownsRow_setCell_below ?_ (by simp) _;by_cases e:j=i
   · subst e;simp only[sset,By];exact hown
   · simp only[sset,Bm e];rw[hst j e];refine (h.own j).kept hg ?_;cases hj:(sl j).ownBlock with
     | none=>exact .inl rfl
     | some g=>exact .inr fun e2=>h.apart j i e g hj e2.symm
 · have new:∀ m:Fin 6,m≠i->(sl m).ownBlock=some g->v'.ownBlock≠some g:=by
    intro m hm e1 e2;rcases hblk with e3 | e3
    · exact h.apart m i hm g e1 (e3▸e2)
    · have:=((h.own m).lt g e1).2;rw[e3] at e2;cases e2;omega
   by_cases e:j=i
   · subst e;simp only[sset,By] at hj;simp only[sset,Bm (Ne.symm hjk)] at hk;exact new k (Ne.symm hjk) hk hj
   · simp only[sset,Bm e] at hj;by_cases e2:k=i
     · subst e2;simp only[sset,By] at hk;exact new j e hj hk
     · simp only[sset,Bm e2] at hk;exact h.apart j k hjk g hj hk
theorem ai6{size:Nat}   (h:w.ownsRow B e size v 0 xs):∃ ao c,v = .slice ao 0 c:=by
 rcases h.2 with ⟨rfl,_⟩ | ⟨g,cap,cur,rfl,_⟩
 · exact ⟨none,0,rfl⟩
 · exact ⟨some ⟨g,0,none⟩,cap,rfl⟩
theorem aco(ao:Option Addr) (c:Nat) (fv:Value) (w:World) :
 Calls Tryz.prog 321 #[.slice ao 0 c,fv] w fun e w'=>e = .returned (.int .i64 (-1))/\Below w.heap.size w w':=by
 go_enter Tryz.func321,Tryz.ntmps321;go_wp2_with fail
 go_loop [8] (fun i=>i = .int .i64 0) (fun _=>0)
 case atStart=>rfl
 case round =>
  subst hrel;go_wp2_with fail;go_ret;exact ⟨rfl,AD _ _⟩
theorem XC(ao:Option Addr) (c:Nat) (fv:Value) (w:World) :
 Calls Tryz.prog 318 #[.slice ao 0 c,fv] w fun e w'=>e = .returned (.bool false)/\Below w.heap.size w w':=by
 go_enter Tryz.func318,Tryz.ntmps318;go_wp2_with (go_at_call 321;refine (aco _ _ _ _).mono ?_;rintro e w1 ⟨rfl,hb⟩)
 go_ret;exact ⟨rfl,hb⟩
theorem aaY(pb:Nat) (nm ve:S) (st:St) (sl:Fin 6->Value) (x:S) (w:World) (h:O9 pb nm ve st sl w) (hf:st.files=[]) :
 Calls Tryz.prog 314 #[.pointer (some ⟨pb,0,none⟩), .string ⟨x.toArray⟩] w fun e w'=>e = .returned (.bool false)/\Below w.heap.size w w':=by
 have hlt:=h.lt;have ho:=h.own 3;rw[show (Ku st 3).1=0 from by simp[Ku,hf]] at ho;obtain ⟨ao,c,hv⟩:=ai6 ho;have k5:=(JZ h.blk 5).trans (show _=some (sl 3) from rfl);rw[hv] at k5;clear ho hv h;go_enter Tryz.func314,Tryz.ntmps314;go_wp2_with (go_at_call 318;refine (XC _ _ _ _).mono ?_;rintro e w1 ⟨rfl,hb⟩)
 go_ret;exact ⟨rfl,((AD _ _).alloc (AC _) _).trans (hb.mono (by simp))⟩
theorem agA:(Tryz.prog.info? 247).map (fun i=>(i.zero,i.size,i.bytes))=some (some (.agg #[.string ByteArray.empty, .string ByteArray.empty]),2,32):=by kernel_rfl
theorem akf(pb q o c:Nat) (nm ve:S) (st:St) (sl:Fin 6->Value) (path z hsh:S) (n:Nat) (mx:Int) (K:Nat->Int) (w:World) (h:O9 pb nm ve st sl w) (hp0:9<=pb) (hf:st.files=[])
 (hpl:path.length<=2000) (hleft:st.left.length<=2000)
 (h1:1<=z.length) (h4:z.length<=4) (hd:Wd.QO (fun c=>(c.toNat:Int)==48) z=false) (ht:Lib.trimS z akY=[]) (ha:Lib.atoi z=some (n:Int))
 (hn:n<=st.left.length) (oz:Wd.LU path=true) (xq:Wd.under path=false) (jE:short K (st.left.take n)=hsh)
 (hm:w.cell? ⟨3,0,none⟩=some (.int .i64 mx)) (hK:∀ i:Nat,i<64->w.cell? ⟨4,i,none⟩=some (.int .u32 (K i)))
 (c0:w.cell? ⟨q,o,none⟩=some (.string ⟨path.toArray⟩)) (c1:w.cell? ⟨q,o+1,none⟩=some (.string ⟨z.toArray⟩)) (c2:w.cell? ⟨q,o+2,none⟩=some (.string ⟨hsh.toArray⟩)) :
 Calls Tryz.prog 301 #[.pointer (some ⟨pb,0,none⟩), .slice (some ⟨q,o,none⟩) 3 c] w fun e w'=>e = .returned (.bool true) /\
  ∃ sl',O9 pb nm ve { st with files:=st.files++[(path,st.left.take n)],left:=st.left.drop n } sl' w'/\Below pb w w':=by
 obtain ⟨i0,hi,hz0,hz1,hz2⟩:=KJ agA;have hlt:=h.lt;have H:=JY h;clear h;have HM:=JY hm;have HK:=JY hK;have Al:=JY jE;clear hm hK jE;go_enter Tryz.func301,Tryz.ntmps301;have e1:(⟨st.left.toArray⟩:ByteArray).extract 0 n=⟨(st.left.take n).toArray⟩:=Mx st.left n;have e2:(⟨st.left.toArray⟩:ByteArray).extract n st.left.length=⟨(st.left.drop n).toArray⟩:=Mw st.left n;have gb:(n:Int)<=(st.left.length:Int):=by omega
 go_wp2_with fail;go_quiet (fail);go_wp2_with (first
  | (go_at_call 313;refine (akT z n h1 h4 hd ht ha _).mono ?_;rintro e w1 ⟨rfl,hb1⟩;have bB:=JY ((H.out.drewN nq).below hb1);have k1:=(JZ bB.out.blk 8).trans (show _=some (.string ⟨st.left.toArray⟩) from rfl);have ag:Hid (Below w.heap.size w w1):=JY ((below_drewN (AD _ w) nq).trans hb1);clear hb1)
  | (go_at_call 218;refine (TJ path hpl mx _ ((ag.out.cell (p:=⟨3,0,none⟩) (by show 3<w.heap.size;omega)).trans HM.out)).mono ?_;rintro e w2 ⟨rfl,hb2⟩;have bQ:=JY (bB.out.below hb2);have k2:=(JZ bQ.out.blk 8).trans (show _=some (.string ⟨st.left.toArray⟩) from rfl);have ah:=JY (ag.out.trans (hb2.mono ag.out.size));clear hb2)
  | (go_at_call 219;refine (U4 path _).mono ?_;rintro e w3 ⟨rfl,rfl⟩)
  | (go_at_call 314;refine (aaY pb nm ve st sl path _ bQ.out hf).mono ?_;rintro e w3 ⟨rfl,hb3⟩;have cK:=JY (bQ.out.below hb3);have k3:=(JZ cK.out.blk 8).trans (show _=some (.string ⟨st.left.toArray⟩) from rfl);have f3:=J2 cK.out.blk 8;have vY:=cK.out.lt;have av:=JY (ah.out.trans (hb3.mono ah.out.size));clear hb3))
 have fU:((w3.setCell ⟨pb,8,none⟩ (.string ⟨(st.left.drop n).toArray⟩)).alloc (.cells #[.string ⟨path.toArray⟩, .string ⟨(st.left.take n).toArray⟩] 247)).heap[w3.heap.size]? = some (.cells #[.string ⟨path.toArray⟩, .string ⟨(st.left.take n).toArray⟩] 247 (0,0)):=by
  have:=AF (w3.setCell ⟨pb,8,none⟩ (.string ⟨(st.left.drop n).toArray⟩)) (.cells #[.string ⟨path.toArray⟩, .string ⟨(st.left.take n).toArray⟩] 247)
  rwa [show (w3.setCell ⟨pb,8,none⟩ (.string ⟨(st.left.drop n).toArray⟩)).heap.size=w3.heap.size from by simp] at this
 have P4:=(cK.out.left (st.left.drop n)).alloc (.cells #[.string ⟨path.toArray⟩, .string ⟨(st.left.take n).toArray⟩] 247);have B4:Below pb w ((w3.setCell ⟨pb,8,none⟩ (.string ⟨(st.left.drop n).toArray⟩)).alloc (.cells #[.string ⟨path.toArray⟩, .string ⟨(st.left.take n).toArray⟩] 247)) :=
  ((show Below pb w w3 from av.out.mono (by omega)).setCell (p:=⟨pb,8,none⟩) (AC _) _).alloc (by have:=cK.out.lt;simp;omega) _
 have bw:((w3.setCell ⟨pb,8,none⟩ (.string ⟨(st.left.drop n).toArray⟩)).alloc (.cells #[.string ⟨path.toArray⟩, .string ⟨(st.left.take n).toArray⟩] 247)).heap.size=w3.heap.size+1:=by simp
 have hne:some w3.heap.size≠(sl 3).ownBlock:=fun e=>by have:=((cK.out.own 3).lt _ e.symm).2;omega
 have e0:Kl (st.left.drop n) = .string ⟨(st.left.drop n).toArray⟩:=rfl;rw[e0] at P4;obtain ⟨fb,kA⟩:∃ fb,w3.heap.size=fb:=⟨_,rfl⟩
 generalize hu:(w3.setCell ⟨pb,8,none⟩ (.string ⟨(st.left.drop n).toArray⟩)).alloc (.cells #[.string ⟨path.toArray⟩, .string ⟨(st.left.take n).toArray⟩] 247)=u at *;rw[kA] at fU bw hne vY |-;clear hu k1 k2 k3 f3 av cK ah bQ ag bB e0 kA;have k5:=(JZ P4.blk 5).trans (show _=some (sl 3) from rfl);have f5:=J2 P4.blk 5;have l0:=(JZ fU 0).trans (show _=some (.string ⟨path.toArray⟩) from rfl);have l1:=(JZ fU 1).trans (show _=some (.string ⟨(st.left.take n).toArray⟩) from rfl);obtain ⟨m,xs,hmx⟩:∃ m xs,Ku { st with left:=st.left.drop n } 3=(m,xs):=⟨_,_,rfl⟩
 have hm0:m=0:=by have:=IN Prod.fst hmx;simpa [Ku,hf] using this.symm
 have bI:=P4.own 3;rw[hmx] at bI;have kM:(u.drew).ownsRow (pb+1) 247 2 (sl 3) m xs:=bI;have dY:=JY P4;have pq:=JY fU;have aB:=JY B4;have kV:=JY hmx;have fH:m<=30:=by omega
 have jB : ¬ fb=pb:=by omega
 have kF : ¬ pb=fb:=by omega
 clear P4 fU B4 hmx hm0 bI
 go_region_law (refine LW rfl _ _ 164 rfl (pb+1) 247 i0 _ 2 32 Tryz.underlying164 hi hz0 hz1 hz2 rfl (by decide) (sl 3) m xs rfl (kM.alloc _) ⟨u.heap.size,0,none⟩ 1 1 [_,_] (by simp[Act.eval]) rfl (cell_two_new _ _ _ _) (fun x hx=>by simp at hx;rcases hx with rfl | rfl<;>rfl) (by unfold maxLen;omega) (by omega) (by simp;omega) ?_;intro v' w4 hown' KF Nj RG;obtain ⟨gv,cv,rfl⟩:=Kt hown' (by omega);have hk4:=O9.kept (dY.out.drew.alloc _) 3 KF;have q5:=(JZ hk4 5).trans (show _=some (sl 3) from rfl);have g5:=J2 hk4 5;have d7:=(KF.block fb (by simp;omega) hne).trans ((AM _ _ _ (by show fb<u.heap.size;omega)).trans pq.out);have r1:=(JZ d7 1).trans (show _=some (.string ⟨(st.left.take n).toArray⟩) from rfl))
 all_goals
  have gI:Ku { st with files:=st.files++[(path,st.left.take n)],left:=st.left.drop n } 3=(m+1,xs++[.string ⟨path.toArray⟩, .string ⟨(st.left.take n).toArray⟩]):=by
   have:=kV.out;simp only[Ku,Prod.mk.injEq] at this |-;rw[<- this.1,<- this.2];simp[Lj,Kl]
  have hown2:w4.ownsRow (pb+1) (pty 3) (psz 3) (.slice (some ⟨gv,0,none⟩) (m+1) cv) (Ku { st with files:=st.files++[(path,st.left.take n)],left:=st.left.drop n } 3).1 (Ku { st with files:=st.files++[(path,st.left.take n)],left:=st.left.drop n } 3).2:=by rw[gI];exact hown'
  have eJ:=JY (O9.put (dY.out.drew.alloc _) 3 KF hown2 RG (fun j hj=>by
   match j,hj with
   | 0,_=>rfl
   | 1,_=>rfl
   | 2,_=>rfl
   | 3,h=>exact absurd rfl h
   | 4,_=>rfl
   | 5,_=>rfl) rfl)
  have bf:Hid (Below pb w (w4.setCell ⟨pb,5,none⟩ (.slice (some ⟨gv,0,none⟩) (m+1) cv))):=JY (((show Below pb w w4 from ((aB.out.drew.alloc (by show pb<=u.heap.size;omega) _).grown KF (by simp;omega) (fun k hk=>by have:=((dY.out.own 3).lt k hk).1;omega)))).setCell (p:=⟨pb,5,none⟩) (AC pb) _);clear hown2 gI hown' KF Nj RG hk4 d7;go_wp2_with (first
   | (go_at_call 93;refine (VI (st.left.take n) (by rw[DD];omega) K _ (by have:=bf.out.size;omega) (fun i hi=>(bf.out.cell (p:=⟨4,i,none⟩) (by show 4<pb;omega)).trans (HK.out i hi))).mono ?_;rintro e w6 ⟨Eh,aN⟩;rw[Al.out] at Eh;subst Eh))
  go_ret;exact ⟨rfl,_,eJ.out.below aN,bf.out.trans (aN.mono (Nat.le_of_lt eJ.out.lt))⟩
end
end Go.Proofs.YtfhmaiicimdldaaGreatDoor
