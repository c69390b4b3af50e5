/- StW3, StW4, StW5, RootMath, DecW1, OpenW1 -/
import Derived.Test.YtialenebfcnkkaaGreatDoorOrdJ8
import Derived.LoopTactic
import Derived.Test.YtialenebfcnkkaaGreatDoorOrdJ2
import Derived.Lib.Atoi
import Derived.Test.YtialenebfcnkkaaGreatDoorOrdJ1
set_option maxHeartbeats 6000000
set_option maxRecDepth 100000
namespace Go.Proofs.YtialenebfcnkkaaGreatDoor
section
open Go.RowKit
open Hv (S Dk)
def DC:Nat→Dk→Nat→S→Dk
 | 0,d,_,_=>d
 | f+1,d,n,x=>if x=[] then d else DC f (d.write n (jC (x.take 256))) (n+1) (x.drop 256)
theorem XD (f:Nat) (d:Dk) (n:Nat):DC f d n []=d:=by cases f<;>simp[DC]
theorem Vg (f:Nat) (d:Dk) (n:Nat) (x:S) (hx:x≠[]):DC (f+1) d n x=DC f (d.write n (jC (x.take 256))) (n+1) (x.drop 256):=by simp[DC,hx]
theorem yj (d:Dk) (n:Nat) (x:S):(d.write n x).now.length=d.now.length:=by simp[Dk.write]
theorem QM (d:Dk) (n i:Nat) (x:S) (h:i≠n):(d.write n x).may.getD i []=d.may.getD i []:=by
 simp only[Dk.write,List.getD_eq_getElem?_getD]
 rw[List.getElem?_set_ne (by omega)]
theorem Gf:∀ (f:Nat) (d:Dk) (n:Nat) (x:S),(DC f d n x).now.length=d.now.length
 | 0,_,_,_=>rfl
 | f+1,d,n,x=>by
   rw[DC]
   split
   · rfl
   · rw[Gf f,yj]
theorem ML:∀ (f:Nat) (d:Dk) (n:Nat) (x:S),(DC f d n x).wr≤d.wr+x.length
 | 0,_,_,_=>by simp[DC]
 | f+1,d,n,x=>by
   rw[DC]
   split
   · omega
   · rename_i hx
     have:=ML f (d.write n (jC (x.take 256))) (n+1) (x.drop 256)
     have hl:0<x.length:=by cases x with | nil=>exact absurd rfl hx | cons=>simp
     have e1:(d.write n (jC (x.take 256))).wr=d.wr+1:=rfl
     rw[e1,List.length_drop] at this
     omega
theorem DF {C:Nat→Prop} {d:Dk} (sb db n a b c half:Nat) (h x:S) (hn:1≤n) (hn2:n≤1000000) (hh:half≤1) (hlen:d.now.length=n) (hroom:x.length≤(n-1) / 2*256) (hmay:∀ i,d.may.getD i []=[]) (kP:d.wr+x.length+10<4611686018427387904)
   (w:World) (hs:aY sb db n a b c h w) (hd:bI C db d w) (QX : ¬ C sb) (hbs:Base w) (qm:∀ k,C k→12≤k) :
   Calls Tryz.prog 75 #[.pointer (some ⟨sb,0,none⟩), .int .i64 half, .string ⟨x.toArray⟩] w fun e w'=>e = .returned .nilIface∧∃ C',bI C' db (DC x.length d (1+half*((n-1) / 2)) x).flush w'∧aQ w.heap.size C w w'∧∀ k,C' k→C k∨w.heap.size≤k:=by
 have HS:=hide hs;have HD:=hide hd;have iT:=hide hbs;have oF:=hide qm;have HM:=hide hmay;have HL:=hide hlen
 clear hs hd hbs qm hmay hlen
 have hsl:=HS.out.lt
 have hgs:=iT.out.size
 go_enter Tryz.func75,Tryz.ntmps75
 go_wp2_with fail
 refine (zn sb db n a b c half h hn hn2 hh w HS.out).mono ?_
 rintro e w1 ⟨rfl,hb1⟩
 obtain ⟨n0,hn0⟩:∃ n0,1+half*((n-1) / 2)=n0:=⟨_,rfl⟩
 have hr0:n0*256+x.length≤n*256:=by
   rcases (show half=0∨half=1 by omega) with rfl | rfl<;>omega
 rw[hn0]
 have HN0:=hide hn0
 have kK:=hide (HS.out.below hb1);have HD1:=hide (HD.out.below hb1);have fC:=hide (iT.out.below hb1 iT.out.size)
 have eO:=hide ((aQ.refl w.heap.size C w).below hb1 (Nat.le_refl _))
 clear hb1 HS HD iT hn0
 go_wp2_with fail
 go_loopw [2,7] (fun t i wr=>∃ (k f:Nat) (y:S) (d':Dk) (C':Nat→Prop),t = .string ⟨y.toArray⟩∧i = .int .i64 (k:Int)∧k*256+y.length≤n*256∧y.length≤f∧y.length≤x.length∧d'.wr+y.length≤d.wr+x.length∧d'.now.length=n∧Hid (DC x.length d n0 x=DC f d' k y)∧Hid (∀ i,k≤i→d'.may.getD i []=[])∧Hid (bI C' db d' wr)∧Hid (∀ k,C' k→C k∨w.heap.size≤k)∧Hid (aY sb db n a b c h wr)∧Hid (Base wr)∧Hid (aQ w.heap.size C w wr)) (fun t _ _=>match t with | .string s=>s.size | _=>0)
 case atStart=>exact ⟨n0,x.length,x,d,C,rfl,rfl,hr0,Nat.le_refl _,Nat.le_refl _,Nat.le_refl _,HL.out,hide rfl,hide (fun i _=>HM.out i),HD1,hide (fun _ q => .inl q),kK,fC,eO⟩
 case round =>
   clear kK HD1 fC eO HM
   obtain ⟨k,f,y,d',C',rfl,rfl,hr,hyf,hyx,hwr,hdl,HW,HM,HD,HC,HS,HB,HF⟩:=hrel
   obtain ⟨s0,s1, -⟩:=HS.out.cells
   have hC2 : ¬ C' sb:=fun q=>by
     rcases HC.out sb q with q | q
     · exact QX q
     · omega
   have hww:=HF.out.size
   by_cases hy:y=[]
   · subst hy
     go_wp2_with fail
     refine (qX (m:=n) _ HD.out).mono ?_
     rintro e w2 ⟨rfl,hd2,hf2⟩
     have HD2:=hide hd2
     have iU:=hide (HF.out.next hf2 (by omega) (fun k hk q=>(HC.out k q).resolve_right (by omega)))
     clear hd2 hf2
     go_wp2_with fail
     go_ret
     have e1:DC x.length d n0 x=d':=by rw[HW.out,XD]
     rw[HN0.out,e1]
     exact ⟨rfl,C',HD2.out,iU.out,HC.out⟩
   · have hy0:0<y.length:=by cases y with | nil=>exact absurd rfl hy | cons=>simp
     obtain ⟨g,rfl⟩:∃ g,f=g+1:=⟨f-1,by omega⟩
     have hkn:k<d'.now.length:=by omega
     obtain ⟨m,hm⟩:∃ m,min y.length 256=m:=⟨_,rfl⟩
     have hm1:m≤y.length:=by omega
     have hm2:m≤256:=by omega
     have hmi:min (y.length:Int) 256=(m:Int):=by omega
     have hye:y.isEmpty=false:=by cases y with | nil=>exact absurd rfl hy | cons=>rfl
     have hx1:(⟨y.toArray⟩:ByteArray).extract 0 m=⟨(y.take m).toArray⟩:=vL _ m
     have hx2:(⟨y.toArray⟩:ByteArray).extract m y.length=⟨(y.drop m).toArray⟩:=vK ⟨y.toArray⟩ m
     have b1:(m:Int)≤(y.length:Int):=by omega
     have b2:(0:Int)≤(m:Int):=by omega
     have htk:y.take 256=y.take m:=by
       rw[← hm]
       by_cases q:y.length≤256
       · rw[List.take_of_length_le q,show min y.length 256=y.length by omega,List.take_of_length_le (Nat.le_refl _)]
       · rw[show min y.length 256=256 by omega]
     have hdr:y.drop 256=y.drop m:=by
       rw[← hm]
       by_cases q:y.length≤256
       · rw[List.drop_of_length_le q,show min y.length 256=y.length by omega,List.drop_of_length_le (Nat.le_refl _)]
       · rw[show min y.length 256=256 by omega]
     have HWN:Hid (DC x.length d n0 x=DC g (d'.write k (jC (y.take m))) (k+1) (y.drop m)):=hide (by rw[HW.out,Vg _ _ _ _ hy,htk,hdr])
     have hm0:(d'.may.getD k []).length≤1000000:=by rw[HM.out k (Nat.le_refl _)];simp
     have hmp:0<m:=by omega
     have hdm:m=256∨m=y.length:=by omega
     have htl:(y.take m).length≤256:=by rw[List.length_take];omega
     have hdn:(y.drop m).length=y.length-m:=List.length_drop
     clear htk hdr HW
     go_wp2_with fail
     clear hmi hm
     go_region_held3 (fun w'=>w'.cell? ⟨sb,0,none⟩=some (.iface 23 (.pointer (some ⟨db,0,none⟩)))∧w'.cell? ⟨sb,1,none⟩=some (.int .i64 n))
       (first | assumption | exact ⟨HS2.out.cells.1,HS2.out.cells.2.1⟩ | exact ⟨s0,s1⟩ | simp[go_sem, *])
       (first
         | (go_at_call 140;refine (D6 (m:=n) (n:=k) (y.take m) htl hkn (by omega) hm0 (by omega) _ HD.out.drew HB.out.drew (fun q hq=>by rcases HC.out q hq with hq | hq;exact oF.out q hq;omega)).mono ?_;rintro e w2 ⟨rfl,C2,hd2,hf2,hc2⟩;have HS2:=hide ((show aY sb db n a b c h wr.drew from HS.out).far hf2 (Nat.le_refl _) hC2);have HD2:=hide hd2;have iU:=hide (HF.out.drew.next hf2 (by simp;omega) (fun q hq r=>(HC.out q r).resolve_right (by omega)));have jc:=hide (show ∀ q,C2 q→C q∨w.heap.size≤q from fun q hq=>by rcases hc2 q hq with r | r;exact HC.out q r;simp at r;exact .inr (by omega));have HB2:=hide (HB.out.drew.far hf2 (by simp;omega) (fun q hq=>by rcases HC.out q hq with hq | hq;exact oF.out q hq;omega));clear hd2 hf2 hc2))
     go_wp2_with fail
     refine ⟨⟨k+1,g,y.drop m,d'.write k (jC (y.take m)),C2,rfl,by go_num,by omega,by omega,by omega,?_,by rw[yj];exact hdl,HWN,hide (fun i hi=>by rw[QM _ _ _ _ (by omega)];exact HM.out i (by omega)),HD2,jc,HS2,HB2,iU⟩,?_⟩
     · have e1:(d'.write k (jC (y.take m))).wr=d'.wr+1:=rfl
       omega
     · show (y.drop m).length<y.length
       omega
theorem yh (s:ByteArray) (w:World):Calls Tryz.prog 37 #[.string s, .nilIface] w fun e w'=>e = .returned .nilIface∧w'=w:=by
 go_enter Tryz.func37,Tryz.ntmps37
 go_wp2
 go_ret
 exact ⟨rfl,rfl⟩
theorem oq (x:S):(short aF x).length≤100:=by rw[short,qI];decide
theorem q9 (d:Dk) (i:Nat):d.flush.may.getD i []=[]:=by
 simp only[Dk.flush,List.getD_eq_getElem?_getD,List.getElem?_map]
 cases d.now[i]? <;> rfl
theorem jR (d:Dk):d.flush.now.length=d.now.length:=rfl
def Mt (d:Dk) (a b c:Nat) (h:S):Dk:=(d.write 0 (jC (iG a b c h))).flush
def Jp (d:Dk) (n a:Nat) (x:S):Dk:=Mt (DC x.length d (1+(1-a)*((n-1) / 2)) x).flush (1-a) x.length 0 (short aF x)
theorem Ga (d:Dk) (a b c:Nat) (h:S):(Mt d a b c h).now.length=d.now.length:=by rw[Mt,jR,yj]
theorem Uf (d:Dk) (a b c:Nat) (h:S):(Mt d a b c h).wr=d.wr+1:=rfl
theorem Nz (d:Dk) (a b c:Nat) (h:S) (i:Nat):(Mt d a b c h).may.getD i []=[]:=q9 _ i
theorem TU (d:Dk) (n a:Nat) (x:S):(Jp d n a x).now.length=d.now.length:=by rw[Jp,Ga,jR,Gf]
theorem Xk (d:Dk) (n a:Nat) (x:S):(Jp d n a x).wr≤d.wr+x.length+1:=by
 rw[Jp,Uf]
 have:=ML x.length d (1+(1-a)*((n-1) / 2)) x
 show (DC _ _ _ _).wr+1≤_
 omega
theorem TV (d:Dk) (n a:Nat) (x:S) (i:Nat):(Jp d n a x).may.getD i []=[]:=Nz _ _ _ _ _ i
theorem Jr {C:Nat→Prop} {d:Dk} (sb db n a b c:Nat) (h x:S) (hn:1≤n) (hn2:n≤1000000) (ha:a≤1) (hx:x.length≤1000000) (hlen:d.now.length=n) (hroom:x.length≤(n-1) / 2*256) (hmay:∀ i,d.may.getD i []=[]) (kP:d.wr+x.length+10<4611686018427387904)
   (w:World) (hs:aY sb db n a b c h w) (hd:bI C db d w) (QX : ¬ C sb) (hbs:Base w) (qm:∀ k,C k→12≤k) :
   Calls Tryz.prog 35 #[.pointer (some ⟨sb,0,none⟩), .string ⟨x.toArray⟩] w fun e w'=>e = .returned .nilIface∧∃ C',bI C' db (Jp d n a x) w'∧aY sb db n (1-a) x.length 0 (short aF x) w'∧aQ w.heap.size (fun k=>C k∨k=sb) w w'∧∀ k,C' k→C k∨w.heap.size≤k:=by
 obtain ⟨s0,s1,s2,s3,s4,s5⟩:=hs.cells
 have HS:=hide hs;have HD:=hide hd;have iT:=hide hbs;have oF:=hide qm;have HM:=hide hmay;have hlt:=hide hd.lt
 have hsl:=hs.lt
 have hgs:=hbs.size
 have e1:(1:Int)-(a:Int)=((1-a:Nat):Int):=by omega
 clear hs hd hbs qm hmay
 go_enter Tryz.func35,Tryz.ntmps35
 go_wp2_with fail
 refine (Ce (1-a) x hx w iT.out).mono ?_
 rintro e w1 ⟨rfl,hb1⟩
 have hs1:=hb1.size
 have eO:=hide (((aQ.refl w.heap.size C w).below hb1 (Nat.le_refl _)).alloc hs1 (.cells (dX (1-a) x.length 0 (short aF x)) 146))
 have kK:=hide (show aY sb db n a b c h (w1.alloc (.cells (dX (1-a) x.length 0 (short aF x)) 146)) from (HS.out.below hb1).below ((Below.refl w1.heap.size w1).alloc (Nat.le_refl _) _))
 have HD1:=hide ((HD.out.below hb1).alloc (.cells (dX (1-a) x.length 0 (short aF x)) 146))
 have fC:=hide ((iT.out.below hb1 hgs).alloc (.cells (dX (1-a) x.length 0 (short aF x)) 146))
 have H1:=hide (heap_alloc_new w1 (.cells (dX (1-a) x.length 0 (short aF x)) 146))
 have c1:=fu H1.out
 clear hb1 HS HD iT s0 s1 s2 s3 s4 s5
 obtain ⟨z,hz⟩:∃ z,short aF x=z:=⟨_,rfl⟩
 have hzl:z.length≤100:=by rw[← hz];exact oq x
 have HZ:=hide hz
 rw[hz] at eO kK HD1 fC H1 c1 ⊢
 unfold dX
 clear hz
 go_wp2_with fail
 obtain ⟨B,hB⟩:∃ B,w1.heap.size=B:=⟨_,rfl⟩
 obtain ⟨u,hu⟩:∃ u,w1.alloc (.cells #[.int .i64 (1-a:Nat), .int .i64 x.length, .int .i64 0, .string ⟨z.toArray⟩] 146)=u:=⟨_,rfl⟩
 have hwB:w.heap.size≤B:=by omega
 have nX:u.heap.size=B+1:=by rw[← hu,← hB];simp
 have iU:Hid (aQ w.heap.size C w u):=hide (by rw[← hu];exact eO.out)
 have HS2:Hid (aY sb db n a b c h u):=hide (by rw[← hu];exact kK.out)
 have HD2:Hid (bI C db d u):=hide (by rw[← hu];exact HD1.out)
 have zx:Hid (Base u):=hide (by rw[← hu];exact fC.out)
 have H2:Hid (u.heap[B]? = some (.cells (dX (1-a) x.length 0 z) 146 (0,0))):=hide (by rw[← hu,← hB];exact H1.out)
 have ZG : ¬ C B:=fun q=>by have:=HD2.out.lt B q;have:=hlt.out B q;omega
 rw[hu,hB]
 clear hu hB eO kK HD1 fC H1 c1
 refine (DF (C:=C) sb db n a b c (1-a) h x hn hn2 (by omega) hlen hroom HM.out kP u HS2.out HD2.out QX zx.out oF.out).mono ?_
 rintro e w2 ⟨rfl,C1,hd2,hf2,hc2⟩
 have H3:=hide ((hf2.block B (by omega) ZG).trans H2.out)
 have c3:=fu H3.out
 have Y2:=hide (HS2.out.far hf2 (Nat.le_refl _) QX)
 have HD3:=hide hd2
 have mO:=hide (iU.out.next hf2 (by omega) (fun _ _ q=>q))
 have Vl:=hide (show ∀ k,C1 k→C k∨w.heap.size≤k from fun k hk=>(hc2 k hk).imp id (fun q=>by omega))
 have YA:=hide (zx.out.far hf2 (by omega) oF.out)
 have hs3:w.heap.size≤w2.heap.size:=mO.out.size
 clear hd2 hf2 hc2 iU HS2 HD2 zx H2
 go_wp2_with fail
 have ac9 : ¬ C1 sb:=fun q=>by
   rcases Vl.out sb q with q | q
   · exact QX q
   · omega
 refine (uM (C:=C1) (d:=(DC x.length d (1+(1-a)*((n-1) / 2)) x).flush) sb db n a b c (1-a) x.length 0 h z (by omega) (by omega) (by omega) hzl (by rw[jR,Gf];omega) (by rw[q9];simp) (by show (DC _ _ _ _).wr+1<_;have:=ML x.length d (1+(1-a)*((n-1) / 2)) x;omega) w2 Y2.out HD3.out ac9 YA.out (fun k hk=>by
   rcases Vl.out k hk with q | q
   · exact oF.out k q
   · omega)).mono ?_
 rintro e w3 ⟨rfl,C2,hd4,hs4,lF,hc4⟩
 have HD4:=hide hd4;have HS4:=hide hs4
 have sS:=hide ((mO.out.mono (C':=fun k=>C k∨k=sb) (Nat.le_refl _) (fun _ _ q => .inl q)).next lF hs3 (fun k hk q=>by
   rcases q with q | q
   · exact .inl ((Vl.out k q).resolve_right (by omega))
   · exact .inr q))
 have Ra:=hide (show ∀ k,C2 k→C k∨w.heap.size≤k from fun k hk=>by
   rcases hc4 k hk with q | q
   · exact Vl.out k q
   · exact .inr (by omega))
 clear hd4 hs4 lF hc4
 go_wp2_with fail
 refine (J7 _ _).mono ?_
 rintro e w5 ⟨rfl,rfl⟩
 go_wp2_with fail
 go_ret
 refine ⟨rfl,C2,?_,?_,sS.out,Ra.out⟩
 · rw[Jp,Mt,HZ.out];exact HD4.out
 · rw[HZ.out];exact HS4.out
theorem JD {C:Nat→Prop} {d:Dk} (sb db n a b c m:Nat) (h:S) (ha:a≤1) (hb:b≤1000000) (hm:m≤1000000) (hh:h.length≤100) (hn:0<d.now.length) (hmay:∀ i,d.may.getD i []=[]) (kP:d.wr+1<4611686018427387904)
   (w:World) (hs:aY sb db n a b c h w) (hd:bI C db d w) (QX : ¬ C sb) (hbs:Base w) (qm:∀ k,C k→12≤k) :
   Calls Tryz.prog 145 #[.pointer (some ⟨sb,0,none⟩), .int .i64 m] w fun e w'=>e = .returned .nilIface∧∃ C',bI C' db (Mt d a b m h) w'∧aY sb db n a b m h w'∧aQ w.heap.size (fun k=>C k∨k=sb) w w'∧∀ k,C' k→C k∨w.heap.size≤k:=by
 obtain ⟨s0,s1,s2,s3,s4,s5⟩:=hs.cells
 have HS:=hide hs;have HD:=hide hd;have iT:=hide hbs;have oF:=hide qm;have HM:=hide hmay;have hlt:=hide hd.lt
 have hsl:=hs.lt
 have hgs:=hbs.size
 clear hs hd hbs qm hmay
 go_enter Tryz.func145,Tryz.ntmps145
 go_wp2_with fail
 have hrow:=heap_alloc_new w (.cells (dX a b m h) 146)
 have iV:=hide ((aQ.refl w.heap.size (fun k=>C k∨k=sb) w).alloc (Nat.le_refl _) (.cells (dX a b m h) 146))
 have wO:=hide (iT.out.alloc (.cells (dX a b m h) 146))
 have Gj:=hide (show aY sb db n a b c h (w.alloc (.cells (dX a b m h) 146)) from HS.out.below ((Below.refl w.heap.size w).alloc (Nat.le_refl _) _))
 have HD0:=hide (HD.out.alloc (.cells (dX a b m h) 146))
 have ZG : ¬ C w.heap.size:=fun q=>by have:=hlt.out _ q;omega
 show Code.wp _ _ _ _ (w.alloc (.cells (dX a b m h) 146))
 obtain ⟨B,hB⟩:∃ B,w.heap.size=B:=⟨_,rfl⟩
 obtain ⟨u,hu⟩:∃ u,w.alloc (.cells (dX a b m h) 146)=u:=⟨_,rfl⟩
 have nX:u.heap.size=B+1:=by rw[← hu,← hB];simp
 rw[hu] at hrow iV wO Gj HD0 ⊢
 rw[hB] at hrow iV hsl ZG hgs ⊢
 have H0:=hide hrow
 have c0:=fu hrow
 have lm:=Lib.itoa_length_le m (by omega) (by omega)
 have j1 : ¬ 9223372036854775807<20+(Lib.itoa (m:Int)).length:=by omega
 have hsB:sb≠B:=by omega
 clear hu hrow iT HS HD
 go_region_held3 (fun w'=>w'.cell? ⟨B,0,none⟩=some (.int .i64 a)∧w'.cell? ⟨B,1,none⟩=some (.int .i64 b)∧w'.cell? ⟨B,2,none⟩=some (.int .i64 m)∧w'.cell? ⟨B,3,none⟩=some (.string ⟨h.toArray⟩))
   (first | assumption | exact fu H2.out | exact fu H1.out | exact c0 | simp[go_sem, *])
   (first
     | (go_at_call 76;refine (lX m (by omega) (by omega) _ wO.out.drew).mono ?_;rintro e w1 ⟨rfl,hb1⟩;have H1:=hide ((hb1.block B (by simp;omega)).trans H0.out);have kK:=hide (Gj.out.kept (hb1.block sb (by simp;omega)));have fC:=hide (wO.out.drew.below hb1 (by simp;omega));have HD1:=hide (HD0.out.drew.below hb1);have eO:=hide (iV.out.drew.below hb1 (by simp;omega));have hs1:=hb1.size;clear hb1)
     | (go_at_call 77;refine (uM (C:=C) (d:=d) sb db n a b c a b m h h (by omega) (by omega) (by omega) hh hn (by rw[HM.out];simp) kP w1 kK.out HD1.out QX fC.out oF.out).mono ?_;rintro e w2 ⟨rfl,C2,hd2,hs2,hf2,hc2⟩;have H2:=hide ((hf2.block B (by simp at hs1;omega) (fun q=>by rcases q with q | q;exact ZG q;exact hsB q.symm)).trans H1.out);have HS2:=hide hs2;have HD2:=hide hd2;have iU:=hide (eO.out.next hf2 (by simp at hs1;omega) (fun _ _ q=>q));have jc:=hide (show ∀ k,C2 k→C k∨B≤k from fun k hk=>(hc2 k hk).imp id (fun q=>by simp at hs1;omega));clear hd2 hs2 hf2 hc2)
     | (go_at_call 37;refine (yh _ _).mono ?_;rintro e w3 ⟨rfl,rfl⟩))
 go_wp2_with fail
 go_ret
 rw[hB]
 exact ⟨rfl,C2,HD2.out,HS2.out,iU.out,jc.out⟩
theorem KF {C:Nat→Prop} {d:Dk} (db n:Nat) (hn:0<d.now.length) (hmay:∀ i,d.may.getD i []=[]) (kP:d.wr+1<4611686018427387904)
   (w:World) (hd:bI C db d w) (hbs:Base w) (qm:∀ k,C k→12≤k) :
   Calls Tryz.prog 47 #[.agg (gJ db n)] w fun e w'=>e = .returned .nilIface∧∃ C',bI C' db (Mt d 0 0 0 (short aF [])) w'∧aQ w.heap.size C w w'∧∀ k,C' k→C k∨w.heap.size≤k:=by
 have HD:=hide hd;have iT:=hide hbs;have oF:=hide qm;have HM:=hide hmay;have hlt:=hide hd.lt
 have hgs:=hbs.size
 clear hd hbs qm hmay
 unfold gJ
 go_enter Tryz.func47,Tryz.ntmps47
 go_wp2_with fail
 have hS1:aY (w.heap.size+1) db n 0 0 0 [] ((w.alloc (.cells (gJ db n) 110)).alloc (.cells #[.iface 23 (.pointer (some ⟨db,0,none⟩)), .int .i64 n, .int .i64 0, .int .i64 0, .int .i64 0, .string ⟨#[]⟩] 148)):=by
   have:=heap_alloc_new (w.alloc (.cells (gJ db n) 110)) (.cells #[.iface 23 (.pointer (some ⟨db,0,none⟩)), .int .i64 n, .int .i64 0, .int .i64 0, .int .i64 0, .string ⟨#[]⟩] 148)
   unfold aY
   simpa using this
 have kK:=hide hS1
 have HD1:=hide ((HD.out.alloc (.cells (gJ db n) 110)).alloc (.cells #[.iface 23 (.pointer (some ⟨db,0,none⟩)), .int .i64 n, .int .i64 0, .int .i64 0, .int .i64 0, .string ⟨#[]⟩] 148))
 have fC:=hide ((iT.out.alloc (.cells (gJ db n) 110)).alloc (.cells #[.iface 23 (.pointer (some ⟨db,0,none⟩)), .int .i64 n, .int .i64 0, .int .i64 0, .int .i64 0, .string ⟨#[]⟩] 148))
 have eO:=hide (((aQ.refl w.heap.size C w).alloc (Nat.le_refl _) (.cells (gJ db n) 110)).alloc (by simp) (.cells #[.iface 23 (.pointer (some ⟨db,0,none⟩)), .int .i64 n, .int .i64 0, .int .i64 0, .int .i64 0, .string ⟨#[]⟩] 148))
 clear hS1 HD iT
 refine (Ce 0 [] (by simp) _ fC.out).mono ?_
 rintro e w2 ⟨rfl,hb2⟩
 have HS2:=hide (kK.out.below hb2)
 have HD2:=hide (HD1.out.below hb2)
 have zx:=hide (fC.out.below hb2 fC.out.size)
 have iU:=hide (eO.out.below hb2 (by simp;omega))
 have hs2:=hb2.size
 simp at hs2
 have QX : ¬ C (w.heap.size+1):=fun q=>by have:=hlt.out _ q;omega
 have hl2:=HD2.out.lt
 clear hb2 kK HD1 fC eO
 go_wp2_with fail
 refine (uM (C:=C) (d:=d) (w.heap.size+1) db n 0 0 0 0 ([]:S).length 0 [] (short aF []) (by omega) (by simp) (by omega) (oq []) hn (by rw[HM.out];simp) kP w2 HS2.out HD2.out QX zx.out oF.out).mono ?_
 rintro e w3 ⟨rfl,C2,hd3,hs3,hf3,hc3⟩
 have HD3:=hide hd3
 have mO:=hide (iU.out.next hf3 (by omega) (fun k hk q=>by
   rcases q with q | q
   · exact q
   · omega))
 have Vl:=hide (show ∀ k,C2 k→C k∨w.heap.size≤k from fun k hk=>(hc3 k hk).imp id (fun q=>by omega))
 clear hd3 hs3 hf3 hc3
 go_wp2_with fail
 refine (yh _ _).mono ?_
 rintro e w4 ⟨rfl,rfl⟩
 go_wp2_with fail
 go_ret
 exact ⟨rfl,C2,HD3.out,mO.out,Vl.out⟩
end
section
open Hv (S)
theorem pI {u:Nat} (h:u<10):Lib.decDigits u=[UInt8.ofNat (48+u)]:=by rw[Lib.decDigits,dif_pos h]
theorem su {u:Nat} (h : ¬ u<10):Lib.decDigits u=Lib.decDigits (u / 10)++[UInt8.ofNat (48+u%10)]:=by rw[Lib.decDigits,dif_neg h]
theorem Ba (d:Nat) (h:d<10):(UInt8.ofNat (48+d)).toNat=48+d:=by simp;omega
theorem Bb:∀ (u:Nat),∀ c∈Lib.decDigits u,48≤c.toNat∧c.toNat≤57:=by
 intro u
 induction u using Nat.strongRecOn with
 | _ u ih =>
   intro c hc
   by_cases h:u<10
   · rw[pI h,List.mem_singleton] at hc
     subst hc
     rw[Ba u h];omega
   · rw[su h] at hc
     rcases List.mem_append.1 hc with hc | hc
     · exact ih (u / 10) (by omega) c hc
     · rw[List.mem_singleton] at hc
       subst hc
       rw[Ba _ (Nat.mod_lt _ (by decide))];omega
theorem vF (b:UInt8) (d:Nat) (hd:Lib.digitVal b=some d):∀ (l:S) (acc:Nat) (m:Nat),Lib.decFrom acc l=some m→Lib.decFrom acc (l++[b])=some (m*10+d)
 | [],acc,m,h=>by
   simp only[Lib.decFrom,Option.some.injEq] at h
   subst h
   simp[Lib.decFrom,hd]
 | a::r,acc,m,h=>by
   rw[List.cons_append,Lib.decFrom]
   rw[Lib.decFrom] at h
   cases hv:Lib.digitVal a with
   | none=>rw[hv] at h;cases h
   | some e =>
     rw[hv] at h
     exact vF b d hd r _ m h
theorem yJ (d:Nat) (h:d<10):Lib.digitVal (UInt8.ofNat (48+d))=some d:=by
 unfold Lib.digitVal
 rw[Ba d h,if_pos (by omega)]
 simp
theorem A9:∀ u:Nat,Lib.decFrom 0 (Lib.decDigits u)=some u:=by
 intro u
 induction u using Nat.strongRecOn with
 | _ u ih =>
   by_cases h:u<10
   · rw[pI h,Lib.decFrom,yJ u h]
     simp[Lib.decFrom]
   · rw[su h,vF _ _ (yJ _ (Nat.mod_lt _ (by decide))) _ _ _ (ih (u / 10) (by omega))]
     congr 1;omega
theorem OE (u:Nat):Lib.decDigits u≠[]:=fun e=>by
 have:=Lib.nDigits_pos u
 rw[← Lib.decDigits_length,e] at this
 simp at this
theorem BA (u:Nat):Lib.itoa (u:Int)=Lib.decDigits u:=by
 unfold Lib.itoa
 rw[if_neg (by omega)]
 simp
theorem Oi (u:Nat):Lib.atoi (Lib.itoa (u:Int))=some (u:Int):=by
 rw[BA]
 cases h:Lib.decDigits u with
 | nil=>exact absurd h (OE u)
 | cons b r =>
   have hb:=Bb u b (by rw[h];simp)
   have h1:(b==45)=false:=by simp only[beq_eq_false_iff_ne,ne_eq];intro e;subst e;simp at hb
   have h2:(b==43)=false:=by simp only[beq_eq_false_iff_ne,ne_eq];intro e;subst e;simp at hb
   rw[Lib.atoi,h1,h2]
   simp only[Bool.false_eq_true,if_false,Lib.decNat,List.isEmpty_cons]
   rw[← h,A9]
   rfl
theorem tZ (u:Nat) (c:UInt8) (hc:c∈Lib.itoa (u:Int)):c≠32∧c≠10∧c≠0:=by
 rw[BA] at hc
 have:=Bb u c hc
 refine ⟨?_,?_,?_⟩<;>intro e<;>subst e<;>simp at this
theorem BG:∀ (k u:Nat),0<k→u<10^k→Lib.nDigits u≤k
 | 0,_,h,_=>by omega
 | k+1,u,_,h=>by
   by_cases hu:u<10
   · rw[Lib.nDigits_small hu];omega
   · rw[Lib.nDigits_big hu]
     rw[Nat.pow_succ] at h
     have hk:0<k:=by
       cases k with
       | zero=>simp at h;omega
       | succ=>omega
     have:=BG k (u / 10) hk (by omega)
     omega
theorem Lm (u:Nat) (h:u≤4000000000):(Lib.itoa (u:Int)).length≤10:=by
 rw[BA,Lib.decDigits_length]
 exact BG 10 u (by decide) (by omega)
def zh (a b c:Nat) (h:S):S:=Lib.itoa a++([32]++(Lib.itoa b++([32]++(Lib.itoa c++([32]++h)))))
def nM:S:=[104,97,118,101,110,32,115,116,111,114,101,32,49,10]
theorem wD (a b c:Nat) (h:S):iG a b c h=nM++zh a b c h++[10]:=rfl
theorem Xp (a b c:Nat) (h:S) (hh:∀ x∈h,x≠32):sp 32 (zh a b c h)=[Lib.itoa a,Lib.itoa b,Lib.itoa c,h]:=by
 unfold zh
 rw[show Lib.itoa a++([32]++(Lib.itoa b++([32]++(Lib.itoa c++([32]++h)))))=Lib.itoa a++32::(Lib.itoa b++32::(Lib.itoa c++32::h)) by simp]
 rw[xR 32 _ _ (fun x hx=>(tZ a x hx).1),xR 32 _ _ (fun x hx=>(tZ b x hx).1),xR 32 _ _ (fun x hx=>(tZ c x hx).1),Ab 32 h hh]
theorem wV (k:Nat) (r:S) (b:UInt8) (hb:b≠0):(List.replicate k (0:UInt8)++b::r).dropWhile (· == 0)=b::r:=by
 induction k with
 | zero=>simp[hb]
 | succ k ih=>rw[List.replicate_succ,List.cons_append,List.dropWhile_cons_of_pos (by simp)];exact ih
theorem Un (x:S) (b:UInt8) (hb:b≠0) (k:Nat):Lib.trimRightB (x++[b]++List.replicate k 0) 0=x++[b]:=by
 unfold Lib.trimRightB
 rw[List.reverse_append,List.reverse_replicate,List.reverse_append,List.reverse_singleton,List.singleton_append,wV k _ b hb]
 simp
theorem QA (a b c:Nat) (h:S):Lib.trimRightB (jC (iG a b c h)) 0=iG a b c h:=by
 unfold jC
 rw[wD]
 exact Un _ 10 (by decide) _
theorem za (a b c:Nat) (h:S):Lib.hasPrefix (iG a b c h) nM=true∧Lib.trimPrefix (iG a b c h) nM=zh a b c h++[10]:=by
 have h1:Lib.hasPrefix (iG a b c h) nM=true:=by
   rw[wD,List.append_assoc]
   unfold Lib.hasPrefix
   rw[List.isPrefixOf_iff_prefix]
   exact List.prefix_append _ _
 refine ⟨h1,?_⟩
 unfold Lib.trimPrefix
 rw[if_pos h1,wD,List.append_assoc,List.drop_left']
 rfl
theorem JN (x:S):Lib.trimSuffix (x++[10]) [10]=x:=by
 have h1:Lib.hasSuffix (x++[10]) [10]=true:=by
   unfold Lib.hasSuffix
   rw[List.isSuffixOf_iff_suffix]
   exact List.suffix_append _ _
 unfold Lib.trimSuffix
 rw[if_pos h1]
 simp
theorem Ww (n:Int):FE n≠32:=by
 unfold FE
 intro e
 have h:∀ k:Nat,Wv.getD k 48≠32:=fun k=>by
   by_cases hk:k<16
   · have:∀ k:Fin 16,Wv.getD k.val 48≠32:=by decide
     exact this ⟨k,hk⟩
   · rw[List.getD_eq_getElem?_getD,List.getElem?_eq_none (by simp[Wv];omega)]
     decide
 exact h _ e
theorem sM (r:R8):∀ k,∀ c∈gD r k,c≠32
 | 0,c,hc=>by cases hc
 | k+1,c,hc=>by
   rw[gD] at hc
   rcases List.mem_append.1 hc with hc | hc
   · exact sM r k c hc
   · simp only[List.mem_cons,List.not_mem_nil,or_false] at hc
     rcases hc with rfl | rfl<;>exact Ww _
theorem JF (x:S):∀ c∈short aF x,c≠32:=sM _ _
end
section
open Go.RowKit
open Hv (S Dk)
theorem EN (x:S) (hx:x.length≤1000000) (w:World):Calls Tryz.prog 150 #[.string ⟨x.toArray⟩, .string ⟨#[0]⟩] w fun e w'=>e = .returned (.string ⟨(Lib.trimRightB x 0).toArray⟩)∧w'=w :=
 Tryz.strings_TrimRight_one ⟨x.toArray⟩ 0 (by decide) w (by show x.length≤_;omega)
theorem EO (x:S) (hx:x.length≤1000000) (w:World):Calls Tryz.prog 153 #[.string ⟨x.toArray⟩, .string ⟨#[10]⟩] w fun e w'=>e = .returned (.string ⟨(Lib.trimSuffix x [10]).toArray⟩)∧w'=w :=
 Tryz.strings_TrimSuffix ⟨x.toArray⟩ ⟨#[10]⟩ w (by show x.length≤_;omega)
theorem Hl (x:S) (w:World):Calls Tryz.prog 151 #[.string ⟨x.toArray⟩, .string ⟨nM.toArray⟩] w fun e w'=>e = .returned (.tuple #[.string ⟨(Lib.trimPrefix x nM).toArray⟩, .bool (Lib.hasPrefix x nM)])∧w'=w :=
 Tryz.strings_CutPrefix ⟨x.toArray⟩ ⟨nM.toArray⟩ w
theorem JI (x:S) (hx:x.length≤1000000) (w:World) (hb:Base w):Calls Tryz.prog 152 #[.string ⟨x.toArray⟩, .string ⟨#[32]⟩] w fun e w'=>e = .returned (.slice (some ⟨w.heap.size,0,none⟩) (sp 32 x).length (sp 32 x).length)∧w'=w.alloc (.cells ((sp 32 x).map fun y=>Value.string ⟨y.toArray⟩).toArray 9):=by
 obtain ⟨m,hm⟩:=hb.mx
 refine (Tryz.strings_Split ⟨x.toArray⟩ ⟨#[32]⟩ m w (by show x.length<_;omega) hm (by decide)).mono ?_
 rintro e w' ⟨rfl,rfl⟩
 rw[D5,xS,List.map_map]
 exact ⟨rfl,rfl⟩
theorem xq (u:Nat) (hu:u≤4000000000) (w:World):Calls Tryz.prog 154 #[.string ⟨(Lib.itoa (u:Int)).toArray⟩] w fun e w'=>e = .returned (.tuple #[.int .i64 u, .nilIface])∧Below w.heap.size w w':=by
 refine (Tryz.strconv_Atoi ⟨(Lib.itoa (u:Int)).toArray⟩ u (by show (Lib.itoa (u:Int)).length≤_;have:=Lm u hu;omega) (Oi u) w).mono ?_
 rintro e w' ⟨rfl,t,rfl⟩
 exact ⟨rfl,below_bytesWorld _ _ _⟩
theorem Fg (w:World) (hb:Base w):Calls Tryz.prog 85 #[.string ⟨(List.replicate 256 (0:UInt8)).toArray⟩] w fun e w'=>e = .returned (.tuple #[.agg (dX 0 0 0 []), .bool false])∧Below w.heap.size w w':=by
 have HB:=hide hb
 clear hb
 have e1:Lib.trimRightB (List.replicate 256 (0:UInt8)) 0=[]:=by
   unfold Lib.trimRightB
   simp
 have e2:Lib.trimPrefix [] nM=[]:=by decide
 have e3:Lib.hasPrefix [] nM=false:=by decide
 have e4:Lib.trimSuffix [] [10]=[]:=by decide
 obtain ⟨Z,hZ⟩:∃ Z,List.replicate 256 (0:UInt8)=Z:=⟨_,rfl⟩
 have hzl:Z.length≤1000000:=by rw[← hZ];simp
 rw[hZ] at e1 ⊢
 clear hZ
 have T1:=hide (fun w=>(EN Z hzl w))
 rw[e1] at T1
 have T2:=hide (fun w=>(Hl [] w))
 rw[e2,e3] at T2
 have T3:=hide (fun w=>(EO [] (by simp) w))
 rw[e4] at T3
 go_enter Tryz.func85,Tryz.ntmps85
 go_wp2_with fail
 have hrow:=heap_alloc_new w (.cells #[.int .i64 0, .int .i64 0, .int .i64 0, .string ⟨#[]⟩] 146)
 refine (T1.out _).mono ?_
 rintro e w1 ⟨rfl,rfl⟩
 go_wp2_with fail
 refine (T2.out _).mono ?_
 rintro e w1 ⟨rfl,rfl⟩
 go_wp2_with fail
 refine (T3.out _).mono ?_
 rintro e w1 ⟨rfl,rfl⟩
 go_wp2_with fail
 refine (JI [] (by simp) _ (HB.out.alloc _)).mono ?_
 rintro e w1 ⟨rfl,rfl⟩
 go_wp2_with fail
 have hR:=(Below.heap_alloc (w.alloc (.cells #[.int .i64 0, .int .i64 0, .int .i64 0, .string ⟨#[]⟩] 146)) (.cells ((sp 32 []).map fun y=>Value.string ⟨y.toArray⟩).toArray 9) w.heap.size (by simp)).trans hrow
 have q0:=(ah hR 0).trans (show _=some (.int .i64 0) from rfl)
 have q1:=(ah hR 1).trans (show _=some (.int .i64 0) from rfl)
 have q2:=(ah hR 2).trans (show _=some (.int .i64 0) from rfl)
 have q3:=(ah hR 3).trans (show _=some (.string ⟨#[]⟩) from rfl)
 exact bodyPost_ret (v := .tuple #[.agg #[.int .i64 0, .int .i64 0, .int .i64 0, .string ⟨#[]⟩], .bool false]) (by simp[results,Tryz.results85,go_sem,q0,q1,q2,q3]) rfl
   ⟨rfl,((Below.refl w.heap.size w).alloc (Nat.le_refl _) _).alloc (by simp) _⟩
structure nR (B a b c:Nat) (h xa xb xc:S) (k:Nat) (w wr:World):Prop where
 res:wr.heap[B]? = some (.cells #[.int .i64 0, .int .i64 0, .int .i64 0, .string ⟨#[]⟩] 146 (0,0))
 strs:wr.heap[B+1]? = some (.cells #[.string ⟨xa.toArray⟩, .string ⟨xb.toArray⟩, .string ⟨xc.toArray⟩, .string ⟨h.toArray⟩] 9 (0,0))
 root:wr.heap[B+2]? = some (.cells #[.int .i64 (if 0<k then a else 0:Nat), .int .i64 (if 1<k then b else 0:Nat), .int .i64 (if 2<k then c else 0:Nat), .string ⟨h.toArray⟩] 146 (0,0))
 ptr:wr.heap[B+3]? = some (.cells #[.pointer (some ⟨B+2,0,none⟩), .pointer (some ⟨B+2,1,none⟩), .pointer (some ⟨B+2,2,none⟩)] 241 (0,0))
 bA:Below B w wr
 base:Base wr
theorem nR.below {B a b c:Nat} {h xa xb xc:S} {k:Nat} {w wr w4:World} (d:nR B a b c h xa xb xc k w wr) (hb:Below wr.heap.size wr w4):nR B a b c h xa xb xc k w w4 :=
 have l:=blt d.ptr
 ⟨(hb.block _ (by omega)).trans d.res,(hb.block _ (by omega)).trans d.strs,(hb.block _ (by omega)).trans d.root,(hb.block _ (by omega)).trans d.ptr,d.bA.trans (hb.mono (by omega)),d.base.below hb d.base.size⟩
theorem nR.put {B a b c:Nat} {h xa xb xc:S} {k k' i:Nat} {v:Value} {w wr:World} (d:nR B a b c h xa xb xc k w wr) (hB:12≤B)
   (he:(#[.int .i64 (if 0<k then a else 0:Nat), .int .i64 (if 1<k then b else 0:Nat), .int .i64 (if 2<k then c else 0:Nat), .string ⟨h.toArray⟩]:Array Value).setIfInBounds i v = #[.int .i64 (if 0<k' then a else 0:Nat), .int .i64 (if 1<k' then b else 0:Nat), .int .i64 (if 2<k' then c else 0:Nat), .string ⟨h.toArray⟩]):nR B a b c h xa xb xc k' w (wr.setCell ⟨B+2,i,none⟩ v):=by
 refine ⟨(Below.heap_setCell _ _ _ _ (by show B≠B+2;omega)).trans d.res,(Below.heap_setCell _ _ _ _ (by show B+1≠B+2;omega)).trans d.strs,?_,(Below.heap_setCell _ _ _ _ (by show B+3≠B+2;omega)).trans d.ptr,d.bA.setCell (by show B≤B+2;omega) _,d.base.below ((Below.refl (B+2) wr).setCell (Nat.le_refl _) _) (by omega)⟩
 rw[← he]
 exact heap_setCell_same _ (B+2) i _ _ v d.root
theorem nR.cells {B a b c:Nat} {h xa xb xc:S} {k:Nat} {w wr:World} (d:nR B a b c h xa xb xc k w wr):(wr.cell? ⟨B+1,0,none⟩=some (.string ⟨xa.toArray⟩)∧wr.cell? ⟨B+1,1,none⟩=some (.string ⟨xb.toArray⟩)∧wr.cell? ⟨B+1,2,none⟩=some (.string ⟨xc.toArray⟩)) ∧
   wr.cell? ⟨B+2,0,none⟩=some (.int .i64 (if 0<k then a else 0:Nat))∧wr.cell? ⟨B+2,1,none⟩=some (.int .i64 (if 1<k then b else 0:Nat))∧wr.cell? ⟨B+2,2,none⟩=some (.int .i64 (if 2<k then c else 0:Nat))∧wr.cell? ⟨B+2,3,none⟩=some (.string ⟨h.toArray⟩) :=
 ⟨⟨(ah d.strs 0).trans rfl,(ah d.strs 1).trans rfl,(ah d.strs 2).trans rfl⟩,(ah d.root 0).trans rfl,(ah d.root 1).trans rfl,(ah d.root 2).trans rfl,(ah d.root 3).trans rfl⟩
theorem nR.ptrs {B a b c:Nat} {h xa xb xc:S} {k:Nat} {w wr:World} (d:nR B a b c h xa xb xc k w wr):wr.cell? ⟨B+3,0,none⟩=some (.pointer (some ⟨B+2,0,none⟩))∧wr.cell? ⟨B+3,1,none⟩=some (.pointer (some ⟨B+2,1,none⟩))∧wr.cell? ⟨B+3,2,none⟩=some (.pointer (some ⟨B+2,2,none⟩)) :=
 ⟨(ah d.ptr 0).trans rfl,(ah d.ptr 1).trans rfl,(ah d.ptr 2).trans rfl⟩
theorem Hq (a b c:Nat) (h:S) (ha:a≤1) (hb:b≤1000000) (hc:c≤1000000) (hh:h.length≤100) (hsg:∀ x∈h,x≠32) (w:World) (hbs:Base w) :
   Calls Tryz.prog 85 #[.string ⟨(jC (iG a b c h)).toArray⟩] w fun e w'=>e = .returned (.tuple #[.agg (dX a b c h), .bool true])∧Below w.heap.size w w':=by
 have HB:=hide hbs
 have hgs:=hbs.size
 clear hbs
 have hrl:=Ey a b c h (by omega) (by omega) (by omega) hh
 have hpl:(jC (iG a b c h)).length≤1000000:=by unfold jC;rw[List.length_append,List.length_replicate];omega
 have T1:=hide (fun w=>(EN (jC (iG a b c h)) hpl w))
 rw[QA] at T1
 have T2:=hide (fun w=>(Hl (iG a b c h) w))
 rw[(za a b c h).1,(za a b c h).2] at T2
 have hbl:(zh a b c h++[10]).length≤1000000:=by
   have:=hrl
   rw[wD,List.append_assoc,List.length_append] at this
   omega
 have T3:=hide (fun w=>(EO (zh a b c h++[10]) hbl w))
 rw[JN] at T3
 have T4:=hide (fun w hw=>(JI (zh a b c h) (by rw[List.length_append] at hbl;omega) w hw))
 rw[Xp a b c h hsg] at T4
 have HE:=hide (fun w hw=>Bc a b c h (by omega) (by omega) (by omega) hh w hw)
 obtain ⟨R,hR⟩:∃ R,iG a b c h=R:=⟨_,rfl⟩
 rw[hR] at T1 T2 HE
 obtain ⟨P,hP⟩:∃ P,jC R=P:=⟨_,rfl⟩
 rw[hR,hP]
 rw[hP] at T1
 obtain ⟨L,hL⟩:∃ L,zh a b c h=L:=⟨_,rfl⟩
 rw[hL] at T2 T3 T4
 obtain ⟨xa,hxa⟩:∃ x,Lib.itoa (a:Int)=x:=⟨_,rfl⟩
 obtain ⟨xb,hxb⟩:∃ x,Lib.itoa (b:Int)=x:=⟨_,rfl⟩
 obtain ⟨xc,hxc⟩:∃ x,Lib.itoa (c:Int)=x:=⟨_,rfl⟩
 have A1:=hide (fun w=>xq a (by omega) w)
 have A2:=hide (fun w=>xq b (by omega) w)
 have A3:=hide (fun w=>xq c (by omega) w)
 rw[hxa,hxb,hxc] at T4
 rw[hxa] at A1
 rw[hxb] at A2
 rw[hxc] at A3
 clear hR hP hL hxa hxb hxc hrl hpl hbl hsg
 go_enter Tryz.func85,Tryz.ntmps85
 go_wp2_with fail
 have hrow:=heap_alloc_new w (.cells #[.int .i64 0, .int .i64 0, .int .i64 0, .string ⟨#[]⟩] 146)
 refine (T1.out _).mono ?_
 rintro e w1 ⟨rfl,rfl⟩
 go_wp2_with fail
 refine (T2.out _).mono ?_
 rintro e w1 ⟨rfl,rfl⟩
 go_wp2_with fail
 refine (T3.out _).mono ?_
 rintro e w1 ⟨rfl,rfl⟩
 go_wp2_with fail
 refine (T4.out _ (HB.out.alloc _)).mono ?_
 rintro e w1 ⟨rfl,rfl⟩
 have hS:=heap_alloc_new (w.alloc (.cells #[.int .i64 0, .int .i64 0, .int .i64 0, .string ⟨#[]⟩] 146)) (.cells (([xa,xb,xc,h]:List S).map fun y=>Value.string ⟨y.toArray⟩).toArray 9)
 have hR:=(Below.heap_alloc (w.alloc (.cells #[.int .i64 0, .int .i64 0, .int .i64 0, .string ⟨#[]⟩] 146)) (.cells (([xa,xb,xc,h]:List S).map fun y=>Value.string ⟨y.toArray⟩).toArray 9) w.heap.size (by simp)).trans hrow
 have eO:=hide (((Below.refl w.heap.size w).alloc (Nat.le_refl _) (.cells #[.int .i64 0, .int .i64 0, .int .i64 0, .string ⟨#[]⟩] 146)).alloc (by simp) (.cells (([xa,xb,xc,h]:List S).map fun y=>Value.string ⟨y.toArray⟩).toArray 9))
 have fC:=hide ((HB.out.alloc (.cells #[.int .i64 0, .int .i64 0, .int .i64 0, .string ⟨#[]⟩] 146)).alloc (.cells (([xa,xb,xc,h]:List S).map fun y=>Value.string ⟨y.toArray⟩).toArray 9))
 have hsz:((w.alloc (.cells #[.int .i64 0, .int .i64 0, .int .i64 0, .string ⟨#[]⟩] 146)).alloc (.cells (([xa,xb,xc,h]:List S).map fun y=>Value.string ⟨y.toArray⟩).toArray 9)).heap.size=w.heap.size+2:=by simp
 obtain ⟨u,hu⟩:∃ u,(w.alloc (.cells #[.int .i64 0, .int .i64 0, .int .i64 0, .string ⟨#[]⟩] 146)).alloc (.cells (([xa,xb,xc,h]:List S).map fun y=>Value.string ⟨y.toArray⟩).toArray 9)=u:=⟨_,rfl⟩
 rw[hu] at hS hR eO fC hsz ⊢
 have hS':u.heap[w.heap.size+1]? = some (.cells #[.string ⟨xa.toArray⟩, .string ⟨xb.toArray⟩, .string ⟨xc.toArray⟩, .string ⟨h.toArray⟩] 9 (0,0)):=by simpa using hS
 have p0:=(ah hS' 0).trans (show _=some (.string ⟨xa.toArray⟩) from rfl)
 have p1:=(ah hS' 1).trans (show _=some (.string ⟨xb.toArray⟩) from rfl)
 have p2:=(ah hS' 2).trans (show _=some (.string ⟨xc.toArray⟩) from rfl)
 have p3:=(ah hS' 3).trans (show _=some (.string ⟨h.toArray⟩) from rfl)
 have HS:=hide hS';have HR:=hide hR
 clear hrow hS hS' hR hu T1 T2 T3 T4 HB
 go_wp2_with fail
 have HD0:Hid (nR w.heap.size a b c h xa xb xc 0 w ((u.alloc (.cells #[.int .i64 0, .int .i64 0, .int .i64 0, .string ⟨h.toArray⟩] 146)).alloc (.cells #[.pointer (some ⟨w.heap.size+2,0,none⟩), .pointer (some ⟨w.heap.size+2,1,none⟩), .pointer (some ⟨w.heap.size+2,2,none⟩)] 241))):=hide (by
   refine ⟨(Below.heap_alloc _ _ _ (by simp;omega)).trans ((Below.heap_alloc _ _ _ (by omega)).trans HR.out),(Below.heap_alloc _ _ _ (by simp;omega)).trans ((Below.heap_alloc _ _ _ (by omega)).trans HS.out),(Below.heap_alloc _ _ _ (by simp;omega)).trans ?_,?_,(eO.out.alloc (by omega) _).alloc (by simp;omega) _,(fC.out.alloc _).alloc _⟩
   · rw[← hsz];exact heap_alloc_new u _
   · have:=heap_alloc_new (u.alloc (.cells #[.int .i64 0, .int .i64 0, .int .i64 0, .string ⟨h.toArray⟩] 146)) (.cells #[.pointer (some ⟨w.heap.size+2,0,none⟩), .pointer (some ⟨w.heap.size+2,1,none⟩), .pointer (some ⟨w.heap.size+2,2,none⟩)] 241)
     rw[show w.heap.size+3=(u.alloc (.cells #[.int .i64 0, .int .i64 0, .int .i64 0, .string ⟨h.toArray⟩] 146)).heap.size by simp;omega]
     exact this)
 obtain ⟨B,hB⟩:∃ B,w.heap.size=B:=⟨_,rfl⟩
 have hgB:12≤B:=by omega
 rw[hB] at HD0 ⊢
 clear HR HS eO fC p0 p1 p2 p3 hsz
 go_loopw [40] (fun i wr=>∃ k:Nat,k≤3∧i = .int .i64 (k:Int)∧Hid (nR B a b c h xa xb xc k w wr)) (fun i _=>3-(intOf i).toNat)
 case atStart=>exact ⟨0,by omega,rfl,HD0⟩
 case round =>
   clear HD0
   obtain ⟨k,hk,rfl,HD⟩:=hrel
   obtain ⟨⟨g0,g1,g2⟩,⟨v0,v1,v2,v3⟩⟩:=HD.out.cells
   obtain ⟨x0,x1,x2⟩:=HD.out.ptrs
   rcases (show k=0∨k=1∨k=2∨k=3 by omega) with rfl | rfl | rfl | rfl
   · go_wp2_with fail
     refine (A1.out _).mono ?_
     rintro e w4 ⟨rfl,hb4⟩
     have HD4:=hide (HD.out.below hb4)
     clear hb4
     have z0:=HD4.out.cells.2.1
     have f0:=ak HD4.out.root 0
     go_wp2_with fail
     exact ⟨⟨1,by omega,rfl,hide (HD4.out.put (k':=1) hgB rfl)⟩,by simp[intOf]⟩
   · go_wp2_with fail
     refine (A2.out _).mono ?_
     rintro e w4 ⟨rfl,hb4⟩
     have HD4:=hide (HD.out.below hb4)
     clear hb4
     have z0:=HD4.out.cells.2.2.1
     have f0:=ak HD4.out.root 1
     go_wp2_with fail
     exact ⟨⟨2,by omega,rfl,hide (HD4.out.put (k':=2) hgB rfl)⟩,by simp[intOf]⟩
   · go_wp2_with fail
     refine (A3.out _).mono ?_
     rintro e w4 ⟨rfl,hb4⟩
     have HD4:=hide (HD.out.below hb4)
     clear hb4
     have z0:=HD4.out.cells.2.2.2.1
     have f0:=ak HD4.out.root 2
     go_wp2_with fail
     exact ⟨⟨3,by omega,rfl,hide (HD4.out.put (k':=3) hgB rfl)⟩,by simp[intOf]⟩
   · have y0:wr.cell? ⟨B+2,0,none⟩=some (.int .i64 a):=v0
     have y1:wr.cell? ⟨B+2,1,none⟩=some (.int .i64 b):=v1
     have y2:wr.cell? ⟨B+2,2,none⟩=some (.int .i64 c):=v2
     have r0:=(ah HD.out.res 0).trans (show _=some (.int .i64 0) from rfl)
     have r1:=(ah HD.out.res 1).trans (show _=some (.int .i64 0) from rfl)
     have r2:=(ah HD.out.res 2).trans (show _=some (.int .i64 0) from rfl)
     have r3:=(ah HD.out.res 3).trans (show _=some (.string ⟨#[]⟩) from rfl)
     have b2:(a:Int)<2:=by omega
     have b3:decide ((a:Int)<2)=true:=decide_eq_true b2
     have qR:(R==R)=true:=by simp
     have hl:=blt HD.out.ptr
     clear v0 v1 v2 x0 x1 x2 g0 g1 g2
     go_wp2_with fail
     go_region_held3 (fun w'=>w'.cell? ⟨B+2,0,none⟩=some (.int .i64 a)∧w'.cell? ⟨B+2,1,none⟩=some (.int .i64 b)∧w'.cell? ⟨B+2,2,none⟩=some (.int .i64 c)∧w'.cell? ⟨B+2,3,none⟩=some (.string ⟨h.toArray⟩))
       (first | assumption | exact ⟨y0,y1,y2,v3⟩ | exact ⟨z0,z1,z2,z3⟩ | simp[go_sem, *])
       (first
         | (go_at_call 142;refine (HE.out _ HD.out.base.drew).mono ?_;rintro e w5 ⟨rfl,hb5⟩;have HD5:=hide ((show nR B a b c h xa xb xc 3 w wr.drew from ⟨HD.out.res,HD.out.strs,HD.out.root,HD.out.ptr,HD.out.bA.drew,HD.out.base.drew⟩).below hb5);have z0:w5.cell? ⟨B+2,0,none⟩=some (.int .i64 a):=HD5.out.cells.2.1;have z1:w5.cell? ⟨B+2,1,none⟩=some (.int .i64 b):=HD5.out.cells.2.2.1;have z2:w5.cell? ⟨B+2,2,none⟩=some (.int .i64 c):=HD5.out.cells.2.2.2.1;have z3:=HD5.out.cells.2.2.2.2;have f0:=ak HD5.out.res 0;have f1:=ak HD5.out.res 1;have f2:=ak HD5.out.res 2;have f3:=ak HD5.out.res 3;have s0:=(ah HD5.out.res 0).trans (show _=some (.int .i64 0) from rfl);have s1:=(ah HD5.out.res 1).trans (show _=some (.int .i64 0) from rfl);have s2:=(ah HD5.out.res 2).trans (show _=some (.int .i64 0) from rfl);have s3:=(ah HD5.out.res 3).trans (show _=some (.string ⟨#[]⟩) from rfl);clear hb5))
     have zW:=heap_setCell_same _ B 3 _ _ (.string ⟨h.toArray⟩) (heap_setCell_same _ B 2 _ _ (.int .i64 c) (heap_setCell_same _ B 1 _ _ (.int .i64 b) (heap_setCell_same _ B 0 _ _ (.int .i64 a) HD5.out.res)))
     have n0:=(ah zW 0).trans (show _=some (.int .i64 a) from rfl)
     have n1:=(ah zW 1).trans (show _=some (.int .i64 b) from rfl)
     have n2:=(ah zW 2).trans (show _=some (.int .i64 c) from rfl)
     have n3:=(ah zW 3).trans (show _=some (.string ⟨h.toArray⟩) from rfl)
     clear zW y0 y1 y2 v3 z0 z1 z2 z3 f0 f1 f2 f3 s0 s1 s2 s3
     go_wp2_with fail
     refine bodyPost_ret (v := .tuple #[.agg #[.int .i64 a, .int .i64 b, .int .i64 c, .string ⟨h.toArray⟩], .bool true]) (by simp[results,Tryz.results85,go_sem,n0,n1,n2,n3]) rfl ⟨rfl,?_⟩
     rw[hB]
     exact (((HD5.out.bA.setCell (Nat.le_refl _) _).setCell (Nat.le_refl _) _).setCell (Nat.le_refl _) _).setCell (Nat.le_refl _) _
theorem Dv {C:Nat→Prop} {d:Dk} (sb db n a c:Nat) (h:S) (hn:1≤n) (hn2:n≤1000000) (ha:a≤1) (w:World) (hs:aY sb db n a 0 c h w) (hd:bI C db d w) :
   Calls Tryz.prog 87 #[.pointer (some ⟨sb,0,none⟩)] w fun e w'=>e = .returned (.tuple #[.string ⟨([]:S).toArray⟩, .nilIface])∧bI C db d w'∧aQ w.heap.size C w w':=by
 obtain ⟨s0,s1,s2,s3,s4,s5⟩:=(show aY sb db n a 0 c h (w.alloc (.cells #[.pointer none, .slice none 0 0] 168)) from hs.below ((Below.refl w.heap.size w).alloc (Nat.le_refl _) _)).cells
 have HS:=hide hs;have HD:=hide hd;have hlt:=hide hd.lt
 have hne : ¬ w.heap.size=sb:=by have:=hs.lt;omega
 clear hs hd
 go_enter Tryz.func87,Tryz.ntmps87
 go_wp2_with fail
 refine (zn sb db n a 0 c a h hn hn2 ha _ (HS.out.below ((Below.refl w.heap.size w).alloc (Nat.le_refl _) _))).mono ?_
 rintro e w1 ⟨rfl,hb1⟩
 have hrow:=(hb1.block w.heap.size (by simp)).trans (heap_alloc_new w (.cells #[.pointer none, .slice none 0 0] 168))
 have kK:=hide ((HS.out.below ((Below.refl w.heap.size w).alloc (Nat.le_refl _) _)).below hb1)
 have HD1:=hide ((HD.out.alloc _).below hb1)
 have eO:=hide (((aQ.refl w.heap.size C w).alloc (Nat.le_refl _) _).below hb1 (by simp))
 have HBu:=hide (show Lib.IsBuilder 168 5 w.heap.size w.heap.size [] w1 from .inl ⟨Nat.le_refl _,_,hrow,World.ownsRow_nil _ _ _ _,by simp[Value.ownBlock]⟩)
 have hs1:w.heap.size≤w1.heap.size:=eO.out.size
 obtain ⟨t0,t1,t2,t3,t4,t5⟩:=kK.out.cells
 clear hb1 hrow s0 s1 s2 s3 s4 s5
 go_wp2_with fail
 go_loopw [5] (fun _ wr=>wr=w1) (fun _ _=>0)
 case atStart=>rfl
 case round =>
   subst hrel
   go_wp2_with fail
   go_region_held3 (fun w'=>w'.cell? ⟨sb,3,none⟩=some (.int .i64 0))
     (first | assumption | simp[go_sem, *])
     (first
       | (go_at_call 155;refine (Tryz.Builder_Len w.heap.size w.heap.size [] _ (show Lib.IsBuilder 168 5 w.heap.size w.heap.size [] wr.drew from HBu.out)).mono ?_;rintro e w2 ⟨rfl,rfl⟩))
   go_wp2_with fail
   refine (Tryz.Builder_String_any w.heap.size w.heap.size [] _ (show Lib.IsBuilder 168 5 w.heap.size w.heap.size (Lib.byteCells []) wr.drew from HBu.out) hs1).mono ?_
   rintro e w3 ⟨rfl,hb3⟩
   have HD3:=hide (HD1.out.drew.far (D:=fun k=>w.heap.size≤k∧k<w3.heap.size) (B:=wr.heap.size) ⟨hb3.os,hb3.tape,hb3.output,hb3.size,fun k hk hq=>hb3.block k (by have:=hb3.size;simp at this;omega)⟩ (Nat.le_refl _) (fun k hk q=>by have:=hlt.out k hk;omega))
   have mO:=hide (eO.out.drew.below hb3 (Nat.le_refl _))
   clear hb3
   go_wp2_with fail
   go_ret2
   exact ⟨rfl,HD3.out,mO.out⟩
end
end Go.Proofs.YtialenebfcnkkaaGreatDoor
