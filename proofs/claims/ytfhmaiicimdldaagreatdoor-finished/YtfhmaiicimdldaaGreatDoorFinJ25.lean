import Derived.Test.YtfhmaiicimdldaaGreatDoorFinJ24
set_option maxHeartbeats 6000000
set_option maxRecDepth 100000
namespace Go.Proofs.YtfhmaiicimdldaaGreatDoor
variable {C:Nat->Prop}{B a db m n:Nat}{w:World}{r:Int}
section
open Go.RowKit
open Hv (S Dx Tk Turn Ns Zl All Has)
variable {x:S}
theorem Ns.refl{d:Dx} (hg:d.gone=false):Ns d d 0 0:=⟨.inl rfl,rfl,rfl,⟨AC _,AC _⟩,AC _,fun _=>⟨hg,id⟩,fun q=>absurd rfl q⟩
theorem ae9(d:Dx) (n:Nat) (x:S):(d.write n x).now.length=d.now.length:=by simp[Hv.Dx.write]
theorem afa(d:Dx) (n i:Nat) (x:S) (h:i≠n):(d.write n x).may.getD i []=d.may.getD i []:=by
 simp only[Hv.Dx.write,B7];rw[ID (by omega)]
def Half (n half:Nat) (Q:List S->Prop):Prop:=∀ im i y,im.length=n->1+half*((n-1) / 2)<=i->i<1+half*((n-1) / 2)+(n-1) / 2->Q im->Q (im.set i y)
def adA (d:Dx) (n0:Nat) (x:S) (j:Nat):Prop:=∀ i,i<j->i*256<x.length->d.now[n0+i]? = some (MK ((x.drop (i*256)).take 256))
theorem ae8{d:Dx} (Q:List S->Prop) (sb db n a b c half:Nat) (h x:S) (hn:1<=n) (dF:n<=1000000) (hh:half<=1) (hlen:d.now.length=n) (hroom:x.length<=(n-1) / 2*256) (aW:∀ i,d.may.getD i []=[]) (hgo:d.gone=false) (hA:All d Q) (hQ:Half n half Q) (au:d.calls+x.length+20<1000000000000)
 (w:World) (hs:KA sb db n a b c h w) (hd:Kq C db d w) (i7 : ¬ C sb) (hbs:Base w) (bt:∀ k,C k->12<=k) :
 Calls Tryz.prog 80 #[.pointer (some ⟨sb,0,none⟩), .int .i64 half, .string ⟨x.toArray⟩] w fun e w'=>∃ v,e = .returned v/\∃ d' C' r,EV w.heap.size w' v r/\Ns d d' r (x.length+8)/\Kq C' db d' w'/\Gr C C' w w'/\All d' Q/\(r=0->d'.now.length=n/\(∀ i,d'.may.getD i []=[])/\adA d' (1+half*((n-1) / 2)) x (x.length+1)):=by
 have HS:=JY hs;have HD:=JY hd;have aJ:=JY hbs;have bD:=JY bt;have HM:=JY aW;have HL:=JY hlen;have tH:=JY hgo;have HA:=JY hA;have HQ:=JY hQ;clear hs hd hbs bt aW hlen hgo hA hQ;have hsl:=HS.out.lt;have cW:=aJ.out.size;go_enter Tryz.func80,Tryz.ntmps80;go_wp2_with fail;refine (WH sb db n a b c half h hn dF hh w HS.out).mono ?_;rintro e w1 ⟨rfl,hb1⟩;obtain ⟨n0,hn0⟩:∃ n0,1+half*((n-1) / 2)=n0:=⟨_,rfl⟩
 have bC:n0+(n-1) / 2<=n:=by
  rcases (show half=0\/half=1 by omega) with rfl | rfl<;>omega
 rw[hn0];have pE:=JY hn0;have fF:=JY (HS.out.below hb1);have bH:=JY (HD.out.below hb1);have aI:=JY (aJ.out.below hb1 aJ.out.size);have aO:=JY ((Gr.refl C w).below hb1);clear hb1 HS HD aJ hn0;go_wp2_with fail;go_loopw [2,7] (fun t i wr=>∃ (j:Nat) (y:S) (d':Dx) (C':Nat->Prop),t = .string ⟨y.toArray⟩/\i = .int .i64 ((n0+j:Nat):Int)/\(j=0\/(j-1)*256<x.length)/\Hid (y=x.drop (j*256))/\Hid (Ns d d' 0 (4*j)/\d'.now.length=n/\All d' Q/\adA d' n0 x j)/\Hid (∀ i,n0+j<=i->d'.may.getD i []=[])/\Hid (Kq C' db d' wr)/\Hid (Gr C C' w wr)/\Hid (KA sb db n a b c h wr)/\Hid (Base wr)) (fun t _ _=>match t with | .string s=>s.size | _=>0)
 case atStart=>exact ⟨0,x,d,C,rfl,rfl, .inl rfl,JY (by simp),JY ⟨Ns.refl tH.out,HL.out,HA.out,fun i hi=>by omega⟩,JY (fun i _=>HM.out i),bH,aO,fF,aI⟩
 case round =>
  clear fF bH aI aO HM;obtain ⟨j,y,d',C',rfl,rfl,hj,HY,HO,HM,HD,HF,HS,HB⟩:=hrel;obtain ⟨s0,s1, -⟩:=HS.out.cells;have yU:=HF.out.1.size;have yz:=HF.out.old i7 hsl;have fu:=JY (HF.out.low bD.out cW);have hcl:=HO.out.1.calls;by_cases hy:y=[]
  · have cD:x.length<=j*256:=by
     have:=IN List.length HY.out;rw[hy,GE] at this;simp at this;omega
    subst hy;go_wp2_with fail;refine (Q8 (m:=n) (by omega) _ HD.out).mono ?_;rintro e w2 ⟨v2,rfl,d2,C2,r2,q1,q2,q3,q4⟩;have bY:=JY (q1.base yU);have bp:=JY (HF.out.trans q4);have aU:=JY q2;have aK:=JY q3;clear q1 q2 q3 q4;go_wp2_with fail;go_ret;rw[pE.out];obtain ⟨o1,o2,o3,o4⟩:=HO.out;refine ⟨v2,rfl,d2,C2,r2,bY.out,(o1.trans aU.out.op).more (by omega),aK.out,bp.out,?_,fun hr => ?_⟩
    · by_cases hr:r2=0
      · exact o3.flush.core (aU.out.ok hr).2.2
      · exact o3.core (aU.out.no hr).2.1
    · obtain ⟨e1,e2, -⟩:=Hv.Ml (aU.out.ok hr).2.2;refine ⟨by rw[e1];exact o2,fun i=>by rw[e2];exact Hv.NQ _ i,fun i hi mS => ?_⟩;rw[e1];exact o4 i (by omega) mS
  · have hy0:0<y.length:=by cases y with | nil=>exact absurd rfl hy | cons=>simp
    have oI:y.length=x.length-j*256:=by rw[HY.out,GE]
    have hkn:n0+j<d'.now.length:=by rw[HO.out.2.1];omega
    obtain ⟨m,hm⟩:∃ m,min y.length 256=m:=⟨_,rfl⟩
    have fH:m<=y.length:=by omega
    have hm2:m<=256:=by omega
    have yM:min (y.length:Int) 256=(m:Int):=by omega
    have CH:y.isEmpty=false:=by cases y with | nil=>exact absurd rfl hy | cons=>rfl
    have hx1:(⟨y.toArray⟩:ByteArray).extract 0 m=⟨(y.take m).toArray⟩:=RA _ m;have hx2:(⟨y.toArray⟩:ByteArray).extract m y.length=⟨(y.drop m).toArray⟩:=Uz ⟨y.toArray⟩ m;have b1:(m:Int)<=(y.length:Int):=by omega
    have b2:(0:Int)<=(m:Int):=by omega
    have htk:y.take m=y.take 256:=by
     rw[<- hm];by_cases q:y.length<=256
     · rw[An q,show min y.length 256=y.length by omega,An (AC _)]
     · rw[show min y.length 256=256 by omega]
    have hdr:y.drop m=y.drop 256:=by
     rw[<- hm];by_cases q:y.length<=256
     · rw[Ha q,show min y.length 256=y.length by omega,Ha (AC _)]
     · rw[show min y.length 256=256 by omega]
    have bS:=JY (show y.take m=(x.drop (j*256)).take 256 by rw[htk,HY.out]);have nB:=JY (show y.drop m=x.drop ((j+1)*256) by rw[hdr,HY.out,List.drop_drop];congr 1;omega);have hm0:(d'.may.getD (n0+j) []).length<=1000000:=by rw[HM.out _ (AC _)];simp
    have hmp:0<m:=by omega
    have htl:(y.take m).length<=256:=by rw[DD];omega
    have od:(y.drop m).length=y.length-m:=GE;have Bw:j*256<x.length:=by omega
    have e5:((n0+j:Nat):Int)+1=((n0+(j+1):Nat):Int):=by omega
    clear htk hdr oI;obtain ⟨k,hk⟩:∃ k,n0+j=k:=⟨_,rfl⟩
    have HK:=JY hk;rw[hk] at hkn hm0 HM e5 |-;have gA:k<=1000000:=by have:=HO.out.2.1;omega
    clear hk;go_wp2_with fail;clear yM hm
    go_region_held3 (fun w'=>w'.cell? ⟨sb,0,none⟩=some (.iface 24 (.pointer (some ⟨db,0,none⟩)))/\w'.cell? ⟨sb,1,none⟩=some (.int .i64 n))
     (first | assumption | exact ⟨bq.out.cells.1,bq.out.cells.2.1⟩ | exact ⟨s0,s1⟩ | simp[go_sem, *])
     (first
      | (go_at_call 145;refine (YQ (m:=n) (n:=k) (y.take m) htl hkn gA hm0 (by omega) _ HD.out.drew HB.out.drew fu.out).mono ?_;rintro e w2 ⟨v2,rfl,d2,C2,r2,q1,q2,q3,q4⟩;have bq:=JY ((show KA sb db n a b c h wr.drew from HS.out).kept (q4.block yz HS.out.lt));have aK:=JY q3;have bp:=JY (HF.out.drew.trans q4);have aU:=JY q2;have bY:=JY (q1.base (show w.heap.size<=_ by simpa using yU));have ah:=JY (q4.base HB.out.drew fu.out);clear q1 q2 q3 q4))
    rcases bY.out.form with ⟨rfl,rfl⟩ | ⟨h0,t,bb,rfl, -⟩
    · have dX:Hid ((d2.now.length=n/\All d2 Q/\adA d2 n0 x (j+1))/\∀ i,n0+(j+1)<=i->d2.may.getD i []=[]):=JY (by
       obtain ⟨o1,o2,o3,o4⟩:=HO.out;have cU:=(aU.out.ok rfl).2.2;obtain ⟨e1,e2, -⟩:=Hv.Ml cU;have hk2:=HK.out;refine ⟨⟨by rw[e1,ae9];exact o2,?_,fun i hi mS => ?_⟩,fun i hi=>by rw[e2,afa _ _ _ _ (by omega)];exact HM.out i (by omega)⟩
       · refine (o3.write (x:=MK (y.take m)) hkn HD.out.few.2 fun im hl q => ?_).core cU;exact HQ.out im k _ (hl.trans o2) (by rw[pE.out];omega) (by rw[pE.out];omega) q
       · rw[e1];show (d'.now.set k (MK (y.take m)))[n0+i]? = _;by_cases e:i=j
         · subst e;rw[hk2,List.getElem?_set,By rfl,By hkn,bS.out]
         · rw[ID (by omega)];exact o4 i (by omega) mS)
      have lZ:=JY (show Ns d d2 0 (4*(j+1)) from (HO.out.1.trans aU.out.op).more (by omega));clear HO HM aU HD HF HS HB bS HK;go_wp2_with fail;refine ⟨⟨j+1,y.drop m,d2,C2,rfl,(by first | rfl | exact IN (Value.int .i64) e5), .inr (by simpa using Bw),nB,JY ⟨lZ.out,dX.out.1⟩,JY dX.out.2,aK,bp,bq,ah⟩,?_⟩;show (y.drop m).length<y.length;omega
    · have hne:r2≠0:=by omega
      go_wp2_with fail;go_ret;exact ⟨_,rfl,d2,C2,r2,bY.out,(HO.out.1.trans aU.out.op).more (by omega),aK.out,bp.out,HO.out.2.2.1.core (aU.out.no hne).2.1,fun q=>absurd q hne⟩
structure Md (n a:Nat) (x:S) (m:Nat) (d:Dx):Prop where
 may:∀ i,d.may.getD i []=[]
 has:Has n d.now a x m
 gone:d.gone=false
def O7 (n:Nat) (T:S->Nat->Prop) (im:List S):Prop:=∃ a x m,T x m/\Has n im a x m
theorem Md.all{d:Dx} (h:Md n a x m d) (Q:List S->Prop) (hq:Q d.now):All d Q:=Hv.Qr h.may hq
theorem air:Half n (1-a) fun im=>Has n im a x m:=fun im i y hl h1 h2 h=>by
 refine h.set (by omega) ?_ y;have ha:=h.ha;rcases (show a=0\/a=1 by omega) with rfl | rfl
 · right;omega
 · left;omega
theorem Z6{a' m':Nat} {x':S} {d1:Dx} (hn:0<n) (ha':a'<=1) (hf:x'.length<=(n-1) / 2*256) (hH:Has n d1.now a x m) (hm:∀ i,d1.may.getD i []=[]) (hl:d1.may.length=d1.now.length) (ht:∀ j,j*256<x'.length->d1.now[1+a'*((n-1) / 2)+j]? = some (MK ((x'.drop (j*256)).take 256))) :
 Has n (Z4 d1 a' x'.length m' (short KH x')).now a' x' m'/\All (Z4 d1 a' x'.length m' (short KH x')) fun im=>Has n im a x m\/Has n im a' x' m':=by
 have hr:Has n (d1.now.set 0 (MK (Nb a' x'.length m' (short KH x')))) a' x' m':=Hv.acj hH.len hn ha' hf ht;refine ⟨hr,?_⟩;have h0:All d1 fun im=>im=d1.now:=Hv.Qr hm rfl
 refine (h0.imp (Q':=fun im=>im=d1.now\/im=d1.now.set 0 (MK (Nb a' x'.length m' (short KH x')))) fun im q => .inl q).write (by rw[hH.len];exact hn) hl (fun im _ q => ?_) |>.imp fun im q => ?_
 · rcases q with rfl | rfl
   · exact .inr rfl
   · exact .inr (by rw[List.set_set])
 · rcases q with rfl | rfl
   · exact .inl hH
   · exact .inr hr
theorem ajJ{d:Dx} (sb db n a m:Nat) (x0 x:S) (hn:1<=n) (dF:n<=1000000) (hx:x.length<=1000000) (hroom:x.length<=(n-1) / 2*256) (hR:Md n a x0 m d) (au:d.calls+x.length+100<1000000000000)
 (w:World) (hs:KA sb db n a x0.length m (short KH x0) w) (hd:Kq C db d w) (i7 : ¬ C sb/\sb≠d.rb) (hbs:Base w) (bt:∀ k,C k->12<=k) :
 Calls Tryz.prog 40 #[.pointer (some ⟨sb,0,none⟩), .string ⟨x.toArray⟩] w fun e w'=>∃ v,e = .returned v/\∃ d' C' r,EV w.heap.size w' v r/\Ns d d' r (x.length+20)/\Kq C' db d' w'/\YW (fun k=>k=sb) C C' w w'/\((r=0/\Md n (1-a) x 0 d'/\KA sb db n (1-a) x.length 0 (short KH x) w')\/(r≠0/\All d' (O7 n fun y k=>(y=x0/\k=m)\/(y=x/\k=0)))):=by
 obtain ⟨s0,s1,s2,s3,s4,s5⟩:=hs.cells;have ha:=hR.has.ha;have HS:=JY hs;have HD:=JY hd;have aJ:=JY hbs;have bD:=JY bt;have HR:=JY hR;have ld:=JY i7;have hsl:=hs.lt;have cW:=hbs.size;have e1:(1:Int)-(a:Int)=((1-a:Nat):Int):=by omega
 clear hs hd hbs bt hR i7;go_enter Tryz.func40,Tryz.ntmps40;go_wp2_with fail;refine (Yt (1-a) x hx w aJ.out).mono ?_;rintro e w1 ⟨rfl,hb1⟩;have ag:=JY (hb1.alloc hb1.size (.cells (M0 (1-a) x.length 0 (short KH x)) 159));have H1:=JY (AF w1 (.cells (M0 (1-a) x.length 0 (short KH x)) 159));have c1:=MS H1.out;have hs1:=hb1.size;clear hb1 s0 s1 s2 s3 s4 s5;obtain ⟨z,hz⟩:∃ z,short KH x=z:=⟨_,rfl⟩
 have hzl:z.length<=100:=by rw[<- hz];exact Sz x
 have HZ:=JY hz;rw[hz] at ag H1 c1 |-;unfold M0;clear hz;go_wp2_with fail;obtain ⟨B,hB⟩:∃ B,w1.heap.size=B:=⟨_,rfl⟩
 obtain ⟨u,hu⟩:∃ u,w1.alloc (.cells #[.int .i64 (1-a:Nat), .int .i64 x.length, .int .i64 0, .string ⟨z.toArray⟩] 159)=u:=⟨_,rfl⟩
 have bw:u.heap.size=B+1:=by rw[<- hu,<- hB];simp
 have ah:Hid (Below w.heap.size w u):=JY (by rw[<- hu];exact ag.out);have H2:Hid (u.heap[B]? = some (.cells (M0 (1-a) x.length 0 z) 159 (0,0))):=JY (by rw[<- hu,<- hB];exact H1.out);rw[hu,hB];rw[hB] at hs1;clear ag H1;have ag:=ah;have H1:=H2;have bq:=JY (HS.out.below ag.out);have aK:=JY (HD.out.below ag.out);have jb:=JY (aJ.out.below ag.out cW);have qy : ¬ C B:=fun q=>by have:=HD.out.lt B q;omega
 clear hu hB HS HD c1 ah H2;refine (ae8 (fun im=>Has n im a x0 m) sb db n a x0.length m (1-a) (short KH x0) x hn dF (by omega) HR.out.has.len hroom HR.out.may HR.out.gone (HR.out.all _ HR.out.has) air (by omega) u bq.out aK.out ld.out.1 jb.out bD.out).mono ?_;rintro e w2 ⟨v2,rfl,d2,C2,r2,q1,q2,q3,q4,q5,q6⟩;have H3:=JY ((q4.block qy (by omega)).trans H1.out);have c3:=MS (a:=1-a) (b:=x.length) (c:=0) (h:=z) H3.out;have cG:=JY (bq.out.kept (q4.block ld.out.1 bq.out.lt));have lO:=JY q3;have jM:=JY (q1.base (show w.heap.size<=_ by omega));have dv:=JY q2;have yY:=JY q5;have qd:=JY q6;have cZ:=JY (((Gr.refl C w).below ag.out).trans q4);have sZ:=JY (cZ.out.base aJ.out bD.out);have hs3:w.heap.size<=w2.heap.size:=cZ.out.1.size;have Bn:=jM.out.form;clear q1 q2 q3 q4 q5 q6 bq aK jb H1 ag;rcases Bn with ⟨rfl,rfl⟩ | ⟨h0,t,bb,rfl, -⟩
 · have yi:=JY (qd.out rfl);go_wp2_with fail;have hcl:=dv.out.calls;obtain ⟨t1,t2,t3⟩:=yi.out;refine (abw (C:=C2) (d:=d2) sb db n a x0.length m (1-a) x.length 0 (short KH x0) z (by omega) (by omega) (by omega) hzl (by omega) (by rw[t2];simp) (by omega) w2 cG.out lO.out ⟨cZ.out.old ld.out.1 hsl,by rw[dv.out.rb];exact ld.out.2⟩ sZ.out (cZ.out.low bD.out cW)).mono ?_;rintro e w3 ⟨v3,rfl,d3,C3,r3,q1,q2,q3,q4,q5⟩;have iX:=JY (q1.base hs3);have iV:=JY (dv.out.trans q2);have fN:=JY q3;have fQ:=JY (cZ.out.d.trans q4);have jq:=JY q5;have hrt:=Z6 (m':=0) (a':=1-a) (x':=x) (by omega) (by omega) hroom (yY.out _ (Zl.now d2)) t2 lO.out.few.2 (fun j hj=>t3 j (by omega) hj);rw[HZ.out] at hrt;have Dh:=JY hrt;have lI:=JY yY.out;clear q1 q2 q3 q4 q5 t1 t2 t3 hrt;go_wp2_with fail;refine (Pe _ w.heap.size v3 r3 w3 iX.out fQ.out.1.size).mono ?_;rintro e w4 ⟨v4,rfl,q1,q2⟩;have nQ:=JY q1;have bf:=JY q2;clear q1 q2;go_wp2_with fail;go_ret;refine ⟨v4,rfl,d3,C3,r3,nQ.out,iV.out.more (by omega),fN.out.below bf.out,fQ.out.below bf.out,?_⟩;rcases jq.out with ⟨h0,h1,h2⟩ | ⟨h0,h1⟩
   · obtain ⟨k1,k2, -⟩:=Hv.Ml h1;exact .inl ⟨h0,⟨fun i=>by rw[k2];exact Hv.NQ _ i,by rw[k1];exact Dh.out.1,(iV.out.ok h0).1⟩,by rw[HZ.out];exact h2.below bf.out⟩
   · refine .inr ⟨h0,?_⟩;rcases h1 with h1 | h1
     · exact (lI.out.core h1).imp fun im q=>⟨a,x0,m, .inl ⟨rfl,rfl⟩,q⟩
     · exact (Dh.out.2.core h1).imp fun im q=>by
        rcases q with q | q
        · exact ⟨a,x0,m, .inl ⟨rfl,rfl⟩,q⟩
        · exact ⟨1-a,x,0, .inr ⟨rfl,rfl⟩,q⟩
 · have hne:r2≠0:=by omega
   have lx:=Lib.itoa_length_le (x.length:Int) (by omega) (by omega);have j1 : ¬ 9223372036854775807<18+(Lib.itoa (x.length:Int)).length:=by omega
   have j2 : ¬ 9223372036854775807<18+(Lib.itoa (x.length:Int)).length+6:=by omega
   go_wp2_with fail;refine (OI x.length (by omega) (by omega) _ sZ.out).mono ?_;rintro e w4 ⟨rfl,hb4⟩;have aB:=JY hb4;clear hb4;go_wp2_with fail;refine (Pe _ w.heap.size _ r2 w4 (jM.out.below aB.out) (by have:=aB.out.size;omega)).mono ?_;rintro e w5 ⟨v5,rfl,q1,q2⟩;have nQ:=JY q1;have bf:=JY q2;clear q1 q2;go_wp2_with fail;go_ret;exact ⟨v5,rfl,d2,C2,r2,nQ.out,dv.out.more (by omega),(lO.out.below aB.out).below bf.out,((cZ.out.d.below aB.out).below bf.out), .inr ⟨hne,yY.out.imp fun im q=>⟨a,x0,m, .inl ⟨rfl,rfl⟩,q⟩⟩⟩
theorem ajK{d:Dx} (sb db n a m k:Nat) (x:S) (hn:1<=n) (hx:x.length<=1000000) (hk:k<=1000000) (hR:Md n a x m d) (au:d.calls+100<1000000000000)
 (w:World) (hs:KA sb db n a x.length m (short KH x) w) (hd:Kq C db d w) (i7 : ¬ C sb/\sb≠d.rb) (hbs:Base w) (bt:∀ k,C k->12<=k) :
 Calls Tryz.prog 150 #[.pointer (some ⟨sb,0,none⟩), .int .i64 k] w fun e w'=>∃ v,e = .returned v/\∃ d' C' r,EV w.heap.size w' v r/\Ns d d' r 8/\Kq C' db d' w'/\YW (fun k=>k=sb) C C' w w'/\((r=0/\Md n a x k d'/\KA sb db n a x.length k (short KH x) w')\/(r≠0/\All d' (O7 n fun y j=>y=x/\(j=m\/j=k)))):=by
 obtain ⟨s0,s1,s2,s3,s4,s5⟩:=hs.cells;have ha:=hR.has.ha;have HS:=JY hs;have HD:=JY hd;have aJ:=JY hbs;have bD:=JY bt;have HR:=JY hR;have ld:=JY i7;have hsl:=hs.lt;have cW:=hbs.size;obtain ⟨h,hh⟩:∃ h,short KH x=h:=⟨_,rfl⟩
 have Br:h.length<=100:=by rw[<- hh];exact Sz x
 have HH:=JY hh;obtain ⟨b,hb⟩:∃ b,x.length=b:=⟨_,rfl⟩
 have HB:=JY hb;rw[hh,hb] at HS;rw[hh] at s5;rw[hb] at s3 hx;rw[hh,hb];clear hs hd hbs bt hR i7 hh hb;go_enter Tryz.func150,Tryz.ntmps150;go_wp2_with fail;have hrow:=AF w (.cells (M0 a b k h) 159);have aC:=JY ((AD w.heap.size w).alloc (AC _) (.cells (M0 a b k h) 159));have qy : ¬ C w.heap.size:=fun q=>by have:=HD.out.lt _ q;omega
 show Code.wp _ _ _ _ (w.alloc (.cells (M0 a b k h) 159));obtain ⟨B,hB⟩:∃ B,w.heap.size=B:=⟨_,rfl⟩
 obtain ⟨u,hu⟩:∃ u,w.alloc (.cells (M0 a b k h) 159)=u:=⟨_,rfl⟩
 have bw:u.heap.size=B+1:=by rw[<- hu,<- hB];simp
 rw[hu] at hrow aC |-;have dG:=JY (aJ.out.below aC.out cW);have dP:=JY (HS.out.below aC.out);have iq:=JY (HD.out.below aC.out);rw[hB] at hrow aC hsl qy cW |-;have H0:=JY hrow;have c0:=MS hrow;have lm:=Lib.itoa_length_le k (by omega) (by omega);have j1 : ¬ 9223372036854775807<20+(Lib.itoa (k:Int)).length:=by omega
 have Il:sb≠B:=by omega
 clear hu hrow aJ HS HD s0 s1 s2 s3 s4 s5
 go_region_held3 (fun w'=>w'.cell? ⟨B,0,none⟩=some (.int .i64 a)/\w'.cell? ⟨B,1,none⟩=some (.int .i64 b)/\w'.cell? ⟨B,2,none⟩=some (.int .i64 k)/\w'.cell? ⟨B,3,none⟩=some (.string ⟨h.toArray⟩))
  (first | assumption | exact MS H3.out | exact MS H2.out | exact MS H1.out | exact c0 | simp[go_sem, *])
  (first
   | (go_at_call 81;refine (OI k (by omega) (by omega) _ dG.out.drew).mono ?_;rintro e w1 ⟨rfl,hb1⟩;have H1:=JY ((hb1.block B (by simp;omega)).trans H0.out);have fF:=JY (dP.out.kept (hb1.block sb (by simp;omega)));have aI:=JY (dG.out.drew.below hb1 (by simp;omega));have bH:=JY (iq.out.drew.below hb1);have ag:=JY (aC.out.drew.trans (hb1.mono (by simp;omega)));have hs1:=hb1.size;simp at hs1;clear hb1)
   | (go_at_call 82;refine (abw (C:=C) (d:=d) sb db n a b m a b k h h (by omega) (by omega) (by omega) Br (by rw[HR.out.has.len];omega) (by rw[HR.out.may];simp) (by omega) w1 fF.out bH.out ld.out aI.out bD.out).mono ?_;rintro e w2 ⟨v2,rfl,d2,C2,r2,q1,q2,q3,q4,q5⟩;have H2:=JY ((q4.block ⟨qy,fun q=>Il q.symm⟩ (by omega)).trans H1.out);have aK:=JY q3;have aU:=JY q2;have bY:=JY (q1.base (show B<=_ by omega));have HG2:=JY (show YW (fun k=>k=sb) C C2 w w2 from (((Gr.refl C w).below (by rw[hB];exact ag.out)).d).trans q4);have bR:=JY q5;have hs2:=q4.1.size;clear q1 q2 q3 q4 q5)
   | (go_at_call 42;refine (Pe _ B v2 r2 w2 bY.out (by omega)).mono ?_;rintro e w3 ⟨v3,rfl,q1,q2⟩;have jM:=JY q1;have av:=JY q2;have hs3:=q2.size;have H3:=JY ((q2.block B (by omega)).trans H2.out);clear q1 q2))
 go_wp2_with fail;go_ret;rw[hB];refine ⟨v3,rfl,d2,C2,r2,jM.out,aU.out,aK.out.below av.out,HG2.out.below av.out,?_⟩;have hrt:=Z6 (m':=k) (a':=a) (x':=x) (by omega) ha HR.out.has.fit HR.out.has HR.out.may iq.out.few.2 HR.out.has.text;rw[HH.out,HB.out] at hrt;rcases bR.out with ⟨h0,h1,h2⟩ | ⟨h0,h1⟩
 · obtain ⟨k1,k2, -⟩:=Hv.Ml h1;exact .inl ⟨h0,⟨fun i=>by rw[k2];exact Hv.NQ _ i,by rw[k1];exact hrt.1,(aU.out.ok h0).1⟩,h2.below av.out⟩
 · refine .inr ⟨h0,?_⟩;rcases h1 with h1 | h1
   · exact (HR.out.all (O7 n fun y j=>y=x/\(j=m\/j=k)) ⟨a,x,m,⟨rfl, .inl rfl⟩,HR.out.has⟩).core h1
   · exact (hrt.2.core h1).imp fun im q=>by
      rcases q with q | q
      · exact ⟨a,x,m,⟨rfl, .inl rfl⟩,q⟩
      · exact ⟨a,x,k,⟨rfl, .inr rfl⟩,q⟩
end
section
open Go.RowKit Go.Extern.Stop Go.Stop Go.Extern
open Hv (S Dx)
theorem am3(v:Value) (xT:TypeId) (w:World):(Instr.typeAssert (.iface 126 v) xT 265 true).run Tryz.prog w = .ok (.tuple #[.nilIface, .bool false]) w:=run_typeAssert_lacksB Tryz.underlying265 (by kernel_rfl) (by kernel_rfl) v xT w
theorem ad2(v:Value) (xT:TypeId) (w:World):(Instr.typeAssert (.iface 126 v) xT 268 true).run Tryz.prog w = .ok (.tuple #[.iface 126 v, .bool true]) w:=run_typeAssert_hasB Tryz.underlying268 (by kernel_rfl) v xT w
theorem Zd(v:Value) (w:World):(Go.method 539 126 v "Unwrap").run Tryz.prog w = .ok (348,v) w:=by kernel_rfl
theorem Om.depth:∀ {k k':Nat} {v:Value},Om k w B v r->Om k' w B v r->k=k'
 | 0,0,_,_,_=>rfl
 | 0,_+1,_,⟨_,_,e,_⟩,⟨_,_,_,e',_⟩=>by rw[e] at e';cases e'
 | _+1,0,_,⟨_,_,_,e,_⟩,⟨_,_,e',_⟩=>by rw[e] at e';cases e'
 | k+1,k'+1,v,⟨b,s,u,e,_,c,n⟩,⟨b',s',u',e',_,c',n'⟩=>by
   rw[e] at e';cases e';rw[c] at c';cases c';rw[Om.depth n n']
open Classical in
noncomputable def QI (w:World) (B:Nat) (r:Int) (v:Value):Nat:=if h:∃ k,Om k w B v r then Classical.choose h+2 else 1
theorem Rw{k:Nat}  {v:Value} (h:Om k w B v r):QI w B r v=k+2:=by
 have hx:∃ k,Om k w B v r:=⟨k,h⟩
 rw[QI,dif_pos hx,(Classical.choose_spec hx).depth h]
theorem agm(a:Addr):QI w B r (Rz a)=1:=by
 rw[QI,dif_neg];rintro ⟨k,h⟩;cases k with
 | zero=>obtain ⟨_,_,e,_⟩:=h;cases e
 | succ k=>obtain ⟨_,_,_,e,_⟩:=h;cases e
theorem ajI(a b t:Addr) (B k:Nat) (v:Value) (r:Int) (hr:r=16\/r=17) (w:World) (hE:Tn a b w) (hv:Om k w B v r) (ht:t=a\/t=b) :
 Calls Tryz.prog 98 #[v, .iface 398 (.pointer (some t)), .bool true] w fun e w'=>e = .returned (.bool (decide (r=17)&&decide (t=b)))/\w'=w:=by
 obtain ⟨i,hi,hcmp⟩:=Option.map_eq_some_iff.1 ad9;obtain ⟨j,hj,hjs⟩:=Option.map_eq_some_iff.1 aea;have nE:=aiU;have uE:=Vx;have vE:=TP;have nW:=aiV;have uW:=QN;have mU:=Po;have nF:=am3;have uF:=ad2;have mF:=Zd;have hpw:w.cell? ⟨1,0,none⟩=some (.iface 398 (.pointer (some b))):=hE.power;have HE:=JY hE;have HV:=JY hv;clear hE hv;go_enter Tryz.func98,Tryz.ntmps98;go_wp2_with fail;go_loopw [0] (fun e wr=>wr=w/\((∃ k,Hid (Om k w B e r))\/(r=17/\e=Rz b))) (fun e _=>QI w B r e)
 case atStart=>exact ⟨rfl, .inl ⟨k,HV⟩⟩
 case round =>
  clear HV;obtain ⟨hw,hrel⟩:=hrel;obtain rfl:=hw.symm;clear hw;rcases hrel with ⟨k,HV⟩ | ⟨rfl,rfl⟩
  · match k,HV with
    | 0,HV =>
      obtain ⟨fb,s,rfl, -,hc⟩:=HV.out;have hty:=run_eql_iface_types (P:=Tryz.prog) 126 398 (.pointer (some ⟨fb,0,none⟩)) (.pointer (some t)) Tryz.underlying74 (by decide) w;have c1:=(JZ hc 1).trans (show _=some (.int .i64 r) from rfl);have HD:=JY (Rw HV.out);clear hc;rcases hr with rfl | rfl
      · go_wp2
        go_ret;exact ⟨by simp,rfl⟩
      · go_wp2
        refine ⟨⟨by trivial, .inr ⟨by trivial,rfl⟩⟩,?_⟩;rw[HD.out];show QI w B 17 (Rz b)<_;rw[agm];omega
    | k+1,HV =>
      obtain ⟨lb,s,u,rfl, -,hc,hn⟩:=HV.out;have hty:=run_eql_iface_types (P:=Tryz.prog) 183 398 (.pointer (some ⟨lb,0,none⟩)) (.pointer (some t)) Tryz.underlying74 (by decide) w;have c1:=(JZ hc 1).trans (show _=some u from rfl);have HD:=JY (Rw HV.out);have HN:=JY hn;obtain ⟨ty,q,rfl⟩:∃ ty q,u = .iface ty q:=by
       cases k with
       | zero=>obtain ⟨_,_,e,_⟩:=hn;exact ⟨_,_,e⟩
       | succ k=>obtain ⟨_,_,_,e,_⟩:=hn;exact ⟨_,_,e⟩
      clear hc hn
      go_wp2
      refine ⟨⟨by trivial, .inl ⟨k,HN⟩⟩,?_⟩;rw[HD.out];show QI w B r (.iface ty q)<_;rw[Rw HN.out];omega
  · obtain ⟨ca,ta,ha⟩:=HE.out.atA;obtain ⟨cb,tb,hb⟩:=HE.out.atB;unfold Rz;rcases ht with rfl | rfl
    · have heq:=run_eql_iface_ptr_other (P:=Tryz.prog) w Tryz.underlying74 Tryz.underlying398 hi hcmp hj (by rw[hjs];decide) HE.out.ne.symm hb ha
      go_wp2
      go_ret;exact ⟨by simp[HE.out.ne],rfl⟩
    · have heq:=run_eql_iface_ptr_same (P:=Tryz.prog) w t Tryz.underlying74 Tryz.underlying398 hi hcmp hj
      go_wp2
      go_ret;exact ⟨by simp,rfl⟩
theorem xis(a b t:Addr) (B:Nat) (v:Value) (r:Int) (hr:r=16\/r=17) (w:World) (hE:Tn a b w) (hv:ahL B w v r) (ht:t=a\/t=b) :
 Calls Tryz.prog 49 #[v, .iface 398 (.pointer (some t))] w fun e w'=>e = .returned (.bool (decide (r=17)&&decide (t=b)))/\w'=w:=by
 have h8 := @run_callFunc_extern Tryz.prog 97 _ Extern.ReflectliteType.typeOf Tryz.func97 (by kernel_rfl) (by kernel_rfl) (by kernel_rfl) (by kernel_rfl);have DC:=PL;have tT:=X0;have mR:=NR;obtain ⟨k,hk⟩:=hv;have HX:=JY (ajI a b t B k v r hr w hE hk ht);obtain ⟨ty,q,rfl⟩:∃ ty q,v = .iface ty q:=by
  cases k with
  | zero=>obtain ⟨_,_,e,_⟩:=hk;exact ⟨_,_,e⟩
  | succ k=>obtain ⟨_,_,_,e,_⟩:=hk;exact ⟨_,_,e⟩
 clear hE hk;go_enter Tryz.func49,Tryz.ntmps49;go_wp2_with (go_at_call 98;refine HX.out.mono ?_;rintro e w1 ⟨rfl,hw⟩;have hw':=hw.symm;subst hw';clear hw)
 go_ret;exact ⟨rfl,rfl⟩
namespace As
def va (n:Nat) (a:Addr) (f:Int):Array Value := #[.pointer (some ⟨12,n,none⟩), .pointer (some a), .int .u64 f]
theorem ahv(t:Addr) (w:World):(ReflectliteValue.unpack (.iface 129 (.pointer (some t)))).run Tryz.prog w = .ok (.agg #[.pointer (some ⟨12,129,none⟩), .pointer (some ⟨w.heap.size,0,none⟩), .int .u64 150]) (w.alloc (.cells #[.pointer (some t)] 129)):=by kernel_rfl
theorem amr(a:Addr) (w:World):(ReflectliteValue.methodAny (ReflectliteValue.valueError "reflectlite.Value.Type" 0) (fun t _ _ _=>ReflectliteType.toType t) #[.agg #[.pointer (some ⟨12,129,none⟩), .pointer (some a), .int .u64 150]]).run Tryz.prog w = .ok (.iface 263 (.agg #[.pointer (some ⟨12,129,none⟩)])) w:=by kernel_rfl
theorem aeu(h:Value) (w:World):(Go.method 539 263 (.agg #[h]) "Kind").run Tryz.prog w = .ok (337,h) w:=by kernel_rfl
theorem al2(w:World):((ReflectliteType.abiMethod fun t=>(fun a:Nat=>Value.int IntKind.u8 (a:Int)) <$> Rtype.kind t) #[.pointer (some ⟨12,129,none⟩)]).run Tryz.prog w = .ok (.int .u8 22) w:=by kernel_rfl
theorem am1(w:World):((ReflectliteType.abiMethod fun t=>(fun a:Nat=>Value.int IntKind.u8 (a:Int)) <$> Rtype.kind t) #[.pointer (some ⟨12,126,none⟩)]).run Tryz.prog w = .ok (.int .u8 22) w:=by kernel_rfl
theorem afB(a:Addr) (w:World):(ReflectliteValue.parts (.agg #[.pointer (some ⟨12,129,none⟩), .pointer (some a), .int .u64 150])).run Tryz.prog w = .ok (some (129,a,150)) w:=by kernel_rfl
theorem ako(a p:Addr) (W:World) (ha:W.cell? a=some (.pointer (some p))) :
 (ReflectliteValue.method (ReflectliteValue.valueError "reflectlite.Value.IsNil" 0) ReflectliteValue.isNil #[.agg #[.pointer (some ⟨12,129,none⟩), .pointer (some a), .int .u64 150]]).run Tryz.prog W = .ok (.bool false) W:=by
 show (bind (ReflectliteValue.parts (.agg #[.pointer (some ⟨12,129,none⟩), .pointer (some a), .int .u64 150])) _:Sem Value).run Tryz.prog W=_;simp only[Sem.run_bind,afB,Result.andThen];simp[ReflectliteValue.isNil,loadVar,isAgg,underlying,Tryz.underlying129,ha,Result.andThen]
theorem aes(h:Value) (w:World):(Go.method 539 263 (.agg #[h]) "Elem").run Tryz.prog w = .ok (359, .agg #[h]) w:=by kernel_rfl
theorem Vs(h:Value) (w:World):(Go.method 539 263 (.agg #[h]) "Implements").run Tryz.prog w = .ok (360, .agg #[h]) w:=by kernel_rfl
theorem Vr(h:Value) (w:World):(Go.method 539 263 (.agg #[h]) "AssignableTo").run Tryz.prog w = .ok (357, .agg #[h]) w:=by kernel_rfl
theorem alF(w:World):(ReflectliteType.method ReflectliteType.elem #[.agg #[.pointer (some ⟨12,129,none⟩)]]).run Tryz.prog w = .ok (.iface 263 (.agg #[.pointer (some ⟨12,126,none⟩)])) w:=by kernel_rfl
theorem acn(w:World):(ReflectliteType.relation "Implements" ReflectliteType.implements_ #[.agg #[.pointer (some ⟨12,126,none⟩)], .iface 263 (.agg #[.pointer (some ⟨12,74,none⟩)])]).run Tryz.prog w = .ok (.bool true) w:=by kernel_rfl
theorem ak3(v:Value) (w:World):(ReflectliteType.typeOf #[.iface 126 v]).run Tryz.prog w = .ok (.iface 263 (.agg #[.pointer (some ⟨12,126,none⟩)])) w:=by kernel_rfl
theorem ak2(v:Value) (w:World):(ReflectliteType.typeOf #[.iface 183 v]).run Tryz.prog w = .ok (.iface 263 (.agg #[.pointer (some ⟨12,183,none⟩)])) w:=by kernel_rfl
theorem abM(w:World):(ReflectliteType.relation "AssignableTo" ReflectliteType.assignableTo #[.agg #[.pointer (some ⟨12,126,none⟩)], .iface 263 (.agg #[.pointer (some ⟨12,126,none⟩)])]).run Tryz.prog w = .ok (.bool true) w:=by kernel_rfl
theorem abL(w:World):(ReflectliteType.relation "AssignableTo" ReflectliteType.assignableTo #[.agg #[.pointer (some ⟨12,183,none⟩)], .iface 263 (.agg #[.pointer (some ⟨12,126,none⟩)])]).run Tryz.prog w = .ok (.bool false) w:=by kernel_rfl
theorem ajv(e:Addr) (w:World):(ReflectliteValue.unpack (.iface 126 (.pointer (some e)))).run Tryz.prog w = .ok (.agg #[.pointer (some ⟨12,126,none⟩), .pointer (some ⟨w.heap.size,0,none⟩), .int .u64 150]) (w.alloc (.cells #[.pointer (some e)] 126)):=by kernel_rfl
theorem elemOf(w:World):(Rtype.elem? 129).run Tryz.prog w = .ok (some 126) w:=by kernel_rfl
theorem mkP(p:Addr) (w:World):(ReflectliteValue.mk 126 p ReflectliteValue.flagAddr).run Tryz.prog w = .ok (.agg #[.pointer (some ⟨12,126,none⟩), .pointer (some p), .int .u64 406]) w:=by kernel_rfl
theorem elemV(a p:Addr) (W:World) (ha:W.cell? a=some (.pointer (some p))) :
 (ReflectliteValue.method (ReflectliteValue.valueError "reflectlite.Value.Elem" 0) ReflectliteValue.elem #[.agg #[.pointer (some ⟨12,129,none⟩), .pointer (some a), .int .u64 150]]).run Tryz.prog W = .ok (.agg #[.pointer (some ⟨12,126,none⟩), .pointer (some p), .int .u64 406]) W:=by
 show (bind (ReflectliteValue.parts (.agg #[.pointer (some ⟨12,129,none⟩), .pointer (some a), .int .u64 150])) _:Sem Value).run Tryz.prog W=_;simp only[Sem.run_bind,afB,Result.andThen];simp[ReflectliteValue.elem,loadVar,isAgg,underlying,Tryz.underlying129,ha,Result.andThen,elemOf,mkP]
theorem amh(a:Addr) (w:World):(ReflectliteValue.parts (.agg #[.pointer (some ⟨12,126,none⟩), .pointer (some a), .int .u64 406])).run Tryz.prog w = .ok (some (126,a,406)) w:=by kernel_rfl
theorem ami(a:Addr) (w:World):(ReflectliteValue.parts (.agg #[.pointer (some ⟨12,126,none⟩), .pointer (some a), .int .u64 150])).run Tryz.prog w = .ok (some (126,a,150)) w:=by kernel_rfl
theorem aj6(w:World):(Rtype.directlyAssignable 126 126).run Tryz.prog w = .ok true w:=by kernel_rfl
theorem anA(ta b e:Addr) (old:Value) (W:World) (hb:W.cell? b=some (.pointer (some e))) (ht:W.cell? ta=some old) (hf:W.frozen? ta=false) :
 (ReflectliteValue.set #[.agg #[.pointer (some ⟨12,126,none⟩), .pointer (some ta), .int .u64 406], .agg #[.pointer (some ⟨12,126,none⟩), .pointer (some b), .int .u64 150]]).run Tryz.prog W = .ok (.tuple #[]) (W.setCell ta (.pointer (some e))):=by
 show (bind (ReflectliteValue.parts (.agg #[.pointer (some ⟨12,126,none⟩), .pointer (some ta), .int .u64 406])) _:Sem Value).run Tryz.prog W=_;simp only[Sem.run_bind,amh,Result.andThen,Array.getLit,List.getElem_toArray,List.getElem_cons_succ,List.getElem_cons_zero,ami];simp[ReflectliteValue.flagAddr,loadVar,isAgg,underlying,Tryz.underlying126,hb,Result.andThen,aj6,storeVar,Value.cells,storeCells,Addr.add];rw[run_store Tryz.prog W ta _ _ (by rfl)];simp[ht,hf]
end As
theorem Om.iface:∀ {k:Nat} {v:Value},Om k w B v r->(∃ b,v = .iface 126 (.pointer (some ⟨b,0,none⟩))) \/ ∃ b,v = .iface 183 (.pointer (some ⟨b,0,none⟩))
 | 0,_,⟨b,_,e,_⟩ => .inl ⟨b,e⟩
 | _+1,_,⟨b,_,_,e,_⟩ => .inr ⟨b,e⟩
theorem ajE(t A:Addr) (B k:Nat) (v:Value) (r:Int) (w:World) (ht0:t=⟨t.block,0,none⟩) (hv:Om k w B v r) (hA:w.cell? A=some (.pointer (some t))) (ht:w.cell? t=some (.pointer none)) (hf:w.frozen? t=false) :
 Calls Tryz.prog 102 #[v, .iface 129 (.pointer (some t)), .agg #[.pointer (some ⟨12,129,none⟩), .pointer (some A), .int .u64 150], .iface 263 (.agg #[.pointer (some ⟨12,126,none⟩)])] w fun e w'=>e = .returned (.bool true)/\∃ fb,w'.cell? t=some (.pointer (some ⟨fb,0,none⟩))/\w'.cell? ⟨fb,1,none⟩=some (.int .i64 r)/\Kj w.heap.size (fun k=>k=t.block) w w':=by
 have uI:=JY ht0;clear ht0;have Ja := @run_callFunc_extern Tryz.prog 97 _ ReflectliteType.typeOf Tryz.func97 (by kernel_rfl) (by kernel_rfl) (by kernel_rfl) (by kernel_rfl);have h35 := @run_callFunc_extern Tryz.prog 357 _ (ReflectliteType.relation "AssignableTo" ReflectliteType.assignableTo) Tryz.func357 (by kernel_rfl) (by kernel_rfl) (by kernel_rfl) (by kernel_rfl);have h11 := @run_callFunc_extern Tryz.prog 166 _ (ReflectliteValue.method (ReflectliteValue.valueError "reflectlite.Value.Elem" 0) ReflectliteValue.elem) Tryz.func166 (by kernel_rfl) (by kernel_rfl) (by kernel_rfl) (by kernel_rfl);have h12 := @run_callFunc_extern Tryz.prog 167 _ ReflectliteValue.set Tryz.func167 (by kernel_rfl) (by kernel_rfl) (by kernel_rfl) (by kernel_rfl);have h6 := @run_callFunc_extern Tryz.prog 99 _ (fun args=>ReflectliteValue.unpack (args.getD 0 (.tuple #[]))) Tryz.func99 (by kernel_rfl) (by kernel_rfl) (by kernel_rfl) (by kernel_rfl);have tP:=As.ak3;have tL:=As.ak2;have mA:=As.Vr;have aP:=As.abM;have aL:=As.abL;have vP:=As.ajv;have nW:∀ (v:Value) (xT:TypeId) (w:World),(Instr.typeAssert (.iface 183 v) xT 274 true).run Tryz.prog w = .ok (.tuple #[.nilIface, .bool false]) w:=run_typeAssert_lacksB Tryz.underlying274 (by kernel_rfl) (by kernel_rfl)
 have uW:=QN;have mU:=Po;have htl:t.block<w.heap.size:=B5 w t ht;have qx:A.block<w.heap.size:=B5 w A hA;have HV:=JY hv;go_enter Tryz.func102,Tryz.ntmps102;go_wp2_with fail;have hb1:=(AD w.heap.size w).alloc (AC _) (.cells #[.pointer (some ⟨12,129,none⟩), .pointer (some A), .int .u64 150] 203);have hrow:=AF w (.cells #[.pointer (some ⟨12,129,none⟩), .pointer (some A), .int .u64 150] 203);have DK:(w.alloc (.cells #[.pointer (some ⟨12,129,none⟩), .pointer (some A), .int .u64 150] 203)).heap.size=w.heap.size+1:=by simp
 obtain ⟨u,hu⟩:∃ u,w.alloc (.cells #[.pointer (some ⟨12,129,none⟩), .pointer (some A), .int .u64 150] 203)=u:=⟨_,rfl⟩
 rw[hu] at hb1 hrow DK |-;have fe:=JY (Om.kept (fun k _ hk=>hb1.block k hk) HV.out);have DG:=(hb1.cell qx).trans hA;have ht1:=(hb1.cell htl).trans ht;have aS:u.frozen? t=false:=(World.frozen?_of_block (hb1.block _ htl)).trans hf;have x0:=(JZ hrow 0).trans (show _=some (.pointer (some ⟨12,129,none⟩)) from rfl);have x1:=(JZ hrow 1).trans (show _=some (.pointer (some A)) from rfl);have x2:=(JZ hrow 2).trans (show _=some (.int .u64 150) from rfl);have el:=As.elemV A t u DG;have ag:=JY hb1;clear hu hrow hb1 hA ht hf hv HV DG;go_loopw [0] (fun e wr=>wr=u/\∃ k,Hid (Om k u B e r)) (fun e _=>QI u B r e)
 case atStart=>exact ⟨rfl,k,fe⟩
 case round =>
  clear fe;obtain ⟨hw,k,HV⟩:=hrel;obtain rfl:=hw.symm;clear hw
  match k,HV with
  | 0,HV =>
    obtain ⟨fb,s,rfl, -,hc⟩:=HV.out;have HC:=JY hc;have hne:fb≠t.block:=fun e=>by
     have h1:=JZ hc 0;rw[e,<- uI.out,ht1] at h1;cases h1
    have hfl:=blt hc;have hb2:=(AD u.heap.size u).alloc (AC _) (.cells #[.pointer (some ⟨fb,0,none⟩)] 126);have st:=As.anA t ⟨u.heap.size,0,none⟩ ⟨fb,0,none⟩ (.pointer none) (u.alloc (.cells #[.pointer (some ⟨fb,0,none⟩)] 126)) (cell_one_new u _ _ 0 _ rfl) ((hb2.cell (by omega)).trans ht1) ((World.frozen?_of_block (hb2.block _ (by omega))).trans aS);have ah:=JY hb2;have qc:=JY ((hb2.cell (p:=t) (by omega)).trans ht1);rw[DK] at st;clear hc hb2
    go_wp2
    go_ret;refine ⟨rfl,fb,World.cell?_setCell_same _ _ _ qc.out,?_,((Kj.of (C:=fun k=>k=t.block) ag.out (AC _)).below ah.out (by omega)).setCell (p:=t) (.inr rfl) _⟩;refine (Fo _ _ _ _ (fun e=>hne (by rw[e]))).trans ?_;exact (ah.out.cell (p:=⟨fb,1,none⟩) hfl).trans ((JZ HC.out 1).trans rfl)
  | k+1,HV =>
    obtain ⟨lb,s,q,rfl, -,hc,hn⟩:=HV.out;have c1:=(JZ hc 1).trans (show _=some q from rfl);have HD:=JY (Rw HV.out);have HN:=JY hn;obtain ⟨ty,qv,rfl⟩:∃ ty qv,q = .iface ty qv:=by
     rcases hn.iface with ⟨b,e⟩ | ⟨b,e⟩<;>exact ⟨_,_,e⟩
    clear hc hn
    go_wp2
    refine ⟨⟨by trivial,k,HN⟩,?_⟩;rw[HD.out];show QI u B r (.iface ty qv)<_;rw[Rw HN.out];omega
def afY (w:World):Prop:=w.cell? ⟨2,0,none⟩=some (.iface 263 (.agg #[.pointer (some ⟨12,74,none⟩)]))
theorem xas(t:Addr) (B:Nat) (v:Value) (r:Int) (w:World) (ht0:t=⟨t.block,0,none⟩) (hT:afY w) (hv:ahL B w v r) (ht:w.cell? t=some (.pointer none)) (hf:w.frozen? t=false) :
 Calls Tryz.prog 50 #[v, .iface 129 (.pointer (some t))] w fun e w'=>e = .returned (.bool true)/\∃ fb,w'.cell? t=some (.pointer (some ⟨fb,0,none⟩))/\w'.cell? ⟨fb,1,none⟩=some (.int .i64 r)/\Kj w.heap.size (fun k=>k=t.block) w w':=by
 have uI:=JY ht0;clear ht0;have h6 := @run_callFunc_extern Tryz.prog 99 _ (fun args=>ReflectliteValue.unpack (args.getD 0 (.tuple #[]))) Tryz.func99 (by kernel_rfl) (by kernel_rfl) (by kernel_rfl) (by kernel_rfl);have h7 := @run_callFunc_extern Tryz.prog 100 _ (ReflectliteValue.methodAny (ReflectliteValue.valueError "reflectlite.Value.Type" 0) (fun t _ _ _=>ReflectliteType.toType t)) Tryz.func100 (by kernel_rfl) (by kernel_rfl) (by kernel_rfl) (by kernel_rfl);have h8 := @run_callFunc_extern Tryz.prog 101 _ (ReflectliteValue.method (ReflectliteValue.valueError "reflectlite.Value.IsNil" 0) ReflectliteValue.isNil) Tryz.func101 (by kernel_rfl) (by kernel_rfl) (by kernel_rfl) (by kernel_rfl);have h27 := @run_callFunc_extern Tryz.prog 337 _ (ReflectliteType.abiMethod fun t=>do pure (.int .u8 (<- Rtype.kind t))) Tryz.func337 (by kernel_rfl) (by kernel_rfl) (by kernel_rfl) (by kernel_rfl);have h37 := @run_callFunc_extern Tryz.prog 359 _ (ReflectliteType.method ReflectliteType.elem) Tryz.func359 (by kernel_rfl) (by kernel_rfl) (by kernel_rfl) (by kernel_rfl);have I9 := @run_callFunc_extern Tryz.prog 360 _ (ReflectliteType.relation "Implements" ReflectliteType.implements_) Tryz.func360 (by kernel_rfl) (by kernel_rfl) (by kernel_rfl) (by kernel_rfl);have v27:=As.ahv;have f7:=As.amr;have mK:=As.aeu;have mE:=As.aes;have mI:=As.Vs;have k27:=As.al2;have k25:=As.am1;have e27:=As.alF;have i25:=As.acn;have n8:=As.ako ⟨w.heap.size,0,none⟩ t ((w.alloc (.cells #[.pointer (some t)] 129)).alloc (.cells #[.pointer (some ⟨12,129,none⟩), .pointer (some ⟨w.heap.size,0,none⟩), .int .u64 150] 203)) (by simp);have hlt:2<w.heap.size:=B5 w ⟨2,0,none⟩ hT;have htl:t.block<w.heap.size:=B5 w t ht;have hb2:=((AD w.heap.size w).alloc (AC _) (.cells #[.pointer (some t)] 129)).alloc (by simp) (.cells #[.pointer (some ⟨12,129,none⟩), .pointer (some ⟨w.heap.size,0,none⟩), .int .u64 150] 203);have hg2:=(hb2.cell (p:=⟨2,0,none⟩) hlt).trans hT;obtain ⟨k,hk⟩:=hv;have HX:=JY (ajE t ⟨w.heap.size,0,none⟩ B k v r _ uI.out (Om.kept (fun k _ hk=>hb2.block k hk) hk) (by rw[World.cell?_alloc_lt _ _ ⟨w.heap.size,0,none⟩ (by simp)];simp) ((hb2.cell htl).trans ht) ((World.frozen?_of_block (hb2.block _ htl)).trans hf));have ah:=JY hb2;obtain ⟨ty,q,rfl⟩:∃ ty q,v = .iface ty q:=by
  rcases hk.iface with ⟨b,e⟩ | ⟨b,e⟩<;>exact ⟨_,_,e⟩
 clear hk hb2 ht hf hT;go_enter Tryz.func50,Tryz.ntmps50;go_wp2_with (go_at_call 102;refine HX.out.mono ?_;rintro e w7 ⟨rfl,fb,q1,q2,q3⟩;have cR:=JY q1;have bR:=JY q2;have eZ:=JY q3;clear q1 q2 q3)
 go_ret;exact ⟨rfl,fb,cR.out,bR.out,(Kj.of ah.out (AC _)).next eZ.out (by simp;omega) (fun _ _ q=>q)⟩
theorem abp(a b:Addr) (B:Nat) (v:Value) (r:Int) (w:World) (hE:Tn a b w) (hT:afY w) (hv:EV B w v r) :
 Calls Tryz.prog 29 #[v] w fun e w'=>e = .returned (.int .i64 r)/\Below w.heap.size w w':=by
 rcases hv.form with ⟨rfl,rfl⟩ | ⟨h1,ty,q,rfl,hV⟩
 · go_enter Tryz.func29,Tryz.ntmps29;go_wp2_with fail;go_ret;exact ⟨rfl,(AD _ _).alloc (AC _) _⟩
 · have hb1:=(AD w.heap.size w).alloc (AC _) (.cells #[.pointer none] 126);have hrow:=AF w (.cells #[.pointer none] 126);have HE:=JY (hE.below hb1);have yF:2<w.heap.size:=B5 w ⟨2,0,none⟩ hT;have HT:Hid (afY (w.alloc (.cells #[.pointer none] 126))):=JY ((hb1.cell (p:=⟨2,0,none⟩) yF).trans hT);obtain ⟨u,hu⟩:∃ u,w.alloc (.cells #[.pointer none] 126)=u:=⟨_,rfl⟩
   rw[hu] at hb1 hrow HE HT;obtain ⟨k,hk⟩:=hV;have hV1:ahL B u (.iface ty (.pointer (some ⟨q,0,none⟩))) r:=⟨k,Om.kept (fun k _ hk=>hb1.block k hk) hk⟩;have cj:=JY (xis a b b B _ r h1 u HE.out hV1 (.inr rfl));have aM:=JY (xis a b a B _ r h1 u HE.out hV1 (.inl rfl));have t0:=(JZ hrow 0).trans (show _=some (.pointer none) from rfl);have HA:=JY (xas ⟨w.heap.size,0,none⟩ B _ r u rfl HT.out hV1 t0 (J2 hrow 0));have g0:u.cell? ⟨0,0,none⟩=some (.iface 398 (.pointer (some a))):=HE.out.nothing;have g1:u.cell? ⟨1,0,none⟩=some (.iface 398 (.pointer (some b))):=HE.out.power;have hne:=HE.out.ne;have bw:u.heap.size=w.heap.size+1:=by rw[<- hu];simp
   have ag:=JY hb1;have HU:=JY hu;clear hv hk hV1 hE hT hb1 hrow;go_enter Tryz.func29,Tryz.ntmps29;rcases h1 with rfl | rfl
   · go_wp2_with fail;refine cj.out.mono ?_;rintro e w1 ⟨rfl,hw⟩;have hw':=hw.symm;subst hw';clear hw hu;go_wp2_with fail;refine aM.out.mono ?_;rintro e w1 ⟨rfl,hw⟩;have hw':=hw.symm;subst hw';clear hw;go_wp2_with fail;refine HA.out.mono ?_;rintro e w2 ⟨rfl,fb,q1,q2,q3⟩;have eZ:=JY q3;clear q3;go_wp2_with fail;go_ret;exact ⟨rfl,ag.out.trans (eZ.out.toBelow (by omega) (fun k hk e=>by omega))⟩
   · go_wp2_with fail;refine cj.out.mono ?_;rintro e w1 ⟨rfl,hw⟩;have hw':=hw.symm;subst hw';clear hw hu;go_wp2_with fail;go_ret;exact ⟨rfl,ag.out⟩
end
section
open Go.RowKit
open Hv (S Dx Tk Turn Ns Zl All Has)
theorem YW.drop{D C':Nat->Prop} {w':World} (h:YW D C C' w w') (hD:∀ k,D k->w.heap.size<=k):Gr C C' w w':=⟨h.1.mono (AC _) fun k hk q=>q.elim id fun q=>by have:=hD k q;omega,h.2⟩
theorem ajf{d:Dx} (hn:0<n) (hlen:d.now.length=n) (hm:∀ i,d.may.getD i []=[]) (hl:d.may.length=d.now.length):Has n (Z4 d 0 0 0 (short KH [])).now 0 [] 0/\All (Z4 d 0 0 0 (short KH [])) fun im=>im=d.now\/Has n im 0 [] 0:=by
 have hr:Has n (d.now.set 0 (MK (Nb 0 ([]:S).length 0 (short KH [])))) 0 [] 0:=Hv.acj hlen hn (by omega) (by simp) (fun j hj=>by simp at hj);refine ⟨hr,?_⟩;have h0:All d fun im=>im=d.now:=Hv.Qr hm rfl
 refine (h0.imp (Q':=fun im=>im=d.now\/im=d.now.set 0 (MK (Nb 0 ([]:S).length 0 (short KH [])))) fun im q => .inl q).write (by omega) hl (fun im _ q => ?_) |>.imp fun im q => ?_
 · rcases q with rfl | rfl
   · exact .inr rfl
   · exact .inr (by rw[List.set_set];rfl)
 · rcases q with rfl | rfl
   · exact .inl rfl
   · exact .inr hr
theorem ak5{d:Dx} (db n:Nat) (hn:0<n) (hlen:d.now.length=n) (aW:∀ i,d.may.getD i []=[]) (au:d.calls+100<1000000000000)
 (w:World) (hd:Kq C db d w) (hbs:Base w) (bt:∀ k,C k->12<=k) :
 Calls Tryz.prog 51 #[.agg (M7 db n)] w fun e w'=>∃ v,e = .returned v/\∃ d' C' r,EV w.heap.size w' v r/\Ns d d' r 8/\Kq C' db d' w'/\Gr C C' w w'/\((r=0/\Md n 0 [] 0 d')\/(r≠0/\All d' fun im=>im=d.now\/Has n im 0 [] 0)):=by
 have HD:=JY hd;have aJ:=JY hbs;have bD:=JY bt;have HM:=JY aW;have HL:=JY hlen;have hlt:=JY hd.lt;have hrb:=JY hd.rb.2;have cW:=hbs.size;clear hd hbs bt aW hlen;unfold M7;go_enter Tryz.func51,Tryz.ntmps51;go_wp2_with fail;have hS1:KA (w.heap.size+1) db n 0 0 0 [] ((w.alloc (.cells (M7 db n) 123)).alloc (.cells #[.iface 24 (.pointer (some ⟨db,0,none⟩)), .int .i64 n, .int .i64 0, .int .i64 0, .int .i64 0, .string ⟨#[]⟩] 161)):=by
  have:=AF (w.alloc (.cells (M7 db n) 123)) (.cells #[.iface 24 (.pointer (some ⟨db,0,none⟩)), .int .i64 n, .int .i64 0, .int .i64 0, .int .i64 0, .string ⟨#[]⟩] 161);unfold KA;simpa using this
 have ag:=JY (((AD w.heap.size w).alloc (AC _) (.cells (M7 db n) 123)).alloc (by simp) (.cells #[.iface 24 (.pointer (some ⟨db,0,none⟩)), .int .i64 n, .int .i64 0, .int .i64 0, .int .i64 0, .string ⟨#[]⟩] 161));have fF:=JY hS1;have aI:=JY (aJ.out.below ag.out cW);clear hS1;refine (Yt 0 [] (by simp) _ aI.out).mono ?_;rintro e w2 ⟨rfl,hb2⟩;have bq:=JY (fF.out.below hb2);have ah:=JY (ag.out.trans (hb2.mono (by simp;omega)));have aK:=JY (HD.out.below ah.out);have jb:=JY (aJ.out.below ah.out cW);have hs2:=hb2.size;simp at hs2;have i7 : ¬ C (w.heap.size+1)/\w.heap.size+1≠d.rb:=⟨fun q=>by have:=hlt.out _ q;omega,by have:=hrb.out;omega⟩;clear hb2 fF ag aI;go_wp2_with fail;refine (abw (C:=C) (d:=d) (w.heap.size+1) db n 0 0 0 0 ([]:S).length 0 [] (short KH []) (by omega) (by simp) (by omega) (Sz []) (by rw[HL.out];exact hn) (by rw[HM.out];simp) (by omega) w2 bq.out aK.out i7 jb.out bD.out).mono ?_;rintro e w3 ⟨v3,rfl,d3,C3,r3,q1,q2,q3,q4,q5⟩;have cZ:=JY ((((Gr.refl C w).below ah.out).d.trans q4).drop (fun k q=>by omega));have jM:=JY (q1.base (show w.heap.size<=_ by omega));have dv:=JY q2;have lO:=JY q3;have eZ:=JY q5;clear q1 q2 q3 q4 q5;go_wp2_with fail;refine (Pe _ w.heap.size v3 r3 w3 jM.out cZ.out.1.size).mono ?_;rintro e w4 ⟨v4,rfl,q1,q2⟩;have iX:=JY q1;have aB:=JY q2;clear q1 q2;go_wp2_with fail;go_ret;have hrt:=ajf hn HL.out HM.out HD.out.few.2;refine ⟨v4,rfl,d3,C3,r3,iX.out,dv.out,lO.out.below aB.out,cZ.out.below aB.out,?_⟩;rcases eZ.out with ⟨h0,h1, -⟩ | ⟨h0,h1⟩
 · obtain ⟨k1,k2, -⟩:=Hv.Ml h1;exact .inl ⟨h0,fun i=>by rw[k2];exact Hv.NQ _ i,by rw[k1];exact hrt.1,(dv.out.ok h0).1⟩
 · refine .inr ⟨h0,?_⟩;rcases h1 with h1 | h1
   · exact (Hv.Qr (Q:=fun im=>im=d.now\/Has n im 0 [] 0) HM.out (.inl rfl)).core h1
   · exact hrt.2.core h1
theorem U5{d:Dx} (w:World) (h:Kq C db d w) :
 Calls Tryz.prog 47 #[SN db] w fun e w'=>e = .returned (.agg (M7 db d.now.length))/\Below w.heap.size w w':=by
 have HD:=JY h;clear h;unfold SN;have hm:=UL db;go_enter Tryz.func47,Tryz.ntmps47;go_wp2_with (go_at_call 342;refine (adz _ (HD.out.alloc _)).mono ?_;rintro e w1 ⟨rfl,rfl⟩)
 refine IH (v := .agg (M7 db d.now.length)) (by simp[results,Tryz.results47,go_sem,M7]) rfl ⟨rfl,?_⟩;exact (AD _ _).alloc (AC _) _
theorem ajG{d:Dx} (hn:0<n) (hlen:d.now.length=n) (aW:∀ i,d.may.getD i []=[]) (au:d.calls+100<1000000000000)
 (w:World) (hd:Kq C db d w) (hbs:Base w) (bt:∀ k,C k->12<=k) :
 Calls Tryz.prog 30 #[SN db] w fun e w'=>∃ v,e = .returned v/\∃ d' C' r,EV w.heap.size w' v r/\Ns d d' r 8/\Kq C' db d' w'/\Gr C C' w w'/\((r=0/\Md n 0 [] 0 d')\/(r≠0/\All d' fun im=>im=d.now\/Has n im 0 [] 0)):=by
 have HD:=JY hd;have aJ:=JY hbs;have bD:=JY bt;have HM:=JY aW;have HL:=JY hlen;clear hd hbs bt aW hlen;go_enter Tryz.func30,Tryz.ntmps30;go_wp2_with fail;refine (U5 w HD.out).mono ?_;rintro e w1 ⟨rfl,hb1⟩;have bH:=JY (HD.out.below hb1);have aI:=JY (aJ.out.below hb1 aJ.out.size);have aZ:=JY ((Gr.refl C w).below hb1);clear hb1;rw[HL.out];go_wp2_with fail;refine (ak5 db n hn HL.out HM.out au w1 bH.out aI.out bD.out).mono ?_;rintro e w2 ⟨v2,rfl,d2,C2,r2,q1,q2,q3,q4,q5⟩;have bY:=JY (q1.base aZ.out.1.size);have aU:=JY q2;have aK:=JY q3;have HG2:=JY (aZ.out.trans q4);have bR:=JY q5;clear q1 q2 q3 q4 q5;go_wp2_with fail;refine (Pe _ w.heap.size v2 r2 w2 bY.out HG2.out.1.size).mono ?_;rintro e w3 ⟨v3,rfl,q1,q2⟩;have jM:=JY q1;have av:=JY q2;clear q1 q2;go_wp2_with fail;go_ret;exact ⟨v3,rfl,d2,C2,r2,jM.out,aU.out,aK.out.below av.out,HG2.out.below av.out,bR.out⟩
end
end Go.Proofs.YtfhmaiicimdldaaGreatDoor
