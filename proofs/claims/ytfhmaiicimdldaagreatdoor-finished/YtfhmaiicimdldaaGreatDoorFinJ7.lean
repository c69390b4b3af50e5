import Derived.Test.YtfhmaiicimdldaaGreatDoorFinJ6
import Derived.Lib.ItoaLen
set_option maxHeartbeats 1000000
set_option maxRecDepth 100000
namespace Go.Proofs.YtfhmaiicimdldaaGreatDoor
variable {B B' b b0 e g n:Nat}{a c w w' w1 wr:World}{o:Obj}{a0 a1 a2 a3 a4 a5 a6 a7 v:Value}{xs:List Value}{C C':Nat->Prop}{p:Addr}
section
open Go.RowKit
open Kw (St ME S)
variable {nm ve x:S}
theorem agH(pb q o c:Nat) (nm ve:S) (st:St) (sl:Fin 6->Value) (path z hsh:S) (n:Nat) (mx:Int) (K:Nat->Int) (w:World) (h:O9 pb nm ve st sl w) (hp0:9<=pb) (hf:st.files=[])
 (hpl:path.length<=2000) (hleft:st.left.length<=2000)
 (h1:1<=z.length) (h4:z.length<=4) (hd:Wd.QO (fun c=>(c.toNat:Int)==48) z=false) (ht:Lib.trimS z akY=[]) (ha:Lib.atoi z=some (n:Int))
 (hn:n<=st.left.length) (oz:Wd.LU path=true) (xq:Wd.under path=false) (jE:short K (st.left.take n)=hsh)
 (hm:w.cell? ⟨3,0,none⟩=some (.int .i64 mx)) (hK:∀ i:Nat,i<64->w.cell? ⟨4,i,none⟩=some (.int .u32 (K i)))
 (c0:w.cell? ⟨q,o,none⟩=some (.string ⟨path.toArray⟩)) (c1:w.cell? ⟨q,o+1,none⟩=some (.string ⟨z.toArray⟩)) (c2:w.cell? ⟨q,o+2,none⟩=some (.string ⟨hsh.toArray⟩)) :
 Calls Tryz.prog 268 #[.pointer (some ⟨pb,0,none⟩), .int .i64 4, .slice (some ⟨q,o,none⟩) 3 c] w fun e w'=>e = .returned (.bool true) /\
  ∃ sl',O9 pb nm ve { st with files:=st.files++[(path,st.left.take n)],left:=st.left.drop n } sl' w'/\Below pb w w':=by
 have H:=JY (akf pb q o c nm ve st sl path z hsh n mx K w h hp0 hf hpl hleft h1 h4 hd ht ha hn oz xq jE hm hK c0 c1 c2);clear h hm hK c0 c1 c2 jE ha ht;go_enter Tryz.func268,Tryz.ntmps268;go_wp2_with (go_at_call 301;refine H.out.mono ?_;rintro e w1 ⟨rfl,hr⟩)
 go_ret;exact ⟨rfl,hr⟩
theorem aiw:(Tryz.prog.info? 329).map (fun i=>(i.zero,i.size,i.bytes))=some (some (.agg #[.int .i64 0, .string ByteArray.empty, .string ByteArray.empty, .string ByteArray.empty]),4,56):=by kernel_rfl
theorem Y1(w:World) (a b c d:Value) (t:TypeId):∀ j u,[a,b,c,d][j]? = some u->(w.alloc (.cells #[a,b,c,d] t)).cell? ((⟨w.heap.size,0,none⟩:Addr).add j)=some u:=by
 intro j u h;have hadd:(⟨w.heap.size,0,none⟩:Addr).add j=⟨w.heap.size,j,none⟩:=by unfold Addr.add;split<;>simp_all
 rw[hadd,JZ (AF w _)];simpa using h
theorem aiF(pb g o c:Nat) (nm ve:S) (st:St) (sl:Fin 6->Value) (p q:S) (mx:Int) (w:World) (h:O9 pb nm ve st sl w) (hrl:st.runs.length<=30)
 (hq:q.length<=2000) (hp:p.length<=2000) (h1:Wd.isWord q=true) (h2:Wd.isVar p=true) (hm:w.cell? ⟨3,0,none⟩=some (.int .i64 mx))
 (hg:g<w.heap.size) (c0:w.cell? ⟨g,o,none⟩=some (.string ⟨#[97,100,100]⟩)) (c1:w.cell? ⟨g,o+1,none⟩=some (.string ⟨p.toArray⟩)) (c2:w.cell? ⟨g,o+2,none⟩=some (.string ⟨q.toArray⟩)) :
 Calls Tryz.prog 268 #[.pointer (some ⟨pb,0,none⟩), .int .i64 5, .slice (some ⟨g,o,none⟩) 3 c] w fun e w'=>e = .returned (.bool true) /\
  ∃ sl',O9 pb nm ve { st with runs:=st.runs++[⟨2,p,q,[]⟩] } sl' w'/\Below pb w w':=by
 obtain ⟨i0,hi,hz0,hz1,hz2⟩:=KJ aiw;have hlt:=h.lt;have HC:=JY (abV g o c p q hq hp h1 h2 mx w (B5 w _ hm) hm hg c0 c1 c2);have H:=JY h;clear h hm c0 c1 c2;go_enter Tryz.func268,Tryz.ntmps268;go_wp2_with (go_at_call 302;refine HC.out.mono ?_;rintro e w1 ⟨rfl,hb1⟩)
 have P4:=(H.out.below hb1).alloc (.cells #[.int .i64 2, .string ⟨p.toArray⟩, .string ⟨q.toArray⟩, .string ⟨#[]⟩] 329);have fU:=AF w1 (.cells #[.int .i64 2, .string ⟨p.toArray⟩, .string ⟨q.toArray⟩, .string ⟨#[]⟩] 329);have B4:Below pb w (w1.alloc (.cells #[.int .i64 2, .string ⟨p.toArray⟩, .string ⟨q.toArray⟩, .string ⟨#[]⟩] 329)):=(hb1.mono (Nat.le_of_lt hlt)).alloc (by have:=hb1.size;omega) _;have bw:(w1.alloc (.cells #[.int .i64 2, .string ⟨p.toArray⟩, .string ⟨q.toArray⟩, .string ⟨#[]⟩] 329)).heap.size=w1.heap.size+1:=by simp
 have hne:some w1.heap.size≠(sl 4).ownBlock:=fun e=>by have:=(((H.out.below hb1).own 4).lt _ e.symm).2;omega
 have vY:pb<w1.heap.size:=(H.out.below hb1).lt;obtain ⟨fb,kA⟩:∃ fb,w1.heap.size=fb:=⟨_,rfl⟩
 generalize hu:w1.alloc (.cells #[.int .i64 2, .string ⟨p.toArray⟩, .string ⟨q.toArray⟩, .string ⟨#[]⟩] 329)=u at *;rw[kA] at fU bw hne vY |-;clear hu kA hb1;have k5:=(JZ P4.blk 6).trans (show _=some (sl 4) from rfl);have f5:=J2 P4.blk 6;obtain ⟨l0,l1,l2,l3, -⟩:=Qu fU;obtain ⟨m,xs,hmx⟩:∃ m xs,Ku st 4=(m,xs):=⟨_,_,rfl⟩
 have fH:m<=30:=by have:=IN Prod.fst hmx;simp only[Ku] at this;omega
 have bI:=P4.own 4;rw[hmx] at bI;have kM:(u.drew).ownsRow (pb+1) 329 4 (sl 4) m xs:=bI;have dY:=JY P4;have pq:=JY fU;have aB:=JY B4;have kV:=JY hmx;have jB : ¬ fb=pb:=by omega
 have kF : ¬ pb=fb:=by omega
 clear P4 fU B4 hmx bI
 go_region_law (refine LW rfl _ _ 165 rfl (pb+1) 329 i0 _ 4 56 Tryz.underlying165 hi hz0 hz1 hz2 rfl (by decide) (sl 4) m xs rfl (kM.alloc _) ⟨u.heap.size,0,none⟩ 1 1 [_,_,_,_] (by simp[Act.eval]) rfl (Y1 _ _ _ _ _ _) (fun x hx=>by simp at hx;rcases hx with rfl | rfl | rfl | rfl<;>rfl) (by unfold maxLen;omega) (by omega) (by simp;omega) ?_;intro v' w4 hown' KF Nj RG;obtain ⟨gv,cv,rfl⟩:=Kt hown' (by omega);have hk4:=O9.kept (dY.out.drew.alloc _) 4 KF;have q5:=(JZ hk4 6).trans (show _=some (sl 4) from rfl);have g5:=J2 hk4 6;have d7:=(KF.block fb (by simp;omega) hne).trans ((AM _ _ _ (by show fb<u.heap.size;omega)).trans pq.out);have r1:=(JZ d7 0).trans (show _=some (.int .i64 2) from rfl))
 all_goals
  have gI:Ku { st with runs:=st.runs++[⟨2,p,q,[]⟩] } 4=(m+1,xs++[.int .i64 2, .string ⟨p.toArray⟩, .string ⟨q.toArray⟩, .string ⟨#[]⟩]):=by
   have:=kV.out;simp only[Ku,Prod.mk.injEq] at this |-;rw[<- this.1,<- this.2];simp[Us,Kl]
  have hown2:w4.ownsRow (pb+1) (pty 4) (psz 4) (.slice (some ⟨gv,0,none⟩) (m+1) cv) (Ku { st with runs:=st.runs++[⟨2,p,q,[]⟩] } 4).1 (Ku { st with runs:=st.runs++[⟨2,p,q,[]⟩] } 4).2:=by rw[gI];exact hown'
  have eJ:=JY (O9.put (dY.out.drew.alloc _) 4 KF hown2 RG (fun j hj=>by
   match j,hj with
   | 0,_=>rfl
   | 1,_=>rfl
   | 2,_=>rfl
   | 3,_=>rfl
   | 4,h=>exact absurd rfl h
   | 5,_=>rfl) rfl)
  have bf:Hid (Below pb w (w4.setCell ⟨pb,6,none⟩ (.slice (some ⟨gv,0,none⟩) (m+1) cv))):=JY (((show Below pb w w4 from ((aB.out.drew.alloc (by show pb<=u.heap.size;omega) _).grown KF (by simp;omega) (fun k hk=>by have:=((dY.out.own 4).lt k hk).1;omega)))).setCell (p:=⟨pb,6,none⟩) (AC pb) _);clear hown2 gI hown' KF Nj RG hk4 d7;go_wp2_with fail;go_ret;exact ⟨rfl,_,eJ.out,bf.out⟩
theorem aad(d:UInt8) (x:S) (hx:x.length<=2000) (mx:Int) (w:World) (hm:w.cell? ⟨3,0,none⟩=some (.int .i64 mx)) :
 Calls Tryz.prog 157 #[.string ⟨x.toArray⟩, .string ⟨#[d]⟩] w fun e w'=>e = .returned (.slice (some ⟨w.heap.size,0,none⟩) (sp d x).length (sp d x).length)/\w'=w.alloc (.cells ((sp d x).map Kl).toArray 9):=by
 refine (Tryz.strings_Split ⟨x.toArray⟩ ⟨#[d]⟩ mx w (by simp[ByteArray.size];omega) hm (AC 1)).mono ?_;rintro e w' ⟨he,hw⟩;rw[Zz] at he;refine ⟨he,?_⟩;rw[hw,VK,Hb];rfl
def WU (x:S):Int:=kd ((sp 32 x).getD 0 [])
def ZL (L:List S):Nat->Int
 | 0=>0
 | k+1=>WU (L.getD k [])
def Xj (pb:Nat) (nm ve:S) (st:Nat->St) (x:S) (k:Nat) (w:World):Prop :=
 ∀ (sl:Fin 6->Value) (w1:World),O9 pb nm ve (st k) sl w1->Below pb w w1->∀ q,q<w1.heap.size->(∀ j,j<(sp 32 x).length->w1.cell? ⟨q,j,none⟩=some (Kl ((sp 32 x).getD j []))) ->
   Calls Tryz.prog 268 #[.pointer (some ⟨pb,0,none⟩), .int .i64 (WU x), .slice (some ⟨q,1,none⟩) ((sp 32 x).length-1) ((sp 32 x).length-1)] w1
    fun e w2=>e = .returned (.bool true)/\∃ sl',O9 pb nm ve (st (k+1)) sl' w2/\Below pb w1 w2
theorem aks{pb:Nat}  {st:Nat->St}  {k:Nat} {z:Int}  {sl:Fin 6->Value} {q:Nat} (h:Hid (Xj pb nm ve st x k w)) (hz:Hid (WU x=z)) (hn:Hid ((sp 32 x).length=n)) (hp:O9 pb nm ve (st k) sl w1) (hb:Below pb w w1)
 (hq:q<w1.heap.size) (hc:∀ j,j<(sp 32 x).length->w1.cell? ⟨q,j,none⟩=some (Kl ((sp 32 x).getD j []))) :
 Calls Tryz.prog 268 #[.pointer (some ⟨pb,0,none⟩), .int .i64 z, .slice (some ⟨q,1,none⟩) (n-1) (n-1)] w1
  fun e w2=>e = .returned (.bool true)/\∃ sl',O9 pb nm ve (st (k+1)) sl' w2/\Below pb w1 w2:=by
 have:=h.out sl w1 hp hb q hq hc
 rwa [hz.out,hn.out] at this
theorem acO{d:UInt8}   (hw:w1=wr.alloc (.cells ((sp d x).map Kl).toArray 9)):∀ j,j<(sp d x).length->w1.cell? ⟨wr.heap.size,j,none⟩=some (Kl ((sp d x).getD j [])):=by
 intro j hj;subst hw;rw[JZ (AF wr _)];simp[List.getD,B9 hj]
theorem adb(hw:w1=wr.alloc o):Below wr.heap.size wr w1/\w1.heap.size=wr.heap.size+1:=by
 subst hw;exact ⟨(AD _ wr).alloc (AC _) _,by simp⟩
theorem ajZ(pb lg lo lc:Nat) (nm ve:S) (st:Nat->St) (L:List S) (mx:Int) (sl:Fin 6->Value) (w:World) (h:O9 pb nm ve (st 0) sl w) (hp0:9<=pb) (kD:lg<pb) (hL:L.length<=21) (hll:∀ x∈L,x.length<=2000)
 (hm:w.cell? ⟨3,0,none⟩=some (.int .i64 mx)) (hc:∀ k,k<L.length->w.cell? ⟨lg,lo+k,none⟩=some (Kl (L.getD k [])))
 (gB:∀ k,k<L.length->WU (L.getD k [])≠0/\ZL L k<=WU (L.getD k [])) (hlen:∀ k,k<L.length->2<=(sp 32 (L.getD k [])).length)
 (gD:∀ k,k<L.length->Xj pb nm ve st (L.getD k []) k w) :
 Calls Tryz.prog 217 #[.pointer (some ⟨pb,0,none⟩), .slice (some ⟨lg,lo,none⟩) L.length lc] w fun e w'=>e = .returned (.bool true)/\∃ sl',O9 pb nm ve (st L.length) sl' w'/\Below pb w w':=by
 have H:=JY h;have HM:=JY hm;have HC:=JY hc;have HK:=JY gB;have eH:=JY hlen;have jX:=JY gD;have hlt:=h.lt;clear h hm hc gB hlen gD;go_enter Tryz.func217,Tryz.ntmps217;go_wp2_with fail;go_loopw [5,12] (fun l i wr=>∃ (k:Nat) (sl:Fin 6->Value),k<=L.length/\i = .int .i64 k/\l = .int .i64 (ZL L k)/\Hid (O9 pb nm ve (st k) sl wr)/\Hid (Below pb w wr))
  (fun _ i _=>L.length-(intOf i).toNat)
 case atStart=>exact ⟨0,sl,Bs _,rfl,rfl,H,JY (AD _ _)⟩
 case round =>
  clear H;obtain ⟨k,sl,hk,rfl,rfl,HP,HB⟩:=hrel;by_cases hlt2:k<L.length
  · have b1:(k:Int)<(L.length:Int):=by omega
    have hcell:=(HB.out.cell (p:=⟨lg,lo+k,none⟩) kD).trans (HC.out k hlt2);obtain ⟨x,hx⟩:∃ x,L.getD k []=x:=⟨_,rfl⟩
    have hxl:x.length<=2000:=by
     rw[<- hx,List.getD,B9 hlt2];exact hll _ (B1 hlt2)
    have hk1:=HK.out k hlt2;have eP:=eH.out k hlt2;have BC:=jX.out k hlt2;rw[hx] at hcell hk1 eP BC;have Bg:wr.cell? ⟨lg,lo+k,none⟩=some (.string ⟨x.toArray⟩):=hcell;obtain ⟨z,hz⟩:∃ z,WU x=z:=⟨_,rfl⟩
    rw[hz] at hk1;have hlast:ZL L (k+1)=z:=by rw[ZL,hx,hz]
    obtain ⟨l0,hl0⟩:∃ l0,ZL L k=l0:=⟨_,rfl⟩
    rw[hl0] at hk1 |-;have z0:(z==0)=false:=by simp[hk1.1]
    have z1 : ¬ z<l0:=by omega
    obtain ⟨n,hn⟩:∃ n,(sp 32 x).length=n:=⟨_,rfl⟩
    rw[hn] at eP;have HX:=JY hx;have HZ:=JY hz;have xZ:=JY BC;have HN:=JY hn;have tX:=JY hlast;have hbs:=HB.out.size;have hm2:wr.cell? ⟨3,0,none⟩=some (.int .i64 mx):=(HB.out.cell (p:=⟨3,0,none⟩) (by show 3<pb;omega)).trans HM.out;have cI:=JY hm2;clear hx hz BC hn hlast hcell hk1 hm2 hl0;obtain ⟨x0,hx0⟩:∃ x0,(sp 32 x).getD 0 []=x0:=⟨_,rfl⟩
    have Ay:=JY hx0;have Gc:Hid (kd x0=z):=JY (by rw[<- hx0];exact HZ.out);clear hx0;have yN : ¬ n=1:=by omega
    go_wp2_with (first
     | (go_at_call 157;refine (aad 32 x hxl mx _ cI.out).mono ?_;rintro e w1 ⟨he,hw1⟩;rw[HN.out] at he;subst he;have HQ:=JY (acO hw1);have q0:w1.cell? ⟨wr.heap.size,0,none⟩=some (.string ⟨x0.toArray⟩):=(HQ.out 0 (by rw[HN.out];omega)).trans (by rw[Ay.out];rfl);have ag:=JY (adb hw1);clear hw1)
     | (go_at_call 267;refine (aee x0 _).mono ?_;rintro e w2 ⟨he,rfl⟩;rw[Gc.out] at he;subst he)
     | (go_at_call 268;refine (aks xZ HZ HN (HP.out.below ag.out.1) (HB.out.trans (ag.out.1.mono (Nat.le_of_lt HP.out.lt))) (by have:=ag.out.2;omega) HQ.out).mono ?_;rintro e w3 ⟨rfl,IU,m8,hb3⟩))
    go_roundw
    case rel =>
     exact ⟨k+1,IU,by omega,by go_num,by rw[tX.out],JY m8,JY ((HB.out.trans (ag.out.1.mono (Nat.le_of_lt HP.out.lt))).trans hb3)⟩
    case measure=>simp[intOf];omega
  · obtain rfl:k=L.length:=by omega
    go_wp2_with fail;go_ret;exact ⟨rfl,sl,HP.out,HB.out⟩
theorem XF(x p:S) (w:World) :
 Calls Tryz.prog 156 #[.string ⟨x.toArray⟩, .string ⟨p.toArray⟩] w fun e w'=>e = .returned (.tuple #[.string ⟨(Lib.trimPrefix x p).toArray⟩, .bool (Lib.hasPrefix x p)])/\w'=w :=
 Tryz.strings_CutPrefix ⟨x.toArray⟩ ⟨p.toArray⟩ w
theorem akl(pb lg c:Nat) (st:St) (sl:Fin 6->Value) (b d nm ve:S) (w:World) (h:O9 pb [] [] st sl w) (kD:lg<w.heap.size) (hne:lg≠pb) (hnl:nm.length<=2000)
 (c0:w.cell? ⟨lg,0,none⟩=some (.string ⟨#[104,97,118,101,110,32,49]⟩)) (c1:w.cell? ⟨lg,1,none⟩=some (.string ⟨b.toArray⟩)) (c2:w.cell? ⟨lg,2,none⟩=some (.string ⟨d.toArray⟩))
 (hb1:Lib.hasPrefix b [110,97,109,101,32]=true) (hb2:Lib.trimPrefix b [110,97,109,101,32]=nm) (hd1:Lib.hasPrefix d [118,101,114,115,105,111,110,32]=true) (hd2:Lib.trimPrefix d [118,101,114,115,105,111,110,32]=ve)
 (hn:Wd.isName nm=true) (hv:J8.fine ve=true) :
 Calls Tryz.prog 216 #[.pointer (some ⟨pb,0,none⟩), .slice (some ⟨lg,0,none⟩) 3 c] w fun e w'=>e = .returned (.bool true)/\O9 pb nm ve st sl w'/\Below pb w w':=by
 have k0:=(JZ h.blk 0).trans (show _=some (.string ⟨#[]⟩) from rfl);have k1:=(JZ h.blk 1).trans (show _=some (.string ⟨#[]⟩) from rfl);have f0:=J2 h.blk 0;have f1:=J2 h.blk 1;have hlt:=h.lt;have jB : ¬ pb=lg:=fun e=>hne e.symm
 have H:=JY (h.names nm ve);have HB:Hid (Below pb w ((w.setCell ⟨pb,0,none⟩ (Kl nm)).setCell ⟨pb,1,none⟩ (Kl ve))):=JY (((AD pb w).setCell (p:=⟨pb,0,none⟩) (AC pb) _).setCell (p:=⟨pb,1,none⟩) (AC pb) _);clear h;go_enter Tryz.func216,Tryz.ntmps216;go_wp2_with fail;refine (XF b [110,97,109,101,32] _).mono ?_;rintro e w1 ⟨he,rfl⟩;rw[hb1,hb2] at he;subst he;go_wp2_with fail;refine (XF d [118,101,114,115,105,111,110,32] _).mono ?_;rintro e w1 ⟨he,rfl⟩;rw[hd1,hd2] at he;subst he;clear hb1 hb2 hd1 hd2;go_wp2_with (first
  | (go_at_call 227;refine (TI nm hnl _).mono ?_;rintro e w3 ⟨rfl,iG⟩)
  | (go_at_call 266;refine (Y9 ve _).mono ?_;rintro e w4 ⟨rfl,kx⟩))
 go_ret;exact ⟨rfl,(H.out.below iG).below kx,HB.out.trans ((iG.trans (kx.mono iG.size)).mono (Nat.le_of_lt H.out.lt))⟩
theorem aj3(x u v:S) (hx:x.length<=2000) (h:KI x=some (u,v)) (mx:Int) (w:World) (hm:w.cell? ⟨3,0,none⟩=some (.int .i64 mx)) :
 Calls Tryz.prog 52 #[.string ⟨x.toArray⟩, .string ⟨#[10,10]⟩] w fun e w'=>e = .returned (.tuple #[.string ⟨u.toArray⟩, .string ⟨v.toArray⟩, .bool true])/\Below w.heap.size w w'/\w'.heap.size=w.heap.size:=by
 refine (Tryz.strings_Cut ⟨x.toArray⟩ ⟨#[10,10]⟩ mx w (by simp[ByteArray.size];omega) hm).mono ?_;rintro e w' ⟨he,n,rfl⟩;have hc:=adO x;rw[h] at hc;refine ⟨?_,below_drewN (AD _ _) n,rfl⟩;rw[he];show Ending.returned (.tuple #[.string ⟨(Lib.cut x [10,10]).1.toArray⟩, .string ⟨(Lib.cut x [10,10]).2.1.toArray⟩, .bool (Lib.cut x [10,10]).2.2])=_;rw[hc]
theorem O9.begin(w:World) (x:S):O9 w.heap.size [] [] (.of x) (fun _ => .slice none 0 0) (w.alloc (.cells #[.string ⟨#[]⟩, .string ⟨#[]⟩, .slice none 0 0, .slice none 0 0, .slice none 0 0, .slice none 0 0, .slice none 0 0, .slice none 0 0, .string ⟨x.toArray⟩] 320)):=by
 refine ⟨AF w _,fun i => ?_,fun i j _ g hg=>by cases hg⟩
 match i with
 | 0=>exact Cf _ _ _ _
 | 1=>exact Cf _ _ _ _
 | 2=>exact Cf _ _ _ _
 | 3=>exact Cf _ _ _ _
 | 4=>exact Cf _ _ _ _
 | 5=>exact Cf _ _ _ _
theorem agO{t:TypeId} {a8:Value} (h:w.heap[b]? = some (.cells #[a0,a1,a2,a3,a4,a5,a6,a7,a8] t (0,0))) :
 w.cell? ⟨b,0,none⟩=some a0/\w.cell? ⟨b,1,none⟩=some a1/\w.cell? ⟨b,2,none⟩=some a2/\w.cell? ⟨b,3,none⟩=some a3/\w.cell? ⟨b,4,none⟩=some a4/\w.cell? ⟨b,5,none⟩=some a5/\w.cell? ⟨b,6,none⟩=some a6/\w.cell? ⟨b,7,none⟩=some a7/\w.cell? ⟨b,8,none⟩=some a8 :=
 ⟨(JZ h 0).trans rfl,(JZ h 1).trans rfl,(JZ h 2).trans rfl,(JZ h 3).trans rfl,(JZ h 4).trans rfl,(JZ h 5).trans rfl,(JZ h 6).trans rfl,(JZ h 7).trans rfl,(JZ h 8).trans rfl⟩
theorem ZB{t:TypeId}  (h:w.heap[b]? = some (.cells #[a0,a1,a2,a3,a4,a5,a6,a7] t (0,0))) :
 w.cell? ⟨b,0,none⟩=some a0/\w.cell? ⟨b,1,none⟩=some a1/\w.cell? ⟨b,2,none⟩=some a2/\w.cell? ⟨b,3,none⟩=some a3/\w.cell? ⟨b,4,none⟩=some a4/\w.cell? ⟨b,5,none⟩=some a5/\w.cell? ⟨b,6,none⟩=some a6/\w.cell? ⟨b,7,none⟩=some a7
 /\ w.frozen? ⟨b,0,none⟩=false/\w.frozen? ⟨b,1,none⟩=false/\w.frozen? ⟨b,2,none⟩=false/\w.frozen? ⟨b,3,none⟩=false/\w.frozen? ⟨b,4,none⟩=false/\w.frozen? ⟨b,5,none⟩=false/\w.frozen? ⟨b,6,none⟩=false/\w.frozen? ⟨b,7,none⟩=false :=
 ⟨(JZ h 0).trans rfl,(JZ h 1).trans rfl,(JZ h 2).trans rfl,(JZ h 3).trans rfl,(JZ h 4).trans rfl,(JZ h 5).trans rfl,(JZ h 6).trans rfl,(JZ h 7).trans rfl,J2 h 0,J2 h 1,J2 h 2,J2 h 3,J2 h 4,J2 h 5,J2 h 6,J2 h 7⟩
theorem agr{w0:World}  {t:TypeId}  (n0 n1 n2 n3 n4 n5 n6 n7:Value) (h:wr.heap[b]? = some (.cells #[a0,a1,a2,a3,a4,a5,a6,a7] t (0,0))) (hb:Below w0.heap.size w0 wr) (hlt:w0.heap.size<=b) :
 VX w0 wr b t #[n0,n1,n2,n3,n4,n5,n6,n7] ((((((((wr.setCell ⟨b,0,none⟩ n0).setCell ⟨b,1,none⟩ n1).setCell ⟨b,2,none⟩ n2).setCell ⟨b,3,none⟩ n3).setCell ⟨b,4,none⟩ n4).setCell ⟨b,5,none⟩ n5).setCell ⟨b,6,none⟩ n6).setCell ⟨b,7,none⟩ n7):=by
 have g:VX w0 wr b t _ wr:=⟨h,hb,fun _ _=>rfl,rfl⟩;have g8:=(((((((g.set hlt 0 n0).set hlt 1 n1).set hlt 2 n2).set hlt 3 n3).set hlt 4 n4).set hlt 5 n5).set hlt 6 n6).set hlt 7 n7;have e:((((((((#[a0,a1,a2,a3,a4,a5,a6,a7]:Array Value).setIfInBounds 0 n0).setIfInBounds 1 n1).setIfInBounds 2 n2).setIfInBounds 3 n3).setIfInBounds 4 n4).setIfInBounds 5 n5).setIfInBounds 6 n6).setIfInBounds 7 n7 = #[n0,n1,n2,n3,n4,n5,n6,n7]:=by simp
 rw[e] at g8;exact g8
structure aln (w:World) (x head contents:S) (w1:World):Prop where
 out:w1.heap[w.heap.size]? = some (.cells #[.string ⟨#[]⟩, .string ⟨#[]⟩, .slice none 0 0, .slice none 0 0, .slice none 0 0, .slice none 0 0, .slice none 0 0, .slice none 0 0] 167 (0,0))
 lines:w1.heap[w.heap.size+1]? = some (.cells ((sp 10 head).map Kl).toArray 9 (0,0))
 par:O9 (w.heap.size+1+1) [] [] (.of contents) (fun _ => .slice none 0 0) w1
 K7:Below w.heap.size w w1
 siz:w1.heap.size=w.heap.size+3
theorem aln.begin(w w1:World) (x head contents:S)  (ho:o = .cells #[.string ⟨#[]⟩, .string ⟨#[]⟩, .slice none 0 0, .slice none 0 0, .slice none 0 0, .slice none 0 0, .slice none 0 0, .slice none 0 0] 167)
 (hb:Below (w.alloc o).heap.size (w.alloc o) w1) (hs:w1.heap.size=(w.alloc o).heap.size) :
 aln w x head contents ((w1.alloc (.cells ((sp 10 head).map Kl).toArray 9)).alloc (.cells #[.string ⟨#[]⟩, .string ⟨#[]⟩, .slice none 0 0, .slice none 0 0, .slice none 0 0, .slice none 0 0, .slice none 0 0, .slice none 0 0, .string ⟨contents.toArray⟩] 320)):=by
 subst ho;have e0:∀ (u:World) (q:Obj),(u.alloc q).heap.size=u.heap.size+1:=fun u q=>by simp
 rw[e0] at hs hb;have hp:=O9.begin (w1.alloc (.cells ((sp 10 head).map Kl).toArray 9)) contents;rw[e0,hs] at hp;refine ⟨?_,?_,hp,?_,by rw[e0,e0,hs]⟩
 · rw[AM _ _ _ (by rw[e0];omega),AM _ _ _ (by omega),hb.block _ (by omega),AF]
 · rw[AM _ _ _ (by rw[e0];omega),<- hs,AF]
 · exact ((((AD _ w).alloc (AC _) _).trans (hb.mono (by omega))).alloc (by omega) _).alloc (by rw[e0];omega) _
theorem J4{base size:Nat} {t:TypeId}    (h:w.ownsRow base t size v n xs):∃ ao c,v = .slice ao n c:=by
 rcases h.2 with ⟨h1,rfl⟩ | ⟨g,cap,_,h1,_⟩
 · exact ⟨none,0,h1⟩
 · exact ⟨_,cap,h1⟩
theorem amg{w4 w5:World}  {st:St} {sl:Fin 6->Value} {t:TypeId} {cs:Array Value} (h:O9 (w.heap.size+1+1) nm ve st sl w4) (R:VX w w4 w.heap.size t cs w5) (i:Fin 6) :
 w5.ownsRow w.heap.size (pty i) (psz i) (sl i) (Ku st i).1 (Ku st i).2:=by
 have ho:=h.own i;refine ⟨ho.1,?_⟩;rcases ho.2 with hn | ⟨g,cap,cur,hv,hg,hgg,rest⟩
 · exact .inl hn
 · exact .inr ⟨g,cap,cur,hv,by omega,by rw[R.oth g (by omega)];exact hgg,rest⟩
theorem Xq(x head contents b d nm ve:S) (L:List S) (st:Nat->St) (mx:Int) (w:World) (hx:x.length<=2000) (hcut:KI x=some (head,contents)) (Br:head.length<=2000)
 (iJ:sp 10 head=[104,97,118,101,110,32,49]::b::d::L) (hL:L.length<=21) (vh:1<=L.length) (hll:∀ y∈L,y.length<=2000) (hnl:nm.length<=2000) (kL:9<=w.heap.size)
 (hb1:Lib.hasPrefix b [110,97,109,101,32]=true) (hb2:Lib.trimPrefix b [110,97,109,101,32]=nm) (hd1:Lib.hasPrefix d [118,101,114,115,105,111,110,32]=true) (hd2:Lib.trimPrefix d [118,101,114,115,105,111,110,32]=ve)
 (hn:Wd.isName nm=true) (hv:J8.fine ve=true) (hm:w.cell? ⟨3,0,none⟩=some (.int .i64 mx))
 (hst:st 0 = .of contents) (gB:∀ k,k<L.length->WU (L.getD k [])≠0/\ZL L k<=WU (L.getD k [])) (hlen:∀ k,k<L.length->2<=(sp 32 (L.getD k [])).length)
 (gD:∀ w1,Below w.heap.size w w1->∀ k,k<L.length->Xj (w.heap.size+1+1) nm ve st (L.getD k []) k w1) (hleft:(st L.length).left=[]) :
 Calls Tryz.prog 164 #[.string ⟨x.toArray⟩] w fun e w'=>∃ sl:Fin 6->Value,e = .returned (.tuple #[.agg #[Kl nm,Kl ve,sl 0,sl 1,sl 2,sl 3,sl 4,sl 5], .bool true]) /\
  (∀ i,w'.ownsRow w.heap.size (pty i) (psz i) (sl i) (Ku (st L.length) i).1 (Ku (st L.length) i).2)/\Below w.heap.size w w':=by
 have gx:(x.length:Int)<=2000:=by omega
 obtain ⟨n,hnn⟩:∃ n,(sp 10 head).length=n:=⟨_,rfl⟩
 have yO:n=L.length+3:=by rw[<- hnn,iJ];simp
 have h3:(3:Int)<=(n:Int):=by omega
 have DB:(n:Int)<=24:=by omega
 have hn0 : ¬ n=3:=by omega
 have HM:=JY hm;have ip:=JY hcut;have eH:=JY iJ;have tY:=JY hleft;have jX:=JY gD;have ue:=JY hnn;have HST:=JY hst;have tW:=JY gB;have HLEN:=JY hlen;have x9:=JY yO;clear hm hcut iJ hleft gD hnn hst gB hlen yO;go_enter Tryz.func164,Tryz.ntmps164;go_wp2_with (first
  | (go_at_call 52;refine (aj3 x head contents hx ip.out mx _ ?_).mono ?_; (exact (Below.cell ((AD _ w).alloc (AC _) _) (p:=⟨3,0,none⟩) (by show 3<w.heap.size;omega)).trans HM.out);rintro e w1 ⟨rfl,vA,hs1⟩;have ag:=JY vA;have fF:=JY hs1;clear vA hs1)
  | (go_at_call 157;refine (aad 10 head Br mx _ ?_).mono ?_; (exact (Below.cell (((AD _ w).alloc (AC _) _).trans (ag.out.mono (by simp))) (p:=⟨3,0,none⟩) (by show 3<w.heap.size;omega)).trans HM.out);rintro e w2 ⟨he,rfl⟩;rw[ue.out] at he;subst he))
 have uo:=JY (aln.begin w w1 x head contents rfl ag.out fF.out);have e1:w1.heap.size=w.heap.size+1:=by rw[fF.out];simp
 rw[e1];clear ag fF e1;generalize hu:(w1.alloc (.cells ((sp 10 head).map Kl).toArray 9)).alloc (.cells #[.string ⟨#[]⟩, .string ⟨#[]⟩, .slice none 0 0, .slice none 0 0, .slice none 0 0, .slice none 0 0, .slice none 0 0, .slice none 0 0, .string ⟨contents.toArray⟩] 320)=u at *;clear hu;have hsu:=uo.out.siz;have lc:∀ k,k<L.length+3->u.cell? ⟨w.heap.size+1,k,none⟩=some (Kl (([104,97,118,101,110,32,49]::b::d::L).getD k [])):=by
  intro k hk;rw[JZ uo.out.lines k,eH.out];have:k<(([104,97,118,101,110,32,49]:S)::b::d::L).length:=by simp;omega
  simp only[List.getElem?_toArray,GO,List.getD,B9 this,Option.map,Option.getD]
 refine (akl (w.heap.size+1+1) (w.heap.size+1) n (.of contents) _ b d nm ve u uo.out.par (by omega) (by omega) hnl (lc 0 (by omega)) (lc 1 (by omega)) (lc 2 (by omega)) hb1 hb2 hd1 hd2 hn hv).mono ?_;rintro e w3 ⟨rfl,m8,hb3⟩;have cK:=JY m8;have av:=JY hb3;have FI:=JY lc;clear m8 hb3 lc hb1 hb2 hd1 hd2;go_wp2_with fail;rw[show n-3=L.length from by have:=x9.out;omega];have fT:Below w.heap.size w w3:=uo.out.K7.trans (av.out.mono (by omega));have dS:=JY fT;clear fT;refine (ajZ (w.heap.size+1+1) (w.heap.size+1) 3 L.length nm ve st L mx _ w3 (by rw[HST.out];exact cK.out) (by omega) (by omega) hL hll ((dS.out.cell (p:=⟨3,0,none⟩) (by show 3<w.heap.size;omega)).trans HM.out)
  (fun k hk=>(av.out.cell (p:=⟨w.heap.size+1,3+k,none⟩) (by show w.heap.size+1<w.heap.size+1+1;omega)).trans ((FI.out (3+k) (by omega)).trans (by rw[show 3+k=k+1+1+1 from by omega];rfl))) tW.out HLEN.out (jX.out w3 dS.out)).mono ?_
 rintro e w4 ⟨rfl,IV,gG,hb4⟩;have dY:=JY gG;have zf:Hid (Below w.heap.size w w4):=JY (dS.out.trans (hb4.mono (by omega)));have BR:=(hb4.block w.heap.size (by omega)).trans ((av.out.block w.heap.size (by omega)).trans uo.out.out);have rB:=gG.blk;rw[tY.out] at rB;obtain ⟨q0,q1,q2,q3,q4,q5,q6,q7,q8⟩:=agO rB;obtain ⟨r0,r1,r2,r3,r4,r5,r6,r7,f0,f1,f2,f3,f4,f5,f6,f7⟩:=ZB BR;have rY:=JY BR;have JL:w4.cell? ⟨w.heap.size+1+1,8,none⟩=some (.string ⟨#[]⟩):=q8;have JK:w4.cell? ⟨w.heap.size+1+1,0,none⟩=some (.string ⟨nm.toArray⟩):=q0;have q1':w4.cell? ⟨w.heap.size+1+1,1,none⟩=some (.string ⟨ve.toArray⟩):=q1;obtain ⟨a0,z0,h0⟩:=J4 (gG.own 0);obtain ⟨a1,z1,h1⟩:=J4 (gG.own 1);obtain ⟨a2,z2,h2⟩:=J4 (gG.own 2);obtain ⟨a3,z3,h3'⟩:=J4 (gG.own 3);obtain ⟨a4,z4,h4⟩:=J4 (gG.own 4);obtain ⟨a5,z5,h5⟩:=J4 (gG.own 5);generalize (Ku (st L.length) 0).1=m0 at h0;generalize (Ku (st L.length) 1).1=m1 at h1;generalize (Ku (st L.length) 2).1=m2 at h2;generalize (Ku (st L.length) 3).1=m3 at h3';generalize (Ku (st L.length) 4).1=m4 at h4;generalize (Ku (st L.length) 5).1=m5 at h5;rw[h0] at q2;rw[h1] at q3;rw[h2] at q4;rw[h3'] at q5;rw[h4] at q6;rw[h5] at q7;have HE:=JY (And.intro h0 (And.intro h1 (And.intro h2 (And.intro h3' (And.intro h4 h5)))));clear gG hb4 BR rB q8 q0 q1 h0 h1 h2 h3' h4 h5;go_wp2_with fail;have R:=agr (w0:=w) (.string ⟨nm.toArray⟩) (.string ⟨ve.toArray⟩) (.slice a0 m0 z0) (.slice a1 m1 z1) (.slice a2 m2 z2) (.slice a3 m3 z3) (.slice a4 m4 z4) (.slice a5 m5 z5) rY.out zf.out (AC _);obtain ⟨u0,u1,u2,u3,u4,u5,u6,u7, -⟩:=ZB R.row;refine IH (v := .tuple #[.agg #[.string ⟨nm.toArray⟩, .string ⟨ve.toArray⟩, .slice a0 m0 z0, .slice a1 m1 z1, .slice a2 m2 z2, .slice a3 m3 z3, .slice a4 m4 z4, .slice a5 m5 z5], .bool true]) (by simp[results,Tryz.results164,go_sem,u0,u1,u2,u3,u4,u5,u6,u7]) rfl
  ⟨IV,?_,fun i=>amg dY.out R i,R.K7⟩
 obtain ⟨h0,h1,h2,h3,h4,h5⟩:=HE.out;rw[h0,h1,h2,h3,h4,h5];rfl
end
section
open Go.RowKit
theorem blt(h:w.heap[g]? = some o):g<w.heap.size:=(Array.getElem?_eq_some_iff.1 h).1
theorem NC(h:w'.heap[b]? = w.heap[b]?) (j:Nat):w'.cell? ⟨b,j,none⟩=w.cell? ⟨b,j,none⟩:=Be (a:=⟨b,j,none⟩) h
theorem PK(h:w'.heap[b]? = w.heap[b]?) (j:Nat):w'.frozen? ⟨b,j,none⟩=w.frozen? ⟨b,j,none⟩:=World.frozen?_of_block (a:=⟨b,j,none⟩) h
structure Kj (B:Nat) (C:Nat->Prop) (w w':World):Prop where
 os:w'.os=w.os
 tape:w'.tape=w.tape
 output:w'.output=w.output
 size:w.heap.size<=w'.heap.size
 block:∀ k,k<B -> ¬ C k->w'.heap[k]? = w.heap[k]?
theorem Kj.refl(B:Nat) (C:Nat->Prop) (w:World):Kj B C w w:=⟨rfl,rfl,rfl,AC _,fun _ _ _=>rfl⟩
theorem Kj.trans{b:World} (h:Kj B C a b) (k:Kj B C b c):Kj B C a c :=
 ⟨k.os.trans h.os,k.tape.trans h.tape,k.output.trans h.output,Bi h.size k.size,fun i hi hc=>(k.block i hi hc).trans (h.block i hi hc)⟩
theorem Kj.of(h:Below B' w w') (hB:B<=B'):Kj B C w w':=⟨h.os,h.tape,h.output,h.size,fun k hk _=>h.block k (by omega)⟩
theorem Kj.mono(h:Kj B C w w') (hB:B'<=B) (hC:∀ k,k<B'->C k->C' k):Kj B' C' w w':=⟨h.os,h.tape,h.output,h.size,fun k hk hc=>h.block k (by omega) (fun q=>hc (hC k hk q))⟩
theorem Kj.next{b:World} (h:Kj B C a b) (k:Kj B' C' b c) (hB:B<=B') (hC:∀ i,i<B->C' i->C i):Kj B C a c:=h.trans (k.mono hB hC)
theorem Kj.toBelow(h:Kj B C w w') (hB:B'<=B) (hC:∀ k,k<B' -> ¬ C k):Below B' w w':=⟨h.os,h.tape,h.output,h.size,fun k hk=>h.block k (by omega) (hC k hk)⟩
theorem Kj.below(h:Kj B C a w) (hb:Below B' w w') (hB:B<=B'):Kj B C a w':=h.trans (Kj.of hb hB)
theorem Kj.drew(h:Kj B C a w):Kj B C a w.drew:=⟨h.os,h.tape,h.output,h.size,h.block⟩
theorem Kj.alloc(h:Kj B C a w) (hB:B<=w.heap.size) (o:Obj):Kj B C a (w.alloc o) :=
 h.trans ⟨rfl,rfl,rfl,by simp,fun k hk _=>AM _ _ _ (by omega)⟩
theorem Kj.setCell(h:Kj B C a w)  (hp:B<=p.block\/C p.block) (u:Value):Kj B C a (w.setCell p u) :=
 h.trans ⟨rfl,rfl,rfl,by simp[World.setCell],fun k hk hc=>BY _ _ _ _ (fun e=>by
  subst e;rcases hp with hp | hp
  · omega
  · exact hc hp)⟩
theorem Kj.grown{row:Option Nat} (h:Kj B C a w) (hg:w.grownBy w' row) (hB:B<=w.heap.size) (hr:∀ k,row=some k->B<=k\/C k):Kj B C a w' :=
 h.trans ⟨hg.os,hg.tape,hg.output,hg.size,fun k hk hc=>hg.block k (by omega) (fun e=>by
  rcases hr k e.symm with h | h
  · omega
  · exact hc h)⟩
theorem Kj.cell(h:Kj B C w w')  (hp:p.block<B) (hc : ¬ C p.block):w'.cell? p=w.cell? p:=Be (w:=w) (h.block p.block hp hc)
theorem Kj.own{size:Nat}   (h:Kj B C w w') (ho:w.ownsRow b0 e size v n xs) (hB:w.heap.size<=B) (hv:∀ g,v.ownBlock=some g -> ¬ C g):w'.ownsRow b0 e size v n xs:=by
 refine ⟨ho.1,?_⟩;rcases ho.2 with ⟨rfl,rfl⟩ | ⟨g,cap,cur,rfl,h1,h2,h3⟩
 · exact .inl ⟨rfl,rfl⟩
 · exact .inr ⟨g,cap,cur,rfl,h1,(h.block g (by have:=blt h2;omega) (hv g rfl)).trans h2,h3⟩
theorem Kg{size:Nat}   (ho:w.ownsRow b0 e size v n xs) (hv:∀ g,v.ownBlock=some g->w'.heap[g]? = w.heap[g]?):w'.ownsRow b0 e size v n xs:=by
 refine ⟨ho.1,?_⟩;rcases ho.2 with ⟨rfl,rfl⟩ | ⟨g,cap,cur,rfl,h1,h2,h3⟩
 · exact .inl ⟨rfl,rfl⟩
 · exact .inr ⟨g,cap,cur,rfl,h1,(hv g rfl).trans h2,h3⟩
theorem afz{e:TypeId} {size cap:Nat}  (h:w.ownsRow B e size (.slice (some ⟨g,0,none⟩) n cap) n xs) (i:Nat) (v:Value):(w.setCell ⟨g,i,none⟩ v).ownsRow B e size (.slice (some ⟨g,0,none⟩) n cap) n (xs.set i v):=by
 refine ⟨by rw[List.length_set];exact h.1,?_⟩;rcases h.2 with ⟨h',_⟩ | ⟨g',cap',cur,h',hg,hgg,h1,h2,h3,h4⟩
 · simp at h'
 · simp only[Value.slice.injEq,Option.some.injEq,Addr.mk.injEq,and_true,true_and] at h';obtain ⟨rfl,rfl⟩:=h';refine .inr ⟨g,cap,cur.setIfInBounds i v,rfl,hg,AI _ g i _ _ v hgg,h1,h2,by rw[Array.size_setIfInBounds];exact h3,?_⟩;rw[Array.toList_setIfInBounds,List.take_set,h4]
theorem KT{e:TypeId} {size:Nat} {u:Value}  {i:Nat} (h:w.ownsRow B e size v n xs) (hn:v.ownBlock≠some g):(w.setCell ⟨g,i,none⟩ u).ownsRow B e size v n xs:=by
 refine ⟨h.1,?_⟩;rcases h.2 with h' | ⟨g',cap',cur,rfl,hg,hgg,rest⟩
 · exact .inl h'
 · refine .inr ⟨g',cap',cur,rfl,hg,?_,rest⟩;rw[BY _ _ _ _ (fun e=>hn (by rw[e];rfl))];exact hgg
theorem aa9{size c:Nat}  (h:w.ownsRow B e size (.slice (some ⟨g,0,none⟩) n c) n xs):n<=c/\c<=maxLen:=by
 rcases h.2 with ⟨h',_⟩ | ⟨g',cap,cur,h',_,_,h1,h2,_⟩
 · simp at h'
 · simp only[Value.slice.injEq,Option.some.injEq,Addr.mk.injEq,and_true,true_and] at h';obtain ⟨rfl,rfl⟩:=h';exact ⟨h1,h2⟩
namespace Hv
abbrev S:=List UInt8
structure Dk where
 now:List S
 may:List (List S)
 wr:Nat
end Hv
open Hv (S Dk)
def Strs (w:World) (v:Value) (xs:List S):Prop:=(xs=[]/\v = .slice none 0 0)\/(xs≠[]/\w.ownsRow 0 9 1 v xs.length (strs xs))
open Hv (Dk S)
theorem ad1{row:Option Nat} (h:w.drew.grownBy w' row):w.grownBy w' row:=⟨h.os,h.tape,h.output,h.size,h.block⟩
theorem aiO(w:World) (x:Value):(w.alloc (.cells #[x] 9)).ownsRow 0 9 1 (.slice (some ⟨w.heap.size,0,none⟩) 1 1) 1 [x] :=
 ⟨rfl, .inr ⟨w.heap.size,1, #[x],rfl,Bs _,AF w _,AC _,by decide,rfl,rfl⟩⟩
theorem one_cell{x:S}:∀ u∈([.string ⟨x.toArray⟩]:List Value),u.oneCell'=true:=fun u hu=>by simp at hu;subst hu;rfl
def SN (db:Nat):Value := .iface 24 (.pointer (some ⟨db,0,none⟩))
def M7 (db n:Nat):Array Value := #[.iface 24 (.pointer (some ⟨db,0,none⟩)), .int .i64 n]
theorem UL(db:Nat) (w:World):(method 539 24 (.pointer (some ⟨db,0,none⟩)) "Sectors").run Tryz.prog w = .ok (342, .pointer (some ⟨db,0,none⟩)) w:=by kernel_rfl
theorem agL(db:Nat) (w:World):(method 539 24 (.pointer (some ⟨db,0,none⟩)) "Read").run Tryz.prog w = .ok (341, .pointer (some ⟨db,0,none⟩)) w:=by kernel_rfl
theorem aer(db:Nat) (w:World):(method 539 24 (.pointer (some ⟨db,0,none⟩)) "Write").run Tryz.prog w = .ok (343, .pointer (some ⟨db,0,none⟩)) w:=by kernel_rfl
theorem aep(db:Nat) (w:World):(method 539 24 (.pointer (some ⟨db,0,none⟩)) "Flush").run Tryz.prog w = .ok (340, .pointer (some ⟨db,0,none⟩)) w:=by kernel_rfl
theorem V7(db n:Nat) (w:World) :
 Calls Tryz.prog 75 #[.agg (M7 db n)] w fun e w'=>e = .returned (.int .i64 n)/\Below w.heap.size w w':=by
 unfold M7;go_enter Tryz.func75,Tryz.ntmps75
 go_wp2
 go_ret;exact ⟨rfl,(AD _ _).alloc (AC _) _⟩
theorem aaN(args:Array Value) (w:World):(callFunc 153 args).run Tryz.prog w = .ok (.enter 153 args) w :=
 enters Tryz.func153 (by kernel_rfl) rfl args w
theorem Y6(args:Array Value) (w:World):(callFunc 199 args).run Tryz.prog w = .ok (.enter 199 args) w :=
 enters Tryz.func199 (by kernel_rfl) rfl args w
end
def afr:List Int:=[1116352408,1899447441,3049323471,3921009573,961987163,1508970993,2453635748,2870763221,3624381080,310598401,607225278,1426881987,1925078388,2162078206,2614888103,3248222580,3835390401,4022224774,264347078,604807628,770255983,1249150122,1555081692,1996064986,2554220882,2821834349,2952996808,3210313671,3336571891,3584528711,113926993,338241895,666307205,773529912,1294757372,1396182291,1695183700,1986661051,2177026350,2456956037,2730485921,2820302411,3259730800,3345764771,3516065817,3600352804,4094571909,275423344,430227734,506948616,659060556,883997877,958139571,1322822218,1537002063,1747873779,1955562222,2024104815,2227730452,2361852424,2428436474,2756734187,3204031479,3329325298]
def KH (i:Nat):Int:=afr.getD i 0
def green:List UInt8:=[103,114,101,101,110]
def bgr:Nat->Int:=blk green 0
theorem anh{b:Nat->Int} (m:Nat) {a0 a1 a9 a14 v:Int} (h0:wf b m=a0) (h1:wf b (m+1)=a1) (h9:wf b (m+9)=a9) (h14:wf b (m+14)=a14) (hv:(sS1 a14+a9+sS0 a1+a0)%4294967296=v):wf b (m+16)=v:=by
 rw[afU (by omega),show m+16-2=m+14 from by omega,show m+16-7=m+9 from by omega,show m+16-15=m+1 from by omega,show m+16-16=m from by omega,h0,h1,h9,h14,hv]
theorem ag5{r s s':R8} {F K:Nat->Int}  {k x:Int} (h:rounds r F K n=s) (hk:K n=k) (hx:F n=x) (hs:s.next k x=s'):rounds r F K (n+1)=s':=by
 rw[rounds,h,hk,hx,hs]
def wl:List Int:=[1735550309,1853882368,0,0,0,0,0,0,0,0,0,0,0,0,0,40,1954513157,1854996480,817826640,2686164698,1691234698,3164472041,3740093850,897994593,2111475704,521201968,3057116879,3465017818,3425805069,3805474055,1801757532,2367462373,2793334223,1746446893,4105480787,1086923885,1280334838,1538565388,3919867206,4277501003,4206179922,2507296791,2266619366,3890339454,2788335103,1051589052,2214892587,4272475937,2449172388,23655416,1461523427,1114527214,4044965601,1271540545,1259305009,3640841232,4172006784,3353363663,4202872592,1354819460,4229527405,1533443802,1649141725,1793790502]
def al:List Int:=[2773480762,1013904242,3144134277,1779033703,1669000626,645317777,185419416,3065903408,3370090817,1422968091,2799810718,1899211513,3365814637,3093259721,1925170202,639632390,3003041267,2358531305,575686508,1015955776,4143524919,3915364458,3547221812,230118133,2186268284,1993640116,1262169439,3141410882,1517848001,304683835,3774588913,1804593403,207827124,790192558,4418159,267308018,2756342324,38388289,2866119168,3883016565,4112757436,1188593675,2297800622,2611923344,3983770346,1436782,3550778174,4268864469,3711481407,1160899978,3721369680,2075183683,3387532753,278252649,1931468947,310877002,3114773515,1054192414,910597554,3213535570,3844376159,2395999183,3589611270,3238948289,3865706718,2859303090,1799544637,1346216523]
def el:List Int:=[1541459225,528734635,2600822924,1359893119,3819527,3632160806,2918402655,4197429543,4065239274,3933021965,504775570,2003894109,1465881388,741351004,3820281191,1531468932,531929789,3657371231,1495330553,1290881933,1094465522,3328877776,4043202300,1652853773,2788897550,1886838466,228420685,840169241,221171930,2470414031,1489016895,723933098,1637138059,3453770995,3473021318,3497652158,975057221,2610515242,792380200,3898537696,1009139294,994634162,2557234580,1951904754,2253489824,1526122556,513650254,429373522,3497639210,3249466235,2577004534,3511973599,4187074774,2172309636,2262915244,2495370149,811413229,190828195,760602794,416524801,2419285081,3169827444,1590945553,560796806,3720340335,1549841853,1170015112,2124052186]
theorem amt:((List.range 16).all fun m=>decide (ajB bgr m=wl.getD m 0))=true:=by kernel_rfl
theorem ak4:((List.range 48).all fun m=>decide ((sS1 (wl.getD (m+14) 0)+wl.getD (m+9) 0+sS0 (wl.getD (m+1) 0)+wl.getD m 0)%4294967296=wl.getD (m+16) 0))=true:=by kernel_rfl
theorem ani(m:Nat):m<64->wf bgr m=wl.getD m 0:=by
 induction m using Nat.strongRecOn with
 | _ m ih =>
   intro hm;by_cases h:m<16
   · rw[ajx h];exact of_decide_eq_true (List.all_eq_true.1 amt m (List.mem_range.2 h))
   · obtain ⟨k,rfl⟩:∃ k,m=k+16:=⟨m-16,by omega⟩
     exact anh k (ih k (by omega) (by omega)) (ih (k+1) (by omega) (by omega)) (ih (k+9) (by omega) (by omega)) (ih (k+14) (by omega) (by omega)) (of_decide_eq_true (List.all_eq_true.1 ak4 k (List.mem_range.2 (by omega))))
def st8 (n:Nat):R8:=⟨al.getD (n+3) 0,al.getD (n+2) 0,al.getD (n+1) 0,al.getD n 0,el.getD (n+3) 0,el.getD (n+2) 0,el.getD (n+1) 0,el.getD n 0⟩
theorem akW:((List.range 64).all fun n=>decide (((st8 n).next (KH n) (wl.getD n 0)).a=al.getD (n+4) 0/\((st8 n).next (KH n) (wl.getD n 0)).e=el.getD (n+4) 0))=true:=by kernel_rfl
theorem am8(n:Nat):n<=64->rounds iv (wf bgr) KH n=st8 n:=by
 induction n with
 | zero=>intro _;rfl
 | succ n ih =>
   intro hn;have h:=of_decide_eq_true (List.all_eq_true.1 akW n (List.mem_range.2 (by omega)));refine ag5 (ih (by omega)) rfl (ani n (by omega)) ?_;obtain ⟨s,hs⟩:∃ s,(st8 n).next (KH n) (wl.getD n 0)=s:=⟨_,rfl⟩
   have e:s=⟨s.a,al.getD (n+3) 0,al.getD (n+2) 0,al.getD (n+1) 0,s.e,el.getD (n+3) 0,el.getD (n+2) 0,el.getD (n+1) 0⟩:=by rw[<- hs];rfl
   rw[hs] at h |-;rw[e,h.1,h.2];rfl
theorem anz:rounds iv (wf bgr) KH 64=⟨1346216523,1799544637,2859303090,3865706718,2124052186,1170015112,1549841853,3720340335⟩:=(am8 64 (AC _)).trans (by kernel_rfl)
theorem agV:(RP green).length=64:=by kernel_rfl
theorem aiR:nb green=1:=by rw[nb,agV]
theorem ad3:M8 KH green 1=⟨3125250226,648711618,3873207332,2344220184,3483945305,3770838036,2078576488,966832264⟩:=by
 rw[M8,M8,show rounds iv (wf (blk green 0)) KH 64=_ from anz]
 kernel_rfl
theorem R4:short KH green=[98,97,52,55,56,56,98,50,50,54,97,97,56,100,99,50]:=by
 rw[short,aiR,ad3]
 kernel_rfl
section
open Go.RowKit
open Hv (S Dk)
structure Base (w:World):Prop where
 size:12<=w.heap.size
 mx:∃ m,w.cell? ⟨3,0,none⟩=some (.int .i64 m)
 rounds:∀ i:Nat,i<64->w.cell? ⟨4,i,none⟩=some (.int .u32 (KH i))
 pow:Lib.TabIs Tryz.prog w "internal/strconv.uint64pow10" .u64 Lib.pow10Tab
theorem Base.of(h:Base w) (hs:w.heap.size<=w'.heap.size) (hb:∀ k,k<12->w'.heap[k]? = w.heap[k]?):Base w':=by
 refine ⟨Bi h.size hs,?_,fun i hi => ?_,?_⟩
 · obtain ⟨m,hm⟩:=h.mx;exact ⟨m,(Be (a:=⟨3,0,none⟩) (hb _ (by decide))).trans hm⟩
 · exact (Be (a:=⟨4,i,none⟩) (hb 4 (by decide))).trans (h.rounds i hi)
 · have h2:=h.pow;have hg:Tryz.prog.globalNamed "internal/strconv.uint64pow10" = some 5:=by kernel_rfl
   unfold Lib.TabIs World.var? at h2 |-;rw[hg] at h2 |-;simp only[Option.bind_some] at h2 |-;rw[hb _ (by decide)];exact h2
theorem Base.below(h:Base w) (hb:Below B w w') (hB:12<=B):Base w':=h.of hb.size fun k hk=>hb.block k (by omega)
theorem Base.far(h:Base w) (hf:Kj B C w w') (hB:12<=B) (hC:∀ k,C k->12<=k):Base w':=h.of hf.size fun k hk=>hf.block k (by omega) (fun q=>by have:=hC k q;omega)
theorem Base.alloc(h:Base w) (o:Obj):Base (w.alloc o):=h.below ((AD _ w).alloc (AC _) o) h.size
theorem Base.drew(h:Base w):Base w.drew:=h.below ((AD w.heap.size w).drew) h.size
theorem adZ(w:World) (k:Nat) (os:Array Obj):Below w.heap.size w (Sort.grow (w.drewN k) os):=by
 refine ⟨rfl,rfl,rfl,?_,fun i hi => ?_⟩
 · show w.heap.size<=(w.heap++os).size;simp
 · show (w.heap++os)[i]? = w.heap[i]?;exact Array.getElem?_append_left hi
theorem OI(n:Int) (h0 : -9223372036854775808<=n) (h1:n<=9223372036854775807) (w:World) (hb:Base w) :
 Calls Tryz.prog 81 #[.int .i64 n] w fun e w'=>e = .returned (.string ⟨(Lib.itoa n).toArray⟩)/\Below w.heap.size w w':=by
 refine (Tryz.strconv_Itoa n h0 h1 w hb.pow).mono ?_;rintro e w' ⟨rfl,k,os,rfl⟩;exact ⟨rfl,adZ w k os⟩
theorem U0(n:Nat) (hn:n<=1000000) (w:World) (hb:Base w) :
 Calls Tryz.prog 154 #[.int .i64 n] w fun e w'=>∃ x:S,e = .returned (.string ⟨x.toArray⟩)/\Below w.heap.size w w':=by
 have HB:=JY hb;clear hb;go_enter Tryz.func154,Tryz.ntmps154;go_wp2_with fail;refine (OI n (by omega) (by omega) w HB.out).mono ?_;rintro e w1 ⟨rfl,hb1⟩;have ag:=JY hb1;have hl:=Lib.itoa_length_le n (by omega) (by omega);obtain ⟨z,hz⟩:∃ z,Lib.itoa n=z:=⟨_,rfl⟩
 rw[hz] at hl |-;clear hb1 hz;go_wp2_with fail;go_ret;exact ⟨_,rfl,ag.out⟩
def MK (x:S):S:=x++List.replicate (256-x.length) 0
theorem Ti:∀ c:Nat,Lib.repeatL [0] c=List.replicate c 0
 | 0=>rfl
 | c+1=>by rw[Lib.repeatL,Ti c];rfl
theorem agT(x:S):((⟨x.toArray⟩:ByteArray)++⟨Array.replicate (256-x.length) 0⟩)=⟨(MK x).toArray⟩:=by
 apply Qs;simp[MK,ByteArray.data_append]
theorem noughts(c:Nat) (hc:c<=256) (w:World):Calls Tryz.prog 198 #[.string ⟨#[0]⟩, .int .i64 c] w fun e w'=>e = .returned (.string ⟨(List.replicate c (0:UInt8)).toArray⟩)/\Below w.heap.size w w':=by
 refine (Tryz.strings_Repeat ⟨#[0]⟩ c w (by omega) (by show 1*c<=_;omega)).mono ?_;rintro e w' ⟨rfl,hb⟩;have:Lib.repeatL (ByteArray.mk #[0]).data.toList c=List.replicate c 0:=Ti c;rw[this];exact ⟨rfl,hb⟩
end
end Go.Proofs.YtfhmaiicimdldaaGreatDoor
