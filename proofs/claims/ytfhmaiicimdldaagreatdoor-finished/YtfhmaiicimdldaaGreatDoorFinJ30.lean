import Derived.Test.YtfhmaiicimdldaaGreatDoorFinJ29
import Derived.Conc.MuLone
set_option maxHeartbeats 4000000
set_option maxRecDepth 100000
namespace Go.Proofs.YtfhmaiicimdldaaGreatDoor
variable {dn eb:Nat}{w:World}{C:Nat->Prop}
section
open Go.RowKit
open Kw (St)
open Hv (S Dx VM)
def anu (C:Nat->Prop) (eb sb db n a b c:Nat) (h:S) (d:Dx) (D:VM Hv.PD) (G:VM S) (pl:Hv.Plan) (m:Nat) (w w':World):Prop:=∃ mb pm fm P N M sa sc im km,LJ C N eb sb mb pm fm db n a b c h d P (Hv.Kc pl (Hv.KG D pl.Le,G) (pl.steps.take m)).1 (Hv.Kc pl (Hv.KG D pl.Le,G) (pl.steps.take m)).2 (.slice sa pl.steps.length sc) (.map (some im)) (.map (some km)) m w'/\LC M pl (.slice sa pl.steps.length sc) im km w'/\(∀ g,M g->N g)/\Nz C eb sb pm fm M/\w.heap.size<=mb/\w.heap.size<=pm/\w.heap.size<=fm/\(∀ g,N g->w.heap.size<=g)/\Kj w.heap.size (K9 C eb sb pm fm) w w'
structure aff (C N M:Nat->Prop) (eb sb mb pm fm db n a b c:Nat) (h:S) (d:Dx) (x:S) (mk cb:Nat) (q:Hv.Mac) (sa:Option Addr) (ns sc im km:Nat) (pl:Hv.Plan) (w:World) (dn:Nat) (wr:World):Prop where
 Lu:∃ P1,LJ C N eb sb mb pm fm db n a b c h d P1 (Hv.Kc pl q (pl.steps.take dn)).1 (Hv.Kc pl q (pl.steps.take dn)).2 (.slice sa ns sc) (.map (some im)) (.map (some km)) dn wr
 pln:LC M pl (.slice sa ns sc) im km wr
 con:wr.heap[cb]? = some (.cells #[.string ⟨x.toArray⟩, .int .i64 (mk:Int)] 119 (0,0))
 far:Kj w.heap.size (K9 C eb sb pm fm) w wr
def aaX (eb m:Nat) (w:World):Nat:=match w.cell? ⟨eb,5,none⟩ with
 | some (.int _ k)=>m-k.toNat
 | _=>0
theorem ZE{m:Nat} {s q sv im km:Value}  (h:Qq eb s q sv im km (.int .i64 dn) w):aaX eb m w=m-dn:=by
 obtain ⟨_,_,_,_,_,q5⟩:=h.cells;unfold aaX;rw[q5];simp
theorem ams{N M:Nat->Prop} {sb mb pm fm db n a b c:Nat} {h:S} {d:Dx} {x:S} {mk cb:Nat} {q:Hv.Mac} {sa:Option Addr} {ns sc im km:Nat} {pl:Hv.Plan}   {wr:World} (hI:aff C N M eb sb mb pm fm db n a b c h d x mk cb q sa ns sc im km pl w dn wr) (od:dn<ns) (hns:pl.steps.length=ns) (hR:Pm n pl q) (hN:∀ g,M g->N g) (hM:Nz C eb sb pm fm M) (hcb : ¬ K9 C eb sb pm fm cb) (w4:World) (hb:Below wr.heap.size wr w4) :
 Calls Tryz.prog 96 #[.pointer (some ⟨eb,0,none⟩)] w4 fun e w'=>∃ u,e = .returned u/\aff C N M eb sb mb pm fm db n a b c h d x mk cb q sa ns sc im km pl w (dn+1) w':=by
 obtain ⟨P1,yB⟩:=hI.Lu;have hE:=yB.below hb;have hP:=hI.pln.below hb;have hF:=hI.far.below hb hI.far.size;have hn:dn<pl.steps.length:=by omega
 obtain ⟨r1,r2,r3,r4⟩:=hR.at_ dn hn;have bX:P1.length<=1000:=by have:=hE.pk.len hE.La.packs.1;omega
 have hok:=hR.ok.at_ hn;have hks:=hR.ks _ (B1 hn);have tr:=Sb pl q hn;have hl:=hR.len;have Ef:=(hb.block cb (blt hI.con)).trans hI.con;refine (amv eb sb mb pm fm db n a b c h d P1 _ _ sa ns sc im km dn pl hns od (by omega) hok hks bX r2 30000 (by omega) (r3.mono (by omega)) r4 hR.wf w4 hE hP hN hM).mono ?_;rintro e w5 ⟨u,P',rfl,q1,q2,q3⟩;refine ⟨u,rfl,⟨P',?_⟩,q2,(q3.block cb (blt Ef) hcb).trans Ef,hF.next q3 hF.size (fun k _ hk=>hk)⟩;rw[tr];exact q1
theorem abv(eb sb db n a b c:Nat) (h:S) (d:Dx) (D:VM Hv.PD) (G:VM S) (xs:List S) (pl:Hv.Plan) (m:Nat) (hm0:m<pl.steps.length) (hne:0<xs.length) (eD:Hv.check n D G xs = .ok pl) (iE:Pm n pl (Hv.KG D pl.Le,G)) (bE:Lf D) (cL:Qe \/ ∀ s,Hv.wish xs = .ok s->∀ k d,Hv.get s.I k=some d->KX d.st.runs/\KX d.st.Kn) (hnn:1<=n/\n<=4096) (hR:LP D G xs) (w:World) (hp:Xk C eb sb db n a b c h d w) :
 Calls Tryz.prog 48 #[.pointer (some ⟨eb,0,none⟩), .agg #[.string ⟨(Hv.KU D G xs).toArray⟩, .int .i64 (m:Int)]] w fun e w'=>e = .returned (.bool true)/\anu C eb sb db n a b c h d D G pl m w w':=by
 have hel:=blt hp.Lu;have HB:=JY (show (∀ k,C k->k<w.heap.size)/\d.rb<w.heap.size/\eb<w.heap.size/\sb<w.heap.size from ⟨hp.dk.lt,hp.dk.rb.2,hel,hp.st.lt⟩);have HP:=JY hp;have HR:=JY hR;have zj:=JY eD;have mh:=JY iE;have gS:=JY bE;have oV:=JY cL;have HD:=JY (fun w hb=>XI (Hv.K8 D) G xs hR.ok w hb);have hrow:=AF w (.cells #[.string ⟨(Hv.KU D G xs).toArray⟩, .int .i64 (m:Int)] 119);obtain ⟨x,hx⟩:∃ x,Hv.KU D G xs=x:=⟨_,rfl⟩
 replace hx:Hv.NU (Hv.K8 D)++Hv.Ni G++Hv.NZ xs=x:=hx
 rw[hx] at HD
 replace hx:Hv.KU D G xs=x:=hx
 rw[hx] at hrow |-;have HC:=JY hrow;clear hp hrow hR hx eD iE bE cL;go_enter Tryz.func48,Tryz.ntmps48;go_wp2_with fail;have hb0:=(AD w.heap.size w).alloc (AC _) (.cells #[.string ⟨x.toArray⟩, .int .i64 (m:Int)] 119);have hs0:(w.alloc (.cells #[.string ⟨x.toArray⟩, .int .i64 (m:Int)] 119)).heap.size=w.heap.size+1:=by simp
 refine (HD.out _ (HP.out.base.below hb0 HP.out.base.size)).mono ?_;rintro e w1 ⟨sl,rfl,hown,hb1⟩;rw[hs0] at hown hb1;have fT:=hb0.trans (hb1.mono (by omega));have bB:=JY (HP.out.below fT);have ag:=JY fT;have cX:=JY ((hb1.block w.heap.size (by omega)).trans HC.out);obtain ⟨a0,c0,e0⟩:=J4 (hown 0);obtain ⟨a1,c1,e1⟩:=J4 (hown 1);obtain ⟨a2,c2,e2⟩:=J4 (hown 2);have pH:=JY (hown 0);have lZ:=JY (hown 1);rw[e0] at pH;rw[e1] at lZ;unfold RU;rw[e0,e1,e2];have Bo:∀ g,(Value.slice a2 (Oa (Hv.K8 D) G xs 2).1 c2).ownBlock=some g->w.heap.size<g:=fun g hg=>by rw[<- e2] at hg;exact ((hown 2).lt g hg).1
 have hown2:=KL (hown 2) (Bs _);rw[e2] at hown2;clear hb0 hb1 fT hown e0 e1 e2 HC HD;obtain ⟨nd,hnd⟩:∃ nd,(Oa (Hv.K8 D) G xs 0).1=nd:=⟨_,rfl⟩
 obtain ⟨ng,fV⟩:∃ ng,(Oa (Hv.K8 D) G xs 1).1=ng:=⟨_,rfl⟩
 rw[hnd,fV];have rX:=JY (hown2);have BQ:xs.length<=6:=HR.out.xl.1;obtain ⟨nx,hnx⟩:∃ nx,xs.length=nx:=⟨_,rfl⟩
 rw[hnx] at hne BQ;have dX:=JY hnx;rw[show (Oa (Hv.K8 D) G xs 2).1=nx from hnx];clear hnx hown2;go_wp2_with fail;have hb2:=(AD w1.heap.size w1).alloc (AC _) (.cells #[.slice a0 nd c0, .slice a1 ng c1, .slice a2 nx c2] 109);have hrow2:=AF w1 (.cells #[.slice a0 nd c0, .slice a1 ng c1, .slice a2 nx c2] 109);obtain ⟨u,hu⟩:∃ u,w1.alloc (.cells #[.slice a0 nd c0, .slice a1 ng c1, .slice a2 nx c2] 109)=u:=⟨_,rfl⟩
 obtain ⟨rb,hrb⟩:∃ rb,w1.heap.size=rb:=⟨_,rfl⟩
 have hrl:w.heap.size<rb:=by have:=blt cX.out;omega
 rw[hu] at hb2 hrow2 |-;have bQ:=JY (bB.out.below hb2);have ah:=JY (ag.out.trans (hb2.mono ag.out.size));have bA:=JY ((hb2.block w.heap.size (blt cX.out)).trans cX.out);have iW:=JY (WA D G HR.out.easy.1 HR.out.Mt HR.out.rdy (by have:=HR.out.dl;omega) HR.out.gs (by have:=HR.out.gl;omega) (fun f hf=>⟨(HR.out.gp f hf).1.1,by have:=(HR.out.gp f hf).2.1;omega⟩) (.slice a0 (Oa (Hv.K8 D) G xs 0).1 c0) (.slice a1 (Oa (Hv.K8 D) G xs 1).1 c1) (.slice a2 nx c2) (w.heap.size+1) u bQ.out.base (Ky pH.out hb2) (Ky lZ.out hb2));rw[hnd,fV] at iW;rw[hrb] at hrow2 |-;have F4:=JY hb2;clear hu hb2 hrb bB cX ag;go_wp2_with fail;refine iW.out.mono ?_;rintro e w3 ⟨mb,pm,fm,E,rfl,hm,hpk,l1,l2,l3,hb3⟩;have lF:=ah.out.size;have Jy:rb<u.heap.size:=blt hrow2;have rV:=JY (show w.heap.size<=mb/\w.heap.size<=pm/\w.heap.size<=fm from ⟨by omega,by omega,by omega⟩);have cK:=JY (bQ.out.below hb3);have av:=JY (ah.out.trans (hb3.mono lF));have hrow3:=(hb3.block rb (blt hrow2)).trans hrow2;have sw:=(hb3.block w.heap.size (blt bA.out)).trans bA.out;have r2:=(JZ hrow3 2).trans (show _=some (.slice a2 nx c2) from rfl);have k1:=(JZ sw 1).trans (show _=some (.int .i64 (m:Int)) from rfl);have f1:=J2 cK.out.Lu 1;obtain ⟨e0,e1, -⟩:=cK.out.Lu.cells;have n1 : ¬ eb=rb:=by omega
 have n2 : ¬ eb=w.heap.size:=by omega
 have n3 : ¬ rb=eb:=by omega
 have n4 : ¬ w.heap.size=eb:=by omega
 have r2':(w3.setCell ⟨eb,1,none⟩ (.pointer (some ⟨mb,0,none⟩))).cell? ⟨rb,2,none⟩=some (.slice a2 nx c2):=(NC (BY _ _ _ _ n3) 2).trans r2;have k1':(w3.setCell ⟨eb,1,none⟩ (.pointer (some ⟨mb,0,none⟩))).cell? ⟨w.heap.size,1,none⟩=some (.int .i64 (m:Int)):=(NC (BY _ _ _ _ n4) 1).trans k1;have HJ:=JY (cK.out.join hm hpk ⟨fun k q=>B3 (HB.out.1 k q) lF,B3 HB.out.2.1 lF,by omega,by have:=HB.out.2.2.2;omega⟩ ⟨l1,l2,l3⟩ (fun g q=>⟨q.1,q.2.1⟩));have zV:=JY (show Reads w3 (.slice a2 nx c2) xs from by
  have h1:=Ky (Ky rX.out F4.out) hb3;rw[show (Oa (Hv.K8 D) G xs 2).1=xs.length from rfl,show (Oa (Hv.K8 D) G xs 2).2=xs.map Kl from rfl] at h1;have h4:=Yp h1;rw[<- dX.out];exact h4)
 have iM:=(BY w3 ⟨eb,1,none⟩ (.pointer (some ⟨mb,0,none⟩)) rb n3).trans hrow3;have mD:=(BY w3 ⟨eb,1,none⟩ (.pointer (some ⟨mb,0,none⟩)) w.heap.size n4).trans sw;have Hr : ¬ (nx:Int)=0:=by omega
 clear hm hpk hb3 bQ ah bA hrow2 hrow3 sw iW pH lZ;go_wp2_with fail;obtain ⟨w1,hw1⟩:∃ w1,w3.setCell ⟨eb,1,none⟩ (.pointer (some ⟨mb,0,none⟩))=w1:=⟨_,rfl⟩
 have Ik:w3.heap.size=w1.heap.size:=by rw[<- hw1];simp
 obtain ⟨N0,A9⟩:∃ N0,RsN u.heap.size mb pm fm w3.heap.size=N0:=⟨_,rfl⟩
 have pE:=JY (show ∀ g,N0 g->w.heap.size<=g from fun g q=>by rw[<- A9] at q;have:=q.1;omega);rw[A9] at HJ;have aH:=JY HJ.out.1;have aO:Hid (Kj w.heap.size (fun k=>k=eb) w w1):=JY (by rw[<- hw1];exact ((Kj.refl w.heap.size (fun k=>k=eb) w).below av.out (AC _)).next HJ.out.2 av.out.size (fun _ _ q=>q));have fe:Hid (Reads w1 (.slice a2 nx c2) xs):=JY (by rw[<- hw1];exact zV.out.kept (by simp) (fun g hg=>BY _ _ _ _ (fun q=>by
  rcases zV.out with ⟨q1,_⟩ | ⟨g',c',q1,q2,_⟩
  · have:=dX.out;rw[q1] at this;simp at this;omega
  · cases q1;cases hg;have h5:=Bo g' rfl;have q':g'=eb:=q;omega)))
 rw[hw1] at aH iM mD r2' k1' |-;have Cz:w.heap.size<=w1.heap.size:=by have:=av.out.size;omega
 have Ci:=blt iM;have vF:=blt mD;clear hw1 A9 HJ av cK zV r2 k1 n1 n2 n3 n4 e0 e1 f1;have r2:=r2';clear r2';obtain ⟨e0,e1, -⟩:=aH.out.Lu.cells;have hmk:∀ w',Below w1.heap.size w1 w'->(Below w1.heap.size w1 w'/\w'.cell? ⟨eb,0,none⟩=some (.pointer (some ⟨sb,0,none⟩))/\w'.cell? ⟨eb,1,none⟩=some (.pointer (some ⟨mb,0,none⟩))/\w'.cell? ⟨rb,2,none⟩=some (.slice a2 nx c2)):=fun w' q=>⟨q,(aH.out.below q).Lu.cells.1,(aH.out.below q).Lu.cells.2.1,(NC (q.block rb Ci) 2).trans r2⟩
 have iQ:Hid (∀ wx w',(Below w1.heap.size w1 wx/\wx.cell? ⟨eb,0,none⟩=some (.pointer (some ⟨sb,0,none⟩))/\wx.cell? ⟨eb,1,none⟩=some (.pointer (some ⟨mb,0,none⟩))/\wx.cell? ⟨rb,2,none⟩=some (.slice a2 nx c2))->Below wx.heap.size wx w'->(Below w1.heap.size w1 w'/\w'.cell? ⟨eb,0,none⟩=some (.pointer (some ⟨sb,0,none⟩))/\w'.cell? ⟨eb,1,none⟩=some (.pointer (some ⟨mb,0,none⟩))/\w'.cell? ⟨rb,2,none⟩=some (.slice a2 nx c2))):=JY fun wx w' h h'=>hmk w' (h.1.trans (h'.mono h.1.size))
 have fR:Hid (∀ wx A i v,(Below w1.heap.size w1 wx/\wx.cell? ⟨eb,0,none⟩=some (.pointer (some ⟨sb,0,none⟩))/\wx.cell? ⟨eb,1,none⟩=some (.pointer (some ⟨mb,0,none⟩))/\wx.cell? ⟨rb,2,none⟩=some (.slice a2 nx c2))->w1.heap.size<=A->(Below w1.heap.size w1 (wx.setCell ⟨A,i,none⟩ v)/\(wx.setCell ⟨A,i,none⟩ v).cell? ⟨eb,0,none⟩=some (.pointer (some ⟨sb,0,none⟩))/\(wx.setCell ⟨A,i,none⟩ v).cell? ⟨eb,1,none⟩=some (.pointer (some ⟨mb,0,none⟩))/\(wx.setCell ⟨A,i,none⟩ v).cell? ⟨rb,2,none⟩=some (.slice a2 nx c2))):=JY fun wx A i v h h'=>hmk _ (h.1.setCell h' _)
 have py:Hid (∀ wx o o',(Below w1.heap.size w1 (World.alloc wx o)/\(World.alloc wx o).cell? ⟨eb,0,none⟩=some (.pointer (some ⟨sb,0,none⟩))/\(World.alloc wx o).cell? ⟨eb,1,none⟩=some (.pointer (some ⟨mb,0,none⟩))/\(World.alloc wx o).cell? ⟨rb,2,none⟩=some (.slice a2 nx c2))->w1.heap.size<=wx.heap.size->(Below w1.heap.size w1 (World.alloc wx o')/\(World.alloc wx o').cell? ⟨eb,0,none⟩=some (.pointer (some ⟨sb,0,none⟩))/\(World.alloc wx o').cell? ⟨eb,1,none⟩=some (.pointer (some ⟨mb,0,none⟩))/\(World.alloc wx o').cell? ⟨rb,2,none⟩=some (.slice a2 nx c2))):=JY fun wx o o' h h'=>hmk _ ⟨h.1.os,h.1.tape,h.1.output,by simp;omega,fun k hk=>((AM wx o' k (by omega)).trans (AM wx o k (by omega)).symm).trans (h.1.block k hk)⟩
 have dP:=JY (hmk _ ((AD w1.heap.size w1).drew));have hxl:xs.length<=1000000:=by rw[dX.out];omega
 have uQ:=JY (show ∀ x∈xs,x.length<=1000000000000 from fun x hx=>by have:=HR.out.xl.2 x hx;omega);have zR:=JY (show (0:Int)<=(n:Int)/\(n:Int)<=4096 by omega);have iP:=JY aH.out.base.size;have HS:=JY (show Hv.Short 200 G from fun k x hk=>(HR.out.gp (k,x) ((Hv.get_some HR.out.gs).1 hk)).2.2);clear hmk
 go_region_held3 (fun w'=>Below w1.heap.size w1 w'/\w'.cell? ⟨eb,0,none⟩=some (.pointer (some ⟨sb,0,none⟩))/\w'.cell? ⟨eb,1,none⟩=some (.pointer (some ⟨mb,0,none⟩))/\w'.cell? ⟨rb,2,none⟩=some (.slice a2 nx c2))
  (first | exact dP.out | exact iQ.out _ _ (by assumption) hb2 | exact iQ.out _ _ (by assumption) hb3 | exact iQ.out _ _ (by assumption) ((AD _ _).alloc (AC _) _) | exact py.out _ _ _ (by assumption) (by omega) | exact fR.out _ _ _ _ (by assumption) (by omega) | exact fR.out _ _ _ _ (fR.out _ _ _ _ (fR.out _ _ _ _ (by assumption) (by omega)) (by omega)) (by omega))
  (first
   | (go_at_call 38;refine (Yz sb db n a b c h _ (aH.out.st.below (And.left (by assumption)))).mono ?_;rintro e w2 ⟨rfl,hb2⟩;have hs2:w1.heap.size<=w2.heap.size:=(by have h:=hb2.size;first | exact h | (simp at h;omega)); (try have wZ:w1.heap.size+1<=w2.heap.size:=(by have h:=hb2.size;simp at h;omega)); (try have q2:=(hb2.block w1.heap.size (by simp)).trans (AF w1.drew (.cells #[.slice none 0 0, .map none, .map none] 100))))
   | (go_at_call 37;refine (Zw mb pm fm E D G _ n zR.out _ xs HR.out.easy.2 hxl uQ.out HR.out.dl gS.out oV.out HR.out.gl HS.out _ (aH.out.base.below (And.left (by assumption)) iP.out) (aH.out.La.below (And.left (by assumption))) (aH.out.pk.below (And.left (by assumption))) (fe.out.below (And.left (by assumption)))).mono ?_;rintro e w3 ad4;unfold Ri at ad4;rw[zj.out] at ad4;obtain ⟨sv,im,km,rfl,cN,hb3⟩:=ad4;obtain ⟨sa,sc,rfl⟩:=J4 cN.row;have hs3:w2.heap.size<=w3.heap.size:=(by have h:=hb3.size;first | exact h | (simp at h;omega)); (try have xg:w2.heap.size+1<=w3.heap.size:=(by have h:=hb3.size;simp at h;omega)); (try have q3:=(hb3.block w2.heap.size (by simp)).trans (AF w2 (.cells #[.slice none 0 0, .map none, .map none] 100))); (try have q3:=(hb3.block w1.heap.size (blt q2)).trans q2); (try have z0:=(JZ q3 0).trans (show _=some (.slice none 0 0) from rfl)); (try have z1:=(JZ q3 1).trans (show _=some (.map none) from rfl)); (try have z2:=(JZ q3 2).trans (show _=some (.map none) from rfl)); (try have y0:=J2 q3 0); (try have y1:=J2 q3 1); (try have y2:=J2 q3 2);have iH:Below w1.heap.size w1 w3:=(fun (h:Below w1.heap.size w1 _)=>h.trans (hb3.mono h.size)) (And.left (by assumption))))
 all_goals first
  | (have hx:=ZY (w1:=w1) cN (by omega) iH (.slice sa pl.steps.length sc) (.map (some im)) (.map (some km))
     obtain ⟨A,hA⟩:∃ A,w3.heap.size=A:=⟨_,rfl⟩
     have qx:w1.heap.size<=A:=(by omega);obtain ⟨W,hW⟩:∃ W,w3.alloc (.cells #[.slice sa pl.steps.length sc, .map (some im), .map (some km)] 100)=W:=⟨_,rfl⟩
     rw[hW] at hx |-;obtain ⟨z,X1,X2,X3,X4⟩:=hx;rw[hA] at X1 |-;clear hW hA)
  | (have hx:=UQ (w1:=w1) (A:=w2.heap.size) cN (by simp) (by omega) iH q3 (.slice sa pl.steps.length sc) (.map (some im)) (.map (some km))
     obtain ⟨A,hA⟩:∃ A,w2.heap.size=A:=⟨_,rfl⟩
     have qx:w1.heap.size<=A:=(by omega);obtain ⟨W,hW⟩:∃ W,(((w3.setCell ⟨w2.heap.size,0,none⟩ (.slice sa pl.steps.length sc)).setCell ⟨w2.heap.size,1,none⟩ (.map (some im))).setCell ⟨w2.heap.size,2,none⟩ (.map (some km)))=W:=⟨_,rfl⟩
     rw[hW] at hx |-;obtain ⟨z,X1,X2,X3,X4⟩:=hx;rw[hA] at X1 |-;clear hW hA)
  | (have hx:=UQ (w1:=w1) (A:=w1.heap.size) cN (by omega) (by omega) iH q3 (.slice sa pl.steps.length sc) (.map (some im)) (.map (some km))
     obtain ⟨A,hA⟩:∃ A,w1.heap.size=A:=⟨_,rfl⟩
     have qx:w1.heap.size<=A:=(by omega);obtain ⟨W,hW⟩:∃ W,(((w3.setCell ⟨w1.heap.size,0,none⟩ (.slice sa pl.steps.length sc)).setCell ⟨w1.heap.size,1,none⟩ (.map (some im))).setCell ⟨w1.heap.size,2,none⟩ (.map (some km)))=W:=⟨_,rfl⟩
     rw[hW] at hx |-;obtain ⟨z,X1,X2,X3,X4⟩:=hx;rw[hA] at X1 |-;clear hW hA)
 all_goals
  have hc1:=aH.out.dk.lt;have l1:=blt aH.out.Lu;have l2:=aH.out.st.lt;have l3:=aH.out.La.packs.lt;have l4:=aH.out.La.files.lt;have tv:=JY (show LJ C (fun g=>N0 g\/(w1.heap.size<=g/\g<z)) eb sb mb pm fm db n a b c h d E D G (.slice none 0 0) (.map none) (.map none) 0 W from by
   have q:=aH.out.below X3;refine ⟨q.Lu,q.st,q.La,q.pk.weak (fun g hg => .inl hg),q.dk,q.off,q.apart,fun g hg => ?_,q.base,q.low,q.frb⟩;rcases hg with hg | hg
   · exact q.rows g hg
   · have h4:=X4;exact ⟨by omega,fun hC=>by have:=hc1 g hC;omega,by omega,by omega⟩)
  have nN:=JY (show Nz C eb sb pm fm (fun g=>w1.heap.size<=g/\g<z) from fun g hg q=>by
   rcases q with q | q | q | q | q
   · have:=hc1 g q;omega
   · omega
   · omega
   · omega
   · omega)
  have ez:=JY X2;have zh:=JY (show ¬ K9 C eb sb pm fm w.heap.size from fun q=>by
   rcases q with q | q | q | q | q
   · have:=HB.out.1 _ q;omega
   · have:=HB.out.2.2.1;omega
   · have:=HB.out.2.2.2;omega
   · omega
   · omega)
  have oM:=JY X1;have zr:=JY (aO.out.below X3 Cz);have hCW:=(X3.block w.heap.size vF).trans mD;have CL:=(JZ hCW 1).trans (show _=some (.int .i64 (m:Int)) from rfl);have a0:=(JZ X1 0).trans (show _=some (.slice sa pl.steps.length sc) from rfl);have a1:=(JZ X1 1).trans (show _=some (.map (some im)) from rfl);have a3:=(JZ X1 2).trans (show _=some (.map (some km)) from rfl);have jZ:=JY (show (∀ g,(N0 g\/(w1.heap.size<=g/\g<z))->w.heap.size<=g) from fun g hg=>by
   rcases hg with hg | hg
   · exact pE.out g hg
   · omega)
  obtain ⟨M,hM⟩:∃ M:Nat->Prop,(fun g=>w1.heap.size<=g/\g<z)=M:=⟨_,rfl⟩
  rw[hM] at ez nN;have fW:Hid (LJ C (fun g=>N0 g\/M g) eb sb mb pm fm db n a b c h d E D G (.slice none 0 0) (.map none) (.map none) 0 W):=JY (by rw[<- hM];exact tv.out);have zT:Hid (∀ g,(N0 g\/M g)->w.heap.size<=g):=JY (by rw[<- hM];exact jZ.out);obtain ⟨ns,hns⟩:∃ ns,pl.steps.length=ns:=⟨_,rfl⟩
  have eH:=JY hns;have BP:ns<=200:=by have:=mh.out.len;omega
  have fH:m<ns:=by omega
  have b5 : ¬ (ns:Int)<=(m:Int):=by omega
  have b6:decide ((ns:Int)<=(m:Int))=false:=decide_eq_false b5;have b7 : ¬ ns<=m:=by omega
  have b8:decide (ns<=m)=false:=decide_eq_false b7;rw[hns] at ez oM a0 |-;obtain ⟨cb,hcb⟩:∃ cb,w.heap.size=cb:=⟨_,rfl⟩
  have kP:=JY hcb;rw[hcb] at zh;have qA:=hCW;rw[hcb] at CL qA |-;have CR:=JY qA;clear hM X1 X2 X3 X4 jZ tv hc1 iQ fR py dP aH fe aO e0 e1 hns hcb hCW qA mD k1' vF iM r2 hm0
  (try clear hb2)
  go_wp2_with fail;have aF:=(AD W.heap.size W).drew;have jH:=JY (fW.out.below aF);have eJ:=JY (ez.out.below aF);have fy:=JY (zr.out.below aF zr.out.size);have DJ:=(aF.block A (blt oM.out)).trans oM.out;have mG:=(aF.block cb (blt CR.out)).trans CR.out;have lI:=JY DJ;have kO:=JY mG;clear aF DJ mG fW ez zr
  go_region_held3 (fun w'=>w'.cell? ⟨A,0,none⟩=some (.slice sa ns sc)/\w'.cell? ⟨A,1,none⟩=some (.map (some im))/\w'.cell? ⟨A,2,none⟩=some (.map (some km))/\w'.cell? ⟨cb,1,none⟩=some (.int .i64 (m:Int)))
   (first | assumption | exact ⟨a0,a1,a3,CL⟩ | exact S6 | simp[go_sem, *])
   (first
    | (go_at_call 69;refine (N9 sa ns sc im km W.drew).mono ?_;rintro e w6 ⟨rfl,aN⟩;have dM:=JY (jH.out.below aN);have kX:=JY (eJ.out.below aN);have jd:=JY (fy.out.below aN fy.out.size);have yw:=(aN.block A (blt lI.out)).trans lI.out;have AQ:=(aN.block cb (blt kO.out)).trans kO.out;have rQ:=JY AQ;have S6:w6.cell? ⟨A,0,none⟩=some (.slice sa ns sc)/\w6.cell? ⟨A,1,none⟩=some (.map (some im))/\w6.cell? ⟨A,2,none⟩=some (.map (some km))/\w6.cell? ⟨cb,1,none⟩=some (.int .i64 (m:Int)):=⟨(JZ yw 0).trans rfl,(JZ yw 1).trans rfl,(JZ yw 2).trans rfl,(JZ AQ 1).trans rfl⟩;clear aN yw AQ))
  all_goals
   obtain ⟨s0,s1,s2, -⟩:=S6;have GJ:E.length<=1000:=by have h1:=dM.out.pk.len dM.out.La.packs.1;have h2:=HR.out.dl;omega
   have HST:=JY (ajL eb sb mb pm fm db n a b c h d E D G _ _ _ 0 sa ns sc im km pl GJ w6 dM.out kX.out nN.out);clear a0 a1 a3 CL jH eJ fy lI kO dM kX;go_wp2_with fail;refine HST.out.mono ?_;rintro e w9 ⟨u9,P9,rfl,k1,k2,k3⟩;have ay:Hid (aff C (fun g=>N0 g\/M g) M eb sb mb pm fm db n a b c h d x m cb (Hv.KG D pl.Le,G) sa ns sc im km pl w 0 w9):=JY (by
    have G3:=(k3.block cb (blt rQ.out) zh.out).trans rQ.out;refine ⟨⟨P9,by rw[List.take_zero];exact k1⟩,k2,G3,((jd.out.mono (C':=K9 C eb sb pm fm) (AC _) (fun q _ hq => .inr (.inl hq)))).next k3 jd.out.size (fun q _ hq=>hq)⟩)
   clear k1 k2 k3 HST jd rQ s0 s1 s2;go_wp2_with fail;go_loopw [] (fun wr=>∃ dn:Nat,dn<=m/\Hid (aff C (fun g=>N0 g\/M g) M eb sb mb pm fm db n a b c h d x m cb (Hv.KG D pl.Le,G) sa ns sc im km pl w dn wr)) (fun wr=>aaX eb m wr)
   case atStart=>exact ⟨0,Bs _,ay⟩
   case round =>
    clear ay;obtain ⟨dn,od,HI⟩:=hrel;obtain ⟨P1,gj⟩:=HI.out.Lu;obtain ⟨-, -, -, -, -,g5⟩:=gj.Lu.cells;have g1:=(JZ HI.out.con 1).trans (show _=some (.int .i64 (m:Int)) from rfl);have aH:=JY gj;have tH:=JY (ZE (m:=m) gj.Lu);clear gj;by_cases hlt:dn<m
    · have c5:(dn:Int)<(m:Int):=by omega
      have jG:=JY (ams HI.out (by omega) eH.out mh.out (fun g hg => .inr hg) nN.out zh.out wr.drew ((AD wr.heap.size wr).drew));go_wp2_with fail;go_region;go_wp2_with fail;refine jG.out.mono ?_;rintro e w5 ⟨u5,rfl,hW⟩;have HW:=JY hW;have dN:Hid (aaX eb m w5=m-(dn+1)):=JY (by obtain ⟨P2,q⟩:=hW.Lu;exact ZE q.Lu);clear hW jG;go_wp2_with fail;go_roundw
      case rel=>exact ⟨dn+1,by omega,HW⟩
      case measure=>rw[tH.out,dN.out];omega
    · obtain rfl:dn=m:=by omega
      have c5 : ¬ (dn:Int)<(dn:Int):=by omega
      go_wp2_with fail;go_region;go_wp2_with fail;go_ret;have aF:=(AD wr.heap.size wr).drew;rw[<- eH.out] at aH HI;refine ⟨rfl,mb,pm,fm,P1,(fun g=>N0 g\/M g),M,sa,sc,im,km,?_,?_,fun g hg => .inr hg,nN.out,rV.out.1,rV.out.2.1,rV.out.2.2,zT.out,HI.out.far.below aF HI.out.far.size⟩
      · exact aH.out.below aF
      · exact HI.out.pln.below aF
end
section
open Go.RowKit
open Kw (St)
open Hv (S Dx VM Ns Has)
def ahJ (C:Nat->Prop) (eb sb db n a:Nat) (x:S) (d:Dx) (D:VM Hv.PD) (G:VM S) (B:Nat) (w:World):Prop:=∃ mb pm fm E N,LJ C N eb sb mb pm fm db n a x.length 0 (short KH x) d E D G (.slice none 0 0) (.map none) (.map none) 0 w/\(B<=eb/\B<=sb/\B<=mb/\B<=pm/\B<=fm)/\∀ g,N g->B<=g
def alb (C:Nat->Prop) (eb sb db n a:Nat) (x:S) (m:Nat) (d:Dx) (D:VM Hv.PD) (G:VM S) (pl:Hv.Plan) (B:Nat) (w:World):Prop:=∃ mb pm fm P N M sa sc im km,LJ C N eb sb mb pm fm db n a x.length m (short KH x) d P (Hv.Kc pl (Hv.KG D pl.Le,G) (pl.steps.take m)).1 (Hv.Kc pl (Hv.KG D pl.Le,G) (pl.steps.take m)).2 (.slice sa pl.steps.length sc) (.map (some im)) (.map (some km)) m w/\LC M pl (.slice sa pl.steps.length sc) im km w/\(∀ g,M g->N g)/\Nz C eb sb pm fm M/\(B<=eb/\B<=sb/\B<=mb/\B<=pm/\B<=fm)/\∀ g,N g->B<=g
def ahK (C:Nat->Prop) (db:Nat) (d:Dx) (K:Nat) (ok:(Nat->Prop)->Nat->Nat->Dx->World->Prop) (w:World) (e:Ending) (w':World):Prop:=∃ p v,e = .returned (.tuple #[p,v])/\∃ d' C' r,EV w.heap.size w' v r/\Ns d d' r K/\Kq C' db d' w'/\Gr C C' w w'/\((r=0/\∃ eb sb,p = .pointer (some ⟨eb,0,none⟩)/\ok C' eb sb d' w')\/(r≠0/\p = .pointer none/\(d'.core=d.core\/d'.core=d.flush.core)))
theorem Sd{d:Dx} (db n a:Nat) (D:VM Hv.PD) (G:VM S) (hlen:d.now.length=n) (hnn:64<=n/\n<=4096) (hR:LP D G []) (hH:Has n d.now a (Hv.KU D G []) 0) (au:d.calls+2000000<1000000000000) (w:World) (hd:Kq C db d w) (hbs:Base w) (bt:∀ k,C k->12<=k) :
 Calls Tryz.prog 28 #[SN db] w (ahK C db d 1000200 (fun C' eb sb d' w'=>Md n a (Hv.KU D G []) 0 d'/\ahJ C' eb sb db n a (Hv.KU D G []) d' D G w.heap.size w') w):=by
 have HD:=JY hd;have aJ:=JY hbs;have bD:=JY bt;have HR:=JY hR;have HH:=JY hH;have hrb:=hd.rb.2;have fS:=JY hd.lt;have hxl:=hR.len;have j5:=JY (fun (C':Nat->Prop) (eb sb:Nat) (d':Dx) (w':World) (hp:Xk C' eb sb db n a (Hv.KU D G []).length 0 (short KH (Hv.KU D G [])) d' w')=>Zi (C:=C') eb sb db n a (Hv.KU D G []).length 0 (short KH (Hv.KU D G [])) d' D G hR w' hp);obtain ⟨x,hx⟩:∃ x,Hv.KU D G []=x:=⟨_,rfl⟩
 rw[hx] at HH hxl j5 |-;have sJ:0<=1000000:=by omega
 clear hd hbs bt hR hH hx ;go_enter Tryz.func28,Tryz.ntmps28;go_wp2_with fail;refine (U5 w HD.out).mono ?_;rintro e w1 ⟨rfl,hb1⟩;rw[hlen];have bH:=JY (HD.out.below hb1);have aI:=JY (aJ.out.below hb1 aJ.out.size);have ag:=JY hb1;have hs1:=hb1.size;clear hb1;go_wp2_with fail;refine (WK db n a 0 x (by omega) (by omega) sJ hxl HH.out (by omega) w1 bH.out aI.out bD.out).mono ?_;rintro e w2 ⟨p,q,v,rfl,d',C',r,hev,hop,dZ,hgr,fq⟩;have lQ:=JY hev;have bj:=JY hop;have eo:=JY dZ;have dU:=JY hgr;have hs2:=hgr.1.size;have aT:Hid (Gr C C' w w2):=JY ((Gr.refl C w).below ag.out |>.trans hgr);rcases fq with ⟨rfl,sb,rfl,rfl,g1,g2,g3,g4⟩ | ⟨bC,nj,cU⟩
 · obtain rfl:v = .nilIface:=(hev.resolve_right (fun q=>by rcases q.1 with q | q<;>omega)).2;have HS:=JY g3;have sj:=JY g4;clear hev hop dZ hgr g3 g4;go_wp2_with fail;have hE:=AF (w2.alloc (.cells #[.string ⟨x.toArray⟩, .int .i64 0] 119)) (.cells #[.pointer (some ⟨sb,0,none⟩), .pointer none, .slice none 0 0, .map none, .map none, .int .i64 0] 106);have jy:=((AD w2.heap.size w2).alloc (AC _) (.cells #[.string ⟨x.toArray⟩, .int .i64 0] 119)).alloc (by simp) (.cells #[.pointer (some ⟨sb,0,none⟩), .pointer none, .slice none 0 0, .map none, .map none, .int .i64 0] 106);have bw:((w2.alloc (.cells #[.string ⟨x.toArray⟩, .int .i64 0] 119)).alloc (.cells #[.pointer (some ⟨sb,0,none⟩), .pointer none, .slice none 0 0, .map none, .map none, .int .i64 0] 106)).heap.size=w2.heap.size+2:=by simp
   obtain ⟨u,hu⟩:∃ u,(w2.alloc (.cells #[.string ⟨x.toArray⟩, .int .i64 0] 119)).alloc (.cells #[.pointer (some ⟨sb,0,none⟩), .pointer none, .slice none 0 0, .map none, .map none, .int .i64 0] 106)=u:=⟨_,rfl⟩
   have hE':Qq (w2.heap.size+1) (.pointer (some ⟨sb,0,none⟩)) (.pointer none) (.slice none 0 0) (.map none) (.map none) (.int .i64 0) u:=by
    unfold Qq;rw[<- hu];simpa using hE
   rw[hu] at jy bw |-;have hsl:=HS.out.lt;have hl2:=eo.out.lt;have qD:=aJ.out.size;have Cg:=bj.out.rb;have HP:Hid (Xk C' (w2.heap.size+1) sb db n a x.length 0 (short KH x) d' u):=JY ⟨hE',HS.out.below jy,eo.out.below jy,⟨fun k=>by have:=hl2 _ k;omega,g2⟩,by omega,(dU.out.base aI.out bD.out).below jy (dU.out.base aI.out bD.out).size,⟨by omega,by omega,aT.out.low bD.out qD⟩,⟨by omega,by omega⟩⟩;have kU:=JY (aT.out.below jy);clear hu hE hE' jy HS eo dU aT hl2;refine (j5.out C' (w2.heap.size+1) sb d' u HP.out).mono ?_;rintro e w3 ⟨rfl,mb,pm,fm,E,N,k1,k2,k3,k4,kn,kf⟩;have bW:=JY k1;have bP:=JY kf;clear k1 kf;have HN:=JY kn;clear kn;go_wp2_with fail;go_ret2;refine ⟨_,_,rfl,d',C',0, .inl ⟨rfl,rfl⟩,bj.out.more (by omega),bW.out.dk,⟨kU.out.1.next bP.out (by omega) (fun q hq (e:q=w2.heap.size+1)=>by omega),kU.out.2⟩, .inl ⟨rfl,w2.heap.size+1,sb,rfl,sj.out,mb,pm,fm,E,N,bW.out,⟨by omega,by omega,by omega,by omega,by omega⟩,fun g hg=>by have:=HN.out g hg;omega⟩⟩
 · obtain ⟨hp,hq⟩:p = .pointer none/\q = .agg #[.string ⟨#[]⟩, .int .i64 0]:=by
    unfold aa8 at nj;simp only[List.cons.injEq,and_true] at nj;exact nj
   obtain ⟨hr2,ty,qb,rfl, -⟩:=hev.form.resolve_left (fun q=>bC q.1);subst hp hq;clear hev hop dZ hgr nj;go_wp2_with fail;have hba:=(AD w2.heap.size w2).alloc (AC _) (.cells #[.string ⟨#[]⟩, .int .i64 0] 119);have pj:=JY (lQ.out.below hba);have kU:=JY (aT.out.below hba);have oX:=JY (eo.out.below hba);have hs3:=hba.size;clear hba lQ aT eo dU;refine (Pe _ w.heap.size _ r _ (pj.out.base (by omega)) (by omega)).mono ?_;rintro e w4 ⟨v4,rfl,q1,q2⟩;have iX:=JY q1;have aB:=JY q2;clear q1 q2;go_wp2_with fail;go_ret2;exact ⟨_,v4,rfl,d',C',r,iX.out,bj.out.more (by omega),oX.out.below aB.out,kU.out.below aB.out, .inr ⟨bC,rfl,cU⟩⟩
theorem ae4{d:Dx} (db n a:Nat) (D:VM Hv.PD) (G:VM S) (xs:List S) (pl:Hv.Plan) (m:Nat) (hm0:m<pl.steps.length) (hne:0<xs.length) (eD:Hv.check n D G xs = .ok pl) (iE:Pm n pl (Hv.KG D pl.Le,G)) (bE:Lf D) (cL:Qe \/ ∀ s,Hv.wish xs = .ok s->∀ k d,Hv.get s.I k=some d->KX d.st.runs/\KX d.st.Kn) (hlen:d.now.length=n) (hnn:64<=n/\n<=4096) (hR:LP D G xs) (hH:Has n d.now a (Hv.KU D G xs) m) (au:d.calls+2000000<1000000000000) (w:World) (hd:Kq C db d w) (hbs:Base w) (bt:∀ k,C k->12<=k) :
 Calls Tryz.prog 28 #[SN db] w (ahK C db d 1000200 (fun C' eb sb d' w'=>Md n a (Hv.KU D G xs) m d'/\alb C' eb sb db n a (Hv.KU D G xs) m d' D G pl w.heap.size w') w):=by
 have HD:=JY hd;have aJ:=JY hbs;have bD:=JY bt;have HR:=JY hR;have HH:=JY hH;have hrb:=hd.rb.2;have fS:=JY hd.lt;have hxl:=hR.len;have j5:=JY (fun (C':Nat->Prop) (eb sb:Nat) (d':Dx) (w':World) (hp:Xk C' eb sb db n a (Hv.KU D G xs).length m (short KH (Hv.KU D G xs)) d' w')=>abv (C:=C') eb sb db n a (Hv.KU D G xs).length m (short KH (Hv.KU D G xs)) d' D G xs pl m hm0 hne eD iE bE cL (by omega) hR w' hp);obtain ⟨x,hx⟩:∃ x,Hv.KU D G xs=x:=⟨_,rfl⟩
 rw[hx] at HH hxl j5 |-;have sJ:m<=1000000:=by have:=iE.len;omega
 clear hd hbs bt hR hH hx eD iE bE cL;go_enter Tryz.func28,Tryz.ntmps28;go_wp2_with fail;refine (U5 w HD.out).mono ?_;rintro e w1 ⟨rfl,hb1⟩;rw[hlen];have bH:=JY (HD.out.below hb1);have aI:=JY (aJ.out.below hb1 aJ.out.size);have ag:=JY hb1;have hs1:=hb1.size;clear hb1;go_wp2_with fail;refine (WK db n a m x (by omega) (by omega) sJ hxl HH.out (by omega) w1 bH.out aI.out bD.out).mono ?_;rintro e w2 ⟨p,q,v,rfl,d',C',r,hev,hop,dZ,hgr,fq⟩;have lQ:=JY hev;have bj:=JY hop;have eo:=JY dZ;have dU:=JY hgr;have hs2:=hgr.1.size;have aT:Hid (Gr C C' w w2):=JY ((Gr.refl C w).below ag.out |>.trans hgr);rcases fq with ⟨rfl,sb,rfl,rfl,g1,g2,g3,g4⟩ | ⟨bC,nj,cU⟩
 · obtain rfl:v = .nilIface:=(hev.resolve_right (fun q=>by rcases q.1 with q | q<;>omega)).2;have HS:=JY g3;have sj:=JY g4;clear hev hop dZ hgr g3 g4;go_wp2_with fail;have hE:=AF (w2.alloc (.cells #[.string ⟨x.toArray⟩, .int .i64 (m:Int)] 119)) (.cells #[.pointer (some ⟨sb,0,none⟩), .pointer none, .slice none 0 0, .map none, .map none, .int .i64 0] 106);have jy:=((AD w2.heap.size w2).alloc (AC _) (.cells #[.string ⟨x.toArray⟩, .int .i64 (m:Int)] 119)).alloc (by simp) (.cells #[.pointer (some ⟨sb,0,none⟩), .pointer none, .slice none 0 0, .map none, .map none, .int .i64 0] 106);have bw:((w2.alloc (.cells #[.string ⟨x.toArray⟩, .int .i64 (m:Int)] 119)).alloc (.cells #[.pointer (some ⟨sb,0,none⟩), .pointer none, .slice none 0 0, .map none, .map none, .int .i64 0] 106)).heap.size=w2.heap.size+2:=by simp
   obtain ⟨u,hu⟩:∃ u,(w2.alloc (.cells #[.string ⟨x.toArray⟩, .int .i64 (m:Int)] 119)).alloc (.cells #[.pointer (some ⟨sb,0,none⟩), .pointer none, .slice none 0 0, .map none, .map none, .int .i64 0] 106)=u:=⟨_,rfl⟩
   have hE':Qq (w2.heap.size+1) (.pointer (some ⟨sb,0,none⟩)) (.pointer none) (.slice none 0 0) (.map none) (.map none) (.int .i64 0) u:=by
    unfold Qq;rw[<- hu];simpa using hE
   rw[hu] at jy bw |-;have hsl:=HS.out.lt;have hl2:=eo.out.lt;have qD:=aJ.out.size;have Cg:=bj.out.rb;have HP:Hid (Xk C' (w2.heap.size+1) sb db n a x.length m (short KH x) d' u):=JY ⟨hE',HS.out.below jy,eo.out.below jy,⟨fun k=>by have:=hl2 _ k;omega,g2⟩,by omega,(dU.out.base aI.out bD.out).below jy (dU.out.base aI.out bD.out).size,⟨by omega,by omega,aT.out.low bD.out qD⟩,⟨by omega,by omega⟩⟩;have kU:=JY (aT.out.below jy);clear hu hE hE' jy HS eo dU aT hl2;refine (j5.out C' (w2.heap.size+1) sb d' u HP.out).mono ?_;rintro e w3 ⟨rfl,mb,pm,fm,P,N,M,sa,sc,im,km,k1,kp,E8,E7,k2,k3,k4,kn,kf⟩;have bW:=JY k1;have bP:=JY kf;clear k1 kf;have HN:=JY kn;have pN:=JY kp;have FK:=JY E8;have y8:=JY E7;clear kn kp E8 E7;go_wp2_with fail;go_ret2;refine ⟨_,_,rfl,d',C',0, .inl ⟨rfl,rfl⟩,bj.out.more (by omega),bW.out.dk,⟨kU.out.1.next bP.out (by omega) (fun q hq e=>by
    rcases e with e | e | e | e | e
    · exact (kU.out.2 q e).resolve_right (by omega)
    · omega
    · omega
    · omega
    · omega),kU.out.2⟩, .inl ⟨rfl,w2.heap.size+1,sb,rfl,sj.out,mb,pm,fm,P,N,M,sa,sc,im,km,bW.out,pN.out,FK.out,y8.out,⟨by omega,by omega,by omega,by omega,by omega⟩,fun g hg=>by have:=HN.out g hg;omega⟩⟩
 · obtain ⟨hp,hq⟩:p = .pointer none/\q = .agg #[.string ⟨#[]⟩, .int .i64 0]:=by
    unfold aa8 at nj;simp only[List.cons.injEq,and_true] at nj;exact nj
   obtain ⟨hr2,ty,qb,rfl, -⟩:=hev.form.resolve_left (fun q=>bC q.1);subst hp hq;clear hev hop dZ hgr nj;go_wp2_with fail;have hba:=(AD w2.heap.size w2).alloc (AC _) (.cells #[.string ⟨#[]⟩, .int .i64 0] 119);have pj:=JY (lQ.out.below hba);have kU:=JY (aT.out.below hba);have oX:=JY (eo.out.below hba);have hs3:=hba.size;clear hba lQ aT eo dU;refine (Pe _ w.heap.size _ r _ (pj.out.base (by omega)) (by omega)).mono ?_;rintro e w4 ⟨v4,rfl,q1,q2⟩;have iX:=JY q1;have aB:=JY q2;clear q1 q2;go_wp2_with fail;go_ret2;exact ⟨_,v4,rfl,d',C',r,iX.out,bj.out.more (by omega),oX.out.below aB.out,kU.out.below aB.out, .inr ⟨bC,rfl,cU⟩⟩
end
end Go.Proofs.YtfhmaiicimdldaaGreatDoor
namespace Go.Proofs
abbrev Tryz.muLink:Go.Conc.Locks.MuLink:={ lock:=19,unlock:=20,ilock:=34,iunlock:=35,lockSlow:=65,unlockSlow:=68,disable:=61,enable:=63,acquire:=64,relMerge:=66,cas32:=62,add32:=67,tMutex:=69,tIMutex:=67,tPMutex:=94,tPIMutex:=139,tPI32:=141,tUP:=143,tNoCopy:=64,tU32:=65 }
theorem Tryz.muLib:Go.Conc.Locks.MuLib Tryz.prog Tryz.muLink :=
 ⟨Tryz.func19,Tryz.func20,Tryz.func34,Tryz.func35,Tryz.func61,Tryz.func63,Tryz.func64,Tryz.func66,Tryz.func62,Tryz.func67,Tryz.underlying67,Tryz.runUnderlying67,Tryz.sizeOf67,Tryz.isAgg67,Tryz.zeroValue67,Tryz.underlying69,Tryz.runUnderlying69,Tryz.sizeOf69,Tryz.isAgg69,Tryz.zeroValue69,Tryz.underlying94,Tryz.runUnderlying94,Tryz.sizeOf94,Tryz.isAgg94,Tryz.zeroValue94,Tryz.underlying139,Tryz.runUnderlying139,Tryz.sizeOf139,Tryz.isAgg139,Tryz.zeroValue139,Tryz.underlying141,Tryz.runUnderlying141,Tryz.sizeOf141,Tryz.isAgg141,Tryz.zeroValue141,Tryz.underlying143,Tryz.runUnderlying143,Tryz.sizeOf143,Tryz.isAgg143,Tryz.zeroValue143,Tryz.underlying64,Tryz.runUnderlying64,Tryz.sizeOf64,Tryz.isAgg64,Tryz.zeroValue64,Tryz.underlying21,Tryz.runUnderlying21,Tryz.sizeOf21,Tryz.isAgg21,Tryz.zeroValue21,(by kernel_rfl)⟩
end Go.Proofs
namespace Go.Proofs.YtfhmaiicimdldaaGreatDoor
variable {L a b c db dn eb fm hb mb n pm sb:Nat}{x y:Addr}{C N:Nat->Prop}{w w':World}{im km sv:Value}
section
open Go.RowKit
open Go.MuLone
open Kw (St ME)
open Hv (S Dk VM)
theorem T9(hb:Nat) (w:World) :
 Calls Tryz.prog 22 #[.pointer (some ⟨hb,0,none⟩), .nilIface] w fun e w'=>e = .returned (.int .i64 0)/\Below w.heap.size w w':=by
 go_enter Tryz.func22,Tryz.ntmps22;go_wp2_with fail;refine (adG w).mono ?_;rintro e w1 ⟨rfl,hb1⟩;have ag:=JY hb1;clear hb1;go_wp2_with fail;go_ret;exact ⟨rfl,ag.out⟩
end
section
open Go.RowKit
open Kw (St)
open Hv (S Dx VM Ns Has All)
structure Ph (L:Nat) (x y:Addr) (w:World):Prop where
 base:Base w
 errs:Tn x y w
 ty:afY w
 low:12<=L/\x.block<L/\y.block<L/\L<=w.heap.size
theorem Ph.far(h:Ph L x y w) (hf:Kj w.heap.size C w w') (hC:∀ k,C k->L<=k):Ph L x y w':=by
 obtain ⟨l1,l2,l3,l4⟩:=h.low;have hg:2<w.heap.size:=B5 w ⟨2,0,none⟩ h.ty;refine ⟨h.base.far hf h.base.size (fun k q=>by have:=hC k q;omega),h.errs.far hf (fun k q=>by have:=hC k q;exact ⟨by omega,by omega,by omega⟩),(hf.cell (p:=⟨2,0,none⟩) hg (fun q => ?_)).trans h.ty,l1,l2,l3,by have:=hf.size;omega⟩;have q2:L<=2:=hC _ q;have h2:2<12:=by decide
 omega
theorem Ph.below(h:Ph L x y w) (hb:Below w.heap.size w w'):Ph L x y w':=h.far (Kj.of (C:=fun _=>False) hb (AC _)) (fun _ q=>q.elim)
theorem ae5{d:Dx} (w:World) (h:Kq C db d w) (h1:64<=d.now.length) (h2:d.now.length<=4096) :
 Calls Tryz.prog 27 #[SN db] w fun e w'=>e = .returned (.bool true)/\w'=w:=by
 have HD:=JY h;clear h;unfold SN;have hm:=UL db;have b1:(64:Int)<=(d.now.length:Int):=by omega
 have b2:(d.now.length:Int)<=4096:=by omega
 go_enter Tryz.func27,Tryz.ntmps27;go_wp2_with (go_at_call 342;refine (adz _ HD.out).mono ?_;rintro e w1 ⟨rfl,rfl⟩)
 go_ret;exact ⟨rfl,rfl⟩
def ZF (eb:Nat):Array Value := #[.int .i32 0, .int .u32 0, .pointer (some ⟨eb,0,none⟩)]
def ald (C:Nat->Prop) (db:Nat) (d:Dx) (K:Nat) (ok:(Nat->Prop)->Nat->Nat->Dx->World->Prop) (w:World) (e:Ending) (w':World):Prop:=∃ p r,e = .returned (.tuple #[p, .int .i64 r])/\∃ d' C',Ns d d' r K/\Kq C' db d' w'/\Gr C C' w w'/\((r=0/\∃ hb eb sb w1,p = .pointer (some ⟨hb,0,none⟩)/\hb=w1.heap.size/\w.heap.size<=w1.heap.size/\ok C' eb sb d' w1/\w'=w1.alloc (.cells (ZF eb) 72))\/(r≠0/\p = .pointer none/\(d'.core=d.core\/d'.core=d.flush.core)))
theorem abt{d:Dx}   (db K:Nat) (ok:(Nat->Prop)->Nat->Nat->Dx->World->Prop) (h1:64<=d.now.length) (h2:d.now.length<=4096) (w:World) (hd:Kq C db d w) (hE:Ph L x y w) (hC:∀ k,C k->L<=k)
 (hop:Calls Tryz.prog 28 #[SN db] w (ahK C db d K ok w)) :
 Calls Tryz.prog 12 #[SN db] w (ald C db d K ok w):=by
 have HD:=JY hd;have HE:=JY hE;have j4:=JY hop;clear hd hE hop;go_enter Tryz.func12,Tryz.ntmps12;go_wp2_with fail;refine (ae5 w HD.out h1 h2).mono ?_;rintro e w1 ⟨rfl,rfl⟩;go_wp2_with fail;refine j4.out.mono ?_;rintro e w2 ⟨p,v,rfl,d',C',r,hev,hop,dZ,hgr,fq⟩;have lQ:=JY hev;have bj:=JY hop;have eo:=JY dZ;have dU:=JY hgr;rcases fq with ⟨rfl,eb,sb,rfl,hok⟩ | ⟨bC,rfl,cU⟩
 · obtain rfl:v = .nilIface:=(hev.resolve_right (fun q=>by rcases q.1 with q | q<;>omega)).2;have gV:=JY hok;clear hev hop dZ hgr hok;go_wp2_with fail;go_ret2;exact ⟨_,0,rfl,d',C',bj.out,eo.out.alloc _,dU.out.alloc _, .inl ⟨rfl,_,eb,sb,w2,rfl,rfl,dU.out.1.size,gV.out,rfl⟩⟩
 · obtain ⟨hr2,ty,qb,rfl, -⟩:=hev.form.resolve_left (fun q=>bC q.1);have bh:=JY (HE.out.far hgr.1 hC);clear hev hop dZ hgr;go_wp2_with fail;refine (abp x y w1.heap.size _ r w2 bh.out.errs bh.out.ty lQ.out).mono ?_;rintro e w3 ⟨rfl,hb3⟩;have av:=JY hb3;clear hb3;go_wp2_with fail;go_ret2;exact ⟨_,r,rfl,d',C',bj.out,eo.out.below av.out,dU.out.below av.out, .inr ⟨bC,rfl,cU⟩⟩
theorem ak7{d:Dx}   (db:Nat) (h1:64<=d.now.length) (h2:d.now.length<=4096) (aW:∀ i,d.may.getD i []=[]) (au:d.calls+100<1000000000000) (w:World) (hd:Kq C db d w) (hE:Ph L x y w) (hC:∀ k,C k->L<=k) :
 Calls Tryz.prog 13 #[SN db] w fun e w'=>∃ r,e = .returned (.int .i64 r)/\∃ d' C',Ns d d' r 8/\Kq C' db d' w'/\Gr C C' w w'/\((r=0/\Md d.now.length 0 [] 0 d')\/r≠0):=by
 have HD:=JY hd;have HE:=JY hE;have HM:=JY aW;have bD:=JY (show ∀ k,C k->12<=k from fun k q=>by have:=hC k q;have:=hE.low;omega);clear hd hE aW;go_enter Tryz.func13,Tryz.ntmps13;go_wp2_with fail;refine (ae5 w HD.out h1 h2).mono ?_;rintro e w1 ⟨rfl,rfl⟩;go_wp2_with fail;refine (ajG (n:=d.now.length) (by omega) rfl HM.out au w1 HD.out HE.out.base bD.out).mono ?_;rintro e w2 ⟨v,rfl,d',C',r,hev,hop,dZ,hgr,fq⟩;have bh:=JY (HE.out.far hgr.1 hC);have lQ:=JY hev;have bj:=JY hop;have eo:=JY dZ;have dU:=JY hgr;have r9:=JY fq;clear hev hop dZ hgr fq;go_wp2_with fail;refine (abp x y w1.heap.size _ r w2 bh.out.errs bh.out.ty lQ.out).mono ?_;rintro e w3 ⟨rfl,hb3⟩;have av:=JY hb3;clear hb3;go_wp2_with fail;go_ret;exact ⟨r,rfl,d',C',bj.out,eo.out.below av.out,dU.out.below av.out,r9.out.imp id (fun q=>q.1)⟩
theorem abu{d:Dx}   (db:Nat) (h1:64<=d.now.length) (h2:d.now.length<=4096) (iN:d.now[0]? = some (List.replicate 256 0)) (dz:d.calm) (au:d.calls+500<1000000000000) (w:World) (hd:Kq C db d w) (hE:Ph L x y w) (hC:∀ k,C k->L<=k) :
 Calls Tryz.prog 12 #[SN db] w fun e w'=>e = .returned (.tuple #[.pointer none, .int .i64 4])/\∃ d' C',Ns d d' 0 200/\Kq C' db d' w'/\Gr C C' w w'/\d'.core=d.flush.core:=by
 have HD:=JY hd;have HE:=JY hE;have bD:=JY (show ∀ k,C k->12<=k from fun k q=>by have:=hC k q;have:=hE.low;omega);have j4:Hid (Calls Tryz.prog 28 #[SN db] w fun e w'=>∃ pb,e = .returned (.tuple #[.pointer none, .iface 183 (.pointer (some ⟨pb,0,none⟩))])/\w'.cell? ⟨pb,1,none⟩=some (Rz x)/\∃ d' C',Ns d d' 0 200/\Kq C' db d' w'/\Gr C C' w w'/\d'.core=d.flush.core):=JY (by
  have bA:=JY hC;clear hd hE;go_enter Tryz.func28,Tryz.ntmps28;go_wp2_with fail;refine (U5 w HD.out).mono ?_;rintro e w1 ⟨rfl,hb1⟩;have bH:=JY (HD.out.below hb1);have aH:=JY (HE.out.below hb1);have ag:=JY hb1;clear hb1;go_wp2_with fail;refine (adx db d.now.length (Rz x) iN au w1 bH.out aH.out.base bD.out aH.out.errs.nothing).mono ?_;rintro e w2 ⟨v,rfl,d',C',r,hop,dZ,hgr,fq⟩;rcases fq with ⟨rfl,rfl,cU⟩ | ⟨bC, -⟩
  · have bj:=JY hop;have eo:=JY dZ;have aT:Hid (Gr C C' w w2):=JY (((Gr.refl C w).below ag.out).trans hgr);clear hop dZ hgr;unfold Rz;go_wp2_with fail;refine (ajD _ x _).mono ?_;rintro e w3 ⟨rfl,rfl⟩;go_wp2_with fail;go_ret2;exact ⟨w2.heap.size+1,rfl,by simp[Rz],d',C',bj.out,(eo.out.alloc _).alloc _,(aT.out.alloc _).alloc _,cU⟩
  · exact absurd dz (hop.no bC).1)
 clear hd hE;go_enter Tryz.func12,Tryz.ntmps12;go_wp2_with fail;refine (ae5 w HD.out h1 h2).mono ?_;rintro e w1 ⟨rfl,rfl⟩;go_wp2_with fail;refine j4.out.mono ?_;rintro e w2 ⟨pb,rfl,hp,d',C',hop,dZ,hgr,cU⟩;have bh:=JY (HE.out.far hgr.1 hC);have bj:=JY hop;have eo:=JY dZ;have dU:=JY hgr;have HP:=JY hp;clear hop dZ hgr hp;go_wp2_with fail;refine (abJ x y pb w2 bh.out.errs HP.out).mono ?_;rintro e w3 ⟨rfl,hb3⟩;have av:=JY hb3;clear hb3;go_wp2_with fail;go_ret2;exact ⟨rfl,d',C',bj.out,eo.out.below av.out,dU.out.below av.out,cU⟩
end
section
open Go.RowKit
open Go.MuLone
open Kw (St ME)
open Hv (S Dx VM Ns All)
variable {h:S}{P:VM Value}{D:VM Hv.PD}{G:VM S}
structure Mj (C N:Nat->Prop) (hb eb sb mb pm fm db n a b c:Nat) (h:S) (d:Dx) (P:VM Value) (D:VM Hv.PD) (G:VM S) (sv im km:Value) (dn:Nat) (w:World):Prop where
 blk:w.heap[hb]? = some (.cells #[.int .i32 0, .int .u32 0, .pointer (some ⟨eb,0,none⟩)] 72 (0,0))
 Lu:LJ C N eb sb mb pm fm db n a b c h d P D G sv im km dn w
 off : ¬ C hb /\ ¬ N hb/\hb≠eb/\hb≠sb/\hb≠mb/\hb≠pm/\hb≠fm/\d.rb≠hb
 low:12<=hb
theorem Mj.below{d:Dx}      (e:Mj C N hb eb sb mb pm fm db n a b c h d P D G sv im km dn w) (q:Below w.heap.size w w'):Mj C N hb eb sb mb pm fm db n a b c h d P D G sv im km dn w' :=
 ⟨(q.block hb (blt e.blk)).trans e.blk,e.Lu.below q,e.off,e.low⟩
theorem LJ.aside{d:Dx}       (e:LJ C N eb sb mb pm fm db n a b c h d P D G sv im km dn w) (ho : ¬ C hb /\ ¬ N hb/\hb≠eb/\hb≠sb/\hb≠mb/\hb≠pm/\hb≠fm/\d.rb≠hb) (hl:12<=hb) (hf:Kj w.heap.size (fun q=>q=hb) w w'):LJ C N eb sb mb pm fm db n a b c h d P D G sv im km dn w':=by
 obtain ⟨o1,o2,o3,o4,o5,o6,o7,o8⟩:=ho;refine ⟨e.Lu.kept (hf.block eb (blt e.Lu) (fun q=>o3 q.symm)),e.st.far hf (AC _) (fun q=>o4 q.symm),e.La.far hf (AC _) ⟨fun q=>o5 q.symm,fun q=>o6 q.symm,fun q=>o7 q.symm⟩,e.pk.far hf (AC _) (fun g _ hg (q:g=hb)=>o2 (q▸hg)),e.dk.far hf (AC _) (fun k hk (q:k=hb)=>hk.elim (fun hk=>o1 (q▸hk)) (fun hk=>o8 (hk▸q))),e.off,e.apart,fun g hg=>⟨B3 (e.rows g hg).1 hf.size,(e.rows g hg).2⟩,e.base.far hf e.base.size (fun k (q:k=hb)=>by rw[q];exact hl),e.low,e.frb⟩
theorem Mj.locked{d:Dx}      (e:Mj C N hb eb sb mb pm fm db n a b c h d P D G sv im km dn w) :
 (w.setCell ⟨hb,0,none⟩ (.int .i32 1)).heap[hb]? = some (.cells #[.int .i32 1, .int .u32 0, .pointer (some ⟨eb,0,none⟩)] 72 (0,0))/\LJ C N eb sb mb pm fm db n a b c h d P D G sv im km dn (w.setCell ⟨hb,0,none⟩ (.int .i32 1))/\Kj w.heap.size (fun q=>q=hb) w (w.setCell ⟨hb,0,none⟩ (.int .i32 1)):=by
 have hf:Kj w.heap.size (fun q=>q=hb) w (w.setCell ⟨hb,0,none⟩ (.int .i32 1)):=(Kj.refl w.heap.size (fun q=>q=hb) w).setCell (p:=⟨hb,0,none⟩) (.inr rfl) _;exact ⟨AI _ hb 0 _ _ _ e.blk,e.Lu.aside e.off e.low hf,hf⟩
theorem Mj.free{d:Dx}      (e1:w.heap[hb]? = some (.cells #[.int .i32 1, .int .u32 0, .pointer (some ⟨eb,0,none⟩)] 72 (0,0))) (e2:LJ C N eb sb mb pm fm db n a b c h d P D G sv im km dn w) (ho : ¬ C hb /\ ¬ N hb/\hb≠eb/\hb≠sb/\hb≠mb/\hb≠pm/\hb≠fm/\d.rb≠hb) (hl:12<=hb):Mj C N hb eb sb mb pm fm db n a b c h d P D G sv im km dn (w.setCell ⟨hb,0,none⟩ (.int .i32 0)) :=
 ⟨AI _ hb 0 _ _ _ e1,e2.aside ho hl ((Kj.refl w.heap.size (fun q=>q=hb) w).setCell (p:=⟨hb,0,none⟩) (.inr rfl) _),ho,hl⟩
theorem Reads.locked{v:Value} {xs:List S}  (h:Reads w v xs) (oH:∀ g,v.ownBlock=some g->g≠hb):Reads (w.setCell ⟨hb,0,none⟩ (.int .i32 1)) v xs:=by
 rcases h with q | ⟨g,cc,rfl,hg,hc⟩
 · exact .inl q
 · exact .inr ⟨g,cc,rfl,by simpa using hg,fun j x hj=>(Fo _ _ _ _ (fun e=>oH g rfl (by injection e with e1;exact e1.symm))).trans (hc j x hj)⟩
theorem YV(hb B:Nat) (p v:Value) (r:Int) (hr:r≠0) (w:World) (hblk:w.heap[hb]? = some (.cells #[.int .i32 1, .int .u32 0,p] 72 (0,0))) (hE:Ph L x y w) (hL:L<=hb) (hv:EV B w v r) (hB:hb<B) :
 Calls Tryz.prog 22 #[.pointer (some ⟨hb,0,none⟩),v] w fun e w'=>e = .returned (.int .i64 r)/\w'.heap[hb]? = some (.cells #[.int .i32 1, .int .u32 0, .pointer none] 72 (0,0))/\Kj w.heap.size (fun k=>k=hb) w w':=by
 have c2:=(JZ hblk 2).trans (show _=some p from rfl);have f2:=J2 hblk 2;have hf:Kj w.heap.size (fun q=>q=hb) w (w.setCell ⟨hb,2,none⟩ (.pointer none)):=(Kj.refl w.heap.size (fun q=>q=hb) w).setCell (p:=⟨hb,2,none⟩) (.inr rfl) _;have aH:=JY (hE.far hf (fun k q=>by subst q;exact hL));have fe:=JY (hv.kept (fun k hk hkl=>hf.block k hkl (by omega)));have ag:=JY (AI _ hb 2 _ _ (.pointer none) hblk);have HF:=JY hf;obtain ⟨-,ty,qb,rfl, -⟩:=hv.form.resolve_left (fun q=>hr q.1);clear hblk hE hv hf;go_enter Tryz.func22,Tryz.ntmps22;go_wp2_with fail;refine (abp x y B _ r _ aH.out.errs aH.out.ty fe.out).mono ?_;rintro e w1 ⟨rfl,hb1⟩;have HX:=JY hb1;clear hb1;go_wp2_with fail;go_ret;exact ⟨rfl,(HX.out.block hb (blt ag.out)).trans ag.out,HF.out.below HX.out (by simp)⟩
end
end Go.Proofs.YtfhmaiicimdldaaGreatDoor
