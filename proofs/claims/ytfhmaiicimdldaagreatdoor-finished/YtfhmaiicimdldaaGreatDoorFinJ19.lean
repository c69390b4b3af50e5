import Derived.Test.YtfhmaiicimdldaaGreatDoorFinJ18
set_option maxHeartbeats 4000000
set_option maxRecDepth 100000
namespace Go.Proofs.YtfhmaiicimdldaaGreatDoor
variable {X w w4 wr:World}{B B' na nf:Nat}{vf:Value}{o:Obj}
section
open Go.RowKit
open Kw (St ME)
open Hv (S Dk VM)
theorem ajy{xs:List S} {k:Int} (h:Hv.wish xs = .error k):k=6\/k=7:=by
 unfold Hv.wish at h;split at h
 · cases h;exact .inl rfl
 · split at h
   · cases h;exact .inl rfl
   · split at h
     · cases h;exact .inr rfl
     · cases h
theorem PZ(h:X.heap[B]? = some (.cells #[.slice none 0 0, .map none, .map none] 100 (0,0))) (a b c:Value) :
 X.cell? ⟨B,0,none⟩=some (.slice none 0 0)/\X.cell? ⟨B,1,none⟩=some (.map none)/\X.cell? ⟨B,2,none⟩=some (.map none)/\X.frozen? ⟨B,0,none⟩=false/\X.frozen? ⟨B,1,none⟩=false/\X.frozen? ⟨B,2,none⟩=false /\
  (((X.setCell ⟨B,0,none⟩ a).setCell ⟨B,1,none⟩ b).setCell ⟨B,2,none⟩ c).cell? ⟨B,0,none⟩=some a/\(((X.setCell ⟨B,0,none⟩ a).setCell ⟨B,1,none⟩ b).setCell ⟨B,2,none⟩ c).cell? ⟨B,1,none⟩=some b/\(((X.setCell ⟨B,0,none⟩ a).setCell ⟨B,1,none⟩ b).setCell ⟨B,2,none⟩ c).cell? ⟨B,2,none⟩=some c:=by
 have h3:=AI _ _ 2 _ _ c (AI _ _ 1 _ _ b (AI _ _ 0 _ _ a h));exact ⟨(JZ h 0).trans rfl,(JZ h 1).trans rfl,(JZ h 2).trans rfl,J2 h 0,J2 h 1,J2 h 2,(JZ h3 0).trans rfl,(JZ h3 1).trans rfl,(JZ h3 2).trans rfl⟩
theorem PY(h:Below B' w X) (hB:B'<=B) (a b c:Value):Below B' w (((X.setCell ⟨B,0,none⟩ a).setCell ⟨B,1,none⟩ b).setCell ⟨B,2,none⟩ c):=((h.setCell (p:=⟨B,0,none⟩) hB _).setCell (p:=⟨B,1,none⟩) hB _).setCell (p:=⟨B,2,none⟩) hB _
theorem Tg(D:VM Hv.PD) (R:VM Value) (I:VM Hv.PD):LY D R I=0->Hv.OC D R=false/\(Hv.Ko D R I).length<=12:=fun h=>by
 unfold LY at h;split at h
 · cases h
 next h1 =>
  split at h
  · cases h
  · split at h
    · cases h
    next h3=>exact ⟨by simpa using h1,by omega⟩
theorem ai8{B0:Nat} {pl:Hv.Plan} {sv:Value} {im km:Nat} (hp:MR B0 pl sv im km X) (hr:X.heap[B]? = some (.cells #[.slice none 0 0, .map none, .map none] 100 (0,0))) (a b c:Value):MR B0 pl sv im km (((X.setCell ⟨B,0,none⟩ a).setCell ⟨B,1,none⟩ b).setCell ⟨B,2,none⟩ c):=by
 have hf:=(((Kj.refl X.heap.size (fun q=>q=B) X).setCell (p:=⟨B,0,none⟩) (.inr rfl) a).setCell (p:=⟨B,1,none⟩) (.inr rfl) b).setCell (p:=⟨B,2,none⟩) (.inr rfl) c;have hc:Pf X (fun q=>q=B) (fun t=>t=100):=fun g hg=>by
  obtain rfl:g=B:=hg;exact ⟨_,_,_,hr,rfl⟩
 obtain ⟨I,i1,i2⟩:=hp.ins;obtain ⟨K,k1,k2⟩:=hp.Le;exact ⟨RO hp.row hf (AC _) (hc.no (fun t ht=>by rw[ht];decide)),⟨I,hc.map i1 hf (AC _),i2.foreign hf (AC _) (hc.ama (fun t ht i=>by rw[ht];exact aeG (by decide) (by decide) (by decide) (by decide) i))⟩,⟨K,hc.map k1 hf (AC _),k2.foreign hf (AC _) (hc.no (fun t ht=>by rw[ht];decide))⟩,hp.ge⟩
def Ri (n:Int) (D:VM Hv.PD) (G:VM S) (xs:List S) (w:World) (e:Ending) (w':World):Prop :=
 match Hv.check n D G xs with
 | .error k=>e = .returned (.tuple #[.agg #[.slice none 0 0, .map none, .map none], .int .i64 k])/\Below w.heap.size w w'
 | .ok pl=>∃ sv im km,e = .returned (.tuple #[.agg #[sv, .map (some im), .map (some km)], .int .i64 0])/\MR w.heap.size pl sv im km w'/\Below w.heap.size w w'
theorem Zw(mb pm fm:Nat) (P:VM Value) (D:VM Hv.PD) (G:VM S) (N:Nat->Prop) (n:Int) (hn:0<=n/\n<=4096) (v:Value) (xs:List S) (he:Rl xs) (hxl:xs.length<=1000000) (hxs:∀ x∈xs,x.length<=1000000000000) (hDl:D.length<=12) (bE:Lf D) (cL:Qe \/ ∀ s,Hv.wish xs = .ok s->∀ k d,Hv.get s.I k=some d->KX d.st.runs/\KX d.st.Kn) (hG:G.length<=16) (hS:Hv.Short 200 G) (w:World) (hb:Base w) (h:Kh mb pm fm P (Hv.Kk G) w) (hP:Ls N w D P) (hv:Reads w v xs) :
 Calls Tryz.prog 37 #[.pointer (some ⟨mb,0,none⟩),v, .int .i64 n] w (Ri n D G xs w):=by
 obtain ⟨va,vc,rfl, -⟩:=hv.form;have HM:=JY h;have aD:=JY hP;have HV:=JY hv;have aJ:=JY hb;have gS:=JY bE;have jt:=JY hxs;have HS:=JY hS;have oV:=JY cL;have kR:=JY he;have bX:P.length<=12:=by have:=hP.len h.packs.1;omega
 have aY:=blt h.blk;have rL:xs.length<=maxLen:=by unfold maxLen;omega
 have fw:=JY hP.Mt;have iP:=JY (Hv.KM h.files.1);clear h hP hv hb bE hxs hS cL he;go_enter Tryz.func37,Tryz.ntmps37;go_wp2_with fail;have hb0:=(AD w.heap.size w).alloc (AC _) (.cells #[.slice none 0 0, .map none, .map none] 100);have hrow:=AF w (.cells #[.slice none 0 0, .map none, .map none] 100);have bw:(w.alloc (.cells #[.slice none 0 0, .map none, .map none] 100)).heap.size=w.heap.size+1:=by simp
 have aQ:=JY (HM.out.below hb0);have bB:=JY (aD.out.below hb0);have fe:=JY (HV.out.below hb0);have aI:=JY (aJ.out.below hb0 aJ.out.size);have aC:=JY hb0;obtain ⟨u,hu⟩:∃ u,w.alloc (.cells #[.slice none 0 0, .map none, .map none] 100)=u:=⟨_,rfl⟩
 obtain ⟨B,hB⟩:∃ B,w.heap.size=B:=⟨_,rfl⟩
 rw[hu] at hrow bw aQ bB fe aI aC |-;rw[hB] at hrow bw aC |-;have bJ:=JY hB;have bg:=JY hrow;clear hu hb0 hrow HM aD HV aJ;refine (ae1 xs kR.out (.slice va xs.length vc) u fe.out rL aI.out).mono ?_;rintro e w1 hp1;unfold Rp at hp1;cases hw:Hv.wish xs with
 | error k =>
   rw[hw] at hp1;obtain ⟨rfl,hb1⟩:=hp1;have HE:Hid (Hv.check n D G xs = .error k):=JY (by unfold Hv.check;rw[hw]);have hr1:=(hb1.block B (by omega)).trans bg.out;have ag:=JY (aC.out.trans (hb1.mono (by omega)));have hs1:=hb1.size;have bO:=JY hr1;clear hb1 hr1;have sH : ¬ k=0:=by rcases ajy hw with rfl | rfl<;>decide
   have eB:=(AD w1.heap.size w1).alloc (AC _) (.cells #[.map none, .map none] 148);have hrx:=(eB.block B (blt bO.out)).trans bO.out;have gQ:=JY (PY (B:=B) (ag.out.trans (eB.mono (by omega))) (AC _) (.slice none 0 0) (.map none) (.map none));obtain ⟨r0,r1,r2,f0,f1,f2,n0,n1,n2⟩:=PZ hrx (.slice none 0 0) (.map none) (.map none);clear eB hrx hw;go_wp2_with fail;refine IH (v := .tuple #[.agg #[.slice none 0 0, .map none, .map none], .int .i64 k]) (by simp[results,Tryz.results37,go_sem,n0,n1,n2]) rfl ?_;unfold Ri;rw[HE.out,bJ.out];exact ⟨rfl,gQ.out⟩
 | ok s =>
   rw[hw] at hp1;obtain ⟨rm,im,I,rfl,EY,hR,hI,Ed,D7,rE,him,hb1⟩:=hp1;have bL:=JY EY;have HR:=JY hR;have cj:=JY hI;have hgd:=Hv.aaw hw;have iu:=JY hgd;have hr1:=(hb1.block B (by omega)).trans bg.out;have ag:=JY (aC.out.trans (hb1.mono (by omega)));have cI:=JY (aQ.out.below hb1);have bQ:=JY (bB.out.below hb1);have bY:=JY (fe.out.below hb1);have hs1:=hb1.size;have bO:=JY hr1;have eB:=(AD w1.heap.size w1).alloc (AC _) (.cells #[.map (some rm), .map (some im)] 148);have fD:=JY ((eB.block B (blt bO.out)).trans bO.out);have mq:=JY (bL.out.below eB);have tO:=JY (cj.out.below eB);have kV:=JY (cI.out.below eB);have yc:=JY (bQ.out.below eB);have Ar:=JY (bY.out.below eB);have gQ:=JY (ag.out.trans (eB.mono (by omega)));have hwx:=AF w1 (.cells #[.map (some rm), .map (some im)] 148);have xo:(w1.alloc (.cells #[.map (some rm), .map (some im)] 148)).heap.size=w1.heap.size+1:=by simp
   have m0:=(JZ kV.out.blk 0).trans (show _=some (.map (some pm)) from rfl);obtain ⟨x1,hx1⟩:∃ x1,w1.alloc (.cells #[.map (some rm), .map (some im)] 148)=x1:=⟨_,rfl⟩
   rw[hx1] at fD mq tO kV yc Ar gQ hwx xo m0;have ql:=JY hwx;have y0:=(JZ hwx 0).trans (show _=some (.map (some rm)) from rfl);have y1:=(JZ hwx 1).trans (show _=some (.map (some im)) from rfl);clear EY hI hb1 hr1 eB hwx hgd hR;have FV:=JY aQ.out.packs.1;have GR:s.I.length<=6:=by have:=tO.out.len mq.out.ins.1;omega
   have uv:=JY (aeJ pm rm im P s.R I D s.I (fun g=>N g\/u.heap.size<=g) x1.drew kV.out.packs.drew ⟨mq.out.rem.drew,mq.out.ins.drew,mq.out.ne⟩ HR.out ((yc.out.weak (fun g h => .inl h)).below ((AD _ x1).drew)) ((tO.out.weak (fun g h => .inr h)).below ((AD _ x1).drew)) (by omega));have eG:=JY gQ.out.drew;have nR:=JY hw;clear hw;go_wp2_with fail;obtain ⟨A,hA⟩:∃ A,w1.heap.size=A:=⟨_,rfl⟩
   have I0:=JY hA;rw[hA] at ql y0 y1 xo hs1 |-;clear hA
   go_region_held3 (fun w'=>w'.cell? ⟨mb,0,none⟩=some (.map (some pm))/\w'.cell? ⟨A,0,none⟩=some (.map (some rm))/\w'.cell? ⟨A,1,none⟩=some (.map (some im)))
    (first | assumption | exact ⟨m0,y0,y1⟩ | exact ⟨m2,y2,y3⟩ | simp[go_sem, *])
    (first
     | (go_at_call 71;refine uv.out.mono ?_;rintro e w2 ⟨rfl,hb2⟩;have hb2:Below x1.heap.size x1 w2:=⟨hb2.os,hb2.tape,hb2.output,hb2.size,hb2.block⟩;have ah:=JY hb2;have m2:=(JZ (kV.out.below hb2).blk 0).trans (show _=some (.map (some pm)) from rfl);have y2:=(JZ ((hb2.block A (blt ql.out)).trans ql.out) 0).trans (show _=some (.map (some rm)) from rfl);have y3:=(JZ ((hb2.block A (blt ql.out)).trans ql.out) 1).trans (show _=some (.map (some im)) from rfl);clear hb2))
   have xV:=JY (show (Hv.check n D G xs)=if LY D s.R s.I≠0 then .error (LY D s.R s.I) else if Hv.LZ (Hv.KC D s.R s.I) (D,G) (Hv.KC D s.R s.I).steps=true then .error 15 else if Oj n D xs=true then .error 14 else .ok (Hv.KC D s.R s.I) by unfold Hv.check;rw[nR.out]);have xL:=JY (Tg D s.R s.I);have pD:=JY (kV.out.below ah.out);have pT:=JY (yc.out.below ah.out);have uP:=JY (mq.out.below ah.out);have tQ:=JY (tO.out.below ah.out);have uN:=JY (Ar.out.below ah.out);have eK:=JY ((ah.out.block B (blt fD.out)).trans fD.out);have oO:=JY (gQ.out.trans (ah.out.mono (by omega)));have Av:=JY ((ah.out.block A (blt ql.out)).trans ql.out);have hs2:=ah.out.size;obtain ⟨ri,Ch⟩:∃ ri,LY D s.R s.I=ri:=⟨_,rfl⟩
   rw[Ch] at xV xL |-;clear Ch uv eG kV yc mq tO Ar fD gQ cI bQ bY aQ bB fe bL cj;by_cases h0:ri=0
   · subst h0;have hab:=(xL.out rfl).1;go_wp2_with fail;refine (aiP mb pm fm rm im P (Hv.Kk G) s.R I D s.I N B HR.out (by omega) (by omega) bX hab gS.out.named iu.out.1 w2 pD.out uP.out pT.out (tQ.out.weak (fun g hg=>by omega)) (by omega)).mono ?_;rintro e w3 ⟨sv,km,rfl,cN,hb3⟩;obtain ⟨sa,sc,Ct⟩:=J4 cN.row;have zz:Hid ((Hv.check n D G xs)=if Hv.LZ (Hv.KC D s.R s.I) (D,G) (Hv.KC D s.R s.I).steps=true then .error 15 else if Oj n D xs=true then .error 14 else .ok (Hv.KC D s.R s.I)):=JY (by rw[xV.out,Bm (by simp)]);have gV:=JY (Hv.acQ (R:=s.R) fw.out iP.out iu.out.2.1:Hv.NA (Hv.KC D s.R s.I) (D,G) (Hv.KC D s.R s.I).steps);have nJ:=JY (Hv.Ww (R:=s.R) gS.out.named iu.out.1 fw.out iu.out.2.1);have hlen:=Hv.ZW D s.R s.I;have qo:=JY (ZX (R:=s.R) gS.out.named iu.out.1 fw.out iu.out.2.1 (by omega) (by omega));have xW:Hid (Lf (Hv.KC D s.R s.I).ins):=JY ⟨iu.out.1,oV.out.imp id (fun f=>f s nR.out)⟩;obtain ⟨pl,wO⟩:∃ pl,Hv.KC D s.R s.I=pl:=⟨_,rfl⟩
     rw[wO] at cN Ct zz gV nJ hlen qo xW;obtain ⟨ns,hns⟩:∃ ns,pl.steps.length=ns:=⟨_,rfl⟩
     rw[hns] at hlen Ct;subst Ct;have jZ:=JY hns;have pO:=JY cN;have av:=JY hb3;have hs3:=hb3.size;have eB:=(AD w3.heap.size w3).alloc (AC _) (.cells #[.slice sa ns sc, .map (some im), .map (some km)] 100);have hpx:=AF w3 (.cells #[.slice sa ns sc, .map (some im), .map (some km)] 100);have ju:=(av.out.mono (AC _)).trans (eB.mono hs3);have dJ:=JY (pD.out.below ju);have dY:=JY (pT.out.below ju);have iX:=JY (uN.out.below ju);have pP:=JY (pO.out.below eB);have fE:=JY ((ju.block B (blt eK.out)).trans eK.out);have sV:=JY (oO.out.trans (ju.mono (by omega)));have Cu:(w3.alloc (.cells #[.slice sa ns sc, .map (some im), .map (some km)] 100)).heap.size=w3.heap.size+1:=by simp
     obtain ⟨w4,hw4⟩:∃ w4,w3.alloc (.cells #[.slice sa ns sc, .map (some im), .map (some km)] 100)=w4:=⟨_,rfl⟩
     rw[hw4] at hpx dJ dY iX pP fE sV Cu;have p0:=(JZ hpx 0).trans (show _=some (.slice sa ns sc) from rfl);have p1:=(JZ hpx 1).trans (show _=some (.map (some im)) from rfl);have p2:=(JZ hpx 2).trans (show _=some (.map (some km)) from rfl);have Ad:=JY hpx;clear cN hb3 eB hpx ju wO hns pD pT uP tQ uN eK oO Av xV hab;go_wp2_with fail;refine (ai4 mb pm fm P D G N B pl (.slice sa ns sc) im km gV.out nJ.out (by have:=jZ.out;omega) hDl gS.out xW.out hG HS.out qo.out w4 dJ.out dY.out pP.out).mono ?_;rintro e w5 ⟨rfl,aG⟩;have eI:=JY (dJ.out.below aG);have eJ:=JY (dY.out.below aG);have nQ:=JY (iX.out.below aG);have Aa:=JY (pP.out.below aG);have jr:=JY ((aG.block B (blt fE.out)).trans fE.out);have sX:=JY (sV.out.trans (aG.mono (by omega)));have Ae:=JY ((aG.block w3.heap.size (by omega)).trans Ad.out);have hs5:=aG.size;clear aG p0 p1 p2;cases ho:Hv.LZ pl (D,G) pl.steps
     · have CW:Hid ((Hv.check n D G xs)=if Oj n D xs=true then .error 14 else .ok pl):=JY (by rw[zz.out,ho];rfl);go_wp2_with fail;refine (XZ n hn mb pm fm P (Hv.Kk G) D N (.slice va xs.length vc) xs hxl (fun x hx=>by have:=jt.out x hx;omega) w5 eI.out eJ.out nQ.out).mono ?_;rintro e w6 ⟨rfl,aN⟩;have Ab:=JY (Aa.out.below aN);have pY:=JY ((aN.block B (blt jr.out)).trans jr.out);have sY:=JY (sX.out.trans (aN.mono (by omega)));have pU:=JY ((aN.block w3.heap.size (by omega)).trans Ae.out);have kI:=aN.size;clear aN;cases hsm:Oj n D xs
       · have HE:Hid (Hv.check n D G xs = .ok pl):=JY (by rw[CW.out,hsm];rfl);have p0:=(JZ pU.out 0).trans (show _=some (.slice sa ns sc) from rfl);have p1:=(JZ pU.out 1).trans (show _=some (.map (some im)) from rfl);have p2:=(JZ pU.out 2).trans (show _=some (.map (some km)) from rfl);have lN:=JY (PY (B:=B) sY.out (AC _) (.slice sa ns sc) (.map (some im)) (.map (some km)));obtain ⟨r0,r1,r2,f0,f1,f2,n0,n1,n2⟩:=PZ pY.out (.slice sa ns sc) (.map (some im)) (.map (some km));have Ac:=JY (ai8 Ab.out pY.out (.slice sa ns sc) (.map (some im)) (.map (some km)));go_wp2_with fail;refine IH (v := .tuple #[.agg #[.slice sa ns sc, .map (some im), .map (some km)], .int .i64 0]) (by simp[results,Tryz.results37,go_sem,n0,n1,n2]) rfl ?_;unfold Ri;rw[HE.out,bJ.out];exact ⟨_,im,km,rfl,Ac.out,lN.out⟩
       · have HE:Hid (Hv.check n D G xs = .error 14):=JY (by rw[CW.out,hsm];rfl);have lN:=JY (PY (B:=B) sY.out (AC _) (.slice none 0 0) (.map none) (.map none));obtain ⟨r0,r1,r2,f0,f1,f2,n0,n1,n2⟩:=PZ pY.out (.slice none 0 0) (.map none) (.map none);go_wp2_with fail;refine IH (v := .tuple #[.agg #[.slice none 0 0, .map none, .map none], .int .i64 14]) (by simp[results,Tryz.results37,go_sem,n0,n1,n2]) rfl ?_;unfold Ri;rw[HE.out,bJ.out];exact ⟨rfl,lN.out⟩
     · have HE:Hid (Hv.check n D G xs = .error 15):=JY (by rw[zz.out,ho];rfl);have lN:=JY (PY (B:=B) sX.out (AC _) (.slice none 0 0) (.map none) (.map none));obtain ⟨r0,r1,r2,f0,f1,f2,n0,n1,n2⟩:=PZ jr.out (.slice none 0 0) (.map none) (.map none);go_wp2_with fail;refine IH (v := .tuple #[.agg #[.slice none 0 0, .map none, .map none], .int .i64 15]) (by simp[results,Tryz.results37,go_sem,n0,n1,n2]) rfl ?_;unfold Ri;rw[HE.out,bJ.out];exact ⟨rfl,lN.out⟩
   · have HE:Hid (Hv.check n D G xs = .error ri):=JY (by rw[xV.out,By h0]);have lN:=JY (PY (B:=B) oO.out (AC _) (.slice none 0 0) (.map none) (.map none));obtain ⟨r0,r1,r2,f0,f1,f2,n0,n1,n2⟩:=PZ eK.out (.slice none 0 0) (.map none) (.map none);go_wp2_with fail;refine IH (v := .tuple #[.agg #[.slice none 0 0, .map none, .map none], .int .i64 ri]) (by simp[results,Tryz.results37,go_sem,n0,n1,n2]) rfl ?_;unfold Ri;rw[HE.out,bJ.out];exact ⟨rfl,lN.out⟩
end
section
open Hv (S VM)
namespace Hv
def KV:S:=[97,114,99,104,105,118,101]
def Nf:S:=[102,105,108,101,32]
def Ng:S:=[105,116,101,109]
def Pb (words x:S):S:=words++([32]++(Lib.itoa x.length++([10]++x)))
def NU (ts:List S):S:=ts.flatMap (Pb KV)
def Ni (fs:List (S × S)):S:=fs.flatMap fun f=>Pb (Nf++f.1) f.2
def NZ (xs:List S):S:=xs.flatMap (Pb Ng)
def K8 (D:VM PD):List S:=D.map fun p=>p.2.text
def KU (D:VM PD) (G:VM S) (xs:List S):S:=NU (K8 D)++Ni G++NZ xs
theorem RQ(words x:S) (hx:x.length<=1000000):(Pb words x).length<=words.length+x.length+23:=by
 have:=Lib.itoa_length_le x.length (by omega) (by omega);simp only[Pb,AS,CI,List.length_nil];omega
theorem Xp(ts:List S) (h:∀ x∈ts,x.length<=1000000):(NU ts).length<=(ts.map List.length).sum+30*ts.length:=by
 induction ts with
 | nil=>simp[NU]
 | cons x ts ih =>
   have:=ih (fun y hy=>h y (by simp[hy]));have:=RQ KV x (h x (by simp));simp only[NU,Fc,AS,Cp,FG,CI] at *;have:KV.length=7:=rfl;omega
theorem acv(ts:List S) (h:∀ x∈ts,x.length<=1000000):(NZ ts).length<=(ts.map List.length).sum+27*ts.length:=by
 induction ts with
 | nil=>simp[NZ]
 | cons x ts ih =>
   have:=ih (fun y hy=>h y (by simp[hy]));have:=RQ Ng x (h x (by simp));simp only[NZ,Fc,AS,Cp,FG,CI] at *;have:Ng.length=4:=rfl;omega
theorem aio(fs:List (S × S)) (h:∀ f∈fs,f.1.length<=24/\f.2.length<=200):(Ni fs).length<=260*fs.length:=by
 induction fs with
 | nil=>simp[Ni]
 | cons f fs ih =>
   have:=ih (fun y hy=>h y (by simp[hy]));have h1:=h f (by simp);have:=RQ (Nf++f.1) f.2 (by omega);simp only[Ni,Fc,AS,CI] at *;have:Nf.length=5:=rfl;omega
theorem acW(D:VM PD):((K8 D).map List.length).sum=LG D:=by simp[K8,LG,List.map_map,Function.comp_def]
theorem afD(D:VM PD) (G:VM S) (xs:List S) (hD:∀ p∈D,p.2.text.length<=2000) (hl:D.length<=12) (hG:∀ f∈G,f.1.length<=24/\f.2.length<=200) (hg:G.length<=16) (hx:∀ x∈xs,x.length<=1000000) (hxl:xs.length<=6) :
 (KU D G xs).length<=LG D+(xs.map List.length).sum+4682:=by
 have h1:=Xp (K8 D) (fun x hx=>by obtain ⟨p,hp,rfl⟩:=List.mem_map.1 hx;have:=hD p hp;omega);have h2:=aio G hG;have h3:=acv xs hx;rw[acW] at h1;have:(K8 D).length=D.length:=by simp[K8]
 simp only[KU,AS];omega
end Hv
end
section
open Go.RowKit
open Kw (St ME)
open Hv (S Dk VM)
variable {ts:List S}{fs:List (S × S)}
theorem ab9(p:Pk) (w:World):(Instr.field 169 p.val 0).run Tryz.prog w = .ok (.string ⟨p.text.toArray⟩) w:=by kernel_rfl
theorem acp:(Tryz.prog.info? 117).map (fun i=>(i.zero,i.size,i.bytes))=some (some (.agg #[.string ByteArray.empty, .string ByteArray.empty]),2,32):=by kernel_rfl
theorem aeI{T:Nat} {x y z:Value} (h:X.heap[B]? = some (.cells #[x,y,z] T (0,0))) (a b c:Value) :
 X.cell? ⟨B,0,none⟩=some x/\X.cell? ⟨B,1,none⟩=some y/\X.cell? ⟨B,2,none⟩=some z/\X.frozen? ⟨B,0,none⟩=false/\X.frozen? ⟨B,1,none⟩=false/\X.frozen? ⟨B,2,none⟩=false /\
  (((X.setCell ⟨B,0,none⟩ a).setCell ⟨B,1,none⟩ b).setCell ⟨B,2,none⟩ c).cell? ⟨B,0,none⟩=some a/\(((X.setCell ⟨B,0,none⟩ a).setCell ⟨B,1,none⟩ b).setCell ⟨B,2,none⟩ c).cell? ⟨B,1,none⟩=some b/\(((X.setCell ⟨B,0,none⟩ a).setCell ⟨B,1,none⟩ b).setCell ⟨B,2,none⟩ c).cell? ⟨B,2,none⟩=some c:=by
 have h3:=AI _ _ 2 _ _ c (AI _ _ 1 _ _ b (AI _ _ 0 _ _ a h));exact ⟨(JZ h 0).trans rfl,(JZ h 1).trans rfl,(JZ h 2).trans rfl,J2 h 0,J2 h 1,J2 h 2,(JZ h3 0).trans rfl,(JZ h3 1).trans rfl,(JZ h3 2).trans rfl⟩
theorem aak{b0 e s n:Nat} {v:Value} {xs:List Value} (h:X.ownsRow b0 e s v n xs) (hB:B<b0) (a b c:Value):(((X.setCell ⟨B,0,none⟩ a).setCell ⟨B,1,none⟩ b).setCell ⟨B,2,none⟩ c).ownsRow b0 e s v n xs:=by
 have hne:v.ownBlock≠some B:=fun e=>by have:=(h.lt B e).1;omega
 exact KT (KT (KT h hne) hne) hne
theorem adl(h:Below B' w X) (hB:B'<=B) (a b c:Value):Below B' w (((X.setCell ⟨B,0,none⟩ a).setCell ⟨B,1,none⟩ b).setCell ⟨B,2,none⟩ c):=((h.setCell (p:=⟨B,0,none⟩) hB _).setCell (p:=⟨B,1,none⟩) hB _).setCell (p:=⟨B,2,none⟩) hB _
structure Tq (B:Nat) (va:Value) (na:Nat) (vf:Value) (nf:Nat) (ts:List S) (fs:List (S × S)) (w wr:World):Prop where
 res:wr.heap[B]? = some (.cells #[.slice none 0 0, .slice none 0 0, .slice none 0 0] 109 (0,0))
 Pq:wr.heap[B+1]? = some (.cells #[va,vf, .slice none 0 0] 109 (0,0))
 YX:wr.ownsRow (B+2) 9 1 va na (ts.map Kl)
 file:wr.ownsRow (B+2) 117 2 vf nf (fs.flatMap Lj)
 K7:Below B w wr
 size:B+2<=wr.heap.size
theorem Tq.below{va:Value}   {w':World} (h:Tq B va na vf nf ts fs w wr) (hb:Below wr.heap.size wr w'):Tq B va na vf nf ts fs w w' :=
 ⟨(hb.block B (blt h.res)).trans h.res,(hb.block _ (blt h.Pq)).trans h.Pq,Ky h.YX hb,Ky h.file hb,h.K7.trans (hb.mono (by have:=h.size;omega)),Bi h.size hb.size⟩
theorem Tq.anw{va va':Value}     {x:S} (h:Tq B va na vf nf ts fs w wr) (hg:(wr.alloc o).grownBy w4 va.ownBlock) (hown:w4.ownsRow (B+2) 9 1 va' (na+1) (ts.map Kl++[Kl x])):Tq B va' (na+1) vf nf (ts++[x]) fs w (w4.setCell ⟨B+1,0,none⟩ va'):=by
 have hs:=h.size;have hk:∀ k,k<wr.heap.size->va.ownBlock≠some k->w4.heap[k]? = wr.heap[k]? := fun k hk hne=>(hg.block k (by simp;omega) (fun e=>hne e.symm)).trans (AM _ _ _ hk)
 have hlo:∀ k,k<B+2->va.ownBlock≠some k:=fun k hk e=>by have:=(h.YX.lt k e).1;omega
 have hsz:wr.heap.size<=w4.heap.size:=Bi (by simp) hg.size;refine ⟨(BY _ _ _ _ (by show B≠B+1;omega)).trans ((hk B (blt h.res) (hlo B (by omega))).trans h.res),AI _ _ 0 _ _ _ ((hk _ (blt h.Pq) (hlo _ (by omega))).trans h.Pq),?_,?_,?_,by simp[World.setCell];omega⟩
 · rw[GB];exact KT hown (fun e=>by have:=(hown.lt _ e).1;omega)
 · refine KT (Kg h.file fun g hgb=>hk g (h.file.lt g hgb).2 (fun e=>N7 h.YX h.file (by decide) e hgb)) (fun e=>by have:=(h.file.lt _ e).1;omega)
 · refine Below.setCell (p:=⟨B+1,0,none⟩) ?_ (by show B<=B+1;omega) _;exact (h.K7.alloc (by omega) o).grown hg (by simp;omega) (fun q hq=>by have:=(h.YX.lt q hq).1;omega)
theorem Tq.anx{va vf':Value}     {x:S × S} (h:Tq B va na vf nf ts fs w wr) (hg:(wr.alloc o).grownBy w4 vf.ownBlock) (hown:w4.ownsRow (B+2) 117 2 vf' (nf+1) (fs.flatMap Lj++Lj x)):Tq B va na vf' (nf+1) ts (fs++[x]) w (w4.setCell ⟨B+1,1,none⟩ vf'):=by
 have hs:=h.size;have hk:∀ k,k<wr.heap.size->vf.ownBlock≠some k->w4.heap[k]? = wr.heap[k]? := fun k hk hne=>(hg.block k (by simp;omega) (fun e=>hne e.symm)).trans (AM _ _ _ hk)
 have hlo:∀ k,k<B+2->vf.ownBlock≠some k:=fun k hk e=>by have:=(h.file.lt k e).1;omega
 have hsz:wr.heap.size<=w4.heap.size:=Bi (by simp) hg.size;refine ⟨(BY _ _ _ _ (by show B≠B+1;omega)).trans ((hk B (blt h.res) (hlo B (by omega))).trans h.res),AI _ _ 1 _ _ _ ((hk _ (blt h.Pq) (hlo _ (by omega))).trans h.Pq),?_,?_,?_,by simp[World.setCell];omega⟩
 · refine KT (Kg h.YX fun g hgb=>hk g (h.YX.lt g hgb).2 (fun e=>N7 h.file h.YX (by decide) e hgb)) (fun e=>by have:=(h.YX.lt _ e).1;omega)
 · have e:(fs++[x]).flatMap Lj=fs.flatMap Lj++Lj x:=by simp
   rw[e];exact KT hown (fun e=>by have:=(hown.lt _ e).1;omega)
 · refine Below.setCell (p:=⟨B+1,1,none⟩) ?_ (by show B<=B+1;omega) _;exact (h.K7.alloc (by omega) o).grown hg (by simp;omega) (fun q hq=>by have:=(h.file.lt q hq).1;omega)
theorem Yq(mb pm fm:Nat) (P:VM Value) (D:VM Hv.PD) (G:VM S) (N:Nat->Prop) (hDl:D.length<=1000) (bE:Hv.Named D) (hG:G.length<=1000) (GN:∀ p∈G,p.1.length<=100) (w:World) (h:Kh mb pm fm P (Hv.Kk G) w) (hP:Ls N w D P) :
 Calls Tryz.prog 39 #[.pointer (some ⟨mb,0,none⟩)] w fun e w'=>∃ va vf,e = .returned (.agg #[va,vf, .slice none 0 0])/\w'.ownsRow w.heap.size 9 1 va D.length ((Hv.K8 D).map Kl)/\w'.ownsRow w.heap.size 117 2 vf G.length (G.flatMap Lj)/\Below w.heap.size w w':=by
 obtain ⟨i0,hi,hz0,hz1,hz2⟩:=KJ PS;have HM:=JY h;have aD:=JY hP;have gS:=JY bE;have bX:P.length=D.length:=hP.len h.packs.1;have aY:=blt h.blk;clear h hP bE;go_enter Tryz.func39,Tryz.ntmps39;have hb0:=(AD w.heap.size w).alloc (AC _) (.cells #[.slice none 0 0, .slice none 0 0, .slice none 0 0] 109);have hb1:=hb0.alloc (by simp) (.cells #[.slice none 0 0, .slice none 0 0, .slice none 0 0] 109);have hs0:(w.alloc (.cells #[.slice none 0 0, .slice none 0 0, .slice none 0 0] 109)).heap.size=w.heap.size+1:=by simp
 have hs1:((w.alloc (.cells #[.slice none 0 0, .slice none 0 0, .slice none 0 0] 109)).alloc (.cells #[.slice none 0 0, .slice none 0 0, .slice none 0 0] 109)).heap.size=w.heap.size+2:=by simp
 have bC:=(AM (w.alloc (.cells #[.slice none 0 0, .slice none 0 0, .slice none 0 0] 109)) (.cells #[.slice none 0 0, .slice none 0 0, .slice none 0 0] 109) w.heap.size (by simp)).trans (AF w (.cells #[.slice none 0 0, .slice none 0 0, .slice none 0 0] 109));have hr1:=AF (w.alloc (.cells #[.slice none 0 0, .slice none 0 0, .slice none 0 0] 109)) (.cells #[.slice none 0 0, .slice none 0 0, .slice none 0 0] 109);rw[hs0] at hr1;go_wp2_with fail;obtain ⟨u,hu⟩:∃ u,(w.alloc (.cells #[.slice none 0 0, .slice none 0 0, .slice none 0 0] 109)).alloc (.cells #[.slice none 0 0, .slice none 0 0, .slice none 0 0] 109)=u:=⟨_,rfl⟩
 obtain ⟨B,hB⟩:∃ B,w.heap.size=B:=⟨_,rfl⟩
 rw[hu] at hb1 hs1 bC hr1 |-;rw[hB] at hb1 hs1 bC hr1 aY |-;have ay:Hid (Tq B (.slice none 0 0) 0 (.slice none 0 0) 0 [] [] w u):=JY ⟨bC,hr1,Cf _ _ _ _,Cf _ _ _ _,hb1,by omega⟩;have bJ:=JY hB;have aQ:=JY (HM.out.below (show Below w.heap.size w u by rw[hB];exact hb1));clear hb0 hb1 hs0 bC hr1 hu hB;refine (Vt mb pm fm P (Hv.Kk G) (by omega) u aQ.out).mono ?_;rintro e w1 ⟨nv,rfl,aA,hb1⟩;rw[aD.out.keys HM.out.packs.1] at aA;have cj:=JY (ay.out.below hb1);have hkl:(J3 D).length=D.length:=by simp[J3]
 obtain ⟨na,nc,rfl⟩:=J4 aA;rw[hkl] at aA |-;have pF:=JY aA;have hs2:=hb1.size;obtain ⟨nd,hnd⟩:∃ nd,D.length=nd:=⟨_,rfl⟩
 have dO:=JY hnd;rw[hnd] at hDl |-;have yj:=JY hb1;clear hb1 aA ay hnd hkl bX;go_wp2_with fail;go_loopw [11] (fun i wr=>∃ (k:Nat) (ao:Option Addr) (ac:Nat),k<=nd/\i = .int .i64 (k:Int)/\Hid (Tq B (.slice ao k ac) k (.slice none 0 0) 0 ((Hv.K8 D).take k) [] w wr)/\Hid (Kj w1.heap.size (fun q=>q=B+1) w1 wr)/\Hid (∀ q,(Value.slice ao k ac).ownBlock=some q->w1.heap.size<=q)) (fun i _=>nd-(intOf i).toNat)
 case atStart=>exact ⟨0,none,0,Bs _,rfl,cj,JY (Kj.refl _ _ _),JY (fun q h=>by cases h)⟩
 case round =>
  clear cj;obtain ⟨k,ao,ac,hk,rfl,HI,HB,fP⟩:=hrel;by_cases hlt:k<nd
  · have b1:(k:Int)<(nd:Int):=by omega
    have mV:k<D.length:=by have:=dO.out;omega
    have hkk:k<(J3 D).length:=by simp[J3];omega
    obtain ⟨g,c',hv2,hg,q1⟩:=MV (l:=J3 D) (v := .slice na nd nc) (w:=w1) (B:=u.heap.size) (e:=9) (by have h:=pF.out;rw[show (J3 D).length=D.length by simp[J3]];rw[dO.out] at h |-;exact h) hkk;obtain rfl:na=some ⟨g,0,none⟩:=(DS hv2).1;have ig:u.heap.size<=g:=VA pF.out rfl;have d1:=(HB.out.cell (p:=⟨g,k,none⟩) hg (by show ¬ g=B+1;omega)).trans q1;have hget:Hv.get D (J3 D)[k]=some D[k].2:=by
     rw[Hv.get_some aD.out.Mt];have:(J3 D)[k]=D[k].1:=by simp[J3]
     rw[this];exact B1 mV
    have hnl:=gS.out.len (k:=(J3 D)[k]) (by rw[Hv.J9,hget];rfl);obtain ⟨v,hv,hr⟩:=aD.out.Vk _ _ hget;obtain ⟨p,rfl,p1, -⟩:=hr;have hT:(Hv.K8 D).take (k+1)=(Hv.K8 D).take k++[p.text]:=by
     rw[AT (show k<(Hv.K8 D).length by simpa [Hv.K8] using mV)];rw[p1];simp[Hv.K8]
    have HT:=JY hT;have HV:=JY hv;obtain ⟨x,hx⟩:∃ x,(J3 D)[k]=x:=⟨_,rfl⟩
    rw[hx] at d1 HV hnl;have fG:=HM.out.below (show Below w.heap.size w wr by rw[bJ.out];exact HI.out.K7);have eF:=fG.packs;have m0:=(JZ fG.blk 0).trans (show _=some (.map (some pm)) from rfl);have r0:=(JZ HI.out.Pq 0).trans (show _=some (.slice ao k ac) from rfl);have g0:=J2 HI.out.Pq 0;have gN:x.length<=maxLen:=by unfold maxLen;omega
    have hf:=ab9 p;have HA:=JY HI.out.YX;have HIS:=HI.out.size;have Jd:=HI.out.size;clear hv2 q1 hget hv hT hx fG p1;simp only[Pk.val,Pk.cells] at hf;have hlk:=eF.drew.look IS (KW _) x gN;rw[HV.out] at hlk;simp only[DE,Pk.val,Pk.cells] at hlk;have hown0:wr.drew.ownsRow (B+2) 9 1 (.slice ao k ac) k (((Hv.K8 D).take k).map Kl):=HA.out;obtain ⟨ys,hys⟩:∃ ys,((Hv.K8 D).take k).map Kl=ys:=⟨_,rfl⟩
    have qr:=JY hys;rw[hys] at hown0;have gX:=JY HI.out.Pq;have jg:=JY (fun q (e:(Value.slice ao k ac).ownBlock=some q)=>(HA.out.lt q e).1);clear hys eF;have JM:=(Mv (w:=wr) (b:=B+1) (j:=0) (by omega) (.cells #[.string ⟨p.text.toArray⟩] 9)).trans r0;go_wp2_with fail
    go_region_law (refine LW rfl _ _ 31 rfl (B+2) 9 i0 (.string ByteArray.empty) 1 16 Tryz.underlying31 hi hz0 hz1 hz2 rfl (by decide) (.slice ao k ac) k ys (by simp[Act.eval]) (hown0.alloc _) ⟨wr.heap.size,0,none⟩ 1 1 [_] (by simp[Act.eval]) rfl (cell_one_new _ _ _) (fun x hx=>by simp at hx;subst hx;rfl) (by unfold maxLen;omega) (by omega) (by simp;omega) ?_;intro v' w4 hown' KF Nj RG;obtain ⟨gv,cv,rfl⟩:=Kt hown' (by omega);have hk4:=(KF.block (B+1) (by simp;omega) (fun e=>by have:=jg.out (B+1) e.symm;omega)).trans ((AM _ _ _ (by show B+1<wr.heap.size;omega)).trans gX.out);have q5:=(JZ hk4 0).trans (show _=some (.slice ao k ac) from rfl);have g5:=J2 hk4 0;have O4:=JY hown';have G4:=JY KF;have A4:=JY RG;clear hown' KF Nj RG hk4)
    all_goals
     have hg4:(wr.alloc (.cells #[.string ⟨p.text.toArray⟩] 9)).grownBy w4 (Value.slice ao k ac).ownBlock:=⟨G4.out.os,G4.out.tape,G4.out.output,G4.out.size,G4.out.block⟩;have aM:Hid (Tq B (.slice (some ⟨gv,0,none⟩) (k+1) cv) (k+1) (.slice none 0 0) 0 ((Hv.K8 D).take (k+1)) [] w (w4.setCell ⟨B+1,0,none⟩ (.slice (some ⟨gv,0,none⟩) (k+1) cv))):=JY (by
      rw[HT.out];exact HI.out.anw hg4 (by rw[qr.out];exact O4.out))
     have ah:Hid (Kj w1.heap.size (fun q=>q=B+1) w1 (w4.setCell ⟨B+1,0,none⟩ (.slice (some ⟨gv,0,none⟩) (k+1) cv))):=JY (by
      exact ((HB.out.alloc HB.out.size _).grown hg4 (by have:=HB.out.size;simp;omega) (fun q hq => .inl (fP.out q hq))).setCell (p:=⟨B+1,0,none⟩) (.inr rfl) _)
     have lS:Hid (∀ q,(Value.slice (some ⟨gv,0,none⟩) (k+1) cv).ownBlock=some q->w1.heap.size<=q):=JY (fun q hq=>by
      have e2:gv=q:=Cd hq;rcases A4.out with h | h
      · exact fP.out q (by rw[<- e2];exact h.symm)
      · have h2:=Cd h;simp at h2;have:=HB.out.size;omega)
     clear hg4;go_wp2_with fail;go_roundw
     case rel=>exact ⟨k+1,_,cv,by omega,by go_num,aM,ah,lS⟩
     case measure=>simp[intOf];omega
  · obtain rfl:k=nd:=by omega
    have b1 : ¬ (k:Int)<(k:Int):=by omega
    have fG:=HM.out.below (show Below w.heap.size w wr by rw[bJ.out];exact HI.out.K7);have rW:=JY fG;have m1:=(JZ fG.blk 1).trans (show _=some (.map (some fm)) from rfl);have iw:Hid (Tq B (.slice ao k ac) k (.slice none 0 0) 0 (Hv.K8 D) [] w wr):=JY (by
     have h:=HI.out;rw[An (by have:=dO.out;simp[Hv.K8];omega)] at h;exact h)
    have Cw:=HI.out.size;clear fG HI;go_wp2_with fail;refine (callsIn_wide.1 (Tryz.maps_Keys_78 (some fm) wr)).mono ?_;rintro e w5 ⟨rfl,rfl⟩;go_wp2_with fail;refine (callsIn_wide.1 (Tryz.slices_Sorted_keys_77_78 fm (Hv.Kk G).length (Hv.Ta (Hv.Kk G)) Hv.hR wr rW.out.files.2 (by rw[Hv.NM,Hv.Mh];unfold maxLen;omega) (by rw[Hv.NM,Hv.Mh];omega))).mono ?_;rintro e w6 ⟨kv,ss,rfl,hS,cO, -,aN⟩;have gA:=Px rW.out.files.1 hS;have qT:ss.length=(J3 (Hv.Kk G)).length:=by rw[hS.length_eq,OA]
    have vV:J3 (Hv.Kk G)=J3 G:=by simp[J3,Hv.Kk,List.map_map,Function.comp_def]
    rw[gA,qT,vV] at cO;have bF:=JY (((AD wr.heap.size wr).alloc (AC _) (.cells #[.map (some fm)] 152)).trans (aN.mono (by simp)));have rZ:=JY (KL (B:=wr.heap.size) cO (by simp));have bN:=JY (iw.out.below bF.out);have kI:=bF.out.size;obtain ⟨ka,kc,rfl⟩:=J4 cO;have hkl:(J3 G).length=G.length:=by simp[J3]
    rw[hkl] at rZ |-;obtain ⟨ng,fV⟩:∃ ng,G.length=ng:=⟨_,rfl⟩
    have iR:=JY fV;rw[fV] at hG |-;clear cO aN gA qT vV hS hkl fV m1 iw rW;go_wp2_with fail;obtain ⟨j0,hj0,Bt,vQ⟩:∃ j0,Tryz.prog.info? 117=some j0/\j0.zero=some (.agg #[.string ByteArray.empty, .string ByteArray.empty])/\j0.size=2/\j0.bytes=32:=by
     obtain ⟨j0,a,b,c,d⟩:=KJ acp;exact ⟨j0,a,b,c,d⟩
    obtain ⟨vQ,Bu⟩:=vQ;go_loopw [35] (fun i wr2=>∃ (q:Nat) (fo:Option Addr) (fc:Nat),q<=ng/\i = .int .i64 (q:Int)/\Hid (Tq B (.slice ao k ac) k (.slice fo q fc) q (Hv.K8 D) (G.take q) w wr2)/\Hid (Kj w6.heap.size (fun z=>z=B+1) w6 wr2)/\Hid (∀ z,(Value.slice fo q fc).ownBlock=some z->w6.heap.size<=z)) (fun i _=>ng-(intOf i).toNat)
    case atStart=>exact ⟨0,none,0,Bs _,rfl,bN,JY (Kj.refl _ _ _),JY (fun q h=>by cases h)⟩
    case round =>
     clear bN;obtain ⟨q,fo,fc,hq,rfl,HI,ah,lS⟩:=hrel;by_cases hlt2:q<ng
     · have b2:(q:Int)<(ng:Int):=by omega
       have Ca:q<G.length:=by have:=iR.out;omega
       have sK:q<(J3 G).length:=by simp[J3];omega
       obtain ⟨g,c',hv2,hg,q1⟩:=MV (l:=J3 G) (v := .slice ka ng kc) (w:=w6) (e:=9) (by have h:=rZ.out;rw[show (J3 G).length=G.length by simp[J3]];rw[iR.out] at h |-;exact h) sK;obtain rfl:ka=some ⟨g,0,none⟩:=(DS hv2).1;have ig:=VA rZ.out rfl;have He:B+2<=g:=Bi Cw ig;have Je:=HI.out.size;have d1:=(ah.out.cell (p:=⟨g,q,none⟩) hg (by show ¬ g=B+1;omega)).trans q1;have cW:=Hv.KM HM.out.files.1;have vW:(J3 G)[q]=G[q].1:=by simp[J3]
       have hget:Hv.get G G[q].1=some G[q].2:=(Hv.get_some cW).2 (B1 Ca);have hxk:=GN _ (B1 Ca);have hT:(G.take (q+1))=G.take q++[G[q]]:=AT Ca;have HT:=JY hT;rw[vW] at d1;obtain ⟨xy,hxy⟩:∃ xy,G[q]=xy:=⟨_,rfl⟩
       rw[hxy] at d1 hget hxk HT;obtain ⟨x,y⟩:=xy;simp only at d1 hget hxk;have gN:x.length<=maxLen:=by unfold maxLen;omega
       have fG:=HM.out.below (show Below w.heap.size w wr by rw[bJ.out];exact HI.out.K7);have m1:=(JZ fG.blk 1).trans (show _=some (.map (some fm)) from rfl);have hlk:=fG.files.drew.look Tryz.underlying152 (OB _) x gN;rw[Hv.MJ,hget] at hlk;simp only[Option.map_some,DE,Hv.MO] at hlk;have Bl:=QL y.toArray;have r1:=(JZ HI.out.Pq 1).trans (show _=some (.slice fo q fc) from rfl);have g1:=J2 HI.out.Pq 1;obtain ⟨ys,hys⟩:∃ ys,(G.take q).flatMap Lj=ys:=⟨_,rfl⟩
       have qr:=JY hys;have hown0:wr.drew.ownsRow (B+2) 117 2 (.slice fo q fc) q ys:=by rw[<- hys];exact HI.out.file
       have gX:=JY HI.out.Pq;have jg:=JY (fun z (e:(Value.slice fo q fc).ownBlock=some z)=>(HI.out.file.lt z e).1);have JN:=(Mv (w:=wr) (b:=B+1) (j:=1) (by omega) (.cells #[.string ⟨x.toArray⟩, .string ⟨y.toArray⟩] 117)).trans r1;clear hv2 q1 hget hT hxy fG vW hys cW;go_wp2_with fail
       go_region_law (refine LW rfl _ _ 81 rfl (B+2) 117 j0 (.agg #[.string ByteArray.empty, .string ByteArray.empty]) 2 32 Tryz.underlying81 hj0 Bt vQ Bu rfl (by decide) (.slice fo q fc) q ys (by simp[Act.eval]) (hown0.alloc _) ⟨wr.heap.size,0,none⟩ 1 1 [_,_] (by simp[Act.eval]) rfl (cell_two_new _ _ _ _) (fun x hx=>by simp at hx;rcases hx with rfl | rfl<;>rfl) (by unfold maxLen;omega) (by omega) (by simp;omega) ?_;intro v' w8 hown' Li Qv alk;obtain ⟨gv,cv,rfl⟩:=Kt hown' (by omega);have cE:=(Li.block (B+1) (by simp;omega) (fun e=>by have:=jg.out (B+1) e.symm;omega)).trans ((AM _ _ _ (by show B+1<wr.heap.size;omega)).trans gX.out);have q5:=(JZ cE 1).trans (show _=some (.slice fo q fc) from rfl);have g5:=J2 cE 1;have O8:=JY hown';have G8:=JY Li;have A8:=JY alk;clear hown' Li Qv alk cE)
       all_goals
        have jO:(wr.alloc (.cells #[.string ⟨x.toArray⟩, .string ⟨y.toArray⟩] 117)).grownBy w8 (Value.slice fo q fc).ownBlock:=⟨G8.out.os,G8.out.tape,G8.out.output,G8.out.size,G8.out.block⟩;have rU:Hid (Tq B (.slice ao k ac) k (.slice (some ⟨gv,0,none⟩) (q+1) cv) (q+1) (Hv.K8 D) (G.take (q+1)) w (w8.setCell ⟨B+1,1,none⟩ (.slice (some ⟨gv,0,none⟩) (q+1) cv))):=JY (by
         rw[HT.out];exact HI.out.anx (x:=(x,y)) jO (by rw[qr.out];exact O8.out))
        have ny:Hid (Kj w6.heap.size (fun z=>z=B+1) w6 (w8.setCell ⟨B+1,1,none⟩ (.slice (some ⟨gv,0,none⟩) (q+1) cv))):=JY (by
         exact ((ah.out.alloc ah.out.size _).grown jO (by have:=ah.out.size;simp;omega) (fun z hz => .inl (lS.out z hz))).setCell (p:=⟨B+1,1,none⟩) (.inr rfl) _)
        have zq:Hid (∀ z,(Value.slice (some ⟨gv,0,none⟩) (q+1) cv).ownBlock=some z->w6.heap.size<=z):=JY (fun z hz=>by
         have e2:gv=z:=Cd hz;rcases A8.out with h | h
         · exact lS.out z (by rw[<- e2];exact h.symm)
         · have h2:=Cd h;simp at h2;have:=ah.out.size;omega)
        clear jO;go_wp2_with fail;go_roundw
        case rel=>exact ⟨q+1,_,cv,by omega,by go_num,rU,ny,zq⟩
        case measure=>simp[intOf];omega
     · obtain rfl:q=ng:=by omega
       have b2 : ¬ (q:Int)<(q:Int):=by omega
       have ft:=HI.out.Pq;have p0:=(JZ ft 0).trans (show _=some (.slice ao k ac) from rfl);have p1:=(JZ ft 1).trans (show _=some (.slice fo q fc) from rfl);have p2:=(JZ ft 2).trans (show _=some (.slice none 0 0) from rfl);have Fr:Hid (wr.ownsRow (B+2) 117 2 (.slice fo q fc) q (G.flatMap Lj)):=JY (by
        have h:=HI.out.file
        rwa [An (by have:=iR.out;omega)] at h)
       obtain ⟨e0,e1,e2,f0,f1,f2,n0,n1,n2⟩:=aeI HI.out.res (.slice ao k ac) (.slice fo q fc) (.slice none 0 0);have Fe:=JY (aak HI.out.YX (B:=B) (by omega) (.slice ao k ac) (.slice fo q fc) (.slice none 0 0));have gU:=JY (aak Fr.out (B:=B) (by omega) (.slice ao k ac) (.slice fo q fc) (.slice none 0 0));have dR:=JY (adl (B:=B) HI.out.K7 (AC _) (.slice ao k ac) (.slice fo q fc) (.slice none 0 0));clear ft;go_wp2_with fail;refine IH (v := .agg #[.slice ao k ac, .slice fo q fc, .slice none 0 0]) (by simp[results,Tryz.results39,go_sem,n0,n1,n2]) rfl ?_;rw[bJ.out,dO.out,iR.out];exact ⟨_,_,rfl,KL Fe.out (by omega),KL gU.out (by omega),dR.out⟩
end
end Go.Proofs.YtfhmaiicimdldaaGreatDoor
namespace Go.Proofs
open Go.Shelf
def Tryz.lays166_ren:Go.Shelf.Ren:=⟨fun | 166=>148 | 240=>202 | 276=>251 | n=>n,
 fun | 0=>0 | 3=>3 | 4=>4 | 5=>5 | 9=>9 | 20=>20 | 37=>53 | 70=>179 | 72=>181 | 75=>74 | 80=>112 | 164=>143 | n=>n,fun | n=>n⟩
theorem Tryz.lays166:Go.Proofs.Lays.n166 Tryz.prog Tryz.lays166_ren:={
 mixed:=by kernel_rfl
 f166:=Tryz.func148.trans (IN some (by kernel_rfl))
 f240:=Tryz.func202.trans (IN some (by kernel_rfl))
 f276:=Tryz.func251.trans (IN some (by kernel_rfl))
 t0:=Tryz.underlying0
 a0:=Tryz.isAgg0
 z0:=Tryz.sizeOf0
 v0:=Tryz.zeroValue0
 t3:=I1
 a3:=Tryz.isAgg3
 z3:=Tryz.sizeOf3
 v3:=Tryz.zeroValue3
 t4:=I2
 a4:=Tryz.isAgg4
 z4:=Tryz.sizeOf4
 v4:=Tryz.zeroValue4
 t9:=IT
 a9:=Tryz.isAgg9
 z9:=Tryz.sizeOf9
 v9:=If
 t20:=Tryz.underlying20
 a20:=Tryz.isAgg20
 z20:=Tryz.sizeOf20
 v20:=Tryz.zeroValue20
 t37:=Tryz.underlying53
 a37:=Tryz.isAgg53
 z37:=Tryz.sizeOf53
 v37:=Tryz.zeroValue53
 t70:=Tryz.underlying179
 a70:=Tryz.isAgg179
 z70:=Tryz.sizeOf179
 v70:=Tryz.zeroValue179
 t72:=Tryz.underlying181
 a72:=Tryz.isAgg181
 z72:=Tryz.sizeOf181
 v72:=Tryz.zeroValue181
 t75:=Tryz.underlying74
 a75:=Tryz.isAgg74
 z75:=Tryz.sizeOf74
 v75:=Tryz.zeroValue74
 t164:=Tryz.underlying143
 a164:=Tryz.isAgg143
 z164:=Tryz.sizeOf143
 v164:=Tryz.zeroValue143 }
theorem Tryz.Builder_Extra_166:Builder.Extra Tryz.prog Tryz.lays166_ren where
 sizeBuilder:=by kernel_rfl
 liesBuilder:=by kernel_rfl
 t5:=Tryz.underlying5
 a5:=Tryz.isAgg5
 z5:=Tryz.sizeOf5
 v5:=Tryz.zeroValue5
 infoByte:=by kernel_rfl
 cellsByte:=by kernel_rfl
 sizeByte:=by kernel_rfl
 neB5:=by decide
open Go.RowKit in
theorem Tryz.Builder_WriteString (B b:Nat) (bs:List Value) (s:ByteArray) (w:World) (h:Lib.IsBuilder 181 5 B b bs w) (hlen:bs.length+s.size<=140737488355328) (hBw:B<=w.heap.size) :
 Calls Tryz.prog 148 #[.pointer (some ⟨b,0,none⟩), .string s] w fun e w'=>e = .returned (.tuple #[.int .i64 s.size, .nilIface])/\(Lib.BuilderAt 181 5 B b (.pointer (some ⟨b,0,none⟩)) (bs++Lib.strCells s) w'/\Below B w w'):=Any.Builder_WriteString Tryz.lays166 Tryz.Builder_Extra_166 B b bs s w h hlen hBw
end Go.Proofs
namespace Go.Proofs.YtfhmaiicimdldaaGreatDoor
variable {B b:Nat}{w:World}
section
open Go.RowKit
open Hv (S Dk VM)
variable {l:S}
def Bld (B b:Nat) (l:S) (w:World):Prop:=Lib.IsBuilder 181 5 B b (Lib.byteCells l) w
theorem alx(h:Lib.BuilderAt 181 5 B b (.pointer (some ⟨b,0,none⟩)) (Lib.byteCells l) w):Bld B b l w := .inr h
theorem Zt(x:S):Lib.strCells ⟨x.toArray⟩=Lib.byteCells x:=by
 rfl
theorem Zr(x y:S):Lib.byteCells x++Lib.byteCells y=Lib.byteCells (x++y):=by simp[Lib.byteCells]
theorem Sm(x:S):(Lib.byteCells x).length=x.length:=by simp[Lib.byteCells]
theorem Zp{w':World} (h:Bld B b l w) (hb:Below w.heap.size w w'):Bld B b l w':=by
 have key:∀ p,Lib.BuilderAt 181 5 B b p (Lib.byteCells l) w->Lib.BuilderAt 181 5 B b p (Lib.byteCells l) w':=by
  rintro p ⟨h1,v,h2,h3,h4⟩;exact ⟨h1,v,(hb.block b (blt h2)).trans h2,Ky h3 hb,h4⟩
 rcases h with h | h
 · exact .inl (key _ h)
 · exact .inr (key _ h)
theorem Yl(B b:Nat) (l words x:S) (hw:words.length<=1000) (hx:x.length<=1000000) (hl:l.length<=100000000) (w:World) (hb:Base w) (h:Bld B b l w) (hBw:B<=w.heap.size) :
 Calls Tryz.prog 83 #[.pointer (some ⟨b,0,none⟩), .string ⟨words.toArray⟩, .string ⟨x.toArray⟩] w fun e w'=>∃ u,e = .returned u/\Bld B b (l++Hv.Pb words x) w'/\Below B w w':=by
 have HB:=JY h;have aJ:=JY hb;clear h hb;go_enter Tryz.func83,Tryz.ntmps83;go_wp2_with fail;refine (OI x.length (by omega) (by omega) w aJ.out).mono ?_;rintro e w1 ⟨rfl,hb1⟩;have ag:=JY hb1;have lz:=Lib.itoa_length_le x.length (by omega) (by omega);have HP:Hid (Hv.Pb words x=words++([32]++(Lib.itoa x.length++([10]++x)))):=JY rfl;obtain ⟨z,hz⟩:∃ z,Lib.itoa x.length=z:=⟨_,rfl⟩
 rw[hz] at lz HP |-;clear hb1 hz;have HS:Hid ((((((⟨words.toArray⟩:ByteArray)++⟨#[32]⟩)++⟨z.toArray⟩)++⟨#[10]⟩)++⟨x.toArray⟩)=⟨(Hv.Pb words x).toArray⟩):=JY (by
  rw[HP.out,show (⟨#[32]⟩:ByteArray)=⟨([32]:S).toArray⟩ from rfl,show (⟨#[10]⟩:ByteArray)=⟨([10]:S).toArray⟩ from rfl,Nc,Nc,Nc,Nc];simp only[FF])
 have hpl:=Hv.RQ words x hx;go_wp2_with fail;rw[HS.out];refine (Tryz.Builder_WriteString B b (Lib.byteCells l) ⟨(Hv.Pb words x).toArray⟩ w1 (Zp HB.out ag.out) (by rw[Sm];show l.length+(Hv.Pb words x).length<=_;omega) (by have:=ag.out.size;omega)).mono ?_;rintro e w2 ⟨rfl,aF,hb2⟩;have eG:Hid (Bld B b (l++Hv.Pb words x) w2):=JY (by
  rw[Zt,Zr] at aF;exact alx aF)
 have ah:=JY ((ag.out.mono hBw).trans hb2);clear aF hb2;go_wp2_with fail
 go_end0
 exact ⟨_,rfl,eG.out,ah.out⟩
end
end Go.Proofs.YtfhmaiicimdldaaGreatDoor
