/- RulW11, RecMath, RecW2, BuilderW, RecW1 -/
import Derived.Test.YtialenebfcnkkaaGreatDoorOrdJ25
import Derived.Test.YtialenebfcnkkaaGreatDoorOrdJ8
import Derived.Test.YtialenebfcnkkaaGreatDoorOrdJ1
import Derived.Test.YtialenebfcnkkaaGreatDoorOrdJ7
import Derived.Test.YtialenebfcnkkaaGreatDoorOrdJ22
set_option maxHeartbeats 4000000
set_option maxRecDepth 100000
namespace Go.Proofs.YtialenebfcnkkaaGreatDoor
section
open Go.RowKit
open aH (St gH)
open Hv (S Dk VM)
theorem Va {xs:List S} {k:Int} (h:Hv.wish xs = .error k):k=6∨k=7:=by
 unfold Hv.wish at h
 split at h
 · cases h;exact .inl rfl
 · split at h
   · cases h;exact .inl rfl
   · split at h
     · cases h;exact .inr rfl
     · cases h
theorem mE {X:World} {B:Nat} (h:X.heap[B]? = some (.cells #[.slice none 0 0, .map none, .map none] 89 (0,0))) (a b c:Value) :
   X.cell? ⟨B,0,none⟩=some (.slice none 0 0)∧X.cell? ⟨B,1,none⟩=some (.map none)∧X.cell? ⟨B,2,none⟩=some (.map none)∧X.frozen? ⟨B,0,none⟩=false∧X.frozen? ⟨B,1,none⟩=false∧X.frozen? ⟨B,2,none⟩=false ∧
     (((X.setCell ⟨B,0,none⟩ a).setCell ⟨B,1,none⟩ b).setCell ⟨B,2,none⟩ c).cell? ⟨B,0,none⟩=some a∧(((X.setCell ⟨B,0,none⟩ a).setCell ⟨B,1,none⟩ b).setCell ⟨B,2,none⟩ c).cell? ⟨B,1,none⟩=some b∧(((X.setCell ⟨B,0,none⟩ a).setCell ⟨B,1,none⟩ b).setCell ⟨B,2,none⟩ c).cell? ⟨B,2,none⟩=some c:=by
 have h3:=heap_setCell_same _ _ 2 _ _ c (heap_setCell_same _ _ 1 _ _ b (heap_setCell_same _ _ 0 _ _ a h))
 exact ⟨(ah h 0).trans rfl,(ah h 1).trans rfl,(ah h 2).trans rfl,ak h 0,ak h 1,ak h 2,(ah h3 0).trans rfl,(ah h3 1).trans rfl,(ah h3 2).trans rfl⟩
theorem mD {w X:World} {B B':Nat} (h:Below B' w X) (hB:B'≤B) (a b c:Value):Below B' w (((X.setCell ⟨B,0,none⟩ a).setCell ⟨B,1,none⟩ b).setCell ⟨B,2,none⟩ c):=((h.setCell (p:=⟨B,0,none⟩) hB _).setCell (p:=⟨B,1,none⟩) hB _).setCell (p:=⟨B,2,none⟩) hB _
theorem sJ (D:VM Hv.PD) (R:VM Value) (I:VM Hv.PD):dh D R I=0→Hv.jY D R=false∧(Hv.aR D R I).length≤12:=fun h=>by
 unfold dh at h
 split at h
 · cases h
 next h1 =>
   split at h
   · cases h
   · split at h
     · cases h
     next h3=>exact ⟨by simpa using h1,by omega⟩
theorem TN {X:World} {B B0:Nat} {pl:Hv.Plan} {sv:Value} {im km:Nat} (hp:gB B0 pl sv im km X) (hr:X.heap[B]? = some (.cells #[.slice none 0 0, .map none, .map none] 89 (0,0))) (a b c:Value):gB B0 pl sv im km (((X.setCell ⟨B,0,none⟩ a).setCell ⟨B,1,none⟩ b).setCell ⟨B,2,none⟩ c):=by
 have hf:=(((aQ.refl X.heap.size (fun q=>q=B) X).setCell (p:=⟨B,0,none⟩) (.inr rfl) a).setCell (p:=⟨B,1,none⟩) (.inr rfl) b).setCell (p:=⟨B,2,none⟩) (.inr rfl) c
 have hc:kX X (fun q=>q=B) (fun t=>t=89):=fun g hg=>by
   obtain rfl:g=B:=hg
   exact ⟨_,_,_,hr,rfl⟩
 obtain ⟨I,i1,i2⟩:=hp.ins
 obtain ⟨K,k1,k2⟩:=hp.cO
 exact ⟨qD hp.row hf (Nat.le_refl _) (hc.no (fun t ht=>by rw[ht];decide)),⟨I,hc.map i1 hf (Nat.le_refl _),i2.foreign hf (Nat.le_refl _) (hc.aae (fun t ht i=>by rw[ht];exact Mg (by decide) (by decide) (by decide) (by decide) i))⟩,⟨K,hc.map k1 hf (Nat.le_refl _),k2.foreign hf (Nat.le_refl _) (hc.no (fun t ht=>by rw[ht];decide))⟩,hp.ge⟩
def pR (n:Int) (D:VM Hv.PD) (G:VM S) (xs:List S) (w:World) (e:Ending) (w':World):Prop :=
 match Hv.check n D G xs with
 | .error k=>e = .returned (.tuple #[.agg #[.slice none 0 0, .map none, .map none], .int .i64 k])∧Below w.heap.size w w'
 | .ok pl=>∃ sv im km,e = .returned (.tuple #[.agg #[sv, .map (some im), .map (some km)], .int .i64 0])∧gB w.heap.size pl sv im km w'∧Below w.heap.size w w'
theorem DY (mb pm fm:Nat) (P:VM Value) (D:VM Hv.PD) (G:VM S) (N:Nat→Prop) (n:Int) (hn:0≤n∧n≤4096) (v:Value) (xs:List S) (hxl:xs.length≤1000000) (hxs:∀ x∈xs,x.length≤1000000000000) (hDl:D.length≤12) (nQ:bY D) (hcp:mV ∨ ∀ s,Hv.wish xs = .ok s→∀ k d,Hv.get s.I k=some d→bK d.st.runs∧bK d.st.aL) (hG:G.length≤16) (hS:Hv.Short 200 G) (w:World) (hb:Base w) (h:aK mb pm fm P (Hv.aS G) w) (hP:dA N w D P) (hv:Reads w v xs) :
   Calls Tryz.prog 32 #[.pointer (some ⟨mb,0,none⟩),v, .int .i64 n] w (pR n D G xs w):=by
 obtain ⟨va,vc,rfl, -⟩:=hv.form
 have HM:=hide h;have eU:=hide hP;have HV:=hide hv;have iT:=hide hb;have J9:=hide nQ;have HXS:=hide hxs;have HS:=hide hS;have YC:=hide hcp
 have sF:P.length≤12:=by have:=hP.len h.packs.1;omega
 have hml:=blt h.blk
 have hwl:xs.length≤maxLen:=by unfold maxLen;omega
 have E8:=hide hP.dU
 have Vm:=hide (Hv.bq h.files.1)
 clear h hP hv hb nQ hxs hS hcp
 go_enter Tryz.func32,Tryz.ntmps32
 go_wp2_with fail
 have hb0:=(Below.refl w.heap.size w).alloc (Nat.le_refl _) (.cells #[.slice none 0 0, .map none, .map none] 89)
 have hrow:=heap_alloc_new w (.cells #[.slice none 0 0, .map none, .map none] 89)
 have nX:(w.alloc (.cells #[.slice none 0 0, .map none, .map none] 89)).heap.size=w.heap.size+1:=by simp
 have kJ:=hide (HM.out.below hb0);have jD:=hide (eU.out.below hb0);have Gl:=hide (HV.out.below hb0);have fC:=hide (iT.out.below hb0 iT.out.size)
 have HB0:=hide hb0
 obtain ⟨u,hu⟩:∃ u,w.alloc (.cells #[.slice none 0 0, .map none, .map none] 89)=u:=⟨_,rfl⟩
 obtain ⟨B,hB⟩:∃ B,w.heap.size=B:=⟨_,rfl⟩
 rw[hu] at hrow nX kJ jD Gl fC HB0 ⊢
 rw[hB] at hrow nX HB0 ⊢
 have pV:=hide hB
 have uY:=hide hrow
 clear hu hb0 hrow HM eU HV iT
 refine (MJ xs (.slice va xs.length vc) u Gl.out hwl fC.out).mono ?_
 rintro e w1 hp1
 unfold pY at hp1
 cases hw:Hv.wish xs with
 | error k =>
   rw[hw] at hp1
   obtain ⟨rfl,hb1⟩:=hp1
   have HE:Hid (Hv.check n D G xs = .error k):=hide (by unfold Hv.check;rw[hw])
   have hr1:=(hb1.block B (by omega)).trans uY.out
   have HB1:=hide (HB0.out.trans (hb1.mono (by omega)))
   have hs1:=hb1.size
   have HR1:=hide hr1
   clear hb1 hr1
   have hk0 : ¬ k=0:=by rcases Va hw with rfl | rfl<;>decide
   have hbx:=(Below.refl w1.heap.size w1).alloc (Nat.le_refl _) (.cells #[.map none, .map none] 135)
   have hrx:=(hbx.block B (blt HR1.out)).trans HR1.out
   have VG:=hide (mD (B:=B) (HB1.out.trans (hbx.mono (by omega))) (Nat.le_refl _) (.slice none 0 0) (.map none) (.map none))
   obtain ⟨r0,r1,r2,f0,f1,f2,n0,n1,n2⟩:=mE hrx (.slice none 0 0) (.map none) (.map none)
   clear hbx hrx hw
   go_wp2_with fail
   refine bodyPost_ret (v := .tuple #[.agg #[.slice none 0 0, .map none, .map none], .int .i64 k]) (by simp[results,Tryz.results32,go_sem,n0,n1,n2]) rfl ?_
   unfold pR
   rw[HE.out,pV.out]
   exact ⟨rfl,VG.out⟩
 | ok s =>
   rw[hw] at hp1
   obtain ⟨rm,im,I,rfl,hwa,hR,hI,hRl,hIl,hrm,him,hb1⟩:=hp1
   have HW1:=hide hwa;have HR:=hide hR;have HI1:=hide hI
   have hgd:=Hv.EU hw
   have Km:=hide hgd
   have hr1:=(hb1.block B (by omega)).trans uY.out
   have HB1:=hide (HB0.out.trans (hb1.mono (by omega)))
   have wK:=hide (kJ.out.below hb1);have mP:=hide (jD.out.below hb1);have HV2:=hide (Gl.out.below hb1)
   have hs1:=hb1.size
   have HR1:=hide hr1
   have hbx:=(Below.refl w1.heap.size w1).alloc (Nat.le_refl _) (.cells #[.map (some rm), .map (some im)] 135)
   have HRX:=hide ((hbx.block B (blt HR1.out)).trans HR1.out)
   have VU:=hide (HW1.out.below hbx);have HIX:=hide (HI1.out.below hbx);have yt:=hide (wK.out.below hbx);have HPX:=hide (mP.out.below hbx);have HVX:=hide (HV2.out.below hbx)
   have VG:=hide (HB1.out.trans (hbx.mono (by omega)))
   have hwx:=heap_alloc_new w1 (.cells #[.map (some rm), .map (some im)] 135)
   have hsx:(w1.alloc (.cells #[.map (some rm), .map (some im)] 135)).heap.size=w1.heap.size+1:=by simp
   have m0:=(ah yt.out.blk 0).trans (show _=some (.map (some pm)) from rfl)
   obtain ⟨x1,hx1⟩:∃ x1,w1.alloc (.cells #[.map (some rm), .map (some im)] 135)=x1:=⟨_,rfl⟩
   rw[hx1] at HRX VU HIX yt HPX HVX VG hwx hsx m0
   have Y5:=hide hwx
   have y0:=(ah hwx 0).trans (show _=some (.map (some rm)) from rfl)
   have y1:=(ah hwx 1).trans (show _=some (.map (some im)) from rfl)
   clear hwa hI hb1 hr1 hbx hwx hgd hR
   have aes:=hide kJ.out.packs.1
   have aey:s.I.length≤6:=by have:=HIX.out.len VU.out.ins.1;omega
   have aa1:=hide (Mi pm rm im P s.R I D s.I (fun g=>N g∨u.heap.size≤g) x1.drew yt.out.packs.drew ⟨VU.out.rem.drew,VU.out.ins.drew,VU.out.ne⟩ HR.out ((HPX.out.weak (fun g h => .inl h)).below ((Below.refl _ x1).drew)) ((HIX.out.weak (fun g h => .inr h)).below ((Below.refl _ x1).drew)) (by omega))
   have HBD:=hide VG.out.drew
   have XT:=hide hw
   clear hw
   go_wp2_with fail
   obtain ⟨A,hA⟩:∃ A,w1.heap.size=A:=⟨_,rfl⟩
   have HAE:=hide hA
   rw[hA] at Y5 y0 y1 hsx hs1 ⊢
   clear hA
   go_region_held3 (fun w'=>w'.cell? ⟨mb,0,none⟩=some (.map (some pm))∧w'.cell? ⟨A,0,none⟩=some (.map (some rm))∧w'.cell? ⟨A,1,none⟩=some (.map (some im)))
     (first | assumption | exact ⟨m0,y0,y1⟩ | exact ⟨m2,y2,y3⟩ | simp[go_sem, *])
     (first
       | (go_at_call 66;refine aa1.out.mono ?_;rintro e w2 ⟨rfl,hb2⟩;have hb2:Below x1.heap.size x1 w2:=⟨hb2.os,hb2.tape,hb2.output,hb2.size,hb2.block⟩;have HB2:=hide hb2;have m2:=(ah (yt.out.below hb2).blk 0).trans (show _=some (.map (some pm)) from rfl);have y2:=(ah ((hb2.block A (blt Y5.out)).trans Y5.out) 0).trans (show _=some (.map (some rm)) from rfl);have y3:=(ah ((hb2.block A (blt Y5.out)).trans Y5.out) 1).trans (show _=some (.map (some im)) from rfl);clear hb2))
   have HHX:=hide (show (Hv.check n D G xs)=if dh D s.R s.I≠0 then .error (dh D s.R s.I) else if Hv.dW (Hv.bf D s.R s.I) (D,G) (Hv.bf D s.R s.I).steps=true then .error 15 else if jl n D xs=true then .error 14 else .ok (Hv.bf D s.R s.I) by unfold Hv.check;rw[XT.out])
   have HAB:=hide (sJ D s.R s.I)
   have YN:=hide (yt.out.below HB2.out);have YW:=hide (HPX.out.below HB2.out);have aa6:=hide (VU.out.below HB2.out);have aaR:=hide (HIX.out.below HB2.out);have aa5:=hide (HVX.out.below HB2.out)
   have VR:=hide ((HB2.out.block B (blt HRX.out)).trans HRX.out)
   have Yz:=hide (VG.out.trans (HB2.out.mono (by omega)))
   have acL:=hide ((HB2.out.block A (blt Y5.out)).trans Y5.out)
   have hs2:=HB2.out.size
   obtain ⟨ri,hri⟩:∃ ri,dh D s.R s.I=ri:=⟨_,rfl⟩
   rw[hri] at HHX HAB ⊢
   clear hri aa1 HBD yt HPX VU HIX HVX HRX VG wK mP HV2 kJ jD Gl HW1 HI1
   by_cases h0:ri=0
   · subst h0
     have hab:=(HAB.out rfl).1
     go_wp2_with fail
     refine (Ti mb pm fm rm im P (Hv.aS G) s.R I D s.I N B HR.out (by omega) (by omega) sF hab J9.out.named Km.out.1 w2 YN.out aa6.out YW.out (aaR.out.weak (fun g hg=>by omega)) (by omega)).mono ?_
     rintro e w3 ⟨sv,km,rfl,FJ,hb3⟩
     obtain ⟨sa,sc,hsv⟩:=slice_form FJ.row
     have HHY:Hid ((Hv.check n D G xs)=if Hv.dW (Hv.bf D s.R s.I) (D,G) (Hv.bf D s.R s.I).steps=true then .error 15 else if jl n D xs=true then .error 14 else .ok (Hv.bf D s.R s.I)):=hide (by rw[HHX.out,if_neg (by simp)])
     have CJ:=hide (Hv.Jf (R:=s.R) E8.out Vm.out Km.out.2.1:Hv.iW (Hv.bf D s.R s.I) (D,G) (Hv.bf D s.R s.I).steps)
     have Vq:=hide (Hv.y9 (R:=s.R) J9.out.named Km.out.1 E8.out Km.out.2.1)
     have hlen:=Hv.Ev D s.R s.I
     have Y6:=hide (Ew (R:=s.R) J9.out.named Km.out.1 E8.out Km.out.2.1 (by omega) (by omega))
     have HIF:Hid (bY (Hv.bf D s.R s.I).ins):=hide ⟨Km.out.1,YC.out.imp id (fun f=>f s XT.out)⟩
     obtain ⟨pl,abL⟩:∃ pl,Hv.bf D s.R s.I=pl:=⟨_,rfl⟩
     rw[abL] at FJ hsv HHY CJ Vq hlen Y6 HIF
     obtain ⟨ns,hns⟩:∃ ns,pl.steps.length=ns:=⟨_,rfl⟩
     rw[hns] at hlen hsv
     subst hsv
     have XP:=hide hns
     have YT:=hide FJ
     have HB3:=hide hb3
     have hs3:=hb3.size
     have hbx:=(Below.refl w3.heap.size w3).alloc (Nat.le_refl _) (.cells #[.slice sa ns sc, .map (some im), .map (some km)] 89)
     have hpx:=heap_alloc_new w3 (.cells #[.slice sa ns sc, .map (some im), .map (some km)] 89)
     have O1:=(HB3.out.mono (Nat.le_refl _)).trans (hbx.mono hs3)
     have uV:=hide (YN.out.below O1);have zA:=hide (YW.out.below O1);have HV4:=hide (aa5.out.below O1);have YU:=hide (YT.out.below hbx)
     have YZ:=hide ((O1.block B (blt VR.out)).trans VR.out)
     have aaG:=hide (Yz.out.trans (O1.mono (by omega)))
     have ada:(w3.alloc (.cells #[.slice sa ns sc, .map (some im), .map (some km)] 89)).heap.size=w3.heap.size+1:=by simp
     obtain ⟨w4,hw4⟩:∃ w4,w3.alloc (.cells #[.slice sa ns sc, .map (some im), .map (some km)] 89)=w4:=⟨_,rfl⟩
     rw[hw4] at hpx uV zA HV4 YU YZ aaG ada
     have p0:=(ah hpx 0).trans (show _=some (.slice sa ns sc) from rfl)
     have p1:=(ah hpx 1).trans (show _=some (.map (some im)) from rfl)
     have p2:=(ah hpx 2).trans (show _=some (.map (some km)) from rfl)
     have acG:=hide hpx
     clear FJ hb3 hbx hpx O1 abL hns YN YW aa6 aaR aa5 VR Yz acL HHX hab
     go_wp2_with fail
     refine (TJ mb pm fm P D G N B pl (.slice sa ns sc) im km CJ.out Vq.out (by have:=XP.out;omega) hDl J9.out HIF.out hG HS.out Y6.out w4 uV.out zA.out YU.out).mono ?_
     rintro e w5 ⟨rfl,hb5⟩
     have CO:=hide (uV.out.below hb5);have qO:=hide (zA.out.below hb5);have HV5:=hide (HV4.out.below hb5);have acD:=hide (YU.out.below hb5)
     have Y0:=hide ((hb5.block B (blt YZ.out)).trans YZ.out)
     have aaH:=hide (aaG.out.trans (hb5.mono (by omega)))
     have acH:=hide ((hb5.block w3.heap.size (by omega)).trans acG.out)
     have hs5:=hb5.size
     clear hb5 p0 p1 p2
     cases ho:Hv.dW pl (D,G) pl.steps
     · have HHZ:Hid ((Hv.check n D G xs)=if jl n D xs=true then .error 14 else .ok pl):=hide (by rw[HHY.out,ho];rfl)
       go_wp2_with fail
       refine (Bw n hn mb pm fm P (Hv.aS G) D N (.slice va xs.length vc) xs hxl (fun x hx=>by have:=HXS.out x hx;omega) w5 CO.out qO.out HV5.out).mono ?_
       rintro e w6 ⟨rfl,hb6⟩
       have acE:=hide (acD.out.below hb6)
       have Y1:=hide ((hb6.block B (blt Y0.out)).trans Y0.out)
       have aaI:=hide (aaH.out.trans (hb6.mono (by omega)))
       have YX:=hide ((hb6.block w3.heap.size (by omega)).trans acH.out)
       have hs6:=hb6.size
       clear hb6
       cases hsm:jl n D xs
       · have HE:Hid (Hv.check n D G xs = .ok pl):=hide (by rw[HHZ.out,hsm];rfl)
         have p0:=(ah YX.out 0).trans (show _=some (.slice sa ns sc) from rfl)
         have p1:=(ah YX.out 1).trans (show _=some (.map (some im)) from rfl)
         have p2:=(ah YX.out 2).trans (show _=some (.map (some km)) from rfl)
         have VF:=hide (mD (B:=B) aaI.out (Nat.le_refl _) (.slice sa ns sc) (.map (some im)) (.map (some km)))
         obtain ⟨r0,r1,r2,f0,f1,f2,n0,n1,n2⟩:=mE Y1.out (.slice sa ns sc) (.map (some im)) (.map (some km))
         have acF:=hide (TN acE.out Y1.out (.slice sa ns sc) (.map (some im)) (.map (some km)))
         go_wp2_with fail
         refine bodyPost_ret (v := .tuple #[.agg #[.slice sa ns sc, .map (some im), .map (some km)], .int .i64 0]) (by simp[results,Tryz.results32,go_sem,n0,n1,n2]) rfl ?_
         unfold pR
         rw[HE.out,pV.out]
         exact ⟨_,im,km,rfl,acF.out,VF.out⟩
       · have HE:Hid (Hv.check n D G xs = .error 14):=hide (by rw[HHZ.out,hsm];rfl)
         have VF:=hide (mD (B:=B) aaI.out (Nat.le_refl _) (.slice none 0 0) (.map none) (.map none))
         obtain ⟨r0,r1,r2,f0,f1,f2,n0,n1,n2⟩:=mE Y1.out (.slice none 0 0) (.map none) (.map none)
         go_wp2_with fail
         refine bodyPost_ret (v := .tuple #[.agg #[.slice none 0 0, .map none, .map none], .int .i64 14]) (by simp[results,Tryz.results32,go_sem,n0,n1,n2]) rfl ?_
         unfold pR
         rw[HE.out,pV.out]
         exact ⟨rfl,VF.out⟩
     · have HE:Hid (Hv.check n D G xs = .error 15):=hide (by rw[HHY.out,ho];rfl)
       have VF:=hide (mD (B:=B) aaH.out (Nat.le_refl _) (.slice none 0 0) (.map none) (.map none))
       obtain ⟨r0,r1,r2,f0,f1,f2,n0,n1,n2⟩:=mE Y0.out (.slice none 0 0) (.map none) (.map none)
       go_wp2_with fail
       refine bodyPost_ret (v := .tuple #[.agg #[.slice none 0 0, .map none, .map none], .int .i64 15]) (by simp[results,Tryz.results32,go_sem,n0,n1,n2]) rfl ?_
       unfold pR
       rw[HE.out,pV.out]
       exact ⟨rfl,VF.out⟩
   · have HE:Hid (Hv.check n D G xs = .error ri):=hide (by rw[HHX.out,if_pos h0])
     have VF:=hide (mD (B:=B) Yz.out (Nat.le_refl _) (.slice none 0 0) (.map none) (.map none))
     obtain ⟨r0,r1,r2,f0,f1,f2,n0,n1,n2⟩:=mE VR.out (.slice none 0 0) (.map none) (.map none)
     go_wp2_with fail
     refine bodyPost_ret (v := .tuple #[.agg #[.slice none 0 0, .map none, .map none], .int .i64 ri]) (by simp[results,Tryz.results32,go_sem,n0,n1,n2]) rfl ?_
     unfold pR
     rw[HE.out,pV.out]
     exact ⟨rfl,VF.out⟩
end
section
open Hv (S VM)
namespace Hv
def qM:S:=[97,114,99,104,105,118,101]
def sO:S:=[102,105,108,101,32]
def J2:S:=[105,116,101,109]
def ny (words x:S):S:=words++([32]++(Lib.itoa x.length++([10]++x)))
def lN (ts:List S):S:=ts.flatMap (ny qM)
def jL (fs:List (S × S)):S:=fs.flatMap fun f=>ny (sO++f.1) f.2
def lW (xs:List S):S:=xs.flatMap (ny J2)
def kR (D:VM PD):List S:=D.map fun p=>p.2.text
def F4 (D:VM PD) (G:VM S) (xs:List S):S:=lN (kR D)++jL G++lW xs
theorem qF (words x:S) (hx:x.length≤1000000):(ny words x).length≤words.length+x.length+23:=by
 have:=Lib.itoa_length_le x.length (by omega) (by omega)
 simp only[ny,List.length_append,List.length_cons,List.length_nil]
 omega
theorem Am (ts:List S) (h:∀ x∈ts,x.length≤1000000):(lN ts).length≤(ts.map List.length).sum+30*ts.length:=by
 induction ts with
 | nil=>simp[lN]
 | cons x ts ih =>
   have:=ih (fun y hy=>h y (by simp[hy]))
   have:=qF qM x (h x (by simp))
   simp only[lN,List.flatMap_cons,List.length_append,List.map_cons,List.sum_cons,List.length_cons] at *
   have:qM.length=7:=rfl
   omega
theorem Iy (ts:List S) (h:∀ x∈ts,x.length≤1000000):(lW ts).length≤(ts.map List.length).sum+27*ts.length:=by
 induction ts with
 | nil=>simp[lW]
 | cons x ts ih =>
   have:=ih (fun y hy=>h y (by simp[hy]))
   have:=qF J2 x (h x (by simp))
   simp only[lW,List.flatMap_cons,List.length_append,List.map_cons,List.sum_cons,List.length_cons] at *
   have:J2.length=4:=rfl
   omega
theorem R7 (fs:List (S × S)) (h:∀ f∈fs,f.1.length≤24∧f.2.length≤200):(jL fs).length≤260*fs.length:=by
 induction fs with
 | nil=>simp[jL]
 | cons f fs ih =>
   have:=ih (fun y hy=>h y (by simp[hy]))
   have h1:=h f (by simp)
   have:=qF (sO++f.1) f.2 (by omega)
   simp only[jL,List.flatMap_cons,List.length_append,List.length_cons] at *
   have:sO.length=5:=rfl
   omega
theorem TS (D:VM PD):((kR D).map List.length).sum=dz D:=by simp[kR,dz,List.map_map,Function.comp_def]
theorem Xj (D:VM PD) (G:VM S) (xs:List S) (hD:∀ p∈D,p.2.text.length≤2000) (hl:D.length≤12) (hG:∀ f∈G,f.1.length≤24∧f.2.length≤200) (hg:G.length≤16) (hx:∀ x∈xs,x.length≤1000000) (hxl:xs.length≤6) :
   (F4 D G xs).length≤dz D+(xs.map List.length).sum+4682:=by
 have h1:=Am (kR D) (fun x hx=>by obtain ⟨p,hp,rfl⟩:=List.mem_map.1 hx;have:=hD p hp;omega)
 have h2:=R7 G hG
 have h3:=Iy xs hx
 rw[TS] at h1
 have:(kR D).length=D.length:=by simp[kR]
 simp only[F4,List.length_append]
 omega
end Hv
end
section
open Go.RowKit
open aH (St gH)
open Hv (S Dk VM)
theorem Ie (p:Pk) (w:World):(Instr.field 156 p.val 0).run Tryz.prog w = .ok (.string ⟨p.text.toArray⟩) w:=by kernel_rfl
theorem Ir:(Tryz.prog.info? 71).map (fun i=>(i.zero,i.size,i.bytes))=some (some (.agg #[.string ByteArray.empty, .string ByteArray.empty]),2,32):=by kernel_rfl
theorem Mh {X:World} {B T:Nat} {x y z:Value} (h:X.heap[B]? = some (.cells #[x,y,z] T (0,0))) (a b c:Value) :
   X.cell? ⟨B,0,none⟩=some x∧X.cell? ⟨B,1,none⟩=some y∧X.cell? ⟨B,2,none⟩=some z∧X.frozen? ⟨B,0,none⟩=false∧X.frozen? ⟨B,1,none⟩=false∧X.frozen? ⟨B,2,none⟩=false ∧
     (((X.setCell ⟨B,0,none⟩ a).setCell ⟨B,1,none⟩ b).setCell ⟨B,2,none⟩ c).cell? ⟨B,0,none⟩=some a∧(((X.setCell ⟨B,0,none⟩ a).setCell ⟨B,1,none⟩ b).setCell ⟨B,2,none⟩ c).cell? ⟨B,1,none⟩=some b∧(((X.setCell ⟨B,0,none⟩ a).setCell ⟨B,1,none⟩ b).setCell ⟨B,2,none⟩ c).cell? ⟨B,2,none⟩=some c:=by
 have h3:=heap_setCell_same _ _ 2 _ _ c (heap_setCell_same _ _ 1 _ _ b (heap_setCell_same _ _ 0 _ _ a h))
 exact ⟨(ah h 0).trans rfl,(ah h 1).trans rfl,(ah h 2).trans rfl,ak h 0,ak h 1,ak h 2,(ah h3 0).trans rfl,(ah h3 1).trans rfl,(ah h3 2).trans rfl⟩
theorem EK {X:World} {B b0 e s n:Nat} {v:Value} {xs:List Value} (h:X.ownsRow b0 e s v n xs) (hB:B<b0) (a b c:Value):(((X.setCell ⟨B,0,none⟩ a).setCell ⟨B,1,none⟩ b).setCell ⟨B,2,none⟩ c).ownsRow b0 e s v n xs:=by
 have hne:v.ownBlock≠some B:=fun e=>by have:=(h.lt B e).1;omega
 exact bB (bB (bB h hne) hne) hne
theorem JR {w X:World} {B B':Nat} (h:Below B' w X) (hB:B'≤B) (a b c:Value):Below B' w (((X.setCell ⟨B,0,none⟩ a).setCell ⟨B,1,none⟩ b).setCell ⟨B,2,none⟩ c):=((h.setCell (p:=⟨B,0,none⟩) hB _).setCell (p:=⟨B,1,none⟩) hB _).setCell (p:=⟨B,2,none⟩) hB _
structure sV (B:Nat) (va:Value) (na:Nat) (vf:Value) (nf:Nat) (ts:List S) (fs:List (S × S)) (w wr:World):Prop where
 res:wr.heap[B]? = some (.cells #[.slice none 0 0, .slice none 0 0, .slice none 0 0] 98 (0,0))
 xM:wr.heap[B+1]? = some (.cells #[va,vf, .slice none 0 0] 98 (0,0))
 CS:wr.ownsRow (B+2) 9 1 va na (ts.map aO)
 file:wr.ownsRow (B+2) 71 2 vf nf (fs.flatMap cB)
 bA:Below B w wr
 size:B+2≤wr.heap.size
theorem sV.below {B na nf:Nat} {va vf:Value} {ts:List S} {fs:List (S × S)} {w wr w':World} (h:sV B va na vf nf ts fs w wr) (hb:Below wr.heap.size wr w'):sV B va na vf nf ts fs w w' :=
 ⟨(hb.block B (blt h.res)).trans h.res,(hb.block _ (blt h.xM)).trans h.xM,own_below h.CS hb,own_below h.file hb,h.bA.trans (hb.mono (by have:=h.size;omega)),Nat.le_trans h.size hb.size⟩
theorem sV.adh {B na nf:Nat} {va vf va':Value} {ts:List S} {fs:List (S × S)} {w wr w4:World} {o:Obj} {x:S} (h:sV B va na vf nf ts fs w wr) (hg:(wr.alloc o).grownBy w4 va.ownBlock) (hown:w4.ownsRow (B+2) 9 1 va' (na+1) (ts.map aO++[aO x])):sV B va' (na+1) vf nf (ts++[x]) fs w (w4.setCell ⟨B+1,0,none⟩ va'):=by
 have hs:=h.size
 have hk:∀ k,k<wr.heap.size→va.ownBlock≠some k→w4.heap[k]? = wr.heap[k]? := fun k hk hne=>(hg.block k (by simp;omega) (fun e=>hne e.symm)).trans (Below.heap_alloc _ _ _ hk)
 have hlo:∀ k,k<B+2→va.ownBlock≠some k:=fun k hk e=>by have:=(h.CS.lt k e).1;omega
 have hsz:wr.heap.size≤w4.heap.size:=Nat.le_trans (by simp) hg.size
 refine ⟨(Below.heap_setCell _ _ _ _ (by show B≠B+1;omega)).trans ((hk B (blt h.res) (hlo B (by omega))).trans h.res),heap_setCell_same _ _ 0 _ _ _ ((hk _ (blt h.xM) (hlo _ (by omega))).trans h.xM),?_,?_,?_,by simp[World.setCell];omega⟩
 · rw[List.map_append]
   exact bB hown (fun e=>by have:=(hown.lt _ e).1;omega)
 · refine bB (bR h.file fun g hgb=>hk g (h.file.lt g hgb).2 (fun e=>lH h.CS h.file (by decide) e hgb)) (fun e=>by have:=(h.file.lt _ e).1;omega)
 · refine Below.setCell (p:=⟨B+1,0,none⟩) ?_ (by show B≤B+1;omega) _
   exact (h.bA.alloc (by omega) o).grown hg (by simp;omega) (fun q hq=>by have:=(h.CS.lt q hq).1;omega)
theorem sV.adi {B na nf:Nat} {va vf vf':Value} {ts:List S} {fs:List (S × S)} {w wr w4:World} {o:Obj} {x:S × S} (h:sV B va na vf nf ts fs w wr) (hg:(wr.alloc o).grownBy w4 vf.ownBlock) (hown:w4.ownsRow (B+2) 71 2 vf' (nf+1) (fs.flatMap cB++cB x)):sV B va na vf' (nf+1) ts (fs++[x]) w (w4.setCell ⟨B+1,1,none⟩ vf'):=by
 have hs:=h.size
 have hk:∀ k,k<wr.heap.size→vf.ownBlock≠some k→w4.heap[k]? = wr.heap[k]? := fun k hk hne=>(hg.block k (by simp;omega) (fun e=>hne e.symm)).trans (Below.heap_alloc _ _ _ hk)
 have hlo:∀ k,k<B+2→vf.ownBlock≠some k:=fun k hk e=>by have:=(h.file.lt k e).1;omega
 have hsz:wr.heap.size≤w4.heap.size:=Nat.le_trans (by simp) hg.size
 refine ⟨(Below.heap_setCell _ _ _ _ (by show B≠B+1;omega)).trans ((hk B (blt h.res) (hlo B (by omega))).trans h.res),heap_setCell_same _ _ 1 _ _ _ ((hk _ (blt h.xM) (hlo _ (by omega))).trans h.xM),?_,?_,?_,by simp[World.setCell];omega⟩
 · refine bB (bR h.CS fun g hgb=>hk g (h.CS.lt g hgb).2 (fun e=>lH h.file h.CS (by decide) e hgb)) (fun e=>by have:=(h.CS.lt _ e).1;omega)
 · have e:(fs++[x]).flatMap cB=fs.flatMap cB++cB x:=by simp
   rw[e]
   exact bB hown (fun e=>by have:=(hown.lt _ e).1;omega)
 · refine Below.setCell (p:=⟨B+1,1,none⟩) ?_ (by show B≤B+1;omega) _
   exact (h.bA.alloc (by omega) o).grown hg (by simp;omega) (fun q hq=>by have:=(h.file.lt q hq).1;omega)
theorem Cc (mb pm fm:Nat) (P:VM Value) (D:VM Hv.PD) (G:VM S) (N:Nat→Prop) (hDl:D.length≤1000) (nQ:Hv.Named D) (hG:G.length≤1000) (hGk:∀ p∈G,p.1.length≤100) (w:World) (h:aK mb pm fm P (Hv.aS G) w) (hP:dA N w D P) :
   Calls Tryz.prog 34 #[.pointer (some ⟨mb,0,none⟩)] w fun e w'=>∃ va vf,e = .returned (.agg #[va,vf, .slice none 0 0])∧w'.ownsRow w.heap.size 9 1 va D.length ((Hv.kR D).map aO)∧w'.ownsRow w.heap.size 71 2 vf G.length (G.flatMap cB)∧Below w.heap.size w w':=by
 obtain ⟨i0,hi,hz0,hz1,hz2⟩:=aW gL
 have HM:=hide h;have eU:=hide hP;have J9:=hide nQ
 have sF:P.length=D.length:=hP.len h.packs.1
 have hml:=blt h.blk
 clear h hP nQ
 go_enter Tryz.func34,Tryz.ntmps34
 have hb0:=(Below.refl w.heap.size w).alloc (Nat.le_refl _) (.cells #[.slice none 0 0, .slice none 0 0, .slice none 0 0] 98)
 have hb1:=hb0.alloc (by simp) (.cells #[.slice none 0 0, .slice none 0 0, .slice none 0 0] 98)
 have hs0:(w.alloc (.cells #[.slice none 0 0, .slice none 0 0, .slice none 0 0] 98)).heap.size=w.heap.size+1:=by simp
 have hs1:((w.alloc (.cells #[.slice none 0 0, .slice none 0 0, .slice none 0 0] 98)).alloc (.cells #[.slice none 0 0, .slice none 0 0, .slice none 0 0] 98)).heap.size=w.heap.size+2:=by simp
 have hr0:=(Below.heap_alloc (w.alloc (.cells #[.slice none 0 0, .slice none 0 0, .slice none 0 0] 98)) (.cells #[.slice none 0 0, .slice none 0 0, .slice none 0 0] 98) w.heap.size (by simp)).trans (heap_alloc_new w (.cells #[.slice none 0 0, .slice none 0 0, .slice none 0 0] 98))
 have hr1:=heap_alloc_new (w.alloc (.cells #[.slice none 0 0, .slice none 0 0, .slice none 0 0] 98)) (.cells #[.slice none 0 0, .slice none 0 0, .slice none 0 0] 98)
 rw[hs0] at hr1
 go_wp2_with fail
 obtain ⟨u,hu⟩:∃ u,(w.alloc (.cells #[.slice none 0 0, .slice none 0 0, .slice none 0 0] 98)).alloc (.cells #[.slice none 0 0, .slice none 0 0, .slice none 0 0] 98)=u:=⟨_,rfl⟩
 obtain ⟨B,hB⟩:∃ B,w.heap.size=B:=⟨_,rfl⟩
 rw[hu] at hb1 hs1 hr0 hr1 ⊢
 rw[hB] at hb1 hs1 hr0 hr1 hml ⊢
 have HI0:Hid (sV B (.slice none 0 0) 0 (.slice none 0 0) 0 [] [] w u):=hide ⟨hr0,hr1,World.ownsRow_nil _ _ _ _,World.ownsRow_nil _ _ _ _,hb1,by omega⟩
 have pV:=hide hB
 have kJ:=hide (HM.out.below (show Below w.heap.size w u by rw[hB];exact hb1))
 clear hb0 hb1 hs0 hr0 hr1 hu hB
 refine (xD mb pm fm P (Hv.aS G) (by omega) u kJ.out).mono ?_
 rintro e w1 ⟨nv,rfl,gK,hb1⟩
 rw[eU.out.keys HM.out.packs.1] at gK
 have HI1:=hide (HI0.out.below hb1)
 have hkl:(keysOf D).length=D.length:=by simp[keysOf]
 obtain ⟨na,nc,rfl⟩:=slice_form gK
 rw[hkl] at gK ⊢
 have YO:=hide gK
 have hs2:=hb1.size
 obtain ⟨nd,hnd⟩:∃ nd,D.length=nd:=⟨_,rfl⟩
 have MR:=hide hnd
 rw[hnd] at hDl ⊢
 have HUW:=hide hb1
 clear hb1 gK HI0 hnd hkl sF
 go_wp2_with fail
 go_loopw [11] (fun i wr=>∃ (k:Nat) (ao:Option Addr) (ac:Nat),k≤nd∧i = .int .i64 (k:Int)∧Hid (sV B (.slice ao k ac) k (.slice none 0 0) 0 ((Hv.kR D).take k) [] w wr)∧Hid (aQ w1.heap.size (fun q=>q=B+1) w1 wr)∧Hid (∀ q,(Value.slice ao k ac).ownBlock=some q→w1.heap.size≤q)) (fun i _=>nd-(intOf i).toNat)
 case atStart=>exact ⟨0,none,0,Nat.zero_le _,rfl,HI1,hide (aQ.refl _ _ _),hide (fun q h=>by cases h)⟩
 case round =>
   clear HI1
   obtain ⟨k,ao,ac,hk,rfl,HI,HB,Gh⟩:=hrel
   by_cases hlt:k<nd
   · have b1:(k:Int)<(nd:Int):=by omega
     have WA:k<D.length:=by have:=MR.out;omega
     have hkk:k<(keysOf D).length:=by simp[keysOf];omega
     obtain ⟨g,c',hv2,hg,q1⟩:=gF (l:=keysOf D) (v := .slice na nd nc) (w:=w1) (B:=u.heap.size) (e:=9) (by have h:=YO.out;rw[show (keysOf D).length=D.length by simp[keysOf]];rw[MR.out] at h ⊢;exact h) hkk
     obtain rfl:na=some ⟨g,0,none⟩:=(Value.slice.inj hv2).1
     have hgB:u.heap.size≤g:=uo YO.out rfl
     have d1:=(HB.out.cell (p:=⟨g,k,none⟩) hg (by show ¬ g=B+1;omega)).trans q1
     have hget:Hv.get D (keysOf D)[k]=some D[k].2:=by
       rw[Hv.get_some eU.out.dU]
       have:(keysOf D)[k]=D[k].1:=by simp[keysOf]
       rw[this]
       exact List.getElem_mem WA
     have hnl:=J9.out.len (k:=(keysOf D)[k]) (by rw[Hv.aB,hget];rfl)
     obtain ⟨v,hv,hr⟩:=eU.out.wZ _ _ hget
     obtain ⟨p,rfl,p1, -⟩:=hr
     have hT:(Hv.kR D).take (k+1)=(Hv.kR D).take k++[p.text]:=by
       rw[List.take_succ_eq_append_getElem (show k<(Hv.kR D).length by simpa [Hv.kR] using WA)]
       rw[p1]
       simp[Hv.kR]
     have HT:=hide hT;have HV:=hide hv
     obtain ⟨x,hx⟩:∃ x,(keysOf D)[k]=x:=⟨_,rfl⟩
     rw[hx] at d1 HV hnl
     have FB:=HM.out.below (show Below w.heap.size w wr by rw[pV.out];exact HI.out.bA)
     have hpm:=FB.packs
     have m0:=(ah FB.blk 0).trans (show _=some (.map (some pm)) from rfl)
     have r0:=(ah HI.out.xM 0).trans (show _=some (.slice ao k ac) from rfl)
     have g0:=ak HI.out.xM 0
     have hxm:x.length≤maxLen:=by unfold maxLen;omega
     have hf:=Ie p
     have HA:=hide HI.out.CS
     have HIS:=HI.out.size
     have hBs:=HI.out.size
     clear hv2 q1 hget hv hT hx FB p1
     simp only[Pk.val,Pk.cells] at hf
     have hlk:=hpm.drew.look Tryz.underlying86 (bU _) x hxm
     rw[HV.out] at hlk
     simp only[Option.getD_some,Pk.val,Pk.cells] at hlk
     have hown0:wr.drew.ownsRow (B+2) 9 1 (.slice ao k ac) k (((Hv.kR D).take k).map aO):=HA.out
     obtain ⟨ys,hys⟩:∃ ys,((Hv.kR D).take k).map aO=ys:=⟨_,rfl⟩
     have Rq:=hide hys
     rw[hys] at hown0
     have HRB:=hide HI.out.xM
     have YL:=hide (fun q (e:(Value.slice ao k ac).ownBlock=some q)=>(HA.out.lt q e).1)
     clear hys hpm
     have r0a:=(fE (w:=wr) (b:=B+1) (j:=0) (by omega) (.cells #[.string ⟨p.text.toArray⟩] 9)).trans r0
     go_wp2_with fail
     go_region_law (refine bF rfl _ _ 28 rfl (B+2) 9 i0 (.string ByteArray.empty) 1 16 Tryz.underlying28 hi hz0 hz1 hz2 rfl (by decide) (.slice ao k ac) k ys (by simp[Act.eval]) (hown0.alloc _) ⟨wr.heap.size,0,none⟩ 1 1 [_] (by simp[Act.eval]) rfl (cell_one_new _ _ _) (fun x hx=>by simp at hx;subst hx;rfl) (by unfold maxLen;omega) (by omega) (by simp;omega) ?_;intro v' w4 hown' aN eD dJ;obtain ⟨gv,cv,rfl⟩:=aP hown' (by omega);have hk4:=(aN.block (B+1) (by simp;omega) (fun e=>by have:=YL.out (B+1) e.symm;omega)).trans ((Below.heap_alloc _ _ _ (by show B+1<wr.heap.size;omega)).trans HRB.out);have q5:=(ah hk4 0).trans (show _=some (.slice ao k ac) from rfl);have g5:=ak hk4 0;have O4:=hide hown';have G4:=hide aN;have A4:=hide dJ;clear hown' aN eD dJ hk4)
     all_goals
       have hg4:(wr.alloc (.cells #[.string ⟨p.text.toArray⟩] 9)).grownBy w4 (Value.slice ao k ac).ownBlock:=⟨G4.out.os,G4.out.tape,G4.out.output,G4.out.size,G4.out.block⟩
       have HI2:Hid (sV B (.slice (some ⟨gv,0,none⟩) (k+1) cv) (k+1) (.slice none 0 0) 0 ((Hv.kR D).take (k+1)) [] w (w4.setCell ⟨B+1,0,none⟩ (.slice (some ⟨gv,0,none⟩) (k+1) cv))):=hide (by
         rw[HT.out]
         exact HI.out.adh hg4 (by rw[Rq.out];exact O4.out))
       have HB2:Hid (aQ w1.heap.size (fun q=>q=B+1) w1 (w4.setCell ⟨B+1,0,none⟩ (.slice (some ⟨gv,0,none⟩) (k+1) cv))):=hide (by
         exact ((HB.out.alloc HB.out.size _).grown hg4 (by have:=HB.out.size;simp;omega) (fun q hq => .inl (Gh.out q hq))).setCell (p:=⟨B+1,0,none⟩) (.inr rfl) _)
       have VJ:Hid (∀ q,(Value.slice (some ⟨gv,0,none⟩) (k+1) cv).ownBlock=some q→w1.heap.size≤q):=hide (fun q hq=>by
         have e2:gv=q:=Option.some.inj hq
         rcases A4.out with h | h
         · exact Gh.out q (by rw[← e2];exact h.symm)
         · have h2:=Option.some.inj h
           simp at h2
           have:=HB.out.size
           omega)
       clear hg4
       go_wp2_with fail
       go_roundw
       case rel=>exact ⟨k+1,_,cv,by omega,by go_num,HI2,HB2,VJ⟩
       case measure=>simp[intOf];omega
   · obtain rfl:k=nd:=by omega
     have b1 : ¬ (k:Int)<(k:Int):=by omega
     have FB:=HM.out.below (show Below w.heap.size w wr by rw[pV.out];exact HI.out.bA)
     have HMW:=hide FB
     have m1:=(ah FB.blk 1).trans (show _=some (.map (some fm)) from rfl)
     have Vo:Hid (sV B (.slice ao k ac) k (.slice none 0 0) 0 (Hv.kR D) [] w wr):=hide (by
       have h:=HI.out
       rw[List.take_of_length_le (by have:=MR.out;simp[Hv.kR];omega)] at h
       exact h)
     have adb:=HI.out.size
     clear FB HI
     go_wp2_with fail
     refine (callsIn_wide.1 (Tryz.maps_Keys_73 (some fm) wr)).mono ?_
     rintro e w5 ⟨rfl,rfl⟩
     go_wp2_with fail
     refine (callsIn_wide.1 (Tryz.slices_Sorted_keys_72_73 fm (Hv.aS G).length (Hv.rU (Hv.aS G)) Hv.hR wr HMW.out.files.2 (by rw[Hv.gZ,Hv.fP];unfold maxLen;omega) (by rw[Hv.gZ,Hv.fP];omega))).mono ?_
     rintro e w6 ⟨kv,ss,rfl,hS,vO, -,hb6⟩
     have Yd:=jW HMW.out.files.1 hS
     have WB:ss.length=(keysOf (Hv.aS G)).length:=by rw[hS.length_eq,jB]
     have hkf:keysOf (Hv.aS G)=keysOf G:=by simp[keysOf,Hv.aS,List.map_map,Function.comp_def]
     rw[Yd,WB,hkf] at vO
     have zO:=hide (((Below.refl wr.heap.size wr).alloc (Nat.le_refl _) (.cells #[.map (some fm)] 139)).trans (hb6.mono (by simp)))
     have HO6:=hide (bN (B:=wr.heap.size) vO (by simp))
     have Ka:=hide (Vo.out.below zO.out)
     have hs6:=zO.out.size
     obtain ⟨ka,kc,rfl⟩:=slice_form vO
     have hkl:(keysOf G).length=G.length:=by simp[keysOf]
     rw[hkl] at HO6 ⊢
     obtain ⟨ng,ZW⟩:∃ ng,G.length=ng:=⟨_,rfl⟩
     have MS:=hide ZW
     rw[ZW] at hG ⊢
     clear vO hb6 Yd WB hkf hS hkl ZW m1 Vo HMW
     go_wp2_with fail
     obtain ⟨j0,hj0,hj1,hj2⟩:∃ j0,Tryz.prog.info? 71=some j0∧j0.zero=some (.agg #[.string ByteArray.empty, .string ByteArray.empty])∧j0.size=2∧j0.bytes=32:=by
       obtain ⟨j0,a,b,c,d⟩:=aW Ir
       exact ⟨j0,a,b,c,d⟩
     obtain ⟨hj2,hj3⟩:=hj2
     go_loopw [35] (fun i wr2=>∃ (q:Nat) (fo:Option Addr) (fc:Nat),q≤ng∧i = .int .i64 (q:Int)∧Hid (sV B (.slice ao k ac) k (.slice fo q fc) q (Hv.kR D) (G.take q) w wr2)∧Hid (aQ w6.heap.size (fun z=>z=B+1) w6 wr2)∧Hid (∀ z,(Value.slice fo q fc).ownBlock=some z→w6.heap.size≤z)) (fun i _=>ng-(intOf i).toNat)
     case atStart=>exact ⟨0,none,0,Nat.zero_le _,rfl,Ka,hide (aQ.refl _ _ _),hide (fun q h=>by cases h)⟩
     case round =>
       clear Ka
       obtain ⟨q,fo,fc,hq,rfl,HI,HB2,VJ⟩:=hrel
       by_cases hlt2:q<ng
       · have b2:(q:Int)<(ng:Int):=by omega
         have hqG:q<G.length:=by have:=MS.out;omega
         have hqk:q<(keysOf G).length:=by simp[keysOf];omega
         obtain ⟨g,c',hv2,hg,q1⟩:=gF (l:=keysOf G) (v := .slice ka ng kc) (w:=w6) (e:=9) (by have h:=HO6.out;rw[show (keysOf G).length=G.length by simp[keysOf]];rw[MS.out] at h ⊢;exact h) hqk
         obtain rfl:ka=some ⟨g,0,none⟩:=(Value.slice.inj hv2).1
         have hgB:=uo HO6.out rfl
         have aeB:B+2≤g:=Nat.le_trans adb hgB
         have hHI:=HI.out.size
         have d1:=(HB2.out.cell (p:=⟨g,q,none⟩) hg (by show ¬ g=B+1;omega)).trans q1
         have hgs:=Hv.bq HM.out.files.1
         have hkq:(keysOf G)[q]=G[q].1:=by simp[keysOf]
         have hget:Hv.get G G[q].1=some G[q].2:=(Hv.get_some hgs).2 (List.getElem_mem hqG)
         have hxk:=hGk _ (List.getElem_mem hqG)
         have hT:(G.take (q+1))=G.take q++[G[q]]:=List.take_succ_eq_append_getElem hqG
         have HT:=hide hT
         rw[hkq] at d1
         obtain ⟨xy,hxy⟩:∃ xy,G[q]=xy:=⟨_,rfl⟩
         rw[hxy] at d1 hget hxk HT
         obtain ⟨x,y⟩:=xy
         simp only at d1 hget hxk
         have hxm:x.length≤maxLen:=by unfold maxLen;omega
         have FB:=HM.out.below (show Below w.heap.size w wr by rw[pV.out];exact HI.out.bA)
         have m1:=(ah FB.blk 1).trans (show _=some (.map (some fm)) from rfl)
         have hlk:=FB.files.drew.look Tryz.underlying139 (oz _) x hxm
         rw[Hv.gN,hget] at hlk
         simp only[Option.map_some,Option.getD_some,Hv.gW] at hlk
         have hfd:=oN y.toArray
         have r1:=(ah HI.out.xM 1).trans (show _=some (.slice fo q fc) from rfl)
         have g1:=ak HI.out.xM 1
         obtain ⟨ys,hys⟩:∃ ys,(G.take q).flatMap cB=ys:=⟨_,rfl⟩
         have Rq:=hide hys
         have hown0:wr.drew.ownsRow (B+2) 71 2 (.slice fo q fc) q ys:=by rw[← hys];exact HI.out.file
         have HRB:=hide HI.out.xM
         have YL:=hide (fun z (e:(Value.slice fo q fc).ownBlock=some z)=>(HI.out.file.lt z e).1)
         have r1a:=(fE (w:=wr) (b:=B+1) (j:=1) (by omega) (.cells #[.string ⟨x.toArray⟩, .string ⟨y.toArray⟩] 71)).trans r1
         clear hv2 q1 hget hT hxy FB hkq hys hgs
         go_wp2_with fail
         go_region_law (refine bF rfl _ _ 68 rfl (B+2) 71 j0 (.agg #[.string ByteArray.empty, .string ByteArray.empty]) 2 32 Tryz.underlying68 hj0 hj1 hj2 hj3 rfl (by decide) (.slice fo q fc) q ys (by simp[Act.eval]) (hown0.alloc _) ⟨wr.heap.size,0,none⟩ 1 1 [_,_] (by simp[Act.eval]) rfl (cell_two_new _ _ _ _) (fun x hx=>by simp at hx;rcases hx with rfl | rfl<;>rfl) (by unfold maxLen;omega) (by omega) (by simp;omega) ?_;intro v' w8 hown' jG Bo X9;obtain ⟨gv,cv,rfl⟩:=aP hown' (by omega);have ZQ:=(jG.block (B+1) (by simp;omega) (fun e=>by have:=YL.out (B+1) e.symm;omega)).trans ((Below.heap_alloc _ _ _ (by show B+1<wr.heap.size;omega)).trans HRB.out);have q5:=(ah ZQ 1).trans (show _=some (.slice fo q fc) from rfl);have g5:=ak ZQ 1;have O8:=hide hown';have G8:=hide jG;have A8:=hide X9;clear hown' jG Bo X9 ZQ)
         all_goals
           have hg8:(wr.alloc (.cells #[.string ⟨x.toArray⟩, .string ⟨y.toArray⟩] 71)).grownBy w8 (Value.slice fo q fc).ownBlock:=⟨G8.out.os,G8.out.tape,G8.out.output,G8.out.size,G8.out.block⟩
           have HI9:Hid (sV B (.slice ao k ac) k (.slice (some ⟨gv,0,none⟩) (q+1) cv) (q+1) (Hv.kR D) (G.take (q+1)) w (w8.setCell ⟨B+1,1,none⟩ (.slice (some ⟨gv,0,none⟩) (q+1) cv))):=hide (by
             rw[HT.out]
             exact HI.out.adi (x:=(x,y)) hg8 (by rw[Rq.out];exact O8.out))
           have HB9:Hid (aQ w6.heap.size (fun z=>z=B+1) w6 (w8.setCell ⟨B+1,1,none⟩ (.slice (some ⟨gv,0,none⟩) (q+1) cv))):=hide (by
             exact ((HB2.out.alloc HB2.out.size _).grown hg8 (by have:=HB2.out.size;simp;omega) (fun z hz => .inl (VJ.out z hz))).setCell (p:=⟨B+1,1,none⟩) (.inr rfl) _)
           have acw:Hid (∀ z,(Value.slice (some ⟨gv,0,none⟩) (q+1) cv).ownBlock=some z→w6.heap.size≤z):=hide (fun z hz=>by
             have e2:gv=z:=Option.some.inj hz
             rcases A8.out with h | h
             · exact VJ.out z (by rw[← e2];exact h.symm)
             · have h2:=Option.some.inj h
               simp at h2
               have:=HB2.out.size
               omega)
           clear hg8
           go_wp2_with fail
           go_roundw
           case rel=>exact ⟨q+1,_,cv,by omega,by go_num,HI9,HB9,acw⟩
           case measure=>simp[intOf];omega
       · obtain rfl:q=ng:=by omega
         have b2 : ¬ (q:Int)<(q:Int):=by omega
         have hrr:=HI.out.xM
         have p0:=(ah hrr 0).trans (show _=some (.slice ao k ac) from rfl)
         have p1:=(ah hrr 1).trans (show _=some (.slice fo q fc) from rfl)
         have p2:=(ah hrr 2).trans (show _=some (.slice none 0 0) from rfl)
         have HFF:Hid (wr.ownsRow (B+2) 71 2 (.slice fo q fc) q (G.flatMap cB)):=hide (by
           have h:=HI.out.file
           rwa [List.take_of_length_le (by have:=MS.out;omega)] at h)
         obtain ⟨e0,e1,e2,f0,f1,f2,n0,n1,n2⟩:=Mh HI.out.res (.slice ao k ac) (.slice fo q fc) (.slice none 0 0)
         have HA9:=hide (EK HI.out.CS (B:=B) (by omega) (.slice ao k ac) (.slice fo q fc) (.slice none 0 0))
         have Kk:=hide (EK HFF.out (B:=B) (by omega) (.slice ao k ac) (.slice fo q fc) (.slice none 0 0))
         have Vk:=hide (JR (B:=B) HI.out.bA (Nat.le_refl _) (.slice ao k ac) (.slice fo q fc) (.slice none 0 0))
         clear hrr
         go_wp2_with fail
         refine bodyPost_ret (v := .agg #[.slice ao k ac, .slice fo q fc, .slice none 0 0]) (by simp[results,Tryz.results34,go_sem,n0,n1,n2]) rfl ?_
         rw[pV.out,MR.out,MS.out]
         exact ⟨_,_,rfl,bN HA9.out (by omega),bN Kk.out (by omega),Vk.out⟩
end
end Go.Proofs.YtialenebfcnkkaaGreatDoor
namespace Go.Proofs
open Go.Shelf
def Tryz.lays166_ren:Go.Shelf.Ren:=⟨fun | 166=>143 | 240=>197 | 276=>246 | n=>n,
 fun | 0=>0 | 3=>3 | 4=>4 | 5=>5 | 9=>9 | 20=>20 | 37=>47 | 70=>166 | 72=>168 | 75=>64 | 80=>101 | 164=>130 | n=>n,fun | n=>n⟩
theorem Tryz.lays166:Go.Proofs.Lays.n166 Tryz.prog Tryz.lays166_ren:={
 mixed:=by kernel_rfl
 f166:=Tryz.func143.trans (congrArg some (by kernel_rfl))
 f240:=Tryz.func197.trans (congrArg some (by kernel_rfl))
 f276:=Tryz.func246.trans (congrArg some (by kernel_rfl))
 t0:=Tryz.underlying0
 a0:=Tryz.isAgg0
 z0:=Tryz.sizeOf0
 v0:=Tryz.zeroValue0
 t3:=Tryz.underlying3
 a3:=Tryz.isAgg3
 z3:=Tryz.sizeOf3
 v3:=Tryz.zeroValue3
 t4:=Tryz.underlying4
 a4:=Tryz.isAgg4
 z4:=Tryz.sizeOf4
 v4:=Tryz.zeroValue4
 t9:=Tryz.underlying9
 a9:=Tryz.isAgg9
 z9:=Tryz.sizeOf9
 v9:=Tryz.zeroValue9
 t20:=Tryz.underlying20
 a20:=Tryz.isAgg20
 z20:=Tryz.sizeOf20
 v20:=Tryz.zeroValue20
 t37:=Tryz.underlying47
 a37:=Tryz.isAgg47
 z37:=Tryz.sizeOf47
 v37:=Tryz.zeroValue47
 t70:=Tryz.underlying166
 a70:=Tryz.isAgg166
 z70:=Tryz.sizeOf166
 v70:=Tryz.zeroValue166
 t72:=Tryz.underlying168
 a72:=Tryz.isAgg168
 z72:=Tryz.sizeOf168
 v72:=Tryz.zeroValue168
 t75:=Tryz.underlying64
 a75:=Tryz.isAgg64
 z75:=Tryz.sizeOf64
 v75:=Tryz.zeroValue64
 t164:=Tryz.underlying130
 a164:=Tryz.isAgg130
 z164:=Tryz.sizeOf130
 v164:=Tryz.zeroValue130 }
theorem Tryz.Builder_Extra_166:Builder.Extra Tryz.prog Tryz.lays166_ren where
 sizeBuilder:=by kernel_rfl
 liesBuilder:=by kernel_rfl
 t5:=Tryz.underlying5
 a5:=Tryz.isAgg5
 z5:=Tryz.sizeOf5
 v5:=Tryz.zeroValue5
 infoByte:=by kernel_rfl
 cellsByte:=by kernel_rfl
 sizeByte:=by kernel_rfl
 neB5:=by decide
open Go.RowKit in
theorem Tryz.Builder_WriteString (B b:Nat) (bs:List Value) (s:ByteArray) (w:World) (h:Lib.IsBuilder 168 5 B b bs w) (hlen:bs.length+s.size≤140737488355328) (hBw:B≤w.heap.size) :
   Calls Tryz.prog 143 #[.pointer (some ⟨b,0,none⟩), .string s] w fun e w'=>e = .returned (.tuple #[.int .i64 s.size, .nilIface])∧(Lib.BuilderAt 168 5 B b (.pointer (some ⟨b,0,none⟩)) (bs++Lib.strCells s) w'∧Below B w w'):=Any.Builder_WriteString Tryz.lays166 Tryz.Builder_Extra_166 B b bs s w h hlen hBw
end Go.Proofs
namespace Go.Proofs.YtialenebfcnkkaaGreatDoor
section
open Go.RowKit
open Hv (S Dk VM)
def XF (B b:Nat) (l:S) (w:World):Prop:=Lib.IsBuilder 168 5 B b (Lib.byteCells l) w
theorem Y9 {B b:Nat} {l:S} {w:World} (h:Lib.BuilderAt 168 5 B b (.pointer (some ⟨b,0,none⟩)) (Lib.byteCells l) w):XF B b l w := .inr h
theorem Ou (x:S):Lib.strCells ⟨x.toArray⟩=Lib.byteCells x:=by
 rfl
theorem Oq (x y:S):Lib.byteCells x++Lib.byteCells y=Lib.byteCells (x++y):=by simp[Lib.byteCells]
theorem Ot (x:S):(Lib.byteCells x).length=x.length:=by simp[Lib.byteCells]
theorem DW {B b:Nat} {l:S} {w w':World} (h:XF B b l w) (hb:Below w.heap.size w w'):XF B b l w':=by
 have key:∀ p,Lib.BuilderAt 168 5 B b p (Lib.byteCells l) w→Lib.BuilderAt 168 5 B b p (Lib.byteCells l) w':=by
   rintro p ⟨h1,v,h2,h3,h4⟩
   exact ⟨h1,v,(hb.block b (blt h2)).trans h2,own_below h3 hb,h4⟩
 rcases h with h | h
 · exact .inl (key _ h)
 · exact .inr (key _ h)
theorem BU (B b:Nat) (l words x:S) (hw:words.length≤1000) (hx:x.length≤1000000) (hl:l.length≤100000000) (w:World) (hb:Base w) (h:XF B b l w) (hBw:B≤w.heap.size) :
   Calls Tryz.prog 78 #[.pointer (some ⟨b,0,none⟩), .string ⟨words.toArray⟩, .string ⟨x.toArray⟩] w fun e w'=>∃ u,e = .returned u∧XF B b (l++Hv.ny words x) w'∧Below B w w':=by
 have HB:=hide h
 have iT:=hide hb
 clear h hb
 go_enter Tryz.func78,Tryz.ntmps78
 go_wp2_with fail
 refine (lX x.length (by omega) (by omega) w iT.out).mono ?_
 rintro e w1 ⟨rfl,hb1⟩
 have HB1:=hide hb1
 have lz:=Lib.itoa_length_le x.length (by omega) (by omega)
 have HP:Hid (Hv.ny words x=words++([32]++(Lib.itoa x.length++([10]++x)))):=hide rfl
 obtain ⟨z,hz⟩:∃ z,Lib.itoa x.length=z:=⟨_,rfl⟩
 rw[hz] at lz HP ⊢
 clear hb1 hz
 have HS:Hid ((((((⟨words.toArray⟩:ByteArray)++⟨#[32]⟩)++⟨z.toArray⟩)++⟨#[10]⟩)++⟨x.toArray⟩)=⟨(Hv.ny words x).toArray⟩):=hide (by
   rw[HP.out,show (⟨#[32]⟩:ByteArray)=⟨([32]:S).toArray⟩ from rfl,show (⟨#[10]⟩:ByteArray)=⟨([10]:S).toArray⟩ from rfl,pq,pq,pq,pq]
   simp only[List.append_assoc])
 have hpl:=Hv.qF words x hx
 go_wp2_with fail
 rw[HS.out]
 refine (Tryz.Builder_WriteString B b (Lib.byteCells l) ⟨(Hv.ny words x).toArray⟩ w1 (DW HB.out HB1.out) (by rw[Ot];show l.length+(Hv.ny words x).length≤_;omega) (by have:=HB1.out.size;omega)).mono ?_
 rintro e w2 ⟨rfl,hbd,hb2⟩
 have HBD:Hid (XF B b (l++Hv.ny words x) w2):=hide (by
   rw[Ou,Oq] at hbd
   exact Y9 hbd)
 have HB2:=hide ((HB1.out.mono hBw).trans hb2)
 clear hbd hb2
 go_wp2_with fail
 go_end0
 exact ⟨_,rfl,HBD.out,HB2.out⟩
end
end Go.Proofs.YtialenebfcnkkaaGreatDoor
