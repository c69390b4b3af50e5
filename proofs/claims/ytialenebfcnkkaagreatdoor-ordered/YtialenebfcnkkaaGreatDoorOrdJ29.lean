/- EngW12, EngW13, HavW2, MchW7 -/
import Derived.Test.YtialenebfcnkkaaGreatDoorOrdJ28
import Derived.Test.YtialenebfcnkkaaGreatDoorOrdJ26
set_option maxHeartbeats 4000000
set_option maxRecDepth 100000
namespace Go.Proofs.YtialenebfcnkkaaGreatDoor
section
open Go.RowKit
open aH (St gH)
open Hv (S Dk VM)
theorem aaD {x V:Nat} (h:x≤V+1000000+2000000):x≤V+3000000 :=
 Nat.le_trans h (Nat.le_of_eq ((Nat.add_assoc V 1000000 2000000).trans (congrArg (V + ·) (show 1000000+2000000=3000000 from rfl))))
theorem OM {C N:Nat→Prop} (eb sb mb pm fm db n a b c:Nat) (h:S) (d:Dk) (V:Nat) (P:VM Value) (D:VM Hv.PD) (G:VM S) (v:Value) (xs:List S) (pl:Hv.Plan) (hck:Hv.check n D G xs = .ok pl) (hRG:zR n pl (Hv.bP D pl.cO,G)) (hRF:oH n (D,G) xs) (hsteps:0<pl.steps.length) (nQ:bY D) (hcp:mV ∨ ∀ s,Hv.wish xs = .ok s→∀ k d,Hv.get s.I k=some d→bK d.st.runs∧bK d.st.aL) (hS:Hv.Short 200 G) (hD:jK n V a b h d) (hW:V≤500000000) (hnn:1≤n∧n≤4096) (w:World) (he:dY C N eb sb mb pm fm db n a b c h d P D G (.slice none 0 0) (.map none) (.map none) 0 w) (hv:Reads w v xs) :
   Calls Tryz.prog 19 #[.pointer (some ⟨eb,0,none⟩),v] w fun e w'=>∃ C' N' d' P' b' h',e = .returned (.tuple #[.int .i64 0, .nilIface])∧dY C' N' eb sb mb pm fm db n a b' 0 h' d' P' (Hv.aJ pl (Hv.bP D pl.cO,G) pl.steps).1 (Hv.aJ pl (Hv.bP D pl.cO,G) pl.steps).2 (.slice none 0 0) (.map none) (.map none) 0 w'∧jK n (V+3000000) a b' h' d'∧aQ w.heap.size (dZ C eb sb pm fm) w w'∧(∀ k,C' k→C k∨w.heap.size≤k)∧∀ k,N' k→N k∨w.heap.size≤k:=by
 have HE:=hide he;have HV:=hide hv;have HD:=hide hD;have HRG:=hide hRG;have Rm:=hide hRF;have J9:=hide nQ;have YC:=hide hcp;have HS:=hide hS;have HCK:=hide hck
 have HU:=hide (Cz eb _ _ _ w he.dR)
 obtain ⟨va,vc,rfl, -⟩:=hv.form
 clear he hv hD hRG hRF nQ hcp hS hck
 go_enter Tryz.func19,Tryz.ntmps19
 go_wp2_with fail
 refine HU.out.mono ?_
 rintro e w1 ⟨rfl,hb1⟩
 have kU:=hide (HE.out.below hb1);have Gl:=hide (HV.out.below hb1)
 have HB1:=hide hb1
 obtain ⟨e0,e1, -⟩:=kU.out.dR.cells
 have hmk:∀ w',Below w1.heap.size w1 w'→(Below w1.heap.size w1 w'∧w'.cell? ⟨eb,0,none⟩=some (.pointer (some ⟨sb,0,none⟩))∧w'.cell? ⟨eb,1,none⟩=some (.pointer (some ⟨mb,0,none⟩))):=fun w' q=>⟨q,(kU.out.below q).dR.cells.1,(kU.out.below q).dR.cells.2.1⟩
 have MP:Hid (∀ wx w',(Below w1.heap.size w1 wx∧wx.cell? ⟨eb,0,none⟩=some (.pointer (some ⟨sb,0,none⟩))∧wx.cell? ⟨eb,1,none⟩=some (.pointer (some ⟨mb,0,none⟩)))→Below wx.heap.size wx w'→(Below w1.heap.size w1 w'∧w'.cell? ⟨eb,0,none⟩=some (.pointer (some ⟨sb,0,none⟩))∧w'.cell? ⟨eb,1,none⟩=some (.pointer (some ⟨mb,0,none⟩)))):=hide fun wx w' h h'=>hmk w' (h.1.trans (h'.mono h.1.size))
 have Ae:Hid (∀ wx A i v,(Below w1.heap.size w1 wx∧wx.cell? ⟨eb,0,none⟩=some (.pointer (some ⟨sb,0,none⟩))∧wx.cell? ⟨eb,1,none⟩=some (.pointer (some ⟨mb,0,none⟩)))→w1.heap.size≤A→(Below w1.heap.size w1 (wx.setCell ⟨A,i,none⟩ v)∧(wx.setCell ⟨A,i,none⟩ v).cell? ⟨eb,0,none⟩=some (.pointer (some ⟨sb,0,none⟩))∧(wx.setCell ⟨A,i,none⟩ v).cell? ⟨eb,1,none⟩=some (.pointer (some ⟨mb,0,none⟩)))):=hide fun wx A i v h h'=>hmk _ (h.1.setCell h' _)
 have Vp:Hid (∀ wx o o',(Below w1.heap.size w1 (World.alloc wx o)∧(World.alloc wx o).cell? ⟨eb,0,none⟩=some (.pointer (some ⟨sb,0,none⟩))∧(World.alloc wx o).cell? ⟨eb,1,none⟩=some (.pointer (some ⟨mb,0,none⟩)))→w1.heap.size≤wx.heap.size→(Below w1.heap.size w1 (World.alloc wx o')∧(World.alloc wx o').cell? ⟨eb,0,none⟩=some (.pointer (some ⟨sb,0,none⟩))∧(World.alloc wx o').cell? ⟨eb,1,none⟩=some (.pointer (some ⟨mb,0,none⟩)))):=hide fun wx o o' h h'=>hmk _ ⟨h.1.os,h.1.tape,h.1.output,by simp;omega,fun k hk=>((Below.heap_alloc wx o' k (by omega)).trans (Below.heap_alloc wx o k (by omega)).symm).trans (h.1.block k hk)⟩
 have Gj:=hide (hmk _ ((Below.refl w1.heap.size w1).drew))
 have hxl:xs.length≤1000000:=by have:=Rm.out.l6.1;omega
 have hxx:∀ x∈xs,x.length≤1000000000000:=fun x hx=>by have:=Rm.out.l6.2 x hx;omega
 have HXX:=hide hxx
 have hni:(0:Int)≤(n:Int)∧(n:Int)≤4096:=by omega
 have HNI:=hide hni
 have hGS:=kU.out.base.size
 have Vm:=hide hGS
 clear hb1 hmk HU hxx hni hGS
 go_wp2_with fail
 go_region_held3 (fun w'=>Below w1.heap.size w1 w'∧w'.cell? ⟨eb,0,none⟩=some (.pointer (some ⟨sb,0,none⟩))∧w'.cell? ⟨eb,1,none⟩=some (.pointer (some ⟨mb,0,none⟩)))
   (first | exact Gj.out | exact MP.out _ _ (by assumption) hb2 | exact MP.out _ _ (by assumption) hb3 | exact MP.out _ _ (by assumption) ((Below.refl _ _).alloc (Nat.le_refl _) _) | exact Vp.out _ _ _ (by assumption) (by omega) | exact Ae.out _ _ _ _ (by assumption) (by omega) | exact Ae.out _ _ _ _ (Ae.out _ _ _ _ (Ae.out _ _ _ _ (by assumption) (by omega)) (by omega)) (by omega))
   (first
     | (go_at_call 33;refine (Ci sb db n a b c h _ (kU.out.st.below (And.left (by assumption)))).mono ?_;rintro e w2 ⟨rfl,hb2⟩;have hs2:w1.heap.size≤w2.heap.size:=(by have h:=hb2.size;first | exact h | (simp at h;omega)); (try have abS:w1.heap.size+1≤w2.heap.size:=(by have h:=hb2.size;simp at h;omega)); (try have q2:=(hb2.block w1.heap.size (by simp)).trans (heap_alloc_new w1.drew (.cells #[.slice none 0 0, .map none, .map none] 89))))
     | (go_at_call 32;refine (DY mb pm fm P D G N n HNI.out _ xs hxl HXX.out Rm.out.l1 J9.out YC.out Rm.out.l3 HS.out _ (kU.out.base.below (And.left (by assumption)) Vm.out) (kU.out.iM.below (And.left (by assumption))) (kU.out.pk.below (And.left (by assumption))) (Gl.out.below (And.left (by assumption)))).mono ?_;rintro e w3 K9;unfold pR at K9;rw[HCK.out] at K9;obtain ⟨sv,im,km,rfl,FJ,hb3⟩:=K9;obtain ⟨sa,sc,rfl⟩:=slice_form FJ.row;have hs3:w2.heap.size≤w3.heap.size:=(by have h:=hb3.size;first | exact h | (simp at h;omega)); (try have abT:w2.heap.size+1≤w3.heap.size:=(by have h:=hb3.size;simp at h;omega)); (try have q3:=(hb3.block w2.heap.size (by simp)).trans (heap_alloc_new w2 (.cells #[.slice none 0 0, .map none, .map none] 89))); (try have q3:=(hb3.block w1.heap.size (blt q2)).trans q2); (try have z0:=(ah q3 0).trans (show _=some (.slice none 0 0) from rfl)); (try have z1:=(ah q3 1).trans (show _=some (.map none) from rfl)); (try have z2:=(ah q3 2).trans (show _=some (.map none) from rfl)); (try have y0:=ak q3 0); (try have y1:=ak q3 1); (try have y2:=ak q3 2);have Sc:Below w1.heap.size w1 w3:=(fun (h:Below w1.heap.size w1 _)=>h.trans (hb3.mono h.size)) (And.left (by assumption))))
 all_goals first
   | (have hx:=Qe (w1:=w1) FJ (by omega) Sc (.slice sa pl.steps.length sc) (.map (some im)) (.map (some km))
      obtain ⟨A,hA⟩:∃ A,w3.heap.size=A:=⟨_,rfl⟩
      have hAl:w1.heap.size≤A:=(by omega)
      obtain ⟨W,hW⟩:∃ W,w3.alloc (.cells #[.slice sa pl.steps.length sc, .map (some im), .map (some km)] 89)=W:=⟨_,rfl⟩
      rw[hW] at hx ⊢
      obtain ⟨z,X1,X2,X3,X4⟩:=hx
      rw[hA] at X1 ⊢
      clear hW hA)
   | (have hx:=Jg (w1:=w1) (A:=w2.heap.size) FJ (by simp) (by omega) Sc q3 (.slice sa pl.steps.length sc) (.map (some im)) (.map (some km))
      obtain ⟨A,hA⟩:∃ A,w2.heap.size=A:=⟨_,rfl⟩
      have hAl:w1.heap.size≤A:=(by omega)
      obtain ⟨W,hW⟩:∃ W,(((w3.setCell ⟨w2.heap.size,0,none⟩ (.slice sa pl.steps.length sc)).setCell ⟨w2.heap.size,1,none⟩ (.map (some im))).setCell ⟨w2.heap.size,2,none⟩ (.map (some km)))=W:=⟨_,rfl⟩
      rw[hW] at hx ⊢
      obtain ⟨z,X1,X2,X3,X4⟩:=hx
      rw[hA] at X1 ⊢
      clear hW hA)
   | (have hx:=Jg (w1:=w1) (A:=w1.heap.size) FJ (by omega) (by omega) Sc q3 (.slice sa pl.steps.length sc) (.map (some im)) (.map (some km))
      obtain ⟨A,hA⟩:∃ A,w1.heap.size=A:=⟨_,rfl⟩
      have hAl:w1.heap.size≤A:=(by omega)
      obtain ⟨W,hW⟩:∃ W,(((w3.setCell ⟨w1.heap.size,0,none⟩ (.slice sa pl.steps.length sc)).setCell ⟨w1.heap.size,1,none⟩ (.map (some im))).setCell ⟨w1.heap.size,2,none⟩ (.map (some km)))=W:=⟨_,rfl⟩
      rw[hW] at hx ⊢
      obtain ⟨z,X1,X2,X3,X4⟩:=hx
      rw[hA] at X1 ⊢
      clear hW hA)
 all_goals
   have hc1:=kU.out.dk.lt
   have hEW:dY C (fun g=>N g∨(w1.heap.size≤g∧g<z)) eb sb mb pm fm db n a b c h d P D G (.slice none 0 0) (.map none) (.map none) 0 W:=by
     have q:=kU.out.below X3
     have l1:=blt kU.out.dR;have l2:=kU.out.st.lt
     refine ⟨q.dR,q.st,q.iM,q.pk.weak (fun g hg => .inl hg),q.dk,q.off,q.apart,fun g hg => ?_,q.base,q.low⟩
     rcases hg with hg | hg
     · exact q.rows g hg
     · have h4:=X4
       exact ⟨by omega,fun hC=>by have:=hc1 g hC;omega,by omega,by omega⟩
   have HEW:=hide hEW
   have HVW:=hide (Gl.out.below X3)
   have mM:=hide (HB1.out.trans (X3.mono HB1.out.size))
   have Gt:=hide X2
   have XG:=hide X1
   have HMW:=hide (show ∀ g,(w1.heap.size≤g∧g<z)→g<W.heap.size from fun g hg=>by have:=X4;omega)
   have HMC:=hide (show nG C eb sb pm fm (fun g=>w1.heap.size≤g∧g<z) from fun g hg q=>by
     have l1:=blt kU.out.dR;have l2:=kU.out.st.lt;have l3:=kU.out.iM.packs.lt;have l4:=kU.out.iM.files.lt
     rcases q with q | q | q | q | q
     · have:=hc1 g q;omega
     · omega
     · omega
     · omega
     · omega)
   have hAC : ¬ (C A∨A=sb):=fun q=>by
     have l2:=kU.out.st.lt
     rcases q with q | q
     · have:=hc1 A q;omega
     · omega
   have HCS:=hide (show ∀ k,(C k∨k=sb)→k<W.heap.size from fun k q=>by
     have l2:=kU.out.st.lt
     have l9:=X3.size
     rcases q with q | q
     · have:=hc1 k q;omega
     · omega)
   have HMG:=hide (show ∀ g,(w1.heap.size≤g∧g<z)→w.heap.size≤g from fun g hg=>by have:=HB1.out.size;omega)
   obtain ⟨M,hM⟩:∃ M:Nat→Prop,(fun g=>w1.heap.size≤g∧g<z)=M:=⟨_,rfl⟩
   rw[hM] at Gt HMC
   have acB:Hid (∀ g,M g→w.heap.size≤g):=hide (by rw[← hM];exact HMG.out)
   have Rc:Hid (dY C (fun g=>N g∨M g) eb sb mb pm fm db n a b c h d P D G (.slice none 0 0) (.map none) (.map none) 0 W):=hide (by rw[← hM];exact HEW.out)
   have aaU:Hid (∀ g,M g→g<W.heap.size):=hide (by rw[← hM];exact HMW.out)
   obtain ⟨x0,x1, -⟩:=Rc.out.dR.cells
   have HRE:=hide (Cc mb pm fm P D G (fun g=>N g∨M g) (by have h:D.length≤12:=Rm.out.l1;omega) Rm.out.l2 (by have h:G.length≤16:=Rm.out.l3;omega) (fun p hp=>by have:=(Rm.out.l4 p hp).1;omega) W Rc.out.iM Rc.out.pk)
   clear hM X1 X2 X3 X4 HMG HEW HMW hEW hc1 MP Ae Vp Gj kU Gl HB1 e0 e1
   (try clear hb2)
   go_wp2_with fail
   refine HRE.out.mono ?_
   rintro e w5 ⟨ra,rf,rfl,r1,r2,hb5⟩
   have R1:=hide r1;have R2:=hide r2
   have YF:=hide (Rc.out.below hb5);have HV5:=hide (HVW.out.below hb5);have kN:=hide (mM.out.trans (hb5.mono mM.out.size));have qO:=hide (Gt.out.below hb5)
   have HA5:=hide ((hb5.block A (blt XG.out)).trans XG.out)
   have CO:=hide (show ∀ g,M g→g<w5.heap.size from fun g hg=>Nat.lt_of_lt_of_le (aaU.out g hg) hb5.size)
   obtain ⟨ra,rac,rfl⟩:=slice_form r1
   obtain ⟨rf,rfc,rfl⟩:=slice_form r2
   have aaJ:=hide (show ∀ k,(C k∨k=sb)→k<w5.heap.size from fun k q=>Nat.lt_of_lt_of_le (HCS.out k q) hb5.size)
   clear r1 r2 hb5 HRE HCS Rc HVW mM Gt XG aaU x0 x1
   go_wp2_with fail
   have hrow:=heap_alloc_new w5 (.cells #[.slice ra D.length rac, .slice rf G.length rfc, .slice va xs.length vc] 98)
   have hb0:=(Below.refl w5.heap.size w5).alloc (Nat.le_refl _) (.cells #[.slice ra D.length rac, .slice rf G.length rfc, .slice va xs.length vc] 98)
   obtain ⟨u,hu⟩:∃ u,w5.alloc (.cells #[.slice ra D.length rac, .slice rf G.length rfc, .slice va xs.length vc] 98)=u:=⟨_,rfl⟩
   obtain ⟨rb,hrb⟩:∃ rb,w5.heap.size=rb:=⟨_,rfl⟩
   rw[hu] at hrow hb0 ⊢
   rw[hrb] at hrow ⊢
   have hbd:=hb0.trans ((Below.refl u.heap.size u).drew.mono hb0.size)
   have XH:=hide (YF.out.below hbd);have Y4:=hide (HV5.out.below hbd);have zO:=hide (kN.out.trans (hbd.mono kN.out.size));have HP6:=hide (qO.out.below hbd)
   have HA6:=hide ((hbd.block A (blt HA5.out)).trans HA5.out)
   have HM6:=hide (show ∀ g,M g→g<u.drew.heap.size from fun g hg=>Nat.lt_of_lt_of_le (CO.out g hg) hbd.size)
   have R16:=hide (bR R1.out (fun g hg=>hbd.block g (R1.out.lt g hg).2))
   have R26:=hide (bR R2.out (fun g hg=>hbd.block g (R2.out.lt g hg).2))
   have HEN:=hide (encS Rm.out _ _ _ u.drew XH.out.base R16.out R26.out Y4.out)
   have c0:=(ah hrow 0).trans (show _=some (.slice ra D.length rac) from rfl)
   have c1:=(ah hrow 1).trans (show _=some (.slice rf G.length rfc) from rfl)
   have c2:=(ah hrow 2).trans (show _=some (.slice va xs.length vc) from rfl)
   have g0:u.cell? ⟨eb,0,none⟩=some (.pointer (some ⟨sb,0,none⟩)):=XH.out.dR.cells.1
   have uY:=hide hrow
   have hrC : ¬ (C rb∨rb=sb):=fun q=>by have:=aaJ.out rb q;omega
   clear aaJ hu hrb hrow hb0 hbd R1 R2 YF HV5 kN qO HA5 CO
   go_region_held3 (fun w'=>w'.cell? ⟨eb,0,none⟩=some (.pointer (some ⟨sb,0,none⟩))∧w'.cell? ⟨rb,0,none⟩=some (.slice ra D.length rac)∧w'.cell? ⟨rb,1,none⟩=some (.slice rf G.length rfc)∧w'.cell? ⟨rb,2,none⟩=some (.slice va xs.length vc))
     (first | assumption | exact ⟨g0,c0,c1,c2⟩ | exact S8 | exact S7 | simp[go_sem, *])
     (first
       | (go_at_call 36;refine HEN.out.mono ?_;rintro e w7 ⟨rfl,Vv⟩;have YG:=hide (XH.out.below Vv);have HB7:=hide (zO.out.trans (Vv.mono zO.out.size));have HP7:=hide (HP6.out.below Vv);have Yx:=hide ((Vv.block A (blt HA6.out)).trans HA6.out);have HM7:=hide (show ∀ g,M g→g<w7.heap.size from fun g hg=>Nat.lt_of_lt_of_le (HM6.out g hg) Vv.size);have SA:=(Vv.block rb (blt uY.out)).trans uY.out;have S7:w7.cell? ⟨eb,0,none⟩=some (.pointer (some ⟨sb,0,none⟩))∧w7.cell? ⟨rb,0,none⟩=some (.slice ra D.length rac)∧w7.cell? ⟨rb,1,none⟩=some (.slice rf G.length rfc)∧w7.cell? ⟨rb,2,none⟩=some (.slice va xs.length vc):=⟨YG.out.dR.cells.1,(ah SA 0).trans rfl,(ah SA 1).trans rfl,(ah SA 2).trans rfl⟩;clear Vv)
       | (go_at_call 35;refine (ab7 Rm.out hnn HD.out (by omega) w7 YG.out).mono ?_;rintro e w8 ⟨rfl,C',d',b',h',k1,k2,k3,k5,k4⟩;have HE8:=hide k1;have HD8:=hide k2;have HK8:=hide k3;have HC8:=hide k4;have HP8:=hide (HP7.out.far k5 (Nat.le_refl _) (fun g hg q=>HMC.out g hg (by rcases q with q | q;exact .inl q;exact .inr (.inr (.inl q)))));have hr8:=(k5.block rb (blt SA) (fun q=>hrC q)).trans SA;have HA8:=hide ((k5.block A (blt Yx.out) (fun q=>hAC q)).trans Yx.out);have S8:w8.cell? ⟨eb,0,none⟩=some (.pointer (some ⟨sb,0,none⟩))∧w8.cell? ⟨rb,0,none⟩=some (.slice ra D.length rac)∧w8.cell? ⟨rb,1,none⟩=some (.slice rf G.length rfc)∧w8.cell? ⟨rb,2,none⟩=some (.slice va xs.length vc):=⟨HE8.out.dR.cells.1,(ah hr8 0).trans rfl,(ah hr8 1).trans rfl,(ah hr8 2).trans rfl⟩;clear k1 k2 k3 k4 k5))
   all_goals
     have HM8:=hide (HMC.out.disk HC8.out HM7.out)
     have a0:=(ah HA8.out 0).trans (show _=some (.slice sa pl.steps.length sc) from rfl)
     have a1:=(ah HA8.out 1).trans (show _=some (.map (some im)) from rfl)
     have a2:=(ah HA8.out 2).trans (show _=some (.map (some km)) from rfl)
     have hP8:P.length≤1000:=by have h1:=HE8.out.pk.len HE8.out.iM.packs.1;have h2:D.length≤12:=Rm.out.l1;omega
     have HST:=hide (KV eb sb mb pm fm db n (1-a) b' 0 h' d' P D G _ _ _ 0 sa pl.steps.length sc im km pl hP8 w8 HE8.out HP8.out HM8.out)
     have MO:=hide (((aQ.refl w.heap.size (dZ C eb sb pm fm) w).below HB7.out (Nat.le_refl _)).next HK8.out HB7.out.size (fun q _ hq=>hq))
     have HN8:=hide (show ∀ k,C' k→C k∨w.heap.size≤k from fun k q=>(HC8.out k q).imp id (fun q=>Nat.le_trans HB7.out.size q))
     clear S7 S8 SA hr8 c0 c1 c2 g0 XH Y4 zO HP6 HA6 HM6 YG HB7 HP7 Yx HM7 HE8 HP8 HK8 HC8 HEN
     go_wp2_with fail
     refine HST.out.mono ?_
     rintro e w9 ⟨x,P9,rfl,k1,k2,k3⟩
     have HFI:=hide (Hy eb sb mb pm fm db n (1-a) b' 0 h' d' (V+1000000) P9 (Hv.bP D pl.cO,G) sa pl.steps.length sc im km pl rfl hsteps HRG.out HD8.out (by omega) hnn w9 k1 k2 (fun g hg => .inr hg) HM8.out)
     have Kk:=hide (MO.out.next k3 MO.out.size (fun q hq hc=>by
       rcases hc with hc | hc
       · rcases HN8.out q hc with hc | hc
         · exact .inl hc
         · omega
       · exact .inr hc))
     clear k1 k2 k3 HST MO a0 a1 a2
     go_wp2_with fail
     refine HFI.out.mono ?_
     rintro e w10 ⟨C2,d2,P2,b2,h2,rfl,q1,q2,q3,q4⟩
     have Rk:=hide q1;have CQ:=hide q2;have QS:=hide q4
     have VI:=hide (Kk.out.next q3 Kk.out.size (fun q hq hc=>by
       rcases hc with hc | hc
       · rcases HN8.out q hc with hc | hc
         · exact .inl hc
         · omega
       · exact .inr hc))
     have HS9:=hide Kk.out.size
     clear q1 q2 q3 q4 HFI Kk
     go_wp2_with fail
     go_ret2
     have haa:1-(1-a)=a:=by have:=HD.out.ha;omega
     rw[haa] at Rk CQ
     refine ⟨C2,_,d2,P2,b2,h2,rfl,Rk.out,⟨CQ.out.len,CQ.out.may,aaD CQ.out.wr,CQ.out.ha,CQ.out.hb,CQ.out.hh⟩,VI.out,fun k q => ?_,fun k q=>q.imp id (acB.out k)⟩
     rcases QS.out k q with q | q
     · exact HN8.out k q
     · exact .inr (Nat.le_trans HS9.out q)
theorem OL {C N:Nat→Prop} (eb sb mb pm fm db n a b c:Nat) (h:S) (d:Dk) (P:VM Value) (D:VM Hv.PD) (G:VM S) (v:Value) (xs:List S) (k:Int) (hk:k≠0) (hck:Hv.check n D G xs = .error k) (hDl:D.length≤12) (hG:G.length≤16) (hxl:xs.length≤1000000) (hxx:∀ x∈xs,x.length≤1000000000000) (nQ:bY D) (hcp:mV ∨ ∀ s,Hv.wish xs = .ok s→∀ k d,Hv.get s.I k=some d→bK d.st.runs∧bK d.st.aL) (hS:Hv.Short 200 G) (hnn:n≤4096) (w:World) (he:dY C N eb sb mb pm fm db n a b c h d P D G (.slice none 0 0) (.map none) (.map none) 0 w) (hv:Reads w v xs) :
   Calls Tryz.prog 19 #[.pointer (some ⟨eb,0,none⟩),v] w fun e w'=>e = .returned (.tuple #[.int .i64 k, .nilIface])∧Below w.heap.size w w':=by
 have HE:=hide he;have HV:=hide hv;have J9:=hide nQ;have YC:=hide hcp;have HS:=hide hS;have HCK:=hide hck
 have HDL:=hide hDl;have NV:=hide hG;have HXL:=hide hxl;have HXX:=hide hxx
 have HU:=hide (Cz eb _ _ _ w he.dR)
 obtain ⟨va,vc,rfl, -⟩:=hv.form
 clear he hv nQ hcp hS hck hxx
 go_enter Tryz.func19,Tryz.ntmps19
 go_wp2_with fail
 refine HU.out.mono ?_
 rintro e w1 ⟨rfl,hb1⟩
 have kU:=hide (HE.out.below hb1);have Gl:=hide (HV.out.below hb1)
 have HB1:=hide hb1
 obtain ⟨e0,e1, -⟩:=kU.out.dR.cells
 have hmk:∀ w',Below w1.heap.size w1 w'→(Below w1.heap.size w1 w'∧w'.cell? ⟨eb,0,none⟩=some (.pointer (some ⟨sb,0,none⟩))∧w'.cell? ⟨eb,1,none⟩=some (.pointer (some ⟨mb,0,none⟩))):=fun w' q=>⟨q,(kU.out.below q).dR.cells.1,(kU.out.below q).dR.cells.2.1⟩
 have MP:Hid (∀ wx w',(Below w1.heap.size w1 wx∧wx.cell? ⟨eb,0,none⟩=some (.pointer (some ⟨sb,0,none⟩))∧wx.cell? ⟨eb,1,none⟩=some (.pointer (some ⟨mb,0,none⟩)))→Below wx.heap.size wx w'→(Below w1.heap.size w1 w'∧w'.cell? ⟨eb,0,none⟩=some (.pointer (some ⟨sb,0,none⟩))∧w'.cell? ⟨eb,1,none⟩=some (.pointer (some ⟨mb,0,none⟩)))):=hide fun wx w' h h'=>hmk w' (h.1.trans (h'.mono h.1.size))
 have Ae:Hid (∀ wx A i v,(Below w1.heap.size w1 wx∧wx.cell? ⟨eb,0,none⟩=some (.pointer (some ⟨sb,0,none⟩))∧wx.cell? ⟨eb,1,none⟩=some (.pointer (some ⟨mb,0,none⟩)))→w1.heap.size≤A→(Below w1.heap.size w1 (wx.setCell ⟨A,i,none⟩ v)∧(wx.setCell ⟨A,i,none⟩ v).cell? ⟨eb,0,none⟩=some (.pointer (some ⟨sb,0,none⟩))∧(wx.setCell ⟨A,i,none⟩ v).cell? ⟨eb,1,none⟩=some (.pointer (some ⟨mb,0,none⟩)))):=hide fun wx A i v h h'=>hmk _ (h.1.setCell h' _)
 have Vp:Hid (∀ wx o o',(Below w1.heap.size w1 (World.alloc wx o)∧(World.alloc wx o).cell? ⟨eb,0,none⟩=some (.pointer (some ⟨sb,0,none⟩))∧(World.alloc wx o).cell? ⟨eb,1,none⟩=some (.pointer (some ⟨mb,0,none⟩)))→w1.heap.size≤wx.heap.size→(Below w1.heap.size w1 (World.alloc wx o')∧(World.alloc wx o').cell? ⟨eb,0,none⟩=some (.pointer (some ⟨sb,0,none⟩))∧(World.alloc wx o').cell? ⟨eb,1,none⟩=some (.pointer (some ⟨mb,0,none⟩)))):=hide fun wx o o' h h'=>hmk _ ⟨h.1.os,h.1.tape,h.1.output,by simp;omega,fun k hk=>((Below.heap_alloc wx o' k (by omega)).trans (Below.heap_alloc wx o k (by omega)).symm).trans (h.1.block k hk)⟩
 have Gj:=hide (hmk _ ((Below.refl w1.heap.size w1).drew))
 have hni:(0:Int)≤(n:Int)∧(n:Int)≤4096:=by omega
 have HNI:=hide hni
 have hGS:=kU.out.base.size
 have Vm:=hide hGS
 clear hb1 hmk HU hni hGS hnn
 go_wp2_with fail
 go_region_held3 (fun w'=>Below w1.heap.size w1 w'∧w'.cell? ⟨eb,0,none⟩=some (.pointer (some ⟨sb,0,none⟩))∧w'.cell? ⟨eb,1,none⟩=some (.pointer (some ⟨mb,0,none⟩)))
   (first | exact Gj.out | exact MP.out _ _ (by assumption) hb2 | exact MP.out _ _ (by assumption) hb3 | exact MP.out _ _ (by assumption) ((Below.refl _ _).alloc (Nat.le_refl _) _) | exact Vp.out _ _ _ (by assumption) (by omega) | exact Ae.out _ _ _ _ (by assumption) (by omega) | exact Ae.out _ _ _ _ (Ae.out _ _ _ _ (Ae.out _ _ _ _ (by assumption) (by omega)) (by omega)) (by omega))
   (first
     | (go_at_call 33;refine (Ci sb db n a b c h _ (kU.out.st.below (And.left (by assumption)))).mono ?_;rintro e w2 ⟨rfl,hb2⟩;have hs2:w1.heap.size≤w2.heap.size:=(by have h:=hb2.size;first | exact h | (simp at h;omega)); (try have abS:w1.heap.size+1≤w2.heap.size:=(by have h:=hb2.size;simp at h;omega)); (try have q2:=(hb2.block w1.heap.size (by simp)).trans (heap_alloc_new w1.drew (.cells #[.slice none 0 0, .map none, .map none] 89))))
     | (go_at_call 32;refine (DY mb pm fm P D G N n HNI.out _ xs HXL.out HXX.out HDL.out J9.out YC.out NV.out HS.out _ (kU.out.base.below (And.left (by assumption)) Vm.out) (kU.out.iM.below (And.left (by assumption))) (kU.out.pk.below (And.left (by assumption))) (Gl.out.below (And.left (by assumption)))).mono ?_;rintro e w3 K9;unfold pR at K9;rw[HCK.out] at K9;obtain ⟨rfl,hb3⟩:=K9;have hs3:w2.heap.size≤w3.heap.size:=(by have h:=hb3.size;first | exact h | (simp at h;omega)); (try have abT:w2.heap.size+1≤w3.heap.size:=(by have h:=hb3.size;simp at h;omega)); (try have q3:=(hb3.block w2.heap.size (by simp)).trans (heap_alloc_new w2 (.cells #[.slice none 0 0, .map none, .map none] 89))); (try have q3:=(hb3.block w1.heap.size (blt q2)).trans q2); (try have z0:=(ah q3 0).trans (show _=some (.slice none 0 0) from rfl)); (try have z1:=(ah q3 1).trans (show _=some (.map none) from rfl)); (try have z2:=(ah q3 2).trans (show _=some (.map none) from rfl)); (try have y0:=ak q3 0); (try have y1:=ak q3 1); (try have y2:=ak q3 2);have Sc:Below w1.heap.size w1 w3:=(fun (h:Below w1.heap.size w1 _)=>h.trans (hb3.mono h.size)) (And.left (by assumption))))
 all_goals
   have HW3:=hide Sc
   have hs1:=HB1.out.size
   clear MP Ae Vp Gj
   go_wp2_with fail
   go_ret2
   refine ⟨rfl,HB1.out.trans (Below.mono ?_ hs1)⟩
   first
     | exact HW3.out.alloc (by omega) _
     | exact ((HW3.out.setCell (p:=⟨_,0,none⟩) (by first | exact Nat.le_refl _ | (dsimp only;omega)) _).setCell (p:=⟨_,1,none⟩) (by first | exact Nat.le_refl _ | (dsimp only;omega)) _).setCell (p:=⟨_,2,none⟩) (by first | exact Nat.le_refl _ | (dsimp only;omega)) _
end
section
open Go.RowKit
open Go.MuLone
open aH (St gH)
open Hv (S Dk VM)
theorem gV.locked {C N:Nat→Prop} {hb eb sb mb pm fm db n a b c:Nat} {h:S} {d:Dk} {P:VM Value} {D:VM Hv.PD} {G:VM S} {w:World} (e:gV C N hb eb sb mb pm fm db n a b c h d P D G w) :
   (w.setCell ⟨hb,0,none⟩ (.int .i32 1)).heap[hb]? = some (.cells #[.int .i32 1, .int .u32 0, .pointer (some ⟨eb,0,none⟩)] 62 (0,0))∧dY C N eb sb mb pm fm db n a b c h d P D G (.slice none 0 0) (.map none) (.map none) 0 (w.setCell ⟨hb,0,none⟩ (.int .i32 1))∧aQ w.heap.size (fun q=>q=hb) w (w.setCell ⟨hb,0,none⟩ (.int .i32 1)):=by
 have hf:aQ w.heap.size (fun q=>q=hb) w (w.setCell ⟨hb,0,none⟩ (.int .i32 1)):=(aQ.refl w.heap.size (fun q=>q=hb) w).setCell (p:=⟨hb,0,none⟩) (.inr rfl) _
 exact ⟨heap_setCell_same _ hb 0 _ _ _ e.blk,e.dR.aside e.off e.low hf,hf⟩
theorem gV.free {C N:Nat→Prop} {hb eb sb mb pm fm db n a b c:Nat} {h:S} {d:Dk} {P:VM Value} {D:VM Hv.PD} {G:VM S} {w:World} (e1:w.heap[hb]? = some (.cells #[.int .i32 1, .int .u32 0, .pointer (some ⟨eb,0,none⟩)] 62 (0,0))) (e2:dY C N eb sb mb pm fm db n a b c h d P D G (.slice none 0 0) (.map none) (.map none) 0 w) (ho : ¬ C hb ∧ ¬ N hb∧hb≠eb∧hb≠sb∧hb≠mb∧hb≠pm∧hb≠fm) (hl:12≤hb):gV C N hb eb sb mb pm fm db n a b c h d P D G (w.setCell ⟨hb,0,none⟩ (.int .i32 0)) :=
 ⟨heap_setCell_same _ hb 0 _ _ _ e1,e2.aside ho hl ((aQ.refl w.heap.size (fun q=>q=hb) w).setCell (p:=⟨hb,0,none⟩) (.inr rfl) _),ho,hl⟩
theorem Pd {C N:Nat→Prop} (hb eb sb mb pm fm db n a b c:Nat) (h:S) (d:Dk) (V:Nat) (P:VM Value) (D:VM Hv.PD) (G:VM S) (v:Value) (xs:List S) (pl:Hv.Plan) (hck:Hv.check n D G xs = .ok pl) (hsteps:0<pl.steps.length) (hxs:∀ x∈xs,x.length≤100000) (nQ:bY D) (hDl:D.length≤12) (hG:G.length≤16) (hS:Hv.Short 200 G) (hK:Hv.GK G) (hcp:mV ∨ ∀ s,Hv.wish xs = .ok s→∀ k d,Hv.get s.I k=some d→bK d.st.runs∧bK d.st.aL) (hD:jK n V a b h d) (hW:V≤500000000) (hnn:1≤n∧n≤4096) (w:World) (he:gV C N hb eb sb mb pm fm db n a b c h d P D G w) (hv:Reads w v xs) (hva:∀ g,v.ownBlock=some g→g≠hb) :
   Calls Tryz.prog 10 #[.pointer (some ⟨hb,0,none⟩),v] w fun e w'=>∃ C' N' d' P' b' h',e = .returned (.int .i64 0)∧gV C' N' hb eb sb mb pm fm db n a b' 0 h' d' P' (Hv.aJ pl (Hv.bP D pl.cO,G) pl.steps).1 (Hv.aJ pl (Hv.bP D pl.cO,G) pl.steps).2 w'∧jK n (V+3000000) a b' h' d'∧aQ w.heap.size (fun k=>dZ C eb sb pm fm k∨k=hb) w w'∧(∀ k,C' k→C k∨w.heap.size≤k)∧∀ k,N' k→N k∨w.heap.size≤k:=by
 obtain ⟨hRG,hRF⟩:=Hv.TW hnn.2 he.dR.pk.dU (Hv.bq he.dR.iM.files.1) nQ hDl hG hS hK hxs hcp hck
 obtain ⟨l1,l2,l3⟩:=he.locked
 have hv1:Reads (w.setCell ⟨hb,0,none⟩ (.int .i32 1)) v xs:=by
   rcases hv with q | ⟨g,cc,rfl,hg,hc⟩
   · exact .inl q
   · exact .inr ⟨g,cc,rfl,by simpa using hg,fun j x hj=>(World.cell?_setCell_other _ _ _ _ (fun e=>hva g rfl (by injection e with e1;exact e1.symm))).trans (hc j x hj)⟩
 have h0:=(ah he.blk 0).trans (show _=some (.int .i32 0) from rfl)
 have f0:=ak he.blk 0
 have HL2:=hide l2;have NY:=hide l3;have HV:=hide hv1;have HD:=hide hD;have HO:=hide he.off;have VP:=hide he.low;have Vk:=hide (blt he.blk)
 have QO:Hid (∀ w1,w1=w.setCell ⟨hb,0,none⟩ (.int .i32 1)→Calls Tryz.prog 19 #[.pointer (some ⟨eb,0,none⟩),v] w1 fun e w'=>∃ C' N' d' P' b' h',e = .returned (.tuple #[.int .i64 0, .nilIface])∧dY C' N' eb sb mb pm fm db n a b' 0 h' d' P' (Hv.aJ pl (Hv.bP D pl.cO,G) pl.steps).1 (Hv.aJ pl (Hv.bP D pl.cO,G) pl.steps).2 (.slice none 0 0) (.map none) (.map none) 0 w'∧jK n (V+3000000) a b' h' d'∧aQ w1.heap.size (dZ C eb sb pm fm) w1 w'∧(∀ k,C' k→C k∨w1.heap.size≤k)∧∀ k,N' k→N k∨w1.heap.size≤k):=hide (by
   rintro w1 rfl
   exact OM eb sb mb pm fm db n a b c h d V P D G v xs pl hck hRG hRF hsteps nQ hcp hS hD hW hnn _ l2 hv1)
 clear hRG hRF hck hxs nQ hS hK hcp hD he hv hv1 hva
 obtain ⟨m,hm⟩:∃ m,Hv.aJ pl (Hv.bP D pl.cO,G) pl.steps=m:=⟨_,rfl⟩
 rw[hm] at QO ⊢
 clear hm
 have c2:=(ah l1 2).trans (show _=some (.pointer (some ⟨eb,0,none⟩)) from rfl)
 have Gi:=hide l1
 have hsz:(w.setCell ⟨hb,0,none⟩ (.int .i32 1)).heap.size=w.heap.size:=by simp
 have wQ:=hide hsz
 clear l1 l2 l3 hsz
 go_enter_defers Tryz.func10,Tryz.ntmps10
 go_wp2_with (go_at_call 17;refine (lock_free Tryz.muLib ⟨hb,0,none⟩ _ h0 f0).mono ?_;rintro e w1 ⟨rfl,hw1⟩;have HW1:=hide hw1;rw[← hw1] at c2;clear hw1)
 refine (QO.out w1 HW1.out).mono ?_
 rintro e w2 ⟨C',N',d',P',b',h',rfl,q1,q2,q3,q4,q5⟩
 have Rk:=hide q1;have CQ:=hide q2;have HQ3:=hide q3;have QS:=hide q4;have XR:=hide q5
 clear q1 q2 q3 q4 q5 QO
 go_wp2_with fail
 refine (Mk hb w2).mono ?_
 rintro e w3 ⟨rfl,hb3⟩
 have HB3:=hide hb3
 clear hb3
 go_wp2_with fail
 have hw1:=HW1.out
 have hs1:w1.heap.size=w.heap.size:=by rw[hw1];exact wQ.out
 have hblt:=Vk.out
 have hne : ¬ dZ C eb sb pm fm hb:=by
   obtain ⟨o1,o2,o3,o4,o5,o6,o7⟩:=HO.out
   rintro (q | q | q | q | q)
   · exact o1 q
   · exact o3 q
   · exact o4 q
   · exact o6 q
   · exact o7 q
 have r1:w1.heap[hb]? = some (.cells #[.int .i32 1, .int .u32 0, .pointer (some ⟨eb,0,none⟩)] 62 (0,0)):=by rw[hw1];exact Gi.out
 have r2:=(HQ3.out.block hb (by rw[hs1];exact hblt) hne).trans r1
 have r3:=(HB3.out.block hb (blt r2)).trans r2
 have Vu:=Rk.out.below HB3.out
 have ho' : ¬ C' hb ∧ ¬ N' hb∧hb≠eb∧hb≠sb∧hb≠mb∧hb≠pm∧hb≠fm:=by
   obtain ⟨o1,o2,o3⟩:=HO.out
   refine ⟨fun q => ?_,fun q => ?_,o3⟩
   · rcases QS.out hb q with q | q
     · exact o1 q
     · omega
   · rcases XR.out hb q with q | q
     · exact o2 q
     · omega
 have x0:=(ah r3 0).trans (show _=some (.int .i32 1) from rfl)
 have y0:=ak r3 0
 refine leaves_cons (f:=18) (args := #[.pointer (some ⟨hb,0,none⟩)]) (by simp) (by simp[go_sem]) ?_
 refine (unlock_deferred Tryz.muLib ⟨hb,0,none⟩ .returning _ x0 y0).mono ?_
 rintro e u' w'' ⟨rfl,rfl,rfl⟩
 refine ⟨_,results_tmp rfl _ _ _,C',N',d',P',b',h',rfl,gV.free r3 Vu ho' VP.out,CQ.out,?_,fun k q=>(QS.out k q).imp id (fun q=>by omega),fun k q=>(XR.out k q).imp id (fun q=>by omega)⟩
 have hF1:aQ w.heap.size (fun k=>dZ C eb sb pm fm k∨k=hb) w w1:=by rw[hw1];exact (aQ.refl w.heap.size (fun k=>dZ C eb sb pm fm k∨k=hb) w).next NY.out (Nat.le_refl _) (fun q _ e => .inr e)
 have hF2:=hF1.next HQ3.out (by omega) (fun q _ e => .inl e)
 exact (hF2.below HB3.out hF2.size).setCell (p:=⟨hb,0,none⟩) (.inr (.inr rfl)) _
theorem Pb {C N:Nat→Prop} (hb eb sb mb pm fm db n a b c:Nat) (h:S) (d:Dk) (P:VM Value) (D:VM Hv.PD) (G:VM S) (v:Value) (xs:List S) (k:Int) (hk:k≠0) (hck:Hv.check n D G xs = .error k) (hxl:xs.length≤1000000) (hxs:∀ x∈xs,x.length≤100000) (nQ:bY D) (hDl:D.length≤12) (hG:G.length≤16) (hS:Hv.Short 200 G) (hcp:mV ∨ ∀ s,Hv.wish xs = .ok s→∀ k d,Hv.get s.I k=some d→bK d.st.runs∧bK d.st.aL) (hnn:n≤4096) (w:World) (he:gV C N hb eb sb mb pm fm db n a b c h d P D G w) (hv:Reads w v xs) (hva:∀ g,v.ownBlock=some g→g≠hb) :
   Calls Tryz.prog 10 #[.pointer (some ⟨hb,0,none⟩),v] w fun e w'=>e = .returned (.int .i64 k)∧gV C N hb eb sb mb pm fm db n a b c h d P D G w'∧aQ w.heap.size (fun q=>q=hb) w w':=by
 obtain ⟨l1,l2,l3⟩:=he.locked
 have hv1:Reads (w.setCell ⟨hb,0,none⟩ (.int .i32 1)) v xs:=by
   rcases hv with q | ⟨g,cc,rfl,hg,hc⟩
   · exact .inl q
   · exact .inr ⟨g,cc,rfl,by simpa using hg,fun j x hj=>(World.cell?_setCell_other _ _ _ _ (fun e=>hva g rfl (by injection e with e1;exact e1.symm))).trans (hc j x hj)⟩
 have h0:=(ah he.blk 0).trans (show _=some (.int .i32 0) from rfl)
 have f0:=ak he.blk 0
 have HL2:=hide l2;have NY:=hide l3;have HO:=hide he.off;have VP:=hide he.low;have Vk:=hide (blt he.blk)
 have QO:Hid (∀ w1,w1=w.setCell ⟨hb,0,none⟩ (.int .i32 1)→Calls Tryz.prog 19 #[.pointer (some ⟨eb,0,none⟩),v] w1 fun e w'=>e = .returned (.tuple #[.int .i64 k, .nilIface])∧Below w1.heap.size w1 w'):=hide (by
   rintro w1 rfl
   exact OL eb sb mb pm fm db n a b c h d P D G v xs k hk hck hDl hG hxl (fun x hx=>by have:=hxs x hx;omega) nQ hcp hS hnn _ l2 hv1)
 clear hck hxs nQ hS hcp he hv hv1 hva
 have c2:=(ah l1 2).trans (show _=some (.pointer (some ⟨eb,0,none⟩)) from rfl)
 have Gi:=hide l1
 have hsz:(w.setCell ⟨hb,0,none⟩ (.int .i32 1)).heap.size=w.heap.size:=by simp
 have wQ:=hide hsz
 clear l1 l2 l3 hsz
 go_enter_defers Tryz.func10,Tryz.ntmps10
 go_wp2_with (go_at_call 17;refine (lock_free Tryz.muLib ⟨hb,0,none⟩ _ h0 f0).mono ?_;rintro e w1 ⟨rfl,hw1⟩;have HW1:=hide hw1;rw[← hw1] at c2;clear hw1)
 refine (QO.out w1 HW1.out).mono ?_
 rintro e w2 ⟨rfl,hb2⟩
 have HB3:=hide hb2
 clear hb2 QO
 go_wp2_with fail
 have hw1:=HW1.out
 have hs1:w1.heap.size=w.heap.size:=by rw[hw1];exact wQ.out
 have r1:w1.heap[hb]? = some (.cells #[.int .i32 1, .int .u32 0, .pointer (some ⟨eb,0,none⟩)] 62 (0,0)):=by rw[hw1];exact Gi.out
 have r3:=(HB3.out.block hb (blt r1)).trans r1
 have hE1:dY C N eb sb mb pm fm db n a b c h d P D G (.slice none 0 0) (.map none) (.map none) 0 w1:=by rw[hw1];exact HL2.out
 have Vu:=hE1.below HB3.out
 have x0:=(ah r3 0).trans (show _=some (.int .i32 1) from rfl)
 have y0:=ak r3 0
 refine leaves_cons (f:=18) (args := #[.pointer (some ⟨hb,0,none⟩)]) (by simp) (by simp[go_sem]) ?_
 refine (unlock_deferred Tryz.muLib ⟨hb,0,none⟩ .returning _ x0 y0).mono ?_
 rintro e u' w'' ⟨rfl,rfl,rfl⟩
 refine ⟨_,results_tmp rfl _ _ _,rfl,gV.free r3 Vu HO.out VP.out,?_⟩
 have hF1:aQ w.heap.size (fun q=>q=hb) w w1:=by rw[hw1];exact NY.out
 exact (hF1.below HB3.out hF1.size).setCell (p:=⟨hb,0,none⟩) (.inr rfl) _
end
section
open Go.RowKit
open aH (St gH)
open Hv (S Dk VM)
def zK (p:S × Hv.PD):List Value:=[aO p.1,aO p.2.ve, .int .i64 p.2.status]
theorem SI:(Tryz.prog.info? 41).map (fun i=>(i.zero,i.size,i.bytes))=some (some (.agg #[.string ByteArray.empty, .string ByteArray.empty, .int .i64 0]),3,40):=by kernel_rfl
theorem Au (w:World) (x y z:Value) (t:TypeId):∀ j u,[x,y,z][j]? = some u→(w.alloc (.cells #[x,y,z] t)).cell? ((⟨w.heap.size,0,none⟩:Addr).add j)=some u:=by
 intro j u h
 have hadd:(⟨w.heap.size,0,none⟩:Addr).add j=⟨w.heap.size,j,none⟩:=by unfold Addr.add;split<;>simp_all
 rw[hadd,ah (heap_alloc_new w _)]
 simpa using h
theorem Te (mb pm fm:Nat) (P F:VM Value) (D:VM Hv.PD) (N:Nat→Prop) (hDl:D.length≤1000) (nQ:Hv.Named D) (w:World) (h:aK mb pm fm P F w) (hP:dA N w D P) :
   Calls Tryz.prog 40 #[.pointer (some ⟨mb,0,none⟩)] w fun e w'=>∃ v,e = .returned v∧w'.ownsRow w.heap.size 41 3 v D.length (D.flatMap zK)∧Below w.heap.size w w':=by
 obtain ⟨i0,hi,hz0,hz1,hz2⟩:=aW SI
 have HM:=hide h;have eU:=hide hP;have J9:=hide nQ
 have sF:P.length=D.length:=hP.len h.packs.1
 have hml:=blt h.blk
 clear h hP nQ
 go_enter Tryz.func40,Tryz.ntmps40
 go_wp2_with fail
 refine (xD mb pm fm P F (by omega) w HM.out).mono ?_
 rintro e w1 ⟨nv,rfl,gK,hb1⟩
 rw[eU.out.keys HM.out.packs.1] at gK
 have hkl:(keysOf D).length=D.length:=by simp[keysOf]
 obtain ⟨na,nc,rfl⟩:=slice_form gK
 rw[hkl] at gK ⊢
 have YO:=hide gK
 have hs2:=hb1.size
 obtain ⟨nd,hnd⟩:∃ nd,D.length=nd:=⟨_,rfl⟩
 have MR:=hide hnd
 rw[hnd] at hDl ⊢
 have HUW:=hide hb1
 clear hb1 gK hnd hkl sF
 go_wp2_with fail
 go_loopw [3,10] (fun l i wr=>∃ (k:Nat) (lo:Option Addr) (lc:Nat),k≤nd∧l = .slice lo k lc∧i = .int .i64 (k:Int)∧Hid (wr.ownsRow w1.heap.size 41 3 (.slice lo k lc) k ((D.take k).flatMap zK))∧Hid (Below w1.heap.size w1 wr)) (fun _ i _=>nd-(intOf i).toNat)
 case atStart=>exact ⟨0,none,0,Nat.zero_le _,rfl,rfl,hide (World.ownsRow_nil _ _ _ _),hide (Below.refl _ _)⟩
 case round =>
   obtain ⟨k,lo,lc,hk,rfl,rfl,HI,HB⟩:=hrel
   by_cases hlt:k<nd
   · have b1:(k:Int)<(nd:Int):=by omega
     have WA:k<D.length:=by have:=MR.out;omega
     have hkk:k<(keysOf D).length:=by simp[keysOf];omega
     obtain ⟨g,c',hv2,hg,q1⟩:=gF (l:=keysOf D) (v := .slice na nd nc) (w:=w1) (B:=w.heap.size) (e:=9) (by have h:=YO.out;rw[show (keysOf D).length=D.length by simp[keysOf]];rw[MR.out] at h ⊢;exact h) hkk
     obtain rfl:na=some ⟨g,0,none⟩:=(Value.slice.inj hv2).1
     have d1:=(HB.out.cell (p:=⟨g,k,none⟩) hg).trans q1
     have hget:Hv.get D (keysOf D)[k]=some D[k].2:=by
       rw[Hv.get_some eU.out.dU]
       have:(keysOf D)[k]=D[k].1:=by simp[keysOf]
       rw[this]
       exact List.getElem_mem WA
     have hnl:=J9.out.len (k:=(keysOf D)[k]) (by rw[Hv.aB,hget];rfl)
     obtain ⟨v,hv,hr⟩:=eU.out.wZ _ _ hget
     obtain ⟨p,rfl,p1,p2,p3,p4, -⟩:=hr
     have hkx:(keysOf D)[k]=D[k].1:=by simp[keysOf]
     have hT:(D.take (k+1)).flatMap zK=(D.take k).flatMap zK++[.string ⟨(keysOf D)[k].toArray⟩, .string ⟨p.ve.toArray⟩, .int .i64 p.status]:=by
       rw[List.take_succ_eq_append_getElem WA,List.flatMap_append,hkx,p3,p4]
       simp[zK,aO]
     have HT:=hide hT;have HV:=hide hv
     obtain ⟨x,hx⟩:∃ x,(keysOf D)[k]=x:=⟨_,rfl⟩
     rw[hx] at d1 HV hnl HT
     have FB:=(HM.out.below HUW.out).below (HB.out.mono (Nat.le_refl _))
     have hpm:=FB.packs
     have m0:=(ah FB.blk 0).trans (show _=some (.map (some pm)) from rfl)
     have hxm:x.length≤maxLen:=by unfold maxLen;omega
     have HA:=hide HI.out
     have hgb:=HB.out.size
     obtain ⟨ys,hys⟩:∃ ys,(D.take k).flatMap zK=ys:=⟨_,rfl⟩
     rw[hys] at HA HT
     have HO:=hide (HA.out.alloc (.cells p.cells 156))
     have hrow:=heap_alloc_new wr (.cells p.cells 156)
     have T0:=Pk.at_ hrow
     clear hv2 q1 hget hv hT hx hkx p1 p2 p3 p4 hys HI FB hrow
     obtain ⟨tx,pn,pv,nd2,br,wk,fl,ru,wo,qK⟩:=p
     have hc3:=Au (wr.alloc (.cells (Pk.mk tx pn pv nd2 br wk fl ru wo qK).cells 156)) (.string ⟨x.toArray⟩) (.string ⟨pv.toArray⟩) (.int .i64 qK) 41
     have hs9:(wr.alloc (.cells (Pk.mk tx pn pv nd2 br wk fl ru wo qK).cells 156)).heap.size=wr.heap.size+1:=by simp
     rw[hs9] at hc3
     have XQ:=hide (HO.out.alloc (.cells #[.string ⟨x.toArray⟩, .string ⟨pv.toArray⟩, .int .i64 qK] 41))
     have HB2:=hide ((HB.out.alloc hgb (.cells (Pk.mk tx pn pv nd2 br wk fl ru wo qK).cells 156)).alloc (by simp;omega) (.cells #[.string ⟨x.toArray⟩, .string ⟨pv.toArray⟩, .int .i64 qK] 41))
     simp only[Pk.cells] at XQ HB2 T0 hc3
     have Vl:=hide hc3
     obtain ⟨t0,t1,t2,t3,t4,t5,t6,t7,t8,t9⟩:=T0
     clear hs9 hc3 HO
     go_wp2_with (first
       | (at_lookup;refine jJ rfl _ _ 86 rfl 156 Tryz.underlying86 (bU _) hpm rfl x hxm rfl ?_;rw[HV.out];simp only[Option.getD_some,Pk.val,Pk.cells])
       | (at_builtin;refine wpList_append_own_at _ rfl _ _ 35 rfl w1.heap.size 41 i0 (.agg #[.string ByteArray.empty, .string ByteArray.empty, .int .i64 0]) 3 40 Tryz.underlying35 hi hz0 hz1 hz2 rfl (by decide) _ _ _ rfl XQ.out ⟨wr.heap.size+1,0,none⟩ 1 1 [.string ⟨x.toArray⟩, .string ⟨pv.toArray⟩, .int .i64 qK] rfl rfl Vl.out (fun x hx=>by simp at hx;rcases hx with rfl | rfl | rfl<;>rfl) (by unfold maxLen;omega) (by omega) (by simp;omega) ?_;intro v' w4 hown' aN eD O5;obtain ⟨gv,cv,rfl⟩:=aP hown' (by omega);have O4:=hide hown';have G4:=hide aN;clear hown' aN eD O5))
     have HB3:Hid (Below w1.heap.size w1 w4):=hide (HB2.out.grown G4.out (by simp;omega) (fun q hq=>(HA.out.lt q hq).1))
     have HO3:Hid (w4.ownsRow w1.heap.size 41 3 (.slice (some ⟨gv,0,none⟩) (k+1) cv) (k+1) ((D.take (k+1)).flatMap zK)):=hide (by rw[HT.out];exact O4.out)
     clear O4 G4
     go_roundw
     case rel=>exact ⟨k+1,_,cv,by omega,rfl,by go_num,HO3,HB3⟩
     case measure=>simp[intOf];omega
   · obtain rfl:k=nd:=by omega
     have b1 : ¬ (k:Int)<(k:Int):=by omega
     go_wp2_with fail
     go_ret
     have hs1:=HUW.out.size
     refine ⟨_,rfl,?_,HUW.out.trans (HB.out.mono hs1)⟩
     have h:=bN HI.out hs1
     rw[List.take_of_length_le (by have:=MR.out;omega)] at h
     rw[MR.out]
     exact h
end
end Go.Proofs.YtialenebfcnkkaaGreatDoor
