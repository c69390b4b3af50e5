/- EngW12, HavW2, MchW7, MchW8, EngW14 -/
import Derived.Test.YtialenebfcnkkaaGreatDoorWokJ28
import Derived.Test.YtialenebfcnkkaaGreatDoorWokJ26
set_option maxHeartbeats 8000000
set_option maxRecDepth 100000
namespace Go.Proofs.YtialenebfcnkkaaGreatDoor
section
open Go.RowKit
open Arc (St Cmd)
open Hv (S Dk VM)
theorem wr_sum {x V:Nat} (h:x≤V+1000000+2000000):x≤V+3000000 :=
 Nat.le_trans h (Nat.le_of_eq ((Nat.add_assoc V 1000000 2000000).trans (congrArg (V + ·) (show 1000000+2000000=3000000 from rfl))))
theorem ebegin_ok {C N:Nat→Prop} (eb sb mb pm fm db n a b c:Nat) (h:S) (d:Dk) (V:Nat) (P:VM Value) (D:VM Hv.PD) (G:VM S) (v:Value) (xs:List S) (pl:Hv.Plan) (hck:Hv.check n D G xs = .ok pl) (hRG:RunGood n pl (Hv.wokeW D pl.wak,G)) (hRF:RecFine n (D,G) xs) (hsteps:0<pl.steps.length) (hDF:DFine D) (hcp:FindC ∨ ∀ s,Hv.wish xs = .ok s→∀ k d,Hv.get s.I k=some d→NoCopy d.st.runs∧NoCopy d.st.wokens) (hS:Hv.Short 200 G) (hD:DRest n V a b h d) (hW:V≤500000000) (hnn:1≤n∧n≤4096) (w:World) (he:EngS C N eb sb mb pm fm db n a b c h d P D G (.slice none 0 0) (.map none) (.map none) 0 w) (hv:Reads w v xs) :
   Calls Tryz.prog 19 #[.pointer (some ⟨eb,0,none⟩),v] w fun e w'=>∃ C' N' d' P' b' h',e = .returned (.tuple #[.int .i64 0, .nilIface])∧EngS C' N' eb sb mb pm fm db n a b' 0 h' d' P' (Hv.runS pl (Hv.wokeW D pl.wak,G) pl.steps).1 (Hv.runS pl (Hv.wokeW D pl.wak,G) pl.steps).2 (.slice none 0 0) (.map none) (.map none) 0 w'∧DRest n (V+3000000) a b' h' d'∧Far w.heap.size (EFoot C eb sb pm fm) w w'∧(∀ k,C' k→C k∨w.heap.size≤k)∧∀ k,N' k→N k∨w.heap.size≤k:=by
 have HE:=hide he;have HV:=hide hv;have HD:=hide hD;have HRG:=hide hRG;have HRF:=hide hRF;have HDF:=hide hDF;have HCP:=hide hcp;have HS:=hide hS;have HCK:=hide hck
 have HU:=hide (under_no eb _ _ _ w he.eng)
 obtain ⟨va,vc,rfl, -⟩:=hv.form
 clear he hv hD hRG hRF hDF hcp hS hck
 go_enter Tryz.func19,Tryz.ntmps19
 go_wp2_with fail
 refine HU.out.mono ?_
 rintro e w1 ⟨rfl,hb1⟩
 have HE1:=hide (HE.out.below hb1);have HV1:=hide (HV.out.below hb1)
 have HB1:=hide hb1
 obtain ⟨e0,e1, -⟩:=HE1.out.eng.cells
 have hmk:∀ w',Below w1.heap.size w1 w'→(Below w1.heap.size w1 w'∧w'.cell? ⟨eb,0,none⟩=some (.pointer (some ⟨sb,0,none⟩))∧w'.cell? ⟨eb,1,none⟩=some (.pointer (some ⟨mb,0,none⟩))):=fun w' q=>⟨q,(HE1.out.below q).eng.cells.1,(HE1.out.below q).eng.cells.2.1⟩
 have HK1:Hid (∀ wx w',(Below w1.heap.size w1 wx∧wx.cell? ⟨eb,0,none⟩=some (.pointer (some ⟨sb,0,none⟩))∧wx.cell? ⟨eb,1,none⟩=some (.pointer (some ⟨mb,0,none⟩)))→Below wx.heap.size wx w'→(Below w1.heap.size w1 w'∧w'.cell? ⟨eb,0,none⟩=some (.pointer (some ⟨sb,0,none⟩))∧w'.cell? ⟨eb,1,none⟩=some (.pointer (some ⟨mb,0,none⟩)))):=hide fun wx w' h h'=>hmk w' (h.1.trans (h'.mono h.1.size))
 have HK2:Hid (∀ wx A i v,(Below w1.heap.size w1 wx∧wx.cell? ⟨eb,0,none⟩=some (.pointer (some ⟨sb,0,none⟩))∧wx.cell? ⟨eb,1,none⟩=some (.pointer (some ⟨mb,0,none⟩)))→w1.heap.size≤A→(Below w1.heap.size w1 (wx.setCell ⟨A,i,none⟩ v)∧(wx.setCell ⟨A,i,none⟩ v).cell? ⟨eb,0,none⟩=some (.pointer (some ⟨sb,0,none⟩))∧(wx.setCell ⟨A,i,none⟩ v).cell? ⟨eb,1,none⟩=some (.pointer (some ⟨mb,0,none⟩)))):=hide fun wx A i v h h'=>hmk _ (h.1.setCell h' _)
 have HK3:Hid (∀ wx o o',(Below w1.heap.size w1 (World.alloc wx o)∧(World.alloc wx o).cell? ⟨eb,0,none⟩=some (.pointer (some ⟨sb,0,none⟩))∧(World.alloc wx o).cell? ⟨eb,1,none⟩=some (.pointer (some ⟨mb,0,none⟩)))→w1.heap.size≤wx.heap.size→(Below w1.heap.size w1 (World.alloc wx o')∧(World.alloc wx o').cell? ⟨eb,0,none⟩=some (.pointer (some ⟨sb,0,none⟩))∧(World.alloc wx o').cell? ⟨eb,1,none⟩=some (.pointer (some ⟨mb,0,none⟩)))):=hide fun wx o o' h h'=>hmk _ ⟨h.1.os,h.1.tape,h.1.output,by simp;omega,fun k hk=>((Below.heap_alloc wx o' k (by omega)).trans (Below.heap_alloc wx o k (by omega)).symm).trans (h.1.block k hk)⟩
 have HS0:=hide (hmk _ ((Below.refl w1.heap.size w1).drew))
 have hxl:xs.length≤1000000:=by have:=HRF.out.l6.1;omega
 have hxx:∀ x∈xs,x.length≤1000000000000:=fun x hx=>by have:=HRF.out.l6.2 x hx;omega
 have HXX:=hide hxx
 have hni:(0:Int)≤(n:Int)∧(n:Int)≤4096:=by omega
 have HNI:=hide hni
 have hGS:=HE1.out.base.size
 have HGS:=hide hGS
 clear hb1 hmk HU hxx hni hGS
 go_wp2_with fail
 go_region_held3 (fun w'=>Below w1.heap.size w1 w'∧w'.cell? ⟨eb,0,none⟩=some (.pointer (some ⟨sb,0,none⟩))∧w'.cell? ⟨eb,1,none⟩=some (.pointer (some ⟨mb,0,none⟩)))
   (first | exact HS0.out | exact HK1.out _ _ (by assumption) hb2 | exact HK1.out _ _ (by assumption) hb3 | exact HK1.out _ _ (by assumption) ((Below.refl _ _).alloc (Nat.le_refl _) _) | exact HK3.out _ _ _ (by assumption) (by omega) | exact HK2.out _ _ _ _ (by assumption) (by omega) | exact HK2.out _ _ _ _ (HK2.out _ _ _ _ (HK2.out _ _ _ _ (by assumption) (by omega)) (by omega)) (by omega))
   (first
     | (go_at_call 33;refine (st_sectors sb db n a b c h _ (HE1.out.st.below (And.left (by assumption)))).mono ?_;rintro e w2 ⟨rfl,hb2⟩;have hs2:w1.heap.size≤w2.heap.size:=(by have h:=hb2.size;first | exact h | (simp at h;omega)); (try have hs2':w1.heap.size+1≤w2.heap.size:=(by have h:=hb2.size;simp at h;omega)); (try have q2:=(hb2.block w1.heap.size (by simp)).trans (heap_alloc_new w1.drew (.cells #[.slice none 0 0, .map none, .map none] 89))))
     | (go_at_call 32;refine (check_any mb pm fm P D G N n HNI.out _ xs hxl HXX.out HRF.out.l1 HDF.out HCP.out HRF.out.l3 HS.out _ (HE1.out.base.below (And.left (by assumption)) HGS.out) (HE1.out.mach.below (And.left (by assumption))) (HE1.out.pk.below (And.left (by assumption))) (HV1.out.below (And.left (by assumption)))).mono ?_;rintro e w3 hck3;unfold CkPost at hck3;rw[HCK.out] at hck3;obtain ⟨sv,im,km,rfl,hpl3,hb3⟩:=hck3;obtain ⟨sa,sc,rfl⟩:=slice_form hpl3.row;have hs3:w2.heap.size≤w3.heap.size:=(by have h:=hb3.size;first | exact h | (simp at h;omega)); (try have hs3':w2.heap.size+1≤w3.heap.size:=(by have h:=hb3.size;simp at h;omega)); (try have q3:=(hb3.block w2.heap.size (by simp)).trans (heap_alloc_new w2 (.cells #[.slice none 0 0, .map none, .map none] 89))); (try have q3:=(hb3.block w1.heap.size (blt q2)).trans q2); (try have z0:=(row_cell q3 0).trans (show _=some (.slice none 0 0) from rfl)); (try have z1:=(row_cell q3 1).trans (show _=some (.map none) from rfl)); (try have z2:=(row_cell q3 2).trans (show _=some (.map none) from rfl)); (try have y0:=row_free q3 0); (try have y1:=row_free q3 1); (try have y2:=row_free q3 2);have hbw3:Below w1.heap.size w1 w3:=(fun (h:Below w1.heap.size w1 _)=>h.trans (hb3.mono h.size)) (And.left (by assumption))))
 all_goals first
   | (have hx:=plan_way1 (w1:=w1) hpl3 (by omega) hbw3 (.slice sa pl.steps.length sc) (.map (some im)) (.map (some km))
      obtain ⟨A,hA⟩:∃ A,w3.heap.size=A:=⟨_,rfl⟩
      have hAl:w1.heap.size≤A:=(by omega)
      obtain ⟨W,hW⟩:∃ W,w3.alloc (.cells #[.slice sa pl.steps.length sc, .map (some im), .map (some km)] 89)=W:=⟨_,rfl⟩
      rw[hW] at hx ⊢
      obtain ⟨z,X1,X2,X3,X4⟩:=hx
      rw[hA] at X1 ⊢
      clear hW hA)
   | (have hx:=plan_way (w1:=w1) (A:=w2.heap.size) hpl3 (by simp) (by omega) hbw3 q3 (.slice sa pl.steps.length sc) (.map (some im)) (.map (some km))
      obtain ⟨A,hA⟩:∃ A,w2.heap.size=A:=⟨_,rfl⟩
      have hAl:w1.heap.size≤A:=(by omega)
      obtain ⟨W,hW⟩:∃ W,(((w3.setCell ⟨w2.heap.size,0,none⟩ (.slice sa pl.steps.length sc)).setCell ⟨w2.heap.size,1,none⟩ (.map (some im))).setCell ⟨w2.heap.size,2,none⟩ (.map (some km)))=W:=⟨_,rfl⟩
      rw[hW] at hx ⊢
      obtain ⟨z,X1,X2,X3,X4⟩:=hx
      rw[hA] at X1 ⊢
      clear hW hA)
   | (have hx:=plan_way (w1:=w1) (A:=w1.heap.size) hpl3 (by omega) (by omega) hbw3 q3 (.slice sa pl.steps.length sc) (.map (some im)) (.map (some km))
      obtain ⟨A,hA⟩:∃ A,w1.heap.size=A:=⟨_,rfl⟩
      have hAl:w1.heap.size≤A:=(by omega)
      obtain ⟨W,hW⟩:∃ W,(((w3.setCell ⟨w1.heap.size,0,none⟩ (.slice sa pl.steps.length sc)).setCell ⟨w1.heap.size,1,none⟩ (.map (some im))).setCell ⟨w1.heap.size,2,none⟩ (.map (some km)))=W:=⟨_,rfl⟩
      rw[hW] at hx ⊢
      obtain ⟨z,X1,X2,X3,X4⟩:=hx
      rw[hA] at X1 ⊢
      clear hW hA)
 all_goals
   have hc1:=HE1.out.dk.lt
   have hEW:EngS C (fun g=>N g∨(w1.heap.size≤g∧g<z)) eb sb mb pm fm db n a b c h d P D G (.slice none 0 0) (.map none) (.map none) 0 W:=by
     have q:=HE1.out.below X3
     have l1:=blt HE1.out.eng;have l2:=HE1.out.st.lt
     refine ⟨q.eng,q.st,q.mach,q.pk.weak (fun g hg => .inl hg),q.dk,q.off,q.apart,fun g hg => ?_,q.base,q.low⟩
     rcases hg with hg | hg
     · exact q.rows g hg
     · have h4:=X4
       exact ⟨by omega,fun hC=>by have:=hc1 g hC;omega,by omega,by omega⟩
   have HEW:=hide hEW
   have HVW:=hide (HV1.out.below X3)
   have HBW:=hide (HB1.out.trans (X3.mono HB1.out.size))
   have HPW:=hide X2
   have HAW:=hide X1
   have HMW:=hide (show ∀ g,(w1.heap.size≤g∧g<z)→g<W.heap.size from fun g hg=>by have:=X4;omega)
   have HMC:=hide (show Apart5 C eb sb pm fm (fun g=>w1.heap.size≤g∧g<z) from fun g hg q=>by
     have l1:=blt HE1.out.eng;have l2:=HE1.out.st.lt;have l3:=HE1.out.mach.packs.lt;have l4:=HE1.out.mach.files.lt
     rcases q with q | q | q | q | q
     · have:=hc1 g q;omega
     · omega
     · omega
     · omega
     · omega)
   have hAC : ¬ (C A∨A=sb):=fun q=>by
     have l2:=HE1.out.st.lt
     rcases q with q | q
     · have:=hc1 A q;omega
     · omega
   have HCS:=hide (show ∀ k,(C k∨k=sb)→k<W.heap.size from fun k q=>by
     have l2:=HE1.out.st.lt
     have l9:=X3.size
     rcases q with q | q
     · have:=hc1 k q;omega
     · omega)
   have HMG:=hide (show ∀ g,(w1.heap.size≤g∧g<z)→w.heap.size≤g from fun g hg=>by have:=HB1.out.size;omega)
   obtain ⟨M,hM⟩:∃ M:Nat→Prop,(fun g=>w1.heap.size≤g∧g<z)=M:=⟨_,rfl⟩
   rw[hM] at HPW HMC
   have HMG':Hid (∀ g,M g→w.heap.size≤g):=hide (by rw[← hM];exact HMG.out)
   have HEW':Hid (EngS C (fun g=>N g∨M g) eb sb mb pm fm db n a b c h d P D G (.slice none 0 0) (.map none) (.map none) 0 W):=hide (by rw[← hM];exact HEW.out)
   have HMW':Hid (∀ g,M g→g<W.heap.size):=hide (by rw[← hM];exact HMW.out)
   obtain ⟨x0,x1, -⟩:=HEW'.out.eng.cells
   have HRE:=hide (record_any mb pm fm P D G (fun g=>N g∨M g) (by have h:D.length≤12:=HRF.out.l1;omega) HRF.out.l2 (by have h:G.length≤16:=HRF.out.l3;omega) (fun p hp=>by have:=(HRF.out.l4 p hp).1;omega) W HEW'.out.mach HEW'.out.pk)
   clear hM X1 X2 X3 X4 HMG HEW HMW hEW hc1 HK1 HK2 HK3 HS0 HE1 HV1 HB1 e0 e1
   (try clear hb2)
   go_wp2_with fail
   refine HRE.out.mono ?_
   rintro e w5 ⟨ra,rf,rfl,r1,r2,hb5⟩
   have R1:=hide r1;have R2:=hide r2
   have HE5:=hide (HEW'.out.below hb5);have HV5:=hide (HVW.out.below hb5);have HB5:=hide (HBW.out.trans (hb5.mono HBW.out.size));have HP5:=hide (HPW.out.below hb5)
   have HA5:=hide ((hb5.block A (blt HAW.out)).trans HAW.out)
   have HM5:=hide (show ∀ g,M g→g<w5.heap.size from fun g hg=>Nat.lt_of_lt_of_le (HMW'.out g hg) hb5.size)
   obtain ⟨ra,rac,rfl⟩:=slice_form r1
   obtain ⟨rf,rfc,rfl⟩:=slice_form r2
   have HCS5:=hide (show ∀ k,(C k∨k=sb)→k<w5.heap.size from fun k q=>Nat.lt_of_lt_of_le (HCS.out k q) hb5.size)
   clear r1 r2 hb5 HRE HCS HEW' HVW HBW HPW HAW HMW' x0 x1
   go_wp2_with fail
   have hrow:=heap_alloc_new w5 (.cells #[.slice ra D.length rac, .slice rf G.length rfc, .slice va xs.length vc] 98)
   have hb0:=(Below.refl w5.heap.size w5).alloc (Nat.le_refl _) (.cells #[.slice ra D.length rac, .slice rf G.length rfc, .slice va xs.length vc] 98)
   obtain ⟨u,hu⟩:∃ u,w5.alloc (.cells #[.slice ra D.length rac, .slice rf G.length rfc, .slice va xs.length vc] 98)=u:=⟨_,rfl⟩
   obtain ⟨rb,hrb⟩:∃ rb,w5.heap.size=rb:=⟨_,rfl⟩
   rw[hu] at hrow hb0 ⊢
   rw[hrb] at hrow ⊢
   have hbd:=hb0.trans ((Below.refl u.heap.size u).drew.mono hb0.size)
   have HE6:=hide (HE5.out.below hbd);have HV6:=hide (HV5.out.below hbd);have HB6:=hide (HB5.out.trans (hbd.mono HB5.out.size));have HP6:=hide (HP5.out.below hbd)
   have HA6:=hide ((hbd.block A (blt HA5.out)).trans HA5.out)
   have HM6:=hide (show ∀ g,M g→g<u.drew.heap.size from fun g hg=>Nat.lt_of_lt_of_le (HM5.out g hg) hbd.size)
   have R16:=hide (ownsRow_kept' R1.out (fun g hg=>hbd.block g (R1.out.lt g hg).2))
   have R26:=hide (ownsRow_kept' R2.out (fun g hg=>hbd.block g (R2.out.lt g hg).2))
   have HEN:=hide (encS HRF.out _ _ _ u.drew HE6.out.base R16.out R26.out HV6.out)
   have c0:=(row_cell hrow 0).trans (show _=some (.slice ra D.length rac) from rfl)
   have c1:=(row_cell hrow 1).trans (show _=some (.slice rf G.length rfc) from rfl)
   have c2:=(row_cell hrow 2).trans (show _=some (.slice va xs.length vc) from rfl)
   have g0:u.cell? ⟨eb,0,none⟩=some (.pointer (some ⟨sb,0,none⟩)):=HE6.out.eng.cells.1
   have HROW:=hide hrow
   have hrC : ¬ (C rb∨rb=sb):=fun q=>by have:=HCS5.out rb q;omega
   clear HCS5 hu hrb hrow hb0 hbd R1 R2 HE5 HV5 HB5 HP5 HA5 HM5
   go_region_held3 (fun w'=>w'.cell? ⟨eb,0,none⟩=some (.pointer (some ⟨sb,0,none⟩))∧w'.cell? ⟨rb,0,none⟩=some (.slice ra D.length rac)∧w'.cell? ⟨rb,1,none⟩=some (.slice rf G.length rfc)∧w'.cell? ⟨rb,2,none⟩=some (.slice va xs.length vc))
     (first | assumption | exact ⟨g0,c0,c1,c2⟩ | exact S8 | exact S7 | simp[go_sem, *])
     (first
       | (go_at_call 36;refine HEN.out.mono ?_;rintro e w7 ⟨rfl,hb7⟩;have HE7:=hide (HE6.out.below hb7);have HB7:=hide (HB6.out.trans (hb7.mono HB6.out.size));have HP7:=hide (HP6.out.below hb7);have HA7:=hide ((hb7.block A (blt HA6.out)).trans HA6.out);have HM7:=hide (show ∀ g,M g→g<w7.heap.size from fun g hg=>Nat.lt_of_lt_of_le (HM6.out g hg) hb7.size);have hr7:=(hb7.block rb (blt HROW.out)).trans HROW.out;have S7:w7.cell? ⟨eb,0,none⟩=some (.pointer (some ⟨sb,0,none⟩))∧w7.cell? ⟨rb,0,none⟩=some (.slice ra D.length rac)∧w7.cell? ⟨rb,1,none⟩=some (.slice rf G.length rfc)∧w7.cell? ⟨rb,2,none⟩=some (.slice va xs.length vc):=⟨HE7.out.eng.cells.1,(row_cell hr7 0).trans rfl,(row_cell hr7 1).trans rfl,(row_cell hr7 2).trans rfl⟩;clear hb7)
       | (go_at_call 35;refine (repE HRF.out hnn HD.out (by omega) w7 HE7.out).mono ?_;rintro e w8 ⟨rfl,C',d',b',h',k1,k2,k3,k5,k4⟩;have HE8:=hide k1;have HD8:=hide k2;have HK8:=hide k3;have HC8:=hide k4;have HP8:=hide (HP7.out.far k5 (Nat.le_refl _) (fun g hg q=>HMC.out g hg (by rcases q with q | q;exact .inl q;exact .inr (.inr (.inl q)))));have hr8:=(k5.block rb (blt hr7) (fun q=>hrC q)).trans hr7;have HA8:=hide ((k5.block A (blt HA7.out) (fun q=>hAC q)).trans HA7.out);have S8:w8.cell? ⟨eb,0,none⟩=some (.pointer (some ⟨sb,0,none⟩))∧w8.cell? ⟨rb,0,none⟩=some (.slice ra D.length rac)∧w8.cell? ⟨rb,1,none⟩=some (.slice rf G.length rfc)∧w8.cell? ⟨rb,2,none⟩=some (.slice va xs.length vc):=⟨HE8.out.eng.cells.1,(row_cell hr8 0).trans rfl,(row_cell hr8 1).trans rfl,(row_cell hr8 2).trans rfl⟩;clear k1 k2 k3 k4 k5))
   all_goals
     have HM8:=hide (HMC.out.disk HC8.out HM7.out)
     have a0:=(row_cell HA8.out 0).trans (show _=some (.slice sa pl.steps.length sc) from rfl)
     have a1:=(row_cell HA8.out 1).trans (show _=some (.map (some im)) from rfl)
     have a2:=(row_cell HA8.out 2).trans (show _=some (.map (some km)) from rfl)
     have hP8:P.length≤1000:=by have h1:=HE8.out.pk.len HE8.out.mach.packs.1;have h2:D.length≤12:=HRF.out.l1;omega
     have HST:=hide (estart_any eb sb mb pm fm db n (1-a) b' 0 h' d' P D G _ _ _ 0 sa pl.steps.length sc im km pl hP8 w8 HE8.out HP8.out HM8.out)
     have HF8:=hide (((Far.refl w.heap.size (EFoot C eb sb pm fm) w).below HB7.out (Nat.le_refl _)).next HK8.out HB7.out.size (fun q _ hq=>hq))
     have HN8:=hide (show ∀ k,C' k→C k∨w.heap.size≤k from fun k q=>(HC8.out k q).imp id (fun q=>Nat.le_trans HB7.out.size q))
     clear S7 S8 hr7 hr8 c0 c1 c2 g0 HE6 HV6 HB6 HP6 HA6 HM6 HE7 HB7 HP7 HA7 HM7 HE8 HP8 HK8 HC8 HEN
     go_wp2_with fail
     refine HST.out.mono ?_
     rintro e w9 ⟨x,P9,rfl,k1,k2,k3⟩
     have HFI:=hide (efinish_any eb sb mb pm fm db n (1-a) b' 0 h' d' (V+1000000) P9 (Hv.wokeW D pl.wak,G) sa pl.steps.length sc im km pl rfl hsteps HRG.out HD8.out (by omega) hnn w9 k1 k2 (fun g hg => .inr hg) HM8.out)
     have HF9:=hide (HF8.out.next k3 HF8.out.size (fun q hq hc=>by
       rcases hc with hc | hc
       · rcases HN8.out q hc with hc | hc
         · exact .inl hc
         · omega
       · exact .inr hc))
     clear k1 k2 k3 HST HF8 a0 a1 a2
     go_wp2_with fail
     refine HFI.out.mono ?_
     rintro e w10 ⟨C2,d2,P2,b2,h2,rfl,q1,q2,q3,q4⟩
     have HQ1:=hide q1;have HQ2:=hide q2;have HQ4:=hide q4
     have HF10:=hide (HF9.out.next q3 HF9.out.size (fun q hq hc=>by
       rcases hc with hc | hc
       · rcases HN8.out q hc with hc | hc
         · exact .inl hc
         · omega
       · exact .inr hc))
     have HS9:=hide HF9.out.size
     clear q1 q2 q3 q4 HFI HF9
     go_wp2_with fail
     go_ret2
     have haa:1-(1-a)=a:=by have:=HD.out.ha;omega
     rw[haa] at HQ1 HQ2
     refine ⟨C2,_,d2,P2,b2,h2,rfl,HQ1.out,⟨HQ2.out.len,HQ2.out.may,wr_sum HQ2.out.wr,HQ2.out.ha,HQ2.out.hb,HQ2.out.hh⟩,HF10.out,fun k q => ?_,fun k q=>q.imp id (HMG'.out k)⟩
     rcases HQ4.out k q with q | q
     · exact HN8.out k q
     · exact .inr (Nat.le_trans HS9.out q)
end
section
open Go.RowKit
open Go.MuLone
open Arc (St Cmd)
open Hv (S Dk VM)
theorem HostS.locked {C N:Nat→Prop} {hb eb sb mb pm fm db n a b c:Nat} {h:S} {d:Dk} {P:VM Value} {D:VM Hv.PD} {G:VM S} {w:World} (e:HostS C N hb eb sb mb pm fm db n a b c h d P D G w) :
   (w.setCell ⟨hb,0,none⟩ (.int .i32 1)).heap[hb]? = some (.cells #[.int .i32 1, .int .u32 0, .pointer (some ⟨eb,0,none⟩)] 62 (0,0))∧EngS C N eb sb mb pm fm db n a b c h d P D G (.slice none 0 0) (.map none) (.map none) 0 (w.setCell ⟨hb,0,none⟩ (.int .i32 1))∧Far w.heap.size (fun q=>q=hb) w (w.setCell ⟨hb,0,none⟩ (.int .i32 1)):=by
 have hf:Far w.heap.size (fun q=>q=hb) w (w.setCell ⟨hb,0,none⟩ (.int .i32 1)):=(Far.refl w.heap.size (fun q=>q=hb) w).setCell (p:=⟨hb,0,none⟩) (.inr rfl) _
 exact ⟨heap_setCell_same _ hb 0 _ _ _ e.blk,e.eng.aside e.off e.low hf,hf⟩
theorem HostS.free {C N:Nat→Prop} {hb eb sb mb pm fm db n a b c:Nat} {h:S} {d:Dk} {P:VM Value} {D:VM Hv.PD} {G:VM S} {w:World} (e1:w.heap[hb]? = some (.cells #[.int .i32 1, .int .u32 0, .pointer (some ⟨eb,0,none⟩)] 62 (0,0))) (e2:EngS C N eb sb mb pm fm db n a b c h d P D G (.slice none 0 0) (.map none) (.map none) 0 w) (ho : ¬ C hb ∧ ¬ N hb∧hb≠eb∧hb≠sb∧hb≠mb∧hb≠pm∧hb≠fm) (hl:12≤hb):HostS C N hb eb sb mb pm fm db n a b c h d P D G (w.setCell ⟨hb,0,none⟩ (.int .i32 0)) :=
 ⟨heap_setCell_same _ hb 0 _ _ _ e1,e2.aside ho hl ((Far.refl w.heap.size (fun q=>q=hb) w).setCell (p:=⟨hb,0,none⟩) (.inr rfl) _),ho,hl⟩
theorem hbegin_ok {C N:Nat→Prop} (hb eb sb mb pm fm db n a b c:Nat) (h:S) (d:Dk) (V:Nat) (P:VM Value) (D:VM Hv.PD) (G:VM S) (v:Value) (xs:List S) (pl:Hv.Plan) (hck:Hv.check n D G xs = .ok pl) (hsteps:0<pl.steps.length) (hxs:∀ x∈xs,x.length≤100000) (hDF:DFine D) (hDl:D.length≤12) (hG:G.length≤16) (hS:Hv.Short 200 G) (hK:Hv.GK G) (hcp:FindC ∨ ∀ s,Hv.wish xs = .ok s→∀ k d,Hv.get s.I k=some d→NoCopy d.st.runs∧NoCopy d.st.wokens) (hD:DRest n V a b h d) (hW:V≤500000000) (hnn:1≤n∧n≤4096) (w:World) (he:HostS C N hb eb sb mb pm fm db n a b c h d P D G w) (hv:Reads w v xs) (hva:∀ g,v.ownBlock=some g→g≠hb) :
   Calls Tryz.prog 10 #[.pointer (some ⟨hb,0,none⟩),v] w fun e w'=>∃ C' N' d' P' b' h',e = .returned (.int .i64 0)∧HostS C' N' hb eb sb mb pm fm db n a b' 0 h' d' P' (Hv.runS pl (Hv.wokeW D pl.wak,G) pl.steps).1 (Hv.runS pl (Hv.wokeW D pl.wak,G) pl.steps).2 w'∧DRest n (V+3000000) a b' h' d'∧Far w.heap.size (fun k=>EFoot C eb sb pm fm k∨k=hb) w w'∧(∀ k,C' k→C k∨w.heap.size≤k)∧∀ k,N' k→N k∨w.heap.size≤k:=by
 obtain ⟨hRG,hRF⟩:=Hv.run_good hnn.2 he.eng.pk.srt (Hv.srt_of_fileM he.eng.mach.files.1) hDF hDl hG hS hK hxs hcp hck
 obtain ⟨l1,l2,l3⟩:=he.locked
 have hv1:Reads (w.setCell ⟨hb,0,none⟩ (.int .i32 1)) v xs:=by
   rcases hv with q | ⟨g,cc,rfl,hg,hc⟩
   · exact .inl q
   · exact .inr ⟨g,cc,rfl,by simpa using hg,fun j x hj=>(World.cell?_setCell_other _ _ _ _ (fun e=>hva g rfl (by injection e with e1;exact e1.symm))).trans (hc j x hj)⟩
 have h0:=(row_cell he.blk 0).trans (show _=some (.int .i32 0) from rfl)
 have f0:=row_free he.blk 0
 have HL2:=hide l2;have HL3:=hide l3;have HV:=hide hv1;have HD:=hide hD;have HO:=hide he.off;have HLW:=hide he.low;have HBL:=hide (blt he.blk)
 have HEB:Hid (∀ w1,w1=w.setCell ⟨hb,0,none⟩ (.int .i32 1)→Calls Tryz.prog 19 #[.pointer (some ⟨eb,0,none⟩),v] w1 fun e w'=>∃ C' N' d' P' b' h',e = .returned (.tuple #[.int .i64 0, .nilIface])∧EngS C' N' eb sb mb pm fm db n a b' 0 h' d' P' (Hv.runS pl (Hv.wokeW D pl.wak,G) pl.steps).1 (Hv.runS pl (Hv.wokeW D pl.wak,G) pl.steps).2 (.slice none 0 0) (.map none) (.map none) 0 w'∧DRest n (V+3000000) a b' h' d'∧Far w1.heap.size (EFoot C eb sb pm fm) w1 w'∧(∀ k,C' k→C k∨w1.heap.size≤k)∧∀ k,N' k→N k∨w1.heap.size≤k):=hide (by
   rintro w1 rfl
   exact ebegin_ok eb sb mb pm fm db n a b c h d V P D G v xs pl hck hRG hRF hsteps hDF hcp hS hD hW hnn _ l2 hv1)
 clear hRG hRF hck hxs hDF hS hK hcp hD he hv hv1 hva
 obtain ⟨m,hm⟩:∃ m,Hv.runS pl (Hv.wokeW D pl.wak,G) pl.steps=m:=⟨_,rfl⟩
 rw[hm] at HEB ⊢
 clear hm
 have c2:=(row_cell l1 2).trans (show _=some (.pointer (some ⟨eb,0,none⟩)) from rfl)
 have HL1:=hide l1
 have hsz:(w.setCell ⟨hb,0,none⟩ (.int .i32 1)).heap.size=w.heap.size:=by simp
 have HSZ:=hide hsz
 clear l1 l2 l3 hsz
 go_enter_defers Tryz.func10,Tryz.ntmps10
 go_wp2_with (go_at_call 17;refine (lock_free Tryz.muLib ⟨hb,0,none⟩ _ h0 f0).mono ?_;rintro e w1 ⟨rfl,hw1⟩;have HW1:=hide hw1;rw[← hw1] at c2;clear hw1)
 refine (HEB.out w1 HW1.out).mono ?_
 rintro e w2 ⟨C',N',d',P',b',h',rfl,q1,q2,q3,q4,q5⟩
 have HQ1:=hide q1;have HQ2:=hide q2;have HQ3:=hide q3;have HQ4:=hide q4;have HQ5:=hide q5
 clear q1 q2 q3 q4 q5 HEB
 go_wp2_with fail
 refine (settle_nil hb w2).mono ?_
 rintro e w3 ⟨rfl,hb3⟩
 have HB3:=hide hb3
 clear hb3
 go_wp2_with fail
 have hw1:=HW1.out
 have hs1:w1.heap.size=w.heap.size:=by rw[hw1];exact HSZ.out
 have hblt:=HBL.out
 have hne : ¬ EFoot C eb sb pm fm hb:=by
   obtain ⟨o1,o2,o3,o4,o5,o6,o7⟩:=HO.out
   rintro (q | q | q | q | q)
   · exact o1 q
   · exact o3 q
   · exact o4 q
   · exact o6 q
   · exact o7 q
 have r1:w1.heap[hb]? = some (.cells #[.int .i32 1, .int .u32 0, .pointer (some ⟨eb,0,none⟩)] 62 (0,0)):=by rw[hw1];exact HL1.out
 have r2:=(HQ3.out.block hb (by rw[hs1];exact hblt) hne).trans r1
 have r3:=(HB3.out.block hb (blt r2)).trans r2
 have hE3:=HQ1.out.below HB3.out
 have ho' : ¬ C' hb ∧ ¬ N' hb∧hb≠eb∧hb≠sb∧hb≠mb∧hb≠pm∧hb≠fm:=by
   obtain ⟨o1,o2,o3⟩:=HO.out
   refine ⟨fun q => ?_,fun q => ?_,o3⟩
   · rcases HQ4.out hb q with q | q
     · exact o1 q
     · omega
   · rcases HQ5.out hb q with q | q
     · exact o2 q
     · omega
 have x0:=(row_cell r3 0).trans (show _=some (.int .i32 1) from rfl)
 have y0:=row_free r3 0
 refine leaves_cons (f:=18) (args := #[.pointer (some ⟨hb,0,none⟩)]) (by simp) (by simp[go_sem]) ?_
 refine (unlock_deferred Tryz.muLib ⟨hb,0,none⟩ .returning _ x0 y0).mono ?_
 rintro e u' w'' ⟨rfl,rfl,rfl⟩
 refine ⟨_,results_tmp rfl _ _ _,C',N',d',P',b',h',rfl,HostS.free r3 hE3 ho' HLW.out,HQ2.out,?_,fun k q=>(HQ4.out k q).imp id (fun q=>by omega),fun k q=>(HQ5.out k q).imp id (fun q=>by omega)⟩
 have hF1:Far w.heap.size (fun k=>EFoot C eb sb pm fm k∨k=hb) w w1:=by rw[hw1];exact (Far.refl w.heap.size (fun k=>EFoot C eb sb pm fm k∨k=hb) w).next HL3.out (Nat.le_refl _) (fun q _ e => .inr e)
 have hF2:=hF1.next HQ3.out (by omega) (fun q _ e => .inl e)
 exact (hF2.below HB3.out hF2.size).setCell (p:=⟨hb,0,none⟩) (.inr (.inr rfl)) _
end
section
open Go.RowKit
open Arc (St Cmd)
open Hv (S Dk VM)
def pkgV (p:S × Hv.PD):List Value:=[strV p.1,strV p.2.ve, .int .i64 p.2.status]
theorem info_pkg:(Tryz.prog.info? 41).map (fun i=>(i.zero,i.size,i.bytes))=some (some (.agg #[.string ByteArray.empty, .string ByteArray.empty, .int .i64 0]),3,40):=by kernel_rfl
theorem cell_three_new (w:World) (x y z:Value) (t:TypeId):∀ j u,[x,y,z][j]? = some u→(w.alloc (.cells #[x,y,z] t)).cell? ((⟨w.heap.size,0,none⟩:Addr).add j)=some u:=by
 intro j u h
 have hadd:(⟨w.heap.size,0,none⟩:Addr).add j=⟨w.heap.size,j,none⟩:=by unfold Addr.add;split<;>simp_all
 rw[hadd,row_cell (heap_alloc_new w _)]
 simpa using h
theorem list_any (mb pm fm:Nat) (P F:VM Value) (D:VM Hv.PD) (N:Nat→Prop) (hDl:D.length≤1000) (hDF:Hv.Named D) (w:World) (h:MachAt mb pm fm P F w) (hP:PkM N w D P) :
   Calls Tryz.prog 40 #[.pointer (some ⟨mb,0,none⟩)] w fun e w'=>∃ v,e = .returned v∧w'.ownsRow w.heap.size 41 3 v D.length (D.flatMap pkgV)∧Below w.heap.size w w':=by
 obtain ⟨i0,hi,hz0,hz1,hz2⟩:=info_three info_pkg
 have HM:=hide h;have HPP:=hide hP;have HDF:=hide hDF
 have hPl:P.length=D.length:=hP.len h.packs.1
 have hml:=blt h.blk
 clear h hP hDF
 go_enter Tryz.func40,Tryz.ntmps40
 go_wp2_with fail
 refine (names_any mb pm fm P F (by omega) w HM.out).mono ?_
 rintro e w1 ⟨nv,rfl,hrow1,hb1⟩
 rw[HPP.out.keys HM.out.packs.1] at hrow1
 have hkl:(keysOf D).length=D.length:=by simp[keysOf]
 obtain ⟨na,nc,rfl⟩:=slice_form hrow1
 rw[hkl] at hrow1 ⊢
 have HN1:=hide hrow1
 have hs2:=hb1.size
 obtain ⟨nd,hnd⟩:∃ nd,D.length=nd:=⟨_,rfl⟩
 have HND:=hide hnd
 rw[hnd] at hDl ⊢
 have HUW:=hide hb1
 clear hb1 hrow1 hnd hkl hPl
 go_wp2_with fail
 go_loopw [3,10] (fun l i wr=>∃ (k:Nat) (lo:Option Addr) (lc:Nat),k≤nd∧l = .slice lo k lc∧i = .int .i64 (k:Int)∧Hid (wr.ownsRow w1.heap.size 41 3 (.slice lo k lc) k ((D.take k).flatMap pkgV))∧Hid (Below w1.heap.size w1 wr)) (fun _ i _=>nd-(intOf i).toNat)
 case atStart=>exact ⟨0,none,0,Nat.zero_le _,rfl,rfl,hide (World.ownsRow_nil _ _ _ _),hide (Below.refl _ _)⟩
 case round =>
   obtain ⟨k,lo,lc,hk,rfl,rfl,HI,HB⟩:=hrel
   by_cases hlt:k<nd
   · have b1:(k:Int)<(nd:Int):=by omega
     have hkD:k<D.length:=by have:=HND.out;omega
     have hkk:k<(keysOf D).length:=by simp[keysOf];omega
     obtain ⟨g,c',hv2,hg,q1⟩:=strs_at (l:=keysOf D) (v := .slice na nd nc) (w:=w1) (B:=w.heap.size) (e:=9) (by have h:=HN1.out;rw[show (keysOf D).length=D.length by simp[keysOf]];rw[HND.out] at h ⊢;exact h) hkk
     obtain rfl:na=some ⟨g,0,none⟩:=(Value.slice.inj hv2).1
     have d1:=(HB.out.cell (p:=⟨g,k,none⟩) hg).trans q1
     have hget:Hv.get D (keysOf D)[k]=some D[k].2:=by
       rw[Hv.get_some HPP.out.srt]
       have:(keysOf D)[k]=D[k].1:=by simp[keysOf]
       rw[this]
       exact List.getElem_mem hkD
     have hnl:=HDF.out.len (k:=(keysOf D)[k]) (by rw[Hv.has_get,hget];rfl)
     obtain ⟨v,hv,hr⟩:=HPP.out.fro _ _ hget
     obtain ⟨p,rfl,p1,p2,p3,p4, -⟩:=hr
     have hkx:(keysOf D)[k]=D[k].1:=by simp[keysOf]
     have hT:(D.take (k+1)).flatMap pkgV=(D.take k).flatMap pkgV++[.string ⟨(keysOf D)[k].toArray⟩, .string ⟨p.ve.toArray⟩, .int .i64 p.status]:=by
       rw[List.take_succ_eq_append_getElem hkD,List.flatMap_append,hkx,p3,p4]
       simp[pkgV,strV]
     have HT:=hide hT;have HV:=hide hv
     obtain ⟨x,hx⟩:∃ x,(keysOf D)[k]=x:=⟨_,rfl⟩
     rw[hx] at d1 HV hnl HT
     have hMw:=(HM.out.below HUW.out).below (HB.out.mono (Nat.le_refl _))
     have hpm:=hMw.packs
     have m0:=(row_cell hMw.blk 0).trans (show _=some (.map (some pm)) from rfl)
     have hxm:x.length≤maxLen:=by unfold maxLen;omega
     have HA:=hide HI.out
     have hgb:=HB.out.size
     obtain ⟨ys,hys⟩:∃ ys,(D.take k).flatMap pkgV=ys:=⟨_,rfl⟩
     rw[hys] at HA HT
     have HO:=hide (HA.out.alloc (.cells p.cells 156))
     have hrow:=heap_alloc_new wr (.cells p.cells 156)
     have T0:=Pk.at_ hrow
     clear hv2 q1 hget hv hT hx hkx p1 p2 p3 p4 hys HI hMw hrow
     obtain ⟨tx,pn,pv,nd2,br,wk,fl,ru,wo,sta⟩:=p
     have hc3:=cell_three_new (wr.alloc (.cells (Pk.mk tx pn pv nd2 br wk fl ru wo sta).cells 156)) (.string ⟨x.toArray⟩) (.string ⟨pv.toArray⟩) (.int .i64 sta) 41
     have hs9:(wr.alloc (.cells (Pk.mk tx pn pv nd2 br wk fl ru wo sta).cells 156)).heap.size=wr.heap.size+1:=by simp
     rw[hs9] at hc3
     have HO2:=hide (HO.out.alloc (.cells #[.string ⟨x.toArray⟩, .string ⟨pv.toArray⟩, .int .i64 sta] 41))
     have HB2:=hide ((HB.out.alloc hgb (.cells (Pk.mk tx pn pv nd2 br wk fl ru wo sta).cells 156)).alloc (by simp;omega) (.cells #[.string ⟨x.toArray⟩, .string ⟨pv.toArray⟩, .int .i64 sta] 41))
     simp only[Pk.cells] at HO2 HB2 T0 hc3
     have HC3:=hide hc3
     obtain ⟨t0,t1,t2,t3,t4,t5,t6,t7,t8,t9⟩:=T0
     clear hs9 hc3 HO
     go_wp2_with (first
       | (at_lookup;refine wp_look rfl _ _ 86 rfl 156 Tryz.underlying86 (zero_pk _) hpm rfl x hxm rfl ?_;rw[HV.out];simp only[Option.getD_some,Pk.val,Pk.cells])
       | (at_builtin;refine wpList_append_own_at _ rfl _ _ 35 rfl w1.heap.size 41 i0 (.agg #[.string ByteArray.empty, .string ByteArray.empty, .int .i64 0]) 3 40 Tryz.underlying35 hi hz0 hz1 hz2 rfl (by decide) _ _ _ rfl HO2.out ⟨wr.heap.size+1,0,none⟩ 1 1 [.string ⟨x.toArray⟩, .string ⟨pv.toArray⟩, .int .i64 sta] rfl rfl HC3.out (fun x hx=>by simp at hx;rcases hx with rfl | rfl | rfl<;>rfl) (by unfold maxLen;omega) (by omega) (by simp;omega) ?_;intro v' w4 hown' hgrow4 hnil4 hat4;obtain ⟨gv,cv,rfl⟩:=own_form hown' (by omega);have O4:=hide hown';have G4:=hide hgrow4;clear hown' hgrow4 hnil4 hat4))
     have HB3:Hid (Below w1.heap.size w1 w4):=hide (HB2.out.grown G4.out (by simp;omega) (fun q hq=>(HA.out.lt q hq).1))
     have HO3:Hid (w4.ownsRow w1.heap.size 41 3 (.slice (some ⟨gv,0,none⟩) (k+1) cv) (k+1) ((D.take (k+1)).flatMap pkgV)):=hide (by rw[HT.out];exact O4.out)
     clear O4 G4
     go_roundw
     case rel=>exact ⟨k+1,_,cv,by omega,rfl,by go_num,HO3,HB3⟩
     case measure=>simp[intOf];omega
   · obtain rfl:k=nd:=by omega
     have b1 : ¬ (k:Int)<(k:Int):=by omega
     go_wp2_with fail
     go_ret
     have hs1:=HUW.out.size
     refine ⟨_,rfl,?_,HUW.out.trans (HB.out.mono hs1)⟩
     have h:=own_base HI.out hs1
     rw[List.take_of_length_le (by have:=HND.out;omega)] at h
     rw[HND.out]
     exact h
namespace Hv
def putAll (E:VM S) (l:List (S × S)):VM S:=l.foldl (fun E f=>put E f.1 f.2) E
theorem putAll_snoc (E:VM S) (l:List (S × S)) (f:S × S):putAll E (l++[f])=put (putAll E l) f.1 f.2:=by simp[putAll]
theorem putAll_srt:∀ (l:List (S × S)) {E:VM S},Srt E→Srt (putAll E l)
 | [],_,h=>h
 | f::l,_,h=>putAll_srt l (h.put f.1 f.2)
theorem putAll_len:∀ (l:List (S × S)) (E:VM S),(putAll E l).length≤E.length+l.length
 | [],E=>by simp[putAll]
 | f::l,E=>by
   have h1:=putAll_len l (put E f.1 f.2)
   have h2:=put_len E f.1 f.2
   have e:putAll E (f::l)=putAll (put E f.1 f.2) l:=rfl
   rw[e,List.length_cons]
   omega
def treeD (D:VM PD) (G:VM S):VM S:=D.foldl (fun E p=>putAll E p.2.st.files) G
theorem treeD_snoc (D:VM PD) (p:S × PD) (G:VM S):treeD (D++[p]) G=putAll (treeD D G) p.2.st.files:=by simp[treeD]
theorem treeD_srt:∀ (D:VM PD) {G:VM S},Srt G→Srt (treeD D G)
 | [],_,h=>h
 | p::D,_,h=>treeD_srt D (putAll_srt p.2.st.files h)
theorem treeD_len:∀ (D:VM PD) (G:VM S),(∀ p∈D,p.2.st.files.length≤21)→(treeD D G).length≤G.length+21*D.length
 | [],G,_=>by simp[treeD]
 | p::D,G,h=>by
   have h1:=treeD_len D (putAll G p.2.st.files) (fun q hq=>h q (by simp[hq]))
   have h2:=putAll_len p.2.st.files G
   have h3:=h p (by simp)
   have e:treeD (p::D) G=treeD D (putAll G p.2.st.files):=rfl
   rw[e,List.length_cons]
   omega
theorem putAll_keys:∀ (l:List (S × S)) {E:VM S},Srt E→(∀ p∈E,p.1.length≤24)→(∀ f∈l,f.1.length≤24)→∀ p∈putAll E l,p.1.length≤24
 | [],_,_,h,_=>h
 | f::l,E,hs,h,hl=>putAll_keys l (hs.put f.1 f.2) (fun p hp=>by
     rcases mem_put.1 hp with rfl | ⟨q, -⟩
     · exact hl f (by simp)
     · exact h p q) (fun g hg=>hl g (by simp[hg]))
theorem treeD_keys:∀ (D:VM PD) {G:VM S},Srt G→(∀ p∈G,p.1.length≤24)→(∀ p∈D,∀ f∈p.2.st.files,f.1.length≤24)→∀ p∈treeD D G,p.1.length≤24
 | [],_,_,h,_=>h
 | q::D,G,hs,h,hl=>treeD_keys D (putAll_srt q.2.st.files hs) (putAll_keys q.2.st.files hs h (hl q (by simp))) (fun p hp=>hl p (by simp[hp]))
end Hv
theorem field_files (p:Pk) (w:World):(Instr.field 154 p.arc 5).run Tryz.prog w = .ok p.files.val w:=by kernel_rfl
theorem far_below {C:Nat→Prop} {w w1 wr:World} (h1:Below w.heap.size w w1) (hf:Far w1.heap.size C w1 wr) (hC:∀ q,q<w.heap.size → ¬ C q):Below w.heap.size w wr :=
 ⟨hf.os.trans h1.os,hf.tape.trans h1.tape,hf.output.trans h1.output,Nat.le_trans h1.size hf.size,fun k hk=>(hf.block k (Nat.lt_of_lt_of_le hk h1.size) (hC k hk)).trans (h1.block k hk)⟩
theorem named_files {D:VM Hv.PD} (h:Hv.Named D) (hs:Hv.Srt D):∀ p∈D,p.2.st.files.length≤21∧∀ f∈p.2.st.files,f.1.length≤24:=fun p hp=>by
 have hd:=(h p.1 p.2 ((Hv.get_some hs).2 hp)).2
 exact ⟨(parse_fits hd).2.2.1.2.2.2.1,fun f hf=>path_len ((parse_good hd).2.2.files f hf).1⟩
theorem tree_any (mb pm fm:Nat) (P:VM Value) (D:VM Hv.PD) (G:VM S) (N:Nat→Prop) (hDl:D.length≤20) (hDF:Hv.Named D) (hG:G.length≤20) (hK:Hv.GK G) (w:World) (h:MachAt mb pm fm P (Hv.fileM G) w) (hP:PkM N w D P) :
   Calls Tryz.prog 82 #[.pointer (some ⟨mb,0,none⟩)] w fun e w'=>∃ v,e = .returned v∧w'.ownsRow w.heap.size 71 2 v (Hv.treeD D G).length ((Hv.treeD D G).flatMap pairV)∧Below w.heap.size w w':=by
 have m1:=(row_cell h.blk 1).trans (show _=some (.map (some fm)) from rfl)
 have HM:=hide h;have HPP:=hide hP;have HDF:=hide hDF
 have hPl:P.length=D.length:=hP.len h.packs.1
 have hml:=blt h.blk
 have HGS:=hide (Hv.srt_of_fileM h.files.1)
 have HGK:=hide (show ∀ p∈G,p.1.length≤24 from fun p hp=>hK p.1 p.2 ((Hv.get_some (Hv.srt_of_fileM h.files.1)).2 hp))
 have HNF:=hide (named_files hDF hP.srt)
 clear h hP hDF hK
 go_enter Tryz.func82,Tryz.ntmps82
 go_wp2_with fail
 refine (cloneF_any fm (Hv.fileM G) w HM.out.files).mono ?_
 rintro e w0 ⟨rfl,hm0,hb0⟩
 have HM0:=hide hm0;have HB0:=hide hb0
 have HMM:=hide (HM.out.below hb0)
 obtain ⟨fb,hfb⟩:∃ fb,w.heap.size=fb:=⟨_,rfl⟩
 have HFB:=hide hfb
 rw[hfb] at HM0 ⊢
 clear hm0 hb0 hfb m1
 go_wp2_with fail
 refine (names_any mb pm fm P (Hv.fileM G) (by omega) w0 HMM.out).mono ?_
 rintro e w1 ⟨nv,rfl,hrow1,hb1⟩
 rw[HPP.out.keys HM.out.packs.1] at hrow1
 have hkl:(keysOf D).length=D.length:=by simp[keysOf]
 obtain ⟨na,nc,rfl⟩:=slice_form hrow1
 rw[hkl] at hrow1 ⊢
 have HN1:=hide hrow1
 have HU:=hide (HB0.out.trans (hb1.mono HB0.out.size))
 have hfl:fb<w0.heap.size:=HM0.out.lt
 have HF1:Hid (MapAt w1 fb (Hv.fileM G)):=hide (HM0.out.below hb1)
 obtain ⟨nd,hnd⟩:∃ nd,D.length=nd:=⟨_,rfl⟩
 have HND:=hide hnd
 rw[hnd] at hDl ⊢
 have hs01:=hb1.size
 clear hb1 hrow1 hnd hkl hPl
 go_wp2_with fail
 go_loopw [19] (fun i wr=>∃ (k:Nat),k≤nd∧i = .int .i64 (k:Int)∧Hid (MapAt wr fb (Hv.fileM (Hv.treeD (D.take k) G)))∧Hid (Far w1.heap.size (fun q=>q=fb) w1 wr)) (fun i _=>nd-(intOf i).toNat)
 case atStart=>exact ⟨0,Nat.zero_le _,rfl,HF1,hide (Far.refl _ _ _)⟩
 case round =>
   clear HF1
   obtain ⟨k,hk,rfl,HI,HB⟩:=hrel
   by_cases hlt:k<nd
   · have b1:(k:Int)<(nd:Int):=by omega
     have hkD:k<D.length:=by have:=HND.out;omega
     have hkk:k<(keysOf D).length:=by simp[keysOf];omega
     obtain ⟨g,c',hv2,hg,q1⟩:=strs_at (l:=keysOf D) (v := .slice na nd nc) (w:=w1) (B:=w0.heap.size) (e:=9) (by have h:=HN1.out;rw[show (keysOf D).length=D.length by simp[keysOf]];rw[HND.out] at h ⊢;exact h) hkk
     obtain rfl:na=some ⟨g,0,none⟩:=(Value.slice.inj hv2).1
     have hgB:w0.heap.size≤g:=own_ge HN1.out rfl
     have hgfb : ¬ g=fb:=by omega
     have d1:=(HB.out.cell (p:=⟨g,k,none⟩) hg hgfb).trans q1
     have hget:Hv.get D (keysOf D)[k]=some D[k].2:=by
       rw[Hv.get_some HPP.out.srt]
       have:(keysOf D)[k]=D[k].1:=by simp[keysOf]
       rw[this]
       exact List.getElem_mem hkD
     have hnl:=HDF.out.len (k:=(keysOf D)[k]) (by rw[Hv.has_get,hget];rfl)
     obtain ⟨v,hv,hr⟩:=HPP.out.fro _ _ hget
     obtain ⟨p,rfl, -, -, -, -,hpk, -⟩:=hr
     have hBW:=far_below HU.out HB.out (fun q hq e=>by have e':q=fb:=e;have:=HFB.out;omega)
     have hMw:=HM.out.below hBW
     have hpm:=hMw.packs
     have m0:=(row_cell hMw.blk 0).trans (show _=some (.map (some pm)) from rfl)
     have hxm:(keysOf D)[k].length≤maxLen:=by unfold maxLen;omega
     have hFK:=HNF.out _ (List.getElem_mem hkD)
     have HT:=hide (show Hv.treeD (D.take (k+1)) G=Hv.putAll (Hv.treeD (D.take k) G) D[k].2.st.files by rw[List.take_succ_eq_append_getElem hkD];exact Hv.treeD_snoc _ _ _)
     have hEl:(Hv.treeD (D.take k) G).length≤500:=by
       have h1:=Hv.treeD_len (D.take k) G (fun p hp=>(HNF.out p (List.mem_of_mem_take hp)).1)
       rw[List.length_take] at h1
       omega
     have HES:=hide (Hv.treeD_srt (D.take k) HGS.out)
     obtain ⟨E0,hE0⟩:∃ E0,Hv.treeD (D.take k) G=E0:=⟨_,rfl⟩
     rw[hE0] at HT hEl HES HI
     obtain ⟨F,hF⟩:∃ F,D[k].2.st.files=F:=⟨_,rfl⟩
     rw[hF] at HT hFK
     have HR:=hide (show w.ownsRow 0 234 2 p.files.val F.length (F.flatMap pairV) by rw[← hF];exact hpk.rows 3)
     have HV:=hide hv
     obtain ⟨x,hx⟩:∃ x,(keysOf D)[k]=x:=⟨_,rfl⟩
     rw[hx] at d1 HV hnl hxm
     have HBW:=hide hBW
     obtain ⟨hF1,hF2⟩:=hFK
     have HF2:=hide hF2
     have hf1:=fun w=>field_arc p w
     have hf2:=fun w=>field_files p w
     obtain ⟨tx,pn,pv,nd2,br,wk,⟨ra,rn,rc⟩,ru,wo,sta⟩:=p
     have HRN:=hide (sl_n HR.out)
     simp only[Pk.val,Pk.cells,Pk.arc,Sl.val] at hf1 hf2
     have hfw:fb<wr.heap.size:=by have:=HB.out.size;omega
     clear hv2 q1 hget hv hpk hx hF hE0 hMw hBW hF2
     go_wp2_with (first
       | (at_lookup;refine wp_look rfl _ _ 86 rfl 156 Tryz.underlying86 (zero_pk _) hpm rfl x hxm rfl ?_;rw[HV.out];simp only[Option.getD_some,Pk.val,Pk.cells]))
     go_loopw [32] (fun i wr2=>∃ j:Nat,j≤rn∧i = .int .i64 (j:Int)∧Hid (MapAt wr2 fb (Hv.fileM (Hv.putAll E0 (F.take j))))∧Hid (Far w1.heap.size (fun q=>q=fb) w1 wr2)) (fun i _=>rn-(intOf i).toNat)
     case atStart=>exact ⟨0,Nat.zero_le _,rfl,HI,HB⟩
     case round =>
       obtain ⟨j,hj,rfl,HM1,HF1⟩:=hrel
       by_cases hjl:j<rn
       · have b2:(j:Int)<(rn:Int):=by omega
         have hnF:rn=F.length:=HRN.out
         have hjx:j<F.length:=by omega
         obtain ⟨gf,cf,hvf,hgf,r1,r2⟩:=pairs_at HR.out hjx
         obtain rfl:ra=some ⟨gf,0,none⟩:=(Value.slice.inj hvf).1
         have hBW2:=far_below HU.out HF1.out (fun q hq e=>by have e':q=fb:=e;have:=HFB.out;omega)
         have d2:=(hBW2.cell (p:=⟨gf,j*2,none⟩) hgf).trans r1
         have d3:=(hBW2.cell (p:=⟨gf,j*2+1,none⟩) hgf).trans r2
         have hxl:=HF2.out _ (List.getElem_mem hjx)
         have HT2:Hid (Hv.putAll E0 (F.take (j+1))=Hv.put (Hv.putAll E0 (F.take j)) F[j].1 F[j].2):=hide (by rw[List.take_succ_eq_append_getElem hjx];exact Hv.putAll_snoc _ _ _)
         have hql:(Hv.putAll E0 (F.take j)).length≤600:=by
           have:=Hv.putAll_len (F.take j) E0
           rw[List.length_take] at this
           omega
         have HES2:=hide (Hv.putAll_srt (F.take j) HES.out)
         obtain ⟨q,hq⟩:∃ q,F[j]=q:=⟨_,rfl⟩
         rw[hq] at d2 d3 hxl HT2
         obtain ⟨y,z⟩:=q
         obtain ⟨EJ,hEJ⟩:∃ EJ,Hv.putAll E0 (F.take j)=EJ:=⟨_,rfl⟩
         rw[hEJ] at HM1 HT2 hql HES2
         have hyl:y.length≤24:=hxl
         have hym:y.length≤maxLen:=by unfold maxLen;omega
         have hm2:=HM1.out.alloc (.cells #[.string ⟨y.toArray⟩, .string ⟨z.toArray⟩] 234)
         have hz:=HF1.out.size
         have HF3:=hide (HF1.out.alloc HF1.out.size (.cells #[.string ⟨y.toArray⟩, .string ⟨z.toArray⟩] 234))
         have hrow2:=heap_alloc_new wr (.cells #[.string ⟨y.toArray⟩, .string ⟨z.toArray⟩] 234)
         have e1:=(row_cell hrow2 0).trans (show _=some (.string ⟨y.toArray⟩) from rfl)
         have e2:=(row_cell hrow2 1).trans (show _=some (.string ⟨z.toArray⟩) from rfl)
         have hEl2:(Hv.fileM EJ).length<maxLen:=by rw[Hv.fileM_len];unfold maxLen;omega
         obtain ⟨w5,hrun,hm5,ht5⟩:=hm2.store Tryz.underlying139 hEl2 y hym (Hv.fileV z)
         have hf5:=turned_far ht5
         have HM5:Hid (MapAt w5 fb (Hv.fileM (Hv.putAll E0 (F.take (j+1))))):=hide (by rw[HT2.out,Hv.fileM_put HES2.out];exact hm5)
         have HF5:=hide (HF3.out.next hf5 HF3.out.size (fun _ _ q=>q))
         unfold Hv.fileV at hrun
         clear hvf r1 r2 hq hEJ hm5 ht5 hf5 hrow2 hBW2 hxl
         go_wp2_with fail
         go_roundw
         case rel=>exact ⟨j+1,by omega,by go_num,HM5,HF5⟩
         case measure=>simp[intOf];omega
       · obtain rfl:j=rn:=by omega
         have b2 : ¬ (j:Int)<(j:Int):=by omega
         have HM5:Hid (MapAt wr fb (Hv.fileM (Hv.treeD (D.take (k+1)) G))):=hide (by
           have h:=HM1.out
           rw[List.take_of_length_le (by have:=HRN.out;omega)] at h
           rw[HT.out]
           exact h)
         go_wp2_with fail
         go_roundw
         case rel=>exact ⟨k+1,by omega,by go_num,HM5,HF1⟩
         case measure=>simp[intOf];omega
   · obtain rfl:k=nd:=by omega
     have b1 : ¬ (k:Int)<(k:Int):=by omega
     have HIE:Hid (MapAt wr fb (Hv.fileM (Hv.treeD D G))):=hide (by
       have h:=HI.out
       rwa [List.take_of_length_le (by have:=HND.out;omega)] at h)
     have hTl:(Hv.treeD D G).length≤500:=by
       have h1:=Hv.treeD_len D G (fun p hp=>(HNF.out p hp).1)
       have:=HND.out
       omega
     have HTS:=hide (Hv.treeD_srt D HGS.out)
     have HTK:=hide (Hv.treeD_keys D HGS.out HGK.out (fun p hp f hf=>(HNF.out p hp).2 f hf))
     have HBW:=hide (far_below HU.out HB.out (fun q hq e=>by have e':q=fb:=e;have:=HFB.out;omega))
     obtain ⟨T,hT⟩:∃ T,Hv.treeD D G=T:=⟨_,rfl⟩
     have HTE:=hide hT
     rw[hT] at HIE hTl HTS HTK
     have hfw:fb<wr.heap.size:=by have:=HB.out.size;omega
     clear hT HI
     go_wp2_with fail
     refine (callsIn_wide.1 (Tryz.maps_Keys_73 (some fb) wr)).mono ?_
     rintro e w5 ⟨rfl,rfl⟩
     go_wp2_with fail
     refine (callsIn_wide.1 (Tryz.slices_Sorted_keys_72_73 fb (Hv.fileM T).length (Hv.dOf (Hv.fileM T)) Hv.hR wr HIE.out.2 (by rw[Hv.d_size,Hv.fileM_len];unfold maxLen;omega) (by rw[Hv.d_size,Hv.fileM_len];omega))).mono ?_
     rintro e w6 ⟨kv,ss,rfl,hS,hrow6, -,hb6⟩
     have hk6:=sort_keys HIE.out.1 hS
     have hl6:ss.length=(keysOf (Hv.fileM T)).length:=by rw[hS.length_eq,strKeys_d]
     have hkf:keysOf (Hv.fileM T)=keysOf T:=by simp[keysOf,Hv.fileM,List.map_map,Function.comp_def]
     rw[hk6,hl6,hkf] at hrow6
     have HB6:=hide (((Below.refl wr.heap.size wr).alloc (Nat.le_refl _) (.cells #[.map (some fb)] 139)).trans (hb6.mono (by simp)))
     have HO6:=hide (own_base (B:=wr.heap.size) hrow6 (by simp))
     have HT6:=hide (HIE.out.below HB6.out)
     have hs6:=HB6.out.size
     obtain ⟨ka,kc,rfl⟩:=slice_form hrow6
     have hkl:(keysOf T).length=T.length:=by simp[keysOf]
     rw[hkl] at HO6 ⊢
     obtain ⟨ng,hng⟩:∃ ng,T.length=ng:=⟨_,rfl⟩
     have HNG:=hide hng
     rw[hng] at hTl ⊢
     have HBX:=hide (HBW.out.trans (HB6.out.mono HBW.out.size))
     clear hrow6 hb6 hk6 hl6 hkf hS hkl hng HIE
     obtain ⟨j0,hj0,hj1,hj2,hj3⟩:∃ j0,Tryz.prog.info? 71=some j0∧j0.zero=some (.agg #[.string ByteArray.empty, .string ByteArray.empty])∧j0.size=2∧j0.bytes=32:=by
       obtain ⟨j0,a,b,c,d⟩:=info_three info_fil
       exact ⟨j0,a,b,c,d⟩
     go_wp2_with fail
     go_loopw [8,48] (fun l i wr2=>∃ (q:Nat) (lo:Option Addr) (lc:Nat),q≤ng∧l = .slice lo q lc∧i = .int .i64 (q:Int)∧Hid (wr2.ownsRow w6.heap.size 71 2 (.slice lo q lc) q ((T.take q).flatMap pairV))∧Hid (Below w6.heap.size w6 wr2)) (fun _ i _=>ng-(intOf i).toNat)
     case atStart=>exact ⟨0,none,0,Nat.zero_le _,rfl,rfl,hide (World.ownsRow_nil _ _ _ _),hide (Below.refl _ _)⟩
     case round =>
       obtain ⟨q,lo,lc,hq,rfl,rfl,HIQ,HBQ⟩:=hrel
       by_cases hlt:q<ng
       · have b3:(q:Int)<(ng:Int):=by omega
         have hqT:q<T.length:=by have:=HNG.out;omega
         have hqk:q<(keysOf T).length:=by simp[keysOf];omega
         obtain ⟨g,c',hv2,hg,q1⟩:=strs_at (l:=keysOf T) (v := .slice ka ng kc) (w:=w6) (e:=9) (by have h:=HO6.out;rw[show (keysOf T).length=T.length by simp[keysOf]];rw[HNG.out] at h ⊢;exact h) hqk
         obtain rfl:ka=some ⟨g,0,none⟩:=(Value.slice.inj hv2).1
         have d1:=(HBQ.out.cell (p:=⟨g,q,none⟩) hg).trans q1
         have hkq:(keysOf T)[q]=T[q].1:=by simp[keysOf]
         have hget:Hv.get T T[q].1=some T[q].2:=(Hv.get_some HTS.out).2 (List.getElem_mem hqT)
         have hxk:=HTK.out _ (List.getElem_mem hqT)
         have HTQ:=hide (show (T.take (q+1)).flatMap pairV=(T.take q).flatMap pairV++pairV T[q] by rw[List.take_succ_eq_append_getElem hqT,List.flatMap_append];simp)
         rw[hkq] at d1
         obtain ⟨xy,hxy⟩:∃ xy,T[q]=xy:=⟨_,rfl⟩
         rw[hxy] at d1 hget hxk HTQ
         obtain ⟨x,y⟩:=xy
         simp only at d1 hget hxk
         have hxm:x.length≤maxLen:=by unfold maxLen;omega
         have hM2:=HT6.out.below HBQ.out
         have hlk:=hM2.drew.look Tryz.underlying139 (zero_file _) x hxm
         have hlk2:=hM2.look Tryz.underlying139 (zero_file _) x hxm
         rw[Hv.fileM_get,hget] at hlk hlk2
         simp only[Option.map_some,Option.getD_some,Hv.fileV] at hlk hlk2
         have hfd:=field_text y.toArray
         obtain ⟨ys,hys⟩:∃ ys,(T.take q).flatMap pairV=ys:=⟨_,rfl⟩
         have HYS:=hide hys
         have HO:=hide ((show wr.ownsRow w6.heap.size 71 2 (.slice lo q lc) q ys by rw[← hys];exact HIQ.out).alloc (.cells #[.string ⟨x.toArray⟩, .string ⟨y.toArray⟩] 71))
         have HLB:=hide (fun z (e:(Value.slice lo q lc).ownBlock=some z)=>(HIQ.out.lt z e).1)
         have hgb:=HBQ.out.size
         clear hv2 q1 hget hxy hkq hys hM2
         go_wp2_with (first
           | (at_builtin;refine wpList_append_own_at _ rfl _ _ 68 rfl w6.heap.size 71 j0 (.agg #[.string ByteArray.empty, .string ByteArray.empty]) 2 32 Tryz.underlying68 hj0 hj1 hj2 hj3 rfl (by decide) _ _ _ rfl HO.out ⟨wr.heap.size,0,none⟩ 1 1 [.string ⟨x.toArray⟩, .string ⟨y.toArray⟩] rfl rfl (cell_two_new _ _ _ _) (fun x hx=>by simp at hx;rcases hx with rfl | rfl<;>rfl) (by unfold maxLen;omega) (by omega) (by simp;omega) ?_;intro v' w8 hown' hgrow8 hnil8 hat8;obtain ⟨gv,cv,rfl⟩:=own_form hown' (by omega);have O8:=hide hown';have G8:=hide hgrow8;clear hown' hgrow8 hnil8 hat8))
         have HB8:Hid (Below w6.heap.size w6 w8):=hide ((HBQ.out.alloc hgb (.cells #[.string ⟨x.toArray⟩, .string ⟨y.toArray⟩] 71)).grown G8.out (by simp;omega) (fun z hz=>HLB.out z hz))
         have HO8:Hid (w8.ownsRow w6.heap.size 71 2 (.slice (some ⟨gv,0,none⟩) (q+1) cv) (q+1) ((T.take (q+1)).flatMap pairV)):=hide (by rw[HTQ.out,HYS.out];exact O8.out)
         clear O8 G8
         go_roundw
         case rel=>exact ⟨q+1,_,cv,by omega,rfl,by go_num,HO8,HB8⟩
         case measure=>simp[intOf];omega
       · obtain rfl:q=ng:=by omega
         have b3 : ¬ (q:Int)<(q:Int):=by omega
         go_wp2_with fail
         go_ret
         have hs1:=HBX.out.size
         refine ⟨_,rfl,?_,HBX.out.trans (HBQ.out.mono hs1)⟩
         have h:=own_base HIQ.out hs1
         rw[List.take_of_length_le (by have:=HNG.out;omega)] at h
         rw[HTE.out,HNG.out]
         exact h
theorem epacks_any {C N:Nat→Prop} (eb sb mb pm fm db n a b c:Nat) (h:S) (d:Dk) (P:VM Value) (D:VM Hv.PD) (G:VM S) (sv im km:Value) (dn:Nat) (hDl:D.length≤12) (hDF:DFine D) (w:World) (he:EngS C N eb sb mb pm fm db n a b c h d P D G sv im km dn w) :
   Calls Tryz.prog 21 #[.pointer (some ⟨eb,0,none⟩)] w fun e w'=>∃ v,e = .returned v∧w'.ownsRow w.heap.size 41 3 v D.length (D.flatMap pkgV)∧Below w.heap.size w w':=by
 obtain ⟨e0,e1, -⟩:=he.eng.cells
 have HL:=hide (list_any mb pm fm P (Hv.fileM G) D N (by omega) hDF.named w he.mach he.pk)
 clear he
 go_enter Tryz.func21,Tryz.ntmps21
 go_wp2_with fail
 refine HL.out.mono ?_
 rintro e w1 ⟨v,rfl,hr,hb1⟩
 have HR:=hide hr;have HB1:=hide hb1
 clear hr hb1
 go_wp2_with fail
 go_ret
 exact ⟨v,rfl,HR.out,HB1.out⟩
theorem etree_any {C N:Nat→Prop} (eb sb mb pm fm db n a b c:Nat) (h:S) (d:Dk) (P:VM Value) (D:VM Hv.PD) (G:VM S) (sv im km:Value) (dn:Nat) (hDl:D.length≤12) (hDF:DFine D) (hG:G.length≤16) (hK:Hv.GK G) (w:World) (he:EngS C N eb sb mb pm fm db n a b c h d P D G sv im km dn w) :
   Calls Tryz.prog 41 #[.pointer (some ⟨eb,0,none⟩)] w fun e w'=>∃ v,e = .returned v∧w'.ownsRow w.heap.size 71 2 v (Hv.treeD D G).length ((Hv.treeD D G).flatMap pairV)∧Below w.heap.size w w':=by
 obtain ⟨e0,e1, -⟩:=he.eng.cells
 have HL:=hide (tree_any mb pm fm P D G N (by omega) hDF.named (by omega) hK w he.mach he.pk)
 clear he
 go_enter Tryz.func41,Tryz.ntmps41
 go_wp2_with fail
 refine HL.out.mono ?_
 rintro e w1 ⟨v,rfl,hr,hb1⟩
 have HR:=hide hr;have HB1:=hide hb1
 clear hr hb1
 go_wp2_with fail
 go_ret
 exact ⟨v,rfl,HR.out,HB1.out⟩
end
end Go.Proofs.YtialenebfcnkkaaGreatDoor
