/- RecW3, EngW4, DoW4, EngW5, EngW6, EngW7, EngW8 -/
import Derived.Test.YtialenebfcnkkaaGreatDoorOrdJ26
import Derived.Test.YtialenebfcnkkaaGreatDoorOrdJ11
import Derived.Test.YtialenebfcnkkaaGreatDoorOrdJ25
set_option maxHeartbeats 4000000
set_option maxRecDepth 100000
namespace Go.Proofs.YtialenebfcnkkaaGreatDoor
section
open Go.RowKit
open Hv (S Dk VM)
structure rP (B:Nat) (va vf vi:Value) (l:S) (w wr:World):Prop where
 box:wr.heap[B]? = some (.cells #[va,vf,vi] 98 (0,0))
 bld:XF (B+1) (B+1) l wr
 bA:Below B w wr
 size:B+2≤wr.heap.size
 base:Base wr
theorem rP.part {B:Nat} {va vf vi:Value} {l l':S} {w wr w':World} (h:rP B va vf vi l w wr) (hG:12≤B) (hb:XF (B+1) (B+1) l' w') (hbl:Below (B+1) wr w'):rP B va vf vi l' w w' :=
 ⟨(hbl.block B (by omega)).trans h.box,hb,h.bA.trans (hbl.mono (by omega)),Nat.le_trans h.size hbl.size,h.base.below hbl (by omega)⟩
theorem rP.below {B:Nat} {va vf vi:Value} {l:S} {w wr w':World} (h:rP B va vf vi l w wr) (hb:Below wr.heap.size wr w'):rP B va vf vi l w w' :=
 ⟨(hb.block B (blt h.box)).trans h.box,DW h.bld hb,h.bA.trans (hb.mono (by have:=h.size;omega)),Nat.le_trans h.size hb.size,h.base.below hb h.base.size⟩
theorem uL:∀ (ts:List S) (m:Nat),(∀ x∈ts,x.length≤m)→(ts.map List.length).sum≤ts.length*m
 | [],m,_=>by simp
 | x::ts,m,h=>by
   have h1:=uL ts m (fun y hy=>h y (by simp[hy]))
   have h2:=h x (by simp)
   simp only[List.map_cons,List.sum_cons,List.length_cons,Nat.add_mul]
   omega
theorem RD (ts:List S) (h:ts.length≤100∧∀ x∈ts,x.length≤100000) (k:Nat):(Hv.lN (ts.take k)).length≤100000000:=by
 have h1:=Hv.Am (ts.take k) (fun x hx=>by have:=h.2 x (List.mem_of_mem_take hx);omega)
 have h2:((ts.take k).map List.length).sum≤(ts.take k).length*100000:=uL (ts.take k) 100000 (fun x hx=>h.2 x (List.mem_of_mem_take hx))
 have h3:(ts.take k).length≤100:=by rw[List.length_take];omega
 have h4:(ts.take k).length*100000≤100*100000:=Nat.mul_le_mul_right _ h3
 omega
theorem Oh (ts:List S) (h:ts.length≤100∧∀ x∈ts,x.length≤100000):(Hv.lN ts).length≤10100000:=by
 have h1:=Hv.Am ts (fun x hx=>by have:=h.2 x hx;omega)
 have h2:=uL ts 100000 h.2
 have h4:ts.length*100000≤100*100000:=Nat.mul_le_mul_right _ h.1
 omega
theorem Ig (fs:List (S × S)) (h:fs.length≤100∧∀ f∈fs,f.1.length≤100∧f.2.length≤100000) (k:Nat):(Hv.jL (fs.take k)).length≤10100000:=by
 have key:∀ gs:List (S × S),(∀ f∈gs,f.1.length≤100∧f.2.length≤100000)→(Hv.jL gs).length≤gs.length*100200:=by
   intro gs
   induction gs with
   | nil=>intro _;simp[Hv.jL]
   | cons f gs ih =>
     intro hg
     have h1:=ih (fun y hy=>hg y (by simp[hy]))
     have h2:=hg f (by simp)
     have h3:=Hv.qF (Hv.sO++f.1) f.2 (by omega)
     have h4:Hv.sO.length=5:=rfl
     simp only[Hv.jL,List.flatMap_cons,List.length_append,List.length_cons,Nat.add_mul] at *
     omega
 have h1:=key (fs.take k) (fun f hf=>h.2 f (List.mem_of_mem_take hf))
 have h3:(fs.take k).length≤100:=by rw[List.length_take];omega
 have h4:(fs.take k).length*100200≤100*100200:=Nat.mul_le_mul_right _ h3
 omega
theorem SQ (ts:List S) (h:ts.length≤100∧∀ x∈ts,x.length≤100000) (k:Nat):(Hv.lW (ts.take k)).length≤10100000:=by
 have h1:=Hv.Iy (ts.take k) (fun x hx=>by have:=h.2 x (List.mem_of_mem_take hx);omega)
 have h2:((ts.take k).map List.length).sum≤(ts.take k).length*100000:=uL (ts.take k) 100000 (fun x hx=>h.2 x (List.mem_of_mem_take hx))
 have h3:(ts.take k).length≤100:=by rw[List.length_take];omega
 have h4:(ts.take k).length*100000≤100*100000:=Nat.mul_le_mul_right _ h3
 omega
theorem H8 (va vf vi:Value) (ts:List S) (fs:List (S × S)) (xs:List S) (hts:ts.length≤100∧∀ x∈ts,x.length≤100000) (hfs:fs.length≤100∧∀ f∈fs,f.1.length≤100∧f.2.length≤100000) (hxs:xs.length≤100∧∀ x∈xs,x.length≤100000) (w:World) (hb:Base w) (h1:w.ownsRow 0 9 1 va ts.length (ts.map aO)) (h2:w.ownsRow 0 71 2 vf fs.length (fs.flatMap cB)) (h3:Reads w vi xs) :
   Calls Tryz.prog 36 #[.agg #[va,vf,vi]] w fun e w'=>e = .returned (.string ⟨(Hv.lN ts++Hv.jL fs++Hv.lW xs).toArray⟩)∧Below w.heap.size w w':=by
 obtain ⟨aa,ac,rfl⟩:=slice_form h1
 obtain ⟨fa,fc,rfl⟩:=slice_form h2
 obtain ⟨ia,ic,rfl, -⟩:=h3.form
 have H1:=hide h1;have H2:=hide h2;have H3:=hide h3;have HT:=hide hts;have HF:=hide hfs;have HX:=hide hxs;have iT:=hide hb
 have hG:=hb.size
 clear h1 h2 h3 hts hfs hxs hb
 go_enter Tryz.func36,Tryz.ntmps36
 have hb0:=(Below.refl w.heap.size w).alloc (Nat.le_refl _) (.cells #[.slice aa ts.length ac, .slice fa fs.length fc, .slice ia xs.length ic] 98)
 have hs0:(w.alloc (.cells #[.slice aa ts.length ac, .slice fa fs.length fc, .slice ia xs.length ic] 98)).heap.size=w.heap.size+1:=by simp
 have hb1:=hb0.alloc (by simp) (.cells #[.pointer none, .slice none 0 0] 168)
 have hs1:((w.alloc (.cells #[.slice aa ts.length ac, .slice fa fs.length fc, .slice ia xs.length ic] 98)).alloc (.cells #[.pointer none, .slice none 0 0] 168)).heap.size=w.heap.size+2:=by simp
 have hr0:=(Below.heap_alloc (w.alloc (.cells #[.slice aa ts.length ac, .slice fa fs.length fc, .slice ia xs.length ic] 98)) (.cells #[.pointer none, .slice none 0 0] 168) w.heap.size (by simp)).trans (heap_alloc_new w (.cells #[.slice aa ts.length ac, .slice fa fs.length fc, .slice ia xs.length ic] 98))
 have hr1:=heap_alloc_new (w.alloc (.cells #[.slice aa ts.length ac, .slice fa fs.length fc, .slice ia xs.length ic] 98)) (.cells #[.pointer none, .slice none 0 0] 168)
 rw[hs0] at hr1
 have HI0:Hid (rP w.heap.size (.slice aa ts.length ac) (.slice fa fs.length fc) (.slice ia xs.length ic) [] w ((w.alloc (.cells #[.slice aa ts.length ac, .slice fa fs.length fc, .slice ia xs.length ic] 98)).alloc (.cells #[.pointer none, .slice none 0 0] 168))):=hide
   ⟨hr0, .inl ⟨Nat.le_refl _,_,hr1,World.ownsRow_nil _ _ _ _,by simp[Value.ownBlock]⟩,hb1,by omega,iT.out.below hb1 (by omega)⟩
 clear hb0 hs0 hb1 hr0 hr1
 go_wp2_with fail
 obtain ⟨u,hu⟩:∃ u,(w.alloc (.cells #[.slice aa ts.length ac, .slice fa fs.length fc, .slice ia xs.length ic] 98)).alloc (.cells #[.pointer none, .slice none 0 0] 168)=u:=⟨_,rfl⟩
 rw[hu] at HI0 hs1 ⊢
 obtain ⟨B,hB⟩:∃ B,w.heap.size=B:=⟨_,rfl⟩
 rw[hB] at HI0 hs1 hG ⊢
 have pV:=hide hB
 obtain ⟨nt,hnt⟩:∃ nt,ts.length=nt:=⟨_,rfl⟩
 obtain ⟨nf,hnf⟩:∃ nf,fs.length=nf:=⟨_,rfl⟩
 obtain ⟨nx,hnx⟩:∃ nx,xs.length=nx:=⟨_,rfl⟩
 have HNT:=hide hnt;have YP:=hide hnf;have Ri:=hide hnx
 rw[hnt,hnf,hnx] at HI0 ⊢
 have aem:nt≤100:=by have:=HT.out.1;omega
 have aej:nf≤100:=by have:=HF.out.1;omega
 have aen:nx≤100:=by have:=HX.out.1;omega
 clear hu hB hnt hnf hnx
 go_loopw [13] (fun i wr=>∃ k:Nat,k≤nt∧i = .int .i64 (k:Int)∧Hid (rP B (.slice aa nt ac) (.slice fa nf fc) (.slice ia nx ic) (Hv.lN (ts.take k)) w wr)) (fun i _=>nt-(intOf i).toNat)
 case atStart=>exact ⟨0,Nat.zero_le _,rfl,HI0⟩
 case round =>
   clear HI0
   obtain ⟨k,hk,rfl,HI⟩:=hrel
   by_cases hlt:k<nt
   · have b1:(k:Int)<(nt:Int):=by omega
     have hkl:k<ts.length:=by have:=HNT.out;omega
     obtain ⟨g,c',hv2,hg,q1⟩:=gF H1.out hkl
     obtain rfl:aa=some ⟨g,0,none⟩:=(Value.slice.inj hv2).1
     have d1:=(HI.out.bA.cell (p:=⟨g,k,none⟩) (show g<B by have:=pV.out;omega)).trans q1
     have hxl:=HT.out.2 _ (List.getElem_mem hkl)
     have hT:Hv.lN (ts.take (k+1))=Hv.lN (ts.take k)++Hv.ny Hv.qM ts[k]:=by
       unfold Hv.lN
       rw[List.take_succ_eq_append_getElem hkl,List.flatMap_append]
       simp only[List.flatMap_cons,List.flatMap_nil,List.append_nil]
     have VT:=hide hT
     have hpre:=RD ts HT.out k
     have hsz:=HI.out.size
     obtain ⟨x,hx⟩:∃ x,ts[k]=x:=⟨_,rfl⟩
     rw[hx] at d1 hxl VT
     have YS:=hide (BU (B+1) (B+1) (Hv.lN (ts.take k)) Hv.qM x (by decide) (by omega) hpre wr HI.out.base HI.out.bld (by omega))
     clear hv2 q1 hT hx hpre
     go_wp2_with fail
     refine YS.out.mono ?_
     rintro e w2 ⟨u2,rfl,hbd,hbl⟩
     have HI2:Hid (rP B (.slice (some ⟨g,0,none⟩) nt ac) (.slice fa nf fc) (.slice ia nx ic) (Hv.lN (ts.take (k+1))) w w2):=hide (by rw[VT.out];exact HI.out.part hG hbd hbl)
     clear hbd hbl
     go_wp2_with fail
     go_roundw
     case rel=>exact ⟨k+1,by omega,by go_num,HI2⟩
     case measure=>simp[intOf];omega
   · obtain rfl:k=nt:=by omega
     have b1 : ¬ (k:Int)<(k:Int):=by omega
     have HIA:Hid (rP B (.slice aa k ac) (.slice fa nf fc) (.slice ia nx ic) (Hv.lN ts) w wr):=hide (by
       have h:=HI.out
       rwa [List.take_of_length_le (by have:=HNT.out;omega)] at h)
     have hbx:=HI.out.box
     have r1:=(ah hbx 1).trans (show _=some (.slice fa nf fc) from rfl)
     clear hbx HI
     go_wp2_with fail
     clear r1
     obtain ⟨L1,hL1⟩:∃ L1,Hv.lN ts=L1:=⟨_,rfl⟩
     have Gi:=hide hL1
     have hl1:L1.length≤10100000:=by rw[← hL1];exact Oh ts HT.out
     rw[hL1] at HIA
     clear hL1
     go_loopw [23] (fun i wr=>∃ q:Nat,q≤nf∧i = .int .i64 (q:Int)∧Hid (rP B (.slice aa k ac) (.slice fa nf fc) (.slice ia nx ic) (L1++Hv.jL (fs.take q)) w wr)) (fun i _=>nf-(intOf i).toNat)
     case atStart=>exact ⟨0,Nat.zero_le _,rfl,by simpa [Hv.jL] using HIA⟩
     case round =>
       clear HIA
       obtain ⟨q,hq,rfl,HI⟩:=hrel
       by_cases hlt2:q<nf
       · have b2:(q:Int)<(nf:Int):=by omega
         have WE:q<fs.length:=by have:=YP.out;omega
         obtain ⟨g,c',hv2,hg,q1,q2⟩:=mg H2.out WE
         obtain rfl:fa=some ⟨g,0,none⟩:=(Value.slice.inj hv2).1
         have d1:=(HI.out.bA.cell (p:=⟨g,q*2,none⟩) (show g<B by have:=pV.out;omega)).trans q1
         have d2:=(HI.out.bA.cell (p:=⟨g,q*2+1,none⟩) (show g<B by have:=pV.out;omega)).trans q2
         have hxl:=HF.out.2 _ (List.getElem_mem WE)
         have hT:Hv.jL (fs.take (q+1))=Hv.jL (fs.take q)++Hv.ny (Hv.sO++fs[q].1) fs[q].2:=by
           unfold Hv.jL
           rw[List.take_succ_eq_append_getElem WE,List.flatMap_append]
           simp only[List.flatMap_cons,List.flatMap_nil,List.append_nil]
         have VT:=hide hT
         have hpre:=Ig fs HF.out q
         have hsz:=HI.out.size
         obtain ⟨xy,hxy⟩:∃ xy,fs[q]=xy:=⟨_,rfl⟩
         rw[hxy] at d1 d2 hxl VT
         obtain ⟨x,y⟩:=xy
         simp only at d1 d2 hxl VT
         have hb3:=(Below.refl wr.heap.size wr).alloc (Nat.le_refl _) (.cells #[.string ⟨x.toArray⟩, .string ⟨y.toArray⟩] 71)
         have HI3:=hide (HI.out.below hb3)
         have abV:(wr.alloc (.cells #[.string ⟨x.toArray⟩, .string ⟨y.toArray⟩] 71)).heap.size=wr.heap.size+1:=by simp
         have YS:=hide (BU (B+1) (B+1) (L1++Hv.jL (fs.take q)) (Hv.sO++x) y (by rw[List.length_append];have:Hv.sO.length=5:=rfl;omega) (by omega) (by rw[List.length_append];omega) _ HI3.out.base HI3.out.bld (by omega))
         have Y6:Hid ((⟨#[102,105,108,101,32]⟩:ByteArray)++⟨x.toArray⟩=⟨(Hv.sO++x).toArray⟩):=hide (pq Hv.sO x)
         have j1 : ¬ 9223372036854775807<5+x.length:=by omega
         clear hv2 q1 q2 hT hxy hpre hb3
         go_wp2_with fail
         rw[Y6.out]
         refine YS.out.mono ?_
         rintro e w2 ⟨u2,rfl,hbd,hbl⟩
         have HI4:Hid (rP B (.slice aa k ac) (.slice (some ⟨g,0,none⟩) nf fc) (.slice ia nx ic) (L1++Hv.jL (fs.take (q+1))) w w2):=hide (by rw[VT.out,← List.append_assoc];exact HI3.out.part hG hbd hbl)
         clear hbd hbl abV
         go_wp2_with fail
         go_roundw
         case rel=>exact ⟨q+1,by omega,by go_num,HI4⟩
         case measure=>simp[intOf];omega
       · obtain rfl:q=nf:=by omega
         have b2 : ¬ (q:Int)<(q:Int):=by omega
         have HIB:Hid (rP B (.slice aa k ac) (.slice fa q fc) (.slice ia nx ic) (L1++Hv.jL fs) w wr):=hide (by
           have h:=HI.out
           rwa [List.take_of_length_le (by have:=YP.out;omega)] at h)
         have hbx:=HI.out.box
         have r2:=(ah hbx 2).trans (show _=some (.slice ia nx ic) from rfl)
         clear hbx HI
         go_wp2_with fail
         clear r2
         obtain ⟨L2,hL2⟩:∃ L2,L1++Hv.jL fs=L2:=⟨_,rfl⟩
         have HL2:=hide hL2
         have hl2:L2.length≤20200000:=by
           rw[← hL2,List.length_append]
           have:=Ig fs HF.out fs.length
           rw[List.take_length] at this
           omega
         rw[hL2] at HIB
         clear hL2
         go_loopw [37] (fun i wr=>∃ z:Nat,z≤nx∧i = .int .i64 (z:Int)∧Hid (rP B (.slice aa k ac) (.slice fa q fc) (.slice ia nx ic) (L2++Hv.lW (xs.take z)) w wr)) (fun i _=>nx-(intOf i).toNat)
         case atStart=>exact ⟨0,Nat.zero_le _,rfl,by simpa [Hv.lW] using HIB⟩
         case round =>
           clear HIB
           obtain ⟨z,hz,rfl,HI⟩:=hrel
           by_cases hlt3:z<nx
           · have b3:(z:Int)<(nx:Int):=by omega
             have hzl:z<xs.length:=by have:=Ri.out;omega
             obtain ⟨a',c',hv2,hcell⟩:=H3.out.form
             obtain ⟨g,hga,hg,q1⟩:=hcell z _ (List.getElem?_eq_getElem hzl)
             obtain rfl:ia=some ⟨g,0,none⟩:=(Value.slice.inj hv2).1.trans hga
             have d1:=(HI.out.bA.cell (p:=⟨g,z,none⟩) (show g<B by have:=pV.out;omega)).trans q1
             have hxl:=HX.out.2 _ (List.getElem_mem hzl)
             have hT:Hv.lW (xs.take (z+1))=Hv.lW (xs.take z)++Hv.ny Hv.J2 xs[z]:=by
               unfold Hv.lW
               rw[List.take_succ_eq_append_getElem hzl,List.flatMap_append]
               simp only[List.flatMap_cons,List.flatMap_nil,List.append_nil]
             have VT:=hide hT
             have hpre:=SQ xs HX.out z
             have hsz:=HI.out.size
             obtain ⟨x,hx⟩:∃ x,xs[z]=x:=⟨_,rfl⟩
             rw[hx] at d1 hxl VT
             have YS:=hide (BU (B+1) (B+1) (L2++Hv.lW (xs.take z)) Hv.J2 x (by decide) (by omega) (by rw[List.length_append];omega) wr HI.out.base HI.out.bld (by omega))
             clear hv2 q1 hT hx hpre hcell hga
             go_wp2_with fail
             refine YS.out.mono ?_
             rintro e w2 ⟨u2,rfl,hbd,hbl⟩
             have HI4:Hid (rP B (.slice aa k ac) (.slice fa q fc) (.slice (some ⟨g,0,none⟩) nx ic) (L2++Hv.lW (xs.take (z+1))) w w2):=hide (by rw[VT.out,← List.append_assoc];exact HI.out.part hG hbd hbl)
             clear hbd hbl
             go_wp2_with fail
             go_roundw
             case rel=>exact ⟨z+1,by omega,by go_num,HI4⟩
             case measure=>simp[intOf];omega
           · obtain rfl:z=nx:=by omega
             have b3 : ¬ (z:Int)<(z:Int):=by omega
             have HIC:Hid (rP B (.slice aa k ac) (.slice fa q fc) (.slice ia z ic) (L2++Hv.lW xs) w wr):=hide (by
               have h:=HI.out
               rwa [List.take_of_length_le (by have:=Ri.out;omega)] at h)
             have hsz:=HI.out.size
             clear HI
             go_wp2_with fail
             refine (Tryz.Builder_String_any (B+1) (B+1) (L2++Hv.lW xs) wr HIC.out.bld (by omega)).mono ?_
             rintro e w9 ⟨rfl,ZL⟩
             have HB9:=hide (HIC.out.bA.trans (ZL.mono (by omega)))
             clear ZL
             go_wp2_with fail
             go_ret
             exact ⟨by rw[← HL2.out,← Gi.out];rfl,by rw[pV.out];exact HB9.out⟩
end
section
open Go.RowKit
open aH (St gH)
open Hv (S Dk VM)
structure dY (C N:Nat→Prop) (eb sb mb pm fm db n a b c:Nat) (h:S) (d:Dk) (P:VM Value) (D:VM Hv.PD) (G:VM S) (sv im km:Value) (dn:Nat) (w:World):Prop where
 dR:pJ eb (.pointer (some ⟨sb,0,none⟩)) (.pointer (some ⟨mb,0,none⟩)) sv im km (.int .i64 dn) w
 st:aY sb db n a b c h w
 iM:aK mb pm fm P (Hv.aS G) w
 pk:dA N w D P
 dk:bI C db d w
 off : ¬ C eb ∧ ¬ C sb ∧ ¬ C mb ∧ ¬ C pm ∧ ¬ C fm
 apart:eb≠sb∧eb≠mb∧eb≠pm∧eb≠fm∧sb≠mb∧sb≠pm∧sb≠fm
 rows:∀ g,N g→g<w.heap.size ∧ ¬ C g∧g≠eb∧g≠sb
 base:Base w
 low:12≤eb∧12≤sb∧12≤pm∧12≤fm∧∀ k,C k→12≤k
theorem dY.below {C N:Nat→Prop} {eb sb mb pm fm db n a b c dn:Nat} {h:S} {d:Dk} {P:VM Value} {D:VM Hv.PD} {G:VM S} {sv im km:Value} {w w':World} (e:dY C N eb sb mb pm fm db n a b c h d P D G sv im km dn w) (hb:Below w.heap.size w w'):dY C N eb sb mb pm fm db n a b c h d P D G sv im km dn w' :=
 ⟨e.dR.kept (hb.block eb (blt e.dR)),e.st.below hb,e.iM.below hb,e.pk.below hb,e.dk.below hb,e.off,e.apart,fun g hg=>⟨Nat.lt_of_lt_of_le (e.rows g hg).1 hb.size,(e.rows g hg).2⟩,e.base.below hb e.base.size,e.low⟩
def dZ (C:Nat→Prop) (eb sb pm fm:Nat) (k:Nat):Prop:=C k∨k=eb∨k=sb∨k=pm∨k=fm
theorem QF (eb:Nat) (s m:Value) (sa:Option Addr) (ns sc im km:Nat) (dn:Value) (w:World) (h:pJ eb s m (.slice sa ns sc) (.map (some im)) (.map (some km)) dn w) :
   Calls Tryz.prog 31 #[.pointer (some ⟨eb,0,none⟩)] w fun e w'=>e = .returned (.bool (decide ((0:Int)<ns)))∧Below w.heap.size w w':=by
 obtain ⟨e0,e1,e2,e3,e4,e5⟩:=h.cells
 clear h
 go_enter Tryz.func31,Tryz.ntmps31
 go_wp2_with fail
 refine (kE sa ns sc im km w).mono ?_
 rintro e w1 ⟨rfl,hb1⟩
 have HB1:=hide hb1
 clear hb1
 go_wp2_with fail
 go_ret
 exact ⟨by simp,HB1.out⟩
theorem Cz (eb:Nat) (s m dn:Value) (w:World) (h:pJ eb s m (.slice none 0 0) (.map none) (.map none) dn w) :
   Calls Tryz.prog 31 #[.pointer (some ⟨eb,0,none⟩)] w fun e w'=>e = .returned (.bool false)∧Below w.heap.size w w':=by
 obtain ⟨e0,e1,e2,e3,e4,e5⟩:=h.cells
 clear h
 go_enter Tryz.func31,Tryz.ntmps31
 go_wp2_with fail
 refine (F3 w).mono ?_
 rintro e w1 ⟨rfl,hb1⟩
 have HB1:=hide hb1
 clear hb1
 go_wp2_with fail
 go_ret
 exact ⟨rfl,HB1.out⟩
end
section
open Go.RowKit
open aH (St gH)
open Hv (S VM)
structure d9 (M:Nat→Prop) (pl:Hv.Plan) (sv:Value) (im km:Nat) (w:World):Prop where
 row:w.ownsRow 0 285 2 sv pl.steps.length (pl.steps.flatMap mG)
 aaq:∀ g,sv.ownBlock=some g→M g
 ins:∃ I,MapAt w im I∧dA M w pl.ins I
 cO:∃ K,MapAt w km K∧kL M w pl.cO K
 ge:M im∧M km
theorem kL.within {N N':Nat→Prop} {w:World} {D:VM (List S)} {E:VM Value} (h:kL N w D E) (hn:∀ g,N g→g<w.heap.size→N' g):kL N' w D E:=by
 have hr:∀ d v,Kq N w d v→Kq N' w d v:=fun d v q=>⟨q.1,fun g hg=>hn g (q.2 g hg) (q.1.lt g hg).2⟩
 exact ⟨h.dU,fun k v q=>(h.nD k v q).imp fun _ a=>⟨a.1,hr _ _ a.2⟩,fun k v q=>(h.wZ k v q).imp fun _ a=>⟨a.1,hr _ _ a.2⟩⟩
theorem gB.inside {B:Nat} {pl:Hv.Plan} {sv:Value} {im km:Nat} {w:World} (h:gB B pl sv im km w):d9 (fun g=>B≤g∧g<w.heap.size) pl sv im km w:=by
 obtain ⟨I,i1,i2⟩:=h.ins
 obtain ⟨K,k1,k2⟩:=h.cO
 exact ⟨⟨h.row.1,h.row.2.imp_right fun ⟨g,cap,cur,a,_,c⟩=>⟨g,cap,cur,a,Nat.zero_le _,c⟩⟩,fun g hg=>h.row.lt g hg,⟨I,i1,i2.within fun g a b=>⟨a,b⟩⟩,⟨K,k1,k2.within fun g a b=>⟨a,b⟩⟩,⟨h.ge.1,i1.lt⟩,⟨h.ge.2,k1.lt⟩⟩
theorem d9.far {M C:Nat→Prop} {pl:Hv.Plan} {sv:Value} {im km:Nat} {w w':World} {B:Nat} (h:d9 M pl sv im km w) (hf:aQ B C w w') (hB:w.heap.size≤B) (hC:∀ g,M g → ¬ C g):d9 M pl sv im km w':=by
 obtain ⟨I,i1,i2⟩:=h.ins
 obtain ⟨K,k1,k2⟩:=h.cO
 exact ⟨bR h.row (fun g hg=>hf.block g (by have:=(h.row.lt g hg).2;omega) (hC g (h.aaq g hg))),h.aaq,⟨I,i1.far hf hB (hC _ h.ge.1),i2.far hf hB (fun g _ hg=>hC g hg)⟩,⟨K,k1.far hf hB (hC _ h.ge.2),k2.far hf hB (fun g _ hg=>hC g hg)⟩,h.ge⟩
theorem d9.below {M:Nat→Prop} {pl:Hv.Plan} {sv:Value} {im km:Nat} {w w':World} (h:d9 M pl sv im km w) (hb:Below w.heap.size w w'):d9 M pl sv im km w' :=
 h.far (aQ.of (C:=fun _=>False) hb (Nat.le_refl _)) (Nat.le_refl _) (fun _ _ q=>q)
theorem aal (mb pm fm:Nat) (P:VM Value) (D:VM Hv.PD) (G:VM S) (N M:Nat→Prop) (pl:Hv.Plan) (sv:Value) (im km:Nat) (n:Nat) (hn:n<pl.steps.length) (hok:Hv.tq pl D pl.steps[n]) (hks:pl.steps[n].2.length≤maxLen) (sF:P.length≤1000) (hG:G.length≤1000) (L:Nat) (hL:L≤1000000) (hS:Hv.Short L G) (hDB:oD L D) (K6:jF L pl.cO) (w:World) (h:aK mb pm fm P (Hv.aS G) w) (hP:dA N w D P) (hpl:d9 M pl sv im km w) (hN:∀ g,M g→N g) (hkm : ¬ km=fm) :
   Calls Tryz.prog 132 #[.agg #[sv, .map (some im), .map (some km)], .int .i64 n, .pointer (some ⟨mb,0,none⟩)] w (wR mb pm fm (Hv.aG pl (D,G) pl.steps[n]) N w):=by
 obtain ⟨g,c,rfl,hg,q1,q2⟩:=JL hpl.row hn
 obtain ⟨I,i1,i2⟩:=hpl.ins
 obtain ⟨K,k1,k2⟩:=hpl.cO
 obtain ⟨⟨k,x⟩,hs⟩:∃ s,pl.steps[n]=s:=⟨_,rfl⟩
 rw[hs] at q1 q2 hok hks ⊢
 simp only at q1 q2 hks
 rcases hok with e | ⟨e,hi⟩ | ⟨e,hd⟩
 · simp only at e
   subst e
   exact Je mb pm fm P D G N g n _ c im km hn x hks w h hP q1 q2
 · simp only at e hi
   subst e
   rw[Hv.aB] at hi
   obtain ⟨d,hd⟩:=Option.isSome_iff_exists.1 hi
   have e2:Hv.aG pl (D,G) (2,x)=(Hv.put D x d,G):=by simp[Hv.aG,hd]
   rw[e2]
   exact Ca mb pm fm P I D pl.ins G N g n _ c im km hn x hks sF d hd w h hP i1 (i2.within fun g a _=>hN g a) q1 q2
 · simp only at e hd
   rw[Hv.aB] at hd
   obtain ⟨d,hd⟩:=Option.isSome_iff_exists.1 hd
   rcases e with e | e
   · subst e
     have e2:Hv.aG pl (D,G) (3,x)=(Hv.put D x (d.to (if Hv.has K x=true then 3 else 2)),Hv.fJ D [] G d.st.runs):=by simp[Hv.aG,hd,k2.has_eq]
     rw[e2]
     exact sH mb pm fm P K D G N g n _ c im km hn x hks sF hG L hL hS hDB d hd w h hP k1 k2.Y8 hkm _ rfl q1 q2
   · subst e
     have e2:Hv.aG pl (D,G) (4,x)=(Hv.put D x (d.to 2),Hv.fJ D ((Hv.get pl.cO x).getD []) G d.st.aL):=by simp[Hv.aG,hd]
     rw[e2]
     have hb:((Hv.get pl.cO x).getD []).length≤1000∧(∀ y∈(Hv.get pl.cO x).getD [],y.length≤100)∧(bJ ((Hv.get pl.cO x).getD [])).length≤L:=by
       cases q:Hv.get pl.cO x with
       | none=>exact ⟨by simp,by simp,by simp[bJ]⟩
       | some xs=>exact K6 x xs q
     exact yZ mb pm fm P K D G N g n _ c im km hn x hks sF hG L hL hS hDB d hd w h hP pl.cO _ k1 k2 _ rfl hb.1 hb.2.1 hb.2.2 q1 q2
end
section
open Go.RowKit
open aH (St gH)
open Hv (S Dk VM)
theorem dY.Kc {C N:Nat→Prop} {eb sb mb pm fm db n a b c dn:Nat} {h:S} {d:Dk} {P P':VM Value} {D D':VM Hv.PD} {G G':VM S} {sv im km:Value} {w w':World} (e:dY C N eb sb mb pm fm db n a b c h d P D G sv im km dn w) (hm:aK mb pm fm P' (Hv.aS G') w') (hp:dA N w' D' P') (hf:aQ w.heap.size (fun q=>q=pm∨q=fm) w w'):dY C N eb sb mb pm fm db n a b c h d P' D' G' sv im km dn w':=by
 obtain ⟨o1,o2,o3,o4,o5⟩:=e.off
 obtain ⟨a1,a2,a3,a4,a5,a6,a7⟩:=e.apart
 refine ⟨e.dR.kept (hf.block eb (blt e.dR) (by omega)),e.st.far hf (Nat.le_refl _) (by omega),hm,hp,e.dk.far hf (Nat.le_refl _) (fun k hk q => ?_),e.off,e.apart,fun g hg=>⟨Nat.lt_of_lt_of_le (e.rows g hg).1 hf.size,(e.rows g hg).2⟩,e.base.far hf e.base.size (fun k q => ?_),e.low⟩
 · rcases q with rfl | rfl
   · exact o4 hk
   · exact o5 hk
 · rcases q with rfl | rfl
   · exact e.low.2.2.1
   · exact e.low.2.2.2.1
theorem dY.own {C N:Nat→Prop} {eb sb mb pm fm db n a b c dn QU:Nat} {h:S} {d:Dk} {P:VM Value} {D:VM Hv.PD} {G:VM S} {sv im km sv' im' km':Value} {w w':World} (e:dY C N eb sb mb pm fm db n a b c h d P D G sv im km dn w) (he:pJ eb (.pointer (some ⟨sb,0,none⟩)) (.pointer (some ⟨mb,0,none⟩)) sv' im' km' (.int .i64 QU) w') (hf:aQ w.heap.size (fun q=>q=eb) w w'):dY C N eb sb mb pm fm db n a b c h d P D G sv' im' km' QU w':=by
 obtain ⟨o1,o2,o3,o4,o5⟩:=e.off
 obtain ⟨a1,a2,a3,a4,a5,a6,a7⟩:=e.apart
 refine ⟨he,e.st.far hf (Nat.le_refl _) (fun q=>a1 q.symm),e.iM.far hf (Nat.le_refl _) ⟨fun q=>a2 q.symm,fun q=>a3 q.symm,fun q=>a4 q.symm⟩,e.pk.far hf (Nat.le_refl _) (fun g _ hg q=>(e.rows g hg).2.2.1 q),e.dk.far hf (Nat.le_refl _) (fun k hk (q:k=eb)=>o1 (q▸hk)),e.off,e.apart,fun g hg=>⟨Nat.lt_of_lt_of_le (e.rows g hg).1 hf.size,(e.rows g hg).2⟩,e.base.far hf e.base.size (fun k (q:k=eb)=>by rw[q];exact e.low.1),e.low⟩
def nG (C:Nat→Prop) (eb sb pm fm:Nat) (M:Nat→Prop):Prop:=∀ g,M g → ¬ dZ C eb sb pm fm g
theorem Na {C N M:Nat→Prop} (eb sb mb pm fm db n a b c:Nat) (h:S) (d:Dk) (P:VM Value) (D:VM Hv.PD) (G:VM S) (sa:Option Addr) (ns sc im km dn:Nat) (pl:Hv.Plan) (hns:pl.steps.length=ns) (hn:dn<ns) (hn2:ns≤1000) (hok:Hv.tq pl D (pl.steps[dn]'(by omega))) (hks:(pl.steps[dn]'(by omega)).2.length≤12) (sF:P.length≤1000) (hG:G.length≤1000) (L:Nat) (hL:L≤1000000) (hS:Hv.Short L G) (hDB:oD L D) (K6:jF L pl.cO) (w:World) (he:dY C N eb sb mb pm fm db n a b c h d P D G (.slice sa ns sc) (.map (some im)) (.map (some km)) dn w) (hpl:d9 M pl (.slice sa ns sc) im km w) (hN:∀ g,M g→N g) (hM:nG C eb sb pm fm M) :
   Calls Tryz.prog 91 #[.pointer (some ⟨eb,0,none⟩)] w fun e w'=>∃ u P',e = .returned u∧dY C N eb sb mb pm fm db n a b c h d P' (Hv.aG pl (D,G) (pl.steps[dn]'(by omega))).1 (Hv.aG pl (D,G) (pl.steps[dn]'(by omega))).2 (.slice sa ns sc) (.map (some im)) (.map (some km)) (dn+1) w'∧d9 M pl (.slice sa ns sc) im km w'∧aQ w.heap.size (dZ C eb sb pm fm) w w':=by
 obtain ⟨e0,e1,e2,e3,e4,e5⟩:=he.dR.cells
 have hbd:=(Below.refl w.heap.size w).drew
 have HE:=hide (he.below hbd);have Rj:=hide (hpl.below hbd)
 have Vs:=hide (aal mb pm fm P D G N M pl (.slice sa ns sc) im km dn (by omega) hok (by unfold maxLen;omega) sF hG L hL hS hDB K6 w.drew HE.out.iM HE.out.pk Rj.out hN (fun q=>hM _ Rj.out.ge.2 (.inr (.inr (.inr (.inr q))))))
 obtain ⟨s,hs⟩:∃ s,Hv.aG pl (D,G) (pl.steps[dn]'(by omega))=s:=⟨_,rfl⟩
 rw[hs] at Vs ⊢
 clear he hpl hok hks hS hDB K6 hN hs hns hbd
 go_enter Tryz.func91,Tryz.ntmps91
 go_wp2_with fail
 obtain ⟨a1,a2,a3,a4,a5,a6,a7⟩:=HE.out.apart
 go_region_held3 (fun w'=>w'.cell? ⟨eb,1,none⟩=some (.pointer (some ⟨mb,0,none⟩))∧w'.cell? ⟨eb,2,none⟩=some (.slice sa ns sc)∧w'.cell? ⟨eb,3,none⟩=some (.map (some im))∧w'.cell? ⟨eb,4,none⟩=some (.map (some km))∧w'.cell? ⟨eb,5,none⟩=some (.int .i64 dn))
   (first | assumption | exact ⟨e1,e2,e3,e4,e5⟩ | exact ⟨jc.out.2.1,jc.out.2.2.1,jc.out.2.2.2.1,jc.out.2.2.2.2.1,jc.out.2.2.2.2.2⟩ | simp[go_sem, *])
   (first
     | (go_at_call 132;refine Vs.out.mono ?_;rintro e w2 ⟨u2,P',rfl,hm2,hp2,hf2⟩;have HE2:=hide (HE.out.Kc hm2 hp2 hf2);have acC:=hide (Rj.out.far hf2 (Nat.le_refl _) (fun g hg hq=>hM g hg (by rcases hq with hq | hq;exact .inr (.inr (.inr (.inl hq)));exact .inr (.inr (.inr (.inr hq))))));have iU:=hide hf2;have jc:=hide HE2.out.dR.cells;clear hm2 hp2 hf2))
 all_goals
   have g5:=ak HE2.out.dR 5
   have f5:=jc.out.2.2.2.2.2
   have he9:pJ eb (.pointer (some ⟨sb,0,none⟩)) (.pointer (some ⟨mb,0,none⟩)) (.slice sa ns sc) (.map (some im)) (.map (some km)) (.int .i64 ((dn:Int)+1)) (w2.setCell ⟨eb,5,none⟩ (.int .i64 ((dn:Int)+1))):=heap_setCell_same _ eb 5 _ _ _ HE2.out.dR
   have hfe:aQ w2.heap.size (fun q=>q=eb) w2 (w2.setCell ⟨eb,5,none⟩ (.int .i64 ((dn:Int)+1))):=(aQ.refl w2.heap.size (fun q=>q=eb) w2).setCell (p:=⟨eb,5,none⟩) (.inr rfl) _
   have zQ:=hide (HE2.out.own (QU:=dn+1) (by rw[show ((dn+1:Nat):Int)=(dn:Int)+1 by omega];exact he9) hfe)
   have YT:=hide (acC.out.far hfe (Nat.le_refl _) (fun g hg hq=>hM g hg (.inr (.inl hq))))
   have mO:Hid (aQ w.heap.size (dZ C eb sb pm fm) w (w2.setCell ⟨eb,5,none⟩ (.int .i64 ((dn:Int)+1)))):=hide ((((aQ.refl w.heap.size (dZ C eb sb pm fm) w).drew).next iU.out (Nat.le_refl _) (fun q _ hq=>by rcases hq with hq | hq;exact .inr (.inr (.inr (.inl hq)));exact .inr (.inr (.inr (.inr hq))))).next hfe (by have:=iU.out.size;exact this) (fun q _ hq => .inr (.inl hq)))
   clear he9 hfe
   have hd1:dn≤1000:=by omega
   go_wp2_with fail
   go_end0
   exact ⟨_,P',rfl,zQ.out,YT.out,mO.out⟩
namespace Hv
def bP (D:VM PD) (K:VM (List S)):VM PD:=D.map fun p=>(p.1,if has K p.1=true∧p.2.status=2 then p.2.to 3 else p.2)
end Hv
theorem MI {N:Nat→Prop} {w:World} {KD:VM (List S)} {K:VM Value} (h:kL N w KD K) (D:VM Hv.PD):Hv.woke D K=Hv.bP D KD:=by
 unfold Hv.woke Hv.ow Hv.bP
 refine List.map_congr_left fun p _ => ?_
 rw[h.has_eq]
 simp
theorem KV {C N M:Nat→Prop} (eb sb mb pm fm db n a b c:Nat) (h:S) (d:Dk) (P:VM Value) (D:VM Hv.PD) (G:VM S) (sv0 im0 km0:Value) (d0:Nat) (sa:Option Addr) (ns sc im km:Nat) (pl:Hv.Plan) (sF:P.length≤1000) (w:World) (he:dY C N eb sb mb pm fm db n a b c h d P D G sv0 im0 km0 d0 w) (hpl:d9 M pl (.slice sa ns sc) im km w) (hM:nG C eb sb pm fm M) :
   Calls Tryz.prog 38 #[.pointer (some ⟨eb,0,none⟩), .agg #[.slice sa ns sc, .map (some im), .map (some km)]] w fun e w'=>∃ u P',e = .returned u∧dY C N eb sb mb pm fm db n a b c h d P' (Hv.bP D pl.cO) G (.slice sa ns sc) (.map (some im)) (.map (some km)) 0 w'∧d9 M pl (.slice sa ns sc) im km w'∧aQ w.heap.size (dZ C eb sb pm fm) w w':=by
 obtain ⟨o1,o2,o3,o4,o5⟩:=he.off
 obtain ⟨a1,a2,a3,a4,a5,a6,a7⟩:=he.apart
 have hel:=blt he.dR
 obtain ⟨y0,y1,y2,y3,y4,y5⟩:=he.dR.cells
 have z2:=ak he.dR 2
 have z3:=ak he.dR 3
 have z4:=ak he.dR 4
 have z5:=ak he.dR 5
 have hne : ¬ w.heap.size=eb:=by omega
 have hR:=heap_setCell_same _ eb 5 _ _ (.int .i64 0) (heap_setCell_same _ eb 4 _ _ (.map (some km)) (heap_setCell_same _ eb 3 _ _ (.map (some im)) (heap_setCell_same _ eb 2 _ _ (.slice sa ns sc) he.dR)))
 have Ws:aQ w.heap.size (fun q=>q=eb) w ((((w.setCell ⟨eb,2,none⟩ (.slice sa ns sc)).setCell ⟨eb,3,none⟩ (.map (some im))).setCell ⟨eb,4,none⟩ (.map (some km))).setCell ⟨eb,5,none⟩ (.int .i64 0)):=((((aQ.refl w.heap.size (fun q=>q=eb) w).setCell (p:=⟨eb,2,none⟩) (.inr rfl) _).setCell (p:=⟨eb,3,none⟩) (.inr rfl) _).setCell (p:=⟨eb,4,none⟩) (.inr rfl) _).setCell (p:=⟨eb,5,none⟩) (.inr rfl) _
 have hE1:=he.own (QU:=0) hR Ws
 have hP1:=hpl.far Ws (Nat.le_refl _) (fun g hg hq=>hM g hg (.inr (.inl hq)))
 have hsz:((((w.setCell ⟨eb,2,none⟩ (.slice sa ns sc)).setCell ⟨eb,3,none⟩ (.map (some im))).setCell ⟨eb,4,none⟩ (.map (some km))).setCell ⟨eb,5,none⟩ (.int .i64 0)).heap.size=w.heap.size:=by simp
 have c0:=ah (heap_alloc_new w (.cells #[.slice sa ns sc, .map (some im), .map (some km)] 89)) 0
 go_enter Tryz.func38,Tryz.ntmps38
 go_wp2_with fail
 obtain ⟨v,hv⟩:∃ v,((((w.setCell ⟨eb,2,none⟩ (.slice sa ns sc)).setCell ⟨eb,3,none⟩ (.map (some im))).setCell ⟨eb,4,none⟩ (.map (some km))).setCell ⟨eb,5,none⟩ (.int .i64 0))=v:=⟨_,rfl⟩
 rw[hv] at hE1 hP1 Ws hsz ⊢
 rw[← hsz]
 have hsz':v.heap.size≤w.heap.size:=by omega
 have hsz2:w.heap.size≤v.heap.size:=by omega
 clear hv hR c0 y0 y1 y2 y3 y4 y5 z2 z3 z4 z5 hne hsz
 have hrow:=heap_alloc_new v (.cells #[.slice sa ns sc, .map (some im), .map (some km)] 89)
 have hb0:=(Below.refl v.heap.size v).alloc (Nat.le_refl _) (.cells #[.slice sa ns sc, .map (some im), .map (some km)] 89)
 have kU:=hide (hE1.below hb0)
 have jD:=hide (hP1.below hb0)
 have eO:Hid (aQ w.heap.size (dZ C eb sb pm fm) w (v.alloc (.cells #[.slice sa ns sc, .map (some im), .map (some km)] 89))):=hide ((((aQ.refl w.heap.size (dZ C eb sb pm fm) w).next Ws (Nat.le_refl _) (fun q _ hq => .inr (.inl hq)))).below hb0 hsz2)
 obtain ⟨u,hu⟩:∃ u,v.alloc (.cells #[.slice sa ns sc, .map (some im), .map (some km)] 89)=u:=⟨_,rfl⟩
 rw[hu] at hrow kU jD eO ⊢
 obtain ⟨pb,hpb⟩:∃ pb,v.heap.size=pb:=⟨_,rfl⟩
 rw[hpb] at hrow ⊢
 have c0:=(ah hrow 0).trans (show _=some (.slice sa ns sc) from rfl)
 have c1:=(ah hrow 1).trans (show _=some (.map (some im)) from rfl)
 have c2:=(ah hrow 2).trans (show _=some (.map (some km)) from rfl)
 obtain ⟨e0,e1,e2,e3,e4,e5⟩:=kU.out.dR.cells
 clear hu hpb hb0 hE1 hP1 Ws he hpl hsz' hsz2
 have hbd:=(Below.refl u.heap.size u).drew
 have HE2:=hide (kU.out.below hbd);have mP:=hide (jD.out.below hbd)
 have iU:=hide (eO.out.below hbd eO.out.size)
 have HST:Hid (Calls Tryz.prog 80 #[.agg #[.slice sa ns sc, .map (some im), .map (some km)], .pointer (some ⟨mb,0,none⟩)] u.drew fun e w'=>∃ x P',e = .returned x∧dY C N eb sb mb pm fm db n a b c h d P' (Hv.bP D pl.cO) G (.slice sa ns sc) (.map (some im)) (.map (some km)) 0 w'∧d9 M pl (.slice sa ns sc) im km w'∧aQ w.heap.size (dZ C eb sb pm fm) w w'∧w'.cell? ⟨pb,0,none⟩=some (.slice sa ns sc)∧w'.cell? ⟨pb,1,none⟩=some (.map (some im))∧w'.cell? ⟨pb,2,none⟩=some (.map (some km))∧w'.cell? ⟨eb,1,none⟩=some (.pointer (some ⟨mb,0,none⟩))):=by
   have hpm : ¬ pb=pm:=fun q=>HE2.out.iM.packs.fG _ _ _ (by rw[← q];exact hrow)
   obtain ⟨K,k1,k2⟩:=mP.out.cO
   refine hide ((Qv sa ns sc im km mb pm fm P (Hv.aS G) K D N sF k2.Y8 u.drew k1 HE2.out.iM HE2.out.pk (fun q=>hM _ mP.out.ge.2 (.inr (.inr (.inr (.inl q)))))).mono ?_)
   rintro e w2 ⟨x,P',rfl,m1,m2,m3⟩
   rw[MI k2] at m2
   have hr2:=(m3.block pb (by have:=blt hrow;exact this) hpm).trans hrow
   have m3':=m3.mono (C':=fun q=>q=pm∨q=fm) (Nat.le_refl _) (fun q _ hq => .inl hq)
   exact ⟨x,P',rfl,HE2.out.Kc m1 m2 m3',mP.out.far m3 (Nat.le_refl _) (fun g hg hq=>hM g hg (.inr (.inr (.inr (.inl hq))))),iU.out.next m3 iU.out.size (fun q _ hq => .inr (.inr (.inr (.inl hq)))),(ah hr2 0).trans rfl,(ah hr2 1).trans rfl,(ah hr2 2).trans rfl,(HE2.out.Kc m1 m2 m3').dR.cells.2.1⟩
 clear hrow hbd e0 e2 e3 e4 e5 kU jD eO HE2 mP iU
 go_region_held3 (fun w'=>w'.cell? ⟨pb,0,none⟩=some (.slice sa ns sc)∧w'.cell? ⟨pb,1,none⟩=some (.map (some im))∧w'.cell? ⟨pb,2,none⟩=some (.map (some km))∧w'.cell? ⟨eb,1,none⟩=some (.pointer (some ⟨mb,0,none⟩)) )
   (first | assumption | exact ⟨c0,c1,c2,e1⟩ | exact q4 | simp[go_sem, *])
   (first
     | (go_at_call 80;refine HST.out.mono ?_;rintro e w2 ⟨x,P',rfl,q1,q2,q3,q4⟩;have Q1:=hide q1;have Q2:=hide q2;have Q3:=hide q3;clear q1 q2 q3))
 all_goals
   clear q4
   go_wp2_with fail
   go_end0
   exact ⟨_,P',rfl,Q1.out,Q2.out,Q3.out⟩
structure jK (n W a b:Nat) (h:S) (d:Dk):Prop where
 len:d.now.length=n
 may:∀ i,d.may.getD i []=[]
 wr:d.wr≤W
 ha:a≤1
 hb:b≤1000000
 hh:h.length≤100
theorem dY.disk {C C' N:Nat→Prop} {eb sb mb pm fm db n a b c a' b' c' dn:Nat} {h h':S} {d d':Dk} {P:VM Value} {D:VM Hv.PD} {G:VM S} {sv im km:Value} {w w':World} (e:dY C N eb sb mb pm fm db n a b c h d P D G sv im km dn w) (hs:aY sb db n a' b' c' h' w') (hd:bI C' db d' w') (hf:aQ w.heap.size (fun k=>C k∨k=sb) w w') (hC:∀ k,C' k→C k∨w.heap.size≤k):dY C' N eb sb mb pm fm db n a' b' c' h' d' P D G sv im km dn w':=by
 obtain ⟨o1,o2,o3,o4,o5⟩:=e.off
 obtain ⟨a1,a2,a3,a4,a5,a6,a7⟩:=e.apart
 have l1:=blt e.dR;have l2:=e.st.lt;have l3:=blt e.iM.blk;have l4:=e.iM.packs.lt;have l5:=e.iM.files.lt
 have hB:=e.base.size
 have no:∀ k,¬ C k→k<w.heap.size → ¬ C' k:=fun k q l q'=>by
   rcases hC k q' with q' | q'
   · exact q q'
   · omega
 refine ⟨e.dR.kept (hf.block eb l1 (fun q=>q.elim o1 a1)),hs,e.iM.far hf (Nat.le_refl _) ⟨fun q=>q.elim o3 (fun q=>a5 q.symm),fun q=>q.elim o4 (fun q=>a6 q.symm),fun q=>q.elim o5 (fun q=>a7 q.symm)⟩,e.pk.far hf (Nat.le_refl _) (fun g _ hg q=>q.elim (e.rows g hg).2.1 (e.rows g hg).2.2.2),hd,⟨no _ o1 l1,no _ o2 l2,no _ o3 l3,no _ o4 l4,no _ o5 l5⟩,e.apart,fun g hg=>⟨Nat.lt_of_lt_of_le (e.rows g hg).1 hf.size,no _ (e.rows g hg).2.1 (e.rows g hg).1,(e.rows g hg).2.2⟩,e.base.far hf e.base.size (fun k q => ?_),e.low.1,e.low.2.1,e.low.2.2.1,e.low.2.2.2.1,fun k q => ?_⟩
 · rcases q with q | q
   · exact e.low.2.2.2.2 k q
   · rw[q];exact e.low.2.1
 · rcases hC k q with q | q
   · exact e.low.2.2.2.2 k q
   · omega
theorem nG.disk {C C':Nat→Prop} {eb sb pm fm B:Nat} {M:Nat→Prop} (h:nG C eb sb pm fm M) (hC:∀ k,C' k→C k∨B≤k) (hM:∀ g,M g→g<B):nG C' eb sb pm fm M:=fun g hg q=>by
 rcases q with q | q
 · rcases hC g q with q | q
   · exact h g hg (.inl q)
   · have:=hM g hg;omega
 · exact h g hg (.inr q)
theorem OP {C N M:Nat→Prop} (eb sb mb pm fm db n a b c:Nat) (h:S) (d:Dk) (W:Nat) (P:VM Value) (D:VM Hv.PD) (G:VM S) (sa:Option Addr) (ns sc im km dn:Nat) (pl:Hv.Plan) (hns:pl.steps.length=ns) (hn:dn+1<ns) (hn2:ns≤1000) (hok:Hv.tq pl D (pl.steps[dn]'(by omega))) (hks:(pl.steps[dn]'(by omega)).2.length≤12) (sF:P.length≤1000) (hG:G.length≤1000) (L:Nat) (hL:L≤1000000) (hS:Hv.Short L G) (hDB:oD L D) (K6:jF L pl.cO) (hD:jK n W a b h d) (hW:W≤1000000000000) (hnn:0<n) (w:World) (he:dY C N eb sb mb pm fm db n a b c h d P D G (.slice sa ns sc) (.map (some im)) (.map (some km)) dn w) (hpl:d9 M pl (.slice sa ns sc) im km w) (hN:∀ g,M g→N g) (hM:nG C eb sb pm fm M) :
   Calls Tryz.prog 81 #[.pointer (some ⟨eb,0,none⟩)] w fun e w'=>∃ C' d' P',e = .returned .nilIface∧dY C' N eb sb mb pm fm db n a b (dn+1) h d' P' (Hv.aG pl (D,G) (pl.steps[dn]'(by omega))).1 (Hv.aG pl (D,G) (pl.steps[dn]'(by omega))).2 (.slice sa ns sc) (.map (some im)) (.map (some km)) (dn+1) w'∧jK n (W+1) a b h d'∧d9 M pl (.slice sa ns sc) im km w'∧aQ w.heap.size (dZ C eb sb pm fm) w w'∧∀ k,C' k→C k∨w.heap.size≤k:=by
 have VH:=hide (Na eb sb mb pm fm db n a b c h d P D G sa ns sc im km dn pl hns (by omega) hn2 hok hks sF hG L hL hS hDB K6 w he hpl hN hM)
 obtain ⟨s,hs⟩:∃ s,Hv.aG pl (D,G) (pl.steps[dn]'(by omega))=s:=⟨_,rfl⟩
 rw[hs] at VH ⊢
 obtain ⟨m,hm⟩:∃ m,dn+1=m:=⟨_,rfl⟩
 rw[hm] at VH hn ⊢
 have hm2:m≤1000000:=by omega
 have hmi:(m:Int)<ns:=by omega
 clear hm
 have Wt:∀ g,M g→g<w.heap.size:=fun g hg=>(he.rows g (hN g hg)).1
 have HX:=hide he.rows
 have aep:=hide Wt;have HN:=hide hN;have HA:=hide hM;have HD:=hide hD
 clear hok hks hS hDB K6 hs Wt hN hM hD hpl he
 go_enter Tryz.func81,Tryz.ntmps81
 go_wp2_with fail
 refine VH.out.mono ?_
 rintro e w1 ⟨u,P1,rfl,he1,hp1,hf1⟩
 have hsz1:=hf1.size
 have hbd:=(Below.refl w1.heap.size w1).drew
 have kU:=hide (he1.below hbd);have jD:=hide (hp1.below hbd);have eO:=hide (hf1.below hbd hsz1)
 obtain ⟨e0,e1,e2,e3,e4,e5⟩:=he1.dR.cells
 have SC:w1.heap.size≤w1.drew.heap.size:=hbd.size
 have HL:=hide (kE sa ns sc im km w1.drew)
 clear he1 hp1 hf1 VH hbd
 go_wp2_with fail
 go_region_held3 (fun w'=>w'.cell? ⟨eb,2,none⟩=some (.slice sa ns sc)∧w'.cell? ⟨eb,3,none⟩=some (.map (some im))∧w'.cell? ⟨eb,4,none⟩=some (.map (some km))∧w'.cell? ⟨eb,5,none⟩=some (.int .i64 m))
   (first | assumption | exact ⟨e2,e3,e4,e5⟩ | exact ⟨jc.out.2.2.1,jc.out.2.2.2.1,jc.out.2.2.2.2.1,jc.out.2.2.2.2.2⟩ | simp[go_sem, *])
   (first
     | (go_at_call 64;refine HL.out.mono ?_;rintro e w2 ⟨rfl,hb2⟩;have HE2:=hide (kU.out.below hb2);have mP:=hide (jD.out.below hb2);have iU:=hide (eO.out.below hb2 (Nat.le_trans hsz1 SC));have jc:=hide HE2.out.dR.cells;clear hb2))
 all_goals
   obtain ⟨g0,g1,g2,g3,g4,g5⟩:=jc.out
   have hbd:=(Below.refl w2.heap.size w2).drew
   have hbs:=hbd.size
   have zQ:=hide (HE2.out.below hbd);have uX:=hide (mP.out.below hbd);have mO:=hide (iU.out.below hbd iU.out.size)
   have HSM:=hide (JD sb db n a b c m h HD.out.ha HD.out.hb hm2 HD.out.hh (by rw[HD.out.len];exact hnn) HD.out.may (by have:=HD.out.wr;omega) w2.drew zQ.out.st zQ.out.dk zQ.out.off.2.1 zQ.out.base zQ.out.low.2.2.2.2)
   clear e0 e1 e2 e3 e4 e5 hbd
   go_wp2_with fail
   go_region_held3 (fun w'=>w'.cell? ⟨eb,0,none⟩=some (.pointer (some ⟨sb,0,none⟩))∧w'.cell? ⟨eb,5,none⟩=some (.int .i64 m))
     (first | assumption | exact ⟨g0,g5⟩ | exact ⟨Ra.out.1,Ra.out.2.2.2.2.2⟩ | simp[go_sem, *])
     (first
       | (go_at_call 145;refine HSM.out.mono ?_;rintro e w4 ⟨rfl,C',k1,k2,k3,k4⟩;have Rb:=hide (zQ.out.disk k2 k1 k3 k4);have zA:=hide (uX.out.far k3 (Nat.le_refl _) (fun g hg q=>HA.out g hg (by rcases q with q | q;exact .inl q;exact .inr (.inr (.inl q)))));have sS:=hide (mO.out.next k3 mO.out.size (fun q _ hq=>by rcases hq with hq | hq;exact .inl hq;exact .inr (.inr (.inl hq))));have Ra:=hide Rb.out.dR.cells;have HK4:=hide k4;clear k1 k2 k3 k4))
   all_goals
     have hs3:=mO.out.size
     go_wp2_with fail
     go_ret
     exact ⟨C',Mt d a b m h,P1,rfl,Rb.out,⟨by rw[Ga];exact HD.out.len,Nz d a b m h,by rw[Uf];have:=HD.out.wr;omega,HD.out.ha,HD.out.hb,HD.out.hh⟩,zA.out,sS.out,fun k q=>(HK4.out k q).imp id (fun q=>Nat.le_trans hs3 q)⟩
theorem I7 {w:World} {B e s:Nat} {v:Value} {n:Nat} {xs:List Value} (h:w.ownsRow B e s v n xs):w.ownsRow 0 e s v n xs:=⟨h.1,h.2.imp_right fun ⟨g,cap,cur,a,_,c⟩=>⟨g,cap,cur,a,Nat.zero_le _,c⟩⟩
structure oH (n:Nat) (m:Hv.Mac) (xs:List S):Prop where
 l1:m.1.length≤12
 l2:Hv.Named m.1
 l3:m.2.length≤16
 l4:∀ f∈m.2,f.1.length≤24∧f.2.length≤200
 l5:∀ x∈Hv.kR m.1,x.length≤2000
 l6:xs.length≤6∧∀ x∈xs,x.length≤100000
 room:(Hv.F4 m.1 m.2 xs).length≤(n-1) / 2*256
theorem encS {n:Nat} {m:Hv.Mac} {xs:List S} (hR:oH n m xs) (va vf vi:Value) (w:World) (hb:Base w) {B B':Nat} (h1:w.ownsRow B 9 1 va m.1.length ((Hv.kR m.1).map aO)) (h2:w.ownsRow B' 71 2 vf m.2.length (m.2.flatMap cB)) (h3:Reads w vi xs) :
   Calls Tryz.prog 36 #[.agg #[va,vf,vi]] w fun e w'=>e = .returned (.string ⟨(Hv.F4 m.1 m.2 xs).toArray⟩)∧Below w.heap.size w w' :=
 H8 va vf vi (Hv.kR m.1) m.2 xs ⟨by have:=hR.l1;simp[Hv.kR];omega,fun x hx=>by have:=hR.l5 x hx;omega⟩ ⟨by have:=hR.l3;omega,fun f hf=>by have:=hR.l4 f hf;omega⟩ ⟨by have:=hR.l6.1;omega,hR.l6.2⟩ w hb (by simpa [Hv.kR] using I7 h1) (I7 h2) h3
theorem ab7 {C N:Nat→Prop} {eb sb mb pm fm db n a b c dn W:Nat} {h:S} {d:Dk} {P:VM Value} {D:VM Hv.PD} {G:VM S} {sv im km:Value} {m:Hv.Mac} {xs:List S} (hR:oH n m xs) (hnn:1≤n∧n≤4096) (hD:jK n W a b h d) (hW:W≤1000000000000) (w:World) (he:dY C N eb sb mb pm fm db n a b c h d P D G sv im km dn w) :
   Calls Tryz.prog 35 #[.pointer (some ⟨sb,0,none⟩), .string ⟨(Hv.F4 m.1 m.2 xs).toArray⟩] w fun e w'=>e = .returned .nilIface∧∃ C' d' b' h',dY C' N eb sb mb pm fm db n (1-a) b' 0 h' d' P D G sv im km dn w'∧jK n (W+1000000) (1-a) b' h' d'∧aQ w.heap.size (dZ C eb sb pm fm) w w'∧aQ w.heap.size (fun k=>C k∨k=sb) w w'∧∀ k,C' k→C k∨w.heap.size≤k:=by
 have hr:=hR.room
 have hw:=hD.wr
 refine (Jr sb db n a b c h (Hv.F4 m.1 m.2 xs) hnn.1 (by omega) hD.ha (by omega) hD.len hr hD.may (by omega) w he.st he.dk he.off.2.1 he.base he.low.2.2.2.2).mono ?_
 rintro e w7 ⟨rfl,C',k1,k2,k3,k4⟩
 exact ⟨rfl,C',Jp d n a (Hv.F4 m.1 m.2 xs),_,_,he.disk k2 k1 k3 k4,⟨by rw[TU];exact hD.len,TV d n a _,by have:=Xk d n a (Hv.F4 m.1 m.2 xs);omega,by omega,by omega,oq _⟩,k3.mono (Nat.le_refl _) (fun q _ hq=>by rcases hq with hq | hq;exact .inl hq;exact .inr (.inr (.inl hq))),k3,k4⟩
theorem KW {C N M:Nat→Prop} (eb sb mb pm fm db n a b c:Nat) (h:S) (d:Dk) (W:Nat) (P:VM Value) (D:VM Hv.PD) (G:VM S) (sa:Option Addr) (ns sc im km dn:Nat) (pl:Hv.Plan) (hns:pl.steps.length=ns) (hn:dn+1=ns) (hn2:ns≤1000) (hok:Hv.tq pl D (pl.steps[dn]'(by omega))) (hks:(pl.steps[dn]'(by omega)).2.length≤12) (sF:P.length≤1000) (hG:G.length≤1000) (L:Nat) (hL:L≤1000000) (hS:Hv.Short L G) (hDB:oD L D) (K6:jF L pl.cO) (hD:jK n W a b h d) (hW:W≤1000000000000) (hnn:1≤n∧n≤4096) (hR:oH n (Hv.aG pl (D,G) (pl.steps[dn]'(by omega))) []) (w:World) (he:dY C N eb sb mb pm fm db n a b c h d P D G (.slice sa ns sc) (.map (some im)) (.map (some km)) dn w) (hpl:d9 M pl (.slice sa ns sc) im km w) (hN:∀ g,M g→N g) (hM:nG C eb sb pm fm M) :
   Calls Tryz.prog 81 #[.pointer (some ⟨eb,0,none⟩)] w fun e w'=>∃ C' d' P' b' h',e = .returned .nilIface∧dY C' N eb sb mb pm fm db n (1-a) b' 0 h' d' P' (Hv.aG pl (D,G) (pl.steps[dn]'(by omega))).1 (Hv.aG pl (D,G) (pl.steps[dn]'(by omega))).2 (.slice none 0 0) (.map none) (.map none) 0 w'∧jK n (W+1000000) (1-a) b' h' d'∧aQ w.heap.size (dZ C eb sb pm fm) w w'∧∀ k,C' k→C k∨w.heap.size≤k:=by
 have VH:=hide (Na eb sb mb pm fm db n a b c h d P D G sa ns sc im km dn pl hns (by omega) hn2 hok hks sF hG L hL hS hDB K6 w he hpl hN hM)
 obtain ⟨s,hs⟩:∃ s,Hv.aG pl (D,G) (pl.steps[dn]'(by omega))=s:=⟨_,rfl⟩
 rw[hs] at VH hR ⊢
 obtain ⟨m,hm⟩:∃ m,dn+1=m:=⟨_,rfl⟩
 rw[hm] at VH hn
 have hmi : ¬ (m:Int)<ns:=by omega
 clear hm
 have HD:=hide hD;have HR:=hide hR
 clear hok hks hS hDB K6 hs hN hM hD hR hpl he
 go_enter Tryz.func81,Tryz.ntmps81
 go_wp2_with fail
 refine VH.out.mono ?_
 rintro e w1 ⟨u,P1,rfl,he1,hp1,hf1⟩
 have hsz1:=hf1.size
 have hbd:=(Below.refl w1.heap.size w1).drew
 have kU:=hide (he1.below hbd);have eO:=hide (hf1.below hbd hsz1)
 obtain ⟨e0,e1,e2,e3,e4,e5⟩:=he1.dR.cells
 have SC:w1.heap.size≤w1.drew.heap.size:=hbd.size
 have HL:=hide (kE sa ns sc im km w1.drew)
 clear he1 hp1 hf1 VH hbd
 go_wp2_with fail
 go_region_held3 (fun w'=>w'.cell? ⟨eb,2,none⟩=some (.slice sa ns sc)∧w'.cell? ⟨eb,3,none⟩=some (.map (some im))∧w'.cell? ⟨eb,4,none⟩=some (.map (some km))∧w'.cell? ⟨eb,5,none⟩=some (.int .i64 m))
   (first | assumption | exact ⟨e2,e3,e4,e5⟩ | exact ⟨jc.out.2.2.1,jc.out.2.2.2.1,jc.out.2.2.2.2.1,jc.out.2.2.2.2.2⟩ | simp[go_sem, *])
   (first
     | (go_at_call 64;refine HL.out.mono ?_;rintro e w2 ⟨rfl,hb2⟩;have HE2:=hide (kU.out.below hb2);have iU:=hide (eO.out.below hb2 (Nat.le_trans hsz1 SC));have jc:=hide HE2.out.dR.cells;clear hb2))
 all_goals
   obtain ⟨y0,y1,y2,y3,y4,y5⟩:=jc.out
   have z2:=ak HE2.out.dR 2
   have z3:=ak HE2.out.dR 3
   have z4:=ak HE2.out.dR 4
   have z5:=ak HE2.out.dR 5
   have hR2:=heap_setCell_same _ eb 5 _ _ (.int .i64 0) (heap_setCell_same _ eb 4 _ _ (.map none) (heap_setCell_same _ eb 3 _ _ (.map none) (heap_setCell_same _ eb 2 _ _ (.slice none 0 0) HE2.out.dR)))
   have Ws:aQ w2.heap.size (fun q=>q=eb) w2 ((((w2.setCell ⟨eb,2,none⟩ (.slice none 0 0)).setCell ⟨eb,3,none⟩ (.map none)).setCell ⟨eb,4,none⟩ (.map none)).setCell ⟨eb,5,none⟩ (.int .i64 0)):=((((aQ.refl w2.heap.size (fun q=>q=eb) w2).setCell (p:=⟨eb,2,none⟩) (.inr rfl) _).setCell (p:=⟨eb,3,none⟩) (.inr rfl) _).setCell (p:=⟨eb,4,none⟩) (.inr rfl) _).setCell (p:=⟨eb,5,none⟩) (.inr rfl) _
   have zQ:=hide (HE2.out.own (QU:=0) hR2 Ws)
   have mO:=hide (iU.out.next Ws iU.out.size (fun q _ hq => .inr (.inl hq)))
   clear Ws hR2 e0 e1 e2 e3 e4 e5
   go_wp2_with fail
   obtain ⟨v,hv⟩:∃ v,((((w2.setCell ⟨eb,2,none⟩ (.slice none 0 0)).setCell ⟨eb,3,none⟩ (.map none)).setCell ⟨eb,4,none⟩ (.map none)).setCell ⟨eb,5,none⟩ (.int .i64 0))=v:=⟨_,rfl⟩
   rw[hv] at zQ mO ⊢
   obtain ⟨g0,g1, -⟩:=zQ.out.dR.cells
   have hbd:=(Below.refl v.heap.size v).drew
   have Rb:=hide (zQ.out.below hbd);have sS:=hide (mO.out.below hbd mO.out.size)
   have HRE:=hide (Cc mb pm fm P1 s.1 s.2 N (by have:=HR.out.l1;omega) HR.out.l2 (by have:=HR.out.l3;omega) (fun p hp=>by have:=(HR.out.l4 p hp).1;omega) v.drew Rb.out.iM Rb.out.pk)
   clear hv y0 y1 y2 y3 y4 y5 z2 z3 z4 z5 hbd zQ mO
   go_region_held3 (fun w'=>w'.cell? ⟨eb,0,none⟩=some (.pointer (some ⟨sb,0,none⟩))∧w'.cell? ⟨eb,1,none⟩=some (.pointer (some ⟨mb,0,none⟩)))
     (first | assumption | exact ⟨g0,g1⟩ | exact ⟨YG.out.dR.cells.1,YG.out.dR.cells.2.1⟩ | exact ⟨XH.out.dR.cells.1,XH.out.dR.cells.2.1⟩ | exact ⟨YF.out.dR.cells.1,YF.out.dR.cells.2.1⟩ | simp[go_sem, *])
     (first
       | (go_at_call 34;refine HRE.out.mono ?_;rintro e w5 ⟨va,vf,rfl,r1,r2,hb5⟩;have R1:=hide r1;have R2:=hide r2;have YF:=hide (Rb.out.below hb5);have Kj:=hide (sS.out.below hb5 sS.out.size);clear r1 r2 hb5)
       | (go_at_call 36;refine (encS HR.out va vf (.slice none 0 0) w5 YF.out.base R1.out R2.out (.inl ⟨rfl,none,0,rfl⟩)).mono ?_;rintro e w6 ⟨rfl,hb6⟩;have XH:=hide (YF.out.below hb6);have XI:=hide (Kj.out.below hb6 Kj.out.size);clear hb6)
       | (go_at_call 35;refine (ab7 HR.out hnn HD.out hW w6 XH.out).mono ?_;rintro e w7 ⟨rfl,C',d',b',h',k1,k2,k3,k5,k4⟩;have YG:=hide k1;have HD7:=hide k2;have HF7:=hide (XI.out.next k3 XI.out.size (fun q _ hq=>hq));have HK7:=hide k4;clear k1 k2 k3 k4 k5))
   all_goals
     have hs6:=XI.out.size
     go_wp2_with fail
     go_ret
     exact ⟨C',d',P1,b',h',rfl,YG.out,HD7.out,HF7.out,fun k q=>(HK7.out k q).imp id (fun q=>Nat.le_trans hs6 q)⟩
end
end Go.Proofs.YtialenebfcnkkaaGreatDoor
