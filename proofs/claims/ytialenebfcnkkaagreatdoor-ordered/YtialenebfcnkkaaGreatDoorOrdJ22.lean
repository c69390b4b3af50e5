/- PlnW12, PlanMath, MacMath, PlnMath2, ForeignW, MchW3 -/
import Derived.Test.YtialenebfcnkkaaGreatDoorOrdJ21
import Derived.Test.YtialenebfcnkkaaGreatDoorOrdJ19
set_option maxHeartbeats 4000000
set_option maxRecDepth 100000
namespace Go.Proofs.YtialenebfcnkkaaGreatDoor
section
open Go.RowKit
open aH (St)
open Hv (S Dk VM)
theorem FZ {N:Nat→Prop} {w:World} {d:Hv.PD} {v:Value} (h:vg N w d v):d.paths.length≤21:=by
 obtain ⟨p,_,_,_,_,_,hpk,_⟩:=h
 have:=(bV hpk.parse).2.2.1.2.2.2.1
 simp only[Hv.PD.paths,List.length_map]
 exact this
theorem wT (mb pm fm rm im:Nat) (P F R I:VM Value) (D DI:VM Hv.PD) (N NI:Nat→Prop) (hR:ku R) (hRl:R.length≤1000) (hIl:I.length≤1000) (w:World) (hm:aK mb pm fm P F w) (hw:fM rm im R I w) (hP:dA N w D P) (hI:dA NI w DI I) :
   Calls Tryz.prog 125 #[.pointer (some ⟨mb,0,none⟩), .agg #[.map (some rm), .map (some im)]] w fun e w'=>∃ v,e = .returned v∧w'.ownsRow w.heap.size 9 1 v (keysOf (aT D R DI)).length ((keysOf (aT D R DI)).map aO)∧Below w.heap.size w w':=by
 have hmm := @run_makeMap Tryz.prog
 have HM:=hide hm;have HW:=hide hw;have eU:=hide hP;have Gp:=hide hI;have HRU:=hide hR
 have hb1:=(Below.refl w.heap.size w).alloc (Nat.le_refl _) (.cells #[.map (some rm), .map (some im)] 135)
 have hr1:=heap_alloc_new w (.cells #[.map (some rm), .map (some im)] 135)
 have hs1:(w.alloc (.cells #[.map (some rm), .map (some im)] 135)).heap.size=w.heap.size+1:=by simp
 have hm2:=MapAt.made (w.alloc (.cells #[.map (some rm), .map (some im)] 135))
 have hb2:=hb1.alloc hb1.size (.map #[] 0)
 have hr2:=(Below.heap_alloc (w.alloc (.cells #[.map (some rm), .map (some im)] 135)) (.map #[] 0) w.heap.size (by simp)).trans hr1
 have hs2:((w.alloc (.cells #[.map (some rm), .map (some im)] 135)).alloc (.map #[] 0)).heap.size=w.heap.size+1+1:=by simp
 rw[hs1] at hm2
 have hm3:=hm2.alloc (.cells #[.map (some (w.heap.size+1))] 133)
 have hb3:=hb2.alloc hb2.size (.cells #[.map (some (w.heap.size+1))] 133)
 have hc3:=(ah (heap_alloc_new ((w.alloc (.cells #[.map (some rm), .map (some im)] 135)).alloc (.map #[] 0)) (.cells #[.map (some (w.heap.size+1))] 133)) 0).trans (show _=some (.map (some (w.heap.size+1))) from rfl)
 rw[hs2] at hc3
 have hr3:=(Below.heap_alloc ((w.alloc (.cells #[.map (some rm), .map (some im)] 135)).alloc (.map #[] 0)) (.cells #[.map (some (w.heap.size+1))] 133) w.heap.size (by simp;omega)).trans hr2
 have hs3:(((w.alloc (.cells #[.map (some rm), .map (some im)] 135)).alloc (.map #[] 0)).alloc (.cells #[.map (some (w.heap.size+1))] 133)).heap.size=w.heap.size+1+1+1:=by simp
 have c0:=(ah hr3 0).trans (show _=some (.map (some rm)) from rfl)
 have hrm:=HW.out.rem.below hb3
 have HB3:=hide hb3;have MQ:=hide hm3;have Vl:=hide hc3;have HR3:=hide hr3
 have hrl:=hw.rem.lt
 have hil:=hw.ins.lt
 have hml:=blt hm.blk
 have hpl:=hm.packs.lt
 clear hm hw hP hI hR hb1 hr1 hs1 hm2 hb2 hr2 hs2 hm3 hb3 hc3 hr3
 go_enter Tryz.func125,Tryz.ntmps125
 go_wp2_with (first
   | (at_range;refine eH rfl _ 133 rfl 53 Tryz.underlying133 hrm rfl ?_;intro w0 hrg0 hg0 hs0;have nP:=hide hrg0;have HB0:=hide (HB3.out.grown hg0 HB3.out.size (fun q hq=>by cases hq));have dF:=hide (MQ.out.kept (hg0.block _ MQ.out.lt (by simp)));have HC0:=hide ((World.cell?_of_block (a:=⟨w.heap.size+1+1,0,none⟩) (hg0.block (w.heap.size+1+1) (by rw[hs3];omega) (by simp))).trans Vl.out);have QT:=hide ((hg0.block w.heap.size (by rw[hs3];omega) (by simp)).trans HR3.out)))
 rw[hs3] at nP hs0 ⊢
 go_frame
 clear hg0 hrg0 c0 hrm hs3
 go_loopw [15] (fun _ wr=>∃ (left:S→Bool) (cnt:Nat) (Q:VM Value),Hid (bE wr rm (w.heap.size+1+1+1) R left cnt)∧Hid (MapAt wr (w.heap.size+1) Q)∧Hid (ChR D R left Q)∧Q.length+21*cnt≤21*R.length∧Hid (wr.cell? ⟨w.heap.size+1+1,0,none⟩=some (.map (some (w.heap.size+1))))∧Hid (wr.heap[w.heap.size]? = some (.cells #[.map (some rm), .map (some im)] 135 (0,0)))∧Hid (Below w.heap.size w wr)∧w.heap.size+1+1+1<wr.heap.size)
   (fun _ wr=>wr.rangeLeft rm (w.heap.size+1+1+1))
 case atStart=>exact ⟨_,_,[],nP,dF,hide ⟨fun k v h=>(by cases h),fun x=>⟨fun h=>(by cases h),fun ⟨k,h1,h2,_⟩=>(by rw[h1] at h2;cases h2)⟩⟩,by simp,HC0,QT,HB0,by omega⟩
 case round =>
   clear nP dF HC0 QT HB0
   obtain ⟨left,cnt,Q,HG,HQ,HS,hroom,HC,HR,HB,hsz⟩:=hrel
   go_wp2_with (first
     | (at_next;refine gG rfl _ rfl (w.heap.size+1+1+1) left cnt rfl HG.out ?_ ?_))
   · intro hc0 hl0
     have HQE:=hide (HS.out.done HQ.out.1 hl0)
     have c1:=(ah HR.out 1).trans (show _=some (.map (some im)) from rfl)
     have hi2:=HW.out.ins.below HB.out
     go_wp2_with (first
       | (at_range;refine eH rfl _ 86 rfl 156 Tryz.underlying86 hi2 rfl ?_;intro w1 hrg1 hg1 hs1;have oC:=hide hrg1;have HB1:=hide (HB.out.grown hg1 HB.out.size (fun q hq=>by cases hq));have Rk:=hide (HQ.out.kept (hg1.block _ HQ.out.lt (by simp)));have zP:=hide ((World.cell?_of_block (a:=⟨w.heap.size+1+1,0,none⟩) (hg1.block (w.heap.size+1+1) (by omega) (by simp))).trans HC.out)))
     go_frame
     clear hg1 hrg1 c1 hi2 HG
     obtain ⟨B2,hB2⟩:∃ B2,wr.heap.size=B2:=⟨_,rfl⟩
     rw[hB2] at oC hs1 hsz
     have HQ0:=hide HQ.out.1
     have HU0:=hide HS.out.uni
     have hQl:Q.length≤21*R.length:=by omega
     clear HQ HS HC HR HB hroom hl0
     rw[hB2]
     clear hB2
     go_loopw [30] (fun _ wr2=>∃ (left:S→Bool) (cnt:Nat) (Q2:VM Value),Hid (bE wr2 im B2 I left cnt)∧Hid (MapAt wr2 (w.heap.size+1) Q2)∧Hid (ChI D DI Q left Q2)∧Q2.length+42*cnt≤21*R.length+42*I.length∧Hid (wr2.cell? ⟨w.heap.size+1+1,0,none⟩=some (.map (some (w.heap.size+1))))∧Hid (Below w.heap.size w wr2)∧B2<wr2.heap.size)
       (fun _ wr2=>wr2.rangeLeft im B2)
     case atStart=>exact ⟨_,_,Q,oC,Rk,hide ⟨HU0.out,fun x=>⟨.inl,fun h=>h.resolve_right (fun ⟨k,d,h1,h2,_⟩=>by rw[Gp.out.has_eq,Hv.aB,h1] at h2;cases h2)⟩⟩,by omega,zP,HB1,by omega⟩
     case round =>
       clear oC Rk zP HB1
       obtain ⟨ab0,cnt2,Q2,HG2,CQ,HS2,ac6,jc,HB2,hsz2⟩:=hrel
       go_wp2_with (first
         | (at_next;refine gG rfl _ rfl B2 ab0 cnt2 rfl HG2.out ?_ ?_))
       · intro hc2 hl2
         have acI:=hide ((HS2.out.done Gp.out.dU CQ.out.1 HQ0.out HU0.out hl2).trans (show _=aT D R DI by rw[HQE.out];rfl))
         have hl9:Q2.length≤1000000:=by omega
         have c3:=jc.out
         go_wp2_with fail
         refine (callsIn_wide.1 (Tryz.maps_Keys_182 (some (w.heap.size+1)) wr)).mono ?_
         rintro e w8 ⟨rfl,rfl⟩
         go_wp2_with fail
         refine (callsIn_wide.1 (Tryz.slices_Sorted_keys_72_182 (w.heap.size+1) Q2.length (Hv.rU Q2) Hv.hR wr CQ.out.2 (by rw[Hv.gZ];unfold maxLen;omega) (by rw[Hv.gZ];omega))).mono ?_
         rintro e w9 ⟨v,ss,rfl,hS,hrow, -,hb⟩
         have hk:=jW CQ.out.1 hS
         have hl:ss.length=(keysOf Q2).length:=by rw[hS.length_eq,jB]
         rw[hk,hl,acI.out] at hrow
         have HR9:=hide hrow
         have HB9:=hide (HB2.out.trans (((Below.refl wr.heap.size wr).alloc (Nat.le_refl _) (.cells #[.map (some (w.heap.size+1))] 133)).trans (hb.mono (by simp)) |>.mono HB2.out.size))
         have hs9:=HB2.out.size
         clear hrow hb hk hl hS
         go_wp2_with fail
         go_ret
         exact ⟨v,rfl,bN HR9.out (by simp;omega),HB9.out⟩
       · intro k v w4 cnt1 hk hlk hget hrg1 hlt hg1 Iq hen
         obtain ⟨d,hd,ac3⟩:=Gp.out.nD k v hget
         have HDD:=hide hd
         have oC:=hide hrg1
         have iI:=hide (HB2.out.grown hg1 HB2.out.size (fun q hq=>by cases hq;omega))
         have QS:=hide (CQ.out.kept (hg1.block _ CQ.out.lt (by simp;omega)))
         have Ra:=hide ((World.cell?_of_block (a:=⟨w.heap.size+1+1,0,none⟩) (hg1.block (w.heap.size+1+1) (by omega) (by simp;omega))).trans jc.out)
         have hs4:w4.heap.size=wr.heap.size:=Iq
         obtain ⟨p,rfl,pr⟩:=ac3
         have YV:=hide (show vg NI w d p.val from ⟨p,rfl,pr⟩)
         simp only[Pk.val,Pk.cells] at hen ⊢
         clear hrg1 hg1 hget pr hd
         have hb5:=(Below.refl w4.heap.size w4).alloc (Nat.le_refl _) (.cells p.cells 156)
         have Ng:=heap_alloc_new w4 (.cells p.cells 156)
         have hs5:(w4.alloc (.cells p.cells 156)).heap.size=w4.heap.size+1:=by simp
         have CG:=hide (oC.out.below hb5)
         have kN:=hide (iI.out.trans (hb5.mono (by omega)))
         have XR:=hide (QS.out.below hb5)
         have HC5:=hide ((hb5.cell (p:=⟨w.heap.size+1+1,0,none⟩) (show w.heap.size+1+1<w4.heap.size by omega)).trans Ra.out)
         have Rl:=hide Ng
         simp only[Pk.cells] at CG kN XR HC5 hs5
         have FH:=HM.out.below kN.out
         have m0:=(ah FH.blk 0).trans (show _=some (.map (some pm)) from rfl)
         have hp5:=FH.packs
         obtain ⟨z,hz⟩:∃ z,VZ P k=z:=⟨_,rfl⟩
         have hz2:(Hv.get P k).getD (.agg #[.string ⟨#[]⟩, .string ⟨#[]⟩, .string ⟨#[]⟩, .slice none 0 0, .slice none 0 0, .slice none 0 0, .slice none 0 0, .slice none 0 0, .slice none 0 0, .int .i64 0])=z:=hz
         have hcp:cnt1+1≤cnt2:=hlt
         have HA:=hide (MW (w.heap.size+1+1) (w.heap.size+1) Q2 (by omega) N D P k _ (eU.out.below kN.out) XR.out HC5.out)
         rw[hz] at HA
         clear FH hz
         go_wp2_with (first
           | (at_lookup;refine jJ rfl _ _ 86 rfl 156 Tryz.underlying86 (bU _) hp5 rfl k hk rfl ?_;rw[hz2]))
         refine HA.out.mono ?_
         rintro e w6 ⟨u6,rfl,hm6,Ea⟩
         have hl5:=je (bg D k) Q2
         have WB:=yU eU.out k
         have HQ6:=hide hm6
         have XK:=hide (CG.out.far Ea (Nat.le_refl _) (by omega) (by omega))
         have zO:=hide (kN.out.trans (Ea.toBelow (by omega) (fun q hq (e:q=w.heap.size+1)=>by omega)))
         have HC6:=hide ((World.cell?_of_block (a:=⟨w.heap.size+1+1,0,none⟩) (Ea.block (w.heap.size+1+1) (by omega) (by omega))).trans HC5.out)
         have hr6:=(Ea.block w4.heap.size (by omega) (by omega)).trans Rl.out
         have hs6:=Ea.size
         have T:=Pk.at_ (show w6.heap[wr.heap.size]? = _ by rw[← hs4];exact hr6)
         have HA2:=hide (MX (w.heap.size+1+1) (w.heap.size+1) (bD Q2 (bg D k)) (by omega) NI d p.val w6 (YV.out.far ((aQ.of (C:=fun q=>q=w.heap.size+1) kN.out (Nat.le_refl _)).next Ea (by omega) (fun _ _ q=>q)) (Nat.le_refl _) (fun g hg _ e=>by omega)) HQ6.out HC6.out)
         simp only[Pk.val,Pk.cells] at HA2
         clear hm6 Ea hr6 hp5 m0 XR HC5 CG Rl
         obtain ⟨t0,t1,t2,t3,t4,t5,t6,t7,t8,t9⟩:=T
         go_wp2_with fail
         refine HA2.out.mono ?_
         rintro e w7 ⟨u7,rfl,Ye,Wz⟩
         have hl7:=je d.paths (bD Q2 (bg D k))
         have hl8:=FZ YV.out
         have HQ7:=hide Ye
         have HS7:=hide (HS2.out.step CQ.out.1 HDD.out)
         have HG7:=hide (XK.out.far Wz (Nat.le_refl _) (by omega) (by omega))
         have HB7:=hide (zO.out.trans (Wz.toBelow (by omega) (fun q hq (e:q=w.heap.size+1)=>by omega)))
         have HC7:=hide ((World.cell?_of_block (a:=⟨w.heap.size+1+1,0,none⟩) (Wz.block (w.heap.size+1+1) (by omega) (by omega))).trans HC6.out)
         have hs7:=Wz.size
         clear Ye Wz t0 t1 t2 t3 t4 t5 t6 t7 t8 t9
         go_wp2_with fail
         go_roundw
         case rel=>exact ⟨_,cnt1,_,HG7,HQ7,HS7,by omega,HC7,HB7,by omega⟩
         case measure=>rw[HG7.out.left_eq,HG2.out.left_eq];exact hlt
   · intro k v w4 cnt1 hk hlk hget hrg1 hlt hg1 hs1 hen
     obtain rfl:=HRU.out k v hget
     have hRk:Hv.has R k=true:=by rw[Hv.aB,hget];rfl
     have oC:=hide hrg1
     have iI:=hide (HB.out.grown hg1 HB.out.size (fun q hq=>by cases hq;omega))
     have QS:=hide (HQ.out.kept (hg1.block _ HQ.out.lt (by simp)))
     have Ra:=hide ((World.cell?_of_block (a:=⟨w.heap.size+1+1,0,none⟩) (hg1.block (w.heap.size+1+1) (by omega) (by simp))).trans HC.out)
     have HR4:=hide ((hg1.block w.heap.size (by omega) (by simp;omega)).trans HR.out)
     have hs4:w4.heap.size=wr.heap.size:=hs1
     have QW:=HM.out.below iI.out
     have m0:=(ah QW.blk 0).trans (show _=some (.map (some pm)) from rfl)
     have qp:=QW.packs
     obtain ⟨z,hz⟩:∃ z,VZ P k=z:=⟨_,rfl⟩
     have hz2:(Hv.get P k).getD (.agg #[.string ⟨#[]⟩, .string ⟨#[]⟩, .string ⟨#[]⟩, .slice none 0 0, .slice none 0 0, .slice none 0 0, .slice none 0 0, .slice none 0 0, .slice none 0 0, .int .i64 0])=z:=hz
     have HA:=hide (MW (w.heap.size+1+1) (w.heap.size+1) Q (by omega) N D P k w4 (eU.out.below iI.out) QS.out Ra.out)
     rw[hz] at HA
     clear hrg1 hg1 hget QW hz
     go_wp2_with (first
       | (at_lookup;refine jJ rfl _ _ 86 rfl 156 Tryz.underlying86 (bU _) qp rfl k hk rfl ?_;rw[hz2]))
     refine HA.out.mono ?_
     rintro e w5 ⟨u5,rfl,FH,zD⟩
     have hl5:=je (bg D k) Q
     have WB:=yU eU.out k
     have XR:=hide FH
     have HS5:=hide (HS.out.step HQ.out.1 hRk)
     have CG:=hide (oC.out.far zD (Nat.le_refl _) (by omega) (by omega))
     have kN:=hide (iI.out.trans (zD.toBelow (by omega) (fun q hq (e:q=w.heap.size+1)=>by omega)))
     have HC5:=hide ((World.cell?_of_block (a:=⟨w.heap.size+1+1,0,none⟩) (zD.block (w.heap.size+1+1) (by omega) (by omega))).trans Ra.out)
     have Rl:=hide ((zD.block w.heap.size (by omega) (by omega)).trans HR4.out)
     have hs5:=zD.size
     clear FH zD
     go_wp2_with fail
     go_roundw
     case rel=>exact ⟨_,cnt1,_,CG,XR,HS5,by omega,HC5,Rl,kN,by omega⟩
     case measure=>rw[CG.out.left_eq,HG.out.left_eq];exact hlt
end
section
open aH (St gH)
open Hv (S VM)
namespace Hv
theorem has_put_same {α:Type} {E:VM α} (h:aM E) (k:S) (v:α):has (put E k v) k=true:=by rw[aB,aD h];rfl
theorem tV {α:Type} {E:VM α} (h:aM E) (k n:S) (v:α) (q:has E n=true):has (put E k v) n=true:=(z8 h k v n).2 (.inl q)
theorem Bl {α:Type} {E:VM α} (h:aM E) {k n:S} (q:has E n=true) (e:n≠k):has (del E k) n=true:=by rw[aB,aV h e,← aB];exact q
theorem uj {α:Type} {E:VM α} {k:S}:k∈keysOf E ↔ has E k=true:=by
 constructor
 · exact mem_keys
 · intro h
   obtain ⟨p,hp,e⟩:=List.any_eq_true.1 h
   simp only[beq_iff_eq] at e
   exact List.mem_map.2 ⟨p,hp,e⟩
theorem oQ (fr:VM PD→S→Bool):∀ (n:Nat) (D:VM PD),aM D→D.length=n→∀ k,k∈jI fr n D ↔ has D k=true
 | 0,D,_,hn,k=>by
   cases D with
   | nil=>simp[jI,has]
   | cons p D=>simp at hn
 | n+1,D,hs,hn,k=>by
   have hp:=mq fr (D:=D) (by omega)
   have hd:=mZ hs hp
   have ih:=oQ fr n (del D (pick fr D)) (hs.del _) (by omega) k
   rw[jI,List.mem_cons,ih]
   constructor
   · rintro (rfl | h)
     · exact hp
     · exact zX hs h
   · intro h
     by_cases e:k=pick fr D
     · exact .inl e
     · exact .inr (Bl hs h e)
theorem dw (fr:VM PD→S→Bool) {D:VM PD} (hs:aM D) (k:S):k∈order fr D ↔ has D k=true:=oQ fr _ D hs rfl k
theorem BO (fr:VM PD→S→Bool):∀ (n:Nat) (D:VM PD),(jI fr n D).length=n
 | 0,_=>rfl
 | n+1,D=>by simp[jI,BO fr n]
theorem rF (fr:VM PD→S→Bool) (D:VM PD):(order fr D).length=D.length:=BO fr _ D
theorem vY (fr:VM PD→S→Bool):∀ (n:Nat) (D:VM PD),aM D→D.length=n→(jI fr n D).Nodup
 | 0,_,_,_=>List.Pairwise.nil
 | n+1,D,hs,hn=>by
   have hp:=mq fr (D:=D) (by omega)
   have hd:=mZ hs hp
   refine List.nodup_cons.2 ⟨fun h => ?_,vY fr n _ (hs.del _) (by omega)⟩
   have:=(oQ fr n (del D (pick fr D)) (hs.del _) (by omega) _).1 h
   rw[aB,bn] at this
   cases this
theorem I5 (fr:VM PD→S→Bool) {D:VM PD} (hs:aM D):(order fr D).Nodup:=vY fr _ D hs rfl
def leaveD {β:Type} (D:VM PD) (R:VM β):VM PD:=D.filter fun p=>has R p.1
theorem iD {β:Type} {D:VM PD} (h:aM D) (R:VM β):aM (leaveD D R):=h.filter _
theorem iC {β:Type} {D:VM PD} (h:aM D) (R:VM β) (k:S):get (leaveD D R) k=if has R k=true then get D k else none:=by
 split
 · next e =>
   cases q:get D k with
   | none =>
     rw[get_none] at q ⊢
     exact fun p hp=>q p (List.mem_filter.1 hp).1
   | some d=>exact (get_some (iD h R)).2 (List.mem_filter.2 ⟨(get_some h).1 q,e⟩)
 · next e =>
   rw[get_none]
   intro p hp ek
   rw[ek.symm] at e
   exact e (List.mem_filter.1 hp).2
noncomputable def bf (D:VM PD) (R:VM Value) (I:VM PD):Plan :=
 let cO:=dN (aR D R I) (keysOf (aT D R I))
 ⟨(order bC (leaveD D R)).map (fun x=>(1,x))++(order aI I).map (fun x=>(2,x))++(order aI I).map (fun x=>(3,x))++(keysOf cO).map (fun x=>(4,x)),I,cO⟩
def iW (pl:Plan):Mac→List Step→Prop
 | _,[]=>True
 | m,s::ss=>tq pl m.1 s∧iW pl (aG pl m s) ss
theorem iW.append {pl:Plan}:∀ {a:List Step} {m:Mac} {b:List Step},iW pl m a→iW pl (aJ pl m a) b→iW pl m (a++b)
 | [],_,_,_,h=>h
 | _::_,_,_,h,h'=>⟨h.1,iW.append h.2 h'⟩
theorem iW.at_ {pl:Plan}:∀ {ss:List Step} {m:Mac} {n:Nat},iW pl m ss→(h:n<ss.length)→tq pl (aJ pl m (ss.take n)).1 ss[n]
 | [],_,_,_,h=>by simp at h
 | s::ss,m,0,h,_=>h.1
 | s::ss,m,n+1,h,hn=>iW.at_ (ss:=ss) h.2 (by simpa using hn)
theorem qH (pl:Plan) (m:Mac) (a b:List Step):aJ pl m (a++b)=aJ pl (aJ pl m a) b:=by simp[aJ]
theorem eF (pl:Plan):∀ (ss:List Step) {m:Mac},aM m.1→aM m.2→aM (aJ pl m ss).1∧aM (aJ pl m ss).2
 | [],_,h1,h2=>⟨h1,h2⟩
 | s::ss,m,h1,h2=>by
   obtain ⟨a,b⟩:=dx pl h1 h2 s
   exact eF pl ss a b
theorem JJ (pl:Plan) {m:Mac} (h1:aM m.1) {s:Step} {k:S} (hk:has m.1 k=true) (hs:s.1=1→s.2≠k):has (aG pl m s).1 k=true:=by
 unfold aG
 split
 · next e=>exact Bl h1 hk (fun e'=>hs e e'.symm)
 · split
   · split
     · exact tV h1 _ _ _ hk
     · exact hk
   · split
     · exact hk
     · split
       · exact tV h1 _ _ _ hk
       · split
         · exact tV h1 _ _ _ hk
         · exact hk
theorem wF (pl:Plan):∀ (ss:List Step) {m:Mac} {k:S},aM m.1→aM m.2→has m.1 k=true→(∀ s∈ss,s.1=1→s.2≠k)→has (aJ pl m ss).1 k=true
 | [],_,_,_,_,h,_=>h
 | s::ss,m,k,h1,h2,h,hs=>by
   obtain ⟨a,b⟩:=dx pl h1 h2 s
   exact wF pl ss a b (JJ pl h1 h (hs s (by simp))) (fun s' q=>hs s' (by simp[q]))
theorem Ch (pl:Plan):∀ (l:List S) {m:Mac},aM m.1→aM m.2→(∀ x∈l,has pl.ins x=true)→iW pl m (l.map fun x=>(2,x))∧∀ x∈l,has (aJ pl m (l.map fun x=>(2,x))).1 x=true
 | [],_,_,_,_=>⟨trivial,fun x h=>by cases h⟩
 | x::l,m,h1,h2,hl=>by
   obtain ⟨a,b⟩:=dx pl h1 h2 (2,x)
   obtain ⟨i1,i2⟩:=Ch pl l a b (fun y hy=>hl y (by simp[hy]))
   have hx:has (aG pl m (2,x)).1 x=true:=by
     have:=hl x (by simp)
     rw[aB] at this
     obtain ⟨d,hd⟩:=Option.isSome_iff_exists.1 this
     simp only[aG]
     rw[if_neg (by decide),if_pos trivial,hd]
     exact has_put_same h1 _ _
   refine ⟨⟨.inr (.inl ⟨rfl,hl x (by simp)⟩),i1⟩,fun y hy => ?_⟩
   rcases List.mem_cons.1 hy with rfl | hy
   · exact wF pl (l.map fun x=>(2,x)) a b hx (fun s hs e=>by obtain ⟨z,_,rfl⟩:=List.mem_map.1 hs;cases e)
   · exact i2 y hy
theorem Cg (pl:Plan) (c:Int) (hc:c=3∨c=4):∀ (l:List S) {m:Mac},aM m.1→aM m.2→(∀ x∈l,has m.1 x=true)→iW pl m (l.map fun x=>(c,x))
 | [],_,_,_,_=>trivial
 | x::l,m,h1,h2,hl=>by
   obtain ⟨a,b⟩:=dx pl h1 h2 (c,x)
   refine ⟨.inr (.inr ⟨hc,hl x (by simp)⟩),Cg pl c hc l a b (fun y hy=>JJ pl h1 (hl y (by simp[hy])) (fun e => ?_))⟩
   rcases hc with rfl | rfl<;>cases e
theorem Jz (pl:Plan):∀ (l:List S) (m:Mac),iW pl m (l.map fun x=>(1,x))
 | [],_=>trivial
 | _::l,_=>⟨.inl rfl,Jz pl l _⟩
theorem EM {D:VM PD} (hD:aM D) (R:VM Value) {I:VM PD} (hI:aM I) (k:S):has (aR D R I) k=true ↔ has I k=true∨(has D k=true∧has R k=false):=by
 unfold aR
 rw[aB,iN I _ (iK R D hD) hI,kZ R D hD,aB I,aB D]
 obtain ⟨r,hr⟩:∃ r,has R k=r:=⟨_,rfl⟩
 rw[hr]
 cases get I k<;>cases get D k<;>cases r<;>simp
theorem ER {D:VM PD} (hD:aM D) (ch:List S) {k:S} (h:has (dN D ch) k=true):has D k=true:=by
 rw[aB,xZ hD] at h
 rw[aB]
 cases q:get D k with
 | none=>rw[q] at h;cases h
 | some d=>rfl
theorem Jf {D:VM PD} {G:VM S} {R:VM Value} {I:VM PD} (hD:aM D) (hG:aM G) (hI:aM I):iW (bf D R I) (D,G) (bf D R I).steps:=by
 have hpi:(bf D R I).ins=I:=rfl
 have e:(bf D R I).steps=(order bC (leaveD D R)).map (fun x=>(1,x))++(order aI I).map (fun x=>(2,x))++(order aI I).map (fun x=>(3,x))++(keysOf (bf D R I).cO).map (fun x=>(4,x)):=rfl
 have ew:(bf D R I).cO=dN (aR D R I) (keysOf (aT D R I)):=rfl
 rw[e]
 obtain ⟨pl,hpl⟩:∃ pl,bf D R I=pl:=⟨_,rfl⟩
 rw[hpl] at hpi ew ⊢
 clear e hpl
 obtain ⟨a1,a2⟩:=eF pl ((order bC (leaveD D R)).map fun x=>(1,x)) (m:=(D,G)) hD hG
 obtain ⟨u1,u2⟩:=Ch pl (order aI I) a1 a2 (fun x hx=>by rw[hpi];exact (dw aI hI x).1 hx)
 obtain ⟨b1,b2⟩:=eF pl ((order aI I).map fun x=>(2,x)) a1 a2
 obtain ⟨c1,c2⟩:=eF pl ((order aI I).map fun x=>(3,x)) b1 b2
 have hT:aM (aR D R I):=iO _ _ (iK R D hD)
 refine ((iW.append (Jz pl _ _) u1).append ?_).append ?_
 · rw[qH]
   exact Cg pl 3 (.inl rfl) _ b1 b2 u2
 · rw[qH,qH]
   refine Cg pl 4 (.inr rfl) _ c1 c2 fun x hx => ?_
   refine wF pl _ b1 b2 ?_ (fun s hs e=>by obtain ⟨z,_,rfl⟩:=List.mem_map.1 hs;cases e)
   have hx1:has (aR D R I) x=true:=ER hT _ (by rw[← ew];exact mem_keys hx)
   rcases (EM hD R hI x).1 hx1 with h | ⟨h,hr⟩
   · exact u2 x ((dw aI hI x).2 h)
   · refine wF pl _ a1 a2 ?_ (fun s hs e=>by obtain ⟨z,_,rfl⟩:=List.mem_map.1 hs;cases e)
     refine wF pl _ hD hG h (fun s hs _ e' => ?_)
     obtain ⟨z,hz,rfl⟩:=List.mem_map.1 hs
     have h2:=(dw bC (iD hD R) z).1 hz
     have e3:z=x:=e'
     rw[aB,iC hD,e3,hr] at h2
     simp at h2
end Hv
namespace Hv
def Gw (d:PD):Prop:=aH.parse (short aF) d.text=some (d.nm,d.ve,d.st)
def Named (D:VM PD):Prop:=∀ k d,get D k=some d→d.nm=k∧Gw d
theorem Named.nil:Named []:=fun k d h=>by cases h
theorem Named.put {D:VM PD} (h:Named D) (hs:aM D) {k:S} {d:PD} (hk:d.nm=k) (hd:Gw d):Named (put D k d):=fun k' d' q=>by
 by_cases e:k'=k
 · subst e;rw[aD hs] at q;cases q;exact ⟨hk,hd⟩
 · rw[av hs _ e] at q;exact h k' d' q
theorem Named.del {D:VM PD} (h:Named D) (hs:aM D) (k:S):Named (del D k):=fun k' d' q=>by
 by_cases e:k'=k
 · subst e;rw[bn] at q;cases q
 · rw[aV hs e] at q;exact h k' d' q
theorem Gw.name {d:PD} (h:Gw d):Wd.isName d.nm=true:=(bW h).1
theorem Named.len {D:VM PD} (h:Named D) {k:S} (q:has D k=true):k.length≤12:=by
 rw[aB] at q
 obtain ⟨d,hd⟩:=Option.isSome_iff_exists.1 q
 obtain ⟨a,b⟩:=h k d hd
 rw[← a];exact BH b.name
def dz (D:VM PD):Nat:=(D.map fun p=>p.2.text.length).sum
theorem Uc (D:VM PD):rZ D (fun _=>false)=dz D:=by unfold rZ dz;simp
theorem Ck (x:S × PD):∀ l:VM PD,dz (ins x l)=x.2.text.length+dz l
 | []=>by simp[ins,dz]
 | y::r=>by
   unfold ins
   split
   · simp[dz]
   · have:=Ck x r
     simp only[dz,List.map_cons,List.sum_cons] at this ⊢
     omega
theorem JO (D:VM PD) (k:S):dz (del D k)≤dz D:=by
 induction D with
 | nil=>simp[del,dz]
 | cons p D ih =>
   unfold del at ih ⊢
   by_cases e:p.1=k
   · rw[List.filter_cons_of_neg (by simp[e])]
     simp only[dz,List.map_cons,List.sum_cons] at ih ⊢
     omega
   · rw[List.filter_cons_of_pos (by simp[e])]
     simp only[dz,List.map_cons,List.sum_cons] at ih ⊢
     omega
theorem JQ (D:VM PD) (k:S) (d:PD):dz (put D k d)≤dz D+d.text.length:=by
 unfold put
 rw[Ck]
 have:=JO D k
 show d.text.length+_≤_
 omega
theorem wI {D:VM PD} (hs:aM D) {k:S} {d:PD} (h:get D k=some d):dz (del D k)+d.text.length=dz D:=by
 induction D with
 | nil=>cases h
 | cons p D ih =>
   obtain ⟨g1,g2⟩:=List.pairwise_cons.1 hs
   by_cases e:p.1=k
   · have hd:del D k=D:=by
       unfold del
       rw[List.filter_eq_self]
       intro q hq
       have : ¬ q.1=k:=fun e2=>by have:=g1 q hq;rw[e,e2,dL] at this;cases this
       simp[this]
     have e2:del (p::D) k=D:=by
       have:del (p::D) k=del D k:=by unfold del;rw[List.filter_cons_of_neg (by simp[e])]
       rw[this,hd]
     have e3:p.2=d:=by
       unfold get at h
       rw[List.find?_cons_of_pos (by simp[e])] at h
       exact Option.some.inj h
     rw[e2,← e3]
     simp only[dz,List.map_cons,List.sum_cons]
     omega
   · have e2:del (p::D) k=p::del D k:=by unfold del;rw[List.filter_cons_of_pos (by simp[e])]
     have h2:get D k=some d:=by
       unfold get at h ⊢
       rwa [List.find?_cons_of_neg (by simp[e])] at h
     have:=ih g2 h2
     rw[e2]
     simp only[dz,List.map_cons,List.sum_cons] at this ⊢
     omega
theorem Ny {D:VM PD} (hs:aM D) {k:S} {d:PD} (h:get D k=some d) (s:Int):dz (put D k (d.to s))=dz D:=by
 have:=wI hs h
 unfold put
 rw[Ck]
 show d.text.length+_=_
 omega
def GA (pl:Plan) (s:Step):Nat:=if s.1=2 then (match get pl.ins s.2 with
 | some d=>d.text.length
 | none=>0) else 0
theorem Ub (pl:Plan) {m:Mac} (hs:aM m.1) (s:Step):dz (aG pl m s).1≤dz m.1+GA pl s:=by
 unfold aG GA
 split
 · have:=JO m.1 s.2;show dz (del m.1 s.2)≤_;omega
 · split
   · cases get pl.ins s.2 with
     | none=>exact Nat.le_add_right _ _
     | some d=>exact JQ _ _ _
   · split
     · omega
     · next d hd =>
       split
       · show dz (put m.1 s.2 _)≤_;rw[Ny hs hd];omega
       · split
         · show dz (put m.1 s.2 _)≤_;rw[Ny hs hd];omega
         · omega
theorem Nt (pl:Plan):∀ (ss:List Step) {m:Mac},aM m.1→aM m.2→dz (aJ pl m ss).1≤dz m.1+(ss.map (GA pl)).sum
 | [],_,_,_=>by simp[aJ]
 | s::ss,m,h1,h2=>by
   obtain ⟨a,b⟩:=dx pl h1 h2 s
   have i:=Nt pl ss a b
   have j:=Ub pl h1 s
   simp only[aJ,List.foldl_cons,List.map_cons,List.sum_cons] at i ⊢
   omega
theorem BP (fr:VM PD→S→Bool) (I:VM PD):∀ (n:Nat) (D:VM PD),aM D→D.length=n→(∀ k d,get D k=some d→get I k=some d)→((jI fr n D).map fun x=>match get I x with
   | some d=>d.text.length
   | none=>0).sum=dz D
 | 0,D,_,hn,_=>by
   cases D with
   | nil=>rfl
   | cons p D=>simp at hn
 | n+1,D,hs,hn,hI=>by
   have hp:=mq fr (D:=D) (by omega)
   have hd:=mZ hs hp
   rw[aB] at hp
   obtain ⟨d,hd2⟩:=Option.isSome_iff_exists.1 hp
   have ih:=BP fr I n (del D (pick fr D)) (hs.del _) (by omega) (fun k d q=>by
     by_cases e:k=pick fr D
     · subst e;rw[bn] at q;cases q
     · rw[aV hs e] at q;exact hI k d q)
   have:=wI hs hd2
   rw[jI,List.map_cons,List.sum_cons,ih,hI _ _ hd2]
   simp only
   omega
theorem Qd {D:VM PD} {R:VM Value} {I:VM PD} (hI:aM I):((bf D R I).steps.map (GA (bf D R I))).sum=dz I:=by
 have e:(bf D R I).steps=(order bC (leaveD D R)).map (fun x=>(1,x))++(order aI I).map (fun x=>(2,x))++(order aI I).map (fun x=>(3,x))++(keysOf (bf D R I).cO).map (fun x=>(4,x)):=rfl
 have z:∀ (c:Int) (l:List S),c≠2→((l.map fun x=>((c,x):Step)).map (GA (bf D R I))).sum=0:=fun c l hc=>by
   induction l with
   | nil=>rfl
   | cons x l ih=>simp only[List.map_cons,List.sum_cons,ih];simp[GA,hc]
 have y:(((order aI I).map fun x=>((2,x):Step)).map (GA (bf D R I))).sum=dz I:=by
   rw[List.map_map,← BP aI I _ I hI rfl (fun _ _ h=>h)]
   rfl
 rw[e]
 simp only[List.map_append,List.sum_append,z 1 _ (by decide),z 3 _ (by decide),z 4 _ (by decide),y]
 omega
end Hv
end
section
open aH (St)
open Hv (S VM)
theorem vB (D:VM Hv.PD) (h:∀ k,(bg D k).length≤21):∀ (R Q:VM Value),(dQ D R Q).length≤Q.length+21*R.length
 | [],Q=>by simp[dQ]
 | p::R,Q=>by
   have e:dQ D (p::R) Q=dQ D R (bD Q (bg D p.1)):=rfl
   have h1:=vB D h R (bD Q (bg D p.1))
   have h2:=je (bg D p.1) Q
   have h3:=h p.1
   rw[e,List.length_cons]
   omega
theorem vo (D:VM Hv.PD) (h:∀ k,(bg D k).length≤21):∀ (I:VM Hv.PD) (Q:VM Value),(∀ p∈I,p.2.paths.length≤21)→(fO D I Q).length≤Q.length+42*I.length
 | [],Q,_=>by simp[fO]
 | p::I,Q,hI=>by
   have e:fO D (p::I) Q=fO D I (bD (bD Q (bg D p.1)) p.2.paths):=rfl
   have h1:=vo D h I (bD (bD Q (bg D p.1)) p.2.paths) (fun q hq=>hI q (by simp[hq]))
   have h2:=je (bg D p.1) Q
   have h4:=je p.2.paths (bD Q (bg D p.1))
   have h3:=h p.1
   have h5:=hI p (by simp)
   rw[e,List.length_cons]
   omega
theorem uy {d:Hv.PD} (h:Hv.Gw d):d.paths.length≤21∧∀ x∈d.paths,x.length≤24:=by
 refine ⟨by have:=(bV h).2.2.1.2.2.2.1;simp only[Hv.PD.paths,List.length_map];exact this,fun x hx => ?_⟩
 obtain ⟨q,hq,rfl⟩:=List.mem_map.1 hx
 exact oh ((bW h).2.2.files q hq).1
theorem nk {D:VM Hv.PD} (h:Hv.Named D) (k:S):(bg D k).length≤21∧∀ x∈bg D k,x.length≤24:=by
 unfold bg
 cases q:Hv.get D k with
 | none=>simp
 | some d=>exact uy (h k d q).2
theorem vw {D I:VM Hv.PD} (hD:Hv.Named D) (hI:Hv.Named I) (sI:Hv.aM I) (R:VM Value):(keysOf (aT D R I)).length≤21*R.length+42*I.length:=by
 have h1:=vB D (fun k=>(nk hD k).1) R []
 have h2:=vo D (fun k=>(nk hD k).1) I (dQ D R []) (fun p hp=>(uy (hI p.1 p.2 ((Hv.get_some sI).2 hp)).2).1)
 simp only[keysOf,List.length_map,aT,List.length_nil] at *
 omega
theorem sj {D I:VM Hv.PD} (hD:Hv.Named D) (hI:Hv.Named I) (sI:Hv.aM I) (R:VM Value):∀ x∈keysOf (aT D R I),x.length≤24:=fun x hx=>by
 have h1:=Hv.mem_keys hx
 obtain ⟨a,b,c⟩:=j3 D R [] List.Pairwise.nil (fun k v h=>by cases h)
 obtain ⟨_,_,c2⟩:=jZ D I (dQ D R []) a b
 have h2:=(c2 x).1 h1
 rcases h2 with h2 | ⟨p,hp,h2 | h2⟩
 · rcases (c x).1 h2 with h3 | ⟨p,_,h3⟩
   · cases h3
   · exact (nk hD p.1).2 x h3
 · exact (nk hD p.1).2 x h2
 · exact (uy (hI p.1 p.2 ((Hv.get_some sI).2 hp)).2).2 x h2
theorem xC {α:Type}:∀ (G E:VM α),(Hv.merge E G).length≤E.length+G.length
 | [],E=>Nat.le_refl _
 | p::G,E=>by
   have e:Hv.merge E (p::G)=Hv.merge (Hv.put E p.1 p.2) G:=rfl
   have h1:=xC G (Hv.put E p.1 p.2)
   have h2:=Hv.eZ E p.1 p.2
   rw[e,List.length_cons]
   omega
theorem Cu (P R I:VM Value):(pF P R I).length≤P.length+I.length:=by
 have h1:=xC I (Hv.cut P R)
 have h2:=Hv.Fe R P
 unfold pF
 omega
end
section
open Go.RowKit
open aH (St)
open Hv (S Dk VM)
def aa7 (w:World) (g:Nat):Prop:=∀ i cs fz,w.heap[g]? ≠ some (.cells cs (pty i) fz)
theorem dA.foreign {N C:Nat→Prop} {w w':World} {B:Nat} {D:VM Hv.PD} {E:VM Value} (h:dA N w D E) (hf:aQ B C w w') (hB:w.heap.size≤B) (hC:∀ g,C g→aa7 w g):dA N w' D E:=by
 have hr:∀ d v,vg N w d v→vg N w' d v:=by
   rintro d v ⟨p,h1,h2,h3,h4,h5,h6,h7⟩
   refine ⟨p,h1,h2,h3,h4,h5,h6.far hf hB (fun i g hg hc => ?_),h7⟩
   obtain ⟨cs,q⟩:=jv (h6.rows i) hg
   exact hC g hc i cs _ q
 exact ⟨h.dU,fun k v q=>(h.nD k v q).imp fun _ a=>⟨a.1,hr _ _ a.2⟩,fun k v q=>(h.wZ k v q).imp fun _ a=>⟨a.1,hr _ _ a.2⟩⟩
theorem qD {C:Nat→Prop} {w w':World} {b0 e size n B:Nat} {v:Value} {xs:List Value} (h:w.ownsRow b0 e size v n xs) (hf:aQ B C w w') (hB:w.heap.size≤B) (hC:∀ g,C g→∀ cs fz,w.heap[g]? ≠ some (.cells cs e fz)):w'.ownsRow b0 e size v n xs :=
 hf.own h hB fun g hg hc=>by
   obtain ⟨cs,q⟩:=jv h hg
   exact hC g hc cs _ q
theorem kL.foreign {N C:Nat→Prop} {w w':World} {B:Nat} {KD:VM (List S)} {K:VM Value} (h:kL N w KD K) (hf:aQ B C w w') (hB:w.heap.size≤B) (hC:∀ g,C g→∀ cs fz,w.heap[g]? ≠ some (.cells cs 9 fz)):kL N w' KD K :=
 h.kept fun k v g q hg=>by
   obtain ⟨xs,_,hr,_⟩:=h.nD k v q
   refine hf.block g (by have:=(hr.lt g hg).2;omega) fun hc => ?_
   obtain ⟨cs,q2⟩:=jv hr hg
   exact hC g hc cs _ q2
def kX (w:World) (C:Nat→Prop) (T:Nat→Prop):Prop:=∀ g,C g→∃ cs t fz,w.heap[g]? = some (.cells cs t fz)∧T t
theorem kX.aae {w:World} {C T:Nat→Prop} (h:kX w C T) (hT:∀ t,T t→∀ i,t≠pty i):∀ g,C g→aa7 w g:=fun g hg i cs fz q=>by
 obtain ⟨cs',t,fz',q',ht⟩:=h g hg
 rw[q] at q'
 cases q'
 exact hT _ ht i rfl
theorem kX.no {w:World} {C T:Nat→Prop} (h:kX w C T) {e:Nat} (hT:∀ t,T t→t≠e):∀ g,C g→∀ cs fz,w.heap[g]? ≠ some (.cells cs e fz):=fun g hg cs fz q=>by
 obtain ⟨cs',t,fz',q',ht⟩:=h g hg
 rw[q] at q'
 cases q'
 exact hT _ ht rfl
theorem kX.map {w w':World} {C T:Nat→Prop} {B b:Nat} {E:VM Value} (h:kX w C T) (hm:MapAt w b E) (hf:aQ B C w w') (hB:w.heap.size≤B):MapAt w' b E :=
 hm.far hf hB fun hc=>by
   obtain ⟨cs,t,fz,q,_⟩:=h b hc
   exact hm.fG cs t fz q
theorem Mg {t:Nat} (h1:t≠275) (h2:t≠9) (h3:t≠234) (h4:t≠317) (i:Fin 6):t≠pty i:=by
 match i with
 | 0=>exact h1
 | 1=>exact h2
 | 2=>exact h2
 | 3=>exact h3
 | 4=>exact h4
 | 5=>exact h4
end
section
open Go.RowKit
open aH (St gH)
open Hv (S Dk VM)
theorem oz (w:World):(zeroValue 162).run Tryz.prog w = .ok (.agg #[.string ⟨#[]⟩]) w:=Tryz.zeroValue162 w
theorem oN (x:Array UInt8) (w:World):(Instr.field 162 (.agg #[.string ⟨x⟩]) 0).run Tryz.prog w = .ok (.string ⟨x⟩) w:=by kernel_rfl
theorem pq (x y:List UInt8):(⟨x.toArray⟩:ByteArray)++⟨y.toArray⟩=⟨(x++y).toArray⟩:=by
 apply ByteArray.ext
 simp
def pU (mb pm fm:Nat) (P:VM Value) (G':VM S) (w:World) (e:Ending) (w':World):Prop:=∃ u,e = .returned u∧aK mb pm fm P (Hv.aS G') w'∧aQ w.heap.size (fun q=>q=fm) w w'
theorem aK.file {mb pm fm:Nat} {P F F':VM Value} {w w':World} (h:aK mb pm fm P F w) (hm:MapAt w' fm F') (ht:w.mapTurned w' fm):aK mb pm fm P F' w':=by
 have hf:=aX ht
 exact ⟨(hf.block mb (blt h.blk) h.apart.2.1).trans h.blk,h.packs.kept (hf.block pm h.packs.lt h.apart.2.2),hm,h.apart⟩
theorem Ze (mb pm fm:Nat) (P:VM Value) (G:VM S) (x y z:S) (hx:x.length≤maxLen)  (hG:G.length<maxLen) (wa:Option Addr) (wn wc:Nat) (w:World) (h:aK mb pm fm P (Hv.aS G) w) :
   Calls Tryz.prog 228 #[.pointer (some ⟨mb,0,none⟩), .agg #[.int .i64 1, .string ⟨x.toArray⟩, .string ⟨y.toArray⟩, .string ⟨z.toArray⟩], .slice wa wn wc] w (pU mb pm fm P (Hv.put G x y) w):=by
 have hrow:=heap_alloc_new w (.cells #[.int .i64 1, .string ⟨x.toArray⟩, .string ⟨y.toArray⟩, .string ⟨z.toArray⟩] 317)
 have dF:=hide (h.below ((Below.refl w.heap.size w).alloc (Nat.le_refl _) (.cells #[.int .i64 1, .string ⟨x.toArray⟩, .string ⟨y.toArray⟩, .string ⟨z.toArray⟩] 317)))
 have iV:=hide ((aQ.refl w.heap.size (fun q=>q=fm) w).alloc (Nat.le_refl _) (.cells #[.int .i64 1, .string ⟨x.toArray⟩, .string ⟨y.toArray⟩, .string ⟨z.toArray⟩] 317))
 have HG:=hide (Hv.bq h.files.1)
 have nX:(w.alloc (.cells #[.int .i64 1, .string ⟨x.toArray⟩, .string ⟨y.toArray⟩, .string ⟨z.toArray⟩] 317)).heap.size=w.heap.size+1:=by simp
 have hml:=blt h.blk
 have hfl:=h.files.lt
 have hfm:=h.apart.2.1
 clear h
 go_enter Tryz.func228,Tryz.ntmps228
 go_wp2_with fail
 obtain ⟨u,hu⟩:∃ u,w.alloc (.cells #[.int .i64 1, .string ⟨x.toArray⟩, .string ⟨y.toArray⟩, .string ⟨z.toArray⟩] 317)=u:=⟨_,rfl⟩
 rw[hu] at hrow dF iV nX ⊢
 clear hu
 obtain ⟨w',hrun,hM',ht⟩:=dF.out.files.drew.store Tryz.underlying139 (by rw[Hv.fP];exact hG) x hx (Hv.gW (y))
 simp only[Hv.gW] at hrun
 have hf:=aX ht
 have DK:Hid (aK mb pm fm P (Hv.aS (Hv.put G x y)) w'):=hide (by rw[Hv.lD HG.out];exact (show aK mb pm fm P (Hv.aS G) u.drew from ⟨dF.out.blk,dF.out.packs.drew,dF.out.files.drew,dF.out.apart⟩).file hM' ht)
 have NT:Hid (aQ w.heap.size (fun q=>q=fm) w w'):=hide (iV.out.drew.next hf (by simp;omega) (fun _ _ q=>q))
 have m1:=(ah dF.out.blk 1).trans (show _=some (.map (some fm)) from rfl)
 have Pq:=(ah DK.out.blk 1).trans (show _=some (.map (some fm)) from rfl)
 obtain ⟨B,hB⟩:∃ B,w.heap.size=B:=⟨_,rfl⟩
 have hrw:w'.heap[B]? = u.heap[B]? := hf.block B (by simp;omega) (by omega)
 rw[hB] at hrow ⊢
 have c1:=(ah hrow 1).trans (show _=some (.string ⟨x.toArray⟩) from rfl)
 have e1:=(ah (hrw.trans hrow) 1).trans (show _=some (.string ⟨x.toArray⟩) from rfl)
 have c2:=(ah hrow 2).trans (show _=some (.string ⟨y.toArray⟩) from rfl)
 have e2:=(ah (hrw.trans hrow) 2).trans (show _=some (.string ⟨y.toArray⟩) from rfl)
 clear hM' ht hf hrow hrw dF iV
 go_region_held3 (fun w'=>w'.cell? ⟨mb,1,none⟩=some (.map (some fm))∧w'.cell? ⟨B,1,none⟩=some (.string ⟨x.toArray⟩)∧w'.cell? ⟨B,2,none⟩=some (.string ⟨y.toArray⟩))
   (first | assumption | exact ⟨Pq,e1,e2⟩ | exact ⟨m1,c1,c2⟩ | simp[go_sem, *])
   (fail)
 go_wp2_with fail
 go_end0
 exact ⟨_,rfl,DK.out,NT.out⟩
theorem Ht (mb pm fm:Nat) (P:VM Value) (G:VM S) (x y z:S) (hx:x.length≤maxLen)  (hG:G.length<maxLen) (hy:y.length≤1000000) (hq:Hv.get G x=none) (wa:Option Addr) (wn wc:Nat) (w:World) (h:aK mb pm fm P (Hv.aS G) w) :
   Calls Tryz.prog 228 #[.pointer (some ⟨mb,0,none⟩), .agg #[.int .i64 2, .string ⟨x.toArray⟩, .string ⟨y.toArray⟩, .string ⟨z.toArray⟩], .slice wa wn wc] w (pU mb pm fm P (Hv.put G x ([]++y)) w):=by
 have hrow:=heap_alloc_new w (.cells #[.int .i64 2, .string ⟨x.toArray⟩, .string ⟨y.toArray⟩, .string ⟨z.toArray⟩] 317)
 have dF:=hide (h.below ((Below.refl w.heap.size w).alloc (Nat.le_refl _) (.cells #[.int .i64 2, .string ⟨x.toArray⟩, .string ⟨y.toArray⟩, .string ⟨z.toArray⟩] 317)))
 have iV:=hide ((aQ.refl w.heap.size (fun q=>q=fm) w).alloc (Nat.le_refl _) (.cells #[.int .i64 2, .string ⟨x.toArray⟩, .string ⟨y.toArray⟩, .string ⟨z.toArray⟩] 317))
 have HG:=hide (Hv.bq h.files.1)
 have nX:(w.alloc (.cells #[.int .i64 2, .string ⟨x.toArray⟩, .string ⟨y.toArray⟩, .string ⟨z.toArray⟩] 317)).heap.size=w.heap.size+1:=by simp
 have hml:=blt h.blk
 have hfl:=h.files.lt
 have hfm:=h.apart.2.1
 clear h
 go_enter Tryz.func228,Tryz.ntmps228
 go_wp2_with fail
 obtain ⟨u,hu⟩:∃ u,w.alloc (.cells #[.int .i64 2, .string ⟨x.toArray⟩, .string ⟨y.toArray⟩, .string ⟨z.toArray⟩] 317)=u:=⟨_,rfl⟩
 rw[hu] at hrow dF iV nX ⊢
 clear hu
 have hlk:=dF.out.files.drew.look Tryz.underlying139 (oz _) x hx
 rw[Hv.gN,hq] at hlk
 simp only[Option.map_none,Option.getD_none] at hlk
 have hfd:=oN #[]
 have j1 : ¬ 9223372036854775807<y.length:=by omega
 obtain ⟨w',hrun,hM',ht⟩:=dF.out.files.drew.store Tryz.underlying139 (by rw[Hv.fP];exact hG) x hx (Hv.gW ([]++y))
 simp only[Hv.gW] at hrun
 rw[show ByteArray.mk (([]:S)++y).toArray=ByteArray.mk #[]++ByteArray.mk y.toArray from (pq [] y).symm] at hrun
 have hf:=aX ht
 have DK:Hid (aK mb pm fm P (Hv.aS (Hv.put G x ([]++y))) w'):=hide (by rw[Hv.lD HG.out];exact (show aK mb pm fm P (Hv.aS G) u.drew from ⟨dF.out.blk,dF.out.packs.drew,dF.out.files.drew,dF.out.apart⟩).file hM' ht)
 have NT:Hid (aQ w.heap.size (fun q=>q=fm) w w'):=hide (iV.out.drew.next hf (by simp;omega) (fun _ _ q=>q))
 have m1:=(ah dF.out.blk 1).trans (show _=some (.map (some fm)) from rfl)
 have Pq:=(ah DK.out.blk 1).trans (show _=some (.map (some fm)) from rfl)
 obtain ⟨B,hB⟩:∃ B,w.heap.size=B:=⟨_,rfl⟩
 have hrw:w'.heap[B]? = u.heap[B]? := hf.block B (by simp;omega) (by omega)
 rw[hB] at hrow ⊢
 have c1:=(ah hrow 1).trans (show _=some (.string ⟨x.toArray⟩) from rfl)
 have e1:=(ah (hrw.trans hrow) 1).trans (show _=some (.string ⟨x.toArray⟩) from rfl)
 have c2:=(ah hrow 2).trans (show _=some (.string ⟨y.toArray⟩) from rfl)
 have e2:=(ah (hrw.trans hrow) 2).trans (show _=some (.string ⟨y.toArray⟩) from rfl)
 clear hM' ht hf hrow hrw dF iV
 go_region_held3 (fun w'=>w'.cell? ⟨mb,1,none⟩=some (.map (some fm))∧w'.cell? ⟨B,1,none⟩=some (.string ⟨x.toArray⟩)∧w'.cell? ⟨B,2,none⟩=some (.string ⟨y.toArray⟩))
   (first | assumption | exact ⟨Pq,e1,e2⟩ | exact ⟨m1,c1,c2⟩ | simp[go_sem, *])
   (fail)
 go_wp2_with fail
 go_end0
 exact ⟨_,rfl,DK.out,NT.out⟩
theorem Hu (mb pm fm:Nat) (P:VM Value) (G:VM S) (x y z:S) (hx:x.length≤maxLen)  (hG:G.length<maxLen) (hy:y.length≤1000000) (t:S) (ht0:t.length≤100000000) (hq:Hv.get G x=some t) (wa:Option Addr) (wn wc:Nat) (w:World) (h:aK mb pm fm P (Hv.aS G) w) :
   Calls Tryz.prog 228 #[.pointer (some ⟨mb,0,none⟩), .agg #[.int .i64 2, .string ⟨x.toArray⟩, .string ⟨y.toArray⟩, .string ⟨z.toArray⟩], .slice wa wn wc] w (pU mb pm fm P (Hv.put G x (t++y)) w):=by
 have hrow:=heap_alloc_new w (.cells #[.int .i64 2, .string ⟨x.toArray⟩, .string ⟨y.toArray⟩, .string ⟨z.toArray⟩] 317)
 have dF:=hide (h.below ((Below.refl w.heap.size w).alloc (Nat.le_refl _) (.cells #[.int .i64 2, .string ⟨x.toArray⟩, .string ⟨y.toArray⟩, .string ⟨z.toArray⟩] 317)))
 have iV:=hide ((aQ.refl w.heap.size (fun q=>q=fm) w).alloc (Nat.le_refl _) (.cells #[.int .i64 2, .string ⟨x.toArray⟩, .string ⟨y.toArray⟩, .string ⟨z.toArray⟩] 317))
 have HG:=hide (Hv.bq h.files.1)
 have nX:(w.alloc (.cells #[.int .i64 2, .string ⟨x.toArray⟩, .string ⟨y.toArray⟩, .string ⟨z.toArray⟩] 317)).heap.size=w.heap.size+1:=by simp
 have hml:=blt h.blk
 have hfl:=h.files.lt
 have hfm:=h.apart.2.1
 clear h
 go_enter Tryz.func228,Tryz.ntmps228
 go_wp2_with fail
 obtain ⟨u,hu⟩:∃ u,w.alloc (.cells #[.int .i64 2, .string ⟨x.toArray⟩, .string ⟨y.toArray⟩, .string ⟨z.toArray⟩] 317)=u:=⟨_,rfl⟩
 rw[hu] at hrow dF iV nX ⊢
 clear hu
 have hlk:=dF.out.files.drew.look Tryz.underlying139 (oz _) x hx
 rw[Hv.gN,hq] at hlk
 simp only[Option.map_some,Option.getD_some,Hv.gW] at hlk
 have hfd:=oN t.toArray
 have j1 : ¬ 9223372036854775807<t.length+y.length:=by omega
 obtain ⟨w',hrun,hM',ht⟩:=dF.out.files.drew.store Tryz.underlying139 (by rw[Hv.fP];exact hG) x hx (Hv.gW (t++y))
 simp only[Hv.gW] at hrun
 rw[← pq t y] at hrun
 have hf:=aX ht
 have DK:Hid (aK mb pm fm P (Hv.aS (Hv.put G x (t++y))) w'):=hide (by rw[Hv.lD HG.out];exact (show aK mb pm fm P (Hv.aS G) u.drew from ⟨dF.out.blk,dF.out.packs.drew,dF.out.files.drew,dF.out.apart⟩).file hM' ht)
 have NT:Hid (aQ w.heap.size (fun q=>q=fm) w w'):=hide (iV.out.drew.next hf (by simp;omega) (fun _ _ q=>q))
 have m1:=(ah dF.out.blk 1).trans (show _=some (.map (some fm)) from rfl)
 have Pq:=(ah DK.out.blk 1).trans (show _=some (.map (some fm)) from rfl)
 obtain ⟨B,hB⟩:∃ B,w.heap.size=B:=⟨_,rfl⟩
 have hrw:w'.heap[B]? = u.heap[B]? := hf.block B (by simp;omega) (by omega)
 rw[hB] at hrow ⊢
 have c1:=(ah hrow 1).trans (show _=some (.string ⟨x.toArray⟩) from rfl)
 have e1:=(ah (hrw.trans hrow) 1).trans (show _=some (.string ⟨x.toArray⟩) from rfl)
 have c2:=(ah hrow 2).trans (show _=some (.string ⟨y.toArray⟩) from rfl)
 have e2:=(ah (hrw.trans hrow) 2).trans (show _=some (.string ⟨y.toArray⟩) from rfl)
 clear hM' ht hf hrow hrw dF iV
 go_region_held3 (fun w'=>w'.cell? ⟨mb,1,none⟩=some (.map (some fm))∧w'.cell? ⟨B,1,none⟩=some (.string ⟨x.toArray⟩)∧w'.cell? ⟨B,2,none⟩=some (.string ⟨y.toArray⟩))
   (first | assumption | exact ⟨Pq,e1,e2⟩ | exact ⟨m1,c1,c2⟩ | simp[go_sem, *])
   (fail)
 go_wp2_with fail
 go_end0
 exact ⟨_,rfl,DK.out,NT.out⟩
theorem Wh (mb pm fm:Nat) (P:VM Value) (G:VM S) (x y z:S) (hx:x.length≤maxLen)  (wa:Option Addr) (wn wc:Nat) (w:World) (h:aK mb pm fm P (Hv.aS G) w) :
   Calls Tryz.prog 228 #[.pointer (some ⟨mb,0,none⟩), .agg #[.int .i64 4, .string ⟨x.toArray⟩, .string ⟨y.toArray⟩, .string ⟨z.toArray⟩], .slice wa wn wc] w (pU mb pm fm P (Hv.del G x) w):=by
 have hrow:=heap_alloc_new w (.cells #[.int .i64 4, .string ⟨x.toArray⟩, .string ⟨y.toArray⟩, .string ⟨z.toArray⟩] 317)
 have dF:=hide (h.below ((Below.refl w.heap.size w).alloc (Nat.le_refl _) (.cells #[.int .i64 4, .string ⟨x.toArray⟩, .string ⟨y.toArray⟩, .string ⟨z.toArray⟩] 317)))
 have iV:=hide ((aQ.refl w.heap.size (fun q=>q=fm) w).alloc (Nat.le_refl _) (.cells #[.int .i64 4, .string ⟨x.toArray⟩, .string ⟨y.toArray⟩, .string ⟨z.toArray⟩] 317))
 have HG:=hide (Hv.bq h.files.1)
 have nX:(w.alloc (.cells #[.int .i64 4, .string ⟨x.toArray⟩, .string ⟨y.toArray⟩, .string ⟨z.toArray⟩] 317)).heap.size=w.heap.size+1:=by simp
 have hml:=blt h.blk
 have hfl:=h.files.lt
 have hfm:=h.apart.2.1
 clear h
 go_enter Tryz.func228,Tryz.ntmps228
 go_wp2_with fail
 obtain ⟨u,hu⟩:∃ u,w.alloc (.cells #[.int .i64 4, .string ⟨x.toArray⟩, .string ⟨y.toArray⟩, .string ⟨z.toArray⟩] 317)=u:=⟨_,rfl⟩
 rw[hu] at hrow dF iV nX ⊢
 clear hu
 obtain ⟨w',hrun,hM',ht⟩:=dF.out.files.drew.drop Tryz.underlying139 x hx 0
 have hf:=aX ht
 have DK:Hid (aK mb pm fm P (Hv.aS (Hv.del G x)) w'):=hide (by rw[Hv.OT HG.out];exact (show aK mb pm fm P (Hv.aS G) u.drew from ⟨dF.out.blk,dF.out.packs.drew,dF.out.files.drew,dF.out.apart⟩).file hM' ht)
 have NT:Hid (aQ w.heap.size (fun q=>q=fm) w w'):=hide (iV.out.drew.next hf (by simp;omega) (fun _ _ q=>q))
 have m1:=(ah dF.out.blk 1).trans (show _=some (.map (some fm)) from rfl)
 have Pq:=(ah DK.out.blk 1).trans (show _=some (.map (some fm)) from rfl)
 obtain ⟨B,hB⟩:∃ B,w.heap.size=B:=⟨_,rfl⟩
 have hrw:w'.heap[B]? = u.heap[B]? := hf.block B (by simp;omega) (by omega)
 rw[hB] at hrow ⊢
 have c1:=(ah hrow 1).trans (show _=some (.string ⟨x.toArray⟩) from rfl)
 have e1:=(ah (hrw.trans hrow) 1).trans (show _=some (.string ⟨x.toArray⟩) from rfl)
 clear hM' ht hf hrow hrw dF iV
 go_region_held3 (fun w'=>w'.cell? ⟨mb,1,none⟩=some (.map (some fm))∧w'.cell? ⟨B,1,none⟩=some (.string ⟨x.toArray⟩))
   (first | assumption | exact ⟨Pq,e1⟩ | exact ⟨m1,c1⟩ | simp[go_sem, *])
   (fail)
 go_wp2_with fail
 go_end0
 exact ⟨_,rfl,DK.out,NT.out⟩
end
end Go.Proofs.YtialenebfcnkkaaGreatDoor
