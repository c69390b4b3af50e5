/- PlnW12, PlanMath, MacMath, PlnMath2, ForeignW, MchW3 -/
import Derived.Test.YtialenebfcnkkaaGreatDoorWokJ21
import Derived.Test.YtialenebfcnkkaaGreatDoorWokJ19
set_option maxHeartbeats 4000000
set_option maxRecDepth 100000
namespace Go.Proofs.YtialenebfcnkkaaGreatDoor
section
open Go.RowKit
open Arc (St)
open Hv (S Dk VM)
theorem pd_paths_len {N:Nat→Prop} {w:World} {d:Hv.PD} {v:Value} (h:PkR N w d v):d.paths.length≤21:=by
 obtain ⟨p,_,_,_,_,_,hpk,_⟩:=h
 have:=(parse_fits hpk.parse).2.2.1.2.2.2.1
 simp only[Hv.PD.paths,List.length_map]
 exact this
theorem changedPaths_any (mb pm fm rm im:Nat) (P F R I:VM Value) (D DI:VM Hv.PD) (N NI:Nat→Prop) (hR:AllU R) (hRl:R.length≤1000) (hIl:I.length≤1000) (w:World) (hm:MachAt mb pm fm P F w) (hw:WishAt rm im R I w) (hP:PkM N w D P) (hI:PkM NI w DI I) :
   Calls Tryz.prog 125 #[.pointer (some ⟨mb,0,none⟩), .agg #[.map (some rm), .map (some im)]] w fun e w'=>∃ v,e = .returned v∧w'.ownsRow w.heap.size 9 1 v (keysOf (changedQ D R DI)).length ((keysOf (changedQ D R DI)).map strV)∧Below w.heap.size w w':=by
 have hmm := @run_makeMap Tryz.prog
 have HM:=hide hm;have HW:=hide hw;have HPP:=hide hP;have HII:=hide hI;have HRU:=hide hR
 have hb1:=(Below.refl w.heap.size w).alloc (Nat.le_refl _) (.cells #[.map (some rm), .map (some im)] 135)
 have hr1:=heap_alloc_new w (.cells #[.map (some rm), .map (some im)] 135)
 have hs1:(w.alloc (.cells #[.map (some rm), .map (some im)] 135)).heap.size=w.heap.size+1:=by simp
 have hm2:=MapAt.made (w.alloc (.cells #[.map (some rm), .map (some im)] 135))
 have hb2:=hb1.alloc hb1.size (.map #[] 0)
 have hr2:=(Below.heap_alloc (w.alloc (.cells #[.map (some rm), .map (some im)] 135)) (.map #[] 0) w.heap.size (by simp)).trans hr1
 have hs2:((w.alloc (.cells #[.map (some rm), .map (some im)] 135)).alloc (.map #[] 0)).heap.size=w.heap.size+1+1:=by simp
 rw[hs1] at hm2
 have hm3:=hm2.alloc (.cells #[.map (some (w.heap.size+1))] 133)
 have hb3:=hb2.alloc hb2.size (.cells #[.map (some (w.heap.size+1))] 133)
 have hc3:=(row_cell (heap_alloc_new ((w.alloc (.cells #[.map (some rm), .map (some im)] 135)).alloc (.map #[] 0)) (.cells #[.map (some (w.heap.size+1))] 133)) 0).trans (show _=some (.map (some (w.heap.size+1))) from rfl)
 rw[hs2] at hc3
 have hr3:=(Below.heap_alloc ((w.alloc (.cells #[.map (some rm), .map (some im)] 135)).alloc (.map #[] 0)) (.cells #[.map (some (w.heap.size+1))] 133) w.heap.size (by simp;omega)).trans hr2
 have hs3:(((w.alloc (.cells #[.map (some rm), .map (some im)] 135)).alloc (.map #[] 0)).alloc (.cells #[.map (some (w.heap.size+1))] 133)).heap.size=w.heap.size+1+1+1:=by simp
 have c0:=(row_cell hr3 0).trans (show _=some (.map (some rm)) from rfl)
 have hrm:=HW.out.rem.below hb3
 have HB3:=hide hb3;have HM3:=hide hm3;have HC3:=hide hc3;have HR3:=hide hr3
 have hrl:=hw.rem.lt
 have hil:=hw.ins.lt
 have hml:=blt hm.blk
 have hpl:=hm.packs.lt
 clear hm hw hP hI hR hb1 hr1 hs1 hm2 hb2 hr2 hs2 hm3 hb3 hc3 hr3
 go_enter Tryz.func125,Tryz.ntmps125
 go_wp2_with (first
   | (at_range;refine wp_range rfl _ 133 rfl 53 Tryz.underlying133 hrm rfl ?_;intro w0 hrg0 hg0 hs0;have HG0:=hide hrg0;have HB0:=hide (HB3.out.grown hg0 HB3.out.size (fun q hq=>by cases hq));have HM0:=hide (HM3.out.kept (hg0.block _ HM3.out.lt (by simp)));have HC0:=hide ((World.cell?_of_block (a:=⟨w.heap.size+1+1,0,none⟩) (hg0.block (w.heap.size+1+1) (by rw[hs3];omega) (by simp))).trans HC3.out);have HR0:=hide ((hg0.block w.heap.size (by rw[hs3];omega) (by simp)).trans HR3.out)))
 rw[hs3] at HG0 hs0 ⊢
 go_frame
 clear hg0 hrg0 c0 hrm hs3
 go_loopw [15] (fun _ wr=>∃ (left:S→Bool) (cnt:Nat) (Q:VM Value),Hid (MapOn wr rm (w.heap.size+1+1+1) R left cnt)∧Hid (MapAt wr (w.heap.size+1) Q)∧Hid (ChR D R left Q)∧Q.length+21*cnt≤21*R.length∧Hid (wr.cell? ⟨w.heap.size+1+1,0,none⟩=some (.map (some (w.heap.size+1))))∧Hid (wr.heap[w.heap.size]? = some (.cells #[.map (some rm), .map (some im)] 135 (0,0)))∧Hid (Below w.heap.size w wr)∧w.heap.size+1+1+1<wr.heap.size)
   (fun _ wr=>wr.rangeLeft rm (w.heap.size+1+1+1))
 case atStart=>exact ⟨_,_,[],HG0,HM0,hide ⟨fun k v h=>(by cases h),fun x=>⟨fun h=>(by cases h),fun ⟨k,h1,h2,_⟩=>(by rw[h1] at h2;cases h2)⟩⟩,by simp,HC0,HR0,HB0,by omega⟩
 case round =>
   clear HG0 HM0 HC0 HR0 HB0
   obtain ⟨left,cnt,Q,HG,HQ,HS,hroom,HC,HR,HB,hsz⟩:=hrel
   go_wp2_with (first
     | (at_next;refine wp_next rfl _ rfl (w.heap.size+1+1+1) left cnt rfl HG.out ?_ ?_))
   · intro hc0 hl0
     have HQE:=hide (HS.out.done HQ.out.1 hl0)
     have c1:=(row_cell HR.out 1).trans (show _=some (.map (some im)) from rfl)
     have hi2:=HW.out.ins.below HB.out
     go_wp2_with (first
       | (at_range;refine wp_range rfl _ 86 rfl 156 Tryz.underlying86 hi2 rfl ?_;intro w1 hrg1 hg1 hs1;have HG1:=hide hrg1;have HB1:=hide (HB.out.grown hg1 HB.out.size (fun q hq=>by cases hq));have HQ1:=hide (HQ.out.kept (hg1.block _ HQ.out.lt (by simp)));have HC1:=hide ((World.cell?_of_block (a:=⟨w.heap.size+1+1,0,none⟩) (hg1.block (w.heap.size+1+1) (by omega) (by simp))).trans HC.out)))
     go_frame
     clear hg1 hrg1 c1 hi2 HG
     obtain ⟨B2,hB2⟩:∃ B2,wr.heap.size=B2:=⟨_,rfl⟩
     rw[hB2] at HG1 hs1 hsz
     have HQ0:=hide HQ.out.1
     have HU0:=hide HS.out.uni
     have hQl:Q.length≤21*R.length:=by omega
     clear HQ HS HC HR HB hroom hl0
     rw[hB2]
     clear hB2
     go_loopw [30] (fun _ wr2=>∃ (left:S→Bool) (cnt:Nat) (Q2:VM Value),Hid (MapOn wr2 im B2 I left cnt)∧Hid (MapAt wr2 (w.heap.size+1) Q2)∧Hid (ChI D DI Q left Q2)∧Q2.length+42*cnt≤21*R.length+42*I.length∧Hid (wr2.cell? ⟨w.heap.size+1+1,0,none⟩=some (.map (some (w.heap.size+1))))∧Hid (Below w.heap.size w wr2)∧B2<wr2.heap.size)
       (fun _ wr2=>wr2.rangeLeft im B2)
     case atStart=>exact ⟨_,_,Q,HG1,HQ1,hide ⟨HU0.out,fun x=>⟨.inl,fun h=>h.resolve_right (fun ⟨k,d,h1,h2,_⟩=>by rw[HII.out.has_eq,Hv.has_get,h1] at h2;cases h2)⟩⟩,by omega,HC1,HB1,by omega⟩
     case round =>
       clear HG1 HQ1 HC1 HB1
       obtain ⟨left2,cnt2,Q2,HG2,HQ2,HS2,hroom2,HC2,HB2,hsz2⟩:=hrel
       go_wp2_with (first
         | (at_next;refine wp_next rfl _ rfl B2 left2 cnt2 rfl HG2.out ?_ ?_))
       · intro hc2 hl2
         have HQE2:=hide ((HS2.out.done HII.out.srt HQ2.out.1 HQ0.out HU0.out hl2).trans (show _=changedQ D R DI by rw[HQE.out];rfl))
         have hl9:Q2.length≤1000000:=by omega
         have c3:=HC2.out
         go_wp2_with fail
         refine (callsIn_wide.1 (Tryz.maps_Keys_182 (some (w.heap.size+1)) wr)).mono ?_
         rintro e w8 ⟨rfl,rfl⟩
         go_wp2_with fail
         refine (callsIn_wide.1 (Tryz.slices_Sorted_keys_72_182 (w.heap.size+1) Q2.length (Hv.dOf Q2) Hv.hR wr HQ2.out.2 (by rw[Hv.d_size];unfold maxLen;omega) (by rw[Hv.d_size];omega))).mono ?_
         rintro e w9 ⟨v,ss,rfl,hS,hrow, -,hb⟩
         have hk:=sort_keys HQ2.out.1 hS
         have hl:ss.length=(keysOf Q2).length:=by rw[hS.length_eq,strKeys_d]
         rw[hk,hl,HQE2.out] at hrow
         have HR9:=hide hrow
         have HB9:=hide (HB2.out.trans (((Below.refl wr.heap.size wr).alloc (Nat.le_refl _) (.cells #[.map (some (w.heap.size+1))] 133)).trans (hb.mono (by simp)) |>.mono HB2.out.size))
         have hs9:=HB2.out.size
         clear hrow hb hk hl hS
         go_wp2_with fail
         go_ret
         exact ⟨v,rfl,own_base HR9.out (by simp;omega),HB9.out⟩
       · intro k v w4 cnt1 hk hlk hget hrg1 hlt hg1 hs1' hen
         obtain ⟨d,hd,hpkr⟩:=HII.out.to_ k v hget
         have HDD:=hide hd
         have HG1:=hide hrg1
         have HB4:=hide (HB2.out.grown hg1 HB2.out.size (fun q hq=>by cases hq;omega))
         have HQ4:=hide (HQ2.out.kept (hg1.block _ HQ2.out.lt (by simp;omega)))
         have HC4:=hide ((World.cell?_of_block (a:=⟨w.heap.size+1+1,0,none⟩) (hg1.block (w.heap.size+1+1) (by omega) (by simp;omega))).trans HC2.out)
         have hs4:w4.heap.size=wr.heap.size:=hs1'
         obtain ⟨p,rfl,pr⟩:=hpkr
         have HPR:=hide (show PkR NI w d p.val from ⟨p,rfl,pr⟩)
         simp only[Pk.val,Pk.cells] at hen ⊢
         clear hrg1 hg1 hget pr hd
         have hb5:=(Below.refl w4.heap.size w4).alloc (Nat.le_refl _) (.cells p.cells 156)
         have hrow5:=heap_alloc_new w4 (.cells p.cells 156)
         have hs5:(w4.alloc (.cells p.cells 156)).heap.size=w4.heap.size+1:=by simp
         have HG5:=hide (HG1.out.below hb5)
         have HB5:=hide (HB4.out.trans (hb5.mono (by omega)))
         have HQ5:=hide (HQ4.out.below hb5)
         have HC5:=hide ((hb5.cell (p:=⟨w.heap.size+1+1,0,none⟩) (show w.heap.size+1+1<w4.heap.size by omega)).trans HC4.out)
         have HR5:=hide hrow5
         simp only[Pk.cells] at HG5 HB5 HQ5 HC5 hs5
         have hm5:=HM.out.below HB5.out
         have m0:=(row_cell hm5.blk 0).trans (show _=some (.map (some pm)) from rfl)
         have hp5:=hm5.packs
         obtain ⟨z,hz⟩:∃ z,atOr P k=z:=⟨_,rfl⟩
         have hz2:(Hv.get P k).getD (.agg #[.string ⟨#[]⟩, .string ⟨#[]⟩, .string ⟨#[]⟩, .slice none 0 0, .slice none 0 0, .slice none 0 0, .slice none 0 0, .slice none 0 0, .slice none 0 0, .int .i64 0])=z:=hz
         have hcp:cnt1+1≤cnt2:=hlt
         have HA:=hide (adds_at (w.heap.size+1+1) (w.heap.size+1) Q2 (by omega) N D P k _ (HPP.out.below HB5.out) HQ5.out HC5.out)
         rw[hz] at HA
         clear hm5 hz
         go_wp2_with (first
           | (at_lookup;refine wp_look rfl _ _ 86 rfl 156 Tryz.underlying86 (zero_pk _) hp5 rfl k hk rfl ?_;rw[hz2]))
         refine HA.out.mono ?_
         rintro e w6 ⟨u6,rfl,hm6,hf6⟩
         have hl5:=addAll_len (pathsAt D k) Q2
         have hl6:=pathsAt_len HPP.out k
         have HQ6:=hide hm6
         have HG6:=hide (HG5.out.far hf6 (Nat.le_refl _) (by omega) (by omega))
         have HB6:=hide (HB5.out.trans (hf6.toBelow (by omega) (fun q hq (e:q=w.heap.size+1)=>by omega)))
         have HC6:=hide ((World.cell?_of_block (a:=⟨w.heap.size+1+1,0,none⟩) (hf6.block (w.heap.size+1+1) (by omega) (by omega))).trans HC5.out)
         have hr6:=(hf6.block w4.heap.size (by omega) (by omega)).trans HR5.out
         have hs6:=hf6.size
         have T:=Pk.at_ (show w6.heap[wr.heap.size]? = _ by rw[← hs4];exact hr6)
         have HA2:=hide (adds_pk (w.heap.size+1+1) (w.heap.size+1) (addAll Q2 (pathsAt D k)) (by omega) NI d p.val w6 (HPR.out.far ((Far.of (C:=fun q=>q=w.heap.size+1) HB5.out (Nat.le_refl _)).next hf6 (by omega) (fun _ _ q=>q)) (Nat.le_refl _) (fun g hg _ e=>by omega)) HQ6.out HC6.out)
         simp only[Pk.val,Pk.cells] at HA2
         clear hm6 hf6 hr6 hp5 m0 HQ5 HC5 HG5 HR5
         obtain ⟨t0,t1,t2,t3,t4,t5,t6,t7,t8,t9⟩:=T
         go_wp2_with fail
         refine HA2.out.mono ?_
         rintro e w7 ⟨u7,rfl,hm7,hf7⟩
         have hl7:=addAll_len d.paths (addAll Q2 (pathsAt D k))
         have hl8:=pd_paths_len HPR.out
         have HQ7:=hide hm7
         have HS7:=hide (HS2.out.step HQ2.out.1 HDD.out)
         have HG7:=hide (HG6.out.far hf7 (Nat.le_refl _) (by omega) (by omega))
         have HB7:=hide (HB6.out.trans (hf7.toBelow (by omega) (fun q hq (e:q=w.heap.size+1)=>by omega)))
         have HC7:=hide ((World.cell?_of_block (a:=⟨w.heap.size+1+1,0,none⟩) (hf7.block (w.heap.size+1+1) (by omega) (by omega))).trans HC6.out)
         have hs7:=hf7.size
         clear hm7 hf7 t0 t1 t2 t3 t4 t5 t6 t7 t8 t9
         go_wp2_with fail
         go_roundw
         case rel=>exact ⟨_,cnt1,_,HG7,HQ7,HS7,by omega,HC7,HB7,by omega⟩
         case measure=>rw[HG7.out.left_eq,HG2.out.left_eq];exact hlt
   · intro k v w4 cnt1 hk hlk hget hrg1 hlt hg1 hs1 hen
     obtain rfl:=HRU.out k v hget
     have hRk:Hv.has R k=true:=by rw[Hv.has_get,hget];rfl
     have HG1:=hide hrg1
     have HB4:=hide (HB.out.grown hg1 HB.out.size (fun q hq=>by cases hq;omega))
     have HQ4:=hide (HQ.out.kept (hg1.block _ HQ.out.lt (by simp)))
     have HC4:=hide ((World.cell?_of_block (a:=⟨w.heap.size+1+1,0,none⟩) (hg1.block (w.heap.size+1+1) (by omega) (by simp))).trans HC.out)
     have HR4:=hide ((hg1.block w.heap.size (by omega) (by simp;omega)).trans HR.out)
     have hs4:w4.heap.size=wr.heap.size:=hs1
     have hm4:=HM.out.below HB4.out
     have m0:=(row_cell hm4.blk 0).trans (show _=some (.map (some pm)) from rfl)
     have hp4:=hm4.packs
     obtain ⟨z,hz⟩:∃ z,atOr P k=z:=⟨_,rfl⟩
     have hz2:(Hv.get P k).getD (.agg #[.string ⟨#[]⟩, .string ⟨#[]⟩, .string ⟨#[]⟩, .slice none 0 0, .slice none 0 0, .slice none 0 0, .slice none 0 0, .slice none 0 0, .slice none 0 0, .int .i64 0])=z:=hz
     have HA:=hide (adds_at (w.heap.size+1+1) (w.heap.size+1) Q (by omega) N D P k w4 (HPP.out.below HB4.out) HQ4.out HC4.out)
     rw[hz] at HA
     clear hrg1 hg1 hget hm4 hz
     go_wp2_with (first
       | (at_lookup;refine wp_look rfl _ _ 86 rfl 156 Tryz.underlying86 (zero_pk _) hp4 rfl k hk rfl ?_;rw[hz2]))
     refine HA.out.mono ?_
     rintro e w5 ⟨u5,rfl,hm5,hf5⟩
     have hl5:=addAll_len (pathsAt D k) Q
     have hl6:=pathsAt_len HPP.out k
     have HQ5:=hide hm5
     have HS5:=hide (HS.out.step HQ.out.1 hRk)
     have HG5:=hide (HG1.out.far hf5 (Nat.le_refl _) (by omega) (by omega))
     have HB5:=hide (HB4.out.trans (hf5.toBelow (by omega) (fun q hq (e:q=w.heap.size+1)=>by omega)))
     have HC5:=hide ((World.cell?_of_block (a:=⟨w.heap.size+1+1,0,none⟩) (hf5.block (w.heap.size+1+1) (by omega) (by omega))).trans HC4.out)
     have HR5:=hide ((hf5.block w.heap.size (by omega) (by omega)).trans HR4.out)
     have hs5:=hf5.size
     clear hm5 hf5
     go_wp2_with fail
     go_roundw
     case rel=>exact ⟨_,cnt1,_,HG5,HQ5,HS5,by omega,HC5,HR5,HB5,by omega⟩
     case measure=>rw[HG5.out.left_eq,HG.out.left_eq];exact hlt
end
section
open Arc (St Cmd)
open Hv (S VM)
namespace Hv
theorem has_put_same {α:Type} {E:VM α} (h:Srt E) (k:S) (v:α):has (put E k v) k=true:=by rw[has_get,get_put_same h];rfl
theorem has_put_of {α:Type} {E:VM α} (h:Srt E) (k n:S) (v:α) (q:has E n=true):has (put E k v) n=true:=(put_has h k v n).2 (.inl q)
theorem has_del_of {α:Type} {E:VM α} (h:Srt E) {k n:S} (q:has E n=true) (e:n≠k):has (del E k) n=true:=by rw[has_get,get_del_other h e,← has_get];exact q
theorem mem_keysOf {α:Type} {E:VM α} {k:S}:k∈keysOf E ↔ has E k=true:=by
 constructor
 · exact mem_keys
 · intro h
   obtain ⟨p,hp,e⟩:=List.any_eq_true.1 h
   simp only[beq_iff_eq] at e
   exact List.mem_map.2 ⟨p,hp,e⟩
theorem orderL_mem (fr:VM PD→S→Bool):∀ (n:Nat) (D:VM PD),Srt D→D.length=n→∀ k,k∈orderL fr n D ↔ has D k=true
 | 0,D,_,hn,k=>by
   cases D with
   | nil=>simp[orderL,has]
   | cons p D=>simp at hn
 | n+1,D,hs,hn,k=>by
   have hp:=pick_has fr (D:=D) (by omega)
   have hd:=del_one hs hp
   have ih:=orderL_mem fr n (del D (pick fr D)) (hs.del _) (by omega) k
   rw[orderL,List.mem_cons,ih]
   constructor
   · rintro (rfl | h)
     · exact hp
     · exact has_del hs h
   · intro h
     by_cases e:k=pick fr D
     · exact .inl e
     · exact .inr (has_del_of hs h e)
theorem order_mem (fr:VM PD→S→Bool) {D:VM PD} (hs:Srt D) (k:S):k∈order fr D ↔ has D k=true:=orderL_mem fr _ D hs rfl k
theorem orderL_len (fr:VM PD→S→Bool):∀ (n:Nat) (D:VM PD),(orderL fr n D).length=n
 | 0,_=>rfl
 | n+1,D=>by simp[orderL,orderL_len fr n]
theorem order_len (fr:VM PD→S→Bool) (D:VM PD):(order fr D).length=D.length:=orderL_len fr _ D
def leaveD {β:Type} (D:VM PD) (R:VM β):VM PD:=D.filter fun p=>has R p.1
theorem leaveD_srt {β:Type} {D:VM PD} (h:Srt D) (R:VM β):Srt (leaveD D R):=h.filter _
theorem leaveD_get {β:Type} {D:VM PD} (h:Srt D) (R:VM β) (k:S):get (leaveD D R) k=if has R k=true then get D k else none:=by
 split
 · next e =>
   cases q:get D k with
   | none =>
     rw[get_none] at q ⊢
     exact fun p hp=>q p (List.mem_filter.1 hp).1
   | some d=>exact (get_some (leaveD_srt h R)).2 (List.mem_filter.2 ⟨(get_some h).1 q,e⟩)
 · next e =>
   rw[get_none]
   intro p hp ek
   rw[ek.symm] at e
   exact e (List.mem_filter.1 hp).2
noncomputable def planD (D:VM PD) (R:VM Value) (I:VM PD):Plan :=
 let wak:=wakeD (toBeD D R I) (keysOf (changedQ D R I))
 ⟨(order freeB (leaveD D R)).map (fun x=>(1,x))++(order freeA I).map (fun x=>(2,x))++(order freeA I).map (fun x=>(3,x))++(keysOf wak).map (fun x=>(4,x)),I,wak⟩
def RunOk (pl:Plan):Mac→List Step→Prop
 | _,[]=>True
 | m,s::ss=>StepOk pl m.1 s∧RunOk pl (stepD pl m s) ss
theorem RunOk.append {pl:Plan}:∀ {a:List Step} {m:Mac} {b:List Step},RunOk pl m a→RunOk pl (runS pl m a) b→RunOk pl m (a++b)
 | [],_,_,_,h=>h
 | _::_,_,_,h,h'=>⟨h.1,RunOk.append h.2 h'⟩
theorem RunOk.at_ {pl:Plan}:∀ {ss:List Step} {m:Mac} {n:Nat},RunOk pl m ss→(h:n<ss.length)→StepOk pl (runS pl m (ss.take n)).1 ss[n]
 | [],_,_,_,h=>by simp at h
 | s::ss,m,0,h,_=>h.1
 | s::ss,m,n+1,h,hn=>RunOk.at_ (ss:=ss) h.2 (by simpa using hn)
theorem runS_append (pl:Plan) (m:Mac) (a b:List Step):runS pl m (a++b)=runS pl (runS pl m a) b:=by simp[runS]
theorem runS_srt (pl:Plan):∀ (ss:List Step) {m:Mac},Srt m.1→Srt m.2→Srt (runS pl m ss).1∧Srt (runS pl m ss).2
 | [],_,h1,h2=>⟨h1,h2⟩
 | s::ss,m,h1,h2=>by
   obtain ⟨a,b⟩:=stepD_srt pl h1 h2 s
   exact runS_srt pl ss a b
theorem step_has (pl:Plan) {m:Mac} (h1:Srt m.1) {s:Step} {k:S} (hk:has m.1 k=true) (hs:s.1=1→s.2≠k):has (stepD pl m s).1 k=true:=by
 unfold stepD
 split
 · next e=>exact has_del_of h1 hk (fun e'=>hs e e'.symm)
 · split
   · split
     · exact has_put_of h1 _ _ _ hk
     · exact hk
   · split
     · exact hk
     · split
       · exact has_put_of h1 _ _ _ hk
       · split
         · exact has_put_of h1 _ _ _ hk
         · exact hk
theorem run_has (pl:Plan):∀ (ss:List Step) {m:Mac} {k:S},Srt m.1→Srt m.2→has m.1 k=true→(∀ s∈ss,s.1=1→s.2≠k)→has (runS pl m ss).1 k=true
 | [],_,_,_,_,h,_=>h
 | s::ss,m,k,h1,h2,h,hs=>by
   obtain ⟨a,b⟩:=stepD_srt pl h1 h2 s
   exact run_has pl ss a b (step_has pl h1 h (hs s (by simp))) (fun s' q=>hs s' (by simp[q]))
theorem run_unpack (pl:Plan):∀ (l:List S) {m:Mac},Srt m.1→Srt m.2→(∀ x∈l,has pl.ins x=true)→RunOk pl m (l.map fun x=>(2,x))∧∀ x∈l,has (runS pl m (l.map fun x=>(2,x))).1 x=true
 | [],_,_,_,_=>⟨trivial,fun x h=>by cases h⟩
 | x::l,m,h1,h2,hl=>by
   obtain ⟨a,b⟩:=stepD_srt pl h1 h2 (2,x)
   obtain ⟨i1,i2⟩:=run_unpack pl l a b (fun y hy=>hl y (by simp[hy]))
   have hx:has (stepD pl m (2,x)).1 x=true:=by
     have:=hl x (by simp)
     rw[has_get] at this
     obtain ⟨d,hd⟩:=Option.isSome_iff_exists.1 this
     simp only[stepD]
     rw[if_neg (by decide),if_pos trivial,hd]
     exact has_put_same h1 _ _
   refine ⟨⟨.inr (.inl ⟨rfl,hl x (by simp)⟩),i1⟩,fun y hy => ?_⟩
   rcases List.mem_cons.1 hy with rfl | hy
   · exact run_has pl (l.map fun x=>(2,x)) a b hx (fun s hs e=>by obtain ⟨z,_,rfl⟩:=List.mem_map.1 hs;cases e)
   · exact i2 y hy
theorem run_late (pl:Plan) (c:Int) (hc:c=3∨c=4):∀ (l:List S) {m:Mac},Srt m.1→Srt m.2→(∀ x∈l,has m.1 x=true)→RunOk pl m (l.map fun x=>(c,x))
 | [],_,_,_,_=>trivial
 | x::l,m,h1,h2,hl=>by
   obtain ⟨a,b⟩:=stepD_srt pl h1 h2 (c,x)
   refine ⟨.inr (.inr ⟨hc,hl x (by simp)⟩),run_late pl c hc l a b (fun y hy=>step_has pl h1 (hl y (by simp[hy])) (fun e => ?_))⟩
   rcases hc with rfl | rfl<;>cases e
theorem run_gone (pl:Plan):∀ (l:List S) (m:Mac),RunOk pl m (l.map fun x=>(1,x))
 | [],_=>trivial
 | _::l,_=>⟨.inl rfl,run_gone pl l _⟩
theorem toBeD_has {D:VM PD} (hD:Srt D) (R:VM Value) {I:VM PD} (hI:Srt I) (k:S):has (toBeD D R I) k=true ↔ has I k=true∨(has D k=true∧has R k=false):=by
 unfold toBeD
 rw[has_get,merge_get I _ (cut_srt R D hD) hI,cut_get R D hD,has_get I,has_get D]
 obtain ⟨r,hr⟩:∃ r,has R k=r:=⟨_,rfl⟩
 rw[hr]
 cases get I k<;>cases get D k<;>cases r<;>simp
theorem wakeD_has {D:VM PD} (hD:Srt D) (ch:List S) {k:S} (h:has (wakeD D ch) k=true):has D k=true:=by
 rw[has_get,wakeD_get hD] at h
 rw[has_get]
 cases q:get D k with
 | none=>rw[q] at h;cases h
 | some d=>rfl
theorem planD_ok {D:VM PD} {G:VM S} {R:VM Value} {I:VM PD} (hD:Srt D) (hG:Srt G) (hI:Srt I):RunOk (planD D R I) (D,G) (planD D R I).steps:=by
 have hpi:(planD D R I).ins=I:=rfl
 have e:(planD D R I).steps=(order freeB (leaveD D R)).map (fun x=>(1,x))++(order freeA I).map (fun x=>(2,x))++(order freeA I).map (fun x=>(3,x))++(keysOf (planD D R I).wak).map (fun x=>(4,x)):=rfl
 have ew:(planD D R I).wak=wakeD (toBeD D R I) (keysOf (changedQ D R I)):=rfl
 rw[e]
 obtain ⟨pl,hpl⟩:∃ pl,planD D R I=pl:=⟨_,rfl⟩
 rw[hpl] at hpi ew ⊢
 clear e hpl
 obtain ⟨a1,a2⟩:=runS_srt pl ((order freeB (leaveD D R)).map fun x=>(1,x)) (m:=(D,G)) hD hG
 obtain ⟨u1,u2⟩:=run_unpack pl (order freeA I) a1 a2 (fun x hx=>by rw[hpi];exact (order_mem freeA hI x).1 hx)
 obtain ⟨b1,b2⟩:=runS_srt pl ((order freeA I).map fun x=>(2,x)) a1 a2
 obtain ⟨c1,c2⟩:=runS_srt pl ((order freeA I).map fun x=>(3,x)) b1 b2
 have hT:Srt (toBeD D R I):=merge_srt _ _ (cut_srt R D hD)
 refine ((RunOk.append (run_gone pl _ _) u1).append ?_).append ?_
 · rw[runS_append]
   exact run_late pl 3 (.inl rfl) _ b1 b2 u2
 · rw[runS_append,runS_append]
   refine run_late pl 4 (.inr rfl) _ c1 c2 fun x hx => ?_
   refine run_has pl _ b1 b2 ?_ (fun s hs e=>by obtain ⟨z,_,rfl⟩:=List.mem_map.1 hs;cases e)
   have hx1:has (toBeD D R I) x=true:=wakeD_has hT _ (by rw[← ew];exact mem_keys hx)
   rcases (toBeD_has hD R hI x).1 hx1 with h | ⟨h,hr⟩
   · exact u2 x ((order_mem freeA hI x).2 h)
   · refine run_has pl _ a1 a2 ?_ (fun s hs e=>by obtain ⟨z,_,rfl⟩:=List.mem_map.1 hs;cases e)
     refine run_has pl _ hD hG h (fun s hs _ e' => ?_)
     obtain ⟨z,hz,rfl⟩:=List.mem_map.1 hs
     have h2:=(order_mem freeB (leaveD_srt hD R) z).1 hz
     have e3:z=x:=e'
     rw[has_get,leaveD_get hD,e3,hr] at h2
     simp at h2
end Hv
namespace Hv
def PDok (d:PD):Prop:=Arc.parse (short kTab) d.text=some (d.nm,d.ve,d.st)
def Named (D:VM PD):Prop:=∀ k d,get D k=some d→d.nm=k∧PDok d
theorem Named.nil:Named []:=fun k d h=>by cases h
theorem Named.put {D:VM PD} (h:Named D) (hs:Srt D) {k:S} {d:PD} (hk:d.nm=k) (hd:PDok d):Named (put D k d):=fun k' d' q=>by
 by_cases e:k'=k
 · subst e;rw[get_put_same hs] at q;cases q;exact ⟨hk,hd⟩
 · rw[get_put_other hs _ e] at q;exact h k' d' q
theorem Named.del {D:VM PD} (h:Named D) (hs:Srt D) (k:S):Named (del D k):=fun k' d' q=>by
 by_cases e:k'=k
 · subst e;rw[get_del_same] at q;cases q
 · rw[get_del_other hs e] at q;exact h k' d' q
theorem PDok.name {d:PD} (h:PDok d):Wd.isName d.nm=true:=(parse_good h).1
theorem Named.len {D:VM PD} (h:Named D) {k:S} (q:has D k=true):k.length≤12:=by
 rw[has_get] at q
 obtain ⟨d,hd⟩:=Option.isSome_iff_exists.1 q
 obtain ⟨a,b⟩:=h k d hd
 rw[← a];exact name_len b.name
def sumT (D:VM PD):Nat:=(D.map fun p=>p.2.text.length).sum
theorem sumT_V (D:VM PD):sumV D (fun _=>false)=sumT D:=by unfold sumV sumT;simp
theorem sumT_ins (x:S × PD):∀ l:VM PD,sumT (ins x l)=x.2.text.length+sumT l
 | []=>by simp[ins,sumT]
 | y::r=>by
   unfold ins
   split
   · simp[sumT]
   · have:=sumT_ins x r
     simp only[sumT,List.map_cons,List.sum_cons] at this ⊢
     omega
theorem sumT_del (D:VM PD) (k:S):sumT (del D k)≤sumT D:=by
 induction D with
 | nil=>simp[del,sumT]
 | cons p D ih =>
   unfold del at ih ⊢
   by_cases e:p.1=k
   · rw[List.filter_cons_of_neg (by simp[e])]
     simp only[sumT,List.map_cons,List.sum_cons] at ih ⊢
     omega
   · rw[List.filter_cons_of_pos (by simp[e])]
     simp only[sumT,List.map_cons,List.sum_cons] at ih ⊢
     omega
theorem sumT_put (D:VM PD) (k:S) (d:PD):sumT (put D k d)≤sumT D+d.text.length:=by
 unfold put
 rw[sumT_ins]
 have:=sumT_del D k
 show d.text.length+_≤_
 omega
theorem sumT_del_get {D:VM PD} (hs:Srt D) {k:S} {d:PD} (h:get D k=some d):sumT (del D k)+d.text.length=sumT D:=by
 induction D with
 | nil=>cases h
 | cons p D ih =>
   obtain ⟨g1,g2⟩:=List.pairwise_cons.1 hs
   by_cases e:p.1=k
   · have hd:del D k=D:=by
       unfold del
       rw[List.filter_eq_self]
       intro q hq
       have : ¬ q.1=k:=fun e2=>by have:=g1 q hq;rw[e,e2,bb_irrefl] at this;cases this
       simp[this]
     have e2:del (p::D) k=D:=by
       have:del (p::D) k=del D k:=by unfold del;rw[List.filter_cons_of_neg (by simp[e])]
       rw[this,hd]
     have e3:p.2=d:=by
       unfold get at h
       rw[List.find?_cons_of_pos (by simp[e])] at h
       exact Option.some.inj h
     rw[e2,← e3]
     simp only[sumT,List.map_cons,List.sum_cons]
     omega
   · have e2:del (p::D) k=p::del D k:=by unfold del;rw[List.filter_cons_of_pos (by simp[e])]
     have h2:get D k=some d:=by
       unfold get at h ⊢
       rwa [List.find?_cons_of_neg (by simp[e])] at h
     have:=ih g2 h2
     rw[e2]
     simp only[sumT,List.map_cons,List.sum_cons] at this ⊢
     omega
theorem sumT_to {D:VM PD} (hs:Srt D) {k:S} {d:PD} (h:get D k=some d) (s:Int):sumT (put D k (d.to s))=sumT D:=by
 have:=sumT_del_get hs h
 unfold put
 rw[sumT_ins]
 show d.text.length+_=_
 omega
def addS (pl:Plan) (s:Step):Nat:=if s.1=2 then (match get pl.ins s.2 with
 | some d=>d.text.length
 | none=>0) else 0
theorem step_sum (pl:Plan) {m:Mac} (hs:Srt m.1) (s:Step):sumT (stepD pl m s).1≤sumT m.1+addS pl s:=by
 unfold stepD addS
 split
 · have:=sumT_del m.1 s.2;show sumT (del m.1 s.2)≤_;omega
 · split
   · cases get pl.ins s.2 with
     | none=>exact Nat.le_add_right _ _
     | some d=>exact sumT_put _ _ _
   · split
     · omega
     · next d hd =>
       split
       · show sumT (put m.1 s.2 _)≤_;rw[sumT_to hs hd];omega
       · split
         · show sumT (put m.1 s.2 _)≤_;rw[sumT_to hs hd];omega
         · omega
theorem run_sum (pl:Plan):∀ (ss:List Step) {m:Mac},Srt m.1→Srt m.2→sumT (runS pl m ss).1≤sumT m.1+(ss.map (addS pl)).sum
 | [],_,_,_=>by simp[runS]
 | s::ss,m,h1,h2=>by
   obtain ⟨a,b⟩:=stepD_srt pl h1 h2 s
   have i:=run_sum pl ss a b
   have j:=step_sum pl h1 s
   simp only[runS,List.foldl_cons,List.map_cons,List.sum_cons] at i ⊢
   omega
theorem orderL_sum (fr:VM PD→S→Bool) (I:VM PD):∀ (n:Nat) (D:VM PD),Srt D→D.length=n→(∀ k d,get D k=some d→get I k=some d)→((orderL fr n D).map fun x=>match get I x with
   | some d=>d.text.length
   | none=>0).sum=sumT D
 | 0,D,_,hn,_=>by
   cases D with
   | nil=>rfl
   | cons p D=>simp at hn
 | n+1,D,hs,hn,hI=>by
   have hp:=pick_has fr (D:=D) (by omega)
   have hd:=del_one hs hp
   rw[has_get] at hp
   obtain ⟨d,hd2⟩:=Option.isSome_iff_exists.1 hp
   have ih:=orderL_sum fr I n (del D (pick fr D)) (hs.del _) (by omega) (fun k d q=>by
     by_cases e:k=pick fr D
     · subst e;rw[get_del_same] at q;cases q
     · rw[get_del_other hs e] at q;exact hI k d q)
   have:=sumT_del_get hs hd2
   rw[orderL,List.map_cons,List.sum_cons,ih,hI _ _ hd2]
   simp only
   omega
theorem planD_sum {D:VM PD} {R:VM Value} {I:VM PD} (hI:Srt I):((planD D R I).steps.map (addS (planD D R I))).sum=sumT I:=by
 have e:(planD D R I).steps=(order freeB (leaveD D R)).map (fun x=>(1,x))++(order freeA I).map (fun x=>(2,x))++(order freeA I).map (fun x=>(3,x))++(keysOf (planD D R I).wak).map (fun x=>(4,x)):=rfl
 have z:∀ (c:Int) (l:List S),c≠2→((l.map fun x=>((c,x):Step)).map (addS (planD D R I))).sum=0:=fun c l hc=>by
   induction l with
   | nil=>rfl
   | cons x l ih=>simp only[List.map_cons,List.sum_cons,ih];simp[addS,hc]
 have y:(((order freeA I).map fun x=>((2,x):Step)).map (addS (planD D R I))).sum=sumT I:=by
   rw[List.map_map,← orderL_sum freeA I _ I hI rfl (fun _ _ h=>h)]
   rfl
 rw[e]
 simp only[List.map_append,List.sum_append,z 1 _ (by decide),z 3 _ (by decide),z 4 _ (by decide),y]
 omega
end Hv
end
section
open Arc (St)
open Hv (S VM)
theorem changedR_len (D:VM Hv.PD) (h:∀ k,(pathsAt D k).length≤21):∀ (R Q:VM Value),(changedR D R Q).length≤Q.length+21*R.length
 | [],Q=>by simp[changedR]
 | p::R,Q=>by
   have e:changedR D (p::R) Q=changedR D R (addAll Q (pathsAt D p.1)):=rfl
   have h1:=changedR_len D h R (addAll Q (pathsAt D p.1))
   have h2:=addAll_len (pathsAt D p.1) Q
   have h3:=h p.1
   rw[e,List.length_cons]
   omega
theorem changedI_len (D:VM Hv.PD) (h:∀ k,(pathsAt D k).length≤21):∀ (I:VM Hv.PD) (Q:VM Value),(∀ p∈I,p.2.paths.length≤21)→(changedI D I Q).length≤Q.length+42*I.length
 | [],Q,_=>by simp[changedI]
 | p::I,Q,hI=>by
   have e:changedI D (p::I) Q=changedI D I (addAll (addAll Q (pathsAt D p.1)) p.2.paths):=rfl
   have h1:=changedI_len D h I (addAll (addAll Q (pathsAt D p.1)) p.2.paths) (fun q hq=>hI q (by simp[hq]))
   have h2:=addAll_len (pathsAt D p.1) Q
   have h4:=addAll_len p.2.paths (addAll Q (pathsAt D p.1))
   have h3:=h p.1
   have h5:=hI p (by simp)
   rw[e,List.length_cons]
   omega
theorem pdok_paths {d:Hv.PD} (h:Hv.PDok d):d.paths.length≤21∧∀ x∈d.paths,x.length≤24:=by
 refine ⟨by have:=(parse_fits h).2.2.1.2.2.2.1;simp only[Hv.PD.paths,List.length_map];exact this,fun x hx => ?_⟩
 obtain ⟨q,hq,rfl⟩:=List.mem_map.1 hx
 exact path_len ((parse_good h).2.2.files q hq).1
theorem named_paths {D:VM Hv.PD} (h:Hv.Named D) (k:S):(pathsAt D k).length≤21∧∀ x∈pathsAt D k,x.length≤24:=by
 unfold pathsAt
 cases q:Hv.get D k with
 | none=>simp
 | some d=>exact pdok_paths (h k d q).2
theorem changedQ_len {D I:VM Hv.PD} (hD:Hv.Named D) (hI:Hv.Named I) (sI:Hv.Srt I) (R:VM Value):(keysOf (changedQ D R I)).length≤21*R.length+42*I.length:=by
 have h1:=changedR_len D (fun k=>(named_paths hD k).1) R []
 have h2:=changedI_len D (fun k=>(named_paths hD k).1) I (changedR D R []) (fun p hp=>(pdok_paths (hI p.1 p.2 ((Hv.get_some sI).2 hp)).2).1)
 simp only[keysOf,List.length_map,changedQ,List.length_nil] at *
 omega
theorem changedQ_path {D I:VM Hv.PD} (hD:Hv.Named D) (hI:Hv.Named I) (sI:Hv.Srt I) (R:VM Value):∀ x∈keysOf (changedQ D R I),x.length≤24:=fun x hx=>by
 have h1:=Hv.mem_keys hx
 obtain ⟨a,b,c⟩:=changedR_good D R [] List.Pairwise.nil (fun k v h=>by cases h)
 obtain ⟨_,_,c2⟩:=changedI_good D I (changedR D R []) a b
 have h2:=(c2 x).1 h1
 rcases h2 with h2 | ⟨p,hp,h2 | h2⟩
 · rcases (c x).1 h2 with h3 | ⟨p,_,h3⟩
   · cases h3
   · exact (named_paths hD p.1).2 x h3
 · exact (named_paths hD p.1).2 x h2
 · exact (pdok_paths (hI p.1 p.2 ((Hv.get_some sI).2 hp)).2).2 x h2
theorem merge_len {α:Type}:∀ (G E:VM α),(Hv.merge E G).length≤E.length+G.length
 | [],E=>Nat.le_refl _
 | p::G,E=>by
   have e:Hv.merge E (p::G)=Hv.merge (Hv.put E p.1 p.2) G:=rfl
   have h1:=merge_len G (Hv.put E p.1 p.2)
   have h2:=Hv.put_len E p.1 p.2
   rw[e,List.length_cons]
   omega
theorem toBeOf_len (P R I:VM Value):(toBeOf P R I).length≤P.length+I.length:=by
 have h1:=merge_len I (Hv.cut P R)
 have h2:=Hv.cut_len R P
 unfold toBeOf
 omega
end
section
open Go.RowKit
open Arc (St)
open Hv (S Dk VM)
def NoPk (w:World) (g:Nat):Prop:=∀ i cs fz,w.heap[g]? ≠ some (.cells cs (pty i) fz)
theorem PkM.foreign {N C:Nat→Prop} {w w':World} {B:Nat} {D:VM Hv.PD} {E:VM Value} (h:PkM N w D E) (hf:Far B C w w') (hB:w.heap.size≤B) (hC:∀ g,C g→NoPk w g):PkM N w' D E:=by
 have hr:∀ d v,PkR N w d v→PkR N w' d v:=by
   rintro d v ⟨p,h1,h2,h3,h4,h5,h6,h7⟩
   refine ⟨p,h1,h2,h3,h4,h5,h6.far hf hB (fun i g hg hc => ?_),h7⟩
   obtain ⟨cs,q⟩:=own_cells (h6.rows i) hg
   exact hC g hc i cs _ q
 exact ⟨h.srt,fun k v q=>(h.to_ k v q).imp fun _ a=>⟨a.1,hr _ _ a.2⟩,fun k v q=>(h.fro k v q).imp fun _ a=>⟨a.1,hr _ _ a.2⟩⟩
theorem own_foreign {C:Nat→Prop} {w w':World} {b0 e size n B:Nat} {v:Value} {xs:List Value} (h:w.ownsRow b0 e size v n xs) (hf:Far B C w w') (hB:w.heap.size≤B) (hC:∀ g,C g→∀ cs fz,w.heap[g]? ≠ some (.cells cs e fz)):w'.ownsRow b0 e size v n xs :=
 hf.own h hB fun g hg hc=>by
   obtain ⟨cs,q⟩:=own_cells h hg
   exact hC g hc cs _ q
theorem WkM.foreign {N C:Nat→Prop} {w w':World} {B:Nat} {KD:VM (List S)} {K:VM Value} (h:WkM N w KD K) (hf:Far B C w w') (hB:w.heap.size≤B) (hC:∀ g,C g→∀ cs fz,w.heap[g]? ≠ some (.cells cs 9 fz)):WkM N w' KD K :=
 h.kept fun k v g q hg=>by
   obtain ⟨xs,_,hr,_⟩:=h.to_ k v q
   refine hf.block g (by have:=(hr.lt g hg).2;omega) fun hc => ?_
   obtain ⟨cs,q2⟩:=own_cells hr hg
   exact hC g hc cs _ q2
def Cellish (w:World) (C:Nat→Prop) (T:Nat→Prop):Prop:=∀ g,C g→∃ cs t fz,w.heap[g]? = some (.cells cs t fz)∧T t
theorem Cellish.noPk {w:World} {C T:Nat→Prop} (h:Cellish w C T) (hT:∀ t,T t→∀ i,t≠pty i):∀ g,C g→NoPk w g:=fun g hg i cs fz q=>by
 obtain ⟨cs',t,fz',q',ht⟩:=h g hg
 rw[q] at q'
 cases q'
 exact hT _ ht i rfl
theorem Cellish.no {w:World} {C T:Nat→Prop} (h:Cellish w C T) {e:Nat} (hT:∀ t,T t→t≠e):∀ g,C g→∀ cs fz,w.heap[g]? ≠ some (.cells cs e fz):=fun g hg cs fz q=>by
 obtain ⟨cs',t,fz',q',ht⟩:=h g hg
 rw[q] at q'
 cases q'
 exact hT _ ht rfl
theorem Cellish.map {w w':World} {C T:Nat→Prop} {B b:Nat} {E:VM Value} (h:Cellish w C T) (hm:MapAt w b E) (hf:Far B C w w') (hB:w.heap.size≤B):MapAt w' b E :=
 hm.far hf hB fun hc=>by
   obtain ⟨cs,t,fz,q,_⟩:=h b hc
   exact hm.no_row cs t fz q
theorem pty_ne {t:Nat} (h1:t≠275) (h2:t≠9) (h3:t≠234) (h4:t≠317) (i:Fin 6):t≠pty i:=by
 match i with
 | 0=>exact h1
 | 1=>exact h2
 | 2=>exact h2
 | 3=>exact h3
 | 4=>exact h4
 | 5=>exact h4
end
section
open Go.RowKit
open Arc (St Cmd)
open Hv (S Dk VM)
theorem zero_file (w:World):(zeroValue 162).run Tryz.prog w = .ok (.agg #[.string ⟨#[]⟩]) w:=Tryz.zeroValue162 w
theorem field_text (x:Array UInt8) (w:World):(Instr.field 162 (.agg #[.string ⟨x⟩]) 0).run Tryz.prog w = .ok (.string ⟨x⟩) w:=by kernel_rfl
theorem str_app (x y:List UInt8):(⟨x.toArray⟩:ByteArray)++⟨y.toArray⟩=⟨(x++y).toArray⟩:=by
 apply ByteArray.ext
 simp
def DoPost (mb pm fm:Nat) (P:VM Value) (G':VM S) (w:World) (e:Ending) (w':World):Prop:=∃ u,e = .returned u∧MachAt mb pm fm P (Hv.fileM G') w'∧Far w.heap.size (fun q=>q=fm) w w'
theorem MachAt.file {mb pm fm:Nat} {P F F':VM Value} {w w':World} (h:MachAt mb pm fm P F w) (hm:MapAt w' fm F') (ht:w.mapTurned w' fm):MachAt mb pm fm P F' w':=by
 have hf:=turned_far ht
 exact ⟨(hf.block mb (blt h.blk) h.apart.2.1).trans h.blk,h.packs.kept (hf.block pm h.packs.lt h.apart.2.2),hm,h.apart⟩
theorem do_put (mb pm fm:Nat) (P:VM Value) (G:VM S) (x y z:S) (hx:x.length≤maxLen)  (hG:G.length<maxLen) (wa:Option Addr) (wn wc:Nat) (w:World) (h:MachAt mb pm fm P (Hv.fileM G) w) :
   Calls Tryz.prog 228 #[.pointer (some ⟨mb,0,none⟩), .agg #[.int .i64 1, .string ⟨x.toArray⟩, .string ⟨y.toArray⟩, .string ⟨z.toArray⟩], .slice wa wn wc] w (DoPost mb pm fm P (Hv.put G x y) w):=by
 have hrow:=heap_alloc_new w (.cells #[.int .i64 1, .string ⟨x.toArray⟩, .string ⟨y.toArray⟩, .string ⟨z.toArray⟩] 317)
 have HM0:=hide (h.below ((Below.refl w.heap.size w).alloc (Nat.le_refl _) (.cells #[.int .i64 1, .string ⟨x.toArray⟩, .string ⟨y.toArray⟩, .string ⟨z.toArray⟩] 317)))
 have HF0:=hide ((Far.refl w.heap.size (fun q=>q=fm) w).alloc (Nat.le_refl _) (.cells #[.int .i64 1, .string ⟨x.toArray⟩, .string ⟨y.toArray⟩, .string ⟨z.toArray⟩] 317))
 have HG:=hide (Hv.srt_of_fileM h.files.1)
 have hus:(w.alloc (.cells #[.int .i64 1, .string ⟨x.toArray⟩, .string ⟨y.toArray⟩, .string ⟨z.toArray⟩] 317)).heap.size=w.heap.size+1:=by simp
 have hml:=blt h.blk
 have hfl:=h.files.lt
 have hfm:=h.apart.2.1
 clear h
 go_enter Tryz.func228,Tryz.ntmps228
 go_wp2_with fail
 obtain ⟨u,hu⟩:∃ u,w.alloc (.cells #[.int .i64 1, .string ⟨x.toArray⟩, .string ⟨y.toArray⟩, .string ⟨z.toArray⟩] 317)=u:=⟨_,rfl⟩
 rw[hu] at hrow HM0 HF0 hus ⊢
 clear hu
 obtain ⟨w',hrun,hM',ht⟩:=HM0.out.files.drew.store Tryz.underlying139 (by rw[Hv.fileM_len];exact hG) x hx (Hv.fileV (y))
 simp only[Hv.fileV] at hrun
 have hf:=turned_far ht
 have HM':Hid (MachAt mb pm fm P (Hv.fileM (Hv.put G x y)) w'):=hide (by rw[Hv.fileM_put HG.out];exact (show MachAt mb pm fm P (Hv.fileM G) u.drew from ⟨HM0.out.blk,HM0.out.packs.drew,HM0.out.files.drew,HM0.out.apart⟩).file hM' ht)
 have HF':Hid (Far w.heap.size (fun q=>q=fm) w w'):=hide (HF0.out.drew.next hf (by simp;omega) (fun _ _ q=>q))
 have m1:=(row_cell HM0.out.blk 1).trans (show _=some (.map (some fm)) from rfl)
 have m1':=(row_cell HM'.out.blk 1).trans (show _=some (.map (some fm)) from rfl)
 obtain ⟨B,hB⟩:∃ B,w.heap.size=B:=⟨_,rfl⟩
 have hrw:w'.heap[B]? = u.heap[B]? := hf.block B (by simp;omega) (by omega)
 rw[hB] at hrow ⊢
 have c1:=(row_cell hrow 1).trans (show _=some (.string ⟨x.toArray⟩) from rfl)
 have e1:=(row_cell (hrw.trans hrow) 1).trans (show _=some (.string ⟨x.toArray⟩) from rfl)
 have c2:=(row_cell hrow 2).trans (show _=some (.string ⟨y.toArray⟩) from rfl)
 have e2:=(row_cell (hrw.trans hrow) 2).trans (show _=some (.string ⟨y.toArray⟩) from rfl)
 clear hM' ht hf hrow hrw HM0 HF0
 go_region_held3 (fun w'=>w'.cell? ⟨mb,1,none⟩=some (.map (some fm))∧w'.cell? ⟨B,1,none⟩=some (.string ⟨x.toArray⟩)∧w'.cell? ⟨B,2,none⟩=some (.string ⟨y.toArray⟩))
   (first | assumption | exact ⟨m1',e1,e2⟩ | exact ⟨m1,c1,c2⟩ | simp[go_sem, *])
   (fail)
 go_wp2_with fail
 go_end0
 exact ⟨_,rfl,HM'.out,HF'.out⟩
theorem do_add_none (mb pm fm:Nat) (P:VM Value) (G:VM S) (x y z:S) (hx:x.length≤maxLen)  (hG:G.length<maxLen) (hy:y.length≤1000000) (hq:Hv.get G x=none) (wa:Option Addr) (wn wc:Nat) (w:World) (h:MachAt mb pm fm P (Hv.fileM G) w) :
   Calls Tryz.prog 228 #[.pointer (some ⟨mb,0,none⟩), .agg #[.int .i64 2, .string ⟨x.toArray⟩, .string ⟨y.toArray⟩, .string ⟨z.toArray⟩], .slice wa wn wc] w (DoPost mb pm fm P (Hv.put G x ([]++y)) w):=by
 have hrow:=heap_alloc_new w (.cells #[.int .i64 2, .string ⟨x.toArray⟩, .string ⟨y.toArray⟩, .string ⟨z.toArray⟩] 317)
 have HM0:=hide (h.below ((Below.refl w.heap.size w).alloc (Nat.le_refl _) (.cells #[.int .i64 2, .string ⟨x.toArray⟩, .string ⟨y.toArray⟩, .string ⟨z.toArray⟩] 317)))
 have HF0:=hide ((Far.refl w.heap.size (fun q=>q=fm) w).alloc (Nat.le_refl _) (.cells #[.int .i64 2, .string ⟨x.toArray⟩, .string ⟨y.toArray⟩, .string ⟨z.toArray⟩] 317))
 have HG:=hide (Hv.srt_of_fileM h.files.1)
 have hus:(w.alloc (.cells #[.int .i64 2, .string ⟨x.toArray⟩, .string ⟨y.toArray⟩, .string ⟨z.toArray⟩] 317)).heap.size=w.heap.size+1:=by simp
 have hml:=blt h.blk
 have hfl:=h.files.lt
 have hfm:=h.apart.2.1
 clear h
 go_enter Tryz.func228,Tryz.ntmps228
 go_wp2_with fail
 obtain ⟨u,hu⟩:∃ u,w.alloc (.cells #[.int .i64 2, .string ⟨x.toArray⟩, .string ⟨y.toArray⟩, .string ⟨z.toArray⟩] 317)=u:=⟨_,rfl⟩
 rw[hu] at hrow HM0 HF0 hus ⊢
 clear hu
 have hlk:=HM0.out.files.drew.look Tryz.underlying139 (zero_file _) x hx
 rw[Hv.fileM_get,hq] at hlk
 simp only[Option.map_none,Option.getD_none] at hlk
 have hfd:=field_text #[]
 have j1 : ¬ 9223372036854775807<y.length:=by omega
 obtain ⟨w',hrun,hM',ht⟩:=HM0.out.files.drew.store Tryz.underlying139 (by rw[Hv.fileM_len];exact hG) x hx (Hv.fileV ([]++y))
 simp only[Hv.fileV] at hrun
 rw[show ByteArray.mk (([]:S)++y).toArray=ByteArray.mk #[]++ByteArray.mk y.toArray from (str_app [] y).symm] at hrun
 have hf:=turned_far ht
 have HM':Hid (MachAt mb pm fm P (Hv.fileM (Hv.put G x ([]++y))) w'):=hide (by rw[Hv.fileM_put HG.out];exact (show MachAt mb pm fm P (Hv.fileM G) u.drew from ⟨HM0.out.blk,HM0.out.packs.drew,HM0.out.files.drew,HM0.out.apart⟩).file hM' ht)
 have HF':Hid (Far w.heap.size (fun q=>q=fm) w w'):=hide (HF0.out.drew.next hf (by simp;omega) (fun _ _ q=>q))
 have m1:=(row_cell HM0.out.blk 1).trans (show _=some (.map (some fm)) from rfl)
 have m1':=(row_cell HM'.out.blk 1).trans (show _=some (.map (some fm)) from rfl)
 obtain ⟨B,hB⟩:∃ B,w.heap.size=B:=⟨_,rfl⟩
 have hrw:w'.heap[B]? = u.heap[B]? := hf.block B (by simp;omega) (by omega)
 rw[hB] at hrow ⊢
 have c1:=(row_cell hrow 1).trans (show _=some (.string ⟨x.toArray⟩) from rfl)
 have e1:=(row_cell (hrw.trans hrow) 1).trans (show _=some (.string ⟨x.toArray⟩) from rfl)
 have c2:=(row_cell hrow 2).trans (show _=some (.string ⟨y.toArray⟩) from rfl)
 have e2:=(row_cell (hrw.trans hrow) 2).trans (show _=some (.string ⟨y.toArray⟩) from rfl)
 clear hM' ht hf hrow hrw HM0 HF0
 go_region_held3 (fun w'=>w'.cell? ⟨mb,1,none⟩=some (.map (some fm))∧w'.cell? ⟨B,1,none⟩=some (.string ⟨x.toArray⟩)∧w'.cell? ⟨B,2,none⟩=some (.string ⟨y.toArray⟩))
   (first | assumption | exact ⟨m1',e1,e2⟩ | exact ⟨m1,c1,c2⟩ | simp[go_sem, *])
   (fail)
 go_wp2_with fail
 go_end0
 exact ⟨_,rfl,HM'.out,HF'.out⟩
theorem do_add_some (mb pm fm:Nat) (P:VM Value) (G:VM S) (x y z:S) (hx:x.length≤maxLen)  (hG:G.length<maxLen) (hy:y.length≤1000000) (t:S) (ht0:t.length≤100000000) (hq:Hv.get G x=some t) (wa:Option Addr) (wn wc:Nat) (w:World) (h:MachAt mb pm fm P (Hv.fileM G) w) :
   Calls Tryz.prog 228 #[.pointer (some ⟨mb,0,none⟩), .agg #[.int .i64 2, .string ⟨x.toArray⟩, .string ⟨y.toArray⟩, .string ⟨z.toArray⟩], .slice wa wn wc] w (DoPost mb pm fm P (Hv.put G x (t++y)) w):=by
 have hrow:=heap_alloc_new w (.cells #[.int .i64 2, .string ⟨x.toArray⟩, .string ⟨y.toArray⟩, .string ⟨z.toArray⟩] 317)
 have HM0:=hide (h.below ((Below.refl w.heap.size w).alloc (Nat.le_refl _) (.cells #[.int .i64 2, .string ⟨x.toArray⟩, .string ⟨y.toArray⟩, .string ⟨z.toArray⟩] 317)))
 have HF0:=hide ((Far.refl w.heap.size (fun q=>q=fm) w).alloc (Nat.le_refl _) (.cells #[.int .i64 2, .string ⟨x.toArray⟩, .string ⟨y.toArray⟩, .string ⟨z.toArray⟩] 317))
 have HG:=hide (Hv.srt_of_fileM h.files.1)
 have hus:(w.alloc (.cells #[.int .i64 2, .string ⟨x.toArray⟩, .string ⟨y.toArray⟩, .string ⟨z.toArray⟩] 317)).heap.size=w.heap.size+1:=by simp
 have hml:=blt h.blk
 have hfl:=h.files.lt
 have hfm:=h.apart.2.1
 clear h
 go_enter Tryz.func228,Tryz.ntmps228
 go_wp2_with fail
 obtain ⟨u,hu⟩:∃ u,w.alloc (.cells #[.int .i64 2, .string ⟨x.toArray⟩, .string ⟨y.toArray⟩, .string ⟨z.toArray⟩] 317)=u:=⟨_,rfl⟩
 rw[hu] at hrow HM0 HF0 hus ⊢
 clear hu
 have hlk:=HM0.out.files.drew.look Tryz.underlying139 (zero_file _) x hx
 rw[Hv.fileM_get,hq] at hlk
 simp only[Option.map_some,Option.getD_some,Hv.fileV] at hlk
 have hfd:=field_text t.toArray
 have j1 : ¬ 9223372036854775807<t.length+y.length:=by omega
 obtain ⟨w',hrun,hM',ht⟩:=HM0.out.files.drew.store Tryz.underlying139 (by rw[Hv.fileM_len];exact hG) x hx (Hv.fileV (t++y))
 simp only[Hv.fileV] at hrun
 rw[← str_app t y] at hrun
 have hf:=turned_far ht
 have HM':Hid (MachAt mb pm fm P (Hv.fileM (Hv.put G x (t++y))) w'):=hide (by rw[Hv.fileM_put HG.out];exact (show MachAt mb pm fm P (Hv.fileM G) u.drew from ⟨HM0.out.blk,HM0.out.packs.drew,HM0.out.files.drew,HM0.out.apart⟩).file hM' ht)
 have HF':Hid (Far w.heap.size (fun q=>q=fm) w w'):=hide (HF0.out.drew.next hf (by simp;omega) (fun _ _ q=>q))
 have m1:=(row_cell HM0.out.blk 1).trans (show _=some (.map (some fm)) from rfl)
 have m1':=(row_cell HM'.out.blk 1).trans (show _=some (.map (some fm)) from rfl)
 obtain ⟨B,hB⟩:∃ B,w.heap.size=B:=⟨_,rfl⟩
 have hrw:w'.heap[B]? = u.heap[B]? := hf.block B (by simp;omega) (by omega)
 rw[hB] at hrow ⊢
 have c1:=(row_cell hrow 1).trans (show _=some (.string ⟨x.toArray⟩) from rfl)
 have e1:=(row_cell (hrw.trans hrow) 1).trans (show _=some (.string ⟨x.toArray⟩) from rfl)
 have c2:=(row_cell hrow 2).trans (show _=some (.string ⟨y.toArray⟩) from rfl)
 have e2:=(row_cell (hrw.trans hrow) 2).trans (show _=some (.string ⟨y.toArray⟩) from rfl)
 clear hM' ht hf hrow hrw HM0 HF0
 go_region_held3 (fun w'=>w'.cell? ⟨mb,1,none⟩=some (.map (some fm))∧w'.cell? ⟨B,1,none⟩=some (.string ⟨x.toArray⟩)∧w'.cell? ⟨B,2,none⟩=some (.string ⟨y.toArray⟩))
   (first | assumption | exact ⟨m1',e1,e2⟩ | exact ⟨m1,c1,c2⟩ | simp[go_sem, *])
   (fail)
 go_wp2_with fail
 go_end0
 exact ⟨_,rfl,HM'.out,HF'.out⟩
theorem do_drop (mb pm fm:Nat) (P:VM Value) (G:VM S) (x y z:S) (hx:x.length≤maxLen)  (wa:Option Addr) (wn wc:Nat) (w:World) (h:MachAt mb pm fm P (Hv.fileM G) w) :
   Calls Tryz.prog 228 #[.pointer (some ⟨mb,0,none⟩), .agg #[.int .i64 4, .string ⟨x.toArray⟩, .string ⟨y.toArray⟩, .string ⟨z.toArray⟩], .slice wa wn wc] w (DoPost mb pm fm P (Hv.del G x) w):=by
 have hrow:=heap_alloc_new w (.cells #[.int .i64 4, .string ⟨x.toArray⟩, .string ⟨y.toArray⟩, .string ⟨z.toArray⟩] 317)
 have HM0:=hide (h.below ((Below.refl w.heap.size w).alloc (Nat.le_refl _) (.cells #[.int .i64 4, .string ⟨x.toArray⟩, .string ⟨y.toArray⟩, .string ⟨z.toArray⟩] 317)))
 have HF0:=hide ((Far.refl w.heap.size (fun q=>q=fm) w).alloc (Nat.le_refl _) (.cells #[.int .i64 4, .string ⟨x.toArray⟩, .string ⟨y.toArray⟩, .string ⟨z.toArray⟩] 317))
 have HG:=hide (Hv.srt_of_fileM h.files.1)
 have hus:(w.alloc (.cells #[.int .i64 4, .string ⟨x.toArray⟩, .string ⟨y.toArray⟩, .string ⟨z.toArray⟩] 317)).heap.size=w.heap.size+1:=by simp
 have hml:=blt h.blk
 have hfl:=h.files.lt
 have hfm:=h.apart.2.1
 clear h
 go_enter Tryz.func228,Tryz.ntmps228
 go_wp2_with fail
 obtain ⟨u,hu⟩:∃ u,w.alloc (.cells #[.int .i64 4, .string ⟨x.toArray⟩, .string ⟨y.toArray⟩, .string ⟨z.toArray⟩] 317)=u:=⟨_,rfl⟩
 rw[hu] at hrow HM0 HF0 hus ⊢
 clear hu
 obtain ⟨w',hrun,hM',ht⟩:=HM0.out.files.drew.drop Tryz.underlying139 x hx 0
 have hf:=turned_far ht
 have HM':Hid (MachAt mb pm fm P (Hv.fileM (Hv.del G x)) w'):=hide (by rw[Hv.fileM_del HG.out];exact (show MachAt mb pm fm P (Hv.fileM G) u.drew from ⟨HM0.out.blk,HM0.out.packs.drew,HM0.out.files.drew,HM0.out.apart⟩).file hM' ht)
 have HF':Hid (Far w.heap.size (fun q=>q=fm) w w'):=hide (HF0.out.drew.next hf (by simp;omega) (fun _ _ q=>q))
 have m1:=(row_cell HM0.out.blk 1).trans (show _=some (.map (some fm)) from rfl)
 have m1':=(row_cell HM'.out.blk 1).trans (show _=some (.map (some fm)) from rfl)
 obtain ⟨B,hB⟩:∃ B,w.heap.size=B:=⟨_,rfl⟩
 have hrw:w'.heap[B]? = u.heap[B]? := hf.block B (by simp;omega) (by omega)
 rw[hB] at hrow ⊢
 have c1:=(row_cell hrow 1).trans (show _=some (.string ⟨x.toArray⟩) from rfl)
 have e1:=(row_cell (hrw.trans hrow) 1).trans (show _=some (.string ⟨x.toArray⟩) from rfl)
 clear hM' ht hf hrow hrw HM0 HF0
 go_region_held3 (fun w'=>w'.cell? ⟨mb,1,none⟩=some (.map (some fm))∧w'.cell? ⟨B,1,none⟩=some (.string ⟨x.toArray⟩))
   (first | assumption | exact ⟨m1',e1⟩ | exact ⟨m1,c1⟩ | simp[go_sem, *])
   (fail)
 go_wp2_with fail
 go_end0
 exact ⟨_,rfl,HM'.out,HF'.out⟩
end
end Go.Proofs.YtialenebfcnkkaaGreatDoor
