/- PlnW5, PlnW6, PlnMath, PlnW7, PlnW8, PlnW9, PlnW10 -/
import Derived.Test.YtialenebfcnkkaaGreatDoorWokJ19
set_option maxHeartbeats 4000000
set_option maxRecDepth 100000
namespace Go.Proofs.YtialenebfcnkkaaGreatDoor
section
open Go.RowKit
open Arc (St)
open Hv (S Dk VM)
namespace Hv
theorem del_one {α:Type}:∀ {E:VM α} {k:S},Srt E→has E k=true→(del E k).length+1=E.length
 | [],k,_,h=>by cases h
 | p::E,k,hs,h=>by
   obtain ⟨g1,g2⟩:=List.pairwise_cons.1 hs
   by_cases e:p.1=k
   · have hd:del E k=E:=by
       unfold del
       rw[List.filter_eq_self]
       intro q hq
       have : ¬ q.1=k:=fun e2=>by have:=g1 q hq;rw[e,e2,bb_irrefl] at this;cases this
       simp[this]
     have:del (p::E) k=del E k:=by unfold del;rw[List.filter_cons_of_neg (by simp[e])]
     rw[this,hd];rfl
   · have:del (p::E) k=p::del E k:=by unfold del;rw[List.filter_cons_of_pos (by simp[e])]
     rw[this]
     have h2:has E k=true:=by
       unfold has at h ⊢
       rw[List.any_cons] at h
       have:(p.1==k)=false:=by simp[e]
       rw[this] at h
       simpa using h
     have:=del_one g2 h2
     simp only[List.length_cons]
     omega
def pick (fr:VM PD→S→Bool) (D:VM PD):S:=match (keysOf D).find? (fr D) with
 | some k=>k
 | none=>(keysOf D).headD []
def orderL (fr:VM PD→S→Bool):Nat→VM PD→List S
 | 0,_=>[]
 | n+1,D=>pick fr D::orderL fr n (del D (pick fr D))
def order (fr:VM PD→S→Bool) (D:VM PD):List S:=orderL fr D.length D
theorem mem_keys {α:Type} {E:VM α} {k:S} (h:k∈keysOf E):has E k=true:=by
 obtain ⟨p,hp,e⟩:=List.mem_map.1 h
 exact List.any_eq_true.2 ⟨p,hp,by simp[e]⟩
theorem pick_has (fr:VM PD→S→Bool) {D:VM PD} (h:0<D.length):has D (pick fr D)=true:=by
 unfold pick
 cases q:(keysOf D).find? (fr D) with
 | some k=>exact mem_keys (List.mem_of_find?_eq_some q)
 | none =>
   cases D with
   | nil=>simp at h
   | cons p D=>exact mem_keys (by simp[keysOf])
theorem order_step (fr:VM PD→S→Bool) {D:VM PD} (hs:Srt D) (h:0<D.length):order fr D=pick fr D::order fr (del D (pick fr D)):=by
 have e:=del_one hs (pick_has fr h)
 have:order fr D=orderL fr ((del D (pick fr D)).length+1) D:=by unfold order;rw[e]
 rw[this]
 rfl
end Hv
theorem PkM.keys {N:Nat→Prop} {w:World} {D:VM Hv.PD} {E:VM Value} (h:PkM N w D E) (hE:Hv.Srt E):keysOf E=keysOf D:=by
 have e:(E.map fun p=>(p.1,()))=D.map fun p=>(p.1,()):=(hE.map fun _=>()).get_ext (h.srt.map fun _=>()) (fun k=>by
   rw[Hv.get_map E (fun _=>()),Hv.get_map D (fun _=>())]
   cases q:Hv.get E k with
   | none=>rw[h.get_none q];rfl
   | some v=>obtain ⟨d,hd,_⟩:=h.to_ k v q;rw[hd];rfl)
 have:=congrArg (List.map (·.1)) e
 simpa [keysOf,List.map_map,Function.comp_def] using this
theorem PkM.del {N:Nat→Prop} {w:World} {D:VM Hv.PD} {E:VM Value} (h:PkM N w D E) (hE:Hv.Srt E) (k:S):PkM N w (Hv.del D k) (Hv.del E k):=by
 refine ⟨h.srt.del k,fun k' v q => ?_,fun k' d q => ?_⟩
 · by_cases e:k'=k
   · subst e;rw[Hv.get_del_same] at q;cases q
   · rw[Hv.get_del_other hE e] at q;rw[Hv.get_del_other h.srt e];exact h.to_ k' v q
 · by_cases e:k'=k
   · subst e;rw[Hv.get_del_same] at q;cases q
   · rw[Hv.get_del_other h.srt e] at q;rw[Hv.get_del_other hE e];exact h.fro k' d q
theorem has_del {α:Type} {E:VM α} (hE:Hv.Srt E) {k n:S} (h:Hv.has (Hv.del E k) n=true):Hv.has E n=true:=by
 rw[Hv.has_get] at h ⊢
 by_cases e:n=k
 · subst e;rw[Hv.get_del_same] at h;cases h
 · rwa [Hv.get_del_other hE e] at h
theorem head_get {l:List S} (h:0<l.length):l[0]=l.headD []:=by
 cases l with
 | nil=>simp at h
 | cons a l=>rfl
structure OrdIn (fr:VM Hv.PD→S→Bool) (fv:Value) (D0:VM Hv.PD) (N:Nat→Prop) (B lb lm:Nat) (w wr:World) (o:Value) (done:List S) (D:VM Hv.PD) (E:VM Value):Prop where
 row:wr.ownsRow (lb+1) 9 1 o done.length (done.map strV)
 map:MapAt wr lm E
 pk:PkM N w D E
 left:Hv.order fr D0=done++Hv.order fr D
 lens:done.length+D.length=D0.length
 keys:∀ n,Hv.has D n=true→Hv.has D0 n=true
 f:wr.cell? ⟨B,0,none⟩=some fv
 l:wr.cell? ⟨lb,0,none⟩=some (.map (some lm))
 bel:Below B w wr
theorem order_A (pm:Nat) (P:VM Value) (D0:VM Hv.PD) (N:Nat→Prop) (hmany:P.length≤1000) (hks:∀ n,Hv.has D0 n=true→n.length≤12) (w:World) (hp:MapAt w pm P) (hP:PkM N w D0 P) :
   Calls Tryz.prog 126 #[.map (some pm), .func (.func 127) #[] #[]] w fun e w'=>∃ v,e = .returned v∧w'.ownsRow w.heap.size 9 1 v (Hv.order freeA D0).length ((Hv.order freeA D0).map strV)∧Below w.heap.size w w':=by
 obtain ⟨i0,hi,hz0,hz1,hz2⟩:=info_three info_str
 have HP:=hide hp;have HPP:=hide hP;have HKS:=hide hks
 have hpl:=hp.lt
 have hrow:=heap_alloc_new w (.cells #[.func (.func 127) #[] #[]] 216)
 have hb0:=(Below.refl w.heap.size w).alloc (Nat.le_refl _) (.cells #[.func (.func 127) #[] #[]] 216)
 have hsz:(w.alloc (.cells #[.func (.func 127) #[] #[]] 216)).heap.size=w.heap.size+1:=by simp
 have HD0:=hide (hP.len hp.1)
 clear hp hP hks
 go_enter Tryz.func126,Tryz.ntmps126
 go_wp2_with fail
 refine (cloneP_any pm P _ (HP.out.below hb0)).mono ?_
 rintro e w1 ⟨rfl,hm1,hb1⟩
 have hlt1:=hm1.lt
 rw[hsz] at hm1 hlt1 ⊢
 have hb01:=hb0.trans (hb1.mono hb0.size)
 have HI0:Hid (OrdIn freeA (.func (.func 127) #[] #[]) D0 N w.heap.size w1.heap.size (w.heap.size+1) w (w1.alloc (.cells #[.map (some (w.heap.size+1))] 86)) (.slice none 0 0) [] D0 P):=hide
   ⟨World.ownsRow_nil _ _ _ _,hm1.alloc _,HPP.out,rfl,by simp,fun n h=>h,
     (alloc_cell (by omega) _).trans ((World.cell?_of_block (a:=⟨w.heap.size,0,none⟩) (hb1.block w.heap.size (by omega))).trans ((row_cell hrow 0).trans rfl)),(row_cell (heap_alloc_new w1 _) 0).trans rfl,hb01.alloc hb01.size _⟩
 obtain ⟨lb,hlb⟩:∃ lb,w1.heap.size=lb:=⟨_,rfl⟩
 have hlbg:w.heap.size+1<lb:=by omega
 obtain ⟨B,hB⟩:∃ B,w.heap.size=B:=⟨_,rfl⟩
 have HBE:=hide hB
 rw[hlb] at HI0
 rw[hB] at hlbg HI0
 clear hrow hb0 hsz hm1 hb1 hb01 hlt1
 go_wp2_with fail
 go_loopw [6] (fun o wr=>∃ (done:List S) (D:VM Hv.PD) (E:VM Value) (oo:Option Addr) (oc:Nat),o = .slice oo done.length oc∧Hid (OrdIn freeA (.func (.func 127) #[] #[]) D0 N B lb (B+1) w wr o done D E)) (fun o _=>D0.length-lenOf o)
 case atStart=>exact ⟨[],D0,P,none,0,rfl,HI0⟩
 case round =>
   clear HI0
   obtain ⟨done,D,E,oo,oc,rfl,HI⟩:=hrel
   have hml:=HI.out.map.len Tryz.underlying86 3
   have hEl:=HI.out.pk.len HI.out.map.1
   rw[hEl] at hml
   have HEL:=hide hEl
   clear hEl
   have l0:=HI.out.l
   have hD1000:D.length≤1000:=by have:=HI.out.lens;have:=HD0.out;omega
   have hdone:done.length≤1000:=by have:=HI.out.lens;have:=HD0.out;omega
   by_cases hz:D.length=0
   · have g3 : ¬ (0:Int)<(D.length:Int):=by omega
     have HE:Hid (Hv.order freeA D0=done):=hide (by rw[HI.out.left];unfold Hv.order;rw[hz];simp[Hv.orderL])
     go_wp2_with fail
     go_ret
     rw[HE.out]
     exact ⟨_,rfl,own_base HI.out.row (by omega),HI.out.bel⟩
   · have g3:(0:Int)<(D.length:Int):=by omega
     go_wp2_with fail
     refine (callsIn_wide.1 (Tryz.maps_Keys_135 (some (B+1)) wr)).mono ?_
     rintro e w2 ⟨rfl,rfl⟩
     go_wp2_with fail
     refine (callsIn_wide.1 (Tryz.slices_Sorted_keys_72_135 (B+1) E.length (Hv.dOf E) Hv.hR wr HI.out.map.2 (by rw[Hv.d_size,HEL.out];unfold maxLen;omega) (by rw[Hv.d_size,HEL.out];omega))).mono ?_
     rintro e w3 ⟨v,ss,rfl,hS,hrow, -,hb⟩
     have hk:=sort_keys HI.out.map.1 hS
     have hl:ss.length=(keysOf D).length:=by rw[hS.length_eq,strKeys_d,HI.out.pk.keys HI.out.map.1]
     rw[hk,hl,HI.out.pk.keys HI.out.map.1] at hrow
     have hwz:(wr.alloc (.cells #[.map (some (B+1))] 86)).heap.size=wr.heap.size+1:=by simp
     have hB1:B+1<wr.heap.size:=HI.out.map.lt
     have hrow3:=own_base (B:=wr.heap.size) hrow (by simp)
     have HR3:=hide (show w3.ownsRow wr.heap.size 9 1 v (keysOf D).length ((keysOf D).map strV) from hrow3)
     have HB3:=hide (((Below.refl wr.heap.size wr).alloc (Nat.le_refl _) (.cells #[.map (some (B+1))] 86)).trans (hb.mono (by simp)))
     have HM3:=hide (HI.out.map.below HB3.out)
     have HBB:=hide (HI.out.bel.trans (HB3.out.mono (by omega)))
     have HP3:=hide (HI.out.pk.below (show Below w.heap.size w w3 by rw[HBE.out];exact HBB.out))
     have HO3:=hide (own_below HI.out.row HB3.out)
     have hflt:B<wr.heap.size:=World.block_lt_of_cell? wr _ HI.out.f
     have hllt:lb<wr.heap.size:=World.block_lt_of_cell? wr _ HI.out.l
     have f3:=(HB3.out.cell (p:=⟨B,0,none⟩) hflt).trans HI.out.f
     have l3:=(HB3.out.cell (p:=⟨lb,0,none⟩) hllt).trans HI.out.l
     obtain ⟨ka,kc,rfl⟩:=slice_form HR3.out
     have HKL:Hid ((keysOf D).length=D.length):=hide (by unfold keysOf;simp)
     have HKN:=hide (show ∀ n∈keysOf D,n.length≤maxLen∧Hv.has D n=true from fun n hn=>⟨by have:=HKS.out n (HI.out.keys n (Hv.mem_keys hn));unfold maxLen;omega,Hv.mem_keys hn⟩)
     have HF3:=hide f3;have HL3:=hide l3
     clear hrow hrow3 hb hk hl hS hwz l0 hml
     go_wp2_with fail
     refine (first_A (B+1) B lb E D N (keysOf D) (by rw[HKL.out];omega) HKN.out wr.heap.size (.slice ka (keysOf D).length kc) w3 HR3.out HM3.out HP3.out HF3.out HL3.out).mono ?_
     rintro e w4 ⟨i,rfl,hif,hb4⟩
     have hjj:∃ jj:Nat,max 0 i=(jj:Int)∧∃ h:jj<(keysOf D).length,(keysOf D)[jj]=Hv.pick freeA D:=by
       rcases hif with ⟨j,rfl,h1,h2⟩ | ⟨rfl,h2⟩
       · exact ⟨j,by omega,h1,by unfold Hv.pick;rw[h2]⟩
       · refine ⟨0,by omega,by rw[HKL.out];omega,?_⟩
         have:(keysOf D).find? (freeA D)=none:=List.find?_eq_none.2 (fun x hx=>by rw[h2 x hx];simp)
         unfold Hv.pick
         rw[this]
         simp only
         exact head_get _
     obtain ⟨jj,hmx,hjl,hje⟩:=hjj
     have hR4:=own_below HR3.out hb4
     obtain ⟨g,c',hv2,hg,q1⟩:=strs_at hR4 hjl
     obtain rfl:ka=some ⟨g,0,none⟩:=(Value.slice.inj hv2).1
     have hgw:wr.heap.size≤g:=own_ge hR4 rfl
     have HPH:=hide (Hv.pick_has freeA (D:=D) (by omega))
     have HST:=hide (Hv.order_step freeA HI.out.pk.srt (by omega))
     have hjb:(jj:Int)<((keysOf D).length:Int):=by omega
     rw[hje] at q1
     obtain ⟨x,hx⟩:∃ x,Hv.pick freeA D=x:=⟨_,rfl⟩
     rw[hx] at q1 HPH HST
     have hxl:x.length≤maxLen:=(HKN.out x (by rw[← hx,← hje];exact List.getElem_mem hjl)).1
     obtain ⟨kl,hkl⟩:∃ kl,(keysOf D).length=kl:=⟨_,rfl⟩
     have HKL2:=hide hkl
     have hl4:=(hb4.cell (p:=⟨lb,0,none⟩) (Nat.lt_of_lt_of_le hllt HB3.out.size)).trans HL3.out
     have hf4:=(hb4.cell (p:=⟨B,0,none⟩) (Nat.lt_of_lt_of_le hflt HB3.out.size)).trans HF3.out
     have HO4:=hide (own_below HO3.out hb4)
     have HM4:=hide (HM3.out.below hb4)
     have HB4:=hide (HB3.out.trans (hb4.mono HB3.out.size))
     have HF4:=hide hf4;have HL4:=hide hl4;have HQ4:=hide q1
     rw[hkl] at hjb ⊢
     clear hif hjl hje hR4 hv2 hx hb4 HR3 HKN HKL hkl hf4
     go_wp2_with (first
       | (at_builtin;refine wpList_append_own _ rfl _ _ 28 rfl (lb+1) 9 i0 (.string ByteArray.empty) 1 16 Tryz.underlying28 hi hz0 hz1 hz2 rfl (by decide) _ _ _ rfl (HO4.out.alloc _) ⟨w4.heap.size,0,none⟩ 1 1 [.string ⟨x.toArray⟩] rfl rfl (cell_one_new _ _ _) (fun x hx=>by simp at hx;subst hx;rfl) (by unfold maxLen;omega) (by omega) (by simp;omega) ?_;intro v' w5 hown' hgrow5 hnil5))
     obtain ⟨g3,cap,rfl⟩:=own_form hown' (by omega)
     have hwr4:=HB4.out.size
     have hs4:(w4.alloc (.cells #[.string ⟨x.toArray⟩] 9)).heap.size=w4.heap.size+1:=by simp
     have hne:∀ q,(Value.slice oo done.length oc).ownBlock=some q→lb+1≤q∧q<wr.heap.size:=fun q hq=>HI.out.row.lt q hq
     have blk5:∀ k,k<w4.heap.size→(k≤lb∨wr.heap.size≤k)→w5.heap[k]? = w4.heap[k]? := fun k hk hc=>(hgrow5.block k (by rw[hs4];omega) (fun e=>by have:=hne k e.symm;omega)).trans (Below.heap_alloc w4 _ k hk)
     have l5:=(World.cell?_of_block (a:=⟨lb,0,none⟩) (blk5 lb (by omega) (.inl (Nat.le_refl _)))).trans HL4.out
     have f5:=(World.cell?_of_block (a:=⟨B,0,none⟩) (blk5 B (by omega) (.inl (by omega)))).trans HF4.out
     have q5:=(World.cell?_of_block (a:=⟨g,jj,none⟩) (blk5 g hg (.inr hgw))).trans HQ4.out
     have M5:=HM4.out.kept (blk5 (B+1) (by omega) (.inl (by omega)))
     have bel5:=((HI.out.bel.trans (HB4.out.mono (by omega))).alloc (by omega) (.cells #[.string ⟨x.toArray⟩] 9)).grown hgrow5 (by rw[hs4];omega) (fun q hq=>by have:=hne q hq;omega)
     have hg5:g<w5.heap.size:=World.block_lt_of_cell? w5 _ q5
     have hl5:lb<w5.heap.size:=World.block_lt_of_cell? w5 _ l5
     obtain ⟨w6,hrun,hM6,ht6⟩:=M5.drew.drop Tryz.underlying86 x hxl 0
     have hf6:=turned_far ht6
     have k6:∀ k,k<w5.heap.size→k≠B+1→w6.heap[k]? = w5.heap[k]? := fun k hk hc=>hf6.block k hk hc
     have l6:=(World.cell?_of_block (a:=⟨lb,0,none⟩) (k6 lb hl5 (by omega))).trans l5
     have q6:=(World.cell?_of_block (a:=⟨g,jj,none⟩) (k6 g hg5 (by omega))).trans q5
     have f6:=(World.cell?_of_block (a:=⟨B,0,none⟩) (k6 B (by omega) (by omega))).trans f5
     have HI6:Hid (OrdIn freeA (.func (.func 127) #[] #[]) D0 N B lb (B+1) w w6 (.slice (some ⟨g3,0,none⟩) (done.length+1) cap) (done++[x]) (Hv.del D x) (Hv.del E x)):=hide
       ⟨by
         have h:=hf6.own (show w5.drew.ownsRow (lb+1) 9 1 (.slice (some ⟨g3,0,none⟩) (done.length+1) cap) (done.length+1) (done.map strV++[strV x]) from hown') (Nat.le_refl _) (fun q hq e=>by have:=hown'.lt q hq;omega)
         simpa using h,
       hM6,HI.out.pk.del HI.out.map.1 x,by rw[HI.out.left,HST.out];simp,by have:=Hv.del_one HI.out.pk.srt HPH.out;have:=HI.out.lens;simp only[List.length_append,List.length_cons,List.length_nil];omega,
       fun n h=>HI.out.keys n (has_del HI.out.pk.srt h),f6,l6,(bel5.drew).trans (hf6.toBelow (show B≤w5.heap.size by omega) (fun q _ (e:q=B+1)=>by omega))⟩
     have hlens:done.length+1≤D0.length:=by have:=HI.out.lens;omega
     clear hown' hgrow5 hnil5 hne blk5 f5 M5 bel5 hM6 ht6 hf6 k6 f6 hs4
     go_region_held3 (fun w'=>w'.cell? ⟨lb,0,none⟩=some (.map (some (B+1)))∧w'.cell? ⟨g,jj,none⟩=some (.string ⟨x.toArray⟩))
       (first | assumption | exact ⟨l6,q6⟩ | exact ⟨l5,q5⟩ | simp[go_sem, *])
       (fail)
     go_wp2_with fail
     go_roundw
     case rel=>exact ⟨done++[x],Hv.del D x,Hv.del E x,some ⟨g3,0,none⟩,cap,by simp,HI6⟩
     case measure=>simp[lenOf];omega
theorem order_B (pm:Nat) (P:VM Value) (D0:VM Hv.PD) (N:Nat→Prop) (hmany:P.length≤1000) (hks:∀ n,Hv.has D0 n=true→n.length≤12) (w:World) (hp:MapAt w pm P) (hP:PkM N w D0 P) :
   Calls Tryz.prog 126 #[.map (some pm), .func (.func 129) #[] #[]] w fun e w'=>∃ v,e = .returned v∧w'.ownsRow w.heap.size 9 1 v (Hv.order freeB D0).length ((Hv.order freeB D0).map strV)∧Below w.heap.size w w':=by
 obtain ⟨i0,hi,hz0,hz1,hz2⟩:=info_three info_str
 have HP:=hide hp;have HPP:=hide hP;have HKS:=hide hks
 have hpl:=hp.lt
 have hrow:=heap_alloc_new w (.cells #[.func (.func 129) #[] #[]] 216)
 have hb0:=(Below.refl w.heap.size w).alloc (Nat.le_refl _) (.cells #[.func (.func 129) #[] #[]] 216)
 have hsz:(w.alloc (.cells #[.func (.func 129) #[] #[]] 216)).heap.size=w.heap.size+1:=by simp
 have HD0:=hide (hP.len hp.1)
 clear hp hP hks
 go_enter Tryz.func126,Tryz.ntmps126
 go_wp2_with fail
 refine (cloneP_any pm P _ (HP.out.below hb0)).mono ?_
 rintro e w1 ⟨rfl,hm1,hb1⟩
 have hlt1:=hm1.lt
 rw[hsz] at hm1 hlt1 ⊢
 have hb01:=hb0.trans (hb1.mono hb0.size)
 have HI0:Hid (OrdIn freeB (.func (.func 129) #[] #[]) D0 N w.heap.size w1.heap.size (w.heap.size+1) w (w1.alloc (.cells #[.map (some (w.heap.size+1))] 86)) (.slice none 0 0) [] D0 P):=hide
   ⟨World.ownsRow_nil _ _ _ _,hm1.alloc _,HPP.out,rfl,by simp,fun n h=>h,
     (alloc_cell (by omega) _).trans ((World.cell?_of_block (a:=⟨w.heap.size,0,none⟩) (hb1.block w.heap.size (by omega))).trans ((row_cell hrow 0).trans rfl)),(row_cell (heap_alloc_new w1 _) 0).trans rfl,hb01.alloc hb01.size _⟩
 obtain ⟨lb,hlb⟩:∃ lb,w1.heap.size=lb:=⟨_,rfl⟩
 have hlbg:w.heap.size+1<lb:=by omega
 obtain ⟨B,hB⟩:∃ B,w.heap.size=B:=⟨_,rfl⟩
 have HBE:=hide hB
 rw[hlb] at HI0
 rw[hB] at hlbg HI0
 clear hrow hb0 hsz hm1 hb1 hb01 hlt1
 go_wp2_with fail
 go_loopw [6] (fun o wr=>∃ (done:List S) (D:VM Hv.PD) (E:VM Value) (oo:Option Addr) (oc:Nat),o = .slice oo done.length oc∧Hid (OrdIn freeB (.func (.func 129) #[] #[]) D0 N B lb (B+1) w wr o done D E)) (fun o _=>D0.length-lenOf o)
 case atStart=>exact ⟨[],D0,P,none,0,rfl,HI0⟩
 case round =>
   clear HI0
   obtain ⟨done,D,E,oo,oc,rfl,HI⟩:=hrel
   have hml:=HI.out.map.len Tryz.underlying86 3
   have hEl:=HI.out.pk.len HI.out.map.1
   rw[hEl] at hml
   have HEL:=hide hEl
   clear hEl
   have l0:=HI.out.l
   have hD1000:D.length≤1000:=by have:=HI.out.lens;have:=HD0.out;omega
   have hdone:done.length≤1000:=by have:=HI.out.lens;have:=HD0.out;omega
   by_cases hz:D.length=0
   · have g3 : ¬ (0:Int)<(D.length:Int):=by omega
     have HE:Hid (Hv.order freeB D0=done):=hide (by rw[HI.out.left];unfold Hv.order;rw[hz];simp[Hv.orderL])
     go_wp2_with fail
     go_ret
     rw[HE.out]
     exact ⟨_,rfl,own_base HI.out.row (by omega),HI.out.bel⟩
   · have g3:(0:Int)<(D.length:Int):=by omega
     go_wp2_with fail
     refine (callsIn_wide.1 (Tryz.maps_Keys_135 (some (B+1)) wr)).mono ?_
     rintro e w2 ⟨rfl,rfl⟩
     go_wp2_with fail
     refine (callsIn_wide.1 (Tryz.slices_Sorted_keys_72_135 (B+1) E.length (Hv.dOf E) Hv.hR wr HI.out.map.2 (by rw[Hv.d_size,HEL.out];unfold maxLen;omega) (by rw[Hv.d_size,HEL.out];omega))).mono ?_
     rintro e w3 ⟨v,ss,rfl,hS,hrow, -,hb⟩
     have hk:=sort_keys HI.out.map.1 hS
     have hl:ss.length=(keysOf D).length:=by rw[hS.length_eq,strKeys_d,HI.out.pk.keys HI.out.map.1]
     rw[hk,hl,HI.out.pk.keys HI.out.map.1] at hrow
     have hwz:(wr.alloc (.cells #[.map (some (B+1))] 86)).heap.size=wr.heap.size+1:=by simp
     have hB1:B+1<wr.heap.size:=HI.out.map.lt
     have hrow3:=own_base (B:=wr.heap.size) hrow (by simp)
     have HR3:=hide (show w3.ownsRow wr.heap.size 9 1 v (keysOf D).length ((keysOf D).map strV) from hrow3)
     have HB3:=hide (((Below.refl wr.heap.size wr).alloc (Nat.le_refl _) (.cells #[.map (some (B+1))] 86)).trans (hb.mono (by simp)))
     have HM3:=hide (HI.out.map.below HB3.out)
     have HBB:=hide (HI.out.bel.trans (HB3.out.mono (by omega)))
     have HP3:=hide (HI.out.pk.below (show Below w.heap.size w w3 by rw[HBE.out];exact HBB.out))
     have HO3:=hide (own_below HI.out.row HB3.out)
     have hflt:B<wr.heap.size:=World.block_lt_of_cell? wr _ HI.out.f
     have hllt:lb<wr.heap.size:=World.block_lt_of_cell? wr _ HI.out.l
     have f3:=(HB3.out.cell (p:=⟨B,0,none⟩) hflt).trans HI.out.f
     have l3:=(HB3.out.cell (p:=⟨lb,0,none⟩) hllt).trans HI.out.l
     obtain ⟨ka,kc,rfl⟩:=slice_form HR3.out
     have HKL:Hid ((keysOf D).length=D.length):=hide (by unfold keysOf;simp)
     have HKN:=hide (show ∀ n∈keysOf D,n.length≤maxLen∧Hv.has D n=true from fun n hn=>⟨by have:=HKS.out n (HI.out.keys n (Hv.mem_keys hn));unfold maxLen;omega,Hv.mem_keys hn⟩)
     have HF3:=hide f3;have HL3:=hide l3
     clear hrow hrow3 hb hk hl hS hwz l0 hml
     go_wp2_with fail
     refine (first_B (B+1) B lb E D N (keysOf D) (by rw[HKL.out];omega) HKN.out wr.heap.size (.slice ka (keysOf D).length kc) w3 HR3.out HM3.out HP3.out HF3.out HL3.out).mono ?_
     rintro e w4 ⟨i,rfl,hif,hb4⟩
     have hjj:∃ jj:Nat,max 0 i=(jj:Int)∧∃ h:jj<(keysOf D).length,(keysOf D)[jj]=Hv.pick freeB D:=by
       rcases hif with ⟨j,rfl,h1,h2⟩ | ⟨rfl,h2⟩
       · exact ⟨j,by omega,h1,by unfold Hv.pick;rw[h2]⟩
       · refine ⟨0,by omega,by rw[HKL.out];omega,?_⟩
         have:(keysOf D).find? (freeB D)=none:=List.find?_eq_none.2 (fun x hx=>by rw[h2 x hx];simp)
         unfold Hv.pick
         rw[this]
         simp only
         exact head_get _
     obtain ⟨jj,hmx,hjl,hje⟩:=hjj
     have hR4:=own_below HR3.out hb4
     obtain ⟨g,c',hv2,hg,q1⟩:=strs_at hR4 hjl
     obtain rfl:ka=some ⟨g,0,none⟩:=(Value.slice.inj hv2).1
     have hgw:wr.heap.size≤g:=own_ge hR4 rfl
     have HPH:=hide (Hv.pick_has freeB (D:=D) (by omega))
     have HST:=hide (Hv.order_step freeB HI.out.pk.srt (by omega))
     have hjb:(jj:Int)<((keysOf D).length:Int):=by omega
     rw[hje] at q1
     obtain ⟨x,hx⟩:∃ x,Hv.pick freeB D=x:=⟨_,rfl⟩
     rw[hx] at q1 HPH HST
     have hxl:x.length≤maxLen:=(HKN.out x (by rw[← hx,← hje];exact List.getElem_mem hjl)).1
     obtain ⟨kl,hkl⟩:∃ kl,(keysOf D).length=kl:=⟨_,rfl⟩
     have HKL2:=hide hkl
     have hl4:=(hb4.cell (p:=⟨lb,0,none⟩) (Nat.lt_of_lt_of_le hllt HB3.out.size)).trans HL3.out
     have hf4:=(hb4.cell (p:=⟨B,0,none⟩) (Nat.lt_of_lt_of_le hflt HB3.out.size)).trans HF3.out
     have HO4:=hide (own_below HO3.out hb4)
     have HM4:=hide (HM3.out.below hb4)
     have HB4:=hide (HB3.out.trans (hb4.mono HB3.out.size))
     have HF4:=hide hf4;have HL4:=hide hl4;have HQ4:=hide q1
     rw[hkl] at hjb ⊢
     clear hif hjl hje hR4 hv2 hx hb4 HR3 HKN HKL hkl hf4
     go_wp2_with (first
       | (at_builtin;refine wpList_append_own _ rfl _ _ 28 rfl (lb+1) 9 i0 (.string ByteArray.empty) 1 16 Tryz.underlying28 hi hz0 hz1 hz2 rfl (by decide) _ _ _ rfl (HO4.out.alloc _) ⟨w4.heap.size,0,none⟩ 1 1 [.string ⟨x.toArray⟩] rfl rfl (cell_one_new _ _ _) (fun x hx=>by simp at hx;subst hx;rfl) (by unfold maxLen;omega) (by omega) (by simp;omega) ?_;intro v' w5 hown' hgrow5 hnil5))
     obtain ⟨g3,cap,rfl⟩:=own_form hown' (by omega)
     have hwr4:=HB4.out.size
     have hs4:(w4.alloc (.cells #[.string ⟨x.toArray⟩] 9)).heap.size=w4.heap.size+1:=by simp
     have hne:∀ q,(Value.slice oo done.length oc).ownBlock=some q→lb+1≤q∧q<wr.heap.size:=fun q hq=>HI.out.row.lt q hq
     have blk5:∀ k,k<w4.heap.size→(k≤lb∨wr.heap.size≤k)→w5.heap[k]? = w4.heap[k]? := fun k hk hc=>(hgrow5.block k (by rw[hs4];omega) (fun e=>by have:=hne k e.symm;omega)).trans (Below.heap_alloc w4 _ k hk)
     have l5:=(World.cell?_of_block (a:=⟨lb,0,none⟩) (blk5 lb (by omega) (.inl (Nat.le_refl _)))).trans HL4.out
     have f5:=(World.cell?_of_block (a:=⟨B,0,none⟩) (blk5 B (by omega) (.inl (by omega)))).trans HF4.out
     have q5:=(World.cell?_of_block (a:=⟨g,jj,none⟩) (blk5 g hg (.inr hgw))).trans HQ4.out
     have M5:=HM4.out.kept (blk5 (B+1) (by omega) (.inl (by omega)))
     have bel5:=((HI.out.bel.trans (HB4.out.mono (by omega))).alloc (by omega) (.cells #[.string ⟨x.toArray⟩] 9)).grown hgrow5 (by rw[hs4];omega) (fun q hq=>by have:=hne q hq;omega)
     have hg5:g<w5.heap.size:=World.block_lt_of_cell? w5 _ q5
     have hl5:lb<w5.heap.size:=World.block_lt_of_cell? w5 _ l5
     obtain ⟨w6,hrun,hM6,ht6⟩:=M5.drew.drop Tryz.underlying86 x hxl 0
     have hf6:=turned_far ht6
     have k6:∀ k,k<w5.heap.size→k≠B+1→w6.heap[k]? = w5.heap[k]? := fun k hk hc=>hf6.block k hk hc
     have l6:=(World.cell?_of_block (a:=⟨lb,0,none⟩) (k6 lb hl5 (by omega))).trans l5
     have q6:=(World.cell?_of_block (a:=⟨g,jj,none⟩) (k6 g hg5 (by omega))).trans q5
     have f6:=(World.cell?_of_block (a:=⟨B,0,none⟩) (k6 B (by omega) (by omega))).trans f5
     have HI6:Hid (OrdIn freeB (.func (.func 129) #[] #[]) D0 N B lb (B+1) w w6 (.slice (some ⟨g3,0,none⟩) (done.length+1) cap) (done++[x]) (Hv.del D x) (Hv.del E x)):=hide
       ⟨by
         have h:=hf6.own (show w5.drew.ownsRow (lb+1) 9 1 (.slice (some ⟨g3,0,none⟩) (done.length+1) cap) (done.length+1) (done.map strV++[strV x]) from hown') (Nat.le_refl _) (fun q hq e=>by have:=hown'.lt q hq;omega)
         simpa using h,
       hM6,HI.out.pk.del HI.out.map.1 x,by rw[HI.out.left,HST.out];simp,by have:=Hv.del_one HI.out.pk.srt HPH.out;have:=HI.out.lens;simp only[List.length_append,List.length_cons,List.length_nil];omega,
       fun n h=>HI.out.keys n (has_del HI.out.pk.srt h),f6,l6,(bel5.drew).trans (hf6.toBelow (show B≤w5.heap.size by omega) (fun q _ (e:q=B+1)=>by omega))⟩
     have hlens:done.length+1≤D0.length:=by have:=HI.out.lens;omega
     clear hown' hgrow5 hnil5 hne blk5 f5 M5 bel5 hM6 ht6 hf6 k6 f6 hs4
     go_region_held3 (fun w'=>w'.cell? ⟨lb,0,none⟩=some (.map (some (B+1)))∧w'.cell? ⟨g,jj,none⟩=some (.string ⟨x.toArray⟩))
       (first | assumption | exact ⟨l6,q6⟩ | exact ⟨l5,q5⟩ | simp[go_sem, *])
       (fail)
     go_wp2_with fail
     go_roundw
     case rel=>exact ⟨done++[x],Hv.del D x,Hv.del E x,some ⟨g3,0,none⟩,cap,by simp,HI6⟩
     case measure=>simp[lenOf];omega
def addAll (Q:VM Value) (l:List S):VM Value:=l.foldl (fun q x=>Hv.put q x unitV) Q
theorem addAll_len (l:List S):∀ Q:VM Value,(addAll Q l).length≤Q.length+l.length:=by
 induction l with
 | nil=>intro Q;simp[addAll]
 | cons x l ih =>
   intro Q
   have:=ih (Hv.put Q x unitV)
   have:=Hv.put_len Q x unitV
   simp only[addAll,List.foldl_cons,List.length_cons] at *
   omega
theorem addAll_snoc (Q:VM Value) (l:List S) (x:S):addAll Q (l++[x])=Hv.put (addAll Q l) x unitV:=by simp[addAll]
theorem map_no_row {w:World} {b g:Nat} {E:VM Value} {cs:Array Value} {t:TypeId} {fz:Nat × Nat} (h:MapAt w b E) (hr:w.heap[g]? = some (.cells cs t fz)):g≠b:=by
 rintro rfl
 obtain ⟨_,es,clock,h1,_⟩:=h
 rw[h1] at hr
 cases hr
theorem adds_any (cb sm:Nat) (Q:VM Value) (hQ:Q.length≤1000000) (p:Pk) (F:List (S × S)) (hF:F.length≤30) (hl:∀ q∈F,q.1.length≤24) (w:World) (hr:w.ownsRow 0 234 2 p.files.val F.length (F.flatMap pairV)) (hm:MapAt w sm Q) (hc:w.cell? ⟨cb,0,none⟩=some (.map (some sm))) :
   Calls Tryz.prog 181 #[p.val, .pointer (some ⟨cb,0,none⟩)] w fun e w'=>∃ u,e = .returned u∧MapAt w' sm (addAll Q (F.map (·.1)))∧Far w.heap.size (fun k=>k=sm) w w':=by
 obtain ⟨tx,pn,pv,nd,br,wk,⟨na,nn,nc⟩,ru,wo,sta⟩:=p
 have HN:=hide (sl_n hr)
 have HR:=hide hr;have HM:=hide hm
 have hcb:cb<w.heap.size:=World.block_lt_of_cell? w _ hc
 have hsl:=hm.lt
 have hcn:cb≠sm:=by
   rintro rfl
   obtain ⟨_,es,clock,h1,_⟩:=hm
   simp[World.cell?,h1] at hc
 have HC:=hide hc;have HL:=hide hl
 have hrow:=heap_alloc_new w (.cells (Pk.mk tx pn pv nd br wk ⟨na,nn,nc⟩ ru wo sta).cells 156)
 have a6:=(row_cell hrow 6).trans (show _=some (.slice na nn nc) from rfl)
 have HF0:=hide ((Far.refl w.heap.size (fun k=>k=sm) w).alloc (Nat.le_refl _) (.cells (Pk.mk tx pn pv nd br wk ⟨na,nn,nc⟩ ru wo sta).cells 156))
 have HM0:=hide (hm.alloc (.cells (Pk.mk tx pn pv nd br wk ⟨na,nn,nc⟩ ru wo sta).cells 156))
 simp only[Pk.cells] at a6 HF0 HM0
 simp only[Pk.val,Pk.cells]
 clear hr hm hc hl hrow
 go_enter Tryz.func181,Tryz.ntmps181
 go_wp2_with fail
 clear a6
 go_loopw [9] (fun i wr=>∃ j:Nat,j≤nn∧i = .int .i64 (j:Int)∧Hid (MapAt wr sm (addAll Q ((F.take j).map (·.1))))∧Hid (Far w.heap.size (fun k=>k=sm) w wr)) (fun i _=>nn-(intOf i).toNat)
 case atStart=>exact ⟨0,Nat.zero_le _,rfl,HM0,HF0⟩
 case round =>
   clear HM0 HF0
   obtain ⟨j,hj,rfl,HM1,HF1⟩:=hrel
   by_cases hjl:j<nn
   · have b1:(j:Int)<(nn:Int):=by omega
     have hnF:nn=F.length:=HN.out
     have hjx:j<F.length:=by omega
     obtain ⟨g,c,hv,hg,q1,q2⟩:=pairs_at HR.out hjx
     obtain rfl:na=some ⟨g,0,none⟩:=(Value.slice.inj hv).1
     have hgn:g≠sm:=by
       rcases HR.out.2 with ⟨e,_⟩ | ⟨g',cap,cur,e,_,h2,_⟩
       · cases e
       · cases e;exact map_no_row HM.out h2
     have hbg:=HF1.out.block g hg hgn
     have d1:=(World.cell?_of_block (a:=⟨g,j*2,none⟩) hbg).trans q1
     have d2:=(World.cell?_of_block (a:=⟨g,j*2+1,none⟩) hbg).trans q2
     have k1:=(World.cell?_of_block (a:=⟨cb,0,none⟩) (HF1.out.block cb hcb hcn)).trans HC.out
     have hxl:=HL.out _ (List.getElem_mem hjx)
     have HT:Hid (addAll Q ((F.take (j+1)).map (·.1))=Hv.put (addAll Q ((F.take j).map (·.1))) F[j].1 unitV):=hide (by rw[List.take_succ_eq_append_getElem hjx,List.map_append];exact addAll_snoc _ _ _)
     have hql:(addAll Q ((F.take j).map (·.1))).length<maxLen:=by
       have:=addAll_len ((F.take j).map (·.1)) Q
       rw[List.length_map,List.length_take] at this
       unfold maxLen;omega
     obtain ⟨q,hq⟩:∃ q,F[j]=q:=⟨_,rfl⟩
     rw[hq] at d1 d2 hxl HT
     obtain ⟨x,y⟩:=q
     obtain ⟨Qj,hQj⟩:∃ Qj,addAll Q ((F.take j).map (·.1))=Qj:=⟨_,rfl⟩
     rw[hQj] at HM1 HT hql
     have hxl:x.length≤24:=hxl
     have hxm:x.length≤maxLen:=by unfold maxLen;omega
     have hm2:=HM1.out.alloc (.cells #[.string ⟨x.toArray⟩, .string ⟨y.toArray⟩] 234)
     have hz:=HF1.out.size
     have hcne : ¬ wr.heap.size=cb:=by omega
     have HF2:=hide (HF1.out.alloc HF1.out.size (.cells #[.string ⟨x.toArray⟩, .string ⟨y.toArray⟩] 234))
     have hrow2:=heap_alloc_new wr (.cells #[.string ⟨x.toArray⟩, .string ⟨y.toArray⟩] 234)
     have k2:=(alloc_cell (by omega) (.cells #[.string ⟨x.toArray⟩, .string ⟨y.toArray⟩] 234)).trans k1
     have e2:=(row_cell hrow2 0).trans (show _=some (.string ⟨x.toArray⟩) from rfl)
     obtain ⟨w5,hrun,hm5,ht5⟩:=hm2.store Tryz.underlying133 hql x hxm (.agg #[])
     have hf5:=turned_far ht5
     have hsu:(wr.alloc (.cells #[.string ⟨x.toArray⟩, .string ⟨y.toArray⟩] 234)).heap.size=wr.heap.size+1:=by simp
     have k5:=(World.cell?_of_block (a:=⟨cb,0,none⟩) (hf5.block cb (show cb<(wr.alloc (.cells #[.string ⟨x.toArray⟩, .string ⟨y.toArray⟩] 234)).heap.size by omega) hcn)).trans k2
     have e5:=(World.cell?_of_block (a:=⟨wr.heap.size,0,none⟩) (hf5.block wr.heap.size (show wr.heap.size<(wr.alloc (.cells #[.string ⟨x.toArray⟩, .string ⟨y.toArray⟩] 234)).heap.size by omega) (by omega))).trans e2
     have HM5:Hid (MapAt w5 sm (addAll Q ((F.take (j+1)).map (·.1)))):=hide (by rw[HT.out];exact hm5)
     have HF5:=hide (HF2.out.next hf5 HF2.out.size (fun _ _ q=>q))
     clear hv q1 q2 hq hQj hbg hm5 ht5 hf5 hrow2 hsu k1
     go_wp2_with fail
     go_roundw
     case rel=>exact ⟨j+1,by omega,by go_num,HM5,HF5⟩
     case measure=>simp[intOf];omega
   · obtain rfl:j=nn:=by omega
     have b1 : ¬ (j:Int)<(j:Int):=by omega
     have HM5:Hid (MapAt wr sm (addAll Q (F.map (·.1)))):=hide (by have:=HM1.out;rwa [List.take_of_length_le (by have:=HN.out;omega)] at this)
     go_wp2_with fail
     go_end0
     exact ⟨⟨_,rfl⟩,HM5.out,HF1.out⟩
end
section
open Hv (S VM)
theorem addAll_srt:∀ (l:List S) (Q:VM Value),Hv.Srt Q→Hv.Srt (addAll Q l)
 | [],_,h=>h
 | x::l,Q,h=>addAll_srt l (Hv.put Q x unitV) (h.put x unitV)
theorem addAll_uni:∀ (l:List S) (Q:VM Value),Hv.Srt Q→AllU Q→AllU (addAll Q l)
 | [],_,_,h=>h
 | x::l,Q,hs,h=>addAll_uni l (Hv.put Q x unitV) (hs.put x unitV) (AllU.put h hs x)
theorem addAll_has:∀ (l:List S) (Q:VM Value),Hv.Srt Q→∀ x,Hv.has (addAll Q l) x=true ↔ Hv.has Q x=true∨x∈l
 | [],_,_,x=>by simp[addAll]
 | y::l,Q,h,x=>by
   have:=addAll_has l (Hv.put Q y unitV) (h.put y unitV) x
   have e:addAll Q (y::l)=addAll (Hv.put Q y unitV) l:=rfl
   rw[e,this,put_has h,List.mem_cons,or_assoc]
def pathsAt (D:VM Hv.PD) (n:S):List S:=match Hv.get D n with
 | none=>[]
 | some d=>d.paths
def changedR (D:VM Hv.PD) (R:VM Value) (Q:VM Value):VM Value:=R.foldl (fun q p=>addAll q (pathsAt D p.1)) Q
def changedI (D I:VM Hv.PD) (Q:VM Value):VM Value:=I.foldl (fun q p=>addAll (addAll q (pathsAt D p.1)) p.2.paths) Q
def changedQ (D:VM Hv.PD) (R:VM Value) (I:VM Hv.PD):VM Value:=changedI D I (changedR D R [])
theorem changedR_good (D:VM Hv.PD):∀ (R Q:VM Value),Hv.Srt Q→AllU Q→Hv.Srt (changedR D R Q)∧AllU (changedR D R Q)∧∀ x,Hv.has (changedR D R Q) x=true ↔ Hv.has Q x=true ∨ ∃ p∈R,x∈pathsAt D p.1
 | [],Q,h,u=>⟨h,u,fun x=>by simp[changedR]⟩
 | p::R,Q,h,u=>by
   have h1:=addAll_srt (pathsAt D p.1) Q h
   obtain ⟨a,b,c⟩:=changedR_good D R (addAll Q (pathsAt D p.1)) h1 (addAll_uni _ _ h u)
   have e:changedR D (p::R) Q=changedR D R (addAll Q (pathsAt D p.1)):=rfl
   rw[e]
   refine ⟨a,b,fun x => ?_⟩
   rw[c,addAll_has _ _ h,or_assoc]
   simp
theorem changedI_good (D:VM Hv.PD):∀ (I:VM Hv.PD) (Q:VM Value),Hv.Srt Q→AllU Q→Hv.Srt (changedI D I Q)∧AllU (changedI D I Q)∧∀ x,Hv.has (changedI D I Q) x=true ↔ Hv.has Q x=true ∨ ∃ p∈I,x∈pathsAt D p.1∨x∈p.2.paths
 | [],Q,h,u=>⟨h,u,fun x=>by simp[changedI]⟩
 | p::I,Q,h,u=>by
   have h1:=addAll_srt (pathsAt D p.1) Q h
   have u1:=addAll_uni (pathsAt D p.1) Q h u
   obtain ⟨a,b,c⟩:=changedI_good D I (addAll (addAll Q (pathsAt D p.1)) p.2.paths) (addAll_srt _ _ h1) (addAll_uni _ _ h1 u1)
   have e:changedI D (p::I) Q=changedI D I (addAll (addAll Q (pathsAt D p.1)) p.2.paths):=rfl
   rw[e]
   refine ⟨a,b,fun x => ?_⟩
   rw[c,addAll_has _ _ h1,addAll_has _ _ h,or_assoc,or_assoc]
   simp[or_assoc]
theorem uni_ext {Q Q':VM Value} (h:Hv.Srt Q) (h':Hv.Srt Q') (u:AllU Q) (u':AllU Q') (hk:∀ x,Hv.has Q x=true ↔ Hv.has Q' x=true):Q=Q' :=
 h.get_ext h' fun k=>by
   have e:=hk k
   rw[Hv.has_get,Hv.has_get] at e
   cases q:Hv.get Q k with
   | none =>
     cases q':Hv.get Q' k with
     | none=>rfl
     | some v=>rw[q,q'] at e;simp at e
   | some v =>
     cases q':Hv.get Q' k with
     | none=>rw[q,q'] at e;simp at e
     | some v'=>rw[u k v q,u' k v' q']
end
section
open Go.RowKit
open Hv (S Dk VM)
theorem planLen_any (a:Option Addr) (n c im km:Nat) (w:World):Calls Tryz.prog 64 #[.agg #[.slice a n c, .map (some im), .map (some km)]] w fun e w'=>e = .returned (.int .i64 n)∧Below w.heap.size w w':=by
 go_enter Tryz.func64,Tryz.ntmps64
 go_wp2_with fail
 go_ret
 exact ⟨rfl,(Below.refl _ w).alloc (Nat.le_refl _) _⟩
theorem planLen_none (w:World):Calls Tryz.prog 64 #[.agg #[.slice none 0 0, .map none, .map none]] w fun e w'=>e = .returned (.int .i64 0)∧Below w.heap.size w w':=by
 go_enter Tryz.func64,Tryz.ntmps64
 go_wp2_with fail
 go_ret
 exact ⟨rfl,(Below.refl _ w).alloc (Nat.le_refl _) _⟩
theorem zero_strs (w:World):(zeroValue 28).run Tryz.prog w = .ok (.slice none 0 0) w:=Tryz.zeroValue28 w
def AllS (K:VM Value):Prop:=∀ k v,Hv.get K k=some v→∃ a n c,v = .slice a n c
theorem configured_any (a:Option Addr) (n c im km:Nat) (K:VM Value) (hK:AllS K) (x:S) (hx:x.length≤maxLen) (w:World) (h:MapAt w km K) :
   Calls Tryz.prog 188 #[.agg #[.slice a n c, .map (some im), .map (some km)], .string ⟨x.toArray⟩] w fun e w'=>e = .returned (.int .i64 (if Hv.has K x=true then 3 else 2))∧Below w.heap.size w w':=by
 have h1:=h.alloc (.cells #[.slice a n c, .map (some im), .map (some km)] 89)
 have HB:=hide ((Below.refl w.heap.size w).alloc (Nat.le_refl _) (.cells #[.slice a n c, .map (some im), .map (some km)] 89))
 cases q:Hv.get K x with
 | none =>
   have hh:Hv.has K x=false:=by rw[Hv.has_get,q];rfl
   rw[hh]
   go_enter Tryz.func188,Tryz.ntmps188
   go_wp2_with (first
     | (at_lookup;refine wp_look_ok rfl _ _ 87 rfl 28 Tryz.underlying87 (zero_strs _) h1 rfl x hx rfl ?_;rw[q,hh];simp only[Option.getD_none]))
   go_ret
   exact ⟨rfl,HB.out⟩
 | some v =>
   obtain ⟨va,vn,vc,rfl⟩:=hK x v q
   have hh:Hv.has K x=true:=by rw[Hv.has_get,q];rfl
   rw[hh]
   go_enter Tryz.func188,Tryz.ntmps188
   go_wp2_with (first
     | (at_lookup;refine wp_look_ok rfl _ _ 87 rfl 28 Tryz.underlying87 (zero_strs _) h1 rfl x hx rfl ?_;rw[q,hh];simp only[Option.getD_some]))
   go_ret
   exact ⟨rfl,HB.out⟩
end
section
open Go.RowKit
open Arc (St)
open Hv (S Dk VM)
namespace Hv
theorem get_mapk {α β:Type} (f:S→α→β) (k:S):∀ E:VM α,get (E.map fun p=>(p.1,f p.1 p.2)) k=(get E k).map (f k)
 | []=>rfl
 | p::E=>by
   have ih:=get_mapk f k E
   unfold get at ih ⊢
   by_cases e:p.1=k
   · rw[List.map_cons,List.find?_cons_of_pos (by simp[e]),List.find?_cons_of_pos (by simp[e])]
     simp[e]
   · rw[List.map_cons,List.find?_cons_of_neg (by simp[e]),List.find?_cons_of_neg (by simp[e])]
     exact ih
theorem Srt.mapk {α β:Type} {E:VM α} (h:Srt E) (f:S→α→β):Srt (E.map fun p=>(p.1,f p.1 p.2)):=List.pairwise_map.2 h
def PD.to (d:PD) (s:Int):PD:={ d with status:=s }
def wokeL (D:VM PD) (K:VM Value) (left:S→Bool):VM PD:=D.map fun p=>(p.1,if has K p.1=true∧left p.1=false∧p.2.status=2 then p.2.to 3 else p.2)
def woke (D:VM PD) (K:VM Value):VM PD:=wokeL D K fun _=>false
end Hv
theorem PkM.toStatus {N:Nat→Prop} {w:World} {D:VM Hv.PD} {E:VM Value} (h:PkM N w D E) (hE:Hv.Srt E) {k:S} {p:Pk} {d:Hv.PD} (hg:Hv.get E k=some p.val) (hd:Hv.get D k=some d) (s:Int):PkM N w (Hv.put D k (d.to s)) (Hv.put E k (p.to s).val):=by
 refine h.put hE k ?_
 obtain ⟨d',hd',q,hq,q1,q2,q3,q4,q5,q6⟩:=h.to_ k _ hg
 rw[hd] at hd'
 cases hd'
 have e:q.to s=p.to s:=by
   have:=congrArg (fun v=>v) hq
   unfold Pk.val Pk.cells at this
   cases p with | mk a1 a2 a3 b1 b2 b3 b4 b5 b6 st =>
   cases q with | mk c1 c2 c3 e1 e2 e3 e4 e5 e6 st' =>
   obtain ⟨_,_,_⟩:=b1;obtain ⟨_,_,_⟩:=b2;obtain ⟨_,_,_⟩:=b3;obtain ⟨_,_,_⟩:=b4;obtain ⟨_,_,_⟩:=b5;obtain ⟨_,_,_⟩:=b6
   obtain ⟨_,_,_⟩:=e1;obtain ⟨_,_,_⟩:=e2;obtain ⟨_,_,_⟩:=e3;obtain ⟨_,_,_⟩:=e4;obtain ⟨_,_,_⟩:=e5;obtain ⟨_,_,_⟩:=e6
   simp at this
   simp[Pk.to,this]
 refine ⟨q.to s,by rw[e],q1,q2,q3,rfl,⟨q5.parse,fun i => ?_⟩,fun i g hg=>q6 i g ?_⟩
 · have:=q5.rows i
   match i with
   | 0=>exact this
   | 1=>exact this
   | 2=>exact this
   | 3=>exact this
   | 4=>exact this
   | 5=>exact this
 · match i with
   | 0=>exact hg
   | 1=>exact hg
   | 2=>exact hg
   | 3=>exact hg
   | 4=>exact hg
   | 5=>exact hg
theorem PkM.turned {N:Nat→Prop} {w w':World} {b B:Nat} {D:VM Hv.PD} {E:VM Value} (h:PkM N w D E) (hm:∀ cs t fz,w.heap[b]? ≠ some (.cells cs t fz)) (hf:Far B (fun k=>k=b) w w') (hB:w.heap.size≤B):PkM N w' D E:=by
 have hr:∀ d v,PkR N w d v→PkR N w' d v:=by
   rintro d v ⟨p,h1,h2,h3,h4,h5,h6,h7⟩
   refine ⟨p,h1,h2,h3,h4,h5,h6.far hf hB (fun i g hg e => ?_),h7⟩
   rcases (h6.rows i).2 with ⟨q,_⟩ | ⟨g',cap,cur,q,_,q2,_⟩
   · rw[q] at hg;cases hg
   · rw[q] at hg;cases hg
     have e':g'=b:=e
     subst e'
     exact hm _ _ _ q2
 exact ⟨h.srt,fun k v q=>(h.to_ k v q).imp fun _ a=>⟨a.1,hr _ _ a.2⟩,fun k v q=>(h.fro k v q).imp fun _ a=>⟨a.1,hr _ _ a.2⟩⟩
theorem MapAt.no_row {w:World} {b:Nat} {E:VM Value} (h:MapAt w b E):∀ cs t fz,w.heap[b]? ≠ some (.cells cs t fz):=fun _ _ _ hr=>map_no_row h hr rfl
theorem MapOn.no_row {w:World} {b r cnt:Nat} {E:VM Value} {left:S→Bool} (h:MapOn w b r E left cnt):∀ cs t fz,w.heap[r]? ≠ some (.cells cs t fz):=by
 obtain ⟨h0,es,clock,since,seen,c0,q1,q2,q3,q4,q5,q6⟩:=h
 intro cs t fz e
 rw[q5] at e
 cases e
theorem field_status (p:Pk) (w:World):(Instr.field 156 p.val 2).run Tryz.prog w = .ok (.int .i64 p.status) w:=by kernel_rfl
theorem woke_get (D:VM Hv.PD) (K:VM Value) (left:S→Bool) (k:S):Hv.get (Hv.wokeL D K left) k=(Hv.get D k).map fun d=>if Hv.has K k=true∧left k=false∧d.status=2 then d.to 3 else d :=
 Hv.get_mapk (fun (k:S) (d:Hv.PD)=>if Hv.has K k=true∧left k=false∧d.status=2 then d.to 3 else d) k D
theorem woke_srt {D:VM Hv.PD} (h:Hv.Srt D) (K:VM Value) (left:S→Bool):Hv.Srt (Hv.wokeL D K left):=h.mapk (fun (k:S) (d:Hv.PD)=>if Hv.has K k=true∧left k=false∧d.status=2 then d.to 3 else d)
theorem woke_start {D:VM Hv.PD} (h:Hv.Srt D) (K:VM Value):Hv.wokeL D K (Hv.has K)=D:=(woke_srt h K _).get_ext h fun k=>by
 rw[woke_get]
 cases Hv.get D k with
 | none=>rfl
 | some d =>
   simp only[Option.map_some]
   rw[if_neg (by rintro ⟨a,b,_⟩;rw[a] at b;cases b)]
theorem woke_keep {D:VM Hv.PD} (h:Hv.Srt D) (K:VM Value) (left:S→Bool) (k:S) (hk:∀ d,Hv.get D k=some d→d.status≠2):Hv.wokeL D K (fun z=>left z && !(z==k))=Hv.wokeL D K left:=(woke_srt h K _).get_ext (woke_srt h K _) fun x=>by
 rw[woke_get,woke_get]
 cases q:Hv.get D x with
 | none=>rfl
 | some d =>
   by_cases e:x=k
   · subst e
     have:=hk d q
     simp[this]
   · simp[e]
theorem woke_put {D:VM Hv.PD} (h:Hv.Srt D) {K:VM Value} {left:S→Bool} {k:S} {d:Hv.PD} (hd:Hv.get D k=some d) (hs:d.status=2) (hK:Hv.has K k=true):Hv.wokeL D K (fun z=>left z && !(z==k))=Hv.put (Hv.wokeL D K left) k (d.to 3):=(woke_srt h K _).get_ext ((woke_srt h K _).put _ _) fun x=>by
 by_cases e:x=k
 · subst e
   rw[Hv.get_put_same (woke_srt h K _),woke_get,hd]
   simp[hK,hs]
 · rw[Hv.get_put_other (woke_srt h K _) _ e,woke_get,woke_get]
   simp[e]
theorem start_any (a:Option Addr) (n c im km mb pm fm:Nat) (P F K:VM Value) (D:VM Hv.PD) (N:Nat→Prop) (hmany:P.length≤1000) (hK:AllS K) (w:World) (hk:MapAt w km K) (hm:MachAt mb pm fm P F w) (hP:PkM N w D P) (hne:km≠pm) :
   Calls Tryz.prog 80 #[.agg #[.slice a n c, .map (some im), .map (some km)], .pointer (some ⟨mb,0,none⟩)] w fun e w'=>∃ u P',e = .returned u∧MachAt mb pm fm P' F w'∧PkM N w' (Hv.woke D K) P'∧Far w.heap.size (fun k=>k=pm) w w':=by
 have hrow:=heap_alloc_new w (.cells #[.slice a n c, .map (some im), .map (some km)] 89)
 have hb0:=(Below.refl w.heap.size w).alloc (Nat.le_refl _) (.cells #[.slice a n c, .map (some im), .map (some km)] 89)
 have c2:=(row_cell hrow 2).trans (show _=some (.map (some km)) from rfl)
 have hk1:=hk.below hb0
 have hkl:=hk.lt
 have hpl:=hm.packs.lt
 have HM:=hide hm;have HPP:=hide hP
 have HB0:=hide hb0
 have hsz:(w.alloc (.cells #[.slice a n c, .map (some im), .map (some km)] 89)).heap.size=w.heap.size+1:=by simp
 clear hm hP hrow hb0
 go_enter Tryz.func80,Tryz.ntmps80
 go_wp2_with (first
   | (at_range;refine wp_range rfl _ 87 rfl 28 Tryz.underlying87 hk1 rfl ?_;intro w0 hrg0 hg0 hs0;have HG0:=hide hrg0;have HB1:=hide (HB0.out.grown hg0 (by simp) (fun q hq=>by cases hq))))
 rw[hsz] at HG0 hs0 ⊢
 go_frame
 clear hg0 hrg0 c2 hk1
 go_loopw [8] (fun _ wr=>∃ (left:S→Bool) (cnt:Nat) (E:VM Value),Hid (MapOn wr km (w.heap.size+1) K left cnt)∧Hid (MachAt mb pm fm E F wr)∧Hid (PkM N wr (Hv.wokeL D K left) E)∧Hid (E.length≤1000)∧Hid (Far w.heap.size (fun k=>k=pm) w wr)∧w.heap.size+1<wr.heap.size)
   (fun _ wr=>wr.rangeLeft km (w.heap.size+1))
 case atStart=>exact ⟨_,_,P,HG0,hide (HM.out.below HB1.out),hide (by rw[woke_start HPP.out.srt];exact HPP.out.below HB1.out),hide hmany,hide (Far.of HB1.out (Nat.le_refl _)),by omega⟩
 case round =>
   clear HG0
   obtain ⟨left,cnt,E,HG,HM1,HP1,HL1,HF,hsz1⟩:=hrel
   go_wp2_with (first
     | (at_next;refine wp_next rfl _ rfl (w.heap.size+1) left cnt rfl HG.out ?_ ?_))
   · intro hc0 hl0
     have hl:left=fun _=>false:=funext hl0
     subst hl
     go_wp2_with fail
     go_end0
     exact ⟨⟨_,rfl⟩,E,HM1.out,HP1.out,HF.out⟩
   · intro k v w4 cnt1 hk' hlk hget hrg1 hlt hg1 hs1 hen
     obtain ⟨va,vn,vc,rfl⟩:=hK k v hget
     have hKk:Hv.has K k=true:=by rw[Hv.has_get,hget];rfl
     have hff:Far wr.heap.size (fun q=>q=w.heap.size+1) wr w4:=⟨hg1.os,hg1.tape,hg1.output,hg1.size,fun q hq hc=>hg1.block q hq (fun e=>hc (Option.some.inj e))⟩
     have hml:=blt HM.out.blk
     have hfl:=HM.out.files.lt
     have HM4:=hide (HM1.out.far hff (Nat.le_refl _) ⟨by omega,by omega,by omega⟩)
     have HP4:=hide (HP1.out.turned HG.out.no_row hff (Nat.le_refl _))
     have HF4:=hide (HF.out.trans (show Far w.heap.size (fun q=>q=pm) wr w4 from ⟨hff.os,hff.tape,hff.output,hff.size,fun q hq hc=>hff.block q (by omega) (by omega)⟩))
     have HG4:=hide hrg1
     have hs4:w4.heap.size=wr.heap.size:=hs1
     have m0:=(row_cell HM4.out.blk 0).trans (show _=some (.map (some pm)) from rfl)
     have hp4:=HM4.out.packs
     clear hrg1 hg1 hget hff
     cases hq:Hv.get E k with
     | none =>
       have hDk:∀ d,Hv.get D k=some d→d.status≠2:=fun d hd=>by
         have:=HP4.out.get_none hq
         rw[woke_get,hd] at this
         cases this
       have hf0:=field_status (Pk.mk [] [] [] ⟨none,0,0⟩ ⟨none,0,0⟩ ⟨none,0,0⟩ ⟨none,0,0⟩ ⟨none,0,0⟩ ⟨none,0,0⟩ 0) w4
       simp only[Pk.val,Pk.cells] at hf0
       go_wp2_with (first
         | (at_lookup;refine wp_look rfl _ _ 86 rfl 156 Tryz.underlying86 (zero_pk _) hp4 rfl k hk' rfl ?_;rw[hq];simp only[Option.getD_none]))
       go_roundw
       case rel=>exact ⟨_,cnt1,E,HG4,HM4,hide (by rw[woke_keep HPP.out.srt K left k hDk];exact HP4.out),HL1,HF4,by omega⟩
       case measure=>rw[HG4.out.left_eq,HG.out.left_eq];exact hlt
     | some u =>
       obtain ⟨d',hd',p,rfl,p1,p2,p3,p4,hpk, -⟩:=HP4.out.to_ k u hq
       have hd0:∃ d,Hv.get D k=some d∧d'=d:=by
         rw[woke_get] at hd'
         cases e:Hv.get D k with
         | none=>rw[e] at hd';cases hd'
         | some d =>
           rw[e] at hd'
           simp only[Option.map_some,Option.some.injEq] at hd'
           rw[if_neg (by rintro ⟨_,b,_⟩;rw[hlk] at b;cases b)] at hd'
           exact ⟨d,rfl,hd'.symm⟩
       obtain ⟨d,hd,rfl⟩:=hd0
       have HD:=hide hd
       have HD2:=hide hd'
       have HS:=hide p4
       have HQ:=hide hq
       have hf0:=field_status p w4
       simp only[Pk.val,Pk.cells] at hf0
       clear hpk p1 p2 p3 p4 hd hd'
       by_cases h2:p.status=2
       · rw[h2] at hf0
         go_wp2_with (first
           | (at_lookup;refine wp_look rfl _ _ 86 rfl 156 Tryz.underlying86 (zero_pk _) hp4 rfl k hk' rfl ?_;rw[hq];simp only[Option.getD_some,Pk.val,Pk.cells]))
         refine (setStatus_any mb pm fm E F k hk' p HQ.out 3 (by have:=HL1.out;unfold maxLen;omega) w4 HM4.out).mono ?_
         rintro e w5 ⟨u5,rfl,hm5,hf5⟩
         have HM5:=hide hm5
         have HG5:=hide (HG4.out.far hf5 (Nat.le_refl _) hne (by omega))
         have HP5:Hid (PkM N w5 (Hv.wokeL D K (fun z=>left z && !(z==k))) (Hv.put E k (p.to 3).val)):=hide (by
           rw[woke_put HPP.out.srt HD.out (by rw[← HS.out];exact h2) hKk]
           exact (HP4.out.toStatus hp4.1 HQ.out HD2.out 3).turned hp4.no_row hf5 (Nat.le_refl _))
         have HF5:=hide (HF4.out.next hf5 (by omega) (fun _ _ q=>q))
         have HL5:Hid ((Hv.put E k (p.to 3).val).length≤1000):=hide (by
           have e1:=HP5.out.len hm5.packs.1
           rw[e1]
           have e2:(Hv.wokeL D K fun z=>left z && !(z==k)).length=D.length:=by unfold Hv.wokeL;simp
           rw[e2,← HPP.out.len HM.out.packs.1]
           exact hmany)
         have hs5:=hf5.size
         clear hm5 hf5
         go_wp2_with fail
         go_roundw
         case rel=>exact ⟨_,cnt1,_,HG5,HM5,HP5,HL5,HF5,by omega⟩
         case measure=>rw[HG5.out.left_eq,HG.out.left_eq];exact hlt
       · go_wp2_with (first
           | (at_lookup;refine wp_look rfl _ _ 86 rfl 156 Tryz.underlying86 (zero_pk _) hp4 rfl k hk' rfl ?_;rw[hq];simp only[Option.getD_some,Pk.val,Pk.cells]))
         go_roundw
         case rel=>exact ⟨_,cnt1,E,HG4,HM4,hide (by rw[woke_keep HPP.out.srt K left k (fun d2 h=>by rw[HD.out] at h;cases h;rw[← HS.out];exact h2)];exact HP4.out),HL1,HF4,by omega⟩
         case measure=>rw[HG4.out.left_eq,HG.out.left_eq];exact hlt
theorem adds_pk (cb sm:Nat) (Q:VM Value) (hQ:Q.length≤1000000) (N:Nat→Prop) (d:Hv.PD) (v:Value) (w:World) (h:PkR N w d v) (hm:MapAt w sm Q) (hc:w.cell? ⟨cb,0,none⟩=some (.map (some sm))) :
   Calls Tryz.prog 181 #[v, .pointer (some ⟨cb,0,none⟩)] w fun e w'=>∃ u,e = .returned u∧MapAt w' sm (addAll Q d.paths)∧Far w.heap.size (fun k=>k=sm) w w':=by
 obtain ⟨p,rfl,h2,h3,h4,h5,h6,h7⟩:=h
 have hg:=(parse_good h6.parse).2.2.files
 have hf:=(parse_fits h6.parse).2.2.1.2.2.2.1
 exact adds_any cb sm Q hQ p d.st.files (by omega) (fun q hq=>path_len (hg q hq).1) w (h6.rows 3) hm hc
theorem adds_zero (cb sm:Nat) (Q:VM Value) (hQ:Q.length≤1000000) (w:World) (hm:MapAt w sm Q) (hc:w.cell? ⟨cb,0,none⟩=some (.map (some sm))) :
   Calls Tryz.prog 181 #[.agg zeroCells, .pointer (some ⟨cb,0,none⟩)] w fun e w'=>∃ u,e = .returned u∧MapAt w' sm Q∧Far w.heap.size (fun k=>k=sm) w w' :=
 adds_any cb sm Q hQ (Pk.mk [] [] [] ⟨none,0,0⟩ ⟨none,0,0⟩ ⟨none,0,0⟩ ⟨none,0,0⟩ ⟨none,0,0⟩ ⟨none,0,0⟩ 0) [] (by simp) (fun q hq=>by cases hq) w (World.ownsRow_nil _ _ _ _) hm hc
def atOr (E:VM Value) (k:S):Value:=(Hv.get E k).getD (.agg zeroCells)
theorem adds_at (cb sm:Nat) (Q:VM Value) (hQ:Q.length≤1000000) (N:Nat→Prop) (D:VM Hv.PD) (E:VM Value) (k:S) (w:World) (h:PkM N w D E) (hm:MapAt w sm Q) (hc:w.cell? ⟨cb,0,none⟩=some (.map (some sm))) :
   Calls Tryz.prog 181 #[atOr E k, .pointer (some ⟨cb,0,none⟩)] w fun e w'=>∃ u,e = .returned u∧MapAt w' sm (addAll Q (pathsAt D k))∧Far w.heap.size (fun k=>k=sm) w w':=by
 unfold atOr pathsAt
 cases q:Hv.get E k with
 | none=>rw[h.get_none q];exact adds_zero cb sm Q hQ w hm hc
 | some v =>
   obtain ⟨d,hd,hr⟩:=h.to_ k v q
   rw[hd]
   exact adds_pk cb sm Q hQ N d v w hr hm hc
theorem pathsAt_len {N:Nat→Prop} {w:World} {D:VM Hv.PD} {E:VM Value} (h:PkM N w D E) (k:S):(pathsAt D k).length≤21:=by
 unfold pathsAt
 cases q:Hv.get D k with
 | none=>simp
 | some d =>
   obtain ⟨v,_,p,_,_,_,_,_,hpk,_⟩:=h.fro k d q
   have:=(parse_fits hpk.parse).2.2.1.2.2.2.1
   simp only[Hv.PD.paths,List.length_map]
   exact this
end
end Go.Proofs.YtialenebfcnkkaaGreatDoor
