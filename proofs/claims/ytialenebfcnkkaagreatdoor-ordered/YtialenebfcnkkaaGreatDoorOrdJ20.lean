/- PlnW5, PlnW6, PlnMath, PlnW7, PlnW8, PlnW9, PlnW10 -/
import Derived.Test.YtialenebfcnkkaaGreatDoorOrdJ19
set_option maxHeartbeats 4000000
set_option maxRecDepth 100000
namespace Go.Proofs.YtialenebfcnkkaaGreatDoor
section
open Go.RowKit
open aH (St)
open Hv (S Dk VM)
namespace Hv
theorem mZ {α:Type}:∀ {E:VM α} {k:S},aM E→has E k=true→(del E k).length+1=E.length
 | [],k,_,h=>by cases h
 | p::E,k,hs,h=>by
   obtain ⟨g1,g2⟩:=List.pairwise_cons.1 hs
   by_cases e:p.1=k
   · have hd:del E k=E:=by
       unfold del
       rw[List.filter_eq_self]
       intro q hq
       have : ¬ q.1=k:=fun e2=>by have:=g1 q hq;rw[e,e2,dL] at this;cases this
       simp[this]
     have:del (p::E) k=del E k:=by unfold del;rw[List.filter_cons_of_neg (by simp[e])]
     rw[this,hd];rfl
   · have:del (p::E) k=p::del E k:=by unfold del;rw[List.filter_cons_of_pos (by simp[e])]
     rw[this]
     have h2:has E k=true:=by
       unfold has at h ⊢
       rw[List.any_cons] at h
       have:(p.1==k)=false:=by simp[e]
       rw[this] at h
       simpa using h
     have:=mZ g2 h2
     simp only[List.length_cons]
     omega
def pick (fr:VM PD→S→Bool) (D:VM PD):S:=match (keysOf D).find? (fr D) with
 | some k=>k
 | none=>(keysOf D).headD []
def jI (fr:VM PD→S→Bool):Nat→VM PD→List S
 | 0,_=>[]
 | n+1,D=>pick fr D::jI fr n (del D (pick fr D))
def order (fr:VM PD→S→Bool) (D:VM PD):List S:=jI fr D.length D
theorem mem_keys {α:Type} {E:VM α} {k:S} (h:k∈keysOf E):has E k=true:=by
 obtain ⟨p,hp,e⟩:=List.mem_map.1 h
 exact List.any_eq_true.2 ⟨p,hp,by simp[e]⟩
theorem mq (fr:VM PD→S→Bool) {D:VM PD} (h:0<D.length):has D (pick fr D)=true:=by
 unfold pick
 cases q:(keysOf D).find? (fr D) with
 | some k=>exact mem_keys (List.mem_of_find?_eq_some q)
 | none =>
   cases D with
   | nil=>simp at h
   | cons p D=>exact mem_keys (by simp[keysOf])
theorem BR (fr:VM PD→S→Bool) {D:VM PD} (hs:aM D) (h:0<D.length):order fr D=pick fr D::order fr (del D (pick fr D)):=by
 have e:=mZ hs (mq fr h)
 have:order fr D=jI fr ((del D (pick fr D)).length+1) D:=by unfold order;rw[e]
 rw[this]
 rfl
end Hv
theorem dA.keys {N:Nat→Prop} {w:World} {D:VM Hv.PD} {E:VM Value} (h:dA N w D E) (hE:Hv.aM E):keysOf E=keysOf D:=by
 have e:(E.map fun p=>(p.1,()))=D.map fun p=>(p.1,()):=(hE.map fun _=>()).dD (h.dU.map fun _=>()) (fun k=>by
   rw[Hv.get_map E (fun _=>()),Hv.get_map D (fun _=>())]
   cases q:Hv.get E k with
   | none=>rw[h.get_none q];rfl
   | some v=>obtain ⟨d,hd,_⟩:=h.nD k v q;rw[hd];rfl)
 have:=congrArg (List.map (·.1)) e
 simpa [keysOf,List.map_map,Function.comp_def] using this
theorem dA.del {N:Nat→Prop} {w:World} {D:VM Hv.PD} {E:VM Value} (h:dA N w D E) (hE:Hv.aM E) (k:S):dA N w (Hv.del D k) (Hv.del E k):=by
 refine ⟨h.dU.del k,fun k' v q => ?_,fun k' d q => ?_⟩
 · by_cases e:k'=k
   · subst e;rw[Hv.bn] at q;cases q
   · rw[Hv.aV hE e] at q;rw[Hv.aV h.dU e];exact h.nD k' v q
 · by_cases e:k'=k
   · subst e;rw[Hv.bn] at q;cases q
   · rw[Hv.aV h.dU e] at q;rw[Hv.aV hE e];exact h.wZ k' d q
theorem zX {α:Type} {E:VM α} (hE:Hv.aM E) {k n:S} (h:Hv.has (Hv.del E k) n=true):Hv.has E n=true:=by
 rw[Hv.aB] at h ⊢
 by_cases e:n=k
 · subst e;rw[Hv.bn] at h;cases h
 · rwa [Hv.aV hE e] at h
theorem Il {l:List S} (h:0<l.length):l[0]=l.headD []:=by
 cases l with
 | nil=>simp at h
 | cons a l=>rfl
structure DR (fr:VM Hv.PD→S→Bool) (fv:Value) (D0:VM Hv.PD) (N:Nat→Prop) (B lb lm:Nat) (w wr:World) (o:Value) (done:List S) (D:VM Hv.PD) (E:VM Value):Prop where
 row:wr.ownsRow (lb+1) 9 1 o done.length (done.map aO)
 map:MapAt wr lm E
 pk:dA N w D E
 left:Hv.order fr D0=done++Hv.order fr D
 lens:done.length+D.length=D0.length
 keys:∀ n,Hv.has D n=true→Hv.has D0 n=true
 f:wr.cell? ⟨B,0,none⟩=some fv
 l:wr.cell? ⟨lb,0,none⟩=some (.map (some lm))
 bA:Below B w wr
theorem W9 (pm:Nat) (P:VM Value) (D0:VM Hv.PD) (N:Nat→Prop) (Im:P.length≤1000) (hks:∀ n,Hv.has D0 n=true→n.length≤12) (w:World) (hp:MapAt w pm P) (hP:dA N w D0 P) :
   Calls Tryz.prog 126 #[.map (some pm), .func (.func 127) #[] #[]] w fun e w'=>∃ v,e = .returned v∧w'.ownsRow w.heap.size 9 1 v (Hv.order aI D0).length ((Hv.order aI D0).map aO)∧Below w.heap.size w w':=by
 obtain ⟨i0,hi,hz0,hz1,hz2⟩:=aW gL
 have HP:=hide hp;have eU:=hide hP;have Vq:=hide hks
 have hpl:=hp.lt
 have hrow:=heap_alloc_new w (.cells #[.func (.func 127) #[] #[]] 216)
 have hb0:=(Below.refl w.heap.size w).alloc (Nat.le_refl _) (.cells #[.func (.func 127) #[] #[]] 216)
 have hsz:(w.alloc (.cells #[.func (.func 127) #[] #[]] 216)).heap.size=w.heap.size+1:=by simp
 have HD0:=hide (hP.len hp.1)
 clear hp hP hks
 go_enter Tryz.func126,Tryz.ntmps126
 go_wp2_with fail
 refine (oI pm P _ (HP.out.below hb0)).mono ?_
 rintro e w1 ⟨rfl,hm1,hb1⟩
 have hlt1:=hm1.lt
 rw[hsz] at hm1 hlt1 ⊢
 have K8:=hb0.trans (hb1.mono hb0.size)
 have HI0:Hid (DR aI (.func (.func 127) #[] #[]) D0 N w.heap.size w1.heap.size (w.heap.size+1) w (w1.alloc (.cells #[.map (some (w.heap.size+1))] 86)) (.slice none 0 0) [] D0 P):=hide
   ⟨World.ownsRow_nil _ _ _ _,hm1.alloc _,eU.out,rfl,by simp,fun n h=>h,
     (fE (by omega) _).trans ((World.cell?_of_block (a:=⟨w.heap.size,0,none⟩) (hb1.block w.heap.size (by omega))).trans ((ah hrow 0).trans rfl)),(ah (heap_alloc_new w1 _) 0).trans rfl,K8.alloc K8.size _⟩
 obtain ⟨lb,hlb⟩:∃ lb,w1.heap.size=lb:=⟨_,rfl⟩
 have ZT:w.heap.size+1<lb:=by omega
 obtain ⟨B,hB⟩:∃ B,w.heap.size=B:=⟨_,rfl⟩
 have pV:=hide hB
 rw[hlb] at HI0
 rw[hB] at ZT HI0
 clear hrow hb0 hsz hm1 hb1 K8 hlt1
 go_wp2_with fail
 go_loopw [6] (fun o wr=>∃ (done:List S) (D:VM Hv.PD) (E:VM Value) (oo:Option Addr) (oc:Nat),o = .slice oo done.length oc∧Hid (DR aI (.func (.func 127) #[] #[]) D0 N B lb (B+1) w wr o done D E)) (fun o _=>D0.length-lenOf o)
 case atStart=>exact ⟨[],D0,P,none,0,rfl,HI0⟩
 case round =>
   clear HI0
   obtain ⟨done,D,E,oo,oc,rfl,HI⟩:=hrel
   have hml:=HI.out.map.len Tryz.underlying86 3
   have hEl:=HI.out.pk.len HI.out.map.1
   rw[hEl] at hml
   have YH:=hide hEl
   clear hEl
   have l0:=HI.out.l
   have ZJ:D.length≤1000:=by have:=HI.out.lens;have:=HD0.out;omega
   have hdone:done.length≤1000:=by have:=HI.out.lens;have:=HD0.out;omega
   by_cases hz:D.length=0
   · have g3 : ¬ (0:Int)<(D.length:Int):=by omega
     have HE:Hid (Hv.order aI D0=done):=hide (by rw[HI.out.left];unfold Hv.order;rw[hz];simp[Hv.jI])
     go_wp2_with fail
     go_ret
     rw[HE.out]
     exact ⟨_,rfl,bN HI.out.row (by omega),HI.out.bA⟩
   · have g3:(0:Int)<(D.length:Int):=by omega
     go_wp2_with fail
     refine (callsIn_wide.1 (Tryz.maps_Keys_135 (some (B+1)) wr)).mono ?_
     rintro e w2 ⟨rfl,rfl⟩
     go_wp2_with fail
     refine (callsIn_wide.1 (Tryz.slices_Sorted_keys_72_135 (B+1) E.length (Hv.rU E) Hv.hR wr HI.out.map.2 (by rw[Hv.gZ,YH.out];unfold maxLen;omega) (by rw[Hv.gZ,YH.out];omega))).mono ?_
     rintro e w3 ⟨v,ss,rfl,hS,hrow, -,hb⟩
     have hk:=jW HI.out.map.1 hS
     have hl:ss.length=(keysOf D).length:=by rw[hS.length_eq,jB,HI.out.pk.keys HI.out.map.1]
     rw[hk,hl,HI.out.pk.keys HI.out.map.1] at hrow
     have hwz:(wr.alloc (.cells #[.map (some (B+1))] 86)).heap.size=wr.heap.size+1:=by simp
     have hB1:B+1<wr.heap.size:=HI.out.map.lt
     have hrow3:=bN (B:=wr.heap.size) hrow (by simp)
     have HR3:=hide (show w3.ownsRow wr.heap.size 9 1 v (keysOf D).length ((keysOf D).map aO) from hrow3)
     have HB3:=hide (((Below.refl wr.heap.size wr).alloc (Nat.le_refl _) (.cells #[.map (some (B+1))] 86)).trans (hb.mono (by simp)))
     have MQ:=hide (HI.out.map.below HB3.out)
     have J8:=hide (HI.out.bA.trans (HB3.out.mono (by omega)))
     have uX:=hide (HI.out.pk.below (show Below w.heap.size w w3 by rw[pV.out];exact J8.out))
     have HO3:=hide (own_below HI.out.row HB3.out)
     have Sj:B<wr.heap.size:=World.block_lt_of_cell? wr _ HI.out.f
     have Sn:lb<wr.heap.size:=World.block_lt_of_cell? wr _ HI.out.l
     have f3:=(HB3.out.cell (p:=⟨B,0,none⟩) Sj).trans HI.out.f
     have l3:=(HB3.out.cell (p:=⟨lb,0,none⟩) Sn).trans HI.out.l
     obtain ⟨ka,kc,rfl⟩:=slice_form HR3.out
     have YJ:Hid ((keysOf D).length=D.length):=hide (by unfold keysOf;simp)
     have YK:=hide (show ∀ n∈keysOf D,n.length≤maxLen∧Hv.has D n=true from fun n hn=>⟨by have:=Vq.out n (HI.out.keys n (Hv.mem_keys hn));unfold maxLen;omega,Hv.mem_keys hn⟩)
     have mO:=hide f3;have NY:=hide l3
     clear hrow hrow3 hb hk hl hS hwz l0 hml
     go_wp2_with fail
     refine (Wo (B+1) B lb E D N (keysOf D) (by rw[YJ.out];omega) YK.out wr.heap.size (.slice ka (keysOf D).length kc) w3 HR3.out MQ.out uX.out mO.out NY.out).mono ?_
     rintro e w4 ⟨i,rfl,hif,hb4⟩
     have hjj:∃ jj:Nat,max 0 i=(jj:Int)∧∃ h:jj<(keysOf D).length,(keysOf D)[jj]=Hv.pick aI D:=by
       rcases hif with ⟨j,rfl,h1,h2⟩ | ⟨rfl,h2⟩
       · exact ⟨j,by omega,h1,by unfold Hv.pick;rw[h2]⟩
       · refine ⟨0,by omega,by rw[YJ.out];omega,?_⟩
         have:(keysOf D).find? (aI D)=none:=List.find?_eq_none.2 (fun x hx=>by rw[h2 x hx];simp)
         unfold Hv.pick
         rw[this]
         simp only
         exact Il _
     obtain ⟨jj,hmx,hjl,ZP⟩:=hjj
     have zW:=own_below HR3.out hb4
     obtain ⟨g,c',hv2,hg,q1⟩:=gF zW hjl
     obtain rfl:ka=some ⟨g,0,none⟩:=(Value.slice.inj hv2).1
     have hgw:wr.heap.size≤g:=uo zW rfl
     have HPH:=hide (Hv.mq aI (D:=D) (by omega))
     have HST:=hide (Hv.BR aI HI.out.pk.dU (by omega))
     have hjb:(jj:Int)<((keysOf D).length:Int):=by omega
     rw[ZP] at q1
     obtain ⟨x,hx⟩:∃ x,Hv.pick aI D=x:=⟨_,rfl⟩
     rw[hx] at q1 HPH HST
     have hxl:x.length≤maxLen:=(YK.out x (by rw[← hx,← ZP];exact List.getElem_mem hjl)).1
     obtain ⟨kl,hkl⟩:∃ kl,(keysOf D).length=kl:=⟨_,rfl⟩
     have acz:=hide hkl
     have hl4:=(hb4.cell (p:=⟨lb,0,none⟩) (Nat.lt_of_lt_of_le Sn HB3.out.size)).trans NY.out
     have lF:=(hb4.cell (p:=⟨B,0,none⟩) (Nat.lt_of_lt_of_le Sj HB3.out.size)).trans mO.out
     have CP:=hide (own_below HO3.out hb4)
     have uV:=hide (MQ.out.below hb4)
     have iI:=hide (HB3.out.trans (hb4.mono HB3.out.size))
     have sS:=hide lF;have HL4:=hide hl4;have QS:=hide q1
     rw[hkl] at hjb ⊢
     clear hif hjl ZP zW hv2 hx hb4 HR3 YK YJ hkl lF
     go_wp2_with (first
       | (at_builtin;refine wpList_append_own _ rfl _ _ 28 rfl (lb+1) 9 i0 (.string ByteArray.empty) 1 16 Tryz.underlying28 hi hz0 hz1 hz2 rfl (by decide) _ _ _ rfl (CP.out.alloc _) ⟨w4.heap.size,0,none⟩ 1 1 [.string ⟨x.toArray⟩] rfl rfl (cell_one_new _ _ _) (fun x hx=>by simp at hx;subst hx;rfl) (by unfold maxLen;omega) (by omega) (by simp;omega) ?_;intro v' w5 hown' tX Sv))
     obtain ⟨g3,cap,rfl⟩:=aP hown' (by omega)
     have adf:=iI.out.size
     have hs4:(w4.alloc (.cells #[.string ⟨x.toArray⟩] 9)).heap.size=w4.heap.size+1:=by simp
     have hne:∀ q,(Value.slice oo done.length oc).ownBlock=some q→lb+1≤q∧q<wr.heap.size:=fun q hq=>HI.out.row.lt q hq
     have Aq:∀ k,k<w4.heap.size→(k≤lb∨wr.heap.size≤k)→w5.heap[k]? = w4.heap[k]? := fun k hk hc=>(tX.block k (by rw[hs4];omega) (fun e=>by have:=hne k e.symm;omega)).trans (Below.heap_alloc w4 _ k hk)
     have l5:=(World.cell?_of_block (a:=⟨lb,0,none⟩) (Aq lb (by omega) (.inl (Nat.le_refl _)))).trans HL4.out
     have f5:=(World.cell?_of_block (a:=⟨B,0,none⟩) (Aq B (by omega) (.inl (by omega)))).trans sS.out
     have q5:=(World.cell?_of_block (a:=⟨g,jj,none⟩) (Aq g hg (.inr hgw))).trans QS.out
     have M5:=uV.out.kept (Aq (B+1) (by omega) (.inl (by omega)))
     have RI:=((HI.out.bA.trans (iI.out.mono (by omega))).alloc (by omega) (.cells #[.string ⟨x.toArray⟩] 9)).grown tX (by rw[hs4];omega) (fun q hq=>by have:=hne q hq;omega)
     have hg5:g<w5.heap.size:=World.block_lt_of_cell? w5 _ q5
     have hl5:lb<w5.heap.size:=World.block_lt_of_cell? w5 _ l5
     obtain ⟨w6,hrun,hM6,ht6⟩:=M5.drew.drop Tryz.underlying86 x hxl 0
     have Ea:=aX ht6
     have k6:∀ k,k<w5.heap.size→k≠B+1→w6.heap[k]? = w5.heap[k]? := fun k hk hc=>Ea.block k hk hc
     have l6:=(World.cell?_of_block (a:=⟨lb,0,none⟩) (k6 lb hl5 (by omega))).trans l5
     have q6:=(World.cell?_of_block (a:=⟨g,jj,none⟩) (k6 g hg5 (by omega))).trans q5
     have f6:=(World.cell?_of_block (a:=⟨B,0,none⟩) (k6 B (by omega) (by omega))).trans f5
     have Ka:Hid (DR aI (.func (.func 127) #[] #[]) D0 N B lb (B+1) w w6 (.slice (some ⟨g3,0,none⟩) (done.length+1) cap) (done++[x]) (Hv.del D x) (Hv.del E x)):=hide
       ⟨by
         have h:=Ea.own (show w5.drew.ownsRow (lb+1) 9 1 (.slice (some ⟨g3,0,none⟩) (done.length+1) cap) (done.length+1) (done.map aO++[aO x]) from hown') (Nat.le_refl _) (fun q hq e=>by have:=hown'.lt q hq;omega)
         simpa using h,
       hM6,HI.out.pk.del HI.out.map.1 x,by rw[HI.out.left,HST.out];simp,by have:=Hv.mZ HI.out.pk.dU HPH.out;have:=HI.out.lens;simp only[List.length_append,List.length_cons,List.length_nil];omega,
       fun n h=>HI.out.keys n (zX HI.out.pk.dU h),f6,l6,(RI.drew).trans (Ea.toBelow (show B≤w5.heap.size by omega) (fun q _ (e:q=B+1)=>by omega))⟩
     have abC:done.length+1≤D0.length:=by have:=HI.out.lens;omega
     clear hown' tX Sv hne Aq f5 M5 RI hM6 ht6 Ea k6 f6 hs4
     go_region_held3 (fun w'=>w'.cell? ⟨lb,0,none⟩=some (.map (some (B+1)))∧w'.cell? ⟨g,jj,none⟩=some (.string ⟨x.toArray⟩))
       (first | assumption | exact ⟨l6,q6⟩ | exact ⟨l5,q5⟩ | simp[go_sem, *])
       (fail)
     go_wp2_with fail
     go_roundw
     case rel=>exact ⟨done++[x],Hv.del D x,Hv.del E x,some ⟨g3,0,none⟩,cap,by simp,Ka⟩
     case measure=>simp[lenOf];omega
theorem Xa (pm:Nat) (P:VM Value) (D0:VM Hv.PD) (N:Nat→Prop) (Im:P.length≤1000) (hks:∀ n,Hv.has D0 n=true→n.length≤12) (w:World) (hp:MapAt w pm P) (hP:dA N w D0 P) :
   Calls Tryz.prog 126 #[.map (some pm), .func (.func 129) #[] #[]] w fun e w'=>∃ v,e = .returned v∧w'.ownsRow w.heap.size 9 1 v (Hv.order bC D0).length ((Hv.order bC D0).map aO)∧Below w.heap.size w w':=by
 obtain ⟨i0,hi,hz0,hz1,hz2⟩:=aW gL
 have HP:=hide hp;have eU:=hide hP;have Vq:=hide hks
 have hpl:=hp.lt
 have hrow:=heap_alloc_new w (.cells #[.func (.func 129) #[] #[]] 216)
 have hb0:=(Below.refl w.heap.size w).alloc (Nat.le_refl _) (.cells #[.func (.func 129) #[] #[]] 216)
 have hsz:(w.alloc (.cells #[.func (.func 129) #[] #[]] 216)).heap.size=w.heap.size+1:=by simp
 have HD0:=hide (hP.len hp.1)
 clear hp hP hks
 go_enter Tryz.func126,Tryz.ntmps126
 go_wp2_with fail
 refine (oI pm P _ (HP.out.below hb0)).mono ?_
 rintro e w1 ⟨rfl,hm1,hb1⟩
 have hlt1:=hm1.lt
 rw[hsz] at hm1 hlt1 ⊢
 have K8:=hb0.trans (hb1.mono hb0.size)
 have HI0:Hid (DR bC (.func (.func 129) #[] #[]) D0 N w.heap.size w1.heap.size (w.heap.size+1) w (w1.alloc (.cells #[.map (some (w.heap.size+1))] 86)) (.slice none 0 0) [] D0 P):=hide
   ⟨World.ownsRow_nil _ _ _ _,hm1.alloc _,eU.out,rfl,by simp,fun n h=>h,
     (fE (by omega) _).trans ((World.cell?_of_block (a:=⟨w.heap.size,0,none⟩) (hb1.block w.heap.size (by omega))).trans ((ah hrow 0).trans rfl)),(ah (heap_alloc_new w1 _) 0).trans rfl,K8.alloc K8.size _⟩
 obtain ⟨lb,hlb⟩:∃ lb,w1.heap.size=lb:=⟨_,rfl⟩
 have ZT:w.heap.size+1<lb:=by omega
 obtain ⟨B,hB⟩:∃ B,w.heap.size=B:=⟨_,rfl⟩
 have pV:=hide hB
 rw[hlb] at HI0
 rw[hB] at ZT HI0
 clear hrow hb0 hsz hm1 hb1 K8 hlt1
 go_wp2_with fail
 go_loopw [6] (fun o wr=>∃ (done:List S) (D:VM Hv.PD) (E:VM Value) (oo:Option Addr) (oc:Nat),o = .slice oo done.length oc∧Hid (DR bC (.func (.func 129) #[] #[]) D0 N B lb (B+1) w wr o done D E)) (fun o _=>D0.length-lenOf o)
 case atStart=>exact ⟨[],D0,P,none,0,rfl,HI0⟩
 case round =>
   clear HI0
   obtain ⟨done,D,E,oo,oc,rfl,HI⟩:=hrel
   have hml:=HI.out.map.len Tryz.underlying86 3
   have hEl:=HI.out.pk.len HI.out.map.1
   rw[hEl] at hml
   have YH:=hide hEl
   clear hEl
   have l0:=HI.out.l
   have ZJ:D.length≤1000:=by have:=HI.out.lens;have:=HD0.out;omega
   have hdone:done.length≤1000:=by have:=HI.out.lens;have:=HD0.out;omega
   by_cases hz:D.length=0
   · have g3 : ¬ (0:Int)<(D.length:Int):=by omega
     have HE:Hid (Hv.order bC D0=done):=hide (by rw[HI.out.left];unfold Hv.order;rw[hz];simp[Hv.jI])
     go_wp2_with fail
     go_ret
     rw[HE.out]
     exact ⟨_,rfl,bN HI.out.row (by omega),HI.out.bA⟩
   · have g3:(0:Int)<(D.length:Int):=by omega
     go_wp2_with fail
     refine (callsIn_wide.1 (Tryz.maps_Keys_135 (some (B+1)) wr)).mono ?_
     rintro e w2 ⟨rfl,rfl⟩
     go_wp2_with fail
     refine (callsIn_wide.1 (Tryz.slices_Sorted_keys_72_135 (B+1) E.length (Hv.rU E) Hv.hR wr HI.out.map.2 (by rw[Hv.gZ,YH.out];unfold maxLen;omega) (by rw[Hv.gZ,YH.out];omega))).mono ?_
     rintro e w3 ⟨v,ss,rfl,hS,hrow, -,hb⟩
     have hk:=jW HI.out.map.1 hS
     have hl:ss.length=(keysOf D).length:=by rw[hS.length_eq,jB,HI.out.pk.keys HI.out.map.1]
     rw[hk,hl,HI.out.pk.keys HI.out.map.1] at hrow
     have hwz:(wr.alloc (.cells #[.map (some (B+1))] 86)).heap.size=wr.heap.size+1:=by simp
     have hB1:B+1<wr.heap.size:=HI.out.map.lt
     have hrow3:=bN (B:=wr.heap.size) hrow (by simp)
     have HR3:=hide (show w3.ownsRow wr.heap.size 9 1 v (keysOf D).length ((keysOf D).map aO) from hrow3)
     have HB3:=hide (((Below.refl wr.heap.size wr).alloc (Nat.le_refl _) (.cells #[.map (some (B+1))] 86)).trans (hb.mono (by simp)))
     have MQ:=hide (HI.out.map.below HB3.out)
     have J8:=hide (HI.out.bA.trans (HB3.out.mono (by omega)))
     have uX:=hide (HI.out.pk.below (show Below w.heap.size w w3 by rw[pV.out];exact J8.out))
     have HO3:=hide (own_below HI.out.row HB3.out)
     have Sj:B<wr.heap.size:=World.block_lt_of_cell? wr _ HI.out.f
     have Sn:lb<wr.heap.size:=World.block_lt_of_cell? wr _ HI.out.l
     have f3:=(HB3.out.cell (p:=⟨B,0,none⟩) Sj).trans HI.out.f
     have l3:=(HB3.out.cell (p:=⟨lb,0,none⟩) Sn).trans HI.out.l
     obtain ⟨ka,kc,rfl⟩:=slice_form HR3.out
     have YJ:Hid ((keysOf D).length=D.length):=hide (by unfold keysOf;simp)
     have YK:=hide (show ∀ n∈keysOf D,n.length≤maxLen∧Hv.has D n=true from fun n hn=>⟨by have:=Vq.out n (HI.out.keys n (Hv.mem_keys hn));unfold maxLen;omega,Hv.mem_keys hn⟩)
     have mO:=hide f3;have NY:=hide l3
     clear hrow hrow3 hb hk hl hS hwz l0 hml
     go_wp2_with fail
     refine (Wp (B+1) B lb E D N (keysOf D) (by rw[YJ.out];omega) YK.out wr.heap.size (.slice ka (keysOf D).length kc) w3 HR3.out MQ.out uX.out mO.out NY.out).mono ?_
     rintro e w4 ⟨i,rfl,hif,hb4⟩
     have hjj:∃ jj:Nat,max 0 i=(jj:Int)∧∃ h:jj<(keysOf D).length,(keysOf D)[jj]=Hv.pick bC D:=by
       rcases hif with ⟨j,rfl,h1,h2⟩ | ⟨rfl,h2⟩
       · exact ⟨j,by omega,h1,by unfold Hv.pick;rw[h2]⟩
       · refine ⟨0,by omega,by rw[YJ.out];omega,?_⟩
         have:(keysOf D).find? (bC D)=none:=List.find?_eq_none.2 (fun x hx=>by rw[h2 x hx];simp)
         unfold Hv.pick
         rw[this]
         simp only
         exact Il _
     obtain ⟨jj,hmx,hjl,ZP⟩:=hjj
     have zW:=own_below HR3.out hb4
     obtain ⟨g,c',hv2,hg,q1⟩:=gF zW hjl
     obtain rfl:ka=some ⟨g,0,none⟩:=(Value.slice.inj hv2).1
     have hgw:wr.heap.size≤g:=uo zW rfl
     have HPH:=hide (Hv.mq bC (D:=D) (by omega))
     have HST:=hide (Hv.BR bC HI.out.pk.dU (by omega))
     have hjb:(jj:Int)<((keysOf D).length:Int):=by omega
     rw[ZP] at q1
     obtain ⟨x,hx⟩:∃ x,Hv.pick bC D=x:=⟨_,rfl⟩
     rw[hx] at q1 HPH HST
     have hxl:x.length≤maxLen:=(YK.out x (by rw[← hx,← ZP];exact List.getElem_mem hjl)).1
     obtain ⟨kl,hkl⟩:∃ kl,(keysOf D).length=kl:=⟨_,rfl⟩
     have acz:=hide hkl
     have hl4:=(hb4.cell (p:=⟨lb,0,none⟩) (Nat.lt_of_lt_of_le Sn HB3.out.size)).trans NY.out
     have lF:=(hb4.cell (p:=⟨B,0,none⟩) (Nat.lt_of_lt_of_le Sj HB3.out.size)).trans mO.out
     have CP:=hide (own_below HO3.out hb4)
     have uV:=hide (MQ.out.below hb4)
     have iI:=hide (HB3.out.trans (hb4.mono HB3.out.size))
     have sS:=hide lF;have HL4:=hide hl4;have QS:=hide q1
     rw[hkl] at hjb ⊢
     clear hif hjl ZP zW hv2 hx hb4 HR3 YK YJ hkl lF
     go_wp2_with (first
       | (at_builtin;refine wpList_append_own _ rfl _ _ 28 rfl (lb+1) 9 i0 (.string ByteArray.empty) 1 16 Tryz.underlying28 hi hz0 hz1 hz2 rfl (by decide) _ _ _ rfl (CP.out.alloc _) ⟨w4.heap.size,0,none⟩ 1 1 [.string ⟨x.toArray⟩] rfl rfl (cell_one_new _ _ _) (fun x hx=>by simp at hx;subst hx;rfl) (by unfold maxLen;omega) (by omega) (by simp;omega) ?_;intro v' w5 hown' tX Sv))
     obtain ⟨g3,cap,rfl⟩:=aP hown' (by omega)
     have adf:=iI.out.size
     have hs4:(w4.alloc (.cells #[.string ⟨x.toArray⟩] 9)).heap.size=w4.heap.size+1:=by simp
     have hne:∀ q,(Value.slice oo done.length oc).ownBlock=some q→lb+1≤q∧q<wr.heap.size:=fun q hq=>HI.out.row.lt q hq
     have Aq:∀ k,k<w4.heap.size→(k≤lb∨wr.heap.size≤k)→w5.heap[k]? = w4.heap[k]? := fun k hk hc=>(tX.block k (by rw[hs4];omega) (fun e=>by have:=hne k e.symm;omega)).trans (Below.heap_alloc w4 _ k hk)
     have l5:=(World.cell?_of_block (a:=⟨lb,0,none⟩) (Aq lb (by omega) (.inl (Nat.le_refl _)))).trans HL4.out
     have f5:=(World.cell?_of_block (a:=⟨B,0,none⟩) (Aq B (by omega) (.inl (by omega)))).trans sS.out
     have q5:=(World.cell?_of_block (a:=⟨g,jj,none⟩) (Aq g hg (.inr hgw))).trans QS.out
     have M5:=uV.out.kept (Aq (B+1) (by omega) (.inl (by omega)))
     have RI:=((HI.out.bA.trans (iI.out.mono (by omega))).alloc (by omega) (.cells #[.string ⟨x.toArray⟩] 9)).grown tX (by rw[hs4];omega) (fun q hq=>by have:=hne q hq;omega)
     have hg5:g<w5.heap.size:=World.block_lt_of_cell? w5 _ q5
     have hl5:lb<w5.heap.size:=World.block_lt_of_cell? w5 _ l5
     obtain ⟨w6,hrun,hM6,ht6⟩:=M5.drew.drop Tryz.underlying86 x hxl 0
     have Ea:=aX ht6
     have k6:∀ k,k<w5.heap.size→k≠B+1→w6.heap[k]? = w5.heap[k]? := fun k hk hc=>Ea.block k hk hc
     have l6:=(World.cell?_of_block (a:=⟨lb,0,none⟩) (k6 lb hl5 (by omega))).trans l5
     have q6:=(World.cell?_of_block (a:=⟨g,jj,none⟩) (k6 g hg5 (by omega))).trans q5
     have f6:=(World.cell?_of_block (a:=⟨B,0,none⟩) (k6 B (by omega) (by omega))).trans f5
     have Ka:Hid (DR bC (.func (.func 129) #[] #[]) D0 N B lb (B+1) w w6 (.slice (some ⟨g3,0,none⟩) (done.length+1) cap) (done++[x]) (Hv.del D x) (Hv.del E x)):=hide
       ⟨by
         have h:=Ea.own (show w5.drew.ownsRow (lb+1) 9 1 (.slice (some ⟨g3,0,none⟩) (done.length+1) cap) (done.length+1) (done.map aO++[aO x]) from hown') (Nat.le_refl _) (fun q hq e=>by have:=hown'.lt q hq;omega)
         simpa using h,
       hM6,HI.out.pk.del HI.out.map.1 x,by rw[HI.out.left,HST.out];simp,by have:=Hv.mZ HI.out.pk.dU HPH.out;have:=HI.out.lens;simp only[List.length_append,List.length_cons,List.length_nil];omega,
       fun n h=>HI.out.keys n (zX HI.out.pk.dU h),f6,l6,(RI.drew).trans (Ea.toBelow (show B≤w5.heap.size by omega) (fun q _ (e:q=B+1)=>by omega))⟩
     have abC:done.length+1≤D0.length:=by have:=HI.out.lens;omega
     clear hown' tX Sv hne Aq f5 M5 RI hM6 ht6 Ea k6 f6 hs4
     go_region_held3 (fun w'=>w'.cell? ⟨lb,0,none⟩=some (.map (some (B+1)))∧w'.cell? ⟨g,jj,none⟩=some (.string ⟨x.toArray⟩))
       (first | assumption | exact ⟨l6,q6⟩ | exact ⟨l5,q5⟩ | simp[go_sem, *])
       (fail)
     go_wp2_with fail
     go_roundw
     case rel=>exact ⟨done++[x],Hv.del D x,Hv.del E x,some ⟨g3,0,none⟩,cap,by simp,Ka⟩
     case measure=>simp[lenOf];omega
def bD (Q:VM Value) (l:List S):VM Value:=l.foldl (fun q x=>Hv.put q x dB) Q
theorem je (l:List S):∀ Q:VM Value,(bD Q l).length≤Q.length+l.length:=by
 induction l with
 | nil=>intro Q;simp[bD]
 | cons x l ih =>
   intro Q
   have:=ih (Hv.put Q x dB)
   have:=Hv.eZ Q x dB
   simp only[bD,List.foldl_cons,List.length_cons] at *
   omega
theorem Gz (Q:VM Value) (l:List S) (x:S):bD Q (l++[x])=Hv.put (bD Q l) x dB:=by simp[bD]
theorem BF {w:World} {b g:Nat} {E:VM Value} {cs:Array Value} {t:TypeId} {fz:Nat × Nat} (h:MapAt w b E) (hr:w.heap[g]? = some (.cells cs t fz)):g≠b:=by
 rintro rfl
 obtain ⟨_,es,clock,h1,_⟩:=h
 rw[h1] at hr
 cases hr
theorem GD (cb sm:Nat) (Q:VM Value) (hQ:Q.length≤1000000) (p:Pk) (F:List (S × S)) (hF:F.length≤30) (hl:∀ q∈F,q.1.length≤24) (w:World) (hr:w.ownsRow 0 234 2 p.files.val F.length (F.flatMap cB)) (hm:MapAt w sm Q) (hc:w.cell? ⟨cb,0,none⟩=some (.map (some sm))) :
   Calls Tryz.prog 181 #[p.val, .pointer (some ⟨cb,0,none⟩)] w fun e w'=>∃ u,e = .returned u∧MapAt w' sm (bD Q (F.map (·.1)))∧aQ w.heap.size (fun k=>k=sm) w w':=by
 obtain ⟨tx,pn,pv,nd,br,wk,⟨na,nn,nc⟩,ru,wo,qK⟩:=p
 have HN:=hide (Qt hr)
 have HR:=hide hr;have HM:=hide hm
 have hcb:cb<w.heap.size:=World.block_lt_of_cell? w _ hc
 have hsl:=hm.lt
 have hcn:cb≠sm:=by
   rintro rfl
   obtain ⟨_,es,clock,h1,_⟩:=hm
   simp[World.cell?,h1] at hc
 have HC:=hide hc;have HL:=hide hl
 have hrow:=heap_alloc_new w (.cells (Pk.mk tx pn pv nd br wk ⟨na,nn,nc⟩ ru wo qK).cells 156)
 have a6:=(ah hrow 6).trans (show _=some (.slice na nn nc) from rfl)
 have iV:=hide ((aQ.refl w.heap.size (fun k=>k=sm) w).alloc (Nat.le_refl _) (.cells (Pk.mk tx pn pv nd br wk ⟨na,nn,nc⟩ ru wo qK).cells 156))
 have dF:=hide (hm.alloc (.cells (Pk.mk tx pn pv nd br wk ⟨na,nn,nc⟩ ru wo qK).cells 156))
 simp only[Pk.cells] at a6 iV dF
 simp only[Pk.val,Pk.cells]
 clear hr hm hc hl hrow
 go_enter Tryz.func181,Tryz.ntmps181
 go_wp2_with fail
 clear a6
 go_loopw [9] (fun i wr=>∃ j:Nat,j≤nn∧i = .int .i64 (j:Int)∧Hid (MapAt wr sm (bD Q ((F.take j).map (·.1))))∧Hid (aQ w.heap.size (fun k=>k=sm) w wr)) (fun i _=>nn-(intOf i).toNat)
 case atStart=>exact ⟨0,Nat.zero_le _,rfl,dF,iV⟩
 case round =>
   clear dF iV
   obtain ⟨j,hj,rfl,kJ,eO⟩:=hrel
   by_cases hjl:j<nn
   · have b1:(j:Int)<(nn:Int):=by omega
     have hnF:nn=F.length:=HN.out
     have uS:j<F.length:=by omega
     obtain ⟨g,c,hv,hg,q1,q2⟩:=mg HR.out uS
     obtain rfl:na=some ⟨g,0,none⟩:=(Value.slice.inj hv).1
     have hgn:g≠sm:=by
       rcases HR.out.2 with ⟨e,_⟩ | ⟨g',cap,cur,e,_,h2,_⟩
       · cases e
       · cases e;exact BF HM.out h2
     have hbg:=eO.out.block g hg hgn
     have d1:=(World.cell?_of_block (a:=⟨g,j*2,none⟩) hbg).trans q1
     have d2:=(World.cell?_of_block (a:=⟨g,j*2+1,none⟩) hbg).trans q2
     have k1:=(World.cell?_of_block (a:=⟨cb,0,none⟩) (eO.out.block cb hcb hcn)).trans HC.out
     have hxl:=HL.out _ (List.getElem_mem uS)
     have HT:Hid (bD Q ((F.take (j+1)).map (·.1))=Hv.put (bD Q ((F.take j).map (·.1))) F[j].1 dB):=hide (by rw[List.take_succ_eq_append_getElem uS,List.map_append];exact Gz _ _ _)
     have WE:(bD Q ((F.take j).map (·.1))).length<maxLen:=by
       have:=je ((F.take j).map (·.1)) Q
       rw[List.length_map,List.length_take] at this
       unfold maxLen;omega
     obtain ⟨q,hq⟩:∃ q,F[j]=q:=⟨_,rfl⟩
     rw[hq] at d1 d2 hxl HT
     obtain ⟨x,y⟩:=q
     obtain ⟨Qj,hQj⟩:∃ Qj,bD Q ((F.take j).map (·.1))=Qj:=⟨_,rfl⟩
     rw[hQj] at kJ HT WE
     have hxl:x.length≤24:=hxl
     have hxm:x.length≤maxLen:=by unfold maxLen;omega
     have hm2:=kJ.out.alloc (.cells #[.string ⟨x.toArray⟩, .string ⟨y.toArray⟩] 234)
     have hz:=eO.out.size
     have aeA : ¬ wr.heap.size=cb:=by omega
     have iU:=hide (eO.out.alloc eO.out.size (.cells #[.string ⟨x.toArray⟩, .string ⟨y.toArray⟩] 234))
     have hrow2:=heap_alloc_new wr (.cells #[.string ⟨x.toArray⟩, .string ⟨y.toArray⟩] 234)
     have k2:=(fE (by omega) (.cells #[.string ⟨x.toArray⟩, .string ⟨y.toArray⟩] 234)).trans k1
     have e2:=(ah hrow2 0).trans (show _=some (.string ⟨x.toArray⟩) from rfl)
     obtain ⟨w5,hrun,FH,Yh⟩:=hm2.store Tryz.underlying133 WE x hxm (.agg #[])
     have zD:=aX Yh
     have hsu:(wr.alloc (.cells #[.string ⟨x.toArray⟩, .string ⟨y.toArray⟩] 234)).heap.size=wr.heap.size+1:=by simp
     have k5:=(World.cell?_of_block (a:=⟨cb,0,none⟩) (zD.block cb (show cb<(wr.alloc (.cells #[.string ⟨x.toArray⟩, .string ⟨y.toArray⟩] 234)).heap.size by omega) hcn)).trans k2
     have e5:=(World.cell?_of_block (a:=⟨wr.heap.size,0,none⟩) (zD.block wr.heap.size (show wr.heap.size<(wr.alloc (.cells #[.string ⟨x.toArray⟩, .string ⟨y.toArray⟩] 234)).heap.size by omega) (by omega))).trans e2
     have CO:Hid (MapAt w5 sm (bD Q ((F.take (j+1)).map (·.1)))):=hide (by rw[HT.out];exact FH)
     have Kj:=hide (iU.out.next zD iU.out.size (fun _ _ q=>q))
     clear hv q1 q2 hq hQj hbg FH Yh zD hrow2 hsu k1
     go_wp2_with fail
     go_roundw
     case rel=>exact ⟨j+1,by omega,by go_num,CO,Kj⟩
     case measure=>simp[intOf];omega
   · obtain rfl:j=nn:=by omega
     have b1 : ¬ (j:Int)<(j:Int):=by omega
     have CO:Hid (MapAt wr sm (bD Q (F.map (·.1)))):=hide (by have:=kJ.out;rwa [List.take_of_length_le (by have:=HN.out;omega)] at this)
     go_wp2_with fail
     go_end0
     exact ⟨⟨_,rfl⟩,CO.out,eO.out⟩
end
section
open Hv (S VM)
theorem lM:∀ (l:List S) (Q:VM Value),Hv.aM Q→Hv.aM (bD Q l)
 | [],_,h=>h
 | x::l,Q,h=>lM l (Hv.put Q x dB) (h.put x dB)
theorem jf:∀ (l:List S) (Q:VM Value),Hv.aM Q→ku Q→ku (bD Q l)
 | [],_,_,h=>h
 | x::l,Q,hs,h=>jf l (Hv.put Q x dB) (hs.put x dB) (ku.put h hs x)
theorem jd:∀ (l:List S) (Q:VM Value),Hv.aM Q→∀ x,Hv.has (bD Q l) x=true ↔ Hv.has Q x=true∨x∈l
 | [],_,_,x=>by simp[bD]
 | y::l,Q,h,x=>by
   have:=jd l (Hv.put Q y dB) (h.put y dB) x
   have e:bD Q (y::l)=bD (Hv.put Q y dB) l:=rfl
   rw[e,this,z8 h,List.mem_cons,or_assoc]
def bg (D:VM Hv.PD) (n:S):List S:=match Hv.get D n with
 | none=>[]
 | some d=>d.paths
def dQ (D:VM Hv.PD) (R:VM Value) (Q:VM Value):VM Value:=R.foldl (fun q p=>bD q (bg D p.1)) Q
def fO (D I:VM Hv.PD) (Q:VM Value):VM Value:=I.foldl (fun q p=>bD (bD q (bg D p.1)) p.2.paths) Q
def aT (D:VM Hv.PD) (R:VM Value) (I:VM Hv.PD):VM Value:=fO D I (dQ D R [])
theorem j3 (D:VM Hv.PD):∀ (R Q:VM Value),Hv.aM Q→ku Q→Hv.aM (dQ D R Q)∧ku (dQ D R Q)∧∀ x,Hv.has (dQ D R Q) x=true ↔ Hv.has Q x=true ∨ ∃ p∈R,x∈bg D p.1
 | [],Q,h,u=>⟨h,u,fun x=>by simp[dQ]⟩
 | p::R,Q,h,u=>by
   have h1:=lM (bg D p.1) Q h
   obtain ⟨a,b,c⟩:=j3 D R (bD Q (bg D p.1)) h1 (jf _ _ h u)
   have e:dQ D (p::R) Q=dQ D R (bD Q (bg D p.1)):=rfl
   rw[e]
   refine ⟨a,b,fun x => ?_⟩
   rw[c,jd _ _ h,or_assoc]
   simp
theorem jZ (D:VM Hv.PD):∀ (I:VM Hv.PD) (Q:VM Value),Hv.aM Q→ku Q→Hv.aM (fO D I Q)∧ku (fO D I Q)∧∀ x,Hv.has (fO D I Q) x=true ↔ Hv.has Q x=true ∨ ∃ p∈I,x∈bg D p.1∨x∈p.2.paths
 | [],Q,h,u=>⟨h,u,fun x=>by simp[fO]⟩
 | p::I,Q,h,u=>by
   have h1:=lM (bg D p.1) Q h
   have u1:=jf (bg D p.1) Q h u
   obtain ⟨a,b,c⟩:=jZ D I (bD (bD Q (bg D p.1)) p.2.paths) (lM _ _ h1) (jf _ _ h1 u1)
   have e:fO D (p::I) Q=fO D I (bD (bD Q (bg D p.1)) p.2.paths):=rfl
   rw[e]
   refine ⟨a,b,fun x => ?_⟩
   rw[c,jd _ _ h1,jd _ _ h,or_assoc,or_assoc]
   simp[or_assoc]
theorem Gc {Q Q':VM Value} (h:Hv.aM Q) (h':Hv.aM Q') (u:ku Q) (u':ku Q') (hk:∀ x,Hv.has Q x=true ↔ Hv.has Q' x=true):Q=Q' :=
 h.dD h' fun k=>by
   have e:=hk k
   rw[Hv.aB,Hv.aB] at e
   cases q:Hv.get Q k with
   | none =>
     cases q':Hv.get Q' k with
     | none=>rfl
     | some v=>rw[q,q'] at e;simp at e
   | some v =>
     cases q':Hv.get Q' k with
     | none=>rw[q,q'] at e;simp at e
     | some v'=>rw[u k v q,u' k v' q']
end
section
open Go.RowKit
open Hv (S Dk VM)
theorem kE (a:Option Addr) (n c im km:Nat) (w:World):Calls Tryz.prog 64 #[.agg #[.slice a n c, .map (some im), .map (some km)]] w fun e w'=>e = .returned (.int .i64 n)∧Below w.heap.size w w':=by
 go_enter Tryz.func64,Tryz.ntmps64
 go_wp2_with fail
 go_ret
 exact ⟨rfl,(Below.refl _ w).alloc (Nat.le_refl _) _⟩
theorem F3 (w:World):Calls Tryz.prog 64 #[.agg #[.slice none 0 0, .map none, .map none]] w fun e w'=>e = .returned (.int .i64 0)∧Below w.heap.size w w':=by
 go_enter Tryz.func64,Tryz.ntmps64
 go_wp2_with fail
 go_ret
 exact ⟨rfl,(Below.refl _ w).alloc (Nat.le_refl _) _⟩
theorem rO (w:World):(zeroValue 28).run Tryz.prog w = .ok (.slice none 0 0) w:=Tryz.zeroValue28 w
def VD (K:VM Value):Prop:=∀ k v,Hv.get K k=some v→∃ a n c,v = .slice a n c
theorem AU (a:Option Addr) (n c im km:Nat) (K:VM Value) (hK:VD K) (x:S) (hx:x.length≤maxLen) (w:World) (h:MapAt w km K) :
   Calls Tryz.prog 188 #[.agg #[.slice a n c, .map (some im), .map (some km)], .string ⟨x.toArray⟩] w fun e w'=>e = .returned (.int .i64 (if Hv.has K x=true then 3 else 2))∧Below w.heap.size w w':=by
 have h1:=h.alloc (.cells #[.slice a n c, .map (some im), .map (some km)] 89)
 have HB:=hide ((Below.refl w.heap.size w).alloc (Nat.le_refl _) (.cells #[.slice a n c, .map (some im), .map (some km)] 89))
 cases q:Hv.get K x with
 | none =>
   have hh:Hv.has K x=false:=by rw[Hv.aB,q];rfl
   rw[hh]
   go_enter Tryz.func188,Tryz.ntmps188
   go_wp2_with (first
     | (at_lookup;refine bQ rfl _ _ 87 rfl 28 Tryz.underlying87 (rO _) h1 rfl x hx rfl ?_;rw[q,hh];simp only[Option.getD_none]))
   go_ret
   exact ⟨rfl,HB.out⟩
 | some v =>
   obtain ⟨va,vn,vc,rfl⟩:=hK x v q
   have hh:Hv.has K x=true:=by rw[Hv.aB,q];rfl
   rw[hh]
   go_enter Tryz.func188,Tryz.ntmps188
   go_wp2_with (first
     | (at_lookup;refine bQ rfl _ _ 87 rfl 28 Tryz.underlying87 (rO _) h1 rfl x hx rfl ?_;rw[q,hh];simp only[Option.getD_some]))
   go_ret
   exact ⟨rfl,HB.out⟩
end
section
open Go.RowKit
open aH (St)
open Hv (S Dk VM)
namespace Hv
theorem Bf {α β:Type} (f:S→α→β) (k:S):∀ E:VM α,get (E.map fun p=>(p.1,f p.1 p.2)) k=(get E k).map (f k)
 | []=>rfl
 | p::E=>by
   have ih:=Bf f k E
   unfold get at ih ⊢
   by_cases e:p.1=k
   · rw[List.map_cons,List.find?_cons_of_pos (by simp[e]),List.find?_cons_of_pos (by simp[e])]
     simp[e]
   · rw[List.map_cons,List.find?_cons_of_neg (by simp[e]),List.find?_cons_of_neg (by simp[e])]
     exact ih
theorem aM.ab1 {α β:Type} {E:VM α} (h:aM E) (f:S→α→β):aM (E.map fun p=>(p.1,f p.1 p.2)):=List.pairwise_map.2 h
def PD.to (d:PD) (s:Int):PD:={ d with status:=s }
def ow (D:VM PD) (K:VM Value) (left:S→Bool):VM PD:=D.map fun p=>(p.1,if has K p.1=true∧left p.1=false∧p.2.status=2 then p.2.to 3 else p.2)
def woke (D:VM PD) (K:VM Value):VM PD:=ow D K fun _=>false
end Hv
theorem dA.Cv {N:Nat→Prop} {w:World} {D:VM Hv.PD} {E:VM Value} (h:dA N w D E) (hE:Hv.aM E) {k:S} {p:Pk} {d:Hv.PD} (hg:Hv.get E k=some p.val) (hd:Hv.get D k=some d) (s:Int):dA N w (Hv.put D k (d.to s)) (Hv.put E k (p.to s).val):=by
 refine h.put hE k ?_
 obtain ⟨d',hd',q,hq,q1,q2,q3,q4,q5,q6⟩:=h.nD k _ hg
 rw[hd] at hd'
 cases hd'
 have e:q.to s=p.to s:=by
   have:=congrArg (fun v=>v) hq
   unfold Pk.val Pk.cells at this
   cases p with | mk a1 a2 a3 b1 b2 b3 b4 b5 b6 st =>
   cases q with | mk c1 c2 c3 e1 e2 e3 e4 e5 e6 st' =>
   obtain ⟨_,_,_⟩:=b1;obtain ⟨_,_,_⟩:=b2;obtain ⟨_,_,_⟩:=b3;obtain ⟨_,_,_⟩:=b4;obtain ⟨_,_,_⟩:=b5;obtain ⟨_,_,_⟩:=b6
   obtain ⟨_,_,_⟩:=e1;obtain ⟨_,_,_⟩:=e2;obtain ⟨_,_,_⟩:=e3;obtain ⟨_,_,_⟩:=e4;obtain ⟨_,_,_⟩:=e5;obtain ⟨_,_,_⟩:=e6
   simp at this
   simp[Pk.to,this]
 refine ⟨q.to s,by rw[e],q1,q2,q3,rfl,⟨q5.parse,fun i => ?_⟩,fun i g hg=>q6 i g ?_⟩
 · have:=q5.rows i
   match i with
   | 0=>exact this
   | 1=>exact this
   | 2=>exact this
   | 3=>exact this
   | 4=>exact this
   | 5=>exact this
 · match i with
   | 0=>exact hg
   | 1=>exact hg
   | 2=>exact hg
   | 3=>exact hg
   | 4=>exact hg
   | 5=>exact hg
theorem dA.turned {N:Nat→Prop} {w w':World} {b B:Nat} {D:VM Hv.PD} {E:VM Value} (h:dA N w D E) (hm:∀ cs t fz,w.heap[b]? ≠ some (.cells cs t fz)) (hf:aQ B (fun k=>k=b) w w') (hB:w.heap.size≤B):dA N w' D E:=by
 have hr:∀ d v,vg N w d v→vg N w' d v:=by
   rintro d v ⟨p,h1,h2,h3,h4,h5,h6,h7⟩
   refine ⟨p,h1,h2,h3,h4,h5,h6.far hf hB (fun i g hg e => ?_),h7⟩
   rcases (h6.rows i).2 with ⟨q,_⟩ | ⟨g',cap,cur,q,_,q2,_⟩
   · rw[q] at hg;cases hg
   · rw[q] at hg;cases hg
     have e':g'=b:=e
     subst e'
     exact hm _ _ _ q2
 exact ⟨h.dU,fun k v q=>(h.nD k v q).imp fun _ a=>⟨a.1,hr _ _ a.2⟩,fun k v q=>(h.wZ k v q).imp fun _ a=>⟨a.1,hr _ _ a.2⟩⟩
theorem MapAt.fG {w:World} {b:Nat} {E:VM Value} (h:MapAt w b E):∀ cs t fz,w.heap[b]? ≠ some (.cells cs t fz):=fun _ _ _ hr=>BF h hr rfl
theorem bE.fG {w:World} {b r cnt:Nat} {E:VM Value} {left:S→Bool} (h:bE w b r E left cnt):∀ cs t fz,w.heap[r]? ≠ some (.cells cs t fz):=by
 obtain ⟨h0,es,clock,since,seen,c0,q1,q2,q3,q4,q5,q6⟩:=h
 intro cs t fz e
 rw[q5] at e
 cases e
theorem vM (p:Pk) (w:World):(Instr.field 156 p.val 2).run Tryz.prog w = .ok (.int .i64 p.status) w:=by kernel_rfl
theorem kI (D:VM Hv.PD) (K:VM Value) (left:S→Bool) (k:S):Hv.get (Hv.ow D K left) k=(Hv.get D k).map fun d=>if Hv.has K k=true∧left k=false∧d.status=2 then d.to 3 else d :=
 Hv.Bf (fun (k:S) (d:Hv.PD)=>if Hv.has K k=true∧left k=false∧d.status=2 then d.to 3 else d) k D
theorem mJ {D:VM Hv.PD} (h:Hv.aM D) (K:VM Value) (left:S→Bool):Hv.aM (Hv.ow D K left):=h.ab1 (fun (k:S) (d:Hv.PD)=>if Hv.has K k=true∧left k=false∧d.status=2 then d.to 3 else d)
theorem MH {D:VM Hv.PD} (h:Hv.aM D) (K:VM Value):Hv.ow D K (Hv.has K)=D:=(mJ h K _).dD h fun k=>by
 rw[kI]
 cases Hv.get D k with
 | none=>rfl
 | some d =>
   simp only[Option.map_some]
   rw[if_neg (by rintro ⟨a,b,_⟩;rw[a] at b;cases b)]
theorem EX {D:VM Hv.PD} (h:Hv.aM D) (K:VM Value) (left:S→Bool) (k:S) (hk:∀ d,Hv.get D k=some d→d.status≠2):Hv.ow D K (fun z=>left z && !(z==k))=Hv.ow D K left:=(mJ h K _).dD (mJ h K _) fun x=>by
 rw[kI,kI]
 cases q:Hv.get D x with
 | none=>rfl
 | some d =>
   by_cases e:x=k
   · subst e
     have:=hk d q
     simp[this]
   · simp[e]
theorem Vd {D:VM Hv.PD} (h:Hv.aM D) {K:VM Value} {left:S→Bool} {k:S} {d:Hv.PD} (hd:Hv.get D k=some d) (hs:d.status=2) (hK:Hv.has K k=true):Hv.ow D K (fun z=>left z && !(z==k))=Hv.put (Hv.ow D K left) k (d.to 3):=(mJ h K _).dD ((mJ h K _).put _ _) fun x=>by
 by_cases e:x=k
 · subst e
   rw[Hv.aD (mJ h K _),kI,hd]
   simp[hK,hs]
 · rw[Hv.av (mJ h K _) _ e,kI,kI]
   simp[e]
theorem Qv (a:Option Addr) (n c im km mb pm fm:Nat) (P F K:VM Value) (D:VM Hv.PD) (N:Nat→Prop) (Im:P.length≤1000) (hK:VD K) (w:World) (hk:MapAt w km K) (hm:aK mb pm fm P F w) (hP:dA N w D P) (hne:km≠pm) :
   Calls Tryz.prog 80 #[.agg #[.slice a n c, .map (some im), .map (some km)], .pointer (some ⟨mb,0,none⟩)] w fun e w'=>∃ u P',e = .returned u∧aK mb pm fm P' F w'∧dA N w' (Hv.woke D K) P'∧aQ w.heap.size (fun k=>k=pm) w w':=by
 have hrow:=heap_alloc_new w (.cells #[.slice a n c, .map (some im), .map (some km)] 89)
 have hb0:=(Below.refl w.heap.size w).alloc (Nat.le_refl _) (.cells #[.slice a n c, .map (some im), .map (some km)] 89)
 have c2:=(ah hrow 2).trans (show _=some (.map (some km)) from rfl)
 have hk1:=hk.below hb0
 have hkl:=hk.lt
 have hpl:=hm.packs.lt
 have HM:=hide hm;have eU:=hide hP
 have HB0:=hide hb0
 have hsz:(w.alloc (.cells #[.slice a n c, .map (some im), .map (some km)] 89)).heap.size=w.heap.size+1:=by simp
 clear hm hP hrow hb0
 go_enter Tryz.func80,Tryz.ntmps80
 go_wp2_with (first
   | (at_range;refine eH rfl _ 87 rfl 28 Tryz.underlying87 hk1 rfl ?_;intro w0 hrg0 hg0 hs0;have nP:=hide hrg0;have HB1:=hide (HB0.out.grown hg0 (by simp) (fun q hq=>by cases hq))))
 rw[hsz] at nP hs0 ⊢
 go_frame
 clear hg0 hrg0 c2 hk1
 go_loopw [8] (fun _ wr=>∃ (left:S→Bool) (cnt:Nat) (E:VM Value),Hid (bE wr km (w.heap.size+1) K left cnt)∧Hid (aK mb pm fm E F wr)∧Hid (dA N wr (Hv.ow D K left) E)∧Hid (E.length≤1000)∧Hid (aQ w.heap.size (fun k=>k=pm) w wr)∧w.heap.size+1<wr.heap.size)
   (fun _ wr=>wr.rangeLeft km (w.heap.size+1))
 case atStart=>exact ⟨_,_,P,nP,hide (HM.out.below HB1.out),hide (by rw[MH eU.out.dU];exact eU.out.below HB1.out),hide Im,hide (aQ.of HB1.out (Nat.le_refl _)),by omega⟩
 case round =>
   clear nP
   obtain ⟨left,cnt,E,HG,kJ,jD,Gi,HF,hsz1⟩:=hrel
   go_wp2_with (first
     | (at_next;refine gG rfl _ rfl (w.heap.size+1) left cnt rfl HG.out ?_ ?_))
   · intro hc0 hl0
     have hl:left=fun _=>false:=funext hl0
     subst hl
     go_wp2_with fail
     go_end0
     exact ⟨⟨_,rfl⟩,E,kJ.out,jD.out,HF.out⟩
   · intro k v w4 cnt1 hk' hlk hget hrg1 hlt hg1 hs1 hen
     obtain ⟨va,vn,vc,rfl⟩:=hK k v hget
     have hKk:Hv.has K k=true:=by rw[Hv.aB,hget];rfl
     have Si:aQ wr.heap.size (fun q=>q=w.heap.size+1) wr w4:=⟨hg1.os,hg1.tape,hg1.output,hg1.size,fun q hq hc=>hg1.block q hq (fun e=>hc (Option.some.inj e))⟩
     have hml:=blt HM.out.blk
     have hfl:=HM.out.files.lt
     have uV:=hide (kJ.out.far Si (Nat.le_refl _) ⟨by omega,by omega,by omega⟩)
     have zA:=hide (jD.out.turned HG.out.fG Si (Nat.le_refl _))
     have sS:=hide (HF.out.trans (show aQ w.heap.size (fun q=>q=pm) wr w4 from ⟨Si.os,Si.tape,Si.output,Si.size,fun q hq hc=>Si.block q (by omega) (by omega)⟩))
     have XJ:=hide hrg1
     have hs4:w4.heap.size=wr.heap.size:=hs1
     have m0:=(ah uV.out.blk 0).trans (show _=some (.map (some pm)) from rfl)
     have qp:=uV.out.packs
     clear hrg1 hg1 hget Si
     cases hq:Hv.get E k with
     | none =>
       have hDk:∀ d,Hv.get D k=some d→d.status≠2:=fun d hd=>by
         have:=zA.out.get_none hq
         rw[kI,hd] at this
         cases this
       have hf0:=vM (Pk.mk [] [] [] ⟨none,0,0⟩ ⟨none,0,0⟩ ⟨none,0,0⟩ ⟨none,0,0⟩ ⟨none,0,0⟩ ⟨none,0,0⟩ 0) w4
       simp only[Pk.val,Pk.cells] at hf0
       go_wp2_with (first
         | (at_lookup;refine jJ rfl _ _ 86 rfl 156 Tryz.underlying86 (bU _) qp rfl k hk' rfl ?_;rw[hq];simp only[Option.getD_none]))
       go_roundw
       case rel=>exact ⟨_,cnt1,E,XJ,uV,hide (by rw[EX eU.out.dU K left k hDk];exact zA.out),Gi,sS,by omega⟩
       case measure=>rw[XJ.out.left_eq,HG.out.left_eq];exact hlt
     | some u =>
       obtain ⟨d',hd',p,rfl,p1,p2,p3,p4,hpk, -⟩:=zA.out.nD k u hq
       have hd0:∃ d,Hv.get D k=some d∧d'=d:=by
         rw[kI] at hd'
         cases e:Hv.get D k with
         | none=>rw[e] at hd';cases hd'
         | some d =>
           rw[e] at hd'
           simp only[Option.map_some,Option.some.injEq] at hd'
           rw[if_neg (by rintro ⟨_,b,_⟩;rw[hlk] at b;cases b)] at hd'
           exact ⟨d,rfl,hd'.symm⟩
       obtain ⟨d,hd,rfl⟩:=hd0
       have HD:=hide hd
       have HD2:=hide hd'
       have HS:=hide p4
       have HQ:=hide hq
       have hf0:=vM p w4
       simp only[Pk.val,Pk.cells] at hf0
       clear hpk p1 p2 p3 p4 hd hd'
       by_cases h2:p.status=2
       · rw[h2] at hf0
         go_wp2_with (first
           | (at_lookup;refine jJ rfl _ _ 86 rfl 156 Tryz.underlying86 (bU _) qp rfl k hk' rfl ?_;rw[hq];simp only[Option.getD_some,Pk.val,Pk.cells]))
         refine (nO mb pm fm E F k hk' p HQ.out 3 (by have:=Gi.out;unfold maxLen;omega) w4 uV.out).mono ?_
         rintro e w5 ⟨u5,rfl,FH,zD⟩
         have CO:=hide FH
         have CG:=hide (XJ.out.far zD (Nat.le_refl _) hne (by omega))
         have qO:Hid (dA N w5 (Hv.ow D K (fun z=>left z && !(z==k))) (Hv.put E k (p.to 3).val)):=hide (by
           rw[Vd eU.out.dU HD.out (by rw[← HS.out];exact h2) hKk]
           exact (zA.out.Cv qp.1 HQ.out HD2.out 3).turned qp.fG zD (Nat.le_refl _))
         have Kj:=hide (sS.out.next zD (by omega) (fun _ _ q=>q))
         have HL5:Hid ((Hv.put E k (p.to 3).val).length≤1000):=hide (by
           have e1:=qO.out.len FH.packs.1
           rw[e1]
           have e2:(Hv.ow D K fun z=>left z && !(z==k)).length=D.length:=by unfold Hv.ow;simp
           rw[e2,← eU.out.len HM.out.packs.1]
           exact Im)
         have hs5:=zD.size
         clear FH zD
         go_wp2_with fail
         go_roundw
         case rel=>exact ⟨_,cnt1,_,CG,CO,qO,HL5,Kj,by omega⟩
         case measure=>rw[CG.out.left_eq,HG.out.left_eq];exact hlt
       · go_wp2_with (first
           | (at_lookup;refine jJ rfl _ _ 86 rfl 156 Tryz.underlying86 (bU _) qp rfl k hk' rfl ?_;rw[hq];simp only[Option.getD_some,Pk.val,Pk.cells]))
         go_roundw
         case rel=>exact ⟨_,cnt1,E,XJ,uV,hide (by rw[EX eU.out.dU K left k (fun d2 h=>by rw[HD.out] at h;cases h;rw[← HS.out];exact h2)];exact zA.out),Gi,sS,by omega⟩
         case measure=>rw[XJ.out.left_eq,HG.out.left_eq];exact hlt
theorem MX (cb sm:Nat) (Q:VM Value) (hQ:Q.length≤1000000) (N:Nat→Prop) (d:Hv.PD) (v:Value) (w:World) (h:vg N w d v) (hm:MapAt w sm Q) (hc:w.cell? ⟨cb,0,none⟩=some (.map (some sm))) :
   Calls Tryz.prog 181 #[v, .pointer (some ⟨cb,0,none⟩)] w fun e w'=>∃ u,e = .returned u∧MapAt w' sm (bD Q d.paths)∧aQ w.heap.size (fun k=>k=sm) w w':=by
 obtain ⟨p,rfl,h2,h3,h4,h5,h6,h7⟩:=h
 have hg:=(bW h6.parse).2.2.files
 have hf:=(bV h6.parse).2.2.1.2.2.2.1
 exact GD cb sm Q hQ p d.st.files (by omega) (fun q hq=>oh (hg q hq).1) w (h6.rows 3) hm hc
theorem Od (cb sm:Nat) (Q:VM Value) (hQ:Q.length≤1000000) (w:World) (hm:MapAt w sm Q) (hc:w.cell? ⟨cb,0,none⟩=some (.map (some sm))) :
   Calls Tryz.prog 181 #[.agg zeroCells, .pointer (some ⟨cb,0,none⟩)] w fun e w'=>∃ u,e = .returned u∧MapAt w' sm Q∧aQ w.heap.size (fun k=>k=sm) w w' :=
 GD cb sm Q hQ (Pk.mk [] [] [] ⟨none,0,0⟩ ⟨none,0,0⟩ ⟨none,0,0⟩ ⟨none,0,0⟩ ⟨none,0,0⟩ ⟨none,0,0⟩ 0) [] (by simp) (fun q hq=>by cases hq) w (World.ownsRow_nil _ _ _ _) hm hc
def VZ (E:VM Value) (k:S):Value:=(Hv.get E k).getD (.agg zeroCells)
theorem MW (cb sm:Nat) (Q:VM Value) (hQ:Q.length≤1000000) (N:Nat→Prop) (D:VM Hv.PD) (E:VM Value) (k:S) (w:World) (h:dA N w D E) (hm:MapAt w sm Q) (hc:w.cell? ⟨cb,0,none⟩=some (.map (some sm))) :
   Calls Tryz.prog 181 #[VZ E k, .pointer (some ⟨cb,0,none⟩)] w fun e w'=>∃ u,e = .returned u∧MapAt w' sm (bD Q (bg D k))∧aQ w.heap.size (fun k=>k=sm) w w':=by
 unfold VZ bg
 cases q:Hv.get E k with
 | none=>rw[h.get_none q];exact Od cb sm Q hQ w hm hc
 | some v =>
   obtain ⟨d,hd,hr⟩:=h.nD k v q
   rw[hd]
   exact MX cb sm Q hQ N d v w hr hm hc
theorem yU {N:Nat→Prop} {w:World} {D:VM Hv.PD} {E:VM Value} (h:dA N w D E) (k:S):(bg D k).length≤21:=by
 unfold bg
 cases q:Hv.get D k with
 | none=>simp
 | some d =>
   obtain ⟨v,_,p,_,_,_,_,_,hpk,_⟩:=h.wZ k d q
   have:=(bV hpk.parse).2.2.1.2.2.2.1
   simp only[Hv.PD.paths,List.length_map]
   exact this
end
end Go.Proofs.YtialenebfcnkkaaGreatDoor
