/- RulW5, RulW6, WishW4, RulW7 -/
import Derived.Test.YtialenebfcnkkaaGreatDoorWokJ17
import Derived.Test.YtialenebfcnkkaaGreatDoorWokJ11
set_option maxHeartbeats 4000000
set_option maxRecDepth 100000
namespace Go.Proofs.YtialenebfcnkkaaGreatDoor
section
open Go.RowKit
open Arc (St)
open Hv (S Dk VM)
def lacksB (D:VM Hv.PD):Bool:=D.any fun p=>p.2.st.needs.any fun n => !meetsB D n.1 n.2
theorem any_no {D:VM Hv.PD} (f:S→Hv.PD→Bool) (hD:Hv.Srt D) (h:∀ k d,Hv.get D k=some d→f k d=false):(D.any fun p=>f p.1 p.2)=false:=by
 rw[List.any_eq_false]
 intro p hp
 rw[h p.1 p.2 ((Hv.get_some hD).2 hp)]
 simp
theorem any_yes {D:VM Hv.PD} (f:S→Hv.PD→Bool) (hD:Hv.Srt D) {k:S} {d:Hv.PD} (h:Hv.get D k=some d) (hf:f k d=true):(D.any fun p=>f p.1 p.2)=true :=
 List.any_eq_true.2 ⟨(k,d),(Hv.get_some hD).1 h,hf⟩
theorem pairs_at {w:World} {B e:Nat} {v:Value} {l:List (S × S)} (h:w.ownsRow B e 2 v l.length (l.flatMap pairV)) {k:Nat} (hk:k<l.length) :
   ∃ g c,v = .slice (some ⟨g,0,none⟩) l.length c∧g<w.heap.size∧w.cell? ⟨g,k*2,none⟩=some (.string ⟨l[k].1.toArray⟩)∧w.cell? ⟨g,k*2+1,none⟩=some (.string ⟨l[k].2.toArray⟩):=by
 obtain ⟨g,cap,rfl⟩:=own_form h (by omega)
 have hp:=pair_at l k hk
 have e1:l.getD k ([],[])=l[k]:=by simp[List.getD,List.getElem?_eq_getElem hk]
 rw[e1,Nat.mul_comm] at hp
 exact ⟨g,cap,rfl,(h.lt g rfl).2,by rw[h.cellAt _ (by omega)];exact hp.1,by rw[h.cellAt _ (by omega)];exact hp.2⟩
theorem sl_n {w:World} {B e size n:Nat} {s:Sl} {xs:List Value} (h:w.ownsRow B e size s.val n xs):s.n=n:=by
 obtain ⟨a,c,e⟩:=slice_form h
 unfold Sl.val at e
 cases e
 rfl
theorem take_any_no {α:Type} {l:List α} {f:α→Bool} {k:Nat} (hk:k<l.length) (h:(l.take k).any f=false) (hf:f l[k]=false):(l.take (k+1)).any f=false:=by
 rw[List.take_succ_eq_append_getElem hk,List.any_append,h]
 simp[hf]
theorem lacksNeeded_any (pm:Nat) (P:VM Value) (D:VM Hv.PD) (N:Nat→Prop) (w:World) (hp:MapAt w pm P) (hP:PkM N w D P) :
   Calls Tryz.prog 121 #[.map (some pm)] w fun e w'=>e = .returned (.bool (lacksB D))∧Below w.heap.size w w':=by
 have hpl:=hp.lt
 have HP:=hide hp;have HPP:=hide hP
 clear hp hP
 go_enter Tryz.func121,Tryz.ntmps121
 have hp1:=HP.out
 go_wp2_with (first
   | (at_range;refine wp_range rfl _ 86 rfl 156 Tryz.underlying86 hp1 rfl ?_;intro w0 hrg0 hg0 hs0;have HG0:=hide hrg0;have HB0:=hide ((Below.refl w.heap.size w).grown hg0 (Nat.le_refl _) (fun q hq=>by cases hq))))
 go_frame
 clear hg0 hrg0 hp1
 go_loopw [9] (fun _ wr=>∃ (left:S→Bool) (cnt:Nat),Hid (MapOn wr pm w.heap.size P left cnt)∧Hid (∀ k d,Hv.get D k=some d→left k=true∨(d.st.needs.any fun n => !meetsB D n.1 n.2)=false)∧Hid (Below w.heap.size w wr)∧w.heap.size<wr.heap.size)
   (fun _ wr=>wr.rangeLeft pm w.heap.size)
 case atStart=>exact ⟨_,_,HG0,hide (fun k d h => .inl (by rw[HPP.out.has_eq,Hv.has_get,h];rfl)),HB0,by omega⟩
 case round =>
   clear HG0 HB0
   obtain ⟨left,cnt,HG,HL,HB,hsz1⟩:=hrel
   go_wp2_with (first
     | (at_next;refine wp_next rfl _ rfl w.heap.size left cnt rfl HG.out ?_ ?_))
   · intro hc0 hl0
     go_wp2_with fail
     go_ret
     rw[show lacksB D=false from any_no (fun _ d=>d.st.needs.any fun n => !meetsB D n.1 n.2) HPP.out.srt (fun k d h1=>(HL.out k d h1).resolve_left (by rw[hl0 k];simp))]
     exact ⟨rfl,HB.out⟩
   · intro k v w4 cnt1 hk hlk hget hrg1 hlt hg1 hs1 hen
     obtain ⟨d,hd,⟨tx,pn,pv,⟨na,nn,nc⟩,br,wk,fl,ru,wo,sta⟩,rfl,p1,p2,p3,p4,hpk, -⟩:=HPP.out.to_ k v hget
     have HG1:=hide (MapOn.alloc hrg1 (.cells (Pk.mk tx pn pv ⟨na,nn,nc⟩ br wk fl ru wo sta).cells 156))
     have hb4:=HB.out.grown hg1 HB.out.size (fun q hq=>by cases hq;omega)
     have HB4:=hide (hb4.alloc hb4.size (.cells (Pk.mk tx pn pv ⟨na,nn,nc⟩ br wk fl ru wo sta).cells 156))
     have hs4:w4.heap.size=wr.heap.size:=hs1
     have hrow4:=heap_alloc_new w4 (.cells (Pk.mk tx pn pv ⟨na,nn,nc⟩ br wk fl ru wo sta).cells 156)
     have a3:=(row_cell hrow4 3).trans (show _=some (.slice na nn nc) from rfl)
     have HN:=hide (sl_n (hpk.rows 0))
     have HO:=hide (hpk.rows 0)
     have HGD:=hide (parse_good hpk.parse).2.2.needs
     have HFT:=hide (parse_fits hpk.parse).2.2.1
     have HD:=hide hd
     have hsu:(w4.alloc (.cells (Pk.mk tx pn pv ⟨na,nn,nc⟩ br wk fl ru wo sta).cells 156)).heap.size=w4.heap.size+1:=by simp
     simp only[Pk.val,Pk.cells] at hen ⊢
     clear hrg1 hg1 hget hpk p1 p2 p3 p4 hd hb4 hrow4
     go_wp2_with fail
     have hs5:w.heap.size<(w4.alloc (.cells (Pk.mk tx pn pv ⟨na,nn,nc⟩ br wk fl ru wo sta).cells 156)).heap.size:=by rw[hsu];omega
     simp only[Pk.cells] at HG1 HB4 hs5
     clear a3 hsu
     go_loopw [17] (fun i w2=>∃ j:Nat,j≤nn∧i = .int .i64 (j:Int)∧Hid (MapOn w2 pm w.heap.size P (fun z=>left z && !(z==k)) cnt1)∧Hid ((d.st.needs.take j).any (fun n => !meetsB D n.1 n.2)=false)∧Hid (Below w.heap.size w w2)∧w.heap.size<w2.heap.size) (fun i _=>nn-(intOf i).toNat)
     case atStart=>exact ⟨0,Nat.zero_le _,rfl,HG1,hide (by simp),HB4,hs5⟩
     case round =>
       clear HG1 HB4
       obtain ⟨j,hj,rfl,HG2,HA,HB2,hs2⟩:=hrel
       by_cases hjl:j<nn
       · have b1:(j:Int)<(nn:Int):=by omega
         have hjx:j<d.st.needs.length:=by have:=HN.out;simp only[prow] at this;omega
         obtain ⟨g,c,hv,hg,q1,q2⟩:=pairs_at HO.out hjx
         obtain rfl:na=some ⟨g,0,none⟩:=(Value.slice.inj hv).1
         have d1:=(HB2.out.cell (p:=⟨g,j*2,none⟩) hg).trans q1
         have d2:=(HB2.out.cell (p:=⟨g,j*2+1,none⟩) hg).trans q2
         have hgd:=HGD.out _ (List.getElem_mem hjx)
         have hj21:j<21:=by have:=HFT.out.1;omega
         have HMEM:=hide (List.getElem_mem hjx)
         have HTK:=hide (fun h=>take_any_no (f:=fun n:S × S => !meetsB D n.1 n.2) hjx HA.out h)
         obtain ⟨q,hq⟩:∃ q,d.st.needs[j]=q:=⟨_,rfl⟩
         rw[hq] at d1 d2 hgd HMEM HTK
         obtain ⟨n1,n2⟩:=q
         have hnl:n1.length≤maxLen:=by have:=hgd.1;simp only[Wd.isName,Wd.lenIn,Bool.and_eq_true,decide_eq_true_eq] at this;unfold maxLen;omega
         have hvf:=hgd.2
         simp only at hvf HTK
         clear hv q1 q2 hgd hq
         go_wp2_with fail
         have HB3:=hide (HB2.out.alloc HB2.out.size (.cells #[.string ⟨n1.toArray⟩, .string ⟨n2.toArray⟩] 275))
         have HG3:=hide (HG2.out.alloc (.cells #[.string ⟨n1.toArray⟩, .string ⟨n2.toArray⟩] 275))
         refine (meets_any pm P D N n1 n2 hnl hvf _ HG3.out.map (HPP.out.below HB3.out)).mono ?_
         rintro e w6 ⟨rfl,hb6⟩
         have HG6:=hide (HG3.out.below hb6)
         have HB6:=hide (HB3.out.trans (hb6.mono HB3.out.size))
         have hs6:w.heap.size<w6.heap.size:=by have:=hb6.size;simp at this;omega
         clear hb6
         cases hm:meetsB D n1 n2
         · go_wp2_with fail
           go_ret
           rw[show lacksB D=true from any_yes (fun _ d=>d.st.needs.any fun n => !meetsB D n.1 n.2) HPP.out.srt HD.out (List.any_eq_true.2 ⟨_,HMEM.out,by rw[hm];rfl⟩)]
           exact ⟨rfl,HB6.out⟩
         · go_wp2_with fail
           go_roundw
           case rel=>exact ⟨j+1,by omega,by go_num,HG6,hide (HTK.out (by rw[hm];rfl)),HB6,hs6⟩
           case measure=>simp[intOf];omega
       · obtain rfl:j=nn:=by omega
         have b1 : ¬ (j:Int)<(j:Int):=by omega
         go_wp2_with fail
         go_roundw
         case rel=>exact ⟨_,cnt1,HG2,hide (fun k' d' h1=>by
           rcases HL.out k' d' h1 with q | q
           · by_cases e:k'=k
             · subst e
               rw[HD.out] at h1;cases h1
               have:=HA.out
               rw[List.take_of_length_le (by have:=HN.out;simp only[prow] at this;omega)] at this
               exact .inr this
             · exact .inl (by simp[q,e])
           · exact .inr q),HB2,hs2⟩
         case measure=>rw[HG2.out.left_eq,HG.out.left_eq];exact hlt
def brokenB (D:VM Hv.PD):Bool:=D.any fun p=>p.2.st.breaks.any fun b=>Hv.has D b && !(b==p.1)
theorem strs_at {w:World} {B e:Nat} {v:Value} {l:List S} (h:w.ownsRow B e 1 v l.length (l.map strV)) {k:Nat} (hk:k<l.length) :
   ∃ g c,v = .slice (some ⟨g,0,none⟩) l.length c∧g<w.heap.size∧w.cell? ⟨g,k,none⟩=some (.string ⟨l[k].toArray⟩):=by
 obtain ⟨g,cap,rfl⟩:=own_form h (by omega)
 exact ⟨g,cap,rfl,(h.lt g rfl).2,by rw[h.cellAt _ (by omega)];simp[List.getElem?_eq_getElem hk,strV]⟩
theorem name_len {x:S} (h:Wd.isName x=true):x.length≤12:=by
 simp only[Wd.isName,Wd.lenIn,Bool.and_eq_true,decide_eq_true_eq] at h;omega
theorem hasBroken_any (pm:Nat) (P:VM Value) (D:VM Hv.PD) (N:Nat→Prop) (w:World) (hp:MapAt w pm P) (hP:PkM N w D P) :
   Calls Tryz.prog 122 #[.map (some pm)] w fun e w'=>e = .returned (.bool (brokenB D))∧Below w.heap.size w w':=by
 have hpl:=hp.lt
 have HP:=hide hp;have HPP:=hide hP
 clear hp hP
 go_enter Tryz.func122,Tryz.ntmps122
 have hp1:=HP.out
 go_wp2_with (first
   | (at_range;refine wp_range rfl _ 86 rfl 156 Tryz.underlying86 hp1 rfl ?_;intro w0 hrg0 hg0 hs0;have HG0:=hide hrg0;have HB0:=hide ((Below.refl w.heap.size w).grown hg0 (Nat.le_refl _) (fun q hq=>by cases hq))))
 go_frame
 clear hg0 hrg0 hp1
 go_loopw [11] (fun _ wr=>∃ (left:S→Bool) (cnt:Nat),Hid (MapOn wr pm w.heap.size P left cnt)∧Hid (∀ k d,Hv.get D k=some d→left k=true∨(d.st.breaks.any fun b=>Hv.has D b && !(b==k))=false)∧Hid (Below w.heap.size w wr)∧w.heap.size<wr.heap.size)
   (fun _ wr=>wr.rangeLeft pm w.heap.size)
 case atStart=>exact ⟨_,_,HG0,hide (fun k d h => .inl (by rw[HPP.out.has_eq,Hv.has_get,h];rfl)),HB0,by omega⟩
 case round =>
   clear HG0 HB0
   obtain ⟨left,cnt,HG,HL,HB,hsz1⟩:=hrel
   go_wp2_with (first
     | (at_next;refine wp_next rfl _ rfl w.heap.size left cnt rfl HG.out ?_ ?_))
   · intro hc0 hl0
     go_wp2_with fail
     go_ret
     rw[show brokenB D=false from any_no (fun k d=>d.st.breaks.any fun b=>Hv.has D b && !(b==k)) HPP.out.srt (fun k d h1=>(HL.out k d h1).resolve_left (by rw[hl0 k];simp))]
     exact ⟨rfl,HB.out⟩
   · intro k v w4 cnt1 hk hlk hget hrg1 hlt hg1 hs1 hen
     obtain ⟨d,hd,⟨tx,pn,pv,nd,⟨na,nn,nc⟩,wk,fl,ru,wo,sta⟩,rfl,p1,p2,p3,p4,hpk, -⟩:=HPP.out.to_ k v hget
     have HG1:=hide (MapOn.alloc hrg1 (.cells (Pk.mk tx pn pv nd ⟨na,nn,nc⟩ wk fl ru wo sta).cells 156))
     have hb4:=HB.out.grown hg1 HB.out.size (fun q hq=>by cases hq;omega)
     have HB4:=hide (hb4.alloc hb4.size (.cells (Pk.mk tx pn pv nd ⟨na,nn,nc⟩ wk fl ru wo sta).cells 156))
     have hs4:w4.heap.size=wr.heap.size:=hs1
     have hrow4:=heap_alloc_new w4 (.cells (Pk.mk tx pn pv nd ⟨na,nn,nc⟩ wk fl ru wo sta).cells 156)
     have a3:=(row_cell hrow4 4).trans (show _=some (.slice na nn nc) from rfl)
     have HN:=hide (sl_n (hpk.rows 1))
     have HO:=hide (hpk.rows 1)
     have HGD:=hide (parse_good hpk.parse).2.2.breaks
     have HFT:=hide (parse_fits hpk.parse).2.2.1
     have HD:=hide hd
     have hsu:(w4.alloc (.cells (Pk.mk tx pn pv nd ⟨na,nn,nc⟩ wk fl ru wo sta).cells 156)).heap.size=w4.heap.size+1:=by simp
     simp only[Pk.val,Pk.cells] at hen ⊢
     clear hrg1 hg1 hget hpk p1 p2 p3 p4 hd hb4 hrow4
     go_wp2_with fail
     have hs5:w.heap.size<(w4.alloc (.cells (Pk.mk tx pn pv nd ⟨na,nn,nc⟩ wk fl ru wo sta).cells 156)).heap.size:=by rw[hsu];omega
     simp only[Pk.cells] at HG1 HB4 hs5
     clear a3 hsu
     go_loopw [20] (fun i w2=>∃ j:Nat,j≤nn∧i = .int .i64 (j:Int)∧Hid (MapOn w2 pm w.heap.size P (fun z=>left z && !(z==k)) cnt1)∧Hid ((d.st.breaks.take j).any (fun b=>Hv.has D b && !(b==k))=false)∧Hid (Below w.heap.size w w2)∧w.heap.size<w2.heap.size) (fun i _=>nn-(intOf i).toNat)
     case atStart=>exact ⟨0,Nat.zero_le _,rfl,HG1,hide (by simp),HB4,hs5⟩
     case round =>
       clear HG1 HB4
       obtain ⟨j,hj,rfl,HG2,HA,HB2,hs2⟩:=hrel
       by_cases hjl:j<nn
       · have b1:(j:Int)<(nn:Int):=by omega
         have hjx:j<d.st.breaks.length:=by have:=HN.out;simp only[prow] at this;omega
         obtain ⟨g,c,hv,hg,q1⟩:=strs_at HO.out hjx
         obtain rfl:na=some ⟨g,0,none⟩:=(Value.slice.inj hv).1
         have d1:=(HB2.out.cell (p:=⟨g,j,none⟩) hg).trans q1
         have hgd:=HGD.out _ (List.getElem_mem hjx)
         have hj21:j<21:=by have:=HFT.out.2.1;omega
         have HMEM:=hide (List.getElem_mem hjx)
         have HTK:=hide (fun h=>take_any_no (f:=fun b:S=>Hv.has D b && !(b==k)) hjx HA.out h)
         obtain ⟨n1,hq⟩:∃ q,d.st.breaks[j]=q:=⟨_,rfl⟩
         rw[hq] at d1 hgd HMEM HTK
         have hnl:n1.length≤maxLen:=by have:=name_len hgd;unfold maxLen;omega
         have hp2:=HG2.out.map
         clear hv q1 hgd hq
         cases hq:Hv.get P n1 with
         | none =>
           have hPk:Hv.has P n1=false:=by rw[Hv.has_get,hq];rfl
           have HDk:Hid (Hv.has D n1=false):=hide (by rw[← HPP.out.has_eq];exact hPk)
           have HB3:=hide (HB2.out.alloc HB2.out.size (.cells zeroCells 156))
           have HG3:=hide (HG2.out.alloc (.cells zeroCells 156))
           have hs3:w.heap.size<(wr.alloc (.cells zeroCells 156)).heap.size:=by simp;omega
           simp only[zeroCells] at HB3 HG3 hs3
           go_wp2_with (first
             | (at_lookup;refine wp_look_ok rfl _ _ 86 rfl 156 Tryz.underlying86 (zero_pk _) hp2 rfl n1 hnl rfl ?_;rw[hq,hPk];simp only[Option.getD_none]))
           go_roundw
           case rel=>exact ⟨j+1,by omega,by go_num,HG3,hide (HTK.out (by rw[HDk.out];rfl)),HB3,hs3⟩
           case measure=>simp[intOf];omega
         | some u =>
           obtain ⟨_,_,q,rfl, -⟩:=HPP.out.to_ n1 u hq
           have hPk:Hv.has P n1=true:=by rw[Hv.has_get,hq];rfl
           have HDk:Hid (Hv.has D n1=true):=hide (by rw[← HPP.out.has_eq];exact hPk)
           have HB3:=hide (HB2.out.alloc HB2.out.size (.cells q.cells 156))
           have HG3:=hide (HG2.out.alloc (.cells q.cells 156))
           have hs3:w.heap.size<(wr.alloc (.cells q.cells 156)).heap.size:=by simp;omega
           simp only[Pk.cells] at HB3 HG3 hs3
           by_cases he:n1=k
           · subst he
             go_wp2_with (first
               | (at_lookup;refine wp_look_ok rfl _ _ 86 rfl 156 Tryz.underlying86 (zero_pk _) hp2 rfl n1 hnl rfl ?_;rw[hq,hPk];simp only[Option.getD_some,Pk.val,Pk.cells]))
             go_roundw
             case rel=>exact ⟨j+1,by omega,by go_num,HG3,hide (HTK.out (by simp)),HB3,hs3⟩
             case measure=>simp[intOf];omega
           · have hne:(n1==k)=false:=by simpa using he
             go_wp2_with (first
               | (at_lookup;refine wp_look_ok rfl _ _ 86 rfl 156 Tryz.underlying86 (zero_pk _) hp2 rfl n1 hnl rfl ?_;rw[hq,hPk];simp only[Option.getD_some,Pk.val,Pk.cells]))
             go_ret
             rw[show brokenB D=true from any_yes (fun k d=>d.st.breaks.any fun b=>Hv.has D b && !(b==k)) HPP.out.srt HD.out (List.any_eq_true.2 ⟨_,HMEM.out,by rw[HDk.out];simpa using he⟩)]
             exact ⟨rfl,HB3.out⟩
       · obtain rfl:j=nn:=by omega
         have b1 : ¬ (j:Int)<(j:Int):=by omega
         go_wp2_with fail
         go_roundw
         case rel=>exact ⟨_,cnt1,HG2,hide (fun k' d' h1=>by
           rcases HL.out k' d' h1 with q | q
           · by_cases e:k'=k
             · subst e
               rw[HD.out] at h1;cases h1
               have:=HA.out
               rw[List.take_of_length_le (by have:=HN.out;simp only[prow] at this;omega)] at this
               exact .inr this
             · exact .inl (by simp[q,e])
           · exact .inr q),HB2,hs2⟩
         case measure=>rw[HG2.out.left_eq,HG.out.left_eq];exact hlt
namespace Hv
structure WS where
 R:VM Value
 I:VM PD
 N:VM Value
def wstep (s:WS):Item→WS
 | .inl nm=>⟨put s.R nm unitV,s.I,put s.N nm unitV⟩
 | .inr (x,nm,ve,st)=>⟨s.R,put s.I nm ⟨x,nm,ve,st,1⟩,put s.N nm unitV⟩
def wfold:List S→WS→Option WS
 | [],s=>some s
 | x::r,s=>match itemOf x with
   | none=>none
   | some i=>wfold r (wstep s i)
def wish (xs:List S):Except Int WS :=
 if xs.length=0∨6<xs.length then .error 6 else
   match wfold xs ⟨[],[],[]⟩ with
   | none => .error 6
   | some s=>if s.N.length<xs.length then .error 7 else .ok s
end Hv
theorem Reads.form {w:World} {v:Value} {xs:List S} (h:Reads w v xs):∃ a c,v = .slice a xs.length c∧∀ j x,xs[j]? = some x→∃ g,a=some ⟨g,0,none⟩∧g<w.heap.size∧w.cell? ⟨g,j,none⟩=some (.string ⟨x.toArray⟩):=by
 rcases h with ⟨rfl,a,c,rfl⟩ | ⟨g,c,rfl,hg,hc⟩
 · exact ⟨a,c,rfl,fun j x hj=>by simp at hj⟩
 · exact ⟨_,c,rfl,fun j x hj=>⟨g,rfl,hg,hc j x hj⟩⟩
theorem AllU.put {R:VM Value} (h:AllU R) (hs:Hv.Srt R) (k:S):AllU (Hv.put R k unitV):=fun k' v q=>by
 by_cases e:k'=k
 · subst e;rw[Hv.get_put_same hs] at q;cases q;rfl
 · rw[Hv.get_put_other hs _ e] at q;exact h k' v q
def WpPost (xs:List S) (w:World) (e:Ending) (w':World):Prop :=
 match Hv.wish xs with
 | .error k=>e = .returned (.tuple #[.agg #[.map none, .map none], .int .i64 k])∧Below w.heap.size w w'
 | .ok s=>∃ rm im I,e = .returned (.tuple #[.agg #[.map (some rm), .map (some im)], .int .i64 0])∧WishAt rm im s.R I w'∧AllU s.R∧PkM (fun g=>w.heap.size≤g) w' s.I I∧s.R.length≤6∧I.length≤6∧w.heap.size≤rm∧w.heap.size≤im∧Below w.heap.size w w'
theorem wparse_few (xs:List S) (hx:xs.length=0∨6<xs.length) (v:Value) (w:World) (h:Reads w v xs) (hl:xs.length≤maxLen) :
   Calls Tryz.prog 65 #[v] w (WpPost xs w):=by
 obtain ⟨a,c,rfl,_⟩:=h.form
 have hw:Hv.wish xs = .error 6:=by unfold Hv.wish;rw[if_pos hx]
 unfold WpPost
 rw[hw]
 unfold maxLen at hl
 rcases hx with hx | hx
 · rw[hx]
   go_enter Tryz.func65,Tryz.ntmps65
   have HB:=hide ((Below.refl w.heap.size w).alloc (Nat.le_refl _) (.cells #[.map none, .map none] 135))
   have hrow:=heap_alloc_new w (.cells #[.map none, .map none] 135)
   have u0:=(row_cell hrow 0).trans (show _=some (.map none) from rfl)
   have u1:=(row_cell hrow 1).trans (show _=some (.map none) from rfl)
   clear hrow
   go_wp2_with fail
   all_goals exact bodyPost_ret (v := .tuple #[.agg #[.map none, .map none], .int .i64 6]) (by simp[results,Tryz.results65,go_sem,u0,u1]) rfl ⟨rfl,HB.out⟩
 · have g1 : ¬ (xs.length:Int)=0:=by omega
   have g2:(6:Int)<(xs.length:Int):=by omega
   go_enter Tryz.func65,Tryz.ntmps65
   have HB:=hide ((Below.refl w.heap.size w).alloc (Nat.le_refl _) (.cells #[.map none, .map none] 135))
   have hrow:=heap_alloc_new w (.cells #[.map none, .map none] 135)
   have u0:=(row_cell hrow 0).trans (show _=some (.map none) from rfl)
   have u1:=(row_cell hrow 1).trans (show _=some (.map none) from rfl)
   clear hrow
   go_wp2_with fail
   all_goals exact bodyPost_ret (v := .tuple #[.agg #[.map none, .map none], .int .i64 6]) (by simp[results,Tryz.results65,go_sem,u0,u1]) rfl ⟨rfl,HB.out⟩
theorem two_told {w w1:World} {B B':Nat} {T:TypeId} {a b:Value} (hrow:w1.heap[B]? = some (.cells #[a,b] T (0,0))) (hb:Below B' w w1) (hB:B'≤B) (a' b':Value) :
   ∃ w2,w2=(w1.setCell ⟨B,0,none⟩ a').setCell ⟨B,1,none⟩ b'∧w2.heap[B]? = some (.cells #[a',b'] T (0,0))∧Below B' w w2∧Far w1.heap.size (fun k=>k=B) w1 w2 :=
 ⟨_,rfl,heap_setCell_same _ _ 1 _ _ b' (heap_setCell_same _ _ 0 _ _ a' hrow),((hb.setCell (p:=⟨B,0,none⟩) hB _).setCell (p:=⟨B,1,none⟩) hB _),((Far.refl w1.heap.size (fun k=>k=B) w1).setCell (p:=⟨B,0,none⟩) (.inr rfl) _).setCell (p:=⟨B,1,none⟩) (.inr rfl) _⟩
structure WpIn (xs:List S) (B:Nat) (w:World) (k:Nat) (s:Hv.WS) (E:VM Value) (wr:World):Prop where
 left:Hv.wfold xs ⟨[],[],[]⟩=Hv.wfold (xs.drop k) s
 wish:WishAt (B+1) (B+1+1) s.R E wr
 names:MapAt wr (B+1+1+1+1) s.N
 uni:AllU s.R
 pk:PkM (fun g=>B+5≤g) wr s.I E
 lens:s.R.length≤k∧E.length≤k∧s.N.length≤k
 rb:wr.heap[B]? = some (.cells #[.map none, .map none] 135 (0,0))
 cb:wr.heap[B+1+1+1]? = some (.cells #[.map (some (B+1)), .map (some (B+1+1))] 135 (0,0))
 bel:Below B w wr
 base:Base wr
theorem WpIn.size {xs:List S} {B k:Nat} {w wr:World} {s:Hv.WS} {E:VM Value} (h:WpIn xs B w k s E wr):B+5≤wr.heap.size:=by have:=h.names.lt;omega
theorem WpIn.rem {xs:List S} {B k:Nat} {w wr w1 w2:World} {s:Hv.WS} {E:VM Value} (h:WpIn xs B w k s E wr) {nm:S} (hk:k<xs.length) (hi:Hv.itemOf xs[k]=some (.rem nm))
   (hw:WishAt (B+1) (B+1+1) (Hv.put s.R nm unitV) E w1) (hf:Far wr.heap.size (fun q=>q=B+1) wr w1) (hn:MapAt w2 (B+1+1+1+1) (Hv.put s.N nm unitV)) (ht:Far w1.heap.size (fun q=>q=B+1+1+1+1) w1 w2) (hG:12≤B) :
   WpIn xs B w (k+1) (Hv.wstep s (.rem nm)) E w2:=by
 have z:=h.size
 have z1:wr.heap.size≤w1.heap.size:=hf.size
 have hb1:Below B w w1:=h.bel.trans (hf.toBelow (by omega) (fun q _ (e:q=_)=>by omega))
 have hb2:Below B w w2:=hb1.trans (ht.toBelow (by omega) (fun q _ (e:q=_)=>by omega))
 refine ⟨?_,⟨hw.rem.far ht (Nat.le_refl _) (by omega),hw.ins.far ht (Nat.le_refl _) (by omega),hw.ne⟩,hn,h.uni.put h.wish.rem.1 nm,(h.pk.far hf (Nat.le_refl _) (fun g _ hg=>by omega)).far ht (Nat.le_refl _) (fun g _ hg=>by omega),⟨?_,by have:=h.lens.2.1;omega,?_⟩,?_,?_,hb2,?_⟩
 · rw[h.left,List.drop_eq_getElem_cons hk]
   simp[Hv.wfold,hi]
 · have:=Hv.put_len s.R nm unitV;have:=h.lens.1;simp only[Hv.wstep];omega
 · have:=Hv.put_len s.N nm unitV;have:=h.lens.2.2;simp only[Hv.wstep];omega
 · exact (ht.block B (by omega) (by omega)).trans ((hf.block B (by omega) (by omega)).trans h.rb)
 · exact (ht.block _ (by omega) (by omega)).trans ((hf.block _ (by omega) (by omega)).trans h.cb)
 · exact (h.base.far hf (by omega) (fun q (e:q=_)=>by omega)).far ht (by omega) (fun q (e:q=_)=>by omega)
theorem WpIn.ins {xs:List S} {B k:Nat} {w wr w1 w2:World} {s:Hv.WS} {E:VM Value} (h:WpIn xs B w k s E wr) {x nm ve:S} {st:St} {v:Value} (hk:k<xs.length) (hi:Hv.itemOf xs[k]=some (.ins x nm ve st))
   (hp:PkR (fun g=>wr.heap.size≤g) w1 ⟨x,nm,ve,st,1⟩ v) (hw:WishAt (B+1) (B+1+1) s.R (Hv.put E nm v) w1) (hf:Far wr.heap.size (fun q=>q=B+1+1) wr w1) (hn:MapAt w2 (B+1+1+1+1) (Hv.put s.N nm unitV)) (ht:Far w1.heap.size (fun q=>q=B+1+1+1+1) w1 w2) (hG:12≤B) :
   WpIn xs B w (k+1) (Hv.wstep s (.ins x nm ve st)) (Hv.put E nm v) w2:=by
 have z:=h.size
 have z1:wr.heap.size≤w1.heap.size:=hf.size
 have hb1:Below B w w1:=h.bel.trans (hf.toBelow (by omega) (fun q _ (e:q=_)=>by omega))
 have hb2:Below B w w2:=hb1.trans (ht.toBelow (by omega) (fun q _ (e:q=_)=>by omega))
 refine ⟨?_,⟨hw.rem.far ht (Nat.le_refl _) (by omega),hw.ins.far ht (Nat.le_refl _) (by omega),hw.ne⟩,hn,h.uni,?_,⟨by have:=h.lens.1;simp only[Hv.wstep];omega,?_,?_⟩,?_,?_,hb2,?_⟩
 · rw[h.left,List.drop_eq_getElem_cons hk]
   simp[Hv.wfold,hi]
 · exact ((h.pk.far hf (Nat.le_refl _) (fun g _ hg=>by omega)).put h.wish.ins.1 nm (hp.weak (fun g hg=>by omega))).far ht (Nat.le_refl _) (fun g _ hg=>by omega)
 · have:=Hv.put_len E nm v;have:=h.lens.2.1;omega
 · have:=Hv.put_len s.N nm unitV;have:=h.lens.2.2;simp only[Hv.wstep];omega
 · exact (ht.block B (by omega) (by omega)).trans ((hf.block B (by omega) (by omega)).trans h.rb)
 · exact (ht.block _ (by omega) (by omega)).trans ((hf.block _ (by omega) (by omega)).trans h.cb)
 · exact (h.base.far hf (by omega) (fun q (e:q=_)=>by omega)).far ht (by omega) (fun q (e:q=_)=>by omega)
theorem WpIn.start (xs:List S) (w:World) (hb:Base w) :
   WpIn xs w.heap.size w 0 ⟨[],[],[]⟩ [] (((((w.alloc (.cells #[.map none, .map none] 135)).alloc (.map #[] 0)).alloc (.map #[] 0)).alloc (.cells #[.map (some (w.heap.size+1)), .map (some (w.heap.size+1+1))] 135)).alloc (.map #[] 0)):=by
 have s1:(w.alloc (.cells #[.map none, .map none] 135)).heap.size=w.heap.size+1:=by simp
 have b1:=(Below.refl w.heap.size w).alloc (Nat.le_refl _) (.cells #[.map none, .map none] 135)
 have r1:=heap_alloc_new w (.cells #[.map none, .map none] 135)
 obtain ⟨u1,hu1⟩:∃ u,w.alloc (.cells #[.map none, .map none] 135)=u:=⟨_,rfl⟩
 rw[hu1] at s1 b1 r1 ⊢
 have m2:=MapAt.made u1
 rw[s1] at m2
 have s2:(u1.alloc (.map #[] 0)).heap.size=w.heap.size+1+1:=by simp[s1]
 have b2:=b1.alloc b1.size (.map #[] 0)
 have r2:=(Below.heap_alloc u1 (.map #[] 0) w.heap.size (by omega)).trans r1
 obtain ⟨u2,hu2⟩:∃ u,u1.alloc (.map #[] 0)=u:=⟨_,rfl⟩
 rw[hu2] at s2 b2 r2 m2 ⊢
 have m3:=MapAt.made u2
 rw[s2] at m3
 have m23:=m2.alloc (.map #[] 0)
 have s3:(u2.alloc (.map #[] 0)).heap.size=w.heap.size+1+1+1:=by simp[s2]
 have b3:=b2.alloc b2.size (.map #[] 0)
 have r3:=(Below.heap_alloc u2 (.map #[] 0) w.heap.size (by omega)).trans r2
 obtain ⟨u3,hu3⟩:∃ u,u2.alloc (.map #[] 0)=u:=⟨_,rfl⟩
 rw[hu3] at s3 b3 r3 m3 m23 ⊢
 have c4:=heap_alloc_new u3 (.cells #[.map (some (w.heap.size+1)), .map (some (w.heap.size+1+1))] 135)
 rw[s3] at c4
 have m24:=m23.alloc (.cells #[.map (some (w.heap.size+1)), .map (some (w.heap.size+1+1))] 135)
 have m34:=m3.alloc (.cells #[.map (some (w.heap.size+1)), .map (some (w.heap.size+1+1))] 135)
 have s4:(u3.alloc (.cells #[.map (some (w.heap.size+1)), .map (some (w.heap.size+1+1))] 135)).heap.size=w.heap.size+1+1+1+1:=by simp[s3]
 have b4:=b3.alloc b3.size (.cells #[.map (some (w.heap.size+1)), .map (some (w.heap.size+1+1))] 135)
 have r4:=(Below.heap_alloc u3 (.cells #[.map (some (w.heap.size+1)), .map (some (w.heap.size+1+1))] 135) w.heap.size (by omega)).trans r3
 obtain ⟨u4,hu4⟩:∃ u,u3.alloc (.cells #[.map (some (w.heap.size+1)), .map (some (w.heap.size+1+1))] 135)=u:=⟨_,rfl⟩
 rw[hu4] at s4 b4 r4 m34 m24 c4 ⊢
 have m5:=MapAt.made u4
 rw[s4] at m5
 have b5:=b4.alloc b4.size (.map #[] 0)
 exact ⟨rfl,⟨m24.alloc _,m34.alloc _,by omega⟩,m5,fun k v h=>(by cases h),PkM.nil _ _,⟨Nat.zero_le _,Nat.zero_le _,Nat.zero_le _⟩,(Below.heap_alloc u4 (.map #[] 0) w.heap.size (by omega)).trans r4,(Below.heap_alloc u4 (.map #[] 0) _ (by omega)).trans c4,b5,hb.below b5 hb.size⟩
theorem wparse_some (xs:List S) (hx : ¬ (xs.length=0∨6<xs.length)) (v:Value) (w:World) (h:Reads w v xs) (hb:Base w) :
   Calls Tryz.prog 65 #[v] w (WpPost xs w):=by
 obtain ⟨a,c,rfl,hc⟩:=h.form
 have hw:Hv.wish xs=match Hv.wfold xs ⟨[],[],[]⟩ with
   | none => .error 6
   | some s=>if s.N.length<xs.length then .error 7 else .ok s:=by unfold Hv.wish;rw[if_neg hx]
 have HWI:=hide hw
 have HC:=hide hc
 have HS:=hide (WpIn.start xs w hb)
 have hG:=hb.size
 clear hw hc hb h
 obtain ⟨n,hn⟩:∃ n,xs.length=n:=⟨_,rfl⟩
 rw[hn] at hx ⊢
 have g1 : ¬ (n:Int)=0:=by omega
 have g2 : ¬ (6:Int)<(n:Int):=by omega
 have HN:=hide hn
 have hmm := @run_makeMap Tryz.prog
 obtain ⟨B,hB⟩:∃ B,w.heap.size=B:=⟨_,rfl⟩
 rw[hB] at HS hG
 clear hn hx
 go_enter Tryz.func65,Tryz.ntmps65
 go_wp2_with fail
 go_loopw [25] (fun i wr=>∃ (k:Nat) (s:Hv.WS) (E:VM Value),k≤n∧i = .int .i64 (k:Int)∧Hid (WpIn xs B w k s E wr)) (fun i _=>n-(intOf i).toNat)
 case atStart=>exact ⟨0,_,_,Nat.zero_le _,rfl,HS⟩
 case round =>
   clear HS
   obtain ⟨k,s,E,hk,rfl,HI⟩:=hrel
   by_cases hlt:k<n
   · have b1:(k:Int)<(n:Int):=by omega
     have hlx:k<xs.length:=by have:=HN.out;omega
     obtain ⟨g,rfl,hg,hc⟩:=HC.out k xs[k] (List.getElem?_eq_getElem hlx)
     have hcr:=(World.cell?_of_block (a:=⟨g,k,none⟩) (HI.out.bel.block g (by omega))).trans hc
     have c0:=(row_cell HI.out.cb 0).trans (show _=some (.map (some (B+1))) from rfl)
     have c1:=(row_cell HI.out.cb 1).trans (show _=some (.map (some (B+1+1))) from rfl)
     clear hc
     go_wp2_with fail
     refine (take_any (B+1) (B+1+1) s.R E xs[k] (by have:=HI.out.lens.1;omega) (by have:=HI.out.lens.2.1;omega) wr HI.out.base HI.out.wish).mono ?_
     rintro e w1 ht
     unfold TkPost at ht
     cases hi:Hv.itemOf xs[k] with
     | none =>
       rw[hi] at ht
       obtain ⟨rfl,hb1⟩:=ht
       have hrb:=(hb1.block B (by have:=HI.out.size;omega)).trans HI.out.rb
       obtain ⟨w9,hw9,hrow,hbel, -⟩:=two_told hrb (HI.out.bel.trans (hb1.mono (by have:=HI.out.size;omega))) (Nat.le_refl _) (.map none) (.map none)
       have r0:=(row_cell hrb 0).trans (show _=some (.map none) from rfl)
       have r1:=(row_cell hrb 1).trans (show _=some (.map none) from rfl)
       have f0:=row_free hrb 0
       have f1:=row_free hrb 1
       have u0:=(row_cell hrow 0).trans (show _=some (.map none) from rfl)
       have u1:=(row_cell hrow 1).trans (show _=some (.map none) from rfl)
       rw[hw9] at u0 u1 hbel
       have HBE:=hide hbel
       have HE:Hid (Hv.wish xs = .error 6):=hide (by rw[HWI.out,HI.out.left,List.drop_eq_getElem_cons hlx];simp[Hv.wfold,hi])
       clear hrb hrow hw9 hbel hb1
       go_wp2_with fail
       refine bodyPost_ret (v := .tuple #[.agg #[.map none, .map none], .int .i64 6]) (by simp[results,Tryz.results65,go_sem,u0,u1]) rfl ?_
       unfold WpPost
       rw[HE.out,hB]
       exact ⟨rfl,HBE.out⟩
     | some it =>
       cases it with
       | inl nm=>
         rw[hi] at ht
         obtain ⟨rfl,hnl,hw1,hf1⟩:=ht
         have hn1:=HI.out.names.far hf1 (Nat.le_refl _) (by omega)
         go_wp2_with (first
           | (at_mapUpdate;refine wp_store rfl _ _ _ 133 rfl 53 Tryz.underlying133 hn1 (by unfold maxLen;have:=HI.out.lens.2.2;omega) rfl nm (by unfold maxLen;omega) rfl (.agg #[]) rfl ?_;intro w2 hn2 ht2;go_frame))
         have hf2:=turned_far ht2
         have HI2:=hide (HI.out.rem hlx hi hw1 hf1 hn2 hf2 hG)
         go_roundw
         case rel=>exact ⟨k+1,_,_,by omega,by go_num,HI2⟩
         case measure=>simp[intOf];omega
       | inr it=>
         obtain ⟨x,nm,ve,st⟩:=it
         rw[hi] at ht
         obtain ⟨rfl,hnl,v,hp1,hw1,hf1⟩:=ht
         have hn1:=HI.out.names.far hf1 (Nat.le_refl _) (by omega)
         go_wp2_with (first
           | (at_mapUpdate;refine wp_store rfl _ _ _ 133 rfl 53 Tryz.underlying133 hn1 (by unfold maxLen;have:=HI.out.lens.2.2;omega) rfl nm (by unfold maxLen;omega) rfl (.agg #[]) rfl ?_;intro w2 hn2 ht2;go_frame))
         have hf2:=turned_far ht2
         have HI2:=hide (HI.out.ins hlx hi hp1 hw1 hf1 hn2 hf2 hG)
         go_roundw
         case rel=>exact ⟨k+1,_,_,by omega,by go_num,HI2⟩
         case measure=>simp[intOf];omega
   · obtain rfl:k=n:=by omega
     have b1 : ¬ (k:Int)<(k:Int):=by omega
     have hsN:Hid (s.N.length≤6):=hide (by have:=HI.out.lens.2.2;omega)
     have hml:=HI.out.names.len Tryz.underlying133 3
     have HL:Hid (Hv.wfold xs ⟨[],[],[]⟩=some s):=hide (by rw[HI.out.left,List.drop_eq_nil_of_le (by have:=HN.out;omega)];rfl)
     have c0:=(row_cell HI.out.cb 0).trans (show _=some (.map (some (B+1))) from rfl)
     have c1:=(row_cell HI.out.cb 1).trans (show _=some (.map (some (B+1+1))) from rfl)
     have r0:=(row_cell HI.out.rb 0).trans (show _=some (.map none) from rfl)
     have r1:=(row_cell HI.out.rb 1).trans (show _=some (.map none) from rfl)
     have f0:=row_free HI.out.rb 0
     have f1:=row_free HI.out.rb 1
     by_cases hd:s.N.length<k
     · have b2:(s.N.length:Int)<(k:Int):=by omega
       have HE:Hid (Hv.wish xs = .error 7):=hide (by rw[HWI.out,HL.out];simp only;rw[if_pos (by have:=HN.out;omega)])
       obtain ⟨w9,hw9,hrow,hbel, -⟩:=two_told HI.out.rb HI.out.bel (Nat.le_refl _) (.map none) (.map none)
       have u0:=(row_cell hrow 0).trans (show _=some (.map none) from rfl)
       have u1:=(row_cell hrow 1).trans (show _=some (.map none) from rfl)
       rw[hw9] at u0 u1 hbel
       have HBE:=hide hbel
       clear hrow hw9 hbel
       go_wp2_with fail
       refine bodyPost_ret (v := .tuple #[.agg #[.map none, .map none], .int .i64 7]) (by simp[results,Tryz.results65,go_sem,u0,u1]) rfl ?_
       unfold WpPost
       rw[HE.out,hB]
       exact ⟨rfl,HBE.out⟩
     · have b2 : ¬ (s.N.length:Int)<(k:Int):=by omega
       have HE:Hid (Hv.wish xs = .ok s):=hide (by rw[HWI.out,HL.out];simp only;rw[if_neg (by have:=HN.out;omega)])
       obtain ⟨w9,hw9,hrow,hbel,hf9⟩:=two_told HI.out.rb HI.out.bel (Nat.le_refl _) (.map (some (B+1))) (.map (some (B+1+1)))
       have u0:=(row_cell hrow 0).trans (show _=some (.map (some (B+1))) from rfl)
       have u1:=(row_cell hrow 1).trans (show _=some (.map (some (B+1+1))) from rfl)
       rw[hw9] at u0 u1 hbel hf9
       have HBE:=hide hbel
       have HF9:=hide hf9
       have HU:=hide HI.out.uni
       have HK:=hide HI.out.lens
       have HWA:=hide HI.out.wish
       have HPK:=hide HI.out.pk
       clear hrow hw9 hbel hf9 HI
       go_wp2_with fail
       refine bodyPost_ret (v := .tuple #[.agg #[.map (some (B+1)), .map (some (B+1+1))], .int .i64 0]) (by simp[results,Tryz.results65,go_sem,u0,u1]) rfl ?_
       unfold WpPost
       rw[HE.out,hB]
       refine ⟨B+1,B+1+1,E,rfl,⟨HWA.out.rem.far HF9.out (Nat.le_refl _) (by omega),HWA.out.ins.far HF9.out (Nat.le_refl _) (by omega),HWA.out.ne⟩,HU.out,(HPK.out.far HF9.out (Nat.le_refl _) (fun g _ hg=>by omega)).weak (fun g hg=>by omega),by have:=HK.out;omega,by have:=HK.out;omega,by omega,by omega,HBE.out⟩
theorem wparse_any (xs:List S) (v:Value) (w:World) (h:Reads w v xs) (hl:xs.length≤maxLen) (hb:Base w):Calls Tryz.prog 65 #[v] w (WpPost xs w):=by
 by_cases hx:xs.length=0∨6<xs.length
 · exact wparse_few xs hx v w h hl
 · exact wparse_some xs hx v w h hb
def Hv.PD.paths (d:Hv.PD):List S:=d.st.files.map (·.1)
def Clash (D:VM Hv.PD):Prop:=(∃ k d,Hv.get D k=some d ∧ ¬ d.paths.Nodup) ∨ ∃ k k' d d' x,k≠k'∧Hv.get D k=some d∧Hv.get D k'=some d'∧x∈d.paths∧x∈d'.paths
noncomputable def clashB (D:VM Hv.PD):Bool := @decide (Clash D) (Classical.propDecidable _)
theorem clash_yes {D:VM Hv.PD} (h:Clash D):clashB D=true := @decide_eq_true _ (Classical.propDecidable _) h
theorem clash_no {D:VM Hv.PD} (h : ¬ Clash D):clashB D=false := @decide_eq_false _ (Classical.propDecidable _) h
theorem path_len {x:S} (h:Wd.isPath x=true):x.length≤24:=by
 simp only[Wd.isPath,Wd.lenIn,Bool.and_eq_true,decide_eq_true_eq] at h;omega
theorem zero_unit (w:World):(zeroValue 53).run Tryz.prog w = .ok (.agg #[]) w:=Tryz.zeroValue53 w
structure SeenIn (D:VM Hv.PD) (left:S→Bool) (Q:VM Value):Prop where
 uni:AllU Q
 has:∀ x,Hv.has Q x=true ↔ ∃ k d,Hv.get D k=some d∧left k=false∧x∈d.paths
 each:∀ k d,Hv.get D k=some d→left k=false→d.paths.Nodup
 two:∀ k k' d d' x,k≠k'→Hv.get D k=some d→Hv.get D k'=some d'→left k=false→left k'=false→x∈d.paths→x∈d'.paths→False
structure SeenJ (D:VM Hv.PD) (left:S→Bool) (d:Hv.PD) (j:Nat) (Q:VM Value):Prop where
 uni:AllU Q
 has:∀ x,Hv.has Q x=true ↔ (∃ k d,Hv.get D k=some d∧left k=false∧x∈d.paths)∨x∈d.paths.take j
 nod:(d.paths.take j).Nodup
 off:∀ x,x∈d.paths.take j → ¬ ∃ k d,Hv.get D k=some d∧left k=false∧x∈d.paths
theorem SeenIn.begin {D:VM Hv.PD} {left:S→Bool} {Q:VM Value} (h:SeenIn D left Q) (d:Hv.PD):SeenJ D left d 0 Q :=
 ⟨h.uni,fun x=>by rw[h.has];simp,by simp,fun x hx=>by simp at hx⟩
theorem put_has {α:Type} {E:VM α} (hE:Hv.Srt E) (k:S) (v:α) (x:S):Hv.has (Hv.put E k v) x=true ↔ Hv.has E x=true∨x=k:=by
 rw[Hv.has_get,Hv.has_get]
 by_cases e:x=k
 · subst e;rw[Hv.get_put_same hE];simp
 · rw[Hv.get_put_other hE _ e];simp[e]
theorem SeenJ.step {D:VM Hv.PD} {left:S→Bool} {d:Hv.PD} {j:Nat} {Q:VM Value} (h:SeenJ D left d j Q) (hQ:Hv.Srt Q) (hj:j<d.paths.length) (hn:Hv.has Q d.paths[j]=false):SeenJ D left d (j+1) (Hv.put Q d.paths[j] unitV):=by
 have e:=List.take_succ_eq_append_getElem hj
 have hno : ¬ Hv.has Q d.paths[j]=true:=by rw[hn];simp
 rw[h.has] at hno
 refine ⟨AllU.put h.uni hQ _,fun x => ?_,?_,fun x hx => ?_⟩
 · rw[put_has hQ,h.has,e,List.mem_append,List.mem_singleton,or_assoc]
 · rw[e,List.nodup_append]
   refine ⟨h.nod,by simp,fun a ha b hb => ?_⟩
   rw[List.mem_singleton.1 hb]
   rintro rfl
   exact hno (.inr ha)
 · rw[e,List.mem_append,List.mem_singleton] at hx
   rcases hx with hx | rfl
   · exact h.off x hx
   · exact fun q=>hno (.inl q)
theorem SeenJ.clash {D:VM Hv.PD} {left:S→Bool} {k:S} {d:Hv.PD} {j:Nat} {Q:VM Value} (h:SeenJ D left d j Q) (hk:left k=true) (hd:Hv.get D k=some d) (hj:j<d.paths.length) (hn:Hv.has Q d.paths[j]=true):Clash D:=by
 rw[h.has] at hn
 rcases hn with ⟨k',d',h1,h2,h3⟩ | hn
 · exact .inr ⟨k,k',d,d',_,fun e=>(by rw[e,h2] at hk;cases hk),hd,h1,List.getElem_mem hj,h3⟩
 · refine .inl ⟨k,d,hd,fun hnd => ?_⟩
   have e:d.paths=d.paths.take j++d.paths[j]::d.paths.drop (j+1):=by simp
   rw[e,List.nodup_append] at hnd
   exact hnd.2.2 _ hn _ List.mem_cons_self rfl
theorem SeenJ.end_ {D:VM Hv.PD} {left:S→Bool} {k:S} {d:Hv.PD} {Q Q0:VM Value} {j:Nat} (h:SeenJ D left d j Q) (h0:SeenIn D left Q0) (hk:left k=true) (hd:Hv.get D k=some d) (hj:d.paths.length≤j):SeenIn D (fun z=>left z && !(z==k)) Q:=by
 have e:=List.take_of_length_le hj
 have hl:∀ z,(left z && !(z==k))=false ↔ left z=false∨z=k:=by
   intro z;by_cases q:z=k<;>simp[q]
 refine ⟨h.uni,fun x => ?_,fun k1 d1 h1 h2 => ?_,fun k1 k2 d1 d2 x hne h1 h2 l1 l2 x1 x2 => ?_⟩
 · rw[h.has,e]
   constructor
   · rintro (⟨k',d',a,b,c⟩ | a)
     · exact ⟨k',d',a,(hl k').2 (.inl b),c⟩
     · exact ⟨k,d,hd,(hl k).2 (.inr rfl),a⟩
   · rintro ⟨k',d',a,b,c⟩
     rcases (hl k').1 b with b | rfl
     · exact .inl ⟨k',d',a,b,c⟩
     · rw[hd] at a;cases a;exact .inr c
 · rcases (hl k1).1 h2 with b | rfl
   · exact h0.each k1 d1 h1 b
   · rw[hd] at h1;cases h1;have:=h.nod;rwa [e] at this
 · rcases (hl k1).1 l1 with a | rfl
   · rcases (hl k2).1 l2 with b | rfl
     · exact h0.two k1 k2 d1 d2 x hne h1 h2 a b x1 x2
     · rw[hd] at h2;cases h2;exact h.off x (by rw[e];exact x2) ⟨k1,d1,h1,a,x1⟩
   · rw[hd] at h1;cases h1
     rcases (hl k2).1 l2 with b | rfl
     · exact h.off x (by rw[e];exact x1) ⟨k2,d2,h2,b,x2⟩
     · exact hne rfl
theorem SeenIn.none {D:VM Hv.PD} {left:S→Bool} {Q:VM Value} (h:SeenIn D left Q) (hl:∀ k,left k=false) : ¬ Clash D:=by
 rintro (⟨k,d,a,b⟩ | ⟨k,k',d,d',x,hne,a,b,c,e⟩)
 · exact b (h.each k d a (hl k))
 · exact h.two k k' d d' x hne a b (hl k) (hl k') c e
theorem clashes_any (pm:Nat) (P:VM Value) (D:VM Hv.PD) (N:Nat→Prop) (w:World) (hp:MapAt w pm P) (hP:PkM N w D P) (hmany:P.length≤1000) :
   Calls Tryz.prog 123 #[.map (some pm)] w fun e w'=>e = .returned (.bool (clashB D))∧Below w.heap.size w w':=by
 have hpl:=hp.lt
 have HP:=hide hp;have HPP:=hide hP
 clear hp hP
 have hmm := @run_makeMap Tryz.prog
 have hp1:=HP.out.alloc (.map #[] 0)
 have HM1:=hide (MapAt.made w)
 have HB1:=hide ((Below.refl w.heap.size w).alloc (Nat.le_refl _) (.map #[] 0))
 have hsz:(w.alloc (.map #[] 0)).heap.size=w.heap.size+1:=by simp
 go_enter Tryz.func123,Tryz.ntmps123
 go_wp2_with (first
   | (at_range;refine wp_range rfl _ 86 rfl 156 Tryz.underlying86 hp1 rfl ?_;intro w0 hrg0 hg0 hs0;have HG0:=hide hrg0;have HB0:=hide (HB1.out.grown hg0 HB1.out.size (fun q hq=>by cases hq));have HM0:=hide (HM1.out.kept (hg0.block _ HM1.out.lt (by simp)))))
 rw[hsz] at HG0 hs0 ⊢
 go_frame
 clear hg0 hrg0 hp1 HM1 HB1
 go_loopw [13] (fun _ wr=>∃ (left:S→Bool) (cnt:Nat) (Q:VM Value),Hid (MapOn wr pm (w.heap.size+1) P left cnt)∧Hid (MapAt wr w.heap.size Q)∧Hid (SeenIn D left Q)∧Q.length+21*cnt≤21*P.length∧Hid (Below w.heap.size w wr)∧w.heap.size+1<wr.heap.size)
   (fun _ wr=>wr.rangeLeft pm (w.heap.size+1))
 case atStart=>exact ⟨_,_,[],HG0,HM0,hide ⟨fun k v h=>(by cases h),fun x=>⟨fun h=>(by cases h),fun ⟨k,d,h1,h2,_⟩=>by rw[HPP.out.has_eq,Hv.has_get,h1] at h2;cases h2⟩,fun k d h1 h2=>(by rw[HPP.out.has_eq,Hv.has_get,h1] at h2;cases h2),fun k k' d d' x _ h1 _ h2=>(by rw[HPP.out.has_eq,Hv.has_get,h1] at h2;cases h2)⟩,by simp,HB0,by omega⟩
 case round =>
   clear HG0 HB0 HM0
   obtain ⟨left,cnt,Q0,HG,HM,HS,hroom,HB,hsz1⟩:=hrel
   go_wp2_with (first
     | (at_next;refine wp_next rfl _ rfl (w.heap.size+1) left cnt rfl HG.out ?_ ?_))
   · intro hc0 hl0
     go_wp2_with fail
     go_ret
     rw[clash_no (HS.out.none hl0)]
     exact ⟨rfl,HB.out⟩
   · intro k v w4 cnt1 hk hlk hget hrg1 hlt hg1 hs1 hen
     obtain ⟨d,hd,⟨tx,pn,pv,nd,br,wk,⟨na,nn,nc⟩,ru,wo,sta⟩,rfl,p1,p2,p3,p4,hpk, -⟩:=HPP.out.to_ k v hget
     have HG1:=hide (MapOn.alloc hrg1 (.cells (Pk.mk tx pn pv nd br wk ⟨na,nn,nc⟩ ru wo sta).cells 156))
     have hb4:=HB.out.grown hg1 HB.out.size (fun q hq=>by cases hq;omega)
     have HB4:=hide (hb4.alloc hb4.size (.cells (Pk.mk tx pn pv nd br wk ⟨na,nn,nc⟩ ru wo sta).cells 156))
     have HM4:=hide ((HM.out.kept (hg1.block _ HM.out.lt (by simp))).alloc (.cells (Pk.mk tx pn pv nd br wk ⟨na,nn,nc⟩ ru wo sta).cells 156))
     have hs4:w4.heap.size=wr.heap.size:=hs1
     have hrow4:=heap_alloc_new w4 (.cells (Pk.mk tx pn pv nd br wk ⟨na,nn,nc⟩ ru wo sta).cells 156)
     have a3:=(row_cell hrow4 6).trans (show _=some (.slice na nn nc) from rfl)
     have HN:=hide (sl_n (hpk.rows 3))
     have HO:=hide (hpk.rows 3)
     have HGD:=hide (parse_good hpk.parse).2.2.files
     have HFT:=hide (parse_fits hpk.parse).2.2.1
     have HD:=hide hd
     have hsu:(w4.alloc (.cells (Pk.mk tx pn pv nd br wk ⟨na,nn,nc⟩ ru wo sta).cells 156)).heap.size=w4.heap.size+1:=by simp
     simp only[Pk.val,Pk.cells] at hen ⊢
     clear hrg1 hg1 hget hpk p1 p2 p3 p4 hd hb4 hrow4
     go_wp2_with fail
     have hs5:w.heap.size+1<(w4.alloc (.cells (Pk.mk tx pn pv nd br wk ⟨na,nn,nc⟩ ru wo sta).cells 156)).heap.size:=by rw[hsu];omega
     simp only[Pk.cells] at HG1 HB4 hs5 HM4
     clear a3 hsu
     go_loopw [21] (fun i w2=>∃ (j:Nat) (Q:VM Value),j≤nn∧i = .int .i64 (j:Int)∧Hid (MapOn w2 pm (w.heap.size+1) P (fun z=>left z && !(z==k)) cnt1)∧Hid (MapAt w2 w.heap.size Q)∧Hid (SeenJ D left d j Q)∧Q.length≤Q0.length+j∧Hid (Below w.heap.size w w2)∧w.heap.size+1<w2.heap.size) (fun i _=>nn-(intOf i).toNat)
     case atStart=>exact ⟨0,Q0,Nat.zero_le _,rfl,HG1,HM4,hide (HS.out.begin d),by omega,HB4,hs5⟩
     case round =>
       clear HG1 HB4 HM4
       obtain ⟨j,Q,hj,rfl,HG2,HM2,HA,hql,HB2,hs2⟩:=hrel
       by_cases hjl:j<nn
       · have b1:(j:Int)<(nn:Int):=by omega
         have hjx:j<d.st.files.length:=by have:=HN.out;simp only[prow] at this;omega
         obtain ⟨g,c,hv,hg,q1,q2⟩:=pairs_at HO.out hjx
         obtain rfl:na=some ⟨g,0,none⟩:=(Value.slice.inj hv).1
         have d1:=(HB2.out.cell (p:=⟨g,j*2,none⟩) hg).trans q1
         have d2:=(HB2.out.cell (p:=⟨g,j*2+1,none⟩) hg).trans q2
         have hgd:=(HGD.out _ (List.getElem_mem hjx)).1
         have hj21:j<21:=by have:=HFT.out.2.2.2.1;omega
         have hjp:j<d.paths.length:=by unfold Hv.PD.paths;rw[List.length_map];exact hjx
         have hpe:d.paths[j]=d.st.files[j].1:=by simp[Hv.PD.paths]
         have HST:=hide (fun h=>HA.out.step HM2.out.1 hjp h)
         have HCL:=hide (fun h=>HA.out.clash hlk HD.out hjp h)
         rw[hpe] at HST HCL
         obtain ⟨q,hq⟩:∃ q,d.st.files[j]=q:=⟨_,rfl⟩
         rw[hq] at d1 d2 hgd HST HCL
         obtain ⟨n1,n2⟩:=q
         have hgd:Wd.isPath n1=true:=hgd
         have hnl:n1.length≤maxLen:=by have:=path_len hgd;unfold maxLen;omega
         have hmq:=HM2.out.alloc (.cells #[.string ⟨n1.toArray⟩, .string ⟨n2.toArray⟩] 234)
         have hu:(Hv.get Q n1).getD (.agg #[]) = .agg #[]:=by
           cases e:Hv.get Q n1 with
           | none=>rfl
           | some v=>exact HA.out.uni n1 v e
         simp only at HST HCL
         clear hv q1 q2 hgd hq hpe
         cases hh:Hv.has Q n1
         · have hmq2:=hmq.alloc (.cells #[] 53)
           have hlen:Q.length<maxLen:=by unfold maxLen;omega
           have HB3:=hide ((HB2.out.alloc HB2.out.size (.cells #[.string ⟨n1.toArray⟩, .string ⟨n2.toArray⟩] 234)).alloc (HB2.out.alloc HB2.out.size _).size (.cells #[] 53))
           have HG3:=hide ((HG2.out.alloc (.cells #[.string ⟨n1.toArray⟩, .string ⟨n2.toArray⟩] 234)).alloc (.cells #[] 53))
           go_wp2_with (first
             | (at_lookup;refine wp_look_ok rfl _ _ 133 rfl 53 Tryz.underlying133 (zero_unit _) hmq rfl n1 hnl rfl ?_;rw[hu,hh])
             | (at_mapUpdate;refine wp_store rfl _ _ _ 133 rfl 53 Tryz.underlying133 hmq2 hlen rfl n1 hnl rfl (.agg #[]) rfl ?_;intro w5 hm5 ht5;go_frame))
           have hf5:=turned_far ht5
           have hz5:((wr.alloc (.cells #[.string ⟨n1.toArray⟩, .string ⟨n2.toArray⟩] 234)).alloc (.cells #[] 53)).heap.size≤w5.heap.size:=hf5.size
           have hz6:((wr.alloc (.cells #[.string ⟨n1.toArray⟩, .string ⟨n2.toArray⟩] 234)).alloc (.cells #[] 53)).heap.size=wr.heap.size+2:=by simp
           have hpm:pm<w.heap.size:=hpl
           have HG5:=hide (HG3.out.far hf5 (Nat.le_refl _) (by omega) (by omega))
           have HB5:=hide (HB3.out.trans (hf5.toBelow (by simp;omega) (fun q hq (e:q=w.heap.size)=>by omega)))
           have HM5:=hide hm5
           have HS5:=hide (HST.out hh)
           have hpl5:=Hv.put_len Q n1 (.agg #[]:Value)
           clear ht5 hf5 hm5
           go_roundw
           case rel=>exact ⟨j+1,_,by omega,by go_num,HG5,HM5,HS5,by omega,HB5,by omega⟩
           case measure=>simp[intOf];omega
         · go_wp2_with (first
             | (at_lookup;refine wp_look_ok rfl _ _ 133 rfl 53 Tryz.underlying133 (zero_unit _) hmq rfl n1 hnl rfl ?_;rw[hu,hh]))
           go_ret
           rw[clash_yes (HCL.out hh)]
           exact ⟨rfl,(HB2.out.alloc HB2.out.size _).alloc (HB2.out.alloc HB2.out.size _).size _⟩
       · obtain rfl:j=nn:=by omega
         have b1 : ¬ (j:Int)<(j:Int):=by omega
         go_wp2_with fail
         go_roundw
         case rel=>exact ⟨_,cnt1,Q,HG2,HM2,hide (HA.out.end_ HS.out hlk HD.out (by unfold Hv.PD.paths;rw[List.length_map];have:=HN.out;simp only[prow] at this;omega)),by have:=HN.out;simp only[prow] at this;have:=HFT.out.2.2.2.1;omega,HB2,hs2⟩
         case measure=>rw[HG2.out.left_eq,HG.out.left_eq];exact hlt
end
end Go.Proofs.YtialenebfcnkkaaGreatDoor
