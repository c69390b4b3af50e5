/- DoW3, VarMath, VarW1, FineMath, RulW10, CheckMath -/
import Derived.Test.YtialenebfcnkkaaGreatDoorWokJ24
import Derived.Test.YtialenebfcnkkaaGreatDoorWokJ22
set_option maxHeartbeats 4000000
set_option maxRecDepth 100000
namespace Go.Proofs.YtialenebfcnkkaaGreatDoor
section
open Go.RowKit
open Arc (St Cmd)
open Hv (S Dk VM)
theorem pdo_trigger (mb pm fm:Nat) (P K:VM Value) (D:VM Hv.PD) (G:VM S) (N:Nat→Prop) (g:Nat) (n:Nat) (nn c im km:Nat) (hn:n<nn) (x:S) (hx:x.length≤maxLen) (hPl:P.length≤1000) (hG:G.length≤1000) (L:Nat) (hL:L≤1000000) (hS:Hv.Short L G) (hDB:DBound L D) (d:Hv.PD) (hd:Hv.get D x=some d) (w:World) (h:MachAt mb pm fm P (Hv.fileM G) w) (hP:PkM N w D P) (KD:VM (List S)) (NK:Nat→Prop) (hk:MapAt w km K) (hK:WkM NK w KD K) (wk:List S) (hwk:(Hv.get KD x).getD []=wk) (hwn:wk.length≤1000) (hwx:∀ y∈wk,y.length≤100) (hwl:(linesS wk).length≤L) (q1:w.cell? ⟨g,n*2,none⟩=some (.int .i64 4)) (q2:w.cell? ⟨g,n*2+1,none⟩=some (.string ⟨x.toArray⟩)) :
   Calls Tryz.prog 132 #[.agg #[.slice (some ⟨g,0,none⟩) nn c, .map (some im), .map (some km)], .int .i64 n, .pointer (some ⟨mb,0,none⟩)] w (PdPost mb pm fm (Hv.put D x (d.to 2),Hv.runC D wk G d.st.wokens) N w):=by
 have hb0:=(Below.refl w.heap.size w).alloc (Nat.le_refl _) (.cells #[.slice (some ⟨g,0,none⟩) nn c, .map (some im), .map (some km)] 89)
 have HM0:=hide (h.below hb0)
 have HP0:=hide (hP.below hb0)
 have HK0:=hide (hk.below hb0)
 obtain ⟨ka,kc,hke,hkr, -⟩:=(hK.below hb0).at_ x
 rw[hwk] at hke hkr
 have HKE:=hide hke
 have hk0:=HK0.out
 have HWX:=hide hwx
 obtain ⟨v,hv,hr⟩:=(hP.below hb0).fro x d hd
 obtain ⟨p,rfl, -, -, -, -,hpk, -⟩:=hr
 have HV:=hide hv
 have hgl:g<w.heap.size:=World.block_lt_of_cell? w _ q1
 have d1:=(hb0.cell (p:=⟨g,n*2,none⟩) hgl).trans q1
 have d2:=(hb0.cell (p:=⟨g,n*2+1,none⟩) hgl).trans q2
 have hml:=blt h.blk
 have hb1:(n:Int)<(nn:Int):=by omega
 have hrow:=heap_alloc_new w (.cells #[.slice (some ⟨g,0,none⟩) nn c, .map (some im), .map (some km)] 89)
 have HF0:=hide ((Far.refl w.heap.size (fun q=>q=pm∨q=fm) w).alloc (Nat.le_refl _) (.cells #[.slice (some ⟨g,0,none⟩) nn c, .map (some im), .map (some km)] 89))
 have m0:=(row_cell HM0.out.blk 0).trans (show _=some (.map (some pm)) from rfl)
 have hus:(w.alloc (.cells #[.slice (some ⟨g,0,none⟩) nn c, .map (some im), .map (some km)] 89)).heap.size=w.heap.size+1:=by simp
 have hpm:=HM0.out.packs
 have hPm:P.length<maxLen:=by unfold maxLen;omega
 have hgood:=(parse_good hpk.parse).2.2
 have hfit:=(parse_fits hpk.parse).2.2.1
 have hro:=hpk.rows 5
 have hf1:=field_arc p
 have hf2:=field_wokens p
 have HRUN:=hide (fun w' (hm:MachAt mb pm fm P (Hv.fileM G) w') (hp:PkM N w' D P) (hr:w'.ownsRow 0 317 4 p.wokens.val d.st.wokens.length (d.st.wokens.flatMap cmdV)) (hrd:Reads w' (.slice ka wk.length kc) wk)=>run_any mb pm fm P D N G d.st.wokens (fun c hc=>hgood.wokens c hc) (hDB.copies.symm.imp (fun h=>(h x d hd).2) id) (by have:=hfit.2.2.2.2.2;omega) hPl hG L hL hDB.files hS p.wokens.val (.slice ka wk.length kc) wk hwn HWX.out hwl w' hm hp hrd hr)
 have HRO:=hide (show (w.alloc (.cells #[.slice (some ⟨g,0,none⟩) nn c, .map (some im), .map (some km)] 89)).ownsRow 0 317 4 p.wokens.val d.st.wokens.length (d.st.wokens.flatMap cmdV) from hro)
 have HRD:=hide (reads_of hkr)
 clear h hP hb0 q1 q2 hv hpk hk hgood hfit hro hDB hS hK hwk hke hkr hwx
 simp only[Pk.val,Pk.cells,Pk.arc,Sl.val] at hf1 hf2 HRUN
 go_enter Tryz.func132,Tryz.ntmps132
 go_wp2_with fail
 obtain ⟨u,hu⟩:∃ u,w.alloc (.cells #[.slice (some ⟨g,0,none⟩) nn c, .map (some im), .map (some km)] 89)=u:=⟨_,rfl⟩
 rw[hu] at HM0 HP0 HF0 HK0 HRO HRD hus hrow hk0 hpm m0 ⊢
 clear hu
 have hlk:=hpm.drew.look Tryz.underlying86 (zero_pk _) x hx
 rw[HV.out] at hlk
 simp only[Option.getD_some,Pk.val,Pk.cells] at hlk
 have hlk2:=hk0.drew.look Tryz.underlying87 (zero_strs _) x hx
 rw[HKE.out] at hlk2
 obtain ⟨B,hB⟩:∃ B,w.heap.size=B:=⟨_,rfl⟩
 have HBE:=hide hB
 rw[hB] at hrow hus ⊢
 have HROW:=hide hrow
 have c2:=(row_cell hrow 2).trans (show _=some (.map (some km)) from rfl)
 have HMD:=hide (show MachAt mb pm fm P (Hv.fileM G) u.drew from ⟨HM0.out.blk,HM0.out.packs.drew,HM0.out.files.drew,HM0.out.apart⟩)
 have HPD:=hide (HP0.out.below ((Below.refl _ u).drew))
 have HFD:=hide HF0.out.drew
 have hsd:w.heap.size≤u.heap.size:=HF0.out.size
 clear hrow hB hk0 hpm d1 d2
 go_region_held3 (fun w'=>w'.cell? ⟨mb,0,none⟩=some (.map (some pm))∧w'.cell? ⟨B,2,none⟩=some (.map (some km)))
   (first | assumption | exact ⟨m0,c2⟩ | exact ⟨m2,e2⟩ | simp[go_sem, *])
   (first
     | (go_at_call 187;refine (HRUN.out _ HMD.out HPD.out (show World.ownsRow u.drew _ _ _ _ _ _ from HRO.out) (show Reads u.drew _ _ from HRD.out)).mono ?_;rintro e w2 ⟨u2,rfl,hm2,hf2'⟩;have HM2:=hide hm2;have hnf:=HMD.out.files.no_row;have HP2:=hide (HPD.out.turned hnf hf2' (Nat.le_refl _));have HF2:=hide (HFD.out.next hf2' hsd (fun _ _ q => .inr q));have m2:=(row_cell hm2.blk 0).trans (show _=some (.map (some pm)) from rfl);have e2:=(row_cell ((hf2'.block B (blt (w:=u) HROW.out) (fun e=>hnf _ _ _ (by rw[← e];exact HROW.out))).trans HROW.out) 2).trans (show _=some (.map (some km)) from rfl);have hs2:u.heap.size≤w2.heap.size:=hf2'.size;clear hm2 hf2' hnf))
 all_goals
   clear hlk hlk2
   go_wp2_with fail
   refine (setStatus_any mb pm fm P _ x hx p HV.out 2 hPm w2 HM2.out).mono ?_
   rintro e w4 ⟨u4,rfl,hm4,hf4⟩
   have HM4:=hide hm4
   have HP4:=hide ((HP2.out.toStatus HM2.out.packs.1 HV.out hd 2).turned HM2.out.packs.no_row hf4 (Nat.le_refl _))
   have HF4:=hide (HF2.out.next hf4 (by omega) (fun _ _ q => .inl q))
   clear hm4 hf4
   go_wp2_with fail
   go_end0
   exact ⟨_,_,rfl,HM4.out,HP4.out,HF4.out⟩
theorem PkM.within {N N':Nat→Prop} {w:World} {D:VM Hv.PD} {E:VM Value} (h:PkM N w D E) (hn:∀ g,N g→g<w.heap.size→N' g):PkM N' w D E:=by
 have hr:∀ d v,PkR N w d v→PkR N' w d v:=by
   rintro d v ⟨p,h1,h2,h3,h4,h5,h6,h7⟩
   exact ⟨p,h1,h2,h3,h4,h5,h6,fun i g hg=>hn g (h7 i g hg) ((h6.rows i).lt g hg).2⟩
 exact ⟨h.srt,fun k v q=>(h.to_ k v q).imp fun _ a=>⟨a.1,hr _ _ a.2⟩,fun k v q=>(h.fro k v q).imp fun _ a=>⟨a.1,hr _ _ a.2⟩⟩
def WakFine (L:Nat) (KD:VM (List S)):Prop:=∀ k xs,Hv.get KD k=some xs→xs.length≤1000∧(∀ y∈xs,y.length≤100)∧(linesS xs).length≤L
theorem pdo_any (mb pm fm:Nat) (P:VM Value) (D:VM Hv.PD) (G:VM S) (N:Nat→Prop) (B0:Nat) (pl:Hv.Plan) (sv:Value) (im km:Nat) (n:Nat) (hn:n<pl.steps.length) (hok:Hv.StepOk pl D pl.steps[n]) (hks:pl.steps[n].2.length≤maxLen) (hPl:P.length≤1000) (hG:G.length≤1000) (L:Nat) (hL:L≤1000000) (hS:Hv.Short L G) (hDB:DBound L D) (hWF:WakFine L pl.wak) (w:World) (h:MachAt mb pm fm P (Hv.fileM G) w) (hP:PkM N w D P) (hpl:PlanAt B0 pl sv im km w) (hN:∀ g,B0≤g→g<w.heap.size→N g) (hkm : ¬ km=fm) :
   Calls Tryz.prog 132 #[.agg #[sv, .map (some im), .map (some km)], .int .i64 n, .pointer (some ⟨mb,0,none⟩)] w (PdPost mb pm fm (Hv.stepD pl (D,G) pl.steps[n]) N w):=by
 obtain ⟨g,c,rfl,hg,q1,q2⟩:=steps_at hpl.row hn
 obtain ⟨I,i1,i2⟩:=hpl.ins
 obtain ⟨K,k1,k2⟩:=hpl.wak
 obtain ⟨⟨k,x⟩,hs⟩:∃ s,pl.steps[n]=s:=⟨_,rfl⟩
 rw[hs] at q1 q2 hok hks ⊢
 simp only at q1 q2 hks
 rcases hok with e | ⟨e,hi⟩ | ⟨e,hd⟩
 · simp only at e
   subst e
   exact pdo_gone mb pm fm P D G N g n _ c im km hn x hks w h hP q1 q2
 · simp only at e hi
   subst e
   rw[Hv.has_get] at hi
   obtain ⟨d,hd⟩:=Option.isSome_iff_exists.1 hi
   have e2:Hv.stepD pl (D,G) (2,x)=(Hv.put D x d,G):=by simp[Hv.stepD,hd]
   rw[e2]
   exact pdo_unpack mb pm fm P I D pl.ins G N g n _ c im km hn x hks hPl d hd w h hP i1 (i2.within hN) q1 q2
 · simp only at e hd
   rw[Hv.has_get] at hd
   obtain ⟨d,hd⟩:=Option.isSome_iff_exists.1 hd
   rcases e with e | e
   · subst e
     have e2:Hv.stepD pl (D,G) (3,x)=(Hv.put D x (d.to (if Hv.has K x=true then 3 else 2)),Hv.runC D [] G d.st.runs):=by simp[Hv.stepD,hd,k2.has_eq]
     rw[e2]
     exact pdo_configure mb pm fm P K D G N g n _ c im km hn x hks hPl hG L hL hS hDB d hd w h hP k1 k2.allS hkm _ rfl q1 q2
   · subst e
     have e2:Hv.stepD pl (D,G) (4,x)=(Hv.put D x (d.to 2),Hv.runC D ((Hv.get pl.wak x).getD []) G d.st.wokens):=by simp[Hv.stepD,hd]
     rw[e2]
     have hb:((Hv.get pl.wak x).getD []).length≤1000∧(∀ y∈(Hv.get pl.wak x).getD [],y.length≤100)∧(linesS ((Hv.get pl.wak x).getD [])).length≤L:=by
       cases q:Hv.get pl.wak x with
       | none=>exact ⟨by simp,by simp,by simp[linesS]⟩
       | some xs=>exact hWF x xs q
     exact pdo_trigger mb pm fm P K D G N g n _ c im km hn x hks hPl hG L hL hS hDB d hd w h hP pl.wak _ k1 k2 _ rfl hb.1 hb.2.1 hb.2.2 q1 q2
end
section
open Hv (S VM)
namespace Hv
def maxL (G:VM S) (left:S→Bool):Nat:=(G.map fun p=>if left p.1=true then 0 else p.2.length).foldr max 0
theorem maxL_none:∀ (G:VM S) (left:S→Bool),(∀ k,has G k=true→left k=true)→maxL G left=0
 | [],_,_=>rfl
 | p::G,left,h=>by
   have h1:=h p.1 (by simp[has])
   have h2:=maxL_none G left (fun k hk=>h k (by simp only[has,List.any_cons] at hk ⊢;rw[hk];simp))
   simp only[maxL,List.map_cons,List.foldr_cons,h1,if_true] at h2 ⊢
   omega
theorem maxL_same:∀ (G:VM S) (left left':S→Bool),(∀ p∈G,left p.1=left' p.1)→maxL G left=maxL G left'
 | [],_,_,_=>rfl
 | p::G,left,left',h=>by
   have h2:=maxL_same G left left' (fun q hq=>h q (by simp[hq]))
   have h1:=h p (by simp)
   simp only[maxL,List.map_cons,List.foldr_cons,h1] at h2 ⊢
   rw[h2]
theorem maxL_step:∀ (G:VM S) (left:S→Bool) (k x:S),Srt G→(k,x)∈G→left k=true→maxL G (fun z=>left z && !(z==k))=max (maxL G left) x.length
 | [],_,_,_,_,h,_=>by cases h
 | p::G,left,k,x,hs,h,hl=>by
   obtain ⟨g1,g2⟩:=List.pairwise_cons.1 hs
   rcases List.mem_cons.1 h with h | h
   · subst h
     have h2:=maxL_same G (fun z=>left z && !(z==k)) left (fun q hq=>by
       have : ¬ q.1=k:=fun e=>by have:=g1 q hq;rw[e,bb_irrefl] at this;cases this
       simp[this])
     simp only[maxL,List.map_cons,List.foldr_cons,hl,beq_self_eq_true,Bool.not_true,Bool.and_false,Bool.false_eq_true,if_false,if_true] at h2 ⊢
     omega
   · have h2:=maxL_step G left k x g2 h hl
     have : ¬ p.1=k:=fun e=>by have:=g1 _ h;rw[e,bb_irrefl] at this;cases this
     have e:(left p.1 && !(p.1==k))=left p.1:=by simp[this]
     simp only[maxL,List.map_cons,List.foldr_cons,e] at h2 ⊢
     rw[h2]
     omega
theorem maxL_le (G:VM S) (n:Nat):maxL G (fun _=>false)≤n ↔ ∀ p∈G,p.2.length≤n:=by
 induction G with
 | nil=>simp[maxL]
 | cons p G ih =>
   simp only[maxL,List.map_cons,List.foldr_cons,Bool.false_eq_true,if_false,List.mem_cons,forall_eq_or_imp] at ih ⊢
   rw[← ih]
   omega
theorem maxL_short {L:Nat} {G:VM S} (h:Short L G) (hs:Srt G) (left:S→Bool):maxL G left≤L:=by
 have key:∀ (E:VM S),(∀ p∈E,p.2.length≤L)→maxL E left≤L:=by
   intro E
   induction E with
   | nil=>intro _;simp[maxL]
   | cons p E ih =>
     intro h
     have h1:=ih (fun q hq=>h q (by simp[hq]))
     have h2:=h p (by simp)
     simp only[maxL,List.map_cons,List.foldr_cons] at h1 ⊢
     split<;>omega
 exact key G (fun p hp=>h p.1 p.2 ((get_some hs).2 hp))
theorem fitsG_max (G:VM S):fitsG G=(decide (G.length≤16)&&decide (maxL G (fun _=>false)≤200)):=by
 unfold fitsG
 congr 1
 rw[Bool.eq_iff_iff]
 simp only[List.all_eq_true,decide_eq_true_eq]
 exact (maxL_le G 200).symm
end Hv
end
section
open Go.RowKit
open Arc (St Cmd)
open Hv (S Dk VM)
theorem varUse_any (mb pm fm:Nat) (P:VM Value) (G:VM S) (L:Nat) (hS:Hv.Short L G) (w:World) (h:MachAt mb pm fm P (Hv.fileM G) w) :
   Calls Tryz.prog 133 #[.pointer (some ⟨mb,0,none⟩)] w fun e w'=>e = .returned (.tuple #[.int .i64 G.length, .int .i64 (Hv.maxL G fun _=>false:Nat)])∧Below w.heap.size w w':=by
 have m1:=(row_cell h.blk 1).trans (show _=some (.map (some fm)) from rfl)
 have hf:=h.files
 have HG:=hide (Hv.srt_of_fileM hf.1)
 have HM:=hide h;have HS:=hide hS
 have hml:=blt h.blk
 clear h hS
 go_enter Tryz.func133,Tryz.ntmps133
 go_wp2_with (first
   | (at_range;refine wp_range rfl _ 139 rfl 162 Tryz.underlying139 hf rfl ?_;intro w0 hrg0 hg0 hs0;have HG0:=hide hrg0;have HB0:=hide ((Below.refl w.heap.size w).grown hg0 (Nat.le_refl _) (fun q hq=>by cases hq))))
 go_frame
 clear hg0 hrg0 hf m1
 go_loopw [3,11] (fun z _ wr=>∃ (left:S→Bool) (cnt:Nat),z = .int .i64 (Hv.maxL G left:Nat)∧Hid (MapOn wr fm w.heap.size (Hv.fileM G) left cnt)∧Hid (Below w.heap.size w wr)∧w.heap.size<wr.heap.size)
   (fun _ _ wr=>wr.rangeLeft fm w.heap.size)
 case atStart=>exact ⟨_,_,by rw[Hv.maxL_none G _ (fun k hk=>by rw[Hv.has_get,Hv.fileM_get,Option.isSome_map,← Hv.has_get];exact hk)];rfl,HG0,HB0,by omega⟩
 case round =>
   clear HG0 HB0
   obtain ⟨left,cnt,rfl,HG2,HB,hsz1⟩:=hrel
   go_wp2_with (first
     | (at_next;refine wp_next rfl _ rfl w.heap.size left cnt rfl HG2.out ?_ ?_))
   · intro hc0 hl0
     have hl:left=fun _=>false:=funext hl0
     subst hl
     obtain ⟨T,hT⟩:∃ T,Hv.maxL G (fun _=>false)=T:=⟨_,rfl⟩
     rw[hT]
     have HT:=hide hT
     have hMB:=HM.out.below HB.out
     have m2:=(row_cell hMB.blk 1).trans (show _=some (.map (some fm)) from rfl)
     have hml2:=hMB.files.len Tryz.underlying139 3
     rw[Hv.fileM_len] at hml2
     clear hT hMB
     go_wp2_with fail
     go_ret2
     exact ⟨by rw[HT.out];rfl,HB.out⟩
   · intro k v w4 cnt1 hk hlk hget hrg1 hlt hg1 hs1 hen
     rw[Hv.fileM_get] at hget
     obtain ⟨x,hx,rfl⟩:=Option.map_eq_some_iff.1 hget
     have HG1:=hide (MapOn.alloc hrg1 (.cells #[.string ⟨x.toArray⟩] 162))
     have hb4:=HB.out.grown hg1 HB.out.size (fun q hq=>by cases hq;omega)
     have HB4:=hide (hb4.alloc hb4.size (.cells #[.string ⟨x.toArray⟩] 162))
     have hs4:w4.heap.size=wr.heap.size:=hs1
     have hsu:(w4.alloc (.cells #[.string ⟨x.toArray⟩] 162)).heap.size=w4.heap.size+1:=by simp
     have hxl:=HS.out k x hx
     have HST:=hide (Hv.maxL_step G left k x HG.out ((Hv.get_some HG.out).1 hx) hlk)
     have hml0:=Hv.maxL_short HS.out HG.out left
     obtain ⟨s0,hs0'⟩:∃ s0,Hv.maxL G left=s0:=⟨_,rfl⟩
     rw[hs0'] at HST hml0 ⊢
     simp only[Hv.fileV] at hen ⊢
     clear hrg1 hg1 hget hb4 hs0' hx
     go_wp2_with fail
     go_roundw
     case rel=>exact ⟨_,cnt1,by rw[HST.out];congr 1;omega,HG1,HB4,by omega⟩
     case measure=>rw[HG1.out.left_eq,HG2.out.left_eq];exact hlt
end
section
open Arc (St Cmd)
open Hv (S VM)
theorem pline_files {f:S→S} {st st':St} {k:Int} {rest:List S} {M:Nat} (h:Arc.pline f st k rest=some st') (g:st.left.length≤M∧∀ q∈st.files,q.2.length≤M):st'.left.length≤M∧∀ q∈st'.files,q.2.length≤M:=by
 rw[Arc.pline.eq_def] at h
 split at h
 · split at h
   · split at h
     · cases h;exact g
     · cases h
   · split at h
     · cases h;exact g
     · cases h
   · cases h
 · split at h
   · split at h
     · split at h
       · cases h;exact g
       · cases h
     · cases h
   · split at h
     · split at h
       · split at h
         · cases h;exact g
         · cases h
       · cases h
     · split at h
       · split at h
         · split at h
           · cases h
             refine ⟨?_,snoc_all g.2 ?_⟩
             · show (List.drop _ _).length≤M
               rw[List.length_drop];have:=g.1;omega
             · show (List.take _ _).length≤M
               rw[List.length_take];have:=g.1;omega
           · cases h
         · cases h
       · split at h
         · split at h
           · cases h;exact g
           · cases h
         · split at h
           · split at h
             · cases h;exact g
             · cases h
           · cases h
theorem pbody_files {f:S→S} {M:Nat}:∀ (ls:List S) {st st':St} {last:Int},Arc.pbody f st last ls=some st'→(st.left.length≤M∧∀ q∈st.files,q.2.length≤M)→∀ q∈st'.files,q.2.length≤M
 | [],st,st',last,h,g=>by rw[Arc.pbody] at h;cases h;exact g.2
 | l::ls,st,st',last,h,g=>by
   rw[Arc.pbody] at h
   split at h
   · cases h
   · split at h
     · cases h
     next s1 h1=>exact pbody_files ls h (pline_files h1 g)
theorem cutTwo_len:∀ {x a b:S},cutTwo x=some (a,b)→b.length≤x.length
 | [],a,b,h=>by simp[cutTwo] at h
 | c::l,a,b,h=>by
   rw[cutTwo.eq_def] at h
   simp only at h
   split at h
   · cases h
     simp
     omega
   · split at h
     · cases h
     next u v hq =>
       cases h
       have:=cutTwo_len hq
       simp only[List.length_cons]
       omega
theorem parse_files {f:S→S} {x nm ve:S} {st:St} (h:Arc.parse f x=some (nm,ve,st)):x.length≤2000∧∀ q∈st.files,q.2.length≤2000:=by
 rw[Arc.parse.eq_def] at h
 split at h
 · cases h
 next hx =>
   refine ⟨by omega,?_⟩
   split at h
   · cases h
   next head contents hc =>
     have hl:=cutTwo_len hc
     split at h
     · split at h
       · cases h
       · split at h
         · split at h
           · cases h
           next s1 h1 =>
             split at h
             · cases h
               exact pbody_files _ h1 ⟨by show contents.length≤2000;omega,fun q hq=>by cases hq⟩
             · cases h
         · cases h
     · cases h
structure DFine (D:VM Hv.PD):Prop where
 named:Hv.Named D
 copies:FindC ∨ ∀ k d,Hv.get D k=some d→NoCopy d.st.runs∧NoCopy d.st.wokens
theorem DFine.nil:DFine []:=⟨Hv.Named.nil, .inr fun k d h=>by cases h⟩
theorem DFine.put {D:VM Hv.PD} (h:DFine D) (hs:Hv.Srt D) {k:S} {d:Hv.PD} (hk:d.nm=k) (hd:Hv.PDok d) (hc:FindC∨(NoCopy d.st.runs∧NoCopy d.st.wokens)):DFine (Hv.put D k d):=by
 refine ⟨h.named.put hs hk hd,?_⟩
 rcases hc with hc | hc
 · exact .inl hc
 · rcases h.copies with q | q
   · exact .inl q
   · refine .inr fun k' d' e => ?_
     by_cases ek:k'=k
     · subst ek;rw[Hv.get_put_same hs] at e;cases e;exact hc
     · rw[Hv.get_put_other hs _ ek] at e;exact q k' d' e
theorem DFine.del {D:VM Hv.PD} (h:DFine D) (hs:Hv.Srt D) (k:S):DFine (Hv.del D k):=by
 refine ⟨h.named.del hs k,h.copies.imp id fun q k' d' e => ?_⟩
 by_cases ek:k'=k
 · subst ek;rw[Hv.get_del_same] at e;cases e
 · rw[Hv.get_del_other hs ek] at e;exact q k' d' e
theorem DFine.at_ {D:VM Hv.PD} (h:DFine D) {k:S} {d:Hv.PD} (q:Hv.get D k=some d):d.nm=k∧Hv.PDok d∧(FindC∨(NoCopy d.st.runs∧NoCopy d.st.wokens)):=⟨(h.named k d q).1,(h.named k d q).2,h.copies.imp id fun f=>f k d q⟩
theorem DFine.step {pl:Hv.Plan} {m:Hv.Mac} (h:DFine m.1) (hi:DFine pl.ins) (hs:Hv.Srt m.1) (s:Hv.Step):DFine (Hv.stepD pl m s).1:=by
 unfold Hv.stepD
 split
 · exact h.del hs _
 · split
   · split
     next d hd =>
       obtain ⟨a,b,c⟩:=hi.at_ hd
       exact h.put hs a b c
     · exact h
   · split
     · exact h
     next d hd =>
       obtain ⟨a,b,c⟩:=h.at_ hd
       split
       · exact h.put hs a b c
       · split
         · exact h.put hs a b c
         · exact h
theorem DFine.bound {D:VM Hv.PD} (h:DFine D) (hs:Hv.Srt D):DBound 30000 D :=
 ⟨fun p hp f hf=>by
   have h1:=(h.named p.1 p.2 ((Hv.get_some hs).2 hp)).2
   have:=(parse_files h1).2 f hf
   omega,h.copies⟩
theorem step_len (pl:Hv.Plan) (m:Hv.Mac) (s:Hv.Step):(Hv.stepD pl m s).1.length≤m.1.length+1:=by
 unfold Hv.stepD
 split
 · exact Nat.le_succ_of_le (Hv.del_len _ _)
 · split
   · split
     · exact Hv.put_len _ _ _
     · exact Nat.le_succ _
   · split
     · exact Nat.le_succ _
     · split
       · exact Hv.put_len _ _ _
       · split
         · exact Hv.put_len _ _ _
         · exact Nat.le_succ _
theorem planD_wak {D:VM Hv.PD} {R:VM Value} {I:VM Hv.PD} (hD:Hv.Named D) (hI:Hv.Named I) (sD:Hv.Srt D) (sI:Hv.Srt I) (hR:R.length≤12) (hl:I.length≤12):WakFine 30000 (Hv.planD D R I).wak:=fun k xs q=>by
 have e:(Hv.planD D R I).wak=wakeD (Hv.toBeD D R I) (keysOf (changedQ D R I)):=rfl
 rw[e,wakeD_get (show Hv.Srt (Hv.toBeD D R I) from Hv.merge_srt I (Hv.cut D R) (Hv.cut_srt R D sD))] at q
 have h1:=changedQ_len hD hI sI R
 have h2:=changedQ_path hD hI sI R
 cases q2:Hv.get (Hv.toBeD D R I) k with
 | none=>rw[q2] at q;cases q
 | some d =>
   rw[q2] at q
   simp only at q
   split at q
   · cases q
   · cases q
     have h3:=wokenBy_len d (keysOf (changedQ D R I))
     have h4:∀ y∈wokenBy d (keysOf (changedQ D R I)),y.length≤24:=fun y hy=>h2 y (wokenBy_mem hy)
     refine ⟨by omega,fun y hy=>by have:=h4 y hy;omega,?_⟩
     have h5:=linesS_le (wokenBy d (keysOf (changedQ D R I))) 24 h4
     have h6:(wokenBy d (keysOf (changedQ D R I))).length≤756:=by omega
     have:(wokenBy d (keysOf (changedQ D R I))).length*(24+1)≤756*25:=Nat.mul_le_mul_right 25 h6
     omega
end
section
open Go.RowKit
open Arc (St Cmd)
open Hv (S Dk VM)
theorem PlanAt.far {B B':Nat} {C:Nat→Prop} {pl:Hv.Plan} {sv:Value} {im km:Nat} {w w':World} (h:PlanAt B pl sv im km w) (hf:Far B' C w w') (hB:w.heap.size≤B') (hC:∀ g,C g→∀ cs t fz,w.heap[g]? ≠ some (.cells cs t fz)) (him : ¬ C im) (hkm : ¬ C km):PlanAt B pl sv im km w':=by
 obtain ⟨I,i1,i2⟩:=h.ins
 obtain ⟨K,k1,k2⟩:=h.wak
 exact ⟨own_foreign h.row hf hB (fun g hg cs fz=>hC g hg cs _ fz),⟨I,i1.far hf hB him,i2.foreign hf hB (fun g hg i cs fz=>hC g hg cs _ fz)⟩,⟨K,k1.far hf hB hkm,k2.foreign hf hB (fun g hg cs fz=>hC g hg cs _ fz)⟩,h.ge⟩
structure OvIn (mb pm fm:Nat) (D:VM Hv.PD) (G:VM S) (N:Nat→Prop) (B0:Nat) (pl:Hv.Plan) (sv:Value) (im km:Nat) (w:World) (n:Nat) (P:VM Value) (wr:World):Prop where
 mac:MachAt mb pm fm P (Hv.fileM (Hv.runS pl (D,G) (pl.steps.take n)).2) wr
 pk:PkM N wr (Hv.runS pl (D,G) (pl.steps.take n)).1 P
 plan:PlanAt B0 pl sv im km wr
 len:(Hv.runS pl (D,G) (pl.steps.take n)).1.length≤D.length+n
 fit:(Hv.runS pl (D,G) (pl.steps.take n)).2.length≤16∧Hv.Short 200 (Hv.runS pl (D,G) (pl.steps.take n)).2
 fine:DFine (Hv.runS pl (D,G) (pl.steps.take n)).1
 left:Hv.overD pl (D,G) pl.steps=Hv.overD pl (Hv.runS pl (D,G) (pl.steps.take n)) (pl.steps.drop n)
 ge:w.heap.size≤mb∧w.heap.size≤pm∧w.heap.size≤fm
 bel:Below w.heap.size w wr
theorem take_run (pl:Hv.Plan) (m:Hv.Mac) {n:Nat} (h:n<pl.steps.length):Hv.runS pl m (pl.steps.take (n+1))=Hv.stepD pl (Hv.runS pl m (pl.steps.take n)) pl.steps[n]:=by
 rw[List.take_succ_eq_append_getElem h,Hv.runS_snoc]
theorem over_step (pl:Hv.Plan) (m:Hv.Mac) {n:Nat} (h:n<pl.steps.length):Hv.overD pl (Hv.runS pl m (pl.steps.take n)) (pl.steps.drop n)=(!Hv.fitsG (Hv.runS pl m (pl.steps.take (n+1))).2||Hv.overD pl (Hv.runS pl m (pl.steps.take (n+1))) (pl.steps.drop (n+1))):=by
 rw[List.drop_eq_getElem_cons h,take_run pl m h]
 rfl
theorem run_files {D:VM Hv.PD} {wk:List S} {L:Nat} (hD:Hv.FShort L D) (hw:(linesS wk).length≤L):∀ (cs:List Cmd) {G:VM S} {k:Nat},(∀ c∈cs,CmdGood c)→Hv.Srt G→Hv.Short (L+16*k) G→Hv.Short (L+16*(k+cs.length)) (Hv.runC D wk G cs)
 | [],G,k,_,_,h=>by simpa [Hv.runC] using h
 | c::cs,G,k,hc,hs,h=>by
   have hs1:=Hv.doC_srt D wk hs c
   have h1:Hv.Short (L+16*(k+1)) (Hv.doC D wk G c):=by
     have hcl:=(cmd_len (hc c (by simp))).2.1
     by_cases hv:c.verb=1∨c.verb=2
     · exact (Hv.doC_short (L:=L+16*k) (fun p hp f hf=>by have:=hD p hp f hf;omega) h hs (by omega) (hcl hv)).mono (by omega)
     · have e2:Hv.doC D wk G c=Hv.doC D wk G { c with word:=[] }:=by
         unfold Hv.doC
         rw[if_neg (fun q=>hv (.inl q)),if_neg (fun q=>hv (.inr q)),if_neg (fun q=>hv (.inl q)),if_neg (fun q=>hv (.inr q))]
       rw[e2]
       exact (Hv.doC_short (L:=L+16*k) (fun p hp f hf=>by have:=hD p hp f hf;omega) h hs (by omega) (by simp)).mono (by omega)
   have:=run_files hD hw cs (fun c' h'=>hc c' (by simp[h'])) hs1 h1
   have e:Hv.runC D wk G (c::cs)=Hv.runC D wk (Hv.doC D wk G c) cs:=rfl
   rw[e,List.length_cons]
   exact this.mono (by omega)
theorem step_short {pl:Hv.Plan} {m:Hv.Mac} {s:Hv.Step} (h:Hv.Short 200 m.2) (hf:DFine m.1) (hs:Hv.Srt m.1) (hg:Hv.Srt m.2) (hw:WakFine 30000 pl.wak):Hv.Short 100000 (Hv.stepD pl m s).2:=by
 have hb:=(hf.bound hs).files
 have h200:Hv.Short 100000 m.2:=h.mono (by omega)
 have h3:Hv.Short (30000+16*0) m.2:=h.mono (by omega)
 unfold Hv.stepD
 split
 · exact h200
 · split
   · split<;>exact h200
   · split
     · exact h200
     next d hd =>
       have hp:=(hf.at_ hd).2.1
       have hgd:=(parse_good hp).2.2
       have hft:=(parse_fits hp).2.2.1
       split
       · exact (run_files hb (by simp[linesS]) d.st.runs (fun c hc=>(hgd.runs c hc).1) hg h3).mono (by have:=hft.2.2.2.2.1;omega)
       · split
         · refine (run_files hb ?_ d.st.wokens (fun c hc=>hgd.wokens c hc) hg h3).mono (by have:=hft.2.2.2.2.2;omega)
           cases q:Hv.get pl.wak s.2 with
           | none=>simp[linesS]
           | some xs=>exact (hw _ xs q).2.2
         · exact h200
theorem run_short {pl:Hv.Plan} {D:VM Hv.PD} {G:VM S} {n mb pm fm:Nat} {P:VM Value} {wr:World} (h:Hv.Short 200 (Hv.runS pl (D,G) (pl.steps.take n)).2) (hf:DFine (Hv.runS pl (D,G) (pl.steps.take n)).1) (hs:Hv.Srt (Hv.runS pl (D,G) (pl.steps.take n)).1) (hm:MachAt mb pm fm P (Hv.fileM (Hv.runS pl (D,G) (pl.steps.take n)).2) wr) (_hok:Hv.RunOk pl (D,G) pl.steps) (hn:n<pl.steps.length) (e:Hv.runS pl (D,G) (pl.steps.take (n+1))=Hv.stepD pl (Hv.runS pl (D,G) (pl.steps.take n)) pl.steps[n]) (hw:WakFine 30000 pl.wak):Hv.Short 100000 (Hv.runS pl (D,G) (pl.steps.take (n+1))).2:=by
 rw[e]
 have hg:=Hv.srt_of_fileM hm.files.1
 obtain ⟨m,hm⟩:∃ m,Hv.runS pl (D,G) (pl.steps.take n)=m:=⟨_,rfl⟩
 rw[hm] at h hf hs hg ⊢
 exact step_short h hf hs hg hw
theorem over_any (mb pm fm:Nat) (P:VM Value) (D:VM Hv.PD) (G:VM S) (N:Nat→Prop) (B0:Nat) (pl:Hv.Plan) (sv:Value) (im km:Nat) (hok:Hv.RunOk pl (D,G) pl.steps) (hks:∀ s∈pl.steps,s.2.length≤12) (hst:pl.steps.length≤200) (hDl:D.length≤12) (hDF:DFine D) (hIF:DFine pl.ins) (hG:G.length≤16) (hS:Hv.Short 200 G) (hWF:WakFine 30000 pl.wak) (w:World) (h:MachAt mb pm fm P (Hv.fileM G) w) (hP:PkM N w D P) (hpl:PlanAt B0 pl sv im km w) :
   Calls Tryz.prog 68 #[.pointer (some ⟨mb,0,none⟩), .agg #[sv, .map (some im), .map (some km)]] w fun e w'=>e = .returned (.bool (Hv.overD pl (D,G) pl.steps))∧Below w.heap.size w w':=by
 have hsl:=hpl.row
 obtain ⟨sa,sc,rfl⟩:=slice_form hsl
 have HM:=hide h;have HPP:=hide hP;have HPL:=hide hpl;have HOK:=hide hok;have HKS:=hide hks;have HDF:=hide hDF;have HIF:=hide hIF;have HS:=hide hS;have HWF:=hide hWF
 have hil:im<w.heap.size:=by obtain ⟨I,i1,_⟩:=hpl.ins;exact i1.lt
 have hkl:km<w.heap.size:=by obtain ⟨K,k1,_⟩:=hpl.wak;exact k1.lt
 have HGS:=hide (Hv.srt_of_fileM h.files.1)
 obtain ⟨ns,hns⟩:∃ ns,pl.steps.length=ns:=⟨_,rfl⟩
 have HNS:=hide hns
 rw[hns] at hst ⊢
 have hb0:=(Below.refl w.heap.size w).alloc (Nat.le_refl _) (.cells #[.slice sa ns sc, .map (some im), .map (some km)] 89)
 have hrow:=heap_alloc_new w (.cells #[.slice sa ns sc, .map (some im), .map (some km)] 89)
 have hus:(w.alloc (.cells #[.slice sa ns sc, .map (some im), .map (some km)] 89)).heap.size=w.heap.size+1:=by simp
 have HM1:=hide (h.below hb0);have HP1:=hide (hP.below hb0);have HPL1:=hide (hpl.below hb0)
 have HB0:=hide hb0
 obtain ⟨u,hu⟩:∃ u,w.alloc (.cells #[.slice sa ns sc, .map (some im), .map (some km)] 89)=u:=⟨_,rfl⟩
 rw[hu] at hrow hus HM1 HP1 HPL1 HB0
 clear h hP hpl hok hks hDF hIF hS hWF hsl hns hb0 HM HPP HPL
 go_enter Tryz.func68,Tryz.ntmps68
 go_wp2_with fail
 clear hu
 have HROW:=hide hrow
 clear hrow
 refine (clone_mach mb pm fm P (Hv.fileM G) u HM1.out).mono ?_
 rintro e w1 ⟨mb',pm',fm',rfl,hm1,g1,g2,g3,hb1⟩
 have HI0:Hid (OvIn mb' pm' fm' D G (fun g=>N g∨B0≤g) B0 pl (.slice sa ns sc) im km u 0 P w1):=hide ⟨hm1,(HP1.out.below hb1).weak (fun g hg => .inl hg),by have:=HPL1.out.below hb1;rwa [HNS.out] at this,by simp[Hv.runS],⟨hG,HS.out⟩,HDF.out,by simp[Hv.runS],⟨g1,g2,g3⟩,hb1⟩
 have r1:=(hb1.block w.heap.size (by omega)).trans HROW.out
 have a0:=(row_cell r1 0).trans (show _=some (.slice sa ns sc) from rfl)
 have a1:=(row_cell r1 1).trans (show _=some (.map (some im)) from rfl)
 have a2:=(row_cell r1 2).trans (show _=some (.map (some km)) from rfl)
 have hs1:=hb1.size
 clear hm1 hb1 r1
 go_wp2_with fail
 refine (planLen_any sa ns sc im km w1).mono ?_
 rintro e w2 ⟨rfl,hb2⟩
 have HI2:Hid (OvIn mb' pm' fm' D G (fun g=>N g∨B0≤g) B0 pl (.slice sa ns sc) im km u 0 P w2):=hide ⟨HI0.out.mac.below hb2,HI0.out.pk.below hb2,HI0.out.plan.below hb2,HI0.out.len,HI0.out.fit,HI0.out.fine,HI0.out.left,HI0.out.ge,HI0.out.bel.trans (hb2.mono HI0.out.bel.size)⟩
 clear hb2 HI0 a0 a1 a2
 go_wp2_with fail
 have hIL2:=HI2.out.ge
 go_loopw [13] (fun i wr=>∃ (n:Nat) (P':VM Value),n≤ns∧i = .int .i64 (n:Int)∧Hid (OvIn mb' pm' fm' D G (fun g=>N g∨B0≤g) B0 pl (.slice sa ns sc) im km u n P' wr)) (fun i _=>ns-(intOf i).toNat)
 case atStart=>exact ⟨0,P,Nat.zero_le _,rfl,HI2⟩
 case round =>
   clear HI2
   obtain ⟨n,P',hn,rfl,HI⟩:=hrel
   by_cases hlt:n<ns
   · have b1:(n:Int)<(ns:Int):=by omega
     have hnl:n<pl.steps.length:=by have:=HNS.out;omega
     have hbs:=HI.out.bel.size
     have r1:=(HI.out.bel.block w.heap.size (by omega)).trans HROW.out
     have a0:=(row_cell r1 0).trans (show _=some (.slice sa ns sc) from rfl)
     have a1:=(row_cell r1 1).trans (show _=some (.map (some im)) from rfl)
     have a2:=(row_cell r1 2).trans (show _=some (.map (some km)) from rfl)
     have hP':P'.length≤1000:=by have e:=HI.out.pk.len HI.out.mac.packs.1;have:=HI.out.len;omega
     have hsrt:=HI.out.pk.srt
     have HPD:=hide (pdo_any mb' pm' fm' P' (Hv.runS pl (D,G) (pl.steps.take n)).1 (Hv.runS pl (D,G) (pl.steps.take n)).2 (fun g=>N g∨B0≤g) B0 pl (.slice sa ns sc) im km n hnl (HOK.out.at_ hnl) (by have:=HKS.out _ (List.getElem_mem hnl);unfold maxLen;omega) hP' (by have:=HI.out.fit.1;omega) 30000 (by omega) (HI.out.fit.2.mono (by omega)) (HI.out.fine.bound hsrt) HWF.out wr HI.out.mac HI.out.pk HI.out.plan (fun g hg _ => .inr hg) (by omega))
     have hTR:=hide (take_run pl (D,G) hnl)
     clear r1
     go_wp2_with fail
     refine HPD.out.mono ?_
     rintro e w3 ⟨u3,P3,rfl,hm3,hp3,hf3⟩
     have HI3a:Hid (MachAt mb' pm' fm' P3 (Hv.fileM (Hv.runS pl (D,G) (pl.steps.take (n+1))).2) w3):=hide (by rw[hTR.out];exact hm3)
     have HI3b:Hid (PkM (fun g=>N g∨B0≤g) w3 (Hv.runS pl (D,G) (pl.steps.take (n+1))).1 P3):=hide (by rw[hTR.out];exact hp3)
     have HI3c:Hid (PlanAt B0 pl (.slice sa ns sc) im km w3):=hide (HI.out.plan.far hf3 (Nat.le_refl _) (fun g hg=>by
       rcases hg with rfl | rfl
       · exact HI.out.mac.packs.no_row
       · exact HI.out.mac.files.no_row) (fun e=>by omega) (fun e=>by omega))
     have HI3d:=hide (HI.out.bel.trans (hf3.toBelow hbs (fun q hq e=>by omega)))
     have HSH:=hide (run_short HI.out.fit.2 HI.out.fine hsrt HI.out.mac HOK.out hnl hTR.out HWF.out)
     have hs3:=hf3.size
     clear hm3 hp3 hf3 a0 a1 a2
     go_wp2_with fail
     refine (varUse_any mb' pm' fm' P3 _ 100000 HSH.out w3 HI3a.out).mono ?_
     rintro e w4 ⟨rfl,hb4⟩
     have HFT:=hide (Hv.fitsG_max (Hv.runS pl (D,G) (pl.steps.take (n+1))).2)
     have HOS:=hide (over_step pl (D,G) hnl)
     have HLF:=hide HI.out.left
     have HFS:=hide (Hv.fitsG_short (G:=(Hv.runS pl (D,G) (pl.steps.take (n+1))).2) (Hv.srt_of_fileM HI3a.out.files.1))
     obtain ⟨cnt,hcnt⟩:∃ cnt,(Hv.runS pl (D,G) (pl.steps.take (n+1))).2.length=cnt:=⟨_,rfl⟩
     obtain ⟨lng,hlng⟩:∃ lng,Hv.maxL (Hv.runS pl (D,G) (pl.steps.take (n+1))).2 (fun _=>false)=lng:=⟨_,rfl⟩
     rw[hcnt,hlng] at HFT
     rw[hcnt,hlng]
     have HI4d:=hide (HI3d.out.trans (hb4.mono (by omega)))
     clear hcnt hlng
     have HBB:=hide (HB0.out.trans (HI4d.out.mono (by omega)))
     by_cases hc:cnt≤16
     · have q1 : ¬ (16:Int)<(cnt:Int):=by omega
       by_cases hl:lng≤200
       · have q2 : ¬ (200:Int)<(lng:Int):=by omega
         have HFTT:Hid (Hv.fitsG (Hv.runS pl (D,G) (pl.steps.take (n+1))).2=true):=hide (by rw[HFT.out];simp;omega)
         have HI4:Hid (OvIn mb' pm' fm' D G (fun g=>N g∨B0≤g) B0 pl (.slice sa ns sc) im km u (n+1) P3 w4):=hide ⟨HI3a.out.below hb4,HI3b.out.below hb4,HI3c.out.below hb4,by have h1:=HI.out.len;have h2:=step_len pl (Hv.runS pl (D,G) (pl.steps.take n)) pl.steps[n];rw[hTR.out];omega,HFS.out HFTT.out,by rw[hTR.out];exact HI.out.fine.step HIF.out hsrt _,by rw[HLF.out,HOS.out,HFTT.out];rfl,HI.out.ge,HI4d.out⟩
         clear hb4 HPD hsrt HI3a HI3b HI3c
         go_wp2_with fail
         go_roundw
         case rel=>exact ⟨n+1,P3,by omega,by go_num,HI4⟩
         case measure=>simp[intOf];omega
       · have q2:(200:Int)<(lng:Int):=by omega
         have HE:Hid (Hv.overD pl (D,G) pl.steps=true):=hide (by rw[HLF.out,HOS.out,HFT.out];simp;omega)
         clear hb4 HPD hsrt
         go_wp2_with fail
         go_ret
         exact ⟨by rw[HE.out];rfl,HBB.out⟩
     · have q1:(16:Int)<(cnt:Int):=by omega
       have HE:Hid (Hv.overD pl (D,G) pl.steps=true):=hide (by rw[HLF.out,HOS.out,HFT.out];simp;omega)
       clear hb4 HPD hsrt
       go_wp2_with fail
       go_ret
       exact ⟨by rw[HE.out];rfl,HBB.out⟩
   · obtain rfl:n=ns:=by omega
     have b1 : ¬ (n:Int)<(n:Int):=by omega
     have HE:Hid (Hv.overD pl (D,G) pl.steps=false):=hide (by rw[HI.out.left,List.drop_of_length_le (by have:=HNS.out;omega)];rfl)
     have HBB:=hide (HB0.out.trans (HI.out.bel.mono (by omega)))
     go_wp2_with fail
     go_ret
     exact ⟨by rw[HE.out];rfl,HBB.out⟩
end
section
open Arc (St Cmd)
open Hv (S VM)
namespace Hv
noncomputable def check (n:Int) (D:VM PD) (G:VM S) (xs:List S):Except Int Plan :=
 match wish xs with
 | .error k => .error k
 | .ok s=>if refuseI D s.R s.I≠0 then .error (refuseI D s.R s.I) else
     if overD (planD D s.R s.I) (D,G) (planD D s.R s.I).steps=true then .error 15 else
       if smallB n D xs=true then .error 14 else .ok (planD D s.R s.I)
theorem itemOf_ins {x t nm ve:S} {st:St} (h:itemOf x=some (.ins t nm ve st)):Arc.parse (short kTab) t=some (nm,ve,st)∧x.length=t.length+1:=by
 unfold itemOf at h
 split at h
 · cases h
 · split at h
   · split at h<;>cases h
   · split at h
     · split at h
       · cases h
       · next c l _ _ _ =>
         cases hp:Arc.parse (short kTab) l with
         | none=>rw[hp] at h;cases h
         | some a =>
           rw[hp] at h
           cases h
           exact ⟨hp,rfl⟩
     · cases h
theorem wfold_good:∀ (xs:List S) {s s':WS},wfold xs s=some s'→(Named s.I∧Srt s.I)→Named s'.I∧Srt s'.I∧sumT s'.I≤sumT s.I+(xs.map List.length).sum
 | [],s,s',h,g=>by rw[wfold] at h;cases h;exact ⟨g.1,g.2,by simp⟩
 | x::xs,s,s',h,g=>by
   rw[wfold] at h
   split at h
   · cases h
   next i hi =>
     have key:(Named (wstep s i).I∧Srt (wstep s i).I)∧sumT (wstep s i).I≤sumT s.I+x.length:=by
       cases i with
       | inl nm=>exact ⟨g,Nat.le_add_right _ _⟩
       | inr it=>
         obtain ⟨t,nm,ve,st⟩:=it
         have hp:=itemOf_ins hi
         refine ⟨⟨g.1.put g.2 rfl hp.1,g.2.put _ _⟩,?_⟩
         have:=sumT_put s.I nm ⟨t,nm,ve,st,1⟩
         simp only[wstep] at this ⊢
         omega
     obtain ⟨a,b,c⟩:=wfold_good xs h key.1
     refine ⟨a,b,?_⟩
     simp only[List.map_cons,List.sum_cons]
     omega
theorem wish_good {xs:List S} {s:WS} (h:wish xs = .ok s):Named s.I∧Srt s.I∧sumT s.I≤(xs.map List.length).sum∧1≤xs.length∧xs.length≤6:=by
 unfold wish at h
 split at h
 · cases h
 next hx =>
   split at h
   · cases h
   next s1 h1 =>
     split at h
     · cases h
     · cases h
       obtain ⟨a,b,c⟩:=wfold_good xs h1 ⟨Named.nil,List.Pairwise.nil⟩
       have:sumT ([]:VM PD)=0:=rfl
       exact ⟨a,b,by rw[this] at c;omega,by omega,by omega⟩
theorem planD_names {D:VM PD} {R:VM Value} {I:VM PD} (hD:Named D) (hI:Named I) (sD:Srt D) (sI:Srt I):∀ s∈(planD D R I).steps,s.2.length≤12:=fun s hs=>by
 have e:(planD D R I).steps=(order freeB (leaveD D R)).map (fun x=>(1,x))++(order freeA I).map (fun x=>(2,x))++(order freeA I).map (fun x=>(3,x))++(keysOf (wakeD (toBeD D R I) (keysOf (changedQ D R I)))).map (fun x=>(4,x)):=rfl
 rw[e] at hs
 simp only[List.mem_append,List.mem_map] at hs
 rcases hs with ((⟨x,hx,rfl⟩ | ⟨x,hx,rfl⟩) | ⟨x,hx,rfl⟩) | ⟨x,hx,rfl⟩
 · have h:=(order_mem freeB (leaveD_srt sD R) x).1 hx
   rw[has_get,leaveD_get sD] at h
   split at h
   · exact hD.len (by rw[has_get];exact h)
   · cases h
 · exact hI.len ((order_mem freeA sI x).1 hx)
 · exact hI.len ((order_mem freeA sI x).1 hx)
 · have h:=wakeD_has (merge_srt I (cut D R) (cut_srt R D sD)) _ (mem_keys hx)
   rcases (toBeD_has sD R sI x).1 h with h | h
   · exact hI.len h
   · exact hD.len h.1
theorem planD_len (D:VM PD) (R:VM Value) (I:VM PD):(planD D R I).steps.length≤2*D.length+3*I.length:=by
 have e:(planD D R I).steps=(order freeB (leaveD D R)).map (fun x=>(1,x))++(order freeA I).map (fun x=>(2,x))++(order freeA I).map (fun x=>(3,x))++(keysOf (wakeD (toBeD D R I) (keysOf (changedQ D R I)))).map (fun x=>(4,x)):=rfl
 rw[e]
 simp only[List.length_append,List.length_map,order_len,keysOf]
 have h1:(leaveD D R).length≤D.length:=List.length_filter_le _ _
 have h2:=wakeD_len (toBeD D R I) (keysOf (changedQ D R I))
 have h3:(toBeD D R I).length≤D.length+I.length:=by
   have h1:=merge_len I (cut D R)
   have h2:=cut_len R D
   unfold toBeD
   omega
 simp only[keysOf] at h2
 omega
end Hv
end
end Go.Proofs.YtialenebfcnkkaaGreatDoor
