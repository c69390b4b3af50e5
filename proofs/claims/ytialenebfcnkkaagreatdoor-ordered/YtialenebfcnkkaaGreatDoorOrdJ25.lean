/- DoW3, VarMath, VarW1, FineMath, RulW10, CheckMath -/
import Derived.Test.YtialenebfcnkkaaGreatDoorOrdJ24
import Derived.Test.YtialenebfcnkkaaGreatDoorOrdJ22
set_option maxHeartbeats 4000000
set_option maxRecDepth 100000
namespace Go.Proofs.YtialenebfcnkkaaGreatDoor
section
open Go.RowKit
open aH (St gH)
open Hv (S Dk VM)
theorem yZ (mb pm fm:Nat) (P K:VM Value) (D:VM Hv.PD) (G:VM S) (N:Nat→Prop) (g:Nat) (n:Nat) (nn c im km:Nat) (hn:n<nn) (x:S) (hx:x.length≤maxLen) (sF:P.length≤1000) (hG:G.length≤1000) (L:Nat) (hL:L≤1000000) (hS:Hv.Short L G) (hDB:oD L D) (d:Hv.PD) (hd:Hv.get D x=some d) (w:World) (h:aK mb pm fm P (Hv.aS G) w) (hP:dA N w D P) (KD:VM (List S)) (NK:Nat→Prop) (hk:MapAt w km K) (hK:kL NK w KD K) (wk:List S) (hwk:(Hv.get KD x).getD []=wk) (hwn:wk.length≤1000) (hwx:∀ y∈wk,y.length≤100) (hwl:(bJ wk).length≤L) (q1:w.cell? ⟨g,n*2,none⟩=some (.int .i64 4)) (q2:w.cell? ⟨g,n*2+1,none⟩=some (.string ⟨x.toArray⟩)) :
   Calls Tryz.prog 132 #[.agg #[.slice (some ⟨g,0,none⟩) nn c, .map (some im), .map (some km)], .int .i64 n, .pointer (some ⟨mb,0,none⟩)] w (wR mb pm fm (Hv.put D x (d.to 2),Hv.fJ D wk G d.st.aL) N w):=by
 have hb0:=(Below.refl w.heap.size w).alloc (Nat.le_refl _) (.cells #[.slice (some ⟨g,0,none⟩) nn c, .map (some im), .map (some km)] 89)
 have dF:=hide (h.below hb0)
 have DL:=hide (hP.below hb0)
 have HK0:=hide (hk.below hb0)
 obtain ⟨ka,kc,hke,hkr, -⟩:=(hK.below hb0).at_ x
 rw[hwk] at hke hkr
 have HKE:=hide hke
 have hk0:=HK0.out
 have VU:=hide hwx
 obtain ⟨v,hv,hr⟩:=(hP.below hb0).wZ x d hd
 obtain ⟨p,rfl, -, -, -, -,hpk, -⟩:=hr
 have HV:=hide hv
 have hgl:g<w.heap.size:=World.block_lt_of_cell? w _ q1
 have d1:=(hb0.cell (p:=⟨g,n*2,none⟩) hgl).trans q1
 have d2:=(hb0.cell (p:=⟨g,n*2+1,none⟩) hgl).trans q2
 have hml:=blt h.blk
 have hb1:(n:Int)<(nn:Int):=by omega
 have hrow:=heap_alloc_new w (.cells #[.slice (some ⟨g,0,none⟩) nn c, .map (some im), .map (some km)] 89)
 have iV:=hide ((aQ.refl w.heap.size (fun q=>q=pm∨q=fm) w).alloc (Nat.le_refl _) (.cells #[.slice (some ⟨g,0,none⟩) nn c, .map (some im), .map (some km)] 89))
 have m0:=(ah dF.out.blk 0).trans (show _=some (.map (some pm)) from rfl)
 have nX:(w.alloc (.cells #[.slice (some ⟨g,0,none⟩) nn c, .map (some im), .map (some km)] 89)).heap.size=w.heap.size+1:=by simp
 have hpm:=dF.out.packs
 have hPm:P.length<maxLen:=by unfold maxLen;omega
 have hgood:=(bW hpk.parse).2.2
 have hfit:=(bV hpk.parse).2.2.1
 have hro:=hpk.rows 5
 have hf1:=qZ p
 have hf2:=Fz p
 have Rn:=hide (fun w' (hm:aK mb pm fm P (Hv.aS G) w') (hp:dA N w' D P) (hr:w'.ownsRow 0 317 4 p.aL.val d.st.aL.length (d.st.aL.flatMap rT)) (hrd:Reads w' (.slice ka wk.length kc) wk)=>Ns mb pm fm P D N G d.st.aL (fun c hc=>hgood.aL c hc) (hDB.copies.symm.imp (fun h=>(h x d hd).2) id) (by have:=hfit.2.2.2.2.2;omega) sF hG L hL hDB.files hS p.aL.val (.slice ka wk.length kc) wk hwn VU.out hwl w' hm hp hrd hr)
 have NZ:=hide (show (w.alloc (.cells #[.slice (some ⟨g,0,none⟩) nn c, .map (some im), .map (some km)] 89)).ownsRow 0 317 4 p.aL.val d.st.aL.length (d.st.aL.flatMap rT) from hro)
 have HRD:=hide (TR hkr)
 clear h hP hb0 q1 q2 hv hpk hk hgood hfit hro hDB hS hK hwk hke hkr hwx
 simp only[Pk.val,Pk.cells,Pk.arc,Sl.val] at hf1 hf2 Rn
 go_enter Tryz.func132,Tryz.ntmps132
 go_wp2_with fail
 obtain ⟨u,hu⟩:∃ u,w.alloc (.cells #[.slice (some ⟨g,0,none⟩) nn c, .map (some im), .map (some km)] 89)=u:=⟨_,rfl⟩
 rw[hu] at dF DL iV HK0 NZ HRD nX hrow hk0 hpm m0 ⊢
 clear hu
 have hlk:=hpm.drew.look Tryz.underlying86 (bU _) x hx
 rw[HV.out] at hlk
 simp only[Option.getD_some,Pk.val,Pk.cells] at hlk
 have hlk2:=hk0.drew.look Tryz.underlying87 (rO _) x hx
 rw[HKE.out] at hlk2
 obtain ⟨B,hB⟩:∃ B,w.heap.size=B:=⟨_,rfl⟩
 have pV:=hide hB
 rw[hB] at hrow nX ⊢
 have uY:=hide hrow
 have c2:=(ah hrow 2).trans (show _=some (.map (some km)) from rfl)
 have HMD:=hide (show aK mb pm fm P (Hv.aS G) u.drew from ⟨dF.out.blk,dF.out.packs.drew,dF.out.files.drew,dF.out.apart⟩)
 have Vs:=hide (DL.out.below ((Below.refl _ u).drew))
 have HFD:=hide iV.out.drew
 have hsd:w.heap.size≤u.heap.size:=iV.out.size
 clear hrow hB hk0 hpm d1 d2
 go_region_held3 (fun w'=>w'.cell? ⟨mb,0,none⟩=some (.map (some pm))∧w'.cell? ⟨B,2,none⟩=some (.map (some km)))
   (first | assumption | exact ⟨m0,c2⟩ | exact ⟨m2,e2⟩ | simp[go_sem, *])
   (first
     | (go_at_call 187;refine (Rn.out _ HMD.out Vs.out (show World.ownsRow u.drew _ _ _ _ _ _ from NZ.out) (show Reads u.drew _ _ from HRD.out)).mono ?_;rintro e w2 ⟨u2,rfl,hm2,zC⟩;have wK:=hide hm2;have hnf:=HMD.out.files.fG;have mP:=hide (Vs.out.turned hnf zC (Nat.le_refl _));have iU:=hide (HFD.out.next zC hsd (fun _ _ q => .inr q));have m2:=(ah hm2.blk 0).trans (show _=some (.map (some pm)) from rfl);have e2:=(ah ((zC.block B (blt (w:=u) uY.out) (fun e=>hnf _ _ _ (by rw[← e];exact uY.out))).trans uY.out) 2).trans (show _=some (.map (some km)) from rfl);have hs2:u.heap.size≤w2.heap.size:=zC.size;clear hm2 zC hnf))
 all_goals
   clear hlk hlk2
   go_wp2_with fail
   refine (nO mb pm fm P _ x hx p HV.out 2 hPm w2 wK.out).mono ?_
   rintro e w4 ⟨u4,rfl,QW,lF⟩
   have uV:=hide QW
   have zA:=hide ((mP.out.Cv wK.out.packs.1 HV.out hd 2).turned wK.out.packs.fG lF (Nat.le_refl _))
   have sS:=hide (iU.out.next lF (by omega) (fun _ _ q => .inl q))
   clear QW lF
   go_wp2_with fail
   go_end0
   exact ⟨_,_,rfl,uV.out,zA.out,sS.out⟩
theorem dA.within {N N':Nat→Prop} {w:World} {D:VM Hv.PD} {E:VM Value} (h:dA N w D E) (hn:∀ g,N g→g<w.heap.size→N' g):dA N' w D E:=by
 have hr:∀ d v,vg N w d v→vg N' w d v:=by
   rintro d v ⟨p,h1,h2,h3,h4,h5,h6,h7⟩
   exact ⟨p,h1,h2,h3,h4,h5,h6,fun i g hg=>hn g (h7 i g hg) ((h6.rows i).lt g hg).2⟩
 exact ⟨h.dU,fun k v q=>(h.nD k v q).imp fun _ a=>⟨a.1,hr _ _ a.2⟩,fun k v q=>(h.wZ k v q).imp fun _ a=>⟨a.1,hr _ _ a.2⟩⟩
def jF (L:Nat) (KD:VM (List S)):Prop:=∀ k xs,Hv.get KD k=some xs→xs.length≤1000∧(∀ y∈xs,y.length≤100)∧(bJ xs).length≤L
theorem Xf (mb pm fm:Nat) (P:VM Value) (D:VM Hv.PD) (G:VM S) (N:Nat→Prop) (B0:Nat) (pl:Hv.Plan) (sv:Value) (im km:Nat) (n:Nat) (hn:n<pl.steps.length) (hok:Hv.tq pl D pl.steps[n]) (hks:pl.steps[n].2.length≤maxLen) (sF:P.length≤1000) (hG:G.length≤1000) (L:Nat) (hL:L≤1000000) (hS:Hv.Short L G) (hDB:oD L D) (K6:jF L pl.cO) (w:World) (h:aK mb pm fm P (Hv.aS G) w) (hP:dA N w D P) (hpl:gB B0 pl sv im km w) (hN:∀ g,B0≤g→g<w.heap.size→N g) (hkm : ¬ km=fm) :
   Calls Tryz.prog 132 #[.agg #[sv, .map (some im), .map (some km)], .int .i64 n, .pointer (some ⟨mb,0,none⟩)] w (wR mb pm fm (Hv.aG pl (D,G) pl.steps[n]) N w):=by
 obtain ⟨g,c,rfl,hg,q1,q2⟩:=JL hpl.row hn
 obtain ⟨I,i1,i2⟩:=hpl.ins
 obtain ⟨K,k1,k2⟩:=hpl.cO
 obtain ⟨⟨k,x⟩,hs⟩:∃ s,pl.steps[n]=s:=⟨_,rfl⟩
 rw[hs] at q1 q2 hok hks ⊢
 simp only at q1 q2 hks
 rcases hok with e | ⟨e,hi⟩ | ⟨e,hd⟩
 · simp only at e
   subst e
   exact Je mb pm fm P D G N g n _ c im km hn x hks w h hP q1 q2
 · simp only at e hi
   subst e
   rw[Hv.aB] at hi
   obtain ⟨d,hd⟩:=Option.isSome_iff_exists.1 hi
   have e2:Hv.aG pl (D,G) (2,x)=(Hv.put D x d,G):=by simp[Hv.aG,hd]
   rw[e2]
   exact Ca mb pm fm P I D pl.ins G N g n _ c im km hn x hks sF d hd w h hP i1 (i2.within hN) q1 q2
 · simp only at e hd
   rw[Hv.aB] at hd
   obtain ⟨d,hd⟩:=Option.isSome_iff_exists.1 hd
   rcases e with e | e
   · subst e
     have e2:Hv.aG pl (D,G) (3,x)=(Hv.put D x (d.to (if Hv.has K x=true then 3 else 2)),Hv.fJ D [] G d.st.runs):=by simp[Hv.aG,hd,k2.has_eq]
     rw[e2]
     exact sH mb pm fm P K D G N g n _ c im km hn x hks sF hG L hL hS hDB d hd w h hP k1 k2.Y8 hkm _ rfl q1 q2
   · subst e
     have e2:Hv.aG pl (D,G) (4,x)=(Hv.put D x (d.to 2),Hv.fJ D ((Hv.get pl.cO x).getD []) G d.st.aL):=by simp[Hv.aG,hd]
     rw[e2]
     have hb:((Hv.get pl.cO x).getD []).length≤1000∧(∀ y∈(Hv.get pl.cO x).getD [],y.length≤100)∧(bJ ((Hv.get pl.cO x).getD [])).length≤L:=by
       cases q:Hv.get pl.cO x with
       | none=>exact ⟨by simp,by simp,by simp[bJ]⟩
       | some xs=>exact K6 x xs q
     exact yZ mb pm fm P K D G N g n _ c im km hn x hks sF hG L hL hS hDB d hd w h hP pl.cO _ k1 k2 _ rfl hb.1 hb.2.1 hb.2.2 q1 q2
end
section
open Hv (S VM)
namespace Hv
def mQ (G:VM S) (left:S→Bool):Nat:=(G.map fun p=>if left p.1=true then 0 else p.2.length).foldr max 0
theorem Ej:∀ (G:VM S) (left:S→Bool),(∀ k,has G k=true→left k=true)→mQ G left=0
 | [],_,_=>rfl
 | p::G,left,h=>by
   have h1:=h p.1 (by simp[has])
   have h2:=Ej G left (fun k hk=>h k (by simp only[has,List.any_cons] at hk ⊢;rw[hk];simp))
   simp only[mQ,List.map_cons,List.foldr_cons,h1,if_true] at h2 ⊢
   omega
theorem El:∀ (G:VM S) (left left':S→Bool),(∀ p∈G,left p.1=left' p.1)→mQ G left=mQ G left'
 | [],_,_,_=>rfl
 | p::G,left,left',h=>by
   have h2:=El G left left' (fun q hq=>h q (by simp[hq]))
   have h1:=h p (by simp)
   simp only[mQ,List.map_cons,List.foldr_cons,h1] at h2 ⊢
   rw[h2]
theorem Em:∀ (G:VM S) (left:S→Bool) (k x:S),aM G→(k,x)∈G→left k=true→mQ G (fun z=>left z && !(z==k))=max (mQ G left) x.length
 | [],_,_,_,_,h,_=>by cases h
 | p::G,left,k,x,hs,h,hl=>by
   obtain ⟨g1,g2⟩:=List.pairwise_cons.1 hs
   rcases List.mem_cons.1 h with h | h
   · subst h
     have h2:=El G (fun z=>left z && !(z==k)) left (fun q hq=>by
       have : ¬ q.1=k:=fun e=>by have:=g1 q hq;rw[e,dL] at this;cases this
       simp[this])
     simp only[mQ,List.map_cons,List.foldr_cons,hl,beq_self_eq_true,Bool.not_true,Bool.and_false,Bool.false_eq_true,if_false,if_true] at h2 ⊢
     omega
   · have h2:=Em G left k x g2 h hl
     have : ¬ p.1=k:=fun e=>by have:=g1 _ h;rw[e,dL] at this;cases this
     have e:(left p.1 && !(p.1==k))=left p.1:=by simp[this]
     simp only[mQ,List.map_cons,List.foldr_cons,e] at h2 ⊢
     rw[h2]
     omega
theorem WO (G:VM S) (n:Nat):mQ G (fun _=>false)≤n ↔ ∀ p∈G,p.2.length≤n:=by
 induction G with
 | nil=>simp[mQ]
 | cons p G ih =>
   simp only[mQ,List.map_cons,List.foldr_cons,Bool.false_eq_true,if_false,List.mem_cons,forall_eq_or_imp] at ih ⊢
   rw[← ih]
   omega
theorem LC {L:Nat} {G:VM S} (h:Short L G) (hs:aM G) (left:S→Bool):mQ G left≤L:=by
 have key:∀ (E:VM S),(∀ p∈E,p.2.length≤L)→mQ E left≤L:=by
   intro E
   induction E with
   | nil=>intro _;simp[mQ]
   | cons p E ih =>
     intro h
     have h1:=ih (fun q hq=>h q (by simp[hq]))
     have h2:=h p (by simp)
     simp only[mQ,List.map_cons,List.foldr_cons] at h1 ⊢
     split<;>omega
 exact key G (fun p hp=>h p.1 p.2 ((get_some hs).2 hp))
theorem OX (G:VM S):iR G=(decide (G.length≤16)&&decide (mQ G (fun _=>false)≤200)):=by
 unfold iR
 congr 1
 rw[Bool.eq_iff_iff]
 simp only[List.all_eq_true,decide_eq_true_eq]
 exact (WO G 200).symm
end Hv
end
section
open Go.RowKit
open aH (St gH)
open Hv (S Dk VM)
theorem MB (mb pm fm:Nat) (P:VM Value) (G:VM S) (L:Nat) (hS:Hv.Short L G) (w:World) (h:aK mb pm fm P (Hv.aS G) w) :
   Calls Tryz.prog 133 #[.pointer (some ⟨mb,0,none⟩)] w fun e w'=>e = .returned (.tuple #[.int .i64 G.length, .int .i64 (Hv.mQ G fun _=>false:Nat)])∧Below w.heap.size w w':=by
 have m1:=(ah h.blk 1).trans (show _=some (.map (some fm)) from rfl)
 have hf:=h.files
 have HG:=hide (Hv.bq hf.1)
 have HM:=hide h;have HS:=hide hS
 have hml:=blt h.blk
 clear h hS
 go_enter Tryz.func133,Tryz.ntmps133
 go_wp2_with (first
   | (at_range;refine eH rfl _ 139 rfl 162 Tryz.underlying139 hf rfl ?_;intro w0 hrg0 hg0 hs0;have nP:=hide hrg0;have HB0:=hide ((Below.refl w.heap.size w).grown hg0 (Nat.le_refl _) (fun q hq=>by cases hq))))
 go_frame
 clear hg0 hrg0 hf m1
 go_loopw [3,11] (fun z _ wr=>∃ (left:S→Bool) (cnt:Nat),z = .int .i64 (Hv.mQ G left:Nat)∧Hid (bE wr fm w.heap.size (Hv.aS G) left cnt)∧Hid (Below w.heap.size w wr)∧w.heap.size<wr.heap.size)
   (fun _ _ wr=>wr.rangeLeft fm w.heap.size)
 case atStart=>exact ⟨_,_,by rw[Hv.Ej G _ (fun k hk=>by rw[Hv.aB,Hv.gN,Option.isSome_map,← Hv.aB];exact hk)];rfl,nP,HB0,by omega⟩
 case round =>
   clear nP HB0
   obtain ⟨left,cnt,rfl,HG2,HB,hsz1⟩:=hrel
   go_wp2_with (first
     | (at_next;refine gG rfl _ rfl w.heap.size left cnt rfl HG2.out ?_ ?_))
   · intro hc0 hl0
     have hl:left=fun _=>false:=funext hl0
     subst hl
     obtain ⟨T,hT⟩:∃ T,Hv.mQ G (fun _=>false)=T:=⟨_,rfl⟩
     rw[hT]
     have HT:=hide hT
     have hMB:=HM.out.below HB.out
     have m2:=(ah hMB.blk 1).trans (show _=some (.map (some fm)) from rfl)
     have acY:=hMB.files.len Tryz.underlying139 3
     rw[Hv.fP] at acY
     clear hT hMB
     go_wp2_with fail
     go_ret2
     exact ⟨by rw[HT.out];rfl,HB.out⟩
   · intro k v w4 cnt1 hk hlk hget hrg1 hlt hg1 hs1 hen
     rw[Hv.gN] at hget
     obtain ⟨x,hx,rfl⟩:=Option.map_eq_some_iff.1 hget
     have oC:=hide (bE.alloc hrg1 (.cells #[.string ⟨x.toArray⟩] 162))
     have hb4:=HB.out.grown hg1 HB.out.size (fun q hq=>by cases hq;omega)
     have iI:=hide (hb4.alloc hb4.size (.cells #[.string ⟨x.toArray⟩] 162))
     have hs4:w4.heap.size=wr.heap.size:=hs1
     have hsu:(w4.alloc (.cells #[.string ⟨x.toArray⟩] 162)).heap.size=w4.heap.size+1:=by simp
     have hxl:=HS.out k x hx
     have HST:=hide (Hv.Em G left k x HG.out ((Hv.get_some HG.out).1 hx) hlk)
     have acX:=Hv.LC HS.out HG.out left
     obtain ⟨s0,Dn⟩:∃ s0,Hv.mQ G left=s0:=⟨_,rfl⟩
     rw[Dn] at HST acX ⊢
     simp only[Hv.gW] at hen ⊢
     clear hrg1 hg1 hget hb4 Dn hx
     go_wp2_with fail
     go_roundw
     case rel=>exact ⟨_,cnt1,by rw[HST.out];congr 1;omega,oC,iI,by omega⟩
     case measure=>rw[oC.out.left_eq,HG2.out.left_eq];exact hlt
end
section
open aH (St gH)
open Hv (S VM)
theorem Jh {f:S→S} {st st':St} {k:Int} {rest:List S} {M:Nat} (h:aH.jM f st k rest=some st') (g:st.left.length≤M∧∀ q∈st.files,q.2.length≤M):st'.left.length≤M∧∀ q∈st'.files,q.2.length≤M:=by
 rw[aH.jM.eq_def] at h
 split at h
 · split at h
   · split at h
     · cases h;exact g
     · cases h
   · split at h
     · cases h;exact g
     · cases h
   · cases h
 · split at h
   · split at h
     · split at h
       · cases h;exact g
       · cases h
     · cases h
   · split at h
     · split at h
       · split at h
         · cases h;exact g
         · cases h
       · cases h
     · split at h
       · split at h
         · split at h
           · cases h
             refine ⟨?_,kF g.2 ?_⟩
             · show (List.drop _ _).length≤M
               rw[List.length_drop];have:=g.1;omega
             · show (List.take _ _).length≤M
               rw[List.length_take];have:=g.1;omega
           · cases h
         · cases h
       · split at h
         · split at h
           · cases h;exact g
           · cases h
         · split at h
           · split at h
             · cases h;exact g
             · cases h
           · cases h
theorem yV {f:S→S} {M:Nat}:∀ (ls:List S) {st st':St} {last:Int},aH.dS f st last ls=some st'→(st.left.length≤M∧∀ q∈st.files,q.2.length≤M)→∀ q∈st'.files,q.2.length≤M
 | [],st,st',last,h,g=>by rw[aH.dS] at h;cases h;exact g.2
 | l::ls,st,st',last,h,g=>by
   rw[aH.dS] at h
   split at h
   · cases h
   · split at h
     · cases h
     next s1 h1=>exact yV ls h (Jh h1 g)
theorem AZ:∀ {x a b:S},aZ x=some (a,b)→b.length≤x.length
 | [],a,b,h=>by simp[aZ] at h
 | c::l,a,b,h=>by
   rw[aZ.eq_def] at h
   simp only at h
   split at h
   · cases h
     simp
     omega
   · split at h
     · cases h
     next u v hq =>
       cases h
       have:=AZ hq
       simp only[List.length_cons]
       omega
theorem yS {f:S→S} {x nm ve:S} {st:St} (h:aH.parse f x=some (nm,ve,st)):x.length≤2000∧∀ q∈st.files,q.2.length≤2000:=by
 rw[aH.parse.eq_def] at h
 split at h
 · cases h
 next hx =>
   refine ⟨by omega,?_⟩
   split at h
   · cases h
   next head contents hc =>
     have hl:=AZ hc
     split at h
     · split at h
       · cases h
       · split at h
         · split at h
           · cases h
           next s1 h1 =>
             split at h
             · cases h
               exact yV _ h1 ⟨by show contents.length≤2000;omega,fun q hq=>by cases hq⟩
             · cases h
         · cases h
     · cases h
structure bY (D:VM Hv.PD):Prop where
 named:Hv.Named D
 copies:mV ∨ ∀ k d,Hv.get D k=some d→bK d.st.runs∧bK d.st.aL
theorem bY.nil:bY []:=⟨Hv.Named.nil, .inr fun k d h=>by cases h⟩
theorem bY.put {D:VM Hv.PD} (h:bY D) (hs:Hv.aM D) {k:S} {d:Hv.PD} (hk:d.nm=k) (hd:Hv.Gw d) (hc:mV∨(bK d.st.runs∧bK d.st.aL)):bY (Hv.put D k d):=by
 refine ⟨h.named.put hs hk hd,?_⟩
 rcases hc with hc | hc
 · exact .inl hc
 · rcases h.copies with q | q
   · exact .inl q
   · refine .inr fun k' d' e => ?_
     by_cases ek:k'=k
     · subst ek;rw[Hv.aD hs] at e;cases e;exact hc
     · rw[Hv.av hs _ ek] at e;exact q k' d' e
theorem bY.del {D:VM Hv.PD} (h:bY D) (hs:Hv.aM D) (k:S):bY (Hv.del D k):=by
 refine ⟨h.named.del hs k,h.copies.imp id fun q k' d' e => ?_⟩
 by_cases ek:k'=k
 · subst ek;rw[Hv.bn] at e;cases e
 · rw[Hv.aV hs ek] at e;exact q k' d' e
theorem bY.at_ {D:VM Hv.PD} (h:bY D) {k:S} {d:Hv.PD} (q:Hv.get D k=some d):d.nm=k∧Hv.Gw d∧(mV∨(bK d.st.runs∧bK d.st.aL)):=⟨(h.named k d q).1,(h.named k d q).2,h.copies.imp id fun f=>f k d q⟩
theorem bY.step {pl:Hv.Plan} {m:Hv.Mac} (h:bY m.1) (hi:bY pl.ins) (hs:Hv.aM m.1) (s:Hv.Step):bY (Hv.aG pl m s).1:=by
 unfold Hv.aG
 split
 · exact h.del hs _
 · split
   · split
     next d hd =>
       obtain ⟨a,b,c⟩:=hi.at_ hd
       exact h.put hs a b c
     · exact h
   · split
     · exact h
     next d hd =>
       obtain ⟨a,b,c⟩:=h.at_ hd
       split
       · exact h.put hs a b c
       · split
         · exact h.put hs a b c
         · exact h
theorem bY.bound {D:VM Hv.PD} (h:bY D) (hs:Hv.aM D):oD 30000 D :=
 ⟨fun p hp f hf=>by
   have h1:=(h.named p.1 p.2 ((Hv.get_some hs).2 hp)).2
   have:=(yS h1).2 f hf
   omega,h.copies⟩
theorem JK (pl:Hv.Plan) (m:Hv.Mac) (s:Hv.Step):(Hv.aG pl m s).1.length≤m.1.length+1:=by
 unfold Hv.aG
 split
 · exact Nat.le_succ_of_le (Hv.Fh _ _)
 · split
   · split
     · exact Hv.eZ _ _ _
     · exact Nat.le_succ _
   · split
     · exact Nat.le_succ _
     · split
       · exact Hv.eZ _ _ _
       · split
         · exact Hv.eZ _ _ _
         · exact Nat.le_succ _
theorem Ew {D:VM Hv.PD} {R:VM Value} {I:VM Hv.PD} (hD:Hv.Named D) (hI:Hv.Named I) (sD:Hv.aM D) (sI:Hv.aM I) (hR:R.length≤12) (hl:I.length≤12):jF 30000 (Hv.bf D R I).cO:=fun k xs q=>by
 have e:(Hv.bf D R I).cO=dN (Hv.aR D R I) (keysOf (aT D R I)):=rfl
 rw[e,xZ (show Hv.aM (Hv.aR D R I) from Hv.iO I (Hv.cut D R) (Hv.iK R D sD))] at q
 have h1:=vw hD hI sI R
 have h2:=sj hD hI sI R
 cases q2:Hv.get (Hv.aR D R I) k with
 | none=>rw[q2] at q;cases q
 | some d =>
   rw[q2] at q
   simp only at q
   split at q
   · cases q
   · cases q
     have h3:=zw d (keysOf (aT D R I))
     have h4:∀ y∈wokenBy d (keysOf (aT D R I)),y.length≤24:=fun y hy=>h2 y (J5 hy)
     refine ⟨by omega,fun y hy=>by have:=h4 y hy;omega,?_⟩
     have h5:=Ei (wokenBy d (keysOf (aT D R I))) 24 h4
     have h6:(wokenBy d (keysOf (aT D R I))).length≤756:=by omega
     have:(wokenBy d (keysOf (aT D R I))).length*(24+1)≤756*25:=Nat.mul_le_mul_right 25 h6
     omega
end
section
open Go.RowKit
open aH (St gH)
open Hv (S Dk VM)
theorem gB.far {B B':Nat} {C:Nat→Prop} {pl:Hv.Plan} {sv:Value} {im km:Nat} {w w':World} (h:gB B pl sv im km w) (hf:aQ B' C w w') (hB:w.heap.size≤B') (hC:∀ g,C g→∀ cs t fz,w.heap[g]? ≠ some (.cells cs t fz)) (him : ¬ C im) (hkm : ¬ C km):gB B pl sv im km w':=by
 obtain ⟨I,i1,i2⟩:=h.ins
 obtain ⟨K,k1,k2⟩:=h.cO
 exact ⟨qD h.row hf hB (fun g hg cs fz=>hC g hg cs _ fz),⟨I,i1.far hf hB him,i2.foreign hf hB (fun g hg i cs fz=>hC g hg cs _ fz)⟩,⟨K,k1.far hf hB hkm,k2.foreign hf hB (fun g hg cs fz=>hC g hg cs _ fz)⟩,h.ge⟩
structure VX (mb pm fm:Nat) (D:VM Hv.PD) (G:VM S) (N:Nat→Prop) (B0:Nat) (pl:Hv.Plan) (sv:Value) (im km:Nat) (w:World) (n:Nat) (P:VM Value) (wr:World):Prop where
 Kc:aK mb pm fm P (Hv.aS (Hv.aJ pl (D,G) (pl.steps.take n)).2) wr
 pk:dA N wr (Hv.aJ pl (D,G) (pl.steps.take n)).1 P
 plan:gB B0 pl sv im km wr
 len:(Hv.aJ pl (D,G) (pl.steps.take n)).1.length≤D.length+n
 fit:(Hv.aJ pl (D,G) (pl.steps.take n)).2.length≤16∧Hv.Short 200 (Hv.aJ pl (D,G) (pl.steps.take n)).2
 fine:bY (Hv.aJ pl (D,G) (pl.steps.take n)).1
 left:Hv.dW pl (D,G) pl.steps=Hv.dW pl (Hv.aJ pl (D,G) (pl.steps.take n)) (pl.steps.drop n)
 ge:w.heap.size≤mb∧w.heap.size≤pm∧w.heap.size≤fm
 bA:Below w.heap.size w wr
theorem wJ (pl:Hv.Plan) (m:Hv.Mac) {n:Nat} (h:n<pl.steps.length):Hv.aJ pl m (pl.steps.take (n+1))=Hv.aG pl (Hv.aJ pl m (pl.steps.take n)) pl.steps[n]:=by
 rw[List.take_succ_eq_append_getElem h,Hv.Qh]
theorem PN (pl:Hv.Plan) (m:Hv.Mac) {n:Nat} (h:n<pl.steps.length):Hv.dW pl (Hv.aJ pl m (pl.steps.take n)) (pl.steps.drop n)=(!Hv.iR (Hv.aJ pl m (pl.steps.take (n+1))).2||Hv.dW pl (Hv.aJ pl m (pl.steps.take (n+1))) (pl.steps.drop (n+1))):=by
 rw[List.drop_eq_getElem_cons h,wJ pl m h]
 rfl
theorem xO {D:VM Hv.PD} {wk:List S} {L:Nat} (hD:Hv.wM L D) (hw:(bJ wk).length≤L):∀ (cs:List gH) {G:VM S} {k:Nat},(∀ c∈cs,kY c)→Hv.aM G→Hv.Short (L+16*k) G→Hv.Short (L+16*(k+cs.length)) (Hv.fJ D wk G cs)
 | [],G,k,_,_,h=>by simpa [Hv.fJ] using h
 | c::cs,G,k,hc,hs,h=>by
   have hs1:=Hv.Fq D wk hs c
   have h1:Hv.Short (L+16*(k+1)) (Hv.rV D wk G c):=by
     have hcl:=(zV (hc c (by simp))).2.1
     by_cases hv:c.verb=1∨c.verb=2
     · exact (Hv.qY (L:=L+16*k) (fun p hp f hf=>by have:=hD p hp f hf;omega) h hs (by omega) (hcl hv)).mono (by omega)
     · have e2:Hv.rV D wk G c=Hv.rV D wk G { c with word:=[] }:=by
         unfold Hv.rV
         rw[if_neg (fun q=>hv (.inl q)),if_neg (fun q=>hv (.inr q)),if_neg (fun q=>hv (.inl q)),if_neg (fun q=>hv (.inr q))]
       rw[e2]
       exact (Hv.qY (L:=L+16*k) (fun p hp f hf=>by have:=hD p hp f hf;omega) h hs (by omega) (by simp)).mono (by omega)
   have:=xO hD hw cs (fun c' h'=>hc c' (by simp[h'])) hs1 h1
   have e:Hv.fJ D wk G (c::cs)=Hv.fJ D wk (Hv.rV D wk G c) cs:=rfl
   rw[e,List.length_cons]
   exact this.mono (by omega)
theorem Mr {pl:Hv.Plan} {m:Hv.Mac} {s:Hv.Step} (h:Hv.Short 200 m.2) (hf:bY m.1) (hs:Hv.aM m.1) (hg:Hv.aM m.2) (hw:jF 30000 pl.cO):Hv.Short 100000 (Hv.aG pl m s).2:=by
 have hb:=(hf.bound hs).files
 have Wq:Hv.Short 100000 m.2:=h.mono (by omega)
 have h3:Hv.Short (30000+16*0) m.2:=h.mono (by omega)
 unfold Hv.aG
 split
 · exact Wq
 · split
   · split<;>exact Wq
   · split
     · exact Wq
     next d hd =>
       have hp:=(hf.at_ hd).2.1
       have hgd:=(bW hp).2.2
       have hft:=(bV hp).2.2.1
       split
       · exact (xO hb (by simp[bJ]) d.st.runs (fun c hc=>(hgd.runs c hc).1) hg h3).mono (by have:=hft.2.2.2.2.1;omega)
       · split
         · refine (xO hb ?_ d.st.aL (fun c hc=>hgd.aL c hc) hg h3).mono (by have:=hft.2.2.2.2.2;omega)
           cases q:Hv.get pl.cO s.2 with
           | none=>simp[bJ]
           | some xs=>exact (hw _ xs q).2.2
         · exact Wq
theorem Qi {pl:Hv.Plan} {D:VM Hv.PD} {G:VM S} {n mb pm fm:Nat} {P:VM Value} {wr:World} (h:Hv.Short 200 (Hv.aJ pl (D,G) (pl.steps.take n)).2) (hf:bY (Hv.aJ pl (D,G) (pl.steps.take n)).1) (hs:Hv.aM (Hv.aJ pl (D,G) (pl.steps.take n)).1) (hm:aK mb pm fm P (Hv.aS (Hv.aJ pl (D,G) (pl.steps.take n)).2) wr) (_hok:Hv.iW pl (D,G) pl.steps) (hn:n<pl.steps.length) (e:Hv.aJ pl (D,G) (pl.steps.take (n+1))=Hv.aG pl (Hv.aJ pl (D,G) (pl.steps.take n)) pl.steps[n]) (hw:jF 30000 pl.cO):Hv.Short 100000 (Hv.aJ pl (D,G) (pl.steps.take (n+1))).2:=by
 rw[e]
 have hg:=Hv.bq hm.files.1
 obtain ⟨m,hm⟩:∃ m,Hv.aJ pl (D,G) (pl.steps.take n)=m:=⟨_,rfl⟩
 rw[hm] at h hf hs hg ⊢
 exact Mr h hf hs hg hw
theorem TJ (mb pm fm:Nat) (P:VM Value) (D:VM Hv.PD) (G:VM S) (N:Nat→Prop) (B0:Nat) (pl:Hv.Plan) (sv:Value) (im km:Nat) (hok:Hv.iW pl (D,G) pl.steps) (hks:∀ s∈pl.steps,s.2.length≤12) (hst:pl.steps.length≤200) (hDl:D.length≤12) (nQ:bY D) (hIF:bY pl.ins) (hG:G.length≤16) (hS:Hv.Short 200 G) (K6:jF 30000 pl.cO) (w:World) (h:aK mb pm fm P (Hv.aS G) w) (hP:dA N w D P) (hpl:gB B0 pl sv im km w) :
   Calls Tryz.prog 68 #[.pointer (some ⟨mb,0,none⟩), .agg #[sv, .map (some im), .map (some km)]] w fun e w'=>e = .returned (.bool (Hv.dW pl (D,G) pl.steps))∧Below w.heap.size w w':=by
 have hsl:=hpl.row
 obtain ⟨sa,sc,rfl⟩:=slice_form hsl
 have HM:=hide h;have eU:=hide hP;have Rj:=hide hpl;have CJ:=hide hok;have Vq:=hide hks;have J9:=hide nQ;have HIF:=hide hIF;have HS:=hide hS;have Y6:=hide K6
 have hil:im<w.heap.size:=by obtain ⟨I,i1,_⟩:=hpl.ins;exact i1.lt
 have hkl:km<w.heap.size:=by obtain ⟨K,k1,_⟩:=hpl.cO;exact k1.lt
 have Vm:=hide (Hv.bq h.files.1)
 obtain ⟨ns,hns⟩:∃ ns,pl.steps.length=ns:=⟨_,rfl⟩
 have XP:=hide hns
 rw[hns] at hst ⊢
 have hb0:=(Below.refl w.heap.size w).alloc (Nat.le_refl _) (.cells #[.slice sa ns sc, .map (some im), .map (some km)] 89)
 have hrow:=heap_alloc_new w (.cells #[.slice sa ns sc, .map (some im), .map (some km)] 89)
 have nX:(w.alloc (.cells #[.slice sa ns sc, .map (some im), .map (some km)] 89)).heap.size=w.heap.size+1:=by simp
 have kJ:=hide (h.below hb0);have jD:=hide (hP.below hb0);have aaY:=hide (hpl.below hb0)
 have HB0:=hide hb0
 obtain ⟨u,hu⟩:∃ u,w.alloc (.cells #[.slice sa ns sc, .map (some im), .map (some km)] 89)=u:=⟨_,rfl⟩
 rw[hu] at hrow nX kJ jD aaY HB0
 clear h hP hpl hok hks nQ hIF hS K6 hsl hns hb0 HM eU Rj
 go_enter Tryz.func68,Tryz.ntmps68
 go_wp2_with fail
 clear hu
 have uY:=hide hrow
 clear hrow
 refine (KA mb pm fm P (Hv.aS G) u kJ.out).mono ?_
 rintro e w1 ⟨mb',VA,Vt,rfl,hm1,g1,g2,g3,hb1⟩
 have HI0:Hid (VX mb' VA Vt D G (fun g=>N g∨B0≤g) B0 pl (.slice sa ns sc) im km u 0 P w1):=hide ⟨hm1,(jD.out.below hb1).weak (fun g hg => .inl hg),by have:=aaY.out.below hb1;rwa [XP.out] at this,by simp[Hv.aJ],⟨hG,HS.out⟩,J9.out,by simp[Hv.aJ],⟨g1,g2,g3⟩,hb1⟩
 have r1:=(hb1.block w.heap.size (by omega)).trans uY.out
 have a0:=(ah r1 0).trans (show _=some (.slice sa ns sc) from rfl)
 have a1:=(ah r1 1).trans (show _=some (.map (some im)) from rfl)
 have a2:=(ah r1 2).trans (show _=some (.map (some km)) from rfl)
 have hs1:=hb1.size
 clear hm1 hb1 r1
 go_wp2_with fail
 refine (kE sa ns sc im km w1).mono ?_
 rintro e w2 ⟨rfl,hb2⟩
 have HI2:Hid (VX mb' VA Vt D G (fun g=>N g∨B0≤g) B0 pl (.slice sa ns sc) im km u 0 P w2):=hide ⟨HI0.out.Kc.below hb2,HI0.out.pk.below hb2,HI0.out.plan.below hb2,HI0.out.len,HI0.out.fit,HI0.out.fine,HI0.out.left,HI0.out.ge,HI0.out.bA.trans (hb2.mono HI0.out.bA.size)⟩
 clear hb2 HI0 a0 a1 a2
 go_wp2_with fail
 have aex:=HI2.out.ge
 go_loopw [13] (fun i wr=>∃ (n:Nat) (P':VM Value),n≤ns∧i = .int .i64 (n:Int)∧Hid (VX mb' VA Vt D G (fun g=>N g∨B0≤g) B0 pl (.slice sa ns sc) im km u n P' wr)) (fun i _=>ns-(intOf i).toNat)
 case atStart=>exact ⟨0,P,Nat.zero_le _,rfl,HI2⟩
 case round =>
   clear HI2
   obtain ⟨n,P',hn,rfl,HI⟩:=hrel
   by_cases hlt:n<ns
   · have b1:(n:Int)<(ns:Int):=by omega
     have hnl:n<pl.steps.length:=by have:=XP.out;omega
     have hbs:=HI.out.bA.size
     have r1:=(HI.out.bA.block w.heap.size (by omega)).trans uY.out
     have a0:=(ah r1 0).trans (show _=some (.slice sa ns sc) from rfl)
     have a1:=(ah r1 1).trans (show _=some (.map (some im)) from rfl)
     have a2:=(ah r1 2).trans (show _=some (.map (some km)) from rfl)
     have hP':P'.length≤1000:=by have e:=HI.out.pk.len HI.out.Kc.packs.1;have:=HI.out.len;omega
     have hsrt:=HI.out.pk.dU
     have Vs:=hide (Xf mb' VA Vt P' (Hv.aJ pl (D,G) (pl.steps.take n)).1 (Hv.aJ pl (D,G) (pl.steps.take n)).2 (fun g=>N g∨B0≤g) B0 pl (.slice sa ns sc) im km n hnl (CJ.out.at_ hnl) (by have:=Vq.out _ (List.getElem_mem hnl);unfold maxLen;omega) hP' (by have:=HI.out.fit.1;omega) 30000 (by omega) (HI.out.fit.2.mono (by omega)) (HI.out.fine.bound hsrt) Y6.out wr HI.out.Kc HI.out.pk HI.out.plan (fun g hg _ => .inr hg) (by omega))
     have hTR:=hide (wJ pl (D,G) hnl)
     clear r1
     go_wp2_with fail
     refine Vs.out.mono ?_
     rintro e w3 ⟨u3,P3,rfl,hm3,hp3,hf3⟩
     have VN:Hid (aK mb' VA Vt P3 (Hv.aS (Hv.aJ pl (D,G) (pl.steps.take (n+1))).2) w3):=hide (by rw[hTR.out];exact hm3)
     have aaO:Hid (dA (fun g=>N g∨B0≤g) w3 (Hv.aJ pl (D,G) (pl.steps.take (n+1))).1 P3):=hide (by rw[hTR.out];exact hp3)
     have aaP:Hid (gB B0 pl (.slice sa ns sc) im km w3):=hide (HI.out.plan.far hf3 (Nat.le_refl _) (fun g hg=>by
       rcases hg with rfl | rfl
       · exact HI.out.Kc.packs.fG
       · exact HI.out.Kc.files.fG) (fun e=>by omega) (fun e=>by omega))
     have acy:=hide (HI.out.bA.trans (hf3.toBelow hbs (fun q hq e=>by omega)))
     have HSH:=hide (Qi HI.out.fit.2 HI.out.fine hsrt HI.out.Kc CJ.out hnl hTR.out Y6.out)
     have hs3:=hf3.size
     clear hm3 hp3 hf3 a0 a1 a2
     go_wp2_with fail
     refine (MB mb' VA Vt P3 _ 100000 HSH.out w3 VN.out).mono ?_
     rintro e w4 ⟨rfl,hb4⟩
     have Gh:=hide (Hv.OX (Hv.aJ pl (D,G) (pl.steps.take (n+1))).2)
     have HOS:=hide (PN pl (D,G) hnl)
     have HLF:=hide HI.out.left
     have HFS:=hide (Hv.yK (G:=(Hv.aJ pl (D,G) (pl.steps.take (n+1))).2) (Hv.bq VN.out.files.1))
     obtain ⟨cnt,hcnt⟩:∃ cnt,(Hv.aJ pl (D,G) (pl.steps.take (n+1))).2.length=cnt:=⟨_,rfl⟩
     obtain ⟨lng,ZU⟩:∃ lng,Hv.mQ (Hv.aJ pl (D,G) (pl.steps.take (n+1))).2 (fun _=>false)=lng:=⟨_,rfl⟩
     rw[hcnt,ZU] at Gh
     rw[hcnt,ZU]
     have aaQ:=hide (acy.out.trans (hb4.mono (by omega)))
     clear hcnt ZU
     have J8:=hide (HB0.out.trans (aaQ.out.mono (by omega)))
     by_cases hc:cnt≤16
     · have q1 : ¬ (16:Int)<(cnt:Int):=by omega
       by_cases hl:lng≤200
       · have q2 : ¬ (200:Int)<(lng:Int):=by omega
         have aaL:Hid (Hv.iR (Hv.aJ pl (D,G) (pl.steps.take (n+1))).2=true):=hide (by rw[Gh.out];simp;omega)
         have HI4:Hid (VX mb' VA Vt D G (fun g=>N g∨B0≤g) B0 pl (.slice sa ns sc) im km u (n+1) P3 w4):=hide ⟨VN.out.below hb4,aaO.out.below hb4,aaP.out.below hb4,by have h1:=HI.out.len;have h2:=JK pl (Hv.aJ pl (D,G) (pl.steps.take n)) pl.steps[n];rw[hTR.out];omega,HFS.out aaL.out,by rw[hTR.out];exact HI.out.fine.step HIF.out hsrt _,by rw[HLF.out,HOS.out,aaL.out];rfl,HI.out.ge,aaQ.out⟩
         clear hb4 Vs hsrt VN aaO aaP
         go_wp2_with fail
         go_roundw
         case rel=>exact ⟨n+1,P3,by omega,by go_num,HI4⟩
         case measure=>simp[intOf];omega
       · have q2:(200:Int)<(lng:Int):=by omega
         have HE:Hid (Hv.dW pl (D,G) pl.steps=true):=hide (by rw[HLF.out,HOS.out,Gh.out];simp;omega)
         clear hb4 Vs hsrt
         go_wp2_with fail
         go_ret
         exact ⟨by rw[HE.out];rfl,J8.out⟩
     · have q1:(16:Int)<(cnt:Int):=by omega
       have HE:Hid (Hv.dW pl (D,G) pl.steps=true):=hide (by rw[HLF.out,HOS.out,Gh.out];simp;omega)
       clear hb4 Vs hsrt
       go_wp2_with fail
       go_ret
       exact ⟨by rw[HE.out];rfl,J8.out⟩
   · obtain rfl:n=ns:=by omega
     have b1 : ¬ (n:Int)<(n:Int):=by omega
     have HE:Hid (Hv.dW pl (D,G) pl.steps=false):=hide (by rw[HI.out.left,List.drop_of_length_le (by have:=XP.out;omega)];rfl)
     have J8:=hide (HB0.out.trans (HI.out.bA.mono (by omega)))
     go_wp2_with fail
     go_ret
     exact ⟨by rw[HE.out];rfl,J8.out⟩
end
section
open aH (St gH)
open Hv (S VM)
namespace Hv
noncomputable def check (n:Int) (D:VM PD) (G:VM S) (xs:List S):Except Int Plan :=
 match wish xs with
 | .error k => .error k
 | .ok s=>if dh D s.R s.I≠0 then .error (dh D s.R s.I) else
     if dW (bf D s.R s.I) (D,G) (bf D s.R s.I).steps=true then .error 15 else
       if jl n D xs=true then .error 14 else .ok (bf D s.R s.I)
theorem Ll {x t nm ve:S} {st:St} (h:fQ x=some (.ins t nm ve st)):aH.parse (short aF) t=some (nm,ve,st)∧x.length=t.length+1:=by
 unfold fQ at h
 split at h
 · cases h
 · split at h
   · split at h<;>cases h
   · split at h
     · split at h
       · cases h
       · next c l _ _ _ =>
         cases hp:aH.parse (short aF) l with
         | none=>rw[hp] at h;cases h
         | some a =>
           rw[hp] at h
           cases h
           exact ⟨hp,rfl⟩
     · cases h
theorem CF:∀ (xs:List S) {s s':WS},kH xs s=some s'→(Named s.I∧aM s.I)→Named s'.I∧aM s'.I∧dz s'.I≤dz s.I+(xs.map List.length).sum
 | [],s,s',h,g=>by rw[kH] at h;cases h;exact ⟨g.1,g.2,by simp⟩
 | x::xs,s,s',h,g=>by
   rw[kH] at h
   split at h
   · cases h
   next i hi =>
     have key:(Named (kW s i).I∧aM (kW s i).I)∧dz (kW s i).I≤dz s.I+x.length:=by
       cases i with
       | inl nm=>exact ⟨g,Nat.le_add_right _ _⟩
       | inr it=>
         obtain ⟨t,nm,ve,st⟩:=it
         have hp:=Ll hi
         refine ⟨⟨g.1.put g.2 rfl hp.1,g.2.put _ _⟩,?_⟩
         have:=JQ s.I nm ⟨t,nm,ve,st,1⟩
         simp only[kW] at this ⊢
         omega
     obtain ⟨a,b,c⟩:=CF xs h key.1
     refine ⟨a,b,?_⟩
     simp only[List.map_cons,List.sum_cons]
     omega
theorem EU {xs:List S} {s:WS} (h:wish xs = .ok s):Named s.I∧aM s.I∧dz s.I≤(xs.map List.length).sum∧1≤xs.length∧xs.length≤6:=by
 unfold wish at h
 split at h
 · cases h
 next hx =>
   split at h
   · cases h
   next s1 h1 =>
     split at h
     · cases h
     · cases h
       obtain ⟨a,b,c⟩:=CF xs h1 ⟨Named.nil,List.Pairwise.nil⟩
       have:dz ([]:VM PD)=0:=rfl
       exact ⟨a,b,by rw[this] at c;omega,by omega,by omega⟩
theorem y9 {D:VM PD} {R:VM Value} {I:VM PD} (hD:Named D) (hI:Named I) (sD:aM D) (sI:aM I):∀ s∈(bf D R I).steps,s.2.length≤12:=fun s hs=>by
 have e:(bf D R I).steps=(order bC (leaveD D R)).map (fun x=>(1,x))++(order aI I).map (fun x=>(2,x))++(order aI I).map (fun x=>(3,x))++(keysOf (dN (aR D R I) (keysOf (aT D R I)))).map (fun x=>(4,x)):=rfl
 rw[e] at hs
 simp only[List.mem_append,List.mem_map] at hs
 rcases hs with ((⟨x,hx,rfl⟩ | ⟨x,hx,rfl⟩) | ⟨x,hx,rfl⟩) | ⟨x,hx,rfl⟩
 · have h:=(dw bC (iD sD R) x).1 hx
   rw[aB,iC sD] at h
   split at h
   · exact hD.len (by rw[aB];exact h)
   · cases h
 · exact hI.len ((dw aI sI x).1 hx)
 · exact hI.len ((dw aI sI x).1 hx)
 · have h:=ER (iO I (cut D R) (iK R D sD)) _ (mem_keys hx)
   rcases (EM sD R sI x).1 h with h | h
   · exact hI.len h
   · exact hD.len h.1
theorem Ev (D:VM PD) (R:VM Value) (I:VM PD):(bf D R I).steps.length≤2*D.length+3*I.length:=by
 have e:(bf D R I).steps=(order bC (leaveD D R)).map (fun x=>(1,x))++(order aI I).map (fun x=>(2,x))++(order aI I).map (fun x=>(3,x))++(keysOf (dN (aR D R I) (keysOf (aT D R I)))).map (fun x=>(4,x)):=rfl
 rw[e]
 simp only[List.length_append,List.length_map,rF,keysOf]
 have h1:(leaveD D R).length≤D.length:=List.length_filter_le _ _
 have h2:=x9 (aR D R I) (keysOf (aT D R I))
 have h3:(aR D R I).length≤D.length+I.length:=by
   have h1:=xC I (cut D R)
   have h2:=Fe R D
   unfold aR
   omega
 simp only[keysOf] at h2
 omega
end Hv
end
end Go.Proofs.YtialenebfcnkkaaGreatDoor
