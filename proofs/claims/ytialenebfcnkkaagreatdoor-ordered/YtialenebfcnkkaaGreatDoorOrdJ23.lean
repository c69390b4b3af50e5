/- MchW4, MchW5, MchW6 -/
import Derived.Test.YtialenebfcnkkaaGreatDoorOrdJ22
set_option maxHeartbeats 4000000
set_option maxRecDepth 100000
namespace Go.Proofs.YtialenebfcnkkaaGreatDoor
section
open Go.RowKit
open aH (St gH)
open Hv (S Dk VM)
theorem Reads.kept {w w':World} {v:Value} {xs:List S} (h:Reads w v xs) (hs:w.heap.size≤w'.heap.size) (hb:∀ g,v.ownBlock=some g→w'.heap[g]? = w.heap[g]?):Reads w' v xs:=by
 rcases h with h | ⟨g,c,rfl,hg,hc⟩
 · exact .inl h
 · exact .inr ⟨g,c,rfl,by omega,fun j x hj=>(World.cell?_of_block (a:=⟨g,j,none⟩) (hb g rfl)).trans (hc j x hj)⟩
theorem Reads.below {w w':World} {v:Value} {xs:List S} (h:Reads w v xs) (hb:Below w.heap.size w w'):Reads w' v xs:=by
 rcases h with h | ⟨g,c,rfl,hg,hc⟩
 · exact .inl h
 · exact .inr ⟨g,c,rfl,by have:=hb.size;omega,fun j x hj=>(hb.cell (p:=⟨g,j,none⟩) hg).trans (hc j x hj)⟩
theorem Reads.turned {w w':World} {b B:Nat} {v:Value} {xs:List S} (h:Reads w v xs) (hm:∀ cs t fz,w.heap[b]? ≠ some (.cells cs t fz)) (hf:aQ B (fun k=>k=b) w w') (hB:w.heap.size≤B):Reads w' v xs:=by
 rcases h with h | ⟨g,c,rfl,hg,hc⟩
 · exact .inl h
 · by_cases hx:xs=[]
   · subst hx;exact .inl ⟨rfl,_,_,rfl⟩
   · refine .inr ⟨g,c,rfl,by have:=hf.size;omega,fun j x hj=>(World.cell?_of_block (a:=⟨g,j,none⟩) (hf.block g (by omega) fun e => ?_)).trans (hc j x hj)⟩
     have e2:g=b:=e
     subst e2
     have hc2:=hc j x hj
     unfold World.cell? at hc2
     cases q:w.heap[g]? with
     | none=>simp[q] at hc2
     | some o =>
       cases o with
       | cells cs t fz=>exact hm cs t fz q
       | _=>simp[q] at hc2
theorem TR {w:World} {B:Nat} {v:Value} {xs:List S} (h:w.ownsRow B 9 1 v xs.length (xs.map aO)):Reads w v xs:=by
 obtain ⟨a,c,rfl⟩:=slice_form h
 by_cases hx:xs=[]
 · subst hx;exact .inl ⟨rfl,_,_,rfl⟩
 · obtain ⟨g,c',e⟩:=aP h (List.length_pos_iff.2 hx)
   cases e
   refine .inr ⟨g,c,rfl,(h.lt g rfl).2,fun j x hj => ?_⟩
   obtain ⟨hl,rfl⟩:=List.getElem?_eq_some_iff.1 hj
   obtain ⟨g2,c2,e2,_,q⟩:=gF h hl
   cases e2
   exact q
theorem Wi (mb pm fm:Nat) (P:VM Value) (G:VM S) (x y z:S) (hx:x.length≤maxLen) (hG:G.length<maxLen) (wv:Value) (wk:List S) (hwn:wk.length≤10000) (hwx:∀ x∈wk,x.length≤10000) (w:World) (h:aK mb pm fm P (Hv.aS G) w) (hr:Reads w wv wk) :
   Calls Tryz.prog 228 #[.pointer (some ⟨mb,0,none⟩), .agg #[.int .i64 5, .string ⟨x.toArray⟩, .string ⟨y.toArray⟩, .string ⟨z.toArray⟩],wv] w (pU mb pm fm P (Hv.put G x (bJ wk)) w):=by
 have hrow:=heap_alloc_new w (.cells #[.int .i64 5, .string ⟨x.toArray⟩, .string ⟨y.toArray⟩, .string ⟨z.toArray⟩] 317)
 have dF:=hide (h.below ((Below.refl w.heap.size w).alloc (Nat.le_refl _) (.cells #[.int .i64 5, .string ⟨x.toArray⟩, .string ⟨y.toArray⟩, .string ⟨z.toArray⟩] 317)))
 have QT:=hide (hr.below ((Below.refl w.heap.size w).alloc (Nat.le_refl _) (.cells #[.int .i64 5, .string ⟨x.toArray⟩, .string ⟨y.toArray⟩, .string ⟨z.toArray⟩] 317)))
 have iV:=hide ((aQ.refl w.heap.size (fun q=>q=fm) w).alloc (Nat.le_refl _) (.cells #[.int .i64 5, .string ⟨x.toArray⟩, .string ⟨y.toArray⟩, .string ⟨z.toArray⟩] 317))
 have HG:=hide (Hv.bq h.files.1)
 have nX:(w.alloc (.cells #[.int .i64 5, .string ⟨x.toArray⟩, .string ⟨y.toArray⟩, .string ⟨z.toArray⟩] 317)).heap.size=w.heap.size+1:=by simp
 have hml:=blt h.blk
 have hfl:=h.files.lt
 have hfm:=h.apart.2.1
 obtain ⟨wa,wc,rfl, -⟩:=hr.form
 have HX:=hide hwx
 clear h hr hwx
 go_enter Tryz.func228,Tryz.ntmps228
 go_wp2_with fail
 obtain ⟨u,hu⟩:∃ u,w.alloc (.cells #[.int .i64 5, .string ⟨x.toArray⟩, .string ⟨y.toArray⟩, .string ⟨z.toArray⟩] 317)=u:=⟨_,rfl⟩
 rw[hu] at hrow dF iV QT nX ⊢
 clear hu
 have HLI:=hide (fun w hw=>Pp (.slice wa wk.length wc) wk hwn HX.out w hw)
 have HL2:Hid (∀ t,bJ wk=t→Hv.put G x (bJ wk)=Hv.put G x t):=hide (fun t e=>by rw[e])
 obtain ⟨l,hl⟩:∃ l,bJ wk=l:=⟨_,rfl⟩
 rw[hl] at HLI ⊢
 clear hl HL2
 obtain ⟨w',hrun,hM',ht⟩:=dF.out.files.drew.store Tryz.underlying139 (by rw[Hv.fP];exact hG) x hx (Hv.gW l)
 simp only[Hv.gW] at hrun
 have hf:=aX ht
 have DK:Hid (aK mb pm fm P (Hv.aS (Hv.put G x l)) w'):=hide (by rw[Hv.lD HG.out];exact (show aK mb pm fm P (Hv.aS G) u.drew from ⟨dF.out.blk,dF.out.packs.drew,dF.out.files.drew,dF.out.apart⟩).file hM' ht)
 have NT:Hid (aQ w.heap.size (fun q=>q=fm) w w'):=hide (iV.out.drew.next hf (by simp;omega) (fun _ _ q=>q))
 have m1:=(ah dF.out.blk 1).trans (show _=some (.map (some fm)) from rfl)
 have Pq:=(ah DK.out.blk 1).trans (show _=some (.map (some fm)) from rfl)
 obtain ⟨B,hB⟩:∃ B,w.heap.size=B:=⟨_,rfl⟩
 have hrw:w'.heap[B]? = u.heap[B]? := hf.block B (by simp;omega) (by omega)
 rw[hB] at hrow ⊢
 have c1:=(ah hrow 1).trans (show _=some (.string ⟨x.toArray⟩) from rfl)
 have e1:=(ah (hrw.trans hrow) 1).trans (show _=some (.string ⟨x.toArray⟩) from rfl)
 clear hM' ht hf hrow hrw dF iV
 go_region_held3 (fun w'=>w'.cell? ⟨mb,1,none⟩=some (.map (some fm))∧w'.cell? ⟨B,1,none⟩=some (.string ⟨x.toArray⟩))
   (first | assumption | exact ⟨Pq,e1⟩ | exact ⟨m1,c1⟩ | simp[go_sem, *])
   (first
     | (go_at_call 276;refine (HLI.out _ (show Reads u.drew _ _ from QT.out)).mono ?_;rintro e w3 ⟨rfl,rfl⟩))
 go_wp2_with fail
 go_end0
 exact ⟨_,rfl,DK.out,NT.out⟩
def mV:Prop:=∀ (mb pm fm:Nat) (P:VM Value) (D:VM Hv.PD) (G:VM S) (N:Nat→Prop) (x:S),x.length≤24→P.length≤1000→∀ w,aK mb pm fm P (Hv.aS G) w→dA N w D P →
 Calls Tryz.prog 275 #[.pointer (some ⟨mb,0,none⟩), .string ⟨x.toArray⟩] w fun e w'=>e = .returned (.tuple #[Hv.gW ((Hv.findD D G x).getD []), .bool (Hv.findD D G x).isSome])∧Below w.heap.size w w'
def AV (D:VM Hv.PD) (G:VM S) (x z:S):VM S:=match Hv.findD D G z with
 | some t=>Hv.put G x t
 | none=>G
theorem V9 (hFC:mV) (mb pm fm:Nat) (P:VM Value) (D:VM Hv.PD) (N:Nat→Prop) (G:VM S) (x y z:S) (hx:x.length≤maxLen) (hz:z.length≤24) (hP1:P.length≤1000) (hG:G.length<maxLen) (wa:Option Addr) (wn wc:Nat) (w:World) (h:aK mb pm fm P (Hv.aS G) w) (hP:dA N w D P) :
   Calls Tryz.prog 228 #[.pointer (some ⟨mb,0,none⟩), .agg #[.int .i64 3, .string ⟨x.toArray⟩, .string ⟨y.toArray⟩, .string ⟨z.toArray⟩], .slice wa wn wc] w (pU mb pm fm P (AV D G x z) w):=by
 have hb0:=(Below.refl w.heap.size w).alloc (Nat.le_refl _) (.cells #[.int .i64 3, .string ⟨x.toArray⟩, .string ⟨y.toArray⟩, .string ⟨z.toArray⟩] 317)
 have hrow:=heap_alloc_new w (.cells #[.int .i64 3, .string ⟨x.toArray⟩, .string ⟨y.toArray⟩, .string ⟨z.toArray⟩] 317)
 have dF:=hide (h.below hb0)
 have DL:=hide (hP.below hb0)
 have iV:=hide ((aQ.refl w.heap.size (fun q=>q=fm) w).alloc (Nat.le_refl _) (.cells #[.int .i64 3, .string ⟨x.toArray⟩, .string ⟨y.toArray⟩, .string ⟨z.toArray⟩] 317))
 have HG:=hide (Hv.bq h.files.1)
 have nX:(w.alloc (.cells #[.int .i64 3, .string ⟨x.toArray⟩, .string ⟨y.toArray⟩, .string ⟨z.toArray⟩] 317)).heap.size=w.heap.size+1:=by simp
 have hml:=blt h.blk
 have hfl:=h.files.lt
 have hfm:=h.apart.2.1
 have HFC:=hide hFC
 clear h hP hb0 hFC
 go_enter Tryz.func228,Tryz.ntmps228
 go_wp2_with fail
 obtain ⟨u,hu⟩:∃ u,w.alloc (.cells #[.int .i64 3, .string ⟨x.toArray⟩, .string ⟨y.toArray⟩, .string ⟨z.toArray⟩] 317)=u:=⟨_,rfl⟩
 rw[hu] at hrow dF iV DL nX ⊢
 clear hu
 refine (HFC.out mb pm fm P D G N z hz hP1 u dF.out DL.out).mono ?_
 rintro e w1 ⟨rfl,hb1⟩
 have gK:=(hb1.block w.heap.size (by omega)).trans hrow
 have kJ:=hide (dF.out.below hb1)
 have eO:=hide (iV.out.below hb1 (by omega))
 have hs1:=hb1.size
 clear hb1 DL hrow
 cases hq:Hv.findD D G z with
 | none =>
   have HE:Hid (AV D G x z=G):=hide (by unfold AV;rw[hq])
   have hb2:=(Below.refl w1.heap.size w1).alloc (Nat.le_refl _) (.cells #[.string ⟨#[]⟩] 162)
   have wK:=hide (kJ.out.below hb2)
   have iU:=hide (eO.out.below hb2 (by omega))
   simp only[Hv.gW,Option.getD_none,Option.isSome_none]
   clear hb2
   go_wp2_with fail
   go_end0
   rw[HE.out]
   exact ⟨_,rfl,wK.out,iU.out⟩
 | some t =>
   have HE:Hid (AV D G x z=Hv.put G x t):=hide (by unfold AV;rw[hq])
   have hb2:=(Below.refl w1.heap.size w1).alloc (Nat.le_refl _) (.cells #[.string ⟨t.toArray⟩] 162)
   have hrow2:=heap_alloc_new w1 (.cells #[.string ⟨t.toArray⟩] 162)
   have gK:=(hb2.block w.heap.size (by omega)).trans gK
   have kJ:=hide (kJ.out.below hb2)
   have eO:=hide (eO.out.below hb2 (by omega))
   have hs2:(w1.alloc (.cells #[.string ⟨t.toArray⟩] 162)).heap.size=w1.heap.size+1:=by simp
   clear hb2
   obtain ⟨C1,hC1⟩:∃ C1,w1.heap.size=C1:=⟨_,rfl⟩
   simp only[Hv.gW,Option.getD_some,Option.isSome_some]
   go_wp2_with fail
   obtain ⟨w1',abW⟩:∃ u,w1.alloc (.cells #[.string ⟨t.toArray⟩] 162)=u:=⟨_,rfl⟩
   rw[abW] at hrow2 gK kJ eO hs2 ⊢
   rw[hC1] at hrow2 hs2 hs1
   clear abW
   have hf1:=kJ.out.files
   have m1:=(ah kJ.out.blk 1).trans (show _=some (.map (some fm)) from rfl)
   have c1:=(ah gK 1).trans (show _=some (.string ⟨x.toArray⟩) from rfl)
   obtain ⟨w',hrun,hM',ht⟩:=kJ.out.files.drew.store Tryz.underlying139 (by rw[Hv.fP];exact hG) x hx (Hv.gW t)
   simp only[Hv.gW] at hrun
   have hf:=aX ht
   have DK:Hid (aK mb pm fm P (Hv.aS (Hv.put G x t)) w'):=hide (by rw[Hv.lD HG.out];exact (show aK mb pm fm P (Hv.aS G) w1'.drew from ⟨kJ.out.blk,kJ.out.packs.drew,kJ.out.files.drew,kJ.out.apart⟩).file hM' ht)
   have NT:Hid (aQ w.heap.size (fun q=>q=fm) w w'):=hide (eO.out.drew.next hf (by simp;omega) (fun _ _ q=>q))
   have Pq:=(ah DK.out.blk 1).trans (show _=some (.map (some fm)) from rfl)
   obtain ⟨B,hB⟩:∃ B,w.heap.size=B:=⟨_,rfl⟩
   have hrw:w'.heap[B]? = w1'.heap[B]? := hf.block B (by simp;omega) (by omega)
   have q1:=(ah hrow2 0).trans (show _=some (.string ⟨t.toArray⟩) from rfl)
   have q2:=(ah ((hf.block C1 (by simp;omega) (by omega)).trans hrow2) 0).trans (show _=some (.string ⟨t.toArray⟩) from rfl)
   rw[hB] at gK c1 ⊢
   have e1:=(ah (hrw.trans gK) 1).trans (show _=some (.string ⟨x.toArray⟩) from rfl)
   clear hM' ht hf gK hrow2 hrw dF iV hf1
   go_region_held3 (fun w'=>w'.cell? ⟨mb,1,none⟩=some (.map (some fm))∧w'.cell? ⟨B,1,none⟩=some (.string ⟨x.toArray⟩)∧w'.cell? ⟨C1,0,none⟩=some (.string ⟨t.toArray⟩))
     (first | assumption | exact ⟨Pq,e1,q2⟩ | exact ⟨m1,c1,q1⟩ | simp[go_sem, *])
     (fail)
   go_wp2_with fail
   go_end0
   rw[HE.out]
   exact ⟨_,rfl,DK.out,NT.out⟩
def bK (cs:List gH):Prop:=∀ c∈cs,c.verb≠3
theorem zV {c:gH} (h:kY c):c.path.length≤24∧(c.verb=1∨c.verb=2→c.word.length≤16)∧(c.verb=3→c.ZC.length≤24):=by
 have hv:∀ x:S,Wd.isVar x=true→x.length≤24:=fun x h=>oh (by simp only[Wd.isVar,Bool.and_eq_true] at h;exact h.1)
 have hw:∀ x:S,Wd.isWord x=true→x.length≤16:=fun x h=>by simp only[Wd.isWord,Wd.gM,Bool.and_eq_true,decide_eq_true_eq] at h;omega
 rcases h with ⟨h1,h2,h3⟩ | ⟨h1,h2,h3⟩ | ⟨h1,h2⟩
 · exact ⟨hv _ h3,fun _=>hw _ h2,fun e=>by omega⟩
 · exact ⟨hv _ h3,fun e=>by omega,fun _=>oh h2⟩
 · exact ⟨hv _ h2,fun e=>by omega,fun e=>by omega⟩
theorem Zd (mb pm fm:Nat) (P:VM Value) (D:VM Hv.PD) (N:Nat→Prop) (G:VM S) (c:gH) (hc:kY c) (hcp:c.verb≠3∨mV) (hP1:P.length≤1000) (hG:G.length<maxLen) (hS:Hv.Short 100000000 G) (wv:Value) (wk:List S) (hwn:wk.length≤10000) (hwx:∀ x∈wk,x.length≤10000) (w:World) (h:aK mb pm fm P (Hv.aS G) w) (hP:dA N w D P) (hr:Reads w wv wk) :
   Calls Tryz.prog 228 #[.pointer (some ⟨mb,0,none⟩), .agg #[.int .i64 c.verb, .string ⟨c.path.toArray⟩, .string ⟨c.word.toArray⟩, .string ⟨c.ZC.toArray⟩],wv] w (pU mb pm fm P (Hv.rV D wk G c) w):=by
 obtain ⟨l1,l2,l3⟩:=zV hc
 have hx:c.path.length≤maxLen:=by unfold maxLen;omega
 obtain ⟨wa,wc,e, -⟩:=hr.form
 obtain ⟨v,x,y,z⟩:=c
 simp only at l1 l2 l3 hx ⊢
 have hv:v=1∨v=2∨v=3∨v=4∨v=5:=by
   rcases hc with ⟨h1,_⟩ | ⟨h1,_⟩ | ⟨h1,_⟩<;>simp only at h1<;>omega
 rcases hv with rfl | rfl | rfl | rfl | rfl
 · subst e
   exact Ze mb pm fm P G x y z hx hG wa _ wc w h
 · subst e
   have e:Hv.rV D wk G ⟨2,x,y,z⟩=Hv.put G x ((Hv.get G x).getD []++y):=by simp[Hv.rV]
   rw[e]
   have hy:y.length≤1000000:=by have:=l2 (.inr rfl);omega
   cases hq:Hv.get G x with
   | none=>exact Ht mb pm fm P G x y z hx hG hy hq wa _ wc w h
   | some t=>exact Hu mb pm fm P G x y z hx hG hy t (hS _ _ hq) hq wa _ wc w h
 · subst e
   have e:Hv.rV D wk G ⟨3,x,y,z⟩=AV D G x z:=by simp[Hv.rV,AV];rfl
   rw[e]
   exact V9 (hcp.resolve_left (by simp)) mb pm fm P D N G x y z hx (l3 rfl) hP1 hG wa _ wc w h hP
 · subst e
   have e:Hv.rV D wk G ⟨4,x,y,z⟩=Hv.del G x:=by simp[Hv.rV]
   rw[e]
   exact Wh mb pm fm P G x y z hx wa _ wc w h
 · have e:Hv.rV D wk G ⟨5,x,y,z⟩=Hv.put G x (bJ wk):=by simp[Hv.rV]
   rw[e]
   exact Wi mb pm fm P G x y z hx hG wv wk hwn hwx w h hr
theorem V4 {w:World} {B e:Nat} {v:Value} {l:List gH} (h:w.ownsRow B e 4 v l.length (l.flatMap rT)) {k:Nat} (hk:k<l.length) :
   ∃ g c,v = .slice (some ⟨g,0,none⟩) l.length c∧g<w.heap.size∧w.cell? ⟨g,k*4,none⟩=some (.int .i64 l[k].verb)∧w.cell? ⟨g,k*4+1,none⟩=some (.string ⟨l[k].path.toArray⟩)∧w.cell? ⟨g,k*4+2,none⟩=some (.string ⟨l[k].word.toArray⟩)∧w.cell? ⟨g,k*4+3,none⟩=some (.string ⟨l[k].ZC.toArray⟩):=by
 obtain ⟨g,cap,rfl⟩:=aP h (by omega)
 have key:∀ (l:List gH) (k:Nat) (hk:k<l.length) (j:Nat),j<4→(l.flatMap rT)[k*4+j]? = (rT l[k])[j]? := by
   intro l
   induction l with
   | nil=>intro k hk;simp at hk
   | cons c l ih =>
     intro k hk j hj
     rw[List.flatMap_cons]
     cases k with
     | zero=>rw[List.getElem?_append_left (by simp[rT];omega)];simp
     | succ k =>
       have hl:(rT c).length=4:=rfl
       rw[List.getElem?_append_right (by omega),hl,show (k+1)*4+j-4=k*4+j by omega]
       exact ih k (by simpa using hk) j hj
 refine ⟨g,cap,rfl,(h.lt g rfl).2,?_,?_,?_,?_⟩
 · rw[h.cellAt _ (by omega)];exact key l k hk 0 (by omega)
 · rw[h.cellAt _ (by omega)];exact key l k hk 1 (by omega)
 · rw[h.cellAt _ (by omega)];exact key l k hk 2 (by omega)
 · rw[h.cellAt _ (by omega)];exact key l k hk 3 (by omega)
theorem uq {w w':World} {b0 e size n b B:Nat} {v:Value} {xs:List Value} (h:w.ownsRow b0 e size v n xs) (hm:∀ cs t fz,w.heap[b]? ≠ some (.cells cs t fz)) (hf:aQ B (fun k=>k=b) w w') (hB:w.heap.size≤B):w'.ownsRow b0 e size v n xs:=by
 refine hf.own h hB fun g hg e' => ?_
 have e2:g=b:=e'
 subst e2
 rcases h.2 with ⟨rfl,_⟩ | ⟨g',cap,cur,rfl,_,q2,_⟩
 · cases hg
 · cases hg
   exact hm _ _ _ q2
structure RunIn (mb pm fm:Nat) (P:VM Value) (D:VM Hv.PD) (N:Nat→Prop) (G:VM S) (cv wv:Value) (cs:List gH) (wk:List S) (L:Nat) (w:World) (k:Nat) (wr:World):Prop where
 Kc:aK mb pm fm P (Hv.aS (Hv.fJ D wk G (cs.take k))) wr
 pk:dA N wr D P
 rd:Reads wr wv wk
 row:wr.ownsRow 0 317 4 cv cs.length (cs.flatMap rT)
 short:Hv.Short (L+16*k) (Hv.fJ D wk G (cs.take k))
 len:(Hv.fJ D wk G (cs.take k)).length≤G.length+k
 far:aQ w.heap.size (fun q=>q=fm) w wr
theorem RunIn.below {mb pm fm:Nat} {P:VM Value} {D:VM Hv.PD} {N:Nat→Prop} {G:VM S} {cv wv:Value} {cs:List gH} {wk:List S} {L k:Nat} {w wr w':World} (h:RunIn mb pm fm P D N G cv wv cs wk L w k wr) (hb:Below wr.heap.size wr w'):RunIn mb pm fm P D N G cv wv cs wk L w k w' :=
 ⟨h.Kc.below hb,h.pk.below hb,h.rd.below hb,own_below h.row hb,h.short,h.len,h.far.below hb h.far.size⟩
theorem RunIn.next {mb pm fm:Nat} {P:VM Value} {D:VM Hv.PD} {N:Nat→Prop} {G:VM S} {cv wv:Value} {cs:List gH} {wk:List S} {L k:Nat} {w wr w':World} (h:RunIn mb pm fm P D N G cv wv cs wk L w k wr) (hk:k<cs.length) (hc:cs[k].verb=1∨cs[k].verb=2→cs[k].word.length≤16) (hL:Hv.wM L D) (hw:(bJ wk).length≤L)
   (hm:aK mb pm fm P (Hv.aS (Hv.rV D wk (Hv.fJ D wk G (cs.take k)) cs[k])) w') (hf:aQ wr.heap.size (fun q=>q=fm) wr w'):RunIn mb pm fm P D N G cv wv cs wk L w (k+1) w':=by
 have e:Hv.fJ D wk G (cs.take (k+1))=Hv.rV D wk (Hv.fJ D wk G (cs.take k)) cs[k]:=by
   show List.foldl _ _ _=_
   rw[List.take_succ_eq_append_getElem hk,List.foldl_append]
   rfl
 have hn:=h.Kc.files.fG
 refine ⟨by rw[e];exact hm,h.pk.turned hn hf (Nat.le_refl _),h.rd.turned hn hf (Nat.le_refl _),uq h.row hn hf (Nat.le_refl _),?_,?_,h.far.next hf h.far.size (fun _ _ q=>q)⟩
 · rw[e]
   have hs:=Hv.bq h.Kc.files.1
   by_cases hv:cs[k].verb=1∨cs[k].verb=2
   · exact (Hv.qY (L:=L+16*k) (fun p hp f hf=>by have:=hL p hp f hf;omega) h.short hs (by omega) (hc hv)).mono (by omega)
   · have e2:Hv.rV D wk (Hv.fJ D wk G (cs.take k)) cs[k]=Hv.rV D wk (Hv.fJ D wk G (cs.take k)) { cs[k] with word:=[] }:=by
       unfold Hv.rV
       rw[if_neg (fun q=>hv (.inl q)),if_neg (fun q=>hv (.inr q)),if_neg (fun q=>hv (.inl q)),if_neg (fun q=>hv (.inr q))]
     rw[e2]
     exact (Hv.qY (L:=L+16*k) (fun p hp f hf=>by have:=hL p hp f hf;omega) h.short hs (by omega) (by simp)).mono (by omega)
 · rw[e]
   have:=Hv.V8 D wk (Hv.fJ D wk G (cs.take k)) cs[k]
   have:=h.len
   omega
theorem Ns (mb pm fm:Nat) (P:VM Value) (D:VM Hv.PD) (N:Nat→Prop) (G:VM S) (cs:List gH) (hcs:∀ c∈cs,kY c) (hcp:bK cs∨mV) (hcl:cs.length≤30) (hP1:P.length≤1000) (hG:G.length≤1000) (L:Nat) (hL:L≤1000000) (hFS:Hv.wM L D) (hS:Hv.Short L G) (cv wv:Value) (wk:List S) (hwn:wk.length≤1000) (hwx:∀ x∈wk,x.length≤100) (hwl:(bJ wk).length≤L) (w:World) (h:aK mb pm fm P (Hv.aS G) w) (hP:dA N w D P) (hr:Reads w wv wk) (hcr:w.ownsRow 0 317 4 cv cs.length (cs.flatMap rT)) :
   Calls Tryz.prog 187 #[.pointer (some ⟨mb,0,none⟩),cv,wv] w (pU mb pm fm P (Hv.fJ D wk G cs) w):=by
 obtain ⟨wa,wc,rfl, -⟩:=hr.form
 obtain ⟨ca,cc,rfl⟩:=slice_form hcr
 have HI0:Hid (RunIn mb pm fm P D N G (.slice ca cs.length cc) (.slice wa wk.length wc) cs wk L w 0 w):=hide ⟨h,hP,hr,hcr,by simpa [Hv.fJ] using hS,by simp[Hv.fJ],aQ.refl _ _ _⟩
 have oF:=hide hcs;have HX:=hide hwx;have HFS:=hide hFS;have YC:=hide hcp
 clear h hP hr hcr hcs hwx hFS hS hcp
 obtain ⟨n,hn⟩:∃ n,cs.length=n:=⟨_,rfl⟩
 have HN:=hide hn
 rw[hn] at hcl HI0 ⊢
 clear hn
 go_enter Tryz.func187,Tryz.ntmps187
 go_wp2_with fail
 go_loopw [10] (fun i wr=>∃ k:Nat,k≤n∧i = .int .i64 (k:Int)∧Hid (RunIn mb pm fm P D N G (.slice ca n cc) (.slice wa wk.length wc) cs wk L w k wr)) (fun i _=>n-(intOf i).toNat)
 case atStart=>exact ⟨0,Nat.zero_le _,rfl,HI0⟩
 case round =>
   clear HI0
   obtain ⟨k,hk,rfl,HI⟩:=hrel
   by_cases hlt:k<n
   · have b1:(k:Int)<(n:Int):=by omega
     have hnF:n=cs.length:=HN.out.symm
     have hkl:k<cs.length:=by omega
     obtain ⟨g,c',hv2,hg,q1,q2,q3,q4⟩:=V4 (by have:=HI.out.row;exact this) hkl
     obtain rfl:ca=some ⟨g,0,none⟩:=(Value.slice.inj hv2).1
     have hgood:=oF.out _ (List.getElem_mem hkl)
     have hcp:cs[k].verb≠3∨mV:=YC.out.imp (fun h=>h _ (List.getElem_mem hkl)) id
     obtain ⟨c,hc⟩:∃ c,cs[k]=c:=⟨_,rfl⟩
     have HCE:=hide hc
     rw[hc] at q1 q2 q3 q4 hgood hcp
     have hsl:(Hv.fJ D wk G (cs.take k)).length<maxLen:=by have:=HI.out.len;unfold maxLen;omega
     have HD:=hide (fun w' (h:RunIn mb pm fm P D N G (.slice (some ⟨g,0,none⟩) n cc) (.slice wa wk.length wc) cs wk L w k w')=>Zd mb pm fm P D N (Hv.fJ D wk G (cs.take k)) c hgood hcp hP1 hsl (h.short.mono (by omega)) (.slice wa wk.length wc) wk (by omega) (fun x hx=>by have:=HX.out x hx;omega) w' h.Kc h.pk h.rd)
     have HCL:=hide (zV hgood).2.1
     clear hc hv2 hgood hcp hnF
     obtain ⟨cv,cp,cw,cf⟩:=c
     simp only at q1 q2 q3 q4 HD
     go_wp2_with fail
     have HI2:=hide (HI.out.below ((Below.refl _ _).alloc (Nat.le_refl _) (.cells #[.int .i64 cv, .string ⟨cp.toArray⟩, .string ⟨cw.toArray⟩, .string ⟨cf.toArray⟩] 317)))
     refine (HD.out _ HI2.out).mono ?_
     rintro e w2 ⟨u,rfl,hm2,hf2⟩
     have HI3:Hid (RunIn mb pm fm P D N G (.slice (some ⟨g,0,none⟩) n cc) (.slice wa wk.length wc) cs wk L w (k+1) w2):=hide (HI2.out.next hkl (by rw[HCE.out];exact HCL.out) HFS.out hwl (by rw[HCE.out];exact hm2) hf2)
     clear hm2 hf2
     go_wp2_with fail
     go_roundw
     case rel=>exact ⟨k+1,by omega,by go_num,HI3⟩
     case measure=>simp[intOf];omega
   · obtain rfl:k=n:=by omega
     have b1 : ¬ (k:Int)<(k:Int):=by omega
     go_wp2_with fail
     go_end0
     have h:=HI.out.Kc
     rw[List.take_of_length_le (by have:=HN.out;omega)] at h
     exact ⟨_,rfl,h,HI.out.far⟩
end
end Go.Proofs.YtialenebfcnkkaaGreatDoor
