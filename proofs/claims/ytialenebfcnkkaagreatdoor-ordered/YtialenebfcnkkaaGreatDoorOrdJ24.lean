/- PlnW13, DoW1, DoW2 -/
import Derived.Test.YtialenebfcnkkaaGreatDoorOrdJ21
import Derived.Test.YtialenebfcnkkaaGreatDoorOrdJ22
import Derived.Test.YtialenebfcnkkaaGreatDoorOrdJ23
set_option maxHeartbeats 8000000
set_option maxRecDepth 100000
namespace Go.Proofs.YtialenebfcnkkaaGreatDoor
section
open Go.RowKit
open aH (St)
open Hv (S Dk VM)
structure gB (B:Nat) (pl:Hv.Plan) (sv:Value) (im km:Nat) (w:World):Prop where
 row:w.ownsRow B 285 2 sv pl.steps.length (pl.steps.flatMap mG)
 ins:∃ I,MapAt w im I∧dA (fun g=>B≤g) w pl.ins I
 cO:∃ K,MapAt w km K∧kL (fun g=>B≤g) w pl.cO K
 ge:B≤im∧B≤km
theorem QJ (tm:Nat) (E:VM Value) (DT:VM Hv.PD) (N:Nat→Prop) (ch:List S) (hch:ch.length≤1000) (hcx:∀ x∈ch,x.length≤24) (hE:E.length≤1000) (v:Value) (w:World) (ht:MapAt w tm E) (hP:dA N w DT E) (hv:w.ownsRow 0 9 1 v ch.length (ch.map aO)) :
   Calls Tryz.prog 124 #[.map (some tm),v] w fun e w'=>∃ km K,e = .returned (.map (some km))∧MapAt w' km K∧kL (fun g=>w.heap.size<g) w' (dN DT ch) K∧w.heap.size≤km∧Below w.heap.size w w':=by
 refine (MF tm E DT N ch hch hcx hE v w ht hP hv).mono ?_
 rintro e w' ⟨K,rfl,h1,h2,h3⟩
 exact ⟨_,K,rfl,h1,h2,Nat.le_refl _,h3⟩
def Leaving (D:VM Hv.PD) (R:VM Value) (left:S→Bool) (L:VM Hv.PD):Prop:=∀ k,Hv.get L k=if Hv.has R k=true∧left k=false then Hv.get D k else none
structure nH (u:World) (A im km Lb:Nat) (wk:VM (List S)) (K:VM Value) (N:Nat→Prop) (LD:VM Hv.PD) (L:VM Value) (so:Value) (st:List Hv.Step) (W:World):Prop where
 bA:Below u.heap.size u W
 plan:W.heap[A]? = some (.cells #[so, .map (some im), .map (some km)] 89 (0,0))
 row:W.ownsRow (A+1) 285 2 so st.length (st.flatMap mG)
 FP:MapAt W km K
 cO:kL (fun g=>u.heap.size≤g) W wk K
 lmap:MapAt W Lb L
 Yj:dA N W LD L
 ge:u.heap.size≤A∧A<Lb∧km<Lb
theorem nH.start {u W:World} {A im km:Nat} {wk:VM (List S)} {K:VM Value} {N:Nat→Prop} (hb:Below u.heap.size u W) (hp:W.heap[A]? = some (.cells #[.slice none 0 0, .map (some im), .map (some km)] 89 (0,0))) (hk:MapAt W km K) (hw:kL (fun g=>u.heap.size≤g) W wk K) (hA:u.heap.size≤A) (hm:MapAt (W.alloc (.map #[] 0)) W.heap.size []):nH u A im km W.heap.size wk K N [] [] (.slice none 0 0) [] (W.alloc (.map #[] 0)):=by
 have hbl:=(Below.refl W.heap.size W).alloc (Nat.le_refl _) (.map #[] 0)
 exact ⟨hb.trans (hbl.mono hb.size),(hbl.block A (blt hp)).trans hp,World.ownsRow_nil _ _ _ _,hk.below hbl,hw.below hbl,hm,dA.nil _ _,hA,blt hp,hk.lt⟩
theorem nH.below {u W W':World} {A im km Lb:Nat} {wk:VM (List S)} {K:VM Value} {N:Nat→Prop} {LD:VM Hv.PD} {L:VM Value} {so:Value} {st:List Hv.Step} (h:nH u A im km Lb wk K N LD L so st W) (hb:Below W.heap.size W W'):nH u A im km Lb wk K N LD L so st W' :=
 ⟨h.bA.trans (hb.mono h.bA.size),(hb.block A (blt h.plan)).trans h.plan,own_below h.row hb,h.FP.below hb,h.cO.below hb,h.lmap.below hb,h.Yj.below hb,h.ge⟩
theorem nH.leave {u W W':World} {A im km Lb:Nat} {wk:VM (List S)} {K:VM Value} {N:Nat→Prop} {LD LD':VM Hv.PD} {L L':VM Value} {so:Value} {st:List Hv.Step} (h:nH u A im km Lb wk K N LD L so st W) (hm:MapAt W' Lb L') (ht:W.mapTurned W' Lb) (hp:dA N W LD' L'):nH u A im km Lb wk K N LD' L' so st W':=by
 have hf:=aX ht
 have hn:=h.lmap.fG
 obtain ⟨g1,g2,g3⟩:=h.ge
 exact ⟨h.bA.trans (hf.toBelow h.bA.size (fun q hq (e:q=Lb)=>by omega)),(hf.block A (blt h.plan) (by omega)).trans h.plan,uq h.row hn hf (Nat.le_refl _),h.FP.far hf (Nat.le_refl _) (by omega),h.cO.turned hn hf (Nat.le_refl _),hm,hp.turned hn hf (Nat.le_refl _),h.ge⟩
theorem nH.iter {u W W':World} {A im km Lb b:Nat} {wk:VM (List S)} {K:VM Value} {N:Nat→Prop} {LD:VM Hv.PD} {L:VM Value} {so:Value} {st:List Hv.Step} (h:nH u A im km Lb wk K N LD L so st W) (hn:∀ cs t fz,W.heap[b]? ≠ some (.cells cs t fz)) (hf:aQ W.heap.size (fun k=>k=b) W W') (hb:Lb<b:=by omega):nH u A im km Lb wk K N LD L so st W':=by
 obtain ⟨g1,g2,g3⟩:=h.ge
 exact ⟨h.bA.trans (hf.toBelow h.bA.size (fun q hq (e:q=b)=>by omega)),(hf.block A (blt h.plan) (by omega)).trans h.plan,uq h.row hn hf (Nat.le_refl _),h.FP.far hf (Nat.le_refl _) (by omega),h.cO.turned hn hf (Nat.le_refl _),h.lmap.far hf (Nat.le_refl _) (by omega),h.Yj.turned hn hf (Nat.le_refl _),h.ge⟩
theorem Kr {D:VM Hv.PD} {R:VM Value} (h:Hv.jY D R=false) {k:S} (hk:Hv.has R k=true):Hv.has D k=true:=by
 obtain ⟨p,hp,e⟩:=List.any_eq_true.1 hk
 simp only[beq_iff_eq] at e
 cases q:Hv.has D k with
 | true=>rfl
 | false =>
   exfalso
   have:Hv.jY D R=true:=List.any_eq_true.2 ⟨p,hp,by rw[e,q];rfl⟩
   rw[h] at this
   cases this
theorem nH.M6 {u W:World} {A im km Lb sc:Nat} {wk:VM (List S)} {K:VM Value} {N:Nat→Prop} {LD:VM Hv.PD} {L:VM Value} {so:Option Addr} {st:List Hv.Step} (h:nH u A im km Lb wk K N LD L (.slice so st.length sc) st W):kX W (fun q=>q=A∨(Value.slice so st.length sc).ownBlock=some q) (fun t=>t=89∨t=285):=fun g hg=>by
 rcases hg with rfl | hg
 · exact ⟨_,_,_,h.plan, .inl rfl⟩
 · obtain ⟨cs,q⟩:=jv h.row hg
   exact ⟨cs,_,_,q, .inr rfl⟩
theorem NG:∀ t:Nat,(t=89∨t=285)→∀ i,t≠pty i:=fun t ht i=>by
 rcases ht with rfl | rfl
 · exact Mg (by decide) (by decide) (by decide) (by decide) i
 · exact Mg (by decide) (by decide) (by decide) (by decide) i
theorem Gb:∀ t:Nat,(t=89∨t=285)→t≠9:=fun t ht=>by
 rcases ht with rfl | rfl<;>decide
theorem nH.added {u W W':World} {A im km Lb sc:Nat} {wk:VM (List S)} {K:VM Value} {N:Nat→Prop} {LD:VM Hv.PD} {L:VM Value} {so:Option Addr} {st st':List Hv.Step} {Dw:Value} (h:nH u A im km Lb wk K N LD L (.slice so st.length sc) st W) (hp:W'.heap[A]? = some (.cells #[Dw, .map (some im), .map (some km)] 89 (0,0))) (hr:W'.ownsRow (A+1) 285 2 Dw st'.length (st'.flatMap mG)) (hf:aQ W.heap.size (fun q=>q=A∨(Value.slice so st.length sc).ownBlock=some q) W W'):nH u A im km Lb wk K N LD L Dw st' W':=by
 obtain ⟨g1,g2,g3⟩:=h.ge
 have hc:=h.M6
 exact ⟨h.bA.trans (hf.toBelow h.bA.size (fun q hq e=>by
   rcases e with e | e
   · omega
   · have:=(h.row.lt q e).1;omega)),hp,hr,hc.map h.FP hf (Nat.le_refl _),h.cO.foreign hf (Nat.le_refl _) (hc.no Gb),hc.map h.lmap hf (Nat.le_refl _),h.Yj.foreign hf (Nat.le_refl _) (hc.aae NG),h.ge⟩
theorem nH.str {u W W':World} {A im km Lb sc b n:Nat} {wk:VM (List S)} {K:VM Value} {N:Nat→Prop} {LD:VM Hv.PD} {L:VM Value} {so:Option Addr} {st:List Hv.Step} {v:Value} {xs:List Value} (h:nH u A im km Lb wk K N LD L (.slice so st.length sc) st W) (hf:aQ W.heap.size (fun q=>q=A∨(Value.slice so st.length sc).ownBlock=some q) W W') (ho:W.ownsRow b 9 1 v n xs):W'.ownsRow b 9 1 v n xs :=
 qD ho hf (Nat.le_refl _) (h.M6.no Gb)
theorem aao {u W:World} {A im km Lb b:Nat} {wk:VM (List S)} {K E:VM Value} {N:Nat→Prop} {LD:VM Hv.PD} {L:VM Value} {so:Value} {st:List Hv.Step} (h:nH u A im km Lb wk K N LD L so st W) (hm:MapAt u b E) : ¬ b=Lb:=by
 have h1:=h.ge
 have h2:=hm.lt
 omega
theorem Po {D:VM Hv.PD} (hs:Hv.aM D) {R:VM Value} {n:S} (h:Hv.has (Hv.leaveD D R) n=true):Hv.has D n=true:=by
 rw[Hv.aB,Hv.iC hs] at h
 rw[Hv.aB]
 split at h
 · exact h
 · cases h
theorem x9 (D:VM Hv.PD) (ch:List S):(dN D ch).length≤D.length:=List.length_filterMap_le _ _
theorem Leaving.step {D LD:VM Hv.PD} {R:VM Value} {left:S→Bool} (h:Leaving D R left LD) (hs:Hv.aM LD) {k:S} {d:Hv.PD} (hk:Hv.has R k=true) (hd:Hv.get D k=some d):Leaving D R (fun z=>left z && !(z==k)) (Hv.put LD k d):=fun k'=>by
 by_cases e:k'=k
 · subst e
   rw[Hv.aD hs,if_pos ⟨hk,by simp⟩,hd]
 · rw[Hv.av hs _ e,h k']
   have:(left k' && !(k'==k))=left k':=by simp[e]
   simp only[this]
theorem Ti (mb pm fm rm im:Nat) (P F R I:VM Value) (D DI:VM Hv.PD) (N:Nat→Prop) (B0:Nat) (hR:ku R) (hRl:R.length≤12) (hIl:I.length≤12) (sF:P.length≤12) (hab:Hv.jY D R=false) (hnD:Hv.Named D) (hnI:Hv.Named DI) (w:World) (hm:aK mb pm fm P F w) (hw:fM rm im R I w) (hP:dA N w D P) (hI:dA (fun g=>B0≤g) w DI I) (hB0:B0≤im∧B0≤w.heap.size) :
   Calls Tryz.prog 67 #[.pointer (some ⟨mb,0,none⟩), .agg #[.map (some rm), .map (some im)]] w fun e w'=>∃ sv km,e = .returned (.agg #[sv, .map (some im), .map (some km)])∧gB B0 (Hv.bf D R DI) sv im km w'∧Below w.heap.size w w':=by
 have hmm := @run_makeMap Tryz.prog
 have HM:=hide hm;have HW:=hide hw;have eU:=hide hP;have Gp:=hide hI;have HRU:=hide hR
 have hb0:=(Below.refl w.heap.size w).alloc (Nat.le_refl _) (.cells #[.map (some rm), .map (some im)] 135)
 have hb1:=hb0.alloc (by simp) (.cells #[.slice none 0 0, .map none, .map none] 89)
 have hr0:=heap_alloc_new w (.cells #[.map (some rm), .map (some im)] 135)
 have hs0:(w.alloc (.cells #[.map (some rm), .map (some im)] 135)).heap.size=w.heap.size+1:=by simp
 have hr1:=(Below.heap_alloc (w.alloc (.cells #[.map (some rm), .map (some im)] 135)) (.cells #[.slice none 0 0, .map none, .map none] 89) w.heap.size (by simp)).trans hr0
 have hq1:=heap_alloc_new (w.alloc (.cells #[.map (some rm), .map (some im)] 135)) (.cells #[.slice none 0 0, .map none, .map none] 89)
 rw[hs0] at hq1
 have hs1:((w.alloc (.cells #[.map (some rm), .map (some im)] 135)).alloc (.cells #[.slice none 0 0, .map none, .map none] 89)).heap.size=w.heap.size+2:=by simp
 have HUU:=hide hw.rem
 have hrl:=hw.rem.lt
 have hil:=hw.ins.lt
 have hml:=blt hm.blk
 have hpl:=hm.packs.lt
 clear hm hw hP hI hR hb0 hr0 hs0
 go_enter Tryz.func67,Tryz.ntmps67
 go_wp2_with fail
 obtain ⟨u,hu⟩:∃ u,(w.alloc (.cells #[.map (some rm), .map (some im)] 135)).alloc (.cells #[.slice none 0 0, .map none, .map none] 89)=u:=⟨_,rfl⟩
 obtain ⟨B,hB⟩:∃ B,w.heap.size=B:=⟨_,rfl⟩
 rw[hu] at hb1 hr1 hq1 hs1 ⊢
 have HB1:=hide hb1
 have kJ:=hide (HM.out.below hb1)
 have HW1:=hide (HW.out.below hb1)
 have jD:=hide (eU.out.below hb1)
 have HI1:=hide (Gp.out.below hb1)
 rw[hB] at hr1 hq1 hs1 hrl hil hml hpl HB1 hB0 ⊢
 have HR1:=hide hr1;have Rk:=hide hq1
 have m0:=(ah kJ.out.blk 0).trans (show _=some (.map (some pm)) from rfl)
 have c0:=(ah hr1 0).trans (show _=some (.map (some rm)) from rfl)
 have c1:=(ah hr1 1).trans (show _=some (.map (some im)) from rfl)
 have pV:=hide hB
 clear hu hb1 hr1 hq1 hB
 have acP:(keysOf (aT D R DI)).length≤1000:=by have:=vw hnD hnI Gp.out.dU R;have:=Gp.out.len HW.out.ins.1;omega
 have acu:=hide (sj hnD hnI Gp.out.dU R)
 have acQ:(pF P R I).length≤1000:=by have:=Cu P R I;omega
 have aa3:=hide (Hv.iO I (Hv.cut P R) (Hv.iK R P HM.out.packs.1))
 have Y3:=hide ((jD.out.weak (N':=fun g=>N g∨B0≤g) (fun g h => .inl h)).acf HM.out.packs.1 (HI1.out.weak (N':=fun g=>N g∨B0≤g) (fun g h => .inr h)) HW.out.ins.1 R)
 have hmk:∀ w',Below u.heap.size u w'→(Below u.heap.size u w'∧w'.cell? ⟨mb,0,none⟩=some (.map (some pm))∧w'.cell? ⟨B,0,none⟩=some (.map (some rm))∧w'.cell? ⟨B,1,none⟩=some (.map (some im))):=fun w' h =>
   ⟨h,(ah (kJ.out.below h).blk 0).trans rfl,(ah ((h.block B (by omega)).trans HR1.out) 0).trans rfl,(ah ((h.block B (by omega)).trans HR1.out) 1).trans rfl⟩
 have MP:Hid (∀ wx w',(Below u.heap.size u wx∧wx.cell? ⟨mb,0,none⟩=some (.map (some pm))∧wx.cell? ⟨B,0,none⟩=some (.map (some rm))∧wx.cell? ⟨B,1,none⟩=some (.map (some im)))→Below wx.heap.size wx w'→(Below u.heap.size u w'∧w'.cell? ⟨mb,0,none⟩=some (.map (some pm))∧w'.cell? ⟨B,0,none⟩=some (.map (some rm))∧w'.cell? ⟨B,1,none⟩=some (.map (some im)))):=hide fun wx w' h h'=>hmk w' (h.1.trans (h'.mono h.1.size))
 have Ae:Hid (∀ wx A i v,(Below u.heap.size u wx∧wx.cell? ⟨mb,0,none⟩=some (.map (some pm))∧wx.cell? ⟨B,0,none⟩=some (.map (some rm))∧wx.cell? ⟨B,1,none⟩=some (.map (some im)))→u.heap.size≤A→(Below u.heap.size u (wx.setCell ⟨A,i,none⟩ v)∧(wx.setCell ⟨A,i,none⟩ v).cell? ⟨mb,0,none⟩=some (.map (some pm))∧(wx.setCell ⟨A,i,none⟩ v).cell? ⟨B,0,none⟩=some (.map (some rm))∧(wx.setCell ⟨A,i,none⟩ v).cell? ⟨B,1,none⟩=some (.map (some im)))):=hide fun wx A i v h h'=>hmk _ (h.1.setCell h' _)
 have Vp:Hid (∀ wx o o',(Below u.heap.size u (World.alloc wx o)∧(World.alloc wx o).cell? ⟨mb,0,none⟩=some (.map (some pm))∧(World.alloc wx o).cell? ⟨B,0,none⟩=some (.map (some rm))∧(World.alloc wx o).cell? ⟨B,1,none⟩=some (.map (some im)))→u.heap.size≤wx.heap.size→(Below u.heap.size u (World.alloc wx o')∧(World.alloc wx o').cell? ⟨mb,0,none⟩=some (.map (some pm))∧(World.alloc wx o').cell? ⟨B,0,none⟩=some (.map (some rm))∧(World.alloc wx o').cell? ⟨B,1,none⟩=some (.map (some im)))):=hide fun wx o o' h h'=>hmk _ ⟨h.1.os,h.1.tape,h.1.output,by simp;omega,fun k hk=>((Below.heap_alloc wx o' k (by omega)).trans (Below.heap_alloc wx o k (by omega)).symm).trans (h.1.block k hk)⟩
 have Gj:=hide (hmk u.drew ((Below.refl _ u).drew))
 have aeP:B+2≤u.heap.size:=by omega
 have aeQ:u.heap.size≤B+2:=by omega
 have abv:w.heap.size=B:=pV.out
 have acr:=hide abv
 clear hmk m0 c0 c1 hs1 abv
 go_region_held3 (fun w'=>Below u.heap.size u w'∧w'.cell? ⟨mb,0,none⟩=some (.map (some pm))∧w'.cell? ⟨B,0,none⟩=some (.map (some rm))∧w'.cell? ⟨B,1,none⟩=some (.map (some im)))
   (first | exact Gj.out | exact MP.out _ _ (by assumption) hb2 | exact MP.out _ _ (by assumption) hb3 | exact MP.out _ _ (by assumption) hb4 | exact MP.out _ _ (by assumption) ((Below.refl _ _).alloc (Nat.le_refl _) _) | exact Vp.out _ _ _ (by assumption) (by omega) | exact Ae.out _ _ _ _ (by assumption) (by omega) | exact Ae.out _ _ _ _ (Ae.out _ _ _ _ (Ae.out _ _ _ _ (by assumption) (by omega)) (by omega)) (by omega))
   (first
     | (go_at_call 118;refine (JW pm rm im P R I HRU.out Gp.out.Ry _ (kJ.out.below (And.left (by assumption))).packs (HW1.out.below (And.left (by assumption))).rem (HW1.out.below (And.left (by assumption))).ins (by omega)).mono ?_;rintro e w2 ⟨tm,rfl,ht2,htm,hb2⟩;have hs2:u.heap.size≤w2.heap.size:=(by have h:=hb2.size;first | exact h | (simp at h;omega)); (try have abS:u.heap.size+1≤w2.heap.size:=(by have h:=hb2.size;simp at h;omega)); (try have q2:=(hb2.block u.heap.size (by simp)).trans (heap_alloc_new u.drew (.cells #[.slice none 0 0, .map none, .map none] 89))))
     | (go_at_call 125;refine (wT mb pm fm rm im P F R I D DI N (fun g=>B0≤g) HRU.out (by omega) (by omega) _ (kJ.out.below (And.left (by assumption))) (HW1.out.below (And.left (by assumption))) (jD.out.below (And.left (by assumption))) (HI1.out.below (And.left (by assumption)))).mono ?_;rintro e w3 ⟨cv,rfl,hc3,hb3⟩;obtain ⟨ca,cc,rfl⟩:=slice_form hc3;have hs3:w2.heap.size≤w3.heap.size:=(by have h:=hb3.size;first | exact h | (simp at h;omega)); (try have abT:w2.heap.size+1≤w3.heap.size:=(by have h:=hb3.size;simp at h;omega)); (try have q3:=(hb3.block w2.heap.size (by simp)).trans (heap_alloc_new w2 (.cells #[.slice none 0 0, .map none, .map none] 89))); (try have q3:=(hb3.block u.heap.size (blt q2)).trans q2))
     | (go_at_call 124;refine (QJ tm (pF P R I) (Hv.aR D R DI) (fun g=>N g∨B0≤g) (keysOf (aT D R DI)) acP acu.out acQ _ _ (by first | exact ht2.below hb3 | exact (ht2.below hb3).alloc _ | exact (ht2.alloc _).below hb3) (Y3.out.below (And.left (by assumption))) (by first | exact bN hc3 (Nat.zero_le _) | exact (bN hc3 (Nat.zero_le _)).alloc _)).mono ?_;rintro e w4 ⟨km,K,rfl,hk4,hw4,hkm,hb4⟩;have hs4:w3.heap.size≤w4.heap.size:=(by have h:=hb4.size;first | exact h | (simp at h;omega));have Wu:Below u.heap.size u w4:=(fun (h:Below u.heap.size u _)=>h.trans (hb4.mono h.size)) (And.left (by assumption)); (try have q4:=(hb4.block w3.heap.size (by simp)).trans (heap_alloc_new w3 (.cells #[.slice none 0 0, .map none, .map none] 89))); (try have q4:=(hb4.block _ (blt q3)).trans q3); (try have z0:=(ah q4 0).trans (show _=some (.slice none 0 0) from rfl)); (try have z1:=(ah q4 1).trans (show _=some (.map none) from rfl)); (try have z2:=(ah q4 2).trans (show _=some (.map none) from rfl)); (try have y0:=ak q4 0); (try have y1:=ak q4 1); (try have y2:=ak q4 2)))
 all_goals first
   | (have hEk:u.heap.size≤w4.heap.size:=(by omega)
      have hKk:u.heap.size≤km:=(by have h:=hkm; (try simp at h);omega)
      obtain ⟨A,hA⟩:∃ A,w4.heap.size=A:=⟨_,rfl⟩
      have hEA:u.heap.size≤A:=(by omega)
      have Gt:Hid ((w4.alloc (.cells #[.slice none 0 0, .map (some im), .map (some km)] 89)).heap[w4.heap.size]? = some (.cells #[.slice none 0 0, .map (some im), .map (some km)] 89 (0,0))):=hide (heap_alloc_new w4 _)
      have XL:Hid (MapAt (w4.alloc (.cells #[.slice none 0 0, .map (some im), .map (some km)] 89)) km K):=hide (hk4.alloc _)
      have XU:Hid (kL (fun g=>u.heap.size≤g) (w4.alloc (.cells #[.slice none 0 0, .map (some im), .map (some km)] 89)) (dN (Hv.aR D R DI) (keysOf (aT D R DI))) K):=hide ((hw4.weak (fun g hg=>by have:=hg;omega)).below ((Below.refl w4.heap.size w4).alloc (Nat.le_refl _) _))
      have mM:Hid (Below u.heap.size u (w4.alloc (.cells #[.slice none 0 0, .map (some im), .map (some km)] 89))):=hide (Wu.alloc (by omega) _)
      obtain ⟨W,hW⟩:∃ W,w4.alloc (.cells #[.slice none 0 0, .map (some im), .map (some km)] 89)=W:=⟨_,rfl⟩
      rw[hW] at Gt XL XU mM ⊢
      rw[hA] at Gt ⊢
      clear hW)
   | (have hEk:u.heap.size≤w3.heap.size:=(by omega)
      have hKk:u.heap.size≤km:=(by have h:=hkm; (try simp at h);omega)
      obtain ⟨A,hA⟩:∃ A,w3.heap.size=A:=⟨_,rfl⟩
      have hEA:u.heap.size≤A:=(by omega)
      have Gt:Hid ((((w4.setCell ⟨w3.heap.size,0,none⟩ (.slice none 0 0)).setCell ⟨w3.heap.size,1,none⟩ (.map (some im))).setCell ⟨w3.heap.size,2,none⟩ (.map (some km))).heap[w3.heap.size]? = some (.cells #[.slice none 0 0, .map (some im), .map (some km)] 89 (0,0))):=hide (heap_setCell_same _ _ 2 _ _ _ (heap_setCell_same _ _ 1 _ _ _ (heap_setCell_same _ _ 0 _ _ _ q4)))
      have XL:Hid (MapAt (((w4.setCell ⟨w3.heap.size,0,none⟩ (.slice none 0 0)).setCell ⟨w3.heap.size,1,none⟩ (.map (some im))).setCell ⟨w3.heap.size,2,none⟩ (.map (some km))) km K):=hide (((hk4.set (show km≠w3.heap.size by have h:=hkm; (try simp at h);omega) _).set (show km≠w3.heap.size by have h:=hkm; (try simp at h);omega) _).set (show km≠w3.heap.size by have h:=hkm; (try simp at h);omega) _)
      have XU:Hid (kL (fun g=>u.heap.size≤g) (((w4.setCell ⟨w3.heap.size,0,none⟩ (.slice none 0 0)).setCell ⟨w3.heap.size,1,none⟩ (.map (some im))).setCell ⟨w3.heap.size,2,none⟩ (.map (some km))) (dN (Hv.aR D R DI) (keysOf (aT D R DI))) K):=hide ((hw4.far ((((aQ.refl w4.heap.size (fun q=>q=w3.heap.size) w4).setCell (p:=⟨w3.heap.size,0,none⟩) (.inr rfl) _).setCell (p:=⟨w3.heap.size,1,none⟩) (.inr rfl) _).setCell (p:=⟨w3.heap.size,2,none⟩) (.inr rfl) _) (Nat.le_refl _) (fun g _ hg e=>by have h:=hg; (try simp only at h);have e2:g=w3.heap.size:=e; (try simp at h);omega)).weak (fun g hg=>by have h:=hg; (try simp at h);omega))
      have mM:Hid (Below u.heap.size u (((w4.setCell ⟨w3.heap.size,0,none⟩ (.slice none 0 0)).setCell ⟨w3.heap.size,1,none⟩ (.map (some im))).setCell ⟨w3.heap.size,2,none⟩ (.map (some km)))):=hide (((Wu.setCell (by assumption) _).setCell (by assumption) _).setCell (by assumption) _)
      obtain ⟨W,hW⟩:∃ W,((w4.setCell ⟨w3.heap.size,0,none⟩ (.slice none 0 0)).setCell ⟨w3.heap.size,1,none⟩ (.map (some im))).setCell ⟨w3.heap.size,2,none⟩ (.map (some km))=W:=⟨_,rfl⟩
      rw[hW] at Gt XL XU mM ⊢
      rw[hA] at Gt ⊢
      clear hW)
   | (have hEk:u.heap.size≤w2.heap.size:=(by omega)
      have hKk:u.heap.size≤km:=(by have h:=hkm; (try simp at h);omega)
      obtain ⟨A,hA⟩:∃ A,w2.heap.size=A:=⟨_,rfl⟩
      have hEA:u.heap.size≤A:=(by omega)
      have Gt:Hid ((((w4.setCell ⟨w2.heap.size,0,none⟩ (.slice none 0 0)).setCell ⟨w2.heap.size,1,none⟩ (.map (some im))).setCell ⟨w2.heap.size,2,none⟩ (.map (some km))).heap[w2.heap.size]? = some (.cells #[.slice none 0 0, .map (some im), .map (some km)] 89 (0,0))):=hide (heap_setCell_same _ _ 2 _ _ _ (heap_setCell_same _ _ 1 _ _ _ (heap_setCell_same _ _ 0 _ _ _ q4)))
      have XL:Hid (MapAt (((w4.setCell ⟨w2.heap.size,0,none⟩ (.slice none 0 0)).setCell ⟨w2.heap.size,1,none⟩ (.map (some im))).setCell ⟨w2.heap.size,2,none⟩ (.map (some km))) km K):=hide (((hk4.set (show km≠w2.heap.size by have h:=hkm; (try simp at h);omega) _).set (show km≠w2.heap.size by have h:=hkm; (try simp at h);omega) _).set (show km≠w2.heap.size by have h:=hkm; (try simp at h);omega) _)
      have XU:Hid (kL (fun g=>u.heap.size≤g) (((w4.setCell ⟨w2.heap.size,0,none⟩ (.slice none 0 0)).setCell ⟨w2.heap.size,1,none⟩ (.map (some im))).setCell ⟨w2.heap.size,2,none⟩ (.map (some km))) (dN (Hv.aR D R DI) (keysOf (aT D R DI))) K):=hide ((hw4.far ((((aQ.refl w4.heap.size (fun q=>q=w2.heap.size) w4).setCell (p:=⟨w2.heap.size,0,none⟩) (.inr rfl) _).setCell (p:=⟨w2.heap.size,1,none⟩) (.inr rfl) _).setCell (p:=⟨w2.heap.size,2,none⟩) (.inr rfl) _) (Nat.le_refl _) (fun g _ hg e=>by have h:=hg; (try simp only at h);have e2:g=w2.heap.size:=e; (try simp at h);omega)).weak (fun g hg=>by have h:=hg; (try simp at h);omega))
      have mM:Hid (Below u.heap.size u (((w4.setCell ⟨w2.heap.size,0,none⟩ (.slice none 0 0)).setCell ⟨w2.heap.size,1,none⟩ (.map (some im))).setCell ⟨w2.heap.size,2,none⟩ (.map (some km)))):=hide (((Wu.setCell (by assumption) _).setCell (by assumption) _).setCell (by assumption) _)
      obtain ⟨W,hW⟩:∃ W,((w4.setCell ⟨w2.heap.size,0,none⟩ (.slice none 0 0)).setCell ⟨w2.heap.size,1,none⟩ (.map (some im))).setCell ⟨w2.heap.size,2,none⟩ (.map (some km))=W:=⟨_,rfl⟩
      rw[hW] at Gt XL XU mM ⊢
      rw[hA] at Gt ⊢
      clear hW)
   | (have hEk:u.heap.size≤u.heap.size:=(by omega)
      have hKk:u.heap.size≤km:=(by have h:=hkm; (try simp at h);omega)
      obtain ⟨A,hA⟩:∃ A,u.heap.size=A:=⟨_,rfl⟩
      have hEA:u.heap.size≤A:=(by omega)
      have Gt:Hid ((((w4.setCell ⟨u.heap.size,0,none⟩ (.slice none 0 0)).setCell ⟨u.heap.size,1,none⟩ (.map (some im))).setCell ⟨u.heap.size,2,none⟩ (.map (some km))).heap[u.heap.size]? = some (.cells #[.slice none 0 0, .map (some im), .map (some km)] 89 (0,0))):=hide (heap_setCell_same _ _ 2 _ _ _ (heap_setCell_same _ _ 1 _ _ _ (heap_setCell_same _ _ 0 _ _ _ q4)))
      have XL:Hid (MapAt (((w4.setCell ⟨u.heap.size,0,none⟩ (.slice none 0 0)).setCell ⟨u.heap.size,1,none⟩ (.map (some im))).setCell ⟨u.heap.size,2,none⟩ (.map (some km))) km K):=hide (((hk4.set (show km≠u.heap.size by have h:=hkm; (try simp at h);omega) _).set (show km≠u.heap.size by have h:=hkm; (try simp at h);omega) _).set (show km≠u.heap.size by have h:=hkm; (try simp at h);omega) _)
      have XU:Hid (kL (fun g=>u.heap.size≤g) (((w4.setCell ⟨u.heap.size,0,none⟩ (.slice none 0 0)).setCell ⟨u.heap.size,1,none⟩ (.map (some im))).setCell ⟨u.heap.size,2,none⟩ (.map (some km))) (dN (Hv.aR D R DI) (keysOf (aT D R DI))) K):=hide ((hw4.far ((((aQ.refl w4.heap.size (fun q=>q=u.heap.size) w4).setCell (p:=⟨u.heap.size,0,none⟩) (.inr rfl) _).setCell (p:=⟨u.heap.size,1,none⟩) (.inr rfl) _).setCell (p:=⟨u.heap.size,2,none⟩) (.inr rfl) _) (Nat.le_refl _) (fun g _ hg e=>by have h:=hg; (try simp only at h);have e2:g=u.heap.size:=e; (try simp at h);omega)).weak (fun g hg=>by have h:=hg; (try simp at h);omega))
      have mM:Hid (Below u.heap.size u (((w4.setCell ⟨u.heap.size,0,none⟩ (.slice none 0 0)).setCell ⟨u.heap.size,1,none⟩ (.map (some im))).setCell ⟨u.heap.size,2,none⟩ (.map (some km)))):=hide (((Wu.setCell (by assumption) _).setCell (by assumption) _).setCell (by assumption) _)
      obtain ⟨W,hW⟩:∃ W,((w4.setCell ⟨u.heap.size,0,none⟩ (.slice none 0 0)).setCell ⟨u.heap.size,1,none⟩ (.map (some im))).setCell ⟨u.heap.size,2,none⟩ (.map (some km))=W:=⟨_,rfl⟩
      rw[hW] at Gt XL XU mM ⊢
      rw[hA] at Gt ⊢
      clear hW)
 all_goals
   clear hA
   have HS5:=mM.out.size
   have hrw:=(mM.out.block B (by omega)).trans HR1.out
   have hBW:B<W.heap.size:=by omega
   have hAW:=blt Gt.out
   have hbl:=(Below.refl W.heap.size W).alloc (Nat.le_refl _) (.map #[] 0)
   have Gi:=hide (MapAt.made W)
   have c0:=(ah ((hbl.block B hBW).trans hrw) 0).trans (show _=some (.map (some rm)) from rfl)
   have hrm:=((HW1.out.below mM.out).below hbl).rem
   have HI0:=hide (nH.start (N:=N) mM.out Gt.out XL.out XU.out hEA Gi.out)
   have aer:=hide hrw
   have ZR:(W.alloc (.map #[] 0)).heap.size=W.heap.size+1:=by simp
   obtain ⟨Lb,hLb⟩:∃ Lb,W.heap.size=Lb:=⟨_,rfl⟩
   rw[hLb] at HI0 Gi ZR hAW hBW HS5
   obtain ⟨W1,hW1⟩:∃ W1,W.alloc (.map #[] 0)=W1:=⟨_,rfl⟩
   rw[hW1] at c0 hrm HI0 Gi ZR
   have aeo:=hide hLb
   clear hbl hrw
   go_wp2_with (first
     | (at_range;refine eH rfl _ 133 rfl 53 Tryz.underlying133 hrm rfl ?_;intro w5 abQ hg5 hs5;have CG:=hide abQ;have NW:=hide (HI0.out.below ((Below.refl _ _).grown hg5 (Nat.le_refl _) (fun q hq=>by cases hq)))))
   rw[ZR] at CG hs5 ⊢
   go_frame
   clear hg5 abQ hrm c0 HI0 Gi
   have ac8:Lb+1+1=w5.heap.size:=hs5.symm
   clear hs5
   go_loopw [26] (fun _ wr=>∃ (left:S→Bool) (cnt:Nat) (LD:VM Hv.PD) (L:VM Value),Hid (bE wr rm (Lb+1) R left cnt)∧Hid (nH u A im km Lb (dN (Hv.aR D R DI) (keysOf (aT D R DI))) K N LD L (.slice none 0 0) [] wr)∧Hid (Leaving D R left LD)∧L.length+cnt≤R.length∧Lb+1<wr.heap.size)
     (fun _ wr=>wr.rangeLeft rm (Lb+1))
   case atStart=>exact ⟨_,_,[],[],CG,NW,hide (fun k=>by rw[if_neg (fun h=>by rw[h.1] at h;cases h.2)];rfl),by simp,by omega⟩
   case round =>
     clear CG NW ac8
     obtain ⟨left,cnt,LD,L,HG,HI,HLV,hroom,hsz⟩:=hrel
     go_wp2_with (first
       | (at_next;refine gG rfl _ rfl (Lb+1) left cnt rfl HG.out ?_ ?_))
     · intro hc0 hl0
       have HE:=hide (HI.out.Yj.dU.dD (Hv.iD eU.out.dU R) (fun k=>by rw[HLV.out k,Hv.iC eU.out.dU,hl0 k];simp))
       have c1:=(ah ((HI.out.bA.block B (by omega)).trans HR1.out) 1).trans (show _=some (.map (some im)) from rfl)
       have hLL:L.length≤1000:=by omega
       clear HG HLV hroom hl0
       go_wp2_with fail
       refine (W9 im I DI (fun g=>B0≤g) (by omega) (fun n hn=>hnI.len hn) wr (HW1.out.below HI.out.bA).ins (HI1.out.below HI.out.bA)).mono ?_
       rintro e w8 ⟨ov,rfl,ho8,Nf⟩
       obtain ⟨oa,oc,rfl⟩:=slice_form ho8
       have HO8:=hide ho8
       have HI8:=hide (HI.out.below Nf)
       have hs8:=Nf.size
       have hLl:=HI.out.Yj.len HI.out.lmap.1
       have hLD:LD=Hv.leaveD D R:=HE.out
       subst hLD
       have hLs:(Hv.order bC (Hv.leaveD D R)).length≤12:=by
         rw[Hv.rF]
         have hpD:P.length=D.length:=eU.out.len HM.out.packs.1
         have:=List.length_filter_le (fun p:S × Hv.PD=>Hv.has R p.1) D;unfold Hv.leaveD;omega
       have hIs:(Hv.order aI DI).length≤12:=by
         rw[Hv.rF]
         have:I.length=DI.length:=Gp.out.len HW.out.ins.1
         omega
       clear ho8 Nf c1 HE hLl
       go_wp2_with fail
       refine (Xa Lb L (Hv.leaveD D R) N hLL (fun n hn=>hnD.len (Po eU.out.dU hn)) w8 HI8.out.lmap HI8.out.Yj).mono ?_
       rintro e w9 ⟨lv,rfl,ho9,ZL⟩
       have HO9:=hide (bN ho9 (Nat.zero_le _))
       have HI9:=hide (HI8.out.below ZL)
       have aaX:=hide (own_below (bN HO8.out (Nat.zero_le _)) ZL)
       obtain ⟨la,lc,rfl⟩:=slice_form ho9
       have hs9:=ZL.size
       clear ho9 ZL HO8
       have hA9:A+1≤w9.heap.size:=by omega
       go_wp2_with fail
       refine (zS A (A+1) (by omega) (.map (some im)) (.map (some km)) 1 none 0 [] (Hv.order bC (Hv.leaveD D R)) (by simp;omega) (.slice la (Hv.order bC (Hv.leaveD D R)).length lc) w9 HI9.out.plan HI9.out.row hA9 HO9.out).mono ?_
       rintro e w10 ⟨u10,so1,sc1,rfl,abG,abM,Wx⟩
       have YQ:=hide (HI9.out.str Wx aaX.out)
       have Rf:=hide (HI9.out.added abG abM Wx)
       have aeL:=Wx.size
       clear abG abM Wx aaX HO9
       go_wp2_with fail
       refine (zS A (A+1) (by omega) (.map (some im)) (.map (some km)) 2 so1 sc1 _ (Hv.order aI DI) (by simp;omega) (.slice oa (Hv.order aI DI).length oc) w10 Rf.out.plan Rf.out.row (by omega) YQ.out).mono ?_
       rintro e w11 ⟨u11,so2,sc2,rfl,abH,abN,Wy⟩
       have aaV:=hide (Rf.out.str Wy YQ.out)
       have VK:=hide (Rf.out.added abH abN Wy)
       have aeM:=Wy.size
       clear abH abN Wy YQ Rf
       go_wp2_with fail
       refine (zS A (A+1) (by omega) (.map (some im)) (.map (some km)) 3 so2 sc2 _ (Hv.order aI DI) (by simp;omega) (.slice oa (Hv.order aI DI).length oc) w11 VK.out.plan VK.out.row (by omega) aaV.out).mono ?_
       rintro e Yu ⟨u12,so3,sc3,rfl,abI,abO,ZN⟩
       have E9:=hide (VK.out.added abI abO ZN)
       have aeN:=ZN.size
       clear abI abO ZN aaV VK
       have k2:=(ah E9.out.plan 2).trans (show _=some (.map (some km)) from rfl)
       have hkl:K.length≤1000:=by
         rw[kC (E9.out.cO.keys E9.out.FP.1)]
         refine Nat.le_trans (x9 _ _) ?_
         rw[← Y3.out.len aa3.out]
         omega
       go_wp2_with fail
       refine (callsIn_wide.1 (Tryz.maps_Keys_130 (some km) Yu)).mono ?_
       rintro e w13 ⟨rfl,rfl⟩
       go_wp2_with fail
       refine (callsIn_wide.1 (Tryz.slices_Sorted_keys_72_130 km K.length (Hv.rU K) Hv.hR Yu E9.out.FP.2 (by rw[Hv.gZ];unfold maxLen;omega) (by rw[Hv.gZ];omega))).mono ?_
       rintro e w14 ⟨kv,ss,rfl,hS,FL, -,abx⟩
       have abz:=jW E9.out.FP.1 hS
       have abB:ss.length=(keysOf K).length:=by rw[hS.length_eq,jB]
       rw[abz,abB,E9.out.cO.keys E9.out.FP.1] at FL
       have aaF:=hide (((Below.refl Yu.heap.size Yu).alloc (Nat.le_refl _) (.cells #[.map (some km)] 87)).trans (abx.mono (by simp)))
       have aaW:=hide (bN FL (Nat.zero_le _))
       have VL:=hide (E9.out.below aaF.out)
       have aeO:=aaF.out.size
       obtain ⟨ka,kc,rfl⟩:=slice_form FL
       have aeF:(keysOf (dN (Hv.aR D R DI) (keysOf (aT D R DI)))).length≤100:=by
         have e:(keysOf (dN (Hv.aR D R DI) (keysOf (aT D R DI)))).length=(dN (Hv.aR D R DI) (keysOf (aT D R DI))).length:=by simp[keysOf]
         rw[e]
         refine Nat.le_trans (x9 _ _) ?_
         rw[← Y3.out.len aa3.out]
         have:=Cu P R I
         omega
       clear FL abx abz abB hS k2 E9
       go_wp2_with fail
       refine (zS A (A+1) (by omega) (.map (some im)) (.map (some km)) 4 so3 sc3 _ (keysOf (dN (Hv.aR D R DI) (keysOf (aT D R DI)))) (by simp;omega) (.slice ka (keysOf (dN (Hv.aR D R DI) (keysOf (aT D R DI)))).length kc) w14 VL.out.plan VL.out.row (by omega) aaW.out).mono ?_
       rintro e Yv ⟨u15,Yq,Yp,rfl,abJ,abP,aby⟩
       have Ad:=hide (VL.out.added abJ abP aby)
       clear abJ abP aby aaW VL
       have hst:[]++(Hv.order bC (Hv.leaveD D R)).map (fun x=>((1,x):Hv.Step))++(Hv.order aI DI).map (fun x=>(2,x))++(Hv.order aI DI).map (fun x=>(3,x))++(keysOf (dN (Hv.aR D R DI) (keysOf (aT D R DI)))).map (fun x=>(4,x))=(Hv.bf D R DI).steps:=rfl
       rw[hst] at Ad
       obtain ⟨Vz,Sw⟩:∃ Vz,(Hv.bf D R DI).steps.length=Vz:=⟨_,rfl⟩
       have XP:=hide Sw
       have acO:=Ad.out
       have Ip:=Ad.out.plan
       rw[Sw] at Ip
       have p0:=(ah Ip 0).trans (show _=some (.slice Yq Vz Yp) from rfl)
       have p1:=(ah Ip 1).trans (show _=some (.map (some im)) from rfl)
       have p2:=(ah Ip 2).trans (show _=some (.map (some km)) from rfl)
       have FK:=(Ad.out.bA.block (B+1) (by omega)).trans Rk.out
       have f0:=ak FK 0
       have f1:=ak FK 1
       have f2:=ak FK 2
       have r0:=(ah FK 0).trans (show _=some (.slice none 0 0) from rfl)
       have r1:=(ah FK 1).trans (show _=some (.map none) from rfl)
       have r2:=(ah FK 2).trans (show _=some (.map none) from rfl)
       have WC:=heap_setCell_same _ _ 2 _ _ (.map (some km)) (heap_setCell_same _ _ 1 _ _ (.map (some im)) (heap_setCell_same _ _ 0 _ _ (.slice Yq Vz Yp) FK))
       have n0:=(ah WC 0).trans (show _=some (.slice Yq Vz Yp) from rfl)
       have n1:=(ah WC 1).trans (show _=some (.map (some im)) from rfl)
       have n2:=(ah WC 2).trans (show _=some (.map (some km)) from rfl)
       have hB0:B0≤im∧B0≤B:=hB0
       have HF:Hid (aQ Yv.heap.size (fun q=>q=B+1) Yv (((Yv.setCell ⟨B+1,0,none⟩ (.slice Yq Vz Yp)).setCell ⟨B+1,1,none⟩ (.map (some im))).setCell ⟨B+1,2,none⟩ (.map (some km)))):=hide ((((aQ.refl Yv.heap.size (fun q=>q=B+1) Yv).setCell (p:=⟨B+1,0,none⟩) (.inr rfl) _).setCell (p:=⟨B+1,1,none⟩) (.inr rfl) _).setCell (p:=⟨B+1,2,none⟩) (.inr rfl) _)
       have HC:Hid (kX Yv (fun q=>q=B+1) (fun t=>t=89∨t=285)):=hide (fun g hg=>by
         obtain rfl:g=B+1:=hg
         exact ⟨_,_,_,FK, .inl rfl⟩)
       have YS:Hid (gB B0 (Hv.bf D R DI) (.slice Yq Vz Yp) im km (((Yv.setCell ⟨B+1,0,none⟩ (.slice Yq Vz Yp)).setCell ⟨B+1,1,none⟩ (.map (some im))).setCell ⟨B+1,2,none⟩ (.map (some km)))):=hide (by
         have hrow:=Ad.out.row
         rw[Sw] at hrow
         refine ⟨?_,⟨I,HC.out.map (HW1.out.below Ad.out.bA).ins HF.out (Nat.le_refl _),(HI1.out.below Ad.out.bA).foreign HF.out (Nat.le_refl _) (HC.out.aae NG)⟩,⟨K,HC.out.map Ad.out.FP HF.out (Nat.le_refl _),(Ad.out.cO.foreign HF.out (Nat.le_refl _) (HC.out.no Gb)).weak (fun g hg=>by omega)⟩,hB0.1,by omega⟩
         rw[Sw]
         exact bN (HF.out.own hrow (Nat.le_refl _) (fun g hg e=>by have:=(hrow.lt g hg).1;have e2:g=B+1:=e;omega)) (by omega))
       have VF:Hid (Below B w (((Yv.setCell ⟨B+1,0,none⟩ (.slice Yq Vz Yp)).setCell ⟨B+1,1,none⟩ (.map (some im))).setCell ⟨B+1,2,none⟩ (.map (some km)))):=hide ((HB1.out.trans (Ad.out.bA.mono (by omega))).trans (HF.out.toBelow (by have:=Ad.out.bA.size;omega) (fun q hq (e:q=B+1)=>by omega)))
       clear hst Sw Ip FK WC acO
       go_wp2_with fail
       refine bodyPost_ret (v := .agg #[.slice Yq Vz Yp, .map (some im), .map (some km)]) (by simp[results,Tryz.results67,go_sem,n0,n1,n2]) rfl ?_
       rw[pV.out]
       exact ⟨_,km,rfl,YS.out,VF.out⟩
     · intro k v w6 cnt1 hk hlk hget hrg1 hlt hg1 Iq hen
       obtain rfl:=HRU.out k v hget
       have hRk:Hv.has R k=true:=by rw[Hv.aB,hget];rfl
       have hDk:∃ d,Hv.get D k=some d:=by
         have h:=Kr hab hRk
         rw[Hv.aB] at h
         exact Option.isSome_iff_exists.1 h
       obtain ⟨d,hd⟩:=hDk
       obtain ⟨v,hv,hr⟩:=eU.out.wZ k d hd
       obtain ⟨p,rfl,pr⟩:=hr
       have hnr:=HG.out.fG
       have hfr:aQ wr.heap.size (fun q=>q=Lb+1) wr w6:=⟨hg1.os,hg1.tape,hg1.output,hg1.size,fun q hq hc=>hg1.block q hq (fun e=>hc (Option.some.inj e))⟩
       have Ka:=hide (HI.out.iter hnr hfr)
       have XK:=hide hrg1
       have hp6:=(kJ.out.below Ka.out.bA).packs
       have m6:=(ah (kJ.out.below Ka.out.bA).blk 0).trans (show _=some (.map (some pm)) from rfl)
       have abK:vg N w6 d p.val:=vg.below (show vg N u d p.val from vg.below ⟨p,rfl,pr⟩ (by rw[acr.out];exact HB1.out)) Ka.out.bA
       have HPK:=hide abK
       have hlm:=Ka.out.lmap
       have aeS:Lb+1<w6.heap.size:=by have:=hfr.size;omega
       have HV:=hide hv
       have hll:L.length<maxLen:=by unfold maxLen;omega
       clear hrg1 hg1 hget hfr hnr pr hv
       have HPV:=hide (show Value.agg p.cells=p.val from rfl)
       go_wp2_with (first
         | (at_lookup;refine jJ rfl _ _ 86 rfl 156 Tryz.underlying86 (bU _) hp6 rfl k hk rfl ?_;rw[HV.out];simp only[Option.getD_some,Pk.val,Pk.cells])
         | (at_mapUpdate;refine mK rfl _ _ _ 86 rfl 156 Tryz.underlying86 hlm hll rfl k hk rfl p.val rfl ?_;intro w7 Ye ht7;go_frame))
       have Wz:=aX ht7
       have HI7:=hide (Ka.out.leave Ye ht7 (Ka.out.Yj.put Ka.out.lmap.1 k HPK.out))
       have HG7:=hide (XK.out.far Wz (Nat.le_refl _) (aao Ka.out HW1.out.rem) (by omega))
       have acA:=hide (HLV.out.step Ka.out.Yj.dU hRk hd)
       have hl7:=Hv.eZ L k p.val
       have hs7:=Wz.size
       clear Ye ht7 Wz hlm hp6 m6 abK
       go_roundw
       case rel=>exact ⟨_,cnt1,_,_,HG7,HI7,acA,by omega,by omega⟩
       case measure=>rw[HG7.out.left_eq,HG.out.left_eq];exact hlt
end
section
open Go.RowKit
open aH (St gH)
open Hv (S Dk VM)
def wR (mb pm fm:Nat) (m':Hv.Mac) (N:Nat→Prop) (w:World) (e:Ending) (w':World):Prop :=
 ∃ u P',e = .returned u∧aK mb pm fm P' (Hv.aS m'.2) w'∧dA N w' m'.1 P'∧aQ w.heap.size (fun q=>q=pm∨q=fm) w w'
theorem JL {w:World} {B e:Nat} {v:Value} {l:List Hv.Step} (h:w.ownsRow B e 2 v l.length (l.flatMap mG)) {k:Nat} (hk:k<l.length) :
   ∃ g c,v = .slice (some ⟨g,0,none⟩) l.length c∧g<w.heap.size∧w.cell? ⟨g,k*2,none⟩=some (.int .i64 l[k].1)∧w.cell? ⟨g,k*2+1,none⟩=some (.string ⟨l[k].2.toArray⟩):=by
 obtain ⟨g,cap,rfl⟩:=aP h (by omega)
 have key:∀ (l:List Hv.Step) (k:Nat) (hk:k<l.length) (j:Nat),j<2→(l.flatMap mG)[k*2+j]? = (mG l[k])[j]? := by
   intro l
   induction l with
   | nil=>intro k hk;simp at hk
   | cons c l ih =>
     intro k hk j hj
     rw[List.flatMap_cons]
     cases k with
     | zero=>rw[List.getElem?_append_left (by simp[mG];omega)];simp
     | succ k =>
       have hl:(mG c).length=2:=rfl
       rw[List.getElem?_append_right (by omega),hl,show (k+1)*2+j-2=k*2+j by omega]
       exact ih k (by simpa using hk) j hj
 refine ⟨g,cap,rfl,(h.lt g rfl).2,?_,?_⟩
 · rw[h.cellAt _ (by omega)];exact key l k hk 0 (by omega)
 · rw[h.cellAt _ (by omega)];exact key l k hk 1 (by omega)
theorem aK.pack {mb pm fm:Nat} {P P' F:VM Value} {w w':World} (h:aK mb pm fm P F w) (hm:MapAt w' pm P') (ht:w.mapTurned w' pm):aK mb pm fm P' F w':=by
 have hf:=aX ht
 exact ⟨(hf.block mb (blt h.blk) h.apart.1).trans h.blk,hm,h.files.kept (hf.block fm h.files.lt (fun e=>h.apart.2.2 e.symm)),h.apart⟩
theorem gB.below {B:Nat} {pl:Hv.Plan} {sv:Value} {im km:Nat} {w w':World} (h:gB B pl sv im km w) (hb:Below w.heap.size w w'):gB B pl sv im km w':=by
 obtain ⟨I,i1,i2⟩:=h.ins
 obtain ⟨K,k1,k2⟩:=h.cO
 exact ⟨own_below h.row hb,⟨I,i1.below hb,i2.below hb⟩,⟨K,k1.below hb,k2.below hb⟩,h.ge⟩
theorem Je (mb pm fm:Nat) (P:VM Value) (D:VM Hv.PD) (G:VM S) (N:Nat→Prop) (g:Nat) (n:Nat) (nn c im km:Nat) (hn:n<nn) (x:S) (hx:x.length≤maxLen) (w:World) (h:aK mb pm fm P (Hv.aS G) w) (hP:dA N w D P) (q1:w.cell? ⟨g,n*2,none⟩=some (.int .i64 1)) (q2:w.cell? ⟨g,n*2+1,none⟩=some (.string ⟨x.toArray⟩)) :
   Calls Tryz.prog 132 #[.agg #[.slice (some ⟨g,0,none⟩) nn c, .map (some im), .map (some km)], .int .i64 n, .pointer (some ⟨mb,0,none⟩)] w (wR mb pm fm (Hv.del D x,G) N w):=by
 have hb0:=(Below.refl w.heap.size w).alloc (Nat.le_refl _) (.cells #[.slice (some ⟨g,0,none⟩) nn c, .map (some im), .map (some km)] 89)
 have dF:=hide (h.below hb0)
 have DL:=hide (hP.below hb0)
 have hgl:g<w.heap.size:=World.block_lt_of_cell? w _ q1
 have d1:=(hb0.cell (p:=⟨g,n*2,none⟩) hgl).trans q1
 have d2:=(hb0.cell (p:=⟨g,n*2+1,none⟩) hgl).trans q2
 have hml:=blt h.blk
 have hb1:(n:Int)<(nn:Int):=by omega
 have hrow:=heap_alloc_new w (.cells #[.slice (some ⟨g,0,none⟩) nn c, .map (some im), .map (some km)] 89)
 have iV:=hide ((aQ.refl w.heap.size (fun q=>q=pm∨q=fm) w).alloc (Nat.le_refl _) (.cells #[.slice (some ⟨g,0,none⟩) nn c, .map (some im), .map (some km)] 89))
 have m0:=(ah dF.out.blk 0).trans (show _=some (.map (some pm)) from rfl)
 have nX:(w.alloc (.cells #[.slice (some ⟨g,0,none⟩) nn c, .map (some im), .map (some km)] 89)).heap.size=w.heap.size+1:=by simp
 have hpm:=dF.out.packs
 clear h hP hb0 q1 q2
 go_enter Tryz.func132,Tryz.ntmps132
 go_wp2_with (first
   | (at_delete;refine NR rfl _ _ 86 rfl 156 Tryz.underlying86 hpm rfl x hx rfl ?_;intro w5 hE2 ht2;go_frame))
 have hf:=aX ht2
 have CO:=hide (dF.out.pack hE2 ht2)
 have qO:=hide ((DL.out.del dF.out.packs.1 x).turned dF.out.packs.fG hf (Nat.le_refl _))
 have Kj:=hide (iV.out.next hf (by omega) (fun _ _ q => .inl q))
 go_end0
 exact ⟨_,_,rfl,CO.out,qO.out,Kj.out⟩
theorem Ca (mb pm fm:Nat) (P I:VM Value) (D DI:VM Hv.PD) (G:VM S) (N:Nat→Prop) (g:Nat) (n:Nat) (nn c im km:Nat) (hn:n<nn) (x:S) (hx:x.length≤maxLen) (sF:P.length≤1000) (d:Hv.PD) (hd:Hv.get DI x=some d) (w:World) (h:aK mb pm fm P (Hv.aS G) w) (hP:dA N w D P) (hi:MapAt w im I) (hI:dA N w DI I) (q1:w.cell? ⟨g,n*2,none⟩=some (.int .i64 2)) (q2:w.cell? ⟨g,n*2+1,none⟩=some (.string ⟨x.toArray⟩)) :
   Calls Tryz.prog 132 #[.agg #[.slice (some ⟨g,0,none⟩) nn c, .map (some im), .map (some km)], .int .i64 n, .pointer (some ⟨mb,0,none⟩)] w (wR mb pm fm (Hv.put D x d,G) N w):=by
 have hb0:=(Below.refl w.heap.size w).alloc (Nat.le_refl _) (.cells #[.slice (some ⟨g,0,none⟩) nn c, .map (some im), .map (some km)] 89)
 have dF:=hide (h.below hb0)
 have DL:=hide (hP.below hb0)
 have hi0:=hi.below hb0
 obtain ⟨v,hv,hr⟩:=(hI.below hb0).wZ x d hd
 have YV:=hide hr
 obtain ⟨p,rfl, -⟩:=hr
 have HV:=hide hv
 have hgl:g<w.heap.size:=World.block_lt_of_cell? w _ q1
 have d1:=(hb0.cell (p:=⟨g,n*2,none⟩) hgl).trans q1
 have d2:=(hb0.cell (p:=⟨g,n*2+1,none⟩) hgl).trans q2
 have hml:=blt h.blk
 have hb1:(n:Int)<(nn:Int):=by omega
 have hrow:=heap_alloc_new w (.cells #[.slice (some ⟨g,0,none⟩) nn c, .map (some im), .map (some km)] 89)
 have iV:=hide ((aQ.refl w.heap.size (fun q=>q=pm∨q=fm) w).alloc (Nat.le_refl _) (.cells #[.slice (some ⟨g,0,none⟩) nn c, .map (some im), .map (some km)] 89))
 have m0:=(ah dF.out.blk 0).trans (show _=some (.map (some pm)) from rfl)
 have nX:(w.alloc (.cells #[.slice (some ⟨g,0,none⟩) nn c, .map (some im), .map (some km)] 89)).heap.size=w.heap.size+1:=by simp
 have hpm:=dF.out.packs
 have hPm:P.length<maxLen:=by unfold maxLen;omega
 clear h hP hb0 q1 q2 hI hv
 go_enter Tryz.func132,Tryz.ntmps132
 go_wp2_with fail
 obtain ⟨u,hu⟩:∃ u,w.alloc (.cells #[.slice (some ⟨g,0,none⟩) nn c, .map (some im), .map (some km)] 89)=u:=⟨_,rfl⟩
 rw[hu] at dF DL iV YV nX hrow hi0 hpm m0 ⊢
 clear hu
 have hlk:=hi0.drew.look Tryz.underlying86 (bU _) x hx
 rw[HV.out] at hlk
 simp only[Option.getD_some,Pk.val,Pk.cells] at hlk
 obtain ⟨w',hrun,hM',ht⟩:=hpm.drew.store Tryz.underlying86 hPm x hx p.val
 simp only[Pk.val,Pk.cells] at hrun
 have hf:=aX ht
 have CO:Hid (aK mb pm fm (Hv.put P x p.val) (Hv.aS G) w'):=hide ((show aK mb pm fm P (Hv.aS G) u.drew from ⟨dF.out.blk,dF.out.packs.drew,dF.out.files.drew,dF.out.apart⟩).pack hM' ht)
 have qO:Hid (dA N w' (Hv.put D x d) (Hv.put P x p.val)):=hide (((show dA N u.drew _ _ from (DL.out.put dF.out.packs.1 x YV.out).below ((Below.refl _ u).drew))).turned dF.out.packs.drew.fG hf (Nat.le_refl _))
 have Kj:Hid (aQ w.heap.size (fun q=>q=pm∨q=fm) w w'):=hide (iV.out.drew.next hf (by simp;omega) (fun _ _ q => .inl q))
 obtain ⟨B,hB⟩:∃ B,w.heap.size=B:=⟨_,rfl⟩
 rw[hB] at hrow ⊢
 have hpl:=dF.out.packs.lt
 have hpb:pm≠B:=fun e=>dF.out.packs.fG _ _ _ (by rw[e];exact hrow)
 have hrw:w'.heap[B]? = u.heap[B]? := hf.block B (by simp;omega) (fun e=>hpb e.symm)
 have c1:=(ah hrow 1).trans (show _=some (.map (some im)) from rfl)
 have e1:=(ah (hrw.trans hrow) 1).trans (show _=some (.map (some im)) from rfl)
 have Pq:=(ah CO.out.blk 0).trans (show _=some (.map (some pm)) from rfl)
 clear hM' ht hf hrow hrw dF iV hi0 hpm d1 d2
 go_region_held3 (fun w'=>w'.cell? ⟨mb,0,none⟩=some (.map (some pm))∧w'.cell? ⟨B,1,none⟩=some (.map (some im)))
   (first | assumption | exact ⟨Pq,e1⟩ | exact ⟨m0,c1⟩ | simp[go_sem, *])
   (fail)
 go_wp2_with fail
 go_end0
 exact ⟨_,_,rfl,CO.out,qO.out,Kj.out⟩
theorem KX (p:Pk) (w:World):(Instr.field 154 p.arc 6).run Tryz.prog w = .ok p.runs.val w:=by kernel_rfl
theorem Fz (p:Pk) (w:World):(Instr.field 154 p.arc 7).run Tryz.prog w = .ok p.aL.val w:=by kernel_rfl
structure oD (L:Nat) (D:VM Hv.PD):Prop where
 files:Hv.wM L D
 copies:mV ∨ ∀ k d,Hv.get D k=some d→bK d.st.runs∧bK d.st.aL
theorem sH (mb pm fm:Nat) (P K:VM Value) (D:VM Hv.PD) (G:VM S) (N:Nat→Prop) (g:Nat) (n:Nat) (nn c im km:Nat) (hn:n<nn) (x:S) (hx:x.length≤maxLen) (sF:P.length≤1000) (hG:G.length≤1000) (L:Nat) (hL:L≤1000000) (hS:Hv.Short L G) (hDB:oD L D) (d:Hv.PD) (hd:Hv.get D x=some d) (w:World) (h:aK mb pm fm P (Hv.aS G) w) (hP:dA N w D P) (hk:MapAt w km K) (hK:VD K) (hkm : ¬ km=fm) (st:Int) (hst:(if Hv.has K x=true then (3:Int) else 2)=st) (q1:w.cell? ⟨g,n*2,none⟩=some (.int .i64 3)) (q2:w.cell? ⟨g,n*2+1,none⟩=some (.string ⟨x.toArray⟩)) :
   Calls Tryz.prog 132 #[.agg #[.slice (some ⟨g,0,none⟩) nn c, .map (some im), .map (some km)], .int .i64 n, .pointer (some ⟨mb,0,none⟩)] w (wR mb pm fm (Hv.put D x (d.to st),Hv.fJ D [] G d.st.runs) N w):=by
 have hb0:=(Below.refl w.heap.size w).alloc (Nat.le_refl _) (.cells #[.slice (some ⟨g,0,none⟩) nn c, .map (some im), .map (some km)] 89)
 have dF:=hide (h.below hb0)
 have DL:=hide (hP.below hb0)
 have HK0:=hide (hk.below hb0)
 have Vq:=hide hK
 have HST:=hide hst
 clear hst
 obtain ⟨v,hv,hr⟩:=(hP.below hb0).wZ x d hd
 obtain ⟨p,rfl, -, -, -, -,hpk, -⟩:=hr
 have HV:=hide hv
 have hgl:g<w.heap.size:=World.block_lt_of_cell? w _ q1
 have d1:=(hb0.cell (p:=⟨g,n*2,none⟩) hgl).trans q1
 have d2:=(hb0.cell (p:=⟨g,n*2+1,none⟩) hgl).trans q2
 have hml:=blt h.blk
 have hb1:(n:Int)<(nn:Int):=by omega
 have hrow:=heap_alloc_new w (.cells #[.slice (some ⟨g,0,none⟩) nn c, .map (some im), .map (some km)] 89)
 have iV:=hide ((aQ.refl w.heap.size (fun q=>q=pm∨q=fm) w).alloc (Nat.le_refl _) (.cells #[.slice (some ⟨g,0,none⟩) nn c, .map (some im), .map (some km)] 89))
 have m0:=(ah dF.out.blk 0).trans (show _=some (.map (some pm)) from rfl)
 have nX:(w.alloc (.cells #[.slice (some ⟨g,0,none⟩) nn c, .map (some im), .map (some km)] 89)).heap.size=w.heap.size+1:=by simp
 have hpm:=dF.out.packs
 have hPm:P.length<maxLen:=by unfold maxLen;omega
 have hgood:=(bW hpk.parse).2.2
 have hfit:=(bV hpk.parse).2.2.1
 have hro:=hpk.rows 4
 have hf1:=qZ p
 have hf2:=KX p
 have Rn:=hide (fun w' (hm:aK mb pm fm P (Hv.aS G) w') (hp:dA N w' D P) (hr:w'.ownsRow 0 317 4 p.runs.val d.st.runs.length (d.st.runs.flatMap rT))=>Ns mb pm fm P D N G d.st.runs (fun c hc=>(hgood.runs c hc).1) (hDB.copies.symm.imp (fun h=>(h x d hd).1) id) (by have:=hfit.2.2.2.2.1;omega) sF hG L hL hDB.files hS p.runs.val (.slice none 0 0) [] (by simp) (fun x hx=>by cases hx) (by simp[bJ]) w' hm hp (.inl ⟨rfl,none,0,rfl⟩) hr)
 have NZ:=hide (show (w.alloc (.cells #[.slice (some ⟨g,0,none⟩) nn c, .map (some im), .map (some km)] 89)).ownsRow 0 317 4 p.runs.val d.st.runs.length (d.st.runs.flatMap rT) from hro)
 clear h hP hb0 q1 q2 hv hpk hk hgood hfit hro hDB hS hK
 simp only[Pk.val,Pk.cells,Pk.arc,Sl.val] at hf1 hf2 Rn
 go_enter Tryz.func132,Tryz.ntmps132
 go_wp2_with (first
   | (at_lookup;refine jJ rfl _ _ 86 rfl 156 Tryz.underlying86 (bU _) hpm rfl x hx rfl ?_;rw[HV.out];simp only[Option.getD_some,Pk.val,Pk.cells]))
 refine (Rn.out _ dF.out DL.out NZ.out).mono ?_
 rintro e w2 ⟨u2,rfl,hm2,zC⟩
 have wK:=hide hm2
 have hnf:=dF.out.files.fG
 have mP:=hide (DL.out.turned hnf zC (Nat.le_refl _))
 have hr2:=(zC.block w.heap.size (by omega) (fun e=>hnf _ _ _ (by rw[← e];exact hrow))).trans hrow
 have iU:=hide (iV.out.next zC (by omega) (fun _ _ q => .inr q))
 have HR2:=hide hr2
 have Ae:=hide (HK0.out.far zC (Nat.le_refl _) hkm)
 have r0:=(ah hr2 0).trans (show _=some (.slice (some ⟨g,0,none⟩) nn c) from rfl)
 have r1:=(ah hr2 1).trans (show _=some (.map (some im)) from rfl)
 have r2:=(ah hr2 2).trans (show _=some (.map (some km)) from rfl)
 have hs2:=zC.size
 clear hm2 zC hnf hrow hr2 m0 hpm hf1 hf2 d1 d2
 go_wp2_with fail
 refine (AU (some ⟨g,0,none⟩) nn c im km K Vq.out x hx w2 Ae.out).mono ?_
 rintro e w3 ⟨rfl,hb3⟩
 have MQ:=hide (wK.out.below hb3)
 have uX:=hide (mP.out.below hb3)
 have mO:=hide (iU.out.below hb3 (by omega))
 have hs3:=hb3.size
 rw[HST.out]
 clear hb3 r0 r1 r2
 go_wp2_with fail
 refine (nO mb pm fm P _ x hx p HV.out st hPm w3 MQ.out).mono ?_
 rintro e w4 ⟨u4,rfl,QW,lF⟩
 have uV:=hide QW
 have zA:=hide ((uX.out.Cv MQ.out.packs.1 HV.out hd st).turned MQ.out.packs.fG lF (Nat.le_refl _))
 have sS:=hide (mO.out.next lF (by omega) (fun _ _ q => .inl q))
 clear QW lF
 go_wp2_with fail
 go_end0
 exact ⟨_,_,rfl,uV.out,zA.out,sS.out⟩
end
end Go.Proofs.YtialenebfcnkkaaGreatDoor
