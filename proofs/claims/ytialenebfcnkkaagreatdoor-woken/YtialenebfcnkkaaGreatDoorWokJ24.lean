/- PlnW13, DoW1, DoW2 -/
import Derived.Test.YtialenebfcnkkaaGreatDoorWokJ21
import Derived.Test.YtialenebfcnkkaaGreatDoorWokJ22
import Derived.Test.YtialenebfcnkkaaGreatDoorWokJ23
set_option maxHeartbeats 8000000
set_option maxRecDepth 100000
namespace Go.Proofs.YtialenebfcnkkaaGreatDoor
section
open Go.RowKit
open Arc (St)
open Hv (S Dk VM)
structure PlanAt (B:Nat) (pl:Hv.Plan) (sv:Value) (im km:Nat) (w:World):Prop where
 row:w.ownsRow B 285 2 sv pl.steps.length (pl.steps.flatMap stepV)
 ins:∃ I,MapAt w im I∧PkM (fun g=>B≤g) w pl.ins I
 wak:∃ K,MapAt w km K∧WkM (fun g=>B≤g) w pl.wak K
 ge:B≤im∧B≤km
theorem waking_km (tm:Nat) (E:VM Value) (DT:VM Hv.PD) (N:Nat→Prop) (ch:List S) (hch:ch.length≤1000) (hcx:∀ x∈ch,x.length≤24) (hE:E.length≤1000) (v:Value) (w:World) (ht:MapAt w tm E) (hP:PkM N w DT E) (hv:w.ownsRow 0 9 1 v ch.length (ch.map strV)) :
   Calls Tryz.prog 124 #[.map (some tm),v] w fun e w'=>∃ km K,e = .returned (.map (some km))∧MapAt w' km K∧WkM (fun g=>w.heap.size<g) w' (wakeD DT ch) K∧w.heap.size≤km∧Below w.heap.size w w':=by
 refine (waking_any tm E DT N ch hch hcx hE v w ht hP hv).mono ?_
 rintro e w' ⟨K,rfl,h1,h2,h3⟩
 exact ⟨_,K,rfl,h1,h2,Nat.le_refl _,h3⟩
def Leaving (D:VM Hv.PD) (R:VM Value) (left:S→Bool) (L:VM Hv.PD):Prop:=∀ k,Hv.get L k=if Hv.has R k=true∧left k=false then Hv.get D k else none
structure MkIn (u:World) (A im km Lb:Nat) (wk:VM (List S)) (K:VM Value) (N:Nat→Prop) (LD:VM Hv.PD) (L:VM Value) (so:Value) (st:List Hv.Step) (W:World):Prop where
 bel:Below u.heap.size u W
 plan:W.heap[A]? = some (.cells #[so, .map (some im), .map (some km)] 89 (0,0))
 row:W.ownsRow (A+1) 285 2 so st.length (st.flatMap stepV)
 kmap:MapAt W km K
 wak:WkM (fun g=>u.heap.size≤g) W wk K
 lmap:MapAt W Lb L
 lpk:PkM N W LD L
 ge:u.heap.size≤A∧A<Lb∧km<Lb
theorem MkIn.start {u W:World} {A im km:Nat} {wk:VM (List S)} {K:VM Value} {N:Nat→Prop} (hb:Below u.heap.size u W) (hp:W.heap[A]? = some (.cells #[.slice none 0 0, .map (some im), .map (some km)] 89 (0,0))) (hk:MapAt W km K) (hw:WkM (fun g=>u.heap.size≤g) W wk K) (hA:u.heap.size≤A) (hm:MapAt (W.alloc (.map #[] 0)) W.heap.size []):MkIn u A im km W.heap.size wk K N [] [] (.slice none 0 0) [] (W.alloc (.map #[] 0)):=by
 have hbl:=(Below.refl W.heap.size W).alloc (Nat.le_refl _) (.map #[] 0)
 exact ⟨hb.trans (hbl.mono hb.size),(hbl.block A (blt hp)).trans hp,World.ownsRow_nil _ _ _ _,hk.below hbl,hw.below hbl,hm,PkM.nil _ _,hA,blt hp,hk.lt⟩
theorem MkIn.below {u W W':World} {A im km Lb:Nat} {wk:VM (List S)} {K:VM Value} {N:Nat→Prop} {LD:VM Hv.PD} {L:VM Value} {so:Value} {st:List Hv.Step} (h:MkIn u A im km Lb wk K N LD L so st W) (hb:Below W.heap.size W W'):MkIn u A im km Lb wk K N LD L so st W' :=
 ⟨h.bel.trans (hb.mono h.bel.size),(hb.block A (blt h.plan)).trans h.plan,own_below h.row hb,h.kmap.below hb,h.wak.below hb,h.lmap.below hb,h.lpk.below hb,h.ge⟩
theorem MkIn.leave {u W W':World} {A im km Lb:Nat} {wk:VM (List S)} {K:VM Value} {N:Nat→Prop} {LD LD':VM Hv.PD} {L L':VM Value} {so:Value} {st:List Hv.Step} (h:MkIn u A im km Lb wk K N LD L so st W) (hm:MapAt W' Lb L') (ht:W.mapTurned W' Lb) (hp:PkM N W LD' L'):MkIn u A im km Lb wk K N LD' L' so st W':=by
 have hf:=turned_far ht
 have hn:=h.lmap.no_row
 obtain ⟨g1,g2,g3⟩:=h.ge
 exact ⟨h.bel.trans (hf.toBelow h.bel.size (fun q hq (e:q=Lb)=>by omega)),(hf.block A (blt h.plan) (by omega)).trans h.plan,own_turned h.row hn hf (Nat.le_refl _),h.kmap.far hf (Nat.le_refl _) (by omega),h.wak.turned hn hf (Nat.le_refl _),hm,hp.turned hn hf (Nat.le_refl _),h.ge⟩
theorem MkIn.iter {u W W':World} {A im km Lb b:Nat} {wk:VM (List S)} {K:VM Value} {N:Nat→Prop} {LD:VM Hv.PD} {L:VM Value} {so:Value} {st:List Hv.Step} (h:MkIn u A im km Lb wk K N LD L so st W) (hn:∀ cs t fz,W.heap[b]? ≠ some (.cells cs t fz)) (hf:Far W.heap.size (fun k=>k=b) W W') (hb:Lb<b:=by omega):MkIn u A im km Lb wk K N LD L so st W':=by
 obtain ⟨g1,g2,g3⟩:=h.ge
 exact ⟨h.bel.trans (hf.toBelow h.bel.size (fun q hq (e:q=b)=>by omega)),(hf.block A (blt h.plan) (by omega)).trans h.plan,own_turned h.row hn hf (Nat.le_refl _),h.kmap.far hf (Nat.le_refl _) (by omega),h.wak.turned hn hf (Nat.le_refl _),h.lmap.far hf (Nat.le_refl _) (by omega),h.lpk.turned hn hf (Nat.le_refl _),h.ge⟩
theorem absent_has {D:VM Hv.PD} {R:VM Value} (h:Hv.absentD D R=false) {k:S} (hk:Hv.has R k=true):Hv.has D k=true:=by
 obtain ⟨p,hp,e⟩:=List.any_eq_true.1 hk
 simp only[beq_iff_eq] at e
 cases q:Hv.has D k with
 | true=>rfl
 | false =>
   exfalso
   have:Hv.absentD D R=true:=List.any_eq_true.2 ⟨p,hp,by rw[e,q];rfl⟩
   rw[h] at this
   cases this
theorem MkIn.cellish {u W:World} {A im km Lb sc:Nat} {wk:VM (List S)} {K:VM Value} {N:Nat→Prop} {LD:VM Hv.PD} {L:VM Value} {so:Option Addr} {st:List Hv.Step} (h:MkIn u A im km Lb wk K N LD L (.slice so st.length sc) st W):Cellish W (fun q=>q=A∨(Value.slice so st.length sc).ownBlock=some q) (fun t=>t=89∨t=285):=fun g hg=>by
 rcases hg with rfl | hg
 · exact ⟨_,_,_,h.plan, .inl rfl⟩
 · obtain ⟨cs,q⟩:=own_cells h.row hg
   exact ⟨cs,_,_,q, .inr rfl⟩
theorem two_pty:∀ t:Nat,(t=89∨t=285)→∀ i,t≠pty i:=fun t ht i=>by
 rcases ht with rfl | rfl
 · exact pty_ne (by decide) (by decide) (by decide) (by decide) i
 · exact pty_ne (by decide) (by decide) (by decide) (by decide) i
theorem two_str:∀ t:Nat,(t=89∨t=285)→t≠9:=fun t ht=>by
 rcases ht with rfl | rfl<;>decide
theorem MkIn.added {u W W':World} {A im km Lb sc:Nat} {wk:VM (List S)} {K:VM Value} {N:Nat→Prop} {LD:VM Hv.PD} {L:VM Value} {so:Option Addr} {st st':List Hv.Step} {so':Value} (h:MkIn u A im km Lb wk K N LD L (.slice so st.length sc) st W) (hp:W'.heap[A]? = some (.cells #[so', .map (some im), .map (some km)] 89 (0,0))) (hr:W'.ownsRow (A+1) 285 2 so' st'.length (st'.flatMap stepV)) (hf:Far W.heap.size (fun q=>q=A∨(Value.slice so st.length sc).ownBlock=some q) W W'):MkIn u A im km Lb wk K N LD L so' st' W':=by
 obtain ⟨g1,g2,g3⟩:=h.ge
 have hc:=h.cellish
 exact ⟨h.bel.trans (hf.toBelow h.bel.size (fun q hq e=>by
   rcases e with e | e
   · omega
   · have:=(h.row.lt q e).1;omega)),hp,hr,hc.map h.kmap hf (Nat.le_refl _),h.wak.foreign hf (Nat.le_refl _) (hc.no two_str),hc.map h.lmap hf (Nat.le_refl _),h.lpk.foreign hf (Nat.le_refl _) (hc.noPk two_pty),h.ge⟩
theorem MkIn.str {u W W':World} {A im km Lb sc b n:Nat} {wk:VM (List S)} {K:VM Value} {N:Nat→Prop} {LD:VM Hv.PD} {L:VM Value} {so:Option Addr} {st:List Hv.Step} {v:Value} {xs:List Value} (h:MkIn u A im km Lb wk K N LD L (.slice so st.length sc) st W) (hf:Far W.heap.size (fun q=>q=A∨(Value.slice so st.length sc).ownBlock=some q) W W') (ho:W.ownsRow b 9 1 v n xs):W'.ownsRow b 9 1 v n xs :=
 own_foreign ho hf (Nat.le_refl _) (h.cellish.no two_str)
theorem rem_ne {u W:World} {A im km Lb b:Nat} {wk:VM (List S)} {K E:VM Value} {N:Nat→Prop} {LD:VM Hv.PD} {L:VM Value} {so:Value} {st:List Hv.Step} (h:MkIn u A im km Lb wk K N LD L so st W) (hm:MapAt u b E) : ¬ b=Lb:=by
 have h1:=h.ge
 have h2:=hm.lt
 omega
theorem leave_has {D:VM Hv.PD} (hs:Hv.Srt D) {R:VM Value} {n:S} (h:Hv.has (Hv.leaveD D R) n=true):Hv.has D n=true:=by
 rw[Hv.has_get,Hv.leaveD_get hs] at h
 rw[Hv.has_get]
 split at h
 · exact h
 · cases h
theorem wakeD_len (D:VM Hv.PD) (ch:List S):(wakeD D ch).length≤D.length:=List.length_filterMap_le _ _
theorem Leaving.step {D LD:VM Hv.PD} {R:VM Value} {left:S→Bool} (h:Leaving D R left LD) (hs:Hv.Srt LD) {k:S} {d:Hv.PD} (hk:Hv.has R k=true) (hd:Hv.get D k=some d):Leaving D R (fun z=>left z && !(z==k)) (Hv.put LD k d):=fun k'=>by
 by_cases e:k'=k
 · subst e
   rw[Hv.get_put_same hs,if_pos ⟨hk,by simp⟩,hd]
 · rw[Hv.get_put_other hs _ e,h k']
   have:(left k' && !(k'==k))=left k':=by simp[e]
   simp only[this]
theorem make_any (mb pm fm rm im:Nat) (P F R I:VM Value) (D DI:VM Hv.PD) (N:Nat→Prop) (B0:Nat) (hR:AllU R) (hRl:R.length≤12) (hIl:I.length≤12) (hPl:P.length≤12) (hab:Hv.absentD D R=false) (hnD:Hv.Named D) (hnI:Hv.Named DI) (w:World) (hm:MachAt mb pm fm P F w) (hw:WishAt rm im R I w) (hP:PkM N w D P) (hI:PkM (fun g=>B0≤g) w DI I) (hB0:B0≤im∧B0≤w.heap.size) :
   Calls Tryz.prog 67 #[.pointer (some ⟨mb,0,none⟩), .agg #[.map (some rm), .map (some im)]] w fun e w'=>∃ sv km,e = .returned (.agg #[sv, .map (some im), .map (some km)])∧PlanAt B0 (Hv.planD D R DI) sv im km w'∧Below w.heap.size w w':=by
 have hmm := @run_makeMap Tryz.prog
 have HM:=hide hm;have HW:=hide hw;have HPP:=hide hP;have HII:=hide hI;have HRU:=hide hR
 have hb0:=(Below.refl w.heap.size w).alloc (Nat.le_refl _) (.cells #[.map (some rm), .map (some im)] 135)
 have hb1:=hb0.alloc (by simp) (.cells #[.slice none 0 0, .map none, .map none] 89)
 have hr0:=heap_alloc_new w (.cells #[.map (some rm), .map (some im)] 135)
 have hs0:(w.alloc (.cells #[.map (some rm), .map (some im)] 135)).heap.size=w.heap.size+1:=by simp
 have hr1:=(Below.heap_alloc (w.alloc (.cells #[.map (some rm), .map (some im)] 135)) (.cells #[.slice none 0 0, .map none, .map none] 89) w.heap.size (by simp)).trans hr0
 have hq1:=heap_alloc_new (w.alloc (.cells #[.map (some rm), .map (some im)] 135)) (.cells #[.slice none 0 0, .map none, .map none] 89)
 rw[hs0] at hq1
 have hs1:((w.alloc (.cells #[.map (some rm), .map (some im)] 135)).alloc (.cells #[.slice none 0 0, .map none, .map none] 89)).heap.size=w.heap.size+2:=by simp
 have HUU:=hide hw.rem
 have hrl:=hw.rem.lt
 have hil:=hw.ins.lt
 have hml:=blt hm.blk
 have hpl:=hm.packs.lt
 clear hm hw hP hI hR hb0 hr0 hs0
 go_enter Tryz.func67,Tryz.ntmps67
 go_wp2_with fail
 obtain ⟨u,hu⟩:∃ u,(w.alloc (.cells #[.map (some rm), .map (some im)] 135)).alloc (.cells #[.slice none 0 0, .map none, .map none] 89)=u:=⟨_,rfl⟩
 obtain ⟨B,hB⟩:∃ B,w.heap.size=B:=⟨_,rfl⟩
 rw[hu] at hb1 hr1 hq1 hs1 ⊢
 have HB1:=hide hb1
 have HM1:=hide (HM.out.below hb1)
 have HW1:=hide (HW.out.below hb1)
 have HP1:=hide (HPP.out.below hb1)
 have HI1:=hide (HII.out.below hb1)
 rw[hB] at hr1 hq1 hs1 hrl hil hml hpl HB1 hB0 ⊢
 have HR1:=hide hr1;have HQ1:=hide hq1
 have m0:=(row_cell HM1.out.blk 0).trans (show _=some (.map (some pm)) from rfl)
 have c0:=(row_cell hr1 0).trans (show _=some (.map (some rm)) from rfl)
 have c1:=(row_cell hr1 1).trans (show _=some (.map (some im)) from rfl)
 have HBE:=hide hB
 clear hu hb1 hr1 hq1 hB
 have hch1:(keysOf (changedQ D R DI)).length≤1000:=by have:=changedQ_len hnD hnI HII.out.srt R;have:=HII.out.len HW.out.ins.1;omega
 have HCH2:=hide (changedQ_path hnD hnI HII.out.srt R)
 have hch3:(toBeOf P R I).length≤1000:=by have:=toBeOf_len P R I;omega
 have HTBS:=hide (Hv.merge_srt I (Hv.cut P R) (Hv.cut_srt R P HM.out.packs.1))
 have HTB:=hide ((HP1.out.weak (N':=fun g=>N g∨B0≤g) (fun g h => .inl h)).toBe HM.out.packs.1 (HI1.out.weak (N':=fun g=>N g∨B0≤g) (fun g h => .inr h)) HW.out.ins.1 R)
 have hmk:∀ w',Below u.heap.size u w'→(Below u.heap.size u w'∧w'.cell? ⟨mb,0,none⟩=some (.map (some pm))∧w'.cell? ⟨B,0,none⟩=some (.map (some rm))∧w'.cell? ⟨B,1,none⟩=some (.map (some im))):=fun w' h =>
   ⟨h,(row_cell (HM1.out.below h).blk 0).trans rfl,(row_cell ((h.block B (by omega)).trans HR1.out) 0).trans rfl,(row_cell ((h.block B (by omega)).trans HR1.out) 1).trans rfl⟩
 have HK1:Hid (∀ wx w',(Below u.heap.size u wx∧wx.cell? ⟨mb,0,none⟩=some (.map (some pm))∧wx.cell? ⟨B,0,none⟩=some (.map (some rm))∧wx.cell? ⟨B,1,none⟩=some (.map (some im)))→Below wx.heap.size wx w'→(Below u.heap.size u w'∧w'.cell? ⟨mb,0,none⟩=some (.map (some pm))∧w'.cell? ⟨B,0,none⟩=some (.map (some rm))∧w'.cell? ⟨B,1,none⟩=some (.map (some im)))):=hide fun wx w' h h'=>hmk w' (h.1.trans (h'.mono h.1.size))
 have HK2:Hid (∀ wx A i v,(Below u.heap.size u wx∧wx.cell? ⟨mb,0,none⟩=some (.map (some pm))∧wx.cell? ⟨B,0,none⟩=some (.map (some rm))∧wx.cell? ⟨B,1,none⟩=some (.map (some im)))→u.heap.size≤A→(Below u.heap.size u (wx.setCell ⟨A,i,none⟩ v)∧(wx.setCell ⟨A,i,none⟩ v).cell? ⟨mb,0,none⟩=some (.map (some pm))∧(wx.setCell ⟨A,i,none⟩ v).cell? ⟨B,0,none⟩=some (.map (some rm))∧(wx.setCell ⟨A,i,none⟩ v).cell? ⟨B,1,none⟩=some (.map (some im)))):=hide fun wx A i v h h'=>hmk _ (h.1.setCell h' _)
 have HK3:Hid (∀ wx o o',(Below u.heap.size u (World.alloc wx o)∧(World.alloc wx o).cell? ⟨mb,0,none⟩=some (.map (some pm))∧(World.alloc wx o).cell? ⟨B,0,none⟩=some (.map (some rm))∧(World.alloc wx o).cell? ⟨B,1,none⟩=some (.map (some im)))→u.heap.size≤wx.heap.size→(Below u.heap.size u (World.alloc wx o')∧(World.alloc wx o').cell? ⟨mb,0,none⟩=some (.map (some pm))∧(World.alloc wx o').cell? ⟨B,0,none⟩=some (.map (some rm))∧(World.alloc wx o').cell? ⟨B,1,none⟩=some (.map (some im)))):=hide fun wx o o' h h'=>hmk _ ⟨h.1.os,h.1.tape,h.1.output,by simp;omega,fun k hk=>((Below.heap_alloc wx o' k (by omega)).trans (Below.heap_alloc wx o k (by omega)).symm).trans (h.1.block k hk)⟩
 have HS0:=hide (hmk u.drew ((Below.refl _ u).drew))
 have hs1a:B+2≤u.heap.size:=by omega
 have hs1b:u.heap.size≤B+2:=by omega
 have hBE9:w.heap.size=B:=HBE.out
 have HBE9:=hide hBE9
 clear hmk m0 c0 c1 hs1 hBE9
 go_region_held3 (fun w'=>Below u.heap.size u w'∧w'.cell? ⟨mb,0,none⟩=some (.map (some pm))∧w'.cell? ⟨B,0,none⟩=some (.map (some rm))∧w'.cell? ⟨B,1,none⟩=some (.map (some im)))
   (first | exact HS0.out | exact HK1.out _ _ (by assumption) hb2 | exact HK1.out _ _ (by assumption) hb3 | exact HK1.out _ _ (by assumption) hb4 | exact HK1.out _ _ (by assumption) ((Below.refl _ _).alloc (Nat.le_refl _) _) | exact HK3.out _ _ _ (by assumption) (by omega) | exact HK2.out _ _ _ _ (by assumption) (by omega) | exact HK2.out _ _ _ _ (HK2.out _ _ _ _ (HK2.out _ _ _ _ (by assumption) (by omega)) (by omega)) (by omega))
   (first
     | (go_at_call 118;refine (toBe_any pm rm im P R I HRU.out HII.out.allPk _ (HM1.out.below (And.left (by assumption))).packs (HW1.out.below (And.left (by assumption))).rem (HW1.out.below (And.left (by assumption))).ins (by omega)).mono ?_;rintro e w2 ⟨tm,rfl,ht2,htm,hb2⟩;have hs2:u.heap.size≤w2.heap.size:=(by have h:=hb2.size;first | exact h | (simp at h;omega)); (try have hs2':u.heap.size+1≤w2.heap.size:=(by have h:=hb2.size;simp at h;omega)); (try have q2:=(hb2.block u.heap.size (by simp)).trans (heap_alloc_new u.drew (.cells #[.slice none 0 0, .map none, .map none] 89))))
     | (go_at_call 125;refine (changedPaths_any mb pm fm rm im P F R I D DI N (fun g=>B0≤g) HRU.out (by omega) (by omega) _ (HM1.out.below (And.left (by assumption))) (HW1.out.below (And.left (by assumption))) (HP1.out.below (And.left (by assumption))) (HI1.out.below (And.left (by assumption)))).mono ?_;rintro e w3 ⟨cv,rfl,hc3,hb3⟩;obtain ⟨ca,cc,rfl⟩:=slice_form hc3;have hs3:w2.heap.size≤w3.heap.size:=(by have h:=hb3.size;first | exact h | (simp at h;omega)); (try have hs3':w2.heap.size+1≤w3.heap.size:=(by have h:=hb3.size;simp at h;omega)); (try have q3:=(hb3.block w2.heap.size (by simp)).trans (heap_alloc_new w2 (.cells #[.slice none 0 0, .map none, .map none] 89))); (try have q3:=(hb3.block u.heap.size (blt q2)).trans q2))
     | (go_at_call 124;refine (waking_km tm (toBeOf P R I) (Hv.toBeD D R DI) (fun g=>N g∨B0≤g) (keysOf (changedQ D R DI)) hch1 HCH2.out hch3 _ _ (by first | exact ht2.below hb3 | exact (ht2.below hb3).alloc _ | exact (ht2.alloc _).below hb3) (HTB.out.below (And.left (by assumption))) (by first | exact own_base hc3 (Nat.zero_le _) | exact (own_base hc3 (Nat.zero_le _)).alloc _)).mono ?_;rintro e w4 ⟨km,K,rfl,hk4,hw4,hkm,hb4⟩;have hs4:w3.heap.size≤w4.heap.size:=(by have h:=hb4.size;first | exact h | (simp at h;omega));have hbw4:Below u.heap.size u w4:=(fun (h:Below u.heap.size u _)=>h.trans (hb4.mono h.size)) (And.left (by assumption)); (try have q4:=(hb4.block w3.heap.size (by simp)).trans (heap_alloc_new w3 (.cells #[.slice none 0 0, .map none, .map none] 89))); (try have q4:=(hb4.block _ (blt q3)).trans q3); (try have z0:=(row_cell q4 0).trans (show _=some (.slice none 0 0) from rfl)); (try have z1:=(row_cell q4 1).trans (show _=some (.map none) from rfl)); (try have z2:=(row_cell q4 2).trans (show _=some (.map none) from rfl)); (try have y0:=row_free q4 0); (try have y1:=row_free q4 1); (try have y2:=row_free q4 2)))
 all_goals first
   | (have hEk:u.heap.size≤w4.heap.size:=(by omega)
      have hKk:u.heap.size≤km:=(by have h:=hkm; (try simp at h);omega)
      obtain ⟨A,hA⟩:∃ A,w4.heap.size=A:=⟨_,rfl⟩
      have hEA:u.heap.size≤A:=(by omega)
      have HPW:Hid ((w4.alloc (.cells #[.slice none 0 0, .map (some im), .map (some km)] 89)).heap[w4.heap.size]? = some (.cells #[.slice none 0 0, .map (some im), .map (some km)] 89 (0,0))):=hide (heap_alloc_new w4 _)
      have HKW:Hid (MapAt (w4.alloc (.cells #[.slice none 0 0, .map (some im), .map (some km)] 89)) km K):=hide (hk4.alloc _)
      have HWW:Hid (WkM (fun g=>u.heap.size≤g) (w4.alloc (.cells #[.slice none 0 0, .map (some im), .map (some km)] 89)) (wakeD (Hv.toBeD D R DI) (keysOf (changedQ D R DI))) K):=hide ((hw4.weak (fun g hg=>by have:=hg;omega)).below ((Below.refl w4.heap.size w4).alloc (Nat.le_refl _) _))
      have HBW:Hid (Below u.heap.size u (w4.alloc (.cells #[.slice none 0 0, .map (some im), .map (some km)] 89))):=hide (hbw4.alloc (by omega) _)
      obtain ⟨W,hW⟩:∃ W,w4.alloc (.cells #[.slice none 0 0, .map (some im), .map (some km)] 89)=W:=⟨_,rfl⟩
      rw[hW] at HPW HKW HWW HBW ⊢
      rw[hA] at HPW ⊢
      clear hW)
   | (have hEk:u.heap.size≤w3.heap.size:=(by omega)
      have hKk:u.heap.size≤km:=(by have h:=hkm; (try simp at h);omega)
      obtain ⟨A,hA⟩:∃ A,w3.heap.size=A:=⟨_,rfl⟩
      have hEA:u.heap.size≤A:=(by omega)
      have HPW:Hid ((((w4.setCell ⟨w3.heap.size,0,none⟩ (.slice none 0 0)).setCell ⟨w3.heap.size,1,none⟩ (.map (some im))).setCell ⟨w3.heap.size,2,none⟩ (.map (some km))).heap[w3.heap.size]? = some (.cells #[.slice none 0 0, .map (some im), .map (some km)] 89 (0,0))):=hide (heap_setCell_same _ _ 2 _ _ _ (heap_setCell_same _ _ 1 _ _ _ (heap_setCell_same _ _ 0 _ _ _ q4)))
      have HKW:Hid (MapAt (((w4.setCell ⟨w3.heap.size,0,none⟩ (.slice none 0 0)).setCell ⟨w3.heap.size,1,none⟩ (.map (some im))).setCell ⟨w3.heap.size,2,none⟩ (.map (some km))) km K):=hide (((hk4.set (show km≠w3.heap.size by have h:=hkm; (try simp at h);omega) _).set (show km≠w3.heap.size by have h:=hkm; (try simp at h);omega) _).set (show km≠w3.heap.size by have h:=hkm; (try simp at h);omega) _)
      have HWW:Hid (WkM (fun g=>u.heap.size≤g) (((w4.setCell ⟨w3.heap.size,0,none⟩ (.slice none 0 0)).setCell ⟨w3.heap.size,1,none⟩ (.map (some im))).setCell ⟨w3.heap.size,2,none⟩ (.map (some km))) (wakeD (Hv.toBeD D R DI) (keysOf (changedQ D R DI))) K):=hide ((hw4.far ((((Far.refl w4.heap.size (fun q=>q=w3.heap.size) w4).setCell (p:=⟨w3.heap.size,0,none⟩) (.inr rfl) _).setCell (p:=⟨w3.heap.size,1,none⟩) (.inr rfl) _).setCell (p:=⟨w3.heap.size,2,none⟩) (.inr rfl) _) (Nat.le_refl _) (fun g _ hg e=>by have h:=hg; (try simp only at h);have e2:g=w3.heap.size:=e; (try simp at h);omega)).weak (fun g hg=>by have h:=hg; (try simp at h);omega))
      have HBW:Hid (Below u.heap.size u (((w4.setCell ⟨w3.heap.size,0,none⟩ (.slice none 0 0)).setCell ⟨w3.heap.size,1,none⟩ (.map (some im))).setCell ⟨w3.heap.size,2,none⟩ (.map (some km)))):=hide (((hbw4.setCell (by assumption) _).setCell (by assumption) _).setCell (by assumption) _)
      obtain ⟨W,hW⟩:∃ W,((w4.setCell ⟨w3.heap.size,0,none⟩ (.slice none 0 0)).setCell ⟨w3.heap.size,1,none⟩ (.map (some im))).setCell ⟨w3.heap.size,2,none⟩ (.map (some km))=W:=⟨_,rfl⟩
      rw[hW] at HPW HKW HWW HBW ⊢
      rw[hA] at HPW ⊢
      clear hW)
   | (have hEk:u.heap.size≤w2.heap.size:=(by omega)
      have hKk:u.heap.size≤km:=(by have h:=hkm; (try simp at h);omega)
      obtain ⟨A,hA⟩:∃ A,w2.heap.size=A:=⟨_,rfl⟩
      have hEA:u.heap.size≤A:=(by omega)
      have HPW:Hid ((((w4.setCell ⟨w2.heap.size,0,none⟩ (.slice none 0 0)).setCell ⟨w2.heap.size,1,none⟩ (.map (some im))).setCell ⟨w2.heap.size,2,none⟩ (.map (some km))).heap[w2.heap.size]? = some (.cells #[.slice none 0 0, .map (some im), .map (some km)] 89 (0,0))):=hide (heap_setCell_same _ _ 2 _ _ _ (heap_setCell_same _ _ 1 _ _ _ (heap_setCell_same _ _ 0 _ _ _ q4)))
      have HKW:Hid (MapAt (((w4.setCell ⟨w2.heap.size,0,none⟩ (.slice none 0 0)).setCell ⟨w2.heap.size,1,none⟩ (.map (some im))).setCell ⟨w2.heap.size,2,none⟩ (.map (some km))) km K):=hide (((hk4.set (show km≠w2.heap.size by have h:=hkm; (try simp at h);omega) _).set (show km≠w2.heap.size by have h:=hkm; (try simp at h);omega) _).set (show km≠w2.heap.size by have h:=hkm; (try simp at h);omega) _)
      have HWW:Hid (WkM (fun g=>u.heap.size≤g) (((w4.setCell ⟨w2.heap.size,0,none⟩ (.slice none 0 0)).setCell ⟨w2.heap.size,1,none⟩ (.map (some im))).setCell ⟨w2.heap.size,2,none⟩ (.map (some km))) (wakeD (Hv.toBeD D R DI) (keysOf (changedQ D R DI))) K):=hide ((hw4.far ((((Far.refl w4.heap.size (fun q=>q=w2.heap.size) w4).setCell (p:=⟨w2.heap.size,0,none⟩) (.inr rfl) _).setCell (p:=⟨w2.heap.size,1,none⟩) (.inr rfl) _).setCell (p:=⟨w2.heap.size,2,none⟩) (.inr rfl) _) (Nat.le_refl _) (fun g _ hg e=>by have h:=hg; (try simp only at h);have e2:g=w2.heap.size:=e; (try simp at h);omega)).weak (fun g hg=>by have h:=hg; (try simp at h);omega))
      have HBW:Hid (Below u.heap.size u (((w4.setCell ⟨w2.heap.size,0,none⟩ (.slice none 0 0)).setCell ⟨w2.heap.size,1,none⟩ (.map (some im))).setCell ⟨w2.heap.size,2,none⟩ (.map (some km)))):=hide (((hbw4.setCell (by assumption) _).setCell (by assumption) _).setCell (by assumption) _)
      obtain ⟨W,hW⟩:∃ W,((w4.setCell ⟨w2.heap.size,0,none⟩ (.slice none 0 0)).setCell ⟨w2.heap.size,1,none⟩ (.map (some im))).setCell ⟨w2.heap.size,2,none⟩ (.map (some km))=W:=⟨_,rfl⟩
      rw[hW] at HPW HKW HWW HBW ⊢
      rw[hA] at HPW ⊢
      clear hW)
   | (have hEk:u.heap.size≤u.heap.size:=(by omega)
      have hKk:u.heap.size≤km:=(by have h:=hkm; (try simp at h);omega)
      obtain ⟨A,hA⟩:∃ A,u.heap.size=A:=⟨_,rfl⟩
      have hEA:u.heap.size≤A:=(by omega)
      have HPW:Hid ((((w4.setCell ⟨u.heap.size,0,none⟩ (.slice none 0 0)).setCell ⟨u.heap.size,1,none⟩ (.map (some im))).setCell ⟨u.heap.size,2,none⟩ (.map (some km))).heap[u.heap.size]? = some (.cells #[.slice none 0 0, .map (some im), .map (some km)] 89 (0,0))):=hide (heap_setCell_same _ _ 2 _ _ _ (heap_setCell_same _ _ 1 _ _ _ (heap_setCell_same _ _ 0 _ _ _ q4)))
      have HKW:Hid (MapAt (((w4.setCell ⟨u.heap.size,0,none⟩ (.slice none 0 0)).setCell ⟨u.heap.size,1,none⟩ (.map (some im))).setCell ⟨u.heap.size,2,none⟩ (.map (some km))) km K):=hide (((hk4.set (show km≠u.heap.size by have h:=hkm; (try simp at h);omega) _).set (show km≠u.heap.size by have h:=hkm; (try simp at h);omega) _).set (show km≠u.heap.size by have h:=hkm; (try simp at h);omega) _)
      have HWW:Hid (WkM (fun g=>u.heap.size≤g) (((w4.setCell ⟨u.heap.size,0,none⟩ (.slice none 0 0)).setCell ⟨u.heap.size,1,none⟩ (.map (some im))).setCell ⟨u.heap.size,2,none⟩ (.map (some km))) (wakeD (Hv.toBeD D R DI) (keysOf (changedQ D R DI))) K):=hide ((hw4.far ((((Far.refl w4.heap.size (fun q=>q=u.heap.size) w4).setCell (p:=⟨u.heap.size,0,none⟩) (.inr rfl) _).setCell (p:=⟨u.heap.size,1,none⟩) (.inr rfl) _).setCell (p:=⟨u.heap.size,2,none⟩) (.inr rfl) _) (Nat.le_refl _) (fun g _ hg e=>by have h:=hg; (try simp only at h);have e2:g=u.heap.size:=e; (try simp at h);omega)).weak (fun g hg=>by have h:=hg; (try simp at h);omega))
      have HBW:Hid (Below u.heap.size u (((w4.setCell ⟨u.heap.size,0,none⟩ (.slice none 0 0)).setCell ⟨u.heap.size,1,none⟩ (.map (some im))).setCell ⟨u.heap.size,2,none⟩ (.map (some km)))):=hide (((hbw4.setCell (by assumption) _).setCell (by assumption) _).setCell (by assumption) _)
      obtain ⟨W,hW⟩:∃ W,((w4.setCell ⟨u.heap.size,0,none⟩ (.slice none 0 0)).setCell ⟨u.heap.size,1,none⟩ (.map (some im))).setCell ⟨u.heap.size,2,none⟩ (.map (some km))=W:=⟨_,rfl⟩
      rw[hW] at HPW HKW HWW HBW ⊢
      rw[hA] at HPW ⊢
      clear hW)
 all_goals
   clear hA
   have HS5:=HBW.out.size
   have hrw:=(HBW.out.block B (by omega)).trans HR1.out
   have hBW:B<W.heap.size:=by omega
   have hAW:=blt HPW.out
   have hbl:=(Below.refl W.heap.size W).alloc (Nat.le_refl _) (.map #[] 0)
   have HL1:=hide (MapAt.made W)
   have c0:=(row_cell ((hbl.block B hBW).trans hrw) 0).trans (show _=some (.map (some rm)) from rfl)
   have hrm:=((HW1.out.below HBW.out).below hbl).rem
   have HI0:=hide (MkIn.start (N:=N) HBW.out HPW.out HKW.out HWW.out hEA HL1.out)
   have HRWB:=hide hrw
   have hlb1:(W.alloc (.map #[] 0)).heap.size=W.heap.size+1:=by simp
   obtain ⟨Lb,hLb⟩:∃ Lb,W.heap.size=Lb:=⟨_,rfl⟩
   rw[hLb] at HI0 HL1 hlb1 hAW hBW HS5
   obtain ⟨W1,hW1⟩:∃ W1,W.alloc (.map #[] 0)=W1:=⟨_,rfl⟩
   rw[hW1] at c0 hrm HI0 HL1 hlb1
   have HLBE:=hide hLb
   clear hbl hrw
   go_wp2_with (first
     | (at_range;refine wp_range rfl _ 133 rfl 53 Tryz.underlying133 hrm rfl ?_;intro w5 hrg5 hg5 hs5;have HG5:=hide hrg5;have HI5:=hide (HI0.out.below ((Below.refl _ _).grown hg5 (Nat.le_refl _) (fun q hq=>by cases hq)))))
   rw[hlb1] at HG5 hs5 ⊢
   go_frame
   clear hg5 hrg5 hrm c0 HI0 HL1
   have hs5b:Lb+1+1=w5.heap.size:=hs5.symm
   clear hs5
   go_loopw [26] (fun _ wr=>∃ (left:S→Bool) (cnt:Nat) (LD:VM Hv.PD) (L:VM Value),Hid (MapOn wr rm (Lb+1) R left cnt)∧Hid (MkIn u A im km Lb (wakeD (Hv.toBeD D R DI) (keysOf (changedQ D R DI))) K N LD L (.slice none 0 0) [] wr)∧Hid (Leaving D R left LD)∧L.length+cnt≤R.length∧Lb+1<wr.heap.size)
     (fun _ wr=>wr.rangeLeft rm (Lb+1))
   case atStart=>exact ⟨_,_,[],[],HG5,HI5,hide (fun k=>by rw[if_neg (fun h=>by rw[h.1] at h;cases h.2)];rfl),by simp,by omega⟩
   case round =>
     clear HG5 HI5 hs5b
     obtain ⟨left,cnt,LD,L,HG,HI,HLV,hroom,hsz⟩:=hrel
     go_wp2_with (first
       | (at_next;refine wp_next rfl _ rfl (Lb+1) left cnt rfl HG.out ?_ ?_))
     · intro hc0 hl0
       have HE:=hide (HI.out.lpk.srt.get_ext (Hv.leaveD_srt HPP.out.srt R) (fun k=>by rw[HLV.out k,Hv.leaveD_get HPP.out.srt,hl0 k];simp))
       have c1:=(row_cell ((HI.out.bel.block B (by omega)).trans HR1.out) 1).trans (show _=some (.map (some im)) from rfl)
       have hLL:L.length≤1000:=by omega
       clear HG HLV hroom hl0
       go_wp2_with fail
       refine (order_A im I DI (fun g=>B0≤g) (by omega) (fun n hn=>hnI.len hn) wr (HW1.out.below HI.out.bel).ins (HI1.out.below HI.out.bel)).mono ?_
       rintro e w8 ⟨ov,rfl,ho8,hb8⟩
       obtain ⟨oa,oc,rfl⟩:=slice_form ho8
       have HO8:=hide ho8
       have HI8:=hide (HI.out.below hb8)
       have hs8:=hb8.size
       have hLl:=HI.out.lpk.len HI.out.lmap.1
       have hLD:LD=Hv.leaveD D R:=HE.out
       subst hLD
       have hLs:(Hv.order freeB (Hv.leaveD D R)).length≤12:=by
         rw[Hv.order_len]
         have hpD:P.length=D.length:=HPP.out.len HM.out.packs.1
         have:=List.length_filter_le (fun p:S × Hv.PD=>Hv.has R p.1) D;unfold Hv.leaveD;omega
       have hIs:(Hv.order freeA DI).length≤12:=by
         rw[Hv.order_len]
         have:I.length=DI.length:=HII.out.len HW.out.ins.1
         omega
       clear ho8 hb8 c1 HE hLl
       go_wp2_with fail
       refine (order_B Lb L (Hv.leaveD D R) N hLL (fun n hn=>hnD.len (leave_has HPP.out.srt hn)) w8 HI8.out.lmap HI8.out.lpk).mono ?_
       rintro e w9 ⟨lv,rfl,ho9,hb9⟩
       have HO9:=hide (own_base ho9 (Nat.zero_le _))
       have HI9:=hide (HI8.out.below hb9)
       have HO89:=hide (own_below (own_base HO8.out (Nat.zero_le _)) hb9)
       obtain ⟨la,lc,rfl⟩:=slice_form ho9
       have hs9:=hb9.size
       clear ho9 hb9 HO8
       have hA9:A+1≤w9.heap.size:=by omega
       go_wp2_with fail
       refine (add_any A (A+1) (by omega) (.map (some im)) (.map (some km)) 1 none 0 [] (Hv.order freeB (Hv.leaveD D R)) (by simp;omega) (.slice la (Hv.order freeB (Hv.leaveD D R)).length lc) w9 HI9.out.plan HI9.out.row hA9 HO9.out).mono ?_
       rintro e w10 ⟨u10,so1,sc1,rfl,hp10,hr10,hf10⟩
       have HO10:=hide (HI9.out.str hf10 HO89.out)
       have HI10:=hide (HI9.out.added hp10 hr10 hf10)
       have hs10:=hf10.size
       clear hp10 hr10 hf10 HO89 HO9
       go_wp2_with fail
       refine (add_any A (A+1) (by omega) (.map (some im)) (.map (some km)) 2 so1 sc1 _ (Hv.order freeA DI) (by simp;omega) (.slice oa (Hv.order freeA DI).length oc) w10 HI10.out.plan HI10.out.row (by omega) HO10.out).mono ?_
       rintro e w11 ⟨u11,so2,sc2,rfl,hp11,hr11,hf11⟩
       have HO11:=hide (HI10.out.str hf11 HO10.out)
       have HI11:=hide (HI10.out.added hp11 hr11 hf11)
       have hs11:=hf11.size
       clear hp11 hr11 hf11 HO10 HI10
       go_wp2_with fail
       refine (add_any A (A+1) (by omega) (.map (some im)) (.map (some km)) 3 so2 sc2 _ (Hv.order freeA DI) (by simp;omega) (.slice oa (Hv.order freeA DI).length oc) w11 HI11.out.plan HI11.out.row (by omega) HO11.out).mono ?_
       rintro e w12 ⟨u12,so3,sc3,rfl,hp12,hr12,hf12⟩
       have HI12:=hide (HI11.out.added hp12 hr12 hf12)
       have hs12:=hf12.size
       clear hp12 hr12 hf12 HO11 HI11
       have k2:=(row_cell HI12.out.plan 2).trans (show _=some (.map (some km)) from rfl)
       have hkl:K.length≤1000:=by
         rw[len_keys (HI12.out.wak.keys HI12.out.kmap.1)]
         refine Nat.le_trans (wakeD_len _ _) ?_
         rw[← HTB.out.len HTBS.out]
         omega
       go_wp2_with fail
       refine (callsIn_wide.1 (Tryz.maps_Keys_130 (some km) w12)).mono ?_
       rintro e w13 ⟨rfl,rfl⟩
       go_wp2_with fail
       refine (callsIn_wide.1 (Tryz.slices_Sorted_keys_72_130 km K.length (Hv.dOf K) Hv.hR w12 HI12.out.kmap.2 (by rw[Hv.d_size];unfold maxLen;omega) (by rw[Hv.d_size];omega))).mono ?_
       rintro e w14 ⟨kv,ss,rfl,hS,hrow14, -,hb14⟩
       have hk14:=sort_keys HI12.out.kmap.1 hS
       have hl14:ss.length=(keysOf K).length:=by rw[hS.length_eq,strKeys_d]
       rw[hk14,hl14,HI12.out.wak.keys HI12.out.kmap.1] at hrow14
       have HB14:=hide (((Below.refl w12.heap.size w12).alloc (Nat.le_refl _) (.cells #[.map (some km)] 87)).trans (hb14.mono (by simp)))
       have HO14:=hide (own_base hrow14 (Nat.zero_le _))
       have HI14:=hide (HI12.out.below HB14.out)
       have hs14:=HB14.out.size
       obtain ⟨ka,kc,rfl⟩:=slice_form hrow14
       have hkl2:(keysOf (wakeD (Hv.toBeD D R DI) (keysOf (changedQ D R DI)))).length≤100:=by
         have e:(keysOf (wakeD (Hv.toBeD D R DI) (keysOf (changedQ D R DI)))).length=(wakeD (Hv.toBeD D R DI) (keysOf (changedQ D R DI))).length:=by simp[keysOf]
         rw[e]
         refine Nat.le_trans (wakeD_len _ _) ?_
         rw[← HTB.out.len HTBS.out]
         have:=toBeOf_len P R I
         omega
       clear hrow14 hb14 hk14 hl14 hS k2 HI12
       go_wp2_with fail
       refine (add_any A (A+1) (by omega) (.map (some im)) (.map (some km)) 4 so3 sc3 _ (keysOf (wakeD (Hv.toBeD D R DI) (keysOf (changedQ D R DI)))) (by simp;omega) (.slice ka (keysOf (wakeD (Hv.toBeD D R DI) (keysOf (changedQ D R DI)))).length kc) w14 HI14.out.plan HI14.out.row (by omega) HO14.out).mono ?_
       rintro e w15 ⟨u15,so4,sc4,rfl,hp15,hr15,hf15⟩
       have HI15:=hide (HI14.out.added hp15 hr15 hf15)
       clear hp15 hr15 hf15 HO14 HI14
       have hst:[]++(Hv.order freeB (Hv.leaveD D R)).map (fun x=>((1,x):Hv.Step))++(Hv.order freeA DI).map (fun x=>(2,x))++(Hv.order freeA DI).map (fun x=>(3,x))++(keysOf (wakeD (Hv.toBeD D R DI) (keysOf (changedQ D R DI)))).map (fun x=>(4,x))=(Hv.planD D R DI).steps:=rfl
       rw[hst] at HI15
       obtain ⟨nst,hnst⟩:∃ nst,(Hv.planD D R DI).steps.length=nst:=⟨_,rfl⟩
       have HNS:=hide hnst
       have hI15:=HI15.out
       have hpl15:=HI15.out.plan
       rw[hnst] at hpl15
       have p0:=(row_cell hpl15 0).trans (show _=some (.slice so4 nst sc4) from rfl)
       have p1:=(row_cell hpl15 1).trans (show _=some (.map (some im)) from rfl)
       have p2:=(row_cell hpl15 2).trans (show _=some (.map (some km)) from rfl)
       have hq15:=(HI15.out.bel.block (B+1) (by omega)).trans HQ1.out
       have f0:=row_free hq15 0
       have f1:=row_free hq15 1
       have f2:=row_free hq15 2
       have r0:=(row_cell hq15 0).trans (show _=some (.slice none 0 0) from rfl)
       have r1:=(row_cell hq15 1).trans (show _=some (.map none) from rfl)
       have r2:=(row_cell hq15 2).trans (show _=some (.map none) from rfl)
       have hq16:=heap_setCell_same _ _ 2 _ _ (.map (some km)) (heap_setCell_same _ _ 1 _ _ (.map (some im)) (heap_setCell_same _ _ 0 _ _ (.slice so4 nst sc4) hq15))
       have n0:=(row_cell hq16 0).trans (show _=some (.slice so4 nst sc4) from rfl)
       have n1:=(row_cell hq16 1).trans (show _=some (.map (some im)) from rfl)
       have n2:=(row_cell hq16 2).trans (show _=some (.map (some km)) from rfl)
       have hB0:B0≤im∧B0≤B:=hB0
       have HF:Hid (Far w15.heap.size (fun q=>q=B+1) w15 (((w15.setCell ⟨B+1,0,none⟩ (.slice so4 nst sc4)).setCell ⟨B+1,1,none⟩ (.map (some im))).setCell ⟨B+1,2,none⟩ (.map (some km)))):=hide ((((Far.refl w15.heap.size (fun q=>q=B+1) w15).setCell (p:=⟨B+1,0,none⟩) (.inr rfl) _).setCell (p:=⟨B+1,1,none⟩) (.inr rfl) _).setCell (p:=⟨B+1,2,none⟩) (.inr rfl) _)
       have HC:Hid (Cellish w15 (fun q=>q=B+1) (fun t=>t=89∨t=285)):=hide (fun g hg=>by
         obtain rfl:g=B+1:=hg
         exact ⟨_,_,_,hq15, .inl rfl⟩)
       have HPA:Hid (PlanAt B0 (Hv.planD D R DI) (.slice so4 nst sc4) im km (((w15.setCell ⟨B+1,0,none⟩ (.slice so4 nst sc4)).setCell ⟨B+1,1,none⟩ (.map (some im))).setCell ⟨B+1,2,none⟩ (.map (some km)))):=hide (by
         have hrow:=HI15.out.row
         rw[hnst] at hrow
         refine ⟨?_,⟨I,HC.out.map (HW1.out.below HI15.out.bel).ins HF.out (Nat.le_refl _),(HI1.out.below HI15.out.bel).foreign HF.out (Nat.le_refl _) (HC.out.noPk two_pty)⟩,⟨K,HC.out.map HI15.out.kmap HF.out (Nat.le_refl _),(HI15.out.wak.foreign HF.out (Nat.le_refl _) (HC.out.no two_str)).weak (fun g hg=>by omega)⟩,hB0.1,by omega⟩
         rw[hnst]
         exact own_base (HF.out.own hrow (Nat.le_refl _) (fun g hg e=>by have:=(hrow.lt g hg).1;have e2:g=B+1:=e;omega)) (by omega))
       have HBF:Hid (Below B w (((w15.setCell ⟨B+1,0,none⟩ (.slice so4 nst sc4)).setCell ⟨B+1,1,none⟩ (.map (some im))).setCell ⟨B+1,2,none⟩ (.map (some km)))):=hide ((HB1.out.trans (HI15.out.bel.mono (by omega))).trans (HF.out.toBelow (by have:=HI15.out.bel.size;omega) (fun q hq (e:q=B+1)=>by omega)))
       clear hst hnst hpl15 hq15 hq16 hI15
       go_wp2_with fail
       refine bodyPost_ret (v := .agg #[.slice so4 nst sc4, .map (some im), .map (some km)]) (by simp[results,Tryz.results67,go_sem,n0,n1,n2]) rfl ?_
       rw[HBE.out]
       exact ⟨_,km,rfl,HPA.out,HBF.out⟩
     · intro k v w6 cnt1 hk hlk hget hrg1 hlt hg1 hs1' hen
       obtain rfl:=HRU.out k v hget
       have hRk:Hv.has R k=true:=by rw[Hv.has_get,hget];rfl
       have hDk:∃ d,Hv.get D k=some d:=by
         have h:=absent_has hab hRk
         rw[Hv.has_get] at h
         exact Option.isSome_iff_exists.1 h
       obtain ⟨d,hd⟩:=hDk
       obtain ⟨v,hv,hr⟩:=HPP.out.fro k d hd
       obtain ⟨p,rfl,pr⟩:=hr
       have hnr:=HG.out.no_row
       have hfr:Far wr.heap.size (fun q=>q=Lb+1) wr w6:=⟨hg1.os,hg1.tape,hg1.output,hg1.size,fun q hq hc=>hg1.block q hq (fun e=>hc (Option.some.inj e))⟩
       have HI6:=hide (HI.out.iter hnr hfr)
       have HG6:=hide hrg1
       have hp6:=(HM1.out.below HI6.out.bel).packs
       have m6:=(row_cell (HM1.out.below HI6.out.bel).blk 0).trans (show _=some (.map (some pm)) from rfl)
       have hpk6:PkR N w6 d p.val:=PkR.below (show PkR N u d p.val from PkR.below ⟨p,rfl,pr⟩ (by rw[HBE9.out];exact HB1.out)) HI6.out.bel
       have HPK:=hide hpk6
       have hlm:=HI6.out.lmap
       have hsz6:Lb+1<w6.heap.size:=by have:=hfr.size;omega
       have HV:=hide hv
       have hll:L.length<maxLen:=by unfold maxLen;omega
       clear hrg1 hg1 hget hfr hnr pr hv
       have HPV:=hide (show Value.agg p.cells=p.val from rfl)
       go_wp2_with (first
         | (at_lookup;refine wp_look rfl _ _ 86 rfl 156 Tryz.underlying86 (zero_pk _) hp6 rfl k hk rfl ?_;rw[HV.out];simp only[Option.getD_some,Pk.val,Pk.cells])
         | (at_mapUpdate;refine wp_store rfl _ _ _ 86 rfl 156 Tryz.underlying86 hlm hll rfl k hk rfl p.val rfl ?_;intro w7 hm7 ht7;go_frame))
       have hf7:=turned_far ht7
       have HI7:=hide (HI6.out.leave hm7 ht7 (HI6.out.lpk.put HI6.out.lmap.1 k HPK.out))
       have HG7:=hide (HG6.out.far hf7 (Nat.le_refl _) (rem_ne HI6.out HW1.out.rem) (by omega))
       have HLV7:=hide (HLV.out.step HI6.out.lpk.srt hRk hd)
       have hl7:=Hv.put_len L k p.val
       have hs7:=hf7.size
       clear hm7 ht7 hf7 hlm hp6 m6 hpk6
       go_roundw
       case rel=>exact ⟨_,cnt1,_,_,HG7,HI7,HLV7,by omega,by omega⟩
       case measure=>rw[HG7.out.left_eq,HG.out.left_eq];exact hlt
end
section
open Go.RowKit
open Arc (St Cmd)
open Hv (S Dk VM)
def PdPost (mb pm fm:Nat) (m':Hv.Mac) (N:Nat→Prop) (w:World) (e:Ending) (w':World):Prop :=
 ∃ u P',e = .returned u∧MachAt mb pm fm P' (Hv.fileM m'.2) w'∧PkM N w' m'.1 P'∧Far w.heap.size (fun q=>q=pm∨q=fm) w w'
theorem steps_at {w:World} {B e:Nat} {v:Value} {l:List Hv.Step} (h:w.ownsRow B e 2 v l.length (l.flatMap stepV)) {k:Nat} (hk:k<l.length) :
   ∃ g c,v = .slice (some ⟨g,0,none⟩) l.length c∧g<w.heap.size∧w.cell? ⟨g,k*2,none⟩=some (.int .i64 l[k].1)∧w.cell? ⟨g,k*2+1,none⟩=some (.string ⟨l[k].2.toArray⟩):=by
 obtain ⟨g,cap,rfl⟩:=own_form h (by omega)
 have key:∀ (l:List Hv.Step) (k:Nat) (hk:k<l.length) (j:Nat),j<2→(l.flatMap stepV)[k*2+j]? = (stepV l[k])[j]? := by
   intro l
   induction l with
   | nil=>intro k hk;simp at hk
   | cons c l ih =>
     intro k hk j hj
     rw[List.flatMap_cons]
     cases k with
     | zero=>rw[List.getElem?_append_left (by simp[stepV];omega)];simp
     | succ k =>
       have hl:(stepV c).length=2:=rfl
       rw[List.getElem?_append_right (by omega),hl,show (k+1)*2+j-2=k*2+j by omega]
       exact ih k (by simpa using hk) j hj
 refine ⟨g,cap,rfl,(h.lt g rfl).2,?_,?_⟩
 · rw[h.cellAt _ (by omega)];exact key l k hk 0 (by omega)
 · rw[h.cellAt _ (by omega)];exact key l k hk 1 (by omega)
theorem MachAt.pack {mb pm fm:Nat} {P P' F:VM Value} {w w':World} (h:MachAt mb pm fm P F w) (hm:MapAt w' pm P') (ht:w.mapTurned w' pm):MachAt mb pm fm P' F w':=by
 have hf:=turned_far ht
 exact ⟨(hf.block mb (blt h.blk) h.apart.1).trans h.blk,hm,h.files.kept (hf.block fm h.files.lt (fun e=>h.apart.2.2 e.symm)),h.apart⟩
theorem PlanAt.below {B:Nat} {pl:Hv.Plan} {sv:Value} {im km:Nat} {w w':World} (h:PlanAt B pl sv im km w) (hb:Below w.heap.size w w'):PlanAt B pl sv im km w':=by
 obtain ⟨I,i1,i2⟩:=h.ins
 obtain ⟨K,k1,k2⟩:=h.wak
 exact ⟨own_below h.row hb,⟨I,i1.below hb,i2.below hb⟩,⟨K,k1.below hb,k2.below hb⟩,h.ge⟩
theorem pdo_gone (mb pm fm:Nat) (P:VM Value) (D:VM Hv.PD) (G:VM S) (N:Nat→Prop) (g:Nat) (n:Nat) (nn c im km:Nat) (hn:n<nn) (x:S) (hx:x.length≤maxLen) (w:World) (h:MachAt mb pm fm P (Hv.fileM G) w) (hP:PkM N w D P) (q1:w.cell? ⟨g,n*2,none⟩=some (.int .i64 1)) (q2:w.cell? ⟨g,n*2+1,none⟩=some (.string ⟨x.toArray⟩)) :
   Calls Tryz.prog 132 #[.agg #[.slice (some ⟨g,0,none⟩) nn c, .map (some im), .map (some km)], .int .i64 n, .pointer (some ⟨mb,0,none⟩)] w (PdPost mb pm fm (Hv.del D x,G) N w):=by
 have hb0:=(Below.refl w.heap.size w).alloc (Nat.le_refl _) (.cells #[.slice (some ⟨g,0,none⟩) nn c, .map (some im), .map (some km)] 89)
 have HM0:=hide (h.below hb0)
 have HP0:=hide (hP.below hb0)
 have hgl:g<w.heap.size:=World.block_lt_of_cell? w _ q1
 have d1:=(hb0.cell (p:=⟨g,n*2,none⟩) hgl).trans q1
 have d2:=(hb0.cell (p:=⟨g,n*2+1,none⟩) hgl).trans q2
 have hml:=blt h.blk
 have hb1:(n:Int)<(nn:Int):=by omega
 have hrow:=heap_alloc_new w (.cells #[.slice (some ⟨g,0,none⟩) nn c, .map (some im), .map (some km)] 89)
 have HF0:=hide ((Far.refl w.heap.size (fun q=>q=pm∨q=fm) w).alloc (Nat.le_refl _) (.cells #[.slice (some ⟨g,0,none⟩) nn c, .map (some im), .map (some km)] 89))
 have m0:=(row_cell HM0.out.blk 0).trans (show _=some (.map (some pm)) from rfl)
 have hus:(w.alloc (.cells #[.slice (some ⟨g,0,none⟩) nn c, .map (some im), .map (some km)] 89)).heap.size=w.heap.size+1:=by simp
 have hpm:=HM0.out.packs
 clear h hP hb0 q1 q2
 go_enter Tryz.func132,Tryz.ntmps132
 go_wp2_with (first
   | (at_delete;refine wp_drop rfl _ _ 86 rfl 156 Tryz.underlying86 hpm rfl x hx rfl ?_;intro w5 hE2 ht2;go_frame))
 have hf:=turned_far ht2
 have HM5:=hide (HM0.out.pack hE2 ht2)
 have HP5:=hide ((HP0.out.del HM0.out.packs.1 x).turned HM0.out.packs.no_row hf (Nat.le_refl _))
 have HF5:=hide (HF0.out.next hf (by omega) (fun _ _ q => .inl q))
 go_end0
 exact ⟨_,_,rfl,HM5.out,HP5.out,HF5.out⟩
theorem pdo_unpack (mb pm fm:Nat) (P I:VM Value) (D DI:VM Hv.PD) (G:VM S) (N:Nat→Prop) (g:Nat) (n:Nat) (nn c im km:Nat) (hn:n<nn) (x:S) (hx:x.length≤maxLen) (hPl:P.length≤1000) (d:Hv.PD) (hd:Hv.get DI x=some d) (w:World) (h:MachAt mb pm fm P (Hv.fileM G) w) (hP:PkM N w D P) (hi:MapAt w im I) (hI:PkM N w DI I) (q1:w.cell? ⟨g,n*2,none⟩=some (.int .i64 2)) (q2:w.cell? ⟨g,n*2+1,none⟩=some (.string ⟨x.toArray⟩)) :
   Calls Tryz.prog 132 #[.agg #[.slice (some ⟨g,0,none⟩) nn c, .map (some im), .map (some km)], .int .i64 n, .pointer (some ⟨mb,0,none⟩)] w (PdPost mb pm fm (Hv.put D x d,G) N w):=by
 have hb0:=(Below.refl w.heap.size w).alloc (Nat.le_refl _) (.cells #[.slice (some ⟨g,0,none⟩) nn c, .map (some im), .map (some km)] 89)
 have HM0:=hide (h.below hb0)
 have HP0:=hide (hP.below hb0)
 have hi0:=hi.below hb0
 obtain ⟨v,hv,hr⟩:=(hI.below hb0).fro x d hd
 have HPR:=hide hr
 obtain ⟨p,rfl, -⟩:=hr
 have HV:=hide hv
 have hgl:g<w.heap.size:=World.block_lt_of_cell? w _ q1
 have d1:=(hb0.cell (p:=⟨g,n*2,none⟩) hgl).trans q1
 have d2:=(hb0.cell (p:=⟨g,n*2+1,none⟩) hgl).trans q2
 have hml:=blt h.blk
 have hb1:(n:Int)<(nn:Int):=by omega
 have hrow:=heap_alloc_new w (.cells #[.slice (some ⟨g,0,none⟩) nn c, .map (some im), .map (some km)] 89)
 have HF0:=hide ((Far.refl w.heap.size (fun q=>q=pm∨q=fm) w).alloc (Nat.le_refl _) (.cells #[.slice (some ⟨g,0,none⟩) nn c, .map (some im), .map (some km)] 89))
 have m0:=(row_cell HM0.out.blk 0).trans (show _=some (.map (some pm)) from rfl)
 have hus:(w.alloc (.cells #[.slice (some ⟨g,0,none⟩) nn c, .map (some im), .map (some km)] 89)).heap.size=w.heap.size+1:=by simp
 have hpm:=HM0.out.packs
 have hPm:P.length<maxLen:=by unfold maxLen;omega
 clear h hP hb0 q1 q2 hI hv
 go_enter Tryz.func132,Tryz.ntmps132
 go_wp2_with fail
 obtain ⟨u,hu⟩:∃ u,w.alloc (.cells #[.slice (some ⟨g,0,none⟩) nn c, .map (some im), .map (some km)] 89)=u:=⟨_,rfl⟩
 rw[hu] at HM0 HP0 HF0 HPR hus hrow hi0 hpm m0 ⊢
 clear hu
 have hlk:=hi0.drew.look Tryz.underlying86 (zero_pk _) x hx
 rw[HV.out] at hlk
 simp only[Option.getD_some,Pk.val,Pk.cells] at hlk
 obtain ⟨w',hrun,hM',ht⟩:=hpm.drew.store Tryz.underlying86 hPm x hx p.val
 simp only[Pk.val,Pk.cells] at hrun
 have hf:=turned_far ht
 have HM5:Hid (MachAt mb pm fm (Hv.put P x p.val) (Hv.fileM G) w'):=hide ((show MachAt mb pm fm P (Hv.fileM G) u.drew from ⟨HM0.out.blk,HM0.out.packs.drew,HM0.out.files.drew,HM0.out.apart⟩).pack hM' ht)
 have HP5:Hid (PkM N w' (Hv.put D x d) (Hv.put P x p.val)):=hide (((show PkM N u.drew _ _ from (HP0.out.put HM0.out.packs.1 x HPR.out).below ((Below.refl _ u).drew))).turned HM0.out.packs.drew.no_row hf (Nat.le_refl _))
 have HF5:Hid (Far w.heap.size (fun q=>q=pm∨q=fm) w w'):=hide (HF0.out.drew.next hf (by simp;omega) (fun _ _ q => .inl q))
 obtain ⟨B,hB⟩:∃ B,w.heap.size=B:=⟨_,rfl⟩
 rw[hB] at hrow ⊢
 have hpl:=HM0.out.packs.lt
 have hpb:pm≠B:=fun e=>HM0.out.packs.no_row _ _ _ (by rw[e];exact hrow)
 have hrw:w'.heap[B]? = u.heap[B]? := hf.block B (by simp;omega) (fun e=>hpb e.symm)
 have c1:=(row_cell hrow 1).trans (show _=some (.map (some im)) from rfl)
 have e1:=(row_cell (hrw.trans hrow) 1).trans (show _=some (.map (some im)) from rfl)
 have m1':=(row_cell HM5.out.blk 0).trans (show _=some (.map (some pm)) from rfl)
 clear hM' ht hf hrow hrw HM0 HF0 hi0 hpm d1 d2
 go_region_held3 (fun w'=>w'.cell? ⟨mb,0,none⟩=some (.map (some pm))∧w'.cell? ⟨B,1,none⟩=some (.map (some im)))
   (first | assumption | exact ⟨m1',e1⟩ | exact ⟨m0,c1⟩ | simp[go_sem, *])
   (fail)
 go_wp2_with fail
 go_end0
 exact ⟨_,_,rfl,HM5.out,HP5.out,HF5.out⟩
theorem field_runs (p:Pk) (w:World):(Instr.field 154 p.arc 6).run Tryz.prog w = .ok p.runs.val w:=by kernel_rfl
theorem field_wokens (p:Pk) (w:World):(Instr.field 154 p.arc 7).run Tryz.prog w = .ok p.wokens.val w:=by kernel_rfl
structure DBound (L:Nat) (D:VM Hv.PD):Prop where
 files:Hv.FShort L D
 copies:FindC ∨ ∀ k d,Hv.get D k=some d→NoCopy d.st.runs∧NoCopy d.st.wokens
theorem pdo_configure (mb pm fm:Nat) (P K:VM Value) (D:VM Hv.PD) (G:VM S) (N:Nat→Prop) (g:Nat) (n:Nat) (nn c im km:Nat) (hn:n<nn) (x:S) (hx:x.length≤maxLen) (hPl:P.length≤1000) (hG:G.length≤1000) (L:Nat) (hL:L≤1000000) (hS:Hv.Short L G) (hDB:DBound L D) (d:Hv.PD) (hd:Hv.get D x=some d) (w:World) (h:MachAt mb pm fm P (Hv.fileM G) w) (hP:PkM N w D P) (hk:MapAt w km K) (hK:AllS K) (hkm : ¬ km=fm) (st:Int) (hst:(if Hv.has K x=true then (3:Int) else 2)=st) (q1:w.cell? ⟨g,n*2,none⟩=some (.int .i64 3)) (q2:w.cell? ⟨g,n*2+1,none⟩=some (.string ⟨x.toArray⟩)) :
   Calls Tryz.prog 132 #[.agg #[.slice (some ⟨g,0,none⟩) nn c, .map (some im), .map (some km)], .int .i64 n, .pointer (some ⟨mb,0,none⟩)] w (PdPost mb pm fm (Hv.put D x (d.to st),Hv.runC D [] G d.st.runs) N w):=by
 have hb0:=(Below.refl w.heap.size w).alloc (Nat.le_refl _) (.cells #[.slice (some ⟨g,0,none⟩) nn c, .map (some im), .map (some km)] 89)
 have HM0:=hide (h.below hb0)
 have HP0:=hide (hP.below hb0)
 have HK0:=hide (hk.below hb0)
 have HKS:=hide hK
 have HST:=hide hst
 clear hst
 obtain ⟨v,hv,hr⟩:=(hP.below hb0).fro x d hd
 obtain ⟨p,rfl, -, -, -, -,hpk, -⟩:=hr
 have HV:=hide hv
 have hgl:g<w.heap.size:=World.block_lt_of_cell? w _ q1
 have d1:=(hb0.cell (p:=⟨g,n*2,none⟩) hgl).trans q1
 have d2:=(hb0.cell (p:=⟨g,n*2+1,none⟩) hgl).trans q2
 have hml:=blt h.blk
 have hb1:(n:Int)<(nn:Int):=by omega
 have hrow:=heap_alloc_new w (.cells #[.slice (some ⟨g,0,none⟩) nn c, .map (some im), .map (some km)] 89)
 have HF0:=hide ((Far.refl w.heap.size (fun q=>q=pm∨q=fm) w).alloc (Nat.le_refl _) (.cells #[.slice (some ⟨g,0,none⟩) nn c, .map (some im), .map (some km)] 89))
 have m0:=(row_cell HM0.out.blk 0).trans (show _=some (.map (some pm)) from rfl)
 have hus:(w.alloc (.cells #[.slice (some ⟨g,0,none⟩) nn c, .map (some im), .map (some km)] 89)).heap.size=w.heap.size+1:=by simp
 have hpm:=HM0.out.packs
 have hPm:P.length<maxLen:=by unfold maxLen;omega
 have hgood:=(parse_good hpk.parse).2.2
 have hfit:=(parse_fits hpk.parse).2.2.1
 have hro:=hpk.rows 4
 have hf1:=field_arc p
 have hf2:=field_runs p
 have HRUN:=hide (fun w' (hm:MachAt mb pm fm P (Hv.fileM G) w') (hp:PkM N w' D P) (hr:w'.ownsRow 0 317 4 p.runs.val d.st.runs.length (d.st.runs.flatMap cmdV))=>run_any mb pm fm P D N G d.st.runs (fun c hc=>(hgood.runs c hc).1) (hDB.copies.symm.imp (fun h=>(h x d hd).1) id) (by have:=hfit.2.2.2.2.1;omega) hPl hG L hL hDB.files hS p.runs.val (.slice none 0 0) [] (by simp) (fun x hx=>by cases hx) (by simp[linesS]) w' hm hp (.inl ⟨rfl,none,0,rfl⟩) hr)
 have HRO:=hide (show (w.alloc (.cells #[.slice (some ⟨g,0,none⟩) nn c, .map (some im), .map (some km)] 89)).ownsRow 0 317 4 p.runs.val d.st.runs.length (d.st.runs.flatMap cmdV) from hro)
 clear h hP hb0 q1 q2 hv hpk hk hgood hfit hro hDB hS hK
 simp only[Pk.val,Pk.cells,Pk.arc,Sl.val] at hf1 hf2 HRUN
 go_enter Tryz.func132,Tryz.ntmps132
 go_wp2_with (first
   | (at_lookup;refine wp_look rfl _ _ 86 rfl 156 Tryz.underlying86 (zero_pk _) hpm rfl x hx rfl ?_;rw[HV.out];simp only[Option.getD_some,Pk.val,Pk.cells]))
 refine (HRUN.out _ HM0.out HP0.out HRO.out).mono ?_
 rintro e w2 ⟨u2,rfl,hm2,hf2'⟩
 have HM2:=hide hm2
 have hnf:=HM0.out.files.no_row
 have HP2:=hide (HP0.out.turned hnf hf2' (Nat.le_refl _))
 have hr2:=(hf2'.block w.heap.size (by omega) (fun e=>hnf _ _ _ (by rw[← e];exact hrow))).trans hrow
 have HF2:=hide (HF0.out.next hf2' (by omega) (fun _ _ q => .inr q))
 have HR2:=hide hr2
 have HK2:=hide (HK0.out.far hf2' (Nat.le_refl _) hkm)
 have r0:=(row_cell hr2 0).trans (show _=some (.slice (some ⟨g,0,none⟩) nn c) from rfl)
 have r1:=(row_cell hr2 1).trans (show _=some (.map (some im)) from rfl)
 have r2:=(row_cell hr2 2).trans (show _=some (.map (some km)) from rfl)
 have hs2:=hf2'.size
 clear hm2 hf2' hnf hrow hr2 m0 hpm hf1 hf2 d1 d2
 go_wp2_with fail
 refine (configured_any (some ⟨g,0,none⟩) nn c im km K HKS.out x hx w2 HK2.out).mono ?_
 rintro e w3 ⟨rfl,hb3⟩
 have HM3:=hide (HM2.out.below hb3)
 have HP3:=hide (HP2.out.below hb3)
 have HF3:=hide (HF2.out.below hb3 (by omega))
 have hs3:=hb3.size
 rw[HST.out]
 clear hb3 r0 r1 r2
 go_wp2_with fail
 refine (setStatus_any mb pm fm P _ x hx p HV.out st hPm w3 HM3.out).mono ?_
 rintro e w4 ⟨u4,rfl,hm4,hf4⟩
 have HM4:=hide hm4
 have HP4:=hide ((HP3.out.toStatus HM3.out.packs.1 HV.out hd st).turned HM3.out.packs.no_row hf4 (Nat.le_refl _))
 have HF4:=hide (HF3.out.next hf4 (by omega) (fun _ _ q => .inl q))
 clear hm4 hf4
 go_wp2_with fail
 go_end0
 exact ⟨_,_,rfl,HM4.out,HP4.out,HF4.out⟩
end
end Go.Proofs.YtialenebfcnkkaaGreatDoor
