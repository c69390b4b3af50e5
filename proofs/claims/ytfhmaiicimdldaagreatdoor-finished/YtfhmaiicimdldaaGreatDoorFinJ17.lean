import Derived.Test.YtfhmaiicimdldaaGreatDoorFinJ16
set_option maxHeartbeats 8000000
set_option maxRecDepth 100000
namespace Go.Proofs.YtfhmaiicimdldaaGreatDoor
variable {W W' u w w':World}{A B Lb b im km sc:Nat}{N:Nat->Prop}{so v:Value}
section
open Go.RowKit
open Kw (St)
open Hv (S Dk VM)
variable {wk:VM (List S)}{K L R:VM Value}{D LD:VM Hv.PD}{st:List Hv.Step}{k:S}
structure MR (B:Nat) (pl:Hv.Plan) (sv:Value) (im km:Nat) (w:World):Prop where
 row:w.ownsRow B 297 2 sv pl.steps.length (pl.steps.flatMap P6)
 ins:∃ I,J6 w im I/\Ls (fun g=>B<=g) w pl.ins I
 Le:∃ K,J6 w km K/\OV (fun g=>B<=g) w pl.Le K
 ge:B<=im/\B<=km
theorem ahz(tm:Nat) (E:VM Value) (DT:VM Hv.PD) (N:Nat->Prop) (ch:List S) (hch:ch.length<=1000) (ly:∀ x∈ch,x.length<=24) (hE:E.length<=1000) (v:Value) (w:World) (ht:J6 w tm E) (hP:Ls N w DT E) (hv:w.ownsRow 0 9 1 v ch.length (ch.map Kl)) :
 Calls Tryz.prog 129 #[.map (some tm),v] w fun e w'=>∃ km K,e = .returned (.map (some km))/\J6 w' km K/\OV (fun g=>w.heap.size<g) w' (LQ DT ch) K/\w.heap.size<=km/\Below w.heap.size w w':=by
 refine (aeY tm E DT N ch hch ly hE v w ht hP hv).mono ?_;rintro e w' ⟨K,rfl,h1,h2,h3⟩;exact ⟨_,K,rfl,h1,h2,AC _,h3⟩
def Leaving (D:VM Hv.PD) (R:VM Value) (left:S->Bool) (L:VM Hv.PD):Prop:=∀ k,Hv.get L k=if Hv.has R k=true/\left k=false then Hv.get D k else none
structure Ql (u:World) (A im km Lb:Nat) (wk:VM (List S)) (K:VM Value) (N:Nat->Prop) (LD:VM Hv.PD) (L:VM Value) (so:Value) (st:List Hv.Step) (W:World):Prop where
 K7:Below u.heap.size u W
 plan:W.heap[A]? = some (.cells #[so, .map (some im), .map (some km)] 100 (0,0))
 row:W.ownsRow (A+1) 297 2 so st.length (st.flatMap P6)
 aa3:J6 W km K
 Le:OV (fun g=>u.heap.size<=g) W wk K
 lmap:J6 W Lb L
 lpk:Ls N W LD L
 ge:u.heap.size<=A/\A<Lb/\km<Lb
theorem Ql.start(hb:Below u.heap.size u W) (hp:W.heap[A]? = some (.cells #[.slice none 0 0, .map (some im), .map (some km)] 100 (0,0))) (hk:J6 W km K) (hw:OV (fun g=>u.heap.size<=g) W wk K) (hA:u.heap.size<=A) (hm:J6 (W.alloc (.map #[] 0)) W.heap.size []):Ql u A im km W.heap.size wk K N [] [] (.slice none 0 0) [] (W.alloc (.map #[] 0)):=by
 have hbl:=(AD W.heap.size W).alloc (AC _) (.map #[] 0);exact ⟨hb.trans (hbl.mono hb.size),(hbl.block A (blt hp)).trans hp,Cf _ _ _ _,hk.below hbl,hw.below hbl,hm,Ls.nil _ _,hA,blt hp,hk.lt⟩
theorem Ql.below(h:Ql u A im km Lb wk K N LD L so st W) (hb:Below W.heap.size W W'):Ql u A im km Lb wk K N LD L so st W' :=
 ⟨h.K7.trans (hb.mono h.K7.size),(hb.block A (blt h.plan)).trans h.plan,Ky h.row hb,h.aa3.below hb,h.Le.below hb,h.lmap.below hb,h.lpk.below hb,h.ge⟩
theorem Ql.leave{LD':VM Hv.PD} {L':VM Value}   (h:Ql u A im km Lb wk K N LD L so st W) (hm:J6 W' Lb L') (ht:W.mapTurned W' Lb) (hp:Ls N W LD' L'):Ql u A im km Lb wk K N LD' L' so st W':=by
 have hf:=Kv ht;have hn:=h.lmap.MB;obtain ⟨g1,g2,g3⟩:=h.ge;exact ⟨h.K7.trans (hf.toBelow h.K7.size (fun q hq (e:q=Lb)=>by omega)),(hf.block A (blt h.plan) (by omega)).trans h.plan,TR h.row hn hf (AC _),h.aa3.far hf (AC _) (by omega),h.Le.turned hn hf (AC _),hm,hp.turned hn hf (AC _),h.ge⟩
theorem Ql.iter(h:Ql u A im km Lb wk K N LD L so st W) (hn:∀ cs t fz,W.heap[b]? ≠ some (.cells cs t fz)) (hf:Kj W.heap.size (fun k=>k=b) W W') (hb:Lb<b:=by omega):Ql u A im km Lb wk K N LD L so st W':=by
 obtain ⟨g1,g2,g3⟩:=h.ge;exact ⟨h.K7.trans (hf.toBelow h.K7.size (fun q hq (e:q=b)=>by omega)),(hf.block A (blt h.plan) (by omega)).trans h.plan,TR h.row hn hf (AC _),h.aa3.far hf (AC _) (by omega),h.Le.turned hn hf (AC _),h.lmap.far hf (AC _) (by omega),h.lpk.turned hn hf (AC _),h.ge⟩
theorem adE(h:Hv.OC D R=false)  (hk:Hv.has R k=true):Hv.has D k=true:=by
 obtain ⟨p,hp,e⟩:=List.any_eq_true.1 hk;simp only[beq_iff_eq] at e;cases q:Hv.has D k with
 | true=>rfl
 | false =>
   exfalso;have:Hv.OC D R=true:=List.any_eq_true.2 ⟨p,hp,by rw[e,q];rfl⟩;rw[h] at this;cases this
theorem Ql.afl{so:Option Addr}  (h:Ql u A im km Lb wk K N LD L (.slice so st.length sc) st W):Pf W (fun q=>q=A\/(Value.slice so st.length sc).ownBlock=some q) (fun t=>t=100\/t=297):=fun g hg=>by
 rcases hg with rfl | hg
 · exact ⟨_,_,_,h.plan, .inl rfl⟩
 · obtain ⟨cs,q⟩:=N8 h.row hg;exact ⟨cs,_,_,q, .inr rfl⟩
theorem afR:∀ t:Nat,(t=100\/t=297)->∀ i,t≠pty i:=fun t ht i=>by
 rcases ht with rfl | rfl
 · exact aeG (by decide) (by decide) (by decide) (by decide) i
 · exact aeG (by decide) (by decide) (by decide) (by decide) i
theorem abm:∀ t:Nat,(t=100\/t=297)->t≠9:=fun t ht=>by
 rcases ht with rfl | rfl<;>decide
theorem Ql.added{so:Option Addr} {st':List Hv.Step} {eV:Value} (h:Ql u A im km Lb wk K N LD L (.slice so st.length sc) st W) (hp:W'.heap[A]? = some (.cells #[eV, .map (some im), .map (some km)] 100 (0,0))) (hr:W'.ownsRow (A+1) 297 2 eV st'.length (st'.flatMap P6)) (hf:Kj W.heap.size (fun q=>q=A\/(Value.slice so st.length sc).ownBlock=some q) W W'):Ql u A im km Lb wk K N LD L eV st' W':=by
 obtain ⟨g1,g2,g3⟩:=h.ge;have hc:=h.afl;exact ⟨h.K7.trans (hf.toBelow h.K7.size (fun q hq e=>by
  rcases e with e | e
  · omega
  · have:=(h.row.lt q e).1;omega)),hp,hr,hc.map h.aa3 hf (AC _),h.Le.foreign hf (AC _) (hc.no abm),hc.map h.lmap hf (AC _),h.lpk.foreign hf (AC _) (hc.ama afR),h.ge⟩
theorem Ql.str{n:Nat}      {so:Option Addr}   {xs:List Value} (h:Ql u A im km Lb wk K N LD L (.slice so st.length sc) st W) (hf:Kj W.heap.size (fun q=>q=A\/(Value.slice so st.length sc).ownBlock=some q) W W') (ho:W.ownsRow b 9 1 v n xs):W'.ownsRow b 9 1 v n xs :=
 RO ho hf (AC _) (h.afl.no abm)
theorem aml{E:VM Value}      (h:Ql u A im km Lb wk K N LD L so st W) (hm:J6 u b E) : ¬ b=Lb:=by
 have h1:=h.ge;have h2:=hm.lt;omega
theorem agF(hs:Hv.Ki D)  {n:S} (h:Hv.has (Hv.leaveD D R) n=true):Hv.has D n=true:=by
 rw[Hv.J9,Hv.Nl hs] at h;rw[Hv.J9];split at h
 · exact h
 · cases h
theorem VT(D:VM Hv.PD) (ch:List S):(LQ D ch).length<=D.length:=List.length_filterMap_le _ _
theorem Leaving.step{left:S->Bool} (h:Leaving D R left LD) (hs:Hv.Ki LD)  {d:Hv.PD} (hk:Hv.has R k=true) (hd:Hv.get D k=some d):Leaving D R (fun z=>left z && !(z==k)) (Hv.put LD k d):=fun k'=>by
 by_cases e:k'=k
 · subst e;rw[Hv.Ka hs,By ⟨hk,by simp⟩,hd]
 · rw[Hv.J7 hs _ e,h k'];have:(left k' && !(k'==k))=left k':=by simp[e]
   simp only[this]
theorem aiP(mb pm fm rm im:Nat) (P F R I:VM Value) (D DI:VM Hv.PD) (N:Nat->Prop) (B0:Nat) (hR:OG R) (Ed:R.length<=12) (D7:I.length<=12) (bX:P.length<=12) (hab:Hv.OC D R=false) (qZ:Hv.Named D) (BM:Hv.Named DI) (w:World) (hm:Kh mb pm fm P F w) (hw:MH rm im R I w) (hP:Ls N w D P) (hI:Ls (fun g=>B0<=g) w DI I) (uV:B0<=im/\B0<=w.heap.size) :
 Calls Tryz.prog 72 #[.pointer (some ⟨mb,0,none⟩), .agg #[.map (some rm), .map (some im)]] w fun e w'=>∃ sv km,e = .returned (.agg #[sv, .map (some im), .map (some km)])/\MR B0 (Hv.KC D R DI) sv im km w'/\Below w.heap.size w w':=by
 have hmm := @run_makeMap Tryz.prog;have HM:=JY hm;have HW:=JY hw;have aD:=JY hP;have fX:=JY hI;have uy:=JY hR;have hb0:=(AD w.heap.size w).alloc (AC _) (.cells #[.map (some rm), .map (some im)] 148);have hb1:=hb0.alloc (by simp) (.cells #[.slice none 0 0, .map none, .map none] 100);have bC:=AF w (.cells #[.map (some rm), .map (some im)] 148);have hs0:(w.alloc (.cells #[.map (some rm), .map (some im)] 148)).heap.size=w.heap.size+1:=by simp
 have hr1:=(AM (w.alloc (.cells #[.map (some rm), .map (some im)] 148)) (.cells #[.slice none 0 0, .map none, .map none] 100) w.heap.size (by simp)).trans bC;have hq1:=AF (w.alloc (.cells #[.map (some rm), .map (some im)] 148)) (.cells #[.slice none 0 0, .map none, .map none] 100);rw[hs0] at hq1;have hs1:((w.alloc (.cells #[.map (some rm), .map (some im)] 148)).alloc (.cells #[.slice none 0 0, .map none, .map none] 100)).heap.size=w.heap.size+2:=by simp
 have I5:=JY hw.rem;have hrl:=hw.rem.lt;have hil:=hw.ins.lt;have aY:=blt hm.blk;have hpl:=hm.packs.lt;clear hm hw hP hI hR hb0 bC hs0;go_enter Tryz.func72,Tryz.ntmps72;go_wp2_with fail;obtain ⟨u,hu⟩:∃ u,(w.alloc (.cells #[.map (some rm), .map (some im)] 148)).alloc (.cells #[.slice none 0 0, .map none, .map none] 100)=u:=⟨_,rfl⟩
 obtain ⟨B,hB⟩:∃ B,w.heap.size=B:=⟨_,rfl⟩
 rw[hu] at hb1 hr1 hq1 hs1 |-;have ag:=JY hb1;have aQ:=JY (HM.out.below hb1);have bL:=JY (HW.out.below hb1);have bB:=JY (aD.out.below hb1);have cj:=JY (fX.out.below hb1);rw[hB] at hr1 hq1 hs1 hrl hil aY hpl ag uV |-;have bO:=JY hr1;have cR:=JY hq1;have m0:=(JZ aQ.out.blk 0).trans (show _=some (.map (some pm)) from rfl);have c0:=(JZ hr1 0).trans (show _=some (.map (some rm)) from rfl);have c1:=(JZ hr1 1).trans (show _=some (.map (some im)) from rfl);have bJ:=JY hB;clear hu hb1 hr1 hq1 hB;have Bh:(J3 (Kr D R DI)).length<=1000:=by have:=Uq qZ BM fX.out.Mt R;have:=fX.out.len HW.out.ins.1;omega
 have zi:=JY (S9 qZ BM fX.out.Mt R);have Bj:(Q7 P R I).length<=1000:=by have:=YH P R I;omega
 have uJ:=JY (Hv.Nw I (Hv.cut P R) (Hv.Nu R P HM.out.packs.1));have qf:=JY ((bB.out.weak (N':=fun g=>N g\/B0<=g) (fun g h => .inl h)).anf HM.out.packs.1 (cj.out.weak (N':=fun g=>N g\/B0<=g) (fun g h => .inr h)) HW.out.ins.1 R);have hmk:∀ w',Below u.heap.size u w'->(Below u.heap.size u w'/\w'.cell? ⟨mb,0,none⟩=some (.map (some pm))/\w'.cell? ⟨B,0,none⟩=some (.map (some rm))/\w'.cell? ⟨B,1,none⟩=some (.map (some im))):=fun w' h =>
  ⟨h,(JZ (aQ.out.below h).blk 0).trans rfl,(JZ ((h.block B (by omega)).trans bO.out) 0).trans rfl,(JZ ((h.block B (by omega)).trans bO.out) 1).trans rfl⟩
 have iQ:Hid (∀ wx w',(Below u.heap.size u wx/\wx.cell? ⟨mb,0,none⟩=some (.map (some pm))/\wx.cell? ⟨B,0,none⟩=some (.map (some rm))/\wx.cell? ⟨B,1,none⟩=some (.map (some im)))->Below wx.heap.size wx w'->(Below u.heap.size u w'/\w'.cell? ⟨mb,0,none⟩=some (.map (some pm))/\w'.cell? ⟨B,0,none⟩=some (.map (some rm))/\w'.cell? ⟨B,1,none⟩=some (.map (some im)))):=JY fun wx w' h h'=>hmk w' (h.1.trans (h'.mono h.1.size))
 have fR:Hid (∀ wx A i v,(Below u.heap.size u wx/\wx.cell? ⟨mb,0,none⟩=some (.map (some pm))/\wx.cell? ⟨B,0,none⟩=some (.map (some rm))/\wx.cell? ⟨B,1,none⟩=some (.map (some im)))->u.heap.size<=A->(Below u.heap.size u (wx.setCell ⟨A,i,none⟩ v)/\(wx.setCell ⟨A,i,none⟩ v).cell? ⟨mb,0,none⟩=some (.map (some pm))/\(wx.setCell ⟨A,i,none⟩ v).cell? ⟨B,0,none⟩=some (.map (some rm))/\(wx.setCell ⟨A,i,none⟩ v).cell? ⟨B,1,none⟩=some (.map (some im)))):=JY fun wx A i v h h'=>hmk _ (h.1.setCell h' _)
 have py:Hid (∀ wx o o',(Below u.heap.size u (World.alloc wx o)/\(World.alloc wx o).cell? ⟨mb,0,none⟩=some (.map (some pm))/\(World.alloc wx o).cell? ⟨B,0,none⟩=some (.map (some rm))/\(World.alloc wx o).cell? ⟨B,1,none⟩=some (.map (some im)))->u.heap.size<=wx.heap.size->(Below u.heap.size u (World.alloc wx o')/\(World.alloc wx o').cell? ⟨mb,0,none⟩=some (.map (some pm))/\(World.alloc wx o').cell? ⟨B,0,none⟩=some (.map (some rm))/\(World.alloc wx o').cell? ⟨B,1,none⟩=some (.map (some im)))):=JY fun wx o o' h h'=>hmk _ ⟨h.1.os,h.1.tape,h.1.output,by simp;omega,fun k hk=>((AM wx o' k (by omega)).trans (AM wx o k (by omega)).symm).trans (h.1.block k hk)⟩
 have dP:=JY (hmk u.drew ((AD _ u).drew));have Ii:B+2<=u.heap.size:=by omega
 have Ij:u.heap.size<=B+2:=by omega
 have uY:w.heap.size=B:=bJ.out;have zb:=JY uY;clear hmk m0 c0 c1 hs1 uY
 go_region_held3 (fun w'=>Below u.heap.size u w'/\w'.cell? ⟨mb,0,none⟩=some (.map (some pm))/\w'.cell? ⟨B,0,none⟩=some (.map (some rm))/\w'.cell? ⟨B,1,none⟩=some (.map (some im)))
  (first | exact dP.out | exact iQ.out _ _ (by assumption) hb2 | exact iQ.out _ _ (by assumption) hb3 | exact iQ.out _ _ (by assumption) hb4 | exact iQ.out _ _ (by assumption) ((AD _ _).alloc (AC _) _) | exact py.out _ _ _ (by assumption) (by omega) | exact fR.out _ _ _ _ (by assumption) (by omega) | exact fR.out _ _ _ _ (fR.out _ _ _ _ (fR.out _ _ _ _ (by assumption) (by omega)) (by omega)) (by omega))
  (first
   | (go_at_call 123;refine (adp pm rm im P R I uy.out fX.out.ahS _ (aQ.out.below (And.left (by assumption))).packs (bL.out.below (And.left (by assumption))).rem (bL.out.below (And.left (by assumption))).ins (by omega)).mono ?_;rintro e w2 ⟨tm,rfl,ht2,ET,hb2⟩;have hs2:u.heap.size<=w2.heap.size:=(by have h:=hb2.size;first | exact h | (simp at h;omega)); (try have wZ:u.heap.size+1<=w2.heap.size:=(by have h:=hb2.size;simp at h;omega)); (try have q2:=(hb2.block u.heap.size (by simp)).trans (AF u.drew (.cells #[.slice none 0 0, .map none, .map none] 100))))
   | (go_at_call 130;refine (Va mb pm fm rm im P F R I D DI N (fun g=>B0<=g) uy.out (by omega) (by omega) _ (aQ.out.below (And.left (by assumption))) (bL.out.below (And.left (by assumption))) (bB.out.below (And.left (by assumption))) (cj.out.below (And.left (by assumption)))).mono ?_;rintro e w3 ⟨cv,rfl,hc3,hb3⟩;obtain ⟨ca,cc,rfl⟩:=J4 hc3;have hs3:w2.heap.size<=w3.heap.size:=(by have h:=hb3.size;first | exact h | (simp at h;omega)); (try have xg:w2.heap.size+1<=w3.heap.size:=(by have h:=hb3.size;simp at h;omega)); (try have q3:=(hb3.block w2.heap.size (by simp)).trans (AF w2 (.cells #[.slice none 0 0, .map none, .map none] 100))); (try have q3:=(hb3.block u.heap.size (blt q2)).trans q2))
   | (go_at_call 129;refine (ahz tm (Q7 P R I) (Hv.Ko D R DI) (fun g=>N g\/B0<=g) (J3 (Kr D R DI)) Bh zi.out Bj _ _ (by first | exact ht2.below hb3 | exact (ht2.below hb3).alloc _ | exact (ht2.alloc _).below hb3) (qf.out.below (And.left (by assumption))) (by first | exact KL hc3 (Bs _) | exact (KL hc3 (Bs _)).alloc _)).mono ?_;rintro e w4 ⟨km,K,rfl,hk4,hw4,hkm,hb4⟩;have hs4:w3.heap.size<=w4.heap.size:=(by have h:=hb4.size;first | exact h | (simp at h;omega));have mN:Below u.heap.size u w4:=(fun (h:Below u.heap.size u _)=>h.trans (hb4.mono h.size)) (And.left (by assumption)); (try have q4:=(hb4.block w3.heap.size (by simp)).trans (AF w3 (.cells #[.slice none 0 0, .map none, .map none] 100))); (try have q4:=(hb4.block _ (blt q3)).trans q3); (try have z0:=(JZ q4 0).trans (show _=some (.slice none 0 0) from rfl)); (try have z1:=(JZ q4 1).trans (show _=some (.map none) from rfl)); (try have z2:=(JZ q4 2).trans (show _=some (.map none) from rfl)); (try have y0:=J2 q4 0); (try have y1:=J2 q4 1); (try have y2:=J2 q4 2)))
 all_goals first
  | (have AU:u.heap.size<=w4.heap.size:=(by omega)
     have vg:u.heap.size<=km:=(by have h:=hkm; (try simp at h);omega);obtain ⟨A,hA⟩:∃ A,w4.heap.size=A:=⟨_,rfl⟩
     have yD:u.heap.size<=A:=(by omega);have ez:Hid ((w4.alloc (.cells #[.slice none 0 0, .map (some im), .map (some km)] 100)).heap[w4.heap.size]? = some (.cells #[.slice none 0 0, .map (some im), .map (some km)] 100 (0,0))):=JY (AF w4 _);have nL:Hid (J6 (w4.alloc (.cells #[.slice none 0 0, .map (some im), .map (some km)] 100)) km K):=JY (hk4.alloc _);have nS:Hid (OV (fun g=>u.heap.size<=g) (w4.alloc (.cells #[.slice none 0 0, .map (some im), .map (some km)] 100)) (LQ (Hv.Ko D R DI) (J3 (Kr D R DI))) K):=JY ((hw4.weak (fun g hg=>by have:=hg;omega)).below ((AD w4.heap.size w4).alloc (AC _) _));have dS:Hid (Below u.heap.size u (w4.alloc (.cells #[.slice none 0 0, .map (some im), .map (some km)] 100))):=JY (mN.alloc (by omega) _);obtain ⟨W,hW⟩:∃ W,w4.alloc (.cells #[.slice none 0 0, .map (some im), .map (some km)] 100)=W:=⟨_,rfl⟩
     rw[hW] at ez nL nS dS |-;rw[hA] at ez |-;clear hW)
  | (have AU:u.heap.size<=w3.heap.size:=(by omega)
     have vg:u.heap.size<=km:=(by have h:=hkm; (try simp at h);omega);obtain ⟨A,hA⟩:∃ A,w3.heap.size=A:=⟨_,rfl⟩
     have yD:u.heap.size<=A:=(by omega);have ez:Hid ((((w4.setCell ⟨w3.heap.size,0,none⟩ (.slice none 0 0)).setCell ⟨w3.heap.size,1,none⟩ (.map (some im))).setCell ⟨w3.heap.size,2,none⟩ (.map (some km))).heap[w3.heap.size]? = some (.cells #[.slice none 0 0, .map (some im), .map (some km)] 100 (0,0))):=JY (AI _ _ 2 _ _ _ (AI _ _ 1 _ _ _ (AI _ _ 0 _ _ _ q4)));have nL:Hid (J6 (((w4.setCell ⟨w3.heap.size,0,none⟩ (.slice none 0 0)).setCell ⟨w3.heap.size,1,none⟩ (.map (some im))).setCell ⟨w3.heap.size,2,none⟩ (.map (some km))) km K):=JY (((hk4.set (show km≠w3.heap.size by have h:=hkm; (try simp at h);omega) _).set (show km≠w3.heap.size by have h:=hkm; (try simp at h);omega) _).set (show km≠w3.heap.size by have h:=hkm; (try simp at h);omega) _);have nS:Hid (OV (fun g=>u.heap.size<=g) (((w4.setCell ⟨w3.heap.size,0,none⟩ (.slice none 0 0)).setCell ⟨w3.heap.size,1,none⟩ (.map (some im))).setCell ⟨w3.heap.size,2,none⟩ (.map (some km))) (LQ (Hv.Ko D R DI) (J3 (Kr D R DI))) K):=JY ((hw4.far ((((Kj.refl w4.heap.size (fun q=>q=w3.heap.size) w4).setCell (p:=⟨w3.heap.size,0,none⟩) (.inr rfl) _).setCell (p:=⟨w3.heap.size,1,none⟩) (.inr rfl) _).setCell (p:=⟨w3.heap.size,2,none⟩) (.inr rfl) _) (AC _) (fun g _ hg e=>by have h:=hg; (try simp only at h);have e2:g=w3.heap.size:=e; (try simp at h);omega)).weak (fun g hg=>by have h:=hg; (try simp at h);omega));have dS:Hid (Below u.heap.size u (((w4.setCell ⟨w3.heap.size,0,none⟩ (.slice none 0 0)).setCell ⟨w3.heap.size,1,none⟩ (.map (some im))).setCell ⟨w3.heap.size,2,none⟩ (.map (some km)))):=JY (((mN.setCell (by assumption) _).setCell (by assumption) _).setCell (by assumption) _);obtain ⟨W,hW⟩:∃ W,((w4.setCell ⟨w3.heap.size,0,none⟩ (.slice none 0 0)).setCell ⟨w3.heap.size,1,none⟩ (.map (some im))).setCell ⟨w3.heap.size,2,none⟩ (.map (some km))=W:=⟨_,rfl⟩
     rw[hW] at ez nL nS dS |-;rw[hA] at ez |-;clear hW)
  | (have AU:u.heap.size<=w2.heap.size:=(by omega)
     have vg:u.heap.size<=km:=(by have h:=hkm; (try simp at h);omega);obtain ⟨A,hA⟩:∃ A,w2.heap.size=A:=⟨_,rfl⟩
     have yD:u.heap.size<=A:=(by omega);have ez:Hid ((((w4.setCell ⟨w2.heap.size,0,none⟩ (.slice none 0 0)).setCell ⟨w2.heap.size,1,none⟩ (.map (some im))).setCell ⟨w2.heap.size,2,none⟩ (.map (some km))).heap[w2.heap.size]? = some (.cells #[.slice none 0 0, .map (some im), .map (some km)] 100 (0,0))):=JY (AI _ _ 2 _ _ _ (AI _ _ 1 _ _ _ (AI _ _ 0 _ _ _ q4)));have nL:Hid (J6 (((w4.setCell ⟨w2.heap.size,0,none⟩ (.slice none 0 0)).setCell ⟨w2.heap.size,1,none⟩ (.map (some im))).setCell ⟨w2.heap.size,2,none⟩ (.map (some km))) km K):=JY (((hk4.set (show km≠w2.heap.size by have h:=hkm; (try simp at h);omega) _).set (show km≠w2.heap.size by have h:=hkm; (try simp at h);omega) _).set (show km≠w2.heap.size by have h:=hkm; (try simp at h);omega) _);have nS:Hid (OV (fun g=>u.heap.size<=g) (((w4.setCell ⟨w2.heap.size,0,none⟩ (.slice none 0 0)).setCell ⟨w2.heap.size,1,none⟩ (.map (some im))).setCell ⟨w2.heap.size,2,none⟩ (.map (some km))) (LQ (Hv.Ko D R DI) (J3 (Kr D R DI))) K):=JY ((hw4.far ((((Kj.refl w4.heap.size (fun q=>q=w2.heap.size) w4).setCell (p:=⟨w2.heap.size,0,none⟩) (.inr rfl) _).setCell (p:=⟨w2.heap.size,1,none⟩) (.inr rfl) _).setCell (p:=⟨w2.heap.size,2,none⟩) (.inr rfl) _) (AC _) (fun g _ hg e=>by have h:=hg; (try simp only at h);have e2:g=w2.heap.size:=e; (try simp at h);omega)).weak (fun g hg=>by have h:=hg; (try simp at h);omega));have dS:Hid (Below u.heap.size u (((w4.setCell ⟨w2.heap.size,0,none⟩ (.slice none 0 0)).setCell ⟨w2.heap.size,1,none⟩ (.map (some im))).setCell ⟨w2.heap.size,2,none⟩ (.map (some km)))):=JY (((mN.setCell (by assumption) _).setCell (by assumption) _).setCell (by assumption) _);obtain ⟨W,hW⟩:∃ W,((w4.setCell ⟨w2.heap.size,0,none⟩ (.slice none 0 0)).setCell ⟨w2.heap.size,1,none⟩ (.map (some im))).setCell ⟨w2.heap.size,2,none⟩ (.map (some km))=W:=⟨_,rfl⟩
     rw[hW] at ez nL nS dS |-;rw[hA] at ez |-;clear hW)
  | (have AU:u.heap.size<=u.heap.size:=(by omega)
     have vg:u.heap.size<=km:=(by have h:=hkm; (try simp at h);omega);obtain ⟨A,hA⟩:∃ A,u.heap.size=A:=⟨_,rfl⟩
     have yD:u.heap.size<=A:=(by omega);have ez:Hid ((((w4.setCell ⟨u.heap.size,0,none⟩ (.slice none 0 0)).setCell ⟨u.heap.size,1,none⟩ (.map (some im))).setCell ⟨u.heap.size,2,none⟩ (.map (some km))).heap[u.heap.size]? = some (.cells #[.slice none 0 0, .map (some im), .map (some km)] 100 (0,0))):=JY (AI _ _ 2 _ _ _ (AI _ _ 1 _ _ _ (AI _ _ 0 _ _ _ q4)));have nL:Hid (J6 (((w4.setCell ⟨u.heap.size,0,none⟩ (.slice none 0 0)).setCell ⟨u.heap.size,1,none⟩ (.map (some im))).setCell ⟨u.heap.size,2,none⟩ (.map (some km))) km K):=JY (((hk4.set (show km≠u.heap.size by have h:=hkm; (try simp at h);omega) _).set (show km≠u.heap.size by have h:=hkm; (try simp at h);omega) _).set (show km≠u.heap.size by have h:=hkm; (try simp at h);omega) _);have nS:Hid (OV (fun g=>u.heap.size<=g) (((w4.setCell ⟨u.heap.size,0,none⟩ (.slice none 0 0)).setCell ⟨u.heap.size,1,none⟩ (.map (some im))).setCell ⟨u.heap.size,2,none⟩ (.map (some km))) (LQ (Hv.Ko D R DI) (J3 (Kr D R DI))) K):=JY ((hw4.far ((((Kj.refl w4.heap.size (fun q=>q=u.heap.size) w4).setCell (p:=⟨u.heap.size,0,none⟩) (.inr rfl) _).setCell (p:=⟨u.heap.size,1,none⟩) (.inr rfl) _).setCell (p:=⟨u.heap.size,2,none⟩) (.inr rfl) _) (AC _) (fun g _ hg e=>by have h:=hg; (try simp only at h);have e2:g=u.heap.size:=e; (try simp at h);omega)).weak (fun g hg=>by have h:=hg; (try simp at h);omega));have dS:Hid (Below u.heap.size u (((w4.setCell ⟨u.heap.size,0,none⟩ (.slice none 0 0)).setCell ⟨u.heap.size,1,none⟩ (.map (some im))).setCell ⟨u.heap.size,2,none⟩ (.map (some km)))):=JY (((mN.setCell (by assumption) _).setCell (by assumption) _).setCell (by assumption) _);obtain ⟨W,hW⟩:∃ W,((w4.setCell ⟨u.heap.size,0,none⟩ (.slice none 0 0)).setCell ⟨u.heap.size,1,none⟩ (.map (some im))).setCell ⟨u.heap.size,2,none⟩ (.map (some km))=W:=⟨_,rfl⟩
     rw[hW] at ez nL nS dS |-;rw[hA] at ez |-;clear hW)
 all_goals
  clear hA;have uG:=dS.out.size;have bl:=(dS.out.block B (by omega)).trans bO.out;have su:B<W.heap.size:=by omega
  have GF:=blt ez.out;have hbl:=(AD W.heap.size W).alloc (AC _) (.map #[] 0);have dW:=JY (J6.made W);have c0:=(JZ ((hbl.block B su).trans bl) 0).trans (show _=some (.map (some rm)) from rfl);have rE:=((bL.out.below dS.out).below hbl).rem;have ay:=JY (Ql.start (N:=N) dS.out ez.out nL.out nS.out yD dW.out);have FP:=JY bl;have qV:(W.alloc (.map #[] 0)).heap.size=W.heap.size+1:=by simp
  obtain ⟨Lb,D8⟩:∃ Lb,W.heap.size=Lb:=⟨_,rfl⟩
  rw[D8] at ay dW qV GF su uG;obtain ⟨W1,hW1⟩:∃ W1,W.alloc (.map #[] 0)=W1:=⟨_,rfl⟩
  rw[hW1] at c0 rE ay dW qV;have FH:=JY D8;clear hbl bl;go_wp2_with (first
   | (at_range;refine Mc rfl _ 146 rfl 63 Tryz.underlying146 rE rfl ?_;intro w5 amZ qO hs5;have dN:=JY amZ;have ct:=JY (ay.out.below ((AD _ _).grown qO (AC _) (fun q hq=>by cases hq)))))
  rw[qV] at dN hs5 |-
  go_frame
  clear qO amZ rE c0 ay dW;have Cm:Lb+1+1=w5.heap.size:=hs5.symm;clear hs5;go_loopw [26] (fun _ wr=>∃ (left:S->Bool) (cnt:Nat) (LD:VM Hv.PD) (L:VM Value),Hid (KO wr rm (Lb+1) R left cnt)/\Hid (Ql u A im km Lb (LQ (Hv.Ko D R DI) (J3 (Kr D R DI))) K N LD L (.slice none 0 0) [] wr)/\Hid (Leaving D R left LD)/\L.length+cnt<=R.length/\Lb+1<wr.heap.size)
   (fun _ wr=>wr.rangeLeft rm (Lb+1))
  case atStart=>exact ⟨_,_,[],[],dN,ct,JY (fun k=>by rw[Bm (fun h=>by rw[h.1] at h;cases h.2)];rfl),by simp,by omega⟩
  case round =>
   clear dN ct Cm;obtain ⟨left,cnt,LD,L,HG,HI,zL,hroom,hsz⟩:=hrel;go_wp2_with (first
    | (at_next;refine MW rfl _ rfl (Lb+1) left cnt rfl HG.out ?_ ?_))
   · intro hc0 hl0;have HE:=JY (HI.out.lpk.Mt.Lr (Hv.Nn aD.out.Mt R) (fun k=>by rw[zL.out k,Hv.Nl aD.out.Mt,hl0 k];simp));have c1:=(JZ ((HI.out.K7.block B (by omega)).trans bO.out) 1).trans (show _=some (.map (some im)) from rfl);have GU:L.length<=1000:=by omega
     clear HG zL hroom hl0;go_wp2_with fail;refine (akE im I DI (fun g=>B0<=g) (by omega) (fun n hn=>BM.len hn) wr (bL.out.below HI.out.K7).ins (cj.out.below HI.out.K7)).mono ?_;rintro e w8 ⟨ov,rfl,BS,gq⟩;obtain ⟨oa,oc,rfl⟩:=J4 BS;have kW:=JY BS;have zB:=JY (HI.out.below gq);have Cn:=gq.size;have GV:=HI.out.lpk.len HI.out.lmap.1;have GS:LD=Hv.leaveD D R:=HE.out;subst GS;have Jg:(Hv.order KS (Hv.leaveD D R)).length<=12:=by
      rw[Hv.Vy];have Jw:P.length=D.length:=aD.out.len HM.out.packs.1;have:=List.length_filter_le (fun p:S × Hv.PD=>Hv.has R p.1) D;unfold Hv.leaveD;omega
     have Jf:(Hv.order Km DI).length<=12:=by
      rw[Hv.Vy];have:I.length=DI.length:=fX.out.len HW.out.ins.1;omega
     clear BS gq c1 HE GV;go_wp2_with fail;refine (akF Lb L (Hv.leaveD D R) N GU (fun n hn=>qZ.len (agF aD.out.Mt hn)) w8 zB.out.lmap zB.out.lpk).mono ?_;rintro e w9 ⟨lv,rfl,BU,qK⟩;have Dc:=JY (KL BU (Bs _));have rU:=JY (zB.out.below qK);have uh:=JY (Ky (KL kW.out (Bs _)) qK);obtain ⟨la,lc,rfl⟩:=J4 BU;have xj:=qK.size;clear BU qK kW;have GC:A+1<=w9.heap.size:=by omega
     go_wp2_with fail;refine (WZ A (A+1) (by omega) (.map (some im)) (.map (some km)) 1 none 0 [] (Hv.order KS (Hv.leaveD D R)) (by simp;omega) (.slice la (Hv.order KS (Hv.leaveD D R)).length lc) w9 rU.out.plan rU.out.row GC Dc.out).mono ?_;rintro e w10 ⟨JO,IW,IJ,rfl,wI,wS,mO⟩;have pI:=JY (rU.out.str mO uh.out);have jW:=JY (rU.out.added wI wS mO);have Ic:=mO.size;clear wI wS mO uh Dc;go_wp2_with fail;refine (WZ A (A+1) (by omega) (.map (some im)) (.map (some km)) 2 IW IJ _ (Hv.order Km DI) (by simp;omega) (.slice oa (Hv.order Km DI).length oc) w10 jW.out.plan jW.out.row (by omega) pI.out).mono ?_;rintro e w11 ⟨JP,IX,IK,rfl,wJ,wT,mP⟩;have uf:=JY (jW.out.str mP pI.out);have lT:=JY (jW.out.added wJ wT mP);have Ie:=mP.size;clear wJ wT mP pI jW;go_wp2_with fail;refine (WZ A (A+1) (by omega) (.map (some im)) (.map (some km)) 3 IX IK _ (Hv.order Km DI) (by simp;omega) (.slice oa (Hv.order Km DI).length oc) w11 lT.out.plan lT.out.row (by omega) uf.out).mono ?_;rintro e w12 ⟨JQ,IY,IL,rfl,wK,jD,qN⟩;have fB:=JY (lT.out.added wK jD qN);have Ig:=qN.size;clear wK jD qN uf lT;have k2:=(JZ fB.out.plan 2).trans (show _=some (.map (some km)) from rfl);have hkl:K.length<=1000:=by
      rw[OJ (fB.out.Le.keys fB.out.aa3.1)];refine Bi (VT _ _) ?_;rw[<- qf.out.len uJ.out];omega
     go_wp2_with fail;refine (callsIn_wide.1 (Tryz.maps_Keys_135 (some km) w12)).mono ?_;rintro e w13 ⟨rfl,rfl⟩;go_wp2_with fail;refine (callsIn_wide.1 (Tryz.slices_Sorted_keys_77_135 km K.length (Hv.Ta K) Hv.hR w12 fB.out.aa3.2 (by rw[Hv.NM];unfold maxLen;omega) (by rw[Hv.NM];omega))).mono ?_;rintro e w14 ⟨kv,ss,rfl,hS,fL, -,vB⟩;have vS:=Px fB.out.aa3.1 hS;have vX:ss.length=(J3 K).length:=by rw[hS.length_eq,OA]
     rw[vS,vX,fB.out.Le.keys fB.out.aa3.1] at fL;have sQ:=JY (((AD w12.heap.size w12).alloc (AC _) (.cells #[.map (some km)] 98)).trans (vB.mono (by simp)));have ug:=JY (KL fL (Bs _));have lU:=JY (fB.out.below sQ.out);have Ih:=sQ.out.size;obtain ⟨ka,kc,rfl⟩:=J4 fL;have Hl:(J3 (LQ (Hv.Ko D R DI) (J3 (Kr D R DI)))).length<=100:=by
      have e:(J3 (LQ (Hv.Ko D R DI) (J3 (Kr D R DI)))).length=(LQ (Hv.Ko D R DI) (J3 (Kr D R DI))).length:=by simp[J3]
      rw[e];refine Bi (VT _ _) ?_;rw[<- qf.out.len uJ.out];have:=YH P R I;omega
     clear fL vB vS vX hS k2 fB;go_wp2_with fail;refine (WZ A (A+1) (by omega) (.map (some im)) (.map (some km)) 4 IY IL _ (J3 (LQ (Hv.Ko D R DI) (J3 (Kr D R DI)))) (by simp;omega) (.slice ka (J3 (LQ (Hv.Ko D R DI) (J3 (Kr D R DI)))).length kc) w14 lU.out.plan lU.out.row (by omega) ug.out).mono ?_;rintro e w15 ⟨JR,oK,oJ,rfl,wL,wU,vI⟩;have dV:=JY (lU.out.added wL wU vI);clear wL wU vI ug lU;have hst:[]++(Hv.order KS (Hv.leaveD D R)).map (fun x=>((1,x):Hv.Step))++(Hv.order Km DI).map (fun x=>(2,x))++(Hv.order Km DI).map (fun x=>(3,x))++(J3 (LQ (Hv.Ko D R DI) (J3 (Kr D R DI)))).map (fun x=>(4,x))=(Hv.KC D R DI).steps:=rfl;rw[hst] at dV;obtain ⟨lG,kG⟩:∃ lG,(Hv.KC D R DI).steps.length=lG:=⟨_,rfl⟩
     have jZ:=JY kG;have AZ:=dV.out;have gH:=dV.out.plan;rw[kG] at gH;have p0:=(JZ gH 0).trans (show _=some (.slice oK lG oJ) from rfl);have p1:=(JZ gH 1).trans (show _=some (.map (some im)) from rfl);have p2:=(JZ gH 2).trans (show _=some (.map (some km)) from rfl);have fJ:=(dV.out.K7.block (B+1) (by omega)).trans cR.out;have f0:=J2 fJ 0;have f1:=J2 fJ 1;have f2:=J2 fJ 2;have r0:=(JZ fJ 0).trans (show _=some (.slice none 0 0) from rfl);have r1:=(JZ fJ 1).trans (show _=some (.map none) from rfl);have r2:=(JZ fJ 2).trans (show _=some (.map none) from rfl);have nk:=AI _ _ 2 _ _ (.map (some km)) (AI _ _ 1 _ _ (.map (some im)) (AI _ _ 0 _ _ (.slice oK lG oJ) fJ));have n0:=(JZ nk 0).trans (show _=some (.slice oK lG oJ) from rfl);have n1:=(JZ nk 1).trans (show _=some (.map (some im)) from rfl);have n2:=(JZ nk 2).trans (show _=some (.map (some km)) from rfl);have uV:B0<=im/\B0<=B:=uV;have HF:Hid (Kj w15.heap.size (fun q=>q=B+1) w15 (((w15.setCell ⟨B+1,0,none⟩ (.slice oK lG oJ)).setCell ⟨B+1,1,none⟩ (.map (some im))).setCell ⟨B+1,2,none⟩ (.map (some km)))):=JY ((((Kj.refl w15.heap.size (fun q=>q=B+1) w15).setCell (p:=⟨B+1,0,none⟩) (.inr rfl) _).setCell (p:=⟨B+1,1,none⟩) (.inr rfl) _).setCell (p:=⟨B+1,2,none⟩) (.inr rfl) _);have HC:Hid (Pf w15 (fun q=>q=B+1) (fun t=>t=100\/t=297)):=JY (fun g hg=>by
      obtain rfl:g=B+1:=hg;exact ⟨_,_,_,fJ, .inl rfl⟩)
     have gW:Hid (MR B0 (Hv.KC D R DI) (.slice oK lG oJ) im km (((w15.setCell ⟨B+1,0,none⟩ (.slice oK lG oJ)).setCell ⟨B+1,1,none⟩ (.map (some im))).setCell ⟨B+1,2,none⟩ (.map (some km)))):=JY (by
      have hrow:=dV.out.row;rw[kG] at hrow;refine ⟨?_,⟨I,HC.out.map (bL.out.below dV.out.K7).ins HF.out (AC _),(cj.out.below dV.out.K7).foreign HF.out (AC _) (HC.out.ama afR)⟩,⟨K,HC.out.map dV.out.aa3 HF.out (AC _),(dV.out.Le.foreign HF.out (AC _) (HC.out.no abm)).weak (fun g hg=>by omega)⟩,uV.1,by omega⟩;rw[kG];exact KL (HF.out.own hrow (AC _) (fun g hg e=>by have:=(hrow.lt g hg).1;have e2:g=B+1:=e;omega)) (by omega))
     have lN:Hid (Below B w (((w15.setCell ⟨B+1,0,none⟩ (.slice oK lG oJ)).setCell ⟨B+1,1,none⟩ (.map (some im))).setCell ⟨B+1,2,none⟩ (.map (some km)))):=JY ((ag.out.trans (dV.out.K7.mono (by omega))).trans (HF.out.toBelow (by have:=dV.out.K7.size;omega) (fun q hq (e:q=B+1)=>by omega)));clear hst kG gH fJ nk AZ;go_wp2_with fail;refine IH (v := .agg #[.slice oK lG oJ, .map (some im), .map (some km)]) (by simp[results,Tryz.results72,go_sem,n0,n1,n2]) rfl ?_;rw[bJ.out];exact ⟨_,km,rfl,gW.out,lN.out⟩
   · intro k v w6 cnt1 hk hlk hget hrg1 hlt hg1 am0 hen;obtain rfl:=uy.out k v hget;have sA:Hv.has R k=true:=by rw[Hv.J9,hget];rfl
     have uZ:∃ d,Hv.get D k=some d:=by
      have h:=adE hab sA;rw[Hv.J9] at h;exact Option.isSome_iff_exists.1 h
     obtain ⟨d,hd⟩:=uZ;obtain ⟨v,hv,hr⟩:=aD.out.Vk k d hd;obtain ⟨p,rfl,pr⟩:=hr;have ou:=HG.out.MB;have eO:Kj wr.heap.size (fun q=>q=Lb+1) wr w6:=⟨hg1.os,hg1.tape,hg1.output,hg1.size,fun q hq hc=>hg1.block q hq (fun e=>hc (Cd e))⟩;have bN:=JY (HI.out.iter ou eO);have nI:=JY hrg1;have EH:=(aQ.out.below bN.out.K7).packs;have m6:=(JZ (aQ.out.below bN.out.K7).blk 0).trans (show _=some (.map (some pm)) from rfl);have wM:Tp N w6 d p.val:=Tp.below (show Tp N u d p.val from Tp.below ⟨p,rfl,pr⟩ (by rw[zb.out];exact ag.out)) bN.out.K7;have jo:=JY wM;have hlm:=bN.out.lmap;have Ip:Lb+1<w6.heap.size:=by have:=eO.size;omega
     have HV:=JY hv;have hll:L.length<maxLen:=by unfold maxLen;omega
     clear hrg1 hg1 hget eO ou pr hv;have um:=JY (show Value.agg p.cells=p.val from rfl);go_wp2_with (first
      | (at_lookup;refine Ol rfl _ _ 97 rfl 169 IS (KW _) EH rfl k hk rfl ?_;rw[HV.out];simp only[DE,Pk.val,Pk.cells])
      | (at_mapUpdate;refine Qc rfl _ _ _ 97 rfl 169 IS hlm hll rfl k hk rfl p.val rfl ?_;intro w7 ot ht7;go_frame))
     have mQ:=Kv ht7;have Fx:=JY (bN.out.leave ot ht7 (bN.out.lpk.put bN.out.lmap.1 k jo.out));have tG:=JY (nI.out.far mQ (AC _) (aml bN.out bL.out.rem) (by omega));have zM:=JY (zL.out.step bN.out.lpk.Mt sA hd);have Hm:=Hv.Mr L k p.val;have xh:=mQ.size;clear ot ht7 mQ hlm EH m6 wM;go_roundw
     case rel=>exact ⟨_,cnt1,_,_,tG,Fx,zM,by omega,by omega⟩
     case measure=>rw[tG.out.left_eq,HG.out.left_eq];exact hlt
end
section
open Go.RowKit
open Kw (St ME)
open Hv (S Dk VM)
def U8 (mb pm fm:Nat) (m':Hv.Mac) (N:Nat->Prop) (w:World) (e:Ending) (w':World):Prop :=
 ∃ u P',e = .returned u/\Kh mb pm fm P' (Hv.Kk m'.2) w'/\Ls N w' m'.1 P'/\Kj w.heap.size (fun q=>q=pm\/q=fm) w w'
theorem adg{e:Nat}  {l:List Hv.Step} (h:w.ownsRow B e 2 v l.length (l.flatMap P6)) {k:Nat} (hk:k<l.length) :
 ∃ g c,v = .slice (some ⟨g,0,none⟩) l.length c/\g<w.heap.size/\w.cell? ⟨g,k*2,none⟩=some (.int .i64 l[k].1)/\w.cell? ⟨g,k*2+1,none⟩=some (.string ⟨l[k].2.toArray⟩):=by
 obtain ⟨g,cap,rfl⟩:=Kt h (by omega);have key:∀ (l:List Hv.Step) (k:Nat) (hk:k<l.length) (j:Nat),j<2->(l.flatMap P6)[k*2+j]? = (P6 l[k])[j]? := by
  intro l
  induction l with
  | nil=>intro k hk;simp at hk
  | cons c l ih =>
    intro k hk j hj;rw[Fc];cases k with
    | zero=>rw[List.getElem?_append_left (by simp[P6];omega)];simp
    | succ k =>
      have hl:(P6 c).length=2:=rfl;rw[Hc (by omega),hl,show (k+1)*2+j-2=k*2+j by omega];exact ih k (by simpa using hk) j hj
 refine ⟨g,cap,rfl,(h.lt g rfl).2,?_,?_⟩
 · rw[h.cellAt _ (by omega)];exact key l k hk 0 (by omega)
 · rw[h.cellAt _ (by omega)];exact key l k hk 1 (by omega)
theorem Kh.pack{mb pm fm:Nat} {P P' F:VM Value}  (h:Kh mb pm fm P F w) (hm:J6 w' pm P') (ht:w.mapTurned w' pm):Kh mb pm fm P' F w':=by
 have hf:=Kv ht;exact ⟨(hf.block mb (blt h.blk) h.apart.1).trans h.blk,hm,h.files.kept (hf.block fm h.files.lt (fun e=>h.apart.2.2 e.symm)),h.apart⟩
theorem MR.below{pl:Hv.Plan} {sv:Value}   (h:MR B pl sv im km w) (hb:Below w.heap.size w w'):MR B pl sv im km w':=by
 obtain ⟨I,i1,i2⟩:=h.ins;obtain ⟨K,k1,k2⟩:=h.Le;exact ⟨Ky h.row hb,⟨I,i1.below hb,i2.below hb⟩,⟨K,k1.below hb,k2.below hb⟩,h.ge⟩
theorem acP(mb pm fm:Nat) (P:VM Value) (D:VM Hv.PD) (G:VM S) (N:Nat->Prop) (g:Nat) (n:Nat) (nn c im km:Nat) (hn:n<nn) (x:S) (hx:x.length<=maxLen) (w:World) (h:Kh mb pm fm P (Hv.Kk G) w) (hP:Ls N w D P) (q1:w.cell? ⟨g,n*2,none⟩=some (.int .i64 1)) (q2:w.cell? ⟨g,n*2+1,none⟩=some (.string ⟨x.toArray⟩)) :
 Calls Tryz.prog 137 #[.agg #[.slice (some ⟨g,0,none⟩) nn c, .map (some im), .map (some km)], .int .i64 n, .pointer (some ⟨mb,0,none⟩)] w (U8 mb pm fm (Hv.del D x,G) N w):=by
 have hb0:=(AD w.heap.size w).alloc (AC _) (.cells #[.slice (some ⟨g,0,none⟩) nn c, .map (some im), .map (some km)] 100);have aw:=JY (h.below hb0);have cF:=JY (hP.below hb0);have hgl:g<w.heap.size:=B5 w _ q1;have d1:=(hb0.cell (p:=⟨g,n*2,none⟩) hgl).trans q1;have d2:=(hb0.cell (p:=⟨g,n*2+1,none⟩) hgl).trans q2;have aY:=blt h.blk;have hb1:(n:Int)<(nn:Int):=by omega
 have hrow:=AF w (.cells #[.slice (some ⟨g,0,none⟩) nn c, .map (some im), .map (some km)] 100);have aV:=JY ((Kj.refl w.heap.size (fun q=>q=pm\/q=fm) w).alloc (AC _) (.cells #[.slice (some ⟨g,0,none⟩) nn c, .map (some im), .map (some km)] 100));have m0:=(JZ aw.out.blk 0).trans (show _=some (.map (some pm)) from rfl);have bw:(w.alloc (.cells #[.slice (some ⟨g,0,none⟩) nn c, .map (some im), .map (some km)] 100)).heap.size=w.heap.size+1:=by simp
 have eF:=aw.out.packs;clear h hP hb0 q1 q2;go_enter Tryz.func137,Tryz.ntmps137;go_wp2_with (first
  | (at_delete;refine afV rfl _ _ 97 rfl 169 IS eF rfl x hx rfl ?_;intro w5 qC ht2;go_frame))
 have hf:=Kv ht2;have eI:=JY (aw.out.pack qC ht2);have eJ:=JY ((cF.out.del aw.out.packs.1 x).turned aw.out.packs.MB hf (AC _));have fy:=JY (aV.out.next hf (by omega) (fun _ _ q => .inl q))
 go_end0
 exact ⟨_,_,rfl,eI.out,eJ.out,fy.out⟩
theorem Yo(mb pm fm:Nat) (P I:VM Value) (D DI:VM Hv.PD) (G:VM S) (N:Nat->Prop) (g:Nat) (n:Nat) (nn c im km:Nat) (hn:n<nn) (x:S) (hx:x.length<=maxLen) (bX:P.length<=1000) (d:Hv.PD) (hd:Hv.get DI x=some d) (w:World) (h:Kh mb pm fm P (Hv.Kk G) w) (hP:Ls N w D P) (hi:J6 w im I) (hI:Ls N w DI I) (q1:w.cell? ⟨g,n*2,none⟩=some (.int .i64 2)) (q2:w.cell? ⟨g,n*2+1,none⟩=some (.string ⟨x.toArray⟩)) :
 Calls Tryz.prog 137 #[.agg #[.slice (some ⟨g,0,none⟩) nn c, .map (some im), .map (some km)], .int .i64 n, .pointer (some ⟨mb,0,none⟩)] w (U8 mb pm fm (Hv.put D x d,G) N w):=by
 have hb0:=(AD w.heap.size w).alloc (AC _) (.cells #[.slice (some ⟨g,0,none⟩) nn c, .map (some im), .map (some km)] 100);have aw:=JY (h.below hb0);have cF:=JY (hP.below hb0);have hi0:=hi.below hb0;obtain ⟨v,hv,hr⟩:=(hI.below hb0).Vk x d hd;have kY:=JY hr;obtain ⟨p,rfl, -⟩:=hr;have HV:=JY hv;have hgl:g<w.heap.size:=B5 w _ q1;have d1:=(hb0.cell (p:=⟨g,n*2,none⟩) hgl).trans q1;have d2:=(hb0.cell (p:=⟨g,n*2+1,none⟩) hgl).trans q2;have aY:=blt h.blk;have hb1:(n:Int)<(nn:Int):=by omega
 have hrow:=AF w (.cells #[.slice (some ⟨g,0,none⟩) nn c, .map (some im), .map (some km)] 100);have aV:=JY ((Kj.refl w.heap.size (fun q=>q=pm\/q=fm) w).alloc (AC _) (.cells #[.slice (some ⟨g,0,none⟩) nn c, .map (some im), .map (some km)] 100));have m0:=(JZ aw.out.blk 0).trans (show _=some (.map (some pm)) from rfl);have bw:(w.alloc (.cells #[.slice (some ⟨g,0,none⟩) nn c, .map (some im), .map (some km)] 100)).heap.size=w.heap.size+1:=by simp
 have eF:=aw.out.packs;have vp:P.length<maxLen:=by unfold maxLen;omega
 clear h hP hb0 q1 q2 hI hv;go_enter Tryz.func137,Tryz.ntmps137;go_wp2_with fail;obtain ⟨u,hu⟩:∃ u,w.alloc (.cells #[.slice (some ⟨g,0,none⟩) nn c, .map (some im), .map (some km)] 100)=u:=⟨_,rfl⟩
 rw[hu] at aw cF aV kY bw hrow hi0 eF m0 |-;clear hu;have hlk:=hi0.drew.look IS (KW _) x hx;rw[HV.out] at hlk;simp only[DE,Pk.val,Pk.cells] at hlk;obtain ⟨w',hrun,cB,ht⟩:=eF.drew.store IS vp x hx p.val;simp only[Pk.val,Pk.cells] at hrun;have hf:=Kv ht;have eI:Hid (Kh mb pm fm (Hv.put P x p.val) (Hv.Kk G) w'):=JY ((show Kh mb pm fm P (Hv.Kk G) u.drew from ⟨aw.out.blk,aw.out.packs.drew,aw.out.files.drew,aw.out.apart⟩).pack cB ht);have eJ:Hid (Ls N w' (Hv.put D x d) (Hv.put P x p.val)):=JY (((show Ls N u.drew _ _ from (cF.out.put aw.out.packs.1 x kY.out).below ((AD _ u).drew))).turned aw.out.packs.drew.MB hf (AC _));have fy:Hid (Kj w.heap.size (fun q=>q=pm\/q=fm) w w'):=JY (aV.out.drew.next hf (by simp;omega) (fun _ _ q => .inl q));obtain ⟨B,hB⟩:∃ B,w.heap.size=B:=⟨_,rfl⟩
 rw[hB] at hrow |-;have hpl:=aw.out.packs.lt;have hpb:pm≠B:=fun e=>aw.out.packs.MB _ _ _ (by rw[e];exact hrow)
 have bl:w'.heap[B]? = u.heap[B]? := hf.block B (by simp;omega) (fun e=>hpb e.symm);have c1:=(JZ hrow 1).trans (show _=some (.map (some im)) from rfl);have e1:=(JZ (bl.trans hrow) 1).trans (show _=some (.map (some im)) from rfl);have jF:=(JZ eI.out.blk 0).trans (show _=some (.map (some pm)) from rfl);clear cB ht hf hrow bl aw aV hi0 eF d1 d2
 go_region_held3 (fun w'=>w'.cell? ⟨mb,0,none⟩=some (.map (some pm))/\w'.cell? ⟨B,1,none⟩=some (.map (some im)))
  (first | assumption | exact ⟨jF,e1⟩ | exact ⟨m0,c1⟩ | simp[go_sem, *])
  (fail)
 go_wp2_with fail
 go_end0
 exact ⟨_,_,rfl,eI.out,eJ.out,fy.out⟩
theorem adX(p:Pk) (w:World):(Instr.field 167 p.arc 6).run Tryz.prog w = .ok p.runs.val w:=by kernel_rfl
theorem aaS(p:Pk) (w:World):(Instr.field 167 p.arc 7).run Tryz.prog w = .ok p.Kn.val w:=by kernel_rfl
structure QD (L:Nat) (D:VM Hv.PD):Prop where
 files:Hv.U6 L D
 copies:Qe \/ ∀ k d,Hv.get D k=some d->KX d.st.runs/\KX d.st.Kn
theorem Tf(mb pm fm:Nat) (P K:VM Value) (D:VM Hv.PD) (G:VM S) (N:Nat->Prop) (g:Nat) (n:Nat) (nn c im km:Nat) (hn:n<nn) (x:S) (hx:x.length<=maxLen) (bX:P.length<=1000) (hG:G.length<=1000) (L:Nat) (hL:L<=1000000) (hS:Hv.Short L G) (hDB:QD L D) (d:Hv.PD) (hd:Hv.get D x=some d) (w:World) (h:Kh mb pm fm P (Hv.Kk G) w) (hP:Ls N w D P) (hk:J6 w km K) (hK:ajO K) (hkm : ¬ km=fm) (st:Int) (hst:(if Hv.has K x=true then (3:Int) else 2)=st) (q1:w.cell? ⟨g,n*2,none⟩=some (.int .i64 3)) (q2:w.cell? ⟨g,n*2+1,none⟩=some (.string ⟨x.toArray⟩)) :
 Calls Tryz.prog 137 #[.agg #[.slice (some ⟨g,0,none⟩) nn c, .map (some im), .map (some km)], .int .i64 n, .pointer (some ⟨mb,0,none⟩)] w (U8 mb pm fm (Hv.put D x (d.to st),Hv.MG D [] G d.st.runs) N w):=by
 have hb0:=(AD w.heap.size w).alloc (AC _) (.cells #[.slice (some ⟨g,0,none⟩) nn c, .map (some im), .map (some km)] 100);have aw:=JY (h.below hb0);have cF:=JY (hP.below hb0);have tR:=JY (hk.below hb0);have nJ:=JY hK;have HST:=JY hst;clear hst;obtain ⟨v,hv,hr⟩:=(hP.below hb0).Vk x d hd;obtain ⟨p,rfl, -, -, -, -,hpk, -⟩:=hr;have HV:=JY hv;have hgl:g<w.heap.size:=B5 w _ q1;have d1:=(hb0.cell (p:=⟨g,n*2,none⟩) hgl).trans q1;have d2:=(hb0.cell (p:=⟨g,n*2+1,none⟩) hgl).trans q2;have aY:=blt h.blk;have hb1:(n:Int)<(nn:Int):=by omega
 have hrow:=AF w (.cells #[.slice (some ⟨g,0,none⟩) nn c, .map (some im), .map (some km)] 100);have aV:=JY ((Kj.refl w.heap.size (fun q=>q=pm\/q=fm) w).alloc (AC _) (.cells #[.slice (some ⟨g,0,none⟩) nn c, .map (some im), .map (some km)] 100));have m0:=(JZ aw.out.blk 0).trans (show _=some (.map (some pm)) from rfl);have bw:(w.alloc (.cells #[.slice (some ⟨g,0,none⟩) nn c, .map (some im), .map (some km)] 100)).heap.size=w.heap.size+1:=by simp
 have eF:=aw.out.packs;have vp:P.length<maxLen:=by unfold maxLen;omega
 have cr:=(Lm hpk.parse).2.2;have hfit:=(KZ hpk.parse).2.2.1;have hro:=hpk.rows 4;have aS:=Sr p;have hf2:=adX p;have iB:=JY (fun w' (hm:Kh mb pm fm P (Hv.Kk G) w') (hp:Ls N w' D P) (hr:w'.ownsRow 0 329 4 p.runs.val d.st.runs.length (d.st.runs.flatMap Us))=>afF mb pm fm P D N G d.st.runs (fun c hc=>(cr.runs c hc).1) (hDB.copies.symm.imp (fun h=>(h x d hd).1) id) (by have:=hfit.2.2.2.2.1;omega) bX hG L hL hDB.files hS p.runs.val (.slice none 0 0) [] (by simp) (fun x hx=>by cases hx) (by simp[Lc]) w' hm hp (.inl ⟨rfl,none,0,rfl⟩) hr);have yh:=JY (show (w.alloc (.cells #[.slice (some ⟨g,0,none⟩) nn c, .map (some im), .map (some km)] 100)).ownsRow 0 329 4 p.runs.val d.st.runs.length (d.st.runs.flatMap Us) from hro);clear h hP hb0 q1 q2 hv hpk hk cr hfit hro hDB hS hK;simp only[Pk.val,Pk.cells,Pk.arc,Sl.val] at aS hf2 iB;go_enter Tryz.func137,Tryz.ntmps137;go_wp2_with (first
  | (at_lookup;refine Ol rfl _ _ 97 rfl 169 IS (KW _) eF rfl x hx rfl ?_;rw[HV.out];simp only[DE,Pk.val,Pk.cells]))
 refine (iB.out _ aw.out cF.out yh.out).mono ?_;rintro e w2 ⟨u2,rfl,hm2,dK⟩;have cI:=JY hm2;have hnf:=aw.out.files.MB;have bQ:=JY (cF.out.turned hnf dK (AC _));have hr2:=(dK.block w.heap.size (by omega) (fun e=>hnf _ _ _ (by rw[<- e];exact hrow))).trans hrow;have bp:=JY (aV.out.next dK (by omega) (fun _ _ q => .inr q));have aU:=JY hr2;have fR:=JY (tR.out.far dK (AC _) hkm);have r0:=(JZ hr2 0).trans (show _=some (.slice (some ⟨g,0,none⟩) nn c) from rfl);have r1:=(JZ hr2 1).trans (show _=some (.map (some im)) from rfl);have r2:=(JZ hr2 2).trans (show _=some (.map (some km)) from rfl);have hs2:=dK.size;clear hm2 dK hnf hrow hr2 m0 eF aS hf2 d1 d2;go_wp2_with fail;refine (XB (some ⟨g,0,none⟩) nn c im km K nJ.out x hx w2 fR.out).mono ?_;rintro e w3 ⟨rfl,hb3⟩;have lX:=JY (cI.out.below hb3);have cK:=JY (bQ.out.below hb3);have bP:=JY (bp.out.below hb3 (by omega));have hs3:=hb3.size;rw[HST.out];clear hb3 r0 r1 r2;go_wp2_with fail;refine (Qn mb pm fm P _ x hx p HV.out st vp w3 lX.out).mono ?_;rintro e w4 ⟨u4,rfl,jP,d7⟩;have dJ:=JY jP;have dY:=JY ((cK.out.YI lX.out.packs.1 HV.out hd st).turned lX.out.packs.MB d7 (AC _));have ey:=JY (bP.out.next d7 (by omega) (fun _ _ q => .inl q));clear jP d7;go_wp2_with fail
 go_end0
 exact ⟨_,_,rfl,dJ.out,dY.out,ey.out⟩
end
end Go.Proofs.YtfhmaiicimdldaaGreatDoor
