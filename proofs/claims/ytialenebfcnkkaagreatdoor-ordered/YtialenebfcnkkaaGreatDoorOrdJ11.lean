/- EngW1, EngW2, EngW3, MchW1, MchW2, KeyW1, KeyW2, KeyW3, KeyW4, RulW1, RulW2 -/
import Derived.Test.YtialenebfcnkkaaGreatDoorOrdJ10
import Derived.LoopTactic
import Derived.Carry
import Derived.Deep.RegionHeld3
import Derived.Test.YtialenebfcnkkaaGreatDoorOrdJ2
import Derived.Test.YtialenebfcnkkaaGreatDoorOrdJ4
set_option maxHeartbeats 4000000
set_option maxRecDepth 100000
namespace Go.Proofs.YtialenebfcnkkaaGreatDoor
section
open Go.RowKit
open Hv (S Dk VM)
theorem Ho (w:World):Calls Tryz.prog 89 #[.string ⟨([]:S).toArray⟩] w fun e w'=>e = .returned (.tuple #[.agg #[.slice none 0 0, .slice none 0 0, .slice none 0 0], .bool true])∧Below w.heap.size w w':=by
 have hrow:=heap_alloc_new w (.cells #[.slice none 0 0, .slice none 0 0, .slice none 0 0] 98)
 go_enter Tryz.func89,Tryz.ntmps89
 go_wp2_with fail
 have h2:=heap_alloc_new (w.alloc (.cells #[.slice none 0 0, .slice none 0 0, .slice none 0 0] 98)) (.cells #[.slice none 0 0, .slice none 0 0, .slice none 0 0] 98)
 have h1:=(Below.heap_alloc (w.alloc (.cells #[.slice none 0 0, .slice none 0 0, .slice none 0 0] 98)) (.cells #[.slice none 0 0, .slice none 0 0, .slice none 0 0] 98) w.heap.size (by simp)).trans hrow
 have HB:=hide (((Below.refl w.heap.size w).alloc (Nat.le_refl _) (.cells #[.slice none 0 0, .slice none 0 0, .slice none 0 0] 98)).alloc (by simp) (.cells #[.slice none 0 0, .slice none 0 0, .slice none 0 0] 98))
 obtain ⟨u,hu⟩:∃ u,(w.alloc (.cells #[.slice none 0 0, .slice none 0 0, .slice none 0 0] 98)).alloc (.cells #[.slice none 0 0, .slice none 0 0, .slice none 0 0] 98)=u:=⟨_,rfl⟩
 have h2':u.heap[w.heap.size+1]? = some (.cells #[.slice none 0 0, .slice none 0 0, .slice none 0 0] 98 (0,0)):=by rw[← hu];simpa using h2
 rw[hu] at h1 HB ⊢
 have c0:=(ah h2' 0).trans (show _=some (.slice none 0 0) from rfl)
 have c1:=(ah h2' 1).trans (show _=some (.slice none 0 0) from rfl)
 have c2:=(ah h2' 2).trans (show _=some (.slice none 0 0) from rfl)
 have d0:=(ah h1 0).trans (show _=some (.slice none 0 0) from rfl)
 have d1:=(ah h1 1).trans (show _=some (.slice none 0 0) from rfl)
 have d2:=(ah h1 2).trans (show _=some (.slice none 0 0) from rfl)
 have f0:=ak h1 0
 have f1:=ak h1 1
 have f2:=ak h1 2
 have zW:=heap_setCell_same _ w.heap.size 2 _ _ (.slice none 0 0) (heap_setCell_same _ w.heap.size 1 _ _ (.slice none 0 0) (heap_setCell_same _ w.heap.size 0 _ _ (.slice none 0 0) h1))
 have n0:=(ah zW 0).trans (show _=some (.slice none 0 0) from rfl)
 have n1:=(ah zW 1).trans (show _=some (.slice none 0 0) from rfl)
 have n2:=(ah zW 2).trans (show _=some (.slice none 0 0) from rfl)
 clear hrow h2 h2' h1 zW hu
 go_loopw [0] (fun t wr=>t = .string ⟨#[]⟩∧wr=u) (fun _ _=>0)
 case atStart=>exact ⟨rfl,rfl⟩
 case round =>
   obtain ⟨rfl,rfl⟩:=hrel
   go_wp2_with fail
   refine bodyPost_ret (v := .tuple #[.agg #[.slice none 0 0, .slice none 0 0, .slice none 0 0], .bool true]) (by simp[results,Tryz.results89,go_sem,n0,n1,n2]) rfl ⟨rfl,?_⟩
   exact ((HB.out.setCell (Nat.le_refl _) _).setCell (Nat.le_refl _) _).setCell (Nat.le_refl _) _
structure aK (mb pm fm:Nat) (P F:VM Value) (w:World):Prop where
 blk:w.heap[mb]? = some (.cells #[.map (some pm), .map (some fm)] 141 (0,0))
 packs:MapAt w pm P
 files:MapAt w fm F
 apart:mb≠pm∧mb≠fm∧pm≠fm
theorem aK.below {mb pm fm:Nat} {P F:VM Value} {w w':World} (h:aK mb pm fm P F w) (hb:Below w.heap.size w w'):aK mb pm fm P F w':=⟨(hb.block mb (blt h.blk)).trans h.blk,h.packs.below hb,h.files.below hb,h.apart⟩
theorem Tf (w:World):Calls Tryz.prog 158 #[] w fun e w'=>∃ mb pm fm,e = .returned (.pointer (some ⟨mb,0,none⟩))∧aK mb pm fm [] [] w'∧w.heap.size≤mb∧w.heap.size≤pm∧w.heap.size≤fm∧Below w.heap.size w w':=by
 have hmm := @run_makeMap Tryz.prog
 go_enter Tryz.func158,Tryz.ntmps158
 go_wp2_with fail
 go_ret
 refine ⟨w.heap.size+1+1,w.heap.size,w.heap.size+1,rfl,⟨?_,((MapAt.made w).alloc _).alloc _,?_,by omega,by omega,by omega⟩,by omega,by omega,by omega,(((Below.refl w.heap.size w).alloc (Nat.le_refl _) _).alloc (by simp) _).alloc (by simp;omega) _⟩
 · have:=heap_alloc_new ((w.alloc (.map #[] 0)).alloc (.map #[] 0)) (.cells #[.map (some w.heap.size), .map (some (w.heap.size+1))] 141)
   simpa using this
 · have:=(MapAt.made (w.alloc (.map #[] 0))).alloc (.cells #[.map (some w.heap.size), .map (some (w.heap.size+1))] 141)
   simpa using this
theorem F5 (w:World):Calls Tryz.prog 90 #[.agg #[.slice none 0 0, .slice none 0 0, .slice none 0 0]] w fun e w'=>∃ mb pm fm,e = .returned (.tuple #[.pointer (some ⟨mb,0,none⟩), .bool true])∧aK mb pm fm [] [] w'∧w.heap.size≤mb∧w.heap.size≤pm∧w.heap.size≤fm∧Below w.heap.size w w':=by
 have hrow:=heap_alloc_new w (.cells #[.slice none 0 0, .slice none 0 0, .slice none 0 0] 98)
 have hsz:(w.alloc (.cells #[.slice none 0 0, .slice none 0 0, .slice none 0 0] 98)).heap.size=w.heap.size+1:=by simp
 go_enter Tryz.func90,Tryz.ntmps90
 go_wp2_with fail
 refine (Tf _).mono ?_
 rintro e w1 ⟨mb,pm,fm,rfl,hm,h1,h2,h3,hb1⟩
 rw[hsz] at h1 h2 h3
 have hr1:=(hb1.block w.heap.size (by simp)).trans hrow
 have c0:=(ah hr1 0).trans (show _=some (.slice none 0 0) from rfl)
 have c1:=(ah hr1 1).trans (show _=some (.slice none 0 0) from rfl)
 have c2:=(ah hr1 2).trans (show _=some (.slice none 0 0) from rfl)
 have HM:=hide hm
 have HB1:=hide (((Below.refl w.heap.size w).alloc (Nat.le_refl _) (.cells #[.slice none 0 0, .slice none 0 0, .slice none 0 0] 98)).trans (hb1.mono (by simp)))
 clear hrow hm hb1 hr1
 go_wp2_with fail
 go_loopw [19] (fun i wr=>i = .int .i64 0∧wr=w1) (fun _ _=>0)
 case atStart=>exact ⟨rfl,rfl⟩
 case round =>
   obtain ⟨rfl,rfl⟩:=hrel
   go_wp2_with fail
   go_loopw [56] (fun i wr'=>i = .int .i64 0∧wr'=wr) (fun _ _=>0)
   case atStart=>exact ⟨rfl,rfl⟩
   case round =>
     obtain ⟨rfl,rfl⟩:=hrel
     go_wp2_with fail
     go_ret2
     exact ⟨mb,pm,fm,rfl,HM.out,by omega,by omega,by omega,HB1.out⟩
def pJ (eb:Nat) (s m st im wm dn:Value) (w:World):Prop:=w.heap[eb]? = some (.cells #[s,m,st,im,wm,dn] 95 (0,0))
theorem pJ.cells {eb:Nat} {s m st im wm dn:Value} {w:World} (h:pJ eb s m st im wm dn w):w.cell? ⟨eb,0,none⟩=some s∧w.cell? ⟨eb,1,none⟩=some m∧w.cell? ⟨eb,2,none⟩=some st∧w.cell? ⟨eb,3,none⟩=some im∧w.cell? ⟨eb,4,none⟩=some wm∧w.cell? ⟨eb,5,none⟩=some dn :=
 ⟨(ah h 0).trans rfl,(ah h 1).trans rfl,(ah h 2).trans rfl,(ah h 3).trans rfl,(ah h 4).trans rfl,(ah h 5).trans rfl⟩
theorem pJ.kept {eb:Nat} {s m st im wm dn:Value} {w w':World} (h:pJ eb s m st im wm dn w) (hb:w'.heap[eb]? = w.heap[eb]?):pJ eb s m st im wm dn w':=hb.trans h
theorem Dl (eb sb:Nat) (w:World) (h:pJ eb (.pointer (some ⟨sb,0,none⟩)) (.pointer none) (.slice none 0 0) (.map none) (.map none) (.int .i64 0) w) :
   Calls Tryz.prog 44 #[.pointer (some ⟨eb,0,none⟩), .agg #[.string ⟨([]:S).toArray⟩, .int .i64 0]] w fun e w'=>∃ mb pm fm,e = .returned (.bool true)∧aK mb pm fm [] [] w'∧w.heap.size≤mb∧w.heap.size≤pm∧w.heap.size≤fm ∧
     pJ eb (.pointer (some ⟨sb,0,none⟩)) (.pointer (some ⟨mb,0,none⟩)) (.slice none 0 0) (.map none) (.map none) (.int .i64 0) w'∧aQ w.heap.size (fun k=>k=eb) w w':=by
 have hel:=blt h
 have HE:=hide h
 have hrow:=heap_alloc_new w (.cells #[.string ⟨([]:S).toArray⟩, .int .i64 0] 106)
 have HC:=hide hrow
 clear h hrow
 go_enter Tryz.func44,Tryz.ntmps44
 go_wp2_with fail
 refine (Ho _).mono ?_
 rintro e w1 ⟨rfl,hb1⟩
 have hs1:w.heap.size+1≤w1.heap.size:=by have:=hb1.size;simpa using this
 have zP:=hide ((hb1.block w.heap.size (by simp)).trans HC.out)
 have kU:=hide (HE.out.kept ((hb1.block eb (by simp;omega)).trans (Below.heap_alloc _ _ _ hel)))
 have eO:=hide (((aQ.refl w.heap.size (fun k=>k=eb) w).alloc (Nat.le_refl _) (.cells #[.string ⟨([]:S).toArray⟩, .int .i64 0] 106)).below hb1 (by simp))
 clear hb1
 go_wp2_with fail
 refine (F5 _).mono ?_
 rintro e w2 ⟨mb,pm,fm,rfl,hm,h1,h2,h3,hb2⟩
 have hsz:(w1.alloc (.cells #[.slice none 0 0, .slice none 0 0, .slice none 0 0] 98)).heap.size=w1.heap.size+1:=by simp
 rw[hsz] at h1 h2 h3
 have hR2:=(hb2.block w1.heap.size (by simp)).trans (heap_alloc_new w1 _)
 have hC2:=(hb2.block w.heap.size (by rw[hsz];omega)).trans ((Below.heap_alloc w1 _ w.heap.size (by omega)).trans zP.out)
 have HE2:=hide (kU.out.kept ((hb2.block eb (by rw[hsz];omega)).trans (Below.heap_alloc w1 _ eb (by omega))))
 have iU:=hide ((eO.out.alloc (by omega) (.cells #[.slice none 0 0, .slice none 0 0, .slice none 0 0] 98)).below hb2 (by rw[hsz];omega))
 have r2:=(ah hR2 2).trans (show _=some (.slice none 0 0) from rfl)
 have k1:=(ah hC2 1).trans (show _=some (.int .i64 0) from rfl)
 obtain ⟨e0,e1, -⟩:=HE2.out.cells
 have f1:=ak HE2.out 1
 have HM:=hide hm
 have hw2:=iU.out.size
 have n1 : ¬ eb=w1.heap.size:=by omega
 have n2 : ¬ eb=w.heap.size:=by omega
 have zQ:Hid (pJ eb (.pointer (some ⟨sb,0,none⟩)) (.pointer (some ⟨mb,0,none⟩)) (.slice none 0 0) (.map none) (.map none) (.int .i64 0) (w2.setCell ⟨eb,1,none⟩ (.pointer (some ⟨mb,0,none⟩)))):=hide (heap_setCell_same _ eb 1 _ _ _ HE2.out)
 have MQ:Hid (aK mb pm fm [] [] (w2.setCell ⟨eb,1,none⟩ (.pointer (some ⟨mb,0,none⟩)))):=hide ⟨(Below.heap_setCell _ _ _ _ (by show mb≠eb;omega)).trans hm.blk,hm.packs.set (by omega) _,hm.files.set (by omega) _,hm.apart⟩
 have mO:=hide (iU.out.setCell (p:=⟨eb,1,none⟩) (.inr rfl) (.pointer (some ⟨mb,0,none⟩)))
 clear hb2 hm hR2 hC2 HC zP HE kU eO
 go_wp2_with fail
 go_ret
 exact ⟨mb,pm,fm,rfl,MQ.out,by omega,by omega,by omega,zQ.out,mO.out⟩
structure Gm (C:Nat→Prop) (eb sb mb pm fm db n a b c:Nat) (h:S) (d:Dk) (P F:VM Value) (w:World):Prop where
 dR:pJ eb (.pointer (some ⟨sb,0,none⟩)) (.pointer (some ⟨mb,0,none⟩)) (.slice none 0 0) (.map none) (.map none) (.int .i64 0) w
 st:aY sb db n a b c h w
 iM:aK mb pm fm P F w
 dk:bI C db d w
 off : ¬ C eb ∧ ¬ C sb ∧ ¬ C mb ∧ ¬ C pm ∧ ¬ C fm
 apart:eb≠sb∧eb≠mb∧eb≠pm∧eb≠fm∧sb≠mb∧sb≠pm∧sb≠fm
theorem Gm.below {C:Nat→Prop} {eb sb mb pm fm db n a b c:Nat} {h:S} {d:Dk} {P F:VM Value} {w w':World} (e:Gm C eb sb mb pm fm db n a b c h d P F w) (hb:Below w.heap.size w w'):Gm C eb sb mb pm fm db n a b c h d P F w' :=
 ⟨e.dR.kept (hb.block eb (blt e.dR)),e.st.below hb,e.iM.below hb,e.dk.below hb,e.off,e.apart⟩
theorem Ia {C:Nat→Prop} {d:Dk} (db:Nat) (h1:64≤d.now.length) (h2:d.now.length≤4096) (tY:d.now[0]? = some (jC (iG 0 0 0 (short aF [])))) (w:World) (hd:bI C db d w) (hbs:Base w) (qm:∀ k,C k→12≤k) :
   Calls Tryz.prog 24 #[Di db] w fun e w'=>∃ eb sb mb pm fm,e = .returned (.tuple #[.pointer (some ⟨eb,0,none⟩), .nilIface])∧Gm C eb sb mb pm fm db d.now.length 0 0 0 (short aF []) d.flush [] [] w'∧w.heap.size≤eb∧w.heap.size≤sb∧w.heap.size≤mb∧w.heap.size≤pm∧w.heap.size≤fm∧aQ w.heap.size C w w':=by
 have HD:=hide hd;have iT:=hide hbs;have oF:=hide qm;have hlt:=hide hd.lt
 clear hd hbs qm
 go_enter Tryz.func24,Tryz.ntmps24
 go_wp2_with fail
 refine (Fj w HD.out).mono ?_
 rintro e w1 ⟨rfl,hb1⟩
 have HD1:=hide (HD.out.below hb1)
 have fC:=hide (iT.out.below hb1 iT.out.size)
 have eO:=hide ((aQ.refl w.heap.size C w).below hb1 (Nat.le_refl _))
 have hs1:=hb1.size
 clear hb1
 go_wp2_with fail
 refine (LW db d.now.length 0 0 [] (by omega) (by omega) rfl (by omega) (by omega) (by simp) (by simp) tY (hide fun sb h w1 hs hd _=>Dv sb db d.now.length 0 0 h (by omega) (by omega) (by omega) w1 hs hd) w1 HD1.out fC.out oF.out).mono ?_
 rintro e w2 ⟨sb,rfl,hsb,hst,hd2,hf2⟩
 have HD2:=hide hd2
 have HS2:=hide hst
 have iU:=hide (eO.out.next hf2 eO.out.size (fun _ _ q=>q))
 have hsl:=hst.lt
 have hl2:=hide hd2.lt
 clear hd2 hf2 hst HD1 eO
 go_wp2_with fail
 have hE:=heap_alloc_new (w2.alloc (.cells #[.string ⟨#[]⟩, .int .i64 0] 106)) (.cells #[.pointer (some ⟨sb,0,none⟩), .pointer none, .slice none 0 0, .map none, .map none, .int .i64 0] 95)
 have Y2:=hide ((HS2.out.below ((Below.refl w2.heap.size w2).alloc (Nat.le_refl _) (.cells #[.string ⟨#[]⟩, .int .i64 0] 106))).below ((Below.refl _ _).alloc (Nat.le_refl _) (.cells #[.pointer (some ⟨sb,0,none⟩), .pointer none, .slice none 0 0, .map none, .map none, .int .i64 0] 95)))
 have HD3:=hide ((HD2.out.alloc (.cells #[.string ⟨#[]⟩, .int .i64 0] 106)).alloc (.cells #[.pointer (some ⟨sb,0,none⟩), .pointer none, .slice none 0 0, .map none, .map none, .int .i64 0] 95))
 have hs2:w.heap.size≤w2.heap.size:=iU.out.size
 have mO:=hide ((iU.out.alloc hs2 (.cells #[.string ⟨#[]⟩, .int .i64 0] 106)).alloc (by simp;omega) (.cells #[.pointer (some ⟨sb,0,none⟩), .pointer none, .slice none 0 0, .map none, .map none, .int .i64 0] 95))
 have nX:((w2.alloc (.cells #[.string ⟨#[]⟩, .int .i64 0] 106)).alloc (.cells #[.pointer (some ⟨sb,0,none⟩), .pointer none, .slice none 0 0, .map none, .map none, .int .i64 0] 95)).heap.size=w2.heap.size+2:=by simp
 obtain ⟨u,hu⟩:∃ u,(w2.alloc (.cells #[.string ⟨#[]⟩, .int .i64 0] 106)).alloc (.cells #[.pointer (some ⟨sb,0,none⟩), .pointer none, .slice none 0 0, .map none, .map none, .int .i64 0] 95)=u:=⟨_,rfl⟩
 have hE':pJ (w2.heap.size+1) (.pointer (some ⟨sb,0,none⟩)) (.pointer none) (.slice none 0 0) (.map none) (.map none) (.int .i64 0) u:=by
   unfold pJ
   rw[← hu]
   simpa using hE
 rw[hu] at Y2 HD3 mO nX ⊢
 clear hu hE HS2 HD2 iU
 refine (Dl (w2.heap.size+1) sb u hE').mono ?_
 rintro e w3 ⟨mb,pm,fm,rfl,hm,m1,m2,m3,vN,hf3⟩
 have Iq:=hlt.out
 have HD4:=hide (HD3.out.far hf3 (Nat.le_refl _) (fun k hk e=>by have:=hl2.out k hk;omega))
 have HS4:=hide (Y2.out.far hf3 (Nat.le_refl _) (fun e=>by omega))
 have uV:=hide hm
 have Rb:=hide vN
 have sS:=hide (mO.out.next hf3 (by omega) (fun i hi (q:i=w2.heap.size+1)=>by omega))
 clear hm vN hf3 hE' HD3 Y2 mO
 go_wp2_with fail
 go_ret2
 refine ⟨w2.heap.size+1,sb,mb,pm,fm,rfl,⟨Rb.out,HS4.out,uV.out,HD4.out,⟨fun q => ?_,fun q => ?_,fun q => ?_,fun q => ?_,fun q => ?_⟩,by omega,by omega,by omega,by omega,by omega,by omega,by omega⟩,by omega,by omega,by omega,by omega,by omega,sS.out⟩
 · have:=Iq _ q;omega
 · have:=Iq _ q;omega
 · have:=Iq _ q;omega
 · have:=Iq _ q;omega
 · have:=Iq _ q;omega
def Rt (C:Nat→Prop) (hb eb sb mb pm fm db n a b c:Nat) (h:S) (d:Dk) (P F:VM Value) (w:World):Prop :=
 w.heap[hb]? = some (.cells #[.int .i32 0, .int .u32 0, .pointer (some ⟨eb,0,none⟩)] 62 (0,0))∧Gm C eb sb mb pm fm db n a b c h d P F w ∧ ¬ C hb∧hb≠eb∧hb≠sb∧hb≠mb∧hb≠pm∧hb≠fm
theorem IV {C:Nat→Prop} {d:Dk} (db:Nat) (h1:64≤d.now.length) (h2:d.now.length≤4096) (tY:d.now[0]? = some (jC (iG 0 0 0 (short aF [])))) (w:World) (hd:bI C db d w) (hbs:Base w) (qm:∀ k,C k→12≤k) :
   Calls Tryz.prog 13 #[Di db] w fun e w'=>∃ hb eb sb mb pm fm,e = .returned (.tuple #[.pointer (some ⟨hb,0,none⟩), .int .i64 0])∧Rt C hb eb sb mb pm fm db d.now.length 0 0 0 (short aF []) d.flush [] [] w'∧w.heap.size≤hb∧w.heap.size≤eb∧w.heap.size≤sb∧w.heap.size≤mb∧w.heap.size≤pm∧w.heap.size≤fm∧aQ w.heap.size C w w':=by
 have HD:=hide hd;have iT:=hide hbs;have oF:=hide qm;have hlt:=hide hd.lt
 clear hd hbs qm
 go_enter Tryz.func13,Tryz.ntmps13
 go_wp2_with fail
 refine (xB w HD.out h1 h2).mono ?_
 rintro e w1 ⟨rfl,rfl⟩
 go_wp2_with fail
 refine (Ia db h1 h2 tY w1 HD.out iT.out oF.out).mono ?_
 rintro e w2 ⟨eb,sb,mb,pm,fm,rfl,he,g1,g2,g3,g4,g5,hf2⟩
 have HE2:=hide he
 have iU:=hide hf2
 clear he hf2
 go_wp2_with fail
 go_ret2
 have hs2:=iU.out.size
 have l1:=blt HE2.out.dR
 have l2:=HE2.out.st.lt
 have l3:=blt HE2.out.iM.blk
 have l4:=HE2.out.iM.packs.lt
 have l5:=HE2.out.iM.files.lt
 exact ⟨w2.heap.size,eb,sb,mb,pm,fm,rfl,⟨heap_alloc_new w2 _,HE2.out.below ((Below.refl w2.heap.size w2).alloc (Nat.le_refl _) _),fun q=>by have:=hlt.out _ q;omega,by omega,by omega,by omega,by omega,by omega⟩,by omega,g1,g2,g3,g4,g5,iU.out.alloc (by omega) _⟩
structure Sl where
 a:Option Addr
 n:Nat
 c:Nat
structure Pk where
 text:S
 nm:S
 ve:S
 needs:Sl
 breaks:Sl
 wakes:Sl
 files:Sl
 runs:Sl
 aL:Sl
 status:Int
def Pk.cells (p:Pk):Array Value := #[.string ⟨p.text.toArray⟩, .string ⟨p.nm.toArray⟩, .string ⟨p.ve.toArray⟩, .slice p.needs.a p.needs.n p.needs.c, .slice p.breaks.a p.breaks.n p.breaks.c, .slice p.wakes.a p.wakes.n p.wakes.c, .slice p.files.a p.files.n p.files.c, .slice p.runs.a p.runs.n p.runs.c, .slice p.aL.a p.aL.n p.aL.c, .int .i64 p.status]
def Pk.val (p:Pk):Value := .agg p.cells
def Pk.to (p:Pk) (s:Int):Pk:={ p with status:=s }
theorem Pk.at_ {p:Pk} {B:Nat} {w:World} (h:w.heap[B]? = some (.cells p.cells 156 (0,0))):w.cell? ⟨B,0,none⟩=some (.string ⟨p.text.toArray⟩)∧w.cell? ⟨B,1,none⟩=some (.string ⟨p.nm.toArray⟩)∧w.cell? ⟨B,2,none⟩=some (.string ⟨p.ve.toArray⟩)∧w.cell? ⟨B,3,none⟩=some (.slice p.needs.a p.needs.n p.needs.c)∧w.cell? ⟨B,4,none⟩=some (.slice p.breaks.a p.breaks.n p.breaks.c)∧w.cell? ⟨B,5,none⟩=some (.slice p.wakes.a p.wakes.n p.wakes.c)∧w.cell? ⟨B,6,none⟩=some (.slice p.files.a p.files.n p.files.c)∧w.cell? ⟨B,7,none⟩=some (.slice p.runs.a p.runs.n p.runs.c)∧w.cell? ⟨B,8,none⟩=some (.slice p.aL.a p.aL.n p.aL.c)∧w.cell? ⟨B,9,none⟩=some (.int .i64 p.status) :=
 ⟨(ah h 0).trans rfl,(ah h 1).trans rfl,(ah h 2).trans rfl,(ah h 3).trans rfl,(ah h 4).trans rfl,(ah h 5).trans rfl,(ah h 6).trans rfl,(ah h 7).trans rfl,(ah h 8).trans rfl,(ah h 9).trans rfl⟩
theorem aK.far {mb pm fm B:Nat} {C:Nat→Prop} {P F:VM Value} {w w':World} (h:aK mb pm fm P F w) (hf:aQ B C w w') (hB:w.heap.size≤B) (hC : ¬ C mb ∧ ¬ C pm ∧ ¬ C fm):aK mb pm fm P F w':=⟨(hf.block mb (by have:=blt h.blk;omega) hC.1).trans h.blk,h.packs.far hf hB hC.2.1,h.files.far hf hB hC.2.2,h.apart⟩
theorem aX {w w':World} {b:Nat} (h:w.mapTurned w' b):aQ w.heap.size (fun k=>k=b) w w':=by
 have g:=h.grown
 exact ⟨g.os,g.tape,g.output,g.size,fun k hk hc=>g.block k hk (fun e=>hc (by cases e;rfl))⟩
theorem bU (w:World):(zeroValue 156).run Tryz.prog w = .ok (.agg #[.string ⟨#[]⟩, .string ⟨#[]⟩, .string ⟨#[]⟩, .slice none 0 0, .slice none 0 0, .slice none 0 0, .slice none 0 0, .slice none 0 0, .slice none 0 0, .int .i64 0]) w:=Tryz.zeroValue156 w
theorem nO (mb pm fm:Nat) (P F:VM Value) (k:S) (hk:k.length≤maxLen) (p:Pk) (hp:Hv.get P k=some p.val) (s:Int) (hn:P.length<maxLen) (w:World) (h:aK mb pm fm P F w) :
   Calls Tryz.prog 144 #[.pointer (some ⟨mb,0,none⟩), .string ⟨k.toArray⟩, .int .i64 s] w fun e w'=>∃ u,e = .returned u∧aK mb pm fm (Hv.put P k (p.to s).val) F w'∧aQ w.heap.size (fun q=>q=pm) w w':=by
 have m0:=(ah h.blk 0).trans (show _=some (.map (some pm)) from rfl)
 have hlk:=h.packs.look Tryz.underlying86 (bU w) k hk
 rw[hp] at hlk
 simp only[Option.getD_some,Pk.val,Pk.cells] at hlk
 have hml:=blt h.blk
 have hpl:=h.packs.lt
 have hne : ¬ w.heap.size=mb:=by omega
 have HM:=hide h
 clear h
 go_enter Tryz.func144,Tryz.ntmps144
 go_wp2_with fail
 have hrow:=heap_alloc_new w (.cells (p.to s).cells 156)
 have dF:=hide (HM.out.below ((Below.refl w.heap.size w).alloc (Nat.le_refl _) (.cells (p.to s).cells 156)))
 have iV:=hide ((aQ.refl w.heap.size (fun q=>q=pm) w).alloc (Nat.le_refl _) (.cells (p.to s).cells 156))
 show Code.wp _ _ _ _ (w.alloc (.cells (p.to s).cells 156))
 have nX:(w.alloc (.cells (p.to s).cells 156)).heap.size=w.heap.size+1:=by simp
 obtain ⟨u,hu⟩:∃ u,w.alloc (.cells (p.to s).cells 156)=u:=⟨_,rfl⟩
 rw[hu] at hrow dF iV nX ⊢
 clear hu hlk HM
 obtain ⟨w',hrun,hM',ht⟩:=dF.out.packs.drew.store Tryz.underlying86 hn k hk (p.to s).val
 have hf:=aX ht
 have DK:Hid (aK mb pm fm (Hv.put P k (p.to s).val) F w'):=hide ⟨(hf.block mb (by have:=blt dF.out.blk;simpa using this) dF.out.apart.1).trans dF.out.blk,hM',dF.out.files.kept (hf.block fm (by have:=dF.out.files.lt;simpa using this) (fun e=>dF.out.apart.2.2 e.symm)),dF.out.apart⟩
 have NT:Hid (aQ w.heap.size (fun q=>q=pm) w w'):=hide (iV.out.drew.next hf (by simp;omega) (fun _ _ q=>q))
 have m0':=(ah DK.out.blk 0).trans (show _=some (.map (some pm)) from rfl)
 have m0u:=(ah dF.out.blk 0).trans (show _=some (.map (some pm)) from rfl)
 obtain ⟨B,hB⟩:∃ B,w.heap.size=B:=⟨_,rfl⟩
 have hrw:w'.heap[B]? = some (.cells (p.to s).cells 156 (0,0)):=by rw[← hB];exact (hf.block w.heap.size (by simp;omega) (by omega)).trans hrow
 rw[hB] at hrow ⊢
 have T0:=Pk.at_ hrow
 have T1:=Pk.at_ hrw
 simp only[Pk.to] at T0 T1
 simp only[Pk.val,Pk.cells,Pk.to] at hrun
 clear hM' ht hf hrow hrw dF iV
 go_region_held3 (fun w'=>w'.cell? ⟨mb,0,none⟩=some (.map (some pm))∧w'.cell? ⟨B,0,none⟩=some (.string ⟨p.text.toArray⟩)∧w'.cell? ⟨B,1,none⟩=some (.string ⟨p.nm.toArray⟩)∧w'.cell? ⟨B,2,none⟩=some (.string ⟨p.ve.toArray⟩)∧w'.cell? ⟨B,3,none⟩=some (.slice p.needs.a p.needs.n p.needs.c)∧w'.cell? ⟨B,4,none⟩=some (.slice p.breaks.a p.breaks.n p.breaks.c)∧w'.cell? ⟨B,5,none⟩=some (.slice p.wakes.a p.wakes.n p.wakes.c)∧w'.cell? ⟨B,6,none⟩=some (.slice p.files.a p.files.n p.files.c)∧w'.cell? ⟨B,7,none⟩=some (.slice p.runs.a p.runs.n p.runs.c)∧w'.cell? ⟨B,8,none⟩=some (.slice p.aL.a p.aL.n p.aL.c)∧w'.cell? ⟨B,9,none⟩=some (.int .i64 s))
   (first | assumption | exact ⟨m0',T1⟩ | exact ⟨m0u,T0⟩ | simp[go_sem, *])
   (fail)
 go_wp2_with fail
 go_end0
 exact ⟨_,rfl,DK.out,NT.out⟩
def Reads (w:World) (v:Value) (xs:List S):Prop:=(xs=[]∧∃ a c,v = .slice a 0 c) ∨ ∃ g c,v = .slice (some ⟨g,0,none⟩) xs.length c∧g<w.heap.size∧∀ j x,xs[j]? = some x→w.cell? ⟨g,j,none⟩=some (.string ⟨x.toArray⟩)
def bJ (xs:List S):S:=xs.flatMap fun x=>x++[10]
theorem IJ (xs:List S) (x:S):bJ (xs++[x])=bJ xs++(x++[10]):=by simp[bJ]
theorem Ei (xs:List S) (n:Nat) (h:∀ x∈xs,x.length≤n):(bJ xs).length≤xs.length*(n+1):=by
 induction xs with
 | nil=>simp[bJ]
 | cons a l ih =>
   have h1:=h a (by simp)
   have h2:=ih (fun x hx=>h x (by simp[hx]))
   have e:bJ (a::l)=a++[10]++bJ l:=by simp[bJ]
   rw[e]
   simp only[List.length_append,List.length_cons,List.length_nil,Nat.add_mul]
   omega
theorem Pp (v:Value) (xs:List S) (hn:xs.length≤10000) (hx:∀ x∈xs,x.length≤10000) (w:World) (h:Reads w v xs) :
   Calls Tryz.prog 276 #[v] w fun e w'=>e = .returned (.string ⟨(bJ xs).toArray⟩)∧w'=w:=by
 obtain ⟨a,c,rfl⟩:∃ a c,v = .slice a xs.length c:=by
   rcases h with ⟨rfl,a,c,rfl⟩ | ⟨g,c,rfl,_⟩
   · exact ⟨a,c,rfl⟩
   · exact ⟨_,c,rfl⟩
 have HR:Hid (∀ j x,xs[j]? = some x→∃ g,a=some ⟨g,0,none⟩∧w.cell? ⟨g,j,none⟩=some (.string ⟨x.toArray⟩)):=hide (fun j x hj=>by
   rcases h with ⟨rfl,_⟩ | ⟨g,c',e,_,hc⟩
   · simp at hj
   · cases e;exact ⟨g,rfl,hc j x hj⟩)
 have HX:=hide hx
 clear h hx
 go_enter Tryz.func276,Tryz.ntmps276
 go_wp2_with fail
 go_loop [3,8] (fun t i=>∃ k:Nat,k≤xs.length∧t = .string ⟨(bJ (xs.take k)).toArray⟩∧i = .int .i64 (k:Int)) (fun _ i=>xs.length-(intOf i).toNat)
 case atStart=>exact ⟨0,by omega,by simp[bJ],rfl⟩
 case round =>
   obtain ⟨k,hk,rfl,rfl⟩:=hrel
   by_cases hlt:k<xs.length
   · have b1:(k:Int)<(xs.length:Int):=by omega
     obtain ⟨g,rfl,hc⟩:=HR.out k xs[k] (List.getElem?_eq_getElem hlt)
     have hxl:=HX.out xs[k] (List.getElem_mem hlt)
     have htl:=Ei (xs.take k) 10000 (fun x hx=>HX.out x (List.mem_of_mem_take hx))
     rw[List.length_take] at htl
     have HT:Hid (bJ (xs.take (k+1))=bJ (xs.take k)++(xs[k]++[10])):=hide (by rw[List.take_succ_eq_append_getElem hlt,IJ])
     obtain ⟨y,hy⟩:∃ y,xs[k]=y:=⟨_,rfl⟩
     obtain ⟨t,ht⟩:∃ t,bJ (xs.take k)=t:=⟨_,rfl⟩
     rw[hy] at hc hxl HT
     rw[ht] at htl HT ⊢
     have hm:min k xs.length*(10000+1)≤100010000:=by
       have:min k xs.length≤10000:=by omega
       omega
     have j1 : ¬ 9223372036854775807<y.length+1:=by omega
     have j2 : ¬ 9223372036854775807<t.length+(y.length+1):=by omega
     clear hy ht
     go_wp2_with fail
     go_round
     case rel=>exact ⟨k+1,by omega,by rw[HT.out];congr 1,by go_num⟩
     case measure=>simp[intOf];omega
   · obtain rfl:k=xs.length:=by omega
     have b1 : ¬ (xs.length:Int)<(xs.length:Int):=by omega
     go_wp2_with fail
     go_ret
     exact ⟨rfl,rfl⟩
theorem X0:∀ {a b:S},bytesBefore a b=true→a<b
 | [],[],h=>by simp[bytesBefore] at h
 | [],_::_,_=>List.nil_lt_cons _ _
 | _::_,[],h=>by simp[bytesBefore] at h
 | a::r,b::s,h=>by
   simp only[bytesBefore,Bool.or_eq_true,decide_eq_true_eq,Bool.and_eq_true,beq_iff_eq] at h
   rw[List.cons_lt_cons_iff]
   rcases h with h | ⟨rfl,h⟩
   · exact .inl h
   · exact .inr ⟨rfl,X0 h⟩
theorem abe {a b:S} (h:bytesBefore a b=true):Go.leB a b=true:=by
 unfold Go.leB
 rw[decide_eq_true_eq]
 exact List.le_of_lt (X0 h)
theorem bN {w:World} {B B' e size n:Nat} {v:Value} {xs:List Value} (h:w.ownsRow B' e size v n xs) (hB:B≤B'):w.ownsRow B e size v n xs:=by
 refine ⟨h.1,?_⟩
 rcases h.2 with hn | ⟨g,cap,cur,hv,hg,rest⟩
 · exact .inl hn
 · exact .inr ⟨g,cap,cur,hv,by omega,rest⟩
def keysOf {α:Type} (E:VM α):List S:=E.map (·.1)
theorem jB (E:VM Value):Go.strKeys (Hv.rU E)=keysOf E:=by
 unfold Hv.rU Go.strKeys keysOf
 show List.map (fun p=>strOf p.1) (E.map fun p=>(Lit.string p.1,DataW.held p.2))=_
 rw[List.map_map]
 rfl
theorem jW {E:VM Value} (h:Hv.aM E) {ss:List S} (hp:ss.Perm (Go.strKeys (Hv.rU E))):(ss.mergeSort fun x y=>decide (x≤y))=keysOf E:=by
 have h1:=Go.mergeSort_of_perm hp
 rw[jB] at h1
 have h2:(keysOf E).Pairwise fun a b=>Go.leB a b=true:=by
   unfold keysOf
   rw[List.pairwise_map]
   exact h.imp fun q=>abe q
 have h3:=List.mergeSort_of_pairwise h2
 rw[h3] at h1
 exact h1
theorem xD (mb pm fm:Nat) (P F:VM Value) (hn:P.length≤1000000) (w:World) (h:aK mb pm fm P F w) :
   Calls Tryz.prog 71 #[.pointer (some ⟨mb,0,none⟩)] w fun e w'=>∃ v,e = .returned v∧w'.ownsRow w.heap.size 9 1 v (keysOf P).length ((keysOf P).map aO)∧Below w.heap.size w w':=by
 have m0:=(ah h.blk 0).trans (show _=some (.map (some pm)) from rfl)
 have HM:=hide h
 clear h
 go_enter Tryz.func71,Tryz.ntmps71
 go_wp2_with fail
 refine (callsIn_wide.1 (Tryz.maps_Keys_135 (some pm) w)).mono ?_
 rintro e w1 ⟨rfl,rfl⟩
 go_wp2_with fail
 refine (callsIn_wide.1 (Tryz.slices_Sorted_keys_72_135 pm P.length (Hv.rU P) Hv.hR w HM.out.packs.2 (by rw[Hv.gZ];unfold maxLen;omega) (by rw[Hv.gZ];omega))).mono ?_
 rintro e w2 ⟨v,ss,rfl,hS,hrow, -,hb⟩
 have hk:=jW HM.out.packs.1 hS
 have hl:ss.length=(keysOf P).length:=by rw[hS.length_eq,jB]
 rw[hk,hl] at hrow
 have HR:=hide hrow
 have HB:=hide (((Below.refl w.heap.size w).alloc (Nat.le_refl _) (.cells #[.map (some pm)] 86)).trans (hb.mono (by simp)))
 clear hrow hb hk hl hS
 go_wp2_with fail
 go_ret
 exact ⟨v,rfl,bN HR.out (by simp),HB.out⟩
theorem fE {w:World} {b j:Nat} (h:b<w.heap.size) (o:Obj):(w.alloc o).cell? ⟨b,j,none⟩=w.cell? ⟨b,j,none⟩:=World.cell?_of_block (a:=⟨b,j,none⟩) (Below.heap_alloc w o b h)
theorem oI (b:Nat) (E:VM Value) (w:World) (h:MapAt w b E):Calls Tryz.prog 174 #[.map (some b)] w fun e w'=>e = .returned (.map (some w.heap.size))∧MapAt w' w.heap.size E∧Below w.heap.size w w':=by
 refine (AnyW.maps_Clone_owns Tryz.clone174 9 Hv.hR b E.length (Hv.rU E) w h.2).mono ?_
 rintro e w' ⟨rfl,h1, -,h3⟩
 exact ⟨rfl,⟨h.1,h1⟩,h3⟩
theorem Aw (b:Nat) (E:VM Value) (w:World) (h:MapAt w b E):Calls Tryz.prog 146 #[.map (some b)] w fun e w'=>e = .returned (.map (some w.heap.size))∧MapAt w' w.heap.size E∧Below w.heap.size w w':=by
 refine (AnyW.maps_Clone_owns Tryz.clone146 9 Hv.hR b E.length (Hv.rU E) w h.2).mono ?_
 rintro e w' ⟨rfl,h1, -,h3⟩
 exact ⟨rfl,⟨h.1,h1⟩,h3⟩
theorem KA (mb pm fm:Nat) (P F:VM Value) (w:World) (h:aK mb pm fm P F w) :
   Calls Tryz.prog 131 #[.pointer (some ⟨mb,0,none⟩)] w fun e w'=>∃ mb' VA Vt,e = .returned (.pointer (some ⟨mb',0,none⟩))∧aK mb' VA Vt P F w'∧w.heap.size≤mb'∧w.heap.size≤VA∧w.heap.size≤Vt∧Below w.heap.size w w':=by
 have m0:=(ah h.blk 0).trans (show _=some (.map (some pm)) from rfl)
 have m1:=(ah h.blk 1).trans (show _=some (.map (some fm)) from rfl)
 have hml:=blt h.blk
 have HM:=hide h
 clear h
 go_enter Tryz.func131,Tryz.ntmps131
 go_wp2_with fail
 go_region_held3 (fun w'=>w'.cell? ⟨mb,0,none⟩=some (.map (some pm))∧w'.cell? ⟨mb,1,none⟩=some (.map (some fm)))
   (first | assumption | exact ⟨m0,m1⟩ | exact ⟨n0,n1⟩ | exact ⟨k0,k1⟩ | exact ⟨(fE hm2 _).trans k0,(fE hm2 _).trans k1⟩ | simp[go_sem, *])
   (first
     | (go_at_call 174;refine (oI pm P _ HM.out.packs.drew).mono ?_;rintro e w1 ⟨rfl,hp1,hb1⟩;have kJ:=hide ((show aK mb pm fm P F w.drew from ⟨HM.out.blk,HM.out.packs.drew,HM.out.files.drew,HM.out.apart⟩).below hb1);have jD:=hide hp1;have HB1:=hide (show Below w.heap.size w w1 from ⟨hb1.os,hb1.tape,hb1.output,hb1.size,hb1.block⟩);have n0:=(ah kJ.out.blk 0).trans (show _=some (.map (some pm)) from rfl);have n1:=(ah kJ.out.blk 1).trans (show _=some (.map (some fm)) from rfl);clear hp1 hb1)
     | (go_at_call 146;refine (Aw fm F w1 kJ.out.files).mono ?_;rintro e w2 ⟨rfl,hp2,hb2⟩;have wK:=hide (kJ.out.below hb2);have mP:=hide (jD.out.below hb2);have CQ:=hide hp2;have HB2:=hide (HB1.out.trans (hb2.mono HB1.out.size));have hl12:=jD.out.lt;have hm2:=blt wK.out.blk;have k0:=(ah wK.out.blk 0).trans (show _=some (.map (some pm)) from rfl);have k1:=(ah wK.out.blk 1).trans (show _=some (.map (some fm)) from rfl);clear hp2 hb2))
 all_goals go_wp2_with fail
 all_goals go_ret
 all_goals exact ⟨w2.heap.size,w.heap.size,w1.heap.size,rfl,⟨heap_alloc_new w2 _,mP.out.alloc _,CQ.out.alloc _,by have h1:w1.heap.size<w2.heap.size:=CQ.out.lt;have h2:w.heap.size<w1.heap.size:=jD.out.lt;omega⟩,by have:=HB2.out.size;omega,by omega,by have:=HB1.out.size;omega,HB2.out.alloc HB2.out.size _⟩
namespace Hv
theorem eZ {α:Type} (E:VM α) (k:S) (v:α):(put E k v).length≤E.length+1:=by
 unfold put del
 rw[FM]
 have:=List.length_filter_le (fun p:S × α => !(p.1==k)) E
 omega
def merge {α:Type} (E G:VM α):VM α:=G.foldl (fun e p=>put e p.1 p.2) E
theorem iO {α:Type}:∀ (G E:VM α),aM E→aM (merge E G)
 | [],_,h=>h
 | p::G,E,h=>iO G (put E p.1 p.2) (h.put _ _)
theorem iN {α:Type}:∀ (G E:VM α),aM E→aM G→∀ k,get (merge E G) k=(get G k).orElse fun _=>get E k
 | [],E,_,_,k=>by simp[merge,get]
 | p::G,E,h,hg,k=>by
   obtain ⟨g1,g2⟩:=List.pairwise_cons.1 hg
   have e:merge E (p::G)=merge (put E p.1 p.2) G:=rfl
   rw[e,iN G _ (h.put _ _) g2 k]
   by_cases hk:k=p.1
   · subst hk
     have h1:get G p.1=none:=get_none.2 fun q hq e=>by have:=g1 q hq;rw[e,dL] at this;cases this
     rw[h1,aD h]
     have h2:get (p::G) p.1=some p.2:=(get_some hg).2 (by simp)
     rw[h2]
     rfl
   · rw[av h p.2 hk]
     have h2:get (p::G) k=get G k:=by
       unfold get
       rw[List.find?_cons_of_neg (by simpa using fun e=>hk e.symm)]
     rw[h2]
end Hv
def MU (E G:VM Value) (left:S→Bool) (Ec:VM Value):Prop:=∀ k,Hv.get Ec k=if Hv.has G k=true∧left k=false then Hv.get G k else Hv.get E k
theorem Oy (bd bs:Nat) (E G:VM Value) (hG:∀ k v,Hv.get G k=some v→∃ p:Pk,v=p.val) (w:World) (hd:MapAt w bd E) (hs:MapAt w bs G) (hne:bd≠bs) (hroom:E.length+G.length≤1000000) :
   Calls Tryz.prog 175 #[.map (some bd), .map (some bs)] w fun e w'=>∃ u,e = .returned u∧MapAt w' bd (Hv.merge E G)∧aQ w.heap.size (fun q=>q=bd) w w':=by
 have hbd:=hd.lt
 have hbs:=hs.lt
 have HS:=hide hs;have HD:=hide hd;have HG:=hide hG
 clear hs hd hG
 go_enter Tryz.func175,Tryz.ntmps175
 go_wp2_with (first
   | (at_range;refine eH rfl _ 86 rfl 156 Tryz.underlying86 HS.out rfl ?_;intro w0 hrg0 hg0 hs0;have QT:=hide hrg0;have HD0:=hide (HD.out.kept (hg0.block bd hbd (by simp)));have iV:=hide ((aQ.refl w.heap.size (fun q=>q=bd) w).grown hg0 (Nat.le_refl _) (fun q hq=>by cases hq));clear hrg0 hg0))
 go_frame
 go_loopw [4] (fun _ wr=>∃ (left:S→Bool) (cnt:Nat) (Ec:VM Value),Hid (bE wr bs w.heap.size G left cnt)∧Ec.length+cnt≤E.length+G.length∧Hid (MapAt wr bd Ec)∧Hid (MU E G left Ec)∧Hid (∀ k,left k=true→Hv.has G k=true)∧Hid (aQ w.heap.size (fun q=>q=bd) w wr)∧w.heap.size<wr.heap.size)
   (fun _ wr=>wr.rangeLeft bs w.heap.size)
 case atStart=>exact ⟨_,_,E,QT,Nat.le_refl _,HD0,hide (fun k=>by by_cases h:Hv.has G k=true<;>simp[h]),hide (fun k h=>h),iV,by omega⟩
 case round =>
   clear QT HD0 iV
   obtain ⟨left,cnt,Ec,HR,hcs,HE,HM,HL,HF,hsz⟩:=hrel
   go_wp2_with (first
     | (at_next;refine gG rfl _ rfl w.heap.size left cnt rfl HR.out ?_ ?_))
   · intro hc0 hl0
     go_wp2_with fail
     go_end0
     have e:Ec=Hv.merge E G:=HE.out.1.dD (Hv.iO G E HD.out.1) (fun k=>by
       rw[Hv.iN G E HD.out.1 HS.out.1 k,HM.out k,hl0 k,Hv.aB]
       cases Hv.get G k<;>simp)
     rw[← e]
     exact ⟨_,rfl,HE.out,HF.out⟩
   · intro k v w1 cnt1 hk hlk hget hrg1 hlt hg1 hs1 hen
     obtain ⟨p,rfl⟩:=HG.out k v hget
     have HR1:=hide hrg1
     have kU:=hide (HE.out.kept (hg1.block bd HE.out.lt (by simp;omega)))
     have eO:=hide (HF.out.grown hg1 (by omega) (fun q hq=>by cases hq;exact .inl (Nat.le_refl _)))
     have HGT:=hide hget
     clear hrg1 hg1 hget
     have HPV:=hide (show Value.agg p.cells=p.val from rfl)
     simp only[Pk.val,Pk.cells] at hen ⊢
     have hE2:=kU.out.alloc (.cells p.cells 156)
     have hws:w1.heap.size=wr.heap.size:=hs1
     go_wp2_with (first
       | (at_mapUpdate;refine mK rfl _ _ _ 86 rfl 156 Tryz.underlying86 hE2 (by unfold maxLen;omega) rfl k hk rfl p.val rfl ?_;intro w2 Vu ht2;go_frame))
     have hf2:=aX ht2
     have HR2:Hid (bE w2 bs w.heap.size G (fun z=>left z && !(z==k)) cnt1):=hide ⟨HR1.out.1,(HR1.out.2.alloc (.cells p.cells 156)).kept ht2.grown (fun e=>hne (Option.some.inj e).symm) (fun e=>by have:=Option.some.inj e;omega)⟩
     have zQ:=hide Vu
     have iU:=hide ((eO.out.alloc (by omega) (.cells p.cells 156)).next hf2 (by simp;omega) (fun _ _ q=>q))
     have hs2:=hf2.size
     simp at hs2
     have Rh:Hid (MU E G (fun z=>left z && !(z==k)) (Hv.put Ec k p.val)):=hide (fun k'=>by
       by_cases hkk:k'=k
       · subst hkk
         rw[Hv.aD HE.out.1]
         have h1:Hv.has G k'=true:=by rw[Hv.aB,HGT.out];rfl
         simp[h1,HGT.out]
       · rw[Hv.av HE.out.1 _ hkk,HM.out k']
         have:(left k' && !(k'==k))=left k':=by simp[hkk]
         simp only[this])
     have hlen:=Hv.eZ Ec k p.val
     have XM:Hid (∀ z,(left z && !(z==k))=true→Hv.has G z=true):=hide (fun z hz=>HL.out z (by simp at hz;exact hz.1))
     clear Vu ht2 hf2 hE2
     go_roundw
     case rel=>exact ⟨_,cnt1,_,HR2,by omega,zQ,Rh,XM,iU,by omega⟩
     case measure=>rw[HR2.out.2.left_eq,HR.out.2.left_eq];exact hlt
namespace Hv
def cut {α β:Type} (E:VM α) (R:VM β):VM α:=R.foldl (fun e p=>del e p.1) E
theorem iK {α β:Type}:∀ (R:VM β) (E:VM α),aM E→aM (cut E R)
 | [],_,h=>h
 | p::R,E,h=>iK R (del E p.1) (h.del _)
theorem kZ {α β:Type}:∀ (R:VM β) (E:VM α),aM E→∀ k,get (cut E R) k=if has R k=true then none else get E k
 | [],E,_,k=>by simp[cut,has]
 | p::R,E,h,k=>by
   have e:cut E (p::R)=cut (del E p.1) R:=rfl
   rw[e,kZ R _ (h.del _) k]
   by_cases hk:k=p.1
   · subst hk
     rw[bn]
     have:has (p::R) p.1=true:=by simp[has]
     rw[if_pos this]
     split<;>rfl
   · rw[aV h hk]
     have:has (p::R) k=has R k:=by
       unfold has
       rw[List.any_cons]
       have:(p.1==k)=false:=by simpa using fun e=>hk e.symm
       rw[this];simp
     rw[this]
theorem Fe {α β:Type}:∀ (R:VM β) (E:VM α),(cut E R).length≤E.length
 | [],_=>Nat.le_refl _
 | p::R,E=>Nat.le_trans (Fe R (del E p.1)) (List.length_filter_le _ _)
theorem Fh {α:Type} (E:VM α) (k:S):(del E k).length≤E.length:=List.length_filter_le _ _
end Hv
def Q5 (E:VM Value):Prop:=∀ k v,Hv.get E k=some v→∃ p:Pk,v=p.val
def ku (E:VM Value):Prop:=∀ k v,Hv.get E k=some v→v = .agg #[]
def pF (P R I:VM Value):VM Value:=Hv.merge (Hv.cut P R) I
def Cutting (E R:VM Value) (left:S→Bool) (Ec:VM Value):Prop:=∀ k,Hv.get Ec k=if Hv.has R k=true∧left k=false then none else Hv.get E k
theorem JW (pm rm im:Nat) (P R I:VM Value) (hR:ku R) (hI:Q5 I) (w:World) (hp:MapAt w pm P) (hr:MapAt w rm R) (hi:MapAt w im I) (hroom:P.length+I.length≤1000000) :
   Calls Tryz.prog 118 #[.agg #[.map (some rm), .map (some im)], .map (some pm)] w fun e w'=>∃ tm,e = .returned (.map (some tm))∧MapAt w' tm (pF P R I)∧w.heap.size≤tm∧Below w.heap.size w w':=by
 have hrl:=hr.lt
 have hil:=hi.lt
 have HP:=hide hp;have HR:=hide hr;have HI:=hide hi
 have hrow:=heap_alloc_new w (.cells #[.map (some rm), .map (some im)] 135)
 have hsz:(w.alloc (.cells #[.map (some rm), .map (some im)] 135)).heap.size=w.heap.size+1:=by simp
 clear hp hr hi
 go_enter Tryz.func118,Tryz.ntmps118
 go_wp2_with fail
 refine (oI pm P _ (HP.out.alloc _)).mono ?_
 rintro e w1 ⟨rfl,hc1,hb1⟩
 have hW1:=(hb1.block w.heap.size (by simp)).trans hrow
 have zP:=hide hc1
 have HR1:=hide ((HR.out.alloc (.cells #[.map (some rm), .map (some im)] 135)).below hb1)
 have HI1:=hide ((HI.out.alloc (.cells #[.map (some rm), .map (some im)] 135)).below hb1)
 have HB1:=hide (((Below.refl w.heap.size w).alloc (Nat.le_refl _) (.cells #[.map (some rm), .map (some im)] 135)).trans (hb1.mono (by simp)))
 have c0:=(ah hW1 0).trans (show _=some (.map (some rm)) from rfl)
 have HW1:=hide hW1
 have hcl:=hc1.lt
 rw[hsz] at zP hcl ⊢
 clear hrow hc1 hb1 hW1
 go_wp2_with (first
   | (at_range;refine eH rfl _ 133 rfl 53 Tryz.underlying133 HR1.out rfl ?_;intro w2 hrg0 hg0 hs0;have nP:=hide hrg0;have jc:=hide (zP.out.kept (hg0.block _ hcl (by simp)));have HI2:=hide (HI1.out.kept (hg0.block im HI1.out.lt (by simp)));have HW2:=hide ((hg0.block w.heap.size (by omega) (by simp)).trans HW1.out);have HB2:=hide (HB1.out.grown hg0 HB1.out.size (fun q hq=>by cases hq));clear hrg0 hg0))
 go_frame
 go_loopw [6] (fun _ wr=>∃ (left:S→Bool) (cnt:Nat) (Ec:VM Value),Hid (bE wr rm w1.heap.size R left cnt)∧Ec.length≤P.length∧Hid (MapAt wr (w.heap.size+1) Ec)∧Hid (Cutting P R left Ec)∧Hid (MapAt wr im I)∧Hid (wr.heap[w.heap.size]? = some (.cells #[.map (some rm), .map (some im)] 135 (0,0)))∧Hid (Below w.heap.size w wr)∧w1.heap.size<wr.heap.size)
   (fun _ wr=>wr.rangeLeft rm w1.heap.size)
 case atStart=>exact ⟨_,_,P,nP,Nat.le_refl _,jc,hide (fun k=>by by_cases h:Hv.has R k=true<;>simp[h]),HI2,HW2,HB2,by omega⟩
 case round =>
   clear nP jc HI2 HW2 HB2 c0
   obtain ⟨left,cnt,Ec,HG,hcs,HE,HM,HI3,HW3,HB3,abV⟩:=hrel
   go_wp2_with (first
     | (at_next;refine gG rfl _ rfl w1.heap.size left cnt rfl HG.out ?_ ?_))
   · intro hc0 hl0
     have c1:=(ah HW3.out 1).trans (show _=some (.map (some im)) from rfl)
     have e:Ec=Hv.cut P R:=HE.out.1.dD (Hv.iK R P HP.out.1) (fun k=>by
       rw[Hv.kZ R P HP.out.1 k,HM.out k,hl0 k]
       simp)
     subst e
     go_wp2_with fail
     refine (Oy (w.heap.size+1) im (Hv.cut P R) I hI wr HE.out HI3.out (by omega) (by omega)).mono ?_
     rintro e w4 ⟨u,rfl,QW,lF⟩
     have uV:=hide QW
     have iI:=hide (HB3.out.trans (lF.toBelow HB3.out.size (fun k hk (q:k=w.heap.size+1)=>by omega)))
     clear QW lF
     go_wp2_with fail
     go_ret
     exact ⟨_,rfl,uV.out,by omega,iI.out⟩
   · intro k v w4 cnt1 hk hlk hget hrg1 hlt hg1 hs1 hen
     obtain rfl:=hR k v hget
     have oC:=hide hrg1
     have hE1:=HE.out.kept (hg1.block _ HE.out.lt (by simp;omega))
     have HI4:=hide (HI3.out.kept (hg1.block im HI3.out.lt (by simp;omega)))
     have HW4:=hide ((hg1.block w.heap.size (by omega) (by simp;omega)).trans HW3.out)
     have iI:=hide (HB3.out.grown hg1 HB3.out.size (fun q hq=>by cases hq;omega))
     have HGT:=hide hget
     clear hrg1 hg1 hget
     go_wp2_with (first
       | (at_delete;refine NR rfl _ _ 86 rfl 156 Tryz.underlying86 hE1 rfl k hk rfl ?_;intro w5 hE2 ht2;go_frame))
     have hf2:=aX ht2
     have HR2:Hid (bE w5 rm w1.heap.size R (fun z=>left z && !(z==k)) cnt1):=hide ⟨oC.out.1,oC.out.2.kept ht2.grown (fun e=>by have:=Option.some.inj e;omega) (fun e=>by have:=Option.some.inj e;omega)⟩
     have zQ:=hide hE2
     have hs4:w4.heap.size=wr.heap.size:=hs1
     have NW:=hide (HI4.out.kept (hf2.block im HI4.out.lt (fun q=>by omega)))
     have HW5:=hide ((hf2.block w.heap.size (by omega) (fun q=>by omega)).trans HW4.out)
     have kN:=hide (iI.out.trans (hf2.toBelow iI.out.size (fun q hq (e:q=w.heap.size+1)=>by omega)))
     have hs5:=hf2.size
     have Rh:Hid (Cutting P R (fun z=>left z && !(z==k)) (Hv.del Ec k)):=hide (fun k'=>by
       by_cases hkk:k'=k
       · subst hkk
         rw[Hv.bn]
         have h1:Hv.has R k'=true:=by rw[Hv.aB,HGT.out];rfl
         simp[h1]
       · rw[Hv.aV HE.out.1 hkk,HM.out k']
         have:(left k' && !(k'==k))=left k':=by simp[hkk]
         simp only[this])
     have hlen:=Hv.Fh Ec k
     clear hE2 ht2 hf2 hE1
     go_roundw
     case rel=>exact ⟨_,cnt1,_,HR2,by omega,zQ,Rh,NW,HW5,kN,by omega⟩
     case measure=>rw[HR2.out.2.left_eq,HG.out.2.left_eq];exact hlt
def qP (P R:VM Value):Bool:=R.any fun p => !Hv.has P p.1
theorem Oc {P R:VM Value} (h:∀ k,Hv.has R k=true→Hv.has P k=true):qP P R=false:=by
 unfold qP
 rw[List.any_eq_false]
 intro p hp
 have:Hv.has R p.1=true:=List.any_eq_true.2 ⟨p,hp,by simp⟩
 simp[h p.1 this]
theorem Kt {P R:VM Value} {k:S} (h:Hv.has R k=true) (hk:Hv.has P k=false):qP P R=true:=by
 obtain ⟨p,hp,e⟩:=List.any_eq_true.1 h
 simp only[beq_iff_eq] at e
 exact List.any_eq_true.2 ⟨p,hp,by rw[e,hk];rfl⟩
theorem wC (pm rm im:Nat) (P R:VM Value) (hP:Q5 P) (hR:ku R) (w:World) (hp:MapAt w pm P) (hr:MapAt w rm R) :
   Calls Tryz.prog 119 #[.map (some pm), .agg #[.map (some rm), .map (some im)]] w fun e w'=>e = .returned (.bool (qP P R))∧Below w.heap.size w w':=by
 have hpl:=hp.lt
 have hrl:=hr.lt
 have HP:=hide hp;have HR:=hide hr
 clear hp hr
 go_enter Tryz.func119,Tryz.ntmps119
 have hr1:=HR.out.alloc (.cells #[.map (some rm), .map (some im)] 135)
 have hp1:=HP.out.alloc (.cells #[.map (some rm), .map (some im)] 135)
 go_wp2_with (first
   | (at_range;refine eH rfl _ 133 rfl 53 Tryz.underlying133 hr1 rfl ?_;intro w0 hrg0 hg0 hs0;have nP:=hide hrg0;have DL:=hide (hp1.kept (hg0.block pm hp1.lt (by simp)));have HB0:=hide (((Below.refl w.heap.size w).alloc (Nat.le_refl _) (.cells #[.map (some rm), .map (some im)] 135)).grown hg0 (by simp) (fun q hq=>by cases hq));clear hrg0 hg0))
 have hsz:(w.alloc (.cells #[.map (some rm), .map (some im)] 135)).heap.size=w.heap.size+1:=by simp
 rw[hsz] at nP hs0 ⊢
 go_frame
 go_loopw [5] (fun _ wr=>∃ (left:S→Bool) (cnt:Nat),Hid (bE wr rm (w.heap.size+1) R left cnt)∧Hid (MapAt wr pm P)∧Hid (∀ k,Hv.has R k=true→left k=true∨Hv.has P k=true)∧Hid (Below w.heap.size w wr)∧w.heap.size+1<wr.heap.size)
   (fun _ wr=>wr.rangeLeft rm (w.heap.size+1))
 case atStart=>exact ⟨_,_,nP,DL,hide (fun k h => .inl h),HB0,by omega⟩
 case round =>
   clear nP DL HB0 hr1 hp1
   obtain ⟨left,cnt,HG,jD,HL,HB,hsz1⟩:=hrel
   go_wp2_with (first
     | (at_next;refine gG rfl _ rfl (w.heap.size+1) left cnt rfl HG.out ?_ ?_))
   · intro hc0 hl0
     go_wp2_with fail
     go_ret
     rw[Oc (fun k h=>(HL.out k h).resolve_left (by rw[hl0 k];simp))]
     exact ⟨rfl,HB.out⟩
   · intro k v w4 cnt1 hk hlk hget hrg1 hlt hg1 hs1 hen
     obtain rfl:=hR k v hget
     have oC:=hide hrg1
     have X8:=jD.out.kept (hg1.block pm jD.out.lt (by simp;omega))
     have iI:=hide (HB.out.grown hg1 HB.out.size (fun q hq=>by cases hq;omega))
     have hRk:Hv.has R k=true:=by rw[Hv.aB,hget];rfl
     have hs4:w4.heap.size=wr.heap.size:=hs1
     clear hrg1 hg1 hget
     cases hq:Hv.get P k with
     | none =>
       have wL:Hv.has P k=false:=by rw[Hv.aB,hq];rfl
       go_wp2_with (first
         | (at_lookup;refine bQ rfl _ _ 86 rfl 156 Tryz.underlying86 (bU _) X8 rfl k hk rfl ?_;rw[hq,wL];simp only[Option.getD_none]))
       go_ret
       rw[Kt hRk wL]
       exact ⟨rfl,iI.out.alloc iI.out.size _⟩
     | some u =>
       obtain ⟨p,rfl⟩:=hP k u hq
       have wL:Hv.has P k=true:=by rw[Hv.aB,hq];rfl
       go_wp2_with (first
         | (at_lookup;refine bQ rfl _ _ 86 rfl 156 Tryz.underlying86 (bU _) X8 rfl k hk rfl ?_;rw[hq,wL];simp only[Option.getD_some,Pk.val,Pk.cells]))
       have HG2:Hid (bE (w4.alloc (.cells p.cells 156)) rm (w.heap.size+1) R (fun z=>left z && !(z==k)) cnt1):=hide ⟨oC.out.1,oC.out.2.alloc _⟩
       go_roundw
       case rel=>exact ⟨_,cnt1,HG2,hide (X8.alloc _),hide (fun k' h'=>by
         rcases HL.out k' h' with q | q
         · by_cases e:k'=k
           · subst e;exact .inr wL
           · exact .inl (by simp[q,e])
         · exact .inr q),hide (iI.out.alloc iI.out.size _),by simp;omega⟩
       case measure=>show (w4.alloc (.cells p.cells 156)).rangeLeft rm (w.heap.size+1)<_;rw[HG2.out.2.left_eq,HG.out.2.left_eq];exact hlt
theorem zi (x y:S) (hx:aC.fine x=true) (hy:aC.fine y=true) (w:World) :
   Calls Tryz.prog 176 #[.string ⟨x.toArray⟩, .string ⟨y.toArray⟩] w fun e w'=>e = .returned (.int .i64 (aC.compare x y).1)∧Below w.heap.size w w':=by
 rw[AQ hx hy]
 obtain ⟨l1,l2,l3⟩:=oZ hx
 obtain ⟨m1,m2,m3⟩:=oZ hy
 have HX:=hide (fun w=>mh x hx w)
 have HY:=hide (fun w=>mh y hy w)
 obtain ⟨e1,hsx⟩:∃ v,aC.eG x=v:=⟨_,rfl⟩
 obtain ⟨e2,hsy⟩:∃ v,aC.eG y=v:=⟨_,rfl⟩
 rw[hsx] at HX l1 l2 l3 ⊢
 rw[hsy] at HY m1 m2 m3 ⊢
 obtain ⟨a1,a2,a3⟩:=e1
 obtain ⟨b1,b2,b3⟩:=e2
 simp only at HX HY l1 l2 l3 m1 m2 m3
 clear hsx hsy hx hy
 go_enter Tryz.func176,Tryz.ntmps176
 go_wp2_with fail
 refine (HX.out _).mono ?_
 rintro e w1 ⟨rfl,hb1⟩
 have HB1:=hide hb1
 clear hb1
 go_wp2_with fail
 have hrow:=heap_alloc_new w1 (.cells #[.string ⟨a1.toArray⟩, .string ⟨a2.toArray⟩, .string ⟨a3.toArray⟩] 79)
 refine (HY.out _).mono ?_
 rintro e w2 ⟨rfl,hb2⟩
 have hr2:=(hb2.block w1.heap.size (by simp)).trans hrow
 have HB2:=hide ((HB1.out.alloc HB1.out.size (.cells #[.string ⟨a1.toArray⟩, .string ⟨a2.toArray⟩, .string ⟨a3.toArray⟩] 79)).trans (hb2.mono (by have:=HB1.out.size;simp;omega)))
 have hr3:=(Below.heap_alloc w2 (.cells #[.string ⟨b1.toArray⟩, .string ⟨b2.toArray⟩, .string ⟨b3.toArray⟩] 79) w1.heap.size (blt hr2)).trans hr2
 have c0:=(ah hr3 0).trans (show _=some (.string ⟨a1.toArray⟩) from rfl)
 have c1:=(ah hr3 1).trans (show _=some (.string ⟨a2.toArray⟩) from rfl)
 have c2:=(ah hr3 2).trans (show _=some (.string ⟨a3.toArray⟩) from rfl)
 clear hrow hb2 hr2 hr3
 go_wp2_with fail
 refine (JZ a1 a2 a3 b1 b2 b3 l1 l2 l3 m1 m2 m3 _).mono ?_
 rintro e w3 ⟨rfl,hb3⟩
 have HB3:=hide ((HB2.out.alloc HB2.out.size _).trans (hb3.mono (by have:=HB2.out.size;simp;omega)))
 clear hb3
 go_wp2_with fail
 go_ret
 exact ⟨rfl,HB3.out⟩
end
end Go.Proofs.YtialenebfcnkkaaGreatDoor
