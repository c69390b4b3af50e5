/- EngW1, EngW2, EngW3, MchW1, MchW2, KeyW1, KeyW2, KeyW3, KeyW4, RulW1, RulW2 -/
import Derived.Test.YtialenebfcnkkaaGreatDoorWokJ10
import Derived.LoopTactic
import Derived.Carry
import Derived.Deep.RegionHeld3
import Derived.Test.YtialenebfcnkkaaGreatDoorWokJ2
import Derived.Test.YtialenebfcnkkaaGreatDoorWokJ4
set_option maxHeartbeats 4000000
set_option maxRecDepth 100000
namespace Go.Proofs.YtialenebfcnkkaaGreatDoor
section
open Go.RowKit
open Hv (S Dk VM)
theorem decode_none (w:World):Calls Tryz.prog 89 #[.string ⟨([]:S).toArray⟩] w fun e w'=>e = .returned (.tuple #[.agg #[.slice none 0 0, .slice none 0 0, .slice none 0 0], .bool true])∧Below w.heap.size w w':=by
 have hrow:=heap_alloc_new w (.cells #[.slice none 0 0, .slice none 0 0, .slice none 0 0] 98)
 go_enter Tryz.func89,Tryz.ntmps89
 go_wp2_with fail
 have h2:=heap_alloc_new (w.alloc (.cells #[.slice none 0 0, .slice none 0 0, .slice none 0 0] 98)) (.cells #[.slice none 0 0, .slice none 0 0, .slice none 0 0] 98)
 have h1:=(Below.heap_alloc (w.alloc (.cells #[.slice none 0 0, .slice none 0 0, .slice none 0 0] 98)) (.cells #[.slice none 0 0, .slice none 0 0, .slice none 0 0] 98) w.heap.size (by simp)).trans hrow
 have HB:=hide (((Below.refl w.heap.size w).alloc (Nat.le_refl _) (.cells #[.slice none 0 0, .slice none 0 0, .slice none 0 0] 98)).alloc (by simp) (.cells #[.slice none 0 0, .slice none 0 0, .slice none 0 0] 98))
 obtain ⟨u,hu⟩:∃ u,(w.alloc (.cells #[.slice none 0 0, .slice none 0 0, .slice none 0 0] 98)).alloc (.cells #[.slice none 0 0, .slice none 0 0, .slice none 0 0] 98)=u:=⟨_,rfl⟩
 have h2':u.heap[w.heap.size+1]? = some (.cells #[.slice none 0 0, .slice none 0 0, .slice none 0 0] 98 (0,0)):=by rw[← hu];simpa using h2
 rw[hu] at h1 HB ⊢
 have c0:=(row_cell h2' 0).trans (show _=some (.slice none 0 0) from rfl)
 have c1:=(row_cell h2' 1).trans (show _=some (.slice none 0 0) from rfl)
 have c2:=(row_cell h2' 2).trans (show _=some (.slice none 0 0) from rfl)
 have d0:=(row_cell h1 0).trans (show _=some (.slice none 0 0) from rfl)
 have d1:=(row_cell h1 1).trans (show _=some (.slice none 0 0) from rfl)
 have d2:=(row_cell h1 2).trans (show _=some (.slice none 0 0) from rfl)
 have f0:=row_free h1 0
 have f1:=row_free h1 1
 have f2:=row_free h1 2
 have hR4:=heap_setCell_same _ w.heap.size 2 _ _ (.slice none 0 0) (heap_setCell_same _ w.heap.size 1 _ _ (.slice none 0 0) (heap_setCell_same _ w.heap.size 0 _ _ (.slice none 0 0) h1))
 have n0:=(row_cell hR4 0).trans (show _=some (.slice none 0 0) from rfl)
 have n1:=(row_cell hR4 1).trans (show _=some (.slice none 0 0) from rfl)
 have n2:=(row_cell hR4 2).trans (show _=some (.slice none 0 0) from rfl)
 clear hrow h2 h2' h1 hR4 hu
 go_loopw [0] (fun t wr=>t = .string ⟨#[]⟩∧wr=u) (fun _ _=>0)
 case atStart=>exact ⟨rfl,rfl⟩
 case round =>
   obtain ⟨rfl,rfl⟩:=hrel
   go_wp2_with fail
   refine bodyPost_ret (v := .tuple #[.agg #[.slice none 0 0, .slice none 0 0, .slice none 0 0], .bool true]) (by simp[results,Tryz.results89,go_sem,n0,n1,n2]) rfl ⟨rfl,?_⟩
   exact ((HB.out.setCell (Nat.le_refl _) _).setCell (Nat.le_refl _) _).setCell (Nat.le_refl _) _
structure MachAt (mb pm fm:Nat) (P F:VM Value) (w:World):Prop where
 blk:w.heap[mb]? = some (.cells #[.map (some pm), .map (some fm)] 141 (0,0))
 packs:MapAt w pm P
 files:MapAt w fm F
 apart:mb≠pm∧mb≠fm∧pm≠fm
theorem MachAt.below {mb pm fm:Nat} {P F:VM Value} {w w':World} (h:MachAt mb pm fm P F w) (hb:Below w.heap.size w w'):MachAt mb pm fm P F w':=⟨(hb.block mb (blt h.blk)).trans h.blk,h.packs.below hb,h.files.below hb,h.apart⟩
theorem mach_new (w:World):Calls Tryz.prog 158 #[] w fun e w'=>∃ mb pm fm,e = .returned (.pointer (some ⟨mb,0,none⟩))∧MachAt mb pm fm [] [] w'∧w.heap.size≤mb∧w.heap.size≤pm∧w.heap.size≤fm∧Below w.heap.size w w':=by
 have hmm := @run_makeMap Tryz.prog
 go_enter Tryz.func158,Tryz.ntmps158
 go_wp2_with fail
 go_ret
 refine ⟨w.heap.size+1+1,w.heap.size,w.heap.size+1,rfl,⟨?_,((MapAt.made w).alloc _).alloc _,?_,by omega,by omega,by omega⟩,by omega,by omega,by omega,(((Below.refl w.heap.size w).alloc (Nat.le_refl _) _).alloc (by simp) _).alloc (by simp;omega) _⟩
 · have:=heap_alloc_new ((w.alloc (.map #[] 0)).alloc (.map #[] 0)) (.cells #[.map (some w.heap.size), .map (some (w.heap.size+1))] 141)
   simpa using this
 · have:=(MapAt.made (w.alloc (.map #[] 0))).alloc (.cells #[.map (some w.heap.size), .map (some (w.heap.size+1))] 141)
   simpa using this
theorem restore_none (w:World):Calls Tryz.prog 90 #[.agg #[.slice none 0 0, .slice none 0 0, .slice none 0 0]] w fun e w'=>∃ mb pm fm,e = .returned (.tuple #[.pointer (some ⟨mb,0,none⟩), .bool true])∧MachAt mb pm fm [] [] w'∧w.heap.size≤mb∧w.heap.size≤pm∧w.heap.size≤fm∧Below w.heap.size w w':=by
 have hrow:=heap_alloc_new w (.cells #[.slice none 0 0, .slice none 0 0, .slice none 0 0] 98)
 have hsz:(w.alloc (.cells #[.slice none 0 0, .slice none 0 0, .slice none 0 0] 98)).heap.size=w.heap.size+1:=by simp
 go_enter Tryz.func90,Tryz.ntmps90
 go_wp2_with fail
 refine (mach_new _).mono ?_
 rintro e w1 ⟨mb,pm,fm,rfl,hm,h1,h2,h3,hb1⟩
 rw[hsz] at h1 h2 h3
 have hr1:=(hb1.block w.heap.size (by simp)).trans hrow
 have c0:=(row_cell hr1 0).trans (show _=some (.slice none 0 0) from rfl)
 have c1:=(row_cell hr1 1).trans (show _=some (.slice none 0 0) from rfl)
 have c2:=(row_cell hr1 2).trans (show _=some (.slice none 0 0) from rfl)
 have HM:=hide hm
 have HB1:=hide (((Below.refl w.heap.size w).alloc (Nat.le_refl _) (.cells #[.slice none 0 0, .slice none 0 0, .slice none 0 0] 98)).trans (hb1.mono (by simp)))
 clear hrow hm hb1 hr1
 go_wp2_with fail
 go_loopw [19] (fun i wr=>i = .int .i64 0∧wr=w1) (fun _ _=>0)
 case atStart=>exact ⟨rfl,rfl⟩
 case round =>
   obtain ⟨rfl,rfl⟩:=hrel
   go_wp2_with fail
   go_loopw [56] (fun i wr'=>i = .int .i64 0∧wr'=wr) (fun _ _=>0)
   case atStart=>exact ⟨rfl,rfl⟩
   case round =>
     obtain ⟨rfl,rfl⟩:=hrel
     go_wp2_with fail
     go_ret2
     exact ⟨mb,pm,fm,rfl,HM.out,by omega,by omega,by omega,HB1.out⟩
def EngB (eb:Nat) (s m st im wm dn:Value) (w:World):Prop:=w.heap[eb]? = some (.cells #[s,m,st,im,wm,dn] 95 (0,0))
theorem EngB.cells {eb:Nat} {s m st im wm dn:Value} {w:World} (h:EngB eb s m st im wm dn w):w.cell? ⟨eb,0,none⟩=some s∧w.cell? ⟨eb,1,none⟩=some m∧w.cell? ⟨eb,2,none⟩=some st∧w.cell? ⟨eb,3,none⟩=some im∧w.cell? ⟨eb,4,none⟩=some wm∧w.cell? ⟨eb,5,none⟩=some dn :=
 ⟨(row_cell h 0).trans rfl,(row_cell h 1).trans rfl,(row_cell h 2).trans rfl,(row_cell h 3).trans rfl,(row_cell h 4).trans rfl,(row_cell h 5).trans rfl⟩
theorem EngB.kept {eb:Nat} {s m st im wm dn:Value} {w w':World} (h:EngB eb s m st im wm dn w) (hb:w'.heap[eb]? = w.heap[eb]?):EngB eb s m st im wm dn w':=hb.trans h
theorem erestore_none (eb sb:Nat) (w:World) (h:EngB eb (.pointer (some ⟨sb,0,none⟩)) (.pointer none) (.slice none 0 0) (.map none) (.map none) (.int .i64 0) w) :
   Calls Tryz.prog 44 #[.pointer (some ⟨eb,0,none⟩), .agg #[.string ⟨([]:S).toArray⟩, .int .i64 0]] w fun e w'=>∃ mb pm fm,e = .returned (.bool true)∧MachAt mb pm fm [] [] w'∧w.heap.size≤mb∧w.heap.size≤pm∧w.heap.size≤fm ∧
     EngB eb (.pointer (some ⟨sb,0,none⟩)) (.pointer (some ⟨mb,0,none⟩)) (.slice none 0 0) (.map none) (.map none) (.int .i64 0) w'∧Far w.heap.size (fun k=>k=eb) w w':=by
 have hel:=blt h
 have HE:=hide h
 have hrow:=heap_alloc_new w (.cells #[.string ⟨([]:S).toArray⟩, .int .i64 0] 106)
 have HC:=hide hrow
 clear h hrow
 go_enter Tryz.func44,Tryz.ntmps44
 go_wp2_with fail
 refine (decode_none _).mono ?_
 rintro e w1 ⟨rfl,hb1⟩
 have hs1:w.heap.size+1≤w1.heap.size:=by have:=hb1.size;simpa using this
 have HC1:=hide ((hb1.block w.heap.size (by simp)).trans HC.out)
 have HE1:=hide (HE.out.kept ((hb1.block eb (by simp;omega)).trans (Below.heap_alloc _ _ _ hel)))
 have HF1:=hide (((Far.refl w.heap.size (fun k=>k=eb) w).alloc (Nat.le_refl _) (.cells #[.string ⟨([]:S).toArray⟩, .int .i64 0] 106)).below hb1 (by simp))
 clear hb1
 go_wp2_with fail
 refine (restore_none _).mono ?_
 rintro e w2 ⟨mb,pm,fm,rfl,hm,h1,h2,h3,hb2⟩
 have hsz:(w1.alloc (.cells #[.slice none 0 0, .slice none 0 0, .slice none 0 0] 98)).heap.size=w1.heap.size+1:=by simp
 rw[hsz] at h1 h2 h3
 have hR2:=(hb2.block w1.heap.size (by simp)).trans (heap_alloc_new w1 _)
 have hC2:=(hb2.block w.heap.size (by rw[hsz];omega)).trans ((Below.heap_alloc w1 _ w.heap.size (by omega)).trans HC1.out)
 have HE2:=hide (HE1.out.kept ((hb2.block eb (by rw[hsz];omega)).trans (Below.heap_alloc w1 _ eb (by omega))))
 have HF2:=hide ((HF1.out.alloc (by omega) (.cells #[.slice none 0 0, .slice none 0 0, .slice none 0 0] 98)).below hb2 (by rw[hsz];omega))
 have r2:=(row_cell hR2 2).trans (show _=some (.slice none 0 0) from rfl)
 have k1:=(row_cell hC2 1).trans (show _=some (.int .i64 0) from rfl)
 obtain ⟨e0,e1, -⟩:=HE2.out.cells
 have f1:=row_free HE2.out 1
 have HM:=hide hm
 have hw2:=HF2.out.size
 have n1 : ¬ eb=w1.heap.size:=by omega
 have n2 : ¬ eb=w.heap.size:=by omega
 have HE3:Hid (EngB eb (.pointer (some ⟨sb,0,none⟩)) (.pointer (some ⟨mb,0,none⟩)) (.slice none 0 0) (.map none) (.map none) (.int .i64 0) (w2.setCell ⟨eb,1,none⟩ (.pointer (some ⟨mb,0,none⟩)))):=hide (heap_setCell_same _ eb 1 _ _ _ HE2.out)
 have HM3:Hid (MachAt mb pm fm [] [] (w2.setCell ⟨eb,1,none⟩ (.pointer (some ⟨mb,0,none⟩)))):=hide ⟨(Below.heap_setCell _ _ _ _ (by show mb≠eb;omega)).trans hm.blk,hm.packs.set (by omega) _,hm.files.set (by omega) _,hm.apart⟩
 have HF3:=hide (HF2.out.setCell (p:=⟨eb,1,none⟩) (.inr rfl) (.pointer (some ⟨mb,0,none⟩)))
 clear hb2 hm hR2 hC2 HC HC1 HE HE1 HF1
 go_wp2_with fail
 go_ret
 exact ⟨mb,pm,fm,rfl,HM3.out,by omega,by omega,by omega,HE3.out,HF3.out⟩
structure EngAt (C:Nat→Prop) (eb sb mb pm fm db n a b c:Nat) (h:S) (d:Dk) (P F:VM Value) (w:World):Prop where
 eng:EngB eb (.pointer (some ⟨sb,0,none⟩)) (.pointer (some ⟨mb,0,none⟩)) (.slice none 0 0) (.map none) (.map none) (.int .i64 0) w
 st:StoreAt sb db n a b c h w
 mach:MachAt mb pm fm P F w
 dk:DkAt C db d w
 off : ¬ C eb ∧ ¬ C sb ∧ ¬ C mb ∧ ¬ C pm ∧ ¬ C fm
 apart:eb≠sb∧eb≠mb∧eb≠pm∧eb≠fm∧sb≠mb∧sb≠pm∧sb≠fm
theorem EngAt.below {C:Nat→Prop} {eb sb mb pm fm db n a b c:Nat} {h:S} {d:Dk} {P F:VM Value} {w w':World} (e:EngAt C eb sb mb pm fm db n a b c h d P F w) (hb:Below w.heap.size w w'):EngAt C eb sb mb pm fm db n a b c h d P F w' :=
 ⟨e.eng.kept (hb.block eb (blt e.eng)),e.st.below hb,e.mach.below hb,e.dk.below hb,e.off,e.apart⟩
theorem eopen_fresh {C:Nat→Prop} {d:Dk} (db:Nat) (h1:64≤d.now.length) (h2:d.now.length≤4096) (hsec:d.now[0]? = some (padS (rootS 0 0 0 (short kTab [])))) (w:World) (hd:DkAt C db d w) (hbs:Base w) (hCG:∀ k,C k→12≤k) :
   Calls Tryz.prog 24 #[dskV db] w fun e w'=>∃ eb sb mb pm fm,e = .returned (.tuple #[.pointer (some ⟨eb,0,none⟩), .nilIface])∧EngAt C eb sb mb pm fm db d.now.length 0 0 0 (short kTab []) d.flush [] [] w'∧w.heap.size≤eb∧w.heap.size≤sb∧w.heap.size≤mb∧w.heap.size≤pm∧w.heap.size≤fm∧Far w.heap.size C w w':=by
 have HD:=hide hd;have HBs:=hide hbs;have HCG:=hide hCG;have hlt:=hide hd.lt
 clear hd hbs hCG
 go_enter Tryz.func24,Tryz.ntmps24
 go_wp2_with fail
 refine (dev_new w HD.out).mono ?_
 rintro e w1 ⟨rfl,hb1⟩
 have HD1:=hide (HD.out.below hb1)
 have HBs1:=hide (HBs.out.below hb1 HBs.out.size)
 have HF1:=hide ((Far.refl w.heap.size C w).below hb1 (Nat.le_refl _))
 have hs1:=hb1.size
 clear hb1
 go_wp2_with fail
 refine (open_found db d.now.length 0 0 [] (by omega) (by omega) rfl (by omega) (by omega) (by simp) (by simp) hsec (hide fun sb h w1 hs hd _=>readText_none sb db d.now.length 0 0 h (by omega) (by omega) (by omega) w1 hs hd) w1 HD1.out HBs1.out HCG.out).mono ?_
 rintro e w2 ⟨sb,rfl,hsb,hst,hd2,hf2⟩
 have HD2:=hide hd2
 have HS2:=hide hst
 have HF2:=hide (HF1.out.next hf2 HF1.out.size (fun _ _ q=>q))
 have hsl:=hst.lt
 have hl2:=hide hd2.lt
 clear hd2 hf2 hst HD1 HF1
 go_wp2_with fail
 have hE:=heap_alloc_new (w2.alloc (.cells #[.string ⟨#[]⟩, .int .i64 0] 106)) (.cells #[.pointer (some ⟨sb,0,none⟩), .pointer none, .slice none 0 0, .map none, .map none, .int .i64 0] 95)
 have HS3:=hide ((HS2.out.below ((Below.refl w2.heap.size w2).alloc (Nat.le_refl _) (.cells #[.string ⟨#[]⟩, .int .i64 0] 106))).below ((Below.refl _ _).alloc (Nat.le_refl _) (.cells #[.pointer (some ⟨sb,0,none⟩), .pointer none, .slice none 0 0, .map none, .map none, .int .i64 0] 95)))
 have HD3:=hide ((HD2.out.alloc (.cells #[.string ⟨#[]⟩, .int .i64 0] 106)).alloc (.cells #[.pointer (some ⟨sb,0,none⟩), .pointer none, .slice none 0 0, .map none, .map none, .int .i64 0] 95))
 have hs2:w.heap.size≤w2.heap.size:=HF2.out.size
 have HF3:=hide ((HF2.out.alloc hs2 (.cells #[.string ⟨#[]⟩, .int .i64 0] 106)).alloc (by simp;omega) (.cells #[.pointer (some ⟨sb,0,none⟩), .pointer none, .slice none 0 0, .map none, .map none, .int .i64 0] 95))
 have hus:((w2.alloc (.cells #[.string ⟨#[]⟩, .int .i64 0] 106)).alloc (.cells #[.pointer (some ⟨sb,0,none⟩), .pointer none, .slice none 0 0, .map none, .map none, .int .i64 0] 95)).heap.size=w2.heap.size+2:=by simp
 obtain ⟨u,hu⟩:∃ u,(w2.alloc (.cells #[.string ⟨#[]⟩, .int .i64 0] 106)).alloc (.cells #[.pointer (some ⟨sb,0,none⟩), .pointer none, .slice none 0 0, .map none, .map none, .int .i64 0] 95)=u:=⟨_,rfl⟩
 have hE':EngB (w2.heap.size+1) (.pointer (some ⟨sb,0,none⟩)) (.pointer none) (.slice none 0 0) (.map none) (.map none) (.int .i64 0) u:=by
   unfold EngB
   rw[← hu]
   simpa using hE
 rw[hu] at HS3 HD3 HF3 hus ⊢
 clear hu hE HS2 HD2 HF2
 refine (erestore_none (w2.heap.size+1) sb u hE').mono ?_
 rintro e w3 ⟨mb,pm,fm,rfl,hm,m1,m2,m3,he3,hf3⟩
 have hs1':=hlt.out
 have HD4:=hide (HD3.out.far hf3 (Nat.le_refl _) (fun k hk e=>by have:=hl2.out k hk;omega))
 have HS4:=hide (HS3.out.far hf3 (Nat.le_refl _) (fun e=>by omega))
 have HM4:=hide hm
 have HE4:=hide he3
 have HF4:=hide (HF3.out.next hf3 (by omega) (fun i hi (q:i=w2.heap.size+1)=>by omega))
 clear hm he3 hf3 hE' HD3 HS3 HF3
 go_wp2_with fail
 go_ret2
 refine ⟨w2.heap.size+1,sb,mb,pm,fm,rfl,⟨HE4.out,HS4.out,HM4.out,HD4.out,⟨fun q => ?_,fun q => ?_,fun q => ?_,fun q => ?_,fun q => ?_⟩,by omega,by omega,by omega,by omega,by omega,by omega,by omega⟩,by omega,by omega,by omega,by omega,by omega,HF4.out⟩
 · have:=hs1' _ q;omega
 · have:=hs1' _ q;omega
 · have:=hs1' _ q;omega
 · have:=hs1' _ q;omega
 · have:=hs1' _ q;omega
def HostAt (C:Nat→Prop) (hb eb sb mb pm fm db n a b c:Nat) (h:S) (d:Dk) (P F:VM Value) (w:World):Prop :=
 w.heap[hb]? = some (.cells #[.int .i32 0, .int .u32 0, .pointer (some ⟨eb,0,none⟩)] 62 (0,0))∧EngAt C eb sb mb pm fm db n a b c h d P F w ∧ ¬ C hb∧hb≠eb∧hb≠sb∧hb≠mb∧hb≠pm∧hb≠fm
theorem mount_fresh {C:Nat→Prop} {d:Dk} (db:Nat) (h1:64≤d.now.length) (h2:d.now.length≤4096) (hsec:d.now[0]? = some (padS (rootS 0 0 0 (short kTab [])))) (w:World) (hd:DkAt C db d w) (hbs:Base w) (hCG:∀ k,C k→12≤k) :
   Calls Tryz.prog 13 #[dskV db] w fun e w'=>∃ hb eb sb mb pm fm,e = .returned (.tuple #[.pointer (some ⟨hb,0,none⟩), .int .i64 0])∧HostAt C hb eb sb mb pm fm db d.now.length 0 0 0 (short kTab []) d.flush [] [] w'∧w.heap.size≤hb∧w.heap.size≤eb∧w.heap.size≤sb∧w.heap.size≤mb∧w.heap.size≤pm∧w.heap.size≤fm∧Far w.heap.size C w w':=by
 have HD:=hide hd;have HBs:=hide hbs;have HCG:=hide hCG;have hlt:=hide hd.lt
 clear hd hbs hCG
 go_enter Tryz.func13,Tryz.ntmps13
 go_wp2_with fail
 refine (mayBe_any w HD.out h1 h2).mono ?_
 rintro e w1 ⟨rfl,rfl⟩
 go_wp2_with fail
 refine (eopen_fresh db h1 h2 hsec w1 HD.out HBs.out HCG.out).mono ?_
 rintro e w2 ⟨eb,sb,mb,pm,fm,rfl,he,g1,g2,g3,g4,g5,hf2⟩
 have HE2:=hide he
 have HF2:=hide hf2
 clear he hf2
 go_wp2_with fail
 go_ret2
 have hs2:=HF2.out.size
 have l1:=blt HE2.out.eng
 have l2:=HE2.out.st.lt
 have l3:=blt HE2.out.mach.blk
 have l4:=HE2.out.mach.packs.lt
 have l5:=HE2.out.mach.files.lt
 exact ⟨w2.heap.size,eb,sb,mb,pm,fm,rfl,⟨heap_alloc_new w2 _,HE2.out.below ((Below.refl w2.heap.size w2).alloc (Nat.le_refl _) _),fun q=>by have:=hlt.out _ q;omega,by omega,by omega,by omega,by omega,by omega⟩,by omega,g1,g2,g3,g4,g5,HF2.out.alloc (by omega) _⟩
structure Sl where
 a:Option Addr
 n:Nat
 c:Nat
structure Pk where
 text:S
 nm:S
 ve:S
 needs:Sl
 breaks:Sl
 wakes:Sl
 files:Sl
 runs:Sl
 wokens:Sl
 status:Int
def Pk.cells (p:Pk):Array Value := #[.string ⟨p.text.toArray⟩, .string ⟨p.nm.toArray⟩, .string ⟨p.ve.toArray⟩, .slice p.needs.a p.needs.n p.needs.c, .slice p.breaks.a p.breaks.n p.breaks.c, .slice p.wakes.a p.wakes.n p.wakes.c, .slice p.files.a p.files.n p.files.c, .slice p.runs.a p.runs.n p.runs.c, .slice p.wokens.a p.wokens.n p.wokens.c, .int .i64 p.status]
def Pk.val (p:Pk):Value := .agg p.cells
def Pk.to (p:Pk) (s:Int):Pk:={ p with status:=s }
theorem Pk.at_ {p:Pk} {B:Nat} {w:World} (h:w.heap[B]? = some (.cells p.cells 156 (0,0))):w.cell? ⟨B,0,none⟩=some (.string ⟨p.text.toArray⟩)∧w.cell? ⟨B,1,none⟩=some (.string ⟨p.nm.toArray⟩)∧w.cell? ⟨B,2,none⟩=some (.string ⟨p.ve.toArray⟩)∧w.cell? ⟨B,3,none⟩=some (.slice p.needs.a p.needs.n p.needs.c)∧w.cell? ⟨B,4,none⟩=some (.slice p.breaks.a p.breaks.n p.breaks.c)∧w.cell? ⟨B,5,none⟩=some (.slice p.wakes.a p.wakes.n p.wakes.c)∧w.cell? ⟨B,6,none⟩=some (.slice p.files.a p.files.n p.files.c)∧w.cell? ⟨B,7,none⟩=some (.slice p.runs.a p.runs.n p.runs.c)∧w.cell? ⟨B,8,none⟩=some (.slice p.wokens.a p.wokens.n p.wokens.c)∧w.cell? ⟨B,9,none⟩=some (.int .i64 p.status) :=
 ⟨(row_cell h 0).trans rfl,(row_cell h 1).trans rfl,(row_cell h 2).trans rfl,(row_cell h 3).trans rfl,(row_cell h 4).trans rfl,(row_cell h 5).trans rfl,(row_cell h 6).trans rfl,(row_cell h 7).trans rfl,(row_cell h 8).trans rfl,(row_cell h 9).trans rfl⟩
theorem MachAt.far {mb pm fm B:Nat} {C:Nat→Prop} {P F:VM Value} {w w':World} (h:MachAt mb pm fm P F w) (hf:Far B C w w') (hB:w.heap.size≤B) (hC : ¬ C mb ∧ ¬ C pm ∧ ¬ C fm):MachAt mb pm fm P F w':=⟨(hf.block mb (by have:=blt h.blk;omega) hC.1).trans h.blk,h.packs.far hf hB hC.2.1,h.files.far hf hB hC.2.2,h.apart⟩
theorem turned_far {w w':World} {b:Nat} (h:w.mapTurned w' b):Far w.heap.size (fun k=>k=b) w w':=by
 have g:=h.grown
 exact ⟨g.os,g.tape,g.output,g.size,fun k hk hc=>g.block k hk (fun e=>hc (by cases e;rfl))⟩
theorem zero_pk (w:World):(zeroValue 156).run Tryz.prog w = .ok (.agg #[.string ⟨#[]⟩, .string ⟨#[]⟩, .string ⟨#[]⟩, .slice none 0 0, .slice none 0 0, .slice none 0 0, .slice none 0 0, .slice none 0 0, .slice none 0 0, .int .i64 0]) w:=Tryz.zeroValue156 w
theorem setStatus_any (mb pm fm:Nat) (P F:VM Value) (k:S) (hk:k.length≤maxLen) (p:Pk) (hp:Hv.get P k=some p.val) (s:Int) (hn:P.length<maxLen) (w:World) (h:MachAt mb pm fm P F w) :
   Calls Tryz.prog 144 #[.pointer (some ⟨mb,0,none⟩), .string ⟨k.toArray⟩, .int .i64 s] w fun e w'=>∃ u,e = .returned u∧MachAt mb pm fm (Hv.put P k (p.to s).val) F w'∧Far w.heap.size (fun q=>q=pm) w w':=by
 have m0:=(row_cell h.blk 0).trans (show _=some (.map (some pm)) from rfl)
 have hlk:=h.packs.look Tryz.underlying86 (zero_pk w) k hk
 rw[hp] at hlk
 simp only[Option.getD_some,Pk.val,Pk.cells] at hlk
 have hml:=blt h.blk
 have hpl:=h.packs.lt
 have hne : ¬ w.heap.size=mb:=by omega
 have HM:=hide h
 clear h
 go_enter Tryz.func144,Tryz.ntmps144
 go_wp2_with fail
 have hrow:=heap_alloc_new w (.cells (p.to s).cells 156)
 have HM0:=hide (HM.out.below ((Below.refl w.heap.size w).alloc (Nat.le_refl _) (.cells (p.to s).cells 156)))
 have HF0:=hide ((Far.refl w.heap.size (fun q=>q=pm) w).alloc (Nat.le_refl _) (.cells (p.to s).cells 156))
 show Code.wp _ _ _ _ (w.alloc (.cells (p.to s).cells 156))
 have hus:(w.alloc (.cells (p.to s).cells 156)).heap.size=w.heap.size+1:=by simp
 obtain ⟨u,hu⟩:∃ u,w.alloc (.cells (p.to s).cells 156)=u:=⟨_,rfl⟩
 rw[hu] at hrow HM0 HF0 hus ⊢
 clear hu hlk HM
 obtain ⟨w',hrun,hM',ht⟩:=HM0.out.packs.drew.store Tryz.underlying86 hn k hk (p.to s).val
 have hf:=turned_far ht
 have HM':Hid (MachAt mb pm fm (Hv.put P k (p.to s).val) F w'):=hide ⟨(hf.block mb (by have:=blt HM0.out.blk;simpa using this) HM0.out.apart.1).trans HM0.out.blk,hM',HM0.out.files.kept (hf.block fm (by have:=HM0.out.files.lt;simpa using this) (fun e=>HM0.out.apart.2.2 e.symm)),HM0.out.apart⟩
 have HF':Hid (Far w.heap.size (fun q=>q=pm) w w'):=hide (HF0.out.drew.next hf (by simp;omega) (fun _ _ q=>q))
 have m0':=(row_cell HM'.out.blk 0).trans (show _=some (.map (some pm)) from rfl)
 have m0u:=(row_cell HM0.out.blk 0).trans (show _=some (.map (some pm)) from rfl)
 obtain ⟨B,hB⟩:∃ B,w.heap.size=B:=⟨_,rfl⟩
 have hrw:w'.heap[B]? = some (.cells (p.to s).cells 156 (0,0)):=by rw[← hB];exact (hf.block w.heap.size (by simp;omega) (by omega)).trans hrow
 rw[hB] at hrow ⊢
 have T0:=Pk.at_ hrow
 have T1:=Pk.at_ hrw
 simp only[Pk.to] at T0 T1
 simp only[Pk.val,Pk.cells,Pk.to] at hrun
 clear hM' ht hf hrow hrw HM0 HF0
 go_region_held3 (fun w'=>w'.cell? ⟨mb,0,none⟩=some (.map (some pm))∧w'.cell? ⟨B,0,none⟩=some (.string ⟨p.text.toArray⟩)∧w'.cell? ⟨B,1,none⟩=some (.string ⟨p.nm.toArray⟩)∧w'.cell? ⟨B,2,none⟩=some (.string ⟨p.ve.toArray⟩)∧w'.cell? ⟨B,3,none⟩=some (.slice p.needs.a p.needs.n p.needs.c)∧w'.cell? ⟨B,4,none⟩=some (.slice p.breaks.a p.breaks.n p.breaks.c)∧w'.cell? ⟨B,5,none⟩=some (.slice p.wakes.a p.wakes.n p.wakes.c)∧w'.cell? ⟨B,6,none⟩=some (.slice p.files.a p.files.n p.files.c)∧w'.cell? ⟨B,7,none⟩=some (.slice p.runs.a p.runs.n p.runs.c)∧w'.cell? ⟨B,8,none⟩=some (.slice p.wokens.a p.wokens.n p.wokens.c)∧w'.cell? ⟨B,9,none⟩=some (.int .i64 s))
   (first | assumption | exact ⟨m0',T1⟩ | exact ⟨m0u,T0⟩ | simp[go_sem, *])
   (fail)
 go_wp2_with fail
 go_end0
 exact ⟨_,rfl,HM'.out,HF'.out⟩
def Reads (w:World) (v:Value) (xs:List S):Prop:=(xs=[]∧∃ a c,v = .slice a 0 c) ∨ ∃ g c,v = .slice (some ⟨g,0,none⟩) xs.length c∧g<w.heap.size∧∀ j x,xs[j]? = some x→w.cell? ⟨g,j,none⟩=some (.string ⟨x.toArray⟩)
def linesS (xs:List S):S:=xs.flatMap fun x=>x++[10]
theorem linesS_snoc (xs:List S) (x:S):linesS (xs++[x])=linesS xs++(x++[10]):=by simp[linesS]
theorem linesS_le (xs:List S) (n:Nat) (h:∀ x∈xs,x.length≤n):(linesS xs).length≤xs.length*(n+1):=by
 induction xs with
 | nil=>simp[linesS]
 | cons a l ih =>
   have h1:=h a (by simp)
   have h2:=ih (fun x hx=>h x (by simp[hx]))
   have e:linesS (a::l)=a++[10]++linesS l:=by simp[linesS]
   rw[e]
   simp only[List.length_append,List.length_cons,List.length_nil,Nat.add_mul]
   omega
theorem lines_any (v:Value) (xs:List S) (hn:xs.length≤10000) (hx:∀ x∈xs,x.length≤10000) (w:World) (h:Reads w v xs) :
   Calls Tryz.prog 276 #[v] w fun e w'=>e = .returned (.string ⟨(linesS xs).toArray⟩)∧w'=w:=by
 obtain ⟨a,c,rfl⟩:∃ a c,v = .slice a xs.length c:=by
   rcases h with ⟨rfl,a,c,rfl⟩ | ⟨g,c,rfl,_⟩
   · exact ⟨a,c,rfl⟩
   · exact ⟨_,c,rfl⟩
 have HR:Hid (∀ j x,xs[j]? = some x→∃ g,a=some ⟨g,0,none⟩∧w.cell? ⟨g,j,none⟩=some (.string ⟨x.toArray⟩)):=hide (fun j x hj=>by
   rcases h with ⟨rfl,_⟩ | ⟨g,c',e,_,hc⟩
   · simp at hj
   · cases e;exact ⟨g,rfl,hc j x hj⟩)
 have HX:=hide hx
 clear h hx
 go_enter Tryz.func276,Tryz.ntmps276
 go_wp2_with fail
 go_loop [3,8] (fun t i=>∃ k:Nat,k≤xs.length∧t = .string ⟨(linesS (xs.take k)).toArray⟩∧i = .int .i64 (k:Int)) (fun _ i=>xs.length-(intOf i).toNat)
 case atStart=>exact ⟨0,by omega,by simp[linesS],rfl⟩
 case round =>
   obtain ⟨k,hk,rfl,rfl⟩:=hrel
   by_cases hlt:k<xs.length
   · have b1:(k:Int)<(xs.length:Int):=by omega
     obtain ⟨g,rfl,hc⟩:=HR.out k xs[k] (List.getElem?_eq_getElem hlt)
     have hxl:=HX.out xs[k] (List.getElem_mem hlt)
     have htl:=linesS_le (xs.take k) 10000 (fun x hx=>HX.out x (List.mem_of_mem_take hx))
     rw[List.length_take] at htl
     have HT:Hid (linesS (xs.take (k+1))=linesS (xs.take k)++(xs[k]++[10])):=hide (by rw[List.take_succ_eq_append_getElem hlt,linesS_snoc])
     obtain ⟨y,hy⟩:∃ y,xs[k]=y:=⟨_,rfl⟩
     obtain ⟨t,ht⟩:∃ t,linesS (xs.take k)=t:=⟨_,rfl⟩
     rw[hy] at hc hxl HT
     rw[ht] at htl HT ⊢
     have hm:min k xs.length*(10000+1)≤100010000:=by
       have:min k xs.length≤10000:=by omega
       omega
     have j1 : ¬ 9223372036854775807<y.length+1:=by omega
     have j2 : ¬ 9223372036854775807<t.length+(y.length+1):=by omega
     clear hy ht
     go_wp2_with fail
     go_round
     case rel=>exact ⟨k+1,by omega,by rw[HT.out];congr 1,by go_num⟩
     case measure=>simp[intOf];omega
   · obtain rfl:k=xs.length:=by omega
     have b1 : ¬ (xs.length:Int)<(xs.length:Int):=by omega
     go_wp2_with fail
     go_ret
     exact ⟨rfl,rfl⟩
theorem bb_lt:∀ {a b:S},bytesBefore a b=true→a<b
 | [],[],h=>by simp[bytesBefore] at h
 | [],_::_,_=>List.nil_lt_cons _ _
 | _::_,[],h=>by simp[bytesBefore] at h
 | a::r,b::s,h=>by
   simp only[bytesBefore,Bool.or_eq_true,decide_eq_true_eq,Bool.and_eq_true,beq_iff_eq] at h
   rw[List.cons_lt_cons_iff]
   rcases h with h | ⟨rfl,h⟩
   · exact .inl h
   · exact .inr ⟨rfl,bb_lt h⟩
theorem bb_le {a b:S} (h:bytesBefore a b=true):Go.leB a b=true:=by
 unfold Go.leB
 rw[decide_eq_true_eq]
 exact List.le_of_lt (bb_lt h)
theorem own_base {w:World} {B B' e size n:Nat} {v:Value} {xs:List Value} (h:w.ownsRow B' e size v n xs) (hB:B≤B'):w.ownsRow B e size v n xs:=by
 refine ⟨h.1,?_⟩
 rcases h.2 with hn | ⟨g,cap,cur,hv,hg,rest⟩
 · exact .inl hn
 · exact .inr ⟨g,cap,cur,hv,by omega,rest⟩
def keysOf {α:Type} (E:VM α):List S:=E.map (·.1)
theorem strKeys_d (E:VM Value):Go.strKeys (Hv.dOf E)=keysOf E:=by
 unfold Hv.dOf Go.strKeys keysOf
 show List.map (fun p=>strOf p.1) (E.map fun p=>(Lit.string p.1,DataW.held p.2))=_
 rw[List.map_map]
 rfl
theorem sort_keys {E:VM Value} (h:Hv.Srt E) {ss:List S} (hp:ss.Perm (Go.strKeys (Hv.dOf E))):(ss.mergeSort fun x y=>decide (x≤y))=keysOf E:=by
 have h1:=Go.mergeSort_of_perm hp
 rw[strKeys_d] at h1
 have h2:(keysOf E).Pairwise fun a b=>Go.leB a b=true:=by
   unfold keysOf
   rw[List.pairwise_map]
   exact h.imp fun q=>bb_le q
 have h3:=List.mergeSort_of_pairwise h2
 rw[h3] at h1
 exact h1
theorem names_any (mb pm fm:Nat) (P F:VM Value) (hn:P.length≤1000000) (w:World) (h:MachAt mb pm fm P F w) :
   Calls Tryz.prog 71 #[.pointer (some ⟨mb,0,none⟩)] w fun e w'=>∃ v,e = .returned v∧w'.ownsRow w.heap.size 9 1 v (keysOf P).length ((keysOf P).map strV)∧Below w.heap.size w w':=by
 have m0:=(row_cell h.blk 0).trans (show _=some (.map (some pm)) from rfl)
 have HM:=hide h
 clear h
 go_enter Tryz.func71,Tryz.ntmps71
 go_wp2_with fail
 refine (callsIn_wide.1 (Tryz.maps_Keys_135 (some pm) w)).mono ?_
 rintro e w1 ⟨rfl,rfl⟩
 go_wp2_with fail
 refine (callsIn_wide.1 (Tryz.slices_Sorted_keys_72_135 pm P.length (Hv.dOf P) Hv.hR w HM.out.packs.2 (by rw[Hv.d_size];unfold maxLen;omega) (by rw[Hv.d_size];omega))).mono ?_
 rintro e w2 ⟨v,ss,rfl,hS,hrow, -,hb⟩
 have hk:=sort_keys HM.out.packs.1 hS
 have hl:ss.length=(keysOf P).length:=by rw[hS.length_eq,strKeys_d]
 rw[hk,hl] at hrow
 have HR:=hide hrow
 have HB:=hide (((Below.refl w.heap.size w).alloc (Nat.le_refl _) (.cells #[.map (some pm)] 86)).trans (hb.mono (by simp)))
 clear hrow hb hk hl hS
 go_wp2_with fail
 go_ret
 exact ⟨v,rfl,own_base HR.out (by simp),HB.out⟩
theorem alloc_cell {w:World} {b j:Nat} (h:b<w.heap.size) (o:Obj):(w.alloc o).cell? ⟨b,j,none⟩=w.cell? ⟨b,j,none⟩:=World.cell?_of_block (a:=⟨b,j,none⟩) (Below.heap_alloc w o b h)
theorem cloneP_any (b:Nat) (E:VM Value) (w:World) (h:MapAt w b E):Calls Tryz.prog 174 #[.map (some b)] w fun e w'=>e = .returned (.map (some w.heap.size))∧MapAt w' w.heap.size E∧Below w.heap.size w w':=by
 refine (AnyW.maps_Clone_owns Tryz.clone174 9 Hv.hR b E.length (Hv.dOf E) w h.2).mono ?_
 rintro e w' ⟨rfl,h1, -,h3⟩
 exact ⟨rfl,⟨h.1,h1⟩,h3⟩
theorem cloneF_any (b:Nat) (E:VM Value) (w:World) (h:MapAt w b E):Calls Tryz.prog 146 #[.map (some b)] w fun e w'=>e = .returned (.map (some w.heap.size))∧MapAt w' w.heap.size E∧Below w.heap.size w w':=by
 refine (AnyW.maps_Clone_owns Tryz.clone146 9 Hv.hR b E.length (Hv.dOf E) w h.2).mono ?_
 rintro e w' ⟨rfl,h1, -,h3⟩
 exact ⟨rfl,⟨h.1,h1⟩,h3⟩
theorem clone_mach (mb pm fm:Nat) (P F:VM Value) (w:World) (h:MachAt mb pm fm P F w) :
   Calls Tryz.prog 131 #[.pointer (some ⟨mb,0,none⟩)] w fun e w'=>∃ mb' pm' fm',e = .returned (.pointer (some ⟨mb',0,none⟩))∧MachAt mb' pm' fm' P F w'∧w.heap.size≤mb'∧w.heap.size≤pm'∧w.heap.size≤fm'∧Below w.heap.size w w':=by
 have m0:=(row_cell h.blk 0).trans (show _=some (.map (some pm)) from rfl)
 have m1:=(row_cell h.blk 1).trans (show _=some (.map (some fm)) from rfl)
 have hml:=blt h.blk
 have HM:=hide h
 clear h
 go_enter Tryz.func131,Tryz.ntmps131
 go_wp2_with fail
 go_region_held3 (fun w'=>w'.cell? ⟨mb,0,none⟩=some (.map (some pm))∧w'.cell? ⟨mb,1,none⟩=some (.map (some fm)))
   (first | assumption | exact ⟨m0,m1⟩ | exact ⟨n0,n1⟩ | exact ⟨k0,k1⟩ | exact ⟨(alloc_cell hm2 _).trans k0,(alloc_cell hm2 _).trans k1⟩ | simp[go_sem, *])
   (first
     | (go_at_call 174;refine (cloneP_any pm P _ HM.out.packs.drew).mono ?_;rintro e w1 ⟨rfl,hp1,hb1⟩;have HM1:=hide ((show MachAt mb pm fm P F w.drew from ⟨HM.out.blk,HM.out.packs.drew,HM.out.files.drew,HM.out.apart⟩).below hb1);have HP1:=hide hp1;have HB1:=hide (show Below w.heap.size w w1 from ⟨hb1.os,hb1.tape,hb1.output,hb1.size,hb1.block⟩);have n0:=(row_cell HM1.out.blk 0).trans (show _=some (.map (some pm)) from rfl);have n1:=(row_cell HM1.out.blk 1).trans (show _=some (.map (some fm)) from rfl);clear hp1 hb1)
     | (go_at_call 146;refine (cloneF_any fm F w1 HM1.out.files).mono ?_;rintro e w2 ⟨rfl,hp2,hb2⟩;have HM2:=hide (HM1.out.below hb2);have HP2:=hide (HP1.out.below hb2);have HQ2:=hide hp2;have HB2:=hide (HB1.out.trans (hb2.mono HB1.out.size));have hl12:=HP1.out.lt;have hm2:=blt HM2.out.blk;have k0:=(row_cell HM2.out.blk 0).trans (show _=some (.map (some pm)) from rfl);have k1:=(row_cell HM2.out.blk 1).trans (show _=some (.map (some fm)) from rfl);clear hp2 hb2))
 all_goals go_wp2_with fail
 all_goals go_ret
 all_goals exact ⟨w2.heap.size,w.heap.size,w1.heap.size,rfl,⟨heap_alloc_new w2 _,HP2.out.alloc _,HQ2.out.alloc _,by have h1:w1.heap.size<w2.heap.size:=HQ2.out.lt;have h2:w.heap.size<w1.heap.size:=HP1.out.lt;omega⟩,by have:=HB2.out.size;omega,by omega,by have:=HB1.out.size;omega,HB2.out.alloc HB2.out.size _⟩
namespace Hv
theorem put_len {α:Type} (E:VM α) (k:S) (v:α):(put E k v).length≤E.length+1:=by
 unfold put del
 rw[ins_len]
 have:=List.length_filter_le (fun p:S × α => !(p.1==k)) E
 omega
def merge {α:Type} (E G:VM α):VM α:=G.foldl (fun e p=>put e p.1 p.2) E
theorem merge_srt {α:Type}:∀ (G E:VM α),Srt E→Srt (merge E G)
 | [],_,h=>h
 | p::G,E,h=>merge_srt G (put E p.1 p.2) (h.put _ _)
theorem merge_get {α:Type}:∀ (G E:VM α),Srt E→Srt G→∀ k,get (merge E G) k=(get G k).orElse fun _=>get E k
 | [],E,_,_,k=>by simp[merge,get]
 | p::G,E,h,hg,k=>by
   obtain ⟨g1,g2⟩:=List.pairwise_cons.1 hg
   have e:merge E (p::G)=merge (put E p.1 p.2) G:=rfl
   rw[e,merge_get G _ (h.put _ _) g2 k]
   by_cases hk:k=p.1
   · subst hk
     have h1:get G p.1=none:=get_none.2 fun q hq e=>by have:=g1 q hq;rw[e,bb_irrefl] at this;cases this
     rw[h1,get_put_same h]
     have h2:get (p::G) p.1=some p.2:=(get_some hg).2 (by simp)
     rw[h2]
     rfl
   · rw[get_put_other h p.2 hk]
     have h2:get (p::G) k=get G k:=by
       unfold get
       rw[List.find?_cons_of_neg (by simpa using fun e=>hk e.symm)]
     rw[h2]
end Hv
def Merging (E G:VM Value) (left:S→Bool) (Ec:VM Value):Prop:=∀ k,Hv.get Ec k=if Hv.has G k=true∧left k=false then Hv.get G k else Hv.get E k
theorem copyP_any (bd bs:Nat) (E G:VM Value) (hG:∀ k v,Hv.get G k=some v→∃ p:Pk,v=p.val) (w:World) (hd:MapAt w bd E) (hs:MapAt w bs G) (hne:bd≠bs) (hroom:E.length+G.length≤1000000) :
   Calls Tryz.prog 175 #[.map (some bd), .map (some bs)] w fun e w'=>∃ u,e = .returned u∧MapAt w' bd (Hv.merge E G)∧Far w.heap.size (fun q=>q=bd) w w':=by
 have hbd:=hd.lt
 have hbs:=hs.lt
 have HS:=hide hs;have HD:=hide hd;have HG:=hide hG
 clear hs hd hG
 go_enter Tryz.func175,Tryz.ntmps175
 go_wp2_with (first
   | (at_range;refine wp_range rfl _ 86 rfl 156 Tryz.underlying86 HS.out rfl ?_;intro w0 hrg0 hg0 hs0;have HR0:=hide hrg0;have HD0:=hide (HD.out.kept (hg0.block bd hbd (by simp)));have HF0:=hide ((Far.refl w.heap.size (fun q=>q=bd) w).grown hg0 (Nat.le_refl _) (fun q hq=>by cases hq));clear hrg0 hg0))
 go_frame
 go_loopw [4] (fun _ wr=>∃ (left:S→Bool) (cnt:Nat) (Ec:VM Value),Hid (MapOn wr bs w.heap.size G left cnt)∧Ec.length+cnt≤E.length+G.length∧Hid (MapAt wr bd Ec)∧Hid (Merging E G left Ec)∧Hid (∀ k,left k=true→Hv.has G k=true)∧Hid (Far w.heap.size (fun q=>q=bd) w wr)∧w.heap.size<wr.heap.size)
   (fun _ wr=>wr.rangeLeft bs w.heap.size)
 case atStart=>exact ⟨_,_,E,HR0,Nat.le_refl _,HD0,hide (fun k=>by by_cases h:Hv.has G k=true<;>simp[h]),hide (fun k h=>h),HF0,by omega⟩
 case round =>
   clear HR0 HD0 HF0
   obtain ⟨left,cnt,Ec,HR,hcs,HE,HM,HL,HF,hsz⟩:=hrel
   go_wp2_with (first
     | (at_next;refine wp_next rfl _ rfl w.heap.size left cnt rfl HR.out ?_ ?_))
   · intro hc0 hl0
     go_wp2_with fail
     go_end0
     have e:Ec=Hv.merge E G:=HE.out.1.get_ext (Hv.merge_srt G E HD.out.1) (fun k=>by
       rw[Hv.merge_get G E HD.out.1 HS.out.1 k,HM.out k,hl0 k,Hv.has_get]
       cases Hv.get G k<;>simp)
     rw[← e]
     exact ⟨_,rfl,HE.out,HF.out⟩
   · intro k v w1 cnt1 hk hlk hget hrg1 hlt hg1 hs1 hen
     obtain ⟨p,rfl⟩:=HG.out k v hget
     have HR1:=hide hrg1
     have HE1:=hide (HE.out.kept (hg1.block bd HE.out.lt (by simp;omega)))
     have HF1:=hide (HF.out.grown hg1 (by omega) (fun q hq=>by cases hq;exact .inl (Nat.le_refl _)))
     have HGT:=hide hget
     clear hrg1 hg1 hget
     have HPV:=hide (show Value.agg p.cells=p.val from rfl)
     simp only[Pk.val,Pk.cells] at hen ⊢
     have hE2:=HE1.out.alloc (.cells p.cells 156)
     have hws:w1.heap.size=wr.heap.size:=hs1
     go_wp2_with (first
       | (at_mapUpdate;refine wp_store rfl _ _ _ 86 rfl 156 Tryz.underlying86 hE2 (by unfold maxLen;omega) rfl k hk rfl p.val rfl ?_;intro w2 hE3 ht2;go_frame))
     have hf2:=turned_far ht2
     have HR2:Hid (MapOn w2 bs w.heap.size G (fun z=>left z && !(z==k)) cnt1):=hide ⟨HR1.out.1,(HR1.out.2.alloc (.cells p.cells 156)).kept ht2.grown (fun e=>hne (Option.some.inj e).symm) (fun e=>by have:=Option.some.inj e;omega)⟩
     have HE3:=hide hE3
     have HF2:=hide ((HF1.out.alloc (by omega) (.cells p.cells 156)).next hf2 (by simp;omega) (fun _ _ q=>q))
     have hs2:=hf2.size
     simp at hs2
     have HML:Hid (Merging E G (fun z=>left z && !(z==k)) (Hv.put Ec k p.val)):=hide (fun k'=>by
       by_cases hkk:k'=k
       · subst hkk
         rw[Hv.get_put_same HE.out.1]
         have h1:Hv.has G k'=true:=by rw[Hv.has_get,HGT.out];rfl
         simp[h1,HGT.out]
       · rw[Hv.get_put_other HE.out.1 _ hkk,HM.out k']
         have:(left k' && !(k'==k))=left k':=by simp[hkk]
         simp only[this])
     have hlen:=Hv.put_len Ec k p.val
     have HLL:Hid (∀ z,(left z && !(z==k))=true→Hv.has G z=true):=hide (fun z hz=>HL.out z (by simp at hz;exact hz.1))
     clear hE3 ht2 hf2 hE2
     go_roundw
     case rel=>exact ⟨_,cnt1,_,HR2,by omega,HE3,HML,HLL,HF2,by omega⟩
     case measure=>rw[HR2.out.2.left_eq,HR.out.2.left_eq];exact hlt
namespace Hv
def cut {α β:Type} (E:VM α) (R:VM β):VM α:=R.foldl (fun e p=>del e p.1) E
theorem cut_srt {α β:Type}:∀ (R:VM β) (E:VM α),Srt E→Srt (cut E R)
 | [],_,h=>h
 | p::R,E,h=>cut_srt R (del E p.1) (h.del _)
theorem cut_get {α β:Type}:∀ (R:VM β) (E:VM α),Srt E→∀ k,get (cut E R) k=if has R k=true then none else get E k
 | [],E,_,k=>by simp[cut,has]
 | p::R,E,h,k=>by
   have e:cut E (p::R)=cut (del E p.1) R:=rfl
   rw[e,cut_get R _ (h.del _) k]
   by_cases hk:k=p.1
   · subst hk
     rw[get_del_same]
     have:has (p::R) p.1=true:=by simp[has]
     rw[if_pos this]
     split<;>rfl
   · rw[get_del_other h hk]
     have:has (p::R) k=has R k:=by
       unfold has
       rw[List.any_cons]
       have:(p.1==k)=false:=by simpa using fun e=>hk e.symm
       rw[this];simp
     rw[this]
theorem cut_len {α β:Type}:∀ (R:VM β) (E:VM α),(cut E R).length≤E.length
 | [],_=>Nat.le_refl _
 | p::R,E=>Nat.le_trans (cut_len R (del E p.1)) (List.length_filter_le _ _)
theorem del_len {α:Type} (E:VM α) (k:S):(del E k).length≤E.length:=List.length_filter_le _ _
end Hv
def AllPk (E:VM Value):Prop:=∀ k v,Hv.get E k=some v→∃ p:Pk,v=p.val
def AllU (E:VM Value):Prop:=∀ k v,Hv.get E k=some v→v = .agg #[]
def toBeOf (P R I:VM Value):VM Value:=Hv.merge (Hv.cut P R) I
def Cutting (E R:VM Value) (left:S→Bool) (Ec:VM Value):Prop:=∀ k,Hv.get Ec k=if Hv.has R k=true∧left k=false then none else Hv.get E k
theorem toBe_any (pm rm im:Nat) (P R I:VM Value) (hR:AllU R) (hI:AllPk I) (w:World) (hp:MapAt w pm P) (hr:MapAt w rm R) (hi:MapAt w im I) (hroom:P.length+I.length≤1000000) :
   Calls Tryz.prog 118 #[.agg #[.map (some rm), .map (some im)], .map (some pm)] w fun e w'=>∃ tm,e = .returned (.map (some tm))∧MapAt w' tm (toBeOf P R I)∧w.heap.size≤tm∧Below w.heap.size w w':=by
 have hrl:=hr.lt
 have hil:=hi.lt
 have HP:=hide hp;have HR:=hide hr;have HI:=hide hi
 have hrow:=heap_alloc_new w (.cells #[.map (some rm), .map (some im)] 135)
 have hsz:(w.alloc (.cells #[.map (some rm), .map (some im)] 135)).heap.size=w.heap.size+1:=by simp
 clear hp hr hi
 go_enter Tryz.func118,Tryz.ntmps118
 go_wp2_with fail
 refine (cloneP_any pm P _ (HP.out.alloc _)).mono ?_
 rintro e w1 ⟨rfl,hc1,hb1⟩
 have hW1:=(hb1.block w.heap.size (by simp)).trans hrow
 have HC1:=hide hc1
 have HR1:=hide ((HR.out.alloc (.cells #[.map (some rm), .map (some im)] 135)).below hb1)
 have HI1:=hide ((HI.out.alloc (.cells #[.map (some rm), .map (some im)] 135)).below hb1)
 have HB1:=hide (((Below.refl w.heap.size w).alloc (Nat.le_refl _) (.cells #[.map (some rm), .map (some im)] 135)).trans (hb1.mono (by simp)))
 have c0:=(row_cell hW1 0).trans (show _=some (.map (some rm)) from rfl)
 have HW1:=hide hW1
 have hcl:=hc1.lt
 rw[hsz] at HC1 hcl ⊢
 clear hrow hc1 hb1 hW1
 go_wp2_with (first
   | (at_range;refine wp_range rfl _ 133 rfl 53 Tryz.underlying133 HR1.out rfl ?_;intro w2 hrg0 hg0 hs0;have HG0:=hide hrg0;have HC2:=hide (HC1.out.kept (hg0.block _ hcl (by simp)));have HI2:=hide (HI1.out.kept (hg0.block im HI1.out.lt (by simp)));have HW2:=hide ((hg0.block w.heap.size (by omega) (by simp)).trans HW1.out);have HB2:=hide (HB1.out.grown hg0 HB1.out.size (fun q hq=>by cases hq));clear hrg0 hg0))
 go_frame
 go_loopw [6] (fun _ wr=>∃ (left:S→Bool) (cnt:Nat) (Ec:VM Value),Hid (MapOn wr rm w1.heap.size R left cnt)∧Ec.length≤P.length∧Hid (MapAt wr (w.heap.size+1) Ec)∧Hid (Cutting P R left Ec)∧Hid (MapAt wr im I)∧Hid (wr.heap[w.heap.size]? = some (.cells #[.map (some rm), .map (some im)] 135 (0,0)))∧Hid (Below w.heap.size w wr)∧w1.heap.size<wr.heap.size)
   (fun _ wr=>wr.rangeLeft rm w1.heap.size)
 case atStart=>exact ⟨_,_,P,HG0,Nat.le_refl _,HC2,hide (fun k=>by by_cases h:Hv.has R k=true<;>simp[h]),HI2,HW2,HB2,by omega⟩
 case round =>
   clear HG0 HC2 HI2 HW2 HB2 c0
   obtain ⟨left,cnt,Ec,HG,hcs,HE,HM,HI3,HW3,HB3,hsz3⟩:=hrel
   go_wp2_with (first
     | (at_next;refine wp_next rfl _ rfl w1.heap.size left cnt rfl HG.out ?_ ?_))
   · intro hc0 hl0
     have c1:=(row_cell HW3.out 1).trans (show _=some (.map (some im)) from rfl)
     have e:Ec=Hv.cut P R:=HE.out.1.get_ext (Hv.cut_srt R P HP.out.1) (fun k=>by
       rw[Hv.cut_get R P HP.out.1 k,HM.out k,hl0 k]
       simp)
     subst e
     go_wp2_with fail
     refine (copyP_any (w.heap.size+1) im (Hv.cut P R) I hI wr HE.out HI3.out (by omega) (by omega)).mono ?_
     rintro e w4 ⟨u,rfl,hm4,hf4⟩
     have HM4:=hide hm4
     have HB4:=hide (HB3.out.trans (hf4.toBelow HB3.out.size (fun k hk (q:k=w.heap.size+1)=>by omega)))
     clear hm4 hf4
     go_wp2_with fail
     go_ret
     exact ⟨_,rfl,HM4.out,by omega,HB4.out⟩
   · intro k v w4 cnt1 hk hlk hget hrg1 hlt hg1 hs1 hen
     obtain rfl:=hR k v hget
     have HG1:=hide hrg1
     have hE1:=HE.out.kept (hg1.block _ HE.out.lt (by simp;omega))
     have HI4:=hide (HI3.out.kept (hg1.block im HI3.out.lt (by simp;omega)))
     have HW4:=hide ((hg1.block w.heap.size (by omega) (by simp;omega)).trans HW3.out)
     have HB4:=hide (HB3.out.grown hg1 HB3.out.size (fun q hq=>by cases hq;omega))
     have HGT:=hide hget
     clear hrg1 hg1 hget
     go_wp2_with (first
       | (at_delete;refine wp_drop rfl _ _ 86 rfl 156 Tryz.underlying86 hE1 rfl k hk rfl ?_;intro w5 hE2 ht2;go_frame))
     have hf2:=turned_far ht2
     have HR2:Hid (MapOn w5 rm w1.heap.size R (fun z=>left z && !(z==k)) cnt1):=hide ⟨HG1.out.1,HG1.out.2.kept ht2.grown (fun e=>by have:=Option.some.inj e;omega) (fun e=>by have:=Option.some.inj e;omega)⟩
     have HE3:=hide hE2
     have hs4:w4.heap.size=wr.heap.size:=hs1
     have HI5:=hide (HI4.out.kept (hf2.block im HI4.out.lt (fun q=>by omega)))
     have HW5:=hide ((hf2.block w.heap.size (by omega) (fun q=>by omega)).trans HW4.out)
     have HB5:=hide (HB4.out.trans (hf2.toBelow HB4.out.size (fun q hq (e:q=w.heap.size+1)=>by omega)))
     have hs5:=hf2.size
     have HML:Hid (Cutting P R (fun z=>left z && !(z==k)) (Hv.del Ec k)):=hide (fun k'=>by
       by_cases hkk:k'=k
       · subst hkk
         rw[Hv.get_del_same]
         have h1:Hv.has R k'=true:=by rw[Hv.has_get,HGT.out];rfl
         simp[h1]
       · rw[Hv.get_del_other HE.out.1 hkk,HM.out k']
         have:(left k' && !(k'==k))=left k':=by simp[hkk]
         simp only[this])
     have hlen:=Hv.del_len Ec k
     clear hE2 ht2 hf2 hE1
     go_roundw
     case rel=>exact ⟨_,cnt1,_,HR2,by omega,HE3,HML,HI5,HW5,HB5,by omega⟩
     case measure=>rw[HR2.out.2.left_eq,HG.out.2.left_eq];exact hlt
def absentB (P R:VM Value):Bool:=R.any fun p => !Hv.has P p.1
theorem absent_no {P R:VM Value} (h:∀ k,Hv.has R k=true→Hv.has P k=true):absentB P R=false:=by
 unfold absentB
 rw[List.any_eq_false]
 intro p hp
 have:Hv.has R p.1=true:=List.any_eq_true.2 ⟨p,hp,by simp⟩
 simp[h p.1 this]
theorem absent_yes {P R:VM Value} {k:S} (h:Hv.has R k=true) (hk:Hv.has P k=false):absentB P R=true:=by
 obtain ⟨p,hp,e⟩:=List.any_eq_true.1 h
 simp only[beq_iff_eq] at e
 exact List.any_eq_true.2 ⟨p,hp,by rw[e,hk];rfl⟩
theorem removesAbsent_any (pm rm im:Nat) (P R:VM Value) (hP:AllPk P) (hR:AllU R) (w:World) (hp:MapAt w pm P) (hr:MapAt w rm R) :
   Calls Tryz.prog 119 #[.map (some pm), .agg #[.map (some rm), .map (some im)]] w fun e w'=>e = .returned (.bool (absentB P R))∧Below w.heap.size w w':=by
 have hpl:=hp.lt
 have hrl:=hr.lt
 have HP:=hide hp;have HR:=hide hr
 clear hp hr
 go_enter Tryz.func119,Tryz.ntmps119
 have hr1:=HR.out.alloc (.cells #[.map (some rm), .map (some im)] 135)
 have hp1:=HP.out.alloc (.cells #[.map (some rm), .map (some im)] 135)
 go_wp2_with (first
   | (at_range;refine wp_range rfl _ 133 rfl 53 Tryz.underlying133 hr1 rfl ?_;intro w0 hrg0 hg0 hs0;have HG0:=hide hrg0;have HP0:=hide (hp1.kept (hg0.block pm hp1.lt (by simp)));have HB0:=hide (((Below.refl w.heap.size w).alloc (Nat.le_refl _) (.cells #[.map (some rm), .map (some im)] 135)).grown hg0 (by simp) (fun q hq=>by cases hq));clear hrg0 hg0))
 have hsz:(w.alloc (.cells #[.map (some rm), .map (some im)] 135)).heap.size=w.heap.size+1:=by simp
 rw[hsz] at HG0 hs0 ⊢
 go_frame
 go_loopw [5] (fun _ wr=>∃ (left:S→Bool) (cnt:Nat),Hid (MapOn wr rm (w.heap.size+1) R left cnt)∧Hid (MapAt wr pm P)∧Hid (∀ k,Hv.has R k=true→left k=true∨Hv.has P k=true)∧Hid (Below w.heap.size w wr)∧w.heap.size+1<wr.heap.size)
   (fun _ wr=>wr.rangeLeft rm (w.heap.size+1))
 case atStart=>exact ⟨_,_,HG0,HP0,hide (fun k h => .inl h),HB0,by omega⟩
 case round =>
   clear HG0 HP0 HB0 hr1 hp1
   obtain ⟨left,cnt,HG,HP1,HL,HB,hsz1⟩:=hrel
   go_wp2_with (first
     | (at_next;refine wp_next rfl _ rfl (w.heap.size+1) left cnt rfl HG.out ?_ ?_))
   · intro hc0 hl0
     go_wp2_with fail
     go_ret
     rw[absent_no (fun k h=>(HL.out k h).resolve_left (by rw[hl0 k];simp))]
     exact ⟨rfl,HB.out⟩
   · intro k v w4 cnt1 hk hlk hget hrg1 hlt hg1 hs1 hen
     obtain rfl:=hR k v hget
     have HG1:=hide hrg1
     have hP4:=HP1.out.kept (hg1.block pm HP1.out.lt (by simp;omega))
     have HB4:=hide (HB.out.grown hg1 HB.out.size (fun q hq=>by cases hq;omega))
     have hRk:Hv.has R k=true:=by rw[Hv.has_get,hget];rfl
     have hs4:w4.heap.size=wr.heap.size:=hs1
     clear hrg1 hg1 hget
     cases hq:Hv.get P k with
     | none =>
       have hPk:Hv.has P k=false:=by rw[Hv.has_get,hq];rfl
       go_wp2_with (first
         | (at_lookup;refine wp_look_ok rfl _ _ 86 rfl 156 Tryz.underlying86 (zero_pk _) hP4 rfl k hk rfl ?_;rw[hq,hPk];simp only[Option.getD_none]))
       go_ret
       rw[absent_yes hRk hPk]
       exact ⟨rfl,HB4.out.alloc HB4.out.size _⟩
     | some u =>
       obtain ⟨p,rfl⟩:=hP k u hq
       have hPk:Hv.has P k=true:=by rw[Hv.has_get,hq];rfl
       go_wp2_with (first
         | (at_lookup;refine wp_look_ok rfl _ _ 86 rfl 156 Tryz.underlying86 (zero_pk _) hP4 rfl k hk rfl ?_;rw[hq,hPk];simp only[Option.getD_some,Pk.val,Pk.cells]))
       have HG2:Hid (MapOn (w4.alloc (.cells p.cells 156)) rm (w.heap.size+1) R (fun z=>left z && !(z==k)) cnt1):=hide ⟨HG1.out.1,HG1.out.2.alloc _⟩
       go_roundw
       case rel=>exact ⟨_,cnt1,HG2,hide (hP4.alloc _),hide (fun k' h'=>by
         rcases HL.out k' h' with q | q
         · by_cases e:k'=k
           · subst e;exact .inr hPk
           · exact .inl (by simp[q,e])
         · exact .inr q),hide (HB4.out.alloc HB4.out.size _),by simp;omega⟩
       case measure=>show (w4.alloc (.cells p.cells 156)).rangeLeft rm (w.heap.size+1)<_;rw[HG2.out.2.left_eq,HG.out.2.left_eq];exact hlt
theorem rulecmp_any (x y:S) (hx:Ver.fine x=true) (hy:Ver.fine y=true) (w:World) :
   Calls Tryz.prog 176 #[.string ⟨x.toArray⟩, .string ⟨y.toArray⟩] w fun e w'=>e = .returned (.int .i64 (Ver.compare x y).1)∧Below w.heap.size w w':=by
 rw[compare_ok hx hy]
 obtain ⟨l1,l2,l3⟩:=split3_len hx
 obtain ⟨m1,m2,m3⟩:=split3_len hy
 have HX:=hide (fun w=>parse_ok x hx w)
 have HY:=hide (fun w=>parse_ok y hy w)
 obtain ⟨e1,hsx⟩:∃ v,Ver.split3 x=v:=⟨_,rfl⟩
 obtain ⟨e2,hsy⟩:∃ v,Ver.split3 y=v:=⟨_,rfl⟩
 rw[hsx] at HX l1 l2 l3 ⊢
 rw[hsy] at HY m1 m2 m3 ⊢
 obtain ⟨a1,a2,a3⟩:=e1
 obtain ⟨b1,b2,b3⟩:=e2
 simp only at HX HY l1 l2 l3 m1 m2 m3
 clear hsx hsy hx hy
 go_enter Tryz.func176,Tryz.ntmps176
 go_wp2_with fail
 refine (HX.out _).mono ?_
 rintro e w1 ⟨rfl,hb1⟩
 have HB1:=hide hb1
 clear hb1
 go_wp2_with fail
 have hrow:=heap_alloc_new w1 (.cells #[.string ⟨a1.toArray⟩, .string ⟨a2.toArray⟩, .string ⟨a3.toArray⟩] 79)
 refine (HY.out _).mono ?_
 rintro e w2 ⟨rfl,hb2⟩
 have hr2:=(hb2.block w1.heap.size (by simp)).trans hrow
 have HB2:=hide ((HB1.out.alloc HB1.out.size (.cells #[.string ⟨a1.toArray⟩, .string ⟨a2.toArray⟩, .string ⟨a3.toArray⟩] 79)).trans (hb2.mono (by have:=HB1.out.size;simp;omega)))
 have hr3:=(Below.heap_alloc w2 (.cells #[.string ⟨b1.toArray⟩, .string ⟨b2.toArray⟩, .string ⟨b3.toArray⟩] 79) w1.heap.size (blt hr2)).trans hr2
 have c0:=(row_cell hr3 0).trans (show _=some (.string ⟨a1.toArray⟩) from rfl)
 have c1:=(row_cell hr3 1).trans (show _=some (.string ⟨a2.toArray⟩) from rfl)
 have c2:=(row_cell hr3 2).trans (show _=some (.string ⟨a3.toArray⟩) from rfl)
 clear hrow hb2 hr2 hr3
 go_wp2_with fail
 refine (vcmp_any a1 a2 a3 b1 b2 b3 l1 l2 l3 m1 m2 m3 _).mono ?_
 rintro e w3 ⟨rfl,hb3⟩
 have HB3:=hide ((HB2.out.alloc HB2.out.size _).trans (hb3.mono (by have:=HB2.out.size;simp;omega)))
 clear hb3
 go_wp2_with fail
 go_ret
 exact ⟨rfl,HB3.out⟩
end
end Go.Proofs.YtialenebfcnkkaaGreatDoor
