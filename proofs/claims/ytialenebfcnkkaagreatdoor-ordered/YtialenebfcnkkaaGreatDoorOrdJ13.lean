/- CmdW4, CmdW5, CmdW6, CmdW7 -/
import Derived.Test.YtialenebfcnkkaaGreatDoorOrdJ12
set_option maxHeartbeats 1000000
namespace Go.Proofs.YtialenebfcnkkaaGreatDoor
section
open Go.RowKit
theorem dH.wrote {w w1:World} {a b c d a' b' c' d':Value} (h:dH w a b c d a' b' c' d' w1) (v0 v1 v2 v3:Value):∃ w2,w2=(((w1.setCell ⟨w.heap.size,0,none⟩ v0).setCell ⟨w.heap.size,1,none⟩ v1).setCell ⟨w.heap.size,2,none⟩ v2).setCell ⟨w.heap.size,3,none⟩ v3 ∧
   w2.heap[w.heap.size]? = some (.cells #[v0,v1,v2,v3] 317 (0,0))∧Below w.heap.size w w2 :=
 ⟨_,rfl,heap_setCell_same _ _ 3 _ _ v3 (heap_setCell_same _ _ 2 _ _ v2 (heap_setCell_same _ _ 1 _ _ v1 (heap_setCell_same _ _ 0 _ _ v0 h.out))),(((h.bA.setCell (p:=⟨w.heap.size,0,none⟩) (Nat.le_refl _) _).setCell (p:=⟨w.heap.size,1,none⟩) (Nat.le_refl _) _).setCell (p:=⟨w.heap.size,2,none⟩) (Nat.le_refl _) _).setCell (p:=⟨w.heap.size,3,none⟩) (Nat.le_refl _) _⟩
theorem C8 (g o c:Nat) (p q:List UInt8) (hq:q.length≤2000) (w:World)
   (hg:g<w.heap.size) (c0:w.cell? ⟨g,o,none⟩=some (.string ⟨#[112,117,116]⟩)) (c1:w.cell? ⟨g,o+1,none⟩=some (.string ⟨p.toArray⟩)) (c2:w.cell? ⟨g,o+2,none⟩=some (.string ⟨q.toArray⟩)) (h1:Wd.isWord q=false) :
   Calls Tryz.prog 297 #[.slice (some ⟨g,o,none⟩) 3 c] w fun e w'=>e = .returned (.tuple #[.agg #[.int .i64 0, .string ⟨#[]⟩, .string ⟨#[]⟩, .string ⟨#[]⟩], .bool false])∧Below w.heap.size w w':=by
 have HI:=hide (dH.begin w (.int .i64 0) (.string ⟨#[]⟩) (.string ⟨#[]⟩) (.string ⟨#[]⟩) (.int .i64 1) (.string ⟨p.toArray⟩) (.string ⟨#[]⟩) (.string ⟨#[]⟩))
 have jc:=hide c2;clear c2
 go_enter Tryz.func297,Tryz.ntmps297
 go_wp2_with (go_at_call 310;refine (xY _ g o c p q hq _ HI.out.cmd ((HI.out.bA.cell (p:=⟨g,o+2,none⟩) hg).trans jc.out)).mono ?_;rintro e w1 ⟨he1,hb1⟩;rw[h1] at he1;subst he1;have HI1:=hide ((HI.out.set2 (.string ⟨q.toArray⟩)).on hb1);obtain ⟨r0,r1,r2,r3,r4,r5,r6,r7⟩:=ay HI1.out.cmd;obtain ⟨t0,t1,t2,t3,t4,t5,t6,t7⟩:=ay HI1.out.out;clear hb1)
 obtain ⟨w9,j4,hrow,hbel⟩:=HI1.out.wrote (.int .i64 0) (.string ⟨#[]⟩) (.string ⟨#[]⟩) (.string ⟨#[]⟩)
 obtain ⟨u0,u1,u2,u3, -⟩:=ay hrow
 rw[j4] at u0 u1 u2 u3 hbel
 exact bodyPost_ret (v := .tuple #[.agg #[.int .i64 0, .string ⟨#[]⟩, .string ⟨#[]⟩, .string ⟨#[]⟩], .bool false]) (by simp[results,Tryz.results297,go_sem,u0,u1,u2,u3]) rfl ⟨rfl,hbel⟩
theorem CZ (g o c:Nat) (p q:List UInt8) (hq:q.length≤2000) (hp:p.length≤2000) (mx:Int) (w:World) (hg0:3<w.heap.size) (hm:w.cell? ⟨3,0,none⟩=some (.int .i64 mx))
   (hg:g<w.heap.size) (c0:w.cell? ⟨g,o,none⟩=some (.string ⟨#[112,117,116]⟩)) (c1:w.cell? ⟨g,o+1,none⟩=some (.string ⟨p.toArray⟩)) (c2:w.cell? ⟨g,o+2,none⟩=some (.string ⟨q.toArray⟩)) (h1:Wd.isWord q=true) (h2:Wd.isVar p=false) :
   Calls Tryz.prog 297 #[.slice (some ⟨g,o,none⟩) 3 c] w fun e w'=>e = .returned (.tuple #[.agg #[.int .i64 0, .string ⟨#[]⟩, .string ⟨#[]⟩, .string ⟨#[]⟩], .bool false])∧Below w.heap.size w w':=by
 have HI:=hide (dH.begin w (.int .i64 0) (.string ⟨#[]⟩) (.string ⟨#[]⟩) (.string ⟨#[]⟩) (.int .i64 1) (.string ⟨p.toArray⟩) (.string ⟨#[]⟩) (.string ⟨#[]⟩))
 have HM:=hide hm;clear hm
 have jc:=hide c2;clear c2
 go_enter Tryz.func297,Tryz.ntmps297
 go_wp2_with (first
   | (go_at_call 310;refine (xY _ g o c p q hq _ HI.out.cmd ((HI.out.bA.cell (p:=⟨g,o+2,none⟩) hg).trans jc.out)).mono ?_;rintro e w1 ⟨he1,hb1⟩;rw[h1] at he1;subst he1;have HI1:=hide ((HI.out.set2 (.string ⟨q.toArray⟩)).on hb1);obtain ⟨r0,r1,r2,r3,r4,r5,r6,r7⟩:=ay HI1.out.cmd;obtain ⟨t0,t1,t2,t3,t4,t5,t6,t7⟩:=ay HI1.out.out;clear hb1)
   | (go_at_call 160;refine (gQ p hp mx _ ((HI1.out.bA.cell (p:=⟨3,0,none⟩) hg0).trans HM.out)).mono ?_;rintro e w2 ⟨he2,hb2⟩;rw[h2] at he2;subst he2;have HI2:=hide (HI1.out.on hb2);obtain ⟨s0,s1,s2,s3,s4,s5,s6,s7⟩:=ay HI2.out.cmd;obtain ⟨t0,t1,t2,t3,t4,t5,t6,t7⟩:=ay HI2.out.out;clear hb2))
 obtain ⟨w9,j4,hrow,hbel⟩:=HI2.out.wrote (.int .i64 0) (.string ⟨#[]⟩) (.string ⟨#[]⟩) (.string ⟨#[]⟩)
 obtain ⟨u0,u1,u2,u3, -⟩:=ay hrow
 rw[j4] at u0 u1 u2 u3 hbel
 exact bodyPost_ret (v := .tuple #[.agg #[.int .i64 0, .string ⟨#[]⟩, .string ⟨#[]⟩, .string ⟨#[]⟩], .bool false]) (by simp[results,Tryz.results297,go_sem,u0,u1,u2,u3]) rfl ⟨rfl,hbel⟩
theorem C9 (g o c:Nat) (p q:List UInt8) (hq:q.length≤2000) (hp:p.length≤2000) (mx:Int) (w:World) (hg0:3<w.heap.size) (hm:w.cell? ⟨3,0,none⟩=some (.int .i64 mx))
   (hg:g<w.heap.size) (c0:w.cell? ⟨g,o,none⟩=some (.string ⟨#[112,117,116]⟩)) (c1:w.cell? ⟨g,o+1,none⟩=some (.string ⟨p.toArray⟩)) (c2:w.cell? ⟨g,o+2,none⟩=some (.string ⟨q.toArray⟩)) (h1:Wd.isWord q=true) (h2:Wd.isVar p=true) :
   Calls Tryz.prog 297 #[.slice (some ⟨g,o,none⟩) 3 c] w fun e w'=>e = .returned (.tuple #[.agg #[.int .i64 1, .string ⟨p.toArray⟩, .string ⟨q.toArray⟩, .string ⟨#[]⟩], .bool true])∧Below w.heap.size w w':=by
 have HI:=hide (dH.begin w (.int .i64 0) (.string ⟨#[]⟩) (.string ⟨#[]⟩) (.string ⟨#[]⟩) (.int .i64 1) (.string ⟨p.toArray⟩) (.string ⟨#[]⟩) (.string ⟨#[]⟩))
 have HM:=hide hm;clear hm
 have jc:=hide c2;clear c2
 go_enter Tryz.func297,Tryz.ntmps297
 go_wp2_with (first
   | (go_at_call 310;refine (xY _ g o c p q hq _ HI.out.cmd ((HI.out.bA.cell (p:=⟨g,o+2,none⟩) hg).trans jc.out)).mono ?_;rintro e w1 ⟨he1,hb1⟩;rw[h1] at he1;subst he1;have HI1:=hide ((HI.out.set2 (.string ⟨q.toArray⟩)).on hb1);obtain ⟨r0,r1,r2,r3,r4,r5,r6,r7⟩:=ay HI1.out.cmd;obtain ⟨t0,t1,t2,t3,t4,t5,t6,t7⟩:=ay HI1.out.out;clear hb1)
   | (go_at_call 160;refine (gQ p hp mx _ ((HI1.out.bA.cell (p:=⟨3,0,none⟩) hg0).trans HM.out)).mono ?_;rintro e w2 ⟨he2,hb2⟩;rw[h2] at he2;subst he2;have HI2:=hide (HI1.out.on hb2);obtain ⟨s0,s1,s2,s3,s4,s5,s6,s7⟩:=ay HI2.out.cmd;obtain ⟨t0,t1,t2,t3,t4,t5,t6,t7⟩:=ay HI2.out.out;clear hb2))
 obtain ⟨w9,j4,hrow,hbel⟩:=HI2.out.told
 obtain ⟨u0,u1,u2,u3, -⟩:=ay hrow
 rw[j4] at u0 u1 u2 u3 hbel
 exact bodyPost_ret (v := .tuple #[.agg #[.int .i64 1, .string ⟨p.toArray⟩, .string ⟨q.toArray⟩, .string ⟨#[]⟩], .bool true]) (by simp[results,Tryz.results297,go_sem,u0,u1,u2,u3]) rfl ⟨rfl,hbel⟩
theorem CX (g o c:Nat) (p q:List UInt8) (hq:q.length≤2000) (w:World)
   (hg:g<w.heap.size) (c0:w.cell? ⟨g,o,none⟩=some (.string ⟨#[97,100,100]⟩)) (c1:w.cell? ⟨g,o+1,none⟩=some (.string ⟨p.toArray⟩)) (c2:w.cell? ⟨g,o+2,none⟩=some (.string ⟨q.toArray⟩)) (h1:Wd.isWord q=false) :
   Calls Tryz.prog 297 #[.slice (some ⟨g,o,none⟩) 3 c] w fun e w'=>e = .returned (.tuple #[.agg #[.int .i64 0, .string ⟨#[]⟩, .string ⟨#[]⟩, .string ⟨#[]⟩], .bool false])∧Below w.heap.size w w':=by
 have HI:=hide (dH.begin w (.int .i64 0) (.string ⟨#[]⟩) (.string ⟨#[]⟩) (.string ⟨#[]⟩) (.int .i64 2) (.string ⟨p.toArray⟩) (.string ⟨#[]⟩) (.string ⟨#[]⟩))
 have jc:=hide c2;clear c2
 go_enter Tryz.func297,Tryz.ntmps297
 go_wp2_with (go_at_call 310;refine (xX _ g o c p q hq _ HI.out.cmd ((HI.out.bA.cell (p:=⟨g,o+2,none⟩) hg).trans jc.out)).mono ?_;rintro e w1 ⟨he1,hb1⟩;rw[h1] at he1;subst he1;have HI1:=hide ((HI.out.set2 (.string ⟨q.toArray⟩)).on hb1);obtain ⟨r0,r1,r2,r3,r4,r5,r6,r7⟩:=ay HI1.out.cmd;obtain ⟨t0,t1,t2,t3,t4,t5,t6,t7⟩:=ay HI1.out.out;clear hb1)
 obtain ⟨w9,j4,hrow,hbel⟩:=HI1.out.wrote (.int .i64 0) (.string ⟨#[]⟩) (.string ⟨#[]⟩) (.string ⟨#[]⟩)
 obtain ⟨u0,u1,u2,u3, -⟩:=ay hrow
 rw[j4] at u0 u1 u2 u3 hbel
 exact bodyPost_ret (v := .tuple #[.agg #[.int .i64 0, .string ⟨#[]⟩, .string ⟨#[]⟩, .string ⟨#[]⟩], .bool false]) (by simp[results,Tryz.results297,go_sem,u0,u1,u2,u3]) rfl ⟨rfl,hbel⟩
theorem CW (g o c:Nat) (p q:List UInt8) (hq:q.length≤2000) (hp:p.length≤2000) (mx:Int) (w:World) (hg0:3<w.heap.size) (hm:w.cell? ⟨3,0,none⟩=some (.int .i64 mx))
   (hg:g<w.heap.size) (c0:w.cell? ⟨g,o,none⟩=some (.string ⟨#[97,100,100]⟩)) (c1:w.cell? ⟨g,o+1,none⟩=some (.string ⟨p.toArray⟩)) (c2:w.cell? ⟨g,o+2,none⟩=some (.string ⟨q.toArray⟩)) (h1:Wd.isWord q=true) (h2:Wd.isVar p=false) :
   Calls Tryz.prog 297 #[.slice (some ⟨g,o,none⟩) 3 c] w fun e w'=>e = .returned (.tuple #[.agg #[.int .i64 0, .string ⟨#[]⟩, .string ⟨#[]⟩, .string ⟨#[]⟩], .bool false])∧Below w.heap.size w w':=by
 have HI:=hide (dH.begin w (.int .i64 0) (.string ⟨#[]⟩) (.string ⟨#[]⟩) (.string ⟨#[]⟩) (.int .i64 2) (.string ⟨p.toArray⟩) (.string ⟨#[]⟩) (.string ⟨#[]⟩))
 have HM:=hide hm;clear hm
 have jc:=hide c2;clear c2
 go_enter Tryz.func297,Tryz.ntmps297
 go_wp2_with (first
   | (go_at_call 310;refine (xX _ g o c p q hq _ HI.out.cmd ((HI.out.bA.cell (p:=⟨g,o+2,none⟩) hg).trans jc.out)).mono ?_;rintro e w1 ⟨he1,hb1⟩;rw[h1] at he1;subst he1;have HI1:=hide ((HI.out.set2 (.string ⟨q.toArray⟩)).on hb1);obtain ⟨r0,r1,r2,r3,r4,r5,r6,r7⟩:=ay HI1.out.cmd;obtain ⟨t0,t1,t2,t3,t4,t5,t6,t7⟩:=ay HI1.out.out;clear hb1)
   | (go_at_call 160;refine (gQ p hp mx _ ((HI1.out.bA.cell (p:=⟨3,0,none⟩) hg0).trans HM.out)).mono ?_;rintro e w2 ⟨he2,hb2⟩;rw[h2] at he2;subst he2;have HI2:=hide (HI1.out.on hb2);obtain ⟨s0,s1,s2,s3,s4,s5,s6,s7⟩:=ay HI2.out.cmd;obtain ⟨t0,t1,t2,t3,t4,t5,t6,t7⟩:=ay HI2.out.out;clear hb2))
 obtain ⟨w9,j4,hrow,hbel⟩:=HI2.out.wrote (.int .i64 0) (.string ⟨#[]⟩) (.string ⟨#[]⟩) (.string ⟨#[]⟩)
 obtain ⟨u0,u1,u2,u3, -⟩:=ay hrow
 rw[j4] at u0 u1 u2 u3 hbel
 exact bodyPost_ret (v := .tuple #[.agg #[.int .i64 0, .string ⟨#[]⟩, .string ⟨#[]⟩, .string ⟨#[]⟩], .bool false]) (by simp[results,Tryz.results297,go_sem,u0,u1,u2,u3]) rfl ⟨rfl,hbel⟩
theorem CY (g o c:Nat) (p q:List UInt8) (hq:q.length≤2000) (hp:p.length≤2000) (mx:Int) (w:World) (hg0:3<w.heap.size) (hm:w.cell? ⟨3,0,none⟩=some (.int .i64 mx))
   (hg:g<w.heap.size) (c0:w.cell? ⟨g,o,none⟩=some (.string ⟨#[97,100,100]⟩)) (c1:w.cell? ⟨g,o+1,none⟩=some (.string ⟨p.toArray⟩)) (c2:w.cell? ⟨g,o+2,none⟩=some (.string ⟨q.toArray⟩)) (h1:Wd.isWord q=true) (h2:Wd.isVar p=true) :
   Calls Tryz.prog 297 #[.slice (some ⟨g,o,none⟩) 3 c] w fun e w'=>e = .returned (.tuple #[.agg #[.int .i64 2, .string ⟨p.toArray⟩, .string ⟨q.toArray⟩, .string ⟨#[]⟩], .bool true])∧Below w.heap.size w w':=by
 have HI:=hide (dH.begin w (.int .i64 0) (.string ⟨#[]⟩) (.string ⟨#[]⟩) (.string ⟨#[]⟩) (.int .i64 2) (.string ⟨p.toArray⟩) (.string ⟨#[]⟩) (.string ⟨#[]⟩))
 have HM:=hide hm;clear hm
 have jc:=hide c2;clear c2
 go_enter Tryz.func297,Tryz.ntmps297
 go_wp2_with (first
   | (go_at_call 310;refine (xX _ g o c p q hq _ HI.out.cmd ((HI.out.bA.cell (p:=⟨g,o+2,none⟩) hg).trans jc.out)).mono ?_;rintro e w1 ⟨he1,hb1⟩;rw[h1] at he1;subst he1;have HI1:=hide ((HI.out.set2 (.string ⟨q.toArray⟩)).on hb1);obtain ⟨r0,r1,r2,r3,r4,r5,r6,r7⟩:=ay HI1.out.cmd;obtain ⟨t0,t1,t2,t3,t4,t5,t6,t7⟩:=ay HI1.out.out;clear hb1)
   | (go_at_call 160;refine (gQ p hp mx _ ((HI1.out.bA.cell (p:=⟨3,0,none⟩) hg0).trans HM.out)).mono ?_;rintro e w2 ⟨he2,hb2⟩;rw[h2] at he2;subst he2;have HI2:=hide (HI1.out.on hb2);obtain ⟨s0,s1,s2,s3,s4,s5,s6,s7⟩:=ay HI2.out.cmd;obtain ⟨t0,t1,t2,t3,t4,t5,t6,t7⟩:=ay HI2.out.out;clear hb2))
 obtain ⟨w9,j4,hrow,hbel⟩:=HI2.out.told
 obtain ⟨u0,u1,u2,u3, -⟩:=ay hrow
 rw[j4] at u0 u1 u2 u3 hbel
 exact bodyPost_ret (v := .tuple #[.agg #[.int .i64 2, .string ⟨p.toArray⟩, .string ⟨q.toArray⟩, .string ⟨#[]⟩], .bool true]) (by simp[results,Tryz.results297,go_sem,u0,u1,u2,u3]) rfl ⟨rfl,hbel⟩
theorem AJ (g o c:Nat) (p:List UInt8) (hp:p.length≤2000) (mx:Int) (w:World) (hg0:3<w.heap.size) (hm:w.cell? ⟨3,0,none⟩=some (.int .i64 mx))
   (hg:g<w.heap.size) (c0:w.cell? ⟨g,o,none⟩=some (.string ⟨#[100,114,111,112]⟩)) (c1:w.cell? ⟨g,o+1,none⟩=some (.string ⟨p.toArray⟩)) (h2:Wd.isVar p=false) :
   Calls Tryz.prog 297 #[.slice (some ⟨g,o,none⟩) 2 c] w fun e w'=>e = .returned (.tuple #[.agg #[.int .i64 0, .string ⟨#[]⟩, .string ⟨#[]⟩, .string ⟨#[]⟩], .bool false])∧Below w.heap.size w w':=by
 have HI:=hide (dH.begin w (.int .i64 0) (.string ⟨#[]⟩) (.string ⟨#[]⟩) (.string ⟨#[]⟩) (.int .i64 4) (.string ⟨p.toArray⟩) (.string ⟨#[]⟩) (.string ⟨#[]⟩))
 have HM:=hide hm;clear hm
 go_enter Tryz.func297,Tryz.ntmps297
 go_wp2_with (first
   | (go_at_call 310;refine (Cr _ _ p _ HI.out.cmd).mono ?_;rintro e w1 ⟨rfl,hb1⟩;have HI1:=hide (HI.out.on hb1);obtain ⟨r0,r1,r2,r3,r4,r5,r6,r7⟩:=ay HI1.out.cmd;obtain ⟨t0,t1,t2,t3,t4,t5,t6,t7⟩:=ay HI1.out.out;clear hb1)
   | (go_at_call 160;refine (gQ p hp mx _ ((HI1.out.bA.cell (p:=⟨3,0,none⟩) hg0).trans HM.out)).mono ?_;rintro e w2 ⟨he2,hb2⟩;rw[h2] at he2;subst he2;have HI2:=hide (HI1.out.on hb2);obtain ⟨s0,s1,s2,s3,s4,s5,s6,s7⟩:=ay HI2.out.cmd;obtain ⟨t0,t1,t2,t3,t4,t5,t6,t7⟩:=ay HI2.out.out;clear hb2))
 obtain ⟨w9,j4,hrow,hbel⟩:=HI2.out.wrote (.int .i64 0) (.string ⟨#[]⟩) (.string ⟨#[]⟩) (.string ⟨#[]⟩)
 obtain ⟨u0,u1,u2,u3, -⟩:=ay hrow
 rw[j4] at u0 u1 u2 u3 hbel
 exact bodyPost_ret (v := .tuple #[.agg #[.int .i64 0, .string ⟨#[]⟩, .string ⟨#[]⟩, .string ⟨#[]⟩], .bool false]) (by simp[results,Tryz.results297,go_sem,u0,u1,u2,u3]) rfl ⟨rfl,hbel⟩
theorem AL (g o c:Nat) (p:List UInt8) (hp:p.length≤2000) (mx:Int) (w:World) (hg0:3<w.heap.size) (hm:w.cell? ⟨3,0,none⟩=some (.int .i64 mx))
   (hg:g<w.heap.size) (c0:w.cell? ⟨g,o,none⟩=some (.string ⟨#[100,114,111,112]⟩)) (c1:w.cell? ⟨g,o+1,none⟩=some (.string ⟨p.toArray⟩)) (h2:Wd.isVar p=true) :
   Calls Tryz.prog 297 #[.slice (some ⟨g,o,none⟩) 2 c] w fun e w'=>e = .returned (.tuple #[.agg #[.int .i64 4, .string ⟨p.toArray⟩, .string ⟨#[]⟩, .string ⟨#[]⟩], .bool true])∧Below w.heap.size w w':=by
 have HI:=hide (dH.begin w (.int .i64 0) (.string ⟨#[]⟩) (.string ⟨#[]⟩) (.string ⟨#[]⟩) (.int .i64 4) (.string ⟨p.toArray⟩) (.string ⟨#[]⟩) (.string ⟨#[]⟩))
 have HM:=hide hm;clear hm
 go_enter Tryz.func297,Tryz.ntmps297
 go_wp2_with (first
   | (go_at_call 310;refine (Cr _ _ p _ HI.out.cmd).mono ?_;rintro e w1 ⟨rfl,hb1⟩;have HI1:=hide (HI.out.on hb1);obtain ⟨r0,r1,r2,r3,r4,r5,r6,r7⟩:=ay HI1.out.cmd;obtain ⟨t0,t1,t2,t3,t4,t5,t6,t7⟩:=ay HI1.out.out;clear hb1)
   | (go_at_call 160;refine (gQ p hp mx _ ((HI1.out.bA.cell (p:=⟨3,0,none⟩) hg0).trans HM.out)).mono ?_;rintro e w2 ⟨he2,hb2⟩;rw[h2] at he2;subst he2;have HI2:=hide (HI1.out.on hb2);obtain ⟨s0,s1,s2,s3,s4,s5,s6,s7⟩:=ay HI2.out.cmd;obtain ⟨t0,t1,t2,t3,t4,t5,t6,t7⟩:=ay HI2.out.out;clear hb2))
 obtain ⟨w9,j4,hrow,hbel⟩:=HI2.out.told
 obtain ⟨u0,u1,u2,u3, -⟩:=ay hrow
 rw[j4] at u0 u1 u2 u3 hbel
 exact bodyPost_ret (v := .tuple #[.agg #[.int .i64 4, .string ⟨p.toArray⟩, .string ⟨#[]⟩, .string ⟨#[]⟩], .bool true]) (by simp[results,Tryz.results297,go_sem,u0,u1,u2,u3]) rfl ⟨rfl,hbel⟩
theorem AO (g o c:Nat) (p:List UInt8) (hp:p.length≤2000) (mx:Int) (w:World) (hg0:3<w.heap.size) (hm:w.cell? ⟨3,0,none⟩=some (.int .i64 mx))
   (hg:g<w.heap.size) (c0:w.cell? ⟨g,o,none⟩=some (.string ⟨#[108,105,115,116]⟩)) (c1:w.cell? ⟨g,o+1,none⟩=some (.string ⟨p.toArray⟩)) (h2:Wd.isVar p=false) :
   Calls Tryz.prog 297 #[.slice (some ⟨g,o,none⟩) 2 c] w fun e w'=>e = .returned (.tuple #[.agg #[.int .i64 0, .string ⟨#[]⟩, .string ⟨#[]⟩, .string ⟨#[]⟩], .bool false])∧Below w.heap.size w w':=by
 have HI:=hide (dH.begin w (.int .i64 0) (.string ⟨#[]⟩) (.string ⟨#[]⟩) (.string ⟨#[]⟩) (.int .i64 5) (.string ⟨p.toArray⟩) (.string ⟨#[]⟩) (.string ⟨#[]⟩))
 have HM:=hide hm;clear hm
 go_enter Tryz.func297,Tryz.ntmps297
 go_wp2_with (first
   | (go_at_call 310;refine (Ct _ _ p _ HI.out.cmd).mono ?_;rintro e w1 ⟨rfl,hb1⟩;have HI1:=hide (HI.out.on hb1);obtain ⟨r0,r1,r2,r3,r4,r5,r6,r7⟩:=ay HI1.out.cmd;obtain ⟨t0,t1,t2,t3,t4,t5,t6,t7⟩:=ay HI1.out.out;clear hb1)
   | (go_at_call 160;refine (gQ p hp mx _ ((HI1.out.bA.cell (p:=⟨3,0,none⟩) hg0).trans HM.out)).mono ?_;rintro e w2 ⟨he2,hb2⟩;rw[h2] at he2;subst he2;have HI2:=hide (HI1.out.on hb2);obtain ⟨s0,s1,s2,s3,s4,s5,s6,s7⟩:=ay HI2.out.cmd;obtain ⟨t0,t1,t2,t3,t4,t5,t6,t7⟩:=ay HI2.out.out;clear hb2))
 obtain ⟨w9,j4,hrow,hbel⟩:=HI2.out.wrote (.int .i64 0) (.string ⟨#[]⟩) (.string ⟨#[]⟩) (.string ⟨#[]⟩)
 obtain ⟨u0,u1,u2,u3, -⟩:=ay hrow
 rw[j4] at u0 u1 u2 u3 hbel
 exact bodyPost_ret (v := .tuple #[.agg #[.int .i64 0, .string ⟨#[]⟩, .string ⟨#[]⟩, .string ⟨#[]⟩], .bool false]) (by simp[results,Tryz.results297,go_sem,u0,u1,u2,u3]) rfl ⟨rfl,hbel⟩
theorem AP (g o c:Nat) (p:List UInt8) (hp:p.length≤2000) (mx:Int) (w:World) (hg0:3<w.heap.size) (hm:w.cell? ⟨3,0,none⟩=some (.int .i64 mx))
   (hg:g<w.heap.size) (c0:w.cell? ⟨g,o,none⟩=some (.string ⟨#[108,105,115,116]⟩)) (c1:w.cell? ⟨g,o+1,none⟩=some (.string ⟨p.toArray⟩)) (h2:Wd.isVar p=true) :
   Calls Tryz.prog 297 #[.slice (some ⟨g,o,none⟩) 2 c] w fun e w'=>e = .returned (.tuple #[.agg #[.int .i64 5, .string ⟨p.toArray⟩, .string ⟨#[]⟩, .string ⟨#[]⟩], .bool true])∧Below w.heap.size w w':=by
 have HI:=hide (dH.begin w (.int .i64 0) (.string ⟨#[]⟩) (.string ⟨#[]⟩) (.string ⟨#[]⟩) (.int .i64 5) (.string ⟨p.toArray⟩) (.string ⟨#[]⟩) (.string ⟨#[]⟩))
 have HM:=hide hm;clear hm
 go_enter Tryz.func297,Tryz.ntmps297
 go_wp2_with (first
   | (go_at_call 310;refine (Ct _ _ p _ HI.out.cmd).mono ?_;rintro e w1 ⟨rfl,hb1⟩;have HI1:=hide (HI.out.on hb1);obtain ⟨r0,r1,r2,r3,r4,r5,r6,r7⟩:=ay HI1.out.cmd;obtain ⟨t0,t1,t2,t3,t4,t5,t6,t7⟩:=ay HI1.out.out;clear hb1)
   | (go_at_call 160;refine (gQ p hp mx _ ((HI1.out.bA.cell (p:=⟨3,0,none⟩) hg0).trans HM.out)).mono ?_;rintro e w2 ⟨he2,hb2⟩;rw[h2] at he2;subst he2;have HI2:=hide (HI1.out.on hb2);obtain ⟨s0,s1,s2,s3,s4,s5,s6,s7⟩:=ay HI2.out.cmd;obtain ⟨t0,t1,t2,t3,t4,t5,t6,t7⟩:=ay HI2.out.out;clear hb2))
 obtain ⟨w9,j4,hrow,hbel⟩:=HI2.out.told
 obtain ⟨u0,u1,u2,u3, -⟩:=ay hrow
 rw[j4] at u0 u1 u2 u3 hbel
 exact bodyPost_ret (v := .tuple #[.agg #[.int .i64 5, .string ⟨p.toArray⟩, .string ⟨#[]⟩, .string ⟨#[]⟩], .bool true]) (by simp[results,Tryz.results297,go_sem,u0,u1,u2,u3]) rfl ⟨rfl,hbel⟩
theorem uN (b g o c:Nat) (p q:List UInt8) (hp:p.length≤2000) (mx:Int) (w:World) (hm:w.cell? ⟨3,0,none⟩=some (.int .i64 mx)) (hmb:3<b)
   (hb:w.heap[b]? = some (.cells #[.int .i64 3, .string ⟨p.toArray⟩, .string ⟨#[]⟩, .string ⟨#[]⟩] 317 (0,0)))
   (h1:w.cell? ⟨g,o+1,none⟩=some (.string ⟨p.toArray⟩)) (h2:w.cell? ⟨g,o+2,none⟩=some (.string ⟨q.toArray⟩)) :
   Calls Tryz.prog 310 #[.pointer (some ⟨b,0,none⟩), .slice (some ⟨g,o,none⟩) 3 c] w fun e w'=>e = .returned (.bool (Wd.bL p))∧w'.heap[b]? = some (.cells #[.int .i64 3, .string ⟨q.toArray⟩, .string ⟨#[]⟩, .string ⟨p.toArray⟩] 317 (0,0))∧Below b w w':=by
 have k0:=(ah hb 0).trans (show _=some (.int .i64 3) from rfl)
 have k1:=(ah hb 1).trans (show _=some (.string ⟨p.toArray⟩) from rfl)
 have k3:=(ah hb 3).trans (show _=some (.string ⟨#[]⟩) from rfl)
 have f1:=ak hb 1
 have f3:=ak hb 3
 have aeG : ¬ 3=b:=by omega
 have HM:=hide hm
 have HB:=hide hb;clear hb hm
 go_enter Tryz.func310,Tryz.ntmps310
 go_wp2_with fail
 go_region
 obtain ⟨wn,hwn,hrow,hbel⟩:∃ wn,wn=((w.setCell ⟨b,3,none⟩ (.string ⟨p.toArray⟩)).setCell ⟨b,1,none⟩ (.string ⟨q.toArray⟩)).drew∧wn.heap[b]? = some (.cells #[.int .i64 3, .string ⟨q.toArray⟩, .string ⟨#[]⟩, .string ⟨p.toArray⟩] 317 (0,0))∧Below b w wn :=
   ⟨_,rfl,heap_setCell_same _ b 1 _ _ _ (heap_setCell_same _ b 3 _ _ _ HB.out),below_drewN (((Below.refl b w).setCell (p:=⟨b,3,none⟩) (Nat.le_refl _) _).setCell (p:=⟨b,1,none⟩) (Nat.le_refl _) _) 1⟩
 rw[← hwn]
 have r3:=(ah hrow 3).trans (show _=some (.string ⟨p.toArray⟩) from rfl)
 have HMN:=hide ((hbel.cell (p:=⟨3,0,none⟩) hmb).trans HM.out)
 have HR:=hide hrow;have Vk:=hide hbel
 have hbl:=(Array.getElem?_eq_some_iff.1 hrow).1
 clear hrow hbel hwn k0 k1 k3 f1 f3
 go_wp2_with (go_at_call 213;refine (iA p hp mx _ HMN.out).mono ?_;rintro e w' ⟨rfl,hbw⟩)
 go_ret
 exact ⟨rfl,(hbw.block _ hbl).trans HR.out,Vk.out.trans (hbw.mono (Nat.le_of_lt hbl))⟩
theorem dH.over {w w1 w2:World} {a b c d a' b' c' d' x0 x1 x2 x3:Value} (h:dH w a b c d a' b' c' d' w1) (hr:w2.heap[w.heap.size+1]? = some (.cells #[x0,x1,x2,x3] 317 (0,0))) (hb:Below (w.heap.size+1) w1 w2):dH w a b c d x0 x1 x2 x3 w2 :=
 ⟨(hb.block _ (by omega)).trans h.out,hr,h.bA.trans (hb.mono (by omega))⟩
theorem AA (g o c:Nat) (p q:List UInt8) (hp:p.length≤2000) (mx:Int) (w:World) (hg0:3<w.heap.size) (hm:w.cell? ⟨3,0,none⟩=some (.int .i64 mx))
   (hg:g<w.heap.size) (c0:w.cell? ⟨g,o,none⟩=some (.string ⟨#[99,111,112,121]⟩)) (c1:w.cell? ⟨g,o+1,none⟩=some (.string ⟨p.toArray⟩)) (c2:w.cell? ⟨g,o+2,none⟩=some (.string ⟨q.toArray⟩)) (h1:Wd.bL p=false) :
   Calls Tryz.prog 297 #[.slice (some ⟨g,o,none⟩) 3 c] w fun e w'=>e = .returned (.tuple #[.agg #[.int .i64 0, .string ⟨#[]⟩, .string ⟨#[]⟩, .string ⟨#[]⟩], .bool false])∧Below w.heap.size w w':=by
 have HI:=hide (dH.begin w (.int .i64 0) (.string ⟨#[]⟩) (.string ⟨#[]⟩) (.string ⟨#[]⟩) (.int .i64 3) (.string ⟨p.toArray⟩) (.string ⟨#[]⟩) (.string ⟨#[]⟩))
 have HM:=hide hm;clear hm
 have zP:=hide c1;have jc:=hide c2;clear c2
 go_enter Tryz.func297,Tryz.ntmps297
 go_wp2_with (go_at_call 310;refine (uN _ g o c p q hp mx _ ((HI.out.bA.cell (p:=⟨3,0,none⟩) hg0).trans HM.out) (by omega) HI.out.cmd ((HI.out.bA.cell (p:=⟨g,o+1,none⟩) hg).trans zP.out) ((HI.out.bA.cell (p:=⟨g,o+2,none⟩) hg).trans jc.out)).mono ?_;rintro e w1 ⟨he1,hr1,hb1⟩;rw[h1] at he1;subst he1;have HI1:=hide (HI.out.over hr1 hb1);obtain ⟨r0,r1,r2,r3,r4,r5,r6,r7⟩:=ay HI1.out.cmd;obtain ⟨t0,t1,t2,t3,t4,t5,t6,t7⟩:=ay HI1.out.out;clear hb1 hr1)
 obtain ⟨w9,j4,hrow,hbel⟩:=HI1.out.wrote (.int .i64 0) (.string ⟨#[]⟩) (.string ⟨#[]⟩) (.string ⟨#[]⟩)
 obtain ⟨u0,u1,u2,u3, -⟩:=ay hrow
 rw[j4] at u0 u1 u2 u3 hbel
 exact bodyPost_ret (v := .tuple #[.agg #[.int .i64 0, .string ⟨#[]⟩, .string ⟨#[]⟩, .string ⟨#[]⟩], .bool false]) (by simp[results,Tryz.results297,go_sem,u0,u1,u2,u3]) rfl ⟨rfl,hbel⟩
theorem Az (g o c:Nat) (p q:List UInt8) (hq:q.length≤2000) (hp:p.length≤2000) (mx:Int) (w:World) (hg0:3<w.heap.size) (hm:w.cell? ⟨3,0,none⟩=some (.int .i64 mx))
   (hg:g<w.heap.size) (c0:w.cell? ⟨g,o,none⟩=some (.string ⟨#[99,111,112,121]⟩)) (c1:w.cell? ⟨g,o+1,none⟩=some (.string ⟨p.toArray⟩)) (c2:w.cell? ⟨g,o+2,none⟩=some (.string ⟨q.toArray⟩)) (h1:Wd.bL p=true) (h2:Wd.isVar q=false) :
   Calls Tryz.prog 297 #[.slice (some ⟨g,o,none⟩) 3 c] w fun e w'=>e = .returned (.tuple #[.agg #[.int .i64 0, .string ⟨#[]⟩, .string ⟨#[]⟩, .string ⟨#[]⟩], .bool false])∧Below w.heap.size w w':=by
 have HI:=hide (dH.begin w (.int .i64 0) (.string ⟨#[]⟩) (.string ⟨#[]⟩) (.string ⟨#[]⟩) (.int .i64 3) (.string ⟨p.toArray⟩) (.string ⟨#[]⟩) (.string ⟨#[]⟩))
 have HM:=hide hm;clear hm
 have zP:=hide c1;have jc:=hide c2;clear c2
 go_enter Tryz.func297,Tryz.ntmps297
 go_wp2_with (first
   | (go_at_call 310;refine (uN _ g o c p q hp mx _ ((HI.out.bA.cell (p:=⟨3,0,none⟩) hg0).trans HM.out) (by omega) HI.out.cmd ((HI.out.bA.cell (p:=⟨g,o+1,none⟩) hg).trans zP.out) ((HI.out.bA.cell (p:=⟨g,o+2,none⟩) hg).trans jc.out)).mono ?_;rintro e w1 ⟨he1,hr1,hb1⟩;rw[h1] at he1;subst he1;have HI1:=hide (HI.out.over hr1 hb1);obtain ⟨r0,r1,r2,r3,r4,r5,r6,r7⟩:=ay HI1.out.cmd;obtain ⟨t0,t1,t2,t3,t4,t5,t6,t7⟩:=ay HI1.out.out;clear hb1 hr1)
   | (go_at_call 160;refine (gQ q hq mx _ ((HI1.out.bA.cell (p:=⟨3,0,none⟩) hg0).trans HM.out)).mono ?_;rintro e w2 ⟨he2,hb2⟩;rw[h2] at he2;subst he2;have HI2:=hide (HI1.out.on hb2);obtain ⟨s0,s1,s2,s3,s4,s5,s6,s7⟩:=ay HI2.out.cmd;obtain ⟨t0,t1,t2,t3,t4,t5,t6,t7⟩:=ay HI2.out.out;clear hb2))
 obtain ⟨w9,j4,hrow,hbel⟩:=HI2.out.wrote (.int .i64 0) (.string ⟨#[]⟩) (.string ⟨#[]⟩) (.string ⟨#[]⟩)
 obtain ⟨u0,u1,u2,u3, -⟩:=ay hrow
 rw[j4] at u0 u1 u2 u3 hbel
 exact bodyPost_ret (v := .tuple #[.agg #[.int .i64 0, .string ⟨#[]⟩, .string ⟨#[]⟩, .string ⟨#[]⟩], .bool false]) (by simp[results,Tryz.results297,go_sem,u0,u1,u2,u3]) rfl ⟨rfl,hbel⟩
theorem AB (g o c:Nat) (p q:List UInt8) (hq:q.length≤2000) (hp:p.length≤2000) (mx:Int) (w:World) (hg0:3<w.heap.size) (hm:w.cell? ⟨3,0,none⟩=some (.int .i64 mx))
   (hg:g<w.heap.size) (c0:w.cell? ⟨g,o,none⟩=some (.string ⟨#[99,111,112,121]⟩)) (c1:w.cell? ⟨g,o+1,none⟩=some (.string ⟨p.toArray⟩)) (c2:w.cell? ⟨g,o+2,none⟩=some (.string ⟨q.toArray⟩)) (h1:Wd.bL p=true) (h2:Wd.isVar q=true) :
   Calls Tryz.prog 297 #[.slice (some ⟨g,o,none⟩) 3 c] w fun e w'=>e = .returned (.tuple #[.agg #[.int .i64 3, .string ⟨q.toArray⟩, .string ⟨#[]⟩, .string ⟨p.toArray⟩], .bool true])∧Below w.heap.size w w':=by
 have HI:=hide (dH.begin w (.int .i64 0) (.string ⟨#[]⟩) (.string ⟨#[]⟩) (.string ⟨#[]⟩) (.int .i64 3) (.string ⟨p.toArray⟩) (.string ⟨#[]⟩) (.string ⟨#[]⟩))
 have HM:=hide hm;clear hm
 have zP:=hide c1;have jc:=hide c2;clear c2
 go_enter Tryz.func297,Tryz.ntmps297
 go_wp2_with (first
   | (go_at_call 310;refine (uN _ g o c p q hp mx _ ((HI.out.bA.cell (p:=⟨3,0,none⟩) hg0).trans HM.out) (by omega) HI.out.cmd ((HI.out.bA.cell (p:=⟨g,o+1,none⟩) hg).trans zP.out) ((HI.out.bA.cell (p:=⟨g,o+2,none⟩) hg).trans jc.out)).mono ?_;rintro e w1 ⟨he1,hr1,hb1⟩;rw[h1] at he1;subst he1;have HI1:=hide (HI.out.over hr1 hb1);obtain ⟨r0,r1,r2,r3,r4,r5,r6,r7⟩:=ay HI1.out.cmd;obtain ⟨t0,t1,t2,t3,t4,t5,t6,t7⟩:=ay HI1.out.out;clear hb1 hr1)
   | (go_at_call 160;refine (gQ q hq mx _ ((HI1.out.bA.cell (p:=⟨3,0,none⟩) hg0).trans HM.out)).mono ?_;rintro e w2 ⟨he2,hb2⟩;rw[h2] at he2;subst he2;have HI2:=hide (HI1.out.on hb2);obtain ⟨s0,s1,s2,s3,s4,s5,s6,s7⟩:=ay HI2.out.cmd;obtain ⟨t0,t1,t2,t3,t4,t5,t6,t7⟩:=ay HI2.out.out;clear hb2))
 obtain ⟨w9,j4,hrow,hbel⟩:=HI2.out.told
 obtain ⟨u0,u1,u2,u3, -⟩:=ay hrow
 rw[j4] at u0 u1 u2 u3 hbel
 exact bodyPost_ret (v := .tuple #[.agg #[.int .i64 3, .string ⟨q.toArray⟩, .string ⟨#[]⟩, .string ⟨p.toArray⟩], .bool true]) (by simp[results,Tryz.results297,go_sem,u0,u1,u2,u3]) rfl ⟨rfl,hbel⟩
def acM (x:aH.gH × Bool):Value := .tuple #[.agg #[.int .i64 x.1.verb, .string ⟨x.1.path.toArray⟩, .string ⟨x.1.word.toArray⟩, .string ⟨x.1.ZC.toArray⟩], .bool x.2]
theorem Ut (v:List UInt8):aH.vb v=0∨v=[112,117,116]∨v=[97,100,100]∨v=[99,111,112,121]∨v=[100,114,111,112]∨v=[108,105,115,116]:=by
 unfold aH.vb
 by_cases h1:v=[112,117,116]
 · exact .inr (.inl h1)
 by_cases h2:v=[97,100,100]
 · exact .inr (.inr (.inl h2))
 by_cases h3:v=[99,111,112,121]
 · exact .inr (.inr (.inr (.inl h3)))
 by_cases h4:v=[100,114,111,112]
 · exact .inr (.inr (.inr (.inr (.inl h4))))
 by_cases h5:v=[108,105,115,116]
 · exact .inr (.inr (.inr (.inr (.inr h5))))
 left;simp[h1,h2,h3,h4,h5]
theorem qd (ao:Option Addr) (g o c:Nat) (ws:List (List UInt8)) (hw:∀ x∈ws,x.length≤2000) (mx:Int) (w:World) (hg0:3<w.heap.size) (hm:w.cell? ⟨3,0,none⟩=some (.int .i64 mx))
   (hs:2≤ws.length→ao=some ⟨g,o,none⟩∧g<w.heap.size) (hc:∀ j x,ws[j]? = some x→w.cell? ⟨g,o+j,none⟩=some (.string ⟨x.toArray⟩)) :
   Calls Tryz.prog 297 #[.slice ao ws.length c] w fun e w'=>e = .returned (acM (aH.bZ ws))∧Below w.heap.size w w':=by
 match ws,hw,hs,hc with
 | [],_,_,_=>exact yD ao 0 c (by omega) w
 | [v],_,_,_=>exact yD ao 1 c (by omega) w
 | v::p::rest,hw,hs,hc =>
   obtain ⟨rfl,hg⟩:=hs (by simp)
   have c0:=hc 0 v rfl
   have c1:=hc 1 p rfl
   have hp:=hw p (by simp)
   have hn:2≤(v::p::rest).length:=by simp
   rcases Ut v with hv | rfl | rfl | rfl | rfl | rfl
   · have e:aH.bZ (v::p::rest)=(.zero,false):=by simp[aH.bZ,hv]
     rw[e];exact KC g o _ c v p hn hv w hg c0 c1
   · match rest,hw,hc,hn with
     | [q],hw,hc,_ =>
       have c2:=hc 2 q rfl
       have hq:=hw q (by simp)
       cases ha:Wd.isWord q with
       | false =>
         have e:aH.bZ [[112,117,116],p,q]=(.zero,false):=by simp[aH.bZ,aH.vb,ha]
         rw[e];exact C8 g o c p q hq w hg c0 c1 c2 ha
       | true=>cases hb:Wd.isVar p with
         | false =>
           have e:aH.bZ [[112,117,116],p,q]=(.zero,false):=by simp[aH.bZ,aH.vb,hb]
           rw[e];exact CZ g o c p q hq hp mx w hg0 hm hg c0 c1 c2 ha hb
         | true =>
           have e:aH.bZ [[112,117,116],p,q]=(⟨1,p,q,[]⟩,true):=by simp[aH.bZ,aH.vb,ha,hb]
           rw[e];exact C9 g o c p q hq hp mx w hg0 hm hg c0 c1 c2 ha hb
     | [],_,_,hn =>
       have e:aH.bZ [[112,117,116],p]=(.zero,false):=by simp[aH.bZ,aH.vb]
       rw[e];exact mX g o _ c p hn (by simp) w hg c0 c1
     | x::y::l,_,_,hn =>
       have e:aH.bZ ([112,117,116]::p::x::y::l)=(.zero,false):=by simp[aH.bZ,aH.vb]
       rw[e];exact mX g o _ c p hn (by simp) w hg c0 c1
   · match rest,hw,hc,hn with
     | [q],hw,hc,_ =>
       have c2:=hc 2 q rfl
       have hq:=hw q (by simp)
       cases ha:Wd.isWord q with
       | false =>
         have e:aH.bZ [[97,100,100],p,q]=(.zero,false):=by simp[aH.bZ,aH.vb,ha]
         rw[e];exact CX g o c p q hq w hg c0 c1 c2 ha
       | true=>cases hb:Wd.isVar p with
         | false =>
           have e:aH.bZ [[97,100,100],p,q]=(.zero,false):=by simp[aH.bZ,aH.vb,hb]
           rw[e];exact CW g o c p q hq hp mx w hg0 hm hg c0 c1 c2 ha hb
         | true =>
           have e:aH.bZ [[97,100,100],p,q]=(⟨2,p,q,[]⟩,true):=by simp[aH.bZ,aH.vb,ha,hb]
           rw[e];exact CY g o c p q hq hp mx w hg0 hm hg c0 c1 c2 ha hb
     | [],_,_,hn =>
       have e:aH.bZ [[97,100,100],p]=(.zero,false):=by simp[aH.bZ,aH.vb]
       rw[e];exact mW g o _ c p hn (by simp) w hg c0 c1
     | x::y::l,_,_,hn =>
       have e:aH.bZ ([97,100,100]::p::x::y::l)=(.zero,false):=by simp[aH.bZ,aH.vb]
       rw[e];exact mW g o _ c p hn (by simp) w hg c0 c1
   · match rest,hw,hc,hn with
     | [q],hw,hc,_ =>
       have c2:=hc 2 q rfl
       have hq:=hw q (by simp)
       cases ha:Wd.bL p with
       | false =>
         have e:aH.bZ [[99,111,112,121],p,q]=(.zero,false):=by simp[aH.bZ,aH.vb,ha]
         rw[e];exact AA g o c p q hp mx w hg0 hm hg c0 c1 c2 ha
       | true=>cases hb:Wd.isVar q with
         | false =>
           have e:aH.bZ [[99,111,112,121],p,q]=(.zero,false):=by simp[aH.bZ,aH.vb,hb]
           rw[e];exact Az g o c p q hq hp mx w hg0 hm hg c0 c1 c2 ha hb
         | true =>
           have e:aH.bZ [[99,111,112,121],p,q]=(⟨3,q,[],p⟩,true):=by simp[aH.bZ,aH.vb,ha,hb]
           rw[e];exact AB g o c p q hq hp mx w hg0 hm hg c0 c1 c2 ha hb
     | [],_,_,hn =>
       have e:aH.bZ [[99,111,112,121],p]=(.zero,false):=by simp[aH.bZ,aH.vb]
       rw[e];exact lS g o _ c p hn (by simp) w hg c0 c1
     | x::y::l,_,_,hn =>
       have e:aH.bZ ([99,111,112,121]::p::x::y::l)=(.zero,false):=by simp[aH.bZ,aH.vb]
       rw[e];exact lS g o _ c p hn (by simp) w hg c0 c1
   · match rest,hw,hc,hn with
     | [],hw,hc,_ =>
       cases hb:Wd.isVar p with
       | false =>
         have e:aH.bZ [[100,114,111,112],p]=(.zero,false):=by simp[aH.bZ,aH.vb,hb]
         rw[e];exact AJ g o c p hp mx w hg0 hm hg c0 c1 hb
       | true =>
         have e:aH.bZ [[100,114,111,112],p]=(⟨4,p,[],[]⟩,true):=by simp[aH.bZ,aH.vb,hb]
         rw[e];exact AL g o c p hp mx w hg0 hm hg c0 c1 hb
     | x::l,_,_,hn =>
       have e:aH.bZ ([100,114,111,112]::p::x::l)=(.zero,false):=by simp[aH.bZ,aH.vb]
       rw[e];exact tJ g o _ c p hn (by simp) w hg c0 c1
   · match rest,hw,hc,hn with
     | [],hw,hc,_ =>
       cases hb:Wd.isVar p with
       | false =>
         have e:aH.bZ [[108,105,115,116],p]=(.zero,false):=by simp[aH.bZ,aH.vb,hb]
         rw[e];exact AO g o c p hp mx w hg0 hm hg c0 c1 hb
       | true =>
         have e:aH.bZ [[108,105,115,116],p]=(⟨5,p,[],[]⟩,true):=by simp[aH.bZ,aH.vb,hb]
         rw[e];exact AP g o c p hp mx w hg0 hm hg c0 c1 hb
     | x::l,_,_,hn =>
       have e:aH.bZ ([108,105,115,116]::p::x::l)=(.zero,false):=by simp[aH.bZ,aH.vb]
       rw[e];exact tK g o _ c p hn (by simp) w hg c0 c1
end
end Go.Proofs.YtialenebfcnkkaaGreatDoor
