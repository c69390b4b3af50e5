/- ParAll -/
import Derived.Test.YtialenebfcnkkaaGreatDoorOrdJ15
import Derived.Test.YtialenebfcnkkaaGreatDoorOrdJ6
set_option maxHeartbeats 600000
set_option maxRecDepth 100000
namespace Go.Proofs.YtialenebfcnkkaaGreatDoor
section
open Go.RowKit
open aH (St gH S)
theorem fI (x p:S):Lib.trimPrefix x p=aH.behind p x:=rfl
theorem gP (x p:S):Lib.hasPrefix x p=p.isPrefixOf x:=rfl
theorem La (pb lg c:Nat) (st:St) (sl:Fin 6→Value) (a b d:S) (w:World) (h:fD pb [] [] st sl w) (hne:lg≠pb)
   (c0:w.cell? ⟨lg,0,none⟩=some (.string ⟨a.toArray⟩)) (c1:w.cell? ⟨lg,1,none⟩=some (.string ⟨b.toArray⟩)) (c2:w.cell? ⟨lg,2,none⟩=some (.string ⟨d.toArray⟩)) (h1:(a==[104,97,118,101,110,32,49])=false) :
   Calls Tryz.prog 211 #[.pointer (some ⟨pb,0,none⟩), .slice (some ⟨lg,0,none⟩) 3 c] w fun e w'=>e = .returned (.bool false)∧Below pb w w':=by
 obtain ⟨nm,hnm⟩:∃ nm,aH.behind aH.fB b=nm:=⟨_,rfl⟩
 obtain ⟨ve,Br⟩:∃ ve,aH.behind aH.bH d=ve:=⟨_,rfl⟩
 have jD:Hid (∀ u:World,Calls Tryz.prog 151 #[.string ⟨b.toArray⟩, .string ⟨#[110,97,109,101,32]⟩] u fun e w'=>e = .returned (.tuple #[.string ⟨nm.toArray⟩, .bool (aH.fB.isPrefixOf b)])∧w'=u):=hide (fun u=>by
   have:=fF b [110,97,109,101,32] u
   rw[fI,gP] at this
   rw[← hnm];exact this)
 have mP:Hid (∀ u:World,Calls Tryz.prog 151 #[.string ⟨d.toArray⟩, .string ⟨#[118,101,114,115,105,111,110,32]⟩] u fun e w'=>e = .returned (.tuple #[.string ⟨ve.toArray⟩, .bool (aH.bH.isPrefixOf d)])∧w'=u):=hide (fun u=>by
   have:=fF d [118,101,114,115,105,111,110,32] u
   rw[fI,gP] at this
   rw[← Br];exact this)
 have k0:=(ah h.blk 0).trans (show _=some (.string ⟨#[]⟩) from rfl)
 have k1:=(ah h.blk 1).trans (show _=some (.string ⟨#[]⟩) from rfl)
 have f0:=ak h.blk 0
 have f1:=ak h.blk 1
 have hlt:=h.lt
 have hne2 : ¬ pb=lg:=fun e=>hne e.symm
 have H:=hide (h.names nm ve)
 have HB:Hid (Below pb w ((w.setCell ⟨pb,0,none⟩ (aO nm)).setCell ⟨pb,1,none⟩ (aO ve))):=hide (((Below.refl pb w).setCell (p:=⟨pb,0,none⟩) (Nat.le_refl pb) _).setCell (p:=⟨pb,1,none⟩) (Nat.le_refl pb) _)
 clear h hnm Br
 go_enter Tryz.func211,Tryz.ntmps211
 go_wp2_with fail
 refine (jD.out _).mono ?_
 rintro e w1 ⟨rfl,rfl⟩
 go_wp2_with fail
 refine (mP.out _).mono ?_
 rintro e w1 ⟨rfl,rfl⟩
 clear jD mP
 go_wp2_with fail
 go_ret
 exact ⟨rfl,HB.out⟩
theorem Pe (pb lg c:Nat) (st:St) (sl:Fin 6→Value) (b d:S) (w:World) (h:fD pb [] [] st sl w) (hne:lg≠pb)
   (c0:w.cell? ⟨lg,0,none⟩=some (.string ⟨#[104,97,118,101,110,32,49]⟩)) (c1:w.cell? ⟨lg,1,none⟩=some (.string ⟨b.toArray⟩)) (c2:w.cell? ⟨lg,2,none⟩=some (.string ⟨d.toArray⟩)) (h2:aH.fB.isPrefixOf b=false) :
   Calls Tryz.prog 211 #[.pointer (some ⟨pb,0,none⟩), .slice (some ⟨lg,0,none⟩) 3 c] w fun e w'=>e = .returned (.bool false)∧Below pb w w':=by
 obtain ⟨nm,hnm⟩:∃ nm,aH.behind aH.fB b=nm:=⟨_,rfl⟩
 obtain ⟨ve,Br⟩:∃ ve,aH.behind aH.bH d=ve:=⟨_,rfl⟩
 have jD:Hid (∀ u:World,Calls Tryz.prog 151 #[.string ⟨b.toArray⟩, .string ⟨#[110,97,109,101,32]⟩] u fun e w'=>e = .returned (.tuple #[.string ⟨nm.toArray⟩, .bool false])∧w'=u):=hide (fun u=>by
   have:=fF b [110,97,109,101,32] u
   rw[fI,gP] at this
   rw[← hnm,← h2];exact this)
 have mP:Hid (∀ u:World,Calls Tryz.prog 151 #[.string ⟨d.toArray⟩, .string ⟨#[118,101,114,115,105,111,110,32]⟩] u fun e w'=>e = .returned (.tuple #[.string ⟨ve.toArray⟩, .bool (aH.bH.isPrefixOf d)])∧w'=u):=hide (fun u=>by
   have:=fF d [118,101,114,115,105,111,110,32] u
   rw[fI,gP] at this
   rw[← Br];exact this)
 have k0:=(ah h.blk 0).trans (show _=some (.string ⟨#[]⟩) from rfl)
 have k1:=(ah h.blk 1).trans (show _=some (.string ⟨#[]⟩) from rfl)
 have f0:=ak h.blk 0
 have f1:=ak h.blk 1
 have hlt:=h.lt
 have hne2 : ¬ pb=lg:=fun e=>hne e.symm
 have H:=hide (h.names nm ve)
 have HB:Hid (Below pb w ((w.setCell ⟨pb,0,none⟩ (aO nm)).setCell ⟨pb,1,none⟩ (aO ve))):=hide (((Below.refl pb w).setCell (p:=⟨pb,0,none⟩) (Nat.le_refl pb) _).setCell (p:=⟨pb,1,none⟩) (Nat.le_refl pb) _)
 clear h hnm Br h2
 go_enter Tryz.func211,Tryz.ntmps211
 go_wp2_with fail
 refine (jD.out _).mono ?_
 rintro e w1 ⟨rfl,rfl⟩
 go_wp2_with fail
 refine (mP.out _).mono ?_
 rintro e w1 ⟨rfl,rfl⟩
 clear jD mP
 go_wp2_with fail
 go_ret
 exact ⟨rfl,HB.out⟩
theorem FD (pb lg c:Nat) (st:St) (sl:Fin 6→Value) (b d:S) (w:World) (h:fD pb [] [] st sl w) (hne:lg≠pb)
   (c0:w.cell? ⟨lg,0,none⟩=some (.string ⟨#[104,97,118,101,110,32,49]⟩)) (c1:w.cell? ⟨lg,1,none⟩=some (.string ⟨b.toArray⟩)) (c2:w.cell? ⟨lg,2,none⟩=some (.string ⟨d.toArray⟩)) (h2:aH.fB.isPrefixOf b=true) (h3:aH.bH.isPrefixOf d=false) :
   Calls Tryz.prog 211 #[.pointer (some ⟨pb,0,none⟩), .slice (some ⟨lg,0,none⟩) 3 c] w fun e w'=>e = .returned (.bool false)∧Below pb w w':=by
 obtain ⟨nm,hnm⟩:∃ nm,aH.behind aH.fB b=nm:=⟨_,rfl⟩
 obtain ⟨ve,Br⟩:∃ ve,aH.behind aH.bH d=ve:=⟨_,rfl⟩
 have jD:Hid (∀ u:World,Calls Tryz.prog 151 #[.string ⟨b.toArray⟩, .string ⟨#[110,97,109,101,32]⟩] u fun e w'=>e = .returned (.tuple #[.string ⟨nm.toArray⟩, .bool true])∧w'=u):=hide (fun u=>by
   have:=fF b [110,97,109,101,32] u
   rw[fI,gP] at this
   rw[← hnm,← h2];exact this)
 have mP:Hid (∀ u:World,Calls Tryz.prog 151 #[.string ⟨d.toArray⟩, .string ⟨#[118,101,114,115,105,111,110,32]⟩] u fun e w'=>e = .returned (.tuple #[.string ⟨ve.toArray⟩, .bool false])∧w'=u):=hide (fun u=>by
   have:=fF d [118,101,114,115,105,111,110,32] u
   rw[fI,gP] at this
   rw[← Br,← h3];exact this)
 have k0:=(ah h.blk 0).trans (show _=some (.string ⟨#[]⟩) from rfl)
 have k1:=(ah h.blk 1).trans (show _=some (.string ⟨#[]⟩) from rfl)
 have f0:=ak h.blk 0
 have f1:=ak h.blk 1
 have hlt:=h.lt
 have hne2 : ¬ pb=lg:=fun e=>hne e.symm
 have H:=hide (h.names nm ve)
 have HB:Hid (Below pb w ((w.setCell ⟨pb,0,none⟩ (aO nm)).setCell ⟨pb,1,none⟩ (aO ve))):=hide (((Below.refl pb w).setCell (p:=⟨pb,0,none⟩) (Nat.le_refl pb) _).setCell (p:=⟨pb,1,none⟩) (Nat.le_refl pb) _)
 clear h hnm Br h2 h3
 go_enter Tryz.func211,Tryz.ntmps211
 go_wp2_with fail
 refine (jD.out _).mono ?_
 rintro e w1 ⟨rfl,rfl⟩
 go_wp2_with fail
 refine (mP.out _).mono ?_
 rintro e w1 ⟨rfl,rfl⟩
 clear jD mP
 go_wp2_with fail
 go_ret
 exact ⟨rfl,HB.out⟩
theorem Lc (pb lg c:Nat) (st:St) (sl:Fin 6→Value) (b d:S) (w:World) (h:fD pb [] [] st sl w) (hne:lg≠pb) (hnl:b.length≤2000)
   (c0:w.cell? ⟨lg,0,none⟩=some (.string ⟨#[104,97,118,101,110,32,49]⟩)) (c1:w.cell? ⟨lg,1,none⟩=some (.string ⟨b.toArray⟩)) (c2:w.cell? ⟨lg,2,none⟩=some (.string ⟨d.toArray⟩)) (h2:aH.fB.isPrefixOf b=true) (h3:aH.bH.isPrefixOf d=true) (h4:Wd.isName (aH.behind aH.fB b)=false) :
   Calls Tryz.prog 211 #[.pointer (some ⟨pb,0,none⟩), .slice (some ⟨lg,0,none⟩) 3 c] w fun e w'=>e = .returned (.bool false)∧Below pb w w':=by
 obtain ⟨nm,hnm⟩:∃ nm,aH.behind aH.fB b=nm:=⟨_,rfl⟩
 obtain ⟨ve,Br⟩:∃ ve,aH.behind aH.bH d=ve:=⟨_,rfl⟩
 have ZY:nm.length≤2000:=by rw[← hnm,aH.behind];split<;>simp<;>omega
 rw[hnm] at h4
 have jD:Hid (∀ u:World,Calls Tryz.prog 151 #[.string ⟨b.toArray⟩, .string ⟨#[110,97,109,101,32]⟩] u fun e w'=>e = .returned (.tuple #[.string ⟨nm.toArray⟩, .bool true])∧w'=u):=hide (fun u=>by
   have:=fF b [110,97,109,101,32] u
   rw[fI,gP] at this
   rw[← hnm,← h2];exact this)
 have mP:Hid (∀ u:World,Calls Tryz.prog 151 #[.string ⟨d.toArray⟩, .string ⟨#[118,101,114,115,105,111,110,32]⟩] u fun e w'=>e = .returned (.tuple #[.string ⟨ve.toArray⟩, .bool true])∧w'=u):=hide (fun u=>by
   have:=fF d [118,101,114,115,105,111,110,32] u
   rw[fI,gP] at this
   rw[← Br,← h3];exact this)
 have k0:=(ah h.blk 0).trans (show _=some (.string ⟨#[]⟩) from rfl)
 have k1:=(ah h.blk 1).trans (show _=some (.string ⟨#[]⟩) from rfl)
 have f0:=ak h.blk 0
 have f1:=ak h.blk 1
 have hlt:=h.lt
 have hne2 : ¬ pb=lg:=fun e=>hne e.symm
 have H:=hide (h.names nm ve)
 have HB:Hid (Below pb w ((w.setCell ⟨pb,0,none⟩ (aO nm)).setCell ⟨pb,1,none⟩ (aO ve))):=hide (((Below.refl pb w).setCell (p:=⟨pb,0,none⟩) (Nat.le_refl pb) _).setCell (p:=⟨pb,1,none⟩) (Nat.le_refl pb) _)
 clear h hnm Br h2 h3
 go_enter Tryz.func211,Tryz.ntmps211
 go_wp2_with fail
 refine (jD.out _).mono ?_
 rintro e w1 ⟨rfl,rfl⟩
 go_wp2_with fail
 refine (mP.out _).mono ?_
 rintro e w1 ⟨rfl,rfl⟩
 clear jD mP
 go_wp2_with (first
   | (go_at_call 222;refine (jh nm ZY _).mono ?_;rintro e w3 ⟨he,hbn⟩;rw[h4] at he;subst he))
 go_ret
 exact ⟨rfl,HB.out.trans (hbn.mono (Nat.le_of_lt H.out.lt))⟩
theorem Sd (pb lg c:Nat) (st:St) (sl:Fin 6→Value) (b d:S) (w:World) (h:fD pb [] [] st sl w) (hne:lg≠pb) (hnl:b.length≤2000)
   (c0:w.cell? ⟨lg,0,none⟩=some (.string ⟨#[104,97,118,101,110,32,49]⟩)) (c1:w.cell? ⟨lg,1,none⟩=some (.string ⟨b.toArray⟩)) (c2:w.cell? ⟨lg,2,none⟩=some (.string ⟨d.toArray⟩)) (h2:aH.fB.isPrefixOf b=true) (h3:aH.bH.isPrefixOf d=true) (h4:Wd.isName (aH.behind aH.fB b)=true) :
   Calls Tryz.prog 211 #[.pointer (some ⟨pb,0,none⟩), .slice (some ⟨lg,0,none⟩) 3 c] w fun e w'=>e = .returned (.bool (aC.fine (aH.behind aH.bH d)))∧fD pb (aH.behind aH.fB b) (aH.behind aH.bH d) st sl w'∧Below pb w w':=by
 obtain ⟨nm,hnm⟩:∃ nm,aH.behind aH.fB b=nm:=⟨_,rfl⟩
 obtain ⟨ve,Br⟩:∃ ve,aH.behind aH.bH d=ve:=⟨_,rfl⟩
 have ZY:nm.length≤2000:=by rw[← hnm,aH.behind];split<;>simp<;>omega
 rw[hnm] at h4
 rw[hnm,Br]
 have jD:Hid (∀ u:World,Calls Tryz.prog 151 #[.string ⟨b.toArray⟩, .string ⟨#[110,97,109,101,32]⟩] u fun e w'=>e = .returned (.tuple #[.string ⟨nm.toArray⟩, .bool true])∧w'=u):=hide (fun u=>by
   have:=fF b [110,97,109,101,32] u
   rw[fI,gP] at this
   rw[← hnm,← h2];exact this)
 have mP:Hid (∀ u:World,Calls Tryz.prog 151 #[.string ⟨d.toArray⟩, .string ⟨#[118,101,114,115,105,111,110,32]⟩] u fun e w'=>e = .returned (.tuple #[.string ⟨ve.toArray⟩, .bool true])∧w'=u):=hide (fun u=>by
   have:=fF d [118,101,114,115,105,111,110,32] u
   rw[fI,gP] at this
   rw[← Br,← h3];exact this)
 have k0:=(ah h.blk 0).trans (show _=some (.string ⟨#[]⟩) from rfl)
 have k1:=(ah h.blk 1).trans (show _=some (.string ⟨#[]⟩) from rfl)
 have f0:=ak h.blk 0
 have f1:=ak h.blk 1
 have hlt:=h.lt
 have hne2 : ¬ pb=lg:=fun e=>hne e.symm
 have H:=hide (h.names nm ve)
 have HB:Hid (Below pb w ((w.setCell ⟨pb,0,none⟩ (aO nm)).setCell ⟨pb,1,none⟩ (aO ve))):=hide (((Below.refl pb w).setCell (p:=⟨pb,0,none⟩) (Nat.le_refl pb) _).setCell (p:=⟨pb,1,none⟩) (Nat.le_refl pb) _)
 clear h hnm Br h2 h3
 go_enter Tryz.func211,Tryz.ntmps211
 go_wp2_with fail
 refine (jD.out _).mono ?_
 rintro e w1 ⟨rfl,rfl⟩
 go_wp2_with fail
 refine (mP.out _).mono ?_
 rintro e w1 ⟨rfl,rfl⟩
 clear jD mP
 go_wp2_with (first
   | (go_at_call 222;refine (jh nm ZY _).mono ?_;rintro e w3 ⟨he,hbn⟩;rw[h4] at he;subst he)
   | (go_at_call 261;refine (nL ve _).mono ?_;rintro e w4 ⟨rfl,hbv⟩))
 go_ret
 exact ⟨rfl,(H.out.below hbn).below hbv,HB.out.trans ((hbn.trans (hbv.mono hbn.size)).mono (Nat.le_of_lt H.out.lt))⟩
def Rs (pb:Nat) (b d:S) (st:St) (sl:Fin 6→Value) (ok:Bool) (w:World):Ending→World→Prop:=fun e w'=>e = .returned (.bool ok)∧Below pb w w'∧(ok=true→fD pb (aH.behind aH.fB b) (aH.behind aH.bH d) st sl w')
theorem nU (pb lg c:Nat) (st:St) (sl:Fin 6→Value) (a b d:S) (w:World) (h:fD pb [] [] st sl w) (hne:lg≠pb) (hnl:b.length≤2000)
   (c0:w.cell? ⟨lg,0,none⟩=some (.string ⟨a.toArray⟩)) (c1:w.cell? ⟨lg,1,none⟩=some (.string ⟨b.toArray⟩)) (c2:w.cell? ⟨lg,2,none⟩=some (.string ⟨d.toArray⟩)) :
   Calls Tryz.prog 211 #[.pointer (some ⟨pb,0,none⟩), .slice (some ⟨lg,0,none⟩) 3 c] w (Rs pb b d st sl (aH.jT a b d) w):=by
 have no:∀ ok:Bool,ok=false→Calls Tryz.prog 211 #[.pointer (some ⟨pb,0,none⟩), .slice (some ⟨lg,0,none⟩) 3 c] w (fun e w'=>e = .returned (.bool false)∧Below pb w w') →
     Calls Tryz.prog 211 #[.pointer (some ⟨pb,0,none⟩), .slice (some ⟨lg,0,none⟩) 3 c] w (Rs pb b d st sl ok w):=fun ok e hc=>by
   subst e
   exact hc.mono fun _ _ ⟨he,hb⟩=>⟨he,hb,fun h=>by cases h⟩
 rw[aH.jT]
 cases h1:(a==aH.uQ) with
 | false=>exact no _ (by simp) (La pb lg c st sl a b d w h hne c0 c1 c2 h1)
 | true =>
   have ha:a=aH.uQ:=by simpa using h1
   subst ha
   cases h2:aH.fB.isPrefixOf b with
   | false=>exact no _ (by simp) (Pe pb lg c st sl b d w h hne c0 c1 c2 h2)
   | true=>cases h3:aH.bH.isPrefixOf d with
     | false=>exact no _ (by simp) (FD pb lg c st sl b d w h hne c0 c1 c2 h2 h3)
     | true=>cases h4:Wd.isName (aH.behind aH.fB b) with
       | false=>exact no _ (by simp) (Lc pb lg c st sl b d w h hne hnl c0 c1 c2 h2 h3 h4)
       | true=>exact (Sd pb lg c st sl b d w h hne hnl c0 c1 c2 h2 h3 h4).mono fun _ _ ⟨he,hp,hb⟩=>⟨by simpa using he,hb,fun _=>hp⟩
theorem RY (x:S) (hx:x.length≤2000) (h:aZ x=none) (mx:Int) (w:World) (hm:w.cell? ⟨3,0,none⟩=some (.int .i64 mx)) :
   Calls Tryz.prog 48 #[.string ⟨x.toArray⟩, .string ⟨#[10,10]⟩] w fun e w'=>e = .returned (.tuple #[.string ⟨x.toArray⟩, .string ⟨#[]⟩, .bool false])∧Below w.heap.size w w'∧w'.heap.size=w.heap.size:=by
 refine (Tryz.strings_Cut ⟨x.toArray⟩ ⟨#[10,10]⟩ mx w (by simp[ByteArray.size];omega) hm).mono ?_
 rintro e w' ⟨he,n,rfl⟩
 have hc:=AY x
 rw[h] at hc
 refine ⟨?_,below_drewN (Below.refl _ _) n,rfl⟩
 rw[he]
 show Ending.returned (.tuple #[.string ⟨(Lib.cut x [10,10]).1.toArray⟩, .string ⟨(Lib.cut x [10,10]).2.1.toArray⟩, .bool (Lib.cut x [10,10]).2.2])=_
 rw[hc]
theorem L9 (x:S) (hx:2000<x.length) (w:World):Calls Tryz.prog 159 #[.string ⟨x.toArray⟩] w fun e w'=>e = .returned (.tuple #[.agg #[.string ⟨#[]⟩, .string ⟨#[]⟩, .slice none 0 0, .slice none 0 0, .slice none 0 0, .slice none 0 0, .slice none 0 0, .slice none 0 0], .bool false])∧Below w.heap.size w w':=by
 have gx:(2000:Int)<(x.length:Int):=by omega
 go_enter Tryz.func159,Tryz.ntmps159
 go_wp2_with fail
 exact bodyPost_ret (v := .tuple #[.agg #[.string ⟨#[]⟩, .string ⟨#[]⟩, .slice none 0 0, .slice none 0 0, .slice none 0 0, .slice none 0 0, .slice none 0 0, .slice none 0 0], .bool false]) (by simp[results,Tryz.results159,go_sem]) rfl ⟨rfl,(Below.refl _ w).alloc (Nat.le_refl _) _⟩
theorem Jc (x:S) (hx:x.length≤2000) (hcut:aZ x=none) (mx:Int) (w:World) (j4:9≤w.heap.size) (hm:w.cell? ⟨3,0,none⟩=some (.int .i64 mx)) :
   Calls Tryz.prog 159 #[.string ⟨x.toArray⟩] w fun e w'=>e = .returned (.tuple #[.agg #[.string ⟨#[]⟩, .string ⟨#[]⟩, .slice none 0 0, .slice none 0 0, .slice none 0 0, .slice none 0 0, .slice none 0 0, .slice none 0 0], .bool false])∧Below w.heap.size w w':=by
 have gx:(x.length:Int)≤2000:=by omega
 have X7 : ¬ (2000:Int)<(x.length:Int):=by omega
 obtain ⟨n,hnn⟩:∃ n,(sp 10 x).length=n:=⟨_,rfl⟩
 have HM:=hide hm;have pW:=hide hcut;have Gs:=hide hnn
 clear hm hcut hnn
 go_enter Tryz.func159,Tryz.ntmps159
 go_wp2_with (first
   | (go_at_call 48;refine (RY x hx pW.out mx _ ?_).mono ?_; (exact (Below.cell ((Below.refl _ w).alloc (Nat.le_refl _) _) (p:=⟨3,0,none⟩) (by show 3<w.heap.size;omega)).trans HM.out);rintro e w1 ⟨rfl,hb1',hs1⟩;have HB1:=hide hb1';have kK:=hide hs1;clear hb1' hs1)
   | (go_at_call 152;refine (dG 10 x hx mx _ ?_).mono ?_; (exact (Below.cell (((Below.refl _ w).alloc (Nat.le_refl _) _).trans (HB1.out.mono (by simp))) (p:=⟨3,0,none⟩) (by show 3<w.heap.size;omega)).trans HM.out);rintro e w2 ⟨he,hw2⟩;rw[Gs.out] at he;subst he;have ho2:w2.heap[w.heap.size]? = some (.cells #[.string ⟨#[]⟩, .string ⟨#[]⟩, .slice none 0 0, .slice none 0 0, .slice none 0 0, .slice none 0 0, .slice none 0 0, .slice none 0 0] 154 (0,0)):=(by rw[hw2,Below.heap_alloc _ _ _ (by rw[kK.out];simp),HB1.out.block _ (by simp),heap_alloc_new]);have mM:Hid (Below w.heap.size w w2):=hide (by rw[hw2];exact (((Below.refl _ w).alloc (Nat.le_refl _) _).trans (HB1.out.mono (by simp))).alloc (by rw[kK.out];simp) _);have XQ:=hide ho2;obtain ⟨r0,r1,r2,r3,r4,r5,r6,r7,f0,f1,f2,f3,f4,f5,f6,f7⟩:=bT ho2;clear ho2 hw2))
 have R:=iL (w0:=w) (.string ⟨#[]⟩) (.string ⟨#[]⟩) (.slice none 0 0) (.slice none 0 0) (.slice none 0 0) (.slice none 0 0) (.slice none 0 0) (.slice none 0 0) XQ.out mM.out (Nat.le_refl _)
 obtain ⟨u0,u1,u2,u3,u4,u5,u6,u7, -⟩:=bT R.row
 exact bodyPost_ret (v := .tuple #[.agg #[.string ⟨#[]⟩, .string ⟨#[]⟩, .slice none 0 0, .slice none 0 0, .slice none 0 0, .slice none 0 0, .slice none 0 0, .slice none 0 0], .bool false]) (by simp[results,Tryz.results159,go_sem,u0,u1,u2,u3,u4,u5,u6,u7]) rfl
   ⟨rfl,R.bA⟩
theorem Es (x:S) (hx:x.length≤2000) (head contents:S) (hcut:aZ x=some (head,contents)) (zF:head.length≤2000) (hn:(sp 10 head).length<3) (mx:Int) (w:World) (j4:9≤w.heap.size) (hm:w.cell? ⟨3,0,none⟩=some (.int .i64 mx)) :
   Calls Tryz.prog 159 #[.string ⟨x.toArray⟩] w fun e w'=>e = .returned (.tuple #[.agg #[.string ⟨#[]⟩, .string ⟨#[]⟩, .slice none 0 0, .slice none 0 0, .slice none 0 0, .slice none 0 0, .slice none 0 0, .slice none 0 0], .bool false])∧Below w.heap.size w w':=by
 have gx:(x.length:Int)≤2000:=by omega
 have X7 : ¬ (2000:Int)<(x.length:Int):=by omega
 obtain ⟨n,hnn⟩:∃ n,(sp 10 head).length=n:=⟨_,rfl⟩
 rw[hnn] at hn
 have g3:(n:Int)<3:=by omega
 have HM:=hide hm;have pW:=hide hcut;have Gs:=hide hnn
 clear hm hcut hnn
 go_enter Tryz.func159,Tryz.ntmps159
 go_wp2_with (first
   | (go_at_call 48;refine (mY x head contents hx pW.out mx _ ?_).mono ?_; (exact (Below.cell ((Below.refl _ w).alloc (Nat.le_refl _) _) (p:=⟨3,0,none⟩) (by show 3<w.heap.size;omega)).trans HM.out);rintro e w1 ⟨rfl,hb1',hs1⟩;have HB1:=hide hb1';have kK:=hide hs1;clear hb1' hs1)
   | (go_at_call 152;refine (dG 10 head zF mx _ ?_).mono ?_; (exact (Below.cell (((Below.refl _ w).alloc (Nat.le_refl _) _).trans (HB1.out.mono (by simp))) (p:=⟨3,0,none⟩) (by show 3<w.heap.size;omega)).trans HM.out);rintro e w2 ⟨he,hw2⟩;rw[Gs.out] at he;subst he;have ho2:w2.heap[w.heap.size]? = some (.cells #[.string ⟨#[]⟩, .string ⟨#[]⟩, .slice none 0 0, .slice none 0 0, .slice none 0 0, .slice none 0 0, .slice none 0 0, .slice none 0 0] 154 (0,0)):=(by rw[hw2,Below.heap_alloc _ _ _ (by rw[kK.out];simp),HB1.out.block _ (by simp),heap_alloc_new]);have mM:Hid (Below w.heap.size w w2):=hide (by rw[hw2];exact (((Below.refl _ w).alloc (Nat.le_refl _) _).trans (HB1.out.mono (by simp))).alloc (by rw[kK.out];simp) _);have XQ:=hide ho2;obtain ⟨r0,r1,r2,r3,r4,r5,r6,r7,f0,f1,f2,f3,f4,f5,f6,f7⟩:=bT ho2;clear ho2 hw2))
 have R:=iL (w0:=w) (.string ⟨#[]⟩) (.string ⟨#[]⟩) (.slice none 0 0) (.slice none 0 0) (.slice none 0 0) (.slice none 0 0) (.slice none 0 0) (.slice none 0 0) XQ.out mM.out (Nat.le_refl _)
 obtain ⟨u0,u1,u2,u3,u4,u5,u6,u7, -⟩:=bT R.row
 exact bodyPost_ret (v := .tuple #[.agg #[.string ⟨#[]⟩, .string ⟨#[]⟩, .slice none 0 0, .slice none 0 0, .slice none 0 0, .slice none 0 0, .slice none 0 0, .slice none 0 0], .bool false]) (by simp[results,Tryz.results159,go_sem,u0,u1,u2,u3,u4,u5,u6,u7]) rfl
   ⟨rfl,R.bA⟩
theorem Ma (x:S) (hx:x.length≤2000) (head contents:S) (hcut:aZ x=some (head,contents)) (zF:head.length≤2000) (hn:24<(sp 10 head).length) (mx:Int) (w:World) (j4:9≤w.heap.size) (hm:w.cell? ⟨3,0,none⟩=some (.int .i64 mx)) :
   Calls Tryz.prog 159 #[.string ⟨x.toArray⟩] w fun e w'=>e = .returned (.tuple #[.agg #[.string ⟨#[]⟩, .string ⟨#[]⟩, .slice none 0 0, .slice none 0 0, .slice none 0 0, .slice none 0 0, .slice none 0 0, .slice none 0 0], .bool false])∧Below w.heap.size w w':=by
 have gx:(x.length:Int)≤2000:=by omega
 have X7 : ¬ (2000:Int)<(x.length:Int):=by omega
 obtain ⟨n,hnn⟩:∃ n,(sp 10 head).length=n:=⟨_,rfl⟩
 rw[hnn] at hn
 have g3 : ¬ (n:Int)<3:=by omega
 have g4:(24:Int)<(n:Int):=by omega
 have HM:=hide hm;have pW:=hide hcut;have Gs:=hide hnn
 clear hm hcut hnn
 go_enter Tryz.func159,Tryz.ntmps159
 go_wp2_with (first
   | (go_at_call 48;refine (mY x head contents hx pW.out mx _ ?_).mono ?_; (exact (Below.cell ((Below.refl _ w).alloc (Nat.le_refl _) _) (p:=⟨3,0,none⟩) (by show 3<w.heap.size;omega)).trans HM.out);rintro e w1 ⟨rfl,hb1',hs1⟩;have HB1:=hide hb1';have kK:=hide hs1;clear hb1' hs1)
   | (go_at_call 152;refine (dG 10 head zF mx _ ?_).mono ?_; (exact (Below.cell (((Below.refl _ w).alloc (Nat.le_refl _) _).trans (HB1.out.mono (by simp))) (p:=⟨3,0,none⟩) (by show 3<w.heap.size;omega)).trans HM.out);rintro e w2 ⟨he,hw2⟩;rw[Gs.out] at he;subst he;have ho2:w2.heap[w.heap.size]? = some (.cells #[.string ⟨#[]⟩, .string ⟨#[]⟩, .slice none 0 0, .slice none 0 0, .slice none 0 0, .slice none 0 0, .slice none 0 0, .slice none 0 0] 154 (0,0)):=(by rw[hw2,Below.heap_alloc _ _ _ (by rw[kK.out];simp),HB1.out.block _ (by simp),heap_alloc_new]);have mM:Hid (Below w.heap.size w w2):=hide (by rw[hw2];exact (((Below.refl _ w).alloc (Nat.le_refl _) _).trans (HB1.out.mono (by simp))).alloc (by rw[kK.out];simp) _);have XQ:=hide ho2;obtain ⟨r0,r1,r2,r3,r4,r5,r6,r7,f0,f1,f2,f3,f4,f5,f6,f7⟩:=bT ho2;clear ho2 hw2))
 have R:=iL (w0:=w) (.string ⟨#[]⟩) (.string ⟨#[]⟩) (.slice none 0 0) (.slice none 0 0) (.slice none 0 0) (.slice none 0 0) (.slice none 0 0) (.slice none 0 0) XQ.out mM.out (Nat.le_refl _)
 obtain ⟨u0,u1,u2,u3,u4,u5,u6,u7, -⟩:=bT R.row
 exact bodyPost_ret (v := .tuple #[.agg #[.string ⟨#[]⟩, .string ⟨#[]⟩, .slice none 0 0, .slice none 0 0, .slice none 0 0, .slice none 0 0, .slice none 0 0, .slice none 0 0], .bool false]) (by simp[results,Tryz.results159,go_sem,u0,u1,u2,u3,u4,u5,u6,u7]) rfl
   ⟨rfl,R.bA⟩
theorem L8 (x head contents a b d:S) (L:List S) (mx:Int) (w:World) (hx:x.length≤2000) (hcut:aZ x=some (head,contents)) (zF:head.length≤2000)
   (eB:sp 10 head=a::b::d::L) (hL:L.length≤21) (hbl:b.length≤2000) (j4:9≤w.heap.size) (hok:aH.jT a b d=false) (hm:w.cell? ⟨3,0,none⟩=some (.int .i64 mx)) :
   Calls Tryz.prog 159 #[.string ⟨x.toArray⟩] w fun e w'=>e = .returned (.tuple #[.agg #[.string ⟨#[]⟩, .string ⟨#[]⟩, .slice none 0 0, .slice none 0 0, .slice none 0 0, .slice none 0 0, .slice none 0 0, .slice none 0 0], .bool false])∧Below w.heap.size w w':=by
 have gx:(x.length:Int)≤2000:=by omega
 have X7 : ¬ (2000:Int)<(x.length:Int):=by omega
 obtain ⟨n,hnn⟩:∃ n,(sp 10 head).length=n:=⟨_,rfl⟩
 have FI:n=L.length+3:=by rw[← hnn,eB];simp
 have h3:(3:Int)≤(n:Int):=by omega
 have h3' : ¬ (n:Int)<3:=by omega
 have ZF:(n:Int)≤24:=by omega
 have Sb : ¬ (24:Int)<(n:Int):=by omega
 have HM:=hide hm;have pW:=hide hcut;have CK:=hide eB;have Gs:=hide hnn;have XO:=hide FI;have CJ:=hide hok
 clear hm hcut eB hnn FI hok
 go_enter Tryz.func159,Tryz.ntmps159
 go_wp2_with (first
   | (go_at_call 48;refine (mY x head contents hx pW.out mx _ ?_).mono ?_; (exact (Below.cell ((Below.refl _ w).alloc (Nat.le_refl _) _) (p:=⟨3,0,none⟩) (by show 3<w.heap.size;omega)).trans HM.out);rintro e w1 ⟨rfl,hb1',hs1⟩;have HB1:=hide hb1';have kK:=hide hs1;clear hb1' hs1)
   | (go_at_call 152;refine (dG 10 head zF mx _ ?_).mono ?_; (exact (Below.cell (((Below.refl _ w).alloc (Nat.le_refl _) _).trans (HB1.out.mono (by simp))) (p:=⟨3,0,none⟩) (by show 3<w.heap.size;omega)).trans HM.out);rintro e w2 ⟨he,rfl⟩;rw[Gs.out] at he;subst he))
 have pX:=hide (Gx.begin w w1 x head contents rfl HB1.out kK.out)
 have e1:w1.heap.size=w.heap.size+1:=by rw[kK.out];simp
 rw[e1]
 clear HB1 kK e1
 generalize hu:(w1.alloc (.cells ((sp 10 head).map aO).toArray 9)).alloc (.cells #[.string ⟨#[]⟩, .string ⟨#[]⟩, .slice none 0 0, .slice none 0 0, .slice none 0 0, .slice none 0 0, .slice none 0 0, .slice none 0 0, .string ⟨contents.toArray⟩] 308)=u at *
 clear hu
 have hsu:=pX.out.zk
 have lc:∀ k,k<L.length+3→u.cell? ⟨w.heap.size+1,k,none⟩=some (aO ((a::b::d::L).getD k [])):=by
   intro k hk
   rw[ah pX.out.lines k,CK.out]
   have:k<(a::b::d::L).length:=by simp;omega
   simp only[List.getElem?_toArray,List.getElem?_map,List.getD,List.getElem?_eq_getElem this,Option.map,Option.getD]
 refine (nU (w.heap.size+1+1) (w.heap.size+1) _ (.of contents) _ a b d u pX.out.par (by omega) hbl (lc 0 (by omega)) (lc 1 (by omega)) (lc 2 (by omega))).mono ?_
 rintro e w3 ⟨vN,hb3,hp3⟩
 rw[CJ.out] at vN
 subst vN
 have Bp:=(hb3.block w.heap.size (by omega)).trans pX.out.out
 have Ac:Hid (Below w.heap.size w w3):=hide (pX.out.bA.trans (hb3.mono (by omega)))
 obtain ⟨r0,r1,r2,r3,r4,r5,r6,r7,f0,f1,f2,f3,f4,f5,f6,f7⟩:=bT Bp
 have CP:=hide Bp
 clear Bp hb3 lc hp3
 go_wp2_with fail
 have R:=iL (w0:=w) (.string ⟨#[]⟩) (.string ⟨#[]⟩) (.slice none 0 0) (.slice none 0 0) (.slice none 0 0) (.slice none 0 0) (.slice none 0 0) (.slice none 0 0) CP.out Ac.out (Nat.le_refl _)
 obtain ⟨u0,u1,u2,u3,u4,u5,u6,u7, -⟩:=bT R.row
 exact bodyPost_ret (v := .tuple #[.agg #[.string ⟨#[]⟩, .string ⟨#[]⟩, .slice none 0 0, .slice none 0 0, .slice none 0 0, .slice none 0 0, .slice none 0 0, .slice none 0 0], .bool false]) (by simp[results,Tryz.results159,go_sem,u0,u1,u2,u3,u4,u5,u6,u7]) rfl
   ⟨rfl,R.bA⟩
theorem I9 (x head contents a b d:S) (L:List S) (K:Nat→Int) (mx:Int) (w:World) (hx:x.length≤2000) (hcut:aZ x=some (head,contents)) (zF:head.length≤2000) (hcl:contents.length≤2000)
   (eB:sp 10 head=a::b::d::L) (hL:L.length≤21) (hL0:1≤L.length) (hll:∀ y∈L,y.length≤2000) (hbl:b.length≤2000) (j4:9≤w.heap.size) (hok:aH.jT a b d=true) (hbody:aH.dS (short K) (.of contents) 0 L=none) (hm:w.cell? ⟨3,0,none⟩=some (.int .i64 mx)) (hK:∀ i:Nat,i<64→w.cell? ⟨4,i,none⟩=some (.int .u32 (K i))) :
   Calls Tryz.prog 159 #[.string ⟨x.toArray⟩] w fun e w'=>e = .returned (.tuple #[.agg #[.string ⟨#[]⟩, .string ⟨#[]⟩, .slice none 0 0, .slice none 0 0, .slice none 0 0, .slice none 0 0, .slice none 0 0, .slice none 0 0], .bool false])∧Below w.heap.size w w':=by
 have gx:(x.length:Int)≤2000:=by omega
 have X7 : ¬ (2000:Int)<(x.length:Int):=by omega
 obtain ⟨n,hnn⟩:∃ n,(sp 10 head).length=n:=⟨_,rfl⟩
 have FI:n=L.length+3:=by rw[← hnn,eB];simp
 have h3:(3:Int)≤(n:Int):=by omega
 have h3' : ¬ (n:Int)<3:=by omega
 have ZF:(n:Int)≤24:=by omega
 have Sb : ¬ (24:Int)<(n:Int):=by omega
 have hn0 : ¬ n=3:=by omega
 have HM:=hide hm;have pW:=hide hcut;have CK:=hide eB;have Gs:=hide hnn;have XO:=hide FI;have CJ:=hide hok
 clear hm hcut eB hnn FI hok
 have HK:=hide hK;have uU:=hide hbody;clear hK hbody
 go_enter Tryz.func159,Tryz.ntmps159
 go_wp2_with (first
   | (go_at_call 48;refine (mY x head contents hx pW.out mx _ ?_).mono ?_; (exact (Below.cell ((Below.refl _ w).alloc (Nat.le_refl _) _) (p:=⟨3,0,none⟩) (by show 3<w.heap.size;omega)).trans HM.out);rintro e w1 ⟨rfl,hb1',hs1⟩;have HB1:=hide hb1';have kK:=hide hs1;clear hb1' hs1)
   | (go_at_call 152;refine (dG 10 head zF mx _ ?_).mono ?_; (exact (Below.cell (((Below.refl _ w).alloc (Nat.le_refl _) _).trans (HB1.out.mono (by simp))) (p:=⟨3,0,none⟩) (by show 3<w.heap.size;omega)).trans HM.out);rintro e w2 ⟨he,rfl⟩;rw[Gs.out] at he;subst he))
 have pX:=hide (Gx.begin w w1 x head contents rfl HB1.out kK.out)
 have e1:w1.heap.size=w.heap.size+1:=by rw[kK.out];simp
 rw[e1]
 clear HB1 kK e1
 generalize hu:(w1.alloc (.cells ((sp 10 head).map aO).toArray 9)).alloc (.cells #[.string ⟨#[]⟩, .string ⟨#[]⟩, .slice none 0 0, .slice none 0 0, .slice none 0 0, .slice none 0 0, .slice none 0 0, .slice none 0 0, .string ⟨contents.toArray⟩] 308)=u at *
 clear hu
 have hsu:=pX.out.zk
 have lc:∀ k,k<L.length+3→u.cell? ⟨w.heap.size+1,k,none⟩=some (aO ((a::b::d::L).getD k [])):=by
   intro k hk
   rw[ah pX.out.lines k,CK.out]
   have:k<(a::b::d::L).length:=by simp;omega
   simp only[List.getElem?_toArray,List.getElem?_map,List.getD,List.getElem?_eq_getElem this,Option.map,Option.getD]
 refine (nU (w.heap.size+1+1) (w.heap.size+1) _ (.of contents) _ a b d u pX.out.par (by omega) hbl (lc 0 (by omega)) (lc 1 (by omega)) (lc 2 (by omega))).mono ?_
 rintro e w3 ⟨vN,hb3,hp3⟩
 rw[CJ.out] at vN
 subst vN
 have uX:=hide (hp3 CJ.out);have HB3:=hide hb3;have Vr:=hide lc
 clear hp3 hb3 lc
 go_wp2_with fail
 have hbw:Below w.heap.size w w3:=pX.out.bA.trans (HB3.out.mono (by omega))
 have mM:=hide hbw;clear hbw
 rw[show n-3=L.length from by have:=XO.out;omega]
 refine (p9 (w.heap.size+1+1) (w.heap.size+1) 3 L.length _ _ (.of contents) L K mx _ w3 uX.out (by refine ⟨?_,?_,?_,?_,?_,?_,?_⟩<;>simp[St.of,hcl]) (by omega) (by omega) hL hll ((mM.out.cell (p:=⟨3,0,none⟩) (by show 3<w.heap.size;omega)).trans HM.out)
   (fun i hi=>(mM.out.cell (p:=⟨4,i,none⟩) (by show 4<w.heap.size;omega)).trans (HK.out i hi)) (fun k hk=>(HB3.out.cell (p:=⟨w.heap.size+1,3+k,none⟩) (by show w.heap.size+1<w.heap.size+1+1;omega)).trans ((Vr.out (3+k) (by omega)).trans (by rw[show 3+k=k+1+1+1 from by omega];rfl)))).mono ?_
 rintro e w4 hpost
 rw[uU.out] at hpost
 obtain ⟨rfl,hb4⟩:=hpost
 have Ac:Hid (Below w.heap.size w w4):=hide (mM.out.trans (hb4.mono (by omega)))
 have Bp:=(hb4.block w.heap.size (by omega)).trans ((HB3.out.block w.heap.size (by omega)).trans pX.out.out)
 obtain ⟨r0,r1,r2,r3,r4,r5,r6,r7,f0,f1,f2,f3,f4,f5,f6,f7⟩:=bT Bp
 have CP:=hide Bp
 clear Bp hb4
 go_wp2_with fail
 have R:=iL (w0:=w) (.string ⟨#[]⟩) (.string ⟨#[]⟩) (.slice none 0 0) (.slice none 0 0) (.slice none 0 0) (.slice none 0 0) (.slice none 0 0) (.slice none 0 0) CP.out Ac.out (Nat.le_refl _)
 obtain ⟨u0,u1,u2,u3,u4,u5,u6,u7, -⟩:=bT R.row
 exact bodyPost_ret (v := .tuple #[.agg #[.string ⟨#[]⟩, .string ⟨#[]⟩, .slice none 0 0, .slice none 0 0, .slice none 0 0, .slice none 0 0, .slice none 0 0, .slice none 0 0], .bool false]) (by simp[results,Tryz.results159,go_sem,u0,u1,u2,u3,u4,u5,u6,u7]) rfl
   ⟨rfl,R.bA⟩
theorem Ja (x head contents a b d:S) (L:List S) (K:Nat→Int) (mx:Int) (w:World) (hx:x.length≤2000) (hcut:aZ x=some (head,contents)) (zF:head.length≤2000) (hcl:contents.length≤2000)
   (eB:sp 10 head=a::b::d::L) (hL:L.length≤21) (hL0:L.length=0) (hll:∀ y∈L,y.length≤2000) (hbl:b.length≤2000) (j4:9≤w.heap.size) (hok:aH.jT a b d=true) (st:St) (hbody:aH.dS (short K) (.of contents) 0 L=some st) (hleft:(st.left==[])=false) (hm:w.cell? ⟨3,0,none⟩=some (.int .i64 mx)) (hK:∀ i:Nat,i<64→w.cell? ⟨4,i,none⟩=some (.int .u32 (K i))) :
   Calls Tryz.prog 159 #[.string ⟨x.toArray⟩] w fun e w'=>e = .returned (.tuple #[.agg #[.string ⟨#[]⟩, .string ⟨#[]⟩, .slice none 0 0, .slice none 0 0, .slice none 0 0, .slice none 0 0, .slice none 0 0, .slice none 0 0], .bool false])∧Below w.heap.size w w':=by
 have gx:(x.length:Int)≤2000:=by omega
 have X7 : ¬ (2000:Int)<(x.length:Int):=by omega
 obtain ⟨n,hnn⟩:∃ n,(sp 10 head).length=n:=⟨_,rfl⟩
 have FI:n=L.length+3:=by rw[← hnn,eB];simp
 have h3:(3:Int)≤(n:Int):=by omega
 have h3' : ¬ (n:Int)<3:=by omega
 have ZF:(n:Int)≤24:=by omega
 have Sb : ¬ (24:Int)<(n:Int):=by omega
 have hL1:L=[]:=List.eq_nil_of_length_eq_zero hL0
 obtain rfl:n=3:=by omega
 have HM:=hide hm;have pW:=hide hcut;have CK:=hide eB;have Gs:=hide hnn;have XO:=hide FI;have CJ:=hide hok
 clear hm hcut eB hnn FI hok
 have HK:=hide hK;have uU:=hide hbody;clear hK hbody
 have Af:=hide hleft;clear hleft
 go_enter Tryz.func159,Tryz.ntmps159
 go_wp2_with (first
   | (go_at_call 48;refine (mY x head contents hx pW.out mx _ ?_).mono ?_; (exact (Below.cell ((Below.refl _ w).alloc (Nat.le_refl _) _) (p:=⟨3,0,none⟩) (by show 3<w.heap.size;omega)).trans HM.out);rintro e w1 ⟨rfl,hb1',hs1⟩;have HB1:=hide hb1';have kK:=hide hs1;clear hb1' hs1)
   | (go_at_call 152;refine (dG 10 head zF mx _ ?_).mono ?_; (exact (Below.cell (((Below.refl _ w).alloc (Nat.le_refl _) _).trans (HB1.out.mono (by simp))) (p:=⟨3,0,none⟩) (by show 3<w.heap.size;omega)).trans HM.out);rintro e w2 ⟨he,rfl⟩;rw[Gs.out] at he;subst he))
 have pX:=hide (Gx.begin w w1 x head contents rfl HB1.out kK.out)
 have e1:w1.heap.size=w.heap.size+1:=by rw[kK.out];simp
 rw[e1]
 clear HB1 kK e1
 generalize hu:(w1.alloc (.cells ((sp 10 head).map aO).toArray 9)).alloc (.cells #[.string ⟨#[]⟩, .string ⟨#[]⟩, .slice none 0 0, .slice none 0 0, .slice none 0 0, .slice none 0 0, .slice none 0 0, .slice none 0 0, .string ⟨contents.toArray⟩] 308)=u at *
 clear hu
 have hsu:=pX.out.zk
 have lc:∀ k,k<L.length+3→u.cell? ⟨w.heap.size+1,k,none⟩=some (aO ((a::b::d::L).getD k [])):=by
   intro k hk
   rw[ah pX.out.lines k,CK.out]
   have:k<(a::b::d::L).length:=by simp;omega
   simp only[List.getElem?_toArray,List.getElem?_map,List.getD,List.getElem?_eq_getElem this,Option.map,Option.getD]
 refine (nU (w.heap.size+1+1) (w.heap.size+1) _ (.of contents) _ a b d u pX.out.par (by omega) hbl (lc 0 (by omega)) (lc 1 (by omega)) (lc 2 (by omega))).mono ?_
 rintro e w3 ⟨vN,hb3,hp3⟩
 rw[CJ.out] at vN
 subst vN
 have uX:=hide (hp3 CJ.out);have HB3:=hide hb3;have Vr:=hide lc
 clear hp3 hb3 lc
 go_wp2_with fail
 have hbw:Below w.heap.size w w3:=pX.out.bA.trans (HB3.out.mono (by omega))
 have mM:=hide hbw;clear hbw
 subst hL1
 refine (p9 (w.heap.size+1+1) (w.heap.size+1) 0 0 _ _ (.of contents) [] K mx _ w3 uX.out (by refine ⟨?_,?_,?_,?_,?_,?_,?_⟩<;>simp[St.of,hcl]) (by omega) (by omega) hL hll ((mM.out.cell (p:=⟨3,0,none⟩) (by show 3<w.heap.size;omega)).trans HM.out)
   (fun i hi=>(mM.out.cell (p:=⟨4,i,none⟩) (by show 4<w.heap.size;omega)).trans (HK.out i hi)) (fun k hk=>by omega)).mono ?_
 rintro e w4 hpost
 rw[uU.out] at hpost
 obtain ⟨rfl,sl4,qp,hb4⟩:=hpost
 have zA:=hide qp
 have Ac:Hid (Below w.heap.size w w4):=hide (mM.out.trans (hb4.mono (by omega)))
 have Bp:=(hb4.block w.heap.size (by omega)).trans ((HB3.out.block w.heap.size (by omega)).trans pX.out.out)
 have qw:=qp.blk
 obtain ⟨y,hy⟩:∃ y,st.left=y:=⟨_,rfl⟩
 have hyn:=Af.out
 rw[hy] at qw hyn
 obtain ⟨q0,q1,q2,q3,q4,q5,q6,q7,q8⟩:=rC qw
 obtain ⟨r0,r1,r2,r3,r4,r5,r6,r7,f0,f1,f2,f3,f4,f5,f6,f7⟩:=bT Bp
 have CP:=hide Bp
 have q8':w4.cell? ⟨w.heap.size+1+1,8,none⟩=some (.string ⟨y.toArray⟩):=q8
 clear qp hb4 Bp qw q0 q1 q2 q3 q4 q5 q6 q7 q8 hy
 go_wp2_with fail
 have R:=iL (w0:=w) (.string ⟨#[]⟩) (.string ⟨#[]⟩) (.slice none 0 0) (.slice none 0 0) (.slice none 0 0) (.slice none 0 0) (.slice none 0 0) (.slice none 0 0) CP.out Ac.out (Nat.le_refl _)
 obtain ⟨u0,u1,u2,u3,u4,u5,u6,u7, -⟩:=bT R.row
 exact bodyPost_ret (v := .tuple #[.agg #[.string ⟨#[]⟩, .string ⟨#[]⟩, .slice none 0 0, .slice none 0 0, .slice none 0 0, .slice none 0 0, .slice none 0 0, .slice none 0 0], .bool false]) (by simp[results,Tryz.results159,go_sem,u0,u1,u2,u3,u4,u5,u6,u7]) rfl
   ⟨rfl,R.bA⟩
theorem Jb (x head contents a b d:S) (L:List S) (K:Nat→Int) (mx:Int) (w:World) (hx:x.length≤2000) (hcut:aZ x=some (head,contents)) (zF:head.length≤2000) (hcl:contents.length≤2000)
   (eB:sp 10 head=a::b::d::L) (hL:L.length≤21) (hL0:1≤L.length) (hll:∀ y∈L,y.length≤2000) (hbl:b.length≤2000) (j4:9≤w.heap.size) (hok:aH.jT a b d=true) (st:St) (hbody:aH.dS (short K) (.of contents) 0 L=some st) (hleft:(st.left==[])=false) (hm:w.cell? ⟨3,0,none⟩=some (.int .i64 mx)) (hK:∀ i:Nat,i<64→w.cell? ⟨4,i,none⟩=some (.int .u32 (K i))) :
   Calls Tryz.prog 159 #[.string ⟨x.toArray⟩] w fun e w'=>e = .returned (.tuple #[.agg #[.string ⟨#[]⟩, .string ⟨#[]⟩, .slice none 0 0, .slice none 0 0, .slice none 0 0, .slice none 0 0, .slice none 0 0, .slice none 0 0], .bool false])∧Below w.heap.size w w':=by
 have gx:(x.length:Int)≤2000:=by omega
 have X7 : ¬ (2000:Int)<(x.length:Int):=by omega
 obtain ⟨n,hnn⟩:∃ n,(sp 10 head).length=n:=⟨_,rfl⟩
 have FI:n=L.length+3:=by rw[← hnn,eB];simp
 have h3:(3:Int)≤(n:Int):=by omega
 have h3' : ¬ (n:Int)<3:=by omega
 have ZF:(n:Int)≤24:=by omega
 have Sb : ¬ (24:Int)<(n:Int):=by omega
 have hn0 : ¬ n=3:=by omega
 have HM:=hide hm;have pW:=hide hcut;have CK:=hide eB;have Gs:=hide hnn;have XO:=hide FI;have CJ:=hide hok
 clear hm hcut eB hnn FI hok
 have HK:=hide hK;have uU:=hide hbody;clear hK hbody
 have Af:=hide hleft;clear hleft
 go_enter Tryz.func159,Tryz.ntmps159
 go_wp2_with (first
   | (go_at_call 48;refine (mY x head contents hx pW.out mx _ ?_).mono ?_; (exact (Below.cell ((Below.refl _ w).alloc (Nat.le_refl _) _) (p:=⟨3,0,none⟩) (by show 3<w.heap.size;omega)).trans HM.out);rintro e w1 ⟨rfl,hb1',hs1⟩;have HB1:=hide hb1';have kK:=hide hs1;clear hb1' hs1)
   | (go_at_call 152;refine (dG 10 head zF mx _ ?_).mono ?_; (exact (Below.cell (((Below.refl _ w).alloc (Nat.le_refl _) _).trans (HB1.out.mono (by simp))) (p:=⟨3,0,none⟩) (by show 3<w.heap.size;omega)).trans HM.out);rintro e w2 ⟨he,rfl⟩;rw[Gs.out] at he;subst he))
 have pX:=hide (Gx.begin w w1 x head contents rfl HB1.out kK.out)
 have e1:w1.heap.size=w.heap.size+1:=by rw[kK.out];simp
 rw[e1]
 clear HB1 kK e1
 generalize hu:(w1.alloc (.cells ((sp 10 head).map aO).toArray 9)).alloc (.cells #[.string ⟨#[]⟩, .string ⟨#[]⟩, .slice none 0 0, .slice none 0 0, .slice none 0 0, .slice none 0 0, .slice none 0 0, .slice none 0 0, .string ⟨contents.toArray⟩] 308)=u at *
 clear hu
 have hsu:=pX.out.zk
 have lc:∀ k,k<L.length+3→u.cell? ⟨w.heap.size+1,k,none⟩=some (aO ((a::b::d::L).getD k [])):=by
   intro k hk
   rw[ah pX.out.lines k,CK.out]
   have:k<(a::b::d::L).length:=by simp;omega
   simp only[List.getElem?_toArray,List.getElem?_map,List.getD,List.getElem?_eq_getElem this,Option.map,Option.getD]
 refine (nU (w.heap.size+1+1) (w.heap.size+1) _ (.of contents) _ a b d u pX.out.par (by omega) hbl (lc 0 (by omega)) (lc 1 (by omega)) (lc 2 (by omega))).mono ?_
 rintro e w3 ⟨vN,hb3,hp3⟩
 rw[CJ.out] at vN
 subst vN
 have uX:=hide (hp3 CJ.out);have HB3:=hide hb3;have Vr:=hide lc
 clear hp3 hb3 lc
 go_wp2_with fail
 have hbw:Below w.heap.size w w3:=pX.out.bA.trans (HB3.out.mono (by omega))
 have mM:=hide hbw;clear hbw
 rw[show n-3=L.length from by have:=XO.out;omega]
 refine (p9 (w.heap.size+1+1) (w.heap.size+1) 3 L.length _ _ (.of contents) L K mx _ w3 uX.out (by refine ⟨?_,?_,?_,?_,?_,?_,?_⟩<;>simp[St.of,hcl]) (by omega) (by omega) hL hll ((mM.out.cell (p:=⟨3,0,none⟩) (by show 3<w.heap.size;omega)).trans HM.out)
   (fun i hi=>(mM.out.cell (p:=⟨4,i,none⟩) (by show 4<w.heap.size;omega)).trans (HK.out i hi)) (fun k hk=>(HB3.out.cell (p:=⟨w.heap.size+1,3+k,none⟩) (by show w.heap.size+1<w.heap.size+1+1;omega)).trans ((Vr.out (3+k) (by omega)).trans (by rw[show 3+k=k+1+1+1 from by omega];rfl)))).mono ?_
 rintro e w4 hpost
 rw[uU.out] at hpost
 obtain ⟨rfl,sl4,qp,hb4⟩:=hpost
 have zA:=hide qp
 have Ac:Hid (Below w.heap.size w w4):=hide (mM.out.trans (hb4.mono (by omega)))
 have Bp:=(hb4.block w.heap.size (by omega)).trans ((HB3.out.block w.heap.size (by omega)).trans pX.out.out)
 have qw:=qp.blk
 obtain ⟨y,hy⟩:∃ y,st.left=y:=⟨_,rfl⟩
 have hyn:=Af.out
 rw[hy] at qw hyn
 obtain ⟨q0,q1,q2,q3,q4,q5,q6,q7,q8⟩:=rC qw
 obtain ⟨r0,r1,r2,r3,r4,r5,r6,r7,f0,f1,f2,f3,f4,f5,f6,f7⟩:=bT Bp
 have CP:=hide Bp
 have q8':w4.cell? ⟨w.heap.size+1+1,8,none⟩=some (.string ⟨y.toArray⟩):=q8
 clear qp hb4 Bp qw q0 q1 q2 q3 q4 q5 q6 q7 q8 hy
 go_wp2_with fail
 have R:=iL (w0:=w) (.string ⟨#[]⟩) (.string ⟨#[]⟩) (.slice none 0 0) (.slice none 0 0) (.slice none 0 0) (.slice none 0 0) (.slice none 0 0) (.slice none 0 0) CP.out Ac.out (Nat.le_refl _)
 obtain ⟨u0,u1,u2,u3,u4,u5,u6,u7, -⟩:=bT R.row
 exact bodyPost_ret (v := .tuple #[.agg #[.string ⟨#[]⟩, .string ⟨#[]⟩, .slice none 0 0, .slice none 0 0, .slice none 0 0, .slice none 0 0, .slice none 0 0, .slice none 0 0], .bool false]) (by simp[results,Tryz.results159,go_sem,u0,u1,u2,u3,u4,u5,u6,u7]) rfl
   ⟨rfl,R.bA⟩
theorem P7 (x head contents a b d:S) (L:List S) (K:Nat→Int) (mx:Int) (w:World) (hx:x.length≤2000) (hcut:aZ x=some (head,contents)) (zF:head.length≤2000) (hcl:contents.length≤2000)
   (eB:sp 10 head=a::b::d::L) (hL:L.length≤21) (hL0:L.length=0) (hll:∀ y∈L,y.length≤2000) (hbl:b.length≤2000) (j4:9≤w.heap.size) (hok:aH.jT a b d=true) (st:St) (hbody:aH.dS (short K) (.of contents) 0 L=some st) (hleft:st.left=[]) (hm:w.cell? ⟨3,0,none⟩=some (.int .i64 mx)) (hK:∀ i:Nat,i<64→w.cell? ⟨4,i,none⟩=some (.int .u32 (K i))) :
   Calls Tryz.prog 159 #[.string ⟨x.toArray⟩] w fun e w'=>∃ sl:Fin 6→Value,e = .returned (.tuple #[.agg #[aO (aH.behind aH.fB b),aO (aH.behind aH.bH d),sl 0,sl 1,sl 2,sl 3,sl 4,sl 5], .bool true])∧(∀ i,w'.ownsRow w.heap.size (pty i) (Np i) (sl i) (aU st i).1 (aU st i).2)∧Below w.heap.size w w':=by
 have gx:(x.length:Int)≤2000:=by omega
 have X7 : ¬ (2000:Int)<(x.length:Int):=by omega
 obtain ⟨n,hnn⟩:∃ n,(sp 10 head).length=n:=⟨_,rfl⟩
 have FI:n=L.length+3:=by rw[← hnn,eB];simp
 have h3:(3:Int)≤(n:Int):=by omega
 have h3' : ¬ (n:Int)<3:=by omega
 have ZF:(n:Int)≤24:=by omega
 have Sb : ¬ (24:Int)<(n:Int):=by omega
 have hL1:L=[]:=List.eq_nil_of_length_eq_zero hL0
 obtain rfl:n=3:=by omega
 have HM:=hide hm;have pW:=hide hcut;have CK:=hide eB;have Gs:=hide hnn;have XO:=hide FI;have CJ:=hide hok
 clear hm hcut eB hnn FI hok
 have HK:=hide hK;have uU:=hide hbody;clear hK hbody
 have Af:=hide hleft;clear hleft
 go_enter Tryz.func159,Tryz.ntmps159
 go_wp2_with (first
   | (go_at_call 48;refine (mY x head contents hx pW.out mx _ ?_).mono ?_; (exact (Below.cell ((Below.refl _ w).alloc (Nat.le_refl _) _) (p:=⟨3,0,none⟩) (by show 3<w.heap.size;omega)).trans HM.out);rintro e w1 ⟨rfl,hb1',hs1⟩;have HB1:=hide hb1';have kK:=hide hs1;clear hb1' hs1)
   | (go_at_call 152;refine (dG 10 head zF mx _ ?_).mono ?_; (exact (Below.cell (((Below.refl _ w).alloc (Nat.le_refl _) _).trans (HB1.out.mono (by simp))) (p:=⟨3,0,none⟩) (by show 3<w.heap.size;omega)).trans HM.out);rintro e w2 ⟨he,rfl⟩;rw[Gs.out] at he;subst he))
 have pX:=hide (Gx.begin w w1 x head contents rfl HB1.out kK.out)
 have e1:w1.heap.size=w.heap.size+1:=by rw[kK.out];simp
 rw[e1]
 clear HB1 kK e1
 generalize hu:(w1.alloc (.cells ((sp 10 head).map aO).toArray 9)).alloc (.cells #[.string ⟨#[]⟩, .string ⟨#[]⟩, .slice none 0 0, .slice none 0 0, .slice none 0 0, .slice none 0 0, .slice none 0 0, .slice none 0 0, .string ⟨contents.toArray⟩] 308)=u at *
 clear hu
 have hsu:=pX.out.zk
 have lc:∀ k,k<L.length+3→u.cell? ⟨w.heap.size+1,k,none⟩=some (aO ((a::b::d::L).getD k [])):=by
   intro k hk
   rw[ah pX.out.lines k,CK.out]
   have:k<(a::b::d::L).length:=by simp;omega
   simp only[List.getElem?_toArray,List.getElem?_map,List.getD,List.getElem?_eq_getElem this,Option.map,Option.getD]
 refine (nU (w.heap.size+1+1) (w.heap.size+1) _ (.of contents) _ a b d u pX.out.par (by omega) hbl (lc 0 (by omega)) (lc 1 (by omega)) (lc 2 (by omega))).mono ?_
 rintro e w3 ⟨vN,hb3,hp3⟩
 rw[CJ.out] at vN
 subst vN
 have uX:=hide (hp3 CJ.out);have HB3:=hide hb3;have Vr:=hide lc
 clear hp3 hb3 lc
 go_wp2_with fail
 have hbw:Below w.heap.size w w3:=pX.out.bA.trans (HB3.out.mono (by omega))
 have mM:=hide hbw;clear hbw
 subst hL1
 refine (p9 (w.heap.size+1+1) (w.heap.size+1) 0 0 _ _ (.of contents) [] K mx _ w3 uX.out (by refine ⟨?_,?_,?_,?_,?_,?_,?_⟩<;>simp[St.of,hcl]) (by omega) (by omega) hL hll ((mM.out.cell (p:=⟨3,0,none⟩) (by show 3<w.heap.size;omega)).trans HM.out)
   (fun i hi=>(mM.out.cell (p:=⟨4,i,none⟩) (by show 4<w.heap.size;omega)).trans (HK.out i hi)) (fun k hk=>by omega)).mono ?_
 rintro e w4 hpost
 rw[uU.out] at hpost
 obtain ⟨rfl,sl4,qp,hb4⟩:=hpost
 have zA:=hide qp
 have Ac:Hid (Below w.heap.size w w4):=hide (mM.out.trans (hb4.mono (by omega)))
 have Bp:=(hb4.block w.heap.size (by omega)).trans ((HB3.out.block w.heap.size (by omega)).trans pX.out.out)
 have qw:=qp.blk
 rw[Af.out] at qw
 obtain ⟨nm,hnm⟩:∃ nm,aH.behind aH.fB b=nm:=⟨_,rfl⟩
 obtain ⟨ve,Br⟩:∃ ve,aH.behind aH.bH d=ve:=⟨_,rfl⟩
 rw[hnm,Br] at qw
 have HNM:=hide hnm;have HVE:=hide Br
 obtain ⟨q0,q1,q2,q3,q4,q5,q6,q7,q8⟩:=rC qw
 obtain ⟨r0,r1,r2,r3,r4,r5,r6,r7,f0,f1,f2,f3,f4,f5,f6,f7⟩:=bT Bp
 have CP:=hide Bp
 have q8':w4.cell? ⟨w.heap.size+1+1,8,none⟩=some (.string ⟨#[]⟩):=q8
 have q0':w4.cell? ⟨w.heap.size+1+1,0,none⟩=some (.string ⟨nm.toArray⟩):=q0
 have q1':w4.cell? ⟨w.heap.size+1+1,1,none⟩=some (.string ⟨ve.toArray⟩):=q1
 obtain ⟨a0,z0,h0⟩:=slice_form (qp.own 0)
 obtain ⟨a1,z1,h1⟩:=slice_form (qp.own 1)
 obtain ⟨a2,z2,h2⟩:=slice_form (qp.own 2)
 obtain ⟨a3,z3,h3x⟩:=slice_form (qp.own 3)
 obtain ⟨a4,z4,h4⟩:=slice_form (qp.own 4)
 obtain ⟨a5,z5,h5⟩:=slice_form (qp.own 5)
 generalize (aU st 0).1=m0 at h0
 generalize (aU st 1).1=m1 at h1
 generalize (aU st 2).1=m2 at h2
 generalize (aU st 3).1=m3 at h3x
 generalize (aU st 4).1=m4 at h4
 generalize (aU st 5).1=m5 at h5
 rw[h0] at q2
 rw[h1] at q3
 rw[h2] at q4
 rw[h3x] at q5
 rw[h4] at q6
 rw[h5] at q7
 have HE:=hide (And.intro h0 (And.intro h1 (And.intro h2 (And.intro h3x (And.intro h4 h5)))))
 clear qp hb4 Bp qw q8 q0 q1 h0 h1 h2 h3x h4 h5 hnm Br
 go_wp2_with fail
 have R:=iL (w0:=w) (.string ⟨nm.toArray⟩) (.string ⟨ve.toArray⟩) (.slice a0 m0 z0) (.slice a1 m1 z1) (.slice a2 m2 z2) (.slice a3 m3 z3) (.slice a4 m4 z4) (.slice a5 m5 z5) CP.out Ac.out (Nat.le_refl _)
 obtain ⟨u0,u1,u2,u3,u4,u5,u6,u7, -⟩:=bT R.row
 refine bodyPost_ret (v := .tuple #[.agg #[.string ⟨nm.toArray⟩, .string ⟨ve.toArray⟩, .slice a0 m0 z0, .slice a1 m1 z1, .slice a2 m2 z2, .slice a3 m3 z3, .slice a4 m4 z4, .slice a5 m5 z5], .bool true]) (by simp[results,Tryz.results159,go_sem,u0,u1,u2,u3,u4,u5,u6,u7]) rfl
   ⟨sl4,?_,fun i=>TL zA.out R i,R.bA⟩
 obtain ⟨h0,h1,h2,h3x,h4,h5⟩:=HE.out
 rw[HNM.out,HVE.out,h0,h1,h2,h3x,h4,h5]
 rfl
theorem P8 (x head contents a b d:S) (L:List S) (K:Nat→Int) (mx:Int) (w:World) (hx:x.length≤2000) (hcut:aZ x=some (head,contents)) (zF:head.length≤2000) (hcl:contents.length≤2000)
   (eB:sp 10 head=a::b::d::L) (hL:L.length≤21) (hL0:1≤L.length) (hll:∀ y∈L,y.length≤2000) (hbl:b.length≤2000) (j4:9≤w.heap.size) (hok:aH.jT a b d=true) (st:St) (hbody:aH.dS (short K) (.of contents) 0 L=some st) (hleft:st.left=[]) (hm:w.cell? ⟨3,0,none⟩=some (.int .i64 mx)) (hK:∀ i:Nat,i<64→w.cell? ⟨4,i,none⟩=some (.int .u32 (K i))) :
   Calls Tryz.prog 159 #[.string ⟨x.toArray⟩] w fun e w'=>∃ sl:Fin 6→Value,e = .returned (.tuple #[.agg #[aO (aH.behind aH.fB b),aO (aH.behind aH.bH d),sl 0,sl 1,sl 2,sl 3,sl 4,sl 5], .bool true])∧(∀ i,w'.ownsRow w.heap.size (pty i) (Np i) (sl i) (aU st i).1 (aU st i).2)∧Below w.heap.size w w':=by
 have gx:(x.length:Int)≤2000:=by omega
 have X7 : ¬ (2000:Int)<(x.length:Int):=by omega
 obtain ⟨n,hnn⟩:∃ n,(sp 10 head).length=n:=⟨_,rfl⟩
 have FI:n=L.length+3:=by rw[← hnn,eB];simp
 have h3:(3:Int)≤(n:Int):=by omega
 have h3' : ¬ (n:Int)<3:=by omega
 have ZF:(n:Int)≤24:=by omega
 have Sb : ¬ (24:Int)<(n:Int):=by omega
 have hn0 : ¬ n=3:=by omega
 have HM:=hide hm;have pW:=hide hcut;have CK:=hide eB;have Gs:=hide hnn;have XO:=hide FI;have CJ:=hide hok
 clear hm hcut eB hnn FI hok
 have HK:=hide hK;have uU:=hide hbody;clear hK hbody
 have Af:=hide hleft;clear hleft
 go_enter Tryz.func159,Tryz.ntmps159
 go_wp2_with (first
   | (go_at_call 48;refine (mY x head contents hx pW.out mx _ ?_).mono ?_; (exact (Below.cell ((Below.refl _ w).alloc (Nat.le_refl _) _) (p:=⟨3,0,none⟩) (by show 3<w.heap.size;omega)).trans HM.out);rintro e w1 ⟨rfl,hb1',hs1⟩;have HB1:=hide hb1';have kK:=hide hs1;clear hb1' hs1)
   | (go_at_call 152;refine (dG 10 head zF mx _ ?_).mono ?_; (exact (Below.cell (((Below.refl _ w).alloc (Nat.le_refl _) _).trans (HB1.out.mono (by simp))) (p:=⟨3,0,none⟩) (by show 3<w.heap.size;omega)).trans HM.out);rintro e w2 ⟨he,rfl⟩;rw[Gs.out] at he;subst he))
 have pX:=hide (Gx.begin w w1 x head contents rfl HB1.out kK.out)
 have e1:w1.heap.size=w.heap.size+1:=by rw[kK.out];simp
 rw[e1]
 clear HB1 kK e1
 generalize hu:(w1.alloc (.cells ((sp 10 head).map aO).toArray 9)).alloc (.cells #[.string ⟨#[]⟩, .string ⟨#[]⟩, .slice none 0 0, .slice none 0 0, .slice none 0 0, .slice none 0 0, .slice none 0 0, .slice none 0 0, .string ⟨contents.toArray⟩] 308)=u at *
 clear hu
 have hsu:=pX.out.zk
 have lc:∀ k,k<L.length+3→u.cell? ⟨w.heap.size+1,k,none⟩=some (aO ((a::b::d::L).getD k [])):=by
   intro k hk
   rw[ah pX.out.lines k,CK.out]
   have:k<(a::b::d::L).length:=by simp;omega
   simp only[List.getElem?_toArray,List.getElem?_map,List.getD,List.getElem?_eq_getElem this,Option.map,Option.getD]
 refine (nU (w.heap.size+1+1) (w.heap.size+1) _ (.of contents) _ a b d u pX.out.par (by omega) hbl (lc 0 (by omega)) (lc 1 (by omega)) (lc 2 (by omega))).mono ?_
 rintro e w3 ⟨vN,hb3,hp3⟩
 rw[CJ.out] at vN
 subst vN
 have uX:=hide (hp3 CJ.out);have HB3:=hide hb3;have Vr:=hide lc
 clear hp3 hb3 lc
 go_wp2_with fail
 have hbw:Below w.heap.size w w3:=pX.out.bA.trans (HB3.out.mono (by omega))
 have mM:=hide hbw;clear hbw
 rw[show n-3=L.length from by have:=XO.out;omega]
 refine (p9 (w.heap.size+1+1) (w.heap.size+1) 3 L.length _ _ (.of contents) L K mx _ w3 uX.out (by refine ⟨?_,?_,?_,?_,?_,?_,?_⟩<;>simp[St.of,hcl]) (by omega) (by omega) hL hll ((mM.out.cell (p:=⟨3,0,none⟩) (by show 3<w.heap.size;omega)).trans HM.out)
   (fun i hi=>(mM.out.cell (p:=⟨4,i,none⟩) (by show 4<w.heap.size;omega)).trans (HK.out i hi)) (fun k hk=>(HB3.out.cell (p:=⟨w.heap.size+1,3+k,none⟩) (by show w.heap.size+1<w.heap.size+1+1;omega)).trans ((Vr.out (3+k) (by omega)).trans (by rw[show 3+k=k+1+1+1 from by omega];rfl)))).mono ?_
 rintro e w4 hpost
 rw[uU.out] at hpost
 obtain ⟨rfl,sl4,qp,hb4⟩:=hpost
 have zA:=hide qp
 have Ac:Hid (Below w.heap.size w w4):=hide (mM.out.trans (hb4.mono (by omega)))
 have Bp:=(hb4.block w.heap.size (by omega)).trans ((HB3.out.block w.heap.size (by omega)).trans pX.out.out)
 have qw:=qp.blk
 rw[Af.out] at qw
 obtain ⟨nm,hnm⟩:∃ nm,aH.behind aH.fB b=nm:=⟨_,rfl⟩
 obtain ⟨ve,Br⟩:∃ ve,aH.behind aH.bH d=ve:=⟨_,rfl⟩
 rw[hnm,Br] at qw
 have HNM:=hide hnm;have HVE:=hide Br
 obtain ⟨q0,q1,q2,q3,q4,q5,q6,q7,q8⟩:=rC qw
 obtain ⟨r0,r1,r2,r3,r4,r5,r6,r7,f0,f1,f2,f3,f4,f5,f6,f7⟩:=bT Bp
 have CP:=hide Bp
 have q8':w4.cell? ⟨w.heap.size+1+1,8,none⟩=some (.string ⟨#[]⟩):=q8
 have q0':w4.cell? ⟨w.heap.size+1+1,0,none⟩=some (.string ⟨nm.toArray⟩):=q0
 have q1':w4.cell? ⟨w.heap.size+1+1,1,none⟩=some (.string ⟨ve.toArray⟩):=q1
 obtain ⟨a0,z0,h0⟩:=slice_form (qp.own 0)
 obtain ⟨a1,z1,h1⟩:=slice_form (qp.own 1)
 obtain ⟨a2,z2,h2⟩:=slice_form (qp.own 2)
 obtain ⟨a3,z3,h3x⟩:=slice_form (qp.own 3)
 obtain ⟨a4,z4,h4⟩:=slice_form (qp.own 4)
 obtain ⟨a5,z5,h5⟩:=slice_form (qp.own 5)
 generalize (aU st 0).1=m0 at h0
 generalize (aU st 1).1=m1 at h1
 generalize (aU st 2).1=m2 at h2
 generalize (aU st 3).1=m3 at h3x
 generalize (aU st 4).1=m4 at h4
 generalize (aU st 5).1=m5 at h5
 rw[h0] at q2
 rw[h1] at q3
 rw[h2] at q4
 rw[h3x] at q5
 rw[h4] at q6
 rw[h5] at q7
 have HE:=hide (And.intro h0 (And.intro h1 (And.intro h2 (And.intro h3x (And.intro h4 h5)))))
 clear qp hb4 Bp qw q8 q0 q1 h0 h1 h2 h3x h4 h5 hnm Br
 go_wp2_with fail
 have R:=iL (w0:=w) (.string ⟨nm.toArray⟩) (.string ⟨ve.toArray⟩) (.slice a0 m0 z0) (.slice a1 m1 z1) (.slice a2 m2 z2) (.slice a3 m3 z3) (.slice a4 m4 z4) (.slice a5 m5 z5) CP.out Ac.out (Nat.le_refl _)
 obtain ⟨u0,u1,u2,u3,u4,u5,u6,u7, -⟩:=bT R.row
 refine bodyPost_ret (v := .tuple #[.agg #[.string ⟨nm.toArray⟩, .string ⟨ve.toArray⟩, .slice a0 m0 z0, .slice a1 m1 z1, .slice a2 m2 z2, .slice a3 m3 z3, .slice a4 m4 z4, .slice a5 m5 z5], .bool true]) (by simp[results,Tryz.results159,go_sem,u0,u1,u2,u3,u4,u5,u6,u7]) rfl
   ⟨sl4,?_,fun i=>TL zA.out R i,R.bA⟩
 obtain ⟨h0,h1,h2,h3x,h4,h5⟩:=HE.out
 rw[HNM.out,HVE.out,h0,h1,h2,h3x,h4,h5]
 rfl
end
end Go.Proofs.YtialenebfcnkkaaGreatDoor
