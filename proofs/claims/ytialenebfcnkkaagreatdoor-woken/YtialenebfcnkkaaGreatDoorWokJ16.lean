/- ParAll -/
import Derived.Test.YtialenebfcnkkaaGreatDoorWokJ15
import Derived.Test.YtialenebfcnkkaaGreatDoorWokJ6
set_option maxHeartbeats 600000
set_option maxRecDepth 100000
namespace Go.Proofs.YtialenebfcnkkaaGreatDoor
section
open Go.RowKit
open Arc (St Cmd S)
theorem trimPre_is (x p:S):Lib.trimPrefix x p=Arc.behind p x:=rfl
theorem hasPre_is (x p:S):Lib.hasPrefix x p=p.isPrefixOf x:=rfl
theorem head_haven (pb lg c:Nat) (st:St) (sl:Fin 6→Value) (a b d:S) (w:World) (h:PIn pb [] [] st sl w) (hne:lg≠pb)
   (c0:w.cell? ⟨lg,0,none⟩=some (.string ⟨a.toArray⟩)) (c1:w.cell? ⟨lg,1,none⟩=some (.string ⟨b.toArray⟩)) (c2:w.cell? ⟨lg,2,none⟩=some (.string ⟨d.toArray⟩)) (h1:(a==[104,97,118,101,110,32,49])=false) :
   Calls Tryz.prog 211 #[.pointer (some ⟨pb,0,none⟩), .slice (some ⟨lg,0,none⟩) 3 c] w fun e w'=>e = .returned (.bool false)∧Below pb w w':=by
 obtain ⟨nm,hnm⟩:∃ nm,Arc.behind Arc.wName b=nm:=⟨_,rfl⟩
 obtain ⟨ve,hve⟩:∃ ve,Arc.behind Arc.wVersion d=ve:=⟨_,rfl⟩
 have HP1:Hid (∀ u:World,Calls Tryz.prog 151 #[.string ⟨b.toArray⟩, .string ⟨#[110,97,109,101,32]⟩] u fun e w'=>e = .returned (.tuple #[.string ⟨nm.toArray⟩, .bool (Arc.wName.isPrefixOf b)])∧w'=u):=hide (fun u=>by
   have:=cutPre_any b [110,97,109,101,32] u
   rw[trimPre_is,hasPre_is] at this
   rw[← hnm];exact this)
 have HP2:Hid (∀ u:World,Calls Tryz.prog 151 #[.string ⟨d.toArray⟩, .string ⟨#[118,101,114,115,105,111,110,32]⟩] u fun e w'=>e = .returned (.tuple #[.string ⟨ve.toArray⟩, .bool (Arc.wVersion.isPrefixOf d)])∧w'=u):=hide (fun u=>by
   have:=cutPre_any d [118,101,114,115,105,111,110,32] u
   rw[trimPre_is,hasPre_is] at this
   rw[← hve];exact this)
 have k0:=(row_cell h.blk 0).trans (show _=some (.string ⟨#[]⟩) from rfl)
 have k1:=(row_cell h.blk 1).trans (show _=some (.string ⟨#[]⟩) from rfl)
 have f0:=row_free h.blk 0
 have f1:=row_free h.blk 1
 have hlt:=h.lt
 have hne2 : ¬ pb=lg:=fun e=>hne e.symm
 have H:=hide (h.names nm ve)
 have HB:Hid (Below pb w ((w.setCell ⟨pb,0,none⟩ (strV nm)).setCell ⟨pb,1,none⟩ (strV ve))):=hide (((Below.refl pb w).setCell (p:=⟨pb,0,none⟩) (Nat.le_refl pb) _).setCell (p:=⟨pb,1,none⟩) (Nat.le_refl pb) _)
 clear h hnm hve
 go_enter Tryz.func211,Tryz.ntmps211
 go_wp2_with fail
 refine (HP1.out _).mono ?_
 rintro e w1 ⟨rfl,rfl⟩
 go_wp2_with fail
 refine (HP2.out _).mono ?_
 rintro e w1 ⟨rfl,rfl⟩
 clear HP1 HP2
 go_wp2_with fail
 go_ret
 exact ⟨rfl,HB.out⟩
theorem head_name (pb lg c:Nat) (st:St) (sl:Fin 6→Value) (b d:S) (w:World) (h:PIn pb [] [] st sl w) (hne:lg≠pb)
   (c0:w.cell? ⟨lg,0,none⟩=some (.string ⟨#[104,97,118,101,110,32,49]⟩)) (c1:w.cell? ⟨lg,1,none⟩=some (.string ⟨b.toArray⟩)) (c2:w.cell? ⟨lg,2,none⟩=some (.string ⟨d.toArray⟩)) (h2:Arc.wName.isPrefixOf b=false) :
   Calls Tryz.prog 211 #[.pointer (some ⟨pb,0,none⟩), .slice (some ⟨lg,0,none⟩) 3 c] w fun e w'=>e = .returned (.bool false)∧Below pb w w':=by
 obtain ⟨nm,hnm⟩:∃ nm,Arc.behind Arc.wName b=nm:=⟨_,rfl⟩
 obtain ⟨ve,hve⟩:∃ ve,Arc.behind Arc.wVersion d=ve:=⟨_,rfl⟩
 have HP1:Hid (∀ u:World,Calls Tryz.prog 151 #[.string ⟨b.toArray⟩, .string ⟨#[110,97,109,101,32]⟩] u fun e w'=>e = .returned (.tuple #[.string ⟨nm.toArray⟩, .bool false])∧w'=u):=hide (fun u=>by
   have:=cutPre_any b [110,97,109,101,32] u
   rw[trimPre_is,hasPre_is] at this
   rw[← hnm,← h2];exact this)
 have HP2:Hid (∀ u:World,Calls Tryz.prog 151 #[.string ⟨d.toArray⟩, .string ⟨#[118,101,114,115,105,111,110,32]⟩] u fun e w'=>e = .returned (.tuple #[.string ⟨ve.toArray⟩, .bool (Arc.wVersion.isPrefixOf d)])∧w'=u):=hide (fun u=>by
   have:=cutPre_any d [118,101,114,115,105,111,110,32] u
   rw[trimPre_is,hasPre_is] at this
   rw[← hve];exact this)
 have k0:=(row_cell h.blk 0).trans (show _=some (.string ⟨#[]⟩) from rfl)
 have k1:=(row_cell h.blk 1).trans (show _=some (.string ⟨#[]⟩) from rfl)
 have f0:=row_free h.blk 0
 have f1:=row_free h.blk 1
 have hlt:=h.lt
 have hne2 : ¬ pb=lg:=fun e=>hne e.symm
 have H:=hide (h.names nm ve)
 have HB:Hid (Below pb w ((w.setCell ⟨pb,0,none⟩ (strV nm)).setCell ⟨pb,1,none⟩ (strV ve))):=hide (((Below.refl pb w).setCell (p:=⟨pb,0,none⟩) (Nat.le_refl pb) _).setCell (p:=⟨pb,1,none⟩) (Nat.le_refl pb) _)
 clear h hnm hve h2
 go_enter Tryz.func211,Tryz.ntmps211
 go_wp2_with fail
 refine (HP1.out _).mono ?_
 rintro e w1 ⟨rfl,rfl⟩
 go_wp2_with fail
 refine (HP2.out _).mono ?_
 rintro e w1 ⟨rfl,rfl⟩
 clear HP1 HP2
 go_wp2_with fail
 go_ret
 exact ⟨rfl,HB.out⟩
theorem head_version (pb lg c:Nat) (st:St) (sl:Fin 6→Value) (b d:S) (w:World) (h:PIn pb [] [] st sl w) (hne:lg≠pb)
   (c0:w.cell? ⟨lg,0,none⟩=some (.string ⟨#[104,97,118,101,110,32,49]⟩)) (c1:w.cell? ⟨lg,1,none⟩=some (.string ⟨b.toArray⟩)) (c2:w.cell? ⟨lg,2,none⟩=some (.string ⟨d.toArray⟩)) (h2:Arc.wName.isPrefixOf b=true) (h3:Arc.wVersion.isPrefixOf d=false) :
   Calls Tryz.prog 211 #[.pointer (some ⟨pb,0,none⟩), .slice (some ⟨lg,0,none⟩) 3 c] w fun e w'=>e = .returned (.bool false)∧Below pb w w':=by
 obtain ⟨nm,hnm⟩:∃ nm,Arc.behind Arc.wName b=nm:=⟨_,rfl⟩
 obtain ⟨ve,hve⟩:∃ ve,Arc.behind Arc.wVersion d=ve:=⟨_,rfl⟩
 have HP1:Hid (∀ u:World,Calls Tryz.prog 151 #[.string ⟨b.toArray⟩, .string ⟨#[110,97,109,101,32]⟩] u fun e w'=>e = .returned (.tuple #[.string ⟨nm.toArray⟩, .bool true])∧w'=u):=hide (fun u=>by
   have:=cutPre_any b [110,97,109,101,32] u
   rw[trimPre_is,hasPre_is] at this
   rw[← hnm,← h2];exact this)
 have HP2:Hid (∀ u:World,Calls Tryz.prog 151 #[.string ⟨d.toArray⟩, .string ⟨#[118,101,114,115,105,111,110,32]⟩] u fun e w'=>e = .returned (.tuple #[.string ⟨ve.toArray⟩, .bool false])∧w'=u):=hide (fun u=>by
   have:=cutPre_any d [118,101,114,115,105,111,110,32] u
   rw[trimPre_is,hasPre_is] at this
   rw[← hve,← h3];exact this)
 have k0:=(row_cell h.blk 0).trans (show _=some (.string ⟨#[]⟩) from rfl)
 have k1:=(row_cell h.blk 1).trans (show _=some (.string ⟨#[]⟩) from rfl)
 have f0:=row_free h.blk 0
 have f1:=row_free h.blk 1
 have hlt:=h.lt
 have hne2 : ¬ pb=lg:=fun e=>hne e.symm
 have H:=hide (h.names nm ve)
 have HB:Hid (Below pb w ((w.setCell ⟨pb,0,none⟩ (strV nm)).setCell ⟨pb,1,none⟩ (strV ve))):=hide (((Below.refl pb w).setCell (p:=⟨pb,0,none⟩) (Nat.le_refl pb) _).setCell (p:=⟨pb,1,none⟩) (Nat.le_refl pb) _)
 clear h hnm hve h2 h3
 go_enter Tryz.func211,Tryz.ntmps211
 go_wp2_with fail
 refine (HP1.out _).mono ?_
 rintro e w1 ⟨rfl,rfl⟩
 go_wp2_with fail
 refine (HP2.out _).mono ?_
 rintro e w1 ⟨rfl,rfl⟩
 clear HP1 HP2
 go_wp2_with fail
 go_ret
 exact ⟨rfl,HB.out⟩
theorem head_named (pb lg c:Nat) (st:St) (sl:Fin 6→Value) (b d:S) (w:World) (h:PIn pb [] [] st sl w) (hne:lg≠pb) (hnl:b.length≤2000)
   (c0:w.cell? ⟨lg,0,none⟩=some (.string ⟨#[104,97,118,101,110,32,49]⟩)) (c1:w.cell? ⟨lg,1,none⟩=some (.string ⟨b.toArray⟩)) (c2:w.cell? ⟨lg,2,none⟩=some (.string ⟨d.toArray⟩)) (h2:Arc.wName.isPrefixOf b=true) (h3:Arc.wVersion.isPrefixOf d=true) (h4:Wd.isName (Arc.behind Arc.wName b)=false) :
   Calls Tryz.prog 211 #[.pointer (some ⟨pb,0,none⟩), .slice (some ⟨lg,0,none⟩) 3 c] w fun e w'=>e = .returned (.bool false)∧Below pb w w':=by
 obtain ⟨nm,hnm⟩:∃ nm,Arc.behind Arc.wName b=nm:=⟨_,rfl⟩
 obtain ⟨ve,hve⟩:∃ ve,Arc.behind Arc.wVersion d=ve:=⟨_,rfl⟩
 have hnl2:nm.length≤2000:=by rw[← hnm,Arc.behind];split<;>simp<;>omega
 rw[hnm] at h4
 have HP1:Hid (∀ u:World,Calls Tryz.prog 151 #[.string ⟨b.toArray⟩, .string ⟨#[110,97,109,101,32]⟩] u fun e w'=>e = .returned (.tuple #[.string ⟨nm.toArray⟩, .bool true])∧w'=u):=hide (fun u=>by
   have:=cutPre_any b [110,97,109,101,32] u
   rw[trimPre_is,hasPre_is] at this
   rw[← hnm,← h2];exact this)
 have HP2:Hid (∀ u:World,Calls Tryz.prog 151 #[.string ⟨d.toArray⟩, .string ⟨#[118,101,114,115,105,111,110,32]⟩] u fun e w'=>e = .returned (.tuple #[.string ⟨ve.toArray⟩, .bool true])∧w'=u):=hide (fun u=>by
   have:=cutPre_any d [118,101,114,115,105,111,110,32] u
   rw[trimPre_is,hasPre_is] at this
   rw[← hve,← h3];exact this)
 have k0:=(row_cell h.blk 0).trans (show _=some (.string ⟨#[]⟩) from rfl)
 have k1:=(row_cell h.blk 1).trans (show _=some (.string ⟨#[]⟩) from rfl)
 have f0:=row_free h.blk 0
 have f1:=row_free h.blk 1
 have hlt:=h.lt
 have hne2 : ¬ pb=lg:=fun e=>hne e.symm
 have H:=hide (h.names nm ve)
 have HB:Hid (Below pb w ((w.setCell ⟨pb,0,none⟩ (strV nm)).setCell ⟨pb,1,none⟩ (strV ve))):=hide (((Below.refl pb w).setCell (p:=⟨pb,0,none⟩) (Nat.le_refl pb) _).setCell (p:=⟨pb,1,none⟩) (Nat.le_refl pb) _)
 clear h hnm hve h2 h3
 go_enter Tryz.func211,Tryz.ntmps211
 go_wp2_with fail
 refine (HP1.out _).mono ?_
 rintro e w1 ⟨rfl,rfl⟩
 go_wp2_with fail
 refine (HP2.out _).mono ?_
 rintro e w1 ⟨rfl,rfl⟩
 clear HP1 HP2
 go_wp2_with (first
   | (go_at_call 222;refine (isName_any nm hnl2 _).mono ?_;rintro e w3 ⟨he,hbn⟩;rw[h4] at he;subst he))
 go_ret
 exact ⟨rfl,HB.out.trans (hbn.mono (Nat.le_of_lt H.out.lt))⟩
theorem head_any (pb lg c:Nat) (st:St) (sl:Fin 6→Value) (b d:S) (w:World) (h:PIn pb [] [] st sl w) (hne:lg≠pb) (hnl:b.length≤2000)
   (c0:w.cell? ⟨lg,0,none⟩=some (.string ⟨#[104,97,118,101,110,32,49]⟩)) (c1:w.cell? ⟨lg,1,none⟩=some (.string ⟨b.toArray⟩)) (c2:w.cell? ⟨lg,2,none⟩=some (.string ⟨d.toArray⟩)) (h2:Arc.wName.isPrefixOf b=true) (h3:Arc.wVersion.isPrefixOf d=true) (h4:Wd.isName (Arc.behind Arc.wName b)=true) :
   Calls Tryz.prog 211 #[.pointer (some ⟨pb,0,none⟩), .slice (some ⟨lg,0,none⟩) 3 c] w fun e w'=>e = .returned (.bool (Ver.fine (Arc.behind Arc.wVersion d)))∧PIn pb (Arc.behind Arc.wName b) (Arc.behind Arc.wVersion d) st sl w'∧Below pb w w':=by
 obtain ⟨nm,hnm⟩:∃ nm,Arc.behind Arc.wName b=nm:=⟨_,rfl⟩
 obtain ⟨ve,hve⟩:∃ ve,Arc.behind Arc.wVersion d=ve:=⟨_,rfl⟩
 have hnl2:nm.length≤2000:=by rw[← hnm,Arc.behind];split<;>simp<;>omega
 rw[hnm] at h4
 rw[hnm,hve]
 have HP1:Hid (∀ u:World,Calls Tryz.prog 151 #[.string ⟨b.toArray⟩, .string ⟨#[110,97,109,101,32]⟩] u fun e w'=>e = .returned (.tuple #[.string ⟨nm.toArray⟩, .bool true])∧w'=u):=hide (fun u=>by
   have:=cutPre_any b [110,97,109,101,32] u
   rw[trimPre_is,hasPre_is] at this
   rw[← hnm,← h2];exact this)
 have HP2:Hid (∀ u:World,Calls Tryz.prog 151 #[.string ⟨d.toArray⟩, .string ⟨#[118,101,114,115,105,111,110,32]⟩] u fun e w'=>e = .returned (.tuple #[.string ⟨ve.toArray⟩, .bool true])∧w'=u):=hide (fun u=>by
   have:=cutPre_any d [118,101,114,115,105,111,110,32] u
   rw[trimPre_is,hasPre_is] at this
   rw[← hve,← h3];exact this)
 have k0:=(row_cell h.blk 0).trans (show _=some (.string ⟨#[]⟩) from rfl)
 have k1:=(row_cell h.blk 1).trans (show _=some (.string ⟨#[]⟩) from rfl)
 have f0:=row_free h.blk 0
 have f1:=row_free h.blk 1
 have hlt:=h.lt
 have hne2 : ¬ pb=lg:=fun e=>hne e.symm
 have H:=hide (h.names nm ve)
 have HB:Hid (Below pb w ((w.setCell ⟨pb,0,none⟩ (strV nm)).setCell ⟨pb,1,none⟩ (strV ve))):=hide (((Below.refl pb w).setCell (p:=⟨pb,0,none⟩) (Nat.le_refl pb) _).setCell (p:=⟨pb,1,none⟩) (Nat.le_refl pb) _)
 clear h hnm hve h2 h3
 go_enter Tryz.func211,Tryz.ntmps211
 go_wp2_with fail
 refine (HP1.out _).mono ?_
 rintro e w1 ⟨rfl,rfl⟩
 go_wp2_with fail
 refine (HP2.out _).mono ?_
 rintro e w1 ⟨rfl,rfl⟩
 clear HP1 HP2
 go_wp2_with (first
   | (go_at_call 222;refine (isName_any nm hnl2 _).mono ?_;rintro e w3 ⟨he,hbn⟩;rw[h4] at he;subst he)
   | (go_at_call 261;refine (isVersion_any ve _).mono ?_;rintro e w4 ⟨rfl,hbv⟩))
 go_ret
 exact ⟨rfl,(H.out.below hbn).below hbv,HB.out.trans ((hbn.trans (hbv.mono hbn.size)).mono (Nat.le_of_lt H.out.lt))⟩
def HdPost (pb:Nat) (b d:S) (st:St) (sl:Fin 6→Value) (ok:Bool) (w:World):Ending→World→Prop:=fun e w'=>e = .returned (.bool ok)∧Below pb w w'∧(ok=true→PIn pb (Arc.behind Arc.wName b) (Arc.behind Arc.wVersion d) st sl w')
theorem head_all (pb lg c:Nat) (st:St) (sl:Fin 6→Value) (a b d:S) (w:World) (h:PIn pb [] [] st sl w) (hne:lg≠pb) (hnl:b.length≤2000)
   (c0:w.cell? ⟨lg,0,none⟩=some (.string ⟨a.toArray⟩)) (c1:w.cell? ⟨lg,1,none⟩=some (.string ⟨b.toArray⟩)) (c2:w.cell? ⟨lg,2,none⟩=some (.string ⟨d.toArray⟩)) :
   Calls Tryz.prog 211 #[.pointer (some ⟨pb,0,none⟩), .slice (some ⟨lg,0,none⟩) 3 c] w (HdPost pb b d st sl (Arc.headOk a b d) w):=by
 have no:∀ ok:Bool,ok=false→Calls Tryz.prog 211 #[.pointer (some ⟨pb,0,none⟩), .slice (some ⟨lg,0,none⟩) 3 c] w (fun e w'=>e = .returned (.bool false)∧Below pb w w') →
     Calls Tryz.prog 211 #[.pointer (some ⟨pb,0,none⟩), .slice (some ⟨lg,0,none⟩) 3 c] w (HdPost pb b d st sl ok w):=fun ok e hc=>by
   subst e
   exact hc.mono fun _ _ ⟨he,hb⟩=>⟨he,hb,fun h=>by cases h⟩
 rw[Arc.headOk]
 cases h1:(a==Arc.wHaven) with
 | false=>exact no _ (by simp) (head_haven pb lg c st sl a b d w h hne c0 c1 c2 h1)
 | true =>
   have ha:a=Arc.wHaven:=by simpa using h1
   subst ha
   cases h2:Arc.wName.isPrefixOf b with
   | false=>exact no _ (by simp) (head_name pb lg c st sl b d w h hne c0 c1 c2 h2)
   | true=>cases h3:Arc.wVersion.isPrefixOf d with
     | false=>exact no _ (by simp) (head_version pb lg c st sl b d w h hne c0 c1 c2 h2 h3)
     | true=>cases h4:Wd.isName (Arc.behind Arc.wName b) with
       | false=>exact no _ (by simp) (head_named pb lg c st sl b d w h hne hnl c0 c1 c2 h2 h3 h4)
       | true=>exact (head_any pb lg c st sl b d w h hne hnl c0 c1 c2 h2 h3 h4).mono fun _ _ ⟨he,hp,hb⟩=>⟨by simpa using he,hb,fun _=>hp⟩
theorem cut_none (x:S) (hx:x.length≤2000) (h:cutTwo x=none) (mx:Int) (w:World) (hm:w.cell? ⟨3,0,none⟩=some (.int .i64 mx)) :
   Calls Tryz.prog 48 #[.string ⟨x.toArray⟩, .string ⟨#[10,10]⟩] w fun e w'=>e = .returned (.tuple #[.string ⟨x.toArray⟩, .string ⟨#[]⟩, .bool false])∧Below w.heap.size w w'∧w'.heap.size=w.heap.size:=by
 refine (Tryz.strings_Cut ⟨x.toArray⟩ ⟨#[10,10]⟩ mx w (by simp[ByteArray.size];omega) hm).mono ?_
 rintro e w' ⟨he,n,rfl⟩
 have hc:=cutTwo_cut x
 rw[h] at hc
 refine ⟨?_,below_drewN (Below.refl _ _) n,rfl⟩
 rw[he]
 show Ending.returned (.tuple #[.string ⟨(Lib.cut x [10,10]).1.toArray⟩, .string ⟨(Lib.cut x [10,10]).2.1.toArray⟩, .bool (Lib.cut x [10,10]).2.2])=_
 rw[hc]
theorem parse_long (x:S) (hx:2000<x.length) (w:World):Calls Tryz.prog 159 #[.string ⟨x.toArray⟩] w fun e w'=>e = .returned (.tuple #[.agg #[.string ⟨#[]⟩, .string ⟨#[]⟩, .slice none 0 0, .slice none 0 0, .slice none 0 0, .slice none 0 0, .slice none 0 0, .slice none 0 0], .bool false])∧Below w.heap.size w w':=by
 have gx:(2000:Int)<(x.length:Int):=by omega
 go_enter Tryz.func159,Tryz.ntmps159
 go_wp2_with fail
 exact bodyPost_ret (v := .tuple #[.agg #[.string ⟨#[]⟩, .string ⟨#[]⟩, .slice none 0 0, .slice none 0 0, .slice none 0 0, .slice none 0 0, .slice none 0 0, .slice none 0 0], .bool false]) (by simp[results,Tryz.results159,go_sem]) rfl ⟨rfl,(Below.refl _ w).alloc (Nat.le_refl _) _⟩
theorem parse_nocut (x:S) (hx:x.length≤2000) (hcut:cutTwo x=none) (mx:Int) (w:World) (hw9:9≤w.heap.size) (hm:w.cell? ⟨3,0,none⟩=some (.int .i64 mx)) :
   Calls Tryz.prog 159 #[.string ⟨x.toArray⟩] w fun e w'=>e = .returned (.tuple #[.agg #[.string ⟨#[]⟩, .string ⟨#[]⟩, .slice none 0 0, .slice none 0 0, .slice none 0 0, .slice none 0 0, .slice none 0 0, .slice none 0 0], .bool false])∧Below w.heap.size w w':=by
 have gx:(x.length:Int)≤2000:=by omega
 have gx2 : ¬ (2000:Int)<(x.length:Int):=by omega
 obtain ⟨n,hnn⟩:∃ n,(sp 10 x).length=n:=⟨_,rfl⟩
 have HM:=hide hm;have HCUT:=hide hcut;have HNN:=hide hnn
 clear hm hcut hnn
 go_enter Tryz.func159,Tryz.ntmps159
 go_wp2_with (first
   | (go_at_call 48;refine (cut_none x hx HCUT.out mx _ ?_).mono ?_; (exact (Below.cell ((Below.refl _ w).alloc (Nat.le_refl _) _) (p:=⟨3,0,none⟩) (by show 3<w.heap.size;omega)).trans HM.out);rintro e w1 ⟨rfl,hb1',hs1⟩;have HB1:=hide hb1';have HS1:=hide hs1;clear hb1' hs1)
   | (go_at_call 152;refine (split_any 10 x hx mx _ ?_).mono ?_; (exact (Below.cell (((Below.refl _ w).alloc (Nat.le_refl _) _).trans (HB1.out.mono (by simp))) (p:=⟨3,0,none⟩) (by show 3<w.heap.size;omega)).trans HM.out);rintro e w2 ⟨he,hw2⟩;rw[HNN.out] at he;subst he;have ho2:w2.heap[w.heap.size]? = some (.cells #[.string ⟨#[]⟩, .string ⟨#[]⟩, .slice none 0 0, .slice none 0 0, .slice none 0 0, .slice none 0 0, .slice none 0 0, .slice none 0 0] 154 (0,0)):=(by rw[hw2,Below.heap_alloc _ _ _ (by rw[HS1.out];simp),HB1.out.block _ (by simp),heap_alloc_new]);have HBW:Hid (Below w.heap.size w w2):=hide (by rw[hw2];exact (((Below.refl _ w).alloc (Nat.le_refl _) _).trans (HB1.out.mono (by simp))).alloc (by rw[HS1.out];simp) _);have HO2:=hide ho2;obtain ⟨r0,r1,r2,r3,r4,r5,r6,r7,f0,f1,f2,f3,f4,f5,f6,f7⟩:=eight_any ho2;clear ho2 hw2))
 have R:=eight_put (w0:=w) (.string ⟨#[]⟩) (.string ⟨#[]⟩) (.slice none 0 0) (.slice none 0 0) (.slice none 0 0) (.slice none 0 0) (.slice none 0 0) (.slice none 0 0) HO2.out HBW.out (Nat.le_refl _)
 obtain ⟨u0,u1,u2,u3,u4,u5,u6,u7, -⟩:=eight_any R.row
 exact bodyPost_ret (v := .tuple #[.agg #[.string ⟨#[]⟩, .string ⟨#[]⟩, .slice none 0 0, .slice none 0 0, .slice none 0 0, .slice none 0 0, .slice none 0 0, .slice none 0 0], .bool false]) (by simp[results,Tryz.results159,go_sem,u0,u1,u2,u3,u4,u5,u6,u7]) rfl
   ⟨rfl,R.bel⟩
theorem parse_few (x:S) (hx:x.length≤2000) (head contents:S) (hcut:cutTwo x=some (head,contents)) (hhl:head.length≤2000) (hn:(sp 10 head).length<3) (mx:Int) (w:World) (hw9:9≤w.heap.size) (hm:w.cell? ⟨3,0,none⟩=some (.int .i64 mx)) :
   Calls Tryz.prog 159 #[.string ⟨x.toArray⟩] w fun e w'=>e = .returned (.tuple #[.agg #[.string ⟨#[]⟩, .string ⟨#[]⟩, .slice none 0 0, .slice none 0 0, .slice none 0 0, .slice none 0 0, .slice none 0 0, .slice none 0 0], .bool false])∧Below w.heap.size w w':=by
 have gx:(x.length:Int)≤2000:=by omega
 have gx2 : ¬ (2000:Int)<(x.length:Int):=by omega
 obtain ⟨n,hnn⟩:∃ n,(sp 10 head).length=n:=⟨_,rfl⟩
 rw[hnn] at hn
 have g3:(n:Int)<3:=by omega
 have HM:=hide hm;have HCUT:=hide hcut;have HNN:=hide hnn
 clear hm hcut hnn
 go_enter Tryz.func159,Tryz.ntmps159
 go_wp2_with (first
   | (go_at_call 48;refine (cut_any x head contents hx HCUT.out mx _ ?_).mono ?_; (exact (Below.cell ((Below.refl _ w).alloc (Nat.le_refl _) _) (p:=⟨3,0,none⟩) (by show 3<w.heap.size;omega)).trans HM.out);rintro e w1 ⟨rfl,hb1',hs1⟩;have HB1:=hide hb1';have HS1:=hide hs1;clear hb1' hs1)
   | (go_at_call 152;refine (split_any 10 head hhl mx _ ?_).mono ?_; (exact (Below.cell (((Below.refl _ w).alloc (Nat.le_refl _) _).trans (HB1.out.mono (by simp))) (p:=⟨3,0,none⟩) (by show 3<w.heap.size;omega)).trans HM.out);rintro e w2 ⟨he,hw2⟩;rw[HNN.out] at he;subst he;have ho2:w2.heap[w.heap.size]? = some (.cells #[.string ⟨#[]⟩, .string ⟨#[]⟩, .slice none 0 0, .slice none 0 0, .slice none 0 0, .slice none 0 0, .slice none 0 0, .slice none 0 0] 154 (0,0)):=(by rw[hw2,Below.heap_alloc _ _ _ (by rw[HS1.out];simp),HB1.out.block _ (by simp),heap_alloc_new]);have HBW:Hid (Below w.heap.size w w2):=hide (by rw[hw2];exact (((Below.refl _ w).alloc (Nat.le_refl _) _).trans (HB1.out.mono (by simp))).alloc (by rw[HS1.out];simp) _);have HO2:=hide ho2;obtain ⟨r0,r1,r2,r3,r4,r5,r6,r7,f0,f1,f2,f3,f4,f5,f6,f7⟩:=eight_any ho2;clear ho2 hw2))
 have R:=eight_put (w0:=w) (.string ⟨#[]⟩) (.string ⟨#[]⟩) (.slice none 0 0) (.slice none 0 0) (.slice none 0 0) (.slice none 0 0) (.slice none 0 0) (.slice none 0 0) HO2.out HBW.out (Nat.le_refl _)
 obtain ⟨u0,u1,u2,u3,u4,u5,u6,u7, -⟩:=eight_any R.row
 exact bodyPost_ret (v := .tuple #[.agg #[.string ⟨#[]⟩, .string ⟨#[]⟩, .slice none 0 0, .slice none 0 0, .slice none 0 0, .slice none 0 0, .slice none 0 0, .slice none 0 0], .bool false]) (by simp[results,Tryz.results159,go_sem,u0,u1,u2,u3,u4,u5,u6,u7]) rfl
   ⟨rfl,R.bel⟩
theorem parse_many (x:S) (hx:x.length≤2000) (head contents:S) (hcut:cutTwo x=some (head,contents)) (hhl:head.length≤2000) (hn:24<(sp 10 head).length) (mx:Int) (w:World) (hw9:9≤w.heap.size) (hm:w.cell? ⟨3,0,none⟩=some (.int .i64 mx)) :
   Calls Tryz.prog 159 #[.string ⟨x.toArray⟩] w fun e w'=>e = .returned (.tuple #[.agg #[.string ⟨#[]⟩, .string ⟨#[]⟩, .slice none 0 0, .slice none 0 0, .slice none 0 0, .slice none 0 0, .slice none 0 0, .slice none 0 0], .bool false])∧Below w.heap.size w w':=by
 have gx:(x.length:Int)≤2000:=by omega
 have gx2 : ¬ (2000:Int)<(x.length:Int):=by omega
 obtain ⟨n,hnn⟩:∃ n,(sp 10 head).length=n:=⟨_,rfl⟩
 rw[hnn] at hn
 have g3 : ¬ (n:Int)<3:=by omega
 have g4:(24:Int)<(n:Int):=by omega
 have HM:=hide hm;have HCUT:=hide hcut;have HNN:=hide hnn
 clear hm hcut hnn
 go_enter Tryz.func159,Tryz.ntmps159
 go_wp2_with (first
   | (go_at_call 48;refine (cut_any x head contents hx HCUT.out mx _ ?_).mono ?_; (exact (Below.cell ((Below.refl _ w).alloc (Nat.le_refl _) _) (p:=⟨3,0,none⟩) (by show 3<w.heap.size;omega)).trans HM.out);rintro e w1 ⟨rfl,hb1',hs1⟩;have HB1:=hide hb1';have HS1:=hide hs1;clear hb1' hs1)
   | (go_at_call 152;refine (split_any 10 head hhl mx _ ?_).mono ?_; (exact (Below.cell (((Below.refl _ w).alloc (Nat.le_refl _) _).trans (HB1.out.mono (by simp))) (p:=⟨3,0,none⟩) (by show 3<w.heap.size;omega)).trans HM.out);rintro e w2 ⟨he,hw2⟩;rw[HNN.out] at he;subst he;have ho2:w2.heap[w.heap.size]? = some (.cells #[.string ⟨#[]⟩, .string ⟨#[]⟩, .slice none 0 0, .slice none 0 0, .slice none 0 0, .slice none 0 0, .slice none 0 0, .slice none 0 0] 154 (0,0)):=(by rw[hw2,Below.heap_alloc _ _ _ (by rw[HS1.out];simp),HB1.out.block _ (by simp),heap_alloc_new]);have HBW:Hid (Below w.heap.size w w2):=hide (by rw[hw2];exact (((Below.refl _ w).alloc (Nat.le_refl _) _).trans (HB1.out.mono (by simp))).alloc (by rw[HS1.out];simp) _);have HO2:=hide ho2;obtain ⟨r0,r1,r2,r3,r4,r5,r6,r7,f0,f1,f2,f3,f4,f5,f6,f7⟩:=eight_any ho2;clear ho2 hw2))
 have R:=eight_put (w0:=w) (.string ⟨#[]⟩) (.string ⟨#[]⟩) (.slice none 0 0) (.slice none 0 0) (.slice none 0 0) (.slice none 0 0) (.slice none 0 0) (.slice none 0 0) HO2.out HBW.out (Nat.le_refl _)
 obtain ⟨u0,u1,u2,u3,u4,u5,u6,u7, -⟩:=eight_any R.row
 exact bodyPost_ret (v := .tuple #[.agg #[.string ⟨#[]⟩, .string ⟨#[]⟩, .slice none 0 0, .slice none 0 0, .slice none 0 0, .slice none 0 0, .slice none 0 0, .slice none 0 0], .bool false]) (by simp[results,Tryz.results159,go_sem,u0,u1,u2,u3,u4,u5,u6,u7]) rfl
   ⟨rfl,R.bel⟩
theorem parse_head (x head contents a b d:S) (L:List S) (mx:Int) (w:World) (hx:x.length≤2000) (hcut:cutTwo x=some (head,contents)) (hhl:head.length≤2000)
   (hlines:sp 10 head=a::b::d::L) (hL:L.length≤21) (hbl:b.length≤2000) (hw9:9≤w.heap.size) (hok:Arc.headOk a b d=false) (hm:w.cell? ⟨3,0,none⟩=some (.int .i64 mx)) :
   Calls Tryz.prog 159 #[.string ⟨x.toArray⟩] w fun e w'=>e = .returned (.tuple #[.agg #[.string ⟨#[]⟩, .string ⟨#[]⟩, .slice none 0 0, .slice none 0 0, .slice none 0 0, .slice none 0 0, .slice none 0 0, .slice none 0 0], .bool false])∧Below w.heap.size w w':=by
 have gx:(x.length:Int)≤2000:=by omega
 have gx2 : ¬ (2000:Int)<(x.length:Int):=by omega
 obtain ⟨n,hnn⟩:∃ n,(sp 10 head).length=n:=⟨_,rfl⟩
 have hn3:n=L.length+3:=by rw[← hnn,hlines];simp
 have h3:(3:Int)≤(n:Int):=by omega
 have h3' : ¬ (n:Int)<3:=by omega
 have h24:(n:Int)≤24:=by omega
 have h24' : ¬ (24:Int)<(n:Int):=by omega
 have HM:=hide hm;have HCUT:=hide hcut;have HLN:=hide hlines;have HNN:=hide hnn;have HN3:=hide hn3;have HOK:=hide hok
 clear hm hcut hlines hnn hn3 hok
 go_enter Tryz.func159,Tryz.ntmps159
 go_wp2_with (first
   | (go_at_call 48;refine (cut_any x head contents hx HCUT.out mx _ ?_).mono ?_; (exact (Below.cell ((Below.refl _ w).alloc (Nat.le_refl _) _) (p:=⟨3,0,none⟩) (by show 3<w.heap.size;omega)).trans HM.out);rintro e w1 ⟨rfl,hb1',hs1⟩;have HB1:=hide hb1';have HS1:=hide hs1;clear hb1' hs1)
   | (go_at_call 152;refine (split_any 10 head hhl mx _ ?_).mono ?_; (exact (Below.cell (((Below.refl _ w).alloc (Nat.le_refl _) _).trans (HB1.out.mono (by simp))) (p:=⟨3,0,none⟩) (by show 3<w.heap.size;omega)).trans HM.out);rintro e w2 ⟨he,rfl⟩;rw[HNN.out] at he;subst he))
 have HPa:=hide (PaIn.begin w w1 x head contents rfl HB1.out HS1.out)
 have e1:w1.heap.size=w.heap.size+1:=by rw[HS1.out];simp
 rw[e1]
 clear HB1 HS1 e1
 generalize hu:(w1.alloc (.cells ((sp 10 head).map strV).toArray 9)).alloc (.cells #[.string ⟨#[]⟩, .string ⟨#[]⟩, .slice none 0 0, .slice none 0 0, .slice none 0 0, .slice none 0 0, .slice none 0 0, .slice none 0 0, .string ⟨contents.toArray⟩] 308)=u at *
 clear hu
 have hsu:=HPa.out.siz
 have lc:∀ k,k<L.length+3→u.cell? ⟨w.heap.size+1,k,none⟩=some (strV ((a::b::d::L).getD k [])):=by
   intro k hk
   rw[row_cell HPa.out.lines k,HLN.out]
   have:k<(a::b::d::L).length:=by simp;omega
   simp only[List.getElem?_toArray,List.getElem?_map,List.getD,List.getElem?_eq_getElem this,Option.map,Option.getD]
 refine (head_all (w.heap.size+1+1) (w.heap.size+1) _ (.of contents) _ a b d u HPa.out.par (by omega) hbl (lc 0 (by omega)) (lc 1 (by omega)) (lc 2 (by omega))).mono ?_
 rintro e w3 ⟨he3,hb3,hp3⟩
 rw[HOK.out] at he3
 subst he3
 have ho4:=(hb3.block w.heap.size (by omega)).trans HPa.out.out
 have HBW4:Hid (Below w.heap.size w w3):=hide (HPa.out.bel.trans (hb3.mono (by omega)))
 obtain ⟨r0,r1,r2,r3,r4,r5,r6,r7,f0,f1,f2,f3,f4,f5,f6,f7⟩:=eight_any ho4
 have HO4:=hide ho4
 clear ho4 hb3 lc hp3
 go_wp2_with fail
 have R:=eight_put (w0:=w) (.string ⟨#[]⟩) (.string ⟨#[]⟩) (.slice none 0 0) (.slice none 0 0) (.slice none 0 0) (.slice none 0 0) (.slice none 0 0) (.slice none 0 0) HO4.out HBW4.out (Nat.le_refl _)
 obtain ⟨u0,u1,u2,u3,u4,u5,u6,u7, -⟩:=eight_any R.row
 exact bodyPost_ret (v := .tuple #[.agg #[.string ⟨#[]⟩, .string ⟨#[]⟩, .slice none 0 0, .slice none 0 0, .slice none 0 0, .slice none 0 0, .slice none 0 0, .slice none 0 0], .bool false]) (by simp[results,Tryz.results159,go_sem,u0,u1,u2,u3,u4,u5,u6,u7]) rfl
   ⟨rfl,R.bel⟩
theorem parse_body1 (x head contents a b d:S) (L:List S) (K:Nat→Int) (mx:Int) (w:World) (hx:x.length≤2000) (hcut:cutTwo x=some (head,contents)) (hhl:head.length≤2000) (hcl:contents.length≤2000)
   (hlines:sp 10 head=a::b::d::L) (hL:L.length≤21) (hL0:1≤L.length) (hll:∀ y∈L,y.length≤2000) (hbl:b.length≤2000) (hw9:9≤w.heap.size) (hok:Arc.headOk a b d=true) (hbody:Arc.pbody (short K) (.of contents) 0 L=none) (hm:w.cell? ⟨3,0,none⟩=some (.int .i64 mx)) (hK:∀ i:Nat,i<64→w.cell? ⟨4,i,none⟩=some (.int .u32 (K i))) :
   Calls Tryz.prog 159 #[.string ⟨x.toArray⟩] w fun e w'=>e = .returned (.tuple #[.agg #[.string ⟨#[]⟩, .string ⟨#[]⟩, .slice none 0 0, .slice none 0 0, .slice none 0 0, .slice none 0 0, .slice none 0 0, .slice none 0 0], .bool false])∧Below w.heap.size w w':=by
 have gx:(x.length:Int)≤2000:=by omega
 have gx2 : ¬ (2000:Int)<(x.length:Int):=by omega
 obtain ⟨n,hnn⟩:∃ n,(sp 10 head).length=n:=⟨_,rfl⟩
 have hn3:n=L.length+3:=by rw[← hnn,hlines];simp
 have h3:(3:Int)≤(n:Int):=by omega
 have h3' : ¬ (n:Int)<3:=by omega
 have h24:(n:Int)≤24:=by omega
 have h24' : ¬ (24:Int)<(n:Int):=by omega
 have hn0 : ¬ n=3:=by omega
 have HM:=hide hm;have HCUT:=hide hcut;have HLN:=hide hlines;have HNN:=hide hnn;have HN3:=hide hn3;have HOK:=hide hok
 clear hm hcut hlines hnn hn3 hok
 have HK:=hide hK;have HBODY:=hide hbody;clear hK hbody
 go_enter Tryz.func159,Tryz.ntmps159
 go_wp2_with (first
   | (go_at_call 48;refine (cut_any x head contents hx HCUT.out mx _ ?_).mono ?_; (exact (Below.cell ((Below.refl _ w).alloc (Nat.le_refl _) _) (p:=⟨3,0,none⟩) (by show 3<w.heap.size;omega)).trans HM.out);rintro e w1 ⟨rfl,hb1',hs1⟩;have HB1:=hide hb1';have HS1:=hide hs1;clear hb1' hs1)
   | (go_at_call 152;refine (split_any 10 head hhl mx _ ?_).mono ?_; (exact (Below.cell (((Below.refl _ w).alloc (Nat.le_refl _) _).trans (HB1.out.mono (by simp))) (p:=⟨3,0,none⟩) (by show 3<w.heap.size;omega)).trans HM.out);rintro e w2 ⟨he,rfl⟩;rw[HNN.out] at he;subst he))
 have HPa:=hide (PaIn.begin w w1 x head contents rfl HB1.out HS1.out)
 have e1:w1.heap.size=w.heap.size+1:=by rw[HS1.out];simp
 rw[e1]
 clear HB1 HS1 e1
 generalize hu:(w1.alloc (.cells ((sp 10 head).map strV).toArray 9)).alloc (.cells #[.string ⟨#[]⟩, .string ⟨#[]⟩, .slice none 0 0, .slice none 0 0, .slice none 0 0, .slice none 0 0, .slice none 0 0, .slice none 0 0, .string ⟨contents.toArray⟩] 308)=u at *
 clear hu
 have hsu:=HPa.out.siz
 have lc:∀ k,k<L.length+3→u.cell? ⟨w.heap.size+1,k,none⟩=some (strV ((a::b::d::L).getD k [])):=by
   intro k hk
   rw[row_cell HPa.out.lines k,HLN.out]
   have:k<(a::b::d::L).length:=by simp;omega
   simp only[List.getElem?_toArray,List.getElem?_map,List.getD,List.getElem?_eq_getElem this,Option.map,Option.getD]
 refine (head_all (w.heap.size+1+1) (w.heap.size+1) _ (.of contents) _ a b d u HPa.out.par (by omega) hbl (lc 0 (by omega)) (lc 1 (by omega)) (lc 2 (by omega))).mono ?_
 rintro e w3 ⟨he3,hb3,hp3⟩
 rw[HOK.out] at he3
 subst he3
 have HP3:=hide (hp3 HOK.out);have HB3:=hide hb3;have HLC:=hide lc
 clear hp3 hb3 lc
 go_wp2_with fail
 have hbw:Below w.heap.size w w3:=HPa.out.bel.trans (HB3.out.mono (by omega))
 have HBW:=hide hbw;clear hbw
 rw[show n-3=L.length from by have:=HN3.out;omega]
 refine (body_any (w.heap.size+1+1) (w.heap.size+1) 3 L.length _ _ (.of contents) L K mx _ w3 HP3.out (by refine ⟨?_,?_,?_,?_,?_,?_,?_⟩<;>simp[St.of,hcl]) (by omega) (by omega) hL hll ((HBW.out.cell (p:=⟨3,0,none⟩) (by show 3<w.heap.size;omega)).trans HM.out)
   (fun i hi=>(HBW.out.cell (p:=⟨4,i,none⟩) (by show 4<w.heap.size;omega)).trans (HK.out i hi)) (fun k hk=>(HB3.out.cell (p:=⟨w.heap.size+1,3+k,none⟩) (by show w.heap.size+1<w.heap.size+1+1;omega)).trans ((HLC.out (3+k) (by omega)).trans (by rw[show 3+k=k+1+1+1 from by omega];rfl)))).mono ?_
 rintro e w4 hpost
 rw[HBODY.out] at hpost
 obtain ⟨rfl,hb4⟩:=hpost
 have HBW4:Hid (Below w.heap.size w w4):=hide (HBW.out.trans (hb4.mono (by omega)))
 have ho4:=(hb4.block w.heap.size (by omega)).trans ((HB3.out.block w.heap.size (by omega)).trans HPa.out.out)
 obtain ⟨r0,r1,r2,r3,r4,r5,r6,r7,f0,f1,f2,f3,f4,f5,f6,f7⟩:=eight_any ho4
 have HO4:=hide ho4
 clear ho4 hb4
 go_wp2_with fail
 have R:=eight_put (w0:=w) (.string ⟨#[]⟩) (.string ⟨#[]⟩) (.slice none 0 0) (.slice none 0 0) (.slice none 0 0) (.slice none 0 0) (.slice none 0 0) (.slice none 0 0) HO4.out HBW4.out (Nat.le_refl _)
 obtain ⟨u0,u1,u2,u3,u4,u5,u6,u7, -⟩:=eight_any R.row
 exact bodyPost_ret (v := .tuple #[.agg #[.string ⟨#[]⟩, .string ⟨#[]⟩, .slice none 0 0, .slice none 0 0, .slice none 0 0, .slice none 0 0, .slice none 0 0, .slice none 0 0], .bool false]) (by simp[results,Tryz.results159,go_sem,u0,u1,u2,u3,u4,u5,u6,u7]) rfl
   ⟨rfl,R.bel⟩
theorem parse_left0 (x head contents a b d:S) (L:List S) (K:Nat→Int) (mx:Int) (w:World) (hx:x.length≤2000) (hcut:cutTwo x=some (head,contents)) (hhl:head.length≤2000) (hcl:contents.length≤2000)
   (hlines:sp 10 head=a::b::d::L) (hL:L.length≤21) (hL0:L.length=0) (hll:∀ y∈L,y.length≤2000) (hbl:b.length≤2000) (hw9:9≤w.heap.size) (hok:Arc.headOk a b d=true) (st:St) (hbody:Arc.pbody (short K) (.of contents) 0 L=some st) (hleft:(st.left==[])=false) (hm:w.cell? ⟨3,0,none⟩=some (.int .i64 mx)) (hK:∀ i:Nat,i<64→w.cell? ⟨4,i,none⟩=some (.int .u32 (K i))) :
   Calls Tryz.prog 159 #[.string ⟨x.toArray⟩] w fun e w'=>e = .returned (.tuple #[.agg #[.string ⟨#[]⟩, .string ⟨#[]⟩, .slice none 0 0, .slice none 0 0, .slice none 0 0, .slice none 0 0, .slice none 0 0, .slice none 0 0], .bool false])∧Below w.heap.size w w':=by
 have gx:(x.length:Int)≤2000:=by omega
 have gx2 : ¬ (2000:Int)<(x.length:Int):=by omega
 obtain ⟨n,hnn⟩:∃ n,(sp 10 head).length=n:=⟨_,rfl⟩
 have hn3:n=L.length+3:=by rw[← hnn,hlines];simp
 have h3:(3:Int)≤(n:Int):=by omega
 have h3' : ¬ (n:Int)<3:=by omega
 have h24:(n:Int)≤24:=by omega
 have h24' : ¬ (24:Int)<(n:Int):=by omega
 have hL1:L=[]:=List.eq_nil_of_length_eq_zero hL0
 obtain rfl:n=3:=by omega
 have HM:=hide hm;have HCUT:=hide hcut;have HLN:=hide hlines;have HNN:=hide hnn;have HN3:=hide hn3;have HOK:=hide hok
 clear hm hcut hlines hnn hn3 hok
 have HK:=hide hK;have HBODY:=hide hbody;clear hK hbody
 have HLEFT:=hide hleft;clear hleft
 go_enter Tryz.func159,Tryz.ntmps159
 go_wp2_with (first
   | (go_at_call 48;refine (cut_any x head contents hx HCUT.out mx _ ?_).mono ?_; (exact (Below.cell ((Below.refl _ w).alloc (Nat.le_refl _) _) (p:=⟨3,0,none⟩) (by show 3<w.heap.size;omega)).trans HM.out);rintro e w1 ⟨rfl,hb1',hs1⟩;have HB1:=hide hb1';have HS1:=hide hs1;clear hb1' hs1)
   | (go_at_call 152;refine (split_any 10 head hhl mx _ ?_).mono ?_; (exact (Below.cell (((Below.refl _ w).alloc (Nat.le_refl _) _).trans (HB1.out.mono (by simp))) (p:=⟨3,0,none⟩) (by show 3<w.heap.size;omega)).trans HM.out);rintro e w2 ⟨he,rfl⟩;rw[HNN.out] at he;subst he))
 have HPa:=hide (PaIn.begin w w1 x head contents rfl HB1.out HS1.out)
 have e1:w1.heap.size=w.heap.size+1:=by rw[HS1.out];simp
 rw[e1]
 clear HB1 HS1 e1
 generalize hu:(w1.alloc (.cells ((sp 10 head).map strV).toArray 9)).alloc (.cells #[.string ⟨#[]⟩, .string ⟨#[]⟩, .slice none 0 0, .slice none 0 0, .slice none 0 0, .slice none 0 0, .slice none 0 0, .slice none 0 0, .string ⟨contents.toArray⟩] 308)=u at *
 clear hu
 have hsu:=HPa.out.siz
 have lc:∀ k,k<L.length+3→u.cell? ⟨w.heap.size+1,k,none⟩=some (strV ((a::b::d::L).getD k [])):=by
   intro k hk
   rw[row_cell HPa.out.lines k,HLN.out]
   have:k<(a::b::d::L).length:=by simp;omega
   simp only[List.getElem?_toArray,List.getElem?_map,List.getD,List.getElem?_eq_getElem this,Option.map,Option.getD]
 refine (head_all (w.heap.size+1+1) (w.heap.size+1) _ (.of contents) _ a b d u HPa.out.par (by omega) hbl (lc 0 (by omega)) (lc 1 (by omega)) (lc 2 (by omega))).mono ?_
 rintro e w3 ⟨he3,hb3,hp3⟩
 rw[HOK.out] at he3
 subst he3
 have HP3:=hide (hp3 HOK.out);have HB3:=hide hb3;have HLC:=hide lc
 clear hp3 hb3 lc
 go_wp2_with fail
 have hbw:Below w.heap.size w w3:=HPa.out.bel.trans (HB3.out.mono (by omega))
 have HBW:=hide hbw;clear hbw
 subst hL1
 refine (body_any (w.heap.size+1+1) (w.heap.size+1) 0 0 _ _ (.of contents) [] K mx _ w3 HP3.out (by refine ⟨?_,?_,?_,?_,?_,?_,?_⟩<;>simp[St.of,hcl]) (by omega) (by omega) hL hll ((HBW.out.cell (p:=⟨3,0,none⟩) (by show 3<w.heap.size;omega)).trans HM.out)
   (fun i hi=>(HBW.out.cell (p:=⟨4,i,none⟩) (by show 4<w.heap.size;omega)).trans (HK.out i hi)) (fun k hk=>by omega)).mono ?_
 rintro e w4 hpost
 rw[HBODY.out] at hpost
 obtain ⟨rfl,sl4,hp4,hb4⟩:=hpost
 have HP4:=hide hp4
 have HBW4:Hid (Below w.heap.size w w4):=hide (HBW.out.trans (hb4.mono (by omega)))
 have ho4:=(hb4.block w.heap.size (by omega)).trans ((HB3.out.block w.heap.size (by omega)).trans HPa.out.out)
 have hp4c:=hp4.blk
 obtain ⟨y,hy⟩:∃ y,st.left=y:=⟨_,rfl⟩
 have hyn:=HLEFT.out
 rw[hy] at hp4c hyn
 obtain ⟨q0,q1,q2,q3,q4,q5,q6,q7,q8⟩:=nine_free hp4c
 obtain ⟨r0,r1,r2,r3,r4,r5,r6,r7,f0,f1,f2,f3,f4,f5,f6,f7⟩:=eight_any ho4
 have HO4:=hide ho4
 have q8':w4.cell? ⟨w.heap.size+1+1,8,none⟩=some (.string ⟨y.toArray⟩):=q8
 clear hp4 hb4 ho4 hp4c q0 q1 q2 q3 q4 q5 q6 q7 q8 hy
 go_wp2_with fail
 have R:=eight_put (w0:=w) (.string ⟨#[]⟩) (.string ⟨#[]⟩) (.slice none 0 0) (.slice none 0 0) (.slice none 0 0) (.slice none 0 0) (.slice none 0 0) (.slice none 0 0) HO4.out HBW4.out (Nat.le_refl _)
 obtain ⟨u0,u1,u2,u3,u4,u5,u6,u7, -⟩:=eight_any R.row
 exact bodyPost_ret (v := .tuple #[.agg #[.string ⟨#[]⟩, .string ⟨#[]⟩, .slice none 0 0, .slice none 0 0, .slice none 0 0, .slice none 0 0, .slice none 0 0, .slice none 0 0], .bool false]) (by simp[results,Tryz.results159,go_sem,u0,u1,u2,u3,u4,u5,u6,u7]) rfl
   ⟨rfl,R.bel⟩
theorem parse_left1 (x head contents a b d:S) (L:List S) (K:Nat→Int) (mx:Int) (w:World) (hx:x.length≤2000) (hcut:cutTwo x=some (head,contents)) (hhl:head.length≤2000) (hcl:contents.length≤2000)
   (hlines:sp 10 head=a::b::d::L) (hL:L.length≤21) (hL0:1≤L.length) (hll:∀ y∈L,y.length≤2000) (hbl:b.length≤2000) (hw9:9≤w.heap.size) (hok:Arc.headOk a b d=true) (st:St) (hbody:Arc.pbody (short K) (.of contents) 0 L=some st) (hleft:(st.left==[])=false) (hm:w.cell? ⟨3,0,none⟩=some (.int .i64 mx)) (hK:∀ i:Nat,i<64→w.cell? ⟨4,i,none⟩=some (.int .u32 (K i))) :
   Calls Tryz.prog 159 #[.string ⟨x.toArray⟩] w fun e w'=>e = .returned (.tuple #[.agg #[.string ⟨#[]⟩, .string ⟨#[]⟩, .slice none 0 0, .slice none 0 0, .slice none 0 0, .slice none 0 0, .slice none 0 0, .slice none 0 0], .bool false])∧Below w.heap.size w w':=by
 have gx:(x.length:Int)≤2000:=by omega
 have gx2 : ¬ (2000:Int)<(x.length:Int):=by omega
 obtain ⟨n,hnn⟩:∃ n,(sp 10 head).length=n:=⟨_,rfl⟩
 have hn3:n=L.length+3:=by rw[← hnn,hlines];simp
 have h3:(3:Int)≤(n:Int):=by omega
 have h3' : ¬ (n:Int)<3:=by omega
 have h24:(n:Int)≤24:=by omega
 have h24' : ¬ (24:Int)<(n:Int):=by omega
 have hn0 : ¬ n=3:=by omega
 have HM:=hide hm;have HCUT:=hide hcut;have HLN:=hide hlines;have HNN:=hide hnn;have HN3:=hide hn3;have HOK:=hide hok
 clear hm hcut hlines hnn hn3 hok
 have HK:=hide hK;have HBODY:=hide hbody;clear hK hbody
 have HLEFT:=hide hleft;clear hleft
 go_enter Tryz.func159,Tryz.ntmps159
 go_wp2_with (first
   | (go_at_call 48;refine (cut_any x head contents hx HCUT.out mx _ ?_).mono ?_; (exact (Below.cell ((Below.refl _ w).alloc (Nat.le_refl _) _) (p:=⟨3,0,none⟩) (by show 3<w.heap.size;omega)).trans HM.out);rintro e w1 ⟨rfl,hb1',hs1⟩;have HB1:=hide hb1';have HS1:=hide hs1;clear hb1' hs1)
   | (go_at_call 152;refine (split_any 10 head hhl mx _ ?_).mono ?_; (exact (Below.cell (((Below.refl _ w).alloc (Nat.le_refl _) _).trans (HB1.out.mono (by simp))) (p:=⟨3,0,none⟩) (by show 3<w.heap.size;omega)).trans HM.out);rintro e w2 ⟨he,rfl⟩;rw[HNN.out] at he;subst he))
 have HPa:=hide (PaIn.begin w w1 x head contents rfl HB1.out HS1.out)
 have e1:w1.heap.size=w.heap.size+1:=by rw[HS1.out];simp
 rw[e1]
 clear HB1 HS1 e1
 generalize hu:(w1.alloc (.cells ((sp 10 head).map strV).toArray 9)).alloc (.cells #[.string ⟨#[]⟩, .string ⟨#[]⟩, .slice none 0 0, .slice none 0 0, .slice none 0 0, .slice none 0 0, .slice none 0 0, .slice none 0 0, .string ⟨contents.toArray⟩] 308)=u at *
 clear hu
 have hsu:=HPa.out.siz
 have lc:∀ k,k<L.length+3→u.cell? ⟨w.heap.size+1,k,none⟩=some (strV ((a::b::d::L).getD k [])):=by
   intro k hk
   rw[row_cell HPa.out.lines k,HLN.out]
   have:k<(a::b::d::L).length:=by simp;omega
   simp only[List.getElem?_toArray,List.getElem?_map,List.getD,List.getElem?_eq_getElem this,Option.map,Option.getD]
 refine (head_all (w.heap.size+1+1) (w.heap.size+1) _ (.of contents) _ a b d u HPa.out.par (by omega) hbl (lc 0 (by omega)) (lc 1 (by omega)) (lc 2 (by omega))).mono ?_
 rintro e w3 ⟨he3,hb3,hp3⟩
 rw[HOK.out] at he3
 subst he3
 have HP3:=hide (hp3 HOK.out);have HB3:=hide hb3;have HLC:=hide lc
 clear hp3 hb3 lc
 go_wp2_with fail
 have hbw:Below w.heap.size w w3:=HPa.out.bel.trans (HB3.out.mono (by omega))
 have HBW:=hide hbw;clear hbw
 rw[show n-3=L.length from by have:=HN3.out;omega]
 refine (body_any (w.heap.size+1+1) (w.heap.size+1) 3 L.length _ _ (.of contents) L K mx _ w3 HP3.out (by refine ⟨?_,?_,?_,?_,?_,?_,?_⟩<;>simp[St.of,hcl]) (by omega) (by omega) hL hll ((HBW.out.cell (p:=⟨3,0,none⟩) (by show 3<w.heap.size;omega)).trans HM.out)
   (fun i hi=>(HBW.out.cell (p:=⟨4,i,none⟩) (by show 4<w.heap.size;omega)).trans (HK.out i hi)) (fun k hk=>(HB3.out.cell (p:=⟨w.heap.size+1,3+k,none⟩) (by show w.heap.size+1<w.heap.size+1+1;omega)).trans ((HLC.out (3+k) (by omega)).trans (by rw[show 3+k=k+1+1+1 from by omega];rfl)))).mono ?_
 rintro e w4 hpost
 rw[HBODY.out] at hpost
 obtain ⟨rfl,sl4,hp4,hb4⟩:=hpost
 have HP4:=hide hp4
 have HBW4:Hid (Below w.heap.size w w4):=hide (HBW.out.trans (hb4.mono (by omega)))
 have ho4:=(hb4.block w.heap.size (by omega)).trans ((HB3.out.block w.heap.size (by omega)).trans HPa.out.out)
 have hp4c:=hp4.blk
 obtain ⟨y,hy⟩:∃ y,st.left=y:=⟨_,rfl⟩
 have hyn:=HLEFT.out
 rw[hy] at hp4c hyn
 obtain ⟨q0,q1,q2,q3,q4,q5,q6,q7,q8⟩:=nine_free hp4c
 obtain ⟨r0,r1,r2,r3,r4,r5,r6,r7,f0,f1,f2,f3,f4,f5,f6,f7⟩:=eight_any ho4
 have HO4:=hide ho4
 have q8':w4.cell? ⟨w.heap.size+1+1,8,none⟩=some (.string ⟨y.toArray⟩):=q8
 clear hp4 hb4 ho4 hp4c q0 q1 q2 q3 q4 q5 q6 q7 q8 hy
 go_wp2_with fail
 have R:=eight_put (w0:=w) (.string ⟨#[]⟩) (.string ⟨#[]⟩) (.slice none 0 0) (.slice none 0 0) (.slice none 0 0) (.slice none 0 0) (.slice none 0 0) (.slice none 0 0) HO4.out HBW4.out (Nat.le_refl _)
 obtain ⟨u0,u1,u2,u3,u4,u5,u6,u7, -⟩:=eight_any R.row
 exact bodyPost_ret (v := .tuple #[.agg #[.string ⟨#[]⟩, .string ⟨#[]⟩, .slice none 0 0, .slice none 0 0, .slice none 0 0, .slice none 0 0, .slice none 0 0, .slice none 0 0], .bool false]) (by simp[results,Tryz.results159,go_sem,u0,u1,u2,u3,u4,u5,u6,u7]) rfl
   ⟨rfl,R.bel⟩
theorem parse_ok0 (x head contents a b d:S) (L:List S) (K:Nat→Int) (mx:Int) (w:World) (hx:x.length≤2000) (hcut:cutTwo x=some (head,contents)) (hhl:head.length≤2000) (hcl:contents.length≤2000)
   (hlines:sp 10 head=a::b::d::L) (hL:L.length≤21) (hL0:L.length=0) (hll:∀ y∈L,y.length≤2000) (hbl:b.length≤2000) (hw9:9≤w.heap.size) (hok:Arc.headOk a b d=true) (st:St) (hbody:Arc.pbody (short K) (.of contents) 0 L=some st) (hleft:st.left=[]) (hm:w.cell? ⟨3,0,none⟩=some (.int .i64 mx)) (hK:∀ i:Nat,i<64→w.cell? ⟨4,i,none⟩=some (.int .u32 (K i))) :
   Calls Tryz.prog 159 #[.string ⟨x.toArray⟩] w fun e w'=>∃ sl:Fin 6→Value,e = .returned (.tuple #[.agg #[strV (Arc.behind Arc.wName b),strV (Arc.behind Arc.wVersion d),sl 0,sl 1,sl 2,sl 3,sl 4,sl 5], .bool true])∧(∀ i,w'.ownsRow w.heap.size (pty i) (psz i) (sl i) (prow st i).1 (prow st i).2)∧Below w.heap.size w w':=by
 have gx:(x.length:Int)≤2000:=by omega
 have gx2 : ¬ (2000:Int)<(x.length:Int):=by omega
 obtain ⟨n,hnn⟩:∃ n,(sp 10 head).length=n:=⟨_,rfl⟩
 have hn3:n=L.length+3:=by rw[← hnn,hlines];simp
 have h3:(3:Int)≤(n:Int):=by omega
 have h3' : ¬ (n:Int)<3:=by omega
 have h24:(n:Int)≤24:=by omega
 have h24' : ¬ (24:Int)<(n:Int):=by omega
 have hL1:L=[]:=List.eq_nil_of_length_eq_zero hL0
 obtain rfl:n=3:=by omega
 have HM:=hide hm;have HCUT:=hide hcut;have HLN:=hide hlines;have HNN:=hide hnn;have HN3:=hide hn3;have HOK:=hide hok
 clear hm hcut hlines hnn hn3 hok
 have HK:=hide hK;have HBODY:=hide hbody;clear hK hbody
 have HLEFT:=hide hleft;clear hleft
 go_enter Tryz.func159,Tryz.ntmps159
 go_wp2_with (first
   | (go_at_call 48;refine (cut_any x head contents hx HCUT.out mx _ ?_).mono ?_; (exact (Below.cell ((Below.refl _ w).alloc (Nat.le_refl _) _) (p:=⟨3,0,none⟩) (by show 3<w.heap.size;omega)).trans HM.out);rintro e w1 ⟨rfl,hb1',hs1⟩;have HB1:=hide hb1';have HS1:=hide hs1;clear hb1' hs1)
   | (go_at_call 152;refine (split_any 10 head hhl mx _ ?_).mono ?_; (exact (Below.cell (((Below.refl _ w).alloc (Nat.le_refl _) _).trans (HB1.out.mono (by simp))) (p:=⟨3,0,none⟩) (by show 3<w.heap.size;omega)).trans HM.out);rintro e w2 ⟨he,rfl⟩;rw[HNN.out] at he;subst he))
 have HPa:=hide (PaIn.begin w w1 x head contents rfl HB1.out HS1.out)
 have e1:w1.heap.size=w.heap.size+1:=by rw[HS1.out];simp
 rw[e1]
 clear HB1 HS1 e1
 generalize hu:(w1.alloc (.cells ((sp 10 head).map strV).toArray 9)).alloc (.cells #[.string ⟨#[]⟩, .string ⟨#[]⟩, .slice none 0 0, .slice none 0 0, .slice none 0 0, .slice none 0 0, .slice none 0 0, .slice none 0 0, .string ⟨contents.toArray⟩] 308)=u at *
 clear hu
 have hsu:=HPa.out.siz
 have lc:∀ k,k<L.length+3→u.cell? ⟨w.heap.size+1,k,none⟩=some (strV ((a::b::d::L).getD k [])):=by
   intro k hk
   rw[row_cell HPa.out.lines k,HLN.out]
   have:k<(a::b::d::L).length:=by simp;omega
   simp only[List.getElem?_toArray,List.getElem?_map,List.getD,List.getElem?_eq_getElem this,Option.map,Option.getD]
 refine (head_all (w.heap.size+1+1) (w.heap.size+1) _ (.of contents) _ a b d u HPa.out.par (by omega) hbl (lc 0 (by omega)) (lc 1 (by omega)) (lc 2 (by omega))).mono ?_
 rintro e w3 ⟨he3,hb3,hp3⟩
 rw[HOK.out] at he3
 subst he3
 have HP3:=hide (hp3 HOK.out);have HB3:=hide hb3;have HLC:=hide lc
 clear hp3 hb3 lc
 go_wp2_with fail
 have hbw:Below w.heap.size w w3:=HPa.out.bel.trans (HB3.out.mono (by omega))
 have HBW:=hide hbw;clear hbw
 subst hL1
 refine (body_any (w.heap.size+1+1) (w.heap.size+1) 0 0 _ _ (.of contents) [] K mx _ w3 HP3.out (by refine ⟨?_,?_,?_,?_,?_,?_,?_⟩<;>simp[St.of,hcl]) (by omega) (by omega) hL hll ((HBW.out.cell (p:=⟨3,0,none⟩) (by show 3<w.heap.size;omega)).trans HM.out)
   (fun i hi=>(HBW.out.cell (p:=⟨4,i,none⟩) (by show 4<w.heap.size;omega)).trans (HK.out i hi)) (fun k hk=>by omega)).mono ?_
 rintro e w4 hpost
 rw[HBODY.out] at hpost
 obtain ⟨rfl,sl4,hp4,hb4⟩:=hpost
 have HP4:=hide hp4
 have HBW4:Hid (Below w.heap.size w w4):=hide (HBW.out.trans (hb4.mono (by omega)))
 have ho4:=(hb4.block w.heap.size (by omega)).trans ((HB3.out.block w.heap.size (by omega)).trans HPa.out.out)
 have hp4c:=hp4.blk
 rw[HLEFT.out] at hp4c
 obtain ⟨nm,hnm⟩:∃ nm,Arc.behind Arc.wName b=nm:=⟨_,rfl⟩
 obtain ⟨ve,hve⟩:∃ ve,Arc.behind Arc.wVersion d=ve:=⟨_,rfl⟩
 rw[hnm,hve] at hp4c
 have HNM:=hide hnm;have HVE:=hide hve
 obtain ⟨q0,q1,q2,q3,q4,q5,q6,q7,q8⟩:=nine_free hp4c
 obtain ⟨r0,r1,r2,r3,r4,r5,r6,r7,f0,f1,f2,f3,f4,f5,f6,f7⟩:=eight_any ho4
 have HO4:=hide ho4
 have q8':w4.cell? ⟨w.heap.size+1+1,8,none⟩=some (.string ⟨#[]⟩):=q8
 have q0':w4.cell? ⟨w.heap.size+1+1,0,none⟩=some (.string ⟨nm.toArray⟩):=q0
 have q1':w4.cell? ⟨w.heap.size+1+1,1,none⟩=some (.string ⟨ve.toArray⟩):=q1
 obtain ⟨a0,z0,h0⟩:=slice_form (hp4.own 0)
 obtain ⟨a1,z1,h1⟩:=slice_form (hp4.own 1)
 obtain ⟨a2,z2,h2⟩:=slice_form (hp4.own 2)
 obtain ⟨a3,z3,h3x⟩:=slice_form (hp4.own 3)
 obtain ⟨a4,z4,h4⟩:=slice_form (hp4.own 4)
 obtain ⟨a5,z5,h5⟩:=slice_form (hp4.own 5)
 generalize (prow st 0).1=m0 at h0
 generalize (prow st 1).1=m1 at h1
 generalize (prow st 2).1=m2 at h2
 generalize (prow st 3).1=m3 at h3x
 generalize (prow st 4).1=m4 at h4
 generalize (prow st 5).1=m5 at h5
 rw[h0] at q2
 rw[h1] at q3
 rw[h2] at q4
 rw[h3x] at q5
 rw[h4] at q6
 rw[h5] at q7
 have HE:=hide (And.intro h0 (And.intro h1 (And.intro h2 (And.intro h3x (And.intro h4 h5)))))
 clear hp4 hb4 ho4 hp4c q8 q0 q1 h0 h1 h2 h3x h4 h5 hnm hve
 go_wp2_with fail
 have R:=eight_put (w0:=w) (.string ⟨nm.toArray⟩) (.string ⟨ve.toArray⟩) (.slice a0 m0 z0) (.slice a1 m1 z1) (.slice a2 m2 z2) (.slice a3 m3 z3) (.slice a4 m4 z4) (.slice a5 m5 z5) HO4.out HBW4.out (Nat.le_refl _)
 obtain ⟨u0,u1,u2,u3,u4,u5,u6,u7, -⟩:=eight_any R.row
 refine bodyPost_ret (v := .tuple #[.agg #[.string ⟨nm.toArray⟩, .string ⟨ve.toArray⟩, .slice a0 m0 z0, .slice a1 m1 z1, .slice a2 m2 z2, .slice a3 m3 z3, .slice a4 m4 z4, .slice a5 m5 z5], .bool true]) (by simp[results,Tryz.results159,go_sem,u0,u1,u2,u3,u4,u5,u6,u7]) rfl
   ⟨sl4,?_,fun i=>pa_own HP4.out R i,R.bel⟩
 obtain ⟨h0,h1,h2,h3x,h4,h5⟩:=HE.out
 rw[HNM.out,HVE.out,h0,h1,h2,h3x,h4,h5]
 rfl
theorem parse_ok1 (x head contents a b d:S) (L:List S) (K:Nat→Int) (mx:Int) (w:World) (hx:x.length≤2000) (hcut:cutTwo x=some (head,contents)) (hhl:head.length≤2000) (hcl:contents.length≤2000)
   (hlines:sp 10 head=a::b::d::L) (hL:L.length≤21) (hL0:1≤L.length) (hll:∀ y∈L,y.length≤2000) (hbl:b.length≤2000) (hw9:9≤w.heap.size) (hok:Arc.headOk a b d=true) (st:St) (hbody:Arc.pbody (short K) (.of contents) 0 L=some st) (hleft:st.left=[]) (hm:w.cell? ⟨3,0,none⟩=some (.int .i64 mx)) (hK:∀ i:Nat,i<64→w.cell? ⟨4,i,none⟩=some (.int .u32 (K i))) :
   Calls Tryz.prog 159 #[.string ⟨x.toArray⟩] w fun e w'=>∃ sl:Fin 6→Value,e = .returned (.tuple #[.agg #[strV (Arc.behind Arc.wName b),strV (Arc.behind Arc.wVersion d),sl 0,sl 1,sl 2,sl 3,sl 4,sl 5], .bool true])∧(∀ i,w'.ownsRow w.heap.size (pty i) (psz i) (sl i) (prow st i).1 (prow st i).2)∧Below w.heap.size w w':=by
 have gx:(x.length:Int)≤2000:=by omega
 have gx2 : ¬ (2000:Int)<(x.length:Int):=by omega
 obtain ⟨n,hnn⟩:∃ n,(sp 10 head).length=n:=⟨_,rfl⟩
 have hn3:n=L.length+3:=by rw[← hnn,hlines];simp
 have h3:(3:Int)≤(n:Int):=by omega
 have h3' : ¬ (n:Int)<3:=by omega
 have h24:(n:Int)≤24:=by omega
 have h24' : ¬ (24:Int)<(n:Int):=by omega
 have hn0 : ¬ n=3:=by omega
 have HM:=hide hm;have HCUT:=hide hcut;have HLN:=hide hlines;have HNN:=hide hnn;have HN3:=hide hn3;have HOK:=hide hok
 clear hm hcut hlines hnn hn3 hok
 have HK:=hide hK;have HBODY:=hide hbody;clear hK hbody
 have HLEFT:=hide hleft;clear hleft
 go_enter Tryz.func159,Tryz.ntmps159
 go_wp2_with (first
   | (go_at_call 48;refine (cut_any x head contents hx HCUT.out mx _ ?_).mono ?_; (exact (Below.cell ((Below.refl _ w).alloc (Nat.le_refl _) _) (p:=⟨3,0,none⟩) (by show 3<w.heap.size;omega)).trans HM.out);rintro e w1 ⟨rfl,hb1',hs1⟩;have HB1:=hide hb1';have HS1:=hide hs1;clear hb1' hs1)
   | (go_at_call 152;refine (split_any 10 head hhl mx _ ?_).mono ?_; (exact (Below.cell (((Below.refl _ w).alloc (Nat.le_refl _) _).trans (HB1.out.mono (by simp))) (p:=⟨3,0,none⟩) (by show 3<w.heap.size;omega)).trans HM.out);rintro e w2 ⟨he,rfl⟩;rw[HNN.out] at he;subst he))
 have HPa:=hide (PaIn.begin w w1 x head contents rfl HB1.out HS1.out)
 have e1:w1.heap.size=w.heap.size+1:=by rw[HS1.out];simp
 rw[e1]
 clear HB1 HS1 e1
 generalize hu:(w1.alloc (.cells ((sp 10 head).map strV).toArray 9)).alloc (.cells #[.string ⟨#[]⟩, .string ⟨#[]⟩, .slice none 0 0, .slice none 0 0, .slice none 0 0, .slice none 0 0, .slice none 0 0, .slice none 0 0, .string ⟨contents.toArray⟩] 308)=u at *
 clear hu
 have hsu:=HPa.out.siz
 have lc:∀ k,k<L.length+3→u.cell? ⟨w.heap.size+1,k,none⟩=some (strV ((a::b::d::L).getD k [])):=by
   intro k hk
   rw[row_cell HPa.out.lines k,HLN.out]
   have:k<(a::b::d::L).length:=by simp;omega
   simp only[List.getElem?_toArray,List.getElem?_map,List.getD,List.getElem?_eq_getElem this,Option.map,Option.getD]
 refine (head_all (w.heap.size+1+1) (w.heap.size+1) _ (.of contents) _ a b d u HPa.out.par (by omega) hbl (lc 0 (by omega)) (lc 1 (by omega)) (lc 2 (by omega))).mono ?_
 rintro e w3 ⟨he3,hb3,hp3⟩
 rw[HOK.out] at he3
 subst he3
 have HP3:=hide (hp3 HOK.out);have HB3:=hide hb3;have HLC:=hide lc
 clear hp3 hb3 lc
 go_wp2_with fail
 have hbw:Below w.heap.size w w3:=HPa.out.bel.trans (HB3.out.mono (by omega))
 have HBW:=hide hbw;clear hbw
 rw[show n-3=L.length from by have:=HN3.out;omega]
 refine (body_any (w.heap.size+1+1) (w.heap.size+1) 3 L.length _ _ (.of contents) L K mx _ w3 HP3.out (by refine ⟨?_,?_,?_,?_,?_,?_,?_⟩<;>simp[St.of,hcl]) (by omega) (by omega) hL hll ((HBW.out.cell (p:=⟨3,0,none⟩) (by show 3<w.heap.size;omega)).trans HM.out)
   (fun i hi=>(HBW.out.cell (p:=⟨4,i,none⟩) (by show 4<w.heap.size;omega)).trans (HK.out i hi)) (fun k hk=>(HB3.out.cell (p:=⟨w.heap.size+1,3+k,none⟩) (by show w.heap.size+1<w.heap.size+1+1;omega)).trans ((HLC.out (3+k) (by omega)).trans (by rw[show 3+k=k+1+1+1 from by omega];rfl)))).mono ?_
 rintro e w4 hpost
 rw[HBODY.out] at hpost
 obtain ⟨rfl,sl4,hp4,hb4⟩:=hpost
 have HP4:=hide hp4
 have HBW4:Hid (Below w.heap.size w w4):=hide (HBW.out.trans (hb4.mono (by omega)))
 have ho4:=(hb4.block w.heap.size (by omega)).trans ((HB3.out.block w.heap.size (by omega)).trans HPa.out.out)
 have hp4c:=hp4.blk
 rw[HLEFT.out] at hp4c
 obtain ⟨nm,hnm⟩:∃ nm,Arc.behind Arc.wName b=nm:=⟨_,rfl⟩
 obtain ⟨ve,hve⟩:∃ ve,Arc.behind Arc.wVersion d=ve:=⟨_,rfl⟩
 rw[hnm,hve] at hp4c
 have HNM:=hide hnm;have HVE:=hide hve
 obtain ⟨q0,q1,q2,q3,q4,q5,q6,q7,q8⟩:=nine_free hp4c
 obtain ⟨r0,r1,r2,r3,r4,r5,r6,r7,f0,f1,f2,f3,f4,f5,f6,f7⟩:=eight_any ho4
 have HO4:=hide ho4
 have q8':w4.cell? ⟨w.heap.size+1+1,8,none⟩=some (.string ⟨#[]⟩):=q8
 have q0':w4.cell? ⟨w.heap.size+1+1,0,none⟩=some (.string ⟨nm.toArray⟩):=q0
 have q1':w4.cell? ⟨w.heap.size+1+1,1,none⟩=some (.string ⟨ve.toArray⟩):=q1
 obtain ⟨a0,z0,h0⟩:=slice_form (hp4.own 0)
 obtain ⟨a1,z1,h1⟩:=slice_form (hp4.own 1)
 obtain ⟨a2,z2,h2⟩:=slice_form (hp4.own 2)
 obtain ⟨a3,z3,h3x⟩:=slice_form (hp4.own 3)
 obtain ⟨a4,z4,h4⟩:=slice_form (hp4.own 4)
 obtain ⟨a5,z5,h5⟩:=slice_form (hp4.own 5)
 generalize (prow st 0).1=m0 at h0
 generalize (prow st 1).1=m1 at h1
 generalize (prow st 2).1=m2 at h2
 generalize (prow st 3).1=m3 at h3x
 generalize (prow st 4).1=m4 at h4
 generalize (prow st 5).1=m5 at h5
 rw[h0] at q2
 rw[h1] at q3
 rw[h2] at q4
 rw[h3x] at q5
 rw[h4] at q6
 rw[h5] at q7
 have HE:=hide (And.intro h0 (And.intro h1 (And.intro h2 (And.intro h3x (And.intro h4 h5)))))
 clear hp4 hb4 ho4 hp4c q8 q0 q1 h0 h1 h2 h3x h4 h5 hnm hve
 go_wp2_with fail
 have R:=eight_put (w0:=w) (.string ⟨nm.toArray⟩) (.string ⟨ve.toArray⟩) (.slice a0 m0 z0) (.slice a1 m1 z1) (.slice a2 m2 z2) (.slice a3 m3 z3) (.slice a4 m4 z4) (.slice a5 m5 z5) HO4.out HBW4.out (Nat.le_refl _)
 obtain ⟨u0,u1,u2,u3,u4,u5,u6,u7, -⟩:=eight_any R.row
 refine bodyPost_ret (v := .tuple #[.agg #[.string ⟨nm.toArray⟩, .string ⟨ve.toArray⟩, .slice a0 m0 z0, .slice a1 m1 z1, .slice a2 m2 z2, .slice a3 m3 z3, .slice a4 m4 z4, .slice a5 m5 z5], .bool true]) (by simp[results,Tryz.results159,go_sem,u0,u1,u2,u3,u4,u5,u6,u7]) rfl
   ⟨sl4,?_,fun i=>pa_own HP4.out R i,R.bel⟩
 obtain ⟨h0,h1,h2,h3x,h4,h5⟩:=HE.out
 rw[HNM.out,HVE.out,h0,h1,h2,h3x,h4,h5]
 rfl
end
end Go.Proofs.YtialenebfcnkkaaGreatDoor
