/- VerW8, VerW9, WordsMath, WordsW1, RefMath, RefX3, RefX4 -/
import Derived.Test.YtialenebfcnkkaaGreatDoorWokJ3
import Derived.Test.YtialenebfcnkkaaGreatDoorWokJ2
import Derived.Lib.Strings
import Derived.Lib.IndexMore
import Derived.BigCall
set_option maxHeartbeats 2000000
set_option maxRecDepth 100000
namespace Go.Proofs.YtialenebfcnkkaaGreatDoor
section
open Go.RowKit
theorem index_any (x:List UInt8) (w:World) :
   Calls Tryz.prog 163 #[.string ⟨x.toArray⟩, .string ⟨#[58]⟩] w fun e w'=>e = .returned (.int .i64 (Lib.indexByte x 58))∧w'=w:=by
 by_cases h:x=[58]
 · subst h
   go_enter Tryz.func163,Tryz.ntmps163
   go_wp2
   go_ret
   exact ⟨ret_int (by decide),rfl⟩
 · have hne:([58]==x)=false:=by simpa using fun h'=>h (by simpa using h'.symm)
   go_enter Tryz.func163,Tryz.ntmps163
   go_wp2_with (go_at_call 215;refine (Tryz.stringslite_IndexByte ⟨x.toArray⟩ 58 _).mono ?_;rintro e w' ⟨rfl,rfl⟩)
   go_ret
   exact ⟨rfl,rfl⟩
theorem ret_cut {a b c d:ByteArray} {z:Bool} (h:a=b) (k:c=d):Ending.returned (.tuple #[.string a, .string c, .bool z]) = .returned (.tuple #[.string b, .string d, .bool z]):=by rw[h,k]
theorem list_ext_take (x:List UInt8) (k:Nat):(⟨x.toArray⟩:ByteArray).extract 0 k=⟨(x.take k).toArray⟩:=ext_take ⟨x.toArray⟩ k
theorem list_ext_drop (x:List UInt8) (k:Nat):(⟨x.toArray⟩:ByteArray).extract k x.length=⟨(x.drop k).toArray⟩:=ext_drop ⟨x.toArray⟩ k
theorem lcut_no (x:List UInt8) (h1:Lib.indexByte x 58 = -1) (w:World) :
   Calls Tryz.prog 98 #[.string ⟨x.toArray⟩, .string ⟨#[58]⟩] w fun e w' =>
     e = .returned (.tuple #[.string ⟨x.toArray⟩, .string ⟨#[]⟩, .bool false])∧w'=w:=by
 go_enter Tryz.func98,Tryz.ntmps98
 go_wp2_with (go_at_call 163;refine (index_any x _).mono ?_;rintro e w' ⟨rfl,rfl⟩)
 go_ret3
 exact ⟨rfl,rfl⟩
theorem lcut_yes (x:List UInt8) (k:Nat) (hk:k<x.length) (hx:x.length≤24) (h1:Lib.indexByte x 58=k) (w:World) :
   Calls Tryz.prog 98 #[.string ⟨x.toArray⟩, .string ⟨#[58]⟩] w fun e w' =>
     e = .returned (.tuple #[.string ⟨(x.take k).toArray⟩, .string ⟨(x.drop (k+1)).toArray⟩, .bool true])∧w'=w.drew:=by
 have c1:(0:Int) ≤ ↑k:=by omega
 have c2:(↑k:Int) ≤ ↑x.length:=by omega
 have c3:(↑k:Int)+1 ≤ ↑x.length:=by omega
 go_enter Tryz.func98,Tryz.ntmps98
 go_wp2_with (go_at_call 163;refine (index_any x _).mono ?_;rintro e w' ⟨rfl,rfl⟩)
 go_region
 all_goals (go_wp2;go_ret3;exact ⟨ret_cut (list_ext_take x k) (list_ext_drop x (k+1)),rfl⟩)
theorem cut_no (x:List UInt8) (h1:Lib.indexByte x 58 = -1) (w:World) :
   Calls Tryz.prog 48 #[.string ⟨x.toArray⟩, .string ⟨#[58]⟩] w fun e w' =>
     e = .returned (.tuple #[.string ⟨x.toArray⟩, .string ⟨#[]⟩, .bool false])∧w'=w:=by
 go_enter Tryz.func48,Tryz.ntmps48
 go_wp2_with (go_at_call 98;refine (lcut_no x h1 _).mono ?_;rintro e w' ⟨rfl,rfl⟩)
 go_ret3
 exact ⟨rfl,rfl⟩
theorem cut_yes (x:List UInt8) (k:Nat) (hk:k<x.length) (hx:x.length≤24) (h1:Lib.indexByte x 58=k) (w:World) :
   Calls Tryz.prog 48 #[.string ⟨x.toArray⟩, .string ⟨#[58]⟩] w fun e w' =>
     e = .returned (.tuple #[.string ⟨(x.take k).toArray⟩, .string ⟨(x.drop (k+1)).toArray⟩, .bool true])∧w'=w.drew:=by
 go_enter Tryz.func48,Tryz.ntmps48
 go_wp2_with (go_at_call 98;refine (lcut_yes x k hk hx h1 _).mono ?_;rintro e w' ⟨rfl,rfl⟩)
 go_ret3
 exact ⟨rfl,rfl⟩
theorem last_any (x:List UInt8) (hx:x.length≤24) (w:World) :
   Calls Tryz.prog 49 #[.string ⟨x.toArray⟩, .int .u8 45] w fun e w'=>e = .returned (.int .i64 (Lib.lastIndexByte ⟨x.toArray⟩ 45))∧w'=w :=
 Tryz.strings_LastIndexByte ⟨x.toArray⟩ 45 (by simp[ByteArray.size];omega) w
def zv:Value := .agg #[.string ⟨#[]⟩, .string ⟨#[]⟩, .string ⟨#[]⟩]
theorem parse_short (s:ByteArray) (h:s.size=0∨24<s.size) (w:World) :
   Calls Tryz.prog 27 #[.string s] w fun e w'=>e = .returned (.tuple #[zv, .bool false])∧Below w.heap.size w w':=by
 rcases h with h | h
 · have hs:(s.size:Int)<1:=by omega
   clear h
   go_enter Tryz.func27,Tryz.ntmps27
   go_wp2
   exact bodyPost_ret (v := .tuple #[zv, .bool false]) (by simp[results,Tryz.results27,go_sem,zv]) rfl ⟨rfl,(Below.refl _ _).alloc (Nat.le_refl _) _⟩
 · have hs : ¬ (s.size:Int)<1:=by omega
   have hs':(24:Int)<s.size:=by omega
   clear h
   go_enter Tryz.func27,Tryz.ntmps27
   go_wp2
   exact bodyPost_ret (v := .tuple #[zv, .bool false]) (by simp[results,Tryz.results27,go_sem,zv]) rfl ⟨rfl,(Below.refl _ _).alloc (Nat.le_refl _) _⟩
theorem bcell {W w1:World} (hb:Below W.heap.size W w1):(∀ b o,b<W.heap.size→w1.cell? ⟨b,o,none⟩=W.cell? ⟨b,o,none⟩)∧(∀ b o,b<W.heap.size→w1.frozen? ⟨b,o,none⟩=W.frozen? ⟨b,o,none⟩) :=
 ⟨fun b o h=>hb.cell (p:=⟨b,o,none⟩) h,fun b o h=>hb.frozen (p:=⟨b,o,none⟩) h⟩
theorem cut_yes' (x E m:List UInt8) (k:Nat) (hk:k<x.length) (hx:x.length≤24) (h1:Lib.indexByte x 58=k) (hE:x.take k=E) (hm:x.drop (k+1)=m) (w:World) :
   Calls Tryz.prog 48 #[.string ⟨x.toArray⟩, .string ⟨#[58]⟩] w fun e w' =>
     e = .returned (.tuple #[.string ⟨E.toArray⟩, .string ⟨m.toArray⟩, .bool true])∧w'=w.drew:=by
 subst hE hm;exact cut_yes x k hk hx h1 w
def okV (E M R:List UInt8):Bool:=Ver.okE E&&Ver.okM M&&Ver.okR R
def pv (E M R:List UInt8):Value:=if okV E M R=true then .agg #[.string ⟨E.toArray⟩, .string ⟨M.toArray⟩, .string ⟨R.toArray⟩] else zv
def Parsed (E M R:List UInt8) (w:World):Ending→World→Prop:=fun e w'=>e = .returned (.tuple #[pv E M R, .bool (okV E M R)])∧Below w.heap.size w w'
theorem parsed_no {E M R:List UInt8} {w w':World} {e:Ending} (h:okV E M R=false) (he:e = .returned (.tuple #[zv, .bool false])) (hb:Below w.heap.size w w'):Parsed E M R w e w':=by
 refine ⟨?_,hb⟩;rw[he,h];simp[pv,h]
theorem parsed_yes {E M R:List UInt8} {w w':World} {e:Ending} (h:okV E M R=true) (he:e = .returned (.tuple #[.agg #[.string ⟨E.toArray⟩, .string ⟨M.toArray⟩, .string ⟨R.toArray⟩], .bool true])) (hb:Below w.heap.size w w'):Parsed E M R w e w':=by
 refine ⟨?_,hb⟩;rw[he,h];simp[pv,h]
theorem three_sets {w:World} {b:Nat} {x y z:Value} (h0:w.cell? ⟨b,0,none⟩=some x) (h1:w.cell? ⟨b,1,none⟩=some y) (h2:w.cell? ⟨b,2,none⟩=some z) (a1 a2 a3:Value) :
   (((w.setCell ⟨b,0,none⟩ a1).setCell ⟨b,1,none⟩ a2).setCell ⟨b,2,none⟩ a3).cell? ⟨b,0,none⟩=some a1 ∧
   (((w.setCell ⟨b,0,none⟩ a1).setCell ⟨b,1,none⟩ a2).setCell ⟨b,2,none⟩ a3).cell? ⟨b,1,none⟩=some a2 ∧
   (((w.setCell ⟨b,0,none⟩ a1).setCell ⟨b,1,none⟩ a2).setCell ⟨b,2,none⟩ a3).cell? ⟨b,2,none⟩=some a3:=by
 refine ⟨?_,?_,?_⟩
 · rw[World.cell?_setCell_other _ _ _ _ (by simp),World.cell?_setCell_other _ _ _ _ (by simp)];exact World.cell?_setCell_same _ _ _ h0
 · rw[World.cell?_setCell_other _ _ _ _ (by simp)]
   exact World.cell?_setCell_same _ _ _ ((World.cell?_setCell_other _ _ _ _ (by simp)).trans h1)
 · exact World.cell?_setCell_same _ _ _ ((World.cell?_setCell_other _ _ _ _ (by simp)).trans ((World.cell?_setCell_other _ _ _ _ (by simp)).trans h2))
theorem below_two {w w1:World} {a b:Obj} (h:Below ((w.alloc a).alloc b).heap.size ((w.alloc a).alloc b) w1):Below w.heap.size w w1 :=
 (((Below.refl _ _).alloc (Nat.le_refl _) _).alloc (by simp) _).trans (h.mono (by simp;omega))
theorem below_two_d {w w1:World} {a b:Obj} (h:Below ((w.alloc a).alloc b).drew.heap.size ((w.alloc a).alloc b).drew w1):Below w.heap.size w w1 :=
 (((Below.refl _ _).alloc (Nat.le_refl _) _).alloc (by simp) _).drew.trans (h.mono (by simp;omega))
theorem below_two_dd {w w1:World} {a b:Obj} (h:Below ((w.alloc a).alloc b).drew.drew.heap.size ((w.alloc a).alloc b).drew.drew w1):Below w.heap.size w w1 :=
 (((Below.refl _ _).alloc (Nat.le_refl _) _).alloc (by simp) _).drew.drew.trans (h.mono (by simp;omega))
theorem parse_n_n (x:List UInt8) (hx0:1≤x.length) (hx:x.length≤24) (h1:Lib.indexByte x 58 = -1) (h2:Lib.lastIndexByte ⟨x.toArray⟩ 45 = -1) (w:World) :
   Calls Tryz.prog 27 #[.string ⟨x.toArray⟩] w (Parsed [48] x [48] w):=by
 have hs : ¬ (x.length:Int)<1:=by omega
 have hs' : ¬ (24:Int)<x.length:=by omega
 go_enter Tryz.func27,Tryz.ntmps27
 go_wp2_with (first
   | (go_at_call 48;refine (cut_no _ h1 _).mono ?_;rintro e w' ⟨rfl,rfl⟩)
   | (go_at_call 49;refine (last_any _ hx _).mono ?_;rw[h2];rintro e w' ⟨rfl,rfl⟩))
 clear hs hs'
 cases hE:Ver.okE [48]
 · skip
   refine (isEpoch_any [48] (by decide) _).mono ?_
   rintro e w1 ⟨rfl,hb1⟩
   obtain ⟨hc1,hf1⟩:=bcell hb1
   have hw1:Below w.heap.size w w1:=by first | exact below_two hb1 | exact below_two_d hb1 | exact below_two_dd hb1
   have hz1:w.heap.size+1<w1.heap.size:=by have:=hb1.size;simp at this;omega
   have hy1:w.heap.size<w1.heap.size:=by omega
   clear hb1
   replace hw1:=hide hw1
   go_wp2_with fail
   have g0:w1.cell? ⟨w.heap.size,0,none⟩=some (.string ⟨#[]⟩):=by simp[go_sem, *]
   have g1:w1.cell? ⟨w.heap.size,1,none⟩=some (.string ⟨#[]⟩):=by simp[go_sem, *]
   have g2:w1.cell? ⟨w.heap.size,2,none⟩=some (.string ⟨#[]⟩):=by simp[go_sem, *]
   obtain ⟨q0,q1,q2⟩:=three_sets g0 g1 g2 (.string ⟨#[]⟩) (.string ⟨#[]⟩) (.string ⟨#[]⟩)
   exact bodyPost_ret (v := .tuple #[zv, .bool false]) (by simp[results,Tryz.results27,go_sem,q0,q1,q2,zv]) rfl (parsed_no (by simp[okV,hE]) rfl (((hw1.out.setCell (Nat.le_refl _) _).setCell (Nat.le_refl _) _).setCell (Nat.le_refl _) _))
 · skip
   refine (isEpoch_any [48] (by decide) _).mono ?_
   rintro e w1 ⟨rfl,hb1⟩
   obtain ⟨hc1,hf1⟩:=bcell hb1
   have hw1:Below w.heap.size w w1:=by first | exact below_two hb1 | exact below_two_d hb1 | exact below_two_dd hb1
   have hz1:w.heap.size+1<w1.heap.size:=by have:=hb1.size;simp at this;omega
   have hy1:w.heap.size<w1.heap.size:=by omega
   clear hb1
   replace hw1:=hide hw1
   go_wp2_with fail
   cases hM:Ver.okM x
   · skip
     refine (isMain_any x hx _).mono ?_
     rintro e w2 ⟨rfl,hb2⟩
     obtain ⟨hc2,hf2⟩:=bcell hb2
     have hw2:Below w.heap.size w w2:=hw1.out.trans (hb2.mono hw1.out.size)
     have hz2:w.heap.size+1<w2.heap.size:=by have:=hb2.size;omega
     have hy2:w.heap.size<w2.heap.size:=by omega
     clear hb2
     replace hw2:=hide hw2
     go_wp2_with fail
     have g0:w2.cell? ⟨w.heap.size,0,none⟩=some (.string ⟨#[]⟩):=by simp[go_sem, *]
     have g1:w2.cell? ⟨w.heap.size,1,none⟩=some (.string ⟨#[]⟩):=by simp[go_sem, *]
     have g2:w2.cell? ⟨w.heap.size,2,none⟩=some (.string ⟨#[]⟩):=by simp[go_sem, *]
     obtain ⟨q0,q1,q2⟩:=three_sets g0 g1 g2 (.string ⟨#[]⟩) (.string ⟨#[]⟩) (.string ⟨#[]⟩)
     exact bodyPost_ret (v := .tuple #[zv, .bool false]) (by simp[results,Tryz.results27,go_sem,q0,q1,q2,zv]) rfl (parsed_no (by simp[okV,hM]) rfl (((hw2.out.setCell (Nat.le_refl _) _).setCell (Nat.le_refl _) _).setCell (Nat.le_refl _) _))
   · skip
     refine (isMain_any x hx _).mono ?_
     rintro e w2 ⟨rfl,hb2⟩
     obtain ⟨hc2,hf2⟩:=bcell hb2
     have hw2:Below w.heap.size w w2:=hw1.out.trans (hb2.mono hw1.out.size)
     have hz2:w.heap.size+1<w2.heap.size:=by have:=hb2.size;omega
     have hy2:w.heap.size<w2.heap.size:=by omega
     clear hb2
     replace hw2:=hide hw2
     go_wp2_with fail
     cases hR:Ver.okR [48]
     · skip
       refine (isRevision_any [48] (by decide) _).mono ?_
       rintro e w3 ⟨rfl,hb3⟩
       obtain ⟨hc3,hf3⟩:=bcell hb3
       have hw3:Below w.heap.size w w3:=hw2.out.trans (hb3.mono hw2.out.size)
       have hz3:w.heap.size+1<w3.heap.size:=by have:=hb3.size;omega
       have hy3:w.heap.size<w3.heap.size:=by omega
       clear hb3
       replace hw3:=hide hw3
       go_wp2_with fail
       have g0:w3.cell? ⟨w.heap.size,0,none⟩=some (.string ⟨#[]⟩):=by simp[go_sem, *]
       have g1:w3.cell? ⟨w.heap.size,1,none⟩=some (.string ⟨#[]⟩):=by simp[go_sem, *]
       have g2:w3.cell? ⟨w.heap.size,2,none⟩=some (.string ⟨#[]⟩):=by simp[go_sem, *]
       obtain ⟨q0,q1,q2⟩:=three_sets g0 g1 g2 (.string ⟨#[]⟩) (.string ⟨#[]⟩) (.string ⟨#[]⟩)
       exact bodyPost_ret (v := .tuple #[zv, .bool false]) (by simp[results,Tryz.results27,go_sem,q0,q1,q2,zv]) rfl (parsed_no (by simp[okV,hR]) rfl (((hw3.out.setCell (Nat.le_refl _) _).setCell (Nat.le_refl _) _).setCell (Nat.le_refl _) _))
     · skip
       refine (isRevision_any [48] (by decide) _).mono ?_
       rintro e w3 ⟨rfl,hb3⟩
       obtain ⟨hc3,hf3⟩:=bcell hb3
       have hw3:Below w.heap.size w w3:=hw2.out.trans (hb3.mono hw2.out.size)
       have hz3:w.heap.size+1<w3.heap.size:=by have:=hb3.size;omega
       have hy3:w.heap.size<w3.heap.size:=by omega
       clear hb3
       replace hw3:=hide hw3
       go_wp2_with fail
       have g0:w3.cell? ⟨w.heap.size,0,none⟩=some (.string ⟨#[]⟩):=by simp[go_sem, *]
       have g1:w3.cell? ⟨w.heap.size,1,none⟩=some (.string ⟨#[]⟩):=by simp[go_sem, *]
       have g2:w3.cell? ⟨w.heap.size,2,none⟩=some (.string ⟨#[]⟩):=by simp[go_sem, *]
       obtain ⟨q0,q1,q2⟩:=three_sets g0 g1 g2 (.string ⟨[48].toArray⟩) (.string ⟨x.toArray⟩) (.string ⟨[48].toArray⟩)
       exact bodyPost_ret (v := .tuple #[.agg #[.string ⟨[48].toArray⟩, .string ⟨x.toArray⟩, .string ⟨[48].toArray⟩], .bool true]) (by simp[results,Tryz.results27,go_sem,q0,q1,q2]) rfl (parsed_yes (by simp[okV,hE,hM,hR]) rfl (((hw3.out.setCell (Nat.le_refl _) _).setCell (Nat.le_refl _) _).setCell (Nat.le_refl _) _))
theorem parse_n_d (x:List UInt8) (hx0:1≤x.length) (hx:x.length≤24) (h1:Lib.indexByte x 58 = -1) (k:Nat) (hk:k<x.length) (h2:Lib.lastIndexByte ⟨x.toArray⟩ 45=k) (w:World) :
   Calls Tryz.prog 27 #[.string ⟨x.toArray⟩] w (Parsed [48] (x.take k) (x.drop (k+1)) w):=by
 have hlM:(x.take k).length≤24:=by rw[List.length_take];omega
 have hlR:(x.drop (k+1)).length≤24:=by rw[List.length_drop];omega
 have hs : ¬ (x.length:Int)<1:=by omega
 have hs' : ¬ (24:Int)<x.length:=by omega
 have c1:(0:Int) ≤ ↑k:=by omega
 have c2:(↑k:Int) ≤ ↑x.length:=by omega
 have c3:(↑k:Int)+1 ≤ ↑x.length:=by omega
 go_enter Tryz.func27,Tryz.ntmps27
 go_wp2_with (first
   | (go_at_call 48;refine (cut_no _ h1 _).mono ?_;rintro e w' ⟨rfl,rfl⟩)
   | (go_at_call 49;refine (last_any _ hx _).mono ?_;rw[h2];rintro e w' ⟨rfl,rfl⟩))
 go_region
 go_wp2_with fail
 simp only[list_ext_take,list_ext_drop]
 clear c1 c2 c3 hk h2
 generalize hgM:(x.take k)=M at *
 generalize hgR:(x.drop (k+1))=R at *
 clear hgM hgR
 clear hs hs'
 cases hE:Ver.okE [48]
 · skip
   refine (isEpoch_any [48] (by decide) _).mono ?_
   rintro e w1 ⟨rfl,hb1⟩
   obtain ⟨hc1,hf1⟩:=bcell hb1
   have hw1:Below w.heap.size w w1:=by first | exact below_two hb1 | exact below_two_d hb1 | exact below_two_dd hb1
   have hz1:w.heap.size+1<w1.heap.size:=by have:=hb1.size;simp at this;omega
   have hy1:w.heap.size<w1.heap.size:=by omega
   clear hb1
   replace hw1:=hide hw1
   go_wp2_with fail
   have g0:w1.cell? ⟨w.heap.size,0,none⟩=some (.string ⟨#[]⟩):=by simp[go_sem, *]
   have g1:w1.cell? ⟨w.heap.size,1,none⟩=some (.string ⟨#[]⟩):=by simp[go_sem, *]
   have g2:w1.cell? ⟨w.heap.size,2,none⟩=some (.string ⟨#[]⟩):=by simp[go_sem, *]
   obtain ⟨q0,q1,q2⟩:=three_sets g0 g1 g2 (.string ⟨#[]⟩) (.string ⟨#[]⟩) (.string ⟨#[]⟩)
   exact bodyPost_ret (v := .tuple #[zv, .bool false]) (by simp[results,Tryz.results27,go_sem,q0,q1,q2,zv]) rfl (parsed_no (by simp[okV,hE]) rfl (((hw1.out.setCell (Nat.le_refl _) _).setCell (Nat.le_refl _) _).setCell (Nat.le_refl _) _))
 · skip
   refine (isEpoch_any [48] (by decide) _).mono ?_
   rintro e w1 ⟨rfl,hb1⟩
   obtain ⟨hc1,hf1⟩:=bcell hb1
   have hw1:Below w.heap.size w w1:=by first | exact below_two hb1 | exact below_two_d hb1 | exact below_two_dd hb1
   have hz1:w.heap.size+1<w1.heap.size:=by have:=hb1.size;simp at this;omega
   have hy1:w.heap.size<w1.heap.size:=by omega
   clear hb1
   replace hw1:=hide hw1
   go_wp2_with fail
   cases hM:Ver.okM M
   · skip
     refine (isMain_any M hlM _).mono ?_
     rintro e w2 ⟨rfl,hb2⟩
     obtain ⟨hc2,hf2⟩:=bcell hb2
     have hw2:Below w.heap.size w w2:=hw1.out.trans (hb2.mono hw1.out.size)
     have hz2:w.heap.size+1<w2.heap.size:=by have:=hb2.size;omega
     have hy2:w.heap.size<w2.heap.size:=by omega
     clear hb2
     replace hw2:=hide hw2
     go_wp2_with fail
     have g0:w2.cell? ⟨w.heap.size,0,none⟩=some (.string ⟨#[]⟩):=by simp[go_sem, *]
     have g1:w2.cell? ⟨w.heap.size,1,none⟩=some (.string ⟨#[]⟩):=by simp[go_sem, *]
     have g2:w2.cell? ⟨w.heap.size,2,none⟩=some (.string ⟨#[]⟩):=by simp[go_sem, *]
     obtain ⟨q0,q1,q2⟩:=three_sets g0 g1 g2 (.string ⟨#[]⟩) (.string ⟨#[]⟩) (.string ⟨#[]⟩)
     exact bodyPost_ret (v := .tuple #[zv, .bool false]) (by simp[results,Tryz.results27,go_sem,q0,q1,q2,zv]) rfl (parsed_no (by simp[okV,hM]) rfl (((hw2.out.setCell (Nat.le_refl _) _).setCell (Nat.le_refl _) _).setCell (Nat.le_refl _) _))
   · skip
     refine (isMain_any M hlM _).mono ?_
     rintro e w2 ⟨rfl,hb2⟩
     obtain ⟨hc2,hf2⟩:=bcell hb2
     have hw2:Below w.heap.size w w2:=hw1.out.trans (hb2.mono hw1.out.size)
     have hz2:w.heap.size+1<w2.heap.size:=by have:=hb2.size;omega
     have hy2:w.heap.size<w2.heap.size:=by omega
     clear hb2
     replace hw2:=hide hw2
     go_wp2_with fail
     cases hR:Ver.okR R
     · skip
       refine (isRevision_any R hlR _).mono ?_
       rintro e w3 ⟨rfl,hb3⟩
       obtain ⟨hc3,hf3⟩:=bcell hb3
       have hw3:Below w.heap.size w w3:=hw2.out.trans (hb3.mono hw2.out.size)
       have hz3:w.heap.size+1<w3.heap.size:=by have:=hb3.size;omega
       have hy3:w.heap.size<w3.heap.size:=by omega
       clear hb3
       replace hw3:=hide hw3
       go_wp2_with fail
       have g0:w3.cell? ⟨w.heap.size,0,none⟩=some (.string ⟨#[]⟩):=by simp[go_sem, *]
       have g1:w3.cell? ⟨w.heap.size,1,none⟩=some (.string ⟨#[]⟩):=by simp[go_sem, *]
       have g2:w3.cell? ⟨w.heap.size,2,none⟩=some (.string ⟨#[]⟩):=by simp[go_sem, *]
       obtain ⟨q0,q1,q2⟩:=three_sets g0 g1 g2 (.string ⟨#[]⟩) (.string ⟨#[]⟩) (.string ⟨#[]⟩)
       exact bodyPost_ret (v := .tuple #[zv, .bool false]) (by simp[results,Tryz.results27,go_sem,q0,q1,q2,zv]) rfl (parsed_no (by simp[okV,hR]) rfl (((hw3.out.setCell (Nat.le_refl _) _).setCell (Nat.le_refl _) _).setCell (Nat.le_refl _) _))
     · skip
       refine (isRevision_any R hlR _).mono ?_
       rintro e w3 ⟨rfl,hb3⟩
       obtain ⟨hc3,hf3⟩:=bcell hb3
       have hw3:Below w.heap.size w w3:=hw2.out.trans (hb3.mono hw2.out.size)
       have hz3:w.heap.size+1<w3.heap.size:=by have:=hb3.size;omega
       have hy3:w.heap.size<w3.heap.size:=by omega
       clear hb3
       replace hw3:=hide hw3
       go_wp2_with fail
       have g0:w3.cell? ⟨w.heap.size,0,none⟩=some (.string ⟨#[]⟩):=by simp[go_sem, *]
       have g1:w3.cell? ⟨w.heap.size,1,none⟩=some (.string ⟨#[]⟩):=by simp[go_sem, *]
       have g2:w3.cell? ⟨w.heap.size,2,none⟩=some (.string ⟨#[]⟩):=by simp[go_sem, *]
       obtain ⟨q0,q1,q2⟩:=three_sets g0 g1 g2 (.string ⟨[48].toArray⟩) (.string ⟨M.toArray⟩) (.string ⟨R.toArray⟩)
       exact bodyPost_ret (v := .tuple #[.agg #[.string ⟨[48].toArray⟩, .string ⟨M.toArray⟩, .string ⟨R.toArray⟩], .bool true]) (by simp[results,Tryz.results27,go_sem,q0,q1,q2]) rfl (parsed_yes (by simp[okV,hE,hM,hR]) rfl (((hw3.out.setCell (Nat.le_refl _) _).setCell (Nat.le_refl _) _).setCell (Nat.le_refl _) _))
theorem parse_c_n (x:List UInt8) (hx0:1≤x.length) (hx:x.length≤24) (E m:List UInt8) (j:Nat) (hj:j<x.length) (h1:Lib.indexByte x 58=j) (hE':x.take j=E) (hm':x.drop (j+1)=m) (hlE:E.length≤24) (hlm:m.length≤24) (h2:Lib.lastIndexByte ⟨m.toArray⟩ 45 = -1) (w:World) :
   Calls Tryz.prog 27 #[.string ⟨x.toArray⟩] w (Parsed E m [48] w):=by
 have hs : ¬ (x.length:Int)<1:=by omega
 have hs' : ¬ (24:Int)<x.length:=by omega
 go_enter Tryz.func27,Tryz.ntmps27
 go_wp2_with (first
   | (go_at_call 48;refine (cut_yes' x E m j hj hx h1 hE' hm' _).mono ?_;rintro e w' ⟨rfl,rfl⟩)
   | (go_at_call 49;refine (last_any _ hlm _).mono ?_;rw[h2];rintro e w' ⟨rfl,rfl⟩))
 clear hs hs'
 cases hE:Ver.okE E
 · skip
   refine (isEpoch_any E hlE _).mono ?_
   rintro e w1 ⟨rfl,hb1⟩
   obtain ⟨hc1,hf1⟩:=bcell hb1
   have hw1:Below w.heap.size w w1:=by first | exact below_two hb1 | exact below_two_d hb1 | exact below_two_dd hb1
   have hz1:w.heap.size+1<w1.heap.size:=by have:=hb1.size;simp at this;omega
   have hy1:w.heap.size<w1.heap.size:=by omega
   clear hb1
   replace hw1:=hide hw1
   go_wp2_with fail
   have g0:w1.cell? ⟨w.heap.size,0,none⟩=some (.string ⟨#[]⟩):=by simp[go_sem, *]
   have g1:w1.cell? ⟨w.heap.size,1,none⟩=some (.string ⟨#[]⟩):=by simp[go_sem, *]
   have g2:w1.cell? ⟨w.heap.size,2,none⟩=some (.string ⟨#[]⟩):=by simp[go_sem, *]
   obtain ⟨q0,q1,q2⟩:=three_sets g0 g1 g2 (.string ⟨#[]⟩) (.string ⟨#[]⟩) (.string ⟨#[]⟩)
   exact bodyPost_ret (v := .tuple #[zv, .bool false]) (by simp[results,Tryz.results27,go_sem,q0,q1,q2,zv]) rfl (parsed_no (by simp[okV,hE]) rfl (((hw1.out.setCell (Nat.le_refl _) _).setCell (Nat.le_refl _) _).setCell (Nat.le_refl _) _))
 · skip
   refine (isEpoch_any E hlE _).mono ?_
   rintro e w1 ⟨rfl,hb1⟩
   obtain ⟨hc1,hf1⟩:=bcell hb1
   have hw1:Below w.heap.size w w1:=by first | exact below_two hb1 | exact below_two_d hb1 | exact below_two_dd hb1
   have hz1:w.heap.size+1<w1.heap.size:=by have:=hb1.size;simp at this;omega
   have hy1:w.heap.size<w1.heap.size:=by omega
   clear hb1
   replace hw1:=hide hw1
   go_wp2_with fail
   cases hM:Ver.okM m
   · skip
     refine (isMain_any m hlm _).mono ?_
     rintro e w2 ⟨rfl,hb2⟩
     obtain ⟨hc2,hf2⟩:=bcell hb2
     have hw2:Below w.heap.size w w2:=hw1.out.trans (hb2.mono hw1.out.size)
     have hz2:w.heap.size+1<w2.heap.size:=by have:=hb2.size;omega
     have hy2:w.heap.size<w2.heap.size:=by omega
     clear hb2
     replace hw2:=hide hw2
     go_wp2_with fail
     have g0:w2.cell? ⟨w.heap.size,0,none⟩=some (.string ⟨#[]⟩):=by simp[go_sem, *]
     have g1:w2.cell? ⟨w.heap.size,1,none⟩=some (.string ⟨#[]⟩):=by simp[go_sem, *]
     have g2:w2.cell? ⟨w.heap.size,2,none⟩=some (.string ⟨#[]⟩):=by simp[go_sem, *]
     obtain ⟨q0,q1,q2⟩:=three_sets g0 g1 g2 (.string ⟨#[]⟩) (.string ⟨#[]⟩) (.string ⟨#[]⟩)
     exact bodyPost_ret (v := .tuple #[zv, .bool false]) (by simp[results,Tryz.results27,go_sem,q0,q1,q2,zv]) rfl (parsed_no (by simp[okV,hM]) rfl (((hw2.out.setCell (Nat.le_refl _) _).setCell (Nat.le_refl _) _).setCell (Nat.le_refl _) _))
   · skip
     refine (isMain_any m hlm _).mono ?_
     rintro e w2 ⟨rfl,hb2⟩
     obtain ⟨hc2,hf2⟩:=bcell hb2
     have hw2:Below w.heap.size w w2:=hw1.out.trans (hb2.mono hw1.out.size)
     have hz2:w.heap.size+1<w2.heap.size:=by have:=hb2.size;omega
     have hy2:w.heap.size<w2.heap.size:=by omega
     clear hb2
     replace hw2:=hide hw2
     go_wp2_with fail
     cases hR:Ver.okR [48]
     · skip
       refine (isRevision_any [48] (by decide) _).mono ?_
       rintro e w3 ⟨rfl,hb3⟩
       obtain ⟨hc3,hf3⟩:=bcell hb3
       have hw3:Below w.heap.size w w3:=hw2.out.trans (hb3.mono hw2.out.size)
       have hz3:w.heap.size+1<w3.heap.size:=by have:=hb3.size;omega
       have hy3:w.heap.size<w3.heap.size:=by omega
       clear hb3
       replace hw3:=hide hw3
       go_wp2_with fail
       have g0:w3.cell? ⟨w.heap.size,0,none⟩=some (.string ⟨#[]⟩):=by simp[go_sem, *]
       have g1:w3.cell? ⟨w.heap.size,1,none⟩=some (.string ⟨#[]⟩):=by simp[go_sem, *]
       have g2:w3.cell? ⟨w.heap.size,2,none⟩=some (.string ⟨#[]⟩):=by simp[go_sem, *]
       obtain ⟨q0,q1,q2⟩:=three_sets g0 g1 g2 (.string ⟨#[]⟩) (.string ⟨#[]⟩) (.string ⟨#[]⟩)
       exact bodyPost_ret (v := .tuple #[zv, .bool false]) (by simp[results,Tryz.results27,go_sem,q0,q1,q2,zv]) rfl (parsed_no (by simp[okV,hR]) rfl (((hw3.out.setCell (Nat.le_refl _) _).setCell (Nat.le_refl _) _).setCell (Nat.le_refl _) _))
     · skip
       refine (isRevision_any [48] (by decide) _).mono ?_
       rintro e w3 ⟨rfl,hb3⟩
       obtain ⟨hc3,hf3⟩:=bcell hb3
       have hw3:Below w.heap.size w w3:=hw2.out.trans (hb3.mono hw2.out.size)
       have hz3:w.heap.size+1<w3.heap.size:=by have:=hb3.size;omega
       have hy3:w.heap.size<w3.heap.size:=by omega
       clear hb3
       replace hw3:=hide hw3
       go_wp2_with fail
       have g0:w3.cell? ⟨w.heap.size,0,none⟩=some (.string ⟨#[]⟩):=by simp[go_sem, *]
       have g1:w3.cell? ⟨w.heap.size,1,none⟩=some (.string ⟨#[]⟩):=by simp[go_sem, *]
       have g2:w3.cell? ⟨w.heap.size,2,none⟩=some (.string ⟨#[]⟩):=by simp[go_sem, *]
       obtain ⟨q0,q1,q2⟩:=three_sets g0 g1 g2 (.string ⟨E.toArray⟩) (.string ⟨m.toArray⟩) (.string ⟨[48].toArray⟩)
       exact bodyPost_ret (v := .tuple #[.agg #[.string ⟨E.toArray⟩, .string ⟨m.toArray⟩, .string ⟨[48].toArray⟩], .bool true]) (by simp[results,Tryz.results27,go_sem,q0,q1,q2]) rfl (parsed_yes (by simp[okV,hE,hM,hR]) rfl (((hw3.out.setCell (Nat.le_refl _) _).setCell (Nat.le_refl _) _).setCell (Nat.le_refl _) _))
theorem parse_c_d (x:List UInt8) (hx0:1≤x.length) (hx:x.length≤24) (E m:List UInt8) (j:Nat) (hj:j<x.length) (h1:Lib.indexByte x 58=j) (hE':x.take j=E) (hm':x.drop (j+1)=m) (hlE:E.length≤24) (hlm:m.length≤24) (k:Nat) (hk:k<m.length) (h2:Lib.lastIndexByte ⟨m.toArray⟩ 45=k) (w:World) :
   Calls Tryz.prog 27 #[.string ⟨x.toArray⟩] w (Parsed E (m.take k) (m.drop (k+1)) w):=by
 have hlM:(m.take k).length≤24:=by rw[List.length_take];omega
 have hlR:(m.drop (k+1)).length≤24:=by rw[List.length_drop];omega
 have hs : ¬ (x.length:Int)<1:=by omega
 have hs' : ¬ (24:Int)<x.length:=by omega
 have c1:(0:Int) ≤ ↑k:=by omega
 have c2:(↑k:Int) ≤ ↑m.length:=by omega
 have c3:(↑k:Int)+1 ≤ ↑m.length:=by omega
 go_enter Tryz.func27,Tryz.ntmps27
 go_wp2_with (first
   | (go_at_call 48;refine (cut_yes' x E m j hj hx h1 hE' hm' _).mono ?_;rintro e w' ⟨rfl,rfl⟩)
   | (go_at_call 49;refine (last_any _ hlm _).mono ?_;rw[h2];rintro e w' ⟨rfl,rfl⟩))
 go_region
 go_wp2_with fail
 simp only[list_ext_take,list_ext_drop]
 clear c1 c2 c3 hk h2
 generalize hgM:(m.take k)=M at *
 generalize hgR:(m.drop (k+1))=R at *
 clear hgM hgR
 clear hs hs'
 cases hE:Ver.okE E
 · skip
   refine (isEpoch_any E hlE _).mono ?_
   rintro e w1 ⟨rfl,hb1⟩
   obtain ⟨hc1,hf1⟩:=bcell hb1
   have hw1:Below w.heap.size w w1:=by first | exact below_two hb1 | exact below_two_d hb1 | exact below_two_dd hb1
   have hz1:w.heap.size+1<w1.heap.size:=by have:=hb1.size;simp at this;omega
   have hy1:w.heap.size<w1.heap.size:=by omega
   clear hb1
   replace hw1:=hide hw1
   go_wp2_with fail
   have g0:w1.cell? ⟨w.heap.size,0,none⟩=some (.string ⟨#[]⟩):=by simp[go_sem, *]
   have g1:w1.cell? ⟨w.heap.size,1,none⟩=some (.string ⟨#[]⟩):=by simp[go_sem, *]
   have g2:w1.cell? ⟨w.heap.size,2,none⟩=some (.string ⟨#[]⟩):=by simp[go_sem, *]
   obtain ⟨q0,q1,q2⟩:=three_sets g0 g1 g2 (.string ⟨#[]⟩) (.string ⟨#[]⟩) (.string ⟨#[]⟩)
   exact bodyPost_ret (v := .tuple #[zv, .bool false]) (by simp[results,Tryz.results27,go_sem,q0,q1,q2,zv]) rfl (parsed_no (by simp[okV,hE]) rfl (((hw1.out.setCell (Nat.le_refl _) _).setCell (Nat.le_refl _) _).setCell (Nat.le_refl _) _))
 · skip
   refine (isEpoch_any E hlE _).mono ?_
   rintro e w1 ⟨rfl,hb1⟩
   obtain ⟨hc1,hf1⟩:=bcell hb1
   have hw1:Below w.heap.size w w1:=by first | exact below_two hb1 | exact below_two_d hb1 | exact below_two_dd hb1
   have hz1:w.heap.size+1<w1.heap.size:=by have:=hb1.size;simp at this;omega
   have hy1:w.heap.size<w1.heap.size:=by omega
   clear hb1
   replace hw1:=hide hw1
   go_wp2_with fail
   cases hM:Ver.okM M
   · skip
     refine (isMain_any M hlM _).mono ?_
     rintro e w2 ⟨rfl,hb2⟩
     obtain ⟨hc2,hf2⟩:=bcell hb2
     have hw2:Below w.heap.size w w2:=hw1.out.trans (hb2.mono hw1.out.size)
     have hz2:w.heap.size+1<w2.heap.size:=by have:=hb2.size;omega
     have hy2:w.heap.size<w2.heap.size:=by omega
     clear hb2
     replace hw2:=hide hw2
     go_wp2_with fail
     have g0:w2.cell? ⟨w.heap.size,0,none⟩=some (.string ⟨#[]⟩):=by simp[go_sem, *]
     have g1:w2.cell? ⟨w.heap.size,1,none⟩=some (.string ⟨#[]⟩):=by simp[go_sem, *]
     have g2:w2.cell? ⟨w.heap.size,2,none⟩=some (.string ⟨#[]⟩):=by simp[go_sem, *]
     obtain ⟨q0,q1,q2⟩:=three_sets g0 g1 g2 (.string ⟨#[]⟩) (.string ⟨#[]⟩) (.string ⟨#[]⟩)
     exact bodyPost_ret (v := .tuple #[zv, .bool false]) (by simp[results,Tryz.results27,go_sem,q0,q1,q2,zv]) rfl (parsed_no (by simp[okV,hM]) rfl (((hw2.out.setCell (Nat.le_refl _) _).setCell (Nat.le_refl _) _).setCell (Nat.le_refl _) _))
   · skip
     refine (isMain_any M hlM _).mono ?_
     rintro e w2 ⟨rfl,hb2⟩
     obtain ⟨hc2,hf2⟩:=bcell hb2
     have hw2:Below w.heap.size w w2:=hw1.out.trans (hb2.mono hw1.out.size)
     have hz2:w.heap.size+1<w2.heap.size:=by have:=hb2.size;omega
     have hy2:w.heap.size<w2.heap.size:=by omega
     clear hb2
     replace hw2:=hide hw2
     go_wp2_with fail
     cases hR:Ver.okR R
     · skip
       refine (isRevision_any R hlR _).mono ?_
       rintro e w3 ⟨rfl,hb3⟩
       obtain ⟨hc3,hf3⟩:=bcell hb3
       have hw3:Below w.heap.size w w3:=hw2.out.trans (hb3.mono hw2.out.size)
       have hz3:w.heap.size+1<w3.heap.size:=by have:=hb3.size;omega
       have hy3:w.heap.size<w3.heap.size:=by omega
       clear hb3
       replace hw3:=hide hw3
       go_wp2_with fail
       have g0:w3.cell? ⟨w.heap.size,0,none⟩=some (.string ⟨#[]⟩):=by simp[go_sem, *]
       have g1:w3.cell? ⟨w.heap.size,1,none⟩=some (.string ⟨#[]⟩):=by simp[go_sem, *]
       have g2:w3.cell? ⟨w.heap.size,2,none⟩=some (.string ⟨#[]⟩):=by simp[go_sem, *]
       obtain ⟨q0,q1,q2⟩:=three_sets g0 g1 g2 (.string ⟨#[]⟩) (.string ⟨#[]⟩) (.string ⟨#[]⟩)
       exact bodyPost_ret (v := .tuple #[zv, .bool false]) (by simp[results,Tryz.results27,go_sem,q0,q1,q2,zv]) rfl (parsed_no (by simp[okV,hR]) rfl (((hw3.out.setCell (Nat.le_refl _) _).setCell (Nat.le_refl _) _).setCell (Nat.le_refl _) _))
     · skip
       refine (isRevision_any R hlR _).mono ?_
       rintro e w3 ⟨rfl,hb3⟩
       obtain ⟨hc3,hf3⟩:=bcell hb3
       have hw3:Below w.heap.size w w3:=hw2.out.trans (hb3.mono hw2.out.size)
       have hz3:w.heap.size+1<w3.heap.size:=by have:=hb3.size;omega
       have hy3:w.heap.size<w3.heap.size:=by omega
       clear hb3
       replace hw3:=hide hw3
       go_wp2_with fail
       have g0:w3.cell? ⟨w.heap.size,0,none⟩=some (.string ⟨#[]⟩):=by simp[go_sem, *]
       have g1:w3.cell? ⟨w.heap.size,1,none⟩=some (.string ⟨#[]⟩):=by simp[go_sem, *]
       have g2:w3.cell? ⟨w.heap.size,2,none⟩=some (.string ⟨#[]⟩):=by simp[go_sem, *]
       obtain ⟨q0,q1,q2⟩:=three_sets g0 g1 g2 (.string ⟨E.toArray⟩) (.string ⟨M.toArray⟩) (.string ⟨R.toArray⟩)
       exact bodyPost_ret (v := .tuple #[.agg #[.string ⟨E.toArray⟩, .string ⟨M.toArray⟩, .string ⟨R.toArray⟩], .bool true]) (by simp[results,Tryz.results27,go_sem,q0,q1,q2]) rfl (parsed_yes (by simp[okV,hE,hM,hR]) rfl (((hw3.out.setCell (Nat.le_refl _) _).setCell (Nat.le_refl _) _).setCell (Nat.le_refl _) _))
theorem fine_okV {x:List UInt8} (h0:1≤x.length) (h1:x.length≤24):Ver.fine x=okV (Ver.split3 x).e (Ver.split3 x).m (Ver.split3 x).r:=by
 simp[Ver.fine,okV,h0,h1]
theorem parse_split (x:List UInt8) (h0:1≤x.length) (h1:x.length≤24) (w:World) :
   Calls Tryz.prog 27 #[.string ⟨x.toArray⟩] w (Parsed (Ver.split3 x).e (Ver.split3 x).m (Ver.split3 x).r w):=by
 simp only[Ver.split3]
 rcases Ver.cutC_cases x with ⟨a1,a2⟩ | ⟨j,aj,a1,a2⟩
 · rw[a2]
   rcases Ver.cutM_cases x with ⟨b1,b2⟩ | ⟨k,bk,b1,b2⟩
   · rw[b2];exact parse_n_n x h0 h1 a1 b1 w
   · rw[b2];exact parse_n_d x h0 h1 a1 k bk b1 w
 · rw[a2]
   have hlE:(x.take j).length≤24:=by rw[List.length_take];omega
   have hlm:(x.drop (j+1)).length≤24:=by rw[List.length_drop];omega
   rcases Ver.cutM_cases (x.drop (j+1)) with ⟨b1,b2⟩ | ⟨k,bk,b1,b2⟩
   · rw[b2];exact parse_c_n x h0 h1 _ _ j aj a1 rfl rfl hlE hlm b1 w
   · rw[b2];exact parse_c_d x h0 h1 _ _ j aj a1 rfl rfl hlE hlm k bk b1 w
theorem parse_ok (x:List UInt8) (h:Ver.fine x=true) (w:World) :
   Calls Tryz.prog 27 #[.string ⟨x.toArray⟩] w fun e w' =>
     e = .returned (.tuple #[.agg #[.string ⟨(Ver.split3 x).e.toArray⟩, .string ⟨(Ver.split3 x).m.toArray⟩, .string ⟨(Ver.split3 x).r.toArray⟩], .bool true])∧Below w.heap.size w w':=by
 have h0:1≤x.length∧x.length≤24:=by simp[Ver.fine] at h;exact ⟨by omega,by omega⟩
 have hv:=(fine_okV h0.1 h0.2).symm.trans h
 refine (parse_split x h0.1 h0.2 w).mono fun e w' he => ?_
 obtain ⟨e1,hb⟩:=he
 refine ⟨?_,hb⟩
 rw[e1,hv];simp[pv,hv]
theorem parse_bad (x:List UInt8) (h:Ver.fine x=false) (w:World) :
   Calls Tryz.prog 27 #[.string ⟨x.toArray⟩] w fun e w' =>
     e = .returned (.tuple #[.agg #[.string ⟨#[]⟩, .string ⟨#[]⟩, .string ⟨#[]⟩], .bool false])∧Below w.heap.size w w':=by
 by_cases h0:1≤x.length∧x.length≤24
 · have hv:=(fine_okV h0.1 h0.2).symm.trans h
   refine (parse_split x h0.1 h0.2 w).mono fun e w' he => ?_
   obtain ⟨e1,hb⟩:=he
   refine ⟨?_,hb⟩
   rw[e1,hv];simp[pv,hv,zv]
 · exact parse_short ⟨x.toArray⟩ (by show x.length=0∨24<x.length;omega) w
theorem split3_len {x:List UInt8} (h:Ver.fine x=true):(Ver.split3 x).e.length≤24∧(Ver.split3 x).m.length≤24∧(Ver.split3 x).r.length≤24:=by
 have h0:1≤x.length∧x.length≤24:=by simp[Ver.fine] at h;exact ⟨by omega,by omega⟩
 have:=Ver.cutC_len x
 have:=Ver.cutC_len1 x h0.1
 have:=Ver.cutM_len1 (Ver.cutC x).2
 have:=Ver.cutM_len2 (Ver.cutC x).2 (by omega)
 simp only[Ver.split3];omega
theorem compare_ok {x y:List UInt8} (hx:Ver.fine x=true) (hy:Ver.fine y=true):Ver.compare x y=(Ver.cmpV (Ver.split3 x) (Ver.split3 y),0):=by simp[Ver.compare,hx,hy]
theorem compare_bad1 {x y:List UInt8} (hx:Ver.fine x=false):Ver.compare x y=(0,2):=by simp[Ver.compare,hx]
theorem compare_bad2 {x y:List UInt8} (hy:Ver.fine y=false):Ver.compare x y=(0,2):=by simp[Ver.compare,hy]
theorem below_next {w w1 w2:World} {o o':Obj} (h1:Below w.heap.size w w1) (h2:Below (w1.alloc o).heap.size (w1.alloc o) w2):Below w.heap.size w (w2.alloc o'):=by
 have h:=(h1.alloc h1.size o).trans (h2.mono (Nat.le_trans h1.size (by simp)))
 exact h.alloc h.size o'
theorem compare_any (x y:List UInt8) (w:World) :
   Calls Tryz.prog 15 #[.string ⟨x.toArray⟩, .string ⟨y.toArray⟩] w fun e w' =>
     e = .returned (.tuple #[.int .i64 (Ver.compare x y).1, .int .i64 (Ver.compare x y).2])∧Below w.heap.size w w':=by
 cases hx:Ver.fine x
 · cases hy:Ver.fine y
   · rw[compare_bad1 hx]
     go_enter Tryz.func15,Tryz.ntmps15
     go_wp2_with fail
     refine (parse_bad x hx _).mono ?_
     rintro e w1 ⟨rfl,hb1⟩
     have HB1:=hide hb1;clear hb1
     go_wp2_with fail
     refine (parse_bad y hy _).mono ?_
     rintro e w2 ⟨rfl,hb2⟩
     have HB2:=hide hb2;clear hb2
     go_wp2_with fail
     go_ret2
     exact ⟨rfl,below_next HB1.out HB2.out⟩
   · rw[compare_bad1 hx]
     go_enter Tryz.func15,Tryz.ntmps15
     go_wp2_with fail
     refine (parse_bad x hx _).mono ?_
     rintro e w1 ⟨rfl,hb1⟩
     have HB1:=hide hb1;clear hb1
     go_wp2_with fail
     refine (parse_ok y hy _).mono ?_
     rintro e w2 ⟨rfl,hb2⟩
     have HB2:=hide hb2;clear hb2
     go_wp2_with fail
     go_ret2
     exact ⟨rfl,below_next HB1.out HB2.out⟩
 · cases hy:Ver.fine y
   · rw[compare_bad2 hy]
     go_enter Tryz.func15,Tryz.ntmps15
     go_wp2_with fail
     refine (parse_ok x hx _).mono ?_
     rintro e w1 ⟨rfl,hb1⟩
     have HB1:=hide hb1;clear hb1
     go_wp2_with fail
     refine (parse_bad y hy _).mono ?_
     rintro e w2 ⟨rfl,hb2⟩
     have HB2:=hide hb2;clear hb2
     go_wp2_with fail
     go_ret2
     exact ⟨rfl,below_next HB1.out HB2.out⟩
   · rw[compare_ok hx hy]
     obtain ⟨l1,l2,l3⟩:=split3_len hx
     obtain ⟨l4,l5,l6⟩:=split3_len hy
     go_enter Tryz.func15,Tryz.ntmps15
     go_wp2_with fail
     refine (parse_ok x hx _).mono ?_
     rintro e w1 ⟨rfl,hb1⟩
     have HB1:=hide hb1;clear hb1
     go_wp2_with fail
     refine (parse_ok y hy _).mono ?_
     rintro e w2 ⟨rfl,hb2⟩
     obtain ⟨hc2,hf2⟩:=bcell hb2
     have hz2:w1.heap.size<w2.heap.size:=by have:=hb2.size;simp at this;omega
     have HB2:=hide hb2;clear hb2
     go_wp2_with fail
     refine (vcmp_any _ _ _ _ _ _ l1 l2 l3 l4 l5 l6 _).mono ?_
     rintro e w3 ⟨rfl,hb3⟩
     have HB3:=hide hb3;clear hb3
     go_wp2_with fail
     go_ret2
     exact ⟨rfl,(below_next HB1.out HB2.out).trans (HB3.out.mono (below_next HB1.out HB2.out).size)⟩
end
namespace Wd
open Ver
def low (c:UInt8):Bool:=decide (97≤(c.toNat:Int))&&decide ((c.toNat:Int)≤122)
def nmS (c:UInt8):Bool:=low c||(decide (48≤(c.toNat:Int))&&decide ((c.toNat:Int)≤57))||(c.toNat:Int)==45
def paS (c:UInt8):Bool:=nmS c||(c.toNat:Int)==46||(c.toNat:Int)==47
def woS (c:UInt8):Bool:=decide (33≤(c.toNat:Int))&&decide ((c.toNat:Int)≤126)
def lenIn (x:List UInt8) (a b:Nat):Bool:=decide (a≤x.length)&&decide (x.length≤b)
def headIs (f:UInt8→Bool):List UInt8→Bool
 | []=>false
 | c::_=>f c
def isName (x:List UInt8):Bool:=lenIn x 1 12&&headIs low x&&allL nmS x
def isWord (x:List UInt8):Bool:=lenIn x 1 16&&allL woS x
def under (x:List UInt8):Bool:=Lib.hasPrefix x [47,118,97,114,47]
def dbl (x:List UInt8):Bool:=Lib.contains x [47,47]
def lastOf (x:List UInt8):UInt8:=x.getLastD 0
def isPath (x:List UInt8):Bool:=lenIn x 2 24&&headIs (fun c=>(c.toNat:Int)==47) x&&(lastOf x != 47) && !dbl x&&allL paS x
def isVar (x:List UInt8):Bool:=isPath x&&under x
end Wd
section
open Go.RowKit
theorem wLetter_any (c:UInt8) (w:World) :
   Calls Tryz.prog 271 #[.int .u8 c.toNat] w fun e w'=>e = .returned (.bool (Wd.low c))∧w'=w:=by
 go_enter Tryz.func271,Tryz.ntmps271
 go_wp2
 all_goals (go_ret;exact ⟨ret_bool (by simp[Wd.low];try omega),rfl⟩)
theorem wName_any (c:UInt8) (w:World) :
   Calls Tryz.prog 272 #[.int .u8 c.toNat] w fun e w'=>e = .returned (.bool (Wd.nmS c))∧w'=w:=by
 go_enter Tryz.func272,Tryz.ntmps272
 go_wp2_with (go_at_call 271;refine (wLetter_any c _).mono ?_;rintro e w' ⟨rfl,rfl⟩)
 all_goals (go_ret;exact ⟨ret_bool (by simp[Wd.nmS, *];try omega),rfl⟩)
theorem wPath_any (c:UInt8) (w:World) :
   Calls Tryz.prog 266 #[.int .u8 c.toNat] w fun e w'=>e = .returned (.bool (Wd.paS c))∧w'=w:=by
 go_enter Tryz.func266,Tryz.ntmps266
 go_wp2_with (go_at_call 272;refine (wName_any c _).mono ?_;rintro e w' ⟨rfl,rfl⟩)
 all_goals (go_ret;exact ⟨ret_bool (by simp[Wd.paS, *]),rfl⟩)
theorem wWord_any (c:UInt8) (w:World) :
   Calls Tryz.prog 317 #[.int .u8 c.toNat] w fun e w'=>e = .returned (.bool (Wd.woS c))∧w'=w:=by
 go_enter Tryz.func317,Tryz.ntmps317
 go_wp2
 all_goals (go_ret;exact ⟨ret_bool (by simp[Wd.woS];try omega),rfl⟩)
theorem wLen_any (x:List UInt8) (a b:Nat) (w:World) :
   Calls Tryz.prog 264 #[.string ⟨x.toArray⟩, .int .i64 a, .int .i64 b] w fun e w'=>e = .returned (.bool (Wd.lenIn x a b))∧w'=w:=by
 go_enter Tryz.func264,Tryz.ntmps264
 go_wp2
 all_goals (go_ret;exact ⟨ret_bool (by simp[Wd.lenIn];try omega),rfl⟩)
theorem enters_wName (args:Array Value) (w:World):(callFunc 272 args).run Tryz.prog w = .ok (.enter 272 args) w :=
 enters Tryz.func272 (by kernel_rfl) rfl args w
theorem enters_wPath (args:Array Value) (w:World):(callFunc 266 args).run Tryz.prog w = .ok (.enter 266 args) w :=
 enters Tryz.func266 (by kernel_rfl) rfl args w
theorem enters_wWord (args:Array Value) (w:World):(callFunc 317 args).run Tryz.prog w = .ok (.enter 317 args) w :=
 enters Tryz.func317 (by kernel_rfl) rfl args w
theorem all_long (g:Nat) (f:UInt8→Bool) (he:∀ args w,(callFunc g args).run Tryz.prog w = .ok (.enter g args) w)
   (hg:∀ (c:UInt8) (w:World),Calls Tryz.prog g #[.int .u8 c.toNat] w fun e w'=>e = .returned (.bool (f c))∧w'=w)
   (x:List UInt8) (hx:x.length≤2000) (w:World) :
   Calls Tryz.prog 100 #[.string ⟨x.toArray⟩, .func (.func g) #[] #[]] w fun e w'=>e = .returned (.bool (Ver.allL f x))∧Below w.heap.size w w' :=
 all_any g f he hg ⟨x.toArray⟩ (by simp[ByteArray.size];omega) w
theorem isWord_any (x:List UInt8) (hx:x.length≤2000) (w:World) :
   Calls Tryz.prog 315 #[.string ⟨x.toArray⟩] w fun e w'=>e = .returned (.bool (Wd.isWord x))∧Below w.heap.size w w':=by
 cases h:Wd.lenIn x 1 16
 · have e1:Wd.isWord x=false:=by simp[Wd.isWord,h]
   rw[e1]
   go_enter Tryz.func315,Tryz.ntmps315
   go_wp2_with (go_at_call 264;refine (wLen_any x 1 16 _).mono ?_;rintro e w' ⟨rfl,rfl⟩)
   go_ret
   exact ⟨rfl,Below.refl _ _⟩
 · have e1:Wd.isWord x=Ver.allL Wd.woS x:=by simp[Wd.isWord,h]
   rw[e1]
   go_enter Tryz.func315,Tryz.ntmps315
   go_wp2_with (first
     | (go_at_call 264;refine (wLen_any x 1 16 _).mono ?_;rintro e w' ⟨rfl,rfl⟩)
     | (go_at_call 100;refine (all_long _ _ enters_wWord wWord_any x hx _).mono ?_;rintro e w' ⟨rfl,hb⟩))
   go_ret
   exact ⟨rfl,hb⟩
theorem isName_any (x:List UInt8) (hx:x.length≤2000) (w:World) :
   Calls Tryz.prog 222 #[.string ⟨x.toArray⟩] w fun e w'=>e = .returned (.bool (Wd.isName x))∧Below w.heap.size w w':=by
 cases h:Wd.lenIn x 1 12
 · have e1:Wd.isName x=false:=by simp[Wd.isName,h]
   rw[e1]
   go_enter Tryz.func222,Tryz.ntmps222
   go_wp2_with (go_at_call 264;refine (wLen_any x 1 12 _).mono ?_;rintro e w' ⟨rfl,rfl⟩)
   go_ret
   exact ⟨rfl,Below.refl _ _⟩
 · have hpos:0<x.length:=by simp[Wd.lenIn] at h;omega
   obtain ⟨c,hc,hcx⟩:∃ c,(⟨x.toArray⟩:ByteArray)[0]'hpos=c∧Wd.headIs Wd.low x=Wd.low c:=by
     cases x with
     | nil=>simp at hpos
     | cons c l=>exact ⟨c,rfl,rfl⟩
   have HCX:=hide hcx;clear hcx
   cases hl:Wd.low c
   · have e1:Wd.isName x=false:=by simp[Wd.isName,HCX.out,hl]
     rw[e1]
     go_enter Tryz.func222,Tryz.ntmps222
     go_wp2_with (first
       | (go_at_call 264;refine (wLen_any x 1 12 _).mono ?_;rintro e w' ⟨rfl,rfl⟩)
       | (go_at_call 271;refine (wLetter_any c _).mono ?_;rintro e w' ⟨rfl,rfl⟩))
     go_ret
     exact ⟨rfl,Below.refl _ _⟩
   · have e1:Wd.isName x=Ver.allL Wd.nmS x:=by simp[Wd.isName,HCX.out,hl,h]
     rw[e1]
     go_enter Tryz.func222,Tryz.ntmps222
     go_wp2_with (first
       | (go_at_call 264;refine (wLen_any x 1 12 _).mono ?_;rintro e w' ⟨rfl,rfl⟩)
       | (go_at_call 271;refine (wLetter_any c _).mono ?_;rintro e w' ⟨rfl,rfl⟩)
       | (go_at_call 100;refine (all_long _ _ enters_wName wName_any x hx _).mono ?_;rintro e w' ⟨rfl,hb⟩))
     go_ret
     exact ⟨rfl,hb⟩
theorem under_any (x:List UInt8) (w:World) :
   Calls Tryz.prog 180 #[.string ⟨x.toArray⟩, .string ⟨#[47,118,97,114,47]⟩] w fun e w'=>e = .returned (.bool (Wd.under x))∧w'=w :=
 Tryz.strings_HasPrefix ⟨x.toArray⟩ ⟨#[47,118,97,114,47]⟩ w
theorem dbl_any (x:List UInt8) (hx:x.length≤2000) (mx:Int) (w:World) (hm:w.cell? ⟨3,0,none⟩=some (.int .i64 mx)) :
   Calls Tryz.prog 265 #[.string ⟨x.toArray⟩, .string ⟨#[47,47]⟩] w fun e w'=>e = .returned (.bool (Wd.dbl x))∧w'=w :=
 Tryz.strings_Contains ⟨x.toArray⟩ ⟨#[47,47]⟩ mx w (by simp[ByteArray.size];omega) hm
theorem underVar_any (x:List UInt8) (w:World) :
   Calls Tryz.prog 214 #[.string ⟨x.toArray⟩] w fun e w'=>e = .returned (.bool (Wd.under x))∧w'=w:=by
 go_enter Tryz.func214,Tryz.ntmps214
 go_wp2_with (go_at_call 180;refine (under_any x _).mono ?_;rintro e w' ⟨rfl,rfl⟩)
 go_ret
 exact ⟨rfl,rfl⟩
theorem ends_of {x:List UInt8} (h:2≤x.length):∃ c d,(⟨x.toArray⟩:ByteArray)[0]'(by show 0<x.length;omega)=c∧(⟨x.toArray⟩:ByteArray)[x.length-1]'(by show x.length-1<x.length;omega)=d∧(∀ f,Wd.headIs f x=f c)∧Wd.lastOf x=d:=by
 refine ⟨_,_,rfl,rfl,?_,?_⟩
 · intro f
   cases x with
   | nil=>simp at h
   | cons c l=>rfl
 · have hne:x≠[]:=by rintro rfl;simp at h
   rw[Wd.lastOf,List.getLastD_eq_getLast?,List.getLast?_eq_getElem?]
   have:x.length-1<x.length:=by omega
   simp[this];rfl
theorem isPath_any (x:List UInt8) (hx:x.length≤2000) (mx:Int) (w:World) (hm:w.cell? ⟨3,0,none⟩=some (.int .i64 mx)) :
   Calls Tryz.prog 213 #[.string ⟨x.toArray⟩] w fun e w'=>e = .returned (.bool (Wd.isPath x))∧Below w.heap.size w w':=by
 have HM:=hide hm;clear hm
 cases h:Wd.lenIn x 2 24
 · have e1:Wd.isPath x=false:=by simp[Wd.isPath,h]
   rw[e1]
   go_enter Tryz.func213,Tryz.ntmps213
   go_wp2_with (go_at_call 264;refine (wLen_any x 2 24 _).mono ?_;rintro e w' ⟨rfl,rfl⟩)
   go_ret
   exact ⟨rfl,Below.refl _ _⟩
 · have h2:2≤x.length:=by simp[Wd.lenIn] at h;omega
   have h2':(1:Int)≤x.length:=by omega
   obtain ⟨c,d,hc,hd,hhead,hlast⟩:=ends_of h2
   have HH:=hide hhead;have HL:=hide hlast
   clear hhead hlast
   have hc':(c.toNat:Int)=47 ↔ c=47:=by rw[← UInt8.toNat_inj];show _ ↔ c.toNat=47;omega
   have hd':(d.toNat:Int)=47 ↔ d=47:=by rw[← UInt8.toNat_inj];show _ ↔ d.toNat=47;omega
   by_cases hc0:(c.toNat:Int)=47
   · by_cases hd0:(d.toNat:Int)=47
     · have e1:Wd.isPath x=false:=by simp[Wd.isPath,HL.out,hd'.1 hd0]
       rw[e1]
       have b1:((c.toNat:Int)==47)=true:=by simp[hc0]
       have b2:((d.toNat:Int) != 47)=false:=by simp[hd0]
       clear hc' hd' hc0 hd0 e1
       go_enter Tryz.func213,Tryz.ntmps213
       go_wp2_with (go_at_call 264;refine (wLen_any x 2 24 _).mono ?_;rintro e w' ⟨rfl,rfl⟩)
       go_ret
       exact ⟨rfl,Below.refl _ _⟩
     · have b1:((c.toNat:Int)==47)=true:=by simp[hc0]
       have b2:((d.toNat:Int) != 47)=true:=by simp[hd0]
       have e0:Wd.isPath x=(!Wd.dbl x&&Ver.allL Wd.paS x):=by
         have hb:(d != 47)=true:=bne_iff_ne.2 fun e=>hd0 (hd'.2 e)
         simp only[Wd.isPath,HL.out,HH.out,h,hc0,hb,Bool.true_and,beq_self_eq_true]
       rw[e0]
       clear hc' hd' hc0 hd0 e0
       cases hdb:Wd.dbl x
       · go_enter Tryz.func213,Tryz.ntmps213
         go_wp2_with (first
           | (go_at_call 264;refine (wLen_any x 2 24 _).mono ?_;rintro e w' ⟨rfl,rfl⟩)
           | (go_at_call 265;refine (dbl_any x hx mx _ HM.out).mono ?_;rintro e w' ⟨rfl,rfl⟩)
           | (go_at_call 100;refine (all_long _ _ enters_wPath wPath_any x hx _).mono ?_;rintro e w' ⟨rfl,hb⟩))
         go_ret
         exact ⟨ret_bool (by simp),hb⟩
       · go_enter Tryz.func213,Tryz.ntmps213
         go_wp2_with (first
           | (go_at_call 264;refine (wLen_any x 2 24 _).mono ?_;rintro e w' ⟨rfl,rfl⟩)
           | (go_at_call 265;refine (dbl_any x hx mx _ HM.out).mono ?_;rintro e w' ⟨rfl,rfl⟩))
         go_ret
         exact ⟨ret_bool (by simp),Below.refl _ _⟩
   · have e1:Wd.isPath x=false:=by simp[Wd.isPath,HH.out,hc0]
     rw[e1]
     have b1:((c.toNat:Int)==47)=false:=by simp[hc0]
     clear hc' hd' hc0 e1
     go_enter Tryz.func213,Tryz.ntmps213
     go_wp2_with (go_at_call 264;refine (wLen_any x 2 24 _).mono ?_;rintro e w' ⟨rfl,rfl⟩)
     go_ret
     exact ⟨rfl,Below.refl _ _⟩
theorem isVar_any (x:List UInt8) (hx:x.length≤2000) (mx:Int) (w:World) (hm:w.cell? ⟨3,0,none⟩=some (.int .i64 mx)) :
   Calls Tryz.prog 160 #[.string ⟨x.toArray⟩] w fun e w'=>e = .returned (.bool (Wd.isVar x))∧Below w.heap.size w w':=by
 have HM:=hide hm;clear hm
 cases h:Wd.isPath x
 · have e1:Wd.isVar x=false:=by simp[Wd.isVar,h]
   rw[e1]
   go_enter Tryz.func160,Tryz.ntmps160
   go_wp2_with (go_at_call 213;refine (isPath_any x hx mx _ HM.out).mono ?_;rintro e w' ⟨rfl,hb⟩)
   go_ret
   exact ⟨rfl,hb⟩
 · have e1:Wd.isVar x=Wd.under x:=by simp[Wd.isVar,h]
   rw[e1]
   go_enter Tryz.func160,Tryz.ntmps160
   go_wp2_with (first
     | (go_at_call 213;refine (isPath_any x hx mx _ HM.out).mono ?_;rintro e w' ⟨rfl,hb⟩)
     | (go_at_call 214;refine (underVar_any x _).mono ?_;rintro e w' ⟨rfl,rfl⟩))
   go_ret
   exact ⟨rfl,hb⟩
end
namespace Ver
def val (l:List UInt8):Int:=l.foldl (fun a c=>10*a+((c.toNat:Int)-48)) 0
def vr:List UInt8→Int
 | []=>0
 | c::l=>((c.toNat:Int)-48)*10^l.length+vr l
theorem val_from (l:List UInt8):∀ a:Int,l.foldl (fun a c=>10*a+((c.toNat:Int)-48)) a=a*10^l.length+vr l:=by
 induction l with
 | nil=>intro a;simp[vr]
 | cons c l ih =>
   intro a
   rw[List.foldl_cons,ih,vr,List.length_cons,Int.pow_succ]
   generalize (10:Int)^l.length=p
   rw[Int.add_mul,Int.mul_assoc,Int.mul_left_comm,Int.mul_comm p 10]
   omega
theorem val_vr (l:List UInt8):val l=vr l:=by rw[val,val_from];simp
theorem isD_bd {c:UInt8} (h:isD c=true):48≤(c.toNat:Int)∧(c.toNat:Int)≤57:=by
 simpa [isD] using h
theorem pow_pos' (n:Nat):0<(10:Int)^n:=Int.pow_pos (by decide)
theorem vr_bd:∀ l:List UInt8,(∀ c∈l,isD c=true)→0≤vr l∧vr l<10^l.length
 | [],_=>by simp[vr]
 | c::l,h=>by
   have ih:=vr_bd l fun x hx=>h x (by simp[hx])
   have hc:=isD_bd (h c (by simp))
   have hp:=pow_pos' l.length
   simp only[vr,List.length_cons,Int.pow_succ]
   generalize (10:Int)^l.length=p at *
   generalize (c.toNat:Int)=n at *
   have h1:0≤(n-48)*p:=Int.mul_nonneg (by omega) (by omega)
   have h2:(n-48)*p≤9*p:=Int.mul_le_mul_of_nonneg_right (by omega) (by omega)
   omega
end Ver
section
open Go.RowKit
def sz (x:List UInt8):Int:=if Wd.lenIn x 1 4=true ∧ ¬ (Wd.headIs (fun c=>(c.toNat:Int)==48) x=true∧1<x.length)∧x.all Ver.isD=true then Ver.val x else -1
def spl:List UInt8→List (List UInt8)
 | []=>[[]]
 | c::l=>if c=32 then []::spl l else match spl l with
   | []=>[[c]]
   | h::t=>(c::h)::t
def strs (l:List (List UInt8)):List Value:=l.map fun x => .string ⟨x.toArray⟩
theorem info_str:(Tryz.prog.info? 9).map (fun i=>(i.zero,i.size,i.bytes))=some (some (.string ByteArray.empty),1,16):=by kernel_rfl
def WS (x:List UInt8) (k f:Nat) (p:List (List UInt8)):Prop :=
 p.length≤k∧((k≤x.length∧f≤k∧spl x=p++spl (x.drop f)∧((x.drop f).take (k-f)).all (fun c=>c != 32)=true)∨(k=x.length+1∧spl x=p))
theorem own_shape {w:World} {base:Nat} {t:TypeId} {v:Value} {n:Nat} {xs:List Value} (h:w.ownsRow base t 1 v n xs) (hn:0<n):∃ g cap,v = .slice (some ⟨g,0,none⟩) n cap:=by
 rcases h.2 with ⟨_,h⟩ | ⟨g,cap,_,h,_⟩
 · omega
 · exact ⟨g,cap,h⟩
end
end Go.Proofs.YtialenebfcnkkaaGreatDoor
