/- VerW8, VerW9, WordsMath, WordsW1, RefMath, RefX3, RefX4 -/
import Derived.Test.YtialenebfcnkkaaGreatDoorOrdJ3
import Derived.Test.YtialenebfcnkkaaGreatDoorOrdJ2
import Derived.Lib.Strings
import Derived.Lib.IndexMore
import Derived.BigCall
set_option maxHeartbeats 2000000
set_option maxRecDepth 100000
namespace Go.Proofs.YtialenebfcnkkaaGreatDoor
section
open Go.RowKit
theorem Eb (x:List UInt8) (w:World) :
   Calls Tryz.prog 163 #[.string ⟨x.toArray⟩, .string ⟨#[58]⟩] w fun e w'=>e = .returned (.int .i64 (Lib.indexByte x 58))∧w'=w:=by
 by_cases h:x=[58]
 · subst h
   go_enter Tryz.func163,Tryz.ntmps163
   go_wp2
   go_ret
   exact ⟨iP (by decide),rfl⟩
 · have hne:([58]==x)=false:=by simpa using fun h'=>h (by simpa using h'.symm)
   go_enter Tryz.func163,Tryz.ntmps163
   go_wp2_with (go_at_call 215;refine (Tryz.stringslite_IndexByte ⟨x.toArray⟩ 58 _).mono ?_;rintro e w' ⟨rfl,rfl⟩)
   go_ret
   exact ⟨rfl,rfl⟩
theorem Xl {a b c d:ByteArray} {z:Bool} (h:a=b) (k:c=d):Ending.returned (.tuple #[.string a, .string c, .bool z]) = .returned (.tuple #[.string b, .string d, .bool z]):=by rw[h,k]
theorem kg (x:List UInt8) (k:Nat):(⟨x.toArray⟩:ByteArray).extract 0 k=⟨(x.take k).toArray⟩:=vL ⟨x.toArray⟩ k
theorem j6 (x:List UInt8) (k:Nat):(⟨x.toArray⟩:ByteArray).extract k x.length=⟨(x.drop k).toArray⟩:=vK ⟨x.toArray⟩ k
theorem WH (x:List UInt8) (h1:Lib.indexByte x 58 = -1) (w:World) :
   Calls Tryz.prog 98 #[.string ⟨x.toArray⟩, .string ⟨#[58]⟩] w fun e w' =>
     e = .returned (.tuple #[.string ⟨x.toArray⟩, .string ⟨#[]⟩, .bool false])∧w'=w:=by
 go_enter Tryz.func98,Tryz.ntmps98
 go_wp2_with (go_at_call 163;refine (Eb x _).mono ?_;rintro e w' ⟨rfl,rfl⟩)
 go_ret3
 exact ⟨rfl,rfl⟩
theorem SY (x:List UInt8) (k:Nat) (hk:k<x.length) (hx:x.length≤24) (h1:Lib.indexByte x 58=k) (w:World) :
   Calls Tryz.prog 98 #[.string ⟨x.toArray⟩, .string ⟨#[58]⟩] w fun e w' =>
     e = .returned (.tuple #[.string ⟨(x.take k).toArray⟩, .string ⟨(x.drop (k+1)).toArray⟩, .bool true])∧w'=w.drew:=by
 have c1:(0:Int) ≤ ↑k:=by omega
 have c2:(↑k:Int) ≤ ↑x.length:=by omega
 have c3:(↑k:Int)+1 ≤ ↑x.length:=by omega
 go_enter Tryz.func98,Tryz.ntmps98
 go_wp2_with (go_at_call 163;refine (Eb x _).mono ?_;rintro e w' ⟨rfl,rfl⟩)
 go_region
 all_goals (go_wp2;go_ret3;exact ⟨Xl (kg x k) (j6 x (k+1)),rfl⟩)
theorem RX (x:List UInt8) (h1:Lib.indexByte x 58 = -1) (w:World) :
   Calls Tryz.prog 48 #[.string ⟨x.toArray⟩, .string ⟨#[58]⟩] w fun e w' =>
     e = .returned (.tuple #[.string ⟨x.toArray⟩, .string ⟨#[]⟩, .bool false])∧w'=w:=by
 go_enter Tryz.func48,Tryz.ntmps48
 go_wp2_with (go_at_call 98;refine (WH x h1 _).mono ?_;rintro e w' ⟨rfl,rfl⟩)
 go_ret3
 exact ⟨rfl,rfl⟩
theorem V6 (x:List UInt8) (k:Nat) (hk:k<x.length) (hx:x.length≤24) (h1:Lib.indexByte x 58=k) (w:World) :
   Calls Tryz.prog 48 #[.string ⟨x.toArray⟩, .string ⟨#[58]⟩] w fun e w' =>
     e = .returned (.tuple #[.string ⟨(x.take k).toArray⟩, .string ⟨(x.drop (k+1)).toArray⟩, .bool true])∧w'=w.drew:=by
 go_enter Tryz.func48,Tryz.ntmps48
 go_wp2_with (go_at_call 98;refine (SY x k hk hx h1 _).mono ?_;rintro e w' ⟨rfl,rfl⟩)
 go_ret3
 exact ⟨rfl,rfl⟩
theorem vR (x:List UInt8) (hx:x.length≤24) (w:World) :
   Calls Tryz.prog 49 #[.string ⟨x.toArray⟩, .int .u8 45] w fun e w'=>e = .returned (.int .i64 (Lib.lastIndexByte ⟨x.toArray⟩ 45))∧w'=w :=
 Tryz.strings_LastIndexByte ⟨x.toArray⟩ 45 (by simp[ByteArray.size];omega) w
def zv:Value := .agg #[.string ⟨#[]⟩, .string ⟨#[]⟩, .string ⟨#[]⟩]
theorem Jd (s:ByteArray) (h:s.size=0∨24<s.size) (w:World) :
   Calls Tryz.prog 27 #[.string s] w fun e w'=>e = .returned (.tuple #[zv, .bool false])∧Below w.heap.size w w':=by
 rcases h with h | h
 · have hs:(s.size:Int)<1:=by omega
   clear h
   go_enter Tryz.func27,Tryz.ntmps27
   go_wp2
   exact bodyPost_ret (v := .tuple #[zv, .bool false]) (by simp[results,Tryz.results27,go_sem,zv]) rfl ⟨rfl,(Below.refl _ _).alloc (Nat.le_refl _) _⟩
 · have hs : ¬ (s.size:Int)<1:=by omega
   have hs':(24:Int)<s.size:=by omega
   clear h
   go_enter Tryz.func27,Tryz.ntmps27
   go_wp2
   exact bodyPost_ret (v := .tuple #[zv, .bool false]) (by simp[results,Tryz.results27,go_sem,zv]) rfl ⟨rfl,(Below.refl _ _).alloc (Nat.le_refl _) _⟩
theorem gI {W w1:World} (hb:Below W.heap.size W w1):(∀ b o,b<W.heap.size→w1.cell? ⟨b,o,none⟩=W.cell? ⟨b,o,none⟩)∧(∀ b o,b<W.heap.size→w1.frozen? ⟨b,o,none⟩=W.frozen? ⟨b,o,none⟩) :=
 ⟨fun b o h=>hb.cell (p:=⟨b,o,none⟩) h,fun b o h=>hb.frozen (p:=⟨b,o,none⟩) h⟩
theorem Hg (x E m:List UInt8) (k:Nat) (hk:k<x.length) (hx:x.length≤24) (h1:Lib.indexByte x 58=k) (hE:x.take k=E) (hm:x.drop (k+1)=m) (w:World) :
   Calls Tryz.prog 48 #[.string ⟨x.toArray⟩, .string ⟨#[58]⟩] w fun e w' =>
     e = .returned (.tuple #[.string ⟨E.toArray⟩, .string ⟨m.toArray⟩, .bool true])∧w'=w.drew:=by
 subst hE hm;exact V6 x k hk hx h1 w
def okV (E M R:List UInt8):Bool:=aC.PI E&&aC.TD M&&aC.okR R
def pv (E M R:List UInt8):Value:=if okV E M R=true then .agg #[.string ⟨E.toArray⟩, .string ⟨M.toArray⟩, .string ⟨R.toArray⟩] else zv
def Parsed (E M R:List UInt8) (w:World):Ending→World→Prop:=fun e w'=>e = .returned (.tuple #[pv E M R, .bool (okV E M R)])∧Below w.heap.size w w'
theorem eP {E M R:List UInt8} {w w':World} {e:Ending} (h:okV E M R=false) (he:e = .returned (.tuple #[zv, .bool false])) (hb:Below w.heap.size w w'):Parsed E M R w e w':=by
 refine ⟨?_,hb⟩;rw[he,h];simp[pv,h]
theorem oV {E M R:List UInt8} {w w':World} {e:Ending} (h:okV E M R=true) (he:e = .returned (.tuple #[.agg #[.string ⟨E.toArray⟩, .string ⟨M.toArray⟩, .string ⟨R.toArray⟩], .bool true])) (hb:Below w.heap.size w w'):Parsed E M R w e w':=by
 refine ⟨?_,hb⟩;rw[he,h];simp[pv,h]
theorem bX {w:World} {b:Nat} {x y z:Value} (h0:w.cell? ⟨b,0,none⟩=some x) (h1:w.cell? ⟨b,1,none⟩=some y) (h2:w.cell? ⟨b,2,none⟩=some z) (a1 a2 a3:Value) :
   (((w.setCell ⟨b,0,none⟩ a1).setCell ⟨b,1,none⟩ a2).setCell ⟨b,2,none⟩ a3).cell? ⟨b,0,none⟩=some a1 ∧
   (((w.setCell ⟨b,0,none⟩ a1).setCell ⟨b,1,none⟩ a2).setCell ⟨b,2,none⟩ a3).cell? ⟨b,1,none⟩=some a2 ∧
   (((w.setCell ⟨b,0,none⟩ a1).setCell ⟨b,1,none⟩ a2).setCell ⟨b,2,none⟩ a3).cell? ⟨b,2,none⟩=some a3:=by
 refine ⟨?_,?_,?_⟩
 · rw[World.cell?_setCell_other _ _ _ _ (by simp),World.cell?_setCell_other _ _ _ _ (by simp)];exact World.cell?_setCell_same _ _ _ h0
 · rw[World.cell?_setCell_other _ _ _ _ (by simp)]
   exact World.cell?_setCell_same _ _ _ ((World.cell?_setCell_other _ _ _ _ (by simp)).trans h1)
 · exact World.cell?_setCell_same _ _ _ ((World.cell?_setCell_other _ _ _ _ (by simp)).trans ((World.cell?_setCell_other _ _ _ _ (by simp)).trans h2))
theorem jo {w w1:World} {a b:Obj} (h:Below ((w.alloc a).alloc b).heap.size ((w.alloc a).alloc b) w1):Below w.heap.size w w1 :=
 (((Below.refl _ _).alloc (Nat.le_refl _) _).alloc (by simp) _).trans (h.mono (by simp;omega))
theorem fV {w w1:World} {a b:Obj} (h:Below ((w.alloc a).alloc b).drew.heap.size ((w.alloc a).alloc b).drew w1):Below w.heap.size w w1 :=
 (((Below.refl _ _).alloc (Nat.le_refl _) _).alloc (by simp) _).drew.trans (h.mono (by simp;omega))
theorem eX {w w1:World} {a b:Obj} (h:Below ((w.alloc a).alloc b).drew.drew.heap.size ((w.alloc a).alloc b).drew.drew w1):Below w.heap.size w w1 :=
 (((Below.refl _ _).alloc (Nat.le_refl _) _).alloc (by simp) _).drew.drew.trans (h.mono (by simp;omega))
theorem P6 (x:List UInt8) (hx0:1≤x.length) (hx:x.length≤24) (h1:Lib.indexByte x 58 = -1) (h2:Lib.lastIndexByte ⟨x.toArray⟩ 45 = -1) (w:World) :
   Calls Tryz.prog 27 #[.string ⟨x.toArray⟩] w (Parsed [48] x [48] w):=by
 have hs : ¬ (x.length:Int)<1:=by omega
 have hs' : ¬ (24:Int)<x.length:=by omega
 go_enter Tryz.func27,Tryz.ntmps27
 go_wp2_with (first
   | (go_at_call 48;refine (RX _ h1 _).mono ?_;rintro e w' ⟨rfl,rfl⟩)
   | (go_at_call 49;refine (vR _ hx _).mono ?_;rw[h2];rintro e w' ⟨rfl,rfl⟩))
 clear hs hs'
 cases hE:aC.PI [48]
 · skip
   refine (fZ [48] (by decide) _).mono ?_
   rintro e w1 ⟨rfl,hb1⟩
   obtain ⟨hc1,hf1⟩:=gI hb1
   have hw1:Below w.heap.size w w1:=by first | exact jo hb1 | exact fV hb1 | exact eX hb1
   have hz1:w.heap.size+1<w1.heap.size:=by have:=hb1.size;simp at this;omega
   have hy1:w.heap.size<w1.heap.size:=by omega
   clear hb1
   replace hw1:=hide hw1
   go_wp2_with fail
   have g0:w1.cell? ⟨w.heap.size,0,none⟩=some (.string ⟨#[]⟩):=by simp[go_sem, *]
   have g1:w1.cell? ⟨w.heap.size,1,none⟩=some (.string ⟨#[]⟩):=by simp[go_sem, *]
   have g2:w1.cell? ⟨w.heap.size,2,none⟩=some (.string ⟨#[]⟩):=by simp[go_sem, *]
   obtain ⟨q0,q1,q2⟩:=bX g0 g1 g2 (.string ⟨#[]⟩) (.string ⟨#[]⟩) (.string ⟨#[]⟩)
   exact bodyPost_ret (v := .tuple #[zv, .bool false]) (by simp[results,Tryz.results27,go_sem,q0,q1,q2,zv]) rfl (eP (by simp[okV,hE]) rfl (((hw1.out.setCell (Nat.le_refl _) _).setCell (Nat.le_refl _) _).setCell (Nat.le_refl _) _))
 · skip
   refine (fZ [48] (by decide) _).mono ?_
   rintro e w1 ⟨rfl,hb1⟩
   obtain ⟨hc1,hf1⟩:=gI hb1
   have hw1:Below w.heap.size w w1:=by first | exact jo hb1 | exact fV hb1 | exact eX hb1
   have hz1:w.heap.size+1<w1.heap.size:=by have:=hb1.size;simp at this;omega
   have hy1:w.heap.size<w1.heap.size:=by omega
   clear hb1
   replace hw1:=hide hw1
   go_wp2_with fail
   cases hM:aC.TD x
   · skip
     refine (iy x hx _).mono ?_
     rintro e w2 ⟨rfl,hb2⟩
     obtain ⟨hc2,hf2⟩:=gI hb2
     have hw2:Below w.heap.size w w2:=hw1.out.trans (hb2.mono hw1.out.size)
     have hz2:w.heap.size+1<w2.heap.size:=by have:=hb2.size;omega
     have hy2:w.heap.size<w2.heap.size:=by omega
     clear hb2
     replace hw2:=hide hw2
     go_wp2_with fail
     have g0:w2.cell? ⟨w.heap.size,0,none⟩=some (.string ⟨#[]⟩):=by simp[go_sem, *]
     have g1:w2.cell? ⟨w.heap.size,1,none⟩=some (.string ⟨#[]⟩):=by simp[go_sem, *]
     have g2:w2.cell? ⟨w.heap.size,2,none⟩=some (.string ⟨#[]⟩):=by simp[go_sem, *]
     obtain ⟨q0,q1,q2⟩:=bX g0 g1 g2 (.string ⟨#[]⟩) (.string ⟨#[]⟩) (.string ⟨#[]⟩)
     exact bodyPost_ret (v := .tuple #[zv, .bool false]) (by simp[results,Tryz.results27,go_sem,q0,q1,q2,zv]) rfl (eP (by simp[okV,hM]) rfl (((hw2.out.setCell (Nat.le_refl _) _).setCell (Nat.le_refl _) _).setCell (Nat.le_refl _) _))
   · skip
     refine (iy x hx _).mono ?_
     rintro e w2 ⟨rfl,hb2⟩
     obtain ⟨hc2,hf2⟩:=gI hb2
     have hw2:Below w.heap.size w w2:=hw1.out.trans (hb2.mono hw1.out.size)
     have hz2:w.heap.size+1<w2.heap.size:=by have:=hb2.size;omega
     have hy2:w.heap.size<w2.heap.size:=by omega
     clear hb2
     replace hw2:=hide hw2
     go_wp2_with fail
     cases hR:aC.okR [48]
     · skip
       refine (dK [48] (by decide) _).mono ?_
       rintro e w3 ⟨rfl,hb3⟩
       obtain ⟨hc3,hf3⟩:=gI hb3
       have hw3:Below w.heap.size w w3:=hw2.out.trans (hb3.mono hw2.out.size)
       have hz3:w.heap.size+1<w3.heap.size:=by have:=hb3.size;omega
       have hy3:w.heap.size<w3.heap.size:=by omega
       clear hb3
       replace hw3:=hide hw3
       go_wp2_with fail
       have g0:w3.cell? ⟨w.heap.size,0,none⟩=some (.string ⟨#[]⟩):=by simp[go_sem, *]
       have g1:w3.cell? ⟨w.heap.size,1,none⟩=some (.string ⟨#[]⟩):=by simp[go_sem, *]
       have g2:w3.cell? ⟨w.heap.size,2,none⟩=some (.string ⟨#[]⟩):=by simp[go_sem, *]
       obtain ⟨q0,q1,q2⟩:=bX g0 g1 g2 (.string ⟨#[]⟩) (.string ⟨#[]⟩) (.string ⟨#[]⟩)
       exact bodyPost_ret (v := .tuple #[zv, .bool false]) (by simp[results,Tryz.results27,go_sem,q0,q1,q2,zv]) rfl (eP (by simp[okV,hR]) rfl (((hw3.out.setCell (Nat.le_refl _) _).setCell (Nat.le_refl _) _).setCell (Nat.le_refl _) _))
     · skip
       refine (dK [48] (by decide) _).mono ?_
       rintro e w3 ⟨rfl,hb3⟩
       obtain ⟨hc3,hf3⟩:=gI hb3
       have hw3:Below w.heap.size w w3:=hw2.out.trans (hb3.mono hw2.out.size)
       have hz3:w.heap.size+1<w3.heap.size:=by have:=hb3.size;omega
       have hy3:w.heap.size<w3.heap.size:=by omega
       clear hb3
       replace hw3:=hide hw3
       go_wp2_with fail
       have g0:w3.cell? ⟨w.heap.size,0,none⟩=some (.string ⟨#[]⟩):=by simp[go_sem, *]
       have g1:w3.cell? ⟨w.heap.size,1,none⟩=some (.string ⟨#[]⟩):=by simp[go_sem, *]
       have g2:w3.cell? ⟨w.heap.size,2,none⟩=some (.string ⟨#[]⟩):=by simp[go_sem, *]
       obtain ⟨q0,q1,q2⟩:=bX g0 g1 g2 (.string ⟨[48].toArray⟩) (.string ⟨x.toArray⟩) (.string ⟨[48].toArray⟩)
       exact bodyPost_ret (v := .tuple #[.agg #[.string ⟨[48].toArray⟩, .string ⟨x.toArray⟩, .string ⟨[48].toArray⟩], .bool true]) (by simp[results,Tryz.results27,go_sem,q0,q1,q2]) rfl (oV (by simp[okV,hE,hM,hR]) rfl (((hw3.out.setCell (Nat.le_refl _) _).setCell (Nat.le_refl _) _).setCell (Nat.le_refl _) _))
theorem P5 (x:List UInt8) (hx0:1≤x.length) (hx:x.length≤24) (h1:Lib.indexByte x 58 = -1) (k:Nat) (hk:k<x.length) (h2:Lib.lastIndexByte ⟨x.toArray⟩ 45=k) (w:World) :
   Calls Tryz.prog 27 #[.string ⟨x.toArray⟩] w (Parsed [48] (x.take k) (x.drop (k+1)) w):=by
 have hlM:(x.take k).length≤24:=by rw[List.length_take];omega
 have hlR:(x.drop (k+1)).length≤24:=by rw[List.length_drop];omega
 have hs : ¬ (x.length:Int)<1:=by omega
 have hs' : ¬ (24:Int)<x.length:=by omega
 have c1:(0:Int) ≤ ↑k:=by omega
 have c2:(↑k:Int) ≤ ↑x.length:=by omega
 have c3:(↑k:Int)+1 ≤ ↑x.length:=by omega
 go_enter Tryz.func27,Tryz.ntmps27
 go_wp2_with (first
   | (go_at_call 48;refine (RX _ h1 _).mono ?_;rintro e w' ⟨rfl,rfl⟩)
   | (go_at_call 49;refine (vR _ hx _).mono ?_;rw[h2];rintro e w' ⟨rfl,rfl⟩))
 go_region
 go_wp2_with fail
 simp only[kg,j6]
 clear c1 c2 c3 hk h2
 generalize hgM:(x.take k)=M at *
 generalize hgR:(x.drop (k+1))=R at *
 clear hgM hgR
 clear hs hs'
 cases hE:aC.PI [48]
 · skip
   refine (fZ [48] (by decide) _).mono ?_
   rintro e w1 ⟨rfl,hb1⟩
   obtain ⟨hc1,hf1⟩:=gI hb1
   have hw1:Below w.heap.size w w1:=by first | exact jo hb1 | exact fV hb1 | exact eX hb1
   have hz1:w.heap.size+1<w1.heap.size:=by have:=hb1.size;simp at this;omega
   have hy1:w.heap.size<w1.heap.size:=by omega
   clear hb1
   replace hw1:=hide hw1
   go_wp2_with fail
   have g0:w1.cell? ⟨w.heap.size,0,none⟩=some (.string ⟨#[]⟩):=by simp[go_sem, *]
   have g1:w1.cell? ⟨w.heap.size,1,none⟩=some (.string ⟨#[]⟩):=by simp[go_sem, *]
   have g2:w1.cell? ⟨w.heap.size,2,none⟩=some (.string ⟨#[]⟩):=by simp[go_sem, *]
   obtain ⟨q0,q1,q2⟩:=bX g0 g1 g2 (.string ⟨#[]⟩) (.string ⟨#[]⟩) (.string ⟨#[]⟩)
   exact bodyPost_ret (v := .tuple #[zv, .bool false]) (by simp[results,Tryz.results27,go_sem,q0,q1,q2,zv]) rfl (eP (by simp[okV,hE]) rfl (((hw1.out.setCell (Nat.le_refl _) _).setCell (Nat.le_refl _) _).setCell (Nat.le_refl _) _))
 · skip
   refine (fZ [48] (by decide) _).mono ?_
   rintro e w1 ⟨rfl,hb1⟩
   obtain ⟨hc1,hf1⟩:=gI hb1
   have hw1:Below w.heap.size w w1:=by first | exact jo hb1 | exact fV hb1 | exact eX hb1
   have hz1:w.heap.size+1<w1.heap.size:=by have:=hb1.size;simp at this;omega
   have hy1:w.heap.size<w1.heap.size:=by omega
   clear hb1
   replace hw1:=hide hw1
   go_wp2_with fail
   cases hM:aC.TD M
   · skip
     refine (iy M hlM _).mono ?_
     rintro e w2 ⟨rfl,hb2⟩
     obtain ⟨hc2,hf2⟩:=gI hb2
     have hw2:Below w.heap.size w w2:=hw1.out.trans (hb2.mono hw1.out.size)
     have hz2:w.heap.size+1<w2.heap.size:=by have:=hb2.size;omega
     have hy2:w.heap.size<w2.heap.size:=by omega
     clear hb2
     replace hw2:=hide hw2
     go_wp2_with fail
     have g0:w2.cell? ⟨w.heap.size,0,none⟩=some (.string ⟨#[]⟩):=by simp[go_sem, *]
     have g1:w2.cell? ⟨w.heap.size,1,none⟩=some (.string ⟨#[]⟩):=by simp[go_sem, *]
     have g2:w2.cell? ⟨w.heap.size,2,none⟩=some (.string ⟨#[]⟩):=by simp[go_sem, *]
     obtain ⟨q0,q1,q2⟩:=bX g0 g1 g2 (.string ⟨#[]⟩) (.string ⟨#[]⟩) (.string ⟨#[]⟩)
     exact bodyPost_ret (v := .tuple #[zv, .bool false]) (by simp[results,Tryz.results27,go_sem,q0,q1,q2,zv]) rfl (eP (by simp[okV,hM]) rfl (((hw2.out.setCell (Nat.le_refl _) _).setCell (Nat.le_refl _) _).setCell (Nat.le_refl _) _))
   · skip
     refine (iy M hlM _).mono ?_
     rintro e w2 ⟨rfl,hb2⟩
     obtain ⟨hc2,hf2⟩:=gI hb2
     have hw2:Below w.heap.size w w2:=hw1.out.trans (hb2.mono hw1.out.size)
     have hz2:w.heap.size+1<w2.heap.size:=by have:=hb2.size;omega
     have hy2:w.heap.size<w2.heap.size:=by omega
     clear hb2
     replace hw2:=hide hw2
     go_wp2_with fail
     cases hR:aC.okR R
     · skip
       refine (dK R hlR _).mono ?_
       rintro e w3 ⟨rfl,hb3⟩
       obtain ⟨hc3,hf3⟩:=gI hb3
       have hw3:Below w.heap.size w w3:=hw2.out.trans (hb3.mono hw2.out.size)
       have hz3:w.heap.size+1<w3.heap.size:=by have:=hb3.size;omega
       have hy3:w.heap.size<w3.heap.size:=by omega
       clear hb3
       replace hw3:=hide hw3
       go_wp2_with fail
       have g0:w3.cell? ⟨w.heap.size,0,none⟩=some (.string ⟨#[]⟩):=by simp[go_sem, *]
       have g1:w3.cell? ⟨w.heap.size,1,none⟩=some (.string ⟨#[]⟩):=by simp[go_sem, *]
       have g2:w3.cell? ⟨w.heap.size,2,none⟩=some (.string ⟨#[]⟩):=by simp[go_sem, *]
       obtain ⟨q0,q1,q2⟩:=bX g0 g1 g2 (.string ⟨#[]⟩) (.string ⟨#[]⟩) (.string ⟨#[]⟩)
       exact bodyPost_ret (v := .tuple #[zv, .bool false]) (by simp[results,Tryz.results27,go_sem,q0,q1,q2,zv]) rfl (eP (by simp[okV,hR]) rfl (((hw3.out.setCell (Nat.le_refl _) _).setCell (Nat.le_refl _) _).setCell (Nat.le_refl _) _))
     · skip
       refine (dK R hlR _).mono ?_
       rintro e w3 ⟨rfl,hb3⟩
       obtain ⟨hc3,hf3⟩:=gI hb3
       have hw3:Below w.heap.size w w3:=hw2.out.trans (hb3.mono hw2.out.size)
       have hz3:w.heap.size+1<w3.heap.size:=by have:=hb3.size;omega
       have hy3:w.heap.size<w3.heap.size:=by omega
       clear hb3
       replace hw3:=hide hw3
       go_wp2_with fail
       have g0:w3.cell? ⟨w.heap.size,0,none⟩=some (.string ⟨#[]⟩):=by simp[go_sem, *]
       have g1:w3.cell? ⟨w.heap.size,1,none⟩=some (.string ⟨#[]⟩):=by simp[go_sem, *]
       have g2:w3.cell? ⟨w.heap.size,2,none⟩=some (.string ⟨#[]⟩):=by simp[go_sem, *]
       obtain ⟨q0,q1,q2⟩:=bX g0 g1 g2 (.string ⟨[48].toArray⟩) (.string ⟨M.toArray⟩) (.string ⟨R.toArray⟩)
       exact bodyPost_ret (v := .tuple #[.agg #[.string ⟨[48].toArray⟩, .string ⟨M.toArray⟩, .string ⟨R.toArray⟩], .bool true]) (by simp[results,Tryz.results27,go_sem,q0,q1,q2]) rfl (oV (by simp[okV,hE,hM,hR]) rfl (((hw3.out.setCell (Nat.le_refl _) _).setCell (Nat.le_refl _) _).setCell (Nat.le_refl _) _))
theorem PZ (x:List UInt8) (hx0:1≤x.length) (hx:x.length≤24) (E m:List UInt8) (j:Nat) (hj:j<x.length) (h1:Lib.indexByte x 58=j) (hE':x.take j=E) (hm':x.drop (j+1)=m) (Sm:E.length≤24) (hlm:m.length≤24) (h2:Lib.lastIndexByte ⟨m.toArray⟩ 45 = -1) (w:World) :
   Calls Tryz.prog 27 #[.string ⟨x.toArray⟩] w (Parsed E m [48] w):=by
 have hs : ¬ (x.length:Int)<1:=by omega
 have hs' : ¬ (24:Int)<x.length:=by omega
 go_enter Tryz.func27,Tryz.ntmps27
 go_wp2_with (first
   | (go_at_call 48;refine (Hg x E m j hj hx h1 hE' hm' _).mono ?_;rintro e w' ⟨rfl,rfl⟩)
   | (go_at_call 49;refine (vR _ hlm _).mono ?_;rw[h2];rintro e w' ⟨rfl,rfl⟩))
 clear hs hs'
 cases hE:aC.PI E
 · skip
   refine (fZ E Sm _).mono ?_
   rintro e w1 ⟨rfl,hb1⟩
   obtain ⟨hc1,hf1⟩:=gI hb1
   have hw1:Below w.heap.size w w1:=by first | exact jo hb1 | exact fV hb1 | exact eX hb1
   have hz1:w.heap.size+1<w1.heap.size:=by have:=hb1.size;simp at this;omega
   have hy1:w.heap.size<w1.heap.size:=by omega
   clear hb1
   replace hw1:=hide hw1
   go_wp2_with fail
   have g0:w1.cell? ⟨w.heap.size,0,none⟩=some (.string ⟨#[]⟩):=by simp[go_sem, *]
   have g1:w1.cell? ⟨w.heap.size,1,none⟩=some (.string ⟨#[]⟩):=by simp[go_sem, *]
   have g2:w1.cell? ⟨w.heap.size,2,none⟩=some (.string ⟨#[]⟩):=by simp[go_sem, *]
   obtain ⟨q0,q1,q2⟩:=bX g0 g1 g2 (.string ⟨#[]⟩) (.string ⟨#[]⟩) (.string ⟨#[]⟩)
   exact bodyPost_ret (v := .tuple #[zv, .bool false]) (by simp[results,Tryz.results27,go_sem,q0,q1,q2,zv]) rfl (eP (by simp[okV,hE]) rfl (((hw1.out.setCell (Nat.le_refl _) _).setCell (Nat.le_refl _) _).setCell (Nat.le_refl _) _))
 · skip
   refine (fZ E Sm _).mono ?_
   rintro e w1 ⟨rfl,hb1⟩
   obtain ⟨hc1,hf1⟩:=gI hb1
   have hw1:Below w.heap.size w w1:=by first | exact jo hb1 | exact fV hb1 | exact eX hb1
   have hz1:w.heap.size+1<w1.heap.size:=by have:=hb1.size;simp at this;omega
   have hy1:w.heap.size<w1.heap.size:=by omega
   clear hb1
   replace hw1:=hide hw1
   go_wp2_with fail
   cases hM:aC.TD m
   · skip
     refine (iy m hlm _).mono ?_
     rintro e w2 ⟨rfl,hb2⟩
     obtain ⟨hc2,hf2⟩:=gI hb2
     have hw2:Below w.heap.size w w2:=hw1.out.trans (hb2.mono hw1.out.size)
     have hz2:w.heap.size+1<w2.heap.size:=by have:=hb2.size;omega
     have hy2:w.heap.size<w2.heap.size:=by omega
     clear hb2
     replace hw2:=hide hw2
     go_wp2_with fail
     have g0:w2.cell? ⟨w.heap.size,0,none⟩=some (.string ⟨#[]⟩):=by simp[go_sem, *]
     have g1:w2.cell? ⟨w.heap.size,1,none⟩=some (.string ⟨#[]⟩):=by simp[go_sem, *]
     have g2:w2.cell? ⟨w.heap.size,2,none⟩=some (.string ⟨#[]⟩):=by simp[go_sem, *]
     obtain ⟨q0,q1,q2⟩:=bX g0 g1 g2 (.string ⟨#[]⟩) (.string ⟨#[]⟩) (.string ⟨#[]⟩)
     exact bodyPost_ret (v := .tuple #[zv, .bool false]) (by simp[results,Tryz.results27,go_sem,q0,q1,q2,zv]) rfl (eP (by simp[okV,hM]) rfl (((hw2.out.setCell (Nat.le_refl _) _).setCell (Nat.le_refl _) _).setCell (Nat.le_refl _) _))
   · skip
     refine (iy m hlm _).mono ?_
     rintro e w2 ⟨rfl,hb2⟩
     obtain ⟨hc2,hf2⟩:=gI hb2
     have hw2:Below w.heap.size w w2:=hw1.out.trans (hb2.mono hw1.out.size)
     have hz2:w.heap.size+1<w2.heap.size:=by have:=hb2.size;omega
     have hy2:w.heap.size<w2.heap.size:=by omega
     clear hb2
     replace hw2:=hide hw2
     go_wp2_with fail
     cases hR:aC.okR [48]
     · skip
       refine (dK [48] (by decide) _).mono ?_
       rintro e w3 ⟨rfl,hb3⟩
       obtain ⟨hc3,hf3⟩:=gI hb3
       have hw3:Below w.heap.size w w3:=hw2.out.trans (hb3.mono hw2.out.size)
       have hz3:w.heap.size+1<w3.heap.size:=by have:=hb3.size;omega
       have hy3:w.heap.size<w3.heap.size:=by omega
       clear hb3
       replace hw3:=hide hw3
       go_wp2_with fail
       have g0:w3.cell? ⟨w.heap.size,0,none⟩=some (.string ⟨#[]⟩):=by simp[go_sem, *]
       have g1:w3.cell? ⟨w.heap.size,1,none⟩=some (.string ⟨#[]⟩):=by simp[go_sem, *]
       have g2:w3.cell? ⟨w.heap.size,2,none⟩=some (.string ⟨#[]⟩):=by simp[go_sem, *]
       obtain ⟨q0,q1,q2⟩:=bX g0 g1 g2 (.string ⟨#[]⟩) (.string ⟨#[]⟩) (.string ⟨#[]⟩)
       exact bodyPost_ret (v := .tuple #[zv, .bool false]) (by simp[results,Tryz.results27,go_sem,q0,q1,q2,zv]) rfl (eP (by simp[okV,hR]) rfl (((hw3.out.setCell (Nat.le_refl _) _).setCell (Nat.le_refl _) _).setCell (Nat.le_refl _) _))
     · skip
       refine (dK [48] (by decide) _).mono ?_
       rintro e w3 ⟨rfl,hb3⟩
       obtain ⟨hc3,hf3⟩:=gI hb3
       have hw3:Below w.heap.size w w3:=hw2.out.trans (hb3.mono hw2.out.size)
       have hz3:w.heap.size+1<w3.heap.size:=by have:=hb3.size;omega
       have hy3:w.heap.size<w3.heap.size:=by omega
       clear hb3
       replace hw3:=hide hw3
       go_wp2_with fail
       have g0:w3.cell? ⟨w.heap.size,0,none⟩=some (.string ⟨#[]⟩):=by simp[go_sem, *]
       have g1:w3.cell? ⟨w.heap.size,1,none⟩=some (.string ⟨#[]⟩):=by simp[go_sem, *]
       have g2:w3.cell? ⟨w.heap.size,2,none⟩=some (.string ⟨#[]⟩):=by simp[go_sem, *]
       obtain ⟨q0,q1,q2⟩:=bX g0 g1 g2 (.string ⟨E.toArray⟩) (.string ⟨m.toArray⟩) (.string ⟨[48].toArray⟩)
       exact bodyPost_ret (v := .tuple #[.agg #[.string ⟨E.toArray⟩, .string ⟨m.toArray⟩, .string ⟨[48].toArray⟩], .bool true]) (by simp[results,Tryz.results27,go_sem,q0,q1,q2]) rfl (oV (by simp[okV,hE,hM,hR]) rfl (((hw3.out.setCell (Nat.le_refl _) _).setCell (Nat.le_refl _) _).setCell (Nat.le_refl _) _))
theorem PY (x:List UInt8) (hx0:1≤x.length) (hx:x.length≤24) (E m:List UInt8) (j:Nat) (hj:j<x.length) (h1:Lib.indexByte x 58=j) (hE':x.take j=E) (hm':x.drop (j+1)=m) (Sm:E.length≤24) (hlm:m.length≤24) (k:Nat) (hk:k<m.length) (h2:Lib.lastIndexByte ⟨m.toArray⟩ 45=k) (w:World) :
   Calls Tryz.prog 27 #[.string ⟨x.toArray⟩] w (Parsed E (m.take k) (m.drop (k+1)) w):=by
 have hlM:(m.take k).length≤24:=by rw[List.length_take];omega
 have hlR:(m.drop (k+1)).length≤24:=by rw[List.length_drop];omega
 have hs : ¬ (x.length:Int)<1:=by omega
 have hs' : ¬ (24:Int)<x.length:=by omega
 have c1:(0:Int) ≤ ↑k:=by omega
 have c2:(↑k:Int) ≤ ↑m.length:=by omega
 have c3:(↑k:Int)+1 ≤ ↑m.length:=by omega
 go_enter Tryz.func27,Tryz.ntmps27
 go_wp2_with (first
   | (go_at_call 48;refine (Hg x E m j hj hx h1 hE' hm' _).mono ?_;rintro e w' ⟨rfl,rfl⟩)
   | (go_at_call 49;refine (vR _ hlm _).mono ?_;rw[h2];rintro e w' ⟨rfl,rfl⟩))
 go_region
 go_wp2_with fail
 simp only[kg,j6]
 clear c1 c2 c3 hk h2
 generalize hgM:(m.take k)=M at *
 generalize hgR:(m.drop (k+1))=R at *
 clear hgM hgR
 clear hs hs'
 cases hE:aC.PI E
 · skip
   refine (fZ E Sm _).mono ?_
   rintro e w1 ⟨rfl,hb1⟩
   obtain ⟨hc1,hf1⟩:=gI hb1
   have hw1:Below w.heap.size w w1:=by first | exact jo hb1 | exact fV hb1 | exact eX hb1
   have hz1:w.heap.size+1<w1.heap.size:=by have:=hb1.size;simp at this;omega
   have hy1:w.heap.size<w1.heap.size:=by omega
   clear hb1
   replace hw1:=hide hw1
   go_wp2_with fail
   have g0:w1.cell? ⟨w.heap.size,0,none⟩=some (.string ⟨#[]⟩):=by simp[go_sem, *]
   have g1:w1.cell? ⟨w.heap.size,1,none⟩=some (.string ⟨#[]⟩):=by simp[go_sem, *]
   have g2:w1.cell? ⟨w.heap.size,2,none⟩=some (.string ⟨#[]⟩):=by simp[go_sem, *]
   obtain ⟨q0,q1,q2⟩:=bX g0 g1 g2 (.string ⟨#[]⟩) (.string ⟨#[]⟩) (.string ⟨#[]⟩)
   exact bodyPost_ret (v := .tuple #[zv, .bool false]) (by simp[results,Tryz.results27,go_sem,q0,q1,q2,zv]) rfl (eP (by simp[okV,hE]) rfl (((hw1.out.setCell (Nat.le_refl _) _).setCell (Nat.le_refl _) _).setCell (Nat.le_refl _) _))
 · skip
   refine (fZ E Sm _).mono ?_
   rintro e w1 ⟨rfl,hb1⟩
   obtain ⟨hc1,hf1⟩:=gI hb1
   have hw1:Below w.heap.size w w1:=by first | exact jo hb1 | exact fV hb1 | exact eX hb1
   have hz1:w.heap.size+1<w1.heap.size:=by have:=hb1.size;simp at this;omega
   have hy1:w.heap.size<w1.heap.size:=by omega
   clear hb1
   replace hw1:=hide hw1
   go_wp2_with fail
   cases hM:aC.TD M
   · skip
     refine (iy M hlM _).mono ?_
     rintro e w2 ⟨rfl,hb2⟩
     obtain ⟨hc2,hf2⟩:=gI hb2
     have hw2:Below w.heap.size w w2:=hw1.out.trans (hb2.mono hw1.out.size)
     have hz2:w.heap.size+1<w2.heap.size:=by have:=hb2.size;omega
     have hy2:w.heap.size<w2.heap.size:=by omega
     clear hb2
     replace hw2:=hide hw2
     go_wp2_with fail
     have g0:w2.cell? ⟨w.heap.size,0,none⟩=some (.string ⟨#[]⟩):=by simp[go_sem, *]
     have g1:w2.cell? ⟨w.heap.size,1,none⟩=some (.string ⟨#[]⟩):=by simp[go_sem, *]
     have g2:w2.cell? ⟨w.heap.size,2,none⟩=some (.string ⟨#[]⟩):=by simp[go_sem, *]
     obtain ⟨q0,q1,q2⟩:=bX g0 g1 g2 (.string ⟨#[]⟩) (.string ⟨#[]⟩) (.string ⟨#[]⟩)
     exact bodyPost_ret (v := .tuple #[zv, .bool false]) (by simp[results,Tryz.results27,go_sem,q0,q1,q2,zv]) rfl (eP (by simp[okV,hM]) rfl (((hw2.out.setCell (Nat.le_refl _) _).setCell (Nat.le_refl _) _).setCell (Nat.le_refl _) _))
   · skip
     refine (iy M hlM _).mono ?_
     rintro e w2 ⟨rfl,hb2⟩
     obtain ⟨hc2,hf2⟩:=gI hb2
     have hw2:Below w.heap.size w w2:=hw1.out.trans (hb2.mono hw1.out.size)
     have hz2:w.heap.size+1<w2.heap.size:=by have:=hb2.size;omega
     have hy2:w.heap.size<w2.heap.size:=by omega
     clear hb2
     replace hw2:=hide hw2
     go_wp2_with fail
     cases hR:aC.okR R
     · skip
       refine (dK R hlR _).mono ?_
       rintro e w3 ⟨rfl,hb3⟩
       obtain ⟨hc3,hf3⟩:=gI hb3
       have hw3:Below w.heap.size w w3:=hw2.out.trans (hb3.mono hw2.out.size)
       have hz3:w.heap.size+1<w3.heap.size:=by have:=hb3.size;omega
       have hy3:w.heap.size<w3.heap.size:=by omega
       clear hb3
       replace hw3:=hide hw3
       go_wp2_with fail
       have g0:w3.cell? ⟨w.heap.size,0,none⟩=some (.string ⟨#[]⟩):=by simp[go_sem, *]
       have g1:w3.cell? ⟨w.heap.size,1,none⟩=some (.string ⟨#[]⟩):=by simp[go_sem, *]
       have g2:w3.cell? ⟨w.heap.size,2,none⟩=some (.string ⟨#[]⟩):=by simp[go_sem, *]
       obtain ⟨q0,q1,q2⟩:=bX g0 g1 g2 (.string ⟨#[]⟩) (.string ⟨#[]⟩) (.string ⟨#[]⟩)
       exact bodyPost_ret (v := .tuple #[zv, .bool false]) (by simp[results,Tryz.results27,go_sem,q0,q1,q2,zv]) rfl (eP (by simp[okV,hR]) rfl (((hw3.out.setCell (Nat.le_refl _) _).setCell (Nat.le_refl _) _).setCell (Nat.le_refl _) _))
     · skip
       refine (dK R hlR _).mono ?_
       rintro e w3 ⟨rfl,hb3⟩
       obtain ⟨hc3,hf3⟩:=gI hb3
       have hw3:Below w.heap.size w w3:=hw2.out.trans (hb3.mono hw2.out.size)
       have hz3:w.heap.size+1<w3.heap.size:=by have:=hb3.size;omega
       have hy3:w.heap.size<w3.heap.size:=by omega
       clear hb3
       replace hw3:=hide hw3
       go_wp2_with fail
       have g0:w3.cell? ⟨w.heap.size,0,none⟩=some (.string ⟨#[]⟩):=by simp[go_sem, *]
       have g1:w3.cell? ⟨w.heap.size,1,none⟩=some (.string ⟨#[]⟩):=by simp[go_sem, *]
       have g2:w3.cell? ⟨w.heap.size,2,none⟩=some (.string ⟨#[]⟩):=by simp[go_sem, *]
       obtain ⟨q0,q1,q2⟩:=bX g0 g1 g2 (.string ⟨E.toArray⟩) (.string ⟨M.toArray⟩) (.string ⟨R.toArray⟩)
       exact bodyPost_ret (v := .tuple #[.agg #[.string ⟨E.toArray⟩, .string ⟨M.toArray⟩, .string ⟨R.toArray⟩], .bool true]) (by simp[results,Tryz.results27,go_sem,q0,q1,q2]) rfl (oV (by simp[okV,hE,hM,hR]) rfl (((hw3.out.setCell (Nat.le_refl _) _).setCell (Nat.le_refl _) _).setCell (Nat.le_refl _) _))
theorem Ij {x:List UInt8} (h0:1≤x.length) (h1:x.length≤24):aC.fine x=okV (aC.eG x).e (aC.eG x).m (aC.eG x).r:=by
 simp[aC.fine,okV,h0,h1]
theorem yT (x:List UInt8) (h0:1≤x.length) (h1:x.length≤24) (w:World) :
   Calls Tryz.prog 27 #[.string ⟨x.toArray⟩] w (Parsed (aC.eG x).e (aC.eG x).m (aC.eG x).r w):=by
 simp only[aC.eG]
 rcases aC.tL x with ⟨a1,a2⟩ | ⟨j,aj,a1,a2⟩
 · rw[a2]
   rcases aC.oL x with ⟨b1,b2⟩ | ⟨k,bk,b1,b2⟩
   · rw[b2];exact P6 x h0 h1 a1 b1 w
   · rw[b2];exact P5 x h0 h1 a1 k bk b1 w
 · rw[a2]
   have Sm:(x.take j).length≤24:=by rw[List.length_take];omega
   have hlm:(x.drop (j+1)).length≤24:=by rw[List.length_drop];omega
   rcases aC.oL (x.drop (j+1)) with ⟨b1,b2⟩ | ⟨k,bk,b1,b2⟩
   · rw[b2];exact PZ x h0 h1 _ _ j aj a1 rfl rfl Sm hlm b1 w
   · rw[b2];exact PY x h0 h1 _ _ j aj a1 rfl rfl Sm hlm k bk b1 w
theorem mh (x:List UInt8) (h:aC.fine x=true) (w:World) :
   Calls Tryz.prog 27 #[.string ⟨x.toArray⟩] w fun e w' =>
     e = .returned (.tuple #[.agg #[.string ⟨(aC.eG x).e.toArray⟩, .string ⟨(aC.eG x).m.toArray⟩, .string ⟨(aC.eG x).r.toArray⟩], .bool true])∧Below w.heap.size w w':=by
 have h0:1≤x.length∧x.length≤24:=by simp[aC.fine] at h;exact ⟨by omega,by omega⟩
 have hv:=(Ij h0.1 h0.2).symm.trans h
 refine (yT x h0.1 h0.2 w).mono fun e w' he => ?_
 obtain ⟨e1,hb⟩:=he
 refine ⟨?_,hb⟩
 rw[e1,hv];simp[pv,hv]
theorem og (x:List UInt8) (h:aC.fine x=false) (w:World) :
   Calls Tryz.prog 27 #[.string ⟨x.toArray⟩] w fun e w' =>
     e = .returned (.tuple #[.agg #[.string ⟨#[]⟩, .string ⟨#[]⟩, .string ⟨#[]⟩], .bool false])∧Below w.heap.size w w':=by
 by_cases h0:1≤x.length∧x.length≤24
 · have hv:=(Ij h0.1 h0.2).symm.trans h
   refine (yT x h0.1 h0.2 w).mono fun e w' he => ?_
   obtain ⟨e1,hb⟩:=he
   refine ⟨?_,hb⟩
   rw[e1,hv];simp[pv,hv,zv]
 · exact Jd ⟨x.toArray⟩ (by show x.length=0∨24<x.length;omega) w
theorem oZ {x:List UInt8} (h:aC.fine x=true):(aC.eG x).e.length≤24∧(aC.eG x).m.length≤24∧(aC.eG x).r.length≤24:=by
 have h0:1≤x.length∧x.length≤24:=by simp[aC.fine] at h;exact ⟨by omega,by omega⟩
 have:=aC.RV x
 have:=aC.Oz x h0.1
 have:=aC.OA (aC.AX x).2
 have:=aC.OB (aC.AX x).2 (by omega)
 simp only[aC.eG];omega
theorem AQ {x y:List UInt8} (hx:aC.fine x=true) (hy:aC.fine y=true):aC.compare x y=(aC.Za (aC.eG x) (aC.eG y),0):=by simp[aC.compare,hx,hy]
theorem vD {x y:List UInt8} (hx:aC.fine x=false):aC.compare x y=(0,2):=by simp[aC.compare,hx]
theorem Fb {x y:List UInt8} (hy:aC.fine y=false):aC.compare x y=(0,2):=by simp[aC.compare,hy]
theorem lQ {w w1 w2:World} {o o':Obj} (h1:Below w.heap.size w w1) (h2:Below (w1.alloc o).heap.size (w1.alloc o) w2):Below w.heap.size w (w2.alloc o'):=by
 have h:=(h1.alloc h1.size o).trans (h2.mono (Nat.le_trans h1.size (by simp)))
 exact h.alloc h.size o'
theorem G6 (x y:List UInt8) (w:World) :
   Calls Tryz.prog 15 #[.string ⟨x.toArray⟩, .string ⟨y.toArray⟩] w fun e w' =>
     e = .returned (.tuple #[.int .i64 (aC.compare x y).1, .int .i64 (aC.compare x y).2])∧Below w.heap.size w w':=by
 cases hx:aC.fine x
 · cases hy:aC.fine y
   · rw[vD hx]
     go_enter Tryz.func15,Tryz.ntmps15
     go_wp2_with fail
     refine (og x hx _).mono ?_
     rintro e w1 ⟨rfl,hb1⟩
     have HB1:=hide hb1;clear hb1
     go_wp2_with fail
     refine (og y hy _).mono ?_
     rintro e w2 ⟨rfl,hb2⟩
     have HB2:=hide hb2;clear hb2
     go_wp2_with fail
     go_ret2
     exact ⟨rfl,lQ HB1.out HB2.out⟩
   · rw[vD hx]
     go_enter Tryz.func15,Tryz.ntmps15
     go_wp2_with fail
     refine (og x hx _).mono ?_
     rintro e w1 ⟨rfl,hb1⟩
     have HB1:=hide hb1;clear hb1
     go_wp2_with fail
     refine (mh y hy _).mono ?_
     rintro e w2 ⟨rfl,hb2⟩
     have HB2:=hide hb2;clear hb2
     go_wp2_with fail
     go_ret2
     exact ⟨rfl,lQ HB1.out HB2.out⟩
 · cases hy:aC.fine y
   · rw[Fb hy]
     go_enter Tryz.func15,Tryz.ntmps15
     go_wp2_with fail
     refine (mh x hx _).mono ?_
     rintro e w1 ⟨rfl,hb1⟩
     have HB1:=hide hb1;clear hb1
     go_wp2_with fail
     refine (og y hy _).mono ?_
     rintro e w2 ⟨rfl,hb2⟩
     have HB2:=hide hb2;clear hb2
     go_wp2_with fail
     go_ret2
     exact ⟨rfl,lQ HB1.out HB2.out⟩
   · rw[AQ hx hy]
     obtain ⟨l1,l2,l3⟩:=oZ hx
     obtain ⟨l4,l5,l6⟩:=oZ hy
     go_enter Tryz.func15,Tryz.ntmps15
     go_wp2_with fail
     refine (mh x hx _).mono ?_
     rintro e w1 ⟨rfl,hb1⟩
     have HB1:=hide hb1;clear hb1
     go_wp2_with fail
     refine (mh y hy _).mono ?_
     rintro e w2 ⟨rfl,hb2⟩
     obtain ⟨hc2,hf2⟩:=gI hb2
     have hz2:w1.heap.size<w2.heap.size:=by have:=hb2.size;simp at this;omega
     have HB2:=hide hb2;clear hb2
     go_wp2_with fail
     refine (JZ _ _ _ _ _ _ l1 l2 l3 l4 l5 l6 _).mono ?_
     rintro e w3 ⟨rfl,hb3⟩
     have HB3:=hide hb3;clear hb3
     go_wp2_with fail
     go_ret2
     exact ⟨rfl,(lQ HB1.out HB2.out).trans (HB3.out.mono (lQ HB1.out HB2.out).size)⟩
end
namespace Wd
open aC
def low (c:UInt8):Bool:=decide (97≤(c.toNat:Int))&&decide ((c.toNat:Int)≤122)
def nmS (c:UInt8):Bool:=low c||(decide (48≤(c.toNat:Int))&&decide ((c.toNat:Int)≤57))||(c.toNat:Int)==45
def paS (c:UInt8):Bool:=nmS c||(c.toNat:Int)==46||(c.toNat:Int)==47
def woS (c:UInt8):Bool:=decide (33≤(c.toNat:Int))&&decide ((c.toNat:Int)≤126)
def gM (x:List UInt8) (a b:Nat):Bool:=decide (a≤x.length)&&decide (x.length≤b)
def jS (f:UInt8→Bool):List UInt8→Bool
 | []=>false
 | c::_=>f c
def isName (x:List UInt8):Bool:=gM x 1 12&&jS low x&&p8 nmS x
def isWord (x:List UInt8):Bool:=gM x 1 16&&p8 woS x
def under (x:List UInt8):Bool:=Lib.hasPrefix x [47,118,97,114,47]
def dbl (x:List UInt8):Bool:=Lib.contains x [47,47]
def lastOf (x:List UInt8):UInt8:=x.getLastD 0
def bL (x:List UInt8):Bool:=gM x 2 24&&jS (fun c=>(c.toNat:Int)==47) x&&(lastOf x != 47) && !dbl x&&p8 paS x
def isVar (x:List UInt8):Bool:=bL x&&under x
end Wd
section
open Go.RowKit
theorem qN (c:UInt8) (w:World) :
   Calls Tryz.prog 271 #[.int .u8 c.toNat] w fun e w'=>e = .returned (.bool (Wd.low c))∧w'=w:=by
 go_enter Tryz.func271,Tryz.ntmps271
 go_wp2
 all_goals (go_ret;exact ⟨fq (by simp[Wd.low];try omega),rfl⟩)
theorem EP (c:UInt8) (w:World) :
   Calls Tryz.prog 272 #[.int .u8 c.toNat] w fun e w'=>e = .returned (.bool (Wd.nmS c))∧w'=w:=by
 go_enter Tryz.func272,Tryz.ntmps272
 go_wp2_with (go_at_call 271;refine (qN c _).mono ?_;rintro e w' ⟨rfl,rfl⟩)
 all_goals (go_ret;exact ⟨fq (by simp[Wd.nmS, *];try omega),rfl⟩)
theorem QG (c:UInt8) (w:World) :
   Calls Tryz.prog 266 #[.int .u8 c.toNat] w fun e w'=>e = .returned (.bool (Wd.paS c))∧w'=w:=by
 go_enter Tryz.func266,Tryz.ntmps266
 go_wp2_with (go_at_call 272;refine (EP c _).mono ?_;rintro e w' ⟨rfl,rfl⟩)
 all_goals (go_ret;exact ⟨fq (by simp[Wd.paS, *]),rfl⟩)
theorem QH (c:UInt8) (w:World) :
   Calls Tryz.prog 317 #[.int .u8 c.toNat] w fun e w'=>e = .returned (.bool (Wd.woS c))∧w'=w:=by
 go_enter Tryz.func317,Tryz.ntmps317
 go_wp2
 all_goals (go_ret;exact ⟨fq (by simp[Wd.woS];try omega),rfl⟩)
theorem iH (x:List UInt8) (a b:Nat) (w:World) :
   Calls Tryz.prog 264 #[.string ⟨x.toArray⟩, .int .i64 a, .int .i64 b] w fun e w'=>e = .returned (.bool (Wd.gM x a b))∧w'=w:=by
 go_enter Tryz.func264,Tryz.ntmps264
 go_wp2
 all_goals (go_ret;exact ⟨fq (by simp[Wd.gM];try omega),rfl⟩)
theorem Fw (args:Array Value) (w:World):(callFunc 272 args).run Tryz.prog w = .ok (.enter 272 args) w :=
 enters Tryz.func272 (by kernel_rfl) rfl args w
theorem Fx (args:Array Value) (w:World):(callFunc 266 args).run Tryz.prog w = .ok (.enter 266 args) w :=
 enters Tryz.func266 (by kernel_rfl) rfl args w
theorem Fy (args:Array Value) (w:World):(callFunc 317 args).run Tryz.prog w = .ok (.enter 317 args) w :=
 enters Tryz.func317 (by kernel_rfl) rfl args w
theorem Aj (g:Nat) (f:UInt8→Bool) (he:∀ args w,(callFunc g args).run Tryz.prog w = .ok (.enter g args) w)
   (hg:∀ (c:UInt8) (w:World),Calls Tryz.prog g #[.int .u8 c.toNat] w fun e w'=>e = .returned (.bool (f c))∧w'=w)
   (x:List UInt8) (hx:x.length≤2000) (w:World) :
   Calls Tryz.prog 100 #[.string ⟨x.toArray⟩, .func (.func g) #[] #[]] w fun e w'=>e = .returned (.bool (aC.p8 f x))∧Below w.heap.size w w' :=
 MZ g f he hg ⟨x.toArray⟩ (by simp[ByteArray.size];omega) w
theorem Bz (x:List UInt8) (hx:x.length≤2000) (w:World) :
   Calls Tryz.prog 315 #[.string ⟨x.toArray⟩] w fun e w'=>e = .returned (.bool (Wd.isWord x))∧Below w.heap.size w w':=by
 cases h:Wd.gM x 1 16
 · have e1:Wd.isWord x=false:=by simp[Wd.isWord,h]
   rw[e1]
   go_enter Tryz.func315,Tryz.ntmps315
   go_wp2_with (go_at_call 264;refine (iH x 1 16 _).mono ?_;rintro e w' ⟨rfl,rfl⟩)
   go_ret
   exact ⟨rfl,Below.refl _ _⟩
 · have e1:Wd.isWord x=aC.p8 Wd.woS x:=by simp[Wd.isWord,h]
   rw[e1]
   go_enter Tryz.func315,Tryz.ntmps315
   go_wp2_with (first
     | (go_at_call 264;refine (iH x 1 16 _).mono ?_;rintro e w' ⟨rfl,rfl⟩)
     | (go_at_call 100;refine (Aj _ _ Fy QH x hx _).mono ?_;rintro e w' ⟨rfl,hb⟩))
   go_ret
   exact ⟨rfl,hb⟩
theorem jh (x:List UInt8) (hx:x.length≤2000) (w:World) :
   Calls Tryz.prog 222 #[.string ⟨x.toArray⟩] w fun e w'=>e = .returned (.bool (Wd.isName x))∧Below w.heap.size w w':=by
 cases h:Wd.gM x 1 12
 · have e1:Wd.isName x=false:=by simp[Wd.isName,h]
   rw[e1]
   go_enter Tryz.func222,Tryz.ntmps222
   go_wp2_with (go_at_call 264;refine (iH x 1 12 _).mono ?_;rintro e w' ⟨rfl,rfl⟩)
   go_ret
   exact ⟨rfl,Below.refl _ _⟩
 · have hpos:0<x.length:=by simp[Wd.gM] at h;omega
   obtain ⟨c,hc,hcx⟩:∃ c,(⟨x.toArray⟩:ByteArray)[0]'hpos=c∧Wd.jS Wd.low x=Wd.low c:=by
     cases x with
     | nil=>simp at hpos
     | cons c l=>exact ⟨c,rfl,rfl⟩
   have HCX:=hide hcx;clear hcx
   cases hl:Wd.low c
   · have e1:Wd.isName x=false:=by simp[Wd.isName,HCX.out,hl]
     rw[e1]
     go_enter Tryz.func222,Tryz.ntmps222
     go_wp2_with (first
       | (go_at_call 264;refine (iH x 1 12 _).mono ?_;rintro e w' ⟨rfl,rfl⟩)
       | (go_at_call 271;refine (qN c _).mono ?_;rintro e w' ⟨rfl,rfl⟩))
     go_ret
     exact ⟨rfl,Below.refl _ _⟩
   · have e1:Wd.isName x=aC.p8 Wd.nmS x:=by simp[Wd.isName,HCX.out,hl,h]
     rw[e1]
     go_enter Tryz.func222,Tryz.ntmps222
     go_wp2_with (first
       | (go_at_call 264;refine (iH x 1 12 _).mono ?_;rintro e w' ⟨rfl,rfl⟩)
       | (go_at_call 271;refine (qN c _).mono ?_;rintro e w' ⟨rfl,rfl⟩)
       | (go_at_call 100;refine (Aj _ _ Fw EP x hx _).mono ?_;rintro e w' ⟨rfl,hb⟩))
     go_ret
     exact ⟨rfl,hb⟩
theorem QE (x:List UInt8) (w:World) :
   Calls Tryz.prog 180 #[.string ⟨x.toArray⟩, .string ⟨#[47,118,97,114,47]⟩] w fun e w'=>e = .returned (.bool (Wd.under x))∧w'=w :=
 Tryz.strings_HasPrefix ⟨x.toArray⟩ ⟨#[47,118,97,114,47]⟩ w
theorem M7 (x:List UInt8) (hx:x.length≤2000) (mx:Int) (w:World) (hm:w.cell? ⟨3,0,none⟩=some (.int .i64 mx)) :
   Calls Tryz.prog 265 #[.string ⟨x.toArray⟩, .string ⟨#[47,47]⟩] w fun e w'=>e = .returned (.bool (Wd.dbl x))∧w'=w :=
 Tryz.strings_Contains ⟨x.toArray⟩ ⟨#[47,47]⟩ mx w (by simp[ByteArray.size];omega) hm
theorem lC (x:List UInt8) (w:World) :
   Calls Tryz.prog 214 #[.string ⟨x.toArray⟩] w fun e w'=>e = .returned (.bool (Wd.under x))∧w'=w:=by
 go_enter Tryz.func214,Tryz.ntmps214
 go_wp2_with (go_at_call 180;refine (QE x _).mono ?_;rintro e w' ⟨rfl,rfl⟩)
 go_ret
 exact ⟨rfl,rfl⟩
theorem Wj {x:List UInt8} (h:2≤x.length):∃ c d,(⟨x.toArray⟩:ByteArray)[0]'(by show 0<x.length;omega)=c∧(⟨x.toArray⟩:ByteArray)[x.length-1]'(by show x.length-1<x.length;omega)=d∧(∀ f,Wd.jS f x=f c)∧Wd.lastOf x=d:=by
 refine ⟨_,_,rfl,rfl,?_,?_⟩
 · intro f
   cases x with
   | nil=>simp at h
   | cons c l=>rfl
 · have hne:x≠[]:=by rintro rfl;simp at h
   rw[Wd.lastOf,List.getLastD_eq_getLast?,List.getLast?_eq_getElem?]
   have:x.length-1<x.length:=by omega
   simp[this];rfl
theorem iA (x:List UInt8) (hx:x.length≤2000) (mx:Int) (w:World) (hm:w.cell? ⟨3,0,none⟩=some (.int .i64 mx)) :
   Calls Tryz.prog 213 #[.string ⟨x.toArray⟩] w fun e w'=>e = .returned (.bool (Wd.bL x))∧Below w.heap.size w w':=by
 have HM:=hide hm;clear hm
 cases h:Wd.gM x 2 24
 · have e1:Wd.bL x=false:=by simp[Wd.bL,h]
   rw[e1]
   go_enter Tryz.func213,Tryz.ntmps213
   go_wp2_with (go_at_call 264;refine (iH x 2 24 _).mono ?_;rintro e w' ⟨rfl,rfl⟩)
   go_ret
   exact ⟨rfl,Below.refl _ _⟩
 · have h2:2≤x.length:=by simp[Wd.gM] at h;omega
   have h2':(1:Int)≤x.length:=by omega
   obtain ⟨c,d,hc,hd,hhead,hlast⟩:=Wj h2
   have HH:=hide hhead;have HL:=hide hlast
   clear hhead hlast
   have hc':(c.toNat:Int)=47 ↔ c=47:=by rw[← UInt8.toNat_inj];show _ ↔ c.toNat=47;omega
   have hd':(d.toNat:Int)=47 ↔ d=47:=by rw[← UInt8.toNat_inj];show _ ↔ d.toNat=47;omega
   by_cases hc0:(c.toNat:Int)=47
   · by_cases hd0:(d.toNat:Int)=47
     · have e1:Wd.bL x=false:=by simp[Wd.bL,HL.out,hd'.1 hd0]
       rw[e1]
       have b1:((c.toNat:Int)==47)=true:=by simp[hc0]
       have b2:((d.toNat:Int) != 47)=false:=by simp[hd0]
       clear hc' hd' hc0 hd0 e1
       go_enter Tryz.func213,Tryz.ntmps213
       go_wp2_with (go_at_call 264;refine (iH x 2 24 _).mono ?_;rintro e w' ⟨rfl,rfl⟩)
       go_ret
       exact ⟨rfl,Below.refl _ _⟩
     · have b1:((c.toNat:Int)==47)=true:=by simp[hc0]
       have b2:((d.toNat:Int) != 47)=true:=by simp[hd0]
       have e0:Wd.bL x=(!Wd.dbl x&&aC.p8 Wd.paS x):=by
         have hb:(d != 47)=true:=bne_iff_ne.2 fun e=>hd0 (hd'.2 e)
         simp only[Wd.bL,HL.out,HH.out,h,hc0,hb,Bool.true_and,beq_self_eq_true]
       rw[e0]
       clear hc' hd' hc0 hd0 e0
       cases hdb:Wd.dbl x
       · go_enter Tryz.func213,Tryz.ntmps213
         go_wp2_with (first
           | (go_at_call 264;refine (iH x 2 24 _).mono ?_;rintro e w' ⟨rfl,rfl⟩)
           | (go_at_call 265;refine (M7 x hx mx _ HM.out).mono ?_;rintro e w' ⟨rfl,rfl⟩)
           | (go_at_call 100;refine (Aj _ _ Fx QG x hx _).mono ?_;rintro e w' ⟨rfl,hb⟩))
         go_ret
         exact ⟨fq (by simp),hb⟩
       · go_enter Tryz.func213,Tryz.ntmps213
         go_wp2_with (first
           | (go_at_call 264;refine (iH x 2 24 _).mono ?_;rintro e w' ⟨rfl,rfl⟩)
           | (go_at_call 265;refine (M7 x hx mx _ HM.out).mono ?_;rintro e w' ⟨rfl,rfl⟩))
         go_ret
         exact ⟨fq (by simp),Below.refl _ _⟩
   · have e1:Wd.bL x=false:=by simp[Wd.bL,HH.out,hc0]
     rw[e1]
     have b1:((c.toNat:Int)==47)=false:=by simp[hc0]
     clear hc' hd' hc0 e1
     go_enter Tryz.func213,Tryz.ntmps213
     go_wp2_with (go_at_call 264;refine (iH x 2 24 _).mono ?_;rintro e w' ⟨rfl,rfl⟩)
     go_ret
     exact ⟨rfl,Below.refl _ _⟩
theorem gQ (x:List UInt8) (hx:x.length≤2000) (mx:Int) (w:World) (hm:w.cell? ⟨3,0,none⟩=some (.int .i64 mx)) :
   Calls Tryz.prog 160 #[.string ⟨x.toArray⟩] w fun e w'=>e = .returned (.bool (Wd.isVar x))∧Below w.heap.size w w':=by
 have HM:=hide hm;clear hm
 cases h:Wd.bL x
 · have e1:Wd.isVar x=false:=by simp[Wd.isVar,h]
   rw[e1]
   go_enter Tryz.func160,Tryz.ntmps160
   go_wp2_with (go_at_call 213;refine (iA x hx mx _ HM.out).mono ?_;rintro e w' ⟨rfl,hb⟩)
   go_ret
   exact ⟨rfl,hb⟩
 · have e1:Wd.isVar x=Wd.under x:=by simp[Wd.isVar,h]
   rw[e1]
   go_enter Tryz.func160,Tryz.ntmps160
   go_wp2_with (first
     | (go_at_call 213;refine (iA x hx mx _ HM.out).mono ?_;rintro e w' ⟨rfl,hb⟩)
     | (go_at_call 214;refine (lC x _).mono ?_;rintro e w' ⟨rfl,rfl⟩))
   go_ret
   exact ⟨rfl,hb⟩
end
namespace aC
def val (l:List UInt8):Int:=l.foldl (fun a c=>10*a+((c.toNat:Int)-48)) 0
def vr:List UInt8→Int
 | []=>0
 | c::l=>((c.toNat:Int)-48)*10^l.length+vr l
theorem Us (l:List UInt8):∀ a:Int,l.foldl (fun a c=>10*a+((c.toNat:Int)-48)) a=a*10^l.length+vr l:=by
 induction l with
 | nil=>intro a;simp[vr]
 | cons c l ih =>
   intro a
   rw[List.foldl_cons,ih,vr,List.length_cons,Int.pow_succ]
   generalize (10:Int)^l.length=p
   rw[Int.add_mul,Int.mul_assoc,Int.mul_left_comm,Int.mul_comm p 10]
   omega
theorem aau (l:List UInt8):val l=vr l:=by rw[val,Us];simp
theorem Z4 {c:UInt8} (h:j5 c=true):48≤(c.toNat:Int)∧(c.toNat:Int)≤57:=by
 simpa [j5] using h
theorem TP (n:Nat):0<(10:Int)^n:=Int.pow_pos (by decide)
theorem Yt:∀ l:List UInt8,(∀ c∈l,j5 c=true)→0≤vr l∧vr l<10^l.length
 | [],_=>by simp[vr]
 | c::l,h=>by
   have ih:=Yt l fun x hx=>h x (by simp[hx])
   have hc:=Z4 (h c (by simp))
   have hp:=TP l.length
   simp only[vr,List.length_cons,Int.pow_succ]
   generalize (10:Int)^l.length=p at *
   generalize (c.toNat:Int)=n at *
   have h1:0≤(n-48)*p:=Int.mul_nonneg (by omega) (by omega)
   have h2:(n-48)*p≤9*p:=Int.mul_le_mul_of_nonneg_right (by omega) (by omega)
   omega
end aC
section
open Go.RowKit
def sz (x:List UInt8):Int:=if Wd.gM x 1 4=true ∧ ¬ (Wd.jS (fun c=>(c.toNat:Int)==48) x=true∧1<x.length)∧x.all aC.j5=true then aC.val x else -1
def spl:List UInt8→List (List UInt8)
 | []=>[[]]
 | c::l=>if c=32 then []::spl l else match spl l with
   | []=>[[c]]
   | h::t=>(c::h)::t
def strs (l:List (List UInt8)):List Value:=l.map fun x => .string ⟨x.toArray⟩
theorem gL:(Tryz.prog.info? 9).map (fun i=>(i.zero,i.size,i.bytes))=some (some (.string ByteArray.empty),1,16):=by kernel_rfl
def WS (x:List UInt8) (k f:Nat) (p:List (List UInt8)):Prop :=
 p.length≤k∧((k≤x.length∧f≤k∧spl x=p++spl (x.drop f)∧((x.drop f).take (k-f)).all (fun c=>c != 32)=true)∨(k=x.length+1∧spl x=p))
theorem PO {w:World} {base:Nat} {t:TypeId} {v:Value} {n:Nat} {xs:List Value} (h:w.ownsRow base t 1 v n xs) (hn:0<n):∃ g cap,v = .slice (some ⟨g,0,none⟩) n cap:=by
 rcases h.2 with ⟨_,h⟩ | ⟨g,cap,_,h,_⟩
 · omega
 · exact ⟨g,cap,h⟩
end
end Go.Proofs.YtialenebfcnkkaaGreatDoor
