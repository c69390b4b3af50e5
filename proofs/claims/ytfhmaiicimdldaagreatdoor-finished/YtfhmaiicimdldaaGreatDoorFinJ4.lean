import Derived.Test.YtfhmaiicimdldaaGreatDoorFinJ3
set_option maxHeartbeats 2000000
set_option maxRecDepth 100000
namespace Go.Proofs.YtfhmaiicimdldaaGreatDoor
variable {w w' w1:World}{E M R x y:List UInt8}{a b:Obj}
section
open Go.RowKit
variable {e:Ending}
theorem ZG(x:List UInt8) (w:World) :
 Calls Tryz.prog 168 #[.string ⟨x.toArray⟩, .string ⟨#[58]⟩] w fun e w'=>e = .returned (.int .i64 (Lib.indexByte x 58))/\w'=w:=by
 by_cases h:x=[58]
 · subst h;go_enter Tryz.func168,Tryz.ntmps168
   go_wp2
   go_ret;exact ⟨Ny (by decide),rfl⟩
 · have hne:([58]==x)=false:=by simpa using fun h'=>h (by simpa using h'.symm)
   go_enter Tryz.func168,Tryz.ntmps168;go_wp2_with (go_at_call 220;refine (Tryz.stringslite_IndexByte ⟨x.toArray⟩ 58 _).mono ?_;rintro e w' ⟨rfl,rfl⟩)
   go_ret;exact ⟨rfl,rfl⟩
theorem akP{a b c d:ByteArray} {z:Bool} (h:a=b) (k:c=d):Ending.returned (.tuple #[.string a, .string c, .bool z]) = .returned (.tuple #[.string b, .string d, .bool z]):=by rw[h,k]
theorem Mx(x:List UInt8) (k:Nat):(⟨x.toArray⟩:ByteArray).extract 0 k=⟨(x.take k).toArray⟩:=RA ⟨x.toArray⟩ k
theorem Mw(x:List UInt8) (k:Nat):(⟨x.toArray⟩:ByteArray).extract k x.length=⟨(x.drop k).toArray⟩:=Uz ⟨x.toArray⟩ k
theorem akr(x:List UInt8) (h1:Lib.indexByte x 58 = -1) (w:World) :
 Calls Tryz.prog 103 #[.string ⟨x.toArray⟩, .string ⟨#[58]⟩] w fun e w' =>
  e = .returned (.tuple #[.string ⟨x.toArray⟩, .string ⟨#[]⟩, .bool false])/\w'=w:=by
 go_enter Tryz.func103,Tryz.ntmps103;go_wp2_with (go_at_call 168;refine (ZG x _).mono ?_;rintro e w' ⟨rfl,rfl⟩)
 go_ret3
 exact ⟨rfl,rfl⟩
theorem aiC(x:List UInt8) (k:Nat) (hk:k<x.length) (hx:x.length<=24) (h1:Lib.indexByte x 58=k) (w:World) :
 Calls Tryz.prog 103 #[.string ⟨x.toArray⟩, .string ⟨#[58]⟩] w fun e w' =>
  e = .returned (.tuple #[.string ⟨(x.take k).toArray⟩, .string ⟨(x.drop (k+1)).toArray⟩, .bool true])/\w'=w.drew:=by
 have c1:(0:Int) <= ↑k:=by omega
 have c2:(↑k:Int) <= ↑x.length:=by omega
 have c3:(↑k:Int)+1 <= ↑x.length:=by omega
 go_enter Tryz.func103,Tryz.ntmps103;go_wp2_with (go_at_call 168;refine (ZG x _).mono ?_;rintro e w' ⟨rfl,rfl⟩)
 go_region
 all_goals (go_wp2;go_ret3;exact ⟨akP (Mx x k) (Mw x (k+1)),rfl⟩)
theorem aic(x:List UInt8) (h1:Lib.indexByte x 58 = -1) (w:World) :
 Calls Tryz.prog 52 #[.string ⟨x.toArray⟩, .string ⟨#[58]⟩] w fun e w' =>
  e = .returned (.tuple #[.string ⟨x.toArray⟩, .string ⟨#[]⟩, .bool false])/\w'=w:=by
 go_enter Tryz.func52,Tryz.ntmps52;go_wp2_with (go_at_call 103;refine (akr x h1 _).mono ?_;rintro e w' ⟨rfl,rfl⟩)
 go_ret3
 exact ⟨rfl,rfl⟩
theorem aj4(x:List UInt8) (k:Nat) (hk:k<x.length) (hx:x.length<=24) (h1:Lib.indexByte x 58=k) (w:World) :
 Calls Tryz.prog 52 #[.string ⟨x.toArray⟩, .string ⟨#[58]⟩] w fun e w' =>
  e = .returned (.tuple #[.string ⟨(x.take k).toArray⟩, .string ⟨(x.drop (k+1)).toArray⟩, .bool true])/\w'=w.drew:=by
 go_enter Tryz.func52,Tryz.ntmps52;go_wp2_with (go_at_call 103;refine (aiC x k hk hx h1 _).mono ?_;rintro e w' ⟨rfl,rfl⟩)
 go_ret3
 exact ⟨rfl,rfl⟩
theorem UG(x:List UInt8) (hx:x.length<=24) (w:World) :
 Calls Tryz.prog 53 #[.string ⟨x.toArray⟩, .int .u8 45] w fun e w'=>e = .returned (.int .i64 (Lib.lastIndexByte ⟨x.toArray⟩ 45))/\w'=w :=
 Tryz.strings_LastIndexByte ⟨x.toArray⟩ 45 (by simp[ByteArray.size];omega) w
def zv:Value := .agg #[.string ⟨#[]⟩, .string ⟨#[]⟩, .string ⟨#[]⟩]
theorem acN(s:ByteArray) (h:s.size=0\/24<s.size) (w:World) :
 Calls Tryz.prog 31 #[.string s] w fun e w'=>e = .returned (.tuple #[zv, .bool false])/\Below w.heap.size w w':=by
 rcases h with h | h
 · have hs:(s.size:Int)<1:=by omega
   clear h;go_enter Tryz.func31,Tryz.ntmps31
   go_wp2
   exact IH (v := .tuple #[zv, .bool false]) (by simp[results,Tryz.results31,go_sem,zv]) rfl ⟨rfl,(AD _ _).alloc (AC _) _⟩
 · have hs : ¬ (s.size:Int)<1:=by omega
   have hs':(24:Int)<s.size:=by omega
   clear h;go_enter Tryz.func31,Tryz.ntmps31
   go_wp2
   exact IH (v := .tuple #[zv, .bool false]) (by simp[results,Tryz.results31,go_sem,zv]) rfl ⟨rfl,(AD _ _).alloc (AC _) _⟩
theorem MX{W:World} (hb:Below W.heap.size W w1):(∀ b o,b<W.heap.size->w1.cell? ⟨b,o,none⟩=W.cell? ⟨b,o,none⟩)/\(∀ b o,b<W.heap.size->w1.frozen? ⟨b,o,none⟩=W.frozen? ⟨b,o,none⟩) :=
 ⟨fun b o h=>hb.cell (p:=⟨b,o,none⟩) h,fun b o h=>hb.frozen (p:=⟨b,o,none⟩) h⟩
theorem abY(x E m:List UInt8) (k:Nat) (hk:k<x.length) (hx:x.length<=24) (h1:Lib.indexByte x 58=k) (hE:x.take k=E) (hm:x.drop (k+1)=m) (w:World) :
 Calls Tryz.prog 52 #[.string ⟨x.toArray⟩, .string ⟨#[58]⟩] w fun e w' =>
  e = .returned (.tuple #[.string ⟨E.toArray⟩, .string ⟨m.toArray⟩, .bool true])/\w'=w.drew:=by
 subst hE hm;exact aj4 x k hk hx h1 w
def okV (E M R:List UInt8):Bool:=J8.okE E&&J8.okM M&&J8.okR R
def pv (E M R:List UInt8):Value:=if okV E M R=true then .agg #[.string ⟨E.toArray⟩, .string ⟨M.toArray⟩, .string ⟨R.toArray⟩] else zv
def Parsed (E M R:List UInt8) (w:World):Ending->World->Prop:=fun e w'=>e = .returned (.tuple #[pv E M R, .bool (okV E M R)])/\Below w.heap.size w w'
theorem Mi(h:okV E M R=false) (he:e = .returned (.tuple #[zv, .bool false])) (hb:Below w.heap.size w w'):Parsed E M R w e w':=by
 refine ⟨?_,hb⟩;rw[he,h];simp[pv,h]
theorem QU(h:okV E M R=true) (he:e = .returned (.tuple #[.agg #[.string ⟨E.toArray⟩, .string ⟨M.toArray⟩, .string ⟨R.toArray⟩], .bool true])) (hb:Below w.heap.size w w'):Parsed E M R w e w':=by
 refine ⟨?_,hb⟩;rw[he,h];simp[pv,h]
theorem Ld{b:Nat} {x y z:Value} (h0:w.cell? ⟨b,0,none⟩=some x) (h1:w.cell? ⟨b,1,none⟩=some y) (h2:w.cell? ⟨b,2,none⟩=some z) (a1 a2 a3:Value) :
 (((w.setCell ⟨b,0,none⟩ a1).setCell ⟨b,1,none⟩ a2).setCell ⟨b,2,none⟩ a3).cell? ⟨b,0,none⟩=some a1 /\
 (((w.setCell ⟨b,0,none⟩ a1).setCell ⟨b,1,none⟩ a2).setCell ⟨b,2,none⟩ a3).cell? ⟨b,1,none⟩=some a2 /\
 (((w.setCell ⟨b,0,none⟩ a1).setCell ⟨b,1,none⟩ a2).setCell ⟨b,2,none⟩ a3).cell? ⟨b,2,none⟩=some a3:=by
 refine ⟨?_,?_,?_⟩
 · rw[Fo _ _ _ _ (by simp),Fo _ _ _ _ (by simp)];exact World.cell?_setCell_same _ _ _ h0
 · rw[Fo _ _ _ _ (by simp)];exact World.cell?_setCell_same _ _ _ ((Fo _ _ _ _ (by simp)).trans h1)
 · exact World.cell?_setCell_same _ _ _ ((Fo _ _ _ _ (by simp)).trans ((Fo _ _ _ _ (by simp)).trans h2))
theorem NV(h:Below ((w.alloc a).alloc b).heap.size ((w.alloc a).alloc b) w1):Below w.heap.size w w1 :=
 (((AD _ _).alloc (AC _) _).alloc (by simp) _).trans (h.mono (by simp;omega))
theorem MN(h:Below ((w.alloc a).alloc b).drew.heap.size ((w.alloc a).alloc b).drew w1):Below w.heap.size w w1 :=
 (((AD _ _).alloc (AC _) _).alloc (by simp) _).drew.trans (h.mono (by simp;omega))
theorem Mk(h:Below ((w.alloc a).alloc b).drew.drew.heap.size ((w.alloc a).alloc b).drew.drew w1):Below w.heap.size w w1 :=
 (((AD _ _).alloc (AC _) _).alloc (by simp) _).drew.drew.trans (h.mono (by simp;omega))
theorem agZ(x:List UInt8) (hx0:1<=x.length) (hx:x.length<=24) (h1:Lib.indexByte x 58 = -1) (h2:Lib.lastIndexByte ⟨x.toArray⟩ 45 = -1) (w:World) :
 Calls Tryz.prog 31 #[.string ⟨x.toArray⟩] w (Parsed [48] x [48] w):=by
 have hs : ¬ (x.length:Int)<1:=by omega
 have hs' : ¬ (24:Int)<x.length:=by omega
 go_enter Tryz.func31,Tryz.ntmps31;go_wp2_with (first
  | (go_at_call 52;refine (aic _ h1 _).mono ?_;rintro e w' ⟨rfl,rfl⟩)
  | (go_at_call 53;refine (UG _ hx _).mono ?_;rw[h2];rintro e w' ⟨rfl,rfl⟩))
 clear hs hs';cases hE:J8.okE [48]
 · skip
   refine (MP [48] (by decide) _).mono ?_;rintro e w1 ⟨rfl,hb1⟩;obtain ⟨hc1,aS⟩:=MX hb1;have hw1:Below w.heap.size w w1:=by first | exact NV hb1 | exact MN hb1 | exact Mk hb1
   have hz1:w.heap.size+1<w1.heap.size:=by have:=hb1.size;simp at this;omega
   have hy1:w.heap.size<w1.heap.size:=by omega
   clear hb1
   replace hw1:=JY hw1
   go_wp2_with fail;have g0:w1.cell? ⟨w.heap.size,0,none⟩=some (.string ⟨#[]⟩):=by simp[go_sem, *]
   have g1:w1.cell? ⟨w.heap.size,1,none⟩=some (.string ⟨#[]⟩):=by simp[go_sem, *]
   have g2:w1.cell? ⟨w.heap.size,2,none⟩=some (.string ⟨#[]⟩):=by simp[go_sem, *]
   obtain ⟨q0,q1,q2⟩:=Ld g0 g1 g2 (.string ⟨#[]⟩) (.string ⟨#[]⟩) (.string ⟨#[]⟩);exact IH (v := .tuple #[zv, .bool false]) (by simp[results,Tryz.results31,go_sem,q0,q1,q2,zv]) rfl (Mi (by simp[okV,hE]) rfl (((hw1.out.setCell (AC _) _).setCell (AC _) _).setCell (AC _) _))
 · skip
   refine (MP [48] (by decide) _).mono ?_;rintro e w1 ⟨rfl,hb1⟩;obtain ⟨hc1,aS⟩:=MX hb1;have hw1:Below w.heap.size w w1:=by first | exact NV hb1 | exact MN hb1 | exact Mk hb1
   have hz1:w.heap.size+1<w1.heap.size:=by have:=hb1.size;simp at this;omega
   have hy1:w.heap.size<w1.heap.size:=by omega
   clear hb1
   replace hw1:=JY hw1
   go_wp2_with fail;cases hM:J8.okM x
   · skip
     refine (Nk x hx _).mono ?_;rintro e w2 ⟨rfl,hb2⟩;obtain ⟨hc2,hf2⟩:=MX hb2;have hw2:Below w.heap.size w w2:=hw1.out.trans (hb2.mono hw1.out.size);have hz2:w.heap.size+1<w2.heap.size:=by have:=hb2.size;omega
     have hy2:w.heap.size<w2.heap.size:=by omega
     clear hb2
     replace hw2:=JY hw2
     go_wp2_with fail;have g0:w2.cell? ⟨w.heap.size,0,none⟩=some (.string ⟨#[]⟩):=by simp[go_sem, *]
     have g1:w2.cell? ⟨w.heap.size,1,none⟩=some (.string ⟨#[]⟩):=by simp[go_sem, *]
     have g2:w2.cell? ⟨w.heap.size,2,none⟩=some (.string ⟨#[]⟩):=by simp[go_sem, *]
     obtain ⟨q0,q1,q2⟩:=Ld g0 g1 g2 (.string ⟨#[]⟩) (.string ⟨#[]⟩) (.string ⟨#[]⟩);exact IH (v := .tuple #[zv, .bool false]) (by simp[results,Tryz.results31,go_sem,q0,q1,q2,zv]) rfl (Mi (by simp[okV,hM]) rfl (((hw2.out.setCell (AC _) _).setCell (AC _) _).setCell (AC _) _))
   · skip
     refine (Nk x hx _).mono ?_;rintro e w2 ⟨rfl,hb2⟩;obtain ⟨hc2,hf2⟩:=MX hb2;have hw2:Below w.heap.size w w2:=hw1.out.trans (hb2.mono hw1.out.size);have hz2:w.heap.size+1<w2.heap.size:=by have:=hb2.size;omega
     have hy2:w.heap.size<w2.heap.size:=by omega
     clear hb2
     replace hw2:=JY hw2
     go_wp2_with fail;cases hR:J8.okR [48]
     · skip
       refine (LK [48] (by decide) _).mono ?_;rintro e w3 ⟨rfl,hb3⟩;obtain ⟨hc3,hf3⟩:=MX hb3;have hw3:Below w.heap.size w w3:=hw2.out.trans (hb3.mono hw2.out.size);have hz3:w.heap.size+1<w3.heap.size:=by have:=hb3.size;omega
       have rM:w.heap.size<w3.heap.size:=by omega
       clear hb3
       replace hw3:=JY hw3
       go_wp2_with fail;have g0:w3.cell? ⟨w.heap.size,0,none⟩=some (.string ⟨#[]⟩):=by simp[go_sem, *]
       have g1:w3.cell? ⟨w.heap.size,1,none⟩=some (.string ⟨#[]⟩):=by simp[go_sem, *]
       have g2:w3.cell? ⟨w.heap.size,2,none⟩=some (.string ⟨#[]⟩):=by simp[go_sem, *]
       obtain ⟨q0,q1,q2⟩:=Ld g0 g1 g2 (.string ⟨#[]⟩) (.string ⟨#[]⟩) (.string ⟨#[]⟩);exact IH (v := .tuple #[zv, .bool false]) (by simp[results,Tryz.results31,go_sem,q0,q1,q2,zv]) rfl (Mi (by simp[okV,hR]) rfl (((hw3.out.setCell (AC _) _).setCell (AC _) _).setCell (AC _) _))
     · skip
       refine (LK [48] (by decide) _).mono ?_;rintro e w3 ⟨rfl,hb3⟩;obtain ⟨hc3,hf3⟩:=MX hb3;have hw3:Below w.heap.size w w3:=hw2.out.trans (hb3.mono hw2.out.size);have hz3:w.heap.size+1<w3.heap.size:=by have:=hb3.size;omega
       have rM:w.heap.size<w3.heap.size:=by omega
       clear hb3
       replace hw3:=JY hw3
       go_wp2_with fail;have g0:w3.cell? ⟨w.heap.size,0,none⟩=some (.string ⟨#[]⟩):=by simp[go_sem, *]
       have g1:w3.cell? ⟨w.heap.size,1,none⟩=some (.string ⟨#[]⟩):=by simp[go_sem, *]
       have g2:w3.cell? ⟨w.heap.size,2,none⟩=some (.string ⟨#[]⟩):=by simp[go_sem, *]
       obtain ⟨q0,q1,q2⟩:=Ld g0 g1 g2 (.string ⟨[48].toArray⟩) (.string ⟨x.toArray⟩) (.string ⟨[48].toArray⟩);exact IH (v := .tuple #[.agg #[.string ⟨[48].toArray⟩, .string ⟨x.toArray⟩, .string ⟨[48].toArray⟩], .bool true]) (by simp[results,Tryz.results31,go_sem,q0,q1,q2]) rfl (QU (by simp[okV,hE,hM,hR]) rfl (((hw3.out.setCell (AC _) _).setCell (AC _) _).setCell (AC _) _))
theorem agY(x:List UInt8) (hx0:1<=x.length) (hx:x.length<=24) (h1:Lib.indexByte x 58 = -1) (k:Nat) (hk:k<x.length) (h2:Lib.lastIndexByte ⟨x.toArray⟩ 45=k) (w:World) :
 Calls Tryz.prog 31 #[.string ⟨x.toArray⟩] w (Parsed [48] (x.take k) (x.drop (k+1)) w):=by
 have vZ:(x.take k).length<=24:=by rw[DD];omega
 have wh:(x.drop (k+1)).length<=24:=by rw[GE];omega
 have hs : ¬ (x.length:Int)<1:=by omega
 have hs' : ¬ (24:Int)<x.length:=by omega
 have c1:(0:Int) <= ↑k:=by omega
 have c2:(↑k:Int) <= ↑x.length:=by omega
 have c3:(↑k:Int)+1 <= ↑x.length:=by omega
 go_enter Tryz.func31,Tryz.ntmps31;go_wp2_with (first
  | (go_at_call 52;refine (aic _ h1 _).mono ?_;rintro e w' ⟨rfl,rfl⟩)
  | (go_at_call 53;refine (UG _ hx _).mono ?_;rw[h2];rintro e w' ⟨rfl,rfl⟩))
 go_region;go_wp2_with fail;simp only[Mx,Mw];clear c1 c2 c3 hk h2;generalize hgM:(x.take k)=M at *;generalize hgR:(x.drop (k+1))=R at *;clear hgM hgR;clear hs hs';cases hE:J8.okE [48]
 · skip
   refine (MP [48] (by decide) _).mono ?_;rintro e w1 ⟨rfl,hb1⟩;obtain ⟨hc1,aS⟩:=MX hb1;have hw1:Below w.heap.size w w1:=by first | exact NV hb1 | exact MN hb1 | exact Mk hb1
   have hz1:w.heap.size+1<w1.heap.size:=by have:=hb1.size;simp at this;omega
   have hy1:w.heap.size<w1.heap.size:=by omega
   clear hb1
   replace hw1:=JY hw1
   go_wp2_with fail;have g0:w1.cell? ⟨w.heap.size,0,none⟩=some (.string ⟨#[]⟩):=by simp[go_sem, *]
   have g1:w1.cell? ⟨w.heap.size,1,none⟩=some (.string ⟨#[]⟩):=by simp[go_sem, *]
   have g2:w1.cell? ⟨w.heap.size,2,none⟩=some (.string ⟨#[]⟩):=by simp[go_sem, *]
   obtain ⟨q0,q1,q2⟩:=Ld g0 g1 g2 (.string ⟨#[]⟩) (.string ⟨#[]⟩) (.string ⟨#[]⟩);exact IH (v := .tuple #[zv, .bool false]) (by simp[results,Tryz.results31,go_sem,q0,q1,q2,zv]) rfl (Mi (by simp[okV,hE]) rfl (((hw1.out.setCell (AC _) _).setCell (AC _) _).setCell (AC _) _))
 · skip
   refine (MP [48] (by decide) _).mono ?_;rintro e w1 ⟨rfl,hb1⟩;obtain ⟨hc1,aS⟩:=MX hb1;have hw1:Below w.heap.size w w1:=by first | exact NV hb1 | exact MN hb1 | exact Mk hb1
   have hz1:w.heap.size+1<w1.heap.size:=by have:=hb1.size;simp at this;omega
   have hy1:w.heap.size<w1.heap.size:=by omega
   clear hb1
   replace hw1:=JY hw1
   go_wp2_with fail;cases hM:J8.okM M
   · skip
     refine (Nk M vZ _).mono ?_;rintro e w2 ⟨rfl,hb2⟩;obtain ⟨hc2,hf2⟩:=MX hb2;have hw2:Below w.heap.size w w2:=hw1.out.trans (hb2.mono hw1.out.size);have hz2:w.heap.size+1<w2.heap.size:=by have:=hb2.size;omega
     have hy2:w.heap.size<w2.heap.size:=by omega
     clear hb2
     replace hw2:=JY hw2
     go_wp2_with fail;have g0:w2.cell? ⟨w.heap.size,0,none⟩=some (.string ⟨#[]⟩):=by simp[go_sem, *]
     have g1:w2.cell? ⟨w.heap.size,1,none⟩=some (.string ⟨#[]⟩):=by simp[go_sem, *]
     have g2:w2.cell? ⟨w.heap.size,2,none⟩=some (.string ⟨#[]⟩):=by simp[go_sem, *]
     obtain ⟨q0,q1,q2⟩:=Ld g0 g1 g2 (.string ⟨#[]⟩) (.string ⟨#[]⟩) (.string ⟨#[]⟩);exact IH (v := .tuple #[zv, .bool false]) (by simp[results,Tryz.results31,go_sem,q0,q1,q2,zv]) rfl (Mi (by simp[okV,hM]) rfl (((hw2.out.setCell (AC _) _).setCell (AC _) _).setCell (AC _) _))
   · skip
     refine (Nk M vZ _).mono ?_;rintro e w2 ⟨rfl,hb2⟩;obtain ⟨hc2,hf2⟩:=MX hb2;have hw2:Below w.heap.size w w2:=hw1.out.trans (hb2.mono hw1.out.size);have hz2:w.heap.size+1<w2.heap.size:=by have:=hb2.size;omega
     have hy2:w.heap.size<w2.heap.size:=by omega
     clear hb2
     replace hw2:=JY hw2
     go_wp2_with fail;cases hR:J8.okR R
     · skip
       refine (LK R wh _).mono ?_;rintro e w3 ⟨rfl,hb3⟩;obtain ⟨hc3,hf3⟩:=MX hb3;have hw3:Below w.heap.size w w3:=hw2.out.trans (hb3.mono hw2.out.size);have hz3:w.heap.size+1<w3.heap.size:=by have:=hb3.size;omega
       have rM:w.heap.size<w3.heap.size:=by omega
       clear hb3
       replace hw3:=JY hw3
       go_wp2_with fail;have g0:w3.cell? ⟨w.heap.size,0,none⟩=some (.string ⟨#[]⟩):=by simp[go_sem, *]
       have g1:w3.cell? ⟨w.heap.size,1,none⟩=some (.string ⟨#[]⟩):=by simp[go_sem, *]
       have g2:w3.cell? ⟨w.heap.size,2,none⟩=some (.string ⟨#[]⟩):=by simp[go_sem, *]
       obtain ⟨q0,q1,q2⟩:=Ld g0 g1 g2 (.string ⟨#[]⟩) (.string ⟨#[]⟩) (.string ⟨#[]⟩);exact IH (v := .tuple #[zv, .bool false]) (by simp[results,Tryz.results31,go_sem,q0,q1,q2,zv]) rfl (Mi (by simp[okV,hR]) rfl (((hw3.out.setCell (AC _) _).setCell (AC _) _).setCell (AC _) _))
     · skip
       refine (LK R wh _).mono ?_;rintro e w3 ⟨rfl,hb3⟩;obtain ⟨hc3,hf3⟩:=MX hb3;have hw3:Below w.heap.size w w3:=hw2.out.trans (hb3.mono hw2.out.size);have hz3:w.heap.size+1<w3.heap.size:=by have:=hb3.size;omega
       have rM:w.heap.size<w3.heap.size:=by omega
       clear hb3
       replace hw3:=JY hw3
       go_wp2_with fail;have g0:w3.cell? ⟨w.heap.size,0,none⟩=some (.string ⟨#[]⟩):=by simp[go_sem, *]
       have g1:w3.cell? ⟨w.heap.size,1,none⟩=some (.string ⟨#[]⟩):=by simp[go_sem, *]
       have g2:w3.cell? ⟨w.heap.size,2,none⟩=some (.string ⟨#[]⟩):=by simp[go_sem, *]
       obtain ⟨q0,q1,q2⟩:=Ld g0 g1 g2 (.string ⟨[48].toArray⟩) (.string ⟨M.toArray⟩) (.string ⟨R.toArray⟩);exact IH (v := .tuple #[.agg #[.string ⟨[48].toArray⟩, .string ⟨M.toArray⟩, .string ⟨R.toArray⟩], .bool true]) (by simp[results,Tryz.results31,go_sem,q0,q1,q2]) rfl (QU (by simp[okV,hE,hM,hR]) rfl (((hw3.out.setCell (AC _) _).setCell (AC _) _).setCell (AC _) _))
theorem agX(x:List UInt8) (hx0:1<=x.length) (hx:x.length<=24) (E m:List UInt8) (j:Nat) (hj:j<x.length) (h1:Lib.indexByte x 58=j) (hE':x.take j=E) (hm':x.drop (j+1)=m) (kC:E.length<=24) (hlm:m.length<=24) (h2:Lib.lastIndexByte ⟨m.toArray⟩ 45 = -1) (w:World) :
 Calls Tryz.prog 31 #[.string ⟨x.toArray⟩] w (Parsed E m [48] w):=by
 have hs : ¬ (x.length:Int)<1:=by omega
 have hs' : ¬ (24:Int)<x.length:=by omega
 go_enter Tryz.func31,Tryz.ntmps31;go_wp2_with (first
  | (go_at_call 52;refine (abY x E m j hj hx h1 hE' hm' _).mono ?_;rintro e w' ⟨rfl,rfl⟩)
  | (go_at_call 53;refine (UG _ hlm _).mono ?_;rw[h2];rintro e w' ⟨rfl,rfl⟩))
 clear hs hs';cases hE:J8.okE E
 · skip
   refine (MP E kC _).mono ?_;rintro e w1 ⟨rfl,hb1⟩;obtain ⟨hc1,aS⟩:=MX hb1;have hw1:Below w.heap.size w w1:=by first | exact NV hb1 | exact MN hb1 | exact Mk hb1
   have hz1:w.heap.size+1<w1.heap.size:=by have:=hb1.size;simp at this;omega
   have hy1:w.heap.size<w1.heap.size:=by omega
   clear hb1
   replace hw1:=JY hw1
   go_wp2_with fail;have g0:w1.cell? ⟨w.heap.size,0,none⟩=some (.string ⟨#[]⟩):=by simp[go_sem, *]
   have g1:w1.cell? ⟨w.heap.size,1,none⟩=some (.string ⟨#[]⟩):=by simp[go_sem, *]
   have g2:w1.cell? ⟨w.heap.size,2,none⟩=some (.string ⟨#[]⟩):=by simp[go_sem, *]
   obtain ⟨q0,q1,q2⟩:=Ld g0 g1 g2 (.string ⟨#[]⟩) (.string ⟨#[]⟩) (.string ⟨#[]⟩);exact IH (v := .tuple #[zv, .bool false]) (by simp[results,Tryz.results31,go_sem,q0,q1,q2,zv]) rfl (Mi (by simp[okV,hE]) rfl (((hw1.out.setCell (AC _) _).setCell (AC _) _).setCell (AC _) _))
 · skip
   refine (MP E kC _).mono ?_;rintro e w1 ⟨rfl,hb1⟩;obtain ⟨hc1,aS⟩:=MX hb1;have hw1:Below w.heap.size w w1:=by first | exact NV hb1 | exact MN hb1 | exact Mk hb1
   have hz1:w.heap.size+1<w1.heap.size:=by have:=hb1.size;simp at this;omega
   have hy1:w.heap.size<w1.heap.size:=by omega
   clear hb1
   replace hw1:=JY hw1
   go_wp2_with fail;cases hM:J8.okM m
   · skip
     refine (Nk m hlm _).mono ?_;rintro e w2 ⟨rfl,hb2⟩;obtain ⟨hc2,hf2⟩:=MX hb2;have hw2:Below w.heap.size w w2:=hw1.out.trans (hb2.mono hw1.out.size);have hz2:w.heap.size+1<w2.heap.size:=by have:=hb2.size;omega
     have hy2:w.heap.size<w2.heap.size:=by omega
     clear hb2
     replace hw2:=JY hw2
     go_wp2_with fail;have g0:w2.cell? ⟨w.heap.size,0,none⟩=some (.string ⟨#[]⟩):=by simp[go_sem, *]
     have g1:w2.cell? ⟨w.heap.size,1,none⟩=some (.string ⟨#[]⟩):=by simp[go_sem, *]
     have g2:w2.cell? ⟨w.heap.size,2,none⟩=some (.string ⟨#[]⟩):=by simp[go_sem, *]
     obtain ⟨q0,q1,q2⟩:=Ld g0 g1 g2 (.string ⟨#[]⟩) (.string ⟨#[]⟩) (.string ⟨#[]⟩);exact IH (v := .tuple #[zv, .bool false]) (by simp[results,Tryz.results31,go_sem,q0,q1,q2,zv]) rfl (Mi (by simp[okV,hM]) rfl (((hw2.out.setCell (AC _) _).setCell (AC _) _).setCell (AC _) _))
   · skip
     refine (Nk m hlm _).mono ?_;rintro e w2 ⟨rfl,hb2⟩;obtain ⟨hc2,hf2⟩:=MX hb2;have hw2:Below w.heap.size w w2:=hw1.out.trans (hb2.mono hw1.out.size);have hz2:w.heap.size+1<w2.heap.size:=by have:=hb2.size;omega
     have hy2:w.heap.size<w2.heap.size:=by omega
     clear hb2
     replace hw2:=JY hw2
     go_wp2_with fail;cases hR:J8.okR [48]
     · skip
       refine (LK [48] (by decide) _).mono ?_;rintro e w3 ⟨rfl,hb3⟩;obtain ⟨hc3,hf3⟩:=MX hb3;have hw3:Below w.heap.size w w3:=hw2.out.trans (hb3.mono hw2.out.size);have hz3:w.heap.size+1<w3.heap.size:=by have:=hb3.size;omega
       have rM:w.heap.size<w3.heap.size:=by omega
       clear hb3
       replace hw3:=JY hw3
       go_wp2_with fail;have g0:w3.cell? ⟨w.heap.size,0,none⟩=some (.string ⟨#[]⟩):=by simp[go_sem, *]
       have g1:w3.cell? ⟨w.heap.size,1,none⟩=some (.string ⟨#[]⟩):=by simp[go_sem, *]
       have g2:w3.cell? ⟨w.heap.size,2,none⟩=some (.string ⟨#[]⟩):=by simp[go_sem, *]
       obtain ⟨q0,q1,q2⟩:=Ld g0 g1 g2 (.string ⟨#[]⟩) (.string ⟨#[]⟩) (.string ⟨#[]⟩);exact IH (v := .tuple #[zv, .bool false]) (by simp[results,Tryz.results31,go_sem,q0,q1,q2,zv]) rfl (Mi (by simp[okV,hR]) rfl (((hw3.out.setCell (AC _) _).setCell (AC _) _).setCell (AC _) _))
     · skip
       refine (LK [48] (by decide) _).mono ?_;rintro e w3 ⟨rfl,hb3⟩;obtain ⟨hc3,hf3⟩:=MX hb3;have hw3:Below w.heap.size w w3:=hw2.out.trans (hb3.mono hw2.out.size);have hz3:w.heap.size+1<w3.heap.size:=by have:=hb3.size;omega
       have rM:w.heap.size<w3.heap.size:=by omega
       clear hb3
       replace hw3:=JY hw3
       go_wp2_with fail;have g0:w3.cell? ⟨w.heap.size,0,none⟩=some (.string ⟨#[]⟩):=by simp[go_sem, *]
       have g1:w3.cell? ⟨w.heap.size,1,none⟩=some (.string ⟨#[]⟩):=by simp[go_sem, *]
       have g2:w3.cell? ⟨w.heap.size,2,none⟩=some (.string ⟨#[]⟩):=by simp[go_sem, *]
       obtain ⟨q0,q1,q2⟩:=Ld g0 g1 g2 (.string ⟨E.toArray⟩) (.string ⟨m.toArray⟩) (.string ⟨[48].toArray⟩);exact IH (v := .tuple #[.agg #[.string ⟨E.toArray⟩, .string ⟨m.toArray⟩, .string ⟨[48].toArray⟩], .bool true]) (by simp[results,Tryz.results31,go_sem,q0,q1,q2]) rfl (QU (by simp[okV,hE,hM,hR]) rfl (((hw3.out.setCell (AC _) _).setCell (AC _) _).setCell (AC _) _))
theorem agW(x:List UInt8) (hx0:1<=x.length) (hx:x.length<=24) (E m:List UInt8) (j:Nat) (hj:j<x.length) (h1:Lib.indexByte x 58=j) (hE':x.take j=E) (hm':x.drop (j+1)=m) (kC:E.length<=24) (hlm:m.length<=24) (k:Nat) (hk:k<m.length) (h2:Lib.lastIndexByte ⟨m.toArray⟩ 45=k) (w:World) :
 Calls Tryz.prog 31 #[.string ⟨x.toArray⟩] w (Parsed E (m.take k) (m.drop (k+1)) w):=by
 have vZ:(m.take k).length<=24:=by rw[DD];omega
 have wh:(m.drop (k+1)).length<=24:=by rw[GE];omega
 have hs : ¬ (x.length:Int)<1:=by omega
 have hs' : ¬ (24:Int)<x.length:=by omega
 have c1:(0:Int) <= ↑k:=by omega
 have c2:(↑k:Int) <= ↑m.length:=by omega
 have c3:(↑k:Int)+1 <= ↑m.length:=by omega
 go_enter Tryz.func31,Tryz.ntmps31;go_wp2_with (first
  | (go_at_call 52;refine (abY x E m j hj hx h1 hE' hm' _).mono ?_;rintro e w' ⟨rfl,rfl⟩)
  | (go_at_call 53;refine (UG _ hlm _).mono ?_;rw[h2];rintro e w' ⟨rfl,rfl⟩))
 go_region;go_wp2_with fail;simp only[Mx,Mw];clear c1 c2 c3 hk h2;generalize hgM:(m.take k)=M at *;generalize hgR:(m.drop (k+1))=R at *;clear hgM hgR;clear hs hs';cases hE:J8.okE E
 · skip
   refine (MP E kC _).mono ?_;rintro e w1 ⟨rfl,hb1⟩;obtain ⟨hc1,aS⟩:=MX hb1;have hw1:Below w.heap.size w w1:=by first | exact NV hb1 | exact MN hb1 | exact Mk hb1
   have hz1:w.heap.size+1<w1.heap.size:=by have:=hb1.size;simp at this;omega
   have hy1:w.heap.size<w1.heap.size:=by omega
   clear hb1
   replace hw1:=JY hw1
   go_wp2_with fail;have g0:w1.cell? ⟨w.heap.size,0,none⟩=some (.string ⟨#[]⟩):=by simp[go_sem, *]
   have g1:w1.cell? ⟨w.heap.size,1,none⟩=some (.string ⟨#[]⟩):=by simp[go_sem, *]
   have g2:w1.cell? ⟨w.heap.size,2,none⟩=some (.string ⟨#[]⟩):=by simp[go_sem, *]
   obtain ⟨q0,q1,q2⟩:=Ld g0 g1 g2 (.string ⟨#[]⟩) (.string ⟨#[]⟩) (.string ⟨#[]⟩);exact IH (v := .tuple #[zv, .bool false]) (by simp[results,Tryz.results31,go_sem,q0,q1,q2,zv]) rfl (Mi (by simp[okV,hE]) rfl (((hw1.out.setCell (AC _) _).setCell (AC _) _).setCell (AC _) _))
 · skip
   refine (MP E kC _).mono ?_;rintro e w1 ⟨rfl,hb1⟩;obtain ⟨hc1,aS⟩:=MX hb1;have hw1:Below w.heap.size w w1:=by first | exact NV hb1 | exact MN hb1 | exact Mk hb1
   have hz1:w.heap.size+1<w1.heap.size:=by have:=hb1.size;simp at this;omega
   have hy1:w.heap.size<w1.heap.size:=by omega
   clear hb1
   replace hw1:=JY hw1
   go_wp2_with fail;cases hM:J8.okM M
   · skip
     refine (Nk M vZ _).mono ?_;rintro e w2 ⟨rfl,hb2⟩;obtain ⟨hc2,hf2⟩:=MX hb2;have hw2:Below w.heap.size w w2:=hw1.out.trans (hb2.mono hw1.out.size);have hz2:w.heap.size+1<w2.heap.size:=by have:=hb2.size;omega
     have hy2:w.heap.size<w2.heap.size:=by omega
     clear hb2
     replace hw2:=JY hw2
     go_wp2_with fail;have g0:w2.cell? ⟨w.heap.size,0,none⟩=some (.string ⟨#[]⟩):=by simp[go_sem, *]
     have g1:w2.cell? ⟨w.heap.size,1,none⟩=some (.string ⟨#[]⟩):=by simp[go_sem, *]
     have g2:w2.cell? ⟨w.heap.size,2,none⟩=some (.string ⟨#[]⟩):=by simp[go_sem, *]
     obtain ⟨q0,q1,q2⟩:=Ld g0 g1 g2 (.string ⟨#[]⟩) (.string ⟨#[]⟩) (.string ⟨#[]⟩);exact IH (v := .tuple #[zv, .bool false]) (by simp[results,Tryz.results31,go_sem,q0,q1,q2,zv]) rfl (Mi (by simp[okV,hM]) rfl (((hw2.out.setCell (AC _) _).setCell (AC _) _).setCell (AC _) _))
   · skip
     refine (Nk M vZ _).mono ?_;rintro e w2 ⟨rfl,hb2⟩;obtain ⟨hc2,hf2⟩:=MX hb2;have hw2:Below w.heap.size w w2:=hw1.out.trans (hb2.mono hw1.out.size);have hz2:w.heap.size+1<w2.heap.size:=by have:=hb2.size;omega
     have hy2:w.heap.size<w2.heap.size:=by omega
     clear hb2
     replace hw2:=JY hw2
     go_wp2_with fail;cases hR:J8.okR R
     · skip
       refine (LK R wh _).mono ?_;rintro e w3 ⟨rfl,hb3⟩;obtain ⟨hc3,hf3⟩:=MX hb3;have hw3:Below w.heap.size w w3:=hw2.out.trans (hb3.mono hw2.out.size);have hz3:w.heap.size+1<w3.heap.size:=by have:=hb3.size;omega
       have rM:w.heap.size<w3.heap.size:=by omega
       clear hb3
       replace hw3:=JY hw3
       go_wp2_with fail;have g0:w3.cell? ⟨w.heap.size,0,none⟩=some (.string ⟨#[]⟩):=by simp[go_sem, *]
       have g1:w3.cell? ⟨w.heap.size,1,none⟩=some (.string ⟨#[]⟩):=by simp[go_sem, *]
       have g2:w3.cell? ⟨w.heap.size,2,none⟩=some (.string ⟨#[]⟩):=by simp[go_sem, *]
       obtain ⟨q0,q1,q2⟩:=Ld g0 g1 g2 (.string ⟨#[]⟩) (.string ⟨#[]⟩) (.string ⟨#[]⟩);exact IH (v := .tuple #[zv, .bool false]) (by simp[results,Tryz.results31,go_sem,q0,q1,q2,zv]) rfl (Mi (by simp[okV,hR]) rfl (((hw3.out.setCell (AC _) _).setCell (AC _) _).setCell (AC _) _))
     · skip
       refine (LK R wh _).mono ?_;rintro e w3 ⟨rfl,hb3⟩;obtain ⟨hc3,hf3⟩:=MX hb3;have hw3:Below w.heap.size w w3:=hw2.out.trans (hb3.mono hw2.out.size);have hz3:w.heap.size+1<w3.heap.size:=by have:=hb3.size;omega
       have rM:w.heap.size<w3.heap.size:=by omega
       clear hb3
       replace hw3:=JY hw3
       go_wp2_with fail;have g0:w3.cell? ⟨w.heap.size,0,none⟩=some (.string ⟨#[]⟩):=by simp[go_sem, *]
       have g1:w3.cell? ⟨w.heap.size,1,none⟩=some (.string ⟨#[]⟩):=by simp[go_sem, *]
       have g2:w3.cell? ⟨w.heap.size,2,none⟩=some (.string ⟨#[]⟩):=by simp[go_sem, *]
       obtain ⟨q0,q1,q2⟩:=Ld g0 g1 g2 (.string ⟨E.toArray⟩) (.string ⟨M.toArray⟩) (.string ⟨R.toArray⟩);exact IH (v := .tuple #[.agg #[.string ⟨E.toArray⟩, .string ⟨M.toArray⟩, .string ⟨R.toArray⟩], .bool true]) (by simp[results,Tryz.results31,go_sem,q0,q1,q2]) rfl (QU (by simp[okV,hE,hM,hR]) rfl (((hw3.out.setCell (AC _) _).setCell (AC _) _).setCell (AC _) _))
theorem acg(h0:1<=x.length) (h1:x.length<=24):J8.fine x=okV (J8.Ma x).e (J8.Ma x).m (J8.Ma x).r:=by
 simp[J8.fine,okV,h0,h1]
theorem Wp(x:List UInt8) (h0:1<=x.length) (h1:x.length<=24) (w:World) :
 Calls Tryz.prog 31 #[.string ⟨x.toArray⟩] w (Parsed (J8.Ma x).e (J8.Ma x).m (J8.Ma x).r w):=by
 simp only[J8.Ma];rcases J8.TA x with ⟨a1,a2⟩ | ⟨j,aj,a1,a2⟩
 · rw[a2];rcases J8.QH x with ⟨b1,b2⟩ | ⟨k,bk,b1,b2⟩
   · rw[b2];exact agZ x h0 h1 a1 b1 w
   · rw[b2];exact agY x h0 h1 a1 k bk b1 w
 · rw[a2];have kC:(x.take j).length<=24:=by rw[DD];omega
   have hlm:(x.drop (j+1)).length<=24:=by rw[GE];omega
   rcases J8.QH (x.drop (j+1)) with ⟨b1,b2⟩ | ⟨k,bk,b1,b2⟩
   · rw[b2];exact agX x h0 h1 _ _ j aj a1 rfl rfl kC hlm b1 w
   · rw[b2];exact agW x h0 h1 _ _ j aj a1 rfl rfl kC hlm k bk b1 w
theorem PX(x:List UInt8) (h:J8.fine x=true) (w:World) :
 Calls Tryz.prog 31 #[.string ⟨x.toArray⟩] w fun e w' =>
  e = .returned (.tuple #[.agg #[.string ⟨(J8.Ma x).e.toArray⟩, .string ⟨(J8.Ma x).m.toArray⟩, .string ⟨(J8.Ma x).r.toArray⟩], .bool true])/\Below w.heap.size w w':=by
 have h0:1<=x.length/\x.length<=24:=by simp[J8.fine] at h;exact ⟨by omega,by omega⟩
 have hv:=(acg h0.1 h0.2).symm.trans h;refine (Wp x h0.1 h0.2 w).mono fun e w' he => ?_
 obtain ⟨e1,hb⟩:=he;refine ⟨?_,hb⟩;rw[e1,hv];simp[pv,hv]
theorem Qx(x:List UInt8) (h:J8.fine x=false) (w:World) :
 Calls Tryz.prog 31 #[.string ⟨x.toArray⟩] w fun e w' =>
  e = .returned (.tuple #[.agg #[.string ⟨#[]⟩, .string ⟨#[]⟩, .string ⟨#[]⟩], .bool false])/\Below w.heap.size w w':=by
 by_cases h0:1<=x.length/\x.length<=24
 · have hv:=(acg h0.1 h0.2).symm.trans h;refine (Wp x h0.1 h0.2 w).mono fun e w' he => ?_
   obtain ⟨e1,hb⟩:=he;refine ⟨?_,hb⟩;rw[e1,hv];simp[pv,hv,zv]
 · exact acN ⟨x.toArray⟩ (by show x.length=0\/24<x.length;omega) w
theorem QZ(h:J8.fine x=true):(J8.Ma x).e.length<=24/\(J8.Ma x).m.length<=24/\(J8.Ma x).r.length<=24:=by
 have h0:1<=x.length/\x.length<=24:=by simp[J8.fine] at h;exact ⟨by omega,by omega⟩
 have:=J8.aia x;have:=J8.agi x h0.1;have:=J8.agj (J8.XE x).2;have:=J8.agk (J8.XE x).2 (by omega);simp only[J8.Ma];omega
theorem XA(hx:J8.fine x=true) (hy:J8.fine y=true):J8.compare x y=(J8.alz (J8.Ma x) (J8.Ma y),0):=by simp[J8.compare,hx,hy]
theorem Ut(hx:J8.fine x=false):J8.compare x y=(0,2):=by simp[J8.compare,hx]
theorem aaH(hy:J8.fine y=false):J8.compare x y=(0,2):=by simp[J8.compare,hy]
theorem PI{w2:World} {o o':Obj} (h1:Below w.heap.size w w1) (h2:Below (w1.alloc o).heap.size (w1.alloc o) w2):Below w.heap.size w (w2.alloc o'):=by
 have h:=(h1.alloc h1.size o).trans (h2.mono (Bi h1.size (by simp)));exact h.alloc h.size o'
theorem abW(x y:List UInt8) (w:World) :
 Calls Tryz.prog 14 #[.string ⟨x.toArray⟩, .string ⟨y.toArray⟩] w fun e w' =>
  e = .returned (.tuple #[.int .i64 (J8.compare x y).1, .int .i64 (J8.compare x y).2])/\Below w.heap.size w w':=by
 cases hx:J8.fine x
 · cases hy:J8.fine y
   · rw[Ut hx];go_enter Tryz.func14,Tryz.ntmps14;go_wp2_with fail;refine (Qx x hx _).mono ?_;rintro e w1 ⟨rfl,hb1⟩;have ag:=JY hb1;clear hb1;go_wp2_with fail;refine (Qx y hy _).mono ?_;rintro e w2 ⟨rfl,hb2⟩;have ah:=JY hb2;clear hb2;go_wp2_with fail;go_ret2;exact ⟨rfl,PI ag.out ah.out⟩
   · rw[Ut hx];go_enter Tryz.func14,Tryz.ntmps14;go_wp2_with fail;refine (Qx x hx _).mono ?_;rintro e w1 ⟨rfl,hb1⟩;have ag:=JY hb1;clear hb1;go_wp2_with fail;refine (PX y hy _).mono ?_;rintro e w2 ⟨rfl,hb2⟩;have ah:=JY hb2;clear hb2;go_wp2_with fail;go_ret2;exact ⟨rfl,PI ag.out ah.out⟩
 · cases hy:J8.fine y
   · rw[aaH hy];go_enter Tryz.func14,Tryz.ntmps14;go_wp2_with fail;refine (PX x hx _).mono ?_;rintro e w1 ⟨rfl,hb1⟩;have ag:=JY hb1;clear hb1;go_wp2_with fail;refine (Qx y hy _).mono ?_;rintro e w2 ⟨rfl,hb2⟩;have ah:=JY hb2;clear hb2;go_wp2_with fail;go_ret2;exact ⟨rfl,PI ag.out ah.out⟩
   · rw[XA hx hy];obtain ⟨l1,l2,l3⟩:=QZ hx;obtain ⟨l4,l5,l6⟩:=QZ hy;go_enter Tryz.func14,Tryz.ntmps14;go_wp2_with fail;refine (PX x hx _).mono ?_;rintro e w1 ⟨rfl,hb1⟩;have ag:=JY hb1;clear hb1;go_wp2_with fail;refine (PX y hy _).mono ?_;rintro e w2 ⟨rfl,hb2⟩;obtain ⟨hc2,hf2⟩:=MX hb2;have hz2:w1.heap.size<w2.heap.size:=by have:=hb2.size;simp at this;omega
     have ah:=JY hb2;clear hb2;go_wp2_with fail;refine (ads _ _ _ _ _ _ l1 l2 l3 l4 l5 l6 _).mono ?_;rintro e w3 ⟨rfl,hb3⟩;have av:=JY hb3;clear hb3;go_wp2_with fail;go_ret2;exact ⟨rfl,(PI ag.out ah.out).trans (av.out.mono (PI ag.out ah.out).size)⟩
end
namespace Wd
open J8
def low (c:UInt8):Bool:=decide (97<=(c.toNat:Int))&&decide ((c.toNat:Int)<=122)
def nmS (c:UInt8):Bool:=low c||(decide (48<=(c.toNat:Int))&&decide ((c.toNat:Int)<=57))||(c.toNat:Int)==45
def paS (c:UInt8):Bool:=nmS c||(c.toNat:Int)==46||(c.toNat:Int)==47
def woS (c:UInt8):Bool:=decide (33<=(c.toNat:Int))&&decide ((c.toNat:Int)<=126)
def Og (x:List UInt8) (a b:Nat):Bool:=decide (a<=x.length)&&decide (x.length<=b)
def QO (f:UInt8->Bool):List UInt8->Bool
 | []=>false
 | c::_=>f c
def isName (x:List UInt8):Bool:=Og x 1 12&&QO low x&&Rs nmS x
def isWord (x:List UInt8):Bool:=Og x 1 16&&Rs woS x
def under (x:List UInt8):Bool:=Lib.hasPrefix x [47,118,97,114,47]
def dbl (x:List UInt8):Bool:=Lib.contains x [47,47]
def lastOf (x:List UInt8):UInt8:=x.getLastD 0
def LU (x:List UInt8):Bool:=Og x 2 24&&QO (fun c=>(c.toNat:Int)==47) x&&(lastOf x != 47) && !dbl x&&Rs paS x
def isVar (x:List UInt8):Bool:=LU x&&under x
end Wd
section
open Go.RowKit
theorem Sc(c:UInt8) (w:World) :
 Calls Tryz.prog 276 #[.int .u8 c.toNat] w fun e w'=>e = .returned (.bool (Wd.low c))/\w'=w:=by
 go_enter Tryz.func276,Tryz.ntmps276
 go_wp2
 all_goals (go_ret;exact ⟨Ms (by simp[Wd.low];try omega),rfl⟩)
theorem aar(c:UInt8) (w:World) :
 Calls Tryz.prog 277 #[.int .u8 c.toNat] w fun e w'=>e = .returned (.bool (Wd.nmS c))/\w'=w:=by
 go_enter Tryz.func277,Tryz.ntmps277;go_wp2_with (go_at_call 276;refine (Sc c _).mono ?_;rintro e w' ⟨rfl,rfl⟩)
 all_goals (go_ret;exact ⟨Ms (by simp[Wd.nmS, *];try omega),rfl⟩)
theorem ahw(c:UInt8) (w:World) :
 Calls Tryz.prog 271 #[.int .u8 c.toNat] w fun e w'=>e = .returned (.bool (Wd.paS c))/\w'=w:=by
 go_enter Tryz.func271,Tryz.ntmps271;go_wp2_with (go_at_call 277;refine (aar c _).mono ?_;rintro e w' ⟨rfl,rfl⟩)
 all_goals (go_ret;exact ⟨Ms (by simp[Wd.paS, *]),rfl⟩)
theorem ahx(c:UInt8) (w:World) :
 Calls Tryz.prog 322 #[.int .u8 c.toNat] w fun e w'=>e = .returned (.bool (Wd.woS c))/\w'=w:=by
 go_enter Tryz.func322,Tryz.ntmps322
 go_wp2
 all_goals (go_ret;exact ⟨Ms (by simp[Wd.woS];try omega),rfl⟩)
theorem Np(x:List UInt8) (a b:Nat) (w:World) :
 Calls Tryz.prog 269 #[.string ⟨x.toArray⟩, .int .i64 a, .int .i64 b] w fun e w'=>e = .returned (.bool (Wd.Og x a b))/\w'=w:=by
 go_enter Tryz.func269,Tryz.ntmps269
 go_wp2
 all_goals (go_ret;exact ⟨Ms (by simp[Wd.Og];try omega),rfl⟩)
theorem aaO(args:Array Value) (w:World):(callFunc 277 args).run Tryz.prog w = .ok (.enter 277 args) w :=
 enters Tryz.func277 (by kernel_rfl) rfl args w
theorem aaP(args:Array Value) (w:World):(callFunc 271 args).run Tryz.prog w = .ok (.enter 271 args) w :=
 enters Tryz.func271 (by kernel_rfl) rfl args w
theorem aaQ(args:Array Value) (w:World):(callFunc 322 args).run Tryz.prog w = .ok (.enter 322 args) w :=
 enters Tryz.func322 (by kernel_rfl) rfl args w
theorem Xn(g:Nat) (f:UInt8->Bool) (he:∀ args w,(callFunc g args).run Tryz.prog w = .ok (.enter g args) w)
 (hg:∀ (c:UInt8) (w:World),Calls Tryz.prog g #[.int .u8 c.toNat] w fun e w'=>e = .returned (.bool (f c))/\w'=w)
 (x:List UInt8) (hx:x.length<=2000) (w:World) :
 Calls Tryz.prog 105 #[.string ⟨x.toArray⟩, .func (.func g) #[] #[]] w fun e w'=>e = .returned (.bool (J8.Rs f x))/\Below w.heap.size w w' :=
 afi g f he hg ⟨x.toArray⟩ (by simp[ByteArray.size];omega) w
theorem aeb(x:List UInt8) (hx:x.length<=2000) (w:World) :
 Calls Tryz.prog 320 #[.string ⟨x.toArray⟩] w fun e w'=>e = .returned (.bool (Wd.isWord x))/\Below w.heap.size w w':=by
 cases h:Wd.Og x 1 16
 · have e1:Wd.isWord x=false:=by simp[Wd.isWord,h]
   rw[e1];go_enter Tryz.func320,Tryz.ntmps320;go_wp2_with (go_at_call 269;refine (Np x 1 16 _).mono ?_;rintro e w' ⟨rfl,rfl⟩)
   go_ret;exact ⟨rfl,AD _ _⟩
 · have e1:Wd.isWord x=J8.Rs Wd.woS x:=by simp[Wd.isWord,h]
   rw[e1];go_enter Tryz.func320,Tryz.ntmps320;go_wp2_with (first
    | (go_at_call 269;refine (Np x 1 16 _).mono ?_;rintro e w' ⟨rfl,rfl⟩)
    | (go_at_call 105;refine (Xn _ _ aaQ ahx x hx _).mono ?_;rintro e w' ⟨rfl,hb⟩))
   go_ret;exact ⟨rfl,hb⟩
theorem TI(x:List UInt8) (hx:x.length<=2000) (w:World) :
 Calls Tryz.prog 227 #[.string ⟨x.toArray⟩] w fun e w'=>e = .returned (.bool (Wd.isName x))/\Below w.heap.size w w':=by
 cases h:Wd.Og x 1 12
 · have e1:Wd.isName x=false:=by simp[Wd.isName,h]
   rw[e1];go_enter Tryz.func227,Tryz.ntmps227;go_wp2_with (go_at_call 269;refine (Np x 1 12 _).mono ?_;rintro e w' ⟨rfl,rfl⟩)
   go_ret;exact ⟨rfl,AD _ _⟩
 · have hpos:0<x.length:=by simp[Wd.Og] at h;omega
   obtain ⟨c,hc,ly⟩:∃ c,(⟨x.toArray⟩:ByteArray)[0]'hpos=c/\Wd.QO Wd.low x=Wd.low c:=by
    cases x with
    | nil=>simp at hpos
    | cons c l=>exact ⟨c,rfl,rfl⟩
   have oW:=JY ly;clear ly;cases hl:Wd.low c
   · have e1:Wd.isName x=false:=by simp[Wd.isName,oW.out,hl]
     rw[e1];go_enter Tryz.func227,Tryz.ntmps227;go_wp2_with (first
      | (go_at_call 269;refine (Np x 1 12 _).mono ?_;rintro e w' ⟨rfl,rfl⟩)
      | (go_at_call 276;refine (Sc c _).mono ?_;rintro e w' ⟨rfl,rfl⟩))
     go_ret;exact ⟨rfl,AD _ _⟩
   · have e1:Wd.isName x=J8.Rs Wd.nmS x:=by simp[Wd.isName,oW.out,hl,h]
     rw[e1];go_enter Tryz.func227,Tryz.ntmps227;go_wp2_with (first
      | (go_at_call 269;refine (Np x 1 12 _).mono ?_;rintro e w' ⟨rfl,rfl⟩)
      | (go_at_call 276;refine (Sc c _).mono ?_;rintro e w' ⟨rfl,rfl⟩)
      | (go_at_call 105;refine (Xn _ _ aaO aar x hx _).mono ?_;rintro e w' ⟨rfl,hb⟩))
     go_ret;exact ⟨rfl,hb⟩
theorem aht(x:List UInt8) (w:World) :
 Calls Tryz.prog 185 #[.string ⟨x.toArray⟩, .string ⟨#[47,118,97,114,47]⟩] w fun e w'=>e = .returned (.bool (Wd.under x))/\w'=w :=
 Tryz.strings_HasPrefix ⟨x.toArray⟩ ⟨#[47,118,97,114,47]⟩ w
theorem afm(x:List UInt8) (hx:x.length<=2000) (mx:Int) (w:World) (hm:w.cell? ⟨3,0,none⟩=some (.int .i64 mx)) :
 Calls Tryz.prog 270 #[.string ⟨x.toArray⟩, .string ⟨#[47,47]⟩] w fun e w'=>e = .returned (.bool (Wd.dbl x))/\w'=w :=
 Tryz.strings_Contains ⟨x.toArray⟩ ⟨#[47,47]⟩ mx w (by simp[ByteArray.size];omega) hm
theorem U4(x:List UInt8) (w:World) :
 Calls Tryz.prog 219 #[.string ⟨x.toArray⟩] w fun e w'=>e = .returned (.bool (Wd.under x))/\w'=w:=by
 go_enter Tryz.func219,Tryz.ntmps219;go_wp2_with (go_at_call 185;refine (aht x _).mono ?_;rintro e w' ⟨rfl,rfl⟩)
 go_ret;exact ⟨rfl,rfl⟩
theorem akc(h:2<=x.length):∃ c d,(⟨x.toArray⟩:ByteArray)[0]'(by show 0<x.length;omega)=c/\(⟨x.toArray⟩:ByteArray)[x.length-1]'(by show x.length-1<x.length;omega)=d/\(∀ f,Wd.QO f x=f c)/\Wd.lastOf x=d:=by
 refine ⟨_,_,rfl,rfl,?_,?_⟩
 · intro f;cases x with
   | nil=>simp at h
   | cons c l=>rfl
 · have hne:x≠[]:=by rintro rfl;simp at h
   rw[Wd.lastOf,List.getLastD_eq_getLast?,List.getLast?_eq_getElem?];have:x.length-1<x.length:=by omega
   simp[this];rfl
theorem TJ(x:List UInt8) (hx:x.length<=2000) (mx:Int) (w:World) (hm:w.cell? ⟨3,0,none⟩=some (.int .i64 mx)) :
 Calls Tryz.prog 218 #[.string ⟨x.toArray⟩] w fun e w'=>e = .returned (.bool (Wd.LU x))/\Below w.heap.size w w':=by
 have HM:=JY hm;clear hm;cases h:Wd.Og x 2 24
 · have e1:Wd.LU x=false:=by simp[Wd.LU,h]
   rw[e1];go_enter Tryz.func218,Tryz.ntmps218;go_wp2_with (go_at_call 269;refine (Np x 2 24 _).mono ?_;rintro e w' ⟨rfl,rfl⟩)
   go_ret;exact ⟨rfl,AD _ _⟩
 · have h2:2<=x.length:=by simp[Wd.Og] at h;omega
   have h2':(1:Int)<=x.length:=by omega
   obtain ⟨c,d,hc,hd,hhead,hlast⟩:=akc h2;have HH:=JY hhead;have HL:=JY hlast;clear hhead hlast;have hc':(c.toNat:Int)=47 ↔ c=47:=by rw[<- UInt8.toNat_inj];show _ ↔ c.toNat=47;omega
   have hd':(d.toNat:Int)=47 ↔ d=47:=by rw[<- UInt8.toNat_inj];show _ ↔ d.toNat=47;omega
   by_cases hc0:(c.toNat:Int)=47
   · by_cases hd0:(d.toNat:Int)=47
     · have e1:Wd.LU x=false:=by simp[Wd.LU,HL.out,hd'.1 hd0]
       rw[e1];have b1:((c.toNat:Int)==47)=true:=by simp[hc0]
       have b2:((d.toNat:Int) != 47)=false:=by simp[hd0]
       clear hc' hd' hc0 hd0 e1;go_enter Tryz.func218,Tryz.ntmps218;go_wp2_with (go_at_call 269;refine (Np x 2 24 _).mono ?_;rintro e w' ⟨rfl,rfl⟩)
       go_ret;exact ⟨rfl,AD _ _⟩
     · have b1:((c.toNat:Int)==47)=true:=by simp[hc0]
       have b2:((d.toNat:Int) != 47)=true:=by simp[hd0]
       have e0:Wd.LU x=(!Wd.dbl x&&J8.Rs Wd.paS x):=by
        have hb:(d != 47)=true:=bne_iff_ne.2 fun e=>hd0 (hd'.2 e)
        simp only[Wd.LU,HL.out,HH.out,h,hc0,hb,Bool.true_and,beq_self_eq_true]
       rw[e0];clear hc' hd' hc0 hd0 e0;cases hdb:Wd.dbl x
       · go_enter Tryz.func218,Tryz.ntmps218;go_wp2_with (first
          | (go_at_call 269;refine (Np x 2 24 _).mono ?_;rintro e w' ⟨rfl,rfl⟩)
          | (go_at_call 270;refine (afm x hx mx _ HM.out).mono ?_;rintro e w' ⟨rfl,rfl⟩)
          | (go_at_call 105;refine (Xn _ _ aaP ahw x hx _).mono ?_;rintro e w' ⟨rfl,hb⟩))
         go_ret;exact ⟨Ms (by simp),hb⟩
       · go_enter Tryz.func218,Tryz.ntmps218;go_wp2_with (first
          | (go_at_call 269;refine (Np x 2 24 _).mono ?_;rintro e w' ⟨rfl,rfl⟩)
          | (go_at_call 270;refine (afm x hx mx _ HM.out).mono ?_;rintro e w' ⟨rfl,rfl⟩))
         go_ret;exact ⟨Ms (by simp),AD _ _⟩
   · have e1:Wd.LU x=false:=by simp[Wd.LU,HH.out,hc0]
     rw[e1];have b1:((c.toNat:Int)==47)=false:=by simp[hc0]
     clear hc' hd' hc0 e1;go_enter Tryz.func218,Tryz.ntmps218;go_wp2_with (go_at_call 269;refine (Np x 2 24 _).mono ?_;rintro e w' ⟨rfl,rfl⟩)
     go_ret;exact ⟨rfl,AD _ _⟩
theorem ZJ(x:List UInt8) (hx:x.length<=2000) (mx:Int) (w:World) (hm:w.cell? ⟨3,0,none⟩=some (.int .i64 mx)) :
 Calls Tryz.prog 165 #[.string ⟨x.toArray⟩] w fun e w'=>e = .returned (.bool (Wd.isVar x))/\Below w.heap.size w w':=by
 have HM:=JY hm;clear hm;cases h:Wd.LU x
 · have e1:Wd.isVar x=false:=by simp[Wd.isVar,h]
   rw[e1];go_enter Tryz.func165,Tryz.ntmps165;go_wp2_with (go_at_call 218;refine (TJ x hx mx _ HM.out).mono ?_;rintro e w' ⟨rfl,hb⟩)
   go_ret;exact ⟨rfl,hb⟩
 · have e1:Wd.isVar x=Wd.under x:=by simp[Wd.isVar,h]
   rw[e1];go_enter Tryz.func165,Tryz.ntmps165;go_wp2_with (first
    | (go_at_call 218;refine (TJ x hx mx _ HM.out).mono ?_;rintro e w' ⟨rfl,hb⟩)
    | (go_at_call 219;refine (U4 x _).mono ?_;rintro e w' ⟨rfl,rfl⟩))
   go_ret;exact ⟨rfl,hb⟩
end
namespace J8
def val (l:List UInt8):Int:=l.foldl (fun a c=>10*a+((c.toNat:Int)-48)) 0
end J8
section
open Go.RowKit
def sz (x:List UInt8):Int:=if Wd.Og x 1 4=true /\ ¬ (Wd.QO (fun c=>(c.toNat:Int)==48) x=true/\1<x.length)/\x.all J8.SS=true then J8.val x else -1
def strs (l:List (List UInt8)):List Value:=l.map fun x => .string ⟨x.toArray⟩
theorem PS:(Tryz.prog.info? 9).map (fun i=>(i.zero,i.size,i.bytes))=some (some (.string ByteArray.empty),1,16):=by kernel_rfl
theorem agR{base:Nat} {t:TypeId} {v:Value} {n:Nat} {xs:List Value} (h:w.ownsRow base t 1 v n xs) (hn:0<n):∃ g cap,v = .slice (some ⟨g,0,none⟩) n cap:=by
 rcases h.2 with ⟨_,h⟩ | ⟨g,cap,_,h,_⟩
 · omega
 · exact ⟨g,cap,h⟩
theorem Y9(x:List UInt8) (w:World) :
 Calls Tryz.prog 266 #[.string ⟨x.toArray⟩] w fun e w'=>e = .returned (.bool (J8.fine x))/\Below w.heap.size w w':=by
 cases h:J8.fine x
 · go_enter Tryz.func266,Tryz.ntmps266;go_wp2_with (go_at_call 31;refine (Qx x h _).mono ?_;rintro e w' ⟨rfl,hb⟩)
   go_ret;exact ⟨rfl,hb.alloc hb.size _⟩
 · go_enter Tryz.func266,Tryz.ntmps266;go_wp2_with (go_at_call 31;refine (PX x h _).mono ?_;rintro e w' ⟨rfl,hb⟩)
   go_ret;exact ⟨rfl,hb.alloc hb.size _⟩
def kd (x:List UInt8):Int :=
 if x==[110,101,101,100,115] then 1 else if x==[98,114,101,97,107,115] then 2 else if x==[119,97,107,101,115] then 3
 else if x==[102,105,108,101] then 4 else if x==[114,117,110] then 5 else if x==[119,111,107,101,110] then 6 else 0
theorem aee(x:List UInt8) (w:World) :
 Calls Tryz.prog 267 #[.string ⟨x.toArray⟩] w fun e w'=>e = .returned (.int .i64 (kd x))/\w'=w:=by
 go_enter Tryz.func267,Tryz.ntmps267
 go_wp2
 all_goals
  go_ret;exact ⟨Ny (by simp only[kd, *];rfl),rfl⟩
end
end Go.Proofs.YtfhmaiicimdldaaGreatDoor
