/- ArcW1, ArcMath, DigW1, DigW2, DigW3, DigW4, DigW5, OwnT, DigW6 -/
import Derived.Test.YtialenebfcnkkaaGreatDoorWokJ4
import Derived.Test.YtialenebfcnkkaaGreatDoorWokJ2
import Derived.BigRegion
import Derived.Deep.QuietTactic
import Derived.BigQuiet
import Derived.Laws.Tables
import Derived.Laws.CopyOwn
import Derived.Deep.RegionWith
import Derived.Deep.RegionHeld3
import Derived.Laws.AppendOwn
import Derived.Laws.CopyRow
import Derived.Lib.ConvBytes
import Derived.Maps.AppendAt
import Derived.BigCall
set_option maxHeartbeats 4000000
set_option maxRecDepth 100000
namespace Go.Proofs.YtialenebfcnkkaaGreatDoor
section
open Go.RowKit
theorem isVersion_any (x:List UInt8) (w:World) :
   Calls Tryz.prog 261 #[.string ⟨x.toArray⟩] w fun e w'=>e = .returned (.bool (Ver.fine x))∧Below w.heap.size w w':=by
 cases h:Ver.fine x
 · go_enter Tryz.func261,Tryz.ntmps261
   go_wp2_with (go_at_call 27;refine (parse_bad x h _).mono ?_;rintro e w' ⟨rfl,hb⟩)
   go_ret
   exact ⟨rfl,hb.alloc hb.size _⟩
 · go_enter Tryz.func261,Tryz.ntmps261
   go_wp2_with (go_at_call 27;refine (parse_ok x h _).mono ?_;rintro e w' ⟨rfl,hb⟩)
   go_ret
   exact ⟨rfl,hb.alloc hb.size _⟩
def kd (x:List UInt8):Int :=
 if x==[110,101,101,100,115] then 1 else if x==[98,114,101,97,107,115] then 2 else if x==[119,97,107,101,115] then 3
 else if x==[102,105,108,101] then 4 else if x==[114,117,110] then 5 else if x==[119,111,107,101,110] then 6 else 0
theorem kindOf_any (x:List UInt8) (w:World) :
   Calls Tryz.prog 262 #[.string ⟨x.toArray⟩] w fun e w'=>e = .returned (.int .i64 (kd x))∧w'=w:=by
 go_enter Tryz.func262,Tryz.ntmps262
 go_wp2
 all_goals
   go_ret
   exact ⟨ret_int (by simp only[kd, *];rfl),rfl⟩
end
namespace Arc
abbrev S:=List UInt8
structure Cmd where
 verb:Int
 path:S
 word:S
 frm:S
def Cmd.zero:Cmd:=⟨0,[],[],[]⟩
def vb (x:S):Int :=
 if x==[112,117,116] then 1 else if x==[97,100,100] then 2 else if x==[99,111,112,121] then 3 else if x==[100,114,111,112] then 4 else if x==[108,105,115,116] then 5 else 0
def pcmd:List S→Cmd × Bool
 | v::p::rest =>
   if vb v=1∨vb v=2 then match rest with
     | [q]=>if Wd.isWord q&&Wd.isVar p then (⟨vb v,p,q,[]⟩,true) else (.zero,false)
     | _=>(.zero,false)
   else if vb v=3 then match rest with
     | [q]=>if Wd.isPath p&&Wd.isVar q then (⟨vb v,q,[],p⟩,true) else (.zero,false)
     | _=>(.zero,false)
   else if vb v=4∨vb v=5 then match rest with
     | []=>if Wd.isVar p then (⟨vb v,p,[],[]⟩,true) else (.zero,false)
     | _=>(.zero,false)
   else (.zero,false)
 | _=>(.zero,false)
structure St where
 needs:List (S × S)
 breaks:List S
 wakes:List S
 files:List (S × S)
 runs:List Cmd
 wokens:List Cmd
 left:S
def St.of (c:S):St:=⟨[],[],[],[],[],[],c⟩
variable (short:S→S)
def pline (st:St) (k:Int) (rest:List S):Option St :=
 if k=1 then match rest with
   | [n]=>if Wd.isName n then some { st with needs:=st.needs++[(n,[])] } else none
   | [n,v]=>if Ver.fine v&&Wd.isName n then some { st with needs:=st.needs++[(n,v)] } else none
   | _=>none
 else if k=2 then match rest with
   | [n]=>if Wd.isName n then some { st with breaks:=st.breaks++[n] } else none
   | _=>none
 else if k=3 then match rest with
   | [p]=>if Wd.isPath p then some { st with wakes:=st.wakes++[p] } else none
   | _=>none
 else if k=4 then match rest with
   | [p,z,h] =>
     if 0≤sz z∧sz z≤st.left.length∧Wd.isPath p=true∧Wd.under p=false∧(st.files.any fun f=>f.1==p)=false∧short (st.left.take (sz z).toNat)=h then
       some { st with files:=st.files++[(p,st.left.take (sz z).toNat)],left:=st.left.drop (sz z).toNat } else none
   | _=>none
 else if k=5 then if (pcmd rest).2=true∧(pcmd rest).1.verb≠5 then some { st with runs:=st.runs++[(pcmd rest).1] } else none
 else if k=6 then if (pcmd rest).2=true then some { st with wokens:=st.wokens++[(pcmd rest).1] } else none
 else none
def pbody (st:St) (last:Int):List S→Option St
 | []=>some st
 | l::ls =>
   if kd (sp 32 l).head! = 0∨kd (sp 32 l).head! < last then none else
     match pline short st (kd (sp 32 l).head!) (sp 32 l).tail with
     | none=>none
     | some st'=>pbody st' (kd (sp 32 l).head!) ls
def behind (p x:S):S:=if p.isPrefixOf x then x.drop p.length else x
def wHaven:S:=[104,97,118,101,110,32,49]
def wName:S:=[110,97,109,101,32]
def wVersion:S:=[118,101,114,115,105,111,110,32]
def headOk (a b c:S):Bool :=
 (a==wHaven)&&wName.isPrefixOf b&&wVersion.isPrefixOf c&&Wd.isName (behind wName b)&&Ver.fine (behind wVersion c)
def parse (x:S):Option (S × S × St) :=
 if 2000<x.length then none else
 match cutTwo x with
 | none=>none
 | some (head,contents) =>
   match sp 10 head with
   | a::b::c::ls =>
     if 21<ls.length then none
     else if headOk a b c=true then
       match pbody short (.of contents) 0 ls with
       | none=>none
       | some st=>if st.left=[] then some (behind wName b,behind wVersion c,st) else none
     else none
   | _=>none
end Arc
section
open Go.RowKit
def rot (x:Int) (n:Nat):Int:=bits BinOp.or IntKind.u32 (x / 2^n) (x*2^(32-n)%4294967296)
theorem bits_or_comm (k:IntKind) (a b:Int):bits BinOp.or k a b=bits BinOp.or k b a:=by
 simp only[bits];rw[BitVec.or_comm]
theorem turn_count:∀ n,1≤n→n<32→bits BinOp.and IntKind.u64 (IntKind.u64.wrap (-(n:Nat):Int)) 31=((32-n:Nat):Int):=by
 have h:∀ n:Fin 32,1≤n.val→bits BinOp.and IntKind.u64 (IntKind.u64.wrap (-(n.val:Int))) 31=((32-n.val:Nat):Int):=by decide
 exact fun n h0 h1=>h ⟨n,h1⟩ h0
theorem dturn_any (x:Int) (n:Nat) (hn:1≤n) (hn':n≤31) (w:World) :
   Calls Tryz.prog 294 #[.int .u32 x, .int .i64 n] w fun e w'=>e = .returned (.int .u32 (rot x n))∧w'=w:=by
 have hs:=turn_count n hn (by omega)
 obtain ⟨m,hm⟩:∃ m,32-n=m:=⟨_,rfl⟩
 have hm0:32-m=n:=by omega
 have hr:rot x n=bits BinOp.or IntKind.u32 (x*2^m%4294967296) (x / 2^(32-m)):=by rw[rot,bits_or_comm,hm,hm0]
 rw[hm] at hs
 have HR:=hide hr;clear hr
 have hm1:m≤31:=by omega
 have hm2:1≤m:=by omega
 clear hm hm0
 go_enter Tryz.func294,Tryz.ntmps294
 go_wp2
 all_goals go_ret
 all_goals exact ⟨by rw[HR.out];rfl,rfl⟩
theorem dturn_at (x k:Int) (hk:1≤k) (hk':k≤31) (w:World) :
   Calls Tryz.prog 294 #[.int .u32 x, .int .i64 k] w fun e w'=>e = .returned (.int .u32 (rot x k.toNat))∧w'=w:=by
 obtain ⟨n,rfl⟩:∃ n:Nat,k=n:=⟨k.toNat,by omega⟩
 exact dturn_any x n (by omega) (by omega) w
def xor3 (a b c:Int):Int:=bits BinOp.xor IntKind.u32 (bits BinOp.xor IntKind.u32 a b) c
def sB0 (x:Int):Int:=xor3 (rot x 2) (rot x 13) (rot x 22)
def sB1 (x:Int):Int:=xor3 (rot x 6) (rot x 11) (rot x 25)
def sS0 (x:Int):Int:=xor3 (rot x 7) (rot x 18) (x / 8)
def sS1 (x:Int):Int:=xor3 (rot x 17) (rot x 19) (x / 1024)
theorem bigSigma0_any (x:Int) (w:World) :
   Calls Tryz.prog 258 #[.int .u32 x] w fun e w'=>e = .returned (.int .u32 (sB0 x))∧w'=w:=by
 go_enter Tryz.func258,Tryz.ntmps258
 go_wp2_with (go_at_call 294;refine (dturn_at _ _ (by decide) (by decide) _).mono ?_;rintro e w' ⟨rfl,rfl⟩)
 all_goals go_ret
 all_goals exact ⟨rfl,rfl⟩
theorem bigSigma1_any (x:Int) (w:World) :
   Calls Tryz.prog 257 #[.int .u32 x] w fun e w'=>e = .returned (.int .u32 (sB1 x))∧w'=w:=by
 go_enter Tryz.func257,Tryz.ntmps257
 go_wp2_with (go_at_call 294;refine (dturn_at _ _ (by decide) (by decide) _).mono ?_;rintro e w' ⟨rfl,rfl⟩)
 all_goals go_ret
 all_goals exact ⟨rfl,rfl⟩
theorem smallSigma0_any (x:Int) (w:World) :
   Calls Tryz.prog 260 #[.int .u32 x] w fun e w'=>e = .returned (.int .u32 (sS0 x))∧w'=w:=by
 go_enter Tryz.func260,Tryz.ntmps260
 go_wp2_with (go_at_call 294;refine (dturn_at _ _ (by decide) (by decide) _).mono ?_;rintro e w' ⟨rfl,rfl⟩)
 all_goals go_ret
 all_goals exact ⟨rfl,rfl⟩
theorem smallSigma1_any (x:Int) (w:World) :
   Calls Tryz.prog 259 #[.int .u32 x] w fun e w'=>e = .returned (.int .u32 (sS1 x))∧w'=w:=by
 go_enter Tryz.func259,Tryz.ntmps259
 go_wp2_with (go_at_call 294;refine (dturn_at _ _ (by decide) (by decide) _).mono ?_;rintro e w' ⟨rfl,rfl⟩)
 all_goals go_ret
 all_goals exact ⟨rfl,rfl⟩
def chs (e f g:Int):Int:=bits BinOp.xor IntKind.u32 (bits BinOp.and IntKind.u32 e f) (bits BinOp.and IntKind.u32 (bits BinOp.xor IntKind.u32 (if IntKind.u32.signed=true then -1 else IntKind.u32.max) e) g)
def mjs (a b c:Int):Int:=bits BinOp.xor IntKind.u32 (bits BinOp.xor IntKind.u32 (bits BinOp.and IntKind.u32 a b) (bits BinOp.and IntKind.u32 a c)) (bits BinOp.and IntKind.u32 b c)
structure R8 where
 (a b c d e f g h:Int)
def R8.t1 (r:R8) (k x:Int):Int:=(r.h+sB1 r.e+chs r.e r.f r.g+k+x)%4294967296
def R8.t2 (r:R8):Int:=(sB0 r.a+mjs r.a r.b r.c)%4294967296
def R8.next (r:R8) (k x:Int):R8:=⟨(r.t1 k x+r.t2)%4294967296,r.a,r.b,r.c,(r.d+r.t1 k x)%4294967296,r.e,r.f,r.g⟩
def rounds (r:R8) (F K:Nat→Int):Nat→R8
 | 0=>r
 | n+1=>(rounds r F K n).next (K n) (F n)
def R8.plus (r s:R8):R8:=⟨(r.a+s.a)%4294967296,(r.b+s.b)%4294967296,(r.c+s.c)%4294967296,(r.d+s.d)%4294967296,(r.e+s.e)%4294967296,(r.f+s.f)%4294967296,(r.g+s.g)%4294967296,(r.h+s.h)%4294967296⟩
def R8.vals (r:R8):Array Value := #[.int .u32 r.a, .int .u32 r.b, .int .u32 r.c, .int .u32 r.d, .int .u32 r.e, .int .u32 r.f, .int .u32 r.g, .int .u32 r.h]
structure MixIn (B:Nat) (s0 s1 s2 s3 s4 s5 s6 s7:Int) (F K:Nat→Int) (w wr:World):Prop where
 c0:wr.cell? ⟨B,0,none⟩=some (.int .u32 s0)
 c1:wr.cell? ⟨B,1,none⟩=some (.int .u32 s1)
 c2:wr.cell? ⟨B,2,none⟩=some (.int .u32 s2)
 c3:wr.cell? ⟨B,3,none⟩=some (.int .u32 s3)
 c4:wr.cell? ⟨B,4,none⟩=some (.int .u32 s4)
 c5:wr.cell? ⟨B,5,none⟩=some (.int .u32 s5)
 c6:wr.cell? ⟨B,6,none⟩=some (.int .u32 s6)
 c7:wr.cell? ⟨B,7,none⟩=some (.int .u32 s7)
 cw:∀ i:Nat,i<64→wr.cell? ⟨B+1,i,none⟩=some (.int .u32 (F i))
 ck:∀ i:Nat,i<64→wr.cell? ⟨4,i,none⟩=some (.int .u32 (K i))
 room:wr.heap[B+1+1]? = some (.cells #[.int .u32 0, .int .u32 0, .int .u32 0, .int .u32 0, .int .u32 0, .int .u32 0, .int .u32 0, .int .u32 0] 300 (0,0))
 bel:Below w.heap.size w wr
theorem alloc3 (w:World) (a b c:Obj):(((w.alloc a).alloc b).alloc c).heap[w.heap.size]? = some a∧(((w.alloc a).alloc b).alloc c).heap[w.heap.size+1]? = some b∧(((w.alloc a).alloc b).alloc c).heap[w.heap.size+1+1]? = some c∧Below w.heap.size w (((w.alloc a).alloc b).alloc c):=by
 have e1:(w.alloc a).heap.size=w.heap.size+1:=by simp
 have e2:((w.alloc a).alloc b).heap.size=w.heap.size+1+1:=by simp
 refine ⟨?_,?_,?_,?_⟩
 · rw[Below.heap_alloc _ _ _ (by omega),Below.heap_alloc _ _ _ (by omega),heap_alloc_new]
 · rw[Below.heap_alloc _ _ _ (by omega),← e1,heap_alloc_new]
 · rw[← e2,heap_alloc_new]
 · exact (((Below.refl _ w).alloc (Nat.le_refl _) a).alloc (by omega) b).alloc (by omega) c
theorem row_cell {w:World} {b:Nat} {cs:Array Value} {t:TypeId} (h:w.heap[b]? = some (.cells cs t (0,0))) (j:Nat):w.cell? ⟨b,j,none⟩=cs[j]? := by simp[World.cell?,h]
theorem row_free {w:World} {b:Nat} {cs:Array Value} {t:TypeId} (h:w.heap[b]? = some (.cells cs t (0,0))) (j:Nat):w.frozen? ⟨b,j,none⟩=false:=by simp[World.frozen?,h]
theorem MixIn.drewN {B:Nat} {s0 s1 s2 s3 s4 s5 s6 s7:Int} {F K:Nat→Int} {w wr:World} (h:MixIn B s0 s1 s2 s3 s4 s5 s6 s7 F K w wr) (n:Nat):MixIn B s0 s1 s2 s3 s4 s5 s6 s7 F K w (wr.drewN n) :=
 ⟨h.c0,h.c1,h.c2,h.c3,h.c4,h.c5,h.c6,h.c7,h.cw,h.ck,h.room,below_drewN h.bel n⟩
theorem mix_any (s0 s1 s2 s3 s4 s5 s6 s7:Int) (W:Array Value) (F K:Nat→Int) (hW:∀ i,i<64→W[i]? = some (.int .u32 (F i))) (w:World)
   (hg:4<w.heap.size)
   (hK:∀ i:Nat,i<64→w.cell? ⟨4,i,none⟩=some (.int .u32 (K i))) :
   Calls Tryz.prog 208 #[.agg #[.int .u32 s0, .int .u32 s1, .int .u32 s2, .int .u32 s3, .int .u32 s4, .int .u32 s5, .int .u32 s6, .int .u32 s7], .agg W] w fun e w'=>e = .returned (.agg (R8.plus ⟨s0,s1,s2,s3,s4,s5,s6,s7⟩ (rounds ⟨s0,s1,s2,s3,s4,s5,s6,s7⟩ F K 64)).vals)∧Below w.heap.size w w':=by
 go_enter Tryz.func208,Tryz.ntmps208
 go_wp2_with fail
 generalize hwb:World.alloc (World.alloc (World.alloc w (.cells #[.int .u32 s0, .int .u32 s1, .int .u32 s2, .int .u32 s3, .int .u32 s4, .int .u32 s5, .int .u32 s6, .int .u32 s7] 300)) (.cells W 303))
   (.cells #[.int .u32 0, .int .u32 0, .int .u32 0, .int .u32 0, .int .u32 0, .int .u32 0, .int .u32 0, .int .u32 0] 300)=wb
 obtain ⟨B,hB⟩:∃ B,w.heap.size=B:=⟨_,rfl⟩
 have hM:MixIn B s0 s1 s2 s3 s4 s5 s6 s7 F K w wb:=by
   subst hB hwb
   obtain ⟨h0,h1,h2,h3⟩:=alloc3 w (.cells #[.int .u32 s0, .int .u32 s1, .int .u32 s2, .int .u32 s3, .int .u32 s4, .int .u32 s5, .int .u32 s6, .int .u32 s7] 300) (.cells W 303)
     (.cells #[.int .u32 0, .int .u32 0, .int .u32 0, .int .u32 0, .int .u32 0, .int .u32 0, .int .u32 0, .int .u32 0] 300)
   exact ⟨row_cell h0 0,row_cell h0 1,row_cell h0 2,row_cell h0 3,row_cell h0 4,row_cell h0 5,row_cell h0 6,row_cell h0 7,fun i hi=>(row_cell h1 i).trans (hW i hi),fun i hi=>(h3.cell (p:=⟨4,i,none⟩) hg).trans (hK i hi),h2,h3⟩
 rw[hB]
 clear hwb
 obtain ⟨k0,k1,k2,k3,k4,k5,k6,k7, -, -, -, -⟩:=id hM
 have HM:=hide hM
 clear hM
 go_quiet (fail)
 go_wp2_with fail
 go_loopw [5,6,7,8,9,10,11,12,32] (fun a b c d e f g h i wr=>∃ (k:Nat) (r:R8),k≤64∧i = .int .i64 k∧a = .int .u32 r.a∧b = .int .u32 r.b∧c = .int .u32 r.c∧d = .int .u32 r.d∧e = .int .u32 r.e∧f = .int .u32 r.f∧g = .int .u32 r.g∧h = .int .u32 r.h∧Hid (r=rounds ⟨s0,s1,s2,s3,s4,s5,s6,s7⟩ F K k)∧Hid (MixIn B s0 s1 s2 s3 s4 s5 s6 s7 F K w wr))
   (fun _ _ _ _ _ _ _ _ i _=>64-(intOf i).toNat)
 case atStart=>exact ⟨0,⟨s0,s1,s2,s3,s4,s5,s6,s7⟩,by omega,rfl,rfl,rfl,rfl,rfl,rfl,rfl,rfl,rfl,hide rfl,hide (HM.out.drewN _)⟩
 case round =>
   obtain ⟨k,⟨a',b',c',d',e',f',g',h'⟩,hk,rfl,rfl,rfl,rfl,rfl,rfl,rfl,rfl,rfl,HR,HW⟩:=hrel
   by_cases hlt:k<64
   · have xw:=HW.out.cw k hlt
     have xk:=HW.out.ck k hlt
     have b64:(k:Int)<64:=by omega
     go_wp2_with fail
     go_quiet (first | (go_at_call 257;refine Calls.quiet_of_same (bigSigma1_any _ _)))
     go_wp2_with (go_at_call 258;refine (bigSigma0_any _ _).mono ?_;rintro e w' ⟨rfl,rfl⟩)
     go_roundw
     case rel =>
       refine ⟨k+1,R8.next ⟨a',b',c',d',e',f',g',h'⟩ (K k) (F k),by omega,by go_num,rfl,rfl,rfl,rfl,rfl,rfl,rfl,rfl,hide ?_,hide (HW.out.drewN _)⟩
       rw[rounds,← HR.out]
     case measure=>simp[intOf];omega
   · obtain rfl:k=64:=by omega
     obtain ⟨k0,k1,k2,k3,k4,k5,k6,k7, -, -,kr, -⟩:=id HW.out
     have r0:=(row_cell kr 0).trans (show _=some (.int .u32 0) from rfl)
     have r1:=(row_cell kr 1).trans (show _=some (.int .u32 0) from rfl)
     have r2:=(row_cell kr 2).trans (show _=some (.int .u32 0) from rfl)
     have r3:=(row_cell kr 3).trans (show _=some (.int .u32 0) from rfl)
     have r4:=(row_cell kr 4).trans (show _=some (.int .u32 0) from rfl)
     have r5:=(row_cell kr 5).trans (show _=some (.int .u32 0) from rfl)
     have r6:=(row_cell kr 6).trans (show _=some (.int .u32 0) from rfl)
     have r7:=(row_cell kr 7).trans (show _=some (.int .u32 0) from rfl)
     have f0:=row_free kr 0
     have f1:=row_free kr 1
     have f2:=row_free kr 2
     have f3:=row_free kr 3
     have f4:=row_free kr 4
     have f5:=row_free kr 5
     have f6:=row_free kr 6
     have f7:=row_free kr 7
     clear kr
     have hb:=HW.out.bel
     go_wp2_with fail
     have g0:=heap_setCell_same _ (B+1+1) 0 _ _ (.int .u32 ((s0+a')%4294967296)) HW.out.room
     have g1:=heap_setCell_same _ (B+1+1) 1 _ _ (.int .u32 ((s1+b')%4294967296)) g0
     have g2:=heap_setCell_same _ (B+1+1) 2 _ _ (.int .u32 ((s2+c')%4294967296)) g1
     have g3:=heap_setCell_same _ (B+1+1) 3 _ _ (.int .u32 ((s3+d')%4294967296)) g2
     have g4:=heap_setCell_same _ (B+1+1) 4 _ _ (.int .u32 ((s4+e')%4294967296)) g3
     have g5:=heap_setCell_same _ (B+1+1) 5 _ _ (.int .u32 ((s5+f')%4294967296)) g4
     have g6:=heap_setCell_same _ (B+1+1) 6 _ _ (.int .u32 ((s6+g')%4294967296)) g5
     have g7:=heap_setCell_same _ (B+1+1) 7 _ _ (.int .u32 ((s7+h')%4294967296)) g6
     have q:w.heap.size≤B+1+1:=by omega
     have hb8:=(((((((hb.setCell (p:=⟨B+1+1,0,none⟩) q (.int .u32 ((s0+a')%4294967296))).setCell (p:=⟨B+1+1,1,none⟩) q (.int .u32 ((s1+b')%4294967296))).setCell (p:=⟨B+1+1,2,none⟩) q (.int .u32 ((s2+c')%4294967296))).setCell (p:=⟨B+1+1,3,none⟩) q (.int .u32 ((s3+d')%4294967296))).setCell (p:=⟨B+1+1,4,none⟩) q (.int .u32 ((s4+e')%4294967296))).setCell (p:=⟨B+1+1,5,none⟩) q (.int .u32 ((s5+f')%4294967296))).setCell (p:=⟨B+1+1,6,none⟩) q (.int .u32 ((s6+g')%4294967296))).setCell (p:=⟨B+1+1,7,none⟩) q (.int .u32 ((s7+h')%4294967296))
     have g8:=g7.trans (show _=some (.cells (R8.plus ⟨s0,s1,s2,s3,s4,s5,s6,s7⟩ ⟨a',b',c',d',e',f',g',h'⟩).vals 300 (0,0)) from rfl)
     refine bodyPost_ret (results_cell_row rfl _ _ (B+1+1) _ _ (0,0) _ rfl g8 Tryz.underlying300 rfl (by kernel_rfl)) rfl ⟨?_,hb8⟩
     rw[← HR.out]
def R8.nth (r:R8):Nat→Int
 | 0=>r.a | 1=>r.b | 2=>r.c | 3=>r.d | 4=>r.e | 5=>r.f | 6=>r.g | _=>r.h
def byteAt (r:R8) (k:Nat):Int:=r.nth (k / 4) / 2^(24-k%4*8)%256
def sumTo (r:R8):Nat→Array Value
 | 0=>Array.replicate 32 (.int .u8 0)
 | k+1=>(sumTo r k).setIfInBounds k (.int .u8 (byteAt r k))
theorem sumTo_size (r:R8):∀ k,(sumTo r k).size=32
 | 0=>by simp[sumTo]
 | k+1=>by rw[sumTo,Array.size_setIfInBounds,sumTo_size r k]
theorem sumTo_one (r:R8):∀ k,∀ v∈(sumTo r k),v.oneCell'=true
 | 0,v,h=>by
   simp[sumTo] at h;subst h;rfl
 | k+1,v,h=>by
   rw[sumTo] at h
   rcases Array.mem_or_eq_of_mem_setIfInBounds h with h | rfl
   · exact sumTo_one r k v h
   · rfl
theorem sumTo_info (r:R8) (k:Nat):(Tryz.prog.info? 243).map (·.size)=some (sumTo r k).size:=by rw[sumTo_size];kernel_rfl
structure BytesIn (B:Nat) (r:R8) (k:Nat) (w wr:World):Prop where
 st:wr.heap[B]? = some (.cells r.vals 300 (0,0))
 out:wr.heap[B+1]? = some (.cells (sumTo r 0) 243 (0,0))
 sum:wr.heap[B+1+1]? = some (.cells (sumTo r k) 243 (0,0))
 bel:Below w.heap.size w wr
theorem bytes_any (r:R8) (w:World) :
   Calls Tryz.prog 210 #[.agg r.vals] w fun e w'=>e = .returned (.agg (sumTo r 32))∧Below w.heap.size w w':=by
 obtain ⟨s0,s1,s2,s3,s4,s5,s6,s7⟩:=r
 obtain ⟨R,hR⟩:∃ R:R8,(⟨s0,s1,s2,s3,s4,s5,s6,s7⟩:R8)=R:=⟨_,rfl⟩
 show Calls Tryz.prog _ #[.agg #[.int .u32 s0, .int .u32 s1, .int .u32 s2, .int .u32 s3, .int .u32 s4, .int .u32 s5, .int .u32 s6, .int .u32 s7]] w _
 rw[hR]
 have HR:=hide hR
 clear hR
 go_enter Tryz.func210,Tryz.ntmps210
 go_wp2_with fail
 go_loopw [5] (fun i wr=>∃ k:Nat,k≤32∧i = .int .i64 k∧Hid (BytesIn w.heap.size R k w wr)) (fun i _=>32-(intOf i).toNat)
 case atStart =>
   refine ⟨0,by omega,rfl,hide ?_⟩
   obtain ⟨h0,h1,h2,h3⟩:=alloc3 w (.cells #[.int .u32 s0, .int .u32 s1, .int .u32 s2, .int .u32 s3, .int .u32 s4, .int .u32 s5, .int .u32 s6, .int .u32 s7] 300) (.cells (sumTo R 0) 243) (.cells (sumTo R 0) 243)
   exact ⟨by rw[← HR.out];exact h0,h1,h2,h3⟩
 case round =>
   obtain ⟨k,hk,rfl,HW⟩:=hrel
   by_cases hlt:k<32
   · obtain ⟨old,hold⟩:∃ old,(sumTo R k)[k]? = some old:=⟨_,Array.getElem?_eq_getElem (by rw[sumTo_size];exact hlt)⟩
     have rk:=(row_cell HW.out.sum k).trans hold
     have fk:=row_free HW.out.sum k
     clear hold
     have hst:=HW.out.st
     rw[← HR.out] at hst
     have k0:=(row_cell hst 0).trans (show _=some (.int .u32 s0) from rfl)
     have k1:=(row_cell hst 1).trans (show _=some (.int .u32 s1) from rfl)
     have k2:=(row_cell hst 2).trans (show _=some (.int .u32 s2) from rfl)
     have k3:=(row_cell hst 3).trans (show _=some (.int .u32 s3) from rfl)
     have k4:=(row_cell hst 4).trans (show _=some (.int .u32 s4) from rfl)
     have k5:=(row_cell hst 5).trans (show _=some (.int .u32 s5) from rfl)
     have k6:=(row_cell hst 6).trans (show _=some (.int .u32 s6) from rfl)
     have k7:=(row_cell hst 7).trans (show _=some (.int .u32 s7) from rfl)
     clear hst
     have HN:Hid (∀ u,(.int .u8 (byteAt R k))=u→BytesIn w.heap.size R (k+1) w (wr.setCell ⟨w.heap.size+1+1,k,none⟩ u)):=hide fun u hu=>by
       subst hu
       exact ⟨(Below.heap_setCell _ _ _ _ (by simp;omega)).trans HW.out.st,(Below.heap_setCell _ _ _ _ (by simp)).trans HW.out.out,heap_setCell_same _ _ k _ _ _ HW.out.sum,HW.out.bel.setCell (p:=⟨w.heap.size+1+1,k,none⟩) (by simp;omega) _⟩
     rcases (show k=0∨k=1∨k=2∨k=3∨k=4∨k=5∨k=6∨k=7∨k=8∨k=9∨k=10∨k=11∨k=12∨k=13∨k=14∨k=15∨k=16∨k=17∨k=18∨k=19∨k=20∨k=21∨k=22∨k=23∨k=24∨k=25∨k=26∨k=27∨k=28∨k=29∨k=30∨k=31 from by omega) with rfl | rfl | rfl | rfl | rfl | rfl | rfl | rfl | rfl | rfl | rfl | rfl | rfl | rfl | rfl | rfl | rfl | rfl | rfl | rfl | rfl | rfl | rfl | rfl | rfl | rfl | rfl | rfl | rfl | rfl | rfl | rfl
     all_goals
       go_wp2_with fail
       go_roundw
       case rel=>exact ⟨_,by omega,by go_num,hide (HN.out _ (by rw[← HR.out];simp[byteAt,R8.nth]))⟩
       case measure=>simp[intOf]
   · obtain rfl:k=32:=by omega
     have h1:=HW.out.out
     have h2:=HW.out.sum
     have hb:=HW.out.bel
     clear HW HR
     have h3:=setRow_heap wr (w.heap.size+1) _ (sumTo R 32) _ _ h1
     have hb3:=below_setRow hb (g:=w.heap.size+1) (by omega) (sumTo R 32)
     have hone:(sumTo R 32).all (·.oneCell')=true:=Array.all_eq_true_iff_forall_mem.2 (sumTo_one R 32)
     have HH:=hide h1
     have HH2:=hide h2
     have HH3:=hide h3
     have HO:=hide hone
     clear h1 h2 h3 hone
     go_wp2_with (first
       | (refine wpList_load_row rfl 243 _ rfl (w.heap.size+1+1) rfl _ (sumTo R 32) (0,0) _ HH2.out Tryz.underlying243 rfl (sumTo_info R 32) ?_)
       | (refine wpList_store_row rfl 243 _ _ rfl (w.heap.size+1) (sumTo R 32) rfl rfl _ (sumTo R 0) HH.out (sumTo_info R 32) ((sumTo_size R 0).trans (sumTo_size R 32).symm) HO.out ?_))
     refine bodyPost_ret (results_cell_row rfl _ _ (w.heap.size+1) _ _ (0,0) _ rfl HH3.out Tryz.underlying243 rfl (sumTo_info R 32)) rfl ⟨rfl,hb3⟩
def word4 (b:Nat→Int) (k:Nat):Int :=
 bits BinOp.or IntKind.u32 (bits BinOp.or IntKind.u32 (bits BinOp.or IntKind.u32 (b (4*k)%4294967296*16777216%4294967296) (b (4*k+1)%4294967296*65536%4294967296)) (b (4*k+2)%4294967296*256%4294967296)) (b (4*k+3)%4294967296)
def wf (b:Nat→Int) (n:Nat):Int :=
 if h:n<16 then word4 b n else (sS1 (wf b (n-2))+wf b (n-7)+sS0 (wf b (n-15))+wf b (n-16))%4294967296
def schTo (b:Nat→Int):Nat→Array Value
 | 0=>Array.replicate 64 (.int .u32 0)
 | k+1=>(schTo b k).setIfInBounds k (.int .u32 (wf b k))
theorem schTo_size (b:Nat→Int):∀ k,(schTo b k).size=64
 | 0=>by simp[schTo]
 | k+1=>by rw[schTo,Array.size_setIfInBounds,schTo_size b k]
theorem schTo_get (b:Nat→Int) (j:Nat) (hj:j<64):∀ k,j<k→(schTo b k)[j]? = some (.int .u32 (wf b j))
 | 0,h=>by omega
 | k+1,h=>by
   rw[schTo,Array.getElem?_setIfInBounds]
   by_cases e:k=j
   · subst e;simp[schTo_size,hj]
   · rw[if_neg e];exact schTo_get b j hj k (by omega)
theorem schTo_one (b:Nat→Int):∀ k,∀ v∈(schTo b k),v.oneCell'=true
 | 0,v,h=>by
   simp[schTo] at h;subst h;rfl
 | k+1,v,h=>by
   rw[schTo] at h
   rcases Array.mem_or_eq_of_mem_setIfInBounds h with h | rfl
   · exact schTo_one b k v h
   · rfl
theorem schTo_info (b:Nat→Int) (k:Nat):(Tryz.prog.info? 303).map (·.size)=some (schTo b k).size:=by rw[schTo_size];kernel_rfl
structure SchIn (b:Nat→Int) (k:Nat) (w wr:World):Prop where
 out:wr.heap[w.heap.size]? = some (.cells (schTo b 0) 303 (0,0))
 row:wr.heap[w.heap.size+1]? = some (.cells (schTo b k) 303 (0,0))
 bel:Below w.heap.size w wr
theorem alloc2 (w:World) (a b:Obj):((w.alloc a).alloc b).heap[w.heap.size]? = some a∧((w.alloc a).alloc b).heap[w.heap.size+1]? = some b∧Below w.heap.size w ((w.alloc a).alloc b):=by
 have e1:(w.alloc a).heap.size=w.heap.size+1:=by simp
 refine ⟨?_,?_,?_⟩
 · rw[Below.heap_alloc _ _ _ (by omega),heap_alloc_new]
 · rw[← e1,heap_alloc_new]
 · exact ((Below.refl _ w).alloc (Nat.le_refl _) a).alloc (by omega) b
theorem SchIn.next {b:Nat→Int} {k:Nat} {w wr:World} (h:SchIn b k w wr) {u:Value} (hu:u = .int .u32 (wf b k)):SchIn b (k+1) w (wr.setCell ⟨w.heap.size+1,k,none⟩ u):=by
 subst hu
 exact ⟨(Below.heap_setCell _ _ _ _ (by simp)).trans h.out,heap_setCell_same _ _ k _ _ _ h.row,h.bel.setCell (p:=⟨w.heap.size+1,k,none⟩) (by simp) _⟩
theorem SchIn.drew {b:Nat→Int} {k:Nat} {w wr:World} (h:SchIn b k w wr):SchIn b k w wr.drew:=⟨h.out,h.row,h.bel.drew⟩
theorem wf_low {b:Nat→Int} {k:Nat} (h:k<16):wf b k=word4 b k:=by rw[wf,dif_pos h]
theorem wf_high {b:Nat→Int} {k:Nat} (h : ¬ k<16):wf b k=(sS1 (wf b (k-2))+wf b (k-7)+sS0 (wf b (k-15))+wf b (k-16))%4294967296:=by
 conv=>lhs;rw[wf,dif_neg h]
theorem wrap_four (a b c d:Int):Value.int .u32 (IntKind.u32.wrap (IntKind.u32.wrap (IntKind.u32.wrap (a+b)+c)+d)) = .int .u32 ((a+b+c+d)%4294967296):=by
 have e:∀ x:Int,IntKind.u32.wrap x=x%4294967296:=fun x=>rfl
 rw[e,e,e];congr 1;omega
theorem wrap_small (m:Nat) (h:m<64):IntKind.i64.wrap (m:Int)=(m:Int):=by
 have:∀ m:Fin 64,IntKind.i64.wrap (m.val:Int)=(m.val:Int):=by decide
 exact this ⟨m,h⟩
theorem schedule_any (b:Nat→Int) (g o cap:Nat) (hcap:64≤cap) (w:World) (hg:g<w.heap.size)
   (hb:∀ j:Nat,j<64→w.cell? ⟨g,o+j,none⟩=some (.int .u8 (b j))) :
   Calls Tryz.prog 209 #[.slice (some ⟨g,o,none⟩) 64 cap] w fun e w'=>e = .returned (.agg (schTo b 64))∧Below w.heap.size w w':=by
 go_enter Tryz.func209,Tryz.ntmps209
 go_wp2_with fail
 go_loopw [7] (fun i wr=>∃ k:Nat,k≤16∧i = .int .i64 k∧Hid (SchIn b k w wr)) (fun i _=>16-(intOf i).toNat)
 case atStart =>
   obtain ⟨h0,h1,h2⟩:=alloc2 w (.cells (schTo b 0) 303) (.cells (schTo b 0) 303)
   exact ⟨0,by omega,rfl,hide ⟨h0,h1,h2⟩⟩
 case round =>
   obtain ⟨k,hk,rfl,HW⟩:=hrel
   by_cases hlt:k<16
   · have c0:wr.cell? ⟨g,o+4*k,none⟩=some (.int .u8 (b (4*k))):=(HW.out.bel.cell (p:=⟨g,o+4*k,none⟩) hg).trans (hb (4*k) (by omega))
     have c1:wr.cell? ⟨g,o+4*k+1,none⟩=some (.int .u8 (b (4*k+1))):=(HW.out.bel.cell (p:=⟨g,o+4*k+1,none⟩) hg).trans (hb (4*k+1) (by omega))
     have c2:wr.cell? ⟨g,o+4*k+2,none⟩=some (.int .u8 (b (4*k+2))):=(HW.out.bel.cell (p:=⟨g,o+4*k+2,none⟩) hg).trans (hb (4*k+2) (by omega))
     have c3:wr.cell? ⟨g,o+4*k+3,none⟩=some (.int .u8 (b (4*k+3))):=(HW.out.bel.cell (p:=⟨g,o+4*k+3,none⟩) hg).trans (hb (4*k+3) (by omega))
     obtain ⟨old,hold⟩:∃ old,(schTo b k)[k]? = some old:=⟨_,Array.getElem?_eq_getElem (by rw[schTo_size];omega)⟩
     have d0:=(row_cell HW.out.row k).trans hold
     have d1:=row_free HW.out.row k
     clear hold
     have HL:=hide (wf_low (b:=b) hlt)
     go_wp2_with fail
     go_region
     all_goals go_wp2_with fail
     all_goals go_roundw
     case rel=>exact ⟨k+1,by omega,by go_num,hide (HW.out.next (by rw[HL.out];rfl)).drew⟩
     case measure=>simp[intOf];omega
   · obtain rfl:k=16:=by omega
     go_wp2_with fail
     rw[show ((16:Nat):Int)=16 from rfl]
     go_loopw [6] (fun i wr=>∃ k:Nat,16≤k∧k≤64∧i = .int .i64 k∧Hid (SchIn b k w wr)) (fun i _=>64-(intOf i).toNat)
     case atStart=>exact ⟨16,by omega,by omega,rfl,HW⟩
     case round =>
       obtain ⟨k,hk1,hk2,rfl,HX⟩:=hrel
       clear HW
       by_cases hlt2:k<64
       · have gk:(k:Int)<64:=by omega
         obtain ⟨m2,hm2⟩:∃ m,k-2=m:=⟨_,rfl⟩
         have z2:(k:Int)-2=(m2:Int):=by omega
         have l2:(m2:Int)<64:=by omega
         have y2:IntKind.i64.wrap (m2:Int)=(m2:Int):=wrap_small m2 (by omega)
         have e2:=(row_cell HX.out.row m2).trans (schTo_get b m2 (by omega) k (by omega))
         obtain ⟨m7,hm7⟩:∃ m,k-7=m:=⟨_,rfl⟩
         have z7:(k:Int)-7=(m7:Int):=by omega
         have l7:(m7:Int)<64:=by omega
         have y7:IntKind.i64.wrap (m7:Int)=(m7:Int):=wrap_small m7 (by omega)
         have e7:=(row_cell HX.out.row m7).trans (schTo_get b m7 (by omega) k (by omega))
         obtain ⟨m15,hm15⟩:∃ m,k-15=m:=⟨_,rfl⟩
         have z15:(k:Int)-15=(m15:Int):=by omega
         have l15:(m15:Int)<64:=by omega
         have y15:IntKind.i64.wrap (m15:Int)=(m15:Int):=wrap_small m15 (by omega)
         have e15:=(row_cell HX.out.row m15).trans (schTo_get b m15 (by omega) k (by omega))
         obtain ⟨m16,hm16⟩:∃ m,k-16=m:=⟨_,rfl⟩
         have z16:(k:Int)-16=(m16:Int):=by omega
         have l16:(m16:Int)<64:=by omega
         have y16:IntKind.i64.wrap (m16:Int)=(m16:Int):=wrap_small m16 (by omega)
         have e16:=(row_cell HX.out.row m16).trans (schTo_get b m16 (by omega) k (by omega))
         obtain ⟨old,hold⟩:∃ old,(schTo b k)[k]? = some old:=⟨_,Array.getElem?_eq_getElem (by rw[schTo_size];omega)⟩
         have d0:=(row_cell HX.out.row k).trans hold
         have d1:=row_free HX.out.row k
         clear hold
         have hw:=wf_high (b:=b) (k:=k) (by omega)
         rw[hm2,hm7,hm15,hm16] at hw
         have HL:=hide hw
         clear hw hm2 hm7 hm15 hm16
         have n2 : ¬ (m2=k):=by omega
         have n7 : ¬ (m7=k):=by omega
         have n15 : ¬ (m15=k):=by omega
         have n16 : ¬ (m16=k):=by omega
         go_wp2_with fail
         go_region_held3 (fun w'=>w'.cell? ⟨w.heap.size+1,m2,none⟩=some (.int .u32 (wf b m2))∧w'.cell? ⟨w.heap.size+1,m7,none⟩=some (.int .u32 (wf b m7))∧w'.cell? ⟨w.heap.size+1,m15,none⟩=some (.int .u32 (wf b m15))∧w'.cell? ⟨w.heap.size+1,m16,none⟩=some (.int .u32 (wf b m16)))
           (first | assumption | simp[go_sem, *])
           (first
             | (go_at_call 259;refine (smallSigma1_any _ _).mono ?_;rintro e w' ⟨rfl,rfl⟩)
             | (go_at_call 260;refine (smallSigma0_any _ _).mono ?_;rintro e w' ⟨rfl,rfl⟩))
         all_goals go_wp2_with fail
         go_roundw
         case rel =>
           refine ⟨k+1,by omega,by omega,by go_num,hide (SchIn.drew (SchIn.next HX.out ?_))⟩
           rw[HL.out];exact wrap_four _ _ _ _
         case measure=>simp[intOf];omega
       · obtain rfl:k=64:=by omega
         have h1:=HX.out.out
         have h2:=HX.out.row
         have hb':=HX.out.bel
         clear HX
         have h3:=setRow_heap wr w.heap.size _ (schTo b 64) _ _ h1
         have hb3:=below_setRow hb' (g:=w.heap.size) (by omega) (schTo b 64)
         have hone:(schTo b 64).all (·.oneCell')=true:=Array.all_eq_true_iff_forall_mem.2 (schTo_one b 64)
         have HH:=hide h1
         have HH2:=hide h2
         have HH3:=hide h3
         have HO:=hide hone
         clear h1 h2 h3 hone
         go_wp2_with (first
           | (refine wpList_load_row rfl 303 _ rfl (w.heap.size+1) rfl _ (schTo b 64) (0,0) _ HH2.out Tryz.underlying303 rfl (schTo_info b 64) ?_)
           | (refine wpList_store_row rfl 303 _ _ rfl w.heap.size (schTo b 64) rfl rfl _ (schTo b 0) HH.out (schTo_info b 64) ((schTo_size b 0).trans (schTo_size b 64).symm) HO.out ?_))
         refine bodyPost_ret (results_cell_row rfl _ _ w.heap.size _ _ (0,0) _ rfl HH3.out Tryz.underlying303 rfl (schTo_info b 64)) rfl ⟨rfl,hb3⟩
end
section
open Go
theorem alloc_old (w:World) (o:Obj) {r:Nat} (h:r<w.heap.size):(w.alloc o).heap[r]? = w.heap[r]? := by
 first | exact heap_alloc_old w o h | exact heap_alloc_old w o r h
def NoMark (fz:Nat × Nat) (n:Nat):Prop:=∀ j,j<n → ¬ (fz.1≤j∧j<fz.2)
def OwnT (w:World) (base:Nat) (e:TypeId) (v:Value) (n:Nat) (xs:List Value):Prop :=
 xs.length=n∧∃ g cap cur fz,v = .slice (some ⟨g,0,none⟩) n cap∧base≤g∧w.heap[g]? = some (.cells cur e fz)∧NoMark fz cap∧n≤cap∧cap≤maxLen∧cur.size=cap∧cur.toList.take n=xs
section
variable {w:World} {base:Nat} {e:TypeId} {v:Value} {n:Nat} {xs:List Value}
theorem OwnT.lt (h:OwnT w base e v n xs):∀ k,v.ownBlock=some k→base≤k∧k<w.heap.size:=by
 intro k hk
 obtain ⟨_,g,cap,cur,fz,rfl,hb,hg,_⟩:=h
 simp[Value.ownBlock] at hk
 subst hk
 exact ⟨hb,(Array.getElem?_eq_some_iff.1 hg).1⟩
theorem OwnT.shape (h:OwnT w base e v n xs):∃ g cap,v = .slice (some ⟨g,0,none⟩) n cap∧base≤g∧g<w.heap.size∧n≤cap∧cap≤maxLen∧∀ j,w.cell? ⟨g,j,none⟩=xs[j]? ∨ n≤j:=by
 obtain ⟨hl,g,cap,cur,fz,rfl,hb,hg,_,h1,h2,h3,h4⟩:=h
 refine ⟨g,cap,rfl,hb,(Array.getElem?_eq_some_iff.1 hg).1,h1,h2,fun j => ?_⟩
 by_cases hj:j<n
 · left
   rw[← h4,List.getElem?_take,if_pos hj]
   simp[World.cell?,hg]
 · right;omega
theorem OwnT.alloc (h:OwnT w base e v n xs) (o:Obj):OwnT (w.alloc o) base e v n xs:=by
 obtain ⟨hl,g,cap,cur,fz,rfl,hb,hg,rest⟩:=h
 exact ⟨hl,g,cap,cur,fz,rfl,hb,(alloc_old w o (Array.getElem?_eq_some_iff.1 hg).1).trans hg,rest⟩
end
theorem storeCells_T (P:Program) (g o:Nat) (t:TypeId) (fz:Nat × Nat) (top:Nat) (hm:NoMark fz top):∀ (vs:List Value) (i:Nat) (cur:Array Value) (w:World),w.heap[g]? = some (.cells cur t fz)→cur.size=top→o+i+vs.length≤cur.size→(∀ v∈vs,v.oneCell'=true) →
   (storeCells ⟨g,o,none⟩ vs i).run P w = .ok () (w.setRow g (cur.toList.take (o+i)++vs++cur.toList.drop (o+i+vs.length)).toArray)
 | [],i,cur,w,hg,_,_,_=>by
   simp only[storeCells,List.append_nil,List.length_nil,Nat.add_zero,List.take_append_drop,Array.toArray_toList]
   rw[setRow_self w g cur t fz hg]
   rfl
 | v::rest,i,cur,w,hg,htop,hl,h1=>by
   have hi:o+i<cur.size:=by simp at hl;omega
   have hadd:(⟨g,o,none⟩:Addr).add i=⟨g,o+i,none⟩:=by unfold Addr.add;split<;>simp_all
   have hcell:w.cell? ⟨g,o+i,none⟩=some cur[o+i]:=by simp[World.cell?,hg,hi]
   have hfro:w.frozen? ⟨g,o+i,none⟩=false:=by
     have hq:=hm (o+i) (by omega)
     obtain ⟨lo,hi'⟩:=fz
     simp only at hq
     simp only[World.frozen?,hg,Bool.and_eq_false_iff,decide_eq_false_iff_not]
     omega
   have hst:(store ((⟨g,o,none⟩:Addr).add i) v).run P w = .ok () (w.setRow g (cur.setIfInBounds (o+i) v)):=by
     rw[hadd,run_store P w _ v _ (h1 v (by simp)),hcell]
     simp[hfro,setCell_eq_setRow w g (o+i) cur t fz v hg]
   have ih:=storeCells_T P g o t fz top hm rest (i+1) (cur.setIfInBounds (o+i) v) (w.setRow g (cur.setIfInBounds (o+i) v)) (setRow_heap w g cur _ t _ hg) (by simpa using htop) (by simp at hl ⊢;omega) (fun x hx=>h1 x (by simp[hx]))
   simp only[storeCells,Sem.run_bind,hst,Result.andThen_ok,ih,setRow_setRow]
   congr 3
   have e:=list_seg_step cur.toList (o+i) v rest (by simp at hl ⊢;omega)
   simpa [Array.toList_setIfInBounds,Nat.add_assoc] using e
section
variable {P:Program} (w:World)
theorem append_T (base:Nat) (t ty e:TypeId) (i:TypeInfo) (z:Value) (ht:P.underlying t=some (.slice e)) (hi:P.info? e=some i) (hz:i.zero=some z)
   (hsize:i.size=1) (hby:i.bytes=1) (hzs:z.cells.size=1)
   (v:Value) (n:Nat) (xs:List Value) (hown:OwnT w base e v n xs)
   (a:Addr) (m c:Nat) (news:List Value) (hl:news.length=m) (hnews:∀ j u,news[j]? = some u→w.cell? (a.add j)=some u) (h1:∀ u∈news,u.oneCell'=true)
   (h63:n+m≤maxLen) (hbytes:n+m≤140737488355328) (hbase:base≤w.heap.size) :
   ∃ v' w',(Builtin.append_ #[t,t] ty #[v, .slice (some a) m c]).run P w = .ok v' w'∧OwnT w' base e v' (n+m) (xs++news)∧w.grownBy w' v.ownBlock:=by
 obtain ⟨hxl,g,cap,cur,fz,rfl,hbg,hg,hfz,hnc,hcm,hcs,htake⟩:=hown
 have hsmall:n+m≤9223372036854775807:=by simp only[maxLen] at h63;omega
 have hlen:(xs++news).length=n+m:=by rw[List.length_append,hxl,hl]
 by_cases hroom:n+m≤cap
 · have hfit:n*i.size+news.length≤cur.size:=by rw[hl,hcs,hsize];omega
   have hf:=run_firstCells_some (P:=P) w i.size m a m c news (by rw[hl,hsize];omega) hnews
   have hst:=storeCells_T P g (n*i.size) e fz cap hfz news 0 cur w hg hcs (by simpa using hfit) h1
   simp only[Nat.add_zero] at hst
   have hr:(Builtin.append_ #[t,t] ty #[.slice (some ⟨g,0,none⟩) n cap, .slice (some a) m c]).run P w =
     .ok (.slice (some ⟨g,0,none⟩) (n+m) cap) (w.setRow g (cur.toList.take (n*i.size)++news++cur.toList.drop (n*i.size+news.length)).toArray):=by
     simp[Builtin.append_,run_underlying ht,sizeOf,typeInfo,hi,Builtin.lenOf,hroom,hf,Addr.add_lit,hst]
   rw[hsize,Nat.mul_one] at hr
   refine ⟨_,_,hr,⟨hlen,g,cap,_,fz,rfl,hbg,setRow_heap w g cur _ e _ hg,hfz,hroom,hcm,?_,?_⟩,⟨rfl,rfl,rfl,by simp,fun k _ hk=>setRow_other w g k _ (fun e=>hk (by simp[Value.ownBlock,e]))⟩⟩
   · simp only[List.size_toArray,List.length_append,List.length_take,List.length_drop,Array.length_toList]
     omega
   · rw[htake,← hlen]
     exact List.take_left
 · have holds:∀ j u,xs[j]? = some u→w.cell? ((⟨g,0,none⟩:Addr).add j)=some u:=by
     intro j u hu
     have hadd:(⟨g,0,none⟩:Addr).add j=⟨g,j,none⟩:=by unfold Addr.add;split<;>simp_all
     rw[hadd]
     rw[← htake,List.getElem?_take] at hu
     split at hu
     · simpa [World.cell?,hg] using hu
     · cases hu
   have hr:=run_append_grow (P:=P) w t ty e i z ht hi hz ⟨g,0,none⟩ n cap xs (by rw[hxl,hsize];omega) holds a m c news (by rw[hl,hsize];omega) hnews (by omega) (by omega) (growslice_fits (by omega) (by rw[hby];omega))
   have hge:=grownCap_ge w (n+m) cap e
   have hcm2:grownCap w (n+m) cap e≤maxLen:=grownCap_le_maxLen w (n+m) cap e h63
   refine ⟨_,_,hr,⟨hlen,w.heap.size,_,_,(0,0),rfl,hbase,heap_alloc_new w.drew _,fun j _ h=>by simp at h,hge,hcm2,?_,?_⟩,⟨rfl,rfl,rfl,by simp,fun k hk _=>alloc_old w.drew _ hk⟩⟩
   · simp only[Array.size_append,List.size_toArray,size_zeroCells,hzs,hxl,hl]
     omega
   · simp only[Array.toList_append,List.append_assoc]
     rw[← List.append_assoc,← hlen]
     exact List.take_left
theorem wpList_append_T {ops:Array Oper} {rest:List Oper} {o:Oper} {a:Act} {Q:Exit→Act→World→Prop} (hgd:o.guard=none) (s x:Operand) (t:TypeId)
   (ho:o.op = .call { callee := .builtin .append,args := #[s,x],argTypes := #[t,t] })
   (base:Nat) (e:TypeId) (i:TypeInfo) (z:Value) (ht:P.underlying t=some (.slice e)) (hi:P.info? e=some i) (hz:i.zero=some z)
   (hsize:i.size=1) (hby:i.bytes=1) (hzs:z.cells.size=1)
   (v:Value) (n:Nat) (xs:List Value) (hs:a.eval s=v) (hown:OwnT w base e v n xs)
   (ad:Addr) (m c:Nat) (news:List Value) (hx:a.eval x = .slice (some ad) m c) (hl:news.length=m) (hnews:∀ j u,news[j]? = some u→w.cell? (ad.add j)=some u) (h1:∀ u∈news,u.oneCell'=true)
   (h63:n+m≤maxLen) (hbytes:n+m≤140737488355328) (hbase:base≤w.heap.size)
   (h:∀ v' w',OwnT w' base e v' (n+m) (xs++news)→w.grownBy w' v.ownBlock→wpList P ops Q rest (a.put o.dst v') w'):wpList P ops Q (o::rest) a w:=by
 refine wpList_plain hgd fun K hK => ?_
 obtain ⟨v',w',hr,h2,h3⟩:=append_T (P:=P) w base t o.type e i z ht hi hz hsize hby hzs v n xs hown ad m c news hl hnews h1 h63 hbytes hbase
 unfold Oper.wp execOp
 simp only[ho,resolve,invoke,builtin,Sem.run_bind,Sem.run_pure,Result.andThen_ok,List.map_toArray,List.map_cons,List.map_nil,hs,hx,hr]
 exact hK _ _ (h v' w' h2 h3)
end
def bcells (l:List UInt8):List Value:=l.map fun c => .int .u8 c.toNat
theorem ownT_bytes (w:World) (e:TypeId) (x:List UInt8) (hx:x.length≤1000000):OwnT (Lib.bytesWorld w e ⟨x.toArray⟩) w.heap.size e (.slice (some ⟨w.heap.size,0,none⟩) x.length (grownCap w x.length 0 e)) x.length (bcells x):=by
 have hge:=grownCap_ge w x.length 0 e
 have hcm:=grownCap_le_maxLen w x.length 0 e (by unfold maxLen;omega)
 refine ⟨by simp[bcells],w.heap.size,grownCap w x.length 0 e,_,_,rfl,Nat.le_refl _,Lib.bytesWorld_at_new w e _,fun j hj h => ?_,hge,hcm,?_,?_⟩
 · simp[Lib.bytesCells] at h
   have:(⟨x.toArray⟩:ByteArray).size=x.length:=by simp[ByteArray.size]
   rw[this] at h
   omega
 · simp[Lib.bytesCells]
   have:(⟨x.toArray⟩:ByteArray).size=x.length:=by simp[ByteArray.size]
   rw[this]
   omega
 · simp[Lib.bytesCells,bcells]
end
section
open Go.RowKit
def zc (n:Nat):Nat:=(119-n%64)%64
def lenB (n k:Nat):List UInt8:=(List.range k).map fun i=>UInt8.ofNat (8*n / 2^(56-8*i))
def padTo (x:List UInt8) (z k:Nat):List UInt8:=x++128::(List.replicate z 0++lenB x.length k)
def padB (x:List UInt8):List UInt8:=padTo x (zc x.length) 8
theorem padTo_len (x:List UInt8) (z k:Nat):(padTo x z k).length=x.length+1+z+k:=by simp[padTo,lenB];omega
theorem padB_len (x:List UInt8):(padB x).length=x.length+1+zc x.length+8:=padTo_len _ _ _
theorem padB_mod (x:List UInt8):(padB x).length%64=0:=by rw[padB_len,zc];omega
theorem bcells_app (a b:List UInt8):bcells (a++b)=bcells a++bcells b:=by simp[bcells]
theorem padTo_zero (x:List UInt8) (z:Nat):padTo x (z+1) 0=padTo x z 0++[0]:=by simp[padTo,lenB,List.replicate_succ']
theorem padTo_byte (x:List UInt8) (z k:Nat):padTo x z (k+1)=padTo x z k++[UInt8.ofNat (8*x.length / 2^(56-8*k))]:=by simp[padTo,lenB,List.range_succ]
def lenOf:Value→Nat
 | .slice _ n _=>n
 | _=>0
theorem info_byte:(Tryz.prog.info? 5).map (fun i=>(i.zero,i.size,i.bytes))=some (some (.int .u8 0),1,1):=by kernel_rfl
theorem info_three {P:Program} {t:TypeId} {z:Value} {n b:Nat} (h:(P.info? t).map (fun i=>(i.zero,i.size,i.bytes))=some (some z,n,b)):∃ i0,P.info? t=some i0∧i0.zero=some z∧i0.size=n∧i0.bytes=b:=by
 cases hi:P.info? t with
 | none=>simp[hi] at h
 | some i=>simp[hi] at h;exact ⟨i,rfl,h.1,h.2.1,h.2.2⟩
theorem own_next {wr:World} {b:Nat} {e:TypeId} {v u:Value} {m:Nat} {x:List UInt8} {z k:Nat} (h:OwnT wr b e v m (bcells (padTo x z k)++[u])) (hu:u = .int .u8 (UInt8.ofNat (8*x.length / 2^(56-8*k))).toNat):OwnT wr b e v m (bcells (padTo x z (k+1))):=by
 rw[padTo_byte,bcells_app];subst hu;exact h
theorem conv_bytes (x:List UInt8) (hx:x.length≤1000000) (w:World):∃ (w1:World) (cap:Nat),(convert 9 47 (.string ⟨x.toArray⟩)).run Tryz.prog w = .ok (.slice (some ⟨w.heap.size,0,none⟩) x.length cap) w1
   ∧ OwnT w1 w.heap.size 5 (.slice (some ⟨w.heap.size,0,none⟩) x.length cap) x.length (bcells x)∧Below w.heap.size w w1:=by
 refine ⟨_,_,?_,ownT_bytes w 5 x hx,below_bytesWorld w 5 _⟩
 have:=Lib.run_convert_string_bytes (P:=Tryz.prog) w 9 47 5 ⟨x.toArray⟩ Tryz.underlying9 Tryz.underlying47 Tryz.underlying5
 simpa [ByteArray.size] using this
theorem pad_any (x:List UInt8) (hx:x.length≤1000000) (w:World) :
   Calls Tryz.prog 207 #[.string ⟨x.toArray⟩] w fun e w'=>∃ v,e = .returned v∧OwnT w' w.heap.size 5 v (padB x).length (bcells (padB x))∧Below w.heap.size w w':=by
 obtain ⟨i0,hi,hz0,hz1,hz2⟩:=info_three info_byte
 obtain ⟨w1,cap,hrun,hown,hb⟩:=conv_bytes x hx w
 have HO:=hide hown;clear hown
 have HB:=hide hb;clear hb
 go_enter Tryz.func207,Tryz.ntmps207
 go_wp2_with (first
   | (at_builtin;refine wpList_append_T _ rfl _ _ 47 rfl w.heap.size 5 i0 (.int .u8 0) Tryz.underlying47 hi hz0 hz1 hz2 rfl _ _ _ rfl (HO.out.alloc _) ⟨w1.heap.size,0,none⟩ 1 1 [.int .u8 128] rfl rfl (cell_one_new _ _ _) (fun x hx=>by simp at hx;subst hx;rfl) (by unfold maxLen;omega) (by omega) (by have:=HB.out.size;simp;omega) ?_;intro v' w3 hown' hgrow3))
 obtain ⟨g1,cap1,rfl,hg1,hg1', -, -, -⟩:=hown'.shape
 have e1:bcells x++[Value.int .u8 128]=bcells (padTo x 0 0):=by simp[padTo,lenB,bcells]
 rw[e1] at hown'
 have hb3:Below w.heap.size w w3:=(HB.out.alloc (by have:=HB.out.size;omega) _).grown hgrow3 (by have:=HB.out.size;simp;omega) (fun k hk=>(HO.out.lt k hk).1)
 go_loopw [3] (fun o wr=>∃ (z n g c:Nat),o = .slice (some ⟨g,0,none⟩) n c∧n≤1000100∧Hid (n=x.length+1+z∧z≤zc x.length)∧OwnT wr w.heap.size 5 o n (bcells (padTo x z 0))∧Below w.heap.size w wr)
   (fun o _=>x.length+100-lenOf o)
 case atStart=>exact ⟨0,x.length+1,g1,cap1,rfl,by omega,hide ⟨by omega,by omega⟩,hown',hb3⟩
 case round =>
   clear hown' hb3 hgrow3 hrun e1
   obtain ⟨z,n,g,c,rfl,hn,HN,hown,hbel⟩:=hrel
   have hsize:=hbel.size
   have hzb:zc x.length<64:=by unfold zc;omega
   by_cases hz:z<zc x.length
   · have hne:((n:Int)%64 != 56)=true:=by
       have:=HN.out;unfold zc at this hz;rw[bne_iff_ne];omega
     go_wp2_with (first
       | (at_builtin;refine wpList_append_T _ rfl _ _ 47 rfl w.heap.size 5 i0 (.int .u8 0) Tryz.underlying47 hi hz0 hz1 hz2 rfl _ _ _ rfl (hown.alloc _) ⟨wr.heap.size,0,none⟩ 1 1 [.int .u8 0] rfl rfl (cell_one_new _ _ _) (fun x hx=>by simp at hx;subst hx;rfl) (by unfold maxLen;omega) (by omega) (by simp;omega) ?_;intro v' w3 hown' hgrow3))
     go_roundw
     case rel =>
       obtain ⟨g1,cap1,rfl,hg1,hg1', -, -, -⟩:=hown'.shape
       have e2:bcells (padTo x z 0)++[Value.int .u8 0]=bcells (padTo x (z+1) 0):=by rw[padTo_zero,bcells_app];rfl
       rw[e2] at hown'
       exact ⟨z+1,n+1,g1,cap1,rfl,by have:=HN.out;omega,hide (by have:=HN.out;omega),hown',(hbel.alloc hsize _).grown hgrow3 (by simp;omega) (fun q hq=>(hown.lt q hq).1)⟩
     case measure=>obtain ⟨g1,cap1,rfl, -⟩:=hown'.shape;simp[lenOf];have:=HN.out;omega
   · have hze:z=zc x.length:=by have:=HN.out;omega
     subst hze
     have hne:((n:Int)%64 != 56)=false:=by
       have:=HN.out;unfold zc at this;simp;omega
     have HE:Hid (n=x.length+1+zc x.length):=hide HN.out.1
     clear HN hz hzb
     go_wp2_with fail
     go_loopw [3,5] (fun o sh wr=>∃ (k n g c:Nat),k≤8∧o = .slice (some ⟨g,0,none⟩) n c∧n≤1000200∧sh = .int .i64 (56-8*(k:Int))∧Hid (n=x.length+1+zc x.length+k)∧OwnT wr w.heap.size 5 o n (bcells (padTo x (zc x.length) k))∧Below w.heap.size w wr)
       (fun _ sh _=>(intOf sh+8).toNat)
     case atStart=>exact ⟨0,n,g,c,by omega,rfl,by omega,rfl,hide (by have:=HE.out;omega),hown,hbel⟩
     case round =>
       clear hown hbel hsize hne HE hn
       obtain ⟨k,n,g,c,hk,rfl,hn,rfl,HN,hown,hbel⟩:=hrel
       have hsize:=hbel.size
       by_cases hlt:k<8
       · rcases (show k=0∨k=1∨k=2∨k=3∨k=4∨k=5∨k=6∨k=7 from by omega) with rfl | rfl | rfl | rfl | rfl | rfl | rfl | rfl
         all_goals
           go_wp2_with (first
             | (at_builtin;refine wpList_append_T _ rfl _ _ 47 rfl w.heap.size 5 i0 (.int .u8 0) Tryz.underlying47 hi hz0 hz1 hz2 rfl _ _ _ rfl (hown.alloc _) ⟨wr.heap.size,0,none⟩ 1 1 [_] rfl rfl (cell_one_new _ _ _) (fun x hx=>by simp at hx;subst hx;rfl) (by unfold maxLen;omega) (by omega) (by simp;omega) ?_;intro v' w3 hown' hgrow3))
           go_roundw
           case rel =>
             obtain ⟨g1,cap1,rfl,hg1,hg1', -, -, -⟩:=hown'.shape
             have hown2:=own_next hown' (by simp;try omega)
             exact ⟨_,n+1,g1,cap1,by omega,rfl,by have:=HN.out;unfold zc at this;omega,by simp,hide (by have:=HN.out;omega),hown2,(hbel.alloc hsize _).grown hgrow3 (by simp;omega) (fun q hq=>(hown.lt q hq).1)⟩
           case measure=>simp[intOf]
       · obtain rfl:k=8:=by omega
         have HP:Hid (n=(padB x).length):=hide (by rw[padB_len];exact HN.out)
         go_wp2_with fail
         go_ret
         exact ⟨_,rfl,by rw[← HP.out];exact hown,hbel⟩
end
end Go.Proofs.YtialenebfcnkkaaGreatDoor
