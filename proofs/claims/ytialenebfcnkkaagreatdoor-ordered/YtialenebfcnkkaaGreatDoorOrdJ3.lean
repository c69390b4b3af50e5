/- VerW5, VerW6, VerCuts, VerW7 -/
import Derived.Test.YtialenebfcnkkaaGreatDoorOrdJ2
import Derived.Deep.RegionHeld3
import Derived.Lib.Bytealg
import Derived.Lib.LastIndexByte
set_option maxHeartbeats 1000000
namespace Go.Proofs.YtialenebfcnkkaaGreatDoor
section
open Go.RowKit
theorem kS (f:UInt8→Bool) (l:List UInt8):(aC.suf f l).length≤l.length:=(List.dropWhile_suffix _).length_le
theorem kQ (f:UInt8→Bool) (l:List UInt8):(aC.pre f l).length≤l.length:=(List.takeWhile_prefix _).length_le
theorem Nw (l:List UInt8):(aC.suf aC.j5 (aC.suf aC.eY l)).length≤l.length-1:=by
 cases l with
 | nil=>simp[aC.suf]
 | cons c l =>
   cases h:aC.j5 c
   · have e:aC.suf aC.eY (c::l)=aC.suf aC.eY l:=by simp[aC.suf,aC.eY,h]
     rw[e]
     exact Nat.le_trans (kS _ _) (kS _ _)
   · have e:aC.suf aC.eY (c::l)=c::l:=by simp[aC.suf,aC.eY,h]
     have e':aC.suf aC.j5 (c::l)=aC.suf aC.j5 l:=by simp[aC.suf,h]
     rw[e,e']
     exact kS _ _
theorem yF (g:Nat) (f:UInt8→Bool) (he:∀ args w,(callFunc g args).run Tryz.prog w = .ok (.enter g args) w)
   (hg:∀ (c:UInt8) (w:World),Calls Tryz.prog g #[.int .u8 c.toNat] w fun e w'=>e = .returned (.bool (f c))∧w'=w)
   (x:List UInt8) (hx:x.length≤24) (w:World) :
   Calls Tryz.prog 107 #[.string ⟨x.toArray⟩, .func (.func g) #[] #[]] w fun e w' =>
     e = .returned (.tuple #[.string ⟨(aC.pre f x).toArray⟩, .string ⟨(aC.suf f x).toArray⟩])∧Below w.heap.size w w' :=
 KH g f he hg ⟨x.toArray⟩ (by simp[ByteArray.size];omega) w
theorem ql (args:Array Value) (w:World):(callFunc 101 args).run Tryz.prog w = .ok (.enter 101 args) w :=
 enters Tryz.func101 (by kernel_rfl) rfl args w
theorem wX (args:Array Value) (w:World):(callFunc 108 args).run Tryz.prog w = .ok (.enter 108 args) w :=
 enters Tryz.func108 (by kernel_rfl) rfl args w
theorem tO (x:List UInt8) (hx:x.length≤24) (w:World) :
   Calls Tryz.prog 107 #[.string ⟨x.toArray⟩, .func (.func 101) #[] #[]] w fun e w' =>
     e = .returned (.tuple #[.string ⟨(aC.pre aC.j5 x).toArray⟩, .string ⟨(aC.suf aC.j5 x).toArray⟩])∧Below w.heap.size w w' :=
 yF _ _ ql jr x hx w
theorem tQ (x:List UInt8) (hx:x.length≤24) (w:World) :
   Calls Tryz.prog 107 #[.string ⟨x.toArray⟩, .func (.func 108) #[] #[]] w fun e w' =>
     e = .returned (.tuple #[.string ⟨(aC.pre aC.eY x).toArray⟩, .string ⟨(aC.suf aC.eY x).toArray⟩])∧Below w.heap.size w w' :=
 yF _ _ wX Dp x hx w
theorem uG (x y:List UInt8) (hx:x.length≤24) (hy:y.length≤24) (w:World) :
   Calls Tryz.prog 109 #[.string ⟨x.toArray⟩, .string ⟨y.toArray⟩] w fun e w'=>e = .returned (.int .i64 (aC.signs 25 x y))∧w'=w :=
 Ql ⟨x.toArray⟩ ⟨y.toArray⟩ (by simpa [ByteArray.size] using hx) (by simpa [ByteArray.size] using hy) w
theorem rD (x y:List UInt8) (hx:x.length≤24) (hy:y.length≤24) (w:World) :
   Calls Tryz.prog 54 #[.string ⟨x.toArray⟩, .string ⟨y.toArray⟩] w fun e w'=>e = .returned (.int .i64 (aC.nums x y))∧Below w.heap.size w w' :=
 Tt ⟨x.toArray⟩ ⟨y.toArray⟩ (by simpa [ByteArray.size] using hx) (by simpa [ByteArray.size] using hy) w
def uK:Value→Nat
 | .string s=>s.size
 | _=>0
theorem JM (x:List UInt8):uK (.string ⟨x.toArray⟩)=x.length:=rfl
theorem Qw {a b x y:List UInt8} (ha:a.length≤x.length-1) (hb:b.length≤y.length-1) (h:0<x.length+y.length) :
   uK (.string ⟨a.toArray⟩)+uK (.string ⟨b.toArray⟩)<uK (.string ⟨x.toArray⟩)+uK (.string ⟨y.toArray⟩):=by
 simp only[JM];omega
theorem Ta {a x:List UInt8} {k:Nat} (ha:a.length≤x.length-1) (hx:x.length≤24-k):a.length≤24-(k+1):=by omega
theorem Xc {k:Nat} {x y:List UInt8} (hk:k≤23) (h:aC.signs 25 (aC.pre aC.eY x) (aC.pre aC.eY y)≠0):aC.parts (25-k) x y=aC.signs 25 (aC.pre aC.eY x) (aC.pre aC.eY y):=by
 rw[show 25-k=(25-(k+1))+1 from by omega,aC.parts,aC.rX,if_neg h]
theorem Xd {k:Nat} {x y:List UInt8} (hk:k≤23) (h:aC.signs 25 (aC.pre aC.eY x) (aC.pre aC.eY y)=0)
   (h2:aC.nums (aC.pre aC.j5 (aC.suf aC.eY x)) (aC.pre aC.j5 (aC.suf aC.eY y))≠0):aC.parts (25-k) x y=aC.nums (aC.pre aC.j5 (aC.suf aC.eY x)) (aC.pre aC.j5 (aC.suf aC.eY y)):=by
 rw[show 25-k=(25-(k+1))+1 from by omega,aC.parts,h,aC.rX,if_pos rfl,aC.rX,if_neg h2]
theorem Xe {k:Nat} {x y:List UInt8} (hk:k≤23) (h:aC.signs 25 (aC.pre aC.eY x) (aC.pre aC.eY y)=0)
   (h2:aC.nums (aC.pre aC.j5 (aC.suf aC.eY x)) (aC.pre aC.j5 (aC.suf aC.eY y))=0) :
   aC.parts (25-k) x y=aC.parts (25-(k+1)) (aC.suf aC.j5 (aC.suf aC.eY x)) (aC.suf aC.j5 (aC.suf aC.eY y)):=by
 rw[show 25-k=(25-(k+1))+1 from by omega,aC.parts,h,aC.rX,if_pos rfl,h2,aC.rX,if_pos rfl]
theorem Qa (x y:List UInt8) (hx:x.length≤24) (hy:y.length≤24) (w:World) :
   Calls Tryz.prog 55 #[.string ⟨x.toArray⟩, .string ⟨y.toArray⟩] w fun e w'=>e = .returned (.int .i64 (aC.parts 25 x y))∧Below w.heap.size w w':=by
 go_enter Tryz.func55,Tryz.ntmps55
 go_wp2_with fail
 go_loopw [0,1] (fun a b wr=>∃ (k:Nat) (x' y':List UInt8),k≤24∧x'.length≤24-k∧y'.length≤24-k∧a = .string ⟨x'.toArray⟩∧b = .string ⟨y'.toArray⟩∧aC.parts 25 x y=aC.parts (25-k) x' y'∧Below w.heap.size w wr)
   (fun a b _=>uK a+uK b)
 case atStart=>exact ⟨0,x,y,Nat.zero_le _,hx,hy,rfl,rfl,rfl,Below.refl _ _⟩
 case round =>
   obtain ⟨k,x',y',hk,hx',hy',rfl,rfl,hs,hb⟩:=hrel
   have HS:=hide hs;clear hs
   have HB:=hide hb;clear hb
   have aev:x'.length≤24:=by omega
   have aew:y'.length≤24:=by omega
   have HX:=hide (Nw x')
   have HY:=hide (Nw y')
   by_cases hne:x'.length=0∧y'.length=0
   · obtain ⟨h1,h2⟩:=hne
     have h1':=List.eq_nil_of_length_eq_zero h1
     have h2':=List.eq_nil_of_length_eq_zero h2
     subst h1' h2'
     go_wp2_with fail
     go_ret
     exact ⟨iP (by rw[HS.out,aC.Et]),HB.out⟩
   · have hk':k≤23:=by omega
     have hpos:0<x'.length+y'.length:=by omega
     have SE:x'≠[]∨(x'=[]∧(!y'.isEmpty)=true):=by
       cases x' with
       | nil=>cases y' with
         | nil=>simp at hpos
         | cons d m=>exact .inr ⟨rfl,rfl⟩
       | cons c l=>exact .inl (by simp)
     clear hne
     by_cases hc:aC.signs 25 (aC.pre aC.eY x') (aC.pre aC.eY y')=0
     · have HC:=hide hc
       have hc':(aC.signs 25 (aC.pre aC.eY x') (aC.pre aC.eY y') != 0)=false:=bne_eq_false_iff_eq.2 hc
       clear hc
       by_cases hd:aC.nums (aC.pre aC.j5 (aC.suf aC.eY x')) (aC.pre aC.j5 (aC.suf aC.eY y'))=0
       · have HD:=hide hd
         have hd':(aC.nums (aC.pre aC.j5 (aC.suf aC.eY x')) (aC.pre aC.j5 (aC.suf aC.eY y')) != 0)=false:=bne_eq_false_iff_eq.2 hd
         clear hd
         rcases SE with h | ⟨rfl,h⟩
         all_goals
           go_wp2_with (first
             | (go_at_call_of 107 (Value.func (Fn.func (108:Nat)) #[] #[]);refine (tQ _ (by assumption) _).mono ?_;rintro e w' ⟨rfl,hb⟩;replace HB:=hide (HB.out.trans (hb.mono HB.out.size));clear hb)
             | (go_at_call_of 107 (Value.func (Fn.func (101:Nat)) #[] #[]);refine (tO _ (Nat.le_trans (kS _ _) (by assumption)) _).mono ?_;rintro e w' ⟨rfl,hb⟩;replace HB:=hide (HB.out.trans (hb.mono HB.out.size));clear hb)
             | (go_at_call 109;refine (uG _ _ (Nat.le_trans (kQ _ _) (by assumption)) (Nat.le_trans (kQ _ _) (by assumption)) _).mono ?_;rintro e w' ⟨rfl,rfl⟩)
             | (go_at_call 54;refine (rD _ _ (Nat.le_trans (kQ _ _) (Nat.le_trans (kS _ _) (by assumption))) (Nat.le_trans (kQ _ _) (Nat.le_trans (kS _ _) (by assumption))) _).mono ?_;rintro e w' ⟨rfl,hb⟩;replace HB:=hide (HB.out.trans (hb.mono HB.out.size));clear hb))
           exact ⟨⟨k+1,_,_,by omega,Ta HX.out hx',Ta HY.out hy',rfl,rfl,by rw[HS.out,Xe hk' HC.out HD.out],HB.out⟩,Qw HX.out HY.out hpos⟩
       · have HD:=hide hd
         have hd':(aC.nums (aC.pre aC.j5 (aC.suf aC.eY x')) (aC.pre aC.j5 (aC.suf aC.eY y')) != 0)=true:=bne_iff_ne.2 hd
         clear hd
         rcases SE with h | ⟨rfl,h⟩
         all_goals
           go_wp2_with (first
             | (go_at_call_of 107 (Value.func (Fn.func (108:Nat)) #[] #[]);refine (tQ _ (by assumption) _).mono ?_;rintro e w' ⟨rfl,hb⟩;replace HB:=hide (HB.out.trans (hb.mono HB.out.size));clear hb)
             | (go_at_call_of 107 (Value.func (Fn.func (101:Nat)) #[] #[]);refine (tO _ (Nat.le_trans (kS _ _) (by assumption)) _).mono ?_;rintro e w' ⟨rfl,hb⟩;replace HB:=hide (HB.out.trans (hb.mono HB.out.size));clear hb)
             | (go_at_call 109;refine (uG _ _ (Nat.le_trans (kQ _ _) (by assumption)) (Nat.le_trans (kQ _ _) (by assumption)) _).mono ?_;rintro e w' ⟨rfl,rfl⟩)
             | (go_at_call 54;refine (rD _ _ (Nat.le_trans (kQ _ _) (Nat.le_trans (kS _ _) (by assumption))) (Nat.le_trans (kQ _ _) (Nat.le_trans (kS _ _) (by assumption))) _).mono ?_;rintro e w' ⟨rfl,hb⟩;replace HB:=hide (HB.out.trans (hb.mono HB.out.size));clear hb))
           go_ret
           exact ⟨iP (by rw[HS.out,Xd hk' HC.out HD.out]),HB.out⟩
     · have HC:=hide hc
       have hc':(aC.signs 25 (aC.pre aC.eY x') (aC.pre aC.eY y') != 0)=true:=bne_iff_ne.2 hc
       clear hc
       rcases SE with h | ⟨rfl,h⟩
       all_goals
         go_wp2_with (first
           | (go_at_call_of 107 (Value.func (Fn.func (108:Nat)) #[] #[]);refine (tQ _ (by assumption) _).mono ?_;rintro e w' ⟨rfl,hb⟩;replace HB:=hide (HB.out.trans (hb.mono HB.out.size));clear hb)
           | (go_at_call_of 107 (Value.func (Fn.func (101:Nat)) #[] #[]);refine (tO _ (Nat.le_trans (kS _ _) (by assumption)) _).mono ?_;rintro e w' ⟨rfl,hb⟩;replace HB:=hide (HB.out.trans (hb.mono HB.out.size));clear hb)
           | (go_at_call 109;refine (uG _ _ (Nat.le_trans (kQ _ _) (by assumption)) (Nat.le_trans (kQ _ _) (by assumption)) _).mono ?_;rintro e w' ⟨rfl,rfl⟩)
           | (go_at_call 54;refine (rD _ _ (Nat.le_trans (kQ _ _) (Nat.le_trans (kS _ _) (by assumption))) (Nat.le_trans (kQ _ _) (Nat.le_trans (kS _ _) (by assumption))) _).mono ?_;rintro e w' ⟨rfl,hb⟩;replace HB:=hide (HB.out.trans (hb.mono HB.out.size));clear hb))
         go_ret
         exact ⟨iP (by rw[HS.out,Xc hk' HC.out]),HB.out⟩
def vv (v:aC.V):Value := .agg #[.string ⟨v.e.toArray⟩, .string ⟨v.m.toArray⟩, .string ⟨v.r.toArray⟩]
theorem JU {w:World} {b:Nat} {x y z:Int} (h0:w.cell? ⟨b,0,none⟩=some (.int .i64 x)) (h1:w.cell? ⟨b,1,none⟩=some (.int .i64 y)) (h2:w.cell? ⟨b,2,none⟩=some (.int .i64 z)) :
   ∀ j,j<[x,y,z].length→w.cell? ⟨b,j,none⟩=some (.int .i64 ([x,y,z].getD j 0)):=by
 intro j hj
 match j,hj with
 | 0,_=>exact h0
 | 1,_=>exact h1
 | 2,_=>exact h2
theorem Tw (x y z:Int):gX [x,y,z]=aC.rX x (aC.rX y z):=by
 by_cases h:z=0<;>simp[gX,aC.rX,h]
theorem TH (x y z:Int) (w:World) :
   Calls Tryz.prog 53 #[.slice (some ⟨w.heap.size,0,none⟩) 3 3] (w.alloc (.cells #[.int .i64 x, .int .i64 y, .int .i64 z] 3)) fun e w' =>
     e = .returned (.int .i64 (aC.rX x (aC.rX y z)))∧w'=w.alloc (.cells #[.int .i64 x, .int .i64 y, .int .i64 z] 3):=by
 rw[← Tw]
 exact TG w.heap.size 3 3 [x,y,z] rfl (by decide) _ (JU (by simp[go_sem]) (by simp[go_sem]) (by simp[go_sem]))
def rR (a1 a2 a3 b1 b2 b3:List UInt8) (w w':World):Prop :=
 w'.cell? ⟨w.heap.size,0,none⟩=some (.string ⟨a1.toArray⟩)∧w'.cell? ⟨w.heap.size,1,none⟩=some (.string ⟨a2.toArray⟩)∧w'.cell? ⟨w.heap.size,2,none⟩=some (.string ⟨a3.toArray⟩)
     ∧ w'.cell? ⟨w.heap.size+1,0,none⟩=some (.string ⟨b1.toArray⟩)∧w'.cell? ⟨w.heap.size+1,1,none⟩=some (.string ⟨b2.toArray⟩)∧w'.cell? ⟨w.heap.size+1,2,none⟩=some (.string ⟨b3.toArray⟩)∧Below w.heap.size w w'
theorem Qp (a1 a2 a3 b1 b2 b3:List UInt8) (w:World) (t:TypeId):rR a1 a2 a3 b1 b2 b3 w
   ((w.alloc (.cells #[.string ⟨a1.toArray⟩, .string ⟨a2.toArray⟩, .string ⟨a3.toArray⟩] t)).alloc (.cells #[.string ⟨b1.toArray⟩, .string ⟨b2.toArray⟩, .string ⟨b3.toArray⟩] t)).drew:=by
 refine ⟨?_,?_,?_,?_,?_,?_,(((Below.refl _ _).alloc (Nat.le_refl _) _).alloc (by simp) _).drew⟩<;>simp[go_sem]
theorem jP {W W':World} {p:Addr} {v:Value} (hb:Below W.heap.size W W') (h:W.cell? p=some v):W'.cell? p=some v :=
 (hb.cell (World.block_lt_of_cell? W p h)).trans h
theorem T9 {a1 a2 a3 b1 b2 b3:List UInt8} {w W W':World} (hb:Below W.heap.size W W') (h:rR a1 a2 a3 b1 b2 b3 w W):rR a1 a2 a3 b1 b2 b3 w W':=by
 obtain ⟨h1,h2,h3,h4,h5,h6,h7⟩:=h
 exact ⟨jP hb h1,jP hb h2,jP hb h3,jP hb h4,jP hb h5,jP hb h6,h7.trans (hb.mono h7.size)⟩
theorem Qo {a1 a2 a3 b1 b2 b3:List UInt8} {w W:World} {o:Obj} (h:rR a1 a2 a3 b1 b2 b3 w W):rR a1 a2 a3 b1 b2 b3 w (W.alloc o) :=
 T9 ((Below.refl _ _).alloc (Nat.le_refl _) _) h
theorem JZ (a1 a2 a3 b1 b2 b3:List UInt8) (ha1:a1.length≤24) (ha2:a2.length≤24) (ha3:a3.length≤24) (hb1:b1.length≤24) (hb2:b2.length≤24) (hb3:b3.length≤24) (w:World) :
   Calls Tryz.prog 28 #[vv ⟨a1,a2,a3⟩,vv ⟨b1,b2,b3⟩] w fun e w'=>e = .returned (.int .i64 (aC.Za ⟨a1,a2,a3⟩ ⟨b1,b2,b3⟩))∧Below w.heap.size w w':=by
 simp only[vv]
 go_enter Tryz.func28,Tryz.ntmps28
 go_wp2_with fail
 go_region_held3 (fun w'=>w'.cell? ⟨w.heap.size,0,none⟩=some (.string ⟨a1.toArray⟩)∧w'.cell? ⟨w.heap.size,1,none⟩=some (.string ⟨a2.toArray⟩)∧w'.cell? ⟨w.heap.size,2,none⟩=some (.string ⟨a3.toArray⟩)
     ∧ w'.cell? ⟨w.heap.size+1,0,none⟩=some (.string ⟨b1.toArray⟩)∧w'.cell? ⟨w.heap.size+1,1,none⟩=some (.string ⟨b2.toArray⟩)∧w'.cell? ⟨w.heap.size+1,2,none⟩=some (.string ⟨b3.toArray⟩)∧Below w.heap.size w w')
   (first | assumption | exact Qp _ _ _ _ _ _ _ _ | exact T9 (by assumption) (by assumption) | exact Qo (by assumption))
   (first
     | (go_at_call 54;refine (rD a1 b1 ha1 hb1 _).mono ?_;rintro e w' ⟨rfl,hb⟩)
     | (go_at_call 55;refine (Qa _ _ (by assumption) (by assumption) _).mono ?_;rintro e w' ⟨rfl,hb⟩)
     | (go_at_call 53;refine (TH _ _ _ _).mono ?_;rintro e w' ⟨rfl,rfl⟩))
 go_wp2
 go_ret
 exact ⟨rfl,(show rR a1 a2 a3 b1 b2 b3 w _ by assumption).2.2.2.2.2.2⟩
end
namespace aC
theorem Pg (l:List UInt8) (c:UInt8):(Lib.indexByte l c = -1∧l.contains c=false) ∨
   (∃ k:Nat,k<l.length∧Lib.indexByte l c=k∧l.contains c=true∧(l.takeWhile fun x=>x != c)=l.take k∧((l.dropWhile fun x=>x != c).drop 1)=l.drop (k+1)):=by
 induction l with
 | nil=>exact .inl ⟨rfl,rfl⟩
 | cons b l ih =>
   by_cases hb:b=c
   · subst hb
     exact .inr ⟨0,by simp,by simp[Lib.indexByte],by simp,by simp,by simp⟩
   · have hb' : ¬ c=b:=fun h=>hb h.symm
     rcases ih with ⟨h1,h2⟩ | ⟨k,h1,h2,h3,h4,h5⟩
     · exact .inl ⟨by simp[Lib.indexByte,hb,h1],by simp at h2;simp[h2,hb']⟩
     · refine .inr ⟨k+1,by simpa using h1,?_,?_,?_,?_⟩
       · have hk : ¬ ((k:Int) = -1):=by omega
         simp[Lib.indexByte,hb,h2,hk]
       · simp at h3;simp[h3]
       · simp[hb,h4]
       · simp[hb,h5]
theorem tL (l:List UInt8):(Lib.indexByte l 58 = -1∧AX l=([48],l))∨(∃ k:Nat,k<l.length∧Lib.indexByte l 58=k∧AX l=(l.take k,l.drop (k+1))):=by
 rcases Pg l 58 with ⟨h1,h2⟩ | ⟨k,h1,h2,h3,h4,h5⟩
 · exact .inl ⟨h1,by simp only[AX,h2];rfl⟩
 · exact .inr ⟨k,h1,h2,by simp only[AX,h3,h4,h5];rfl⟩
theorem KG (u v:List UInt8) (hv:∀ x∈v,x≠45):Dh (u++45::v)=(u,v):=by
 have e:(u++45::v).reverse=v.reverse++45::u.reverse:=by simp
 have hc:(u++45::v).contains 45=true:=by simp
 have h1:(v.reverse++45::u.reverse).takeWhile (fun c=>c != 45)=v.reverse:=by
   rw[List.takeWhile_append_of_pos (by intro x hx;simpa using hv x (by simpa using hx))];simp
 have h2:(v.reverse++45::u.reverse).dropWhile (fun c=>c != 45)=45::u.reverse:=by
   rw[List.dropWhile_append_of_pos (by intro x hx;simpa using hv x (by simpa using hx))];simp
 simp only[Dh,hc,e,h1,h2]
 simp
theorem OC (l:List UInt8) (h:∀ x∈l,x≠45):Dh l=(l,[48]):=by
 have hc:l.contains 45=false:=by simp;intro hm;exact h 45 hm rfl
 simp only[Dh,hc];rfl
theorem oL (l:List UInt8):(Lib.lastIndexByte ⟨l.toArray⟩ 45 = -1∧Dh l=(l,[48]))∨(∃ k:Nat,k<l.length∧Lib.lastIndexByte ⟨l.toArray⟩ 45=k∧Dh l=(l.take k,l.drop (k+1))):=by
 have toI:∀ x:UInt8,(x.toNat:Int)=45→x=45:=fun x h=>by
   apply UInt8.toNat_inj.1;show x.toNat=45;omega
 have at_:∀ j,∀ h:j<l.length,(⟨l.toArray⟩:ByteArray).data[j]! = l[j]:=fun j h=>by simp[h]
 rcases Lib.lastIndexByte_spec ⟨l.toArray⟩ 45 with ⟨h1,h2⟩ | ⟨i,h1,h2,h3,h4⟩
 · refine .inl ⟨h1,OC l fun x hx e => ?_⟩
   obtain ⟨j,hj,rfl⟩:=List.mem_iff_getElem.1 hx
   exact h2 j (by simpa [ByteArray.size] using hj) (by rw[at_ j hj,e];rfl)
 · have hi:i<l.length:=by simpa [ByteArray.size] using h1
   refine .inr ⟨i,hi,h2,?_⟩
   have e45:l[i]=45:=toI _ (by rw[← at_ i hi];exact h3)
   have e:l=l.take i++45::l.drop (i+1):=by
     conv=>lhs;rw[← List.take_append_drop i l,List.drop_eq_getElem_cons hi,e45]
   conv=>lhs;rw[e]
   refine KG _ _ fun x hx ex => ?_
   obtain ⟨j,hj,rfl⟩:=List.mem_iff_getElem.1 hx
   simp only[List.length_drop] at hj
   have hj':i+1+j<l.length:=by omega
   refine h4 (i+1+j) (by omega) (by simpa [ByteArray.size] using hj') ?_
   rw[at_ _ hj']
   rw[List.getElem_drop] at ex
   rw[ex];rfl
theorem RV (l:List UInt8):(AX l).2.length≤l.length:=by
 rcases tL l with ⟨_,h⟩ | ⟨k,_,_,h⟩<;>rw[h]<;>simp
theorem Oz (l:List UInt8) (hl:1≤l.length):(AX l).1.length≤l.length:=by
 rcases tL l with ⟨_,h⟩ | ⟨k,_,_,h⟩<;>rw[h]<;>simp
 · omega
 · omega
theorem OA (l:List UInt8):(Dh l).1.length≤l.length:=by
 rcases oL l with ⟨_,h⟩ | ⟨k,_,_,h⟩<;>rw[h]<;>simp
 omega
theorem OB (l:List UInt8) (hl:l.length≤24):(Dh l).2.length≤24:=by
 rcases oL l with ⟨_,h⟩ | ⟨k,_,_,h⟩<;>rw[h]<;>simp
 omega
end aC
section
open Go.RowKit
theorem Ai (g:Nat) (f:UInt8→Bool) (he:∀ args w,(callFunc g args).run Tryz.prog w = .ok (.enter g args) w)
   (hg:∀ (c:UInt8) (w:World),Calls Tryz.prog g #[.int .u8 c.toNat] w fun e w'=>e = .returned (.bool (f c))∧w'=w)
   (x:List UInt8) (hx:x.length≤24) (w:World) :
   Calls Tryz.prog 100 #[.string ⟨x.toArray⟩, .func (.func g) #[] #[]] w fun e w'=>e = .returned (.bool (aC.p8 f x))∧Below w.heap.size w w' :=
 MZ g f he hg ⟨x.toArray⟩ (by simp[ByteArray.size];omega) w
theorem vJ (args:Array Value) (w:World):(callFunc 102 args).run Tryz.prog w = .ok (.enter 102 args) w :=
 enters Tryz.func102 (by kernel_rfl) rfl args w
theorem pK (args:Array Value) (w:World):(callFunc 103 args).run Tryz.prog w = .ok (.enter 103 args) w :=
 enters Tryz.func103 (by kernel_rfl) rfl args w
theorem fZ (x:List UInt8) (hx:x.length≤24) (w:World) :
   Calls Tryz.prog 50 #[.string ⟨x.toArray⟩] w fun e w'=>e = .returned (.bool (aC.PI x))∧Below w.heap.size w w':=by
 by_cases h1:1≤x.length
 · by_cases h2:x.length≤4
   · have e1:aC.PI x=aC.p8 aC.j5 x:=by simp[aC.PI,h1,h2]
     rw[e1]
     go_enter Tryz.func50,Tryz.ntmps50
     go_wp2_with (go_at_call 100;refine (Ai _ _ ql jr x hx _).mono ?_;rintro e w' ⟨rfl,hb⟩)
     go_ret
     exact ⟨rfl,hb⟩
   · have e1:aC.PI x=false:=by simp[aC.PI,h2]
     rw[e1]
     go_enter Tryz.func50,Tryz.ntmps50
     go_wp2
     go_ret
     exact ⟨rfl,Below.refl _ _⟩
 · have e1:aC.PI x=false:=by simp[aC.PI,h1]
   rw[e1]
   go_enter Tryz.func50,Tryz.ntmps50
   go_wp2
   go_ret
   exact ⟨rfl,Below.refl _ _⟩
theorem dK (x:List UInt8) (hx:x.length≤24) (w:World) :
   Calls Tryz.prog 52 #[.string ⟨x.toArray⟩] w fun e w'=>e = .returned (.bool (aC.okR x))∧Below w.heap.size w w':=by
 rcases x with _ | ⟨c,l⟩
 · go_enter Tryz.func52,Tryz.ntmps52
   go_wp2
   go_ret
   exact ⟨rfl,Below.refl _ _⟩
 · go_enter Tryz.func52,Tryz.ntmps52
   go_wp2_with (go_at_call 100;refine (Ai _ _ pK lV (c::l) hx _).mono ?_;rintro e w' ⟨rfl,hb⟩)
   go_ret
   exact ⟨rfl,hb⟩
theorem iy (x:List UInt8) (hx:x.length≤24) (w:World) :
   Calls Tryz.prog 51 #[.string ⟨x.toArray⟩] w fun e w'=>e = .returned (.bool (aC.TD x))∧Below w.heap.size w w':=by
 rcases x with _ | ⟨c,l⟩
 · go_enter Tryz.func51,Tryz.ntmps51
   go_wp2
   go_ret
   exact ⟨rfl,Below.refl _ _⟩
 · cases hc:aC.j5 c
   · have e1:aC.TD (c::l)=false:=by simp[aC.TD,hc]
     rw[e1]
     go_enter Tryz.func51,Tryz.ntmps51
     go_wp2_with (go_at_call 101;refine (jr c _).mono ?_;rintro e w' ⟨rfl,rfl⟩)
     go_ret
     exact ⟨rfl,Below.refl _ _⟩
   · have e1:aC.TD (c::l)=aC.p8 aC.isM (c::l):=by simp[aC.TD,hc]
     rw[e1]
     go_enter Tryz.func51,Tryz.ntmps51
     go_wp2_with (first
       | (go_at_call 101;refine (jr c _).mono ?_;rintro e w' ⟨rfl,rfl⟩)
       | (go_at_call 100;refine (Ai _ _ vJ Bv (c::l) hx _).mono ?_;rintro e w' ⟨rfl,hb⟩))
     go_ret
     exact ⟨rfl,hb⟩
end
end Go.Proofs.YtialenebfcnkkaaGreatDoor
