/- VerW5, VerW6, VerCuts, VerW7 -/
import Derived.Test.YtialenebfcnkkaaGreatDoorWokJ2
import Derived.Deep.RegionHeld3
import Derived.Lib.Bytealg
import Derived.Lib.LastIndexByte
set_option maxHeartbeats 1000000
namespace Go.Proofs.YtialenebfcnkkaaGreatDoor
section
open Go.RowKit
theorem suf_le (f:UInt8→Bool) (l:List UInt8):(Ver.suf f l).length≤l.length:=(List.dropWhile_suffix _).length_le
theorem pre_le (f:UInt8→Bool) (l:List UInt8):(Ver.pre f l).length≤l.length:=(List.takeWhile_prefix _).length_le
theorem suf_two (l:List UInt8):(Ver.suf Ver.isD (Ver.suf Ver.notD l)).length≤l.length-1:=by
 cases l with
 | nil=>simp[Ver.suf]
 | cons c l =>
   cases h:Ver.isD c
   · have e:Ver.suf Ver.notD (c::l)=Ver.suf Ver.notD l:=by simp[Ver.suf,Ver.notD,h]
     rw[e]
     exact Nat.le_trans (suf_le _ _) (suf_le _ _)
   · have e:Ver.suf Ver.notD (c::l)=c::l:=by simp[Ver.suf,Ver.notD,h]
     have e':Ver.suf Ver.isD (c::l)=Ver.suf Ver.isD l:=by simp[Ver.suf,h]
     rw[e,e']
     exact suf_le _ _
theorem cutRow_list (g:Nat) (f:UInt8→Bool) (he:∀ args w,(callFunc g args).run Tryz.prog w = .ok (.enter g args) w)
   (hg:∀ (c:UInt8) (w:World),Calls Tryz.prog g #[.int .u8 c.toNat] w fun e w'=>e = .returned (.bool (f c))∧w'=w)
   (x:List UInt8) (hx:x.length≤24) (w:World) :
   Calls Tryz.prog 107 #[.string ⟨x.toArray⟩, .func (.func g) #[] #[]] w fun e w' =>
     e = .returned (.tuple #[.string ⟨(Ver.pre f x).toArray⟩, .string ⟨(Ver.suf f x).toArray⟩])∧Below w.heap.size w w' :=
 cutRow_any g f he hg ⟨x.toArray⟩ (by simp[ByteArray.size];omega) w
theorem enters_isDigit (args:Array Value) (w:World):(callFunc 101 args).run Tryz.prog w = .ok (.enter 101 args) w :=
 enters Tryz.func101 (by kernel_rfl) rfl args w
theorem enters_isNoDigit (args:Array Value) (w:World):(callFunc 108 args).run Tryz.prog w = .ok (.enter 108 args) w :=
 enters Tryz.func108 (by kernel_rfl) rfl args w
theorem cut_digits (x:List UInt8) (hx:x.length≤24) (w:World) :
   Calls Tryz.prog 107 #[.string ⟨x.toArray⟩, .func (.func 101) #[] #[]] w fun e w' =>
     e = .returned (.tuple #[.string ⟨(Ver.pre Ver.isD x).toArray⟩, .string ⟨(Ver.suf Ver.isD x).toArray⟩])∧Below w.heap.size w w' :=
 cutRow_list _ _ enters_isDigit isDigit_any x hx w
theorem cut_others (x:List UInt8) (hx:x.length≤24) (w:World) :
   Calls Tryz.prog 107 #[.string ⟨x.toArray⟩, .func (.func 108) #[] #[]] w fun e w' =>
     e = .returned (.tuple #[.string ⟨(Ver.pre Ver.notD x).toArray⟩, .string ⟨(Ver.suf Ver.notD x).toArray⟩])∧Below w.heap.size w w' :=
 cutRow_list _ _ enters_isNoDigit isNoDigit_any x hx w
theorem signs_list (x y:List UInt8) (hx:x.length≤24) (hy:y.length≤24) (w:World) :
   Calls Tryz.prog 109 #[.string ⟨x.toArray⟩, .string ⟨y.toArray⟩] w fun e w'=>e = .returned (.int .i64 (Ver.signs 25 x y))∧w'=w :=
 signs_any ⟨x.toArray⟩ ⟨y.toArray⟩ (by simpa [ByteArray.size] using hx) (by simpa [ByteArray.size] using hy) w
theorem nums_list (x y:List UInt8) (hx:x.length≤24) (hy:y.length≤24) (w:World) :
   Calls Tryz.prog 54 #[.string ⟨x.toArray⟩, .string ⟨y.toArray⟩] w fun e w'=>e = .returned (.int .i64 (Ver.nums x y))∧Below w.heap.size w w' :=
 nums_any ⟨x.toArray⟩ ⟨y.toArray⟩ (by simpa [ByteArray.size] using hx) (by simpa [ByteArray.size] using hy) w
def strLen:Value→Nat
 | .string s=>s.size
 | _=>0
theorem strLen_list (x:List UInt8):strLen (.string ⟨x.toArray⟩)=x.length:=rfl
theorem strLen_lt {a b x y:List UInt8} (ha:a.length≤x.length-1) (hb:b.length≤y.length-1) (h:0<x.length+y.length) :
   strLen (.string ⟨a.toArray⟩)+strLen (.string ⟨b.toArray⟩)<strLen (.string ⟨x.toArray⟩)+strLen (.string ⟨y.toArray⟩):=by
 simp only[strLen_list];omega
theorem len_on {a x:List UInt8} {k:Nat} (ha:a.length≤x.length-1) (hx:x.length≤24-k):a.length≤24-(k+1):=by omega
theorem parts_1 {k:Nat} {x y:List UInt8} (hk:k≤23) (h:Ver.signs 25 (Ver.pre Ver.notD x) (Ver.pre Ver.notD y)≠0):Ver.parts (25-k) x y=Ver.signs 25 (Ver.pre Ver.notD x) (Ver.pre Ver.notD y):=by
 rw[show 25-k=(25-(k+1))+1 from by omega,Ver.parts,Ver.or3,if_neg h]
theorem parts_2 {k:Nat} {x y:List UInt8} (hk:k≤23) (h:Ver.signs 25 (Ver.pre Ver.notD x) (Ver.pre Ver.notD y)=0)
   (h2:Ver.nums (Ver.pre Ver.isD (Ver.suf Ver.notD x)) (Ver.pre Ver.isD (Ver.suf Ver.notD y))≠0):Ver.parts (25-k) x y=Ver.nums (Ver.pre Ver.isD (Ver.suf Ver.notD x)) (Ver.pre Ver.isD (Ver.suf Ver.notD y)):=by
 rw[show 25-k=(25-(k+1))+1 from by omega,Ver.parts,h,Ver.or3,if_pos rfl,Ver.or3,if_neg h2]
theorem parts_3 {k:Nat} {x y:List UInt8} (hk:k≤23) (h:Ver.signs 25 (Ver.pre Ver.notD x) (Ver.pre Ver.notD y)=0)
   (h2:Ver.nums (Ver.pre Ver.isD (Ver.suf Ver.notD x)) (Ver.pre Ver.isD (Ver.suf Ver.notD y))=0) :
   Ver.parts (25-k) x y=Ver.parts (25-(k+1)) (Ver.suf Ver.isD (Ver.suf Ver.notD x)) (Ver.suf Ver.isD (Ver.suf Ver.notD y)):=by
 rw[show 25-k=(25-(k+1))+1 from by omega,Ver.parts,h,Ver.or3,if_pos rfl,h2,Ver.or3,if_pos rfl]
theorem parts_any (x y:List UInt8) (hx:x.length≤24) (hy:y.length≤24) (w:World) :
   Calls Tryz.prog 55 #[.string ⟨x.toArray⟩, .string ⟨y.toArray⟩] w fun e w'=>e = .returned (.int .i64 (Ver.parts 25 x y))∧Below w.heap.size w w':=by
 go_enter Tryz.func55,Tryz.ntmps55
 go_wp2_with fail
 go_loopw [0,1] (fun a b wr=>∃ (k:Nat) (x' y':List UInt8),k≤24∧x'.length≤24-k∧y'.length≤24-k∧a = .string ⟨x'.toArray⟩∧b = .string ⟨y'.toArray⟩∧Ver.parts 25 x y=Ver.parts (25-k) x' y'∧Below w.heap.size w wr)
   (fun a b _=>strLen a+strLen b)
 case atStart=>exact ⟨0,x,y,Nat.zero_le _,hx,hy,rfl,rfl,rfl,Below.refl _ _⟩
 case round =>
   obtain ⟨k,x',y',hk,hx',hy',rfl,rfl,hs,hb⟩:=hrel
   have HS:=hide hs;clear hs
   have HB:=hide hb;clear hb
   have h24x:x'.length≤24:=by omega
   have h24y:y'.length≤24:=by omega
   have HX:=hide (suf_two x')
   have HY:=hide (suf_two y')
   by_cases hne:x'.length=0∧y'.length=0
   · obtain ⟨h1,h2⟩:=hne
     have h1':=List.eq_nil_of_length_eq_zero h1
     have h2':=List.eq_nil_of_length_eq_zero h2
     subst h1' h2'
     go_wp2_with fail
     go_ret
     exact ⟨ret_int (by rw[HS.out,Ver.parts_nil]),HB.out⟩
   · have hk':k≤23:=by omega
     have hpos:0<x'.length+y'.length:=by omega
     have htest:x'≠[]∨(x'=[]∧(!y'.isEmpty)=true):=by
       cases x' with
       | nil=>cases y' with
         | nil=>simp at hpos
         | cons d m=>exact .inr ⟨rfl,rfl⟩
       | cons c l=>exact .inl (by simp)
     clear hne
     by_cases hc:Ver.signs 25 (Ver.pre Ver.notD x') (Ver.pre Ver.notD y')=0
     · have HC:=hide hc
       have hc':(Ver.signs 25 (Ver.pre Ver.notD x') (Ver.pre Ver.notD y') != 0)=false:=bne_eq_false_iff_eq.2 hc
       clear hc
       by_cases hd:Ver.nums (Ver.pre Ver.isD (Ver.suf Ver.notD x')) (Ver.pre Ver.isD (Ver.suf Ver.notD y'))=0
       · have HD:=hide hd
         have hd':(Ver.nums (Ver.pre Ver.isD (Ver.suf Ver.notD x')) (Ver.pre Ver.isD (Ver.suf Ver.notD y')) != 0)=false:=bne_eq_false_iff_eq.2 hd
         clear hd
         rcases htest with h | ⟨rfl,h⟩
         all_goals
           go_wp2_with (first
             | (go_at_call_of 107 (Value.func (Fn.func (108:Nat)) #[] #[]);refine (cut_others _ (by assumption) _).mono ?_;rintro e w' ⟨rfl,hb⟩;replace HB:=hide (HB.out.trans (hb.mono HB.out.size));clear hb)
             | (go_at_call_of 107 (Value.func (Fn.func (101:Nat)) #[] #[]);refine (cut_digits _ (Nat.le_trans (suf_le _ _) (by assumption)) _).mono ?_;rintro e w' ⟨rfl,hb⟩;replace HB:=hide (HB.out.trans (hb.mono HB.out.size));clear hb)
             | (go_at_call 109;refine (signs_list _ _ (Nat.le_trans (pre_le _ _) (by assumption)) (Nat.le_trans (pre_le _ _) (by assumption)) _).mono ?_;rintro e w' ⟨rfl,rfl⟩)
             | (go_at_call 54;refine (nums_list _ _ (Nat.le_trans (pre_le _ _) (Nat.le_trans (suf_le _ _) (by assumption))) (Nat.le_trans (pre_le _ _) (Nat.le_trans (suf_le _ _) (by assumption))) _).mono ?_;rintro e w' ⟨rfl,hb⟩;replace HB:=hide (HB.out.trans (hb.mono HB.out.size));clear hb))
           exact ⟨⟨k+1,_,_,by omega,len_on HX.out hx',len_on HY.out hy',rfl,rfl,by rw[HS.out,parts_3 hk' HC.out HD.out],HB.out⟩,strLen_lt HX.out HY.out hpos⟩
       · have HD:=hide hd
         have hd':(Ver.nums (Ver.pre Ver.isD (Ver.suf Ver.notD x')) (Ver.pre Ver.isD (Ver.suf Ver.notD y')) != 0)=true:=bne_iff_ne.2 hd
         clear hd
         rcases htest with h | ⟨rfl,h⟩
         all_goals
           go_wp2_with (first
             | (go_at_call_of 107 (Value.func (Fn.func (108:Nat)) #[] #[]);refine (cut_others _ (by assumption) _).mono ?_;rintro e w' ⟨rfl,hb⟩;replace HB:=hide (HB.out.trans (hb.mono HB.out.size));clear hb)
             | (go_at_call_of 107 (Value.func (Fn.func (101:Nat)) #[] #[]);refine (cut_digits _ (Nat.le_trans (suf_le _ _) (by assumption)) _).mono ?_;rintro e w' ⟨rfl,hb⟩;replace HB:=hide (HB.out.trans (hb.mono HB.out.size));clear hb)
             | (go_at_call 109;refine (signs_list _ _ (Nat.le_trans (pre_le _ _) (by assumption)) (Nat.le_trans (pre_le _ _) (by assumption)) _).mono ?_;rintro e w' ⟨rfl,rfl⟩)
             | (go_at_call 54;refine (nums_list _ _ (Nat.le_trans (pre_le _ _) (Nat.le_trans (suf_le _ _) (by assumption))) (Nat.le_trans (pre_le _ _) (Nat.le_trans (suf_le _ _) (by assumption))) _).mono ?_;rintro e w' ⟨rfl,hb⟩;replace HB:=hide (HB.out.trans (hb.mono HB.out.size));clear hb))
           go_ret
           exact ⟨ret_int (by rw[HS.out,parts_2 hk' HC.out HD.out]),HB.out⟩
     · have HC:=hide hc
       have hc':(Ver.signs 25 (Ver.pre Ver.notD x') (Ver.pre Ver.notD y') != 0)=true:=bne_iff_ne.2 hc
       clear hc
       rcases htest with h | ⟨rfl,h⟩
       all_goals
         go_wp2_with (first
           | (go_at_call_of 107 (Value.func (Fn.func (108:Nat)) #[] #[]);refine (cut_others _ (by assumption) _).mono ?_;rintro e w' ⟨rfl,hb⟩;replace HB:=hide (HB.out.trans (hb.mono HB.out.size));clear hb)
           | (go_at_call_of 107 (Value.func (Fn.func (101:Nat)) #[] #[]);refine (cut_digits _ (Nat.le_trans (suf_le _ _) (by assumption)) _).mono ?_;rintro e w' ⟨rfl,hb⟩;replace HB:=hide (HB.out.trans (hb.mono HB.out.size));clear hb)
           | (go_at_call 109;refine (signs_list _ _ (Nat.le_trans (pre_le _ _) (by assumption)) (Nat.le_trans (pre_le _ _) (by assumption)) _).mono ?_;rintro e w' ⟨rfl,rfl⟩)
           | (go_at_call 54;refine (nums_list _ _ (Nat.le_trans (pre_le _ _) (Nat.le_trans (suf_le _ _) (by assumption))) (Nat.le_trans (pre_le _ _) (Nat.le_trans (suf_le _ _) (by assumption))) _).mono ?_;rintro e w' ⟨rfl,hb⟩;replace HB:=hide (HB.out.trans (hb.mono HB.out.size));clear hb))
         go_ret
         exact ⟨ret_int (by rw[HS.out,parts_1 hk' HC.out]),HB.out⟩
def vv (v:Ver.V):Value := .agg #[.string ⟨v.e.toArray⟩, .string ⟨v.m.toArray⟩, .string ⟨v.r.toArray⟩]
theorem three_cells {w:World} {b:Nat} {x y z:Int} (h0:w.cell? ⟨b,0,none⟩=some (.int .i64 x)) (h1:w.cell? ⟨b,1,none⟩=some (.int .i64 y)) (h2:w.cell? ⟨b,2,none⟩=some (.int .i64 z)) :
   ∀ j,j<[x,y,z].length→w.cell? ⟨b,j,none⟩=some (.int .i64 ([x,y,z].getD j 0)):=by
 intro j hj
 match j,hj with
 | 0,_=>exact h0
 | 1,_=>exact h1
 | 2,_=>exact h2
theorem nz_three (x y z:Int):firstNZ [x,y,z]=Ver.or3 x (Ver.or3 y z):=by
 by_cases h:z=0<;>simp[firstNZ,Ver.or3,h]
theorem or_three (x y z:Int) (w:World) :
   Calls Tryz.prog 53 #[.slice (some ⟨w.heap.size,0,none⟩) 3 3] (w.alloc (.cells #[.int .i64 x, .int .i64 y, .int .i64 z] 3)) fun e w' =>
     e = .returned (.int .i64 (Ver.or3 x (Ver.or3 y z)))∧w'=w.alloc (.cells #[.int .i64 x, .int .i64 y, .int .i64 z] 3):=by
 rw[← nz_three]
 exact or_any w.heap.size 3 3 [x,y,z] rfl (by decide) _ (three_cells (by simp[go_sem]) (by simp[go_sem]) (by simp[go_sem]))
def Six (a1 a2 a3 b1 b2 b3:List UInt8) (w w':World):Prop :=
 w'.cell? ⟨w.heap.size,0,none⟩=some (.string ⟨a1.toArray⟩)∧w'.cell? ⟨w.heap.size,1,none⟩=some (.string ⟨a2.toArray⟩)∧w'.cell? ⟨w.heap.size,2,none⟩=some (.string ⟨a3.toArray⟩)
     ∧ w'.cell? ⟨w.heap.size+1,0,none⟩=some (.string ⟨b1.toArray⟩)∧w'.cell? ⟨w.heap.size+1,1,none⟩=some (.string ⟨b2.toArray⟩)∧w'.cell? ⟨w.heap.size+1,2,none⟩=some (.string ⟨b3.toArray⟩)∧Below w.heap.size w w'
theorem six_start (a1 a2 a3 b1 b2 b3:List UInt8) (w:World) (t:TypeId):Six a1 a2 a3 b1 b2 b3 w
   ((w.alloc (.cells #[.string ⟨a1.toArray⟩, .string ⟨a2.toArray⟩, .string ⟨a3.toArray⟩] t)).alloc (.cells #[.string ⟨b1.toArray⟩, .string ⟨b2.toArray⟩, .string ⟨b3.toArray⟩] t)).drew:=by
 refine ⟨?_,?_,?_,?_,?_,?_,(((Below.refl _ _).alloc (Nat.le_refl _) _).alloc (by simp) _).drew⟩<;>simp[go_sem]
theorem cell_keeps {W W':World} {p:Addr} {v:Value} (hb:Below W.heap.size W W') (h:W.cell? p=some v):W'.cell? p=some v :=
 (hb.cell (World.block_lt_of_cell? W p h)).trans h
theorem six_on {a1 a2 a3 b1 b2 b3:List UInt8} {w W W':World} (hb:Below W.heap.size W W') (h:Six a1 a2 a3 b1 b2 b3 w W):Six a1 a2 a3 b1 b2 b3 w W':=by
 obtain ⟨h1,h2,h3,h4,h5,h6,h7⟩:=h
 exact ⟨cell_keeps hb h1,cell_keeps hb h2,cell_keeps hb h3,cell_keeps hb h4,cell_keeps hb h5,cell_keeps hb h6,h7.trans (hb.mono h7.size)⟩
theorem six_alloc {a1 a2 a3 b1 b2 b3:List UInt8} {w W:World} {o:Obj} (h:Six a1 a2 a3 b1 b2 b3 w W):Six a1 a2 a3 b1 b2 b3 w (W.alloc o) :=
 six_on ((Below.refl _ _).alloc (Nat.le_refl _) _) h
theorem vcmp_any (a1 a2 a3 b1 b2 b3:List UInt8) (ha1:a1.length≤24) (ha2:a2.length≤24) (ha3:a3.length≤24) (hb1:b1.length≤24) (hb2:b2.length≤24) (hb3:b3.length≤24) (w:World) :
   Calls Tryz.prog 28 #[vv ⟨a1,a2,a3⟩,vv ⟨b1,b2,b3⟩] w fun e w'=>e = .returned (.int .i64 (Ver.cmpV ⟨a1,a2,a3⟩ ⟨b1,b2,b3⟩))∧Below w.heap.size w w':=by
 simp only[vv]
 go_enter Tryz.func28,Tryz.ntmps28
 go_wp2_with fail
 go_region_held3 (fun w'=>w'.cell? ⟨w.heap.size,0,none⟩=some (.string ⟨a1.toArray⟩)∧w'.cell? ⟨w.heap.size,1,none⟩=some (.string ⟨a2.toArray⟩)∧w'.cell? ⟨w.heap.size,2,none⟩=some (.string ⟨a3.toArray⟩)
     ∧ w'.cell? ⟨w.heap.size+1,0,none⟩=some (.string ⟨b1.toArray⟩)∧w'.cell? ⟨w.heap.size+1,1,none⟩=some (.string ⟨b2.toArray⟩)∧w'.cell? ⟨w.heap.size+1,2,none⟩=some (.string ⟨b3.toArray⟩)∧Below w.heap.size w w')
   (first | assumption | exact six_start _ _ _ _ _ _ _ _ | exact six_on (by assumption) (by assumption) | exact six_alloc (by assumption))
   (first
     | (go_at_call 54;refine (nums_list a1 b1 ha1 hb1 _).mono ?_;rintro e w' ⟨rfl,hb⟩)
     | (go_at_call 55;refine (parts_any _ _ (by assumption) (by assumption) _).mono ?_;rintro e w' ⟨rfl,hb⟩)
     | (go_at_call 53;refine (or_three _ _ _ _).mono ?_;rintro e w' ⟨rfl,rfl⟩))
 go_wp2
 go_ret
 exact ⟨rfl,(show Six a1 a2 a3 b1 b2 b3 w _ by assumption).2.2.2.2.2.2⟩
end
namespace Ver
theorem idx_cases (l:List UInt8) (c:UInt8):(Lib.indexByte l c = -1∧l.contains c=false) ∨
   (∃ k:Nat,k<l.length∧Lib.indexByte l c=k∧l.contains c=true∧(l.takeWhile fun x=>x != c)=l.take k∧((l.dropWhile fun x=>x != c).drop 1)=l.drop (k+1)):=by
 induction l with
 | nil=>exact .inl ⟨rfl,rfl⟩
 | cons b l ih =>
   by_cases hb:b=c
   · subst hb
     exact .inr ⟨0,by simp,by simp[Lib.indexByte],by simp,by simp,by simp⟩
   · have hb' : ¬ c=b:=fun h=>hb h.symm
     rcases ih with ⟨h1,h2⟩ | ⟨k,h1,h2,h3,h4,h5⟩
     · exact .inl ⟨by simp[Lib.indexByte,hb,h1],by simp at h2;simp[h2,hb']⟩
     · refine .inr ⟨k+1,by simpa using h1,?_,?_,?_,?_⟩
       · have hk : ¬ ((k:Int) = -1):=by omega
         simp[Lib.indexByte,hb,h2,hk]
       · simp at h3;simp[h3]
       · simp[hb,h4]
       · simp[hb,h5]
theorem cutC_cases (l:List UInt8):(Lib.indexByte l 58 = -1∧cutC l=([48],l))∨(∃ k:Nat,k<l.length∧Lib.indexByte l 58=k∧cutC l=(l.take k,l.drop (k+1))):=by
 rcases idx_cases l 58 with ⟨h1,h2⟩ | ⟨k,h1,h2,h3,h4,h5⟩
 · exact .inl ⟨h1,by simp only[cutC,h2];rfl⟩
 · exact .inr ⟨k,h1,h2,by simp only[cutC,h3,h4,h5];rfl⟩
theorem cutM_split (u v:List UInt8) (hv:∀ x∈v,x≠45):cutM (u++45::v)=(u,v):=by
 have e:(u++45::v).reverse=v.reverse++45::u.reverse:=by simp
 have hc:(u++45::v).contains 45=true:=by simp
 have h1:(v.reverse++45::u.reverse).takeWhile (fun c=>c != 45)=v.reverse:=by
   rw[List.takeWhile_append_of_pos (by intro x hx;simpa using hv x (by simpa using hx))];simp
 have h2:(v.reverse++45::u.reverse).dropWhile (fun c=>c != 45)=45::u.reverse:=by
   rw[List.dropWhile_append_of_pos (by intro x hx;simpa using hv x (by simpa using hx))];simp
 simp only[cutM,hc,e,h1,h2]
 simp
theorem cutM_none (l:List UInt8) (h:∀ x∈l,x≠45):cutM l=(l,[48]):=by
 have hc:l.contains 45=false:=by simp;intro hm;exact h 45 hm rfl
 simp only[cutM,hc];rfl
theorem cutM_cases (l:List UInt8):(Lib.lastIndexByte ⟨l.toArray⟩ 45 = -1∧cutM l=(l,[48]))∨(∃ k:Nat,k<l.length∧Lib.lastIndexByte ⟨l.toArray⟩ 45=k∧cutM l=(l.take k,l.drop (k+1))):=by
 have toI:∀ x:UInt8,(x.toNat:Int)=45→x=45:=fun x h=>by
   apply UInt8.toNat_inj.1;show x.toNat=45;omega
 have at_:∀ j,∀ h:j<l.length,(⟨l.toArray⟩:ByteArray).data[j]! = l[j]:=fun j h=>by simp[h]
 rcases Lib.lastIndexByte_spec ⟨l.toArray⟩ 45 with ⟨h1,h2⟩ | ⟨i,h1,h2,h3,h4⟩
 · refine .inl ⟨h1,cutM_none l fun x hx e => ?_⟩
   obtain ⟨j,hj,rfl⟩:=List.mem_iff_getElem.1 hx
   exact h2 j (by simpa [ByteArray.size] using hj) (by rw[at_ j hj,e];rfl)
 · have hi:i<l.length:=by simpa [ByteArray.size] using h1
   refine .inr ⟨i,hi,h2,?_⟩
   have e45:l[i]=45:=toI _ (by rw[← at_ i hi];exact h3)
   have e:l=l.take i++45::l.drop (i+1):=by
     conv=>lhs;rw[← List.take_append_drop i l,List.drop_eq_getElem_cons hi,e45]
   conv=>lhs;rw[e]
   refine cutM_split _ _ fun x hx ex => ?_
   obtain ⟨j,hj,rfl⟩:=List.mem_iff_getElem.1 hx
   simp only[List.length_drop] at hj
   have hj':i+1+j<l.length:=by omega
   refine h4 (i+1+j) (by omega) (by simpa [ByteArray.size] using hj') ?_
   rw[at_ _ hj']
   rw[List.getElem_drop] at ex
   rw[ex];rfl
theorem cutC_len (l:List UInt8):(cutC l).2.length≤l.length:=by
 rcases cutC_cases l with ⟨_,h⟩ | ⟨k,_,_,h⟩<;>rw[h]<;>simp
theorem cutC_len1 (l:List UInt8) (hl:1≤l.length):(cutC l).1.length≤l.length:=by
 rcases cutC_cases l with ⟨_,h⟩ | ⟨k,_,_,h⟩<;>rw[h]<;>simp
 · omega
 · omega
theorem cutM_len1 (l:List UInt8):(cutM l).1.length≤l.length:=by
 rcases cutM_cases l with ⟨_,h⟩ | ⟨k,_,_,h⟩<;>rw[h]<;>simp
 omega
theorem cutM_len2 (l:List UInt8) (hl:l.length≤24):(cutM l).2.length≤24:=by
 rcases cutM_cases l with ⟨_,h⟩ | ⟨k,_,_,h⟩<;>rw[h]<;>simp
 omega
end Ver
section
open Go.RowKit
theorem all_list (g:Nat) (f:UInt8→Bool) (he:∀ args w,(callFunc g args).run Tryz.prog w = .ok (.enter g args) w)
   (hg:∀ (c:UInt8) (w:World),Calls Tryz.prog g #[.int .u8 c.toNat] w fun e w'=>e = .returned (.bool (f c))∧w'=w)
   (x:List UInt8) (hx:x.length≤24) (w:World) :
   Calls Tryz.prog 100 #[.string ⟨x.toArray⟩, .func (.func g) #[] #[]] w fun e w'=>e = .returned (.bool (Ver.allL f x))∧Below w.heap.size w w' :=
 all_any g f he hg ⟨x.toArray⟩ (by simp[ByteArray.size];omega) w
theorem enters_isMainSign (args:Array Value) (w:World):(callFunc 102 args).run Tryz.prog w = .ok (.enter 102 args) w :=
 enters Tryz.func102 (by kernel_rfl) rfl args w
theorem enters_isRevisionSign (args:Array Value) (w:World):(callFunc 103 args).run Tryz.prog w = .ok (.enter 103 args) w :=
 enters Tryz.func103 (by kernel_rfl) rfl args w
theorem isEpoch_any (x:List UInt8) (hx:x.length≤24) (w:World) :
   Calls Tryz.prog 50 #[.string ⟨x.toArray⟩] w fun e w'=>e = .returned (.bool (Ver.okE x))∧Below w.heap.size w w':=by
 by_cases h1:1≤x.length
 · by_cases h2:x.length≤4
   · have e1:Ver.okE x=Ver.allL Ver.isD x:=by simp[Ver.okE,h1,h2]
     rw[e1]
     go_enter Tryz.func50,Tryz.ntmps50
     go_wp2_with (go_at_call 100;refine (all_list _ _ enters_isDigit isDigit_any x hx _).mono ?_;rintro e w' ⟨rfl,hb⟩)
     go_ret
     exact ⟨rfl,hb⟩
   · have e1:Ver.okE x=false:=by simp[Ver.okE,h2]
     rw[e1]
     go_enter Tryz.func50,Tryz.ntmps50
     go_wp2
     go_ret
     exact ⟨rfl,Below.refl _ _⟩
 · have e1:Ver.okE x=false:=by simp[Ver.okE,h1]
   rw[e1]
   go_enter Tryz.func50,Tryz.ntmps50
   go_wp2
   go_ret
   exact ⟨rfl,Below.refl _ _⟩
theorem isRevision_any (x:List UInt8) (hx:x.length≤24) (w:World) :
   Calls Tryz.prog 52 #[.string ⟨x.toArray⟩] w fun e w'=>e = .returned (.bool (Ver.okR x))∧Below w.heap.size w w':=by
 rcases x with _ | ⟨c,l⟩
 · go_enter Tryz.func52,Tryz.ntmps52
   go_wp2
   go_ret
   exact ⟨rfl,Below.refl _ _⟩
 · go_enter Tryz.func52,Tryz.ntmps52
   go_wp2_with (go_at_call 100;refine (all_list _ _ enters_isRevisionSign isRevisionSign_any (c::l) hx _).mono ?_;rintro e w' ⟨rfl,hb⟩)
   go_ret
   exact ⟨rfl,hb⟩
theorem isMain_any (x:List UInt8) (hx:x.length≤24) (w:World) :
   Calls Tryz.prog 51 #[.string ⟨x.toArray⟩] w fun e w'=>e = .returned (.bool (Ver.okM x))∧Below w.heap.size w w':=by
 rcases x with _ | ⟨c,l⟩
 · go_enter Tryz.func51,Tryz.ntmps51
   go_wp2
   go_ret
   exact ⟨rfl,Below.refl _ _⟩
 · cases hc:Ver.isD c
   · have e1:Ver.okM (c::l)=false:=by simp[Ver.okM,hc]
     rw[e1]
     go_enter Tryz.func51,Tryz.ntmps51
     go_wp2_with (go_at_call 101;refine (isDigit_any c _).mono ?_;rintro e w' ⟨rfl,rfl⟩)
     go_ret
     exact ⟨rfl,Below.refl _ _⟩
   · have e1:Ver.okM (c::l)=Ver.allL Ver.isM (c::l):=by simp[Ver.okM,hc]
     rw[e1]
     go_enter Tryz.func51,Tryz.ntmps51
     go_wp2_with (first
       | (go_at_call 101;refine (isDigit_any c _).mono ?_;rintro e w' ⟨rfl,rfl⟩)
       | (go_at_call 100;refine (all_list _ _ enters_isMainSign isMainSign_any (c::l) hx _).mono ?_;rintro e w' ⟨rfl,hb⟩))
     go_ret
     exact ⟨rfl,hb⟩
end
end Go.Proofs.YtialenebfcnkkaaGreatDoor
