/- InsW1, WishW1, HfW1, SizeW2, SizeW3, FileW1, CmdW2, CmdW3 -/
import Derived.Test.YtialenebfcnkkaaGreatDoorOrdJ6
import Derived.Test.YtialenebfcnkkaaGreatDoorOrdJ11
import Derived.Test.YtialenebfcnkkaaGreatDoorOrdJ4
set_option maxHeartbeats 2000000
set_option maxRecDepth 100000
namespace Go.Proofs.YtialenebfcnkkaaGreatDoor
section
open Go.RowKit
open aH (St gH S)
theorem wU (x:S) (hx:x.length≤2000) (w:World) :
   Calls Tryz.prog 223 #[.string ⟨x.toArray⟩] w fun e w'=>e = .returned (.string ⟨x.toArray⟩)∧Below w.heap.size w w':=by
 go_enter Tryz.func223,Tryz.ntmps223
 go_wp2_with (go_at_call 273;refine (Tryz.stringslite_Clone ⟨x.toArray⟩ _ (by simp[ByteArray.size];omega)).mono ?_;rintro e w1 ⟨rfl,hb⟩)
 go_ret
 exact ⟨rfl,hb⟩
theorem FX (F:List (S × S)) (k:Nat) (hk:k<F.length):(F.flatMap cB)[2*k]? = some (aO (F.getD k ([],[])).1)∧(F.flatMap cB)[2*k+1]? = some (aO (F.getD k ([],[])).2):=by
 induction F generalizing k with
 | nil=>simp at hk
 | cons a l ih =>
   cases k with
   | zero=>simp[cB]
   | succ k =>
     have:=ih k (by simpa using hk)
     rw[show 2*(k+1)=2*k+1+1 from by omega]
     simpa [cB] using this
end
section
open Go.RowKit
open Hv (S Dk VM)
structure fM (rm im:Nat) (R I:VM Value) (w:World):Prop where
 rem:MapAt w rm R
 ins:MapAt w im I
 ne:rm≠im
theorem fM.below {rm im:Nat} {R I:VM Value} {w w':World} (h:fM rm im R I w) (hb:Below w.heap.size w w'):fM rm im R I w':=⟨h.rem.below hb,h.ins.below hb,h.ne⟩
def dB:Value := .agg #[]
theorem Co (rm im:Nat) (R I:VM Value) (x:S) (hx:x.length≤2000) (hn:Wd.isName x=true) (hR:R.length≤1000000) (w:World) (h:fM rm im R I w) :
   Calls Tryz.prog 172 #[.agg #[.map (some rm), .map (some im)], .string ⟨x.toArray⟩] w fun e w'=>e = .returned (.tuple #[.string ⟨x.toArray⟩, .bool true])∧fM rm im (Hv.put R x dB) I w'∧aQ w.heap.size (fun k=>k=rm) w w':=by
 have HW:=hide h
 have hrl:=h.rem.lt
 have hil:=h.ins.lt
 clear h
 go_enter Tryz.func172,Tryz.ntmps172
 go_wp2_with fail
 have hrow:=heap_alloc_new w (.cells #[.map (some rm), .map (some im)] 135)
 refine (jh x hx _).mono ?_
 rintro e w1 ⟨rfl,hb1⟩
 rw[hn]
 have zP:=hide ((hb1.block w.heap.size (by simp)).trans hrow)
 have HW1:=hide ((HW.out.below ((Below.refl w.heap.size w).alloc (Nat.le_refl _) (.cells #[.map (some rm), .map (some im)] 135))).below hb1)
 have HB1:=hide (((Below.refl w.heap.size w).alloc (Nat.le_refl _) (.cells #[.map (some rm), .map (some im)] 135)).trans (hb1.mono (by simp)))
 clear hrow hb1
 go_wp2_with fail
 refine (wU x (by omega) _).mono ?_
 rintro e w2 ⟨rfl,hb2⟩
 have jc:=hide ((hb2.block w.heap.size (blt zP.out)).trans zP.out)
 have hw2:=HW1.out.below hb2
 have HW2:=hide hw2
 have hr2:=hw2.rem
 have HB2:=hide (HB1.out.trans (hb2.mono HB1.out.size))
 have c0:=(ah jc.out 0).trans (show _=some (.map (some rm)) from rfl)
 clear hb2 HW1 zP hw2
 go_wp2_with (first
   | (at_mapUpdate;refine mK rfl _ _ _ 133 rfl 53 Tryz.underlying133 hr2 (by unfold maxLen;omega) rfl x (by unfold maxLen;omega) rfl (.agg #[]) rfl ?_;intro w3 hr3 ht3;go_frame))
 have hf3:=aX ht3
 have HW3:Hid (fM rm im (Hv.put R x dB) I w3):=hide ⟨hr3,HW2.out.ins.kept (hf3.block im HW2.out.ins.lt (fun q=>HW2.out.ne q.symm)),HW2.out.ne⟩
 have mO:=hide (((aQ.refl w.heap.size (fun k=>k=rm) w).below HB2.out (Nat.le_refl _)).next hf3 HB2.out.size (fun _ _ q=>q))
 clear hr3 ht3 hf3 hr2 c0
 go_wp2_with fail
 go_ret2
 exact ⟨rfl,HW3.out,mO.out⟩
theorem Dx (rm im:Nat) (x:S) (hx:x.length≤2000) (hn:Wd.isName x=false) (w:World) :
   Calls Tryz.prog 172 #[.agg #[.map (some rm), .map (some im)], .string ⟨x.toArray⟩] w fun e w'=>e = .returned (.tuple #[.string ⟨#[]⟩, .bool false])∧Below w.heap.size w w':=by
 go_enter Tryz.func172,Tryz.ntmps172
 go_wp2_with fail
 refine (jh x hx _).mono ?_
 rintro e w1 ⟨rfl,hb1⟩
 rw[hn]
 have HB1:=hide (((Below.refl w.heap.size w).alloc (Nat.le_refl _) (.cells #[.map (some rm), .map (some im)] 135)).trans (hb1.mono (by simp)))
 clear hb1
 go_wp2_with fail
 go_ret2
 exact ⟨rfl,HB1.out⟩
end
section
open Go.RowKit
open aH (St gH S)
theorem JB (p t x:S) (b:Nat) (w:World) (h:w.cell? ⟨b,0,none⟩=some (.string ⟨x.toArray⟩)) :
   Calls Tryz.prog 314 #[.agg #[.string ⟨p.toArray⟩, .string ⟨t.toArray⟩], .pointer (some ⟨b,0,none⟩)] w fun e w'=>e = .returned (.bool (p==x))∧Below w.heap.size w w':=by
 have hb:=World.block_lt_of_cell? w _ h
 have hb':b<w.heap.size:=hb
 have hn : ¬ b=w.heap.size:=by omega
 go_enter Tryz.func314,Tryz.ntmps314
 go_wp2_with fail
 go_ret
 exact ⟨rfl,(Below.refl _ w).alloc (Nat.le_refl _) _⟩
theorem Lh (F:List (S × S)) (hF:F.length≤2000) (x:S) (b:Nat) (base:Nat) (v:Value) (w:World) (hv:w.ownsRow base 234 2 v F.length (F.flatMap cB)) (h:w.cell? ⟨b,0,none⟩=some (.string ⟨x.toArray⟩)) :
   Calls Tryz.prog 316 #[v, .func (.func 314) #[] #[.pointer (some ⟨b,0,none⟩)]] w fun e w'=>∃ i:Int,e = .returned (.int .i64 i)∧decide (0≤i)=(F.any fun f=>f.1==x)∧Below w.heap.size w w':=by
 obtain ⟨n,hn⟩:∃ n,F.length=n:=⟨_,rfl⟩
 rw[hn] at hv hF
 have HN:=hide hn
 obtain ⟨ao,c,rfl⟩:=slice_form hv
 have hb:b<w.heap.size:=World.block_lt_of_cell? w _ h
 clear hn
 go_enter Tryz.func316,Tryz.ntmps316
 go_wp2_with fail
 go_loopw [8] (fun i wr=>∃ k:Nat,k≤n∧i = .int .i64 k∧Hid ((F.take k).any (fun f=>f.1==x)=false)∧Hid (Below w.heap.size w wr)) (fun i _=>n-(intOf i).toNat)
 case atStart=>exact ⟨0,by omega,rfl,hide rfl,hide (Below.refl _ _)⟩
 case round =>
   obtain ⟨k,hk,rfl,HA,HB⟩:=hrel
   by_cases hlt:k<n
   · have b1:(k:Int)<(n:Int):=by omega
     have hkl:k<F.length:=by rw[HN.out];exact hlt
     obtain ⟨g,cap,hv2⟩:=aP hv (by omega)
     cases hv2
     have hgl:=(hv.lt g rfl).2
     obtain ⟨p,hp⟩:∃ p,F.getD k ([],[])=p:=⟨_,rfl⟩
     obtain ⟨p1,p2⟩:=p
     have hpa:=FX F k hkl
     rw[hp] at hpa
     have d1:wr.cell? ⟨g,k*2,none⟩=some (.string ⟨p1.toArray⟩):=by rw[Nat.mul_comm];exact (HB.out.cell (p:=⟨g,2*k,none⟩) hgl).trans ((hv.cellAt _ (by omega)).trans hpa.1)
     have d2:wr.cell? ⟨g,k*2+1,none⟩=some (.string ⟨p2.toArray⟩):=by rw[Nat.mul_comm];exact (HB.out.cell (p:=⟨g,2*k+1,none⟩) hgl).trans ((hv.cellAt _ (by omega)).trans hpa.2)
     have hx:wr.cell? ⟨b,0,none⟩=some (.string ⟨x.toArray⟩):=(HB.out.cell (p:=⟨b,0,none⟩) hb).trans h
     have hs:(F.take (k+1)).any (fun f=>f.1==x)=(p1==x):=by
       rw[List.take_succ_eq_append_getElem hkl,List.any_append,HA.out]
       have:F[k]=(p1,p2):=by rw[← hp];simp[List.getD,List.getElem?_eq_getElem hkl]
       simp[this]
     have hin:p1==x→(F.any fun f=>f.1==x)=true:=fun e=>by
       rw[List.any_eq_true]
       have:F[k]=(p1,p2):=by rw[← hp];simp[List.getD,List.getElem?_eq_getElem hkl]
       exact ⟨F[k],List.getElem_mem hkl,by rw[this];exact e⟩
     have HS:=hide hs;have HIN:=hide hin
     have hbs:=HB.out.size
     clear hp hpa hs hin
     cases he:(p1==x)
     · have HS2:Hid ((F.take (k+1)).any (fun f=>f.1==x)=false):=hide (by rw[HS.out,he])
       go_wp2_with (refine (JB p1 p2 x b _ hx).mono ?_;rintro e w' ⟨he',hb1⟩;rw[he] at he';subst he')
       go_roundw
       case rel=>exact ⟨k+1,by omega,by go_num,HS2,hide (HB.out.trans (hb1.mono hbs))⟩
       case measure=>simp[intOf];omega
     · have HI2:=hide (HIN.out he)
       go_wp2_with (refine (JB p1 p2 x b _ hx).mono ?_;rintro e w' ⟨he',hb1⟩;rw[he] at he';subst he')
       go_ret
       exact ⟨_,rfl,by rw[HI2.out];simp,HB.out.trans (hb1.mono hbs)⟩
   · obtain rfl:k=n:=by omega
     have HA2:Hid ((F.any fun f=>f.1==x)=false):=hide (by have:=HA.out;rwa [List.take_of_length_le (by rw[HN.out];exact Nat.le_refl _)] at this)
     go_wp2_with fail
     go_ret
     exact ⟨_,rfl,by rw[HA2.out];rfl,HB.out⟩
theorem Db (F:List (S × S)) (hF:F.length≤2000) (x:S) (b:Nat) (base:Nat) (v:Value) (w:World) (hv:w.ownsRow base 234 2 v F.length (F.flatMap cB)) (h:w.cell? ⟨b,0,none⟩=some (.string ⟨x.toArray⟩)) :
   Calls Tryz.prog 313 #[v, .func (.func 314) #[] #[.pointer (some ⟨b,0,none⟩)]] w fun e w'=>e = .returned (.bool (F.any fun f=>f.1==x))∧Below w.heap.size w w':=by
 have H:=hide (Lh F hF x b base v w hv h)
 clear hv h
 go_enter Tryz.func313,Tryz.ntmps313
 go_wp2_with (go_at_call 316;refine H.out.mono ?_;rintro e w1 ⟨i,rfl,hi,hb⟩)
 go_ret
 exact ⟨rfl,hb⟩
theorem yM (pb:Nat) (nm ve:S) (st:St) (sl:Fin 6→Value) (x:S) (w:World) (h:fD pb nm ve st sl w) (hf:st.files.length≤2000) :
   Calls Tryz.prog 309 #[.pointer (some ⟨pb,0,none⟩), .string ⟨x.toArray⟩] w fun e w'=>e = .returned (.bool (st.files.any fun f=>f.1==x))∧Below w.heap.size w w':=by
 have hlt:=h.lt
 have k5:=(ah h.blk 5).trans (show _=some (sl 3) from rfl)
 have HO:Hid ((w.alloc (.cells #[.string ⟨x.toArray⟩] 9)).ownsRow (pb+1) 234 2 (sl 3) st.files.length (st.files.flatMap cB)):=hide ((h.own 3).alloc _)
 have HC:=hide (ah (heap_alloc_new w (.cells #[.string ⟨x.toArray⟩] 9)) 0)
 have hn : ¬ pb=w.heap.size:=by omega
 clear h
 go_enter Tryz.func309,Tryz.ntmps309
 go_wp2_with (go_at_call 313;refine (Db st.files hf x w.heap.size (pb+1) (sl 3) _ HO.out HC.out).mono ?_;rintro e w1 ⟨rfl,hb⟩)
 go_ret
 exact ⟨rfl,((Below.refl _ _).alloc (Nat.le_refl _) _).trans (hb.mono (by simp))⟩
end
section
open Go.RowKit
theorem Zb (c:UInt8):Dy.contains c=aC.j5 c:=by
 have hc:=c.toNat_lt
 by_cases h:48≤c.toNat∧c.toNat≤57
 · have:c.toNat=48∨c.toNat=49∨c.toNat=50∨c.toNat=51∨c.toNat=52∨c.toNat=53∨c.toNat=54∨c.toNat=55∨c.toNat=56∨c.toNat=57:=by omega
   rcases this with h | h | h | h | h | h | h | h | h | h <;>
     (rw[show c=UInt8.ofNat c.toNat from (by simp)];rw[h];decide +kernel)
 · have h1:aC.j5 c=false:=by
     simp only[aC.j5,Bool.and_eq_false_iff,decide_eq_false_iff_not];omega
   rw[h1]
   apply Bool.eq_false_iff.2
   intro hm
   have hm:=List.elem_iff.1 hm
   simp only[Dy,List.mem_cons,List.not_mem_nil,or_false] at hm
   rcases hm with h' | h' | h' | h' | h' | h' | h' | h' | h' | h'<;>subst h'<;>exact h (by decide)
theorem M9 (c:UInt8) (h:aC.j5 c=true):Lib.digitVal c=some (c.toNat-48)∧48≤c.toNat∧c.toNat≤57:=by
 simp only[aC.j5,Bool.and_eq_true,decide_eq_true_eq] at h
 refine ⟨by rw[Lib.digitVal,if_pos (by omega)],by omega,by omega⟩
theorem vH (f:UInt8→Bool):∀ l:List UInt8,l.dropWhile f=[] ↔ l.all f=true
 | []=>by simp
 | c::l=>by
   cases h:f c with
   | true=>simp[List.dropWhile,h,vH f l]
   | false=>simp[List.dropWhile,h]
theorem JY (x:List UInt8):Lib.trimS x Dy=[] ↔ x.all aC.j5=true:=by
 have hf:(fun c=>Dy.contains c)=aC.j5:=funext Zb
 unfold Lib.trimS Lib.trimLeftS Lib.trimRightS
 rw[hf,vH]
 constructor
 · intro h
   have h2:x.reverse.dropWhile aC.j5=[]:=by
     cases hd:x.reverse.dropWhile aC.j5 with
     | nil=>rfl
     | cons c l =>
       have hn:aC.j5 c=false:=by
         have:=List.head_dropWhile_not (p:=aC.j5) (l:=x.reverse) (by rw[hd];simp)
         simpa [hd] using this
       rw[hd] at h
       have:=List.all_eq_true.1 h c (by simp)
       rw[hn] at this;cases this
   have:=(vH aC.j5 x.reverse).1 h2
   simpa using this
 · intro h
   have:x.reverse.dropWhile aC.j5=[]:=(vH _ _).2 (by simpa using h)
   rw[this];rfl
theorem M8:∀ (l:List UInt8) (a:Nat),l.all aC.j5=true→∃ n,Lib.decFrom a l=some n∧(n:Int)=l.foldl (fun a c=>10*a+((c.toNat:Int)-48)) (a:Int)
 | [],a,_=>⟨a,rfl,rfl⟩
 | c::l,a,h=>by
   simp only[List.all_cons,Bool.and_eq_true] at h
   obtain ⟨hd,h1,h2⟩:=M9 c h.1
   obtain ⟨n,hn,hv⟩:=M8 l (a*10+(c.toNat-48)) h.2
   refine ⟨n,by simp[Lib.decFrom,hd,hn],?_⟩
   rw[hv,List.foldl_cons]
   congr 1
   omega
theorem RG (x:List UInt8) (h0:1≤x.length) (h:x.all aC.j5=true):Lib.atoi x=some (aC.val x):=by
 obtain ⟨n,hn,hv⟩:=M8 x 0 h
 cases x with
 | nil=>simp at h0
 | cons c l =>
   simp only[List.all_cons,Bool.and_eq_true] at h
   obtain ⟨-,h1,h2⟩:=M9 c h.1
   have c1:(c==45)=false:=by
     apply beq_eq_false_iff_ne.2;rintro rfl;exact absurd h1 (by decide)
   have c2:(c==43)=false:=by
     apply beq_eq_false_iff_ne.2;rintro rfl;exact absurd h1 (by decide)
   simp only[Lib.atoi,c1,c2,Lib.decNat,hn]
   simp[hv,aC.val]
theorem Mq (w:World):Calls Tryz.prog 308 #[.string ⟨#[]⟩] w fun e w'=>e = .returned (.tuple #[.int .i64 0, .bool false])∧Below w.heap.size w w':=by
 go_enter Tryz.func308,Tryz.ntmps308
 go_wp2_with fail
 go_ret2
 exact ⟨rfl,Below.refl _ _⟩
theorem Qq (x:List UInt8) (h4:4<x.length) (hx:x.length≤2000) (w:World):Calls Tryz.prog 308 #[.string ⟨x.toArray⟩] w fun e w'=>e = .returned (.tuple #[.int .i64 0, .bool false])∧Below w.heap.size w w':=by
 have he:(x==[])=false:=by cases x with
   | nil=>simp at h4
   | cons c l=>rfl
 have b4:(4:Int)<x.length:=by omega
 go_enter Tryz.func308,Tryz.ntmps308
 go_wp2_with fail
 go_ret2
 exact ⟨rfl,Below.refl _ _⟩
theorem Ml (x:List UInt8) (h1:1≤x.length) (h4:x.length≤4) (ht:Lib.trimS x Dy≠[]) (w:World):Calls Tryz.prog 308 #[.string ⟨x.toArray⟩] w fun e w'=>e = .returned (.tuple #[.int .i64 0, .bool false])∧Below w.heap.size w w':=by
 have he:(x==[])=false:=by cases x with
   | nil=>simp at h1
   | cons c l=>rfl
 have b4 : ¬ (4:Int)<x.length:=by omega
 obtain ⟨y,hy⟩:∃ y,Lib.trimS x Dy=y:=⟨_,rfl⟩
 have hn:(y==[])=false:=by
   rw[hy] at ht;cases y with
   | nil=>exact absurd rfl ht
   | cons c l=>rfl
 have HY:=hide hy
 clear ht hy
 go_enter Tryz.func308,Tryz.ntmps308
 go_wp2_with (go_at_call 312;refine (rM x (by omega) _).mono ?_;rintro e w1 ⟨he1,hb1⟩;rw[HY.out] at he1;subst he1)
 go_ret2
 exact ⟨rfl,hb1⟩
theorem JH (x:List UInt8) (h1:1<x.length) (h4:x.length≤4) (hd:Wd.jS (fun c=>(c.toNat:Int)==48) x=true) (ht:Lib.trimS x Dy=[]) (w:World):Calls Tryz.prog 308 #[.string ⟨x.toArray⟩] w fun e w'=>e = .returned (.tuple #[.int .i64 0, .bool false])∧Below w.heap.size w w':=by
 obtain ⟨c0,hc0,hhead⟩:∃ c0,(⟨x.toArray⟩:ByteArray)[0]'(by show 0<x.length;omega)=c0∧∀ f,Wd.jS f x=f c0:=by
   cases x with
   | nil=>simp at h1
   | cons c l=>exact ⟨c,rfl,fun _=>rfl⟩
 rw[hhead] at hd
 have he:(x==[])=false:=by cases x with
   | nil=>simp at h1
   | cons c l=>rfl
 have h0:(x==[48])=false:=by
   apply beq_eq_false_iff_ne.2;rintro rfl;simp at h1
 have b4 : ¬ (4:Int)<x.length:=by omega
 have hp:(0:Int)<x.length:=by omega
 have HT:=hide ht
 clear ht hhead
 go_enter Tryz.func308,Tryz.ntmps308
 go_wp2_with (go_at_call 312;refine (rM x (by omega) _).mono ?_;rintro e w1 ⟨he1,hb1⟩;rw[HT.out] at he1;subst he1)
 go_ret2
 exact ⟨rfl,hb1⟩
theorem Qs (w:World):Calls Tryz.prog 308 #[.string ⟨#[48]⟩] w fun e w'=>e = .returned (.tuple #[.int .i64 0, .bool true])∧Below w.heap.size w w':=by
 have ht:Lib.trimS [48] Dy=[]:=by decide +kernel
 have ha:Lib.atoi [48]=some 0:=by decide +kernel
 go_enter Tryz.func308,Tryz.ntmps308
 go_wp2_with (first
   | (go_at_call 312;refine (rM [48] (by simp) _).mono ?_;rintro e w1 ⟨he1,hb1⟩;rw[ht] at he1;subst he1)
   | (go_at_call 154;refine (GL [48] 0 (by simp) ha _).mono ?_;rintro e w2 ⟨rfl,hb2⟩))
 go_quiet (fail)
 go_wp2_with fail
 go_ret2
 exact ⟨rfl,below_drewN (hb1.trans (hb2.mono hb1.size)) _⟩
def Xt (x:List UInt8):Int:=if sz x<0 then 0 else sz x
def szB (x:List UInt8):Bool:=decide (0≤sz x)
theorem Ug {x:List UInt8} (hl:Wd.gM x 1 4=true) (hn : ¬ (Wd.jS (fun c=>(c.toNat:Int)==48) x=true∧1<x.length)) (hd:x.all aC.j5=true):Xt x=aC.val x∧szB x=true:=by
 have hz:sz x=aC.val x:=by rw[sz,if_pos ⟨hl,hn,hd⟩]
 have h0:0≤aC.val x:=by rw[aC.aau];exact (aC.Yt x (List.all_eq_true.1 hd)).1
 exact ⟨by rw[Xt,hz,if_neg (by omega)],by rw[szB,hz];simpa using h0⟩
theorem NA {x:List UInt8} (h : ¬ (Wd.gM x 1 4=true ∧ ¬ (Wd.jS (fun c=>(c.toNat:Int)==48) x=true∧1<x.length)∧x.all aC.j5=true)):Xt x=0∧szB x=false:=by
 have hz:sz x = -1:=by rw[sz,if_neg h]
 exact ⟨by rw[Xt,hz];rfl,by rw[szB,hz];rfl⟩
theorem JG (x:List UInt8) (hx:x.length≤2000) (w:World):Calls Tryz.prog 308 #[.string ⟨x.toArray⟩] w fun e w'=>e = .returned (.tuple #[.int .i64 (Xt x), .bool (szB x)])∧Below w.heap.size w w':=by
 by_cases h1:1≤x.length
 · by_cases h4:x.length≤4
   · have hl:Wd.gM x 1 4=true:=by simp[Wd.gM,h1,h4]
     by_cases hd:x.all aC.j5=true
     · have ht:=(JY x).2 hd
       by_cases hn:Wd.jS (fun c=>(c.toNat:Int)==48) x=true
       · by_cases h2:1<x.length
         · obtain ⟨e1,e2⟩:=NA (x:=x) (fun h=>h.2.1 ⟨hn,h2⟩)
           rw[e1,e2];exact JH x h2 h4 hn ht w
         · obtain ⟨e1,e2⟩:=Ug hl (fun h=>h2 h.2) hd
           rw[e1,e2]
           match x,h1,h2,hn with
           | [c],_,_,hn =>
             have hc:c=48:=by
               simp only[Wd.jS,beq_iff_eq] at hn
               apply UInt8.toNat_inj.1
               show c.toNat=48
               omega
             subst hc
             exact Qs w
           | a::b::l,_,h2,_=>simp at h2
       · obtain ⟨e1,e2⟩:=Ug hl (fun h=>hn h.1) hd
         rw[e1,e2]
         exact Xo x (aC.val x) h1 h4 (by simpa using hn) ht (RG x h1 hd) w
     · obtain ⟨e1,e2⟩:=NA (x:=x) (fun h=>hd h.2.2)
       rw[e1,e2];exact Ml x h1 h4 (fun h=>hd ((JY x).1 h)) w
   · obtain ⟨e1,e2⟩:=NA (x:=x) (fun h=>by have:=h.1;simp[Wd.gM] at this;omega)
     rw[e1,e2];exact Qq x (by omega) hx w
 · have:x=[]:=by cases x with
     | nil=>rfl
     | cons c l=>simp at h1
   subst this
   obtain ⟨e1,e2⟩:=NA (x:=([]:List UInt8)) (fun h=>by have:=h.1;simp[Wd.gM] at this)
   rw[e1,e2];exact Mq w
end
section
open Go.RowKit
open aH (St gH S)
theorem qJ (z:S) (hz:z.length≤2000) (n:Nat) (h:sz z=(n:Int)) (w:World):Calls Tryz.prog 308 #[.string ⟨z.toArray⟩] w fun e w'=>e = .returned (.tuple #[.int .i64 (n:Int), .bool true])∧Below w.heap.size w w':=by
 have h1:Xt z=(n:Int):=by rw[Xt,h,if_neg (by omega)]
 have h2:szB z=true:=by rw[szB,h];simp
 have:=JG z hz w
 rwa [h1,h2] at this
theorem Qr (z:S) (hz:z.length≤2000) (h:sz z<0) (w:World):Calls Tryz.prog 308 #[.string ⟨z.toArray⟩] w fun e w'=>e = .returned (.tuple #[.int .i64 0, .bool false])∧Below w.heap.size w w':=by
 have h1:Xt z=0:=by rw[Xt,if_pos h]
 have h2:szB z=false:=by rw[szB];simp;omega
 have:=JG z hz w
 rwa [h1,h2] at this
theorem oO (pb q o n c:Nat) (hn:n≠3) (w:World) :
   Calls Tryz.prog 296 #[.pointer (some ⟨pb,0,none⟩), .slice (some ⟨q,o,none⟩) n c] w fun e w'=>e = .returned (.bool false)∧Below w.heap.size w w':=by
 have hb:((n:Int)==3)=false:=by simp;omega
 have hb2:(n:Int)≠3:=by omega
 go_enter Tryz.func296,Tryz.ntmps296
 go_wp2_with fail
 go_ret
 exact ⟨rfl,Below.refl _ _⟩
theorem OW (pb q o c:Nat) (nm ve:S) (st:St) (sl:Fin 6→Value) (path z hsh:S) (w:World) (h:fD pb nm ve st sl w)
   (hzl:z.length≤2000) (hsz:sz z<0)
   (c0:w.cell? ⟨q,o,none⟩=some (.string ⟨path.toArray⟩)) (c1:w.cell? ⟨q,o+1,none⟩=some (.string ⟨z.toArray⟩)) (c2:w.cell? ⟨q,o+2,none⟩=some (.string ⟨hsh.toArray⟩)) :
   Calls Tryz.prog 296 #[.pointer (some ⟨pb,0,none⟩), .slice (some ⟨q,o,none⟩) 3 c] w fun e w'=>e = .returned (.bool false)∧Below w.heap.size w w':=by
 have hlt:=h.lt
 have H:=hide h;clear h
 have wQ:=hide hsz;clear hsz
 go_enter Tryz.func296,Tryz.ntmps296
 go_wp2_with fail
 go_quiet (fail)
 go_wp2_with (first
   | (go_at_call 308;refine (Qr z hzl wQ.out _).mono ?_;rintro e w1 ⟨rfl,hb1⟩;have jD:=hide ((H.out.drewN nq).below hb1);have k1:=(ah jD.out.blk 8).trans (show _=some (.string ⟨st.left.toArray⟩) from rfl);have HB1:Hid (Below w.heap.size w w1):=hide ((below_drewN (Below.refl _ w) nq).trans hb1);clear hb1))
 go_ret
 exact ⟨rfl,HB1.out⟩
theorem OU (pb q o c:Nat) (nm ve:S) (st:St) (sl:Fin 6→Value) (path z hsh:S) (w:World) (h:fD pb nm ve st sl w)
   (hzl:z.length≤2000) (n:Nat) (hsz:sz z=(n:Int)) (hn:st.left.length<n)
   (c0:w.cell? ⟨q,o,none⟩=some (.string ⟨path.toArray⟩)) (c1:w.cell? ⟨q,o+1,none⟩=some (.string ⟨z.toArray⟩)) (c2:w.cell? ⟨q,o+2,none⟩=some (.string ⟨hsh.toArray⟩)) :
   Calls Tryz.prog 296 #[.pointer (some ⟨pb,0,none⟩), .slice (some ⟨q,o,none⟩) 3 c] w fun e w'=>e = .returned (.bool false)∧Below w.heap.size w w':=by
 have hlt:=h.lt
 have H:=hide h;clear h
 have wQ:=hide hsz;clear hsz
 have gb:(st.left.length:Int)<(n:Int):=by omega
 go_enter Tryz.func296,Tryz.ntmps296
 go_wp2_with fail
 go_quiet (fail)
 go_wp2_with (first
   | (go_at_call 308;refine (qJ z hzl n wQ.out _).mono ?_;rintro e w1 ⟨rfl,hb1⟩;have jD:=hide ((H.out.drewN nq).below hb1);have k1:=(ah jD.out.blk 8).trans (show _=some (.string ⟨st.left.toArray⟩) from rfl);have HB1:Hid (Below w.heap.size w w1):=hide ((below_drewN (Below.refl _ w) nq).trans hb1);clear hb1))
 go_ret
 exact ⟨rfl,HB1.out⟩
theorem OV (pb q o c:Nat) (nm ve:S) (st:St) (sl:Fin 6→Value) (path z hsh:S) (mx:Int) (w:World) (h:fD pb nm ve st sl w) (hp0:9≤pb)
   (hpl:path.length≤2000) (hzl:z.length≤2000) (n:Nat) (hsz:sz z=(n:Int)) (hn:n≤st.left.length) (Bq:Wd.bL path=false) (hm:w.cell? ⟨3,0,none⟩=some (.int .i64 mx))
   (c0:w.cell? ⟨q,o,none⟩=some (.string ⟨path.toArray⟩)) (c1:w.cell? ⟨q,o+1,none⟩=some (.string ⟨z.toArray⟩)) (c2:w.cell? ⟨q,o+2,none⟩=some (.string ⟨hsh.toArray⟩)) :
   Calls Tryz.prog 296 #[.pointer (some ⟨pb,0,none⟩), .slice (some ⟨q,o,none⟩) 3 c] w fun e w'=>e = .returned (.bool false)∧Below w.heap.size w w':=by
 have hlt:=h.lt
 have H:=hide h;clear h
 have wQ:=hide hsz;clear hsz
 have HM:=hide hm;clear hm
 have gb:(n:Int)≤(st.left.length:Int):=by omega
 have gb2 : ¬ (st.left.length:Int)<(n:Int):=by omega
 go_enter Tryz.func296,Tryz.ntmps296
 go_wp2_with fail
 go_quiet (fail)
 go_wp2_with (first
   | (go_at_call 308;refine (qJ z hzl n wQ.out _).mono ?_;rintro e w1 ⟨rfl,hb1⟩;have jD:=hide ((H.out.drewN nq).below hb1);have k1:=(ah jD.out.blk 8).trans (show _=some (.string ⟨st.left.toArray⟩) from rfl);have HB1:Hid (Below w.heap.size w w1):=hide ((below_drewN (Below.refl _ w) nq).trans hb1);clear hb1)
   | (go_at_call 213;refine (iA path hpl mx _ ((HB1.out.cell (p:=⟨3,0,none⟩) (by show 3<w.heap.size;omega)).trans HM.out)).mono ?_;rintro e w2 ⟨he2,hb2⟩;rw[Bq] at he2;subst he2;have mP:=hide (jD.out.below hb2);have k2:=(ah mP.out.blk 8).trans (show _=some (.string ⟨st.left.toArray⟩) from rfl);have HB2:=hide (HB1.out.trans (hb2.mono HB1.out.size));clear hb2))
 go_ret
 exact ⟨rfl,HB2.out⟩
theorem KY (pb q o c:Nat) (nm ve:S) (st:St) (sl:Fin 6→Value) (path z hsh:S) (mx:Int) (w:World) (h:fD pb nm ve st sl w) (hp0:9≤pb)
   (hpl:path.length≤2000) (hzl:z.length≤2000) (n:Nat) (hsz:sz z=(n:Int)) (hn:n≤st.left.length) (Bq:Wd.bL path=true) (SG:Wd.under path=true) (hm:w.cell? ⟨3,0,none⟩=some (.int .i64 mx))
   (c0:w.cell? ⟨q,o,none⟩=some (.string ⟨path.toArray⟩)) (c1:w.cell? ⟨q,o+1,none⟩=some (.string ⟨z.toArray⟩)) (c2:w.cell? ⟨q,o+2,none⟩=some (.string ⟨hsh.toArray⟩)) :
   Calls Tryz.prog 296 #[.pointer (some ⟨pb,0,none⟩), .slice (some ⟨q,o,none⟩) 3 c] w fun e w'=>e = .returned (.bool false)∧Below w.heap.size w w':=by
 have hlt:=h.lt
 have H:=hide h;clear h
 have wQ:=hide hsz;clear hsz
 have HM:=hide hm;clear hm
 have gb:(n:Int)≤(st.left.length:Int):=by omega
 have gb2 : ¬ (st.left.length:Int)<(n:Int):=by omega
 go_enter Tryz.func296,Tryz.ntmps296
 go_wp2_with fail
 go_quiet (fail)
 go_wp2_with (first
   | (go_at_call 308;refine (qJ z hzl n wQ.out _).mono ?_;rintro e w1 ⟨rfl,hb1⟩;have jD:=hide ((H.out.drewN nq).below hb1);have k1:=(ah jD.out.blk 8).trans (show _=some (.string ⟨st.left.toArray⟩) from rfl);have HB1:Hid (Below w.heap.size w w1):=hide ((below_drewN (Below.refl _ w) nq).trans hb1);clear hb1)
   | (go_at_call 213;refine (iA path hpl mx _ ((HB1.out.cell (p:=⟨3,0,none⟩) (by show 3<w.heap.size;omega)).trans HM.out)).mono ?_;rintro e w2 ⟨he2,hb2⟩;rw[Bq] at he2;subst he2;have mP:=hide (jD.out.below hb2);have k2:=(ah mP.out.blk 8).trans (show _=some (.string ⟨st.left.toArray⟩) from rfl);have HB2:=hide (HB1.out.trans (hb2.mono HB1.out.size));clear hb2)
   | (go_at_call 214;refine (lC path _).mono ?_;rintro e w3 ⟨vN,rfl⟩;rw[SG] at vN;subst vN))
 go_ret
 exact ⟨rfl,HB2.out⟩
theorem R6 (pb q o c:Nat) (nm ve:S) (st:St) (sl:Fin 6→Value) (path z hsh:S) (mx:Int) (w:World) (h:fD pb nm ve st sl w) (hp0:9≤pb) (hf:st.files.length≤2000)
   (hpl:path.length≤2000) (hzl:z.length≤2000) (n:Nat) (hsz:sz z=(n:Int)) (hn:n≤st.left.length) (Bq:Wd.bL path=true) (SG:Wd.under path=false) (hhas:(st.files.any fun f=>f.1==path)=true) (hm:w.cell? ⟨3,0,none⟩=some (.int .i64 mx))
   (c0:w.cell? ⟨q,o,none⟩=some (.string ⟨path.toArray⟩)) (c1:w.cell? ⟨q,o+1,none⟩=some (.string ⟨z.toArray⟩)) (c2:w.cell? ⟨q,o+2,none⟩=some (.string ⟨hsh.toArray⟩)) :
   Calls Tryz.prog 296 #[.pointer (some ⟨pb,0,none⟩), .slice (some ⟨q,o,none⟩) 3 c] w fun e w'=>e = .returned (.bool false)∧Below w.heap.size w w':=by
 have hlt:=h.lt
 have H:=hide h;clear h
 have wQ:=hide hsz;clear hsz
 have HM:=hide hm;clear hm
 have gb:(n:Int)≤(st.left.length:Int):=by omega
 have gb2 : ¬ (st.left.length:Int)<(n:Int):=by omega
 go_enter Tryz.func296,Tryz.ntmps296
 go_wp2_with fail
 go_quiet (fail)
 go_wp2_with (first
   | (go_at_call 308;refine (qJ z hzl n wQ.out _).mono ?_;rintro e w1 ⟨rfl,hb1⟩;have jD:=hide ((H.out.drewN nq).below hb1);have k1:=(ah jD.out.blk 8).trans (show _=some (.string ⟨st.left.toArray⟩) from rfl);have HB1:Hid (Below w.heap.size w w1):=hide ((below_drewN (Below.refl _ w) nq).trans hb1);clear hb1)
   | (go_at_call 213;refine (iA path hpl mx _ ((HB1.out.cell (p:=⟨3,0,none⟩) (by show 3<w.heap.size;omega)).trans HM.out)).mono ?_;rintro e w2 ⟨he2,hb2⟩;rw[Bq] at he2;subst he2;have mP:=hide (jD.out.below hb2);have k2:=(ah mP.out.blk 8).trans (show _=some (.string ⟨st.left.toArray⟩) from rfl);have HB2:=hide (HB1.out.trans (hb2.mono HB1.out.size));clear hb2)
   | (go_at_call 214;refine (lC path _).mono ?_;rintro e w3 ⟨vN,rfl⟩;rw[SG] at vN;subst vN)
   | (go_at_call 309;refine (yM pb nm ve st sl path _ mP.out hf).mono ?_;rintro e w3 ⟨he4,hb3⟩;rw[hhas] at he4;subst he4;have uX:=hide (mP.out.below hb3);have k3:=(ah uX.out.blk 8).trans (show _=some (.string ⟨st.left.toArray⟩) from rfl);have f3:=ak uX.out.blk 8;have hl3:=uX.out.lt;have HB3:=hide (HB2.out.trans (hb3.mono HB2.out.size));clear hb3))
 go_ret
 exact ⟨rfl,HB3.out⟩
theorem R5 (pb q o c:Nat) (nm ve:S) (st:St) (sl:Fin 6→Value) (path z hsh:S) (mx:Int) (K:Nat→Int) (w:World) (h:fD pb nm ve st sl w) (hp0:9≤pb) (hf:st.files.length≤2000)
   (hpl:path.length≤2000) (hzl:z.length≤2000) (hleft:st.left.length≤2000) (n:Nat) (hsz:sz z=(n:Int)) (hn:n≤st.left.length) (Bq:Wd.bL path=true) (SG:Wd.under path=false) (hhas:(st.files.any fun f=>f.1==path)=false) (hm:w.cell? ⟨3,0,none⟩=some (.int .i64 mx)) (hK:∀ i:Nat,i<64→w.cell? ⟨4,i,none⟩=some (.int .u32 (K i)))
   (c0:w.cell? ⟨q,o,none⟩=some (.string ⟨path.toArray⟩)) (c1:w.cell? ⟨q,o+1,none⟩=some (.string ⟨z.toArray⟩)) (c2:w.cell? ⟨q,o+2,none⟩=some (.string ⟨hsh.toArray⟩)) :
   Calls Tryz.prog 296 #[.pointer (some ⟨pb,0,none⟩), .slice (some ⟨q,o,none⟩) 3 c] w fun e w'=>e = .returned (.bool (short K (st.left.take n)==hsh))∧∃ sl',fD pb nm ve { st with files:=st.files++[(path,st.left.take n)],left:=st.left.drop n } sl' w'∧Below pb w w':=by
 obtain ⟨i0,hi,hz0,hz1,hz2⟩:=aW Ph
 have hlt:=h.lt
 have H:=hide h;clear h
 have wQ:=hide hsz;clear hsz
 have HM:=hide hm;clear hm
 have HK:=hide hK;clear hK
 have e1:(⟨st.left.toArray⟩:ByteArray).extract 0 n=⟨(st.left.take n).toArray⟩:=kg st.left n
 have e2:(⟨st.left.toArray⟩:ByteArray).extract n st.left.length=⟨(st.left.drop n).toArray⟩:=j6 st.left n
 have gb:(n:Int)≤(st.left.length:Int):=by omega
 have gb2 : ¬ (st.left.length:Int)<(n:Int):=by omega
 go_enter Tryz.func296,Tryz.ntmps296
 go_wp2_with fail
 go_quiet (fail)
 go_wp2_with (first
   | (go_at_call 308;refine (qJ z hzl n wQ.out _).mono ?_;rintro e w1 ⟨rfl,hb1⟩;have jD:=hide ((H.out.drewN nq).below hb1);have k1:=(ah jD.out.blk 8).trans (show _=some (.string ⟨st.left.toArray⟩) from rfl);have HB1:Hid (Below w.heap.size w w1):=hide ((below_drewN (Below.refl _ w) nq).trans hb1);clear hb1)
   | (go_at_call 213;refine (iA path hpl mx _ ((HB1.out.cell (p:=⟨3,0,none⟩) (by show 3<w.heap.size;omega)).trans HM.out)).mono ?_;rintro e w2 ⟨he2,hb2⟩;rw[Bq] at he2;subst he2;have mP:=hide (jD.out.below hb2);have k2:=(ah mP.out.blk 8).trans (show _=some (.string ⟨st.left.toArray⟩) from rfl);have HB2:=hide (HB1.out.trans (hb2.mono HB1.out.size));clear hb2)
   | (go_at_call 214;refine (lC path _).mono ?_;rintro e w3 ⟨vN,rfl⟩;rw[SG] at vN;subst vN)
   | (go_at_call 309;refine (yM pb nm ve st sl path _ mP.out hf).mono ?_;rintro e w3 ⟨he4,hb3⟩;rw[hhas] at he4;subst he4;have uX:=hide (mP.out.below hb3);have k3:=(ah uX.out.blk 8).trans (show _=some (.string ⟨st.left.toArray⟩) from rfl);have f3:=ak uX.out.blk 8;have hl3:=uX.out.lt;have HB3:=hide (HB2.out.trans (hb3.mono HB2.out.size));clear hb3))
 have nV:((w3.setCell ⟨pb,8,none⟩ (.string ⟨(st.left.drop n).toArray⟩)).alloc (.cells #[.string ⟨path.toArray⟩, .string ⟨(st.left.take n).toArray⟩] 234)).heap[w3.heap.size]? = some (.cells #[.string ⟨path.toArray⟩, .string ⟨(st.left.take n).toArray⟩] 234 (0,0)):=by
   have:=heap_alloc_new (w3.setCell ⟨pb,8,none⟩ (.string ⟨(st.left.drop n).toArray⟩)) (.cells #[.string ⟨path.toArray⟩, .string ⟨(st.left.take n).toArray⟩] 234)
   rwa [show (w3.setCell ⟨pb,8,none⟩ (.string ⟨(st.left.drop n).toArray⟩)).heap.size=w3.heap.size from by simp] at this
 have P4:=(uX.out.left (st.left.drop n)).alloc (.cells #[.string ⟨path.toArray⟩, .string ⟨(st.left.take n).toArray⟩] 234)
 have B4:Below pb w ((w3.setCell ⟨pb,8,none⟩ (.string ⟨(st.left.drop n).toArray⟩)).alloc (.cells #[.string ⟨path.toArray⟩, .string ⟨(st.left.take n).toArray⟩] 234)) :=
   ((show Below pb w w3 from HB3.out.mono (by omega)).setCell (p:=⟨pb,8,none⟩) (Nat.le_refl _) _).alloc (by have:=uX.out.lt;simp;omega) _
 have nX:((w3.setCell ⟨pb,8,none⟩ (.string ⟨(st.left.drop n).toArray⟩)).alloc (.cells #[.string ⟨path.toArray⟩, .string ⟨(st.left.take n).toArray⟩] 234)).heap.size=w3.heap.size+1:=by simp
 have hne:some w3.heap.size≠(sl 3).ownBlock:=fun e=>by have:=((uX.out.own 3).lt _ e.symm).2;omega
 have e0:aO (st.left.drop n) = .string ⟨(st.left.drop n).toArray⟩:=rfl
 rw[e0] at P4
 obtain ⟨fb,qo⟩:∃ fb,w3.heap.size=fb:=⟨_,rfl⟩
 generalize hu:(w3.setCell ⟨pb,8,none⟩ (.string ⟨(st.left.drop n).toArray⟩)).alloc (.cells #[.string ⟨path.toArray⟩, .string ⟨(st.left.take n).toArray⟩] 234)=u at *
 rw[qo] at nV nX hne hl3 ⊢
 clear hu k1 k2 k3 f3 HB3 uX HB2 mP HB1 jD e0 qo
 have k5:=(ah P4.blk 5).trans (show _=some (sl 3) from rfl)
 have f5:=ak P4.blk 5
 have l0:=(ah nV 0).trans (show _=some (.string ⟨path.toArray⟩) from rfl)
 have l1:=(ah nV 1).trans (show _=some (.string ⟨(st.left.take n).toArray⟩) from rfl)
 obtain ⟨m,xs,hmx⟩:∃ m xs,aU { st with left:=st.left.drop n } 3=(m,xs):=⟨_,_,rfl⟩
 have hm1:m≤2000:=by have:=congrArg Prod.fst hmx;simp only[aU] at this;omega
 have iF:=P4.own 3
 rw[hmx] at iF
 have qC:(u.drew).ownsRow (pb+1) 234 2 (sl 3) m xs:=iF
 have zA:=hide P4;have NU:=hide nV;have iI:=hide B4;have yt:=hide hmx
 have hne2 : ¬ fb=pb:=by omega
 have Sr : ¬ pb=fb:=by omega
 clear P4 nV B4 hmx iF
 go_region_law (refine bF rfl _ _ 151 rfl (pb+1) 234 i0 _ 2 32 Tryz.underlying151 hi hz0 hz1 hz2 rfl (by decide) (sl 3) m xs rfl (qC.alloc _) ⟨u.heap.size,0,none⟩ 1 1 [_,_] (by simp[Act.eval]) rfl (cell_two_new _ _ _ _) (fun x hx=>by simp at hx;rcases hx with rfl | rfl<;>rfl) (by unfold maxLen;omega) (by omega) (by simp;omega) ?_;intro v' w4 hown' aN eD dJ;obtain ⟨gv,cv,rfl⟩:=aP hown' (by omega);have hk4:=fD.kept (zA.out.drew.alloc _) 3 aN;have q5:=(ah hk4 5).trans (show _=some (sl 3) from rfl);have g5:=ak hk4 5;have lF:=(aN.block fb (by simp;omega) hne).trans ((Below.heap_alloc _ _ _ (by show fb<u.heap.size;omega)).trans NU.out);have r1:=(ah lF 1).trans (show _=some (.string ⟨(st.left.take n).toArray⟩) from rfl))
 all_goals
   have iq:aU { st with files:=st.files++[(path,st.left.take n)],left:=st.left.drop n } 3=(m+1,xs++[.string ⟨path.toArray⟩, .string ⟨(st.left.take n).toArray⟩]):=by
     have:=yt.out
     simp only[aU,Prod.mk.injEq] at this ⊢
     rw[← this.1,← this.2];simp[cB,aO]
   have hown2:w4.ownsRow (pb+1) (pty 3) (Np 3) (.slice (some ⟨gv,0,none⟩) (m+1) cv) (aU { st with files:=st.files++[(path,st.left.take n)],left:=st.left.drop n } 3).1 (aU { st with files:=st.files++[(path,st.left.take n)],left:=st.left.drop n } 3).2:=by rw[iq];exact hown'
   have qO:=hide (fD.put (zA.out.drew.alloc _) 3 aN hown2 dJ (fun j hj=>by
     match j,hj with
     | 0,_=>rfl
     | 1,_=>rfl
     | 2,_=>rfl
     | 3,h=>exact absurd rfl h
     | 4,_=>rfl
     | 5,_=>rfl) rfl)
   have kN:Hid (Below pb w (w4.setCell ⟨pb,5,none⟩ (.slice (some ⟨gv,0,none⟩) (m+1) cv))):=hide (((show Below pb w w4 from ((iI.out.drew.alloc (by show pb≤u.heap.size;omega) _).grown aN (by simp;omega) (fun k hk=>by have:=((zA.out.own 3).lt k hk).1;omega)))).setCell (p:=⟨pb,5,none⟩) (Nat.le_refl pb) _)
   clear hown2 iq hown' aN eD dJ hk4 lF
   go_wp2_with (first
     | (go_at_call 88;refine (xP (st.left.take n) (by rw[List.length_take];omega) K _ (by have:=kN.out.size;omega) (fun i hi=>(kN.out.cell (p:=⟨4,i,none⟩) (by show 4<pb;omega)).trans (HK.out i hi))).mono ?_;rintro e w6 ⟨rfl,hb6⟩))
   go_ret
   exact ⟨rfl,_,qO.out.below hb6,kN.out.trans (hb6.mono (Nat.le_of_lt qO.out.lt))⟩
end
section
open Go.RowKit
theorem dH.ends {w w1:World} {a b c d a' b' c' d':Value} (h:dH w a b c d a' b' c' d' w1):w1.cell? ⟨w.heap.size,0,none⟩=some a∧w1.cell? ⟨w.heap.size,1,none⟩=some b∧w1.cell? ⟨w.heap.size,2,none⟩=some c∧w1.cell? ⟨w.heap.size,3,none⟩=some d:=by
 obtain ⟨t0,t1,t2,t3, -⟩:=ay h.out
 exact ⟨t0,t1,t2,t3⟩
theorem yD (ao:Option Addr) (n c:Nat) (hn:n<2) (w:World) :
   Calls Tryz.prog 297 #[.slice ao n c] w fun e w'=>e = .returned (.tuple #[.agg #[.int .i64 0, .string ⟨#[]⟩, .string ⟨#[]⟩, .string ⟨#[]⟩], .bool false])∧Below w.heap.size w w':=by
 have hb:(n:Int)<2:=by omega
 go_enter Tryz.func297,Tryz.ntmps297
 go_wp2_with fail
 obtain ⟨t0,t1,t2,t3, -⟩:=ay (heap_alloc_new w (.cells #[.int .i64 0, .string ⟨#[]⟩, .string ⟨#[]⟩, .string ⟨#[]⟩] 317))
 exact bodyPost_ret (v := .tuple #[.agg #[.int .i64 0, .string ⟨#[]⟩, .string ⟨#[]⟩, .string ⟨#[]⟩], .bool false]) (by simp[results,Tryz.results297,go_sem,t0,t1,t2,t3]) rfl ⟨rfl,(Below.refl _ w).alloc (Nat.le_refl _) _⟩
theorem KC (g o n c:Nat) (v p:List UInt8) (hn:2≤n) (hv:aH.vb v=0) (w:World)
   (hg:g<w.heap.size) (c0:w.cell? ⟨g,o,none⟩=some (.string ⟨v.toArray⟩)) (c1:w.cell? ⟨g,o+1,none⟩=some (.string ⟨p.toArray⟩)) :
   Calls Tryz.prog 297 #[.slice (some ⟨g,o,none⟩) n c] w fun e w'=>e = .returned (.tuple #[.agg #[.int .i64 0, .string ⟨#[]⟩, .string ⟨#[]⟩, .string ⟨#[]⟩], .bool false])∧Below w.heap.size w w':=by
 have hb : ¬ (n:Int)<2:=by omega
 have h1:(1:Int)<n:=by omega
 have h0:(0:Int)<n:=by omega
 obtain ⟨v1,v2,v3,v4,v5⟩:(v==[112,117,116])=false∧(v==[97,100,100])=false∧(v==[99,111,112,121])=false∧(v==[100,114,111,112])=false∧(v==[108,105,115,116])=false:=by
   unfold aH.vb at hv
   refine ⟨?_,?_,?_,?_,?_⟩<;>(apply Bool.eq_false_iff.2;intro e;rw[beq_iff_eq] at e;subst e;simp at hv)
 clear hv
 go_enter Tryz.func297,Tryz.ntmps297
 go_wp2_with fail
 have HI:=dH.begin w (.int .i64 0) (.string ⟨#[]⟩) (.string ⟨#[]⟩) (.string ⟨#[]⟩) (.int .i64 0) (.string ⟨p.toArray⟩) (.string ⟨#[]⟩) (.string ⟨#[]⟩)
 obtain ⟨t0,t1,t2,t3⟩:=HI.ends
 exact bodyPost_ret (v := .tuple #[.agg #[.int .i64 0, .string ⟨#[]⟩, .string ⟨#[]⟩, .string ⟨#[]⟩], .bool false]) (by simp[results,Tryz.results297,go_sem,t0,t1,t2,t3]) rfl ⟨rfl,HI.bA⟩
theorem mX (g o n c:Nat) (p:List UInt8) (hn:2≤n) (hc:n≠3) (w:World)
   (hg:g<w.heap.size) (c0:w.cell? ⟨g,o,none⟩=some (.string ⟨#[112,117,116]⟩)) (c1:w.cell? ⟨g,o+1,none⟩=some (.string ⟨p.toArray⟩)) :
   Calls Tryz.prog 297 #[.slice (some ⟨g,o,none⟩) n c] w fun e w'=>e = .returned (.tuple #[.agg #[.int .i64 0, .string ⟨#[]⟩, .string ⟨#[]⟩, .string ⟨#[]⟩], .bool false])∧Below w.heap.size w w':=by
 have hb : ¬ (n:Int)<2:=by omega
 have h1:(1:Int)<n:=by omega
 have h0:(0:Int)<n:=by omega
 have hcb:((n:Int)==3)=false:=by apply beq_eq_false_iff_ne.2;omega
 have hcn : ¬ (n:Int)=3:=by omega
 go_enter Tryz.func297,Tryz.ntmps297
 go_wp2_with fail
 have HI:=dH.begin w (.int .i64 0) (.string ⟨#[]⟩) (.string ⟨#[]⟩) (.string ⟨#[]⟩) (.int .i64 1) (.string ⟨p.toArray⟩) (.string ⟨#[]⟩) (.string ⟨#[]⟩)
 obtain ⟨t0,t1,t2,t3⟩:=HI.ends
 exact bodyPost_ret (v := .tuple #[.agg #[.int .i64 0, .string ⟨#[]⟩, .string ⟨#[]⟩, .string ⟨#[]⟩], .bool false]) (by simp[results,Tryz.results297,go_sem,t0,t1,t2,t3]) rfl ⟨rfl,HI.bA⟩
theorem mW (g o n c:Nat) (p:List UInt8) (hn:2≤n) (hc:n≠3) (w:World)
   (hg:g<w.heap.size) (c0:w.cell? ⟨g,o,none⟩=some (.string ⟨#[97,100,100]⟩)) (c1:w.cell? ⟨g,o+1,none⟩=some (.string ⟨p.toArray⟩)) :
   Calls Tryz.prog 297 #[.slice (some ⟨g,o,none⟩) n c] w fun e w'=>e = .returned (.tuple #[.agg #[.int .i64 0, .string ⟨#[]⟩, .string ⟨#[]⟩, .string ⟨#[]⟩], .bool false])∧Below w.heap.size w w':=by
 have hb : ¬ (n:Int)<2:=by omega
 have h1:(1:Int)<n:=by omega
 have h0:(0:Int)<n:=by omega
 have hcb:((n:Int)==3)=false:=by apply beq_eq_false_iff_ne.2;omega
 have hcn : ¬ (n:Int)=3:=by omega
 go_enter Tryz.func297,Tryz.ntmps297
 go_wp2_with fail
 have HI:=dH.begin w (.int .i64 0) (.string ⟨#[]⟩) (.string ⟨#[]⟩) (.string ⟨#[]⟩) (.int .i64 2) (.string ⟨p.toArray⟩) (.string ⟨#[]⟩) (.string ⟨#[]⟩)
 obtain ⟨t0,t1,t2,t3⟩:=HI.ends
 exact bodyPost_ret (v := .tuple #[.agg #[.int .i64 0, .string ⟨#[]⟩, .string ⟨#[]⟩, .string ⟨#[]⟩], .bool false]) (by simp[results,Tryz.results297,go_sem,t0,t1,t2,t3]) rfl ⟨rfl,HI.bA⟩
theorem lS (g o n c:Nat) (p:List UInt8) (hn:2≤n) (hc:n≠3) (w:World)
   (hg:g<w.heap.size) (c0:w.cell? ⟨g,o,none⟩=some (.string ⟨#[99,111,112,121]⟩)) (c1:w.cell? ⟨g,o+1,none⟩=some (.string ⟨p.toArray⟩)) :
   Calls Tryz.prog 297 #[.slice (some ⟨g,o,none⟩) n c] w fun e w'=>e = .returned (.tuple #[.agg #[.int .i64 0, .string ⟨#[]⟩, .string ⟨#[]⟩, .string ⟨#[]⟩], .bool false])∧Below w.heap.size w w':=by
 have hb : ¬ (n:Int)<2:=by omega
 have h1:(1:Int)<n:=by omega
 have h0:(0:Int)<n:=by omega
 have hcb:((n:Int)==3)=false:=by apply beq_eq_false_iff_ne.2;omega
 have hcn : ¬ (n:Int)=3:=by omega
 go_enter Tryz.func297,Tryz.ntmps297
 go_wp2_with fail
 have HI:=dH.begin w (.int .i64 0) (.string ⟨#[]⟩) (.string ⟨#[]⟩) (.string ⟨#[]⟩) (.int .i64 3) (.string ⟨p.toArray⟩) (.string ⟨#[]⟩) (.string ⟨#[]⟩)
 obtain ⟨t0,t1,t2,t3⟩:=HI.ends
 exact bodyPost_ret (v := .tuple #[.agg #[.int .i64 0, .string ⟨#[]⟩, .string ⟨#[]⟩, .string ⟨#[]⟩], .bool false]) (by simp[results,Tryz.results297,go_sem,t0,t1,t2,t3]) rfl ⟨rfl,HI.bA⟩
theorem tJ (g o n c:Nat) (p:List UInt8) (hn:2≤n) (hc:n≠2) (w:World)
   (hg:g<w.heap.size) (c0:w.cell? ⟨g,o,none⟩=some (.string ⟨#[100,114,111,112]⟩)) (c1:w.cell? ⟨g,o+1,none⟩=some (.string ⟨p.toArray⟩)) :
   Calls Tryz.prog 297 #[.slice (some ⟨g,o,none⟩) n c] w fun e w'=>e = .returned (.tuple #[.agg #[.int .i64 0, .string ⟨#[]⟩, .string ⟨#[]⟩, .string ⟨#[]⟩], .bool false])∧Below w.heap.size w w':=by
 have hb : ¬ (n:Int)<2:=by omega
 have h1:(1:Int)<n:=by omega
 have h0:(0:Int)<n:=by omega
 have hcb:((n:Int)==2)=false:=by apply beq_eq_false_iff_ne.2;omega
 have hcn : ¬ (n:Int)=2:=by omega
 go_enter Tryz.func297,Tryz.ntmps297
 go_wp2_with fail
 have HI:=dH.begin w (.int .i64 0) (.string ⟨#[]⟩) (.string ⟨#[]⟩) (.string ⟨#[]⟩) (.int .i64 4) (.string ⟨p.toArray⟩) (.string ⟨#[]⟩) (.string ⟨#[]⟩)
 obtain ⟨t0,t1,t2,t3⟩:=HI.ends
 exact bodyPost_ret (v := .tuple #[.agg #[.int .i64 0, .string ⟨#[]⟩, .string ⟨#[]⟩, .string ⟨#[]⟩], .bool false]) (by simp[results,Tryz.results297,go_sem,t0,t1,t2,t3]) rfl ⟨rfl,HI.bA⟩
theorem tK (g o n c:Nat) (p:List UInt8) (hn:2≤n) (hc:n≠2) (w:World)
   (hg:g<w.heap.size) (c0:w.cell? ⟨g,o,none⟩=some (.string ⟨#[108,105,115,116]⟩)) (c1:w.cell? ⟨g,o+1,none⟩=some (.string ⟨p.toArray⟩)) :
   Calls Tryz.prog 297 #[.slice (some ⟨g,o,none⟩) n c] w fun e w'=>e = .returned (.tuple #[.agg #[.int .i64 0, .string ⟨#[]⟩, .string ⟨#[]⟩, .string ⟨#[]⟩], .bool false])∧Below w.heap.size w w':=by
 have hb : ¬ (n:Int)<2:=by omega
 have h1:(1:Int)<n:=by omega
 have h0:(0:Int)<n:=by omega
 have hcb:((n:Int)==2)=false:=by apply beq_eq_false_iff_ne.2;omega
 have hcn : ¬ (n:Int)=2:=by omega
 go_enter Tryz.func297,Tryz.ntmps297
 go_wp2_with fail
 have HI:=dH.begin w (.int .i64 0) (.string ⟨#[]⟩) (.string ⟨#[]⟩) (.string ⟨#[]⟩) (.int .i64 5) (.string ⟨p.toArray⟩) (.string ⟨#[]⟩) (.string ⟨#[]⟩)
 obtain ⟨t0,t1,t2,t3⟩:=HI.ends
 exact bodyPost_ret (v := .tuple #[.agg #[.int .i64 0, .string ⟨#[]⟩, .string ⟨#[]⟩, .string ⟨#[]⟩], .bool false]) (by simp[results,Tryz.results297,go_sem,t0,t1,t2,t3]) rfl ⟨rfl,HI.bA⟩
theorem xY (b g o c:Nat) (p q:List UInt8) (hq:q.length≤2000) (w:World)
   (hb:w.heap[b]? = some (.cells #[.int .i64 1, .string ⟨p.toArray⟩, .string ⟨#[]⟩, .string ⟨#[]⟩] 317 (0,0)))
   (h2:w.cell? ⟨g,o+2,none⟩=some (.string ⟨q.toArray⟩)) :
   Calls Tryz.prog 310 #[.pointer (some ⟨b,0,none⟩), .slice (some ⟨g,o,none⟩) 3 c] w fun e w'=>e = .returned (.bool (Wd.isWord q))∧Below (w.setCell ⟨b,2,none⟩ (.string ⟨q.toArray⟩)).heap.size (w.setCell ⟨b,2,none⟩ (.string ⟨q.toArray⟩)) w':=by
 have k0:=(ah hb 0).trans (show _=some (.int .i64 1) from rfl)
 have k2:=(ah hb 2).trans (show _=some (.string ⟨#[]⟩) from rfl)
 have f2:=ak hb 2
 have HB:=hide hb;clear hb
 go_enter Tryz.func310,Tryz.ntmps310
 go_wp2_with (go_at_call 315;refine (Bz q hq _).mono ?_;rintro e w' ⟨rfl,hbw⟩)
 go_ret
 exact ⟨rfl,hbw⟩
theorem Cr (b:Nat) (s:Value) (p:List UInt8) (w:World)
   (hb:w.heap[b]? = some (.cells #[.int .i64 4, .string ⟨p.toArray⟩, .string ⟨#[]⟩, .string ⟨#[]⟩] 317 (0,0))) :
   Calls Tryz.prog 310 #[.pointer (some ⟨b,0,none⟩),s] w fun e w'=>e = .returned (.bool true)∧Below w.heap.size w w':=by
 have k0:=(ah hb 0).trans (show _=some (.int .i64 4) from rfl)
 have HB:=hide hb;clear hb
 go_enter Tryz.func310,Tryz.ntmps310
 go_wp2_with fail
 go_ret
 exact ⟨rfl,Below.refl _ _⟩
theorem Ct (b:Nat) (s:Value) (p:List UInt8) (w:World)
   (hb:w.heap[b]? = some (.cells #[.int .i64 5, .string ⟨p.toArray⟩, .string ⟨#[]⟩, .string ⟨#[]⟩] 317 (0,0))) :
   Calls Tryz.prog 310 #[.pointer (some ⟨b,0,none⟩),s] w fun e w'=>e = .returned (.bool true)∧Below w.heap.size w w':=by
 have k0:=(ah hb 0).trans (show _=some (.int .i64 5) from rfl)
 have HB:=hide hb;clear hb
 go_enter Tryz.func310,Tryz.ntmps310
 go_wp2_with fail
 go_ret
 exact ⟨rfl,Below.refl _ _⟩
end
end Go.Proofs.YtialenebfcnkkaaGreatDoor
