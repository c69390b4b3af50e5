/- InsW1, WishW1, HfW1, SizeW2, SizeW3, FileW1, CmdW2, CmdW3 -/
import Derived.Test.YtialenebfcnkkaaGreatDoorWokJ6
import Derived.Test.YtialenebfcnkkaaGreatDoorWokJ11
import Derived.Test.YtialenebfcnkkaaGreatDoorWokJ4
set_option maxHeartbeats 2000000
set_option maxRecDepth 100000
namespace Go.Proofs.YtialenebfcnkkaaGreatDoor
section
open Go.RowKit
open Arc (St Cmd S)
theorem clone_any (x:S) (hx:x.length≤2000) (w:World) :
   Calls Tryz.prog 223 #[.string ⟨x.toArray⟩] w fun e w'=>e = .returned (.string ⟨x.toArray⟩)∧Below w.heap.size w w':=by
 go_enter Tryz.func223,Tryz.ntmps223
 go_wp2_with (go_at_call 273;refine (Tryz.stringslite_Clone ⟨x.toArray⟩ _ (by simp[ByteArray.size];omega)).mono ?_;rintro e w1 ⟨rfl,hb⟩)
 go_ret
 exact ⟨rfl,hb⟩
theorem pair_at (F:List (S × S)) (k:Nat) (hk:k<F.length):(F.flatMap pairV)[2*k]? = some (strV (F.getD k ([],[])).1)∧(F.flatMap pairV)[2*k+1]? = some (strV (F.getD k ([],[])).2):=by
 induction F generalizing k with
 | nil=>simp at hk
 | cons a l ih =>
   cases k with
   | zero=>simp[pairV]
   | succ k =>
     have:=ih k (by simpa using hk)
     rw[show 2*(k+1)=2*k+1+1 from by omega]
     simpa [pairV] using this
end
section
open Go.RowKit
open Hv (S Dk VM)
structure WishAt (rm im:Nat) (R I:VM Value) (w:World):Prop where
 rem:MapAt w rm R
 ins:MapAt w im I
 ne:rm≠im
theorem WishAt.below {rm im:Nat} {R I:VM Value} {w w':World} (h:WishAt rm im R I w) (hb:Below w.heap.size w w'):WishAt rm im R I w':=⟨h.rem.below hb,h.ins.below hb,h.ne⟩
def unitV:Value := .agg #[]
theorem takeRemove_yes (rm im:Nat) (R I:VM Value) (x:S) (hx:x.length≤2000) (hn:Wd.isName x=true) (hR:R.length≤1000000) (w:World) (h:WishAt rm im R I w) :
   Calls Tryz.prog 172 #[.agg #[.map (some rm), .map (some im)], .string ⟨x.toArray⟩] w fun e w'=>e = .returned (.tuple #[.string ⟨x.toArray⟩, .bool true])∧WishAt rm im (Hv.put R x unitV) I w'∧Far w.heap.size (fun k=>k=rm) w w':=by
 have HW:=hide h
 have hrl:=h.rem.lt
 have hil:=h.ins.lt
 clear h
 go_enter Tryz.func172,Tryz.ntmps172
 go_wp2_with fail
 have hrow:=heap_alloc_new w (.cells #[.map (some rm), .map (some im)] 135)
 refine (isName_any x hx _).mono ?_
 rintro e w1 ⟨rfl,hb1⟩
 rw[hn]
 have HC1:=hide ((hb1.block w.heap.size (by simp)).trans hrow)
 have HW1:=hide ((HW.out.below ((Below.refl w.heap.size w).alloc (Nat.le_refl _) (.cells #[.map (some rm), .map (some im)] 135))).below hb1)
 have HB1:=hide (((Below.refl w.heap.size w).alloc (Nat.le_refl _) (.cells #[.map (some rm), .map (some im)] 135)).trans (hb1.mono (by simp)))
 clear hrow hb1
 go_wp2_with fail
 refine (clone_any x (by omega) _).mono ?_
 rintro e w2 ⟨rfl,hb2⟩
 have HC2:=hide ((hb2.block w.heap.size (blt HC1.out)).trans HC1.out)
 have hw2:=HW1.out.below hb2
 have HW2:=hide hw2
 have hr2:=hw2.rem
 have HB2:=hide (HB1.out.trans (hb2.mono HB1.out.size))
 have c0:=(row_cell HC2.out 0).trans (show _=some (.map (some rm)) from rfl)
 clear hb2 HW1 HC1 hw2
 go_wp2_with (first
   | (at_mapUpdate;refine wp_store rfl _ _ _ 133 rfl 53 Tryz.underlying133 hr2 (by unfold maxLen;omega) rfl x (by unfold maxLen;omega) rfl (.agg #[]) rfl ?_;intro w3 hr3 ht3;go_frame))
 have hf3:=turned_far ht3
 have HW3:Hid (WishAt rm im (Hv.put R x unitV) I w3):=hide ⟨hr3,HW2.out.ins.kept (hf3.block im HW2.out.ins.lt (fun q=>HW2.out.ne q.symm)),HW2.out.ne⟩
 have HF3:=hide (((Far.refl w.heap.size (fun k=>k=rm) w).below HB2.out (Nat.le_refl _)).next hf3 HB2.out.size (fun _ _ q=>q))
 clear hr3 ht3 hf3 hr2 c0
 go_wp2_with fail
 go_ret2
 exact ⟨rfl,HW3.out,HF3.out⟩
theorem takeRemove_no (rm im:Nat) (x:S) (hx:x.length≤2000) (hn:Wd.isName x=false) (w:World) :
   Calls Tryz.prog 172 #[.agg #[.map (some rm), .map (some im)], .string ⟨x.toArray⟩] w fun e w'=>e = .returned (.tuple #[.string ⟨#[]⟩, .bool false])∧Below w.heap.size w w':=by
 go_enter Tryz.func172,Tryz.ntmps172
 go_wp2_with fail
 refine (isName_any x hx _).mono ?_
 rintro e w1 ⟨rfl,hb1⟩
 rw[hn]
 have HB1:=hide (((Below.refl w.heap.size w).alloc (Nat.le_refl _) (.cells #[.map (some rm), .map (some im)] 135)).trans (hb1.mono (by simp)))
 clear hb1
 go_wp2_with fail
 go_ret2
 exact ⟨rfl,HB1.out⟩
end
section
open Go.RowKit
open Arc (St Cmd S)
theorem same_any (p t x:S) (b:Nat) (w:World) (h:w.cell? ⟨b,0,none⟩=some (.string ⟨x.toArray⟩)) :
   Calls Tryz.prog 314 #[.agg #[.string ⟨p.toArray⟩, .string ⟨t.toArray⟩], .pointer (some ⟨b,0,none⟩)] w fun e w'=>e = .returned (.bool (p==x))∧Below w.heap.size w w':=by
 have hb:=World.block_lt_of_cell? w _ h
 have hb':b<w.heap.size:=hb
 have hn : ¬ b=w.heap.size:=by omega
 go_enter Tryz.func314,Tryz.ntmps314
 go_wp2_with fail
 go_ret
 exact ⟨rfl,(Below.refl _ w).alloc (Nat.le_refl _) _⟩
theorem indexF_any (F:List (S × S)) (hF:F.length≤2000) (x:S) (b:Nat) (base:Nat) (v:Value) (w:World) (hv:w.ownsRow base 234 2 v F.length (F.flatMap pairV)) (h:w.cell? ⟨b,0,none⟩=some (.string ⟨x.toArray⟩)) :
   Calls Tryz.prog 316 #[v, .func (.func 314) #[] #[.pointer (some ⟨b,0,none⟩)]] w fun e w'=>∃ i:Int,e = .returned (.int .i64 i)∧decide (0≤i)=(F.any fun f=>f.1==x)∧Below w.heap.size w w':=by
 obtain ⟨n,hn⟩:∃ n,F.length=n:=⟨_,rfl⟩
 rw[hn] at hv hF
 have HN:=hide hn
 obtain ⟨ao,c,rfl⟩:=slice_form hv
 have hb:b<w.heap.size:=World.block_lt_of_cell? w _ h
 clear hn
 go_enter Tryz.func316,Tryz.ntmps316
 go_wp2_with fail
 go_loopw [8] (fun i wr=>∃ k:Nat,k≤n∧i = .int .i64 k∧Hid ((F.take k).any (fun f=>f.1==x)=false)∧Hid (Below w.heap.size w wr)) (fun i _=>n-(intOf i).toNat)
 case atStart=>exact ⟨0,by omega,rfl,hide rfl,hide (Below.refl _ _)⟩
 case round =>
   obtain ⟨k,hk,rfl,HA,HB⟩:=hrel
   by_cases hlt:k<n
   · have b1:(k:Int)<(n:Int):=by omega
     have hkl:k<F.length:=by rw[HN.out];exact hlt
     obtain ⟨g,cap,hv2⟩:=own_form hv (by omega)
     cases hv2
     have hgl:=(hv.lt g rfl).2
     obtain ⟨p,hp⟩:∃ p,F.getD k ([],[])=p:=⟨_,rfl⟩
     obtain ⟨p1,p2⟩:=p
     have hpa:=pair_at F k hkl
     rw[hp] at hpa
     have d1:wr.cell? ⟨g,k*2,none⟩=some (.string ⟨p1.toArray⟩):=by rw[Nat.mul_comm];exact (HB.out.cell (p:=⟨g,2*k,none⟩) hgl).trans ((hv.cellAt _ (by omega)).trans hpa.1)
     have d2:wr.cell? ⟨g,k*2+1,none⟩=some (.string ⟨p2.toArray⟩):=by rw[Nat.mul_comm];exact (HB.out.cell (p:=⟨g,2*k+1,none⟩) hgl).trans ((hv.cellAt _ (by omega)).trans hpa.2)
     have hx:wr.cell? ⟨b,0,none⟩=some (.string ⟨x.toArray⟩):=(HB.out.cell (p:=⟨b,0,none⟩) hb).trans h
     have hs:(F.take (k+1)).any (fun f=>f.1==x)=(p1==x):=by
       rw[List.take_succ_eq_append_getElem hkl,List.any_append,HA.out]
       have:F[k]=(p1,p2):=by rw[← hp];simp[List.getD,List.getElem?_eq_getElem hkl]
       simp[this]
     have hin:p1==x→(F.any fun f=>f.1==x)=true:=fun e=>by
       rw[List.any_eq_true]
       have:F[k]=(p1,p2):=by rw[← hp];simp[List.getD,List.getElem?_eq_getElem hkl]
       exact ⟨F[k],List.getElem_mem hkl,by rw[this];exact e⟩
     have HS:=hide hs;have HIN:=hide hin
     have hbs:=HB.out.size
     clear hp hpa hs hin
     cases he:(p1==x)
     · have HS2:Hid ((F.take (k+1)).any (fun f=>f.1==x)=false):=hide (by rw[HS.out,he])
       go_wp2_with (refine (same_any p1 p2 x b _ hx).mono ?_;rintro e w' ⟨he',hb1⟩;rw[he] at he';subst he')
       go_roundw
       case rel=>exact ⟨k+1,by omega,by go_num,HS2,hide (HB.out.trans (hb1.mono hbs))⟩
       case measure=>simp[intOf];omega
     · have HI2:=hide (HIN.out he)
       go_wp2_with (refine (same_any p1 p2 x b _ hx).mono ?_;rintro e w' ⟨he',hb1⟩;rw[he] at he';subst he')
       go_ret
       exact ⟨_,rfl,by rw[HI2.out];simp,HB.out.trans (hb1.mono hbs)⟩
   · obtain rfl:k=n:=by omega
     have HA2:Hid ((F.any fun f=>f.1==x)=false):=hide (by have:=HA.out;rwa [List.take_of_length_le (by rw[HN.out];exact Nat.le_refl _)] at this)
     go_wp2_with fail
     go_ret
     exact ⟨_,rfl,by rw[HA2.out];rfl,HB.out⟩
theorem containsF_any (F:List (S × S)) (hF:F.length≤2000) (x:S) (b:Nat) (base:Nat) (v:Value) (w:World) (hv:w.ownsRow base 234 2 v F.length (F.flatMap pairV)) (h:w.cell? ⟨b,0,none⟩=some (.string ⟨x.toArray⟩)) :
   Calls Tryz.prog 313 #[v, .func (.func 314) #[] #[.pointer (some ⟨b,0,none⟩)]] w fun e w'=>e = .returned (.bool (F.any fun f=>f.1==x))∧Below w.heap.size w w':=by
 have H:=hide (indexF_any F hF x b base v w hv h)
 clear hv h
 go_enter Tryz.func313,Tryz.ntmps313
 go_wp2_with (go_at_call 316;refine H.out.mono ?_;rintro e w1 ⟨i,rfl,hi,hb⟩)
 go_ret
 exact ⟨rfl,hb⟩
theorem hasFile_any (pb:Nat) (nm ve:S) (st:St) (sl:Fin 6→Value) (x:S) (w:World) (h:PIn pb nm ve st sl w) (hf:st.files.length≤2000) :
   Calls Tryz.prog 309 #[.pointer (some ⟨pb,0,none⟩), .string ⟨x.toArray⟩] w fun e w'=>e = .returned (.bool (st.files.any fun f=>f.1==x))∧Below w.heap.size w w':=by
 have hlt:=h.lt
 have k5:=(row_cell h.blk 5).trans (show _=some (sl 3) from rfl)
 have HO:Hid ((w.alloc (.cells #[.string ⟨x.toArray⟩] 9)).ownsRow (pb+1) 234 2 (sl 3) st.files.length (st.files.flatMap pairV)):=hide ((h.own 3).alloc _)
 have HC:=hide (row_cell (heap_alloc_new w (.cells #[.string ⟨x.toArray⟩] 9)) 0)
 have hn : ¬ pb=w.heap.size:=by omega
 clear h
 go_enter Tryz.func309,Tryz.ntmps309
 go_wp2_with (go_at_call 313;refine (containsF_any st.files hf x w.heap.size (pb+1) (sl 3) _ HO.out HC.out).mono ?_;rintro e w1 ⟨rfl,hb⟩)
 go_ret
 exact ⟨rfl,((Below.refl _ _).alloc (Nat.le_refl _) _).trans (hb.mono (by simp))⟩
end
section
open Go.RowKit
theorem dig_in (c:UInt8):tenD.contains c=Ver.isD c:=by
 have hc:=c.toNat_lt
 by_cases h:48≤c.toNat∧c.toNat≤57
 · have:c.toNat=48∨c.toNat=49∨c.toNat=50∨c.toNat=51∨c.toNat=52∨c.toNat=53∨c.toNat=54∨c.toNat=55∨c.toNat=56∨c.toNat=57:=by omega
   rcases this with h | h | h | h | h | h | h | h | h | h <;>
     (rw[show c=UInt8.ofNat c.toNat from (by simp)];rw[h];decide +kernel)
 · have h1:Ver.isD c=false:=by
     simp only[Ver.isD,Bool.and_eq_false_iff,decide_eq_false_iff_not];omega
   rw[h1]
   apply Bool.eq_false_iff.2
   intro hm
   have hm:=List.elem_iff.1 hm
   simp only[tenD,List.mem_cons,List.not_mem_nil,or_false] at hm
   rcases hm with h' | h' | h' | h' | h' | h' | h' | h' | h' | h'<;>subst h'<;>exact h (by decide)
theorem dig_val (c:UInt8) (h:Ver.isD c=true):Lib.digitVal c=some (c.toNat-48)∧48≤c.toNat∧c.toNat≤57:=by
 simp only[Ver.isD,Bool.and_eq_true,decide_eq_true_eq] at h
 refine ⟨by rw[Lib.digitVal,if_pos (by omega)],by omega,by omega⟩
theorem drop_all (f:UInt8→Bool):∀ l:List UInt8,l.dropWhile f=[] ↔ l.all f=true
 | []=>by simp
 | c::l=>by
   cases h:f c with
   | true=>simp[List.dropWhile,h,drop_all f l]
   | false=>simp[List.dropWhile,h]
theorem trim_all (x:List UInt8):Lib.trimS x tenD=[] ↔ x.all Ver.isD=true:=by
 have hf:(fun c=>tenD.contains c)=Ver.isD:=funext dig_in
 unfold Lib.trimS Lib.trimLeftS Lib.trimRightS
 rw[hf,drop_all]
 constructor
 · intro h
   have h2:x.reverse.dropWhile Ver.isD=[]:=by
     cases hd:x.reverse.dropWhile Ver.isD with
     | nil=>rfl
     | cons c l =>
       have hn:Ver.isD c=false:=by
         have:=List.head_dropWhile_not (p:=Ver.isD) (l:=x.reverse) (by rw[hd];simp)
         simpa [hd] using this
       rw[hd] at h
       have:=List.all_eq_true.1 h c (by simp)
       rw[hn] at this;cases this
   have:=(drop_all Ver.isD x.reverse).1 h2
   simpa using this
 · intro h
   have:x.reverse.dropWhile Ver.isD=[]:=(drop_all _ _).2 (by simpa using h)
   rw[this];rfl
theorem dec_val:∀ (l:List UInt8) (a:Nat),l.all Ver.isD=true→∃ n,Lib.decFrom a l=some n∧(n:Int)=l.foldl (fun a c=>10*a+((c.toNat:Int)-48)) (a:Int)
 | [],a,_=>⟨a,rfl,rfl⟩
 | c::l,a,h=>by
   simp only[List.all_cons,Bool.and_eq_true] at h
   obtain ⟨hd,h1,h2⟩:=dig_val c h.1
   obtain ⟨n,hn,hv⟩:=dec_val l (a*10+(c.toNat-48)) h.2
   refine ⟨n,by simp[Lib.decFrom,hd,hn],?_⟩
   rw[hv,List.foldl_cons]
   congr 1
   omega
theorem atoi_val (x:List UInt8) (h0:1≤x.length) (h:x.all Ver.isD=true):Lib.atoi x=some (Ver.val x):=by
 obtain ⟨n,hn,hv⟩:=dec_val x 0 h
 cases x with
 | nil=>simp at h0
 | cons c l =>
   simp only[List.all_cons,Bool.and_eq_true] at h
   obtain ⟨-,h1,h2⟩:=dig_val c h.1
   have c1:(c==45)=false:=by
     apply beq_eq_false_iff_ne.2;rintro rfl;exact absurd h1 (by decide)
   have c2:(c==43)=false:=by
     apply beq_eq_false_iff_ne.2;rintro rfl;exact absurd h1 (by decide)
   simp only[Lib.atoi,c1,c2,Lib.decNat,hn]
   simp[hv,Ver.val]
theorem size_short (w:World):Calls Tryz.prog 308 #[.string ⟨#[]⟩] w fun e w'=>e = .returned (.tuple #[.int .i64 0, .bool false])∧Below w.heap.size w w':=by
 go_enter Tryz.func308,Tryz.ntmps308
 go_wp2_with fail
 go_ret2
 exact ⟨rfl,Below.refl _ _⟩
theorem size_long (x:List UInt8) (h4:4<x.length) (hx:x.length≤2000) (w:World):Calls Tryz.prog 308 #[.string ⟨x.toArray⟩] w fun e w'=>e = .returned (.tuple #[.int .i64 0, .bool false])∧Below w.heap.size w w':=by
 have he:(x==[])=false:=by cases x with
   | nil=>simp at h4
   | cons c l=>rfl
 have b4:(4:Int)<x.length:=by omega
 go_enter Tryz.func308,Tryz.ntmps308
 go_wp2_with fail
 go_ret2
 exact ⟨rfl,Below.refl _ _⟩
theorem size_other (x:List UInt8) (h1:1≤x.length) (h4:x.length≤4) (ht:Lib.trimS x tenD≠[]) (w:World):Calls Tryz.prog 308 #[.string ⟨x.toArray⟩] w fun e w'=>e = .returned (.tuple #[.int .i64 0, .bool false])∧Below w.heap.size w w':=by
 have he:(x==[])=false:=by cases x with
   | nil=>simp at h1
   | cons c l=>rfl
 have b4 : ¬ (4:Int)<x.length:=by omega
 obtain ⟨y,hy⟩:∃ y,Lib.trimS x tenD=y:=⟨_,rfl⟩
 have hn:(y==[])=false:=by
   rw[hy] at ht;cases y with
   | nil=>exact absurd rfl ht
   | cons c l=>rfl
 have HY:=hide hy
 clear ht hy
 go_enter Tryz.func308,Tryz.ntmps308
 go_wp2_with (go_at_call 312;refine (trimD_any x (by omega) _).mono ?_;rintro e w1 ⟨he1,hb1⟩;rw[HY.out] at he1;subst he1)
 go_ret2
 exact ⟨rfl,hb1⟩
theorem size_nought (x:List UInt8) (h1:1<x.length) (h4:x.length≤4) (hd:Wd.headIs (fun c=>(c.toNat:Int)==48) x=true) (ht:Lib.trimS x tenD=[]) (w:World):Calls Tryz.prog 308 #[.string ⟨x.toArray⟩] w fun e w'=>e = .returned (.tuple #[.int .i64 0, .bool false])∧Below w.heap.size w w':=by
 obtain ⟨c0,hc0,hhead⟩:∃ c0,(⟨x.toArray⟩:ByteArray)[0]'(by show 0<x.length;omega)=c0∧∀ f,Wd.headIs f x=f c0:=by
   cases x with
   | nil=>simp at h1
   | cons c l=>exact ⟨c,rfl,fun _=>rfl⟩
 rw[hhead] at hd
 have he:(x==[])=false:=by cases x with
   | nil=>simp at h1
   | cons c l=>rfl
 have h0:(x==[48])=false:=by
   apply beq_eq_false_iff_ne.2;rintro rfl;simp at h1
 have b4 : ¬ (4:Int)<x.length:=by omega
 have hp:(0:Int)<x.length:=by omega
 have HT:=hide ht
 clear ht hhead
 go_enter Tryz.func308,Tryz.ntmps308
 go_wp2_with (go_at_call 312;refine (trimD_any x (by omega) _).mono ?_;rintro e w1 ⟨he1,hb1⟩;rw[HT.out] at he1;subst he1)
 go_ret2
 exact ⟨rfl,hb1⟩
theorem size_zero (w:World):Calls Tryz.prog 308 #[.string ⟨#[48]⟩] w fun e w'=>e = .returned (.tuple #[.int .i64 0, .bool true])∧Below w.heap.size w w':=by
 have ht:Lib.trimS [48] tenD=[]:=by decide +kernel
 have ha:Lib.atoi [48]=some 0:=by decide +kernel
 go_enter Tryz.func308,Tryz.ntmps308
 go_wp2_with (first
   | (go_at_call 312;refine (trimD_any [48] (by simp) _).mono ?_;rintro e w1 ⟨he1,hb1⟩;rw[ht] at he1;subst he1)
   | (go_at_call 154;refine (atoi_any [48] 0 (by simp) ha _).mono ?_;rintro e w2 ⟨rfl,hb2⟩))
 go_quiet (fail)
 go_wp2_with fail
 go_ret2
 exact ⟨rfl,below_drewN (hb1.trans (hb2.mono hb1.size)) _⟩
def szN (x:List UInt8):Int:=if sz x<0 then 0 else sz x
def szB (x:List UInt8):Bool:=decide (0≤sz x)
theorem sz_yes {x:List UInt8} (hl:Wd.lenIn x 1 4=true) (hn : ¬ (Wd.headIs (fun c=>(c.toNat:Int)==48) x=true∧1<x.length)) (hd:x.all Ver.isD=true):szN x=Ver.val x∧szB x=true:=by
 have hz:sz x=Ver.val x:=by rw[sz,if_pos ⟨hl,hn,hd⟩]
 have h0:0≤Ver.val x:=by rw[Ver.val_vr];exact (Ver.vr_bd x (List.all_eq_true.1 hd)).1
 exact ⟨by rw[szN,hz,if_neg (by omega)],by rw[szB,hz];simpa using h0⟩
theorem sz_no {x:List UInt8} (h : ¬ (Wd.lenIn x 1 4=true ∧ ¬ (Wd.headIs (fun c=>(c.toNat:Int)==48) x=true∧1<x.length)∧x.all Ver.isD=true)):szN x=0∧szB x=false:=by
 have hz:sz x = -1:=by rw[sz,if_neg h]
 exact ⟨by rw[szN,hz];rfl,by rw[szB,hz];rfl⟩
theorem size_any (x:List UInt8) (hx:x.length≤2000) (w:World):Calls Tryz.prog 308 #[.string ⟨x.toArray⟩] w fun e w'=>e = .returned (.tuple #[.int .i64 (szN x), .bool (szB x)])∧Below w.heap.size w w':=by
 by_cases h1:1≤x.length
 · by_cases h4:x.length≤4
   · have hl:Wd.lenIn x 1 4=true:=by simp[Wd.lenIn,h1,h4]
     by_cases hd:x.all Ver.isD=true
     · have ht:=(trim_all x).2 hd
       by_cases hn:Wd.headIs (fun c=>(c.toNat:Int)==48) x=true
       · by_cases h2:1<x.length
         · obtain ⟨e1,e2⟩:=sz_no (x:=x) (fun h=>h.2.1 ⟨hn,h2⟩)
           rw[e1,e2];exact size_nought x h2 h4 hn ht w
         · obtain ⟨e1,e2⟩:=sz_yes hl (fun h=>h2 h.2) hd
           rw[e1,e2]
           match x,h1,h2,hn with
           | [c],_,_,hn =>
             have hc:c=48:=by
               simp only[Wd.headIs,beq_iff_eq] at hn
               apply UInt8.toNat_inj.1
               show c.toNat=48
               omega
             subst hc
             exact size_zero w
           | a::b::l,_,h2,_=>simp at h2
       · obtain ⟨e1,e2⟩:=sz_yes hl (fun h=>hn h.1) hd
         rw[e1,e2]
         exact size_ok x (Ver.val x) h1 h4 (by simpa using hn) ht (atoi_val x h1 hd) w
     · obtain ⟨e1,e2⟩:=sz_no (x:=x) (fun h=>hd h.2.2)
       rw[e1,e2];exact size_other x h1 h4 (fun h=>hd ((trim_all x).1 h)) w
   · obtain ⟨e1,e2⟩:=sz_no (x:=x) (fun h=>by have:=h.1;simp[Wd.lenIn] at this;omega)
     rw[e1,e2];exact size_long x (by omega) hx w
 · have:x=[]:=by cases x with
     | nil=>rfl
     | cons c l=>simp at h1
   subst this
   obtain ⟨e1,e2⟩:=sz_no (x:=([]:List UInt8)) (fun h=>by have:=h.1;simp[Wd.lenIn] at this)
   rw[e1,e2];exact size_short w
end
section
open Go.RowKit
open Arc (St Cmd S)
theorem size_yes (z:S) (hz:z.length≤2000) (n:Nat) (h:sz z=(n:Int)) (w:World):Calls Tryz.prog 308 #[.string ⟨z.toArray⟩] w fun e w'=>e = .returned (.tuple #[.int .i64 (n:Int), .bool true])∧Below w.heap.size w w':=by
 have h1:szN z=(n:Int):=by rw[szN,h,if_neg (by omega)]
 have h2:szB z=true:=by rw[szB,h];simp
 have:=size_any z hz w
 rwa [h1,h2] at this
theorem size_nope (z:S) (hz:z.length≤2000) (h:sz z<0) (w:World):Calls Tryz.prog 308 #[.string ⟨z.toArray⟩] w fun e w'=>e = .returned (.tuple #[.int .i64 0, .bool false])∧Below w.heap.size w w':=by
 have h1:szN z=0:=by rw[szN,if_pos h]
 have h2:szB z=false:=by rw[szB];simp;omega
 have:=size_any z hz w
 rwa [h1,h2] at this
theorem file_count (pb q o n c:Nat) (hn:n≠3) (w:World) :
   Calls Tryz.prog 296 #[.pointer (some ⟨pb,0,none⟩), .slice (some ⟨q,o,none⟩) n c] w fun e w'=>e = .returned (.bool false)∧Below w.heap.size w w':=by
 have hb:((n:Int)==3)=false:=by simp;omega
 have hb2:(n:Int)≠3:=by omega
 go_enter Tryz.func296,Tryz.ntmps296
 go_wp2_with fail
 go_ret
 exact ⟨rfl,Below.refl _ _⟩
theorem file_size (pb q o c:Nat) (nm ve:S) (st:St) (sl:Fin 6→Value) (path z hsh:S) (w:World) (h:PIn pb nm ve st sl w)
   (hzl:z.length≤2000) (hsz:sz z<0)
   (c0:w.cell? ⟨q,o,none⟩=some (.string ⟨path.toArray⟩)) (c1:w.cell? ⟨q,o+1,none⟩=some (.string ⟨z.toArray⟩)) (c2:w.cell? ⟨q,o+2,none⟩=some (.string ⟨hsh.toArray⟩)) :
   Calls Tryz.prog 296 #[.pointer (some ⟨pb,0,none⟩), .slice (some ⟨q,o,none⟩) 3 c] w fun e w'=>e = .returned (.bool false)∧Below w.heap.size w w':=by
 have hlt:=h.lt
 have H:=hide h;clear h
 have HSZ:=hide hsz;clear hsz
 go_enter Tryz.func296,Tryz.ntmps296
 go_wp2_with fail
 go_quiet (fail)
 go_wp2_with (first
   | (go_at_call 308;refine (size_nope z hzl HSZ.out _).mono ?_;rintro e w1 ⟨rfl,hb1⟩;have HP1:=hide ((H.out.drewN nq).below hb1);have k1:=(row_cell HP1.out.blk 8).trans (show _=some (.string ⟨st.left.toArray⟩) from rfl);have HB1:Hid (Below w.heap.size w w1):=hide ((below_drewN (Below.refl _ w) nq).trans hb1);clear hb1))
 go_ret
 exact ⟨rfl,HB1.out⟩
theorem file_long (pb q o c:Nat) (nm ve:S) (st:St) (sl:Fin 6→Value) (path z hsh:S) (w:World) (h:PIn pb nm ve st sl w)
   (hzl:z.length≤2000) (n:Nat) (hsz:sz z=(n:Int)) (hn:st.left.length<n)
   (c0:w.cell? ⟨q,o,none⟩=some (.string ⟨path.toArray⟩)) (c1:w.cell? ⟨q,o+1,none⟩=some (.string ⟨z.toArray⟩)) (c2:w.cell? ⟨q,o+2,none⟩=some (.string ⟨hsh.toArray⟩)) :
   Calls Tryz.prog 296 #[.pointer (some ⟨pb,0,none⟩), .slice (some ⟨q,o,none⟩) 3 c] w fun e w'=>e = .returned (.bool false)∧Below w.heap.size w w':=by
 have hlt:=h.lt
 have H:=hide h;clear h
 have HSZ:=hide hsz;clear hsz
 have gb:(st.left.length:Int)<(n:Int):=by omega
 go_enter Tryz.func296,Tryz.ntmps296
 go_wp2_with fail
 go_quiet (fail)
 go_wp2_with (first
   | (go_at_call 308;refine (size_yes z hzl n HSZ.out _).mono ?_;rintro e w1 ⟨rfl,hb1⟩;have HP1:=hide ((H.out.drewN nq).below hb1);have k1:=(row_cell HP1.out.blk 8).trans (show _=some (.string ⟨st.left.toArray⟩) from rfl);have HB1:Hid (Below w.heap.size w w1):=hide ((below_drewN (Below.refl _ w) nq).trans hb1);clear hb1))
 go_ret
 exact ⟨rfl,HB1.out⟩
theorem file_path (pb q o c:Nat) (nm ve:S) (st:St) (sl:Fin 6→Value) (path z hsh:S) (mx:Int) (w:World) (h:PIn pb nm ve st sl w) (hp0:9≤pb)
   (hpl:path.length≤2000) (hzl:z.length≤2000) (n:Nat) (hsz:sz z=(n:Int)) (hn:n≤st.left.length) (hpath:Wd.isPath path=false) (hm:w.cell? ⟨3,0,none⟩=some (.int .i64 mx))
   (c0:w.cell? ⟨q,o,none⟩=some (.string ⟨path.toArray⟩)) (c1:w.cell? ⟨q,o+1,none⟩=some (.string ⟨z.toArray⟩)) (c2:w.cell? ⟨q,o+2,none⟩=some (.string ⟨hsh.toArray⟩)) :
   Calls Tryz.prog 296 #[.pointer (some ⟨pb,0,none⟩), .slice (some ⟨q,o,none⟩) 3 c] w fun e w'=>e = .returned (.bool false)∧Below w.heap.size w w':=by
 have hlt:=h.lt
 have H:=hide h;clear h
 have HSZ:=hide hsz;clear hsz
 have HM:=hide hm;clear hm
 have gb:(n:Int)≤(st.left.length:Int):=by omega
 have gb2 : ¬ (st.left.length:Int)<(n:Int):=by omega
 go_enter Tryz.func296,Tryz.ntmps296
 go_wp2_with fail
 go_quiet (fail)
 go_wp2_with (first
   | (go_at_call 308;refine (size_yes z hzl n HSZ.out _).mono ?_;rintro e w1 ⟨rfl,hb1⟩;have HP1:=hide ((H.out.drewN nq).below hb1);have k1:=(row_cell HP1.out.blk 8).trans (show _=some (.string ⟨st.left.toArray⟩) from rfl);have HB1:Hid (Below w.heap.size w w1):=hide ((below_drewN (Below.refl _ w) nq).trans hb1);clear hb1)
   | (go_at_call 213;refine (isPath_any path hpl mx _ ((HB1.out.cell (p:=⟨3,0,none⟩) (by show 3<w.heap.size;omega)).trans HM.out)).mono ?_;rintro e w2 ⟨he2,hb2⟩;rw[hpath] at he2;subst he2;have HP2:=hide (HP1.out.below hb2);have k2:=(row_cell HP2.out.blk 8).trans (show _=some (.string ⟨st.left.toArray⟩) from rfl);have HB2:=hide (HB1.out.trans (hb2.mono HB1.out.size));clear hb2))
 go_ret
 exact ⟨rfl,HB2.out⟩
theorem file_under (pb q o c:Nat) (nm ve:S) (st:St) (sl:Fin 6→Value) (path z hsh:S) (mx:Int) (w:World) (h:PIn pb nm ve st sl w) (hp0:9≤pb)
   (hpl:path.length≤2000) (hzl:z.length≤2000) (n:Nat) (hsz:sz z=(n:Int)) (hn:n≤st.left.length) (hpath:Wd.isPath path=true) (hund:Wd.under path=true) (hm:w.cell? ⟨3,0,none⟩=some (.int .i64 mx))
   (c0:w.cell? ⟨q,o,none⟩=some (.string ⟨path.toArray⟩)) (c1:w.cell? ⟨q,o+1,none⟩=some (.string ⟨z.toArray⟩)) (c2:w.cell? ⟨q,o+2,none⟩=some (.string ⟨hsh.toArray⟩)) :
   Calls Tryz.prog 296 #[.pointer (some ⟨pb,0,none⟩), .slice (some ⟨q,o,none⟩) 3 c] w fun e w'=>e = .returned (.bool false)∧Below w.heap.size w w':=by
 have hlt:=h.lt
 have H:=hide h;clear h
 have HSZ:=hide hsz;clear hsz
 have HM:=hide hm;clear hm
 have gb:(n:Int)≤(st.left.length:Int):=by omega
 have gb2 : ¬ (st.left.length:Int)<(n:Int):=by omega
 go_enter Tryz.func296,Tryz.ntmps296
 go_wp2_with fail
 go_quiet (fail)
 go_wp2_with (first
   | (go_at_call 308;refine (size_yes z hzl n HSZ.out _).mono ?_;rintro e w1 ⟨rfl,hb1⟩;have HP1:=hide ((H.out.drewN nq).below hb1);have k1:=(row_cell HP1.out.blk 8).trans (show _=some (.string ⟨st.left.toArray⟩) from rfl);have HB1:Hid (Below w.heap.size w w1):=hide ((below_drewN (Below.refl _ w) nq).trans hb1);clear hb1)
   | (go_at_call 213;refine (isPath_any path hpl mx _ ((HB1.out.cell (p:=⟨3,0,none⟩) (by show 3<w.heap.size;omega)).trans HM.out)).mono ?_;rintro e w2 ⟨he2,hb2⟩;rw[hpath] at he2;subst he2;have HP2:=hide (HP1.out.below hb2);have k2:=(row_cell HP2.out.blk 8).trans (show _=some (.string ⟨st.left.toArray⟩) from rfl);have HB2:=hide (HB1.out.trans (hb2.mono HB1.out.size));clear hb2)
   | (go_at_call 214;refine (underVar_any path _).mono ?_;rintro e w3 ⟨he3,rfl⟩;rw[hund] at he3;subst he3))
 go_ret
 exact ⟨rfl,HB2.out⟩
theorem file_has (pb q o c:Nat) (nm ve:S) (st:St) (sl:Fin 6→Value) (path z hsh:S) (mx:Int) (w:World) (h:PIn pb nm ve st sl w) (hp0:9≤pb) (hf:st.files.length≤2000)
   (hpl:path.length≤2000) (hzl:z.length≤2000) (n:Nat) (hsz:sz z=(n:Int)) (hn:n≤st.left.length) (hpath:Wd.isPath path=true) (hund:Wd.under path=false) (hhas:(st.files.any fun f=>f.1==path)=true) (hm:w.cell? ⟨3,0,none⟩=some (.int .i64 mx))
   (c0:w.cell? ⟨q,o,none⟩=some (.string ⟨path.toArray⟩)) (c1:w.cell? ⟨q,o+1,none⟩=some (.string ⟨z.toArray⟩)) (c2:w.cell? ⟨q,o+2,none⟩=some (.string ⟨hsh.toArray⟩)) :
   Calls Tryz.prog 296 #[.pointer (some ⟨pb,0,none⟩), .slice (some ⟨q,o,none⟩) 3 c] w fun e w'=>e = .returned (.bool false)∧Below w.heap.size w w':=by
 have hlt:=h.lt
 have H:=hide h;clear h
 have HSZ:=hide hsz;clear hsz
 have HM:=hide hm;clear hm
 have gb:(n:Int)≤(st.left.length:Int):=by omega
 have gb2 : ¬ (st.left.length:Int)<(n:Int):=by omega
 go_enter Tryz.func296,Tryz.ntmps296
 go_wp2_with fail
 go_quiet (fail)
 go_wp2_with (first
   | (go_at_call 308;refine (size_yes z hzl n HSZ.out _).mono ?_;rintro e w1 ⟨rfl,hb1⟩;have HP1:=hide ((H.out.drewN nq).below hb1);have k1:=(row_cell HP1.out.blk 8).trans (show _=some (.string ⟨st.left.toArray⟩) from rfl);have HB1:Hid (Below w.heap.size w w1):=hide ((below_drewN (Below.refl _ w) nq).trans hb1);clear hb1)
   | (go_at_call 213;refine (isPath_any path hpl mx _ ((HB1.out.cell (p:=⟨3,0,none⟩) (by show 3<w.heap.size;omega)).trans HM.out)).mono ?_;rintro e w2 ⟨he2,hb2⟩;rw[hpath] at he2;subst he2;have HP2:=hide (HP1.out.below hb2);have k2:=(row_cell HP2.out.blk 8).trans (show _=some (.string ⟨st.left.toArray⟩) from rfl);have HB2:=hide (HB1.out.trans (hb2.mono HB1.out.size));clear hb2)
   | (go_at_call 214;refine (underVar_any path _).mono ?_;rintro e w3 ⟨he3,rfl⟩;rw[hund] at he3;subst he3)
   | (go_at_call 309;refine (hasFile_any pb nm ve st sl path _ HP2.out hf).mono ?_;rintro e w3 ⟨he4,hb3⟩;rw[hhas] at he4;subst he4;have HP3:=hide (HP2.out.below hb3);have k3:=(row_cell HP3.out.blk 8).trans (show _=some (.string ⟨st.left.toArray⟩) from rfl);have f3:=row_free HP3.out.blk 8;have hl3:=HP3.out.lt;have HB3:=hide (HB2.out.trans (hb3.mono HB2.out.size));clear hb3))
 go_ret
 exact ⟨rfl,HB3.out⟩
theorem file_any (pb q o c:Nat) (nm ve:S) (st:St) (sl:Fin 6→Value) (path z hsh:S) (mx:Int) (K:Nat→Int) (w:World) (h:PIn pb nm ve st sl w) (hp0:9≤pb) (hf:st.files.length≤2000)
   (hpl:path.length≤2000) (hzl:z.length≤2000) (hleft:st.left.length≤2000) (n:Nat) (hsz:sz z=(n:Int)) (hn:n≤st.left.length) (hpath:Wd.isPath path=true) (hund:Wd.under path=false) (hhas:(st.files.any fun f=>f.1==path)=false) (hm:w.cell? ⟨3,0,none⟩=some (.int .i64 mx)) (hK:∀ i:Nat,i<64→w.cell? ⟨4,i,none⟩=some (.int .u32 (K i)))
   (c0:w.cell? ⟨q,o,none⟩=some (.string ⟨path.toArray⟩)) (c1:w.cell? ⟨q,o+1,none⟩=some (.string ⟨z.toArray⟩)) (c2:w.cell? ⟨q,o+2,none⟩=some (.string ⟨hsh.toArray⟩)) :
   Calls Tryz.prog 296 #[.pointer (some ⟨pb,0,none⟩), .slice (some ⟨q,o,none⟩) 3 c] w fun e w'=>e = .returned (.bool (short K (st.left.take n)==hsh))∧∃ sl',PIn pb nm ve { st with files:=st.files++[(path,st.left.take n)],left:=st.left.drop n } sl' w'∧Below pb w w':=by
 obtain ⟨i0,hi,hz0,hz1,hz2⟩:=info_three info_file
 have hlt:=h.lt
 have H:=hide h;clear h
 have HSZ:=hide hsz;clear hsz
 have HM:=hide hm;clear hm
 have HK:=hide hK;clear hK
 have e1:(⟨st.left.toArray⟩:ByteArray).extract 0 n=⟨(st.left.take n).toArray⟩:=list_ext_take st.left n
 have e2:(⟨st.left.toArray⟩:ByteArray).extract n st.left.length=⟨(st.left.drop n).toArray⟩:=list_ext_drop st.left n
 have gb:(n:Int)≤(st.left.length:Int):=by omega
 have gb2 : ¬ (st.left.length:Int)<(n:Int):=by omega
 go_enter Tryz.func296,Tryz.ntmps296
 go_wp2_with fail
 go_quiet (fail)
 go_wp2_with (first
   | (go_at_call 308;refine (size_yes z hzl n HSZ.out _).mono ?_;rintro e w1 ⟨rfl,hb1⟩;have HP1:=hide ((H.out.drewN nq).below hb1);have k1:=(row_cell HP1.out.blk 8).trans (show _=some (.string ⟨st.left.toArray⟩) from rfl);have HB1:Hid (Below w.heap.size w w1):=hide ((below_drewN (Below.refl _ w) nq).trans hb1);clear hb1)
   | (go_at_call 213;refine (isPath_any path hpl mx _ ((HB1.out.cell (p:=⟨3,0,none⟩) (by show 3<w.heap.size;omega)).trans HM.out)).mono ?_;rintro e w2 ⟨he2,hb2⟩;rw[hpath] at he2;subst he2;have HP2:=hide (HP1.out.below hb2);have k2:=(row_cell HP2.out.blk 8).trans (show _=some (.string ⟨st.left.toArray⟩) from rfl);have HB2:=hide (HB1.out.trans (hb2.mono HB1.out.size));clear hb2)
   | (go_at_call 214;refine (underVar_any path _).mono ?_;rintro e w3 ⟨he3,rfl⟩;rw[hund] at he3;subst he3)
   | (go_at_call 309;refine (hasFile_any pb nm ve st sl path _ HP2.out hf).mono ?_;rintro e w3 ⟨he4,hb3⟩;rw[hhas] at he4;subst he4;have HP3:=hide (HP2.out.below hb3);have k3:=(row_cell HP3.out.blk 8).trans (show _=some (.string ⟨st.left.toArray⟩) from rfl);have f3:=row_free HP3.out.blk 8;have hl3:=HP3.out.lt;have HB3:=hide (HB2.out.trans (hb3.mono HB2.out.size));clear hb3))
 have hfb:((w3.setCell ⟨pb,8,none⟩ (.string ⟨(st.left.drop n).toArray⟩)).alloc (.cells #[.string ⟨path.toArray⟩, .string ⟨(st.left.take n).toArray⟩] 234)).heap[w3.heap.size]? = some (.cells #[.string ⟨path.toArray⟩, .string ⟨(st.left.take n).toArray⟩] 234 (0,0)):=by
   have:=heap_alloc_new (w3.setCell ⟨pb,8,none⟩ (.string ⟨(st.left.drop n).toArray⟩)) (.cells #[.string ⟨path.toArray⟩, .string ⟨(st.left.take n).toArray⟩] 234)
   rwa [show (w3.setCell ⟨pb,8,none⟩ (.string ⟨(st.left.drop n).toArray⟩)).heap.size=w3.heap.size from by simp] at this
 have P4:=(HP3.out.left (st.left.drop n)).alloc (.cells #[.string ⟨path.toArray⟩, .string ⟨(st.left.take n).toArray⟩] 234)
 have B4:Below pb w ((w3.setCell ⟨pb,8,none⟩ (.string ⟨(st.left.drop n).toArray⟩)).alloc (.cells #[.string ⟨path.toArray⟩, .string ⟨(st.left.take n).toArray⟩] 234)) :=
   ((show Below pb w w3 from HB3.out.mono (by omega)).setCell (p:=⟨pb,8,none⟩) (Nat.le_refl _) _).alloc (by have:=HP3.out.lt;simp;omega) _
 have hus:((w3.setCell ⟨pb,8,none⟩ (.string ⟨(st.left.drop n).toArray⟩)).alloc (.cells #[.string ⟨path.toArray⟩, .string ⟨(st.left.take n).toArray⟩] 234)).heap.size=w3.heap.size+1:=by simp
 have hne:some w3.heap.size≠(sl 3).ownBlock:=fun e=>by have:=((HP3.out.own 3).lt _ e.symm).2;omega
 have e0:strV (st.left.drop n) = .string ⟨(st.left.drop n).toArray⟩:=rfl
 rw[e0] at P4
 obtain ⟨fb,hfbe⟩:∃ fb,w3.heap.size=fb:=⟨_,rfl⟩
 generalize hu:(w3.setCell ⟨pb,8,none⟩ (.string ⟨(st.left.drop n).toArray⟩)).alloc (.cells #[.string ⟨path.toArray⟩, .string ⟨(st.left.take n).toArray⟩] 234)=u at *
 rw[hfbe] at hfb hus hne hl3 ⊢
 clear hu k1 k2 k3 f3 HB3 HP3 HB2 HP2 HB1 HP1 e0 hfbe
 have k5:=(row_cell P4.blk 5).trans (show _=some (sl 3) from rfl)
 have f5:=row_free P4.blk 5
 have l0:=(row_cell hfb 0).trans (show _=some (.string ⟨path.toArray⟩) from rfl)
 have l1:=(row_cell hfb 1).trans (show _=some (.string ⟨(st.left.take n).toArray⟩) from rfl)
 obtain ⟨m,xs,hmx⟩:∃ m xs,prow { st with left:=st.left.drop n } 3=(m,xs):=⟨_,_,rfl⟩
 have hm1:m≤2000:=by have:=congrArg Prod.fst hmx;simp only[prow] at this;omega
 have own3:=P4.own 3
 rw[hmx] at own3
 have own3':(u.drew).ownsRow (pb+1) 234 2 (sl 3) m xs:=own3
 have HP4:=hide P4;have HFB:=hide hfb;have HB4:=hide B4;have HMX:=hide hmx
 have hne2 : ¬ fb=pb:=by omega
 have hne3 : ¬ pb=fb:=by omega
 clear P4 hfb B4 hmx own3
 go_region_law (refine step_append_own rfl _ _ 151 rfl (pb+1) 234 i0 _ 2 32 Tryz.underlying151 hi hz0 hz1 hz2 rfl (by decide) (sl 3) m xs rfl (own3'.alloc _) ⟨u.heap.size,0,none⟩ 1 1 [_,_] (by simp[Act.eval]) rfl (cell_two_new _ _ _ _) (fun x hx=>by simp at hx;rcases hx with rfl | rfl<;>rfl) (by unfold maxLen;omega) (by omega) (by simp;omega) ?_;intro v' w4 hown' hgrow4 hnil4 hblk4;obtain ⟨gv,cv,rfl⟩:=own_form hown' (by omega);have hk4:=PIn.kept (HP4.out.drew.alloc _) 3 hgrow4;have q5:=(row_cell hk4 5).trans (show _=some (sl 3) from rfl);have g5:=row_free hk4 5;have hf4:=(hgrow4.block fb (by simp;omega) hne).trans ((Below.heap_alloc _ _ _ (by show fb<u.heap.size;omega)).trans HFB.out);have r1:=(row_cell hf4 1).trans (show _=some (.string ⟨(st.left.take n).toArray⟩) from rfl))
 all_goals
   have hprow:prow { st with files:=st.files++[(path,st.left.take n)],left:=st.left.drop n } 3=(m+1,xs++[.string ⟨path.toArray⟩, .string ⟨(st.left.take n).toArray⟩]):=by
     have:=HMX.out
     simp only[prow,Prod.mk.injEq] at this ⊢
     rw[← this.1,← this.2];simp[pairV,strV]
   have hown2:w4.ownsRow (pb+1) (pty 3) (psz 3) (.slice (some ⟨gv,0,none⟩) (m+1) cv) (prow { st with files:=st.files++[(path,st.left.take n)],left:=st.left.drop n } 3).1 (prow { st with files:=st.files++[(path,st.left.take n)],left:=st.left.drop n } 3).2:=by rw[hprow];exact hown'
   have HP5:=hide (PIn.put (HP4.out.drew.alloc _) 3 hgrow4 hown2 hblk4 (fun j hj=>by
     match j,hj with
     | 0,_=>rfl
     | 1,_=>rfl
     | 2,_=>rfl
     | 3,h=>exact absurd rfl h
     | 4,_=>rfl
     | 5,_=>rfl) rfl)
   have HB5:Hid (Below pb w (w4.setCell ⟨pb,5,none⟩ (.slice (some ⟨gv,0,none⟩) (m+1) cv))):=hide (((show Below pb w w4 from ((HB4.out.drew.alloc (by show pb≤u.heap.size;omega) _).grown hgrow4 (by simp;omega) (fun k hk=>by have:=((HP4.out.own 3).lt k hk).1;omega)))).setCell (p:=⟨pb,5,none⟩) (Nat.le_refl pb) _)
   clear hown2 hprow hown' hgrow4 hnil4 hblk4 hk4 hf4
   go_wp2_with (first
     | (go_at_call 88;refine (short_any (st.left.take n) (by rw[List.length_take];omega) K _ (by have:=HB5.out.size;omega) (fun i hi=>(HB5.out.cell (p:=⟨4,i,none⟩) (by show 4<pb;omega)).trans (HK.out i hi))).mono ?_;rintro e w6 ⟨rfl,hb6⟩))
   go_ret
   exact ⟨rfl,_,HP5.out.below hb6,HB5.out.trans (hb6.mono (Nat.le_of_lt HP5.out.lt))⟩
end
section
open Go.RowKit
theorem CmdIn.ends {w w1:World} {a b c d a' b' c' d':Value} (h:CmdIn w a b c d a' b' c' d' w1):w1.cell? ⟨w.heap.size,0,none⟩=some a∧w1.cell? ⟨w.heap.size,1,none⟩=some b∧w1.cell? ⟨w.heap.size,2,none⟩=some c∧w1.cell? ⟨w.heap.size,3,none⟩=some d:=by
 obtain ⟨t0,t1,t2,t3, -⟩:=four_free h.out
 exact ⟨t0,t1,t2,t3⟩
theorem command_few (ao:Option Addr) (n c:Nat) (hn:n<2) (w:World) :
   Calls Tryz.prog 297 #[.slice ao n c] w fun e w'=>e = .returned (.tuple #[.agg #[.int .i64 0, .string ⟨#[]⟩, .string ⟨#[]⟩, .string ⟨#[]⟩], .bool false])∧Below w.heap.size w w':=by
 have hb:(n:Int)<2:=by omega
 go_enter Tryz.func297,Tryz.ntmps297
 go_wp2_with fail
 obtain ⟨t0,t1,t2,t3, -⟩:=four_free (heap_alloc_new w (.cells #[.int .i64 0, .string ⟨#[]⟩, .string ⟨#[]⟩, .string ⟨#[]⟩] 317))
 exact bodyPost_ret (v := .tuple #[.agg #[.int .i64 0, .string ⟨#[]⟩, .string ⟨#[]⟩, .string ⟨#[]⟩], .bool false]) (by simp[results,Tryz.results297,go_sem,t0,t1,t2,t3]) rfl ⟨rfl,(Below.refl _ w).alloc (Nat.le_refl _) _⟩
theorem command_no (g o n c:Nat) (v p:List UInt8) (hn:2≤n) (hv:Arc.vb v=0) (w:World)
   (hg:g<w.heap.size) (c0:w.cell? ⟨g,o,none⟩=some (.string ⟨v.toArray⟩)) (c1:w.cell? ⟨g,o+1,none⟩=some (.string ⟨p.toArray⟩)) :
   Calls Tryz.prog 297 #[.slice (some ⟨g,o,none⟩) n c] w fun e w'=>e = .returned (.tuple #[.agg #[.int .i64 0, .string ⟨#[]⟩, .string ⟨#[]⟩, .string ⟨#[]⟩], .bool false])∧Below w.heap.size w w':=by
 have hb : ¬ (n:Int)<2:=by omega
 have h1:(1:Int)<n:=by omega
 have h0:(0:Int)<n:=by omega
 obtain ⟨v1,v2,v3,v4,v5⟩:(v==[112,117,116])=false∧(v==[97,100,100])=false∧(v==[99,111,112,121])=false∧(v==[100,114,111,112])=false∧(v==[108,105,115,116])=false:=by
   unfold Arc.vb at hv
   refine ⟨?_,?_,?_,?_,?_⟩<;>(apply Bool.eq_false_iff.2;intro e;rw[beq_iff_eq] at e;subst e;simp at hv)
 clear hv
 go_enter Tryz.func297,Tryz.ntmps297
 go_wp2_with fail
 have HI:=CmdIn.begin w (.int .i64 0) (.string ⟨#[]⟩) (.string ⟨#[]⟩) (.string ⟨#[]⟩) (.int .i64 0) (.string ⟨p.toArray⟩) (.string ⟨#[]⟩) (.string ⟨#[]⟩)
 obtain ⟨t0,t1,t2,t3⟩:=HI.ends
 exact bodyPost_ret (v := .tuple #[.agg #[.int .i64 0, .string ⟨#[]⟩, .string ⟨#[]⟩, .string ⟨#[]⟩], .bool false]) (by simp[results,Tryz.results297,go_sem,t0,t1,t2,t3]) rfl ⟨rfl,HI.bel⟩
theorem command_put_count (g o n c:Nat) (p:List UInt8) (hn:2≤n) (hc:n≠3) (w:World)
   (hg:g<w.heap.size) (c0:w.cell? ⟨g,o,none⟩=some (.string ⟨#[112,117,116]⟩)) (c1:w.cell? ⟨g,o+1,none⟩=some (.string ⟨p.toArray⟩)) :
   Calls Tryz.prog 297 #[.slice (some ⟨g,o,none⟩) n c] w fun e w'=>e = .returned (.tuple #[.agg #[.int .i64 0, .string ⟨#[]⟩, .string ⟨#[]⟩, .string ⟨#[]⟩], .bool false])∧Below w.heap.size w w':=by
 have hb : ¬ (n:Int)<2:=by omega
 have h1:(1:Int)<n:=by omega
 have h0:(0:Int)<n:=by omega
 have hcb:((n:Int)==3)=false:=by apply beq_eq_false_iff_ne.2;omega
 have hcn : ¬ (n:Int)=3:=by omega
 go_enter Tryz.func297,Tryz.ntmps297
 go_wp2_with fail
 have HI:=CmdIn.begin w (.int .i64 0) (.string ⟨#[]⟩) (.string ⟨#[]⟩) (.string ⟨#[]⟩) (.int .i64 1) (.string ⟨p.toArray⟩) (.string ⟨#[]⟩) (.string ⟨#[]⟩)
 obtain ⟨t0,t1,t2,t3⟩:=HI.ends
 exact bodyPost_ret (v := .tuple #[.agg #[.int .i64 0, .string ⟨#[]⟩, .string ⟨#[]⟩, .string ⟨#[]⟩], .bool false]) (by simp[results,Tryz.results297,go_sem,t0,t1,t2,t3]) rfl ⟨rfl,HI.bel⟩
theorem command_add_count (g o n c:Nat) (p:List UInt8) (hn:2≤n) (hc:n≠3) (w:World)
   (hg:g<w.heap.size) (c0:w.cell? ⟨g,o,none⟩=some (.string ⟨#[97,100,100]⟩)) (c1:w.cell? ⟨g,o+1,none⟩=some (.string ⟨p.toArray⟩)) :
   Calls Tryz.prog 297 #[.slice (some ⟨g,o,none⟩) n c] w fun e w'=>e = .returned (.tuple #[.agg #[.int .i64 0, .string ⟨#[]⟩, .string ⟨#[]⟩, .string ⟨#[]⟩], .bool false])∧Below w.heap.size w w':=by
 have hb : ¬ (n:Int)<2:=by omega
 have h1:(1:Int)<n:=by omega
 have h0:(0:Int)<n:=by omega
 have hcb:((n:Int)==3)=false:=by apply beq_eq_false_iff_ne.2;omega
 have hcn : ¬ (n:Int)=3:=by omega
 go_enter Tryz.func297,Tryz.ntmps297
 go_wp2_with fail
 have HI:=CmdIn.begin w (.int .i64 0) (.string ⟨#[]⟩) (.string ⟨#[]⟩) (.string ⟨#[]⟩) (.int .i64 2) (.string ⟨p.toArray⟩) (.string ⟨#[]⟩) (.string ⟨#[]⟩)
 obtain ⟨t0,t1,t2,t3⟩:=HI.ends
 exact bodyPost_ret (v := .tuple #[.agg #[.int .i64 0, .string ⟨#[]⟩, .string ⟨#[]⟩, .string ⟨#[]⟩], .bool false]) (by simp[results,Tryz.results297,go_sem,t0,t1,t2,t3]) rfl ⟨rfl,HI.bel⟩
theorem command_copy_count (g o n c:Nat) (p:List UInt8) (hn:2≤n) (hc:n≠3) (w:World)
   (hg:g<w.heap.size) (c0:w.cell? ⟨g,o,none⟩=some (.string ⟨#[99,111,112,121]⟩)) (c1:w.cell? ⟨g,o+1,none⟩=some (.string ⟨p.toArray⟩)) :
   Calls Tryz.prog 297 #[.slice (some ⟨g,o,none⟩) n c] w fun e w'=>e = .returned (.tuple #[.agg #[.int .i64 0, .string ⟨#[]⟩, .string ⟨#[]⟩, .string ⟨#[]⟩], .bool false])∧Below w.heap.size w w':=by
 have hb : ¬ (n:Int)<2:=by omega
 have h1:(1:Int)<n:=by omega
 have h0:(0:Int)<n:=by omega
 have hcb:((n:Int)==3)=false:=by apply beq_eq_false_iff_ne.2;omega
 have hcn : ¬ (n:Int)=3:=by omega
 go_enter Tryz.func297,Tryz.ntmps297
 go_wp2_with fail
 have HI:=CmdIn.begin w (.int .i64 0) (.string ⟨#[]⟩) (.string ⟨#[]⟩) (.string ⟨#[]⟩) (.int .i64 3) (.string ⟨p.toArray⟩) (.string ⟨#[]⟩) (.string ⟨#[]⟩)
 obtain ⟨t0,t1,t2,t3⟩:=HI.ends
 exact bodyPost_ret (v := .tuple #[.agg #[.int .i64 0, .string ⟨#[]⟩, .string ⟨#[]⟩, .string ⟨#[]⟩], .bool false]) (by simp[results,Tryz.results297,go_sem,t0,t1,t2,t3]) rfl ⟨rfl,HI.bel⟩
theorem command_drop_count (g o n c:Nat) (p:List UInt8) (hn:2≤n) (hc:n≠2) (w:World)
   (hg:g<w.heap.size) (c0:w.cell? ⟨g,o,none⟩=some (.string ⟨#[100,114,111,112]⟩)) (c1:w.cell? ⟨g,o+1,none⟩=some (.string ⟨p.toArray⟩)) :
   Calls Tryz.prog 297 #[.slice (some ⟨g,o,none⟩) n c] w fun e w'=>e = .returned (.tuple #[.agg #[.int .i64 0, .string ⟨#[]⟩, .string ⟨#[]⟩, .string ⟨#[]⟩], .bool false])∧Below w.heap.size w w':=by
 have hb : ¬ (n:Int)<2:=by omega
 have h1:(1:Int)<n:=by omega
 have h0:(0:Int)<n:=by omega
 have hcb:((n:Int)==2)=false:=by apply beq_eq_false_iff_ne.2;omega
 have hcn : ¬ (n:Int)=2:=by omega
 go_enter Tryz.func297,Tryz.ntmps297
 go_wp2_with fail
 have HI:=CmdIn.begin w (.int .i64 0) (.string ⟨#[]⟩) (.string ⟨#[]⟩) (.string ⟨#[]⟩) (.int .i64 4) (.string ⟨p.toArray⟩) (.string ⟨#[]⟩) (.string ⟨#[]⟩)
 obtain ⟨t0,t1,t2,t3⟩:=HI.ends
 exact bodyPost_ret (v := .tuple #[.agg #[.int .i64 0, .string ⟨#[]⟩, .string ⟨#[]⟩, .string ⟨#[]⟩], .bool false]) (by simp[results,Tryz.results297,go_sem,t0,t1,t2,t3]) rfl ⟨rfl,HI.bel⟩
theorem command_list_count (g o n c:Nat) (p:List UInt8) (hn:2≤n) (hc:n≠2) (w:World)
   (hg:g<w.heap.size) (c0:w.cell? ⟨g,o,none⟩=some (.string ⟨#[108,105,115,116]⟩)) (c1:w.cell? ⟨g,o+1,none⟩=some (.string ⟨p.toArray⟩)) :
   Calls Tryz.prog 297 #[.slice (some ⟨g,o,none⟩) n c] w fun e w'=>e = .returned (.tuple #[.agg #[.int .i64 0, .string ⟨#[]⟩, .string ⟨#[]⟩, .string ⟨#[]⟩], .bool false])∧Below w.heap.size w w':=by
 have hb : ¬ (n:Int)<2:=by omega
 have h1:(1:Int)<n:=by omega
 have h0:(0:Int)<n:=by omega
 have hcb:((n:Int)==2)=false:=by apply beq_eq_false_iff_ne.2;omega
 have hcn : ¬ (n:Int)=2:=by omega
 go_enter Tryz.func297,Tryz.ntmps297
 go_wp2_with fail
 have HI:=CmdIn.begin w (.int .i64 0) (.string ⟨#[]⟩) (.string ⟨#[]⟩) (.string ⟨#[]⟩) (.int .i64 5) (.string ⟨p.toArray⟩) (.string ⟨#[]⟩) (.string ⟨#[]⟩)
 obtain ⟨t0,t1,t2,t3⟩:=HI.ends
 exact bodyPost_ret (v := .tuple #[.agg #[.int .i64 0, .string ⟨#[]⟩, .string ⟨#[]⟩, .string ⟨#[]⟩], .bool false]) (by simp[results,Tryz.results297,go_sem,t0,t1,t2,t3]) rfl ⟨rfl,HI.bel⟩
theorem third_put (b g o c:Nat) (p q:List UInt8) (hq:q.length≤2000) (w:World)
   (hb:w.heap[b]? = some (.cells #[.int .i64 1, .string ⟨p.toArray⟩, .string ⟨#[]⟩, .string ⟨#[]⟩] 317 (0,0)))
   (h2:w.cell? ⟨g,o+2,none⟩=some (.string ⟨q.toArray⟩)) :
   Calls Tryz.prog 310 #[.pointer (some ⟨b,0,none⟩), .slice (some ⟨g,o,none⟩) 3 c] w fun e w'=>e = .returned (.bool (Wd.isWord q))∧Below (w.setCell ⟨b,2,none⟩ (.string ⟨q.toArray⟩)).heap.size (w.setCell ⟨b,2,none⟩ (.string ⟨q.toArray⟩)) w':=by
 have k0:=(row_cell hb 0).trans (show _=some (.int .i64 1) from rfl)
 have k2:=(row_cell hb 2).trans (show _=some (.string ⟨#[]⟩) from rfl)
 have f2:=row_free hb 2
 have HB:=hide hb;clear hb
 go_enter Tryz.func310,Tryz.ntmps310
 go_wp2_with (go_at_call 315;refine (isWord_any q hq _).mono ?_;rintro e w' ⟨rfl,hbw⟩)
 go_ret
 exact ⟨rfl,hbw⟩
theorem third_drop (b:Nat) (s:Value) (p:List UInt8) (w:World)
   (hb:w.heap[b]? = some (.cells #[.int .i64 4, .string ⟨p.toArray⟩, .string ⟨#[]⟩, .string ⟨#[]⟩] 317 (0,0))) :
   Calls Tryz.prog 310 #[.pointer (some ⟨b,0,none⟩),s] w fun e w'=>e = .returned (.bool true)∧Below w.heap.size w w':=by
 have k0:=(row_cell hb 0).trans (show _=some (.int .i64 4) from rfl)
 have HB:=hide hb;clear hb
 go_enter Tryz.func310,Tryz.ntmps310
 go_wp2_with fail
 go_ret
 exact ⟨rfl,Below.refl _ _⟩
theorem third_list (b:Nat) (s:Value) (p:List UInt8) (w:World)
   (hb:w.heap[b]? = some (.cells #[.int .i64 5, .string ⟨p.toArray⟩, .string ⟨#[]⟩, .string ⟨#[]⟩] 317 (0,0))) :
   Calls Tryz.prog 310 #[.pointer (some ⟨b,0,none⟩),s] w fun e w'=>e = .returned (.bool true)∧Below w.heap.size w w':=by
 have k0:=(row_cell hb 0).trans (show _=some (.int .i64 5) from rfl)
 have HB:=hide hb;clear hb
 go_enter Tryz.func310,Tryz.ntmps310
 go_wp2_with fail
 go_ret
 exact ⟨rfl,Below.refl _ _⟩
end
end Go.Proofs.YtialenebfcnkkaaGreatDoor
