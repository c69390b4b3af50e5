/- OrdW2 -/
import Derived.Test.YtialenebfcnkkaaGreatDoorOrdJ33
import Derived.Deep.RegionHeldLaw
set_option maxHeartbeats 8000000
set_option maxRecDepth 100000
namespace Go.Proofs.YtialenebfcnkkaaGreatDoor
section
open Go.RowKit
open aH (St gH)
open Hv (S Dk VM uZ)
theorem I6 (p:Option Addr) (rn c:Nat) (rs:Nat→Int) (hrs:∀ i,i<rn→∃ a:Addr,p=some a ∧ -9223372036854775808≤rs i∧rs i≤9223372036854775807) (lacks:Int) (hl1 : -9223372036854775808≤lacks) (hl2:lacks≤9223372036854775807) (x y:Addr) (w:World) (hbs:Base w) (hE:sQ x y w) (hrw:∀ (a:Addr) i,p=some a→i<rn→w.cell? (a.add i)=some (.int .i64 (rs i))) :
   Calls Tryz.prog 3 #[.slice p rn c, .int .i64 lacks] w fun e w'=>e = .returned (.bool true)∧Below w.heap.size w w':=by
 have iT:=hide hbs;have HE:=hide hE;have HRW:=hide hrw;have HRS:=hide hrs
 have hG:=hbs.size
 clear hbs hE hrw hrs
 go_enter Tryz.func3,Tryz.ntmps3
 go_wp2_with fail
 refine (Ol 300 (by omega) (by omega) w).mono ?_
 rintro e w1 ⟨rfl,hd1,hb1⟩
 have HB1:=hide hb1
 have HA1:=hide (show Q6 x y (fun k=>w.heap.size≤k∧k<w1.heap.size) from fun k hk=>by
   obtain ⟨ca,ta,h1⟩:=HE.out.atA
   obtain ⟨cb,tb,h2⟩:=HE.out.atB
   have l1:=blt h1
   have l2:=blt h2
   exact ⟨by omega,by omega,by omega⟩)
 have HFR:=hide (OY (C:=fun k=>w.heap.size≤k∧k<w1.heap.size) w.heap.size x y w1 hd1 (iT.out.below hb1 hG) (HE.out.below hb1) HA1.out)
 have hs1:=hb1.size
 clear hd1 hb1 HA1
 go_wp2_with fail
 refine HFR.out.mono ?_
 rintro e w2 ⟨hb,F,rfl,hr2,hf2,hk2⟩
 have HR2:=hide hr2
 have HB2:=hide (jq HB1.out hf2 (fun q hq e=>by omega))
 have Ae:=hide (show ∀ k,F k→w.heap.size≤k from fun k q=>by
   rcases hk2 k q with q | q
   · exact q.1
   · omega)
 clear hr2 hf2 hk2 HFR HB1
 go_wp2_with fail
 have hs2:=HB2.out.size
 obtain ⟨ii,hii,Vx,QY,Vy⟩:=aW SH
 obtain ⟨i0,hi,hz0,hz1,hz2⟩:=aW gL
 have HN0:Hid (Gv w2.heap.size w2 [] 0 none 0 w2):=hide ⟨Ru.nil,World.ownsRow_nil _ _ _ _,Below.refl _ _,Nat.le_refl _⟩
 go_loopw [7,8] (fun ns i wr=>∃ (k:Nat) (lo:Option Addr) (lc:Nat) (l:List Nat),k≤6∧ns = .slice lo k lc∧i = .int .i64 (k:Int)∧(k=0→lo=none∧lc=0)∧Hid (Gv w2.heap.size w2 l k lo lc wr)) (fun _ i _=>6-(intOf i).toNat)
 case atStart=>exact ⟨0,none,0,[],by omega,rfl,rfl,fun _=>⟨rfl,rfl⟩,HN0⟩
 case round =>
   clear HN0
   obtain ⟨k,lo,lc,l,Yd,rfl,rfl,hk0,HN⟩:=hrel
   by_cases hk:k<6
   · obtain ⟨q,hqk,HP⟩:∃ q:Nat,q≤k∧((k<rn∧∃ a,p=some a∧wr.cell? (a.add k)=some (.int .i64 (rs k))∧Hid (∀ W,Calls Tryz.prog 7 #[.int .i64 (rs k), .int .i64 ((k:Int)+1)] W fun e w'=>e = .returned (.int .i64 (q:Int))∧w'=W))∨(¬ k<rn∧q=0)):=by
       by_cases hkr:k<rn
       · obtain ⟨a,rfl,hr1,hr2⟩:=HRS.out k hkr
         have hc:=(HB2.out.trans (HN.out.bA.mono hs2)).cell (World.block_lt_of_cell? w _ (HRW.out a k rfl hkr)) |>.trans (HRW.out a k rfl hkr)
         obtain ⟨q,hq,hqk⟩:=Yo (rs k) k
         refine ⟨q,hqk, .inl ⟨hkr,a,rfl,hc,hide fun W => ?_⟩⟩
         have hp:=xH (rs k) ((k:Int)+1) (by omega) (by omega) hr1 hr2 W
         rw[hq] at hp
         exact hp
       · exact ⟨0,Nat.zero_le _, .inr ⟨hkr,rfl⟩⟩
     have hll:=HN.out.nm.len
     by_cases hz:k=0
     · obtain ⟨rfl,rfl⟩:=hk0 hz
       subst hz
       obtain rfl:l=[]:=List.length_eq_zero_iff.1 hll
       obtain rfl:q=0:=by omega
       have hc0:∀ a:Addr,a.add 0=a:=fun a=>by cases a;rfl
       rcases HP with ⟨hkr,a,rfl,hc,HP⟩ | ⟨hkr, -⟩
       · rw[hc0] at hc
         go_wp2_with (first
           | (go_at_call 7;refine (HP.out _).mono ?_;rintro e w7 ⟨rfl,hw7⟩;have qx:=hw7.symm;subst qx;clear hw7)
           | (at_builtin;refine wpList_append_own_none _ rfl _ _ 22 rfl wr.heap.size 3 ii 1 Tryz.underlying22 hii QY (.slice none 0 0) 0 [] rfl (World.ownsRow_nil _ _ _ _) rfl ?_)
           | (at_builtin;refine wpList_append_own_at _ rfl _ _ 22 rfl wr.heap.size 3 ii (.int .i64 0) 1 8 Tryz.underlying22 hii Vx QY Vy rfl (by decide) (.slice none 0 0) 0 [] rfl (World.ownsRow_nil _ _ _ _) ⟨_,0,none⟩ 1 1 [_] rfl rfl (cell_one_new _ _ _) (fun x hx=>by simp at hx;subst hx;rfl) (by unfold maxLen;omega) (by omega) (by simp) ?_;intro v8 w8 o8 g8 n8 b8;obtain ⟨ZE,c8,rfl⟩:=aP o8 (by omega);have l8:=(ko o8).1;have O8:=hide o8;have G8:=hide g8;clear o8 g8 n8 b8))
         have VQ:=hide (HN.out.first G8.out O8.out)
         go_roundw
         case rel=>exact ⟨1,_,_,[0],by omega,rfl,rfl,fun h=>by omega,VQ⟩
         case measure=>first | (simp[intOf];done) | (simp[intOf];omega)
       · go_wp2_with (first
           | (at_builtin;refine wpList_append_own_none _ rfl _ _ 22 rfl wr.heap.size 3 ii 1 Tryz.underlying22 hii QY (.slice none 0 0) 0 [] rfl (World.ownsRow_nil _ _ _ _) rfl ?_)
           | (at_builtin;refine wpList_append_own_at _ rfl _ _ 22 rfl wr.heap.size 3 ii (.int .i64 0) 1 8 Tryz.underlying22 hii Vx QY Vy rfl (by decide) (.slice none 0 0) 0 [] rfl (World.ownsRow_nil _ _ _ _) ⟨_,0,none⟩ 1 1 [_] rfl rfl (cell_one_new _ _ _) (fun x hx=>by simp at hx;subst hx;rfl) (by unfold maxLen;omega) (by omega) (by simp) ?_;intro v8 w8 o8 g8 n8 b8;obtain ⟨ZE,c8,rfl⟩:=aP o8 (by omega);have l8:=(ko o8).1;have O8:=hide o8;have G8:=hide g8;clear o8 g8 n8 b8))
         have VQ:=hide (HN.out.first G8.out O8.out)
         go_roundw
         case rel=>exact ⟨1,_,_,[0],by omega,rfl,rfl,fun h=>by omega,VQ⟩
         case measure=>first | (simp[intOf];done) | (simp[intOf];omega)
     · obtain ⟨g,cap,hlo⟩:=aP HN.out.row (by omega)
       injection hlo with h1 h2 h3
       subst h1
       obtain rfl:=h3
       clear h2
       have hlim:=ko HN.out.row
       have hkl:=hlim.1
       have hlm:=hlim.2
       have htl:((zJ l).take q).length=q*1:=by rw[List.length_take,Nn];omega
       have hdl:((zJ l).drop q).length=(k-q)*1:=by rw[List.length_drop,Nn];omega
       have HTC:Hid (∀ j u,((zJ l).take q)[j]? = some u→wr.cell? ((⟨g,0,none⟩:Addr).add j)=some u):=hide fun j u h=>by
         have:=FV HN.out.row (Ui h)
         rw[Ku,Nat.zero_add];exact this
       have HDC:Hid (∀ j u,((zJ l).drop q)[j]? = some u→wr.cell? ((⟨g,q,none⟩:Addr).add j)=some u):=hide fun j u h=>by
         rw[List.getElem?_drop] at h
         have:=FV HN.out.row h
         rw[Ku];exact this
       have NV:=hide (HN.out.row.lt g rfl).2
       clear hlim hk0
       have hcap:(lc=q∧k=q) ∨ ¬ lc=q:=by omega
       rcases HP with ⟨hkr,a,rfl,hc,HP⟩ | ⟨hkr,rfl⟩
       · rcases hcap with ⟨hcq,hkq⟩ | hcq
         · replace hcq:=hcq.symm;subst hcq;replace hkq:=hkq.symm;subst hkq
           go_wp2_with (first
             | (go_at_call 7;refine (HP.out _).mono ?_;rintro e w7 ⟨rfl,hw7⟩;have qx:=hw7.symm;subst qx;clear hw7)
             | (at_builtin;refine wpList_append_own_at _ rfl _ _ 22 rfl wr.heap.size 3 ii (.int .i64 0) 1 8 Tryz.underlying22 hii Vx QY Vy rfl (by decide) (.slice none 0 0) 0 [] rfl (World.ownsRow_nil _ _ _ _) ⟨g,0,none⟩ _ _ _ rfl htl HTC.out (fun u h=>vW l u (List.mem_of_mem_take h)) (by unfold maxLen;omega) (by omega) (Nat.le_refl _) ?_;intro v7 w7 o7 g7 n7 b7;obtain ⟨a7,c7,rfl⟩:=slice_form o7;have O7:Hid (w7.ownsRow wr.heap.size 3 1 (.slice a7 q c7) q ((zJ l).take q)):=hide (by first | exact o7 | simpa using o7);have G7:Hid (wr.grownBy w7 none):=hide g7;clear o7 g7 n7 b7)
             | (at_builtin;refine wpList_append_own_at _ rfl _ _ 22 rfl wr.heap.size 3 ii (.int .i64 0) 1 8 Tryz.underlying22 hii Vx QY Vy rfl (by decide) (.slice a7 q c7) q ((zJ l).take q) rfl (O7.out.alloc _) ⟨_,0,none⟩ 1 1 [_] rfl rfl (cell_one_new _ _ _) (fun x hx=>by simp at hx;subst hx;rfl) (by unfold maxLen;omega) (by omega) (by have:=G7.out.size;simp;omega) ?_;intro v8 w8 o8 g8 n8 b8;obtain ⟨ZE,c8,rfl⟩:=aP o8 (by omega);have l8:=(ko o8).1;have Gg:=hide (Yl G7.out O7.out g8);have O8:=hide o8;have G8:=hide g8;clear o8 g8 n8 b8)
             | (at_builtin;refine wpList_append_own_at _ rfl _ _ 22 rfl wr.heap.size 3 ii (.int .i64 0) 1 8 Tryz.underlying22 hii Vx QY Vy rfl (by decide) (.slice (some ⟨ZE,0,none⟩) (q+1) c8) (q+1) _ rfl O8.out ⟨g,_,none⟩ _ _ _ rfl (by first | exact hdl | (rw[hdl];simp;done)) (by first | exact xU Gg.out NV.out HDC.out | exact fun j u h=>absurd h (wW hdl rfl)) (fun u h=>vW l u (List.mem_of_mem_drop h)) (by unfold maxLen;omega) (by omega) Gg.out.size ?_;intro v9 w9 o9 g9 n9 b9;have O9:=hide o9;have G9:=hide g9;clear o9 g9 n9 b9))
           obtain ⟨g',c',rfl,Ri⟩:=HN.out.put (k:=q) hqk G7.out O7.out G8.out O8.out G9.out (by have h:=O9.out;first | exact h | (rw[show q+1+(q-q)=q+1 by omega] at h;exact h))
           have VQ:=hide Ri
           clear Ri O7 G7 O8 G8 O9 G9 Gg
           go_roundw
           case rel=>exact ⟨q+1,_,_,_,by omega,rfl,(by first | rfl | exact congrArg (Value.int .i64) (by omega)),fun h=>by omega,VQ⟩
           case measure=>first | (simp[intOf];done) | (simp[intOf];omega)
         · go_wp2_with (first
             | (go_at_call 7;refine (HP.out _).mono ?_;rintro e w7 ⟨rfl,hw7⟩;have qx:=hw7.symm;subst qx;clear hw7)
             | (at_builtin;refine wpList_append_own_at _ rfl _ _ 22 rfl wr.heap.size 3 ii (.int .i64 0) 1 8 Tryz.underlying22 hii Vx QY Vy rfl (by decide) (.slice none 0 0) 0 [] rfl (World.ownsRow_nil _ _ _ _) ⟨g,0,none⟩ _ _ _ rfl htl HTC.out (fun u h=>vW l u (List.mem_of_mem_take h)) (by unfold maxLen;omega) (by omega) (Nat.le_refl _) ?_;intro v7 w7 o7 g7 n7 b7;obtain ⟨a7,c7,rfl⟩:=slice_form o7;have O7:Hid (w7.ownsRow wr.heap.size 3 1 (.slice a7 q c7) q ((zJ l).take q)):=hide (by first | exact o7 | simpa using o7);have G7:Hid (wr.grownBy w7 none):=hide g7;clear o7 g7 n7 b7)
             | (at_builtin;refine wpList_append_own_at _ rfl _ _ 22 rfl wr.heap.size 3 ii (.int .i64 0) 1 8 Tryz.underlying22 hii Vx QY Vy rfl (by decide) (.slice a7 q c7) q ((zJ l).take q) rfl (O7.out.alloc _) ⟨_,0,none⟩ 1 1 [_] rfl rfl (cell_one_new _ _ _) (fun x hx=>by simp at hx;subst hx;rfl) (by unfold maxLen;omega) (by omega) (by have:=G7.out.size;simp;omega) ?_;intro v8 w8 o8 g8 n8 b8;obtain ⟨ZE,c8,rfl⟩:=aP o8 (by omega);have l8:=(ko o8).1;have Gg:=hide (Yl G7.out O7.out g8);have O8:=hide o8;have G8:=hide g8;clear o8 g8 n8 b8)
             | (at_builtin;refine wpList_append_own_at _ rfl _ _ 22 rfl wr.heap.size 3 ii (.int .i64 0) 1 8 Tryz.underlying22 hii Vx QY Vy rfl (by decide) (.slice (some ⟨ZE,0,none⟩) (q+1) c8) (q+1) _ rfl O8.out ⟨g,_,none⟩ _ _ _ rfl (by first | exact hdl | (rw[hdl];simp;done)) (by first | exact xU Gg.out NV.out HDC.out | exact fun j u h=>absurd h (wW hdl rfl)) (fun u h=>vW l u (List.mem_of_mem_drop h)) (by unfold maxLen;omega) (by omega) Gg.out.size ?_;intro v9 w9 o9 g9 n9 b9;have O9:=hide o9;have G9:=hide g9;clear o9 g9 n9 b9))
           obtain ⟨g',c',rfl,Ri⟩:=HN.out.put (k:=k) hqk G7.out O7.out G8.out O8.out G9.out (by have h:=O9.out;first | exact h | (rw[show q+1+(k-q)=k+1 by omega] at h;exact h))
           have VQ:=hide Ri
           clear Ri O7 G7 O8 G8 O9 G9 Gg
           go_roundw
           case rel=>exact ⟨k+1,_,_,_,by omega,rfl,(by first | rfl | exact congrArg (Value.int .i64) (by omega)),fun h=>by omega,VQ⟩
           case measure=>first | (simp[intOf];done) | (simp[intOf];omega)
       · rcases hcap with ⟨-,hkz⟩ | hcq
         · exact absurd hkz hz
         go_wp2_with (first
           | (at_builtin;refine wpList_append_own_at _ rfl _ _ 22 rfl wr.heap.size 3 ii (.int .i64 0) 1 8 Tryz.underlying22 hii Vx QY Vy rfl (by decide) (.slice none 0 0) 0 [] rfl (World.ownsRow_nil _ _ _ _) ⟨_,0,none⟩ 1 1 [_] rfl rfl (cell_one_new _ _ _) (fun x hx=>by simp at hx;subst hx;rfl) (by unfold maxLen;omega) (by omega) (by simp) ?_;intro v8 w8 o8 g8 n8 b8;obtain ⟨ZE,c8,rfl⟩:=aP o8 (by omega);have l8:=(ko o8).1;have Gg:Hid (Below wr.heap.size wr w8):=hide (((Below.refl wr.heap.size wr).alloc (Nat.le_refl _) _).grown g8 (by simp) (fun k e=>by cases e));have O8:=hide o8;have G8:=hide g8;clear o8 g8 n8 b8)
           | (at_builtin;refine wpList_append_own_at _ rfl _ _ 22 rfl wr.heap.size 3 ii (.int .i64 0) 1 8 Tryz.underlying22 hii Vx QY Vy rfl (by decide) (.slice (some ⟨ZE,0,none⟩) 1 c8) 1 _ rfl O8.out ⟨g,_,none⟩ _ _ _ rfl (by first | exact hdl | (rw[hdl];simp;done)) (by first | exact xU Gg.out NV.out HDC.out | exact fun j u h=>absurd h (wW hdl rfl)) (fun u h=>vW l u (List.mem_of_mem_drop h)) (by unfold maxLen;omega) (by omega) Gg.out.size ?_;intro v9 w9 o9 g9 n9 b9;have O9:=hide o9;have G9:=hide g9;clear o9 g9 n9 b9))
         have O9':w9.ownsRow wr.heap.size 3 1 v9 (k+1) ((zJ l).take 0++[.int .i64 (k:Int)]++(zJ l).drop 0):=by
           have h:=O9.out
           rw[show 1+k=k+1 by omega] at h
           exact h
         obtain ⟨g',c',rfl,Ri⟩:=HN.out.put (q:=0) (w7:=wr) (a7:=none) (c7:=0) hqk ⟨rfl,rfl,rfl,Nat.le_refl _,fun _ _ _=>rfl⟩ (World.ownsRow_nil _ _ _ _) G8.out O8.out G9.out O9'
         have VQ:=hide Ri
         clear Ri O9' O8 G8 O9 G9 Gg
         go_roundw
         case rel=>exact ⟨k+1,_,_,_,by omega,rfl,(by first | rfl | exact congrArg (Value.int .i64) (by omega)),fun h=>by omega,VQ⟩
         case measure=>first | (simp[intOf];done) | (simp[intOf];omega)
   · obtain rfl:k=6:=by omega
     obtain ⟨g,cap,hlo⟩:=aP HN.out.row (by omega)
     injection hlo with h1 h2 h3
     subst h1
     obtain rfl:=h3
     obtain ⟨w3,hw3⟩:∃ u,u=wr:=⟨_,rfl⟩
     subst hw3
     have DN:=hide HN.out.nm.six
     have HNC:Hid (∀ j,j<6→w3.cell? ⟨g,j,none⟩=some (.int .i64 (bS l j:Int))):=hide fun j hj=>FV HN.out.row (by unfold zJ;rw[List.getElem?_map,HN.out.nm.get hj];rfl)
     have NV:Hid (g<w3.heap.size):=hide (HN.out.row.lt g rfl).2
     have HGF:Hid (¬ F g):=hide fun q=>by have:=HR2.out.lt g q;have:=(HN.out.row.lt g rfl).1;omega
     have HB3:=hide (HB2.out.trans (HN.out.bA.mono hs2))
     have HR3:=hide (HR2.out.below HN.out.bA)
     have hs3:=HB3.out.size
     clear h2 hk0 Yd hk HN HR2 HB2
     have HA0:=hide (pO.zero w3 l (rW rn rs))
     rw[show ((6:Nat):Int)=6 from rfl]
     go_wp2_with fail
     go_loopw [11,13] (fun ls i wa=>∃ (m:Nat) (lo:Option Addr) (lc:Nat),m≤6∧ls = .slice lo m lc∧i = .int .i64 (m:Int)∧Hid (pO w3 l (rW rn rs) m 0 lo lc wa)) (fun _ i _=>6-(intOf i).toNat)
     case atStart=>exact ⟨0,none,0,by omega,rfl,rfl,HA0⟩
     case round =>
       clear HA0
       obtain ⟨m,lo,lc2,hm6,rfl,rfl,HA⟩:=hrel
       obtain ⟨wa,hwa⟩:∃ u,u=wr:=⟨_,rfl⟩
       subst hwa
       by_cases hm:m<6
       · have hmi:(m:Int)<6:=by omega
         go_wp2_with fail
         go_loopw [14,15] (fun z k wb=>∃ (j:Nat) (s:S),j≤m∧z = .string ⟨s.toArray⟩∧k = .int .i64 (j:Int)∧s.length≤100∧Hid (s=ahead (bS l) (rW rn rs) m j)∧Hid (pO w3 l (rW rn rs) m j lo lc2 wb)) (fun _ k _=>m-(intOf k).toNat)
         case atStart=>exact ⟨0,[],by omega,rfl,rfl,by simp,hide (by simp[ahead,Hv.bM]),HA⟩
         case round =>
           clear HA
           obtain ⟨j,s,hjm,rfl,rfl,Yg,HS,HA⟩:=hrel
           by_cases hj:j<m
           · have hji:(j:Int)<(m:Int):=by omega
             by_cases h6r:6+m<rn
             · obtain ⟨a,rfl,hr1,hr2⟩:=HRS.out (6+m) h6r
               have hc:=(HB3.out.trans (HA.out.bA.mono hs3)).cell (World.block_lt_of_cell? w _ (HRW.out a (6+m) rfl h6r)) |>.trans (HRW.out a (6+m) rfl h6r)
               obtain ⟨hsv,abU⟩:=Xr (rs (6+m))
               have hp:=xH (rs (6+m)) 64 (by omega) (by omega) hr1 hr2 wr
               rw[hsv] at hp
               have HP:=hide hp
               clear hp hsv
               have j0:(0:Int)≤(j:Int):=by omega
               have j64:(j:Int)≤64:=by omega
               cases hbt:M0 (Ue (rs (6+m))) j with
               | false =>
                 have hb0:=aaj abU hbt
                 have hnb:rW rn rs m j=false:=by unfold rW;rw[hbt];simp
                 have HA2:=hide (HA.out.skip hnb)
                 have HS2:Hid (s=ahead (bS l) (rW rn rs) m (j+1)):=hide (by rw[tu hnb];exact HS.out)
                 clear hbt hnb
                 go_wp2_with (go_at_call 7;refine HP.out.mono ?_;rintro e w7 ⟨rfl,hw7⟩;have qx:=hw7.symm;subst qx;clear hw7)
                 go_roundw
                 case rel=>first | exact ⟨j+1,by omega,by omega,HS2,HA2⟩ | exact ⟨j+1,s,by omega,rfl,(by first | rfl | exact congrArg (Value.int .i64) (by omega)),Yg,HS2,HA2⟩
                 case measure=>first | (simp[intOf];done) | (simp[intOf];omega)
               | true =>
                 have hb0:=WW abU hbt
                 have hnb:rW rn rs m j=true:=by unfold rW;rw[hbt];simp[h6r]
                 have HNB:=hide hnb
                 clear hbt hnb
                 have hnj:=(HA.out.bA.cell (p:=⟨g,j,none⟩) NV.out).trans (HNC.out j (by omega))
                 have hnm:=(HA.out.bA.cell (p:=⟨g,m,none⟩) NV.out).trans (HNC.out m hm)
                 have Yc:=DN.out.lt j (by omega)
                 have Sq:=DN.out.lt m hm
                 obtain ⟨M,hM1,hM2⟩:=HA.out.Tp
                 have hce:=LB hM1 Sq Yc
                 have hfr:=ak hM1 (bS l m*6+bS l j)
                 have HA2:=hide (HA.out.take HNB.out hj Yc).drew
                 have HS2:Hid (s++[110,101,101,100,115,32]++[cK (bS l j)]++[32,49,10]=ahead (bS l) (rW rn rs) m (j+1)):=hide (by rw[Ah HNB.out,← HS.out])
                 have ac7:(s++[110,101,101,100,115,32]++[cK (bS l j)]++[32,49,10]).length≤100:=by
                   rw[HS2.out]
                   have:=DV (bS l) (rW rn rs) m (j+1)
                   omega
                 have HSE:Hid ((⟨s.toArray⟩:ByteArray)++⟨([110,101,101,100,115,32]:S).toArray⟩++⟨([cK (bS l j)]:S).toArray⟩++⟨([32,49,10]:S).toArray⟩=⟨(s++[110,101,101,100,115,32]++[cK (bS l j)]++[32,49,10]).toArray⟩):=hide (by
                   rw[← gq,← gq,← gq])
                 clear hM1 hM2
                 go_wp2_with (first
                   | (go_at_call 7;refine HP.out.mono ?_;rintro e w7 ⟨rfl,hw7⟩;have qx:=hw7.symm;subst qx;clear hw7)
                   | (go_at_call 8;refine (ug (bS l j) Yc _).mono ?_;rintro e w7 ⟨rfl,hw7⟩;have qx:=hw7.symm;subst qx;clear hw7))
                 have acU:(bS l j:Int)<6:=by omega
                 have acW:(bS l m:Int)<6:=by omega
                 have acT:(0:Int)≤(bS l j:Int):=by omega
                 have acV:(0:Int)≤(bS l m:Int):=by omega
                 go_region
                 all_goals go_wp2_with fail
                 all_goals go_roundw
                 case rel=>first | exact ⟨j+1,by omega,by omega,HS2,HA2⟩ | exact ⟨j+1,_,by omega,congrArg Value.string HSE.out,(by first | rfl | exact congrArg (Value.int .i64) (by omega)),ac7,HS2,HA2⟩
                 case measure=>first | (simp[intOf];done) | (simp[intOf];omega)
                 done
             · have hnb:rW rn rs m j=false:=by unfold rW;simp[h6r]
               have HA2:=hide (HA.out.skip hnb)
               have HS2:Hid (s=ahead (bS l) (rW rn rs) m (j+1)):=hide (by rw[tu hnb];exact HS.out)
               clear hnb
               go_wp2_with fail
               go_roundw
               case rel=>first | exact ⟨j+1,by omega,by omega,HS2,HA2⟩ | exact ⟨j+1,s,by omega,rfl,(by first | rfl | exact congrArg (Value.int .i64) (by omega)),Yg,HS2,HA2⟩
               case measure=>first | (simp[intOf];done) | (simp[intOf];omega)
           · obtain rfl:j=m:=by omega
             have hnm:=(HA.out.bA.cell (p:=⟨g,j,none⟩) NV.out).trans (HNC.out j hm)
             have Sq:=DN.out.lt j hm
             have HRE:Hid ((⟨([114,117,110,32,97,100,100,32,47,118,97,114,47,111,114,100,101,114,32]:S).toArray⟩:ByteArray)++⟨([cK (bS l j)]:S).toArray⟩++⟨([10]:S).toArray⟩=⟨(Hv.rY (cK (bS l j))++[10]).toArray⟩):=hide (by
               rw[← gq]
               exact (gq _ _).symm.trans (by simp[Hv.rY]))
             have Q8:=hide (LA l (rW rn rs) j)
             rw[← HS.out] at Q8
             have NZ:=hide HA.out.drew.row
             obtain ⟨xs,hxs⟩:∃ xs,((List.range j).map fun q=>aO (Hv.fU (bS l) (rW rn rs) q))=xs:=⟨_,rfl⟩
             have HXS:=hide hxs
             rw[hxs] at NZ
             have wQ:Hid (w3.heap.size+1≤wr.drew.heap.size):=hide HA.out.zk
             have HX1:Hid (j+1≤maxLen):=hide (by unfold maxLen;omega)
             have HX2:Hid ((j+1)*16≤140737488355328):=hide (by omega)
             clear hxs
             go_wp2_with fail
             go_region_held_law (fun w'=>w'.cell? ⟨g,j,none⟩=some (.int .i64 (bS l j:Int)))
               (first | assumption | exact Bn _ (by assumption))
               (first
                 | (refine bF rfl _ _ 28 rfl (w3.heap.size+1) 9 i0 (.string ByteArray.empty) 1 16 Tryz.underlying28 hi hz0 hz1 hz2 rfl (by decide) (.slice lo j lc2) j xs (by simp[Act.eval]) ((own_below NZ.out Gg.out).alloc _) ⟨w8.heap.size,0,none⟩ 1 1 [aO (Hv.fU (bS l) (rW rn rs) j)] (by simp[Act.eval]) rfl (cell_one_new _ _ _) (fun x hx=>by simp at hx;subst hx;rfl) HX1.out HX2.out (Oj _ wQ.out Gg.out) ?_;intro v9 w9 o9 g9 n9 b9;obtain ⟨gv,cv,rfl⟩:=aP o9 (by omega);have c9:=g9.cell (Bn _ c8) (fun e=>by have h1:w3.heap.size+1≤g:=(NZ.out.lt _ e.symm).1;have h2:=NV.out;omega);have O9:=hide o9;have G9:=hide g9;clear o9 g9 n9 b9)
                 | (go_at_call 8;refine (ug (bS l j) Sq _).mono ?_;rintro e w7 ⟨rfl,hw7⟩;have qx:=hw7.symm;subst qx;clear hw7)
                 | (go_at_call 9;rw[HRE.out];refine (yC [cK (bS l j)] s (Hv.rY (cK (bS l j))++[10]) 1 (by omega) (by simp) (by omega) (by simp[Hv.rY]) _).mono ?_;rintro e w8 ⟨rfl,Nf⟩;have Gg:=hide Nf;have hs8:=Nf.size;have c8:=Ld Nf (by assumption);rw[Q8.out];clear Nf))
             have HA3:=hide (HA.out.drew.next Gg.out G9.out (by rw[HXS.out];exact O9.out))
             clear O9 G9 c9 c8 Gg hs8
             go_wp2_with fail
             go_roundw
             case rel=>first | exact ⟨j+1,by omega,by omega,HA3⟩ | exact ⟨j+1,_,_,by omega,rfl,(by first | rfl | exact congrArg (Value.int .i64) (by omega)),HA3⟩
             case measure=>first | (simp[intOf];done) | (simp[intOf];omega)
       · obtain rfl:m=6:=by omega
         obtain ⟨gl,aeu,hlo⟩:=aP HA.out.row (by omega)
         injection hlo with h1 h2 h3
         subst h1
         obtain rfl:=h3
         clear h2 hm6 hm
         obtain ⟨M,hM1,hM2⟩:=HA.out.Tp
         have yt:=hide hM1
         have Kn:Hid (∀ a b,M a b=true ↔ Hv.Need (bS l) (rW rn rs) a b):=hide hM2.need
         have HBA:Hid (Below w3.heap.size w3 wa):=hide HA.out.bA
         have Vr:Hid (∀ j,j<6→wa.cell? ⟨gl,j,none⟩=some (aO (Hv.fU (bS l) (rW rn rs) j))):=hide fun j hj=>FV HA.out.row (by rw[List.getElem?_map,List.getElem?_range hj];rfl)
         have aaM:Hid (gl<wa.heap.size):=hide (HA.out.row.lt gl rfl).2
         have aaN:Hid (w3.heap.size+1≤gl):=hide (HA.out.row.lt gl rfl).1
         clear hM1 hM2
         obtain ⟨gn,hgn,Yb⟩:∃ gn:Nat,pk lacks 6=(gn:Int)∧gn<6:=by
           have:=Yo lacks 5
           obtain ⟨q,h1,h2⟩:=this
           exact ⟨q,by rw[← h1];rfl,by omega⟩
         have hp:=xH lacks 6 (by omega) (by omega) hl1 hl2 wa
         rw[hgn] at hp
         have HP:=hide hp
         clear hp hgn
         rw[show ((6:Nat):Int)=6 from rfl]
         go_wp2_with (go_at_call 7;refine HP.out.mono ?_;rintro e w7 ⟨rfl,hw7⟩;have qx:=hw7.symm;subst qx;clear hw7)
         have HAO:Hid (uT w l (rW rn rs) M w3.heap.size g gl F 7000000 hb [] [] wa):=hide ⟨yt.out,fun j hj=>(HBA.out.cell (p:=⟨g,j,none⟩) NV.out).trans (HNC.out j hj),Vr.out,⟨by have:=blt yt.out;omega,by have:=HBA.out.size;have:=NV.out;omega,aaM.out⟩,HR3.out.below HBA.out,⟨fun q=>by have:=HR3.out.lt _ q;omega,HGF.out,fun q=>by have:=HR3.out.lt _ q;have:=aaN.out;omega⟩,Ae.out,HB3.out.trans (HBA.out.mono hs3)⟩
         have aa2:=hide (jN.zero wa (bS l) (rW rn rs) gn)
         have HW0:Hid (false=kV M (bS l) gn 0):=hide rfl
         clear yt HBA Vr aaM aaN HGF HR3 HB3 Ae HNC NV hs3
         obtain ⟨wc,hwc⟩:∃ u,u=wa:=⟨_,rfl⟩
         subst hwc
         go_wp2_with fail
         go_loopw [17,18,19] (fun wt ss i wr=>∃ (m n lc:Nat) (lo:Option Addr) (b:Bool),m≤6∧n≤m∧wt = .bool b∧ss = .slice lo n lc∧i = .int .i64 (m:Int)∧Hid (b=kV M (bS l) gn m)∧Hid (jN wc (bS l) (rW rn rs) gn m n lc lo wr)) (fun _ _ i _=>6-(intOf i).toNat)
         case atStart=>exact ⟨0,0,0,none,false,by omega,by omega,rfl,rfl,rfl,HW0,aa2⟩
         case round =>
           clear aa2 HW0
           obtain ⟨m,n,lc,lo,b,hm6,hnm,rfl,rfl,rfl,HW,Ro⟩:=hrel
           by_cases hm:m<6
           · have hmi:(m:Int)<6:=by omega
             by_cases hmg:m=gn
             · subst hmg
               have Rp:=hide Ro.out.skip
               have HW2:Hid (b=kV M (bS l) m (m+1)):=hide (by rw[MG];exact HW.out)
               go_wp2_with fail
               go_roundw
               case rel=>exact ⟨m+1,n,lc,lo,b,by omega,by omega,rfl,rfl,(by first | rfl | exact congrArg (Value.int .i64) (by omega)),HW2,Rp⟩
               case measure=>first | (simp[intOf];done) | (simp[intOf];omega)
             · have aeH : ¬ (m:Int)=(gn:Int):=by omega
               obtain ⟨y,hy⟩:∃ y,Hv.fU (bS l) (rW rn rs) m=y:=⟨_,rfl⟩
               have HY:=hide hy
               have c0:wr.cell? ⟨gl,m,none⟩=some (.string ⟨y.toArray⟩):=by rw[← hy];exact (Ro.out.bA.cell (p:=⟨gl,m,none⟩) HAO.out.lt.2.2).trans (HAO.out.lst m hm)
               clear hy
               obtain ⟨xs,hxs⟩:∃ xs,((kG gn m).map fun j=>aO (Hv.fU (bS l) (rW rn rs) j))=xs:=⟨_,rfl⟩
               have HXS:=hide hxs
               have NZ:=hide Ro.out.row
               rw[hxs] at NZ
               have wQ:=hide Ro.out.bA.size
               have Sq:=DN.out.lt m hm
               have Sk:=DN.out.lt gn Yb
               have MS:Hid (m≠gn):=hide hmg
               have HX1:Hid (n+1≤maxLen):=hide (by unfold maxLen;omega)
               clear hxs
               cases b with
               | true =>
                 have HW2:Hid (true=kV M (bS l) gn (m+1)):=hide (by rw[CB MS.out,← HW.out];rfl)
                 go_wp2_with (at_builtin;refine wpList_append_own_at _ rfl _ _ 28 rfl wc.heap.size 9 i0 (.string ByteArray.empty) 1 16 Tryz.underlying28 hi hz0 hz1 hz2 rfl (by decide) (.slice lo n lc) n xs rfl (NZ.out.alloc _) ⟨_,0,none⟩ 1 1 [_] rfl rfl (cell_one_new _ _ _) (fun x hx=>by simp at hx;subst hx;rfl) HX1.out (by omega) (by have:=wQ.out;simp;omega) ?_;intro v8 w8 o8 g8 n8 b8;obtain ⟨gv,cv,rfl⟩:=aP o8 (by omega);have O8:=hide o8;have G8:=hide g8;clear o8 g8 n8 b8)
                 go_region
                 all_goals go_wp2_with fail
                 have Rp:=hide (Ro.out.next MS.out G8.out (by rw[HXS.out,HY.out];exact O8.out)).drew
                 clear O8 G8
                 go_roundw
                 case rel=>exact ⟨m+1,n+1,_,_,true,by omega,by omega,rfl,rfl,(by first | rfl | exact congrArg (Value.int .i64) (by omega)),HW2,Rp⟩
                 case measure=>first | (simp[intOf];done) | (simp[intOf];omega)
               | false =>
                 have HW2:Hid (M (bS l m) (bS l gn)=kV M (bS l) gn (m+1)):=hide (by rw[CB MS.out,← HW.out];rfl)
                 have acU:(bS l m:Int)<6:=by omega
                 have acW:(bS l gn:Int)<6:=by omega
                 have acT:(0:Int)≤(bS l m:Int):=by omega
                 have acV:(0:Int)≤(bS l gn:Int):=by omega
                 go_wp2_with (at_builtin;refine wpList_append_own_at _ rfl _ _ 28 rfl wc.heap.size 9 i0 (.string ByteArray.empty) 1 16 Tryz.underlying28 hi hz0 hz1 hz2 rfl (by decide) (.slice lo n lc) n xs rfl (NZ.out.alloc _) ⟨_,0,none⟩ 1 1 [_] rfl rfl (cell_one_new _ _ _) (fun x hx=>by simp at hx;subst hx;rfl) HX1.out (by omega) (by have:=wQ.out;simp;omega) ?_;intro v8 w8 o8 g8 n8 b8;obtain ⟨gv,cv,rfl⟩:=aP o8 (by omega);have O8:=hide o8;have G8:=hide g8;clear o8 g8 n8 b8;have AO8:=HAO.out.below ((Ro.out.bA.alloc wQ.out (.cells #[.string ⟨y.toArray⟩] 9)).grown G8.out (by have:=wQ.out;simp;omega) (fun k e=>(NZ.out.lt k e).1));have c1:=AO8.nmc m hm;have c2:=AO8.nmc gn Yb;have c3:=LB AO8.Tp Sq Sk;clear AO8)
                 go_region
                 all_goals go_wp2_with fail
                 have Rp:=hide (Ro.out.next MS.out G8.out (by rw[HXS.out,HY.out];exact O8.out)).drew
                 clear O8 G8
                 go_roundw
                 case rel=>exact ⟨m+1,n+1,_,_,_,by omega,by omega,rfl,rfl,(by first | rfl | exact congrArg (Value.int .i64) (by omega)),HW2,Rp⟩
                 case measure=>first | (simp[intOf];done) | (simp[intOf];omega)
           · obtain rfl:m=6:=by omega
             have XG:=hide (HAO.out.below Ro.out.bA)
             have HRD:=hide (Qf (n:=n) (lo:=lo) (lc:=lc) (xs:=(kG gn 6).map (Hv.fU (bS l) (rW rn rs))) (by rw[List.length_map];exact Ro.out.num) (by rw[List.map_map];exact Ro.out.row))
             have uY:=hide (fun g' (hg':(Value.slice lo n lc).ownBlock=some g')=>(Ro.out.row.lt g' hg').1)
             obtain ⟨wb,hwb⟩:∃ u,u=wr:=⟨_,rfl⟩
             subst hwb
             rw[show ((6:Nat):Int)=6 from rfl]
             cases b
             case' true =>
               obtain ⟨iw,Le,hgi,hnb⟩:=J4 Kn.out DN.out Yb HW.out.symm
               have hS6:Hv.jE (kG gn 6):=Hv.yO gn
               have hck:=Hv.I4 DN.out (rW rn rs) hS6 (i:=iw) (by unfold kG;rw[List.mem_filter];exact ⟨by simpa using Le,by simp;omega⟩) hgi hnb (by unfold kG;rw[List.mem_filter];simp)
               have hlen:1≤(kG gn 6).length:=by have:=Hv.yO gn;exact List.length_pos_of_mem (a:=iw) (by unfold kG;rw[List.mem_filter];exact ⟨by simpa using Le,by simp;omega⟩)
               have Q9:=hide (wE (F:=F) _ _ 11 (by decide) hck (by rw[List.length_map];have:=EC gn 6;omega) (fun q hq=>by obtain ⟨j,hj,rfl⟩:=List.mem_map.1 hq;have:=Hv.rE DN.out (rW rn rs) (i:=j) (hS6.lt j hj);omega) qz (Hv.BL DN.out (rW rn rs) hS6 hlen) wb XG.out.run HRD.out (fun g' hg' q=>by have:=uY.out g' hg';have:=HAO.out.run.lt g' q;omega))
               clear hck hS6 hlen hnb hgi Le
               go_wp2_with fail
               refine Q9.out.mono ?_
               rintro e w7 ⟨rfl,q1,q2⟩
               have Yx:=hide (XG.out.far q1 q2)
               clear q1 q2 Q9 XG
               go_wp2_with fail
               refine (om qz w7 Yx.out.run).mono ?_
               rintro e w8 ⟨v,rfl,q0,q1,q2⟩
               obtain ⟨va,vc,rfl⟩:=slice_form q0
               have HAK:=hide (Yx.out.far q1 q2)
               clear q0 q1 q2 Yx
               obtain ⟨wk,hwk⟩:∃ u,u=w8:=⟨_,rfl⟩
               subst hwk
               rw[show ([]:VM Hv.PD).length=0 from rfl]
             case' false =>
               have HAK:=XG
               obtain ⟨wk,hwk⟩:∃ u,u=wb:=⟨_,rfl⟩
               subst hwk
             all_goals
               obtain ⟨pl,D',q,k1,k2,k3,k4,k5,k6,k7,k8⟩:=Hv.TI DN.out (rW rn rs)
               have Q9:=hide (lu (F:=F) _ _ pl D' _ k1 k2 k3 (fun x hx=>by obtain ⟨j,hj,rfl⟩:=List.mem_map.1 hx;have:=Hv.rE DN.out (rW rn rs) (i:=j) (by simpa using hj);omega) qz (Hv.BL DN.out (rW rn rs) Hv.xK (by decide)) (by omega) wk HAK.out.run (HAK.out.reads (c:=lc2)) (fun g' hg' q=>by cases hg';exact HAK.out.off.2.2 q))
               have Rh:=hide (IZ DN.out Hv.xK k4 (q:=q) (by omega))
               have HOD:=hide k4
               have HQL:=hide k6
               have HQN:=hide k7
               have HQP:=hide k8
               clear k1 k2 k3 k4 k6 k7 k8
               go_wp2_with fail
               refine Q9.out.mono ?_
               rintro e w9 ⟨F',rfl,q1,q2,q3⟩
               have HA9:=hide (HAK.out.begun q1 q2 q3)
               clear q1 q2 q3 Q9 HAK
               go_wp2_with fail
               refine (Jw Rh.out Hv.bG (by decide) w9 HA9.out.run).mono ?_
               rintro e w10 ⟨rfl,q1,q2⟩
               have wN:=hide (HA9.out.far q1 q2)
               rw[WY]
               have hx6:(q.map cK).length=6:=by rw[List.length_map];exact k5
               have HX:Hid (∀ i (hi:i<6),∃ a,q[i]? = some a∧a<6∧∃ (h:i<(q.map cK).length),((q.map cK)[i]'h).toNat=97+a):=hide fun i hi=>⟨q[i]'(by omega),List.getElem?_eq_getElem _,HQL.out _ (List.getElem_mem _),by rw[List.length_map];omega,by rw[List.getElem_map];exact WJ (HQL.out _ (List.getElem_mem _))⟩
               obtain ⟨xo,hxo⟩:∃ xo,q.map cK=xo:=⟨_,rfl⟩
               rw[hxo] at hx6 HX ⊢
               clear hxo q1 q2 HA9
               go_wp2_with fail
               go_loopw [24] (fun i wr=>∃ m:Nat,m≤6∧i = .int .i64 (m:Int)∧Hid (uT w l (rW rn rs) M w3.heap.size g gl F' (7000000+3000000) hb D' [(Hv.bG,q.map cK)] wr)) (fun i _=>6-(intOf i).toNat)
               case atStart=>exact ⟨0,by omega,rfl,wN⟩
               case round =>
                 clear wN
                 obtain ⟨m,hm6,rfl,wN⟩:=hrel
                 obtain ⟨wm,hwm⟩:∃ u,u=wr:=⟨_,rfl⟩
                 subst hwm
                 by_cases hm:m<6
                 · have hmi:(m:Int)<6:=by omega
                   go_wp2_with fail
                   go_loopw [25] (fun i wr=>∃ k:Nat,m<k∧k≤6∧i = .int .i64 (k:Int)∧Hid (uT w l (rW rn rs) M w3.heap.size g gl F' (7000000+3000000) hb D' [(Hv.bG,q.map cK)] wr)) (fun i _=>6-(intOf i).toNat)
                   case atStart=>exact ⟨m+1,by omega,by omega,(by first | rfl | exact congrArg (Value.int .i64) (by omega)),wN⟩
                   case round =>
                     clear wN
                     obtain ⟨k,hmk,Yd,rfl,wN⟩:=hrel
                     by_cases hk:k<6
                     · have hki:(k:Int)<6:=by omega
                       obtain ⟨a,ha,ha6,hal,hav⟩:=HX.out m hm
                       obtain ⟨b',hb,hb6,hbl,hbv⟩:=HX.out k hk
                       obtain ⟨hMf,hab⟩:=ab5 Kn.out HQP.out HQN.out hmk ha hb
                       have cM:=LB wN.out.Tp ha6 hb6
                       rw[hMf] at cM
                       obtain ⟨ca,hca,hcx⟩:∃ ca,(⟨xo.toArray⟩:ByteArray)[m]'hal=ca∧xo[m]=ca:=⟨_,rfl,rfl⟩
                       obtain ⟨cb,hcb,hdx⟩:∃ cb,(⟨xo.toArray⟩:ByteArray)[k]'hbl=cb∧xo[k]=cb:=⟨_,rfl,rfl⟩
                       rw[hcx] at hav
                       rw[hdx] at hbv
                       have e1:(ca.toNat:Int)-97=(a:Int):=by omega
                       have e2:(cb.toNat:Int)-97=(b':Int):=by omega
                       have e3:97≤(ca.toNat:Int):=by omega
                       have e4:97≤(cb.toNat:Int):=by omega
                       have e5:(ca.toNat:Int)≤102:=by omega
                       have e6:(cb.toNat:Int)≤102:=by omega
                       have a1:(0:Int)≤(a:Int):=by omega
                       have a2:(a:Int)≤5:=by omega
                       have b1:(0:Int)≤(b':Int):=by omega
                       have b2:(b':Int)≤5:=by omega
                       have aez:((a:Int)==(b':Int))=false:=by simp;omega
                       have a3 : ¬ (a:Int)<0:=by omega
                       have a4 : ¬ 5<(a:Int):=by omega
                       have b3 : ¬ (b':Int)<0:=by omega
                       have b4 : ¬ 5<(b':Int):=by omega
                       clear ha hb hMf hcx hdx hav hbv
                       go_wp2_with fail
                       go_roundw
                       case rel=>exact ⟨k+1,by omega,by omega,(by first | rfl | exact congrArg (Value.int .i64) (by omega)),wN⟩
                       case measure=>first | (simp[intOf];done) | (simp[intOf];omega)
                     · obtain rfl:k=6:=by omega
                       rw[show ((6:Nat):Int)=6 from rfl]
                       go_wp2_with fail
                       go_roundw
                       case rel=>exact ⟨m+1,by omega,(by first | rfl | exact congrArg (Value.int .i64) (by omega)),wN⟩
                       case measure=>first | (simp[intOf];done) | (simp[intOf];omega)
                 · obtain rfl:m=6:=by omega
                   rw[show ((6:Nat):Int)=6 from rfl]
                   have n0:=wN.out.nmc gn Yb
                   have Sk:=DN.out.lt gn Yb
                   go_wp2_with (go_at_call 8;refine (ug (bS l gn) Sk _).mono ?_;rintro e w7 ⟨rfl,hw7⟩;have qx:=hw7.symm;subst qx;clear hw7)
                   rw[show ((⟨#[45]⟩:ByteArray)++⟨#[cK (bS l gn)]⟩)=⟨([45,cK (bS l gn)]:S).toArray⟩ from gq [45] [cK (bS l gn)]]
                   obtain ⟨mt,hmt⟩:∃ mt:S,[45,cK (bS l gn)]=mt:=⟨_,rfl⟩
                   have HMT:=hide hmt
                   have hml:∀ q∈[mt],q.length≤100000:=fun q hq=>by
                     have e:q=mt:=by simpa using hq
                     rw[e,← hmt];simp
                   rw[hmt]
                   have hb3:=(Below.refl wm.heap.size wm).alloc (Nat.le_refl _) (.cells #[.string ⟨mt.toArray⟩] 9)
                   have Kh:=hide (wN.out.below hb3)
                   have N7:=hide (xL (w:=wm) mt 9)
                   have N8:=hide (show ∀ g',(Value.slice (some ⟨wm.heap.size,0,none⟩) 1 1).ownBlock=some g' → ¬ F' g' from fun g' hg' q=>by
                     have e:wm.heap.size=g':=Option.some.inj hg'
                     have:=wN.out.run.lt g' q
                     omega)
                   obtain ⟨u2,hu2⟩:∃ u,wm.alloc (.cells #[.string ⟨mt.toArray⟩] 9)=u:=⟨_,rfl⟩
                   rw[hu2] at Kh N7 ⊢
                   obtain ⟨n2,hn2⟩:∃ n,wm.heap.size=n:=⟨_,rfl⟩
                   rw[hn2] at N7 N8 ⊢
                   clear hmt hb3 hu2 hn2 wN n0
                   first
                     | (have Si:false=kV M (bS l) gn 6:=HW.out
                        have hno:=Xx Kn.out Si.symm
                        obtain ⟨pl2,D2,r1,r2,r3,r4⟩:=Hv.aap DN.out (q:=q) (by omega) HOD.out Yb hno
                        rw[HMT.out] at r1
                        have hnc:=uD (qy Sk)
                        rw[HMT.out] at hnc
                        have HB2:=hide (lu (F:=F') _ _ pl2 D2 _ r1 r2 r3 hml Rh.out hnc (by omega) u2 Kh.out.run N7.out N8.out)
                        have wK:=hide (IZ DN.out (Hv.yO gn) r4 (q:=q) (by omega))
                        have HL2:=hide ((r4.len DN.out (Hv.yO gn)).trans (Tc Yb))
                        clear r1 r2 r3 r4 hnc hno Si
                        refine HB2.out.mono ?_
                        rintro e Yu ⟨F2,rfl,q1,q2,q3⟩
                        have Ki:=hide (Kh.out.begun q1 q2 q3)
                        clear q1 q2 q3 HB2 Kh Rh N7 N8
                        go_wp2_with fail
                        refine (om wK.out Yu Ki.out.run).mono ?_
                        rintro e w13 ⟨v2,rfl,q0,q1,q2⟩
                        obtain ⟨va2,vc2,rfl⟩:=slice_form q0
                        have Yw:=hide (Ki.out.far q1 q2)
                        rw[HL2.out]
                        clear q0 q1 q2 Ki
                        go_wp2_with fail
                        go_ret
                        exact ⟨rfl,Yw.out.bA⟩)
                     | (obtain ⟨iw,Le,hgi,hnb⟩:=J4 Kn.out DN.out Yb HW.out.symm
                        have r1:=Hv.Jo (G:=[(Hv.bG,q.map cK)]) DN.out HOD.out Le hgi hnb
                        rw[HMT.out] at r1
                        have hnc:=uD (qy Sk)
                        rw[HMT.out] at hnc
                        have HB2:=hide (wE (F:=F') _ _ 11 (by decide) r1 (by simp) hml Rh.out hnc u2 Kh.out.run N7.out N8.out)
                        have HL2:=hide (HOD.out.len DN.out Hv.xK)
                        clear r1 hnc hnb hgi Le
                        refine HB2.out.mono ?_
                        rintro e Yu ⟨rfl,q1,q2⟩
                        have Ki:=hide (Kh.out.far q1 q2)
                        clear q1 q2 HB2 Kh N7 N8
                        go_wp2_with fail
                        refine (om Rh.out Yu Ki.out.run).mono ?_
                        rintro e w13 ⟨v2,rfl,q0,q1,q2⟩
                        obtain ⟨va2,vc2,rfl⟩:=slice_form q0
                        have Yw:=hide (Ki.out.far q1 q2)
                        rw[HL2.out,List.length_range]
                        clear q0 q1 q2 Ki
                        go_wp2_with fail
                        go_ret
                        exact ⟨rfl,Yw.out.bA⟩)
end
end Go.Proofs.YtialenebfcnkkaaGreatDoor
