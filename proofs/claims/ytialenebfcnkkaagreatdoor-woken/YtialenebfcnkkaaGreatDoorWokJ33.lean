/- WokW2, CardKeep, CardFactW -/
import Derived.Test.YtialenebfcnkkaaGreatDoorWokJ32
import Derived.Test.YtialenebfcnkkaaGreatDoorCards
import Derived.Test.YtialenebfcnkkaaGreatDoorTie
import Derived.Test.YtialenebfcnkkaaGreatDoorWokJ10
import Derived.ProofKit
import Derived.OpenShut
import Derived.Deep.DeepHandedRow
import Derived.Deep.DeepWitnessRowRef
import Derived.Lib.LaidTab
import Derived.Lib.LaidU8
import Derived.Shelf.Vars
import Derived.LaidHandle
import Derived.JoinedOf
import Derived.KernelRfl
set_option maxHeartbeats 8000000
set_option maxRecDepth 100000
namespace Go.Proofs.YtialenebfcnkkaaGreatDoor
section
open Go.RowKit
open Arc (St Cmd)
open Hv (S Dk VM Mild ShelfD CountG Ks itemAt nextV risePaths)
theorem woken_any (a b:Int) (ha : -9223372036854775808≤a∧a≤9223372036854775807) (hb' : -9223372036854775808≤b∧b≤9223372036854775807) (x y:Addr) (w:World) (hbs:Base w) (hE:Errs x y w) :
   Calls Tryz.prog 4 #[.int .i64 a, .int .i64 b] w fun e w'=>e = .returned (.bool true)∧Below w.heap.size w w':=by
 have HBs:=hide hbs;have HE:=hide hE
 obtain ⟨ha1,ha2⟩:=ha
 obtain ⟨hb1',hb2'⟩:=hb'
 have hG:=hbs.size
 clear hbs hE
 go_enter Tryz.func4,Tryz.ntmps4
 go_wp2_with fail
 refine (blank_any 300 (by omega) (by omega) w).mono ?_
 rintro e w1 ⟨rfl,hd1,hb1⟩
 have HB1:=hide hb1
 have HA1:=hide (show Away x y (fun k=>w.heap.size≤k∧k<w1.heap.size) from fun k hk=>by
   obtain ⟨ca,ta,h1⟩:=HE.out.atA
   obtain ⟨cb,tb,h2⟩:=HE.out.atB
   have l1:=blt h1
   have l2:=blt h2
   exact ⟨by omega,by omega,by omega⟩)
 have HFR:=hide (fresh_any (C:=fun k=>w.heap.size≤k∧k<w1.heap.size) w.heap.size x y w1 hd1 (HBs.out.below hb1 hG) (HE.out.below hb1) HA1.out)
 have hs1:=hb1.size
 clear hd1 hb1 HA1
 go_wp2_with fail
 refine HFR.out.mono ?_
 rintro e w2 ⟨hb,F,rfl,hr2,hf2,hk2⟩
 have HR2:=hide hr2
 have HB2:=hide (far_below HB1.out hf2 (fun q hq e=>by omega))
 have HK2:=hide (show ∀ k,F k→w.heap.size≤k from fun k q=>by
   rcases hk2 k q with q | q
   · exact q.1
   · omega)
 clear hr2 hf2 hk2 HFR HB1
 go_wp2_with fail
 show Calls Tryz.prog 10 #[.pointer (some ⟨hb,0,none⟩), .slice (some ⟨w2.heap.size,0,none⟩) 1 1] (w2.alloc (.cells #[.string ⟨(43::Hv.menuT).toArray⟩] 9)) _
 obtain ⟨mt,hmt⟩:∃ mt:S,43::Hv.menuT=mt:=⟨_,rfl⟩
 have HMT:=hide hmt
 rw[hmt]
 have hb3:=(Below.refl w2.heap.size w2).alloc (Nat.le_refl _) (.cells #[.string ⟨mt.toArray⟩] 9)
 have HR3:=hide (HR2.out.below hb3)
 have HB3:=hide (HB2.out.trans (hb3.mono HB2.out.size))
 have HV3:=hide (reads_one (w:=w2) mt 9)
 have hlt2:=HR2.out.lt
 have HVA:=hide (show ∀ g,(Value.slice (some ⟨w2.heap.size,0,none⟩) 1 1).ownBlock=some g → ¬ F g from fun g hg q=>by
   have e:w2.heap.size=g:=Option.some.inj hg
   have:=hlt2 g q
   omega)
 obtain ⟨u2,hu2⟩:∃ u,w2.alloc (.cells #[.string ⟨mt.toArray⟩] 9)=u:=⟨_,rfl⟩
 rw[hu2] at HR3 HB3 HV3 ⊢
 obtain ⟨n2,hn2⟩:∃ n,w2.heap.size=n:=⟨_,rfl⟩
 rw[hn2] at HV3 HVA ⊢
 obtain ⟨pl1,k1,k2,k3,k4⟩:=menu_in
 rw[HMT.out] at k1 k3
 have hml:∀ q∈[mt],q.length≤100000:=fun q hq=>by
   have e:q=mt:=by simpa using hq
   rw[e,← HMT.out,List.length_cons];decide
 have HBG:=hide (run_begin_ok _ [mt] pl1 [(Hv.wMenu,Hv.menuPD 2)] [] k1 k2 k4 hml mild_nil k3 (by omega) u2 HR3.out HV3.out HVA.out)
 clear k1 k2 k3 k4 hb3 hlt2 hu2 hn2 HR2 hml hmt HMT
 refine HBG.out.mono ?_
 rintro e w4 ⟨F1,rfl,q1,q2,q3⟩
 have HR4:=hide q1
 have HK4:=hide (show ∀ k,F1 k→w.heap.size≤k from fun k q=>by
   rcases q3 k q with q | q
   · exact HK2.out k q
   · have:=HB3.out.size;omega)
 have HB4:=hide (far_below HB3.out q2 (fun q hq e=>by have:=HK2.out q e;omega))
 clear q1 q2 q3 HBG HR3 HV3 HVA HB2 HB3 HK2
 go_wp2_with fail
 have hun:Wd.under Hv.wVMenu=true:=by decide
 have HMS:=hide menu_shelf
 have hM0:Mild [(Hv.wMenu,Hv.menuPD 2)] []:=shelf_mild menu_shelf (fun j _=>by omega) count_nil
 refine (run_content hM0 Hv.wVMenu hun w4 HR4.out).mono ?_
 rintro e w5 ⟨rfl,q1,q2⟩
 have HR5:=hide q1
 have HB5:=hide (far_below HB4.out q2 (fun q hq e=>by have:=HK4.out q e;omega))
 obtain ⟨D0,hD0⟩:∃ D0,[(Hv.wMenu,Hv.menuPD 2)]=D0:=⟨_,rfl⟩
 rw[hD0] at HR5 HMS
 clear q1 q2 HR4 HB4 hM0 hD0
 rw[show (Hv.get ([]:VM S) Hv.wVMenu).getD []=[] from rfl]
 go_wp2_with fail
 have hs5:=HB5.out.size
 have hrow:=heap_alloc_new w5 (.cells #[.int .i64 0, .int .i64 0, .int .i64 0, .int .i64 0, .int .i64 0, .int .i64 0] 39)
 have hb6:=(Below.refl w5.heap.size w5).alloc (Nat.le_refl _) (.cells #[.int .i64 0, .int .i64 0, .int .i64 0, .int .i64 0, .int .i64 0, .int .i64 0] 39)
 have HI0:Hid (OutW w5.heap.size hb w.heap.size w 0 1 (fun _=>0) (7000000+3000000) F1 D0 [] (w5.alloc (.cells #[.int .i64 0, .int .i64 0, .int .i64 0, .int .i64 0, .int .i64 0, .int .i64 0] 39))) :=
   hide ⟨HMS.out,count_nil,fun j _=>by omega,hrow,HR5.out.below hb6,by unfold VB;decide,fun q=>by have:=HR5.out.lt _ q;omega,HK4.out,hs5,HB5.out.trans (hb6.mono hs5)⟩
 obtain ⟨u5,hu5⟩:∃ u,w5.alloc (.cells #[.int .i64 0, .int .i64 0, .int .i64 0, .int .i64 0, .int .i64 0, .int .i64 0] 39)=u:=⟨_,rfl⟩
 obtain ⟨vb,hvb⟩:∃ vb,w5.heap.size=vb:=⟨_,rfl⟩
 rw[hu5,hvb] at HI0
 rw[hu5,hvb]
 clear hu5 hvb hrow hb6 HMS HR5 HB5 HK4 hs5 hs1 HBs HE
 obtain ⟨i0,hi,hz0,hz1,hz2⟩:=info_three info_str
 go_loopw [11,12] (fun c r wr=>∃ (cn rn:Nat) (V:Nat→Nat) (Vn:Nat) (F:Nat→Prop) (D:VM Hv.PD) (G:VM S),1≤rn∧rn≤3∧cn<rn∧c = .int .i64 (cn:Int)∧r = .int .i64 (rn:Int)∧Hid (OutW vb hb w.heap.size w cn rn V Vn F D G wr)) (fun _ r _=>3-(intOf r).toNat)
 case atStart=>exact ⟨0,1,_,_,_,_,_,by omega,by omega,by omega,rfl,rfl,HI0⟩
 case round =>
   clear HI0
   obtain ⟨cn,rn,V,Vn,F,D,G,hr1,hr3,hcr,rfl,rfl,HI⟩:=hrel
   by_cases hlt:rn<3
   · have hpa := pickN_any a 64 (by omega) (by omega) ha1 ha2 wr
     have hpb:=pickN_any b 64 (by omega) (by omega) hb1' hb2' wr
     have h12:rn=1∨rn=2:=by omega
     rcases h12 with rfl | rfl
     · rw[show ((1:Nat):Int)=1 from rfl]
       go_wp2_with (go_at_call 7;refine hpa.mono ?_;rintro e w6 ⟨rfl,rfl⟩)
       obtain ⟨sv,hsv,hs64⟩:=pk_nat a
       rw[hsv]
       clear hsv hpa hpb
       obtain ⟨wo,hwo⟩:∃ wo,wo=w6:=⟨w6,rfl⟩
       subst hwo
       have HIN0:Hid (InW V 1 (bitOf sv) vb hb Vn F D G wo 0 none 0 0 wo):=hide ⟨rfl,World.ownsRow_nil _ _ _ _,(by rw[show upK (bitOf sv) 0=[] from rfl,next_nil];exact HI.out.arr),HI.out.run,Far.refl _ _ _⟩
       go_loopw [14,15,16] (fun l s i wr2=>∃ (m:Nat) (lo:Option Addr) (n lc:Nat) (z:S),m≤6∧l = .slice lo n lc∧s = .string ⟨z.toArray⟩∧i = .int .i64 (5-(m:Int))∧n≤6∧z.length≤100∧Hid (z=linesS (risePaths (upK (bitOf sv) m)))∧Hid (InW V 1 (bitOf sv) vb hb Vn F D G wo m lo n lc wr2)) (fun _ _ i _=>(intOf i+1).toNat)
       case atStart=>exact ⟨0,none,0,0,[],by omega,rfl,rfl,rfl,by omega,by simp,hide rfl,HIN0⟩
       case round =>
         clear HIN0
         obtain ⟨m,lo,n,lc,z,hm6,rfl,rfl,rfl,hn6,hz100,HZ,HIN⟩:=hrel
         by_cases hm:m<6
         · obtain ⟨j,hj,hj6⟩:∃ j,5-m=j∧j<6:=⟨_,rfl,by omega⟩
           have hji:5-(m:Int)=(j:Int):=by omega
           rw[hji]
           have j0:(0:Int)≤(j:Int):=by omega
           have j64:(j:Int)≤64:=by omega
           cases hbt:bitOf sv j with
           | false =>
             have hb0:=bit_no hs64 hbt
             have HIN2:=hide (HIN.out.skip (by rw[hj];exact hbt))
             have HZ2:Hid (z=linesS (risePaths (upK (bitOf sv) (m+1)))):=hide (by rw[upK_skip (by rw[hj];exact hbt)];exact HZ.out)
             clear hbt
             go_wp2_with fail
             go_roundw
             case rel=>exact ⟨m+1,_,_,_,z,by omega,rfl,rfl,(by first | rfl | exact congrArg (Value.int .i64) (by omega)),hn6,hz100,HZ2,HIN2⟩
             case measure=>first | (simp[intOf];done) | (simp[intOf];omega)
           | true =>
             have hb0:=bit_yes hs64 hbt
             have HBT:=hide hbt
             have c0:=arr6_at HIN.out.arr hj6
             rw[next_old (by rw[← hj];exact upK_new hm)] at c0
             have hbm:bitOf sv (5-m)=true:=by rw[hj];exact hbt
             have HZ2:Hid (Hv.binP [ltr j]++[10]++z=linesS (risePaths (upK (bitOf sv) (m+1)))):=hide (by rw[upK_take hbm,hj,rise_snoc,← HZ.out])
             have HZS:Hid ((((⟨#[47,98,105,110,47]⟩:ByteArray)++⟨([ltr j]:S).toArray⟩)++⟨#[10]⟩)++⟨z.toArray⟩=⟨(Hv.binP [ltr j]++[10]++z).toArray⟩):=hide (by
               rw[← list_append,← list_append,Hv.binP,← list_append])
             have hz2l:(Hv.binP [ltr j]++[10]++z).length≤100:=by
               have e:=HZ2.out
               rw[e,Hv.rise_lines_len]
               have:=(upK_ks (bitOf sv) (m+1) (by omega)).len
               omega
             have j6:(j:Int)<6:=by omega
             have hn7:n+1≤6:=by
               have e:=HIN.out.num
               have:=(upK_ks (bitOf sv) (m+1) (by omega)).len
               rw[upK_take hbm,List.length_append] at this
               simp at this
               omega
             obtain ⟨xs,hxs⟩:∃ xs,((upK (bitOf sv) m).map (itemAt V 1)).map strV=xs:=⟨_,rfl⟩
             have HXS:=hide hxs
             have HRO:=hide (show wr.ownsRow wo.heap.size 9 1 (.slice lo n lc) n xs by rw[← hxs];exact HIN.out.row)
             have HVL:=hide (blt HI.out.arr)
             have hvl:=HVL.out
             have hgs:=HIN.out.far.size
             have hvw:=Nat.lt_of_lt_of_le hvl hgs
             clear hbt hxs hbm
             by_cases hg:Hv.goes V j
             · have HGO:=hide hg
               obtain ⟨hv0,hj0⟩:=hg
               have hje:((j:Int)%2==0)=true:=by rw[show (j:Int)%2=0 by omega];rfl
               have HST:Hid (Value.string ((⟨#[45]⟩:ByteArray)++⟨([ltr j]:S).toArray⟩)=strV (itemAt V 1 j)):=hide (by
                 unfold itemAt;rw[if_pos HGO.out]
                 show _=Value.string ⟨([45]++[ltr j]:S).toArray⟩
                 rw[← list_append])
               clear hj0
               go_wp2_with (first
                 | (go_at_call 8;refine (letter_any j hj6 _).mono ?_;rintro e w7 ⟨rfl,hw7⟩;have hw7':=hw7.symm;subst hw7';clear hw7)
                 | (at_builtin;refine wpList_append_own_at _ rfl _ _ 28 rfl wo.heap.size 9 i0 (.string ByteArray.empty) 1 16 Tryz.underlying28 hi hz0 hz1 hz2 rfl (by decide) _ _ _ rfl (HRO.out.alloc _) ⟨_,0,none⟩ 1 1 [_] rfl rfl (cell_one_new _ _ _) (fun x hx=>by simp at hx;subst hx;rfl) (by unfold maxLen;omega) (by omega) (by simp;omega) ?_;intro v' w8 hown' hgrow8 hnil8 hat8;obtain ⟨gv,cv,rfl⟩:=own_form hown' (by omega);have O8:=hide hown';have G8:=hide hgrow8;have hA8:=(hgrow8.block vb (by simp;omega) (fun e=>by have:=(HRO.out.lt vb e.symm).1;omega)).trans ((Below.heap_alloc _ _ _ (by omega)).trans HIN.out.arr);have c8:=(row_cell hA8 j).trans ((row_cell HIN.out.arr j).symm.trans (arr6_at HIN.out.arr hj6));have f8:=row_free hA8 j;clear hown' hgrow8 hnil8 hat8 hA8))
               have HIN3:=hide (by
                 have h:=InW.next HIN.out (show bitOf sv (5-m)=true by rw[hj];exact HBT.out) hm hj (Below.refl _ _) G8.out (by rw[HXS.out,← HST.out];exact O8.out) hvl HI.out.off (fun k q=>HI.out.run.lt k q) (by have:=HI.out.at_;omega)
                 rw[next_at,if_pos HGO.out] at h
                 exact h)
               clear O8 G8 c8 f8
               go_roundw
               case rel=>exact ⟨m+1,_,_,_,_,by omega,rfl,congrArg Value.string HZS.out,(by first | rfl | exact congrArg (Value.int .i64) (by omega)),hn7,hz2l,HZ2,HIN3⟩
               case measure=>first | (simp[intOf];done) | (simp[intOf];omega)
             · have HGO:=hide hg
               have hcase : ¬ (0<V j)∨(0<V j∧((j:Int)%2==0)=false):=by
                 by_cases hv0:0<V j
                 · refine .inr ⟨hv0,?_⟩
                   have : ¬ j%2=0:=fun q=>hg ⟨hv0,q⟩
                   rw[show (j:Int)%2=1 by omega];rfl
                 · exact .inl hv0
               have HAR:Hid (arcS [ltr j] 1 [] []=itemAt V 1 j):=hide (by
                 unfold itemAt;rw[if_neg HGO.out]
                 exact arc_made j (.inl rfl) [] false)
               clear hg
               rcases hcase with hv0 | ⟨hv0,hje⟩
               all_goals
                 go_wp2_with (first
                   | (go_at_call 8;refine (letter_any j hj6 _).mono ?_;rintro e w7 ⟨rfl,hw7⟩;have hw7':=hw7.symm;subst hw7';clear hw7)
                   | (go_at_call 9;refine (archive_any [ltr j] [] [] 1 (by omega) (by simp) (by simp) (by simp) _).mono ?_;rintro e wq ⟨rfl,hbq⟩;have HBQ:=hide hbq;have hqs:=hbq.size;rw[HAR.out];clear hbq)
                   | (at_builtin;refine wpList_append_own_at _ rfl _ _ 28 rfl wo.heap.size 9 i0 (.string ByteArray.empty) 1 16 Tryz.underlying28 hi hz0 hz1 hz2 rfl (by decide) _ _ _ rfl ((own_below HRO.out HBQ.out).alloc _) ⟨_,0,none⟩ 1 1 [_] rfl rfl (cell_one_new _ _ _) (fun x hx=>by simp at hx;subst hx;rfl) (by unfold maxLen;omega) (by omega) (by simp;omega) ?_;intro v' w8 hown' hgrow8 hnil8 hat8;obtain ⟨gv,cv,rfl⟩:=own_form hown' (by omega);have O8:=hide hown';have G8:=hide hgrow8;have hA8:=(hgrow8.block vb (by simp;omega) (fun e=>by have:=(HRO.out.lt vb e.symm).1;omega)).trans (((Below.heap_alloc _ _ _ (by omega)).trans (HBQ.out.block vb (by omega))).trans HIN.out.arr);have c8:=(row_cell hA8 j).trans ((row_cell HIN.out.arr j).symm.trans (arr6_at HIN.out.arr hj6));have f8:=row_free hA8 j;clear hown' hgrow8 hnil8 hat8 hA8))
                 have HIN3:=hide (by
                   have h:=InW.next HIN.out (show bitOf sv (5-m)=true by rw[hj];exact HBT.out) hm hj HBQ.out G8.out (by rw[HXS.out];exact O8.out) hvl HI.out.off (fun k q=>HI.out.run.lt k q) (by have:=HI.out.at_;omega)
                   rw[next_at,if_neg HGO.out] at h
                   exact h)
                 clear O8 G8 c8 f8
                 go_roundw
                 case rel=>exact ⟨m+1,_,_,_,_,by omega,rfl,congrArg Value.string HZS.out,(by first | rfl | exact congrArg (Value.int .i64) (by omega)),hn7,hz2l,HZ2,HIN3⟩
                 case measure=>first | (simp[intOf];done) | (simp[intOf];omega)
         · obtain rfl:m=6:=by omega
           rw[show (5:Int)-((6:Nat):Int) = -1 from rfl]
           have HKS:=hide (upK_ks (bitOf sv) 6 (Nat.le_refl _))
           obtain ⟨ks,hks⟩:∃ ks,upK (bitOf sv) 6=ks:=⟨_,rfl⟩
           have HIN6:=hide (HIN.out.whole hks)
           rw[hks] at HZ HKS
           clear hks HIN
           by_cases hn0:n=0
           · subst hn0
             have HO2:=hide (HI.out.same rfl HIN6.out)
             go_wp2_with fail
             go_roundw
             case rel=>exact ⟨cn,1+1,_,_,_,_,_,by omega,by omega,by omega,rfl,by first | rfl | go_num,HO2⟩
             case measure=>first | (simp[intOf];done) | (simp[intOf];omega)
           · have hne:ks≠[]:=fun e=>hn0 (by rw[HIN6.out.num,e];rfl)
             obtain ⟨pl,D',p1,p2,p3,p4,p5⟩:=Hv.woken_round HI.out.shelf HI.out.count (by omega) (r:=1) (by first | exact .inl rfl | exact .inr rfl) HI.out.low HKS.out hne
             have HSH:=hide p5
             have HCT:=hide (HI.out.count.told (by omega) HKS.out)
             have hVl:∀ j,j<6→nextV V 1 ks j<1+1:=Hv.nextV_lt HI.out.low
             have HVL:=hide hVl
             have HML:=hide (shelf_mild p5 (fun j hj=>by have:=hVl j hj;omega) HCT.out.1)
             have hRD:=reads_row (by rw[List.length_map];exact HIN6.out.num) HIN6.out.row
             have HBG:=hide (run_begin_ok _ _ pl D' (Hv.toldG G ks) p1 p2 p4 (fun q hq=>by obtain ⟨j,_,rfl⟩:=List.mem_map.1 hq;have:=Hv.itemAt_len V 1 j;omega) (shelf_mild HI.out.shelf (fun j hj=>by have:=HI.out.low j hj;omega) HI.out.count) p3 (HI.out.vol.few (by omega)) wr HIN6.out.run hRD (fun g hg q=>by have:=(HIN6.out.row.lt g hg).1;have:=HI.out.run.lt g q;omega))
             have hn1 : ¬ (n:Int)=0:=by omega
             have hcn:cn≤3:=by omega
             clear p1 p2 p3 p4 p5 hRD hVl
             go_wp2_with fail
             refine HBG.out.mono ?_
             rintro e w7 ⟨F',rfl,q1,q2,q3⟩
             have HA7:=hide (HI.out.begun HIN6.out q1 q2 q3)
             clear q1 q2 q3 HBG
             go_wp2_with fail
             refine (run_content HML.out Hv.wVMenu hun w7 HA7.out.run).mono ?_
             rintro e w8 ⟨rfl,q1,q2⟩
             have HA8:=hide (HA7.out.far q1 q2)
             rw[HCT.out.2.1,Option.getD_some]
             obtain ⟨zz,hzz⟩:∃ zz,linesS (risePaths ks)=zz:=⟨_,rfl⟩
             have hze:(zz==z)=true:=by rw[← hzz,← HZ.out];simp
             rw[hzz]
             clear q1 q2 HA7 hzz
             go_wp2_with fail
             obtain ⟨cx,c1,c2⟩:=HCT.out.2.2
             have hunc:Wd.under Hv.wVCount=true:=by decide
             refine (run_content HML.out Hv.wVCount hunc w8 HA8.out.run).mono ?_
             rintro e w9 ⟨rfl,q1,q2⟩
             have HA9:=hide (HA8.out.far q1 q2)
             rw[c1,Option.getD_some]
             have hc2:(cx.length:Int)=(cn:Int)+1:=by omega
             clear q1 q2 HA8 c1 c2
             go_wp2_with fail
             refine (run_packs HML.out w9 HA9.out.run).mono ?_
             rintro e w10 ⟨v,rfl,q0,q1,q2⟩
             have HA10:=hide (HA9.out.far q1 q2)
             obtain ⟨nd,nd1,nd6,ndl⟩:=shelf_last HSH.out
             obtain ⟨gl,gc,rfl,l1,l2⟩:=told_last nd1 ndl q0
             have l1':w10.cell? ⟨gl,nd*3,none⟩=some (.string ⟨#[109,101,110,117]⟩):=l1
             have l2':w10.cell? ⟨gl,nd*3+2,none⟩=some (.int .i64 2):=l2
             clear q0 q1 q2 HA9 l1 l2 ndl nd1
             go_wp2_with fail
             have HO2:=hide (HA10.out.out HSH.out HCT.out.1 HVL.out HI.out.vol.next HI.out.at_)
             clear HA10 l1' l2' hze hc2
             go_roundw
             case rel=>exact ⟨cn+1,1+1,_,_,_,_,_,by omega,by omega,by omega,(by first | rfl | go_num),(by first | rfl | go_num),HO2⟩
             case measure=>first | (simp[intOf];done) | (simp[intOf];omega)
     · rw[show ((2:Nat):Int)=2 from rfl]
       go_wp2_with fail
       refine hpa.mono ?_
       rintro e w6 ⟨rfl,rfl⟩
       go_wp2_with fail
       refine hpb.mono ?_
       rintro e w7 ⟨rfl,rfl⟩
       go_wp2_with fail
       obtain ⟨sv,hsv,hs64⟩:=pk_nat b
       rw[hsv]
       clear hsv hpa hpb
       obtain ⟨wo,hwo⟩:∃ wo,wo=w7:=⟨w7,rfl⟩
       subst hwo
       have HIN0:Hid (InW V 2 (bitOf sv) vb hb Vn F D G wo 0 none 0 0 wo):=hide ⟨rfl,World.ownsRow_nil _ _ _ _,(by rw[show upK (bitOf sv) 0=[] from rfl,next_nil];exact HI.out.arr),HI.out.run,Far.refl _ _ _⟩
       go_loopw [14,15,16] (fun l s i wr2=>∃ (m:Nat) (lo:Option Addr) (n lc:Nat) (z:S),m≤6∧l = .slice lo n lc∧s = .string ⟨z.toArray⟩∧i = .int .i64 (5-(m:Int))∧n≤6∧z.length≤100∧Hid (z=linesS (risePaths (upK (bitOf sv) m)))∧Hid (InW V 2 (bitOf sv) vb hb Vn F D G wo m lo n lc wr2)) (fun _ _ i _=>(intOf i+1).toNat)
       case atStart=>exact ⟨0,none,0,0,[],by omega,rfl,rfl,rfl,by omega,by simp,hide rfl,HIN0⟩
       case round =>
         clear HIN0
         obtain ⟨m,lo,n,lc,z,hm6,rfl,rfl,rfl,hn6,hz100,HZ,HIN⟩:=hrel
         by_cases hm:m<6
         · obtain ⟨j,hj,hj6⟩:∃ j,5-m=j∧j<6:=⟨_,rfl,by omega⟩
           have hji:5-(m:Int)=(j:Int):=by omega
           rw[hji]
           have j0:(0:Int)≤(j:Int):=by omega
           have j64:(j:Int)≤64:=by omega
           cases hbt:bitOf sv j with
           | false =>
             have hb0:=bit_no hs64 hbt
             have HIN2:=hide (HIN.out.skip (by rw[hj];exact hbt))
             have HZ2:Hid (z=linesS (risePaths (upK (bitOf sv) (m+1)))):=hide (by rw[upK_skip (by rw[hj];exact hbt)];exact HZ.out)
             clear hbt
             go_wp2_with fail
             go_roundw
             case rel=>exact ⟨m+1,_,_,_,z,by omega,rfl,rfl,(by first | rfl | exact congrArg (Value.int .i64) (by omega)),hn6,hz100,HZ2,HIN2⟩
             case measure=>first | (simp[intOf];done) | (simp[intOf];omega)
           | true =>
             have hb0:=bit_yes hs64 hbt
             have HBT:=hide hbt
             have c0:=arr6_at HIN.out.arr hj6
             rw[next_old (by rw[← hj];exact upK_new hm)] at c0
             have hbm:bitOf sv (5-m)=true:=by rw[hj];exact hbt
             have HZ2:Hid (Hv.binP [ltr j]++[10]++z=linesS (risePaths (upK (bitOf sv) (m+1)))):=hide (by rw[upK_take hbm,hj,rise_snoc,← HZ.out])
             have HZS:Hid ((((⟨#[47,98,105,110,47]⟩:ByteArray)++⟨([ltr j]:S).toArray⟩)++⟨#[10]⟩)++⟨z.toArray⟩=⟨(Hv.binP [ltr j]++[10]++z).toArray⟩):=hide (by
               rw[← list_append,← list_append,Hv.binP,← list_append])
             have hz2l:(Hv.binP [ltr j]++[10]++z).length≤100:=by
               have e:=HZ2.out
               rw[e,Hv.rise_lines_len]
               have:=(upK_ks (bitOf sv) (m+1) (by omega)).len
               omega
             have j6:(j:Int)<6:=by omega
             have hn7:n+1≤6:=by
               have e:=HIN.out.num
               have:=(upK_ks (bitOf sv) (m+1) (by omega)).len
               rw[upK_take hbm,List.length_append] at this
               simp at this
               omega
             obtain ⟨xs,hxs⟩:∃ xs,((upK (bitOf sv) m).map (itemAt V 2)).map strV=xs:=⟨_,rfl⟩
             have HXS:=hide hxs
             have HRO:=hide (show wr.ownsRow wo.heap.size 9 1 (.slice lo n lc) n xs by rw[← hxs];exact HIN.out.row)
             have HVL:=hide (blt HI.out.arr)
             have hvl:=HVL.out
             have hgs:=HIN.out.far.size
             have hvw:=Nat.lt_of_lt_of_le hvl hgs
             clear hbt hxs hbm
             by_cases hg:Hv.goes V j
             · have HGO:=hide hg
               obtain ⟨hv0,hj0⟩:=hg
               have hje:((j:Int)%2==0)=true:=by rw[show (j:Int)%2=0 by omega];rfl
               have HST:Hid (Value.string ((⟨#[45]⟩:ByteArray)++⟨([ltr j]:S).toArray⟩)=strV (itemAt V 2 j)):=hide (by
                 unfold itemAt;rw[if_pos HGO.out]
                 show _=Value.string ⟨([45]++[ltr j]:S).toArray⟩
                 rw[← list_append])
               clear hj0
               go_wp2_with (first
                 | (go_at_call 8;refine (letter_any j hj6 _).mono ?_;rintro e w7 ⟨rfl,hw7⟩;have hw7':=hw7.symm;subst hw7';clear hw7)
                 | (at_builtin;refine wpList_append_own_at _ rfl _ _ 28 rfl wo.heap.size 9 i0 (.string ByteArray.empty) 1 16 Tryz.underlying28 hi hz0 hz1 hz2 rfl (by decide) _ _ _ rfl (HRO.out.alloc _) ⟨_,0,none⟩ 1 1 [_] rfl rfl (cell_one_new _ _ _) (fun x hx=>by simp at hx;subst hx;rfl) (by unfold maxLen;omega) (by omega) (by simp;omega) ?_;intro v' w8 hown' hgrow8 hnil8 hat8;obtain ⟨gv,cv,rfl⟩:=own_form hown' (by omega);have O8:=hide hown';have G8:=hide hgrow8;have hA8:=(hgrow8.block vb (by simp;omega) (fun e=>by have:=(HRO.out.lt vb e.symm).1;omega)).trans ((Below.heap_alloc _ _ _ (by omega)).trans HIN.out.arr);have c8:=(row_cell hA8 j).trans ((row_cell HIN.out.arr j).symm.trans (arr6_at HIN.out.arr hj6));have f8:=row_free hA8 j;clear hown' hgrow8 hnil8 hat8 hA8))
               have HIN3:=hide (by
                 have h:=InW.next HIN.out (show bitOf sv (5-m)=true by rw[hj];exact HBT.out) hm hj (Below.refl _ _) G8.out (by rw[HXS.out,← HST.out];exact O8.out) hvl HI.out.off (fun k q=>HI.out.run.lt k q) (by have:=HI.out.at_;omega)
                 rw[next_at,if_pos HGO.out] at h
                 exact h)
               clear O8 G8 c8 f8
               go_roundw
               case rel=>exact ⟨m+1,_,_,_,_,by omega,rfl,congrArg Value.string HZS.out,(by first | rfl | exact congrArg (Value.int .i64) (by omega)),hn7,hz2l,HZ2,HIN3⟩
               case measure=>first | (simp[intOf];done) | (simp[intOf];omega)
             · have HGO:=hide hg
               have hcase : ¬ (0<V j)∨(0<V j∧((j:Int)%2==0)=false):=by
                 by_cases hv0:0<V j
                 · refine .inr ⟨hv0,?_⟩
                   have : ¬ j%2=0:=fun q=>hg ⟨hv0,q⟩
                   rw[show (j:Int)%2=1 by omega];rfl
                 · exact .inl hv0
               have HAR:Hid (arcS [ltr j] 2 [] []=itemAt V 2 j):=hide (by
                 unfold itemAt;rw[if_neg HGO.out]
                 exact arc_made j (.inr rfl) [] false)
               clear hg
               rcases hcase with hv0 | ⟨hv0,hje⟩
               all_goals
                 go_wp2_with (first
                   | (go_at_call 8;refine (letter_any j hj6 _).mono ?_;rintro e w7 ⟨rfl,hw7⟩;have hw7':=hw7.symm;subst hw7';clear hw7)
                   | (go_at_call 9;refine (archive_any [ltr j] [] [] 2 (by omega) (by simp) (by simp) (by simp) _).mono ?_;rintro e wq ⟨rfl,hbq⟩;have HBQ:=hide hbq;have hqs:=hbq.size;rw[HAR.out];clear hbq)
                   | (at_builtin;refine wpList_append_own_at _ rfl _ _ 28 rfl wo.heap.size 9 i0 (.string ByteArray.empty) 1 16 Tryz.underlying28 hi hz0 hz1 hz2 rfl (by decide) _ _ _ rfl ((own_below HRO.out HBQ.out).alloc _) ⟨_,0,none⟩ 1 1 [_] rfl rfl (cell_one_new _ _ _) (fun x hx=>by simp at hx;subst hx;rfl) (by unfold maxLen;omega) (by omega) (by simp;omega) ?_;intro v' w8 hown' hgrow8 hnil8 hat8;obtain ⟨gv,cv,rfl⟩:=own_form hown' (by omega);have O8:=hide hown';have G8:=hide hgrow8;have hA8:=(hgrow8.block vb (by simp;omega) (fun e=>by have:=(HRO.out.lt vb e.symm).1;omega)).trans (((Below.heap_alloc _ _ _ (by omega)).trans (HBQ.out.block vb (by omega))).trans HIN.out.arr);have c8:=(row_cell hA8 j).trans ((row_cell HIN.out.arr j).symm.trans (arr6_at HIN.out.arr hj6));have f8:=row_free hA8 j;clear hown' hgrow8 hnil8 hat8 hA8))
                 have HIN3:=hide (by
                   have h:=InW.next HIN.out (show bitOf sv (5-m)=true by rw[hj];exact HBT.out) hm hj HBQ.out G8.out (by rw[HXS.out];exact O8.out) hvl HI.out.off (fun k q=>HI.out.run.lt k q) (by have:=HI.out.at_;omega)
                   rw[next_at,if_neg HGO.out] at h
                   exact h)
                 clear O8 G8 c8 f8
                 go_roundw
                 case rel=>exact ⟨m+1,_,_,_,_,by omega,rfl,congrArg Value.string HZS.out,(by first | rfl | exact congrArg (Value.int .i64) (by omega)),hn7,hz2l,HZ2,HIN3⟩
                 case measure=>first | (simp[intOf];done) | (simp[intOf];omega)
         · obtain rfl:m=6:=by omega
           rw[show (5:Int)-((6:Nat):Int) = -1 from rfl]
           have HKS:=hide (upK_ks (bitOf sv) 6 (Nat.le_refl _))
           obtain ⟨ks,hks⟩:∃ ks,upK (bitOf sv) 6=ks:=⟨_,rfl⟩
           have HIN6:=hide (HIN.out.whole hks)
           rw[hks] at HZ HKS
           clear hks HIN
           by_cases hn0:n=0
           · subst hn0
             have HO2:=hide (HI.out.same rfl HIN6.out)
             go_wp2_with fail
             go_roundw
             case rel=>exact ⟨cn,2+1,_,_,_,_,_,by omega,by omega,by omega,rfl,by first | rfl | go_num,HO2⟩
             case measure=>first | (simp[intOf];done) | (simp[intOf];omega)
           · have hne:ks≠[]:=fun e=>hn0 (by rw[HIN6.out.num,e];rfl)
             obtain ⟨pl,D',p1,p2,p3,p4,p5⟩:=Hv.woken_round HI.out.shelf HI.out.count (by omega) (r:=2) (by first | exact .inl rfl | exact .inr rfl) HI.out.low HKS.out hne
             have HSH:=hide p5
             have HCT:=hide (HI.out.count.told (by omega) HKS.out)
             have hVl:∀ j,j<6→nextV V 2 ks j<2+1:=Hv.nextV_lt HI.out.low
             have HVL:=hide hVl
             have HML:=hide (shelf_mild p5 (fun j hj=>by have:=hVl j hj;omega) HCT.out.1)
             have hRD:=reads_row (by rw[List.length_map];exact HIN6.out.num) HIN6.out.row
             have HBG:=hide (run_begin_ok _ _ pl D' (Hv.toldG G ks) p1 p2 p4 (fun q hq=>by obtain ⟨j,_,rfl⟩:=List.mem_map.1 hq;have:=Hv.itemAt_len V 2 j;omega) (shelf_mild HI.out.shelf (fun j hj=>by have:=HI.out.low j hj;omega) HI.out.count) p3 (HI.out.vol.few (by omega)) wr HIN6.out.run hRD (fun g hg q=>by have:=(HIN6.out.row.lt g hg).1;have:=HI.out.run.lt g q;omega))
             have hn1 : ¬ (n:Int)=0:=by omega
             have hcn:cn≤3:=by omega
             clear p1 p2 p3 p4 p5 hRD hVl
             go_wp2_with fail
             refine HBG.out.mono ?_
             rintro e w7 ⟨F',rfl,q1,q2,q3⟩
             have HA7:=hide (HI.out.begun HIN6.out q1 q2 q3)
             clear q1 q2 q3 HBG
             go_wp2_with fail
             refine (run_content HML.out Hv.wVMenu hun w7 HA7.out.run).mono ?_
             rintro e w8 ⟨rfl,q1,q2⟩
             have HA8:=hide (HA7.out.far q1 q2)
             rw[HCT.out.2.1,Option.getD_some]
             obtain ⟨zz,hzz⟩:∃ zz,linesS (risePaths ks)=zz:=⟨_,rfl⟩
             have hze:(zz==z)=true:=by rw[← hzz,← HZ.out];simp
             rw[hzz]
             clear q1 q2 HA7 hzz
             go_wp2_with fail
             obtain ⟨cx,c1,c2⟩:=HCT.out.2.2
             have hunc:Wd.under Hv.wVCount=true:=by decide
             refine (run_content HML.out Hv.wVCount hunc w8 HA8.out.run).mono ?_
             rintro e w9 ⟨rfl,q1,q2⟩
             have HA9:=hide (HA8.out.far q1 q2)
             rw[c1,Option.getD_some]
             have hc2:(cx.length:Int)=(cn:Int)+1:=by omega
             clear q1 q2 HA8 c1 c2
             go_wp2_with fail
             refine (run_packs HML.out w9 HA9.out.run).mono ?_
             rintro e w10 ⟨v,rfl,q0,q1,q2⟩
             have HA10:=hide (HA9.out.far q1 q2)
             obtain ⟨nd,nd1,nd6,ndl⟩:=shelf_last HSH.out
             obtain ⟨gl,gc,rfl,l1,l2⟩:=told_last nd1 ndl q0
             have l1':w10.cell? ⟨gl,nd*3,none⟩=some (.string ⟨#[109,101,110,117]⟩):=l1
             have l2':w10.cell? ⟨gl,nd*3+2,none⟩=some (.int .i64 2):=l2
             clear q0 q1 q2 HA9 l1 l2 ndl nd1
             go_wp2_with fail
             have HO2:=hide (HA10.out.out HSH.out HCT.out.1 HVL.out HI.out.vol.next HI.out.at_)
             clear HA10 l1' l2' hze hc2
             go_roundw
             case rel=>exact ⟨cn+1,2+1,_,_,_,_,_,by omega,by omega,by omega,(by first | rfl | go_num),(by first | rfl | go_num),HO2⟩
             case measure=>first | (simp[intOf];done) | (simp[intOf];omega)
   · have b1 : ¬ (rn:Int)<3:=by omega
     go_wp2_with fail
     go_ret
     exact ⟨rfl,HI.out.bel⟩
end
section
open Go.ChangeShapes Go.WideShapes Go.ChangeAt Go.RowKit
namespace CardKeep
theorem wf_i64 {x:Int} (h:(Lit.int .i64 x).wf=true) : -9223372036854775808≤x∧x≤9223372036854775807:=by
 simp[Lit.wf,IntKind.min,IntKind.max,IntKind.signed,IntKind.bits] at h
 exact ⟨by omega,by omega⟩
def plainL:List (String × DataW Unit):=[("math/bits.deBruijn32tab",Rows.laid_math_bits_deBruijn32tab),("math/bits.deBruijn64tab",Rows.laid_math_bits_deBruijn64tab),("haven/digest.roundConstants",Rows.laid_haven_digest_roundConstants),("internal/strconv.uint64pow10",Rows.laid_internal_strconv_uint64pow10),("unicode/utf8.acceptRanges",Rows.laid_unicode_utf8_acceptRanges),("strconv.ErrRange",Rows.laid_strconv_ErrRange),("strconv.ErrSyntax",Rows.laid_strconv_ErrSyntax),("haven/faults.ErrPower",Rows.laid_haven_faults_ErrPower),("haven/store.ErrNothing",Rows.laid_haven_store_ErrNothing),("unicode/utf8.first",Rows.laid_unicode_utf8_first)]
def fullL:List (String × DataW Unit):=[("math/bits.deBruijn32tab",Rows.laid_math_bits_deBruijn32tab),("math/bits.deBruijn64tab",Rows.laid_math_bits_deBruijn64tab),("haven/digest.roundConstants",Rows.laid_haven_digest_roundConstants),("internal/strconv.uint64pow10",Rows.laid_internal_strconv_uint64pow10),("unicode/utf8.acceptRanges",Rows.laid_unicode_utf8_acceptRanges),("errors.errorType",Rows.laid_errors_errorType),("strconv.ErrRange",Rows.laid_strconv_ErrRange),("strconv.ErrSyntax",Rows.laid_strconv_ErrSyntax),("haven/faults.ErrPower",Rows.laid_haven_faults_ErrPower),("haven/store.ErrNothing",Rows.laid_haven_store_ErrNothing),("unicode/utf8.first",Rows.laid_unicode_utf8_first)]
theorem filtN:(fullL.filter fun x=>x.2.handleName?.isNone)=plainL:=by kernel_rfl
theorem filtS:(fullL.filter fun x=>x.2.handleName?.isSome)=[("errors.errorType",Rows.laid_errors_errorType)]:=by kernel_rfl
theorem met {W:World} (h:laidMetH Tryz.prog fullL W):laidMet Tryz.prog plainL W:=by
 unfold laidMetH at h
 rw[filtS,filtN] at h
 exact h.1
theorem laid_drop {P:Program} {w:World} {a:String × DataW Unit} {l:List (String × DataW Unit)} {ps:List MemPlace} (h:DataW.LaidVars P w (a::l) ps):∃ q,DataW.LaidVars P w l q∧q <:+ ps:=by
 obtain ⟨n,d⟩:=a
 obtain ⟨g,t,cs,fuel,p,q,h1,h2,h3,h4,h5,rfl⟩:=h
 exact ⟨q,h5,List.suffix_append _ _⟩
theorem cellsRow:Tryz.prog.cellsOf 303=64:=by kernel_rfl
theorem cellsOne:Tryz.prog.cellsOf 55=1:=by kernel_rfl
theorem tabRounds:(Rows.laid_haven_digest_roundConstants:DataW Unit)=Lib.tabData .u32 kList:=by kernel_rfl
theorem rounds_cells {W:World} (h:laidMet Tryz.prog plainL W):∀ i:Nat,i<64→W.cell? ⟨4,i,none⟩=some (.int .u32 (kTab i)):=by
 obtain ⟨ps,hv, -, -⟩:=h
 obtain ⟨g,t,cs,fuel,p,hg,hty,hvar,hd⟩:=Lib.LaidVars_reads hv "haven/digest.roundConstants" Rows.laid_haven_digest_roundConstants (.tail _ (.tail _ (.head _)))
 obtain rfl:=Option.some.inj ((show Tryz.prog.globalNamed "haven/digest.roundConstants" = some 4 by kernel_rfl).symm.trans hg)
 obtain rfl:=Option.some.inj ((show (Tryz.prog.globals[4]?).map (·.type)=some 303 by kernel_rfl).symm.trans hty)
 rw[tabRounds] at hd
 have hcs:=Lib.cells_of_tab Tryz.underlying303 Tryz.underlying55 cellsOne cellsRow hd
 intro i hi
 have:=World.var?_cell hg hvar i
 rw[this,← Array.getElem?_toList,hcs]
 have hl:kList.length=64:=rfl
 simp[kTab,List.getD,List.getElem?_eq_getElem (show i<kList.length by omega)]
theorem max_cell {W:World} (h:W.ShapedOpen Tryz.prog):∃ m,W.cell? ⟨3,0,none⟩=some (.int .i64 m) :=
 Go.Proofs.cell_of_shapedOpen_int (zero := #[.int .i64 0]) (t:=3) h (of_decide_eq_true (by kernel_rfl)) (by kernel_rfl) rfl (by kernel_rfl) (by kernel_rfl) Tryz.underlying3
theorem many_blocks {W:World} (h:W.ShapedOpen Tryz.prog):12≤W.heap.size:=by
 obtain ⟨cs,hh, -, -⟩:=h.1 11 (Array.replicate 64 (.int .u8 0)) 391 (of_decide_eq_true (by kernel_rfl)) (by kernel_rfl)
 have:=(Array.getElem?_eq_some_iff.1 hh).1
 omega
theorem powTy:(Tryz.prog.globals[5]?).map (·.type)=some 365:=by kernel_rfl
theorem cellsPow:Tryz.prog.cellsOf 365=20:=by kernel_rfl
theorem cellsOneP:Tryz.prog.cellsOf 330=1:=by kernel_rfl
theorem tabPow:(Rows.laid_internal_strconv_uint64pow10:DataW Unit)=Lib.tabData .u64 Lib.pow10Tab:=by kernel_rfl
theorem pow_tab {W:World} (h:laidMet Tryz.prog plainL W):Lib.TabIs Tryz.prog W "internal/strconv.uint64pow10" .u64 Lib.pow10Tab:=by
 obtain ⟨ps,hv, -, -⟩:=h
 obtain ⟨g,t,cs,fuel,p,hg,hty,hvar,hd⟩:=Lib.LaidVars_reads hv "internal/strconv.uint64pow10" Rows.laid_internal_strconv_uint64pow10 (.tail _ (.tail _ (.tail _ (.head _))))
 obtain rfl:=Option.some.inj ((show Tryz.prog.globalNamed "internal/strconv.uint64pow10" = some 5 by kernel_rfl).symm.trans hg)
 obtain rfl:=Option.some.inj (powTy.symm.trans hty)
 rw[tabPow] at hd
 have hcs:=Lib.cells_of_tab Tryz.underlying365 Tryz.underlying330 cellsOneP cellsPow hd
 unfold Lib.TabIs
 rw[hvar,← hcs]
theorem star : "*errors.errorString" = "*" ++ "errors.errorString" := by decide
theorem rowE (u:TypeId) (h:Tryz.prog.typeName? 3 u=some "*errors.errorString"):u=386 :=
 typeName_ptr_named (nm := "errors.errorString") (by rw[← star];kernel_rfl) (by kernel_rfl) (by decide) u (by rw[← star];exact h)
theorem cellsE:Tryz.prog.cellsOf 388=1:=by kernel_rfl
theorem cellsS:Tryz.prog.cellsOf 9=1:=by kernel_rfl
theorem tyPower:(Tryz.prog.globals[1]?).map (·.type)=some 64:=by kernel_rfl
theorem tyNothing:(Tryz.prog.globals[0]?).map (·.type)=some 64:=by kernel_rfl
theorem errs_of {W:World} (h:laidMet Tryz.prog plainL W):∃ x y,Errs x y W:=by
 obtain ⟨ps,hv,hnd,hrows⟩:=h
 obtain ⟨q1,v1,s1⟩:=laid_drop hv
 obtain ⟨q2,v2,s2⟩:=laid_drop v1
 obtain ⟨q3,v3,s3⟩:=laid_drop v2
 obtain ⟨q4,v4,s4⟩:=laid_drop v3
 obtain ⟨q5,v5,s5⟩:=laid_drop v4
 obtain ⟨q6,v6,s6⟩:=laid_drop v5
 obtain ⟨q7,v7,s7⟩:=laid_drop v6
 have hs:=((((((s7.trans s6).trans s5).trans s4).trans s3).trans s2).trans s1)
 have hnd7:=hnd.sublist hs.sublist
 have hr7:∀ b off,MemPlace.cell b off∈q7→(∃ c t,W.heap[b]? = some (.cells c t (0,0)))∧∀ u v,W.cell? ⟨b,off,none⟩=some (.iface u v)→Value.okWide Tryz.prog W .any 0 u v:=fun b off m=>hrows b off (hs.subset m)
 obtain ⟨g0,t0,cs0,f0,p0,r0,hg0,ht0,hv0,hd0,⟨g1,t1,cs1,f1,p1,r1,hg1,ht1,hv1,hd1, -,e1⟩,e0⟩:=v7
 obtain rfl:=Option.some.inj ((show Tryz.prog.globalNamed "haven/faults.ErrPower" = some 1 by kernel_rfl).symm.trans hg0)
 obtain rfl:=Option.some.inj ((show Tryz.prog.globalNamed "haven/store.ErrNothing" = some 0 by kernel_rfl).symm.trans hg1)
 obtain rfl:=Option.some.inj (tyPower.symm.trans ht0)
 obtain rfl:=Option.some.inj (tyNothing.symm.trans ht1)
 subst e1
 subst e0
 obtain ⟨l0⟩:=cs0
 obtain ⟨l1⟩:=cs1
 have ok0:∀ u v,l0=[.iface u v]→Value.okWide Tryz.prog W .any 0 u v:=fun u v e=>by
   subst e
   exact (hr7 1 0 (by simp[MemPlace.row])).2 u v (by simpa using World.var?_cell hg0 hv0 0)
 have ok1:∀ u v,l1=[.iface u v]→Value.okWide Tryz.prog W .any 0 u v:=fun u v e=>by
   subst e
   exact (hr7 0 0 (by simp[MemPlace.row])).2 u v (by simpa using World.var?_cell hg1 hv1 0)
 obtain ⟨a0,s0,rfl,hc0,hs0,hz0,rfl⟩:=errorString_of_trod Tryz.underlying64 rowE Tryz.underlying386 Tryz.underlying388 rfl rfl Tryz.underlying9 cellsE cellsS hd0 ok0
 obtain ⟨a1,s1,rfl,hc1,hs1,hz1,rfl⟩:=errorString_of_trod Tryz.underlying64 rowE Tryz.underlying386 Tryz.underlying388 rfl rfl Tryz.underlying9 cellsE cellsS hd1 ok1
 refine ⟨a1,a0,by simpa [errV] using World.var?_cell hg1 hv1 0,by simpa [errV] using World.var?_cell hg0 hv0 0,?_,(hr7 a1.block a1.off (by simp[MemPlace.row])).1,(hr7 a0.block a0.off (by simp[MemPlace.row])).1⟩
 rintro rfl
 simp[MemPlace.row] at hnd7
theorem base_of {W:World} (h:laidMet Tryz.prog plainL W) (hS:W.ShapedOpen Tryz.prog):Base W:=⟨many_blocks hS,max_cell hS,rounds_cells h,pow_tab h⟩
def flat {H:Type}:Nat→List (DataW H)→List Value
 | 0,_=>[]
 | _+1,[]=>[]
 | n+1, .lit (.int k x)::l => .int k x::flat n l
 | n+1, .agg l'::l=>flat n (l'++l)
 | n+1,_::l=>flat n l
def laidIn (cs:List Value):Obj→Obj
 | .cells _ t frozen => .cells cs.toArray t frozen
 | o=>o
noncomputable def low:Nat:=(World.holding Tryz.prog default ⟨#[], #[],[]⟩).heap.size
noncomputable def laidWorld (os:Os):World :=
 let w0:=World.holding Tryz.prog os ⟨#[.cells #[.string ⟨#[118,97,108,117,101,32,111,117,116,32,111,102,32,114,97,110,103,101]⟩] 388, .cells #[.string ⟨#[105,110,118,97,108,105,100,32,115,121,110,116,97,120]⟩] 388, .cells #[.string ⟨#[116,104,101,32,112,111,119,101,114,32,104,97,115,32,103,111,110,101]⟩] 388, .cells #[.string ⟨#[110,111,116,104,105,110,103,32,105,115,32,115,116,111,114,101,100]⟩] 388], #[],[]⟩
 { w0 with heap:=(((((((((((w0.heap.modify 8 (laidIn (flat 1000 [Rows.laid_unicode_utf8_first]))).modify 9 (laidIn (flat 1000 [Rows.laid_unicode_utf8_acceptRanges (H:=Unit)]))).modify 4 (laidIn (flat 1000 [Rows.laid_haven_digest_roundConstants (H:=Unit)]))).modify 5 (laidIn (flat 1000 [Rows.laid_internal_strconv_uint64pow10 (H:=Unit)]))).modify 10 (laidIn (flat 1000 [Rows.laid_math_bits_deBruijn32tab (H:=Unit)]))).modify 11 (laidIn (flat 1000 [Rows.laid_math_bits_deBruijn64tab (H:=Unit)]))).modify 7 (laidIn [.iface 386 (.pointer (some ⟨low+0,0,none⟩))])).modify 6 (laidIn [.iface 386 (.pointer (some ⟨low+1,0,none⟩))])).modify 1 (laidIn [.iface 386 (.pointer (some ⟨low+2,0,none⟩))])).modify 0 (laidIn [.iface 386 (.pointer (some ⟨low+3,0,none⟩))])).modify 2 (laidIn [.iface 251 (.agg #[typeHandle Tryz.prog 64])])) }
end CardKeep
end
section
open Go
namespace CardFactW
theorem closed_of {P:Program} {f:FuncId} {fn:Func} {s:ChangeSpec} {c:OpenClaim} (h0:(c.wf (OpenSpec.ofChange s):Bool)=true) (h1:(laidOutB P:Bool)=true) (h2:(mapsRowed P:Bool)=true) (h3:(fn.params.all (P.readableRec ·):Bool)=true) (h4:(namedTie P c.named s.vars:Bool)=true) (h5:((c.stops==[]):Bool)=true) (h6:((P.stops==[]):Bool)=true) (h7:((c.knobs==[]):Bool)=true) (h8:((P.stopKnobs==[]):Bool)=true) (h9:((c.inPlace==P.inPlace f):Bool)=true) (h10:((c.unfollowed==P.unfollowed f):Bool)=true) (h11:((c.recurses==P.recurses f):Bool)=true) (h12:((c.named==P.varsNamed f):Bool)=true) (h13:((c.maps==(fn.params.toList++s.plain.varTypes P).any (P.mapsRec ·)):Bool)=true) (h14:((c.ifaces==(fn.params.toList++s.plain.varTypes P).any (P.ifacesRec ·)):Bool)=true) (h15:((c.mapsOut==P.mapsAmong fn.resultTypes.toList):Bool)=true) (h16:((c.loops==(fn.params.toList++s.plain.varTypes P).any (P.loopsFrom ·)):Bool)=true) (h17:((c.wideKeys==(fn.params.toList++s.plain.varTypes P++fn.resultTypes.toList).any (P.wideKeysFrom ·)):Bool)=true) (h18:(s.vars.all (P.varReadable ·):Bool)=true) (h19:(fn.resultTypes.all (fun t=>P.readableRec t&&decide (t<P.types.size)):Bool)=true) (h20:((c.ifacesOut==fn.resultTypes.toList.any (P.ifacesRec ·)):Bool)=true) (h21:((c.loopsOut==fn.resultTypes.toList.any (P.loopsFrom ·)):Bool)=true) (h22:((c.plainKeys==P.plainKeys):Bool)=true) (h23:(c.shortTexts.isNone:Bool)=true) (h24:(P.stopsHeard:Bool)=true) (h25:(P.mayEnter:Bool)=true) (h26:((c.lifted==P.liftsFinal):Bool)=true) (h27:((P.make==some c.make):Bool)=true) (h28:((c.kinds==(if c.domain.isEmpty then [] else fn.params.toList.map fun t=>match P.underlying t with | some (.int k)=>some k | _=>none)):Bool)=true) (h29:((c.pinned==c.pinnedBy):Bool)=true) (h30:((c.veiled==(fn.params.toList++s.plain.varTypes P++fn.resultTypes.toList).any (P.veiledRec ·)):Bool)=true) (h31:(c.veiledFits P fn.params.toList (fn.params.toList++s.plain.varTypes P++fn.resultTypes.toList):Bool)=true):joinedFacts P f fn s c=true:=by
 unfold joinedFacts
 simp only[Bool.and_eq_true]
 exact ⟨⟨⟨⟨⟨⟨⟨⟨⟨⟨⟨⟨⟨⟨⟨⟨⟨⟨⟨⟨⟨⟨⟨⟨⟨⟨⟨⟨⟨⟨⟨h0,h1⟩,h2⟩,h3⟩,h4⟩,h5⟩,h6⟩,h7⟩,h8⟩,h9⟩,h10⟩,h11⟩,h12⟩,h13⟩,h14⟩,h15⟩,h16⟩,h17⟩,h18⟩,h19⟩,h20⟩,h21⟩,h22⟩,h23⟩,h24⟩,h25⟩,h26⟩,h27⟩,h28⟩,h29⟩,h30⟩,h31⟩
theorem fact0:(Rows.wokenRow.wf (OpenSpec.ofChange Rows.wokenSpec):Bool)=true:=by kernel_rfl
theorem fact1:(laidOutB Tryz.prog:Bool)=true:=by kernel_rfl
theorem fact2:(mapsRowed Tryz.prog:Bool)=true:=by kernel_rfl
theorem fact3:(Tryz.f4.params.all (Tryz.prog.readableRec ·):Bool)=true:=by kernel_rfl
theorem fact4:(namedTie Tryz.prog Rows.wokenRow.named Rows.wokenSpec.vars:Bool)=true:=by kernel_rfl
theorem fact5:((Rows.wokenRow.stops==[]):Bool)=true:=by kernel_rfl
theorem fact6:((Tryz.prog.stops==[]):Bool)=true:=by kernel_rfl
theorem fact7:((Rows.wokenRow.knobs==[]):Bool)=true:=by kernel_rfl
theorem fact8:((Tryz.prog.stopKnobs==[]):Bool)=true:=by kernel_rfl
theorem fact9:((Rows.wokenRow.inPlace==Tryz.prog.inPlace 4):Bool)=true:=by kernel_rfl
theorem fact10:((Rows.wokenRow.unfollowed==Tryz.prog.unfollowed 4):Bool)=true:=by kernel_rfl
theorem fact11:((Rows.wokenRow.recurses==Tryz.prog.recurses 4):Bool)=true:=by kernel_rfl
theorem fact12:((Rows.wokenRow.named==Tryz.prog.varsNamed 4):Bool)=true:=by kernel_rfl
theorem fact13:((Rows.wokenRow.maps==(Tryz.f4.params.toList++Rows.wokenSpec.plain.varTypes Tryz.prog).any (Tryz.prog.mapsRec ·)):Bool)=true:=by kernel_rfl
theorem fact14:((Rows.wokenRow.ifaces==(Tryz.f4.params.toList++Rows.wokenSpec.plain.varTypes Tryz.prog).any (Tryz.prog.ifacesRec ·)):Bool)=true:=by kernel_rfl
theorem fact15:((Rows.wokenRow.mapsOut==Tryz.prog.mapsAmong Tryz.f4.resultTypes.toList):Bool)=true:=by kernel_rfl
theorem fact16:((Rows.wokenRow.loops==(Tryz.f4.params.toList++Rows.wokenSpec.plain.varTypes Tryz.prog).any (Tryz.prog.loopsFrom ·)):Bool)=true:=by kernel_rfl
theorem fact17:((Rows.wokenRow.wideKeys==(Tryz.f4.params.toList++Rows.wokenSpec.plain.varTypes Tryz.prog++Tryz.f4.resultTypes.toList).any (Tryz.prog.wideKeysFrom ·)):Bool)=true:=by kernel_rfl
theorem fact18:(Rows.wokenSpec.vars.all (Tryz.prog.varReadable ·):Bool)=true:=by kernel_rfl
theorem fact19:(Tryz.f4.resultTypes.all (fun t=>Tryz.prog.readableRec t&&decide (t<Tryz.prog.types.size)):Bool)=true:=by kernel_rfl
theorem fact20:((Rows.wokenRow.ifacesOut==Tryz.f4.resultTypes.toList.any (Tryz.prog.ifacesRec ·)):Bool)=true:=by kernel_rfl
theorem fact21:((Rows.wokenRow.loopsOut==Tryz.f4.resultTypes.toList.any (Tryz.prog.loopsFrom ·)):Bool)=true:=by kernel_rfl
theorem fact22:((Rows.wokenRow.plainKeys==Tryz.prog.plainKeys):Bool)=true:=by kernel_rfl
theorem fact23:(Rows.wokenRow.shortTexts.isNone:Bool)=true:=by kernel_rfl
theorem fact24:(Tryz.prog.stopsHeard:Bool)=true:=by kernel_rfl
theorem fact25:(Tryz.prog.mayEnter:Bool)=true:=by kernel_rfl
theorem fact26:((Rows.wokenRow.lifted==Tryz.prog.liftsFinal):Bool)=true:=by kernel_rfl
theorem fact27:((Tryz.prog.make==some Rows.wokenRow.make):Bool)=true:=by kernel_rfl
theorem fact28:((Rows.wokenRow.kinds==(if Rows.wokenRow.domain.isEmpty then [] else Tryz.f4.params.toList.map fun t=>match Tryz.prog.underlying t with | some (.int k)=>some k | _=>none)):Bool)=true:=by kernel_rfl
theorem fact29:((Rows.wokenRow.pinned==Rows.wokenRow.pinnedBy):Bool)=true:=by kernel_rfl
theorem fact30:((Rows.wokenRow.veiled==(Tryz.f4.params.toList++Rows.wokenSpec.plain.varTypes Tryz.prog++Tryz.f4.resultTypes.toList).any (Tryz.prog.veiledRec ·)):Bool)=true:=by kernel_rfl
theorem fact31:(Rows.wokenRow.veiledFits Tryz.prog Tryz.f4.params.toList (Tryz.f4.params.toList++Rows.wokenSpec.plain.varTypes Tryz.prog++Tryz.f4.resultTypes.toList):Bool)=true:=by kernel_rfl
theorem closed:joinedFacts Tryz.prog 4 Tryz.f4 Rows.wokenSpec Rows.wokenRow=true :=
 closed_of (P:=Tryz.prog) fact0 fact1 fact2 fact3 fact4 fact5 fact6 fact7 fact8 fact9 fact10 fact11 fact12 fact13 fact14 fact15 fact16 fact17 fact18 fact19 fact20 fact21 fact22 fact23 fact24 fact25 fact26 fact27 fact28 fact29 fact30 fact31
end CardFactW
end
end Go.Proofs.YtialenebfcnkkaaGreatDoor
