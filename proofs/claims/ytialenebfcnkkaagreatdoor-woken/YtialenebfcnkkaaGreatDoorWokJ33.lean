/- WokW2 -/
import Derived.Test.YtialenebfcnkkaaGreatDoorWokJ32
set_option maxHeartbeats 8000000
set_option maxRecDepth 100000
namespace Go.Proofs.YtialenebfcnkkaaGreatDoor
section
open Go.RowKit
open Arc (St Cmd)
open Hv (S Dk VM Mild ShelfD CountG Ks itemAt nextV risePaths)
theorem woken_any (a b:Int) (ha : -9223372036854775808≤a∧a≤9223372036854775807) (hb' : -9223372036854775808≤b∧b≤9223372036854775807) (x y:Addr) (w:World) (hbs:Base w) (hE:Errs x y w) :
   Calls Tryz.prog 4 #[.int .i64 a, .int .i64 b] w fun e w'=>e = .returned (.bool true)∧Below w.heap.size w w':=by
 have HBs:=hide hbs;have HE:=hide hE
 obtain ⟨ha1,ha2⟩:=ha
 obtain ⟨hb1',hb2'⟩:=hb'
 have hG:=hbs.size
 clear hbs hE
 go_enter Tryz.func4,Tryz.ntmps4
 go_wp2_with fail
 refine (blank_any 300 (by omega) (by omega) w).mono ?_
 rintro e w1 ⟨rfl,hd1,hb1⟩
 have HB1:=hide hb1
 have HA1:=hide (show Away x y (fun k=>w.heap.size≤k∧k<w1.heap.size) from fun k hk=>by
   obtain ⟨ca,ta,h1⟩:=HE.out.atA
   obtain ⟨cb,tb,h2⟩:=HE.out.atB
   have l1:=blt h1
   have l2:=blt h2
   exact ⟨by omega,by omega,by omega⟩)
 have HFR:=hide (fresh_any (C:=fun k=>w.heap.size≤k∧k<w1.heap.size) w.heap.size x y w1 hd1 (HBs.out.below hb1 hG) (HE.out.below hb1) HA1.out)
 have hs1:=hb1.size
 clear hd1 hb1 HA1
 go_wp2_with fail
 refine HFR.out.mono ?_
 rintro e w2 ⟨hb,F,rfl,hr2,hf2,hk2⟩
 have HR2:=hide hr2
 have HB2:=hide (far_below HB1.out hf2 (fun q hq e=>by omega))
 have HK2:=hide (show ∀ k,F k→w.heap.size≤k from fun k q=>by
   rcases hk2 k q with q | q
   · exact q.1
   · omega)
 clear hr2 hf2 hk2 HFR HB1
 go_wp2_with fail
 show Calls Tryz.prog 10 #[.pointer (some ⟨hb,0,none⟩), .slice (some ⟨w2.heap.size,0,none⟩) 1 1] (w2.alloc (.cells #[.string ⟨(43::Hv.menuT).toArray⟩] 9)) _
 obtain ⟨mt,hmt⟩:∃ mt:S,43::Hv.menuT=mt:=⟨_,rfl⟩
 have HMT:=hide hmt
 rw[hmt]
 have hb3:=(Below.refl w2.heap.size w2).alloc (Nat.le_refl _) (.cells #[.string ⟨mt.toArray⟩] 9)
 have HR3:=hide (HR2.out.below hb3)
 have HB3:=hide (HB2.out.trans (hb3.mono HB2.out.size))
 have HV3:=hide (reads_one (w:=w2) mt 9)
 have hlt2:=HR2.out.lt
 have HVA:=hide (show ∀ g,(Value.slice (some ⟨w2.heap.size,0,none⟩) 1 1).ownBlock=some g → ¬ F g from fun g hg q=>by
   have e:w2.heap.size=g:=Option.some.inj hg
   have:=hlt2 g q
   omega)
 obtain ⟨u2,hu2⟩:∃ u,w2.alloc (.cells #[.string ⟨mt.toArray⟩] 9)=u:=⟨_,rfl⟩
 rw[hu2] at HR3 HB3 HV3 ⊢
 obtain ⟨n2,hn2⟩:∃ n,w2.heap.size=n:=⟨_,rfl⟩
 rw[hn2] at HV3 HVA ⊢
 obtain ⟨pl1,k1,k2,k3,k4⟩:=menu_in
 rw[HMT.out] at k1 k3
 have hml:∀ q∈[mt],q.length≤100000:=fun q hq=>by
   have e:q=mt:=by simpa using hq
   rw[e,← HMT.out,List.length_cons];decide
 have HBG:=hide (run_begin_ok _ [mt] pl1 [(Hv.wMenu,Hv.menuPD 2)] [] k1 k2 k4 hml mild_nil k3 (by omega) u2 HR3.out HV3.out HVA.out)
 clear k1 k2 k3 k4 hb3 hlt2 hu2 hn2 HR2 hml hmt HMT
 refine HBG.out.mono ?_
 rintro e w4 ⟨F1,rfl,q1,q2,q3⟩
 have HR4:=hide q1
 have HK4:=hide (show ∀ k,F1 k→w.heap.size≤k from fun k q=>by
   rcases q3 k q with q | q
   · exact HK2.out k q
   · have:=HB3.out.size;omega)
 have HB4:=hide (far_below HB3.out q2 (fun q hq e=>by have:=HK2.out q e;omega))
 clear q1 q2 q3 HBG HR3 HV3 HVA HB2 HB3 HK2
 go_wp2_with fail
 have hun:Wd.under Hv.wVMenu=true:=by decide
 have HMS:=hide menu_shelf
 have hM0:Mild [(Hv.wMenu,Hv.menuPD 2)] []:=shelf_mild menu_shelf (fun j _=>by omega) count_nil
 refine (run_content hM0 Hv.wVMenu hun w4 HR4.out).mono ?_
 rintro e w5 ⟨rfl,q1,q2⟩
 have HR5:=hide q1
 have HB5:=hide (far_below HB4.out q2 (fun q hq e=>by have:=HK4.out q e;omega))
 obtain ⟨D0,hD0⟩:∃ D0,[(Hv.wMenu,Hv.menuPD 2)]=D0:=⟨_,rfl⟩
 rw[hD0] at HR5 HMS
 clear q1 q2 HR4 HB4 hM0 hD0
 rw[show (Hv.get ([]:VM S) Hv.wVMenu).getD []=[] from rfl]
 go_wp2_with fail
 have hs5:=HB5.out.size
 have hrow:=heap_alloc_new w5 (.cells #[.int .i64 0, .int .i64 0, .int .i64 0, .int .i64 0, .int .i64 0, .int .i64 0] 39)
 have hb6:=(Below.refl w5.heap.size w5).alloc (Nat.le_refl _) (.cells #[.int .i64 0, .int .i64 0, .int .i64 0, .int .i64 0, .int .i64 0, .int .i64 0] 39)
 have HI0:Hid (OutW w5.heap.size hb w.heap.size w 0 1 (fun _=>0) (7000000+3000000) F1 D0 [] (w5.alloc (.cells #[.int .i64 0, .int .i64 0, .int .i64 0, .int .i64 0, .int .i64 0, .int .i64 0] 39))) :=
   hide ⟨HMS.out,count_nil,fun j _=>by omega,hrow,HR5.out.below hb6,by unfold VB;decide,fun q=>by have:=HR5.out.lt _ q;omega,HK4.out,hs5,HB5.out.trans (hb6.mono hs5)⟩
 obtain ⟨u5,hu5⟩:∃ u,w5.alloc (.cells #[.int .i64 0, .int .i64 0, .int .i64 0, .int .i64 0, .int .i64 0, .int .i64 0] 39)=u:=⟨_,rfl⟩
 obtain ⟨vb,hvb⟩:∃ vb,w5.heap.size=vb:=⟨_,rfl⟩
 rw[hu5,hvb] at HI0
 rw[hu5,hvb]
 clear hu5 hvb hrow hb6 HMS HR5 HB5 HK4 hs5 hs1 HBs HE
 obtain ⟨i0,hi,hz0,hz1,hz2⟩:=info_three info_str
 go_loopw [11,12] (fun c r wr=>∃ (cn rn:Nat) (V:Nat→Nat) (Vn:Nat) (F:Nat→Prop) (D:VM Hv.PD) (G:VM S),1≤rn∧rn≤3∧cn<rn∧c = .int .i64 (cn:Int)∧r = .int .i64 (rn:Int)∧Hid (OutW vb hb w.heap.size w cn rn V Vn F D G wr)) (fun _ r _=>3-(intOf r).toNat)
 case atStart=>exact ⟨0,1,_,_,_,_,_,by omega,by omega,by omega,rfl,rfl,HI0⟩
 case round =>
   clear HI0
   obtain ⟨cn,rn,V,Vn,F,D,G,hr1,hr3,hcr,rfl,rfl,HI⟩:=hrel
   by_cases hlt:rn<3
   · have hpa := pickN_any a 64 (by omega) (by omega) ha1 ha2 wr
     have hpb:=pickN_any b 64 (by omega) (by omega) hb1' hb2' wr
     have h12:rn=1∨rn=2:=by omega
     rcases h12 with rfl | rfl
     · rw[show ((1:Nat):Int)=1 from rfl]
       go_wp2_with (go_at_call 7;refine hpa.mono ?_;rintro e w6 ⟨rfl,rfl⟩)
       obtain ⟨sv,hsv,hs64⟩:=pk_nat a
       rw[hsv]
       clear hsv hpa hpb
       obtain ⟨wo,hwo⟩:∃ wo,wo=w6:=⟨w6,rfl⟩
       subst hwo
       have HIN0:Hid (InW V 1 (bitOf sv) vb hb Vn F D G wo 0 none 0 0 wo):=hide ⟨rfl,World.ownsRow_nil _ _ _ _,(by rw[show upK (bitOf sv) 0=[] from rfl,next_nil];exact HI.out.arr),HI.out.run,Far.refl _ _ _⟩
       go_loopw [14,15,16] (fun l s i wr2=>∃ (m:Nat) (lo:Option Addr) (n lc:Nat) (z:S),m≤6∧l = .slice lo n lc∧s = .string ⟨z.toArray⟩∧i = .int .i64 (5-(m:Int))∧n≤6∧z.length≤100∧Hid (z=linesS (risePaths (upK (bitOf sv) m)))∧Hid (InW V 1 (bitOf sv) vb hb Vn F D G wo m lo n lc wr2)) (fun _ _ i _=>(intOf i+1).toNat)
       case atStart=>exact ⟨0,none,0,0,[],by omega,rfl,rfl,rfl,by omega,by simp,hide rfl,HIN0⟩
       case round =>
         clear HIN0
         obtain ⟨m,lo,n,lc,z,hm6,rfl,rfl,rfl,hn6,hz100,HZ,HIN⟩:=hrel
         by_cases hm:m<6
         · obtain ⟨j,hj,hj6⟩:∃ j,5-m=j∧j<6:=⟨_,rfl,by omega⟩
           have hji:5-(m:Int)=(j:Int):=by omega
           rw[hji]
           have j0:(0:Int)≤(j:Int):=by omega
           have j64:(j:Int)≤64:=by omega
           cases hbt:bitOf sv j with
           | false =>
             have hb0:=bit_no hs64 hbt
             have HIN2:=hide (HIN.out.skip (by rw[hj];exact hbt))
             have HZ2:Hid (z=linesS (risePaths (upK (bitOf sv) (m+1)))):=hide (by rw[upK_skip (by rw[hj];exact hbt)];exact HZ.out)
             clear hbt
             go_wp2_with fail
             go_roundw
             case rel=>exact ⟨m+1,_,_,_,z,by omega,rfl,rfl,(by first | rfl | exact congrArg (Value.int .i64) (by omega)),hn6,hz100,HZ2,HIN2⟩
             case measure=>first | (simp[intOf];done) | (simp[intOf];omega)
           | true =>
             have hb0:=bit_yes hs64 hbt
             have HBT:=hide hbt
             have c0:=arr6_at HIN.out.arr hj6
             rw[next_old (by rw[← hj];exact upK_new hm)] at c0
             have hbm:bitOf sv (5-m)=true:=by rw[hj];exact hbt
             have HZ2:Hid (Hv.binP [ltr j]++[10]++z=linesS (risePaths (upK (bitOf sv) (m+1)))):=hide (by rw[upK_take hbm,hj,rise_snoc,← HZ.out])
             have HZS:Hid ((((⟨#[47,98,105,110,47]⟩:ByteArray)++⟨([ltr j]:S).toArray⟩)++⟨#[10]⟩)++⟨z.toArray⟩=⟨(Hv.binP [ltr j]++[10]++z).toArray⟩):=hide (by
               rw[← list_append,← list_append,Hv.binP,← list_append])
             have hz2l:(Hv.binP [ltr j]++[10]++z).length≤100:=by
               have e:=HZ2.out
               rw[e,Hv.rise_lines_len]
               have:=(upK_ks (bitOf sv) (m+1) (by omega)).len
               omega
             have j6:(j:Int)<6:=by omega
             have hn7:n+1≤6:=by
               have e:=HIN.out.num
               have:=(upK_ks (bitOf sv) (m+1) (by omega)).len
               rw[upK_take hbm,List.length_append] at this
               simp at this
               omega
             obtain ⟨xs,hxs⟩:∃ xs,((upK (bitOf sv) m).map (itemAt V 1)).map strV=xs:=⟨_,rfl⟩
             have HXS:=hide hxs
             have HRO:=hide (show wr.ownsRow wo.heap.size 9 1 (.slice lo n lc) n xs by rw[← hxs];exact HIN.out.row)
             have HVL:=hide (blt HI.out.arr)
             have hvl:=HVL.out
             have hgs:=HIN.out.far.size
             have hvw:=Nat.lt_of_lt_of_le hvl hgs
             clear hbt hxs hbm
             by_cases hg:Hv.goes V j
             · have HGO:=hide hg
               obtain ⟨hv0,hj0⟩:=hg
               have hje:((j:Int)%2==0)=true:=by rw[show (j:Int)%2=0 by omega];rfl
               have HST:Hid (Value.string ((⟨#[45]⟩:ByteArray)++⟨([ltr j]:S).toArray⟩)=strV (itemAt V 1 j)):=hide (by
                 unfold itemAt;rw[if_pos HGO.out]
                 show _=Value.string ⟨([45]++[ltr j]:S).toArray⟩
                 rw[← list_append])
               clear hj0
               go_wp2_with (first
                 | (go_at_call 8;refine (letter_any j hj6 _).mono ?_;rintro e w7 ⟨rfl,hw7⟩;have hw7':=hw7.symm;subst hw7';clear hw7)
                 | (at_builtin;refine wpList_append_own_at _ rfl _ _ 28 rfl wo.heap.size 9 i0 (.string ByteArray.empty) 1 16 Tryz.underlying28 hi hz0 hz1 hz2 rfl (by decide) _ _ _ rfl (HRO.out.alloc _) ⟨_,0,none⟩ 1 1 [_] rfl rfl (cell_one_new _ _ _) (fun x hx=>by simp at hx;subst hx;rfl) (by unfold maxLen;omega) (by omega) (by simp;omega) ?_;intro v' w8 hown' hgrow8 hnil8 hat8;obtain ⟨gv,cv,rfl⟩:=own_form hown' (by omega);have O8:=hide hown';have G8:=hide hgrow8;have hA8:=(hgrow8.block vb (by simp;omega) (fun e=>by have:=(HRO.out.lt vb e.symm).1;omega)).trans ((Below.heap_alloc _ _ _ (by omega)).trans HIN.out.arr);have c8:=(row_cell hA8 j).trans ((row_cell HIN.out.arr j).symm.trans (arr6_at HIN.out.arr hj6));have f8:=row_free hA8 j;clear hown' hgrow8 hnil8 hat8 hA8))
               have HIN3:=hide (by
                 have h:=InW.next HIN.out (show bitOf sv (5-m)=true by rw[hj];exact HBT.out) hm hj (Below.refl _ _) G8.out (by rw[HXS.out,← HST.out];exact O8.out) hvl HI.out.off (fun k q=>HI.out.run.lt k q) (by have:=HI.out.at_;omega)
                 rw[next_at,if_pos HGO.out] at h
                 exact h)
               clear O8 G8 c8 f8
               go_roundw
               case rel=>exact ⟨m+1,_,_,_,_,by omega,rfl,congrArg Value.string HZS.out,(by first | rfl | exact congrArg (Value.int .i64) (by omega)),hn7,hz2l,HZ2,HIN3⟩
               case measure=>first | (simp[intOf];done) | (simp[intOf];omega)
             · have HGO:=hide hg
               have hcase : ¬ (0<V j)∨(0<V j∧((j:Int)%2==0)=false):=by
                 by_cases hv0:0<V j
                 · refine .inr ⟨hv0,?_⟩
                   have : ¬ j%2=0:=fun q=>hg ⟨hv0,q⟩
                   rw[show (j:Int)%2=1 by omega];rfl
                 · exact .inl hv0
               have HAR:Hid (arcS [ltr j] 1 [] []=itemAt V 1 j):=hide (by
                 unfold itemAt;rw[if_neg HGO.out]
                 exact arc_made j (.inl rfl) [] false)
               clear hg
               rcases hcase with hv0 | ⟨hv0,hje⟩
               all_goals
                 go_wp2_with (first
                   | (go_at_call 8;refine (letter_any j hj6 _).mono ?_;rintro e w7 ⟨rfl,hw7⟩;have hw7':=hw7.symm;subst hw7';clear hw7)
                   | (go_at_call 9;refine (archive_any [ltr j] [] [] 1 (by omega) (by simp) (by simp) (by simp) _).mono ?_;rintro e wq ⟨rfl,hbq⟩;have HBQ:=hide hbq;have hqs:=hbq.size;rw[HAR.out];clear hbq)
                   | (at_builtin;refine wpList_append_own_at _ rfl _ _ 28 rfl wo.heap.size 9 i0 (.string ByteArray.empty) 1 16 Tryz.underlying28 hi hz0 hz1 hz2 rfl (by decide) _ _ _ rfl ((own_below HRO.out HBQ.out).alloc _) ⟨_,0,none⟩ 1 1 [_] rfl rfl (cell_one_new _ _ _) (fun x hx=>by simp at hx;subst hx;rfl) (by unfold maxLen;omega) (by omega) (by simp;omega) ?_;intro v' w8 hown' hgrow8 hnil8 hat8;obtain ⟨gv,cv,rfl⟩:=own_form hown' (by omega);have O8:=hide hown';have G8:=hide hgrow8;have hA8:=(hgrow8.block vb (by simp;omega) (fun e=>by have:=(HRO.out.lt vb e.symm).1;omega)).trans (((Below.heap_alloc _ _ _ (by omega)).trans (HBQ.out.block vb (by omega))).trans HIN.out.arr);have c8:=(row_cell hA8 j).trans ((row_cell HIN.out.arr j).symm.trans (arr6_at HIN.out.arr hj6));have f8:=row_free hA8 j;clear hown' hgrow8 hnil8 hat8 hA8))
                 have HIN3:=hide (by
                   have h:=InW.next HIN.out (show bitOf sv (5-m)=true by rw[hj];exact HBT.out) hm hj HBQ.out G8.out (by rw[HXS.out];exact O8.out) hvl HI.out.off (fun k q=>HI.out.run.lt k q) (by have:=HI.out.at_;omega)
                   rw[next_at,if_neg HGO.out] at h
                   exact h)
                 clear O8 G8 c8 f8
                 go_roundw
                 case rel=>exact ⟨m+1,_,_,_,_,by omega,rfl,congrArg Value.string HZS.out,(by first | rfl | exact congrArg (Value.int .i64) (by omega)),hn7,hz2l,HZ2,HIN3⟩
                 case measure=>first | (simp[intOf];done) | (simp[intOf];omega)
         · obtain rfl:m=6:=by omega
           rw[show (5:Int)-((6:Nat):Int) = -1 from rfl]
           have HKS:=hide (upK_ks (bitOf sv) 6 (Nat.le_refl _))
           obtain ⟨ks,hks⟩:∃ ks,upK (bitOf sv) 6=ks:=⟨_,rfl⟩
           have HIN6:=hide (HIN.out.whole hks)
           rw[hks] at HZ HKS
           clear hks HIN
           by_cases hn0:n=0
           · subst hn0
             have HO2:=hide (HI.out.same rfl HIN6.out)
             go_wp2_with fail
             go_roundw
             case rel=>exact ⟨cn,1+1,_,_,_,_,_,by omega,by omega,by omega,rfl,by first | rfl | go_num,HO2⟩
             case measure=>first | (simp[intOf];done) | (simp[intOf];omega)
           · have hne:ks≠[]:=fun e=>hn0 (by rw[HIN6.out.num,e];rfl)
             obtain ⟨pl,D',p1,p2,p3,p4,p5⟩:=Hv.woken_round HI.out.shelf HI.out.count (by omega) (r:=1) (by first | exact .inl rfl | exact .inr rfl) HI.out.low HKS.out hne
             have HSH:=hide p5
             have HCT:=hide (HI.out.count.told (by omega) HKS.out)
             have hVl:∀ j,j<6→nextV V 1 ks j<1+1:=Hv.nextV_lt HI.out.low
             have HVL:=hide hVl
             have HML:=hide (shelf_mild p5 (fun j hj=>by have:=hVl j hj;omega) HCT.out.1)
             have hRD:=reads_row (by rw[List.length_map];exact HIN6.out.num) HIN6.out.row
             have HBG:=hide (run_begin_ok _ _ pl D' (Hv.toldG G ks) p1 p2 p4 (fun q hq=>by obtain ⟨j,_,rfl⟩:=List.mem_map.1 hq;have:=Hv.itemAt_len V 1 j;omega) (shelf_mild HI.out.shelf (fun j hj=>by have:=HI.out.low j hj;omega) HI.out.count) p3 (HI.out.vol.few (by omega)) wr HIN6.out.run hRD (fun g hg q=>by have:=(HIN6.out.row.lt g hg).1;have:=HI.out.run.lt g q;omega))
             have hn1 : ¬ (n:Int)=0:=by omega
             have hcn:cn≤3:=by omega
             clear p1 p2 p3 p4 p5 hRD hVl
             go_wp2_with fail
             refine HBG.out.mono ?_
             rintro e w7 ⟨F',rfl,q1,q2,q3⟩
             have HA7:=hide (HI.out.begun HIN6.out q1 q2 q3)
             clear q1 q2 q3 HBG
             go_wp2_with fail
             refine (run_content HML.out Hv.wVMenu hun w7 HA7.out.run).mono ?_
             rintro e w8 ⟨rfl,q1,q2⟩
             have HA8:=hide (HA7.out.far q1 q2)
             rw[HCT.out.2.1,Option.getD_some]
             obtain ⟨zz,hzz⟩:∃ zz,linesS (risePaths ks)=zz:=⟨_,rfl⟩
             have hze:(zz==z)=true:=by rw[← hzz,← HZ.out];simp
             rw[hzz]
             clear q1 q2 HA7 hzz
             go_wp2_with fail
             obtain ⟨cx,c1,c2⟩:=HCT.out.2.2
             have hunc:Wd.under Hv.wVCount=true:=by decide
             refine (run_content HML.out Hv.wVCount hunc w8 HA8.out.run).mono ?_
             rintro e w9 ⟨rfl,q1,q2⟩
             have HA9:=hide (HA8.out.far q1 q2)
             rw[c1,Option.getD_some]
             have hc2:(cx.length:Int)=(cn:Int)+1:=by omega
             clear q1 q2 HA8 c1 c2
             go_wp2_with fail
             refine (run_packs HML.out w9 HA9.out.run).mono ?_
             rintro e w10 ⟨v,rfl,q0,q1,q2⟩
             have HA10:=hide (HA9.out.far q1 q2)
             obtain ⟨nd,nd1,nd6,ndl⟩:=shelf_last HSH.out
             obtain ⟨gl,gc,rfl,l1,l2⟩:=told_last nd1 ndl q0
             have l1':w10.cell? ⟨gl,nd*3,none⟩=some (.string ⟨#[109,101,110,117]⟩):=l1
             have l2':w10.cell? ⟨gl,nd*3+2,none⟩=some (.int .i64 2):=l2
             clear q0 q1 q2 HA9 l1 l2 ndl nd1
             go_wp2_with fail
             have HO2:=hide (HA10.out.out HSH.out HCT.out.1 HVL.out HI.out.vol.next HI.out.at_)
             clear HA10 l1' l2' hze hc2
             go_roundw
             case rel=>exact ⟨cn+1,1+1,_,_,_,_,_,by omega,by omega,by omega,(by first | rfl | go_num),(by first | rfl | go_num),HO2⟩
             case measure=>first | (simp[intOf];done) | (simp[intOf];omega)
     · rw[show ((2:Nat):Int)=2 from rfl]
       go_wp2_with fail
       refine hpa.mono ?_
       rintro e w6 ⟨rfl,rfl⟩
       go_wp2_with fail
       refine hpb.mono ?_
       rintro e w7 ⟨rfl,rfl⟩
       go_wp2_with fail
       obtain ⟨sv,hsv,hs64⟩:=pk_nat b
       rw[hsv]
       clear hsv hpa hpb
       obtain ⟨wo,hwo⟩:∃ wo,wo=w7:=⟨w7,rfl⟩
       subst hwo
       have HIN0:Hid (InW V 2 (bitOf sv) vb hb Vn F D G wo 0 none 0 0 wo):=hide ⟨rfl,World.ownsRow_nil _ _ _ _,(by rw[show upK (bitOf sv) 0=[] from rfl,next_nil];exact HI.out.arr),HI.out.run,Far.refl _ _ _⟩
       go_loopw [14,15,16] (fun l s i wr2=>∃ (m:Nat) (lo:Option Addr) (n lc:Nat) (z:S),m≤6∧l = .slice lo n lc∧s = .string ⟨z.toArray⟩∧i = .int .i64 (5-(m:Int))∧n≤6∧z.length≤100∧Hid (z=linesS (risePaths (upK (bitOf sv) m)))∧Hid (InW V 2 (bitOf sv) vb hb Vn F D G wo m lo n lc wr2)) (fun _ _ i _=>(intOf i+1).toNat)
       case atStart=>exact ⟨0,none,0,0,[],by omega,rfl,rfl,rfl,by omega,by simp,hide rfl,HIN0⟩
       case round =>
         clear HIN0
         obtain ⟨m,lo,n,lc,z,hm6,rfl,rfl,rfl,hn6,hz100,HZ,HIN⟩:=hrel
         by_cases hm:m<6
         · obtain ⟨j,hj,hj6⟩:∃ j,5-m=j∧j<6:=⟨_,rfl,by omega⟩
           have hji:5-(m:Int)=(j:Int):=by omega
           rw[hji]
           have j0:(0:Int)≤(j:Int):=by omega
           have j64:(j:Int)≤64:=by omega
           cases hbt:bitOf sv j with
           | false =>
             have hb0:=bit_no hs64 hbt
             have HIN2:=hide (HIN.out.skip (by rw[hj];exact hbt))
             have HZ2:Hid (z=linesS (risePaths (upK (bitOf sv) (m+1)))):=hide (by rw[upK_skip (by rw[hj];exact hbt)];exact HZ.out)
             clear hbt
             go_wp2_with fail
             go_roundw
             case rel=>exact ⟨m+1,_,_,_,z,by omega,rfl,rfl,(by first | rfl | exact congrArg (Value.int .i64) (by omega)),hn6,hz100,HZ2,HIN2⟩
             case measure=>first | (simp[intOf];done) | (simp[intOf];omega)
           | true =>
             have hb0:=bit_yes hs64 hbt
             have HBT:=hide hbt
             have c0:=arr6_at HIN.out.arr hj6
             rw[next_old (by rw[← hj];exact upK_new hm)] at c0
             have hbm:bitOf sv (5-m)=true:=by rw[hj];exact hbt
             have HZ2:Hid (Hv.binP [ltr j]++[10]++z=linesS (risePaths (upK (bitOf sv) (m+1)))):=hide (by rw[upK_take hbm,hj,rise_snoc,← HZ.out])
             have HZS:Hid ((((⟨#[47,98,105,110,47]⟩:ByteArray)++⟨([ltr j]:S).toArray⟩)++⟨#[10]⟩)++⟨z.toArray⟩=⟨(Hv.binP [ltr j]++[10]++z).toArray⟩):=hide (by
               rw[← list_append,← list_append,Hv.binP,← list_append])
             have hz2l:(Hv.binP [ltr j]++[10]++z).length≤100:=by
               have e:=HZ2.out
               rw[e,Hv.rise_lines_len]
               have:=(upK_ks (bitOf sv) (m+1) (by omega)).len
               omega
             have j6:(j:Int)<6:=by omega
             have hn7:n+1≤6:=by
               have e:=HIN.out.num
               have:=(upK_ks (bitOf sv) (m+1) (by omega)).len
               rw[upK_take hbm,List.length_append] at this
               simp at this
               omega
             obtain ⟨xs,hxs⟩:∃ xs,((upK (bitOf sv) m).map (itemAt V 2)).map strV=xs:=⟨_,rfl⟩
             have HXS:=hide hxs
             have HRO:=hide (show wr.ownsRow wo.heap.size 9 1 (.slice lo n lc) n xs by rw[← hxs];exact HIN.out.row)
             have HVL:=hide (blt HI.out.arr)
             have hvl:=HVL.out
             have hgs:=HIN.out.far.size
             have hvw:=Nat.lt_of_lt_of_le hvl hgs
             clear hbt hxs hbm
             by_cases hg:Hv.goes V j
             · have HGO:=hide hg
               obtain ⟨hv0,hj0⟩:=hg
               have hje:((j:Int)%2==0)=true:=by rw[show (j:Int)%2=0 by omega];rfl
               have HST:Hid (Value.string ((⟨#[45]⟩:ByteArray)++⟨([ltr j]:S).toArray⟩)=strV (itemAt V 2 j)):=hide (by
                 unfold itemAt;rw[if_pos HGO.out]
                 show _=Value.string ⟨([45]++[ltr j]:S).toArray⟩
                 rw[← list_append])
               clear hj0
               go_wp2_with (first
                 | (go_at_call 8;refine (letter_any j hj6 _).mono ?_;rintro e w7 ⟨rfl,hw7⟩;have hw7':=hw7.symm;subst hw7';clear hw7)
                 | (at_builtin;refine wpList_append_own_at _ rfl _ _ 28 rfl wo.heap.size 9 i0 (.string ByteArray.empty) 1 16 Tryz.underlying28 hi hz0 hz1 hz2 rfl (by decide) _ _ _ rfl (HRO.out.alloc _) ⟨_,0,none⟩ 1 1 [_] rfl rfl (cell_one_new _ _ _) (fun x hx=>by simp at hx;subst hx;rfl) (by unfold maxLen;omega) (by omega) (by simp;omega) ?_;intro v' w8 hown' hgrow8 hnil8 hat8;obtain ⟨gv,cv,rfl⟩:=own_form hown' (by omega);have O8:=hide hown';have G8:=hide hgrow8;have hA8:=(hgrow8.block vb (by simp;omega) (fun e=>by have:=(HRO.out.lt vb e.symm).1;omega)).trans ((Below.heap_alloc _ _ _ (by omega)).trans HIN.out.arr);have c8:=(row_cell hA8 j).trans ((row_cell HIN.out.arr j).symm.trans (arr6_at HIN.out.arr hj6));have f8:=row_free hA8 j;clear hown' hgrow8 hnil8 hat8 hA8))
               have HIN3:=hide (by
                 have h:=InW.next HIN.out (show bitOf sv (5-m)=true by rw[hj];exact HBT.out) hm hj (Below.refl _ _) G8.out (by rw[HXS.out,← HST.out];exact O8.out) hvl HI.out.off (fun k q=>HI.out.run.lt k q) (by have:=HI.out.at_;omega)
                 rw[next_at,if_pos HGO.out] at h
                 exact h)
               clear O8 G8 c8 f8
               go_roundw
               case rel=>exact ⟨m+1,_,_,_,_,by omega,rfl,congrArg Value.string HZS.out,(by first | rfl | exact congrArg (Value.int .i64) (by omega)),hn7,hz2l,HZ2,HIN3⟩
               case measure=>first | (simp[intOf];done) | (simp[intOf];omega)
             · have HGO:=hide hg
               have hcase : ¬ (0<V j)∨(0<V j∧((j:Int)%2==0)=false):=by
                 by_cases hv0:0<V j
                 · refine .inr ⟨hv0,?_⟩
                   have : ¬ j%2=0:=fun q=>hg ⟨hv0,q⟩
                   rw[show (j:Int)%2=1 by omega];rfl
                 · exact .inl hv0
               have HAR:Hid (arcS [ltr j] 2 [] []=itemAt V 2 j):=hide (by
                 unfold itemAt;rw[if_neg HGO.out]
                 exact arc_made j (.inr rfl) [] false)
               clear hg
               rcases hcase with hv0 | ⟨hv0,hje⟩
               all_goals
                 go_wp2_with (first
                   | (go_at_call 8;refine (letter_any j hj6 _).mono ?_;rintro e w7 ⟨rfl,hw7⟩;have hw7':=hw7.symm;subst hw7';clear hw7)
                   | (go_at_call 9;refine (archive_any [ltr j] [] [] 2 (by omega) (by simp) (by simp) (by simp) _).mono ?_;rintro e wq ⟨rfl,hbq⟩;have HBQ:=hide hbq;have hqs:=hbq.size;rw[HAR.out];clear hbq)
                   | (at_builtin;refine wpList_append_own_at _ rfl _ _ 28 rfl wo.heap.size 9 i0 (.string ByteArray.empty) 1 16 Tryz.underlying28 hi hz0 hz1 hz2 rfl (by decide) _ _ _ rfl ((own_below HRO.out HBQ.out).alloc _) ⟨_,0,none⟩ 1 1 [_] rfl rfl (cell_one_new _ _ _) (fun x hx=>by simp at hx;subst hx;rfl) (by unfold maxLen;omega) (by omega) (by simp;omega) ?_;intro v' w8 hown' hgrow8 hnil8 hat8;obtain ⟨gv,cv,rfl⟩:=own_form hown' (by omega);have O8:=hide hown';have G8:=hide hgrow8;have hA8:=(hgrow8.block vb (by simp;omega) (fun e=>by have:=(HRO.out.lt vb e.symm).1;omega)).trans (((Below.heap_alloc _ _ _ (by omega)).trans (HBQ.out.block vb (by omega))).trans HIN.out.arr);have c8:=(row_cell hA8 j).trans ((row_cell HIN.out.arr j).symm.trans (arr6_at HIN.out.arr hj6));have f8:=row_free hA8 j;clear hown' hgrow8 hnil8 hat8 hA8))
                 have HIN3:=hide (by
                   have h:=InW.next HIN.out (show bitOf sv (5-m)=true by rw[hj];exact HBT.out) hm hj HBQ.out G8.out (by rw[HXS.out];exact O8.out) hvl HI.out.off (fun k q=>HI.out.run.lt k q) (by have:=HI.out.at_;omega)
                   rw[next_at,if_neg HGO.out] at h
                   exact h)
                 clear O8 G8 c8 f8
                 go_roundw
                 case rel=>exact ⟨m+1,_,_,_,_,by omega,rfl,congrArg Value.string HZS.out,(by first | rfl | exact congrArg (Value.int .i64) (by omega)),hn7,hz2l,HZ2,HIN3⟩
                 case measure=>first | (simp[intOf];done) | (simp[intOf];omega)
         · obtain rfl:m=6:=by omega
           rw[show (5:Int)-((6:Nat):Int) = -1 from rfl]
           have HKS:=hide (upK_ks (bitOf sv) 6 (Nat.le_refl _))
           obtain ⟨ks,hks⟩:∃ ks,upK (bitOf sv) 6=ks:=⟨_,rfl⟩
           have HIN6:=hide (HIN.out.whole hks)
           rw[hks] at HZ HKS
           clear hks HIN
           by_cases hn0:n=0
           · subst hn0
             have HO2:=hide (HI.out.same rfl HIN6.out)
             go_wp2_with fail
             go_roundw
             case rel=>exact ⟨cn,2+1,_,_,_,_,_,by omega,by omega,by omega,rfl,by first | rfl | go_num,HO2⟩
             case measure=>first | (simp[intOf];done) | (simp[intOf];omega)
           · have hne:ks≠[]:=fun e=>hn0 (by rw[HIN6.out.num,e];rfl)
             obtain ⟨pl,D',p1,p2,p3,p4,p5⟩:=Hv.woken_round HI.out.shelf HI.out.count (by omega) (r:=2) (by first | exact .inl rfl | exact .inr rfl) HI.out.low HKS.out hne
             have HSH:=hide p5
             have HCT:=hide (HI.out.count.told (by omega) HKS.out)
             have hVl:∀ j,j<6→nextV V 2 ks j<2+1:=Hv.nextV_lt HI.out.low
             have HVL:=hide hVl
             have HML:=hide (shelf_mild p5 (fun j hj=>by have:=hVl j hj;omega) HCT.out.1)
             have hRD:=reads_row (by rw[List.length_map];exact HIN6.out.num) HIN6.out.row
             have HBG:=hide (run_begin_ok _ _ pl D' (Hv.toldG G ks) p1 p2 p4 (fun q hq=>by obtain ⟨j,_,rfl⟩:=List.mem_map.1 hq;have:=Hv.itemAt_len V 2 j;omega) (shelf_mild HI.out.shelf (fun j hj=>by have:=HI.out.low j hj;omega) HI.out.count) p3 (HI.out.vol.few (by omega)) wr HIN6.out.run hRD (fun g hg q=>by have:=(HIN6.out.row.lt g hg).1;have:=HI.out.run.lt g q;omega))
             have hn1 : ¬ (n:Int)=0:=by omega
             have hcn:cn≤3:=by omega
             clear p1 p2 p3 p4 p5 hRD hVl
             go_wp2_with fail
             refine HBG.out.mono ?_
             rintro e w7 ⟨F',rfl,q1,q2,q3⟩
             have HA7:=hide (HI.out.begun HIN6.out q1 q2 q3)
             clear q1 q2 q3 HBG
             go_wp2_with fail
             refine (run_content HML.out Hv.wVMenu hun w7 HA7.out.run).mono ?_
             rintro e w8 ⟨rfl,q1,q2⟩
             have HA8:=hide (HA7.out.far q1 q2)
             rw[HCT.out.2.1,Option.getD_some]
             obtain ⟨zz,hzz⟩:∃ zz,linesS (risePaths ks)=zz:=⟨_,rfl⟩
             have hze:(zz==z)=true:=by rw[← hzz,← HZ.out];simp
             rw[hzz]
             clear q1 q2 HA7 hzz
             go_wp2_with fail
             obtain ⟨cx,c1,c2⟩:=HCT.out.2.2
             have hunc:Wd.under Hv.wVCount=true:=by decide
             refine (run_content HML.out Hv.wVCount hunc w8 HA8.out.run).mono ?_
             rintro e w9 ⟨rfl,q1,q2⟩
             have HA9:=hide (HA8.out.far q1 q2)
             rw[c1,Option.getD_some]
             have hc2:(cx.length:Int)=(cn:Int)+1:=by omega
             clear q1 q2 HA8 c1 c2
             go_wp2_with fail
             refine (run_packs HML.out w9 HA9.out.run).mono ?_
             rintro e w10 ⟨v,rfl,q0,q1,q2⟩
             have HA10:=hide (HA9.out.far q1 q2)
             obtain ⟨nd,nd1,nd6,ndl⟩:=shelf_last HSH.out
             obtain ⟨gl,gc,rfl,l1,l2⟩:=told_last nd1 ndl q0
             have l1':w10.cell? ⟨gl,nd*3,none⟩=some (.string ⟨#[109,101,110,117]⟩):=l1
             have l2':w10.cell? ⟨gl,nd*3+2,none⟩=some (.int .i64 2):=l2
             clear q0 q1 q2 HA9 l1 l2 ndl nd1
             go_wp2_with fail
             have HO2:=hide (HA10.out.out HSH.out HCT.out.1 HVL.out HI.out.vol.next HI.out.at_)
             clear HA10 l1' l2' hze hc2
             go_roundw
             case rel=>exact ⟨cn+1,2+1,_,_,_,_,_,by omega,by omega,by omega,(by first | rfl | go_num),(by first | rfl | go_num),HO2⟩
             case measure=>first | (simp[intOf];done) | (simp[intOf];omega)
   · have b1 : ¬ (rn:Int)<3:=by omega
     go_wp2_with fail
     go_ret
     exact ⟨rfl,HI.out.bel⟩
end
end Go.Proofs.YtialenebfcnkkaaGreatDoor
