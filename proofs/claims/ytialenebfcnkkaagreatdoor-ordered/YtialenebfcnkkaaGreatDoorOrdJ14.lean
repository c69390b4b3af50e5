/- LineW1, LineW2, RdMath, RdMath2 -/
import Derived.Test.YtialenebfcnkkaaGreatDoorOrdJ12
import Derived.Test.YtialenebfcnkkaaGreatDoorOrdJ13
import Derived.Test.YtialenebfcnkkaaGreatDoorOrdJ5
set_option maxHeartbeats 1000000
set_option maxRecDepth 100000
namespace Go.Proofs.YtialenebfcnkkaaGreatDoor
section
open Go.RowKit
open aH (St gH S)
theorem Ee:(Tryz.prog.info? 275).map (fun i=>(i.zero,i.size,i.bytes))=some (some (.agg #[.string ByteArray.empty, .string ByteArray.empty]),2,32):=by kernel_rfl
structure Apart (pb q:Nat) (sl:Fin 6→Value) (w:World):Prop where
 lt:q<w.heap.size
 par:q≠pb
 row:∀ i,(sl i).ownBlock≠some q
def sU (pb:Nat) (nm ve:S) (o:Option St) (w:World):Ending→World→Prop:=fun e w'=>match o with
 | none=>e = .returned (.bool false)∧Below pb w w'
 | some st'=>e = .returned (.bool true)∧∃ sl',fD pb nm ve st' sl' w'∧Below pb w w'
theorem y8 {pb:Nat} {nm ve:S} {st':St} {ok:Bool} {w:World} {f:FuncId} {args:Array Value} {o:Option St} (ho:o=if ok=true then some st' else none)
   (hc:Calls Tryz.prog f args w fun e w'=>e = .returned (.bool ok)∧∃ sl',fD pb nm ve st' sl' w'∧Below pb w w'):Calls Tryz.prog f args w (sU pb nm ve o w):=by
 refine hc.mono fun e w' ⟨he,sl',h1,hb⟩ => ?_
 subst ho
 cases ok with
 | false=>exact ⟨he,hb⟩
 | true=>exact ⟨he,sl',h1,hb⟩
theorem xI {pb:Nat} {nm ve:S} {st:St} {sl:Fin 6→Value} {w:World} {f:FuncId} {args:Array Value} (h:fD pb nm ve st sl w)
   (hc:Calls Tryz.prog f args w fun e w'=>e = .returned (.bool false)∧Below w.heap.size w w'):Calls Tryz.prog f args w (sU pb nm ve none w) :=
 hc.mono fun _ _ ⟨he,hb⟩=>⟨he,hb.mono (Nat.le_of_lt h.lt)⟩
theorem yL {w w':World} {row:Option Nat} {q j:Nat} {v:Value} (hg:w.grownBy w' row) (hc:w.cell? ⟨q,j,none⟩=some v) (hn:some q≠row):w'.cell? ⟨q,j,none⟩=some v:=hg.cell hc hn
theorem yQ (pb q o n c:Nat) (h1:n≠1) (h2:n≠2) (w:World) :
   Calls Tryz.prog 295 #[.pointer (some ⟨pb,0,none⟩), .slice (some ⟨q,o,none⟩) n c] w fun e w'=>e = .returned (.bool false)∧Below w.heap.size w w':=by
 have b1:((n:Int) != 1)=true:=by simp;omega
 have b2:((n:Int) != 2)=true:=by simp;omega
 go_enter Tryz.func295,Tryz.ntmps295
 go_wp2_with fail
 go_ret
 exact ⟨rfl,Below.refl _ _⟩
theorem Py (pb q o c:Nat) (v:S) (hv:aC.fine v=false) (y:S) (w:World) (hq:q<w.heap.size) (c0:w.cell? ⟨q,o,none⟩=some (.string ⟨y.toArray⟩)) (c1:w.cell? ⟨q,o+1,none⟩=some (.string ⟨v.toArray⟩)) :
   Calls Tryz.prog 295 #[.pointer (some ⟨pb,0,none⟩), .slice (some ⟨q,o,none⟩) 2 c] w fun e w'=>e = .returned (.bool false)∧Below w.heap.size w w':=by
 have hqn : ¬ q=w.heap.size:=by omega
 go_enter Tryz.func295,Tryz.ntmps295
 go_wp2_with (first
   | (go_at_call 261;refine (nL v _).mono ?_;rintro e w1 ⟨he,hb1⟩;rw[hv] at he;subst he))
 go_ret
 exact ⟨rfl,((Below.refl _ w).alloc (Nat.le_refl _) _).trans (hb1.mono (by simp))⟩
theorem Pz (pb q o c:Nat) (nm ve:S) (st:St) (sl:Fin 6→Value) (y:S) (hy:y.length≤2000) (hrl:st.needs.length≤2000) (w:World) (h:fD pb nm ve st sl w) (hq:q<w.heap.size)
   (c0:w.cell? ⟨q,o,none⟩=some (.string ⟨y.toArray⟩)) :
   Calls Tryz.prog 295 #[.pointer (some ⟨pb,0,none⟩), .slice (some ⟨q,o,none⟩) 1 c] w fun e w'=>e = .returned (.bool (Wd.isName y))∧∃ sl',fD pb nm ve { st with needs:=st.needs++[(y,[])] } sl' w'∧Below pb w w':=by
 obtain ⟨i0,hi,hz0,hz1,hz2⟩:=aW Ee
 have hlt:=h.lt
 have H:=hide h
 clear h
 have hqn : ¬ q=w.heap.size:=by omega
 go_enter Tryz.func295,Tryz.ntmps295
 go_wp2_with fail
 have nV:=heap_alloc_new w (.cells #[.string ⟨y.toArray⟩, .string ⟨#[]⟩] 275)
 have H3:=hide (H.out.alloc (.cells #[.string ⟨y.toArray⟩, .string ⟨#[]⟩] 275))
 have HB3:=hide ((Below.refl pb w).alloc (Nat.le_of_lt hlt) (.cells #[.string ⟨y.toArray⟩, .string ⟨#[]⟩] 275))
 have nX:w.heap.size<(w.alloc (.cells #[.string ⟨y.toArray⟩, .string ⟨#[]⟩] 275)).heap.size:=by simp
 have hnf:some w.heap.size≠(sl 0).ownBlock:=fun e=>by have:=((H.out.own 0).lt _ e.symm).2;omega
 generalize hu:w.alloc (.cells #[.string ⟨y.toArray⟩, .string ⟨#[]⟩] 275)=u at *
 clear hu
 obtain ⟨fb,qo⟩:∃ fb,w.heap.size=fb:=⟨_,rfl⟩
 rw[qo] at nV nX hlt hnf ⊢
 have NU:=hide nV
 have l0:=(ah nV 0).trans (show _=some (.string ⟨y.toArray⟩) from rfl)
 have l1:=(ah nV 1).trans (show _=some (.string ⟨#[]⟩) from rfl)
 have hne2 : ¬ fb=pb:=by omega
 have Sr : ¬ pb=fb:=by omega
 clear qo nV H
 have k5:=(ah H3.out.blk 2).trans (show _=some (sl 0) from rfl)
 have f5:=ak H3.out.blk 2
 obtain ⟨m,xs,hmx⟩:∃ m xs,aU st 0=(m,xs):=⟨_,_,rfl⟩
 have hm1:m≤2000:=by have:=congrArg Prod.fst hmx;simp only[aU] at this;omega
 have iF:=H3.out.own 0
 rw[hmx] at iF
 have qC:(u.drew).ownsRow (pb+1) 275 2 (sl 0) m xs:=iF
 have yt:=hide hmx
 have hlu:=H3.out.lt
 clear hmx iF
 go_region_law (refine bF rfl _ _ 150 rfl (pb+1) 275 i0 _ 2 32 Tryz.underlying150 hi hz0 hz1 hz2 rfl (by decide) (sl 0) m xs rfl (qC.alloc _) ⟨u.heap.size,0,none⟩ 1 1 [_,_] (by simp[Act.eval]) rfl (cell_two_new _ _ _ _) (fun x hx=>by simp at hx;rcases hx with rfl | rfl<;>rfl) (by unfold maxLen;omega) (by omega) (by simp;omega) ?_;intro v' w4 hown' aN eD dJ;obtain ⟨gv,cv,rfl⟩:=aP hown' (by omega);have hk4:=fD.kept (H3.out.drew.alloc _) 0 aN;have q5:=(ah hk4 2).trans (show _=some (sl 0) from rfl);have g5:=ak hk4 2;have lF:=(aN.block fb (by simp;omega) hnf).trans ((Below.heap_alloc _ _ _ (by show fb<u.heap.size;omega)).trans NU.out);have r1:=(ah lF 0).trans (show _=some (.string ⟨y.toArray⟩) from rfl);clear lF;have O4:=hide hown';have G4:=hide aN;have B4:=hide dJ;clear hown' aN eD dJ hk4)
 all_goals
   have iq:aU { st with needs:=st.needs++[(y,[])] } 0=(m+1,xs++[.string ⟨y.toArray⟩, .string ⟨#[]⟩]):=by
     have:=yt.out
     simp only[aU,Prod.mk.injEq] at this ⊢
     rw[← this.1,← this.2];simp[cB,aO]
   have hown2:w4.ownsRow (pb+1) (pty 0) (Np 0) (.slice (some ⟨gv,0,none⟩) (m+1) cv) (aU { st with needs:=st.needs++[(y,[])] } 0).1 (aU { st with needs:=st.needs++[(y,[])] } 0).2:=by rw[iq];exact O4.out
   have qO:=hide (fD.put (H3.out.drew.alloc _) 0 G4.out hown2 B4.out (fun j hj=>by
     match j,hj with
     | 0,h=>exact absurd rfl h
     | 1,_=>rfl
     | 2,_=>rfl
     | 3,_=>rfl
     | 4,_=>rfl
     | 5,_=>rfl) rfl)
   have kN:Hid (Below pb w (w4.setCell ⟨pb,2,none⟩ (.slice (some ⟨gv,0,none⟩) (m+1) cv))):=hide (((show Below pb w w4 from ((HB3.out.drew.alloc (by show pb≤u.heap.size;omega) _).grown G4.out (by simp;omega) (fun k hk=>by have:=((H3.out.own 0).lt k hk).1;omega)))).setCell (p:=⟨pb,2,none⟩) (Nat.le_refl pb) _)
   clear hown2 iq O4 G4 B4
   go_wp2_with (first
     | (go_at_call 222;refine (jh y hy _).mono ?_;rintro e w6 ⟨rfl,hb6⟩))
   go_ret
   exact ⟨rfl,_,qO.out.below hb6,kN.out.trans (hb6.mono (Nat.le_of_lt qO.out.lt))⟩
theorem PE (pb q o c:Nat) (nm ve:S) (st:St) (sl:Fin 6→Value) (y v:S) (hy:y.length≤2000) (hv:aC.fine v=true) (hrl:st.needs.length≤2000) (w:World) (h:fD pb nm ve st sl w) (hq:q<w.heap.size)
   (c0:w.cell? ⟨q,o,none⟩=some (.string ⟨y.toArray⟩)) (c1:w.cell? ⟨q,o+1,none⟩=some (.string ⟨v.toArray⟩)) :
   Calls Tryz.prog 295 #[.pointer (some ⟨pb,0,none⟩), .slice (some ⟨q,o,none⟩) 2 c] w fun e w'=>e = .returned (.bool (Wd.isName y))∧∃ sl',fD pb nm ve { st with needs:=st.needs++[(y,v)] } sl' w'∧Below pb w w':=by
 obtain ⟨i0,hi,hz0,hz1,hz2⟩:=aW Ee
 have hlt:=h.lt
 have H:=hide h
 clear h
 have hqn : ¬ q=w.heap.size:=by omega
 go_enter Tryz.func295,Tryz.ntmps295
 go_wp2_with (first
   | (go_at_call 261;refine (nL v _).mono ?_;rintro e u ⟨he,hb1⟩;rw[hv] at he;subst he))
 have nV:=(hb1.block w.heap.size (by simp)).trans (heap_alloc_new w (.cells #[.string ⟨y.toArray⟩, .string ⟨v.toArray⟩] 275))
 have H3:=hide ((H.out.alloc (.cells #[.string ⟨y.toArray⟩, .string ⟨v.toArray⟩] 275)).below hb1)
 have HB3:=hide (((Below.refl pb w).alloc (Nat.le_of_lt hlt) (.cells #[.string ⟨y.toArray⟩, .string ⟨v.toArray⟩] 275)).trans (hb1.mono (by simp;omega)))
 have nX:w.heap.size<u.heap.size:=lt_of_block nV
 have hnf:some w.heap.size≠(sl 0).ownBlock:=fun e=>by have:=((H.out.own 0).lt _ e.symm).2;omega
 clear hb1
 obtain ⟨fb,qo⟩:∃ fb,w.heap.size=fb:=⟨_,rfl⟩
 rw[qo] at nV nX hlt hnf ⊢
 have NU:=hide nV
 have l0:=(ah nV 0).trans (show _=some (.string ⟨y.toArray⟩) from rfl)
 have l1:=(ah nV 1).trans (show _=some (.string ⟨v.toArray⟩) from rfl)
 have hne2 : ¬ fb=pb:=by omega
 have Sr : ¬ pb=fb:=by omega
 clear qo nV H
 have k5:=(ah H3.out.blk 2).trans (show _=some (sl 0) from rfl)
 have f5:=ak H3.out.blk 2
 obtain ⟨m,xs,hmx⟩:∃ m xs,aU st 0=(m,xs):=⟨_,_,rfl⟩
 have hm1:m≤2000:=by have:=congrArg Prod.fst hmx;simp only[aU] at this;omega
 have iF:=H3.out.own 0
 rw[hmx] at iF
 have qC:(u.drew).ownsRow (pb+1) 275 2 (sl 0) m xs:=iF
 have yt:=hide hmx
 have hlu:=H3.out.lt
 clear hmx iF
 go_region_law (refine bF rfl _ _ 150 rfl (pb+1) 275 i0 _ 2 32 Tryz.underlying150 hi hz0 hz1 hz2 rfl (by decide) (sl 0) m xs rfl (qC.alloc _) ⟨u.heap.size,0,none⟩ 1 1 [_,_] (by simp[Act.eval]) rfl (cell_two_new _ _ _ _) (fun x hx=>by simp at hx;rcases hx with rfl | rfl<;>rfl) (by unfold maxLen;omega) (by omega) (by simp;omega) ?_;intro v' w4 hown' aN eD dJ;obtain ⟨gv,cv,rfl⟩:=aP hown' (by omega);have hk4:=fD.kept (H3.out.drew.alloc _) 0 aN;have q5:=(ah hk4 2).trans (show _=some (sl 0) from rfl);have g5:=ak hk4 2;have lF:=(aN.block fb (by simp;omega) hnf).trans ((Below.heap_alloc _ _ _ (by show fb<u.heap.size;omega)).trans NU.out);have r1:=(ah lF 0).trans (show _=some (.string ⟨y.toArray⟩) from rfl);clear lF;have O4:=hide hown';have G4:=hide aN;have B4:=hide dJ;clear hown' aN eD dJ hk4)
 all_goals
   have iq:aU { st with needs:=st.needs++[(y,v)] } 0=(m+1,xs++[.string ⟨y.toArray⟩, .string ⟨v.toArray⟩]):=by
     have:=yt.out
     simp only[aU,Prod.mk.injEq] at this ⊢
     rw[← this.1,← this.2];simp[cB,aO]
   have hown2:w4.ownsRow (pb+1) (pty 0) (Np 0) (.slice (some ⟨gv,0,none⟩) (m+1) cv) (aU { st with needs:=st.needs++[(y,v)] } 0).1 (aU { st with needs:=st.needs++[(y,v)] } 0).2:=by rw[iq];exact O4.out
   have qO:=hide (fD.put (H3.out.drew.alloc _) 0 G4.out hown2 B4.out (fun j hj=>by
     match j,hj with
     | 0,h=>exact absurd rfl h
     | 1,_=>rfl
     | 2,_=>rfl
     | 3,_=>rfl
     | 4,_=>rfl
     | 5,_=>rfl) rfl)
   have kN:Hid (Below pb w (w4.setCell ⟨pb,2,none⟩ (.slice (some ⟨gv,0,none⟩) (m+1) cv))):=hide (((show Below pb w w4 from ((HB3.out.drew.alloc (by show pb≤u.heap.size;omega) _).grown G4.out (by simp;omega) (fun k hk=>by have:=((H3.out.own 0).lt k hk).1;omega)))).setCell (p:=⟨pb,2,none⟩) (Nat.le_refl pb) _)
   clear hown2 iq O4 G4 B4
   go_wp2_with (first
     | (go_at_call 222;refine (jh y hy _).mono ?_;rintro e w6 ⟨rfl,hb6⟩))
   go_ret
   exact ⟨rfl,_,qO.out.below hb6,kN.out.trans (hb6.mono (Nat.le_of_lt qO.out.lt))⟩
theorem jH (pb q o n c:Nat) (w:World) (b:Bool) (Post:World→Prop) (k:Int) (f:Nat) (hf:(k=1∧f=295)∨(k=4∧f=296))
   (h:Calls Tryz.prog f #[.pointer (some ⟨pb,0,none⟩), .slice (some ⟨q,o,none⟩) n c] w fun e w'=>e = .returned (.bool b)∧Post w') :
   Calls Tryz.prog 263 #[.pointer (some ⟨pb,0,none⟩), .int .i64 k, .slice (some ⟨q,o,none⟩) n c] w fun e w'=>e = .returned (.bool b)∧Post w':=by
 have H:=hide h
 clear h
 rcases hf with ⟨rfl,rfl⟩ | ⟨rfl,rfl⟩
 · go_enter Tryz.func263,Tryz.ntmps263
   go_wp2_with (go_at_call 295;refine H.out.mono ?_;rintro e w1 ⟨rfl,hp⟩)
   go_ret
   exact ⟨rfl,hp⟩
 · go_enter Tryz.func263,Tryz.ntmps263
   go_wp2_with (go_at_call 296;refine H.out.mono ?_;rintro e w1 ⟨rfl,hp⟩)
   go_ret
   exact ⟨rfl,hp⟩
theorem IE (pb q o c:Nat) (nm ve:S) (st:St) (sl:Fin 6→Value) (y:S) (hy:y.length≤2000) (hrl:st.breaks.length≤2000) (w:World) (h:fD pb nm ve st sl w) (ha:Apart pb q sl w)
   (c0:w.cell? ⟨q,o,none⟩=some (.string ⟨y.toArray⟩)) :
   Calls Tryz.prog 263 #[.pointer (some ⟨pb,0,none⟩), .int .i64 2, .slice (some ⟨q,o,none⟩) 1 c] w fun e w'=>e = .returned (.bool (Wd.isName y))∧∃ sl',fD pb nm ve { st with breaks:=st.breaks++[y] } sl' w'∧Below pb w w':=by
 obtain ⟨i0,hi,hz0,hz1,hz2⟩:=aW gL
 have hlt:=h.lt
 have H:=hide h
 clear h
 obtain ⟨hq,hqp,hqr⟩:=ha
 have ac5 : ¬ pb=q:=fun e=>hqp e.symm
 have hqi:some q≠(sl 1).ownBlock:=fun e=>hqr 1 e.symm
 clear hqr
 have k5:=(ah H.out.blk 3).trans (show _=some (sl 1) from rfl)
 have f5:=ak H.out.blk 3
 obtain ⟨m,xs,hmx⟩:∃ m xs,aU st 1=(m,xs):=⟨_,_,rfl⟩
 have hm1:m≤2000:=by have:=congrArg Prod.fst hmx;simp only[aU] at this;omega
 have iF:w.ownsRow (pb+1) 9 1 (sl 1) m xs:=by have:=H.out.own 1;rwa [hmx] at this
 have yt:=hide hmx
 clear hmx
 have hnews:∀ j u,[Value.string ⟨y.toArray⟩][j]? = some u→w.cell? ((⟨q,o,none⟩:Addr).add j)=some u:=by
   intro j u hu
   have hj:j=0:=by
     have:=(List.getElem?_eq_some_iff.1 hu).1
     simpa using this
   subst hj
   have hadd:(⟨q,o,none⟩:Addr).add 0=⟨q,o,none⟩:=by unfold Addr.add;split<;>simp_all
   rw[hadd,c0];simpa using hu
 have Kn:=hide hnews
 clear hnews
 go_enter Tryz.func263,Tryz.ntmps263
 go_wp2_with (first
   | (at_builtin;refine wpList_append_own_at _ rfl _ _ 28 rfl (pb+1) 9 i0 (.string ByteArray.empty) 1 16 Tryz.underlying28 hi hz0 hz1 hz2 rfl (by decide) _ _ _ rfl iF ⟨q,o,none⟩ 1 c [Value.string ⟨y.toArray⟩] rfl rfl Kn.out (fun x hx=>by simp at hx;subst hx;rfl) (by unfold maxLen;omega) (by omega) (by omega) ?_;intro v' w4 hown' aN eD dJ;obtain ⟨gv,cv,rfl⟩:=aP hown' (by omega);have hk4:=fD.kept H.out 1 aN;have q5:=(ah hk4 3).trans (show _=some (sl 1) from rfl);have g5:=ak hk4 3;have e4:=yL aN c0 hqi;
       have iq:aU { st with breaks:=st.breaks++[y] } 1=(m+1,xs++[.string ⟨y.toArray⟩]):=(by
         have:=yt.out
         simp only[aU,Prod.mk.injEq] at this ⊢
         rw[← this.1,← this.2];simp[aO]);
       have qO:=hide (fD.put (st':={ st with breaks:=st.breaks++[y] }) H.out 1 aN (by rw[iq];exact hown') dJ (fun j hj=>by
         match j,hj with
         | 0,_=>rfl
         | 1,h=>exact absurd rfl h
         | 2,_=>rfl
         | 3,_=>rfl
         | 4,_=>rfl
         | 5,_=>rfl) rfl);
       have kN:Hid (Below pb w (w4.setCell ⟨pb,3,none⟩ (.slice (some ⟨gv,0,none⟩) (m+1) cv))):=hide (((show Below pb w w4 from ((Below.refl pb w).grown aN (by omega) (fun k hk=>by have:=(iF.lt k hk).1;omega)))).setCell (p:=⟨pb,3,none⟩) (Nat.le_refl pb) _);
       clear iq hown' aN eD dJ hk4)
   | (go_at_call 222;refine (jh y hy _).mono ?_;rintro e w6 ⟨rfl,hb6⟩))
 go_ret
 exact ⟨rfl,_,qO.out.below hb6,kN.out.trans (hb6.mono (Nat.le_of_lt qO.out.lt))⟩
theorem ni (pb q o n c:Nat) (nm ve:S) (st:St) (sl:Fin 6→Value) (ys:List S) (hys:ys.length=n) (hn:n≠1) (hn2:n≤2001) (hrl:st.breaks.length≤2000) (w:World) (h:fD pb nm ve st sl w)
   (hc:∀ j y,ys[j]? = some y→w.cell? ⟨q,o+j,none⟩=some (.string ⟨y.toArray⟩)) :
   Calls Tryz.prog 263 #[.pointer (some ⟨pb,0,none⟩), .int .i64 2, .slice (some ⟨q,o,none⟩) n c] w fun e w'=>e = .returned (.bool false)∧Below pb w w':=by
 obtain ⟨i0,hi,hz0,hz1,hz2⟩:=aW gL
 have b1:((n:Int)==1)=false:=by simp;omega
 have hlt:=h.lt
 have H:=hide h
 clear h
 have k5:=(ah H.out.blk 3).trans (show _=some (sl 1) from rfl)
 have f5:=ak H.out.blk 3
 obtain ⟨m,xs,hmx⟩:∃ m xs,aU st 1=(m,xs):=⟨_,_,rfl⟩
 have hm1:m≤2000:=by have:=congrArg Prod.fst hmx;simp only[aU] at this;omega
 have iF:w.ownsRow (pb+1) 9 1 (sl 1) m xs:=by have:=H.out.own 1;rwa [hmx] at this
 clear hmx
 have hnews:∀ j u,(ys.map aO)[j]? = some u→w.cell? ((⟨q,o,none⟩:Addr).add j)=some u:=by
   intro j u hu
   rw[List.getElem?_map] at hu
   cases hy:ys[j]? with
   | none=>rw[hy] at hu;cases hu
   | some y =>
     rw[hy] at hu
     have hadd:(⟨q,o,none⟩:Addr).add j=⟨q,o+j,none⟩:=by unfold Addr.add;split<;>simp_all
     rw[hadd,hc j y hy];exact hu
 have Kn:=hide hnews
 have Rq:=hide (show (ys.map aO).length=n*1 by simp[hys])
 clear hnews hys hc
 go_enter Tryz.func263,Tryz.ntmps263
 go_wp2_with (first
   | (at_builtin;refine wpList_append_own_at _ rfl _ _ 28 rfl (pb+1) 9 i0 (.string ByteArray.empty) 1 16 Tryz.underlying28 hi hz0 hz1 hz2 rfl (by decide) _ _ _ rfl iF ⟨q,o,none⟩ n c (ys.map aO) rfl Rq.out Kn.out (fun x hx=>by obtain ⟨y, -,rfl⟩:=List.mem_map.1 hx;rfl) (by unfold maxLen;omega) (by omega) (by omega) ?_;intro v' w4 hown' aN eD dJ;obtain ⟨ao4,ac4,rfl⟩:=slice_form hown';have hk4:=fD.kept H.out 1 aN;have q5:=(ah hk4 3).trans (show _=some (sl 1) from rfl);have g5:=ak hk4 3;
       have kN:Hid (Below pb w (w4.setCell ⟨pb,3,none⟩ (.slice ao4 (m+n) ac4))):=hide (((show Below pb w w4 from ((Below.refl pb w).grown aN (by omega) (fun k hk=>by have:=(iF.lt k hk).1;omega)))).setCell (p:=⟨pb,3,none⟩) (Nat.le_refl pb) _);
       clear hown' aN eD dJ hk4))
 go_ret
 exact ⟨rfl,kN.out⟩
theorem Lu (pb q o c:Nat) (nm ve:S) (st:St) (sl:Fin 6→Value) (y:S) (hy:y.length≤2000) (hrl:st.wakes.length≤2000) (mx:Int) (w:World) (h:fD pb nm ve st sl w) (ha:Apart pb q sl w) (hp0:9≤pb) (hm:w.cell? ⟨3,0,none⟩=some (.int .i64 mx))
   (c0:w.cell? ⟨q,o,none⟩=some (.string ⟨y.toArray⟩)) :
   Calls Tryz.prog 263 #[.pointer (some ⟨pb,0,none⟩), .int .i64 3, .slice (some ⟨q,o,none⟩) 1 c] w fun e w'=>e = .returned (.bool (Wd.bL y))∧∃ sl',fD pb nm ve { st with wakes:=st.wakes++[y] } sl' w'∧Below pb w w':=by
 obtain ⟨i0,hi,hz0,hz1,hz2⟩:=aW gL
 have HM:=hide hm;clear hm
 have hlt:=h.lt
 have H:=hide h
 clear h
 obtain ⟨hq,hqp,hqr⟩:=ha
 have ac5 : ¬ pb=q:=fun e=>hqp e.symm
 have hqi:some q≠(sl 2).ownBlock:=fun e=>hqr 2 e.symm
 clear hqr
 have k5:=(ah H.out.blk 4).trans (show _=some (sl 2) from rfl)
 have f5:=ak H.out.blk 4
 obtain ⟨m,xs,hmx⟩:∃ m xs,aU st 2=(m,xs):=⟨_,_,rfl⟩
 have hm1:m≤2000:=by have:=congrArg Prod.fst hmx;simp only[aU] at this;omega
 have iF:w.ownsRow (pb+1) 9 1 (sl 2) m xs:=by have:=H.out.own 2;rwa [hmx] at this
 have yt:=hide hmx
 clear hmx
 have hnews:∀ j u,[Value.string ⟨y.toArray⟩][j]? = some u→w.cell? ((⟨q,o,none⟩:Addr).add j)=some u:=by
   intro j u hu
   have hj:j=0:=by
     have:=(List.getElem?_eq_some_iff.1 hu).1
     simpa using this
   subst hj
   have hadd:(⟨q,o,none⟩:Addr).add 0=⟨q,o,none⟩:=by unfold Addr.add;split<;>simp_all
   rw[hadd,c0];simpa using hu
 have Kn:=hide hnews
 clear hnews
 go_enter Tryz.func263,Tryz.ntmps263
 go_wp2_with (first
   | (at_builtin;refine wpList_append_own_at _ rfl _ _ 28 rfl (pb+1) 9 i0 (.string ByteArray.empty) 1 16 Tryz.underlying28 hi hz0 hz1 hz2 rfl (by decide) _ _ _ rfl iF ⟨q,o,none⟩ 1 c [Value.string ⟨y.toArray⟩] rfl rfl Kn.out (fun x hx=>by simp at hx;subst hx;rfl) (by unfold maxLen;omega) (by omega) (by omega) ?_;intro v' w4 hown' aN eD dJ;obtain ⟨gv,cv,rfl⟩:=aP hown' (by omega);have hk4:=fD.kept H.out 2 aN;have q5:=(ah hk4 4).trans (show _=some (sl 2) from rfl);have g5:=ak hk4 4;have e4:=yL aN c0 hqi;
       have iq:aU { st with wakes:=st.wakes++[y] } 2=(m+1,xs++[.string ⟨y.toArray⟩]):=(by
         have:=yt.out
         simp only[aU,Prod.mk.injEq] at this ⊢
         rw[← this.1,← this.2];simp[aO]);
       have qO:=hide (fD.put (st':={ st with wakes:=st.wakes++[y] }) H.out 2 aN (by rw[iq];exact hown') dJ (fun j hj=>by
         match j,hj with
         | 0,_=>rfl
         | 1,_=>rfl
         | 2,h=>exact absurd rfl h
         | 3,_=>rfl
         | 4,_=>rfl
         | 5,_=>rfl) rfl);
       have kN:Hid (Below pb w (w4.setCell ⟨pb,4,none⟩ (.slice (some ⟨gv,0,none⟩) (m+1) cv))):=hide (((show Below pb w w4 from ((Below.refl pb w).grown aN (by omega) (fun k hk=>by have:=(iF.lt k hk).1;omega)))).setCell (p:=⟨pb,4,none⟩) (Nat.le_refl pb) _);
       clear iq hown' aN eD dJ hk4)
   | (go_at_call 213;refine (iA y hy mx _ ((kN.out.cell (p:=⟨3,0,none⟩) (by show 3<pb;omega)).trans HM.out)).mono ?_;rintro e w6 ⟨rfl,hb6⟩))
 go_ret
 exact ⟨rfl,_,qO.out.below hb6,kN.out.trans (hb6.mono (Nat.le_of_lt qO.out.lt))⟩
theorem nY (pb q o n c:Nat) (nm ve:S) (st:St) (sl:Fin 6→Value) (ys:List S) (hys:ys.length=n) (hn:n≠1) (hn2:n≤2001) (hrl:st.wakes.length≤2000) (w:World) (h:fD pb nm ve st sl w)
   (hc:∀ j y,ys[j]? = some y→w.cell? ⟨q,o+j,none⟩=some (.string ⟨y.toArray⟩)) :
   Calls Tryz.prog 263 #[.pointer (some ⟨pb,0,none⟩), .int .i64 3, .slice (some ⟨q,o,none⟩) n c] w fun e w'=>e = .returned (.bool false)∧Below pb w w':=by
 obtain ⟨i0,hi,hz0,hz1,hz2⟩:=aW gL
 have b1:((n:Int)==1)=false:=by simp;omega
 have hlt:=h.lt
 have H:=hide h
 clear h
 have k5:=(ah H.out.blk 4).trans (show _=some (sl 2) from rfl)
 have f5:=ak H.out.blk 4
 obtain ⟨m,xs,hmx⟩:∃ m xs,aU st 2=(m,xs):=⟨_,_,rfl⟩
 have hm1:m≤2000:=by have:=congrArg Prod.fst hmx;simp only[aU] at this;omega
 have iF:w.ownsRow (pb+1) 9 1 (sl 2) m xs:=by have:=H.out.own 2;rwa [hmx] at this
 clear hmx
 have hnews:∀ j u,(ys.map aO)[j]? = some u→w.cell? ((⟨q,o,none⟩:Addr).add j)=some u:=by
   intro j u hu
   rw[List.getElem?_map] at hu
   cases hy:ys[j]? with
   | none=>rw[hy] at hu;cases hu
   | some y =>
     rw[hy] at hu
     have hadd:(⟨q,o,none⟩:Addr).add j=⟨q,o+j,none⟩:=by unfold Addr.add;split<;>simp_all
     rw[hadd,hc j y hy];exact hu
 have Kn:=hide hnews
 have Rq:=hide (show (ys.map aO).length=n*1 by simp[hys])
 clear hnews hys hc
 go_enter Tryz.func263,Tryz.ntmps263
 go_wp2_with (first
   | (at_builtin;refine wpList_append_own_at _ rfl _ _ 28 rfl (pb+1) 9 i0 (.string ByteArray.empty) 1 16 Tryz.underlying28 hi hz0 hz1 hz2 rfl (by decide) _ _ _ rfl iF ⟨q,o,none⟩ n c (ys.map aO) rfl Rq.out Kn.out (fun x hx=>by obtain ⟨y, -,rfl⟩:=List.mem_map.1 hx;rfl) (by unfold maxLen;omega) (by omega) (by omega) ?_;intro v' w4 hown' aN eD dJ;obtain ⟨ao4,ac4,rfl⟩:=slice_form hown';have hk4:=fD.kept H.out 2 aN;have q5:=(ah hk4 4).trans (show _=some (sl 2) from rfl);have g5:=ak hk4 4;
       have kN:Hid (Below pb w (w4.setCell ⟨pb,4,none⟩ (.slice ao4 (m+n) ac4))):=hide (((show Below pb w w4 from ((Below.refl pb w).grown aN (by omega) (fun k hk=>by have:=(iF.lt k hk).1;omega)))).setCell (p:=⟨pb,4,none⟩) (Nat.le_refl pb) _);
       clear hown' aN eD dJ hk4))
 go_ret
 exact ⟨rfl,kN.out⟩
theorem FQ (pb q o n c:Nat) (nm ve:S) (st:St) (sl:Fin 6→Value) (rest:List S) (hw:∀ x∈rest,x.length≤2000) (hn:rest.length=n) (vv:Int) (v1 v2 v3:S) (hrc:aH.bZ rest=(⟨vv,v1,v2,v3⟩,false)) (hrl:st.runs.length≤2000) (mx:Int) (w:World) (h:fD pb nm ve st sl w) (hq:q<w.heap.size)
   (hm:w.cell? ⟨3,0,none⟩=some (.int .i64 mx)) (hc:∀ j y,rest[j]? = some y→w.cell? ⟨q,o+j,none⟩=some (.string ⟨y.toArray⟩)) :
   Calls Tryz.prog 263 #[.pointer (some ⟨pb,0,none⟩), .int .i64 5, .slice (some ⟨q,o,none⟩) n c] w fun e w'=>e = .returned (.bool (false))∧∃ sl',fD pb nm ve { st with runs:=st.runs++[⟨vv,v1,v2,v3⟩] } sl' w'∧Below pb w w':=by
 obtain ⟨i0,hi,hz0,hz1,hz2⟩:=aW Bu
 have hlt:=h.lt
 have H:=hide h
 have HC:Hid (Calls Tryz.prog 297 #[.slice (some ⟨q,o,none⟩) n c] w fun e w'=>e = .returned (.tuple #[.agg #[.int .i64 vv, .string ⟨v1.toArray⟩, .string ⟨v2.toArray⟩, .string ⟨v3.toArray⟩], .bool false])∧Below w.heap.size w w'):=hide (by
   have:=qd (some ⟨q,o,none⟩) q o c rest hw mx w (World.block_lt_of_cell? w _ hm) hm (fun _=>⟨rfl,hq⟩) hc
   rw[hrc,hn] at this
   exact this)
 clear h hm hc hrc hn hw
 go_enter Tryz.func263,Tryz.ntmps263
 go_wp2_with (go_at_call 297;refine HC.out.mono ?_;rintro e w1 ⟨rfl,hb1⟩)
 have H1:=hide (H.out.below hb1)
 have HB1:=hide (hb1.mono (Nat.le_of_lt hlt))
 have H3:=hide (H1.out.alloc (.cells #[.int .i64 vv, .string ⟨v1.toArray⟩, .string ⟨v2.toArray⟩, .string ⟨v3.toArray⟩] 317))
 have HB3:=hide (HB1.out.alloc (Nat.le_of_lt H1.out.lt) (.cells #[.int .i64 vv, .string ⟨v1.toArray⟩, .string ⟨v2.toArray⟩, .string ⟨v3.toArray⟩] 317))
 have nV:=heap_alloc_new w1 (.cells #[.int .i64 vv, .string ⟨v1.toArray⟩, .string ⟨v2.toArray⟩, .string ⟨v3.toArray⟩] 317)
 have nX:(w1.alloc (.cells #[.int .i64 vv, .string ⟨v1.toArray⟩, .string ⟨v2.toArray⟩, .string ⟨v3.toArray⟩] 317)).heap.size=w1.heap.size+1:=by simp
 have hnf:some w1.heap.size≠(sl 4).ownBlock:=fun e=>by have:=((H1.out.own 4).lt _ e.symm).2;omega
 have hl2:=H1.out.lt
 obtain ⟨fb,qo⟩:∃ fb,w1.heap.size=fb:=⟨_,rfl⟩
 generalize hu:w1.alloc (.cells #[.int .i64 vv, .string ⟨v1.toArray⟩, .string ⟨v2.toArray⟩, .string ⟨v3.toArray⟩] 317)=u at *
 rw[qo] at nV nX hl2 hnf ⊢
 clear hu qo H1 HB1 hb1
 obtain ⟨l0,l1,l2,l3, -⟩:=ay nV
 have NU:=hide nV
 have hne2 : ¬ fb=pb:=by omega
 have Sr : ¬ pb=fb:=by omega
 clear nV
 have k5:=(ah H3.out.blk 6).trans (show _=some (sl 4) from rfl)
 have f5:=ak H3.out.blk 6
 obtain ⟨m,xs,hmx⟩:∃ m xs,aU st 4=(m,xs):=⟨_,_,rfl⟩
 have hm1:m≤2000:=by have:=congrArg Prod.fst hmx;simp only[aU] at this;omega
 have iF:=H3.out.own 4
 rw[hmx] at iF
 have qC:(u.drew).ownsRow (pb+1) 317 4 (sl 4) m xs:=iF
 have yt:=hide hmx
 have hlu:=H3.out.lt
 clear hmx iF
 go_region_law (refine bF rfl _ _ 152 rfl (pb+1) 317 i0 _ 4 56 Tryz.underlying152 hi hz0 hz1 hz2 rfl (by decide) (sl 4) m xs rfl (qC.alloc _) ⟨u.heap.size,0,none⟩ 1 1 [_,_,_,_] (by simp[Act.eval]) rfl (nJ _ _ _ _ _ _) (fun x hx=>by simp at hx;rcases hx with rfl | rfl | rfl | rfl<;>rfl) (by unfold maxLen;omega) (by omega) (by simp;omega) ?_;intro v' w4 hown' aN eD dJ;obtain ⟨gv,cv,rfl⟩:=aP hown' (by omega);have hk4:=fD.kept (H3.out.drew.alloc _) 4 aN;have q5:=(ah hk4 6).trans (show _=some (sl 4) from rfl);have g5:=ak hk4 6;have O4:=hide hown';have G4:=hide aN;have B4:=hide dJ;clear hown' aN eD dJ hk4)
 all_goals
   have iq:aU { st with runs:=st.runs++[⟨vv,v1,v2,v3⟩] } 4=(m+1,xs++[.int .i64 vv, .string ⟨v1.toArray⟩, .string ⟨v2.toArray⟩, .string ⟨v3.toArray⟩]):=by
     have:=yt.out
     simp only[aU,Prod.mk.injEq] at this ⊢
     rw[← this.1,← this.2];simp[rT,aO]
   have hown2:w4.ownsRow (pb+1) (pty 4) (Np 4) (.slice (some ⟨gv,0,none⟩) (m+1) cv) (aU { st with runs:=st.runs++[⟨vv,v1,v2,v3⟩] } 4).1 (aU { st with runs:=st.runs++[⟨vv,v1,v2,v3⟩] } 4).2:=by rw[iq];exact O4.out
   have qO:=hide (fD.put (H3.out.drew.alloc _) 4 G4.out hown2 B4.out (fun j hj=>by
     match j,hj with
     | 0,_=>rfl
     | 1,_=>rfl
     | 2,_=>rfl
     | 3,_=>rfl
     | 4,h=>exact absurd rfl h
     | 5,_=>rfl) rfl)
   have kN:Hid (Below pb w (w4.setCell ⟨pb,6,none⟩ (.slice (some ⟨gv,0,none⟩) (m+1) cv))):=hide (((show Below pb w w4 from ((HB3.out.drew.alloc (by show pb≤u.heap.size;omega) _).grown G4.out (by simp;omega) (fun k hk=>by have:=((H3.out.own 4).lt k hk).1;omega)))).setCell (p:=⟨pb,6,none⟩) (Nat.le_refl pb) _)
   clear hown2 iq O4 G4 B4
   go_wp2_with fail
   go_ret
   exact ⟨rfl,_,qO.out,kN.out⟩
theorem Du (pb q o n c:Nat) (nm ve:S) (st:St) (sl:Fin 6→Value) (rest:List S) (hw:∀ x∈rest,x.length≤2000) (hn:rest.length=n) (vv:Int) (v1 v2 v3:S) (hrc:aH.bZ rest=(⟨vv,v1,v2,v3⟩,true)) (hrl:st.runs.length≤2000) (mx:Int) (w:World) (h:fD pb nm ve st sl w) (hq:q<w.heap.size)
   (hm:w.cell? ⟨3,0,none⟩=some (.int .i64 mx)) (hc:∀ j y,rest[j]? = some y→w.cell? ⟨q,o+j,none⟩=some (.string ⟨y.toArray⟩)) :
   Calls Tryz.prog 263 #[.pointer (some ⟨pb,0,none⟩), .int .i64 5, .slice (some ⟨q,o,none⟩) n c] w fun e w'=>e = .returned (.bool (vv != 5))∧∃ sl',fD pb nm ve { st with runs:=st.runs++[⟨vv,v1,v2,v3⟩] } sl' w'∧Below pb w w':=by
 obtain ⟨i0,hi,hz0,hz1,hz2⟩:=aW Bu
 have hlt:=h.lt
 have H:=hide h
 have HC:Hid (Calls Tryz.prog 297 #[.slice (some ⟨q,o,none⟩) n c] w fun e w'=>e = .returned (.tuple #[.agg #[.int .i64 vv, .string ⟨v1.toArray⟩, .string ⟨v2.toArray⟩, .string ⟨v3.toArray⟩], .bool true])∧Below w.heap.size w w'):=hide (by
   have:=qd (some ⟨q,o,none⟩) q o c rest hw mx w (World.block_lt_of_cell? w _ hm) hm (fun _=>⟨rfl,hq⟩) hc
   rw[hrc,hn] at this
   exact this)
 clear h hm hc hrc hn hw
 go_enter Tryz.func263,Tryz.ntmps263
 go_wp2_with (go_at_call 297;refine HC.out.mono ?_;rintro e w1 ⟨rfl,hb1⟩)
 have H1:=hide (H.out.below hb1)
 have HB1:=hide (hb1.mono (Nat.le_of_lt hlt))
 have H3:=hide (H1.out.alloc (.cells #[.int .i64 vv, .string ⟨v1.toArray⟩, .string ⟨v2.toArray⟩, .string ⟨v3.toArray⟩] 317))
 have HB3:=hide (HB1.out.alloc (Nat.le_of_lt H1.out.lt) (.cells #[.int .i64 vv, .string ⟨v1.toArray⟩, .string ⟨v2.toArray⟩, .string ⟨v3.toArray⟩] 317))
 have nV:=heap_alloc_new w1 (.cells #[.int .i64 vv, .string ⟨v1.toArray⟩, .string ⟨v2.toArray⟩, .string ⟨v3.toArray⟩] 317)
 have nX:(w1.alloc (.cells #[.int .i64 vv, .string ⟨v1.toArray⟩, .string ⟨v2.toArray⟩, .string ⟨v3.toArray⟩] 317)).heap.size=w1.heap.size+1:=by simp
 have hnf:some w1.heap.size≠(sl 4).ownBlock:=fun e=>by have:=((H1.out.own 4).lt _ e.symm).2;omega
 have hl2:=H1.out.lt
 obtain ⟨fb,qo⟩:∃ fb,w1.heap.size=fb:=⟨_,rfl⟩
 generalize hu:w1.alloc (.cells #[.int .i64 vv, .string ⟨v1.toArray⟩, .string ⟨v2.toArray⟩, .string ⟨v3.toArray⟩] 317)=u at *
 rw[qo] at nV nX hl2 hnf ⊢
 clear hu qo H1 HB1 hb1
 obtain ⟨l0,l1,l2,l3, -⟩:=ay nV
 have NU:=hide nV
 have hne2 : ¬ fb=pb:=by omega
 have Sr : ¬ pb=fb:=by omega
 clear nV
 have k5:=(ah H3.out.blk 6).trans (show _=some (sl 4) from rfl)
 have f5:=ak H3.out.blk 6
 obtain ⟨m,xs,hmx⟩:∃ m xs,aU st 4=(m,xs):=⟨_,_,rfl⟩
 have hm1:m≤2000:=by have:=congrArg Prod.fst hmx;simp only[aU] at this;omega
 have iF:=H3.out.own 4
 rw[hmx] at iF
 have qC:(u.drew).ownsRow (pb+1) 317 4 (sl 4) m xs:=iF
 have yt:=hide hmx
 have hlu:=H3.out.lt
 clear hmx iF
 go_region_law (refine bF rfl _ _ 152 rfl (pb+1) 317 i0 _ 4 56 Tryz.underlying152 hi hz0 hz1 hz2 rfl (by decide) (sl 4) m xs rfl (qC.alloc _) ⟨u.heap.size,0,none⟩ 1 1 [_,_,_,_] (by simp[Act.eval]) rfl (nJ _ _ _ _ _ _) (fun x hx=>by simp at hx;rcases hx with rfl | rfl | rfl | rfl<;>rfl) (by unfold maxLen;omega) (by omega) (by simp;omega) ?_;intro v' w4 hown' aN eD dJ;obtain ⟨gv,cv,rfl⟩:=aP hown' (by omega);have hk4:=fD.kept (H3.out.drew.alloc _) 4 aN;have q5:=(ah hk4 6).trans (show _=some (sl 4) from rfl);have g5:=ak hk4 6;have lF:=(aN.block fb (by simp;omega) hnf).trans ((Below.heap_alloc _ _ _ (by show fb<u.heap.size;omega)).trans NU.out);have r1:=(ah lF 0).trans (show _=some (.int .i64 vv) from rfl);clear lF;have O4:=hide hown';have G4:=hide aN;have B4:=hide dJ;clear hown' aN eD dJ hk4)
 all_goals
   have iq:aU { st with runs:=st.runs++[⟨vv,v1,v2,v3⟩] } 4=(m+1,xs++[.int .i64 vv, .string ⟨v1.toArray⟩, .string ⟨v2.toArray⟩, .string ⟨v3.toArray⟩]):=by
     have:=yt.out
     simp only[aU,Prod.mk.injEq] at this ⊢
     rw[← this.1,← this.2];simp[rT,aO]
   have hown2:w4.ownsRow (pb+1) (pty 4) (Np 4) (.slice (some ⟨gv,0,none⟩) (m+1) cv) (aU { st with runs:=st.runs++[⟨vv,v1,v2,v3⟩] } 4).1 (aU { st with runs:=st.runs++[⟨vv,v1,v2,v3⟩] } 4).2:=by rw[iq];exact O4.out
   have qO:=hide (fD.put (H3.out.drew.alloc _) 4 G4.out hown2 B4.out (fun j hj=>by
     match j,hj with
     | 0,_=>rfl
     | 1,_=>rfl
     | 2,_=>rfl
     | 3,_=>rfl
     | 4,h=>exact absurd rfl h
     | 5,_=>rfl) rfl)
   have kN:Hid (Below pb w (w4.setCell ⟨pb,6,none⟩ (.slice (some ⟨gv,0,none⟩) (m+1) cv))):=hide (((show Below pb w w4 from ((HB3.out.drew.alloc (by show pb≤u.heap.size;omega) _).grown G4.out (by simp;omega) (fun k hk=>by have:=((H3.out.own 4).lt k hk).1;omega)))).setCell (p:=⟨pb,6,none⟩) (Nat.le_refl pb) _)
   clear hown2 iq O4 G4 B4
   go_wp2_with fail
   go_ret
   exact ⟨rfl,_,qO.out,kN.out⟩
theorem IG (pb q o n c:Nat) (nm ve:S) (st:St) (sl:Fin 6→Value) (rest:List S) (hw:∀ x∈rest,x.length≤2000) (hn:rest.length=n) (vv:Int) (v1 v2 v3:S) (ok:Bool) (hrc:aH.bZ rest=(⟨vv,v1,v2,v3⟩,ok)) (hrl:st.aL.length≤2000) (mx:Int) (w:World) (h:fD pb nm ve st sl w) (hq:q<w.heap.size)
   (hm:w.cell? ⟨3,0,none⟩=some (.int .i64 mx)) (hc:∀ j y,rest[j]? = some y→w.cell? ⟨q,o+j,none⟩=some (.string ⟨y.toArray⟩)) :
   Calls Tryz.prog 263 #[.pointer (some ⟨pb,0,none⟩), .int .i64 6, .slice (some ⟨q,o,none⟩) n c] w fun e w'=>e = .returned (.bool (ok))∧∃ sl',fD pb nm ve { st with aL:=st.aL++[⟨vv,v1,v2,v3⟩] } sl' w'∧Below pb w w':=by
 obtain ⟨i0,hi,hz0,hz1,hz2⟩:=aW Bu
 have hlt:=h.lt
 have H:=hide h
 have HC:Hid (Calls Tryz.prog 297 #[.slice (some ⟨q,o,none⟩) n c] w fun e w'=>e = .returned (.tuple #[.agg #[.int .i64 vv, .string ⟨v1.toArray⟩, .string ⟨v2.toArray⟩, .string ⟨v3.toArray⟩], .bool ok])∧Below w.heap.size w w'):=hide (by
   have:=qd (some ⟨q,o,none⟩) q o c rest hw mx w (World.block_lt_of_cell? w _ hm) hm (fun _=>⟨rfl,hq⟩) hc
   rw[hrc,hn] at this
   exact this)
 clear h hm hc hrc hn hw
 go_enter Tryz.func263,Tryz.ntmps263
 go_wp2_with (go_at_call 297;refine HC.out.mono ?_;rintro e w1 ⟨rfl,hb1⟩)
 have H1:=hide (H.out.below hb1)
 have HB1:=hide (hb1.mono (Nat.le_of_lt hlt))
 have H3:=hide (H1.out.alloc (.cells #[.int .i64 vv, .string ⟨v1.toArray⟩, .string ⟨v2.toArray⟩, .string ⟨v3.toArray⟩] 317))
 have HB3:=hide (HB1.out.alloc (Nat.le_of_lt H1.out.lt) (.cells #[.int .i64 vv, .string ⟨v1.toArray⟩, .string ⟨v2.toArray⟩, .string ⟨v3.toArray⟩] 317))
 have nV:=heap_alloc_new w1 (.cells #[.int .i64 vv, .string ⟨v1.toArray⟩, .string ⟨v2.toArray⟩, .string ⟨v3.toArray⟩] 317)
 have nX:(w1.alloc (.cells #[.int .i64 vv, .string ⟨v1.toArray⟩, .string ⟨v2.toArray⟩, .string ⟨v3.toArray⟩] 317)).heap.size=w1.heap.size+1:=by simp
 have hnf:some w1.heap.size≠(sl 5).ownBlock:=fun e=>by have:=((H1.out.own 5).lt _ e.symm).2;omega
 have hl2:=H1.out.lt
 obtain ⟨fb,qo⟩:∃ fb,w1.heap.size=fb:=⟨_,rfl⟩
 generalize hu:w1.alloc (.cells #[.int .i64 vv, .string ⟨v1.toArray⟩, .string ⟨v2.toArray⟩, .string ⟨v3.toArray⟩] 317)=u at *
 rw[qo] at nV nX hl2 hnf ⊢
 clear hu qo H1 HB1 hb1
 obtain ⟨l0,l1,l2,l3, -⟩:=ay nV
 have NU:=hide nV
 have hne2 : ¬ fb=pb:=by omega
 have Sr : ¬ pb=fb:=by omega
 clear nV
 have k5:=(ah H3.out.blk 7).trans (show _=some (sl 5) from rfl)
 have f5:=ak H3.out.blk 7
 obtain ⟨m,xs,hmx⟩:∃ m xs,aU st 5=(m,xs):=⟨_,_,rfl⟩
 have hm1:m≤2000:=by have:=congrArg Prod.fst hmx;simp only[aU] at this;omega
 have iF:=H3.out.own 5
 rw[hmx] at iF
 have qC:(u.drew).ownsRow (pb+1) 317 4 (sl 5) m xs:=iF
 have yt:=hide hmx
 have hlu:=H3.out.lt
 clear hmx iF
 go_region_law (refine bF rfl _ _ 152 rfl (pb+1) 317 i0 _ 4 56 Tryz.underlying152 hi hz0 hz1 hz2 rfl (by decide) (sl 5) m xs rfl (qC.alloc _) ⟨u.heap.size,0,none⟩ 1 1 [_,_,_,_] (by simp[Act.eval]) rfl (nJ _ _ _ _ _ _) (fun x hx=>by simp at hx;rcases hx with rfl | rfl | rfl | rfl<;>rfl) (by unfold maxLen;omega) (by omega) (by simp;omega) ?_;intro v' w4 hown' aN eD dJ;obtain ⟨gv,cv,rfl⟩:=aP hown' (by omega);have hk4:=fD.kept (H3.out.drew.alloc _) 5 aN;have q5:=(ah hk4 7).trans (show _=some (sl 5) from rfl);have g5:=ak hk4 7;have O4:=hide hown';have G4:=hide aN;have B4:=hide dJ;clear hown' aN eD dJ hk4)
 all_goals
   have iq:aU { st with aL:=st.aL++[⟨vv,v1,v2,v3⟩] } 5=(m+1,xs++[.int .i64 vv, .string ⟨v1.toArray⟩, .string ⟨v2.toArray⟩, .string ⟨v3.toArray⟩]):=by
     have:=yt.out
     simp only[aU,Prod.mk.injEq] at this ⊢
     rw[← this.1,← this.2];simp[rT,aO]
   have hown2:w4.ownsRow (pb+1) (pty 5) (Np 5) (.slice (some ⟨gv,0,none⟩) (m+1) cv) (aU { st with aL:=st.aL++[⟨vv,v1,v2,v3⟩] } 5).1 (aU { st with aL:=st.aL++[⟨vv,v1,v2,v3⟩] } 5).2:=by rw[iq];exact O4.out
   have qO:=hide (fD.put (H3.out.drew.alloc _) 5 G4.out hown2 B4.out (fun j hj=>by
     match j,hj with
     | 0,_=>rfl
     | 1,_=>rfl
     | 2,_=>rfl
     | 3,_=>rfl
     | 4,_=>rfl
     | 5,h=>exact absurd rfl h) rfl)
   have kN:Hid (Below pb w (w4.setCell ⟨pb,7,none⟩ (.slice (some ⟨gv,0,none⟩) (m+1) cv))):=hide (((show Below pb w w4 from ((HB3.out.drew.alloc (by show pb≤u.heap.size;omega) _).grown G4.out (by simp;omega) (fun k hk=>by have:=((H3.out.own 5).lt k hk).1;omega)))).setCell (p:=⟨pb,7,none⟩) (Nat.le_refl pb) _)
   clear hown2 iq O4 G4 B4
   go_wp2_with fail
   go_ret
   exact ⟨rfl,_,qO.out,kN.out⟩
def XW (st:St):Prop:=st.needs.length≤2000∧st.breaks.length≤2000∧st.wakes.length≤2000∧st.files.length≤2000∧st.runs.length≤2000∧st.aL.length≤2000∧st.left.length≤2000
theorem Eu {pb:Nat} {nm ve:S} {w:World} {f:FuncId} {args:Array Value} {o:Option St} (ho:o=none) (hc:Calls Tryz.prog f args w fun e w'=>e = .returned (.bool false)∧Below pb w w'):Calls Tryz.prog f args w (sU pb nm ve o w):=by
 subst ho;exact hc
theorem Cb (f:S→S) (st:St) (k:Int) (rest:List S):aH.jM f st k rest=(if k=1 then match rest with
   | [n]=>if Wd.isName n then some { st with needs:=st.needs++[(n,[])] } else none
   | [n,v]=>if aC.fine v&&Wd.isName n then some { st with needs:=st.needs++[(n,v)] } else none
   | _=>none
 else if k=2 then match rest with
   | [n]=>if Wd.isName n then some { st with breaks:=st.breaks++[n] } else none
   | _=>none
 else if k=3 then match rest with
   | [p]=>if Wd.bL p then some { st with wakes:=st.wakes++[p] } else none
   | _=>none
 else if k=4 then match rest with
   | [p,z,h] =>
     if 0≤sz z∧sz z≤st.left.length∧Wd.bL p=true∧Wd.under p=false∧(st.files.any fun f=>f.1==p)=false∧f (st.left.take (sz z).toNat)=h then
       some { st with files:=st.files++[(p,st.left.take (sz z).toNat)],left:=st.left.drop (sz z).toNat } else none
   | _=>none
 else if k=5 then if (aH.bZ rest).2=true∧(aH.bZ rest).1.verb≠5 then some { st with runs:=st.runs++[(aH.bZ rest).1] } else none
 else if k=6 then if (aH.bZ rest).2=true then some { st with aL:=st.aL++[(aH.bZ rest).1] } else none
 else none):=rfl
theorem Td (pb q o c:Nat) (nm ve:S) (st:St) (sl:Fin 6→Value) (k:Int) (hk:1≤k∧k≤6) (rest:List S) (hw:∀ x∈rest,x.length≤2000) (hn:rest.length≤2001) (K:Nat→Int) (mx:Int) (hf:XW st) (w:World) (h:fD pb nm ve st sl w) (hp0:9≤pb) (ha:Apart pb q sl w)
   (hm:w.cell? ⟨3,0,none⟩=some (.int .i64 mx)) (hK:∀ i:Nat,i<64→w.cell? ⟨4,i,none⟩=some (.int .u32 (K i)))
   (hc:∀ j y,rest[j]? = some y→w.cell? ⟨q,o+j,none⟩=some (.string ⟨y.toArray⟩)) :
   Calls Tryz.prog 263 #[.pointer (some ⟨pb,0,none⟩), .int .i64 k, .slice (some ⟨q,o,none⟩) rest.length c] w (sU pb nm ve (aH.jM (short K) st k rest) w):=by
 obtain ⟨f1,f2,f3,f4,f5,f6,f7⟩:=hf
 have hq:=ha.lt
 rw[Cb]
 rcases (show k=1∨k=2∨k=3∨k=4∨k=5∨k=6 from by omega) with rfl | rfl | rfl | rfl | rfl | rfl
 · rw[if_pos rfl]
   match rest,hc,hw with
   | [y],hc,hw=>exact y8 (ok:=Wd.isName y) rfl (jH pb q o 1 c w _ _ 1 _ (.inl ⟨rfl,rfl⟩) (Pz pb q o c nm ve st sl y (hw y (by simp)) f1 w h hq (hc 0 y rfl)))
   | [y,v],hc,hw =>
     cases hv:aC.fine v with
     | false=>exact Eu (by simp[hv]) ((jH pb q o 2 c w _ _ 1 _ (.inl ⟨rfl,rfl⟩) (Py pb q o c v hv y w hq (hc 0 y rfl) (hc 1 v rfl))).mono fun _ _ ⟨he,hb⟩=>⟨he,hb.mono (Nat.le_of_lt h.lt)⟩)
     | true=>exact y8 (ok:=Wd.isName y) (by simp[hv]) (jH pb q o 2 c w _ _ 1 _ (.inl ⟨rfl,rfl⟩) (PE pb q o c nm ve st sl y v (hw y (by simp)) hv f1 w h hq (hc 0 y rfl) (hc 1 v rfl)))
   | [],_,_=>exact xI h (jH pb q o 0 c w _ _ 1 _ (.inl ⟨rfl,rfl⟩) (yQ pb q o 0 c (by simp) (by simp) w))
   | a::b::d::l,_,_=>exact xI h (jH pb q o _ c w _ _ 1 _ (.inl ⟨rfl,rfl⟩) (yQ pb q o _ c (by simp) (by simp) w))
 · rw[if_neg (by decide),if_pos rfl]
   match rest,hc,hw,hn with
   | [y],hc,hw,_=>exact y8 (ok:=Wd.isName y) rfl (IE pb q o c nm ve st sl y (hw y (by simp)) f2 w h ha (hc 0 y rfl))
   | [],hc,_,hn=>exact Eu rfl (ni pb q o _ c nm ve st sl [] rfl (by simp) hn f2 w h hc)
   | a::b::l,hc,_,hn=>exact Eu rfl (ni pb q o _ c nm ve st sl (a::b::l) rfl (by simp) hn f2 w h hc)
 · rw[if_neg (by decide),if_neg (by decide),if_pos rfl]
   match rest,hc,hw,hn with
   | [y],hc,hw,_=>exact y8 (ok:=Wd.bL y) rfl (Lu pb q o c nm ve st sl y (hw y (by simp)) f3 mx w h ha hp0 hm (hc 0 y rfl))
   | [],hc,_,hn=>exact Eu rfl (nY pb q o _ c nm ve st sl [] rfl (by simp) hn f3 w h hc)
   | a::b::l,hc,_,hn=>exact Eu rfl (nY pb q o _ c nm ve st sl (a::b::l) rfl (by simp) hn f3 w h hc)
 · rw[if_neg (by decide),if_neg (by decide),if_neg (by decide),if_pos rfl]
   match rest,hc,hw with
   | [p,z,hh],hc,hw =>
     have hp:=hw p (by simp)
     have hz:=hw z (by simp)
     have c0:=hc 0 p rfl
     have c1:=hc 1 z rfl
     have c2:=hc 2 hh rfl
     have no:Calls Tryz.prog 296 #[.pointer (some ⟨pb,0,none⟩), .slice (some ⟨q,o,none⟩) 3 c] w (fun e w'=>e = .returned (.bool false)∧Below w.heap.size w w') → ¬ (0≤sz z∧sz z≤st.left.length∧Wd.bL p=true∧Wd.under p=false∧(st.files.any fun f=>f.1==p)=false) →
         Calls Tryz.prog 263 #[.pointer (some ⟨pb,0,none⟩), .int .i64 4, .slice (some ⟨q,o,none⟩) 3 c] w (sU pb nm ve (if 0≤sz z∧sz z≤st.left.length∧Wd.bL p=true∧Wd.under p=false∧(st.files.any fun f=>f.1==p)=false∧short K (st.left.take (sz z).toNat)=hh then
           some { st with files:=st.files++[(p,st.left.take (sz z).toNat)],left:=st.left.drop (sz z).toNat } else none) w):=fun hcl hnc =>
       Eu (if_neg fun hh=>hnc ⟨hh.1,hh.2.1,hh.2.2.1,hh.2.2.2.1,hh.2.2.2.2.1⟩) ((jH pb q o 3 c w _ _ 4 _ (.inr ⟨rfl,rfl⟩) hcl).mono fun _ _ ⟨he,hb⟩=>⟨he,hb.mono (Nat.le_of_lt h.lt)⟩)
     by_cases g1:sz z<0
     · exact no (OW pb q o c nm ve st sl p z hh w h hz g1 c0 c1 c2) (fun x=>by omega)
     · obtain ⟨n,hsz⟩:∃ n:Nat,sz z=(n:Int):=⟨(sz z).toNat,by omega⟩
       by_cases g2:n≤st.left.length
       · cases g3:Wd.bL p with
         | false=>exact no (OV pb q o c nm ve st sl p z hh mx w h hp0 hp hz n hsz g2 g3 hm c0 c1 c2) (fun x=>by rw[g3] at x;exact absurd x.2.2.1 (by decide))
         | true=>cases g4:Wd.under p with
           | true=>exact no (KY pb q o c nm ve st sl p z hh mx w h hp0 hp hz n hsz g2 g3 g4 hm c0 c1 c2) (fun x=>by rw[g4] at x;exact absurd x.2.2.2.1 (by decide))
           | false=>cases g5:(st.files.any fun f=>f.1==p) with
             | true=>exact no (R6 pb q o c nm ve st sl p z hh mx w h hp0 f4 hp hz n hsz g2 g3 g4 g5 hm c0 c1 c2) (fun x=>by rw[g5] at x;exact absurd x.2.2.2.2 (by decide))
             | false =>
               refine y8 (ok:=short K (st.left.take n)==hh) (st':={ st with files:=st.files++[(p,st.left.take n)],left:=st.left.drop n }) ?_ (jH pb q o 3 c w _ _ 4 _ (.inr ⟨rfl,rfl⟩) (R5 pb q o c nm ve st sl p z hh mx K w h hp0 f4 hp hz f7 n hsz g2 g3 g4 g5 hm hK c0 c1 c2))
               have e:(sz z).toNat=n:=by omega
               simp only[e,g3,g4,g5,true_and,beq_iff_eq]
               by_cases g6:short K (st.left.take n)=hh
               · rw[if_pos ⟨by omega,by omega,g6⟩,if_pos g6]
               · rw[if_neg (fun x=>g6 x.2.2),if_neg g6]
       · exact no (OU pb q o c nm ve st sl p z hh w h hz n hsz (by omega) c0 c1 c2) (fun x=>by omega)
   | [],_,_=>exact xI h (jH pb q o 0 c w _ _ 4 _ (.inr ⟨rfl,rfl⟩) (oO pb q o 0 c (by simp) w))
   | [_],_,_=>exact xI h (jH pb q o 1 c w _ _ 4 _ (.inr ⟨rfl,rfl⟩) (oO pb q o 1 c (by simp) w))
   | [_,_],_,_=>exact xI h (jH pb q o 2 c w _ _ 4 _ (.inr ⟨rfl,rfl⟩) (oO pb q o 2 c (by simp) w))
   | a::b::d::e::l,_,_=>exact xI h (jH pb q o _ c w _ _ 4 _ (.inr ⟨rfl,rfl⟩) (oO pb q o _ c (by simp) w))
 · rw[if_neg (by decide),if_neg (by decide),if_neg (by decide),if_neg (by decide),if_pos rfl]
   rcases hrc:aH.bZ rest with ⟨⟨vv,v1,v2,v3⟩,ok⟩
   cases ok with
   | false=>exact y8 (ok:=false) (by simp) (FQ pb q o _ c nm ve st sl rest hw rfl vv v1 v2 v3 hrc f5 mx w h hq hm hc)
   | true=>exact y8 (ok:=vv != 5) (by simp) (Du pb q o _ c nm ve st sl rest hw rfl vv v1 v2 v3 hrc f5 mx w h hq hm hc)
 · rw[if_neg (by decide),if_neg (by decide),if_neg (by decide),if_neg (by decide),if_neg (by decide),if_pos rfl]
   rcases hrc:aH.bZ rest with ⟨⟨vv,v1,v2,v3⟩,ok⟩
   exact y8 (ok:=ok) rfl (IG pb q o _ c nm ve st sl rest hw rfl vv v1 v2 v3 ok hrc f6 mx w h hq hm hc)
end
namespace aH
structure Oa where
 verb:S
 path:S
 «to» : S
 word:S
def Oa.zero:Oa:=⟨[],[],[],[]⟩
def Oa.kept (c:Oa):gH:=if vb c.verb=3 then ⟨3,c.to,[],c.path⟩ else ⟨vb c.verb,c.path,c.word,[]⟩
structure RSt where
 name:S
 version:S
 needs:List (S × S)
 breaks:List S
 wakes:List S
 files:List (S × Int × S)
 runs:List Oa
 aL:List Oa
def RSt.zero:RSt:=⟨[],[],[],[],[],[],[],[]⟩
abbrev ab6 (k last:Int):Prop:=k<last∨(k=last∧k<3)∨(k>last+1∧last<2)
variable (short:S→S)
def join (cur:S) (h:S):List S:=match sp 10 h with
 | []=>[cur]
 | a::l=>(cur++a)::l
theorem KI (d:UInt8) (l:S) (hd:d≠10):aZ (d::l)=(aZ l).map fun r=>(d::r.1,r.2):=by
 conv=>lhs;unfold aZ
 split
 · rename_i h;exact absurd rfl hd
 · cases aZ l<;>rfl
theorem KJ (e:UInt8) (l:S) (he:e≠10):aZ (10::e::l)=(aZ (e::l)).map fun r=>(10::r.1,r.2):=by
 conv=>lhs;unfold aZ
 split
 · rename_i h;simp at h;exact absurd h.1 he
 · cases aZ (e::l)<;>rfl
end aH
namespace aH
def ic (d:UInt8):List S→S
 | []=>[]
 | [x]=>x
 | x::y::l=>x++d::ic d (y::l)
theorem abZ (x:S):0≤kd x∧kd x≤6:=by unfold kd;repeat' split<;>omega
end aH
end Go.Proofs.YtialenebfcnkkaaGreatDoor
