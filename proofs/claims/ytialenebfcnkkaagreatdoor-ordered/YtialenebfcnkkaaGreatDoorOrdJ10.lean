/- OpenW2, OpenW3, FmtW1, IsW1, MntW1, MapMath, MapW1 -/
import Derived.Test.YtialenebfcnkkaaGreatDoorOrdJ9
import Derived.BigQuiet
import Derived.LaidEql
import Derived.Stop.Asserts
import Derived.RowKitTokens
import Derived.Test.YtialenebfcnkkaaGreatDoorOrdJ7
import Derived.Maps.OwnSet
import Derived.Maps.RangeWalk
set_option maxHeartbeats 8000000
set_option maxRecDepth 100000
namespace Go.Proofs.YtialenebfcnkkaaGreatDoor
section
open Go.RowKit
open Hv (S Dk)
structure rQ (C:Nat→Prop) (B db n a b c:Nat) (h:S) (d:Dk) (w wr:World):Prop where
 dev:wr.heap[B]? = some (.cells #[.iface 23 (.pointer (some ⟨db,0,none⟩)), .int .i64 n] 110 (0,0))
 con:wr.heap[B+1]? = some (.cells #[.string ⟨#[]⟩, .int .i64 0] 106 (0,0))
 st:aY (B+2) db n a b c h wr
 dk:bI C db d wr
 far:aQ B C w wr
 base:Base wr
theorem rQ.go {C:Nat→Prop} {B db n a b c:Nat} {h:S} {d d':Dk} {w wr w':World} (o:rQ C B db n a b c h d w wr) (hC:∀ k,C k→k<B) (hG:∀ k,C k→12≤k) (hd:bI C db d' w') (hf:aQ wr.heap.size C wr w'):rQ C B db n a b c h d' w w' :=
 have l:=o.st.lt
 have l0:=blt o.dev
 ⟨(hf.block B (by omega) (fun q=>by have:=hC _ q;omega)).trans o.dev,(hf.block (B+1) (by omega) (fun q=>by have:=hC _ q;omega)).trans o.con,o.st.far hf (Nat.le_refl _) (fun q=>by have:=hC _ q;omega),hd,o.far.next hf (by omega) (fun _ _ q=>q),o.base.far hf o.base.size hG⟩
theorem rQ.below {C:Nat→Prop} {B db n a b c:Nat} {h:S} {d:Dk} {w wr w':World} (o:rQ C B db n a b c h d w wr) (hb:Below wr.heap.size wr w'):rQ C B db n a b c h d w w' :=
 have l:=o.st.lt
 ⟨(hb.block B (by omega)).trans o.dev,(hb.block (B+1) (by omega)).trans o.con,o.st.below hb,o.dk.below hb,o.far.below hb (by omega),o.base.below hb o.base.size⟩
theorem rQ.drew {C:Nat→Prop} {B db n a b c:Nat} {h:S} {d:Dk} {w wr:World} (o:rQ C B db n a b c h d w wr):rQ C B db n a b c h d w wr.drew:=o.below ((Below.refl _ _).drew)
theorem rQ.put {C:Nat→Prop} {B db n a b c:Nat} {h:S} {d:Dk} {w wr:World} (o:rQ C B db n a b c h d w wr) (hC:∀ k,C k→k<B) (hB:12≤B) (a' b' c':Nat) (h':S):rQ C B db n a' b' c' h' d w ((((wr.setCell ⟨B+2,2,none⟩ (.int .i64 a')).setCell ⟨B+2,3,none⟩ (.int .i64 b')).setCell ⟨B+2,4,none⟩ (.int .i64 c')).setCell ⟨B+2,5,none⟩ (.string ⟨h'.toArray⟩)):=by
 have hn : ¬ C (B+2):=fun q=>by have:=hC _ q;omega
 have hf:∀ k,k≠B+2→((((wr.setCell ⟨B+2,2,none⟩ (.int .i64 a')).setCell ⟨B+2,3,none⟩ (.int .i64 b')).setCell ⟨B+2,4,none⟩ (.int .i64 c')).setCell ⟨B+2,5,none⟩ (.string ⟨h'.toArray⟩)).heap[k]? = wr.heap[k]? := fun k hk=>by
   rw[Below.heap_setCell _ _ _ _ hk,Below.heap_setCell _ _ _ _ hk,Below.heap_setCell _ _ _ _ hk,Below.heap_setCell _ _ _ _ hk]
 exact ⟨(hf B (by omega)).trans o.dev,(hf (B+1) (by omega)).trans o.con,heap_setCell_same _ (B+2) 5 _ _ _ (heap_setCell_same _ (B+2) 4 _ _ _ (heap_setCell_same _ (B+2) 3 _ _ _ (heap_setCell_same _ (B+2) 2 _ _ _ o.st))),
   (((o.dk.set (B+2) 2 hn _).set (B+2) 3 hn _).set (B+2) 4 hn _).set (B+2) 5 hn _,
   (((o.far.setCell (p:=⟨B+2,2,none⟩) (.inl (by show B≤B+2;omega)) _).setCell (p:=⟨B+2,3,none⟩) (.inl (by show B≤B+2;omega)) _).setCell (p:=⟨B+2,4,none⟩) (.inl (by show B≤B+2;omega)) _).setCell (p:=⟨B+2,5,none⟩) (.inl (by show B≤B+2;omega)) _,
   o.base.of (by simp) (fun k hk=>hf k (by omega))⟩
theorem LW {C:Nat→Prop} {d:Dk} (db n a c:Nat) (x:S) (hn:1≤n) (hn2:n≤1000000) (hlen:d.now.length=n) (ha:a≤1) (hc:c≤1000000) (hx:x.length≤(n-1) / 2*256) (hxl:x.length≤1000000) (tY:d.now[0]? = some (jC (iG a x.length c (short aF x))))
   (HT:Hid (∀ sb h w1,aY sb db n a x.length c h w1→bI C db d.flush w1→Base w1→Calls Tryz.prog 87 #[.pointer (some ⟨sb,0,none⟩)] w1 fun e w'=>e = .returned (.tuple #[.string ⟨x.toArray⟩, .nilIface])∧bI C db d.flush w'∧aQ w1.heap.size C w1 w'))
   (w:World) (hd:bI C db d w) (hbs:Base w) (qm:∀ k,C k→12≤k) :
   Calls Tryz.prog 42 #[.agg (gJ db n)] w fun e w'=>∃ sb,e = .returned (.tuple #[.pointer (some ⟨sb,0,none⟩), .agg #[.string ⟨x.toArray⟩, .int .i64 c], .nilIface])∧w.heap.size≤sb∧aY sb db n a x.length c (short aF x) w'∧bI C db d.flush w'∧aQ w.heap.size C w w':=by
 have HD:=hide hd;have iT:=hide hbs;have oF:=hide qm;have hlt:=hide hd.lt
 have hgs:=hbs.size
 have HDR:=hide (fun w hw=>Hq a x.length c (short aF x) ha hxl hc (oq x) (JF x) w hw)
 have HSH:=hide (fun w (hw:Base w)=>xP x hxl aF w (by have:=hw.size;omega) hw.rounds)
 obtain ⟨P,hP⟩:∃ P,jC (iG a x.length c (short aF x))=P:=⟨_,rfl⟩
 obtain ⟨h,hh⟩:∃ h,short aF x=h:=⟨_,rfl⟩
 rw[hP] at tY HDR
 rw[hh] at HDR HSH ⊢
 have SB:d.flush.now[0]? = some P:=tY
 clear hd hbs qm hP hh tY
 unfold gJ
 go_enter Tryz.func42,Tryz.ntmps42
 go_wp2_with fail
 have H0:Hid (rQ C w.heap.size db n 0 0 0 [] d w (((w.alloc (.cells #[.iface 23 (.pointer (some ⟨db,0,none⟩)), .int .i64 n] 110)).alloc (.cells #[.string ⟨#[]⟩, .int .i64 0] 106)).alloc (.cells #[.iface 23 (.pointer (some ⟨db,0,none⟩)), .int .i64 n, .int .i64 0, .int .i64 0, .int .i64 0, .string ⟨#[]⟩] 148))):=hide (by
   refine ⟨(Below.heap_alloc _ _ _ (by simp;omega)).trans ((Below.heap_alloc _ _ _ (by simp)).trans (heap_alloc_new w _)),(Below.heap_alloc _ _ _ (by simp)).trans ?_,?_,((HD.out.alloc _).alloc _).alloc _,(((aQ.refl w.heap.size C w).alloc (Nat.le_refl _) _).alloc (by simp) _).alloc (by simp;omega) _,((iT.out.alloc _).alloc _).alloc _⟩
   · have:=heap_alloc_new (w.alloc (.cells #[.iface 23 (.pointer (some ⟨db,0,none⟩)), .int .i64 n] 110)) (.cells #[.string ⟨#[]⟩, .int .i64 0] 106)
     simpa using this
   · have:=heap_alloc_new ((w.alloc (.cells #[.iface 23 (.pointer (some ⟨db,0,none⟩)), .int .i64 n] 110)).alloc (.cells #[.string ⟨#[]⟩, .int .i64 0] 106)) (.cells #[.iface 23 (.pointer (some ⟨db,0,none⟩)), .int .i64 n, .int .i64 0, .int .i64 0, .int .i64 0, .string ⟨#[]⟩] 148)
     unfold aY
     simpa using this)
 obtain ⟨u,hu⟩:∃ u,((w.alloc (.cells #[.iface 23 (.pointer (some ⟨db,0,none⟩)), .int .i64 n] 110)).alloc (.cells #[.string ⟨#[]⟩, .int .i64 0] 106)).alloc (.cells #[.iface 23 (.pointer (some ⟨db,0,none⟩)), .int .i64 n, .int .i64 0, .int .i64 0, .int .i64 0, .string ⟨#[]⟩] 148)=u:=⟨_,rfl⟩
 obtain ⟨B,hB⟩:∃ B,w.heap.size=B:=⟨_,rfl⟩
 have QV:∀ k,C k→k<B:=fun k hk=>by have:=hlt.out k hk;omega
 have hgB:12≤B:=by omega
 rw[hu,hB] at H0
 rw[hu,hB]
 have J8:=hide hB
 clear hu hB HD iT hlt hgs
 refine (qX (m:=n) u H0.out.dk).mono ?_
 rintro e w1 ⟨rfl,hd1,hf1⟩
 have H1:=hide (H0.out.go QV oF.out hd1 hf1)
 have e0:=(ah H1.out.dev 0).trans (show _=some (.iface 23 (.pointer (some ⟨db,0,none⟩))) from rfl)
 have e1:=(ah H1.out.dev 1).trans (show _=some (.int .i64 n) from rfl)
 clear hd1 hf1 H0
 go_wp2_with fail
 refine (Hr (m:=n) (n:=0) P SB w1 H1.out.dk).mono ?_
 rintro e w2 ⟨rfl,hd2,hf2⟩
 have H2:=hide (H1.out.go QV oF.out hd2 hf2)
 clear hd2 hf2 H1 e0 e1
 go_wp2_with fail
 refine (HDR.out w2 H2.out.base).mono ?_
 rintro e w3 ⟨rfl,hb3⟩
 have H3:=hide (H2.out.below hb3)
 obtain ⟨s0,s1,s2,s3,s4,s5⟩:=H3.out.st.cells
 have f2:=ak H3.out.st 2
 have f3:=ak H3.out.st 3
 have f4:=ak H3.out.st 4
 have f5:=ak H3.out.st 5
 have H4:=hide (H3.out.put QV hgB a x.length c h)
 clear hb3 H2
 unfold dX
 go_wp2_with fail
 clear s0 s1 s2 s3 s4 s5 f2 f3 f4 f5 H3
 rw[show B+1+1=B+2 from rfl]
 obtain ⟨W4,hW4⟩:∃ W4,((((w3.setCell ⟨B+2,2,none⟩ (.int .i64 a)).setCell ⟨B+2,3,none⟩ (.int .i64 x.length)).setCell ⟨B+2,4,none⟩ (.int .i64 c)).setCell ⟨B+2,5,none⟩ (.string ⟨h.toArray⟩))=W4:=⟨_,rfl⟩
 rw[hW4] at H4 ⊢
 clear hW4
 obtain ⟨s0,s1,s2,s3,s4,s5⟩:=H4.out.st.cells
 obtain ⟨q,hq⟩:∃ q,(n-1) / 2=q:=⟨_,rfl⟩
 have hq2:q≤1000000:=by omega
 have hxq:x.length≤q*256:=by omega
 have b1 : ¬ ((q:Int)*256<(x.length:Int)):=by omega
 have b2:decide ((q:Int)*256<(x.length:Int))=false:=decide_eq_false b1
 have w1':IntKind.i64.wrap ((q:Int)*256)=(q:Int)*256:=by rw[IntKind.wrap_i64];omega
 go_region_held3 (fun w'=>w'.cell? ⟨B+2,0,none⟩=some (.iface 23 (.pointer (some ⟨db,0,none⟩)))∧w'.cell? ⟨B+2,1,none⟩=some (.int .i64 n)∧w'.cell? ⟨B+2,3,none⟩=some (.int .i64 x.length))
   (first | assumption | exact ⟨H5.out.st.cells.1,H5.out.st.cells.2.1,H5.out.st.cells.2.2.2.1⟩ | exact ⟨s0,s1,s3⟩ | simp[go_sem, *])
   (first
     | (go_at_call 86;refine (Cj (B+2) db n a x.length c h hn hn2 _ H4.out.drew.st).mono ?_;rintro e w5 ⟨he,hb5⟩;rw[hq] at he;subst he;have H5:=hide (H4.out.drew.below hb5);clear hb5))
 clear s0 s1 s2 s3 s4 s5 H4
 go_wp2_with fail
 clear b1 b2 w1'
 refine (HT.out (B+2) h w5 H5.out.st H5.out.dk H5.out.base).mono ?_
 rintro e w6 ⟨rfl,hd6,Ea⟩
 have H6:=hide (H5.out.go QV oF.out hd6 Ea)
 have s5:=H6.out.st.cells.2.2.2.2.2
 have qh:(h==h)=true:=by simp
 clear hd6 Ea H5
 go_wp2_with fail
 go_region_held3 (fun w'=>w'.cell? ⟨B+2,5,none⟩=some (.string ⟨h.toArray⟩))
   (first | assumption | exact H7.out.st.cells.2.2.2.2.2 | simp[go_sem, *])
   (first
     | (go_at_call 88;refine (HSH.out _ H6.out.drew.base).mono ?_;rintro e w7 ⟨rfl,Vv⟩;have H7:=hide (H6.out.drew.below Vv);clear Vv))
 clear s5 H6
 go_wp2_with fail
 have s4:=H7.out.st.cells.2.2.2.2.1
 have f0:=ak H7.out.con 0
 have f1:=ak H7.out.con 1
 have r0:=(ah H7.out.con 0).trans (show _=some (.string ⟨#[]⟩) from rfl)
 have r1:=(ah H7.out.con 1).trans (show _=some (.int .i64 0) from rfl)
 go_region_held3 (fun w'=>w'.cell? ⟨B+2,4,none⟩=some (.int .i64 c))
   (first | assumption | simp[go_sem, *])
   (fail)
 have ZI:=heap_setCell_same _ (B+1) 1 _ _ (.int .i64 c) (heap_setCell_same _ (B+1) 0 _ _ (.string ⟨x.toArray⟩) H7.out.con)
 have n0:=(ah ZI 0).trans (show _=some (.string ⟨x.toArray⟩) from rfl)
 have n1:=(ah ZI 1).trans (show _=some (.int .i64 c) from rfl)
 clear ZI s4 f0 f1 r0 r1
 go_wp2_with fail
 refine bodyPost_ret (v := .tuple #[.pointer (some ⟨B+2,0,none⟩), .agg #[.string ⟨x.toArray⟩, .int .i64 c], .nilIface]) (by simp[results,Tryz.results42,go_sem,n0,n1]) rfl ⟨B+2,rfl,by rw[J8.out];omega,?_,?_,?_⟩
 · exact H7.out.st.kept ((Below.heap_setCell _ _ _ _ (by show B+2≠B+1;omega)).trans (Below.heap_setCell _ _ _ _ (by show B+2≠B+1;omega)))
 · exact ((H7.out.dk.set (B+1) 0 (fun q=>by have:=QV _ q;omega) _).set (B+1) 1 (fun q=>by have:=QV _ q;omega) _).drew
 · rw[J8.out]
   exact ((H7.out.far.setCell (p:=⟨B+1,0,none⟩) (.inl (by show B≤B+1;omega)) _).setCell (p:=⟨B+1,1,none⟩) (.inl (by show B≤B+1;omega)) _).drew
theorem LV {C:Nat→Prop} {d:Dk} (db n:Nat) (E:Value) (tY:d.now[0]? = some (List.replicate 256 0))
   (w:World) (hd:bI C db d w) (hbs:Base w) (qm:∀ k,C k→12≤k) (hE:w.cell? ⟨0,0,none⟩=some E) :
   Calls Tryz.prog 42 #[.agg (gJ db n)] w fun e w'=>e = .returned (.tuple #[.pointer none, .agg #[.string ⟨#[]⟩, .int .i64 0],E])∧bI C db d.flush w'∧aQ w.heap.size C w w':=by
 have HD:=hide hd;have iT:=hide hbs;have oF:=hide qm;have hlt:=hide hd.lt
 have hgs:=hbs.size
 have HDR:=hide (fun w hw=>Fg w hw)
 obtain ⟨P,hP⟩:∃ P,List.replicate 256 (0:UInt8)=P:=⟨_,rfl⟩
 rw[hP] at tY HDR
 have SB:d.flush.now[0]? = some P:=tY
 have HE:=hide hE
 clear hd hbs qm hP tY hE
 unfold gJ
 go_enter Tryz.func42,Tryz.ntmps42
 go_wp2_with fail
 have H0:Hid (rQ C w.heap.size db n 0 0 0 [] d w (((w.alloc (.cells #[.iface 23 (.pointer (some ⟨db,0,none⟩)), .int .i64 n] 110)).alloc (.cells #[.string ⟨#[]⟩, .int .i64 0] 106)).alloc (.cells #[.iface 23 (.pointer (some ⟨db,0,none⟩)), .int .i64 n, .int .i64 0, .int .i64 0, .int .i64 0, .string ⟨#[]⟩] 148))):=hide (by
   refine ⟨(Below.heap_alloc _ _ _ (by simp;omega)).trans ((Below.heap_alloc _ _ _ (by simp)).trans (heap_alloc_new w _)),(Below.heap_alloc _ _ _ (by simp)).trans ?_,?_,((HD.out.alloc _).alloc _).alloc _,(((aQ.refl w.heap.size C w).alloc (Nat.le_refl _) _).alloc (by simp) _).alloc (by simp;omega) _,((iT.out.alloc _).alloc _).alloc _⟩
   · have:=heap_alloc_new (w.alloc (.cells #[.iface 23 (.pointer (some ⟨db,0,none⟩)), .int .i64 n] 110)) (.cells #[.string ⟨#[]⟩, .int .i64 0] 106)
     simpa using this
   · have:=heap_alloc_new ((w.alloc (.cells #[.iface 23 (.pointer (some ⟨db,0,none⟩)), .int .i64 n] 110)).alloc (.cells #[.string ⟨#[]⟩, .int .i64 0] 106)) (.cells #[.iface 23 (.pointer (some ⟨db,0,none⟩)), .int .i64 n, .int .i64 0, .int .i64 0, .int .i64 0, .string ⟨#[]⟩] 148)
     unfold aY
     simpa using this)
 obtain ⟨u,hu⟩:∃ u,((w.alloc (.cells #[.iface 23 (.pointer (some ⟨db,0,none⟩)), .int .i64 n] 110)).alloc (.cells #[.string ⟨#[]⟩, .int .i64 0] 106)).alloc (.cells #[.iface 23 (.pointer (some ⟨db,0,none⟩)), .int .i64 n, .int .i64 0, .int .i64 0, .int .i64 0, .string ⟨#[]⟩] 148)=u:=⟨_,rfl⟩
 obtain ⟨B,hB⟩:∃ B,w.heap.size=B:=⟨_,rfl⟩
 have QV:∀ k,C k→k<B:=fun k hk=>by have:=hlt.out k hk;omega
 have hgB:12≤B:=by omega
 rw[hu,hB] at H0
 rw[hu,hB]
 have J8:=hide hB
 clear hu hB HD iT hlt hgs
 refine (qX (m:=n) u H0.out.dk).mono ?_
 rintro e w1 ⟨rfl,hd1,hf1⟩
 have H1:=hide (H0.out.go QV oF.out hd1 hf1)
 have e0:=(ah H1.out.dev 0).trans (show _=some (.iface 23 (.pointer (some ⟨db,0,none⟩))) from rfl)
 have e1:=(ah H1.out.dev 1).trans (show _=some (.int .i64 n) from rfl)
 clear hd1 hf1 H0
 go_wp2_with fail
 refine (Hr (m:=n) (n:=0) P SB w1 H1.out.dk).mono ?_
 rintro e w2 ⟨rfl,hd2,hf2⟩
 have H2:=hide (H1.out.go QV oF.out hd2 hf2)
 clear hd2 hf2 H1 e0 e1
 go_wp2_with fail
 refine (HDR.out w2 H2.out.base).mono ?_
 rintro e w3 ⟨rfl,hb3⟩
 have H3:=hide (H2.out.below hb3)
 obtain ⟨s0,s1,s2,s3,s4,s5⟩:=H3.out.st.cells
 have f2:=ak H3.out.st 2
 have f3:=ak H3.out.st 3
 have f4:=ak H3.out.st 4
 have f5:=ak H3.out.st 5
 have H4:=hide (H3.out.put QV hgB 0 0 0 [])
 clear hb3 H2
 unfold dX
 go_wp2_with fail
 clear s0 s1 s2 s3 s4 s5 f2 f3 f4 f5 H3
 rw[show B+1+1=B+2 from rfl]
 obtain ⟨W4,hW4⟩:∃ W4,((((w3.setCell ⟨B+2,2,none⟩ (.int .i64 0)).setCell ⟨B+2,3,none⟩ (.int .i64 0)).setCell ⟨B+2,4,none⟩ (.int .i64 0)).setCell ⟨B+2,5,none⟩ (.string ⟨#[]⟩))=W4:=⟨_,rfl⟩
 have H5:Hid (rQ C B db n 0 0 0 [] d.flush w W4):=hide (by rw[← hW4];exact H4.out)
 rw[hW4]
 clear hW4 H4
 go_quiet (fail)
 go_wp2_with fail
 have hEB : ¬ C 0:=fun q=>by have:=oF.out _ q;omega
 have e4:(W4.drewN nq).cell? ⟨0,0,none⟩=some E:=(World.cell?_of_block (a:=⟨0,0,none⟩) (H5.out.far.block 0 (by omega) hEB)).trans HE.out
 have f0:=ak H5.out.con 0
 have f1:=ak H5.out.con 1
 have r0:=(ah H5.out.con 0).trans (show _=some (.string ⟨#[]⟩) from rfl)
 have r1:=(ah H5.out.con 1).trans (show _=some (.int .i64 0) from rfl)
 obtain ⟨W5,hW5⟩:∃ W5,W4.drewN nq=W5:=⟨_,rfl⟩
 have H6:Hid (rQ C B db n 0 0 0 [] d.flush w W5):=hide (by rw[← hW5];exact H5.out.below (below_drewN (Below.refl _ _) nq))
 rw[hW5] at e4 ⊢
 clear hW5 H5 f0 f1 r0 r1
 have f0:=ak H6.out.con 0
 have f1:=ak H6.out.con 1
 have r0:=(ah H6.out.con 0).trans (show _=some (.string ⟨#[]⟩) from rfl)
 have r1:=(ah H6.out.con 1).trans (show _=some (.int .i64 0) from rfl)
 have hgl : ¬ 0=B+1:=by omega
 go_region_held3 (fun w'=>w'.cell? ⟨0,0,none⟩=some E)
   (first | assumption | simp[go_sem, *])
   (fail)
 have ZI:=heap_setCell_same _ (B+1) 1 _ _ (.int .i64 0) (heap_setCell_same _ (B+1) 0 _ _ (.string ⟨#[]⟩) H6.out.con)
 have n0:=(ah ZI 0).trans (show _=some (.string ⟨#[]⟩) from rfl)
 have n1:=(ah ZI 1).trans (show _=some (.int .i64 0) from rfl)
 clear ZI f0 f1 r0 r1
 go_wp2_with fail
 refine bodyPost_ret (v := .tuple #[.pointer none, .agg #[.string ⟨#[]⟩, .int .i64 0],E]) (by simp[results,Tryz.results42,go_sem,n0,n1]) rfl ⟨rfl,?_,?_⟩
 · exact ((H6.out.dk.set (B+1) 0 (fun q=>by have:=QV _ q;omega) _).set (B+1) 1 (fun q=>by have:=QV _ q;omega) _).drew
 · rw[J8.out]
   exact ((H6.out.far.setCell (p:=⟨B+1,0,none⟩) (.inl (by show B≤B+1;omega)) _).setCell (p:=⟨B+1,1,none⟩) (.inl (by show B≤B+1;omega)) _).drew
theorem xB {C:Nat→Prop} {db:Nat} {d:Dk} (w:World) (h:bI C db d w) (h1:64≤d.now.length) (h2:d.now.length≤4096) :
   Calls Tryz.prog 23 #[Di db] w fun e w'=>e = .returned (.bool true)∧w'=w:=by
 have HD:=hide h
 clear h
 unfold Di
 have hm:=vU db
 have b1:(64:Int)≤(d.now.length:Int):=by omega
 have b2:(d.now.length:Int)≤4096:=by omega
 go_enter Tryz.func23,Tryz.ntmps23
 go_wp2_with (go_at_call 337;refine (vG _ HD.out).mono ?_;rintro e w1 ⟨rfl,rfl⟩)
 go_ret
 exact ⟨rfl,rfl⟩
theorem Ak (w:World):Calls Tryz.prog 25 #[.nilIface] w fun e w'=>e = .returned (.int .i64 0)∧Below w.heap.size w w':=by
 go_enter Tryz.func25,Tryz.ntmps25
 go_wp2_with fail
 go_ret
 exact ⟨rfl,(Below.refl _ _).alloc (Nat.le_refl _) _⟩
theorem Hz {C:Nat→Prop} {db:Nat} {d:Dk} (hn:0<d.now.length) (hmay:∀ i,d.may.getD i []=[]) (kP:d.wr+1<4611686018427387904) (w:World) (hd:bI C db d w) (hbs:Base w) (qm:∀ k,C k→12≤k) :
   Calls Tryz.prog 26 #[Di db] w fun e w'=>e = .returned .nilIface∧∃ C',bI C' db (Mt d 0 0 0 (short aF [])) w'∧aQ w.heap.size C w w'∧∀ k,C' k→C k∨w.heap.size≤k:=by
 have HD:=hide hd;have iT:=hide hbs;have oF:=hide qm;have HM:=hide hmay
 clear hd hbs qm hmay
 go_enter Tryz.func26,Tryz.ntmps26
 go_wp2_with fail
 refine (Fj w HD.out).mono ?_
 rintro e w1 ⟨rfl,hb1⟩
 have HD1:=hide (HD.out.below hb1)
 have fC:=hide (iT.out.below hb1 iT.out.size)
 have HB1:=hide hb1
 clear hb1
 go_wp2_with fail
 refine (KF db d.now.length hn HM.out kP w1 HD1.out fC.out oF.out).mono ?_
 rintro e w2 ⟨rfl,C',hd2,hf2,hc2⟩
 have HD2:=hide hd2
 have hs1:=HB1.out.size
 have iU:=hide (((aQ.refl w.heap.size C w).below HB1.out (Nat.le_refl _)).next hf2 hs1 (fun _ _ q=>q))
 have jc:=hide (show ∀ k,C' k→C k∨w.heap.size≤k from fun k hk=>(hc2 k hk).imp id (fun q=>by omega))
 clear hd2 hf2 hc2
 go_wp2_with fail
 refine (yh _ _).mono ?_
 rintro e w3 ⟨rfl,rfl⟩
 go_wp2_with fail
 go_ret
 exact ⟨rfl,C',HD2.out,iU.out,jc.out⟩
theorem KZ {C:Nat→Prop} {db:Nat} {d:Dk} (h1:64≤d.now.length) (h2:d.now.length≤4096) (hmay:∀ i,d.may.getD i []=[]) (kP:d.wr+1<4611686018427387904) (w:World) (hd:bI C db d w) (hbs:Base w) (qm:∀ k,C k→12≤k) :
   Calls Tryz.prog 14 #[Di db] w fun e w'=>e = .returned (.int .i64 0)∧∃ C',bI C' db (Mt d 0 0 0 (short aF [])) w'∧aQ w.heap.size C w w'∧∀ k,C' k→C k∨w.heap.size≤k:=by
 have HD:=hide hd;have iT:=hide hbs;have oF:=hide qm;have HM:=hide hmay
 clear hd hbs qm hmay
 go_enter Tryz.func14,Tryz.ntmps14
 go_wp2_with fail
 refine (xB w HD.out h1 h2).mono ?_
 rintro e w1 ⟨rfl,rfl⟩
 go_wp2_with fail
 refine (Hz (by omega) HM.out kP w1 HD.out iT.out oF.out).mono ?_
 rintro e w2 ⟨rfl,C',hd2,hf2,hc2⟩
 have HD2:=hide hd2
 have iU:=hide hf2
 have jc:=hide hc2
 clear hd2 hf2 hc2
 go_wp2_with fail
 refine (Ak _).mono ?_
 rintro e w3 ⟨rfl,hb3⟩
 have HD3:=hide (HD2.out.below hb3)
 have mO:=hide (iU.out.below hb3 iU.out.size)
 clear hb3
 go_wp2_with fail
 go_ret
 exact ⟨rfl,C',HD3.out,mO.out,jc.out⟩
end
section
open Go.RowKit Go.Extern.Stop Go.Stop Go.Extern
theorem Iw (v:Value) (w:World):(Extern.ReflectliteType.typeOf #[.iface 386 v]).run Tryz.prog w = .ok (.iface 251 (.agg #[.pointer (some ⟨12,386,none⟩)])) w:=by kernel_rfl
theorem qb (w:World):(callFunc 353 #[.agg #[.pointer (some ⟨12,386,none⟩)]]).run Tryz.prog w = .ok (.value (.bool true)) w :=
 (@run_callFunc_extern Tryz.prog 353 _ (Extern.ReflectliteType.method fun t=>do Extern.Rtype.noPackHeld "Comparable" t;pure (.bool (← typeInfo t).comparable)) Tryz.func353 (by kernel_rfl) (by kernel_rfl) (by kernel_rfl) (by kernel_rfl) _ w).trans (by kernel_rfl)
theorem lU (v:Value) (w:World):(Go.method 527 251 v "Comparable").run Tryz.prog w = .ok (353,v) w:=by kernel_rfl
theorem SL:(Tryz.prog.info? 386).map (·.comparable)=some true:=by kernel_rfl
theorem SN:(Tryz.prog.info? 388).map (·.size)=some 1:=by kernel_rfl
theorem Ym (v:Value) (xT:TypeId) (w:World):(Instr.typeAssert (.iface 386 v) xT 253 true).run Tryz.prog w = .ok (.tuple #[.nilIface, .bool false]) w:=run_typeAssert_lacksB Tryz.underlying253 (by kernel_rfl) (by kernel_rfl) v xT w
theorem En (v:Value) (xT:TypeId) (w:World):(Instr.typeAssert (.iface 386 v) xT 256 true).run Tryz.prog w = .ok (.tuple #[.nilIface, .bool false]) w:=run_typeAssert_lacksB Tryz.underlying256 (by kernel_rfl) (by kernel_rfl) v xT w
theorem BJ (v:Value) (xT:TypeId) (w:World):(Instr.typeAssert (.iface 386 v) xT 257 true).run Tryz.prog w = .ok (.tuple #[.nilIface, .bool false]) w:=run_typeAssert_lacksB Tryz.underlying257 (by kernel_rfl) (by kernel_rfl) v xT w
theorem Yn (v:Value) (xT:TypeId) (w:World):(Instr.typeAssert (.iface 170 v) xT 253 true).run Tryz.prog w = .ok (.tuple #[.nilIface, .bool false]) w:=run_typeAssert_lacksB Tryz.underlying253 (by kernel_rfl) (by kernel_rfl) v xT w
theorem Bj (v:Value) (xT:TypeId) (w:World):(Instr.typeAssert (.iface 170 v) xT 256 true).run Tryz.prog w = .ok (.tuple #[.iface 170 v, .bool true]) w:=run_typeAssert_hasB Tryz.underlying256 (by kernel_rfl) v xT w
theorem vV (v:Value) (w:World):(Go.method 527 170 v "Unwrap").run Tryz.prog w = .ok (347,v) w:=by kernel_rfl
theorem FN (pb:Nat) (b:Addr) (w:World) (h1:w.cell? ⟨pb,1,none⟩=some (.iface 386 (.pointer (some b)))) :
   Calls Tryz.prog 45 #[.iface 170 (.pointer (some ⟨pb,0,none⟩)), .iface 386 (.pointer (some b))] w fun e w'=>e = .returned (.bool true)∧w'=w:=by
 obtain ⟨i,hi,hcmp⟩:=Option.map_eq_some_iff.1 SL
 obtain ⟨j,hj,hjs⟩:=Option.map_eq_some_iff.1 SN
 have h8 := @run_callFunc_extern Tryz.prog 92 _ Extern.ReflectliteType.typeOf Tryz.func92 (by kernel_rfl) (by kernel_rfl) (by kernel_rfl) (by kernel_rfl)
 have h32:=qb
 have tT:=Iw
 have mR:=lU
 have nE:=Ym
 have uE:=En
 have vE:=BJ
 have nW:=Yn
 have uW:=Bj
 have mU:=vV
 have heq:=run_eql_iface_ptr_same (P:=Tryz.prog) w b Tryz.underlying64 Tryz.underlying386 hi hcmp hj
 have hty:=run_eql_iface_types (P:=Tryz.prog) 170 386 (.pointer (some ⟨pb,0,none⟩)) (.pointer (some b)) Tryz.underlying64 (by decide) w
 go_enter Tryz.func45,Tryz.ntmps45
 go_wp2
 refine wp_loop_rounds 2 ?_
 rw[rounds_succ]
 go_wp2
 rw[rounds_succ]
 go_wp2
 go_ret
 exact ⟨rfl,rfl⟩
theorem Dq (pb:Nat) (b a:Addr) (ca cb:Array Value) (ta tb:TypeId) (w:World) (h1:w.cell? ⟨pb,1,none⟩=some (.iface 386 (.pointer (some a)))) (hne:a≠b) (ha:w.heap[a.block]? = some (.cells ca ta (0,0))) (hb:w.heap[b.block]? = some (.cells cb tb (0,0))) :
   Calls Tryz.prog 45 #[.iface 170 (.pointer (some ⟨pb,0,none⟩)), .iface 386 (.pointer (some b))] w fun e w'=>e = .returned (.bool false)∧w'=w:=by
 obtain ⟨i,hi,hcmp⟩:=Option.map_eq_some_iff.1 SL
 obtain ⟨j,hj,hjs⟩:=Option.map_eq_some_iff.1 SN
 have h8 := @run_callFunc_extern Tryz.prog 92 _ Extern.ReflectliteType.typeOf Tryz.func92 (by kernel_rfl) (by kernel_rfl) (by kernel_rfl) (by kernel_rfl)
 have h32:=qb
 have tT:=Iw
 have mR:=lU
 have nE:=Ym
 have uE:=En
 have vE:=BJ
 have nW:=Yn
 have uW:=Bj
 have mU:=vV
 have heq:=run_eql_iface_ptr_other (P:=Tryz.prog) w Tryz.underlying64 Tryz.underlying386 hi hcmp hj (by rw[hjs];decide) hne ha hb
 have hty:=run_eql_iface_types (P:=Tryz.prog) 170 386 (.pointer (some ⟨pb,0,none⟩)) (.pointer (some b)) Tryz.underlying64 (by decide) w
 go_enter Tryz.func45,Tryz.ntmps45
 go_wp2
 refine wp_loop_rounds 2 ?_
 rw[rounds_succ]
 go_wp2
 rw[rounds_succ]
 go_wp2
 go_ret
 exact ⟨rfl,rfl⟩
end
section
open Go.RowKit
open Hv (S Dk)
def wY (a:Addr):Value := .iface 386 (.pointer (some a))
structure sQ (a b:Addr) (w:World):Prop where
 nothing:w.cell? ⟨0,0,none⟩=some (wY a)
 power:w.cell? ⟨1,0,none⟩=some (wY b)
 ne:a≠b
 atA:∃ ca ta,w.heap[a.block]? = some (.cells ca ta (0,0))
 atB:∃ cb tb,w.heap[b.block]? = some (.cells cb tb (0,0))
theorem sQ.of {a b:Addr} {w w':World} (h:sQ a b w) (hs:w'.heap[0]? = w.heap[0]?) (hp:w'.heap[1]? = w.heap[1]?) (ha:w'.heap[a.block]? = w.heap[a.block]?) (hb:w'.heap[b.block]? = w.heap[b.block]?):sQ a b w':=by
 obtain ⟨ca,ta,h1⟩:=h.atA
 obtain ⟨cb,tb,h2⟩:=h.atB
 exact ⟨(World.cell?_of_block (a:=⟨0,0,none⟩) hs).trans h.nothing,(World.cell?_of_block (a:=⟨1,0,none⟩) hp).trans h.power,h.ne,⟨ca,ta,ha.trans h1⟩,⟨cb,tb,hb.trans h2⟩⟩
theorem sQ.below {a b:Addr} {w w':World} (h:sQ a b w) (hb:Below w.heap.size w w'):sQ a b w':=by
 obtain ⟨ca,ta,h1⟩:=h.atA
 obtain ⟨cb,tb,h2⟩:=h.atB
 exact h.of (hb.block _ (World.block_lt_of_cell? w _ h.nothing)) (hb.block _ (World.block_lt_of_cell? w _ h.power)) (hb.block _ (blt h1)) (hb.block _ (blt h2))
def Q6 (a b:Addr) (C:Nat→Prop):Prop:=∀ k,C k→12≤k∧k≠a.block∧k≠b.block
theorem sQ.far {a b:Addr} {C:Nat→Prop} {w w':World} (h:sQ a b w) (hf:aQ w.heap.size C w w') (hC:Q6 a b C):sQ a b w':=by
 obtain ⟨ca,ta,h1⟩:=h.atA
 obtain ⟨cb,tb,h2⟩:=h.atB
 exact h.of (hf.block _ (World.block_lt_of_cell? w _ h.nothing) (fun q=>by have:=(hC _ q).1;omega)) (hf.block _ (World.block_lt_of_cell? w _ h.power) (fun q=>by have:=(hC _ q).1;omega)) (hf.block _ (blt h1) (fun q=>(hC _ q).2.1 rfl)) (hf.block _ (blt h2) (fun q=>(hC _ q).2.2 rfl))
theorem Vh (s:ByteArray) (a:Addr) (w:World):Calls Tryz.prog 37 #[.string s,wY a] w fun e w'=>e = .returned (.iface 170 (.pointer (some ⟨w.heap.size,0,none⟩)))∧w'=w.alloc (.cells #[.string s,wY a] 172):=by
 unfold wY
 go_enter Tryz.func37,Tryz.ntmps37
 go_wp2
 go_ret
 exact ⟨rfl,rfl⟩
theorem GI (a b:Addr) (pb:Nat) (w:World) (h:sQ a b w) (h1:w.cell? ⟨pb,1,none⟩=some (wY a)):Calls Tryz.prog 25 #[.iface 170 (.pointer (some ⟨pb,0,none⟩))] w fun e w'=>e = .returned (.int .i64 4)∧Below w.heap.size w w':=by
 have H1:=hide (h.below ((Below.refl w.heap.size w).alloc (Nat.le_refl _) (.cells #[.pointer none] 113)))
 have hl:=World.block_lt_of_cell? w _ h1
 have hc1:=(((Below.refl w.heap.size w).alloc (Nat.le_refl _) (.cells #[.pointer none] 113)).cell (p:=⟨pb,1,none⟩) hl).trans h1
 have g0:=H1.out.nothing
 have g1:=H1.out.power
 obtain ⟨ca,ta,h2⟩:=H1.out.atA
 obtain ⟨cb,tb,h3⟩:=H1.out.atB
 have HA:=hide h2
 have HB:=hide h3
 have HC:=hide hc1
 clear h h1 h2 h3 hc1
 unfold wY at g0 g1 HC
 go_enter Tryz.func25,Tryz.ntmps25
 go_wp2_with fail
 refine (Dq pb b a ca cb ta tb _ HC.out H1.out.ne HA.out HB.out).mono ?_
 rintro e w1 ⟨rfl,rfl⟩
 go_wp2_with fail
 refine (FN pb a _ HC.out).mono ?_
 rintro e w1 ⟨rfl,rfl⟩
 go_wp2_with fail
 go_ret
 exact ⟨rfl,(Below.refl _ _).alloc (Nat.le_refl _) _⟩
theorem H9 {C:Nat→Prop} {d:Dk} (db:Nat) (a b:Addr) (tY:d.now[0]? = some (List.replicate 256 0)) (w:World) (hd:bI C db d w) (hbs:Base w) (hE:sQ a b w) (hA:Q6 a b C) :
   Calls Tryz.prog 24 #[Di db] w fun e w'=>∃ pb,e = .returned (.tuple #[.pointer none, .iface 170 (.pointer (some ⟨pb,0,none⟩))])∧w'.cell? ⟨pb,1,none⟩=some (wY a)∧bI C db d.flush w'∧aQ w.heap.size C w w':=by
 have HD:=hide hd;have iT:=hide hbs;have HE:=hide hE
 have oF:=hide (show ∀ k,C k→12≤k from fun k hk=>(hA k hk).1)
 clear hd hbs hE
 go_enter Tryz.func24,Tryz.ntmps24
 go_wp2_with fail
 refine (Fj w HD.out).mono ?_
 rintro e w1 ⟨rfl,hb1⟩
 have HD1:=hide (HD.out.below hb1)
 have fC:=hide (iT.out.below hb1 iT.out.size)
 have kU:=hide (HE.out.below hb1)
 have eO:=hide ((aQ.refl w.heap.size C w).below hb1 (Nat.le_refl _))
 clear hb1
 go_wp2_with fail
 refine (LV db d.now.length (wY a) tY w1 HD1.out fC.out oF.out kU.out.nothing).mono ?_
 rintro e w2 ⟨rfl,hd2,hf2⟩
 have HD2:=hide hd2
 have iU:=hide (eO.out.next hf2 eO.out.size (fun _ _ q=>q))
 clear hd2 hf2
 unfold wY
 go_wp2_with fail
 refine (Vh _ a _).mono ?_
 rintro e w3 ⟨rfl,rfl⟩
 have hs2:w.heap.size≤w2.heap.size:=iU.out.size
 go_wp2_with fail
 go_ret2
 exact ⟨w2.heap.size+1,rfl,by simp[wY],(HD2.out.alloc _).alloc _,(iU.out.alloc hs2 _).alloc (by simp;omega) _⟩
theorem IU {C:Nat→Prop} {d:Dk} (db:Nat) (a b:Addr) (h1:64≤d.now.length) (h2:d.now.length≤4096) (tY:d.now[0]? = some (List.replicate 256 0)) (w:World) (hd:bI C db d w) (hbs:Base w) (hE:sQ a b w) (hA:Q6 a b C) :
   Calls Tryz.prog 13 #[Di db] w fun e w'=>e = .returned (.tuple #[.pointer none, .int .i64 4])∧bI C db d.flush w'∧aQ w.heap.size C w w':=by
 have HD:=hide hd;have iT:=hide hbs;have HE:=hide hE
 clear hd hbs hE
 go_enter Tryz.func13,Tryz.ntmps13
 go_wp2_with fail
 refine (xB w HD.out h1 h2).mono ?_
 rintro e w1 ⟨rfl,rfl⟩
 go_wp2_with fail
 refine (H9 db a b tY w1 HD.out iT.out HE.out hA).mono ?_
 rintro e w2 ⟨pb,rfl,hp,hd2,hf2⟩
 have HD2:=hide hd2
 have HE2:=hide (HE.out.far hf2 hA)
 have iU:=hide hf2
 have HP:=hide hp
 clear hd2 hf2 hp
 go_wp2_with fail
 refine (GI a b pb w2 HE2.out HP.out).mono ?_
 rintro e w3 ⟨rfl,hb3⟩
 have HD3:=hide (HD2.out.below hb3)
 have mO:=hide (iU.out.below hb3 iU.out.size)
 clear hb3
 go_wp2_with fail
 go_ret2
 exact ⟨rfl,HD3.out,mO.out⟩
end
section
open Go
namespace Hv
abbrev VM (α:Type):=List (S × α)
def ins {α:Type} (x:S × α):VM α→VM α
 | []=>[x]
 | y::r=>if bytesBefore x.1 y.1 then x::y::r else y::ins x r
def del {α:Type} (E:VM α) (k:S):VM α:=E.filter fun p => !(p.1==k)
def put {α:Type} (E:VM α) (k:S) (v:α):VM α:=ins (k,v) (del E k)
def get {α:Type} (E:VM α) (k:S):Option α:=(E.find? fun p=>p.1==k).map (·.2)
def has {α:Type} (E:VM α) (k:S):Bool:=E.any fun p=>p.1==k
def aM {α:Type} (E:VM α):Prop:=E.Pairwise fun p q=>bytesBefore p.1 q.1=true
theorem dL:∀ a:S,bytesBefore a a=false
 | []=>rfl
 | a::r=>by simp[bytesBefore,dL r]
theorem Ap:∀ {a b c:S},bytesBefore a b=true→bytesBefore b c=true→bytesBefore a c=true
 | [],[],_,h,_=>by simp[bytesBefore] at h
 | [],_::_,[],_,h=>by simp[bytesBefore] at h
 | [],_::_,_::_,_,_=>rfl
 | _::_,[],_,h,_=>by simp[bytesBefore] at h
 | _::_,_::_,[],_,h=>by simp[bytesBefore] at h
 | a::r,b::s,c::t,h,k=>by
   simp only[bytesBefore,Bool.or_eq_true,decide_eq_true_eq,Bool.and_eq_true,beq_iff_eq] at h k ⊢
   rcases h with h | ⟨rfl,h⟩
   · rcases k with k | ⟨rfl,k⟩
     · exact .inl (UInt8.lt_trans h k)
     · exact .inl h
   · rcases k with k | ⟨rfl,k⟩
     · exact .inl k
     · exact .inr ⟨rfl,Ap h k⟩
theorem GN:∀ (a b:S),a≠b→bytesBefore a b=true∨bytesBefore b a=true
 | [],[],h=>absurd rfl h
 | [],_::_,_ => .inl rfl
 | _::_,[],_ => .inr rfl
 | a::r,b::s,h=>by
   simp only[bytesBefore,Bool.or_eq_true,decide_eq_true_eq,Bool.and_eq_true,beq_iff_eq]
   by_cases e:a=b
   · subst e
     rcases GN r s (fun q=>h (by rw[q])) with k | k
     · exact .inl (.inr ⟨rfl,k⟩)
     · exact .inr (.inr ⟨rfl,k⟩)
   · rcases UInt8.lt_or_lt_of_ne e with k | k
     · exact .inl (.inl k)
     · exact .inr (.inl k)
theorem RH {a b:S} (h:bytesBefore a b=true):bytesBefore b a=false:=by
 cases k:bytesBefore b a
 · rfl
 · have:=Ap h k;rw[dL] at this;cases this
section
variable {α:Type}
theorem FT {x y:S × α}:∀ {l:VM α},y∈ins x l ↔ y=x∨y∈l
 | []=>by simp[ins]
 | z::r=>by
   unfold ins
   split
   · simp
   · simp only[List.mem_cons,FT (l:=r)]
     constructor
     · rintro (h | h | h)
       · exact .inr (.inl h)
       · exact .inl h
       · exact .inr (.inr h)
     · rintro (h | h | h)
       · exact .inr (.inl h)
       · exact .inl h
       · exact .inr (.inr h)
theorem FM (x:S × α):∀ l:VM α,(ins x l).length=l.length+1
 | []=>rfl
 | z::r=>by
   unfold ins
   split
   · rfl
   · simp[FM x r]
theorem aM.ins {x:S × α}:∀ {l:VM α},aM l→(∀ p∈l,p.1≠x.1)→aM (ins x l)
 | [],_,_=>by simp[Hv.ins,aM]
 | y::r,h,hne=>by
   obtain ⟨h1,h2⟩:=List.pairwise_cons.1 h
   unfold Hv.ins
   split
   · rename_i hb
     refine List.pairwise_cons.2 ⟨fun q hq => ?_,h⟩
     rcases List.mem_cons.1 hq with rfl | hq
     · exact hb
     · exact Ap hb (h1 q hq)
   · rename_i hb
     have hyx:bytesBefore y.1 x.1=true:=by
       rcases GN x.1 y.1 (hne y (by simp)).symm with h' | h'
       · exact absurd h' hb
       · exact h'
     refine List.pairwise_cons.2 ⟨fun q hq => ?_,aM.ins (l:=r) h2 (fun p hp=>hne p (by simp[hp]))⟩
     rcases FT.1 hq with rfl | hq
     · exact hyx
     · exact h1 q hq
theorem aM.del {E:VM α} (h:aM E) (k:S):aM (del E k):=h.filter _
theorem vT {E:VM α} {k:S} {p:S × α}:p∈Hv.del E k ↔ p∈E∧p.1≠k:=by simp[Hv.del]
theorem aM.put {E:VM α} (h:aM E) (k:S) (v:α):aM (put E k v):=aM.ins (h.del k) (fun _ hp=>(vT.1 hp).2)
theorem zY {E:VM α} {k:S} {v:α} {p:S × α}:p∈put E k v ↔ p=(k,v)∨(p∈E∧p.1≠k):=by
 unfold Hv.put;rw[FT,vT]
theorem aM.nodup {E:VM α} (h:aM E):(E.map (·.1)).Nodup:=by
 rw[List.nodup_iff_pairwise_ne,List.pairwise_map]
 exact h.imp (fun {a b} q e=>by rw[e,dL] at q;cases q)
theorem aM.ext:∀ {E E':VM α},aM E→aM E'→(∀ p,p∈E ↔ p∈E')→E=E'
 | [],[],_,_,_=>rfl
 | [],b::s,_,_,h=>absurd ((h b).2 (by simp)) (by simp)
 | a::r,[],_,_,h=>absurd ((h a).1 (by simp)) (by simp)
 | a::r,b::s,h1,h2,h=>by
   obtain ⟨a1,a2⟩:=List.pairwise_cons.1 h1
   obtain ⟨b1,b2⟩:=List.pairwise_cons.1 h2
   have hab:a=b:=by
     rcases List.mem_cons.1 ((h a).1 (by simp)) with e | e
     · exact e
     · rcases List.mem_cons.1 ((h b).2 (by simp)) with q | q
       · exact q.symm
       · have:=RH (a1 b q);rw[b1 a e] at this;cases this
   subst hab
   rw[aM.ext a2 b2 (fun p => ?_)]
   constructor
   · intro hp
     rcases List.mem_cons.1 ((h p).1 (by simp[hp])) with e | e
     · subst e;have:=a1 p hp;rw[dL] at this;cases this
     · exact e
   · intro hp
     rcases List.mem_cons.1 ((h p).2 (by simp[hp])) with e | e
     · subst e;have:=b1 p hp;rw[dL] at this;cases this
     · exact e
theorem aB (E:VM α) (k:S):has E k=(get E k).isSome:=by
 unfold has get
 rw[Option.isSome_map]
 cases h:E.find? fun p=>p.1==k with
 | none =>
   rw[List.find?_eq_none] at h
   simp only[Option.isSome_none]
   rw[Bool.eq_false_iff]
   intro q
   obtain ⟨p,hp,hk⟩:=List.any_eq_true.1 q
   exact h p hp hk
 | some p =>
   have:=List.find?_some h
   simp only[Option.isSome_some]
   exact List.any_eq_true.2 ⟨p,List.mem_of_find?_eq_some h,this⟩
theorem aM.key:∀ {l:VM α},aM l→∀ {x y:S × α},x∈l→y∈l→x.1=y.1→x=y
 | [],_,_,_,hx,_,_=>by cases hx
 | z::r,hl,x,y,hx,hy,hxy=>by
   obtain ⟨z1,z2⟩:=List.pairwise_cons.1 hl
   rcases List.mem_cons.1 hx with e | hx'
   · rcases List.mem_cons.1 hy with e' | hy'
     · rw[e,e']
     · have:=z1 y hy';rw[← hxy,e,dL] at this;cases this
   · rcases List.mem_cons.1 hy with e' | hy'
     · have:=z1 x hx';rw[hxy,e',dL] at this;cases this
     · exact aM.key z2 hx' hy' hxy
theorem get_some {E:VM α} (h:aM E) {k:S} {v:α}:get E k=some v ↔ (k,v)∈E:=by
 unfold get
 constructor
 · intro q
   cases h2:E.find? fun p=>p.1==k with
   | none=>rw[h2] at q;cases q
   | some p =>
     rw[h2] at q
     have e1:=List.find?_some h2
     simp only[beq_iff_eq] at e1
     cases q
     rw[← e1]
     exact List.mem_of_find?_eq_some h2
 · intro q
   cases h2:E.find? fun p=>p.1==k with
   | none =>
     rw[List.find?_eq_none] at h2
     exact absurd (h2 _ q) (by simp)
   | some p =>
     have e1:=List.find?_some h2
     simp only[beq_iff_eq] at e1
     have m:=List.mem_of_find?_eq_some h2
     rw[h.key m q e1];rfl
theorem get_none {E:VM α} {k:S}:get E k=none ↔ ∀ p∈E,p.1≠k:=by
 unfold get
 rw[Option.map_eq_none_iff,List.find?_eq_none]
 simp
theorem aD {E:VM α} (h:aM E) (k:S) (v:α):get (put E k v) k=some v:=(get_some (h.put k v)).2 (zY.2 (.inl rfl))
theorem av {E:VM α} (h:aM E) {k k':S} (v:α) (hne:k'≠k):get (put E k v) k'=get E k':=by
 cases h2:get E k' with
 | none =>
   rw[get_none] at h2 ⊢
   intro p hp
   rcases zY.1 hp with rfl | ⟨hp,_⟩
   · exact fun e=>hne e.symm
   · exact h2 p hp
 | some u=>exact (get_some (h.put k v)).2 (zY.2 (.inr ⟨(get_some h).1 h2,hne⟩))
theorem bn {E:VM α} (k:S):get (del E k) k=none:=get_none.2 fun _ hp=>(vT.1 hp).2
theorem aV {E:VM α} (h:aM E) {k k':S} (hne:k'≠k):get (del E k) k'=get E k':=by
 cases h2:get E k' with
 | none =>
   rw[get_none] at h2 ⊢
   exact fun p hp=>h2 p (vT.1 hp).1
 | some u=>exact (get_some (h.del k)).2 (vT.2 ⟨(get_some h).1 h2,hne⟩)
theorem aM.dD {E E':VM α} (h:aM E) (h':aM E') (hg:∀ k,get E k=get E' k):E=E' :=
 h.ext h' fun ⟨k,v⟩=>by rw[← get_some h,← get_some h',hg]
end
def hR (v:Value):Option (DataW Value × List MemPlace):=some (.held v,[])
def rU (E:VM Value):DataW Value := .map (E.map fun p=>(Lit.string p.1,DataW.held p.2))
theorem Nl (x:S × Value):∀ l:VM Value,(ins x l).map (fun p=>(Lit.string p.1,DataW.held p.2))=DataW.insert (Lit.string x.1,DataW.held x.2) (l.map fun p=>(Lit.string p.1,DataW.held p.2))
 | []=>rfl
 | y::r=>by
   by_cases h:bytesBefore x.1 y.1=true
   · simp[ins,DataW.insert,Lit.before,h]
   · simp[ins,DataW.insert,Lit.before,h,Nl x r]
theorem Nk (E:VM Value) (k:S):(del E k).map (fun p=>(Lit.string p.1,DataW.held p.2))=(E.map fun p=>(Lit.string p.1,DataW.held p.2)).filter fun p => !p.1.sameKey (.string k):=by
 rw[del,List.filter_map]
 rfl
theorem abg (E:VM Value) (k:S) (v:Value):(rU E).put (.string k) (.held v)=rU (put E k v):=by
 unfold rU
 rw[DataW.put_eq,put,Nl,Nk]
 rfl
theorem abf (E:VM Value) (k:S):(rU E).del (.string k)=rU (del E k):=by
 unfold rU
 rw[DataW.del_eq,Nk]
 rfl
theorem X5 (E:VM Value) (k:S):Maps.has (rU E) (.string k)=has E k:=by
 unfold rU has
 rw[Maps.has_eq,List.any_map]
 rfl
theorem gZ (E:VM Value):Maps.size (rU E)=E.length:=by simp[rU,Maps.size_eq]
theorem V7 (E:VM Value) (k:S) (z:Value):(rU E).atKey (.string k) (.held z) = .held ((get E k).getD z):=by
 unfold rU get DataW.atKey
 simp only[List.find?_map]
 have:((fun p:Lit × DataW Value=>p.1.sameKey (.string k)) ∘ fun p:S × Value=>(Lit.string p.1,DataW.held p.2))=fun p=>p.1==k:=rfl
 rw[this]
 cases E.find? fun p=>p.1==k<;>rfl
end Hv
end
section
open Go.RowKit
open Hv (S VM)
theorem Pn:Maps.Keyed Tryz.prog 9:=Maps.string_keyed Tryz.underlying9
theorem WG (x:S) (hx:x.length≤maxLen):keyOf Tryz.prog 9 (.string ⟨x.toArray⟩)=some (.string x):=WideMaps.keyOf_string_mk Tryz.underlying9 (by simpa [ByteArray.size] using hx)
theorem IB {v:Value} {kl:Lit} (h:keyOf Tryz.prog 9 v=some kl):∃ x:S,x.length≤maxLen∧v = .string ⟨x.toArray⟩∧kl = .string x:=by
 have hk:=Tryz.underlying9
 cases v with
 | string s =>
   by_cases hs:s.size≤maxLen
   · rw[WideMaps.keyOf_string_mk hk hs] at h
     cases h
     exact ⟨s.data.toList,hs,by rw[Array.toArray_toList],rfl⟩
   · simp[keyOf,hk,mapKey,hs] at h
 | _=>simp[keyOf,hk,mapKey] at h
def MapAt (w:World) (b:Nat) (E:VM Value):Prop:=Hv.aM E∧w.ownsMap Tryz.prog 9 Hv.hR b E.length (Hv.rU E)
theorem Bd {w:World} {b n:Nat} {E:VM Value} (h:w.ownsMap Tryz.prog 9 Hv.hR b n (Hv.rU E)):w.ownsMap Tryz.prog 9 Hv.hR b E.length (Hv.rU E):=by
 obtain ⟨es,clock,hb,F,hs,hD⟩:=h
 refine ⟨es,clock,hb,F,?_,hD⟩
 have e1:Maps.size (Hv.rU E)=es.size:=by rw[hD];simp[Maps.size,length_sorted]
 rw[Hv.gZ] at e1
 omega
theorem MapAt.made (w:World):MapAt (w.alloc (.map #[] 0)) w.heap.size []:=⟨List.Pairwise.nil,World.ownsMap_made w _ _ _⟩
theorem MapAt.lt {w:World} {b:Nat} {E:VM Value} (h:MapAt w b E):b<w.heap.size:=h.2.lt
theorem MapAt.kept {w w':World} {b:Nat} {E:VM Value} (h:MapAt w b E) (hb:w'.heap[b]? = w.heap[b]?):MapAt w' b E:=by
 obtain ⟨h0,es,clock,h1,h2⟩:=h
 exact ⟨h0,es,clock,hb.trans h1,h2⟩
theorem MapAt.below {w w':World} {b:Nat} {E:VM Value} (h:MapAt w b E) (hb:Below w.heap.size w w'):MapAt w' b E:=h.kept (hb.block b h.lt)
theorem MapAt.far {w w':World} {b B:Nat} {C:Nat→Prop} {E:VM Value} (h:MapAt w b E) (hf:aQ B C w w') (hB:w.heap.size≤B) (hC : ¬ C b):MapAt w' b E:=h.kept (hf.block b (by have:=h.lt;omega) hC)
theorem MapAt.alloc {w:World} {b:Nat} {E:VM Value} (h:MapAt w b E) (o:Obj):MapAt (w.alloc o) b E:=h.kept (Below.heap_alloc _ _ _ h.lt)
theorem MapAt.drew {w:World} {b:Nat} {E:VM Value} (h:MapAt w b E):MapAt w.drew b E:=h
theorem MapAt.drewN {w:World} {b:Nat} {E:VM Value} (h:MapAt w b E) (n:Nat):MapAt (w.drewN n) b E:=h.kept rfl
theorem MapAt.set {w:World} {b g i:Nat} {E:VM Value} (h:MapAt w b E) (hg:b≠g) (v:Value):MapAt (w.setCell ⟨g,i,none⟩ v) b E:=h.kept (Below.heap_setCell _ _ _ _ hg)
section
variable {w:World} {b:Nat} {E:VM Value} {t e:TypeId}
theorem MapAt.look (h:MapAt w b E) (ht:Tryz.prog.underlying t=some (.map 9 e)) {z:Value} (hz:(zeroValue e).run Tryz.prog w = .ok z w) (k:S) (hk:k.length≤maxLen) :
   (Instr.lookup t (.map (some b)) (.string ⟨k.toArray⟩) false).run Tryz.prog w = .ok ((Hv.get E k).getD z) w:=by
 obtain ⟨v,ps,hrun,hv⟩:=h.2.lookup Pn ht hz (R:=Hv.hR) (zd := .held z) (zp:=[]) rfl (WG k hk)
 rw[Hv.V7] at hv
 simp only[Hv.hR,Option.some.injEq,Prod.mk.injEq,DataW.held.injEq] at hv
 rw[hrun,hv.1]
theorem MapAt.look_ok (h:MapAt w b E) (ht:Tryz.prog.underlying t=some (.map 9 e)) {z:Value} (hz:(zeroValue e).run Tryz.prog w = .ok z w) (k:S) (hk:k.length≤maxLen) :
   (Instr.lookup t (.map (some b)) (.string ⟨k.toArray⟩) true).run Tryz.prog w = .ok (.tuple #[(Hv.get E k).getD z, .bool (Hv.has E k)]) w:=by
 obtain ⟨v,ps,hrun,hv⟩:=h.2.look_ok Pn ht hz (R:=Hv.hR) (zd := .held z) (zp:=[]) rfl (WG k hk)
 rw[Hv.V7] at hv
 simp only[Hv.hR,Option.some.injEq,Prod.mk.injEq,DataW.held.injEq] at hv
 rw[hrun,hv.1,Hv.X5]
theorem MapAt.store (h:MapAt w b E) (ht:Tryz.prog.underlying t=some (.map 9 e)) (hn:E.length<maxLen) (k:S) (hk:k.length≤maxLen) (v:Value) :
   ∃ w',(Instr.mapUpdate t (.map (some b)) (.string ⟨k.toArray⟩) v).run Tryz.prog w = .ok () w'∧MapAt w' b (Hv.put E k v)∧w.mapTurned w' b:=by
 obtain ⟨w',hrun,h1,h2⟩:=h.2.store Pn ht hn (WG k hk) (val:=v) (d := .held v) (ps:=[]) rfl
 rw[Hv.abg] at h1
 exact ⟨w',hrun,⟨h.1.put k v,Bd h1⟩,h2⟩
theorem MapAt.drop (h:MapAt w b E) (ht:Tryz.prog.underlying t=some (.map 9 e)) (k:S) (hk:k.length≤maxLen) (ty:TypeId) :
   ∃ w',(Builtin.delete_ #[t,9] ty #[.map (some b), .string ⟨k.toArray⟩]).run Tryz.prog w = .ok (.tuple #[]) w'∧MapAt w' b (Hv.del E k)∧w.mapTurned w' b:=by
 obtain ⟨w',hrun,h1,h2⟩:=h.2.drop Pn ht (WG k hk) ty
 rw[Hv.abf] at h1
 exact ⟨w',hrun,⟨h.1.del k,Bd h1⟩,h2⟩
theorem MapAt.len (h:MapAt w b E) (ht:Tryz.prog.underlying t=some (.map 9 e)) (ty:TypeId):(Builtin.len_ #[t] ty #[.map (some b)]).run Tryz.prog w = .ok (.int .i64 E.length) w:=by
 rw[h.2.len ht ty,Hv.gZ]
end
def bE (w:World) (b r:Nat) (E:VM Value) (left:S→Bool) (cnt:Nat):Prop :=
 Hv.aM E∧w.ranges Tryz.prog 9 Hv.hR b r E.length (Hv.rU E) (fun l=>match l with | .string s=>left s | _=>false) cnt
section
variable {w:World} {ops:Array Oper} {rest:List Oper} {o:Oper} {a:Act} {Q:Exit→Act→World→Prop} {b:Nat} {E:VM Value}
theorem jJ (hg:o.guard=none) (m x:Operand) (t:TypeId) (hop:o.op=Op.lookup t m x false) (e:TypeId) (ht:Tryz.prog.underlying t=some (.map 9 e)) {z:Value} (hz:(zeroValue e).run Tryz.prog w = .ok z w)
   (h:MapAt w b E) (hm:a.eval m = .map (some b)) (k:S) (hk:k.length≤maxLen) (hx:a.eval x = .string ⟨k.toArray⟩)
   (hK:wpList Tryz.prog ops Q rest (a.put o.dst ((Hv.get E k).getD z)) w):wpList Tryz.prog ops Q (o::rest) a w:=by
 refine wpList_plain hg fun K' hK' => ?_
 have hrun:=h.look ht hz k hk
 unfold Oper.wp
 simp[execOp,hop,hm,hx,hrun,Result.andThen]
 exact hK' _ _ hK
theorem bQ (hg:o.guard=none) (m x:Operand) (t:TypeId) (hop:o.op=Op.lookup t m x true) (e:TypeId) (ht:Tryz.prog.underlying t=some (.map 9 e)) {z:Value} (hz:(zeroValue e).run Tryz.prog w = .ok z w)
   (h:MapAt w b E) (hm:a.eval m = .map (some b)) (k:S) (hk:k.length≤maxLen) (hx:a.eval x = .string ⟨k.toArray⟩)
   (hK:wpList Tryz.prog ops Q rest (a.put o.dst (.tuple #[(Hv.get E k).getD z, .bool (Hv.has E k)])) w):wpList Tryz.prog ops Q (o::rest) a w:=by
 refine wpList_plain hg fun K' hK' => ?_
 have hrun:=h.look_ok ht hz k hk
 unfold Oper.wp
 simp[execOp,hop,hm,hx,hrun,Result.andThen]
 exact hK' _ _ hK
theorem mK (hg:o.guard=none) (m x v:Operand) (t:TypeId) (hop:o.op=Op.mapUpdate t m x v) (e:TypeId) (ht:Tryz.prog.underlying t=some (.map 9 e))
   (h:MapAt w b E) (hn:E.length<maxLen) (hm:a.eval m = .map (some b)) (k:S) (hk:k.length≤maxLen) (hx:a.eval x = .string ⟨k.toArray⟩) (val:Value) (hv:a.eval v=val)
   (hK:∀ w',MapAt w' b (Hv.put E k val)→w.mapTurned w' b→wpList Tryz.prog ops Q rest (a.put o.dst undef) w'):wpList Tryz.prog ops Q (o::rest) a w:=by
 refine wpList_plain hg fun K' hK' => ?_
 obtain ⟨w',hrun,h1,h2⟩:=h.store ht hn k hk val
 unfold Oper.wp
 simp[execOp,hop,hm,hx,hv,hrun,Result.andThen]
 exact hK' _ _ (hK w' h1 h2)
theorem NR (hg:o.guard=none) (m x:Operand) (t:TypeId) (hop:o.op=Op.call { callee:=Callee.builtin Builtin.delete,args := #[m,x],argTypes := #[t,9] }) (e:TypeId) (ht:Tryz.prog.underlying t=some (.map 9 e))
   (h:MapAt w b E) (hm:a.eval m = .map (some b)) (k:S) (hk:k.length≤maxLen) (hx:a.eval x = .string ⟨k.toArray⟩)
   (hK:∀ w',MapAt w' b (Hv.del E k)→w.mapTurned w' b→wpList Tryz.prog ops Q rest (a.put o.dst (.tuple #[])) w'):wpList Tryz.prog ops Q (o::rest) a w:=by
 refine wpList_plain hg fun K' hK' => ?_
 obtain ⟨w',hrun,h1,h2⟩:=h.drop ht k hk o.type
 unfold Oper.wp
 simp[execOp,hop,resolve,invoke,builtin,hm,hx,hrun,Result.andThen]
 exact hK' _ _ (hK w' h1 h2)
theorem eH (hg:o.guard=none) (m:Operand) (t:TypeId) (hop:o.op=Op.range t m) (e:TypeId) (ht:Tryz.prog.underlying t=some (.map 9 e))
   (h:MapAt w b E) (hm:a.eval m = .map (some b))
   (hK:∀ w',bE w' b w.heap.size E (Hv.has E) E.length→w.grownBy w' none→w'.heap.size=w.heap.size+1→wpList Tryz.prog ops Q rest (a.put o.dst (.pointer (some ⟨w.heap.size,0,none⟩))) w'):wpList Tryz.prog ops Q (o::rest) a w:=by
 refine wpList_range_own w hg m t hop 9 e Pn ht Hv.hR b E.length (Hv.rU E) hm h.2 (fun w' h1 h2 h3=>hK w' ⟨h.1,?_⟩ h2 h3)
 rw[Hv.gZ] at h1
 have:Maps.has (Hv.rU E)=fun l=>match l with | .string s=>Hv.has E s | _=>false:=by
   funext l
   cases l with
   | string s=>exact Hv.X5 E s
   | _=>simp[Hv.rU,Maps.has_eq,List.any_map,Function.comp_def,Lit.sameKey]
 rw[this] at h1
 exact h1
theorem gG (hg:o.guard=none) (it:Operand) (hop:o.op=Op.next it false) (r:Nat) (left:S→Bool) (cnt:Nat) (hit:a.eval it = .pointer (some ⟨r,0,none⟩)) (h:bE w b r E left cnt)
   (hDone:cnt=0→(∀ k,left k=false)→wpList Tryz.prog ops Q rest (a.put o.dst (.tuple #[.bool false])) w)
   (hMore:∀ (k:S) (v:Value) (w':World) (cnt':Nat),k.length≤maxLen→left k=true→Hv.get E k=some v→bE w' b r E (fun z=>left z && !(z==k)) cnt'→cnt'<cnt→w.grownBy w' (some r)→w'.heap.size=w.heap.size →
     (Instr.entry (.pointer (some ⟨r,0,none⟩))).run Tryz.prog w' = .ok (.tuple #[.string ⟨k.toArray⟩,v]) w'→wpList Tryz.prog ops Q rest (a.put o.dst (.tuple #[.bool true, .string ⟨k.toArray⟩,v])) w'):wpList Tryz.prog ops Q (o::rest) a w:=by
 refine wpList_next_ranges w hg it hop 9 Pn Hv.hR (fun x:S => .string ⟨x.toArray⟩) (fun v:Value=>v) (fun key kl hkey => ?_) (fun v y _=>⟨v,rfl⟩) b r E.length (Hv.rU E) _ cnt hit h.2 (fun h0 hl=>hDone h0 (fun k=>hl (.string k))) (fun x c kl y w' cnt' hkey hlk hv hat hrg hlt hgr hsz hen => ?_)
 · obtain ⟨x,_,rfl,_⟩:=IB hkey
   exact ⟨x,rfl⟩
 · obtain ⟨x',hx',ex,rfl⟩:=IB hkey
   have:x=x':=by
     simp only[Value.string.injEq,ByteArray.mk.injEq] at ex
     simpa using congrArg Array.toList ex
   subst this
   simp only[Hv.hR,Option.some.injEq] at hv
   subst hv
   have hget:Hv.get E x=some c:=by
     cases hq:Hv.get E x with
     | none =>
       have h1:=hat (.held (.bool true))
       have h2:=hat (.held (.bool false))
       rw[Hv.V7,hq] at h1 h2
       simp only[Option.getD_none,DataW.held.injEq] at h1 h2
       rw[← h1] at h2
       cases h2
     | some u =>
       have h1:=hat (.held (.bool true))
       rw[Hv.V7,hq] at h1
       simp only[Option.getD_some,DataW.held.injEq] at h1
       rw[h1]
   refine hMore x c w' cnt' hx' hlk hget ⟨h.1,?_⟩ hlt hgr hsz hen
   have:(fun z:Lit=>(match z with | .string s=>left s | _=>false) && !z.sameKey (.string x))=fun l=>match l with | .string s=>left s && !(s==x) | _=>false:=by
     funext l
     cases l<;>rfl
   rw[this] at hrg
   exact hrg
end
end
end Go.Proofs.YtialenebfcnkkaaGreatDoor
