import Derived.Test.YtfhmaiicimdldaaGreatDoorFinJ30
import Derived.Test.YtfhmaiicimdldaaGreatDoorFinJ31
set_option maxHeartbeats 4000000
set_option maxRecDepth 100000
namespace Go.Proofs.YtfhmaiicimdldaaGreatDoor
variable {C F N:Nat->Prop}{L a db eb fm hb mb pm sb:Nat}{x y:Addr}{c:UInt8}{w w':World}
section
open Go.RowKit
open Go.MuLone
open Kw (St ME)
open Hv (S Dx VM Ns All)
def Zk (C N:Nat->Prop) (hb eb sb mb pm fm db n a:Nat) (d:Dx) (K:Nat) (T:S->Nat->Prop) (m:Hv.Mac) (w:World) (e:Ending) (w':World):Prop:=∃ r,e = .returned (.int .i64 r)/\∃ d' C' N',Ns d d' r K/\Kq C' db d' w'/\Kj w.heap.size (fun k=>K9 C eb sb pm fm k\/k=hb) w w'/\(∀ k,C' k->C k\/w.heap.size<=k)/\(∀ k,N' k->N k\/w.heap.size<=k) /\
 ((r=0/\∃ P' y,y=Hv.KU m.1 m.2 []/\Mj C' N' hb eb sb mb pm fm db n a y.length 0 (short KH y) d' P' m.1 m.2 (.slice none 0 0) (.map none) (.map none) 0 w'/\Md n a y 0 d')\/(r≠0/\All d' (O7 n T)))
theorem ak8(hb eb sb mb pm fm db n a:Nat) (x0:S) (d:Dx) (P:VM Value) (D:VM Hv.PD) (G:VM S) (v:Value) (xs:List S) (jA:Rl xs) (pl:Hv.Plan) (eD:Hv.check n D G xs = .ok pl) (hsteps:0<pl.steps.length) (hxs:∀ x∈xs,x.length<=100000) (bE:Lf D) (hDl:D.length<=12) (hG:G.length<=16) (hS:Hv.Short 200 G) (hK:Hv.GK G) (cL:Qe \/ ∀ s,Hv.wish xs = .ok s->∀ k d,Hv.get s.I k=some d->KX d.st.runs/\KX d.st.Kn) (hD:Md n a x0 0 d) (hx:x0.length<=1000000) (au:d.calls+4000000<1000000000000) (hnn:1<=n/\n<=4096) (w:World) (hE:Ph L x y w) (hL:∀ k,K9 C eb sb pm fm k\/k=hb->L<=k) (he:Mj C N hb eb sb mb pm fm db n a x0.length 0 (short KH x0) d P D G (.slice none 0 0) (.map none) (.map none) 0 w) (hv:Reads w v xs) (oH:∀ g,v.ownBlock=some g->g≠hb) :
 Calls Tryz.prog 9 #[.pointer (some ⟨hb,0,none⟩),v] w (Zk C N hb eb sb mb pm fm db n a d 1500000 (ajP x0 (Hv.KU D G xs) pl.steps.length (Hv.KU (Hv.Kc pl (Hv.KG D pl.Le,G) pl.steps).1 (Hv.Kc pl (Hv.KG D pl.Le,G) pl.steps).2 [])) (Hv.Kc pl (Hv.KG D pl.Le,G) pl.steps) w):=by
 obtain ⟨iE,vr⟩:=Hv.ac6 hnn.2 he.Lu.pk.Mt (Hv.KM he.Lu.La.files.1) bE hDl hG hS hK hxs cL eD;obtain ⟨l1,l2,l3⟩:=he.locked;have hv1:=hv.locked oH;have h0:=(JZ he.blk 0).trans (show _=some (.int .i32 0) from rfl);have f0:=J2 he.blk 0;have eW:=JY l2;have jI:=JY l3;have HO:=JY he.off;have iy:=JY he.low;have dR:=JY (blt he.blk);have eX:=JY hL;have pg:=JY hE;have fO:Hid (∀ w1,w1=w.setCell ⟨hb,0,none⟩ (.int .i32 1)->_):=JY (fun w1 (q:w1=w.setCell ⟨hb,0,none⟩ (.int .i32 1))=>ahC (C:=C) (N:=N) eb sb mb pm fm db n a x0 d P D G v xs jA pl eD iE vr hsteps bE cL hS hD hx au hnn w1 (by rw[q];exact l2) (by rw[q];exact hv1));clear iE vr eD hxs bE hS hK cL hD he hv hv1 oH hE hL jA;obtain ⟨T,hT⟩:∃ T,ajP x0 (Hv.KU D G xs) pl.steps.length (Hv.KU (Hv.Kc pl (Hv.KG D pl.Le,G) pl.steps).1 (Hv.Kc pl (Hv.KG D pl.Le,G) pl.steps).2 [])=T:=⟨_,rfl⟩
 rw[hT] at fO |-;clear hT;obtain ⟨m,hm⟩:∃ m,Hv.Kc pl (Hv.KG D pl.Le,G) pl.steps=m:=⟨_,rfl⟩
 rw[hm] at fO |-;clear hm;have c2:=(JZ l1 2).trans (show _=some (.pointer (some ⟨eb,0,none⟩)) from rfl);have dW:=JY l1;have hsz:(w.setCell ⟨hb,0,none⟩ (.int .i32 1)).heap.size=w.heap.size:=by simp
 have lf:=JY hsz;clear l1 l2 l3 hsz
 go_enter_defers Tryz.func9,Tryz.ntmps9
 go_wp2_with (go_at_call 19;refine (lock_free Tryz.muLib ⟨hb,0,none⟩ _ h0 f0).mono ?_;rintro e w1 ⟨rfl,hw1⟩;have bL:=JY hw1;rw[<- hw1] at c2;clear hw1)
 refine (fO.out w1 bL.out).mono ?_;rintro e w2 ⟨v',rfl,d',C',N',r,q0,q1,q2,q3,q4,q5,q6⟩;have pV:=JY q0;have cR:=JY q1;have bR:=JY q2;have eZ:=JY q3;have jq:=JY q4;have l8:=JY q5;have iU:=JY q6;clear q1 q2 q3 q4 q5 q6 fO;have hw1:=bL.out;have hs1:w1.heap.size=w.heap.size:=by rw[hw1];exact lf.out
 have hblt:=dR.out;have hne : ¬ K9 C eb sb pm fm hb:=by
  obtain ⟨o1,o2,o3,o4,o5,o6,o7,o8⟩:=HO.out;rintro (q | q | q | q | q)
  · exact o1 q
  · exact o3 q
  · exact o4 q
  · exact o6 q
  · exact o7 q
 have r1:w1.heap[hb]? = some (.cells #[.int .i32 1, .int .u32 0, .pointer (some ⟨eb,0,none⟩)] 72 (0,0)):=by rw[hw1];exact dW.out
 have r2:=(eZ.out.block hb (by rw[hs1];exact hblt) hne).trans r1;have aU:=JY r2;have iD:Kj w.heap.size (fun k=>K9 C eb sb pm fm k\/k=hb) w w1:=by rw[hw1];exact (Kj.refl w.heap.size (fun k=>K9 C eb sb pm fm k\/k=hb) w).next jI.out (AC _) (fun q _ e => .inr e)
 have bp:=JY (iD.next eZ.out (by omega) (fun q _ e => .inl e));have qB:=jq.out;have Ba:=l8.out;rw[hs1] at qB Ba;have cY:=JY qB;have lY:=JY Ba;have wE : ¬ C' hb:=fun q=>(cY.out hb q).elim HO.out.1 (fun q=>by omega)
 have wF : ¬ N' hb:=fun q=>(lY.out hb q).elim HO.out.2.1 (fun q=>by omega)
 have hrb:d'.rb≠hb:=by rw[cR.out.rb];exact HO.out.2.2.2.2.2.2.2
 have iz:=JY (And.intro wE (And.intro wF hrb));clear r1 r2 iD qB Ba wE wF hrb hne;by_cases hr:r=0
 · subst hr;obtain rfl:v' = .nilIface:=(q0.resolve_right (fun q=>by rcases q.1 with q | q<;>omega)).2;have hfin:=(iU.out.resolve_right fun q=>q.1 rfl).2;have nH:=JY hfin;clear q0 pV iU hfin hw1 hs1;go_wp2_with fail;refine (T9 hb w2).mono ?_;rintro e w3 ⟨rfl,hb3⟩;have av:=JY hb3;clear hb3;go_wp2_with fail;have r3:=(av.out.block hb (blt aU.out)).trans aU.out;have x0:=(JZ r3 0).trans (show _=some (.int .i32 1) from rfl);have y0:=J2 r3 0;refine leaves_cons (f:=20) (args := #[.pointer (some ⟨hb,0,none⟩)]) (by simp) (by simp[go_sem]) ?_;refine (unlock_deferred Tryz.muLib ⟨hb,0,none⟩ .returning _ x0 y0).mono ?_;rintro e u' w'' ⟨rfl,rfl,rfl⟩;obtain ⟨P',y',hy,k1,k2⟩:=nH.out;obtain ⟨o1,o2,o3,o4,o5,o6,o7,o8⟩:=HO.out;have hH:=Mj.free r3 (k1.below av.out) ⟨iz.out.1,iz.out.2.1,o3,o4,o5,o6,o7,iz.out.2.2⟩ iy.out;refine ⟨_,results_tmp rfl _ _ _,0,rfl,d',C',N',cR.out,hH.Lu.dk,(bp.out.below av.out bp.out.size).setCell (p:=⟨hb,0,none⟩) (.inr (.inr rfl)) _,cY.out,lY.out, .inl ⟨rfl,P',y',hy,hH,k2⟩⟩
 · have hall:=(iU.out.resolve_left fun q=>hr q.1).2;have lK:=JY hall;have bh:=JY (pg.out.far bp.out (fun k q=>eX.out k q));have hlb:=eX.out hb (.inr rfl);obtain ⟨-,ty,qb,rfl, -⟩:=q0.form.resolve_left (fun q=>hr q.1);clear q0 iU hall hw1;go_wp2_with fail;refine (YV hb w1.heap.size _ _ r hr w2 aU.out bh.out hlb pV.out (by omega)).mono ?_;rintro e w3 ⟨rfl,hr3,hf3⟩;have bP:=JY hf3;have dv:=JY hr3;clear hr3 hf3;go_wp2_with fail;have x0:=(JZ dv.out 0).trans (show _=some (.int .i32 1) from rfl);have y0:=J2 dv.out 0;refine leaves_cons (f:=20) (args := #[.pointer (some ⟨hb,0,none⟩)]) (by simp) (by simp[go_sem]) ?_;refine (unlock_deferred Tryz.muLib ⟨hb,0,none⟩ .returning _ x0 y0).mono ?_;rintro e u' w'' ⟨rfl,rfl,rfl⟩;have hd3:=bR.out.far bP.out (AC _) (fun k hk (q:k=hb)=>hk.elim (fun hk=>iz.out.1 (q▸hk)) (fun hk=>iz.out.2.2 (hk▸q)));refine ⟨_,results_tmp rfl _ _ _,r,rfl,d',C',N',cR.out,hd3.set hb 0 ⟨iz.out.1,fun q=>iz.out.2.2 q.symm⟩ _,?_,cY.out,lY.out, .inr ⟨hr,lK.out⟩⟩;exact (bp.out.next bP.out bp.out.size (fun q _ e => .inr e)).setCell (p:=⟨hb,0,none⟩) (.inr (.inr rfl)) _
theorem abr{M:Nat->Prop}   (hb eb sb mb pm fm db n a:Nat) (x0:S) (d:Dx) (P:VM Value) (q0:Hv.Mac) (sa:Option Addr) (sc im km cA:Nat) (pl:Hv.Plan) (hn0:cA<pl.steps.length) (iE:Pm n pl q0) (hD:Md n a x0 cA d) (hx:x0.length<=1000000) (au:d.calls+2000000<1000000000000) (hnn:1<=n/\n<=4096) (w:World) (hE:Ph L x y w) (hL:∀ k,K9 C eb sb pm fm k\/k=hb->L<=k) (he:Mj C N hb eb sb mb pm fm db n a x0.length cA (short KH x0) d P (Hv.Kc pl q0 (pl.steps.take cA)).1 (Hv.Kc pl q0 (pl.steps.take cA)).2 (.slice sa pl.steps.length sc) (.map (some im)) (.map (some km)) cA w) (hpl:LC M pl (.slice sa pl.steps.length sc) im km w) (hN:∀ g,M g->N g) (hM:Nz C eb sb pm fm M) :
 Calls Tryz.prog 24 #[.pointer (some ⟨hb,0,none⟩)] w (Zk C N hb eb sb mb pm fm db n (1-a) d 1500000 (FinT x0 cA pl.steps.length (Hv.KU (Hv.Kc pl q0 pl.steps).1 (Hv.Kc pl q0 pl.steps).2 [])) (Hv.Kc pl q0 pl.steps) w):=by
 obtain ⟨l1,l2,l3⟩:=he.locked;have wN:=hpl.far l3 (AC _) (fun g hg (q:g=hb)=>he.off.2.1 (q▸hN g hg));have h0:=(JZ he.blk 0).trans (show _=some (.int .i32 0) from rfl);have f0:=J2 he.blk 0;have eW:=JY l2;have jI:=JY l3;have HO:=JY he.off;have iy:=JY he.low;have dR:=JY (blt he.blk);have eX:=JY hL;have pg:=JY hE;have fO:Hid (∀ w1,w1=w.setCell ⟨hb,0,none⟩ (.int .i32 1)->_):=JY (fun w1 (q:w1=w.setCell ⟨hb,0,none⟩ (.int .i32 1))=>afW (C:=C) (N:=N) eb sb mb pm fm db n a x0 d P q0 sa pl.steps.length sc im km cA pl rfl hn0 iE hD hx au hnn w1 (by rw[q];exact l2) (by rw[q];exact wN) hN hM);clear iE hD he hpl wN hE hL hn0 hN hM;obtain ⟨T,hT⟩:∃ T,FinT x0 cA pl.steps.length (Hv.KU (Hv.Kc pl q0 pl.steps).1 (Hv.Kc pl q0 pl.steps).2 [])=T:=⟨_,rfl⟩
 rw[hT] at fO |-;clear hT;obtain ⟨m,hm⟩:∃ m,Hv.Kc pl q0 pl.steps=m:=⟨_,rfl⟩
 rw[hm] at fO |-;clear hm;have c2:=(JZ l1 2).trans (show _=some (.pointer (some ⟨eb,0,none⟩)) from rfl);have dW:=JY l1;have hsz:(w.setCell ⟨hb,0,none⟩ (.int .i32 1)).heap.size=w.heap.size:=by simp
 have lf:=JY hsz;clear l1 l2 l3 hsz
 go_enter_defers Tryz.func24,Tryz.ntmps24
 go_wp2_with (go_at_call 19;refine (lock_free Tryz.muLib ⟨hb,0,none⟩ _ h0 f0).mono ?_;rintro e w1 ⟨rfl,hw1⟩;have bL:=JY hw1;rw[<- hw1] at c2;clear hw1)
 refine (fO.out w1 bL.out).mono ?_;rintro e w2 ⟨v',rfl,d',C',r,q0,q1,q2,q3,q4,q6⟩;have pV:=JY q0;have cR:=JY q1;have bR:=JY q2;have eZ:=JY q3;have jq:=JY q4;have iU:=JY q6;clear q1 q2 q3 q4 q6 fO;have hw1:=bL.out;have hs1:w1.heap.size=w.heap.size:=by rw[hw1];exact lf.out
 have hblt:=dR.out;have hne : ¬ K9 C eb sb pm fm hb:=by
  obtain ⟨o1,o2,o3,o4,o5,o6,o7,o8⟩:=HO.out;rintro (q | q | q | q | q)
  · exact o1 q
  · exact o3 q
  · exact o4 q
  · exact o6 q
  · exact o7 q
 have r1:w1.heap[hb]? = some (.cells #[.int .i32 1, .int .u32 0, .pointer (some ⟨eb,0,none⟩)] 72 (0,0)):=by rw[hw1];exact dW.out
 have r2:=(eZ.out.block hb (by rw[hs1];exact hblt) hne).trans r1;have aU:=JY r2;have iD:Kj w.heap.size (fun k=>K9 C eb sb pm fm k\/k=hb) w w1:=by rw[hw1];exact (Kj.refl w.heap.size (fun k=>K9 C eb sb pm fm k\/k=hb) w).next jI.out (AC _) (fun q _ e => .inr e)
 have bp:=JY (iD.next eZ.out (by omega) (fun q _ e => .inl e));have qB:=jq.out;rw[hs1] at qB;have cY:=JY qB;have wE : ¬ C' hb:=fun q=>(cY.out hb q).elim HO.out.1 (fun q=>by omega)
 have wF : ¬ N hb:=HO.out.2.1;have hrb:d'.rb≠hb:=by rw[cR.out.rb];exact HO.out.2.2.2.2.2.2.2
 have iz:=JY (And.intro wE (And.intro wF hrb));clear r1 r2 iD qB wE wF hrb hne;by_cases hr:r=0
 · subst hr;obtain rfl:v' = .nilIface:=(q0.resolve_right (fun q=>by rcases q.1 with q | q<;>omega)).2;have hfin:=(iU.out.resolve_right fun q=>q.1 rfl).2;have nH:=JY hfin;clear q0 pV iU hfin hw1 hs1;go_wp2_with fail;refine (T9 hb w2).mono ?_;rintro e w3 ⟨rfl,hb3⟩;have av:=JY hb3;clear hb3;go_wp2_with fail;have r3:=(av.out.block hb (blt aU.out)).trans aU.out;have x0:=(JZ r3 0).trans (show _=some (.int .i32 1) from rfl);have y0:=J2 r3 0;refine leaves_cons (f:=20) (args := #[.pointer (some ⟨hb,0,none⟩)]) (by simp) (by simp[go_sem]) ?_;refine (unlock_deferred Tryz.muLib ⟨hb,0,none⟩ .returning _ x0 y0).mono ?_;rintro e u' w'' ⟨rfl,rfl,rfl⟩;obtain ⟨P',y',hy,k1,k2⟩:=nH.out;obtain ⟨o1,o2,o3,o4,o5,o6,o7,o8⟩:=HO.out;have hH:=Mj.free r3 (k1.below av.out) ⟨iz.out.1,iz.out.2.1,o3,o4,o5,o6,o7,iz.out.2.2⟩ iy.out;refine ⟨_,results_tmp rfl _ _ _,0,rfl,d',C',N,cR.out.more (by omega),hH.Lu.dk,(bp.out.below av.out bp.out.size).setCell (p:=⟨hb,0,none⟩) (.inr (.inr rfl)) _,cY.out,fun k q => .inl q, .inl ⟨rfl,P',y',hy,hH,k2⟩⟩
 · have hall:=(iU.out.resolve_left fun q=>hr q.1).2;have lK:=JY hall;have bh:=JY (pg.out.far bp.out (fun k q=>eX.out k q));have hlb:=eX.out hb (.inr rfl);obtain ⟨-,ty,qb,rfl, -⟩:=q0.form.resolve_left (fun q=>hr q.1);clear q0 iU hall hw1;go_wp2_with fail;refine (YV hb w1.heap.size _ _ r hr w2 aU.out bh.out hlb pV.out (by omega)).mono ?_;rintro e w3 ⟨rfl,hr3,hf3⟩;have bP:=JY hf3;have dv:=JY hr3;clear hr3 hf3;go_wp2_with fail;have x0:=(JZ dv.out 0).trans (show _=some (.int .i32 1) from rfl);have y0:=J2 dv.out 0;refine leaves_cons (f:=20) (args := #[.pointer (some ⟨hb,0,none⟩)]) (by simp) (by simp[go_sem]) ?_;refine (unlock_deferred Tryz.muLib ⟨hb,0,none⟩ .returning _ x0 y0).mono ?_;rintro e u' w'' ⟨rfl,rfl,rfl⟩;have hd3:=bR.out.far bP.out (AC _) (fun k hk (q:k=hb)=>hk.elim (fun hk=>iz.out.1 (q▸hk)) (fun hk=>iz.out.2.2 (hk▸q)));refine ⟨_,results_tmp rfl _ _ _,r,rfl,d',C',N,cR.out.more (by omega),hd3.set hb 0 ⟨iz.out.1,fun q=>iz.out.2.2 q.symm⟩ _,?_,cY.out,fun k q => .inl q, .inr ⟨hr,lK.out⟩⟩;exact (bp.out.next bP.out bp.out.size (fun q _ e => .inr e)).setCell (p:=⟨hb,0,none⟩) (.inr (.inr rfl)) _
theorem Zg(hb eb sb mb pm fm db n a:Nat) (d:Dx) (P:VM Value) (D:VM Hv.PD) (G:VM S) (T:S->Nat->Prop) (hD:Md n a (Hv.KU D G []) 0 d) (w:World) (he:Mj C N hb eb sb mb pm fm db n a (Hv.KU D G []).length 0 (short KH (Hv.KU D G [])) d P D G (.slice none 0 0) (.map none) (.map none) 0 w) :
 Calls Tryz.prog 24 #[.pointer (some ⟨hb,0,none⟩)] w (Zk C N hb eb sb mb pm fm db n a d 0 T (D,G) w):=by
 obtain ⟨X,hX⟩:∃ X,Hv.KU D G []=X:=⟨_,rfl⟩
 have uQ:=JY hX;rw[hX] at hD he;obtain ⟨l1,l2,l3⟩:=he.locked;have h0:=(JZ he.blk 0).trans (show _=some (.int .i32 0) from rfl);have f0:=J2 he.blk 0;have eW:=JY l2;have jI:=JY l3;have HO:=JY he.off;have iy:=JY he.low;have dR:=JY (blt he.blk);have nA:=JY hD;have fO:Hid (∀ w1,w1=w.setCell ⟨hb,0,none⟩ (.int .i32 1)->_):=JY (fun w1 (q:w1=w.setCell ⟨hb,0,none⟩ (.int .i32 1))=>abq eb (.pointer (some ⟨sb,0,none⟩)) (.pointer (some ⟨mb,0,none⟩)) (.int .i64 ((0:Nat):Int)) w1 (by rw[q];exact l2.Lu));clear he hD;have c2:=(JZ l1 2).trans (show _=some (.pointer (some ⟨eb,0,none⟩)) from rfl);have dW:=JY l1;have hsz:(w.setCell ⟨hb,0,none⟩ (.int .i32 1)).heap.size=w.heap.size:=by simp
 have lf:=JY hsz;clear l1 l2 l3 hsz hX
 go_enter_defers Tryz.func24,Tryz.ntmps24
 go_wp2_with (go_at_call 19;refine (lock_free Tryz.muLib ⟨hb,0,none⟩ _ h0 f0).mono ?_;rintro e w1 ⟨rfl,hw1⟩;have bL:=JY hw1;rw[<- hw1] at c2;clear hw1)
 refine (fO.out w1 bL.out).mono ?_;rintro e w2 ⟨rfl,hb2⟩;have ah:=JY hb2;clear hb2 fO;go_wp2_with fail;refine (T9 hb w2).mono ?_;rintro e w3 ⟨rfl,hb3⟩;have av:=JY (ah.out.trans (hb3.mono ah.out.size));clear hb3;go_wp2_with fail;have hw1:=bL.out;have hs1:w1.heap.size=w.heap.size:=by rw[hw1];exact lf.out
 have r1:w1.heap[hb]? = some (.cells #[.int .i32 1, .int .u32 0, .pointer (some ⟨eb,0,none⟩)] 72 (0,0)):=by rw[hw1];exact dW.out
 have r3:=(av.out.block hb (blt r1)).trans r1;have gj:LJ C N eb sb mb pm fm db n a X.length 0 (short KH X) d P D G (.slice none 0 0) (.map none) (.map none) 0 w1:=by rw[hw1];exact eW.out
 have nV:=gj.below av.out;have x0:=(JZ r3 0).trans (show _=some (.int .i32 1) from rfl);have y0:=J2 r3 0;refine leaves_cons (f:=20) (args := #[.pointer (some ⟨hb,0,none⟩)]) (by simp) (by simp[go_sem]) ?_;refine (unlock_deferred Tryz.muLib ⟨hb,0,none⟩ .returning _ x0 y0).mono ?_;rintro e u' w'' ⟨rfl,rfl,rfl⟩;have hH:=Mj.free r3 nV HO.out iy.out;have iD:Kj w.heap.size (fun k=>K9 C eb sb pm fm k\/k=hb) w w1:=by rw[hw1];exact (Kj.refl w.heap.size (fun k=>K9 C eb sb pm fm k\/k=hb) w).next jI.out (AC _) (fun q _ e => .inr e)
 exact ⟨_,results_tmp rfl _ _ _,0,rfl,d,C,N,Ns.refl nA.out.gone,hH.Lu.dk,(iD.below av.out iD.size).setCell (p:=⟨hb,0,none⟩) (.inr (.inr rfl)) _,fun k q => .inl q,fun k q => .inl q, .inl ⟨rfl,P,X,uQ.out.symm,hH,nA.out⟩⟩
end
section
open Go.RowKit
open Go.MuLone
open Kw (St ME)
open Hv (S Dx VM)
theorem ak6(eb sb mb pm fm db n a b c:Nat) (h:S) (d:Dx) (P:VM Value) (D:VM Hv.PD) (G:VM S) (sv im km:Value) (dn:Nat) (hDl:D.length<=12) (bE:Lf D) (w:World) (he:LJ C N eb sb mb pm fm db n a b c h d P D G sv im km dn w) :
 Calls Tryz.prog 33 #[.pointer (some ⟨eb,0,none⟩)] w fun e w'=>∃ v,e = .returned v/\w'.ownsRow w.heap.size 61 3 v D.length (D.flatMap Rf)/\Below w.heap.size w w':=by
 obtain ⟨e0,e1, -⟩:=he.Lu.cells;have HL:=JY (aiH mb pm fm P (Hv.Kk G) D N (by omega) bE.named w he.La he.pk);clear he;go_enter Tryz.func33,Tryz.ntmps33;go_wp2_with fail;refine HL.out.mono ?_;rintro e w1 ⟨v,rfl,hr,hb1⟩;have HR:=JY hr;have ag:=JY hb1;clear hr hb1;go_wp2_with fail;go_ret;exact ⟨v,rfl,HR.out,ag.out⟩
theorem amw(eb sb mb pm fm db n a b c:Nat) (h:S) (d:Dx) (P:VM Value) (D:VM Hv.PD) (G:VM S) (sv im km:Value) (dn:Nat) (hDl:D.length<=12) (bE:Lf D) (hG:G.length<=16) (hK:Hv.GK G) (w:World) (he:LJ C N eb sb mb pm fm db n a b c h d P D G sv im km dn w) :
 Calls Tryz.prog 45 #[.pointer (some ⟨eb,0,none⟩)] w fun e w'=>∃ v,e = .returned v/\w'.ownsRow w.heap.size 117 2 v (Hv.K3 D G).length ((Hv.K3 D G).flatMap Lj)/\Below w.heap.size w w':=by
 obtain ⟨e0,e1, -⟩:=he.Lu.cells;have HL:=JY (ajs mb pm fm P D G N (by omega) bE.named (by omega) hK w he.La he.pk);clear he;go_enter Tryz.func45,Tryz.ntmps45;go_wp2_with fail;refine HL.out.mono ?_;rintro e w1 ⟨v,rfl,hr,hb1⟩;have HR:=JY hr;have ag:=JY hb1;clear hr hb1;go_wp2_with fail;go_ret;exact ⟨v,rfl,HR.out,ag.out⟩
theorem ak9(hb eb sb mb pm fm db n a b c:Nat) (h:S) (d:Dx) (P:VM Value) (D:VM Hv.PD) (G:VM S) (hDl:D.length<=12) (bE:Lf D) (w:World) (he:Mj C N hb eb sb mb pm fm db n a b c h d P D G (.slice none 0 0) (.map none) (.map none) 0 w) :
 Calls Tryz.prog 16 #[.pointer (some ⟨hb,0,none⟩)] w fun e w'=>∃ v,e = .returned v/\w'.ownsRow w.heap.size 61 3 v D.length (D.flatMap Rf)/\Mj C N hb eb sb mb pm fm db n a b c h d P D G (.slice none 0 0) (.map none) (.map none) 0 w'/\Kj w.heap.size (fun q=>q=hb) w w':=by
 obtain ⟨l1,l2,l3⟩:=he.locked;have h0:=(JZ he.blk 0).trans (show _=some (.int .i32 0) from rfl);have f0:=J2 he.blk 0;have eW:=JY l2;have jI:=JY l3;have HO:=JY he.off;have iy:=JY he.low;have dR:=JY (blt he.blk);have fO:Hid (∀ w1,w1=w.setCell ⟨hb,0,none⟩ (.int .i32 1)->Calls Tryz.prog 33 #[.pointer (some ⟨eb,0,none⟩)] w1 fun e w'=>∃ v,e = .returned v/\w'.ownsRow w1.heap.size 61 3 v D.length (D.flatMap Rf)/\Below w1.heap.size w1 w'):=JY (by
  rintro w1 rfl;exact ak6 eb sb mb pm fm db n a b c h d P D G _ _ _ 0 hDl bE _ l2)
 clear bE he;have c2:=(JZ l1 2).trans (show _=some (.pointer (some ⟨eb,0,none⟩)) from rfl);have dW:=JY l1;have hsz:(w.setCell ⟨hb,0,none⟩ (.int .i32 1)).heap.size=w.heap.size:=by simp
 have lf:=JY hsz;clear l1 l2 l3 hsz
 go_enter_defers Tryz.func16,Tryz.ntmps16
 go_wp2_with (go_at_call 19;refine (lock_free Tryz.muLib ⟨hb,0,none⟩ _ h0 f0).mono ?_;rintro e w1 ⟨rfl,hw1⟩;have bL:=JY hw1;rw[<- hw1] at c2;clear hw1)
 refine (fO.out w1 bL.out).mono ?_;rintro e w2 ⟨v,rfl,hr2,hb2⟩;have HR:=JY hr2;have av:=JY hb2;clear hr2 hb2 fO;go_wp2_with fail;have hw1:=bL.out;have hs1:w1.heap.size=w.heap.size:=by rw[hw1];exact lf.out
 have hblt:=dR.out;have r1:w1.heap[hb]? = some (.cells #[.int .i32 1, .int .u32 0, .pointer (some ⟨eb,0,none⟩)] 72 (0,0)):=by rw[hw1];exact dW.out
 have r3:=(av.out.block hb (blt r1)).trans r1;have gj:LJ C N eb sb mb pm fm db n a b c h d P D G (.slice none 0 0) (.map none) (.map none) 0 w1:=by rw[hw1];exact eW.out
 have nV:=gj.below av.out;have x0:=(JZ r3 0).trans (show _=some (.int .i32 1) from rfl);have y0:=J2 r3 0;refine leaves_cons (f:=20) (args := #[.pointer (some ⟨hb,0,none⟩)]) (by simp) (by simp[go_sem]) ?_;refine (unlock_deferred Tryz.muLib ⟨hb,0,none⟩ .returning _ x0 y0).mono ?_;rintro e u' w'' ⟨rfl,rfl,rfl⟩;have hR:=HR.out;rw[hs1] at hR;refine ⟨_,results_tmp rfl _ _ _,v,rfl,KT hR (fun e=>by have:=(hR.lt hb e).1;omega),Mj.free r3 nV HO.out iy.out,?_⟩;have iD:Kj w.heap.size (fun q=>q=hb) w w1:=by rw[hw1];exact jI.out
 exact (iD.below av.out iD.size).setCell (p:=⟨hb,0,none⟩) (.inr rfl) _
theorem ajH(hb eb sb mb pm fm db n a b c:Nat) (h:S) (d:Dx) (P:VM Value) (D:VM Hv.PD) (G:VM S) (hDl:D.length<=12) (bE:Lf D) (hG:G.length<=16) (hK:Hv.GK G) (w:World) (he:Mj C N hb eb sb mb pm fm db n a b c h d P D G (.slice none 0 0) (.map none) (.map none) 0 w) :
 Calls Tryz.prog 26 #[.pointer (some ⟨hb,0,none⟩)] w fun e w'=>∃ v,e = .returned v/\w'.ownsRow w.heap.size 117 2 v (Hv.K3 D G).length ((Hv.K3 D G).flatMap Lj)/\Mj C N hb eb sb mb pm fm db n a b c h d P D G (.slice none 0 0) (.map none) (.map none) 0 w'/\Kj w.heap.size (fun q=>q=hb) w w':=by
 obtain ⟨l1,l2,l3⟩:=he.locked;have h0:=(JZ he.blk 0).trans (show _=some (.int .i32 0) from rfl);have f0:=J2 he.blk 0;have eW:=JY l2;have jI:=JY l3;have HO:=JY he.off;have iy:=JY he.low;have dR:=JY (blt he.blk);have fO:Hid (∀ w1,w1=w.setCell ⟨hb,0,none⟩ (.int .i32 1)->Calls Tryz.prog 45 #[.pointer (some ⟨eb,0,none⟩)] w1 fun e w'=>∃ v,e = .returned v/\w'.ownsRow w1.heap.size 117 2 v (Hv.K3 D G).length ((Hv.K3 D G).flatMap Lj)/\Below w1.heap.size w1 w'):=JY (by
  rintro w1 rfl;exact amw eb sb mb pm fm db n a b c h d P D G _ _ _ 0 hDl bE hG hK _ l2)
 clear bE he hK;have c2:=(JZ l1 2).trans (show _=some (.pointer (some ⟨eb,0,none⟩)) from rfl);have dW:=JY l1;have hsz:(w.setCell ⟨hb,0,none⟩ (.int .i32 1)).heap.size=w.heap.size:=by simp
 have lf:=JY hsz;clear l1 l2 l3 hsz
 go_enter_defers Tryz.func26,Tryz.ntmps26
 go_wp2_with (go_at_call 19;refine (lock_free Tryz.muLib ⟨hb,0,none⟩ _ h0 f0).mono ?_;rintro e w1 ⟨rfl,hw1⟩;have bL:=JY hw1;rw[<- hw1] at c2;clear hw1)
 refine (fO.out w1 bL.out).mono ?_;rintro e w2 ⟨v,rfl,hr2,hb2⟩;have HR:=JY hr2;have av:=JY hb2;clear hr2 hb2 fO;go_wp2_with fail;have hw1:=bL.out;have hs1:w1.heap.size=w.heap.size:=by rw[hw1];exact lf.out
 have hblt:=dR.out;have r1:w1.heap[hb]? = some (.cells #[.int .i32 1, .int .u32 0, .pointer (some ⟨eb,0,none⟩)] 72 (0,0)):=by rw[hw1];exact dW.out
 have r3:=(av.out.block hb (blt r1)).trans r1;have gj:LJ C N eb sb mb pm fm db n a b c h d P D G (.slice none 0 0) (.map none) (.map none) 0 w1:=by rw[hw1];exact eW.out
 have nV:=gj.below av.out;have x0:=(JZ r3 0).trans (show _=some (.int .i32 1) from rfl);have y0:=J2 r3 0;refine leaves_cons (f:=20) (args := #[.pointer (some ⟨hb,0,none⟩)]) (by simp) (by simp[go_sem]) ?_;refine (unlock_deferred Tryz.muLib ⟨hb,0,none⟩ .returning _ x0 y0).mono ?_;rintro e u' w'' ⟨rfl,rfl,rfl⟩;have hR:=HR.out;rw[hs1] at hR;refine ⟨_,results_tmp rfl _ _ _,v,rfl,KT hR (fun e=>by have:=(hR.lt hb e).1;omega),Mj.free r3 nV HO.out iy.out,?_⟩;have iD:Kj w.heap.size (fun q=>q=hb) w w1:=by rw[hw1];exact jI.out
 exact (iD.below av.out iD.size).setCell (p:=⟨hb,0,none⟩) (.inr rfl) _
theorem ajF(hb eb sb mb pm fm db n a b c:Nat) (h:S) (d:Dx) (P:VM Value) (D:VM Hv.PD) (G:VM S) (path:S) (hDl:D.length<=12) (bE:Lf D) (hG:G.length<=16) (hK:Hv.GK G) (w:World) (he:Mj C N hb eb sb mb pm fm db n a b c h d P D G (.slice none 0 0) (.map none) (.map none) 0 w) :
 Calls Tryz.prog 25 #[.pointer (some ⟨hb,0,none⟩), .string ⟨path.toArray⟩] w fun e w'=>e = .returned (.string ⟨((Hv.get (Hv.K3 D G) path).getD []).toArray⟩)/\Mj C N hb eb sb mb pm fm db n a b c h d P D G (.slice none 0 0) (.map none) (.map none) 0 w'/\Kj w.heap.size (fun q=>q=hb) w w':=by
 have Co:Hv.Ki (Hv.K3 D G):=Hv.SC D (Hv.KM he.Lu.La.files.1);have kC:(Hv.K3 D G).length<=1000:=by
  have:=Hv.SB D G (fun p hp=>(Wn bE.named he.Lu.pk.Mt p hp).1);omega
 have HT:=JY (ajH hb eb sb mb pm fm db n a b c h d P D G hDl bE hG hK w he);obtain ⟨E,hE⟩:∃ E,Hv.K3 D G=E:=⟨_,rfl⟩
 rw[hE] at Co kC HT |-;have HS:=JY Co;clear hE bE hK he Co;go_enter Tryz.func25,Tryz.ntmps25;go_wp2_with fail;refine HT.out.mono ?_;rintro e w1 ⟨v,rfl,hr,hh,hf⟩;have HR:=JY hr;have HH:=JY hh;have HF:=JY hf;obtain ⟨va,vc,rfl⟩:=J4 hr;obtain ⟨ne,hne⟩:∃ ne,E.length=ne:=⟨_,rfl⟩
 have yb:=JY hne;rw[hne] at kC |-;clear hr hh hf hne HT;go_wp2_with fail;go_loopw [6] (fun i wr=>∃ k:Nat,k<=ne/\i = .int .i64 (k:Int)/\wr=w1/\Hid (∀ j (hj:j<E.length),j<k->E[j].1≠path)) (fun i _=>ne-(intOf i).toNat)
 case atStart=>exact ⟨0,Bs _,rfl,rfl,JY (fun j _ q=>absurd q (by omega))⟩
 case round =>
  obtain ⟨k,hk,rfl,rfl,jh⟩:=hrel;by_cases hlt:k<ne
  · have b1:(k:Int)<(ne:Int):=by omega
    have Et:k<E.length:=by have:=yb.out;omega
    obtain ⟨g,c',hv,hg,q1,q2⟩:=OM (l:=E) HR.out Et;obtain rfl:va=some ⟨g,0,none⟩:=(DS hv).1;have HM:=JY (B1 Et);have HX:=JY (show E[k]=E[k] from rfl);obtain ⟨p,hp⟩:∃ p,E[k]=p:=⟨_,rfl⟩
    have HP:=JY hp;rw[hp] at q1 q2;obtain ⟨x,y⟩:=p;simp only at q1 q2;clear hv hp HX;by_cases hx:(x==path)=true
    · go_wp2_with fail;go_ret;refine ⟨?_,HH.out,HF.out⟩;have e1:x=path:=by simpa using hx
      have hm:=HM.out;rw[HP.out] at hm;rw[<- e1,(Hv.get_some HS.out).2 hm];rfl
    · have hx':(x==path)=false:=by simpa using hx
      clear hx;go_wp2_with fail;go_roundw
      case rel =>
       refine ⟨k+1,by omega,by go_num,trivial,JY (fun j hj hjk e => ?_)⟩;by_cases q:j=k
       · subst q;rw[HP.out] at e;have:x=path:=e;rw[this] at hx';simp at hx'
       · exact jh.out j hj (by omega) e
      case measure=>simp[intOf];omega
  · obtain rfl:k=ne:=by omega
    have b1 : ¬ (k:Int)<(k:Int):=by omega
    go_wp2_with fail;go_ret;refine ⟨?_,HH.out,HF.out⟩;have:Hv.get E path=none:=by
     rw[Hv.get_none];intro p hp e;obtain ⟨j,hj,rfl⟩:=List.getElem_of_mem hp;exact jh.out j hj (by have:=yb.out;omega) e
    rw[this];rfl
end
section
open Kw (St ME)
open Hv (S VM)
namespace Hv
structure Six (nm:Nat->Nat):Prop where
 lt:∀ i,i<6->nm i<6
 inj:∀ i j,i<6->j<6->nm i=nm j->i=j
end Hv
namespace Hv
theorem acZ(hc:Rn c):wish [[45,c]] = .ok (J5 [Item.rem [c]]) :=
 Uh (is:=[Item.rem [c]]) (by simp[acw hc]) (by simp) (by simp) (by simp)
end Hv
namespace Hv
theorem ahy{T:VM PD}:LQ T []=[]:=by
 unfold LQ;rw[List.filterMap_eq_nil_iff];intro p _;rw[By (by rfl)]
theorem ame{x t nm ve:S} {st:St} (hi:Mg x=some (.ins t nm ve st)) (hn:st.needs=[]) (hb:st.breaks=[]) (hr:st.runs=[]) (hp:st.files.map (·.1)=[]\/st.files.map (·.1)=[M6 nm]) (hw:st.wakes=[]\/st.files=[]) (hc:KX st.Kn) (hx:x.length<=1000) :
 ∃ pl,check 300 [] [] [x] = .ok pl/\0<pl.steps.length/\(∀ s,wish [x] = .ok s->∀ k d,get s.I k=some d->KX d.st.runs/\KX d.st.Kn)/\Kc pl (KG [] pl.Le,[]) pl.steps=([(nm,⟨t,nm,ve,st,2⟩)],[]):=by
 have hnd:([Item.ins t nm ve st].map Item.name).Nodup:=by simp
 have hok:=Oe [Item.ins t nm ve st] hnd;have EZ:wish [x] = .ok (J5 [Item.ins t nm ve st]):=Uh (is:=[Item.ins t nm ve st]) (by simp[hi]) hnd (by simp) (by simp);have sT:=Py (D:=[]) IR (J5 [Item.ins t nm ve st]).R (J5 [Item.ins t nm ve st]).I;have hT:∀ k d,get (Ko [] (J5 [Item.ins t nm ve st]).R (J5 [Item.ins t nm ve st]).I) k=some d ↔ k=nm/\d=⟨t,nm,ve,st,1⟩:=fun k d=>by
  rw[Ue IR hnd];constructor
  · rintro (⟨t',ve',st',m,rfl⟩ | ⟨q,_⟩)
    · simp only[DQ,Item.ins,Sum.inr.injEq,Prod.mk.injEq] at m;obtain ⟨rfl,rfl,rfl,rfl⟩:=m;exact ⟨rfl,rfl⟩
    · cases q
  · rintro ⟨rfl,rfl⟩;exact .inl ⟨t,ve,st,by simp,rfl⟩
 have hf:afZ [] [Item.ins t nm ve st]:=by
  refine ⟨fun k m=>(by simp at m),fun t k ve st m o ho=>(by cases ho),?_,fun k d q => ?_,fun k d q => ?_⟩
  · have:=OJ sT (ks:=[nm]) (fun k q=>by
     rw[J9] at q;obtain ⟨d,hd⟩:=Option.isSome_iff_exists.1 q;rw[((hT k d).1 hd).1];simp)
    simp at this;omega
  · obtain ⟨rfl,rfl⟩:=(hT k d).1 q;exact hb
  · obtain ⟨rfl,rfl⟩:=(hT k d).1 q;exact hp
 have href:=RV (D:=[]) IR hnd hf (fun k d q m hm=>by
  obtain ⟨rfl,rfl⟩:=(hT k d).1 q;rw[show (PD.st ⟨t,k,ve,st,1⟩).needs=st.needs from rfl,hn] at hm;cases hm)
 have hwk:(KC [] (J5 [Item.ins t nm ve st]).R (J5 [Item.ins t nm ve st]).I).Le=[]:=by
  show LQ (Ko [] _ _) (J3 (Kr [] _ _))=[];rcases hw with hw | hw
  · exact aau (fun k d q=>by obtain ⟨rfl,rfl⟩:=(hT k d).1 q;exact hw) sT _
  · have e:Kr [] (J5 [Item.ins t nm ve st]).R (J5 [Item.ins t nm ve st]).I=[]:=by
     refine abn (Rt []).1 IR (Rt []).2.1 (fun k v q=>by cases q) fun y => ?_
     rw[(Rt y).2.2];constructor
     · rintro (⟨p,hp,hy⟩ | ⟨p,hp,hy⟩)
       · cases hy
       · rcases hy with hy | hy
         · cases hy
         · obtain ⟨t',ve',st',m,e⟩:=(hok.WR p.1 p.2).1 ((get_some hok.sI).2 hp);simp only[DQ,Item.ins,Sum.inr.injEq,Prod.mk.injEq] at m;obtain ⟨rfl,e1,rfl,rfl⟩:=m;rw[e] at hy;simp[PD.paths,hw] at hy
     · intro q;simp[has] at q
    rw[e];exact ahy
 have gu:∀ l,PN (Ko [] (J5 [Item.ins t nm ve st]).R (J5 [Item.ins t nm ve st]).I) l []=[]:=fun l=>Ru l [] (fun k d q=>by obtain ⟨rfl,rfl⟩:=(hT k d).1 q;exact hr)
 have hover:=TQ (D:=[]) (G:=[]) (R:=(J5 [Item.ins t nm ve st]).R) (I:=(J5 [Item.ins t nm ve st]).I) IR IR hok.sI rfl (fun k _=>by rw[gu];rfl) (fun k hk=>by rw[hwk] at hk;simp[J3] at hk);have hrun:=VG (D:=[]) (G:=[]) (R:=(J5 [Item.ins t nm ve st]).R) (I:=(J5 [Item.ins t nm ve st]).I) IR IR hok.sI (fun k d q=>by cases q);refine ⟨_,Xv EZ href hover (Yy (by have:LG []=0:=rfl;simp;omega)),?_,?_,hrun.trans (Prod.ext ?_ ?_)⟩
 · rw[R7];have:0<(order Km (J5 [Item.ins t nm ve st]).I).length:=by
    refine List.length_pos_of_mem (a:=nm) ((LH Km hok.sI _).2 ?_);rw[J9,(hok.WR nm _).2 ⟨t,ve,st,by simp,rfl⟩];rfl
   simp only[AS,DH];omega
 · intro s hs k d q;rw[EZ] at hs;cases hs;obtain ⟨t',ve',st',m,rfl⟩:=(hok.WR k d).1 q;simp only[DQ,Item.ins,Sum.inr.injEq,Prod.mk.injEq] at m;obtain ⟨rfl,rfl,rfl,rfl⟩:=m;exact ⟨(by rw[show (PD.st ⟨t',k,ve',st',1⟩).runs=st'.runs from rfl,hr];intro c hc;cases hc),hc⟩
 · show (Ko [] _ _).map _=_;have s1:Ki ([(nm,(⟨t,nm,ve,st,2⟩:PD))]:VM PD):=by simp[Ki]
   refine (sT.map fun d:PD=>d.to 2).Lr s1 fun k => ?_
   rw[get_map (Ko [] (J5 [Item.ins t nm ve st]).R (J5 [Item.ins t nm ve st]).I) (fun d:PD=>d.to 2)];cases q:get (Ko [] (J5 [Item.ins t nm ve st]).R (J5 [Item.ins t nm ve st]).I) k with
   | none =>
     symm
     show get _ k=none;rw[get_none];intro p hp e;simp only[DQ] at hp;subst hp;have:=(hT k _).2 ⟨e.symm,rfl⟩;rw[q] at this;cases this
   | some d =>
     obtain ⟨rfl,rfl⟩:=(hT k d).1 q
     symm
     exact (get_some s1).2 (by simp[PD.to])
 · show aan _ _ _ _=_;rw[gu,hwk];rfl
theorem akD(hc:Rn c) (d0:PD) (hd:d0.status=2) (ht:d0.text.length<=1000) :
 ∃ pl,check 300 [([c],d0)] [] [[45,c]] = .ok pl/\0<pl.steps.length/\Kc pl (KG [([c],d0)] pl.Le,[]) pl.steps=([],[]):=by
 have hnd:([Item.rem [c]].map Item.name).Nodup:=by simp
 have hok:=Oe [Item.rem [c]] hnd;have s1:Ki ([([c],d0)]:VM PD):=by simp[Ki]
 have sT:=Py s1 (J5 [Item.rem [c]]).R (J5 [Item.rem [c]]).I;have hT:∀ k d,get (Ko [([c],d0)] (J5 [Item.rem [c]]).R (J5 [Item.rem [c]]).I) k≠some d:=fun k d q=>by
  rcases (Ue s1 hnd k d).1 q with ⟨t',ve',st',m,rfl⟩ | ⟨q,hn⟩
  · simp at m
  · have:=(get_some s1).1 q;simp only[DQ,Prod.mk.injEq] at this;exact hn (by simp[Item.name,this.1])
 have eT:Ko [([c],d0)] (J5 [Item.rem [c]]).R (J5 [Item.rem [c]]).I=[]:=sT.Lr IR fun k=>by
  cases q:get (Ko [([c],d0)] (J5 [Item.rem [c]]).R (J5 [Item.rem [c]]).I) k with
  | none=>rfl
  | some d=>exact absurd q (hT k d)
 have hf:afZ [([c],d0)] [Item.rem [c]]:=by
  refine ⟨fun k m => ?_,fun t k ve st m o ho=>(by simp at m),(by rw[eT];simp),fun k d q=>absurd q (hT k d),fun k d q=>absurd q (hT k d)⟩;simp only[DQ,Item.rem,Sum.inl.injEq] at m;subst m;exact aaC (v:=d0) (by simp)
 have href:=RV s1 hnd hf (fun k d q=>absurd q (hT k d));have hwk:(KC [([c],d0)] (J5 [Item.rem [c]]).R (J5 [Item.rem [c]]).I).Le=[]:=by
  show LQ (Ko [([c],d0)] _ _) _=[];rw[eT];rfl
 have jC:order Km (J5 [Item.rem [c]]).I=[]:=rfl;have hover:=TQ (D:=[([c],d0)]) (G:=[]) (R:=(J5 [Item.rem [c]]).R) (I:=(J5 [Item.rem [c]]).I) s1 IR hok.sI rfl (fun k hk=>by rw[jC] at hk;simp at hk) (fun k hk=>by rw[hwk] at hk;simp[J3] at hk);have hrun:=VG (D:=[([c],d0)]) (G:=[]) (R:=(J5 [Item.rem [c]]).R) (I:=(J5 [Item.rem [c]]).I) s1 IR hok.sI (fun k d q=>by
  have:=(get_some s1).1 q;simp only[DQ,Prod.mk.injEq] at this;rw[this.2];exact hd)
 refine ⟨_,Xv (acZ hc) href hover (Yy (by simp[LG];omega)),?_,hrun.trans (Prod.ext ?_ ?_)⟩
 · rw[R7];have:0<(order KS (leaveD [([c],d0)] (J5 [Item.rem [c]]).R)).length:=by
    refine List.length_pos_of_mem (a:=[c]) ((LH KS (Nn s1 _) _).2 ?_);rw[J9,Nl s1,By ((hok.ag4 _).2 (by simp)),(get_some s1 (k:=[c]) (v:=d0)).2 (by simp)];rfl
   simp only[AS,DH];omega
 · show (Ko _ _ _).map _=_;rw[eT];rfl
 · show aan _ _ _ _=_;rw[hwk,jC];rfl
end Hv
end
section
open Go.RowKit
open Kw (St ME)
open Hv (S Dk VM)
namespace Hv
structure Pj (D:VM PD) (G:VM S):Prop where
 fine:Lf D
 len:D.length<=12
 few:G.length<=16
 short:Short 200 G
 keys:GK G
end Hv
open Hv (Pj)
end
section
open Go.RowKit
open Kw (St ME)
open Hv (S Dx VM Ns All Has Pj)
variable {D D':VM Hv.PD}{G G':VM S}{xs:List S}{pl:Hv.Plan}
def Lh (L:Nat) (F:Nat->Prop) (hb db:Nat) (d:Dx) (D:VM Hv.PD) (G:VM S) (w:World):Prop :=
 ∃ C N eb sb mb pm fm a P,Mj C N hb eb sb mb pm fm db 300 a (Hv.KU D G []).length 0 (short KH (Hv.KU D G [])) d P D G (.slice none 0 0) (.map none) (.map none) 0 w/\Md 300 a (Hv.KU D G []) 0 d/\(∀ k,(K9 C eb sb pm fm k\/k=hb)\/k=mb\/N k->F k)/\∀ k,F k->L<=k/\k<w.heap.size
theorem Lh.below{d:Dx}    (h:Lh L F hb db d D G w) (q:Below w.heap.size w w'):Lh L F hb db d D G w':=by
 obtain ⟨C,N,eb,sb,mb,pm,fm,a,P,h1,h2,h3,h4⟩:=h;exact ⟨C,N,eb,sb,mb,pm,fm,a,P,h1.below q,h2,h3,fun k hk=>⟨(h4 k hk).1,B3 (h4 k hk).2 q.size⟩⟩
theorem Lh.lt{d:Dx}    (h:Lh L F hb db d D G w):∀ k,F k->L<=k/\k<w.heap.size:=by
 obtain ⟨C,N,eb,sb,mb,pm,fm,a,P,h1,h2,h3,h4⟩:=h;exact h4
theorem Lh.has{d:Dx}    (h:Lh L F hb db d D G w):d.gone=false/\(∀ i,d.may.getD i []=[])/\O7 300 (fun z j=>z=Hv.KU D G []/\j=0) d.now/\∃ C,Kq C db d w/\∀ k,C k->F k:=by
 obtain ⟨C,N,eb,sb,mb,pm,fm,a,P,h1,h2,h3,h4⟩:=h;exact ⟨h2.gone,h2.may,⟨a,_,0,⟨rfl,rfl⟩,h2.has⟩,C,h1.Lu.dk,fun k hk=>h3 k (.inl (.inl (.inl hk)))⟩
def ajT (L:Nat) (F:Nat->Prop) (hb db:Nat) (d:Dx) (q:Hv.Mac) (pl:Hv.Plan) (x:S) (m:Nat) (w:World):Prop :=
 ∃ C N eb sb mb pm fm a P M sa sc im km,Mj C N hb eb sb mb pm fm db 300 a x.length m (short KH x) d P (Hv.Kc pl q (pl.steps.take m)).1 (Hv.Kc pl q (pl.steps.take m)).2 (.slice sa pl.steps.length sc) (.map (some im)) (.map (some km)) m w/\LC M pl (.slice sa pl.steps.length sc) im km w/\(∀ g,M g->N g)/\Nz C eb sb pm fm M/\Md 300 a x m d/\(∀ k,(K9 C eb sb pm fm k\/k=hb)\/k=mb\/N k->F k)/\∀ k,F k->L<=k/\k<w.heap.size
theorem XP{n b c dn:Nat} {h:S} {d:Dx} {P:VM Value}   {sv im km:Value}  (e:Mj C N hb eb sb mb pm fm db n a b c h d P D G sv im km dn w):∀ k,(K9 C eb sb pm fm k\/k=hb)\/k=mb\/N k->k<w.heap.size:=by
 rintro k (((q | rfl | rfl | rfl | rfl) | rfl) | rfl | q)
 · exact e.Lu.dk.lt k q
 · exact blt e.Lu.Lu
 · exact e.Lu.st.lt
 · exact e.Lu.La.packs.lt
 · exact e.Lu.La.files.lt
 · exact blt e.blk
 · exact blt e.Lu.La.blk
 · exact (e.Lu.rows k q).1
def abB (L:Nat) (F:Nat->Prop) (hb db:Nat) (d:Dx) (K:Nat) (T:S->Nat->Prop) (ok:VM Hv.PD->VM S->Prop) (w:World) (e:Ending) (w':World):Prop:=∃ r,e = .returned (.int .i64 r)/\∃ d',Ns d d' r K/\Kj w.heap.size F w w'/\((r=0/\∃ F' D2 G2,ok D2 G2/\Lh L F' hb db d' D2 G2 w'/\∀ k,F' k->F k\/w.heap.size<=k)\/(r≠0/\∃ C',Kq C' db d' w'/\(∀ k,C' k->F k\/w.heap.size<=k)/\All d' (O7 300 T)))
theorem Zk.run{d:Dx} {K:Nat} {T T':S->Nat->Prop} {m:Hv.Mac} {ok:VM Hv.PD->VM S->Prop}  {e:Ending}  (h:Zk C N hb eb sb mb pm fm db 300 a d K T m w e w') (hF:∀ k,(K9 C eb sb pm fm k\/k=hb)\/k=mb\/N k->F k) (hl:∀ k,F k->L<=k/\k<w.heap.size) (lu:L<=w.heap.size) (hok:ok m.1 m.2) (hT:∀ z j,T z j->T' z j):abB L F hb db d K T' ok w e w':=by
 obtain ⟨r,rfl,d',C',N',q1,q2,q3,q4,q5,q6⟩:=h;have bM:=q3.mono (AC _) (fun k _ hk=>hF k (.inl hk));refine ⟨r,rfl,d',q1,bM,?_⟩;rcases q6 with ⟨rfl,P',y,rfl,k1,k2⟩ | ⟨hr,hall⟩
 · have hnew:∀ k,((K9 C' eb sb pm fm k\/k=hb)\/k=mb\/N' k)->F k\/w.heap.size<=k:=fun k hk=>by
    rcases hk with ((hk | hk) | hk) | hk | hk
    · exact (q4 k hk).imp (fun q=>hF k (.inl (.inl (.inl q)))) id
    · exact .inl (hF k (.inl (.inl (.inr hk))))
    · exact .inl (hF k (.inl (.inr hk)))
    · exact .inl (hF k (.inr (.inl hk)))
    · exact (q5 k hk).imp (fun q=>hF k (.inr (.inr q))) id
   refine .inl ⟨rfl,fun k=>(K9 C' eb sb pm fm k\/k=hb)\/k=mb\/N' k,m.1,m.2,hok,⟨C',N',eb,sb,mb,pm,fm,a,P',k1,k2,fun k hk=>hk,fun k hk=>⟨?_,XP k1 k hk⟩⟩,hnew⟩;rcases hnew k hk with q | q
   · exact (hl k q).1
   · omega
 · exact .inr ⟨hr,C',q2,fun k hk=>(q4 k hk).imp (fun q=>hF k (.inl (.inl (.inl q)))) id,hall.imp fun im q=>by
    obtain ⟨a',z,j,h1,h2⟩:=q;exact ⟨a',z,j,hT z j h1,h2⟩⟩
structure Rnd (D:VM Hv.PD) (G:VM S) (xs:List S) (pl:Hv.Plan) (D':VM Hv.PD) (G':VM S):Prop where
 ck:Hv.check 300 D G xs = .ok pl
 steps:0<pl.steps.length
 run:Hv.Kc pl (Hv.KG D pl.Le,G) pl.steps=(D',G')
 mild:Pj D G
 cp:∀ s,Hv.wish xs = .ok s->∀ k d,Hv.get s.I k=some d->KX d.st.runs/\KX d.st.Kn
 at0:LP D G []
 at1:LP D G xs
 at2:LP D' G' []
 ne:0<xs.length
theorem Rnd.good(h:Rnd D G xs pl D' G'):Pm 300 pl (Hv.KG D pl.Le,G) :=
 (Hv.ac6 (n:=300) (by decide) h.at0.Mt h.at0.gs h.mild.fine h.mild.len h.mild.few h.mild.short h.mild.keys h.at1.xl.2 (.inr h.cp) h.ck).1
def adD (D:VM Hv.PD) (G:VM S) (xs:List S) (pl:Hv.Plan) (D':VM Hv.PD) (G':VM S):S->Nat->Prop:=ajP (Hv.KU D G []) (Hv.KU D G xs) pl.steps.length (Hv.KU D' G' [])
def abC (D:VM Hv.PD) (G:VM S) (D':VM Hv.PD) (G':VM S):VM Hv.PD->VM S->Prop:=fun D2 G2=>(D2=D/\G2=G)\/(D2=D'/\G2=G')
theorem ady{d:Dx}     (h:Rnd D G xs pl D' G') (au:d.calls+4000000<1000000000000) (v:Value) (w:World) (hE:Ph L x y w) (he:Lh L F hb db d D G w) (hv:Reads w v xs) (oH:∀ g,v.ownBlock=some g -> ¬ F g) :
 Calls Tryz.prog 9 #[.pointer (some ⟨hb,0,none⟩),v] w (abB L F hb db d 1500000 (adD D G xs pl D' G') (fun D2 G2=>D2=D'/\G2=G') w):=by
 obtain ⟨C,N,eb,sb,mb,pm,fm,a,P,h1,h2,h3,h4⟩:=he;have hM:=h.mild;refine (ak8 (L:=L) (x:=x) (y:=y) hb eb sb mb pm fm db 300 a _ d P D G v xs h.at1.easy.2 pl h.ck h.steps h.at1.xl.2 hM.fine hM.len hM.few hM.short hM.keys (.inr h.cp) h2 h.at0.len au (by omega) w hE (fun k hk=>(h4 k (h3 k (.inl hk))).1) h1 hv (fun g hg e=>oH g hg (h3 g (.inl (.inr e))))).mono ?_;intro e w' hp;rw[h.run] at hp;exact hp.run h3 h4 hE.low.2.2.2 ⟨rfl,rfl⟩ (fun _ _ q=>q)
theorem YT{d:Dx}   (hM:Pj D G) (w:World) (he:Lh L F hb db d D G w) :
 Calls Tryz.prog 16 #[.pointer (some ⟨hb,0,none⟩)] w fun e w'=>∃ v,e = .returned v/\w'.ownsRow w.heap.size 61 3 v D.length (D.flatMap Rf)/\Lh L F hb db d D G w'/\Kj w.heap.size F w w':=by
 obtain ⟨C,N,eb,sb,mb,pm,fm,a,P,h1,h2,h3,h4⟩:=he;refine (ak9 hb eb sb mb pm fm db 300 a _ 0 _ d P D G hM.len hM.fine w h1).mono ?_;rintro e w' ⟨v,rfl,q0,q1,q2⟩;exact ⟨v,rfl,q0,⟨C,N,eb,sb,mb,pm,fm,a,P,q1,h2,h3,fun k hk=>⟨(h4 k hk).1,B3 (h4 k hk).2 q2.size⟩⟩,q2.mono (AC _) (fun k _ e=>h3 k (.inl (.inr e)))⟩
theorem afX{d:Dx}   (hM:Pj D G) (w:World) (he:Lh L F hb db d D G w) :
 Calls Tryz.prog 26 #[.pointer (some ⟨hb,0,none⟩)] w fun e w'=>∃ v,e = .returned v/\w'.ownsRow w.heap.size 117 2 v (Hv.K3 D G).length ((Hv.K3 D G).flatMap Lj)/\Lh L F hb db d D G w'/\Kj w.heap.size F w w':=by
 obtain ⟨C,N,eb,sb,mb,pm,fm,a,P,h1,h2,h3,h4⟩:=he;refine (ajH hb eb sb mb pm fm db 300 a _ 0 _ d P D G hM.len hM.fine hM.few hM.keys w h1).mono ?_;rintro e w' ⟨v,rfl,q0,q1,q2⟩;exact ⟨v,rfl,q0,⟨C,N,eb,sb,mb,pm,fm,a,P,q1,h2,h3,fun k hk=>⟨(h4 k hk).1,B3 (h4 k hk).2 q2.size⟩⟩,q2.mono (AC _) (fun k _ e=>h3 k (.inl (.inr e)))⟩
theorem Ui{d:Dx}   (hM:Pj D G) (path:S) (w:World) (he:Lh L F hb db d D G w) :
 Calls Tryz.prog 25 #[.pointer (some ⟨hb,0,none⟩), .string ⟨path.toArray⟩] w fun e w'=>e = .returned (.string ⟨((Hv.get (Hv.K3 D G) path).getD []).toArray⟩)/\Lh L F hb db d D G w'/\Kj w.heap.size F w w':=by
 obtain ⟨C,N,eb,sb,mb,pm,fm,a,P,h1,h2,h3,h4⟩:=he;refine (ajF hb eb sb mb pm fm db 300 a _ 0 _ d P D G path hM.len hM.fine hM.few hM.keys w h1).mono ?_;rintro e w' ⟨rfl,q1,q2⟩;exact ⟨rfl,⟨C,N,eb,sb,mb,pm,fm,a,P,q1,h2,h3,fun k hk=>⟨(h4 k hk).1,B3 (h4 k hk).2 q2.size⟩⟩,q2.mono (AC _) (fun k _ e=>h3 k (.inl (.inr e)))⟩
end
end Go.Proofs.YtfhmaiicimdldaaGreatDoor
