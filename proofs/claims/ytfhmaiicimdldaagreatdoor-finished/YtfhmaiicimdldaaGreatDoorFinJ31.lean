import Derived.Test.YtfhmaiicimdldaaGreatDoorFinJ26
import Derived.Test.YtfhmaiicimdldaaGreatDoorFinJ27
set_option maxHeartbeats 4000000
set_option maxRecDepth 100000
namespace Go.Proofs.YtfhmaiicimdldaaGreatDoor
variable {C C' C1 M N:Nat->Prop}{a b c cA db dn eb fm mb n ns pm sb sc:Nat}{im km sv:Value}{w w' wr:World}{sa:Option Addr}
section
open Go.RowKit
open Kw (St ME)
open Hv (S Dx VM Ns All)
variable {h x:S}{d':Dx}{P P1:VM Value}{D:VM Hv.PD}{G:VM S}{m:Hv.Mac}{pl:Hv.Plan}
theorem LJ.disk{a' b' c':Nat} {h':S} {d:Dx}      (e:LJ C N eb sb mb pm fm db n a b c h d P D G sv im km dn w) (hs:KA sb db n a' b' c' h' w') (hd:Kq C' db d' w') (hG:YW (fun k=>k=sb) C C' w w') (hrb:d'.rb=d.rb):LJ C' N eb sb mb pm fm db n a' b' c' h' d' P D G sv im km dn w':=by
 obtain ⟨hf,hC⟩:=hG;obtain ⟨o1,o2,o3,o4,o5⟩:=e.off;obtain ⟨a1,a2,a3,a4,a5,a6,a7⟩:=e.apart;have l1:=blt e.Lu;have l2:=e.st.lt;have l3:=blt e.La.blk;have l4:=e.La.packs.lt;have l5:=e.La.files.lt;have hB:=e.base.size;have no:∀ k,¬ C k->k<w.heap.size -> ¬ C' k:=fun k q l q'=>by
  rcases hC k q' with q' | q'
  · exact q q'
  · omega
 refine ⟨e.Lu.kept (hf.block eb l1 (fun q=>q.elim o1 a1)),hs,e.La.far hf (AC _) ⟨fun q=>q.elim o3 (fun q=>a5 q.symm),fun q=>q.elim o4 (fun q=>a6 q.symm),fun q=>q.elim o5 (fun q=>a7 q.symm)⟩,e.pk.far hf (AC _) (fun g _ hg q=>q.elim (e.rows g hg).2.1 (e.rows g hg).2.2.2),hd,⟨no _ o1 l1,no _ o2 l2,no _ o3 l3,no _ o4 l4,no _ o5 l5⟩,e.apart,fun g hg=>⟨B3 (e.rows g hg).1 hf.size,no _ (e.rows g hg).2.1 (e.rows g hg).1,(e.rows g hg).2.2⟩,e.base.far hf e.base.size (fun k q => ?_),⟨e.low.1,e.low.2.1,e.low.2.2.1,e.low.2.2.2.1,fun k q => ?_⟩,by rw[hrb];exact e.frb⟩
 · rcases q with q | q
   · exact e.low.2.2.2.2 k q
   · rw[q];exact e.low.2.1
 · rcases hC k q with q | q
   · exact e.low.2.2.2.2 k q
   · omega
theorem LJ.sbC{d:Dx}      (e:LJ C N eb sb mb pm fm db n a b c h d P D G sv im km dn w) : ¬ C sb/\sb≠d.rb:=⟨e.off.2.1,fun q=>e.frb.2.1 q.symm⟩
theorem YW.foot(h:YW (fun k=>k=sb) C C' w w'):Kj w.heap.size (K9 C eb sb pm fm) w w':=h.1.mono (AC _) fun q _ hq=>by
 rcases hq with hq | hq
 · exact .inl hq
 · exact .inr (.inr (.inl hq))
def ahQ (n:Nat) (C:Nat->Prop) (eb sb pm fm db:Nat) (d:Dx) (K:Nat) (T:S->Nat->Prop) (ok:(Nat->Prop)->Dx->World->Prop) (w:World) (v:Value) (w':World):Prop :=
 ∃ d' C' r,EV w.heap.size w' v r/\Ns d d' r K/\Kq C' db d' w'/\Kj w.heap.size (K9 C eb sb pm fm) w w'/\(∀ k,C' k->C k\/w.heap.size<=k)/\((r=0/\ok C' d' w')\/(r≠0/\All d' (O7 n T)))
theorem ahF(eb sb mb pm fm db n a m0:Nat) (x:S) (d:Dx) (P:VM Value) (D:VM Hv.PD) (G:VM S) (sa:Option Addr) (ns sc im km dn:Nat) (pl:Hv.Plan) (hns:pl.steps.length=ns) (hn:dn+1<ns) (dF:ns<=1000) (hok:Hv.Tv pl D (pl.steps[dn]'(by omega))) (hks:(pl.steps[dn]'(by omega)).2.length<=12) (bX:P.length<=1000) (hG:G.length<=1000) (L:Nat) (hL:L<=1000000) (hS:Hv.Short L G) (hDB:QD L D) (iF:Oc L pl.Le) (hR:Md n a x m0 d) (hx:x.length<=1000000) (hnn:1<=n) (au:d.calls+1000<1000000000000) (w:World) (he:LJ C N eb sb mb pm fm db n a x.length m0 (short KH x) d P D G (.slice sa ns sc) (.map (some im)) (.map (some km)) dn w) (hpl:LC M pl (.slice sa ns sc) im km w) (hN:∀ g,M g->N g) (hM:Nz C eb sb pm fm M) :
 Calls Tryz.prog 86 #[.pointer (some ⟨eb,0,none⟩)] w fun e w'=>∃ v,e = .returned v/\ahQ n C eb sb pm fm db d 8 (fun y j=>y=x/\(j=m0\/j=dn+1)) (fun C' d' w'=>∃ P',LJ C' N eb sb mb pm fm db n a x.length (dn+1) (short KH x) d' P' (Hv.Ke pl (D,G) (pl.steps[dn]'(by omega))).1 (Hv.Ke pl (D,G) (pl.steps[dn]'(by omega))).2 (.slice sa ns sc) (.map (some im)) (.map (some km)) (dn+1) w'/\Md n a x (dn+1) d'/\LC M pl (.slice sa ns sc) im km w') w v w':=by
 have jG:=JY (amv eb sb mb pm fm db n a x.length m0 (short KH x) d P D G sa ns sc im km dn pl hns (by omega) dF hok hks bX hG L hL hS hDB iF w he hpl hN hM);obtain ⟨s,hs⟩:∃ s,Hv.Ke pl (D,G) (pl.steps[dn]'(by omega))=s:=⟨_,rfl⟩
 rw[hs] at jG |-;obtain ⟨m,hm⟩:∃ m,dn+1=m:=⟨_,rfl⟩
 rw[hm] at jG hn |-;have hm2:m<=1000000:=by omega
 have yM:(m:Int)<ns:=by omega
 clear hm;have mL:∀ g,M g->g<w.heap.size:=fun g hg=>(he.rows g (hN g hg)).1
 have FL:=JY mL;have HN:=JY hN;have HA:=JY hM;have HR:=JY hR;have yt:=JY hx;clear hok hks hS hDB iF hs mL hN hM hR hpl he hx;go_enter Tryz.func86,Tryz.ntmps86;go_wp2_with fail;refine jG.out.mono ?_;rintro e w1 ⟨u,P1,rfl,lA,hp1,aS⟩;have hsz1:=aS.size;have aF:=(AD w1.heap.size w1).drew;have aH:=JY (lA.below aF);have bB:=JY (hp1.below aF);have aO:=JY (aS.below aF hsz1);obtain ⟨e0,e1,e2,e3,e4,e5⟩:=lA.Lu.cells;have kJ:w1.heap.size<=w1.drew.heap.size:=aF.size;have HL:=JY (N9 sa ns sc im km w1.drew);clear lA hp1 aS jG aF;go_wp2_with fail
 go_region_held3 (fun w'=>w'.cell? ⟨eb,2,none⟩=some (.slice sa ns sc)/\w'.cell? ⟨eb,3,none⟩=some (.map (some im))/\w'.cell? ⟨eb,4,none⟩=some (.map (some km))/\w'.cell? ⟨eb,5,none⟩=some (.int .i64 m))
  (first | assumption | exact ⟨e2,e3,e4,e5⟩ | exact ⟨bA.out.2.2.1,bA.out.2.2.2.1,bA.out.2.2.2.2.1,bA.out.2.2.2.2.2⟩ | simp[go_sem, *])
  (first
   | (go_at_call 69;refine HL.out.mono ?_;rintro e w2 ⟨rfl,hb2⟩;have bh:=JY (aH.out.below hb2);have bQ:=JY (bB.out.below hb2);have bp:=JY (aO.out.below hb2 (Bi hsz1 kJ));have bA:=JY bh.out.Lu.cells;clear hb2))
 all_goals
  obtain ⟨g0,g1,g2,g3,g4,g5⟩:=bA.out;have aF:=(AD w2.heap.size w2).drew;have hbs:=aF.size;have bW:=JY (bh.out.below aF);have cK:=JY (bQ.out.below aF);have bP:=JY (bp.out.below aF bp.out.size);have FU:=JY (ajK sb db n a m0 m x hnn yt.out hm2 HR.out (by omega) w2.drew bW.out.st bW.out.dk bW.out.sbC bW.out.base bW.out.low.2.2.2.2);have kP:=JY (show eb≠sb /\ ¬ C eb from ⟨bW.out.apart.1,bW.out.off.1⟩);clear e0 e1 e2 e3 e4 e5 aF;go_wp2_with fail
  go_region_held3 (fun w'=>w'.cell? ⟨eb,0,none⟩=some (.pointer (some ⟨sb,0,none⟩))/\w'.cell? ⟨eb,5,none⟩=some (.int .i64 m))
   (first | assumption | exact ⟨g0,g5⟩ | exact ⟨oP.out.1,oP.out.2.2.2.2.2⟩ | simp[go_sem, *])
   (first
    | (go_at_call 150;refine FU.out.mono ?_;rintro e w4 ⟨v4,rfl,d4,C4,r4,k1,k2,k3,k4,k5⟩;have oP:=JY (bW.out.Lu.kept (k4.block ⟨kP.out.2,kP.out.1⟩ (blt bW.out.Lu))).cells;have iX:=JY k1;have iV:=JY k2;have fN:=JY k3;have fQ:=JY k4;have jq:=JY k5;clear k1 k2 k3 k4 k5))
  all_goals
   have hs3:=bP.out.size;have ey:=JY (bP.out.next (fQ.out.foot (eb:=eb) (pm:=pm) (fm:=fm)) hs3 (fun q _ hq=>hq));go_wp2_with fail;go_ret;refine ⟨_,rfl,d4,C4,r4,iX.out.base hs3,iV.out,fN.out,ey.out,fun k q=>(fQ.out.2 k q).imp id (fun q=>Bi hs3 q),?_⟩;rcases jq.out with ⟨h0,h1,h2⟩ | ⟨h0,h1⟩
   · exact .inl ⟨h0,P1,bW.out.disk h2 fN.out fQ.out iV.out.rb,h1,cK.out.far fQ.out.1 (AC _) (fun g hg q=>HA.out g hg (by rcases q with q | q;exact .inl q;exact .inr (.inr (.inl q))))⟩
   · exact .inr ⟨h0,h1⟩
theorem anl{m:Nat} {x0:S} {d:Dx}     {q:Hv.Mac} {xs:List S} (hR:QE n q xs) (hnn:1<=n/\n<=4096) (hD:Md n a x0 m d) (au:d.calls+1000000<1000000000000) (w:World) (he:LJ C N eb sb mb pm fm db n a x0.length m (short KH x0) d P D G sv im km dn w) :
 Calls Tryz.prog 40 #[.pointer (some ⟨sb,0,none⟩), .string ⟨(Hv.KU q.1 q.2 xs).toArray⟩] w fun e w'=>∃ v,e = .returned v/\∃ d' C' r,EV w.heap.size w' v r/\Ns d d' r 600000/\Kq C' db d' w'/\YW (fun k=>k=sb) C C' w w'/\((r=0/\Md n (1-a) (Hv.KU q.1 q.2 xs) 0 d'/\LJ C' N eb sb mb pm fm db n (1-a) (Hv.KU q.1 q.2 xs).length 0 (short KH (Hv.KU q.1 q.2 xs)) d' P D G sv im km dn w')\/(r≠0/\All d' (O7 n fun y k=>(y=x0/\k=m)\/(y=Hv.KU q.1 q.2 xs/\k=0)))):=by
 have hr:=hR.room;refine (ajJ sb db n a m x0 (Hv.KU q.1 q.2 xs) hnn.1 (by omega) (by omega) hr hD (by omega) w he.st he.dk he.sbC he.base he.low.2.2.2.2).mono ?_;rintro e w' ⟨v,rfl,d',C',r,k1,k2,k3,k4,k5⟩;refine ⟨v,rfl,d',C',r,k1,k2.more (by omega),k3,k4,?_⟩;rcases k5 with ⟨h0,h1,h2⟩ | ⟨h0,h1⟩
 · exact .inl ⟨h0,h1,he.disk h2 k3 k4 k2.rb⟩
 · exact .inr ⟨h0,h1⟩
theorem ae6(eb sb mb pm fm db n a m0:Nat) (x:S) (d:Dx) (P:VM Value) (D:VM Hv.PD) (G:VM S) (sa:Option Addr) (ns sc im km dn:Nat) (pl:Hv.Plan) (hns:pl.steps.length=ns) (hn:dn+1=ns) (dF:ns<=1000) (hok:Hv.Tv pl D (pl.steps[dn]'(by omega))) (hks:(pl.steps[dn]'(by omega)).2.length<=12) (bX:P.length<=1000) (hG:G.length<=1000) (L:Nat) (hL:L<=1000000) (hS:Hv.Short L G) (hDB:QD L D) (iF:Oc L pl.Le) (hD:Md n a x m0 d) (hnn:1<=n/\n<=4096) (au:d.calls+1000000<1000000000000) (hR:QE n (Hv.Ke pl (D,G) (pl.steps[dn]'(by omega))) []) (w:World) (he:LJ C N eb sb mb pm fm db n a x.length m0 (short KH x) d P D G (.slice sa ns sc) (.map (some im)) (.map (some km)) dn w) (hpl:LC M pl (.slice sa ns sc) im km w) (hN:∀ g,M g->N g) (hM:Nz C eb sb pm fm M) :
 Calls Tryz.prog 86 #[.pointer (some ⟨eb,0,none⟩)] w fun e w'=>∃ v,e = .returned v/\ahQ n C eb sb pm fm db d 600000 (fun y j=>(y=x/\j=m0)\/(y=Hv.KU (Hv.Ke pl (D,G) (pl.steps[dn]'(by omega))).1 (Hv.Ke pl (D,G) (pl.steps[dn]'(by omega))).2 []/\j=0)) (fun C' d' w'=>∃ P' y,y=Hv.KU (Hv.Ke pl (D,G) (pl.steps[dn]'(by omega))).1 (Hv.Ke pl (D,G) (pl.steps[dn]'(by omega))).2 []/\LJ C' N eb sb mb pm fm db n (1-a) y.length 0 (short KH y) d' P' (Hv.Ke pl (D,G) (pl.steps[dn]'(by omega))).1 (Hv.Ke pl (D,G) (pl.steps[dn]'(by omega))).2 (.slice none 0 0) (.map none) (.map none) 0 w'/\Md n (1-a) y 0 d') w v w':=by
 have jG:=JY (amv eb sb mb pm fm db n a x.length m0 (short KH x) d P D G sa ns sc im km dn pl hns (by omega) dF hok hks bX hG L hL hS hDB iF w he hpl hN hM);obtain ⟨s,hs⟩:∃ s,Hv.Ke pl (D,G) (pl.steps[dn]'(by omega))=s:=⟨_,rfl⟩
 rw[hs] at jG hR |-;obtain ⟨m,hm⟩:∃ m,dn+1=m:=⟨_,rfl⟩
 rw[hm] at jG hn;have yM : ¬ (m:Int)<ns:=by omega
 clear hm;have HD:=JY hD;have HR:=JY hR;clear hok hks hS hDB iF hs hN hM hD hR hpl he;go_enter Tryz.func86,Tryz.ntmps86;go_wp2_with fail;refine jG.out.mono ?_;rintro e w1 ⟨u,P1,rfl,lA,hp1,aS⟩;have hsz1:=aS.size;have aF:=(AD w1.heap.size w1).drew;have aH:=JY (lA.below aF);have aO:=JY (aS.below aF hsz1);obtain ⟨e0,e1,e2,e3,e4,e5⟩:=lA.Lu.cells;have kJ:w1.heap.size<=w1.drew.heap.size:=aF.size;have HL:=JY (N9 sa ns sc im km w1.drew);clear lA hp1 aS jG aF;go_wp2_with fail
 go_region_held3 (fun w'=>w'.cell? ⟨eb,2,none⟩=some (.slice sa ns sc)/\w'.cell? ⟨eb,3,none⟩=some (.map (some im))/\w'.cell? ⟨eb,4,none⟩=some (.map (some km))/\w'.cell? ⟨eb,5,none⟩=some (.int .i64 m))
  (first | assumption | exact ⟨e2,e3,e4,e5⟩ | exact ⟨bA.out.2.2.1,bA.out.2.2.2.1,bA.out.2.2.2.2.1,bA.out.2.2.2.2.2⟩ | simp[go_sem, *])
  (first
   | (go_at_call 69;refine HL.out.mono ?_;rintro e w2 ⟨rfl,hb2⟩;have bh:=JY (aH.out.below hb2);have bp:=JY (aO.out.below hb2 (Bi hsz1 kJ));have bA:=JY bh.out.Lu.cells;clear hb2))
 all_goals
  obtain ⟨y0,y1,y2,y3,y4,y5⟩:=bA.out;have z2:=J2 bh.out.Lu 2;have z3:=J2 bh.out.Lu 3;have z4:=J2 bh.out.Lu 4;have z5:=J2 bh.out.Lu 5;have vq:=AI _ eb 5 _ _ (.int .i64 0) (AI _ eb 4 _ _ (.map none) (AI _ eb 3 _ _ (.map none) (AI _ eb 2 _ _ (.slice none 0 0) bh.out.Lu)));have mH:Kj w2.heap.size (fun q=>q=eb) w2 ((((w2.setCell ⟨eb,2,none⟩ (.slice none 0 0)).setCell ⟨eb,3,none⟩ (.map none)).setCell ⟨eb,4,none⟩ (.map none)).setCell ⟨eb,5,none⟩ (.int .i64 0)):=((((Kj.refl w2.heap.size (fun q=>q=eb) w2).setCell (p:=⟨eb,2,none⟩) (.inr rfl) _).setCell (p:=⟨eb,3,none⟩) (.inr rfl) _).setCell (p:=⟨eb,4,none⟩) (.inr rfl) _).setCell (p:=⟨eb,5,none⟩) (.inr rfl) _;have bW:=JY (bh.out.own (dn':=0) vq mH);have bP:=JY (bp.out.next mH bp.out.size (fun q _ hq => .inr (.inl hq)));clear mH vq e0 e1 e2 e3 e4 e5;go_wp2_with fail;obtain ⟨v,hv⟩:∃ v,((((w2.setCell ⟨eb,2,none⟩ (.slice none 0 0)).setCell ⟨eb,3,none⟩ (.map none)).setCell ⟨eb,4,none⟩ (.map none)).setCell ⟨eb,5,none⟩ (.int .i64 0))=v:=⟨_,rfl⟩
  rw[hv] at bW bP |-;obtain ⟨g0,g1, -⟩:=bW.out.Lu.cells;have aF:=(AD v.heap.size v).drew;have nD:=JY (bW.out.below aF);have ey:=JY (bP.out.below aF bP.out.size);have nP:=JY (Yq mb pm fm P1 s.1 s.2 N (by have:=HR.out.l1;omega) HR.out.l2 (by have:=HR.out.l3;omega) (fun p hp=>by have:=(HR.out.l4 p hp).1;omega) v.drew nD.out.La nD.out.pk);clear hv y0 y1 y2 y3 y4 y5 z2 z3 z4 z5 aF bW bP
  go_region_held3 (fun w'=>w'.cell? ⟨eb,0,none⟩=some (.pointer (some ⟨sb,0,none⟩))/\w'.cell? ⟨eb,1,none⟩=some (.pointer (some ⟨mb,0,none⟩)))
   (first | assumption | exact ⟨g0,g1⟩ | exact ⟨xM.out.1,xM.out.2.1⟩ | exact ⟨dM.out.Lu.cells.1,dM.out.Lu.cells.2.1⟩ | exact ⟨jH.out.Lu.cells.1,jH.out.Lu.cells.2.1⟩ | simp[go_sem, *])
   (first
    | (go_at_call 39;refine nP.out.mono ?_;rintro e w5 ⟨va,vf,rfl,r1,r2,aG⟩;have R1:=JY r1;have R2:=JY r2;have jH:=JY (nD.out.below aG);have fy:=JY (ey.out.below aG ey.out.size);clear r1 r2 aG)
    | (go_at_call 41;refine (encS HR.out va vf (.slice none 0 0) w5 jH.out.base R1.out R2.out (.inl ⟨rfl,none,0,rfl⟩)).mono ?_;rintro e w6 ⟨rfl,aN⟩;have dM:=JY (jH.out.below aN);have jd:=JY (fy.out.below aN fy.out.size);clear aN)
    | (go_at_call 40;refine (anl HR.out hnn HD.out au w6 dM.out).mono ?_;rintro e w7 ⟨v7,rfl,d',C',r7,k1,k2,k3,k4,k5⟩;have xM:=JY (dM.out.Lu.kept (k4.block ⟨dM.out.off.1,dM.out.apart.1⟩ (blt dM.out.Lu))).cells;have F6:=JY (k1.base jd.out.size);have fY:=JY k2;have Fi:=JY k3;have xR:=JY (jd.out.next (k4.foot (eb:=eb) (pm:=pm) (fm:=fm)) jd.out.size (fun q _ hq=>hq));have tV:=JY k4.2;have Af:=JY k5;clear k1 k2 k3 k4 k5))
  all_goals
   have kI:=jd.out.size;go_wp2_with fail;go_ret;refine ⟨_,rfl,d',C',r7,F6.out,fY.out,Fi.out,xR.out,fun k q=>(tV.out k q).imp id (fun q=>Bi kI q),?_⟩;rcases Af.out with ⟨h0,h1,h2⟩ | ⟨h0,h1⟩
   · exact .inl ⟨h0,P1,_,rfl,h2,h1⟩
   · exact .inr ⟨h0,h1⟩
def FinT (x:S) (cA ns:Nat) (y:S):S->Nat->Prop:=fun z j=>(z=x/\cA<=j/\j<ns)\/(z=y/\j=0)
structure ahM (C N M:Nat->Prop) (eb sb mb pm fm db n a:Nat) (x:S) (d:Dx) (m:Hv.Mac) (sa:Option Addr) (ns sc im km:Nat) (pl:Hv.Plan) (cA:Nat) (w:World) (dn:Nat) (C1:Nat->Prop) (d1:Dx) (P1:VM Value) (wr:World):Prop where
 Lu:LJ C1 N eb sb mb pm fm db n a x.length dn (short KH x) d1 P1 (Hv.Kc pl m (pl.steps.take dn)).1 (Hv.Kc pl m (pl.steps.take dn)).2 (.slice sa ns sc) (.map (some im)) (.map (some km)) dn wr
 rest:Md n a x dn d1
 op:Ns d d1 0 (8*dn)
 pln:LC M pl (.slice sa ns sc) im km wr
 off:Nz C1 eb sb pm fm M
 far:Kj w.heap.size (K9 C eb sb pm fm) w wr
 new:∀ k,C1 k->C k\/w.heap.size<=k
 ge:cA<=dn
def Xi (N:Nat->Prop) (eb sb mb pm fm db n a:Nat) (m:Hv.Mac) (C':Nat->Prop) (d':Dx) (w':World):Prop:=∃ P' y,y=Hv.KU m.1 m.2 []/\LJ C' N eb sb mb pm fm db n a y.length 0 (short KH y) d' P' m.1 m.2 (.slice none 0 0) (.map none) (.map none) 0 w'/\Md n a y 0 d'
theorem ahD{d:Dx}   {im km:Nat}      {d1:Dx}   (hI:ahM C N M eb sb mb pm fm db n a x d m sa ns sc im km pl cA w dn C1 d1 P1 wr) (hx:x.length<=1000000) (od:dn<ns) (hns:pl.steps.length=ns) (hR:Pm n pl m) (hN:∀ g,M g->N g) (hnn:1<=n/\n<=4096) (au:d.calls+2000000<1000000000000) (w4:World) (hb:Below wr.heap.size wr w4) :
 Calls Tryz.prog 86 #[.pointer (some ⟨eb,0,none⟩)] w4 fun e w'=>∃ v,e = .returned v/\∃ d' C' r,EV w4.heap.size w' v r/\Ns d d' r 700000/\Kq C' db d' w'/\Kj w.heap.size (K9 C eb sb pm fm) w w'/\(∀ k,C' k->C k\/w.heap.size<=k) /\
  ((r=0/\((∃ dn' P2,dn'=dn+1/\dn'<ns/\ahM C N M eb sb mb pm fm db n a x d m sa ns sc im km pl cA w dn' C' d' P2 w')\/Xi N eb sb mb pm fm db n (1-a) (Hv.Kc pl m pl.steps) C' d' w'))\/(r≠0/\All d' (O7 n (FinT x cA ns (Hv.KU (Hv.Kc pl m pl.steps).1 (Hv.Kc pl m pl.steps).2 []))))):=by
 have hE:=hI.Lu.below hb;have hP:=hI.pln.below hb;have hF:=hI.far.below hb hI.far.size;have GM:=hF.size;have hn:dn<pl.steps.length:=by omega
 have Ew:=hR.len;have hge:=hI.ge;have hcl:=hI.op.calls;obtain ⟨r1,r2,r3,r4⟩:=hR.at_ dn hn;have bX:P1.length<=1000:=by have:=hE.pk.len hE.La.packs.1;omega
 have hok:=hR.ok.at_ hn;have hks:=hR.ks _ (B1 hn);have tr:=Sb pl m hn;have mL:∀ g,M g->g<w4.heap.size:=fun g hg=>(hE.rows g (hN g hg)).1
 have qu:∀ {w5:World},Kj w4.heap.size (K9 C1 eb sb pm fm) w4 w5->Kj w.heap.size (K9 C eb sb pm fm) w w5:=fun q=>hF.next q GM (fun k hk hq=>by
  rcases hq with hq | hq
  · rcases hI.new k hq with hq | hq
    · exact .inl hq
    · omega
  · exact .inr hq)
 have rN:∀ {C2:Nat->Prop},(∀ k,C2 k->C1 k\/w4.heap.size<=k)->∀ k,C2 k->C k\/w.heap.size<=k:=fun q k hk=>by
  rcases q k hk with hk | hk
  · exact hI.new k hk
  · exact .inr (by omega)
 by_cases hl:dn+1<ns
 · refine (ahF eb sb mb pm fm db n a dn x d1 P1 _ _ sa ns sc im km dn pl hns hl (by omega) hok hks bX r2 30000 (by omega) (r3.mono (by omega)) r4 hR.wf hI.rest hx (by omega) (by omega) w4 hE hP hN hI.off).mono ?_;rintro e w5 ⟨v,rfl,d2,C2,r,q1,q2,q3,q4,q5,q6⟩;refine ⟨v,rfl,d2,C2,r,q1,(hI.op.trans q2).more (by omega),q3,qu q4,rN q5,?_⟩;rcases q6 with ⟨rfl,P2,p1,p2,p3⟩ | ⟨h0,p1⟩
   · refine .inl ⟨rfl, .inl ⟨dn+1,P2,rfl,hl,⟨?_,p2,(hI.op.trans q2).more (by omega),p3,hI.off.disk q5 mL,qu q4,rN q5,by omega⟩⟩⟩;rw[tr];exact p1
   · exact .inr ⟨h0,p1.imp fun im q=>by
      obtain ⟨a',y,j,⟨rfl,hj⟩,hh⟩:=q;exact ⟨a',y,j, .inl ⟨rfl,by omega,by omega⟩,hh⟩⟩
 · have hl':dn+1=ns:=by omega
   have te:pl.steps.take (dn+1)=pl.steps:=An (by omega);rw[te] at tr;have hfin:=hR.fin;rw[tr] at hfin |-;refine (ae6 eb sb mb pm fm db n a dn x d1 P1 _ _ sa ns sc im km dn pl hns hl' (by omega) hok hks bX r2 30000 (by omega) (r3.mono (by omega)) r4 hR.wf hI.rest hnn (by omega) hfin w4 hE hP hN hI.off).mono ?_;rintro e w5 ⟨v,rfl,d2,C2,r,q1,q2,q3,q4,q5,q6⟩;refine ⟨v,rfl,d2,C2,r,q1,(hI.op.trans q2).more (by omega),q3,qu q4,rN q5,?_⟩;rcases q6 with ⟨rfl,P2,y,p0,p1,p2⟩ | ⟨h0,p1⟩
   · exact .inl ⟨rfl, .inr ⟨P2,y,p0,p1,p2⟩⟩
   · exact .inr ⟨h0,p1.imp fun im q=>by
      obtain ⟨a',y,j,hj,hh⟩:=q;exact ⟨a',y,j,hj.imp (fun q=>⟨q.1,by omega,by omega⟩) id,hh⟩⟩
theorem X7{d:Dx}   {im km:Nat}      {d1:Dx}   (h:ahM C N M eb sb mb pm fm db n a x d m sa ns sc im km pl cA w dn C1 d1 P1 wr) (hn:0<ns):leftOf eb ns wr=ns+1-dn:=agG h.Lu.Lu hn
structure anq (C N:Nat->Prop) (eb sb mb pm fm db n a:Nat) (d:Dx) (m:Hv.Mac) (w:World) (C1:Nat->Prop) (d1:Dx) (wr:World):Prop where
 fin:Xi N eb sb mb pm fm db n a m C1 d1 wr
 op:Ns d d1 0 700000
 far:Kj w.heap.size (K9 C eb sb pm fm) w wr
 new:∀ k,C1 k->C k\/w.heap.size<=k
theorem Xi.Lu(h:Xi N eb sb mb pm fm db n a m C' d' w'):Qq eb (.pointer (some ⟨sb,0,none⟩)) (.pointer (some ⟨mb,0,none⟩)) (.slice none 0 0) (.map none) (.map none) (.int .i64 0) w':=by
 obtain ⟨P',y, -,q, -⟩:=h;exact q.Lu
theorem Xi.below(h:Xi N eb sb mb pm fm db n a m C' d' w) (hb:Below w.heap.size w w'):Xi N eb sb mb pm fm db n a m C' d' w':=by
 obtain ⟨P',y,q0,q1,q2⟩:=h;exact ⟨P',y,q0,q1.below hb,q2⟩
theorem Xi.dk(h:Xi N eb sb mb pm fm db n a m C' d' w):Kq C' db d' w:=by
 obtain ⟨P',y,q0,q1,q2⟩:=h;exact q1.dk
theorem afW(eb sb mb pm fm db n a:Nat) (x:S) (d:Dx) (P:VM Value) (m:Hv.Mac) (sa:Option Addr) (ns sc im km cA:Nat) (pl:Hv.Plan) (hns:pl.steps.length=ns) (hn0:cA<ns) (hR:Pm n pl m) (hD:Md n a x cA d) (hx:x.length<=1000000) (au:d.calls+2000000<1000000000000) (hnn:1<=n/\n<=4096) (w:World) (he:LJ C N eb sb mb pm fm db n a x.length cA (short KH x) d P (Hv.Kc pl m (pl.steps.take cA)).1 (Hv.Kc pl m (pl.steps.take cA)).2 (.slice sa ns sc) (.map (some im)) (.map (some km)) cA w) (hpl:LC M pl (.slice sa ns sc) im km w) (hN:∀ g,M g->N g) (hM:Nz C eb sb pm fm M) :
 Calls Tryz.prog 44 #[.pointer (some ⟨eb,0,none⟩)] w fun e w'=>∃ v,e = .returned v/\ahQ n C eb sb pm fm db d 700000 (FinT x cA ns (Hv.KU (Hv.Kc pl m pl.steps).1 (Hv.Kc pl m pl.steps).2 [])) (Xi N eb sb mb pm fm db n (1-a) (Hv.Kc pl m pl.steps)) w v w':=by
 obtain ⟨E,hE⟩:∃ E,Hv.Kc pl m pl.steps=E:=⟨_,rfl⟩
 have Fm:=JY hE;rw[hE];clear hE;go_enter Tryz.func44,Tryz.ntmps44;go_wp2_with fail;have HR:=JY hR;have yt:=JY hx;have hgo:d.gone=false:=hD.gone;have aV:Hid (ahM C N M eb sb mb pm fm db n a x d m sa ns sc im km pl cA w cA C d P w):=JY ⟨he,hD,(Ns.refl hgo).more (by omega),hpl,hM,Kj.refl _ _ _,fun k q => .inl q,AC _⟩;have jZ:=JY hns;have HN:=JY hN;have BP:ns<=200:=by have:=hR.len;omega
 clear he hD hpl hM hR hns hN hx hgo;have wD:0<ns:=by omega
 go_loopw [3,4] (fun x' y' wr=>(∃ dn C1 d1 P1,dn<ns/\Hid (ahM C N M eb sb mb pm fm db n a x d m sa ns sc im km pl cA w dn C1 d1 P1 wr))\/(∃ C1 d1,Hid (anq C N eb sb mb pm fm db n (1-a) d E w C1 d1 wr))) (fun _ _ wr=>leftOf eb ns wr)
 case atStart=>exact .inl ⟨cA,C,d,P,hn0,aV⟩
 case round =>
  clear aV;rcases hrel with ⟨dn,C1,d1,P1,od,HI⟩ | ⟨C1,d1,HI⟩
  · have hpos:(0:Int)<ns:=by omega
    have hdb:dn<=200:=by omega
    have HU:Hid (Calls Tryz.prog 36 #[.pointer (some ⟨eb,0,none⟩)] wr fun e w'=>e = .returned (.bool true)/\Below wr.heap.size wr w'):=JY (by
     refine (ahu eb _ _ sa ns sc im km _ wr HI.out.Lu.Lu).mono ?_;rintro e w' ⟨rfl,q⟩;exact ⟨by rw[decide_eq_true hpos],q⟩)
    go_wp2_with fail;refine HU.out.mono ?_;rintro e w1 ⟨rfl,hb1⟩;have ag:=JY hb1;have aH:=JY (HI.out.Lu.below hb1);obtain ⟨e0,e1,e2,e3,e4,e5⟩:=aH.out.Lu.cells;have aF:=(AD w1.heap.size w1).drew;have oN:=JY (hb1.trans (aF.mono hb1.size));have oZ:=JY (aH.out.below aF);clear hb1 aF HU;go_wp2_with fail;have hd1:(dn:Int)+1<=1000000:=by omega
    have hwr:IntKind.i64.wrap ((dn:Int)+1)=(dn:Int)+1:=by rw[De];omega
    have hd0:(0:Int)<=(dn:Int)+1:=by omega
    have BJ:(0:Int)<=(ns:Int):=by omega
    have BK:(ns:Int)<=1000000:=by omega
    go_region_held3 (fun w'=>w'.cell? ⟨eb,2,none⟩=some (.slice sa ns sc)/\w'.cell? ⟨eb,3,none⟩=some (.map (some im))/\w'.cell? ⟨eb,4,none⟩=some (.map (some km))/\w'.cell? ⟨eb,5,none⟩=some (.int .i64 dn))
     (first | assumption | exact ⟨e2,e3,e4,e5⟩ | exact nD.out.Lu.cells.2.2 | exact bW.out.Lu.cells.2.2 | exact bh.out.Lu.cells.2.2 | simp[go_sem, *])
     (first
      | (go_at_call_of 81 (Value.int .i64 (ns:Int));refine (acy (ns:Int) BJ BK _ bW.out.base).mono ?_;rintro e w4 ⟨y,rfl,hy,hb4⟩;have k3 : ¬ 9223372036854775807<5+z.length+4+y.length:=(by omega);have nD:=JY (bW.out.below hb4);have aB:=JY (av.out.trans (hb4.mono av.out.size));clear hb4)
      | (go_at_call 81;refine (acy ((dn:Int)+1) hd0 hd1 _ oZ.out.base).mono ?_;rintro e w2 ⟨z,rfl,hz,hb2⟩;have k1 : ¬ 9223372036854775807<5+z.length:=(by omega);have k2 : ¬ 9223372036854775807<5+z.length+4:=(by omega);have bh:=JY (oZ.out.below hb2);have ah:=JY (oN.out.trans (hb2.mono oN.out.size));clear hb2)
      | (go_at_call 69;refine (N9 sa ns sc im km w2).mono ?_;rintro e w3 ⟨rfl,hb3⟩;have bW:=JY (bh.out.below hb3);have av:=JY (ah.out.trans (hb3.mono ah.out.size));clear hb3))
    all_goals
     have HST:=JY (ahD HI.out yt.out od jZ.out HR.out HN.out hnn au w4 aB.out);rw[Fm.out] at HST;have iy:=JY (X7 HI.out wD);clear oZ oN bh ah bW av aH ag e0 e1 e2 e3 e4 e5 hwr;go_wp2_with fail;refine HST.out.mono ?_;rintro e w5 ⟨v,rfl,d2,C2,r,q1,q2,q3,q4,q5,q6⟩;have HV:=JY (q1.base (show w.heap.size<=_ from Bi HI.out.far.size aB.out.size));have bj:=JY q2;have eo:=JY q3;have rS:=JY q4;have jk:=JY q5;have r9:=JY q6;clear q1 q2 q3 q4 q5 q6 HST aB nD;rcases HV.out.form with ⟨rfl,rfl⟩ | ⟨h0,t,bb,rfl, -⟩
     · have fq:=(r9.out.resolve_right fun q=>q.1 rfl).2;have ui:=JY fq;clear r9 fq;go_wp2_with fail;go_roundw
       case rel =>
        rcases ui.out with ⟨dn',P2, -,q1,q2⟩ | q
        · exact .inl ⟨dn',C2,d2,P2,q1,JY q2⟩
        · exact .inr ⟨C2,d2,JY ⟨q,bj.out,rS.out,jk.out⟩⟩
       case measure =>
        rw[iy.out];rcases ui.out with ⟨dn',P2,rfl,q1,q2⟩ | q
        · rw[X7 q2 wD];omega
        · rw[aeg q.Lu];omega
     · have hne:r≠0:=by omega
       have lK:=JY (r9.out.resolve_left fun q=>hne q.1).2;clear r9;go_wp2_with fail;refine (Pe _ w.heap.size _ r w5 HV.out rS.out.size).mono ?_;rintro e w6 ⟨v6,rfl,q1,q2⟩;have jN:=JY q1;have bF:=JY q2;clear q1 q2;go_wp2_with fail;go_ret;exact ⟨v6,rfl,d2,C2,r,jN.out,bj.out,eo.out.below bF.out,rS.out.below bF.out rS.out.size,jk.out, .inr ⟨hne,lK.out⟩⟩
  · have HU:=JY (YN eb _ _ _ wr HI.out.fin.Lu);go_wp2_with fail;refine HU.out.mono ?_;rintro e w1 ⟨rfl,hb1⟩;have aH:=JY (HI.out.fin.below hb1);have aO:=JY (HI.out.far.below hb1 HI.out.far.size);clear hb1 HU;go_wp2_with fail;go_ret;exact ⟨_,rfl,d1,C1,0, .inl ⟨rfl,rfl⟩,HI.out.op,aH.out.dk,aO.out,HI.out.new, .inl ⟨rfl,aH.out⟩⟩
theorem abq(eb:Nat) (s m dn:Value) (w:World) (h:Qq eb s m (.slice none 0 0) (.map none) (.map none) dn w) :
 Calls Tryz.prog 44 #[.pointer (some ⟨eb,0,none⟩)] w fun e w'=>e = .returned .nilIface/\Below w.heap.size w w':=by
 have HU:=JY (YN eb s m dn w h);clear h;go_enter Tryz.func44,Tryz.ntmps44;go_wp2_with fail;go_loopw [3,4] (fun x' y' wr=>wr=w) (fun _ _ _=>0)
 case atStart=>rfl
 case round =>
  subst hrel;go_wp2_with fail;refine HU.out.mono ?_;rintro e w1 ⟨rfl,hb1⟩;have ag:=JY hb1;clear hb1 HU;go_wp2_with fail;go_ret;exact ⟨rfl,ag.out⟩
def ajP (x0 x:S) (ns:Nat) (y:S):S->Nat->Prop:=fun z j=>(z=x0/\j=0)\/FinT x 0 ns y z j
theorem ahC(eb sb mb pm fm db n a:Nat) (x0:S) (d:Dx) (P:VM Value) (D:VM Hv.PD) (G:VM S) (v:Value) (xs:List S) (jA:Rl xs) (pl:Hv.Plan) (eD:Hv.check n D G xs = .ok pl) (iE:Pm n pl (Hv.KG D pl.Le,G)) (vr:QE n (D,G) xs) (hsteps:0<pl.steps.length) (bE:Lf D) (cL:Qe \/ ∀ s,Hv.wish xs = .ok s->∀ k d,Hv.get s.I k=some d->KX d.st.runs/\KX d.st.Kn) (hS:Hv.Short 200 G) (hD:Md n a x0 0 d) (hx:x0.length<=1000000) (au:d.calls+4000000<1000000000000) (hnn:1<=n/\n<=4096) (w:World) (he:LJ C N eb sb mb pm fm db n a x0.length 0 (short KH x0) d P D G (.slice none 0 0) (.map none) (.map none) 0 w) (hv:Reads w v xs) :
 Calls Tryz.prog 21 #[.pointer (some ⟨eb,0,none⟩),v] w fun e w'=>∃ v',e = .returned (.tuple #[.int .i64 0,v'])/\∃ d' C' N' r,EV w.heap.size w' v' r/\Ns d d' r 1500000/\Kq C' db d' w'/\Kj w.heap.size (K9 C eb sb pm fm) w w'/\(∀ k,C' k->C k\/w.heap.size<=k)/\(∀ k,N' k->N k\/w.heap.size<=k) /\
  ((r=0/\Xi N' eb sb mb pm fm db n a (Hv.Kc pl (Hv.KG D pl.Le,G) pl.steps) C' d' w')\/(r≠0/\All d' (O7 n (ajP x0 (Hv.KU D G xs) pl.steps.length (Hv.KU (Hv.Kc pl (Hv.KG D pl.Le,G) pl.steps).1 (Hv.Kc pl (Hv.KG D pl.Le,G) pl.steps).2 []))))):=by
 have HE:=JY he;have HV:=JY hv;have HD:=JY hD;have mh:=JY iE;have jL:=JY vr;have gS:=JY bE;have oV:=JY cL;have HS:=JY hS;have zj:=JY eD;have yt:=JY hx;have kR:=JY jA;have HU:=JY (YN eb _ _ _ w he.Lu);obtain ⟨va,vc,rfl, -⟩:=hv.form;clear he hv hD iE vr bE cL hS eD hx jA;go_enter Tryz.func21,Tryz.ntmps21;go_wp2_with fail;refine HU.out.mono ?_;rintro e w1 ⟨rfl,hb1⟩;have aH:=JY (HE.out.below hb1);have fe:=JY (HV.out.below hb1);have ag:=JY hb1;obtain ⟨e0,e1, -⟩:=aH.out.Lu.cells;have hmk:∀ w',Below w1.heap.size w1 w'->(Below w1.heap.size w1 w'/\w'.cell? ⟨eb,0,none⟩=some (.pointer (some ⟨sb,0,none⟩))/\w'.cell? ⟨eb,1,none⟩=some (.pointer (some ⟨mb,0,none⟩))):=fun w' q=>⟨q,(aH.out.below q).Lu.cells.1,(aH.out.below q).Lu.cells.2.1⟩
 have iQ:Hid (∀ wx w',(Below w1.heap.size w1 wx/\wx.cell? ⟨eb,0,none⟩=some (.pointer (some ⟨sb,0,none⟩))/\wx.cell? ⟨eb,1,none⟩=some (.pointer (some ⟨mb,0,none⟩)))->Below wx.heap.size wx w'->(Below w1.heap.size w1 w'/\w'.cell? ⟨eb,0,none⟩=some (.pointer (some ⟨sb,0,none⟩))/\w'.cell? ⟨eb,1,none⟩=some (.pointer (some ⟨mb,0,none⟩)))):=JY fun wx w' h h'=>hmk w' (h.1.trans (h'.mono h.1.size))
 have fR:Hid (∀ wx A i v,(Below w1.heap.size w1 wx/\wx.cell? ⟨eb,0,none⟩=some (.pointer (some ⟨sb,0,none⟩))/\wx.cell? ⟨eb,1,none⟩=some (.pointer (some ⟨mb,0,none⟩)))->w1.heap.size<=A->(Below w1.heap.size w1 (wx.setCell ⟨A,i,none⟩ v)/\(wx.setCell ⟨A,i,none⟩ v).cell? ⟨eb,0,none⟩=some (.pointer (some ⟨sb,0,none⟩))/\(wx.setCell ⟨A,i,none⟩ v).cell? ⟨eb,1,none⟩=some (.pointer (some ⟨mb,0,none⟩)))):=JY fun wx A i v h h'=>hmk _ (h.1.setCell h' _)
 have py:Hid (∀ wx o o',(Below w1.heap.size w1 (World.alloc wx o)/\(World.alloc wx o).cell? ⟨eb,0,none⟩=some (.pointer (some ⟨sb,0,none⟩))/\(World.alloc wx o).cell? ⟨eb,1,none⟩=some (.pointer (some ⟨mb,0,none⟩)))->w1.heap.size<=wx.heap.size->(Below w1.heap.size w1 (World.alloc wx o')/\(World.alloc wx o').cell? ⟨eb,0,none⟩=some (.pointer (some ⟨sb,0,none⟩))/\(World.alloc wx o').cell? ⟨eb,1,none⟩=some (.pointer (some ⟨mb,0,none⟩)))):=JY fun wx o o' h h'=>hmk _ ⟨h.1.os,h.1.tape,h.1.output,by simp;omega,fun k hk=>((AM wx o' k (by omega)).trans (AM wx o k (by omega)).symm).trans (h.1.block k hk)⟩
 have dP:=JY (hmk _ ((AD w1.heap.size w1).drew));have hxl:xs.length<=1000000:=by have:=jL.out.l6.1;omega
 have E4:∀ x∈xs,x.length<=1000000000000:=fun x hx=>by have:=jL.out.l6.2 x hx;omega
 have uQ:=JY E4;have hni:(0:Int)<=(n:Int)/\(n:Int)<=4096:=by omega
 have zR:=JY hni;have D3:=aH.out.base.size;have iP:=JY D3;clear hb1 hmk HU E4 hni D3;go_wp2_with fail
 go_region_held3 (fun w'=>Below w1.heap.size w1 w'/\w'.cell? ⟨eb,0,none⟩=some (.pointer (some ⟨sb,0,none⟩))/\w'.cell? ⟨eb,1,none⟩=some (.pointer (some ⟨mb,0,none⟩)))
  (first | exact dP.out | exact iQ.out _ _ (by assumption) hb2 | exact iQ.out _ _ (by assumption) hb3 | exact iQ.out _ _ (by assumption) ((AD _ _).alloc (AC _) _) | exact py.out _ _ _ (by assumption) (by omega) | exact fR.out _ _ _ _ (by assumption) (by omega) | exact fR.out _ _ _ _ (fR.out _ _ _ _ (fR.out _ _ _ _ (by assumption) (by omega)) (by omega)) (by omega))
  (first
   | (go_at_call 38;refine (Yz sb db n a x0.length 0 (short KH x0) _ (aH.out.st.below (And.left (by assumption)))).mono ?_;rintro e w2 ⟨rfl,hb2⟩;have hs2:w1.heap.size<=w2.heap.size:=(by have h:=hb2.size;first | exact h | (simp at h;omega)); (try have wZ:w1.heap.size+1<=w2.heap.size:=(by have h:=hb2.size;simp at h;omega)); (try have q2:=(hb2.block w1.heap.size (by simp)).trans (AF w1.drew (.cells #[.slice none 0 0, .map none, .map none] 100))))
   | (go_at_call 37;refine (Zw mb pm fm P D G N n zR.out _ xs kR.out hxl uQ.out jL.out.l1 gS.out oV.out jL.out.l3 HS.out _ (aH.out.base.below (And.left (by assumption)) iP.out) (aH.out.La.below (And.left (by assumption))) (aH.out.pk.below (And.left (by assumption))) (fe.out.below (And.left (by assumption)))).mono ?_;rintro e w3 ad4;unfold Ri at ad4;rw[zj.out] at ad4;obtain ⟨sv,im,km,rfl,cN,hb3⟩:=ad4;obtain ⟨sa,sc,rfl⟩:=J4 cN.row;have hs3:w2.heap.size<=w3.heap.size:=(by have h:=hb3.size;first | exact h | (simp at h;omega)); (try have xg:w2.heap.size+1<=w3.heap.size:=(by have h:=hb3.size;simp at h;omega)); (try have q3:=(hb3.block w2.heap.size (by simp)).trans (AF w2 (.cells #[.slice none 0 0, .map none, .map none] 100))); (try have q3:=(hb3.block w1.heap.size (blt q2)).trans q2); (try have z0:=(JZ q3 0).trans (show _=some (.slice none 0 0) from rfl)); (try have z1:=(JZ q3 1).trans (show _=some (.map none) from rfl)); (try have z2:=(JZ q3 2).trans (show _=some (.map none) from rfl)); (try have y0:=J2 q3 0); (try have y1:=J2 q3 1); (try have y2:=J2 q3 2);have iH:Below w1.heap.size w1 w3:=(fun (h:Below w1.heap.size w1 _)=>h.trans (hb3.mono h.size)) (And.left (by assumption))))
 all_goals first
  | (have hx:=ZY (w1:=w1) cN (by omega) iH (.slice sa pl.steps.length sc) (.map (some im)) (.map (some km))
     obtain ⟨A,hA⟩:∃ A,w3.heap.size=A:=⟨_,rfl⟩
     have qx:w1.heap.size<=A:=(by omega);obtain ⟨W,hW⟩:∃ W,w3.alloc (.cells #[.slice sa pl.steps.length sc, .map (some im), .map (some km)] 100)=W:=⟨_,rfl⟩
     rw[hW] at hx |-;obtain ⟨z,X1,X2,X3,X4⟩:=hx;rw[hA] at X1 |-;clear hW hA)
  | (have hx:=UQ (w1:=w1) (A:=w2.heap.size) cN (by simp) (by omega) iH q3 (.slice sa pl.steps.length sc) (.map (some im)) (.map (some km))
     obtain ⟨A,hA⟩:∃ A,w2.heap.size=A:=⟨_,rfl⟩
     have qx:w1.heap.size<=A:=(by omega);obtain ⟨W,hW⟩:∃ W,(((w3.setCell ⟨w2.heap.size,0,none⟩ (.slice sa pl.steps.length sc)).setCell ⟨w2.heap.size,1,none⟩ (.map (some im))).setCell ⟨w2.heap.size,2,none⟩ (.map (some km)))=W:=⟨_,rfl⟩
     rw[hW] at hx |-;obtain ⟨z,X1,X2,X3,X4⟩:=hx;rw[hA] at X1 |-;clear hW hA)
  | (have hx:=UQ (w1:=w1) (A:=w1.heap.size) cN (by omega) (by omega) iH q3 (.slice sa pl.steps.length sc) (.map (some im)) (.map (some km))
     obtain ⟨A,hA⟩:∃ A,w1.heap.size=A:=⟨_,rfl⟩
     have qx:w1.heap.size<=A:=(by omega);obtain ⟨W,hW⟩:∃ W,(((w3.setCell ⟨w1.heap.size,0,none⟩ (.slice sa pl.steps.length sc)).setCell ⟨w1.heap.size,1,none⟩ (.map (some im))).setCell ⟨w1.heap.size,2,none⟩ (.map (some km)))=W:=⟨_,rfl⟩
     rw[hW] at hx |-;obtain ⟨z,X1,X2,X3,X4⟩:=hx;rw[hA] at X1 |-;clear hW hA)
 all_goals
  have hc1:=aH.out.dk.lt;have DM:LJ C (fun g=>N g\/(w1.heap.size<=g/\g<z)) eb sb mb pm fm db n a x0.length 0 (short KH x0) d P D G (.slice none 0 0) (.map none) (.map none) 0 W:=by
   have q:=aH.out.below X3;have l1:=blt aH.out.Lu;have l2:=aH.out.st.lt;refine ⟨q.Lu,q.st,q.La,q.pk.weak (fun g hg => .inl hg),q.dk,q.off,q.apart,fun g hg => ?_,q.base,q.low,q.frb⟩;rcases hg with hg | hg
   · exact q.rows g hg
   · have h4:=X4;exact ⟨by omega,fun hC=>by have:=hc1 g hC;omega,by omega,by omega⟩
  have tv:=JY DM;have Ds:=JY (fe.out.below X3);have dS:=JY (ag.out.trans (X3.mono ag.out.size));have ez:=JY X2;have oM:=JY X1;have rW:=JY (show ∀ g,(w1.heap.size<=g/\g<z)->g<W.heap.size from fun g hg=>by have:=X4;omega);have nN:=JY (show Nz C eb sb pm fm (fun g=>w1.heap.size<=g/\g<z) from fun g hg q=>by
   have l1:=blt aH.out.Lu;have l2:=aH.out.st.lt;have l3:=aH.out.La.packs.lt;have l4:=aH.out.La.files.lt;rcases q with q | q | q | q | q
   · have:=hc1 g q;omega
   · omega
   · omega
   · omega
   · omega)
  have GD : ¬ (C A\/A=sb):=fun q=>by
   have l2:=aH.out.st.lt;rcases q with q | q
   · have:=hc1 A q;omega
   · omega
  have CQ:=JY (show ∀ k,(C k\/k=sb)->k<W.heap.size from fun k q=>by
   have l2:=aH.out.st.lt;have l9:=X3.size;rcases q with q | q
   · have:=hc1 k q;omega
   · omega)
  have rV:=JY (show ∀ g,(w1.heap.size<=g/\g<z)->w.heap.size<=g from fun g hg=>by have:=ag.out.size;omega);obtain ⟨M,hM⟩:∃ M:Nat->Prop,(fun g=>w1.heap.size<=g/\g<z)=M:=⟨_,rfl⟩
  rw[hM] at ez nN;have zP:Hid (∀ g,M g->w.heap.size<=g):=JY (by rw[<- hM];exact rV.out);have fW:Hid (LJ C (fun g=>N g\/M g) eb sb mb pm fm db n a x0.length 0 (short KH x0) d P D G (.slice none 0 0) (.map none) (.map none) 0 W):=JY (by rw[<- hM];exact tv.out);have ub:Hid (∀ g,M g->g<W.heap.size):=JY (by rw[<- hM];exact rW.out);obtain ⟨x0,x1, -⟩:=fW.out.Lu.cells;have nP:=JY (Yq mb pm fm P D G (fun g=>N g\/M g) (by have h:D.length<=12:=jL.out.l1;omega) jL.out.l2 (by have h:G.length<=16:=jL.out.l3;omega) (fun p hp=>by have:=(jL.out.l4 p hp).1;omega) W fW.out.La fW.out.pk);clear hM X1 X2 X3 X4 rV tv rW DM hc1 iQ fR py dP aH fe ag e0 e1
  (try clear hb2)
  go_wp2_with fail;refine nP.out.mono ?_;rintro e w5 ⟨ra,rf,rfl,r1,r2,aG⟩;have R1:=JY r1;have R2:=JY r2;have jH:=JY (fW.out.below aG);have nQ:=JY (Ds.out.below aG);have bf:=JY (dS.out.trans (aG.mono dS.out.size));have eJ:=JY (ez.out.below aG);have lI:=JY ((aG.block A (blt oM.out)).trans oM.out);have eI:=JY (show ∀ g,M g->g<w5.heap.size from fun g hg=>B3 (ub.out g hg) aG.size);obtain ⟨ra,rO,rfl⟩:=J4 r1;obtain ⟨rf,rfc,rfl⟩:=J4 r2;have tq:=JY (show ∀ k,(C k\/k=sb)->k<w5.heap.size from fun k q=>B3 (CQ.out k q) aG.size);clear r1 r2 aG nP CQ fW Ds dS ez oM ub x0 x1;go_wp2_with fail;have hrow:=AF w5 (.cells #[.slice ra D.length rO, .slice rf G.length rfc, .slice va xs.length vc] 109);have hb0:=(AD w5.heap.size w5).alloc (AC _) (.cells #[.slice ra D.length rO, .slice rf G.length rfc, .slice va xs.length vc] 109);obtain ⟨u,hu⟩:∃ u,w5.alloc (.cells #[.slice ra D.length rO, .slice rf G.length rfc, .slice va xs.length vc] 109)=u:=⟨_,rfl⟩
  obtain ⟨rb,hrb⟩:∃ rb,w5.heap.size=rb:=⟨_,rfl⟩
  rw[hu] at hrow hb0 |-;rw[hrb] at hrow |-;have aF:=hb0.trans ((AD u.heap.size u).drew.mono hb0.size);have dM:=JY (jH.out.below aF);have jN:=JY (nQ.out.below aF);have bF:=JY (bf.out.trans (aF.mono bf.out.size));have kX:=JY (eJ.out.below aF);have xJ:=JY ((aF.block A (blt lI.out)).trans lI.out);have zN:=JY (show ∀ g,M g->g<u.drew.heap.size from fun g hg=>B3 (eI.out g hg) aF.size);have R16:=JY (Kg R1.out (fun g hg=>aF.block g (R1.out.lt g hg).2));have Ge:=JY (Kg R2.out (fun g hg=>aF.block g (R2.out.lt g hg).2));have pg:=JY (encS jL.out _ _ _ u.drew dM.out.base R16.out Ge.out jN.out);have c0:=(JZ hrow 0).trans (show _=some (.slice ra D.length rO) from rfl);have c1:=(JZ hrow 1).trans (show _=some (.slice rf G.length rfc) from rfl);have c2:=(JZ hrow 2).trans (show _=some (.slice va xs.length vc) from rfl);have g0:u.cell? ⟨eb,0,none⟩=some (.pointer (some ⟨sb,0,none⟩)):=dM.out.Lu.cells.1;have bg:=JY hrow;have yQ : ¬ (C rb\/rb=sb):=fun q=>by have:=tq.out rb q;omega
  clear tq hu hrb hrow hb0 aF R1 R2 jH nQ bf eJ lI eI
  go_region_held3 (fun w'=>w'.cell? ⟨eb,0,none⟩=some (.pointer (some ⟨sb,0,none⟩))/\w'.cell? ⟨rb,0,none⟩=some (.slice ra D.length rO)/\w'.cell? ⟨rb,1,none⟩=some (.slice rf G.length rfc)/\w'.cell? ⟨rb,2,none⟩=some (.slice va xs.length vc))
   (first | assumption | exact ⟨g0,c0,c1,c2⟩ | exact S8 | exact S7 | simp[go_sem, *])
   (first
    | (go_at_call 41;refine pg.out.mono ?_;rintro e w7 ⟨rfl,jv⟩;have kQ:=JY (dM.out.below jv);have jQ:=JY (bF.out.trans (jv.mono bF.out.size));have zZ:=JY (kX.out.below jv);have xK:=JY ((jv.block A (blt xJ.out)).trans xJ.out);have zO:=JY (show ∀ g,M g->g<w7.heap.size from fun g hg=>B3 (zN.out g hg) jv.size);have ij:=(jv.block rb (blt bg.out)).trans bg.out;have S7:w7.cell? ⟨eb,0,none⟩=some (.pointer (some ⟨sb,0,none⟩))/\w7.cell? ⟨rb,0,none⟩=some (.slice ra D.length rO)/\w7.cell? ⟨rb,1,none⟩=some (.slice rf G.length rfc)/\w7.cell? ⟨rb,2,none⟩=some (.slice va xs.length vc):=⟨kQ.out.Lu.cells.1,(JZ ij 0).trans rfl,(JZ ij 1).trans rfl,(JZ ij 2).trans rfl⟩;clear jv)
    | (go_at_call 40;refine (anl jL.out hnn HD.out (by omega) w7 kQ.out).mono ?_;rintro e w8 ⟨v8,rfl,d',C',r8,k1,k2,k3,k4,k5⟩;have Dq:=JY (k1.base jQ.out.size);have kW:=JY k2;have Fj:=JY k3;have ye:=JY k5;have zH:=JY (k4.foot (eb:=eb) (pm:=pm) (fm:=fm));have xO:=JY k4.2;have uj:=JY (zZ.out.far k4.1 (AC _) (fun g hg q=>nN.out g hg (by rcases q with q | q;exact .inl q;exact .inr (.inr (.inl q)))));have wV:=(k4.1.block rb (blt ij) (fun q=>yQ q)).trans ij;have oL:=JY ((k4.1.block A (blt xK.out) (fun q=>GD q)).trans xK.out);have S8:w8.cell? ⟨eb,0,none⟩=some (.pointer (some ⟨sb,0,none⟩))/\w8.cell? ⟨rb,0,none⟩=some (.slice ra D.length rO)/\w8.cell? ⟨rb,1,none⟩=some (.slice rf G.length rfc)/\w8.cell? ⟨rb,2,none⟩=some (.slice va xs.length vc):=⟨(kQ.out.Lu.kept (k4.block ⟨kQ.out.off.1,kQ.out.apart.1⟩ (blt kQ.out.Lu))).cells.1,(JZ wV 0).trans rfl,(JZ wV 1).trans rfl,(JZ wV 2).trans rfl⟩;clear k1 k2 k3 k4 k5))
  all_goals
   have jf:=JY (((Kj.refl w.heap.size (K9 C eb sb pm fm) w).below jQ.out (AC _)).next zH.out jQ.out.size (fun q _ hq=>hq));have ya:=JY (show ∀ k,C' k->C k\/w.heap.size<=k from fun k q=>(xO.out k q).imp id (fun q=>Bi jQ.out.size q));have fq:=Dq.out.form;rcases fq with ⟨bC,hv0⟩ | ⟨bC,t,bb,hv0, -⟩
   · subst bC;subst hv0;obtain ⟨-,hq1,hq2⟩:=ye.out.resolve_right fun q=>q.1 rfl
     have uu:=JY hq1;have o9:=JY hq2;have C9:=JY (nN.out.disk xO.out zO.out);have a0:=(JZ oL.out 0).trans (show _=some (.slice sa pl.steps.length sc) from rfl);have a1:=(JZ oL.out 1).trans (show _=some (.map (some im)) from rfl);have a2:=(JZ oL.out 2).trans (show _=some (.map (some km)) from rfl);have GY:P.length<=1000:=by have h1:=o9.out.pk.len o9.out.La.packs.1;have h2:D.length<=12:=jL.out.l1;omega
     have hrl:=jL.out.room;obtain ⟨X,hX⟩:∃ X,Hv.KU D G xs=X:=⟨_,rfl⟩
     have Ay:=JY hX;rw[show Hv.KU (D,G).1 (D,G).2 xs=X from hX] at o9 uu hrl;have GZ:X.length<=1000000:=by omega
     have HST:=JY (ajL eb sb mb pm fm db n (1-a) X.length 0 (short KH X) d' P D G _ _ _ 0 sa pl.steps.length sc im km pl GY w8 o9.out uj.out C9.out);have hcl:=kW.out.calls;clear hq1 hq2 ye hX hrl S7 S8 ij wV c0 c1 c2 g0 dM jN bF kX xJ zN kQ jQ zZ xK zO o9 uj zH xO pg;go_wp2_with fail;refine HST.out.mono ?_;rintro e w9 ⟨u9,P9,rfl,k1,k2,k3⟩;have nH:=JY (afW eb sb mb pm fm db n (1-a) X d' P9 (Hv.KG D pl.Le,G) sa pl.steps.length sc im km 0 pl rfl hsteps mh.out uu.out GZ (by omega) hnn w9 k1 k2 (fun g hg => .inr hg) C9.out);have gU:=JY (jf.out.next k3 jf.out.size (fun q hq hc=>by
      rcases hc with hc | hc
      · rcases ya.out q hc with hc | hc
        · exact .inl hc
        · omega
      · exact .inr hc))
     clear k1 k2 k3 HST jf a0 a1 a2;go_wp2_with fail;refine nH.out.mono ?_;rintro e w10 ⟨v10,rfl,d2,C2,r2,q1,q2,q3,q4,q5,q6⟩;have lR:=JY (gU.out.next q4 gU.out.size (fun q hq hc=>by
      rcases hc with hc | hc
      · rcases ya.out q hc with hc | hc
        · exact .inl hc
        · omega
      · exact .inr hc))
     have Ap:=JY (q1.base gU.out.size);have bR:=JY q2;have eZ:=JY q3;have l8:=JY q5;have iU:=JY q6;have FT:=JY gU.out.size;clear q1 q2 q3 q4 q5 q6 nH gU;go_wp2_with fail;go_ret2;have G0:1-(1-a)=a:=by have:=HD.out.has.ha;omega
     rw[G0] at iU;refine ⟨v10,rfl,d2,C2,fun g=>N g\/M g,r2,Ap.out,(kW.out.trans bR.out).more (by omega),eZ.out,lR.out,fun k q => ?_,fun k q=>q.imp id (zP.out k),?_⟩
     · rcases l8.out k q with q | q
       · exact ya.out k q
       · exact .inr (Bi FT.out q)
     · rcases iU.out with q | ⟨h0,q⟩
       · exact .inl q
       · refine .inr ⟨h0,q.imp fun im q => ?_⟩;obtain ⟨a',y,j,hj,hh⟩:=q;rw[Ay.out];exact ⟨a',y,j, .inr hj,hh⟩
   · have hne:r8≠0:=by omega
     subst hv0;have lK:=JY (ye.out.resolve_left fun q=>hne q.1).2;clear ye S7 S8 ij wV c0 c1 c2 g0 dM jN bF kX xJ zN kQ jQ zZ xK zO uj zH xO pg oL;go_wp2_with fail;refine (Pe _ w.heap.size _ r8 w8 Dq.out jf.out.size).mono ?_;rintro e w9 ⟨v9,rfl,q1,q2⟩;have gZ:=JY q1;have ny:=JY q2;clear q1 q2;go_wp2_with fail;go_ret2;refine ⟨v9,rfl,d',C',N,r8,gZ.out,kW.out.more (by omega),Fj.out.below ny.out,jf.out.below ny.out jf.out.size,ya.out,fun k q => .inl q, .inr ⟨hne,lK.out.imp fun im q => ?_⟩⟩;obtain ⟨a',y,j,hj,hh⟩:=q;refine ⟨a',y,j,?_,hh⟩;rcases hj with hj | ⟨h1,h2⟩
     · exact .inl hj
     · exact .inr (.inl ⟨h1,by omega,by omega⟩)
end
end Go.Proofs.YtfhmaiicimdldaaGreatDoor
