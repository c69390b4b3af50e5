import Derived.Test.YtfhmaiicimdldaaGreatDoorFinJ25
set_option maxHeartbeats 2000000
set_option maxRecDepth 100000
namespace Go.Proofs.YtfhmaiicimdldaaGreatDoor
variable {C M N:Nat->Prop}{a b c db dn eb fm mb n pm sb:Nat}{im km sv:Value}{w w':World}
section
open Go.RowKit
open Kw (St ME)
open Hv (S Dx VM)
variable {h:S}{P:VM Value}{D:VM Hv.PD}{G:VM S}
structure LJ (C N:Nat->Prop) (eb sb mb pm fm db n a b c:Nat) (h:S) (d:Dx) (P:VM Value) (D:VM Hv.PD) (G:VM S) (sv im km:Value) (dn:Nat) (w:World):Prop where
 Lu:Qq eb (.pointer (some ⟨sb,0,none⟩)) (.pointer (some ⟨mb,0,none⟩)) sv im km (.int .i64 dn) w
 st:KA sb db n a b c h w
 La:Kh mb pm fm P (Hv.Kk G) w
 pk:Ls N w D P
 dk:Kq C db d w
 off : ¬ C eb /\ ¬ C sb /\ ¬ C mb /\ ¬ C pm /\ ¬ C fm
 apart:eb≠sb/\eb≠mb/\eb≠pm/\eb≠fm/\sb≠mb/\sb≠pm/\sb≠fm
 rows:∀ g,N g->g<w.heap.size /\ ¬ C g/\g≠eb/\g≠sb
 base:Base w
 low:12<=eb/\12<=sb/\12<=pm/\12<=fm/\∀ k,C k->12<=k
 frb:d.rb≠eb/\d.rb≠sb/\d.rb≠pm/\d.rb≠fm
theorem LJ.below{d:Dx}      (e:LJ C N eb sb mb pm fm db n a b c h d P D G sv im km dn w) (hb:Below w.heap.size w w'):LJ C N eb sb mb pm fm db n a b c h d P D G sv im km dn w' :=
 ⟨e.Lu.kept (hb.block eb (blt e.Lu)),e.st.below hb,e.La.below hb,e.pk.below hb,e.dk.below hb,e.off,e.apart,fun g hg=>⟨B3 (e.rows g hg).1 hb.size,(e.rows g hg).2⟩,e.base.below hb e.base.size,e.low,e.frb⟩
theorem LJ.mac{d:Dx} {P':VM Value} {D':VM Hv.PD} {G':VM S}   (e:LJ C N eb sb mb pm fm db n a b c h d P D G sv im km dn w) (hm:Kh mb pm fm P' (Hv.Kk G') w') (hp:Ls N w' D' P') (hf:Kj w.heap.size (fun q=>q=pm\/q=fm) w w'):LJ C N eb sb mb pm fm db n a b c h d P' D' G' sv im km dn w':=by
 obtain ⟨o1,o2,o3,o4,o5⟩:=e.off;obtain ⟨a1,a2,a3,a4,a5,a6,a7⟩:=e.apart;refine ⟨e.Lu.kept (hf.block eb (blt e.Lu) (by omega)),e.st.far hf (AC _) (by omega),hm,hp,e.dk.far hf (AC _) (fun k hk q => ?_),e.off,e.apart,fun g hg=>⟨B3 (e.rows g hg).1 hf.size,(e.rows g hg).2⟩,e.base.far hf e.base.size (fun k q => ?_),e.low,e.frb⟩
 · rcases hk with hk | rfl
   · rcases q with rfl | rfl
     · exact o4 hk
     · exact o5 hk
   · exact q.elim e.frb.2.2.1 e.frb.2.2.2
 · rcases q with rfl | rfl
   · exact e.low.2.2.1
   · exact e.low.2.2.2.1
theorem LJ.own{dn':Nat}  {d:Dx}    {sv' im' km':Value}  (e:LJ C N eb sb mb pm fm db n a b c h d P D G sv im km dn w) (he:Qq eb (.pointer (some ⟨sb,0,none⟩)) (.pointer (some ⟨mb,0,none⟩)) sv' im' km' (.int .i64 dn') w') (hf:Kj w.heap.size (fun q=>q=eb) w w'):LJ C N eb sb mb pm fm db n a b c h d P D G sv' im' km' dn' w':=by
 obtain ⟨o1,o2,o3,o4,o5⟩:=e.off;obtain ⟨a1,a2,a3,a4,a5,a6,a7⟩:=e.apart;refine ⟨he,e.st.far hf (AC _) (fun q=>a1 q.symm),e.La.far hf (AC _) ⟨fun q=>a2 q.symm,fun q=>a3 q.symm,fun q=>a4 q.symm⟩,e.pk.far hf (AC _) (fun g _ hg q=>(e.rows g hg).2.2.1 q),e.dk.far hf (AC _) (fun k hk (q:k=eb)=>hk.elim (fun hk=>o1 (q▸hk)) (fun hk=>e.frb.1 (hk▸q))),e.off,e.apart,fun g hg=>⟨B3 (e.rows g hg).1 hf.size,(e.rows g hg).2⟩,e.base.far hf e.base.size (fun k (q:k=eb)=>by rw[q];exact e.low.1),e.low,e.frb⟩
theorem amv(eb sb mb pm fm db n a b c:Nat) (h:S) (d:Dx) (P:VM Value) (D:VM Hv.PD) (G:VM S) (sa:Option Addr) (ns sc im km dn:Nat) (pl:Hv.Plan) (hns:pl.steps.length=ns) (hn:dn<ns) (dF:ns<=1000) (hok:Hv.Tv pl D (pl.steps[dn]'(by omega))) (hks:(pl.steps[dn]'(by omega)).2.length<=12) (bX:P.length<=1000) (hG:G.length<=1000) (L:Nat) (hL:L<=1000000) (hS:Hv.Short L G) (hDB:QD L D) (iF:Oc L pl.Le) (w:World) (he:LJ C N eb sb mb pm fm db n a b c h d P D G (.slice sa ns sc) (.map (some im)) (.map (some km)) dn w) (hpl:LC M pl (.slice sa ns sc) im km w) (hN:∀ g,M g->N g) (hM:Nz C eb sb pm fm M) :
 Calls Tryz.prog 96 #[.pointer (some ⟨eb,0,none⟩)] w fun e w'=>∃ u P',e = .returned u/\LJ C N eb sb mb pm fm db n a b c h d P' (Hv.Ke pl (D,G) (pl.steps[dn]'(by omega))).1 (Hv.Ke pl (D,G) (pl.steps[dn]'(by omega))).2 (.slice sa ns sc) (.map (some im)) (.map (some km)) (dn+1) w'/\LC M pl (.slice sa ns sc) im km w'/\Kj w.heap.size (K9 C eb sb pm fm) w w':=by
 obtain ⟨e0,e1,e2,e3,e4,e5⟩:=he.Lu.cells;have aF:=(AD w.heap.size w).drew;have HE:=JY (he.below aF);have pN:=JY (hpl.below aF);have iT:=JY (amj mb pm fm P D G N M pl (.slice sa ns sc) im km dn (by omega) hok (by unfold maxLen;omega) bX hG L hL hS hDB iF w.drew HE.out.La HE.out.pk pN.out hN (fun q=>hM _ pN.out.ge.2 (.inr (.inr (.inr (.inr q))))));obtain ⟨s,hs⟩:∃ s,Hv.Ke pl (D,G) (pl.steps[dn]'(by omega))=s:=⟨_,rfl⟩
 rw[hs] at iT |-;clear he hpl hok hks hS hDB iF hN hs hns aF;go_enter Tryz.func96,Tryz.ntmps96;go_wp2_with fail;obtain ⟨a1,a2,a3,a4,a5,a6,a7⟩:=HE.out.apart
 go_region_held3 (fun w'=>w'.cell? ⟨eb,1,none⟩=some (.pointer (some ⟨mb,0,none⟩))/\w'.cell? ⟨eb,2,none⟩=some (.slice sa ns sc)/\w'.cell? ⟨eb,3,none⟩=some (.map (some im))/\w'.cell? ⟨eb,4,none⟩=some (.map (some km))/\w'.cell? ⟨eb,5,none⟩=some (.int .i64 dn))
  (first | assumption | exact ⟨e1,e2,e3,e4,e5⟩ | exact ⟨bA.out.2.1,bA.out.2.2.1,bA.out.2.2.2.1,bA.out.2.2.2.2.1,bA.out.2.2.2.2.2⟩ | simp[go_sem, *])
  (first
   | (go_at_call 137;refine iT.out.mono ?_;rintro e w2 ⟨u2,P',rfl,hm2,hp2,hf2⟩;have bh:=JY (HE.out.mac hm2 hp2 hf2);have z8:=JY (pN.out.far hf2 (AC _) (fun g hg hq=>hM g hg (by rcases hq with hq | hq;exact .inr (.inr (.inr (.inl hq)));exact .inr (.inr (.inr (.inr hq))))));have bp:=JY hf2;have bA:=JY bh.out.Lu.cells;clear hm2 hp2 hf2))
 all_goals
  have g5:=J2 bh.out.Lu 5;have f5:=bA.out.2.2.2.2.2;have Ei:Qq eb (.pointer (some ⟨sb,0,none⟩)) (.pointer (some ⟨mb,0,none⟩)) (.slice sa ns sc) (.map (some im)) (.map (some km)) (.int .i64 ((dn:Int)+1)) (w2.setCell ⟨eb,5,none⟩ (.int .i64 ((dn:Int)+1))):=AI _ eb 5 _ _ _ bh.out.Lu;have yJ:Kj w2.heap.size (fun q=>q=eb) w2 (w2.setCell ⟨eb,5,none⟩ (.int .i64 ((dn:Int)+1))):=(Kj.refl w2.heap.size (fun q=>q=eb) w2).setCell (p:=⟨eb,5,none⟩) (.inr rfl) _;have bW:=JY (bh.out.own (dn':=dn+1) (by rw[show ((dn+1:Nat):Int)=(dn:Int)+1 by omega];exact Ei) yJ);have pO:=JY (z8.out.far yJ (AC _) (fun g hg hq=>hM g hg (.inr (.inl hq))));have bP:Hid (Kj w.heap.size (K9 C eb sb pm fm) w (w2.setCell ⟨eb,5,none⟩ (.int .i64 ((dn:Int)+1)))):=JY ((((Kj.refl w.heap.size (K9 C eb sb pm fm) w).drew).next bp.out (AC _) (fun q _ hq=>by rcases hq with hq | hq;exact .inr (.inr (.inr (.inl hq)));exact .inr (.inr (.inr (.inr hq))))).next yJ (by have:=bp.out.size;exact this) (fun q _ hq => .inr (.inl hq)));clear Ei yJ;have hd1:dn<=1000:=by omega
  go_wp2_with fail
  go_end0
  exact ⟨_,P',rfl,bW.out,pO.out,bP.out⟩
theorem ajL(eb sb mb pm fm db n a b c:Nat) (h:S) (d:Dx) (P:VM Value) (D:VM Hv.PD) (G:VM S) (sv0 IB IE:Value) (d0:Nat) (sa:Option Addr) (ns sc im km:Nat) (pl:Hv.Plan) (bX:P.length<=1000) (w:World) (he:LJ C N eb sb mb pm fm db n a b c h d P D G sv0 IB IE d0 w) (hpl:LC M pl (.slice sa ns sc) im km w) (hM:Nz C eb sb pm fm M) :
 Calls Tryz.prog 43 #[.pointer (some ⟨eb,0,none⟩), .agg #[.slice sa ns sc, .map (some im), .map (some km)]] w fun e w'=>∃ u P',e = .returned u/\LJ C N eb sb mb pm fm db n a b c h d P' (Hv.KG D pl.Le) G (.slice sa ns sc) (.map (some im)) (.map (some km)) 0 w'/\LC M pl (.slice sa ns sc) im km w'/\Kj w.heap.size (K9 C eb sb pm fm) w w':=by
 obtain ⟨o1,o2,o3,o4,o5⟩:=he.off;obtain ⟨a1,a2,a3,a4,a5,a6,a7⟩:=he.apart;have hel:=blt he.Lu;obtain ⟨y0,y1,y2,y3,y4,y5⟩:=he.Lu.cells;have z2:=J2 he.Lu 2;have z3:=J2 he.Lu 3;have z4:=J2 he.Lu 4;have z5:=J2 he.Lu 5;have hne : ¬ w.heap.size=eb:=by omega
 have hR:=AI _ eb 5 _ _ (.int .i64 0) (AI _ eb 4 _ _ (.map (some km)) (AI _ eb 3 _ _ (.map (some im)) (AI _ eb 2 _ _ (.slice sa ns sc) he.Lu)));have mH:Kj w.heap.size (fun q=>q=eb) w ((((w.setCell ⟨eb,2,none⟩ (.slice sa ns sc)).setCell ⟨eb,3,none⟩ (.map (some im))).setCell ⟨eb,4,none⟩ (.map (some km))).setCell ⟨eb,5,none⟩ (.int .i64 0)):=((((Kj.refl w.heap.size (fun q=>q=eb) w).setCell (p:=⟨eb,2,none⟩) (.inr rfl) _).setCell (p:=⟨eb,3,none⟩) (.inr rfl) _).setCell (p:=⟨eb,4,none⟩) (.inr rfl) _).setCell (p:=⟨eb,5,none⟩) (.inr rfl) _;have gj:=he.own (dn':=0) hR mH;have mM:=hpl.far mH (AC _) (fun g hg hq=>hM g hg (.inr (.inl hq)));have hsz:((((w.setCell ⟨eb,2,none⟩ (.slice sa ns sc)).setCell ⟨eb,3,none⟩ (.map (some im))).setCell ⟨eb,4,none⟩ (.map (some km))).setCell ⟨eb,5,none⟩ (.int .i64 0)).heap.size=w.heap.size:=by simp
 have c0:=JZ (AF w (.cells #[.slice sa ns sc, .map (some im), .map (some km)] 100)) 0;go_enter Tryz.func43,Tryz.ntmps43;go_wp2_with fail;obtain ⟨v,hv⟩:∃ v,((((w.setCell ⟨eb,2,none⟩ (.slice sa ns sc)).setCell ⟨eb,3,none⟩ (.map (some im))).setCell ⟨eb,4,none⟩ (.map (some km))).setCell ⟨eb,5,none⟩ (.int .i64 0))=v:=⟨_,rfl⟩
 rw[hv] at gj mM mH hsz |-;rw[<- hsz];have hsz':v.heap.size<=w.heap.size:=by omega
 have rG:w.heap.size<=v.heap.size:=by omega
 clear hv hR c0 y0 y1 y2 y3 y4 y5 z2 z3 z4 z5 hne hsz;have hrow:=AF v (.cells #[.slice sa ns sc, .map (some im), .map (some km)] 100);have hb0:=(AD v.heap.size v).alloc (AC _) (.cells #[.slice sa ns sc, .map (some im), .map (some km)] 100);have aH:=JY (gj.below hb0);have bB:=JY (mM.below hb0);have aO:Hid (Kj w.heap.size (K9 C eb sb pm fm) w (v.alloc (.cells #[.slice sa ns sc, .map (some im), .map (some km)] 100))):=JY ((((Kj.refl w.heap.size (K9 C eb sb pm fm) w).next mH (AC _) (fun q _ hq => .inr (.inl hq)))).below hb0 rG);obtain ⟨u,hu⟩:∃ u,v.alloc (.cells #[.slice sa ns sc, .map (some im), .map (some km)] 100)=u:=⟨_,rfl⟩
 rw[hu] at hrow aH bB aO |-;obtain ⟨pb,hpb⟩:∃ pb,v.heap.size=pb:=⟨_,rfl⟩
 rw[hpb] at hrow |-;have c0:=(JZ hrow 0).trans (show _=some (.slice sa ns sc) from rfl);have c1:=(JZ hrow 1).trans (show _=some (.map (some im)) from rfl);have c2:=(JZ hrow 2).trans (show _=some (.map (some km)) from rfl);obtain ⟨e0,e1,e2,e3,e4,e5⟩:=aH.out.Lu.cells;clear hu hpb hb0 gj mM mH he hpl hsz' rG;have aF:=(AD u.heap.size u).drew;have bh:=JY (aH.out.below aF);have bQ:=JY (bB.out.below aF);have bp:=JY (aO.out.below aF aO.out.size);have HST:Hid (Calls Tryz.prog 85 #[.agg #[.slice sa ns sc, .map (some im), .map (some km)], .pointer (some ⟨mb,0,none⟩)] u.drew fun e w'=>∃ x P',e = .returned x/\LJ C N eb sb mb pm fm db n a b c h d P' (Hv.KG D pl.Le) G (.slice sa ns sc) (.map (some im)) (.map (some km)) 0 w'/\LC M pl (.slice sa ns sc) im km w'/\Kj w.heap.size (K9 C eb sb pm fm) w w'/\w'.cell? ⟨pb,0,none⟩=some (.slice sa ns sc)/\w'.cell? ⟨pb,1,none⟩=some (.map (some im))/\w'.cell? ⟨pb,2,none⟩=some (.map (some km))/\w'.cell? ⟨eb,1,none⟩=some (.pointer (some ⟨mb,0,none⟩))):=by
  have eF : ¬ pb=pm:=fun q=>bh.out.La.packs.MB _ _ _ (by rw[<- q];exact hrow)
  obtain ⟨K,k1,k2⟩:=bQ.out.Le;refine JY ((ahg sa ns sc im km mb pm fm P (Hv.Kk G) K D N bX k2.als u.drew k1 bh.out.La bh.out.pk (fun q=>hM _ bQ.out.ge.2 (.inr (.inr (.inr (.inl q)))))).mono ?_);rintro e w2 ⟨x,P',rfl,m1,m2,m3⟩;rw[ae0 k2] at m2;have hr2:=(m3.block pb (by have:=blt hrow;exact this) eF).trans hrow;have E9:=m3.mono (C':=fun q=>q=pm\/q=fm) (AC _) (fun q _ hq => .inl hq);exact ⟨x,P',rfl,bh.out.mac m1 m2 E9,bQ.out.far m3 (AC _) (fun g hg hq=>hM g hg (.inr (.inr (.inr (.inl hq))))),bp.out.next m3 bp.out.size (fun q _ hq => .inr (.inr (.inr (.inl hq)))),(JZ hr2 0).trans rfl,(JZ hr2 1).trans rfl,(JZ hr2 2).trans rfl,(bh.out.mac m1 m2 E9).Lu.cells.2.1⟩
 clear hrow aF e0 e2 e3 e4 e5 aH bB aO bh bQ bp
 go_region_held3 (fun w'=>w'.cell? ⟨pb,0,none⟩=some (.slice sa ns sc)/\w'.cell? ⟨pb,1,none⟩=some (.map (some im))/\w'.cell? ⟨pb,2,none⟩=some (.map (some km))/\w'.cell? ⟨eb,1,none⟩=some (.pointer (some ⟨mb,0,none⟩)) )
  (first | assumption | exact ⟨c0,c1,c2,e1⟩ | exact q4 | simp[go_sem, *])
  (first
   | (go_at_call 85;refine HST.out.mono ?_;rintro e w2 ⟨x,P',rfl,q1,q2,q3,q4⟩;have Q1:=JY q1;have Q2:=JY q2;have Q3:=JY q3;clear q1 q2 q3))
 all_goals
  clear q4;go_wp2_with fail
  go_end0
  exact ⟨_,P',rfl,Q1.out,Q2.out,Q3.out⟩
end
section
open Hv (S VM)
namespace Hv
def QV (ts:List S) (fs:List (S × S)) (xs:List S):List (S × S):=ts.map (fun t=>(KV,t))++(fs.map (fun f=>(Nf++f.1,f.2))++xs.map fun x=>(Ng,x))
def OQ (ps:List (S × S)):S:=ps.flatMap fun p=>Pb p.1 p.2
theorem acY(ts:List S) (fs:List (S × S)) (xs:List S):NU ts++Ni fs++NZ xs=OQ (QV ts fs xs):=by
 simp[NU,Ni,NZ,OQ,QV,List.flatMap_append,List.flatMap_map]
theorem aeC(ts:List S) (fs:List (S × S)) (xs:List S):(QV ts fs xs).length=ts.length+fs.length+xs.length:=by
 simp[QV];omega
def LV (p:S × S):S:=p.1++(32::Lib.itoa (p.2.length:Int))
theorem ahm(p:S × S) (ps:List (S × S)):OQ (p::ps)=LV p++10::(p.2++OQ ps):=by
 simp[OQ,Pb,LV]
theorem XW:∀ (u v:S),(∀ c∈u,c≠10)->Lib.index (u++10::v) [10]=u.length
 | [],v,_=>by
   unfold Lib.index;simp[List.isPrefixOf]
 | c::u,v,h=>by
   have hc:c≠10:=h c (by simp);have ih:=XW u v (fun x hx=>h x (by simp[hx]));rw[List.cons_append];unfold Lib.index;have hp:([10]:List UInt8).isPrefixOf (c::(u++10::v))=false:=by
    first
     | (simp[List.isPrefixOf];done)
     | (simp[List.isPrefixOf];exact fun e=>hc e.symm)
   rw[Bm (by rw[hp];decide),ih];have hne:((u.length:Int) == -1)=false:=by simp only[beq_eq_false_iff_ne,ne_eq];omega
   rw[hne];simp
theorem aib(u v:S) (h:∀ c∈u,c≠10):Lib.cut (u++10::v) [10]=(u,v,true):=by
 unfold Lib.cut;rw[XW u v h,By (by omega)];have e:((u.length:Int)).toNat=u.length:=by omega
 rw[e,List.take_left];have:(u++10::v).drop (u.length+([10]:List UInt8).length)=v:=by
  rw[show u.length+([10]:List UInt8).length=u.length+1 by rfl,List.drop_append];simp
 rw[this]
def Plain (x:S):Prop:=∀ c∈x,c≠32/\c≠10
theorem acB(w:S) (n:Nat) (hw:∀ c∈w,c≠32):sp 32 (w++(32::Lib.itoa (n:Int)))=[w,Lib.itoa (n:Int)]:=by
 rw[QY 32 w _ hw,SA 32 _ (fun c hc=>(Ow n c hc).1)]
theorem aiG(x:S) (n:Nat) (hx:∀ c∈x,c≠32):sp 32 ((Nf++x)++(32::Lib.itoa (n:Int)))=[[102,105,108,101],x,Lib.itoa (n:Int)]:=by
 have e:(Nf++x)++(32::Lib.itoa (n:Int))=[102,105,108,101]++32::(x++(32::Lib.itoa (n:Int))):=by simp[Nf]
 rw[e,QY 32 _ _ (by decide),QY 32 x _ hx,SA 32 _ (fun c hc=>(Ow n c hc).1)]
theorem X8{p:S × S} (h:∀ c∈p.1,c≠10):∀ c∈LV p,c≠10:=fun c hc=>by
 unfold LV at hc;rcases List.mem_append.1 hc with hc | hc
 · exact h c hc
 · rcases List.mem_cons.1 hc with rfl | hc
   · decide
   · exact (Ow _ c hc).2.1
end Hv
open Go.RowKit
variable {ts xs:List S}{fs:List (S × S)}
def rty:Fin 3->TypeId
 | 0=>9 | 1=>117 | 2=>9
def rsz:Fin 3->Nat
 | 0=>1 | 1=>2 | 2=>1
def Oa (ts:List S) (fs:List (S × S)) (xs:List S):Fin 3->Nat × List Value
 | 0=>(ts.length,ts.map Kl) | 1=>(fs.length,fs.flatMap Lj) | 2=>(xs.length,xs.map Kl)
def abg (sl:Fin 3->Value) (i:Fin 3) (v:Value):Fin 3->Value:=fun j=>if j=i then v else sl j
def RU (sl:Fin 3->Value):Array Value := #[sl 0,sl 1,sl 2]
structure SH (rb:Nat) (ts:List S) (fs:List (S × S)) (xs:List S) (sl:Fin 3->Value) (w:World):Prop where
 blk:w.heap[rb]? = some (.cells (RU sl) 109 (0,0))
 own:∀ i,w.ownsRow (rb+1) (rty i) (rsz i) (sl i) (Oa ts fs xs i).1 (Oa ts fs xs i).2
 apart:∀ i j,i≠j->∀ g,(sl i).ownBlock=some g->(sl j).ownBlock≠some g
theorem SH.lt{rb:Nat}    {sl:Fin 3->Value}  (h:SH rb ts fs xs sl w):rb<w.heap.size:=(Array.getElem?_eq_some_iff.1 h.blk).1
theorem SH.below{rb:Nat}    {sl:Fin 3->Value}  (h:SH rb ts fs xs sl w) (hb:Below w.heap.size w w'):SH rb ts fs xs sl w' :=
 ⟨(hb.block _ h.lt).trans h.blk,fun i=>Ky (h.own i) hb,h.apart⟩
theorem SH.drew{rb:Nat}    {sl:Fin 3->Value}  (h:SH rb ts fs xs sl w):SH rb ts fs xs sl w.drew:=⟨h.blk,h.own,h.apart⟩
theorem SH.alloc{rb:Nat}    {sl:Fin 3->Value}  (h:SH rb ts fs xs sl w) (o:Obj):SH rb ts fs xs sl (w.alloc o):=h.below ((AD _ w).alloc (AC _) o)
theorem SH.kept{rb:Nat}    {sl:Fin 3->Value}  (h:SH rb ts fs xs sl w) (i:Fin 3) (hg:w.grownBy w' (sl i).ownBlock):w'.heap[rb]? = some (.cells (RU sl) 109 (0,0)):=by
 refine (hg.block rb h.lt fun e => ?_).trans h.blk;have:=((h.own i).lt rb e.symm).1;omega
theorem aeH(sl:Fin 3->Value) (i:Fin 3) (v:Value):(RU sl).setIfInBounds i.val v=RU (abg sl i v):=by
 match i with
 | 0=>rfl
 | 1=>rfl
 | 2=>rfl
theorem SH.put{rb:Nat} {ts':List S} {fs':List (S × S)} {xs':List S} {sl:Fin 3->Value}  (h:SH rb ts fs xs sl w) (i:Fin 3) {v':Value} (hg:w.grownBy w' (sl i).ownBlock)
 (hown:w'.ownsRow (rb+1) (rty i) (rsz i) v' (Oa ts' fs' xs' i).1 (Oa ts' fs' xs' i).2) (hblk:v'.ownBlock=(sl i).ownBlock\/v'.ownBlock=some w.heap.size) (hst:∀ j,j≠i->Oa ts' fs' xs' j=Oa ts fs xs j) :
 SH rb ts' fs' xs' (abg sl i v') (w'.setCell ⟨rb,i.val,none⟩ v'):=by
 refine ⟨?_,fun j => ?_,fun j k hjk g hj hk => ?_⟩
 · rw[<- aeH];exact AI _ rb i.val _ _ v' (h.kept i hg)
 · refine ownsRow_setCell_below ?_ (by simp) _;by_cases e:j=i
   · subst e;simp only[abg,By];exact hown
   · simp only[abg,Bm e];rw[hst j e];refine (h.own j).kept hg ?_;cases hj:(sl j).ownBlock with
     | none=>exact .inl rfl
     | some g=>exact .inr fun e2=>h.apart j i e g hj e2.symm
 · have new:∀ m:Fin 3,m≠i->(sl m).ownBlock=some g->v'.ownBlock≠some g:=by
    intro m hm e1 e2;rcases hblk with e3 | e3
    · exact h.apart m i hm g e1 (e3▸e2)
    · have:=((h.own m).lt g e1).2;rw[e3] at e2;cases e2;omega
   by_cases e:j=i
   · subst e;simp only[abg,By] at hj;simp only[abg,Bm (Ne.symm hjk)] at hk;exact new k (Ne.symm hjk) hk hj
   · simp only[abg,Bm e] at hj;by_cases e2:k=i
     · subst e2;simp only[abg,By] at hk;exact new j e hj hk
     · simp only[abg,Bm e2] at hk;exact h.apart j k hjk g hj hk
theorem SH.begin(w:World):SH w.heap.size [] [] [] (fun _ => .slice none 0 0) (w.alloc (.cells #[.slice none 0 0, .slice none 0 0, .slice none 0 0] 109)):=by
 refine ⟨AF w _,fun i => ?_,fun i j _ g hg=>by cases hg⟩
 match i with
 | 0=>exact Cf _ _ _ _
 | 1=>exact Cf _ _ _ _
 | 2=>exact Cf _ _ _ _
theorem ZI:(Tryz.prog.info? 9).map (fun i=>(i.zero,i.size,i.bytes))=some (some (.string ByteArray.empty),1,16):=by kernel_rfl
theorem ad8:(Tryz.prog.info? 117).map (fun i=>(i.zero,i.size,i.bytes))=some (some (.agg #[.string ByteArray.empty, .string ByteArray.empty]),2,32):=by kernel_rfl
theorem aeM(rb q c:Nat) (ts:List S) (fs:List (S × S)) (xs:List S) (sl:Fin 3->Value) (x:S) (hl:ts.length<=2000) (w:World) (h:SH rb ts fs xs sl w)
 (c0:w.cell? ⟨q,0,none⟩=some (.string ⟨Hv.KV.toArray⟩)) :
 Calls Tryz.prog 162 #[.pointer (some ⟨rb,0,none⟩), .slice (some ⟨q,0,none⟩) 1 c, .string ⟨x.toArray⟩] w fun e w'=>e = .returned (.bool true)/\∃ sl',SH rb (ts++[x]) fs xs sl' w'/\Below rb w w':=by
 obtain ⟨i0,hi,hz0,hz1,hz2⟩:=KJ ZI;have hlt:=h.lt;have H:=JY h;have k5:=(JZ h.blk 0).trans (show _=some (sl 0) from rfl);have f5:=J2 h.blk 0;have bI:w.ownsRow (rb+1) 9 1 (sl 0) ts.length (ts.map Kl):=h.own 0;obtain ⟨la,lc,hsl⟩:=J4 bI;have gY:=JY hsl;rw[hsl] at k5;obtain ⟨m,hm⟩:∃ m,ts.length=m:=⟨_,rfl⟩
 have HM:=JY hm;have OW:Hid (w.ownsRow (rb+1) 9 1 (.slice la m lc) m (ts.map Kl)):=JY (by rw[<- hm,<- hsl];exact bI);rw[hm] at k5 hl;clear h bI hsl hm;unfold Hv.KV at c0;go_enter Tryz.func162,Tryz.ntmps162;go_wp2_with (at_builtin;refine wpList_append_own_at _ rfl _ _ 31 rfl (rb+1) 9 i0 (.string ByteArray.empty) 1 16 Tryz.underlying31 hi hz0 hz1 hz2 rfl (by decide) (.slice la m lc) m (ts.map Kl) rfl (Ky OW.out ((AD w.heap.size w).alloc (AC _) _)) ⟨w.heap.size,0,none⟩ 1 1 [.string ⟨x.toArray⟩] rfl rfl (cell_one_new _ _ _) (fun y hy=>by simp at hy;subst hy;rfl) (by unfold maxLen;omega) (by omega) (by simp;omega) ?_;intro v8 w8 o8 g8 n8 b8;obtain ⟨gv,cv,rfl⟩:=Kt o8 (by omega);have cE:=SH.kept (H.out.alloc (.cells #[.string ⟨x.toArray⟩] 9)) 0 (by rw[gY.out,HM.out];exact g8);have q5:=(JZ cE 0).trans (show _=some (sl 0) from rfl);have g5:=J2 cE 0;rw[gY.out,HM.out] at q5;have O8:=JY o8;have G8:=JY g8;have B8:=JY b8;clear o8 g8 n8 b8 cE)
 go_ret;refine ⟨rfl,_,(H.out.alloc (.cells #[.string ⟨x.toArray⟩] 9)).put 0 (by rw[gY.out,HM.out];exact G8.out) (v' := .slice (some ⟨gv,0,none⟩) (m+1) cv) ?_ ?_ (fun j hj => ?_),?_⟩
 · show World.ownsRow _ (rb+1) 9 1 _ (ts++[x]).length ((ts++[x]).map Kl);have:=O8.out;rw[AS,HM.out,GB];exact this
 · rw[gY.out,HM.out];exact B8.out
 · match j with
   | 0=>first | exact absurd rfl hj | rfl
   | 1=>first | exact absurd rfl hj | rfl
   | 2=>first | exact absurd rfl hj | rfl
 · exact (((AD rb w).alloc (by omega) _).grown G8.out (by simp;omega) (fun k e=>by have:=(OW.out.lt k e).1;omega)).setCell (p:=⟨rb,0,none⟩) (AC _) _
theorem aeO(rb q c:Nat) (ts:List S) (fs:List (S × S)) (xs:List S) (sl:Fin 3->Value) (x:S) (hl:xs.length<=2000) (w:World) (h:SH rb ts fs xs sl w)
 (c0:w.cell? ⟨q,0,none⟩=some (.string ⟨Hv.Ng.toArray⟩)) :
 Calls Tryz.prog 162 #[.pointer (some ⟨rb,0,none⟩), .slice (some ⟨q,0,none⟩) 1 c, .string ⟨x.toArray⟩] w fun e w'=>e = .returned (.bool true)/\∃ sl',SH rb ts fs (xs++[x]) sl' w'/\Below rb w w':=by
 obtain ⟨i0,hi,hz0,hz1,hz2⟩:=KJ ZI;have hlt:=h.lt;have H:=JY h;have k5:=(JZ h.blk 2).trans (show _=some (sl 2) from rfl);have f5:=J2 h.blk 2;have bI:w.ownsRow (rb+1) 9 1 (sl 2) xs.length (xs.map Kl):=h.own 2;obtain ⟨la,lc,hsl⟩:=J4 bI;have gY:=JY hsl;rw[hsl] at k5;obtain ⟨m,hm⟩:∃ m,xs.length=m:=⟨_,rfl⟩
 have HM:=JY hm;have OW:Hid (w.ownsRow (rb+1) 9 1 (.slice la m lc) m (xs.map Kl)):=JY (by rw[<- hm,<- hsl];exact bI);rw[hm] at k5 hl;clear h bI hsl hm;unfold Hv.Ng at c0;go_enter Tryz.func162,Tryz.ntmps162;go_wp2_with (at_builtin;refine wpList_append_own_at _ rfl _ _ 31 rfl (rb+1) 9 i0 (.string ByteArray.empty) 1 16 Tryz.underlying31 hi hz0 hz1 hz2 rfl (by decide) (.slice la m lc) m (xs.map Kl) rfl (Ky OW.out ((AD w.heap.size w).alloc (AC _) _)) ⟨w.heap.size,0,none⟩ 1 1 [.string ⟨x.toArray⟩] rfl rfl (cell_one_new _ _ _) (fun y hy=>by simp at hy;subst hy;rfl) (by unfold maxLen;omega) (by omega) (by simp;omega) ?_;intro v8 w8 o8 g8 n8 b8;obtain ⟨gv,cv,rfl⟩:=Kt o8 (by omega);have cE:=SH.kept (H.out.alloc (.cells #[.string ⟨x.toArray⟩] 9)) 2 (by rw[gY.out,HM.out];exact g8);have q5:=(JZ cE 2).trans (show _=some (sl 2) from rfl);have g5:=J2 cE 2;rw[gY.out,HM.out] at q5;have O8:=JY o8;have G8:=JY g8;have B8:=JY b8;clear o8 g8 n8 b8 cE)
 go_ret;refine ⟨rfl,_,(H.out.alloc (.cells #[.string ⟨x.toArray⟩] 9)).put 2 (by rw[gY.out,HM.out];exact G8.out) (v' := .slice (some ⟨gv,0,none⟩) (m+1) cv) ?_ ?_ (fun j hj => ?_),?_⟩
 · show World.ownsRow _ (rb+1) 9 1 _ (xs++[x]).length ((xs++[x]).map Kl);have:=O8.out;rw[AS,HM.out,GB];exact this
 · rw[gY.out,HM.out];exact B8.out
 · match j with
   | 0=>first | exact absurd rfl hj | rfl
   | 1=>first | exact absurd rfl hj | rfl
   | 2=>first | exact absurd rfl hj | rfl
 · exact (((AD rb w).alloc (by omega) _).grown G8.out (by simp;omega) (fun k e=>by have:=(OW.out.lt k e).1;omega)).setCell (p:=⟨rb,2,none⟩) (AC _) _
theorem aeN(rb q c:Nat) (ts:List S) (fs:List (S × S)) (xs:List S) (sl:Fin 3->Value) (p x:S) (hl:fs.length<=2000) (w:World) (h:SH rb ts fs xs sl w)
 (c0:w.cell? ⟨q,0,none⟩=some (.string ⟨#[102,105,108,101]⟩)) (c1:w.cell? ⟨q,1,none⟩=some (.string ⟨p.toArray⟩)) :
 Calls Tryz.prog 162 #[.pointer (some ⟨rb,0,none⟩), .slice (some ⟨q,0,none⟩) 2 c, .string ⟨x.toArray⟩] w fun e w'=>e = .returned (.bool true)/\∃ sl',SH rb ts (fs++[(p,x)]) xs sl' w'/\Below rb w w':=by
 obtain ⟨i0,hi,hz0,hz1,hz2⟩:=KJ ad8;have hlt:=h.lt;have iZ:q<w.heap.size:=B5 w _ c0;have Jx : ¬ rb=w.heap.size:=by omega
 have yP : ¬ q=w.heap.size:=by omega
 have H:=JY h;have k5:=(JZ h.blk 1).trans (show _=some (sl 1) from rfl);have f5:=J2 h.blk 1;have bI:w.ownsRow (rb+1) 117 2 (sl 1) fs.length (fs.flatMap Lj):=h.own 1;obtain ⟨la,lc,hsl⟩:=J4 bI;have gY:=JY hsl;rw[hsl] at k5;obtain ⟨m,hm⟩:∃ m,fs.length=m:=⟨_,rfl⟩
 have HM:=JY hm;have OW:Hid (w.drew.ownsRow (rb+1) 117 2 (.slice la m lc) m (fs.flatMap Lj)):=JY (by rw[<- hm,<- hsl];exact bI);rw[hm] at k5 hl;clear h bI hsl hm;go_enter Tryz.func162,Tryz.ntmps162;go_wp2_with fail
 go_region_law (refine LW rfl _ _ 81 rfl (rb+1) 117 i0 _ 2 32 Tryz.underlying81 hi hz0 hz1 hz2 rfl (by decide) (.slice la m lc) m (fs.flatMap Lj) rfl (OW.out.alloc _) ⟨w.heap.size,0,none⟩ 1 1 [_,_] (by simp[Act.eval]) rfl (cell_two_new _ _ _ _) (fun y hy=>by simp at hy;rcases hy with rfl | rfl<;>rfl) (by unfold maxLen;omega) (by omega) (by simp;omega) ?_;intro v8 w8 o8 g8 n8 b8;obtain ⟨gv,cv,rfl⟩:=Kt o8 (by omega);have cE:=SH.kept (H.out.drew.alloc (.cells #[.string ⟨p.toArray⟩, .string ⟨x.toArray⟩] 117)) 1 (by rw[gY.out,HM.out];exact g8);have q5:=(JZ cE 1).trans (show _=some (sl 1) from rfl);have g5:=J2 cE 1;rw[gY.out,HM.out] at q5;have O8:=JY o8;have G8:=JY g8;have B8:=JY b8;clear o8 g8 n8 b8 cE)
 all_goals
  go_wp2_with fail;go_ret;refine ⟨rfl,_,(H.out.drew.alloc (.cells #[.string ⟨p.toArray⟩, .string ⟨x.toArray⟩] 117)).put 1 (by rw[gY.out,HM.out];exact G8.out) (v' := .slice (some ⟨gv,0,none⟩) (m+1) cv) ?_ ?_ (fun j hj => ?_),?_⟩
  · show World.ownsRow _ (rb+1) 117 2 _ (fs++[(p,x)]).length ((fs++[(p,x)]).flatMap Lj);have:=O8.out;rw[AS,HM.out,Do];exact this
  · rw[gY.out,HM.out];exact B8.out
  · match j with
    | 0=>first | exact absurd rfl hj | rfl
    | 1=>first | exact absurd rfl hj | rfl
    | 2=>first | exact absurd rfl hj | rfl
  · exact (((AD rb w).drew.alloc (by simp;omega) _).grown G8.out (by simp;omega) (fun k e=>by have:=(OW.out.lt k e).1;omega)).setCell (p:=⟨rb,1,none⟩) (AC _) _
end
end Go.Proofs.YtfhmaiicimdldaaGreatDoor
