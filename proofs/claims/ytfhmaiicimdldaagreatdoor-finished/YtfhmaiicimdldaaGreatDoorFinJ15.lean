import Derived.Test.YtfhmaiicimdldaaGreatDoorFinJ14
set_option maxHeartbeats 4000000
set_option maxRecDepth 100000
namespace Go.Proofs.YtfhmaiicimdldaaGreatDoor
variable {C N T:Nat->Prop}{w w':World}{v:Value}{B e:Nat}
section
open Go.RowKit
open Kw (St)
open Hv (S Dk VM)
theorem abd{d:Hv.PD}  (h:Tp N w d v):d.paths.length<=21:=by
 obtain ⟨p,_,_,_,_,_,hpk,_⟩:=h;have:=(KZ hpk.parse).2.2.1.2.2.2.1;simp only[Hv.PD.paths,DH];exact this
theorem Va(mb pm fm rm im:Nat) (P F R I:VM Value) (D DI:VM Hv.PD) (N NI:Nat->Prop) (hR:OG R) (Ed:R.length<=1000) (D7:I.length<=1000) (w:World) (hm:Kh mb pm fm P F w) (hw:MH rm im R I w) (hP:Ls N w D P) (hI:Ls NI w DI I) :
 Calls Tryz.prog 130 #[.pointer (some ⟨mb,0,none⟩), .agg #[.map (some rm), .map (some im)]] w fun e w'=>∃ v,e = .returned v/\w'.ownsRow w.heap.size 9 1 v (J3 (Kr D R DI)).length ((J3 (Kr D R DI)).map Kl)/\Below w.heap.size w w':=by
 have hmm := @run_makeMap Tryz.prog;have HM:=JY hm;have HW:=JY hw;have aD:=JY hP;have fX:=JY hI;have uy:=JY hR;have hb1:=(AD w.heap.size w).alloc (AC _) (.cells #[.map (some rm), .map (some im)] 148);have hr1:=AF w (.cells #[.map (some rm), .map (some im)] 148);have hs1:(w.alloc (.cells #[.map (some rm), .map (some im)] 148)).heap.size=w.heap.size+1:=by simp
 have hm2:=J6.made (w.alloc (.cells #[.map (some rm), .map (some im)] 148));have hb2:=hb1.alloc hb1.size (.map #[] 0);have hr2:=(AM (w.alloc (.cells #[.map (some rm), .map (some im)] 148)) (.map #[] 0) w.heap.size (by simp)).trans hr1;have hs2:((w.alloc (.cells #[.map (some rm), .map (some im)] 148)).alloc (.map #[] 0)).heap.size=w.heap.size+1+1:=by simp
 rw[hs1] at hm2;have wA:=hm2.alloc (.cells #[.map (some (w.heap.size+1))] 146);have hb3:=hb2.alloc hb2.size (.cells #[.map (some (w.heap.size+1))] 146);have hc3:=(JZ (AF ((w.alloc (.cells #[.map (some rm), .map (some im)] 148)).alloc (.map #[] 0)) (.cells #[.map (some (w.heap.size+1))] 146)) 0).trans (show _=some (.map (some (w.heap.size+1))) from rfl);rw[hs2] at hc3;have hr3:=(AM ((w.alloc (.cells #[.map (some rm), .map (some im)] 148)).alloc (.map #[] 0)) (.cells #[.map (some (w.heap.size+1))] 146) w.heap.size (by simp;omega)).trans hr2;have hs3:(((w.alloc (.cells #[.map (some rm), .map (some im)] 148)).alloc (.map #[] 0)).alloc (.cells #[.map (some (w.heap.size+1))] 146)).heap.size=w.heap.size+1+1+1:=by simp
 have c0:=(JZ hr3 0).trans (show _=some (.map (some rm)) from rfl);have rE:=HW.out.rem.below hb3;have av:=JY hb3;have lX:=JY wA;have zg:=JY hc3;have dv:=JY hr3;have hrl:=hw.rem.lt;have hil:=hw.ins.lt;have aY:=blt hm.blk;have hpl:=hm.packs.lt;clear hm hw hP hI hR hb1 hr1 hs1 hm2 hb2 hr2 hs2 wA hb3 hc3 hr3;go_enter Tryz.func130,Tryz.ntmps130;go_wp2_with (first
  | (at_range;refine Mc rfl _ 146 rfl 63 Tryz.underlying146 rE rfl ?_;intro w0 hrg0 hg0 hs0;have aT:=JY hrg0;have aC:=JY (av.out.grown hg0 av.out.size (fun q hq=>by cases hq));have aw:=JY (lX.out.kept (hg0.block _ lX.out.lt (by simp)));have CP:=JY ((Be (a:=⟨w.heap.size+1+1,0,none⟩) (hg0.block (w.heap.size+1+1) (by rw[hs3];omega) (by simp))).trans zg.out);have cS:=JY ((hg0.block w.heap.size (by rw[hs3];omega) (by simp)).trans dv.out)))
 rw[hs3] at aT hs0 |-
 go_frame
 clear hg0 hrg0 c0 rE hs3;go_loopw [15] (fun _ wr=>∃ (left:S->Bool) (cnt:Nat) (Q:VM Value),Hid (KO wr rm (w.heap.size+1+1+1) R left cnt)/\Hid (J6 wr (w.heap.size+1) Q)/\Hid (ChR D R left Q)/\Q.length+21*cnt<=21*R.length/\Hid (wr.cell? ⟨w.heap.size+1+1,0,none⟩=some (.map (some (w.heap.size+1))))/\Hid (wr.heap[w.heap.size]? = some (.cells #[.map (some rm), .map (some im)] 148 (0,0)))/\Hid (Below w.heap.size w wr)/\w.heap.size+1+1+1<wr.heap.size)
  (fun _ wr=>wr.rangeLeft rm (w.heap.size+1+1+1))
 case atStart=>exact ⟨_,_,[],aT,aw,JY ⟨fun k v h=>(by cases h),fun x=>⟨fun h=>(by cases h),fun ⟨k,h1,h2,_⟩=>(by rw[h1] at h2;cases h2)⟩⟩,by simp,CP,cS,aC,by omega⟩
 case round =>
  clear aT aw CP cS aC;obtain ⟨left,cnt,Q,HG,HQ,HS,hroom,HC,HR,HB,hsz⟩:=hrel;go_wp2_with (first
   | (at_next;refine MW rfl _ rfl (w.heap.size+1+1+1) left cnt rfl HG.out ?_ ?_))
  · intro hc0 hl0;have FO:=JY (HS.out.done HQ.out.1 hl0);have c1:=(JZ HR.out 1).trans (show _=some (.map (some im)) from rfl);have hi2:=HW.out.ins.below HB.out;go_wp2_with (first
     | (at_range;refine Mc rfl _ 97 rfl 169 IS hi2 rfl ?_;intro w1 hrg1 hg1 hs1;have aZ:=JY hrg1;have ag:=JY (HB.out.grown hg1 HB.out.size (fun q hq=>by cases hq));have cR:=JY (HQ.out.kept (hg1.block _ HQ.out.lt (by simp)));have cX:=JY ((Be (a:=⟨w.heap.size+1+1,0,none⟩) (hg1.block (w.heap.size+1+1) (by omega) (by simp))).trans HC.out)))
    go_frame
    clear hg1 hrg1 c1 hi2 HG;obtain ⟨B2,uX⟩:∃ B2,wr.heap.size=B2:=⟨_,rfl⟩
    rw[uX] at aZ hs1 hsz;have pV:=JY HQ.out.1;have Dp:=JY HS.out.uni;have Jh:Q.length<=21*R.length:=by omega
    clear HQ HS HC HR HB hroom hl0;rw[uX];clear uX;go_loopw [30] (fun _ wr2=>∃ (left:S->Bool) (cnt:Nat) (Q2:VM Value),Hid (KO wr2 im B2 I left cnt)/\Hid (J6 wr2 (w.heap.size+1) Q2)/\Hid (ChI D DI Q left Q2)/\Q2.length+42*cnt<=21*R.length+42*I.length/\Hid (wr2.cell? ⟨w.heap.size+1+1,0,none⟩=some (.map (some (w.heap.size+1))))/\Hid (Below w.heap.size w wr2)/\B2<wr2.heap.size)
     (fun _ wr2=>wr2.rangeLeft im B2)
    case atStart=>exact ⟨_,_,Q,aZ,cR,JY ⟨Dp.out,fun x=>⟨.inl,fun h=>h.resolve_right (fun ⟨k,d,h1,h2,_⟩=>by rw[fX.out.has_eq,Hv.J9,h1] at h2;cases h2)⟩⟩,by omega,cX,ag,by omega⟩
    case round =>
     clear aZ cR cX ag;obtain ⟨xH,cnt2,Q2,HG2,bR,bq,Cl,bA,ah,rG⟩:=hrel;go_wp2_with (first
      | (at_next;refine MW rfl _ rfl B2 xH cnt2 rfl HG2.out ?_ ?_))
     · intro hc2 hl2;have Ag:=JY ((bq.out.done fX.out.Mt bR.out.1 pV.out Dp.out hl2).trans (show _=Kr D R DI by rw[FO.out];rfl));have Ey:Q2.length<=1000000:=by omega
       have c3:=bA.out;go_wp2_with fail;refine (callsIn_wide.1 (Tryz.maps_Keys_187 (some (w.heap.size+1)) wr)).mono ?_;rintro e w8 ⟨rfl,rfl⟩;go_wp2_with fail;refine (callsIn_wide.1 (Tryz.slices_Sorted_keys_77_187 (w.heap.size+1) Q2.length (Hv.Ta Q2) Hv.hR wr bR.out.2 (by rw[Hv.NM];unfold maxLen;omega) (by rw[Hv.NM];omega))).mono ?_;rintro e w9 ⟨v,ss,rfl,hS,hrow, -,hb⟩;have hk:=Px bR.out.1 hS;have hl:ss.length=(J3 Q2).length:=by rw[hS.length_eq,OA]
       rw[hk,hl,Ag.out] at hrow;have pW:=JY hrow;have ny:=JY (ah.out.trans (((AD wr.heap.size wr).alloc (AC _) (.cells #[.map (some (w.heap.size+1))] 146)).trans (hb.mono (by simp)) |>.mono ah.out.size));have xj:=ah.out.size;clear hrow hb hk hl hS;go_wp2_with fail;go_ret;exact ⟨v,rfl,KL pW.out (by simp;omega),ny.out⟩
     · intro k v w4 cnt1 hk hlk hget hrg1 hlt hg1 am0 hen;obtain ⟨d,hd,BX⟩:=fX.out.P8 k v hget;have nA:=JY hd;have aZ:=JY hrg1;have aB:=JY (ah.out.grown hg1 ah.out.size (fun q hq=>by cases hq;omega));have jq:=JY (bR.out.kept (hg1.block _ bR.out.lt (by simp;omega)));have oP:=JY ((Be (a:=⟨w.heap.size+1+1,0,none⟩) (hg1.block (w.heap.size+1+1) (by omega) (by simp;omega))).trans bA.out);have hs4:w4.heap.size=wr.heap.size:=am0;obtain ⟨p,rfl,pr⟩:=BX;have kY:=JY (show Tp NI w d p.val from ⟨p,rfl,pr⟩);simp only[Pk.val,Pk.cells] at hen |-;clear hrg1 hg1 hget pr hd;have aG:=(AD w4.heap.size w4).alloc (AC _) (.cells p.cells 169);have i6:=AF w4 (.cells p.cells 169);have hs5:(w4.alloc (.cells p.cells 169)).heap.size=w4.heap.size+1:=by simp
       have dN:=JY (aZ.out.below aG);have bf:=JY (aB.out.trans (aG.mono (by omega)));have l8:=JY (jq.out.below aG);have kO:=JY ((aG.cell (p:=⟨w.heap.size+1+1,0,none⟩) (show w.heap.size+1+1<w4.heap.size by omega)).trans oP.out);have eA:=JY i6;simp only[Pk.cells] at dN bf l8 kO hs5;have fI:=HM.out.below bf.out;have m0:=(JZ fI.blk 0).trans (show _=some (.map (some pm)) from rfl);have EG:=fI.packs;obtain ⟨z,hz⟩:∃ z,ajX P k=z:=⟨_,rfl⟩
       have hz2:(Hv.get P k).getD (.agg #[.string ⟨#[]⟩, .string ⟨#[]⟩, .string ⟨#[]⟩, .slice none 0 0, .slice none 0 0, .slice none 0 0, .slice none 0 0, .slice none 0 0, .slice none 0 0, .int .i64 0])=z:=hz;have cL:cnt1+1<=cnt2:=hlt;have HA:=JY (afg (w.heap.size+1+1) (w.heap.size+1) Q2 (by omega) N D P k _ (aD.out.below bf.out) l8.out kO.out);rw[hz] at HA;clear fI hz;go_wp2_with (first
        | (at_lookup;refine Ol rfl _ _ 97 rfl 169 IS (KW _) EG rfl k hk rfl ?_;rw[hz2]))
       refine HA.out.mono ?_;rintro e w6 ⟨u6,rfl,sJ,cV⟩;have BA:=NH (KE D k) Q2;have qT:=Wq aD.out k;have iU:=JY sJ;have nI:=JY (dN.out.far cV (AC _) (by omega) (by omega));have bF:=JY (bf.out.trans (cV.toBelow (by omega) (fun q hq (e:q=w.heap.size+1)=>by omega)));have rQ:=JY ((Be (a:=⟨w.heap.size+1+1,0,none⟩) (cV.block (w.heap.size+1+1) (by omega) (by omega))).trans kO.out);have gJ:=(cV.block w4.heap.size (by omega) (by omega)).trans eA.out;have kI:=cV.size;have T:=Pk.at_ (show w6.heap[wr.heap.size]? = _ by rw[<- hs4];exact gJ);have kN:=JY (afh (w.heap.size+1+1) (w.heap.size+1) (KN Q2 (KE D k)) (by omega) NI d p.val w6 (kY.out.far ((Kj.of (C:=fun q=>q=w.heap.size+1) bf.out (AC _)).next cV (by omega) (fun _ _ q=>q)) (AC _) (fun g hg _ e=>by omega)) iU.out rQ.out);simp only[Pk.val,Pk.cells] at kN;clear sJ cV gJ EG m0 l8 kO dN eA;obtain ⟨t0,t1,t2,t3,t4,t5,t6,t7,t8,t9⟩:=T;go_wp2_with fail;refine kN.out.mono ?_;rintro e w7 ⟨u7,rfl,ot,mQ⟩;have Hm:=NH d.paths (KN Q2 (KE D k));have Js:=abd kY.out;have Af:=JY ot;have FR:=JY (bq.out.step bR.out.1 nA.out);have tG:=JY (nI.out.far mQ (AC _) (by omega) (by omega));have jQ:=JY (bF.out.trans (mQ.toBelow (by omega) (fun q hq (e:q=w.heap.size+1)=>by omega)));have xM:=JY ((Be (a:=⟨w.heap.size+1+1,0,none⟩) (mQ.block (w.heap.size+1+1) (by omega) (by omega))).trans rQ.out);have xh:=mQ.size;clear ot mQ t0 t1 t2 t3 t4 t5 t6 t7 t8 t9;go_wp2_with fail;go_roundw
       case rel=>exact ⟨_,cnt1,_,tG,Af,FR,by omega,xM,jQ,by omega⟩
       case measure=>rw[tG.out.left_eq,HG2.out.left_eq];exact hlt
  · intro k v w4 cnt1 hk hlk hget hrg1 hlt hg1 hs1 hen;obtain rfl:=uy.out k v hget;have sA:Hv.has R k=true:=by rw[Hv.J9,hget];rfl
    have aZ:=JY hrg1;have aB:=JY (HB.out.grown hg1 HB.out.size (fun q hq=>by cases hq;omega));have jq:=JY (HQ.out.kept (hg1.block _ HQ.out.lt (by simp)));have oP:=JY ((Be (a:=⟨w.heap.size+1+1,0,none⟩) (hg1.block (w.heap.size+1+1) (by omega) (by simp))).trans HC.out);have iV:=JY ((hg1.block w.heap.size (by omega) (by simp;omega)).trans HR.out);have hs4:w4.heap.size=wr.heap.size:=hs1;have jP:=HM.out.below aB.out;have m0:=(JZ jP.blk 0).trans (show _=some (.map (some pm)) from rfl);have gG:=jP.packs;obtain ⟨z,hz⟩:∃ z,ajX P k=z:=⟨_,rfl⟩
    have hz2:(Hv.get P k).getD (.agg #[.string ⟨#[]⟩, .string ⟨#[]⟩, .string ⟨#[]⟩, .slice none 0 0, .slice none 0 0, .slice none 0 0, .slice none 0 0, .slice none 0 0, .slice none 0 0, .int .i64 0])=z:=hz;have HA:=JY (afg (w.heap.size+1+1) (w.heap.size+1) Q (by omega) N D P k w4 (aD.out.below aB.out) jq.out oP.out);rw[hz] at HA;clear hrg1 hg1 hget jP hz;go_wp2_with (first
     | (at_lookup;refine Ol rfl _ _ 97 rfl 169 IS (KW _) gG rfl k hk rfl ?_;rw[hz2]))
    refine HA.out.mono ?_;rintro e w5 ⟨u5,rfl,fI,dL⟩;have BA:=NH (KE D k) Q;have qT:=Wq aD.out k;have l8:=JY fI;have uG:=JY (HS.out.step HQ.out.1 sA);have dN:=JY (aZ.out.far dL (AC _) (by omega) (by omega));have bf:=JY (aB.out.trans (dL.toBelow (by omega) (fun q hq (e:q=w.heap.size+1)=>by omega)));have kO:=JY ((Be (a:=⟨w.heap.size+1+1,0,none⟩) (dL.block (w.heap.size+1+1) (by omega) (by omega))).trans oP.out);have eA:=JY ((dL.block w.heap.size (by omega) (by omega)).trans iV.out);have hs5:=dL.size;clear fI dL;go_wp2_with fail;go_roundw
    case rel=>exact ⟨_,cnt1,_,dN,l8,uG,by omega,kO,eA,bf,by omega⟩
    case measure=>rw[dN.out.left_eq,HG.out.left_eq];exact hlt
end
section
open Kw (St ME)
open Hv (S VM)
namespace Hv
variable {k:S}{D:VM PD}
theorem has_put_same{α:Type} {E:VM α} (h:Ki E) (k:S) (v:α):has (put E k v) k=true:=by rw[J9,Ka h];rfl
theorem TH{α:Type} {E:VM α} (h:Ki E) (k n:S) (v:α) (q:has E n=true):has (put E k v) n=true:=(Xg h k v n).2 (.inl q)
theorem XT{α:Type} {E:VM α} (h:Ki E) {n:S} (q:has E n=true) (e:n≠k):has (del E k) n=true:=by rw[J9,Kz h e,<- J9];exact q
theorem aeo{α:Type} {E:VM α} :k∈J3 E ↔ has E k=true:=by
 constructor
 · exact mem_keys
 · intro h;obtain ⟨p,hp,e⟩:=List.any_eq_true.1 h;simp only[beq_iff_eq] at e;exact List.mem_map.2 ⟨p,hp,e⟩
theorem Yi(fr:VM PD->S->Bool):∀ (n:Nat) (D:VM PD),Ki D->D.length=n->∀ k,k∈Oy fr n D ↔ has D k=true
 | 0,D,_,hn,k=>by
   cases D with
   | nil=>simp[Oy,has]
   | cons p D=>simp at hn
 | n+1,D,hs,hn,k=>by
   have hp:=UO fr (D:=D) (by omega);have hd:=Uv hs hp;have ih:=Yi fr n (del D (pick fr D)) (hs.del _) (by omega) k;rw[Oy,List.mem_cons,ih];constructor
   · rintro (rfl | h)
     · exact hp
     · exact afp hs h
   · intro h;by_cases e:k=pick fr D
     · exact .inl e
     · exact .inr (XT hs h e)
theorem LH(fr:VM PD->S->Bool)  (hs:Ki D) (k:S):k∈order fr D ↔ has D k=true:=Yi fr _ D hs rfl k
theorem Yh(fr:VM PD->S->Bool):∀ (n:Nat) (D:VM PD),(Oy fr n D).length=n
 | 0,_=>rfl
 | n+1,D=>by simp[Oy,Yh fr n]
theorem Vy(fr:VM PD->S->Bool) (D:VM PD):(order fr D).length=D.length:=Yh fr _ D
def leaveD {β:Type} (D:VM PD) (R:VM β):VM PD:=D.filter fun p=>has R p.1
theorem Nn{β:Type}  (h:Ki D) (R:VM β):Ki (leaveD D R):=h.filter _
theorem Nl{β:Type}  (h:Ki D) (R:VM β) (k:S):get (leaveD D R) k=if has R k=true then get D k else none:=by
 split
 · next e =>
   cases q:get D k with
   | none =>
     rw[get_none] at q |-;exact fun p hp=>q p (List.mem_filter.1 hp).1
   | some d=>exact (get_some (Nn h R)).2 (List.mem_filter.2 ⟨(get_some h).1 q,e⟩)
 · next e =>
   rw[get_none];intro p hp ek;rw[ek.symm] at e;exact e (List.mem_filter.1 hp).2
noncomputable def KC (D:VM PD) (R:VM Value) (I:VM PD):Plan :=
 let Le:=LQ (Ko D R I) (J3 (Kr D R I))
 ⟨(order KS (leaveD D R)).map (fun x=>(1,x))++(order Km I).map (fun x=>(2,x))++(order Km I).map (fun x=>(3,x))++(J3 Le).map (fun x=>(4,x)),I,Le⟩
variable {pl:Plan}{k:S}{D I:VM PD}
def NA (pl:Plan):Mac->List Step->Prop
 | _,[]=>True
 | m,s::ss=>Tv pl m.1 s/\NA pl (Ke pl m s) ss
theorem NA.append:∀ {a:List Step} {m:Mac} {b:List Step},NA pl m a->NA pl (Kc pl m a) b->NA pl m (a++b)
 | [],_,_,_,h=>h
 | _::_,_,_,h,h'=>⟨h.1,NA.append h.2 h'⟩
theorem NA.at_:∀ {ss:List Step} {m:Mac} {n:Nat},NA pl m ss->(h:n<ss.length)->Tv pl (Kc pl m (ss.take n)).1 ss[n]
 | [],_,_,_,h=>by simp at h
 | s::ss,m,0,h,_=>h.1
 | s::ss,m,n+1,h,hn=>NA.at_ (ss:=ss) h.2 (by simpa using hn)
theorem RX(pl:Plan) (m:Mac) (a b:List Step):Kc pl m (a++b)=Kc pl (Kc pl m a) b:=by simp[Kc]
theorem L9(pl:Plan):∀ (ss:List Step) {m:Mac},Ki m.1->Ki m.2->Ki (Kc pl m ss).1/\Ki (Kc pl m ss).2
 | [],_,h1,h2=>⟨h1,h2⟩
 | s::ss,m,h1,h2=>by
   obtain ⟨a,b⟩:=LA pl h1 h2 s;exact L9 pl ss a b
theorem ade(pl:Plan) {m:Mac} (h1:Ki m.1) {s:Step}  (hk:has m.1 k=true) (hs:s.1=1->s.2≠k):has (Ke pl m s).1 k=true:=by
 unfold Ke;split
 · next e=>exact XT h1 hk (fun e'=>hs e e'.symm)
 · split
   · split
     · exact TH h1 _ _ _ hk
     · exact hk
   · split
     · exact hk
     · split
       · exact TH h1 _ _ _ hk
       · split
         · exact TH h1 _ _ _ hk
         · exact hk
theorem UZ(pl:Plan):∀ (ss:List Step) {m:Mac} {k:S},Ki m.1->Ki m.2->has m.1 k=true->(∀ s∈ss,s.1=1->s.2≠k)->has (Kc pl m ss).1 k=true
 | [],_,_,_,_,h,_=>h
 | s::ss,m,k,h1,h2,h,hs=>by
   obtain ⟨a,b⟩:=LA pl h1 h2 s;exact UZ pl ss a b (ade pl h1 h (hs s (by simp))) (fun s' q=>hs s' (by simp[q]))
theorem Yw(pl:Plan):∀ (l:List S) {m:Mac},Ki m.1->Ki m.2->(∀ x∈l,has pl.ins x=true)->NA pl m (l.map fun x=>(2,x))/\∀ x∈l,has (Kc pl m (l.map fun x=>(2,x))).1 x=true
 | [],_,_,_,_=>⟨trivial,fun x h=>by cases h⟩
 | x::l,m,h1,h2,hl=>by
   obtain ⟨a,b⟩:=LA pl h1 h2 (2,x);obtain ⟨i1,i2⟩:=Yw pl l a b (fun y hy=>hl y (by simp[hy]));have hx:has (Ke pl m (2,x)).1 x=true:=by
    have:=hl x (by simp);rw[J9] at this;obtain ⟨d,hd⟩:=Option.isSome_iff_exists.1 this;simp only[Ke];rw[Bm (by decide),By trivial,hd];exact has_put_same h1 _ _
   refine ⟨⟨.inr (.inl ⟨rfl,hl x (by simp)⟩),i1⟩,fun y hy => ?_⟩;rcases List.mem_cons.1 hy with rfl | hy
   · exact UZ pl (l.map fun x=>(2,x)) a b hx (fun s hs e=>by obtain ⟨z,_,rfl⟩:=List.mem_map.1 hs;cases e)
   · exact i2 y hy
theorem Yv(pl:Plan) (c:Int) (hc:c=3\/c=4):∀ (l:List S) {m:Mac},Ki m.1->Ki m.2->(∀ x∈l,has m.1 x=true)->NA pl m (l.map fun x=>(c,x))
 | [],_,_,_,_=>trivial
 | x::l,m,h1,h2,hl=>by
   obtain ⟨a,b⟩:=LA pl h1 h2 (c,x);refine ⟨.inr (.inr ⟨hc,hl x (by simp)⟩),Yv pl c hc l a b (fun y hy=>ade pl h1 (hl y (by simp[hy])) (fun e => ?_))⟩;rcases hc with rfl | rfl<;>cases e
theorem ac5(pl:Plan):∀ (l:List S) (m:Mac),NA pl m (l.map fun x=>(1,x))
 | [],_=>trivial
 | _::l,_=>⟨.inl rfl,ac5 pl l _⟩
theorem aam(hD:Ki D) (R:VM Value)  (hI:Ki I) (k:S):has (Ko D R I) k=true ↔ has I k=true\/(has D k=true/\has R k=false):=by
 unfold Ko;rw[J9,Nv I _ (Nu R D hD) hI,Pn R D hD,J9 I,J9 D];obtain ⟨r,hr⟩:∃ r,has R k=r:=⟨_,rfl⟩
 rw[hr];cases get I k<;>cases get D k<;>cases r<;>simp
theorem aas(hD:Ki D) (ch:List S)  (h:has (LQ D ch) k=true):has D k=true:=by
 rw[J9,VR hD] at h;rw[J9];cases q:get D k with
 | none=>rw[q] at h;cases h
 | some d=>rfl
theorem acQ{G:VM S} {R:VM Value}  (hD:Ki D) (hG:Ki G) (hI:Ki I):NA (KC D R I) (D,G) (KC D R I).steps:=by
 have hpi:(KC D R I).ins=I:=rfl;have e:(KC D R I).steps=(order KS (leaveD D R)).map (fun x=>(1,x))++(order Km I).map (fun x=>(2,x))++(order Km I).map (fun x=>(3,x))++(J3 (KC D R I).Le).map (fun x=>(4,x)):=rfl;have ew:(KC D R I).Le=LQ (Ko D R I) (J3 (Kr D R I)):=rfl;rw[e];obtain ⟨pl,hpl⟩:∃ pl,KC D R I=pl:=⟨_,rfl⟩
 rw[hpl] at hpi ew |-;clear e hpl;obtain ⟨a1,a2⟩:=L9 pl ((order KS (leaveD D R)).map fun x=>(1,x)) (m:=(D,G)) hD hG;obtain ⟨u1,u2⟩:=Yw pl (order Km I) a1 a2 (fun x hx=>by rw[hpi];exact (LH Km hI x).1 hx);obtain ⟨b1,b2⟩:=L9 pl ((order Km I).map fun x=>(2,x)) a1 a2;obtain ⟨c1,c2⟩:=L9 pl ((order Km I).map fun x=>(3,x)) b1 b2;have hT:Ki (Ko D R I):=Nw _ _ (Nu R D hD);refine ((NA.append (ac5 pl _ _) u1).append ?_).append ?_
 · rw[RX];exact Yv pl 3 (.inl rfl) _ b1 b2 u2
 · rw[RX,RX];refine Yv pl 4 (.inr rfl) _ c1 c2 fun x hx => ?_
   refine UZ pl _ b1 b2 ?_ (fun s hs e=>by obtain ⟨z,_,rfl⟩:=List.mem_map.1 hs;cases e);have hx1:has (Ko D R I) x=true:=aas hT _ (by rw[<- ew];exact mem_keys hx);rcases (aam hD R hI x).1 hx1 with h | ⟨h,hr⟩
   · exact u2 x ((LH Km hI x).2 h)
   · refine UZ pl _ a1 a2 ?_ (fun s hs e=>by obtain ⟨z,_,rfl⟩:=List.mem_map.1 hs;cases e);refine UZ pl _ hD hG h (fun s hs _ e' => ?_);obtain ⟨z,hz,rfl⟩:=List.mem_map.1 hs;have h2:=(LH KS (Nn hD R) z).1 hz;have e3:z=x:=e';rw[J9,Nl hD,e3,hr] at h2;simp at h2
end Hv
namespace Hv
variable {D:VM PD}{k:S}
def abA (d:PD):Prop:=Kw.parse (short KH) d.text=some (d.nm,d.ve,d.st)
def Named (D:VM PD):Prop:=∀ k d,get D k=some d->d.nm=k/\abA d
theorem Named.nil:Named []:=fun k d h=>by cases h
theorem Named.put(h:Named D) (hs:Ki D)  {d:PD} (hk:d.nm=k) (hd:abA d):Named (put D k d):=fun k' d' q=>by
 by_cases e:k'=k
 · subst e;rw[Ka hs] at q;cases q;exact ⟨hk,hd⟩
 · rw[J7 hs _ e] at q;exact h k' d' q
theorem Named.del(h:Named D) (hs:Ki D) (k:S):Named (del D k):=fun k' d' q=>by
 by_cases e:k'=k
 · subst e;rw[KQ] at q;cases q
 · rw[Kz hs e] at q;exact h k' d' q
theorem abA.name{d:PD} (h:abA d):Wd.isName d.nm=true:=(Lm h).1
theorem Named.len(h:Named D)  (q:has D k=true):k.length<=12:=by
 rw[J9] at q;obtain ⟨d,hd⟩:=Option.isSome_iff_exists.1 q;obtain ⟨a,b⟩:=h k d hd;rw[<- a];exact Ye b.name
def LG (D:VM PD):Nat:=(D.map fun p=>p.2.text.length).sum
theorem ajl(D:VM PD):SX D (fun _=>false)=LG D:=by unfold SX LG;simp
theorem YB(x:S × PD):∀ l:VM PD,LG (ins x l)=x.2.text.length+LG l
 | []=>by simp[ins,LG]
 | y::r=>by
   unfold ins;split
   · simp[LG]
   · have:=YB x r;simp only[LG,Cp,FG] at this |-;omega
theorem adj(D:VM PD) (k:S):LG (del D k)<=LG D:=by
 induction D with
 | nil=>simp[del,LG]
 | cons p D ih =>
   unfold del at ih |-;by_cases e:p.1=k
   · rw[List.filter_cons_of_neg (by simp[e])];simp only[LG,Cp,FG] at ih |-;omega
   · rw[List.filter_cons_of_pos (by simp[e])];simp only[LG,Cp,FG] at ih |-;omega
theorem adk(D:VM PD) (k:S) (d:PD):LG (put D k d)<=LG D+d.text.length:=by
 unfold put;rw[YB];have:=adj D k;show d.text.length+_<=_;omega
theorem U3(hs:Ki D)  {d:PD} (h:get D k=some d):LG (del D k)+d.text.length=LG D:=by
 induction D with
 | nil=>cases h
 | cons p D ih =>
   obtain ⟨g1,g2⟩:=List.pairwise_cons.1 hs;by_cases e:p.1=k
   · have hd:del D k=D:=by
      unfold del;rw[List.filter_eq_self];intro q hq;have : ¬ q.1=k:=fun e2=>by have:=g1 q hq;rw[e,e2,Lx] at this;cases this
      simp[this]
     have e2:del (p::D) k=D:=by
      have:del (p::D) k=del D k:=by unfold del;rw[List.filter_cons_of_neg (by simp[e])]
      rw[this,hd]
     have e3:p.2=d:=by
      unfold get at h;rw[List.find?_cons_of_pos (by simp[e])] at h;exact Cd h
     rw[e2,<- e3];simp only[LG,Cp,FG];omega
   · have e2:del (p::D) k=p::del D k:=by unfold del;rw[List.filter_cons_of_pos (by simp[e])]
     have h2:get D k=some d:=by
      unfold get at h |-
      rwa [List.find?_cons_of_neg (by simp[e])] at h
     have:=ih g2 h2;rw[e2];simp only[LG,Cp,FG] at this |-;omega
theorem afL(hs:Ki D)  {d:PD} (h:get D k=some d) (s:Int):LG (put D k (d.to s))=LG D:=by
 have:=U3 hs h;unfold put;rw[YB];show d.text.length+_=_;omega
def abG (pl:Plan) (s:Step):Nat:=if s.1=2 then (match get pl.ins s.2 with
 | some d=>d.text.length
 | none=>0) else 0
theorem ajk(pl:Plan) {m:Mac} (hs:Ki m.1) (s:Step):LG (Ke pl m s).1<=LG m.1+abG pl s:=by
 unfold Ke abG;split
 · have:=adj m.1 s.2;show LG (del m.1 s.2)<=_;omega
 · split
   · cases get pl.ins s.2 with
     | none=>exact Nat.le_add_right _ _
     | some d=>exact adk _ _ _
   · split
     · omega
     · next d hd =>
       split
       · show LG (put m.1 s.2 _)<=_;rw[afL hs hd];omega
       · split
         · show LG (put m.1 s.2 _)<=_;rw[afL hs hd];omega
         · omega
theorem afG(pl:Plan):∀ (ss:List Step) {m:Mac},Ki m.1->Ki m.2->LG (Kc pl m ss).1<=LG m.1+(ss.map (abG pl)).sum
 | [],_,_,_=>by simp[Kc]
 | s::ss,m,h1,h2=>by
   obtain ⟨a,b⟩:=LA pl h1 h2 s;have i:=afG pl ss a b;have j:=ajk pl h1 s;simp only[Kc,List.foldl_cons,Cp,FG] at i |-;omega
theorem Yj(fr:VM PD->S->Bool) (I:VM PD):∀ (n:Nat) (D:VM PD),Ki D->D.length=n->(∀ k d,get D k=some d->get I k=some d)->((Oy fr n D).map fun x=>match get I x with
 | some d=>d.text.length
 | none=>0).sum=LG D
 | 0,D,_,hn,_=>by
   cases D with
   | nil=>rfl
   | cons p D=>simp at hn
 | n+1,D,hs,hn,hI=>by
   have hp:=UO fr (D:=D) (by omega);have hd:=Uv hs hp;rw[J9] at hp;obtain ⟨d,hd2⟩:=Option.isSome_iff_exists.1 hp;have ih:=Yj fr I n (del D (pick fr D)) (hs.del _) (by omega) (fun k d q=>by
    by_cases e:k=pick fr D
    · subst e;rw[KQ] at q;cases q
    · rw[Kz hs e] at q;exact hI k d q)
   have:=U3 hs hd2;rw[Oy,Cp,FG,ih,hI _ _ hd2];simp only;omega
theorem ag3{R:VM Value} {I:VM PD} (hI:Ki I):((KC D R I).steps.map (abG (KC D R I))).sum=LG I:=by
 have e:(KC D R I).steps=(order KS (leaveD D R)).map (fun x=>(1,x))++(order Km I).map (fun x=>(2,x))++(order Km I).map (fun x=>(3,x))++(J3 (KC D R I).Le).map (fun x=>(4,x)):=rfl;have z:∀ (c:Int) (l:List S),c≠2->((l.map fun x=>((c,x):Step)).map (abG (KC D R I))).sum=0:=fun c l hc=>by
  induction l with
  | nil=>rfl
  | cons x l ih=>simp only[Cp,FG,ih];simp[abG,hc]
 have y:(((order Km I).map fun x=>((2,x):Step)).map (abG (KC D R I))).sum=LG I:=by
  rw[Hb,<- Yj Km I _ I hI rfl (fun _ _ h=>h)];rfl
 rw[e];simp only[GB,List.sum_append,z 1 _ (by decide),z 3 _ (by decide),z 4 _ (by decide),y];omega
end Hv
end
section
open Kw (St)
open Hv (S VM)
variable {D I:VM Hv.PD}
theorem Ur(D:VM Hv.PD) (h:∀ k,(KE D k).length<=21):∀ (R Q:VM Value),(LX D R Q).length<=Q.length+21*R.length
 | [],Q=>by simp[LX]
 | p::R,Q=>by
   have e:LX D (p::R) Q=LX D R (KN Q (KE D p.1)):=rfl;have h1:=Ur D h R (KN Q (KE D p.1));have h2:=NH (KE D p.1) Q;have h3:=h p.1;rw[e,CI];omega
theorem Uo(D:VM Hv.PD) (h:∀ k,(KE D k).length<=21):∀ (I:VM Hv.PD) (Q:VM Value),(∀ p∈I,p.2.paths.length<=21)->(MI D I Q).length<=Q.length+42*I.length
 | [],Q,_=>by simp[MI]
 | p::I,Q,hI=>by
   have e:MI D (p::I) Q=MI D I (KN (KN Q (KE D p.1)) p.2.paths):=rfl;have h1:=Uo D h I (KN (KN Q (KE D p.1)) p.2.paths) (fun q hq=>hI q (by simp[hq]));have h2:=NH (KE D p.1) Q;have h4:=NH p.2.paths (KN Q (KE D p.1));have h3:=h p.1;have h5:=hI p (by simp);rw[e,CI];omega
theorem TT{d:Hv.PD} (h:Hv.abA d):d.paths.length<=21/\∀ x∈d.paths,x.length<=24:=by
 refine ⟨by have:=(KZ h).2.2.1.2.2.2.1;simp only[Hv.PD.paths,DH];exact this,fun x hx => ?_⟩;obtain ⟨q,hq,rfl⟩:=List.mem_map.1 hx;exact Qy ((Lm h).2.2.files q hq).1
theorem Qh(h:Hv.Named D) (k:S):(KE D k).length<=21/\∀ x∈KE D k,x.length<=24:=by
 unfold KE;cases q:Hv.get D k with
 | none=>simp
 | some d=>exact TT (h k d q).2
theorem Uq(hD:Hv.Named D) (hI:Hv.Named I) (sI:Hv.Ki I) (R:VM Value):(J3 (Kr D R I)).length<=21*R.length+42*I.length:=by
 have h1:=Ur D (fun k=>(Qh hD k).1) R [];have h2:=Uo D (fun k=>(Qh hD k).1) I (LX D R []) (fun p hp=>(TT (hI p.1 p.2 ((Hv.get_some sI).2 hp)).2).1);simp only[J3,DH,Kr,List.length_nil] at *;omega
theorem S9(hD:Hv.Named D) (hI:Hv.Named I) (sI:Hv.Ki I) (R:VM Value):∀ x∈J3 (Kr D R I),x.length<=24:=fun x hx=>by
 have h1:=Hv.mem_keys hx;obtain ⟨a,b,c⟩:=OE D R [] IR (fun k v h=>by cases h);obtain ⟨_,_,c2⟩:=OD D I (LX D R []) a b;have h2:=(c2 x).1 h1;rcases h2 with h2 | ⟨p,hp,h2 | h2⟩
 · rcases (c x).1 h2 with h3 | ⟨p,_,h3⟩
   · cases h3
   · exact (Qh hD p.1).2 x h3
 · exact (Qh hD p.1).2 x h2
 · exact (TT (hI p.1 p.2 ((Hv.get_some sI).2 hp)).2).2 x h2
theorem Vq{α:Type}:∀ (G E:VM α),(Hv.merge E G).length<=E.length+G.length
 | [],E=>AC _
 | p::G,E=>by
   have e:Hv.merge E (p::G)=Hv.merge (Hv.put E p.1 p.2) G:=rfl;have h1:=Vq G (Hv.put E p.1 p.2);have h2:=Hv.Mr E p.1 p.2;rw[e,CI];omega
theorem YH(P R I:VM Value):(Q7 P R I).length<=P.length+I.length:=by
 have h1:=Vq I (Hv.cut P R);have h2:=Hv.aaJ R P;unfold Q7;omega
end
section
open Go.RowKit
open Kw (St)
open Hv (S Dk VM)
variable {E:VM Value}
def amD (w:World) (g:Nat):Prop:=∀ i cs fz,w.heap[g]? ≠ some (.cells cs (pty i) fz)
theorem Ls.foreign{D:VM Hv.PD}  (h:Ls N w D E) (hf:Kj B C w w') (hB:w.heap.size<=B) (hC:∀ g,C g->amD w g):Ls N w' D E:=by
 have hr:∀ d v,Tp N w d v->Tp N w' d v:=by
  rintro d v ⟨p,h1,h2,h3,h4,h5,h6,h7⟩;refine ⟨p,h1,h2,h3,h4,h5,h6.far hf hB (fun i g hg hc => ?_),h7⟩;obtain ⟨cs,q⟩:=N8 (h6.rows i) hg;exact hC g hc i cs _ q
 exact ⟨h.Mt,fun k v q=>(h.P8 k v q).imp fun _ a=>⟨a.1,hr _ _ a.2⟩,fun k v q=>(h.Vk k v q).imp fun _ a=>⟨a.1,hr _ _ a.2⟩⟩
theorem RO{b0 size n:Nat}  {xs:List Value} (h:w.ownsRow b0 e size v n xs) (hf:Kj B C w w') (hB:w.heap.size<=B) (hC:∀ g,C g->∀ cs fz,w.heap[g]? ≠ some (.cells cs e fz)):w'.ownsRow b0 e size v n xs :=
 hf.own h hB fun g hg hc=>by
  obtain ⟨cs,q⟩:=N8 h hg;exact hC g hc cs _ q
theorem OV.foreign{KD:VM (List S)} {K:VM Value} (h:OV N w KD K) (hf:Kj B C w w') (hB:w.heap.size<=B) (hC:∀ g,C g->∀ cs fz,w.heap[g]? ≠ some (.cells cs 9 fz)):OV N w' KD K :=
 h.kept fun k v g q hg=>by
  obtain ⟨xs,_,hr,_⟩:=h.P8 k v q;refine hf.block g (by have:=(hr.lt g hg).2;omega) fun hc => ?_
  obtain ⟨cs,q2⟩:=N8 hr hg;exact hC g hc cs _ q2
def Pf (w:World) (C:Nat->Prop) (T:Nat->Prop):Prop:=∀ g,C g->∃ cs t fz,w.heap[g]? = some (.cells cs t fz)/\T t
theorem Pf.ama(h:Pf w C T) (hT:∀ t,T t->∀ i,t≠pty i):∀ g,C g->amD w g:=fun g hg i cs fz q=>by
 obtain ⟨cs',t,Gj,q',ht⟩:=h g hg;rw[q] at q';cases q';exact hT _ ht i rfl
theorem Pf.no(h:Pf w C T)  (hT:∀ t,T t->t≠e):∀ g,C g->∀ cs fz,w.heap[g]? ≠ some (.cells cs e fz):=fun g hg cs fz q=>by
 obtain ⟨cs',t,Gj,q',ht⟩:=h g hg;rw[q] at q';cases q';exact hT _ ht rfl
theorem Pf.map{b:Nat}  (h:Pf w C T) (hm:J6 w b E) (hf:Kj B C w w') (hB:w.heap.size<=B):J6 w' b E :=
 hm.far hf hB fun hc=>by
  obtain ⟨cs,t,fz,q,_⟩:=h b hc;exact hm.MB cs t fz q
theorem aeG{t:Nat} (h1:t≠287) (h2:t≠9) (h3:t≠247) (h4:t≠329) (i:Fin 6):t≠pty i:=by
 match i with
 | 0=>exact h1
 | 1=>exact h2
 | 2=>exact h2
 | 3=>exact h3
 | 4=>exact h4
 | 5=>exact h4
end
section
open Go.RowKit
open Kw (St ME)
open Hv (S Dk VM)
theorem OB(w:World):(zeroValue 175).run Tryz.prog w = .ok (.agg #[.string ⟨#[]⟩]) w:=Tryz.zeroValue175 w
theorem QL(x:Array UInt8) (w:World):(Instr.field 175 (.agg #[.string ⟨x⟩]) 0).run Tryz.prog w = .ok (.string ⟨x⟩) w:=by kernel_rfl
theorem Nc(x y:List UInt8):(⟨x.toArray⟩:ByteArray)++⟨y.toArray⟩=⟨(x++y).toArray⟩:=by
 apply ByteArray.ext;simp
def Rk (mb pm fm:Nat) (P:VM Value) (G':VM S) (w:World) (e:Ending) (w':World):Prop:=∃ u,e = .returned u/\Kh mb pm fm P (Hv.Kk G') w'/\Kj w.heap.size (fun q=>q=fm) w w'
theorem Kh.file{mb pm fm:Nat} {P F F':VM Value}  (h:Kh mb pm fm P F w) (hm:J6 w' fm F') (ht:w.mapTurned w' fm):Kh mb pm fm P F' w':=by
 have hf:=Kv ht;exact ⟨(hf.block mb (blt h.blk) h.apart.2.1).trans h.blk,h.packs.kept (hf.block pm h.packs.lt h.apart.2.2),hm,h.apart⟩
theorem alD(mb pm fm:Nat) (P:VM Value) (G:VM S) (x y z:S) (hx:x.length<=maxLen)  (hG:G.length<maxLen) (wa:Option Addr) (wn wc:Nat) (w:World) (h:Kh mb pm fm P (Hv.Kk G) w) :
 Calls Tryz.prog 233 #[.pointer (some ⟨mb,0,none⟩), .agg #[.int .i64 1, .string ⟨x.toArray⟩, .string ⟨y.toArray⟩, .string ⟨z.toArray⟩], .slice wa wn wc] w (Rk mb pm fm P (Hv.put G x y) w):=by
 have hrow:=AF w (.cells #[.int .i64 1, .string ⟨x.toArray⟩, .string ⟨y.toArray⟩, .string ⟨z.toArray⟩] 329);have aw:=JY (h.below ((AD w.heap.size w).alloc (AC _) (.cells #[.int .i64 1, .string ⟨x.toArray⟩, .string ⟨y.toArray⟩, .string ⟨z.toArray⟩] 329)));have aV:=JY ((Kj.refl w.heap.size (fun q=>q=fm) w).alloc (AC _) (.cells #[.int .i64 1, .string ⟨x.toArray⟩, .string ⟨y.toArray⟩, .string ⟨z.toArray⟩] 329));have HG:=JY (Hv.KM h.files.1);have bw:(w.alloc (.cells #[.int .i64 1, .string ⟨x.toArray⟩, .string ⟨y.toArray⟩, .string ⟨z.toArray⟩] 329)).heap.size=w.heap.size+1:=by simp
 have aY:=blt h.blk;have hfl:=h.files.lt;have vL:=h.apart.2.1;clear h;go_enter Tryz.func233,Tryz.ntmps233;go_wp2_with fail;obtain ⟨u,hu⟩:∃ u,w.alloc (.cells #[.int .i64 1, .string ⟨x.toArray⟩, .string ⟨y.toArray⟩, .string ⟨z.toArray⟩] 329)=u:=⟨_,rfl⟩
 rw[hu] at hrow aw aV bw |-;clear hu;obtain ⟨w',hrun,cB,ht⟩:=aw.out.files.drew.store Tryz.underlying152 (by rw[Hv.Mh];exact hG) x hx (Hv.MO (y));simp only[Hv.MO] at hrun;have hf:=Kv ht;have eY:Hid (Kh mb pm fm P (Hv.Kk (Hv.put G x y)) w'):=JY (by rw[Hv.Ou HG.out];exact (show Kh mb pm fm P (Hv.Kk G) u.drew from ⟨aw.out.blk,aw.out.packs.drew,aw.out.files.drew,aw.out.apart⟩).file cB ht);have gT:Hid (Kj w.heap.size (fun q=>q=fm) w w'):=JY (aV.out.drew.next hf (by simp;omega) (fun _ _ q=>q));have m1:=(JZ aw.out.blk 1).trans (show _=some (.map (some fm)) from rfl);have jF:=(JZ eY.out.blk 1).trans (show _=some (.map (some fm)) from rfl);obtain ⟨B,hB⟩:∃ B,w.heap.size=B:=⟨_,rfl⟩
 have bl:w'.heap[B]? = u.heap[B]? := hf.block B (by simp;omega) (by omega);rw[hB] at hrow |-;have c1:=(JZ hrow 1).trans (show _=some (.string ⟨x.toArray⟩) from rfl);have e1:=(JZ (bl.trans hrow) 1).trans (show _=some (.string ⟨x.toArray⟩) from rfl);have c2:=(JZ hrow 2).trans (show _=some (.string ⟨y.toArray⟩) from rfl);have e2:=(JZ (bl.trans hrow) 2).trans (show _=some (.string ⟨y.toArray⟩) from rfl);clear cB ht hf hrow bl aw aV
 go_region_held3 (fun w'=>w'.cell? ⟨mb,1,none⟩=some (.map (some fm))/\w'.cell? ⟨B,1,none⟩=some (.string ⟨x.toArray⟩)/\w'.cell? ⟨B,2,none⟩=some (.string ⟨y.toArray⟩))
  (first | assumption | exact ⟨jF,e1,e2⟩ | exact ⟨m1,c1,c2⟩ | simp[go_sem, *])
  (fail)
 go_wp2_with fail
 go_end0
 exact ⟨_,rfl,eY.out,gT.out⟩
theorem ab1(mb pm fm:Nat) (P:VM Value) (G:VM S) (x y z:S) (hx:x.length<=maxLen)  (hG:G.length<maxLen) (hy:y.length<=1000000) (hq:Hv.get G x=none) (wa:Option Addr) (wn wc:Nat) (w:World) (h:Kh mb pm fm P (Hv.Kk G) w) :
 Calls Tryz.prog 233 #[.pointer (some ⟨mb,0,none⟩), .agg #[.int .i64 2, .string ⟨x.toArray⟩, .string ⟨y.toArray⟩, .string ⟨z.toArray⟩], .slice wa wn wc] w (Rk mb pm fm P (Hv.put G x ([]++y)) w):=by
 have hrow:=AF w (.cells #[.int .i64 2, .string ⟨x.toArray⟩, .string ⟨y.toArray⟩, .string ⟨z.toArray⟩] 329);have aw:=JY (h.below ((AD w.heap.size w).alloc (AC _) (.cells #[.int .i64 2, .string ⟨x.toArray⟩, .string ⟨y.toArray⟩, .string ⟨z.toArray⟩] 329)));have aV:=JY ((Kj.refl w.heap.size (fun q=>q=fm) w).alloc (AC _) (.cells #[.int .i64 2, .string ⟨x.toArray⟩, .string ⟨y.toArray⟩, .string ⟨z.toArray⟩] 329));have HG:=JY (Hv.KM h.files.1);have bw:(w.alloc (.cells #[.int .i64 2, .string ⟨x.toArray⟩, .string ⟨y.toArray⟩, .string ⟨z.toArray⟩] 329)).heap.size=w.heap.size+1:=by simp
 have aY:=blt h.blk;have hfl:=h.files.lt;have vL:=h.apart.2.1;clear h;go_enter Tryz.func233,Tryz.ntmps233;go_wp2_with fail;obtain ⟨u,hu⟩:∃ u,w.alloc (.cells #[.int .i64 2, .string ⟨x.toArray⟩, .string ⟨y.toArray⟩, .string ⟨z.toArray⟩] 329)=u:=⟨_,rfl⟩
 rw[hu] at hrow aw aV bw |-;clear hu;have hlk:=aw.out.files.drew.look Tryz.underlying152 (OB _) x hx;rw[Hv.MJ,hq] at hlk;simp only[Option.map_none,FS] at hlk;have Bl:=QL #[];have j1 : ¬ 9223372036854775807<y.length:=by omega
 obtain ⟨w',hrun,cB,ht⟩:=aw.out.files.drew.store Tryz.underlying152 (by rw[Hv.Mh];exact hG) x hx (Hv.MO ([]++y));simp only[Hv.MO] at hrun;rw[show ByteArray.mk (([]:S)++y).toArray=ByteArray.mk #[]++ByteArray.mk y.toArray from (Nc [] y).symm] at hrun;have hf:=Kv ht;have eY:Hid (Kh mb pm fm P (Hv.Kk (Hv.put G x ([]++y))) w'):=JY (by rw[Hv.Ou HG.out];exact (show Kh mb pm fm P (Hv.Kk G) u.drew from ⟨aw.out.blk,aw.out.packs.drew,aw.out.files.drew,aw.out.apart⟩).file cB ht);have gT:Hid (Kj w.heap.size (fun q=>q=fm) w w'):=JY (aV.out.drew.next hf (by simp;omega) (fun _ _ q=>q));have m1:=(JZ aw.out.blk 1).trans (show _=some (.map (some fm)) from rfl);have jF:=(JZ eY.out.blk 1).trans (show _=some (.map (some fm)) from rfl);obtain ⟨B,hB⟩:∃ B,w.heap.size=B:=⟨_,rfl⟩
 have bl:w'.heap[B]? = u.heap[B]? := hf.block B (by simp;omega) (by omega);rw[hB] at hrow |-;have c1:=(JZ hrow 1).trans (show _=some (.string ⟨x.toArray⟩) from rfl);have e1:=(JZ (bl.trans hrow) 1).trans (show _=some (.string ⟨x.toArray⟩) from rfl);have c2:=(JZ hrow 2).trans (show _=some (.string ⟨y.toArray⟩) from rfl);have e2:=(JZ (bl.trans hrow) 2).trans (show _=some (.string ⟨y.toArray⟩) from rfl);clear cB ht hf hrow bl aw aV
 go_region_held3 (fun w'=>w'.cell? ⟨mb,1,none⟩=some (.map (some fm))/\w'.cell? ⟨B,1,none⟩=some (.string ⟨x.toArray⟩)/\w'.cell? ⟨B,2,none⟩=some (.string ⟨y.toArray⟩))
  (first | assumption | exact ⟨jF,e1,e2⟩ | exact ⟨m1,c1,c2⟩ | simp[go_sem, *])
  (fail)
 go_wp2_with fail
 go_end0
 exact ⟨_,rfl,eY.out,gT.out⟩
theorem ab2(mb pm fm:Nat) (P:VM Value) (G:VM S) (x y z:S) (hx:x.length<=maxLen)  (hG:G.length<maxLen) (hy:y.length<=1000000) (t:S) (ht0:t.length<=100000000) (hq:Hv.get G x=some t) (wa:Option Addr) (wn wc:Nat) (w:World) (h:Kh mb pm fm P (Hv.Kk G) w) :
 Calls Tryz.prog 233 #[.pointer (some ⟨mb,0,none⟩), .agg #[.int .i64 2, .string ⟨x.toArray⟩, .string ⟨y.toArray⟩, .string ⟨z.toArray⟩], .slice wa wn wc] w (Rk mb pm fm P (Hv.put G x (t++y)) w):=by
 have hrow:=AF w (.cells #[.int .i64 2, .string ⟨x.toArray⟩, .string ⟨y.toArray⟩, .string ⟨z.toArray⟩] 329);have aw:=JY (h.below ((AD w.heap.size w).alloc (AC _) (.cells #[.int .i64 2, .string ⟨x.toArray⟩, .string ⟨y.toArray⟩, .string ⟨z.toArray⟩] 329)));have aV:=JY ((Kj.refl w.heap.size (fun q=>q=fm) w).alloc (AC _) (.cells #[.int .i64 2, .string ⟨x.toArray⟩, .string ⟨y.toArray⟩, .string ⟨z.toArray⟩] 329));have HG:=JY (Hv.KM h.files.1);have bw:(w.alloc (.cells #[.int .i64 2, .string ⟨x.toArray⟩, .string ⟨y.toArray⟩, .string ⟨z.toArray⟩] 329)).heap.size=w.heap.size+1:=by simp
 have aY:=blt h.blk;have hfl:=h.files.lt;have vL:=h.apart.2.1;clear h;go_enter Tryz.func233,Tryz.ntmps233;go_wp2_with fail;obtain ⟨u,hu⟩:∃ u,w.alloc (.cells #[.int .i64 2, .string ⟨x.toArray⟩, .string ⟨y.toArray⟩, .string ⟨z.toArray⟩] 329)=u:=⟨_,rfl⟩
 rw[hu] at hrow aw aV bw |-;clear hu;have hlk:=aw.out.files.drew.look Tryz.underlying152 (OB _) x hx;rw[Hv.MJ,hq] at hlk;simp only[Option.map_some,DE,Hv.MO] at hlk;have Bl:=QL t.toArray;have j1 : ¬ 9223372036854775807<t.length+y.length:=by omega
 obtain ⟨w',hrun,cB,ht⟩:=aw.out.files.drew.store Tryz.underlying152 (by rw[Hv.Mh];exact hG) x hx (Hv.MO (t++y));simp only[Hv.MO] at hrun;rw[<- Nc t y] at hrun;have hf:=Kv ht;have eY:Hid (Kh mb pm fm P (Hv.Kk (Hv.put G x (t++y))) w'):=JY (by rw[Hv.Ou HG.out];exact (show Kh mb pm fm P (Hv.Kk G) u.drew from ⟨aw.out.blk,aw.out.packs.drew,aw.out.files.drew,aw.out.apart⟩).file cB ht);have gT:Hid (Kj w.heap.size (fun q=>q=fm) w w'):=JY (aV.out.drew.next hf (by simp;omega) (fun _ _ q=>q));have m1:=(JZ aw.out.blk 1).trans (show _=some (.map (some fm)) from rfl);have jF:=(JZ eY.out.blk 1).trans (show _=some (.map (some fm)) from rfl);obtain ⟨B,hB⟩:∃ B,w.heap.size=B:=⟨_,rfl⟩
 have bl:w'.heap[B]? = u.heap[B]? := hf.block B (by simp;omega) (by omega);rw[hB] at hrow |-;have c1:=(JZ hrow 1).trans (show _=some (.string ⟨x.toArray⟩) from rfl);have e1:=(JZ (bl.trans hrow) 1).trans (show _=some (.string ⟨x.toArray⟩) from rfl);have c2:=(JZ hrow 2).trans (show _=some (.string ⟨y.toArray⟩) from rfl);have e2:=(JZ (bl.trans hrow) 2).trans (show _=some (.string ⟨y.toArray⟩) from rfl);clear cB ht hf hrow bl aw aV
 go_region_held3 (fun w'=>w'.cell? ⟨mb,1,none⟩=some (.map (some fm))/\w'.cell? ⟨B,1,none⟩=some (.string ⟨x.toArray⟩)/\w'.cell? ⟨B,2,none⟩=some (.string ⟨y.toArray⟩))
  (first | assumption | exact ⟨jF,e1,e2⟩ | exact ⟨m1,c1,c2⟩ | simp[go_sem, *])
  (fail)
 go_wp2_with fail
 go_end0
 exact ⟨_,rfl,eY.out,gT.out⟩
theorem aj9(mb pm fm:Nat) (P:VM Value) (G:VM S) (x y z:S) (hx:x.length<=maxLen)  (wa:Option Addr) (wn wc:Nat) (w:World) (h:Kh mb pm fm P (Hv.Kk G) w) :
 Calls Tryz.prog 233 #[.pointer (some ⟨mb,0,none⟩), .agg #[.int .i64 4, .string ⟨x.toArray⟩, .string ⟨y.toArray⟩, .string ⟨z.toArray⟩], .slice wa wn wc] w (Rk mb pm fm P (Hv.del G x) w):=by
 have hrow:=AF w (.cells #[.int .i64 4, .string ⟨x.toArray⟩, .string ⟨y.toArray⟩, .string ⟨z.toArray⟩] 329);have aw:=JY (h.below ((AD w.heap.size w).alloc (AC _) (.cells #[.int .i64 4, .string ⟨x.toArray⟩, .string ⟨y.toArray⟩, .string ⟨z.toArray⟩] 329)));have aV:=JY ((Kj.refl w.heap.size (fun q=>q=fm) w).alloc (AC _) (.cells #[.int .i64 4, .string ⟨x.toArray⟩, .string ⟨y.toArray⟩, .string ⟨z.toArray⟩] 329));have HG:=JY (Hv.KM h.files.1);have bw:(w.alloc (.cells #[.int .i64 4, .string ⟨x.toArray⟩, .string ⟨y.toArray⟩, .string ⟨z.toArray⟩] 329)).heap.size=w.heap.size+1:=by simp
 have aY:=blt h.blk;have hfl:=h.files.lt;have vL:=h.apart.2.1;clear h;go_enter Tryz.func233,Tryz.ntmps233;go_wp2_with fail;obtain ⟨u,hu⟩:∃ u,w.alloc (.cells #[.int .i64 4, .string ⟨x.toArray⟩, .string ⟨y.toArray⟩, .string ⟨z.toArray⟩] 329)=u:=⟨_,rfl⟩
 rw[hu] at hrow aw aV bw |-;clear hu;obtain ⟨w',hrun,cB,ht⟩:=aw.out.files.drew.drop Tryz.underlying152 x hx 0;have hf:=Kv ht;have eY:Hid (Kh mb pm fm P (Hv.Kk (Hv.del G x)) w'):=JY (by rw[Hv.agu HG.out];exact (show Kh mb pm fm P (Hv.Kk G) u.drew from ⟨aw.out.blk,aw.out.packs.drew,aw.out.files.drew,aw.out.apart⟩).file cB ht);have gT:Hid (Kj w.heap.size (fun q=>q=fm) w w'):=JY (aV.out.drew.next hf (by simp;omega) (fun _ _ q=>q));have m1:=(JZ aw.out.blk 1).trans (show _=some (.map (some fm)) from rfl);have jF:=(JZ eY.out.blk 1).trans (show _=some (.map (some fm)) from rfl);obtain ⟨B,hB⟩:∃ B,w.heap.size=B:=⟨_,rfl⟩
 have bl:w'.heap[B]? = u.heap[B]? := hf.block B (by simp;omega) (by omega);rw[hB] at hrow |-;have c1:=(JZ hrow 1).trans (show _=some (.string ⟨x.toArray⟩) from rfl);have e1:=(JZ (bl.trans hrow) 1).trans (show _=some (.string ⟨x.toArray⟩) from rfl);clear cB ht hf hrow bl aw aV
 go_region_held3 (fun w'=>w'.cell? ⟨mb,1,none⟩=some (.map (some fm))/\w'.cell? ⟨B,1,none⟩=some (.string ⟨x.toArray⟩))
  (first | assumption | exact ⟨jF,e1⟩ | exact ⟨m1,c1⟩ | simp[go_sem, *])
  (fail)
 go_wp2_with fail
 go_end0
 exact ⟨_,rfl,eY.out,gT.out⟩
end
end Go.Proofs.YtfhmaiicimdldaaGreatDoor
