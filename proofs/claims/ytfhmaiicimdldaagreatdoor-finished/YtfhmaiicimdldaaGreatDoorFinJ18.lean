import Derived.Test.YtfhmaiicimdldaaGreatDoorFinJ17
set_option maxHeartbeats 4000000
set_option maxRecDepth 100000
namespace Go.Proofs.YtfhmaiicimdldaaGreatDoor
variable {w:World}{L M n:Nat}
section
open Go.RowKit
open Kw (St ME)
open Hv (S Dk VM)
theorem Wv(mb pm fm:Nat) (P K:VM Value) (D:VM Hv.PD) (G:VM S) (N:Nat->Prop) (g:Nat) (n:Nat) (nn c im km:Nat) (hn:n<nn) (x:S) (hx:x.length<=maxLen) (bX:P.length<=1000) (hG:G.length<=1000) (L:Nat) (hL:L<=1000000) (hS:Hv.Short L G) (hDB:QD L D) (d:Hv.PD) (hd:Hv.get D x=some d) (w:World) (h:Kh mb pm fm P (Hv.Kk G) w) (hP:Ls N w D P) (KD:VM (List S)) (NK:Nat->Prop) (hk:J6 w km K) (hK:OV NK w KD K) (wk:List S) (hwk:(Hv.get KD x).getD []=wk) (hwn:wk.length<=1000) (hwx:∀ y∈wk,y.length<=100) (rL:(Lc wk).length<=L) (q1:w.cell? ⟨g,n*2,none⟩=some (.int .i64 4)) (q2:w.cell? ⟨g,n*2+1,none⟩=some (.string ⟨x.toArray⟩)) :
 Calls Tryz.prog 137 #[.agg #[.slice (some ⟨g,0,none⟩) nn c, .map (some im), .map (some km)], .int .i64 n, .pointer (some ⟨mb,0,none⟩)] w (U8 mb pm fm (Hv.put D x (d.to 2),Hv.MG D wk G d.st.Kn) N w):=by
 have hb0:=(AD w.heap.size w).alloc (AC _) (.cells #[.slice (some ⟨g,0,none⟩) nn c, .map (some im), .map (some km)] 100);have aw:=JY (h.below hb0);have cF:=JY (hP.below hb0);have tR:=JY (hk.below hb0);obtain ⟨ka,kc,Bx,hkr, -⟩:=(hK.below hb0).at_ x;rw[hwk] at Bx hkr;have FA:=JY Bx;have sH:=tR.out;have mq:=JY hwx;obtain ⟨v,hv,hr⟩:=(hP.below hb0).Vk x d hd;obtain ⟨p,rfl, -, -, -, -,hpk, -⟩:=hr;have HV:=JY hv;have hgl:g<w.heap.size:=B5 w _ q1;have d1:=(hb0.cell (p:=⟨g,n*2,none⟩) hgl).trans q1;have d2:=(hb0.cell (p:=⟨g,n*2+1,none⟩) hgl).trans q2;have aY:=blt h.blk;have hb1:(n:Int)<(nn:Int):=by omega
 have hrow:=AF w (.cells #[.slice (some ⟨g,0,none⟩) nn c, .map (some im), .map (some km)] 100);have aV:=JY ((Kj.refl w.heap.size (fun q=>q=pm\/q=fm) w).alloc (AC _) (.cells #[.slice (some ⟨g,0,none⟩) nn c, .map (some im), .map (some km)] 100));have m0:=(JZ aw.out.blk 0).trans (show _=some (.map (some pm)) from rfl);have bw:(w.alloc (.cells #[.slice (some ⟨g,0,none⟩) nn c, .map (some im), .map (some km)] 100)).heap.size=w.heap.size+1:=by simp
 have eF:=aw.out.packs;have vp:P.length<maxLen:=by unfold maxLen;omega
 have cr:=(Lm hpk.parse).2.2;have hfit:=(KZ hpk.parse).2.2.1;have hro:=hpk.rows 5;have aS:=Sr p;have hf2:=aaS p;have iB:=JY (fun w' (hm:Kh mb pm fm P (Hv.Kk G) w') (hp:Ls N w' D P) (hr:w'.ownsRow 0 329 4 p.Kn.val d.st.Kn.length (d.st.Kn.flatMap Us)) (Ia:Reads w' (.slice ka wk.length kc) wk)=>afF mb pm fm P D N G d.st.Kn (fun c hc=>cr.Kn c hc) (hDB.copies.symm.imp (fun h=>(h x d hd).2) id) (by have:=hfit.2.2.2.2.2;omega) bX hG L hL hDB.files hS p.Kn.val (.slice ka wk.length kc) wk hwn mq.out rL w' hm hp Ia hr);have yh:=JY (show (w.alloc (.cells #[.slice (some ⟨g,0,none⟩) nn c, .map (some im), .map (some km)] 100)).ownsRow 0 329 4 p.Kn.val d.st.Kn.length (d.st.Kn.flatMap Us) from hro);have sj:=JY (Yp hkr);clear h hP hb0 q1 q2 hv hpk hk cr hfit hro hDB hS hK hwk Bx hkr hwx;simp only[Pk.val,Pk.cells,Pk.arc,Sl.val] at aS hf2 iB;go_enter Tryz.func137,Tryz.ntmps137;go_wp2_with fail;obtain ⟨u,hu⟩:∃ u,w.alloc (.cells #[.slice (some ⟨g,0,none⟩) nn c, .map (some im), .map (some km)] 100)=u:=⟨_,rfl⟩
 rw[hu] at aw cF aV tR yh sj bw hrow sH eF m0 |-;clear hu;have hlk:=eF.drew.look IS (KW _) x hx;rw[HV.out] at hlk;simp only[DE,Pk.val,Pk.cells] at hlk;have hlk2:=sH.drew.look Tryz.underlying98 (SE _) x hx;rw[FA.out] at hlk2;obtain ⟨B,hB⟩:∃ B,w.heap.size=B:=⟨_,rfl⟩
 have bJ:=JY hB;rw[hB] at hrow bw |-;have bg:=JY hrow;have c2:=(JZ hrow 2).trans (show _=some (.map (some km)) from rfl);have Da:=JY (show Kh mb pm fm P (Hv.Kk G) u.drew from ⟨aw.out.blk,aw.out.packs.drew,aw.out.files.drew,aw.out.apart⟩);have iT:=JY (cF.out.below ((AD _ u).drew));have Fq:=JY aV.out.drew;have Im:w.heap.size<=u.heap.size:=aV.out.size;clear hrow hB sH eF d1 d2
 go_region_held3 (fun w'=>w'.cell? ⟨mb,0,none⟩=some (.map (some pm))/\w'.cell? ⟨B,2,none⟩=some (.map (some km)))
  (first | assumption | exact ⟨m0,c2⟩ | exact ⟨m2,e2⟩ | simp[go_sem, *])
  (first
   | (go_at_call 192;refine (iB.out _ Da.out iT.out (show World.ownsRow u.drew _ _ _ _ _ _ from yh.out) (show Reads u.drew _ _ from sj.out)).mono ?_;rintro e w2 ⟨u2,rfl,hm2,dK⟩;have cI:=JY hm2;have hnf:=Da.out.files.MB;have bQ:=JY (iT.out.turned hnf dK (AC _));have bp:=JY (Fq.out.next dK Im (fun _ _ q => .inr q));have m2:=(JZ hm2.blk 0).trans (show _=some (.map (some pm)) from rfl);have e2:=(JZ ((dK.block B (blt (w:=u) bg.out) (fun e=>hnf _ _ _ (by rw[<- e];exact bg.out))).trans bg.out) 2).trans (show _=some (.map (some km)) from rfl);have hs2:u.heap.size<=w2.heap.size:=dK.size;clear hm2 dK hnf))
 all_goals
  clear hlk hlk2;go_wp2_with fail;refine (Qn mb pm fm P _ x hx p HV.out 2 vp w2 cI.out).mono ?_;rintro e w4 ⟨u4,rfl,jP,d7⟩;have dJ:=JY jP;have dY:=JY ((bQ.out.YI cI.out.packs.1 HV.out hd 2).turned cI.out.packs.MB d7 (AC _));have ey:=JY (bp.out.next d7 (by omega) (fun _ _ q => .inl q));clear jP d7;go_wp2_with fail
  go_end0
  exact ⟨_,_,rfl,dJ.out,dY.out,ey.out⟩
theorem Ls.within{N N':Nat->Prop}  {D:VM Hv.PD} {E:VM Value} (h:Ls N w D E) (hn:∀ g,N g->g<w.heap.size->N' g):Ls N' w D E:=by
 have hr:∀ d v,Tp N w d v->Tp N' w d v:=by
  rintro d v ⟨p,h1,h2,h3,h4,h5,h6,h7⟩;exact ⟨p,h1,h2,h3,h4,h5,h6,fun i g hg=>hn g (h7 i g hg) ((h6.rows i).lt g hg).2⟩
 exact ⟨h.Mt,fun k v q=>(h.P8 k v q).imp fun _ a=>⟨a.1,hr _ _ a.2⟩,fun k v q=>(h.Vk k v q).imp fun _ a=>⟨a.1,hr _ _ a.2⟩⟩
def Oc (L:Nat) (KD:VM (List S)):Prop:=∀ k xs,Hv.get KD k=some xs->xs.length<=1000/\(∀ y∈xs,y.length<=100)/\(Lc xs).length<=L
theorem akK(mb pm fm:Nat) (P:VM Value) (D:VM Hv.PD) (G:VM S) (N:Nat->Prop) (B0:Nat) (pl:Hv.Plan) (sv:Value) (im km:Nat) (n:Nat) (hn:n<pl.steps.length) (hok:Hv.Tv pl D pl.steps[n]) (hks:pl.steps[n].2.length<=maxLen) (bX:P.length<=1000) (hG:G.length<=1000) (L:Nat) (hL:L<=1000000) (hS:Hv.Short L G) (hDB:QD L D) (iF:Oc L pl.Le) (w:World) (h:Kh mb pm fm P (Hv.Kk G) w) (hP:Ls N w D P) (hpl:MR B0 pl sv im km w) (hN:∀ g,B0<=g->g<w.heap.size->N g) (hkm : ¬ km=fm) :
 Calls Tryz.prog 137 #[.agg #[sv, .map (some im), .map (some km)], .int .i64 n, .pointer (some ⟨mb,0,none⟩)] w (U8 mb pm fm (Hv.Ke pl (D,G) pl.steps[n]) N w):=by
 obtain ⟨g,c,rfl,hg,q1,q2⟩:=adg hpl.row hn;obtain ⟨I,i1,i2⟩:=hpl.ins;obtain ⟨K,k1,k2⟩:=hpl.Le;obtain ⟨⟨k,x⟩,hs⟩:∃ s,pl.steps[n]=s:=⟨_,rfl⟩
 rw[hs] at q1 q2 hok hks |-;simp only at q1 q2 hks;rcases hok with e | ⟨e,hi⟩ | ⟨e,hd⟩
 · simp only at e;subst e;exact acP mb pm fm P D G N g n _ c im km hn x hks w h hP q1 q2
 · simp only at e hi;subst e;rw[Hv.J9] at hi;obtain ⟨d,hd⟩:=Option.isSome_iff_exists.1 hi;have e2:Hv.Ke pl (D,G) (2,x)=(Hv.put D x d,G):=by simp[Hv.Ke,hd]
   rw[e2];exact Yo mb pm fm P I D pl.ins G N g n _ c im km hn x hks bX d hd w h hP i1 (i2.within hN) q1 q2
 · simp only at e hd;rw[Hv.J9] at hd;obtain ⟨d,hd⟩:=Option.isSome_iff_exists.1 hd;rcases e with e | e
   · subst e;have e2:Hv.Ke pl (D,G) (3,x)=(Hv.put D x (d.to (if Hv.has K x=true then 3 else 2)),Hv.MG D [] G d.st.runs):=by simp[Hv.Ke,hd,k2.has_eq]
     rw[e2];exact Tf mb pm fm P K D G N g n _ c im km hn x hks bX hG L hL hS hDB d hd w h hP k1 k2.als hkm _ rfl q1 q2
   · subst e;have e2:Hv.Ke pl (D,G) (4,x)=(Hv.put D x (d.to 2),Hv.MG D ((Hv.get pl.Le x).getD []) G d.st.Kn):=by simp[Hv.Ke,hd]
     rw[e2];have hb:((Hv.get pl.Le x).getD []).length<=1000/\(∀ y∈(Hv.get pl.Le x).getD [],y.length<=100)/\(Lc ((Hv.get pl.Le x).getD [])).length<=L:=by
      cases q:Hv.get pl.Le x with
      | none=>exact ⟨by simp,by simp,by simp[Lc]⟩
      | some xs=>exact iF x xs q
     exact Wv mb pm fm P K D G N g n _ c im km hn x hks bX hG L hL hS hDB d hd w h hP pl.Le _ k1 k2 _ rfl hb.1 hb.2.1 hb.2.2 q1 q2
end
section
open Hv (S VM)
namespace Hv
def Qd (G:VM S) (left:S->Bool):Nat:=(G.map fun p=>if left p.1=true then 0 else p.2.length).foldr max 0
theorem ZP:∀ (G:VM S) (left:S->Bool),(∀ k,has G k=true->left k=true)->Qd G left=0
 | [],_,_=>rfl
 | p::G,left,h=>by
   have h1:=h p.1 (by simp[has]);have h2:=ZP G left (fun k hk=>h k (by simp only[has,List.any_cons] at hk |-;rw[hk];simp));simp only[Qd,Cp,List.foldr_cons,h1,if_true] at h2 |-;omega
theorem ZQ:∀ (G:VM S) (left left':S->Bool),(∀ p∈G,left p.1=left' p.1)->Qd G left=Qd G left'
 | [],_,_,_=>rfl
 | p::G,left,left',h=>by
   have h2:=ZQ G left left' (fun q hq=>h q (by simp[hq]));have h1:=h p (by simp);simp only[Qd,Cp,List.foldr_cons,h1] at h2 |-;rw[h2]
theorem ZR:∀ (G:VM S) (left:S->Bool) (k x:S),Ki G->(k,x)∈G->left k=true->Qd G (fun z=>left z && !(z==k))=max (Qd G left) x.length
 | [],_,_,_,_,h,_=>by cases h
 | p::G,left,k,x,hs,h,hl=>by
   obtain ⟨g1,g2⟩:=List.pairwise_cons.1 hs;rcases List.mem_cons.1 h with h | h
   · subst h;have h2:=ZQ G (fun z=>left z && !(z==k)) left (fun q hq=>by
      have : ¬ q.1=k:=fun e=>by have:=g1 q hq;rw[e,Lx] at this;cases this
      simp[this])
     simp only[Qd,Cp,List.foldr_cons,hl,beq_self_eq_true,Bool.not_true,Bool.and_false,Bool.false_eq_true,if_false,if_true] at h2 |-;omega
   · have h2:=ZR G left k x g2 h hl;have : ¬ p.1=k:=fun e=>by have:=g1 _ h;rw[e,Lx] at this;cases this
     have e:(left p.1 && !(p.1==k))=left p.1:=by simp[this]
     simp only[Qd,Cp,List.foldr_cons,e] at h2 |-;rw[h2];omega
theorem akw(G:VM S) (n:Nat):Qd G (fun _=>false)<=n ↔ ∀ p∈G,p.2.length<=n:=by
 induction G with
 | nil=>simp[Qd]
 | cons p G ih =>
   simp only[Qd,Cp,List.foldr_cons,Bool.false_eq_true,if_false,List.mem_cons,forall_eq_or_imp] at ih |-;rw[<- ih];omega
theorem ael{G:VM S} (h:Short L G) (hs:Ki G) (left:S->Bool):Qd G left<=L:=by
 have key:∀ (E:VM S),(∀ p∈E,p.2.length<=L)->Qd E left<=L:=by
  intro E
  induction E with
  | nil=>intro _;simp[Qd]
  | cons p E ih =>
    intro h;have h1:=ih (fun q hq=>h q (by simp[hq]));have h2:=h p (by simp);simp only[Qd,Cp,List.foldr_cons] at h1 |-;split<;>omega
 exact key G (fun p hp=>h p.1 p.2 ((get_some hs).2 hp))
theorem agy(G:VM S):NW G=(decide (G.length<=16)&&decide (Qd G (fun _=>false)<=200)):=by
 unfold NW
 congr 1
 rw[Bool.eq_iff_iff];simp only[List.all_eq_true,decide_eq_true_eq];exact (akw G 200).symm
end Hv
end
section
open Go.RowKit
open Kw (St ME)
open Hv (S Dk VM)
theorem aeU(mb pm fm:Nat) (P:VM Value) (G:VM S) (L:Nat) (hS:Hv.Short L G) (w:World) (h:Kh mb pm fm P (Hv.Kk G) w) :
 Calls Tryz.prog 138 #[.pointer (some ⟨mb,0,none⟩)] w fun e w'=>e = .returned (.tuple #[.int .i64 G.length, .int .i64 (Hv.Qd G fun _=>false:Nat)])/\Below w.heap.size w w':=by
 have m1:=(JZ h.blk 1).trans (show _=some (.map (some fm)) from rfl);have hf:=h.files;have HG:=JY (Hv.KM hf.1);have HM:=JY h;have HS:=JY hS;have aY:=blt h.blk;clear h hS;go_enter Tryz.func138,Tryz.ntmps138;go_wp2_with (first
  | (at_range;refine Mc rfl _ 152 rfl 175 Tryz.underlying152 hf rfl ?_;intro w0 hrg0 hg0 hs0;have aT:=JY hrg0;have aC:=JY ((AD w.heap.size w).grown hg0 (AC _) (fun q hq=>by cases hq))))
 go_frame
 clear hg0 hrg0 hf m1;go_loopw [3,11] (fun z _ wr=>∃ (left:S->Bool) (cnt:Nat),z = .int .i64 (Hv.Qd G left:Nat)/\Hid (KO wr fm w.heap.size (Hv.Kk G) left cnt)/\Hid (Below w.heap.size w wr)/\w.heap.size<wr.heap.size)
  (fun _ _ wr=>wr.rangeLeft fm w.heap.size)
 case atStart=>exact ⟨_,_,by rw[Hv.ZP G _ (fun k hk=>by rw[Hv.J9,Hv.MJ,Option.isSome_map,<- Hv.J9];exact hk)];rfl,aT,aC,by omega⟩
 case round =>
  clear aT aC;obtain ⟨left,cnt,rfl,HG2,HB,hsz1⟩:=hrel;go_wp2_with (first
   | (at_next;refine MW rfl _ rfl w.heap.size left cnt rfl HG2.out ?_ ?_))
  · intro hc0 hl0;have hl:left=fun _=>false:=funext hl0
    subst hl;obtain ⟨T,hT⟩:∃ T,Hv.Qd G (fun _=>false)=T:=⟨_,rfl⟩
    rw[hT];have HT:=JY hT;have A6:=HM.out.below HB.out;have m2:=(JZ A6.blk 1).trans (show _=some (.map (some fm)) from rfl);have BG:=A6.files.len Tryz.underlying152 3;rw[Hv.Mh] at BG;clear hT A6;go_wp2_with fail;go_ret2;exact ⟨by rw[HT.out];rfl,HB.out⟩
  · intro k v w4 cnt1 hk hlk hget hrg1 hlt hg1 hs1 hen;rw[Hv.MJ] at hget;obtain ⟨x,hx,rfl⟩:=Option.map_eq_some_iff.1 hget;have aZ:=JY (KO.alloc hrg1 (.cells #[.string ⟨x.toArray⟩] 175));have hb4:=HB.out.grown hg1 HB.out.size (fun q hq=>by cases hq;omega);have aB:=JY (hb4.alloc hb4.size (.cells #[.string ⟨x.toArray⟩] 175));have hs4:w4.heap.size=wr.heap.size:=hs1;have hsu:(w4.alloc (.cells #[.string ⟨x.toArray⟩] 175)).heap.size=w4.heap.size+1:=by simp
    have hxl:=HS.out k x hx;have HST:=JY (Hv.ZR G left k x HG.out ((Hv.get_some HG.out).1 hx) hlk);have BF:=Hv.ael HS.out HG.out left;obtain ⟨s0,eQ⟩:∃ s0,Hv.Qd G left=s0:=⟨_,rfl⟩
    rw[eQ] at HST BF |-;simp only[Hv.MO] at hen |-;clear hrg1 hg1 hget hb4 eQ hx;go_wp2_with fail;go_roundw
    case rel=>exact ⟨_,cnt1,by rw[HST.out];congr 1;omega,aZ,aB,by omega⟩
    case measure=>rw[aZ.out.left_eq,HG2.out.left_eq];exact hlt
end
section
open Kw (St ME)
open Hv (S VM)
variable {f:S->S}{st:St}{D:VM Hv.PD}{k:S}
theorem acR{st':St} {k:Int} {rest:List S}  (h:Kw.OO f st k rest=some st') (g:st.left.length<=M/\∀ q∈st.files,q.2.length<=M):st'.left.length<=M/\∀ q∈st'.files,q.2.length<=M:=by
 rw[Kw.OO.eq_def] at h;split at h
 · split at h
   · split at h
     · cases h;exact g
     · cases h
   · split at h
     · cases h;exact g
     · cases h
   · cases h
 · split at h
   · split at h
     · split at h
       · cases h;exact g
       · cases h
     · cases h
   · split at h
     · split at h
       · split at h
         · cases h;exact g
         · cases h
       · cases h
     · split at h
       · split at h
         · split at h
           · cases h;refine ⟨?_,OP g.2 ?_⟩
             · show (List.drop _ _).length<=M;rw[GE];have:=g.1;omega
             · show (List.take _ _).length<=M;rw[DD];have:=g.1;omega
           · cases h
         · cases h
       · split at h
         · split at h
           · cases h;exact g
           · cases h
         · split at h
           · split at h
             · cases h;exact g
             · cases h
           · cases h
theorem Ws:∀ (ls:List S) {st st':St} {last:Int},Kw.MZ f st last ls=some st'->(st.left.length<=M/\∀ q∈st.files,q.2.length<=M)->∀ q∈st'.files,q.2.length<=M
 | [],st,st',last,h,g=>by rw[Kw.MZ] at h;cases h;exact g.2
 | l::ls,st,st',last,h,g=>by
   rw[Kw.MZ] at h;split at h
   · cases h
   · split at h
     · cases h
     next s1 h1=>exact Ws ls h (acR h1 g)
theorem XG:∀ {x a b:S},KI x=some (a,b)->b.length<=x.length
 | [],a,b,h=>by simp[KI] at h
 | c::l,a,b,h=>by
   rw[KI.eq_def] at h;simp only at h;split at h
   · cases h;simp;omega
   · split at h
     · cases h
     next u v hq =>
      cases h;have:=XG hq;simp only[CI];omega
theorem Qi{x nm ve:S}  (h:Kw.parse f x=some (nm,ve,st)):x.length<=2000/\∀ q∈st.files,q.2.length<=2000:=by
 rw[Kw.parse.eq_def] at h;split at h
 · cases h
 next hx =>
  refine ⟨by omega,?_⟩;split at h
  · cases h
  next head contents hc =>
   have hl:=XG hc;split at h
   · split at h
     · cases h
     · split at h
       · split at h
         · cases h
         next s1 h1 =>
          split at h
          · cases h;exact Ws _ h1 ⟨by show contents.length<=2000;omega,fun q hq=>by cases hq⟩
          · cases h
       · cases h
   · cases h
structure Lf (D:VM Hv.PD):Prop where
 named:Hv.Named D
 copies:Qe \/ ∀ k d,Hv.get D k=some d->KX d.st.runs/\KX d.st.Kn
theorem Lf.nil:Lf []:=⟨Hv.Named.nil, .inr fun k d h=>by cases h⟩
theorem Lf.put(h:Lf D) (hs:Hv.Ki D)  {d:Hv.PD} (hk:d.nm=k) (hd:Hv.abA d) (hc:Qe\/(KX d.st.runs/\KX d.st.Kn)):Lf (Hv.put D k d):=by
 refine ⟨h.named.put hs hk hd,?_⟩;rcases hc with hc | hc
 · exact .inl hc
 · rcases h.copies with q | q
   · exact .inl q
   · refine .inr fun k' d' e => ?_
     by_cases ek:k'=k
     · subst ek;rw[Hv.Ka hs] at e;cases e;exact hc
     · rw[Hv.J7 hs _ ek] at e;exact q k' d' e
theorem Lf.del(h:Lf D) (hs:Hv.Ki D) (k:S):Lf (Hv.del D k):=by
 refine ⟨h.named.del hs k,h.copies.imp id fun q k' d' e => ?_⟩;by_cases ek:k'=k
 · subst ek;rw[Hv.KQ] at e;cases e
 · rw[Hv.Kz hs ek] at e;exact q k' d' e
theorem Lf.at_(h:Lf D)  {d:Hv.PD} (q:Hv.get D k=some d):d.nm=k/\Hv.abA d/\(Qe\/(KX d.st.runs/\KX d.st.Kn)):=⟨(h.named k d q).1,(h.named k d q).2,h.copies.imp id fun f=>f k d q⟩
theorem Lf.step{pl:Hv.Plan} {m:Hv.Mac} (h:Lf m.1) (hi:Lf pl.ins) (hs:Hv.Ki m.1) (s:Hv.Step):Lf (Hv.Ke pl m s).1:=by
 unfold Hv.Ke;split
 · exact h.del hs _
 · split
   · split
     next d hd =>
      obtain ⟨a,b,c⟩:=hi.at_ hd;exact h.put hs a b c
     · exact h
   · split
     · exact h
     next d hd =>
      obtain ⟨a,b,c⟩:=h.at_ hd;split
      · exact h.put hs a b c
      · split
        · exact h.put hs a b c
        · exact h
theorem Lf.bound(h:Lf D) (hs:Hv.Ki D):QD 30000 D :=
 ⟨fun p hp f hf=>by
  have h1:=(h.named p.1 p.2 ((Hv.get_some hs).2 hp)).2;have:=(Qi h1).2 f hf;omega,h.copies⟩
theorem adf(pl:Hv.Plan) (m:Hv.Mac) (s:Hv.Step):(Hv.Ke pl m s).1.length<=m.1.length+1:=by
 unfold Hv.Ke;split
 · exact Nat.le_succ_of_le (Hv.aaL _ _)
 · split
   · split
     · exact Hv.Mr _ _ _
     · exact Nat.le_succ _
   · split
     · exact Nat.le_succ _
     · split
       · exact Hv.Mr _ _ _
       · split
         · exact Hv.Mr _ _ _
         · exact Nat.le_succ _
theorem ZX{R:VM Value} {I:VM Hv.PD} (hD:Hv.Named D) (hI:Hv.Named I) (sD:Hv.Ki D) (sI:Hv.Ki I) (hR:R.length<=12) (hl:I.length<=12):Oc 30000 (Hv.KC D R I).Le:=fun k xs q=>by
 have e:(Hv.KC D R I).Le=LQ (Hv.Ko D R I) (J3 (Kr D R I)):=rfl;rw[e,VR (show Hv.Ki (Hv.Ko D R I) from Hv.Nw I (Hv.cut D R) (Hv.Nu R D sD))] at q;have h1:=Uq hD hI sI R;have h2:=S9 hD hI sI R;cases q2:Hv.get (Hv.Ko D R I) k with
 | none=>rw[q2] at q;cases q
 | some d =>
   rw[q2] at q;simp only at q;split at q
   · cases q
   · cases q;have h3:=WJ d (J3 (Kr D R I));have h4:∀ y∈KR d (J3 (Kr D R I)),y.length<=24:=fun y hy=>h2 y (adu hy)
     refine ⟨by omega,fun y hy=>by have:=h4 y hy;omega,?_⟩;have h5:=ZM (KR d (J3 (Kr D R I))) 24 h4;have h6:(KR d (J3 (Kr D R I))).length<=756:=by omega
     have:(KR d (J3 (Kr D R I))).length*(24+1)<=756*25:=Nat.mul_le_mul_right 25 h6;omega
end
section
open Go.RowKit
open Kw (St ME)
open Hv (S Dk VM)
variable {pl:Hv.Plan}{D:VM Hv.PD}
theorem MR.far{B B':Nat} {C:Nat->Prop}  {sv:Value} {im km:Nat} {w':World} (h:MR B pl sv im km w) (hf:Kj B' C w w') (hB:w.heap.size<=B') (hC:∀ g,C g->∀ cs t fz,w.heap[g]? ≠ some (.cells cs t fz)) (him : ¬ C im) (hkm : ¬ C km):MR B pl sv im km w':=by
 obtain ⟨I,i1,i2⟩:=h.ins;obtain ⟨K,k1,k2⟩:=h.Le;exact ⟨RO h.row hf hB (fun g hg cs fz=>hC g hg cs _ fz),⟨I,i1.far hf hB him,i2.foreign hf hB (fun g hg i cs fz=>hC g hg cs _ fz)⟩,⟨K,k1.far hf hB hkm,k2.foreign hf hB (fun g hg cs fz=>hC g hg cs _ fz)⟩,h.ge⟩
structure ajS (mb pm fm:Nat) (D:VM Hv.PD) (G:VM S) (N:Nat->Prop) (B0:Nat) (pl:Hv.Plan) (sv:Value) (im km:Nat) (w:World) (n:Nat) (P:VM Value) (wr:World):Prop where
 mac:Kh mb pm fm P (Hv.Kk (Hv.Kc pl (D,G) (pl.steps.take n)).2) wr
 pk:Ls N wr (Hv.Kc pl (D,G) (pl.steps.take n)).1 P
 plan:MR B0 pl sv im km wr
 len:(Hv.Kc pl (D,G) (pl.steps.take n)).1.length<=D.length+n
 fit:(Hv.Kc pl (D,G) (pl.steps.take n)).2.length<=16/\Hv.Short 200 (Hv.Kc pl (D,G) (pl.steps.take n)).2
 fine:Lf (Hv.Kc pl (D,G) (pl.steps.take n)).1
 left:Hv.LZ pl (D,G) pl.steps=Hv.LZ pl (Hv.Kc pl (D,G) (pl.steps.take n)) (pl.steps.drop n)
 ge:w.heap.size<=mb/\w.heap.size<=pm/\w.heap.size<=fm
 K7:Below w.heap.size w wr
theorem Sb(pl:Hv.Plan) (m:Hv.Mac)  (h:n<pl.steps.length):Hv.Kc pl m (pl.steps.take (n+1))=Hv.Ke pl (Hv.Kc pl m (pl.steps.take n)) pl.steps[n]:=by
 rw[AT h,Hv.ag6]
theorem agQ(pl:Hv.Plan) (m:Hv.Mac)  (h:n<pl.steps.length):Hv.LZ pl (Hv.Kc pl m (pl.steps.take n)) (pl.steps.drop n)=(!Hv.NW (Hv.Kc pl m (pl.steps.take (n+1))).2||Hv.LZ pl (Hv.Kc pl m (pl.steps.take (n+1))) (pl.steps.drop (n+1))):=by
 rw[DO h,Sb pl m h];rfl
theorem VF{wk:List S}  (hD:Hv.U6 L D) (hw:(Lc wk).length<=L):∀ (cs:List ME) {G:VM S} {k:Nat},(∀ c∈cs,Pg c)->Hv.Ki G->Hv.Short (L+16*k) G->Hv.Short (L+16*(k+cs.length)) (Hv.MG D wk G cs)
 | [],G,k,_,_,h=>by simpa [Hv.MG] using h
 | c::cs,G,k,hc,hs,h=>by
   have hs1:=Hv.aaM D wk hs c;have h1:Hv.Short (L+16*(k+1)) (Hv.SL D wk G c):=by
    have hcl:=(Xa (hc c (by simp))).2.1;by_cases hv:c.verb=1\/c.verb=2
    · exact (Hv.Sq (L:=L+16*k) (fun p hp f hf=>by have:=hD p hp f hf;omega) h hs (by omega) (hcl hv)).mono (by omega)
    · have e2:Hv.SL D wk G c=Hv.SL D wk G { c with word:=[] }:=by
       unfold Hv.SL;rw[Bm (fun q=>hv (.inl q)),Bm (fun q=>hv (.inr q)),Bm (fun q=>hv (.inl q)),Bm (fun q=>hv (.inr q))]
      rw[e2];exact (Hv.Sq (L:=L+16*k) (fun p hp f hf=>by have:=hD p hp f hf;omega) h hs (by omega) (by simp)).mono (by omega)
   have:=VF hD hw cs (fun c' h'=>hc c' (by simp[h'])) hs1 h1;have e:Hv.MG D wk G (c::cs)=Hv.MG D wk (Hv.SL D wk G c) cs:=rfl;rw[e,CI];exact this.mono (by omega)
theorem aeP{m:Hv.Mac} {s:Hv.Step} (h:Hv.Short 200 m.2) (hf:Lf m.1) (hs:Hv.Ki m.1) (hg:Hv.Ki m.2) (hw:Oc 30000 pl.Le):Hv.Short 100000 (Hv.Ke pl m s).2:=by
 have hb:=(hf.bound hs).files;have mB:Hv.Short 100000 m.2:=h.mono (by omega);have h3:Hv.Short (30000+16*0) m.2:=h.mono (by omega);unfold Hv.Ke;split
 · exact mB
 · split
   · split<;>exact mB
   · split
     · exact mB
     next d hd =>
      have hp:=(hf.at_ hd).2.1;have hgd:=(Lm hp).2.2;have hft:=(KZ hp).2.2.1;split
      · exact (VF hb (by simp[Lc]) d.st.runs (fun c hc=>(hgd.runs c hc).1) hg h3).mono (by have:=hft.2.2.2.2.1;omega)
      · split
        · refine (VF hb ?_ d.st.Kn (fun c hc=>hgd.Kn c hc) hg h3).mono (by have:=hft.2.2.2.2.2;omega);cases q:Hv.get pl.Le s.2 with
          | none=>simp[Lc]
          | some xs=>exact (hw _ xs q).2.2
        · exact mB
theorem ag7{G:VM S} {mb pm fm:Nat} {P:VM Value} {wr:World} (h:Hv.Short 200 (Hv.Kc pl (D,G) (pl.steps.take n)).2) (hf:Lf (Hv.Kc pl (D,G) (pl.steps.take n)).1) (hs:Hv.Ki (Hv.Kc pl (D,G) (pl.steps.take n)).1) (hm:Kh mb pm fm P (Hv.Kk (Hv.Kc pl (D,G) (pl.steps.take n)).2) wr) (_hok:Hv.NA pl (D,G) pl.steps) (hn:n<pl.steps.length) (e:Hv.Kc pl (D,G) (pl.steps.take (n+1))=Hv.Ke pl (Hv.Kc pl (D,G) (pl.steps.take n)) pl.steps[n]) (hw:Oc 30000 pl.Le):Hv.Short 100000 (Hv.Kc pl (D,G) (pl.steps.take (n+1))).2:=by
 rw[e];have hg:=Hv.KM hm.files.1;obtain ⟨m,hm⟩:∃ m,Hv.Kc pl (D,G) (pl.steps.take n)=m:=⟨_,rfl⟩
 rw[hm] at h hf hs hg |-;exact aeP h hf hs hg hw
theorem ai4(mb pm fm:Nat) (P:VM Value) (D:VM Hv.PD) (G:VM S) (N:Nat->Prop) (B0:Nat) (pl:Hv.Plan) (sv:Value) (im km:Nat) (hok:Hv.NA pl (D,G) pl.steps) (hks:∀ s∈pl.steps,s.2.length<=12) (hst:pl.steps.length<=200) (hDl:D.length<=12) (bE:Lf D) (yE:Lf pl.ins) (hG:G.length<=16) (hS:Hv.Short 200 G) (iF:Oc 30000 pl.Le) (w:World) (h:Kh mb pm fm P (Hv.Kk G) w) (hP:Ls N w D P) (hpl:MR B0 pl sv im km w) :
 Calls Tryz.prog 73 #[.pointer (some ⟨mb,0,none⟩), .agg #[sv, .map (some im), .map (some km)]] w fun e w'=>e = .returned (.bool (Hv.LZ pl (D,G) pl.steps))/\Below w.heap.size w w':=by
 have hsl:=hpl.row;obtain ⟨sa,sc,rfl⟩:=J4 hsl;have HM:=JY h;have aD:=JY hP;have pN:=JY hpl;have gV:=JY hok;have nJ:=JY hks;have gS:=JY bE;have xW:=JY yE;have HS:=JY hS;have qo:=JY iF;have hil:im<w.heap.size:=by obtain ⟨I,i1,_⟩:=hpl.ins;exact i1.lt
 have hkl:km<w.heap.size:=by obtain ⟨K,k1,_⟩:=hpl.Le;exact k1.lt
 have iP:=JY (Hv.KM h.files.1);obtain ⟨ns,hns⟩:∃ ns,pl.steps.length=ns:=⟨_,rfl⟩
 have jZ:=JY hns;rw[hns] at hst |-;have hb0:=(AD w.heap.size w).alloc (AC _) (.cells #[.slice sa ns sc, .map (some im), .map (some km)] 100);have hrow:=AF w (.cells #[.slice sa ns sc, .map (some im), .map (some km)] 100);have bw:(w.alloc (.cells #[.slice sa ns sc, .map (some im), .map (some km)] 100)).heap.size=w.heap.size+1:=by simp
 have aQ:=JY (h.below hb0);have bB:=JY (hP.below hb0);have uk:=JY (hpl.below hb0);have aC:=JY hb0;obtain ⟨u,hu⟩:∃ u,w.alloc (.cells #[.slice sa ns sc, .map (some im), .map (some km)] 100)=u:=⟨_,rfl⟩
 rw[hu] at hrow bw aQ bB uk aC;clear h hP hpl hok hks bE yE hS iF hsl hns hb0 HM aD pN;go_enter Tryz.func73,Tryz.ntmps73;go_wp2_with fail;clear hu;have bg:=JY hrow;clear hrow;refine (adK mb pm fm P (Hv.Kk G) u aQ.out).mono ?_;rintro e w1 ⟨mb',lH,lj,rfl,fH,g1,g2,g3,hb1⟩;have ay:Hid (ajS mb' lH lj D G (fun g=>N g\/B0<=g) B0 pl (.slice sa ns sc) im km u 0 P w1):=JY ⟨fH,(bB.out.below hb1).weak (fun g hg => .inl hg),by have:=uk.out.below hb1;rwa [jZ.out] at this,by simp[Hv.Kc],⟨hG,HS.out⟩,gS.out,by simp[Hv.Kc],⟨g1,g2,g3⟩,hb1⟩;have r1:=(hb1.block w.heap.size (by omega)).trans bg.out;have a0:=(JZ r1 0).trans (show _=some (.slice sa ns sc) from rfl);have a1:=(JZ r1 1).trans (show _=some (.map (some im)) from rfl);have a2:=(JZ r1 2).trans (show _=some (.map (some km)) from rfl);have hs1:=hb1.size;clear fH hb1 r1;go_wp2_with fail;refine (N9 sa ns sc im km w1).mono ?_;rintro e w2 ⟨rfl,hb2⟩;have aM:Hid (ajS mb' lH lj D G (fun g=>N g\/B0<=g) B0 pl (.slice sa ns sc) im km u 0 P w2):=JY ⟨ay.out.mac.below hb2,ay.out.pk.below hb2,ay.out.plan.below hb2,ay.out.len,ay.out.fit,ay.out.fine,ay.out.left,ay.out.ge,ay.out.K7.trans (hb2.mono ay.out.K7.size)⟩;clear hb2 ay a0 a1 a2;go_wp2_with fail;have GQ:=aM.out.ge;go_loopw [13] (fun i wr=>∃ (n:Nat) (P':VM Value),n<=ns/\i = .int .i64 (n:Int)/\Hid (ajS mb' lH lj D G (fun g=>N g\/B0<=g) B0 pl (.slice sa ns sc) im km u n P' wr)) (fun i _=>ns-(intOf i).toNat)
 case atStart=>exact ⟨0,P,Bs _,rfl,aM⟩
 case round =>
  clear aM;obtain ⟨n,P',hn,rfl,HI⟩:=hrel;by_cases hlt:n<ns
  · have b1:(n:Int)<(ns:Int):=by omega
    have hnl:n<pl.steps.length:=by have:=jZ.out;omega
    have hbs:=HI.out.K7.size;have r1:=(HI.out.K7.block w.heap.size (by omega)).trans bg.out;have a0:=(JZ r1 0).trans (show _=some (.slice sa ns sc) from rfl);have a1:=(JZ r1 1).trans (show _=some (.map (some im)) from rfl);have a2:=(JZ r1 2).trans (show _=some (.map (some km)) from rfl);have GW:P'.length<=1000:=by have e:=HI.out.pk.len HI.out.mac.packs.1;have:=HI.out.len;omega
    have hsrt:=HI.out.pk.Mt;have iT:=JY (akK mb' lH lj P' (Hv.Kc pl (D,G) (pl.steps.take n)).1 (Hv.Kc pl (D,G) (pl.steps.take n)).2 (fun g=>N g\/B0<=g) B0 pl (.slice sa ns sc) im km n hnl (gV.out.at_ hnl) (by have:=nJ.out _ (B1 hnl);unfold maxLen;omega) GW (by have:=HI.out.fit.1;omega) 30000 (by omega) (HI.out.fit.2.mono (by omega)) (HI.out.fine.bound hsrt) qo.out wr HI.out.mac HI.out.pk HI.out.plan (fun g hg _ => .inr hg) (by omega));have vw:=JY (Sb pl (D,G) hnl);clear r1;go_wp2_with fail;refine iT.out.mono ?_;rintro e w3 ⟨u3,P3,rfl,wA,m8,hf3⟩;have lV:Hid (Kh mb' lH lj P3 (Hv.Kk (Hv.Kc pl (D,G) (pl.steps.take (n+1))).2) w3):=JY (by rw[vw.out];exact wA);have tK:Hid (Ls (fun g=>N g\/B0<=g) w3 (Hv.Kc pl (D,G) (pl.steps.take (n+1))).1 P3):=JY (by rw[vw.out];exact m8);have tM:Hid (MR B0 pl (.slice sa ns sc) im km w3):=JY (HI.out.plan.far hf3 (AC _) (fun g hg=>by
     rcases hg with rfl | rfl
     · exact HI.out.mac.packs.MB
     · exact HI.out.mac.files.MB) (fun e=>by omega) (fun e=>by omega))
    have zA:=JY (HI.out.K7.trans (hf3.toBelow hbs (fun q hq e=>by omega)));have ke:=JY (ag7 HI.out.fit.2 HI.out.fine hsrt HI.out.mac gV.out hnl vw.out qo.out);have hs3:=hf3.size;clear wA m8 hf3 a0 a1 a2;go_wp2_with fail;refine (aeU mb' lH lj P3 _ 100000 ke.out w3 lV.out).mono ?_;rintro e w4 ⟨rfl,hb4⟩;have fP:=JY (Hv.agy (Hv.Kc pl (D,G) (pl.steps.take (n+1))).2);have zX:=JY (agQ pl (D,G) hnl);have zK:=JY HI.out.left;have zo:=JY (Hv.RF (G:=(Hv.Kc pl (D,G) (pl.steps.take (n+1))).2) (Hv.KM lV.out.files.1));obtain ⟨cnt,qM⟩:∃ cnt,(Hv.Kc pl (D,G) (pl.steps.take (n+1))).2.length=cnt:=⟨_,rfl⟩
    obtain ⟨xI,qW⟩:∃ xI,Hv.Qd (Hv.Kc pl (D,G) (pl.steps.take (n+1))).2 (fun _=>false)=xI:=⟨_,rfl⟩
    rw[qM,qW] at fP;rw[qM,qW];have tN:=JY (zA.out.trans (hb4.mono (by omega)));clear qM qW;have bG:=JY (aC.out.trans (tN.out.mono (by omega)));by_cases hc:cnt<=16
    · have q1 : ¬ (16:Int)<(cnt:Int):=by omega
      by_cases hl:xI<=200
      · have q2 : ¬ (200:Int)<(xI:Int):=by omega
        have tF:Hid (Hv.NW (Hv.Kc pl (D,G) (pl.steps.take (n+1))).2=true):=JY (by rw[fP.out];simp;omega);have cQ:Hid (ajS mb' lH lj D G (fun g=>N g\/B0<=g) B0 pl (.slice sa ns sc) im km u (n+1) P3 w4):=JY ⟨lV.out.below hb4,tK.out.below hb4,tM.out.below hb4,by have h1:=HI.out.len;have h2:=adf pl (Hv.Kc pl (D,G) (pl.steps.take n)) pl.steps[n];rw[vw.out];omega,zo.out tF.out,by rw[vw.out];exact HI.out.fine.step xW.out hsrt _,by rw[zK.out,zX.out,tF.out];rfl,HI.out.ge,tN.out⟩;clear hb4 iT hsrt lV tK tM;go_wp2_with fail;go_roundw
        case rel=>exact ⟨n+1,P3,by omega,by go_num,cQ⟩
        case measure=>simp[intOf];omega
      · have q2:(200:Int)<(xI:Int):=by omega
        have HE:Hid (Hv.LZ pl (D,G) pl.steps=true):=JY (by rw[zK.out,zX.out,fP.out];simp;omega);clear hb4 iT hsrt;go_wp2_with fail;go_ret;exact ⟨by rw[HE.out];rfl,bG.out⟩
    · have q1:(16:Int)<(cnt:Int):=by omega
      have HE:Hid (Hv.LZ pl (D,G) pl.steps=true):=JY (by rw[zK.out,zX.out,fP.out];simp;omega);clear hb4 iT hsrt;go_wp2_with fail;go_ret;exact ⟨by rw[HE.out];rfl,bG.out⟩
  · obtain rfl:n=ns:=by omega
    have b1 : ¬ (n:Int)<(n:Int):=by omega
    have HE:Hid (Hv.LZ pl (D,G) pl.steps=false):=JY (by rw[HI.out.left,Ha (by have:=jZ.out;omega)];rfl);have bG:=JY (aC.out.trans (HI.out.K7.mono (by omega)));go_wp2_with fail;go_ret;exact ⟨by rw[HE.out];rfl,bG.out⟩
end
section
open Kw (St ME)
open Hv (S VM)
namespace Hv
noncomputable def check (n:Int) (D:VM PD) (G:VM S) (xs:List S):Except Int Plan :=
 match wish xs with
 | .error k => .error k
 | .ok s=>if LY D s.R s.I≠0 then .error (LY D s.R s.I) else
  if LZ (KC D s.R s.I) (D,G) (KC D s.R s.I).steps=true then .error 15 else
   if Oj n D xs=true then .error 14 else .ok (KC D s.R s.I)
theorem aec{x t nm ve:S} {st:St} (h:Mg x=some (.ins t nm ve st)):Kw.parse (short KH) t=some (nm,ve,st)/\x.length=t.length+1:=by
 unfold Mg at h;split at h
 · cases h
 · split at h
   · split at h<;>cases h
   · split at h
     · split at h
       · cases h
       · next c l _ _ _ =>
         cases hp:Kw.parse (short KH) l with
         | none=>rw[hp] at h;cases h
         | some a =>
           rw[hp] at h;cases h;exact ⟨hp,rfl⟩
     · cases h
theorem YO:∀ (xs:List S) {s s':WS},OT xs s=some s'->(Named s.I/\Ki s.I)->Named s'.I/\Ki s'.I/\LG s'.I<=LG s.I+(xs.map List.length).sum
 | [],s,s',h,g=>by rw[OT] at h;cases h;exact ⟨g.1,g.2,by simp⟩
 | x::xs,s,s',h,g=>by
   rw[OT] at h;split at h
   · cases h
   next i hi =>
    have key:(Named (Pd s i).I/\Ki (Pd s i).I)/\LG (Pd s i).I<=LG s.I+x.length:=by
     cases i with
     | inl nm=>exact ⟨g,Nat.le_add_right _ _⟩
     | inr it=>
       obtain ⟨t,nm,ve,st⟩:=it
       have hp:=aec hi;refine ⟨⟨g.1.put g.2 rfl hp.1,g.2.put _ _⟩,?_⟩;have:=adk s.I nm ⟨t,nm,ve,st,1⟩;simp only[Pd] at this |-;omega
    obtain ⟨a,b,c⟩:=YO xs h key.1;refine ⟨a,b,?_⟩;simp only[Cp,FG];omega
theorem aaw{xs:List S} {s:WS} (h:wish xs = .ok s):Named s.I/\Ki s.I/\LG s.I<=(xs.map List.length).sum/\1<=xs.length/\xs.length<=6:=by
 unfold wish at h;split at h
 · cases h
 next hx =>
  split at h
  · cases h
  next s1 h1 =>
   split at h
   · cases h
   · cases h;obtain ⟨a,b,c⟩:=YO xs h1 ⟨Named.nil,IR⟩;have:LG ([]:VM PD)=0:=rfl;exact ⟨a,b,by rw[this] at c;omega,by omega,by omega⟩
theorem Ww{D:VM PD} {R:VM Value} {I:VM PD} (hD:Named D) (hI:Named I) (sD:Ki D) (sI:Ki I):∀ s∈(KC D R I).steps,s.2.length<=12:=fun s hs=>by
 have e:(KC D R I).steps=(order KS (leaveD D R)).map (fun x=>(1,x))++(order Km I).map (fun x=>(2,x))++(order Km I).map (fun x=>(3,x))++(J3 (LQ (Ko D R I) (J3 (Kr D R I)))).map (fun x=>(4,x)):=rfl;rw[e] at hs;simp only[IF,List.mem_map] at hs;rcases hs with ((⟨x,hx,rfl⟩ | ⟨x,hx,rfl⟩) | ⟨x,hx,rfl⟩) | ⟨x,hx,rfl⟩
 · have h:=(LH KS (Nn sD R) x).1 hx;rw[J9,Nl sD] at h;split at h
   · exact hD.len (by rw[J9];exact h)
   · cases h
 · exact hI.len ((LH Km sI x).1 hx)
 · exact hI.len ((LH Km sI x).1 hx)
 · have h:=aas (Nw I (cut D R) (Nu R D sD)) _ (mem_keys hx);rcases (aam sD R sI x).1 h with h | h
   · exact hI.len h
   · exact hD.len h.1
theorem ZW(D:VM PD) (R:VM Value) (I:VM PD):(KC D R I).steps.length<=2*D.length+3*I.length:=by
 have e:(KC D R I).steps=(order KS (leaveD D R)).map (fun x=>(1,x))++(order Km I).map (fun x=>(2,x))++(order Km I).map (fun x=>(3,x))++(J3 (LQ (Ko D R I) (J3 (Kr D R I)))).map (fun x=>(4,x)):=rfl;rw[e];simp only[AS,DH,Vy,J3];have h1:(leaveD D R).length<=D.length:=List.length_filter_le _ _;have h2:=VT (Ko D R I) (J3 (Kr D R I));have h3:(Ko D R I).length<=D.length+I.length:=by
  have h1:=Vq I (cut D R);have h2:=aaJ R D;unfold Ko;omega
 simp only[J3] at h2;omega
end Hv
end
end Go.Proofs.YtfhmaiicimdldaaGreatDoor
