import Derived.Test.YtfhmaiicimdldaaGreatDoorFinJ37
set_option maxHeartbeats 16000000
set_option maxRecDepth 100000
namespace Go.Proofs.YtfhmaiicimdldaaGreatDoor
section
open Go.RowKit
open Kw (St ME)
open Hv (S Dx VM Ns All Has Pj)
theorem aaV (pa pc:Option Addr) (na ca nc cc:Nat) (an ad:Nat->Int) (cu:Nat->Nat->Int) (x y:Addr) (w:World) (hA:abx w pa na an ad) (hC:aby w pc nc cu) (hE:Ph w.heap.size x y w) :
 Calls Tryz.prog 3 #[.slice pa na ca, .slice pc nc cc] w fun e w'=>e = .returned (.bool true)/\Below w.heap.size w w':=by
 have HE:=JY hE;have sM:=JY (fun w' (h:Below w.heap.size w w')=>hA.below h);have oQ:=JY (fun w' (h:Below w.heap.size w w')=>hC.below h);have hw0:0<w.heap.size:=by have h1:=hE.low.1;have h2:0<12:=(by decide);omega
 clear hA hC hE;go_enter Tryz.func3,Tryz.ntmps3;go_wp2_with fail;refine (amu 300 (by omega) (by omega) w hw0).mono ?_;rintro e w1 ⟨rfl,hd1,hb1⟩;have ag:=JY hb1;have bH:=JY hd1;have aH:=JY (HE.out.below hb1);clear hb1 hd1;go_wp2_with fail;refine (amA (C:=fun k=>w.heap.size<=k/\k<w1.heap.size) (L:=w.heap.size) w.heap.size x y w1 bH.out aH.out (fun k q=>q.1)).mono ?_;rintro e w2 ⟨hb,F,d,rfl,hop,hrun,bM,hF⟩;have ay:Hid (Rm w.heap.size x y w w2.heap.size 0 hb w.heap.size F d (fun _=>0) [] (w2.alloc (.cells #[.int .i64 0, .int .i64 0, .int .i64 0, .int .i64 0, .int .i64 0, .int .i64 0, .string ⟨#[]⟩] 30))):=JY (by
  have hsz:=bM.size;have hbs:=ag.out.size;have hbl:=(AD w2.heap.size w2).alloc (AC _) (.cells (Oz (fun _=>0) []) 30);refine ⟨by rw[Hv.aip];exact hrun.below hbl,AF w2 _,fun q=>by have:=(hrun.lt _ q).2;omega,by omega,(aH.out.far bM (fun k q=>q.1)).below hbl,?_,hop.calm aaF,by rw[hop.rb];rfl,by have:=hop.calls;rw[Xt] at this;omega,fun j _=>Bs _,by simp⟩;exact (ag.out.trans (bM.toBelow hbs (fun k hk q=>by have:=q.1;omega))).alloc (by omega) _)
 clear hop hrun bM hF ag bH aH HE;go_wp2_with fail;obtain ⟨u,hu⟩:∃ u,w2.alloc (.cells #[.int .i64 0, .int .i64 0, .int .i64 0, .int .i64 0, .int .i64 0, .int .i64 0, .string ⟨#[]⟩] 30)=u:=⟨_,rfl⟩
 obtain ⟨B,hB⟩:∃ B,w2.heap.size=B:=⟨_,rfl⟩
 obtain ⟨L,hL⟩:∃ L,w.heap.size=L:=⟨_,rfl⟩
 have eX:=JY hL;rw[hu,hB,hL] at ay;rw[hu,hB,hL];rw[hL] at sM oQ;clear hu hB hL hw0;go_loopg [5,6,8] 12 (fun gk t5 t6 t8 wr=>∃ (i hb db:Nat) (F:Nat->Prop) (d:Dx) (V:Nat->Nat) (Lg:S),i+gk=12/\t5 = .pointer (some ⟨db,0,none⟩)/\t6 = .pointer (some ⟨hb,0,none⟩)/\t8 = .int .i64 (i:Int)/\Hid (Rm L x y w B i hb db F d V Lg wr))
 case atStart=>exact ⟨0,hb,L,F,d,fun _=>0,[],by omega,rfl,rfl,rfl,ay⟩
 case round =>
  clear ay;obtain ⟨i,hb,db,F,d,V,Lg,hi,rfl,rfl,rfl,HI⟩:=hrel;by_cases hlt:i<na/\i<12
  · obtain ⟨EE,h12⟩:=hlt;have b0:(i:Int)<(na:Int):=by omega
    have b1:(i:Int)<12:=by omega
    have b2:(0:Int)<=(i:Int):=by omega
    obtain ⟨a,rfl,e0,e1,bC,hr1⟩:=sM.out wr HI.out.K7 i EE;obtain ⟨r,hr⟩:∃ r:Nat,i+1=r:=⟨_,rfl⟩
    have Ch:(i:Int)+1=(r:Int):=by omega
    have sk:=JY hr;have uz:=JY (show ∀ j,j<6->V j<r from fun j hj=>by have:=HI.out.vs j hj;omega);have jD:r<=12:=by omega
    have wR:0<r:=by omega
    have A0:=fun w'=>agC (an i) (ad i) bC hr1 V Lg (by have:=HI.out.lg;omega) r wR jD uz.out w'
    obtain ⟨al,hal⟩:∃ al,Hv.MF V (pk (an i) 6).toNat (pk (ad i) 27).toNat 3=al:=⟨_,rfl⟩
    have cH:=JY (show Hv.Uj V al from by rw[<- hal];exact Hv.Si 3 (by omega));obtain ⟨V',qG⟩:∃ V',Hv.Ll V r al=V':=⟨_,rfl⟩
    obtain ⟨M4,qE⟩:∃ M4,Lg++Hv.L8 r (Hv.newF al)=M4:=⟨_,rfl⟩
    obtain ⟨xs,hxs⟩:∃ xs,al.map (Hv.Me r)=xs:=⟨_,rfl⟩
    obtain ⟨n,hn⟩:∃ n,al.length=n:=⟨_,rfl⟩
    obtain ⟨ai,hai⟩:∃ z,an i=z:=⟨_,rfl⟩
    obtain ⟨di,hdi⟩:∃ z,ad i=z:=⟨_,rfl⟩
    have yl:=JY qG;have xY:=JY qE;have jt:=JY hxs;have HN:=JY hn;rw[hal,qG,qE,hxs,hn,hai,hdi] at A0;rw[hai] at e0;rw[hdi] at e1;have HIT:Hid (∀ w',Calls Tryz.prog 6 #[.agg #[.int .i64 ai, .int .i64 di], .agg #[.int .i64 (V 0), .int .i64 (V 1), .int .i64 (V 2), .int .i64 (V 3), .int .i64 (V 4), .int .i64 (V 5), .string ⟨Lg.toArray⟩], .int .i64 r] w' fun e w''=>∃ v,e = .returned (.tuple #[v, .agg #[.int .i64 (V' 0), .int .i64 (V' 1), .int .i64 (V' 2), .int .i64 (V' 3), .int .i64 (V' 4), .int .i64 (V' 5), .string ⟨M4.toArray⟩]])/\w''.ownsRow (w'.heap.size+3) 9 1 v n (xs.map Kl)/\Below w'.heap.size w' w''):=JY A0;have Ju:n<=6:=by rw[<- hn];exact cH.out.len
    clear A0 hal qG qE hxs hn hai hdi bC hr1 hr
    go_upto_region 9 with fail
    have BO : ¬ B=wr.heap.size:=by have:=blt HI.out.sh;omega
    rw[Sj a (i*2) 0] at e1;have bl:IntKind.i64.wrap (r:Int)=(r:Int):=by rw[De];omega
    have pZ:Hid (∀ w9,Below wr.heap.size wr w9->w9.cell? (a.add (i*2))=some (.int .i64 ai)/\w9.cell? ⟨(a.add (i*2)).block,(a.add (i*2)).off+1,none⟩=some (.int .i64 di)/\w9.cell? ⟨B,0,none⟩=some (.int .i64 (V 0))/\w9.cell? ⟨B,1,none⟩=some (.int .i64 (V 1))/\w9.cell? ⟨B,2,none⟩=some (.int .i64 (V 2))/\w9.cell? ⟨B,3,none⟩=some (.int .i64 (V 3))/\w9.cell? ⟨B,4,none⟩=some (.int .i64 (V 4))/\w9.cell? ⟨B,5,none⟩=some (.int .i64 (V 5))/\w9.cell? ⟨B,6,none⟩=some (.string ⟨Lg.toArray⟩)):=JY (fun w9 h9=>by
     have hs:=(h9.block B (blt HI.out.sh)).trans HI.out.sh;exact ⟨(h9.cell (Qf e0)).trans e0,(h9.cell (Qf e1)).trans e1,(JZ hs 0).trans rfl,(JZ hs 1).trans rfl,(JZ hs 2).trans rfl,(JZ hs 3).trans rfl,(JZ hs 4).trans rfl,(JZ hs 5).trans rfl,(JZ hs 6).trans rfl⟩)
    have aC:Hid (Below wr.heap.size wr wr):=JY (AD _ _);have eG:Hid (Below wr.heap.size wr wr.drew):=JY (AD _ _).drew;have za:Hid (Below wr.heap.size wr (wr.alloc (.cells #[.int .i64 0, .int .i64 0, .int .i64 0, .int .i64 0, .int .i64 0, .int .i64 0, .string ⟨#[]⟩] 30)).drew):=JY ((AD _ _).alloc (AC _) _).drew;clear e0 e1
    go_cut [9,10] from 23 to 118 (fun t9 t10 wx=>∃ (la:Option Addr) (lc TB:Nat),t9 = .slice la n lc/\t10 = .pointer (some ⟨TB,0,none⟩)/\Hid (alr wr.heap.size wr TB V' M4 (.slice la n lc) n xs wx))
    case first =>
     go_region_held3 (fun w'=>w'.cell? (a.add (i*2))=some (.int .i64 ai)/\w'.cell? ⟨(a.add (i*2)).block,(a.add (i*2)).off+1,none⟩=some (.int .i64 di)/\w'.cell? ⟨B,0,none⟩=some (.int .i64 (V 0))/\w'.cell? ⟨B,1,none⟩=some (.int .i64 (V 1))/\w'.cell? ⟨B,2,none⟩=some (.int .i64 (V 2))/\w'.cell? ⟨B,3,none⟩=some (.int .i64 (V 3))/\w'.cell? ⟨B,4,none⟩=some (.int .i64 (V 4))/\w'.cell? ⟨B,5,none⟩=some (.int .i64 (V 5))/\w'.cell? ⟨B,6,none⟩=some (.string ⟨Lg.toArray⟩))
      (first | with_reducible exact pZ.out _ aC.out | with_reducible exact pZ.out _ eG.out | with_reducible exact pZ.out _ za.out | with_reducible exact pZ.out _ bf.out | with_reducible exact pZ.out _ bF.out | exact pZ.out _ jQ.out)
      (first
       | (go_at_call 6; (with_reducible refine (HIT.out wr.drew).mono ?_);rintro e w5 ⟨v5,rfl,d9,jx⟩;obtain ⟨la,lc,rfl⟩:=J4 d9;have pL:=JY d9;have bf:Hid (Below wr.heap.size wr w5):=JY (eG.out.trans jx);have bF:=JY (bf.out.alloc bf.out.size (.cells #[.int .i64 0, .int .i64 0, .int .i64 0, .int .i64 0, .int .i64 0, .int .i64 0, .string ⟨#[]⟩] 30));have jQ:=JY (bf.out.alloc bf.out.size (.cells #[.int .i64 (V' 0), .int .i64 (V' 1), .int .i64 (V' 2), .int .i64 (V' 3), .int .i64 (V' 4), .int .i64 (V' 5), .string ⟨M4.toArray⟩] 30));clear d9 jx)
       | (go_at_call 6; (with_reducible refine (HIT.out (wr.alloc (.cells #[.int .i64 0, .int .i64 0, .int .i64 0, .int .i64 0, .int .i64 0, .int .i64 0, .string ⟨#[]⟩] 30)).drew).mono ?_);rintro e w5 ⟨v5,rfl,d9,jx⟩;obtain ⟨la,lc,rfl⟩:=J4 d9;have pL:=JY d9;have bf:Hid (Below wr.heap.size wr w5):=JY (za.out.trans (jx.mono (by show wr.heap.size<=(wr.alloc _).heap.size;simp)));obtain ⟨CJ,z0,y0,z1,y1,z2,y2,z3,y3,z4,y4,z5,y5,z6,y6⟩:=afc jx;have Gd:=JY CJ;have jQ:=JY (TY bf.out (AC wr.heap.size) V' M4);clear d9 jx CJ))
     all_goals (go_wp2_with fail;go_meet)
     all_goals first
      | (have HW:=JY (anD (V':=V') (M4:=M4) Gd.out bf.out pL.out (by show wr.heap.size<(wr.alloc _).heap.size+3;simp;omega));exact ⟨la,lc,wr.heap.size,rfl,rfl,HW⟩)
      | (have HW:=JY (anB (V':=V') (M4:=M4) (AC _) bf.out pL.out (by show wr.heap.size<=wr.heap.size+3;omega));exact ⟨la,lc,w5.heap.size,rfl,rfl,HW⟩)
    case rest =>
     obtain ⟨la,lc,TB,rfl,rfl,HT⟩:=hcut;clear bl pZ eG aC za HIT BO sM;obtain ⟨wz,rfl⟩:∃ wz,wz=wc:=⟨_,rfl⟩
     have s6:=(JZ HT.out.1 6).trans (show _=some (.string ⟨M4.toArray⟩) from rfl);by_cases hn0:n=0
     · have dX:=JY (show Rm L x y w B r hb db F d V Lg wz from by rw[<- sk.out];exact (HI.out.below HT.out.2.2.1).more);clear HI HT;subst hn0;go_wp2_with fail;go_roundg (gk-1)
       case measure=>omega
       case rel=>exact ⟨r,hb,db,F,d,V,Lg,by have:=sk.out;omega,rfl,rfl,rfl,dX⟩
     by_cases hlong:200<M4.length
     · have dX:=JY (show Rm L x y w B r hb db F d V Lg wz from by rw[<- sk.out];exact (HI.out.below HT.out.2.2.1).more);clear HI HT;have b3 : ¬ (n:Int)=0:=by omega
       have b4:(200:Int)<(M4.length:Int):=by omega
       go_wp2_with fail;go_roundg (gk-1)
       case measure=>omega
       case rel=>exact ⟨r,hb,db,F,d,V,Lg,by have:=sk.out;omega,rfl,rfl,rfl,dX⟩
     have b3 : ¬ (n:Int)=0:=by omega
     have b4 : ¬ (200:Int)<(M4.length:Int):=by omega
     have hne:al≠[]:=fun e=>hn0 (by rw[<- HN.out,e];rfl)
     obtain ⟨pl,qF⟩:=akh wR jD uz.out cH.out hne (by rw[xY.out];omega);rw[jt.out,yl.out,xY.out] at qF;have pX:=JY qF;have pA:=JY (show M4.length<=200 by omega);have yo:=JY (show ∀ j,j<6->V' j<=r from fun j hj=>by rw[<- yl.out];have:=Hv.RN (al:=al) uz.out j hj;omega);have yb:=JY hne;have nz:=JY (show d.calls<=6000000+20000000*i/\Lg.length<=200 from ⟨HI.out.calls,HI.out.lg⟩);have sx:0<L:=by have h1:=HI.out.env.low.1;have h2:0<12:=(by decide);omega
     have nM:=JY sx;clear qF hne sx
     go_upto_if 57 with fail
     obtain ⟨CB,lq⟩:∃ CB,wz.heap.size=CB:=⟨_,rfl⟩
     obtain ⟨wd,hwd⟩:∃ wd,wz.alloc (.cells #[.int .i64 (-1), .int .i64 5, .int .i64 0, .int .i64 0] 37)=wd:=⟨_,rfl⟩
     have hR:FiR L x y w B TB CB V Lg V' M4 #[.int .i64 (-1), .int .i64 5, .int .i64 0, .int .i64 0] (.slice la n lc) xs wd/\WM B TB CB (.slice la n lc) F/\Lh L F hb db d (Hv.Mf V) (Hv.Lp Lg) wd:=by
      rw[<- hwd,<- lq];obtain ⟨t1,t2,t3,t4⟩:=HT.out;have hxl:xs.length=n:=by rw[<- jt.out,DH,HN.out]
      refine HI.out.round (t3.alloc t3.size _) ((AM _ _ _ (blt t1)).trans t1) (AF wz _) t2 t3.size (by have:=blt t1;omega) (fun g hg=>by have:=(t4.lt g hg).2;omega) ?_;rw[hxl];exact Ky t4 ((AD wz.heap.size wz).alloc (AC _) _)
     obtain ⟨Eb,vq,sy⟩:=hR;have HR:=JY Eb;have jK:=JY vq;have fD:=JY sy;have gX:=JY HI.out.rb;have je:=JY (fun k (q:F k)=>(sy.lt k q).1);have rR:=JY HI.out.calm;rw[hwd,lq];clear hwd lq HI HT s6 Eb vq sy
     go_cut [] from 23 to 118 (fun wx=>∃ (d2:Dx) (c0 c1 c2 c3:Int),Hid (FiR L x y w B TB CB V Lg V' M4 #[.int .i64 c0, .int .i64 c1, .int .i64 c2, .int .i64 c3] (.slice la n lc) xs wx)/\Hid (Lh L F hb db d2 (Hv.Mf V) (Hv.Lp Lg) wx/\d2.calls=d.calls /\ ¬ F d2.rb/\d2.rb<wx.heap.size)/\Hid ((-9223372036854775808<=c2/\c2<=9223372036854775807)/\(-9223372036854775808<=c3/\c3<=9223372036854775807)))
     case first =>
      by_cases hc:i<nc
      · have b5:(i:Int)<(nc:Int):=by omega
        obtain ⟨ac,rfl,k0,k1,k2,k3,hcr⟩:=oQ.out wd HR.out.K7 i hc;obtain ⟨c0,hc0⟩:∃ c0,cu i 0=c0:=⟨_,rfl⟩
        obtain ⟨c1,hc1⟩:∃ c1,cu i 1=c1:=⟨_,rfl⟩
        obtain ⟨c2,hc2⟩:∃ c2,cu i 2=c2:=⟨_,rfl⟩
        obtain ⟨c3,hc3⟩:∃ c3,cu i 3=c3:=⟨_,rfl⟩
        have r0:=hcr 0;have r1:=hcr 1;have r2:=hcr 2;have r3:=hcr 3;rw[Sj ac (i*4) 0] at k1;rw[Sj ac (i*4) 1] at k2;rw[Sj ac (i*4) 2] at k3;rw[hc0] at k0 r0;rw[hc1] at k1 r1;rw[hc2] at k2 r2;rw[hc3] at k3 r3;have mh:=JY (And.intro r2 r3);have uw:=JY r0;have ux:=JY r1;have il:=JY HR.out.cut;have aU:=JY (HR.out.amo (cs' := #[.int .i64 c0, .int .i64 c1, .int .i64 c2, .int .i64 c3]));have eK:=JY (fD.out.aside jK.out.c (by rw[gX.out];have:=HR.out.at_.2.2.1;have:=nM.out;omega) (by have:=HR.out.at_.2.2.1;have:=HR.out.env.low.1;omega) (ab5 wd CB #[.int .i64 c0, .int .i64 c1, .int .i64 c2, .int .i64 c3]));have FN:Hid ((#[.int .i64 c0, .int .i64 c1, .int .i64 c2, .int .i64 c3]:Array Value).all (·.oneCell')=true):=JY (by simp[Value.oneCell']);have Fh:Hid ((Tryz.prog.info? 37).map (·.size)=some 4):=JY (by kernel_rfl);clear hcr hc0 hc1 hc2 hc3 r0 r1 r2 r3 HR fD;go_wp2_with (refine wpList_store_row rfl 37 _ _ rfl CB #[.int .i64 c0, .int .i64 c1, .int .i64 c2, .int .i64 c3] rfl rfl _ #[.int .i64 (-1), .int .i64 5, .int .i64 0, .int .i64 0] il.out Fh.out rfl FN.out ?_)
        obtain ⟨we,CC⟩:∃ we,wd.setRow CB #[.int .i64 c0, .int .i64 c1, .int .i64 c2, .int .i64 c3]=we:=⟨_,rfl⟩
        rw[CC] at aU eK;rw[CC];clear CC k0 k1 k2 k3 il;obtain ⟨-, -, -,C,hd, -⟩:=eK.out.has;obtain ⟨nb,aq,mb,ak,vs,bv,hdi⟩:=hd;obtain ⟨-, -,q2,q3, -, -, -, -, -,gf⟩:=hdi.cells;have qw:=gf 3;have e6:=(JZ aU.out.cut 0).trans (show _=some (.int .i64 c0) from rfl);have hcn:=nz.out.1;clear hdi gf;obtain ⟨sL,wB⟩:∃ sL,d.calls=sL:=⟨_,rfl⟩
        rw[wB] at q2 hcn;have jo:=JY (Qz c0 80 (by decide) (by decide) uw.out.1 uw.out.2 we.drew);have hp1:=afC c0 80 (by decide);obtain ⟨p,hp⟩:∃ p,pk c0 80=p:=⟨_,rfl⟩
        rw[hp] at jo hp1;have hsw:IntKind.i64.wrap ((sL:Int)+p)=(sL:Int)+p:=by rw[De];omega
        clear hp wB;go_wp2_with fail
        go_region_held3 (fun w'=>w'.cell? ⟨db,2,none⟩=some (.int .i64 sL)/\w'.cell? ⟨CB,0,none⟩=some (.int .i64 c0))
         (first | assumption | exact ⟨q2,e6⟩ | simp[go_sem, *])
         (first
          | (go_at_call 7;refine jo.out.mono ?_;rintro e w5 ⟨rfl,rfl⟩))
        obtain ⟨a,ha⟩:∃ a:Int,(sL:Int)+p=a:=⟨_,rfl⟩
        rw[ha];have wW : ¬ F d.rb:=fun q=>by have h1:=je.out _ q;rw[gX.out] at h1;have:=nM.out;omega
        have jw:=below_drewN (AD (we.setCell ⟨db,3,none⟩ (.int .i64 a)).heap.size (we.setCell ⟨db,3,none⟩ (.int .i64 a))) 1;have dv:Hid (FiR L x y w B TB CB V Lg V' M4 #[.int .i64 c0, .int .i64 c1, .int .i64 c2, .int .i64 c3] (.slice la n lc) xs (we.setCell ⟨db,3,none⟩ (.int .i64 a)).drew):=JY ((aU.out.field jK.out eK.out.V6 je.out 3 _).below jw);have mj:Hid (Lh L F hb db { d with after:=a } (Hv.Mf V) (Hv.Lp Lg) (we.setCell ⟨db,3,none⟩ (.int .i64 a)).drew):=JY ((eK.out.P5 wW a).below jw);obtain ⟨w5,rJ⟩:∃ w5,(we.setCell ⟨db,3,none⟩ (.int .i64 a)).drew=w5:=⟨_,rfl⟩
        rw[rJ] at dv mj |-;obtain ⟨d3,hd3⟩:∃ d3,({ d with after:=a }:Dx)=d3:=⟨_,rfl⟩
        have lO:=JY (show d3.calls=d.calls from by rw[<- hd3]);rw[hd3] at mj;clear hd3;have e7:=(JZ dv.out.cut 1).trans (show _=some (.int .i64 c1) from rfl);clear rJ jw q2 q3 qw e6 ha hsw hp1 jo aU eK wW hcn;go_wp2_with fail;refine (agt c1 ux.out.1 ux.out.2 w5).mono ?_;rintro e w6 ⟨f,rfl,hfl⟩;have iV:=JY (dv.out.below hfl.K7);have fE:=JY (mj.out.below hfl.K7);have tB:=JY hfl;obtain ⟨-, -, -,C,hd, -⟩:=fE.out.has;obtain ⟨nb,aq,mb,ak,vs,bv,hdi⟩:=hd;obtain ⟨-, -, -, -, -,g5, -, -, -,gf⟩:=hdi.cells;have AK:=gf 5;clear hdi gf e7 hfl dv;go_wp2_with fail;go_meet
        case rel =>
         have H8:=tB.out.rb d3;have hnf : ¬ F ({ d3 with fl:=f }:Dx).rb:=fun q=>by
          have h1:=je.out _ q;have h2:=(mj.out.lt _ q).2;have:=nM.out;omega
         have hlt:({ d3 with fl:=f }:Dx).rb<w6.heap.size:=by
          have h2:=(fE.out.lt db fE.out.V6).2;omega
         exact ⟨_,c0,c1,c2,c3,JY (iV.out.field jK.out fE.out.V6 je.out 5 _),JY ⟨fE.out.ac8 f tB.out.at_ ⟨hnf,hlt⟩,lO.out,hnf,by simpa using hlt⟩,mh⟩
      · have b5 : ¬ (i:Int)<(nc:Int):=by omega
        go_wp2_with fail;go_meet
        case rel=>exact ⟨d, -1,5,0,0,HR,JY ⟨fD.out,rfl,fun q=>by have h1:=je.out _ q;rw[gX.out] at h1;have:=nM.out;omega,by rw[gX.out];have:=(fD.out.lt db fD.out.V6).2;omega⟩,JY (by omega)⟩
     case rest =>
      clear HR fD oQ gX rR;obtain ⟨d2,c0,c1,c2,c3,HR,fD,mh⟩:=hcut;obtain ⟨wd,rfl⟩:∃ wd,wd=wc:=⟨_,rfl⟩
      have jR:=JY (ady pX.out (by have h1:=fD.out.2.1;have h2:=nz.out.1;omega) _ wd HR.out.env fD.out.1 HR.out.lst jK.out.l);go_wp2_with fail;refine jR.out.mono ?_;rintro e w5 ⟨r5,rfl,d5,hop,bM,fq⟩;have eA:=JY (HR.out.far bM jK.out je.out);have bj:=JY (show d5.rb=d2.rb/\d5.calls<=d.calls+1500000 from ⟨hop.rb,by have h1:=hop.calls;have h2:=fD.out.2.1;omega⟩);have oC:r5=0\/r5=16\/r5=17:=hop.rr;clear hop bM jR
      go_upto_if 83 with fail
      go_cut [5,6] from 23 to 118 (fun t5 t6 wx=>∃ (hb2 mz:Nat) (F2:Nat->Prop) (d6:Dx),t5 = .pointer (some ⟨mz,0,none⟩)/\t6 = .pointer (some ⟨hb2,0,none⟩)/\Hid (FiR L x y w B TB CB V Lg V' M4 #[.int .i64 c0, .int .i64 c1, .int .i64 c2, .int .i64 c3] (.slice la n lc) xs wx)/\Hid (WM B TB CB (.slice la n lc) F2)/\Hid (Lh L F2 hb2 mz d6 (Hv.Mf V') (Hv.Lp M4) wx/\d6.calm/\d6.rb=0/\d6.calls<=d.calls+19000000))
      case first =>
       rcases fq with ⟨rfl,F5,D2,G2,⟨rfl,rfl⟩,hrun,AY⟩ | ⟨bC,C5,vH,mG,hall⟩
       · have jr:=JY hrun;have iA:=JY (jK.out.next HR.out (AC _) AY);have ou : ¬ F5 d5.rb:=fun q=>by
          rw[bj.out.1] at q;rcases AY _ q with q | q
          · exact fD.out.2.2.1 q
          · have:=fD.out.2.2.2;omega
         obtain ⟨-, -, -,C,hd, -⟩:=hrun.has;obtain ⟨nb,aq,mb,ak,vs,bv,hdi⟩:=hd;obtain ⟨-, -, -,g3, -,g5, -, -, -,gf⟩:=hdi.cells;have qw:=gf 3;have AK:=gf 5;have tA:=JY (fun k (q:F5 k)=>(hrun.lt k q).1);have dc:=JY (hrun.idle ou nM.out);clear hdi gf hrun AY ou oC;go_wp2_with fail;go_meet
         case rel=>exact ⟨hb,db,F5,V9 d5,rfl,rfl,JY ((eA.out.field iA.out jr.out.V6 tA.out 3 _).field iA.out jr.out.V6 tA.out 5 _),iA,JY ⟨dc.out.1,dc.out.2.1,dc.out.2.2,by have:=bj.out.2;show d5.calls<=_;omega⟩⟩
       · have iA:=JY (jK.out.next HR.out (AC _) mG);have cY:=JY (show ∀ k,C5 k->L<=k from fun k q=>(mG k q).elim (je.out k) (fun q=>by have:=HR.out.env.low.2.2.2;omega));have tD:=JY (adY pX.out hall (by have h1:=bj.out.2;have h2:=nz.out.1;omega) c0 c1 c2 c3 mh.out.1 mh.out.2 w5 vH eA.out.env cY.out);have h1:=(JZ eA.out.cut 0).trans (show _=some (.int .i64 c0) from rfl);have h2:=(JZ eA.out.cut 1).trans (show _=some (.int .i64 c1) from rfl);have h3:=(JZ eA.out.cut 2).trans (show _=some (.int .i64 c2) from rfl);have h4:=(JZ eA.out.cut 3).trans (show _=some (.int .i64 c3) from rfl);have cS:=JY (oC.resolve_left bC);have b6 : ¬ r5=0:=bC;have b7:(r5==0)=false:=by simpa using bC
         have b8:decide (r5=0)=false:=by simpa using bC
         clear vH mG hall oC bC HR fD jK
         go_upto_region 20 with fail
         go_cut [95] from 23 to 118 (fun t wx=>t = .bool false/\wx=w5)
         case first =>
          rcases cS.out with rfl | rfl
          · go_wp2_with fail;go_meet
            case rel=>exact ⟨rfl,rfl⟩
          · go_wp2_with fail;go_meet
            case rel=>exact ⟨rfl,rfl⟩
         case rest =>
         obtain ⟨rfl,hcw⟩:=hcut;subst hcw;go_wp2_with fail;refine tD.out.mono ?_;rintro e w6 ⟨hb2,mz,d6,F2,D2,G2,rfl,hok,hrun,hcm,hrb,hcl,bM,hF2⟩;have kZ:=JY (eA.out.far bM iA.out cY.out);have jn:=JY (iA.out.next eA.out (AC _) hF2);have nC:=JY (show d6.calm/\d6.rb=0/\d6.calls<=d.calls+16500000 from ⟨hcm,hrb,by have:=bj.out.2;omega⟩);have ke:=JY kZ.out.sh;clear tD bM hF2 hcm hrb hcl eA iA h1 h2 h3 h4;rcases hok with ⟨rfl,rfl⟩ | ⟨rfl,rfl⟩
         · have dQ:=JY (aaR V Lg (fun j hj=>by have:=uz.out j hj;omega) nz.out.2 w6 hrun);clear hrun;go_wp2_with (refine wpList_load_row rfl 30 _ rfl B rfl _ (Oz V Lg) (0,0) _ ke.out Tryz.underlying30 rfl (RZ V Lg) ?_)
           refine dQ.out.mono ?_;rintro e w7 ⟨rfl,bK,dB⟩;have fY:=JY (kZ.out.far dB jn.out (fun k q=>(bK.lt k q).1));have jR:=JY (YR pX.out nC.out.1 (by have h1:=nC.out.2.2;have h2:=nz.out.1;omega) _ w7 fY.out.env bK fY.out.lst jn.out.l);have zn:=JY (fun k (q:F2 k)=>(bK.lt k q).1);clear bK dB dQ ke kZ;go_wp2_with fail;refine jR.out.mono ?_;rintro e w8 ⟨F8,d8,rfl,mZ,oD,og,DR⟩;have ut:=JY (fY.out.far og jn.out zn.out);have zY:=JY (jn.out.next fY.out (AC _) DR);have Ga:=JY (show Lh L F8 hb2 mz d8 (Hv.Mf V') (Hv.Lp M4) w8/\d8.calm/\d8.rb=0/\d8.calls<=d.calls+19000000 from ⟨oD,mZ.calm nC.out.1,by rw[mZ.rb];exact nC.out.2.1,by have h1:=mZ.calls;have h2:=nC.out.2.2;omega⟩);clear mZ oD og DR jR;go_wp2_with fail;go_meet
           case rel=>exact ⟨hb2,mz,F8,d8,rfl,rfl,ut,zY,Ga⟩
         · have dQ:=JY (amW (al:=al) (r:=r) (L2:=M4) V Lg jD uz.out cH.out yb.out pA.out w6 (by rw[yl.out];exact hrun));rw[yl.out] at dQ;clear hrun;go_wp2_with (refine wpList_load_row rfl 30 _ rfl B rfl _ (Oz V Lg) (0,0) _ ke.out Tryz.underlying30 rfl (RZ V Lg) ?_)
           refine dQ.out.mono ?_;rintro e w7 ⟨rfl,bK,dB⟩;have fY:=JY (kZ.out.far dB jn.out (fun k q=>(bK.lt k q).1));have F9:=JY (show Lh L F2 hb2 mz d6 (Hv.Mf V') (Hv.Lp M4) w7/\d6.calm/\d6.rb=0/\d6.calls<=d.calls+19000000 from ⟨bK,nC.out.1,nC.out.2.1,by have h2:=nC.out.2.2;omega⟩);clear bK dB dQ ke kZ;go_wp2_with fail;go_meet
           case rel=>exact ⟨hb2,mz,F2,d6,rfl,rfl,fY,jn,F9⟩
      case rest =>
       clear HR fD jK eA bj fq oC je;obtain ⟨hb2,mz,F2,d6,rfl,rfl,HR,jK,HX⟩:=hcut;obtain ⟨w6,rfl⟩:∃ w6,w6=wc:=⟨_,rfl⟩
       have Dj:=JY HR.out.tos;have dQ:=JY (aaR V' M4 (fun j hj=>by have:=yo.out j hj;omega) pA.out w6 HX.out.1);go_wp2_with (refine wpList_load_row rfl 30 _ rfl TB rfl _ (Oz V' M4) (0,0) _ Dj.out Tryz.underlying30 rfl (RZ V' M4) ?_)
       refine dQ.out.mono ?_;rintro e w7 ⟨rfl,bK,dB⟩;have fY:=JY (HR.out.far dB jK.out (fun k q=>(bK.lt k q).1));have Am:=JY fY.out.tos;have Aj:=JY fY.out.sh;have dX:=JY (Rm.done fY.out jK.out bK HX.out.2.1 HX.out.2.2.1 (by have h1:=HX.out.2.2.2;have h2:=nz.out.1;have h3:=sk.out;omega) yo.out pA.out);clear bK dB dQ Dj HR HX;go_wp2_with (first
        | (refine wpList_load_row rfl 30 _ rfl TB rfl _ (Oz V' M4) (0,0) _ Am.out Tryz.underlying30 rfl (RZ V' M4) ?_)
        | (refine wpList_store_row rfl 30 _ _ rfl B (Oz V' M4) rfl rfl _ (Oz V Lg) Aj.out (RZ V' M4) rfl (akR V' M4) ?_))
       go_roundg (gk-1)
       case measure=>omega
       case rel=>exact ⟨r,hb2,mz,F2,d6,V',M4,by have:=sk.out;omega,rfl,rfl,rfl,dX⟩
  · by_cases EE:i<na
    · have b0:(i:Int)<(na:Int):=by omega
      have b1 : ¬ (i:Int)<12:=by omega
      have nr:∀ j,j<6->V j<=12:=fun j hj=>by have:=HI.out.vs j hj;omega
      have mJ:∃ C:Nat->Prop,(∀ k,C k->L<=k) /\ ¬ C B/\Calls Tryz.prog 12 #[SN db] wr fun e w'=>∃ hb F d',e = .returned (.tuple #[.pointer (some ⟨hb,0,none⟩), .int .i64 0])/\Ns d d' 0 1000200/\Lh L F hb db d' (Hv.Mf V) (Hv.Lp Lg) w'/\Kj wr.heap.size C wr w'/\∀ k,F k->C k\/wr.heap.size<=k:=by
       obtain ⟨C,N,eb,sb,mb,pm,fm,a9,P,h1,h2,h3,h4⟩:=HI.out.run;have kq:∀ k,C k->L<=k:=fun k q=>(h4 k (h3 k (.inl (.inl (.inl q))))).1
       exact ⟨C,kq,fun q=>HI.out.noB (h3 B (.inl (.inl (.inl q)))),YS (L:=L) (x:=x) (y:=y) (LP.of (Hv.RD nr HI.out.lg) (UD V Lg) ⟨by simp,fun x q=>(by cases q)⟩ ⟨Ux nr,Rx⟩) h2.has HI.out.calm (by have:=HI.out.calls;omega) wr h1.Lu.dk HI.out.env kq⟩
      obtain ⟨C,kq,lq,mJ⟩:=mJ;have nO:=JY mJ;have cY:=JY kq;have kP:=JY lq;have Aq:=JY nr;clear mJ kq lq nr sM oQ;go_wp2_with fail;refine nO.out.mono ?_;rintro e w3 ⟨hb3,F3,d3,rfl,rA,gL,cM,AX⟩;have bU:=(cM.block B (blt HI.out.sh) kP.out).trans HI.out.sh;have s0:=(JZ bU 0).trans (show _=some (.int .i64 (V 0)) from rfl);have s1:=(JZ bU 1).trans (show _=some (.int .i64 (V 1)) from rfl);have s2:=(JZ bU 2).trans (show _=some (.int .i64 (V 2)) from rfl);have s3:=(JZ bU 3).trans (show _=some (.int .i64 (V 3)) from rfl);have s4:=(JZ bU 4).trans (show _=some (.int .i64 (V 4)) from rfl);have s5:=(JZ bU 5).trans (show _=some (.int .i64 (V 5)) from rfl);have s6:=(JZ bU 6).trans (show _=some (.string ⟨Lg.toArray⟩) from rfl);have dQ:=JY (aaR V Lg Aq.out HI.out.lg w3 gL);have av:=JY (HI.out.K7.trans (cM.toBelow HI.out.base (fun k hk q=>by have:=cY.out k q;omega)));have iy:=JY (show L<=w3.heap.size from by have h1:=cM.size;have h2:=HI.out.base;omega);clear rA gL cM AX bU nO;go_wp2_with fail;refine dQ.out.mono ?_;rintro e w4 ⟨rfl,gM,gw⟩;have aB:=JY (av.out.trans (gw.toBelow iy.out (fun k hk q=>by have:=(gM.lt k q).1;omega)));clear gM gw dQ s0 s1 s2 s3 s4 s5 s6;go_wp2_with fail;go_ret;exact ⟨rfl,by first | exact aB.out | (rw[eX.out];exact aB.out)⟩
    · have b0 : ¬ (i:Int)<(na:Int):=by omega
      have nr:∀ j,j<6->V j<=12:=fun j hj=>by have:=HI.out.vs j hj;omega
      have mJ:∃ C:Nat->Prop,(∀ k,C k->L<=k) /\ ¬ C B/\Calls Tryz.prog 12 #[SN db] wr fun e w'=>∃ hb F d',e = .returned (.tuple #[.pointer (some ⟨hb,0,none⟩), .int .i64 0])/\Ns d d' 0 1000200/\Lh L F hb db d' (Hv.Mf V) (Hv.Lp Lg) w'/\Kj wr.heap.size C wr w'/\∀ k,F k->C k\/wr.heap.size<=k:=by
       obtain ⟨C,N,eb,sb,mb,pm,fm,a9,P,h1,h2,h3,h4⟩:=HI.out.run;have kq:∀ k,C k->L<=k:=fun k q=>(h4 k (h3 k (.inl (.inl (.inl q))))).1
       exact ⟨C,kq,fun q=>HI.out.noB (h3 B (.inl (.inl (.inl q)))),YS (L:=L) (x:=x) (y:=y) (LP.of (Hv.RD nr HI.out.lg) (UD V Lg) ⟨by simp,fun x q=>(by cases q)⟩ ⟨Ux nr,Rx⟩) h2.has HI.out.calm (by have:=HI.out.calls;omega) wr h1.Lu.dk HI.out.env kq⟩
      obtain ⟨C,kq,lq,mJ⟩:=mJ;have nO:=JY mJ;have cY:=JY kq;have kP:=JY lq;have Aq:=JY nr;clear mJ kq lq nr sM oQ;go_wp2_with fail;refine nO.out.mono ?_;rintro e w3 ⟨hb3,F3,d3,rfl,rA,gL,cM,AX⟩;have bU:=(cM.block B (blt HI.out.sh) kP.out).trans HI.out.sh;have s0:=(JZ bU 0).trans (show _=some (.int .i64 (V 0)) from rfl);have s1:=(JZ bU 1).trans (show _=some (.int .i64 (V 1)) from rfl);have s2:=(JZ bU 2).trans (show _=some (.int .i64 (V 2)) from rfl);have s3:=(JZ bU 3).trans (show _=some (.int .i64 (V 3)) from rfl);have s4:=(JZ bU 4).trans (show _=some (.int .i64 (V 4)) from rfl);have s5:=(JZ bU 5).trans (show _=some (.int .i64 (V 5)) from rfl);have s6:=(JZ bU 6).trans (show _=some (.string ⟨Lg.toArray⟩) from rfl);have dQ:=JY (aaR V Lg Aq.out HI.out.lg w3 gL);have av:=JY (HI.out.K7.trans (cM.toBelow HI.out.base (fun k hk q=>by have:=cY.out k q;omega)));have iy:=JY (show L<=w3.heap.size from by have h1:=cM.size;have h2:=HI.out.base;omega);clear rA gL cM AX bU nO;go_wp2_with fail;refine dQ.out.mono ?_;rintro e w4 ⟨rfl,gM,gw⟩;have aB:=JY (av.out.trans (gw.toBelow iy.out (fun k hk q=>by have:=(gM.lt k q).1;omega)));clear gM gw dQ s0 s1 s2 s3 s4 s5 s6;go_wp2_with fail;go_ret;exact ⟨rfl,by first | exact aB.out | (rw[eX.out];exact aB.out)⟩
end
end Go.Proofs.YtfhmaiicimdldaaGreatDoor
