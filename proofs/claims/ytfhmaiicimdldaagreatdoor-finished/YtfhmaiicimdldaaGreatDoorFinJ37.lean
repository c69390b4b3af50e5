import Derived.Test.YtfhmaiicimdldaaGreatDoorFinJ36
set_option maxHeartbeats 16000000
set_option maxRecDepth 100000
namespace Go.Proofs.YtfhmaiicimdldaaGreatDoor
variable {B L M N db hb n r:Nat}{x y:Addr}{w w' w5 wr:World}{v:Value}{F:Nat->Prop}{V':Nat->Nat}
section
open Go.RowKit
open Kw (St ME)
open Hv (S Dx VM Ns All Zl Has Pj)
theorem adY{C0:Nat->Prop} {yu:Nat} {d0:Dx} {D D':VM Hv.PD} {G G':VM S} {xs:List S} {pl:Hv.Plan} (h:Rnd D G xs pl D' G') (hall:All d0 (O7 300 (adD D G xs pl D' G'))) (au:d0.calls<=900000000) (ca cf ck cn:Int) (eD : -9223372036854775808<=ck/\ck<=9223372036854775807) (hcn : -9223372036854775808<=cn/\cn<=9223372036854775807) (w:World) (hd:Kq C0 yu d0 w) (hE:Ph L x y w) (hC:∀ k,C0 k->L<=k) :
 Calls Tryz.prog 10 #[.pointer (some ⟨yu,0,none⟩), .agg #[.int .i64 ca, .int .i64 cf, .int .i64 ck, .int .i64 cn]] w fun e w'=>∃ hb db d' F D2 G2,e = .returned (.tuple #[.pointer (some ⟨hb,0,none⟩), .pointer (some ⟨db,0,none⟩)])/\abC D G D' G' D2 G2/\Lh L F hb db d' D2 G2 w'/\d'.calm/\d'.rb=0/\d'.calls<=d0.calls+15000000/\Kj w.heap.size C0 w w'/\∀ k,F k->C0 k\/w.heap.size<=k:=by
 have HR:=JY h;obtain ⟨T,hT⟩:∃ T,adD D G xs pl D' G'=T:=⟨_,rfl⟩
 have uK:=JY hT;rw[hT] at hall;obtain ⟨V,hV⟩:∃ V,d0.calls=V:=⟨_,rfl⟩
 rw[hV] at au |-;have hcl:=hd.lt;have hrow:=AF w (.cells #[.int .i64 ca, .int .i64 cf, .int .i64 ck, .int .i64 cn] 37);have hb0:=(AD w.heap.size w).alloc (AC _) (.cells #[.int .i64 ca, .int .i64 cf, .int .i64 ck, .int .i64 cn] 37);have ay:Hid (OY L x y C0 V T (w.alloc (.cells #[.int .i64 ca, .int .i64 cf, .int .i64 ck, .int .i64 cn] 37)) 0 yu C0 d0 (w.alloc (.cells #[.int .i64 ca, .int .i64 cf, .int .i64 ck, .int .i64 cn] 37))):=JY ⟨hd.below hb0,hE.below hb0,hC,fun q hq => .inl hq,Kj.refl _ _ _,hall,by omega⟩;have hcut : ¬ C0 w.heap.size:=fun q=>by have:=hcl _ q;omega
 have ip:=JY hcut;have aC:=JY hb0;clear h hT hall hV hd hE hC hcl hcut;go_enter Tryz.func10,Tryz.ntmps10;go_wp2_with fail;obtain ⟨u,hu⟩:∃ u,(w.alloc (.cells #[.int .i64 ca, .int .i64 cf, .int .i64 ck, .int .i64 cn] 37))=u:=⟨_,rfl⟩
 obtain ⟨cb,hcb⟩:∃ cb,w.heap.size=cb:=⟨_,rfl⟩
 have kP:=JY hcb;rw[hu] at ay hrow aC hb0 |-;rw[hcb] at hrow ip |-;have bg:=JY hrow;have vG:=blt hrow;clear hu hcb hrow hb0;go_loopg [0,6] 4 (fun gk t0 t6 wr=>∃ (k db:Nat) (C:Nat->Prop) (d:Dx),k+gk=4/\k<=3/\t0 = .pointer (some ⟨db,0,none⟩)/\t6 = .int .i64 (k:Int)/\Hid (OY L x y C0 V T u k db C d wr))
 case atStart=>exact ⟨0,yu,C0,d0,rfl,by omega,rfl,rfl,ay⟩
 case round =>
  clear ay;obtain ⟨k,db,C,d,Jr,hk3,rfl,rfl,HI⟩:=hrel;have b0:(k:Int)<4:=by omega
  have Jn : ¬ C cb:=fun q=>(HI.out.new cb q).elim ip.out (fun q=>by omega)
  have bC:=(HI.out.far.block cb vG ip.out).trans bg.out;have e2:=(JZ bC 2).trans (show _=some (.int .i64 ck) from rfl);have e3:=(JZ bC 3).trans (show _=some (.int .i64 cn) from rfl);obtain ⟨nb,aq,mb,ak,vs,bv,hdi⟩:=HI.out.dk;obtain ⟨-, -, -, -,g4, -⟩:=hdi.cells;clear hdi;obtain ⟨gb,hgb⟩:∃ gb,d.gone=gb:=⟨_,rfl⟩
  rw[hgb] at g4
  go_upto_if 17 with fail
  go_cut [0] from 10 to 75 (fun t0 wx=>∃ (cy:Nat) (C1:Nat->Prop) (d1:Dx),t0 = .pointer (some ⟨cy,0,none⟩)/\d1.gone=false/\Hid (OY L x y C0 V T u k cy C1 d1 wx))
  case first =>
   by_cases hg:gb=true
   · subst hg;have BZ : -9223372036854775808<=ck.tdiv 3/\ck.tdiv 3<=9223372036854775807:=afM ck 3 (.inl rfl) eD;have B6 : -9223372036854775808<=ck.tdiv 7/\ck.tdiv 7<=9223372036854775807:=afM ck 7 (.inr rfl) eD;obtain ⟨p3,m8⟩:∃ p3,ck.tdiv 3=p3:=⟨_,rfl⟩
     obtain ⟨p7,Hs⟩:∃ p7,ck.tdiv 7=p7:=⟨_,rfl⟩
     rw[m8] at BZ;rw[Hs] at B6;have hbk:=(AD wr.heap.size wr).alloc (AC _) (.cells #[.int .i64 ck, .int .i64 p3, .int .i64 p7] 3);have yR:=AF wr (.cells #[.int .i64 ck, .int .i64 p3, .int .i64 p7] 3);have cj:=JY (HI.out.below hbk);have hlen:d.now.length=300:=(HI.out.all _ (Zl.now d)).choose_spec.choose_spec.choose_spec.2.len;have yZ:=JY (af5 wr.heap.size 3 (fun i=>if i=0 then ck else if i=1 then p3 else p7) (fun i hi=>by
      match i with
      | 0=>exact eD
      | 1=>exact BZ
      | 2=>exact B6
      | n+3=>omega) (by omega) (by omega) _ cj.out.dk (by simp) (fun i hi=>by
      match i with
      | 0=>exact (JZ yR 0).trans rfl
      | 1=>exact (JZ yR 1).trans rfl
      | 2=>exact (JZ yR 2).trans rfl
      | n+3=>omega))
     obtain ⟨wk,hwk⟩:∃ wk,wr.alloc (.cells #[.int .i64 ck, .int .i64 p3, .int .i64 p7] 3)=wk:=⟨_,rfl⟩
     rw[hwk] at yZ cj hbk;obtain ⟨kg,hkg⟩:∃ kg,wr.heap.size=kg:=⟨_,rfl⟩
     rw[hkg] at yZ;have hrc:=(hbk.block cb (by have:=HI.out.far.size;omega)).trans bC;have Df:=JY hrc;obtain ⟨Hw,Hx⟩:=BZ;obtain ⟨Hy,Hz⟩:=B6;clear yR hlen bC hrc;go_wp2_with fail;clear hwk hkg e2 e3 hbk;refine yZ.out.mono ?_;rintro e w1 ⟨ys,rfl,him,od,iG⟩;have HS:=JY (cj.out.again him od iG);have hr1:=(iG.block cb (blt Df.out)).trans Df.out;have hg1:(RJ ys).gone=false:=rfl;obtain ⟨d1,hd1⟩:∃ d1,RJ ys=d1:=⟨_,rfl⟩
     rw[hd1] at HS hg1;obtain ⟨cy,Bk⟩:∃ cy,wk.heap.size=cy:=⟨_,rfl⟩
     rw[Bk] at HS |-;obtain ⟨C1,AP⟩:∃ C1,(fun q=>cy<=q/\q<w1.heap.size)=C1:=⟨_,rfl⟩
     rw[AP] at HS;go_wp2_with fail;go_meet
     case rel=>exact ⟨cy,C1,d1,rfl,hg1,HS⟩
   · obtain rfl:gb=false:=by simpa using hg
     have hg1:d.gone=false:=hgb;go_wp2_with fail;go_meet
     case rel=>exact ⟨db,C,d,rfl,hg1,HI⟩
  case rest =>
   clear HI bC e2 e3 g4;obtain ⟨cy,C1,d1,rfl,hg1,HS⟩:=hcut;obtain ⟨w1,rfl⟩:∃ w1,w1=wc:=⟨_,rfl⟩
   have Bf : ¬ C1 cb:=fun q=>(HS.out.new cb q).elim ip.out (fun q=>by omega)
   have hr1:=(HS.out.far.block cb vG ip.out).trans bg.out;obtain ⟨nb,aq,mb,ak,vs,bv,hdi⟩:=HS.out.dk;obtain ⟨-, -, -,g3, -,g5, -, -, -,gf⟩:=hdi.cells;have qw:=gf 3;have AK:=gf 5;have bq:=JY HS.out.idle;have qP:(V9 d1).calm:=⟨rfl,by show (-1:Int)<0;decide,hg1⟩;have vO:(V9 d1).rb=0:=rfl;have mY:cb≠cy:=fun q=>Bf (q▸HS.out.dk.at_)
   have hr2:=(BY (w1.setCell ⟨cy,3,none⟩ (.int .i64 (-1))) ⟨cy,5,none⟩ (.slice none 0 0) cb mY).trans ((BY w1 ⟨cy,3,none⟩ (.int .i64 (-1)) cb mY).trans hr1);clear hdi gf hr1
   go_upto_if 36 with fail
   obtain ⟨u2,hu2⟩:∃ u2,(w1.setCell ⟨cy,3,none⟩ (.int .i64 (-1))).setCell ⟨cy,5,none⟩ (.slice none 0 0)=u2:=⟨_,rfl⟩
   rw[hu2] at bq hr2 |-;obtain ⟨d2,hd2⟩:∃ d2,V9 d1=d2:=⟨_,rfl⟩
   have je:=JY (show d2.fl.n=0/\d2.gone=false/\d2.rb=0 from by rw[<- hd2];exact ⟨rfl,hg1,rfl⟩);rw[hd2] at bq qP vO;have s9:=JY qP;clear hu2 hd2 g3 g5 qw AK qP vO HS
   go_cut [] from 10 to 75 (fun wx=>∃ d3:Dx,Hid (OY L x y C0 V T u k cy C1 d3 wx)/\Hid (d3.fl.n=0/\d3.gone=false/\d3.rb=0)/\Hid (k=3->d3.calm))
   case first =>
    by_cases hk:k<3
    · have b1:(k:Int)<3:=by omega
      obtain ⟨nb,aq,mb,ak,vs,bv,hdi⟩:=bq.out.dk;obtain ⟨-, -,q2,q3, -, -, -, -, -,gf⟩:=hdi.cells;have qw:=gf 3;have e3:=(JZ hr2 3).trans (show _=some (.int .i64 cn) from rfl);have vD:=bq.out.calls;clear hdi gf;obtain ⟨nc,hnc⟩:∃ nc,d2.calls=nc:=⟨_,rfl⟩
      rw[hnc] at q2 vD;have jo:=JY (Qz cn 40 (by decide) (by decide) hcn.1 hcn.2 u2.drew);have hp1:=afC cn 40 (by decide);obtain ⟨p,hp⟩:∃ p,pk cn 40=p:=⟨_,rfl⟩
      rw[hp] at jo hp1;have hkk:IntKind.i64.wrap ((k:Int)+1)=(k:Int)+1:=by rw[De];omega
      obtain ⟨m,hm⟩:∃ m:Int,p*((k:Int)+1)=m:=⟨_,rfl⟩
      have hmb:0<=m/\m<=200:=by
       rw[<- hm];have h1:0<=p*((k:Int)+1):=Int.mul_nonneg hp1.1 (by omega);have h2:p*((k:Int)+1)<=40*4:=Int.mul_le_mul (by omega) (by omega) (by omega) (by omega);exact ⟨h1,by omega⟩
      have Hp:IntKind.i64.wrap m=m:=by rw[De];omega
      have hsw:IntKind.i64.wrap ((nc:Int)+m)=(nc:Int)+m:=by rw[De];omega
      clear hp hnc;go_wp2_with fail
      go_region_held3 (fun w'=>w'.cell? ⟨cy,2,none⟩=some (.int .i64 nc)/\w'.cell? ⟨cb,3,none⟩=some (.int .i64 cn))
       (first | assumption | exact ⟨q2,e3⟩ | simp[go_sem, *])
       (first
        | (go_at_call 7;refine jo.out.mono ?_;rintro e w5 ⟨rfl,rfl⟩))
      obtain ⟨a,ha⟩:∃ a:Int,(nc:Int)+m=a:=⟨_,rfl⟩
      rw[ha];have jw:=below_drewN (AD (u2.setCell ⟨cy,3,none⟩ (.int .i64 a)).heap.size (u2.setCell ⟨cy,3,none⟩ (.int .i64 a))) 1;have cG:Hid (OY L x y C0 V T u k cy C1 { d2 with after:=a } (u2.setCell ⟨cy,3,none⟩ (.int .i64 a)).drew):=JY ((bq.out.until a).below jw);obtain ⟨w5,rJ⟩:∃ w5,(u2.setCell ⟨cy,3,none⟩ (.int .i64 a)).drew=w5:=⟨_,rfl⟩
      obtain ⟨d3,hd3⟩:∃ d3,({ d2 with after:=a }:Dx)=d3:=⟨_,rfl⟩
      have jV:Hid (d3.fl.n=0/\d3.gone=false/\d3.rb=0):=JY (by rw[<- hd3];exact je.out);have rR:Hid (k=3->d3.calm):=JY (fun q=>by omega);rw[rJ] at cG |-;rw[hd3] at cG;clear rJ hd3 jw bq je q2 q3 e3 hr2 hm hmb Hp hsw hkk hp1 jo ha vD qw;go_wp2_with fail;go_meet
      case rel=>exact ⟨d3,cG,jV,rR⟩
    · have b1 : ¬ (k:Int)<3:=by omega
      go_wp2_with fail;go_meet
      case rel=>exact ⟨d2,bq,je,JY (fun _=>s9.out)⟩
   case rest =>
   obtain ⟨d3,cG,jV,rR⟩:=hcut;obtain ⟨w5,rfl⟩:∃ w5,w5=wc:=⟨_,rfl⟩
   clear bq je s9 hr2;have nO:=JY (amy (L:=L) (x:=x) (y:=y) HR.out (by rw[uK.out];exact cG.out.all) (by have:=cG.out.calls;omega) w5 cG.out.dk cG.out.env cG.out.lo);go_wp2_with fail;refine nO.out.mono ?_;clear nO;rintro e w6 ⟨p9,r,rfl,d4,hop,bM,fq⟩;have bj:=JY hop;have po:=JY bM;have vJ:d4.fl.n=0:=by rw[hop.fl];exact jV.out.1
   rcases fq with ⟨rfl,hb,F,rfl,hFn,hst⟩ | ⟨hr,rfl,C4,Eg,yA,ku⟩
   · have tD:=JY hFn;have yC:=cG.out.env.far bM cG.out.lo;have dM:=JY yC;have iW:Hid (Calls Tryz.prog 24 #[.pointer (some ⟨hb,0,none⟩)] w6 (abB L F hb cy d4 1500000 T (abC D G D' G') w6)):=JY (by
      rcases hst with ⟨D2,G2,hok,hrun⟩ | ⟨m9,yL,bl⟩
      · exact YU hok w6 yC.low.2.2.2 hrun
      · rw[<- uK.out];exact Zh HR.out yL (by have:=cG.out.calls;have:=hop.calls;omega) w6 yC bl)
     clear bM hop hFn hst yC;go_wp2_with fail;refine iW.out.mono ?_;clear iW;rintro e w7 ⟨r7,rfl,d5,gF,iY,BW⟩;have zW:=JY gF;have nG:=JY iY;rcases BW with ⟨rfl,F',D2,G2,wG,gK,hF'⟩ | ⟨ij,C5,vH,mG,nZ⟩
     · have iB:=JY gK;have gT:=JY hF';have gV:=JY wG;obtain ⟨qO, -, -,C7,G9, -⟩:=gK.has;obtain ⟨JH,Fd,JG,Fb,JT,I7,hdi⟩:=G9;obtain ⟨-, -, -,g3, -, -, -, -, -,gf⟩:=hdi.cells;have qw:=gf 3;have wX:d5.rb=0:=by rw[gF.rb,bj.out.rb];exact jV.out.2.2
       have DN : ¬ F' d5.rb:=fun q=>by have h1:=(gK.lt _ q).1;have h2:=dM.out.low.1;have h3:0<12:=(by decide);omega
       have pW:=JY (gK.P5 DN (-1));have dz:({ d5 with after := -1 }:Dx).calm:=⟨by show d5.fl.n=0;rw[gF.fl];exact vJ,by show (-1:Int)<0;decide,qO⟩;have cY:=JY dz;have gX:=JY wX;clear gF iY gK hF' wG hdi gf DN dz wX qO;go_wp2_with fail;go_ret2;obtain ⟨f1,f2⟩:=cG.out.anv tD.out po.out nG.out;have xh:=nG.out.size;have kI:=po.out.size;have hs5:=cG.out.far.size;have lF:=aC.out.size;have hcl:=cG.out.calls;have G5:=bj.out.calls;have G6:=zW.out.calls;refine ⟨hb,cy,{ d5 with after := -1 },F',D2,G2,rfl,gV.out,pW.out,cY.out,gX.out,by show d5.calls<=_;omega,?_,fun q hq => ?_⟩
       · have hin:F' cy:=iB.out.V6;have f3:Kj w.heap.size C0 w w7:=((Kj.refl w.heap.size C0 w).below aC.out (AC _)).next f1 lF (fun _ _ q=>q)
         refine f3.setCell (p:=⟨cy,3,none⟩) ?_ _;rcases gT.out cy hin with q | q
         · rcases f2 cy q with q | q
           · exact .inr q
           · exact .inl (by show w.heap.size<=cy;omega)
         · exact .inl (by show w.heap.size<=cy;omega)
       · rcases gT.out q hq with q | q
         · exact (f2 _ q).imp id (fun q=>by omega)
         · exact .inr (by omega)
     · have vU:k<3:=Classical.byContradiction fun q=>(gF.no ij).1 (bj.out.calm (rR.out (by omega)))
       obtain rfl:r7=17:=by
        rcases (gF.no ij).2 with q | q
        · exact absurd vJ q.2.1
        · exact q.1
       have HN:=JY (cG.out.next (bj.out.trans gF) (by omega) tD.out po.out iY vH mG nZ);clear gF iY vH mG nZ ij;go_wp2_with fail;go_roundg (gk-1)
       case rel=>exact ⟨k+1,cy,C5,d5,by omega,by omega,rfl,by go_num,HN⟩
       case measure=>omega
   · have vU:k<3:=Classical.byContradiction fun q=>(hop.no hr).1 (rR.out (by omega))
     obtain rfl:r=17:=by
      rcases (hop.no hr).2 with q | q
      · exact absurd jV.out.1 q.2.1
      · exact q.1
     have HN:=JY (cG.out.next hop (by omega) (fun q hq => .inl hq) (Kj.refl _ _ _) bM Eg yA (by rw[uK.out] at ku;exact ku));clear hop bM Eg yA ku hr;go_wp2_with fail;go_roundg (gk-1)
     case rel=>exact ⟨k+1,cy,C4,d4,by omega,by omega,rfl,by go_num,HN⟩
     case measure=>omega
end
section
open Go.RowKit
open Kw (St ME)
open Hv (S Dx VM Ns All Has Pj)
variable {L2 M4:S}{D:VM Hv.PD}{G:VM S}{xs:List S}
theorem Sj(a:Addr) (n k:Nat):a.add (n+(k+1))=⟨(a.add n).block,(a.add n).off+(k+1),none⟩:=by
 unfold Addr.add;by_cases h:n=0
 · subst h;simp
 · simp[h];omega
def abx (w:World) (pa:Option Addr) (na:Nat) (an ad:Nat->Int):Prop:=∀ i,i<na->∃ a,pa=some a/\w.cell? (a.add (i*2))=some (.int .i64 (an i))/\w.cell? (a.add (i*2+1))=some (.int .i64 (ad i))/\(-9223372036854775808<=an i/\an i<=9223372036854775807)/\(-9223372036854775808<=ad i/\ad i<=9223372036854775807)
theorem Qf{p:Addr}  (h:w.cell? p=some v):p.block<w.heap.size:=B5 w p h
theorem abx.below{pa:Option Addr} {na:Nat} {an ad:Nat->Int} (h:abx w pa na an ad) (hb:Below w.heap.size w w'):abx w' pa na an ad:=fun i hi=>by
 obtain ⟨a,h1,h2,h3,h4⟩:=h i hi;exact ⟨a,h1,(hb.cell (Qf h2)).trans h2,(hb.cell (Qf h3)).trans h3,h4⟩
def aby (w:World) (pc:Option Addr) (nc:Nat) (cu:Nat->Nat->Int):Prop:=∀ i,i<nc->∃ a,pc=some a/\w.cell? (a.add (i*4))=some (.int .i64 (cu i 0))/\w.cell? (a.add (i*4+1))=some (.int .i64 (cu i 1))/\w.cell? (a.add (i*4+2))=some (.int .i64 (cu i 2))/\w.cell? (a.add (i*4+3))=some (.int .i64 (cu i 3))/\∀ j, -9223372036854775808<=cu i j/\cu i j<=9223372036854775807
theorem aby.below{pc:Option Addr} {nc:Nat} {cu:Nat->Nat->Int} (h:aby w pc nc cu) (hb:Below w.heap.size w w'):aby w' pc nc cu:=fun i hi=>by
 obtain ⟨a,h1,h2,h3,h4,h5,h6⟩:=h i hi;exact ⟨a,h1,(hb.cell (Qf h2)).trans h2,(hb.cell (Qf h3)).trans h3,(hb.cell (Qf h4)).trans h4,(hb.cell (Qf h5)).trans h5,h6⟩
theorem ab6{d:Dx} {V2:Nat->Nat}  (V:Nat->Nat) (Lg:S) (hV2:∀ j,j<6->V2 j<=12) (hL2:L2.length<=200) (hV:∀ j,j<6->V j<=12) (w:World) (he:Lh L F hb db d (Hv.Mf V2) (Hv.Lp L2) w) :
 Calls Tryz.prog 11 #[.pointer (some ⟨hb,0,none⟩), .agg (Oz V Lg)] w fun e w'=>∃ b,e = .returned (.bool b)/\(b=true ↔ Hv.abD (Hv.Mf V2) (Hv.Lp L2) V Lg)/\Lh L F hb db d (Hv.Mf V2) (Hv.Lp L2) w'/\Kj w.heap.size F w w' :=
 ahk V Lg (Hv.RD hV2 hL2) (Hv.agw V2) (Hv.agv V2 L2) (fun j hj=>by have:=hV j hj;omega) w he (fun q hq=>(he.lt q hq).2)
theorem aaR{d:Dx} (V:Nat->Nat) (Lg:S) (hV:∀ j,j<6->V j<=12) (hL:Lg.length<=200) (w:World) (he:Lh L F hb db d (Hv.Mf V) (Hv.Lp Lg) w) :
 Calls Tryz.prog 11 #[.pointer (some ⟨hb,0,none⟩), .agg (Oz V Lg)] w fun e w'=>e = .returned (.bool true)/\Lh L F hb db d (Hv.Mf V) (Hv.Lp Lg) w'/\Kj w.heap.size F w w':=by
 refine (ab6 V Lg hV hL hV w he).mono ?_;rintro e w' ⟨b,rfl,h1,h2,h3⟩;obtain rfl:b=true:=h1.2 Hv.aaj.1;exact ⟨rfl,h2,h3⟩
theorem amW{d:Dx}  {al:List (Nat × Nat)}  (V:Nat->Nat) (Lg:S) (hr:r<=12) (hV:∀ j,j<6->V j<r) (ha:Hv.Uj V al) (hne:al≠[]) (hL2:L2.length<=200) (w:World) (he:Lh L F hb db d (Hv.Mf (Hv.Ll V r al)) (Hv.Lp L2) w) :
 Calls Tryz.prog 11 #[.pointer (some ⟨hb,0,none⟩), .agg (Oz V Lg)] w fun e w'=>e = .returned (.bool false)/\Lh L F hb db d (Hv.Mf (Hv.Ll V r al)) (Hv.Lp L2) w'/\Kj w.heap.size F w w':=by
 refine (ab6 V Lg (fun j hj=>by have:=Hv.RN (al:=al) hV j hj;omega) hL2 (fun j hj=>by have:=hV j hj;omega) w he).mono ?_;rintro e w' ⟨b,rfl,h1,h2,h3⟩;obtain rfl:b=false:=by
  cases b with
  | false=>rfl
  | true=>exact absurd (h1.1 rfl) (Hv.ajq hr hV ha hne)
 exact ⟨rfl,h2,h3⟩
def alr (N:Nat) (wr:World) (TB:Nat) (V':Nat->Nat) (M4:S) (v:Value) (n:Nat) (xs:List S) (wz:World):Prop:=wz.heap[TB]? = some (.cells (Oz V' M4) 30 (0,0))/\N<=TB/\Below N wr wz/\wz.ownsRow N 9 1 v n (xs.map Kl)
theorem Lh.aside{d:Dx}     (h:Lh L F hb db d D G w) (hB : ¬ F B) (hrb:d.rb≠B) (hl:12<=B) (hf:Kj w.heap.size (fun q=>q=B) w w'):Lh L F hb db d D G w':=by
 obtain ⟨C,N,eb,sb,mb,pm,fm,a,P,h1,h2,h3,h4⟩:=h;have hn:∀ k,((K9 C eb sb pm fm k\/k=hb)\/k=mb\/N k)->B≠k:=fun k hk e=>hB (e▸h3 k hk)
 exact ⟨C,N,eb,sb,mb,pm,fm,a,P,⟨(hf.block hb (blt h1.blk) (fun q=>hn hb (.inl (.inr rfl)) q.symm)).trans h1.blk,h1.Lu.aside ⟨fun q=>hB (h3 B (.inl (.inl (.inl q)))),fun q=>hB (h3 B (.inr (.inr q))),hn eb (.inl (.inl (.inr (.inl rfl)))),hn sb (.inl (.inl (.inr (.inr (.inl rfl))))),hn mb (.inr (.inl rfl)),hn pm (.inl (.inl (.inr (.inr (.inr (.inl rfl)))))),hn fm (.inl (.inl (.inr (.inr (.inr (.inr rfl)))))),hrb⟩ hl hf,h1.off,h1.low⟩,h2,h3,fun k hk=>⟨(h4 k hk).1,B3 (h4 k hk).2 hf.size⟩⟩
theorem ab5(w:World) (B:Nat) (cs:Array Value):Kj w.heap.size (fun q=>q=B) w (w.setRow B cs):=⟨rfl,rfl,rfl,by simp,fun k _ hk=>setRow_other w B k cs hk⟩
theorem Lh.idle{d:Dx}    (h:Lh L F hb db d D G w) (hrb : ¬ F d.rb) (h0:0<L):Lh L F hb db (V9 d) D G ((w.setCell ⟨db,3,none⟩ (.int .i64 (-1))).setCell ⟨db,5,none⟩ (.slice none 0 0))/\(V9 d).calm/\(V9 d).rb=0:=by
 have hs:0<w.heap.size:=by have:=(h.lt db h.V6).2;omega
 refine ⟨(h.P5 hrb (-1)).ac8 aiT ⟨(show (0:Nat)<=maxLen by decide),fun i hi=>absurd hi (by show ¬ i<0;omega)⟩ ⟨fun q=>by have h1:L<=0:=(h.lt 0 q).1;omega,by show 0<_;simpa using hs⟩,⟨rfl,by show (-1:Int)<0;decide,h.has.1⟩,rfl⟩
theorem anB(hN:N<=wr.heap.size) (hb:Below N wr w5) (ho:w5.ownsRow M 9 1 v n (xs.map Kl)) (hM:N<=M):alr N wr w5.heap.size V' M4 v n xs (w5.alloc (.cells (Oz V' M4) 30)):=by
 have hsz:N<=w5.heap.size:=Bi hN hb.size;exact ⟨AF w5 _,hsz,hb.alloc hsz _,KL (Ky ho ((AD w5.heap.size w5).alloc (AC _) _)) hM⟩
theorem anD(h0:w5.heap[N]? = some (.cells (Oz (fun _=>0) []) 30 (0,0))) (hb:Below N wr w5) (ho:w5.ownsRow M 9 1 v n (xs.map Kl)) (hM:N<M):alr N wr N V' M4 v n xs (abj w5 N V' M4):=by
 refine ⟨aac _ _ _ _ h0,AC _,?_,Kg (KL ho (Nat.le_of_lt hM)) fun g hg=>Yx _ _ _ _ _ ?_⟩
 · exact TY hb (AC N) _ _
 · have:=(ho.lt g hg).1;omega
theorem afc(hb:Below (wr.alloc (.cells #[.int .i64 0, .int .i64 0, .int .i64 0, .int .i64 0, .int .i64 0, .int .i64 0, .string ⟨#[]⟩] 30)).drew.heap.size (wr.alloc (.cells #[.int .i64 0, .int .i64 0, .int .i64 0, .int .i64 0, .int .i64 0, .int .i64 0, .string ⟨#[]⟩] 30)).drew w5):w5.heap[wr.heap.size]? = some (.cells (Oz (fun _=>0) []) 30 (0,0))/\w5.cell? ⟨wr.heap.size,0,none⟩=some (.int .i64 0)/\w5.frozen? ⟨wr.heap.size,0,none⟩=false/\w5.cell? ⟨wr.heap.size,1,none⟩=some (.int .i64 0)/\w5.frozen? ⟨wr.heap.size,1,none⟩=false/\w5.cell? ⟨wr.heap.size,2,none⟩=some (.int .i64 0)/\w5.frozen? ⟨wr.heap.size,2,none⟩=false/\w5.cell? ⟨wr.heap.size,3,none⟩=some (.int .i64 0)/\w5.frozen? ⟨wr.heap.size,3,none⟩=false/\w5.cell? ⟨wr.heap.size,4,none⟩=some (.int .i64 0)/\w5.frozen? ⟨wr.heap.size,4,none⟩=false/\w5.cell? ⟨wr.heap.size,5,none⟩=some (.int .i64 0)/\w5.frozen? ⟨wr.heap.size,5,none⟩=false/\w5.cell? ⟨wr.heap.size,6,none⟩=some (.string ⟨#[]⟩)/\w5.frozen? ⟨wr.heap.size,6,none⟩=false:=by
 have h:w5.heap[wr.heap.size]? = some (.cells (Oz (fun _=>0) []) 30 (0,0)):=(hb.block wr.heap.size (by show wr.heap.size<(wr.alloc _).heap.size;simp)).trans (AF wr _);exact ⟨h,(JZ h 0).trans rfl,J2 h 0,(JZ h 1).trans rfl,J2 h 1,(JZ h 2).trans rfl,J2 h 2,(JZ h 3).trans rfl,J2 h 3,(JZ h 4).trans rfl,J2 h 4,(JZ h 5).trans rfl,J2 h 5,(JZ h 6).trans rfl,J2 h 6⟩
theorem afd.rb{f:Hv.Fl} (h:afd w f w') (d:Dx):({ d with fl:=f }:Dx).rb=0\/w.heap.size<=({ d with fl:=f }:Dx).rb/\({ d with fl:=f }:Dx).rb<w'.heap.size:=by
 rcases h.own with ⟨h1, -⟩ | ⟨g,h1,h2,h3⟩
 · exact .inl (by unfold Dx.rb;simp only;rw[h1])
 · refine .inr ?_;have e:({ d with fl:=f }:Dx).rb=g:=by unfold Dx.rb;simp only;rw[h1]
   rw[e];exact ⟨h2,h3⟩
theorem Rm.done{w0:World} {TB CB:Nat}  {d:Dx} {V:Nat->Nat} {Lg:S} {cs:Array Value} {lv:Value}   (h:FiR L x y w0 B TB CB V Lg V' M4 cs lv xs wr) (ho:WM B TB CB lv F) (hr:Lh L F hb db d (Hv.Mf V') (Hv.Lp M4) wr) (hc:d.calm) (hrb:d.rb=0) (hcl:d.calls<=6000000+20000000*r) (hv:∀ j,j<6->V' j<=r) (hl:M4.length<=200):Rm L x y w0 B r hb db F d V' M4 (wr.setRow B (Oz V' M4)):=by
 have hf:=ab5 wr B (Oz V' M4);have kE:=h.env.low.1;have hB:=h.at_.1;have h0:0<12:=by decide
 exact ⟨hr.aside ho.b (by rw[hrb];omega) (by omega) hf,setRow_heap _ _ _ _ _ _ h.sh,ho.b,hB,h.env.far hf (fun k (q:k=B)=>by rw[q];exact hB),h.K7.trans (hf.toBelow h.env.low.2.2.2 (fun k hk (q:k=B)=>by omega)),hc,hrb,hcl,hv,hl⟩
end
section
open Go.RowKit
open Kw (St ME)
open Hv (S VM)
theorem agC(an ad:Int) (ha : -9223372036854775808<=an/\an<=9223372036854775807) (hd : -9223372036854775808<=ad/\ad<=9223372036854775807) (V:Nat->Nat) (L:S) (hL:L.length<=1000) (r:Nat) (bC:0<r) (hr:r<=12) (hV:∀ j,j<6->V j<r) (w:World) :
 Calls Tryz.prog 6 #[.agg #[.int .i64 an, .int .i64 ad], .agg (Oz V L), .int .i64 r] w fun e w'=>∃ v,e = .returned (.tuple #[v, .agg (Oz (Hv.Ll V r (Hv.MF V (pk an 6).toNat (pk ad 27).toNat 3)) (L++Hv.L8 r (Hv.newF (Hv.MF V (pk an 6).toNat (pk ad 27).toNat 3))))])/\w'.ownsRow (w.heap.size+3) 9 1 v (Hv.MF V (pk an 6).toNat (pk ad 27).toNat 3).length (((Hv.MF V (pk an 6).toNat (pk ad 27).toNat 3).map (Hv.Me r)).map Kl)/\Below w.heap.size w w':=by
 obtain ⟨i0,hi,hz0,hz1,hz2⟩:=KJ PS;have hp1:=afC an 6 (by decide);have hp2:=afC ad 27 (by decide);have gW:=JY (fun w=>Qz an 6 (by decide) (by decide) ha.1 ha.2 w);have iT:=JY (fun w=>Qz ad 27 (by decide) (by decide) hd.1 hd.2 w);obtain ⟨f,hf⟩:∃ f:Nat,pk an 6=(f:Int):=⟨(pk an 6).toNat,by omega⟩
 obtain ⟨q,hq⟩:∃ q:Nat,pk ad 27=(q:Int):=⟨(pk ad 27).toNat,by omega⟩
 rw[hf] at gW hp1;rw[hq] at iT hp2;rw[hf,hq,show ((f:Int)).toNat=f from rfl,show ((q:Int)).toNat=q from rfl];have cV:f<6:=by omega
 have Hu:q<27:=by omega
 have HV:=JY hV;have aA:=AF w (.cells #[.int .i64 an, .int .i64 ad] 35);have hrow2:=AF (w.alloc (.cells #[.int .i64 an, .int .i64 ad] 35)) (.cells (Oz V L) 30);have hrow3:=AF ((w.alloc (.cells #[.int .i64 an, .int .i64 ad] 35)).alloc (.cells (Oz V L) 30)) (.cells (Oz (fun _=>0) []) 30);clear ha hd hV hf hq hp1 hp2;obtain ⟨sh,hsh⟩:∃ sh,Oz V L=sh:=⟨_,rfl⟩
 have ke:=JY hsh;have e0:=(JZ aA 0).trans (show _=some (.int .i64 an) from rfl);have e1:=(JZ aA 1).trans (show _=some (.int .i64 ad) from rfl);clear hsh;go_enter Tryz.func6,Tryz.ntmps6;go_wp2_with fail;have ay:Hid (SG w.heap.size #[.int .i64 an, .int .i64 ad] (Hv.Ll V r (Hv.MF V f q 0)) L ((Hv.MF V f q 0).map (Hv.Me r)) (.slice none 0 0) w (((w.alloc (.cells #[.int .i64 an, .int .i64 ad] 35)).alloc (.cells (Oz V L) 30)).alloc (.cells #[.int .i64 0, .int .i64 0, .int .i64 0, .int .i64 0, .int .i64 0, .int .i64 0, .string ⟨#[]⟩] 30))):=JY (by
  rw[show Hv.Ll V r (Hv.MF V f q 0)=V from funext fun j=>Hv.agN V r j];refine ⟨(AM _ _ _ (by simp;omega)).trans ((AM _ _ _ (by simp)).trans aA),(AM _ _ _ (by simp)).trans ?_,?_,Cf _ _ _ _,((((AD w.heap.size w).alloc (AC _) _).alloc (by simp) _).alloc (by simp;omega) _)⟩
  · simpa using hrow2
  · have h:=hrow3;rw[show ((w.alloc (.cells #[.int .i64 an, .int .i64 ad] 35)).alloc (.cells (Oz V L) 30)).heap.size=w.heap.size+2 by simp] at h;exact h)
 obtain ⟨u,hu⟩:∃ u,(((w.alloc (.cells #[.int .i64 an, .int .i64 ad] 35)).alloc (.cells (Oz V L) 30)).alloc (.cells #[.int .i64 0, .int .i64 0, .int .i64 0, .int .i64 0, .int .i64 0, .int .i64 0, .string ⟨#[]⟩] 30))=u:=⟨_,rfl⟩
 obtain ⟨B,hB⟩:∃ B,w.heap.size=B:=⟨_,rfl⟩
 have bG:=JY hB;rw[hu] at ay |-;rw[hB] at ay |-;rw[show B+1+1=B+2 from rfl];clear aA hrow2 hrow3 hu hB e0 e1;refine (gW.out u).mono ?_;rintro e w1 ⟨rfl,rfl⟩;have e1:=(JZ ay.out.af3 1).trans (show _=some (.int .i64 ad) from rfl);go_wp2_with fail;refine (iT.out w1).mono ?_;rintro e w2 ⟨rfl,rfl⟩;clear e1 gW iT ke;go_wp2_with fail;go_loopw [8,10,11] (fun t8 t10 t11 wr=>∃ (m:Nat) (la:Option Addr) (ln lc:Nat),m<=3/\t8 = .slice la ln lc/\t10 = .int .i64 ((q / 3^m:Nat):Int)/\t11 = .int .i64 (2-(m:Int))/\ln=(Hv.MF V f q m).length/\Hid (SG B #[.int .i64 an, .int .i64 ad] (Hv.Ll V r (Hv.MF V f q m)) L ((Hv.MF V f q m).map (Hv.Me r)) (.slice la ln lc) w wr)) (fun _ _ t11 _=>(intOf t11+1).toNat)
 case atStart=>exact ⟨0,none,0,0,by omega,rfl,by simp,rfl,rfl,ay⟩
 case round =>
  clear ay;obtain ⟨m,la,ln,lc,hm,rfl,rfl,rfl,eP,HI⟩:=hrel;have eH:=JY eP;clear eP;by_cases hlt:m<3
  · obtain ⟨i,hi2⟩:∃ i:Nat,2-(m:Int)=(i:Int):=⟨2-m,by omega⟩
    have iw:=JY hi2;rw[hi2];have Ep:i<=2:=by omega
    have b1:(0:Int)<=(i:Int):=by omega
    obtain ⟨k,hk⟩:∃ k,Hv.nmA f m=k:=⟨_,rfl⟩
    have gA:k<6:=by rw[<- hk];unfold Hv.nmA;omega
    have Bz:Int.tmod ((f:Int)+(i:Int)) 6=(k:Int):=by
     rw[Ex (by omega),<- hk];unfold Hv.nmA;omega
    obtain ⟨qm,wP⟩:∃ qm,q / 3^m=qm:=⟨_,rfl⟩
    have EI:qm<=27:=by rw[<- wP];have:=Nat.div_le_self q (3^m);omega
    obtain ⟨d,hd⟩:∃ d,qm%3=d:=⟨_,rfl⟩
    have Jp:Int.tmod (qm:Int) 3=(d:Int):=by rw[Ex (by omega),<- hd];omega
    obtain ⟨qn,yP⟩:∃ qn,q / 3^(m+1)=qn:=⟨_,rfl⟩
    have wQ:qm / 3=qn:=by rw[<- wP,<- yP,Nat.pow_succ,Nat.div_div_eq_div_mul]
    have Jo:Int.tdiv (qm:Int) 3=(qn:Int):=by rw[Int.tdiv_eq_ediv_of_nonneg (by omega),<- wQ];omega
    have EK:qn<=27:=by omega
    have hd3:d<3:=by omega
    have eN:Hv.MF V f q (m+1)=Hv.MF V f q m++Hv.Qw V k d:=by
     show Hv.MF V f q m++Hv.Qw V (Hv.nmA f m) (q / 3^m%3)=_;rw[hk,wP,hd]
    have cH:=JY eN;have yg:=JY yP;have hno:∀ a∈Hv.MF V f q m,a.1≠k:=fun a ham e=>by
     obtain ⟨i',h1,h2, -⟩:=Hv.Rq ham;rw[h2,<- hk] at e;unfold Hv.nmA at e;omega
    have jh:=JY hno;rw[wP];clear hk wP hd yP wQ eN hno hi2;rcases (show d=1\/d=2\/d=0 by omega) with rfl | rfl | rfl
    · have fC:=JY (show Hv.Qw V k 1=[(k,1)] from rfl);have rP:=JY (fun w'=>V3 [LM k] [] (([114,117,110,32,97,100,100,32,47,118,97,114,47,108,111,103,32]++[LM k])++J8.dg r++[10]) r (by omega) (by simp) (by simp) (by have:=adS hr;simp;omega) w');rw[ajV] at rP;obtain ⟨x,hx⟩:∃ x,Hv.Me r (k,1)=x:=⟨_,rfl⟩
      have qq:=JY hx;rw[show 43::Hv.QT (LM k) (J8.dg r)=x from hx] at rP;have jT:=JY (fun w'=>QJ r (by omega) w');have hzl:=adS hr;obtain ⟨z,hz⟩:∃ z,J8.dg r=z:=⟨_,rfl⟩
      rw[hz] at rP jT hzl;obtain ⟨lk,hlk⟩:∃ lk,LM k=lk:=⟨_,rfl⟩
      have fS:=JY (fun w'=>QS k gA w');rw[hlk] at rP fS;have gg:Hid ((((⟨#[114,117,110,32,97,100,100,32,47,118,97,114,47,108,111,103,32]⟩:ByteArray)++⟨([lk]:S).toArray⟩)++⟨z.toArray⟩)++⟨#[10]⟩=⟨(([114,117,110,32,97,100,100,32,47,118,97,114,47,108,111,103,32]++[lk])++z++[10]:S).toArray⟩):=JY (by
       rw[show (⟨#[114,117,110,32,97,100,100,32,47,118,97,114,47,108,111,103,32]⟩:ByteArray)=⟨([114,117,110,32,97,100,100,32,47,118,97,114,47,108,111,103,32]:S).toArray⟩ from rfl,show (⟨#[10]⟩:ByteArray)=⟨([10]:S).toArray⟩ from rfl,Nc,Nc,Nc])
      clear hx hz hlk;go_wp2_with fail;refine (fS.out wr).mono ?_;rintro e w3 ⟨rfl,rfl⟩;go_wp2_with fail;refine (fS.out w3).mono ?_;rintro e w5 ⟨rfl,rfl⟩;go_wp2_with fail;refine (jT.out w5).mono ?_;rintro e w6 ⟨rfl,aN⟩;have bN:=JY (HI.out.below aN);clear aN;go_wp2_with fail;rw[gg.out];refine (rP.out w6).mono ?_;rintro e w7 ⟨rfl,jv⟩;have HX:=JY (bN.out.below jv);clear jv bN gg rP fS jT;have tZ:Hid (((Hv.MF V f q m).map (Hv.Me r)).length=ln):=JY (by rw[DH];exact eH.out.symm);have HO:=JY ((show w7.ownsRow (B+3) 9 1 (.slice la ln lc) ln (((Hv.MF V f q m).map (Hv.Me r)).map Kl) by have h:=HX.out.row;rw[tZ.out] at h;exact h).alloc (.cells #[.string ⟨x.toArray⟩] 9));have wq:ln<=3:=by
       have h1:=(Hv.Si (V:=V) (f:=f) (q:=q) m (by omega)).len;have h2:=eH.out;have h3:(Hv.MF V f q m).length<=m:=Hv.Um m;omega
      have xz:B+3<=w7.heap.size:=by have:=blt HX.out.out;omega
      obtain ⟨ym,eU⟩:∃ ym,((Hv.MF V f q m).map (Hv.Me r)).map Kl=ym:=⟨_,rfl⟩
      have mr:=JY eU;rw[eU] at HO;clear eU;go_wp2_with (at_builtin;refine wpList_append_own_at _ rfl _ _ 31 rfl (B+3) 9 i0 (.string ByteArray.empty) 1 16 Tryz.underlying31 hi hz0 hz1 hz2 rfl (by decide) _ _ _ rfl HO.out ⟨w7.heap.size,0,none⟩ 1 1 [_] rfl rfl (cell_one_new _ _ _) (fun x hx=>by simp at hx;subst hx;rfl) (by unfold maxLen;omega) (by omega) (by simp;omega) ?_;intro v' w4 hown' KF Nj SQ;obtain ⟨gv,cv,rfl⟩:=Kt hown' (by omega);have HA:=JY (HX.out.add x (o := .cells #[.string ⟨x.toArray⟩] 9) (v' := .slice (some ⟨gv,0,none⟩) (ln+1) cv) (w4:=w4) KF (by rw[tZ.out,mr.out];exact hown'));have s4:=(JZ HA.out.sh k).trans (VH _ _ gA);have IP:=J2 HA.out.sh k;clear hown' KF Nj SQ)
      have HN:Hid (SG B #[.int .i64 an, .int .i64 ad] (Hv.Ll V r (Hv.MF V f q (m+1))) L ((Hv.MF V f q (m+1)).map (Hv.Me r)) (.slice (some ⟨gv,0,none⟩) (ln+1) cv) w (w4.setCell ⟨B+1,k,none⟩ (.int .i64 (r:Int)))):=JY (by
       have hone:Hv.Qw V k 1=[(k,1)]:=fC.out;have h:=HA.out.set (V':=Hv.Ll V r (Hv.MF V f q (m+1))) (L':=L) (i:=k) (u := .int .i64 (r:Int)) (by
        rw[show ((r:Int):Int)=((r:Nat):Int) from rfl,afI _ _ gA];refine afH fun j _ => ?_
        rw[cH.out,hone,Hv.Yf (by omega) jh.out];rfl)
       rw[cH.out,hone,GB];rw[cH.out,hone] at h;rw[<- qq.out] at h;exact h)
      have hlen':ln+1=(Hv.MF V f q (m+1)).length:=by
       rw[cH.out,fC.out,AS,<- eH.out];rfl
      go_roundw
      case rel=>exact ⟨m+1,some ⟨gv,0,none⟩,ln+1,cv,by omega,rfl,by rw[yg.out],IN (Value.int IntKind.i64) (by have:=iw.out;push_cast;omega),hlen',HN⟩
      case measure=>show ((i:Int)-1+1).toNat<((i:Int)+1).toNat;omega
    · obtain ⟨vk,hvk⟩:∃ vk,Hv.Ll V r (Hv.MF V f q m) k=vk:=⟨_,rfl⟩
      have yS:V k=vk:=by
       rw[<- hvk];have h1 : ¬ (k,1)∈Hv.MF V f q m:=fun a=>jh.out _ a rfl
       have h2 : ¬ (k,2)∈Hv.MF V f q m:=fun a=>jh.out _ a rfl
       simp[Hv.Ll,h1,h2]
      have sc:=(JZ HI.out.sh k).trans (VH _ _ gA);rw[hvk] at sc;by_cases hv0:0<vk
      · have b2:(0:Int)<(vk:Int):=by omega
        have fC:=JY (show Hv.Qw V k 2=[(k,2)] from by simp[Hv.Qw,yS,hv0]);obtain ⟨x,hx⟩:∃ x,Hv.Me r (k,2)=x:=⟨_,rfl⟩
        have qq:=JY hx;have fS:=JY (fun w'=>QS k gA w');have gg:Hid ((⟨#[45]⟩:ByteArray)++⟨([LM k]:S).toArray⟩=⟨x.toArray⟩):=JY (by
         rw[<- hx,show (⟨#[45]⟩:ByteArray)=⟨([45]:S).toArray⟩ from rfl,Nc];rfl)
        obtain ⟨lk,hlk⟩:∃ lk,LM k=lk:=⟨_,rfl⟩
        rw[hlk] at fS gg;have HX:=HI;clear hx hlk hvk yS;have tZ:Hid (((Hv.MF V f q m).map (Hv.Me r)).length=ln):=JY (by rw[DH];exact eH.out.symm);have HO:=JY ((show wr.ownsRow (B+3) 9 1 (.slice la ln lc) ln (((Hv.MF V f q m).map (Hv.Me r)).map Kl) by have h:=HX.out.row;rw[tZ.out] at h;exact h).alloc (.cells #[.string ⟨x.toArray⟩] 9));have wq:ln<=3:=by
         have h1:=(Hv.Si (V:=V) (f:=f) (q:=q) m (by omega)).len;have h2:=eH.out;have h3:(Hv.MF V f q m).length<=m:=Hv.Um m;omega
        have xz:B+3<=wr.heap.size:=by have:=blt HX.out.out;omega
        obtain ⟨ym,eU⟩:∃ ym,((Hv.MF V f q m).map (Hv.Me r)).map Kl=ym:=⟨_,rfl⟩
        have mr:=JY eU;rw[eU] at HO;clear eU;go_wp2_with fail;refine (fS.out wr).mono ?_;rintro e w3 ⟨rfl,rfl⟩;have Io:=gg.out;go_wp2_with (at_builtin;refine wpList_append_own_at _ rfl _ _ 31 rfl (B+3) 9 i0 (.string ByteArray.empty) 1 16 Tryz.underlying31 hi hz0 hz1 hz2 rfl (by decide) _ _ _ rfl HO.out ⟨w3.heap.size,0,none⟩ 1 1 [_] rfl rfl (cell_one_new _ _ _) (fun x hx=>by simp at hx;subst hx;rfl) (by unfold maxLen;omega) (by omega) (by simp;omega) ?_;intro v' w4 hown' KF Nj SQ;obtain ⟨gv,cv,rfl⟩:=Kt hown' (by omega);have HA:=JY (HX.out.add x (o := .cells #[.string ⟨x.toArray⟩] 9) (v' := .slice (some ⟨gv,0,none⟩) (ln+1) cv) (w4:=w4) KF (by rw[tZ.out,mr.out];exact hown'));have s4:=(JZ HA.out.sh k).trans (VH _ _ gA);have IP:=J2 HA.out.sh k;clear hown' KF Nj SQ)
        have HN:Hid (SG B #[.int .i64 an, .int .i64 ad] (Hv.Ll V r (Hv.MF V f q (m+1))) L ((Hv.MF V f q (m+1)).map (Hv.Me r)) (.slice (some ⟨gv,0,none⟩) (ln+1) cv) w (w4.setCell ⟨B+1,k,none⟩ (.int .i64 0))):=JY (by
         have hone:Hv.Qw V k 2=[(k,2)]:=fC.out;have h:=HA.out.set (V':=Hv.Ll V r (Hv.MF V f q (m+1))) (L':=L) (i:=k) (u := .int .i64 0) (by
          rw[show (0:Int)=((0:Nat):Int) from rfl,afI _ _ gA];refine afH fun j _ => ?_
          rw[cH.out,hone,Hv.Yf (by omega) jh.out];rfl)
         rw[cH.out,hone,GB];rw[cH.out,hone] at h;rw[<- qq.out] at h;exact h)
        have hlen':ln+1=(Hv.MF V f q (m+1)).length:=by
         rw[cH.out,fC.out,AS,<- eH.out];rfl
        go_roundw
        case rel=>exact ⟨m+1,some ⟨gv,0,none⟩,ln+1,cv,by omega,rfl,by rw[yg.out],IN (Value.int IntKind.i64) (by have:=iw.out;push_cast;omega),hlen',HN⟩
        case measure=>show ((i:Int)-1+1).toNat<((i:Int)+1).toNat;omega
      · have b2 : ¬ (0:Int)<(vk:Int):=by omega
        have hone:Hv.Qw V k 2=[]:=by simp[Hv.Qw,yS,hv0]
        have eN:=cH.out;rw[hone,List.append_nil] at eN;have sO:=JY eN;clear eN hone hvk yS;go_wp2_with fail;exact ⟨⟨m+1,la,ln,lc,by omega,rfl,by rw[yg.out],IN (Value.int IntKind.i64) (by have:=iw.out;push_cast;omega),by rw[sO.out];exact eH.out,by rw[sO.out];exact HI⟩,by show ((i:Int)-1+1).toNat<((i:Int)+1).toNat;omega⟩
    · have hone:Hv.Qw V k 0=[]:=by simp[Hv.Qw]
      have eN:=cH.out;rw[hone,List.append_nil] at eN;have sO:=JY eN;clear eN hone;go_wp2_with fail;exact ⟨⟨m+1,la,ln,lc,by omega,rfl,by rw[yg.out],IN (Value.int IntKind.i64) (by have:=iw.out;push_cast;omega),by rw[sO.out];exact eH.out,by rw[sO.out];exact HI⟩,by show ((i:Int)-1+1).toNat<((i:Int)+1).toNat;omega⟩
  · obtain rfl:m=3:=by omega
    have b1 : ¬ (0:Int)<=2-((3:Nat):Int):=by omega
    have b1' : ¬ (0:Int) <= -1:=by omega
    go_wp2_with fail;obtain ⟨al,hal⟩:∃ al,Hv.MF V f q 3=al:=⟨_,rfl⟩
    have lK:=JY hal;rw[hal] at HI;have wq:ln<=3:=by have h1:=eH.out;have h2:=Hv.Um (V:=V) (f:=f) (q:=q) 3;omega
    have ay:Hid (SG B #[.int .i64 an, .int .i64 ad] (Hv.Ll V r al) (Hv.TL r al L 0) (al.map (Hv.Me r)) (.slice la ln lc) w wr):=JY (by rw[Hv.ZN];exact HI.out);have jT:=JY (fun w'=>QJ r (by omega) w');have hzl:=adS hr;obtain ⟨z,hz⟩:∃ z,J8.dg r=z:=⟨_,rfl⟩
    have HZ:=JY hz;rw[hz] at jT hzl;clear hal hz HI;go_loopw [14] (fun t wr=>∃ k:Nat,k<=6/\t = .int .i64 (k:Int)/\Hid (SG B #[.int .i64 an, .int .i64 ad] (Hv.Ll V r al) (Hv.TL r al L k) (al.map (Hv.Me r)) (.slice la ln lc) w wr)) (fun t _=>6-(intOf t).toNat)
    case atStart=>exact ⟨0,by omega,rfl,ay⟩
    case round =>
     clear ay;obtain ⟨k,hk,rfl,HI⟩:=hrel;by_cases hlt:k<6
     · have b2:(k:Int)<6:=by omega
       have sH:(0:Int)<=(k:Int):=by omega
       obtain ⟨vk,hvk⟩:∃ vk,Hv.Ll V r al k=vk:=⟨_,rfl⟩
       have sc:=(JZ HI.out.sh k).trans (VH _ _ hlt);rw[hvk] at sc;have hiff:=Hv.akz (al:=al) bC HV.out hlt;rw[hvk] at hiff;have b9:IntKind.i64.wrap ((k:Int)+1)=(k:Int)+1:=by rw[De];omega
       by_cases hv:vk=r
       · subst hv;have hin:=hiff.1 rfl;have hyes:=Hv.acF (r:=vk) (L:=L) hin;obtain ⟨lg,kD⟩:∃ lg,Hv.TL vk al L k=lg:=⟨_,rfl⟩
         have hll:lg.length<=1100:=by rw[<- kD];have:=Hv.acE (al:=al) (L:=L) hr k;omega
         rw[kD,HZ.out] at hyes;rw[kD] at HI;have s6:=(JZ HI.out.sh 6).trans (show _=some (.string ⟨lg.toArray⟩) from rfl);have IQ:=J2 HI.out.sh 6;have fS:=JY (fun w'=>QS k hlt w');obtain ⟨lk,hlk⟩:∃ lk,LM k=lk:=⟨_,rfl⟩
         rw[hlk] at fS hyes;have HST:Hid ((⟨lg.toArray⟩:ByteArray)++⟨([lk]:S).toArray⟩=⟨(lg++[lk]).toArray⟩):=JY (Nc _ _);have AE:=JY hyes;have n1 : ¬ 9223372036854775807<lg.length+1:=by omega
         have n2 : ¬ 9223372036854775807<lg.length+1+z.length:=by omega
         clear hin hyes kD hlk hvk hiff;go_wp2_with fail;have dc:=JY (HI.out.below (below_drewN (AD wr.heap.size wr) 1))
         go_region_with (first
          | (go_at_call 17;refine (fS.out _).mono ?_;rintro e w3 ⟨rfl,rfl⟩)
          | (go_at_call 18;refine (jT.out wr.drew).mono ?_;rintro e w5 ⟨rfl,aG⟩;have ct:=JY (dc.out.below aG);have II:=(JZ ct.out.sh 6).trans (show _=some (.string ⟨lg.toArray⟩) from rfl);have CO:=J2 ct.out.sh 6;clear aG))
         all_goals
          have hfin:((⟨lg.toArray⟩:ByteArray)++⟨([lk]:S).toArray⟩)++⟨z.toArray⟩=⟨(lg++([lk]++z)).toArray⟩:=by rw[HST.out,Nc,FF]
          have HN:Hid (SG B #[.int .i64 an, .int .i64 ad] (Hv.Ll V vk al) (Hv.TL vk al L (k+1)) (al.map (Hv.Me vk)) (.slice la ln lc) w (w5.setCell ⟨B+1,6,none⟩ (.string ⟨(lg++lk::z).toArray⟩))):=JY (by
           rw[AE.out];exact ct.out.set (i:=6) (akQ _ _ _))
          clear ct dc s6 IQ II CO HST sc;go_wp2_with fail;exact ⟨⟨k+1,by omega,by push_cast;rfl,HN⟩,by simp[intOf];omega⟩
       · have b3 : ¬ (vk:Int)=(r:Int):=by omega
         have hno:=Hv.aft (r:=r) (L:=L) (fun a=>hv (hiff.2 a));have jh:=JY hno;clear hno hiff hvk;go_wp2_with fail;exact ⟨⟨k+1,by omega,by push_cast;rfl,by rw[jh.out];exact HI⟩,by simp[intOf];omega⟩
     · obtain rfl:k=6:=by omega
       have b2 : ¬ ((6:Nat):Int)<6:=by omega
       obtain ⟨V',qG⟩:∃ V',Hv.Ll V r al=V':=⟨_,rfl⟩
       obtain ⟨lg,kD⟩:∃ lg,Hv.TL r al L 6=lg:=⟨_,rfl⟩
       have xY:=JY kD;have yo:=JY qG;rw[qG,kD] at HI;clear qG kD;have c0:=(JZ HI.out.sh 0).trans (show _=some (.int .i64 (V' 0)) from rfl);have d0:=(JZ HI.out.out 0).trans (show _=some (.int .i64 0) from rfl);have f0:=J2 HI.out.out 0;have c1:=(JZ HI.out.sh 1).trans (show _=some (.int .i64 (V' 1)) from rfl);have d1:=(JZ HI.out.out 1).trans (show _=some (.int .i64 0) from rfl);have f1:=J2 HI.out.out 1;have c2:=(JZ HI.out.sh 2).trans (show _=some (.int .i64 (V' 2)) from rfl);have d2:=(JZ HI.out.out 2).trans (show _=some (.int .i64 0) from rfl);have f2:=J2 HI.out.out 2;have c3:=(JZ HI.out.sh 3).trans (show _=some (.int .i64 (V' 3)) from rfl);have d3:=(JZ HI.out.out 3).trans (show _=some (.int .i64 0) from rfl);have f3:=J2 HI.out.out 3;have c4:=(JZ HI.out.sh 4).trans (show _=some (.int .i64 (V' 4)) from rfl);have d4:=(JZ HI.out.out 4).trans (show _=some (.int .i64 0) from rfl);have f4:=J2 HI.out.out 4;have c5:=(JZ HI.out.sh 5).trans (show _=some (.int .i64 (V' 5)) from rfl);have d5:=(JZ HI.out.out 5).trans (show _=some (.int .i64 0) from rfl);have f5:=J2 HI.out.out 5;have c6:=(JZ HI.out.sh 6).trans (show _=some (.string ⟨lg.toArray⟩) from rfl);have d6:=(JZ HI.out.out 6).trans (show _=some (.string ⟨#[]⟩) from rfl);have f6:=J2 HI.out.out 6;have cG:=JY (aac wr (B+2) V' lg HI.out.out);have HB:=JY (TY HI.out.K7 (N:=B+2) (by omega) V' lg);have bl:=HI.out.row;rw[DH] at bl;have uD:=JY (Kg (w':=abj wr (B+2) V' lg) bl fun g hg=>Yx wr (B+2) V' lg g (by have:=(bl.lt g hg).1;omega));have hne : ¬ B+1=B+2:=by omega
       obtain ⟨wz,hwz⟩:∃ wz,abj wr (B+2) V' lg=wz:=⟨_,rfl⟩
       rw[hwz] at cG HB uD;have xC:((((((wr.setCell ⟨B+2,0,none⟩ (.int .i64 (V' 0))).setCell ⟨B+2,1,none⟩ (.int .i64 (V' 1))).setCell ⟨B+2,2,none⟩ (.int .i64 (V' 2))).setCell ⟨B+2,3,none⟩ (.int .i64 (V' 3))).setCell ⟨B+2,4,none⟩ (.int .i64 (V' 4))).setCell ⟨B+2,5,none⟩ (.int .i64 (V' 5))).setCell ⟨B+2,6,none⟩ (.string ⟨lg.toArray⟩)=wz:=hwz;have yr:=JY xC;clear hwz xC bl HI;go_wp2_with fail;go_region;rw[yr.out];clear c0 c1 c2 c3 c4 c5 c6 d0 d1 d2 d3 d4 d5 d6 f0 f1 f2 f3 f4 f5 f6 yr;go_wp2_with fail;have hal:Hv.MF V f q 3=al:=lK.out;have n0:=(JZ cG.out 0).trans (show _=some (Value.int .i64 (V' 0)) from rfl);have n1:=(JZ cG.out 1).trans (show _=some (Value.int .i64 (V' 1)) from rfl);have n2:=(JZ cG.out 2).trans (show _=some (Value.int .i64 (V' 2)) from rfl);have n3:=(JZ cG.out 3).trans (show _=some (Value.int .i64 (V' 3)) from rfl);have n4:=(JZ cG.out 4).trans (show _=some (Value.int .i64 (V' 4)) from rfl);have n5:=(JZ cG.out 5).trans (show _=some (Value.int .i64 (V' 5)) from rfl);have n6:=(JZ cG.out 6).trans (show _=some (Value.string ⟨lg.toArray⟩) from rfl);refine IH (v := .tuple #[.slice la ln lc, .agg (Oz V' lg)]) (by simp[results,Tryz.results6,go_sem,Oz,n0,n1,n2,n3,n4,n5,n6]) rfl ?_;refine ⟨.slice la ln lc,?_,?_,?_⟩
       · rw[hal,<- yo.out,<- xY.out,Hv.aiL]
       · rw[hal,bG.out];exact uD.out
       · rw[bG.out];exact HB.out.drew
end
end Go.Proofs.YtfhmaiicimdldaaGreatDoor
