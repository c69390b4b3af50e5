import Derived.Test.YtfhmaiicimdldaaGreatDoorFinJ33
set_option maxHeartbeats 4000000
set_option maxRecDepth 100000
namespace Go.Proofs.YtfhmaiicimdldaaGreatDoor
variable {c:UInt8}{L a db f i j k q r:Nat}{x y:Addr}{C C0 F:Nat->Prop}{w w' wm wr:World}
section
open Go.RowKit
open Kw (St ME)
open Hv (S)
variable {z:S}
def amX:S:=[98,97,52,55,56,56,98,50,50,54,97,97,56,100,99,50]
def Vg (c:UInt8) (rs:List ME):Nat->St
 | 0=>St.of green
 | 1=>⟨[],[],[],[(Hv.M6 [c],green)],[],[],[]⟩
 | _=>⟨[],[],[],[(Hv.M6 [c],green)],rs,[],[]⟩
theorem ZA(hc:Hv.Rn c) (rs:List ME) (pb:Nat) (nm ve:S) (w:World) (hb:Base w) (hpb:12<=pb):Xj pb nm ve (Vg c rs) (Hv.L6 c) 0 w:=by
 intro sl w1 hp hb1 q hq hcell;have hs:=Hv.Sv hc;have hk:WU (Hv.L6 c)=4:=by unfold WU;rw[hs];rfl
 rw[hs] at hcell |-;rw[hk];have hG:9<=12:=by decide
 obtain ⟨mx,hm⟩:=hb.mx;have fH:=(hb1.cell (p:=⟨3,0,none⟩) (by show 3<pb;have:3<12:=(by decide);omega)).trans hm;refine agH pb q 1 3 nm ve (St.of green) sl (Hv.M6 [c]) [53] amX 5 mx KH w1 hp (by omega) rfl ?_ (by decide) (by decide) (by decide) (by decide) (by decide) (by decide) (by decide) (Hv.Un hc).1 (Hv.Un hc).2 R4 fH (fun i hi=>(hb1.cell (p:=⟨4,i,none⟩) (by show 4<pb;have:4<12:=(by decide);omega)).trans (hb.rounds i hi)) (hcell 1 (by simp)) (hcell 2 (by simp)) (hcell 3 (by simp));simp[Hv.M6]
theorem ail(hc:Hv.Rn c) (hz:Hv.Vz z) (pb:Nat) (nm ve:S) (w:World) (hb:Base w) (hpb:12<=pb):Xj pb nm ve (Vg c [⟨2,Hv.M9,c::z,[]⟩]) (Hv.TM c z) 1 w:=by
 intro sl w1 hp hb1 q hq hcell;have hs:=Hv.aa4 hc hz;have hk:WU (Hv.TM c z)=5:=by unfold WU;rw[hs];rfl
 rw[hs] at hcell |-;rw[hk];obtain ⟨mx,hm⟩:=hb.mx;have fH:=(hb1.cell (p:=⟨3,0,none⟩) (by show 3<pb;have:3<12:=(by decide);omega)).trans hm;have hzl:=Hv.aeV hz;exact aiF pb q 1 3 nm ve (Vg c [] 1) sl Hv.M9 (c::z) mx w1 hp (by simp[Vg]) (by simp;omega) (by decide) (Hv.acG hc hz) Hv.afu fH hq (hcell 1 (by simp)) (hcell 2 (by simp)) (hcell 3 (by simp))
theorem UR(c:UInt8):Lib.hasPrefix (Kw.Nq++[c]) [110,97,109,101,32]=true/\Lib.trimPrefix (Kw.Nq++[c]) [110,97,109,101,32]=[c]:=by
 constructor<;>simp[Kw.Nq,Lib.hasPrefix,Lib.trimPrefix,List.isPrefixOf]
theorem Xf(z:S):Lib.hasPrefix (Kw.K5++z) [118,101,114,115,105,111,110,32]=true/\Lib.trimPrefix (Kw.K5++z) [118,101,114,115,105,111,110,32]=z:=by
 constructor<;>simp[Kw.K5,Lib.hasPrefix,Lib.trimPrefix,List.isPrefixOf]
theorem afS(hz:Hv.Vz z):J8.fine z=true:=by
 rcases hz with rfl | rfl | rfl | rfl | rfl | rfl | rfl | rfl | rfl | rfl | rfl | rfl<;>decide
theorem akk(ls:List S):(Hv.glue ls).length<=(Hv.KY ls).length:=by
 induction ls with
 | nil=>simp[Hv.glue]
 | cons a l ih =>
   cases l with
   | nil=>simp[Hv.glue,Hv.KY]
   | cons b r =>
     simp only[Hv.glue,Hv.KY,Fc,AS,CI] at ih |-;omega
theorem ab3(hc:Hv.Rn c) (hz:Hv.Vz z):Pz (Hv.QT c z):=fun w hb=>by
 obtain ⟨mx,hm⟩:=hb.mx;have hsz:=hb.size;have hG:9<=12:=by decide
 rw[Hv.VB hc hz];have hlen:=Hv.RH (c:=c) hz;have hL:=Hv.ZO hc hz;have hne:Hv.TK c z≠[]:=by simp[Hv.TK]
 have e1:KI (Hv.QT c z)=some (Hv.glue (Hv.TK c z),green):=Hv.OH green _ hne hL;have e2:sp 10 (Hv.glue (Hv.TK c z))=[104,97,118,101,110,32,49]::(Kw.Nq++[c])::(Kw.K5++z)::[Hv.L6 c,Hv.TM c z]:=(Hv.U1 _ hne (fun l q=>(hL l q).2)).trans rfl;have hgl:=akk (Hv.TK c z);have hT:(Hv.QT c z).length=(Hv.KY (Hv.TK c z)).length+6:=by simp[Hv.QT,green]
 have hzl:=Hv.aeV hz;have k0:WU (Hv.L6 c)=4:=by unfold WU;rw[Hv.Sv hc];rfl
 have k1:WU (Hv.TM c z)=5:=by unfold WU;rw[Hv.aa4 hc hz];rfl
 refine (Xq (Hv.QT c z) (Hv.glue (Hv.TK c z)) green (Kw.Nq++[c]) (Kw.K5++z) [c] z [Hv.L6 c,Hv.TM c z] (Vg c [⟨2,Hv.M9,c::z,[]⟩]) mx w (by omega) e1 (by omega) e2 (by simp) (by simp) ?_ (by simp) (by omega) (UR c).1 (UR c).2 (Xf z).1 (Xf z).2 (Hv.UH hc).1 (afS hz) hm rfl ?_ ?_ ?_ rfl).mono ?_
 · intro y hy;simp only[List.mem_cons,List.not_mem_nil,or_false] at hy;rcases hy with rfl | rfl
   · simp[Hv.L6]
   · simp[Hv.TM];omega
 · intro k hk
   match k,hk with
   | 0,_=>exact ⟨by show WU (Hv.L6 c)≠0;rw[k0];decide,by show (0:Int)<=WU (Hv.L6 c);rw[k0];decide⟩
   | 1,_=>exact ⟨by show WU (Hv.TM c z)≠0;rw[k1];decide,by show WU (Hv.L6 c)<=WU (Hv.TM c z);rw[k0,k1];decide⟩
 · intro k hk
   match k,hk with
   | 0,_=>show 2<=(sp 32 (Hv.L6 c)).length;rw[Hv.Sv hc];simp
   | 1,_=>show 2<=(sp 32 (Hv.TM c z)).length;rw[Hv.aa4 hc hz];simp
 · intro w1 hb1 k hk;have hb2:=hb.below hb1 hsz
   match k,hk with
   | 0,_=>exact ZA hc _ _ _ _ w1 hb2 (by omega)
   | 1,_=>exact ail hc hz _ _ _ w1 hb2 (by omega)
 · rintro e w' ⟨sl,rfl,h1,h2⟩;exact ⟨sl,rfl,h1,h2⟩
theorem ain:Pz (Hv.Oh 122 49 [] false):=fun w hb=>by
 obtain ⟨mx,hm⟩:=hb.mx;have hsz:=hb.size;have hc:Hv.Rn 122:=by unfold Hv.Rn;decide
 have hG:9<=12:=by decide
 rw[Hv.TS 122 49 hc (.inl rfl) [] (fun n hn=>(by cases hn)) (by simp) false];have hL:=Hv.Yb hc (.inl rfl:(49:UInt8)=49\/(49:UInt8)=50) (ns:=[]) (fun n hn=>(by cases hn)) false;have hne:Hv.Qg 122 49 [] false≠[]:=by simp[Hv.Qg,Hv.XU]
 have e1:KI (Hv.Oh 122 49 [] false)=some (Hv.glue (Hv.Qg 122 49 [] false),green):=Hv.OH green _ hne hL;have e2:sp 10 (Hv.glue (Hv.Qg 122 49 [] false))=[104,97,118,101,110,32,49]::(Kw.Nq++[122])::(Kw.K5++[49])::[Hv.L6 122]:=(Hv.U1 _ hne (fun l q=>(hL l q).2)).trans rfl;have k0:WU (Hv.L6 122)=4:=by unfold WU;rw[Hv.Sv hc];rfl
 refine (Xq (Hv.Oh 122 49 [] false) (Hv.glue (Hv.Qg 122 49 [] false)) green (Kw.Nq++[122]) (Kw.K5++[49]) [122] [49] [Hv.L6 122] (Vg 122 []) mx w (by decide) e1 (by decide) e2 (by decide) (by decide) ?_ (by decide) (by omega) (UR 122).1 (UR 122).2 (Xf [49]).1 (Xf [49]).2 (Hv.UH hc).1 (afS (.inl rfl)) hm rfl ?_ ?_ ?_ rfl).mono ?_
 · intro y hy;simp only[List.mem_cons,List.not_mem_nil,or_false] at hy;subst hy;simp[Hv.L6]
 · intro k hk
   match k,hk with
   | 0,_=>exact ⟨by show WU (Hv.L6 122)≠0;rw[k0];decide,by show (0:Int)<=WU (Hv.L6 122);rw[k0];decide⟩
 · intro k hk
   match k,hk with
   | 0,_=>show 2<=(sp 32 (Hv.L6 122)).length;rw[Hv.Sv hc];simp
 · intro w1 hb1 k hk;have hb2:=hb.below hb1 hsz
   match k,hk with
   | 0,_=>exact ZA hc _ _ _ _ w1 hb2 (by omega)
 · rintro e w' ⟨sl,rfl,h1,h2⟩;exact ⟨sl,rfl,h1,h2⟩
end
section
open Go.RowKit
open Kw (St ME)
open Hv (S Dx VM Ns All Has Pj)
variable {D D':VM Hv.PD}{G G':VM S}{xs:List S}{pl:Hv.Plan}
structure Tidy (D:VM Hv.PD) (G:VM S):Prop where
 ds:Hv.Ki D
 gs:Hv.Ki G
 rdy:∀ k d,Hv.get D k=some d->d.status=2
 var:∀ f∈G,Wd.isVar f.1=true/\Hv.Plain f.1
theorem abk:∀ (xs:List S) (b:Nat),(∀ x∈xs,x.length<=b)->(xs.map List.length).sum<=b*xs.length
 | [],b,_=>by simp
 | x::xs,b,h=>by
   have h1:=abk xs b (fun y hy=>h y (by simp[hy]));have h2:=h x (by simp);simp only[Cp,FG,CI,Nat.mul_add];omega
theorem LP.of(hM:Pj D G) (hT:Tidy D G) (hx:xs.length<=6/\∀ x∈xs,x.length<=100000) (jA:(∀ x∈Hv.K8 D,Pz x)/\Rl xs):LP D G xs:=by
 have hr:Rdy D:=fun k d q=>⟨(hM.fine.named k d q).1,(hM.fine.named k d q).2,hT.rdy k d q⟩
 have hgl:∀ f∈G,f.1.length<=24/\f.2.length<=200:=fun f hf=>⟨hM.keys f.1 f.2 ((Hv.get_some hT.gs).2 hf),hM.short f.1 f.2 ((Hv.get_some hT.gs).2 hf)⟩
 have htx:∀ p∈D,p.2.text.length<=2000:=fun p hp=>(Qi ((hr p.1 p.2 ((Hv.get_some hT.ds).2 hp)).2.1)).1
 have hl:=Hv.afD D G xs htx hM.len hgl hM.few (fun x q=>by have:=hx.2 x q;omega) hx.1;have h1:Hv.LG D<=2000*D.length:=by
  have h2:=abk (Hv.K8 D) 2000 (fun x hx=>by obtain ⟨p,hp,rfl⟩:=List.mem_map.1 hx;exact htx p hp);rw[Hv.acW] at h2;have h9:(Hv.K8 D).length=D.length:=by simp[Hv.K8]
  rw[h9] at h2;exact h2
 have h3:=abk xs 100000 hx.2;have h4:=hM.len;have h5:=hx.1;exact ⟨hT.ds,hr,hM.len,hT.gs,hM.few,fun f hf=>⟨hT.var f hf,hgl f hf⟩,hx,by omega,jA⟩
theorem Rx:Rl []:=fun t q=>(by cases q)
theorem Vh:∀ x∈Hv.K8 ([]:VM Hv.PD),Pz x:=fun x q=>by simp[Hv.K8] at q
theorem afn:∀ x∈Hv.K8 ([([122],zPD)]:VM Hv.PD),Pz x:=fun x q=>by
 simp[Hv.K8] at q;rw[q];exact ain
theorem YG:Tidy [] []:=⟨IR,IR,fun k d q=>(by cases q),fun f hf=>(by cases hf)⟩
theorem Rnd.of(hM:Pj D G) (hT:Tidy D G) (cB:Pj D' G') (hT':Tidy D' G') (hx:0<xs.length/\xs.length<=6/\∀ x∈xs,x.length<=100000) (eD:Hv.check 300 D G xs = .ok pl) (hs:0<pl.steps.length) (hr:Hv.Kc pl (Hv.KG D pl.Le,G) pl.steps=(D',G')) (cL:∀ s,Hv.wish xs = .ok s->∀ k d,Hv.get s.I k=some d->KX d.st.runs/\KX d.st.Kn) (h1:∀ x∈Hv.K8 D,Pz x) (h2:∀ x∈Hv.K8 D',Pz x) (h3:Rl xs):Rnd D G xs pl D' G' :=
 ⟨eD,hs,hr,hM,cL,LP.of hM hT ⟨by simp,fun x q=>(by cases q)⟩ ⟨h1,Rx⟩,LP.of hM hT hx.2 ⟨h1,h3⟩,LP.of cB hT' ⟨by simp,fun x q=>(by cases q)⟩ ⟨h2,Rx⟩,hx.1⟩
theorem YR{hb:Nat} {d:Dx}     (h:Rnd D G xs pl D' G') (dz:d.calm) (au:d.calls+4000000<1000000000000) (v:Value) (w:World) (hE:Ph L x y w) (he:Lh L F hb db d D G w) (hv:Reads w v xs) (oH:∀ g,v.ownBlock=some g -> ¬ F g) :
 Calls Tryz.prog 9 #[.pointer (some ⟨hb,0,none⟩),v] w fun e w'=>∃ F' d',e = .returned (.int .i64 0)/\Ns d d' 0 1500000/\Lh L F' hb db d' D' G' w'/\Kj w.heap.size F w w'/\∀ k,F' k->F k\/w.heap.size<=k:=by
 refine (ady h au v w hE he hv oH).mono ?_;rintro e w' ⟨r,rfl,d',h1,h2,h3⟩;rcases h3 with ⟨rfl,F',D2,G2,⟨rfl,rfl⟩,h4,h5⟩ | ⟨hr, -⟩
 · exact ⟨F',d',rfl,h1,h4,h2,h5⟩
 · exact absurd dz (h1.no hr).1
theorem YS{d:Dx}   (hR:LP D G []) (hH:Has 300 d.now a (Hv.KU D G []) 0) (dz:d.calm) (au:d.calls+2000000<1000000000000) (w:World) (hd:Kq C db d w) (hE:Ph L x y w) (hC:∀ k,C k->L<=k) :
 Calls Tryz.prog 12 #[SN db] w fun e w'=>∃ hb F d',e = .returned (.tuple #[.pointer (some ⟨hb,0,none⟩), .int .i64 0])/\Ns d d' 0 1000200/\Lh L F hb db d' D G w'/\Kj w.heap.size C w w'/\∀ k,F k->C k\/w.heap.size<=k:=by
 have hlen:=hH.len;have lu:=hE.low.2.2.2;have bt:∀ k,C k->12<=k:=fun k q=>by have:=hC k q;have:=hE.low.1;omega
 refine (abt db 1000200 _ (by omega) (by omega) w hd hE hC (Sd db 300 a D G hlen ⟨by decide,by decide⟩ hR hH au w hd hE.base bt)).mono ?_;rintro e w' ⟨p,r,rfl,d',C',h1,h2,h3,h4⟩;rcases h4 with ⟨rfl,hb,eb,sb,w1,rfl,rfl,k1,k2,rfl⟩ | ⟨hr, -⟩
 · obtain ⟨F,f1,f2⟩:=Tw lu hC k2 h3.2 k1;exact ⟨w1.heap.size,F,d',rfl,h1,f2,h3.1,f1⟩
 · exact absurd dz (h1.no hr).1
theorem adH:(RJ (List.replicate 300 Nr)).now.length=300:=by unfold RJ;simp only;rw[List.length_replicate]
theorem Xt:(RJ (List.replicate 300 Nr)).calls=0:=rfl
theorem aaF:(RJ (List.replicate 300 Nr)).calm:=⟨rfl,by show (-1:Int)<0;decide,rfl⟩
theorem alv:(RJ (List.replicate 300 Nr)).now[0]? = some (List.replicate 256 0):=by
 unfold RJ;simp only;rw[List.getElem?_replicate,By (by omega)];rfl
theorem ajN:Tidy [([122],zPD)] []:=by
 have hs:Hv.Ki ([([122],zPD)]:VM Hv.PD):=by simp[Hv.Ki]
 refine ⟨hs,IR,fun k d q => ?_,fun f hf=>(by cases hf)⟩;have:=(Hv.get_some hs).1 q;simp only[DQ,Prod.mk.injEq] at this;obtain ⟨rfl,rfl⟩:=this;rfl
theorem amA(db:Nat) (x y:Addr) (w:World) (hd:Kq C db (RJ (List.replicate 300 Nr)) w) (hE:Ph L x y w) (hC:∀ k,C k->L<=k) :
 Calls Tryz.prog 5 #[.pointer (some ⟨db,0,none⟩)] w fun e w'=>∃ hb F d',e = .returned (.pointer (some ⟨hb,0,none⟩))/\Ns (RJ (List.replicate 300 Nr)) d' 0 5000000/\Lh L F hb db d' [] [] w'/\Kj w.heap.size C w w'/\∀ k,F k->C k\/w.heap.size<=k:=by
 have HD:=JY hd;have HE:=JY hE;have HC:=JY hC;have hG:=hE.low;clear hd hE hC;go_enter Tryz.func5,Tryz.ntmps5;go_wp2_with fail;refine (abu (L:=L) (x:=x) (y:=y) db (by rw[adH];decide) (by rw[adH];decide) alv aaF (by rw[Xt];decide) w HD.out HE.out HC.out).mono ?_;rintro e w1 ⟨rfl,d1,C1,p1,hd1,aS,cU⟩;have bH:=JY hd1;have aO:=JY aS.1;have bB:=JY p1;have cX:=JY aS.2;have aH:=JY (HE.out.far aS.1 HC.out);have dW:=JY (show ∀ k,C1 k->L<=k from fun k q=>(cX.out k q).elim (HC.out k) (fun q=>by omega));have kz:=Hv.Ml cU;have aQ:=JY (show (∀ i,d1.may.getD i []=[])/\d1.now.length=300/\d1.calls<=200 from ⟨fun i=>by rw[kz.2.1];exact Hv.NQ _ i,by rw[kz.1];exact adH,by have:=p1.calls;rw[Xt] at this;omega⟩);clear hd1 aS cU kz p1;go_wp2_with fail;refine (ak7 (L:=L) (x:=x) (y:=y) db (by rw[aQ.out.2.1];decide) (by rw[aQ.out.2.1];decide) aQ.out.1 (by have:=aQ.out.2.2;omega) w1 bH.out aH.out dW.out).mono ?_;rintro e w2 ⟨r2,rfl,d2,C2,p2,hd2,hf2,wH⟩;have hc1:=bB.out.calm aaF;obtain rfl:r2=0:=Classical.byContradiction fun q=>(p2.no q).1 hc1
 have hs1:=aO.out.size;have aK:=JY hd2;have bA:=JY (show ∀ k,C2 k->C k\/w.heap.size<=k from fun k q=>(hf2.2 k q).elim (cX.out k) (fun q => .inr (by omega)));have bp:=JY (aO.out.next hf2.1 hs1 (fun k hk q=>(cX.out k q).resolve_right (by omega)));have bh:=JY (aH.out.far hf2.1 dW.out);have eW:=JY (show ∀ k,C2 k->L<=k from fun k q=>(bA.out k q).elim (HC.out k) (fun q=>by omega));have bQ:=JY (bB.out.trans p2);have tJ:=JY (show Has 300 d2.now 0 (Hv.KU [] [] []) 0 from by
  have h:=(wH.resolve_right fun q=>q rfl).2.has;rw[aQ.out.2.1] at h;exact h)
 have td:=JY (p2.calm hc1);have Db:=JY (show d2.calls<=300 by have:=p2.calls;have:=aQ.out.2.2;omega);clear hd2 hf2 wH p2 hc1;go_wp2_with fail;refine (YS (L:=L) (x:=x) (y:=y) (D:=[]) (G:=[]) (LP.of UM YG ⟨by simp,fun x q=>(by cases q)⟩ ⟨Vh,Rx⟩) tJ.out td.out (by have:=Db.out;omega) w2 aK.out bh.out eW.out).mono ?_;rintro e w3 ⟨hb,F0,d3,rfl,p3,sy,hf3,hk3⟩;have hs2:=bp.out.size;have bW:=JY (bh.out.far hf3 eW.out);have ur:=JY sy;have bP:=JY (bp.out.next hf3 hs2 (fun k hk q=>(bA.out k q).resolve_right (by omega)));have tU:=JY (show ∀ k,F0 k->C k\/w.heap.size<=k from fun k q=>(hk3 k q).elim (bA.out k) (fun q => .inr (by omega)));have cK:=JY (bQ.out.trans p3);have tj:=JY (p3.calm td.out);have x9:=JY (show d3.calls<=1001000 by have:=p3.calls;have:=Db.out;omega);clear sy hf3 hk3 p3 bH aK;go_wp2_with fail;have hcmp:=abW [50] [49,48] w3;rw[aj2] at hcmp;refine hcmp.mono ?_;clear hcmp;rintro e w4 ⟨rfl,hb4⟩;have iV:=JY (ur.out.below hb4);have ey:=JY (bP.out.below hb4 bP.out.size);have nD:=JY (bW.out.below hb4);clear hb4 ur;go_wp2_with fail;refine (V3 [122] [] [] 1 (by omega) (by simp) (by simp) (by simp) w4).mono ?_;rintro e w5 ⟨rfl,aG⟩;rw[amF];have eA:=JY (iV.out.below aG);have fy:=JY (ey.out.below aG ey.out.size);have jH:=JY (nD.out.below aG);obtain ⟨zt,CK⟩:∃ zt,43::Hv.Oh 122 49 [] false=zt:=⟨_,rfl⟩
 have AG:=JY CK;rw[CK];clear aG CK iV;go_wp2_with fail;have hs5:=fy.out.size;have aN:=(AD w5.heap.size w5).alloc (AC _) (.cells #[.string ⟨zt.toArray⟩] 9);have kZ:=JY (eA.out.below aN);have jd:=JY (fy.out.below aN hs5);have dM:=JY (jH.out.below aN);have jN:=JY (Z0 (w:=w5) zt 9);have wu:∀ k,F0 k->k<w5.heap.size:=fun k q=>(eA.out.lt k q).2
 have qg:=JY (show ∀ g,(Value.slice (some ⟨w5.heap.size,0,none⟩) 1 1).ownBlock=some g -> ¬ F0 g from fun g hg q=>by
  have e:w5.heap.size=g:=Cd hg;have:=wu g q;omega)
 obtain ⟨u5,EU⟩:∃ u,w5.alloc (.cells #[.string ⟨zt.toArray⟩] 9)=u:=⟨_,rfl⟩
 rw[EU] at kZ jd jN dM |-;obtain ⟨n5,EB⟩:∃ n,w5.heap.size=n:=⟨_,rfl⟩
 rw[EB] at jN qg |-;obtain ⟨JI,k1,k2,k3,k4⟩:=anF;rw[AG.out] at k1 k3;have hzl:∀ q∈[zt],q.length<=100000:=fun q hq=>by
  have e:q=zt:=by simpa using hq
  have:=ajM;rw[AG.out] at this;rw[e];omega
 have jA:Rl [zt]:=fun t q=>by
  have e:43::t=zt:=by simpa using q
  rw[<- AG.out] at e;cases e;exact ain
 have jR:=JY (YR (L:=L) (x:=x) (y:=y) (Rnd.of (xs:=[zt]) UM YG afb ajN ⟨by simp,by simp,hzl⟩ k1 k2 k4 k3 Vh afn jA) tj.out (by have:=x9.out;omega) _ u5 dM.out kZ.out jN.out qg.out);clear jA hzl k1 k2 k3 k4 aN wu EU EB eA hs5;refine jR.out.mono ?_;rintro e w6 ⟨F1,d6,rfl,p6,q1,q2,q3⟩;have kQ:=JY (dM.out.far q2 (fun k q=>(kZ.out.lt k q).1));have kX:=JY (cK.out.trans p6);have zk:=JY (p6.calm tj.out);have FM:=JY (show d6.calls<=2600000 by have:=p6.calls;have:=x9.out;omega);clear p6;have fY:=JY q1;have tV:=JY (show ∀ k,F1 k->C k\/w.heap.size<=k from fun k q=>by
  rcases q3 k q with q | q
  · exact tU.out k q
  · have:=jd.out.size;exact .inr (by omega))
 have xR:=JY (jd.out.next q2 jd.out.size (fun k hk q=>by
  rcases tU.out k q with q | q
  · exact q
  · omega))
 clear q1 q2 q3 jR kZ jN qg;go_wp2_with fail;refine (YT afb w6 fY.out).mono ?_;rintro e w7 ⟨v,rfl,q0,q1,q2⟩;obtain ⟨g1,gc,rfl,gl,gh,gx,gy⟩:=ajr q0;have ut:=JY q1;have o9:=JY (kQ.out.far q2 (fun k q=>(fY.out.lt k q).1));have kS:=JY (xR.out.next q2 xR.out.size (fun k hk q=>by
  rcases tV.out k q with q | q
  · exact q
  · omega))
 have zw:=JY (And.intro gx gy);have hg1 : ¬ F1 g1:=fun q=>by have:=(fY.out.lt g1 q).2;omega
 clear q0 q1 q2 gx gy fY;go_wp2_with fail;have xh:=kS.out.size;have gq:=(AD w7.heap.size w7).alloc (AC _) (.cells #[.string ⟨#[45,122]⟩] 9);have pW:=JY (ut.out.below gq);have gU:=JY (kS.out.below gq xh);have CS:=JY (o9.out.below gq);have gZ:Hid (Reads (w7.alloc (.cells #[.string ⟨#[45,122]⟩] 9)) (.slice (some ⟨w7.heap.size,0,none⟩) 1 1) [[45,122]]):=JY (Z0 (w:=w7) [45,122] 9);have xS:=JY (show (w7.alloc (.cells #[.string ⟨#[45,122]⟩] 9)).cell? ⟨g1,0,none⟩=some (Kl [122])/\(w7.alloc (.cells #[.string ⟨#[45,122]⟩] 9)).cell? ⟨g1,2,none⟩=some (.int .i64 2) from ⟨(Mv gh _).trans zw.out.1,(Mv gh _).trans zw.out.2⟩);have ww:∀ k,F1 k->k<w7.heap.size:=fun k q=>(ut.out.lt k q).2
 have qg:=JY (show ∀ g,(Value.slice (some ⟨w7.heap.size,0,none⟩) 1 1).ownBlock=some g -> ¬ F1 g from fun g hg q=>by
  have e:w7.heap.size=g:=Cd hg;have:=ww g q;omega)
 have rH:(w7.alloc (.cells #[.string ⟨#[45,122]⟩] 9)).heap.size=w7.heap.size+1:=by simp
 obtain ⟨u7,EW⟩:∃ u,w7.alloc (.cells #[.string ⟨#[45,122]⟩] 9)=u:=⟨_,rfl⟩
 rw[EW] at pW gU gZ xS CS rH |-;obtain ⟨n7,EC⟩:∃ n,w7.heap.size=n:=⟨_,rfl⟩
 rw[EC] at gZ qg rH gh |-;obtain ⟨JJ,k1,k2,k4⟩:=ano;have hzl:∀ q∈([[45,122]]:List S),q.length<=100000:=fun q hq=>by
  have e:q=[45,122]:=by simpa using hq
  rw[e];simp
 have jR:=JY (YR (L:=L) (x:=x) (y:=y) (Rnd.of (xs:=[[45,122]]) afb ajN UM YG ⟨by simp,by simp,hzl⟩ k1 k2 k4 (aeK afv) afn Vh (fun t q=>by simp at q)) zk.out (by have:=FM.out;omega) _ u7 CS.out pW.out gZ.out qg.out);clear hzl k1 k2 k4 gq ww EW EC ut xh zw;refine jR.out.mono ?_;rintro e w8 ⟨F2,d8,rfl,p8,q1,q2,q3⟩;have uj:=JY (kX.out.trans p8);clear p8;have uq:=JY q1;have tS:=JY (show ∀ k,F2 k->C k\/w.heap.size<=k from fun k q=>by
  rcases q3 k q with q | q
  · exact tV.out k q
  · have:=gU.out.size;exact .inr (by omega))
 have lR:=JY (gU.out.next q2 gU.out.size (fun k hk q=>by
  rcases tV.out k q with q | q
  · exact q
  · omega))
 have px:=JY (And.intro ((q2.cell (p:=⟨g1,0,none⟩) (by show g1<u7.heap.size;omega) hg1).trans xS.out.1) ((q2.cell (p:=⟨g1,2,none⟩) (by show g1<u7.heap.size;omega) hg1).trans xS.out.2));have hg2 : ¬ F2 g1:=fun q=>by
  rcases q3 g1 q with q | q
  · exact hg1 q
  · omega
 have jO:g1<w8.heap.size:=by have:=q2.size;omega
 clear q1 q2 q3 jR pW gZ qg xS rH;go_wp2_with fail;refine (YT UM w8 uq.out).mono ?_;rintro e w9 ⟨v,rfl,q0,q1,q2⟩;obtain ⟨va,vc,rfl⟩:=J4 q0;have Ah:=JY q1;have zm:=JY (lR.out.next q2 lR.out.size (fun k hk q=>by
  rcases tS.out k q with q | q
  · exact q
  · omega))
 have p0:=(q2.cell (p:=⟨g1,0,none⟩) jO hg2).trans px.out.1;have p2:=(q2.cell (p:=⟨g1,2,none⟩) jO hg2).trans px.out.2;simp only[Kl] at p0;clear q0 q1 q2 uq px;go_wp2_with fail;go_ret;exact ⟨hb,F2,d8,rfl,uj.out.more (by omega),Ah.out,zm.out,tS.out⟩
end
section
open Go.RowKit
open Kw (St ME)
open Hv (S Dx VM Ns All Zl Has Pj)
variable {T:S->Nat->Prop}{d':Dx}
structure OY (L:Nat) (x y:Addr) (C0:Nat->Prop) (V:Nat) (T:S->Nat->Prop) (w:World) (k:Nat) (db:Nat) (C:Nat->Prop) (d:Dx) (wr:World):Prop where
 dk:Kq C db d wr
 env:Ph L x y wr
 lo:∀ q,C q->L<=q
 new:∀ q,C q->C0 q\/w.heap.size<=q
 far:Kj w.heap.size C0 w wr
 all:All d (O7 300 T)
 calls:d.calls<=V+3000000*k
theorem OY.below{V:Nat}     {d:Dx}  (h:OY L x y C0 V T w k db C d wr) (hb:Below wr.heap.size wr w'):OY L x y C0 V T w k db C d w' :=
 ⟨h.dk.below hb,h.env.below hb,h.lo,h.new,h.far.below hb h.far.size,h.all,h.calls⟩
theorem OY.turn{V:Nat}     {d:Dx}  (h:OY L x y C0 V T w k db C d wr) (hd:Kq C db d' w') (hf:Kj wr.heap.size (fun q=>q=db) wr w') (h1:d'.now=d.now) (h2:d'.may=d.may) (h3:d'.calls=d.calls):OY L x y C0 V T w k db C d' w':=by
 have hin:=h.dk.at_;refine ⟨hd,h.env.far hf (fun q e=>by rw[e];exact h.lo db hin),h.lo,h.new,h.far.next hf h.far.size (fun q hq e => ?_),fun im q=>h.all im ⟨by rw[<- h1];exact q.1,fun i=>by rw[<- h1,<- h2];exact q.2 i⟩,by rw[h3];exact h.calls⟩;rw[e];exact (h.new db hin).resolve_right (by rw[<- e];omega)
def V9 (d:Dx):Dx:={ ({ d with after := -1 }:Dx) with fl:=aiT }
theorem OY.idle{V:Nat}     {d:Dx}  (h:OY L x y C0 V T w k db C d wr):OY L x y C0 V T w k db C (V9 d) ((wr.setCell ⟨db,3,none⟩ (.int .i64 (-1))).setCell ⟨db,5,none⟩ (.slice none 0 0)):=by
 have h0 : ¬ C 0:=fun q=>by have h6:=h.lo 0 q;have h7:=h.env.low.1;have h5:0<12:=(by decide);omega
 have hs:0<wr.heap.size:=by have:=h.dk.lt db h.dk.at_;omega
 refine h.turn ((h.dk.P5 (-1)).ac8 aiT ⟨(show (0:Nat)<=maxLen by decide),fun i hi=>absurd hi (by show ¬ i<0;omega)⟩ ⟨h0,by show 0<_;simpa using hs⟩) ?_ rfl rfl rfl;exact ((Kj.refl wr.heap.size (fun q=>q=db) wr).setCell (p:=⟨db,3,none⟩) (.inr rfl) _).setCell (p:=⟨db,5,none⟩) (.inr rfl) _
theorem OY.until{V:Nat}     {d:Dx}  (h:OY L x y C0 V T w k db C d wr) (a:Int):OY L x y C0 V T w k db C { d with after:=a } (wr.setCell ⟨db,3,none⟩ (.int .i64 a)) :=
 h.turn (h.dk.P5 a) ((Kj.refl wr.heap.size (fun q=>q=db) wr).setCell (p:=⟨db,3,none⟩) (.inr rfl) _) rfl rfl rfl
theorem OY.again{V:Nat}     {d:Dx}  {ys:List S} (h:OY L x y C0 V T w k db C d wr) (hi:Zl d ys) (hd:Kq (fun q=>wr.heap.size<=q/\q<w'.heap.size) wr.heap.size (RJ ys) w') (hb:Below wr.heap.size wr w'):OY L x y C0 V T w k wr.heap.size (fun q=>wr.heap.size<=q/\q<w'.heap.size) (RJ ys) w':=by
 refine ⟨hd,h.env.below hb,fun q hq=>by have:=h.env.low.2.2.2;omega,fun q hq => .inr (Bi h.far.size hq.1),h.far.below hb h.far.size,?_,by show 0<=_;omega⟩;refine Hv.Qr (fun i => ?_) (h.all _ hi);show (ys.map fun _=>([]:List S)).getD i []=[];simp only[B7,GO];cases ys[i]? <;> rfl
theorem OY.next{V K:Nat}    {C':Nat->Prop} {d:Dx} {r:Int}  (h:OY L x y C0 V T w k db C d wr) (hop:Ns d d' r K) (hK:K<=3000000) (hF:∀ q,F q->C q\/wr.heap.size<=q) (hm:Kj wr.heap.size C wr wm) (hf:Kj wm.heap.size F wm w') (hd:Kq C' db d' w') (hC:∀ q,C' q->F q\/wm.heap.size<=q) (hall:All d' (O7 300 T)):OY L x y C0 V T w (k+1) db C' d' w':=by
 have hs:=h.far.size;have hs2:=hm.size;have hL:=h.env.low.2.2.2;have DW:∀ q,F q->L<=q:=fun q hq=>(hF q hq).elim (h.lo q) (fun q2=>by omega)
 have hFn:∀ q,F q->C0 q\/w.heap.size<=q:=fun q hq=>(hF q hq).elim (h.new q) (fun q2 => .inr (by omega))
 have GI:∀ q,C q->C0 q\/w.heap.size<=q:=h.new
 refine ⟨hd,(h.env.far hm h.lo).far hf DW,fun q hq=>(hC q hq).elim (DW q) (fun q2=>by omega),fun q hq=>(hC q hq).elim (hFn q) (fun q2 => .inr (by omega)),(h.far.next hm hs (fun q hq e=>(GI q e).resolve_right (by omega))).next hf (by omega) (fun q hq e=>(hFn q e).resolve_right (by omega)),hall,?_⟩;have:=hop.calls;have:=h.calls;omega
theorem OY.anv{V:Nat}     {d:Dx}  (h:OY L x y C0 V T w k db C d wr) (hF:∀ q,F q->C q\/wr.heap.size<=q) (hm:Kj wr.heap.size C wr wm) (hf:Kj wm.heap.size F wm w'):Kj w.heap.size C0 w w'/\∀ q,F q->C0 q\/w.heap.size<=q:=by
 have hs:=h.far.size;have hs2:=hm.size;have hFn:∀ q,F q->C0 q\/w.heap.size<=q:=fun q hq=>(hF q hq).elim (h.new q) (fun q2 => .inr (by omega))
 exact ⟨(h.far.next hm hs (fun q hq e=>(h.new q e).resolve_right (by omega))).next hf (by omega) (fun q hq e=>(hFn q e).resolve_right (by omega)),hFn⟩
theorem afM(c:Int) (m:Nat) (hm:m=3\/m=7) (h : -9223372036854775808<=c/\c<=9223372036854775807) : -9223372036854775808<=c.tdiv (m:Int)/\c.tdiv (m:Int)<=9223372036854775807:=by
 have h1:(c.tdiv (m:Int)).natAbs=c.natAbs / m:=by rw[Int.natAbs_tdiv];rfl
 rcases hm with rfl | rfl<;>omega
theorem afC(c n:Int) (hn:0<n):0<=pk c n/\pk c n<n:=by
 unfold pk;exact ⟨Int.emod_nonneg _ (by omega),Int.emod_lt_of_pos _ hn⟩
end
section
open Go.RowKit
open Kw (St ME)
open Hv (S VM)
namespace Hv
def Qw (V:Nat->Nat) (k d:Nat):List (Nat × Nat):=if d=1 then [(k,1)] else if d=2/\0<V k then [(k,2)] else []
def nmA (f m:Nat):Nat:=(f+(2-m))%6
def MF (V:Nat->Nat) (f q:Nat):Nat->List (Nat × Nat)
 | 0=>[]
 | m+1=>MF V f q m++Qw V (nmA f m) (q / 3^m%3)
theorem acJ{V:Nat->Nat} {d:Nat} {a:Nat × Nat} (h:a∈Qw V k d):a.1=k/\(a.2=1\/(a.2=2/\0<V k)):=by
 unfold Qw at h;split at h
 · simp at h;subst h;exact ⟨rfl, .inl rfl⟩
 · split at h
   · next hd=>simp at h;subst h;exact ⟨rfl, .inr ⟨rfl,hd.2⟩⟩
   · cases h
theorem Rq{V:Nat->Nat} :∀ {m:Nat} {a:Nat × Nat},a∈MF V f q m->∃ i,i<m/\a.1=nmA f i/\(a.2=1\/(a.2=2/\0<V a.1))
 | 0,_,h=>by cases h
 | m+1,a,h=>by
   rcases List.mem_append.1 h with h | h
   · obtain ⟨i,h1,h2⟩:=Rq h;exact ⟨i,by omega,h2⟩
   · obtain ⟨h1,h2⟩:=acJ h;exact ⟨m,by omega,h1,by rw[h1];exact h2⟩
theorem Um{V:Nat->Nat} :∀ m,(MF V f q m).length<=m
 | 0=>AC _
 | m+1=>by
   have ih:=Um (V:=V) m;show (MF V f q m++Qw V (nmA f m) (q / 3^m%3)).length<=_;rw[AS];have:(Qw V (nmA f m) (q / 3^m%3)).length<=1:=by
    unfold Qw;split
    · simp
    · split<;>simp
   omega
theorem akC(V:Nat->Nat) (k d:Nat):((Qw V k d).map (·.1)).Nodup:=by
 unfold Qw;split
 · simp
 · split<;>simp
theorem Si{V:Nat->Nat} :∀ m,m<=3->Uj V (MF V f q m)
 | 0,_=>⟨fun a h=>(by cases h),List.nodup_nil,fun a h=>(by cases h)⟩
 | m+1,hm=>by
   have ih:=Si (V:=V) m (by omega);refine ⟨fun a h => ?_,?_,fun a h => ?_⟩
   · obtain ⟨i,h1,h2, -⟩:=Rq h;rw[h2];unfold nmA;omega
   · show ((MF V f q m++Qw V (nmA f m) (q / 3^m%3)).map (·.1)).Nodup;rw[GB];refine List.nodup_append.2 ⟨ih.nd,akC _ _ _,fun x hx y hy e => ?_⟩;obtain ⟨a,ha,rfl⟩:=List.mem_map.1 hx;obtain ⟨b,hb,rfl⟩:=List.mem_map.1 hy;obtain ⟨i,h1,h2, -⟩:=Rq ha;obtain ⟨h3, -⟩:=acJ hb;rw[h2,h3] at e;unfold nmA at e;omega
   · obtain ⟨i, -, -,h2⟩:=Rq h;exact h2
theorem Yf{V:Nat->Nat}  {al:List (Nat × Nat)} {d:Nat} (hd:d=1\/d=2) (hk:∀ a∈al,a.1≠k) (j:Nat):Ll V r (al++[(k,d)]) j=if j=k then (if d=1 then r else 0) else Ll V r al j:=by
 unfold Ll;simp only[IF,DQ,Prod.mk.injEq];by_cases e:j=k
 · subst e;have h1 : ¬ (j,1)∈al:=fun q=>hk _ q rfl
   have h2 : ¬ (j,2)∈al:=fun q=>hk _ q rfl
   rcases hd with rfl | rfl<;>simp[h1,h2]
 · simp[e]
theorem agN(V:Nat->Nat) (r j:Nat):Ll V r [] j=V j:=by simp[Ll]
theorem akz{V:Nat->Nat}  {al:List (Nat × Nat)} (hr:0<r) (hv:∀ j,j<6->V j<r)  (hj:j<6):Ll V r al j=r ↔ (j,1)∈al:=by
 have:=hv j hj;unfold Ll;split
 · next h=>exact ⟨fun _=>h,fun _=>rfl⟩
 · next h =>
   refine ⟨fun e => ?_,fun e=>absurd e h⟩;split at e<;>omega
def TL (r:Nat) (al:List (Nat × Nat)) (L:S) (k:Nat):S:=L++L8 r ((List.range k).filter fun j=>decide ((j,1)∈al))
theorem ZN(r:Nat) (al:List (Nat × Nat)) (L:S):TL r al L 0=L:=by simp[TL,L8]
theorem aiL(r:Nat) (al:List (Nat × Nat)) (L:S):TL r al L 6=L++L8 r (newF al):=rfl
theorem acF{al:List (Nat × Nat)} {L:S}  (h:(k,1)∈al):TL r al L (k+1)=TL r al L k++([LM k]++J8.dg r):=by
 unfold TL L8;rw[List.range_succ,Fs,Do,FF];simp[h]
theorem aft{al:List (Nat × Nat)} {L:S}  (h:(k,1) ∉ al):TL r al L (k+1)=TL r al L k:=by
 unfold TL L8;rw[List.range_succ,Fs,Do];simp[h]
theorem acE{al:List (Nat × Nat)} {L:S} (hr:r<=12):∀ k,(TL r al L k).length<=L.length+3*k
 | 0=>by rw[ZN];omega
 | k+1=>by
   have ih:=acE (al:=al) (L:=L) hr k;have hd:(J8.dg r).length<=2:=by
    have:r=0\/r=1\/r=2\/r=3\/r=4\/r=5\/r=6\/r=7\/r=8\/r=9\/r=10\/r=11\/r=12:=by omega
    rcases this with rfl | rfl | rfl | rfl | rfl | rfl | rfl | rfl | rfl | rfl | rfl | rfl | rfl<;>decide
   by_cases h:(k,1)∈al
   · rw[acF h];simp only[AS,CI,List.length_nil];omega
   · rw[aft h];omega
end Hv
theorem adS(hr:r<=12):(J8.dg r).length<=2:=by
 have:r=0\/r=1\/r=2\/r=3\/r=4\/r=5\/r=6\/r=7\/r=8\/r=9\/r=10\/r=11\/r=12:=by omega
 rcases this with rfl | rfl | rfl | rfl | rfl | rfl | rfl | rfl | rfl | rfl | rfl | rfl | rfl<;>decide
theorem ajV(k r:Nat):abK [LM k] r [] (([114,117,110,32,97,100,100,32,47,118,97,114,47,108,111,103,32]++[LM k])++J8.dg r++[10])=43::Hv.QT (LM k) (J8.dg r):=by
 unfold abK Hv.QT Hv.TK Hv.KY;obtain ⟨c,hc⟩:∃ c,LM k=c:=⟨_,rfl⟩
 obtain ⟨d,hd⟩:∃ d,J8.dg r=d:=⟨_,rfl⟩
 rw[hc,hd];simp[Hv.L6,Hv.TM,Kw.Qo,Kw.Nq,Kw.K5,green]
end
section
open Kw (St ME)
open Hv (S VM)
namespace Hv
def W9 (V:Nat->Nat) (k:Nat):Nat:=((List.range k).filter fun j=>decide (0<V j)).length
theorem ajW{V:Nat->Nat}  (h:0<V k):W9 V (k+1)=W9 V k+1:=by
 unfold W9;rw[List.range_succ,Fs,AS];simp[h]
theorem alu{V:Nat->Nat}  (h : ¬ 0<V k):W9 V (k+1)=W9 V k:=by
 unfold W9;rw[List.range_succ,Fs,AS];simp[h]
def ajU (D:VM PD) (V:Nat->Nat) (k:Nat):Prop:=0<V k->∃ p,D[W9 V k]? = some p/\p.1=[LM k]/\p.2.ve=J8.dg (V k)
def abD (D:VM PD) (G:VM S) (V:Nat->Nat) (L:S):Prop:=(∀ k,k<6->ajU D V k)/\W9 V 6=D.length/\(K3 D G).length=(if L=[] then W9 V 6 else W9 V 6+1)/\(get (K3 D G) M9).getD []=L
theorem afo(p:Nat->Bool):∀ n k,k<n->p k=true->((List.range n).filter p)[((List.range k).filter p).length]? = some k
 | 0,k,h,_=>by omega
 | n+1,k,h,hp=>by
   rw[List.range_succ,Fs];by_cases e:k<n
   · have ih:=afo p n k e hp;rw[List.getElem?_append_left (List.getElem?_eq_some_iff.1 ih).1];exact ih
   · obtain rfl:k=n:=by omega
     rw[Hc (AC _),Nat.sub_self];simp[hp]
theorem aaT(p:Nat->Bool):∀ n i,i<((List.range n).filter p).length->∃ k,k<n/\p k=true/\((List.range k).filter p).length=i
 | 0,i,h=>by simp at h
 | n+1,i,h=>by
   rw[List.range_succ,Fs,AS] at h;by_cases e:i<((List.range n).filter p).length
   · obtain ⟨k,h1,h2,h3⟩:=aaT p n i e;exact ⟨k,by omega,h2,h3⟩
   · by_cases hp:p n=true
     · simp[hp] at h;exact ⟨n,by omega,hp,by omega⟩
     · simp[hp] at h;omega
theorem UC(V:Nat->Nat):(Mf V).length=W9 V 6:=by
 unfold Mf W9;rw[DH]
theorem Xc{V:Nat->Nat}  (hk:k<6) (h:0<V k):(Mf V)[W9 V k]? = some ([LM k],Oo k (V k) 2):=by
 unfold Mf W9;rw[GO,afo (fun j=>decide (0<V j)) 6 k hk (by simp[h])];rfl
theorem aaU{V:Nat->Nat}  {p:S × PD} (h:(Mf V)[i]? = some p):∃ k,k<6/\0<V k/\W9 V k=i/\p=([LM k],Oo k (V k) 2):=by
 have hi:=(List.getElem?_eq_some_iff.1 h).1;rw[UC] at hi;obtain ⟨k,h1,h2,h3⟩:=aaT (fun j=>decide (0<V j)) 6 i hi;have h2':0<V k:=by simpa using h2
 have h4:=Xc h1 h2';rw[show W9 V k=i from h3,h] at h4;exact ⟨k,h1,h2',h3,Cd h4⟩
theorem Xd(hj:j<6) (hk:k<6) (h:LM j=LM k):j=k:=by
 have h1:j=0\/j=1\/j=2\/j=3\/j=4\/j=5:=by omega
 have h2:k=0\/k=1\/k=2\/k=3\/k=4\/k=5:=by omega
 rcases h1 with rfl | rfl | rfl | rfl | rfl | rfl<;>rcases h2 with rfl | rfl | rfl | rfl | rfl | rfl<;>first | rfl | (exfalso;revert h;decide)
theorem alA{b:Nat} (ha:a<=12) (hb:b<=12) (h:J8.dg a=J8.dg b):a=b:=by
 have h1:a=0\/a=1\/a=2\/a=3\/a=4\/a=5\/a=6\/a=7\/a=8\/a=9\/a=10\/a=11\/a=12:=by omega
 have h2:b=0\/b=1\/b=2\/b=3\/b=4\/b=5\/b=6\/b=7\/b=8\/b=9\/b=10\/b=11\/b=12:=by omega
 rcases h1 with rfl | rfl | rfl | rfl | rfl | rfl | rfl | rfl | rfl | rfl | rfl | rfl | rfl<;>rcases h2 with rfl | rfl | rfl | rfl | rfl | rfl | rfl | rfl | rfl | rfl | rfl | rfl | rfl<;>first | rfl | (exfalso;revert h;decide)
theorem ahl{V V2:Nat->Nat} {G:VM S} {L:S} (hV:∀ j,j<6->V j<=12) (hV2:∀ j,j<6->V2 j<=12) (h:abD (Mf V2) G V L):∀ k,k<6->V k=V2 k:=by
 obtain ⟨h1,h2, -⟩:=h;rw[UC] at h2;have key:∀ k,k<6->0<V k->V k=V2 k/\W9 V2 k=W9 V k:=fun k hk h0=>by
  obtain ⟨p,q1,q2,q3⟩:=h1 k hk h0;obtain ⟨j,j1,j2,j3,rfl⟩:=aaU q1;have e:j=k:=Xd j1 hk (by simpa using q2);subst e;exact ⟨(alA (hV2 j j1) (hV j j1) q3).symm,j3⟩
 intro k hk;by_cases h0:0<V k
 · exact (key k hk h0).1
 · by_cases h3:0<V2 k
   · exfalso;have h4:=Xc hk h3;have h5:=(List.getElem?_eq_some_iff.1 h4).1;rw[UC,<- h2] at h5;obtain ⟨j,j1,j2,j3⟩:=aaT (fun j=>decide (0<V j)) 6 _ h5;have E6:0<V j:=by simpa using j2
     have h6:=key j j1 E6;have h7:W9 V2 j=W9 V2 k:=h6.2.trans j3;have h8:=Xc (V:=V2) j1 (by omega);rw[h7,h4] at h8;have h9:=IN (fun o=>o.map Prod.fst) h8;have e:k=j:=Xd hk j1 (by simpa using h9);rw[e] at h0;exact h0 E6
   · omega
end Hv
namespace Hv
theorem afq{α:Type} (x:S × α):∀ l:VM α,(ins x l).length=l.length+1
 | []=>rfl
 | y::r=>by
   unfold ins;split
   · rfl
   · simp[afq x r]
theorem akN{α:Type} {E:VM α} {k:S} (h:get E k=none) (v:α):(put E k v).length=E.length+1:=by
 unfold put;rw[afq]
 congr 1
 have e:del E k=E:=List.filter_eq_self.2 fun p hp=>by
  have h1:=(get_none.1 h) p hp;simpa using h1
 rw[e]
theorem ajY(hi:i<6) (hj:j<6) (h:M6 [LM i]=M6 [LM j]):i=j:=by
 refine Xd hi hj ?_;unfold M6 at h;simpa using h
theorem afk(j:Nat):M6 [LM j]≠M9:=by
 unfold M6 M9;simp
theorem adq(V:Nat->Nat) (L:S) (p:Nat->Bool):∀ n,n<=6->Ki (K3 (((List.range n).filter p).map fun j=>([LM j],Oo j (V j) 2)) (Lp L))/\(K3 (((List.range n).filter p).map fun j=>([LM j],Oo j (V j) 2)) (Lp L)).length=((List.range n).filter p).length+(Lp L).length/\(∀ j,j<6->get (K3 (((List.range n).filter p).map fun j=>([LM j],Oo j (V j) 2)) (Lp L)) (M6 [LM j])=if j<n/\p j=true then some green else none)/\get (K3 (((List.range n).filter p).map fun j=>([LM j],Oo j (V j) 2)) (Lp L)) M9=get (Lp L) M9
 | 0,_=>by
   refine ⟨PW L,by simp[K3],fun j hj => ?_,rfl⟩;rw[Bm (by omega)];show get (Lp L) (M6 [LM j])=none;rw[get_none];intro q hq e;unfold Lp at hq;split at hq
   · cases hq
   · simp at hq;subst hq;exact afk j e.symm
 | n+1,hn=>by
   obtain ⟨h1,h2,h3,h4⟩:=adq V L p n (by omega);by_cases hp:p n=true
   · have e:((List.range (n+1)).filter p).map (fun j=>([LM j],Oo j (V j) 2))=((List.range n).filter p).map (fun j=>([LM j],Oo j (V j) 2))++[([LM n],Oo n (V n) 2)]:=by
      rw[List.range_succ,Fs,GB];simp[hp]
     have e2:((List.range (n+1)).filter p).length=((List.range n).filter p).length+1:=by
      rw[List.range_succ,Fs,AS];simp[hp]
     rw[e,e2,YK];obtain ⟨E,hE⟩:∃ E,K3 (((List.range n).filter p).map fun j=>([LM j],Oo j (V j) 2)) (Lp L)=E:=⟨_,rfl⟩
     rw[hE] at h1 h2 h3 h4 |-;show Ki (put E (M6 [LM n]) green)/\(put E (M6 [LM n]) green).length=_/\(∀ j,j<6->get (put E (M6 [LM n]) green) (M6 [LM j])=_)/\get (put E (M6 [LM n]) green) M9=_;have hnone:get E (M6 [LM n])=none:=by rw[h3 n (by omega),Bm (by omega)]
     refine ⟨h1.put _ _,by rw[akN hnone,h2];omega,fun j hj => ?_,by rw[J7 h1 _ (afk n).symm,h4]⟩;by_cases hjn:j=n
     · subst hjn;rw[Ka h1,By ⟨by omega,hp⟩]
     · rw[J7 h1 _ (fun q=>hjn (ajY hj (by omega) q)),h3 j hj];by_cases q:j<n/\p j=true
       · rw[By q,By ⟨by omega,q.2⟩]
       · rw[Bm q,Bm (fun a=>q ⟨by omega,a.2⟩)]
   · have e:(List.range (n+1)).filter p=(List.range n).filter p:=by
      rw[List.range_succ,Fs];simp[hp]
     rw[e];refine ⟨h1,h2,fun j hj => ?_,h4⟩;rw[h3 j hj];by_cases q:j<n/\p j=true
     · rw[By q,By ⟨by omega,q.2⟩]
     · rw[Bm q,Bm (fun a=>q ⟨by
        by_cases hjn:j=n
        · subst hjn;exact absurd a.2 hp
        · omega,a.2⟩)]
theorem aku(L:S):(get (Lp L) M9).getD []=L:=by
 unfold Lp;split
 · next h=>subst h;rfl
 · simp[get]
theorem aaj{V:Nat->Nat} {L:S}:abD (Mf V) (Lp L) V L/\∀ k,k<6->0<V k->(get (K3 (Mf V) (Lp L)) (M6 [LM k])).getD []=green:=by
 obtain ⟨h1,h2,h3,h4⟩:=adq V L (fun j=>decide (0<V j)) 6 (AC _);refine ⟨⟨fun k hk h0=>⟨_,Xc hk h0,rfl,rfl⟩,(UC V).symm,?_,?_⟩,fun k hk h0 => ?_⟩
 · show (K3 _ _).length=_;unfold Mf;rw[h2];unfold Lp W9;split<;>simp
 · unfold Mf;rw[h4];exact aku L
 · unfold Mf;rw[h3 k hk,By ⟨hk,by simp[h0]⟩];rfl
end Hv
end
section
open Kw (St ME)
open Hv (S Dx VM Pj)
namespace Hv
theorem RB(V:Nat->Nat):U7 V (Mf V):=by
 have hs:=R6 (js:=(List.range 6).filter fun j=>decide (0<V j)) (fun j=>Oo j (V j) 2) (fun j hj=>by simp at hj;exact hj.1) (List.Pairwise.filter _ List.pairwise_lt_range);refine ⟨hs,fun k d => ?_⟩;unfold Mf;rw[get_some hs,List.mem_map];constructor
 · rintro ⟨j,hj,e⟩;cases e;simp at hj;exact ⟨j,hj.1,hj.2,rfl,rfl⟩
 · rintro ⟨j,hj,hv,rfl,rfl⟩;exact ⟨j,by simp[hj,hv],rfl⟩
theorem aip:Mf (fun _=>0)=[]:=by
 unfold Mf;simp
theorem RD{V:Nat->Nat} {L:S} (hV:∀ j,j<6->V j<=12) (hL:L.length<=200):Pj (Mf V) (Lp L) :=
 ⟨(RB V).fine hV,by have:=(RB V).len;omega,by have:=aiJ L;omega,aej hL,akt L⟩
theorem aiS{V:Nat->Nat}  {al:List (Nat × Nat)} (hv:∀ j,j<6->V j<r) (ha:Uj V al) (hne:al≠[]):∃ j,j<6/\V j≠Ll V r al j:=by
 obtain ⟨⟨j,t⟩,hm⟩:∃ a,a∈al:=by
  cases al with
  | nil=>exact absurd rfl hne
  | cons a l=>exact ⟨a,by simp⟩
 have hj:j<6:=ha.lt _ hm;have hr:=hv j hj;refine ⟨j,hj,?_⟩;unfold Ll;by_cases h1:(j,1)∈al
 · rw[By h1];omega
 · rw[Bm h1];rcases ha.deed _ hm with q | ⟨q,h0⟩
   · have q:t=1:=q;subst q;exact absurd hm h1
   · have q:t=2:=q;subst q;rw[By hm];have h0:0<V j:=h0;omega
theorem ajq{V:Nat->Nat}  {al:List (Nat × Nat)} {L L':S} (h12:r<=12) (hv:∀ j,j<6->V j<r) (ha:Uj V al) (hne:al≠[]) : ¬ abD (Mf (Ll V r al)) (Lp L') V L:=fun h=>by
 obtain ⟨j,hj,e⟩:=aiS hv ha hne;exact e (ahl (fun j hj=>by have:=hv j hj;omega) (fun j hj=>by have:=RN (al:=al) hv j hj;omega) h j hj)
theorem agw(V:Nat->Nat):∀ p∈Mf V,p.2.status=2:=fun p hp=>by
 unfold Mf at hp;obtain ⟨j,_,rfl⟩:=List.mem_map.1 hp;rfl
theorem agv(V:Nat->Nat) (L:S):∀ k,k<6->∀ p∈Mf V,p.1=[LM k]->(get (K3 (Mf V) (Lp L)) (M6 [LM k])).getD []=green:=fun k hk p hp e=>by
 obtain ⟨i,hi,hi2⟩:=List.mem_iff_getElem.1 hp;obtain ⟨j,hj,h0,_,rfl⟩:=aaU (V:=V) (i:=i) (p:=p) (by rw[B9 hi,hi2]);obtain rfl:j=k:=Xd hj hk (by simpa using e);exact aaj.2 j hj h0
end Hv
theorem UD(V:Nat->Nat) (L:S):Tidy (Hv.Mf V) (Hv.Lp L):=by
 refine ⟨(Hv.RB V).Mt,Hv.PW L,fun k d q => ?_,fun f hf => ?_⟩
 · obtain ⟨j,_,_,_,rfl⟩:=((Hv.RB V).get k d).1 q;rfl
 · unfold Hv.Lp at hf;split at hf
   · cases hf
   · simp at hf;subst hf;exact ⟨(by decide:Wd.isVar Hv.M9=true),(by unfold Hv.Plain;decide:Hv.Plain Hv.M9)⟩
theorem Ux{V:Nat->Nat} (hV:∀ j,j<6->V j<=12):∀ x∈Hv.K8 (Hv.Mf V),Pz x:=fun x hx=>by
 obtain ⟨p,hp,rfl⟩:=List.mem_map.1 hx;obtain ⟨i,hi,hi2⟩:=List.mem_iff_getElem.1 hp;obtain ⟨j,hj,h0,_,rfl⟩:=Hv.aaU (V:=V) (i:=i) (p:=p) (by rw[B9 hi,hi2]);exact ab3 (Ya hj) (Hv.aaq h0 (hV j hj))
theorem adV{al:List (Nat × Nat)} (h0:0<r) (h12:r<=12) (h:∀ a∈al,a.1<6):Rl (al.map (Hv.Me r)):=fun t q=>by
 obtain ⟨a,ha,e⟩:=List.mem_map.1 q;unfold Hv.Me at e;split at e
 · cases e;exact ab3 (Ya (h a ha)) (Hv.aaq h0 h12)
 · cases e
theorem akh{V:Nat->Nat} {L:S}  (h0:0<r) (h12:r<=12) (hv:∀ j,j<6->V j<r) {al:List (Nat × Nat)} (ha:Hv.Uj V al) (hne:al≠[]) (hL:(L++Hv.L8 r (Hv.newF al)).length<=200) :
 ∃ pl,Rnd (Hv.Mf V) (Hv.Lp L) (al.map (Hv.Me r)) pl (Hv.Mf (Hv.Ll V r al)) (Hv.Lp (L++Hv.L8 r (Hv.newF al))):=by
 obtain ⟨pl,D',h1,h2,h3,h4,h5⟩:=Hv.agx (Hv.RB V) h0 h12 hv ha hne hL;have e:=h5.eq;subst e;have sx:L.length<=200:=by rw[AS] at hL;omega
 refine ⟨pl,Rnd.of (Hv.RD (fun j hj=>by have:=hv j hj;omega) sx) (UD _ _) (Hv.RD (fun j hj=>by have:=Hv.RN (al:=al) hv j hj;omega) hL) (UD _ _) ⟨?_,by rw[DH];exact ha.len,fun x hx => ?_⟩ h1 h2 h4 h3 (Ux fun j hj=>by have:=hv j hj;omega) (Ux fun j hj=>by have:=Hv.RN (al:=al) hv j hj;omega) (adV h0 h12 ha.lt)⟩
 · rw[DH];exact List.length_pos_iff.2 hne
 · obtain ⟨a,_,rfl⟩:=List.mem_map.1 hx;have:=Hv.ZK a h0 h12;omega
end
end Go.Proofs.YtfhmaiicimdldaaGreatDoor
