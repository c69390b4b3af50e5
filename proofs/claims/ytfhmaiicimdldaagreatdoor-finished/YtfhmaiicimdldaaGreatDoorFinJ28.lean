import Derived.Test.YtfhmaiicimdldaaGreatDoorFinJ27
set_option maxHeartbeats 8000000
set_option maxRecDepth 100000
namespace Go.Proofs.YtfhmaiicimdldaaGreatDoor
variable {B k:Nat}{w w' wr:World}
section
open Go.RowKit
open Hv (S VM)
variable {ts xs:List S}{fs:List (S × S)}
theorem aaI(u v:S) (h:∀ c∈u,c≠10) (hl:(u++10::v).length<=1000000000) (w:World) (hb:Base w):Calls Tryz.prog 52 #[.string ⟨(u++10::v).toArray⟩, .string ⟨#[10]⟩] w fun e w'=>e = .returned (.tuple #[.string ⟨u.toArray⟩, .string ⟨v.toArray⟩, .bool true])/\Below w.heap.size w w'/\w'.heap.size=w.heap.size:=by
 obtain ⟨m,hm⟩:=hb.mx;refine (Tryz.strings_Cut ⟨(u++10::v).toArray⟩ ⟨#[10]⟩ m w (by show (u++10::v).length<_;omega) hm).mono ?_;rintro e w' ⟨he,n,rfl⟩;refine ⟨?_,below_drewN (AD _ _) n,rfl⟩;rw[he];show Ending.returned (.tuple #[.string ⟨(Lib.cut (u++10::v) [10]).1.toArray⟩, .string ⟨(Lib.cut (u++10::v) [10]).2.1.toArray⟩, .bool (Lib.cut (u++10::v) [10]).2.2])=_;rw[Hv.aib u v h]
structure ale (ts:List S) (fs:List (S × S)) (xs:List S):Prop where
 t:ts.length<=100/\∀ x∈ts,x.length<=100000
 f:fs.length<=100/\∀ f∈fs,f.1.length<=100/\f.2.length<=100000
 x:xs.length<=100/\∀ x∈xs,x.length<=100000
 pl:∀ f∈fs,Hv.Plain f.1
 len:(Hv.OQ (Hv.QV ts fs xs)).length<=100000000
theorem ahn(ps:List (S × S)) (k:Nat):(Hv.OQ (ps.drop k)).length<=(Hv.OQ ps).length:=by
 have e:Hv.OQ ps=Hv.OQ (ps.take k)++Hv.OQ (ps.drop k):=by
  unfold Hv.OQ;rw[<- Do,List.take_append_drop]
 rw[e,AS];omega
structure Uk (B:Nat) (ts:List S) (fs:List (S × S)) (xs:List S) (w:World) (k:Nat) (wr:World):Prop where
 res:wr.heap[B]? = some (.cells #[.slice none 0 0, .slice none 0 0, .slice none 0 0] 109 (0,0))
 rcd:∃ sl,SH (B+1) (ts.take k) (fs.take (k-ts.length)) (xs.take (k-ts.length-fs.length)) sl wr
 K7:Below B w wr
 base:Base wr
theorem Uk.below(h:Uk B ts fs xs w k wr) (hb:Below wr.heap.size wr w'):Uk B ts fs xs w k w':=by
 obtain ⟨sl,h2⟩:=h.rcd;have:=h2.lt;exact ⟨(hb.block B (by omega)).trans h.res,⟨sl,h2.below hb⟩,h.K7.trans (hb.mono (by omega)),h.base.below hb h.base.size⟩
theorem Uk.drew(h:Uk B ts fs xs w k wr):Uk B ts fs xs w k wr.drew:=h.below (below_drewN (AD _ _) 1)
theorem Uk.step(h:Uk B ts fs xs w k wr) (hG:12<=B) {sl:Fin 3->Value} (hr:SH (B+1) (ts.take (k+1)) (fs.take (k+1-ts.length)) (xs.take (k+1-ts.length-fs.length)) sl w') (hb:Below (B+1) wr w'):Uk B ts fs xs w (k+1) w' :=
 ⟨(hb.block B (by omega)).trans h.res,⟨sl,hr⟩,h.K7.trans (hb.mono (by omega)),h.base.below hb (by omega)⟩
theorem VQ{α:Type} {l:List α}  (h:k<l.length):l.take (k+1)=l.take k++[l[k]]:=AT h
theorem VP{α:Type} {l:List α} {m:Nat} (h:l.length<=k) (h2:l.length<=m):l.take k=l.take m:=by rw[An h,An h2]
theorem XI(ts:List S) (fs:List (S × S)) (xs:List S) (hok:ale ts fs xs) (w:World) (hb:Base w) :
 Calls Tryz.prog 94 #[.string ⟨(Hv.NU ts++Hv.Ni fs++Hv.NZ xs).toArray⟩] w fun e w'=>∃ sl,e = .returned (.tuple #[.agg (RU sl), .bool true])/\(∀ i,w'.ownsRow w.heap.size (rty i) (rsz i) (sl i) (Oa ts fs xs i).1 (Oa ts fs xs i).2)/\Below w.heap.size w w':=by
 rw[Hv.acY];have gV:=JY hok;have aJ:=JY hb;have cW:=hb.size;obtain ⟨ps,hps⟩:∃ ps,Hv.QV ts fs xs=ps:=⟨_,rfl⟩
 have hpl:ps.length=ts.length+fs.length+xs.length:=by rw[<- hps];exact Hv.aeC ts fs xs
 rw[hps];have sf:=JY hps;obtain ⟨tot,htot⟩:∃ tot,ps.length=tot:=⟨_,rfl⟩
 have uL:=JY htot;rw[htot] at hpl;have vY:ts.length<=100/\fs.length<=100/\xs.length<=100:=⟨hok.t.1,hok.f.1,hok.x.1⟩;obtain ⟨nt,hnt⟩:∃ nt,ts.length=nt:=⟨_,rfl⟩
 obtain ⟨nf,hnf⟩:∃ nf,fs.length=nf:=⟨_,rfl⟩
 obtain ⟨nx,hnx⟩:∃ nx,xs.length=nx:=⟨_,rfl⟩
 have cJ:=JY hnt;have dw:=JY hnf;have dX:=JY hnx;rw[hnt,hnf,hnx] at hpl vY;obtain ⟨t0,ht0⟩:∃ t0,Hv.OQ ps=t0:=⟨_,rfl⟩
 have uI:=JY ht0;rw[ht0];have hrow:=AF w (.cells #[.slice none 0 0, .slice none 0 0, .slice none 0 0] 109);clear hok hb hps htot hnt hnf hnx ht0;go_enter Tryz.func94,Tryz.ntmps94;go_wp2_with fail;have h1:=(AM (w.alloc (.cells #[.slice none 0 0, .slice none 0 0, .slice none 0 0] 109)) (.cells #[.slice none 0 0, .slice none 0 0, .slice none 0 0] 109) w.heap.size (by simp)).trans hrow;have hb2:=((AD w.heap.size w).alloc (AC _) (.cells #[.slice none 0 0, .slice none 0 0, .slice none 0 0] 109)).alloc (by simp) (.cells #[.slice none 0 0, .slice none 0 0, .slice none 0 0] 109);have HR:=JY (SH.begin (w.alloc (.cells #[.slice none 0 0, .slice none 0 0, .slice none 0 0] 109)));obtain ⟨u,hu⟩:∃ u,(w.alloc (.cells #[.slice none 0 0, .slice none 0 0, .slice none 0 0] 109)).alloc (.cells #[.slice none 0 0, .slice none 0 0, .slice none 0 0] 109)=u:=⟨_,rfl⟩
 obtain ⟨B,hB⟩:∃ B,w.heap.size=B:=⟨_,rfl⟩
 have hsz:(w.alloc (.cells #[.slice none 0 0, .slice none 0 0, .slice none 0 0] 109)).heap.size=B+1:=by simp[hB]
 have bG:=JY hB;have ay:Hid (Uk B ts fs xs w 0 u):=JY (by
  refine ⟨by rw[<- hu,<- hB];exact h1,⟨_,by rw[<- hu,<- hsz];simpa using HR.out⟩,by rw[<- hu,<- hB];exact hb2,by rw[<- hu];exact aJ.out.below hb2 cW⟩)
 rw[hu,hB];have ig:12<=B:=by omega
 clear hu hB hsz HR h1 hb2 hrow cW aJ;go_loopw [0] (fun t wr=>∃ k:Nat,k<=tot/\t = .string ⟨(Hv.OQ (ps.drop k)).toArray⟩/\Hid (Uk B ts fs xs w k wr)) (fun t _=>match t with | .string s=>s.size | _=>0)
 case atStart=>exact ⟨0,Bs _,by rw[List.drop_zero,uI.out],ay⟩
 case round =>
  clear ay;obtain ⟨k,hk,rfl,HI⟩:=hrel;by_cases hlt:k<tot
  · have hkl:k<ps.length:=by rw[uL.out];exact hlt
    have htl:(Hv.OQ (ps.drop k)).length<=100000000:=by
     have h1:=ahn ps k;have h2:=gV.out.len;rw[sf.out] at h2;omega
    have dZ:ps.drop k=ps[k]::ps.drop (k+1):=DO hkl;rw[dZ,Hv.ahm] at htl |-;obtain ⟨nx',rz⟩:∃ r,Hv.OQ (ps.drop (k+1))=r:=⟨_,rfl⟩
    have pG:=JY rz;rw[rz] at htl |-;have dA:(k<nt)\/(nt<=k/\k<nt+nf)\/(nt+nf<=k/\k<nt+nf+nx):=by omega
    clear dZ rz;rcases dA with hc | ⟨hc,hc2⟩ | ⟨hc,hc2⟩
    · have hpk:ps[k]=(Hv.KV,ts[k]'(by rw[cJ.out];exact hc)):=by
       simp only[<- sf.out,Hv.QV];rw[List.getElem_append_left (by simp;rw[cJ.out];exact hc)];simp
      rw[hpk] at htl |-;have hxl:=gV.out.t.2 _ (B1 (l:=ts) (n:=k) (by rw[cJ.out];exact hc));obtain ⟨x,hx⟩:∃ x,ts[k]'(by rw[cJ.out];exact hc)=x:=⟨_,rfl⟩
      rw[hx] at htl hxl |-;simp only at htl hxl |-;clear hpk;have hle:∀ c∈Hv.LV (Hv.KV,x),c≠10:=Hv.X8 (p:=(Hv.KV,x)) (show ∀ c∈Hv.KV,c≠10 by decide)
      have hsp:sp 32 (Hv.LV (Hv.KV,x))=[Hv.KV,Lib.itoa (x.length:Int)]:=Hv.acB Hv.KV x.length (by decide);have hll:(Hv.LV (Hv.KV,x)).length<=1000000:=by
       have h:=Lib.itoa_length_le (x.length:Int) (by omega) (by omega);unfold Hv.LV;simp only[AS,CI];have hw:(Hv.KV:S).length<=1000:=by decide
       omega
      have HC:=JY (fun w' hb'=>aaI (Hv.LV (Hv.KV,x)) (x++nx') hle (by omega) w' hb');have HS:=JY (fun w' hb'=>R5 (Hv.LV (Hv.KV,x)) hll w' hb');rw[hsp] at HS;obtain ⟨z,hz⟩:∃ z,Lib.itoa (x.length:Int)=z:=⟨_,rfl⟩
      have HA:=JY (fun w'=>Pt x.length (by omega) w');rw[hz] at HS HA;obtain ⟨ln,eP⟩:∃ ln,Hv.LV (Hv.KV,x)=ln:=⟨_,rfl⟩
      rw[eP] at HC HS htl |-;obtain ⟨rs,hrs⟩:∃ rs,x++nx'=rs:=⟨_,rfl⟩
      have hx1:(⟨rs.toArray⟩:ByteArray).extract 0 x.length=⟨x.toArray⟩:=by rw[Mx,<- hrs,List.take_left]
      have hx2:(⟨rs.toArray⟩:ByteArray).extract x.length rs.length=⟨nx'.toArray⟩:=by rw[Mw,<- hrs,List.drop_left]
      have b1 : ¬ (x.length:Int)<0:=by omega
      have b2 : ¬ ((rs.length:Int)<(x.length:Int)):=by rw[<- hrs,AS];omega
      have b5:decide ((x.length:Int)<0)=false:=decide_eq_false b1;have b6:decide (rs.length<x.length)=false:=decide_eq_false (by omega);have b7 : ¬ rs.length<x.length:=by omega
      have b8:x.length<=rs.length:=by omega
      have b3:(x.length:Int)<=(rs.length:Int):=by omega
      have b4:(0:Int)<=(x.length:Int):=by omega
      rw[hrs] at HC htl |-;have hrl:rs.length<(ln++10::rs).length:=by rw[AS,CI];omega
      have hnl:nx'.length<=rs.length:=by rw[<- hrs,AS];omega
      have lY:=JY hnl;obtain ⟨y,hy⟩:∃ y,ln++10::rs=y:=⟨_,rfl⟩
      rw[hy] at HC htl hrl |-;have CH:y.isEmpty=false:=by rw[<- hy];cases ln<;>rfl
      have HX:=JY hx;clear hy hrs eP hz hle hsp hx;go_wp2_with fail;refine (HC.out wr HI.out.base).mono ?_;rintro e w1 ⟨rfl,hb1,hs1⟩;have H1:=JY (HI.out.below hb1);clear hb1 hs1;go_wp2_with fail;refine (HS.out w1 H1.out.base).mono ?_;rintro e w2 ⟨rfl,rfl⟩;have H2:=JY (H1.out.below ((AD w1.heap.size w1).alloc (AC _) (.cells ([Hv.KV,z].map fun y=>Value.string ⟨y.toArray⟩).toArray 9)));have hw2:=AF w1 (.cells ([Hv.KV,z].map fun y=>Value.string ⟨y.toArray⟩).toArray 9);obtain ⟨g,hg⟩:∃ g,w1.heap.size=g:=⟨_,rfl⟩
      obtain ⟨w2,cP⟩:∃ w2,w1.alloc (.cells ([Hv.KV,z].map fun y=>Value.string ⟨y.toArray⟩).toArray 9)=w2:=⟨_,rfl⟩
      rw[hg,cP] at hw2;rw[cP] at H2;rw[hg,cP];have z0:=(JZ hw2 1).trans (show _=some (.string ⟨z.toArray⟩) from rfl);have dx:=JY hw2;clear cP hw2 hg H1;go_wp2_with fail;refine (HA.out w2).mono ?_;rintro e w3 ⟨rfl,hb3⟩;have H3:=JY (H2.out.below hb3);have hw3:=(hb3.block g (blt dx.out)).trans dx.out;have g0:=(JZ hw3 0).trans (show _=some (.string ⟨Hv.KV.toArray⟩) from rfl);obtain ⟨sl,hsl⟩:=H3.out.rcd;have bS:=JY (aeM (B+1) g 2 _ _ _ sl x (by rw[DD];omega) w3.drew hsl.drew g0);have r0:=(JZ H3.out.res 0).trans (show _=some (.slice none 0 0) from rfl);clear hb3 hw3 g0 hsl z0 H2;go_wp2_with fail
      go_region_held3 (fun w'=>w'.cell? ⟨B,0,none⟩=some (.slice none 0 0))
       (first | assumption | exact S4.out | simp[go_sem, *])
       (first
        | (go_at_call 162;refine bS.out.mono ?_;rintro e w4 ⟨rfl,sl',p1,p2⟩;have S4:=JY ((p2.cell (p:=⟨B,0,none⟩) (by show B<B+1;omega)).trans r0);have P1:=JY p1;have P2:=JY p2;clear p1 p2))
      have ud:Hid (Uk B ts fs xs w (k+1) w4):=JY (by
       have p1:=P1.out;have ft:SH (B+1) (ts.take (k+1)) (fs.take (k+1-ts.length)) (xs.take (k+1-ts.length-fs.length)) sl' w4:=by
        rw[VQ (l:=ts) (by rw[cJ.out];exact hc),HX.out];have e1:k-ts.length=0:=by rw[cJ.out];omega
        have e2:k+1-ts.length=0:=by rw[cJ.out];omega
        have h:=p1;rw[e1] at h;rw[e2];exact h
       exact H3.out.drew.step ig ft P2.out)
      clear P1 P2 S4 r0 bS H3;go_wp2_with fail;refine ⟨⟨k+1,by omega,by rw[pG.out],ud⟩,?_⟩;show nx'.length<y.length;have:=lY.out;omega
    · have hpk:ps[k]=(Hv.Nf++(fs[k-nt]'(by rw[dw.out];omega)).1,(fs[k-nt]'(by rw[dw.out];omega)).2):=by
       simp only[<- sf.out,Hv.QV];rw[List.getElem_append_right (by simp;rw[cJ.out];omega),List.getElem_append_left (by simp;rw[cJ.out,dw.out];omega)];simp[cJ.out]
      rw[hpk] at htl |-;have hxl:=(gV.out.f.2 _ (B1 (l:=fs) (n:=k-nt) (by rw[dw.out];omega))).2;have hpt:=gV.out.pl _ (B1 (l:=fs) (n:=k-nt) (by rw[dw.out];omega));obtain ⟨fx,hx⟩:∃ fx,fs[k-nt]'(by rw[dw.out];omega)=fx:=⟨_,rfl⟩
      obtain ⟨pt,x⟩:=fx;rw[hx] at htl hxl hpt |-;simp only at htl hxl hpt |-;clear hpk;have hle:∀ c∈Hv.LV ((Hv.Nf++pt),x),c≠10:=Hv.X8 (fun c hc=>by
       rcases List.mem_append.1 hc with hc | hc
       · exact (show ∀ c∈Hv.Nf,c≠10 by decide) c hc
       · exact (hpt c hc).2)
      have hsp:sp 32 (Hv.LV ((Hv.Nf++pt),x))=[[102,105,108,101],pt,Lib.itoa (x.length:Int)]:=Hv.aiG pt x.length (fun c hc=>(hpt c hc).1);have hll:(Hv.LV ((Hv.Nf++pt),x)).length<=1000000:=by
       have h:=Lib.itoa_length_le (x.length:Int) (by omega) (by omega);unfold Hv.LV;simp only[AS,CI];have hw:Hv.Nf.length+pt.length<=1000:=by have:=(gV.out.f.2 _ (B1 (l:=fs) (n:=k-nt) (by rw[dw.out];omega))).1;rw[hx] at this;have h5:Hv.Nf.length=5:=rfl;simp only at this;omega
       omega
      have HC:=JY (fun w' hb'=>aaI (Hv.LV ((Hv.Nf++pt),x)) (x++nx') hle (by omega) w' hb');have HS:=JY (fun w' hb'=>R5 (Hv.LV ((Hv.Nf++pt),x)) hll w' hb');rw[hsp] at HS;obtain ⟨z,hz⟩:∃ z,Lib.itoa (x.length:Int)=z:=⟨_,rfl⟩
      have HA:=JY (fun w'=>Pt x.length (by omega) w');rw[hz] at HS HA;obtain ⟨ln,eP⟩:∃ ln,Hv.LV ((Hv.Nf++pt),x)=ln:=⟨_,rfl⟩
      rw[eP] at HC HS htl |-;obtain ⟨rs,hrs⟩:∃ rs,x++nx'=rs:=⟨_,rfl⟩
      have hx1:(⟨rs.toArray⟩:ByteArray).extract 0 x.length=⟨x.toArray⟩:=by rw[Mx,<- hrs,List.take_left]
      have hx2:(⟨rs.toArray⟩:ByteArray).extract x.length rs.length=⟨nx'.toArray⟩:=by rw[Mw,<- hrs,List.drop_left]
      have b1 : ¬ (x.length:Int)<0:=by omega
      have b2 : ¬ ((rs.length:Int)<(x.length:Int)):=by rw[<- hrs,AS];omega
      have b5:decide ((x.length:Int)<0)=false:=decide_eq_false b1;have b6:decide (rs.length<x.length)=false:=decide_eq_false (by omega);have b7 : ¬ rs.length<x.length:=by omega
      have b8:x.length<=rs.length:=by omega
      have b3:(x.length:Int)<=(rs.length:Int):=by omega
      have b4:(0:Int)<=(x.length:Int):=by omega
      rw[hrs] at HC htl |-;have hrl:rs.length<(ln++10::rs).length:=by rw[AS,CI];omega
      have hnl:nx'.length<=rs.length:=by rw[<- hrs,AS];omega
      have lY:=JY hnl;obtain ⟨y,hy⟩:∃ y,ln++10::rs=y:=⟨_,rfl⟩
      rw[hy] at HC htl hrl |-;have CH:y.isEmpty=false:=by rw[<- hy];cases ln<;>rfl
      have HX:=JY hx;clear hy hrs eP hz hle hsp hx;go_wp2_with fail;refine (HC.out wr HI.out.base).mono ?_;rintro e w1 ⟨rfl,hb1,hs1⟩;have H1:=JY (HI.out.below hb1);clear hb1 hs1;go_wp2_with fail;refine (HS.out w1 H1.out.base).mono ?_;rintro e w2 ⟨rfl,rfl⟩;have H2:=JY (H1.out.below ((AD w1.heap.size w1).alloc (AC _) (.cells ([[102,105,108,101],pt,z].map fun y=>Value.string ⟨y.toArray⟩).toArray 9)));have hw2:=AF w1 (.cells ([[102,105,108,101],pt,z].map fun y=>Value.string ⟨y.toArray⟩).toArray 9);obtain ⟨g,hg⟩:∃ g,w1.heap.size=g:=⟨_,rfl⟩
      obtain ⟨w2,cP⟩:∃ w2,w1.alloc (.cells ([[102,105,108,101],pt,z].map fun y=>Value.string ⟨y.toArray⟩).toArray 9)=w2:=⟨_,rfl⟩
      rw[hg,cP] at hw2;rw[cP] at H2;rw[hg,cP];have z0:=(JZ hw2 2).trans (show _=some (.string ⟨z.toArray⟩) from rfl);have dx:=JY hw2;clear cP hw2 hg H1;go_wp2_with fail;refine (HA.out w2).mono ?_;rintro e w3 ⟨rfl,hb3⟩;have H3:=JY (H2.out.below hb3);have hw3:=(hb3.block g (blt dx.out)).trans dx.out;have g0:=(JZ hw3 0).trans (show _=some (.string ⟨([102,105,108,101]:S).toArray⟩) from rfl);have g1:=(JZ hw3 1).trans (show _=some (.string ⟨pt.toArray⟩) from rfl);obtain ⟨sl,hsl⟩:=H3.out.rcd;have bS:=JY (aeN (B+1) g 3 _ _ _ sl pt x (by rw[DD];omega) w3.drew hsl.drew g0 g1);have r0:=(JZ H3.out.res 0).trans (show _=some (.slice none 0 0) from rfl);clear hb3 hw3 g0 g1 hsl z0 H2;go_wp2_with fail
      go_region_held3 (fun w'=>w'.cell? ⟨B,0,none⟩=some (.slice none 0 0))
       (first | assumption | exact S4.out | simp[go_sem, *])
       (first
        | (go_at_call 162;refine bS.out.mono ?_;rintro e w4 ⟨rfl,sl',p1,p2⟩;have S4:=JY ((p2.cell (p:=⟨B,0,none⟩) (by show B<B+1;omega)).trans r0);have P1:=JY p1;have P2:=JY p2;clear p1 p2))
      have ud:Hid (Uk B ts fs xs w (k+1) w4):=JY (by
       have p1:=P1.out;have ft:SH (B+1) (ts.take (k+1)) (fs.take (k+1-ts.length)) (xs.take (k+1-ts.length-fs.length)) sl' w4:=by
        have e1:k+1-ts.length=(k-nt)+1:=by rw[cJ.out];omega
        have e3:k-ts.length=k-nt:=by rw[cJ.out]
        have e2:k-nt+1-fs.length=0:=by rw[dw.out];omega
        have e4:k-nt-fs.length=0:=by rw[dw.out];omega
        rw[e1,VQ (l:=fs) (by rw[dw.out];omega),HX.out,VP (l:=ts) (m:=k) (by rw[cJ.out];omega) (by rw[cJ.out];omega),e2];have h:=p1;rw[e3,e4] at h;exact h
       exact H3.out.drew.step ig ft P2.out)
      clear P1 P2 S4 r0 bS H3;go_wp2_with fail;refine ⟨⟨k+1,by omega,by rw[pG.out],ud⟩,?_⟩;show nx'.length<y.length;have:=lY.out;omega
    · have hpk:ps[k]=(Hv.Ng,xs[k-nt-nf]'(by rw[dX.out];omega)):=by
       simp only[<- sf.out,Hv.QV];rw[List.getElem_append_right (by simp;rw[cJ.out];omega),List.getElem_append_right (by simp;rw[cJ.out,dw.out];omega)];simp[cJ.out,dw.out]
      rw[hpk] at htl |-;have hxl:=gV.out.x.2 _ (B1 (l:=xs) (n:=k-nt-nf) (by rw[dX.out];omega));obtain ⟨x,hx⟩:∃ x,xs[k-nt-nf]'(by rw[dX.out];omega)=x:=⟨_,rfl⟩
      rw[hx] at htl hxl |-;simp only at htl hxl |-;clear hpk;have hle:∀ c∈Hv.LV (Hv.Ng,x),c≠10:=Hv.X8 (p:=(Hv.Ng,x)) (show ∀ c∈Hv.Ng,c≠10 by decide)
      have hsp:sp 32 (Hv.LV (Hv.Ng,x))=[Hv.Ng,Lib.itoa (x.length:Int)]:=Hv.acB Hv.Ng x.length (by decide);have hll:(Hv.LV (Hv.Ng,x)).length<=1000000:=by
       have h:=Lib.itoa_length_le (x.length:Int) (by omega) (by omega);unfold Hv.LV;simp only[AS,CI];have hw:(Hv.Ng:S).length<=1000:=by decide
       omega
      have HC:=JY (fun w' hb'=>aaI (Hv.LV (Hv.Ng,x)) (x++nx') hle (by omega) w' hb');have HS:=JY (fun w' hb'=>R5 (Hv.LV (Hv.Ng,x)) hll w' hb');rw[hsp] at HS;obtain ⟨z,hz⟩:∃ z,Lib.itoa (x.length:Int)=z:=⟨_,rfl⟩
      have HA:=JY (fun w'=>Pt x.length (by omega) w');rw[hz] at HS HA;obtain ⟨ln,eP⟩:∃ ln,Hv.LV (Hv.Ng,x)=ln:=⟨_,rfl⟩
      rw[eP] at HC HS htl |-;obtain ⟨rs,hrs⟩:∃ rs,x++nx'=rs:=⟨_,rfl⟩
      have hx1:(⟨rs.toArray⟩:ByteArray).extract 0 x.length=⟨x.toArray⟩:=by rw[Mx,<- hrs,List.take_left]
      have hx2:(⟨rs.toArray⟩:ByteArray).extract x.length rs.length=⟨nx'.toArray⟩:=by rw[Mw,<- hrs,List.drop_left]
      have b1 : ¬ (x.length:Int)<0:=by omega
      have b2 : ¬ ((rs.length:Int)<(x.length:Int)):=by rw[<- hrs,AS];omega
      have b5:decide ((x.length:Int)<0)=false:=decide_eq_false b1;have b6:decide (rs.length<x.length)=false:=decide_eq_false (by omega);have b7 : ¬ rs.length<x.length:=by omega
      have b8:x.length<=rs.length:=by omega
      have b3:(x.length:Int)<=(rs.length:Int):=by omega
      have b4:(0:Int)<=(x.length:Int):=by omega
      rw[hrs] at HC htl |-;have hrl:rs.length<(ln++10::rs).length:=by rw[AS,CI];omega
      have hnl:nx'.length<=rs.length:=by rw[<- hrs,AS];omega
      have lY:=JY hnl;obtain ⟨y,hy⟩:∃ y,ln++10::rs=y:=⟨_,rfl⟩
      rw[hy] at HC htl hrl |-;have CH:y.isEmpty=false:=by rw[<- hy];cases ln<;>rfl
      have HX:=JY hx;clear hy hrs eP hz hle hsp hx;go_wp2_with fail;refine (HC.out wr HI.out.base).mono ?_;rintro e w1 ⟨rfl,hb1,hs1⟩;have H1:=JY (HI.out.below hb1);clear hb1 hs1;go_wp2_with fail;refine (HS.out w1 H1.out.base).mono ?_;rintro e w2 ⟨rfl,rfl⟩;have H2:=JY (H1.out.below ((AD w1.heap.size w1).alloc (AC _) (.cells ([Hv.Ng,z].map fun y=>Value.string ⟨y.toArray⟩).toArray 9)));have hw2:=AF w1 (.cells ([Hv.Ng,z].map fun y=>Value.string ⟨y.toArray⟩).toArray 9);obtain ⟨g,hg⟩:∃ g,w1.heap.size=g:=⟨_,rfl⟩
      obtain ⟨w2,cP⟩:∃ w2,w1.alloc (.cells ([Hv.Ng,z].map fun y=>Value.string ⟨y.toArray⟩).toArray 9)=w2:=⟨_,rfl⟩
      rw[hg,cP] at hw2;rw[cP] at H2;rw[hg,cP];have z0:=(JZ hw2 1).trans (show _=some (.string ⟨z.toArray⟩) from rfl);have dx:=JY hw2;clear cP hw2 hg H1;go_wp2_with fail;refine (HA.out w2).mono ?_;rintro e w3 ⟨rfl,hb3⟩;have H3:=JY (H2.out.below hb3);have hw3:=(hb3.block g (blt dx.out)).trans dx.out;have g0:=(JZ hw3 0).trans (show _=some (.string ⟨Hv.Ng.toArray⟩) from rfl);obtain ⟨sl,hsl⟩:=H3.out.rcd;have bS:=JY (aeO (B+1) g 2 _ _ _ sl x (by rw[DD];omega) w3.drew hsl.drew g0);have r0:=(JZ H3.out.res 0).trans (show _=some (.slice none 0 0) from rfl);clear hb3 hw3 g0 hsl z0 H2;go_wp2_with fail
      go_region_held3 (fun w'=>w'.cell? ⟨B,0,none⟩=some (.slice none 0 0))
       (first | assumption | exact S4.out | simp[go_sem, *])
       (first
        | (go_at_call 162;refine bS.out.mono ?_;rintro e w4 ⟨rfl,sl',p1,p2⟩;have S4:=JY ((p2.cell (p:=⟨B,0,none⟩) (by show B<B+1;omega)).trans r0);have P1:=JY p1;have P2:=JY p2;clear p1 p2))
      have ud:Hid (Uk B ts fs xs w (k+1) w4):=JY (by
       have p1:=P1.out;have ft:SH (B+1) (ts.take (k+1)) (fs.take (k+1-ts.length)) (xs.take (k+1-ts.length-fs.length)) sl' w4:=by
        have e1:k+1-ts.length-fs.length=(k-nt-nf)+1:=by rw[cJ.out,dw.out];omega
        have e2:k-ts.length-fs.length=k-nt-nf:=by rw[cJ.out,dw.out]
        rw[e1,VQ (l:=xs) (by rw[dX.out];omega),HX.out,VP (l:=ts) (m:=k) (by rw[cJ.out];omega) (by rw[cJ.out];omega),VP (l:=fs) (k:=k+1-ts.length) (m:=k-ts.length) (by rw[cJ.out,dw.out];omega) (by rw[cJ.out,dw.out];omega)];have h:=p1;rw[e2] at h;exact h
       exact H3.out.drew.step ig ft P2.out)
      clear P1 P2 S4 r0 bS H3;go_wp2_with fail;refine ⟨⟨k+1,by omega,by rw[pG.out],ud⟩,?_⟩;show nx'.length<y.length;have:=lY.out;omega
  · obtain rfl:k=tot:=by omega
    have he:Hv.OQ (ps.drop k)=[]:=by rw[Ha (by rw[uL.out];exact AC _)];rfl
    rw[he];obtain ⟨sl,hsl⟩:=HI.out.rcd;have e1:ts.take k=ts:=An (by rw[cJ.out];omega);have e2:fs.take (k-ts.length)=fs:=An (by rw[cJ.out,dw.out];omega);have e3:xs.take (k-ts.length-fs.length)=xs:=An (by rw[cJ.out,dw.out,dX.out];omega);rw[e1,e2,e3] at hsl;have gY:=JY hsl;have k0:=(JZ hsl.blk 0).trans (show _=some (sl 0) from rfl);have k1:=(JZ hsl.blk 1).trans (show _=some (sl 1) from rfl);have k2:=(JZ hsl.blk 2).trans (show _=some (sl 2) from rfl);obtain ⟨a0,c0,h0⟩:=J4 (hsl.own 0);obtain ⟨a1,c1,h1⟩:=J4 (hsl.own 1);obtain ⟨a2,c2,h2⟩:=J4 (hsl.own 2);have dP:=JY h0;have fF:=JY h1;have bq:=JY h2;rw[h0] at k0;rw[h1] at k1;rw[h2] at k2;have d0:=(JZ HI.out.res 0).trans (show _=some (.slice none 0 0) from rfl);have d1:=(JZ HI.out.res 1).trans (show _=some (.slice none 0 0) from rfl);have d2:=(JZ HI.out.res 2).trans (show _=some (.slice none 0 0) from rfl);have f0:=J2 HI.out.res 0;have f1:=J2 HI.out.res 1;have f2:=J2 HI.out.res 2;have fh:=AI _ B 2 _ _ (.slice a2 (Oa ts fs xs 2).1 c2) (AI _ B 1 _ _ (.slice a1 (Oa ts fs xs 1).1 c1) (AI _ B 0 _ _ (.slice a0 (Oa ts fs xs 0).1 c0) HI.out.res));have n0:=(JZ fh 0).trans (show _=some (.slice a0 (Oa ts fs xs 0).1 c0) from rfl);have n1:=(JZ fh 1).trans (show _=some (.slice a1 (Oa ts fs xs 1).1 c1) from rfl);have n2:=(JZ fh 2).trans (show _=some (.slice a2 (Oa ts fs xs 2).1 c2) from rfl);clear hsl h0 h1 h2 fh he;go_wp2_with fail;refine IH (v := .tuple #[.agg #[.slice a0 (Oa ts fs xs 0).1 c0, .slice a1 (Oa ts fs xs 1).1 c1, .slice a2 (Oa ts fs xs 2).1 c2], .bool true]) (by simp[results,Tryz.results94,go_sem,n0,n1,n2]) rfl ⟨sl,by unfold RU;rw[dP.out,fF.out,bq.out],fun i => ?_,?_⟩
    · rw[bG.out];have ho:=gY.out.own i;refine KL (KT (KT (KT ho ?_) ?_) ?_) (show B<=B+1+1 by omega)
      all_goals
       intro e;have:=(ho.lt B e).1;omega
    · rw[bG.out];exact ((HI.out.K7.setCell (p:=⟨B,0,none⟩) (AC _) _).setCell (p:=⟨B,1,none⟩) (AC _) _).setCell (p:=⟨B,2,none⟩) (AC _) _
namespace Hv
theorem take_at{α:Type} {l:List α}  (hk:k<l.length):l.take (k+1)=l.take k++[l[k]]:=AT hk
theorem QA{α:Type} {D:VM α} (h:Ki D) (k:Nat):Ki (D.take k):=List.Pairwise.sublist (List.take_sublist k D) h
theorem VO{α:Type} {D:VM α} (h:Ki D)  (hk:k<D.length):get (D.take k) D[k].1=none:=by
 cases e:get (D.take k) D[k].1 with
 | none=>rfl
 | some v =>
   exfalso;have hm:=(get_some (QA h k)).1 e;have h2:=QA h (k+1);rw[take_at hk] at h2;have h3:=(List.pairwise_append.1 h2).2.2 _ hm _ (List.mem_singleton.2 rfl);simp only at h3;rw[Lx] at h3;cases h3
theorem acV{α:Type} {D:VM α} (h:Ki D)  (hk:k<D.length):put (D.take k) D[k].1 D[k].2=D.take (k+1):=by
 refine ((QA h k).put _ _).ext (QA h (k+1)) fun p => ?_
 rw[UK,take_at hk,IF,DQ];constructor
 · rintro (rfl | ⟨h1,_⟩)
   · exact .inr rfl
   · exact .inl h1
 · rintro (h1 | rfl)
   · refine .inr ⟨h1,fun e => ?_⟩;have h2:=VO h hk;rw[<- e,(get_some (QA h k)).2 h1] at h2;cases h2
   · exact .inl rfl
end Hv
end
section
open Go.RowKit
open Kw (St ME)
open Hv (S Dk VM)
def Rf (p:S × Hv.PD):List Value:=[Kl p.1,Kl p.2.ve, .int .i64 p.2.status]
theorem aix:(Tryz.prog.info? 61).map (fun i=>(i.zero,i.size,i.bytes))=some (some (.agg #[.string ByteArray.empty, .string ByteArray.empty, .int .i64 0]),3,40):=by kernel_rfl
theorem Xu(w:World) (x y z:Value) (t:TypeId):∀ j u,[x,y,z][j]? = some u->(w.alloc (.cells #[x,y,z] t)).cell? ((⟨w.heap.size,0,none⟩:Addr).add j)=some u:=by
 intro j u h;have hadd:(⟨w.heap.size,0,none⟩:Addr).add j=⟨w.heap.size,j,none⟩:=by unfold Addr.add;split<;>simp_all
 rw[hadd,JZ (AF w _)];simpa using h
theorem aiH(mb pm fm:Nat) (P F:VM Value) (D:VM Hv.PD) (N:Nat->Prop) (hDl:D.length<=1000) (bE:Hv.Named D) (w:World) (h:Kh mb pm fm P F w) (hP:Ls N w D P) :
 Calls Tryz.prog 60 #[.pointer (some ⟨mb,0,none⟩)] w fun e w'=>∃ v,e = .returned v/\w'.ownsRow w.heap.size 61 3 v D.length (D.flatMap Rf)/\Below w.heap.size w w':=by
 obtain ⟨i0,hi,hz0,hz1,hz2⟩:=KJ aix;have HM:=JY h;have aD:=JY hP;have gS:=JY bE;have bX:P.length=D.length:=hP.len h.packs.1;have aY:=blt h.blk;clear h hP bE;go_enter Tryz.func60,Tryz.ntmps60;go_wp2_with fail;refine (Vt mb pm fm P F (by omega) w HM.out).mono ?_;rintro e w1 ⟨nv,rfl,aA,hb1⟩;rw[aD.out.keys HM.out.packs.1] at aA;have hkl:(J3 D).length=D.length:=by simp[J3]
 obtain ⟨na,nc,rfl⟩:=J4 aA;rw[hkl] at aA |-;have pF:=JY aA;have hs2:=hb1.size;obtain ⟨nd,hnd⟩:∃ nd,D.length=nd:=⟨_,rfl⟩
 have dO:=JY hnd;rw[hnd] at hDl |-;have yj:=JY hb1;clear hb1 aA hnd hkl bX;go_wp2_with fail;go_loopw [3,10] (fun l i wr=>∃ (k:Nat) (lo:Option Addr) (lc:Nat),k<=nd/\l = .slice lo k lc/\i = .int .i64 (k:Int)/\Hid (wr.ownsRow w1.heap.size 61 3 (.slice lo k lc) k ((D.take k).flatMap Rf))/\Hid (Below w1.heap.size w1 wr)) (fun _ i _=>nd-(intOf i).toNat)
 case atStart=>exact ⟨0,none,0,Bs _,rfl,rfl,JY (Cf _ _ _ _),JY (AD _ _)⟩
 case round =>
  obtain ⟨k,lo,lc,hk,rfl,rfl,HI,HB⟩:=hrel;by_cases hlt:k<nd
  · have b1:(k:Int)<(nd:Int):=by omega
    have mV:k<D.length:=by have:=dO.out;omega
    have hkk:k<(J3 D).length:=by simp[J3];omega
    obtain ⟨g,c',hv2,hg,q1⟩:=MV (l:=J3 D) (v := .slice na nd nc) (w:=w1) (B:=w.heap.size) (e:=9) (by have h:=pF.out;rw[show (J3 D).length=D.length by simp[J3]];rw[dO.out] at h |-;exact h) hkk;obtain rfl:na=some ⟨g,0,none⟩:=(DS hv2).1;have d1:=(HB.out.cell (p:=⟨g,k,none⟩) hg).trans q1;have hget:Hv.get D (J3 D)[k]=some D[k].2:=by
     rw[Hv.get_some aD.out.Mt];have:(J3 D)[k]=D[k].1:=by simp[J3]
     rw[this];exact B1 mV
    have hnl:=gS.out.len (k:=(J3 D)[k]) (by rw[Hv.J9,hget];rfl);obtain ⟨v,hv,hr⟩:=aD.out.Vk _ _ hget;obtain ⟨p,rfl,p1,p2,p3,p4, -⟩:=hr;have Ev:(J3 D)[k]=D[k].1:=by simp[J3]
    have hT:(D.take (k+1)).flatMap Rf=(D.take k).flatMap Rf++[.string ⟨(J3 D)[k].toArray⟩, .string ⟨p.ve.toArray⟩, .int .i64 p.status]:=by
     rw[AT mV,Do,Ev,p3,p4];simp[Rf,Kl]
    have HT:=JY hT;have HV:=JY hv;obtain ⟨x,hx⟩:∃ x,(J3 D)[k]=x:=⟨_,rfl⟩
    rw[hx] at d1 HV hnl HT;have fG:=(HM.out.below yj.out).below (HB.out.mono (AC _));have eF:=fG.packs;have m0:=(JZ fG.blk 0).trans (show _=some (.map (some pm)) from rfl);have gN:x.length<=maxLen:=by unfold maxLen;omega
    have HA:=JY HI.out;have hgb:=HB.out.size;obtain ⟨ys,hys⟩:∃ ys,(D.take k).flatMap Rf=ys:=⟨_,rfl⟩
    rw[hys] at HA HT;have HO:=JY (HA.out.alloc (.cells p.cells 169));have hrow:=AF wr (.cells p.cells 169);have T0:=Pk.at_ hrow;clear hv2 q1 hget hv hT hx Ev p1 p2 p3 p4 hys HI fG hrow;obtain ⟨tx,pn,pv,yV,br,wk,fl,ru,wo,bV⟩:=p;have hc3:=Xu (wr.alloc (.cells (Pk.mk tx pn pv yV br wk fl ru wo bV).cells 169)) (.string ⟨x.toArray⟩) (.string ⟨pv.toArray⟩) (.int .i64 bV) 61;have xj:(wr.alloc (.cells (Pk.mk tx pn pv yV br wk fl ru wo bV).cells 169)).heap.size=wr.heap.size+1:=by simp
    rw[xj] at hc3;have rX:=JY (HO.out.alloc (.cells #[.string ⟨x.toArray⟩, .string ⟨pv.toArray⟩, .int .i64 bV] 61));have ah:=JY ((HB.out.alloc hgb (.cells (Pk.mk tx pn pv yV br wk fl ru wo bV).cells 169)).alloc (by simp;omega) (.cells #[.string ⟨x.toArray⟩, .string ⟨pv.toArray⟩, .int .i64 bV] 61));simp only[Pk.cells] at rX ah T0 hc3;have zg:=JY hc3;obtain ⟨t0,t1,t2,t3,t4,t5,t6,t7,t8,t9⟩:=T0;clear xj hc3 HO;go_wp2_with (first
     | (at_lookup;refine Ol rfl _ _ 97 rfl 169 IS (KW _) eF rfl x gN rfl ?_;rw[HV.out];simp only[DE,Pk.val,Pk.cells])
     | (at_builtin;refine wpList_append_own_at _ rfl _ _ 58 rfl w1.heap.size 61 i0 (.agg #[.string ByteArray.empty, .string ByteArray.empty, .int .i64 0]) 3 40 Tryz.underlying58 hi hz0 hz1 hz2 rfl (by decide) _ _ _ rfl rX.out ⟨wr.heap.size+1,0,none⟩ 1 1 [.string ⟨x.toArray⟩, .string ⟨pv.toArray⟩, .int .i64 bV] rfl rfl zg.out (fun x hx=>by simp at hx;rcases hx with rfl | rfl | rfl<;>rfl) (by unfold maxLen;omega) (by omega) (by simp;omega) ?_;intro v' w4 hown' KF Nj SQ;obtain ⟨gv,cv,rfl⟩:=Kt hown' (by omega);have O4:=JY hown';have G4:=JY KF;clear hown' KF Nj SQ))
    have av:Hid (Below w1.heap.size w1 w4):=JY (ah.out.grown G4.out (by simp;omega) (fun q hq=>(HA.out.lt q hq).1));have zU:Hid (w4.ownsRow w1.heap.size 61 3 (.slice (some ⟨gv,0,none⟩) (k+1) cv) (k+1) ((D.take (k+1)).flatMap Rf)):=JY (by rw[HT.out];exact O4.out);clear O4 G4;go_roundw
    case rel=>exact ⟨k+1,_,cv,by omega,rfl,by go_num,zU,av⟩
    case measure=>simp[intOf];omega
  · obtain rfl:k=nd:=by omega
    have b1 : ¬ (k:Int)<(k:Int):=by omega
    go_wp2_with fail;go_ret;have hs1:=yj.out.size;refine ⟨_,rfl,?_,yj.out.trans (HB.out.mono hs1)⟩;have h:=KL HI.out hs1;rw[An (by have:=dO.out;omega)] at h;rw[dO.out];exact h
namespace Hv
def ML (E:VM S) (l:List (S × S)):VM S:=l.foldl (fun E f=>put E f.1 f.2) E
theorem acU(E:VM S) (l:List (S × S)) (f:S × S):ML E (l++[f])=put (ML E l) f.1 f.2:=by simp[ML]
theorem QW:∀ (l:List (S × S)) {E:VM S},Ki E->Ki (ML E l)
 | [],_,h=>h
 | f::l,_,h=>QW l (h.put f.1 f.2)
theorem TU:∀ (l:List (S × S)) (E:VM S),(ML E l).length<=E.length+l.length
 | [],E=>by simp[ML]
 | f::l,E=>by
   have h1:=TU l (put E f.1 f.2);have h2:=Mr E f.1 f.2;have e:ML E (f::l)=ML (put E f.1 f.2) l:=rfl;rw[e,CI];omega
def K3 (D:VM PD) (G:VM S):VM S:=D.foldl (fun E p=>ML E p.2.st.files) G
theorem YK(D:VM PD) (p:S × PD) (G:VM S):K3 (D++[p]) G=ML (K3 D G) p.2.st.files:=by simp[K3]
theorem SC:∀ (D:VM PD) {G:VM S},Ki G->Ki (K3 D G)
 | [],_,h=>h
 | p::D,_,h=>SC D (QW p.2.st.files h)
theorem SB:∀ (D:VM PD) (G:VM S),(∀ p∈D,p.2.st.files.length<=21)->(K3 D G).length<=G.length+21*D.length
 | [],G,_=>by simp[K3]
 | p::D,G,h=>by
   have h1:=SB D (ML G p.2.st.files) (fun q hq=>h q (by simp[hq]));have h2:=TU p.2.st.files G;have h3:=h p (by simp);have e:K3 (p::D) G=K3 D (ML G p.2.st.files):=rfl;rw[e,CI];omega
theorem Wy:∀ (l:List (S × S)) {E:VM S},Ki E->(∀ p∈E,p.1.length<=24)->(∀ f∈l,f.1.length<=24)->∀ p∈ML E l,p.1.length<=24
 | [],_,_,h,_=>h
 | f::l,E,hs,h,hl=>Wy l (hs.put f.1 f.2) (fun p hp=>by
  rcases UK.1 hp with rfl | ⟨q, -⟩
  · exact hl f (by simp)
  · exact h p q) (fun g hg=>hl g (by simp[hg]))
theorem YJ:∀ (D:VM PD) {G:VM S},Ki G->(∀ p∈G,p.1.length<=24)->(∀ p∈D,∀ f∈p.2.st.files,f.1.length<=24)->∀ p∈K3 D G,p.1.length<=24
 | [],_,_,h,_=>h
 | q::D,G,hs,h,hl=>YJ D (QW q.2.st.files hs) (Wy q.2.st.files hs h (hl q (by simp))) (fun p hp=>hl p (by simp[hp]))
end Hv
theorem ab7(p:Pk) (w:World):(Instr.field 167 p.arc 5).run Tryz.prog w = .ok p.files.val w:=by kernel_rfl
theorem Vj{C:Nat->Prop} {w1:World} (h1:Below w.heap.size w w1) (hf:Kj w1.heap.size C w1 wr) (hC:∀ q,q<w.heap.size -> ¬ C q):Below w.heap.size w wr :=
 ⟨hf.os.trans h1.os,hf.tape.trans h1.tape,hf.output.trans h1.output,Bi h1.size hf.size,fun k hk=>(hf.block k (B3 hk h1.size) (hC k hk)).trans (h1.block k hk)⟩
theorem Wn{D:VM Hv.PD} (h:Hv.Named D) (hs:Hv.Ki D):∀ p∈D,p.2.st.files.length<=21/\∀ f∈p.2.st.files,f.1.length<=24:=fun p hp=>by
 have hd:=(h p.1 p.2 ((Hv.get_some hs).2 hp)).2;exact ⟨(KZ hd).2.2.1.2.2.2.1,fun f hf=>Qy ((Lm hd).2.2.files f hf).1⟩
theorem ajs(mb pm fm:Nat) (P:VM Value) (D:VM Hv.PD) (G:VM S) (N:Nat->Prop) (hDl:D.length<=20) (bE:Hv.Named D) (hG:G.length<=20) (hK:Hv.GK G) (w:World) (h:Kh mb pm fm P (Hv.Kk G) w) (hP:Ls N w D P) :
 Calls Tryz.prog 87 #[.pointer (some ⟨mb,0,none⟩)] w fun e w'=>∃ v,e = .returned v/\w'.ownsRow w.heap.size 117 2 v (Hv.K3 D G).length ((Hv.K3 D G).flatMap Lj)/\Below w.heap.size w w':=by
 have m1:=(JZ h.blk 1).trans (show _=some (.map (some fm)) from rfl);have HM:=JY h;have aD:=JY hP;have gS:=JY bE;have bX:P.length=D.length:=hP.len h.packs.1;have aY:=blt h.blk;have iP:=JY (Hv.KM h.files.1);have Fv:=JY (show ∀ p∈G,p.1.length<=24 from fun p hp=>hK p.1 p.2 ((Hv.get_some (Hv.KM h.files.1)).2 hp));have dw:=JY (Wn bE hP.Mt);clear h hP bE hK;go_enter Tryz.func87,Tryz.ntmps87;go_wp2_with fail;refine (Xx fm (Hv.Kk G) w HM.out.files).mono ?_;rintro e w0 ⟨rfl,hm0,hb0⟩;have aw:=JY hm0;have aC:=JY hb0;have jY:=JY (HM.out.below hb0);obtain ⟨fb,fU⟩:∃ fb,w.heap.size=fb:=⟨_,rfl⟩
 have pq:=JY fU;rw[fU] at aw |-;clear hm0 hb0 fU m1;go_wp2_with fail;refine (Vt mb pm fm P (Hv.Kk G) (by omega) w0 jY.out).mono ?_;rintro e w1 ⟨nv,rfl,aA,hb1⟩;rw[aD.out.keys HM.out.packs.1] at aA;have hkl:(J3 D).length=D.length:=by simp[J3]
 obtain ⟨na,nc,rfl⟩:=J4 aA;rw[hkl] at aA |-;have pF:=JY aA;have HU:=JY (aC.out.trans (hb1.mono aC.out.size));have hfl:fb<w0.heap.size:=aw.out.lt;have aO:Hid (J6 w1 fb (Hv.Kk G)):=JY (aw.out.below hb1);obtain ⟨nd,hnd⟩:∃ nd,D.length=nd:=⟨_,rfl⟩
 have dO:=JY hnd;rw[hnd] at hDl |-;have Ib:=hb1.size;clear hb1 aA hnd hkl bX;go_wp2_with fail;go_loopw [19] (fun i wr=>∃ (k:Nat),k<=nd/\i = .int .i64 (k:Int)/\Hid (J6 wr fb (Hv.Kk (Hv.K3 (D.take k) G)))/\Hid (Kj w1.heap.size (fun q=>q=fb) w1 wr)) (fun i _=>nd-(intOf i).toNat)
 case atStart=>exact ⟨0,Bs _,rfl,aO,JY (Kj.refl _ _ _)⟩
 case round =>
  clear aO;obtain ⟨k,hk,rfl,HI,HB⟩:=hrel;by_cases hlt:k<nd
  · have b1:(k:Int)<(nd:Int):=by omega
    have mV:k<D.length:=by have:=dO.out;omega
    have hkk:k<(J3 D).length:=by simp[J3];omega
    obtain ⟨g,c',hv2,hg,q1⟩:=MV (l:=J3 D) (v := .slice na nd nc) (w:=w1) (B:=w0.heap.size) (e:=9) (by have h:=pF.out;rw[show (J3 D).length=D.length by simp[J3]];rw[dO.out] at h |-;exact h) hkk;obtain rfl:na=some ⟨g,0,none⟩:=(DS hv2).1;have ig:w0.heap.size<=g:=VA pF.out rfl;have Bp : ¬ g=fb:=by omega
    have d1:=(HB.out.cell (p:=⟨g,k,none⟩) hg Bp).trans q1;have hget:Hv.get D (J3 D)[k]=some D[k].2:=by
     rw[Hv.get_some aD.out.Mt];have:(J3 D)[k]=D[k].1:=by simp[J3]
     rw[this];exact B1 mV
    have hnl:=gS.out.len (k:=(J3 D)[k]) (by rw[Hv.J9,hget];rfl);obtain ⟨v,hv,hr⟩:=aD.out.Vk _ _ hget;obtain ⟨p,rfl, -, -, -, -,hpk, -⟩:=hr;have su:=Vj HU.out HB.out (fun q hq e=>by have e':q=fb:=e;have:=pq.out;omega);have fG:=HM.out.below su;have eF:=fG.packs;have m0:=(JZ fG.blk 0).trans (show _=some (.map (some pm)) from rfl);have gN:(J3 D)[k].length<=maxLen:=by unfold maxLen;omega
    have DV:=dw.out _ (B1 mV);have HT:=JY (show Hv.K3 (D.take (k+1)) G=Hv.ML (Hv.K3 (D.take k) G) D[k].2.st.files by rw[AT mV];exact Hv.YK _ _ _);have nX:(Hv.K3 (D.take k) G).length<=500:=by
     have h1:=Hv.SB (D.take k) G (fun p hp=>(dw.out p (GT hp)).1);rw[DD] at h1;omega
    have CT:=JY (Hv.SC (D.take k) iP.out);obtain ⟨E0,yB⟩:∃ E0,Hv.K3 (D.take k) G=E0:=⟨_,rfl⟩
    rw[yB] at HT nX CT HI;obtain ⟨F,hF⟩:∃ F,D[k].2.st.files=F:=⟨_,rfl⟩
    rw[hF] at HT DV;have HR:=JY (show w.ownsRow 0 247 2 p.files.val F.length (F.flatMap Lj) by rw[<- hF];exact hpk.rows 3);have HV:=JY hv;obtain ⟨x,hx⟩:∃ x,(J3 D)[k]=x:=⟨_,rfl⟩
    rw[hx] at d1 HV hnl gN;have dS:=JY su;obtain ⟨iD,hF2⟩:=DV;have bp:=JY hF2;have aS:=fun w=>Sr p w
    have hf2:=fun w=>ab7 p w
    obtain ⟨tx,pn,pv,yV,br,wk,⟨ra,rn,rc⟩,ru,wo,bV⟩:=p;have Dg:=JY (ahe HR.out);simp only[Pk.val,Pk.cells,Pk.arc,Sl.val] at aS hf2;have hfw:fb<wr.heap.size:=by have:=HB.out.size;omega
    clear hv2 q1 hget hv hpk hx hF yB fG su hF2;go_wp2_with (first
     | (at_lookup;refine Ol rfl _ _ 97 rfl 169 IS (KW _) eF rfl x gN rfl ?_;rw[HV.out];simp only[DE,Pk.val,Pk.cells]))
    go_loopw [32] (fun i wr2=>∃ j:Nat,j<=rn/\i = .int .i64 (j:Int)/\Hid (J6 wr2 fb (Hv.Kk (Hv.ML E0 (F.take j))))/\Hid (Kj w1.heap.size (fun q=>q=fb) w1 wr2)) (fun i _=>rn-(intOf i).toNat)
    case atStart=>exact ⟨0,Bs _,rfl,HI,HB⟩
    case round =>
     obtain ⟨j,hj,rfl,aQ,aO⟩:=hrel;by_cases hjl:j<rn
     · have b2:(j:Int)<(rn:Int):=by omega
       have hnF:rn=F.length:=Dg.out;have cD:j<F.length:=by omega
       obtain ⟨gf,cf,rI,En,r1,r2⟩:=OM HR.out cD;obtain rfl:ra=some ⟨gf,0,none⟩:=(DS rI).1;have qz:=Vj HU.out aO.out (fun q hq e=>by have e':q=fb:=e;have:=pq.out;omega);have d2:=(qz.cell (p:=⟨gf,j*2,none⟩) En).trans r1;have d3:=(qz.cell (p:=⟨gf,j*2+1,none⟩) En).trans r2;have hxl:=bp.out _ (B1 cD);have qc:Hid (Hv.ML E0 (F.take (j+1))=Hv.put (Hv.ML E0 (F.take j)) F[j].1 F[j].2):=JY (by rw[AT cD];exact Hv.acU _ _ _);have iZ:(Hv.ML E0 (F.take j)).length<=600:=by
        have:=Hv.TU (F.take j) E0;rw[DD] at this;omega
       have tu:=JY (Hv.QW (F.take j) CT.out);obtain ⟨q,hq⟩:∃ q,F[j]=q:=⟨_,rfl⟩
       rw[hq] at d2 d3 hxl qc;obtain ⟨y,z⟩:=q;obtain ⟨EJ,DL⟩:∃ EJ,Hv.ML E0 (F.take j)=EJ:=⟨_,rfl⟩
       rw[DL] at aQ qc iZ tu;have oI:y.length<=24:=hxl;have eU:y.length<=maxLen:=by unfold maxLen;omega
       have hm2:=aQ.out.alloc (.cells #[.string ⟨y.toArray⟩, .string ⟨z.toArray⟩] 247);have hz:=aO.out.size;have bP:=JY (aO.out.alloc aO.out.size (.cells #[.string ⟨y.toArray⟩, .string ⟨z.toArray⟩] 247));have hrow2:=AF wr (.cells #[.string ⟨y.toArray⟩, .string ⟨z.toArray⟩] 247);have e1:=(JZ hrow2 0).trans (show _=some (.string ⟨y.toArray⟩) from rfl);have e2:=(JZ hrow2 1).trans (show _=some (.string ⟨z.toArray⟩) from rfl);have AV:(Hv.Kk EJ).length<maxLen:=by rw[Hv.Mh];unfold maxLen;omega
       obtain ⟨w5,hrun,fI,oG⟩:=hm2.store Tryz.underlying152 AV y eU (Hv.MO z);have dL:=Kv oG;have eI:Hid (J6 w5 fb (Hv.Kk (Hv.ML E0 (F.take (j+1))))):=JY (by rw[qc.out,Hv.Ou tu.out];exact fI);have fy:=JY (bP.out.next dL bP.out.size (fun _ _ q=>q));unfold Hv.MO at hrun;clear rI r1 r2 hq DL fI oG dL hrow2 qz hxl;go_wp2_with fail;go_roundw
       case rel=>exact ⟨j+1,by omega,by go_num,eI,fy⟩
       case measure=>simp[intOf];omega
     · obtain rfl:j=rn:=by omega
       have b2 : ¬ (j:Int)<(j:Int):=by omega
       have eI:Hid (J6 wr fb (Hv.Kk (Hv.K3 (D.take (k+1)) G))):=JY (by
        have h:=aQ.out;rw[An (by have:=Dg.out;omega)] at h;rw[HT.out];exact h)
       go_wp2_with fail;go_roundw
       case rel=>exact ⟨k+1,by omega,by go_num,eI,aO⟩
       case measure=>simp[intOf];omega
  · obtain rfl:k=nd:=by omega
    have b1 : ¬ (k:Int)<(k:Int):=by omega
    have iw:Hid (J6 wr fb (Hv.Kk (Hv.K3 D G))):=JY (by
     have h:=HI.out
     rwa [An (by have:=dO.out;omega)] at h)
    have yF:(Hv.K3 D G).length<=500:=by
     have h1:=Hv.SB D G (fun p hp=>(dw.out p hp).1);have:=dO.out;omega
    have Dn:=JY (Hv.SC D iP.out);have bS:=JY (Hv.YJ D iP.out Fv.out (fun p hp f hf=>(dw.out p hp).2 f hf));have dS:=JY (Vj HU.out HB.out (fun q hq e=>by have e':q=fb:=e;have:=pq.out;omega));obtain ⟨T,hT⟩:∃ T,Hv.K3 D G=T:=⟨_,rfl⟩
    have uK:=JY hT;rw[hT] at iw yF Dn bS;have hfw:fb<wr.heap.size:=by have:=HB.out.size;omega
    clear hT HI;go_wp2_with fail;refine (callsIn_wide.1 (Tryz.maps_Keys_78 (some fb) wr)).mono ?_;rintro e w5 ⟨rfl,rfl⟩;go_wp2_with fail;refine (callsIn_wide.1 (Tryz.slices_Sorted_keys_77_78 fb (Hv.Kk T).length (Hv.Ta (Hv.Kk T)) Hv.hR wr iw.out.2 (by rw[Hv.NM,Hv.Mh];unfold maxLen;omega) (by rw[Hv.NM,Hv.Mh];omega))).mono ?_;rintro e w6 ⟨kv,ss,rfl,hS,cO, -,aN⟩;have gA:=Px iw.out.1 hS;have qT:ss.length=(J3 (Hv.Kk T)).length:=by rw[hS.length_eq,OA]
    have vV:J3 (Hv.Kk T)=J3 T:=by simp[J3,Hv.Kk,List.map_map,Function.comp_def]
    rw[gA,qT,vV] at cO;have bF:=JY (((AD wr.heap.size wr).alloc (AC _) (.cells #[.map (some fb)] 152)).trans (aN.mono (by simp)));have rZ:=JY (KL (B:=wr.heap.size) cO (by simp));have FY:=JY (iw.out.below bF.out);have kI:=bF.out.size;obtain ⟨ka,kc,rfl⟩:=J4 cO;have hkl:(J3 T).length=T.length:=by simp[J3]
    rw[hkl] at rZ |-;obtain ⟨ng,fV⟩:∃ ng,T.length=ng:=⟨_,rfl⟩
    have iR:=JY fV;rw[fV] at yF |-;have gQ:=JY (dS.out.trans (bF.out.mono dS.out.size));clear cO aN gA qT vV hS hkl fV iw;obtain ⟨j0,hj0,Bt,vQ,Bu⟩:∃ j0,Tryz.prog.info? 117=some j0/\j0.zero=some (.agg #[.string ByteArray.empty, .string ByteArray.empty])/\j0.size=2/\j0.bytes=32:=by
     obtain ⟨j0,a,b,c,d⟩:=KJ acp;exact ⟨j0,a,b,c,d⟩
    go_wp2_with fail;go_loopw [8,48] (fun l i wr2=>∃ (q:Nat) (lo:Option Addr) (lc:Nat),q<=ng/\l = .slice lo q lc/\i = .int .i64 (q:Int)/\Hid (wr2.ownsRow w6.heap.size 117 2 (.slice lo q lc) q ((T.take q).flatMap Lj))/\Hid (Below w6.heap.size w6 wr2)) (fun _ i _=>ng-(intOf i).toNat)
    case atStart=>exact ⟨0,none,0,Bs _,rfl,rfl,JY (Cf _ _ _ _),JY (AD _ _)⟩
    case round =>
     obtain ⟨q,lo,lc,hq,rfl,rfl,zF,sU⟩:=hrel;by_cases hlt:q<ng
     · have b3:(q:Int)<(ng:Int):=by omega
       have Cb:q<T.length:=by have:=iR.out;omega
       have sK:q<(J3 T).length:=by simp[J3];omega
       obtain ⟨g,c',hv2,hg,q1⟩:=MV (l:=J3 T) (v := .slice ka ng kc) (w:=w6) (e:=9) (by have h:=rZ.out;rw[show (J3 T).length=T.length by simp[J3]];rw[iR.out] at h |-;exact h) sK;obtain rfl:ka=some ⟨g,0,none⟩:=(DS hv2).1;have d1:=(sU.out.cell (p:=⟨g,q,none⟩) hg).trans q1;have vW:(J3 T)[q]=T[q].1:=by simp[J3]
       have hget:Hv.get T T[q].1=some T[q].2:=(Hv.get_some Dn.out).2 (B1 Cb);have hxk:=bS.out _ (B1 Cb);have Dm:=JY (show (T.take (q+1)).flatMap Lj=(T.take q).flatMap Lj++Lj T[q] by rw[AT Cb,Do];simp);rw[vW] at d1;obtain ⟨xy,hxy⟩:∃ xy,T[q]=xy:=⟨_,rfl⟩
       rw[hxy] at d1 hget hxk Dm;obtain ⟨x,y⟩:=xy;simp only at d1 hget hxk;have gN:x.length<=maxLen:=by unfold maxLen;omega
       have A5:=FY.out.below sU.out;have hlk:=A5.drew.look Tryz.underlying152 (OB _) x gN;have hlk2:=A5.look Tryz.underlying152 (OB _) x gN;rw[Hv.MJ,hget] at hlk hlk2;simp only[Option.map_some,DE,Hv.MO] at hlk hlk2;have Bl:=QL y.toArray;obtain ⟨ys,hys⟩:∃ ys,(T.take q).flatMap Lj=ys:=⟨_,rfl⟩
       have qr:=JY hys;have HO:=JY ((show wr.ownsRow w6.heap.size 117 2 (.slice lo q lc) q ys by rw[<- hys];exact zF.out).alloc (.cells #[.string ⟨x.toArray⟩, .string ⟨y.toArray⟩] 117));have jg:=JY (fun z (e:(Value.slice lo q lc).ownBlock=some z)=>(zF.out.lt z e).1);have hgb:=sU.out.size;clear hv2 q1 hget hxy vW hys A5;go_wp2_with (first
        | (at_builtin;refine wpList_append_own_at _ rfl _ _ 81 rfl w6.heap.size 117 j0 (.agg #[.string ByteArray.empty, .string ByteArray.empty]) 2 32 Tryz.underlying81 hj0 Bt vQ Bu rfl (by decide) _ _ _ rfl HO.out ⟨wr.heap.size,0,none⟩ 1 1 [.string ⟨x.toArray⟩, .string ⟨y.toArray⟩] rfl rfl (cell_two_new _ _ _ _) (fun x hx=>by simp at hx;rcases hx with rfl | rfl<;>rfl) (by unfold maxLen;omega) (by omega) (by simp;omega) ?_;intro v' w8 hown' Li Qv WQ;obtain ⟨gv,cv,rfl⟩:=Kt hown' (by omega);have O8:=JY hown';have G8:=JY Li;clear hown' Li Qv WQ))
       have nu:Hid (Below w6.heap.size w6 w8):=JY ((sU.out.alloc hgb (.cells #[.string ⟨x.toArray⟩, .string ⟨y.toArray⟩] 117)).grown G8.out (by simp;omega) (fun z hz=>jg.out z hz));have kW:Hid (w8.ownsRow w6.heap.size 117 2 (.slice (some ⟨gv,0,none⟩) (q+1) cv) (q+1) ((T.take (q+1)).flatMap Lj)):=JY (by rw[Dm.out,qr.out];exact O8.out);clear O8 G8;go_roundw
       case rel=>exact ⟨q+1,_,cv,by omega,rfl,by go_num,kW,nu⟩
       case measure=>simp[intOf];omega
     · obtain rfl:q=ng:=by omega
       have b3 : ¬ (q:Int)<(q:Int):=by omega
       go_wp2_with fail;go_ret;have hs1:=gQ.out.size;refine ⟨_,rfl,?_,gQ.out.trans (sU.out.mono hs1)⟩;have h:=KL zF.out hs1;rw[An (by have:=iR.out;omega)] at h;rw[uK.out,iR.out];exact h
end
end Go.Proofs.YtfhmaiicimdldaaGreatDoor
