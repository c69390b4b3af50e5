import Derived.Test.YtfhmaiicimdldaaGreatDoorFinJ19
set_option maxHeartbeats 4000000
set_option maxRecDepth 100000
namespace Go.Proofs.YtfhmaiicimdldaaGreatDoor
variable {B eb im km n ns:Nat}{m s sv vf vi:Value}{w w' wr:World}{C M N:Nat->Prop}
section
open Go.RowKit
open Hv (S Dk VM)
variable {l:S}
structure SF (B:Nat) (va vf vi:Value) (l:S) (w wr:World):Prop where
 box:wr.heap[B]? = some (.cells #[va,vf,vi] 109 (0,0))
 bld:Bld (B+1) (B+1) l wr
 K7:Below B w wr
 size:B+2<=wr.heap.size
 base:Base wr
theorem SF.part{va:Value} {l':S}  (h:SF B va vf vi l w wr) (hG:12<=B) (hb:Bld (B+1) (B+1) l' w') (hbl:Below (B+1) wr w'):SF B va vf vi l' w w' :=
 ⟨(hbl.block B (by omega)).trans h.box,hb,h.K7.trans (hbl.mono (by omega)),Bi h.size hbl.size,h.base.below hbl (by omega)⟩
theorem SF.below{va:Value}   (h:SF B va vf vi l w wr) (hb:Below wr.heap.size wr w'):SF B va vf vi l w w' :=
 ⟨(hb.block B (blt h.box)).trans h.box,Zp h.bld hb,h.K7.trans (hb.mono (by have:=h.size;omega)),Bi h.size hb.size,h.base.below hb h.base.size⟩
theorem Ud:∀ (ts:List S) (m:Nat),(∀ x∈ts,x.length<=m)->(ts.map List.length).sum<=ts.length*m
 | [],m,_=>by simp
 | x::ts,m,h=>by
   have h1:=Ud ts m (fun y hy=>h y (by simp[hy]));have h2:=h x (by simp);simp only[Cp,FG,CI,Nat.add_mul];omega
theorem ahX(ts:List S) (h:ts.length<=100/\∀ x∈ts,x.length<=100000) (k:Nat):(Hv.NU (ts.take k)).length<=100000000:=by
 have h1:=Hv.Xp (ts.take k) (fun x hx=>by have:=h.2 x (GT hx);omega);have h2:((ts.take k).map List.length).sum<=(ts.take k).length*100000:=Ud (ts.take k) 100000 (fun x hx=>h.2 x (GT hx));have h3:(ts.take k).length<=100:=by rw[DD];omega
 have h4:(ts.take k).length*100000<=100*100000:=Nat.mul_le_mul_right _ h3;omega
theorem af8(ts:List S) (h:ts.length<=100/\∀ x∈ts,x.length<=100000):(Hv.NU ts).length<=10100000:=by
 have h1:=Hv.Xp ts (fun x hx=>by have:=h.2 x hx;omega);have h2:=Ud ts 100000 h.2;have h4:ts.length*100000<=100*100000:=Nat.mul_le_mul_right _ h.1;omega
theorem acd(fs:List (S × S)) (h:fs.length<=100/\∀ f∈fs,f.1.length<=100/\f.2.length<=100000) (k:Nat):(Hv.Ni (fs.take k)).length<=10100000:=by
 have key:∀ gs:List (S × S),(∀ f∈gs,f.1.length<=100/\f.2.length<=100000)->(Hv.Ni gs).length<=gs.length*100200:=by
  intro gs
  induction gs with
  | nil=>intro _;simp[Hv.Ni]
  | cons f gs ih =>
    intro hg;have h1:=ih (fun y hy=>hg y (by simp[hy]));have h2:=hg f (by simp);have h3:=Hv.RQ (Hv.Nf++f.1) f.2 (by omega);have h4:Hv.Nf.length=5:=rfl;simp only[Hv.Ni,Fc,AS,CI,Nat.add_mul] at *;omega
 have h1:=key (fs.take k) (fun f hf=>h.2 f (GT hf));have h3:(fs.take k).length<=100:=by rw[DD];omega
 have h4:(fs.take k).length*100200<=100*100200:=Nat.mul_le_mul_right _ h3;omega
theorem aiA(ts:List S) (h:ts.length<=100/\∀ x∈ts,x.length<=100000) (k:Nat):(Hv.NZ (ts.take k)).length<=10100000:=by
 have h1:=Hv.acv (ts.take k) (fun x hx=>by have:=h.2 x (GT hx);omega);have h2:((ts.take k).map List.length).sum<=(ts.take k).length*100000:=Ud (ts.take k) 100000 (fun x hx=>h.2 x (GT hx));have h3:(ts.take k).length<=100:=by rw[DD];omega
 have h4:(ts.take k).length*100000<=100*100000:=Nat.mul_le_mul_right _ h3;omega
theorem ab4(va vf vi:Value) (ts:List S) (fs:List (S × S)) (xs:List S) (hts:ts.length<=100/\∀ x∈ts,x.length<=100000) (hfs:fs.length<=100/\∀ f∈fs,f.1.length<=100/\f.2.length<=100000) (hxs:xs.length<=100/\∀ x∈xs,x.length<=100000) (w:World) (hb:Base w) (h1:w.ownsRow 0 9 1 va ts.length (ts.map Kl)) (h2:w.ownsRow 0 117 2 vf fs.length (fs.flatMap Lj)) (h3:Reads w vi xs) :
 Calls Tryz.prog 41 #[.agg #[va,vf,vi]] w fun e w'=>e = .returned (.string ⟨(Hv.NU ts++Hv.Ni fs++Hv.NZ xs).toArray⟩)/\Below w.heap.size w w':=by
 obtain ⟨aa,ac,rfl⟩:=J4 h1;obtain ⟨fa,fc,rfl⟩:=J4 h2;obtain ⟨ia,ic,rfl, -⟩:=h3.form;have H1:=JY h1;have H2:=JY h2;have H3:=JY h3;have HT:=JY hts;have HF:=JY hfs;have HX:=JY hxs;have aJ:=JY hb;have hG:=hb.size;clear h1 h2 h3 hts hfs hxs hb;go_enter Tryz.func41,Tryz.ntmps41;have hb0:=(AD w.heap.size w).alloc (AC _) (.cells #[.slice aa ts.length ac, .slice fa fs.length fc, .slice ia xs.length ic] 109);have hs0:(w.alloc (.cells #[.slice aa ts.length ac, .slice fa fs.length fc, .slice ia xs.length ic] 109)).heap.size=w.heap.size+1:=by simp
 have hb1:=hb0.alloc (by simp) (.cells #[.pointer none, .slice none 0 0] 181);have hs1:((w.alloc (.cells #[.slice aa ts.length ac, .slice fa fs.length fc, .slice ia xs.length ic] 109)).alloc (.cells #[.pointer none, .slice none 0 0] 181)).heap.size=w.heap.size+2:=by simp
 have bC:=(AM (w.alloc (.cells #[.slice aa ts.length ac, .slice fa fs.length fc, .slice ia xs.length ic] 109)) (.cells #[.pointer none, .slice none 0 0] 181) w.heap.size (by simp)).trans (AF w (.cells #[.slice aa ts.length ac, .slice fa fs.length fc, .slice ia xs.length ic] 109));have hr1:=AF (w.alloc (.cells #[.slice aa ts.length ac, .slice fa fs.length fc, .slice ia xs.length ic] 109)) (.cells #[.pointer none, .slice none 0 0] 181);rw[hs0] at hr1;have ay:Hid (SF w.heap.size (.slice aa ts.length ac) (.slice fa fs.length fc) (.slice ia xs.length ic) [] w ((w.alloc (.cells #[.slice aa ts.length ac, .slice fa fs.length fc, .slice ia xs.length ic] 109)).alloc (.cells #[.pointer none, .slice none 0 0] 181))):=JY
  ⟨bC, .inl ⟨AC _,_,hr1,Cf _ _ _ _,by simp[Value.ownBlock]⟩,hb1,by omega,aJ.out.below hb1 (by omega)⟩
 clear hb0 hs0 hb1 bC hr1;go_wp2_with fail;obtain ⟨u,hu⟩:∃ u,(w.alloc (.cells #[.slice aa ts.length ac, .slice fa fs.length fc, .slice ia xs.length ic] 109)).alloc (.cells #[.pointer none, .slice none 0 0] 181)=u:=⟨_,rfl⟩
 rw[hu] at ay hs1 |-;obtain ⟨B,hB⟩:∃ B,w.heap.size=B:=⟨_,rfl⟩
 rw[hB] at ay hs1 hG |-;have bJ:=JY hB;obtain ⟨nt,hnt⟩:∃ nt,ts.length=nt:=⟨_,rfl⟩
 obtain ⟨nf,hnf⟩:∃ nf,fs.length=nf:=⟨_,rfl⟩
 obtain ⟨nx,hnx⟩:∃ nx,xs.length=nx:=⟨_,rfl⟩
 have cJ:=JY hnt;have dw:=JY hnf;have dX:=JY hnx;rw[hnt,hnf,hnx] at ay |-;have EQ:nt<=100:=by have:=HT.out.1;omega
 have Ej:nf<=100:=by have:=HF.out.1;omega
 have E2:nx<=100:=by have:=HX.out.1;omega
 clear hu hB hnt hnf hnx;go_loopw [13] (fun i wr=>∃ k:Nat,k<=nt/\i = .int .i64 (k:Int)/\Hid (SF B (.slice aa nt ac) (.slice fa nf fc) (.slice ia nx ic) (Hv.NU (ts.take k)) w wr)) (fun i _=>nt-(intOf i).toNat)
 case atStart=>exact ⟨0,Bs _,rfl,ay⟩
 case round =>
  clear ay;obtain ⟨k,hk,rfl,HI⟩:=hrel;by_cases hlt:k<nt
  · have b1:(k:Int)<(nt:Int):=by omega
    have hkl:k<ts.length:=by have:=cJ.out;omega
    obtain ⟨g,c',hv2,hg,q1⟩:=MV H1.out hkl;obtain rfl:aa=some ⟨g,0,none⟩:=(DS hv2).1;have d1:=(HI.out.K7.cell (p:=⟨g,k,none⟩) (show g<B by have:=bJ.out;omega)).trans q1;have hxl:=HT.out.2 _ (B1 hkl);have hT:Hv.NU (ts.take (k+1))=Hv.NU (ts.take k)++Hv.Pb Hv.KV ts[k]:=by
     unfold Hv.NU;rw[AT hkl,Do];simp only[Fc,List.flatMap_nil,List.append_nil]
    have ml:=JY hT;have hpre:=ahX ts HT.out k;have hsz:=HI.out.size;obtain ⟨x,hx⟩:∃ x,ts[k]=x:=⟨_,rfl⟩
    rw[hx] at d1 hxl ml;have gW:=JY (Yl (B+1) (B+1) (Hv.NU (ts.take k)) Hv.KV x (by decide) (by omega) hpre wr HI.out.base HI.out.bld (by omega));clear hv2 q1 hT hx hpre;go_wp2_with fail;refine gW.out.mono ?_;rintro e w2 ⟨u2,rfl,aF,hbl⟩;have aM:Hid (SF B (.slice (some ⟨g,0,none⟩) nt ac) (.slice fa nf fc) (.slice ia nx ic) (Hv.NU (ts.take (k+1))) w w2):=JY (by rw[ml.out];exact HI.out.part hG aF hbl);clear aF hbl;go_wp2_with fail;go_roundw
    case rel=>exact ⟨k+1,by omega,by go_num,aM⟩
    case measure=>simp[intOf];omega
  · obtain rfl:k=nt:=by omega
    have b1 : ¬ (k:Int)<(k:Int):=by omega
    have zC:Hid (SF B (.slice aa k ac) (.slice fa nf fc) (.slice ia nx ic) (Hv.NU ts) w wr):=JY (by
     have h:=HI.out
     rwa [An (by have:=cJ.out;omega)] at h)
    have eB:=HI.out.box;have r1:=(JZ eB 1).trans (show _=some (.slice fa nf fc) from rfl);clear eB HI;go_wp2_with fail;clear r1;obtain ⟨L1,vh⟩:∃ L1,Hv.NU ts=L1:=⟨_,rfl⟩
    have dW:=JY vh;have kB:L1.length<=10100000:=by rw[<- vh];exact af8 ts HT.out
    rw[vh] at zC;clear vh;go_loopw [23] (fun i wr=>∃ q:Nat,q<=nf/\i = .int .i64 (q:Int)/\Hid (SF B (.slice aa k ac) (.slice fa nf fc) (.slice ia nx ic) (L1++Hv.Ni (fs.take q)) w wr)) (fun i _=>nf-(intOf i).toNat)
    case atStart=>exact ⟨0,Bs _,rfl,by simpa [Hv.Ni] using zC⟩
    case round =>
     clear zC;obtain ⟨q,hq,rfl,HI⟩:=hrel;by_cases hlt2:q<nf
     · have b2:(q:Int)<(nf:Int):=by omega
       have iZ:q<fs.length:=by have:=dw.out;omega
       obtain ⟨g,c',hv2,hg,q1,q2⟩:=OM H2.out iZ;obtain rfl:fa=some ⟨g,0,none⟩:=(DS hv2).1;have d1:=(HI.out.K7.cell (p:=⟨g,q*2,none⟩) (show g<B by have:=bJ.out;omega)).trans q1;have d2:=(HI.out.K7.cell (p:=⟨g,q*2+1,none⟩) (show g<B by have:=bJ.out;omega)).trans q2;have hxl:=HF.out.2 _ (B1 iZ);have hT:Hv.Ni (fs.take (q+1))=Hv.Ni (fs.take q)++Hv.Pb (Hv.Nf++fs[q].1) fs[q].2:=by
        unfold Hv.Ni;rw[AT iZ,Do];simp only[Fc,List.flatMap_nil,List.append_nil]
       have ml:=JY hT;have hpre:=acd fs HF.out q;have hsz:=HI.out.size;obtain ⟨xy,hxy⟩:∃ xy,fs[q]=xy:=⟨_,rfl⟩
       rw[hxy] at d1 d2 hxl ml;obtain ⟨x,y⟩:=xy;simp only at d1 d2 hxl ml;have hb3:=(AD wr.heap.size wr).alloc (AC _) (.cells #[.string ⟨x.toArray⟩, .string ⟨y.toArray⟩] 117);have dH:=JY (HI.out.below hb3);have xp:(wr.alloc (.cells #[.string ⟨x.toArray⟩, .string ⟨y.toArray⟩] 117)).heap.size=wr.heap.size+1:=by simp
       have gW:=JY (Yl (B+1) (B+1) (L1++Hv.Ni (fs.take q)) (Hv.Nf++x) y (by rw[AS];have:Hv.Nf.length=5:=rfl;omega) (by omega) (by rw[AS];omega) _ dH.out.base dH.out.bld (by omega));have qo:Hid ((⟨#[102,105,108,101,32]⟩:ByteArray)++⟨x.toArray⟩=⟨(Hv.Nf++x).toArray⟩):=JY (Nc Hv.Nf x);have j1 : ¬ 9223372036854775807<5+x.length:=by omega
       clear hv2 q1 q2 hT hxy hpre hb3;go_wp2_with fail;rw[qo.out];refine gW.out.mono ?_;rintro e w2 ⟨u2,rfl,aF,hbl⟩;have cQ:Hid (SF B (.slice aa k ac) (.slice (some ⟨g,0,none⟩) nf fc) (.slice ia nx ic) (L1++Hv.Ni (fs.take (q+1))) w w2):=JY (by rw[ml.out,<- FF];exact dH.out.part hG aF hbl);clear aF hbl xp;go_wp2_with fail;go_roundw
       case rel=>exact ⟨q+1,by omega,by go_num,cQ⟩
       case measure=>simp[intOf];omega
     · obtain rfl:q=nf:=by omega
       have b2 : ¬ (q:Int)<(q:Int):=by omega
       have zD:Hid (SF B (.slice aa k ac) (.slice fa q fc) (.slice ia nx ic) (L1++Hv.Ni fs) w wr):=JY (by
        have h:=HI.out
        rwa [An (by have:=dw.out;omega)] at h)
       have eB:=HI.out.box;have r2:=(JZ eB 2).trans (show _=some (.slice ia nx ic) from rfl);clear eB HI;go_wp2_with fail;clear r2;obtain ⟨L2,hL2⟩:∃ L2,L1++Hv.Ni fs=L2:=⟨_,rfl⟩
       have eW:=JY hL2;have hl2:L2.length<=20200000:=by
        rw[<- hL2,AS];have:=acd fs HF.out fs.length;rw[List.take_length] at this;omega
       rw[hL2] at zD;clear hL2;go_loopw [37] (fun i wr=>∃ z:Nat,z<=nx/\i = .int .i64 (z:Int)/\Hid (SF B (.slice aa k ac) (.slice fa q fc) (.slice ia nx ic) (L2++Hv.NZ (xs.take z)) w wr)) (fun i _=>nx-(intOf i).toNat)
       case atStart=>exact ⟨0,Bs _,rfl,by simpa [Hv.NZ] using zD⟩
       case round =>
        clear zD;obtain ⟨z,hz,rfl,HI⟩:=hrel;by_cases hlt3:z<nx
        · have b3:(z:Int)<(nx:Int):=by omega
          have hzl:z<xs.length:=by have:=dX.out;omega
          obtain ⟨a',c',hv2,hcell⟩:=H3.out.form;obtain ⟨g,Em,hg,q1⟩:=hcell z _ (B9 hzl);obtain rfl:ia=some ⟨g,0,none⟩:=(DS hv2).1.trans Em;have d1:=(HI.out.K7.cell (p:=⟨g,z,none⟩) (show g<B by have:=bJ.out;omega)).trans q1;have hxl:=HX.out.2 _ (B1 hzl);have hT:Hv.NZ (xs.take (z+1))=Hv.NZ (xs.take z)++Hv.Pb Hv.Ng xs[z]:=by
           unfold Hv.NZ;rw[AT hzl,Do];simp only[Fc,List.flatMap_nil,List.append_nil]
          have ml:=JY hT;have hpre:=aiA xs HX.out z;have hsz:=HI.out.size;obtain ⟨x,hx⟩:∃ x,xs[z]=x:=⟨_,rfl⟩
          rw[hx] at d1 hxl ml;have gW:=JY (Yl (B+1) (B+1) (L2++Hv.NZ (xs.take z)) Hv.Ng x (by decide) (by omega) (by rw[AS];omega) wr HI.out.base HI.out.bld (by omega));clear hv2 q1 hT hx hpre hcell Em;go_wp2_with fail;refine gW.out.mono ?_;rintro e w2 ⟨u2,rfl,aF,hbl⟩;have cQ:Hid (SF B (.slice aa k ac) (.slice fa q fc) (.slice (some ⟨g,0,none⟩) nx ic) (L2++Hv.NZ (xs.take (z+1))) w w2):=JY (by rw[ml.out,<- FF];exact HI.out.part hG aF hbl);clear aF hbl;go_wp2_with fail;go_roundw
          case rel=>exact ⟨z+1,by omega,by go_num,cQ⟩
          case measure=>simp[intOf];omega
        · obtain rfl:z=nx:=by omega
          have b3 : ¬ (z:Int)<(z:Int):=by omega
          have CX:Hid (SF B (.slice aa k ac) (.slice fa q fc) (.slice ia z ic) (L2++Hv.NZ xs) w wr):=JY (by
           have h:=HI.out
           rwa [An (by have:=dX.out;omega)] at h)
          have hsz:=HI.out.size;clear HI;go_wp2_with fail;refine (Tryz.Builder_String_any (B+1) (B+1) (L2++Hv.NZ xs) wr CX.out.bld (by omega)).mono ?_;rintro e w9 ⟨rfl,qK⟩;have ny:=JY (CX.out.K7.trans (qK.mono (by omega)));clear qK;go_wp2_with fail;go_ret;exact ⟨by rw[<- eW.out,<- dW.out];rfl,by rw[bJ.out];exact ny.out⟩
end
section
open Go.RowKit
open Kw (St ME)
open Hv (S Dk VM)
def K9 (C:Nat->Prop) (eb sb pm fm:Nat) (k:Nat):Prop:=C k\/k=eb\/k=sb\/k=pm\/k=fm
theorem ahu(eb:Nat) (s m:Value) (sa:Option Addr) (ns sc im km:Nat) (dn:Value) (w:World) (h:Qq eb s m (.slice sa ns sc) (.map (some im)) (.map (some km)) dn w) :
 Calls Tryz.prog 36 #[.pointer (some ⟨eb,0,none⟩)] w fun e w'=>e = .returned (.bool (decide ((0:Int)<ns)))/\Below w.heap.size w w':=by
 obtain ⟨e0,e1,e2,e3,e4,e5⟩:=h.cells;clear h;go_enter Tryz.func36,Tryz.ntmps36;go_wp2_with fail;refine (N9 sa ns sc im km w).mono ?_;rintro e w1 ⟨rfl,hb1⟩;have ag:=JY hb1;clear hb1;go_wp2_with fail;go_ret;exact ⟨by simp,ag.out⟩
theorem YN(eb:Nat) (s m dn:Value) (w:World) (h:Qq eb s m (.slice none 0 0) (.map none) (.map none) dn w) :
 Calls Tryz.prog 36 #[.pointer (some ⟨eb,0,none⟩)] w fun e w'=>e = .returned (.bool false)/\Below w.heap.size w w':=by
 obtain ⟨e0,e1,e2,e3,e4,e5⟩:=h.cells;clear h;go_enter Tryz.func36,Tryz.ntmps36;go_wp2_with fail;refine (abe w).mono ?_;rintro e w1 ⟨rfl,hb1⟩;have ag:=JY hb1;clear hb1;go_wp2_with fail;go_ret;exact ⟨rfl,ag.out⟩
end
section
open Go.RowKit
open Kw (St ME)
open Hv (S VM)
variable {pl:Hv.Plan}
structure LC (M:Nat->Prop) (pl:Hv.Plan) (sv:Value) (im km:Nat) (w:World):Prop where
 row:w.ownsRow 0 297 2 sv pl.steps.length (pl.steps.flatMap P6)
 amm:∀ g,sv.ownBlock=some g->M g
 ins:∃ I,J6 w im I/\Ls M w pl.ins I
 Le:∃ K,J6 w km K/\OV M w pl.Le K
 ge:M im/\M km
theorem OV.within{N':Nat->Prop}  {D:VM (List S)} {E:VM Value} (h:OV N w D E) (hn:∀ g,N g->g<w.heap.size->N' g):OV N' w D E:=by
 have hr:∀ d v,WkR N w d v->WkR N' w d v:=fun d v q=>⟨q.1,fun g hg=>hn g (q.2 g hg) (q.1.lt g hg).2⟩
 exact ⟨h.Mt,fun k v q=>(h.P8 k v q).imp fun _ a=>⟨a.1,hr _ _ a.2⟩,fun k v q=>(h.Vk k v q).imp fun _ a=>⟨a.1,hr _ _ a.2⟩⟩
theorem MR.inside(h:MR B pl sv im km w):LC (fun g=>B<=g/\g<w.heap.size) pl sv im km w:=by
 obtain ⟨I,i1,i2⟩:=h.ins;obtain ⟨K,k1,k2⟩:=h.Le;exact ⟨⟨h.row.1,h.row.2.imp_right fun ⟨g,cap,cur,a,_,c⟩=>⟨g,cap,cur,a,Bs _,c⟩⟩,fun g hg=>h.row.lt g hg,⟨I,i1,i2.within fun g a b=>⟨a,b⟩⟩,⟨K,k1,k2.within fun g a b=>⟨a,b⟩⟩,⟨h.ge.1,i1.lt⟩,⟨h.ge.2,k1.lt⟩⟩
theorem LC.far(h:LC M pl sv im km w) (hf:Kj B C w w') (hB:w.heap.size<=B) (hC:∀ g,M g -> ¬ C g):LC M pl sv im km w':=by
 obtain ⟨I,i1,i2⟩:=h.ins;obtain ⟨K,k1,k2⟩:=h.Le;exact ⟨Kg h.row (fun g hg=>hf.block g (by have:=(h.row.lt g hg).2;omega) (hC g (h.amm g hg))),h.amm,⟨I,i1.far hf hB (hC _ h.ge.1),i2.far hf hB (fun g _ hg=>hC g hg)⟩,⟨K,k1.far hf hB (hC _ h.ge.2),k2.far hf hB (fun g _ hg=>hC g hg)⟩,h.ge⟩
theorem LC.below(h:LC M pl sv im km w) (hb:Below w.heap.size w w'):LC M pl sv im km w' :=
 h.far (Kj.of (C:=fun _=>False) hb (AC _)) (AC _) (fun _ _ q=>q)
theorem amj(mb pm fm:Nat) (P:VM Value) (D:VM Hv.PD) (G:VM S) (N M:Nat->Prop) (pl:Hv.Plan) (sv:Value) (im km:Nat) (n:Nat) (hn:n<pl.steps.length) (hok:Hv.Tv pl D pl.steps[n]) (hks:pl.steps[n].2.length<=maxLen) (bX:P.length<=1000) (hG:G.length<=1000) (L:Nat) (hL:L<=1000000) (hS:Hv.Short L G) (hDB:QD L D) (iF:Oc L pl.Le) (w:World) (h:Kh mb pm fm P (Hv.Kk G) w) (hP:Ls N w D P) (hpl:LC M pl sv im km w) (hN:∀ g,M g->N g) (hkm : ¬ km=fm) :
 Calls Tryz.prog 137 #[.agg #[sv, .map (some im), .map (some km)], .int .i64 n, .pointer (some ⟨mb,0,none⟩)] w (U8 mb pm fm (Hv.Ke pl (D,G) pl.steps[n]) N w):=by
 obtain ⟨g,c,rfl,hg,q1,q2⟩:=adg hpl.row hn;obtain ⟨I,i1,i2⟩:=hpl.ins;obtain ⟨K,k1,k2⟩:=hpl.Le;obtain ⟨⟨k,x⟩,hs⟩:∃ s,pl.steps[n]=s:=⟨_,rfl⟩
 rw[hs] at q1 q2 hok hks |-;simp only at q1 q2 hks;rcases hok with e | ⟨e,hi⟩ | ⟨e,hd⟩
 · simp only at e;subst e;exact acP mb pm fm P D G N g n _ c im km hn x hks w h hP q1 q2
 · simp only at e hi;subst e;rw[Hv.J9] at hi;obtain ⟨d,hd⟩:=Option.isSome_iff_exists.1 hi;have e2:Hv.Ke pl (D,G) (2,x)=(Hv.put D x d,G):=by simp[Hv.Ke,hd]
   rw[e2];exact Yo mb pm fm P I D pl.ins G N g n _ c im km hn x hks bX d hd w h hP i1 (i2.within fun g a _=>hN g a) q1 q2
 · simp only at e hd;rw[Hv.J9] at hd;obtain ⟨d,hd⟩:=Option.isSome_iff_exists.1 hd;rcases e with e | e
   · subst e;have e2:Hv.Ke pl (D,G) (3,x)=(Hv.put D x (d.to (if Hv.has K x=true then 3 else 2)),Hv.MG D [] G d.st.runs):=by simp[Hv.Ke,hd,k2.has_eq]
     rw[e2];exact Tf mb pm fm P K D G N g n _ c im km hn x hks bX hG L hL hS hDB d hd w h hP k1 k2.als hkm _ rfl q1 q2
   · subst e;have e2:Hv.Ke pl (D,G) (4,x)=(Hv.put D x (d.to 2),Hv.MG D ((Hv.get pl.Le x).getD []) G d.st.Kn):=by simp[Hv.Ke,hd]
     rw[e2];have hb:((Hv.get pl.Le x).getD []).length<=1000/\(∀ y∈(Hv.get pl.Le x).getD [],y.length<=100)/\(Lc ((Hv.get pl.Le x).getD [])).length<=L:=by
      cases q:Hv.get pl.Le x with
      | none=>exact ⟨by simp,by simp,by simp[Lc]⟩
      | some xs=>exact iF x xs q
     exact Wv mb pm fm P K D G N g n _ c im km hn x hks bX hG L hL hS hDB d hd w h hP pl.Le _ k1 k2 _ rfl hb.1 hb.2.1 hb.2.2 q1 q2
end
section
open Go.RowKit
open Kw (St ME)
open Hv (S Dk VM)
def Nz (C:Nat->Prop) (eb sb pm fm:Nat) (M:Nat->Prop):Prop:=∀ g,M g -> ¬ K9 C eb sb pm fm g
namespace Hv
def KG (D:VM PD) (K:VM (List S)):VM PD:=D.map fun p=>(p.1,if has K p.1=true/\p.2.status=2 then p.2.to 3 else p.2)
end Hv
theorem ae0{KD:VM (List S)} {K:VM Value} (h:OV N w KD K) (D:VM Hv.PD):Hv.woke D K=Hv.KG D KD:=by
 unfold Hv.woke Hv.QB Hv.KG;refine List.map_congr_left fun p _ => ?_
 rw[h.has_eq];simp
theorem Nz.disk{C':Nat->Prop} {sb pm fm:Nat}  (h:Nz C eb sb pm fm M) (hC:∀ k,C' k->C k\/B<=k) (hM:∀ g,M g->g<B):Nz C' eb sb pm fm M:=fun g hg q=>by
 rcases q with q | q
 · rcases hC g q with q | q
   · exact h g hg (.inl q)
   · have:=hM g hg;omega
 · exact h g hg (.inr q)
theorem acL{e s:Nat} {v:Value}  {xs:List Value} (h:w.ownsRow B e s v n xs):w.ownsRow 0 e s v n xs:=⟨h.1,h.2.imp_right fun ⟨g,cap,cur,a,_,c⟩=>⟨g,cap,cur,a,Bs _,c⟩⟩
structure QE (n:Nat) (m:Hv.Mac) (xs:List S):Prop where
 l1:m.1.length<=12
 l2:Hv.Named m.1
 l3:m.2.length<=16
 l4:∀ f∈m.2,f.1.length<=24/\f.2.length<=200
 l5:∀ x∈Hv.K8 m.1,x.length<=2000
 l6:xs.length<=6/\∀ x∈xs,x.length<=100000
 room:(Hv.KU m.1 m.2 xs).length<=(n-1) / 2*256
theorem encS{m:Hv.Mac} {xs:List S} (hR:QE n m xs) (va vf vi:Value) (w:World) (hb:Base w) {B':Nat} (h1:w.ownsRow B 9 1 va m.1.length ((Hv.K8 m.1).map Kl)) (h2:w.ownsRow B' 117 2 vf m.2.length (m.2.flatMap Lj)) (h3:Reads w vi xs) :
 Calls Tryz.prog 41 #[.agg #[va,vf,vi]] w fun e w'=>e = .returned (.string ⟨(Hv.KU m.1 m.2 xs).toArray⟩)/\Below w.heap.size w w' :=
 ab4 va vf vi (Hv.K8 m.1) m.2 xs ⟨by have:=hR.l1;simp[Hv.K8];omega,fun x hx=>by have:=hR.l5 x hx;omega⟩ ⟨by have:=hR.l3;omega,fun f hf=>by have:=hR.l4 f hf;omega⟩ ⟨by have:=hR.l6.1;omega,hR.l6.2⟩ w hb (by simpa [Hv.K8] using acL h1) (acL h2) h3
structure Pm (n:Nat) (pl:Hv.Plan) (m:Hv.Mac):Prop where
 ok:Hv.NA pl m pl.steps
 ks:∀ s∈pl.steps,s.2.length<=12
 len:pl.steps.length<=200
 at_:∀ k,k<pl.steps.length->(Hv.Kc pl m (pl.steps.take k)).1.length<=1000/\(Hv.Kc pl m (pl.steps.take k)).2.length<=1000/\Hv.Short 200 (Hv.Kc pl m (pl.steps.take k)).2/\QD 30000 (Hv.Kc pl m (pl.steps.take k)).1
 wf:Oc 30000 pl.Le
 fin:QE n (Hv.Kc pl m pl.steps) []
def leftOf (eb ns:Nat) (w:World):Nat:=match w.cell? ⟨eb,2,none⟩,w.cell? ⟨eb,5,none⟩ with
 | some (.slice _ m _),some (.int _ d)=>if m=0 then 0 else ns+1-d.toNat
 | _,_=>0
theorem agG{im km:Value} {sa:Option Addr} {sc dn:Nat}  (h:Qq eb s m (.slice sa ns sc) im km (.int .i64 dn) w) (hn:0<ns):leftOf eb ns w=ns+1-dn:=by
 obtain ⟨_,_,q2,_,_,q5⟩:=h.cells;unfold leftOf;rw[q2,q5];simp;omega
theorem aeg{im km dn:Value}  (h:Qq eb s m (.slice none 0 0) im km dn w):leftOf eb ns w=0:=by
 obtain ⟨_,_,q2,_,_,q5⟩:=h.cells;unfold leftOf;rw[q2,q5];cases dn<;>simp
theorem acy(n:Int) (h0:0<=n) (h1:n<=1000000) (w:World) (hb:Base w) :
 Calls Tryz.prog 81 #[.int .i64 n] w fun e w'=>∃ x:S,e = .returned (.string ⟨x.toArray⟩)/\x.length<=21/\Below w.heap.size w w' :=
 (OI n (by omega) (by omega) w hb).mono fun e w' h=>⟨_,h.1,Lib.itoa_length_le n (by omega) (by omega),h.2⟩
theorem Yz(sb db n a b c:Nat) (h:S) (w:World) (hs:KA sb db n a b c h w) :
 Calls Tryz.prog 38 #[.pointer (some ⟨sb,0,none⟩)] w fun e w'=>e = .returned (.int .i64 n)/\Below w.heap.size w w':=by
 obtain ⟨s0,s1,s2,s3,s4,s5⟩:=hs.cells;have HS:=JY (V7 db n w);clear hs;go_enter Tryz.func38,Tryz.ntmps38;go_wp2_with fail;refine HS.out.mono ?_;rintro e w1 ⟨rfl,hb1⟩;have ag:=JY hb1;clear hb1;go_wp2_with fail;go_ret;exact ⟨rfl,ag.out⟩
end
section
open Kw (St ME)
open Hv (S VM)
namespace Hv
variable {D D':VM PD}
def OX (D:VM PD):VM PD:=D.map fun p=>(p.1,p.2.to 0)
theorem Qk(h:Ki D):Ki (OX D):=h.map fun d:PD=>d.to 0
theorem Q5(D:VM PD) (k:S):get (OX D) k=(get D k).map (fun d=>d.to 0):=get_map D (fun d:PD=>d.to 0) k
theorem Q6(h:Ki D) (k:S) (d:PD):OX (put D k d)=put (OX D) k (d.to 0):=by
 refine (Qk (h.put k d)).Lr ((Qk h).put k _) fun n => ?_
 rw[Q5];by_cases e:n=k
 · subst e;rw[Ka h,Ka (Qk h)];rfl
 · rw[J7 h _ e,J7 (Qk h) _ e,Q5]
theorem afN(h:Ki D) (k:S):OX (del D k)=del (OX D) k:=by
 refine (Qk (h.del k)).Lr ((Qk h).del k) fun n => ?_
 rw[Q5];by_cases e:n=k
 · subst e;rw[KQ,KQ];rfl
 · rw[Kz h e,Kz (Qk h) e,Q5]
theorem ado(D:VM PD) (K:VM (List S)):OX (KG D K)=OX D:=by
 unfold OX KG;rw[Hb];refine List.map_congr_left fun p _ => ?_
 simp only[Function.comp_apply];split<;>rfl
theorem VU(h:Ki D) (K:VM (List S)):Ki (KG D K):=h.am2 (fun (k:S) (d:PD)=>if has K k=true/\d.status=2 then d.to 3 else d)
theorem ahA(D:VM PD) (K:VM (List S)):(KG D K).length=D.length:=by simp[KG]
theorem aax(D:VM PD) (K:VM (List S)) (k:S):get (KG D K) k=(get D k).map fun d=>if has K k=true/\d.status=2 then d.to 3 else d :=
 XQ (fun (k:S) (d:PD)=>if has K k=true/\d.status=2 then d.to 3 else d) k D
theorem ZC(D:VM PD) (G:VM S) (path:S):findD (OX D) G path=findD D G path:=by
 unfold findD OX;split
 · rfl
 · rw[<- List.map_reverse,List.findSome?_map];rfl
theorem ace(h:OX D=OX D') (G:VM S) (path:S):findD D G path=findD D' G path:=by
 rw[<- ZC,h,ZC]
theorem agp(h:OX D=OX D') (wk:List S) (G:VM S) (c:ME):SL D wk G c=SL D' wk G c:=by
 unfold SL;rw[ace h]
theorem QX(h:OX D=OX D') (wk:List S) (G:VM S) (cs:List ME):MG D wk G cs=MG D' wk G cs:=by
 unfold MG
 congr 1
 funext G' c
 exact agp h wk G' c
theorem Sw(h:OX D=OX D') (k:S):(get D k=none/\get D' k=none) \/ ∃ d d',get D k=some d/\get D' k=some d'/\d.to 0=d'.to 0:=by
 have e:(get D k).map (fun d=>d.to 0)=(get D' k).map (fun d=>d.to 0):=by rw[<- Q5,<- Q5,h]
 cases q:get D k with
 | none =>
   rw[q] at e;cases q':get D' k with
   | none=>exact .inl ⟨rfl,rfl⟩
   | some d'=>rw[q'] at e;cases e
 | some d =>
   rw[q] at e;cases q':get D' k with
   | none=>rw[q'] at e;cases e
   | some d'=>rw[q'] at e;exact .inr ⟨d,d',rfl,rfl,by simpa using e⟩
theorem Ub(pl:Plan)  (sD:Ki D) (gP:Ki D') (h:OX D=OX D') (G:VM S) (s:Step):OX (Ke pl (D,G) s).1=OX (Ke pl (D',G) s).1/\(Ke pl (D,G) s).2=(Ke pl (D',G) s).2:=by
 unfold Ke;split
 · exact ⟨by simp only[afN sD,afN gP,h],rfl⟩
 · split
   · split
     · exact ⟨by simp only[Q6 sD,Q6 gP,h],rfl⟩
     · exact ⟨h,rfl⟩
   · rcases Sw h s.2 with ⟨q,q'⟩ | ⟨d,d',q,q',e⟩
     · simp only[q,q'];exact ⟨h,trivial⟩
     · have est:d.st=d'.st:=(show (d.to 0).st=(d'.to 0).st by rw[e]);have e2:∀ x:Int,(d.to x).to 0=(d'.to x).to 0:=fun _=>e
       simp only[q,q'];split
       · exact ⟨by simp only[Q6 sD,Q6 gP,h,e2],by simp only[est,QX h]⟩
       · split
         · exact ⟨by simp only[Q6 sD,Q6 gP,h,e2],by simp only[est,QX h]⟩
         · exact ⟨h,rfl⟩
theorem Z7(pl:Plan):∀ (ss:List Step) {D D':VM PD} {G:VM S},Ki D->Ki D'->Ki G->OX D=OX D'->OX (Kc pl (D,G) ss).1=OX (Kc pl (D',G) ss).1/\(Kc pl (D,G) ss).2=(Kc pl (D',G) ss).2
 | [],_,_,_,_,_,_,h=>⟨h,rfl⟩
 | s::ss,D,D',G,sD,gP,sG,h=>by
   obtain ⟨a,b⟩:=Ub pl sD gP h G s;obtain ⟨u1,u2⟩:=LA pl (m:=(D,G)) sD sG s;obtain ⟨v1,_⟩:=LA pl (m:=(D',G)) gP sG s;have ih:=Z7 pl ss (D:=(Ke pl (D,G) s).1) (D':=(Ke pl (D',G) s).1) (G:=(Ke pl (D,G) s).2) u1 v1 u2 a;rw[show ((Ke pl (D',G) s).1,(Ke pl (D,G) s).2)=Ke pl (D',G) s by rw[b]] at ih;exact ih
theorem Yk(pl:Plan):∀ (ss:List Step) {D D':VM PD} {G:VM S},Ki D->Ki D'->Ki G->OX D=OX D'->LZ pl (D,G) ss=LZ pl (D',G) ss
 | [],_,_,_,_,_,_,_=>rfl
 | s::ss,D,D',G,sD,gP,sG,h=>by
   obtain ⟨a,b⟩:=Ub pl sD gP h G s;obtain ⟨u1,u2⟩:=LA pl (m:=(D,G)) sD sG s;obtain ⟨v1,_⟩:=LA pl (m:=(D',G)) gP sG s;have ih:=Yk pl ss (D:=(Ke pl (D,G) s).1) (D':=(Ke pl (D',G) s).1) (G:=(Ke pl (D,G) s).2) u1 v1 u2 a;rw[show ((Ke pl (D',G) s).1,(Ke pl (D,G) s).2)=Ke pl (D',G) s by rw[b]] at ih;show (!NW (Ke pl (D,G) s).2||LZ pl (Ke pl (D,G) s) ss)=(!NW (Ke pl (D',G) s).2||LZ pl (Ke pl (D',G) s) ss);rw[b,<- ih]
end Hv
namespace Hv
variable {D D' I:VM PD}{G:VM S}{R:VM Value}
theorem amk{α:Type} {D:VM α} (h:Ki D) {k:S} {d:α} (q:get D k=some d):put D k d=D:=(h.put k d).Lr h fun n=>by
 by_cases e:n=k
 · subst e;rw[Ka h,q]
 · rw[J7 h _ e]
theorem XR(pl:Plan):∀ (l:List S) {m:Mac},Ki m.1->Ki m.2->∀ k,get (Kc pl m (l.map fun x=>(1,x))).1 k=if k∈l then none else get m.1 k
 | [],m,_,_,k=>by simp[Kc]
 | x::l,m,h1,h2,k=>by
   have e:Kc pl m ((x::l).map fun x=>(1,x))=Kc pl (del m.1 x,m.2) (l.map fun x=>(1,x)):=rfl;rw[e,XR pl l (m:=(del m.1 x,m.2)) (h1.del x) h2 k];by_cases q:k=x
   · subst q;simp[KQ]
   · simp[q,Kz h1 q]
theorem Ug(pl:Plan):∀ (l:List S) {m:Mac},Ki m.1->Ki m.2->(∀ x∈l,has pl.ins x=true)->∀ k,get (Kc pl m (l.map fun x=>(2,x))).1 k=if k∈l then get pl.ins k else get m.1 k
 | [],m,_,_,_,k=>by simp[Kc]
 | x::l,m,h1,h2,hl,k=>by
   have hx:=hl x (by simp);rw[J9] at hx;obtain ⟨d,hd⟩:=Option.isSome_iff_exists.1 hx;have e:Kc pl m ((x::l).map fun x=>(2,x))=Kc pl (put m.1 x d,m.2) (l.map fun x=>(2,x)):=by
    show Kc pl (Ke pl m (2,x)) _=_;simp[Ke,hd]
   rw[e,Ug pl l (m:=(put m.1 x d,m.2)) (h1.put x d) h2 (fun y hy=>hl y (by simp[hy])) k];by_cases q:k=x
   · subst q;simp[Ka h1,hd]
   · simp[q,J7 h1 _ q]
theorem X6(pl:Plan) {m:Mac} (h1:Ki m.1) {s:Step} (hs:s.1=3\/s.1=4):OX (Ke pl m s).1=OX m.1:=by
 have key:∀ d x,get m.1 s.2=some d->OX (put m.1 s.2 (d.to x))=OX m.1:=fun d x q=>by
  rw[Q6 h1];exact amk (Qk h1) (by rw[Q5,q];rfl)
 unfold Ke;rw[Bm (by omega),Bm (by omega)];split
 · rfl
 next d hd =>
  split
  · exact key d _ hd
  · split
    · exact key d _ hd
    · rfl
theorem Pv(pl:Plan):∀ (ss:List Step) {m:Mac},Ki m.1->Ki m.2->(∀ s∈ss,s.1=3\/s.1=4)->OX (Kc pl m ss).1=OX m.1
 | [],_,_,_,_=>rfl
 | s::ss,m,h1,h2,hs=>by
   obtain ⟨a,b⟩:=LA pl h1 h2 s;have e:Kc pl m (s::ss)=Kc pl (Ke pl m s) ss:=rfl;rw[e,Pv pl ss a b (fun t ht=>hs t (by simp[ht])),X6 pl h1 (hs s (by simp))]
theorem run_end(sD:Ki D) (gP:Ki D') (sG:Ki G) (sI:Ki I) (h:OX D'=OX D):OX (Kc (KC D R I) (D',G) (KC D R I).steps).1=OX (Ko D R I):=by
 rw[(Z7 (KC D R I) (KC D R I).steps gP sD sG h).1];obtain ⟨pl,hpl⟩:∃ pl,KC D R I=pl:=⟨_,rfl⟩
 have e:pl.steps=((order KS (leaveD D R)).map (fun x=>(1,x))++(order Km I).map (fun x=>(2,x)))++((order Km I).map (fun x=>(3,x))++(J3 (LQ (Ko D R I) (J3 (Kr D R I)))).map (fun x=>(4,x))):=by
  rw[<- hpl,<- FF];rfl
 have ei:pl.ins=I:=by rw[<- hpl];rfl
 have e3:∀ A B C:List Step,Kc pl (D,G) ((A++B)++C)=Kc pl (Kc pl (Kc pl (D,G) A) B) C:=fun A B C=>by simp only[Kc,List.foldl_append]
 rw[hpl,e,e3];obtain ⟨a1,a2⟩:=L9 pl ((order KS (leaveD D R)).map (fun x=>(1,x))) (m:=(D,G)) sD sG;obtain ⟨b1,b2⟩:=L9 pl ((order Km I).map (fun x=>(2,x))) a1 a2;rw[Pv pl _ b1 b2 (fun s hs=>by
  simp only[IF,List.mem_map] at hs;rcases hs with ⟨x,_,rfl⟩ | ⟨x,_,rfl⟩
  · exact .inl rfl
  · exact .inr rfl)]
 congr 1
 refine b1.Lr (Nw I (cut D R) (Nu R D sD)) fun k => ?_
 rw[Ug pl _ a1 a2 (fun x hx=>by rw[ei];exact (LH Km sI x).1 hx),XR pl _ (m:=(D,G)) sD sG,ei];rw[show get (Ko D R I) k=(get I k).orElse (fun _=>if has R k=true then none else get D k) from (Nv I (cut D R) (Nu R D sD) sI k).trans (by rw[Pn R D sD])];show (if k∈order Km I then get I k else if k∈order KS (leaveD D R) then none else get D k)=_;have m1:=LH Km sI k;have m2:=LH KS (Nn sD R) k;rw[J9,Nl sD] at m2;rw[J9] at m1;cases q:get I k with
 | some d =>
   rw[q] at m1;rw[By (m1.2 rfl)];rfl
 | none =>
   rw[q] at m1;rw[Bm (fun x=>by have:=m1.1 x;cases this)];simp only[Option.orElse_none];by_cases r:has R k=true
   · rw[By r] at m2 |-;cases q2:get D k with
     | none=>simp
     | some d=>rw[q2] at m2;rw[By (m2.2 rfl)]
   · rw[Bm r] at m2 |-;rw[Bm (fun x=>by have:=m2.1 x;cases this)]
theorem ac4(sD:Ki D) (gP:Ki D') (sG:Ki G) (sI:Ki I) (h:OX D'=OX D):(Kc (KC D R I) (D',G) (KC D R I).steps).1.length=(Ko D R I).length:=by
 have:=IN List.length (run_end (R:=R) sD gP sG sI h);simpa [OX] using this
end Hv
namespace Hv
variable {D:VM PD}{G:VM S}{pl:Plan}
theorem ah7{n:Int}   {xs:List S}  (h:check n D G xs = .ok pl):∃ s,wish xs = .ok s/\LY D s.R s.I=0/\KC D s.R s.I=pl/\LZ pl (D,G) pl.steps=false/\Oj n D xs=false:=by
 unfold check at h;split at h
 · cases h
 next s hs =>
  split at h
  · cases h
  next h1 =>
   split at h
   · cases h
   next h2 =>
    split at h
    · cases h
    next h3 =>
     cases h;exact ⟨s,hs,by simpa using h1,rfl,by simpa using h2,by simpa using h3⟩
def GK (G:VM S):Prop:=∀ k x,get G k=some x->k.length<=24
theorem GK.put(h:GK G) (hs:Ki G) {k:S} (hk:k.length<=24) (x:S):GK (put G k x):=fun k' x' q=>by
 by_cases e:k'=k
 · subst e;exact hk
 · rw[J7 hs _ e] at q;exact h k' x' q
theorem GK.del(h:GK G) (hs:Ki G) (k:S):GK (del G k):=fun k' x' q=>by
 by_cases e:k'=k
 · subst e;rw[KQ] at q;cases q
 · rw[Kz hs e] at q;exact h k' x' q
theorem GK.SL(h:GK G) (hs:Ki G) (D:VM PD) (wk:List S) {c:ME} (hc:Pg c):GK (SL D wk G c):=by
 have hp:=(Xa hc).1;unfold Hv.SL
 repeat' split
 all_goals first | exact h.put hs hp _ | exact h.del hs _ | exact h
theorem GK.MG(D:VM PD) (wk:List S):∀ (cs:List ME) {G:VM S},GK G->Ki G->(∀ c∈cs,Pg c)->GK (MG D wk G cs)
 | [],_,h,_,_=>h
 | c::cs,_,h,hs,hc=>GK.MG D wk cs (h.SL hs D wk (hc c (by simp))) (aaM D wk hs c) (fun c' h'=>hc c' (by simp[h']))
theorem GK.step{m:Mac} (h:GK m.2) (hs:Ki m.2) (hf:Lf m.1) (s:Step):GK (Ke pl m s).2:=by
 unfold Ke;split
 · exact h
 · split
   · split<;>exact h
   · split
     · exact h
     next d hd =>
      have hgd:=(Lm (hf.at_ hd).2.1).2.2;split
      · exact GK.MG _ _ _ h hs (fun c hc=>(hgd.runs c hc).1)
      · split
        · exact GK.MG _ _ _ h hs (fun c hc=>hgd.Kn c hc)
        · exact h
theorem way(sD:Ki D) (sG:Ki G) (hD:Lf D) (hI:Lf pl.ins) (hG:GK G):∀ k,k<=pl.steps.length->Lf (Kc pl (D,G) (pl.steps.take k)).1/\GK (Kc pl (D,G) (pl.steps.take k)).2/\(Kc pl (D,G) (pl.steps.take k)).1.length<=D.length+k
 | 0,_=>⟨by simpa [Kc] using hD,by simpa [Kc] using hG,by simp[Kc]⟩
 | k+1,hk=>by
   obtain ⟨a,b,c⟩:=way sD sG hD hI hG k (by omega);obtain ⟨s1,s2⟩:=L9 pl (pl.steps.take k) (m:=(D,G)) sD sG;rw[Sb pl (D,G) (by omega)];have:=adf pl (Kc pl (D,G) (pl.steps.take k)) (pl.steps[k]'(by omega));exact ⟨a.step hI s1 _,b.step s2 a _,by omega⟩
theorem ZU(pl:Plan):∀ (ss:List Step) (m:Mac),LZ pl m ss=false->∀ k,1<=k->k<=ss.length->NW (Kc pl m (ss.take k)).2=true
 | [],_,_,k,h1,h2=>by simp at h2;omega
 | s::ss,m,h,k,h1,h2=>by
   have h':(!NW (Ke pl m s).2||LZ pl (Ke pl m s) ss)=false:=h;rw[Bool.or_eq_false_iff] at h';obtain ⟨j,rfl⟩:∃ j,k=j+1:=⟨k-1,by omega⟩
   have e:Kc pl m ((s::ss).take (j+1))=Kc pl (Ke pl m s) (ss.take j):=rfl;rw[e];by_cases hj:j=0
   · subst hj;simpa [Kc] using h'.1
   · exact ZU pl ss _ h'.2 j (by omega) (by simp at h2;omega)
theorem acI(pl:Plan):∀ (ss:List Step) {D D':VM PD} {G:VM S},Ki D->Ki D'->Ki G->OX D=OX D'->NA pl (D,G) ss->NA pl (D',G) ss
 | [],_,_,_,_,_,_,_,_=>trivial
 | s::ss,D,D',G,sD,gP,sG,h,⟨q1,q2⟩=>by
   obtain ⟨a,b⟩:=Ub pl sD gP h G s;obtain ⟨u1,u2⟩:=LA pl (m:=(D,G)) sD sG s;obtain ⟨v1,_⟩:=LA pl (m:=(D',G)) gP sG s;have hh:∀ k,has D k=has D' k:=fun k=>by
    rw[J9,J9];rcases Sw h k with ⟨x,y⟩ | ⟨d,d',x,y,_⟩
    · rw[x,y]
    · rw[x,y];rfl
   have ih:=acI pl ss (D:=(Ke pl (D,G) s).1) (D':=(Ke pl (D',G) s).1) (G:=(Ke pl (D,G) s).2) u1 v1 u2 a q2;rw[show ((Ke pl (D',G) s).1,(Ke pl (D,G) s).2)=Ke pl (D',G) s by rw[b]] at ih;refine ⟨?_,ih⟩;rcases q1 with q | q | ⟨q,q'⟩
   · exact .inl q
   · exact .inr (.inl q)
   · exact .inr (.inr ⟨q,by rw[<- hh];exact q'⟩)
theorem aeQ{D':VM PD} (h:OX D=OX D'):LG D=LG D':=by
 have e:∀ E:VM PD,LG (OX E)=LG E:=fun E=>by
  unfold LG OX;rw[Hb];rfl
 rw[<- e D,h,e]
theorem adB(h:Lf D) (K:VM (List S)):Lf (KG D K):=by
 have key:∀ k d,get (KG D K) k=some d->∃ d0 x,get D k=some d0/\(d=d0\/d=d0.to x):=fun k d q=>by
  rw[aax] at q;cases q2:get D k with
  | none=>rw[q2] at q;cases q
  | some d0 =>
    rw[q2] at q;simp only[Option.map_some,Option.some.injEq] at q;split at q
    · exact ⟨d0,3,rfl, .inr q.symm⟩
    · exact ⟨d0,3,rfl, .inl q.symm⟩
 refine ⟨fun k d q => ?_,h.copies.imp id fun f k d q => ?_⟩
 · obtain ⟨d0,x,q0,rfl | rfl⟩:=key k d q
   · exact h.named k _ q0
   · exact ⟨(h.named k d0 q0).1,(h.named k d0 q0).2⟩
 · obtain ⟨d0,x,q0,rfl | rfl⟩:=key k d q
   · exact f k _ q0
   · exact ⟨(f k d0 q0).1,(f k d0 q0).2⟩
end Hv
namespace Hv
variable {xs:List S}{D:VM PD}{G:VM S}
theorem aav:∀ (xs:List S) {s s':WS},OT xs s=some s'->s'.I.length<=s.I.length+xs.length/\s'.R.length<=s.R.length+xs.length
 | [],s,s',h=>by rw[OT] at h;cases h;simp
 | x::xs,s,s',h=>by
   rw[OT] at h;split at h
   · cases h
   next i hi =>
    obtain ⟨a,b⟩:=aav xs h;have key:(Pd s i).I.length<=s.I.length+1/\(Pd s i).R.length<=s.R.length+1:=by
     cases i with
     | inl nm=>exact ⟨Nat.le_succ _,Mr _ _ _⟩
     | inr it=>obtain ⟨t,nm,ve,st⟩:=it;exact ⟨Mr _ _ _,Nat.le_succ _⟩
    simp only[CI];omega
theorem ajz{s:WS} (h:wish xs = .ok s):s.I.length<=6/\s.R.length<=6:=by
 unfold wish at h;split at h
 · cases h
 next hx =>
  split at h
  · cases h
  next s1 h1 =>
   split at h
   · cases h
   · cases h;have:=aav xs h1;simp only[List.length_nil] at this;omega
theorem aje(hn:n<=4096) (h:Oj n D xs=false):LG D+(xs.map List.length).sum+4682<=(n-1) / 2*256:=by
 unfold Oj WG at h;rw[ajl] at h;simp only[decide_eq_false_iff_not] at h;omega
theorem aev(h:Named D) (hs:Ki D):∀ p∈D,p.2.text.length<=2000:=fun p hp=>(Qi (h p.1 p.2 ((get_some hs).2 hp)).2).1
theorem acX{T:Nat} (sD:Ki D) (sG:Ki G) (hl:D.length<=12) (hD:Named D) (hG:G.length<=16) (hS:Short 200 G) (hK:GK G) (hx:xs.length<=6/\∀ x∈xs,x.length<=100000) (hT:LG D+(xs.map List.length).sum<=T) (hr:T+4682<=(n-1) / 2*256):QE n (D,G) xs:=by
 have h4:∀ f∈G,f.1.length<=24/\f.2.length<=200:=fun f hf=>⟨hK f.1 f.2 ((get_some sG).2 hf),hS f.1 f.2 ((get_some sG).2 hf)⟩
 have ht:=aev hD sD;have hrl:=afD D G xs ht hl h4 hG (fun x q=>by have:=hx.2 x q;omega) hx.1;exact ⟨hl,hD,hG,h4,fun x q=>by obtain ⟨p,hp,rfl⟩:=List.mem_map.1 q;exact ht p hp,hx,by show (KU D G xs).length<=_;omega⟩
theorem ac6{pl:Plan} (hn:n<=4096) (sD:Ki D) (sG:Ki G) (hD:Lf D) (hDl:D.length<=12) (hG:G.length<=16) (hS:Short 200 G) (hK:GK G) (hxs:∀ x∈xs,x.length<=100000) (cL:Qe \/ ∀ s,wish xs = .ok s->∀ k d,get s.I k=some d->KX d.st.runs/\KX d.st.Kn) (eD:check n D G xs = .ok pl):Pm n pl (KG D pl.Le,G)/\QE n (D,G) xs:=by
 obtain ⟨s,hw,hr,hpl,ho,hb⟩:=ah7 eD;obtain ⟨g1,g2,g3,g4,g5⟩:=aaw hw;obtain ⟨l1,l2⟩:=ajz hw;have hroom:=aje hn hb;have yE:Lf pl.ins:=by rw[<- hpl];exact ⟨g1,cL.imp id (fun f=>f s hw)⟩
 have hlen:pl.steps.length<=200:=by have:=ZW D s.R s.I;rw[hpl] at this;omega
 have hok:NA pl (D,G) pl.steps:=by have:=acQ (R:=s.R) sD sG g2;rwa [hpl] at this
 have hks:∀ t∈pl.steps,t.2.length<=12:=by have:=Ww (R:=s.R) hD.named g1 sD g2;rwa [hpl] at this
 have hwf:Oc 30000 pl.Le:=by have:=ZX (R:=s.R) hD.named g1 sD g2 (by omega) (by omega);rwa [hpl] at this
 have t0:=ado D pl.Le;have sW:=VU sD pl.Le;have hW:=adB hD pl.Le;have hov:LZ pl (KG D pl.Le,G) pl.steps=false:=by rw[<- ho];exact Yk pl pl.steps sW sD sG t0
 have E1:=way sW sG hW yE hK;have Cs:=fun k=>L9 pl (pl.steps.take k) (m:=(KG D pl.Le,G)) sW sG
 have hft:∀ k,k<=pl.steps.length->(Kc pl (KG D pl.Le,G) (pl.steps.take k)).2.length<=16/\Short 200 (Kc pl (KG D pl.Le,G) (pl.steps.take k)).2:=fun k hk=>by
  by_cases h0:k=0
  · subst h0;simpa [Kc] using ⟨hG,hS⟩
  · exact RF (Cs k).2 (ZU pl pl.steps _ hov k (by omega) hk)
 refine ⟨⟨acI pl pl.steps sD sW sG t0.symm hok,hks,hlen,fun k hk => ?_,hwf,?_⟩,acX sD sG hDl hD.named hG hS hK ⟨g5,hxs⟩ (AC _) hroom⟩
 · obtain ⟨a,b,c⟩:=E1 k (by omega);obtain ⟨d,e⟩:=hft k (by omega);have:=ahA D pl.Le;exact ⟨by omega,by omega,e,a.bound (Cs k).1⟩
 · obtain ⟨a,b,c⟩:=E1 pl.steps.length (AC _);obtain ⟨d,e⟩:=hft pl.steps.length (AC _);obtain ⟨s1,s2⟩:=Cs pl.steps.length;have hend:=ac4 (R:=s.R) sD sW sG g2 t0;have jE:LG (Kc pl (KG D pl.Le,G) pl.steps).1<=LG (KG D pl.Le)+(pl.steps.map (abG pl)).sum:=afG pl pl.steps (m:=(KG D pl.Le,G)) sW sG;have hps:=ag3 (D:=D) (R:=s.R) g2;rw[hpl] at hend hps;rw[List.take_length] at a b c d e s1 s2;have h12:=(Tg D s.R s.I hr).2;have hsw:=aeQ t0;have Ey:(Kc pl (KG D pl.Le,G) pl.steps).1.length<=12:=by rw[hend];exact h12
   exact acX (D:=(Kc pl (KG D pl.Le,G) pl.steps).1) (G:=(Kc pl (KG D pl.Le,G) pl.steps).2) s1 s2 Ey a.named d e b ⟨by simp,by simp⟩ (T:=LG D+(xs.map List.length).sum) (by simp only[List.map_nil,List.sum_nil];omega) hroom
end Hv
end
end Go.Proofs.YtfhmaiicimdldaaGreatDoor
