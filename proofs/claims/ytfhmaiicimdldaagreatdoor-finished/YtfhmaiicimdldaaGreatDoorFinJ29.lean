import Derived.Test.YtfhmaiicimdldaaGreatDoorFinJ28
import Derived.Test.YtfhmaiicimdldaaGreatDoorFinJ26
set_option maxHeartbeats 8000000
set_option maxRecDepth 100000
namespace Go.Proofs.YtfhmaiicimdldaaGreatDoor
variable {B a b c db eb fm mb n pm sb:Nat}{cs:Array Value}{w w' wr:World}{C N:Nat->Prop}
section
open Go.RowKit
open Kw (St)
open Hv (S VM)
variable {E:VM Value}{D:VM Hv.PD}{G:VM S}
def Rdy (D:VM Hv.PD):Prop:=∀ k d,Hv.get D k=some d->d.nm=k/\Hv.abA d/\d.status=2
def RsN (B mb pm fm top:Nat):Nat->Prop:=fun g=>B<=g/\g<top/\g≠mb/\g≠pm/\g≠fm
structure SI (B rb mb pm fm:Nat) (cs:Array Value) (w:World) (E:VM Value) (D:VM Hv.PD) (G:VM S) (wr:World):Prop where
 Pq:wr.heap[rb]? = some (.cells cs 109 (0,0))
 ne:B<=rb/\rb≠mb/\rb≠pm/\rb≠fm
 La:Kh mb pm fm E (Hv.Kk G) wr
 pk:Ls (RsN B mb pm fm wr.heap.size) wr D E
 ge:B<=mb/\B<=pm/\B<=fm
 K7:Below B w wr
 base:Base wr
theorem SI.below{rb:Nat}       (h:SI B rb mb pm fm cs w E D G wr) (hb:Below wr.heap.size wr w'):SI B rb mb pm fm cs w E D G w':=by
 have hl:=blt h.La.blk;have:=h.ge;exact ⟨(hb.block rb (blt h.Pq)).trans h.Pq,h.ne,h.La.below hb,(h.pk.below hb).weak (fun g q=>⟨q.1,B3 q.2.1 hb.size,q.2.2⟩),h.ge,h.K7.trans (hb.mono (by omega)),h.base.below hb h.base.size⟩
theorem SI.pack{rb:Nat}       (h:SI B rb mb pm fm cs w E D G wr) (hG:12<=B) {k:S} {d:Hv.PD} {v:Value} (hm:J6 w' pm (Hv.put E k v)) (ht:wr.mapTurned w' pm) (hr:Tp (RsN B mb pm fm wr.heap.size) wr d v):SI B rb mb pm fm cs w (Hv.put E k v) (Hv.put D k d) G w':=by
 have hf:=Kv ht;have hge:=h.ge;have hne:=h.ne;have hap:=h.La.apart;have hs:B<=wr.heap.size:=by have:=blt h.Pq;omega
 have hw:∀ g,RsN B mb pm fm wr.heap.size g->RsN B mb pm fm w'.heap.size g:=fun g q=>⟨q.1,B3 q.2.1 hf.size,q.2.2⟩
 refine ⟨(hf.block rb (blt h.Pq) hne.2.2.1).trans h.Pq,hne,⟨(hf.block mb (blt h.La.blk) hap.1).trans h.La.blk,hm,h.La.files.far hf (AC _) (fun e=>hap.2.2 e.symm),hap⟩,?_,hge,?_,h.base.far hf h.base.size (fun q e=>by subst e;omega)⟩
 · exact ((h.pk.put h.La.packs.1 k hr).far hf (AC _) (fun g _ q e=>q.2.2.2.1 e)).weak hw
 · exact h.K7.trans (hf.toBelow hs (fun q hq e=>by subst e;omega))
theorem SI.file{rb:Nat}     {G':VM S}  (h:SI B rb mb pm fm cs w E D G wr) (hG:12<=B) (hm:J6 w' fm (Hv.Kk G')) (ht:wr.mapTurned w' fm):SI B rb mb pm fm cs w E D G' w':=by
 have hf:=Kv ht;have hge:=h.ge;have hne:=h.ne;have hap:=h.La.apart;have hs:B<=wr.heap.size:=by have:=blt h.Pq;omega
 have hw:∀ g,RsN B mb pm fm wr.heap.size g->RsN B mb pm fm w'.heap.size g:=fun g q=>⟨q.1,B3 q.2.1 hf.size,q.2.2⟩
 refine ⟨(hf.block rb (blt h.Pq) hne.2.2.2).trans h.Pq,hne,⟨(hf.block mb (blt h.La.blk) hap.2.1).trans h.La.blk,h.La.packs.far hf (AC _) hap.2.2,hm,hap⟩,?_,hge,?_,h.base.far hf h.base.size (fun q e=>by subst e;omega)⟩
 · exact (h.pk.far hf (AC _) (fun g _ q e=>q.2.2.2.2 e)).weak hw
 · exact h.K7.trans (hf.toBelow hs (fun q hq e=>by subst e;omega))
def alp (D:VM Hv.PD) (G:VM S) (w:World) (e:Ending) (w':World):Prop:=∃ mb pm fm E,e = .returned (.tuple #[.pointer (some ⟨mb,0,none⟩), .bool true])/\Kh mb pm fm E (Hv.Kk G) w'/\Ls (RsN w.heap.size mb pm fm w'.heap.size) w' D E/\w.heap.size<=mb/\w.heap.size<=pm/\w.heap.size<=fm/\Below w.heap.size w w'
theorem alE(hE:Hv.Ki E) (h:Ls N w D E) (hl:D.length<=100):E.length<maxLen:=by
 have h1:=Hv.OJ hE (ks:=D.map (·.1)) (fun k q=>by
  rw[Hv.J9] at q;obtain ⟨v,hv⟩:=Option.isSome_iff_exists.1 q;obtain ⟨d,hd,_⟩:=h.P8 k v hv;exact List.mem_map.2 ⟨_,(Hv.get_some h.Mt).1 hd,rfl⟩)
 rw[DH] at h1;unfold maxLen;omega
theorem WA(D:VM Hv.PD) (G:VM S) (jA:∀ x∈Hv.K8 D,Pz x) (hD:Hv.Ki D) (hR:Rdy D) (hDl:D.length<=100) (D6:Hv.Ki G) (GP:G.length<=100) (D5:∀ f∈G,Wd.isVar f.1=true/\f.1.length<=2000) (v0 v1 v2:Value) (B0:Nat) (w:World) (hb:Base w)
 (h0:w.ownsRow B0 9 1 v0 (Hv.K8 D).length ((Hv.K8 D).map Kl)) (h1:w.ownsRow B0 117 2 v1 G.length (G.flatMap Lj)) :
 Calls Tryz.prog 95 #[.agg #[v0,v1,v2]] w (alp D G w):=by
 obtain ⟨a0,c0,rfl⟩:=J4 h0;obtain ⟨a1,c1,rfl⟩:=J4 h1;have cW:=hb.size;have aJ:=JY hb;have HD:=JY hD;have HR:=JY hR;have iP:=JY D6;have rT:=JY D5;have kR:=JY jA;clear jA;have H0:=JY h0;have H1:=JY h1;obtain ⟨nd,hnd⟩:∃ nd,(Hv.K8 D).length=nd:=⟨_,rfl⟩
 obtain ⟨ng,fV⟩:∃ ng,G.length=ng:=⟨_,rfl⟩
 have qZ:D.length=nd:=by rw[<- hnd];simp[Hv.K8]
 have dO:=JY qZ;have zS:=JY hnd;have iR:=JY fV;rw[hnd,fV];rw[qZ] at hDl;rw[fV] at GP;have hrow:=AF w (.cells #[.slice a0 nd c0, .slice a1 ng c1,v2] 109);clear hb hD hR D6 D5 h0 h1 hnd fV qZ;go_enter Tryz.func95,Tryz.ntmps95;go_wp2_with fail;refine (aiN _).mono ?_;rintro e w1 ⟨mb,pm,fm,rfl,hm,l1,l2,l3,hb1⟩;have hsz:(w.alloc (.cells #[.slice a0 nd c0, .slice a1 ng c1,v2] 109)).heap.size=w.heap.size+1:=by simp
 rw[hsz] at l1 l2 l3;have fT:=((AD w.heap.size w).alloc (AC _) (.cells #[.slice a0 nd c0, .slice a1 ng c1,v2] 109)).trans (hb1.mono (by simp));have aA:=(hb1.block w.heap.size (by simp)).trans hrow;have ay:Hid (SI w.heap.size w.heap.size mb pm fm #[.slice a0 nd c0, .slice a1 ng c1,v2] w [] (D.take 0) (G.take 0) w1):=JY ⟨aA,⟨AC _,by omega,by omega,by omega⟩,by rw[List.take_zero];exact hm,by rw[List.take_zero];exact Ls.nil _ _,⟨by omega,by omega,by omega⟩,fT,aJ.out.below fT cW⟩;obtain ⟨B,hB⟩:∃ B,w.heap.size=B:=⟨_,rfl⟩
 have bG:=JY hB;rw[hB] at ay cW l1 l2 l3 |-;have r0:=(JZ ay.out.Pq 0).trans (show _=some (.slice a0 nd c0) from rfl);clear hsz fT aA hrow hm hb1 hB;go_wp2_with fail;clear r0;go_loopw [19] (fun t wr=>∃ (k:Nat) (E:VM Value),k<=nd/\t = .int .i64 (k:Int)/\Hid (SI B B mb pm fm #[.slice a0 nd c0, .slice a1 ng c1,v2] w E (D.take k) (G.take 0) wr)) (fun t _=>match t with | .int _ i=>nd-i.toNat | _=>0)
 case atStart=>exact ⟨0,[],Bs _,rfl,ay⟩
 case round =>
  clear ay;obtain ⟨k,E,hk,rfl,HI⟩:=hrel;by_cases hlt:k<nd
  · have b1:(k:Int)<(nd:Int):=by omega
    have yK:k<D.length:=by rw[dO.out];exact hlt
    have hkr:k<(Hv.K8 D).length:=by rw[zS.out];exact hlt
    obtain ⟨g,c,he,hgl,hcell⟩:=MV (Ky (by have:=H0.out;rw[zS.out] at this;rw[zS.out];exact this) (HI.out.K7.mono (by rw[bG.out];exact AC _)):wr.ownsRow B0 9 1 (.slice a0 nd c0) (Hv.K8 D).length ((Hv.K8 D).map Kl)) hkr;obtain ⟨rfl, -,rfl⟩:a0=some ⟨g,0,none⟩/\nd=(Hv.K8 D).length/\c0=c:=by cases he;exact ⟨rfl,rfl,rfl⟩
    obtain ⟨kk,d,mW⟩:∃ kk d,D[k]=(kk,d):=⟨_,_,rfl⟩
    have hget:Hv.get D kk=some d:=(Hv.get_some HD.out).2 (by rw[<- mW];exact B1 yK);obtain ⟨hnm,hpk,hst⟩:=HR.out kk d hget;have htx:(Hv.K8 D)[k]=d.text:=by simp only[Hv.K8,List.getElem_map];rw[mW]
    have yH:=kR.out _ (B1 hkr);rw[htx] at hcell yH;have hnone:=Hv.VO HD.out yK;have hput:=Hv.acV HD.out yK;rw[mW] at hnone hput;simp only at hnone hput;have AW:Hv.get E kk=none:=by
     cases e:Hv.get E kk with
     | none=>rfl
     | some v=>obtain ⟨d',hd',_⟩:=HI.out.pk.P8 kk v e;rw[hnone] at hd';cases hd'
    obtain ⟨x,nm,ve,st,ss⟩:=d;simp only at hnm hst hcell yH;subst hnm;subst hst;have hp:Kw.parse (short KH) x=some (nm,ve,st):=hpk;have jo:=JY hp;have hnl:nm.length<=2000:=(KZ hp).1;have HP:=JY (fun w hw=>yH w hw);rw[hp] at HP;have pS:=JY hput;clear mW hget hpk htx hnone hput hp he hkr yK yH;go_wp2_with fail;refine (HP.out wr HI.out.base).mono ?_;rintro e w2 ⟨sl,rfl,hown,hb2⟩;have aM:=JY (HI.out.below hb2);obtain ⟨p0,q0,e0⟩:=J4 (hown 0);obtain ⟨p1,q1,e1⟩:=J4 (hown 1);obtain ⟨p2,q2,e2⟩:=J4 (hown 2);obtain ⟨p3,q3,e3⟩:=J4 (hown 3);obtain ⟨p4,q4,e4⟩:=J4 (hown 4);obtain ⟨p5,q5,e5⟩:=J4 (hown 5);obtain ⟨p,hpp⟩:∃ p,Pk.mk x nm ve ⟨p0,(Ku st 0).1,q0⟩ ⟨p1,(Ku st 1).1,q1⟩ ⟨p2,(Ku st 2).1,q2⟩ ⟨p3,(Ku st 3).1,q3⟩ ⟨p4,(Ku st 4).1,q4⟩ ⟨p5,(Ku st 5).1,q5⟩ 2=p:=⟨_,rfl⟩
    have kY:Hid (Tp (RsN B mb pm fm w2.heap.size) w2 ⟨x,nm,ve,st,2⟩ p.val):=JY (by
     refine ⟨p,rfl,by rw[<- hpp],by rw[<- hpp],by rw[<- hpp],by rw[<- hpp],⟨by rw[<- hpp];exact jo.out,fun i => ?_⟩,fun i g hg => ?_⟩
     · have hi:=KL (hown i) (Bs _);rw[<- hpp]
       match i with
       | 0=>rw[e0] at hi;exact hi
       | 1=>rw[e1] at hi;exact hi
       | 2=>rw[e2] at hi;exact hi
       | 3=>rw[e3] at hi;exact hi
       | 4=>rw[e4] at hi;exact hi
       | 5=>rw[e5] at hi;exact hi
     · have hi:(sl i).ownBlock=some g:=by
        rw[<- hpp] at hg
        match i with
        | 0=>rw[e0];exact hg
        | 1=>rw[e1];exact hg
        | 2=>rw[e2];exact hg
        | 3=>rw[e3];exact hg
        | 4=>rw[e4];exact hg
        | 5=>rw[e5];exact hg
       have hl:=(hown i).lt g hi;have h1:=blt HI.out.La.blk;have h2:=HI.out.La.packs.lt;have h3:=HI.out.La.files.lt;have h4:=HI.out.ge;exact ⟨by omega,hl.2,by omega,by omega,by omega⟩)
    rw[e0,e1,e2,e3,e4,e5];unfold Kl;have aD:=JY hpp;have m0:=(JZ aM.out.La.blk 0).trans (show _=some (.map (some pm)) from rfl);have aY:=blt aM.out.La.blk;have hpl:=aM.out.La.packs.lt;have q9 : ¬ w2.heap.size=mb:=by omega
    have mY : ¬ mb=w2.heap.size:=by omega
    have hlk:∀ o:Obj,(w2.alloc o).cell? ⟨mb,0,none⟩=some (.map (some pm)):=fun o=>(Mv aY o).trans m0
    clear hown hb2 e0 e1 e2 e3 e4 e5 hpp HP HI;go_wp2_with fail;have bT:=AF w2 (.cells #[.string ⟨nm.toArray⟩, .string ⟨ve.toArray⟩, .slice p0 (Ku st 0).1 q0, .slice p1 (Ku st 1).1 q1, .slice p2 (Ku st 2).1 q2, .slice p3 (Ku st 3).1 q3, .slice p4 (Ku st 4).1 q4, .slice p5 (Ku st 5).1 q5] 167);have qL:=(AD w2.heap.size w2).alloc (AC _) (.cells #[.string ⟨nm.toArray⟩, .string ⟨ve.toArray⟩, .slice p0 (Ku st 0).1 q0, .slice p1 (Ku st 1).1 q1, .slice p2 (Ku st 2).1 q2, .slice p3 (Ku st 3).1 q3, .slice p4 (Ku st 4).1 q4, .slice p5 (Ku st 5).1 q5] 167);have dH:=JY (aM.out.below qL);have pQ:=JY ((kY.out.below qL).weak (N':=RsN B mb pm fm (w2.alloc (.cells #[.string ⟨nm.toArray⟩, .string ⟨ve.toArray⟩, .slice p0 (Ku st 0).1 q0, .slice p1 (Ku st 1).1 q1, .slice p2 (Ku st 2).1 q2, .slice p3 (Ku st 3).1 q3, .slice p4 (Ku st 4).1 q4, .slice p5 (Ku st 5).1 q5] 167)).heap.size) (fun g q=>⟨q.1,B3 q.2.1 qL.size,q.2.2⟩));obtain ⟨u,hu⟩:∃ u,w2.alloc (.cells #[.string ⟨nm.toArray⟩, .string ⟨ve.toArray⟩, .slice p0 (Ku st 0).1 q0, .slice p1 (Ku st 1).1 q1, .slice p2 (Ku st 2).1 q2, .slice p3 (Ku st 3).1 q3, .slice p4 (Ku st 4).1 q4, .slice p5 (Ku st 5).1 q5] 167)=u:=⟨_,rfl⟩
    have bw:w2.heap.size<u.heap.size:=by rw[<- hu];simp
    rw[hu] at bT dH pQ |-;obtain ⟨ab,hab⟩:∃ ab,w2.heap.size=ab:=⟨_,rfl⟩
    rw[hab] at bT bw q9 mY |-;clear hu qL aM kY m0 hlk hab aY hpl;have vd:Hv.has E nm=false:=by rw[Hv.J9,AW];rfl
    have iK:=dH.out.La.packs.drew.look_ok IS (KW _) nm (by unfold maxLen;omega);rw[AW,vd] at iK;simp only[FS] at iK;obtain ⟨Z,hZ⟩:∃ Z:Array Value,Z = #[.string ⟨#[]⟩, .string ⟨#[]⟩, .string ⟨#[]⟩, .slice none 0 0, .slice none 0 0, .slice none 0 0, .slice none 0 0, .slice none 0 0, .slice none 0 0, .int .i64 0]:=⟨_,rfl⟩
    have hlk2:=(dH.out.La.packs.alloc (.cells Z 169)).drew.look_ok IS (KW _) nm (by unfold maxLen;omega);rw[AW,vd] at hlk2;simp only[FS] at hlk2;subst hZ;have aY:=blt dH.out.La.blk;have k1:=(JZ bT 0).trans (show _=some (.string ⟨nm.toArray⟩) from rfl);have m1:=(JZ dH.out.La.blk 0).trans (show _=some (.map (some pm)) from rfl);have jB : ¬ u.heap.size=mb:=by omega
    have kF : ¬ mb=u.heap.size:=by omega
    have ro : ¬ u.heap.size=ab:=by omega
    have rq : ¬ ab=u.heap.size:=by omega
    go_region
    all_goals
     show _;clear iK hlk2 k1 m1 jB kF ro rq;have lw:=below_drewN ((AD u.heap.size u).alloc (AC _) (.cells #[.string ⟨#[]⟩, .string ⟨#[]⟩, .string ⟨#[]⟩, .slice none 0 0, .slice none 0 0, .slice none 0 0, .slice none 0 0, .slice none 0 0, .slice none 0 0, .int .i64 0] 169)) 1;have cQ:=JY (dH.out.below lw);have pR:=JY ((pQ.out.below lw).weak (N':=RsN B mb pm fm ((u.alloc (.cells #[.string ⟨#[]⟩, .string ⟨#[]⟩, .string ⟨#[]⟩, .slice none 0 0, .slice none 0 0, .slice none 0 0, .slice none 0 0, .slice none 0 0, .slice none 0 0, .int .i64 0] 169)).drewN 1).heap.size) (fun g q=>⟨q.1,B3 q.2.1 lw.size,q.2.2⟩));have aX:=(lw.block ab bw).trans bT;have hvs:ab<((u.alloc (.cells #[.string ⟨#[]⟩, .string ⟨#[]⟩, .string ⟨#[]⟩, .slice none 0 0, .slice none 0 0, .slice none 0 0, .slice none 0 0, .slice none 0 0, .slice none 0 0, .int .i64 0] 169)).drewN 1).heap.size:=B3 bw lw.size;obtain ⟨v,hv⟩:∃ v,(u.alloc (.cells #[.string ⟨#[]⟩, .string ⟨#[]⟩, .string ⟨#[]⟩, .slice none 0 0, .slice none 0 0, .slice none 0 0, .slice none 0 0, .slice none 0 0, .slice none 0 0, .int .i64 0] 169)).drew=v:=⟨_,rfl⟩
     replace hv:(u.alloc (.cells #[.string ⟨#[]⟩, .string ⟨#[]⟩, .string ⟨#[]⟩, .slice none 0 0, .slice none 0 0, .slice none 0 0, .slice none 0 0, .slice none 0 0, .slice none 0 0, .int .i64 0] 169)).drewN 1=v:=hv
     rw[hv] at cQ pR aX hvs
     replace hv:(u.alloc (.cells #[.string ⟨#[]⟩, .string ⟨#[]⟩, .string ⟨#[]⟩, .slice none 0 0, .slice none 0 0, .slice none 0 0, .slice none 0 0, .slice none 0 0, .slice none 0 0, .int .i64 0] 169)).drew=v:=hv
     rw[hv];clear hv lw dH pQ bT bw aY;go_wp2_with fail;have nX:E.length<maxLen:=by
      have h1:=cQ.out.pk.P8;exact alE cQ.out.La.packs.1 cQ.out.pk (by rw[DD];omega)
     obtain ⟨w',hrun,cB,ht⟩:=cQ.out.La.packs.drew.store IS nX nm (by unfold maxLen;omega) p.val;have HN:Hid (SI B B mb pm fm #[.slice (some ⟨g,0,none⟩) nd c0, .slice a1 ng c1,v2] w (Hv.put E nm p.val) (D.take (k+1)) (G.take 0) w'):=JY (by
      rw[<- pS.out];exact (cQ.out.below (w':=v.drew) (below_drewN (AD _ _) 1)).pack cW cB ht (pR.out.below (w':=v.drew) (below_drewN (AD _ _) 1)))
     rw[<- aD.out] at hrun;simp only[Pk.val,Pk.cells] at hrun;have k0:=(JZ aX 0).trans (show _=some (.string ⟨nm.toArray⟩) from rfl);have k1:=(JZ aX 1).trans (show _=some (.string ⟨ve.toArray⟩) from rfl);have k2:=(JZ aX 2).trans (show _=some (.slice p0 (Ku st 0).1 q0) from rfl);have k3:=(JZ aX 3).trans (show _=some (.slice p1 (Ku st 1).1 q1) from rfl);have k4:=(JZ aX 4).trans (show _=some (.slice p2 (Ku st 2).1 q2) from rfl);have k5:=(JZ aX 5).trans (show _=some (.slice p3 (Ku st 3).1 q3) from rfl);have k6:=(JZ aX 6).trans (show _=some (.slice p4 (Ku st 4).1 q4) from rfl);have k7:=(JZ aX 7).trans (show _=some (.slice p5 (Ku st 5).1 q5) from rfl);have m1:=(JZ cQ.out.La.blk 0).trans (show _=some (.map (some pm)) from rfl);have b2:IntKind.i64.wrap ((k:Int)+1)=(k:Int)+1:=by rw[De];omega
     clear cB ht cQ aX hvs pR nX;go_region
     all_goals go_wp2_with fail
     all_goals exact ⟨⟨k+1,_,by omega,by push_cast;rfl,HN⟩,by show nd-((k:Int)+1).toNat<nd-(k:Int).toNat;omega⟩
  · obtain rfl:k=nd:=by omega
    have b1 : ¬ (k:Int)<(k:Int):=by omega
    have ay:Hid (SI B B mb pm fm #[.slice a0 k c0, .slice a1 ng c1,v2] w E D (G.take 0) wr):=JY (by
     have h:=HI.out;rw[An (by rw[dO.out];exact AC _)] at h;exact h)
    have r1:=(JZ ay.out.Pq 1).trans (show _=some (.slice a1 ng c1) from rfl);clear HI hlt;go_wp2_with fail;clear r1;go_loopw [56] (fun t wr=>∃ (j:Nat),j<=ng/\t = .int .i64 (j:Int)/\Hid (SI B B mb pm fm #[.slice a0 k c0, .slice a1 ng c1,v2] w E D (G.take j) wr)) (fun t _=>match t with | .int _ i=>ng-i.toNat | _=>0)
    case atStart=>exact ⟨0,Bs _,rfl,ay⟩
    case round =>
     clear ay;obtain ⟨j,hj,rfl,HI⟩:=hrel;by_cases hlt:j<ng
     · have b2:(j:Int)<(ng:Int):=by omega
       have vR:j<G.length:=by rw[iR.out];exact hlt
       obtain ⟨g,c,he,hgl,hc1,hc2⟩:=OM (Ky (by have:=H1.out;rw[iR.out] at this;rw[iR.out];exact this) (HI.out.K7.mono (by rw[bG.out];exact AC _)):wr.ownsRow B0 117 2 (.slice a1 ng c1) G.length (G.flatMap Lj)) vR;obtain ⟨rfl, -,rfl⟩:a1=some ⟨g,0,none⟩/\ng=G.length/\c1=c:=by cases he;exact ⟨rfl,rfl,rfl⟩
       have hnone:=Hv.VO iP.out vR;have hput:=Hv.acV iP.out vR;obtain ⟨hvar,iZ⟩:=rT.out _ (B1 vR);obtain ⟨q,y,EL⟩:∃ q y,G[j]=(q,y):=⟨_,_,rfl⟩
       rw[EL] at hc1 hc2 hnone hput hvar iZ;simp only at hc1 hc2 hnone hput hvar iZ;have pS:=JY hput;have D4:Hv.get (Hv.Kk (G.take j)) q=none:=by rw[Hv.MJ,hnone];rfl
       have zu:=JY D4;have bT:=AF wr (.cells #[.string ⟨q.toArray⟩, .string ⟨y.toArray⟩] 117);have qL:=(AD wr.heap.size wr).alloc (AC _) (.cells #[.string ⟨q.toArray⟩, .string ⟨y.toArray⟩] 117);clear hput EL he vR hnone D4;go_wp2_with fail;have dH:=JY (HI.out.below qL);obtain ⟨u,hu⟩:∃ u,wr.alloc (.cells #[.string ⟨q.toArray⟩, .string ⟨y.toArray⟩] 117)=u:=⟨_,rfl⟩
       have bw:wr.heap.size<u.heap.size:=by rw[<- hu];simp
       have hme : ¬ wr.heap.size=mb:=by have:=blt HI.out.La.blk;omega
       rw[hu] at bT dH |-;obtain ⟨ab,hab⟩:∃ ab,wr.heap.size=ab:=⟨_,rfl⟩
       rw[hab] at bT bw hme |-;clear hu qL hab hc1 hc2 HI hgl;have vd:Hv.has (Hv.Kk (G.take j)) q=false:=by rw[Hv.J9,zu.out];rfl
       have iK:=dH.out.La.files.drew.look_ok Tryz.underlying152 (OB _) q (by unfold maxLen;omega);rw[zu.out,vd] at iK;simp only[FS] at iK;have hlk2:=(dH.out.La.files.alloc (.cells #[.string ⟨#[]⟩] 175)).drew.look_ok Tryz.underlying152 (OB _) q (by unfold maxLen;omega);rw[zu.out,vd] at hlk2;simp only[FS] at hlk2;have k1:=(JZ bT 0).trans (show _=some (.string ⟨q.toArray⟩) from rfl);have m1:=(JZ dH.out.La.blk 1).trans (show _=some (.map (some fm)) from rfl);have aY:=blt dH.out.La.blk;have jB : ¬ u.heap.size=mb:=by omega
       have kF : ¬ mb=u.heap.size:=by omega
       have ro : ¬ u.heap.size=ab:=by omega
       have rq : ¬ ab=u.heap.size:=by omega
       go_region
       all_goals
        show _;clear iK hlk2 k1 m1 jB kF ro rq;have lw:=below_drewN ((AD u.heap.size u).alloc (AC _) (.cells #[.string ⟨#[]⟩] 175)) 1;have cQ:=JY (dH.out.below lw);have aX:=(lw.block ab bw).trans bT
        replace cQ:Hid (SI B B mb pm fm #[.slice a0 k c0, .slice (some ⟨g,0,none⟩) ng c1,v2] w E D (G.take j) (u.alloc (.cells #[.string ⟨#[]⟩] 175)).drew):=cQ
        replace aX:(u.alloc (.cells #[.string ⟨#[]⟩] 175)).drew.heap[ab]? = some (.cells #[.string ⟨q.toArray⟩, .string ⟨y.toArray⟩] 117 (0,0)):=aX
        clear lw dH bT bw aY;have k0:(u.alloc (.cells #[.string ⟨#[]⟩] 175)).cell? ⟨ab,0,none⟩=some (.string ⟨q.toArray⟩):=(JZ (w:=u.alloc (.cells #[.string ⟨#[]⟩] 175)) aX 0).trans rfl;obtain ⟨mx,hmx⟩:=cQ.out.base.mx;have CY:=JY (ZJ q iZ mx (u.alloc (.cells #[.string ⟨#[]⟩] 175)).drew hmx);rw[hvar] at CY;clear hmx;go_wp2_with (go_at_call 165;refine CY.out.mono ?_;rintro e v2w ⟨rfl,kx⟩;have ct:=JY (cQ.out.below kx);have Ai:=JY ((kx.block ab (blt aX)).trans aX);clear kx)
        obtain ⟨w',hrun,cB,ht⟩:=ct.out.La.files.drew.store Tryz.underlying152 (by rw[Hv.Mh,DD];unfold maxLen;omega) q (by unfold maxLen;omega) (Hv.MO y);have HN:Hid (SI B B mb pm fm #[.slice a0 k c0, .slice (some ⟨g,0,none⟩) ng c1,v2] w E D (G.take (j+1)) w'):=JY (by
         refine (ct.out.below (w':=v2w.drew) (below_drewN (AD _ _) 1)).file cW ?_ ht;rw[<- pS.out,Hv.Ou (Hv.QA iP.out j)];exact cB)
        simp only[Hv.MO] at hrun;have k2:=(JZ Ai.out 0).trans (show _=some (.string ⟨q.toArray⟩) from rfl);have k3:=(JZ Ai.out 1).trans (show _=some (.string ⟨y.toArray⟩) from rfl);have m2:=(JZ ct.out.La.blk 1).trans (show _=some (.map (some fm)) from rfl);have b3:IntKind.i64.wrap ((j:Int)+1)=(j:Int)+1:=by rw[De];omega
        clear cB ht cQ aX ct Ai k0;go_region
        all_goals go_wp2_with fail
        all_goals exact ⟨⟨j+1,by omega,by push_cast;rfl,HN⟩,by show ng-((j:Int)+1).toNat<ng-(j:Int).toNat;omega⟩
     · obtain rfl:j=ng:=by omega
       have b2 : ¬ (j:Int)<(j:Int):=by omega
       go_wp2_with fail;have h:=HI.out;rw[An (by rw[iR.out];exact AC _)] at h;refine IH (v := .tuple #[.pointer (some ⟨mb,0,none⟩), .bool true]) (by simp[results,Tryz.results95,go_sem]) rfl ⟨mb,pm,fm,E,rfl,h.La,by rw[bG.out];exact h.pk,by rw[bG.out];exact h.ge.1,by rw[bG.out];exact h.ge.2.1,by rw[bG.out];exact h.ge.2.2,by rw[bG.out];exact h.K7⟩
end
section
open Go.RowKit
open Kw (St)
open Hv (S Dx VM)
variable {h:S}{D:VM Hv.PD}{G:VM S}{xs:List S}
structure Xk (C:Nat->Prop) (eb sb db n a b c:Nat) (h:S) (d:Dx) (w:World):Prop where
 Lu:Qq eb (.pointer (some ⟨sb,0,none⟩)) (.pointer none) (.slice none 0 0) (.map none) (.map none) (.int .i64 0) w
 st:KA sb db n a b c h w
 dk:Kq C db d w
 off : ¬ C eb /\ ¬ C sb
 ne:eb≠sb
 base:Base w
 low:12<=eb/\12<=sb/\∀ k,C k->12<=k
 frb:d.rb≠eb/\d.rb≠sb
theorem Xk.below{d:Dx}  (e:Xk C eb sb db n a b c h d w) (hb:Below w.heap.size w w'):Xk C eb sb db n a b c h d w' :=
 ⟨e.Lu.kept (hb.block eb (blt e.Lu)),e.st.below hb,e.dk.below hb,e.off,e.ne,e.base.below hb e.base.size,e.low,e.frb⟩
theorem Xk.join{d:Dx} {E:VM Value}    (e:Xk C eb sb db n a b c h d w) (hm:Kh mb pm fm E (Hv.Kk G) w) (hp:Ls N w D E) (hB:(∀ k,C k->k<B)/\d.rb<B/\eb<B/\sb<B) (hge:B<=mb/\B<=pm/\B<=fm) (hN:∀ g,N g->B<=g/\g<w.heap.size) :
 LJ C N eb sb mb pm fm db n a b c h d E D G (.slice none 0 0) (.map none) (.map none) 0 (w.setCell ⟨eb,1,none⟩ (.pointer (some ⟨mb,0,none⟩)))/\Kj w.heap.size (fun k=>k=eb) w (w.setCell ⟨eb,1,none⟩ (.pointer (some ⟨mb,0,none⟩))):=by
 obtain ⟨b1,b2,b3,b4⟩:=hB;obtain ⟨g1,g2,g3⟩:=hge;have hf:=(Kj.refl w.heap.size (fun k=>k=eb) w).setCell (p:=⟨eb,1,none⟩) (.inr rfl) (.pointer (some ⟨mb,0,none⟩));have hne:=e.ne;have hC:∀ k,B<=k -> ¬ C k:=fun k hk q=>by have:=b1 k q;omega
 have kE:=e.low;refine ⟨⟨AI _ eb 1 _ _ _ e.Lu,e.st.far hf (AC _) (fun q=>hne q.symm),hm.far hf (AC _) ⟨by omega,by omega,by omega⟩,hp.far hf (AC _) (fun g _ hg (q:g=eb)=>by have:=(hN g hg).1;omega),e.dk.far hf (AC _) (fun k hk (q:k=eb)=>hk.elim (fun hk=>e.off.1 (q▸hk)) (fun hk=>e.frb.1 (hk▸q))),⟨e.off.1,e.off.2,hC _ g1,hC _ g2,hC _ g3⟩,⟨hne,by omega,by omega,by omega,by omega,by omega,by omega⟩,fun g hg => ?_,e.base.far hf e.base.size (fun k (q:k=eb)=>by rw[q];exact kE.1),⟨kE.1,kE.2.1,by omega,by omega,kE.2.2⟩,⟨e.frb.1,e.frb.2,by omega,by omega⟩⟩,hf⟩;have:=hN g hg;exact ⟨by simpa using this.2,hC g this.1,by omega,by omega⟩
structure LP (D:VM Hv.PD) (G:VM S) (xs:List S):Prop where
 Mt:Hv.Ki D
 rdy:Rdy D
 dl:D.length<=12
 gs:Hv.Ki G
 gl:G.length<=16
 gp:∀ f∈G,(Wd.isVar f.1=true/\Hv.Plain f.1)/\f.1.length<=24/\f.2.length<=200
 xl:xs.length<=6/\∀ x∈xs,x.length<=100000
 len:(Hv.KU D G xs).length<=1000000
 easy:(∀ x∈Hv.K8 D,Pz x)/\Rl xs
theorem LP.text(h:LP D G xs):∀ x∈Hv.K8 D,x.length<=2000:=fun x hx=>by
 obtain ⟨p,hp,rfl⟩:=List.mem_map.1 hx;exact (Qi ((h.rdy p.1 p.2 ((Hv.get_some h.Mt).2 hp)).2.1)).1
theorem LP.ok(h:LP D G xs):ale (Hv.K8 D) G xs:=by
 have ht:=h.text;have hl:(Hv.K8 D).length=D.length:=by simp[Hv.K8]
 have h1:=h.dl;have h2:=h.gl;refine ⟨⟨by omega,fun x hx=>by have:=ht x hx;omega⟩,⟨by omega,fun f hf => ?_⟩,⟨by have:=h.xl.1;omega,h.xl.2⟩,fun f hf=>(h.gp f hf).1.2,?_⟩
 · have:=(h.gp f hf).2;omega
 · have:=h.len;rw[<- Hv.acY];show (Hv.KU D G xs).length<=_;omega
def alm (C:Nat->Prop) (eb sb db n a b c:Nat) (h:S) (d:Dx) (D:VM Hv.PD) (G:VM S) (w w':World):Prop:=∃ mb pm fm E N,LJ C N eb sb mb pm fm db n a b c h d E D G (.slice none 0 0) (.map none) (.map none) 0 w'/\w.heap.size<=mb/\w.heap.size<=pm/\w.heap.size<=fm/\(∀ g,N g->w.heap.size<=g)/\Kj w.heap.size (fun k=>k=eb) w w'
theorem Zi(eb sb db n a b c:Nat) (h:S) (d:Dx) (D:VM Hv.PD) (G:VM S) (hR:LP D G []) (w:World) (hp:Xk C eb sb db n a b c h d w) :
 Calls Tryz.prog 48 #[.pointer (some ⟨eb,0,none⟩), .agg #[.string ⟨(Hv.KU D G []).toArray⟩, .int .i64 0]] w fun e w'=>e = .returned (.bool true)/\alm C eb sb db n a b c h d D G w w':=by
 have hel:=blt hp.Lu;have HB:=JY (show (∀ k,C k->k<w.heap.size)/\d.rb<w.heap.size/\eb<w.heap.size/\sb<w.heap.size from ⟨hp.dk.lt,hp.dk.rb.2,hel,hp.st.lt⟩);have HP:=JY hp;have HR:=JY hR;have HD:=JY (fun w hb=>XI (Hv.K8 D) G [] hR.ok w hb);have hrow:=AF w (.cells #[.string ⟨(Hv.KU D G []).toArray⟩, .int .i64 0] 119);obtain ⟨x,hx⟩:∃ x,Hv.KU D G []=x:=⟨_,rfl⟩
 replace hx:Hv.NU (Hv.K8 D)++Hv.Ni G++Hv.NZ []=x:=hx
 rw[hx] at HD
 replace hx:Hv.KU D G []=x:=hx
 rw[hx] at hrow |-;have HC:=JY hrow;clear hp hrow hR hx;go_enter Tryz.func48,Tryz.ntmps48;go_wp2_with fail;have hb0:=(AD w.heap.size w).alloc (AC _) (.cells #[.string ⟨x.toArray⟩, .int .i64 0] 119);have hs0:(w.alloc (.cells #[.string ⟨x.toArray⟩, .int .i64 0] 119)).heap.size=w.heap.size+1:=by simp
 refine (HD.out _ (HP.out.base.below hb0 HP.out.base.size)).mono ?_;rintro e w1 ⟨sl,rfl,hown,hb1⟩;rw[hs0] at hown hb1;have fT:=hb0.trans (hb1.mono (by omega));have bB:=JY (HP.out.below fT);have ag:=JY fT;have cX:=JY ((hb1.block w.heap.size (by omega)).trans HC.out);obtain ⟨a0,c0,e0⟩:=J4 (hown 0);obtain ⟨a1,c1,e1⟩:=J4 (hown 1);obtain ⟨a2,c2,e2⟩:=J4 (hown 2);have pH:=JY (hown 0);have lZ:=JY (hown 1);rw[e0] at pH;rw[e1] at lZ;unfold RU;rw[e0,e1,e2];clear hb0 hb1 fT hown e0 e1 e2 HC HD;obtain ⟨nd,hnd⟩:∃ nd,(Oa (Hv.K8 D) G [] 0).1=nd:=⟨_,rfl⟩
 obtain ⟨ng,fV⟩:∃ ng,(Oa (Hv.K8 D) G [] 1).1=ng:=⟨_,rfl⟩
 rw[hnd,fV];rw[show (Oa (Hv.K8 D) G [] 2).1=0 from rfl];go_wp2_with fail;have hb2:=(AD w1.heap.size w1).alloc (AC _) (.cells #[.slice a0 nd c0, .slice a1 ng c1, .slice a2 0 c2] 109);have hrow2:=AF w1 (.cells #[.slice a0 nd c0, .slice a1 ng c1, .slice a2 0 c2] 109);obtain ⟨u,hu⟩:∃ u,w1.alloc (.cells #[.slice a0 nd c0, .slice a1 ng c1, .slice a2 0 c2] 109)=u:=⟨_,rfl⟩
 obtain ⟨rb,hrb⟩:∃ rb,w1.heap.size=rb:=⟨_,rfl⟩
 have hrl:w.heap.size<rb:=by have:=blt cX.out;omega
 rw[hu] at hb2 hrow2 |-;have bQ:=JY (bB.out.below hb2);have ah:=JY (ag.out.trans (hb2.mono ag.out.size));have bA:=JY ((hb2.block w.heap.size (blt cX.out)).trans cX.out);have iW:=JY (WA D G HR.out.easy.1 HR.out.Mt HR.out.rdy (by have:=HR.out.dl;omega) HR.out.gs (by have:=HR.out.gl;omega) (fun f hf=>⟨(HR.out.gp f hf).1.1,by have:=(HR.out.gp f hf).2.1;omega⟩) (.slice a0 (Oa (Hv.K8 D) G [] 0).1 c0) (.slice a1 (Oa (Hv.K8 D) G [] 1).1 c1) (.slice a2 0 c2) (w.heap.size+1) u bQ.out.base (Ky pH.out hb2) (Ky lZ.out hb2));rw[hnd,fV] at iW;rw[hrb] at hrow2 |-;clear hu hb2 hrb bB cX ag;go_wp2_with fail;refine iW.out.mono ?_;rintro e w3 ⟨mb,pm,fm,E,rfl,hm,hpk,l1,l2,l3,hb3⟩;have lF:=ah.out.size;have cK:=JY (bQ.out.below hb3);have av:=JY (ah.out.trans (hb3.mono lF));have hrow3:=(hb3.block rb (blt hrow2)).trans hrow2;have sw:=(hb3.block w.heap.size (blt bA.out)).trans bA.out;have r2:=(JZ hrow3 2).trans (show _=some (.slice a2 0 c2) from rfl);have k1:=(JZ sw 1).trans (show _=some (.int .i64 0) from rfl);have f1:=J2 cK.out.Lu 1;obtain ⟨e0,e1, -⟩:=cK.out.Lu.cells;have n1 : ¬ eb=rb:=by omega
 have n2 : ¬ eb=w.heap.size:=by omega
 have n3 : ¬ rb=eb:=by omega
 have n4 : ¬ w.heap.size=eb:=by omega
 have r2':(w3.setCell ⟨eb,1,none⟩ (.pointer (some ⟨mb,0,none⟩))).cell? ⟨rb,2,none⟩=some (.slice a2 0 c2):=(NC (BY _ _ _ _ n3) 2).trans r2;have k1':(w3.setCell ⟨eb,1,none⟩ (.pointer (some ⟨mb,0,none⟩))).cell? ⟨w.heap.size,1,none⟩=some (.int .i64 0):=(NC (BY _ _ _ _ n4) 1).trans k1;have HJ:=JY (cK.out.join hm hpk ⟨fun k q=>B3 (HB.out.1 k q) lF,B3 HB.out.2.1 lF,by omega,by have:=HB.out.2.2.2;omega⟩ ⟨l1,l2,l3⟩ (fun g q=>⟨q.1,q.2.1⟩));clear hm hpk hb3 bQ ah bA hrow2 hrow3 sw iW pH lZ;go_wp2_with fail;go_ret;refine ⟨rfl,mb,pm,fm,E,_,HJ.out.1,by omega,by omega,by omega,fun g q=>Bi lF q.1,?_⟩;exact ((Kj.refl w.heap.size (fun k=>k=eb) w).below av.out (AC _)).next HJ.out.2 av.out.size (fun _ _ q=>q)
end
end Go.Proofs.YtfhmaiicimdldaaGreatDoor
