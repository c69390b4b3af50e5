import Derived.Test.YtfhmaiicimdldaaGreatDoorFinJ15
set_option maxHeartbeats 4000000
set_option maxRecDepth 100000
namespace Go.Proofs.YtfhmaiicimdldaaGreatDoor
variable {w w' wr:World}{cv v wv:Value}{B L b e fm k mb pm:Nat}{N:Nat->Prop}
section
open Go.RowKit
open Kw (St ME)
open Hv (S Dk VM)
variable {wk xs:List S}{P:VM Value}{D:VM Hv.PD}{G:VM S}{cs:List ME}
theorem Reads.kept(h:Reads w v xs) (hs:w.heap.size<=w'.heap.size) (hb:∀ g,v.ownBlock=some g->w'.heap[g]? = w.heap[g]?):Reads w' v xs:=by
 rcases h with h | ⟨g,c,rfl,hg,hc⟩
 · exact .inl h
 · exact .inr ⟨g,c,rfl,by omega,fun j x hj=>(Be (a:=⟨g,j,none⟩) (hb g rfl)).trans (hc j x hj)⟩
theorem Reads.below(h:Reads w v xs) (hb:Below w.heap.size w w'):Reads w' v xs:=by
 rcases h with h | ⟨g,c,rfl,hg,hc⟩
 · exact .inl h
 · exact .inr ⟨g,c,rfl,by have:=hb.size;omega,fun j x hj=>(hb.cell (p:=⟨g,j,none⟩) hg).trans (hc j x hj)⟩
theorem Reads.turned(h:Reads w v xs) (hm:∀ cs t fz,w.heap[b]? ≠ some (.cells cs t fz)) (hf:Kj B (fun k=>k=b) w w') (hB:w.heap.size<=B):Reads w' v xs:=by
 rcases h with h | ⟨g,c,rfl,hg,hc⟩
 · exact .inl h
 · by_cases hx:xs=[]
   · subst hx;exact .inl ⟨rfl,_,_,rfl⟩
   · refine .inr ⟨g,c,rfl,by have:=hf.size;omega,fun j x hj=>(Be (a:=⟨g,j,none⟩) (hf.block g (by omega) fun e => ?_)).trans (hc j x hj)⟩;have e2:g=b:=e;subst e2;have hc2:=hc j x hj;unfold World.cell? at hc2;cases q:w.heap[g]? with
     | none=>simp[q] at hc2
     | some o =>
       cases o with
       | cells cs t fz=>exact hm cs t fz q
       | _=>simp[q] at hc2
theorem Yp(h:w.ownsRow B 9 1 v xs.length (xs.map Kl)):Reads w v xs:=by
 obtain ⟨a,c,rfl⟩:=J4 h;by_cases hx:xs=[]
 · subst hx;exact .inl ⟨rfl,_,_,rfl⟩
 · obtain ⟨g,c',e⟩:=Kt h (List.length_pos_iff.2 hx);cases e;refine .inr ⟨g,c,rfl,(h.lt g rfl).2,fun j x hj => ?_⟩;obtain ⟨hl,rfl⟩:=List.getElem?_eq_some_iff.1 hj;obtain ⟨g2,c2,e2,_,q⟩:=MV h hl;cases e2;exact q
theorem akb(mb pm fm:Nat) (P:VM Value) (G:VM S) (x y z:S) (hx:x.length<=maxLen) (hG:G.length<maxLen) (wv:Value) (wk:List S) (hwn:wk.length<=10000) (hwx:∀ x∈wk,x.length<=10000) (w:World) (h:Kh mb pm fm P (Hv.Kk G) w) (hr:Reads w wv wk) :
 Calls Tryz.prog 233 #[.pointer (some ⟨mb,0,none⟩), .agg #[.int .i64 5, .string ⟨x.toArray⟩, .string ⟨y.toArray⟩, .string ⟨z.toArray⟩],wv] w (Rk mb pm fm P (Hv.put G x (Lc wk)) w):=by
 have hrow:=AF w (.cells #[.int .i64 5, .string ⟨x.toArray⟩, .string ⟨y.toArray⟩, .string ⟨z.toArray⟩] 329);have aw:=JY (h.below ((AD w.heap.size w).alloc (AC _) (.cells #[.int .i64 5, .string ⟨x.toArray⟩, .string ⟨y.toArray⟩, .string ⟨z.toArray⟩] 329)));have cS:=JY (hr.below ((AD w.heap.size w).alloc (AC _) (.cells #[.int .i64 5, .string ⟨x.toArray⟩, .string ⟨y.toArray⟩, .string ⟨z.toArray⟩] 329)));have aV:=JY ((Kj.refl w.heap.size (fun q=>q=fm) w).alloc (AC _) (.cells #[.int .i64 5, .string ⟨x.toArray⟩, .string ⟨y.toArray⟩, .string ⟨z.toArray⟩] 329));have HG:=JY (Hv.KM h.files.1);have bw:(w.alloc (.cells #[.int .i64 5, .string ⟨x.toArray⟩, .string ⟨y.toArray⟩, .string ⟨z.toArray⟩] 329)).heap.size=w.heap.size+1:=by simp
 have aY:=blt h.blk;have hfl:=h.files.lt;have vL:=h.apart.2.1;obtain ⟨wa,wc,rfl, -⟩:=hr.form;have HX:=JY hwx;clear h hr hwx;go_enter Tryz.func233,Tryz.ntmps233;go_wp2_with fail;obtain ⟨u,hu⟩:∃ u,w.alloc (.cells #[.int .i64 5, .string ⟨x.toArray⟩, .string ⟨y.toArray⟩, .string ⟨z.toArray⟩] 329)=u:=⟨_,rfl⟩
 rw[hu] at hrow aw aV cS bw |-;clear hu;have xZ:=JY (fun w hw=>agI (.slice wa wk.length wc) wk hwn HX.out w hw);have eW:Hid (∀ t,Lc wk=t->Hv.put G x (Lc wk)=Hv.put G x t):=JY (fun t e=>by rw[e]);obtain ⟨l,hl⟩:∃ l,Lc wk=l:=⟨_,rfl⟩
 rw[hl] at xZ |-;clear hl eW;obtain ⟨w',hrun,cB,ht⟩:=aw.out.files.drew.store Tryz.underlying152 (by rw[Hv.Mh];exact hG) x hx (Hv.MO l);simp only[Hv.MO] at hrun;have hf:=Kv ht;have eY:Hid (Kh mb pm fm P (Hv.Kk (Hv.put G x l)) w'):=JY (by rw[Hv.Ou HG.out];exact (show Kh mb pm fm P (Hv.Kk G) u.drew from ⟨aw.out.blk,aw.out.packs.drew,aw.out.files.drew,aw.out.apart⟩).file cB ht);have gT:Hid (Kj w.heap.size (fun q=>q=fm) w w'):=JY (aV.out.drew.next hf (by simp;omega) (fun _ _ q=>q));have m1:=(JZ aw.out.blk 1).trans (show _=some (.map (some fm)) from rfl);have jF:=(JZ eY.out.blk 1).trans (show _=some (.map (some fm)) from rfl);obtain ⟨B,hB⟩:∃ B,w.heap.size=B:=⟨_,rfl⟩
 have bl:w'.heap[B]? = u.heap[B]? := hf.block B (by simp;omega) (by omega);rw[hB] at hrow |-;have c1:=(JZ hrow 1).trans (show _=some (.string ⟨x.toArray⟩) from rfl);have e1:=(JZ (bl.trans hrow) 1).trans (show _=some (.string ⟨x.toArray⟩) from rfl);clear cB ht hf hrow bl aw aV
 go_region_held3 (fun w'=>w'.cell? ⟨mb,1,none⟩=some (.map (some fm))/\w'.cell? ⟨B,1,none⟩=some (.string ⟨x.toArray⟩))
  (first | assumption | exact ⟨jF,e1⟩ | exact ⟨m1,c1⟩ | simp[go_sem, *])
  (first
   | (go_at_call 281;refine (xZ.out _ (show Reads u.drew _ _ from cS.out)).mono ?_;rintro e w3 ⟨rfl,rfl⟩))
 go_wp2_with fail
 go_end0
 exact ⟨_,rfl,eY.out,gT.out⟩
def Qe:Prop:=∀ (mb pm fm:Nat) (P:VM Value) (D:VM Hv.PD) (G:VM S) (N:Nat->Prop) (x:S),x.length<=24->P.length<=1000->∀ w,Kh mb pm fm P (Hv.Kk G) w->Ls N w D P ->
 Calls Tryz.prog 280 #[.pointer (some ⟨mb,0,none⟩), .string ⟨x.toArray⟩] w fun e w'=>e = .returned (.tuple #[Hv.MO ((Hv.findD D G x).getD []), .bool (Hv.findD D G x).isSome])/\Below w.heap.size w w'
def XD (D:VM Hv.PD) (G:VM S) (x z:S):VM S:=match Hv.findD D G z with
 | some t=>Hv.put G x t
 | none=>G
theorem aj8(DU:Qe) (mb pm fm:Nat) (P:VM Value) (D:VM Hv.PD) (N:Nat->Prop) (G:VM S) (x y z:S) (hx:x.length<=maxLen) (hz:z.length<=24) (mM:P.length<=1000) (hG:G.length<maxLen) (wa:Option Addr) (wn wc:Nat) (w:World) (h:Kh mb pm fm P (Hv.Kk G) w) (hP:Ls N w D P) :
 Calls Tryz.prog 233 #[.pointer (some ⟨mb,0,none⟩), .agg #[.int .i64 3, .string ⟨x.toArray⟩, .string ⟨y.toArray⟩, .string ⟨z.toArray⟩], .slice wa wn wc] w (Rk mb pm fm P (XD D G x z) w):=by
 have hb0:=(AD w.heap.size w).alloc (AC _) (.cells #[.int .i64 3, .string ⟨x.toArray⟩, .string ⟨y.toArray⟩, .string ⟨z.toArray⟩] 329);have hrow:=AF w (.cells #[.int .i64 3, .string ⟨x.toArray⟩, .string ⟨y.toArray⟩, .string ⟨z.toArray⟩] 329);have aw:=JY (h.below hb0);have cF:=JY (hP.below hb0);have aV:=JY ((Kj.refl w.heap.size (fun q=>q=fm) w).alloc (AC _) (.cells #[.int .i64 3, .string ⟨x.toArray⟩, .string ⟨y.toArray⟩, .string ⟨z.toArray⟩] 329));have HG:=JY (Hv.KM h.files.1);have bw:(w.alloc (.cells #[.int .i64 3, .string ⟨x.toArray⟩, .string ⟨y.toArray⟩, .string ⟨z.toArray⟩] 329)).heap.size=w.heap.size+1:=by simp
 have aY:=blt h.blk;have hfl:=h.files.lt;have vL:=h.apart.2.1;have Fp:=JY DU;clear h hP hb0 DU;go_enter Tryz.func233,Tryz.ntmps233;go_wp2_with fail;obtain ⟨u,hu⟩:∃ u,w.alloc (.cells #[.int .i64 3, .string ⟨x.toArray⟩, .string ⟨y.toArray⟩, .string ⟨z.toArray⟩] 329)=u:=⟨_,rfl⟩
 rw[hu] at hrow aw aV cF bw |-;clear hu;refine (Fp.out mb pm fm P D G N z hz mM u aw.out cF.out).mono ?_;rintro e w1 ⟨rfl,hb1⟩;have aA:=(hb1.block w.heap.size (by omega)).trans hrow;have aQ:=JY (aw.out.below hb1);have aO:=JY (aV.out.below hb1 (by omega));have hs1:=hb1.size;clear hb1 cF hrow;cases hq:Hv.findD D G z with
 | none =>
   have HE:Hid (XD D G x z=G):=JY (by unfold XD;rw[hq]);have hb2:=(AD w1.heap.size w1).alloc (AC _) (.cells #[.string ⟨#[]⟩] 175);have cI:=JY (aQ.out.below hb2);have bp:=JY (aO.out.below hb2 (by omega));simp only[Hv.MO,FS,Option.isSome_none];clear hb2;go_wp2_with fail
   go_end0
   rw[HE.out];exact ⟨_,rfl,cI.out,bp.out⟩
 | some t =>
   have HE:Hid (XD D G x z=Hv.put G x t):=JY (by unfold XD;rw[hq]);have hb2:=(AD w1.heap.size w1).alloc (AC _) (.cells #[.string ⟨t.toArray⟩] 175);have hrow2:=AF w1 (.cells #[.string ⟨t.toArray⟩] 175);have aA:=(hb2.block w.heap.size (by omega)).trans aA;have aQ:=JY (aQ.out.below hb2);have aO:=JY (aO.out.below hb2 (by omega));have hs2:(w1.alloc (.cells #[.string ⟨t.toArray⟩] 175)).heap.size=w1.heap.size+1:=by simp
   clear hb2;obtain ⟨C1,AP⟩:∃ C1,w1.heap.size=C1:=⟨_,rfl⟩
   simp only[Hv.MO,DE,Option.isSome_some];go_wp2_with fail;obtain ⟨w1',xu⟩:∃ u,w1.alloc (.cells #[.string ⟨t.toArray⟩] 175)=u:=⟨_,rfl⟩
   rw[xu] at hrow2 aA aQ aO hs2 |-;rw[AP] at hrow2 hs2 hs1;clear xu;have aS:=aQ.out.files;have m1:=(JZ aQ.out.blk 1).trans (show _=some (.map (some fm)) from rfl);have c1:=(JZ aA 1).trans (show _=some (.string ⟨x.toArray⟩) from rfl);obtain ⟨w',hrun,cB,ht⟩:=aQ.out.files.drew.store Tryz.underlying152 (by rw[Hv.Mh];exact hG) x hx (Hv.MO t);simp only[Hv.MO] at hrun;have hf:=Kv ht;have eY:Hid (Kh mb pm fm P (Hv.Kk (Hv.put G x t)) w'):=JY (by rw[Hv.Ou HG.out];exact (show Kh mb pm fm P (Hv.Kk G) w1'.drew from ⟨aQ.out.blk,aQ.out.packs.drew,aQ.out.files.drew,aQ.out.apart⟩).file cB ht);have gT:Hid (Kj w.heap.size (fun q=>q=fm) w w'):=JY (aO.out.drew.next hf (by simp;omega) (fun _ _ q=>q));have jF:=(JZ eY.out.blk 1).trans (show _=some (.map (some fm)) from rfl);obtain ⟨B,hB⟩:∃ B,w.heap.size=B:=⟨_,rfl⟩
   have bl:w'.heap[B]? = w1'.heap[B]? := hf.block B (by simp;omega) (by omega);have q1:=(JZ hrow2 0).trans (show _=some (.string ⟨t.toArray⟩) from rfl);have q2:=(JZ ((hf.block C1 (by simp;omega) (by omega)).trans hrow2) 0).trans (show _=some (.string ⟨t.toArray⟩) from rfl);rw[hB] at aA c1 |-;have e1:=(JZ (bl.trans aA) 1).trans (show _=some (.string ⟨x.toArray⟩) from rfl);clear cB ht hf aA hrow2 bl aw aV aS
   go_region_held3 (fun w'=>w'.cell? ⟨mb,1,none⟩=some (.map (some fm))/\w'.cell? ⟨B,1,none⟩=some (.string ⟨x.toArray⟩)/\w'.cell? ⟨C1,0,none⟩=some (.string ⟨t.toArray⟩))
    (first | assumption | exact ⟨jF,e1,q2⟩ | exact ⟨m1,c1,q1⟩ | simp[go_sem, *])
    (fail)
   go_wp2_with fail
   go_end0
   rw[HE.out];exact ⟨_,rfl,eY.out,gT.out⟩
def KX (cs:List ME):Prop:=∀ c∈cs,c.verb≠3
theorem Xa{c:ME} (h:Pg c):c.path.length<=24/\(c.verb=1\/c.verb=2->c.word.length<=16)/\(c.verb=3->c.frm.length<=24):=by
 have hv:∀ x:S,Wd.isVar x=true->x.length<=24:=fun x h=>Qy (by simp only[Wd.isVar,Bool.and_eq_true] at h;exact h.1)
 have hw:∀ x:S,Wd.isWord x=true->x.length<=16:=fun x h=>by simp only[Wd.isWord,Wd.Og,Bool.and_eq_true,decide_eq_true_eq] at h;omega
 rcases h with ⟨h1,h2,h3⟩ | ⟨h1,h2,h3⟩ | ⟨h1,h2⟩
 · exact ⟨hv _ h3,fun _=>hw _ h2,fun e=>by omega⟩
 · exact ⟨hv _ h3,fun e=>by omega,fun _=>Qy h2⟩
 · exact ⟨hv _ h2,fun e=>by omega,fun e=>by omega⟩
theorem alC(mb pm fm:Nat) (P:VM Value) (D:VM Hv.PD) (N:Nat->Prop) (G:VM S) (c:ME) (hc:Pg c) (cL:c.verb≠3\/Qe) (mM:P.length<=1000) (hG:G.length<maxLen) (hS:Hv.Short 100000000 G) (wv:Value) (wk:List S) (hwn:wk.length<=10000) (hwx:∀ x∈wk,x.length<=10000) (w:World) (h:Kh mb pm fm P (Hv.Kk G) w) (hP:Ls N w D P) (hr:Reads w wv wk) :
 Calls Tryz.prog 233 #[.pointer (some ⟨mb,0,none⟩), .agg #[.int .i64 c.verb, .string ⟨c.path.toArray⟩, .string ⟨c.word.toArray⟩, .string ⟨c.frm.toArray⟩],wv] w (Rk mb pm fm P (Hv.SL D wk G c) w):=by
 obtain ⟨l1,l2,l3⟩:=Xa hc;have hx:c.path.length<=maxLen:=by unfold maxLen;omega
 obtain ⟨wa,wc,e, -⟩:=hr.form;obtain ⟨v,x,y,z⟩:=c;simp only at l1 l2 l3 hx |-;have hv:v=1\/v=2\/v=3\/v=4\/v=5:=by
  rcases hc with ⟨h1,_⟩ | ⟨h1,_⟩ | ⟨h1,_⟩<;>simp only at h1<;>omega
 rcases hv with rfl | rfl | rfl | rfl | rfl
 · subst e;exact alD mb pm fm P G x y z hx hG wa _ wc w h
 · subst e;have e:Hv.SL D wk G ⟨2,x,y,z⟩=Hv.put G x ((Hv.get G x).getD []++y):=by simp[Hv.SL]
   rw[e];have hy:y.length<=1000000:=by have:=l2 (.inr rfl);omega
   cases hq:Hv.get G x with
   | none=>exact ab1 mb pm fm P G x y z hx hG hy hq wa _ wc w h
   | some t=>exact ab2 mb pm fm P G x y z hx hG hy t (hS _ _ hq) hq wa _ wc w h
 · subst e;have e:Hv.SL D wk G ⟨3,x,y,z⟩=XD D G x z:=by simp[Hv.SL,XD];rfl
   rw[e];exact aj8 (cL.resolve_left (by simp)) mb pm fm P D N G x y z hx (l3 rfl) mM hG wa _ wc w h hP
 · subst e;have e:Hv.SL D wk G ⟨4,x,y,z⟩=Hv.del G x:=by simp[Hv.SL]
   rw[e];exact aj9 mb pm fm P G x y z hx wa _ wc w h
 · have e:Hv.SL D wk G ⟨5,x,y,z⟩=Hv.put G x (Lc wk):=by simp[Hv.SL]
   rw[e];exact akb mb pm fm P G x y z hx hG wv wk hwn hwx w h hr
theorem aj1{l:List ME} (h:w.ownsRow B e 4 v l.length (l.flatMap Us))  (hk:k<l.length) :
 ∃ g c,v = .slice (some ⟨g,0,none⟩) l.length c/\g<w.heap.size/\w.cell? ⟨g,k*4,none⟩=some (.int .i64 l[k].verb)/\w.cell? ⟨g,k*4+1,none⟩=some (.string ⟨l[k].path.toArray⟩)/\w.cell? ⟨g,k*4+2,none⟩=some (.string ⟨l[k].word.toArray⟩)/\w.cell? ⟨g,k*4+3,none⟩=some (.string ⟨l[k].frm.toArray⟩):=by
 obtain ⟨g,cap,rfl⟩:=Kt h (by omega);have key:∀ (l:List ME) (k:Nat) (hk:k<l.length) (j:Nat),j<4->(l.flatMap Us)[k*4+j]? = (Us l[k])[j]? := by
  intro l
  induction l with
  | nil=>intro k hk;simp at hk
  | cons c l ih =>
    intro k hk j hj;rw[Fc];cases k with
    | zero=>rw[List.getElem?_append_left (by simp[Us];omega)];simp
    | succ k =>
      have hl:(Us c).length=4:=rfl;rw[Hc (by omega),hl,show (k+1)*4+j-4=k*4+j by omega];exact ih k (by simpa using hk) j hj
 refine ⟨g,cap,rfl,(h.lt g rfl).2,?_,?_,?_,?_⟩
 · rw[h.cellAt _ (by omega)];exact key l k hk 0 (by omega)
 · rw[h.cellAt _ (by omega)];exact key l k hk 1 (by omega)
 · rw[h.cellAt _ (by omega)];exact key l k hk 2 (by omega)
 · rw[h.cellAt _ (by omega)];exact key l k hk 3 (by omega)
theorem TR{b0 size n:Nat}  {xs:List Value} (h:w.ownsRow b0 e size v n xs) (hm:∀ cs t fz,w.heap[b]? ≠ some (.cells cs t fz)) (hf:Kj B (fun k=>k=b) w w') (hB:w.heap.size<=B):w'.ownsRow b0 e size v n xs:=by
 refine hf.own h hB fun g hg e' => ?_
 have e2:g=b:=e';subst e2;rcases h.2 with ⟨rfl,_⟩ | ⟨g',cap,cur,rfl,_,q2,_⟩
 · cases hg
 · cases hg;exact hm _ _ _ q2
structure RunIn (mb pm fm:Nat) (P:VM Value) (D:VM Hv.PD) (N:Nat->Prop) (G:VM S) (cv wv:Value) (cs:List ME) (wk:List S) (L:Nat) (w:World) (k:Nat) (wr:World):Prop where
 mac:Kh mb pm fm P (Hv.Kk (Hv.MG D wk G (cs.take k))) wr
 pk:Ls N wr D P
 rd:Reads wr wv wk
 row:wr.ownsRow 0 329 4 cv cs.length (cs.flatMap Us)
 short:Hv.Short (L+16*k) (Hv.MG D wk G (cs.take k))
 len:(Hv.MG D wk G (cs.take k)).length<=G.length+k
 far:Kj w.heap.size (fun q=>q=fm) w wr
theorem RunIn.below(h:RunIn mb pm fm P D N G cv wv cs wk L w k wr) (hb:Below wr.heap.size wr w'):RunIn mb pm fm P D N G cv wv cs wk L w k w' :=
 ⟨h.mac.below hb,h.pk.below hb,h.rd.below hb,Ky h.row hb,h.short,h.len,h.far.below hb h.far.size⟩
theorem RunIn.next(h:RunIn mb pm fm P D N G cv wv cs wk L w k wr) (hk:k<cs.length) (hc:cs[k].verb=1\/cs[k].verb=2->cs[k].word.length<=16) (hL:Hv.U6 L D) (hw:(Lc wk).length<=L)
 (hm:Kh mb pm fm P (Hv.Kk (Hv.SL D wk (Hv.MG D wk G (cs.take k)) cs[k])) w') (hf:Kj wr.heap.size (fun q=>q=fm) wr w'):RunIn mb pm fm P D N G cv wv cs wk L w (k+1) w':=by
 have e:Hv.MG D wk G (cs.take (k+1))=Hv.SL D wk (Hv.MG D wk G (cs.take k)) cs[k]:=by
  show List.foldl _ _ _=_;rw[AT hk,List.foldl_append];rfl
 have hn:=h.mac.files.MB;refine ⟨by rw[e];exact hm,h.pk.turned hn hf (AC _),h.rd.turned hn hf (AC _),TR h.row hn hf (AC _),?_,?_,h.far.next hf h.far.size (fun _ _ q=>q)⟩
 · rw[e];have hs:=Hv.KM h.mac.files.1;by_cases hv:cs[k].verb=1\/cs[k].verb=2
   · exact (Hv.Sq (L:=L+16*k) (fun p hp f hf=>by have:=hL p hp f hf;omega) h.short hs (by omega) (hc hv)).mono (by omega)
   · have e2:Hv.SL D wk (Hv.MG D wk G (cs.take k)) cs[k]=Hv.SL D wk (Hv.MG D wk G (cs.take k)) { cs[k] with word:=[] }:=by
      unfold Hv.SL;rw[Bm (fun q=>hv (.inl q)),Bm (fun q=>hv (.inr q)),Bm (fun q=>hv (.inl q)),Bm (fun q=>hv (.inr q))]
     rw[e2];exact (Hv.Sq (L:=L+16*k) (fun p hp f hf=>by have:=hL p hp f hf;omega) h.short hs (by omega) (by simp)).mono (by omega)
 · rw[e];have:=Hv.aj7 D wk (Hv.MG D wk G (cs.take k)) cs[k];have:=h.len;omega
theorem afF(mb pm fm:Nat) (P:VM Value) (D:VM Hv.PD) (N:Nat->Prop) (G:VM S) (cs:List ME) (hcs:∀ c∈cs,Pg c) (cL:KX cs\/Qe) (hcl:cs.length<=30) (mM:P.length<=1000) (hG:G.length<=1000) (L:Nat) (hL:L<=1000000) (DX:Hv.U6 L D) (hS:Hv.Short L G) (cv wv:Value) (wk:List S) (hwn:wk.length<=1000) (hwx:∀ x∈wk,x.length<=100) (rL:(Lc wk).length<=L) (w:World) (h:Kh mb pm fm P (Hv.Kk G) w) (hP:Ls N w D P) (hr:Reads w wv wk) (hcr:w.ownsRow 0 329 4 cv cs.length (cs.flatMap Us)) :
 Calls Tryz.prog 192 #[.pointer (some ⟨mb,0,none⟩),cv,wv] w (Rk mb pm fm P (Hv.MG D wk G cs) w):=by
 obtain ⟨wa,wc,rfl, -⟩:=hr.form;obtain ⟨ca,cc,rfl⟩:=J4 hcr;have ay:Hid (RunIn mb pm fm P D N G (.slice ca cs.length cc) (.slice wa wk.length wc) cs wk L w 0 w):=JY ⟨h,hP,hr,hcr,by simpa [Hv.MG] using hS,by simp[Hv.MG],Kj.refl _ _ _⟩;have bD:=JY hcs;have HX:=JY hwx;have zo:=JY DX;have oV:=JY cL;clear h hP hr hcr hcs hwx DX hS cL;obtain ⟨n,hn⟩:∃ n,cs.length=n:=⟨_,rfl⟩
 have HN:=JY hn;rw[hn] at hcl ay |-;clear hn;go_enter Tryz.func192,Tryz.ntmps192;go_wp2_with fail;go_loopw [10] (fun i wr=>∃ k:Nat,k<=n/\i = .int .i64 (k:Int)/\Hid (RunIn mb pm fm P D N G (.slice ca n cc) (.slice wa wk.length wc) cs wk L w k wr)) (fun i _=>n-(intOf i).toNat)
 case atStart=>exact ⟨0,Bs _,rfl,ay⟩
 case round =>
  clear ay;obtain ⟨k,hk,rfl,HI⟩:=hrel;by_cases hlt:k<n
  · have b1:(k:Int)<(n:Int):=by omega
    have hnF:n=cs.length:=HN.out.symm;have hkl:k<cs.length:=by omega
    obtain ⟨g,c',hv2,hg,q1,q2,q3,q4⟩:=aj1 (by have:=HI.out.row;exact this) hkl;obtain rfl:ca=some ⟨g,0,none⟩:=(DS hv2).1;have cr:=bD.out _ (B1 hkl);have cL:cs[k].verb≠3\/Qe:=oV.out.imp (fun h=>h _ (B1 hkl)) id;obtain ⟨c,hc⟩:∃ c,cs[k]=c:=⟨_,rfl⟩
    have s8:=JY hc;rw[hc] at q1 q2 q3 q4 cr cL;have hsl:(Hv.MG D wk G (cs.take k)).length<maxLen:=by have:=HI.out.len;unfold maxLen;omega
    have HD:=JY (fun w' (h:RunIn mb pm fm P D N G (.slice (some ⟨g,0,none⟩) n cc) (.slice wa wk.length wc) cs wk L w k w')=>alC mb pm fm P D N (Hv.MG D wk G (cs.take k)) c cr cL mM hsl (h.short.mono (by omega)) (.slice wa wk.length wc) wk (by omega) (fun x hx=>by have:=HX.out x hx;omega) w' h.mac h.pk h.rd);have cY:=JY (Xa cr).2.1;clear hc hv2 cr cL hnF;obtain ⟨cv,cp,cw,cf⟩:=c;simp only at q1 q2 q3 q4 HD;go_wp2_with fail;have aM:=JY (HI.out.below ((AD _ _).alloc (AC _) (.cells #[.int .i64 cv, .string ⟨cp.toArray⟩, .string ⟨cw.toArray⟩, .string ⟨cf.toArray⟩] 329)));refine (HD.out _ aM.out).mono ?_;rintro e w2 ⟨u,rfl,hm2,hf2⟩;have dH:Hid (RunIn mb pm fm P D N G (.slice (some ⟨g,0,none⟩) n cc) (.slice wa wk.length wc) cs wk L w (k+1) w2):=JY (aM.out.next hkl (by rw[s8.out];exact cY.out) zo.out rL (by rw[s8.out];exact hm2) hf2);clear hm2 hf2;go_wp2_with fail;go_roundw
    case rel=>exact ⟨k+1,by omega,by go_num,dH⟩
    case measure=>simp[intOf];omega
  · obtain rfl:k=n:=by omega
    have b1 : ¬ (k:Int)<(k:Int):=by omega
    go_wp2_with fail
    go_end0
    have h:=HI.out.mac;rw[An (by have:=HN.out;omega)] at h;exact ⟨_,rfl,h,HI.out.far⟩
end
end Go.Proofs.YtfhmaiicimdldaaGreatDoor
