import Derived.Test.YtfhmaiicimdldaaGreatDoorFinJ13
set_option maxHeartbeats 4000000
set_option maxRecDepth 100000
namespace Go.Proofs.YtfhmaiicimdldaaGreatDoor
variable {A B L b cnt1 e g n nK s tm:Nat}{w w' wr:World}{v:Value}{xs:List Value}{C N N':Nat->Prop}
section
open Go.RowKit
open Kw (St)
open Hv (S Dk VM)
variable {D I:VM Hv.PD}{Q Q0 R:VM Value}{k:S}
structure ChR (D:VM Hv.PD) (R:VM Value) (left:S->Bool) (Q:VM Value):Prop where
 uni:OG Q
 has:∀ x,Hv.has Q x=true ↔ ∃ k,Hv.has R k=true/\left k=false/\x∈KE D k
theorem ChR.step{left:S->Bool} (h:ChR D R left Q) (hQ:Hv.Ki Q)  (hk:Hv.has R k=true):ChR D R (fun z=>left z && !(z==k)) (KN Q (KE D k)):=by
 refine ⟨NJ _ _ hQ h.uni,fun x => ?_⟩;rw[NG _ _ hQ,h.has];constructor
 · rintro (⟨k',a,b,c⟩ | a)
   · exact ⟨k',a,by simp[b],c⟩
   · exact ⟨k,hk,by simp,a⟩
 · rintro ⟨k',a,b,c⟩;by_cases e:k'=k
   · subst e;exact .inr c
   · exact .inl ⟨k',a,by simpa [e] using b,c⟩
theorem ChR.done{left:S->Bool} (h:ChR D R left Q) (hQ:Hv.Ki Q) (hl:∀ k,left k=false):Q=LX D R []:=by
 obtain ⟨a,b,c⟩:=OE D R [] IR (fun k v h=>by cases h);refine abn hQ a h.uni b fun x => ?_
 rw[h.has,c];constructor
 · rintro ⟨k,k1,_,k3⟩;obtain ⟨p,hp,e⟩:=List.any_eq_true.1 k1;simp only[beq_iff_eq] at e;exact .inr ⟨p,hp,by rw[e];exact k3⟩
 · rintro (q | ⟨p,hp,q⟩)
   · cases q
   · exact ⟨p.1,List.any_eq_true.2 ⟨p,hp,by simp⟩,hl _,q⟩
structure ChI (D I:VM Hv.PD) (Q0:VM Value) (left:S->Bool) (Q:VM Value):Prop where
 uni:OG Q
 has:∀ x,Hv.has Q x=true ↔ Hv.has Q0 x=true \/ ∃ k d,Hv.get I k=some d/\left k=false/\(x∈KE D k\/x∈d.paths)
theorem ChI.step{left:S->Bool} (h:ChI D I Q0 left Q) (hQ:Hv.Ki Q)  {d:Hv.PD} (hk:Hv.get I k=some d):ChI D I Q0 (fun z=>left z && !(z==k)) (KN (KN Q (KE D k)) d.paths):=by
 have h1:=PG (KE D k) Q hQ;refine ⟨NJ _ _ h1 (NJ _ _ hQ h.uni),fun x => ?_⟩;rw[NG _ _ h1,NG _ _ hQ,h.has];constructor
 · rintro (((a | ⟨k',d',a,b,c⟩) | a) | a)
   · exact .inl a
   · exact .inr ⟨k',d',a,by simp[b],c⟩
   · exact .inr ⟨k,d,hk,by simp, .inl a⟩
   · exact .inr ⟨k,d,hk,by simp, .inr a⟩
 · rintro (a | ⟨k',d',a,b,c⟩)
   · exact .inl (.inl (.inl a))
   · by_cases e:k'=k
     · subst e;rw[hk] at a;cases a;rcases c with c | c
       · exact .inl (.inr c)
       · exact .inr c
     · exact .inl (.inl (.inr ⟨k',d',a,by simpa [e] using b,c⟩))
theorem ChI.done{left:S->Bool} (h:ChI D I Q0 left Q) (hI:Hv.Ki I) (hQ:Hv.Ki Q) (h0:Hv.Ki Q0) (u0:OG Q0) (hl:∀ k,left k=false):Q=MI D I Q0:=by
 obtain ⟨a,b,c⟩:=OD D I Q0 h0 u0;refine abn hQ a h.uni b fun x => ?_
 rw[h.has,c];constructor
 · rintro (q | ⟨k,d,k1,_,k3⟩)
   · exact .inl q
   · exact .inr ⟨(k,d),(Hv.get_some hI).1 k1,k3⟩
 · rintro (q | ⟨p,hp,q⟩)
   · exact .inl q
   · exact .inr ⟨p.1,p.2,(Hv.get_some hI).2 hp,hl _,q⟩
end
section
open Kw (St ME)
open Hv (S VM)
namespace Hv
variable {G:VM S}{x:S}{D:VM PD}
def MO (x:S):Value := .agg #[.string ⟨x.toArray⟩]
def Kk (G:VM S):VM Value:=G.map fun p=>(p.1,MO p.2)
theorem Ov(h:Ki G):Ki (Kk G):=h.map MO
theorem Mh(G:VM S):(Kk G).length=G.length:=by simp[Kk]
theorem MJ(G:VM S) (k:S):get (Kk G) k=(get G k).map MO:=get_map G MO k
theorem KM(h:Ki (Kk G)):Ki G:=List.pairwise_map.1 h
theorem Ou(h:Ki G) (k x:S):Kk (put G k x)=put (Kk G) k (MO x):=by
 refine (Ov (h.put k x)).Lr ((Ov h).put k _) fun n => ?_
 rw[MJ];by_cases e:n=k
 · subst e;rw[Ka h,Ka (Ov h)];rfl
 · rw[J7 h _ e,J7 (Ov h) _ e,MJ]
theorem agu(h:Ki G) (k:S):Kk (del G k)=del (Kk G) k:=by
 refine (Ov (h.del k)).Lr ((Ov h).del k) fun n => ?_
 rw[MJ];by_cases e:n=k
 · subst e;rw[KQ,KQ];rfl
 · rw[Kz h e,Kz (Ov h) e,MJ]
def findD (D:VM PD) (G:VM S) (path:S):Option S :=
 if Wd.under path=true then get G path else D.reverse.findSome? fun p=>(p.2.st.files.find? fun f=>f.1==path).map (·.2)
def SL (D:VM PD) (wk:List S) (G:VM S) (c:ME):VM S :=
 if c.verb=1 then put G c.path c.word
 else if c.verb=2 then put G c.path ((get G c.path).getD []++c.word)
 else if c.verb=3 then (match findD D G c.frm with
  | some x=>put G c.path x
  | none=>G)
 else if c.verb=4 then del G c.path
 else if c.verb=5 then put G c.path (Lc wk)
 else G
def MG (D:VM PD) (wk:List S) (G:VM S) (cs:List ME):VM S:=cs.foldl (SL D wk) G
theorem aaM(D:VM PD) (wk:List S)  (h:Ki G) (c:ME):Ki (SL D wk G c):=by
 unfold SL
 repeat' split
 all_goals first | exact h.put _ _ | exact h.del _ | exact h
theorem aj7(D:VM PD) (wk:List S) (G:VM S) (c:ME):(SL D wk G c).length<=G.length+1:=by
 unfold SL
 repeat' split
 all_goals first | exact Mr _ _ _ | exact Nat.le_succ_of_le (aaL _ _) | omega
def Short (L:Nat) (G:VM S):Prop:=∀ k x,get G k=some x->x.length<=L
theorem Short.put(h:Short L G) (hs:Ki G) {k:S} (hx:x.length<=L):Short L (put G k x):=fun k' x' q=>by
 by_cases e:k'=k
 · subst e;rw[Ka hs] at q;cases q;exact hx
 · rw[J7 hs _ e] at q;exact h k' x' q
theorem Short.del(h:Short L G) (hs:Ki G) (k:S):Short L (del G k):=fun k' x' q=>by
 by_cases e:k'=k
 · subst e;rw[KQ] at q;cases q
 · rw[Kz hs e] at q;exact h k' x' q
theorem Short.mono{L':Nat}  (h:Short L G) (hl:L<=L'):Short L' G:=fun k x q=>Bi (h k x q) hl
def U6 (L:Nat) (D:VM PD):Prop:=∀ p∈D,∀ f∈p.2.st.files,f.2.length<=L
theorem acf(hD:U6 L D) (hG:Short L G) {path:S} (h:findD D G path=some x):x.length<=L:=by
 unfold findD at h;split at h
 · exact hG _ _ h
 · obtain ⟨p,hp,q⟩:=List.exists_of_findSome?_eq_some h;cases hf:p.2.st.files.find? fun f=>f.1==path with
   | none=>rw[hf] at q;cases q
   | some f =>
     rw[hf] at q;cases q;exact hD p (by simpa using hp) f (List.mem_of_find?_eq_some hf)
theorem Sq{wk:List S}  (hD:U6 L D) (hG:Short L G) (hs:Ki G) (hw:(Lc wk).length<=L) {c:ME} (hc:c.word.length<=16):Short (L+16) (SL D wk G c):=by
 have h16:=hG.mono (Nat.le_add_right L 16);unfold SL
 repeat' split
 · exact h16.put hs (by omega)
 · refine h16.put hs ?_;cases q:get G c.path with
   | none=>simp;omega
   | some x=>have:=hG _ _ q;simp;omega
 · next x hx=>exact h16.put hs (Bi (acf hD hG hx) (Nat.le_add_right L 16))
 · exact h16
 · exact h16.del hs _
 · exact h16.put hs (by omega)
 · exact h16
abbrev Step:=Int × S
structure Plan where
 steps:List Step
 ins:VM PD
 Le:VM (List S)
abbrev Mac:=VM PD × VM S
def Ke (pl:Plan) (m:Mac) (s:Step):Mac :=
 if s.1=1 then (del m.1 s.2,m.2)
 else if s.1=2 then (match get pl.ins s.2 with
  | some d=>(put m.1 s.2 d,m.2)
  | none=>m)
 else match get m.1 s.2 with
  | none=>m
  | some d =>
    if s.1=3 then (put m.1 s.2 (d.to (if has pl.Le s.2=true then 3 else 2)),MG m.1 [] m.2 d.st.runs)
    else if s.1=4 then (put m.1 s.2 (d.to 2),MG m.1 ((get pl.Le s.2).getD []) m.2 d.st.Kn)
    else m
def Tv (pl:Plan) (D:VM PD) (s:Step):Prop:=s.1=1\/(s.1=2/\has pl.ins s.2=true)\/((s.1=3\/s.1=4)/\has D s.2=true)
def Kc (pl:Plan) (m:Mac) (ss:List Step):Mac:=ss.foldl (Ke pl) m
theorem ag6(pl:Plan) (m:Mac) (ss:List Step) (s:Step):Kc pl m (ss++[s])=Ke pl (Kc pl m ss) s:=by simp[Kc]
theorem ac3(D:VM PD) (wk:List S):∀ (cs:List ME) {G:VM S},Ki G->Ki (MG D wk G cs)
 | [],_,h=>h
 | c::cs,_,h=>ac3 D wk cs (aaM D wk h c)
theorem LA(pl:Plan) {m:Mac} (h1:Ki m.1) (h2:Ki m.2) (s:Step):Ki (Ke pl m s).1/\Ki (Ke pl m s).2:=by
 unfold Ke
 repeat' split
 all_goals first | exact ⟨h1.del _,h2⟩ | exact ⟨h1.put _ _,h2⟩ | exact ⟨h1,h2⟩ | exact ⟨h1.put _ _,ac3 _ _ _ h2⟩
def NW (G:VM S):Bool:=decide (G.length<=16)&&G.all fun p=>decide (p.2.length<=200)
theorem RF(hs:Ki G) (h:NW G=true):G.length<=16/\Short 200 G:=by
 simp only[NW,Bool.and_eq_true,decide_eq_true_eq,List.all_eq_true] at h;exact ⟨h.1,fun k x q=>h.2 (k,x) ((get_some hs).1 q)⟩
def LZ (pl:Plan):Mac->List Step->Bool
 | _,[]=>false
 | m,s::ss => !NW (Ke pl m s).2||LZ pl (Ke pl m s) ss
end Hv
end
section
open Go.RowKit
open Kw (St ME)
open Hv (S VM)
variable {KD:VM (List S)}{K:VM Value}{k:S}{D:VM Hv.PD}{ch:List S}
theorem N7{B' e' s' n':Nat} {v':Value} {ys:List Value} (h:w.ownsRow B e s v n xs) (h':w.ownsRow B' e' s' v' n' ys) (hne:e≠e')  (hg:v.ownBlock=some g):v'.ownBlock≠some g:=by
 intro hg';rcases h.2 with ⟨rfl,_⟩ | ⟨g1,cap,cur,rfl,_,q,_⟩
 · cases hg
 · cases hg;rcases h'.2 with ⟨rfl,_⟩ | ⟨g2,cap',cur',rfl,_,q',_⟩
   · cases hg'
   · cases hg';rw[q] at q';cases q';exact hne rfl
def WkR (N:Nat->Prop) (w:World) (xs:List S) (v:Value):Prop:=w.ownsRow 0 9 1 v xs.length (xs.map Kl)/\∀ g,v.ownBlock=some g->N g
theorem WkR.weak{xs:List S}  (h:WkR N w xs v) (hn:∀ g,N g->N' g):WkR N' w xs v:=⟨h.1,fun g q=>hn g (h.2 g q)⟩
theorem WkR.kept{xs:List S}  (h:WkR N w xs v) (hv:∀ g,v.ownBlock=some g->w'.heap[g]? = w.heap[g]?):WkR N w' xs v:=⟨Kg h.1 hv,h.2⟩
theorem WkR.far{xs:List S}  (h:WkR N w xs v) (hf:Kj B C w w') (hB:w.heap.size<=B) (hC:∀ g,g<w.heap.size->N g -> ¬ C g):WkR N w' xs v :=
 h.kept fun g q=>hf.block g (by have:=h.1.lt g q;omega) (hC g (h.1.lt g q).2 (h.2 g q))
structure OV (N:Nat->Prop) (w:World) (KD:VM (List S)) (K:VM Value):Prop where
 Mt:Hv.Ki KD
 P8:∀ k v,Hv.get K k=some v->∃ xs,Hv.get KD k=some xs/\WkR N w xs v
 Vk:∀ k xs,Hv.get KD k=some xs->∃ v,Hv.get K k=some v/\WkR N w xs v
theorem OV.nil(N:Nat->Prop) (w:World):OV N w [] []:=⟨IR,fun k v h=>(by cases h),fun k v h=>(by cases h)⟩
theorem OV.weak(h:OV N w KD K) (hn:∀ g,N g->N' g):OV N' w KD K :=
 ⟨h.Mt,fun k v q=>(h.P8 k v q).imp fun _ a=>⟨a.1,a.2.weak hn⟩,fun k v q=>(h.Vk k v q).imp fun _ a=>⟨a.1,a.2.weak hn⟩⟩
theorem OV.kept(h:OV N w KD K) (hv:∀ k v g,Hv.get K k=some v->v.ownBlock=some g->w'.heap[g]? = w.heap[g]?):OV N w' KD K :=
 ⟨h.Mt,fun k v q=>(h.P8 k v q).imp fun _ a=>⟨a.1,a.2.kept (fun g=>hv k v g q)⟩,fun k xs q=>by
  obtain ⟨v,a,b⟩:=h.Vk k xs q;exact ⟨v,a,b.kept (fun g=>hv k v g a)⟩⟩
theorem OV.far(h:OV N w KD K) (hf:Kj B C w w') (hB:w.heap.size<=B) (hC:∀ g,g<w.heap.size->N g -> ¬ C g):OV N w' KD K :=
 ⟨h.Mt,fun k v q=>(h.P8 k v q).imp fun _ a=>⟨a.1,a.2.far hf hB hC⟩,fun k v q=>(h.Vk k v q).imp fun _ a=>⟨a.1,a.2.far hf hB hC⟩⟩
theorem OV.below(h:OV N w KD K) (hb:Below w.heap.size w w'):OV N w' KD K:=h.far (Kj.of (C:=fun _=>False) hb (AC _)) (AC _) (fun _ _ _ h=>h)
theorem OV.turned(h:OV N w KD K) (hm:∀ cs t fz,w.heap[b]? ≠ some (.cells cs t fz)) (hf:Kj B (fun k=>k=b) w w') (hB:w.heap.size<=B):OV N w' KD K :=
 h.kept fun k v g q hg=>by
  obtain ⟨xs,_,hr,_⟩:=h.P8 k v q;refine hf.block g (by have:=hr.lt g hg;omega) fun e => ?_
  have e':g=b:=e;rcases hr.2 with ⟨rfl,_⟩ | ⟨g',cap,cur,rfl,_,q2,_⟩
  · cases hg
  · cases hg;have e2:g'=b:=e';rw[e2] at q2;exact hm _ _ _ q2
theorem OV.has_eq(h:OV N w KD K) (k:S):Hv.has KD k=Hv.has K k:=by
 rw[Hv.J9,Hv.J9];cases q:Hv.get K k with
 | none =>
   cases q':Hv.get KD k with
   | none=>rfl
   | some xs=>obtain ⟨v,a,_⟩:=h.Vk k xs q';rw[q] at a;cases a
 | some v=>obtain ⟨xs,a,_⟩:=h.P8 k v q;rw[a];rfl
theorem OV.als(h:OV N w KD K):ajO K:=fun k v q=>by
 obtain ⟨xs,_,hr,_⟩:=h.P8 k v q;obtain ⟨a,c,e⟩:=J4 hr;exact ⟨a,_,c,e⟩
theorem OV.get_none(h:OV N w KD K)  (q:Hv.get K k=none):Hv.get KD k=none:=by
 cases q':Hv.get KD k with
 | none=>rfl
 | some xs=>obtain ⟨v,a,_⟩:=h.Vk k xs q';rw[q] at a;cases a
theorem OV.keys(h:OV N w KD K) (hK:Hv.Ki K):J3 K=J3 KD:=by
 have e:(K.map fun p=>(p.1,()))=KD.map fun p=>(p.1,()):=(hK.map fun _=>()).Lr (h.Mt.map fun _=>()) (fun k=>by
  rw[Hv.get_map K (fun _=>()),Hv.get_map KD (fun _=>())];cases q:Hv.get K k with
  | none=>rw[h.get_none q];rfl
  | some v=>obtain ⟨d,hd,_⟩:=h.P8 k v q;rw[hd];rfl)
 have:=IN (List.map (·.1)) e;simpa [J3,Hb,Function.comp_def] using this
def aaA (K:VM Value):Prop:=∀ k k' v v' g,k≠k'->Hv.get K k=some v->Hv.get K k'=some v'->v.ownBlock=some g->v'.ownBlock≠some g
theorem OV.app(h:OV N w KD K) (hK:Hv.Ki K) (ha:aaA K) (k x:S) (v':Value)
 (hr:w'.ownsRow 0 9 1 v' (((Hv.get KD k).getD []).length+1) ((((Hv.get KD k).getD []).map Kl)++[Kl x]))
 (hb:∀ g,g<w.heap.size->(∀ v,Hv.get K k=some v->v.ownBlock≠some g)->w'.heap[g]? = w.heap[g]?)
 (hn:∀ g,v'.ownBlock=some g->N g) (hv:v'.ownBlock=((Hv.get K k).getD (.slice none 0 0)).ownBlock \/ ∃ g,v'.ownBlock=some g/\w.heap.size<=g) :
 OV N w' (Hv.put KD k ((Hv.get KD k).getD []++[x])) (Hv.put K k v')/\aaA (Hv.put K k v'):=by
 have hold:∀ n u,n≠k->Hv.get K n=some u->∀ g,u.ownBlock=some g->w'.heap[g]? = w.heap[g]? := fun n u e q g hg=>by
  obtain ⟨xs,_,hr,_⟩:=h.P8 n u q;exact hb g (hr.lt g hg).2 (fun v hv=>ha n k u v g e q hv hg)
 refine ⟨⟨h.Mt.put k _,fun n u q => ?_,fun n xs q => ?_⟩,?_⟩
 · by_cases e:n=k
   · subst e;rw[Hv.Ka hK] at q;cases q;exact ⟨_,Hv.Ka h.Mt _ _,by simpa [WkR] using ⟨hr,hn⟩⟩
   · rw[Hv.J7 hK _ e] at q;rw[Hv.J7 h.Mt _ e];exact (h.P8 n u q).imp fun _ a=>⟨a.1,a.2.kept (hold n u e q)⟩
 · by_cases e:n=k
   · subst e;rw[Hv.Ka h.Mt] at q;cases q;exact ⟨_,Hv.Ka hK _ _,by simpa [WkR] using ⟨hr,hn⟩⟩
   · rw[Hv.J7 h.Mt _ e] at q;rw[Hv.J7 hK _ e];obtain ⟨v,a,b⟩:=h.Vk n xs q;exact ⟨v,a,b.kept (hold n v e a)⟩
 · have key:∀ n u g,n≠k->Hv.get K n=some u->u.ownBlock=some g->v'.ownBlock≠some g:=fun n u g e q hg hg'=>by
    rcases hv with hv | ⟨g',hv,hge⟩
    · cases hq:Hv.get K k with
      | none=>rw[hq] at hv;rw[hv] at hg';cases hg'
      | some z=>rw[hq] at hv;exact ha n k u z g e q hq hg (by rw[<- hg',hv];rfl)
    · rw[hv] at hg';cases hg';obtain ⟨xs,_,hr,_⟩:=h.P8 n u q;have:=(hr.lt _ hg).2;omega
   intro n n' u u' g e q q' hg;by_cases e1:n=k
   · subst e1;rw[Hv.Ka hK] at q;cases q;rw[Hv.J7 hK _ (fun e'=>e e'.symm)] at q';exact fun hg'=>key n' u' g (fun e'=>e e'.symm) q' hg' hg
   · rw[Hv.J7 hK _ e1] at q;by_cases e2:n'=k
     · subst e2;rw[Hv.Ka hK] at q';cases q';exact key n u g e1 q hg
     · rw[Hv.J7 hK _ e2] at q';exact ha n n' u u' g e q q' hg
def KR (d:Hv.PD) (ch:List S):List S:=ch.filter fun x=>d.st.wakes.any fun s=>Lib.hasPrefix x s
def LQ (D:VM Hv.PD) (ch:List S):VM (List S):=D.filterMap fun p=>if KR p.2 ch=[] then none else some (p.1,KR p.2 ch)
theorem aat(h:Hv.Ki D) (ch:List S):Hv.Ki (LQ D ch):=by
 unfold LQ Hv.Ki;rw[List.pairwise_filterMap];refine h.imp fun {a b} q x hx y hy => ?_
 split at hx
 · cases hx
 · split at hy
   · cases hy
   · cases hx;cases hy;exact q
theorem VR(h:Hv.Ki D) (ch:List S) (k:S):Hv.get (LQ D ch) k=(match Hv.get D k with
 | none=>none
 | some d=>if KR d ch=[] then none else some (KR d ch)):=by
 cases q:Hv.get D k with
 | none =>
   simp only;rw[Hv.get_none] at q |-;intro p hp;obtain ⟨a,ha,e⟩:=List.mem_filterMap.1 hp;split at e
   · cases e
   · cases e;exact q a ha
 | some d =>
   simp only;have hm:=(Hv.get_some h).1 q;by_cases e:KR d ch=[]
   · rw[By e,Hv.get_none];intro p hp ek;obtain ⟨a,ha,e2⟩:=List.mem_filterMap.1 hp;split at e2
     · cases e2
     · next hne =>
       cases e2;have:=h.key ha hm ek;rw[this] at hne;exact hne e
   · rw[Bm e,Hv.get_some (aat h ch)];exact List.mem_filterMap.2 ⟨(k,d),hm,by simp[e]⟩
def VY (D:VM Hv.PD) (ch:List S) (left:S->Bool) (KD:VM (List S)):Prop:=∀ k,Hv.get KD k=match Hv.get D k with
 | none=>none
 | some d=>if left k=true\/KR d ch=[] then none else some (KR d ch)
theorem VY.done{left:S->Bool}  (h:VY D ch left KD) (hD:Hv.Ki D) (hK:Hv.Ki KD) (hl:∀ k,left k=false):KD=LQ D ch :=
 hK.Lr (aat hD ch) fun k=>by
  rw[h k,VR hD];cases Hv.get D k with
  | none=>rfl
  | some d=>simp[hl k]
def NT (KD:VM (List S)) (k:S) (l:List S):VM (List S):=if l=[] then KD else Hv.put KD k l
theorem aeW(h:Hv.Ki KD)  (h0:Hv.get KD k=none) (l:List S):(Hv.get (NT KD k l) k).getD []=l:=by
 unfold NT;split
 · next e=>rw[h0,e];rfl
 · rw[Hv.Ka h];rfl
theorem adt(h:Hv.Ki KD) (k:S) (l:List S) (x:S):Hv.put (NT KD k l) k (l++[x])=NT KD k (l++[x]):=by
 have e:NT KD k (l++[x])=Hv.put KD k (l++[x]):=by unfold NT;rw[Bm (by simp)]
 rw[e];unfold NT;split
 · rfl
 · refine ((h.put _ _).put _ _).Lr (h.put _ _) fun n => ?_
   by_cases e:n=k
   · subst e;rw[Hv.Ka (h.put _ _),Hv.Ka h]
   · rw[Hv.J7 (h.put _ _) _ e,Hv.J7 h _ e,Hv.J7 h _ e]
theorem VY.step{left:S->Bool}  (h:VY D ch left KD) (hK:Hv.Ki KD)  {d:Hv.PD} (hd:Hv.get D k=some d) (hl:left k=true):VY D ch (fun z=>left z && !(z==k)) (NT KD k (KR d ch)):=fun n=>by
 by_cases e:n=k
 · subst e;rw[hd];have h0:=h n;rw[hd] at h0;simp only[hl,true_or,if_true] at h0;unfold NT;by_cases e2:KR d ch=[]
   · simp[e2,h0]
   · simp[e2,Hv.Ka hK]
 · have h0:=h n;have e3:(left n && !(n==k))=left n:=by simp[e]
   have e4:Hv.get (NT KD k (KR d ch)) n=Hv.get KD n:=by
    unfold NT;split
    · rfl
    · exact Hv.J7 hK _ e
   rw[e4,h0];simp only[e3]
theorem VY.fresh{left:S->Bool}  (h:VY D ch left KD)  (hl:left k=true):Hv.get KD k=none:=by
 rw[h k];cases Hv.get D k with
 | none=>rfl
 | some d=>simp[hl]
theorem aeX(KD:VM (List S)) (k:S) (l:List S):(NT KD k l).length<=KD.length+1:=by
 unfold NT;split
 · omega
 · exact Hv.Mr _ _ _
theorem WJ(d:Hv.PD) (ch:List S):(KR d ch).length<=ch.length:=List.length_filter_le _ _
theorem adu{d:Hv.PD}  {x:S} (h:x∈KR d ch):x∈ch:=(List.mem_filter.1 h).1
end
section
open Go.RowKit
open Kw (St)
open Hv (S Dk VM)
theorem akM(x s:S) (b:Nat) (w:World) (h:w.cell? ⟨b,0,none⟩=some (.string ⟨x.toArray⟩)) :
 Calls Tryz.prog 184 #[.string ⟨s.toArray⟩, .pointer (some ⟨b,0,none⟩)] w fun e w'=>e = .returned (.bool (Lib.hasPrefix x s))/\w'=w:=by
 have HC:=JY (fun w=>Tryz.strings_HasPrefix ⟨x.toArray⟩ ⟨s.toArray⟩ w);go_enter Tryz.func184,Tryz.ntmps184;go_wp2_with fail;refine (HC.out _).mono ?_;rintro e w1 ⟨rfl,rfl⟩;go_wp2_with fail;go_ret;exact ⟨rfl,rfl⟩
theorem ad7(F:List S) (hF:F.length<=2000) (x:S) (b:Nat) (base:Nat) (v:Value) (w:World) (hv:w.ownsRow base 9 1 v F.length (F.map Kl)) (h:w.cell? ⟨b,0,none⟩=some (.string ⟨x.toArray⟩)) :
 Calls Tryz.prog 188 #[v, .func (.func 184) #[] #[.pointer (some ⟨b,0,none⟩)]] w fun e w'=>∃ i:Int,e = .returned (.int .i64 i)/\decide (0<=i)=(F.any fun f=>Lib.hasPrefix x f)/\w'=w:=by
 obtain ⟨n,hn⟩:∃ n,F.length=n:=⟨_,rfl⟩
 rw[hn] at hv hF;have HN:=JY hn;obtain ⟨ao,c,rfl⟩:=J4 hv;clear hn;go_enter Tryz.func188,Tryz.ntmps188;go_wp2_with fail;go_loopw [8] (fun i wr=>∃ k:Nat,k<=n/\i = .int .i64 k/\Hid ((F.take k).any (fun f=>Lib.hasPrefix x f)=false)/\wr=w) (fun i _=>n-(intOf i).toNat)
 case atStart=>exact ⟨0,by omega,rfl,JY rfl,rfl⟩
 case round =>
  obtain ⟨k,hk,rfl,HA,rfl⟩:=hrel;by_cases hlt:k<n
  · have b1:(k:Int)<(n:Int):=by omega
    have hkl:k<F.length:=by rw[HN.out];exact hlt
    obtain ⟨g,c',hv2,hg,q1⟩:=MV (by rw[HN.out];exact hv) hkl;obtain rfl:ao=some ⟨g,0,none⟩:=(DS hv2).1;have hs:(F.take (k+1)).any (fun f=>Lib.hasPrefix x f)=Lib.hasPrefix x F[k]:=by
     rw[AT hkl,List.any_append,HA.out];simp
    have hin:Lib.hasPrefix x F[k]=true->(F.any fun f=>Lib.hasPrefix x f)=true:=fun e=>List.any_eq_true.2 ⟨F[k],B1 hkl,e⟩
    obtain ⟨y,hy⟩:∃ y,F[k]=y:=⟨_,rfl⟩
    rw[hy] at q1 hs hin;have HS:=JY hs;have zE:=JY hin;clear hs hin hv2 hy;go_wp2_with fail;refine (akM x y b _ h).mono ?_;rintro e w1 ⟨rfl,rfl⟩;cases he:Lib.hasPrefix x y
    · have bq:Hid ((F.take (k+1)).any (fun f=>Lib.hasPrefix x f)=false):=JY (by rw[HS.out,he]);go_wp2_with fail;go_roundw
      case rel=>exact ⟨k+1,by omega,by go_num,bq,by first | rfl | trivial⟩
      case measure=>simp[intOf];omega
    · have aM:=JY (zE.out he);go_wp2_with fail;go_ret;exact ⟨_,rfl,by rw[aM.out];simp,rfl⟩
  · obtain rfl:k=n:=by omega
    have kN:Hid ((F.any fun f=>Lib.hasPrefix x f)=false):=JY (by have:=HA.out;rwa [An (by rw[HN.out];exact AC _)] at this);have b1 : ¬ (k:Int)<(k:Int):=by omega
    go_wp2_with fail;go_ret;exact ⟨_,rfl,by rw[kN.out];rfl,rfl⟩
theorem Y4(F:List S) (hF:F.length<=2000) (x:S) (b:Nat) (base:Nat) (v:Value) (w:World) (hv:w.ownsRow base 9 1 v F.length (F.map Kl)) (h:w.cell? ⟨b,0,none⟩=some (.string ⟨x.toArray⟩)) :
 Calls Tryz.prog 183 #[v, .func (.func 184) #[] #[.pointer (some ⟨b,0,none⟩)]] w fun e w'=>e = .returned (.bool (F.any fun f=>Lib.hasPrefix x f))/\w'=w:=by
 have H:=JY (ad7 F hF x b base v w hv h);obtain ⟨ao,c,rfl⟩:=J4 hv;clear hv h;go_enter Tryz.func183,Tryz.ntmps183;go_wp2_with (go_at_call 188;refine H.out.mono ?_;rintro e w1 ⟨i,rfl,hi,rfl⟩)
 go_ret;exact ⟨by rw[<- hi];rfl,rfl⟩
end
section
open Go.RowKit
open Hv (S Dk VM)
def P6 (s:Hv.Step):List Value:=[.int .i64 s.1,Kl s.2]
theorem aiy:(Tryz.prog.info? 297).map (fun i=>(i.zero,i.size,i.bytes))=some (some (.agg #[.int .i64 0, .string ByteArray.empty]),2,24):=by kernel_rfl
theorem N8(h:w.ownsRow B e s v n xs) (hg:v.ownBlock=some g):∃ cs,w.heap[g]? = some (.cells cs e (0,0)):=by
 rcases h.2 with ⟨rfl,_⟩ | ⟨g1,cap,cur,rfl,_,q,_⟩
 · cases hg
 · cases hg;exact ⟨cur,q⟩
structure ahH (pb B0:Nat) (im km:Value) (k:Int) (so:Option Addr) (sc:Nat) (st:List Hv.Step) (xs:List S) (va:Option Addr) (vc:Nat) (w:World) (j:Nat) (eV:Option Addr) (sc':Nat) (wr:World):Prop where
 blk:wr.heap[pb]? = some (.cells #[.slice eV (st.length+j) sc',im,km] 100 (0,0))
 row:wr.ownsRow B0 297 2 (.slice eV (st.length+j) sc') (st.length+j) ((st++(xs.take j).map fun x=>(k,x)).flatMap P6)
 names:wr.ownsRow 0 9 1 (.slice va xs.length vc) xs.length (xs.map Kl)
 far:Kj w.heap.size (fun q=>q=pb\/(Value.slice so st.length sc).ownBlock=some q) w wr
 foot:∀ q,(Value.slice eV (st.length+j) sc').ownBlock=some q->(Value.slice so st.length sc).ownBlock=some q\/w.heap.size<=q
theorem WZ(pb B0:Nat) (hpb:pb<B0) (im km:Value) (k:Int) (so:Option Addr) (sc:Nat) (st:List Hv.Step) (xs:List S) (hroom:st.length+xs.length<=1000) (v:Value) (w:World)
 (hr:w.heap[pb]? = some (.cells #[.slice so st.length sc,im,km] 100 (0,0))) (ho:w.ownsRow B0 297 2 (.slice so st.length sc) st.length (st.flatMap P6)) (uV:B0<=w.heap.size)
 (hv:w.ownsRow 0 9 1 v xs.length (xs.map Kl)) :
 Calls Tryz.prog 133 #[.pointer (some ⟨pb,0,none⟩), .int .i64 k,v] w fun e w'=>∃ u eV sc',e = .returned u /\
  w'.heap[pb]? = some (.cells #[.slice eV (st++xs.map fun x=>(k,x)).length sc',im,km] 100 (0,0))/\w'.ownsRow B0 297 2 (.slice eV (st++xs.map fun x=>(k,x)).length sc') (st++xs.map fun x=>(k,x)).length ((st++xs.map fun x=>(k,x)).flatMap P6) /\
  Kj w.heap.size (fun q=>q=pb\/(Value.slice so st.length sc).ownBlock=some q) w w':=by
 obtain ⟨i0,hi,hz0,hz1,hz2⟩:=KJ aiy;obtain ⟨va,vc,rfl⟩:=J4 hv;have ay:Hid (ahH pb B0 im km k so sc st xs va vc w 0 so sc w):=JY ⟨hr,by simpa using ho,hv,Kj.refl _ _ _,fun q h => .inl h⟩;clear hv ho hr;obtain ⟨n,hn⟩:∃ n,xs.length=n:=⟨_,rfl⟩
 obtain ⟨m,hm⟩:∃ m,st.length=m:=⟨_,rfl⟩
 have HN:=JY hn;have jY:=JY hm;rw[hn,hm] at hroom;rw[hn];clear hn hm;go_enter Tryz.func133,Tryz.ntmps133;go_wp2_with fail;go_loopw [10] (fun i wr=>∃ (j:Nat) (eV:Option Addr) (sc':Nat),j<=n/\i = .int .i64 (j:Int)/\Hid (ahH pb B0 im km k so sc st xs va vc w j eV sc' wr)) (fun i _=>n-(intOf i).toNat)
 case atStart=>exact ⟨0,so,sc,Bs _,rfl,ay⟩
 case round =>
  clear ay;obtain ⟨j,eV,sc',hj,rfl,HI⟩:=hrel;by_cases hlt:j<n
  · have b1:(j:Int)<(n:Int):=by omega
    have hjl:j<xs.length:=by have:=HN.out;omega
    obtain ⟨g,c',hv2,hg,q1⟩:=MV HI.out.names hjl;obtain rfl:va=some ⟨g,0,none⟩:=(DS hv2).1;have hT:(st++(xs.take (j+1)).map fun x=>(k,x)).flatMap P6=((st++(xs.take j).map fun x=>(k,x)).flatMap P6)++[.int .i64 k, .string ⟨xs[j].toArray⟩]:=by
     rw[AT hjl,GB,<- FF,Do];rfl
    have HT:=JY hT;obtain ⟨x,hx⟩:∃ x,xs[j]=x:=⟨_,rfl⟩
    rw[hx] at q1 HT;obtain ⟨ys,hys⟩:∃ ys,(st++(xs.take j).map fun x=>(k,x)).flatMap P6=ys:=⟨_,rfl⟩
    have HO:=JY (show wr.ownsRow B0 297 2 (.slice eV (m+j) sc') (m+j) ys by rw[<- hys,<- jY.out];exact HI.out.row);have sS:=JY (show wr.heap[pb]? = some (.cells #[.slice eV (m+j) sc',im,km] 100 (0,0)) by rw[<- jY.out];exact HI.out.blk);have c0:=(JZ sS.out 0).trans (show _=some (.slice eV (m+j) sc') from rfl);have f0:=J2 sS.out 0;rw[hys] at HT;have hpl:=blt sS.out;have hgb:=HI.out.far.size;clear hv2 hT hx hys;go_wp2_with (first
     | (at_builtin;refine wpList_append_own_at _ rfl _ _ 96 rfl B0 297 i0 (.agg #[.int .i64 0, .string ByteArray.empty]) 2 24 Tryz.underlying96 hi hz0 hz1 hz2 rfl (by decide) _ _ _ rfl (HO.out.alloc _) ⟨wr.heap.size,0,none⟩ 1 1 [.int .i64 k, .string ⟨x.toArray⟩] rfl rfl (cell_two_new _ _ _ _) (fun x hx=>by simp at hx;rcases hx with rfl | rfl<;>rfl) (by unfold maxLen;omega) (by omega) (by simp;omega) ?_;intro v' w4 hown' KF Nj SQ;have A4:=JY SQ;obtain ⟨gv,cv,rfl⟩:=Kt hown' (by omega);have hk4:=(KF.block pb (by simp;omega) (fun e=>by have:=(HO.out.lt pb e.symm).1;omega)).trans ((AM _ _ _ (by show pb<wr.heap.size;omega)).trans sS.out);have q5:=(JZ hk4 0).trans (show _=some (.slice eV (m+j) sc') from rfl);have g5:=J2 hk4 0;have K4:=JY hk4;have O4:=JY hown';have G4:=JY KF;clear hown' KF Nj SQ hk4))
    have hs4:wr.heap.size+1<=w4.heap.size:=by have:=G4.out.size;simpa using this
    have Hf:=(O4.out.lt gv rfl).1;have aM:Hid (ahH pb B0 im km k so sc st xs (some ⟨g,0,none⟩) vc w (j+1) (some ⟨gv,0,none⟩) cv (w4.setCell ⟨pb,0,none⟩ (.slice (some ⟨gv,0,none⟩) (m+j+1) cv))):=JY (by
     have hm:=jY.out;have om:=HI.out.foot;have aS:Kj w.heap.size (fun q=>q=pb\/(Value.slice so st.length sc).ownBlock=some q) w w4:=(HI.out.far.alloc hgb _).grown G4.out (by simp;omega) (fun q hq=>by
      have hq:(Value.slice eV (m+j) sc').ownBlock=some q:=hq;rw[<- hm] at hq;rcases om q hq with h | h
      · exact .inr (.inr h)
      · exact .inl h)
     refine ⟨?_,?_,?_,aS.setCell (p:=⟨pb,0,none⟩) (.inr (.inl rfl)) _,?_⟩
     · rw[hm];exact AI _ pb 0 _ _ _ K4.out
     · rw[hm,HT.out];exact KT O4.out (fun e=>by have e2:gv=pb:=Cd e;omega)
     · refine KT (Kg HI.out.names fun g' hg' => ?_) (fun e => ?_)
       · cases hg';exact (G4.out.block g (by simp;omega) (fun e=>N7 HI.out.names HO.out (by decide) rfl e.symm)).trans (AM _ _ _ hg)
       · cases e;obtain ⟨cs,h⟩:=N8 HI.out.names rfl;rw[sS.out] at h;cases h
     · intro q hq;have e2:gv=q:=Cd hq;rcases A4.out with h | h
       · have h2:(Value.slice eV (m+j) sc').ownBlock=some q:=by rw[<- e2];exact h.symm
         rw[<- hm] at h2;exact om q h2
       · have h2:gv=(wr.alloc (.cells #[.int .i64 k, .string ⟨x.toArray⟩] 297)).heap.size:=Cd h;simp at h2;exact .inr (by omega))
    go_wp2_with fail;go_roundw
    case rel=>exact ⟨j+1,_,cv,by omega,by go_num,aM⟩
    case measure=>simp[intOf];omega
  · obtain rfl:j=n:=by omega
    have b1 : ¬ (j:Int)<(j:Int):=by omega
    go_wp2_with fail
    go_end0
    have h1:=HI.out.blk;have h2:=HI.out.row;have e:(st++xs.map fun x=>(k,x)).length=st.length+j:=by rw[AS,DH,HN.out]
    rw[An (by have:=HN.out;omega)] at h2;have hnn:=HN.out;simp only[Do] at h2
    first
     | exact ⟨⟨_,rfl⟩,eV,sc',h1,h2,HI.out.far⟩
     | exact ⟨⟨_,rfl⟩,eV,sc',by simpa [hnn] using h1,by simpa [hnn] using h2,HI.out.far⟩
end
section
open Go.RowKit
open Kw (St)
open Hv (S Dk VM)
variable {KD:VM (List S)}{E K:VM Value}{left':S->Bool}{k:S}{p:Pk}{l:List S}
structure ahR (B:Nat) (DT:VM Hv.PD) (ch:List S) (w:World) (left:S->Bool) (KD:VM (List S)) (K:VM Value) (wr:World):Prop where
 map:J6 wr B K
 wk:OV (fun g=>B<g) wr KD K
 ap:aaA K
 on:VY DT ch left KD
 far:Below B w wr
theorem OV.at_(h:OV N w KD K) (k:S):∃ a c,(Hv.get K k).getD (.slice none 0 0) = .slice a ((Hv.get KD k).getD []).length c/\w.ownsRow 0 9 1 (.slice a ((Hv.get KD k).getD []).length c) ((Hv.get KD k).getD []).length (((Hv.get KD k).getD []).map Kl)/\∀ g,(Value.slice a ((Hv.get KD k).getD []).length c).ownBlock=some g->N g:=by
 cases q:Hv.get K k with
 | none =>
   rw[h.get_none q];exact ⟨none,0,rfl,Cf _ _ _ _,fun g hg=>by cases hg⟩
 | some v =>
   obtain ⟨xs,hx,hr,hn⟩:=h.P8 k v q;rw[hx];obtain ⟨a,c,rfl⟩:=J4 hr;exact ⟨a,c,rfl,hr,hn⟩
theorem aa6(h:J6 w b E) (hr:w.ownsRow B e s v n xs) (hg:v.ownBlock=some b):False:=by
 obtain ⟨cs,q⟩:=N8 hr hg;exact h.MB _ _ _ q
theorem Zb{r cnt:Nat} {left:S->Bool}    (h:KO w b r E left cnt) (hr:w.ownsRow B e s v n xs) (hg:v.ownBlock=some r):False:=by
 obtain ⟨cs,q⟩:=N8 hr hg;exact h.MB _ _ _ q
theorem OJ{α β:Type} {E:VM α} {F:VM β} (h:J3 E=J3 F):E.length=F.length:=by
 have:=IN List.length h;simpa [J3] using this
structure WkJ (B A:Nat) (tm:Nat) (E:VM Value) (left':S->Bool) (cnt1:Nat) (KD:VM (List S)) (nK:Nat) (k:S) (p:Pk) (l:List S) (w:World) (K:VM Value) (wr:World):Prop where
 on:KO wr tm (B+1) E left' cnt1
 map:J6 wr B K
 wk:OV (fun g=>B<g) wr (NT KD k l) K
 ap:aaA K
 kd:KD.length<=nK
 row:wr.heap[A]? = some (.cells p.cells 169 (0,0))
 far:Below B w wr
theorem WkJ.below(h:WkJ B A tm E left' cnt1 KD nK k p l w K wr) (hb:Below wr.heap.size wr w') (hB:B<=wr.heap.size):WkJ B A tm E left' cnt1 KD nK k p l w K w' :=
 ⟨h.on.below hb,h.map.below hb,h.wk.below hb,h.ap,h.kd,(hb.block A (blt h.row)).trans h.row,h.far.trans (hb.mono hB)⟩
theorem WkJ.len(h:WkJ B A tm E left' cnt1 KD nK k p l w K wr):K.length<=nK+1:=by
 have h1:=OJ (h.wk.keys h.map.1);have h2:=aeX KD k l;have h3:=h.kd;omega
theorem abo(d:Hv.PD) (ch:List S) {j:Nat} (hj:j<ch.length):KR d (ch.take (j+1))=if (d.st.wakes.any fun s=>Lib.hasPrefix ch[j] s)=true then KR d (ch.take j)++[ch[j]] else KR d (ch.take j):=by
 unfold KR;rw[AT hj,Fs,List.filter_cons,List.filter_nil];split<;>simp
theorem aeY(tm:Nat) (E:VM Value) (DT:VM Hv.PD) (N:Nat->Prop) (ch:List S) (hch:ch.length<=1000) (ly:∀ x∈ch,x.length<=24) (hE:E.length<=1000) (v:Value) (w:World) (ht:J6 w tm E) (hP:Ls N w DT E) (hv:w.ownsRow 0 9 1 v ch.length (ch.map Kl)) :
 Calls Tryz.prog 129 #[.map (some tm),v] w fun e w'=>∃ K,e = .returned (.map (some w.heap.size))/\J6 w' w.heap.size K/\OV (fun g=>w.heap.size<g) w' (LQ DT ch) K/\Below w.heap.size w w':=by
 obtain ⟨i0,hi,hz0,hz1,hz2⟩:=KJ PS;have hmm := @run_makeMap Tryz.prog;obtain ⟨va,vc,rfl⟩:=J4 hv;have HT:=JY ht;have aD:=JY hP;have HV:=JY hv;have oW:=JY ly;have htl:=ht.lt;have hb1:=(AD w.heap.size w).alloc (AC _) (.map #[] 0);have fH:=J6.made w;have hs1:(w.alloc (.map #[] 0)).heap.size=w.heap.size+1:=by simp
 have ht1:=ht.below hb1;have aQ:=JY fH;have ag:=JY hb1;obtain ⟨n,hn⟩:∃ n,ch.length=n:=⟨_,rfl⟩
 have HN:=JY hn;rw[hn] at hch |-;clear ht hP hv ly fH hb1 hn;go_enter Tryz.func129,Tryz.ntmps129;go_wp2_with (first
  | (at_range;refine Mc rfl _ 97 rfl 169 IS ht1 rfl ?_;intro w0 hrg0 hg0 hs0;have aT:=JY hrg0;have aC:=JY (ag.out.grown hg0 ag.out.size (fun q hq=>by cases hq));have aw:=JY (aQ.out.kept (hg0.block _ aQ.out.lt (by simp)))))
 rw[hs1] at aT hs0 |-
 go_frame
 clear hg0 hrg0 ht1 hs1;obtain ⟨B,hB⟩:∃ B,w.heap.size=B:=⟨_,rfl⟩
 rw[hB] at htl hs0 aT aw aC |-;have bJ:=JY hB;have ay:Hid (ahR B DT ch w (Hv.has E) [] [] w0):=JY ⟨aw.out,OV.nil _ _,fun k k' v v' g _ h=>(by cases h),fun k=>by
  cases q:Hv.get DT k with
  | none=>rfl
  | some d=>simp only;rw[By (.inl (by rw[aD.out.has_eq,Hv.J9,q];rfl))];rfl,aC.out⟩
 clear aw aC aQ ag hB;go_loopw [13] (fun _ wr=>∃ (left:S->Bool) (cnt:Nat) (KD:VM (List S)) (K:VM Value),Hid (KO wr tm (B+1) E left cnt)/\Hid (ahR B DT ch w left KD K wr)/\K.length+cnt<=E.length/\B+1<wr.heap.size)
  (fun _ wr=>wr.rangeLeft tm (B+1))
 case atStart=>exact ⟨_,_,_,_,aT,ay,by simp,by omega⟩
 case round =>
  clear aT ay;obtain ⟨left,cnt,KD,K,HG,HI,hroom,hsz⟩:=hrel;go_wp2_with (first
   | (at_next;refine MW rfl _ rfl (B+1) left cnt rfl HG.out ?_ ?_))
  · intro hc0 hl0;have HE:=JY (HI.out.on.done aD.out.Mt HI.out.wk.Mt hl0);go_wp2_with fail;go_ret;have h:=HI.out.wk;rw[HE.out] at h;rw[bJ.out];exact ⟨K,rfl,HI.out.map,h,HI.out.far⟩
  · intro k v w4 cnt1 hk hlk hget hrg1 hlt hg1 hs1 hen;obtain ⟨d,hd,p,rfl,pr⟩:=aD.out.P8 k v hget;have nA:=JY hd;have hs4:w4.heap.size=wr.heap.size:=hs1;have aG:=(AD w4.heap.size w4).alloc (AC _) (.cells p.cells 169);have fQ:=JY (hrg1);have dJ:=HI.out.map.kept (hg1.block B HI.out.map.lt (by simp));have ou:=HG.out.MB;have eO:Kj wr.heap.size (fun q=>q=B+1) wr w4:=⟨hg1.os,hg1.tape,hg1.output,hg1.size,fun q hq hc=>hg1.block q hq (fun e=>hc (Cd e))⟩;have uO:=HI.out.wk.turned ou eO (AC _);have aB:=HI.out.far.trans (eO.toBelow (by omega) (fun q _ (e:q=B+1)=>by omega));have cQ:Hid (ahR B DT ch w left KD K w4):=JY ⟨dJ,uO,HI.out.ap,HI.out.on,aB⟩;have i6:=AF w4 (.cells p.cells 169);have dN:=JY (fQ.out.below aG);have ct:Hid (ahR B DT ch w left KD K (w4.alloc (.cells p.cells 169))):=JY ⟨dJ.below aG,uO.below aG,HI.out.ap,HI.out.on,aB.trans (aG.mono (by omega))⟩;have kY:=JY (show Tp N w d p.val from ⟨p,rfl,pr⟩);have eA:=JY i6;simp only[Pk.val,Pk.cells] at hen |-;simp only[Pk.cells] at dN ct;clear hrg1 hg1 hget pr hd aG dJ uO aB eO ou HI i6;obtain ⟨A,hA⟩:∃ A,w4.heap.size=A:=⟨_,rfl⟩
    have Jb:B+1<A:=by omega
    have Cv:(w4.alloc (.cells p.cells 169)).heap.size=A+1:=by simp[hA]
    have rS:=JY (cQ.out.on.fresh hlk);have HST:=JY (fun h=>cQ.out.on.step h nA.out hlk);have Ak:=JY cQ.out.wk.Mt;have Jv:K.length+1<=E.length+1-cnt1:=by omega
    have zG:Hid (WkJ B A tm E (fun z=>left z && !(z==k)) cnt1 KD K.length k p (KR d (ch.take 0)) w K (w4.alloc (.cells p.cells 169))):=JY
     ⟨dN.out,ct.out.map,(show OV (fun g=>B<g) _ KD K from ct.out.wk),ct.out.ap,Nat.le_of_eq (OJ (ct.out.wk.keys ct.out.map.1)).symm,by rw[<- hA];exact eA.out,ct.out.far⟩
    simp only[Pk.cells] at zG Cv;clear cQ ct dN eA fQ;have GG:wr.heap.size=A:=by omega
    have pC:=JY hlt;have pz:=JY HG.out.left_eq;clear hA;go_wp2_with fail;clear GG hs4;go_loopw [20] (fun i wr=>∃ (j:Nat) (K':VM Value),j<=n/\i = .int .i64 (j:Int)/\Hid (WkJ B A tm E (fun z=>left z && !(z==k)) cnt1 KD K.length k p (KR d (ch.take j)) w K' wr)/\A<wr.heap.size) (fun i _=>n-(intOf i).toNat)
    case atStart=>exact ⟨0,K,Bs _,rfl,zG,by omega⟩
    case round =>
     clear zG;obtain ⟨j,K',hj,rfl,HJ,Cx⟩:=hrel;by_cases hlj:j<n
     · have b1:(j:Int)<(n:Int):=by omega
       have hjl:j<ch.length:=by have:=HN.out;omega
       obtain ⟨g,c',hv2,hg,q1⟩:=MV (show w.ownsRow 0 9 1 (.slice va ch.length vc) ch.length (ch.map Kl) by rw[HN.out];have:=HV.out;rwa [HN.out] at this) hjl;obtain rfl:va=some ⟨g,0,none⟩:=(DS hv2).1;have hBw:w.heap.size=B:=bJ.out;have d1:=(HJ.out.far.cell (p:=⟨g,j,none⟩) (show g<B by omega)).trans q1;have CD:=oW.out _ (B1 hjl);have Ax:=JY (abo d ch hjl);obtain ⟨x,hx⟩:∃ x,ch[j]=x:=⟨_,rfl⟩
       rw[hx] at d1 CD Ax;have hrow:=HJ.out.row;have T:=Pk.at_ hrow;have aN:=(AD wr.heap.size wr).alloc (AC _) (.cells #[.string ⟨x.toArray⟩] 9);have dh:=JY (HJ.out.below aN (by omega));have k5:=(aN.cell (p:=⟨A,5,none⟩) (show A<wr.heap.size from Cx)).trans T.2.2.2.2.2.1;have AB:=JY (JZ (AF wr (.cells #[.string ⟨x.toArray⟩] 9)) 0);have GX:=kY.out.below (w':=wr.alloc (.cells #[.string ⟨x.toArray⟩] 9)) (by rw[hBw];exact dh.out.far);obtain ⟨p',hpe, -, -, -, -,hpk, -⟩:=GX;have bl:=hpk.rows 2;have hsl:(p'.sl 2) = .slice p.wakes.a p.wakes.n p.wakes.c:=by have:=IN (fun v=>match v with | .agg c=>c.getD 5 undef | _=>undef) hpe;exact this.symm
       have rL:d.st.wakes.length<=2000:=by have:=(KZ hpk.parse).2.2.1.2.2.1;omega
       rw[hsl] at bl;have Dt:=JY bl;clear hv2 q1 hx aN hpe hpk bl hsl T hrow;go_wp2_with fail;refine (Y4 d.st.wakes rL x wr.heap.size 0 (.slice p.wakes.a p.wakes.n p.wakes.c) _ Dt.out AB.out).mono ?_;rintro e w6 ⟨rfl,rfl⟩;cases hh:(d.st.wakes.any fun f=>Lib.hasPrefix x f)
       · have bh:Hid (KR d (ch.take (j+1))=KR d (ch.take j)):=JY (by rw[Ax.out,hh];rfl);go_wp2_with fail;go_roundw
         case rel=>exact ⟨j+1,K',by omega,by go_num,JY (by rw[bh.out];exact dh.out),by simp;omega⟩
         case measure=>simp[intOf];omega
       · have bh:Hid (KR d (ch.take (j+1))=KR d (ch.take j)++[x]):=JY (by rw[Ax.out,hh];rfl);obtain ⟨la,lc,hle,hlr,eP⟩:=dh.out.wk.at_ k;have eX:=JY (aeW Ak.out rS.out (KR d (ch.take j)));rw[eX.out] at hle hlr eP;obtain ⟨l,hl⟩:∃ l,KR d (ch.take j)=l:=⟨_,rfl⟩
         have hll:l.length<=1000:=by have:=WJ d (ch.take j);rw[hl,DD] at this;omega
         rw[hl] at hle hlr eP bh dh eX;have hmp:=dh.out.map;have pB:=JY hlr;have eH:=JY eP;have lW:=JY hle;have vT:k.length<=maxLen:=hk;have hkl:K'.length<maxLen:=by have:=dh.out.len;unfold maxLen;omega
         have hwz:(wr.alloc (.cells #[.string ⟨x.toArray⟩] 9)).heap.size=wr.heap.size+1:=by simp
         obtain ⟨u,hu⟩:∃ u,wr.alloc (.cells #[.string ⟨x.toArray⟩] 9)=u:=⟨_,rfl⟩
         have Ix:=AB.out;rw[hu] at hwz dh pB hmp Ix |-;have yr:=JY hwz;clear hlr eP hle hl hu k5 d1 Dt AB hwz;go_wp2_with (first
          | (at_lookup;refine Ol rfl _ _ 98 rfl 31 Tryz.underlying98 (SE _) hmp rfl k vT rfl ?_;rw[lW.out];go_frame)
          | (at_builtin; (refine wpList_append_own_at _ rfl _ _ 31 rfl 0 9 i0 (.string ByteArray.empty) 1 16 Tryz.underlying31 hi hz0 hz1 hz2 rfl (by decide) _ _ _ rfl (pB.out.alloc _) ⟨u.heap.size,0,none⟩ 1 1 [.string ⟨x.toArray⟩] rfl rfl (cell_one_new _ _ _) (fun x hx=>by simp at hx;subst hx;rfl) (by unfold maxLen;omega) (by omega) (Bs _) ?_);intro v' w8 hown' Li Qv WQ;obtain ⟨gv,cv,rfl⟩:=Kt hown' (by omega);have EA:=dh.out.map.kept ((Li.block B (by simp;have:=dh.out.map.lt;omega) (fun e=>by have:=eH.out B e.symm;omega)).trans (AM _ _ _ dh.out.map.lt));obtain ⟨w9,EM,yL,ES⟩:=EA.store Tryz.underlying98 hkl k vT (.slice (some ⟨gv,0,none⟩) (l.length+1) cv);have kW:=JY hown';have CU:=JY Li;have oL:=JY WQ;have FJ:=JY yL;have FZ:=JY ES;clear hown' Li Qv WQ EA yL ES))
         have kS:Kj u.heap.size (fun q=>(Value.slice la l.length lc).ownBlock=some q) u w8:=((Kj.refl _ _ u).alloc (AC _) _).grown CU.out (by simp) (fun q hq => .inr hq);have Cn:u.heap.size+1<=w8.heap.size:=by have:=CU.out.size;simpa using this
         have Bq:B<gv:=by
          rcases oL.out with h | h
          · exact eH.out gv h.symm
          · have h2:gv=(u.alloc (.cells #[.string ⟨x.toArray⟩] 9)).heap.size:=Cd h;simp at h2;have:=yr.out;omega
         obtain ⟨qH,vz⟩:=dh.out.wk.app dh.out.map.1 dh.out.ap k x (.slice (some ⟨gv,0,none⟩) (l.length+1) cv) (w':=w8) (by rw[eX.out];exact kW.out) (fun q hq hno=>kS.block q hq (fun e=>by
          cases vU:Hv.get K' k with
          | none =>
            have h:=lW.out;rw[vU] at h;have e2:la=none:=(DS h).1.symm;rw[e2] at e;cases e
          | some v =>
            have h:=lW.out;rw[vU] at h;exact hno v vU (by rw[show v=_ from h];exact e))) (fun q hq=>by cases hq;exact Bq) (by
          rcases oL.out with h | h
          · exact .inl (by rw[lW.out];exact h)
          · refine .inr ⟨gv,rfl,?_⟩;have h2:gv=(u.alloc (.cells #[.string ⟨x.toArray⟩] 9)).heap.size:=Cd h;simp at h2;omega)
         rw[eX.out,adt Ak.out] at qH;have lB:=Kv FZ.out;have ED:∀ cs t fz,w8.heap[B]? ≠ some (.cells cs t fz):=by
          have h:=dh.out.map.kept (w':=w8) (kS.block B dh.out.map.lt (fun e=>by have:=eH.out B e;omega));exact h.MB
         have yx:=dh.out.map.lt;have Jc:=blt dh.out.row;have JD:B<w8.heap.size:=by omega
         have Fy:Hid (WkJ B A tm E (fun z=>left z && !(z==k)) cnt1 KD K.length k p (KR d (ch.take (j+1))) w (Hv.put K' k (.slice (some ⟨gv,0,none⟩) (l.length+1) cv)) w9):=JY (by
          rw[bh.out];have BV:KO w8 tm (B+1) E (fun z=>left z && !(z==k)) cnt1:=dh.out.on.blocks (kS.block tm dh.out.on.lts.1 (fun e=>aa6 dh.out.on.map pB.out e)) (kS.block (B+1) dh.out.on.lts.2 (fun e=>Zb dh.out.on pB.out e));refine ⟨BV.far lB (AC _) (by omega) (by omega),FJ.out,qH.turned ED lB (AC _),vz,?_,?_,?_⟩
          · exact dh.out.kd
          · refine (lB.block A (by omega) (by omega)).trans ((kS.block A (blt dh.out.row) (fun e => ?_)).trans dh.out.row);obtain ⟨cs,h⟩:=N8 pB.out e;rw[dh.out.row] at h;cases h
          · exact (dh.out.far.trans (kS.toBelow (by omega) (fun q hq (e:(Value.slice la l.length lc).ownBlock=some q)=>by have:=eH.out q e;omega))).trans (lB.toBelow (by omega) (fun q hq (e:q=B)=>by omega)))
         have xj:=lB.size;have Iz:A<w9.heap.size:=by omega
         clear qH vz lB ED kS;go_roundw
         case rel=>exact ⟨j+1,_,by omega,by go_num,Fy,Iz⟩
         case measure=>simp[intOf];omega
     · obtain rfl:j=n:=by omega
       have b1 : ¬ (j:Int)<(j:Int):=by omega
       have iw:Hid (ahR B DT ch w (fun z=>left z && !(z==k)) (NT KD k (KR d ch)) K' wr):=JY (by
        have e:ch.take j=ch:=An (by have:=HN.out;omega);have h:=HJ.out;rw[e] at h;exact ⟨h.map,h.wk,h.ap,HST.out Ak.out,h.far⟩)
       have hlen:=HJ.out.len;go_wp2_with fail;go_roundw
       case rel=>exact ⟨_,cnt1,_,K',JY HJ.out.on,iw,by omega,by omega⟩
       case measure=>rw[HJ.out.on.left_eq,pz.out];exact pC.out
end
end Go.Proofs.YtfhmaiicimdldaaGreatDoor
