/- PlnW11, MchMath, WakMath, WakW1, AddW1, WakW2 -/
import Derived.Test.YtialenebfcnkkaaGreatDoorOrdJ20
import Derived.Test.YtialenebfcnkkaaGreatDoorOrdJ6
set_option maxHeartbeats 4000000
set_option maxRecDepth 100000
namespace Go.Proofs.YtialenebfcnkkaaGreatDoor
section
open Go.RowKit
open aH (St)
open Hv (S Dk VM)
structure ChR (D:VM Hv.PD) (R:VM Value) (left:S→Bool) (Q:VM Value):Prop where
 uni:ku Q
 has:∀ x,Hv.has Q x=true ↔ ∃ k,Hv.has R k=true∧left k=false∧x∈bg D k
theorem ChR.step {D:VM Hv.PD} {R Q:VM Value} {left:S→Bool} (h:ChR D R left Q) (hQ:Hv.aM Q) {k:S} (hk:Hv.has R k=true):ChR D R (fun z=>left z && !(z==k)) (bD Q (bg D k)):=by
 refine ⟨jf _ _ hQ h.uni,fun x => ?_⟩
 rw[jd _ _ hQ,h.has]
 constructor
 · rintro (⟨k',a,b,c⟩ | a)
   · exact ⟨k',a,by simp[b],c⟩
   · exact ⟨k,hk,by simp,a⟩
 · rintro ⟨k',a,b,c⟩
   by_cases e:k'=k
   · subst e;exact .inr c
   · exact .inl ⟨k',a,by simpa [e] using b,c⟩
theorem ChR.done {D:VM Hv.PD} {R Q:VM Value} {left:S→Bool} (h:ChR D R left Q) (hQ:Hv.aM Q) (hl:∀ k,left k=false):Q=dQ D R []:=by
 obtain ⟨a,b,c⟩:=j3 D R [] List.Pairwise.nil (fun k v h=>by cases h)
 refine Gc hQ a h.uni b fun x => ?_
 rw[h.has,c]
 constructor
 · rintro ⟨k,k1,_,k3⟩
   obtain ⟨p,hp,e⟩:=List.any_eq_true.1 k1
   simp only[beq_iff_eq] at e
   exact .inr ⟨p,hp,by rw[e];exact k3⟩
 · rintro (q | ⟨p,hp,q⟩)
   · cases q
   · exact ⟨p.1,List.any_eq_true.2 ⟨p,hp,by simp⟩,hl _,q⟩
structure ChI (D I:VM Hv.PD) (Q0:VM Value) (left:S→Bool) (Q:VM Value):Prop where
 uni:ku Q
 has:∀ x,Hv.has Q x=true ↔ Hv.has Q0 x=true ∨ ∃ k d,Hv.get I k=some d∧left k=false∧(x∈bg D k∨x∈d.paths)
theorem ChI.step {D I:VM Hv.PD} {Q0 Q:VM Value} {left:S→Bool} (h:ChI D I Q0 left Q) (hQ:Hv.aM Q) {k:S} {d:Hv.PD} (hk:Hv.get I k=some d):ChI D I Q0 (fun z=>left z && !(z==k)) (bD (bD Q (bg D k)) d.paths):=by
 have h1:=lM (bg D k) Q hQ
 refine ⟨jf _ _ h1 (jf _ _ hQ h.uni),fun x => ?_⟩
 rw[jd _ _ h1,jd _ _ hQ,h.has]
 constructor
 · rintro (((a | ⟨k',d',a,b,c⟩) | a) | a)
   · exact .inl a
   · exact .inr ⟨k',d',a,by simp[b],c⟩
   · exact .inr ⟨k,d,hk,by simp, .inl a⟩
   · exact .inr ⟨k,d,hk,by simp, .inr a⟩
 · rintro (a | ⟨k',d',a,b,c⟩)
   · exact .inl (.inl (.inl a))
   · by_cases e:k'=k
     · subst e
       rw[hk] at a;cases a
       rcases c with c | c
       · exact .inl (.inr c)
       · exact .inr c
     · exact .inl (.inl (.inr ⟨k',d',a,by simpa [e] using b,c⟩))
theorem ChI.done {D I:VM Hv.PD} {Q0 Q:VM Value} {left:S→Bool} (h:ChI D I Q0 left Q) (hI:Hv.aM I) (hQ:Hv.aM Q) (h0:Hv.aM Q0) (u0:ku Q0) (hl:∀ k,left k=false):Q=fO D I Q0:=by
 obtain ⟨a,b,c⟩:=jZ D I Q0 h0 u0
 refine Gc hQ a h.uni b fun x => ?_
 rw[h.has,c]
 constructor
 · rintro (q | ⟨k,d,k1,_,k3⟩)
   · exact .inl q
   · exact .inr ⟨(k,d),(Hv.get_some hI).1 k1,k3⟩
 · rintro (q | ⟨p,hp,q⟩)
   · exact .inl q
   · exact .inr ⟨p.1,p.2,(Hv.get_some hI).2 hp,hl _,q⟩
end
section
open aH (St gH)
open Hv (S VM)
namespace Hv
def gW (x:S):Value := .agg #[.string ⟨x.toArray⟩]
def aS (G:VM S):VM Value:=G.map fun p=>(p.1,gW p.2)
theorem jQ {G:VM S} (h:aM G):aM (aS G):=h.map gW
theorem fP (G:VM S):(aS G).length=G.length:=by simp[aS]
theorem gN (G:VM S) (k:S):get (aS G) k=(get G k).map gW:=get_map G gW k
theorem bq {G:VM S} (h:aM (aS G)):aM G:=List.pairwise_map.1 h
theorem lD {G:VM S} (h:aM G) (k x:S):aS (put G k x)=put (aS G) k (gW x):=by
 refine (jQ (h.put k x)).dD ((jQ h).put k _) fun n => ?_
 rw[gN]
 by_cases e:n=k
 · subst e;rw[aD h,aD (jQ h)];rfl
 · rw[av h _ e,av (jQ h) _ e,gN]
theorem OT {G:VM S} (h:aM G) (k:S):aS (del G k)=del (aS G) k:=by
 refine (jQ (h.del k)).dD ((jQ h).del k) fun n => ?_
 rw[gN]
 by_cases e:n=k
 · subst e;rw[bn,bn];rfl
 · rw[aV h e,aV (jQ h) e,gN]
def findD (D:VM PD) (G:VM S) (path:S):Option S :=
 if Wd.under path=true then get G path else D.reverse.findSome? fun p=>(p.2.st.files.find? fun f=>f.1==path).map (·.2)
def rV (D:VM PD) (wk:List S) (G:VM S) (c:gH):VM S :=
 if c.verb=1 then put G c.path c.word
 else if c.verb=2 then put G c.path ((get G c.path).getD []++c.word)
 else if c.verb=3 then (match findD D G c.ZC with
   | some x=>put G c.path x
   | none=>G)
 else if c.verb=4 then del G c.path
 else if c.verb=5 then put G c.path (bJ wk)
 else G
def fJ (D:VM PD) (wk:List S) (G:VM S) (cs:List gH):VM S:=cs.foldl (rV D wk) G
theorem Fq (D:VM PD) (wk:List S) {G:VM S} (h:aM G) (c:gH):aM (rV D wk G c):=by
 unfold rV
 repeat' split
 all_goals first | exact h.put _ _ | exact h.del _ | exact h
theorem V8 (D:VM PD) (wk:List S) (G:VM S) (c:gH):(rV D wk G c).length≤G.length+1:=by
 unfold rV
 repeat' split
 all_goals first | exact eZ _ _ _ | exact Nat.le_succ_of_le (Fh _ _) | omega
def Short (L:Nat) (G:VM S):Prop:=∀ k x,get G k=some x→x.length≤L
theorem Short.put {L:Nat} {G:VM S} (h:Short L G) (hs:aM G) {k x:S} (hx:x.length≤L):Short L (put G k x):=fun k' x' q=>by
 by_cases e:k'=k
 · subst e;rw[aD hs] at q;cases q;exact hx
 · rw[av hs _ e] at q;exact h k' x' q
theorem Short.del {L:Nat} {G:VM S} (h:Short L G) (hs:aM G) (k:S):Short L (del G k):=fun k' x' q=>by
 by_cases e:k'=k
 · subst e;rw[bn] at q;cases q
 · rw[aV hs e] at q;exact h k' x' q
theorem Short.mono {L L':Nat} {G:VM S} (h:Short L G) (hl:L≤L'):Short L' G:=fun k x q=>Nat.le_trans (h k x q) hl
def wM (L:Nat) (D:VM PD):Prop:=∀ p∈D,∀ f∈p.2.st.files,f.2.length≤L
theorem Ii {L:Nat} {D:VM PD} {G:VM S} (hD:wM L D) (hG:Short L G) {path x:S} (h:findD D G path=some x):x.length≤L:=by
 unfold findD at h
 split at h
 · exact hG _ _ h
 · obtain ⟨p,hp,q⟩:=List.exists_of_findSome?_eq_some h
   cases hf:p.2.st.files.find? fun f=>f.1==path with
   | none=>rw[hf] at q;cases q
   | some f =>
     rw[hf] at q
     cases q
     exact hD p (by simpa using hp) f (List.mem_of_find?_eq_some hf)
theorem qY {L:Nat} {D:VM PD} {wk:List S} {G:VM S} (hD:wM L D) (hG:Short L G) (hs:aM G) (hw:(bJ wk).length≤L) {c:gH} (hc:c.word.length≤16):Short (L+16) (rV D wk G c):=by
 have h16:=hG.mono (Nat.le_add_right L 16)
 unfold rV
 repeat' split
 · exact h16.put hs (by omega)
 · refine h16.put hs ?_
   cases q:get G c.path with
   | none=>simp;omega
   | some x=>have:=hG _ _ q;simp;omega
 · next x hx=>exact h16.put hs (Nat.le_trans (Ii hD hG hx) (Nat.le_add_right L 16))
 · exact h16
 · exact h16.del hs _
 · exact h16.put hs (by omega)
 · exact h16
abbrev Step:=Int × S
structure Plan where
 steps:List Step
 ins:VM PD
 cO:VM (List S)
abbrev Mac:=VM PD × VM S
def aG (pl:Plan) (m:Mac) (s:Step):Mac :=
 if s.1=1 then (del m.1 s.2,m.2)
 else if s.1=2 then (match get pl.ins s.2 with
   | some d=>(put m.1 s.2 d,m.2)
   | none=>m)
 else match get m.1 s.2 with
   | none=>m
   | some d =>
     if s.1=3 then (put m.1 s.2 (d.to (if has pl.cO s.2=true then 3 else 2)),fJ m.1 [] m.2 d.st.runs)
     else if s.1=4 then (put m.1 s.2 (d.to 2),fJ m.1 ((get pl.cO s.2).getD []) m.2 d.st.aL)
     else m
def tq (pl:Plan) (D:VM PD) (s:Step):Prop:=s.1=1∨(s.1=2∧has pl.ins s.2=true)∨((s.1=3∨s.1=4)∧has D s.2=true)
def aJ (pl:Plan) (m:Mac) (ss:List Step):Mac:=ss.foldl (aG pl) m
theorem Qh (pl:Plan) (m:Mac) (ss:List Step) (s:Step):aJ pl m (ss++[s])=aG pl (aJ pl m ss) s:=by simp[aJ]
theorem Jv (D:VM PD) (wk:List S):∀ (cs:List gH) {G:VM S},aM G→aM (fJ D wk G cs)
 | [],_,h=>h
 | c::cs,_,h=>Jv D wk cs (Fq D wk h c)
theorem dx (pl:Plan) {m:Mac} (h1:aM m.1) (h2:aM m.2) (s:Step):aM (aG pl m s).1∧aM (aG pl m s).2:=by
 unfold aG
 repeat' split
 all_goals first | exact ⟨h1.del _,h2⟩ | exact ⟨h1.put _ _,h2⟩ | exact ⟨h1,h2⟩ | exact ⟨h1.put _ _,Jv _ _ _ h2⟩
def iR (G:VM S):Bool:=decide (G.length≤16)&&G.all fun p=>decide (p.2.length≤200)
theorem yK {G:VM S} (hs:aM G) (h:iR G=true):G.length≤16∧Short 200 G:=by
 simp only[iR,Bool.and_eq_true,decide_eq_true_eq,List.all_eq_true] at h
 exact ⟨h.1,fun k x q=>h.2 (k,x) ((get_some hs).1 q)⟩
def dW (pl:Plan):Mac→List Step→Bool
 | _,[]=>false
 | m,s::ss => !iR (aG pl m s).2||dW pl (aG pl m s) ss
end Hv
end
section
open Go.RowKit
open aH (St gH)
open Hv (S VM)
theorem lH {w:World} {B B' e e' s s' n n':Nat} {v v':Value} {xs ys:List Value} (h:w.ownsRow B e s v n xs) (h':w.ownsRow B' e' s' v' n' ys) (hne:e≠e') {g:Nat} (hg:v.ownBlock=some g):v'.ownBlock≠some g:=by
 intro hg'
 rcases h.2 with ⟨rfl,_⟩ | ⟨g1,cap,cur,rfl,_,q,_⟩
 · cases hg
 · cases hg
   rcases h'.2 with ⟨rfl,_⟩ | ⟨g2,cap',cur',rfl,_,q',_⟩
   · cases hg'
   · cases hg'
     rw[q] at q'
     cases q'
     exact hne rfl
def Kq (N:Nat→Prop) (w:World) (xs:List S) (v:Value):Prop:=w.ownsRow 0 9 1 v xs.length (xs.map aO)∧∀ g,v.ownBlock=some g→N g
theorem Kq.weak {N N':Nat→Prop} {w:World} {xs:List S} {v:Value} (h:Kq N w xs v) (hn:∀ g,N g→N' g):Kq N' w xs v:=⟨h.1,fun g q=>hn g (h.2 g q)⟩
theorem Kq.kept {N:Nat→Prop} {w w':World} {xs:List S} {v:Value} (h:Kq N w xs v) (hv:∀ g,v.ownBlock=some g→w'.heap[g]? = w.heap[g]?):Kq N w' xs v:=⟨bR h.1 hv,h.2⟩
theorem Kq.far {N C:Nat→Prop} {w w':World} {B:Nat} {xs:List S} {v:Value} (h:Kq N w xs v) (hf:aQ B C w w') (hB:w.heap.size≤B) (hC:∀ g,g<w.heap.size→N g → ¬ C g):Kq N w' xs v :=
 h.kept fun g q=>hf.block g (by have:=h.1.lt g q;omega) (hC g (h.1.lt g q).2 (h.2 g q))
structure kL (N:Nat→Prop) (w:World) (KD:VM (List S)) (K:VM Value):Prop where
 dU:Hv.aM KD
 nD:∀ k v,Hv.get K k=some v→∃ xs,Hv.get KD k=some xs∧Kq N w xs v
 wZ:∀ k xs,Hv.get KD k=some xs→∃ v,Hv.get K k=some v∧Kq N w xs v
theorem kL.nil (N:Nat→Prop) (w:World):kL N w [] []:=⟨List.Pairwise.nil,fun k v h=>(by cases h),fun k v h=>(by cases h)⟩
theorem kL.weak {N N':Nat→Prop} {w:World} {KD:VM (List S)} {K:VM Value} (h:kL N w KD K) (hn:∀ g,N g→N' g):kL N' w KD K :=
 ⟨h.dU,fun k v q=>(h.nD k v q).imp fun _ a=>⟨a.1,a.2.weak hn⟩,fun k v q=>(h.wZ k v q).imp fun _ a=>⟨a.1,a.2.weak hn⟩⟩
theorem kL.kept {N:Nat→Prop} {w w':World} {KD:VM (List S)} {K:VM Value} (h:kL N w KD K) (hv:∀ k v g,Hv.get K k=some v→v.ownBlock=some g→w'.heap[g]? = w.heap[g]?):kL N w' KD K :=
 ⟨h.dU,fun k v q=>(h.nD k v q).imp fun _ a=>⟨a.1,a.2.kept (fun g=>hv k v g q)⟩,fun k xs q=>by
   obtain ⟨v,a,b⟩:=h.wZ k xs q
   exact ⟨v,a,b.kept (fun g=>hv k v g a)⟩⟩
theorem kL.far {N C:Nat→Prop} {w w':World} {B:Nat} {KD:VM (List S)} {K:VM Value} (h:kL N w KD K) (hf:aQ B C w w') (hB:w.heap.size≤B) (hC:∀ g,g<w.heap.size→N g → ¬ C g):kL N w' KD K :=
 ⟨h.dU,fun k v q=>(h.nD k v q).imp fun _ a=>⟨a.1,a.2.far hf hB hC⟩,fun k v q=>(h.wZ k v q).imp fun _ a=>⟨a.1,a.2.far hf hB hC⟩⟩
theorem kL.below {N:Nat→Prop} {w w':World} {KD:VM (List S)} {K:VM Value} (h:kL N w KD K) (hb:Below w.heap.size w w'):kL N w' KD K:=h.far (aQ.of (C:=fun _=>False) hb (Nat.le_refl _)) (Nat.le_refl _) (fun _ _ _ h=>h)
theorem kL.turned {N:Nat→Prop} {w w':World} {b B:Nat} {KD:VM (List S)} {K:VM Value} (h:kL N w KD K) (hm:∀ cs t fz,w.heap[b]? ≠ some (.cells cs t fz)) (hf:aQ B (fun k=>k=b) w w') (hB:w.heap.size≤B):kL N w' KD K :=
 h.kept fun k v g q hg=>by
   obtain ⟨xs,_,hr,_⟩:=h.nD k v q
   refine hf.block g (by have:=hr.lt g hg;omega) fun e => ?_
   have e':g=b:=e
   rcases hr.2 with ⟨rfl,_⟩ | ⟨g',cap,cur,rfl,_,q2,_⟩
   · cases hg
   · cases hg
     have e2:g'=b:=e'
     rw[e2] at q2
     exact hm _ _ _ q2
theorem kL.has_eq {N:Nat→Prop} {w:World} {KD:VM (List S)} {K:VM Value} (h:kL N w KD K) (k:S):Hv.has KD k=Hv.has K k:=by
 rw[Hv.aB,Hv.aB]
 cases q:Hv.get K k with
 | none =>
   cases q':Hv.get KD k with
   | none=>rfl
   | some xs=>obtain ⟨v,a,_⟩:=h.wZ k xs q';rw[q] at a;cases a
 | some v=>obtain ⟨xs,a,_⟩:=h.nD k v q;rw[a];rfl
theorem kL.Y8 {N:Nat→Prop} {w:World} {KD:VM (List S)} {K:VM Value} (h:kL N w KD K):VD K:=fun k v q=>by
 obtain ⟨xs,_,hr,_⟩:=h.nD k v q
 obtain ⟨a,c,e⟩:=slice_form hr
 exact ⟨a,_,c,e⟩
theorem kL.get_none {N:Nat→Prop} {w:World} {KD:VM (List S)} {K:VM Value} (h:kL N w KD K) {k:S} (q:Hv.get K k=none):Hv.get KD k=none:=by
 cases q':Hv.get KD k with
 | none=>rfl
 | some xs=>obtain ⟨v,a,_⟩:=h.wZ k xs q';rw[q] at a;cases a
theorem kL.keys {N:Nat→Prop} {w:World} {KD:VM (List S)} {K:VM Value} (h:kL N w KD K) (hK:Hv.aM K):keysOf K=keysOf KD:=by
 have e:(K.map fun p=>(p.1,()))=KD.map fun p=>(p.1,()):=(hK.map fun _=>()).dD (h.dU.map fun _=>()) (fun k=>by
   rw[Hv.get_map K (fun _=>()),Hv.get_map KD (fun _=>())]
   cases q:Hv.get K k with
   | none=>rw[h.get_none q];rfl
   | some v=>obtain ⟨d,hd,_⟩:=h.nD k v q;rw[hd];rfl)
 have:=congrArg (List.map (·.1)) e
 simpa [keysOf,List.map_map,Function.comp_def] using this
def EZ (K:VM Value):Prop:=∀ k k' v v' g,k≠k'→Hv.get K k=some v→Hv.get K k'=some v'→v.ownBlock=some g→v'.ownBlock≠some g
theorem kL.app {N:Nat→Prop} {w w':World} {KD:VM (List S)} {K:VM Value} (h:kL N w KD K) (hK:Hv.aM K) (ha:EZ K) (k x:S) (v':Value)
   (hr:w'.ownsRow 0 9 1 v' (((Hv.get KD k).getD []).length+1) ((((Hv.get KD k).getD []).map aO)++[aO x]))
   (hb:∀ g,g<w.heap.size→(∀ v,Hv.get K k=some v→v.ownBlock≠some g)→w'.heap[g]? = w.heap[g]?)
   (hn:∀ g,v'.ownBlock=some g→N g) (hv:v'.ownBlock=((Hv.get K k).getD (.slice none 0 0)).ownBlock ∨ ∃ g,v'.ownBlock=some g∧w.heap.size≤g) :
   kL N w' (Hv.put KD k ((Hv.get KD k).getD []++[x])) (Hv.put K k v')∧EZ (Hv.put K k v'):=by
 have hold:∀ n u,n≠k→Hv.get K n=some u→∀ g,u.ownBlock=some g→w'.heap[g]? = w.heap[g]? := fun n u e q g hg=>by
   obtain ⟨xs,_,hr,_⟩:=h.nD n u q
   exact hb g (hr.lt g hg).2 (fun v hv=>ha n k u v g e q hv hg)
 refine ⟨⟨h.dU.put k _,fun n u q => ?_,fun n xs q => ?_⟩,?_⟩
 · by_cases e:n=k
   · subst e
     rw[Hv.aD hK] at q;cases q
     exact ⟨_,Hv.aD h.dU _ _,by simpa [Kq] using ⟨hr,hn⟩⟩
   · rw[Hv.av hK _ e] at q
     rw[Hv.av h.dU _ e]
     exact (h.nD n u q).imp fun _ a=>⟨a.1,a.2.kept (hold n u e q)⟩
 · by_cases e:n=k
   · subst e
     rw[Hv.aD h.dU] at q;cases q
     exact ⟨_,Hv.aD hK _ _,by simpa [Kq] using ⟨hr,hn⟩⟩
   · rw[Hv.av h.dU _ e] at q
     rw[Hv.av hK _ e]
     obtain ⟨v,a,b⟩:=h.wZ n xs q
     exact ⟨v,a,b.kept (hold n v e a)⟩
 · have key:∀ n u g,n≠k→Hv.get K n=some u→u.ownBlock=some g→v'.ownBlock≠some g:=fun n u g e q hg hg'=>by
     rcases hv with hv | ⟨g',hv,hge⟩
     · cases hq:Hv.get K k with
       | none=>rw[hq] at hv;rw[hv] at hg';cases hg'
       | some z=>rw[hq] at hv;exact ha n k u z g e q hq hg (by rw[← hg',hv];rfl)
     · rw[hv] at hg';cases hg'
       obtain ⟨xs,_,hr,_⟩:=h.nD n u q
       have:=(hr.lt _ hg).2
       omega
   intro n n' u u' g e q q' hg
   by_cases e1:n=k
   · subst e1
     rw[Hv.aD hK] at q;cases q
     rw[Hv.av hK _ (fun e'=>e e'.symm)] at q'
     exact fun hg'=>key n' u' g (fun e'=>e e'.symm) q' hg' hg
   · rw[Hv.av hK _ e1] at q
     by_cases e2:n'=k
     · subst e2
       rw[Hv.aD hK] at q';cases q'
       exact key n u g e1 q hg
     · rw[Hv.av hK _ e2] at q'
       exact ha n n' u u' g e q q' hg
def wokenBy (d:Hv.PD) (ch:List S):List S:=ch.filter fun x=>d.st.wakes.any fun s=>Lib.hasPrefix x s
def dN (D:VM Hv.PD) (ch:List S):VM (List S):=D.filterMap fun p=>if wokenBy p.2 ch=[] then none else some (p.1,wokenBy p.2 ch)
theorem ES {D:VM Hv.PD} (h:Hv.aM D) (ch:List S):Hv.aM (dN D ch):=by
 unfold dN Hv.aM
 rw[List.pairwise_filterMap]
 refine h.imp fun {a b} q x hx y hy => ?_
 split at hx
 · cases hx
 · split at hy
   · cases hy
   · cases hx;cases hy;exact q
theorem xZ {D:VM Hv.PD} (h:Hv.aM D) (ch:List S) (k:S):Hv.get (dN D ch) k=(match Hv.get D k with
   | none=>none
   | some d=>if wokenBy d ch=[] then none else some (wokenBy d ch)):=by
 cases q:Hv.get D k with
 | none =>
   simp only
   rw[Hv.get_none] at q ⊢
   intro p hp
   obtain ⟨a,ha,e⟩:=List.mem_filterMap.1 hp
   split at e
   · cases e
   · cases e;exact q a ha
 | some d =>
   simp only
   have hm:=(Hv.get_some h).1 q
   by_cases e:wokenBy d ch=[]
   · rw[if_pos e,Hv.get_none]
     intro p hp ek
     obtain ⟨a,ha,e2⟩:=List.mem_filterMap.1 hp
     split at e2
     · cases e2
     · next hne =>
       cases e2
       have:=h.key ha hm ek
       rw[this] at hne
       exact hne e
   · rw[if_neg e,Hv.get_some (ES h ch)]
     exact List.mem_filterMap.2 ⟨(k,d),hm,by simp[e]⟩
def yx (D:VM Hv.PD) (ch:List S) (left:S→Bool) (KD:VM (List S)):Prop:=∀ k,Hv.get KD k=match Hv.get D k with
 | none=>none
 | some d=>if left k=true∨wokenBy d ch=[] then none else some (wokenBy d ch)
theorem yx.done {D:VM Hv.PD} {ch:List S} {left:S→Bool} {KD:VM (List S)} (h:yx D ch left KD) (hD:Hv.aM D) (hK:Hv.aM KD) (hl:∀ k,left k=false):KD=dN D ch :=
 hK.dD (ES hD ch) fun k=>by
   rw[h k,xZ hD]
   cases Hv.get D k with
   | none=>rfl
   | some d=>simp[hl k]
def jm (KD:VM (List S)) (k:S) (l:List S):VM (List S):=if l=[] then KD else Hv.put KD k l
theorem MC {KD:VM (List S)} (h:Hv.aM KD) {k:S} (h0:Hv.get KD k=none) (l:List S):(Hv.get (jm KD k l) k).getD []=l:=by
 unfold jm;split
 · next e=>rw[h0,e];rfl
 · rw[Hv.aD h];rfl
theorem J3 {KD:VM (List S)} (h:Hv.aM KD) (k:S) (l:List S) (x:S):Hv.put (jm KD k l) k (l++[x])=jm KD k (l++[x]):=by
 have e:jm KD k (l++[x])=Hv.put KD k (l++[x]):=by unfold jm;rw[if_neg (by simp)]
 rw[e]
 unfold jm;split
 · rfl
 · refine ((h.put _ _).put _ _).dD (h.put _ _) fun n => ?_
   by_cases e:n=k
   · subst e;rw[Hv.aD (h.put _ _),Hv.aD h]
   · rw[Hv.av (h.put _ _) _ e,Hv.av h _ e,Hv.av h _ e]
theorem yx.step {D:VM Hv.PD} {ch:List S} {left:S→Bool} {KD:VM (List S)} (h:yx D ch left KD) (hK:Hv.aM KD) {k:S} {d:Hv.PD} (hd:Hv.get D k=some d) (hl:left k=true):yx D ch (fun z=>left z && !(z==k)) (jm KD k (wokenBy d ch)):=fun n=>by
 by_cases e:n=k
 · subst e
   rw[hd]
   have h0:=h n
   rw[hd] at h0
   simp only[hl,true_or,if_true] at h0
   unfold jm
   by_cases e2:wokenBy d ch=[]
   · simp[e2,h0]
   · simp[e2,Hv.aD hK]
 · have h0:=h n
   have e3:(left n && !(n==k))=left n:=by simp[e]
   have e4:Hv.get (jm KD k (wokenBy d ch)) n=Hv.get KD n:=by
     unfold jm;split
     · rfl
     · exact Hv.av hK _ e
   rw[e4,h0]
   simp only[e3]
theorem yx.fresh {D:VM Hv.PD} {ch:List S} {left:S→Bool} {KD:VM (List S)} (h:yx D ch left KD) {k:S} (hl:left k=true):Hv.get KD k=none:=by
 rw[h k]
 cases Hv.get D k with
 | none=>rfl
 | some d=>simp[hl]
theorem ME (KD:VM (List S)) (k:S) (l:List S):(jm KD k l).length≤KD.length+1:=by
 unfold jm;split
 · omega
 · exact Hv.eZ _ _ _
theorem zw (d:Hv.PD) (ch:List S):(wokenBy d ch).length≤ch.length:=List.length_filter_le _ _
theorem J5 {d:Hv.PD} {ch:List S} {x:S} (h:x∈wokenBy d ch):x∈ch:=(List.mem_filter.1 h).1
end
section
open Go.RowKit
open aH (St)
open Hv (S Dk VM)
theorem Xh (x s:S) (b:Nat) (w:World) (h:w.cell? ⟨b,0,none⟩=some (.string ⟨x.toArray⟩)) :
   Calls Tryz.prog 179 #[.string ⟨s.toArray⟩, .pointer (some ⟨b,0,none⟩)] w fun e w'=>e = .returned (.bool (Lib.hasPrefix x s))∧w'=w:=by
 have HC:=hide (fun w=>Tryz.strings_HasPrefix ⟨x.toArray⟩ ⟨s.toArray⟩ w)
 go_enter Tryz.func179,Tryz.ntmps179
 go_wp2_with fail
 refine (HC.out _).mono ?_
 rintro e w1 ⟨rfl,rfl⟩
 go_wp2_with fail
 go_ret
 exact ⟨rfl,rfl⟩
theorem Lj (F:List S) (hF:F.length≤2000) (x:S) (b:Nat) (base:Nat) (v:Value) (w:World) (hv:w.ownsRow base 9 1 v F.length (F.map aO)) (h:w.cell? ⟨b,0,none⟩=some (.string ⟨x.toArray⟩)) :
   Calls Tryz.prog 183 #[v, .func (.func 179) #[] #[.pointer (some ⟨b,0,none⟩)]] w fun e w'=>∃ i:Int,e = .returned (.int .i64 i)∧decide (0≤i)=(F.any fun f=>Lib.hasPrefix x f)∧w'=w:=by
 obtain ⟨n,hn⟩:∃ n,F.length=n:=⟨_,rfl⟩
 rw[hn] at hv hF
 have HN:=hide hn
 obtain ⟨ao,c,rfl⟩:=slice_form hv
 clear hn
 go_enter Tryz.func183,Tryz.ntmps183
 go_wp2_with fail
 go_loopw [8] (fun i wr=>∃ k:Nat,k≤n∧i = .int .i64 k∧Hid ((F.take k).any (fun f=>Lib.hasPrefix x f)=false)∧wr=w) (fun i _=>n-(intOf i).toNat)
 case atStart=>exact ⟨0,by omega,rfl,hide rfl,rfl⟩
 case round =>
   obtain ⟨k,hk,rfl,HA,rfl⟩:=hrel
   by_cases hlt:k<n
   · have b1:(k:Int)<(n:Int):=by omega
     have hkl:k<F.length:=by rw[HN.out];exact hlt
     obtain ⟨g,c',hv2,hg,q1⟩:=gF (by rw[HN.out];exact hv) hkl
     obtain rfl:ao=some ⟨g,0,none⟩:=(Value.slice.inj hv2).1
     have hs:(F.take (k+1)).any (fun f=>Lib.hasPrefix x f)=Lib.hasPrefix x F[k]:=by
       rw[List.take_succ_eq_append_getElem hkl,List.any_append,HA.out]
       simp
     have hin:Lib.hasPrefix x F[k]=true→(F.any fun f=>Lib.hasPrefix x f)=true:=fun e=>List.any_eq_true.2 ⟨F[k],List.getElem_mem hkl,e⟩
     obtain ⟨y,hy⟩:∃ y,F[k]=y:=⟨_,rfl⟩
     rw[hy] at q1 hs hin
     have HS:=hide hs;have HIN:=hide hin
     clear hs hin hv2 hy
     go_wp2_with fail
     refine (Xh x y b _ h).mono ?_
     rintro e w1 ⟨rfl,rfl⟩
     cases he:Lib.hasPrefix x y
     · have HS2:Hid ((F.take (k+1)).any (fun f=>Lib.hasPrefix x f)=false):=hide (by rw[HS.out,he])
       go_wp2_with fail
       go_roundw
       case rel=>exact ⟨k+1,by omega,by go_num,HS2,by first | rfl | trivial⟩
       case measure=>simp[intOf];omega
     · have HI2:=hide (HIN.out he)
       go_wp2_with fail
       go_ret
       exact ⟨_,rfl,by rw[HI2.out];simp,rfl⟩
   · obtain rfl:k=n:=by omega
     have HA2:Hid ((F.any fun f=>Lib.hasPrefix x f)=false):=hide (by have:=HA.out;rwa [List.take_of_length_le (by rw[HN.out];exact Nat.le_refl _)] at this)
     have b1 : ¬ (k:Int)<(k:Int):=by omega
     go_wp2_with fail
     go_ret
     exact ⟨_,rfl,by rw[HA2.out];rfl,rfl⟩
theorem Df (F:List S) (hF:F.length≤2000) (x:S) (b:Nat) (base:Nat) (v:Value) (w:World) (hv:w.ownsRow base 9 1 v F.length (F.map aO)) (h:w.cell? ⟨b,0,none⟩=some (.string ⟨x.toArray⟩)) :
   Calls Tryz.prog 178 #[v, .func (.func 179) #[] #[.pointer (some ⟨b,0,none⟩)]] w fun e w'=>e = .returned (.bool (F.any fun f=>Lib.hasPrefix x f))∧w'=w:=by
 have H:=hide (Lj F hF x b base v w hv h)
 obtain ⟨ao,c,rfl⟩:=slice_form hv
 clear hv h
 go_enter Tryz.func178,Tryz.ntmps178
 go_wp2_with (go_at_call 183;refine H.out.mono ?_;rintro e w1 ⟨i,rfl,hi,rfl⟩)
 go_ret
 exact ⟨by rw[← hi];rfl,rfl⟩
end
section
open Go.RowKit
open Hv (S Dk VM)
def mG (s:Hv.Step):List Value:=[.int .i64 s.1,aO s.2]
theorem SK:(Tryz.prog.info? 285).map (fun i=>(i.zero,i.size,i.bytes))=some (some (.agg #[.int .i64 0, .string ByteArray.empty]),2,24):=by kernel_rfl
theorem jv {w:World} {B e s n g:Nat} {v:Value} {xs:List Value} (h:w.ownsRow B e s v n xs) (hg:v.ownBlock=some g):∃ cs,w.heap[g]? = some (.cells cs e (0,0)):=by
 rcases h.2 with ⟨rfl,_⟩ | ⟨g1,cap,cur,rfl,_,q,_⟩
 · cases hg
 · cases hg;exact ⟨cur,q⟩
structure QZ (pb B0:Nat) (im km:Value) (k:Int) (so:Option Addr) (sc:Nat) (st:List Hv.Step) (xs:List S) (va:Option Addr) (vc:Nat) (w:World) (j:Nat) (Dw:Option Addr) (sc':Nat) (wr:World):Prop where
 blk:wr.heap[pb]? = some (.cells #[.slice Dw (st.length+j) sc',im,km] 89 (0,0))
 row:wr.ownsRow B0 285 2 (.slice Dw (st.length+j) sc') (st.length+j) ((st++(xs.take j).map fun x=>(k,x)).flatMap mG)
 names:wr.ownsRow 0 9 1 (.slice va xs.length vc) xs.length (xs.map aO)
 far:aQ w.heap.size (fun q=>q=pb∨(Value.slice so st.length sc).ownBlock=some q) w wr
 foot:∀ q,(Value.slice Dw (st.length+j) sc').ownBlock=some q→(Value.slice so st.length sc).ownBlock=some q∨w.heap.size≤q
theorem zS (pb B0:Nat) (hpb:pb<B0) (im km:Value) (k:Int) (so:Option Addr) (sc:Nat) (st:List Hv.Step) (xs:List S) (hroom:st.length+xs.length≤1000) (v:Value) (w:World)
   (hr:w.heap[pb]? = some (.cells #[.slice so st.length sc,im,km] 89 (0,0))) (ho:w.ownsRow B0 285 2 (.slice so st.length sc) st.length (st.flatMap mG)) (hB0:B0≤w.heap.size)
   (hv:w.ownsRow 0 9 1 v xs.length (xs.map aO)) :
   Calls Tryz.prog 128 #[.pointer (some ⟨pb,0,none⟩), .int .i64 k,v] w fun e w'=>∃ u Dw sc',e = .returned u ∧
     w'.heap[pb]? = some (.cells #[.slice Dw (st++xs.map fun x=>(k,x)).length sc',im,km] 89 (0,0))∧w'.ownsRow B0 285 2 (.slice Dw (st++xs.map fun x=>(k,x)).length sc') (st++xs.map fun x=>(k,x)).length ((st++xs.map fun x=>(k,x)).flatMap mG) ∧
     aQ w.heap.size (fun q=>q=pb∨(Value.slice so st.length sc).ownBlock=some q) w w':=by
 obtain ⟨i0,hi,hz0,hz1,hz2⟩:=aW SK
 obtain ⟨va,vc,rfl⟩:=slice_form hv
 have HI0:Hid (QZ pb B0 im km k so sc st xs va vc w 0 so sc w):=hide ⟨hr,by simpa using ho,hv,aQ.refl _ _ _,fun q h => .inl h⟩
 clear hv ho hr
 obtain ⟨n,hn⟩:∃ n,xs.length=n:=⟨_,rfl⟩
 obtain ⟨m,hm⟩:∃ m,st.length=m:=⟨_,rfl⟩
 have HN:=hide hn;have HMM:=hide hm
 rw[hn,hm] at hroom
 rw[hn]
 clear hn hm
 go_enter Tryz.func128,Tryz.ntmps128
 go_wp2_with fail
 go_loopw [10] (fun i wr=>∃ (j:Nat) (Dw:Option Addr) (sc':Nat),j≤n∧i = .int .i64 (j:Int)∧Hid (QZ pb B0 im km k so sc st xs va vc w j Dw sc' wr)) (fun i _=>n-(intOf i).toNat)
 case atStart=>exact ⟨0,so,sc,Nat.zero_le _,rfl,HI0⟩
 case round =>
   clear HI0
   obtain ⟨j,Dw,sc',hj,rfl,HI⟩:=hrel
   by_cases hlt:j<n
   · have b1:(j:Int)<(n:Int):=by omega
     have hjl:j<xs.length:=by have:=HN.out;omega
     obtain ⟨g,c',hv2,hg,q1⟩:=gF HI.out.names hjl
     obtain rfl:va=some ⟨g,0,none⟩:=(Value.slice.inj hv2).1
     have hT:(st++(xs.take (j+1)).map fun x=>(k,x)).flatMap mG=((st++(xs.take j).map fun x=>(k,x)).flatMap mG)++[.int .i64 k, .string ⟨xs[j].toArray⟩]:=by
       rw[List.take_succ_eq_append_getElem hjl,List.map_append,← List.append_assoc,List.flatMap_append]
       rfl
     have HT:=hide hT
     obtain ⟨x,hx⟩:∃ x,xs[j]=x:=⟨_,rfl⟩
     rw[hx] at q1 HT
     obtain ⟨ys,hys⟩:∃ ys,(st++(xs.take j).map fun x=>(k,x)).flatMap mG=ys:=⟨_,rfl⟩
     have HO:=hide (show wr.ownsRow B0 285 2 (.slice Dw (m+j) sc') (m+j) ys by rw[← hys,← HMM.out];exact HI.out.row)
     have HBK:=hide (show wr.heap[pb]? = some (.cells #[.slice Dw (m+j) sc',im,km] 89 (0,0)) by rw[← HMM.out];exact HI.out.blk)
     have c0:=(ah HBK.out 0).trans (show _=some (.slice Dw (m+j) sc') from rfl)
     have f0:=ak HBK.out 0
     rw[hys] at HT
     have hpl:=blt HBK.out
     have hgb:=HI.out.far.size
     clear hv2 hT hx hys
     go_wp2_with (first
       | (at_builtin;refine wpList_append_own_at _ rfl _ _ 85 rfl B0 285 i0 (.agg #[.int .i64 0, .string ByteArray.empty]) 2 24 Tryz.underlying85 hi hz0 hz1 hz2 rfl (by decide) _ _ _ rfl (HO.out.alloc _) ⟨wr.heap.size,0,none⟩ 1 1 [.int .i64 k, .string ⟨x.toArray⟩] rfl rfl (cell_two_new _ _ _ _) (fun x hx=>by simp at hx;rcases hx with rfl | rfl<;>rfl) (by unfold maxLen;omega) (by omega) (by simp;omega) ?_;intro v' w4 hown' aN eD O5;have A4:=hide O5;obtain ⟨gv,cv,rfl⟩:=aP hown' (by omega);have hk4:=(aN.block pb (by simp;omega) (fun e=>by have:=(HO.out.lt pb e.symm).1;omega)).trans ((Below.heap_alloc _ _ _ (by show pb<wr.heap.size;omega)).trans HBK.out);have q5:=(ah hk4 0).trans (show _=some (.slice Dw (m+j) sc') from rfl);have g5:=ak hk4 0;have K4:=hide hk4;have O4:=hide hown';have G4:=hide aN;clear hown' aN eD O5 hk4))
     have hs4:wr.heap.size+1≤w4.heap.size:=by have:=G4.out.size;simpa using this
     have aeC:=(O4.out.lt gv rfl).1
     have HI2:Hid (QZ pb B0 im km k so sc st xs (some ⟨g,0,none⟩) vc w (j+1) (some ⟨gv,0,none⟩) cv (w4.setCell ⟨pb,0,none⟩ (.slice (some ⟨gv,0,none⟩) (m+j+1) cv))):=hide (by
       have hm:=HMM.out
       have Ya:=HI.out.foot
       have hf1:aQ w.heap.size (fun q=>q=pb∨(Value.slice so st.length sc).ownBlock=some q) w w4:=(HI.out.far.alloc hgb _).grown G4.out (by simp;omega) (fun q hq=>by
         have hq:(Value.slice Dw (m+j) sc').ownBlock=some q:=hq
         rw[← hm] at hq
         rcases Ya q hq with h | h
         · exact .inr (.inr h)
         · exact .inl h)
       refine ⟨?_,?_,?_,hf1.setCell (p:=⟨pb,0,none⟩) (.inr (.inl rfl)) _,?_⟩
       · rw[hm];exact heap_setCell_same _ pb 0 _ _ _ K4.out
       · rw[hm,HT.out];exact bB O4.out (fun e=>by have e2:gv=pb:=Option.some.inj e;omega)
       · refine bB (bR HI.out.names fun g' hg' => ?_) (fun e => ?_)
         · cases hg'
           exact (G4.out.block g (by simp;omega) (fun e=>lH HI.out.names HO.out (by decide) rfl e.symm)).trans (Below.heap_alloc _ _ _ hg)
         · cases e
           obtain ⟨cs,h⟩:=jv HI.out.names rfl
           rw[HBK.out] at h
           cases h
       · intro q hq
         have e2:gv=q:=Option.some.inj hq
         rcases A4.out with h | h
         · have h2:(Value.slice Dw (m+j) sc').ownBlock=some q:=by rw[← e2];exact h.symm
           rw[← hm] at h2;exact Ya q h2
         · have h2:gv=(wr.alloc (.cells #[.int .i64 k, .string ⟨x.toArray⟩] 285)).heap.size:=Option.some.inj h
           simp at h2
           exact .inr (by omega))
     go_wp2_with fail
     go_roundw
     case rel=>exact ⟨j+1,_,cv,by omega,by go_num,HI2⟩
     case measure=>simp[intOf];omega
   · obtain rfl:j=n:=by omega
     have b1 : ¬ (j:Int)<(j:Int):=by omega
     go_wp2_with fail
     go_end0
     have h1:=HI.out.blk
     have h2:=HI.out.row
     have e:(st++xs.map fun x=>(k,x)).length=st.length+j:=by rw[List.length_append,List.length_map,HN.out]
     rw[List.take_of_length_le (by have:=HN.out;omega)] at h2
     have hnn:=HN.out
     simp only[List.flatMap_append] at h2
     first
       | exact ⟨⟨_,rfl⟩,Dw,sc',h1,h2,HI.out.far⟩
       | exact ⟨⟨_,rfl⟩,Dw,sc',by simpa [hnn] using h1,by simpa [hnn] using h2,HI.out.far⟩
end
section
open Go.RowKit
open aH (St)
open Hv (S Dk VM)
structure Rx (B:Nat) (DT:VM Hv.PD) (ch:List S) (w:World) (left:S→Bool) (KD:VM (List S)) (K:VM Value) (wr:World):Prop where
 map:MapAt wr B K
 wk:kL (fun g=>B<g) wr KD K
 ap:EZ K
 on:yx DT ch left KD
 far:Below B w wr
theorem kL.at_ {N:Nat→Prop} {w:World} {KD:VM (List S)} {K:VM Value} (h:kL N w KD K) (k:S):∃ a c,(Hv.get K k).getD (.slice none 0 0) = .slice a ((Hv.get KD k).getD []).length c∧w.ownsRow 0 9 1 (.slice a ((Hv.get KD k).getD []).length c) ((Hv.get KD k).getD []).length (((Hv.get KD k).getD []).map aO)∧∀ g,(Value.slice a ((Hv.get KD k).getD []).length c).ownBlock=some g→N g:=by
 cases q:Hv.get K k with
 | none =>
   rw[h.get_none q]
   exact ⟨none,0,rfl,World.ownsRow_nil _ _ _ _,fun g hg=>by cases hg⟩
 | some v =>
   obtain ⟨xs,hx,hr,hn⟩:=h.nD k v q
   rw[hx]
   obtain ⟨a,c,rfl⟩:=slice_form hr
   exact ⟨a,c,rfl,hr,hn⟩
theorem FR {w:World} {b B e s n:Nat} {E:VM Value} {v:Value} {xs:List Value} (h:MapAt w b E) (hr:w.ownsRow B e s v n xs) (hg:v.ownBlock=some b):False:=by
 obtain ⟨cs,q⟩:=jv hr hg
 exact h.fG _ _ _ q
theorem Dr {w:World} {b r cnt B e s n:Nat} {left:S→Bool} {E:VM Value} {v:Value} {xs:List Value} (h:bE w b r E left cnt) (hr:w.ownsRow B e s v n xs) (hg:v.ownBlock=some r):False:=by
 obtain ⟨cs,q⟩:=jv hr hg
 exact h.fG _ _ _ q
theorem kC {α β:Type} {E:VM α} {F:VM β} (h:keysOf E=keysOf F):E.length=F.length:=by
 have:=congrArg List.length h
 simpa [keysOf] using this
structure XY (B A:Nat) (tm:Nat) (E:VM Value) (left':S→Bool) (cnt1:Nat) (KD:VM (List S)) (nK:Nat) (k:S) (p:Pk) (l:List S) (w:World) (K:VM Value) (wr:World):Prop where
 on:bE wr tm (B+1) E left' cnt1
 map:MapAt wr B K
 wk:kL (fun g=>B<g) wr (jm KD k l) K
 ap:EZ K
 kd:KD.length≤nK
 row:wr.heap[A]? = some (.cells p.cells 156 (0,0))
 far:Below B w wr
theorem XY.below {B A tm:Nat} {E:VM Value} {left':S→Bool} {cnt1 nK:Nat} {KD:VM (List S)} {k:S} {p:Pk} {l:List S} {w:World} {K:VM Value} {wr w':World} (h:XY B A tm E left' cnt1 KD nK k p l w K wr) (hb:Below wr.heap.size wr w') (hB:B≤wr.heap.size):XY B A tm E left' cnt1 KD nK k p l w K w' :=
 ⟨h.on.below hb,h.map.below hb,h.wk.below hb,h.ap,h.kd,(hb.block A (blt h.row)).trans h.row,h.far.trans (hb.mono hB)⟩
theorem XY.len {B A tm:Nat} {E:VM Value} {left':S→Bool} {cnt1 nK:Nat} {KD:VM (List S)} {k:S} {p:Pk} {l:List S} {w:World} {K:VM Value} {wr:World} (h:XY B A tm E left' cnt1 KD nK k p l w K wr):K.length≤nK+1:=by
 have h1:=kC (h.wk.keys h.map.1)
 have h2:=ME KD k l
 have h3:=h.kd
 omega
theorem Gd (d:Hv.PD) (ch:List S) {j:Nat} (hj:j<ch.length):wokenBy d (ch.take (j+1))=if (d.st.wakes.any fun s=>Lib.hasPrefix ch[j] s)=true then wokenBy d (ch.take j)++[ch[j]] else wokenBy d (ch.take j):=by
 unfold wokenBy
 rw[List.take_succ_eq_append_getElem hj,List.filter_append,List.filter_cons,List.filter_nil]
 split<;>simp
theorem MF (tm:Nat) (E:VM Value) (DT:VM Hv.PD) (N:Nat→Prop) (ch:List S) (hch:ch.length≤1000) (hcx:∀ x∈ch,x.length≤24) (hE:E.length≤1000) (v:Value) (w:World) (ht:MapAt w tm E) (hP:dA N w DT E) (hv:w.ownsRow 0 9 1 v ch.length (ch.map aO)) :
   Calls Tryz.prog 124 #[.map (some tm),v] w fun e w'=>∃ K,e = .returned (.map (some w.heap.size))∧MapAt w' w.heap.size K∧kL (fun g=>w.heap.size<g) w' (dN DT ch) K∧Below w.heap.size w w':=by
 obtain ⟨i0,hi,hz0,hz1,hz2⟩:=aW gL
 have hmm := @run_makeMap Tryz.prog
 obtain ⟨va,vc,rfl⟩:=slice_form hv
 have HT:=hide ht;have eU:=hide hP;have HV:=hide hv;have HCX:=hide hcx
 have htl:=ht.lt
 have hb1:=(Below.refl w.heap.size w).alloc (Nat.le_refl _) (.map #[] 0)
 have hm1:=MapAt.made w
 have hs1:(w.alloc (.map #[] 0)).heap.size=w.heap.size+1:=by simp
 have ht1:=ht.below hb1
 have kJ:=hide hm1;have HB1:=hide hb1
 obtain ⟨n,hn⟩:∃ n,ch.length=n:=⟨_,rfl⟩
 have HN:=hide hn
 rw[hn] at hch ⊢
 clear ht hP hv hcx hm1 hb1 hn
 go_enter Tryz.func124,Tryz.ntmps124
 go_wp2_with (first
   | (at_range;refine eH rfl _ 86 rfl 156 Tryz.underlying86 ht1 rfl ?_;intro w0 hrg0 hg0 hs0;have nP:=hide hrg0;have HB0:=hide (HB1.out.grown hg0 HB1.out.size (fun q hq=>by cases hq));have dF:=hide (kJ.out.kept (hg0.block _ kJ.out.lt (by simp)))))
 rw[hs1] at nP hs0 ⊢
 go_frame
 clear hg0 hrg0 ht1 hs1
 obtain ⟨B,hB⟩:∃ B,w.heap.size=B:=⟨_,rfl⟩
 rw[hB] at htl hs0 nP dF HB0 ⊢
 have pV:=hide hB
 have HI0:Hid (Rx B DT ch w (Hv.has E) [] [] w0):=hide ⟨dF.out,kL.nil _ _,fun k k' v v' g _ h=>(by cases h),fun k=>by
   cases q:Hv.get DT k with
   | none=>rfl
   | some d=>simp only;rw[if_pos (.inl (by rw[eU.out.has_eq,Hv.aB,q];rfl))];rfl,HB0.out⟩
 clear dF HB0 kJ HB1 hB
 go_loopw [13] (fun _ wr=>∃ (left:S→Bool) (cnt:Nat) (KD:VM (List S)) (K:VM Value),Hid (bE wr tm (B+1) E left cnt)∧Hid (Rx B DT ch w left KD K wr)∧K.length+cnt≤E.length∧B+1<wr.heap.size)
   (fun _ wr=>wr.rangeLeft tm (B+1))
 case atStart=>exact ⟨_,_,_,_,nP,HI0,by simp,by omega⟩
 case round =>
   clear nP HI0
   obtain ⟨left,cnt,KD,K,HG,HI,hroom,hsz⟩:=hrel
   go_wp2_with (first
     | (at_next;refine gG rfl _ rfl (B+1) left cnt rfl HG.out ?_ ?_))
   · intro hc0 hl0
     have HE:=hide (HI.out.on.done eU.out.dU HI.out.wk.dU hl0)
     go_wp2_with fail
     go_ret
     have h:=HI.out.wk
     rw[HE.out] at h
     rw[pV.out]
     exact ⟨K,rfl,HI.out.map,h,HI.out.far⟩
   · intro k v w4 cnt1 hk hlk hget hrg1 hlt hg1 hs1 hen
     obtain ⟨d,hd,p,rfl,pr⟩:=eU.out.nD k v hget
     have HDD:=hide hd
     have hs4:w4.heap.size=wr.heap.size:=hs1
     have hb5:=(Below.refl w4.heap.size w4).alloc (Nat.le_refl _) (.cells p.cells 156)
     have XJ:=hide (hrg1)
     have uV:=HI.out.map.kept (hg1.block B HI.out.map.lt (by simp))
     have hnr:=HG.out.fG
     have hfr:aQ wr.heap.size (fun q=>q=B+1) wr w4:=⟨hg1.os,hg1.tape,hg1.output,hg1.size,fun q hq hc=>hg1.block q hq (fun e=>hc (Option.some.inj e))⟩
     have HW4:=HI.out.wk.turned hnr hfr (Nat.le_refl _)
     have iI:=HI.out.far.trans (hfr.toBelow (by omega) (fun q _ (e:q=B+1)=>by omega))
     have HI4:Hid (Rx B DT ch w left KD K w4):=hide ⟨uV,HW4,HI.out.ap,HI.out.on,iI⟩
     have Ng:=heap_alloc_new w4 (.cells p.cells 156)
     have CG:=hide (XJ.out.below hb5)
     have NW:Hid (Rx B DT ch w left KD K (w4.alloc (.cells p.cells 156))):=hide ⟨uV.below hb5,HW4.below hb5,HI.out.ap,HI.out.on,iI.trans (hb5.mono (by omega))⟩
     have YV:=hide (show vg N w d p.val from ⟨p,rfl,pr⟩)
     have Rl:=hide Ng
     simp only[Pk.val,Pk.cells] at hen ⊢
     simp only[Pk.cells] at CG NW
     clear hrg1 hg1 hget pr hd hb5 uV HW4 iI hfr hnr HI Ng
     obtain ⟨A,hA⟩:∃ A,w4.heap.size=A:=⟨_,rfl⟩
     have hAB:B+1<A:=by omega
     have hszA:(w4.alloc (.cells p.cells 156)).heap.size=A+1:=by simp[hA]
     have HFR:=hide (HI4.out.on.fresh hlk)
     have HST:=hide (fun h=>HI4.out.on.step h HDD.out hlk)
     have HSK:=hide HI4.out.wk.dU
     have hnK:K.length+1≤E.length+1-cnt1:=by omega
     have HJ0:Hid (XY B A tm E (fun z=>left z && !(z==k)) cnt1 KD K.length k p (wokenBy d (ch.take 0)) w K (w4.alloc (.cells p.cells 156))):=hide
       ⟨CG.out,NW.out.map,(show kL (fun g=>B<g) _ KD K from NW.out.wk),NW.out.ap,Nat.le_of_eq (kC (NW.out.wk.keys NW.out.map.1)).symm,by rw[← hA];exact Rl.out,NW.out.far⟩
     simp only[Pk.cells] at HJ0 hszA
     clear HI4 NW CG Rl XJ
     have hAw:wr.heap.size=A:=by omega
     have Rh:=hide hlt
     have HLE:=hide HG.out.left_eq
     clear hA
     go_wp2_with fail
     clear hAw hs4
     go_loopw [20] (fun i wr=>∃ (j:Nat) (K':VM Value),j≤n∧i = .int .i64 (j:Int)∧Hid (XY B A tm E (fun z=>left z && !(z==k)) cnt1 KD K.length k p (wokenBy d (ch.take j)) w K' wr)∧A<wr.heap.size) (fun i _=>n-(intOf i).toNat)
     case atStart=>exact ⟨0,K,Nat.zero_le _,rfl,HJ0,by omega⟩
     case round =>
       clear HJ0
       obtain ⟨j,K',hj,rfl,HJ,ade⟩:=hrel
       by_cases hlj:j<n
       · have b1:(j:Int)<(n:Int):=by omega
         have hjl:j<ch.length:=by have:=HN.out;omega
         obtain ⟨g,c',hv2,hg,q1⟩:=gF (show w.ownsRow 0 9 1 (.slice va ch.length vc) ch.length (ch.map aO) by rw[HN.out];have:=HV.out;rwa [HN.out] at this) hjl
         obtain rfl:va=some ⟨g,0,none⟩:=(Value.slice.inj hv2).1
         have hBw:w.heap.size=B:=pV.out
         have d1:=(HJ.out.far.cell (p:=⟨g,j,none⟩) (show g<B by omega)).trans q1
         have hx24:=HCX.out _ (List.getElem_mem hjl)
         have HWS:=hide (Gd d ch hjl)
         obtain ⟨x,hx⟩:∃ x,ch[j]=x:=⟨_,rfl⟩
         rw[hx] at d1 hx24 HWS
         have hrow:=HJ.out.row
         have T:=Pk.at_ hrow
         have hb6:=(Below.refl wr.heap.size wr).alloc (Nat.le_refl _) (.cells #[.string ⟨x.toArray⟩] 9)
         have wP:=hide (HJ.out.below hb6 (by omega))
         have k5:=(hb6.cell (p:=⟨A,5,none⟩) (show A<wr.heap.size from ade)).trans T.2.2.2.2.2.1
         have HX6:=hide (ah (heap_alloc_new wr (.cells #[.string ⟨x.toArray⟩] 9)) 0)
         have hP6:=YV.out.below (w':=wr.alloc (.cells #[.string ⟨x.toArray⟩] 9)) (by rw[hBw];exact wP.out.far)
         obtain ⟨p',hpe, -, -, -, -,hpk, -⟩:=hP6
         have hrw:=hpk.rows 2
         have hsl:(p'.sl 2) = .slice p.wakes.a p.wakes.n p.wakes.c:=by have:=congrArg (fun v=>match v with | .agg c=>c.getD 5 undef | _=>undef) hpe;exact this.symm
         have hwl:d.st.wakes.length≤2000:=by have:=(bV hpk.parse).2.2.1.2.2.1;omega
         rw[hsl] at hrw
         have HW6:=hide hrw
         clear hv2 q1 hx hb6 hpe hpk hrw hsl T hrow
         go_wp2_with fail
         refine (Df d.st.wakes hwl x wr.heap.size 0 (.slice p.wakes.a p.wakes.n p.wakes.c) _ HW6.out HX6.out).mono ?_
         rintro e w6 ⟨rfl,rfl⟩
         cases hh:(d.st.wakes.any fun f=>Lib.hasPrefix x f)
         · have HE2:Hid (wokenBy d (ch.take (j+1))=wokenBy d (ch.take j)):=hide (by rw[HWS.out,hh];rfl)
           go_wp2_with fail
           go_roundw
           case rel=>exact ⟨j+1,K',by omega,by go_num,hide (by rw[HE2.out];exact wP.out),by simp;omega⟩
           case measure=>simp[intOf];omega
         · have HE2:Hid (wokenBy d (ch.take (j+1))=wokenBy d (ch.take j)++[x]):=hide (by rw[HWS.out,hh];rfl)
           obtain ⟨la,lc,hle,hlr,hln⟩:=wP.out.wk.at_ k
           have XM:=hide (MC HSK.out HFR.out (wokenBy d (ch.take j)))
           rw[XM.out] at hle hlr hln
           obtain ⟨l,hl⟩:∃ l,wokenBy d (ch.take j)=l:=⟨_,rfl⟩
           have hll:l.length≤1000:=by have:=zw d (ch.take j);rw[hl,List.length_take] at this;omega
           rw[hl] at hle hlr hln HE2 wP XM
           have hmp:=wP.out.map
           have YM:=hide hlr;have CK:=hide hln;have VO:=hide hle
           have abA:k.length≤maxLen:=hk
           have hkl:K'.length<maxLen:=by have:=wP.out.len;unfold maxLen;omega
           have hwz:(wr.alloc (.cells #[.string ⟨x.toArray⟩] 9)).heap.size=wr.heap.size+1:=by simp
           obtain ⟨u,hu⟩:∃ u,wr.alloc (.cells #[.string ⟨x.toArray⟩] 9)=u:=⟨_,rfl⟩
           have hx6:=HX6.out
           rw[hu] at hwz wP YM hmp hx6 ⊢
           have HWZ:=hide hwz
           clear hlr hln hle hl hu k5 d1 HW6 HX6 hwz
           go_wp2_with (first
             | (at_lookup;refine jJ rfl _ _ 87 rfl 28 Tryz.underlying87 (rO _) hmp rfl k abA rfl ?_;rw[VO.out];go_frame)
             | (at_builtin; (refine wpList_append_own_at _ rfl _ _ 28 rfl 0 9 i0 (.string ByteArray.empty) 1 16 Tryz.underlying28 hi hz0 hz1 hz2 rfl (by decide) _ _ _ rfl (YM.out.alloc _) ⟨u.heap.size,0,none⟩ 1 1 [.string ⟨x.toArray⟩] rfl rfl (cell_one_new _ _ _) (fun x hx=>by simp at hx;subst hx;rfl) (by unfold maxLen;omega) (by omega) (Nat.zero_le _) ?_);intro v' w8 hown' jG Bo O6;obtain ⟨gv,cv,rfl⟩:=aP hown' (by omega);have hm8:=wP.out.map.kept ((jG.block B (by simp;have:=wP.out.map.lt;omega) (fun e=>by have:=CK.out B e.symm;omega)).trans (Below.heap_alloc _ _ _ wP.out.map.lt));obtain ⟨w9,ael,hm9,ht9⟩:=hm8.store Tryz.underlying87 hkl k abA (.slice (some ⟨gv,0,none⟩) (l.length+1) cv);have HO8:=hide hown';have HG8:=hide jG;have HA8:=hide O6;have HM9:=hide hm9;have HT9:=hide ht9;clear hown' jG Bo O6 hm8 hm9 ht9))
           have MO:aQ u.heap.size (fun q=>(Value.slice la l.length lc).ownBlock=some q) u w8:=((aQ.refl _ _ u).alloc (Nat.le_refl _) _).grown HG8.out (by simp) (fun q hq => .inr hq)
           have hs8:u.heap.size+1≤w8.heap.size:=by have:=HG8.out.size;simpa using this
           have acS:B<gv:=by
             rcases HA8.out with h | h
             · exact CK.out gv h.symm
             · have h2:gv=(u.alloc (.cells #[.string ⟨x.toArray⟩] 9)).heap.size:=Option.some.inj h
               simp at h2
               have:=HWZ.out
               omega
           obtain ⟨ZK,abw⟩:=wP.out.wk.app wP.out.map.1 wP.out.ap k x (.slice (some ⟨gv,0,none⟩) (l.length+1) cv) (w':=w8) (by rw[XM.out];exact HO8.out) (fun q hq hno=>MO.block q hq (fun e=>by
               cases hk9:Hv.get K' k with
               | none =>
                 have h:=VO.out
                 rw[hk9] at h
                 have e2:la=none:=(Value.slice.inj h).1.symm
                 rw[e2] at e
                 cases e
               | some v =>
                 have h:=VO.out
                 rw[hk9] at h
                 exact hno v hk9 (by rw[show v=_ from h];exact e))) (fun q hq=>by cases hq;exact acS) (by
               rcases HA8.out with h | h
               · exact .inl (by rw[VO.out];exact h)
               · refine .inr ⟨gv,rfl,?_⟩
                 have h2:gv=(u.alloc (.cells #[.string ⟨x.toArray⟩] 9)).heap.size:=Option.some.inj h
                 simp at h2
                 omega)
           rw[XM.out,J3 HSK.out] at ZK
           have Vw:=aX HT9.out
           have hn8:∀ cs t fz,w8.heap[B]? ≠ some (.cells cs t fz):=by
             have h:=wP.out.map.kept (w':=w8) (MO.block B wP.out.map.lt (fun e=>by have:=CK.out B e;omega))
             exact h.fG
           have hBu:=wP.out.map.lt
           have hAu:=blt wP.out.row
           have hz8:B<w8.heap.size:=by omega
           have HJ9:Hid (XY B A tm E (fun z=>left z && !(z==k)) cnt1 KD K.length k p (wokenBy d (ch.take (j+1))) w (Hv.put K' k (.slice (some ⟨gv,0,none⟩) (l.length+1) cv)) w9):=hide (by
             rw[HE2.out]
             have ac2:bE w8 tm (B+1) E (fun z=>left z && !(z==k)) cnt1:=wP.out.on.blocks (MO.block tm wP.out.on.lts.1 (fun e=>FR wP.out.on.map YM.out e)) (MO.block (B+1) wP.out.on.lts.2 (fun e=>Dr wP.out.on YM.out e))
             refine ⟨ac2.far Vw (Nat.le_refl _) (by omega) (by omega),HM9.out,ZK.turned hn8 Vw (Nat.le_refl _),abw,?_,?_,?_⟩
             · exact wP.out.kd
             · refine (Vw.block A (by omega) (by omega)).trans ((MO.block A (blt wP.out.row) (fun e => ?_)).trans wP.out.row)
               obtain ⟨cs,h⟩:=jv YM.out e
               rw[wP.out.row] at h
               cases h
             · exact (wP.out.far.trans (MO.toBelow (by omega) (fun q hq (e:(Value.slice la l.length lc).ownBlock=some q)=>by have:=CK.out q e;omega))).trans (Vw.toBelow (by omega) (fun q hq (e:q=B)=>by omega)))
           have hs9:=Vw.size
           have hz9:A<w9.heap.size:=by omega
           clear ZK abw Vw hn8 MO
           go_roundw
           case rel=>exact ⟨j+1,_,by omega,by go_num,HJ9,hz9⟩
           case measure=>simp[intOf];omega
       · obtain rfl:j=n:=by omega
         have b1 : ¬ (j:Int)<(j:Int):=by omega
         have Vo:Hid (Rx B DT ch w (fun z=>left z && !(z==k)) (jm KD k (wokenBy d ch)) K' wr):=hide (by
           have e:ch.take j=ch:=List.take_of_length_le (by have:=HN.out;omega)
           have h:=HJ.out
           rw[e] at h
           exact ⟨h.map,h.wk,h.ap,HST.out HSK.out,h.far⟩)
         have hlen:=HJ.out.len
         go_wp2_with fail
         go_roundw
         case rel=>exact ⟨_,cnt1,_,K',hide HJ.out.on,Vo,by omega,by omega⟩
         case measure=>rw[HJ.out.on.left_eq,HLE.out];exact Rh.out
end
end Go.Proofs.YtialenebfcnkkaaGreatDoor
