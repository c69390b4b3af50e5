/- PlnW11, MchMath, WakMath, WakW1, AddW1, WakW2 -/
import Derived.Test.YtialenebfcnkkaaGreatDoorWokJ20
import Derived.Test.YtialenebfcnkkaaGreatDoorWokJ6
set_option maxHeartbeats 4000000
set_option maxRecDepth 100000
namespace Go.Proofs.YtialenebfcnkkaaGreatDoor
section
open Go.RowKit
open Arc (St)
open Hv (S Dk VM)
structure ChR (D:VM Hv.PD) (R:VM Value) (left:S→Bool) (Q:VM Value):Prop where
 uni:AllU Q
 has:∀ x,Hv.has Q x=true ↔ ∃ k,Hv.has R k=true∧left k=false∧x∈pathsAt D k
theorem ChR.step {D:VM Hv.PD} {R Q:VM Value} {left:S→Bool} (h:ChR D R left Q) (hQ:Hv.Srt Q) {k:S} (hk:Hv.has R k=true):ChR D R (fun z=>left z && !(z==k)) (addAll Q (pathsAt D k)):=by
 refine ⟨addAll_uni _ _ hQ h.uni,fun x => ?_⟩
 rw[addAll_has _ _ hQ,h.has]
 constructor
 · rintro (⟨k',a,b,c⟩ | a)
   · exact ⟨k',a,by simp[b],c⟩
   · exact ⟨k,hk,by simp,a⟩
 · rintro ⟨k',a,b,c⟩
   by_cases e:k'=k
   · subst e;exact .inr c
   · exact .inl ⟨k',a,by simpa [e] using b,c⟩
theorem ChR.done {D:VM Hv.PD} {R Q:VM Value} {left:S→Bool} (h:ChR D R left Q) (hQ:Hv.Srt Q) (hl:∀ k,left k=false):Q=changedR D R []:=by
 obtain ⟨a,b,c⟩:=changedR_good D R [] List.Pairwise.nil (fun k v h=>by cases h)
 refine uni_ext hQ a h.uni b fun x => ?_
 rw[h.has,c]
 constructor
 · rintro ⟨k,k1,_,k3⟩
   obtain ⟨p,hp,e⟩:=List.any_eq_true.1 k1
   simp only[beq_iff_eq] at e
   exact .inr ⟨p,hp,by rw[e];exact k3⟩
 · rintro (q | ⟨p,hp,q⟩)
   · cases q
   · exact ⟨p.1,List.any_eq_true.2 ⟨p,hp,by simp⟩,hl _,q⟩
structure ChI (D I:VM Hv.PD) (Q0:VM Value) (left:S→Bool) (Q:VM Value):Prop where
 uni:AllU Q
 has:∀ x,Hv.has Q x=true ↔ Hv.has Q0 x=true ∨ ∃ k d,Hv.get I k=some d∧left k=false∧(x∈pathsAt D k∨x∈d.paths)
theorem ChI.step {D I:VM Hv.PD} {Q0 Q:VM Value} {left:S→Bool} (h:ChI D I Q0 left Q) (hQ:Hv.Srt Q) {k:S} {d:Hv.PD} (hk:Hv.get I k=some d):ChI D I Q0 (fun z=>left z && !(z==k)) (addAll (addAll Q (pathsAt D k)) d.paths):=by
 have h1:=addAll_srt (pathsAt D k) Q hQ
 refine ⟨addAll_uni _ _ h1 (addAll_uni _ _ hQ h.uni),fun x => ?_⟩
 rw[addAll_has _ _ h1,addAll_has _ _ hQ,h.has]
 constructor
 · rintro (((a | ⟨k',d',a,b,c⟩) | a) | a)
   · exact .inl a
   · exact .inr ⟨k',d',a,by simp[b],c⟩
   · exact .inr ⟨k,d,hk,by simp, .inl a⟩
   · exact .inr ⟨k,d,hk,by simp, .inr a⟩
 · rintro (a | ⟨k',d',a,b,c⟩)
   · exact .inl (.inl (.inl a))
   · by_cases e:k'=k
     · subst e
       rw[hk] at a;cases a
       rcases c with c | c
       · exact .inl (.inr c)
       · exact .inr c
     · exact .inl (.inl (.inr ⟨k',d',a,by simpa [e] using b,c⟩))
theorem ChI.done {D I:VM Hv.PD} {Q0 Q:VM Value} {left:S→Bool} (h:ChI D I Q0 left Q) (hI:Hv.Srt I) (hQ:Hv.Srt Q) (h0:Hv.Srt Q0) (u0:AllU Q0) (hl:∀ k,left k=false):Q=changedI D I Q0:=by
 obtain ⟨a,b,c⟩:=changedI_good D I Q0 h0 u0
 refine uni_ext hQ a h.uni b fun x => ?_
 rw[h.has,c]
 constructor
 · rintro (q | ⟨k,d,k1,_,k3⟩)
   · exact .inl q
   · exact .inr ⟨(k,d),(Hv.get_some hI).1 k1,k3⟩
 · rintro (q | ⟨p,hp,q⟩)
   · exact .inl q
   · exact .inr ⟨p.1,p.2,(Hv.get_some hI).2 hp,hl _,q⟩
end
section
open Arc (St Cmd)
open Hv (S VM)
namespace Hv
def fileV (x:S):Value := .agg #[.string ⟨x.toArray⟩]
def fileM (G:VM S):VM Value:=G.map fun p=>(p.1,fileV p.2)
theorem fileM_srt {G:VM S} (h:Srt G):Srt (fileM G):=h.map fileV
theorem fileM_len (G:VM S):(fileM G).length=G.length:=by simp[fileM]
theorem fileM_get (G:VM S) (k:S):get (fileM G) k=(get G k).map fileV:=get_map G fileV k
theorem srt_of_fileM {G:VM S} (h:Srt (fileM G)):Srt G:=List.pairwise_map.1 h
theorem fileM_put {G:VM S} (h:Srt G) (k x:S):fileM (put G k x)=put (fileM G) k (fileV x):=by
 refine (fileM_srt (h.put k x)).get_ext ((fileM_srt h).put k _) fun n => ?_
 rw[fileM_get]
 by_cases e:n=k
 · subst e;rw[get_put_same h,get_put_same (fileM_srt h)];rfl
 · rw[get_put_other h _ e,get_put_other (fileM_srt h) _ e,fileM_get]
theorem fileM_del {G:VM S} (h:Srt G) (k:S):fileM (del G k)=del (fileM G) k:=by
 refine (fileM_srt (h.del k)).get_ext ((fileM_srt h).del k) fun n => ?_
 rw[fileM_get]
 by_cases e:n=k
 · subst e;rw[get_del_same,get_del_same];rfl
 · rw[get_del_other h e,get_del_other (fileM_srt h) e,fileM_get]
def findD (D:VM PD) (G:VM S) (path:S):Option S :=
 if Wd.under path=true then get G path else D.reverse.findSome? fun p=>(p.2.st.files.find? fun f=>f.1==path).map (·.2)
def doC (D:VM PD) (wk:List S) (G:VM S) (c:Cmd):VM S :=
 if c.verb=1 then put G c.path c.word
 else if c.verb=2 then put G c.path ((get G c.path).getD []++c.word)
 else if c.verb=3 then (match findD D G c.frm with
   | some x=>put G c.path x
   | none=>G)
 else if c.verb=4 then del G c.path
 else if c.verb=5 then put G c.path (linesS wk)
 else G
def runC (D:VM PD) (wk:List S) (G:VM S) (cs:List Cmd):VM S:=cs.foldl (doC D wk) G
theorem doC_srt (D:VM PD) (wk:List S) {G:VM S} (h:Srt G) (c:Cmd):Srt (doC D wk G c):=by
 unfold doC
 repeat' split
 all_goals first | exact h.put _ _ | exact h.del _ | exact h
theorem doC_len (D:VM PD) (wk:List S) (G:VM S) (c:Cmd):(doC D wk G c).length≤G.length+1:=by
 unfold doC
 repeat' split
 all_goals first | exact put_len _ _ _ | exact Nat.le_succ_of_le (del_len _ _) | omega
def Short (L:Nat) (G:VM S):Prop:=∀ k x,get G k=some x→x.length≤L
theorem Short.put {L:Nat} {G:VM S} (h:Short L G) (hs:Srt G) {k x:S} (hx:x.length≤L):Short L (put G k x):=fun k' x' q=>by
 by_cases e:k'=k
 · subst e;rw[get_put_same hs] at q;cases q;exact hx
 · rw[get_put_other hs _ e] at q;exact h k' x' q
theorem Short.del {L:Nat} {G:VM S} (h:Short L G) (hs:Srt G) (k:S):Short L (del G k):=fun k' x' q=>by
 by_cases e:k'=k
 · subst e;rw[get_del_same] at q;cases q
 · rw[get_del_other hs e] at q;exact h k' x' q
theorem Short.mono {L L':Nat} {G:VM S} (h:Short L G) (hl:L≤L'):Short L' G:=fun k x q=>Nat.le_trans (h k x q) hl
def FShort (L:Nat) (D:VM PD):Prop:=∀ p∈D,∀ f∈p.2.st.files,f.2.length≤L
theorem findD_short {L:Nat} {D:VM PD} {G:VM S} (hD:FShort L D) (hG:Short L G) {path x:S} (h:findD D G path=some x):x.length≤L:=by
 unfold findD at h
 split at h
 · exact hG _ _ h
 · obtain ⟨p,hp,q⟩:=List.exists_of_findSome?_eq_some h
   cases hf:p.2.st.files.find? fun f=>f.1==path with
   | none=>rw[hf] at q;cases q
   | some f =>
     rw[hf] at q
     cases q
     exact hD p (by simpa using hp) f (List.mem_of_find?_eq_some hf)
theorem doC_short {L:Nat} {D:VM PD} {wk:List S} {G:VM S} (hD:FShort L D) (hG:Short L G) (hs:Srt G) (hw:(linesS wk).length≤L) {c:Cmd} (hc:c.word.length≤16):Short (L+16) (doC D wk G c):=by
 have h16:=hG.mono (Nat.le_add_right L 16)
 unfold doC
 repeat' split
 · exact h16.put hs (by omega)
 · refine h16.put hs ?_
   cases q:get G c.path with
   | none=>simp;omega
   | some x=>have:=hG _ _ q;simp;omega
 · next x hx=>exact h16.put hs (Nat.le_trans (findD_short hD hG hx) (Nat.le_add_right L 16))
 · exact h16
 · exact h16.del hs _
 · exact h16.put hs (by omega)
 · exact h16
abbrev Step:=Int × S
structure Plan where
 steps:List Step
 ins:VM PD
 wak:VM (List S)
abbrev Mac:=VM PD × VM S
def stepD (pl:Plan) (m:Mac) (s:Step):Mac :=
 if s.1=1 then (del m.1 s.2,m.2)
 else if s.1=2 then (match get pl.ins s.2 with
   | some d=>(put m.1 s.2 d,m.2)
   | none=>m)
 else match get m.1 s.2 with
   | none=>m
   | some d =>
     if s.1=3 then (put m.1 s.2 (d.to (if has pl.wak s.2=true then 3 else 2)),runC m.1 [] m.2 d.st.runs)
     else if s.1=4 then (put m.1 s.2 (d.to 2),runC m.1 ((get pl.wak s.2).getD []) m.2 d.st.wokens)
     else m
def StepOk (pl:Plan) (D:VM PD) (s:Step):Prop:=s.1=1∨(s.1=2∧has pl.ins s.2=true)∨((s.1=3∨s.1=4)∧has D s.2=true)
def runS (pl:Plan) (m:Mac) (ss:List Step):Mac:=ss.foldl (stepD pl) m
theorem runS_snoc (pl:Plan) (m:Mac) (ss:List Step) (s:Step):runS pl m (ss++[s])=stepD pl (runS pl m ss) s:=by simp[runS]
theorem runC_srt (D:VM PD) (wk:List S):∀ (cs:List Cmd) {G:VM S},Srt G→Srt (runC D wk G cs)
 | [],_,h=>h
 | c::cs,_,h=>runC_srt D wk cs (doC_srt D wk h c)
theorem stepD_srt (pl:Plan) {m:Mac} (h1:Srt m.1) (h2:Srt m.2) (s:Step):Srt (stepD pl m s).1∧Srt (stepD pl m s).2:=by
 unfold stepD
 repeat' split
 all_goals first | exact ⟨h1.del _,h2⟩ | exact ⟨h1.put _ _,h2⟩ | exact ⟨h1,h2⟩ | exact ⟨h1.put _ _,runC_srt _ _ _ h2⟩
def fitsG (G:VM S):Bool:=decide (G.length≤16)&&G.all fun p=>decide (p.2.length≤200)
theorem fitsG_short {G:VM S} (hs:Srt G) (h:fitsG G=true):G.length≤16∧Short 200 G:=by
 simp only[fitsG,Bool.and_eq_true,decide_eq_true_eq,List.all_eq_true] at h
 exact ⟨h.1,fun k x q=>h.2 (k,x) ((get_some hs).1 q)⟩
def overD (pl:Plan):Mac→List Step→Bool
 | _,[]=>false
 | m,s::ss => !fitsG (stepD pl m s).2||overD pl (stepD pl m s) ss
end Hv
end
section
open Go.RowKit
open Arc (St Cmd)
open Hv (S VM)
theorem own_apart {w:World} {B B' e e' s s' n n':Nat} {v v':Value} {xs ys:List Value} (h:w.ownsRow B e s v n xs) (h':w.ownsRow B' e' s' v' n' ys) (hne:e≠e') {g:Nat} (hg:v.ownBlock=some g):v'.ownBlock≠some g:=by
 intro hg'
 rcases h.2 with ⟨rfl,_⟩ | ⟨g1,cap,cur,rfl,_,q,_⟩
 · cases hg
 · cases hg
   rcases h'.2 with ⟨rfl,_⟩ | ⟨g2,cap',cur',rfl,_,q',_⟩
   · cases hg'
   · cases hg'
     rw[q] at q'
     cases q'
     exact hne rfl
def WkR (N:Nat→Prop) (w:World) (xs:List S) (v:Value):Prop:=w.ownsRow 0 9 1 v xs.length (xs.map strV)∧∀ g,v.ownBlock=some g→N g
theorem WkR.weak {N N':Nat→Prop} {w:World} {xs:List S} {v:Value} (h:WkR N w xs v) (hn:∀ g,N g→N' g):WkR N' w xs v:=⟨h.1,fun g q=>hn g (h.2 g q)⟩
theorem WkR.kept {N:Nat→Prop} {w w':World} {xs:List S} {v:Value} (h:WkR N w xs v) (hv:∀ g,v.ownBlock=some g→w'.heap[g]? = w.heap[g]?):WkR N w' xs v:=⟨ownsRow_kept' h.1 hv,h.2⟩
theorem WkR.far {N C:Nat→Prop} {w w':World} {B:Nat} {xs:List S} {v:Value} (h:WkR N w xs v) (hf:Far B C w w') (hB:w.heap.size≤B) (hC:∀ g,g<w.heap.size→N g → ¬ C g):WkR N w' xs v :=
 h.kept fun g q=>hf.block g (by have:=h.1.lt g q;omega) (hC g (h.1.lt g q).2 (h.2 g q))
structure WkM (N:Nat→Prop) (w:World) (KD:VM (List S)) (K:VM Value):Prop where
 srt:Hv.Srt KD
 to_:∀ k v,Hv.get K k=some v→∃ xs,Hv.get KD k=some xs∧WkR N w xs v
 fro:∀ k xs,Hv.get KD k=some xs→∃ v,Hv.get K k=some v∧WkR N w xs v
theorem WkM.nil (N:Nat→Prop) (w:World):WkM N w [] []:=⟨List.Pairwise.nil,fun k v h=>(by cases h),fun k v h=>(by cases h)⟩
theorem WkM.weak {N N':Nat→Prop} {w:World} {KD:VM (List S)} {K:VM Value} (h:WkM N w KD K) (hn:∀ g,N g→N' g):WkM N' w KD K :=
 ⟨h.srt,fun k v q=>(h.to_ k v q).imp fun _ a=>⟨a.1,a.2.weak hn⟩,fun k v q=>(h.fro k v q).imp fun _ a=>⟨a.1,a.2.weak hn⟩⟩
theorem WkM.kept {N:Nat→Prop} {w w':World} {KD:VM (List S)} {K:VM Value} (h:WkM N w KD K) (hv:∀ k v g,Hv.get K k=some v→v.ownBlock=some g→w'.heap[g]? = w.heap[g]?):WkM N w' KD K :=
 ⟨h.srt,fun k v q=>(h.to_ k v q).imp fun _ a=>⟨a.1,a.2.kept (fun g=>hv k v g q)⟩,fun k xs q=>by
   obtain ⟨v,a,b⟩:=h.fro k xs q
   exact ⟨v,a,b.kept (fun g=>hv k v g a)⟩⟩
theorem WkM.far {N C:Nat→Prop} {w w':World} {B:Nat} {KD:VM (List S)} {K:VM Value} (h:WkM N w KD K) (hf:Far B C w w') (hB:w.heap.size≤B) (hC:∀ g,g<w.heap.size→N g → ¬ C g):WkM N w' KD K :=
 ⟨h.srt,fun k v q=>(h.to_ k v q).imp fun _ a=>⟨a.1,a.2.far hf hB hC⟩,fun k v q=>(h.fro k v q).imp fun _ a=>⟨a.1,a.2.far hf hB hC⟩⟩
theorem WkM.below {N:Nat→Prop} {w w':World} {KD:VM (List S)} {K:VM Value} (h:WkM N w KD K) (hb:Below w.heap.size w w'):WkM N w' KD K:=h.far (Far.of (C:=fun _=>False) hb (Nat.le_refl _)) (Nat.le_refl _) (fun _ _ _ h=>h)
theorem WkM.turned {N:Nat→Prop} {w w':World} {b B:Nat} {KD:VM (List S)} {K:VM Value} (h:WkM N w KD K) (hm:∀ cs t fz,w.heap[b]? ≠ some (.cells cs t fz)) (hf:Far B (fun k=>k=b) w w') (hB:w.heap.size≤B):WkM N w' KD K :=
 h.kept fun k v g q hg=>by
   obtain ⟨xs,_,hr,_⟩:=h.to_ k v q
   refine hf.block g (by have:=hr.lt g hg;omega) fun e => ?_
   have e':g=b:=e
   rcases hr.2 with ⟨rfl,_⟩ | ⟨g',cap,cur,rfl,_,q2,_⟩
   · cases hg
   · cases hg
     have e2:g'=b:=e'
     rw[e2] at q2
     exact hm _ _ _ q2
theorem WkM.has_eq {N:Nat→Prop} {w:World} {KD:VM (List S)} {K:VM Value} (h:WkM N w KD K) (k:S):Hv.has KD k=Hv.has K k:=by
 rw[Hv.has_get,Hv.has_get]
 cases q:Hv.get K k with
 | none =>
   cases q':Hv.get KD k with
   | none=>rfl
   | some xs=>obtain ⟨v,a,_⟩:=h.fro k xs q';rw[q] at a;cases a
 | some v=>obtain ⟨xs,a,_⟩:=h.to_ k v q;rw[a];rfl
theorem WkM.allS {N:Nat→Prop} {w:World} {KD:VM (List S)} {K:VM Value} (h:WkM N w KD K):AllS K:=fun k v q=>by
 obtain ⟨xs,_,hr,_⟩:=h.to_ k v q
 obtain ⟨a,c,e⟩:=slice_form hr
 exact ⟨a,_,c,e⟩
theorem WkM.get_none {N:Nat→Prop} {w:World} {KD:VM (List S)} {K:VM Value} (h:WkM N w KD K) {k:S} (q:Hv.get K k=none):Hv.get KD k=none:=by
 cases q':Hv.get KD k with
 | none=>rfl
 | some xs=>obtain ⟨v,a,_⟩:=h.fro k xs q';rw[q] at a;cases a
theorem WkM.keys {N:Nat→Prop} {w:World} {KD:VM (List S)} {K:VM Value} (h:WkM N w KD K) (hK:Hv.Srt K):keysOf K=keysOf KD:=by
 have e:(K.map fun p=>(p.1,()))=KD.map fun p=>(p.1,()):=(hK.map fun _=>()).get_ext (h.srt.map fun _=>()) (fun k=>by
   rw[Hv.get_map K (fun _=>()),Hv.get_map KD (fun _=>())]
   cases q:Hv.get K k with
   | none=>rw[h.get_none q];rfl
   | some v=>obtain ⟨d,hd,_⟩:=h.to_ k v q;rw[hd];rfl)
 have:=congrArg (List.map (·.1)) e
 simpa [keysOf,List.map_map,Function.comp_def] using this
def Aparts (K:VM Value):Prop:=∀ k k' v v' g,k≠k'→Hv.get K k=some v→Hv.get K k'=some v'→v.ownBlock=some g→v'.ownBlock≠some g
theorem WkM.app {N:Nat→Prop} {w w':World} {KD:VM (List S)} {K:VM Value} (h:WkM N w KD K) (hK:Hv.Srt K) (ha:Aparts K) (k x:S) (v':Value)
   (hr:w'.ownsRow 0 9 1 v' (((Hv.get KD k).getD []).length+1) ((((Hv.get KD k).getD []).map strV)++[strV x]))
   (hb:∀ g,g<w.heap.size→(∀ v,Hv.get K k=some v→v.ownBlock≠some g)→w'.heap[g]? = w.heap[g]?)
   (hn:∀ g,v'.ownBlock=some g→N g) (hv:v'.ownBlock=((Hv.get K k).getD (.slice none 0 0)).ownBlock ∨ ∃ g,v'.ownBlock=some g∧w.heap.size≤g) :
   WkM N w' (Hv.put KD k ((Hv.get KD k).getD []++[x])) (Hv.put K k v')∧Aparts (Hv.put K k v'):=by
 have hold:∀ n u,n≠k→Hv.get K n=some u→∀ g,u.ownBlock=some g→w'.heap[g]? = w.heap[g]? := fun n u e q g hg=>by
   obtain ⟨xs,_,hr,_⟩:=h.to_ n u q
   exact hb g (hr.lt g hg).2 (fun v hv=>ha n k u v g e q hv hg)
 refine ⟨⟨h.srt.put k _,fun n u q => ?_,fun n xs q => ?_⟩,?_⟩
 · by_cases e:n=k
   · subst e
     rw[Hv.get_put_same hK] at q;cases q
     exact ⟨_,Hv.get_put_same h.srt _ _,by simpa [WkR] using ⟨hr,hn⟩⟩
   · rw[Hv.get_put_other hK _ e] at q
     rw[Hv.get_put_other h.srt _ e]
     exact (h.to_ n u q).imp fun _ a=>⟨a.1,a.2.kept (hold n u e q)⟩
 · by_cases e:n=k
   · subst e
     rw[Hv.get_put_same h.srt] at q;cases q
     exact ⟨_,Hv.get_put_same hK _ _,by simpa [WkR] using ⟨hr,hn⟩⟩
   · rw[Hv.get_put_other h.srt _ e] at q
     rw[Hv.get_put_other hK _ e]
     obtain ⟨v,a,b⟩:=h.fro n xs q
     exact ⟨v,a,b.kept (hold n v e a)⟩
 · have key:∀ n u g,n≠k→Hv.get K n=some u→u.ownBlock=some g→v'.ownBlock≠some g:=fun n u g e q hg hg'=>by
     rcases hv with hv | ⟨g',hv,hge⟩
     · cases hq:Hv.get K k with
       | none=>rw[hq] at hv;rw[hv] at hg';cases hg'
       | some z=>rw[hq] at hv;exact ha n k u z g e q hq hg (by rw[← hg',hv];rfl)
     · rw[hv] at hg';cases hg'
       obtain ⟨xs,_,hr,_⟩:=h.to_ n u q
       have:=(hr.lt _ hg).2
       omega
   intro n n' u u' g e q q' hg
   by_cases e1:n=k
   · subst e1
     rw[Hv.get_put_same hK] at q;cases q
     rw[Hv.get_put_other hK _ (fun e'=>e e'.symm)] at q'
     exact fun hg'=>key n' u' g (fun e'=>e e'.symm) q' hg' hg
   · rw[Hv.get_put_other hK _ e1] at q
     by_cases e2:n'=k
     · subst e2
       rw[Hv.get_put_same hK] at q';cases q'
       exact key n u g e1 q hg
     · rw[Hv.get_put_other hK _ e2] at q'
       exact ha n n' u u' g e q q' hg
def wokenBy (d:Hv.PD) (ch:List S):List S:=ch.filter fun x=>d.st.wakes.any fun s=>Lib.hasPrefix x s
def wakeD (D:VM Hv.PD) (ch:List S):VM (List S):=D.filterMap fun p=>if wokenBy p.2 ch=[] then none else some (p.1,wokenBy p.2 ch)
theorem wakeD_srt {D:VM Hv.PD} (h:Hv.Srt D) (ch:List S):Hv.Srt (wakeD D ch):=by
 unfold wakeD Hv.Srt
 rw[List.pairwise_filterMap]
 refine h.imp fun {a b} q x hx y hy => ?_
 split at hx
 · cases hx
 · split at hy
   · cases hy
   · cases hx;cases hy;exact q
theorem wakeD_get {D:VM Hv.PD} (h:Hv.Srt D) (ch:List S) (k:S):Hv.get (wakeD D ch) k=(match Hv.get D k with
   | none=>none
   | some d=>if wokenBy d ch=[] then none else some (wokenBy d ch)):=by
 cases q:Hv.get D k with
 | none =>
   simp only
   rw[Hv.get_none] at q ⊢
   intro p hp
   obtain ⟨a,ha,e⟩:=List.mem_filterMap.1 hp
   split at e
   · cases e
   · cases e;exact q a ha
 | some d =>
   simp only
   have hm:=(Hv.get_some h).1 q
   by_cases e:wokenBy d ch=[]
   · rw[if_pos e,Hv.get_none]
     intro p hp ek
     obtain ⟨a,ha,e2⟩:=List.mem_filterMap.1 hp
     split at e2
     · cases e2
     · next hne =>
       cases e2
       have:=h.key ha hm ek
       rw[this] at hne
       exact hne e
   · rw[if_neg e,Hv.get_some (wakeD_srt h ch)]
     exact List.mem_filterMap.2 ⟨(k,d),hm,by simp[e]⟩
def WakOn (D:VM Hv.PD) (ch:List S) (left:S→Bool) (KD:VM (List S)):Prop:=∀ k,Hv.get KD k=match Hv.get D k with
 | none=>none
 | some d=>if left k=true∨wokenBy d ch=[] then none else some (wokenBy d ch)
theorem WakOn.done {D:VM Hv.PD} {ch:List S} {left:S→Bool} {KD:VM (List S)} (h:WakOn D ch left KD) (hD:Hv.Srt D) (hK:Hv.Srt KD) (hl:∀ k,left k=false):KD=wakeD D ch :=
 hK.get_ext (wakeD_srt hD ch) fun k=>by
   rw[h k,wakeD_get hD]
   cases Hv.get D k with
   | none=>rfl
   | some d=>simp[hl k]
def wakPut (KD:VM (List S)) (k:S) (l:List S):VM (List S):=if l=[] then KD else Hv.put KD k l
theorem wakPut_get {KD:VM (List S)} (h:Hv.Srt KD) {k:S} (h0:Hv.get KD k=none) (l:List S):(Hv.get (wakPut KD k l) k).getD []=l:=by
 unfold wakPut;split
 · next e=>rw[h0,e];rfl
 · rw[Hv.get_put_same h];rfl
theorem wakPut_snoc {KD:VM (List S)} (h:Hv.Srt KD) (k:S) (l:List S) (x:S):Hv.put (wakPut KD k l) k (l++[x])=wakPut KD k (l++[x]):=by
 have e:wakPut KD k (l++[x])=Hv.put KD k (l++[x]):=by unfold wakPut;rw[if_neg (by simp)]
 rw[e]
 unfold wakPut;split
 · rfl
 · refine ((h.put _ _).put _ _).get_ext (h.put _ _) fun n => ?_
   by_cases e:n=k
   · subst e;rw[Hv.get_put_same (h.put _ _),Hv.get_put_same h]
   · rw[Hv.get_put_other (h.put _ _) _ e,Hv.get_put_other h _ e,Hv.get_put_other h _ e]
theorem WakOn.step {D:VM Hv.PD} {ch:List S} {left:S→Bool} {KD:VM (List S)} (h:WakOn D ch left KD) (hK:Hv.Srt KD) {k:S} {d:Hv.PD} (hd:Hv.get D k=some d) (hl:left k=true):WakOn D ch (fun z=>left z && !(z==k)) (wakPut KD k (wokenBy d ch)):=fun n=>by
 by_cases e:n=k
 · subst e
   rw[hd]
   have h0:=h n
   rw[hd] at h0
   simp only[hl,true_or,if_true] at h0
   unfold wakPut
   by_cases e2:wokenBy d ch=[]
   · simp[e2,h0]
   · simp[e2,Hv.get_put_same hK]
 · have h0:=h n
   have e3:(left n && !(n==k))=left n:=by simp[e]
   have e4:Hv.get (wakPut KD k (wokenBy d ch)) n=Hv.get KD n:=by
     unfold wakPut;split
     · rfl
     · exact Hv.get_put_other hK _ e
   rw[e4,h0]
   simp only[e3]
theorem WakOn.fresh {D:VM Hv.PD} {ch:List S} {left:S→Bool} {KD:VM (List S)} (h:WakOn D ch left KD) {k:S} (hl:left k=true):Hv.get KD k=none:=by
 rw[h k]
 cases Hv.get D k with
 | none=>rfl
 | some d=>simp[hl]
theorem wakPut_len (KD:VM (List S)) (k:S) (l:List S):(wakPut KD k l).length≤KD.length+1:=by
 unfold wakPut;split
 · omega
 · exact Hv.put_len _ _ _
theorem wokenBy_len (d:Hv.PD) (ch:List S):(wokenBy d ch).length≤ch.length:=List.length_filter_le _ _
theorem wokenBy_mem {d:Hv.PD} {ch:List S} {x:S} (h:x∈wokenBy d ch):x∈ch:=(List.mem_filter.1 h).1
end
section
open Go.RowKit
open Arc (St)
open Hv (S Dk VM)
theorem pre_any (x s:S) (b:Nat) (w:World) (h:w.cell? ⟨b,0,none⟩=some (.string ⟨x.toArray⟩)) :
   Calls Tryz.prog 179 #[.string ⟨s.toArray⟩, .pointer (some ⟨b,0,none⟩)] w fun e w'=>e = .returned (.bool (Lib.hasPrefix x s))∧w'=w:=by
 have HC:=hide (fun w=>Tryz.strings_HasPrefix ⟨x.toArray⟩ ⟨s.toArray⟩ w)
 go_enter Tryz.func179,Tryz.ntmps179
 go_wp2_with fail
 refine (HC.out _).mono ?_
 rintro e w1 ⟨rfl,rfl⟩
 go_wp2_with fail
 go_ret
 exact ⟨rfl,rfl⟩
theorem indexP_any (F:List S) (hF:F.length≤2000) (x:S) (b:Nat) (base:Nat) (v:Value) (w:World) (hv:w.ownsRow base 9 1 v F.length (F.map strV)) (h:w.cell? ⟨b,0,none⟩=some (.string ⟨x.toArray⟩)) :
   Calls Tryz.prog 183 #[v, .func (.func 179) #[] #[.pointer (some ⟨b,0,none⟩)]] w fun e w'=>∃ i:Int,e = .returned (.int .i64 i)∧decide (0≤i)=(F.any fun f=>Lib.hasPrefix x f)∧w'=w:=by
 obtain ⟨n,hn⟩:∃ n,F.length=n:=⟨_,rfl⟩
 rw[hn] at hv hF
 have HN:=hide hn
 obtain ⟨ao,c,rfl⟩:=slice_form hv
 clear hn
 go_enter Tryz.func183,Tryz.ntmps183
 go_wp2_with fail
 go_loopw [8] (fun i wr=>∃ k:Nat,k≤n∧i = .int .i64 k∧Hid ((F.take k).any (fun f=>Lib.hasPrefix x f)=false)∧wr=w) (fun i _=>n-(intOf i).toNat)
 case atStart=>exact ⟨0,by omega,rfl,hide rfl,rfl⟩
 case round =>
   obtain ⟨k,hk,rfl,HA,rfl⟩:=hrel
   by_cases hlt:k<n
   · have b1:(k:Int)<(n:Int):=by omega
     have hkl:k<F.length:=by rw[HN.out];exact hlt
     obtain ⟨g,c',hv2,hg,q1⟩:=strs_at (by rw[HN.out];exact hv) hkl
     obtain rfl:ao=some ⟨g,0,none⟩:=(Value.slice.inj hv2).1
     have hs:(F.take (k+1)).any (fun f=>Lib.hasPrefix x f)=Lib.hasPrefix x F[k]:=by
       rw[List.take_succ_eq_append_getElem hkl,List.any_append,HA.out]
       simp
     have hin:Lib.hasPrefix x F[k]=true→(F.any fun f=>Lib.hasPrefix x f)=true:=fun e=>List.any_eq_true.2 ⟨F[k],List.getElem_mem hkl,e⟩
     obtain ⟨y,hy⟩:∃ y,F[k]=y:=⟨_,rfl⟩
     rw[hy] at q1 hs hin
     have HS:=hide hs;have HIN:=hide hin
     clear hs hin hv2 hy
     go_wp2_with fail
     refine (pre_any x y b _ h).mono ?_
     rintro e w1 ⟨rfl,rfl⟩
     cases he:Lib.hasPrefix x y
     · have HS2:Hid ((F.take (k+1)).any (fun f=>Lib.hasPrefix x f)=false):=hide (by rw[HS.out,he])
       go_wp2_with fail
       go_roundw
       case rel=>exact ⟨k+1,by omega,by go_num,HS2,by first | rfl | trivial⟩
       case measure=>simp[intOf];omega
     · have HI2:=hide (HIN.out he)
       go_wp2_with fail
       go_ret
       exact ⟨_,rfl,by rw[HI2.out];simp,rfl⟩
   · obtain rfl:k=n:=by omega
     have HA2:Hid ((F.any fun f=>Lib.hasPrefix x f)=false):=hide (by have:=HA.out;rwa [List.take_of_length_le (by rw[HN.out];exact Nat.le_refl _)] at this)
     have b1 : ¬ (k:Int)<(k:Int):=by omega
     go_wp2_with fail
     go_ret
     exact ⟨_,rfl,by rw[HA2.out];rfl,rfl⟩
theorem containsP_any (F:List S) (hF:F.length≤2000) (x:S) (b:Nat) (base:Nat) (v:Value) (w:World) (hv:w.ownsRow base 9 1 v F.length (F.map strV)) (h:w.cell? ⟨b,0,none⟩=some (.string ⟨x.toArray⟩)) :
   Calls Tryz.prog 178 #[v, .func (.func 179) #[] #[.pointer (some ⟨b,0,none⟩)]] w fun e w'=>e = .returned (.bool (F.any fun f=>Lib.hasPrefix x f))∧w'=w:=by
 have H:=hide (indexP_any F hF x b base v w hv h)
 obtain ⟨ao,c,rfl⟩:=slice_form hv
 clear hv h
 go_enter Tryz.func178,Tryz.ntmps178
 go_wp2_with (go_at_call 183;refine H.out.mono ?_;rintro e w1 ⟨i,rfl,hi,rfl⟩)
 go_ret
 exact ⟨by rw[← hi];rfl,rfl⟩
end
section
open Go.RowKit
open Hv (S Dk VM)
def stepV (s:Hv.Step):List Value:=[.int .i64 s.1,strV s.2]
theorem info_stp:(Tryz.prog.info? 285).map (fun i=>(i.zero,i.size,i.bytes))=some (some (.agg #[.int .i64 0, .string ByteArray.empty]),2,24):=by kernel_rfl
theorem own_cells {w:World} {B e s n g:Nat} {v:Value} {xs:List Value} (h:w.ownsRow B e s v n xs) (hg:v.ownBlock=some g):∃ cs,w.heap[g]? = some (.cells cs e (0,0)):=by
 rcases h.2 with ⟨rfl,_⟩ | ⟨g1,cap,cur,rfl,_,q,_⟩
 · cases hg
 · cases hg;exact ⟨cur,q⟩
structure AddIn (pb B0:Nat) (im km:Value) (k:Int) (so:Option Addr) (sc:Nat) (st:List Hv.Step) (xs:List S) (va:Option Addr) (vc:Nat) (w:World) (j:Nat) (so':Option Addr) (sc':Nat) (wr:World):Prop where
 blk:wr.heap[pb]? = some (.cells #[.slice so' (st.length+j) sc',im,km] 89 (0,0))
 row:wr.ownsRow B0 285 2 (.slice so' (st.length+j) sc') (st.length+j) ((st++(xs.take j).map fun x=>(k,x)).flatMap stepV)
 names:wr.ownsRow 0 9 1 (.slice va xs.length vc) xs.length (xs.map strV)
 far:Far w.heap.size (fun q=>q=pb∨(Value.slice so st.length sc).ownBlock=some q) w wr
 foot:∀ q,(Value.slice so' (st.length+j) sc').ownBlock=some q→(Value.slice so st.length sc).ownBlock=some q∨w.heap.size≤q
theorem add_any (pb B0:Nat) (hpb:pb<B0) (im km:Value) (k:Int) (so:Option Addr) (sc:Nat) (st:List Hv.Step) (xs:List S) (hroom:st.length+xs.length≤1000) (v:Value) (w:World)
   (hr:w.heap[pb]? = some (.cells #[.slice so st.length sc,im,km] 89 (0,0))) (ho:w.ownsRow B0 285 2 (.slice so st.length sc) st.length (st.flatMap stepV)) (hB0:B0≤w.heap.size)
   (hv:w.ownsRow 0 9 1 v xs.length (xs.map strV)) :
   Calls Tryz.prog 128 #[.pointer (some ⟨pb,0,none⟩), .int .i64 k,v] w fun e w'=>∃ u so' sc',e = .returned u ∧
     w'.heap[pb]? = some (.cells #[.slice so' (st++xs.map fun x=>(k,x)).length sc',im,km] 89 (0,0))∧w'.ownsRow B0 285 2 (.slice so' (st++xs.map fun x=>(k,x)).length sc') (st++xs.map fun x=>(k,x)).length ((st++xs.map fun x=>(k,x)).flatMap stepV) ∧
     Far w.heap.size (fun q=>q=pb∨(Value.slice so st.length sc).ownBlock=some q) w w':=by
 obtain ⟨i0,hi,hz0,hz1,hz2⟩:=info_three info_stp
 obtain ⟨va,vc,rfl⟩:=slice_form hv
 have HI0:Hid (AddIn pb B0 im km k so sc st xs va vc w 0 so sc w):=hide ⟨hr,by simpa using ho,hv,Far.refl _ _ _,fun q h => .inl h⟩
 clear hv ho hr
 obtain ⟨n,hn⟩:∃ n,xs.length=n:=⟨_,rfl⟩
 obtain ⟨m,hm⟩:∃ m,st.length=m:=⟨_,rfl⟩
 have HN:=hide hn;have HMM:=hide hm
 rw[hn,hm] at hroom
 rw[hn]
 clear hn hm
 go_enter Tryz.func128,Tryz.ntmps128
 go_wp2_with fail
 go_loopw [10] (fun i wr=>∃ (j:Nat) (so':Option Addr) (sc':Nat),j≤n∧i = .int .i64 (j:Int)∧Hid (AddIn pb B0 im km k so sc st xs va vc w j so' sc' wr)) (fun i _=>n-(intOf i).toNat)
 case atStart=>exact ⟨0,so,sc,Nat.zero_le _,rfl,HI0⟩
 case round =>
   clear HI0
   obtain ⟨j,so',sc',hj,rfl,HI⟩:=hrel
   by_cases hlt:j<n
   · have b1:(j:Int)<(n:Int):=by omega
     have hjl:j<xs.length:=by have:=HN.out;omega
     obtain ⟨g,c',hv2,hg,q1⟩:=strs_at HI.out.names hjl
     obtain rfl:va=some ⟨g,0,none⟩:=(Value.slice.inj hv2).1
     have hT:(st++(xs.take (j+1)).map fun x=>(k,x)).flatMap stepV=((st++(xs.take j).map fun x=>(k,x)).flatMap stepV)++[.int .i64 k, .string ⟨xs[j].toArray⟩]:=by
       rw[List.take_succ_eq_append_getElem hjl,List.map_append,← List.append_assoc,List.flatMap_append]
       rfl
     have HT:=hide hT
     obtain ⟨x,hx⟩:∃ x,xs[j]=x:=⟨_,rfl⟩
     rw[hx] at q1 HT
     obtain ⟨ys,hys⟩:∃ ys,(st++(xs.take j).map fun x=>(k,x)).flatMap stepV=ys:=⟨_,rfl⟩
     have HO:=hide (show wr.ownsRow B0 285 2 (.slice so' (m+j) sc') (m+j) ys by rw[← hys,← HMM.out];exact HI.out.row)
     have HBK:=hide (show wr.heap[pb]? = some (.cells #[.slice so' (m+j) sc',im,km] 89 (0,0)) by rw[← HMM.out];exact HI.out.blk)
     have c0:=(row_cell HBK.out 0).trans (show _=some (.slice so' (m+j) sc') from rfl)
     have f0:=row_free HBK.out 0
     rw[hys] at HT
     have hpl:=blt HBK.out
     have hgb:=HI.out.far.size
     clear hv2 hT hx hys
     go_wp2_with (first
       | (at_builtin;refine wpList_append_own_at _ rfl _ _ 85 rfl B0 285 i0 (.agg #[.int .i64 0, .string ByteArray.empty]) 2 24 Tryz.underlying85 hi hz0 hz1 hz2 rfl (by decide) _ _ _ rfl (HO.out.alloc _) ⟨wr.heap.size,0,none⟩ 1 1 [.int .i64 k, .string ⟨x.toArray⟩] rfl rfl (cell_two_new _ _ _ _) (fun x hx=>by simp at hx;rcases hx with rfl | rfl<;>rfl) (by unfold maxLen;omega) (by omega) (by simp;omega) ?_;intro v' w4 hown' hgrow4 hnil4 hat4;have A4:=hide hat4;obtain ⟨gv,cv,rfl⟩:=own_form hown' (by omega);have hk4:=(hgrow4.block pb (by simp;omega) (fun e=>by have:=(HO.out.lt pb e.symm).1;omega)).trans ((Below.heap_alloc _ _ _ (by show pb<wr.heap.size;omega)).trans HBK.out);have q5:=(row_cell hk4 0).trans (show _=some (.slice so' (m+j) sc') from rfl);have g5:=row_free hk4 0;have K4:=hide hk4;have O4:=hide hown';have G4:=hide hgrow4;clear hown' hgrow4 hnil4 hat4 hk4))
     have hs4:wr.heap.size+1≤w4.heap.size:=by have:=G4.out.size;simpa using this
     have hgb2:=(O4.out.lt gv rfl).1
     have HI2:Hid (AddIn pb B0 im km k so sc st xs (some ⟨g,0,none⟩) vc w (j+1) (some ⟨gv,0,none⟩) cv (w4.setCell ⟨pb,0,none⟩ (.slice (some ⟨gv,0,none⟩) (m+j+1) cv))):=hide (by
       have hm:=HMM.out
       have hfoot:=HI.out.foot
       have hf1:Far w.heap.size (fun q=>q=pb∨(Value.slice so st.length sc).ownBlock=some q) w w4:=(HI.out.far.alloc hgb _).grown G4.out (by simp;omega) (fun q hq=>by
         have hq:(Value.slice so' (m+j) sc').ownBlock=some q:=hq
         rw[← hm] at hq
         rcases hfoot q hq with h | h
         · exact .inr (.inr h)
         · exact .inl h)
       refine ⟨?_,?_,?_,hf1.setCell (p:=⟨pb,0,none⟩) (.inr (.inl rfl)) _,?_⟩
       · rw[hm];exact heap_setCell_same _ pb 0 _ _ _ K4.out
       · rw[hm,HT.out];exact own_away O4.out (fun e=>by have e2:gv=pb:=Option.some.inj e;omega)
       · refine own_away (ownsRow_kept' HI.out.names fun g' hg' => ?_) (fun e => ?_)
         · cases hg'
           exact (G4.out.block g (by simp;omega) (fun e=>own_apart HI.out.names HO.out (by decide) rfl e.symm)).trans (Below.heap_alloc _ _ _ hg)
         · cases e
           obtain ⟨cs,h⟩:=own_cells HI.out.names rfl
           rw[HBK.out] at h
           cases h
       · intro q hq
         have e2:gv=q:=Option.some.inj hq
         rcases A4.out with h | h
         · have h2:(Value.slice so' (m+j) sc').ownBlock=some q:=by rw[← e2];exact h.symm
           rw[← hm] at h2;exact hfoot q h2
         · have h2:gv=(wr.alloc (.cells #[.int .i64 k, .string ⟨x.toArray⟩] 285)).heap.size:=Option.some.inj h
           simp at h2
           exact .inr (by omega))
     go_wp2_with fail
     go_roundw
     case rel=>exact ⟨j+1,_,cv,by omega,by go_num,HI2⟩
     case measure=>simp[intOf];omega
   · obtain rfl:j=n:=by omega
     have b1 : ¬ (j:Int)<(j:Int):=by omega
     go_wp2_with fail
     go_end0
     have h1:=HI.out.blk
     have h2:=HI.out.row
     have e:(st++xs.map fun x=>(k,x)).length=st.length+j:=by rw[List.length_append,List.length_map,HN.out]
     rw[List.take_of_length_le (by have:=HN.out;omega)] at h2
     have hnn:=HN.out
     simp only[List.flatMap_append] at h2
     first
       | exact ⟨⟨_,rfl⟩,so',sc',h1,h2,HI.out.far⟩
       | exact ⟨⟨_,rfl⟩,so',sc',by simpa [hnn] using h1,by simpa [hnn] using h2,HI.out.far⟩
end
section
open Go.RowKit
open Arc (St)
open Hv (S Dk VM)
structure WkIn (B:Nat) (DT:VM Hv.PD) (ch:List S) (w:World) (left:S→Bool) (KD:VM (List S)) (K:VM Value) (wr:World):Prop where
 map:MapAt wr B K
 wk:WkM (fun g=>B<g) wr KD K
 ap:Aparts K
 on:WakOn DT ch left KD
 far:Below B w wr
theorem WkM.at_ {N:Nat→Prop} {w:World} {KD:VM (List S)} {K:VM Value} (h:WkM N w KD K) (k:S):∃ a c,(Hv.get K k).getD (.slice none 0 0) = .slice a ((Hv.get KD k).getD []).length c∧w.ownsRow 0 9 1 (.slice a ((Hv.get KD k).getD []).length c) ((Hv.get KD k).getD []).length (((Hv.get KD k).getD []).map strV)∧∀ g,(Value.slice a ((Hv.get KD k).getD []).length c).ownBlock=some g→N g:=by
 cases q:Hv.get K k with
 | none =>
   rw[h.get_none q]
   exact ⟨none,0,rfl,World.ownsRow_nil _ _ _ _,fun g hg=>by cases hg⟩
 | some v =>
   obtain ⟨xs,hx,hr,hn⟩:=h.to_ k v q
   rw[hx]
   obtain ⟨a,c,rfl⟩:=slice_form hr
   exact ⟨a,c,rfl,hr,hn⟩
theorem map_no_cells {w:World} {b B e s n:Nat} {E:VM Value} {v:Value} {xs:List Value} (h:MapAt w b E) (hr:w.ownsRow B e s v n xs) (hg:v.ownBlock=some b):False:=by
 obtain ⟨cs,q⟩:=own_cells hr hg
 exact h.no_row _ _ _ q
theorem iter_no_cells {w:World} {b r cnt B e s n:Nat} {left:S→Bool} {E:VM Value} {v:Value} {xs:List Value} (h:MapOn w b r E left cnt) (hr:w.ownsRow B e s v n xs) (hg:v.ownBlock=some r):False:=by
 obtain ⟨cs,q⟩:=own_cells hr hg
 exact h.no_row _ _ _ q
theorem len_keys {α β:Type} {E:VM α} {F:VM β} (h:keysOf E=keysOf F):E.length=F.length:=by
 have:=congrArg List.length h
 simpa [keysOf] using this
structure WkJ (B A:Nat) (tm:Nat) (E:VM Value) (left':S→Bool) (cnt1:Nat) (KD:VM (List S)) (nK:Nat) (k:S) (p:Pk) (l:List S) (w:World) (K:VM Value) (wr:World):Prop where
 on:MapOn wr tm (B+1) E left' cnt1
 map:MapAt wr B K
 wk:WkM (fun g=>B<g) wr (wakPut KD k l) K
 ap:Aparts K
 kd:KD.length≤nK
 row:wr.heap[A]? = some (.cells p.cells 156 (0,0))
 far:Below B w wr
theorem WkJ.below {B A tm:Nat} {E:VM Value} {left':S→Bool} {cnt1 nK:Nat} {KD:VM (List S)} {k:S} {p:Pk} {l:List S} {w:World} {K:VM Value} {wr w':World} (h:WkJ B A tm E left' cnt1 KD nK k p l w K wr) (hb:Below wr.heap.size wr w') (hB:B≤wr.heap.size):WkJ B A tm E left' cnt1 KD nK k p l w K w' :=
 ⟨h.on.below hb,h.map.below hb,h.wk.below hb,h.ap,h.kd,(hb.block A (blt h.row)).trans h.row,h.far.trans (hb.mono hB)⟩
theorem WkJ.len {B A tm:Nat} {E:VM Value} {left':S→Bool} {cnt1 nK:Nat} {KD:VM (List S)} {k:S} {p:Pk} {l:List S} {w:World} {K:VM Value} {wr:World} (h:WkJ B A tm E left' cnt1 KD nK k p l w K wr):K.length≤nK+1:=by
 have h1:=len_keys (h.wk.keys h.map.1)
 have h2:=wakPut_len KD k l
 have h3:=h.kd
 omega
theorem wokenBy_snoc (d:Hv.PD) (ch:List S) {j:Nat} (hj:j<ch.length):wokenBy d (ch.take (j+1))=if (d.st.wakes.any fun s=>Lib.hasPrefix ch[j] s)=true then wokenBy d (ch.take j)++[ch[j]] else wokenBy d (ch.take j):=by
 unfold wokenBy
 rw[List.take_succ_eq_append_getElem hj,List.filter_append,List.filter_cons,List.filter_nil]
 split<;>simp
theorem waking_any (tm:Nat) (E:VM Value) (DT:VM Hv.PD) (N:Nat→Prop) (ch:List S) (hch:ch.length≤1000) (hcx:∀ x∈ch,x.length≤24) (hE:E.length≤1000) (v:Value) (w:World) (ht:MapAt w tm E) (hP:PkM N w DT E) (hv:w.ownsRow 0 9 1 v ch.length (ch.map strV)) :
   Calls Tryz.prog 124 #[.map (some tm),v] w fun e w'=>∃ K,e = .returned (.map (some w.heap.size))∧MapAt w' w.heap.size K∧WkM (fun g=>w.heap.size<g) w' (wakeD DT ch) K∧Below w.heap.size w w':=by
 obtain ⟨i0,hi,hz0,hz1,hz2⟩:=info_three info_str
 have hmm := @run_makeMap Tryz.prog
 obtain ⟨va,vc,rfl⟩:=slice_form hv
 have HT:=hide ht;have HPP:=hide hP;have HV:=hide hv;have HCX:=hide hcx
 have htl:=ht.lt
 have hb1:=(Below.refl w.heap.size w).alloc (Nat.le_refl _) (.map #[] 0)
 have hm1:=MapAt.made w
 have hs1:(w.alloc (.map #[] 0)).heap.size=w.heap.size+1:=by simp
 have ht1:=ht.below hb1
 have HM1:=hide hm1;have HB1:=hide hb1
 obtain ⟨n,hn⟩:∃ n,ch.length=n:=⟨_,rfl⟩
 have HN:=hide hn
 rw[hn] at hch ⊢
 clear ht hP hv hcx hm1 hb1 hn
 go_enter Tryz.func124,Tryz.ntmps124
 go_wp2_with (first
   | (at_range;refine wp_range rfl _ 86 rfl 156 Tryz.underlying86 ht1 rfl ?_;intro w0 hrg0 hg0 hs0;have HG0:=hide hrg0;have HB0:=hide (HB1.out.grown hg0 HB1.out.size (fun q hq=>by cases hq));have HM0:=hide (HM1.out.kept (hg0.block _ HM1.out.lt (by simp)))))
 rw[hs1] at HG0 hs0 ⊢
 go_frame
 clear hg0 hrg0 ht1 hs1
 obtain ⟨B,hB⟩:∃ B,w.heap.size=B:=⟨_,rfl⟩
 rw[hB] at htl hs0 HG0 HM0 HB0 ⊢
 have HBE:=hide hB
 have HI0:Hid (WkIn B DT ch w (Hv.has E) [] [] w0):=hide ⟨HM0.out,WkM.nil _ _,fun k k' v v' g _ h=>(by cases h),fun k=>by
   cases q:Hv.get DT k with
   | none=>rfl
   | some d=>simp only;rw[if_pos (.inl (by rw[HPP.out.has_eq,Hv.has_get,q];rfl))];rfl,HB0.out⟩
 clear HM0 HB0 HM1 HB1 hB
 go_loopw [13] (fun _ wr=>∃ (left:S→Bool) (cnt:Nat) (KD:VM (List S)) (K:VM Value),Hid (MapOn wr tm (B+1) E left cnt)∧Hid (WkIn B DT ch w left KD K wr)∧K.length+cnt≤E.length∧B+1<wr.heap.size)
   (fun _ wr=>wr.rangeLeft tm (B+1))
 case atStart=>exact ⟨_,_,_,_,HG0,HI0,by simp,by omega⟩
 case round =>
   clear HG0 HI0
   obtain ⟨left,cnt,KD,K,HG,HI,hroom,hsz⟩:=hrel
   go_wp2_with (first
     | (at_next;refine wp_next rfl _ rfl (B+1) left cnt rfl HG.out ?_ ?_))
   · intro hc0 hl0
     have HE:=hide (HI.out.on.done HPP.out.srt HI.out.wk.srt hl0)
     go_wp2_with fail
     go_ret
     have h:=HI.out.wk
     rw[HE.out] at h
     rw[HBE.out]
     exact ⟨K,rfl,HI.out.map,h,HI.out.far⟩
   · intro k v w4 cnt1 hk hlk hget hrg1 hlt hg1 hs1 hen
     obtain ⟨d,hd,p,rfl,pr⟩:=HPP.out.to_ k v hget
     have HDD:=hide hd
     have hs4:w4.heap.size=wr.heap.size:=hs1
     have hb5:=(Below.refl w4.heap.size w4).alloc (Nat.le_refl _) (.cells p.cells 156)
     have HG4:=hide (hrg1)
     have HM4:=HI.out.map.kept (hg1.block B HI.out.map.lt (by simp))
     have hnr:=HG.out.no_row
     have hfr:Far wr.heap.size (fun q=>q=B+1) wr w4:=⟨hg1.os,hg1.tape,hg1.output,hg1.size,fun q hq hc=>hg1.block q hq (fun e=>hc (Option.some.inj e))⟩
     have HW4:=HI.out.wk.turned hnr hfr (Nat.le_refl _)
     have HB4:=HI.out.far.trans (hfr.toBelow (by omega) (fun q _ (e:q=B+1)=>by omega))
     have HI4:Hid (WkIn B DT ch w left KD K w4):=hide ⟨HM4,HW4,HI.out.ap,HI.out.on,HB4⟩
     have hrow5:=heap_alloc_new w4 (.cells p.cells 156)
     have HG5:=hide (HG4.out.below hb5)
     have HI5:Hid (WkIn B DT ch w left KD K (w4.alloc (.cells p.cells 156))):=hide ⟨HM4.below hb5,HW4.below hb5,HI.out.ap,HI.out.on,HB4.trans (hb5.mono (by omega))⟩
     have HPR:=hide (show PkR N w d p.val from ⟨p,rfl,pr⟩)
     have HR5:=hide hrow5
     simp only[Pk.val,Pk.cells] at hen ⊢
     simp only[Pk.cells] at HG5 HI5
     clear hrg1 hg1 hget pr hd hb5 HM4 HW4 HB4 hfr hnr HI hrow5
     obtain ⟨A,hA⟩:∃ A,w4.heap.size=A:=⟨_,rfl⟩
     have hAB:B+1<A:=by omega
     have hszA:(w4.alloc (.cells p.cells 156)).heap.size=A+1:=by simp[hA]
     have HFR:=hide (HI4.out.on.fresh hlk)
     have HST:=hide (fun h=>HI4.out.on.step h HDD.out hlk)
     have HSK:=hide HI4.out.wk.srt
     have hnK:K.length+1≤E.length+1-cnt1:=by omega
     have HJ0:Hid (WkJ B A tm E (fun z=>left z && !(z==k)) cnt1 KD K.length k p (wokenBy d (ch.take 0)) w K (w4.alloc (.cells p.cells 156))):=hide
       ⟨HG5.out,HI5.out.map,(show WkM (fun g=>B<g) _ KD K from HI5.out.wk),HI5.out.ap,Nat.le_of_eq (len_keys (HI5.out.wk.keys HI5.out.map.1)).symm,by rw[← hA];exact HR5.out,HI5.out.far⟩
     simp only[Pk.cells] at HJ0 hszA
     clear HI4 HI5 HG5 HR5 HG4
     have hAw:wr.heap.size=A:=by omega
     have HML:=hide hlt
     have HLE:=hide HG.out.left_eq
     clear hA
     go_wp2_with fail
     clear hAw hs4
     go_loopw [20] (fun i wr=>∃ (j:Nat) (K':VM Value),j≤n∧i = .int .i64 (j:Int)∧Hid (WkJ B A tm E (fun z=>left z && !(z==k)) cnt1 KD K.length k p (wokenBy d (ch.take j)) w K' wr)∧A<wr.heap.size) (fun i _=>n-(intOf i).toNat)
     case atStart=>exact ⟨0,K,Nat.zero_le _,rfl,HJ0,by omega⟩
     case round =>
       clear HJ0
       obtain ⟨j,K',hj,rfl,HJ,hszj⟩:=hrel
       by_cases hlj:j<n
       · have b1:(j:Int)<(n:Int):=by omega
         have hjl:j<ch.length:=by have:=HN.out;omega
         obtain ⟨g,c',hv2,hg,q1⟩:=strs_at (show w.ownsRow 0 9 1 (.slice va ch.length vc) ch.length (ch.map strV) by rw[HN.out];have:=HV.out;rwa [HN.out] at this) hjl
         obtain rfl:va=some ⟨g,0,none⟩:=(Value.slice.inj hv2).1
         have hBw:w.heap.size=B:=HBE.out
         have d1:=(HJ.out.far.cell (p:=⟨g,j,none⟩) (show g<B by omega)).trans q1
         have hx24:=HCX.out _ (List.getElem_mem hjl)
         have HWS:=hide (wokenBy_snoc d ch hjl)
         obtain ⟨x,hx⟩:∃ x,ch[j]=x:=⟨_,rfl⟩
         rw[hx] at d1 hx24 HWS
         have hrow:=HJ.out.row
         have T:=Pk.at_ hrow
         have hb6:=(Below.refl wr.heap.size wr).alloc (Nat.le_refl _) (.cells #[.string ⟨x.toArray⟩] 9)
         have HJ6:=hide (HJ.out.below hb6 (by omega))
         have k5:=(hb6.cell (p:=⟨A,5,none⟩) (show A<wr.heap.size from hszj)).trans T.2.2.2.2.2.1
         have HX6:=hide (row_cell (heap_alloc_new wr (.cells #[.string ⟨x.toArray⟩] 9)) 0)
         have hP6:=HPR.out.below (w':=wr.alloc (.cells #[.string ⟨x.toArray⟩] 9)) (by rw[hBw];exact HJ6.out.far)
         obtain ⟨p',hpe, -, -, -, -,hpk, -⟩:=hP6
         have hrw:=hpk.rows 2
         have hsl:(p'.sl 2) = .slice p.wakes.a p.wakes.n p.wakes.c:=by have:=congrArg (fun v=>match v with | .agg c=>c.getD 5 undef | _=>undef) hpe;exact this.symm
         have hwl:d.st.wakes.length≤2000:=by have:=(parse_fits hpk.parse).2.2.1.2.2.1;omega
         rw[hsl] at hrw
         have HW6:=hide hrw
         clear hv2 q1 hx hb6 hpe hpk hrw hsl T hrow
         go_wp2_with fail
         refine (containsP_any d.st.wakes hwl x wr.heap.size 0 (.slice p.wakes.a p.wakes.n p.wakes.c) _ HW6.out HX6.out).mono ?_
         rintro e w6 ⟨rfl,rfl⟩
         cases hh:(d.st.wakes.any fun f=>Lib.hasPrefix x f)
         · have HE2:Hid (wokenBy d (ch.take (j+1))=wokenBy d (ch.take j)):=hide (by rw[HWS.out,hh];rfl)
           go_wp2_with fail
           go_roundw
           case rel=>exact ⟨j+1,K',by omega,by go_num,hide (by rw[HE2.out];exact HJ6.out),by simp;omega⟩
           case measure=>simp[intOf];omega
         · have HE2:Hid (wokenBy d (ch.take (j+1))=wokenBy d (ch.take j)++[x]):=hide (by rw[HWS.out,hh];rfl)
           obtain ⟨la,lc,hle,hlr,hln⟩:=HJ6.out.wk.at_ k
           have HLL:=hide (wakPut_get HSK.out HFR.out (wokenBy d (ch.take j)))
           rw[HLL.out] at hle hlr hln
           obtain ⟨l,hl⟩:∃ l,wokenBy d (ch.take j)=l:=⟨_,rfl⟩
           have hll:l.length≤1000:=by have:=wokenBy_len d (ch.take j);rw[hl,List.length_take] at this;omega
           rw[hl] at hle hlr hln HE2 HJ6 HLL
           have hmp:=HJ6.out.map
           have HLR:=hide hlr;have HLN:=hide hln;have HLE2:=hide hle
           have hk24:k.length≤maxLen:=hk
           have hkl:K'.length<maxLen:=by have:=HJ6.out.len;unfold maxLen;omega
           have hwz:(wr.alloc (.cells #[.string ⟨x.toArray⟩] 9)).heap.size=wr.heap.size+1:=by simp
           obtain ⟨u,hu⟩:∃ u,wr.alloc (.cells #[.string ⟨x.toArray⟩] 9)=u:=⟨_,rfl⟩
           have hx6:=HX6.out
           rw[hu] at hwz HJ6 HLR hmp hx6 ⊢
           have HWZ:=hide hwz
           clear hlr hln hle hl hu k5 d1 HW6 HX6 hwz
           go_wp2_with (first
             | (at_lookup;refine wp_look rfl _ _ 87 rfl 28 Tryz.underlying87 (zero_strs _) hmp rfl k hk24 rfl ?_;rw[HLE2.out];go_frame)
             | (at_builtin; (refine wpList_append_own_at _ rfl _ _ 28 rfl 0 9 i0 (.string ByteArray.empty) 1 16 Tryz.underlying28 hi hz0 hz1 hz2 rfl (by decide) _ _ _ rfl (HLR.out.alloc _) ⟨u.heap.size,0,none⟩ 1 1 [.string ⟨x.toArray⟩] rfl rfl (cell_one_new _ _ _) (fun x hx=>by simp at hx;subst hx;rfl) (by unfold maxLen;omega) (by omega) (Nat.zero_le _) ?_);intro v' w8 hown' hgrow8 hnil8 hat8;obtain ⟨gv,cv,rfl⟩:=own_form hown' (by omega);have hm8:=HJ6.out.map.kept ((hgrow8.block B (by simp;have:=HJ6.out.map.lt;omega) (fun e=>by have:=HLN.out B e.symm;omega)).trans (Below.heap_alloc _ _ _ HJ6.out.map.lt));obtain ⟨w9,hrun9,hm9,ht9⟩:=hm8.store Tryz.underlying87 hkl k hk24 (.slice (some ⟨gv,0,none⟩) (l.length+1) cv);have HO8:=hide hown';have HG8:=hide hgrow8;have HA8:=hide hat8;have HM9:=hide hm9;have HT9:=hide ht9;clear hown' hgrow8 hnil8 hat8 hm8 hm9 ht9))
           have HF8:Far u.heap.size (fun q=>(Value.slice la l.length lc).ownBlock=some q) u w8:=((Far.refl _ _ u).alloc (Nat.le_refl _) _).grown HG8.out (by simp) (fun q hq => .inr hq)
           have hs8:u.heap.size+1≤w8.heap.size:=by have:=HG8.out.size;simpa using this
           have hgvB:B<gv:=by
             rcases HA8.out with h | h
             · exact HLN.out gv h.symm
             · have h2:gv=(u.alloc (.cells #[.string ⟨x.toArray⟩] 9)).heap.size:=Option.some.inj h
               simp at h2
               have:=HWZ.out
               omega
           obtain ⟨hap1,hap2⟩:=HJ6.out.wk.app HJ6.out.map.1 HJ6.out.ap k x (.slice (some ⟨gv,0,none⟩) (l.length+1) cv) (w':=w8) (by rw[HLL.out];exact HO8.out) (fun q hq hno=>HF8.block q hq (fun e=>by
               cases hk9:Hv.get K' k with
               | none =>
                 have h:=HLE2.out
                 rw[hk9] at h
                 have e2:la=none:=(Value.slice.inj h).1.symm
                 rw[e2] at e
                 cases e
               | some v =>
                 have h:=HLE2.out
                 rw[hk9] at h
                 exact hno v hk9 (by rw[show v=_ from h];exact e))) (fun q hq=>by cases hq;exact hgvB) (by
               rcases HA8.out with h | h
               · exact .inl (by rw[HLE2.out];exact h)
               · refine .inr ⟨gv,rfl,?_⟩
                 have h2:gv=(u.alloc (.cells #[.string ⟨x.toArray⟩] 9)).heap.size:=Option.some.inj h
                 simp at h2
                 omega)
           rw[HLL.out,wakPut_snoc HSK.out] at hap1
           have hf9:=turned_far HT9.out
           have hn8:∀ cs t fz,w8.heap[B]? ≠ some (.cells cs t fz):=by
             have h:=HJ6.out.map.kept (w':=w8) (HF8.block B HJ6.out.map.lt (fun e=>by have:=HLN.out B e;omega))
             exact h.no_row
           have hBu:=HJ6.out.map.lt
           have hAu:=blt HJ6.out.row
           have hz8:B<w8.heap.size:=by omega
           have HJ9:Hid (WkJ B A tm E (fun z=>left z && !(z==k)) cnt1 KD K.length k p (wokenBy d (ch.take (j+1))) w (Hv.put K' k (.slice (some ⟨gv,0,none⟩) (l.length+1) cv)) w9):=hide (by
             rw[HE2.out]
             have hon8:MapOn w8 tm (B+1) E (fun z=>left z && !(z==k)) cnt1:=HJ6.out.on.blocks (HF8.block tm HJ6.out.on.lts.1 (fun e=>map_no_cells HJ6.out.on.map HLR.out e)) (HF8.block (B+1) HJ6.out.on.lts.2 (fun e=>iter_no_cells HJ6.out.on HLR.out e))
             refine ⟨hon8.far hf9 (Nat.le_refl _) (by omega) (by omega),HM9.out,hap1.turned hn8 hf9 (Nat.le_refl _),hap2,?_,?_,?_⟩
             · exact HJ6.out.kd
             · refine (hf9.block A (by omega) (by omega)).trans ((HF8.block A (blt HJ6.out.row) (fun e => ?_)).trans HJ6.out.row)
               obtain ⟨cs,h⟩:=own_cells HLR.out e
               rw[HJ6.out.row] at h
               cases h
             · exact (HJ6.out.far.trans (HF8.toBelow (by omega) (fun q hq (e:(Value.slice la l.length lc).ownBlock=some q)=>by have:=HLN.out q e;omega))).trans (hf9.toBelow (by omega) (fun q hq (e:q=B)=>by omega)))
           have hs9:=hf9.size
           have hz9:A<w9.heap.size:=by omega
           clear hap1 hap2 hf9 hn8 HF8
           go_roundw
           case rel=>exact ⟨j+1,_,by omega,by go_num,HJ9,hz9⟩
           case measure=>simp[intOf];omega
       · obtain rfl:j=n:=by omega
         have b1 : ¬ (j:Int)<(j:Int):=by omega
         have HIE:Hid (WkIn B DT ch w (fun z=>left z && !(z==k)) (wakPut KD k (wokenBy d ch)) K' wr):=hide (by
           have e:ch.take j=ch:=List.take_of_length_le (by have:=HN.out;omega)
           have h:=HJ.out
           rw[e] at h
           exact ⟨h.map,h.wk,h.ap,HST.out HSK.out,h.far⟩)
         have hlen:=HJ.out.len
         go_wp2_with fail
         go_roundw
         case rel=>exact ⟨_,cnt1,_,K',hide HJ.out.on,HIE,by omega,by omega⟩
         case measure=>rw[HJ.out.on.left_eq,HLE.out];exact HML.out
end
end Go.Proofs.YtialenebfcnkkaaGreatDoor
