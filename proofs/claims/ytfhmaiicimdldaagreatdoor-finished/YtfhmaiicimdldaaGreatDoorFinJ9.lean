import Derived.Test.YtfhmaiicimdldaaGreatDoorFinJ8
set_option maxHeartbeats 4000000
set_option maxRecDepth 100000
namespace Go.Proofs.YtfhmaiicimdldaaGreatDoor
variable {dn im m s st v wm z:Value}{w w':World}{B b eb fm mb n pm:Nat}{C:Nat->Prop}
section
open Go
namespace Hv
abbrev VM (α:Type):=List (S × α)
def ins {α:Type} (x:S × α):VM α->VM α
 | []=>[x]
 | y::r=>if bytesBefore x.1 y.1 then x::y::r else y::ins x r
def del {α:Type} (E:VM α) (k:S):VM α:=E.filter fun p => !(p.1==k)
def put {α:Type} (E:VM α) (k:S) (v:α):VM α:=ins (k,v) (del E k)
def get {α:Type} (E:VM α) (k:S):Option α:=(E.find? fun p=>p.1==k).map (·.2)
def has {α:Type} (E:VM α) (k:S):Bool:=E.any fun p=>p.1==k
def Ki {α:Type} (E:VM α):Prop:=E.Pairwise fun p q=>bytesBefore p.1 q.1=true
theorem Lx:∀ a:S,bytesBefore a a=false
 | []=>rfl
 | a::r=>by simp[bytesBefore,Lx r]
theorem Xr:∀ {a b c:S},bytesBefore a b=true->bytesBefore b c=true->bytesBefore a c=true
 | [],[],_,h,_=>by simp[bytesBefore] at h
 | [],_::_,[],_,h=>by simp[bytesBefore] at h
 | [],_::_,_::_,_,_=>rfl
 | _::_,[],_,h,_=>by simp[bytesBefore] at h
 | _::_,_::_,[],_,h=>by simp[bytesBefore] at h
 | a::r,b::s,c::t,h,k=>by
   simp only[bytesBefore,Bool.or_eq_true,decide_eq_true_eq,Bool.and_eq_true,beq_iff_eq] at h k |-;rcases h with h | ⟨rfl,h⟩
   · rcases k with k | ⟨rfl,k⟩
     · exact .inl (UInt8.lt_trans h k)
     · exact .inl h
   · rcases k with k | ⟨rfl,k⟩
     · exact .inl k
     · exact .inr ⟨rfl,Xr h k⟩
theorem abN:∀ (a b:S),a≠b->bytesBefore a b=true\/bytesBefore b a=true
 | [],[],h=>absurd rfl h
 | [],_::_,_ => .inl rfl
 | _::_,[],_ => .inr rfl
 | a::r,b::s,h=>by
   simp only[bytesBefore,Bool.or_eq_true,decide_eq_true_eq,Bool.and_eq_true,beq_iff_eq];by_cases e:a=b
   · subst e;rcases abN r s (fun q=>h (by rw[q])) with k | k
     · exact .inl (.inr ⟨rfl,k⟩)
     · exact .inr (.inr ⟨rfl,k⟩)
   · rcases UInt8.lt_or_lt_of_ne e with k | k
     · exact .inl (.inl k)
     · exact .inr (.inl k)
theorem ah0{a b:S} (h:bytesBefore a b=true):bytesBefore b a=false:=by
 cases k:bytesBefore b a
 · rfl
 · have:=Xr h k;rw[Lx] at this;cases this
section
variable {α:Type}
variable {p x:S × α}{E:VM α}{k k':S}
theorem aa7{y:S × α}:∀ {l:VM α},y∈ins x l ↔ y=x\/y∈l
 | []=>by simp[ins]
 | z::r=>by
   unfold ins;split
   · simp
   · simp only[List.mem_cons,aa7 (l:=r)];constructor
     · rintro (h | h | h)
       · exact .inr (.inl h)
       · exact .inl h
       · exact .inr (.inr h)
     · rintro (h | h | h)
       · exact .inr (.inl h)
       · exact .inl h
       · exact .inr (.inr h)
theorem aa1(x:S × α):∀ l:VM α,(ins x l).length=l.length+1
 | []=>rfl
 | z::r=>by
   unfold ins;split
   · rfl
   · simp[aa1 x r]
theorem Ki.ins:∀ {l:VM α},Ki l->(∀ p∈l,p.1≠x.1)->Ki (ins x l)
 | [],_,_=>by simp[Hv.ins,Ki]
 | y::r,h,hne=>by
   obtain ⟨h1,h2⟩:=List.pairwise_cons.1 h;unfold Hv.ins;split
   · rename_i hb
     refine List.pairwise_cons.2 ⟨fun q hq => ?_,h⟩;rcases List.mem_cons.1 hq with rfl | hq
     · exact hb
     · exact Xr hb (h1 q hq)
   · rename_i hb
     have hyx:bytesBefore y.1 x.1=true:=by
      rcases abN x.1 y.1 (hne y (by simp)).symm with h' | h'
      · exact absurd h' hb
      · exact h'
     refine List.pairwise_cons.2 ⟨fun q hq => ?_,Ki.ins (l:=r) h2 (fun p hp=>hne p (by simp[hp]))⟩;rcases aa7.1 hq with rfl | hq
     · exact hyx
     · exact h1 q hq
theorem Ki.del(h:Ki E) (k:S):Ki (del E k):=h.filter _
theorem UJ:p∈Hv.del E k ↔ p∈E/\p.1≠k:=by simp[Hv.del]
theorem Ki.put(h:Ki E) (k:S) (v:α):Ki (put E k v):=Ki.ins (h.del k) (fun _ hp=>(UJ.1 hp).2)
theorem UK{v:α} :p∈put E k v ↔ p=(k,v)\/(p∈E/\p.1≠k):=by
 unfold Hv.put;rw[aa7,UJ]
theorem Ki.nodup(h:Ki E):(E.map (·.1)).Nodup:=by
 rw[List.nodup_iff_pairwise_ne,List.pairwise_map];exact h.imp (fun {a b} q e=>by rw[e,Lx] at q;cases q)
theorem Ki.ext:∀ {E E':VM α},Ki E->Ki E'->(∀ p,p∈E ↔ p∈E')->E=E'
 | [],[],_,_,_=>rfl
 | [],b::s,_,_,h=>absurd ((h b).2 (by simp)) (by simp)
 | a::r,[],_,_,h=>absurd ((h a).1 (by simp)) (by simp)
 | a::r,b::s,h1,h2,h=>by
   obtain ⟨a1,a2⟩:=List.pairwise_cons.1 h1;obtain ⟨b1,b2⟩:=List.pairwise_cons.1 h2;have hab:a=b:=by
    rcases List.mem_cons.1 ((h a).1 (by simp)) with e | e
    · exact e
    · rcases List.mem_cons.1 ((h b).2 (by simp)) with q | q
      · exact q.symm
      · have:=ah0 (a1 b q);rw[b1 a e] at this;cases this
   subst hab;rw[Ki.ext a2 b2 (fun p => ?_)];constructor
   · intro hp;rcases List.mem_cons.1 ((h p).1 (by simp[hp])) with e | e
     · subst e;have:=a1 p hp;rw[Lx] at this;cases this
     · exact e
   · intro hp;rcases List.mem_cons.1 ((h p).2 (by simp[hp])) with e | e
     · subst e;have:=b1 p hp;rw[Lx] at this;cases this
     · exact e
theorem J9(E:VM α) (k:S):has E k=(get E k).isSome:=by
 unfold has get;rw[Option.isSome_map];cases h:E.find? fun p=>p.1==k with
 | none =>
   rw[List.find?_eq_none] at h;simp only[Option.isSome_none];rw[Bool.eq_false_iff];intro q;obtain ⟨p,hp,hk⟩:=List.any_eq_true.1 q;exact h p hp hk
 | some p =>
   have:=List.find?_some h;simp only[Option.isSome_some];exact List.any_eq_true.2 ⟨p,List.mem_of_find?_eq_some h,this⟩
theorem Ki.key:∀ {l:VM α},Ki l->∀ {x y:S × α},x∈l->y∈l->x.1=y.1->x=y
 | [],_,_,_,hx,_,_=>by cases hx
 | z::r,hl,x,y,hx,hy,hxy=>by
   obtain ⟨z1,z2⟩:=List.pairwise_cons.1 hl;rcases List.mem_cons.1 hx with e | hx'
   · rcases List.mem_cons.1 hy with e' | hy'
     · rw[e,e']
     · have:=z1 y hy';rw[<- hxy,e,Lx] at this;cases this
   · rcases List.mem_cons.1 hy with e' | hy'
     · have:=z1 x hx';rw[hxy,e',Lx] at this;cases this
     · exact Ki.key z2 hx' hy' hxy
theorem get_some(h:Ki E)  {v:α}:get E k=some v ↔ (k,v)∈E:=by
 unfold get;constructor
 · intro q;cases h2:E.find? fun p=>p.1==k with
   | none=>rw[h2] at q;cases q
   | some p =>
     rw[h2] at q;have e1:=List.find?_some h2;simp only[beq_iff_eq] at e1;cases q;rw[<- e1];exact List.mem_of_find?_eq_some h2
 · intro q;cases h2:E.find? fun p=>p.1==k with
   | none =>
     rw[List.find?_eq_none] at h2;exact absurd (h2 _ q) (by simp)
   | some p =>
     have e1:=List.find?_some h2;simp only[beq_iff_eq] at e1;have m:=List.mem_of_find?_eq_some h2;rw[h.key m q e1];rfl
theorem get_none:get E k=none ↔ ∀ p∈E,p.1≠k:=by
 unfold get;rw[Option.map_eq_none_iff,List.find?_eq_none];simp
theorem Ka(h:Ki E) (k:S) (v:α):get (put E k v) k=some v:=(get_some (h.put k v)).2 (UK.2 (.inl rfl))
theorem J7(h:Ki E)  (v:α) (hne:k'≠k):get (put E k v) k'=get E k':=by
 cases h2:get E k' with
 | none =>
   rw[get_none] at h2 |-;intro p hp;rcases UK.1 hp with rfl | ⟨hp,_⟩
   · exact fun e=>hne e.symm
   · exact h2 p hp
 | some u=>exact (get_some (h.put k v)).2 (UK.2 (.inr ⟨(get_some h).1 h2,hne⟩))
theorem KQ(k:S):get (del E k) k=none:=get_none.2 fun _ hp=>(UJ.1 hp).2
theorem Kz(h:Ki E)  (hne:k'≠k):get (del E k) k'=get E k':=by
 cases h2:get E k' with
 | none =>
   rw[get_none] at h2 |-;exact fun p hp=>h2 p (UJ.1 hp).1
 | some u=>exact (get_some (h.del k)).2 (UJ.2 ⟨(get_some h).1 h2,hne⟩)
theorem Ki.Lr{E':VM α} (h:Ki E) (h':Ki E') (hg:∀ k,get E k=get E' k):E=E' :=
 h.ext h' fun ⟨k,v⟩=>by rw[<- get_some h,<- get_some h',hg]
end
def hR (v:Value):Option (DataW Value × List MemPlace):=some (.held v,[])
def Ta (E:VM Value):DataW Value := .map (E.map fun p=>(Lit.string p.1,DataW.held p.2))
theorem afx(x:S × Value):∀ l:VM Value,(ins x l).map (fun p=>(Lit.string p.1,DataW.held p.2))=DataW.insert (Lit.string x.1,DataW.held x.2) (l.map fun p=>(Lit.string p.1,DataW.held p.2))
 | []=>rfl
 | y::r=>by
   by_cases h:bytesBefore x.1 y.1=true
   · simp[ins,DataW.insert,Lit.before,h]
   · simp[ins,DataW.insert,Lit.before,h,afx x r]
theorem afw(E:VM Value) (k:S):(del E k).map (fun p=>(Lit.string p.1,DataW.held p.2))=(E.map fun p=>(Lit.string p.1,DataW.held p.2)).filter fun p => !p.1.sameKey (.string k):=by
 rw[del,List.filter_map];rfl
theorem amL(E:VM Value) (k:S) (v:Value):(Ta E).put (.string k) (.held v)=Ta (put E k v):=by
 unfold Ta;rw[DataW.put_eq,put,afx,afw];rfl
theorem amK(E:VM Value) (k:S):(Ta E).del (.string k)=Ta (del E k):=by
 unfold Ta;rw[DataW.del_eq,afw];rfl
theorem alh(E:VM Value) (k:S):Maps.has (Ta E) (.string k)=has E k:=by
 unfold Ta has;rw[Maps.has_eq,List.any_map];rfl
theorem NM(E:VM Value):Maps.size (Ta E)=E.length:=by simp[Ta,Maps.size_eq]
theorem aj5(E:VM Value) (k:S) (z:Value):(Ta E).atKey (.string k) (.held z) = .held ((get E k).getD z):=by
 unfold Ta get DataW.atKey;simp only[List.find?_map];have:((fun p:Lit × DataW Value=>p.1.sameKey (.string k)) ∘ fun p:S × Value=>(Lit.string p.1,DataW.held p.2))=fun p=>p.1==k:=rfl
 rw[this];cases E.find? fun p=>p.1==k<;>rfl
end Hv
end
section
open Go.RowKit
open Hv (S VM)
variable {E:VM Value}
theorem agE:Maps.Keyed Tryz.prog 9:=Maps.string_keyed IT
theorem akq(x:S) (hx:x.length<=maxLen):keyOf Tryz.prog 9 (.string ⟨x.toArray⟩)=some (.string x):=WideMaps.keyOf_string_mk IT (by simpa [ByteArray.size] using hx)
theorem acz{kl:Lit} (h:keyOf Tryz.prog 9 v=some kl):∃ x:S,x.length<=maxLen/\v = .string ⟨x.toArray⟩/\kl = .string x:=by
 have hk:=IT;cases v with
 | string s =>
   by_cases hs:s.size<=maxLen
   · rw[WideMaps.keyOf_string_mk hk hs] at h;cases h;exact ⟨s.data.toList,hs,by rw[Array.toArray_toList],rfl⟩
   · simp[keyOf,hk,mapKey,hs] at h
 | _=>simp[keyOf,hk,mapKey] at h
def J6 (w:World) (b:Nat) (E:VM Value):Prop:=Hv.Ki E/\w.ownsMap Tryz.prog 9 Hv.hR b E.length (Hv.Ta E)
theorem XM(h:w.ownsMap Tryz.prog 9 Hv.hR b n (Hv.Ta E)):w.ownsMap Tryz.prog 9 Hv.hR b E.length (Hv.Ta E):=by
 obtain ⟨es,clock,hb,F,hs,hD⟩:=h;refine ⟨es,clock,hb,F,?_,hD⟩;have e1:Maps.size (Hv.Ta E)=es.size:=by rw[hD];simp[Maps.size,length_sorted]
 rw[Hv.NM] at e1;omega
theorem J6.made(w:World):J6 (w.alloc (.map #[] 0)) w.heap.size []:=⟨IR,World.ownsMap_made w _ _ _⟩
theorem J6.lt(h:J6 w b E):b<w.heap.size:=h.2.lt
theorem J6.kept(h:J6 w b E) (hb:w'.heap[b]? = w.heap[b]?):J6 w' b E:=by
 obtain ⟨h0,es,clock,h1,h2⟩:=h;exact ⟨h0,es,clock,hb.trans h1,h2⟩
theorem J6.below(h:J6 w b E) (hb:Below w.heap.size w w'):J6 w' b E:=h.kept (hb.block b h.lt)
theorem J6.far(h:J6 w b E) (hf:Kj B C w w') (hB:w.heap.size<=B) (hC : ¬ C b):J6 w' b E:=h.kept (hf.block b (by have:=h.lt;omega) hC)
theorem J6.alloc(h:J6 w b E) (o:Obj):J6 (w.alloc o) b E:=h.kept (AM _ _ _ h.lt)
theorem J6.drew(h:J6 w b E):J6 w.drew b E:=h
theorem J6.set{g i:Nat}  (h:J6 w b E) (hg:b≠g) (v:Value):J6 (w.setCell ⟨g,i,none⟩ v) b E:=h.kept (BY _ _ _ _ hg)
section
variable {w:World} {b:Nat} {E:VM Value} {t e:TypeId}
theorem J6.look(h:J6 w b E) (ht:Tryz.prog.underlying t=some (.map 9 e))  (hz:(zeroValue e).run Tryz.prog w = .ok z w) (k:S) (hk:k.length<=maxLen) :
 (Instr.lookup t (.map (some b)) (.string ⟨k.toArray⟩) false).run Tryz.prog w = .ok ((Hv.get E k).getD z) w:=by
 obtain ⟨v,ps,hrun,hv⟩:=h.2.lookup agE ht hz (R:=Hv.hR) (zd := .held z) (zp:=[]) rfl (akq k hk);rw[Hv.aj5] at hv;simp only[Hv.hR,Option.some.injEq,Prod.mk.injEq,DataW.held.injEq] at hv;rw[hrun,hv.1]
theorem J6.look_ok(h:J6 w b E) (ht:Tryz.prog.underlying t=some (.map 9 e))  (hz:(zeroValue e).run Tryz.prog w = .ok z w) (k:S) (hk:k.length<=maxLen) :
 (Instr.lookup t (.map (some b)) (.string ⟨k.toArray⟩) true).run Tryz.prog w = .ok (.tuple #[(Hv.get E k).getD z, .bool (Hv.has E k)]) w:=by
 obtain ⟨v,ps,hrun,hv⟩:=h.2.look_ok agE ht hz (R:=Hv.hR) (zd := .held z) (zp:=[]) rfl (akq k hk);rw[Hv.aj5] at hv;simp only[Hv.hR,Option.some.injEq,Prod.mk.injEq,DataW.held.injEq] at hv;rw[hrun,hv.1,Hv.alh]
theorem J6.store(h:J6 w b E) (ht:Tryz.prog.underlying t=some (.map 9 e)) (hn:E.length<maxLen) (k:S) (hk:k.length<=maxLen) (v:Value) :
 ∃ w',(Instr.mapUpdate t (.map (some b)) (.string ⟨k.toArray⟩) v).run Tryz.prog w = .ok () w'/\J6 w' b (Hv.put E k v)/\w.mapTurned w' b:=by
 obtain ⟨w',hrun,h1,h2⟩:=h.2.store agE ht hn (akq k hk) (val:=v) (d := .held v) (ps:=[]) rfl;rw[Hv.amL] at h1;exact ⟨w',hrun,⟨h.1.put k v,XM h1⟩,h2⟩
theorem J6.drop(h:J6 w b E) (ht:Tryz.prog.underlying t=some (.map 9 e)) (k:S) (hk:k.length<=maxLen) (ty:TypeId) :
 ∃ w',(Builtin.delete_ #[t,9] ty #[.map (some b), .string ⟨k.toArray⟩]).run Tryz.prog w = .ok (.tuple #[]) w'/\J6 w' b (Hv.del E k)/\w.mapTurned w' b:=by
 obtain ⟨w',hrun,h1,h2⟩:=h.2.drop agE ht (akq k hk) ty;rw[Hv.amK] at h1;exact ⟨w',hrun,⟨h.1.del k,XM h1⟩,h2⟩
theorem J6.len(h:J6 w b E) (ht:Tryz.prog.underlying t=some (.map 9 e)) (ty:TypeId):(Builtin.len_ #[t] ty #[.map (some b)]).run Tryz.prog w = .ok (.int .i64 E.length) w:=by
 rw[h.2.len ht ty,Hv.NM]
end
def KO (w:World) (b r:Nat) (E:VM Value) (left:S->Bool) (cnt:Nat):Prop :=
 Hv.Ki E/\w.ranges Tryz.prog 9 Hv.hR b r E.length (Hv.Ta E) (fun l=>match l with | .string s=>left s | _=>false) cnt
section
variable {w:World} {ops:Array Oper} {rest:List Oper} {o:Oper} {a:Act} {Q:Exit->Act->World->Prop} {b:Nat} {E:VM Value}
theorem Ol(hg:o.guard=none) (m x:Operand) (t:TypeId) (hop:o.op=Op.lookup t m x false) (e:TypeId) (ht:Tryz.prog.underlying t=some (.map 9 e))  (hz:(zeroValue e).run Tryz.prog w = .ok z w)
 (h:J6 w b E) (hm:a.eval m = .map (some b)) (k:S) (hk:k.length<=maxLen) (hx:a.eval x = .string ⟨k.toArray⟩)
 (hK:wpList Tryz.prog ops Q rest (a.put o.dst ((Hv.get E k).getD z)) w):wpList Tryz.prog ops Q (o::rest) a w:=by
 refine wpList_plain hg fun K' hK' => ?_
 have hrun:=h.look ht hz k hk;unfold Oper.wp;simp[execOp,hop,hm,hx,hrun,Result.andThen];exact hK' _ _ hK
theorem K6(hg:o.guard=none) (m x:Operand) (t:TypeId) (hop:o.op=Op.lookup t m x true) (e:TypeId) (ht:Tryz.prog.underlying t=some (.map 9 e))  (hz:(zeroValue e).run Tryz.prog w = .ok z w)
 (h:J6 w b E) (hm:a.eval m = .map (some b)) (k:S) (hk:k.length<=maxLen) (hx:a.eval x = .string ⟨k.toArray⟩)
 (hK:wpList Tryz.prog ops Q rest (a.put o.dst (.tuple #[(Hv.get E k).getD z, .bool (Hv.has E k)])) w):wpList Tryz.prog ops Q (o::rest) a w:=by
 refine wpList_plain hg fun K' hK' => ?_
 have hrun:=h.look_ok ht hz k hk;unfold Oper.wp;simp[execOp,hop,hm,hx,hrun,Result.andThen];exact hK' _ _ hK
theorem Qc(hg:o.guard=none) (m x v:Operand) (t:TypeId) (hop:o.op=Op.mapUpdate t m x v) (e:TypeId) (ht:Tryz.prog.underlying t=some (.map 9 e))
 (h:J6 w b E) (hn:E.length<maxLen) (hm:a.eval m = .map (some b)) (k:S) (hk:k.length<=maxLen) (hx:a.eval x = .string ⟨k.toArray⟩) (val:Value) (hv:a.eval v=val)
 (hK:∀ w',J6 w' b (Hv.put E k val)->w.mapTurned w' b->wpList Tryz.prog ops Q rest (a.put o.dst undef) w'):wpList Tryz.prog ops Q (o::rest) a w:=by
 refine wpList_plain hg fun K' hK' => ?_
 obtain ⟨w',hrun,h1,h2⟩:=h.store ht hn k hk val;unfold Oper.wp;simp[execOp,hop,hm,hx,hv,hrun,Result.andThen];exact hK' _ _ (hK w' h1 h2)
theorem afV(hg:o.guard=none) (m x:Operand) (t:TypeId) (hop:o.op=Op.call { callee:=Callee.builtin Builtin.delete,args := #[m,x],argTypes := #[t,9] }) (e:TypeId) (ht:Tryz.prog.underlying t=some (.map 9 e))
 (h:J6 w b E) (hm:a.eval m = .map (some b)) (k:S) (hk:k.length<=maxLen) (hx:a.eval x = .string ⟨k.toArray⟩)
 (hK:∀ w',J6 w' b (Hv.del E k)->w.mapTurned w' b->wpList Tryz.prog ops Q rest (a.put o.dst (.tuple #[])) w'):wpList Tryz.prog ops Q (o::rest) a w:=by
 refine wpList_plain hg fun K' hK' => ?_
 obtain ⟨w',hrun,h1,h2⟩:=h.drop ht k hk o.type;unfold Oper.wp;simp[execOp,hop,resolve,invoke,builtin,hm,hx,hrun,Result.andThen];exact hK' _ _ (hK w' h1 h2)
theorem Mc(hg:o.guard=none) (m:Operand) (t:TypeId) (hop:o.op=Op.range t m) (e:TypeId) (ht:Tryz.prog.underlying t=some (.map 9 e))
 (h:J6 w b E) (hm:a.eval m = .map (some b))
 (hK:∀ w',KO w' b w.heap.size E (Hv.has E) E.length->w.grownBy w' none->w'.heap.size=w.heap.size+1->wpList Tryz.prog ops Q rest (a.put o.dst (.pointer (some ⟨w.heap.size,0,none⟩))) w'):wpList Tryz.prog ops Q (o::rest) a w:=by
 refine wpList_range_own w hg m t hop 9 e agE ht Hv.hR b E.length (Hv.Ta E) hm h.2 (fun w' h1 h2 h3=>hK w' ⟨h.1,?_⟩ h2 h3);rw[Hv.NM] at h1;have:Maps.has (Hv.Ta E)=fun l=>match l with | .string s=>Hv.has E s | _=>false:=by
  funext l
  cases l with
  | string s=>exact Hv.alh E s
  | _=>simp[Hv.Ta,Maps.has_eq,List.any_map,Function.comp_def,Lit.sameKey]
 rw[this] at h1;exact h1
theorem MW(hg:o.guard=none) (it:Operand) (hop:o.op=Op.next it false) (r:Nat) (left:S->Bool) (cnt:Nat) (hit:a.eval it = .pointer (some ⟨r,0,none⟩)) (h:KO w b r E left cnt)
 (hDone:cnt=0->(∀ k,left k=false)->wpList Tryz.prog ops Q rest (a.put o.dst (.tuple #[.bool false])) w)
 (hMore:∀ (k:S) (v:Value) (w':World) (cnt':Nat),k.length<=maxLen->left k=true->Hv.get E k=some v->KO w' b r E (fun z=>left z && !(z==k)) cnt'->cnt'<cnt->w.grownBy w' (some r)->w'.heap.size=w.heap.size ->
  (Instr.entry (.pointer (some ⟨r,0,none⟩))).run Tryz.prog w' = .ok (.tuple #[.string ⟨k.toArray⟩,v]) w'->wpList Tryz.prog ops Q rest (a.put o.dst (.tuple #[.bool true, .string ⟨k.toArray⟩,v])) w'):wpList Tryz.prog ops Q (o::rest) a w:=by
 refine wpList_next_ranges w hg it hop 9 agE Hv.hR (fun x:S => .string ⟨x.toArray⟩) (fun v:Value=>v) (fun key kl hkey => ?_) (fun v y _=>⟨v,rfl⟩) b r E.length (Hv.Ta E) _ cnt hit h.2 (fun h0 hl=>hDone h0 (fun k=>hl (.string k))) (fun x c kl y w' cnt' hkey hlk hv hat hrg hlt hgr hsz hen => ?_)
 · obtain ⟨x,_,rfl,_⟩:=acz hkey;exact ⟨x,rfl⟩
 · obtain ⟨x',hx',ex,rfl⟩:=acz hkey;have:x=x':=by
    simp only[Value.string.injEq,ByteArray.mk.injEq] at ex;simpa using IN Array.toList ex
   subst this;simp only[Hv.hR,Option.some.injEq] at hv;subst hv;have hget:Hv.get E x=some c:=by
    cases hq:Hv.get E x with
    | none =>
      have h1:=hat (.held (.bool true));have h2:=hat (.held (.bool false));rw[Hv.aj5,hq] at h1 h2;simp only[FS,DataW.held.injEq] at h1 h2;rw[<- h1] at h2;cases h2
    | some u =>
      have h1:=hat (.held (.bool true));rw[Hv.aj5,hq] at h1;simp only[DE,DataW.held.injEq] at h1;rw[h1]
   refine hMore x c w' cnt' hx' hlk hget ⟨h.1,?_⟩ hlt hgr hsz hen;have:(fun z:Lit=>(match z with | .string s=>left s | _=>false) && !z.sameKey (.string x))=fun l=>match l with | .string s=>left s && !(s==x) | _=>false:=by
    funext l
    cases l<;>rfl
   rw[this] at hrg;exact hrg
end
open Hv (Dk)
variable {F P:VM Value}
structure Kh (mb pm fm:Nat) (P F:VM Value) (w:World):Prop where
 blk:w.heap[mb]? = some (.cells #[.map (some pm), .map (some fm)] 154 (0,0))
 packs:J6 w pm P
 files:J6 w fm F
 apart:mb≠pm/\mb≠fm/\pm≠fm
theorem Kh.below(h:Kh mb pm fm P F w) (hb:Below w.heap.size w w'):Kh mb pm fm P F w':=⟨(hb.block mb (blt h.blk)).trans h.blk,h.packs.below hb,h.files.below hb,h.apart⟩
theorem aiN(w:World):Calls Tryz.prog 163 #[] w fun e w'=>∃ mb pm fm,e = .returned (.pointer (some ⟨mb,0,none⟩))/\Kh mb pm fm [] [] w'/\w.heap.size<=mb/\w.heap.size<=pm/\w.heap.size<=fm/\Below w.heap.size w w':=by
 have hmm := @run_makeMap Tryz.prog;go_enter Tryz.func163,Tryz.ntmps163;go_wp2_with fail;go_ret;refine ⟨w.heap.size+1+1,w.heap.size,w.heap.size+1,rfl,⟨?_,((J6.made w).alloc _).alloc _,?_,by omega,by omega,by omega⟩,by omega,by omega,by omega,(((AD w.heap.size w).alloc (AC _) _).alloc (by simp) _).alloc (by simp;omega) _⟩
 · have:=AF ((w.alloc (.map #[] 0)).alloc (.map #[] 0)) (.cells #[.map (some w.heap.size), .map (some (w.heap.size+1))] 154);simpa using this
 · have:=(J6.made (w.alloc (.map #[] 0))).alloc (.cells #[.map (some w.heap.size), .map (some (w.heap.size+1))] 154);simpa using this
def Qq (eb:Nat) (s m st im wm dn:Value) (w:World):Prop:=w.heap[eb]? = some (.cells #[s,m,st,im,wm,dn] 106 (0,0))
theorem Qq.cells(h:Qq eb s m st im wm dn w):w.cell? ⟨eb,0,none⟩=some s/\w.cell? ⟨eb,1,none⟩=some m/\w.cell? ⟨eb,2,none⟩=some st/\w.cell? ⟨eb,3,none⟩=some im/\w.cell? ⟨eb,4,none⟩=some wm/\w.cell? ⟨eb,5,none⟩=some dn :=
 ⟨(JZ h 0).trans rfl,(JZ h 1).trans rfl,(JZ h 2).trans rfl,(JZ h 3).trans rfl,(JZ h 4).trans rfl,(JZ h 5).trans rfl⟩
theorem Qq.kept(h:Qq eb s m st im wm dn w) (hb:w'.heap[eb]? = w.heap[eb]?):Qq eb s m st im wm dn w':=hb.trans h
structure Sl where
 a:Option Addr
 n:Nat
 c:Nat
structure Pk where
 text:S
 nm:S
 ve:S
 needs:Sl
 breaks:Sl
 wakes:Sl
 files:Sl
 runs:Sl
 Kn:Sl
 status:Int
def Pk.cells (p:Pk):Array Value := #[.string ⟨p.text.toArray⟩, .string ⟨p.nm.toArray⟩, .string ⟨p.ve.toArray⟩, .slice p.needs.a p.needs.n p.needs.c, .slice p.breaks.a p.breaks.n p.breaks.c, .slice p.wakes.a p.wakes.n p.wakes.c, .slice p.files.a p.files.n p.files.c, .slice p.runs.a p.runs.n p.runs.c, .slice p.Kn.a p.Kn.n p.Kn.c, .int .i64 p.status]
def Pk.val (p:Pk):Value := .agg p.cells
def Pk.to (p:Pk) (s:Int):Pk:={ p with status:=s }
theorem Pk.at_{p:Pk}   (h:w.heap[B]? = some (.cells p.cells 169 (0,0))):w.cell? ⟨B,0,none⟩=some (.string ⟨p.text.toArray⟩)/\w.cell? ⟨B,1,none⟩=some (.string ⟨p.nm.toArray⟩)/\w.cell? ⟨B,2,none⟩=some (.string ⟨p.ve.toArray⟩)/\w.cell? ⟨B,3,none⟩=some (.slice p.needs.a p.needs.n p.needs.c)/\w.cell? ⟨B,4,none⟩=some (.slice p.breaks.a p.breaks.n p.breaks.c)/\w.cell? ⟨B,5,none⟩=some (.slice p.wakes.a p.wakes.n p.wakes.c)/\w.cell? ⟨B,6,none⟩=some (.slice p.files.a p.files.n p.files.c)/\w.cell? ⟨B,7,none⟩=some (.slice p.runs.a p.runs.n p.runs.c)/\w.cell? ⟨B,8,none⟩=some (.slice p.Kn.a p.Kn.n p.Kn.c)/\w.cell? ⟨B,9,none⟩=some (.int .i64 p.status) :=
 ⟨(JZ h 0).trans rfl,(JZ h 1).trans rfl,(JZ h 2).trans rfl,(JZ h 3).trans rfl,(JZ h 4).trans rfl,(JZ h 5).trans rfl,(JZ h 6).trans rfl,(JZ h 7).trans rfl,(JZ h 8).trans rfl,(JZ h 9).trans rfl⟩
theorem Kh.far(h:Kh mb pm fm P F w) (hf:Kj B C w w') (hB:w.heap.size<=B) (hC : ¬ C mb /\ ¬ C pm /\ ¬ C fm):Kh mb pm fm P F w':=⟨(hf.block mb (by have:=blt h.blk;omega) hC.1).trans h.blk,h.packs.far hf hB hC.2.1,h.files.far hf hB hC.2.2,h.apart⟩
theorem Kv(h:w.mapTurned w' b):Kj w.heap.size (fun k=>k=b) w w':=by
 have g:=h.grown;exact ⟨g.os,g.tape,g.output,g.size,fun k hk hc=>g.block k hk (fun e=>hc (by cases e;rfl))⟩
theorem KW(w:World):(zeroValue 169).run Tryz.prog w = .ok (.agg #[.string ⟨#[]⟩, .string ⟨#[]⟩, .string ⟨#[]⟩, .slice none 0 0, .slice none 0 0, .slice none 0 0, .slice none 0 0, .slice none 0 0, .slice none 0 0, .int .i64 0]) w:=Tryz.zeroValue169 w
theorem Qn(mb pm fm:Nat) (P F:VM Value) (k:S) (hk:k.length<=maxLen) (p:Pk) (hp:Hv.get P k=some p.val) (s:Int) (hn:P.length<maxLen) (w:World) (h:Kh mb pm fm P F w) :
 Calls Tryz.prog 149 #[.pointer (some ⟨mb,0,none⟩), .string ⟨k.toArray⟩, .int .i64 s] w fun e w'=>∃ u,e = .returned u/\Kh mb pm fm (Hv.put P k (p.to s).val) F w'/\Kj w.heap.size (fun q=>q=pm) w w':=by
 have m0:=(JZ h.blk 0).trans (show _=some (.map (some pm)) from rfl);have hlk:=h.packs.look IS (KW w) k hk;rw[hp] at hlk;simp only[DE,Pk.val,Pk.cells] at hlk;have aY:=blt h.blk;have hpl:=h.packs.lt;have hne : ¬ w.heap.size=mb:=by omega
 have HM:=JY h;clear h;go_enter Tryz.func149,Tryz.ntmps149;go_wp2_with fail;have hrow:=AF w (.cells (p.to s).cells 169);have aw:=JY (HM.out.below ((AD w.heap.size w).alloc (AC _) (.cells (p.to s).cells 169)));have aV:=JY ((Kj.refl w.heap.size (fun q=>q=pm) w).alloc (AC _) (.cells (p.to s).cells 169));show Code.wp _ _ _ _ (w.alloc (.cells (p.to s).cells 169));have bw:(w.alloc (.cells (p.to s).cells 169)).heap.size=w.heap.size+1:=by simp
 obtain ⟨u,hu⟩:∃ u,w.alloc (.cells (p.to s).cells 169)=u:=⟨_,rfl⟩
 rw[hu] at hrow aw aV bw |-;clear hu hlk HM;obtain ⟨w',hrun,cB,ht⟩:=aw.out.packs.drew.store IS hn k hk (p.to s).val;have hf:=Kv ht;have eY:Hid (Kh mb pm fm (Hv.put P k (p.to s).val) F w'):=JY ⟨(hf.block mb (by have:=blt aw.out.blk;simpa using this) aw.out.apart.1).trans aw.out.blk,cB,aw.out.files.kept (hf.block fm (by have:=aw.out.files.lt;simpa using this) (fun e=>aw.out.apart.2.2 e.symm)),aw.out.apart⟩;have gT:Hid (Kj w.heap.size (fun q=>q=pm) w w'):=JY (aV.out.drew.next hf (by simp;omega) (fun _ _ q=>q));have m0':=(JZ eY.out.blk 0).trans (show _=some (.map (some pm)) from rfl);have IG:=(JZ aw.out.blk 0).trans (show _=some (.map (some pm)) from rfl);obtain ⟨B,hB⟩:∃ B,w.heap.size=B:=⟨_,rfl⟩
 have bl:w'.heap[B]? = some (.cells (p.to s).cells 169 (0,0)):=by rw[<- hB];exact (hf.block w.heap.size (by simp;omega) (by omega)).trans hrow
 rw[hB] at hrow |-;have T0:=Pk.at_ hrow;have T1:=Pk.at_ bl;simp only[Pk.to] at T0 T1;simp only[Pk.val,Pk.cells,Pk.to] at hrun;clear cB ht hf hrow bl aw aV
 go_region_held3 (fun w'=>w'.cell? ⟨mb,0,none⟩=some (.map (some pm))/\w'.cell? ⟨B,0,none⟩=some (.string ⟨p.text.toArray⟩)/\w'.cell? ⟨B,1,none⟩=some (.string ⟨p.nm.toArray⟩)/\w'.cell? ⟨B,2,none⟩=some (.string ⟨p.ve.toArray⟩)/\w'.cell? ⟨B,3,none⟩=some (.slice p.needs.a p.needs.n p.needs.c)/\w'.cell? ⟨B,4,none⟩=some (.slice p.breaks.a p.breaks.n p.breaks.c)/\w'.cell? ⟨B,5,none⟩=some (.slice p.wakes.a p.wakes.n p.wakes.c)/\w'.cell? ⟨B,6,none⟩=some (.slice p.files.a p.files.n p.files.c)/\w'.cell? ⟨B,7,none⟩=some (.slice p.runs.a p.runs.n p.runs.c)/\w'.cell? ⟨B,8,none⟩=some (.slice p.Kn.a p.Kn.n p.Kn.c)/\w'.cell? ⟨B,9,none⟩=some (.int .i64 s))
  (first | assumption | exact ⟨m0',T1⟩ | exact ⟨IG,T0⟩ | simp[go_sem, *])
  (fail)
 go_wp2_with fail
 go_end0
 exact ⟨_,rfl,eY.out,gT.out⟩
def Reads (w:World) (v:Value) (xs:List S):Prop:=(xs=[]/\∃ a c,v = .slice a 0 c) \/ ∃ g c,v = .slice (some ⟨g,0,none⟩) xs.length c/\g<w.heap.size/\∀ j x,xs[j]? = some x->w.cell? ⟨g,j,none⟩=some (.string ⟨x.toArray⟩)
def Lc (xs:List S):S:=xs.flatMap fun x=>x++[10]
theorem acD(xs:List S) (x:S):Lc (xs++[x])=Lc xs++(x++[10]):=by simp[Lc]
theorem ZM(xs:List S) (n:Nat) (h:∀ x∈xs,x.length<=n):(Lc xs).length<=xs.length*(n+1):=by
 induction xs with
 | nil=>simp[Lc]
 | cons a l ih =>
   have h1:=h a (by simp);have h2:=ih (fun x hx=>h x (by simp[hx]));have e:Lc (a::l)=a++[10]++Lc l:=by simp[Lc]
   rw[e];simp only[AS,CI,List.length_nil,Nat.add_mul];omega
theorem agI(v:Value) (xs:List S) (hn:xs.length<=10000) (hx:∀ x∈xs,x.length<=10000) (w:World) (h:Reads w v xs) :
 Calls Tryz.prog 281 #[v] w fun e w'=>e = .returned (.string ⟨(Lc xs).toArray⟩)/\w'=w:=by
 obtain ⟨a,c,rfl⟩:∃ a c,v = .slice a xs.length c:=by
  rcases h with ⟨rfl,a,c,rfl⟩ | ⟨g,c,rfl,_⟩
  · exact ⟨a,c,rfl⟩
  · exact ⟨_,c,rfl⟩
 have HR:Hid (∀ j x,xs[j]? = some x->∃ g,a=some ⟨g,0,none⟩/\w.cell? ⟨g,j,none⟩=some (.string ⟨x.toArray⟩)):=JY (fun j x hj=>by
  rcases h with ⟨rfl,_⟩ | ⟨g,c',e,_,hc⟩
  · simp at hj
  · cases e;exact ⟨g,rfl,hc j x hj⟩)
 have HX:=JY hx;clear h hx;go_enter Tryz.func281,Tryz.ntmps281;go_wp2_with fail
 go_loop [3,8] (fun t i=>∃ k:Nat,k<=xs.length/\t = .string ⟨(Lc (xs.take k)).toArray⟩/\i = .int .i64 (k:Int)) (fun _ i=>xs.length-(intOf i).toNat)
 case atStart=>exact ⟨0,by omega,by simp[Lc],rfl⟩
 case round =>
  obtain ⟨k,hk,rfl,rfl⟩:=hrel;by_cases hlt:k<xs.length
  · have b1:(k:Int)<(xs.length:Int):=by omega
    obtain ⟨g,rfl,hc⟩:=HR.out k xs[k] (B9 hlt);have hxl:=HX.out xs[k] (B1 hlt);have htl:=ZM (xs.take k) 10000 (fun x hx=>HX.out x (GT hx));rw[DD] at htl;have HT:Hid (Lc (xs.take (k+1))=Lc (xs.take k)++(xs[k]++[10])):=JY (by rw[AT hlt,acD]);obtain ⟨y,hy⟩:∃ y,xs[k]=y:=⟨_,rfl⟩
    obtain ⟨t,ht⟩:∃ t,Lc (xs.take k)=t:=⟨_,rfl⟩
    rw[hy] at hc hxl HT;rw[ht] at htl HT |-;have hm:min k xs.length*(10000+1)<=100010000:=by
     have:min k xs.length<=10000:=by omega
     omega
    have j1 : ¬ 9223372036854775807<y.length+1:=by omega
    have j2 : ¬ 9223372036854775807<t.length+(y.length+1):=by omega
    clear hy ht;go_wp2_with fail
    go_round
    case rel=>exact ⟨k+1,by omega,by rw[HT.out];congr 1,by go_num⟩
    case measure=>simp[intOf];omega
  · obtain rfl:k=xs.length:=by omega
    have b1 : ¬ (xs.length:Int)<(xs.length:Int):=by omega
    go_wp2_with fail;go_ret;exact ⟨rfl,rfl⟩
theorem alg:∀ {a b:S},bytesBefore a b=true->a<b
 | [],[],h=>by simp[bytesBefore] at h
 | [],_::_,_=>List.nil_lt_cons _ _
 | _::_,[],h=>by simp[bytesBefore] at h
 | a::r,b::s,h=>by
   simp only[bytesBefore,Bool.or_eq_true,decide_eq_true_eq,Bool.and_eq_true,beq_iff_eq] at h;rw[List.cons_lt_cons_iff];rcases h with h | ⟨rfl,h⟩
   · exact .inl h
   · exact .inr ⟨rfl,alg h⟩
theorem amI{a b:S} (h:bytesBefore a b=true):Go.leB a b=true:=by
 unfold Go.leB;rw[decide_eq_true_eq];exact List.le_of_lt (alg h)
theorem KL{B' e size:Nat}  {xs:List Value} (h:w.ownsRow B' e size v n xs) (hB:B<=B'):w.ownsRow B e size v n xs:=by
 refine ⟨h.1,?_⟩;rcases h.2 with hn | ⟨g,cap,cur,hv,hg,rest⟩
 · exact .inl hn
 · exact .inr ⟨g,cap,cur,hv,by omega,rest⟩
def J3 {α:Type} (E:VM α):List S:=E.map (·.1)
theorem OA(E:VM Value):Go.strKeys (Hv.Ta E)=J3 E:=by
 unfold Hv.Ta Go.strKeys J3;show List.map (fun p=>strOf p.1) (E.map fun p=>(Lit.string p.1,DataW.held p.2))=_;rw[Hb];rfl
theorem Px{E:VM Value} (h:Hv.Ki E) {ss:List S} (hp:ss.Perm (Go.strKeys (Hv.Ta E))):(ss.mergeSort fun x y=>decide (x<=y))=J3 E:=by
 have h1:=Go.mergeSort_of_perm hp;rw[OA] at h1;have h2:(J3 E).Pairwise fun a b=>Go.leB a b=true:=by
  unfold J3;rw[List.pairwise_map];exact h.imp fun q=>amI q
 have h3:=List.mergeSort_of_pairwise h2;rw[h3] at h1;exact h1
theorem Vt(mb pm fm:Nat) (P F:VM Value) (hn:P.length<=1000000) (w:World) (h:Kh mb pm fm P F w) :
 Calls Tryz.prog 76 #[.pointer (some ⟨mb,0,none⟩)] w fun e w'=>∃ v,e = .returned v/\w'.ownsRow w.heap.size 9 1 v (J3 P).length ((J3 P).map Kl)/\Below w.heap.size w w':=by
 have m0:=(JZ h.blk 0).trans (show _=some (.map (some pm)) from rfl);have HM:=JY h;clear h;go_enter Tryz.func76,Tryz.ntmps76;go_wp2_with fail;refine (callsIn_wide.1 (Tryz.maps_Keys_140 (some pm) w)).mono ?_;rintro e w1 ⟨rfl,rfl⟩;go_wp2_with fail;refine (callsIn_wide.1 (Tryz.slices_Sorted_keys_77_140 pm P.length (Hv.Ta P) Hv.hR w HM.out.packs.2 (by rw[Hv.NM];unfold maxLen;omega) (by rw[Hv.NM];omega))).mono ?_;rintro e w2 ⟨v,ss,rfl,hS,hrow, -,hb⟩;have hk:=Px HM.out.packs.1 hS;have hl:ss.length=(J3 P).length:=by rw[hS.length_eq,OA]
 rw[hk,hl] at hrow;have HR:=JY hrow;have HB:=JY (((AD w.heap.size w).alloc (AC _) (.cells #[.map (some pm)] 97)).trans (hb.mono (by simp)));clear hrow hb hk hl hS;go_wp2_with fail;go_ret;exact ⟨v,rfl,KL HR.out (by simp),HB.out⟩
theorem Mv{j:Nat} (h:b<w.heap.size) (o:Obj):(w.alloc o).cell? ⟨b,j,none⟩=w.cell? ⟨b,j,none⟩:=Be (a:=⟨b,j,none⟩) (AM w o b h)
theorem Tz(b:Nat) (E:VM Value) (w:World) (h:J6 w b E):Calls Tryz.prog 179 #[.map (some b)] w fun e w'=>e = .returned (.map (some w.heap.size))/\J6 w' w.heap.size E/\Below w.heap.size w w':=by
 refine (AnyW.maps_Clone_owns Tryz.clone179 9 Hv.hR b E.length (Hv.Ta E) w h.2).mono ?_;rintro e w' ⟨rfl,h1, -,h3⟩;exact ⟨rfl,⟨h.1,h1⟩,h3⟩
theorem Xx(b:Nat) (E:VM Value) (w:World) (h:J6 w b E):Calls Tryz.prog 151 #[.map (some b)] w fun e w'=>e = .returned (.map (some w.heap.size))/\J6 w' w.heap.size E/\Below w.heap.size w w':=by
 refine (AnyW.maps_Clone_owns Tryz.clone151 9 Hv.hR b E.length (Hv.Ta E) w h.2).mono ?_;rintro e w' ⟨rfl,h1, -,h3⟩;exact ⟨rfl,⟨h.1,h1⟩,h3⟩
theorem adK(mb pm fm:Nat) (P F:VM Value) (w:World) (h:Kh mb pm fm P F w) :
 Calls Tryz.prog 136 #[.pointer (some ⟨mb,0,none⟩)] w fun e w'=>∃ mb' lH lj,e = .returned (.pointer (some ⟨mb',0,none⟩))/\Kh mb' lH lj P F w'/\w.heap.size<=mb'/\w.heap.size<=lH/\w.heap.size<=lj/\Below w.heap.size w w':=by
 have m0:=(JZ h.blk 0).trans (show _=some (.map (some pm)) from rfl);have m1:=(JZ h.blk 1).trans (show _=some (.map (some fm)) from rfl);have aY:=blt h.blk;have HM:=JY h;clear h;go_enter Tryz.func136,Tryz.ntmps136;go_wp2_with fail
 go_region_held3 (fun w'=>w'.cell? ⟨mb,0,none⟩=some (.map (some pm))/\w'.cell? ⟨mb,1,none⟩=some (.map (some fm)))
  (first | assumption | exact ⟨m0,m1⟩ | exact ⟨n0,n1⟩ | exact ⟨k0,k1⟩ | exact ⟨(Mv hm2 _).trans k0,(Mv hm2 _).trans k1⟩ | simp[go_sem, *])
  (first
   | (go_at_call 179;refine (Tz pm P _ HM.out.packs.drew).mono ?_;rintro e w1 ⟨rfl,hp1,hb1⟩;have aQ:=JY ((show Kh mb pm fm P F w.drew from ⟨HM.out.blk,HM.out.packs.drew,HM.out.files.drew,HM.out.apart⟩).below hb1);have bB:=JY hp1;have ag:=JY (show Below w.heap.size w w1 from ⟨hb1.os,hb1.tape,hb1.output,hb1.size,hb1.block⟩);have n0:=(JZ aQ.out.blk 0).trans (show _=some (.map (some pm)) from rfl);have n1:=(JZ aQ.out.blk 1).trans (show _=some (.map (some fm)) from rfl);clear hp1 hb1)
   | (go_at_call 151;refine (Xx fm F w1 aQ.out.files).mono ?_;rintro e w2 ⟨rfl,hp2,hb2⟩;have cI:=JY (aQ.out.below hb2);have bQ:=JY (bB.out.below hb2);have bR:=JY hp2;have ah:=JY (ag.out.trans (hb2.mono ag.out.size));have hl12:=bB.out.lt;have hm2:=blt cI.out.blk;have k0:=(JZ cI.out.blk 0).trans (show _=some (.map (some pm)) from rfl);have k1:=(JZ cI.out.blk 1).trans (show _=some (.map (some fm)) from rfl);clear hp2 hb2))
 all_goals go_wp2_with fail
 all_goals go_ret
 all_goals exact ⟨w2.heap.size,w.heap.size,w1.heap.size,rfl,⟨AF w2 _,bQ.out.alloc _,bR.out.alloc _,by have h1:w1.heap.size<w2.heap.size:=bR.out.lt;have h2:w.heap.size<w1.heap.size:=bB.out.lt;omega⟩,by have:=ah.out.size;omega,by omega,by have:=ag.out.size;omega,ah.out.alloc ah.out.size _⟩
namespace Hv
theorem Mr{α:Type} (E:VM α) (k:S) (v:α):(put E k v).length<=E.length+1:=by
 unfold put del;rw[aa1];have:=List.length_filter_le (fun p:S × α => !(p.1==k)) E;omega
def merge {α:Type} (E G:VM α):VM α:=G.foldl (fun e p=>put e p.1 p.2) E
theorem Nw{α:Type}:∀ (G E:VM α),Ki E->Ki (merge E G)
 | [],_,h=>h
 | p::G,E,h=>Nw G (put E p.1 p.2) (h.put _ _)
theorem Nv{α:Type}:∀ (G E:VM α),Ki E->Ki G->∀ k,get (merge E G) k=(get G k).orElse fun _=>get E k
 | [],E,_,_,k=>by simp[merge,get]
 | p::G,E,h,hg,k=>by
   obtain ⟨g1,g2⟩:=List.pairwise_cons.1 hg;have e:merge E (p::G)=merge (put E p.1 p.2) G:=rfl;rw[e,Nv G _ (h.put _ _) g2 k];by_cases hk:k=p.1
   · subst hk;have h1:get G p.1=none:=get_none.2 fun q hq e=>by have:=g1 q hq;rw[e,Lx] at this;cases this
     rw[h1,Ka h];have h2:get (p::G) p.1=some p.2:=(get_some hg).2 (by simp);rw[h2];rfl
   · rw[J7 h p.2 hk];have h2:get (p::G) k=get G k:=by
      unfold get;rw[List.find?_cons_of_neg (by simpa using fun e=>hk e.symm)]
     rw[h2]
end Hv
def afe (E G:VM Value) (left:S->Bool) (Ec:VM Value):Prop:=∀ k,Hv.get Ec k=if Hv.has G k=true/\left k=false then Hv.get G k else Hv.get E k
theorem agh(bd bs:Nat) (E G:VM Value) (hG:∀ k v,Hv.get G k=some v->∃ p:Pk,v=p.val) (w:World) (hd:J6 w bd E) (hs:J6 w bs G) (hne:bd≠bs) (hroom:E.length+G.length<=1000000) :
 Calls Tryz.prog 180 #[.map (some bd), .map (some bs)] w fun e w'=>∃ u,e = .returned u/\J6 w' bd (Hv.merge E G)/\Kj w.heap.size (fun q=>q=bd) w w':=by
 have aF:=hd.lt;have hbs:=hs.lt;have HS:=JY hs;have HD:=JY hd;have HG:=JY hG;clear hs hd hG;go_enter Tryz.func180,Tryz.ntmps180;go_wp2_with (first
  | (at_range;refine Mc rfl _ 97 rfl 169 IS HS.out rfl ?_;intro w0 hrg0 hg0 hs0;have cS:=JY hrg0;have iq:=JY (HD.out.kept (hg0.block bd aF (by simp)));have aV:=JY ((Kj.refl w.heap.size (fun q=>q=bd) w).grown hg0 (AC _) (fun q hq=>by cases hq));clear hrg0 hg0))
 go_frame
 go_loopw [4] (fun _ wr=>∃ (left:S->Bool) (cnt:Nat) (Ec:VM Value),Hid (KO wr bs w.heap.size G left cnt)/\Ec.length+cnt<=E.length+G.length/\Hid (J6 wr bd Ec)/\Hid (afe E G left Ec)/\Hid (∀ k,left k=true->Hv.has G k=true)/\Hid (Kj w.heap.size (fun q=>q=bd) w wr)/\w.heap.size<wr.heap.size)
  (fun _ wr=>wr.rangeLeft bs w.heap.size)
 case atStart=>exact ⟨_,_,E,cS,AC _,iq,JY (fun k=>by by_cases h:Hv.has G k=true<;>simp[h]),JY (fun k h=>h),aV,by omega⟩
 case round =>
  clear cS iq aV;obtain ⟨left,cnt,Ec,HR,hcs,HE,HM,HL,HF,hsz⟩:=hrel;go_wp2_with (first
   | (at_next;refine MW rfl _ rfl w.heap.size left cnt rfl HR.out ?_ ?_))
  · intro hc0 hl0;go_wp2_with fail
    go_end0
    have e:Ec=Hv.merge E G:=HE.out.1.Lr (Hv.Nw G E HD.out.1) (fun k=>by
     rw[Hv.Nv G E HD.out.1 HS.out.1 k,HM.out k,hl0 k,Hv.J9];cases Hv.get G k<;>simp)
    rw[<- e];exact ⟨_,rfl,HE.out,HF.out⟩
  · intro k v w1 cnt1 hk hlk hget hrg1 hlt hg1 hs1 hen;obtain ⟨p,rfl⟩:=HG.out k v hget;have bO:=JY hrg1;have aH:=JY (HE.out.kept (hg1.block bd HE.out.lt (by simp;omega)));have aO:=JY (HF.out.grown hg1 (by omega) (fun q hq=>by cases hq;exact .inl (AC _)));have xU:=JY hget;clear hrg1 hg1 hget;have um:=JY (show Value.agg p.cells=p.val from rfl);simp only[Pk.val,Pk.cells] at hen |-;have qC:=aH.out.alloc (.cells p.cells 169);have hws:w1.heap.size=wr.heap.size:=hs1;go_wp2_with (first
     | (at_mapUpdate;refine Qc rfl _ _ _ 97 rfl 169 IS qC (by unfold maxLen;omega) rfl k hk rfl p.val rfl ?_;intro w2 nV ht2;go_frame))
    have hf2:=Kv ht2;have aU:Hid (KO w2 bs w.heap.size G (fun z=>left z && !(z==k)) cnt1):=JY ⟨bO.out.1,(bO.out.2.alloc (.cells p.cells 169)).kept ht2.grown (fun e=>hne (Cd e).symm) (fun e=>by have:=Cd e;omega)⟩;have bW:=JY nV;have bp:=JY ((aO.out.alloc (by omega) (.cells p.cells 169)).next hf2 (by simp;omega) (fun _ _ q=>q));have hs2:=hf2.size;simp at hs2;have pC:Hid (afe E G (fun z=>left z && !(z==k)) (Hv.put Ec k p.val)):=JY (fun k'=>by
     by_cases hkk:k'=k
     · subst hkk;rw[Hv.Ka HE.out.1];have h1:Hv.has G k'=true:=by rw[Hv.J9,xU.out];rfl
       simp[h1,xU.out]
     · rw[Hv.J7 HE.out.1 _ hkk,HM.out k'];have:(left k' && !(k'==k))=left k':=by simp[hkk]
       simp only[this])
    have hlen:=Hv.Mr Ec k p.val;have eX:Hid (∀ z,(left z && !(z==k))=true->Hv.has G z=true):=JY (fun z hz=>HL.out z (by simp at hz;exact hz.1));clear nV ht2 hf2 qC;go_roundw
    case rel=>exact ⟨_,cnt1,_,aU,by omega,bW,pC,eX,bp,by omega⟩
    case measure=>rw[aU.out.2.left_eq,HR.out.2.left_eq];exact hlt
namespace Hv
def cut {α β:Type} (E:VM α) (R:VM β):VM α:=R.foldl (fun e p=>del e p.1) E
theorem Nu{α β:Type}:∀ (R:VM β) (E:VM α),Ki E->Ki (cut E R)
 | [],_,h=>h
 | p::R,E,h=>Nu R (del E p.1) (h.del _)
theorem Pn{α β:Type}:∀ (R:VM β) (E:VM α),Ki E->∀ k,get (cut E R) k=if has R k=true then none else get E k
 | [],E,_,k=>by simp[cut,has]
 | p::R,E,h,k=>by
   have e:cut E (p::R)=cut (del E p.1) R:=rfl;rw[e,Pn R _ (h.del _) k];by_cases hk:k=p.1
   · subst hk;rw[KQ];have:has (p::R) p.1=true:=by simp[has]
     rw[By this];split<;>rfl
   · rw[Kz h hk];have:has (p::R) k=has R k:=by
      unfold has;rw[List.any_cons];have:(p.1==k)=false:=by simpa using fun e=>hk e.symm
      rw[this];simp
     rw[this]
theorem aaJ{α β:Type}:∀ (R:VM β) (E:VM α),(cut E R).length<=E.length
 | [],_=>AC _
 | p::R,E=>Bi (aaJ R (del E p.1)) (List.length_filter_le _ _)
theorem aaL{α:Type} (E:VM α) (k:S):(del E k).length<=E.length:=List.length_filter_le _ _
end Hv
def ahI (E:VM Value):Prop:=∀ k v,Hv.get E k=some v->∃ p:Pk,v=p.val
def OG (E:VM Value):Prop:=∀ k v,Hv.get E k=some v->v = .agg #[]
def Q7 (P R I:VM Value):VM Value:=Hv.merge (Hv.cut P R) I
def Cutting (E R:VM Value) (left:S->Bool) (Ec:VM Value):Prop:=∀ k,Hv.get Ec k=if Hv.has R k=true/\left k=false then none else Hv.get E k
theorem adp(pm rm im:Nat) (P R I:VM Value) (hR:OG R) (hI:ahI I) (w:World) (hp:J6 w pm P) (hr:J6 w rm R) (hi:J6 w im I) (hroom:P.length+I.length<=1000000) :
 Calls Tryz.prog 123 #[.agg #[.map (some rm), .map (some im)], .map (some pm)] w fun e w'=>∃ tm,e = .returned (.map (some tm))/\J6 w' tm (Q7 P R I)/\w.heap.size<=tm/\Below w.heap.size w w':=by
 have hrl:=hr.lt;have hil:=hi.lt;have HP:=JY hp;have HR:=JY hr;have HI:=JY hi;have hrow:=AF w (.cells #[.map (some rm), .map (some im)] 148);have hsz:(w.alloc (.cells #[.map (some rm), .map (some im)] 148)).heap.size=w.heap.size+1:=by simp
 clear hp hr hi;go_enter Tryz.func123,Tryz.ntmps123;go_wp2_with fail;refine (Tz pm P _ (HP.out.alloc _)).mono ?_;rintro e w1 ⟨rfl,hc1,hb1⟩;have hW1:=(hb1.block w.heap.size (by simp)).trans hrow;have cX:=JY hc1;have bO:=JY ((HR.out.alloc (.cells #[.map (some rm), .map (some im)] 148)).below hb1);have cj:=JY ((HI.out.alloc (.cells #[.map (some rm), .map (some im)] 148)).below hb1);have ag:=JY (((AD w.heap.size w).alloc (AC _) (.cells #[.map (some rm), .map (some im)] 148)).trans (hb1.mono (by simp)));have c0:=(JZ hW1 0).trans (show _=some (.map (some rm)) from rfl);have bL:=JY hW1;have hcl:=hc1.lt;rw[hsz] at cX hcl |-;clear hrow hc1 hb1 hW1;go_wp2_with (first
  | (at_range;refine Mc rfl _ 146 rfl 63 Tryz.underlying146 bO.out rfl ?_;intro w2 hrg0 hg0 hs0;have aT:=JY hrg0;have bA:=JY (cX.out.kept (hg0.block _ hcl (by simp)));have aM:=JY (cj.out.kept (hg0.block im cj.out.lt (by simp)));have dx:=JY ((hg0.block w.heap.size (by omega) (by simp)).trans bL.out);have ah:=JY (ag.out.grown hg0 ag.out.size (fun q hq=>by cases hq));clear hrg0 hg0))
 go_frame
 go_loopw [6] (fun _ wr=>∃ (left:S->Bool) (cnt:Nat) (Ec:VM Value),Hid (KO wr rm w1.heap.size R left cnt)/\Ec.length<=P.length/\Hid (J6 wr (w.heap.size+1) Ec)/\Hid (Cutting P R left Ec)/\Hid (J6 wr im I)/\Hid (wr.heap[w.heap.size]? = some (.cells #[.map (some rm), .map (some im)] 148 (0,0)))/\Hid (Below w.heap.size w wr)/\w1.heap.size<wr.heap.size)
  (fun _ wr=>wr.rangeLeft rm w1.heap.size)
 case atStart=>exact ⟨_,_,P,aT,AC _,bA,JY (fun k=>by by_cases h:Hv.has R k=true<;>simp[h]),aM,dx,ah,by omega⟩
 case round =>
  clear aT bA aM dx ah c0;obtain ⟨left,cnt,Ec,HG,hcs,HE,HM,dH,lh,av,xp⟩:=hrel;go_wp2_with (first
   | (at_next;refine MW rfl _ rfl w1.heap.size left cnt rfl HG.out ?_ ?_))
  · intro hc0 hl0;have c1:=(JZ lh.out 1).trans (show _=some (.map (some im)) from rfl);have e:Ec=Hv.cut P R:=HE.out.1.Lr (Hv.Nu R P HP.out.1) (fun k=>by
     rw[Hv.Pn R P HP.out.1 k,HM.out k,hl0 k];simp)
    subst e;go_wp2_with fail;refine (agh (w.heap.size+1) im (Hv.cut P R) I hI wr HE.out dH.out (by omega) (by omega)).mono ?_;rintro e w4 ⟨u,rfl,jP,d7⟩;have dJ:=JY jP;have aB:=JY (av.out.trans (d7.toBelow av.out.size (fun k hk (q:k=w.heap.size+1)=>by omega)));clear jP d7;go_wp2_with fail;go_ret;exact ⟨_,rfl,dJ.out,by omega,aB.out⟩
  · intro k v w4 cnt1 hk hlk hget hrg1 hlt hg1 hs1 hen;obtain rfl:=hR k v hget;have aZ:=JY hrg1;have gj:=HE.out.kept (hg1.block _ HE.out.lt (by simp;omega));have cQ:=JY (dH.out.kept (hg1.block im dH.out.lt (by simp;omega)));have uO:=JY ((hg1.block w.heap.size (by omega) (by simp;omega)).trans lh.out);have aB:=JY (av.out.grown hg1 av.out.size (fun q hq=>by cases hq;omega));have xU:=JY hget;clear hrg1 hg1 hget;go_wp2_with (first
     | (at_delete;refine afV rfl _ _ 97 rfl 169 IS gj rfl k hk rfl ?_;intro w5 qC ht2;go_frame))
    have hf2:=Kv ht2;have aU:Hid (KO w5 rm w1.heap.size R (fun z=>left z && !(z==k)) cnt1):=JY ⟨aZ.out.1,aZ.out.2.kept ht2.grown (fun e=>by have:=Cd e;omega) (fun e=>by have:=Cd e;omega)⟩;have bW:=JY qC;have hs4:w4.heap.size=wr.heap.size:=hs1;have ct:=JY (cQ.out.kept (hf2.block im cQ.out.lt (fun q=>by omega)));have F7:=JY ((hf2.block w.heap.size (by omega) (fun q=>by omega)).trans uO.out);have bf:=JY (aB.out.trans (hf2.toBelow aB.out.size (fun q hq (e:q=w.heap.size+1)=>by omega)));have hs5:=hf2.size;have pC:Hid (Cutting P R (fun z=>left z && !(z==k)) (Hv.del Ec k)):=JY (fun k'=>by
     by_cases hkk:k'=k
     · subst hkk;rw[Hv.KQ];have h1:Hv.has R k'=true:=by rw[Hv.J9,xU.out];rfl
       simp[h1]
     · rw[Hv.Kz HE.out.1 hkk,HM.out k'];have:(left k' && !(k'==k))=left k':=by simp[hkk]
       simp only[this])
    have hlen:=Hv.aaL Ec k;clear qC ht2 hf2 gj;go_roundw
    case rel=>exact ⟨_,cnt1,_,aU,by omega,bW,pC,ct,F7,bf,by omega⟩
    case measure=>rw[aU.out.2.left_eq,HG.out.2.left_eq];exact hlt
end
end Go.Proofs.YtfhmaiicimdldaaGreatDoor
