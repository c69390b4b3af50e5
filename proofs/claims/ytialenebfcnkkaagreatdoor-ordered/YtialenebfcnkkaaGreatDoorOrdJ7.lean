/- FarB, DkW1, DkW2, DkW3, DkW4, DkW5, DkW6, DvW1, DvW2 -/
import Derived.Test.YtialenebfcnkkaaGreatDoorOrdJ6
set_option maxHeartbeats 2000000
set_option maxRecDepth 100000
namespace Go.Proofs.YtialenebfcnkkaaGreatDoor
section
open Go.RowKit
theorem blt {w:World} {g:Nat} {o:Obj} (h:w.heap[g]? = some o):g<w.heap.size:=(Array.getElem?_eq_some_iff.1 h).1
theorem iX {w w':World} {b:Nat} (h:w'.heap[b]? = w.heap[b]?) (j:Nat):w'.cell? ⟨b,j,none⟩=w.cell? ⟨b,j,none⟩:=World.cell?_of_block (a:=⟨b,j,none⟩) h
theorem nS {w w':World} {b:Nat} (h:w'.heap[b]? = w.heap[b]?) (j:Nat):w'.frozen? ⟨b,j,none⟩=w.frozen? ⟨b,j,none⟩:=World.frozen?_of_block (a:=⟨b,j,none⟩) h
structure aQ (B:Nat) (C:Nat→Prop) (w w':World):Prop where
 os:w'.os=w.os
 tape:w'.tape=w.tape
 output:w'.output=w.output
 size:w.heap.size≤w'.heap.size
 block:∀ k,k<B → ¬ C k→w'.heap[k]? = w.heap[k]?
theorem aQ.refl (B:Nat) (C:Nat→Prop) (w:World):aQ B C w w:=⟨rfl,rfl,rfl,Nat.le_refl _,fun _ _ _=>rfl⟩
theorem aQ.trans {B:Nat} {C:Nat→Prop} {a b c:World} (h:aQ B C a b) (k:aQ B C b c):aQ B C a c :=
 ⟨k.os.trans h.os,k.tape.trans h.tape,k.output.trans h.output,Nat.le_trans h.size k.size,fun i hi hc=>(k.block i hi hc).trans (h.block i hi hc)⟩
theorem aQ.of {B B':Nat} {C:Nat→Prop} {w w':World} (h:Below B' w w') (hB:B≤B'):aQ B C w w':=⟨h.os,h.tape,h.output,h.size,fun k hk _=>h.block k (by omega)⟩
theorem aQ.mono {B B':Nat} {C C':Nat→Prop} {w w':World} (h:aQ B C w w') (hB:B'≤B) (hC:∀ k,k<B'→C k→C' k):aQ B' C' w w':=⟨h.os,h.tape,h.output,h.size,fun k hk hc=>h.block k (by omega) (fun q=>hc (hC k hk q))⟩
theorem aQ.next {B B':Nat} {C C':Nat→Prop} {a b c:World} (h:aQ B C a b) (k:aQ B' C' b c) (hB:B≤B') (hC:∀ i,i<B→C' i→C i):aQ B C a c:=h.trans (k.mono hB hC)
theorem aQ.toBelow {B B':Nat} {C:Nat→Prop} {w w':World} (h:aQ B C w w') (hB:B'≤B) (hC:∀ k,k<B' → ¬ C k):Below B' w w':=⟨h.os,h.tape,h.output,h.size,fun k hk=>h.block k (by omega) (hC k hk)⟩
theorem aQ.below {B B':Nat} {C:Nat→Prop} {a w w':World} (h:aQ B C a w) (hb:Below B' w w') (hB:B≤B'):aQ B C a w':=h.trans (aQ.of hb hB)
theorem aQ.drew {B:Nat} {C:Nat→Prop} {a w:World} (h:aQ B C a w):aQ B C a w.drew:=⟨h.os,h.tape,h.output,h.size,h.block⟩
theorem aQ.alloc {B:Nat} {C:Nat→Prop} {a w:World} (h:aQ B C a w) (hB:B≤w.heap.size) (o:Obj):aQ B C a (w.alloc o) :=
 h.trans ⟨rfl,rfl,rfl,by simp,fun k hk _=>Below.heap_alloc _ _ _ (by omega)⟩
theorem aQ.setCell {B:Nat} {C:Nat→Prop} {a w:World} (h:aQ B C a w) {p:Addr} (hp:B≤p.block∨C p.block) (u:Value):aQ B C a (w.setCell p u) :=
 h.trans ⟨rfl,rfl,rfl,by simp[World.setCell],fun k hk hc=>Below.heap_setCell _ _ _ _ (fun e=>by
   subst e
   rcases hp with hp | hp
   · omega
   · exact hc hp)⟩
theorem aQ.grown {B:Nat} {C:Nat→Prop} {a w w':World} {row:Option Nat} (h:aQ B C a w) (hg:w.grownBy w' row) (hB:B≤w.heap.size) (hr:∀ k,row=some k→B≤k∨C k):aQ B C a w' :=
 h.trans ⟨hg.os,hg.tape,hg.output,hg.size,fun k hk hc=>hg.block k (by omega) (fun e=>by
   rcases hr k e.symm with h | h
   · omega
   · exact hc h)⟩
theorem aQ.cell {B:Nat} {C:Nat→Prop} {w w':World} (h:aQ B C w w') {p:Addr} (hp:p.block<B) (hc : ¬ C p.block):w'.cell? p=w.cell? p:=World.cell?_of_block (w:=w) (h.block p.block hp hc)
theorem aQ.own {B:Nat} {C:Nat→Prop} {w w':World} {b0 e size n:Nat} {v:Value} {xs:List Value} (h:aQ B C w w') (ho:w.ownsRow b0 e size v n xs) (hB:w.heap.size≤B) (hv:∀ g,v.ownBlock=some g → ¬ C g):w'.ownsRow b0 e size v n xs:=by
 refine ⟨ho.1,?_⟩
 rcases ho.2 with ⟨rfl,rfl⟩ | ⟨g,cap,cur,rfl,h1,h2,h3⟩
 · exact .inl ⟨rfl,rfl⟩
 · exact .inr ⟨g,cap,cur,rfl,h1,(h.block g (by have:=blt h2;omega) (hv g rfl)).trans h2,h3⟩
theorem bR {w w':World} {b0 e size n:Nat} {v:Value} {xs:List Value} (ho:w.ownsRow b0 e size v n xs) (hv:∀ g,v.ownBlock=some g→w'.heap[g]? = w.heap[g]?):w'.ownsRow b0 e size v n xs:=by
 refine ⟨ho.1,?_⟩
 rcases ho.2 with ⟨rfl,rfl⟩ | ⟨g,cap,cur,rfl,h1,h2,h3⟩
 · exact .inl ⟨rfl,rfl⟩
 · exact .inr ⟨g,cap,cur,rfl,h1,(hv g rfl).trans h2,h3⟩
theorem FW {w:World} {B:Nat} {e:TypeId} {size n g cap:Nat} {xs:List Value} (h:w.ownsRow B e size (.slice (some ⟨g,0,none⟩) n cap) n xs) (i:Nat) (v:Value):(w.setCell ⟨g,i,none⟩ v).ownsRow B e size (.slice (some ⟨g,0,none⟩) n cap) n (xs.set i v):=by
 refine ⟨by rw[List.length_set];exact h.1,?_⟩
 rcases h.2 with ⟨h',_⟩ | ⟨g',cap',cur,h',hg,hgg,h1,h2,h3,h4⟩
 · simp at h'
 · simp only[Value.slice.injEq,Option.some.injEq,Addr.mk.injEq,and_true,true_and] at h'
   obtain ⟨rfl,rfl⟩:=h'
   refine .inr ⟨g,cap,cur.setIfInBounds i v,rfl,hg,heap_setCell_same _ g i _ _ v hgg,h1,h2,by rw[Array.size_setIfInBounds];exact h3,?_⟩
   rw[Array.toList_setIfInBounds,List.take_set,h4]
theorem bB {w:World} {B:Nat} {e:TypeId} {size n:Nat} {v u:Value} {xs:List Value} {g i:Nat} (h:w.ownsRow B e size v n xs) (hn:v.ownBlock≠some g):(w.setCell ⟨g,i,none⟩ u).ownsRow B e size v n xs:=by
 refine ⟨h.1,?_⟩
 rcases h.2 with h' | ⟨g',cap',cur,rfl,hg,hgg,rest⟩
 · exact .inl h'
 · refine .inr ⟨g',cap',cur,rfl,hg,?_,rest⟩
   rw[Below.heap_setCell _ _ _ _ (fun e=>hn (by rw[e];rfl))]
   exact hgg
theorem ko {w:World} {B e size n g c:Nat} {xs:List Value} (h:w.ownsRow B e size (.slice (some ⟨g,0,none⟩) n c) n xs):n≤c∧c≤maxLen:=by
 rcases h.2 with ⟨h',_⟩ | ⟨g',cap,cur,h',_,_,h1,h2,_⟩
 · simp at h'
 · simp only[Value.slice.injEq,Option.some.injEq,Addr.mk.injEq,and_true,true_and] at h'
   obtain ⟨rfl,rfl⟩:=h'
   exact ⟨h1,h2⟩
namespace Hv
abbrev S:=List UInt8
structure Dk where
 now:List S
 may:List (List S)
 wr:Nat
def Dk.write (d:Dk) (n:Nat) (x:S):Dk:=⟨d.now.set n x,d.may.set n ((if d.may.getD n []=[] then [d.now.getD n []] else d.may.getD n [])++[x]),d.wr+1⟩
def Dk.flush (d:Dk):Dk:=⟨d.now,d.now.map fun _=>[],d.wr⟩
end Hv
open Hv (S Dk)
def Strs (w:World) (v:Value) (xs:List S):Prop:=(xs=[]∧v = .slice none 0 0)∨(xs≠[]∧w.ownsRow 0 9 1 v xs.length (strs xs))
def Fp (nb dP mb dO n:Nat) (calls wo:Int) (wr:Nat):Array Value :=
 #[.slice (some ⟨nb,0,none⟩) n dP, .slice (some ⟨mb,0,none⟩) n dO, .int .i64 calls, .int .i64 (-1), .bool false, .slice none 0 0, .int .i64 wr, .slice none 0 0, .int .i64 wo]
structure iZ (C:Nat→Prop) (db:Nat) (d:Dk) (nb dP mb dO:Nat) (calls wo:Int) (vs:List Value) (w:World):Prop where
 blk:w.heap[db]? = some (.cells (Fp nb dP mb dO d.now.length calls wo d.wr) 46 (0,0))
 now:w.ownsRow 0 9 1 (.slice (some ⟨nb,0,none⟩) d.now.length dP) d.now.length (strs d.now)
 may:w.ownsRow 0 28 1 (.slice (some ⟨mb,0,none⟩) d.now.length dO) d.now.length vs
 len:d.may.length=d.now.length
 each:∀ (i:Nat) (v:Value),vs[i]? = some v→Strs w v (d.may.getD i [])
 apart:∀ (i j:Nat) (v u:Value) (g:Nat),i≠j→vs[i]? = some v→vs[j]? = some u→v.ownBlock=some g→u.ownBlock≠some g
 vP:C db∧C nb∧C mb∧∀ (i:Nat) (v:Value) (g:Nat),vs[i]? = some v→v.ownBlock=some g→C g
 off:db≠nb∧db≠mb∧nb≠mb∧∀ (i:Nat) (v:Value) (g:Nat),vs[i]? = some v→v.ownBlock=some g→g≠db∧g≠nb∧g≠mb
 lt:∀ k,C k→k<w.heap.size
 few:d.wr<4611686018427387904
def bI (C:Nat→Prop) (db:Nat) (d:Dk) (w:World):Prop:=∃ nb dP mb dO calls wo vs,iZ C db d nb dP mb dO calls wo vs w
theorem Strs.far {w w':World} {v:Value} {xs:List S} {B:Nat} {D:Nat→Prop} (h:Strs w v xs) (hf:aQ B D w w') (hB:w.heap.size≤B) (hv:∀ g,v.ownBlock=some g → ¬ D g):Strs w' v xs:=by
 rcases h with h | ⟨h1,h2⟩
 · exact .inl h
 · exact .inr ⟨h1,hf.own h2 hB hv⟩
theorem iZ.far {C D:Nat→Prop} {db nb dP mb dO:Nat} {d:Dk} {calls wo:Int} {vs:List Value} {w w':World} {B:Nat} (h:iZ C db d nb dP mb dO calls wo vs w) (hf:aQ B D w w') (hB:w.heap.size≤B) (hD:∀ k,C k → ¬ D k):iZ C db d nb dP mb dO calls wo vs w':=by
 obtain ⟨c1,c2,c3,c4⟩:=h.vP
 refine ⟨(hf.block db (by have:=h.lt db c1;omega) (hD _ c1)).trans h.blk,hf.own h.now hB (fun g hg=>by cases hg;exact hD _ c2),hf.own h.may hB (fun g hg=>by cases hg;exact hD _ c3),h.len,fun i v hv=>(h.each i v hv).far hf hB (fun g hg=>hD _ (c4 i v g hv hg)),h.apart,h.vP,h.off,fun k hk=>Nat.lt_of_lt_of_le (h.lt k hk) hf.size,h.few⟩
theorem bI.far {C D:Nat→Prop} {db:Nat} {d:Dk} {w w':World} {B:Nat} (h:bI C db d w) (hf:aQ B D w w') (hB:w.heap.size≤B) (hD:∀ k,C k → ¬ D k):bI C db d w':=by
 obtain ⟨nb,dP,mb,dO,calls,wo,vs,h⟩:=h
 exact ⟨nb,dP,mb,dO,calls,wo,vs,h.far hf hB hD⟩
theorem bI.below {C:Nat→Prop} {db:Nat} {d:Dk} {w w':World} (h:bI C db d w) (hb:Below w.heap.size w w'):bI C db d w':=h.far (aQ.of (C:=fun _=>False) hb (Nat.le_refl _)) (Nat.le_refl _) (fun _ _ h=>h)
theorem bI.lt {C:Nat→Prop} {db:Nat} {d:Dk} {w:World} (h:bI C db d w):∀ k,C k→k<w.heap.size:=by
 obtain ⟨nb,dP,mb,dO,calls,wo,vs,h⟩:=h
 exact h.lt
theorem bI.at_ {C:Nat→Prop} {db:Nat} {d:Dk} {w:World} (h:bI C db d w):C db:=by
 obtain ⟨nb,dP,mb,dO,calls,wo,vs,h⟩:=h
 exact h.vP.1
theorem iZ.cells {C:Nat→Prop} {db nb dP mb dO:Nat} {d:Dk} {calls wo:Int} {vs:List Value} {w:World} (h:iZ C db d nb dP mb dO calls wo vs w) :
   w.cell? ⟨db,0,none⟩=some (.slice (some ⟨nb,0,none⟩) d.now.length dP)∧w.cell? ⟨db,1,none⟩=some (.slice (some ⟨mb,0,none⟩) d.now.length dO)∧w.cell? ⟨db,2,none⟩=some (.int .i64 calls)∧w.cell? ⟨db,3,none⟩=some (.int .i64 (-1))∧w.cell? ⟨db,4,none⟩=some (.bool false) ∧
     w.cell? ⟨db,5,none⟩=some (.slice none 0 0)∧w.cell? ⟨db,6,none⟩=some (.int .i64 d.wr)∧w.cell? ⟨db,7,none⟩=some (.slice none 0 0)∧∀ j,w.frozen? ⟨db,j,none⟩=false :=
 ⟨(ah h.blk 0).trans rfl,(ah h.blk 1).trans rfl,(ah h.blk 2).trans rfl,(ah h.blk 3).trans rfl,(ah h.blk 4).trans rfl,(ah h.blk 5).trans rfl,(ah h.blk 6).trans rfl,(ah h.blk 7).trans rfl,ak h.blk⟩
theorem iZ.drew {C:Nat→Prop} {db nb dP mb dO:Nat} {d:Dk} {calls wo:Int} {vs:List Value} {w:World} (h:iZ C db d nb dP mb dO calls wo vs w):iZ C db d nb dP mb dO calls wo vs w.drew :=
 h.far ((aQ.refl w.heap.size (fun _=>False) w).drew) (Nat.le_refl _) (fun _ _ h=>h)
theorem iZ.call {C:Nat→Prop} {db nb dP mb dO:Nat} {d:Dk} {calls wo:Int} {vs:List Value} {w:World} (h:iZ C db d nb dP mb dO calls wo vs w) (c:Int):iZ C db d nb dP mb dO c wo vs (w.setCell ⟨db,2,none⟩ (.int .i64 c)):=by
 obtain ⟨o1,o2,o3,o4⟩:=h.off
 exact ⟨heap_setCell_same _ db 2 _ _ _ h.blk,bB h.now (fun e=>by cases e;exact o1 rfl),bB h.may (fun e=>by cases e;exact o2 rfl),h.len,fun i v hv=>by
   rcases h.each i v hv with q | ⟨q1,q2⟩
   · exact .inl q
   · exact .inr ⟨q1,bB q2 (fun e=>(o4 i v _ hv e).1 rfl)⟩,h.apart,h.vP,h.off,fun k hk=>by simpa using h.lt k hk,h.few⟩
theorem qW {C:Nat→Prop} {db nb dP mb dO:Nat} {d:Dk} {calls wo:Int} {vs:List Value} (kind:Int) (n:Int) (w:World) (h:iZ C db d nb dP mb dO calls wo vs w) :
   Calls Tryz.prog 339 #[.pointer (some ⟨db,0,none⟩), .int .u8 kind, .int .i64 n] w fun e w'=>∃ c,e = .returned (.int .i64 0)∧iZ C db d nb dP mb dO c wo vs w'∧aQ w.heap.size C w w':=by
 obtain ⟨c0,c1,c2,c3,c4,c5,c6,c7,f⟩:=h.cells
 have f2:=f 2
 have HD:=hide h
 clear h f
 have c7':(w.setCell ⟨db,2,none⟩ (.int .i64 (wrap64 (calls+1)))).cell? ⟨db,7,none⟩=some (.slice none 0 0):=(World.cell?_setCell_other _ _ _ _ (by simp)).trans c7
 go_enter Tryz.func339,Tryz.ntmps339
 go_wp2_with (first | go_region)
 go_ret
 exact ⟨_,rfl,(HD.out.call _).drew.drew,((aQ.refl _ _ _).setCell (p:=⟨db,2,none⟩) (.inr HD.out.vP.1) _).drew.drew⟩
end
section
open Go.RowKit
open Hv (S Dk)
theorem Fu {C:Nat→Prop} {db nb dP mb dO:Nat} {d:Dk} {calls wo:Int} {vs:List Value} (w:World) (h:iZ C db d nb dP mb dO calls wo vs w) :
   Calls Tryz.prog 337 #[.pointer (some ⟨db,0,none⟩)] w fun e w'=>e = .returned (.int .i64 d.now.length)∧w'=w:=by
 obtain ⟨c0, -⟩:=h.cells
 clear h
 go_enter Tryz.func337,Tryz.ntmps337
 go_wp2
 go_ret
 exact ⟨rfl,rfl⟩
theorem OI {C:Nat→Prop} {db nb dP mb dO:Nat} {d:Dk} {calls wo:Int} {vs:List Value} (n:Nat) (x:S) (hx:d.now[n]? = some x) (w:World) (h:iZ C db d nb dP mb dO calls wo vs w) :
   Calls Tryz.prog 336 #[.pointer (some ⟨db,0,none⟩), .int .i64 n] w fun e w'=>∃ c,e = .returned (.tuple #[.string ⟨x.toArray⟩, .int .i64 0])∧iZ C db d nb dP mb dO c wo vs w'∧aQ w.heap.size C w w':=by
 have HD:=hide h
 have hml:d.now.length≤maxLen:=by obtain ⟨h1,h2⟩:=ko h.now;omega
 clear h
 unfold maxLen at hml
 have hn:n<d.now.length:=(List.getElem?_eq_some_iff.1 hx).1
 have b1:(n:Int)<(d.now.length:Int):=by omega
 go_enter Tryz.func336,Tryz.ntmps336
 go_wp2_with (go_at_call 339;refine (qW _ _ _ HD.out).mono ?_;rintro e w1 ⟨c,rfl,hd1,hf1⟩;obtain ⟨c0, -⟩:=hd1.cells;have n0:w1.cell? ⟨nb,n,none⟩=some (.string ⟨x.toArray⟩):=(hd1.now.cellAt n (by omega)).trans (by rw[strs,List.getElem?_map,hx];rfl);have HD1:=hide hd1;have eO:=hide hf1;clear hd1 hf1)
 go_ret2
 exact ⟨_,rfl,HD1.out,eO.out⟩
theorem iZ.clean {C:Nat→Prop} {db nb dP mb dO:Nat} {d:Dk} {calls wo:Int} {vs:List Value} {w:World} (h:iZ C db d nb dP mb dO calls wo vs w) (may':List (List S)) (hl:may'.length=d.now.length) (k:Nat) (hk:k<d.now.length) (he:∀ i,may'.getD i []=if i=k then [] else d.may.getD i []) :
   iZ C db ⟨d.now,may',d.wr⟩ nb dP mb dO calls wo (vs.set k (.slice none 0 0)) (w.setCell ⟨mb,k,none⟩ (.slice none 0 0)):=by
 obtain ⟨o1,o2,o3,o4⟩:=h.off
 have hv:∀ i v,(vs.set k (.slice none 0 0))[i]? = some v→(i=k∧v = .slice none 0 0)∨(i≠k∧vs[i]? = some v):=fun i v hv=>by
   rw[List.getElem?_set] at hv
   split at hv
   · split at hv
     · cases hv;exact .inl ⟨by omega,rfl⟩
     · cases hv
   · exact .inr ⟨by omega,hv⟩
 refine ⟨(Below.heap_setCell _ _ _ _ (by show db≠mb;exact o2)).trans h.blk,bB h.now (fun e=>by cases e;exact o3 rfl),FW h.may k _,hl,fun i v q => ?_,fun i j v u g hij q r e => ?_,⟨h.vP.1,h.vP.2.1,h.vP.2.2.1,fun i v g q e => ?_⟩,⟨o1,o2,o3,fun i v g q e => ?_⟩,fun i q=>by simpa using h.lt i q,h.few⟩
 · show Strs _ v (may'.getD i [])
   rw[he]
   rcases hv i v q with ⟨rfl,rfl⟩ | ⟨hi,q⟩
   · rw[if_pos rfl];exact .inl ⟨rfl,rfl⟩
   · rw[if_neg hi]
     rcases h.each i v q with q | ⟨q1,q2⟩
     · exact .inl q
     · exact .inr ⟨q1,bB q2 (fun e=>(o4 i v _ q e).2.2 rfl)⟩
 · rcases hv i v q with ⟨rfl,rfl⟩ | ⟨hi,q⟩
   · cases e
   · rcases hv j u r with ⟨rfl,rfl⟩ | ⟨hj,r⟩
     · simp[Value.ownBlock]
     · exact h.apart i j v u g hij q r e
 · rcases hv i v q with ⟨rfl,rfl⟩ | ⟨hi,q⟩
   · cases e
   · exact h.vP.2.2.2 i v g q e
 · rcases hv i v q with ⟨rfl,rfl⟩ | ⟨hi,q⟩
   · cases e
   · exact o4 i v g q e
theorem KN {C:Nat→Prop} {db nb dP mb dO:Nat} {d:Dk} {calls wo:Int} {vs:List Value} (w:World) (h:iZ C db d nb dP mb dO calls wo vs w) :
   Calls Tryz.prog 335 #[.pointer (some ⟨db,0,none⟩)] w fun e w'=>∃ c vs',e = .returned (.int .i64 0)∧iZ C db d.flush nb dP mb dO c wo vs' w'∧aQ w.heap.size C w w':=by
 have HD:=hide h
 have hml:d.now.length≤maxLen:=by obtain ⟨h1,h2⟩:=ko h.now;omega
 clear h
 unfold maxLen at hml
 go_enter Tryz.func335,Tryz.ntmps335
 go_wp2_with (go_at_call 339;refine (qW _ _ _ HD.out).mono ?_;rintro e w1 ⟨c,rfl,hd1,hf1⟩;have HD1:=hide hd1;have eO:=hide hf1;clear hd1 hf1)
 go_loopw [4] (fun i wr=>∃ (k:Nat) (may':List (List S)) (vs':List Value),k≤d.now.length∧i = .int .i64 (k:Int)∧(∀ i,may'.getD i []=if i<k then [] else d.may.getD i [])∧Hid (iZ C db ⟨d.now,may',d.wr⟩ nb dP mb dO c wo vs' wr)∧Hid (aQ w.heap.size C w wr)) (fun i _=>d.now.length-(intOf i).toNat)
 case atStart=>exact ⟨0,d.may,vs,by omega,rfl,fun i=>by simp,HD1,eO⟩
 case round =>
   obtain ⟨k,may',vs',hk,rfl,hm,HD2,iU⟩:=hrel
   obtain ⟨-,c1, -⟩:=HD2.out.cells
   simp only at c1
   have HM:=hide hm
   clear hm
   by_cases hlt:k<d.now.length
   · have b1:(k:Int)<(d.now.length:Int):=by omega
     have f1:wr.frozen? ⟨mb,k,none⟩=false:=HD2.out.may.frozenAt k
     have hkv:k<vs'.length:=by have:=HD2.out.may.1;simp at this;omega
     have d1:wr.cell? ⟨mb,k,none⟩=some (vs'[k]'hkv):=(HD2.out.may.cellAt k (by simp;omega)).trans (List.getElem?_eq_getElem hkv)
     go_wp2_with fail
     exact ⟨⟨k+1,may'.set k [],_,by omega,by go_num,fun i=>by
       have:=HM.out i
       rw[List.getD_eq_getElem?_getD,List.getElem?_set]
       rw[List.getD_eq_getElem?_getD] at this
       split
       · split
         · rw[if_pos (by omega)];rfl
         · rw[if_pos (by omega)];rfl
       · rw[this]
         by_cases hi:i<k
         · rw[if_pos hi,if_pos (by omega)]
         · rw[if_neg hi,if_neg (by omega)],hide (HD2.out.clean _ (by simpa using HD2.out.len) k hlt (fun i=>by
             rw[List.getD_eq_getElem?_getD,List.getElem?_set]
             by_cases e:k=i
             · rw[if_pos e,if_pos e.symm];split<;>rfl
             · rw[if_neg e,if_neg (fun q=>e q.symm)];rfl)),hide (iU.out.setCell (.inr HD2.out.vP.2.2.1) _)⟩,by simp[intOf];omega⟩
   · obtain rfl:k=d.now.length:=by omega
     have b1 : ¬ (d.now.length:Int)<(d.now.length:Int):=by omega
     go_wp2_with fail
     go_ret
     refine ⟨rfl,?_,iU.out⟩
     have e:(⟨d.now,may',d.wr⟩:Dk)=d.flush:=by
       unfold Dk.flush
       congr 1
       apply List.ext_getElem?
       intro i
       have hl:=HD2.out.len
       simp only at hl
       have:=HM.out i
       rw[List.getD_eq_getElem?_getD] at this
       by_cases hi:i<d.now.length
       · rw[if_pos hi,List.getElem?_eq_getElem (by omega)] at this
         rw[List.getElem?_eq_getElem (by omega),List.getElem?_map,List.getElem?_eq_getElem hi]
         simpa using this
       · rw[List.getElem?_eq_none (by omega),List.getElem?_eq_none (by simpa using hi)]
     rw[← e]
     exact ⟨_,_,HD2.out⟩
theorem iZ.put {C:Nat→Prop} {db nb dP mb dO:Nat} {d:Dk} {calls wo:Int} {vs:List Value} {w w1:World} (h:iZ C db d nb dP mb dO calls wo vs w) (n:Nat) (hn:n<d.now.length) (v v':Value) (hv:vs[n]? = some v) (xs':List S)
   (hg:w.grownBy w1 v.ownBlock) (hs:Strs w1 v' xs') (hb:v'.ownBlock=v.ownBlock ∨ ∀ g,v'.ownBlock=some g→w.heap.size≤g) (hl:∀ g,v'.ownBlock=some g→g<w1.heap.size) :
   iZ (fun k=>C k∨v'.ownBlock=some k) db ⟨d.now,d.may.set n xs',d.wr⟩ nb dP mb dO calls wo (vs.set n v') (w1.setCell ⟨mb,n,none⟩ v'):=by
 obtain ⟨o1,o2,o3,o4⟩:=h.off
 obtain ⟨i1,i2,i3,i4⟩:=h.vP
 have hsz:=hg.size
 have hq:∀ i u,(vs.set n v')[i]? = some u→(i=n∧u=v')∨(i≠n∧vs[i]? = some u):=fun i u q=>by
   rw[List.getElem?_set] at q
   split at q
   · split at q
     · cases q;exact .inl ⟨by omega,rfl⟩
     · cases q
   · exact .inr ⟨by omega,q⟩
 have hnew:∀ g,v'.ownBlock=some g→g≠db∧g≠nb∧g≠mb:=fun g e=>by
   rcases hb with hb | hb
   · exact o4 n v g hv (hb▸e)
   · have:=hb g e;have:=h.lt db i1;have:=h.lt nb i2;have:=h.lt mb i3
     refine ⟨?_,?_,?_⟩<;>omega
 have hkeep:∀ k,C k→v.ownBlock≠some k→w1.heap[k]? = w.heap[k]? := fun k hk hne=>hg.block k (h.lt k hk) (fun e=>hne e.symm)
 refine ⟨?_,bB (bR h.now (fun k e=>by cases e;exact hkeep _ i2 (fun e=>(o4 n v _ hv e).2.1 rfl))) (fun e=>by cases e;exact o3 rfl),FW (bR h.may (fun k e=>by cases e;exact hkeep _ i3 (fun e=>(o4 n v _ hv e).2.2 rfl))) n _,by simpa using h.len,fun i u q => ?_,fun i j u u2 g hij q r e => ?_,⟨.inl i1, .inl i2, .inl i3,fun i u g q e => ?_⟩,⟨o1,o2,o3,fun i u g q e => ?_⟩,fun k hk => ?_,h.few⟩
 · rw[Below.heap_setCell _ _ _ _ (by show db≠mb;exact o2),hkeep db i1 (fun e=>(o4 n v _ hv e).1 rfl)];exact h.blk
 · show Strs _ u ((d.may.set n xs').getD i [])
   rcases hq i u q with ⟨rfl,rfl⟩ | ⟨hi,q⟩
   · rw[List.getD_eq_getElem?_getD,List.getElem?_set,if_pos rfl,if_pos (by have:=h.len;omega)]
     rcases hs with hs | ⟨s1,s2⟩
     · exact .inl hs
     · exact .inr ⟨s1,bB s2 (fun e=>(hnew _ e).2.2 rfl)⟩
   · rw[List.getD_eq_getElem?_getD,List.getElem?_set,if_neg (fun e=>hi e.symm),← List.getD_eq_getElem?_getD]
     rcases h.each i u q with q1 | ⟨q1,q2⟩
     · exact .inl q1
     · refine .inr ⟨q1,bB (bR q2 (fun k e=>hkeep k (i4 i u k q e) (h.apart i n u v k hi q hv e))) (fun e=>(o4 i u _ q e).2.2 rfl)⟩
 · have key:∀ i u g,i≠n→vs[i]? = some u→u.ownBlock=some g→v'.ownBlock≠some g:=fun i u g hi q e e'=>by
     rcases hb with hb | hb
     · exact h.apart i n u v g hi q hv e (hb▸e')
     · have:=hb g e';have:=h.lt g (i4 i u g q e);omega
   rcases hq i u q with ⟨ei,eu⟩ | ⟨hi,q'⟩
   · rcases hq j u2 r with ⟨ej,eu2⟩ | ⟨hj,r'⟩
     · exact absurd (ei.trans ej.symm) hij
     · rw[eu] at e
       exact fun e'=>key j u2 g hj r' e' e
   · rcases hq j u2 r with ⟨ej,eu2⟩ | ⟨hj,r'⟩
     · rw[eu2];exact key i u g hi q' e
     · exact h.apart i j u u2 g hij q' r' e
 · rcases hq i u q with ⟨rfl,rfl⟩ | ⟨hi,q⟩
   · exact .inr e
   · exact .inl (i4 i u g q e)
 · rcases hq i u q with ⟨rfl,rfl⟩ | ⟨hi,q⟩
   · exact hnew g e
   · exact o4 i u g q e
 · rw[show (w1.setCell ⟨mb,n,none⟩ v').heap.size=w1.heap.size by simp]
   rcases hk with hk | hk
   · exact Nat.lt_of_lt_of_le (h.lt k hk) hsz
   · exact hl k hk
theorem iZ.wrote {C:Nat→Prop} {db nb dP mb dO:Nat} {d:Dk} {calls wo:Int} {vs:List Value} {w:World} (h:iZ C db d nb dP mb dO calls wo vs w) (n:Nat) (x:S) (kP:d.wr+1<4611686018427387904) :
   iZ C db ⟨d.now.set n x,d.may,d.wr+1⟩ nb dP mb dO calls wo vs ((w.setCell ⟨nb,n,none⟩ (.string ⟨x.toArray⟩)).setCell ⟨db,6,none⟩ (.int .i64 ((d.wr:Int)+1))):=by
 rw[show (d.wr:Int)+1=((d.wr+1:Nat):Int) from rfl]
 obtain ⟨o1,o2,o3,o4⟩:=h.off
 have e1:(w.setCell ⟨nb,n,none⟩ (.string ⟨x.toArray⟩)).heap[db]? = w.heap[db]? := Below.heap_setCell _ _ _ _ (by show db≠nb;exact o1)
 have hb:=heap_setCell_same (w.setCell ⟨nb,n,none⟩ (.string ⟨x.toArray⟩)) db 6 _ _ (.int .i64 ((d.wr+1:Nat):Int)) (e1.trans h.blk)
 have zG:=bB (FW h.now n (.string ⟨x.toArray⟩)) (u := .int .i64 ((d.wr+1:Nat):Int)) (g:=db) (i:=6) (fun e=>by cases e;exact o1 rfl)
 have hs:(strs d.now).set n (.string ⟨x.toArray⟩)=strs (d.now.set n x):=by simp[strs,List.map_set]
 refine ⟨by simpa [Fp] using hb,?_,?_,by simpa using h.len,fun i v q => ?_,h.apart,h.vP,h.off,fun k q=>by simpa using h.lt k q,kP⟩
 · rw[hs] at zG;simpa using zG
 · simpa using bB (bB h.may (g:=nb) (i:=n) (u := .string ⟨x.toArray⟩) (fun e=>by cases e;exact o3 rfl)) (g:=db) (i:=6) (u := .int .i64 ((d.wr+1:Nat):Int)) (fun e=>by cases e;exact o2 rfl)
 · rcases h.each i v q with q1 | ⟨q1,q2⟩
   · exact .inl q1
   · exact .inr ⟨q1,bB (bB q2 (fun e=>(o4 i v _ q e).2.1 rfl)) (fun e=>(o4 i v _ q e).1 rfl)⟩
theorem Bh {w w':World} {row:Option Nat} (h:w.drew.grownBy w' row):w.grownBy w' row:=⟨h.os,h.tape,h.output,h.size,h.block⟩
theorem Tg (w:World) (x:Value):(w.alloc (.cells #[x] 9)).ownsRow 0 9 1 (.slice (some ⟨w.heap.size,0,none⟩) 1 1) 1 [x] :=
 ⟨rfl, .inr ⟨w.heap.size,1, #[x],rfl,Nat.zero_le _,heap_alloc_new w _,Nat.le_refl _,by decide,rfl,rfl⟩⟩
theorem one_cell {x:S}:∀ u∈([.string ⟨x.toArray⟩]:List Value),u.oneCell'=true:=fun u hu=>by simp at hu;subst hu;rfl
theorem Hw {C:Nat→Prop} {db nb dP mb dO:Nat} {d:Dk} {calls wo:Int} {vs:List Value} (n:Nat) (hn:n<d.now.length) (x:S) (hm:d.may.getD n []≠[]) (hmb:(d.may.getD n []).length≤1000000) (kP:d.wr+1<4611686018427387904) (w:World) (h:iZ C db d nb dP mb dO calls wo vs w) :
   Calls Tryz.prog 338 #[.pointer (some ⟨db,0,none⟩), .int .i64 n, .string ⟨x.toArray⟩] w fun e w'=>∃ C',e = .returned (.int .i64 0)∧bI C' db (d.write n x) w'∧aQ w.heap.size C w w'∧∀ k,C' k→C k∨w.heap.size≤k:=by
 obtain ⟨i0,hi,hz0,hz1,hz2⟩:=aW gL
 have HD:=hide h
 have hmx:d.now.length≤maxLen:=by obtain ⟨h1,h2⟩:=ko h.now;omega
 obtain ⟨v,hv⟩:∃ v,vs[n]? = some v:=⟨_,List.getElem?_eq_getElem (by have:=h.may.1;simp at this;omega)⟩
 obtain ⟨xs,hxs⟩:∃ xs,d.may.getD n []=xs:=⟨_,rfl⟩
 have hst:Strs w v xs:=hxs▸h.each n v hv
 have HW:Hid (d.write n x=⟨d.now.set n x,d.may.set n (xs++[x]),d.wr+1⟩):=by rw[Dk.write,if_neg hm,hxs];exact rfl
 rw[hxs] at hm hmb
 obtain ⟨g,cm,rfl⟩:∃ g cm,v = .slice (some ⟨g,0,none⟩) xs.length cm:=by
   rcases hst with ⟨e,_⟩ | ⟨_,e⟩
   · exact absurd e hm
   · exact aP e (List.length_pos_iff.2 hm)
 have ZO:=h.vP.2.2.2 n _ g hv rfl
 have HV:=hide hv
 have HX:=hide hxs
 clear h hst hv hxs
 unfold maxLen at hmx
 have b1:(n:Int)<(d.now.length:Int):=by omega
 have hq:∀ (u:World) (a:Option Addr) (i j:Nat),(binOp BinOp.eql 28 (.slice a i j) (.slice none 0 0)).run Tryz.prog u = .ok (.bool a.isNone) u:=fun u a i j=>Lib.run_eql_slice_nil u _ _ a i j 0 0 Tryz.underlying28
 go_enter Tryz.func338,Tryz.ntmps338
 go_wp2_with (go_at_call 339;refine (qW _ _ _ HD.out).mono ?_;rintro e w1 ⟨c,rfl,hd1,hf1⟩;obtain ⟨c0,c1, -, -, -, -,c6, -,hfr⟩:=hd1.cells;have f6:=hfr 6;have HD1:=hide hd1;have eO:=hide hf1;have n0:w1.cell? ⟨mb,n,none⟩=some (.slice (some ⟨g,0,none⟩) xs.length cm):=(hd1.may.cellAt n (by omega)).trans HV.out;have n1:w1.frozen? ⟨mb,n,none⟩=false:=hd1.may.frozenAt n;have w0:w1.cell? ⟨nb,n,none⟩=some (.string ⟨(d.now[n]'hn).toArray⟩):=(hd1.now.cellAt n (by omega)).trans (by rw[strs,List.getElem?_map,List.getElem?_eq_getElem hn];rfl);have w0f:w1.frozen? ⟨nb,n,none⟩=false:=hd1.now.frozenAt n;clear hd1 hf1 hfr)
 have hst:=HD1.out.each n _ HV.out
 rw[HX.out] at hst
 have HO:Hid (w1.ownsRow 0 9 1 (.slice (some ⟨g,0,none⟩) xs.length cm) xs.length (strs xs)):=hide (by
   rcases hst with ⟨e,_⟩ | ⟨_,e⟩
   · exact absurd e hm
   · exact e)
 have l1:=HD1.out.lt db HD1.out.vP.1
 have l2:=HD1.out.lt mb HD1.out.vP.2.2.1
 have l3:=HD1.out.lt nb HD1.out.vP.2.1
 have e1 : ¬ db=w1.heap.size:=by omega
 have e2 : ¬ mb=w1.heap.size:=by omega
 obtain ⟨o1,o2,o3,o4⟩:=HD1.out.off
 clear hst
 go_region_law (refine bF rfl _ _ 28 rfl 0 9 i0 _ 1 16 Tryz.underlying28 hi hz0 hz1 hz2 rfl (by decide) (.slice (some ⟨g,0,none⟩) xs.length cm) xs.length (strs xs) (by simp[Act.eval]) (HO.out.alloc _) ⟨w1.heap.size,0,none⟩ 1 1 [.string ⟨x.toArray⟩] (by simp[Act.eval]) rfl (cell_one_new _ _ _) one_cell (by unfold maxLen;omega) (by omega) (by simp) ?_;intro v' w4 hown' aN eD dJ;obtain ⟨gv,cv,rfl⟩:=aP hown' (by omega);have hG:w1.grownBy w4 (Value.slice (some ⟨g,0,none⟩) xs.length cm).ownBlock:=(World.grownBy_alloc w1 _ _).trans (Bh aN);have ZM:=hG.block mb l2 (by simp[Value.ownBlock];exact fun e=>(o4 n _ g HV.out rfl).2.2 e.symm);have hbd:=hG.block db l1 (by simp[Value.ownBlock];exact fun e=>(o4 n _ g HV.out rfl).1 e.symm);have m0:=(iX hbd 0).trans c0;have m6:=(iX hbd 6).trans c6;have m7:=(nS hbd 6).trans f6;have hbn:=hG.block nb l3 (by simp[Value.ownBlock];exact fun e=>(o4 n _ g HV.out rfl).2.1 e.symm);have p0:=(iX hbn n).trans w0;have p1:=(nS hbn n).trans w0f;have m1:=(iX hbd 1).trans c1;have m4:=(iX ZM n).trans n0;have m5:=(nS ZM n).trans n1;have HG:=hide hG;have CP:=hide hown';have iI:=hide dJ;clear hG ZM hbd hbn aN hown' dJ eD)
 go_wp2_with fail
 all_goals
   have D1:=HD1.out.put n hn _ (.slice (some ⟨gv,0,none⟩) (xs.length+1) cv) HV.out (xs++[x]) HG.out (.inr ⟨by simp,by simpa [strs] using CP.out⟩) (iI.out.imp id (fun e k q=>by rw[e] at q;cases q;simp)) (fun k q=>(CP.out.lt k q).2)
   have D2:=D1.wrote n x kP
   have hs1:=eO.out.size
   have hs4:=HG.out.size
   go_ret
   refine ⟨_,rfl,⟨_,_,_,_,_,_,_,by rw[HW.out];exact D2⟩,(((eO.out.grown HG.out hs1 (fun k q => .inr (by cases q;exact ZO))).setCell (p:=⟨mb,n,none⟩) (.inr HD1.out.vP.2.2.1) _).setCell (p:=⟨nb,n,none⟩) (.inr HD1.out.vP.2.1) _).setCell (p:=⟨db,6,none⟩) (.inr HD1.out.vP.1) _,fun k q => ?_⟩
   rcases q with q | q
   · exact .inl q
   · rcases iI.out with e | e
     · rw[e] at q;cases q;exact .inl ZO
     · rw[e] at q;cases q;right;simp;omega
theorem KS {C:Nat→Prop} {db nb dP mb dO:Nat} {d:Dk} {calls wo:Int} {vs:List Value} (n:Nat) (hn:n<d.now.length) (x:S) (hm:d.may.getD n []=[]) (kP:d.wr+1<4611686018427387904) (w:World) (h:iZ C db d nb dP mb dO calls wo vs w) :
   Calls Tryz.prog 338 #[.pointer (some ⟨db,0,none⟩), .int .i64 n, .string ⟨x.toArray⟩] w fun e w'=>∃ C',e = .returned (.int .i64 0)∧bI C' db (d.write n x) w'∧aQ w.heap.size C w w'∧∀ k,C' k→C k∨w.heap.size≤k:=by
 obtain ⟨i0,hi,hz0,hz1,hz2⟩:=aW gL
 have HD:=hide h
 have hmx:d.now.length≤maxLen:=by obtain ⟨h1,h2⟩:=ko h.now;omega
 obtain ⟨v,hv⟩:∃ v,vs[n]? = some v:=⟨_,List.getElem?_eq_getElem (by have:=h.may.1;simp at this;omega)⟩
 have hst:=h.each n v hv
 obtain ⟨y,hy⟩:∃ y,d.now[n]? = some y:=⟨_,List.getElem?_eq_getElem hn⟩
 have HW:Hid (d.write n x=⟨d.now.set n x,(d.may.set n [y]).set n ([y]++[x]),d.wr+1⟩):=by rw[Dk.write,if_pos hm,List.getD_eq_getElem?_getD,hy,List.set_set];exact rfl
 obtain rfl:v = .slice none 0 0:=by
   rcases hst with ⟨_,e⟩ | ⟨e,_⟩
   · exact e
   · exact absurd hm e
 have hmn:n<d.may.length:=by rw[h.len];exact hn
 have HV:=hide hv
 have HY:=hide hy
 have HM:=hide hm
 clear h hst hv hm hy
 unfold maxLen at hmx
 have b1:(n:Int)<(d.now.length:Int):=by omega
 have hq:∀ (u:World) (a:Option Addr) (i j:Nat),(binOp BinOp.eql 28 (.slice a i j) (.slice none 0 0)).run Tryz.prog u = .ok (.bool a.isNone) u:=fun u a i j=>Lib.run_eql_slice_nil u _ _ a i j 0 0 Tryz.underlying28
 go_enter Tryz.func338,Tryz.ntmps338
 go_wp2_with (go_at_call 339;refine (qW _ _ _ HD.out).mono ?_;rintro e w0 ⟨c,rfl,hd1,hf1⟩;obtain ⟨c0,c1, -, -, -, -,c6, -,hfr⟩:=hd1.cells;have HD0:=hide hd1;have iV:=hide hf1;have n0:w0.cell? ⟨mb,n,none⟩=some (.slice none 0 0):=(hd1.may.cellAt n (by omega)).trans HV.out;have n1:w0.frozen? ⟨mb,n,none⟩=false:=hd1.may.frozenAt n;have m0:w0.cell? ⟨nb,n,none⟩=some (.string ⟨y.toArray⟩):=(hd1.now.cellAt n (by omega)).trans (by rw[strs,List.getElem?_map,HY.out];rfl);have l1:=hd1.lt db hd1.vP.1;have l2:=hd1.lt mb hd1.vP.2.2.1;have l3:=hd1.lt nb hd1.vP.2.1;have e1 : ¬ db=w0.heap.size:=(by omega);have e2 : ¬ mb=w0.heap.size:=(by omega);have e3 : ¬ nb=w0.heap.size:=(by omega);obtain ⟨o1,o2,o3, -⟩:=hd1.off;clear hd1 hf1 hfr)
 go_region
 show _
 have hG0:w0.grownBy (w0.alloc (.cells #[.string ⟨y.toArray⟩] 9)) (Value.slice none 0 0).ownBlock:=World.grownBy_alloc _ _ _
 have D0:=HD0.out.put n hn _ (.slice (some ⟨w0.heap.size,0,none⟩) 1 1) HV.out [y] hG0 (.inr ⟨by simp,by simpa [strs] using Tg w0 (.string ⟨y.toArray⟩)⟩) (.inr fun k q=>by cases q;exact Nat.le_refl _) (fun k q=>by cases q;simp)
 rw[World.setCell_alloc_past _ mb n _ l2] at D0
 have D1:=D0.drew
 have F1:=(((iV.out.setCell (p:=⟨mb,n,none⟩) (.inr HD.out.vP.2.2.1) (.slice (some ⟨w0.heap.size,0,none⟩) 1 1))).alloc (by simpa using iV.out.size) (.cells #[.string ⟨y.toArray⟩] 9)).drew
 have ZO:w.heap.size≤w0.heap.size:=iV.out.size
 obtain ⟨g,hgx⟩:∃ g,w0.heap.size=g:=⟨_,rfl⟩
 rw[hgx] at D1 F1 ZO ⊢
 obtain ⟨w1,hw1⟩:∃ w1,((w0.setCell ⟨mb,n,none⟩ (.slice (some ⟨g,0,none⟩) 1 1)).alloc (.cells #[.string ⟨y.toArray⟩] 9)).drew=w1:=⟨_,rfl⟩
 rw[hw1] at D1 F1 ⊢
 have hC1:∀ k,(C k∨(Value.slice (some ⟨g,0,none⟩) 1 1).ownBlock=some k)→C k∨w.heap.size≤k:=fun k q=>by
   rcases q with q | q
   · exact .inl q
   · cases q;exact .inr ZO
 generalize hCe:(fun k=>C k∨(Value.slice (some ⟨g,0,none⟩) 1 1).ownBlock=some k)=C1 at D1
 have hC1:∀ k,C1 k→C k∨w.heap.size≤k:=fun k q=>hC1 k (by rw[← hCe] at q;exact q)
 have Gl:Hid ((vs.set n (.slice (some ⟨g,0,none⟩) 1 1))[n]? = some (.slice (some ⟨g,0,none⟩) 1 1)):=hide (by
   have hq:=D1.may.1
   simp only[List.length_set] at hq
   rw[List.getElem?_set,if_pos rfl,if_pos (by omega)])
 generalize vs.set n (.slice (some ⟨g,0,none⟩) 1 1)=vs1 at D1 Gl
 have HD1:=hide D1
 have eO:=hide F1
 clear hw1 hgx hCe hG0 D0 HD0 iV HM HV c0 c1 c6 n0 n1 m0 l1 l2 l3 e1 e2 e3 o1 o2 o3 D1 F1
 obtain ⟨c0,c1, -, -, -, -,c6, -,hfr⟩:=HD1.out.cells
 have f6:=hfr 6
 have n0:w1.cell? ⟨mb,n,none⟩=some (.slice (some ⟨g,0,none⟩) 1 1):=(HD1.out.may.cellAt n (by simp;omega)).trans Gl.out
 have n1:w1.frozen? ⟨mb,n,none⟩=false:=HD1.out.may.frozenAt n
 have w0:w1.cell? ⟨nb,n,none⟩=some (.string ⟨y.toArray⟩):=(HD1.out.now.cellAt n (by simp;omega)).trans (by rw[strs,List.getElem?_map,HY.out];rfl)
 have w0f:w1.frozen? ⟨nb,n,none⟩=false:=HD1.out.now.frozenAt n
 have hst:=HD1.out.each n _ Gl.out
 have HO:Hid (w1.ownsRow 0 9 1 (.slice (some ⟨g,0,none⟩) 1 1) 1 (strs [y])):=hide (by
   simp only[List.getD_eq_getElem?_getD,List.getElem?_set,if_pos,hmn] at hst
   rcases hst with ⟨e,_⟩ | ⟨_,e⟩
   · simp at e
   · simpa using e)
 clear hfr hst
 simp only at c0 c1 c6
 go_wp2_with fail
 have l1:=HD1.out.lt db HD1.out.vP.1
 have l2:=HD1.out.lt mb HD1.out.vP.2.2.1
 have l3:=HD1.out.lt nb HD1.out.vP.2.1
 have e1 : ¬ db=w1.heap.size:=by omega
 have e2 : ¬ mb=w1.heap.size:=by omega
 obtain ⟨o1,o2,o3,o4⟩:=HD1.out.off
 go_region_law (refine bF rfl _ _ 28 rfl 0 9 i0 _ 1 16 Tryz.underlying28 hi hz0 hz1 hz2 rfl (by decide) (.slice (some ⟨g,0,none⟩) 1 1) 1 (strs [y]) (by simp[Act.eval]) (HO.out.alloc _) ⟨w1.heap.size,0,none⟩ 1 1 [.string ⟨x.toArray⟩] (by simp[Act.eval]) rfl (cell_one_new _ _ _) one_cell (by decide) (by omega) (by simp) ?_;intro v' w4 hown' aN eD dJ;obtain ⟨gv,cv,rfl⟩:=aP hown' (by omega);have hG:w1.grownBy w4 (Value.slice (some ⟨g,0,none⟩) 1 1).ownBlock:=(World.grownBy_alloc w1 _ _).trans (Bh aN);have ZM:=hG.block mb l2 (by simp[Value.ownBlock];exact fun e=>(o4 n _ g Gl.out rfl).2.2 e.symm);have hbd:=hG.block db l1 (by simp[Value.ownBlock];exact fun e=>(o4 n _ g Gl.out rfl).1 e.symm);have m0:=(iX hbd 0).trans c0;have m6:=(iX hbd 6).trans c6;have m7:=(nS hbd 6).trans f6;have hbn:=hG.block nb l3 (by simp[Value.ownBlock];exact fun e=>(o4 n _ g Gl.out rfl).2.1 e.symm);have p0:=(iX hbn n).trans w0;have p1:=(nS hbn n).trans w0f;have m1:=(iX hbd 1).trans c1;have m4:=(iX ZM n).trans n0;have m5:=(nS ZM n).trans n1;have HG:=hide hG;have CP:=hide hown';have iI:=hide dJ;clear hG ZM hbd hbn aN hown' dJ eD)
 go_wp2_with fail
 all_goals
   have D1:=HD1.out.put n hn _ (.slice (some ⟨gv,0,none⟩) (1+1) cv) Gl.out ([y]++[x]) HG.out (.inr ⟨by simp,by simpa [strs] using CP.out⟩) (iI.out.imp id (fun e k q=>by rw[e] at q;cases q;simp)) (fun k q=>(CP.out.lt k q).2)
   have D2:=D1.wrote n x kP
   have hs1:=eO.out.size
   have hs4:=HG.out.size
   go_ret
   refine ⟨_,rfl,⟨_,_,_,_,_,_,_,by rw[HW.out];exact D2⟩,(((eO.out.grown HG.out hs1 (fun k q => .inl (by cases q;exact ZO))).setCell (p:=⟨mb,n,none⟩) (.inr HD.out.vP.2.2.1) _).setCell (p:=⟨nb,n,none⟩) (.inr HD.out.vP.2.1) _).setCell (p:=⟨db,6,none⟩) (.inr HD.out.vP.1) _,fun k q => ?_⟩
   rcases q with q | q
   · exact hC1 k q
   · rcases iI.out with e | e
     · rw[e] at q;cases q;exact .inr ZO
     · rw[e] at q;cases q;right;simp;omega
theorem bI.alloc {C:Nat→Prop} {db:Nat} {d:Dk} {w:World} (h:bI C db d w) (o:Obj):bI C db d (w.alloc o):=h.below ((Below.refl _ w).alloc (Nat.le_refl _) o)
theorem bI.drew {C:Nat→Prop} {db:Nat} {d:Dk} {w:World} (h:bI C db d w):bI C db d w.drew:=h.below ((Below.refl _ w).drew)
theorem bI.set {C:Nat→Prop} {db:Nat} {d:Dk} {w:World} (h:bI C db d w) (b i:Nat) (hb : ¬ C b) (v:Value):bI C db d (w.setCell ⟨b,i,none⟩ v):=h.far ((aQ.refl w.heap.size (fun k=>k=b) w).setCell (p:=⟨b,i,none⟩) (.inr rfl) v) (Nat.le_refl _) (fun k hk e=>by subst e;exact hb hk)
theorem vG {C:Nat→Prop} {db:Nat} {d:Dk} (w:World) (h:bI C db d w) :
   Calls Tryz.prog 337 #[.pointer (some ⟨db,0,none⟩)] w fun e w'=>e = .returned (.int .i64 d.now.length)∧w'=w:=by
 obtain ⟨nb,dP,mb,dO,calls,wo,vs,h⟩:=h
 exact Fu w h
theorem OG {C:Nat→Prop} {db:Nat} {d:Dk} (n:Nat) (x:S) (hx:d.now[n]? = some x) (w:World) (h:bI C db d w) :
   Calls Tryz.prog 336 #[.pointer (some ⟨db,0,none⟩), .int .i64 n] w fun e w'=>e = .returned (.tuple #[.string ⟨x.toArray⟩, .int .i64 0])∧bI C db d w'∧aQ w.heap.size C w w':=by
 obtain ⟨nb,dP,mb,dO,calls,wo,vs,h⟩:=h
 refine (OI n x hx w h).mono ?_
 rintro e w' ⟨c,h1,h2,h3⟩
 exact ⟨h1,⟨_,_,_,_,_,_,_,h2⟩,h3⟩
theorem KQ {C:Nat→Prop} {db:Nat} {d:Dk} (w:World) (h:bI C db d w) :
   Calls Tryz.prog 335 #[.pointer (some ⟨db,0,none⟩)] w fun e w'=>e = .returned (.int .i64 0)∧bI C db d.flush w'∧aQ w.heap.size C w w':=by
 obtain ⟨nb,dP,mb,dO,calls,wo,vs,h⟩:=h
 refine (KN w h).mono ?_
 rintro e w' ⟨c,vs',h1,h2,h3⟩
 exact ⟨h1,⟨_,_,_,_,_,_,_,h2⟩,h3⟩
theorem KR {C:Nat→Prop} {db:Nat} {d:Dk} (n:Nat) (hn:n<d.now.length) (x:S) (hmb:(d.may.getD n []).length≤1000000) (kP:d.wr+1<4611686018427387904) (w:World) (h:bI C db d w) :
   Calls Tryz.prog 338 #[.pointer (some ⟨db,0,none⟩), .int .i64 n, .string ⟨x.toArray⟩] w fun e w'=>∃ C',e = .returned (.int .i64 0)∧bI C' db (d.write n x) w'∧aQ w.heap.size C w w'∧∀ k,C' k→C k∨w.heap.size≤k:=by
 obtain ⟨nb,dP,mb,dO,calls,wo,vs,h⟩:=h
 by_cases hm:d.may.getD n []=[]
 · exact KS n hn x hm kP w h
 · exact Hw n hn x hm hmb kP w h
def Di (db:Nat):Value := .iface 23 (.pointer (some ⟨db,0,none⟩))
def gJ (db n:Nat):Array Value := #[.iface 23 (.pointer (some ⟨db,0,none⟩)), .int .i64 n]
theorem vU (db:Nat) (w:World):(method 527 23 (.pointer (some ⟨db,0,none⟩)) "Sectors").run Tryz.prog w = .ok (337, .pointer (some ⟨db,0,none⟩)) w:=by kernel_rfl
theorem Pw (db:Nat) (w:World):(method 527 23 (.pointer (some ⟨db,0,none⟩)) "Read").run Tryz.prog w = .ok (336, .pointer (some ⟨db,0,none⟩)) w:=by kernel_rfl
theorem LM (db:Nat) (w:World):(method 527 23 (.pointer (some ⟨db,0,none⟩)) "Write").run Tryz.prog w = .ok (338, .pointer (some ⟨db,0,none⟩)) w:=by kernel_rfl
theorem LK (db:Nat) (w:World):(method 527 23 (.pointer (some ⟨db,0,none⟩)) "Flush").run Tryz.prog w = .ok (335, .pointer (some ⟨db,0,none⟩)) w:=by kernel_rfl
theorem Fj {C:Nat→Prop} {db:Nat} {d:Dk} (w:World) (h:bI C db d w) :
   Calls Tryz.prog 43 #[Di db] w fun e w'=>e = .returned (.agg (gJ db d.now.length))∧Below w.heap.size w w':=by
 have HD:=hide h
 clear h
 unfold Di
 have hm:=vU db
 go_enter Tryz.func43,Tryz.ntmps43
 go_wp2_with (go_at_call 337;refine (vG _ (HD.out.alloc _)).mono ?_;rintro e w1 ⟨rfl,rfl⟩)
 refine bodyPost_ret (v := .agg (gJ db d.now.length)) (by simp[results,Tryz.results43,go_sem,gJ]) rfl ⟨rfl,?_⟩
 exact (Below.refl _ _).alloc (Nat.le_refl _) _
theorem yI (db n:Nat) (w:World) :
   Calls Tryz.prog 70 #[.agg (gJ db n)] w fun e w'=>e = .returned (.int .i64 n)∧Below w.heap.size w w':=by
 unfold gJ
 go_enter Tryz.func70,Tryz.ntmps70
 go_wp2
 go_ret
 exact ⟨rfl,(Below.refl _ _).alloc (Nat.le_refl _) _⟩
theorem OD {C:Nat→Prop} {db m a b r n:Nat} {d:Dk} (x:S) (hx:d.now[n]? = some x) (w:World) (h:bI C db d w) (y:Value) (hrC : ¬ C r)
   (ha:w.heap[a]? = some (.cells (gJ db m) 110 (0,0))) (hb:w.heap[b]? = some (.cells #[.int .i64 n] 3 (0,0))) (hr:w.heap[r]? = some (.cells #[y] 9 (0,0))) :
   Calls Tryz.prog 148 #[.pointer (some ⟨a,0,none⟩), .pointer (some ⟨b,0,none⟩), .pointer (some ⟨r,0,none⟩)] w fun e w'=>e = .returned (.int .i64 0)∧bI C db d w'∧w'.heap[r]? = some (.cells #[.string ⟨x.toArray⟩] 9 (0,0))∧aQ w.heap.size (fun k=>C k∨k=r) w w':=by
 have HD:=hide h
 have a0:=(ah ha 0).trans (show _=some (.iface 23 (.pointer (some ⟨db,0,none⟩))) from rfl)
 have b0:=(ah hb 0).trans (show _=some (.int .i64 n) from rfl)
 have hm:=Pw db
 have hrl:=blt hr
 have HR:=hide hr
 clear h ha hb hr
 go_enter Tryz.func148,Tryz.ntmps148
 go_wp2_with (go_at_call 336;refine (OG _ x hx _ HD.out).mono ?_;rintro e w1 ⟨rfl,hd1,hf1⟩;have hr1:=(hf1.block r hrl hrC).trans HR.out;have r0:=(ah hr1 0).trans (show _=some y from rfl);have r1:=ak hr1 0;have HR1:=hide hr1;have HD1:=hide hd1;have eO:=hide hf1;clear hr1 hd1 hf1)
 go_ret
 exact ⟨rfl,HD1.out.set r 0 hrC _,heap_setCell_same _ r 0 _ _ _ HR1.out,(eO.out.mono (Nat.le_refl _) (fun _ _ => .inl)).setCell (p:=⟨r,0,none⟩) (.inr (.inr rfl)) _⟩
theorem Fv (args:Array Value) (w:World):(callFunc 148 args).run Tryz.prog w = .ok (.enter 148 args) w :=
 enters Tryz.func148 (by kernel_rfl) rfl args w
theorem Dj (args:Array Value) (w:World):(callFunc 194 args).run Tryz.prog w = .ok (.enter 194 args) w :=
 enters Tryz.func194 (by kernel_rfl) rfl args w
theorem Uo (g:Nat) (a b c:Value) (he:∀ args w,(callFunc g args).run Tryz.prog w = .ok (.enter g args) w) (nm:S) (w:World) (Q:World→Prop)
   (h:Calls Tryz.prog g #[a,b,c] w fun e w'=>e = .returned (.int .i64 0)∧Q w') :
   Calls Tryz.prog 147 #[.string ⟨nm.toArray⟩, .func (.func g) #[] #[a,b,c]] w fun e w'=>e = .returned .nilIface∧Q w':=by
 go_enter Tryz.func147,Tryz.ntmps147
 go_wp2_with (refine h.mono ?_;rintro e w' ⟨rfl,hq⟩;have HQ:=hide hq;clear hq)
 go_loop [5,6] (fun y i=>y = .int .i64 0∧i = .int .i64 0) (fun _ _=>0)
 case atStart=>exact ⟨rfl,rfl⟩
 case round =>
   obtain ⟨rfl,rfl⟩:=hrel
   go_wp2_with fail
   go_ret
   exact ⟨rfl,HQ.out⟩
theorem J7 (x:S) (w:World):Calls Tryz.prog 37 #[.string ⟨x.toArray⟩, .nilIface] w fun e w'=>e = .returned .nilIface∧w'=w:=by
 go_enter Tryz.func37,Tryz.ntmps37
 go_wp2
 go_ret
 exact ⟨rfl,rfl⟩
theorem Hr {C:Nat→Prop} {db m n:Nat} {d:Dk} (x:S) (hx:d.now[n]? = some x) (w:World) (h:bI C db d w) :
   Calls Tryz.prog 84 #[.agg (gJ db m), .int .i64 n] w fun e w'=>e = .returned (.tuple #[.string ⟨x.toArray⟩, .nilIface])∧bI C db d w'∧aQ w.heap.size C w w':=by
 have HD:=hide h
 have hlt:=hide h.lt
 clear h
 go_enter Tryz.func84,Tryz.ntmps84
 go_wp2_with fail
 have ha:(((w.alloc (.cells (gJ db m) 110)).alloc (.cells #[.int .i64 n] 3)).alloc (.cells #[.string ⟨#[]⟩] 9)).heap[w.heap.size]? = some (.cells (gJ db m) 110 (0,0)) :=
   (Below.heap_alloc _ _ _ (by simp;omega)).trans ((Below.heap_alloc _ _ _ (by simp)).trans (heap_alloc_new w _))
 have hb:(((w.alloc (.cells (gJ db m) 110)).alloc (.cells #[.int .i64 n] 3)).alloc (.cells #[.string ⟨#[]⟩] 9)).heap[w.heap.size+1]? = some (.cells #[.int .i64 n] 3 (0,0)) :=
   (Below.heap_alloc _ _ _ (by simp)).trans (by have:=heap_alloc_new (w.alloc (.cells (gJ db m) 110)) (.cells #[.int .i64 n] 3);simpa using this)
 have hr:(((w.alloc (.cells (gJ db m) 110)).alloc (.cells #[.int .i64 n] 3)).alloc (.cells #[.string ⟨#[]⟩] 9)).heap[w.heap.size+1+1]? = some (.cells #[.string ⟨#[]⟩] 9 (0,0)):=by
   have:=heap_alloc_new ((w.alloc (.cells (gJ db m) 110)).alloc (.cells #[.int .i64 n] 3)) (.cells #[.string ⟨#[]⟩] 9)
   simpa using this
 have hC : ¬ C (w.heap.size+1+1):=fun q=>by have:=hlt.out _ q;omega
 have iV:=hide ((((aQ.refl w.heap.size C w).alloc (Nat.le_refl _) (.cells (gJ db m) 110)).alloc (by simp) (.cells #[.int .i64 n] 3)).alloc (by simp;omega) (.cells #[.string ⟨#[]⟩] 9))
 have HD0:=hide (((HD.out.alloc (.cells (gJ db m) 110)).alloc (.cells #[.int .i64 n] 3)).alloc (.cells #[.string ⟨#[]⟩] 9))
 obtain ⟨w3,hw3⟩:∃ w3,(((w.alloc (.cells (gJ db m) 110)).alloc (.cells #[.int .i64 n] 3)).alloc (.cells #[.string ⟨#[]⟩] 9))=w3:=⟨_,rfl⟩
 have hs3:w3.heap.size=w.heap.size+3:=by rw[← hw3];simp
 rw[hw3] at ha hb hr iV HD0 ⊢
 refine (Uo 148 _ _ _ Fv [82,101,97,100] w3 _ (OD x hx w3 HD0.out _ hC ha hb hr)).mono ?_
 rintro e w4 ⟨rfl,hd4,hr4,lF⟩
 have r0:=(ah hr4 0).trans (show _=some (.string ⟨x.toArray⟩) from rfl)
 have HD4:=hide hd4
 have sS:=hide (iV.out.next lF (by omega) (fun k hk hc=>by
   rcases hc with hc | rfl
   · exact hc
   · omega))
 clear ha hb hr hd4 hr4 lF hw3
 go_wp2_with fail
 go_ret2
 exact ⟨rfl,HD4.out,sS.out⟩
end
end Go.Proofs.YtialenebfcnkkaaGreatDoor
