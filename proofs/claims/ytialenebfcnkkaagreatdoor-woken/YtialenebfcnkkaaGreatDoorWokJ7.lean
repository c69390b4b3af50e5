/- FarB, DkW1, DkW2, DkW3, DkW4, DkW5, DkW6, DvW1, DvW2 -/
import Derived.Test.YtialenebfcnkkaaGreatDoorWokJ6
set_option maxHeartbeats 2000000
set_option maxRecDepth 100000
namespace Go.Proofs.YtialenebfcnkkaaGreatDoor
section
open Go.RowKit
theorem blt {w:World} {g:Nat} {o:Obj} (h:w.heap[g]? = some o):g<w.heap.size:=(Array.getElem?_eq_some_iff.1 h).1
theorem blk_cell {w w':World} {b:Nat} (h:w'.heap[b]? = w.heap[b]?) (j:Nat):w'.cell? ⟨b,j,none⟩=w.cell? ⟨b,j,none⟩:=World.cell?_of_block (a:=⟨b,j,none⟩) h
theorem blk_free {w w':World} {b:Nat} (h:w'.heap[b]? = w.heap[b]?) (j:Nat):w'.frozen? ⟨b,j,none⟩=w.frozen? ⟨b,j,none⟩:=World.frozen?_of_block (a:=⟨b,j,none⟩) h
structure Far (B:Nat) (C:Nat→Prop) (w w':World):Prop where
 os:w'.os=w.os
 tape:w'.tape=w.tape
 output:w'.output=w.output
 size:w.heap.size≤w'.heap.size
 block:∀ k,k<B → ¬ C k→w'.heap[k]? = w.heap[k]?
theorem Far.refl (B:Nat) (C:Nat→Prop) (w:World):Far B C w w:=⟨rfl,rfl,rfl,Nat.le_refl _,fun _ _ _=>rfl⟩
theorem Far.trans {B:Nat} {C:Nat→Prop} {a b c:World} (h:Far B C a b) (k:Far B C b c):Far B C a c :=
 ⟨k.os.trans h.os,k.tape.trans h.tape,k.output.trans h.output,Nat.le_trans h.size k.size,fun i hi hc=>(k.block i hi hc).trans (h.block i hi hc)⟩
theorem Far.of {B B':Nat} {C:Nat→Prop} {w w':World} (h:Below B' w w') (hB:B≤B'):Far B C w w':=⟨h.os,h.tape,h.output,h.size,fun k hk _=>h.block k (by omega)⟩
theorem Far.mono {B B':Nat} {C C':Nat→Prop} {w w':World} (h:Far B C w w') (hB:B'≤B) (hC:∀ k,k<B'→C k→C' k):Far B' C' w w':=⟨h.os,h.tape,h.output,h.size,fun k hk hc=>h.block k (by omega) (fun q=>hc (hC k hk q))⟩
theorem Far.next {B B':Nat} {C C':Nat→Prop} {a b c:World} (h:Far B C a b) (k:Far B' C' b c) (hB:B≤B') (hC:∀ i,i<B→C' i→C i):Far B C a c:=h.trans (k.mono hB hC)
theorem Far.toBelow {B B':Nat} {C:Nat→Prop} {w w':World} (h:Far B C w w') (hB:B'≤B) (hC:∀ k,k<B' → ¬ C k):Below B' w w':=⟨h.os,h.tape,h.output,h.size,fun k hk=>h.block k (by omega) (hC k hk)⟩
theorem Far.below {B B':Nat} {C:Nat→Prop} {a w w':World} (h:Far B C a w) (hb:Below B' w w') (hB:B≤B'):Far B C a w':=h.trans (Far.of hb hB)
theorem Far.drew {B:Nat} {C:Nat→Prop} {a w:World} (h:Far B C a w):Far B C a w.drew:=⟨h.os,h.tape,h.output,h.size,h.block⟩
theorem Far.alloc {B:Nat} {C:Nat→Prop} {a w:World} (h:Far B C a w) (hB:B≤w.heap.size) (o:Obj):Far B C a (w.alloc o) :=
 h.trans ⟨rfl,rfl,rfl,by simp,fun k hk _=>Below.heap_alloc _ _ _ (by omega)⟩
theorem Far.setCell {B:Nat} {C:Nat→Prop} {a w:World} (h:Far B C a w) {p:Addr} (hp:B≤p.block∨C p.block) (u:Value):Far B C a (w.setCell p u) :=
 h.trans ⟨rfl,rfl,rfl,by simp[World.setCell],fun k hk hc=>Below.heap_setCell _ _ _ _ (fun e=>by
   subst e
   rcases hp with hp | hp
   · omega
   · exact hc hp)⟩
theorem Far.grown {B:Nat} {C:Nat→Prop} {a w w':World} {row:Option Nat} (h:Far B C a w) (hg:w.grownBy w' row) (hB:B≤w.heap.size) (hr:∀ k,row=some k→B≤k∨C k):Far B C a w' :=
 h.trans ⟨hg.os,hg.tape,hg.output,hg.size,fun k hk hc=>hg.block k (by omega) (fun e=>by
   rcases hr k e.symm with h | h
   · omega
   · exact hc h)⟩
theorem Far.cell {B:Nat} {C:Nat→Prop} {w w':World} (h:Far B C w w') {p:Addr} (hp:p.block<B) (hc : ¬ C p.block):w'.cell? p=w.cell? p:=World.cell?_of_block (w:=w) (h.block p.block hp hc)
theorem Far.own {B:Nat} {C:Nat→Prop} {w w':World} {b0 e size n:Nat} {v:Value} {xs:List Value} (h:Far B C w w') (ho:w.ownsRow b0 e size v n xs) (hB:w.heap.size≤B) (hv:∀ g,v.ownBlock=some g → ¬ C g):w'.ownsRow b0 e size v n xs:=by
 refine ⟨ho.1,?_⟩
 rcases ho.2 with ⟨rfl,rfl⟩ | ⟨g,cap,cur,rfl,h1,h2,h3⟩
 · exact .inl ⟨rfl,rfl⟩
 · exact .inr ⟨g,cap,cur,rfl,h1,(h.block g (by have:=blt h2;omega) (hv g rfl)).trans h2,h3⟩
theorem ownsRow_kept' {w w':World} {b0 e size n:Nat} {v:Value} {xs:List Value} (ho:w.ownsRow b0 e size v n xs) (hv:∀ g,v.ownBlock=some g→w'.heap[g]? = w.heap[g]?):w'.ownsRow b0 e size v n xs:=by
 refine ⟨ho.1,?_⟩
 rcases ho.2 with ⟨rfl,rfl⟩ | ⟨g,cap,cur,rfl,h1,h2,h3⟩
 · exact .inl ⟨rfl,rfl⟩
 · exact .inr ⟨g,cap,cur,rfl,h1,(hv g rfl).trans h2,h3⟩
theorem own_put {w:World} {B:Nat} {e:TypeId} {size n g cap:Nat} {xs:List Value} (h:w.ownsRow B e size (.slice (some ⟨g,0,none⟩) n cap) n xs) (i:Nat) (v:Value):(w.setCell ⟨g,i,none⟩ v).ownsRow B e size (.slice (some ⟨g,0,none⟩) n cap) n (xs.set i v):=by
 refine ⟨by rw[List.length_set];exact h.1,?_⟩
 rcases h.2 with ⟨h',_⟩ | ⟨g',cap',cur,h',hg,hgg,h1,h2,h3,h4⟩
 · simp at h'
 · simp only[Value.slice.injEq,Option.some.injEq,Addr.mk.injEq,and_true,true_and] at h'
   obtain ⟨rfl,rfl⟩:=h'
   refine .inr ⟨g,cap,cur.setIfInBounds i v,rfl,hg,heap_setCell_same _ g i _ _ v hgg,h1,h2,by rw[Array.size_setIfInBounds];exact h3,?_⟩
   rw[Array.toList_setIfInBounds,List.take_set,h4]
theorem own_away {w:World} {B:Nat} {e:TypeId} {size n:Nat} {v u:Value} {xs:List Value} {g i:Nat} (h:w.ownsRow B e size v n xs) (hn:v.ownBlock≠some g):(w.setCell ⟨g,i,none⟩ u).ownsRow B e size v n xs:=by
 refine ⟨h.1,?_⟩
 rcases h.2 with h' | ⟨g',cap',cur,rfl,hg,hgg,rest⟩
 · exact .inl h'
 · refine .inr ⟨g',cap',cur,rfl,hg,?_,rest⟩
   rw[Below.heap_setCell _ _ _ _ (fun e=>hn (by rw[e];rfl))]
   exact hgg
theorem own_lim {w:World} {B e size n g c:Nat} {xs:List Value} (h:w.ownsRow B e size (.slice (some ⟨g,0,none⟩) n c) n xs):n≤c∧c≤maxLen:=by
 rcases h.2 with ⟨h',_⟩ | ⟨g',cap,cur,h',_,_,h1,h2,_⟩
 · simp at h'
 · simp only[Value.slice.injEq,Option.some.injEq,Addr.mk.injEq,and_true,true_and] at h'
   obtain ⟨rfl,rfl⟩:=h'
   exact ⟨h1,h2⟩
namespace Hv
abbrev S:=List UInt8
structure Dk where
 now:List S
 may:List (List S)
 wr:Nat
def Dk.write (d:Dk) (n:Nat) (x:S):Dk:=⟨d.now.set n x,d.may.set n ((if d.may.getD n []=[] then [d.now.getD n []] else d.may.getD n [])++[x]),d.wr+1⟩
def Dk.flush (d:Dk):Dk:=⟨d.now,d.now.map fun _=>[],d.wr⟩
end Hv
open Hv (S Dk)
def Strs (w:World) (v:Value) (xs:List S):Prop:=(xs=[]∧v = .slice none 0 0)∨(xs≠[]∧w.ownsRow 0 9 1 v xs.length (strs xs))
def dkCells (nb ncap mb mcap n:Nat) (calls wo:Int) (wr:Nat):Array Value :=
 #[.slice (some ⟨nb,0,none⟩) n ncap, .slice (some ⟨mb,0,none⟩) n mcap, .int .i64 calls, .int .i64 (-1), .bool false, .slice none 0 0, .int .i64 wr, .slice none 0 0, .int .i64 wo]
structure DkIn (C:Nat→Prop) (db:Nat) (d:Dk) (nb ncap mb mcap:Nat) (calls wo:Int) (vs:List Value) (w:World):Prop where
 blk:w.heap[db]? = some (.cells (dkCells nb ncap mb mcap d.now.length calls wo d.wr) 46 (0,0))
 now:w.ownsRow 0 9 1 (.slice (some ⟨nb,0,none⟩) d.now.length ncap) d.now.length (strs d.now)
 may:w.ownsRow 0 28 1 (.slice (some ⟨mb,0,none⟩) d.now.length mcap) d.now.length vs
 len:d.may.length=d.now.length
 each:∀ (i:Nat) (v:Value),vs[i]? = some v→Strs w v (d.may.getD i [])
 apart:∀ (i j:Nat) (v u:Value) (g:Nat),i≠j→vs[i]? = some v→vs[j]? = some u→v.ownBlock=some g→u.ownBlock≠some g
 inC:C db∧C nb∧C mb∧∀ (i:Nat) (v:Value) (g:Nat),vs[i]? = some v→v.ownBlock=some g→C g
 off:db≠nb∧db≠mb∧nb≠mb∧∀ (i:Nat) (v:Value) (g:Nat),vs[i]? = some v→v.ownBlock=some g→g≠db∧g≠nb∧g≠mb
 lt:∀ k,C k→k<w.heap.size
 few:d.wr<4611686018427387904
def DkAt (C:Nat→Prop) (db:Nat) (d:Dk) (w:World):Prop:=∃ nb ncap mb mcap calls wo vs,DkIn C db d nb ncap mb mcap calls wo vs w
theorem Strs.far {w w':World} {v:Value} {xs:List S} {B:Nat} {D:Nat→Prop} (h:Strs w v xs) (hf:Far B D w w') (hB:w.heap.size≤B) (hv:∀ g,v.ownBlock=some g → ¬ D g):Strs w' v xs:=by
 rcases h with h | ⟨h1,h2⟩
 · exact .inl h
 · exact .inr ⟨h1,hf.own h2 hB hv⟩
theorem DkIn.far {C D:Nat→Prop} {db nb ncap mb mcap:Nat} {d:Dk} {calls wo:Int} {vs:List Value} {w w':World} {B:Nat} (h:DkIn C db d nb ncap mb mcap calls wo vs w) (hf:Far B D w w') (hB:w.heap.size≤B) (hD:∀ k,C k → ¬ D k):DkIn C db d nb ncap mb mcap calls wo vs w':=by
 obtain ⟨c1,c2,c3,c4⟩:=h.inC
 refine ⟨(hf.block db (by have:=h.lt db c1;omega) (hD _ c1)).trans h.blk,hf.own h.now hB (fun g hg=>by cases hg;exact hD _ c2),hf.own h.may hB (fun g hg=>by cases hg;exact hD _ c3),h.len,fun i v hv=>(h.each i v hv).far hf hB (fun g hg=>hD _ (c4 i v g hv hg)),h.apart,h.inC,h.off,fun k hk=>Nat.lt_of_lt_of_le (h.lt k hk) hf.size,h.few⟩
theorem DkAt.far {C D:Nat→Prop} {db:Nat} {d:Dk} {w w':World} {B:Nat} (h:DkAt C db d w) (hf:Far B D w w') (hB:w.heap.size≤B) (hD:∀ k,C k → ¬ D k):DkAt C db d w':=by
 obtain ⟨nb,ncap,mb,mcap,calls,wo,vs,h⟩:=h
 exact ⟨nb,ncap,mb,mcap,calls,wo,vs,h.far hf hB hD⟩
theorem DkAt.below {C:Nat→Prop} {db:Nat} {d:Dk} {w w':World} (h:DkAt C db d w) (hb:Below w.heap.size w w'):DkAt C db d w':=h.far (Far.of (C:=fun _=>False) hb (Nat.le_refl _)) (Nat.le_refl _) (fun _ _ h=>h)
theorem DkAt.lt {C:Nat→Prop} {db:Nat} {d:Dk} {w:World} (h:DkAt C db d w):∀ k,C k→k<w.heap.size:=by
 obtain ⟨nb,ncap,mb,mcap,calls,wo,vs,h⟩:=h
 exact h.lt
theorem DkAt.at_ {C:Nat→Prop} {db:Nat} {d:Dk} {w:World} (h:DkAt C db d w):C db:=by
 obtain ⟨nb,ncap,mb,mcap,calls,wo,vs,h⟩:=h
 exact h.inC.1
theorem DkIn.cells {C:Nat→Prop} {db nb ncap mb mcap:Nat} {d:Dk} {calls wo:Int} {vs:List Value} {w:World} (h:DkIn C db d nb ncap mb mcap calls wo vs w) :
   w.cell? ⟨db,0,none⟩=some (.slice (some ⟨nb,0,none⟩) d.now.length ncap)∧w.cell? ⟨db,1,none⟩=some (.slice (some ⟨mb,0,none⟩) d.now.length mcap)∧w.cell? ⟨db,2,none⟩=some (.int .i64 calls)∧w.cell? ⟨db,3,none⟩=some (.int .i64 (-1))∧w.cell? ⟨db,4,none⟩=some (.bool false) ∧
     w.cell? ⟨db,5,none⟩=some (.slice none 0 0)∧w.cell? ⟨db,6,none⟩=some (.int .i64 d.wr)∧w.cell? ⟨db,7,none⟩=some (.slice none 0 0)∧∀ j,w.frozen? ⟨db,j,none⟩=false :=
 ⟨(row_cell h.blk 0).trans rfl,(row_cell h.blk 1).trans rfl,(row_cell h.blk 2).trans rfl,(row_cell h.blk 3).trans rfl,(row_cell h.blk 4).trans rfl,(row_cell h.blk 5).trans rfl,(row_cell h.blk 6).trans rfl,(row_cell h.blk 7).trans rfl,row_free h.blk⟩
theorem DkIn.drew {C:Nat→Prop} {db nb ncap mb mcap:Nat} {d:Dk} {calls wo:Int} {vs:List Value} {w:World} (h:DkIn C db d nb ncap mb mcap calls wo vs w):DkIn C db d nb ncap mb mcap calls wo vs w.drew :=
 h.far ((Far.refl w.heap.size (fun _=>False) w).drew) (Nat.le_refl _) (fun _ _ h=>h)
theorem DkIn.call {C:Nat→Prop} {db nb ncap mb mcap:Nat} {d:Dk} {calls wo:Int} {vs:List Value} {w:World} (h:DkIn C db d nb ncap mb mcap calls wo vs w) (c:Int):DkIn C db d nb ncap mb mcap c wo vs (w.setCell ⟨db,2,none⟩ (.int .i64 c)):=by
 obtain ⟨o1,o2,o3,o4⟩:=h.off
 exact ⟨heap_setCell_same _ db 2 _ _ _ h.blk,own_away h.now (fun e=>by cases e;exact o1 rfl),own_away h.may (fun e=>by cases e;exact o2 rfl),h.len,fun i v hv=>by
   rcases h.each i v hv with q | ⟨q1,q2⟩
   · exact .inl q
   · exact .inr ⟨q1,own_away q2 (fun e=>(o4 i v _ hv e).1 rfl)⟩,h.apart,h.inC,h.off,fun k hk=>by simpa using h.lt k hk,h.few⟩
theorem dcall_any {C:Nat→Prop} {db nb ncap mb mcap:Nat} {d:Dk} {calls wo:Int} {vs:List Value} (kind:Int) (n:Int) (w:World) (h:DkIn C db d nb ncap mb mcap calls wo vs w) :
   Calls Tryz.prog 339 #[.pointer (some ⟨db,0,none⟩), .int .u8 kind, .int .i64 n] w fun e w'=>∃ c,e = .returned (.int .i64 0)∧DkIn C db d nb ncap mb mcap c wo vs w'∧Far w.heap.size C w w':=by
 obtain ⟨c0,c1,c2,c3,c4,c5,c6,c7,f⟩:=h.cells
 have f2:=f 2
 have HD:=hide h
 clear h f
 have c7':(w.setCell ⟨db,2,none⟩ (.int .i64 (wrap64 (calls+1)))).cell? ⟨db,7,none⟩=some (.slice none 0 0):=(World.cell?_setCell_other _ _ _ _ (by simp)).trans c7
 go_enter Tryz.func339,Tryz.ntmps339
 go_wp2_with (first | go_region)
 go_ret
 exact ⟨_,rfl,(HD.out.call _).drew.drew,((Far.refl _ _ _).setCell (p:=⟨db,2,none⟩) (.inr HD.out.inC.1) _).drew.drew⟩
end
section
open Go.RowKit
open Hv (S Dk)
theorem dsectors_any {C:Nat→Prop} {db nb ncap mb mcap:Nat} {d:Dk} {calls wo:Int} {vs:List Value} (w:World) (h:DkIn C db d nb ncap mb mcap calls wo vs w) :
   Calls Tryz.prog 337 #[.pointer (some ⟨db,0,none⟩)] w fun e w'=>e = .returned (.int .i64 d.now.length)∧w'=w:=by
 obtain ⟨c0, -⟩:=h.cells
 clear h
 go_enter Tryz.func337,Tryz.ntmps337
 go_wp2
 go_ret
 exact ⟨rfl,rfl⟩
theorem dread_any {C:Nat→Prop} {db nb ncap mb mcap:Nat} {d:Dk} {calls wo:Int} {vs:List Value} (n:Nat) (x:S) (hx:d.now[n]? = some x) (w:World) (h:DkIn C db d nb ncap mb mcap calls wo vs w) :
   Calls Tryz.prog 336 #[.pointer (some ⟨db,0,none⟩), .int .i64 n] w fun e w'=>∃ c,e = .returned (.tuple #[.string ⟨x.toArray⟩, .int .i64 0])∧DkIn C db d nb ncap mb mcap c wo vs w'∧Far w.heap.size C w w':=by
 have HD:=hide h
 have hml:d.now.length≤maxLen:=by obtain ⟨h1,h2⟩:=own_lim h.now;omega
 clear h
 unfold maxLen at hml
 have hn:n<d.now.length:=(List.getElem?_eq_some_iff.1 hx).1
 have b1:(n:Int)<(d.now.length:Int):=by omega
 go_enter Tryz.func336,Tryz.ntmps336
 go_wp2_with (go_at_call 339;refine (dcall_any _ _ _ HD.out).mono ?_;rintro e w1 ⟨c,rfl,hd1,hf1⟩;obtain ⟨c0, -⟩:=hd1.cells;have n0:w1.cell? ⟨nb,n,none⟩=some (.string ⟨x.toArray⟩):=(hd1.now.cellAt n (by omega)).trans (by rw[strs,List.getElem?_map,hx];rfl);have HD1:=hide hd1;have HF1:=hide hf1;clear hd1 hf1)
 go_ret2
 exact ⟨_,rfl,HD1.out,HF1.out⟩
theorem DkIn.clean {C:Nat→Prop} {db nb ncap mb mcap:Nat} {d:Dk} {calls wo:Int} {vs:List Value} {w:World} (h:DkIn C db d nb ncap mb mcap calls wo vs w) (may':List (List S)) (hl:may'.length=d.now.length) (k:Nat) (hk:k<d.now.length) (he:∀ i,may'.getD i []=if i=k then [] else d.may.getD i []) :
   DkIn C db ⟨d.now,may',d.wr⟩ nb ncap mb mcap calls wo (vs.set k (.slice none 0 0)) (w.setCell ⟨mb,k,none⟩ (.slice none 0 0)):=by
 obtain ⟨o1,o2,o3,o4⟩:=h.off
 have hv:∀ i v,(vs.set k (.slice none 0 0))[i]? = some v→(i=k∧v = .slice none 0 0)∨(i≠k∧vs[i]? = some v):=fun i v hv=>by
   rw[List.getElem?_set] at hv
   split at hv
   · split at hv
     · cases hv;exact .inl ⟨by omega,rfl⟩
     · cases hv
   · exact .inr ⟨by omega,hv⟩
 refine ⟨(Below.heap_setCell _ _ _ _ (by show db≠mb;exact o2)).trans h.blk,own_away h.now (fun e=>by cases e;exact o3 rfl),own_put h.may k _,hl,fun i v q => ?_,fun i j v u g hij q r e => ?_,⟨h.inC.1,h.inC.2.1,h.inC.2.2.1,fun i v g q e => ?_⟩,⟨o1,o2,o3,fun i v g q e => ?_⟩,fun i q=>by simpa using h.lt i q,h.few⟩
 · show Strs _ v (may'.getD i [])
   rw[he]
   rcases hv i v q with ⟨rfl,rfl⟩ | ⟨hi,q⟩
   · rw[if_pos rfl];exact .inl ⟨rfl,rfl⟩
   · rw[if_neg hi]
     rcases h.each i v q with q | ⟨q1,q2⟩
     · exact .inl q
     · exact .inr ⟨q1,own_away q2 (fun e=>(o4 i v _ q e).2.2 rfl)⟩
 · rcases hv i v q with ⟨rfl,rfl⟩ | ⟨hi,q⟩
   · cases e
   · rcases hv j u r with ⟨rfl,rfl⟩ | ⟨hj,r⟩
     · simp[Value.ownBlock]
     · exact h.apart i j v u g hij q r e
 · rcases hv i v q with ⟨rfl,rfl⟩ | ⟨hi,q⟩
   · cases e
   · exact h.inC.2.2.2 i v g q e
 · rcases hv i v q with ⟨rfl,rfl⟩ | ⟨hi,q⟩
   · cases e
   · exact o4 i v g q e
theorem dflush_any {C:Nat→Prop} {db nb ncap mb mcap:Nat} {d:Dk} {calls wo:Int} {vs:List Value} (w:World) (h:DkIn C db d nb ncap mb mcap calls wo vs w) :
   Calls Tryz.prog 335 #[.pointer (some ⟨db,0,none⟩)] w fun e w'=>∃ c vs',e = .returned (.int .i64 0)∧DkIn C db d.flush nb ncap mb mcap c wo vs' w'∧Far w.heap.size C w w':=by
 have HD:=hide h
 have hml:d.now.length≤maxLen:=by obtain ⟨h1,h2⟩:=own_lim h.now;omega
 clear h
 unfold maxLen at hml
 go_enter Tryz.func335,Tryz.ntmps335
 go_wp2_with (go_at_call 339;refine (dcall_any _ _ _ HD.out).mono ?_;rintro e w1 ⟨c,rfl,hd1,hf1⟩;have HD1:=hide hd1;have HF1:=hide hf1;clear hd1 hf1)
 go_loopw [4] (fun i wr=>∃ (k:Nat) (may':List (List S)) (vs':List Value),k≤d.now.length∧i = .int .i64 (k:Int)∧(∀ i,may'.getD i []=if i<k then [] else d.may.getD i [])∧Hid (DkIn C db ⟨d.now,may',d.wr⟩ nb ncap mb mcap c wo vs' wr)∧Hid (Far w.heap.size C w wr)) (fun i _=>d.now.length-(intOf i).toNat)
 case atStart=>exact ⟨0,d.may,vs,by omega,rfl,fun i=>by simp,HD1,HF1⟩
 case round =>
   obtain ⟨k,may',vs',hk,rfl,hm,HD2,HF2⟩:=hrel
   obtain ⟨-,c1, -⟩:=HD2.out.cells
   simp only at c1
   have HM:=hide hm
   clear hm
   by_cases hlt:k<d.now.length
   · have b1:(k:Int)<(d.now.length:Int):=by omega
     have f1:wr.frozen? ⟨mb,k,none⟩=false:=HD2.out.may.frozenAt k
     have hkv:k<vs'.length:=by have:=HD2.out.may.1;simp at this;omega
     have d1:wr.cell? ⟨mb,k,none⟩=some (vs'[k]'hkv):=(HD2.out.may.cellAt k (by simp;omega)).trans (List.getElem?_eq_getElem hkv)
     go_wp2_with fail
     exact ⟨⟨k+1,may'.set k [],_,by omega,by go_num,fun i=>by
       have:=HM.out i
       rw[List.getD_eq_getElem?_getD,List.getElem?_set]
       rw[List.getD_eq_getElem?_getD] at this
       split
       · split
         · rw[if_pos (by omega)];rfl
         · rw[if_pos (by omega)];rfl
       · rw[this]
         by_cases hi:i<k
         · rw[if_pos hi,if_pos (by omega)]
         · rw[if_neg hi,if_neg (by omega)],hide (HD2.out.clean _ (by simpa using HD2.out.len) k hlt (fun i=>by
             rw[List.getD_eq_getElem?_getD,List.getElem?_set]
             by_cases e:k=i
             · rw[if_pos e,if_pos e.symm];split<;>rfl
             · rw[if_neg e,if_neg (fun q=>e q.symm)];rfl)),hide (HF2.out.setCell (.inr HD2.out.inC.2.2.1) _)⟩,by simp[intOf];omega⟩
   · obtain rfl:k=d.now.length:=by omega
     have b1 : ¬ (d.now.length:Int)<(d.now.length:Int):=by omega
     go_wp2_with fail
     go_ret
     refine ⟨rfl,?_,HF2.out⟩
     have e:(⟨d.now,may',d.wr⟩:Dk)=d.flush:=by
       unfold Dk.flush
       congr 1
       apply List.ext_getElem?
       intro i
       have hl:=HD2.out.len
       simp only at hl
       have:=HM.out i
       rw[List.getD_eq_getElem?_getD] at this
       by_cases hi:i<d.now.length
       · rw[if_pos hi,List.getElem?_eq_getElem (by omega)] at this
         rw[List.getElem?_eq_getElem (by omega),List.getElem?_map,List.getElem?_eq_getElem hi]
         simpa using this
       · rw[List.getElem?_eq_none (by omega),List.getElem?_eq_none (by simpa using hi)]
     rw[← e]
     exact ⟨_,_,HD2.out⟩
theorem DkIn.put {C:Nat→Prop} {db nb ncap mb mcap:Nat} {d:Dk} {calls wo:Int} {vs:List Value} {w w1:World} (h:DkIn C db d nb ncap mb mcap calls wo vs w) (n:Nat) (hn:n<d.now.length) (v v':Value) (hv:vs[n]? = some v) (xs':List S)
   (hg:w.grownBy w1 v.ownBlock) (hs:Strs w1 v' xs') (hb:v'.ownBlock=v.ownBlock ∨ ∀ g,v'.ownBlock=some g→w.heap.size≤g) (hl:∀ g,v'.ownBlock=some g→g<w1.heap.size) :
   DkIn (fun k=>C k∨v'.ownBlock=some k) db ⟨d.now,d.may.set n xs',d.wr⟩ nb ncap mb mcap calls wo (vs.set n v') (w1.setCell ⟨mb,n,none⟩ v'):=by
 obtain ⟨o1,o2,o3,o4⟩:=h.off
 obtain ⟨i1,i2,i3,i4⟩:=h.inC
 have hsz:=hg.size
 have hq:∀ i u,(vs.set n v')[i]? = some u→(i=n∧u=v')∨(i≠n∧vs[i]? = some u):=fun i u q=>by
   rw[List.getElem?_set] at q
   split at q
   · split at q
     · cases q;exact .inl ⟨by omega,rfl⟩
     · cases q
   · exact .inr ⟨by omega,q⟩
 have hnew:∀ g,v'.ownBlock=some g→g≠db∧g≠nb∧g≠mb:=fun g e=>by
   rcases hb with hb | hb
   · exact o4 n v g hv (hb▸e)
   · have:=hb g e;have:=h.lt db i1;have:=h.lt nb i2;have:=h.lt mb i3
     refine ⟨?_,?_,?_⟩<;>omega
 have hkeep:∀ k,C k→v.ownBlock≠some k→w1.heap[k]? = w.heap[k]? := fun k hk hne=>hg.block k (h.lt k hk) (fun e=>hne e.symm)
 refine ⟨?_,own_away (ownsRow_kept' h.now (fun k e=>by cases e;exact hkeep _ i2 (fun e=>(o4 n v _ hv e).2.1 rfl))) (fun e=>by cases e;exact o3 rfl),own_put (ownsRow_kept' h.may (fun k e=>by cases e;exact hkeep _ i3 (fun e=>(o4 n v _ hv e).2.2 rfl))) n _,by simpa using h.len,fun i u q => ?_,fun i j u u2 g hij q r e => ?_,⟨.inl i1, .inl i2, .inl i3,fun i u g q e => ?_⟩,⟨o1,o2,o3,fun i u g q e => ?_⟩,fun k hk => ?_,h.few⟩
 · rw[Below.heap_setCell _ _ _ _ (by show db≠mb;exact o2),hkeep db i1 (fun e=>(o4 n v _ hv e).1 rfl)];exact h.blk
 · show Strs _ u ((d.may.set n xs').getD i [])
   rcases hq i u q with ⟨rfl,rfl⟩ | ⟨hi,q⟩
   · rw[List.getD_eq_getElem?_getD,List.getElem?_set,if_pos rfl,if_pos (by have:=h.len;omega)]
     rcases hs with hs | ⟨s1,s2⟩
     · exact .inl hs
     · exact .inr ⟨s1,own_away s2 (fun e=>(hnew _ e).2.2 rfl)⟩
   · rw[List.getD_eq_getElem?_getD,List.getElem?_set,if_neg (fun e=>hi e.symm),← List.getD_eq_getElem?_getD]
     rcases h.each i u q with q1 | ⟨q1,q2⟩
     · exact .inl q1
     · refine .inr ⟨q1,own_away (ownsRow_kept' q2 (fun k e=>hkeep k (i4 i u k q e) (h.apart i n u v k hi q hv e))) (fun e=>(o4 i u _ q e).2.2 rfl)⟩
 · have key:∀ i u g,i≠n→vs[i]? = some u→u.ownBlock=some g→v'.ownBlock≠some g:=fun i u g hi q e e'=>by
     rcases hb with hb | hb
     · exact h.apart i n u v g hi q hv e (hb▸e')
     · have:=hb g e';have:=h.lt g (i4 i u g q e);omega
   rcases hq i u q with ⟨ei,eu⟩ | ⟨hi,q'⟩
   · rcases hq j u2 r with ⟨ej,eu2⟩ | ⟨hj,r'⟩
     · exact absurd (ei.trans ej.symm) hij
     · rw[eu] at e
       exact fun e'=>key j u2 g hj r' e' e
   · rcases hq j u2 r with ⟨ej,eu2⟩ | ⟨hj,r'⟩
     · rw[eu2];exact key i u g hi q' e
     · exact h.apart i j u u2 g hij q' r' e
 · rcases hq i u q with ⟨rfl,rfl⟩ | ⟨hi,q⟩
   · exact .inr e
   · exact .inl (i4 i u g q e)
 · rcases hq i u q with ⟨rfl,rfl⟩ | ⟨hi,q⟩
   · exact hnew g e
   · exact o4 i u g q e
 · rw[show (w1.setCell ⟨mb,n,none⟩ v').heap.size=w1.heap.size by simp]
   rcases hk with hk | hk
   · exact Nat.lt_of_lt_of_le (h.lt k hk) hsz
   · exact hl k hk
theorem DkIn.wrote {C:Nat→Prop} {db nb ncap mb mcap:Nat} {d:Dk} {calls wo:Int} {vs:List Value} {w:World} (h:DkIn C db d nb ncap mb mcap calls wo vs w) (n:Nat) (x:S) (hfew:d.wr+1<4611686018427387904) :
   DkIn C db ⟨d.now.set n x,d.may,d.wr+1⟩ nb ncap mb mcap calls wo vs ((w.setCell ⟨nb,n,none⟩ (.string ⟨x.toArray⟩)).setCell ⟨db,6,none⟩ (.int .i64 ((d.wr:Int)+1))):=by
 rw[show (d.wr:Int)+1=((d.wr+1:Nat):Int) from rfl]
 obtain ⟨o1,o2,o3,o4⟩:=h.off
 have e1:(w.setCell ⟨nb,n,none⟩ (.string ⟨x.toArray⟩)).heap[db]? = w.heap[db]? := Below.heap_setCell _ _ _ _ (by show db≠nb;exact o1)
 have hb:=heap_setCell_same (w.setCell ⟨nb,n,none⟩ (.string ⟨x.toArray⟩)) db 6 _ _ (.int .i64 ((d.wr+1:Nat):Int)) (e1.trans h.blk)
 have hnow:=own_away (own_put h.now n (.string ⟨x.toArray⟩)) (u := .int .i64 ((d.wr+1:Nat):Int)) (g:=db) (i:=6) (fun e=>by cases e;exact o1 rfl)
 have hs:(strs d.now).set n (.string ⟨x.toArray⟩)=strs (d.now.set n x):=by simp[strs,List.map_set]
 refine ⟨by simpa [dkCells] using hb,?_,?_,by simpa using h.len,fun i v q => ?_,h.apart,h.inC,h.off,fun k q=>by simpa using h.lt k q,hfew⟩
 · rw[hs] at hnow;simpa using hnow
 · simpa using own_away (own_away h.may (g:=nb) (i:=n) (u := .string ⟨x.toArray⟩) (fun e=>by cases e;exact o3 rfl)) (g:=db) (i:=6) (u := .int .i64 ((d.wr+1:Nat):Int)) (fun e=>by cases e;exact o2 rfl)
 · rcases h.each i v q with q1 | ⟨q1,q2⟩
   · exact .inl q1
   · exact .inr ⟨q1,own_away (own_away q2 (fun e=>(o4 i v _ q e).2.1 rfl)) (fun e=>(o4 i v _ q e).1 rfl)⟩
theorem grown_drew {w w':World} {row:Option Nat} (h:w.drew.grownBy w' row):w.grownBy w' row:=⟨h.os,h.tape,h.output,h.size,h.block⟩
theorem made_one (w:World) (x:Value):(w.alloc (.cells #[x] 9)).ownsRow 0 9 1 (.slice (some ⟨w.heap.size,0,none⟩) 1 1) 1 [x] :=
 ⟨rfl, .inr ⟨w.heap.size,1, #[x],rfl,Nat.zero_le _,heap_alloc_new w _,Nat.le_refl _,by decide,rfl,rfl⟩⟩
theorem one_cell {x:S}:∀ u∈([.string ⟨x.toArray⟩]:List Value),u.oneCell'=true:=fun u hu=>by simp at hu;subst hu;rfl
theorem dwrite_more {C:Nat→Prop} {db nb ncap mb mcap:Nat} {d:Dk} {calls wo:Int} {vs:List Value} (n:Nat) (hn:n<d.now.length) (x:S) (hm:d.may.getD n []≠[]) (hmb:(d.may.getD n []).length≤1000000) (hfew:d.wr+1<4611686018427387904) (w:World) (h:DkIn C db d nb ncap mb mcap calls wo vs w) :
   Calls Tryz.prog 338 #[.pointer (some ⟨db,0,none⟩), .int .i64 n, .string ⟨x.toArray⟩] w fun e w'=>∃ C',e = .returned (.int .i64 0)∧DkAt C' db (d.write n x) w'∧Far w.heap.size C w w'∧∀ k,C' k→C k∨w.heap.size≤k:=by
 obtain ⟨i0,hi,hz0,hz1,hz2⟩:=info_three info_str
 have HD:=hide h
 have hmx:d.now.length≤maxLen:=by obtain ⟨h1,h2⟩:=own_lim h.now;omega
 obtain ⟨v,hv⟩:∃ v,vs[n]? = some v:=⟨_,List.getElem?_eq_getElem (by have:=h.may.1;simp at this;omega)⟩
 obtain ⟨xs,hxs⟩:∃ xs,d.may.getD n []=xs:=⟨_,rfl⟩
 have hst:Strs w v xs:=hxs▸h.each n v hv
 have HW:Hid (d.write n x=⟨d.now.set n x,d.may.set n (xs++[x]),d.wr+1⟩):=by rw[Dk.write,if_neg hm,hxs];exact rfl
 rw[hxs] at hm hmb
 obtain ⟨g,cm,rfl⟩:∃ g cm,v = .slice (some ⟨g,0,none⟩) xs.length cm:=by
   rcases hst with ⟨e,_⟩ | ⟨_,e⟩
   · exact absurd e hm
   · exact own_form e (List.length_pos_iff.2 hm)
 have hgC:=h.inC.2.2.2 n _ g hv rfl
 have HV:=hide hv
 have HX:=hide hxs
 clear h hst hv hxs
 unfold maxLen at hmx
 have b1:(n:Int)<(d.now.length:Int):=by omega
 have hq:∀ (u:World) (a:Option Addr) (i j:Nat),(binOp BinOp.eql 28 (.slice a i j) (.slice none 0 0)).run Tryz.prog u = .ok (.bool a.isNone) u:=fun u a i j=>Lib.run_eql_slice_nil u _ _ a i j 0 0 Tryz.underlying28
 go_enter Tryz.func338,Tryz.ntmps338
 go_wp2_with (go_at_call 339;refine (dcall_any _ _ _ HD.out).mono ?_;rintro e w1 ⟨c,rfl,hd1,hf1⟩;obtain ⟨c0,c1, -, -, -, -,c6, -,hfr⟩:=hd1.cells;have f6:=hfr 6;have HD1:=hide hd1;have HF1:=hide hf1;have n0:w1.cell? ⟨mb,n,none⟩=some (.slice (some ⟨g,0,none⟩) xs.length cm):=(hd1.may.cellAt n (by omega)).trans HV.out;have n1:w1.frozen? ⟨mb,n,none⟩=false:=hd1.may.frozenAt n;have w0:w1.cell? ⟨nb,n,none⟩=some (.string ⟨(d.now[n]'hn).toArray⟩):=(hd1.now.cellAt n (by omega)).trans (by rw[strs,List.getElem?_map,List.getElem?_eq_getElem hn];rfl);have w0f:w1.frozen? ⟨nb,n,none⟩=false:=hd1.now.frozenAt n;clear hd1 hf1 hfr)
 have hst:=HD1.out.each n _ HV.out
 rw[HX.out] at hst
 have HO:Hid (w1.ownsRow 0 9 1 (.slice (some ⟨g,0,none⟩) xs.length cm) xs.length (strs xs)):=hide (by
   rcases hst with ⟨e,_⟩ | ⟨_,e⟩
   · exact absurd e hm
   · exact e)
 have l1:=HD1.out.lt db HD1.out.inC.1
 have l2:=HD1.out.lt mb HD1.out.inC.2.2.1
 have l3:=HD1.out.lt nb HD1.out.inC.2.1
 have e1 : ¬ db=w1.heap.size:=by omega
 have e2 : ¬ mb=w1.heap.size:=by omega
 obtain ⟨o1,o2,o3,o4⟩:=HD1.out.off
 clear hst
 go_region_law (refine step_append_own rfl _ _ 28 rfl 0 9 i0 _ 1 16 Tryz.underlying28 hi hz0 hz1 hz2 rfl (by decide) (.slice (some ⟨g,0,none⟩) xs.length cm) xs.length (strs xs) (by simp[Act.eval]) (HO.out.alloc _) ⟨w1.heap.size,0,none⟩ 1 1 [.string ⟨x.toArray⟩] (by simp[Act.eval]) rfl (cell_one_new _ _ _) one_cell (by unfold maxLen;omega) (by omega) (by simp) ?_;intro v' w4 hown' hgrow4 hnil4 hblk4;obtain ⟨gv,cv,rfl⟩:=own_form hown' (by omega);have hG:w1.grownBy w4 (Value.slice (some ⟨g,0,none⟩) xs.length cm).ownBlock:=(World.grownBy_alloc w1 _ _).trans (grown_drew hgrow4);have hbm:=hG.block mb l2 (by simp[Value.ownBlock];exact fun e=>(o4 n _ g HV.out rfl).2.2 e.symm);have hbd:=hG.block db l1 (by simp[Value.ownBlock];exact fun e=>(o4 n _ g HV.out rfl).1 e.symm);have m0:=(blk_cell hbd 0).trans c0;have m6:=(blk_cell hbd 6).trans c6;have m7:=(blk_free hbd 6).trans f6;have hbn:=hG.block nb l3 (by simp[Value.ownBlock];exact fun e=>(o4 n _ g HV.out rfl).2.1 e.symm);have p0:=(blk_cell hbn n).trans w0;have p1:=(blk_free hbn n).trans w0f;have m1:=(blk_cell hbd 1).trans c1;have m4:=(blk_cell hbm n).trans n0;have m5:=(blk_free hbm n).trans n1;have HG:=hide hG;have HO4:=hide hown';have HB4:=hide hblk4;clear hG hbm hbd hbn hgrow4 hown' hblk4 hnil4)
 go_wp2_with fail
 all_goals
   have D1:=HD1.out.put n hn _ (.slice (some ⟨gv,0,none⟩) (xs.length+1) cv) HV.out (xs++[x]) HG.out (.inr ⟨by simp,by simpa [strs] using HO4.out⟩) (HB4.out.imp id (fun e k q=>by rw[e] at q;cases q;simp)) (fun k q=>(HO4.out.lt k q).2)
   have D2:=D1.wrote n x hfew
   have hs1:=HF1.out.size
   have hs4:=HG.out.size
   go_ret
   refine ⟨_,rfl,⟨_,_,_,_,_,_,_,by rw[HW.out];exact D2⟩,(((HF1.out.grown HG.out hs1 (fun k q => .inr (by cases q;exact hgC))).setCell (p:=⟨mb,n,none⟩) (.inr HD1.out.inC.2.2.1) _).setCell (p:=⟨nb,n,none⟩) (.inr HD1.out.inC.2.1) _).setCell (p:=⟨db,6,none⟩) (.inr HD1.out.inC.1) _,fun k q => ?_⟩
   rcases q with q | q
   · exact .inl q
   · rcases HB4.out with e | e
     · rw[e] at q;cases q;exact .inl hgC
     · rw[e] at q;cases q;right;simp;omega
theorem dwrite_new {C:Nat→Prop} {db nb ncap mb mcap:Nat} {d:Dk} {calls wo:Int} {vs:List Value} (n:Nat) (hn:n<d.now.length) (x:S) (hm:d.may.getD n []=[]) (hfew:d.wr+1<4611686018427387904) (w:World) (h:DkIn C db d nb ncap mb mcap calls wo vs w) :
   Calls Tryz.prog 338 #[.pointer (some ⟨db,0,none⟩), .int .i64 n, .string ⟨x.toArray⟩] w fun e w'=>∃ C',e = .returned (.int .i64 0)∧DkAt C' db (d.write n x) w'∧Far w.heap.size C w w'∧∀ k,C' k→C k∨w.heap.size≤k:=by
 obtain ⟨i0,hi,hz0,hz1,hz2⟩:=info_three info_str
 have HD:=hide h
 have hmx:d.now.length≤maxLen:=by obtain ⟨h1,h2⟩:=own_lim h.now;omega
 obtain ⟨v,hv⟩:∃ v,vs[n]? = some v:=⟨_,List.getElem?_eq_getElem (by have:=h.may.1;simp at this;omega)⟩
 have hst:=h.each n v hv
 obtain ⟨y,hy⟩:∃ y,d.now[n]? = some y:=⟨_,List.getElem?_eq_getElem hn⟩
 have HW:Hid (d.write n x=⟨d.now.set n x,(d.may.set n [y]).set n ([y]++[x]),d.wr+1⟩):=by rw[Dk.write,if_pos hm,List.getD_eq_getElem?_getD,hy,List.set_set];exact rfl
 obtain rfl:v = .slice none 0 0:=by
   rcases hst with ⟨_,e⟩ | ⟨e,_⟩
   · exact e
   · exact absurd hm e
 have hmn:n<d.may.length:=by rw[h.len];exact hn
 have HV:=hide hv
 have HY:=hide hy
 have HM:=hide hm
 clear h hst hv hm hy
 unfold maxLen at hmx
 have b1:(n:Int)<(d.now.length:Int):=by omega
 have hq:∀ (u:World) (a:Option Addr) (i j:Nat),(binOp BinOp.eql 28 (.slice a i j) (.slice none 0 0)).run Tryz.prog u = .ok (.bool a.isNone) u:=fun u a i j=>Lib.run_eql_slice_nil u _ _ a i j 0 0 Tryz.underlying28
 go_enter Tryz.func338,Tryz.ntmps338
 go_wp2_with (go_at_call 339;refine (dcall_any _ _ _ HD.out).mono ?_;rintro e w0 ⟨c,rfl,hd1,hf1⟩;obtain ⟨c0,c1, -, -, -, -,c6, -,hfr⟩:=hd1.cells;have HD0:=hide hd1;have HF0:=hide hf1;have n0:w0.cell? ⟨mb,n,none⟩=some (.slice none 0 0):=(hd1.may.cellAt n (by omega)).trans HV.out;have n1:w0.frozen? ⟨mb,n,none⟩=false:=hd1.may.frozenAt n;have m0:w0.cell? ⟨nb,n,none⟩=some (.string ⟨y.toArray⟩):=(hd1.now.cellAt n (by omega)).trans (by rw[strs,List.getElem?_map,HY.out];rfl);have l1:=hd1.lt db hd1.inC.1;have l2:=hd1.lt mb hd1.inC.2.2.1;have l3:=hd1.lt nb hd1.inC.2.1;have e1 : ¬ db=w0.heap.size:=(by omega);have e2 : ¬ mb=w0.heap.size:=(by omega);have e3 : ¬ nb=w0.heap.size:=(by omega);obtain ⟨o1,o2,o3, -⟩:=hd1.off;clear hd1 hf1 hfr)
 go_region
 show _
 have hG0:w0.grownBy (w0.alloc (.cells #[.string ⟨y.toArray⟩] 9)) (Value.slice none 0 0).ownBlock:=World.grownBy_alloc _ _ _
 have D0:=HD0.out.put n hn _ (.slice (some ⟨w0.heap.size,0,none⟩) 1 1) HV.out [y] hG0 (.inr ⟨by simp,by simpa [strs] using made_one w0 (.string ⟨y.toArray⟩)⟩) (.inr fun k q=>by cases q;exact Nat.le_refl _) (fun k q=>by cases q;simp)
 rw[World.setCell_alloc_past _ mb n _ l2] at D0
 have D1:=D0.drew
 have F1:=(((HF0.out.setCell (p:=⟨mb,n,none⟩) (.inr HD.out.inC.2.2.1) (.slice (some ⟨w0.heap.size,0,none⟩) 1 1))).alloc (by simpa using HF0.out.size) (.cells #[.string ⟨y.toArray⟩] 9)).drew
 have hgC:w.heap.size≤w0.heap.size:=HF0.out.size
 obtain ⟨g,hgx⟩:∃ g,w0.heap.size=g:=⟨_,rfl⟩
 rw[hgx] at D1 F1 hgC ⊢
 obtain ⟨w1,hw1⟩:∃ w1,((w0.setCell ⟨mb,n,none⟩ (.slice (some ⟨g,0,none⟩) 1 1)).alloc (.cells #[.string ⟨y.toArray⟩] 9)).drew=w1:=⟨_,rfl⟩
 rw[hw1] at D1 F1 ⊢
 have hC1:∀ k,(C k∨(Value.slice (some ⟨g,0,none⟩) 1 1).ownBlock=some k)→C k∨w.heap.size≤k:=fun k q=>by
   rcases q with q | q
   · exact .inl q
   · cases q;exact .inr hgC
 generalize hCe:(fun k=>C k∨(Value.slice (some ⟨g,0,none⟩) 1 1).ownBlock=some k)=C1 at D1
 have hC1:∀ k,C1 k→C k∨w.heap.size≤k:=fun k q=>hC1 k (by rw[← hCe] at q;exact q)
 have HV1:Hid ((vs.set n (.slice (some ⟨g,0,none⟩) 1 1))[n]? = some (.slice (some ⟨g,0,none⟩) 1 1)):=hide (by
   have hq:=D1.may.1
   simp only[List.length_set] at hq
   rw[List.getElem?_set,if_pos rfl,if_pos (by omega)])
 generalize vs.set n (.slice (some ⟨g,0,none⟩) 1 1)=vs1 at D1 HV1
 have HD1:=hide D1
 have HF1:=hide F1
 clear hw1 hgx hCe hG0 D0 HD0 HF0 HM HV c0 c1 c6 n0 n1 m0 l1 l2 l3 e1 e2 e3 o1 o2 o3 D1 F1
 obtain ⟨c0,c1, -, -, -, -,c6, -,hfr⟩:=HD1.out.cells
 have f6:=hfr 6
 have n0:w1.cell? ⟨mb,n,none⟩=some (.slice (some ⟨g,0,none⟩) 1 1):=(HD1.out.may.cellAt n (by simp;omega)).trans HV1.out
 have n1:w1.frozen? ⟨mb,n,none⟩=false:=HD1.out.may.frozenAt n
 have w0:w1.cell? ⟨nb,n,none⟩=some (.string ⟨y.toArray⟩):=(HD1.out.now.cellAt n (by simp;omega)).trans (by rw[strs,List.getElem?_map,HY.out];rfl)
 have w0f:w1.frozen? ⟨nb,n,none⟩=false:=HD1.out.now.frozenAt n
 have hst:=HD1.out.each n _ HV1.out
 have HO:Hid (w1.ownsRow 0 9 1 (.slice (some ⟨g,0,none⟩) 1 1) 1 (strs [y])):=hide (by
   simp only[List.getD_eq_getElem?_getD,List.getElem?_set,if_pos,hmn] at hst
   rcases hst with ⟨e,_⟩ | ⟨_,e⟩
   · simp at e
   · simpa using e)
 clear hfr hst
 simp only at c0 c1 c6
 go_wp2_with fail
 have l1:=HD1.out.lt db HD1.out.inC.1
 have l2:=HD1.out.lt mb HD1.out.inC.2.2.1
 have l3:=HD1.out.lt nb HD1.out.inC.2.1
 have e1 : ¬ db=w1.heap.size:=by omega
 have e2 : ¬ mb=w1.heap.size:=by omega
 obtain ⟨o1,o2,o3,o4⟩:=HD1.out.off
 go_region_law (refine step_append_own rfl _ _ 28 rfl 0 9 i0 _ 1 16 Tryz.underlying28 hi hz0 hz1 hz2 rfl (by decide) (.slice (some ⟨g,0,none⟩) 1 1) 1 (strs [y]) (by simp[Act.eval]) (HO.out.alloc _) ⟨w1.heap.size,0,none⟩ 1 1 [.string ⟨x.toArray⟩] (by simp[Act.eval]) rfl (cell_one_new _ _ _) one_cell (by decide) (by omega) (by simp) ?_;intro v' w4 hown' hgrow4 hnil4 hblk4;obtain ⟨gv,cv,rfl⟩:=own_form hown' (by omega);have hG:w1.grownBy w4 (Value.slice (some ⟨g,0,none⟩) 1 1).ownBlock:=(World.grownBy_alloc w1 _ _).trans (grown_drew hgrow4);have hbm:=hG.block mb l2 (by simp[Value.ownBlock];exact fun e=>(o4 n _ g HV1.out rfl).2.2 e.symm);have hbd:=hG.block db l1 (by simp[Value.ownBlock];exact fun e=>(o4 n _ g HV1.out rfl).1 e.symm);have m0:=(blk_cell hbd 0).trans c0;have m6:=(blk_cell hbd 6).trans c6;have m7:=(blk_free hbd 6).trans f6;have hbn:=hG.block nb l3 (by simp[Value.ownBlock];exact fun e=>(o4 n _ g HV1.out rfl).2.1 e.symm);have p0:=(blk_cell hbn n).trans w0;have p1:=(blk_free hbn n).trans w0f;have m1:=(blk_cell hbd 1).trans c1;have m4:=(blk_cell hbm n).trans n0;have m5:=(blk_free hbm n).trans n1;have HG:=hide hG;have HO4:=hide hown';have HB4:=hide hblk4;clear hG hbm hbd hbn hgrow4 hown' hblk4 hnil4)
 go_wp2_with fail
 all_goals
   have D1:=HD1.out.put n hn _ (.slice (some ⟨gv,0,none⟩) (1+1) cv) HV1.out ([y]++[x]) HG.out (.inr ⟨by simp,by simpa [strs] using HO4.out⟩) (HB4.out.imp id (fun e k q=>by rw[e] at q;cases q;simp)) (fun k q=>(HO4.out.lt k q).2)
   have D2:=D1.wrote n x hfew
   have hs1:=HF1.out.size
   have hs4:=HG.out.size
   go_ret
   refine ⟨_,rfl,⟨_,_,_,_,_,_,_,by rw[HW.out];exact D2⟩,(((HF1.out.grown HG.out hs1 (fun k q => .inl (by cases q;exact hgC))).setCell (p:=⟨mb,n,none⟩) (.inr HD.out.inC.2.2.1) _).setCell (p:=⟨nb,n,none⟩) (.inr HD.out.inC.2.1) _).setCell (p:=⟨db,6,none⟩) (.inr HD.out.inC.1) _,fun k q => ?_⟩
   rcases q with q | q
   · exact hC1 k q
   · rcases HB4.out with e | e
     · rw[e] at q;cases q;exact .inr hgC
     · rw[e] at q;cases q;right;simp;omega
theorem DkAt.alloc {C:Nat→Prop} {db:Nat} {d:Dk} {w:World} (h:DkAt C db d w) (o:Obj):DkAt C db d (w.alloc o):=h.below ((Below.refl _ w).alloc (Nat.le_refl _) o)
theorem DkAt.drew {C:Nat→Prop} {db:Nat} {d:Dk} {w:World} (h:DkAt C db d w):DkAt C db d w.drew:=h.below ((Below.refl _ w).drew)
theorem DkAt.set {C:Nat→Prop} {db:Nat} {d:Dk} {w:World} (h:DkAt C db d w) (b i:Nat) (hb : ¬ C b) (v:Value):DkAt C db d (w.setCell ⟨b,i,none⟩ v):=h.far ((Far.refl w.heap.size (fun k=>k=b) w).setCell (p:=⟨b,i,none⟩) (.inr rfl) v) (Nat.le_refl _) (fun k hk e=>by subst e;exact hb hk)
theorem disk_sectors {C:Nat→Prop} {db:Nat} {d:Dk} (w:World) (h:DkAt C db d w) :
   Calls Tryz.prog 337 #[.pointer (some ⟨db,0,none⟩)] w fun e w'=>e = .returned (.int .i64 d.now.length)∧w'=w:=by
 obtain ⟨nb,ncap,mb,mcap,calls,wo,vs,h⟩:=h
 exact dsectors_any w h
theorem disk_read {C:Nat→Prop} {db:Nat} {d:Dk} (n:Nat) (x:S) (hx:d.now[n]? = some x) (w:World) (h:DkAt C db d w) :
   Calls Tryz.prog 336 #[.pointer (some ⟨db,0,none⟩), .int .i64 n] w fun e w'=>e = .returned (.tuple #[.string ⟨x.toArray⟩, .int .i64 0])∧DkAt C db d w'∧Far w.heap.size C w w':=by
 obtain ⟨nb,ncap,mb,mcap,calls,wo,vs,h⟩:=h
 refine (dread_any n x hx w h).mono ?_
 rintro e w' ⟨c,h1,h2,h3⟩
 exact ⟨h1,⟨_,_,_,_,_,_,_,h2⟩,h3⟩
theorem disk_flush {C:Nat→Prop} {db:Nat} {d:Dk} (w:World) (h:DkAt C db d w) :
   Calls Tryz.prog 335 #[.pointer (some ⟨db,0,none⟩)] w fun e w'=>e = .returned (.int .i64 0)∧DkAt C db d.flush w'∧Far w.heap.size C w w':=by
 obtain ⟨nb,ncap,mb,mcap,calls,wo,vs,h⟩:=h
 refine (dflush_any w h).mono ?_
 rintro e w' ⟨c,vs',h1,h2,h3⟩
 exact ⟨h1,⟨_,_,_,_,_,_,_,h2⟩,h3⟩
theorem disk_write {C:Nat→Prop} {db:Nat} {d:Dk} (n:Nat) (hn:n<d.now.length) (x:S) (hmb:(d.may.getD n []).length≤1000000) (hfew:d.wr+1<4611686018427387904) (w:World) (h:DkAt C db d w) :
   Calls Tryz.prog 338 #[.pointer (some ⟨db,0,none⟩), .int .i64 n, .string ⟨x.toArray⟩] w fun e w'=>∃ C',e = .returned (.int .i64 0)∧DkAt C' db (d.write n x) w'∧Far w.heap.size C w w'∧∀ k,C' k→C k∨w.heap.size≤k:=by
 obtain ⟨nb,ncap,mb,mcap,calls,wo,vs,h⟩:=h
 by_cases hm:d.may.getD n []=[]
 · exact dwrite_new n hn x hm hfew w h
 · exact dwrite_more n hn x hm hmb hfew w h
def dskV (db:Nat):Value := .iface 23 (.pointer (some ⟨db,0,none⟩))
def devV (db n:Nat):Array Value := #[.iface 23 (.pointer (some ⟨db,0,none⟩)), .int .i64 n]
theorem meth_sectors (db:Nat) (w:World):(method 527 23 (.pointer (some ⟨db,0,none⟩)) "Sectors").run Tryz.prog w = .ok (337, .pointer (some ⟨db,0,none⟩)) w:=by kernel_rfl
theorem meth_read (db:Nat) (w:World):(method 527 23 (.pointer (some ⟨db,0,none⟩)) "Read").run Tryz.prog w = .ok (336, .pointer (some ⟨db,0,none⟩)) w:=by kernel_rfl
theorem meth_write (db:Nat) (w:World):(method 527 23 (.pointer (some ⟨db,0,none⟩)) "Write").run Tryz.prog w = .ok (338, .pointer (some ⟨db,0,none⟩)) w:=by kernel_rfl
theorem meth_flush (db:Nat) (w:World):(method 527 23 (.pointer (some ⟨db,0,none⟩)) "Flush").run Tryz.prog w = .ok (335, .pointer (some ⟨db,0,none⟩)) w:=by kernel_rfl
theorem dev_new {C:Nat→Prop} {db:Nat} {d:Dk} (w:World) (h:DkAt C db d w) :
   Calls Tryz.prog 43 #[dskV db] w fun e w'=>e = .returned (.agg (devV db d.now.length))∧Below w.heap.size w w':=by
 have HD:=hide h
 clear h
 unfold dskV
 have hm:=meth_sectors db
 go_enter Tryz.func43,Tryz.ntmps43
 go_wp2_with (go_at_call 337;refine (disk_sectors _ (HD.out.alloc _)).mono ?_;rintro e w1 ⟨rfl,rfl⟩)
 refine bodyPost_ret (v := .agg (devV db d.now.length)) (by simp[results,Tryz.results43,go_sem,devV]) rfl ⟨rfl,?_⟩
 exact (Below.refl _ _).alloc (Nat.le_refl _) _
theorem dev_sectors (db n:Nat) (w:World) :
   Calls Tryz.prog 70 #[.agg (devV db n)] w fun e w'=>e = .returned (.int .i64 n)∧Below w.heap.size w w':=by
 unfold devV
 go_enter Tryz.func70,Tryz.ntmps70
 go_wp2
 go_ret
 exact ⟨rfl,(Below.refl _ _).alloc (Nat.le_refl _) _⟩
theorem dev_read1 {C:Nat→Prop} {db m a b r n:Nat} {d:Dk} (x:S) (hx:d.now[n]? = some x) (w:World) (h:DkAt C db d w) (y:Value) (hrC : ¬ C r)
   (ha:w.heap[a]? = some (.cells (devV db m) 110 (0,0))) (hb:w.heap[b]? = some (.cells #[.int .i64 n] 3 (0,0))) (hr:w.heap[r]? = some (.cells #[y] 9 (0,0))) :
   Calls Tryz.prog 148 #[.pointer (some ⟨a,0,none⟩), .pointer (some ⟨b,0,none⟩), .pointer (some ⟨r,0,none⟩)] w fun e w'=>e = .returned (.int .i64 0)∧DkAt C db d w'∧w'.heap[r]? = some (.cells #[.string ⟨x.toArray⟩] 9 (0,0))∧Far w.heap.size (fun k=>C k∨k=r) w w':=by
 have HD:=hide h
 have a0:=(row_cell ha 0).trans (show _=some (.iface 23 (.pointer (some ⟨db,0,none⟩))) from rfl)
 have b0:=(row_cell hb 0).trans (show _=some (.int .i64 n) from rfl)
 have hm:=meth_read db
 have hrl:=blt hr
 have HR:=hide hr
 clear h ha hb hr
 go_enter Tryz.func148,Tryz.ntmps148
 go_wp2_with (go_at_call 336;refine (disk_read _ x hx _ HD.out).mono ?_;rintro e w1 ⟨rfl,hd1,hf1⟩;have hr1:=(hf1.block r hrl hrC).trans HR.out;have r0:=(row_cell hr1 0).trans (show _=some y from rfl);have r1:=row_free hr1 0;have HR1:=hide hr1;have HD1:=hide hd1;have HF1:=hide hf1;clear hr1 hd1 hf1)
 go_ret
 exact ⟨rfl,HD1.out.set r 0 hrC _,heap_setCell_same _ r 0 _ _ _ HR1.out,(HF1.out.mono (Nat.le_refl _) (fun _ _ => .inl)).setCell (p:=⟨r,0,none⟩) (.inr (.inr rfl)) _⟩
theorem enters_read1 (args:Array Value) (w:World):(callFunc 148 args).run Tryz.prog w = .ok (.enter 148 args) w :=
 enters Tryz.func148 (by kernel_rfl) rfl args w
theorem enters_write1 (args:Array Value) (w:World):(callFunc 194 args).run Tryz.prog w = .ok (.enter 194 args) w :=
 enters Tryz.func194 (by kernel_rfl) rfl args w
theorem try_ok (g:Nat) (a b c:Value) (he:∀ args w,(callFunc g args).run Tryz.prog w = .ok (.enter g args) w) (nm:S) (w:World) (Q:World→Prop)
   (h:Calls Tryz.prog g #[a,b,c] w fun e w'=>e = .returned (.int .i64 0)∧Q w') :
   Calls Tryz.prog 147 #[.string ⟨nm.toArray⟩, .func (.func g) #[] #[a,b,c]] w fun e w'=>e = .returned .nilIface∧Q w':=by
 go_enter Tryz.func147,Tryz.ntmps147
 go_wp2_with (refine h.mono ?_;rintro e w' ⟨rfl,hq⟩;have HQ:=hide hq;clear hq)
 go_loop [5,6] (fun y i=>y = .int .i64 0∧i = .int .i64 0) (fun _ _=>0)
 case atStart=>exact ⟨rfl,rfl⟩
 case round =>
   obtain ⟨rfl,rfl⟩:=hrel
   go_wp2_with fail
   go_ret
   exact ⟨rfl,HQ.out⟩
theorem wrap_nil (x:S) (w:World):Calls Tryz.prog 37 #[.string ⟨x.toArray⟩, .nilIface] w fun e w'=>e = .returned .nilIface∧w'=w:=by
 go_enter Tryz.func37,Tryz.ntmps37
 go_wp2
 go_ret
 exact ⟨rfl,rfl⟩
theorem dev_read {C:Nat→Prop} {db m n:Nat} {d:Dk} (x:S) (hx:d.now[n]? = some x) (w:World) (h:DkAt C db d w) :
   Calls Tryz.prog 84 #[.agg (devV db m), .int .i64 n] w fun e w'=>e = .returned (.tuple #[.string ⟨x.toArray⟩, .nilIface])∧DkAt C db d w'∧Far w.heap.size C w w':=by
 have HD:=hide h
 have hlt:=hide h.lt
 clear h
 go_enter Tryz.func84,Tryz.ntmps84
 go_wp2_with fail
 have ha:(((w.alloc (.cells (devV db m) 110)).alloc (.cells #[.int .i64 n] 3)).alloc (.cells #[.string ⟨#[]⟩] 9)).heap[w.heap.size]? = some (.cells (devV db m) 110 (0,0)) :=
   (Below.heap_alloc _ _ _ (by simp;omega)).trans ((Below.heap_alloc _ _ _ (by simp)).trans (heap_alloc_new w _))
 have hb:(((w.alloc (.cells (devV db m) 110)).alloc (.cells #[.int .i64 n] 3)).alloc (.cells #[.string ⟨#[]⟩] 9)).heap[w.heap.size+1]? = some (.cells #[.int .i64 n] 3 (0,0)) :=
   (Below.heap_alloc _ _ _ (by simp)).trans (by have:=heap_alloc_new (w.alloc (.cells (devV db m) 110)) (.cells #[.int .i64 n] 3);simpa using this)
 have hr:(((w.alloc (.cells (devV db m) 110)).alloc (.cells #[.int .i64 n] 3)).alloc (.cells #[.string ⟨#[]⟩] 9)).heap[w.heap.size+1+1]? = some (.cells #[.string ⟨#[]⟩] 9 (0,0)):=by
   have:=heap_alloc_new ((w.alloc (.cells (devV db m) 110)).alloc (.cells #[.int .i64 n] 3)) (.cells #[.string ⟨#[]⟩] 9)
   simpa using this
 have hC : ¬ C (w.heap.size+1+1):=fun q=>by have:=hlt.out _ q;omega
 have HF0:=hide ((((Far.refl w.heap.size C w).alloc (Nat.le_refl _) (.cells (devV db m) 110)).alloc (by simp) (.cells #[.int .i64 n] 3)).alloc (by simp;omega) (.cells #[.string ⟨#[]⟩] 9))
 have HD0:=hide (((HD.out.alloc (.cells (devV db m) 110)).alloc (.cells #[.int .i64 n] 3)).alloc (.cells #[.string ⟨#[]⟩] 9))
 obtain ⟨w3,hw3⟩:∃ w3,(((w.alloc (.cells (devV db m) 110)).alloc (.cells #[.int .i64 n] 3)).alloc (.cells #[.string ⟨#[]⟩] 9))=w3:=⟨_,rfl⟩
 have hs3:w3.heap.size=w.heap.size+3:=by rw[← hw3];simp
 rw[hw3] at ha hb hr HF0 HD0 ⊢
 refine (try_ok 148 _ _ _ enters_read1 [82,101,97,100] w3 _ (dev_read1 x hx w3 HD0.out _ hC ha hb hr)).mono ?_
 rintro e w4 ⟨rfl,hd4,hr4,hf4⟩
 have r0:=(row_cell hr4 0).trans (show _=some (.string ⟨x.toArray⟩) from rfl)
 have HD4:=hide hd4
 have HF4:=hide (HF0.out.next hf4 (by omega) (fun k hk hc=>by
   rcases hc with hc | rfl
   · exact hc
   · omega))
 clear ha hb hr hd4 hr4 hf4 hw3
 go_wp2_with fail
 go_ret2
 exact ⟨rfl,HD4.out,HF4.out⟩
end
end Go.Proofs.YtialenebfcnkkaaGreatDoor
