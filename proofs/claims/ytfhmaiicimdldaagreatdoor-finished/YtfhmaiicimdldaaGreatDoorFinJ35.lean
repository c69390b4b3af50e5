import Derived.Test.YtfhmaiicimdldaaGreatDoorFinJ34
namespace Go.Proofs.YtfhmaiicimdldaaGreatDoor
variable {B CB L TB db hb i k vc:Nat}{V':Nat->Nat}{w w' w0 wr:World}{lv v:Value}{x y:Addr}{cs:Array Value}{F:Nat->Prop}
section
open Go.RowKit
open Kw (St ME)
open Hv (S VM)
variable {xs:List S}
def Oz (V:Nat->Nat) (L:S):Array Value := #[.int .i64 (V 0), .int .i64 (V 1), .int .i64 (V 2), .int .i64 (V 3), .int .i64 (V 4), .int .i64 (V 5), .string ⟨L.toArray⟩]
theorem VH(V:Nat->Nat) (L:S)  (hk:k<6):(Oz V L)[k]? = some (.int .i64 (V k)):=by
 have:k=0\/k=1\/k=2\/k=3\/k=4\/k=5:=by omega
 rcases this with rfl | rfl | rfl | rfl | rfl | rfl<;>rfl
theorem afI(V:Nat->Nat) (L:S)  (hk:k<6) (r:Nat):(Oz V L).setIfInBounds k (.int .i64 r)=Oz (fun j=>if j=k then r else V j) L:=by
 have:k=0\/k=1\/k=2\/k=3\/k=4\/k=5:=by omega
 rcases this with rfl | rfl | rfl | rfl | rfl | rfl<;>rfl
theorem akQ(V:Nat->Nat) (L L':S):(Oz V L).setIfInBounds 6 (.string ⟨L'.toArray⟩)=Oz V L':=rfl
theorem afH{V:Nat->Nat} {L:S} (h:∀ j,j<6->V j=V' j):Oz V L=Oz V' L:=by
 unfold Oz;rw[h 0 (by omega),h 1 (by omega),h 2 (by omega),h 3 (by omega),h 4 (by omega),h 5 (by omega)]
theorem ajg(V:Nat->Nat) (L:S):(Oz V L).size=7:=rfl
theorem RZ(V:Nat->Nat) (L:S):(Tryz.prog.info? 30).map (·.size)=some (Oz V L).size:=by rw[ajg];kernel_rfl
theorem akR(V:Nat->Nat) (L:S):(Oz V L).all (·.oneCell')=true:=by simp[Oz,Value.oneCell']
def abj (w:World) (N:Nat) (V':Nat->Nat) (M4:S):World:=((((((w.setCell ⟨N,0,none⟩ (.int .i64 (V' 0))).setCell ⟨N,1,none⟩ (.int .i64 (V' 1))).setCell ⟨N,2,none⟩ (.int .i64 (V' 2))).setCell ⟨N,3,none⟩ (.int .i64 (V' 3))).setCell ⟨N,4,none⟩ (.int .i64 (V' 4))).setCell ⟨N,5,none⟩ (.int .i64 (V' 5))).setCell ⟨N,6,none⟩ (.string ⟨M4.toArray⟩)
theorem Yx(w:World) (N:Nat) (V':Nat->Nat) (M4:S) (k:Nat) (h:k≠N):(abj w N V' M4).heap[k]? = w.heap[k]? := by
 unfold abj;rw[BY _ _ _ _ h,BY _ _ _ _ h,BY _ _ _ _ h,BY _ _ _ _ h,BY _ _ _ _ h,BY _ _ _ _ h,BY _ _ _ _ h]
theorem aac(w:World) (N:Nat) (V':Nat->Nat) (M4:S) (h:w.heap[N]? = some (.cells (Oz (fun _=>0) []) 30 (0,0))):(abj w N V' M4).heap[N]? = some (.cells (Oz V' M4) 30 (0,0)):=by
 unfold abj;exact AI _ N 6 _ _ _ (AI _ N 5 _ _ _ (AI _ N 4 _ _ _ (AI _ N 3 _ _ _ (AI _ N 2 _ _ _ (AI _ N 1 _ _ _ (AI _ N 0 _ _ _ h))))))
theorem TY{N:Nat}  (h:Below B w0 w) (hN:B<=N) (V':Nat->Nat) (M4:S):Below B w0 (abj w N V' M4):=by
 unfold abj;exact (((((((h.setCell (p:=⟨N,0,none⟩) hN _).setCell (p:=⟨N,1,none⟩) hN _).setCell (p:=⟨N,2,none⟩) hN _).setCell (p:=⟨N,3,none⟩) hN _).setCell (p:=⟨N,4,none⟩) hN _).setCell (p:=⟨N,5,none⟩) hN _).setCell (p:=⟨N,6,none⟩) hN _)
structure SG (B:Nat) (act:Array Value) (V:Nat->Nat) (L:S) (xs:List S) (v:Value) (w wr:World):Prop where
 af3:wr.heap[B]? = some (.cells act 35 (0,0))
 sh:wr.heap[B+1]? = some (.cells (Oz V L) 30 (0,0))
 out:wr.heap[B+2]? = some (.cells (Oz (fun _=>0) []) 30 (0,0))
 row:wr.ownsRow (B+3) 9 1 v xs.length (xs.map Kl)
 K7:Below B w wr
theorem SG.below{act:Array Value} {V:Nat->Nat} {L:S}    (h:SG B act V L xs v w wr) (hb:Below wr.heap.size wr w'):SG B act V L xs v w w':=by
 have l:=blt h.af3;exact ⟨(hb.block _ l).trans h.af3,(hb.block _ (blt h.sh)).trans h.sh,(hb.block _ (blt h.out)).trans h.out,Ky h.row hb,h.K7.trans (hb.mono (by omega))⟩
theorem SG.add{act:Array Value} {V:Nat->Nat} {L:S}  {v':Value} {w4:World} {o:Obj} (x:S) (h:SG B act V L xs v w wr) (hg:(wr.alloc o).grownBy w4 v.ownBlock) (hown:w4.ownsRow (B+3) 9 1 v' (xs.length+1) (xs.map Kl++[Kl x])):SG B act V L (xs++[x]) v' w w4:=by
 have l0:=blt h.af3;have l1:=blt h.sh;have l2:=blt h.out;have hk:∀ q,q<B+3->q<wr.heap.size->w4.heap[q]? = wr.heap[q]? := fun q hq hl=>(hg.block q (by simp;omega) (fun e=>by have:=(h.row.lt q e.symm).1;omega)).trans (AM _ _ _ hl)
 refine ⟨(hk B (by omega) l0).trans h.af3,(hk (B+1) (by omega) l1).trans h.sh,(hk (B+2) (by omega) l2).trans h.out,?_,(h.K7.alloc (by omega) o).grown hg (by simp;omega) (fun q hq=>by have:=(h.row.lt q hq).1;omega)⟩;rw[GB,AS];exact hown
theorem SG.set{act:Array Value} {V:Nat->Nat} {L L':S}  {u:Value}  (h:SG B act V L xs v w wr) (hc:(Oz V L).setIfInBounds i u=Oz V' L'):SG B act V' L' xs v w (wr.setCell ⟨B+1,i,none⟩ u):=by
 have hk:∀ q,q≠B+1->(wr.setCell ⟨B+1,i,none⟩ u).heap[q]? = wr.heap[q]? := fun q hq=>BY _ _ _ _ hq
 exact ⟨(hk B (by omega)).trans h.af3,hc▸AI _ (B+1) i _ _ _ h.sh,(hk (B+2) (by omega)).trans h.out,KT h.row (fun e=>by have:=(h.row.lt _ e).1;omega),h.K7.setCell (p:=⟨B+1,i,none⟩) (by show B<=B+1;omega) _⟩
end
section
open Go.RowKit
open Kw (St ME)
open Hv (S Dx VM Ns All Has Pj)
variable {Lg M4:S}{xs:List S}
structure FiR (L:Nat) (x y:Addr) (w0:World) (B TB CB:Nat) (V:Nat->Nat) (Lg:S) (V':Nat->Nat) (M4:S) (cs:Array Value) (lv:Value) (xs:List S) (wr:World):Prop where
 sh:wr.heap[B]? = some (.cells (Oz V Lg) 30 (0,0))
 tos:wr.heap[TB]? = some (.cells (Oz V' M4) 30 (0,0))
 cut:wr.heap[CB]? = some (.cells cs 37 (0,0))
 lst:Reads wr lv xs
 own:∀ g,lv.ownBlock=some g->g<wr.heap.size
 env:Ph L x y wr
 K7:Below L w0 wr
 at_:L<=B/\L<=TB/\L<=CB/\∀ g,lv.ownBlock=some g->L<=g
 ne:B≠CB/\TB≠CB/\∀ g,lv.ownBlock=some g->g≠CB
structure WM (B TB CB:Nat) (lv:Value) (F:Nat->Prop):Prop where
 b : ¬ F B
 t : ¬ F TB
 c : ¬ F CB
 l:∀ g,lv.ownBlock=some g -> ¬ F g
theorem FiR.far{V:Nat->Nat}       (h:FiR L x y w0 B TB CB V Lg V' M4 cs lv xs wr) (hf:Kj wr.heap.size F wr w') (hF:WM B TB CB lv F) (hL:∀ k,F k->L<=k):FiR L x y w0 B TB CB V Lg V' M4 cs lv xs w' :=
 ⟨(hf.block B (blt h.sh) hF.b).trans h.sh,(hf.block TB (blt h.tos) hF.t).trans h.tos,(hf.block CB (blt h.cut) hF.c).trans h.cut,h.lst.kept hf.size (fun g hg=>hf.block g (h.own g hg) (hF.l g hg)),fun g hg=>B3 (h.own g hg) hf.size,h.env.far hf hL,h.K7.trans (hf.toBelow h.env.low.2.2.2 (fun k hk q=>by have:=hL k q;omega)),h.at_,h.ne⟩
theorem FiR.below{V:Nat->Nat}      (h:FiR L x y w0 B TB CB V Lg V' M4 cs lv xs wr) (hb:Below wr.heap.size wr w'):FiR L x y w0 B TB CB V Lg V' M4 cs lv xs w' :=
 h.far (Kj.of (C:=fun _=>False) hb (AC _)) ⟨id,id,id,fun _ _ q=>q⟩ (fun _ q=>q.elim)
theorem WM.next{V:Nat->Nat}      {F':Nat->Prop} {n:Nat} (h:WM B TB CB lv F) (hr:FiR L x y w0 B TB CB V Lg V' M4 cs lv xs wr) (hn:wr.heap.size<=n) (hF:∀ k,F' k->F k\/n<=k):WM B TB CB lv F' :=
 ⟨fun q=>(hF _ q).elim h.b (fun q=>by have:=blt hr.sh;omega),fun q=>(hF _ q).elim h.t (fun q=>by have:=blt hr.tos;omega),fun q=>(hF _ q).elim h.c (fun q=>by have:=blt hr.cut;omega),fun g hg q=>(hF _ q).elim (h.l g hg) (fun q=>by have:=hr.own g hg;omega)⟩
theorem WM.one(h:WM B TB CB lv F) (hdb:F db):WM B TB CB lv (fun k=>k=db) :=
 ⟨fun (q:B=db)=>h.b (q▸hdb),fun (q:TB=db)=>h.t (q▸hdb),fun (q:CB=db)=>h.c (q▸hdb),fun g hg (q:g=db)=>h.l g hg (q▸hdb)⟩
theorem FiR.field{V:Nat->Nat}        (h:FiR L x y w0 B TB CB V Lg V' M4 cs lv xs wr) (hF:WM B TB CB lv F) (hdb:F db) (hL:∀ k,F k->L<=k) (i:Nat) (u:Value):FiR L x y w0 B TB CB V Lg V' M4 cs lv xs (wr.setCell ⟨db,i,none⟩ u) :=
 h.far ((Kj.refl wr.heap.size (fun k=>k=db) wr).setCell (p:=⟨db,i,none⟩) (.inr rfl) _) (hF.one hdb) (fun k (q:k=db)=>q▸hL db hdb)
structure Rm (L:Nat) (x y:Addr) (w0:World) (B i hb db:Nat) (F:Nat->Prop) (d:Dx) (V:Nat->Nat) (Lg:S) (wr:World):Prop where
 run:Lh L F hb db d (Hv.Mf V) (Hv.Lp Lg) wr
 sh:wr.heap[B]? = some (.cells (Oz V Lg) 30 (0,0))
 noB : ¬ F B
 atB:L<=B
 env:Ph L x y wr
 K7:Below L w0 wr
 calm:d.calm
 rb:d.rb=0
 calls:d.calls<=6000000+20000000*i
 vs:∀ j,j<6->V j<=i
 lg:Lg.length<=200
theorem Rm.below{d:Dx} {V:Nat->Nat}   (h:Rm L x y w0 B i hb db F d V Lg wr) (hb':Below wr.heap.size wr w'):Rm L x y w0 B i hb db F d V Lg w' :=
 ⟨h.run.below hb',(hb'.block _ (blt h.sh)).trans h.sh,h.noB,h.atB,h.env.below hb',h.K7.trans (hb'.mono h.env.low.2.2.2),h.calm,h.rb,h.calls,h.vs,h.lg⟩
theorem Rm.more{d:Dx} {V:Nat->Nat}   (h:Rm L x y w0 B i hb db F d V Lg wr):Rm L x y w0 B (i+1) hb db F d V Lg wr :=
 ⟨h.run,h.sh,h.noB,h.atB,h.env,h.K7,h.calm,h.rb,by have:=h.calls;omega,fun j hj=>by have:=h.vs j hj;omega,h.lg⟩
theorem Rm.base{d:Dx} {V:Nat->Nat}   (h:Rm L x y w0 B i hb db F d V Lg wr):L<=wr.heap.size:=h.env.low.2.2.2
theorem Rm.round{d:Dx} {V:Nat->Nat}   (h:Rm L x y w0 B i hb db F d V Lg wr) (hb':Below wr.heap.size wr w')       (ht:w'.heap[TB]? = some (.cells (Oz V' M4) 30 (0,0))) (hc:w'.heap[CB]? = some (.cells cs 37 (0,0))) (Jj:wr.heap.size<=TB) (lq:wr.heap.size<=CB) (hne:TB≠CB) (eP:∀ g,lv.ownBlock=some g->g≠CB) (hl:w'.ownsRow wr.heap.size 9 1 lv xs.length (xs.map Kl)):FiR L x y w0 B TB CB V Lg V' M4 cs lv xs w'/\WM B TB CB lv F/\Lh L F hb db d (Hv.Mf V) (Hv.Lp Lg) w':=by
 have h2:=h.below hb';have hB:=h.base;have hlt:∀ k,F k->k<wr.heap.size:=fun k q=>(h.run.lt k q).2
 refine ⟨⟨h2.sh,ht,hc,Yp hl,fun g hg=>(hl.lt g hg).2,h2.env,h2.K7,⟨h.atB,by omega,by omega,fun g hg=>by have:=(hl.lt g hg).1;omega⟩,⟨by have:=blt h.sh;omega,hne,eP⟩⟩,⟨h.noB,fun q=>by have:=hlt _ q;omega,fun q=>by have:=hlt _ q;omega,fun g hg q=>by have:=hlt _ q;have:=(hl.lt g hg).1;omega⟩,h2.run⟩
theorem FiR.amo{V:Nat->Nat}  {cs':Array Value}    (h:FiR L x y w0 B TB CB V Lg V' M4 cs lv xs wr):FiR L x y w0 B TB CB V Lg V' M4 cs' lv xs (wr.setRow CB cs'):=by
 have hf:Kj wr.heap.size (fun q=>q=CB) wr (wr.setRow CB cs'):=⟨rfl,rfl,rfl,by simp,fun k _ hk=>setRow_other wr CB k cs' hk⟩;obtain ⟨n1,n2,n3⟩:=h.ne;have hC:L<=CB:=h.at_.2.2.1;exact ⟨(hf.block B (blt h.sh) n1).trans h.sh,(hf.block TB (blt h.tos) n2).trans h.tos,setRow_heap _ _ _ _ _ _ h.cut,h.lst.kept hf.size (fun g hg=>hf.block g (h.own g hg) (n3 g hg)),fun g hg=>B3 (h.own g hg) hf.size,h.env.far hf (fun k (q:k=CB)=>by rw[q];exact hC),h.K7.trans (hf.toBelow h.env.low.2.2.2 (fun k hk (q:k=CB)=>by omega)),h.at_,h.ne⟩
end
section
open Go.RowKit
open Kw (St ME)
open Hv (S Dx VM Pj)
variable {D:VM Hv.PD}{G:VM S}{Lg:S}
theorem afO(h:w.ownsRow B 61 3 v D.length (D.flatMap Rf))  (hk:k<D.length):∃ g c,v = .slice (some ⟨g,0,none⟩) D.length c/\B<=g/\g<w.heap.size/\w.cell? ⟨g,k*3,none⟩=some (Kl D[k].1)/\w.cell? ⟨g,k*3+1,none⟩=some (Kl D[k].2.ve)/\w.cell? ⟨g,k*3+2,none⟩=some (.int .i64 D[k].2.status):=by
 obtain ⟨g,cap,rfl⟩:=Kt h (by omega);obtain ⟨l1,l2⟩:=h.lt g rfl;have key:∀ (l:VM Hv.PD) (k:Nat) (hk:k<l.length),(l.flatMap Rf)[k*3]? = some (Kl l[k].1)/\(l.flatMap Rf)[k*3+1]? = some (Kl l[k].2.ve)/\(l.flatMap Rf)[k*3+2]? = some (.int .i64 l[k].2.status):=by
  intro l
  induction l with
  | nil=>intro k hk;simp at hk
  | cons a l ih =>
    intro k hk;cases k with
    | zero=>exact ⟨rfl,rfl,rfl⟩
    | succ k =>
      have h1:=ih k (by simpa using hk);rw[show (k+1)*3=k*3+3 by omega];simp only[Fc,Rf,List.cons_append,List.nil_append,List.getElem_cons_succ];exact h1
 obtain ⟨q1,q2,q3⟩:=key D k hk;exact ⟨g,cap,rfl,l1,l2,by rw[h.cellAt _ (by omega)];exact q1,by rw[h.cellAt _ (by omega)];exact q2,by rw[h.cellAt _ (by omega)];exact q3⟩
structure Ro (L:Nat) (F:Nat->Prop) (hb db:Nat) (d:Dx) (D:VM Hv.PD) (G:VM S) (B:Nat) (V:Nat->Nat) (Lg:S) (va:Option Addr) (vc:Nat) (w wr:World):Prop where
 run:Lh L F hb db d D G wr
 sh:wr.heap[B]? = some (.cells (Oz V Lg) 30 (0,0))
 row:wr.ownsRow (B+1) 61 3 (.slice va D.length vc) D.length (D.flatMap Rf)
 no:∀ q,F q->q<B
 far:Kj w.heap.size F w wr
 base:w.heap.size<=B
theorem Ro.go{d:Dx}    {V:Nat->Nat}  {va:Option Addr}   (h:Ro L F hb db d D G B V Lg va vc w wr) (hr:Lh L F hb db d D G w') (hf:Kj wr.heap.size F wr w'):Ro L F hb db d D G B V Lg va vc w w':=by
 refine ⟨hr,(hf.block B (blt h.sh) (fun q=>by have:=h.no B q;omega)).trans h.sh,hf.own h.row (AC _) (fun g hg q=>by have:=h.no g q;have:=(h.row.lt g hg).1;omega),h.no,h.far.next hf ?_ (fun _ _ q=>q),h.base⟩;have:=blt h.sh;have:=h.base;omega
theorem Ro.below{d:Dx}    {V:Nat->Nat}  {va:Option Addr}   (h:Ro L F hb db d D G B V Lg va vc w wr) (hb':Below wr.heap.size wr w'):Ro L F hb db d D G B V Lg va vc w w':=h.go (h.run.below hb') (Kj.of hb' (AC _))
theorem Ro.four{d:Dx}    {V:Nat->Nat}  {g:Nat}  (h:Ro L F hb db d D G B V Lg (some ⟨g,0,none⟩) vc w wr) {a vk:Nat} {pn pv:S} {pd:Hv.PD} (hk:k<6) (hv:V k=vk) (hp:D[a]? = some (pn,pd)) (yT:pd.ve=pv) (hst:pd.status=2):wr.cell? ⟨g,a*3,none⟩=some (.string ⟨pn.toArray⟩)/\wr.cell? ⟨g,a*3+1,none⟩=some (.string ⟨pv.toArray⟩)/\wr.cell? ⟨B,k,none⟩=some (.int .i64 vk)/\wr.cell? ⟨g,a*3+2,none⟩=some (.int .i64 2):=by
 obtain ⟨ha,ni⟩:=List.getElem?_eq_some_iff.1 hp;obtain ⟨g',c,CA, -, -,q0,q1,q2⟩:=afO h.row ha;obtain rfl:g=g':=by cases CA;rfl
 rw[ni] at q0 q1 q2;have sc:=(JZ h.sh k).trans (VH _ _ hk);rw[hv] at sc;rw[<- yT];exact ⟨q0,q1,sc,by rw[q2];show some (Value.int .i64 pd.status)=_;rw[hst]⟩
end
end Go.Proofs.YtfhmaiicimdldaaGreatDoor
