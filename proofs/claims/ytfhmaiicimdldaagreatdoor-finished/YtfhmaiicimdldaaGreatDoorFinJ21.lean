import Derived.Test.YtfhmaiicimdldaaGreatDoorFinJ20
set_option maxHeartbeats 2000000
set_option maxRecDepth 100000
namespace Go.Proofs.YtfhmaiicimdldaaGreatDoor
variable {c:UInt8}{b n:Nat}{q:Int}{l:List UInt8}
section
open Kw (St ME)
open Hv (S VM)
namespace Hv
variable {m:Mac}{D I:VM PD}{R:VM Value}{G:VM S}
theorem Y2(pl:Plan)  (h1:Ki m.1) (x k:S):get (Ke pl m (3,x)).1 k=if k=x then (get m.1 k).map (fun d=>d.to (if has pl.Le k=true then 3 else 2)) else get m.1 k:=by
 simp only[Ke];rw[Bm (by decide),Bm (by decide)];by_cases e:k=x
 · subst e;rw[By rfl];cases q:get m.1 k with
   | none=>simp[q]
   | some d=>simp[Ka h1]
 · rw[Bm e];cases q:get m.1 x with
   | none=>rfl
   | some d=>simp[J7 h1 _ e]
theorem Zf(pl:Plan)  (h1:Ki m.1) (x k:S):get (Ke pl m (4,x)).1 k=if k=x then (get m.1 k).map (fun d=>d.to 2) else get m.1 k:=by
 simp only[Ke];rw[Bm (by decide),Bm (by decide)];by_cases e:k=x
 · subst e;rw[By rfl];cases q:get m.1 k with
   | none=>simp[q]
   | some d=>simp[Ka h1]
 · rw[Bm e];cases q:get m.1 x with
   | none=>rfl
   | some d=>simp[J7 h1 _ e]
theorem abX(pl:Plan):∀ (l:List S) {m:Mac},Ki m.1->Ki m.2->∀ k,get (Kc pl m (l.map fun x=>(3,x))).1 k=if k∈l then (get m.1 k).map (fun d=>d.to (if has pl.Le k=true then 3 else 2)) else get m.1 k
 | [],m,_,_,k=>by simp[Kc]
 | x::l,m,h1,h2,k=>by
   obtain ⟨a,b⟩:=LA pl h1 h2 (3,x);have e:Kc pl m ((x::l).map fun x=>(3,x))=Kc pl (Ke pl m (3,x)) (l.map fun x=>(3,x)):=rfl;rw[e,abX pl l a b k,Y2 pl h1];by_cases q:k=x
   · subst q;rw[By rfl,By (show k∈k::l by simp)];split
     · cases get m.1 k<;>rfl
     · rfl
   · rw[Bm q];by_cases r:k∈l
     · rw[By r,By (List.mem_cons_of_mem _ r)]
     · rw[Bm r,Bm (fun h=>(List.mem_cons.1 h).elim q r)]
theorem adr(pl:Plan):∀ (l:List S) {m:Mac},Ki m.1->Ki m.2->∀ k,get (Kc pl m (l.map fun x=>(4,x))).1 k=if k∈l then (get m.1 k).map (fun d=>d.to 2) else get m.1 k
 | [],m,_,_,k=>by simp[Kc]
 | x::l,m,h1,h2,k=>by
   obtain ⟨a,b⟩:=LA pl h1 h2 (4,x);have e:Kc pl m ((x::l).map fun x=>(4,x))=Kc pl (Ke pl m (4,x)) (l.map fun x=>(4,x)):=rfl;rw[e,adr pl l a b k,Zf pl h1];by_cases q:k=x
   · subst q;rw[By rfl,By (show k∈k::l by simp)];split
     · cases get m.1 k<;>rfl
     · rfl
   · rw[Bm q];by_cases r:k∈l
     · rw[By r,By (List.mem_cons_of_mem _ r)]
     · rw[Bm r,Bm (fun h=>(List.mem_cons.1 h).elim q r)]
def PN (T:VM PD) (l:List S) (G:VM S):VM S:=l.foldl (fun G x=>match get T x with | none=>G | some d=>MG T [] G d.st.runs) G
def aan (T:VM PD) (W:VM (List S)) (l:List S) (G:VM S):VM S:=l.foldl (fun G x=>match get T x with | none=>G | some d=>MG T ((get W x).getD []) G d.st.Kn) G
theorem adU(pl:Plan) (c:Int) (hc:c=1\/c=2) (x:S) (m:Mac):(Ke pl m (c,x)).2=m.2:=by
 rcases hc with rfl | rfl
 · rfl
 · simp only[Ke];rw[Bm (by decide)];cases get pl.ins x<;>rfl
theorem Nh(pl:Plan) (c:Int) (hc:c=1\/c=2):∀ (l:List S) (m:Mac),(Kc pl m (l.map fun x=>(c,x))).2=m.2
 | [],_=>rfl
 | x::l,m=>by
   have e:Kc pl m ((x::l).map fun x=>(c,x))=Kc pl (Ke pl m (c,x)) (l.map fun x=>(c,x)):=rfl;rw[e,Nh pl c hc l,adU pl c hc]
theorem QG(pl:Plan) (T:VM PD):∀ (l:List S) {m:Mac},Ki m.1->Ki m.2->OX m.1=OX T->(Kc pl m (l.map fun x=>(3,x))).2=PN T l m.2
 | [],_,_,_,_=>rfl
 | x::l,m,h1,h2,ht=>by
   obtain ⟨a,b⟩:=LA pl h1 h2 (3,x);have e:Kc pl m ((x::l).map fun x=>(3,x))=Kc pl (Ke pl m (3,x)) (l.map fun x=>(3,x)):=rfl;rw[e,QG pl T l a b ((X6 pl h1 (.inl rfl)).trans ht)];have es:(Ke pl m (3,x)).2=(match get T x with | none=>m.2 | some d=>MG T [] m.2 d.st.runs):=by
    rcases Sw ht x with ⟨q1,q2⟩ | ⟨d,d',q1,q2,q3⟩
    · simp[Ke,q1,q2]
    · have:d.st=d'.st:=by have h:=IN PD.st q3;exact h
      simp[Ke,q1,q2,this,QX ht]
   rw[es];rfl
theorem Uf(pl:Plan) (T:VM PD):∀ (l:List S) {m:Mac},Ki m.1->Ki m.2->OX m.1=OX T->(Kc pl m (l.map fun x=>(4,x))).2=aan T pl.Le l m.2
 | [],_,_,_,_=>rfl
 | x::l,m,h1,h2,ht=>by
   obtain ⟨a,b⟩:=LA pl h1 h2 (4,x);have e:Kc pl m ((x::l).map fun x=>(4,x))=Kc pl (Ke pl m (4,x)) (l.map fun x=>(4,x)):=rfl;rw[e,Uf pl T l a b ((X6 pl h1 (.inr rfl)).trans ht)];have es:(Ke pl m (4,x)).2=(match get T x with | none=>m.2 | some d=>MG T ((get pl.Le x).getD []) m.2 d.st.Kn):=by
    rcases Sw ht x with ⟨q1,q2⟩ | ⟨d,d',q1,q2,q3⟩
    · simp[Ke,q1,q2]
    · have:d.st=d'.st:=by have h:=IN PD.st q3;exact h
      simp[Ke,q1,q2,this,QX ht]
   rw[es];rfl
theorem R7(D:VM PD) (R:VM Value) (I:VM PD):(KC D R I).steps=((order KS (leaveD D R)).map (fun x=>(1,x))++(order Km I).map (fun x=>(2,x)))++((order Km I).map (fun x=>(3,x))++(J3 (LQ (Ko D R I) (J3 (Kr D R I)))).map (fun x=>(4,x))):=by
 rw[<- FF];rfl
theorem aal(sD:Ki D) (sI:Ki I) (k:S):get (Ko D R I) k=(get I k).orElse (fun _=>if has R k=true then none else get D k) :=
 (Nv I (cut D R) (Nu R D sD) sI k).trans (by rw[Pn R D sD])
theorem Py(sD:Ki D) (R:VM Value) (I:VM PD):Ki (Ko D R I):=Nw I (cut D R) (Nu R D sD)
theorem PD.akZ{d:PD} {s:Int} (h:d.status=s):d.to s=d:=by cases d;simp only[PD.to] at h |-;rw[h]
theorem VG(sD:Ki D) (sG:Ki G) (sI:Ki I) (hst:∀ k d,get D k=some d->d.status=2) :
 Kc (KC D R I) (KG D (KC D R I).Le,G) (KC D R I).steps=((Ko D R I).map (fun p=>(p.1,p.2.to 2)),aan (Ko D R I) (KC D R I).Le (J3 (KC D R I).Le) (PN (Ko D R I) (order Km I) G)):=by
 have hend:=run_end (R:=R) (G:=G) (I:=I) (D':=KG D (KC D R I).Le) sD (VU sD _) sG sI (ado D _);have e:=R7 D R I;have ew:(KC D R I).Le=LQ (Ko D R I) (J3 (Kr D R I)):=rfl;have ei:(KC D R I).ins=I:=rfl;rw[<- ew] at e;obtain ⟨pl,hpl⟩:∃ pl,KC D R I=pl:=⟨_,rfl⟩
 rw[hpl] at hend e ei |-;clear hpl ew;have e3:∀ A B C E:List Step,∀ m,Kc pl m ((A++B)++(C++E))=Kc pl (Kc pl (Kc pl (Kc pl m A) B) C) E:=fun A B C E m=>by simp only[Kc,List.foldl_append]
 rw[e,e3] at hend |-;have sW:=VU sD pl.Le;obtain ⟨a1,a2⟩:=L9 pl ((order KS (leaveD D R)).map (fun x=>(1,x))) (m:=(KG D pl.Le,G)) sW sG;obtain ⟨b1,b2⟩:=L9 pl ((order Km I).map (fun x=>(2,x))) a1 a2;obtain ⟨c1,c2⟩:=L9 pl ((order Km I).map (fun x=>(3,x))) b1 b2;obtain ⟨d1,d2⟩:=L9 pl ((J3 pl.Le).map (fun x=>(4,x))) c1 c2;have tC:=Pv pl ((order Km I).map (fun x=>(3,x))) b1 b2 (fun s hs=>by obtain ⟨x,_,rfl⟩:=List.mem_map.1 hs;exact .inl rfl);have tE:=Pv pl ((J3 pl.Le).map (fun x=>(4,x))) c1 c2 (fun s hs=>by obtain ⟨x,_,rfl⟩:=List.mem_map.1 hs;exact .inr rfl);have tc:=tE.symm.trans hend;have tb:=tC.symm.trans tc;refine Prod.ext ?_ ?_
 · refine d1.Lr ((Py sD R I).map fun d:PD=>d.to 2) fun k => ?_
   rw[adr pl _ c1 c2,abX pl _ b1 b2,Ug pl _ a1 a2 (fun x hx=>by rw[ei];exact (LH Km sI x).1 hx),XR pl _ (m:=(KG D pl.Le,G)) sW sG,ei,get_map (Ko D R I) (fun d:PD=>d.to 2),aal sD sI];have m1:=LH Km sI k;have m2:=LH KS (Nn sD R) k;have m3:=aeo (E:=pl.Le) (k:=k);rw[J9,Nl sD] at m2;rw[J9] at m1;show (if k∈J3 pl.Le then Option.map (fun d=>d.to 2) (if k∈order Km I then Option.map _ (if k∈order Km I then get I k else if k∈order KS (leaveD D R) then none else get (KG D pl.Le) k) else (if k∈order Km I then get I k else if k∈order KS (leaveD D R) then none else get (KG D pl.Le) k)) else (if k∈order Km I then Option.map _ (if k∈order Km I then get I k else if k∈order KS (leaveD D R) then none else get (KG D pl.Le) k) else (if k∈order Km I then get I k else if k∈order KS (leaveD D R) then none else get (KG D pl.Le) k)))=_;cases q:get I k with
   | some d =>
     rw[q] at m1;rw[By (m1.2 rfl),By (m1.2 rfl)];by_cases r:k∈J3 pl.Le
     · rw[By r];rfl
     · rw[Bm r];have : ¬ has pl.Le k=true:=fun x=>r (m3.2 x)
       simp[this]
   | none =>
     rw[q] at m1;have hn : ¬ k∈order Km I:=fun x=>by have:=m1.1 x;cases this
     rw[Bm hn,Bm hn,aax];simp only[Option.orElse_none];by_cases r:has R k=true
     · rw[By r] at m2 |-;cases q2:get D k with
       | none=>simp
       | some d=>rw[q2] at m2;rw[By (m2.2 rfl)];simp
     · rw[Bm r] at m2 |-;have hb : ¬ k∈order KS (leaveD D R):=fun x=>by have:=m2.1 x;cases this
       rw[Bm hb];cases q2:get D k with
       | none=>simp
       | some d =>
         have hs:=hst k d q2;by_cases w:k∈J3 pl.Le
         · rw[By w];have hw:=m3.1 w;simp[hw,hs];rfl
         · rw[Bm w];have hw : ¬ has pl.Le k=true:=fun x=>w (m3.2 x)
           simp[hw,PD.akZ hs]
 · rw[Uf pl _ _ c1 c2 tc,QG pl _ _ b1 b2 tb,Nh pl 2 (.inr rfl),Nh pl 1 (.inl rfl)]
theorem Pp(pl:Plan):∀ (A:List Step) (B:List Step) (m:Mac),LZ pl m (A++B)=(LZ pl m A||LZ pl (Kc pl m A) B)
 | [],_,_=>by simp[LZ,Kc]
 | s::A,B,m=>by
   show (!NW (Ke pl m s).2||LZ pl (Ke pl m s) (A++B))=(!NW (Ke pl m s).2||LZ pl (Ke pl m s) A||LZ pl (Kc pl (Ke pl m s) A) B);rw[Pp pl A B,Bool.or_assoc]
theorem UN(pl:Plan):∀ (A:List Step) (m:Mac),(∀ k,k<A.length->NW (Kc pl m (A.take (k+1))).2=true)->LZ pl m A=false
 | [],_,_=>rfl
 | s::A,m,h=>by
   have h0:=h 0 (by simp);have e0:Kc pl m ((s::A).take 1)=Ke pl m s:=by simp[Kc]
   rw[e0] at h0;show (!NW (Ke pl m s).2||LZ pl (Ke pl m s) A)=false;rw[h0,UN pl A (Ke pl m s) (fun k hk=>by
    have:=h (k+1) (by simp;omega);simpa [Kc] using this)]
   rfl
theorem TQ(sD:Ki D) (sG:Ki G) (sI:Ki I) (h0:NW G=true) (h1:∀ k,k<(order Km I).length->NW (PN (Ko D R I) ((order Km I).take (k+1)) G)=true) (h2:∀ k,k<(J3 (KC D R I).Le).length->NW (aan (Ko D R I) (KC D R I).Le ((J3 (KC D R I).Le).take (k+1)) (PN (Ko D R I) (order Km I) G))=true) :
 LZ (KC D R I) (D,G) (KC D R I).steps=false:=by
 have hend:=run_end (R:=R) (G:=G) (I:=I) (D':=D) sD sD sG sI rfl;have e:=R7 D R I;have ew:(KC D R I).Le=LQ (Ko D R I) (J3 (Kr D R I)):=rfl;rw[<- ew] at e;obtain ⟨pl,hpl⟩:∃ pl,KC D R I=pl:=⟨_,rfl⟩
 rw[hpl] at hend e h2 |-;clear hpl ew;have e3:∀ A B C E:List Step,∀ m,Kc pl m ((A++B)++(C++E))=Kc pl (Kc pl (Kc pl (Kc pl m A) B) C) E:=fun A B C E m=>by simp only[Kc,List.foldl_append]
 rw[e,e3] at hend;rw[e,Pp,Pp,Pp];obtain ⟨a1,a2⟩:=L9 pl ((order KS (leaveD D R)).map (fun x=>(1,x))) (m:=(D,G)) sD sG;obtain ⟨b1,b2⟩:=L9 pl ((order Km I).map (fun x=>(2,x))) a1 a2;obtain ⟨c1,c2⟩:=L9 pl ((order Km I).map (fun x=>(3,x))) b1 b2;have tC:=Pv pl ((order Km I).map (fun x=>(3,x))) b1 b2 (fun s hs=>by obtain ⟨x,_,rfl⟩:=List.mem_map.1 hs;exact .inl rfl);have tE:=Pv pl ((J3 pl.Le).map (fun x=>(4,x))) c1 c2 (fun s hs=>by obtain ⟨x,_,rfl⟩:=List.mem_map.1 hs;exact .inr rfl);have tc:=tE.symm.trans hend;have tb:=tC.symm.trans tc;have e2:Kc pl (D,G) ((order KS (leaveD D R)).map (fun x=>(1,x))++(order Km I).map (fun x=>(2,x)))=Kc pl (Kc pl (D,G) ((order KS (leaveD D R)).map (fun x=>(1,x)))) ((order Km I).map (fun x=>(2,x))):=by simp only[Kc,List.foldl_append]
 rw[e2];have fA:∀ k,(Kc pl (D,G) (((order KS (leaveD D R)).map (fun x=>((1:Int),x))).take k)).2=G:=fun k=>by
  rw[<- List.map_take];exact Nh pl 1 (.inl rfl) _ _
 have Dz:(Kc pl (D,G) ((order KS (leaveD D R)).map (fun x=>((1:Int),x)))).2=G:=Nh pl 1 (.inl rfl) _ _;rw[UN pl _ _ (fun k _=>by rw[fA];exact h0),UN pl _ _ (fun k _=>by rw[<- List.map_take,Nh pl 2 (.inr rfl),Dz];exact h0)];have DA:(Kc pl (Kc pl (D,G) ((order KS (leaveD D R)).map (fun x=>((1:Int),x)))) ((order Km I).map (fun x=>((2:Int),x)))).2=G:=(Nh pl 2 (.inr rfl) _ _).trans Dz;rw[UN pl _ _ (fun k hk=>by
  rw[<- List.map_take,QG pl _ _ b1 b2 tb,DA];exact h1 k (by simpa using hk))]
 rw[UN pl _ _ (fun k hk=>by
  rw[<- List.map_take,Uf pl _ _ c1 c2 tc,QG pl _ _ b1 b2 tb,DA];exact h2 k (by simpa using hk))]
 rfl
theorem Xv{n:Int}   {xs:List S} {s:WS} (hw:wish xs = .ok s) (hr:LY D s.R s.I=0) (ho:LZ (KC D s.R s.I) (D,G) (KC D s.R s.I).steps=false) (hb:Oj n D xs=false):check n D G xs = .ok (KC D s.R s.I):=by
 unfold check;rw[hw];simp only[hr,ho,hb];simp
end Hv
namespace Hv
variable {k:S}
def Item.name:Item->S
 | .inl nm=>nm
 | .inr (_,nm,_,_)=>nm
def J5 (is:List Item):WS:=is.foldl Pd ⟨[],[],[]⟩
theorem Wh(is:List Item) (i:Item):J5 (is++[i])=Pd (J5 is) i:=by simp[J5]
theorem WI:∀ (is:List Item) (xs:List S) (s:WS),xs.map Mg=is.map some->OT xs s=some (is.foldl Pd s)
 | [],xs,s,h=>by
   cases xs with
   | nil=>rfl
   | cons x xs=>simp at h
 | i::is,xs,s,h=>by
   cases xs with
   | nil=>simp at h
   | cons x xs =>
     simp only[Cp,List.cons.injEq] at h;rw[OT,h.1];exact WI is xs _ h.2
theorem ajj{α:Type} {P:List α->Prop} (h0:P []) (h1:∀ l a,P l->P (l++[a])):∀ l,P l:=fun l=>by
 have key:∀ r:List α,P r.reverse:=fun r=>by
  induction r with
  | nil=>exact h0
  | cons a r ih=>rw[List.reverse_cons];exact h1 _ _ ih
 have:=key l.reverse
 rwa [List.reverse_reverse] at this
theorem adR{α:Type} {E:VM α}  (h:has E k=false):del E k=E:=by
 unfold del;rw[List.filter_eq_self];intro p hp;cases e:(p.1==k) with
 | false=>rfl
 | true =>
   have:has E k=true:=List.any_eq_true.2 ⟨p,hp,e⟩;rw[h] at this;cases this
theorem Wz{α:Type} {E:VM α}  (v:α) (h:has E k=false):(put E k v).length=E.length+1:=by
 unfold put;rw[aa1,adR h]
structure ajR (is:List Item):Prop where
 sI:Ki (J5 is).I
 sR:Ki (J5 is).R
 sN:Ki (J5 is).N
 al8:(J5 is).N.length=is.length
 al9:∀ k,has (J5 is).N k=true ↔ k∈is.map Item.name
 WR:∀ k d,get (J5 is).I k=some d ↔ ∃ t ve st,Item.ins t k ve st∈is/\d=⟨t,k,ve,st,1⟩
 ag4:∀ k,has (J5 is).R k=true ↔ Item.rem k∈is
theorem aaZ{α:Type} {E:VM α} (h:Ki E) (k:S) (v:α) (n:S):has (put E k v) n=true ↔ n=k\/has E n=true:=by
 rw[Xg h];exact or_comm
theorem Oe:∀ (is:List Item),(is.map Item.name).Nodup->ajR is:=by
 refine ajj (fun _ => ?_) (fun l i ih hn => ?_)
 · refine ⟨IR,IR,IR,rfl,fun k => ?_,fun k d => ?_,fun k => ?_⟩
   · simp[J5,has]
   · simp[J5,get]
   · simp[J5,has]
 · rw[GB,List.nodup_append] at hn;obtain ⟨n1, -,n3⟩:=hn;have h:=ih n1;have hni:i.name ∉ l.map Item.name:=fun q=>n3 _ q _ (by simp) rfl
   have hN:has (J5 l).N i.name=false:=by
    cases e:has (J5 l).N i.name with
    | false=>rfl
    | true=>exact absurd ((h.al9 _).1 e) hni
   cases i with
   | inl nm=>
     have e:J5 (l++[.rem nm])=⟨put (J5 l).R nm LB,(J5 l).I,put (J5 l).N nm LB⟩:=Wh l _;rw[<- List.append_eq] at *;constructor
     · rw[show J5 (l.append [.rem nm])=_ from e];exact h.sI
     · rw[show J5 (l.append [.rem nm])=_ from e];exact h.sR.put _ _
     · rw[show J5 (l.append [.rem nm])=_ from e];exact h.sN.put _ _
     · rw[show J5 (l.append [.rem nm])=_ from e];show (put (J5 l).N nm LB).length=_;rw[show (put (J5 l).N nm LB).length=(J5 l).N.length+1 from Wz LB hN,h.al8];simp
     · intro k;rw[show J5 (l.append [.rem nm])=_ from e];show has (put (J5 l).N nm LB) k=true ↔ _;rw[aaZ h.sN,h.al9];simp[Item.name,or_comm]
     · intro k d;rw[show J5 (l.append [.rem nm])=_ from e];show get (J5 l).I k=some d ↔ _;rw[h.WR];simp
     · intro k;rw[show J5 (l.append [.rem nm])=_ from e];show has (put (J5 l).R nm LB) k=true ↔ _;rw[aaZ h.sR,h.ag4];simp[or_comm]
   | inr it=>
     obtain ⟨t,nm,ve,st⟩:=it
     have e:J5 (l++[.ins t nm ve st])=⟨(J5 l).R,put (J5 l).I nm ⟨t,nm,ve,st,1⟩,put (J5 l).N nm LB⟩:=Wh l _;rw[<- List.append_eq] at *;constructor
     · rw[show J5 (l.append [.ins t nm ve st])=_ from e];exact h.sI.put _ _
     · rw[show J5 (l.append [.ins t nm ve st])=_ from e];exact h.sR
     · rw[show J5 (l.append [.ins t nm ve st])=_ from e];exact h.sN.put _ _
     · rw[show J5 (l.append [.ins t nm ve st])=_ from e];show (put (J5 l).N nm LB).length=_;rw[show (put (J5 l).N nm LB).length=(J5 l).N.length+1 from Wz LB hN,h.al8];simp
     · intro k;rw[show J5 (l.append [.ins t nm ve st])=_ from e];show has (put (J5 l).N nm LB) k=true ↔ _;rw[aaZ h.sN,h.al9];simp[Item.name,or_comm]
     · intro k d;rw[show J5 (l.append [.ins t nm ve st])=_ from e];show get (put (J5 l).I nm ⟨t,nm,ve,st,1⟩) k=some d ↔ _;by_cases q:k=nm
       · subst q;rw[Ka h.sI];constructor
         · intro x;cases x;exact ⟨t,ve,st,by simp,rfl⟩
         · rintro ⟨t',ve',st',m,rfl⟩;simp only[List.append_eq,IF,DQ] at m;rcases m with m | m
           · exact absurd (List.mem_map.2 ⟨_,m,rfl⟩) hni
           · cases m;rfl
       · rw[J7 h.sI _ q,h.WR];constructor
         · rintro ⟨t',ve',st',m,rfl⟩;exact ⟨t',ve',st',by simp[m],rfl⟩
         · rintro ⟨t',ve',st',m,rfl⟩;simp only[List.append_eq,IF,DQ] at m;rcases m with m | m
           · exact ⟨t',ve',st',m,rfl⟩
           · cases m;exact absurd rfl q
     · intro k;rw[show J5 (l.append [.ins t nm ve st])=_ from e];show has (J5 l).R k=true ↔ _;rw[h.ag4];simp
theorem Uh{xs:List S} {is:List Item} (h:xs.map Mg=is.map some) (hn:(is.map Item.name).Nodup) (h1:1<=xs.length) (h6:xs.length<=6):wish xs = .ok (J5 is):=by
 have hl:xs.length=is.length:=by have:=IN List.length h;simpa using this
 unfold wish;rw[Bm (by omega),WI is xs _ h];show (if (J5 is).N.length<xs.length then _ else _)=_;rw[Bm (by rw[(Oe is hn).al8];omega)];rfl
theorem Ue{D:VM PD} (sD:Ki D) {is:List Item} (hn:(is.map Item.name).Nodup) (k:S) (d:PD):get (Ko D (J5 is).R (J5 is).I) k=some d ↔ (∃ t ve st,Item.ins t k ve st∈is/\d=⟨t,k,ve,st,1⟩)\/(get D k=some d/\k ∉ is.map Item.name):=by
 have h:=Oe is hn;rw[aal sD h.sI];cases q:get (J5 is).I k with
 | some e =>
   obtain ⟨t,ve,st,m,rfl⟩:=(h.WR k e).1 q;constructor
   · intro x;cases x;exact .inl ⟨t,ve,st,m,rfl⟩
   · rintro (⟨t',ve',st',m',rfl⟩ | ⟨-,x⟩)
     · have:=(h.WR k ⟨t',k,ve',st',1⟩).2 ⟨t',ve',st',m',rfl⟩;rw[q] at this;exact this
     · exact absurd (List.mem_map.2 ⟨_,m,rfl⟩) x
 | none =>
   simp only[Option.orElse_none];have hno:∀ t ve st,Item.ins t k ve st ∉ is:=fun t ve st m=>by
    have:=(h.WR k ⟨t,k,ve,st,1⟩).2 ⟨t,ve,st,m,rfl⟩;rw[q] at this;cases this
   have hnm:has (J5 is).R k=true ↔ k∈is.map Item.name:=by
    rw[h.ag4];constructor
    · intro m;exact List.mem_map.2 ⟨_,m,rfl⟩
    · intro m;obtain ⟨i,hi,e⟩:=List.mem_map.1 m;cases i with
      | inl nm=>have e':nm=k:=e;subst e';exact hi
      | inr it=>obtain ⟨t,nm,ve,st⟩:=it;have e':nm=k:=e;subst e';exact absurd hi (hno t ve st)
   by_cases r:has (J5 is).R k=true
   · rw[By r];constructor
     · intro x;cases x
     · rintro (⟨t',ve',st',m',rfl⟩ | ⟨-,x⟩)
       · exact absurd m' (hno _ _ _)
       · exact absurd (hnm.1 r) x
   · rw[Bm r];constructor
     · intro x;exact .inr ⟨x,fun m=>r (hnm.2 m)⟩
     · rintro (⟨t',ve',st',m',rfl⟩ | ⟨x, -⟩)
       · exact absurd m' (hno _ _ _)
       · exact x
end Hv
namespace Hv
variable {D T:VM PD}
def M6 (k:S):S:=[47,98,105,110,47]++k
theorem ah1{a b:S} (h:M6 a=M6 b):a=b:=List.append_cancel_left h
theorem aaC{α:Type} {E:VM α} {k:S} {v:α} (h:(k,v)∈E):has E k=true:=List.any_eq_true.2 ⟨_,h,by simp⟩
theorem adJ(h:∀ k d,get T k=some d->d.paths=[]\/d.paths=[M6 k]) : ¬ Zj T:=by
 rintro (⟨k,d,hd,hn⟩ | ⟨k,k',d,d',x,hne,hd,hd',hx,hx'⟩)
 · rcases h k d hd with e | e<;>rw[e] at hn<;>simp at hn
 · rcases h k d hd with e | e
   · rw[e] at hx;cases hx
   · rcases h k' d' hd' with e' | e'
     · rw[e'] at hx';cases hx'
     · rw[e] at hx;rw[e'] at hx';simp only[DQ] at hx hx';exact hne (ah1 (hx.symm.trans hx'))
theorem aef(hT:Ki T) (h:∀ k d,get T k=some d->∀ n∈d.st.needs,OZ T n.1 n.2=true):Vm T=false :=
 Xo (fun _ d=>d.st.needs.any fun n => !OZ T n.1 n.2) hT fun k d q=>by
  rw[List.any_eq_false];intro n hn;simp[h k d q n hn]
theorem abP(hT:Ki T) (h:∀ k d,get T k=some d->d.st.breaks=[]):Sk T=false :=
 Xo (fun k d=>d.st.breaks.any fun b=>has T b && !(b==k)) hT fun k d q=>by rw[h k d q];rfl
structure afZ (D:VM PD) (is:List Item):Prop where
 rem:∀ nm,Item.rem nm∈is->has D nm=true
 new:∀ t k ve st,Item.ins t k ve st∈is->∀ o,get D k=some o->0<(J8.compare ve o.ve).1
 len:(Ko D (J5 is).R (J5 is).I).length<=12
 brk:∀ k d,get (Ko D (J5 is).R (J5 is).I) k=some d->d.st.breaks=[]
 bin:∀ k d,get (Ko D (J5 is).R (J5 is).I) k=some d->d.paths=[]\/d.paths=[M6 k]
theorem abE{is:List Item} (hn:(is.map Item.name).Nodup) (h:afZ D is):OC D (J5 is).R=false:=by
 unfold OC;rw[List.any_eq_false];intro p hp;have:=h.rem p.1 (((Oe is hn).ag4 p.1).1 (aaC (v:=p.2) hp));simp[this]
theorem ai1{is:List Item} (hn:(is.map Item.name).Nodup) (h:afZ D is):aew D (J5 is).I=false :=
 ai0 (Oe is hn).sI fun k d o hd ho=>by
  obtain ⟨t,ve,st,m,rfl⟩:=((Oe is hn).WR k d).1 hd;exact h.new t k ve st m o ho
theorem RV{is:List Item} (sD:Ki D) (hn:(is.map Item.name).Nodup) (h:afZ D is) (wC:∀ k d,get (Ko D (J5 is).R (J5 is).I) k=some d->∀ n∈d.st.needs,OZ (Ko D (J5 is).R (J5 is).I) n.1 n.2=true):LY D (J5 is).R (J5 is).I=0:=by
 have hT:=Py sD (J5 is).R (J5 is).I;unfold LY;rw[abE hn h,ai1 hn h,aef hT wC,abP hT h.brk,abS (adJ h.bin)];have:=h.len;simp only[Bool.false_eq_true,if_false];rw[Bm (by omega)]
theorem OJ{α:Type} {E:VM α} (h:Ki E) {ks:List S} (hk:∀ k,has E k=true->k∈ks):E.length<=ks.length:=by
 have hnd:=h.nodup;have hsub:(E.map (·.1)) ⊆ ks:=fun k hm=>by
  obtain ⟨p,hp,rfl⟩:=List.mem_map.1 hm;exact hk _ (aaC (v:=p.2) hp)
 have:=hnd.length_le_of_subset hsub;simpa using this
end Hv
namespace Hv
def KY (ls:List S):S:=ls.flatMap fun l=>l++[10]
def glue:List S->S
 | []=>[]
 | [l]=>l
 | l::m::ls=>l++10::glue (m::ls)
theorem U1:∀ (ls:List S),ls≠[]->(∀ l∈ls,∀ c∈l,c≠10)->sp 10 (glue ls)=ls
 | [],h,_=>absurd rfl h
 | [l],_,h=>SA 10 l (h l (by simp))
 | l::m::ls,_,h=>by
   show sp 10 (l++10::glue (m::ls))=_;rw[QY 10 l _ (h l (by simp)),U1 (m::ls) (by simp) (fun x hx=>h x (by simp at hx |-;exact .inr hx))]
theorem V5{l:S} (h : ¬ (c=10/\l.head? = some 10)):KI (c::l)=(KI l).map fun p=>(c::p.1,p.2):=by
 conv=>lhs;unfold KI
 split
 · exact absurd ⟨rfl,rfl⟩ h
 · cases KI l<;>rfl
theorem TD:∀ (l r:S),(∀ c∈l,c≠10)->KI (l++r)=(KI r).map fun p=>(l++p.1,p.2)
 | [],r,_=>by cases h:KI r<;>simp[h]
 | c::l,r,h=>by
   have hc:c≠10:=h c (by simp);rw[List.cons_append,V5 (fun q=>hc q.1),TD l r (fun x hx=>h x (by simp[hx]))];cases KI r<;>rfl
theorem OH(r:S):∀ (ls:List S),ls≠[]->(∀ l∈ls,l≠[]/\∀ c∈l,c≠10)->KI (KY ls++10::r)=some (glue ls,r)
 | [],h,_=>absurd rfl h
 | [l],_,h=>by
   have e:KY [l]++10::r=l++(10::10::r):=by simp[KY]
   rw[e,TD l _ (h l (by simp)).2];have:KI (10::10::r)=some ([],r):=by simp[KI]
   rw[this];simp[glue]
 | l::m::ls,_,h=>by
   have e:KY (l::m::ls)++10::r=l++(10::(KY (m::ls)++10::r)):=by simp[KY]
   have hm:=h m (by simp);have hh : ¬ ((10:UInt8)=10/\(KY (m::ls)++10::r).head? = some 10):=by
    rintro ⟨-,q⟩;cases m with
    | nil=>exact hm.1 rfl
    | cons a m =>
      have:(KY ((a::m)::ls)++10::r).head? = some a:=by simp[KY]
      rw[this] at q;exact hm.2 a (by simp) (Cd q)
   rw[e,TD l _ (h l (by simp)).2,V5 hh,OH r (m::ls) (by simp) (fun x hx=>h x (by simp at hx |-;exact .inr hx))];rfl
def Rn (c:UInt8):Prop:=c=97\/c=98\/c=99\/c=100\/c=101\/c=102\/c=122
def RI (n:UInt8):S:=[110,101,101,100,115,32,n,32,49]
def L6 (c:UInt8):S:=[102,105,108,101,32,47,98,105,110,47,c,32,53,32,98,97,52,55,56,56,98,50,50,54,97,97,56,100,99,50]
def Yu (c:UInt8):S:=[114,117,110,32,97,100,100,32,47,118,97,114,47,111,114,100,101,114,32,c]
def Qa:S:=[47,118,97,114,47,111,114,100,101,114]
def XU (c v:UInt8):List S:=[Kw.Qo,Kw.Nq++[c],Kw.K5++[v]]
def Qg (c v:UInt8) (ns:List UInt8) (o:Bool):List S:=XU c v++(ns.map RI++(L6 c::if o then [Yu c] else []))
def Oh (c v:UInt8) (ns:List UInt8) (o:Bool):S:=KY (Qg c v ns o)++10::green
def aek (c:UInt8) (ns:List UInt8) (o:Bool):St:=⟨ns.map fun n=>([n],[49]),[],[],[(M6 [c],green)],if o then [⟨2,Qa,[c],[]⟩] else [],[],[]⟩
theorem UH(h:Rn c):Wd.isName [c]=true/\c≠10/\c≠32:=by
 rcases h with rfl | rfl | rfl | rfl | rfl | rfl | rfl<;>decide
theorem aky{n:UInt8} (h:Rn n):sp 32 (RI n)=[[110,101,101,100,115],[n],[49]]:=by
 rcases h with rfl | rfl | rfl | rfl | rfl | rfl | rfl<;>rfl
theorem Sv(h:Rn c):sp 32 (L6 c)=[[102,105,108,101],M6 [c],[53],[98,97,52,55,56,56,98,50,50,54,97,97,56,100,99,50]]:=by
 rcases h with rfl | rfl | rfl | rfl | rfl | rfl | rfl<;>rfl
theorem amn(h:Rn c):sp 32 (Yu c)=[[114,117,110],[97,100,100],Qa,[c]]:=by
 rcases h with rfl | rfl | rfl | rfl | rfl | rfl | rfl<;>rfl
theorem Un(h:Rn c):Wd.LU (M6 [c])=true/\Wd.under (M6 [c])=false:=by
 rcases h with rfl | rfl | rfl | rfl | rfl | rfl | rfl<;>decide
theorem ajC(h:Rn c):Wd.isWord [c]=true:=by
 rcases h with rfl | rfl | rfl | rfl | rfl | rfl | rfl<;>decide
theorem agP:Wd.isVar Qa=true:=by decide
theorem Wt(f:S->S):∀ (ns:List UInt8) (st:St) (last:Int) (rest:List S),last<=1->(∀ n∈ns,Rn n)->∃ last',last'<=1/\Kw.MZ f st last (ns.map RI++rest)=Kw.MZ f { st with needs:=st.needs++ns.map fun n=>([n],[49]) } last' rest
 | [],st,last,rest,hl,_=>⟨last,hl,by simp⟩
 | n::ns,st,last,rest,hl,h=>by
   have hn:=h n (by simp);obtain ⟨l',h1,h2⟩:=Wt f ns { st with needs:=st.needs++[([n],[49])] } 1 rest (by omega) (fun m hm=>h m (by simp[hm]));refine ⟨l',h1,?_⟩;have e:(n::ns).map RI++rest=RI n::(ns.map RI++rest):=rfl;rw[e,Kw.MZ,aky hn];have k1:kd ([[110,101,101,100,115],[n],[49]]:List S).head! = 1:=by rfl
   rw[k1,Bm (by omega)];have p1:Kw.OO f st 1 ([[110,101,101,100,115],[n],[49]]:List S).tail=some { st with needs:=st.needs++[([n],[49])] }:=by
    have hv:J8.fine [49]=true:=by decide
    show (if (1:Int)=1 then (if J8.fine [49]&&Wd.isName [n] then some _ else none) else _)=_;rw[By rfl,hv,(UH hn).1];rfl
   rw[p1];show Kw.MZ f _ 1 _=_;rw[h2];simp
theorem Ym(f:S->S) (hf:f green=[98,97,52,55,56,56,98,50,50,54,97,97,56,100,99,50])  (hc:Rn c) (st:St) (last:Int) (hl:last<=1) (rest:List S) (h1:st.files=[]) (h2:st.left=green) :
 Kw.MZ f st last (L6 c::rest)=Kw.MZ f { st with files:=[(M6 [c],green)],left:=[] } 4 rest:=by
 rw[Kw.MZ,Sv hc];have k1:kd ([[102,105,108,101],M6 [c],[53],[98,97,52,55,56,56,98,50,50,54,97,97,56,100,99,50]]:List S).head! = 4:=by rfl
 rw[k1,Bm (by omega)];have hz:sz [53]=5:=by decide
 have hg:green.take 5=green:=by decide
 have hd:green.drop 5=[]:=by decide
 have hgl:(green.length:Int)=5:=by decide
 have p1:Kw.OO f st 4 ([[102,105,108,101],M6 [c],[53],[98,97,52,55,56,56,98,50,50,54,97,97,56,100,99,50]]:List S).tail=some { st with files:=[(M6 [c],green)],left:=[] }:=by
  unfold Kw.OO;rw[Bm (by decide),Bm (by decide),Bm (by decide),By rfl];simp only[List.tail_cons];rw[hz,h1,h2,show (5:Int).toNat=5 from rfl,hg,hd,hf,(Un hc).1,(Un hc).2];rw[By ⟨by decide,by omega,rfl,rfl,rfl,rfl⟩];rfl
 rw[p1]
theorem ag2(f:S->S)  (hc:Rn c) (st:St) (o:Bool) (h0:st.runs=[]) :
 Kw.MZ f st 4 (if o then [Yu c] else [])=some { st with runs:=if o then [⟨2,Qa,[c],[]⟩] else [] }:=by
 cases o
 · simp[Kw.MZ,<- h0]
 · simp only[if_true];rw[Kw.MZ,amn hc];have k1:kd ([[114,117,110],[97,100,100],Qa,[c]]:List S).head! = 5:=by rfl
   rw[k1,Bm (by decide)];have pc:Kw.RS [[97,100,100],Qa,[c]]=(⟨2,Qa,[c],[]⟩,true):=by
    have v1:Kw.vb [97,100,100]=2:=by rfl
    unfold Kw.RS;rw[v1,By (by decide)];simp only;rw[ajC hc,agP];rfl
   have p1:Kw.OO f st 5 ([[114,117,110],[97,100,100],Qa,[c]]:List S).tail=some { st with runs:=[⟨2,Qa,[c],[]⟩] }:=by
    unfold Kw.OO;rw[Bm (by decide),Bm (by decide),Bm (by decide),Bm (by decide),By rfl];simp only[List.tail_cons];have hp:∀ x:ME × Bool,x=(⟨2,Qa,[c],[]⟩,true)->(if x.2=true/\x.1.verb≠5 then some { st with runs:=st.runs++[x.1] } else none)=some { st with runs:=[⟨2,Qa,[c],[]⟩] }:=by
     rintro x rfl;rw[By ⟨rfl,show (2:Int)≠5 by decide⟩,h0];rfl
    exact hp _ pc
   rw[p1];rfl
theorem acC(ns:List UInt8):(KY (ns.map RI)).length=10*ns.length:=by
 induction ns with
 | nil=>rfl
 | cons n ns ih =>
   simp only[KY,Cp,Fc,AS] at ih |-;rw[ih];simp[RI];omega
theorem Vp(c v:UInt8) (ns:List UInt8) (o:Bool):(Oh c v ns o).length<=90+10*ns.length:=by
 have e:Oh c v ns o=KY (XU c v)++(KY (ns.map RI)++(KY (L6 c::if o then [Yu c] else [])++10::green)):=by
  simp[Oh,Qg,KY]
 rw[e,AS,AS,acC];have h1:(KY (XU c v)).length=25:=by rfl
 have h2:(KY (L6 c::if o then [Yu c] else [])++10::green).length<=60:=by cases o<;>simp[KY,L6,Yu,green]
 omega
theorem Yb{v:UInt8} (hc:Rn c) (hv:v=49\/v=50) {ns:List UInt8} (hns:∀ n∈ns,Rn n) (o:Bool):∀ l∈Qg c v ns o,l≠[]/\∀ x∈l,x≠10:=by
 have h1:∀ l∈XU c v,l≠[]/\∀ x∈l,x≠10:=by
  rcases hv with rfl | rfl<;>rcases hc with rfl | rfl | rfl | rfl | rfl | rfl | rfl<;>decide
 have h2:∀ l∈(L6 c::if o then [Yu c] else []),l≠[]/\∀ x∈l,x≠10:=by
  cases o<;>rcases hc with rfl | rfl | rfl | rfl | rfl | rfl | rfl<;>decide
 intro l hl;unfold Qg at hl;rcases List.mem_append.1 hl with hl | hl
 · exact h1 l hl
 · rcases List.mem_append.1 hl with hl | hl
   · obtain ⟨n,hn,rfl⟩:=List.mem_map.1 hl;have:=hns n hn;rcases this with rfl | rfl | rfl | rfl | rfl | rfl | rfl<;>decide
   · exact h2 l hl
theorem TS(c v:UInt8) (hc:Rn c) (hv:v=49\/v=50) (ns:List UInt8) (hns:∀ n∈ns,Rn n) (hl:ns.length<=6) (o:Bool) :
 Kw.parse (short KH) (Oh c v ns o)=some ([c],[v],aek c ns o):=by
 have hlen:=Vp c v ns o;have hL:=Yb hc hv hns o;have hne:Qg c v ns o≠[]:=by simp[Qg,XU]
 have hh:Kw.XV Kw.Qo (Kw.Nq++[c]) (Kw.K5++[v])=true/\Kw.behind Kw.Nq (Kw.Nq++[c])=[c]/\Kw.behind Kw.K5 (Kw.K5++[v])=[v]:=by
  rcases hv with rfl | rfl<;>rcases hc with rfl | rfl | rfl | rfl | rfl | rfl | rfl<;>decide
 unfold Kw.parse;rw[Bm (by omega)];have e1:KI (Oh c v ns o)=some (glue (Qg c v ns o),green):=OH green _ hne hL;have e2:sp 10 (glue (Qg c v ns o))=Kw.Qo::(Kw.Nq++[c])::(Kw.K5++[v])::(ns.map RI++(L6 c::if o then [Yu c] else [])):=(U1 _ hne (fun l q=>(hL l q).2)).trans rfl;rw[e1];simp only;rw[e2];simp only;rw[Bm (by cases o<;>simp<;>omega),By hh.1];obtain ⟨l',h1,h2⟩:=Wt (short KH) ns (.of green) 0 (L6 c::if o then [Yu c] else []) (by omega) hns;rw[h2,Ym (short KH) R4 hc _ l' h1 _ rfl rfl,ag2 (short KH) hc _ o rfl];simp only[if_true];rw[hh.2.1,hh.2.2];rfl
theorem agB(c v:UInt8) (hc:Rn c) (hv:v=49\/v=50) (ns:List UInt8) (hns:∀ n∈ns,Rn n) (hl:ns.length<=6) (o:Bool) :
 Mg (43::Oh c v ns o)=some (.ins (Oh c v ns o) [c] [v] (aek c ns o)):=by
 have hlen:=Vp c v ns o;unfold Mg;simp only;rw[Bm (by decide),By trivial,Bm (by omega),TS c v hc hv ns hns hl o];rfl
theorem acw(hc:Rn c):Mg [45,c]=some (.rem [c]):=by
 unfold Mg;simp only;rw[By trivial,(UH hc).1];rfl
end Hv
namespace Hv
variable {T:VM PD}
theorem Ru:∀ (l:List S) (G:VM S),(∀ x d,get T x=some d->d.st.runs=[])->PN T l G=G
 | [],_,_=>rfl
 | x::l,G,h=>by
   have e:PN T (x::l) G=PN T l (match get T x with | none=>G | some d=>MG T [] G d.st.runs):=rfl;rw[e];cases q:get T x with
   | none=>exact Ru l G h
   | some d=>simp only[h x d q];exact Ru l G h
theorem aau(h:∀ k d,get T k=some d->d.st.wakes=[]) (sT:Ki T) (ch:List S):LQ T ch=[]:=by
 unfold LQ;rw[List.filterMap_eq_nil_iff];intro p hp;have:=h p.1 p.2 ((get_some sT).2 hp);rw[By (by unfold KR;rw[List.filter_eq_nil_iff];intro x _;simp[this])]
theorem Yy{D:VM PD} {xs:List S} (h:LG D+(xs.map List.length).sum<=5000):Oj 300 D xs=false:=by
 unfold Oj WG;rw[ajl];simp only[decide_eq_false_iff_not];omega
end Hv
end
namespace J8
def d1 (n:Nat):UInt8:=(48+n).toUInt8
def dg (n:Nat):List UInt8:=if n<10 then [d1 n] else if n<100 then [d1 (n / 10),d1 (n%10)] else [d1 (n / 100),d1 (n / 10%10),d1 (n%10)]
def tr (n:Nat):List UInt8:=if n=0 then [] else dg n
end J8
section
open Go.RowKit
def pk (c n:Int):Int:=(if c<0 then -(c+1) else c)%n
def dI (z:Int):UInt8:=(48+z%10).toNat.toUInt8
theorem adT(W:World) (z:Int):(convert 53 9 (.slice (some ⟨W.heap.size,0,none⟩) 1 1)).run Tryz.prog (W.alloc (.cells #[.int .u8 (48+z%10)] 5)) =
 .ok (.string ⟨[dI z].toArray⟩) (W.alloc (.cells #[.int .u8 (48+z%10)] 5)):=by
 refine run_convert_bytes_back _ 53 9 5 ⟨W.heap.size,0,none⟩ 1 [dI z] Tryz.underlying53 Tryz.underlying5 IT ?_;intro j hj;have hj0:j=0:=by simpa using hj
 subst hj0;have hv:((dI z).toNat:Int)=48+z%10:=by
  show ((UInt8.ofNat (48+z%10).toNat).toNat:Int)=_;rw[UInt8.toNat_ofNat'];omega
 simp[go_sem,Addr.add,hv]
theorem aie(z:Int) (h:z=n):dI z=J8.d1 (n%10):=by
 subst h;simp only[dI,J8.d1];congr 1
def Dig (n:Nat) (q:Int) (l:List UInt8):Prop :=
 (q=n/\l=[J8.d1 (n%10)])\/(10<=n/\q=(n / 10:Nat)/\l=[J8.d1 (n / 10%10),J8.d1 (n%10)])\/(100<=n/\q=(n / 100:Nat)/\l=[J8.d1 (n / 100%10),J8.d1 (n / 10%10),J8.d1 (n%10)])
theorem aik(hn:n<1000)   (h:Dig n q l) (hq:10<=q):Dig n (q / 10) (dI (q / 10)::l):=by
 rcases h with ⟨rfl,rfl⟩ | ⟨h1,rfl,rfl⟩ | ⟨h1,rfl,rfl⟩
 · exact .inr (.inl ⟨by omega,by omega,by rw[aie (n:=n / 10) _ (by omega)]⟩)
 · exact .inr (.inr ⟨by omega,by omega,by rw[aie (n:=n / 100) _ (by omega)]⟩)
 · omega
theorem aij(hn:n<1000)   (h:Dig n q l) (hq : ¬ 10<=q):l=J8.dg n:=by
 rcases h with ⟨rfl,rfl⟩ | ⟨h1,rfl,rfl⟩ | ⟨h1,rfl,rfl⟩
 · have:n<10:=by omega
   simp[J8.dg,this,Nat.mod_eq_of_lt this]
 · have h2 : ¬ n<10:=by omega
   have h3:n<100:=by omega
   simp[J8.dg,h2,h3,Nat.mod_eq_of_lt (show n / 10<10 by omega)]
 · have h2 : ¬ n<10:=by omega
   have h3 : ¬ n<100:=by omega
   simp[J8.dg,h2,h3,Nat.mod_eq_of_lt (show n / 100<10 by omega)]
theorem alB(h:Dig n q l) (hn:n<1000):l.length<=3/\0<=q/\q<1000:=by
 rcases h with ⟨rfl,rfl⟩ | ⟨h1,rfl,rfl⟩ | ⟨h1,rfl,rfl⟩<;>simp<;>omega
theorem Wi(x y:List UInt8):(⟨x.toArray⟩:ByteArray)++⟨y.toArray⟩=⟨(x++y).toArray⟩:=by
 apply Qs;simp
theorem QJ(n:Nat) (hn:n<1000) (w:World) :
 Calls Tryz.prog 18 #[.int .i64 n] w fun e w'=>e = .returned (.string ⟨(J8.dg n).toArray⟩)/\Below w.heap.size w w':=by
 have hm:=adT;go_enter Tryz.func18,Tryz.ntmps18;go_wp2_with fail;go_loopw [0,3] (fun a b wr=>∃ (q:Int) (l:List UInt8),Dig n q l/\a = .int .i64 q/\b = .string ⟨l.toArray⟩/\Below w.heap.size w wr) (fun a _ _=>(intOf a).toNat)
 case atStart=>exact ⟨_,_, .inl ⟨rfl,by rw[aie (n:=n) _ rfl]⟩,rfl,rfl,(AD _ _).alloc (AC _) _⟩
 case round =>
  obtain ⟨q,l,hd,rfl,rfl,hb⟩:=hrel;have HD:=JY hd;obtain ⟨hl,hq0,hq1⟩:=alB hd hn;clear hd;have HB:=JY hb;clear hb;by_cases hq:10<=q
  · go_wp2_with fail;exact ⟨⟨q / 10,_,aik hn HD.out hq,rfl,IN Value.string (Wi [dI (q / 10)] l),HB.out.alloc HB.out.size _⟩,by simp[intOf];omega⟩
  · go_wp2_with fail;go_ret;have he:=aij hn HD.out (by omega);exact ⟨afE (by rw[he]),HB.out⟩
end
section
open Go.RowKit
open Kw (St ME)
open Hv (S Dk VM)
theorem Qz(c n:Int) (hn:0<n) (dF:n<=1000) (h0 : -9223372036854775808<=c) (h1:c<=9223372036854775807) (w:World) :
 Calls Tryz.prog 7 #[.int .i64 c, .int .i64 n] w fun e w'=>e = .returned (.int .i64 (pk c n))/\w'=w:=by
 have hz : ¬ n=0:=by omega
 have hm : ¬ n = -1:=by omega
 by_cases hc:c<0
 · have e:pk c n=(-(c+1))%n:=by simp[pk,hc]
   rw[e];have h:=Ex (a := -(c+1)) (b:=n) (by omega);have k1:=Int.emod_nonneg (-(c+1)) hz;have k2:=Int.emod_lt_of_pos (-(c+1)) hn;have k3:IntKind.i64.wrap (c+1)=c+1:=by rw[De];omega
   have k4:IntKind.i64.wrap (-(c+1)) = -(c+1):=by rw[De];omega
   obtain ⟨r,hr⟩:∃ r,(-(c+1))%n=r:=⟨_,rfl⟩
   rw[hr] at h k1 k2 |-;go_enter Tryz.func7,Tryz.ntmps7
   go_wp2
   go_ret;rw[Int.neg_tmod] at h;exact ⟨Ny (by omega),rfl⟩
 · have e:pk c n=c%n:=by simp[pk,hc]
   rw[e];have h:=Ex (a:=c) (b:=n) (by omega);have k1:=Int.emod_nonneg c hz;have k2:=Int.emod_lt_of_pos c hn;obtain ⟨r,hr⟩:∃ r,c%n=r:=⟨_,rfl⟩
   rw[hr] at h k1 k2 |-;go_enter Tryz.func7,Tryz.ntmps7
   go_wp2
   go_ret;exact ⟨Ny (by omega),rfl⟩
def LM (k:Nat):UInt8:=UInt8.ofNat (97+k)
theorem Ya{k:Nat} (h:k<6):Hv.Rn (LM k):=by
 have:k=0\/k=1\/k=2\/k=3\/k=4\/k=5:=by omega
 rcases this with rfl | rfl | rfl | rfl | rfl | rfl<;>(unfold Hv.Rn LM;decide)
theorem QS(k:Nat) (hk:k<6) (w:World) :
 Calls Tryz.prog 17 #[.int .i64 k] w fun e w'=>e = .returned (.string ⟨([LM k]:S).toArray⟩)/\w'=w:=by
 have:k=0\/k=1\/k=2\/k=3\/k=4\/k=5:=by omega
 rcases this with rfl | rfl | rfl | rfl | rfl | rfl
 all_goals
  go_enter Tryz.func17,Tryz.ntmps17
  go_wp2
  go_ret;exact ⟨rfl,rfl⟩
def abK (x:S) (v:Nat) (a b:S):S:=[43,104,97,118,101,110,32,49,10,110,97,109,101,32]++x++[10,118,101,114,115,105,111,110,32]++J8.dg v++[10]++a++[102,105,108,101,32,47,98,105,110,47]++x++[32,53,32,98,97,52,55,56,56,98,50,50,54,97,97,56,100,99,50,10]++b++[10,103,114,101,101,110]
theorem V3(x a b:S) (v:Nat) (hv:v<1000) (hx:x.length<=1000) (ha:a.length<=1000) (hb:b.length<=1000) (w:World) :
 Calls Tryz.prog 15 #[.string ⟨x.toArray⟩, .int .i64 v, .string ⟨a.toArray⟩, .string ⟨b.toArray⟩] w fun e w'=>e = .returned (.string ⟨(abK x v a b).toArray⟩)/\Below w.heap.size w w':=by
 have hd:(J8.dg v).length<=3:=by
  unfold J8.dg;by_cases h1:v<10
  · rw[By h1];simp
  · rw[Bm h1];by_cases h2:v<100
    · rw[By h2];simp
    · rw[Bm h2];simp
 go_enter Tryz.func15,Tryz.ntmps15;go_wp2_with fail;refine (QJ v (by omega) w).mono ?_;rintro e w1 ⟨rfl,hb1⟩;have ag:=JY hb1;have HA:Hid (abK x v a b=_):=JY (by unfold abK;rfl);obtain ⟨z,hz⟩:∃ z,J8.dg v=z:=⟨_,rfl⟩
 rw[hz] at hd HA |-;clear hb1 hz;go_wp2_with fail;go_ret;refine ⟨?_,ag.out⟩;rw[HA.out];simp only[<- Wi];rfl
theorem ahW(k:Nat) {v:Nat} (hv:v=1\/v=2) (ns:List UInt8) (o:Bool) :
 abK [UInt8.ofNat (97+k)] v (Hv.KY (ns.map Hv.RI)) (if o then Hv.Yu (UInt8.ofNat (97+k))++[10] else [])=43::Hv.Oh (UInt8.ofNat (97+k)) (UInt8.ofNat (48+v)) ns o:=by
 have e:J8.dg v=[UInt8.ofNat (48+v)]:=by rcases hv with rfl | rfl<;>rfl
 unfold abK Hv.Oh Hv.Qg Hv.XU Hv.KY;rw[e];obtain ⟨c,hc⟩:∃ c,UInt8.ofNat (97+k)=c:=⟨_,rfl⟩
 obtain ⟨d,hd⟩:∃ d,UInt8.ofNat (48+v)=d:=⟨_,rfl⟩
 rw[hc,hd];cases o<;>simp[Hv.L6,Hv.Yu,Kw.Qo,Kw.Nq,Kw.K5,green]
end
section
open Kw (St ME)
open Hv (S VM)
namespace Hv
abbrev goes (V:Nat->Nat) (j:Nat):Prop:=0<V j/\j%2=0
theorem aa5{i j:Nat} (hi:i<6) (hj:j<6) (h:LM i=LM j):i=j:=by
 have hi':i=0\/i=1\/i=2\/i=3\/i=4\/i=5:=by omega
 have hj':j=0\/j=1\/j=2\/j=3\/j=4\/j=5:=by omega
 rcases hi' with rfl | rfl | rfl | rfl | rfl | rfl<;>rcases hj' with rfl | rfl | rfl | rfl | rfl | rfl<;>first | rfl | (exfalso;revert h;decide)
end Hv
namespace Hv
theorem Rt{D I:VM PD} {R:VM Value} (x:S):Ki (Kr D R I)/\OG (Kr D R I)/\(has (Kr D R I) x=true ↔ (∃ p∈R,x∈KE D p.1) \/ ∃ p∈I,x∈KE D p.1\/x∈p.2.paths):=by
 obtain ⟨a,b,c⟩:=OE D R [] IR (fun k v q=>by cases q);obtain ⟨a',b',c'⟩:=OD D I (LX D R []) a b;refine ⟨a',b',?_⟩;show has (MI D I (LX D R [])) x=true ↔ _;rw[c',c];simp[has]
end Hv
namespace Hv
theorem afK:∀ D:VM PD,(∀ p∈D,p.2.text.length<=b)->LG D<=b*D.length
 | [],_=>by simp[LG]
 | p::D,h=>by
   have h1:=afK D (fun q hq=>h q (by simp[hq]));have h2:=h p (by simp);simp only[LG,Cp,FG,CI] at h1 |-;rw[Nat.mul_add];omega
theorem Ud:∀ xs:List S,(∀ x∈xs,x.length<=b)->(xs.map List.length).sum<=b*xs.length
 | [],_=>by simp
 | x::xs,h=>by
   have h1:=Ud xs (fun q hq=>h q (by simp[hq]));have h2:=h x (by simp);simp only[Cp,FG,CI];rw[Nat.mul_add];omega
end Hv
end
end Go.Proofs.YtfhmaiicimdldaaGreatDoor
