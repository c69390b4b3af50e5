import Derived.Test.YtfhmaiicimdldaaGreatDoorFinJ21
set_option maxRecDepth 100000
namespace Go.Proofs.YtfhmaiicimdldaaGreatDoor
variable {c:UInt8}{B ak aq db j k mb mc nc r:Nat}{js:List Nat}{mo:Option Addr}{w w' w4 wr:World}{o:Obj}{bv:Value}{C:Nat->Prop}{vs:List Value}
section
open Kw (St ME)
open Hv (S VM)
namespace Hv
variable {z:S}
def M9:S:=[47,118,97,114,47,108,111,103]
def TM (c:UInt8) (z:S):S:=[114,117,110,32,97,100,100,32,47,118,97,114,47,108,111,103,32]++c::z
def TK (c:UInt8) (z:S):List S:=[Kw.Qo,Kw.Nq++[c],Kw.K5++z,L6 c,TM c z]
def QT (c:UInt8) (z:S):S:=KY (TK c z)++10::green
def Wj (c:UInt8) (z:S):St:=⟨[],[],[],[(M6 [c],green)],[⟨2,M9,c::z,[]⟩],[],[]⟩
def Vz (z:S):Prop:=z=[49]\/z=[50]\/z=[51]\/z=[52]\/z=[53]\/z=[54]\/z=[55]\/z=[56]\/z=[57]\/z=[49,48]\/z=[49,49]\/z=[49,50]
theorem aaq{v:Nat} (h0:0<v) (h:v<=12):Vz (J8.dg v):=by
 have:v=1\/v=2\/v=3\/v=4\/v=5\/v=6\/v=7\/v=8\/v=9\/v=10\/v=11\/v=12:=by omega
 rcases this with rfl | rfl | rfl | rfl | rfl | rfl | rfl | rfl | rfl | rfl | rfl | rfl<;>(unfold Vz;decide)
theorem aa4(h:Rn c) (hz:Vz z):sp 32 (TM c z)=[[114,117,110],[97,100,100],M9,c::z]:=by
 rcases hz with rfl | rfl | rfl | rfl | rfl | rfl | rfl | rfl | rfl | rfl | rfl | rfl<;>rcases h with rfl | rfl | rfl | rfl | rfl | rfl | rfl<;>rfl
theorem acG(h:Rn c) (hz:Vz z):Wd.isWord (c::z)=true:=by
 rcases hz with rfl | rfl | rfl | rfl | rfl | rfl | rfl | rfl | rfl | rfl | rfl | rfl<;>rcases h with rfl | rfl | rfl | rfl | rfl | rfl | rfl<;>decide
theorem afu:Wd.isVar M9=true:=by decide
theorem aeV(hz:Vz z):1<=z.length/\z.length<=2:=by
 rcases hz with rfl | rfl | rfl | rfl | rfl | rfl | rfl | rfl | rfl | rfl | rfl | rfl<;>decide
theorem ag1(f:S->S)   (hc:Rn c) (hz:Vz z) (st:St) (h0:st.runs=[]) :
 Kw.MZ f st 4 [TM c z]=some { st with runs:=[⟨2,M9,c::z,[]⟩] }:=by
 rw[Kw.MZ,aa4 hc hz];have k1:kd ([[114,117,110],[97,100,100],M9,c::z]:List S).head! = 5:=by rfl
 rw[k1,Bm (by decide)];have pc:Kw.RS [[97,100,100],M9,c::z]=(⟨2,M9,c::z,[]⟩,true):=by
  have v1:Kw.vb [97,100,100]=2:=by rfl
  unfold Kw.RS;rw[v1,By (by decide)];simp only;rw[acG hc hz,afu];rfl
 have p1:Kw.OO f st 5 ([[114,117,110],[97,100,100],M9,c::z]:List S).tail=some { st with runs:=[⟨2,M9,c::z,[]⟩] }:=by
  unfold Kw.OO;rw[Bm (by decide),Bm (by decide),Bm (by decide),Bm (by decide),By rfl];simp only[List.tail_cons];have hp:∀ x:ME × Bool,x=(⟨2,M9,c::z,[]⟩,true)->(if x.2=true/\x.1.verb≠5 then some { st with runs:=st.runs++[x.1] } else none)=some { st with runs:=[⟨2,M9,c::z,[]⟩] }:=by
   rintro x rfl;rw[By ⟨rfl,show (2:Int)≠5 by decide⟩,h0];rfl
  exact hp _ pc
 rw[p1];rfl
theorem ZO(h:Rn c) (hz:Vz z):∀ l∈TK c z,l≠[]/\∀ x∈l,x≠10:=by
 rcases hz with rfl | rfl | rfl | rfl | rfl | rfl | rfl | rfl | rfl | rfl | rfl | rfl<;>rcases h with rfl | rfl | rfl | rfl | rfl | rfl | rfl<;>decide
theorem aiM(h:Rn c) (hz:Vz z):Kw.XV Kw.Qo (Kw.Nq++[c]) (Kw.K5++z)=true/\Kw.behind Kw.Nq (Kw.Nq++[c])=[c]/\Kw.behind Kw.K5 (Kw.K5++z)=z:=by
 rcases hz with rfl | rfl | rfl | rfl | rfl | rfl | rfl | rfl | rfl | rfl | rfl | rfl<;>rcases h with rfl | rfl | rfl | rfl | rfl | rfl | rfl<;>decide
theorem RH(hz:Vz z):(QT c z).length<=110:=by
 have:=aeV hz;have e:(QT c z).length=80+2*z.length:=by
  simp[QT,TK,KY,TM,L6,green,Kw.Qo,Kw.Nq,Kw.K5];omega
 omega
theorem VB(hc:Rn c) (hz:Vz z):Kw.parse (short KH) (QT c z)=some ([c],z,Wj c z):=by
 have hlen:=RH (c:=c) hz;have hL:=ZO hc hz;have hne:TK c z≠[]:=by simp[TK]
 have hh:=aiM hc hz;unfold Kw.parse;rw[Bm (by omega)];have e1:KI (QT c z)=some (glue (TK c z),green):=OH green _ hne hL;have e2:sp 10 (glue (TK c z))=Kw.Qo::(Kw.Nq++[c])::(Kw.K5++z)::[L6 c,TM c z]:=(U1 _ hne (fun l q=>(hL l q).2)).trans rfl;rw[e1];simp only;rw[e2];simp only;rw[Bm (by simp),By hh.1];rw[Ym (short KH) R4 hc _ 0 (by omega) _ rfl rfl,ag1 (short KH) hc hz _ rfl];simp only[if_true];rw[hh.2.1,hh.2.2];rfl
theorem aiz(hc:Rn c) (hz:Vz z):Mg (43::QT c z)=some (.ins (QT c z) [c] z (Wj c z)):=by
 have hlen:=RH (c:=c) hz;unfold Mg;simp only;rw[Bm (by decide),By trivial,Bm (by omega),VB hc hz];rfl
theorem Yg(c:UInt8) (z:S):KX (Wj c z).runs/\KX (Wj c z).Kn:=by
 refine ⟨fun x hx => ?_,fun x hx=>(by cases hx)⟩;have:x=⟨2,M9,c::z,[]⟩:=by simpa [Wj] using hx
 rw[this];show (2:Int)≠3;decide
end Hv
namespace Hv
variable {L nm:S}{D:VM PD}
def Oo (j v:Nat) (s:Int):PD:=⟨QT (LM j) (J8.dg v),[LM j],J8.dg v,Wj (LM j) (J8.dg v),s⟩
structure U7 (V:Nat->Nat) (D:VM PD):Prop where
 Mt:Ki D
 get:∀ k d,get D k=some d ↔ ∃ j,j<6/\0<V j/\k=[LM j]/\d=Oo j (V j) 2
structure Uj (V:Nat->Nat) (al:List (Nat × Nat)):Prop where
 lt:∀ a∈al,a.1<6
 nd:(al.map (·.1)).Nodup
 deed:∀ a∈al,a.2=1\/(a.2=2/\0<V a.1)
def Me (r:Nat) (a:Nat × Nat):S:=if a.2=1 then 43::QT (LM a.1) (J8.dg r) else [45,LM a.1]
def KP (r:Nat) (a:Nat × Nat):Item:=if a.2=1 then .ins (QT (LM a.1) (J8.dg r)) [LM a.1] (J8.dg r) (Wj (LM a.1) (J8.dg r)) else .rem [LM a.1]
def Ll (V:Nat->Nat) (r:Nat) (al:List (Nat × Nat)) (j:Nat):Nat:=if (j,1)∈al then r else if (j,2)∈al then 0 else V j
def newF (al:List (Nat × Nat)):List Nat:=(List.range 6).filter fun j=>decide ((j,1)∈al)
def L8 (r:Nat) (js:List Nat):S:=js.flatMap fun j=>LM j::J8.dg r
def Lp (L:S):VM S:=if L=[] then [] else [(M9,L)]
theorem RL{al:List (Nat × Nat)} :j∈newF al ↔ j<6/\(j,1)∈al:=by simp[newF]
theorem Uj.len{V:Nat->Nat} {al:List (Nat × Nat)} (h:Uj V al):al.length<=6:=by
 have:=h.nd.length_le_of_subset (l₂:=[0,1,2,3,4,5]) (fun j hj=>by
  obtain ⟨a,ha,rfl⟩:=List.mem_map.1 hj;have:=h.lt a ha;simp;omega)
 simpa using this
theorem acu(r:Nat) (a:Nat × Nat):(KP r a).name=[LM a.1]:=by unfold KP;split<;>rfl
theorem akp{a:Nat × Nat} (ha:a.1<6) (h0:0<r) (h:r<=12):Mg (Me r a)=some (KP r a):=by
 unfold Me KP;split
 · exact aiz (Ya ha) (aaq h0 h)
 · exact acw (Ya ha)
theorem ZK(a:Nat × Nat) (h0:0<r) (h:r<=12):(Me r a).length<=120:=by
 unfold Me;split
 · have:=RH (c:=LM a.1) (aaq h0 h);simp;omega
 · simp
theorem XO(h0:0<r) (h:r<=12):∀ {al:List (Nat × Nat)},(∀ a∈al,a.1<6)->(al.map (Me r)).map Mg=(al.map (KP r)).map some
 | [],_=>rfl
 | a::al,ha=>by
   simp only[Cp];rw[akp (ha a (by simp)) h0 h,XO h0 h (fun b hb=>ha b (by simp[hb]))]
theorem UE(r:Nat) (al:List (Nat × Nat)):(al.map (KP r)).map Item.name=al.map fun a=>[LM a.1]:=by
 rw[Hb];exact List.map_congr_left fun a _=>acu r a
theorem QM{V:Nat->Nat} {al:List (Nat × Nat)} (h:Uj V al) (r:Nat):((al.map (KP r)).map Item.name).Nodup:=by
 rw[UE];have h1:=h.nd;have h2:=h.lt;clear h
 induction al with
 | nil=>exact IR
 | cons a al ih =>
   rw[Cp,List.nodup_cons] at h1 |-;refine ⟨fun m => ?_,ih h1.2 (fun b hb=>h2 b (by simp[hb]))⟩;obtain ⟨b,hb,e⟩:=List.mem_map.1 m;have e':LM b.1=LM a.1:=by simpa using e
   exact h1.1 (List.mem_map.2 ⟨b,hb,aa5 (h2 b (by simp[hb])) (h2 a (by simp)) e'⟩)
theorem ach{V:Nat->Nat} {al:List (Nat × Nat)} (h:Uj V al)  :Item.rem nm∈al.map (KP r) ↔ ∃ j,(j,2)∈al/\nm=[LM j]:=by
 rw[List.mem_map];constructor
 · rintro ⟨⟨j,t⟩,ha,e⟩;unfold KP at e;split at e
   · cases e
   · next g =>
     cases e;have:=(h.deed _ ha).resolve_left g;exact ⟨j,by rw[<- this.1];exact ha,rfl⟩
 · rintro ⟨j,ha,rfl⟩;exact ⟨(j,2),ha,by unfold KP;rw[Bm (by show ¬ (2:Nat)=1;decide)]⟩
theorem PO{al:List (Nat × Nat)} {t ve:S} {st:St}:Item.ins t nm ve st∈al.map (KP r) ↔ ∃ j,(j,1)∈al/\t=QT (LM j) (J8.dg r)/\nm=[LM j]/\ve=J8.dg r/\st=Wj (LM j) (J8.dg r):=by
 rw[List.mem_map];constructor
 · rintro ⟨⟨j,q⟩,ha,e⟩;unfold KP at e;split at e
   · next g=>cases e;exact ⟨j,by rw[<- show q=1 from g];exact ha,rfl,rfl,rfl,rfl⟩
   · cases e
 · rintro ⟨j,ha,rfl,rfl,rfl,rfl⟩;exact ⟨(j,1),ha,by unfold KP;rw[By rfl]⟩
theorem acH{al:List (Nat × Nat)}  (h:∀ a∈al,a.1<6) (hj:j<6):[LM j]∈al.map (fun a=>[LM a.1]) ↔ j∈al.map (·.1):=by
 constructor
 · intro m;obtain ⟨a,ha,e⟩:=List.mem_map.1 m;have e':LM a.1=LM j:=by simpa using e
   exact List.mem_map.2 ⟨a,ha,aa5 (h a ha) hj e'⟩
 · intro m;obtain ⟨a,ha,rfl⟩:=List.mem_map.1 m;exact List.mem_map.2 ⟨a,ha,rfl⟩
theorem Od{V:Nat->Nat}  (h:U7 V D)  {al:List (Nat × Nat)} (ha:Uj V al) (k:S) (d:PD) :
 get (Ko D (J5 (al.map (KP r))).R (J5 (al.map (KP r))).I) k=some d ↔ (∃ j,j<6/\(j,1)∈al/\k=[LM j]/\d=Oo j r 1) \/ ∃ j,j<6/\j ∉ al.map (·.1)/\0<V j/\k=[LM j]/\d=Oo j (V j) 2:=by
 rw[Ue h.Mt (QM ha r),h.get,UE];constructor
 · rintro (⟨t,ve,st,m,rfl⟩ | ⟨⟨j,hj,hv,rfl,rfl⟩,hn⟩)
   · obtain ⟨j,m1,rfl,rfl,rfl,rfl⟩:=PO.1 m;exact .inl ⟨j,ha.lt _ m1,m1,rfl,rfl⟩
   · exact .inr ⟨j,hj,fun q=>hn ((acH ha.lt hj).2 q),hv,rfl,rfl⟩
 · rintro (⟨j,hj,m,rfl,rfl⟩ | ⟨j,hj,hn,hv,rfl,rfl⟩)
   · exact .inl ⟨_,_,_,PO.2 ⟨j,m,rfl,rfl,rfl,rfl⟩,rfl⟩
   · exact .inr ⟨⟨j,hj,hv,rfl,rfl⟩,fun q=>hn ((acH ha.lt hj).1 q)⟩
theorem WE(hj:j<6):[LM j]∈[[LM 0],[LM 1],[LM 2],[LM 3],[LM 4],[LM 5]]:=by
 have:j=0\/j=1\/j=2\/j=3\/j=4\/j=5:=by omega
 rcases this with rfl | rfl | rfl | rfl | rfl | rfl<;>simp
theorem aii:∀ r,r<13->∀ v,v<r->0<v->0<(J8.compare (J8.dg r) (J8.dg v)).1:=by decide
theorem aiq{V:Nat->Nat}  (h:U7 V D)  (h12:r<=12) (hv:∀ j,j<6->V j<r) {al:List (Nat × Nat)} (ha:Uj V al):afZ D (al.map (KP r)):=by
 have hT:=Py h.Mt (J5 (al.map (KP r))).R (J5 (al.map (KP r))).I;refine ⟨fun nm m => ?_,fun t k ve st m o ho => ?_,?_,fun k d q => ?_,fun k d q => ?_⟩
 · obtain ⟨j,m2,rfl⟩:=(ach ha).1 m;have h0:0<V j:=by
    rcases ha.deed _ m2 with q | q
    · cases q
    · exact q.2
   rw[J9,(h.get _ _).2 ⟨j,ha.lt _ m2,h0,rfl,rfl⟩];rfl
 · obtain ⟨j,m1,rfl,rfl,rfl,rfl⟩:=PO.1 m;obtain ⟨i,hi,h0,e,rfl⟩:=(h.get _ _).1 ho;have e':LM j=LM i:=by simpa using e
   obtain rfl:=aa5 (ha.lt _ m1) hi e';exact aii r (by omega) _ (hv j hi) h0
 · have:=OJ hT (ks:=[[LM 0],[LM 1],[LM 2],[LM 3],[LM 4],[LM 5]]) (fun k q=>by
    rw[J9] at q;obtain ⟨d,hd⟩:=Option.isSome_iff_exists.1 q;rcases (Od h ha k d).1 hd with ⟨j,hj,_,rfl,_⟩ | ⟨j,hj,_,_,rfl,_⟩<;>exact WE hj)
   simp at this;omega
 · rcases (Od h ha k d).1 q with ⟨j,_,_,_,rfl⟩ | ⟨j,_,_,_,_,rfl⟩<;>rfl
 · rcases (Od h ha k d).1 q with ⟨j,_,_,rfl,rfl⟩ | ⟨j,_,_,_,rfl,rfl⟩<;>exact .inr rfl
theorem aif{α:Type} {p:S × α} {D:VM α} (hs:Ki (p::D)):del (p::D) p.1=D:=by
 obtain ⟨g1,g2⟩:=List.pairwise_cons.1 hs;have e2:del (p::D) p.1=del D p.1:=by unfold del;rw[List.filter_cons_of_neg (by simp)]
 rw[e2];unfold del;rw[List.filter_eq_self];intro q hq;have : ¬ q.1=p.1:=fun e=>by have:=g1 q hq;rw[e,Lx] at this;cases this
 simp[this]
theorem Wo:∀ (n:Nat) (D:VM PD),Ki D->D.length=n->(∀ k d,get D k=some d->d.st.needs=[])->Oy Km n D=J3 D
 | 0,D,_,hn,_=>by
   cases D with
   | nil=>rfl
   | cons p D=>simp at hn
 | n+1,D,hs,hn,h=>by
   cases D with
   | nil=>simp at hn
   | cons p D =>
     have hp:pick Km (p::D)=p.1:=by
      have hg:get (p::D) p.1=some p.2:=(get_some hs).2 (by simp);have hf:Km (p::D) p.1=true:=by
       unfold Km;rw[hg];simp[Vu,h p.1 p.2 hg]
      unfold pick;have:(J3 (p::D)).find? (Km (p::D))=some p.1:=by
       simp[J3,hf]
      rw[this]
     rw[Oy,hp,aif hs,Wo n D (List.pairwise_cons.1 hs).2 (by simpa using hn) (fun k d q=>h k d ?_)]
     · rfl
     · rw[get_some hs];exact List.mem_cons_of_mem _ ((get_some (List.pairwise_cons.1 hs).2).1 q)
theorem aex(hs:Ki D) (h:∀ k d,get D k=some d->d.st.needs=[]):order Km D=J3 D:=Wo _ D hs rfl h
theorem al6{i:Nat} (hi:i<6) (hj:j<6) (h:i<j):bytesBefore [LM i] [LM j]=true:=by
 have hi':i=0\/i=1\/i=2\/i=3\/i=4\/i=5:=by omega
 have hj':j=0\/j=1\/j=2\/j=3\/j=4\/j=5:=by omega
 rcases hi' with rfl | rfl | rfl | rfl | rfl | rfl<;>rcases hj' with rfl | rfl | rfl | rfl | rfl | rfl<;>first | omega | decide
theorem R6{α:Type}  (f:Nat->α) (h6:∀ j∈js,j<6) (hp:js.Pairwise (· < ·)):Ki (js.map fun j=>([LM j],f j)):=by
 unfold Ki;rw[List.pairwise_map]
 induction js with
 | nil=>exact IR
 | cons a js ih =>
   obtain ⟨x,y⟩:=List.pairwise_cons.1 hp;exact List.pairwise_cons.2 ⟨fun b hb=>al6 (h6 a (by simp)) (h6 b (by simp[hb])) (x b hb),ih (fun j hj=>h6 j (by simp[hj])) y⟩
theorem akA(al:List (Nat × Nat)):(newF al).Pairwise (· < ·):=List.Pairwise.filter _ List.pairwise_lt_range
theorem akg{V:Nat->Nat} {al:List (Nat × Nat)} (ha:Uj V al) (r:Nat):(J5 (al.map (KP r))).I=(newF al).map fun j=>([LM j],Oo j r 1):=by
 have hok:=Oe _ (QM ha r);have hs:=R6 (fun j=>Oo j r 1) (fun j hj=>(RL.1 hj).1) (akA al);refine hok.sI.Lr hs fun k=>Option.ext fun d => ?_
 rw[hok.WR,get_some hs];constructor
 · rintro ⟨t,ve,st,m,rfl⟩;obtain ⟨j,m1,rfl,rfl,rfl,rfl⟩:=PO.1 m;exact List.mem_map.2 ⟨j,RL.2 ⟨ha.lt _ m1,m1⟩,rfl⟩
 · intro m;obtain ⟨j,hj,e⟩:=List.mem_map.1 m;cases e;exact ⟨_,_,_,PO.2 ⟨j,(RL.1 hj).2,rfl,rfl,rfl,rfl⟩,rfl⟩
theorem Zy{T:VM PD} (W:S->S):∀ (l:List S) (G:VM S),Ki G->(∀ x∈l,∃ d,get T x=some d/\d.st.runs=[⟨2,M9,W x,[]⟩])->PN T l G=if l=[] then G else put G M9 ((get G M9).getD []++(l.map W).flatten)
 | [],G,_,_=>by simp[PN]
 | x::l,G,hG,h=>by
   obtain ⟨d,hd,hr⟩:=h x (by simp);have e:PN T (x::l) G=PN T l (put G M9 ((get G M9).getD []++W x)):=by
    show PN T l (match get T x with | none=>G | some d=>MG T [] G d.st.runs)=_;rw[hd];show PN T l (MG T [] G d.st.runs)=_;rw[hr];rfl
   rw[e,Zy W l _ (hG.put _ _) (fun y hy=>h y (by simp[hy]))];simp only[List.cons_ne_nil,if_false];by_cases hl:l=[]
   · subst hl;simp
   · rw[Bm hl,Ka hG];simp only[DE,Cp,List.flatten_cons];refine ((hG.put _ _).put _ _).Lr (hG.put _ _) fun n => ?_
     by_cases q:n=M9
     · subst q;rw[Ka (hG.put _ _),Ka hG,FF]
     · rw[J7 (hG.put _ _) _ q,J7 hG _ q,J7 hG _ q]
theorem PW(L:S):Ki (Lp L):=by unfold Lp;split<;>simp[Ki]
theorem aiI(L:S):(get (Lp L) M9).getD []=L:=by
 unfold Lp;split
 · next h=>subst h;rfl
 · simp[get]
theorem aiK(L M:S) (h:M≠[]):put (Lp L) M9 M=Lp M:=by
 have e:Lp M=[(M9,M)]:=by unfold Lp;rw[Bm h]
 rw[e];unfold Lp;split
 · rfl
 · simp[put,del,ins]
theorem Vo(h:L.length<=200):NW (Lp L)=true:=by
 unfold Lp;split
 · rfl
 · simp[NW,h]
theorem aiJ(L:S):(Lp L).length<=1:=by unfold Lp;split<;>simp
theorem aej(h:L.length<=200):Short 200 (Lp L):=(RF (PW L) (Vo h)).2
theorem akt(L:S):GK (Lp L):=fun k x q=>by
 have:=(get_some (PW L)).1 q;unfold Lp at this;split at this
 · cases this
 · simp only[DQ,Prod.mk.injEq] at this;rw[this.1];decide
theorem X9(r:Nat) (js:List Nat):((js.map fun j=>[LM j]).map fun x=>x++J8.dg r).flatten=L8 r js:=by
 induction js with
 | nil=>rfl
 | cons j js ih =>
   simp only[L8,Cp,List.flatten_cons,Fc] at ih |-;rw[ih];rfl
theorem agJ(h:js≠[]):L8 r js≠[]:=by
 cases js with
 | nil=>exact absurd rfl h
 | cons j js=>simp[L8]
theorem aei(r:Nat) (js:List Nat) (k:Nat):(L8 r (js.take k)).length<=(L8 r js).length:=by
 have e:L8 r js=L8 r (js.take k)++L8 r (js.drop k):=by unfold L8;rw[<- Do,List.take_append_drop]
 rw[e,AS];omega
theorem U7.fine{V:Nat->Nat}  (h:U7 V D) (hV:∀ j,j<6->V j<=12):Lf D:=by
 refine ⟨fun k d q => ?_, .inr fun k d q => ?_⟩
 · obtain ⟨j,hj,h0,rfl,rfl⟩:=(h.get k d).1 q;exact ⟨rfl,VB (Ya hj) (aaq h0 (hV j hj))⟩
 · obtain ⟨j,hj,h0,rfl,rfl⟩:=(h.get k d).1 q;exact Yg _ _
theorem U7.len{V:Nat->Nat}  (h:U7 V D):D.length<=6:=by
 have:=OJ h.Mt (ks:=[[LM 0],[LM 1],[LM 2],[LM 3],[LM 4],[LM 5]]) (fun k q=>by
  rw[J9] at q;obtain ⟨d,hd⟩:=Option.isSome_iff_exists.1 q;obtain ⟨j,hj,_,rfl,_⟩:=(h.get k d).1 hd;exact WE hj)
 simpa using this
theorem U7.texts{V:Nat->Nat}  (h:U7 V D) (hV:∀ j,j<6->V j<=12):LG D<=660:=by
 have h1:=h.len;have h2:=afK (b:=110) D (fun p hp=>by
  obtain ⟨j,hj,h0,_,e⟩:=(h.get p.1 p.2).1 ((get_some h.Mt).2 hp);rw[e];exact RH (aaq h0 (hV j hj)))
 omega
theorem agx{V:Nat->Nat}   (h:U7 V D)  (h0:0<r) (h12:r<=12) (hv:∀ j,j<6->V j<r) {al:List (Nat × Nat)} (ha:Uj V al) (hne:al≠[]) (hL:(L++L8 r (newF al)).length<=200) :
 ∃ pl D',check 300 D (Lp L) (al.map (Me r)) = .ok pl/\0<pl.steps.length/\(∀ s,wish (al.map (Me r)) = .ok s->∀ k d,get s.I k=some d->KX d.st.runs/\KX d.st.Kn)/\Kc pl (KG D pl.Le,Lp L) pl.steps=(D',Lp (L++L8 r (newF al)))/\U7 (Ll V r al) D':=by
 have hnd:=QM ha r;have hok:=Oe _ hnd;have hw:wish (al.map (Me r)) = .ok (J5 (al.map (KP r))):=by
  refine Uh (XO h0 h12 ha.lt) hnd ?_ ?_
  · rw[DH];cases al with
    | nil=>exact absurd rfl hne
    | cons a l=>simp
  · rw[DH];exact ha.len
 have hf:=aiq h h12 hv ha;have hT:=Py h.Mt (J5 (al.map (KP r))).R (J5 (al.map (KP r))).I;have rx:∀ x d,get (Ko D (J5 (al.map (KP r))).R (J5 (al.map (KP r))).I) x=some d->d.st.needs=[]:=fun x d q=>by
  rcases (Od h ha x d).1 q with ⟨j,_,_,_,rfl⟩ | ⟨j,_,_,_,_,rfl⟩<;>rfl
 have rK:∀ x d,get (Ko D (J5 (al.map (KP r))).R (J5 (al.map (KP r))).I) x=some d->d.st.wakes=[]:=fun x d q=>by
  rcases (Od h ha x d).1 q with ⟨j,_,_,_,rfl⟩ | ⟨j,_,_,_,_,rfl⟩<;>rfl
 have href:=RV h.Mt hnd hf (fun k d q m hm=>by rw[rx k d q] at hm;cases hm);have xA:(KC D (J5 (al.map (KP r))).R (J5 (al.map (KP r))).I).Le=[]:=aau rK hT _;have jC:order Km (J5 (al.map (KP r))).I=(newF al).map fun j=>[LM j]:=by
  rw[aex hok.sI (fun k d q=>by
   obtain ⟨t,ve,st,m,rfl⟩:=(hok.WR k d).1 q;obtain ⟨j,_,rfl,rfl,rfl,rfl⟩:=PO.1 m;rfl),akg ha r]
  simp[J3,List.map_map,Function.comp_def]
 have gu:∀ js,(∀ j∈js,j∈newF al)->PN (Ko D (J5 (al.map (KP r))).R (J5 (al.map (KP r))).I) (js.map fun j=>[LM j]) (Lp L)=Lp (L++L8 r js):=fun js hjs=>by
  rw[Zy (fun x=>x++J8.dg r) _ _ (PW L) (fun x hx=>by
   obtain ⟨j,hj,rfl⟩:=List.mem_map.1 hx;obtain ⟨j6,jm⟩:=RL.1 (hjs j hj);exact ⟨_,(Od h ha _ _).2 (.inl ⟨j,j6,jm,rfl,rfl⟩),rfl⟩)]
  by_cases hj:js=[]
  · subst hj;simp[L8]
  · rw[Bm (by simpa using hj),aiI,X9,aiK];intro e;exact agJ (r:=r) hj (List.append_eq_nil_iff.1 e).2
 have sx:L.length<=200:=by rw[AS] at hL;omega
 have hover:=TQ (D:=D) (G:=Lp L) (R:=(J5 (al.map (KP r))).R) (I:=(J5 (al.map (KP r))).I) h.Mt (PW L) hok.sI (Vo sx) (fun k _=>by
  rw[jC,<- List.map_take,gu _ (fun j hj=>GT hj)];refine Vo ?_;have:=aei r (newF al) (k+1);rw[AS] at hL |-;omega) (fun k hk'=>by
  rw[xA] at hk';simp[J3] at hk')
 have hsmall:Oj 300 D (al.map (Me r))=false:=by
  refine Yy ?_;have h1:=h.texts (fun j hj=>by have:=hv j hj;omega);have h2:=Ud (b:=120) (al.map (Me r)) (fun x hx=>by obtain ⟨a,_,rfl⟩:=List.mem_map.1 hx;exact ZK a h0 h12);have h3:=ha.len;rw[DH] at h2;omega
 have hst:∀ k d,get D k=some d->d.status=2:=fun k d q=>by
  obtain ⟨j,_,_,_,rfl⟩:=(h.get k d).1 q;rfl
 have hrun:=VG (D:=D) (G:=Lp L) (R:=(J5 (al.map (KP r))).R) (I:=(J5 (al.map (KP r))).I) h.Mt (PW L) hok.sI hst;refine ⟨_,_,Xv hw href hover hsmall,?_,?_,hrun.trans (Prod.ext rfl ?_),?_⟩
 · rw[R7];obtain ⟨⟨j,t⟩,hm⟩:∃ a,a∈al:=by
    cases al with
    | nil=>exact absurd rfl hne
    | cons a l=>exact ⟨a,by simp⟩
   have Er:=ha.lt _ hm;rcases ha.deed _ hm with q | ⟨q,hv0⟩
   · have q:t=1:=q;subst q;have:0<(order Km (J5 (al.map (KP r))).I).length:=by
      rw[jC,DH];exact List.length_pos_of_mem (RL.2 ⟨Er,hm⟩)
     simp only[AS,DH];omega
   · have q:t=2:=q;subst q;have:0<(order KS (leaveD D (J5 (al.map (KP r))).R)).length:=by
      refine List.length_pos_of_mem (a:=[LM j]) ((LH KS (Nn h.Mt _) _).2 ?_);rw[J9,Nl h.Mt,By ((hok.ag4 _).2 ((ach ha).2 ⟨j,hm,rfl⟩)),(h.get _ _).2 ⟨j,Er,hv0,rfl,rfl⟩];rfl
     simp only[AS,DH];omega
 · intro s hs k d q;rw[hw] at hs;cases hs;obtain ⟨t,ve,st,m,rfl⟩:=(hok.WR k d).1 q;obtain ⟨j,_,_,_,_,rfl⟩:=PO.1 m;exact Yg _ _
 · show aan _ _ _ _=_;rw[jC,gu _ (fun j hj=>hj),xA];rfl
 · refine ⟨hT.map fun d:PD=>d.to 2,fun k d => ?_⟩;rw[get_map (Ko D (J5 (al.map (KP r))).R (J5 (al.map (KP r))).I) (fun d:PD=>d.to 2)];constructor
   · intro q;cases q2:get (Ko D (J5 (al.map (KP r))).R (J5 (al.map (KP r))).I) k with
     | none=>rw[q2] at q;cases q
     | some d0 =>
       rw[q2] at q;cases q;rcases (Od h ha k d0).1 q2 with ⟨j,hj,hm,rfl,rfl⟩ | ⟨j,hj,hn,hv0,rfl,rfl⟩
       · have e:Ll V r al j=r:=by unfold Ll;rw[By hm]
         exact ⟨j,hj,by rw[e];exact h0,rfl,by rw[e];rfl⟩
       · have e:Ll V r al j=V j:=by
          unfold Ll;rw[Bm fun q=>hn (List.mem_map.2 ⟨_,q,rfl⟩),Bm fun q=>hn (List.mem_map.2 ⟨_,q,rfl⟩)]
         exact ⟨j,hj,by rw[e];exact hv0,rfl,by rw[e];rfl⟩
   · rintro ⟨j,hj,hx,rfl,rfl⟩;by_cases m1:(j,1)∈al
     · have e:Ll V r al j=r:=by unfold Ll;rw[By m1]
       rw[e,(Od (r:=r) h ha [LM j] _).2 (.inl ⟨j,hj,m1,rfl,rfl⟩)];rfl
     · by_cases m2:(j,2)∈al
       · have e:Ll V r al j=0:=by unfold Ll;rw[Bm m1,By m2]
         omega
       · have e:Ll V r al j=V j:=by unfold Ll;rw[Bm m1,Bm m2]
         rw[e] at hx |-;have hn:j ∉ al.map (·.1):=fun q=>by
          obtain ⟨⟨i,t⟩,ha',rfl⟩:=List.mem_map.1 q;rcases ha.deed _ ha' with q | ⟨q,_⟩
          · have q:t=1:=q;subst q;exact m1 ha'
          · have q:t=2:=q;subst q;exact m2 ha'
         rw[(Od (r:=r) h ha [LM j] _).2 (.inr ⟨j,hj,hn,hx,rfl,rfl⟩)];rfl
theorem RN{V:Nat->Nat}  {al:List (Nat × Nat)} (hv:∀ j,j<6->V j<r):∀ j,j<6->Ll V r al j<r+1:=fun j hj=>by
 have:=hv j hj;unfold Ll;split
 · omega
 · split<;>omega
def Mf (V:Nat->Nat):VM PD:=((List.range 6).filter fun j=>decide (0<V j)).map fun j=>([LM j],Oo j (V j) 2)
theorem U7.eq{V:Nat->Nat}  (h:U7 V D):D=Mf V:=by
 have hs:=R6 (js:=(List.range 6).filter fun j=>decide (0<V j)) (fun j=>Oo j (V j) 2) (fun j hj=>by simp at hj;exact hj.1) (List.Pairwise.filter _ List.pairwise_lt_range);refine h.Mt.Lr hs fun k=>Option.ext fun d => ?_
 rw[h.get];unfold Mf;rw[get_some hs,List.mem_map];constructor
 · rintro ⟨j,hj,hv,rfl,rfl⟩;exact ⟨j,by simp[hj,hv],rfl⟩
 · rintro ⟨j,hj,e⟩;cases e;simp at hj;exact ⟨j,hj.1,hj.2,rfl,rfl⟩
end Hv
end
section
open Go.RowKit
open Hv (S Dk VM)
def Nr:S:=List.replicate 256 0
structure aaB (B:Nat) (k:Nat) (no mo:Option Addr) (nc mc:Nat) (w wr:World):Prop where
 blk:wr.heap[B]? = some (.cells #[.slice no k nc, .slice mo k mc, .int .i64 0, .int .i64 (-1), .bool false, .slice none 0 0, .int .i64 0, .slice none 0 0, .int .i64 0] 42 (0,0))
 now:wr.ownsRow (B+1) 9 1 (.slice no k nc) k (List.replicate k (Kl Nr))
 may:wr.ownsRow (B+1) 31 1 (.slice mo k mc) k (List.replicate k (.slice none 0 0))
 K7:Below B w wr
 size:B+1<=wr.heap.size
theorem Yr{α:Type} (k:Nat) (x:α):List.replicate (k+1) x=List.replicate k x++[x]:=List.replicate_succ'
theorem aaB.ajb{no no':Option Addr} {ZT:Nat}   (h:aaB B k no mo nc mc w wr) (hg:(wr.alloc o).grownBy w4 (Value.slice no k nc).ownBlock) (hown:w4.ownsRow (B+1) 9 1 (.slice no' (k+1) ZT) (k+1) (List.replicate k (Kl Nr)++[Kl Nr])) :
 (w4.setCell ⟨B,0,none⟩ (.slice no' (k+1) ZT)).heap[B]? = some (.cells #[.slice no' (k+1) ZT, .slice mo k mc, .int .i64 0, .int .i64 (-1), .bool false, .slice none 0 0, .int .i64 0, .slice none 0 0, .int .i64 0] 42 (0,0))/\(w4.setCell ⟨B,0,none⟩ (.slice no' (k+1) ZT)).ownsRow (B+1) 9 1 (.slice no' (k+1) ZT) (k+1) (List.replicate (k+1) (Kl Nr))/\(w4.setCell ⟨B,0,none⟩ (.slice no' (k+1) ZT)).ownsRow (B+1) 31 1 (.slice mo k mc) k (List.replicate k (.slice none 0 0))/\Below B w (w4.setCell ⟨B,0,none⟩ (.slice no' (k+1) ZT))/\B+1<=(w4.setCell ⟨B,0,none⟩ (.slice no' (k+1) ZT)).heap.size:=by
 have hs:=h.size;have hk:∀ q,q<wr.heap.size->(Value.slice no k nc).ownBlock≠some q->w4.heap[q]? = wr.heap[q]? := fun q hq hne=>(hg.block q (by simp;omega) (fun e=>hne e.symm)).trans (AM _ _ _ hq)
 have hlo:∀ q,q<B+1->(Value.slice no k nc).ownBlock≠some q:=fun q hq e=>by have:=(h.now.lt q e).1;omega
 have hsz:wr.heap.size<=w4.heap.size:=Bi (by simp) hg.size;refine ⟨AI _ _ 0 _ _ _ ((hk B (blt h.blk) (hlo _ (by omega))).trans h.blk),?_,?_,?_,by simp[World.setCell];omega⟩
 · rw[Yr];exact KT hown (fun e=>by have:=(hown.lt _ e).1;omega)
 · refine KT (Kg h.may fun g hgb=>hk g (h.may.lt g hgb).2 (fun e=>N7 h.now h.may (by decide) e hgb)) (fun e=>by have:=(h.may.lt _ e).1;omega)
 · refine Below.setCell (p:=⟨B,0,none⟩) ?_ (AC _) _;exact (h.K7.alloc (by omega) o).grown hg (by simp;omega) (fun q hq=>by have:=(h.now.lt q hq).1;omega)
theorem aaB.aja{no mo':Option Addr} {mc':Nat}  
 (hblk:wr.heap[B]? = some (.cells #[.slice no j nc, .slice mo k mc, .int .i64 0, .int .i64 (-1), .bool false, .slice none 0 0, .int .i64 0, .slice none 0 0, .int .i64 0] 42 (0,0)))
 (cg:wr.ownsRow (B+1) 9 1 (.slice no j nc) j (List.replicate j (Kl Nr))) (aW:wr.ownsRow (B+1) 31 1 (.slice mo k mc) k (List.replicate k (.slice none 0 0))) (aR:Below B w wr) (hs:B+1<=wr.heap.size) (hj:j=k+1)
 (hg:(wr.alloc o).grownBy w4 (Value.slice mo k mc).ownBlock) (hown:w4.ownsRow (B+1) 31 1 (.slice mo' (k+1) mc') (k+1) (List.replicate k (.slice none 0 0)++[.slice none 0 0])) :
 aaB B (k+1) no mo' nc mc' w (w4.setCell ⟨B,1,none⟩ (.slice mo' (k+1) mc')):=by
 subst hj;have hk:∀ q,q<wr.heap.size->(Value.slice mo k mc).ownBlock≠some q->w4.heap[q]? = wr.heap[q]? := fun q hq hne=>(hg.block q (by simp;omega) (fun e=>hne e.symm)).trans (AM _ _ _ hq)
 have hlo:∀ q,q<B+1->(Value.slice mo k mc).ownBlock≠some q:=fun q hq e=>by have:=(aW.lt q e).1;omega
 have hsz:wr.heap.size<=w4.heap.size:=Bi (by simp) hg.size;refine ⟨AI _ _ 1 _ _ _ ((hk B (blt hblk) (hlo _ (by omega))).trans hblk),?_,?_,?_,by simp[World.setCell];omega⟩
 · refine KT (Kg cg fun g hgb=>hk g (cg.lt g hgb).2 (fun e=>N7 aW cg (by decide) e hgb)) (fun e=>by have:=(cg.lt _ e).1;omega)
 · rw[Yr];exact KT hown (fun e=>by have:=(hown.lt _ e).1;omega)
 · refine Below.setCell (p:=⟨B,1,none⟩) ?_ (AC _) _;exact (aR.alloc (by omega) o).grown hg (by simp;omega) (fun q hq=>by have:=(aW.lt q hq).1;omega)
theorem akv(w:World):(Instr.makeSlice 53 (.int .i64 256) (.int .i64 256)).run Tryz.prog w = .ok (.slice (some ⟨w.heap.size,0,none⟩) 256 256) (w.alloc (.cells (Array.replicate 256 (.int .u8 0)) 5)):=by kernel_rfl
theorem ahG(W:World):(convert 53 9 (.slice (some ⟨W.heap.size,0,none⟩) 256 256)).run Tryz.prog (W.alloc (.cells (Array.replicate 256 (.int .u8 0)) 5)) = .ok (.string ⟨Nr.toArray⟩) (W.alloc (.cells (Array.replicate 256 (.int .u8 0)) 5)):=by
 have h:=run_convert_bytes_back (P:=Tryz.prog) (W.alloc (.cells (Array.replicate 256 (.int .u8 0)) 5)) 53 9 5 ⟨W.heap.size,0,none⟩ 256 Nr Tryz.underlying53 Tryz.underlying5 IT ?_
 · exact h
 intro j hj;have hadd:(⟨W.heap.size,0,none⟩:Addr).add j=⟨W.heap.size,j,none⟩:=by unfold Addr.add;split<;>simp_all
 have hj':j<256:=by simpa [Nr] using hj
 have hz:∀ h,(Nr[j]'h)=0:=fun h=>by simp only[Nr,List.getElem_replicate]
 rw[hadd,JZ (AF W _),Array.getElem?_replicate,By hj'];exact IN (fun c:UInt8=>some (Value.int .u8 (c.toNat:Int))) (hz hj).symm
theorem ZH:(Tryz.prog.info? 31).map (fun i=>(i.zero,i.size,i.bytes))=some (some (.slice none 0 0),1,24):=by kernel_rfl
namespace Hv
structure Fl where
 p:Option Addr
 n:Nat
 c:Nat
 f:Nat->Int
structure Dx where
 now:List S
 may:List (List S)
 wr:Nat
 calls:Nat
 after:Int
 gone:Bool
 fl:Fl
 bad:List (Int × Int × Int)
 worst:Int
def Dx.rb (d:Dx):Nat:=match d.fl.p with | some a=>a.block | none=>0
def isB (k n:Int) (e:Int × Int × Int):Bool:=e.1==k&&e.2.1==n
def Xz (k n:Int) (l:List (Int × Int × Int)):Int:=l.foldl (fun c e=>if isB k n e=true then e.2.2 else c) 0
def cnt (d:Dx) (k n:Int):Int:=Xz k n d.bad
def Oi (k n:Int) (l:List (Int × Int × Int)):List (Int × Int × Int):=l.filter fun e => !isB k n e
def Dx.fails (d:Dx) (k n:Int):Dx:={ d with bad:=Oi k n d.bad++[(k,n,cnt d k n+1)],worst:=max d.worst (cnt d k n+1) }
def Dx.fine (d:Dx) (k n:Int):Dx:={ d with bad:=Oi k n d.bad }
def Dx.hit (d:Dx):Bool:=decide (0<d.fl.n)&&decide (d.fl.f ((d.calls+1)%d.fl.n)=1)
def Dx.call (d:Dx) (k n:Int):Dx × Int :=
 if d.gone=true then (d,17) else if 0<=d.after/\d.after<=(d.calls:Int) then ({ d with gone:=true },17)
 else if d.hit=true then (({ d with calls:=d.calls+1 }:Dx).fails k n,16) else (({ d with calls:=d.calls+1 }:Dx).fine k n,0)
def Dx.write (d:Dx) (n:Nat) (x:S):Dx:={ d with now:=d.now.set n x,may:=d.may.set n ((if d.may.getD n []=[] then [d.now.getD n []] else d.may.getD n [])++[x]),wr:=d.wr+1 }
def Dx.flush (d:Dx):Dx:={ d with may:=d.now.map fun _=>[] }
end Hv
open Hv (S Dx)
def SK (e:Int × Int × Int):List Value:=[.int .u8 e.1, .int .i64 e.2.1, .int .i64 e.2.2]
def Xh (w:World) (bv:Value) (l:List (Int × Int × Int)):Prop:=w.ownsRow 0 423 3 bv l.length (l.flatMap SK)
def Xb (nb aq mb ak:Nat) (d:Dx) (bv:Value):Array Value :=
 #[.slice (some ⟨nb,0,none⟩) d.now.length aq, .slice (some ⟨mb,0,none⟩) d.now.length ak, .int .i64 d.calls, .int .i64 d.after, .bool d.gone, .slice d.fl.p d.fl.n d.fl.c, .int .i64 d.wr,bv, .int .i64 d.worst]
def adC (w:World) (f:Hv.Fl):Prop:=f.n<=maxLen/\∀ i,i<f.n->∃ a,f.p=some a/\w.cell? (a.add i)=some (.int .i64 (f.f i))
structure Nt (C:Nat->Prop) (db:Nat) (d:Dx) (nb aq mb ak:Nat) (vs:List Value) (bv:Value) (w:World):Prop where
 blk:w.heap[db]? = some (.cells (Xb nb aq mb ak d bv) 42 (0,0))
 now:w.ownsRow 0 9 1 (.slice (some ⟨nb,0,none⟩) d.now.length aq) d.now.length (strs d.now)
 may:w.ownsRow 0 31 1 (.slice (some ⟨mb,0,none⟩) d.now.length ak) d.now.length vs
 len:d.may.length=d.now.length
 each:∀ (i:Nat) (v:Value),vs[i]? = some v->Strs w v (d.may.getD i [])
 apart:∀ (i j:Nat) (v u:Value) (g:Nat),i≠j->vs[i]? = some v->vs[j]? = some u->v.ownBlock=some g->u.ownBlock≠some g
 bad:Xh w bv d.bad
 fl:adC w d.fl
 Td:C db/\C nb/\C mb/\(∀ (i:Nat) (v:Value) (g:Nat),vs[i]? = some v->v.ownBlock=some g->C g)/\∀ g,bv.ownBlock=some g->C g
 off:db≠nb/\db≠mb/\nb≠mb/\(∀ (i:Nat) (v:Value) (g:Nat),vs[i]? = some v->v.ownBlock=some g->g≠db/\g≠nb/\g≠mb)/\∀ g,bv.ownBlock=some g->(g≠db/\g≠nb/\g≠mb)/\∀ (i:Nat) (v:Value),vs[i]? = some v->v.ownBlock≠some g
 rb : ¬ C d.rb/\d.rb<w.heap.size
 lt:∀ k,C k->k<w.heap.size
 few:d.calls<1000000000000/\d.wr<=d.calls
 cts:d.bad.length<=d.calls/\∀ e∈d.bad,0<=e.2.2/\e.2.2<=d.calls
def Kq (C:Nat->Prop) (db:Nat) (d:Dx) (w:World):Prop:=∃ nb aq mb ak vs bv,Nt C db d nb aq mb ak vs bv w
theorem Xh.kept{l:List (Int × Int × Int)} (h:Xh w bv l) (hb:∀ g,bv.ownBlock=some g->w'.heap[g]? = w.heap[g]?):Xh w' bv l:=Kg h hb
theorem Vd(k n:Int) (l:List (Int × Int × Int)) (e:Int × Int × Int):Hv.Xz k n (l++[e])=if Hv.isB k n e=true then e.2.2 else Hv.Xz k n l:=by simp[Hv.Xz]
theorem TV(k n:Int) (l:List (Int × Int × Int)) (e:Int × Int × Int):Hv.Oi k n (l++[e])=if Hv.isB k n e=true then Hv.Oi k n l else Hv.Oi k n l++[e]:=by
 unfold Hv.Oi;rw[Fs];split
 · next h=>simp[h]
 · next h=>simp[h]
theorem aaG{k n B:Int}:∀ (l:List (Int × Int × Int)) (c:Int),0<=c->c<=B->(∀ e∈l,0<=e.2.2/\e.2.2<=B)->0<=l.foldl (fun c e=>if Hv.isB k n e=true then e.2.2 else c) c/\l.foldl (fun c e=>if Hv.isB k n e=true then e.2.2 else c) c<=B
 | [],c,h0,h1,_=>⟨h0,h1⟩
 | e::l,c,h0,h1,h=>by
   rw[List.foldl_cons];have he:=h e (by simp);split
   · exact aaG l _ he.1 he.2 (fun x hx=>h x (by simp[hx]))
   · exact aaG l _ h0 h1 (fun x hx=>h x (by simp[hx]))
theorem VE(k n:Int) (l:List (Int × Int × Int)):(Hv.Oi k n l).length<=l.length:=List.length_filter_le _ _
theorem add_block(a:Addr) (i:Nat):(a.add i).block=a.block:=by unfold Addr.add;split<;>rfl
theorem adC.kept{d:Dx} (h:adC w d.fl) (hb:w'.heap[d.rb]? = w.heap[d.rb]?):adC w' d.fl:=⟨h.1,fun i hi=>by
 obtain ⟨a,e,c⟩:=h.2 i hi;refine ⟨a,e,(Be ?_).trans c⟩;rw[add_block];simpa [Dx.rb,e] using hb⟩
theorem Strs.kept{v:Value} {xs:List S} (h:Strs w v xs) (hb:∀ g,v.ownBlock=some g->w'.heap[g]? = w.heap[g]?):Strs w' v xs:=by
 rcases h with h | ⟨h1,h2⟩
 · exact .inl h
 · exact .inr ⟨h1,Kg h2 hb⟩
theorem Nt.kept{nb:Nat} {d:Dx}    (h:Nt C db d nb aq mb ak vs bv w) (hs:w.heap.size<=w'.heap.size) (hk:∀ k,C k\/k=d.rb->w'.heap[k]? = w.heap[k]?):Nt C db d nb aq mb ak vs bv w':=by
 obtain ⟨c1,c2,c3,c4,c5⟩:=h.Td;exact ⟨(hk db (.inl c1)).trans h.blk,Kg h.now (fun g hg=>by cases hg;exact hk _ (.inl c2)),Kg h.may (fun g hg=>by cases hg;exact hk _ (.inl c3)),h.len,fun i v hv=>(h.each i v hv).kept fun g hg=>hk g (.inl (c4 i v g hv hg)),h.apart,h.bad.kept fun g hg=>hk g (.inl (c5 g hg)),h.fl.kept (hk _ (.inr rfl)),h.Td,h.off,⟨h.rb.1,B3 h.rb.2 hs⟩,fun k q=>B3 (h.lt k q) hs,h.few,h.cts⟩
theorem Nt.far{D:Nat->Prop} {nb:Nat} {d:Dx}     (h:Nt C db d nb aq mb ak vs bv w) (hf:Kj B D w w') (hB:w.heap.size<=B) (hD:∀ k,C k\/k=d.rb -> ¬ D k):Nt C db d nb aq mb ak vs bv w' :=
 h.kept hf.size fun k hk=>hf.block k (by rcases hk with q | q;exact B3 (h.lt k q) hB;exact q▸B3 h.rb.2 hB) (hD k hk)
theorem Nt.drew{nb:Nat} {d:Dx}    (h:Nt C db d nb aq mb ak vs bv w):Nt C db d nb aq mb ak vs bv w.drew:=h.kept (AC _) fun _ _=>rfl
theorem Nt.cells{nb:Nat} {d:Dx}    (h:Nt C db d nb aq mb ak vs bv w) :
 w.cell? ⟨db,0,none⟩=some (.slice (some ⟨nb,0,none⟩) d.now.length aq)/\w.cell? ⟨db,1,none⟩=some (.slice (some ⟨mb,0,none⟩) d.now.length ak)/\w.cell? ⟨db,2,none⟩=some (.int .i64 d.calls)/\w.cell? ⟨db,3,none⟩=some (.int .i64 d.after)/\w.cell? ⟨db,4,none⟩=some (.bool d.gone) /\
  w.cell? ⟨db,5,none⟩=some (.slice d.fl.p d.fl.n d.fl.c)/\w.cell? ⟨db,6,none⟩=some (.int .i64 d.wr)/\w.cell? ⟨db,7,none⟩=some bv/\w.cell? ⟨db,8,none⟩=some (.int .i64 d.worst)/\∀ j,w.frozen? ⟨db,j,none⟩=false :=
 ⟨(JZ h.blk 0).trans rfl,(JZ h.blk 1).trans rfl,(JZ h.blk 2).trans rfl,(JZ h.blk 3).trans rfl,(JZ h.blk 4).trans rfl,(JZ h.blk 5).trans rfl,(JZ h.blk 6).trans rfl,(JZ h.blk 7).trans rfl,(JZ h.blk 8).trans rfl,J2 h.blk⟩
theorem Nt.top{nb:Nat} {d d':Dx}    (h:Nt C db d nb aq mb ak vs bv w) (j:Nat) (u:Value) (h1:d'.now=d.now) (h2:d'.may=d.may) (h3:d'.fl=d.fl) (h4:d'.bad=d.bad) (hc:(Xb nb aq mb ak d bv).setIfInBounds j u=Xb nb aq mb ak d' bv) (hf:d'.calls<1000000000000/\d'.wr<=d'.calls) (hcl:d.calls<=d'.calls:=by first | exact AC _ | simp) :
 Nt C db d' nb aq mb ak vs bv (w.setCell ⟨db,j,none⟩ u):=by
 obtain ⟨o1,o2,o3,o4,o5⟩:=h.off;have hk:∀ k,k≠db->(w.setCell ⟨db,j,none⟩ u).heap[k]? = w.heap[k]? := fun k hk=>BY _ _ _ _ hk
 have hr:d'.rb=d.rb:=by simp[Dx.rb,h3]
 refine ⟨hc▸AI _ db j _ _ _ h.blk,?_,?_,by rw[h1,h2];exact h.len,fun i v hv=>by rw[h2];exact (h.each i v hv).kept fun g hg=>hk g (o4 i v g hv hg).1,h.apart,by rw[h4];exact h.bad.kept fun g hg=>hk g (o5 g hg).1.1,?_,h.Td,h.off,?_,fun k q=>by simpa using h.lt k q,hf,by rw[h4];exact ⟨by have:=h.cts.1;omega,fun e he=>⟨(h.cts.2 e he).1,by have:=(h.cts.2 e he).2;omega⟩⟩⟩
 · rw[h1];exact Kg h.now fun g hg=>by cases hg;exact hk _ (fun e=>o1 e.symm)
 · rw[h1];exact Kg h.may fun g hg=>by cases hg;exact hk _ (fun e=>o2 e.symm)
 · rw[h3];exact h.fl.kept (hk _ (fun e=>h.rb.1 (e▸h.Td.1)))
 · rw[hr];exact ⟨h.rb.1,by simpa using h.rb.2⟩
theorem Nt.turn{nb:Nat} {d:Dx}  {bv':Value}  (h:Nt C db d nb aq mb ak vs bv w) (b:List (Int × Int × Int)) (hb:Xh w bv' b) (hc:b.length<=d.calls/\∀ e∈b,0<=e.2.2/\e.2.2<=d.calls) (hn:∀ g,bv'.ownBlock=some g -> ¬ C g/\g≠d.rb/\g<w.heap.size) :
 Nt (fun k=>C k\/bv'.ownBlock=some k) db { d with bad:=b } nb aq mb ak vs bv' (w.setCell ⟨db,7,none⟩ bv'):=by
 obtain ⟨o1,o2,o3,o4,o5⟩:=h.off;obtain ⟨c1,c2,c3,c4,c5⟩:=h.Td;have hk:∀ k,k≠db->(w.setCell ⟨db,7,none⟩ bv').heap[k]? = w.heap[k]? := fun k hk=>BY _ _ _ _ hk
 have hne:∀ g,bv'.ownBlock=some g->∀ k,C k->g≠k:=fun g hg k q e=>(hn g hg).1 (e▸q)
 refine ⟨?_,Kg h.now fun g hg=>by cases hg;exact hk _ (fun e=>o1 e.symm),Kg h.may fun g hg=>by cases hg;exact hk _ (fun e=>o2 e.symm),h.len,fun i v hv=>(h.each i v hv).kept fun g hg=>hk g (o4 i v g hv hg).1,h.apart,hb.kept fun g hg=>hk g (hne g hg db c1),h.fl.kept (hk _ (fun e=>h.rb.1 (e▸c1))),⟨.inl c1, .inl c2, .inl c3,fun i v g hv hg => .inl (c4 i v g hv hg),fun g hg => .inr hg⟩,⟨o1,o2,o3,o4,fun g hg=>⟨⟨hne g hg db c1,hne g hg nb c2,hne g hg mb c3⟩,fun i v hv e=>hne g hg g (c4 i v g hv e) rfl⟩⟩,⟨fun q=>q.elim h.rb.1 fun q=>(hn _ q).2.1 rfl,by have:=h.rb.2;simp[Dx.rb] at *;omega⟩,fun k q => ?_,h.few,hc⟩
 · exact (AI _ db 7 _ _ _ h.blk).trans rfl
 · rcases q with q | q
   · simpa using h.lt k q
   · simpa using (hn k q).2.2
end
end Go.Proofs.YtfhmaiicimdldaaGreatDoor
