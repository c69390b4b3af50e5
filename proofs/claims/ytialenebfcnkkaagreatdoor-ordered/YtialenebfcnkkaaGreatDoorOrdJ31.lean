/- FineRef, ArcText, OrdMath, OrdSpec, VerRank, VerW10, KeepW1, WokSpec, WokSpec2, WokSpec3, OrdSpec2 -/
import Derived.Test.YtialenebfcnkkaaGreatDoorOrdJ30
import Derived.Test.YtialenebfcnkkaaGreatDoorOrdJ8
import Derived.Test.YtialenebfcnkkaaGreatDoorOrdJ22
import Derived.Test.YtialenebfcnkkaaGreatDoorOrdJ3
import Derived.Test.YtialenebfcnkkaaGreatDoorOrdJ4
import Derived.Laws.IdiomStrings
import Derived.Test.YtialenebfcnkkaaGreatDoorOrdJ26
set_option maxHeartbeats 2000000
set_option maxRecDepth 100000
namespace Go.Proofs.YtialenebfcnkkaaGreatDoor
section
open aH (St gH)
open Hv (S VM)
namespace Hv
def tH (k:S):S:=[47,98,105,110,47]++k
theorem RJ {a b:S} (h:tH a=tH b):a=b:=List.append_cancel_left h
theorem zT {α:Type} {E:VM α} {k:S} {v:α} (h:(k,v)∈E):has E k=true:=List.any_eq_true.2 ⟨_,h,by simp⟩
theorem Kz {T:VM PD} (h:∀ k d,get T k=some d→d.paths=[]∨d.paths=[tH k]) : ¬ DJ T:=by
 rintro (⟨k,d,hd,hn⟩ | ⟨k,k',d,d',x,hne,hd,hd',hx,hx'⟩)
 · rcases h k d hd with e | e<;>rw[e] at hn<;>simp at hn
 · rcases h k d hd with e | e
   · rw[e] at hx;cases hx
   · rcases h k' d' hd' with e' | e'
     · rw[e'] at hx';cases hx'
     · rw[e] at hx;rw[e'] at hx'
       simp only[List.mem_singleton] at hx hx'
       exact hne (RJ (hx.symm.trans hx'))
theorem Lp {T:VM PD} (hT:aM T) (h:∀ k d,get T k=some d→∀ n∈d.st.needs,gU T n.1 n.2=true):uf T=false :=
 Al (fun _ d=>d.st.needs.any fun n => !gU T n.1 n.2) hT fun k d q=>by
   rw[List.any_eq_false]
   intro n hn
   simp[h k d q n hn]
theorem GU {T:VM PD} (hT:aM T) (h:∀ k d,get T k=some d→d.st.breaks=[]):qU T=false :=
 Al (fun k d=>d.st.breaks.any fun b=>has T b && !(b==k)) hT fun k d q=>by rw[h k d q];rfl
structure Gn (D:VM PD) (is:List Item):Prop where
 rem:∀ nm,Item.rem nm∈is→has D nm=true
 new:∀ t k ve st,Item.ins t k ve st∈is→∀ o,get D k=some o→0<(aC.compare ve o.ve).1
 len:(aR D (au is).R (au is).I).length≤12
 brk:∀ k d,get (aR D (au is).R (au is).I) k=some d→d.st.breaks=[]
 bin:∀ k d,get (aR D (au is).R (au is).I) k=some d→d.paths=[]∨d.paths=[tH k]
theorem yA {D:VM PD} {is:List Item} (hn:(is.map Item.name).Nodup) (h:Gn D is):jY D (au is).R=false:=by
 unfold jY
 rw[List.any_eq_false]
 intro p hp
 have:=h.rem p.1 (((iB is hn).Qg p.1).1 (zT (v:=p.2) hp))
 simp[this]
theorem IX {D:VM PD} {is:List Item} (hn:(is.map Item.name).Nodup) (h:Gn D is):LU D (au is).I=false :=
 TF (iB is hn).sI fun k d o hd ho=>by
   obtain ⟨t,ve,st,m,rfl⟩:=((iB is hn).Bt k d).1 hd
   exact h.new t k ve st m o ho
theorem nA {D:VM PD} {is:List Item} (sD:aM D) (hn:(is.map Item.name).Nodup) (h:Gn D is) (Io:∀ k d,get (aR D (au is).R (au is).I) k=some d→∀ n∈d.st.needs,gU (aR D (au is).R (au is).I) n.1 n.2=true):dh D (au is).R (au is).I=0:=by
 have hT:=jX sD (au is).R (au is).I
 unfold dh
 rw[yA hn h,IX hn h,Lp hT Io,GU hT h.brk,GY (Kz h.bin)]
 have:=h.len
 simp only[Bool.false_eq_true,if_false]
 rw[if_neg (by omega)]
theorem wz {D:VM PD} {is:List Item} (sD:aM D) (hn:(is.map Item.name).Nodup) (h:Gn D is) (Io:∃ k d n,get (aR D (au is).R (au is).I) k=some d∧n∈d.st.needs∧gU (aR D (au is).R (au is).I) n.1 n.2=false):dh D (au is).R (au is).I=11:=by
 have hT:=jX sD (au is).R (au is).I
 obtain ⟨k,d,n,hd,m,hm⟩:=Io
 have hl:uf (aR D (au is).R (au is).I)=true:=zU (fun _ d=>d.st.needs.any fun n => !gU (aR D (au is).R (au is).I) n.1 n.2) hT hd (List.any_eq_true.2 ⟨n,m,by simp[hm]⟩)
 unfold dh
 rw[yA hn h,IX hn h,hl]
 have:=h.len
 simp only[Bool.false_eq_true,if_false,if_true]
 rw[if_neg (by omega)]
theorem kC {α:Type} {E:VM α} (h:aM E) {ks:List S} (hk:∀ k,has E k=true→k∈ks):E.length≤ks.length:=by
 have hnd:=h.nodup
 have hsub:(E.map (·.1)) ⊆ ks:=fun k hm=>by
   obtain ⟨p,hp,rfl⟩:=List.mem_map.1 hm
   exact hk _ (zT (v:=p.2) hp)
 have:=hnd.length_le_of_subset hsub
 simpa using this
end Hv
namespace Hv
def bM (ls:List S):S:=ls.flatMap fun l=>l++[10]
def glue:List S→S
 | []=>[]
 | [l]=>l
 | l::m::ls=>l++10::glue (m::ls)
theorem Nu:∀ (ls:List S),ls≠[]→(∀ l∈ls,∀ c∈l,c≠10)→sp 10 (glue ls)=ls
 | [],h,_=>absurd rfl h
 | [l],_,h=>Ab 10 l (h l (by simp))
 | l::m::ls,_,h=>by
   show sp 10 (l++10::glue (m::ls))=_
   rw[xR 10 l _ (h l (by simp)),Nu (m::ls) (by simp) (fun x hx=>h x (by simp at hx ⊢;exact .inr hx))]
theorem yG {c:UInt8} {l:S} (h : ¬ (c=10∧l.head? = some 10)):aZ (c::l)=(aZ l).map fun p=>(c::p.1,p.2):=by
 conv=>lhs;unfold aZ
 split
 · exact absurd ⟨rfl,rfl⟩ h
 · cases aZ l<;>rfl
theorem tN:∀ (l r:S),(∀ c∈l,c≠10)→aZ (l++r)=(aZ r).map fun p=>(l++p.1,p.2)
 | [],r,_=>by cases h:aZ r<;>simp[h]
 | c::l,r,h=>by
   have hc:c≠10:=h c (by simp)
   rw[List.cons_append,yG (fun q=>hc q.1),tN l r (fun x hx=>h x (by simp[hx]))]
   cases aZ r<;>rfl
theorem yH (r:S):∀ (ls:List S),ls≠[]→(∀ l∈ls,l≠[]∧∀ c∈l,c≠10)→aZ (bM ls++10::r)=some (glue ls,r)
 | [],h,_=>absurd rfl h
 | [l],_,h=>by
   have e:bM [l]++10::r=l++(10::10::r):=by simp[bM]
   rw[e,tN l _ (h l (by simp)).2]
   have:aZ (10::10::r)=some ([],r):=by simp[aZ]
   rw[this];simp[glue]
 | l::m::ls,_,h=>by
   have e:bM (l::m::ls)++10::r=l++(10::(bM (m::ls)++10::r)):=by simp[bM]
   have hm:=h m (by simp)
   have hh : ¬ ((10:UInt8)=10∧(bM (m::ls)++10::r).head? = some 10):=by
     rintro ⟨-,q⟩
     cases m with
     | nil=>exact hm.1 rfl
     | cons a m =>
       have:(bM ((a::m)::ls)++10::r).head? = some a:=by simp[bM]
       rw[this] at q
       exact hm.2 a (by simp) (Option.some.inj q)
   rw[e,tN l _ (h l (by simp)).2,yG hh,yH r (m::ls) (by simp) (fun x hx=>h x (by simp at hx ⊢;exact .inr hx))]
   rfl
def yu (c:UInt8):Prop:=c=97∨c=98∨c=99∨c=100∨c=101∨c=102∨c=122
def nu (n:UInt8):S:=[110,101,101,100,115,32,n,32,49]
def sw (c:UInt8):S:=[102,105,108,101,32,47,98,105,110,47,c,32,53,32,98,97,52,55,56,56,98,50,50,54,97,97,56,100,99,50]
def rY (c:UInt8):S:=[114,117,110,32,97,100,100,32,47,118,97,114,47,111,114,100,101,114,32,c]
def bG:S:=[47,118,97,114,47,111,114,100,101,114]
def D9 (c v:UInt8):List S:=[aH.uQ,aH.fB++[c],aH.bH++[v]]
def vS (c v:UInt8) (ns:List UInt8) (o:Bool):List S:=D9 c v++(ns.map nu++(sw c::if o then [rY c] else []))
def iE (c v:UInt8) (ns:List UInt8) (o:Bool):S:=bM (vS c v ns o)++10::green
def uh (c:UInt8) (ns:List UInt8) (o:Bool):St:=⟨ns.map fun n=>([n],[49]),[],[],[(tH [c],green)],if o then [⟨2,bG,[c],[]⟩] else [],[],[]⟩
theorem IK {c:UInt8} (h:yu c):Wd.isName [c]=true∧c≠10∧c≠32:=by
 rcases h with rfl | rfl | rfl | rfl | rfl | rfl | rfl<;>decide
theorem WT {n:UInt8} (h:yu n):sp 32 (nu n)=[[110,101,101,100,115],[n],[49]]:=by
 rcases h with rfl | rfl | rfl | rfl | rfl | rfl | rfl<;>rfl
theorem Wn {c:UInt8} (h:yu c):sp 32 (sw c)=[[102,105,108,101],tH [c],[53],[98,97,52,55,56,56,98,50,50,54,97,97,56,100,99,50]]:=by
 rcases h with rfl | rfl | rfl | rfl | rfl | rfl | rfl<;>rfl
theorem aar {c:UInt8} (h:yu c):sp 32 (rY c)=[[114,117,110],[97,100,100],bG,[c]]:=by
 rcases h with rfl | rfl | rfl | rfl | rfl | rfl | rfl<;>rfl
theorem GQ {c:UInt8} (h:yu c):Wd.bL (tH [c])=true∧Wd.under (tH [c])=false:=by
 rcases h with rfl | rfl | rfl | rfl | rfl | rfl | rfl<;>decide
theorem Vf {c:UInt8} (h:yu c):Wd.isWord [c]=true:=by
 rcases h with rfl | rfl | rfl | rfl | rfl | rfl | rfl<;>decide
theorem PL:Wd.isVar bG=true:=by decide
theorem yX (f:S→S):∀ (ns:List UInt8) (st:St) (last:Int) (rest:List S),last≤1→(∀ n∈ns,yu n)→∃ last',last'≤1∧aH.dS f st last (ns.map nu++rest)=aH.dS f { st with needs:=st.needs++ns.map fun n=>([n],[49]) } last' rest
 | [],st,last,rest,hl,_=>⟨last,hl,by simp⟩
 | n::ns,st,last,rest,hl,h=>by
   have hn:=h n (by simp)
   obtain ⟨l',h1,h2⟩:=yX f ns { st with needs:=st.needs++[([n],[49])] } 1 rest (by omega) (fun m hm=>h m (by simp[hm]))
   refine ⟨l',h1,?_⟩
   have e:(n::ns).map nu++rest=nu n::(ns.map nu++rest):=rfl
   rw[e,aH.dS,WT hn]
   have k1:kd ([[110,101,101,100,115],[n],[49]]:List S).head! = 1:=by rfl
   rw[k1,if_neg (by omega)]
   have p1:aH.jM f st 1 ([[110,101,101,100,115],[n],[49]]:List S).tail=some { st with needs:=st.needs++[([n],[49])] }:=by
     have hv:aC.fine [49]=true:=by decide
     show (if (1:Int)=1 then (if aC.fine [49]&&Wd.isName [n] then some _ else none) else _)=_
     rw[if_pos rfl,hv,(IK hn).1]
     rfl
   rw[p1]
   show aH.dS f _ 1 _=_
   rw[h2]
   simp
theorem Md (f:S→S) (hf:f green=[98,97,52,55,56,56,98,50,50,54,97,97,56,100,99,50]) {c:UInt8} (hc:yu c) (st:St) (last:Int) (hl:last≤1) (rest:List S) (h1:st.files=[]) (h2:st.left=green) :
   aH.dS f st last (sw c::rest)=aH.dS f { st with files:=[(tH [c],green)],left:=[] } 4 rest:=by
 rw[aH.dS,Wn hc]
 have k1:kd ([[102,105,108,101],tH [c],[53],[98,97,52,55,56,56,98,50,50,54,97,97,56,100,99,50]]:List S).head! = 4:=by rfl
 rw[k1,if_neg (by omega)]
 have hz:sz [53]=5:=by decide
 have hg:green.take 5=green:=by decide
 have hd:green.drop 5=[]:=by decide
 have hgl:(green.length:Int)=5:=by decide
 have p1:aH.jM f st 4 ([[102,105,108,101],tH [c],[53],[98,97,52,55,56,56,98,50,50,54,97,97,56,100,99,50]]:List S).tail=some { st with files:=[(tH [c],green)],left:=[] }:=by
   unfold aH.jM
   rw[if_neg (by decide),if_neg (by decide),if_neg (by decide),if_pos rfl]
   simp only[List.tail_cons]
   rw[hz,h1,h2,show (5:Int).toNat=5 from rfl,hg,hd,hf,(GQ hc).1,(GQ hc).2]
   rw[if_pos ⟨by decide,by omega,rfl,rfl,rfl,rfl⟩]
   rfl
 rw[p1]
theorem Qb (f:S→S) {c:UInt8} (hc:yu c) (st:St) (o:Bool) (h0:st.runs=[]) :
   aH.dS f st 4 (if o then [rY c] else [])=some { st with runs:=if o then [⟨2,bG,[c],[]⟩] else [] }:=by
 cases o
 · simp[aH.dS,← h0]
 · simp only[if_true]
   rw[aH.dS,aar hc]
   have k1:kd ([[114,117,110],[97,100,100],bG,[c]]:List S).head! = 5:=by rfl
   rw[k1,if_neg (by decide)]
   have pc:aH.bZ [[97,100,100],bG,[c]]=(⟨2,bG,[c],[]⟩,true):=by
     have v1:aH.vb [97,100,100]=2:=by rfl
     unfold aH.bZ
     rw[v1,if_pos (by decide)]
     simp only
     rw[Vf hc,PL]
     rfl
   have p1:aH.jM f st 5 ([[114,117,110],[97,100,100],bG,[c]]:List S).tail=some { st with runs:=[⟨2,bG,[c],[]⟩] }:=by
     unfold aH.jM
     rw[if_neg (by decide),if_neg (by decide),if_neg (by decide),if_neg (by decide),if_pos rfl]
     simp only[List.tail_cons]
     have hp:∀ x:gH × Bool,x=(⟨2,bG,[c],[]⟩,true)→(if x.2=true∧x.1.verb≠5 then some { st with runs:=st.runs++[x.1] } else none)=some { st with runs:=[⟨2,bG,[c],[]⟩] }:=by
       rintro x rfl
       rw[if_pos ⟨rfl,show (2:Int)≠5 by decide⟩,h0]
       rfl
     exact hp _ pc
   rw[p1]
   rfl
theorem II (ns:List UInt8):(bM (ns.map nu)).length=10*ns.length:=by
 induction ns with
 | nil=>rfl
 | cons n ns ih =>
   simp only[bM,List.map_cons,List.flatMap_cons,List.length_append] at ih ⊢
   rw[ih];simp[nu];omega
theorem nZ (c v:UInt8) (ns:List UInt8) (o:Bool):(iE c v ns o).length≤90+10*ns.length:=by
 have e:iE c v ns o=bM (D9 c v)++(bM (ns.map nu)++(bM (sw c::if o then [rY c] else [])++10::green)):=by
   simp[iE,vS,bM]
 rw[e,List.length_append,List.length_append,II]
 have h1:(bM (D9 c v)).length=25:=by rfl
 have h2:(bM (sw c::if o then [rY c] else [])++10::green).length≤60:=by cases o<;>simp[bM,sw,rY,green]
 omega
theorem Lx {c v:UInt8} (hc:yu c) (hv:v=49∨v=50) {ns:List UInt8} (hns:∀ n∈ns,yu n) (o:Bool):∀ l∈vS c v ns o,l≠[]∧∀ x∈l,x≠10:=by
 have h1:∀ l∈D9 c v,l≠[]∧∀ x∈l,x≠10:=by
   rcases hv with rfl | rfl<;>rcases hc with rfl | rfl | rfl | rfl | rfl | rfl | rfl<;>decide
 have h2:∀ l∈(sw c::if o then [rY c] else []),l≠[]∧∀ x∈l,x≠10:=by
   cases o<;>rcases hc with rfl | rfl | rfl | rfl | rfl | rfl | rfl<;>decide
 intro l hl
 unfold vS at hl
 rcases List.mem_append.1 hl with hl | hl
 · exact h1 l hl
 · rcases List.mem_append.1 hl with hl | hl
   · obtain ⟨n,hn,rfl⟩:=List.mem_map.1 hl
     have:=hns n hn
     rcases this with rfl | rfl | rfl | rfl | rfl | rfl | rfl<;>decide
   · exact h2 l hl
theorem uw (c v:UInt8) (hc:yu c) (hv:v=49∨v=50) (ns:List UInt8) (hns:∀ n∈ns,yu n) (hl:ns.length≤6) (o:Bool) :
   aH.parse (short aF) (iE c v ns o)=some ([c],[v],uh c ns o):=by
 have hlen:=nZ c v ns o
 have hL:=Lx hc hv hns o
 have hne:vS c v ns o≠[]:=by simp[vS,D9]
 have hh:aH.jT aH.uQ (aH.fB++[c]) (aH.bH++[v])=true∧aH.behind aH.fB (aH.fB++[c])=[c]∧aH.behind aH.bH (aH.bH++[v])=[v]:=by
   rcases hv with rfl | rfl<;>rcases hc with rfl | rfl | rfl | rfl | rfl | rfl | rfl<;>decide
 unfold aH.parse
 rw[if_neg (by omega)]
 have e1:aZ (iE c v ns o)=some (glue (vS c v ns o),green):=yH green _ hne hL
 have e2:sp 10 (glue (vS c v ns o))=aH.uQ::(aH.fB++[c])::(aH.bH++[v])::(ns.map nu++(sw c::if o then [rY c] else [])):=(Nu _ hne (fun l q=>(hL l q).2)).trans rfl
 rw[e1]
 simp only
 rw[e2]
 simp only
 rw[if_neg (by cases o<;>simp<;>omega),if_pos hh.1]
 obtain ⟨l',h1,h2⟩:=yX (short aF) ns (.of green) 0 (sw c::if o then [rY c] else []) (by omega) hns
 rw[h2,Md (short aF) JE hc _ l' h1 _ rfl rfl,Qb (short aF) hc _ o rfl]
 simp only[if_true]
 rw[hh.2.1,hh.2.2]
 rfl
theorem Ef (c v:UInt8) (hc:yu c) (hv:v=49∨v=50) (ns:List UInt8) (hns:∀ n∈ns,yu n) (hl:ns.length≤6) (o:Bool) :
   fQ (43::iE c v ns o)=some (.ins (iE c v ns o) [c] [v] (uh c ns o)):=by
 have hlen:=nZ c v ns o
 unfold fQ
 simp only
 rw[if_neg (by decide),if_pos trivial,if_neg (by omega),uw c v hc hv ns hns hl o]
 rfl
theorem SS {c:UInt8} (hc:yu c):fQ [45,c]=some (.rem [c]):=by
 unfold fQ
 simp only
 rw[if_pos trivial,(IK hc).1]
 rfl
end Hv
namespace Hv
theorem Qc {D:VM PD} (hs:aM D) (rank:S→Nat) (hr:∀ k d,get D k=some d→∀ q∈d.st.needs,has D q.1=true→q.1≠k→rank q.1<rank k) (h0:0<D.length):aI D (pick aI D)=true:=by
 unfold pick
 cases q:(keysOf D).find? (aI D) with
 | some k=>exact List.find?_some q
 | none =>
   exfalso
   rw[List.find?_eq_none] at q
   have key:∀ n k,has D k=true→rank k≤n→False:=by
     intro n
     induction n with
     | zero =>
       intro k hk hn
       have hf:=q k (uj.2 hk)
       rw[aB] at hk
       obtain ⟨d,hd⟩:=Option.isSome_iff_exists.1 hk
       unfold aI at hf
       rw[hd] at hf
       have h1:nN D k d=true:=by cases e:nN D k d<;>simp[e] at hf ⊢
       obtain ⟨p,hp,e⟩:=List.any_eq_true.1 h1
       simp only[Bool.and_eq_true,Bool.not_eq_true',beq_eq_false_iff_ne,ne_eq] at e
       have:=hr k d hd p hp e.1 e.2
       omega
     | succ n ih =>
       intro k hk hn
       have hf:=q k (uj.2 hk)
       have hk':=hk
       rw[aB] at hk
       obtain ⟨d,hd⟩:=Option.isSome_iff_exists.1 hk
       unfold aI at hf
       rw[hd] at hf
       have h1:nN D k d=true:=by cases e:nN D k d<;>simp[e] at hf ⊢
       obtain ⟨p,hp,e⟩:=List.any_eq_true.1 h1
       simp only[Bool.and_eq_true,Bool.not_eq_true',beq_eq_false_iff_ne,ne_eq] at e
       have:=hr k d hd p hp e.1 e.2
       exact ih p.1 e.1 (by omega)
   cases D with
   | nil=>simp at h0
   | cons p D=>exact key (rank p.1) p.1 (by simp[has]) (Nat.le_refl _)
def MV (D:VM PD) (a b:S):Prop:=∃ d,get D a=some d∧∃ q∈d.st.needs,q.1=b
theorem yR (D0:VM PD) (rank:S→Nat) (hr:∀ k d,get D0 k=some d→∀ q∈d.st.needs,q.1≠k→rank q.1<rank k):∀ (n:Nat) (D:VM PD),aM D→D.length=n→(∀ k d,get D k=some d→get D0 k=some d)→(jI aI n D).Pairwise fun a b => ¬ MV D0 a b
 | 0,_,_,_,_=>List.Pairwise.nil
 | n+1,D,hs,hn,h0=>by
   have hp:=mq aI (D:=D) (by omega)
   have hd:=mZ hs hp
   have hf:=Qc hs rank (fun k d q p hp _ hne=>hr k d (h0 k d q) p hp hne) (by omega)
   refine List.pairwise_cons.2 ⟨fun b hb => ?_,yR D0 rank hr n _ (hs.del _) (by omega) (fun k d q => ?_)⟩
   · have hb1:=(oQ aI n (del D (pick aI D)) (hs.del _) (by omega) b).1 hb
     have hbne:b≠pick aI D:=fun e=>by rw[e,aB,bn] at hb1;cases hb1
     have hbD:=zX hs hb1
     rintro ⟨d,hd0,p,hp1,e⟩
     rw[aB] at hp
     obtain ⟨d',hd'⟩:=Option.isSome_iff_exists.1 hp
     have:=h0 _ _ hd'
     rw[hd0] at this
     cases this
     have key:∀ m,get D m=some d→aI D m=true→b≠m→False:=fun m h1 h2 h3=>by
       unfold aI at h2
       rw[h1] at h2
       have:nN D m d=true:=List.any_eq_true.2 ⟨p,hp1,by rw[e,hbD];simpa using h3⟩
       simp[this] at h2
     exact key _ hd' hf hbne
   · by_cases e:k=pick aI D
     · subst e;rw[bn] at q;cases q
     · rw[aV hs e] at q;exact h0 k d q
theorem LX {D:VM PD} (hs:aM D) (rank:S→Nat) (hr:∀ k d,get D k=some d→∀ q∈d.st.needs,q.1≠k→rank q.1<rank k):(order aI D).Pairwise fun a b => ¬ MV D a b :=
 yR D rank hr _ D hs rfl (fun _ _ h=>h)
end Hv
namespace Hv
def xA (c v:UInt8) (ns:List UInt8) (o:Bool) (s:Int):PD:=⟨iE c v ns o,[c],[v],uh c ns o,s⟩
theorem BI {c v:UInt8} {ns:List UInt8} {o:Bool} {s:Int} (hc:yu c) (hv:v=49∨v=50) (hns:∀ n∈ns,yu n) (hl:ns.length≤6):Gw (xA c v ns o s):=uw c v hc hv ns hns hl o
theorem qB (c v:UInt8) (ns:List UInt8) (o:Bool) (s:Int):bK (xA c v ns o s).st.runs∧bK (xA c v ns o s).st.aL:=by
 refine ⟨fun x hx => ?_,fun x hx=>by cases hx⟩
 cases o
 · cases hx
 · have:x=⟨2,bG,[c],[]⟩:=by simpa [xA,uh] using hx
   rw[this];show (2:Int)≠3;decide
theorem yE {T:VM PD}:∀ (l:List S) (G:VM S),aM G→(∀ x∈l,∃ d,get T x=some d∧d.st.runs=[⟨2,bG,x,[]⟩])→lT T l G=if l=[] then G else put G bG ((get G bG).getD []++l.flatten)
 | [],G,_,_=>by simp[lT]
 | x::l,G,hG,h=>by
   obtain ⟨d,hd,hr⟩:=h x (by simp)
   have e:lT T (x::l) G=lT T l (put G bG ((get G bG).getD []++x)):=by
     show lT T l (match get T x with | none=>G | some d=>fJ T [] G d.st.runs)=_
     rw[hd]
     show lT T l (fJ T [] G d.st.runs)=_
     rw[hr]
     rfl
   rw[e,yE l _ (hG.put _ _) (fun y hy=>h y (by simp[hy]))]
   simp only[List.cons_ne_nil,if_false]
   by_cases hl:l=[]
   · subst hl;simp
   · rw[if_neg hl,aD hG]
     simp only[Option.getD_some,List.flatten_cons]
     refine ((hG.put _ _).put _ _).dD (hG.put _ _) fun n => ?_
     by_cases q:n=bG
     · subst q;rw[aD (hG.put _ _),aD hG,List.append_assoc]
     · rw[av (hG.put _ _) _ q,av hG _ q,av hG _ q]
theorem qg {T:VM PD}:∀ (l:List S) (G:VM S),(∀ x d,get T x=some d→d.st.runs=[])→lT T l G=G
 | [],_,_=>rfl
 | x::l,G,h=>by
   have e:lT T (x::l) G=lT T l (match get T x with | none=>G | some d=>fJ T [] G d.st.runs):=rfl
   rw[e]
   cases q:get T x with
   | none=>exact qg l G h
   | some d=>simp only[h x d q];exact qg l G h
theorem yc {T:VM PD} (h:∀ k d,get T k=some d→d.st.wakes=[]) (sT:aM T) (ch:List S):dN T ch=[]:=by
 unfold dN
 rw[List.filterMap_eq_nil_iff]
 intro p hp
 have:=h p.1 p.2 ((get_some sT).2 hp)
 rw[if_pos (by unfold wokenBy;rw[List.filter_eq_nil_iff];intro x _;simp[this])]
theorem wG {D:VM PD} {xs:List S} (h:dz D+(xs.map List.length).sum≤5000):jl 300 D xs=false:=by
 unfold jl zl
 rw[Uc]
 simp only[decide_eq_false_iff_not]
 omega
end Hv
end
namespace aC
def d1 (n:Nat):UInt8:=(48+n).toUInt8
def dg (n:Nat):List UInt8:=if n<10 then [d1 n] else if n<100 then [d1 (n / 10),d1 (n%10)] else [d1 (n / 100),d1 (n / 10%10),d1 (n%10)]
def tr (n:Nat):List UInt8:=if n=0 then [] else dg n
def two (y:Nat):List UInt8:=49::46::48::dg y
end aC
section
open Go.RowKit
def pk (c n:Int):Int:=(if c<0 then -(c+1) else c)%n
def dI (z:Int):UInt8:=(48+z%10).toNat.toUInt8
theorem KO (W:World) (z:Int):(convert 47 9 (.slice (some ⟨W.heap.size,0,none⟩) 1 1)).run Tryz.prog (W.alloc (.cells #[.int .u8 (48+z%10)] 5)) =
   .ok (.string ⟨[dI z].toArray⟩) (W.alloc (.cells #[.int .u8 (48+z%10)] 5)):=by
 refine run_convert_bytes_back _ 47 9 5 ⟨W.heap.size,0,none⟩ 1 [dI z] Tryz.underlying47 Tryz.underlying5 Tryz.underlying9 ?_
 intro j hj
 have hj0:j=0:=by simpa using hj
 subst hj0
 have hv:((dI z).toNat:Int)=48+z%10:=by
   show ((UInt8.ofNat (48+z%10).toNat).toNat:Int)=_
   rw[UInt8.toNat_ofNat'];omega
 simp[go_sem,Addr.add,hv]
theorem RZ {n:Nat} (z:Int) (h:z=n):dI z=aC.d1 (n%10):=by
 subst h;simp only[dI,aC.d1];congr 1
def Dig (n:Nat) (q:Int) (l:List UInt8):Prop :=
 (q=n∧l=[aC.d1 (n%10)])∨(10≤n∧q=(n / 10:Nat)∧l=[aC.d1 (n / 10%10),aC.d1 (n%10)])∨(100≤n∧q=(n / 100:Nat)∧l=[aC.d1 (n / 100%10),aC.d1 (n / 10%10),aC.d1 (n%10)])
theorem R4 {n:Nat} (hn:n<1000) {q:Int} {l:List UInt8} (h:Dig n q l) (hq:10≤q):Dig n (q / 10) (dI (q / 10)::l):=by
 rcases h with ⟨rfl,rfl⟩ | ⟨h1,rfl,rfl⟩ | ⟨h1,rfl,rfl⟩
 · exact .inr (.inl ⟨by omega,by omega,by rw[RZ (n:=n / 10) _ (by omega)]⟩)
 · exact .inr (.inr ⟨by omega,by omega,by rw[RZ (n:=n / 100) _ (by omega)]⟩)
 · omega
theorem R3 {n:Nat} (hn:n<1000) {q:Int} {l:List UInt8} (h:Dig n q l) (hq : ¬ 10≤q):l=aC.dg n:=by
 rcases h with ⟨rfl,rfl⟩ | ⟨h1,rfl,rfl⟩ | ⟨h1,rfl,rfl⟩
 · have:n<10:=by omega
   simp[aC.dg,this,Nat.mod_eq_of_lt this]
 · have h2 : ¬ n<10:=by omega
   have h3:n<100:=by omega
   simp[aC.dg,h2,h3,Nat.mod_eq_of_lt (show n / 10<10 by omega)]
 · have h2 : ¬ n<10:=by omega
   have h3 : ¬ n<100:=by omega
   simp[aC.dg,h2,h3,Nat.mod_eq_of_lt (show n / 100<10 by omega)]
theorem Zc {n:Nat} {q:Int} {l:List UInt8} (h:Dig n q l) (hn:n<1000):l.length≤3∧0≤q∧q<1000:=by
 rcases h with ⟨rfl,rfl⟩ | ⟨h1,rfl,rfl⟩ | ⟨h1,rfl,rfl⟩<;>simp<;>omega
theorem gq (x y:List UInt8):(⟨x.toArray⟩:ByteArray)++⟨y.toArray⟩=⟨(x++y).toArray⟩:=by
 apply nT;simp
theorem KP (n:Nat) (hn:n<1000) (w:World) :
   Calls Tryz.prog 16 #[.int .i64 n] w fun e w'=>e = .returned (.string ⟨(aC.dg n).toArray⟩)∧Below w.heap.size w w':=by
 have hm:=KO
 go_enter Tryz.func16,Tryz.ntmps16
 go_wp2_with fail
 go_loopw [0,3] (fun a b wr=>∃ (q:Int) (l:List UInt8),Dig n q l∧a = .int .i64 q∧b = .string ⟨l.toArray⟩∧Below w.heap.size w wr) (fun a _ _=>(intOf a).toNat)
 case atStart=>exact ⟨_,_, .inl ⟨rfl,by rw[RZ (n:=n) _ rfl]⟩,rfl,rfl,(Below.refl _ _).alloc (Nat.le_refl _) _⟩
 case round =>
   obtain ⟨q,l,hd,rfl,rfl,hb⟩:=hrel
   have HD:=hide hd
   obtain ⟨hl,hq0,hq1⟩:=Zc hd hn
   clear hd
   have HB:=hide hb;clear hb
   by_cases hq:10≤q
   · go_wp2_with fail
     exact ⟨⟨q / 10,_,R4 hn HD.out hq,rfl,congrArg Value.string (gq [dI (q / 10)] l),HB.out.alloc HB.out.size _⟩,by simp[intOf];omega⟩
   · go_wp2_with fail
     go_ret
     have he:=R3 hn HD.out (by omega)
     exact ⟨Nq (by rw[he]),HB.out⟩
end
section
open Go.RowKit
open aH (St gH)
open Hv (S Dk VM)
theorem xH (c n:Int) (hn:0<n) (hn2:n≤1000) (h0 : -9223372036854775808≤c) (h1:c≤9223372036854775807) (w:World) :
   Calls Tryz.prog 7 #[.int .i64 c, .int .i64 n] w fun e w'=>e = .returned (.int .i64 (pk c n))∧w'=w:=by
 have hz : ¬ n=0:=by omega
 have hm : ¬ n = -1:=by omega
 by_cases hc:c<0
 · have e:pk c n=(-(c+1))%n:=by simp[pk,hc]
   rw[e]
   have h:=Int.tmod_eq_emod_of_nonneg (a := -(c+1)) (b:=n) (by omega)
   have k1:=Int.emod_nonneg (-(c+1)) hz
   have k2:=Int.emod_lt_of_pos (-(c+1)) hn
   have k3:IntKind.i64.wrap (c+1)=c+1:=by rw[IntKind.wrap_i64];omega
   have k4:IntKind.i64.wrap (-(c+1)) = -(c+1):=by rw[IntKind.wrap_i64];omega
   obtain ⟨r,hr⟩:∃ r,(-(c+1))%n=r:=⟨_,rfl⟩
   rw[hr] at h k1 k2 ⊢
   go_enter Tryz.func7,Tryz.ntmps7
   go_wp2
   go_ret
   rw[Int.neg_tmod] at h
   exact ⟨iP (by omega),rfl⟩
 · have e:pk c n=c%n:=by simp[pk,hc]
   rw[e]
   have h:=Int.tmod_eq_emod_of_nonneg (a:=c) (b:=n) (by omega)
   have k1:=Int.emod_nonneg c hz
   have k2:=Int.emod_lt_of_pos c hn
   obtain ⟨r,hr⟩:∃ r,c%n=r:=⟨_,rfl⟩
   rw[hr] at h k1 k2 ⊢
   go_enter Tryz.func7,Tryz.ntmps7
   go_wp2
   go_ret
   exact ⟨iP (by omega),rfl⟩
def cK (k:Nat):UInt8:=UInt8.ofNat (97+k)
theorem qy {k:Nat} (h:k<6):Hv.yu (cK k):=by
 have:k=0∨k=1∨k=2∨k=3∨k=4∨k=5:=by omega
 rcases this with rfl | rfl | rfl | rfl | rfl | rfl<;>(unfold Hv.yu cK;decide)
theorem ug (k:Nat) (hk:k<6) (w:World) :
   Calls Tryz.prog 8 #[.int .i64 k] w fun e w'=>e = .returned (.string ⟨([cK k]:S).toArray⟩)∧w'=w:=by
 have:k=0∨k=1∨k=2∨k=3∨k=4∨k=5:=by omega
 rcases this with rfl | rfl | rfl | rfl | rfl | rfl
 all_goals
   go_enter Tryz.func8,Tryz.ntmps8
   go_wp2
   go_ret
   exact ⟨rfl,rfl⟩
def Kw (x:S) (v:Nat) (a b:S):S:=[43,104,97,118,101,110,32,49,10,110,97,109,101,32]++x++[10,118,101,114,115,105,111,110,32]++aC.dg v++[10]++a++[102,105,108,101,32,47,98,105,110,47]++x++[32,53,32,98,97,52,55,56,56,98,50,50,54,97,97,56,100,99,50,10]++b++[10,103,114,101,101,110]
theorem yC (x a b:S) (v:Nat) (hv:v<10) (hx:x.length≤1000) (ha:a.length≤1000) (hb:b.length≤1000) (w:World) :
   Calls Tryz.prog 9 #[.string ⟨x.toArray⟩, .int .i64 v, .string ⟨a.toArray⟩, .string ⟨b.toArray⟩] w fun e w'=>e = .returned (.string ⟨(Kw x v a b).toArray⟩)∧Below w.heap.size w w':=by
 have hd:(aC.dg v).length≤3:=by unfold aC.dg;repeat' split<;>simp
 go_enter Tryz.func9,Tryz.ntmps9
 go_wp2_with fail
 refine (KP v (by omega) w).mono ?_
 rintro e w1 ⟨rfl,hb1⟩
 have HB1:=hide hb1
 have HA:Hid (Kw x v a b=_):=hide (by unfold Kw;rfl)
 obtain ⟨z,hz⟩:∃ z,aC.dg v=z:=⟨_,rfl⟩
 rw[hz] at hd HA ⊢
 clear hb1 hz
 go_wp2_with fail
 go_ret
 refine ⟨?_,HB1.out⟩
 rw[HA.out]
 simp only[← gq]
 rfl
theorem GJ (k:Nat) {v:Nat} (hv:v=1∨v=2) (ns:List UInt8) (o:Bool) :
   Kw [UInt8.ofNat (97+k)] v (Hv.bM (ns.map Hv.nu)) (if o then Hv.rY (UInt8.ofNat (97+k))++[10] else [])=43::Hv.iE (UInt8.ofNat (97+k)) (UInt8.ofNat (48+v)) ns o:=by
 have e:aC.dg v=[UInt8.ofNat (48+v)]:=by rcases hv with rfl | rfl<;>rfl
 unfold Kw Hv.iE Hv.vS Hv.D9 Hv.bM
 rw[e]
 obtain ⟨c,hc⟩:∃ c,UInt8.ofNat (97+k)=c:=⟨_,rfl⟩
 obtain ⟨d,hd⟩:∃ d,UInt8.ofNat (48+v)=d:=⟨_,rfl⟩
 rw[hc,hd]
 cases o<;>simp[Hv.sw,Hv.rY,aH.uQ,aH.fB,aH.bH,green]
end
section
open aH (St gH)
open Hv (S VM)
namespace Hv
def NJ:S:=[109,101,110,117]
def mI:S:=[47,118,97,114,47,109,101,110,117]
def iQ:S:=[47,118,97,114,47,99,111,117,110,116]
def Tn:S:=[104,97,118,101,110,32,49,10,110,97,109,101,32,109,101,110,117,10,118,101,114,115,105,111,110,32,49,10,119,97,107,101,115,32,47,98,105,110,10,119,111,107,101,110,32,108,105,115,116,32,47,118,97,114,47,109,101,110,117,10,119,111,107,101,110,32,97,100,100,32,47,118,97,114,47,99,111,117,110,116,32,120,10,10]
def LJ:St:=⟨[],[],[[47,98,105,110]],[],[],[⟨5,mI,[],[]⟩,⟨2,iQ,[120],[]⟩],[]⟩
theorem Mc:aH.parse (short aF) Tn=some (NJ,[49],LJ):=by kernel_rfl
def FU (s:Int):PD:=⟨Tn,NJ,[49],LJ,s⟩
structure nI (V:Nat→Nat) (D:VM PD):Prop where
 dU:aM D
 get:∀ k d,get D k=some d ↔ (k=NJ∧d=FU 2) ∨ ∃ j,j<6∧0<V j∧k=[cK j]∧d=xA (cK j) (UInt8.ofNat (48+V j)) [] false 2
abbrev goes (V:Nat→Nat) (j:Nat):Prop:=0<V j∧j%2=0
def xg (V:Nat→Nat) (r j:Nat):S:=if goes V j then [45,cK j] else 43::iE (cK j) (UInt8.ofNat (48+r)) [] false
def qA (V:Nat→Nat) (r:Nat) (ks:List Nat) (j:Nat):Nat:=if j∈ks then (if goes V j then 0 else r) else V j
theorem WI {i j:Nat} (hi:i<6) (hj:j<6) (h:cK i=cK j):i=j:=by
 have hi':i=0∨i=1∨i=2∨i=3∨i=4∨i=5:=by omega
 have hj':j=0∨j=1∨j=2∨j=3∨j=4∨j=5:=by omega
 rcases hi' with rfl | rfl | rfl | rfl | rfl | rfl<;>rcases hj' with rfl | rfl | rfl | rfl | rfl | rfl<;>first | rfl | (exfalso;revert h;decide)
structure Ks (ks:List Nat):Prop where
 lt:∀ j∈ks,j<6
 fall:ks.Pairwise fun a b=>b<a
theorem Ks.nodup {ks:List Nat} (h:Ks ks):ks.Nodup:=h.fall.imp fun {a b} q e=>by omega
theorem Ks.len {ks:List Nat} (h:Ks ks):ks.length≤6:=by
 have:=h.nodup.length_le_of_subset (l₂:=[0,1,2,3,4,5]) (fun j hj=>by have:=h.lt j hj;simp;omega)
 simpa using this
end Hv
namespace Hv
theorem qc {D I:VM PD} {R:VM Value} (x:S):aM (aT D R I)∧ku (aT D R I)∧(has (aT D R I) x=true ↔ (∃ p∈R,x∈bg D p.1) ∨ ∃ p∈I,x∈bg D p.1∨x∈p.2.paths):=by
 obtain ⟨a,b,c⟩:=j3 D R [] List.Pairwise.nil (fun k v q=>by cases q)
 obtain ⟨a',b',c'⟩:=jZ D I (dQ D R []) a b
 refine ⟨a',b',?_⟩
 show has (fO D I (dQ D R [])) x=true ↔ _
 rw[c',c]
 simp[has]
theorem WQ {α:Type} {E:VM α} {k:S}:has E k=true ↔ ∃ v,(k,v)∈E:=by
 constructor
 · intro h
   obtain ⟨p,hp,e⟩:=List.any_eq_true.1 h
   simp only[beq_iff_eq] at e
   exact ⟨p.2,by rw[← e];exact hp⟩
 · rintro ⟨v,h⟩;exact zT h
def jy (ks:List Nat):List S:=ks.reverse.map fun j=>tH [cK j]
structure iY (n:Nat) (G:VM S):Prop where
 dU:aM G
 keys:∀ k x,get G k=some x→(k=mI∧x.length≤60)∨(k=iQ∧x.length≤60)
 cnt:((get G iQ).getD []).length=n
theorem iY.len {n:Nat} {G:VM S} (h:iY n G):G.length≤2:=by
 have:=kC h.dU (ks:=[mI,iQ]) (fun k q=>by
   rw[aB] at q
   obtain ⟨x,hx⟩:=Option.isSome_iff_exists.1 q
   rcases h.keys k x hx with ⟨rfl,_⟩ | ⟨rfl,_⟩<;>simp)
 simpa using this
theorem iY.short {n:Nat} {G:VM S} (h:iY n G):Short 200 G:=fun k x q=>by
 rcases h.keys k x q with ⟨_,hl⟩ | ⟨_,hl⟩<;>omega
theorem iY.gk {n:Nat} {G:VM S} (h:iY n G):GK G:=fun k x q=>by
 rcases h.keys k x q with ⟨rfl,_⟩ | ⟨rfl,_⟩<;>simp[mI,iQ]
theorem iY.fits {n:Nat} {G:VM S} (h:iY n G):iR G=true:=by
 simp only[iR,Bool.and_eq_true,decide_eq_true_eq,List.all_eq_true]
 refine ⟨by have:=h.len;omega,fun p hp => ?_⟩
 have:=h.short p.1 p.2 ((get_some h.dU).2 hp)
 exact this
def zo (G:VM S) (ks:List Nat):VM S:=put (put G mI (bJ (jy ks))) iQ ((get G iQ).getD []++[120])
theorem qG:∀ ks:List Nat,(bJ (jy ks)).length=7*ks.length
 | []=>rfl
 | j::ks=>by
   have ih:=qG ks
   simp only[jy,bJ,List.reverse_cons,List.map_append,List.map_cons,List.map_nil,List.flatMap_append,List.flatMap_cons,List.flatMap_nil,List.length_append,List.append_nil] at ih ⊢
   rw[ih]
   simp[tH]
   omega
theorem iY.told {n:Nat} {G:VM S} (h:iY n G) (hn:n≤50) {ks:List Nat} (hk:Ks ks):iY (n+1) (zo G ks)∧get (zo G ks) mI=some (bJ (jy ks))∧∃ x,get (zo G ks) iQ=some x∧x.length=n+1:=by
 have s1:=h.dU.put mI (bJ (jy ks))
 have hne:mI≠iQ:=by decide
 have e1:get (zo G ks) mI=some (bJ (jy ks)):=by
   unfold zo
   rw[av s1 _ hne,aD h.dU]
 have e2:get (zo G ks) iQ=some ((get G iQ).getD []++[120]):=aD s1 _ _
 have hl:=qG ks
 have h6:=hk.len
 have hc:=h.cnt
 refine ⟨⟨s1.put _ _,fun k x q => ?_,by rw[e2];simp[hc]⟩,e1,_,e2,by simp[hc]⟩
 by_cases c1:k=iQ
 · subst c1
   rw[e2] at q;cases q
   exact .inr ⟨rfl,by simp[hc];omega⟩
 · by_cases c2:k=mI
   · subst c2
     rw[e1] at q;cases q
     exact .inl ⟨rfl,by omega⟩
   · have:get (zo G ks) k=get G k:=by
       unfold zo
       rw[av s1 _ c1,av h.dU _ c2]
     rw[this] at q
     exact h.keys k x q
end Hv
namespace Hv
theorem F9 {b:Nat}:∀ D:VM PD,(∀ p∈D,p.2.text.length≤b)→dz D≤b*D.length
 | [],_=>by simp[dz]
 | p::D,h=>by
   have h1:=F9 D (fun q hq=>h q (by simp[hq]))
   have h2:=h p (by simp)
   simp only[dz,List.map_cons,List.sum_cons,List.length_cons] at h1 ⊢
   rw[Nat.mul_add]
   omega
theorem uL {b:Nat}:∀ xs:List S,(∀ x∈xs,x.length≤b)→(xs.map List.length).sum≤b*xs.length
 | [],_=>by simp
 | x::xs,h=>by
   have h1:=uL xs (fun q hq=>h q (by simp[hq]))
   have h2:=h x (by simp)
   simp only[List.map_cons,List.sum_cons,List.length_cons]
   rw[Nat.mul_add]
   omega
theorem IQ (s:Int):bK (FU s).st.runs∧bK (FU s).st.aL:=by
 refine ⟨fun x hx=>(by cases hx),fun x hx => ?_⟩
 have:x=⟨5,mI,[],[]⟩∨x=⟨2,iQ,[120],[]⟩:=by simpa [FU,LJ] using hx
 rcases this with rfl | rfl<;>decide
theorem Xv {n:Nat} (h0:0<n) (h:n≤2):UInt8.ofNat (48+n)=49∨UInt8.ofNat (48+n)=50:=by
 have:n=1∨n=2:=by omega
 rcases this with rfl | rfl
 · exact .inl rfl
 · exact .inr rfl
theorem nI.fine {V:Nat→Nat} {D:VM PD} (h:nI V D) (hV:∀ j,j<6→V j≤2):bY D:=by
 refine ⟨fun k d q => ?_, .inr fun k d q => ?_⟩
 · rcases (h.get k d).1 q with ⟨rfl,rfl⟩ | ⟨j,hj,h0,rfl,rfl⟩
   · exact ⟨rfl,Mc⟩
   · exact ⟨rfl,BI (qy hj) (Xv h0 (hV j hj)) (fun n hn=>by cases hn) (by simp)⟩
 · rcases (h.get k d).1 q with ⟨rfl,rfl⟩ | ⟨j,hj,h0,rfl,rfl⟩
   · exact IQ 2
   · exact qB _ _ _ _ _
theorem nI.len {V:Nat→Nat} {D:VM PD} (h:nI V D):D.length≤7:=by
 have:=kC h.dU (ks:=[NJ,[cK 0],[cK 1],[cK 2],[cK 3],[cK 4],[cK 5]]) (fun k q=>by
   rw[aB] at q
   obtain ⟨d,hd⟩:=Option.isSome_iff_exists.1 q
   rcases (h.get k d).1 hd with ⟨rfl,_⟩ | ⟨j,hj,_,rfl,_⟩
   · simp
   · have:j=0∨j=1∨j=2∨j=3∨j=4∨j=5:=by omega
     rcases this with rfl | rfl | rfl | rfl | rfl | rfl<;>simp)
 simpa using this
theorem nI.texts {V:Nat→Nat} {D:VM PD} (h:nI V D):dz D≤1050:=by
 have h1:=h.len
 have h2:=F9 (b:=150) D (fun p hp=>by
   rcases (h.get p.1 p.2).1 ((get_some h.dU).2 hp) with ⟨_,e⟩ | ⟨j,_,_,_,e⟩
   · rw[e];show Tn.length≤150;decide
   · rw[e];have:=nZ (cK j) (UInt8.ofNat (48+V j)) [] false;rw[List.length_nil] at this;show (iE _ _ _ _).length≤150;omega)
 omega
end Hv
namespace Hv
structure rR (nm:Nat→Nat):Prop where
 lt:∀ i,i<6→nm i<6
 inj:∀ i j,i<6→j<6→nm i=nm j→i=j
def Ke (nm:Nat→Nat) (nb:Nat→Nat→Bool) (i:Nat):List UInt8:=((List.range i).filter (nb i)).map fun k=>cK (nm k)
def fU (nm:Nat→Nat) (nb:Nat→Nat→Bool) (i:Nat):S:=43::iE (cK (nm i)) 49 (Ke nm nb i) true
def fT (nm:Nat→Nat) (nb:Nat→Nat→Bool) (i:Nat):Item := .ins (iE (cK (nm i)) 49 (Ke nm nb i) true) [cK (nm i)] [49] (uh (cK (nm i)) (Ke nm nb i) true)
def oPD (nm:Nat→Nat) (nb:Nat→Nat→Bool) (s:Int) (i:Nat):PD:=xA (cK (nm i)) 49 (Ke nm nb i) true s
theorem oP {nm:Nat→Nat} {nb:Nat→Nat→Bool} {i:Nat} {c:UInt8}:c∈Ke nm nb i ↔ ∃ k,k<i∧nb i k=true∧c=cK (nm k):=by
 unfold Ke
 rw[List.mem_map]
 constructor
 · rintro ⟨k,hk,rfl⟩
   rw[List.mem_filter,List.mem_range] at hk
   exact ⟨k,hk.1,hk.2,rfl⟩
 · rintro ⟨k,h1,h2,rfl⟩
   exact ⟨k,by rw[List.mem_filter,List.mem_range];exact ⟨h1,h2⟩,rfl⟩
theorem vX {nm:Nat→Nat} (h:rR nm) (nb:Nat→Nat→Bool) {i:Nat} (hi:i<6):(∀ c∈Ke nm nb i,yu c)∧(Ke nm nb i).length≤6:=by
 refine ⟨fun c hc => ?_,?_⟩
 · obtain ⟨k,hk,_,rfl⟩:=oP.1 hc
   exact qy (h.lt k (by omega))
 · unfold Ke
   rw[List.length_map]
   have:=List.length_filter_le (nb i) (List.range i)
   rw[List.length_range] at this
   omega
theorem LQ {nm:Nat→Nat} (h:rR nm) (nb:Nat→Nat→Bool) {i:Nat} (hi:i<6):fQ (fU nm nb i)=some (fT nm nb i) :=
 Ef _ _ (qy (h.lt i hi)) (.inl rfl) _ (vX h nb hi).1 (vX h nb hi).2 true
theorem rE {nm:Nat→Nat} (h:rR nm) (nb:Nat→Nat→Bool) {i:Nat} (hi:i<6):(fU nm nb i).length≤160:=by
 have:=nZ (cK (nm i)) 49 (Ke nm nb i) true
 have:=(vX h nb hi).2
 simp only[fU,List.length_cons]
 omega
structure jE (l:List Nat):Prop where
 lt:∀ i∈l,i<6
 nd:l.Nodup
theorem jE.len {l:List Nat} (h:jE l):l.length≤6:=by
 have:=h.nd.length_le_of_subset (l₂:=[0,1,2,3,4,5]) (fun j hj=>by have:=h.lt j hj;simp;omega)
 simpa using this
theorem Tz {nm:Nat→Nat} (h:rR nm) (nb:Nat→Nat→Bool):∀ {l:List Nat},(∀ i∈l,i<6)→(l.map (fU nm nb)).map fQ=(l.map (fT nm nb)).map some
 | [],_=>rfl
 | i::l,hl=>by
   simp only[List.map_cons]
   rw[LQ h nb (hl i (by simp)),Tz h nb (fun j hj=>hl j (by simp[hj]))]
theorem TA (nm:Nat→Nat) (nb:Nat→Nat→Bool) (l:List Nat):(l.map (fT nm nb)).map Item.name=l.map fun i=>[cK (nm i)]:=by
 rw[List.map_map];rfl
theorem Aa {nm:Nat→Nat} (h:rR nm) {i j:Nat} (hi:i<6) (hj:j<6) (e:cK (nm i)=cK (nm j)):i=j:=h.inj i j hi hj (WI (h.lt i hi) (h.lt j hj) e)
theorem um {nm:Nat→Nat} (h:rR nm) (nb:Nat→Nat→Bool) {l:List Nat} (hl:jE l):((l.map (fT nm nb)).map Item.name).Nodup:=by
 rw[TA]
 have h1:=hl.lt
 have h2:=hl.nd
 clear hl
 induction l with
 | nil=>exact List.Pairwise.nil
 | cons a l ih =>
   obtain ⟨x,y⟩:=List.nodup_cons.1 h2
   rw[List.map_cons,List.nodup_cons]
   refine ⟨fun m => ?_,ih (fun j hj=>h1 j (by simp[hj])) y⟩
   obtain ⟨b,hb,e⟩:=List.mem_map.1 m
   have e':cK (nm b)=cK (nm a):=by simpa using e
   have:=Aa h (h1 b (by simp[hb])) (h1 a (by simp)) e'
   exact x (this▸hb)
structure oG (nm:Nat→Nat) (nb:Nat→Nat→Bool) (s:Int) (l:List Nat) (D:VM PD):Prop where
 dU:aM D
 get:∀ k d,get D k=some d ↔ ∃ i,i∈l∧k=[cK (nm i)]∧d=oPD nm nb s i
theorem SV {α:Type} {E:VM α} {ks:List S} (hn:ks.Nodup) (h:∀ k∈ks,has E k=true):ks.length≤E.length:=by
 have:=hn.length_le_of_subset (l₂:=E.map (·.1)) (fun k hk=>by
   obtain ⟨v,hv⟩:=WQ.1 (h k hk)
   exact List.mem_map.2 ⟨_,hv,rfl⟩)
 simpa using this
theorem oG.len {nm:Nat→Nat} (h:rR nm) {nb:Nat→Nat→Bool} {s:Int} {l:List Nat} (hl:jE l) {D:VM PD} (hD:oG nm nb s l D):D.length=l.length:=by
 have h1:=kC hD.dU (ks:=l.map fun i=>[cK (nm i)]) (fun k q=>by
   rw[aB] at q
   obtain ⟨d,hd⟩:=Option.isSome_iff_exists.1 q
   obtain ⟨i,hi,rfl,_⟩:=(hD.get k d).1 hd
   exact List.mem_map.2 ⟨i,hi,rfl⟩)
 have hn:=um h nb hl
 rw[TA] at hn
 have h2:=SV (E:=D) hn (fun k hk=>by
   obtain ⟨i,hi,rfl⟩:=List.mem_map.1 hk
   rw[aB,(hD.get _ _).2 ⟨i,hi,rfl,rfl⟩];rfl)
 simp only[List.length_map] at h1 h2
 omega
theorem oG.fine {nm:Nat→Nat} (h:rR nm) {nb:Nat→Nat→Bool} {s:Int} {l:List Nat} (hl:jE l) {D:VM PD} (hD:oG nm nb s l D):bY D:=by
 refine ⟨fun k d q => ?_, .inr fun k d q => ?_⟩
 · obtain ⟨i,hi,rfl,rfl⟩:=(hD.get k d).1 q
   have Le:=hl.lt i hi
   exact ⟨rfl,BI (qy (h.lt i Le)) (.inl rfl) (vX h nb Le).1 (vX h nb Le).2⟩
 · obtain ⟨i,hi,rfl,rfl⟩:=(hD.get k d).1 q
   exact qB _ _ _ _ _
theorem oG.texts {nm:Nat→Nat} (h:rR nm) {nb:Nat→Nat→Bool} {s:Int} {l:List Nat} (hl:jE l) {D:VM PD} (hD:oG nm nb s l D):dz D≤960:=by
 have h1:=hD.len h hl
 have h2:=hl.len
 have h3:=F9 (b:=160) D (fun p hp=>by
   obtain ⟨i,hi,_,e⟩:=(hD.get p.1 p.2).1 ((get_some hD.dU).2 hp)
   rw[e]
   have:=rE h nb (hl.lt i hi)
   simp only[fU,List.length_cons] at this
   show (iE _ _ _ _).length≤160
   omega)
 omega
theorem Tx {nm:Nat→Nat} {nb:Nat→Nat→Bool} {l:List Nat} {t k ve:S} {st:St}:Item.ins t k ve st∈l.map (fT nm nb) ↔ ∃ i∈l,t=iE (cK (nm i)) 49 (Ke nm nb i) true∧k=[cK (nm i)]∧ve=[49]∧st=uh (cK (nm i)) (Ke nm nb i) true:=by
 rw[List.mem_map]
 constructor
 · rintro ⟨i,hi,e⟩;cases e;exact ⟨i,hi,rfl,rfl,rfl,rfl⟩
 · rintro ⟨i,hi,rfl,rfl,rfl,rfl⟩;exact ⟨i,hi,rfl⟩
theorem adg {nm:Nat→Nat} {nb:Nat→Nat→Bool} {l:List Nat} {k:S} : ¬ Item.rem k∈l.map (fT nm nb):=by
 rw[List.mem_map];rintro ⟨i,hi,e⟩;cases e
theorem BM {nm:Nat→Nat} (h:rR nm) (nb:Nat→Nat→Bool) {l:List Nat} (hl:jE l):oG nm nb 1 l (aR [] (au (l.map (fT nm nb))).R (au (l.map (fT nm nb))).I):=by
 refine ⟨jX List.Pairwise.nil _ _,fun k d => ?_⟩
 rw[pG List.Pairwise.nil (um h nb hl)]
 constructor
 · rintro (⟨t,ve,st,m,rfl⟩ | ⟨q,_⟩)
   · obtain ⟨i,hi,rfl,rfl,rfl,rfl⟩:=Tx.1 m
     exact ⟨i,hi,rfl,rfl⟩
   · cases q
 · rintro ⟨i,hi,rfl,rfl⟩
   exact .inl ⟨_,_,_,Tx.2 ⟨i,hi,rfl,rfl,rfl,rfl⟩,rfl⟩
theorem IY {nm:Nat→Nat} (h:rR nm) (nb:Nat→Nat→Bool) {l:List Nat} (hl:jE l):Gn [] (l.map (fT nm nb)):=by
 have hT:=BM h nb hl
 refine ⟨fun k m=>absurd m adg,fun t k ve st m o ho=>(by cases ho),?_,fun k d q => ?_,fun k d q => ?_⟩
 · have:=hT.len h hl;have:=hl.len;omega
 · obtain ⟨i,hi,rfl,rfl⟩:=(hT.get k d).1 q;rfl
 · obtain ⟨i,hi,rfl,rfl⟩:=(hT.get k d).1 q;exact .inr rfl
theorem BN {nm:Nat→Nat} (h:rR nm) (nb:Nat→Nat→Bool) {l:List Nat} (hl:jE l) (h1:1≤l.length):wish (l.map (fU nm nb)) = .ok (au (l.map (fT nm nb))) :=
 uR (Tz h nb hl.lt) (um h nb hl) (by simpa using h1) (by simpa using hl.len)
theorem BL {nm:Nat→Nat} (h:rR nm) (nb:Nat→Nat→Bool) {l:List Nat} (hl:jE l) (h1:1≤l.length):∀ s,wish (l.map (fU nm nb)) = .ok s→∀ k d,get s.I k=some d→bK d.st.runs∧bK d.st.aL:=fun s hs k d q=>by
 rw[BN h nb hl h1] at hs
 cases hs
 obtain ⟨t,ve,st,m,rfl⟩:=((iB _ (um h nb hl)).Bt k d).1 q
 obtain ⟨i,_,_,_,_,rfl⟩:=Tx.1 m
 exact qB (cK (nm i)) 49 (Ke nm nb i) true 1
theorem Pv:(0:Int)≤(aC.compare [49] [49]).1:=by decide
theorem Ep {nm:Nat→Nat} {nb:Nat→Nat→Bool} {s:Int} {l:List Nat} {D:VM PD} (hD:oG nm nb s l D) {k:Nat} (hk:k∈l):gU D [cK (nm k)] [49]=true:=by
 unfold gU
 rw[(hD.get _ _).2 ⟨k,hk,rfl,rfl⟩]
 exact decide_eq_true (.inr Pv)
theorem Eo {nm:Nat→Nat} (h:rR nm) {nb:Nat→Nat→Bool} {s:Int} {l:List Nat} (hl:jE l) {D:VM PD} (hD:oG nm nb s l D) {k:Nat} (h6:k<6) (hk:k ∉ l):gU D [cK (nm k)] [49]=false:=by
 unfold gU
 cases q:get D [cK (nm k)] with
 | none=>rfl
 | some d =>
   obtain ⟨i,hi,e,_⟩:=(hD.get _ _).1 q
   have e':cK (nm k)=cK (nm i):=by simpa using e
   have:=Aa h h6 (hl.lt i hi) e'
   exact absurd (this▸hi) hk
def Need (nm:Nat→Nat) (nb:Nat→Nat→Bool) (a b:Nat):Prop:=∃ i k,i<6∧k<i∧nb i k=true∧nm i=a∧nm k=b
theorem PK {nm:Nat→Nat} (h:rR nm) (nb:Nat→Nat→Bool) {l:List Nat} (hl:jE l):jl 300 [] (l.map (fU nm nb))=false:=by
 refine wG ?_
 have h2:=uL (b:=160) (l.map (fU nm nb)) (fun x hx=>by obtain ⟨i,hi,rfl⟩:=List.mem_map.1 hx;exact rE h nb (hl.lt i hi))
 have h3:=hl.len
 rw[List.length_map] at h2
 have:dz []=0:=rfl
 omega
theorem I4 {nm:Nat→Nat} (h:rR nm) (nb:Nat→Nat→Bool) {l:List Nat} (hl:jE l) {i k:Nat} (hi:i∈l) (hki:k<i) (hb:nb i k=true) (hk:k ∉ l):check 300 [] [] (l.map (fU nm nb)) = .error 11:=by
 have h1:1≤l.length:=List.length_pos_of_mem hi
 have hT:=BM h nb hl
 have Le:=hl.lt i hi
 have hr:=wz (D:=[]) List.Pairwise.nil (um h nb hl) (IY h nb hl) ⟨[cK (nm i)],oPD nm nb 1 i,([cK (nm k)],[49]),(hT.get _ _).2 ⟨i,hi,rfl,rfl⟩,List.mem_map.2 ⟨cK (nm k),oP.2 ⟨k,hki,hb,rfl⟩,rfl⟩,Eo h hl hT (by omega) hk⟩
 have:=GX (n:=300) (G:=[]) (BN h nb hl h1) (by rw[hr];decide)
 rw[this,hr]
end Hv
end
end Go.Proofs.YtialenebfcnkkaaGreatDoor
