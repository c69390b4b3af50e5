/- OrdSpec3, FreshSpec, HavW5, KeepW2 -/
import Derived.Test.YtialenebfcnkkaaGreatDoorOrdJ31
import Derived.Test.YtialenebfcnkkaaGreatDoorOrdJ30
import Derived.Test.YtialenebfcnkkaaGreatDoorOrdJ7
import Derived.Test.YtialenebfcnkkaaGreatDoorOrdJ26
set_option maxHeartbeats 4000000
set_option maxRecDepth 100000
namespace Go.Proofs.YtialenebfcnkkaaGreatDoor
section
open aH (St gH)
open Hv (S VM)
namespace Hv
theorem xK:jE (List.range 6):=⟨fun i hi=>by simpa using hi,List.nodup_range⟩
theorem WZ {nm:Nat→Nat} (h:rR nm) (nb:Nat→Nat→Bool) {l:List Nat} (hl:jE l):oG nm nb 1 l (au (l.map (fT nm nb))).I:=by
 have hok:=iB _ (um h nb hl)
 refine ⟨hok.sI,fun k d => ?_⟩
 rw[hok.Bt]
 constructor
 · rintro ⟨t,ve,st,m,rfl⟩
   obtain ⟨i,hi,rfl,rfl,rfl,rfl⟩:=Tx.1 m
   exact ⟨i,hi,rfl,rfl⟩
 · rintro ⟨i,hi,rfl,rfl⟩
   exact ⟨_,_,_,Tx.2 ⟨i,hi,rfl,rfl,rfl,rfl⟩,rfl⟩
theorem Ao:∀ ord:List S,(∀ x∈ord,∃ a,a<6∧x=[cK a])→∃ q:List Nat,ord=q.map (fun a=>[cK a])∧∀ a∈q,a<6
 | [],_=>⟨[],rfl,fun a h=>by cases h⟩
 | x::ord,h=>by
   obtain ⟨q,e,hq⟩:=Ao ord (fun y hy=>h y (by simp[hy]))
   obtain ⟨a,ha,rfl⟩:=h x (by simp)
   exact ⟨a::q,by rw[e];rfl,fun b hb=>by
     rcases List.mem_cons.1 hb with rfl | hb
     · exact ha
     · exact hq b hb⟩
theorem D8 (q:List Nat):(q.map fun a=>[cK a]).flatten=q.map cK:=by
 induction q with
 | nil=>rfl
 | cons a q ih=>simp[ih]
theorem BQ (q:List Nat) (h:q.length≤6):iR ([(bG,q.map cK)]:VM S)=true:=by
 simp[iR]
 omega
theorem WX {nm:Nat→Nat} (h:rR nm) (nb:Nat→Nat→Bool) {l6:List Nat} (hl:jE l6) (hall:∀ i,i<6→i∈l6) (WB:l6.length=6) :
   ∃ (pl:Plan) (D':VM PD) (q:List Nat),check 300 [] [] (l6.map (fU nm nb)) = .ok pl∧0<pl.steps.length∧aJ pl (bP [] pl.cO,[]) pl.steps=(D',[(bG,q.map cK)])∧oG nm nb 2 l6 D'∧q.length=6∧(∀ a∈q,a<6)∧q.Nodup∧q.Pairwise fun a b => ¬ Need nm nb a b:=by
 have hnd:=um h nb hl
 have hok:=iB _ hnd
 have hT:=BM h nb hl
 have hI:=WZ h nb hl
 have hw:=BN h nb hl (by omega)
 have href:=nA (D:=[]) List.Pairwise.nil hnd (IY h nb hl) (fun k d q m hm=>by
   obtain ⟨i,hi,rfl,rfl⟩:=(hT.get k d).1 q
   obtain ⟨c,hc,rfl⟩:=List.mem_map.1 hm
   obtain ⟨k',hk',_,rfl⟩:=oP.1 hc
   exact Ep hT (hall _ (by have:=hl.lt i hi;omega)))
 obtain ⟨rank,Yf⟩:∃ rank:S→Nat,∀ i,i<6→rank [cK (nm i)]=i:=by
   refine ⟨fun k=>(l6.find? fun i=>[cK (nm i)]==k).getD 0,fun i hi => ?_⟩
   show (l6.find? fun j=>[cK (nm j)]==[cK (nm i)]).getD 0=i
   cases q:l6.find? fun j=>[cK (nm j)]==[cK (nm i)] with
   | none =>
     rw[List.find?_eq_none] at q
     exact absurd (q i (hall i hi)) (by simp)
   | some j =>
     have e:=List.find?_some q
     have m:=List.mem_of_find?_eq_some q
     simp only[beq_iff_eq] at e
     have e':cK (nm j)=cK (nm i):=by simpa using e
     exact Aa h (hl.lt j m) hi e'
 have SF:=LX hI.dU rank (fun k d q m hm _=>by
   obtain ⟨i,hi,rfl,rfl⟩:=(hI.get k d).1 q
   obtain ⟨c,hc,rfl⟩:=List.mem_map.1 hm
   obtain ⟨k',hk',_,rfl⟩:=oP.1 hc
   have Le:=hl.lt i hi
   show rank [cK (nm k')]<rank [cK (nm i)]
   rw[Yf k' (by omega),Yf i Le];exact hk')
 have hmem:=fun k=>dw aI hI.dU k
 have Lf:=I5 aI hI.dU
 have hlen:=rF aI (au (l6.map (fT nm nb))).I
 rw[hI.len h hl,WB] at hlen
 obtain ⟨q,hq,hq6⟩:=Ao (order aI (au (l6.map (fT nm nb))).I) (fun x hx=>by
   have:=(hmem x).1 hx
   rw[aB] at this
   obtain ⟨d,hd⟩:=Option.isSome_iff_exists.1 this
   obtain ⟨i,hi,rfl,_⟩:=(hI.get x d).1 hd
   exact ⟨nm i,h.lt i (hl.lt i hi),rfl⟩)
 have abR:∀ x∈order aI (au (l6.map (fT nm nb))).I,∃ d,get (aR [] (au (l6.map (fT nm nb))).R (au (l6.map (fT nm nb))).I) x=some d∧d.st.runs=[⟨2,bG,x,[]⟩]:=fun x hx=>by
   have:=(hmem x).1 hx
   rw[aB] at this
   obtain ⟨d,hd⟩:=Option.isSome_iff_exists.1 this
   obtain ⟨i,hi,rfl,_⟩:=(hI.get x d).1 hd
   exact ⟨_,(hT.get _ _).2 ⟨i,hi,rfl,rfl⟩,rfl⟩
 have hwk:(bf [] (au (l6.map (fT nm nb))).R (au (l6.map (fT nm nb))).I).cO=[] :=
   yc (fun k d q=>by obtain ⟨i,hi,rfl,rfl⟩:=(hT.get k d).1 q;rfl) hT.dU _
 have Ik:∀ l,(∀ x∈l,x∈order aI (au (l6.map (fT nm nb))).I)→l≠[]→lT (aR [] (au (l6.map (fT nm nb))).R (au (l6.map (fT nm nb))).I) l []=[(bG,l.flatten)]:=fun l hl' hne=>by
   rw[yE l [] List.Pairwise.nil (fun x hx=>abR x (hl' x hx)),if_neg hne]
   rfl
 rw[hq] at hlen Lf SF
 rw[List.length_map] at hlen
 have hover:=oU (D:=[]) (G:=[]) (R:=(au (l6.map (fT nm nb))).R) (I:=(au (l6.map (fT nm nb))).I) List.Pairwise.nil List.Pairwise.nil hok.sI rfl (fun k hk=>by
   rw[Ik _ (fun x hx=>List.mem_of_mem_take hx) (fun e=>by
     have:=congrArg List.length e
     rw[List.length_take,hq,List.length_map,hlen,List.length_nil] at this
     omega),hq,← List.map_take,D8]
   exact BQ _ (by rw[List.length_take];omega)) (fun k hk=>by rw[hwk] at hk;simp[keysOf] at hk)
 have hrun:=rG (D:=[]) (G:=[]) (R:=(au (l6.map (fT nm nb))).R) (I:=(au (l6.map (fT nm nb))).I) List.Pairwise.nil List.Pairwise.nil hok.sI (fun k d q=>by cases q)
 refine ⟨_,_,q,vC hw href hover (PK h nb hl),?_,hrun.trans (Prod.ext rfl ?_),⟨hT.dU.map fun d:PD=>d.to 2,fun k d => ?_⟩,hlen,hq6,?_,?_⟩
 · rw[ou,hq]
   simp
   omega
 · show Cx _ _ _ _=_
   rw[hwk,Ik _ (fun x hx=>hx) (fun e=>by rw[hq] at e;have:=congrArg List.length e;rw[List.length_map,hlen,List.length_nil] at this;omega),hq,D8]
   rfl
 · rw[get_map (aR [] (au (l6.map (fT nm nb))).R (au (l6.map (fT nm nb))).I) (fun d:PD=>d.to 2)]
   constructor
   · intro e
     obtain ⟨d0,h0,rfl⟩:=Option.map_eq_some_iff.1 e
     obtain ⟨i,hi,rfl,rfl⟩:=(hT.get k d0).1 h0
     exact ⟨i,hi,rfl,rfl⟩
   · rintro ⟨i,hi,rfl,rfl⟩
     rw[(hT.get _ _).2 ⟨i,hi,rfl,rfl⟩]
     rfl
 · rw[List.nodup_iff_pairwise_ne,List.pairwise_map] at Lf
   rw[List.nodup_iff_pairwise_ne]
   exact Lf.imp fun {a b} e e'=>e (by rw[e'])
 · rw[List.pairwise_map] at SF
   refine SF.imp fun {a b} hno Io=>hno ?_
   obtain ⟨i,k,hi,hki,hb,rfl,rfl⟩:=Io
   exact ⟨_,(hI.get _ _).2 ⟨i,hall i hi,rfl,rfl⟩,([cK (nm k)],[49]),List.mem_map.2 ⟨_,oP.2 ⟨k,hki,hb,rfl⟩,rfl⟩,rfl⟩
theorem TI {nm:Nat→Nat} (h:rR nm) (nb:Nat→Nat→Bool) :
   ∃ (pl:Plan) (D':VM PD) (q:List Nat),check 300 [] [] ((List.range 6).map (fU nm nb)) = .ok pl∧0<pl.steps.length∧aJ pl (bP [] pl.cO,[]) pl.steps=(D',[(bG,q.map cK)])∧oG nm nb 2 (List.range 6) D'∧q.length=6∧(∀ a∈q,a<6)∧q.Nodup∧q.Pairwise fun a b => ¬ Need nm nb a b :=
 WX h nb xK (fun _ hi=>List.mem_range.2 hi) List.length_range
theorem BK {nm:Nat→Nat} (h:rR nm) {nb:Nat→Nat→Bool} {D:VM PD} (hD:oG nm nb 2 (List.range 6) D) {g:Nat} (hg:g<6):oG nm nb 2 ((List.range 6).filter fun i => !(i==g)) (aR D (au [Item.rem [cK (nm g)]]).R (au [Item.rem [cK (nm g)]]).I):=by
 refine ⟨jX hD.dU _ _,fun k d => ?_⟩
 rw[pG hD.dU (by simp)]
 constructor
 · rintro (⟨t,ve,st,m,rfl⟩ | ⟨q,hn⟩)
   · simp at m
   · obtain ⟨i,hi,rfl,rfl⟩:=(hD.get k d).1 q
     refine ⟨i,?_,rfl,rfl⟩
     rw[List.mem_filter]
     refine ⟨hi,?_⟩
     simp only[Bool.not_eq_true',beq_eq_false_iff_ne]
     rintro rfl
     exact hn (by simp[Item.name])
 · rintro ⟨i,hi,rfl,rfl⟩
   rw[List.mem_filter] at hi
   simp only[Bool.not_eq_true',beq_eq_false_iff_ne] at hi
   refine .inr ⟨(hD.get _ _).2 ⟨i,hi.1,rfl,rfl⟩,fun m=>hi.2 ?_⟩
   have e:cK (nm i)=cK (nm g):=by simpa [Item.name] using m
   exact Aa h (by simpa using hi.1) hg e
theorem wB {c:UInt8} (hc:yu c):wish [[45,c]] = .ok (au [Item.rem [c]]) :=
 uR (is:=[Item.rem [c]]) (by simp[SS hc]) (by simp) (by simp) (by simp)
theorem yO (g:Nat):jE ((List.range 6).filter fun i => !(i==g)):=⟨fun i hi=>by rw[List.mem_filter] at hi;simpa using hi.1,xK.nd.filter _⟩
theorem Jm {nm:Nat→Nat} (h:rR nm) {nb:Nat→Nat→Bool} {D:VM PD} (hD:oG nm nb 2 (List.range 6) D) {g:Nat} (hg:g<6):Gn D [Item.rem [cK (nm g)]]:=by
 have hT:=BK h hD hg
 refine ⟨fun k m => ?_,fun t k ve st m o ho=>(by simp at m),?_,fun k d q => ?_,fun k d q => ?_⟩
 · simp only[List.mem_singleton,Item.rem,Sum.inl.injEq] at m
   subst m
   rw[aB,(hD.get _ _).2 ⟨g,by simpa using hg,rfl,rfl⟩];rfl
 · have:=hT.len h (yO g);have:=(yO g).len;omega
 · obtain ⟨i,hi,rfl,rfl⟩:=(hT.get k d).1 q;rfl
 · obtain ⟨i,hi,rfl,rfl⟩:=(hT.get k d).1 q;exact .inr rfl
theorem Jo {nm:Nat→Nat} (h:rR nm) {nb:Nat→Nat→Bool} {D:VM PD} {G:VM S} (hD:oG nm nb 2 (List.range 6) D) {g i:Nat} (hi:i<6) (hgi:g<i) (hb:nb i g=true):check 300 D G [[45,cK (nm g)]] = .error 11:=by
 have hg:g<6:=by omega
 have hT:=BK h hD hg
 have hr:=wz (D:=D) hD.dU (is:=[Item.rem [cK (nm g)]]) (by simp) (Jm h hD hg) ⟨[cK (nm i)],oPD nm nb 2 i,([cK (nm g)],[49]),(hT.get _ _).2 ⟨i,by rw[List.mem_filter];exact ⟨by simpa using hi,by simp;omega⟩,rfl,rfl⟩,List.mem_map.2 ⟨cK (nm g),oP.2 ⟨g,hgi,hb,rfl⟩,rfl⟩,Eo h (yO g) hT hg (by rw[List.mem_filter];simp)⟩
 have:=GX (n:=300) (G:=G) (wB (qy (h.lt g hg))) (by rw[hr];decide)
 rw[this,hr]
theorem aap {nm:Nat→Nat} (h:rR nm) {nb:Nat→Nat→Bool} {D:VM PD} {q:List Nat} (hq:q.length≤6) (hD:oG nm nb 2 (List.range 6) D) {g:Nat} (hg:g<6) (hb:∀ i,i<6→g<i→nb i g=false) :
   ∃ pl D',check 300 D [(bG,q.map cK)] [[45,cK (nm g)]] = .ok pl∧0<pl.steps.length∧aJ pl (bP D pl.cO,[(bG,q.map cK)]) pl.steps=(D',[(bG,q.map cK)])∧oG nm nb 2 ((List.range 6).filter fun i => !(i==g)) D':=by
 have hT:=BK h hD hg
 have hok:=iB [Item.rem [cK (nm g)]] (by simp)
 have hI:(au [Item.rem [cK (nm g)]]).I=[]:=rfl
 have hsG:aM ([(bG,q.map cK)]:VM S):=by simp[aM]
 have href:=nA (D:=D) hD.dU (is:=[Item.rem [cK (nm g)]]) (by simp) (Jm h hD hg) (fun k d e m hm=>by
   obtain ⟨i,hi,rfl,rfl⟩:=(hT.get k d).1 e
   obtain ⟨c,hc,rfl⟩:=List.mem_map.1 hm
   obtain ⟨k',hk',hb',rfl⟩:=oP.1 hc
   have Le:=(yO g).lt i hi
   refine Ep hT ?_
   rw[List.mem_filter]
   refine ⟨by simp;omega,?_⟩
   simp only[Bool.not_eq_true',beq_eq_false_iff_ne]
   rintro rfl
   rw[hb i Le hk'] at hb';cases hb')
 have hwk:(bf D (au [Item.rem [cK (nm g)]]).R (au [Item.rem [cK (nm g)]]).I).cO=[] :=
   yc (fun k d e=>by obtain ⟨i,hi,rfl,rfl⟩:=(hT.get k d).1 e;rfl) hT.dU _
 have Sy:order aI (au [Item.rem [cK (nm g)]]).I=[]:=rfl
 have hover:=oU (D:=D) (G:=[(bG,q.map cK)]) (R:=(au [Item.rem [cK (nm g)]]).R) (I:=(au [Item.rem [cK (nm g)]]).I) hD.dU hsG hok.sI (BQ q hq) (fun k hk=>by rw[Sy] at hk;simp at hk) (fun k hk=>by rw[hwk] at hk;simp[keysOf] at hk)
 have hsm:jl 300 D [[45,cK (nm g)]]=false:=wG (by have:=hD.texts h xK;simp;omega)
 have hrun:=rG (D:=D) (G:=[(bG,q.map cK)]) (R:=(au [Item.rem [cK (nm g)]]).R) (I:=(au [Item.rem [cK (nm g)]]).I) hD.dU hsG hok.sI (fun k d e=>by obtain ⟨i,hi,rfl,rfl⟩:=(hD.get k d).1 e;rfl)
 refine ⟨_,_,vC (wB (qy (h.lt g hg))) href hover hsm,?_,hrun.trans (Prod.ext rfl ?_),⟨hT.dU.map fun d:PD=>d.to 2,fun k d => ?_⟩⟩
 · rw[ou]
   have:0<(order bC (leaveD D (au [Item.rem [cK (nm g)]]).R)).length:=by
     refine List.length_pos_of_mem (a:=[cK (nm g)]) ((dw bC (iD hD.dU _) _).2 ?_)
     rw[aB,iC hD.dU,if_pos ((hok.Qg _).2 (by simp)),(hD.get _ _).2 ⟨g,by simpa using hg,rfl,rfl⟩]
     rfl
   simp only[List.length_append,List.length_map]
   omega
 · show Cx _ _ _ _=_
   rw[hwk,Sy]
   rfl
 · rw[get_map (aR D (au [Item.rem [cK (nm g)]]).R (au [Item.rem [cK (nm g)]]).I) (fun d:PD=>d.to 2)]
   constructor
   · intro e
     obtain ⟨d0,h0,rfl⟩:=Option.map_eq_some_iff.1 e
     obtain ⟨i,hi,rfl,rfl⟩:=(hT.get k d0).1 h0
     exact ⟨i,hi,rfl,rfl⟩
   · rintro ⟨i,hi,rfl,rfl⟩
     rw[(hT.get _ _).2 ⟨i,hi,rfl,rfl⟩]
     rfl
end Hv
namespace Hv
theorem QI {T:VM PD}:dN T []=[]:=by
 unfold dN
 rw[List.filterMap_eq_nil_iff]
 intro p _
 rw[if_pos (by rfl)]
theorem aai {x t nm ve:S} {st:St} (hi:fQ x=some (.ins t nm ve st)) (hn:st.needs=[]) (hb:st.breaks=[]) (hr:st.runs=[]) (hp:st.files.map (·.1)=[]∨st.files.map (·.1)=[tH nm]) (hw:st.wakes=[]∨st.files=[]) (hc:bK st.aL) (hx:x.length≤1000) :
   ∃ pl,check 300 [] [] [x] = .ok pl∧0<pl.steps.length∧(∀ s,wish [x] = .ok s→∀ k d,get s.I k=some d→bK d.st.runs∧bK d.st.aL)∧aJ pl (bP [] pl.cO,[]) pl.steps=([(nm,⟨t,nm,ve,st,2⟩)],[]):=by
 have hnd:([Item.ins t nm ve st].map Item.name).Nodup:=by simp
 have hok:=iB [Item.ins t nm ve st] hnd
 have hwi:wish [x] = .ok (au [Item.ins t nm ve st]):=uR (is:=[Item.ins t nm ve st]) (by simp[hi]) hnd (by simp) (by simp)
 have sT:=jX (D:=[]) List.Pairwise.nil (au [Item.ins t nm ve st]).R (au [Item.ins t nm ve st]).I
 have hT:∀ k d,get (aR [] (au [Item.ins t nm ve st]).R (au [Item.ins t nm ve st]).I) k=some d ↔ k=nm∧d=⟨t,nm,ve,st,1⟩:=fun k d=>by
   rw[pG List.Pairwise.nil hnd]
   constructor
   · rintro (⟨t',ve',st',m,rfl⟩ | ⟨q,_⟩)
     · simp only[List.mem_singleton,Item.ins,Sum.inr.injEq,Prod.mk.injEq] at m
       obtain ⟨rfl,rfl,rfl,rfl⟩:=m
       exact ⟨rfl,rfl⟩
     · cases q
   · rintro ⟨rfl,rfl⟩;exact .inl ⟨t,ve,st,by simp,rfl⟩
 have hf:Gn [] [Item.ins t nm ve st]:=by
   refine ⟨fun k m=>(by simp at m),fun t k ve st m o ho=>(by cases ho),?_,fun k d q => ?_,fun k d q => ?_⟩
   · have:=kC sT (ks:=[nm]) (fun k q=>by
       rw[aB] at q
       obtain ⟨d,hd⟩:=Option.isSome_iff_exists.1 q
       rw[((hT k d).1 hd).1];simp)
     simp at this;omega
   · obtain ⟨rfl,rfl⟩:=(hT k d).1 q;exact hb
   · obtain ⟨rfl,rfl⟩:=(hT k d).1 q;exact hp
 have href:=nA (D:=[]) List.Pairwise.nil hnd hf (fun k d q m hm=>by
   obtain ⟨rfl,rfl⟩:=(hT k d).1 q
   rw[show (PD.st ⟨t,k,ve,st,1⟩).needs=st.needs from rfl,hn] at hm;cases hm)
 have hwk:(bf [] (au [Item.ins t nm ve st]).R (au [Item.ins t nm ve st]).I).cO=[]:=by
   show dN (aR [] _ _) (keysOf (aT [] _ _))=[]
   rcases hw with hw | hw
   · exact yc (fun k d q=>by obtain ⟨rfl,rfl⟩:=(hT k d).1 q;exact hw) sT _
   · have e:aT [] (au [Item.ins t nm ve st]).R (au [Item.ins t nm ve st]).I=[]:=by
       refine Gc (qc []).1 List.Pairwise.nil (qc []).2.1 (fun k v q=>by cases q) fun y => ?_
       rw[(qc y).2.2]
       constructor
       · rintro (⟨p,hp,hy⟩ | ⟨p,hp,hy⟩)
         · cases hy
         · rcases hy with hy | hy
           · cases hy
           · obtain ⟨t',ve',st',m,e⟩:=(hok.Bt p.1 p.2).1 ((get_some hok.sI).2 hp)
             simp only[List.mem_singleton,Item.ins,Sum.inr.injEq,Prod.mk.injEq] at m
             obtain ⟨rfl,e1,rfl,rfl⟩:=m
             rw[e] at hy
             simp[PD.paths,hw] at hy
       · intro q;simp[has] at q
     rw[e]
     exact QI
 have Ik:∀ l,lT (aR [] (au [Item.ins t nm ve st]).R (au [Item.ins t nm ve st]).I) l []=[]:=fun l=>qg l [] (fun k d q=>by obtain ⟨rfl,rfl⟩:=(hT k d).1 q;exact hr)
 have hover:=oU (D:=[]) (G:=[]) (R:=(au [Item.ins t nm ve st]).R) (I:=(au [Item.ins t nm ve st]).I) List.Pairwise.nil List.Pairwise.nil hok.sI rfl (fun k _=>by rw[Ik];rfl) (fun k hk=>by rw[hwk] at hk;simp[keysOf] at hk)
 have hrun:=rG (D:=[]) (G:=[]) (R:=(au [Item.ins t nm ve st]).R) (I:=(au [Item.ins t nm ve st]).I) List.Pairwise.nil List.Pairwise.nil hok.sI (fun k d q=>by cases q)
 refine ⟨_,vC hwi href hover (wG (by have:dz []=0:=rfl;simp;omega)),?_,?_,hrun.trans (Prod.ext ?_ ?_)⟩
 · rw[ou]
   have:0<(order aI (au [Item.ins t nm ve st]).I).length:=by
     refine List.length_pos_of_mem (a:=nm) ((dw aI hok.sI _).2 ?_)
     rw[aB,(hok.Bt nm _).2 ⟨t,ve,st,by simp,rfl⟩];rfl
   simp only[List.length_append,List.length_map]
   omega
 · intro s hs k d q
   rw[hwi] at hs
   cases hs
   obtain ⟨t',ve',st',m,rfl⟩:=(hok.Bt k d).1 q
   simp only[List.mem_singleton,Item.ins,Sum.inr.injEq,Prod.mk.injEq] at m
   obtain ⟨rfl,rfl,rfl,rfl⟩:=m
   exact ⟨(by rw[show (PD.st ⟨t',k,ve',st',1⟩).runs=st'.runs from rfl,hr];intro c hc;cases hc),hc⟩
 · show (aR [] _ _).map _=_
   have s1:aM ([(nm,(⟨t,nm,ve,st,2⟩:PD))]:VM PD):=by simp[aM]
   refine (sT.map fun d:PD=>d.to 2).dD s1 fun k => ?_
   rw[get_map (aR [] (au [Item.ins t nm ve st]).R (au [Item.ins t nm ve st]).I) (fun d:PD=>d.to 2)]
   cases q:get (aR [] (au [Item.ins t nm ve st]).R (au [Item.ins t nm ve st]).I) k with
   | none =>
     symm
     show get _ k=none
     rw[get_none]
     intro p hp e
     simp only[List.mem_singleton] at hp
     subst hp
     have:=(hT k _).2 ⟨e.symm,rfl⟩
     rw[q] at this;cases this
   | some d =>
     obtain ⟨rfl,rfl⟩:=(hT k d).1 q
     symm
     exact (get_some s1).2 (by simp[PD.to])
 · show Cx _ _ _ _=_
   rw[Ik,hwk]
   rfl
theorem WV {c:UInt8} (hc:yu c) (d0:PD) (hd:d0.status=2) (ht:d0.text.length≤1000) :
   ∃ pl,check 300 [([c],d0)] [] [[45,c]] = .ok pl∧0<pl.steps.length∧aJ pl (bP [([c],d0)] pl.cO,[]) pl.steps=([],[]):=by
 have hnd:([Item.rem [c]].map Item.name).Nodup:=by simp
 have hok:=iB [Item.rem [c]] hnd
 have s1:aM ([([c],d0)]:VM PD):=by simp[aM]
 have sT:=jX s1 (au [Item.rem [c]]).R (au [Item.rem [c]]).I
 have hT:∀ k d,get (aR [([c],d0)] (au [Item.rem [c]]).R (au [Item.rem [c]]).I) k≠some d:=fun k d q=>by
   rcases (pG s1 hnd k d).1 q with ⟨t',ve',st',m,rfl⟩ | ⟨q,hn⟩
   · simp at m
   · have:=(get_some s1).1 q
     simp only[List.mem_singleton,Prod.mk.injEq] at this
     exact hn (by simp[Item.name,this.1])
 have eT:aR [([c],d0)] (au [Item.rem [c]]).R (au [Item.rem [c]]).I=[]:=sT.dD List.Pairwise.nil fun k=>by
   cases q:get (aR [([c],d0)] (au [Item.rem [c]]).R (au [Item.rem [c]]).I) k with
   | none=>rfl
   | some d=>exact absurd q (hT k d)
 have hf:Gn [([c],d0)] [Item.rem [c]]:=by
   refine ⟨fun k m => ?_,fun t k ve st m o ho=>(by simp at m),(by rw[eT];simp),fun k d q=>absurd q (hT k d),fun k d q=>absurd q (hT k d)⟩
   simp only[List.mem_singleton,Item.rem,Sum.inl.injEq] at m
   subst m
   exact zT (v:=d0) (by simp)
 have href:=nA s1 hnd hf (fun k d q=>absurd q (hT k d))
 have hwk:(bf [([c],d0)] (au [Item.rem [c]]).R (au [Item.rem [c]]).I).cO=[]:=by
   show dN (aR [([c],d0)] _ _) _=[]
   rw[eT];rfl
 have Sy:order aI (au [Item.rem [c]]).I=[]:=rfl
 have hover:=oU (D:=[([c],d0)]) (G:=[]) (R:=(au [Item.rem [c]]).R) (I:=(au [Item.rem [c]]).I) s1 List.Pairwise.nil hok.sI rfl (fun k hk=>by rw[Sy] at hk;simp at hk) (fun k hk=>by rw[hwk] at hk;simp[keysOf] at hk)
 have hrun:=rG (D:=[([c],d0)]) (G:=[]) (R:=(au [Item.rem [c]]).R) (I:=(au [Item.rem [c]]).I) s1 List.Pairwise.nil hok.sI (fun k d q=>by
   have:=(get_some s1).1 q
   simp only[List.mem_singleton,Prod.mk.injEq] at this
   rw[this.2];exact hd)
 refine ⟨_,vC (wB hc) href hover (wG (by simp[dz];omega)),?_,hrun.trans (Prod.ext ?_ ?_)⟩
 · rw[ou]
   have:0<(order bC (leaveD [([c],d0)] (au [Item.rem [c]]).R)).length:=by
     refine List.length_pos_of_mem (a:=[c]) ((dw bC (iD s1 _) _).2 ?_)
     rw[aB,iC s1,if_pos ((hok.Qg _).2 (by simp)),(get_some s1 (k:=[c]) (v:=d0)).2 (by simp)]
     rfl
   simp only[List.length_append,List.length_map]
   omega
 · show (aR _ _ _).map _=_
   rw[eT];rfl
 · show Cx _ _ _ _=_
   rw[hwk,Sy]
   rfl
end Hv
end
section
open Go.RowKit
open aH (St gH)
open Hv (S Dk VM)
namespace Hv
theorem wh:∀ (l:List (S × S)) {E:VM S} {path:S},aM E→(∀ f∈l,f.1≠path)→get (dV E l) path=get E path
 | [],_,_,_,_=>rfl
 | f::l,E,path,hs,h=>by
   have e:dV E (f::l)=dV (put E f.1 f.2) l:=rfl
   rw[e,wh l (hs.put _ _) (fun g hg=>h g (by simp[hg])),av hs _ (fun q=>h f (by simp) q.symm)]
theorem zq:∀ (D:VM PD) {G:VM S} {path:S},aM G→(∀ p∈D,∀ f∈p.2.st.files,f.1≠path)→get (dM D G) path=get G path
 | [],_,_,_,_=>rfl
 | p::D,G,path,hs,h=>by
   have e:dM (p::D) G=dM D (dV G p.2.st.files):=rfl
   rw[e,zq D (mF _ hs) (fun q hq=>h q (by simp[hq])),wh _ hs (h p (by simp))]
theorem Qz {D:VM PD} {G:VM S} (hD:Named D) (sD:aM D) (sG:aM G) {path:S} (hp:Wd.under path=true):get (dM D G) path=get G path :=
 zq D sG fun p hp' f hf e=>by
   have hd:=(hD p.1 p.2 ((get_some sD).2 hp')).2
   have:=((bW hd).2.2.files f hf).2
   rw[e,hp] at this
   cases this
structure uZ (D:VM PD) (G:VM S):Prop where
 fine:bY D
 len:D.length≤12
 few:G.length≤16
 short:Short 200 G
 keys:GK G
end Hv
open Hv (uZ)
def iJ (F:Nat→Prop) (V hb:Nat) (D:VM Hv.PD) (G:VM S) (w:World):Prop :=
 ∃ C N eb sb mb pm fm db a b c h d P,gV C N hb eb sb mb pm fm db 300 a b c h d P D G w∧jK 300 V a b h d∧(∀ k,(dZ C eb sb pm fm k∨k=hb)∨k=mb∨N k→F k)∧∀ k,F k→k<w.heap.size
theorem iJ.lt {F:Nat→Prop} {V hb:Nat} {D:VM Hv.PD} {G:VM S} {w:World} (h:iJ F V hb D G w):∀ k,F k→k<w.heap.size:=by
 obtain ⟨C,N,eb,sb,mb,pm,fm,db,a,b,c,hh,d,P,h1,h2,h3,h4⟩:=h
 exact h4
theorem iJ.base {F:Nat→Prop} {V hb:Nat} {D:VM Hv.PD} {G:VM S} {w:World} (h:iJ F V hb D G w):Base w:=by
 obtain ⟨C,N,eb,sb,mb,pm,fm,db,a,b,c,hh,d,P,h1,h2,h3,h4⟩:=h
 exact h1.dR.base
theorem iJ.below {F:Nat→Prop} {V hb:Nat} {D:VM Hv.PD} {G:VM S} {w w':World} (h:iJ F V hb D G w) (q:Below w.heap.size w w'):iJ F V hb D G w':=by
 obtain ⟨C,N,eb,sb,mb,pm,fm,db,a,b,c,hh,d,P,h1,h2,h3,h4⟩:=h
 exact ⟨C,N,eb,sb,mb,pm,fm,db,a,b,c,hh,d,P,h1.below q,h2,h3,fun k hk=>Nat.lt_of_lt_of_le (h4 k hk) q.size⟩
theorem iJ.aside {F:Nat→Prop} {V hb g:Nat} {D:VM Hv.PD} {G:VM S} {w w':World} (h:iJ F V hb D G w) (hf:aQ w.heap.size (fun q=>q=g) w w') (hg : ¬ F g) (hl:12≤g):iJ F V hb D G w':=by
 obtain ⟨C,N,eb,sb,mb,pm,fm,db,a,b,c,hh,d,P,h1,h2,h3,h4⟩:=h
 have nf:∀ k,(dZ C eb sb pm fm k∨k=hb)∨k=mb∨N k→g≠k:=fun k hk e=>hg (e▸h3 k hk)
 refine ⟨C,N,eb,sb,mb,pm,fm,db,a,b,c,hh,d,P,⟨(hf.block hb (blt h1.blk) (fun q=>nf hb (.inl (.inr rfl)) q.symm)).trans h1.blk,h1.dR.aside ⟨fun q=>nf g (.inl (.inl (.inl q))) rfl,fun q=>nf g (.inr (.inr q)) rfl,nf eb (.inl (.inl (.inr (.inl rfl)))),nf sb (.inl (.inl (.inr (.inr (.inl rfl))))),nf mb (.inr (.inl rfl)),nf pm (.inl (.inl (.inr (.inr (.inr (.inl rfl)))))),nf fm (.inl (.inl (.inr (.inr (.inr (.inr rfl))))))⟩ hl hf,h1.off,h1.low⟩,h2,h3,fun k hk=>Nat.lt_of_lt_of_le (h4 k hk) hf.size⟩
theorem Nb {C N:Nat→Prop} {hb eb sb mb pm fm db n a b c:Nat} {h:S} {d:Dk} {P:VM Value} {D:VM Hv.PD} {G:VM S} {w:World} (e:gV C N hb eb sb mb pm fm db n a b c h d P D G w):∀ k,(dZ C eb sb pm fm k∨k=hb)∨k=mb∨N k→k<w.heap.size:=by
 rintro k (((q | rfl | rfl | rfl | rfl) | rfl) | rfl | q)
 · exact e.dR.dk.lt k q
 · exact blt e.dR.dR
 · exact e.dR.st.lt
 · exact e.dR.iM.packs.lt
 · exact e.dR.iM.files.lt
 · exact blt e.blk
 · exact blt e.dR.iM.blk
 · exact (e.dR.rows k q).1
theorem lu {F:Nat→Prop} {V hb:Nat} {D:VM Hv.PD} {G:VM S} (v:Value) (xs:List S) (pl:Hv.Plan) (D':VM Hv.PD) (G':VM S) (hck:Hv.check 300 D G xs = .ok pl) (hsteps:0<pl.steps.length) (hrun:Hv.aJ pl (Hv.bP D pl.cO,G) pl.steps=(D',G')) (hxs:∀ x∈xs,x.length≤100000) (hM:uZ D G) (hcp:∀ s,Hv.wish xs = .ok s→∀ k d,Hv.get s.I k=some d→bK d.st.runs∧bK d.st.aL) (hW:V≤500000000) (w:World) (he:iJ F V hb D G w) (hv:Reads w v xs) (hva:∀ g,v.ownBlock=some g → ¬ F g) :
   Calls Tryz.prog 10 #[.pointer (some ⟨hb,0,none⟩),v] w fun e w'=>∃ F',e = .returned (.int .i64 0)∧iJ F' (V+3000000) hb D' G' w'∧aQ w.heap.size F w w'∧∀ k,F' k→F k∨w.heap.size≤k:=by
 obtain ⟨C,N,eb,sb,mb,pm,fm,db,a,b,c,hh,d,P,h1,h2,h3,h4⟩:=he
 refine (Pd hb eb sb mb pm fm db 300 a b c hh d V P D G v xs pl hck hsteps hxs hM.fine hM.len hM.few hM.short hM.keys (.inr hcp) h2 hW (by omega) w h1 hv (fun g hg e=>hva g hg (h3 g (.inl (.inr e))))).mono ?_
 rintro e w' ⟨C',N',d',P',b',h',rfl,q1,q2,q3,q4,q5⟩
 rw[hrun] at q1
 refine ⟨fun k=>(dZ C' eb sb pm fm k∨k=hb)∨k=mb∨N' k,rfl,⟨C',N',eb,sb,mb,pm,fm,db,a,b',0,h',d',P',q1,q2,fun k hk=>hk,Nb q1⟩,q3.mono (Nat.le_refl _) (fun k _ hk=>h3 k (.inl hk)),fun k hk => ?_⟩
 rcases hk with ((hk | hk) | hk) | hk | hk
 · exact (q4 k hk).imp (fun q=>h3 k (.inl (.inl (.inl q)))) id
 · exact .inl (h3 k (.inl (.inl (.inr hk))))
 · exact .inl (h3 k (.inl (.inr hk)))
 · exact .inl (h3 k (.inr (.inl hk)))
 · exact (q5 k hk).imp (fun q=>h3 k (.inr (.inr q))) id
theorem wE {F:Nat→Prop} {V hb:Nat} {D:VM Hv.PD} {G:VM S} (v:Value) (xs:List S) (k:Int) (hk:k≠0) (hck:Hv.check 300 D G xs = .error k) (hxl:xs.length≤1000000) (hxs:∀ x∈xs,x.length≤100000) (hM:uZ D G) (hcp:∀ s,Hv.wish xs = .ok s→∀ k d,Hv.get s.I k=some d→bK d.st.runs∧bK d.st.aL) (w:World) (he:iJ F V hb D G w) (hv:Reads w v xs) (hva:∀ g,v.ownBlock=some g → ¬ F g) :
   Calls Tryz.prog 10 #[.pointer (some ⟨hb,0,none⟩),v] w fun e w'=>e = .returned (.int .i64 k)∧iJ F V hb D G w'∧aQ w.heap.size F w w':=by
 obtain ⟨C,N,eb,sb,mb,pm,fm,db,a,b,c,hh,d,P,h1,h2,h3,h4⟩:=he
 refine (Pb hb eb sb mb pm fm db 300 a b c hh d P D G v xs k hk hck hxl hxs hM.fine hM.len hM.few hM.short (.inr hcp) (by omega) w h1 hv (fun g hg e=>hva g hg (h3 g (.inl (.inr e))))).mono ?_
 rintro e w' ⟨rfl,q1,q2⟩
 exact ⟨rfl,⟨C,N,eb,sb,mb,pm,fm,db,a,b,c,hh,d,P,q1,h2,h3,fun k hk=>Nat.lt_of_lt_of_le (h4 k hk) q2.size⟩,q2.mono (Nat.le_refl _) (fun k _ e=>h3 k (.inl (.inr e)))⟩
theorem om {F:Nat→Prop} {V hb:Nat} {D:VM Hv.PD} {G:VM S} (hM:uZ D G) (w:World) (he:iJ F V hb D G w) :
   Calls Tryz.prog 11 #[.pointer (some ⟨hb,0,none⟩)] w fun e w'=>∃ v,e = .returned v∧w'.ownsRow w.heap.size 41 3 v D.length (D.flatMap zK)∧iJ F V hb D G w'∧aQ w.heap.size F w w':=by
 obtain ⟨C,N,eb,sb,mb,pm,fm,db,a,b,c,hh,d,P,h1,h2,h3,h4⟩:=he
 refine (Lg hb eb sb mb pm fm db 300 a b c hh d P D G hM.len hM.fine w h1).mono ?_
 rintro e w' ⟨v,rfl,q0,q1,q2⟩
 exact ⟨v,rfl,q0,⟨C,N,eb,sb,mb,pm,fm,db,a,b,c,hh,d,P,q1,h2,h3,fun k hk=>Nat.lt_of_lt_of_le (h4 k hk) q2.size⟩,q2.mono (Nat.le_refl _) (fun k _ e=>h3 k (.inl (.inr e)))⟩
theorem Jw {F:Nat→Prop} {V hb:Nat} {D:VM Hv.PD} {G:VM S} (hM:uZ D G) (path:S) (hp:Wd.under path=true) (w:World) (he:iJ F V hb D G w) :
   Calls Tryz.prog 12 #[.pointer (some ⟨hb,0,none⟩), .string ⟨path.toArray⟩] w fun e w'=>e = .returned (.string ⟨((Hv.get G path).getD []).toArray⟩)∧iJ F V hb D G w'∧aQ w.heap.size F w w':=by
 obtain ⟨C,N,eb,sb,mb,pm,fm,db,a,b,c,hh,d,P,h1,h2,h3,h4⟩:=he
 have ht:=Hv.Qz hM.fine.named h1.dR.pk.dU (Hv.bq h1.dR.iM.files.1) hp
 refine (Hf hb eb sb mb pm fm db 300 a b c hh d P D G path hM.len hM.fine hM.few hM.keys w h1).mono ?_
 rintro e w' ⟨rfl,q1,q2⟩
 rw[ht]
 exact ⟨rfl,⟨C,N,eb,sb,mb,pm,fm,db,a,b,c,hh,d,P,q1,h2,h3,fun k hk=>Nat.lt_of_lt_of_le (h4 k hk) q2.size⟩,q2.mono (Nat.le_refl _) (fun k _ e=>h3 k (.inl (.inr e)))⟩
end
section
open Go.RowKit
open Hv (S Dk VM)
def gY:S:=List.replicate 256 0
structure E5 (B:Nat) (k:Nat) (no mo:Option Addr) (nc mc:Nat) (w wr:World):Prop where
 blk:wr.heap[B]? = some (.cells #[.slice no k nc, .slice mo k mc, .int .i64 0, .int .i64 (-1), .bool false, .slice none 0 0, .int .i64 0, .slice none 0 0, .int .i64 0] 46 (0,0))
 now:wr.ownsRow (B+1) 9 1 (.slice no k nc) k (List.replicate k (aO gY))
 may:wr.ownsRow (B+1) 28 1 (.slice mo k mc) k (List.replicate k (.slice none 0 0))
 bA:Below B w wr
 size:B+1≤wr.heap.size
theorem Jq {α:Type} (k:Nat) (x:α):List.replicate (k+1) x=List.replicate k x++[x]:=List.replicate_succ'
theorem E5.adk {B k:Nat} {no mo no':Option Addr} {nc mc Yk:Nat} {w wr w4:World} {o:Obj} (h:E5 B k no mo nc mc w wr) (hg:(wr.alloc o).grownBy w4 (Value.slice no k nc).ownBlock) (hown:w4.ownsRow (B+1) 9 1 (.slice no' (k+1) Yk) (k+1) (List.replicate k (aO gY)++[aO gY])) :
   (w4.setCell ⟨B,0,none⟩ (.slice no' (k+1) Yk)).heap[B]? = some (.cells #[.slice no' (k+1) Yk, .slice mo k mc, .int .i64 0, .int .i64 (-1), .bool false, .slice none 0 0, .int .i64 0, .slice none 0 0, .int .i64 0] 46 (0,0))∧(w4.setCell ⟨B,0,none⟩ (.slice no' (k+1) Yk)).ownsRow (B+1) 9 1 (.slice no' (k+1) Yk) (k+1) (List.replicate (k+1) (aO gY))∧(w4.setCell ⟨B,0,none⟩ (.slice no' (k+1) Yk)).ownsRow (B+1) 28 1 (.slice mo k mc) k (List.replicate k (.slice none 0 0))∧Below B w (w4.setCell ⟨B,0,none⟩ (.slice no' (k+1) Yk))∧B+1≤(w4.setCell ⟨B,0,none⟩ (.slice no' (k+1) Yk)).heap.size:=by
 have hs:=h.size
 have hk:∀ q,q<wr.heap.size→(Value.slice no k nc).ownBlock≠some q→w4.heap[q]? = wr.heap[q]? := fun q hq hne=>(hg.block q (by simp;omega) (fun e=>hne e.symm)).trans (Below.heap_alloc _ _ _ hq)
 have hlo:∀ q,q<B+1→(Value.slice no k nc).ownBlock≠some q:=fun q hq e=>by have:=(h.now.lt q e).1;omega
 have hsz:wr.heap.size≤w4.heap.size:=Nat.le_trans (by simp) hg.size
 refine ⟨heap_setCell_same _ _ 0 _ _ _ ((hk B (blt h.blk) (hlo _ (by omega))).trans h.blk),?_,?_,?_,by simp[World.setCell];omega⟩
 · rw[Jq]
   exact bB hown (fun e=>by have:=(hown.lt _ e).1;omega)
 · refine bB (bR h.may fun g hgb=>hk g (h.may.lt g hgb).2 (fun e=>lH h.now h.may (by decide) e hgb)) (fun e=>by have:=(h.may.lt _ e).1;omega)
 · refine Below.setCell (p:=⟨B,0,none⟩) ?_ (Nat.le_refl _) _
   exact (h.bA.alloc (by omega) o).grown hg (by simp;omega) (fun q hq=>by have:=(h.now.lt q hq).1;omega)
theorem E5.adj {B k j:Nat} {no mo mo':Option Addr} {nc mc mc':Nat} {w wr w4:World} {o:Obj}
   (hblk:wr.heap[B]? = some (.cells #[.slice no j nc, .slice mo k mc, .int .i64 0, .int .i64 (-1), .bool false, .slice none 0 0, .int .i64 0, .slice none 0 0, .int .i64 0] 46 (0,0)))
   (zG:wr.ownsRow (B+1) 9 1 (.slice no j nc) j (List.replicate j (aO gY))) (hmay:wr.ownsRow (B+1) 28 1 (.slice mo k mc) k (List.replicate k (.slice none 0 0))) (hbel:Below B w wr) (hs:B+1≤wr.heap.size) (hj:j=k+1)
   (hg:(wr.alloc o).grownBy w4 (Value.slice mo k mc).ownBlock) (hown:w4.ownsRow (B+1) 28 1 (.slice mo' (k+1) mc') (k+1) (List.replicate k (.slice none 0 0)++[.slice none 0 0])) :
   E5 B (k+1) no mo' nc mc' w (w4.setCell ⟨B,1,none⟩ (.slice mo' (k+1) mc')):=by
 subst hj
 have hk:∀ q,q<wr.heap.size→(Value.slice mo k mc).ownBlock≠some q→w4.heap[q]? = wr.heap[q]? := fun q hq hne=>(hg.block q (by simp;omega) (fun e=>hne e.symm)).trans (Below.heap_alloc _ _ _ hq)
 have hlo:∀ q,q<B+1→(Value.slice mo k mc).ownBlock≠some q:=fun q hq e=>by have:=(hmay.lt q e).1;omega
 have hsz:wr.heap.size≤w4.heap.size:=Nat.le_trans (by simp) hg.size
 refine ⟨heap_setCell_same _ _ 1 _ _ _ ((hk B (blt hblk) (hlo _ (by omega))).trans hblk),?_,?_,?_,by simp[World.setCell];omega⟩
 · refine bB (bR zG fun g hgb=>hk g (zG.lt g hgb).2 (fun e=>lH hmay zG (by decide) e hgb)) (fun e=>by have:=(zG.lt _ e).1;omega)
 · rw[Jq]
   exact bB hown (fun e=>by have:=(hown.lt _ e).1;omega)
 · refine Below.setCell (p:=⟨B,1,none⟩) ?_ (Nat.le_refl _) _
   exact (hbel.alloc (by omega) o).grown hg (by simp;omega) (fun q hq=>by have:=(hmay.lt q hq).1;omega)
theorem E5.disk {B n:Nat} {no mo:Option Addr} {nc mc:Nat} {w wr:World} (h:E5 B n no mo nc mc w wr) (hn:0<n):bI (fun k=>B≤k∧k<wr.heap.size) B ⟨List.replicate n gY,List.replicate n [],0⟩ wr:=by
 obtain ⟨nb,c1,e1⟩:=aP h.now (by omega)
 obtain ⟨mb,c2,e2⟩:=aP h.may (by omega)
 have zG:=h.now;have hmay:=h.may;have hblk:=h.blk
 rw[e1] at zG hblk
 rw[e2] at hmay hblk
 have l1:=zG.lt nb rfl
 have l2:=hmay.lt mb rfl
 have hne:nb≠mb:=fun e=>lH zG hmay (by decide) (g:=nb) rfl (by rw[e];rfl)
 have hlen:(List.replicate n gY).length=n:=by simp
 refine ⟨nb,c1,mb,c2,0,0,List.replicate n (.slice none 0 0),⟨?_,?_,?_,by simp,fun i v hv => ?_,fun i j v u g _ hv _ hg => ?_,⟨⟨Nat.le_refl _,blt h.blk⟩,⟨by omega,l1.2⟩,⟨by omega,l2.2⟩,fun i v g hv hg => ?_⟩,⟨by omega,by omega,hne,fun i v g hv hg => ?_⟩,fun k hk=>hk.2,by show (0:Nat)<_;decide⟩⟩
 · show wr.heap[B]? = some (.cells (Fp nb c1 mb c2 (List.replicate n gY).length 0 0 0) _ _)
   rw[hlen];exact hblk
 · show wr.ownsRow 0 _ 1 (.slice (some ⟨nb,0,none⟩) (List.replicate n gY).length c1) (List.replicate n gY).length (strs (List.replicate n gY))
   rw[hlen]
   have e:strs (List.replicate n gY)=List.replicate n (aO gY):=by simp[strs,aO]
   rw[e];exact bN zG (Nat.zero_le _)
 · show wr.ownsRow 0 _ 1 (.slice (some ⟨mb,0,none⟩) (List.replicate n gY).length c2) (List.replicate n gY).length _
   rw[hlen];exact bN hmay (Nat.zero_le _)
 · have:v = .slice none 0 0:=by
     have:=List.mem_of_getElem? hv
     exact (List.mem_replicate.1 this).2
   subst this
   refine .inl ⟨?_,rfl⟩
   simp[List.getD,List.getElem?_replicate]
   split<;>rfl
 · have:v = .slice none 0 0:=(List.mem_replicate.1 (List.mem_of_getElem? hv)).2
   subst this;cases hg
 · have:v = .slice none 0 0:=(List.mem_replicate.1 (List.mem_of_getElem? hv)).2
   subst this;cases hg
 · have:v = .slice none 0 0:=(List.mem_replicate.1 (List.mem_of_getElem? hv)).2
   subst this;cases hg
theorem WK (w:World):(Instr.makeSlice 47 (.int .i64 256) (.int .i64 256)).run Tryz.prog w = .ok (.slice (some ⟨w.heap.size,0,none⟩) 256 256) (w.alloc (.cells (Array.replicate 256 (.int .u8 0)) 5)):=by kernel_rfl
theorem QN (W:World):(convert 47 9 (.slice (some ⟨W.heap.size,0,none⟩) 256 256)).run Tryz.prog (W.alloc (.cells (Array.replicate 256 (.int .u8 0)) 5)) = .ok (.string ⟨gY.toArray⟩) (W.alloc (.cells (Array.replicate 256 (.int .u8 0)) 5)):=by
 have h:=run_convert_bytes_back (P:=Tryz.prog) (W.alloc (.cells (Array.replicate 256 (.int .u8 0)) 5)) 47 9 5 ⟨W.heap.size,0,none⟩ 256 gY Tryz.underlying47 Tryz.underlying5 Tryz.underlying9 ?_
 · exact h
 intro j hj
 have hadd:(⟨W.heap.size,0,none⟩:Addr).add j=⟨W.heap.size,j,none⟩:=by unfold Addr.add;split<;>simp_all
 have hj':j<256:=by simpa [gY] using hj
 have hz:∀ h,(gY[j]'h)=0:=fun h=>by simp only[gY,List.getElem_replicate]
 rw[hadd,ah (heap_alloc_new W _),Array.getElem?_replicate,if_pos hj']
 exact congrArg (fun c:UInt8=>some (Value.int .u8 (c.toNat:Int))) (hz hj).symm
theorem Pj:(Tryz.prog.info? 28).map (fun i=>(i.zero,i.size,i.bytes))=some (some (.slice none 0 0),1,24):=by kernel_rfl
theorem Ol (n:Nat) (hn:0<n) (hn2:n≤4096) (w:World) :
   Calls Tryz.prog 5 #[.int .i64 n] w fun e w'=>e = .returned (.pointer (some ⟨w.heap.size,0,none⟩))∧bI (fun k=>w.heap.size≤k∧k<w'.heap.size) w.heap.size ⟨List.replicate n gY,List.replicate n [],0⟩ w'∧Below w.heap.size w w':=by
 obtain ⟨i0,hi,hz0,hz1,hz2⟩:=aW gL
 obtain ⟨j0,ji,jz0,jz1,jz2⟩:=aW Pj
 have hmk:=WK
 have hzm:=QN (w.alloc (.cells #[.slice none 0 0, .slice none 0 0, .int .i64 0, .int .i64 (-1), .bool false, .slice none 0 0, .int .i64 0, .slice none 0 0, .int .i64 0] 46))
 rw[show (w.alloc (.cells #[.slice none 0 0, .slice none 0 0, .int .i64 0, .int .i64 (-1), .bool false, .slice none 0 0, .int .i64 0, .slice none 0 0, .int .i64 0] 46)).heap.size=w.heap.size+1 by simp] at hzm
 go_enter Tryz.func5,Tryz.ntmps5
 go_wp2_with fail
 have hrow:=heap_alloc_new w (.cells #[.slice none 0 0, .slice none 0 0, .int .i64 0, .int .i64 (-1), .bool false, .slice none 0 0, .int .i64 0, .slice none 0 0, .int .i64 0] 46)
 have hb1:=((Below.refl w.heap.size w).alloc (Nat.le_refl _) (.cells #[.slice none 0 0, .slice none 0 0, .int .i64 0, .int .i64 (-1), .bool false, .slice none 0 0, .int .i64 0, .slice none 0 0, .int .i64 0] 46)).alloc (by simp) (.cells (Array.replicate 256 (.int .u8 0)) 5)
 have hrow2:=(Below.heap_alloc (w.alloc (.cells #[.slice none 0 0, .slice none 0 0, .int .i64 0, .int .i64 (-1), .bool false, .slice none 0 0, .int .i64 0, .slice none 0 0, .int .i64 0] 46)) (.cells (Array.replicate 256 (.int .u8 0)) 5) w.heap.size (by simp)).trans hrow
 have HI0:Hid (E5 w.heap.size 0 none none 0 0 w ((w.alloc (.cells #[.slice none 0 0, .slice none 0 0, .int .i64 0, .int .i64 (-1), .bool false, .slice none 0 0, .int .i64 0, .slice none 0 0, .int .i64 0] 46)).alloc (.cells (Array.replicate 256 (.int .u8 0)) 5))):=hide ⟨hrow2,World.ownsRow_nil _ _ _ _,World.ownsRow_nil _ _ _ _,hb1,by simp⟩
 obtain ⟨u,hu⟩:∃ u,((w.alloc (.cells #[.slice none 0 0, .slice none 0 0, .int .i64 0, .int .i64 (-1), .bool false, .slice none 0 0, .int .i64 0, .slice none 0 0, .int .i64 0] 46)).alloc (.cells (Array.replicate 256 (.int .u8 0)) 5))=u:=⟨_,rfl⟩
 obtain ⟨B,hB⟩:∃ B,w.heap.size=B:=⟨_,rfl⟩
 have pV:=hide hB
 rw[hu] at HI0 ⊢
 rw[hB] at HI0 ⊢
 clear hu hrow hb1 hrow2 hmk hzm hB
 obtain ⟨zs,hzs⟩:∃ zs:S,gY=zs:=⟨_,rfl⟩
 have HZ:=hide hzs
 rw[hzs]
 clear hzs
 go_loopw [5] (fun i wr=>∃ (k:Nat) (no mo:Option Addr) (nc mc:Nat),k≤n∧i = .int .i64 (k:Int)∧Hid (E5 B k no mo nc mc w wr)) (fun i _=>n-(intOf i).toNat)
 case atStart=>exact ⟨0,none,none,0,0,Nat.zero_le _,rfl,HI0⟩
 case round =>
   clear HI0
   obtain ⟨k,no,mo,nc,mc,hk,rfl,HI⟩:=hrel
   by_cases hlt:k<n
   · have b1:(k:Int)<(n:Int):=by omega
     have c0:=(ah HI.out.blk 0).trans (show _=some (.slice no k nc) from rfl)
     have c1:=(ah HI.out.blk 1).trans (show _=some (.slice mo k mc) from rfl)
     have f0:=ak HI.out.blk 0
     have f1:=ak HI.out.blk 1
     have hBw:=HI.out.size
     have hne : ¬ B=wr.heap.size:=by omega
     obtain ⟨ys,hys⟩:∃ ys,List.replicate k (aO gY)=ys:=⟨_,rfl⟩
     obtain ⟨zy,hzy⟩:∃ zy,List.replicate k (Value.slice none 0 0)=zy:=⟨_,rfl⟩
     have Rq:=hide hys;have HZY:=hide hzy
     have HO:=hide ((show wr.ownsRow (B+1) 9 1 (.slice no k nc) k ys by rw[← hys];exact HI.out.now).alloc (.cells #[.string ⟨zs.toArray⟩] 9))
     have HRB:=hide HI.out.blk
     have YL:=hide (fun q (e:(Value.slice no k nc).ownBlock=some q)=>(HI.out.now.lt q e).1)
     clear hys hzy
     go_wp2_with (first
       | (at_builtin;refine wpList_append_own_at _ rfl _ _ 28 rfl (B+1) 9 i0 (.string ByteArray.empty) 1 16 Tryz.underlying28 hi hz0 hz1 hz2 rfl (by decide) _ _ _ rfl HO.out ⟨wr.heap.size,0,none⟩ 1 1 [_] rfl rfl (cell_one_new _ _ _) (fun x hx=>by simp at hx;subst hx;rfl) (by unfold maxLen;omega) (by omega) (by simp;omega) ?_;intro v' w4 hown' aN eD O5;obtain ⟨gv,cv,rfl⟩:=aP hown' (by omega);have hP:=HI.out.adk aN (by rw[Rq.out,HZ.out];exact hown');have HP:=hide hP;have hk4:=(aN.block B (by simp;omega) (fun e=>by have:=YL.out B e.symm;omega)).trans ((Below.heap_alloc _ _ _ (by show B<wr.heap.size;omega)).trans HRB.out);have q5:=(ah hk4 0).trans (show _=some (.slice no k nc) from rfl);have g5:=ak hk4 0;have g6:=ak hk4 1;have p1:=(ah hP.1 1).trans (show _=some (.slice mo k mc) from rfl);have hs4:=hP.2.2.2.2;have aeR:B+1≤w4.heap.size:=(by have h:=hP.2.2.2.2;simpa using h);clear hP hown' aN eD O5)
       | (at_builtin;refine wpList_append_own_at _ rfl _ _ 43 rfl (B+1) 28 j0 (.slice none 0 0) 1 24 Tryz.underlying43 ji jz0 jz1 jz2 rfl (by decide) _ _ _ rfl ((show (w4.setCell ⟨B,0,none⟩ (.slice (some ⟨gv,0,none⟩) (k+1) cv)).ownsRow (B+1) 28 1 (.slice mo k mc) k zy by rw[← HZY.out];exact HP.out.2.2.1).alloc _) ⟨w4.heap.size,0,none⟩ 1 1 [.slice none 0 0] rfl rfl (by have h:=cell_one_new (w4.setCell ⟨B,0,none⟩ (.slice (some ⟨gv,0,none⟩) (k+1) cv)) (.slice none 0 0) 28;rw[show (w4.setCell ⟨B,0,none⟩ (.slice (some ⟨gv,0,none⟩) (k+1) cv)).heap.size=w4.heap.size by simp] at h;exact h) (fun x hx=>by simp at hx;subst hx;rfl) (by unfold maxLen;omega) (by omega) (by simp;omega) ?_;intro v' w8 hown' jG Bo O6;obtain ⟨gm,cm,rfl⟩:=aP hown' (by omega);have HM:=hide (E5.adj HP.out.1 HP.out.2.1 HP.out.2.2.1 HP.out.2.2.2.1 HP.out.2.2.2.2 rfl jG (by rw[HZY.out];exact hown'));have ZQ:=(jG.block B (by simp;omega) (fun e=>by have:=(HP.out.2.2.1.lt B e.symm).1;omega)).trans ((Below.heap_alloc _ _ _ (by simp;omega)).trans HP.out.1);have q8:=(ah ZQ 1).trans (show _=some (.slice mo k mc) from rfl);have g8:=ak ZQ 1;clear ZQ hown' jG Bo O6))
     go_roundw
     case rel=>exact ⟨k+1,_,_,cv,cm,by omega,by go_num,HM⟩
     case measure=>simp[intOf];omega
   · obtain rfl:k=n:=by omega
     have b1 : ¬ (k:Int)<(k:Int):=by omega
     go_wp2_with fail
     go_ret
     rw[pV.out]
     exact ⟨rfl,HI.out.disk hn,HI.out.bA⟩
end
end Go.Proofs.YtialenebfcnkkaaGreatDoor
