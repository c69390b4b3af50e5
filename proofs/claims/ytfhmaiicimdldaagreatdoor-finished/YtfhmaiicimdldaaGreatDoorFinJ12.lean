import Derived.Test.YtfhmaiicimdldaaGreatDoorFinJ11
set_option maxHeartbeats 4000000
set_option maxRecDepth 100000
namespace Go.Proofs.YtfhmaiicimdldaaGreatDoor
variable {j:Nat}{N:Nat->Prop}{w:World}
section
open Go.RowKit
open Kw (St)
open Hv (S Dk VM)
def Hv.PD.paths (d:Hv.PD):List S:=d.st.files.map (·.1)
def Zj (D:VM Hv.PD):Prop:=(∃ k d,Hv.get D k=some d /\ ¬ d.paths.Nodup) \/ ∃ k k' d d' x,k≠k'/\Hv.get D k=some d/\Hv.get D k'=some d'/\x∈d.paths/\x∈d'.paths
noncomputable def Xw (D:VM Hv.PD):Bool := @decide (Zj D) (Classical.propDecidable _)
variable {D:VM Hv.PD}{Q:VM Value}{k:S}
theorem agd(h:Zj D):Xw D=true := @decide_eq_true _ (Classical.propDecidable _) h
theorem abS(h : ¬ Zj D):Xw D=false := @decide_eq_false _ (Classical.propDecidable _) h
theorem Qy{x:S} (h:Wd.LU x=true):x.length<=24:=by
 simp only[Wd.LU,Wd.Og,Bool.and_eq_true,decide_eq_true_eq] at h;omega
theorem aaz(w:World):(zeroValue 63).run Tryz.prog w = .ok (.agg #[]) w:=Tryz.zeroValue63 w
structure Tt (D:VM Hv.PD) (left:S->Bool) (Q:VM Value):Prop where
 uni:OG Q
 has:∀ x,Hv.has Q x=true ↔ ∃ k d,Hv.get D k=some d/\left k=false/\x∈d.paths
 each:∀ k d,Hv.get D k=some d->left k=false->d.paths.Nodup
 two:∀ k k' d d' x,k≠k'->Hv.get D k=some d->Hv.get D k'=some d'->left k=false->left k'=false->x∈d.paths->x∈d'.paths->False
structure Ul (D:VM Hv.PD) (left:S->Bool) (d:Hv.PD) (j:Nat) (Q:VM Value):Prop where
 uni:OG Q
 has:∀ x,Hv.has Q x=true ↔ (∃ k d,Hv.get D k=some d/\left k=false/\x∈d.paths)\/x∈d.paths.take j
 nod:(d.paths.take j).Nodup
 off:∀ x,x∈d.paths.take j -> ¬ ∃ k d,Hv.get D k=some d/\left k=false/\x∈d.paths
theorem Tt.begin{left:S->Bool}  (h:Tt D left Q) (d:Hv.PD):Ul D left d 0 Q :=
 ⟨h.uni,fun x=>by rw[h.has];simp,by simp,fun x hx=>by simp at hx⟩
theorem Xg{α:Type} {E:VM α} (hE:Hv.Ki E) (k:S) (v:α) (x:S):Hv.has (Hv.put E k v) x=true ↔ Hv.has E x=true\/x=k:=by
 rw[Hv.J9,Hv.J9];by_cases e:x=k
 · subst e;rw[Hv.Ka hE];simp
 · rw[Hv.J7 hE _ e];simp[e]
theorem Ul.step{left:S->Bool} {d:Hv.PD}   (h:Ul D left d j Q) (hQ:Hv.Ki Q) (hj:j<d.paths.length) (hn:Hv.has Q d.paths[j]=false):Ul D left d (j+1) (Hv.put Q d.paths[j] LB):=by
 have e:=AT hj;have hno : ¬ Hv.has Q d.paths[j]=true:=by rw[hn];simp
 rw[h.has] at hno;refine ⟨OG.put h.uni hQ _,fun x => ?_,?_,fun x hx => ?_⟩
 · rw[Xg hQ,h.has,e,IF,DQ,or_assoc]
 · rw[e,List.nodup_append];refine ⟨h.nod,by simp,fun a ha b hb => ?_⟩;rw[List.mem_singleton.1 hb];rintro rfl;exact hno (.inr ha)
 · rw[e,IF,DQ] at hx;rcases hx with hx | rfl
   · exact h.off x hx
   · exact fun q=>hno (.inl q)
theorem Ul.clash{left:S->Bool}  {d:Hv.PD}   (h:Ul D left d j Q) (hk:left k=true) (hd:Hv.get D k=some d) (hj:j<d.paths.length) (hn:Hv.has Q d.paths[j]=true):Zj D:=by
 rw[h.has] at hn;rcases hn with ⟨k',d',h1,h2,h3⟩ | hn
 · exact .inr ⟨k,k',d,d',_,fun e=>(by rw[e,h2] at hk;cases hk),hd,h1,B1 hj,h3⟩
 · refine .inl ⟨k,d,hd,fun hnd => ?_⟩;have e:d.paths=d.paths.take j++d.paths[j]::d.paths.drop (j+1):=by simp
   rw[e,List.nodup_append] at hnd;exact hnd.2.2 _ hn _ List.mem_cons_self rfl
theorem Ul.end_{left:S->Bool}  {d:Hv.PD} {Q0:VM Value}  (h:Ul D left d j Q) (h0:Tt D left Q0) (hk:left k=true) (hd:Hv.get D k=some d) (hj:d.paths.length<=j):Tt D (fun z=>left z && !(z==k)) Q:=by
 have e:=An hj;have hl:∀ z,(left z && !(z==k))=false ↔ left z=false\/z=k:=by
  intro z;by_cases q:z=k<;>simp[q]
 refine ⟨h.uni,fun x => ?_,fun k1 d1 h1 h2 => ?_,fun k1 k2 d1 d2 x hne h1 h2 l1 l2 x1 x2 => ?_⟩
 · rw[h.has,e];constructor
   · rintro (⟨k',d',a,b,c⟩ | a)
     · exact ⟨k',d',a,(hl k').2 (.inl b),c⟩
     · exact ⟨k,d,hd,(hl k).2 (.inr rfl),a⟩
   · rintro ⟨k',d',a,b,c⟩;rcases (hl k').1 b with b | rfl
     · exact .inl ⟨k',d',a,b,c⟩
     · rw[hd] at a;cases a;exact .inr c
 · rcases (hl k1).1 h2 with b | rfl
   · exact h0.each k1 d1 h1 b
   · rw[hd] at h1;cases h1;have:=h.nod;rwa [e] at this
 · rcases (hl k1).1 l1 with a | rfl
   · rcases (hl k2).1 l2 with b | rfl
     · exact h0.two k1 k2 d1 d2 x hne h1 h2 a b x1 x2
     · rw[hd] at h2;cases h2;exact h.off x (by rw[e];exact x2) ⟨k1,d1,h1,a,x1⟩
   · rw[hd] at h1;cases h1;rcases (hl k2).1 l2 with b | rfl
     · exact h.off x (by rw[e];exact x1) ⟨k2,d2,h2,b,x2⟩
     · exact hne rfl
theorem Tt.none{left:S->Bool}  (h:Tt D left Q) (hl:∀ k,left k=false) : ¬ Zj D:=by
 rintro (⟨k,d,a,b⟩ | ⟨k,k',d,d',x,hne,a,b,c,e⟩)
 · exact b (h.each k d a (hl k))
 · exact h.two k k' d d' x hne a b (hl k) (hl k') c e
theorem abT(pm:Nat) (P:VM Value) (D:VM Hv.PD) (N:Nat->Prop) (w:World) (hp:J6 w pm P) (hP:Ls N w D P) (dD:P.length<=1000) :
 Calls Tryz.prog 128 #[.map (some pm)] w fun e w'=>e = .returned (.bool (Xw D))/\Below w.heap.size w w':=by
 have hpl:=hp.lt;have HP:=JY hp;have aD:=JY hP;clear hp hP;have hmm := @run_makeMap Tryz.prog;have hp1:=HP.out.alloc (.map #[] 0);have aQ:=JY (J6.made w);have ag:=JY ((AD w.heap.size w).alloc (AC _) (.map #[] 0));have hsz:(w.alloc (.map #[] 0)).heap.size=w.heap.size+1:=by simp
 go_enter Tryz.func128,Tryz.ntmps128;go_wp2_with (first
  | (at_range;refine Mc rfl _ 97 rfl 169 IS hp1 rfl ?_;intro w0 hrg0 hg0 hs0;have aT:=JY hrg0;have aC:=JY (ag.out.grown hg0 ag.out.size (fun q hq=>by cases hq));have aw:=JY (aQ.out.kept (hg0.block _ aQ.out.lt (by simp)))))
 rw[hsz] at aT hs0 |-
 go_frame
 clear hg0 hrg0 hp1 aQ ag;go_loopw [13] (fun _ wr=>∃ (left:S->Bool) (cnt:Nat) (Q:VM Value),Hid (KO wr pm (w.heap.size+1) P left cnt)/\Hid (J6 wr w.heap.size Q)/\Hid (Tt D left Q)/\Q.length+21*cnt<=21*P.length/\Hid (Below w.heap.size w wr)/\w.heap.size+1<wr.heap.size)
  (fun _ wr=>wr.rangeLeft pm (w.heap.size+1))
 case atStart=>exact ⟨_,_,[],aT,aw,JY ⟨fun k v h=>(by cases h),fun x=>⟨fun h=>(by cases h),fun ⟨k,d,h1,h2,_⟩=>by rw[aD.out.has_eq,Hv.J9,h1] at h2;cases h2⟩,fun k d h1 h2=>(by rw[aD.out.has_eq,Hv.J9,h1] at h2;cases h2),fun k k' d d' x _ h1 _ h2=>(by rw[aD.out.has_eq,Hv.J9,h1] at h2;cases h2)⟩,by simp,aC,by omega⟩
 case round =>
  clear aT aC aw;obtain ⟨left,cnt,Q0,HG,HM,HS,hroom,HB,hsz1⟩:=hrel;go_wp2_with (first
   | (at_next;refine MW rfl _ rfl (w.heap.size+1) left cnt rfl HG.out ?_ ?_))
  · intro hc0 hl0;go_wp2_with fail;go_ret;rw[abS (HS.out.none hl0)];exact ⟨rfl,HB.out⟩
  · intro k v w4 cnt1 hk hlk hget hrg1 hlt hg1 hs1 hen;obtain ⟨d,hd,⟨tx,pn,pv,nd,br,wk,⟨na,nn,nc⟩,ru,wo,bV⟩,rfl,p1,p2,p3,p4,hpk, -⟩:=aD.out.P8 k v hget;have aZ:=JY (KO.alloc hrg1 (.cells (Pk.mk tx pn pv nd br wk ⟨na,nn,nc⟩ ru wo bV).cells 169));have hb4:=HB.out.grown hg1 HB.out.size (fun q hq=>by cases hq;omega);have aB:=JY (hb4.alloc hb4.size (.cells (Pk.mk tx pn pv nd br wk ⟨na,nn,nc⟩ ru wo bV).cells 169));have dJ:=JY ((HM.out.kept (hg1.block _ HM.out.lt (by simp))).alloc (.cells (Pk.mk tx pn pv nd br wk ⟨na,nn,nc⟩ ru wo bV).cells 169));have hs4:w4.heap.size=wr.heap.size:=hs1;have hrow4:=AF w4 (.cells (Pk.mk tx pn pv nd br wk ⟨na,nn,nc⟩ ru wo bV).cells 169);have a3:=(JZ hrow4 6).trans (show _=some (.slice na nn nc) from rfl);have HN:=JY (ahe (hpk.rows 3));have HO:=JY (hpk.rows 3);have iu:=JY (Lm hpk.parse).2.2.files;have fP:=JY (KZ hpk.parse).2.2.1;have HD:=JY hd;have hsu:(w4.alloc (.cells (Pk.mk tx pn pv nd br wk ⟨na,nn,nc⟩ ru wo bV).cells 169)).heap.size=w4.heap.size+1:=by simp
    simp only[Pk.val,Pk.cells] at hen |-;clear hrg1 hg1 hget hpk p1 p2 p3 p4 hd hb4 hrow4;go_wp2_with fail;have hs5:w.heap.size+1<(w4.alloc (.cells (Pk.mk tx pn pv nd br wk ⟨na,nn,nc⟩ ru wo bV).cells 169)).heap.size:=by rw[hsu];omega
    simp only[Pk.cells] at aZ aB hs5 dJ;clear a3 hsu;go_loopw [21] (fun i w2=>∃ (j:Nat) (Q:VM Value),j<=nn/\i = .int .i64 (j:Int)/\Hid (KO w2 pm (w.heap.size+1) P (fun z=>left z && !(z==k)) cnt1)/\Hid (J6 w2 w.heap.size Q)/\Hid (Ul D left d j Q)/\Q.length<=Q0.length+j/\Hid (Below w.heap.size w w2)/\w.heap.size+1<w2.heap.size) (fun i _=>nn-(intOf i).toNat)
    case atStart=>exact ⟨0,Q0,Bs _,rfl,aZ,dJ,JY (HS.out.begin d),by omega,aB,hs5⟩
    case round =>
     clear aZ aB dJ;obtain ⟨j,Q,hj,rfl,HG2,cI,HA,iZ,ah,hs2⟩:=hrel;by_cases hjl:j<nn
     · have b1:(j:Int)<(nn:Int):=by omega
       have cD:j<d.st.files.length:=by have:=HN.out;simp only[Ku] at this;omega
       obtain ⟨g,c,hv,hg,q1,q2⟩:=OM HO.out cD;obtain rfl:na=some ⟨g,0,none⟩:=(DS hv).1;have d1:=(ah.out.cell (p:=⟨g,j*2,none⟩) hg).trans q1;have d2:=(ah.out.cell (p:=⟨g,j*2+1,none⟩) hg).trans q2;have hgd:=(iu.out _ (B1 cD)).1;have qQ:j<21:=by have:=fP.out.2.2.2.1;omega
       have Es:j<d.paths.length:=by unfold Hv.PD.paths;rw[DH];exact cD
       have hpe:d.paths[j]=d.st.files[j].1:=by simp[Hv.PD.paths]
       have HST:=JY (fun h=>HA.out.step cI.out.1 Es h);have cY:=JY (fun h=>HA.out.clash hlk HD.out Es h);rw[hpe] at HST cY;obtain ⟨q,hq⟩:∃ q,d.st.files[j]=q:=⟨_,rfl⟩
       rw[hq] at d1 d2 hgd HST cY;obtain ⟨n1,n2⟩:=q;have hgd:Wd.LU n1=true:=hgd;have hnl:n1.length<=maxLen:=by have:=Qy hgd;unfold maxLen;omega
       have BH:=cI.out.alloc (.cells #[.string ⟨n1.toArray⟩, .string ⟨n2.toArray⟩] 247);have hu:(Hv.get Q n1).getD (.agg #[]) = .agg #[]:=by
        cases e:Hv.get Q n1 with
        | none=>rfl
        | some v=>exact HA.out.uni n1 v e
       simp only at HST cY;clear hv q1 q2 hgd hq hpe;cases hh:Hv.has Q n1
       · have BI:=BH.alloc (.cells #[] 63);have hlen:Q.length<maxLen:=by unfold maxLen;omega
         have av:=JY ((ah.out.alloc ah.out.size (.cells #[.string ⟨n1.toArray⟩, .string ⟨n2.toArray⟩] 247)).alloc (ah.out.alloc ah.out.size _).size (.cells #[] 63));have cZ:=JY ((HG2.out.alloc (.cells #[.string ⟨n1.toArray⟩, .string ⟨n2.toArray⟩] 247)).alloc (.cells #[] 63));go_wp2_with (first
          | (at_lookup;refine K6 rfl _ _ 146 rfl 63 Tryz.underlying146 (aaz _) BH rfl n1 hnl rfl ?_;rw[hu,hh])
          | (at_mapUpdate;refine Qc rfl _ _ _ 146 rfl 63 Tryz.underlying146 BI hlen rfl n1 hnl rfl (.agg #[]) rfl ?_;intro w5 fI oG;go_frame))
         have dL:=Kv oG;have CJ:((wr.alloc (.cells #[.string ⟨n1.toArray⟩, .string ⟨n2.toArray⟩] 247)).alloc (.cells #[] 63)).heap.size<=w5.heap.size:=dL.size;have JC:((wr.alloc (.cells #[.string ⟨n1.toArray⟩, .string ⟨n2.toArray⟩] 247)).alloc (.cells #[] 63)).heap.size=wr.heap.size+2:=by simp
         have eF:pm<w.heap.size:=hpl;have dN:=JY (cZ.out.far dL (AC _) (by omega) (by omega));have bf:=JY (av.out.trans (dL.toBelow (by simp;omega) (fun q hq (e:q=w.heap.size)=>by omega)));have eI:=JY fI;have uG:=JY (HST.out hh);have Ht:=Hv.Mr Q n1 (.agg #[]:Value);clear oG dL fI;go_roundw
         case rel=>exact ⟨j+1,_,by omega,by go_num,dN,eI,uG,by omega,bf,by omega⟩
         case measure=>simp[intOf];omega
       · go_wp2_with (first
          | (at_lookup;refine K6 rfl _ _ 146 rfl 63 Tryz.underlying146 (aaz _) BH rfl n1 hnl rfl ?_;rw[hu,hh]))
         go_ret;rw[agd (cY.out hh)];exact ⟨rfl,(ah.out.alloc ah.out.size _).alloc (ah.out.alloc ah.out.size _).size _⟩
     · obtain rfl:j=nn:=by omega
       have b1 : ¬ (j:Int)<(j:Int):=by omega
       go_wp2_with fail;go_roundw
       case rel=>exact ⟨_,cnt1,Q,HG2,cI,JY (HA.out.end_ HS.out hlk HD.out (by unfold Hv.PD.paths;rw[DH];have:=HN.out;simp only[Ku] at this;omega)),by have:=HN.out;simp only[Ku] at this;have:=fP.out.2.2.2.1;omega,ah,hs2⟩
       case measure=>rw[HG2.out.left_eq,HG.out.left_eq];exact hlt
namespace Hv
theorem get_map{α β:Type} (E:VM α) (f:α->β) (k:S):get (E.map fun p=>(p.1,f p.2)) k=(get E k).map f:=by
 unfold get;rw[List.find?_map];have:((fun p:S × β=>p.1==k) ∘ fun p:S × α=>(p.1,f p.2))=fun p=>p.1==k:=rfl
 rw[this];cases E.find? (fun p=>p.1==k)<;>rfl
theorem Ki.map{α β:Type} {E:VM α} (h:Ki E) (f:α->β):Ki (E.map fun p=>(p.1,f p.2)):=List.pairwise_map.2 h
def Ko (P:VM PD) (R:VM Value) (I:VM PD):VM PD:=merge (cut P R) I
def OC (P:VM PD) (R:VM Value):Bool:=R.any fun p => !has P p.1
end Hv
variable {D DP:VM Hv.PD}{E P:VM Value}
theorem Ls.len(h:Ls N w D E) (hE:Hv.Ki E):E.length=D.length:=by
 have e:(E.map fun p=>(p.1,()))=D.map fun p=>(p.1,()):=(hE.map fun _=>()).Lr (h.Mt.map fun _=>()) (fun k=>by
  rw[Hv.get_map E (fun _=>()),Hv.get_map D (fun _=>())];cases q:Hv.get E k with
  | none=>rw[h.get_none q];rfl
  | some v=>obtain ⟨d,hd,_⟩:=h.P8 k v q;rw[hd];rfl)
 have:=IN List.length e;simpa using this
theorem Ls.merge{D':VM Hv.PD} {E':VM Value} (h:Ls N w D E) (hE:Hv.Ki E) (h':Ls N w D' E') (hE':Hv.Ki E'):Ls N w (Hv.merge D D') (Hv.merge E E'):=by
 refine ⟨Hv.Nw D' D h.Mt,fun k v q => ?_,fun k d q => ?_⟩
 · rw[Hv.Nv E' E hE hE'] at q;rw[Hv.Nv D' D h.Mt h'.Mt];cases e:Hv.get E' k with
   | none=>rw[e] at q;rw[h'.get_none e];exact h.P8 k v q
   | some u=>rw[e] at q;cases q;obtain ⟨d,hd,hr⟩:=h'.P8 k v e;exact ⟨d,by rw[hd];rfl,hr⟩
 · rw[Hv.Nv D' D h.Mt h'.Mt] at q;rw[Hv.Nv E' E hE hE'];cases e:Hv.get E' k with
   | none=>rw[h'.get_none e] at q;exact h.Vk k d q
   | some u=>obtain ⟨d',hd',hr⟩:=h'.P8 k u e;rw[hd'] at q;cases q;exact ⟨u,rfl,hr⟩
theorem Ls.cut(h:Ls N w D E) (hE:Hv.Ki E) (R:VM Value):Ls N w (Hv.cut D R) (Hv.cut E R):=by
 refine ⟨Hv.Nu R D h.Mt,fun k v q => ?_,fun k d q => ?_⟩
 · rw[Hv.Pn R E hE] at q;rw[Hv.Pn R D h.Mt];split at q
   · cases q
   next hn=>rw[Bm hn];exact h.P8 k v q
 · rw[Hv.Pn R D h.Mt] at q;rw[Hv.Pn R E hE];split at q
   · cases q
   next hn=>rw[Bm hn];exact h.Vk k d q
theorem Ls.anf{I:VM Value} {DI:VM Hv.PD} (hP:Ls N w DP P) (sP:Hv.Ki P) (hI:Ls N w DI I) (sI:Hv.Ki I) (R:VM Value):Ls N w (Hv.Ko DP R DI) (Q7 P R I) :=
 (hP.cut sP R).merge (Hv.Nu R P sP) hI sI
theorem Ls.absent(hP:Ls N w DP P) (R:VM Value):Sg P R=Hv.OC DP R:=by
 unfold Sg Hv.OC
 congr 1
 funext p
 rw[hP.has_eq]
noncomputable def LY (P:VM Hv.PD) (R:VM Value) (I:VM Hv.PD):Int :=
 if Hv.OC P R=true then 8 else if aew P I=true then 9 else if 12<(Hv.Ko P R I).length then 10 else if Vm (Hv.Ko P R I)=true then 11 else if Sk (Hv.Ko P R I)=true then 12 else if Xw (Hv.Ko P R I)=true then 13 else 0
theorem aeJ(pm rm im:Nat) (P R I:VM Value) (DP DI:VM Hv.PD) (N:Nat->Prop) (w:World) (hp:J6 w pm P) (hw:MH rm im R I w) (hR:OG R) (hP:Ls N w DP P) (hI:Ls N w DI I) (hroom:P.length+I.length<=1000000) :
 Calls Tryz.prog 71 #[.map (some pm), .agg #[.map (some rm), .map (some im)]] w fun e w'=>e = .returned (.int .i64 (LY DP R DI))/\Below w.heap.size w w':=by
 have hrow:=AF w (.cells #[.map (some rm), .map (some im)] 148);have hb0:=(AD w.heap.size w).alloc (AC _) (.cells #[.map (some rm), .map (some im)] 148);have hsz:(w.alloc (.cells #[.map (some rm), .map (some im)] 148)).heap.size=w.heap.size+1:=by simp
 have HP:=JY hp;have HW:=JY hw;have aD:=JY hP;have fX:=JY hI;have HU:=JY hR;have aC:=JY hb0;have y8:=JY hI.ahS;have Ff:=JY hP.ahS;have xL:=JY (hP.absent R);have qf:=JY (hP.anf hp.1 hI hw.ins.1 R);clear hp hw hP hI hR;obtain ⟨u,hu⟩:∃ u,w.alloc (.cells #[.map (some rm), .map (some im)] 148)=u:=⟨_,rfl⟩
 rw[hu] at hrow hsz aC hb0;have cS:=JY hrow;have c0:=(JZ hrow 0).trans (show _=some (.map (some rm)) from rfl);have c1:=(JZ hrow 1).trans (show _=some (.map (some im)) from rfl);go_enter Tryz.func71,Tryz.ntmps71;go_wp2_with fail;refine (adp pm rm im P R I HU.out y8.out _ (HP.out.below hb0) (HW.out.rem.below hb0) (HW.out.ins.below hb0) hroom).mono ?_;rintro e w1 ⟨tm,rfl,ht1,ET,hb1⟩;rw[hsz] at ET;have ag:=JY (aC.out.trans (hb1.mono (by omega)));have bO:=JY ((hb1.block w.heap.size (by omega)).trans cS.out);have FW:=JY ht1;have Gh:=(JZ bO.out 0).trans (show _=some (.map (some rm)) from rfl);have c11:=(JZ bO.out 1).trans (show _=some (.map (some im)) from rfl);clear hrow hb0 hu c0 c1 ht1 hb1;go_wp2_with fail;refine (UW pm rm im P R Ff.out HU.out w1 (HP.out.below ag.out) (HW.out.rem.below ag.out)).mono ?_;rintro e w2 ⟨rfl,hb2⟩;have ah:=JY (ag.out.trans (hb2.mono ag.out.size));have aU:=JY ((hb2.block w.heap.size (blt bO.out)).trans bO.out);have qc:=JY (FW.out.below hb2);have Gi:=(JZ aU.out 0).trans (show _=some (.map (some rm)) from rfl);have c12:=(JZ aU.out 1).trans (show _=some (.map (some im)) from rfl);clear hb2 Gh c11;rw[xL.out];cases h1:Hv.OC DP R
 · go_wp2_with fail;refine (WT pm rm im P I DP DI N N w2 (HP.out.below ah.out) (HW.out.ins.below ah.out) (aD.out.below ah.out) (fX.out.below ah.out)).mono ?_;rintro e w3 ⟨rfl,hb3⟩;have av:=JY (ah.out.trans (hb3.mono ah.out.size));have qd:=JY (qc.out.below hb3);clear hb3 Gi c12;cases h2:aew DP DI
   · have aY:=qd.out.len IS 3;rw[qf.out.len qd.out.1] at aY;by_cases h3:12<(Hv.Ko DP R DI).length
     · have g3:(12:Int)<((Hv.Ko DP R DI).length:Int):=by omega
       go_wp2_with fail;go_ret;exact ⟨by unfold LY;simp[*],av.out⟩
     · have g3 : ¬ (12:Int)<((Hv.Ko DP R DI).length:Int):=by omega
       have Dl:=JY (qf.out.below av.out);have dQ:=JY (qf.out.len qd.out.1);go_wp2_with fail;refine (WV tm (Q7 P R I) (Hv.Ko DP R DI) N w3 qd.out Dl.out).mono ?_;rintro e w4 ⟨rfl,hb4⟩;have aB:=JY (av.out.trans (hb4.mono av.out.size));have yi:=JY (qd.out.below hb4);have uM:=JY (Dl.out.below hb4);clear hb4 aY;cases h4:Vm (Hv.Ko DP R DI)
       · go_wp2_with fail;refine (Y7 tm (Q7 P R I) (Hv.Ko DP R DI) N w4 yi.out uM.out).mono ?_;rintro e w5 ⟨rfl,aG⟩;have bf:=JY (aB.out.trans (aG.mono aB.out.size));have FX:=JY (yi.out.below aG);have Ao:=JY (uM.out.below aG);clear aG;cases h5:Sk (Hv.Ko DP R DI)
         · go_wp2_with fail;refine (abT tm (Q7 P R I) (Hv.Ko DP R DI) N w5 FX.out Ao.out (by have:=dQ.out;omega)).mono ?_;rintro e w6 ⟨rfl,aN⟩;have bF:=JY (bf.out.trans (aN.mono bf.out.size));clear aN;cases h6:Xw (Hv.Ko DP R DI)
           · go_wp2_with fail;go_ret;exact ⟨by unfold LY;simp[*],bF.out⟩
           · go_wp2_with fail;go_ret;exact ⟨by unfold LY;simp[*],bF.out⟩
         · go_wp2_with fail;go_ret;exact ⟨by unfold LY;simp[*],bf.out⟩
       · go_wp2_with fail;go_ret;exact ⟨by unfold LY;simp[*],aB.out⟩
   · go_wp2_with fail;go_ret;exact ⟨by unfold LY;simp[*],av.out⟩
 · go_wp2_with fail;go_ret;exact ⟨by unfold LY;simp[*],ah.out⟩
theorem VZ(a:Nat) (ha:a<=1048576) (x:S) (hx:x.length<=4611686018427387904) (w:World) :
 Calls Tryz.prog 139 #[.int .i64 a, .string ⟨x.toArray⟩] w fun e w'=>e = .returned (.int .i64 (min (a+x.length) 1048576:Nat))/\w'=w:=by
 go_enter Tryz.func139,Tryz.ntmps139;go_wp2_with fail;go_ret;exact ⟨IN (fun z=>Ending.returned (Value.int .i64 z)) (show min ((a:Int)+(x.length:Int)) 1048576=((min (a+x.length) 1048576:Nat):Int) by omega),rfl⟩
def SX (D:VM Hv.PD) (left:S->Bool):Nat:=(D.map fun p=>if left p.1=true then 0 else p.2.text.length).sum
theorem aag:∀ (D:VM Hv.PD) (left:S->Bool),(∀ k,Hv.has D k=true->left k=true)->SX D left=0
 | [],_,_=>rfl
 | p::D,left,h=>by
   have h1:=h p.1 (by simp[Hv.has]);have h2:=aag D left (fun k hk=>h k (by simp only[Hv.has,List.any_cons] at hk |-;rw[hk];simp));simp only[SX,Cp,FG,h1,if_true] at h2 |-;omega
theorem aah:∀ (D:VM Hv.PD) (left left':S->Bool),(∀ p∈D,left p.1=left' p.1)->SX D left=SX D left'
 | [],_,_,_=>rfl
 | p::D,left,left',h=>by
   have h2:=aah D left left' (fun q hq=>h q (by simp[hq]));have h1:=h p (by simp);simp only[SX,Cp,FG,h1] at h2 |-;omega
theorem aai:∀ (D:VM Hv.PD) (left:S->Bool) (k:S) (d:Hv.PD),Hv.Ki D->(k,d)∈D->left k=true->SX D (fun z=>left z && !(z==k))=SX D left+d.text.length
 | [],_,_,_,_,h,_=>by cases h
 | p::D,left,k,d,hs,h,hl=>by
   obtain ⟨g1,g2⟩:=List.pairwise_cons.1 hs;rcases List.mem_cons.1 h with h | h
   · subst h;have h2:=aah D (fun z=>left z && !(z==k)) left (fun q hq=>by
      have : ¬ q.1=k:=fun e=>by have:=g1 q hq;rw[e,Hv.Lx] at this;cases this
      simp[this])
     simp only[SX,Cp,FG,hl,beq_self_eq_true,Bool.not_true,Bool.and_false,Bool.false_eq_true,if_false,if_true] at h2 |-;omega
   · have h2:=aai D left k d g2 h hl;have : ¬ p.1=k:=fun e=>by have:=g1 _ h;rw[e,Hv.Lx] at this;cases this
     have e:(left p.1 && !(p.1==k))=left p.1:=by simp[this]
     simp only[SX,Cp,FG,e] at h2 |-;omega
def WG (D:VM Hv.PD) (xs:List S):Nat:=min (3200+SX D (fun _=>false)+(xs.map List.length).sum) 1048576
def Oj (n:Int) (D:VM Hv.PD) (xs:List S):Bool:=decide (max 0 (n-32)*256<8*(WG D xs:Int))
theorem XZ(n:Int) (hn:0<=n/\n<=4096) (mb pm fm:Nat) (P F:VM Value) (D:VM Hv.PD) (N:Nat->Prop) (v:Value) (xs:List S) (hxl:xs.length<=1000000) (hxs:∀ x∈xs,x.length<=4611686018427387904) (w:World) (hm:Kh mb pm fm P F w) (hP:Ls N w D P) (hv:Reads w v xs) :
 Calls Tryz.prog 74 #[.int .i64 n, .pointer (some ⟨mb,0,none⟩),v] w fun e w'=>e = .returned (.bool (Oj n D xs))/\Below w.heap.size w w':=by
 obtain ⟨a,c,rfl,hc⟩:=hv.form;have m0:=(JZ hm.blk 0).trans (show _=some (.map (some pm)) from rfl);have hp1:=hm.packs;have hpl:=hp1.lt;have aD:=JY hP;have HC:=JY hc;have HX:=JY hxs;have HM:=JY hm;obtain ⟨n0,hn0⟩:∃ n0,xs.length=n0:=⟨_,rfl⟩
 have HN:=JY hn0;rw[hn0] at hxl |-;clear hm hP hv hc hxs hn0;go_enter Tryz.func74,Tryz.ntmps74;go_wp2_with (first
  | (at_range;refine Mc rfl _ 97 rfl 169 IS hp1 rfl ?_;intro w0 hrg0 hg0 hs0;have aT:=JY hrg0;have aC:=JY ((AD w.heap.size w).grown hg0 (AC _) (fun q hq=>by cases hq))))
 go_frame
 clear hg0 hrg0 hp1 m0;go_loopw [7,17] (fun z _ wr=>∃ (left:S->Bool) (cnt:Nat),z = .int .i64 (min (3200+SX D left) 1048576:Nat)/\Hid (KO wr pm w.heap.size P left cnt)/\Hid (Below w.heap.size w wr)/\w.heap.size<wr.heap.size)
  (fun _ _ wr=>wr.rangeLeft pm w.heap.size)
 case atStart=>exact ⟨_,_,by rw[aag D _ (fun k hk=>by rw[aD.out.has_eq];exact hk)];rfl,aT,aC,by omega⟩
 case round =>
  clear aT aC;obtain ⟨left,cnt,rfl,HG,HB,hsz1⟩:=hrel;go_wp2_with (first
   | (at_next;refine MW rfl _ rfl w.heap.size left cnt rfl HG.out ?_ ?_))
  · intro hc0 hl0;have hl:left=fun _=>false:=funext hl0
    subst hl;obtain ⟨s0,eQ⟩:∃ s0,min (3200+SX D (fun _=>false)) 1048576=s0:=⟨_,rfl⟩
    have dP:=JY eQ;have hsl:s0<=1048576:=by omega
    rw[eQ];clear eQ;go_wp2_with fail;go_loopw [7,27] (fun z i w2=>∃ j:Nat,j<=n0/\i = .int .i64 (j:Int)/\z = .int .i64 (min (s0+((xs.map List.length).take j).sum) 1048576:Nat)/\w2=wr) (fun _ i _=>n0-(intOf i).toNat)
    case atStart=>exact ⟨0,Bs _,rfl,by simp;omega,rfl⟩
    case round =>
     obtain ⟨j,hj,rfl,rfl,rfl⟩:=hrel;by_cases hjl:j<n0
     · have b1:(j:Int)<(n0:Int):=by omega
       have cD:j<xs.length:=by have:=HN.out;omega
       obtain ⟨g,rfl,hg,q1⟩:=HC.out j _ (B9 cD);have d1:=(HB.out.cell (p:=⟨g,j,none⟩) hg).trans q1;have xD:=HX.out _ (B1 cD);have HT:Hid (((xs.map List.length).take (j+1)).sum=((xs.map List.length).take j).sum+xs[j].length):=JY (by rw[AT (show j<(xs.map List.length).length by simpa using cD)];simp);obtain ⟨x,hx⟩:∃ x,xs[j]=x:=⟨_,rfl⟩
       rw[hx] at d1 xD HT;obtain ⟨s1,hs1⟩:∃ s1,min (s0+((xs.map List.length).take j).sum) 1048576=s1:=⟨_,rfl⟩
       have fF:=JY hs1;have Cq:s1<=1048576:=by omega
       rw[hs1];clear q1 hx hs1;go_wp2_with fail;refine (VZ s1 Cq x xD _).mono ?_;rintro e w5 ⟨rfl,rfl⟩;have HE:Hid (min (s1+x.length) 1048576=min (s0+((xs.map List.length).take (j+1)).sum) 1048576):=JY (by rw[HT.out,<- fF.out];omega);rw[HE.out];go_wp2_with fail;go_roundw
       case rel=>exact ⟨j+1,by omega,by go_num,rfl,by first | rfl | trivial⟩
       case measure=>simp[intOf];omega
     · obtain rfl:j=n0:=by omega
       have b1 : ¬ (j:Int)<(j:Int):=by omega
       have HE:Hid (min (s0+((xs.map List.length).take j).sum) 1048576=WG D xs):=JY (by unfold WG;rw[An (by have:=HN.out;simp;omega),<- dP.out];omega);rw[HE.out];have hsz:WG D xs<=1048576:=by unfold WG;omega
       obtain ⟨T,hT⟩:∃ T,WG D xs=T:=⟨_,rfl⟩
       have HT:=JY hT;rw[hT] at hsz |-;clear hT;go_wp2_with fail;go_ret;exact ⟨by unfold Oj;rw[HT.out];rfl,HB.out⟩
  · intro k v w4 cnt1 hk hlk hget hrg1 hlt hg1 hs1 hen;obtain ⟨d,hd,p,rfl,p1,p2,p3,p4,hpk, -⟩:=aD.out.P8 k v hget;have aZ:=JY (KO.alloc hrg1 (.cells p.cells 169));have hb4:=HB.out.grown hg1 HB.out.size (fun q hq=>by cases hq;omega);have aB:=JY (hb4.alloc hb4.size (.cells p.cells 169));have hs4:w4.heap.size=wr.heap.size:=hs1;have hrow4:=AF w4 (.cells p.cells 169);have a0:=(JZ hrow4 0).trans (show _=some (.string ⟨p.text.toArray⟩) from rfl);have hsu:(w4.alloc (.cells p.cells 169)).heap.size=w4.heap.size+1:=by simp
    have htl:p.text.length<=4611686018427387904:=by
     have h:=hpk.parse;rw[Kw.parse.eq_def] at h;split at h
     · cases h
     · omega
    have HST:=JY (aai D left k d aD.out.Mt ((Hv.get_some aD.out.Mt).1 hd) hlk);rw[<- p1] at HST;obtain ⟨s0,eQ⟩:∃ s0,min (3200+SX D left) 1048576=s0:=⟨_,rfl⟩
    have dP:=JY eQ;have hsl:s0<=1048576:=by omega
    simp only[Pk.val,Pk.cells] at hen |-;rw[eQ];clear hrg1 hg1 hget hpk p1 p2 p3 p4 hd hb4 hrow4 eQ;go_wp2_with fail;refine (VZ s0 hsl p.text htl _).mono ?_;rintro e w5 ⟨rfl,rfl⟩;have HE:Hid (min (s0+p.text.length) 1048576=min (3200+SX D (fun z=>left z && !(z==k))) 1048576):=JY (by rw[HST.out,<- dP.out];omega);rw[HE.out];simp only[Pk.cells] at aZ aB hsu;go_wp2_with fail;go_roundw
    case rel=>exact ⟨_,cnt1,rfl,aZ,aB,by omega⟩
    case measure=>rw[aZ.out.left_eq,HG.out.left_eq];exact hlt
def Vu (D:VM Hv.PD) (n:S) (d:Hv.PD):Bool:=d.st.needs.any fun q=>Hv.has D q.1 && !(q.1==n)
def Pk.arc (p:Pk):Value := .agg #[.string ⟨p.nm.toArray⟩, .string ⟨p.ve.toArray⟩, .slice p.needs.a p.needs.n p.needs.c, .slice p.breaks.a p.breaks.n p.breaks.c, .slice p.wakes.a p.wakes.n p.wakes.c, .slice p.files.a p.files.n p.files.c, .slice p.runs.a p.runs.n p.runs.c, .slice p.Kn.a p.Kn.n p.Kn.c]
theorem Sr(p:Pk) (w:World):(Instr.field 169 p.val 1).run Tryz.prog w = .ok p.arc w:=by kernel_rfl
theorem ab8(p:Pk) (w:World):(Instr.field 167 p.arc 2).run Tryz.prog w = .ok p.needs.val w:=by kernel_rfl
theorem Vv(pm:Nat) (P:VM Value) (D:VM Hv.PD) (N:Nat->Prop) (n:S) (hnl:n.length<=maxLen) (d:Hv.PD) (hd:Hv.get D n=some d) (w:World) (hp:J6 w pm P) (hP:Ls N w D P) :
 Calls Tryz.prog 132 #[.string ⟨n.toArray⟩, .map (some pm)] w fun e w'=>e = .returned (.bool (!Vu D n d))/\Below w.heap.size w w':=by
 obtain ⟨v,hget,⟨tx,pn,pv,⟨na,nn,nc⟩,br,wk,fl,ru,wo,bV⟩,rfl,p1,p2,p3,p4,hpk, -⟩:=hP.Vk n d hd;have HN:=JY (ahe (hpk.rows 0));have HO:=JY (hpk.rows 0);have iu:=JY (Lm hpk.parse).2.2.needs;have fP:=JY (KZ hpk.parse).2.2.1;have HP:=JY hp;have aD:=JY hP;have hpl:=hp.lt;clear hpk p1 p2 p3 p4 hd hP;have aS:=Sr ⟨tx,pn,pv,⟨na,nn,nc⟩,br,wk,fl,ru,wo,bV⟩ w;have hf2:=ab8 ⟨tx,pn,pv,⟨na,nn,nc⟩,br,wk,fl,ru,wo,bV⟩ w;simp only[Pk.val,Pk.cells,Pk.arc,Sl.val] at aS hf2;go_enter Tryz.func132,Tryz.ntmps132;go_wp2_with (first
  | (at_lookup;refine Ol rfl _ _ 97 rfl 169 IS (KW _) hp rfl n hnl rfl ?_;rw[hget];simp only[DE,Pk.val,Pk.cells]))
 clear hget hp aS hf2;go_loopw [15] (fun i w2=>∃ j:Nat,j<=nn/\i = .int .i64 (j:Int)/\Hid ((d.st.needs.take j).any (fun q=>Hv.has D q.1 && !(q.1==n))=false)/\Hid (Below w.heap.size w w2)) (fun i _=>nn-(intOf i).toNat)
 case atStart=>exact ⟨0,Bs _,rfl,JY (by simp),JY (AD _ _)⟩
 case round =>
  obtain ⟨j,hj,rfl,HA,ah⟩:=hrel;by_cases hjl:j<nn
  · have b1:(j:Int)<(nn:Int):=by omega
    have cD:j<d.st.needs.length:=by have:=HN.out;simp only[Ku] at this;omega
    obtain ⟨g,c,hv,hg,q1,q2⟩:=OM HO.out cD;obtain rfl:na=some ⟨g,0,none⟩:=(DS hv).1;have d1:=(ah.out.cell (p:=⟨g,j*2,none⟩) hg).trans q1;have d2:=(ah.out.cell (p:=⟨g,j*2+1,none⟩) hg).trans q2;have hgd:=iu.out _ (B1 cD);have qQ:j<21:=by have:=fP.out.1;omega
    have cx:=JY (B1 cD);have bS:=JY (fun h=>R9 (f:=fun q:S × S=>Hv.has D q.1 && !(q.1==n)) cD HA.out h);obtain ⟨q,hq⟩:∃ q,d.st.needs[j]=q:=⟨_,rfl⟩
    rw[hq] at d1 d2 hgd cx bS;obtain ⟨n1,n2⟩:=q;have ry:n1.length<=maxLen:=by have:=Ye hgd.1;unfold maxLen;simp only at this;omega
    simp only at bS;have hp2:=(HP.out.below ah.out).alloc (.cells #[.string ⟨n1.toArray⟩, .string ⟨n2.toArray⟩] 287);have lM:=JY (ah.out.alloc ah.out.size (.cells #[.string ⟨n1.toArray⟩, .string ⟨n2.toArray⟩] 287));clear hv q1 q2 hgd hq;cases hq:Hv.get P n1 with
    | none =>
      have cT:Hv.has P n1=false:=by rw[Hv.J9,hq];rfl
      have oY:Hid (Hv.has D n1=false):=JY (by rw[<- aD.out.has_eq];exact cT);have av:=JY (lM.out.alloc lM.out.size (.cells zeroCells 169));simp only[zeroCells] at av;go_wp2_with (first
       | (at_lookup;refine K6 rfl _ _ 97 rfl 169 IS (KW _) hp2 rfl n1 ry rfl ?_;rw[hq,cT];simp only[FS]))
      go_roundw
      case rel=>exact ⟨j+1,by omega,by go_num,JY (bS.out (by rw[oY.out];rfl)),av⟩
      case measure=>simp[intOf];omega
    | some u =>
      obtain ⟨_,_,q,rfl, -⟩:=aD.out.P8 n1 u hq;have cT:Hv.has P n1=true:=by rw[Hv.J9,hq];rfl
      have oY:Hid (Hv.has D n1=true):=JY (by rw[<- aD.out.has_eq];exact cT);have av:=JY (lM.out.alloc lM.out.size (.cells q.cells 169));simp only[Pk.cells] at av;by_cases he:n1=n
      · subst he;go_wp2_with (first
         | (at_lookup;refine K6 rfl _ _ 97 rfl 169 IS (KW _) hp2 rfl n1 ry rfl ?_;rw[hq,cT];simp only[DE,Pk.val,Pk.cells]))
        go_roundw
        case rel=>exact ⟨j+1,by omega,by go_num,JY (bS.out (by simp)),av⟩
        case measure=>simp[intOf];omega
      · have hne:(n1==n)=false:=by simpa using he
        go_wp2_with (first
         | (at_lookup;refine K6 rfl _ _ 97 rfl 169 IS (KW _) hp2 rfl n1 ry rfl ?_;rw[hq,cT];simp only[DE,Pk.val,Pk.cells]))
        go_ret;rw[show Vu D n d=true from List.any_eq_true.2 ⟨_,cx.out,by rw[oY.out];simpa using he⟩];exact ⟨rfl,av.out⟩
  · obtain rfl:j=nn:=by omega
    have b1 : ¬ (j:Int)<(j:Int):=by omega
    go_wp2_with fail;go_ret;rw[show Vu D n d=false by have:=HA.out;rwa [An (by have:=HN.out;simp only[Ku] at this;omega)] at this];exact ⟨rfl,ah.out⟩
theorem Z8(p t x:S) (b:Nat) (w:World) (h:w.cell? ⟨b,0,none⟩=some (.string ⟨x.toArray⟩)) :
 Calls Tryz.prog 232 #[.agg #[.string ⟨p.toArray⟩, .string ⟨t.toArray⟩], .pointer (some ⟨b,0,none⟩)] w fun e w'=>e = .returned (.bool (p==x))/\Below w.heap.size w w':=by
 have hb:=B5 w _ h;have hb':b<w.heap.size:=hb;have hn : ¬ b=w.heap.size:=by omega
 go_enter Tryz.func232,Tryz.ntmps232;go_wp2_with fail;go_ret;exact ⟨rfl,(AD _ w).alloc (AC _) _⟩
theorem ad6(F:List (S × S)) (hF:F.length<=2000) (x:S) (b:Nat) (base:Nat) (v:Value) (w:World) (hv:w.ownsRow base 287 2 v F.length (F.flatMap Lj)) (h:w.cell? ⟨b,0,none⟩=some (.string ⟨x.toArray⟩)) :
 Calls Tryz.prog 279 #[v, .func (.func 232) #[] #[.pointer (some ⟨b,0,none⟩)]] w fun e w'=>∃ i:Int,e = .returned (.int .i64 i)/\decide (0<=i)=(F.any fun f=>f.1==x)/\Below w.heap.size w w':=by
 obtain ⟨n,hn⟩:∃ n,F.length=n:=⟨_,rfl⟩
 rw[hn] at hv hF;have HN:=JY hn;obtain ⟨ao,c,rfl⟩:=J4 hv;have hb:b<w.heap.size:=B5 w _ h;clear hn;go_enter Tryz.func279,Tryz.ntmps279;go_wp2_with fail;go_loopw [8] (fun i wr=>∃ k:Nat,k<=n/\i = .int .i64 k/\Hid ((F.take k).any (fun f=>f.1==x)=false)/\Hid (Below w.heap.size w wr)) (fun i _=>n-(intOf i).toNat)
 case atStart=>exact ⟨0,by omega,rfl,JY rfl,JY (AD _ _)⟩
 case round =>
  obtain ⟨k,hk,rfl,HA,HB⟩:=hrel;by_cases hlt:k<n
  · have b1:(k:Int)<(n:Int):=by omega
    have hkl:k<F.length:=by rw[HN.out];exact hlt
    obtain ⟨g,cap,hv2⟩:=Kt hv (by omega);cases hv2;have hgl:=(hv.lt g rfl).2;obtain ⟨p,hp⟩:∃ p,F.getD k ([],[])=p:=⟨_,rfl⟩
    obtain ⟨p1,p2⟩:=p;have ni:=afA F k hkl;rw[hp] at ni;have d1:wr.cell? ⟨g,k*2,none⟩=some (.string ⟨p1.toArray⟩):=by rw[Nat.mul_comm];exact (HB.out.cell (p:=⟨g,2*k,none⟩) hgl).trans ((hv.cellAt _ (by omega)).trans ni.1)
    have d2:wr.cell? ⟨g,k*2+1,none⟩=some (.string ⟨p2.toArray⟩):=by rw[Nat.mul_comm];exact (HB.out.cell (p:=⟨g,2*k+1,none⟩) hgl).trans ((hv.cellAt _ (by omega)).trans ni.2)
    have hx:wr.cell? ⟨b,0,none⟩=some (.string ⟨x.toArray⟩):=(HB.out.cell (p:=⟨b,0,none⟩) hb).trans h;have hs:(F.take (k+1)).any (fun f=>f.1==x)=(p1==x):=by
     rw[AT hkl,List.any_append,HA.out];have:F[k]=(p1,p2):=by rw[<- hp];simp[List.getD,B9 hkl]
     simp[this]
    have hin:p1==x->(F.any fun f=>f.1==x)=true:=fun e=>by
     rw[List.any_eq_true];have:F[k]=(p1,p2):=by rw[<- hp];simp[List.getD,B9 hkl]
     exact ⟨F[k],B1 hkl,by rw[this];exact e⟩
    have HS:=JY hs;have zE:=JY hin;have hbs:=HB.out.size;clear hp ni hs hin;cases he:(p1==x)
    · have bq:Hid ((F.take (k+1)).any (fun f=>f.1==x)=false):=JY (by rw[HS.out,he]);go_wp2_with (refine (Z8 p1 p2 x b _ hx).mono ?_;rintro e w' ⟨he',hb1⟩;rw[he] at he';subst he')
      go_roundw
      case rel=>exact ⟨k+1,by omega,by go_num,bq,JY (HB.out.trans (hb1.mono hbs))⟩
      case measure=>simp[intOf];omega
    · have aM:=JY (zE.out he);go_wp2_with (refine (Z8 p1 p2 x b _ hx).mono ?_;rintro e w' ⟨he',hb1⟩;rw[he] at he';subst he')
      go_ret;exact ⟨_,rfl,by rw[aM.out];simp,HB.out.trans (hb1.mono hbs)⟩
  · obtain rfl:k=n:=by omega
    have kN:Hid ((F.any fun f=>f.1==x)=false):=JY (by have:=HA.out;rwa [An (by rw[HN.out];exact AC _)] at this);go_wp2_with fail;go_ret;exact ⟨_,rfl,by rw[kN.out];rfl,HB.out⟩
theorem Y3(F:List (S × S)) (hF:F.length<=2000) (x:S) (b:Nat) (base:Nat) (v:Value) (w:World) (hv:w.ownsRow base 287 2 v F.length (F.flatMap Lj)) (h:w.cell? ⟨b,0,none⟩=some (.string ⟨x.toArray⟩)) :
 Calls Tryz.prog 231 #[v, .func (.func 232) #[] #[.pointer (some ⟨b,0,none⟩)]] w fun e w'=>e = .returned (.bool (F.any fun f=>f.1==x))/\Below w.heap.size w w':=by
 have H:=JY (ad6 F hF x b base v w hv h);clear hv h;go_enter Tryz.func231,Tryz.ntmps231;go_wp2_with (go_at_call 279;refine H.out.mono ?_;rintro e w1 ⟨i,rfl,hi,hb⟩)
 go_ret;exact ⟨rfl,hb⟩
theorem agM(p:Pk) (st:St) (n:S) (w:World) (h:w.ownsRow 0 287 2 p.needs.val st.needs.length (st.needs.flatMap Lj)) (hl:st.needs.length<=2000) :
 Calls Tryz.prog 190 #[p.arc, .string ⟨n.toArray⟩] w fun e w'=>e = .returned (.bool (st.needs.any fun q=>q.1==n))/\Below w.heap.size w w':=by
 obtain ⟨tx,pn,pv,⟨na,nn,nc⟩,br,wk,fl,ru,wo,bV⟩:=p;obtain ⟨cs,hcs⟩:∃ cs,cs = #[Value.string ⟨pn.toArray⟩, .string ⟨pv.toArray⟩, .slice na nn nc, .slice br.a br.n br.c, .slice wk.a wk.n wk.c, .slice fl.a fl.n fl.c, .slice ru.a ru.n ru.c, .slice wo.a wo.n wo.c]:=⟨_,rfl⟩
 have hrow:=AF w (.cells cs 167);have k2:=(JZ ((AM (w.alloc (.cells cs 167)) (.cells #[.string ⟨n.toArray⟩] 9) w.heap.size (by simp)).trans hrow) 2).trans (show _=some (.slice na nn nc) by rw[hcs];rfl);have HO:Hid (((w.alloc (.cells cs 167)).alloc (.cells #[.string ⟨n.toArray⟩] 9)).ownsRow 0 287 2 (.slice na nn nc) st.needs.length (st.needs.flatMap Lj)):=JY ((h.alloc _).alloc _);have HC:=JY (JZ (AF (w.alloc (.cells cs 167)) (.cells #[.string ⟨n.toArray⟩] 9)) 0);have HB:=JY (((AD w.heap.size w).alloc (AC _) (.cells cs 167)).alloc (by simp) (.cells #[.string ⟨n.toArray⟩] 9));have hsz:(w.alloc (.cells cs 167)).heap.size=w.heap.size+1:=by simp
 rw[hsz] at HC;subst hcs;clear h hrow hsz;simp only[Pk.arc];go_enter Tryz.func190,Tryz.ntmps190;go_wp2_with (go_at_call 231;refine (Y3 st.needs hl n (w.heap.size+1) 0 (.slice na nn nc) _ HO.out HC.out).mono ?_;rintro e w1 ⟨rfl,hb⟩)
 go_ret;exact ⟨rfl,HB.out.trans (hb.mono HB.out.size)⟩
def Xe (D:VM Hv.PD) (n:S):Bool:=D.any fun p => !(p.1==n)&&p.2.st.needs.any fun q=>q.1==n
theorem Vw(pm:Nat) (P:VM Value) (D:VM Hv.PD) (N:Nat->Prop) (n:S) (w:World) (hp:J6 w pm P) (hP:Ls N w D P) :
 Calls Tryz.prog 134 #[.string ⟨n.toArray⟩, .map (some pm)] w fun e w'=>e = .returned (.bool (!Xe D n))/\Below w.heap.size w w':=by
 have hpl:=hp.lt;have HP:=JY hp;have aD:=JY hP;clear hp hP;go_enter Tryz.func134,Tryz.ntmps134;have hp1:=HP.out;go_wp2_with (first
  | (at_range;refine Mc rfl _ 97 rfl 169 IS hp1 rfl ?_;intro w0 hrg0 hg0 hs0;have aT:=JY hrg0;have aC:=JY ((AD w.heap.size w).grown hg0 (AC _) (fun q hq=>by cases hq))))
 go_frame
 clear hg0 hrg0 hp1;go_loopw [9] (fun _ wr=>∃ (left:S->Bool) (cnt:Nat),Hid (KO wr pm w.heap.size P left cnt)/\Hid (∀ k d,Hv.get D k=some d->left k=true\/(!(k==n)&&d.st.needs.any fun q=>q.1==n)=false)/\Hid (Below w.heap.size w wr)/\w.heap.size<wr.heap.size)
  (fun _ wr=>wr.rangeLeft pm w.heap.size)
 case atStart=>exact ⟨_,_,aT,JY (fun k d h => .inl (by rw[aD.out.has_eq,Hv.J9,h];rfl)),aC,by omega⟩
 case round =>
  clear aT aC;obtain ⟨left,cnt,HG,HL,HB,hsz1⟩:=hrel;go_wp2_with (first
   | (at_next;refine MW rfl _ rfl w.heap.size left cnt rfl HG.out ?_ ?_))
  · intro hc0 hl0;go_wp2_with fail;go_ret;rw[show Xe D n=false from Xo (fun k d => !(k==n)&&d.st.needs.any fun q=>q.1==n) aD.out.Mt (fun k d h1=>(HL.out k d h1).resolve_left (by rw[hl0 k];simp))];exact ⟨rfl,HB.out⟩
  · intro k v w4 cnt1 hk hlk hget hrg1 hlt hg1 hs1 hen;obtain ⟨d,hd,p,rfl,p1,p2,p3,p4,hpk, -⟩:=aD.out.P8 k v hget;have aZ:=JY (KO.alloc hrg1 (.cells p.cells 169));have hb4:=HB.out.grown hg1 HB.out.size (fun q hq=>by cases hq;omega);have aB:=JY (hb4.alloc hb4.size (.cells p.cells 169));have hs4:w4.heap.size=wr.heap.size:=hs1;have hrow4:=AF w4 (.cells p.cells 169);have T:=Pk.at_ hrow4;have HO:=JY (Ky (hpk.rows 0) (aB.out));have fP:=JY (KZ hpk.parse).2.2.1;have HD:=JY hd;have hsu:(w4.alloc (.cells p.cells 169)).heap.size=w4.heap.size+1:=by simp
    have hs5:w.heap.size<(w4.alloc (.cells p.cells 169)).heap.size:=by rw[hsu];omega
    simp only[Pk.val,Pk.cells] at hen |-;simp only[Pk.cells] at aZ aB hs5 HO T;clear hrg1 hg1 hget hpk p1 p2 p3 p4 hd hb4 hrow4 hsu;have eW:Hid ((!(k==n)&&d.st.needs.any fun q=>q.1==n)=false->∀ k' d',Hv.get D k'=some d'->(left k' && !(k'==k))=true\/(!(k'==n)&&d'.st.needs.any fun q=>q.1==n)=false):=JY (fun hno k' d' h1=>by
     rcases HL.out k' d' h1 with q | q
     · by_cases e:k'=k
       · subst e;rw[HD.out] at h1;cases h1;exact .inr hno
       · exact .inl (by simp[q,e])
     · exact .inr q)
    by_cases he:k=n
    · subst he;go_wp2_with fail;go_roundw
      case rel=>exact ⟨_,cnt1,aZ,JY (eW.out (by simp)),aB,hs5⟩
      case measure=>rw[aZ.out.left_eq,HG.out.left_eq];exact hlt
    · have hne:(k==n)=false:=by simpa using he
      obtain ⟨t0,t1,t2,t3,t4,t5,t6,t7,t8,t9⟩:=T;go_wp2_with fail;refine (agM p d.st n _ HO.out (by have:=fP.out.1;omega)).mono ?_;rintro e w5 ⟨rfl,aG⟩;have dN:=JY (aZ.out.below aG);have bf:=JY (aB.out.trans (aG.mono aB.out.size));have kI:w.heap.size<w5.heap.size:=B3 hs5 aG.size;clear aG;cases hq:(d.st.needs.any fun q=>q.1==n)
      · go_wp2_with fail;go_roundw
        case rel=>exact ⟨_,cnt1,dN,JY (eW.out (by rw[hq];simp)),bf,kI⟩
        case measure=>rw[dN.out.left_eq,HG.out.left_eq];exact hlt
      · go_wp2_with fail;go_ret;rw[show Xe D n=true from aaD (fun k d => !(k==n)&&d.st.needs.any fun q=>q.1==n) aD.out.Mt HD.out (by rw[hq];simpa using he)];exact ⟨rfl,bf.out⟩
end
end Go.Proofs.YtfhmaiicimdldaaGreatDoor
