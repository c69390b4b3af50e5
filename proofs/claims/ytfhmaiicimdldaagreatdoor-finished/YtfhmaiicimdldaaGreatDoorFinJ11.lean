import Derived.Test.YtfhmaiicimdldaaGreatDoorFinJ10
set_option maxHeartbeats 4000000
set_option maxRecDepth 100000
namespace Go.Proofs.YtfhmaiicimdldaaGreatDoor
variable {N:Nat->Prop}{w w1 w2 wr:World}{B e k:Nat}{v:Value}
section
open Go.RowKit
open Kw (St)
open Hv (S Dk VM)
variable {D I P:VM Hv.PD}{E:VM Value}
theorem Ls.get_none(h:Ls N w D E) {k:S} (q:Hv.get E k=none):Hv.get D k=none:=by
 cases e:Hv.get D k with
 | none=>rfl
 | some d=>obtain ⟨v,hv,_⟩:=h.Vk k d e;rw[q] at hv;cases hv
theorem Ls.has_eq(h:Ls N w D E) (k:S):Hv.has E k=Hv.has D k:=by
 rw[Hv.J9,Hv.J9];cases q:Hv.get E k with
 | none=>rw[h.get_none q];rfl
 | some v=>obtain ⟨d,hd,_⟩:=h.P8 k v q;rw[hd];rfl
def aew (P I:VM Hv.PD):Bool:=I.any fun p=>match Hv.get P p.1 with
 | none=>false
 | some o=>decide ((J8.compare p.2.ve o.ve).1<=0)
theorem ai0(hI:Hv.Ki I) (h:∀ k d o,Hv.get I k=some d->Hv.get P k=some o->0<(J8.compare d.ve o.ve).1):aew P I=false:=by
 unfold aew;rw[List.any_eq_false];intro p hp;have:=(Hv.get_some hI).2 (show (p.1,p.2)∈I from hp);cases e:Hv.get P p.1 with
 | none=>simp
 | some o=>simpa using h p.1 p.2 o this e
theorem akB(hI:Hv.Ki I) {k:S} {d o:Hv.PD} (h1:Hv.get I k=some d) (h2:Hv.get P k=some o) (h:(J8.compare d.ve o.ve).1<=0):aew P I=true :=
 List.any_eq_true.2 ⟨(k,d),(Hv.get_some hI).1 h1,by simp only[h2];exact decide_eq_true h⟩
theorem WT(pm rm im:Nat) (P I:VM Value) (DP DI:VM Hv.PD) (NP NI:Nat->Prop) (w:World) (hp:J6 w pm P) (hi:J6 w im I) (hP:Ls NP w DP P) (hI:Ls NI w DI I) :
 Calls Tryz.prog 125 #[.map (some pm), .agg #[.map (some rm), .map (some im)]] w fun e w'=>e = .returned (.bool (aew DP DI))/\Below w.heap.size w w':=by
 have hpl:=hp.lt;have hil:=hi.lt;have HP:=JY hp;have HI:=JY hi;have aD:=JY hP;have fX:=JY hI;clear hp hi hP hI;have hrow:=AF w (.cells #[.map (some rm), .map (some im)] 148);have c1:=(JZ hrow 1).trans (show _=some (.map (some im)) from rfl);go_enter Tryz.func125,Tryz.ntmps125;have hi1:=HI.out.alloc (.cells #[.map (some rm), .map (some im)] 148);have hp1:=HP.out.alloc (.cells #[.map (some rm), .map (some im)] 148);clear hrow;go_wp2_with (first
  | (at_range;refine Mc rfl _ 97 rfl 169 IS hi1 rfl ?_;intro w0 hrg0 hg0 hs0;have aT:=JY hrg0;have cF:=JY (hp1.kept (hg0.block pm hp1.lt (by simp)));have aC:=JY (((AD w.heap.size w).alloc (AC _) (.cells #[.map (some rm), .map (some im)] 148)).grown hg0 (by simp) (fun q hq=>by cases hq))))
 have hsz:(w.alloc (.cells #[.map (some rm), .map (some im)] 148)).heap.size=w.heap.size+1:=by simp
 rw[hsz] at aT hs0 |-
 go_frame
 clear hg0 hrg0 c1;go_loopw [12] (fun _ wr=>∃ (left:S->Bool) (cnt:Nat),Hid (KO wr im (w.heap.size+1) I left cnt)/\Hid (J6 wr pm P)/\Hid (∀ k d o,Hv.get DI k=some d->Hv.get DP k=some o->left k=true\/0<(J8.compare d.ve o.ve).1)/\Hid (Below w.heap.size w wr)/\w.heap.size+1<wr.heap.size)
  (fun _ wr=>wr.rangeLeft im (w.heap.size+1))
 case atStart=>exact ⟨_,_,aT,cF,JY (fun k d o h _ => .inl (by rw[fX.out.has_eq,Hv.J9,h];rfl)),aC,by omega⟩
 case round =>
  clear aT cF aC hi1 hp1;obtain ⟨left,cnt,HG,bB,HL,HB,hsz1⟩:=hrel;go_wp2_with (first
   | (at_next;refine MW rfl _ rfl (w.heap.size+1) left cnt rfl HG.out ?_ ?_))
  · intro hc0 hl0;go_wp2_with fail;go_ret;rw[ai0 fX.out.Mt (fun k d o h1 h2=>(HL.out k d o h1 h2).resolve_left (by rw[hl0 k];simp))];exact ⟨rfl,HB.out⟩
  · intro k v w4 cnt1 hk hlk hget hrg1 hlt hg1 hs1 hen;obtain ⟨d,hd,p,rfl,p1,p2,p3,p4,hpk, -⟩:=fX.out.P8 k v hget;have aZ:=JY hrg1;have nY:=(bB.out.kept (hg1.block pm bB.out.lt (by simp;omega))).alloc (.cells p.cells 169);have aB:=JY ((HB.out.grown hg1 HB.out.size (fun q hq=>by cases hq;omega)).alloc (Bi HB.out.size (Nat.le_of_eq hs1.symm)) (.cells p.cells 169));have hs4:w4.heap.size=wr.heap.size:=hs1;have rT:=JY hpk.parse;have HD:=JY hd;have HV:=JY p3;clear hrg1 hg1 hget hpk p1 p2 p3 p4 hd;have hrow4:=AF w4 (.cells p.cells 169);have rJ:(w4.alloc (.cells p.cells 169)).heap.size=w4.heap.size+1:=by simp
    have HG2:Hid (KO (w4.alloc (.cells p.cells 169)) im (w.heap.size+1) I (fun z=>left z && !(z==k)) cnt1):=JY ⟨aZ.out.1,aZ.out.2.alloc _⟩;simp only[Pk.val,Pk.cells] at hen |-;cases hq:Hv.get P k with
    | none =>
      have cT:Hv.has P k=false:=by rw[Hv.J9,hq];rfl
      have uZ:=aD.out.get_none hq;clear hrow4;go_wp2_with (first
       | (at_lookup;refine K6 rfl _ _ 97 rfl 169 IS (KW _) nY rfl k hk rfl ?_;rw[hq,cT];simp only[FS]))
      have cZ:Hid (KO ((w4.alloc (.cells p.cells 169)).alloc (.cells #[.string ⟨#[]⟩, .string ⟨#[]⟩, .string ⟨#[]⟩, .slice none 0 0, .slice none 0 0, .slice none 0 0, .slice none 0 0, .slice none 0 0, .slice none 0 0, .int .i64 0] 169)) im (w.heap.size+1) I (fun z=>left z && !(z==k)) cnt1):=JY ⟨HG2.out.1,HG2.out.2.alloc _⟩;go_roundw
      case rel=>exact ⟨_,cnt1,cZ,JY (nY.alloc _),JY (fun k' d' o' h1 h2=>by
       rcases HL.out k' d' o' h1 h2 with q | q
       · by_cases e:k'=k
         · subst e;rw[uZ] at h2;cases h2
         · exact .inl (by simp[q,e])
       · exact .inr q),JY (aB.out.alloc aB.out.size _),by simp;omega⟩
      case measure =>
       show (World.rangeLeft ((w4.alloc (.cells p.cells 169)).alloc (.cells #[.string ⟨#[]⟩, .string ⟨#[]⟩, .string ⟨#[]⟩, .slice none 0 0, .slice none 0 0, .slice none 0 0, .slice none 0 0, .slice none 0 0, .slice none 0 0, .int .i64 0] 169)) im (w.heap.size+1))<_;rw[cZ.out.2.left_eq,HG.out.2.left_eq];exact hlt
    | some u =>
      obtain ⟨o,ho,q,rfl,q1,q2,q3,q4,sK, -⟩:=aD.out.P8 k u hq;have cT:Hv.has P k=true:=by rw[Hv.J9,hq];rfl
      have kT:=JY sK.parse;have HO:=JY ho;have Dr:=JY q3;clear sK q1 q2 q3 q4 ho;have oC:=AF (w4.alloc (.cells p.cells 169)) (.cells q.cells 169);have hr4:=(AM (w4.alloc (.cells p.cells 169)) (.cells q.cells 169) w4.heap.size (by simp)).trans hrow4;have a2:=(JZ hr4 2).trans (show _=some (.string ⟨p.ve.toArray⟩) from rfl);have b2:=(JZ oC 2).trans (show _=some (.string ⟨q.ve.toArray⟩) from rfl);have cZ:Hid (KO ((w4.alloc (.cells p.cells 169)).alloc (.cells q.cells 169)) im (w.heap.size+1) I (fun z=>left z && !(z==k)) cnt1):=JY ⟨HG2.out.1,HG2.out.2.alloc _⟩;have bf:=JY (aB.out.alloc aB.out.size (.cells q.cells 169));have eJ:=JY (nY.alloc (.cells q.cells 169));rw[rJ] at oC b2;clear hr4 oC hrow4;go_wp2_with (first
       | (at_lookup;refine K6 rfl _ _ 97 rfl 169 IS (KW _) nY rfl k hk rfl ?_;rw[hq,cT];simp only[DE,Pk.val,Pk.cells]))
      refine (WC p.ve q.ve (Lm rT.out).2.1 (Lm kT.out).2.1 _).mono ?_;rintro e w6 ⟨rfl,aN⟩;obtain ⟨z,hz⟩:∃ z,(J8.compare p.ve q.ve).1=z:=⟨_,rfl⟩
      have HZ:=JY hz;rw[hz];have nI:=JY (cZ.out.below aN);have kX:=JY (eJ.out.below aN);have bF:=JY (bf.out.trans (aN.mono bf.out.size));have kI:wr.heap.size+2<=w6.heap.size:=by have:=aN.size;simp at this;omega
      clear aN a2 b2 hz;by_cases hc:z<=0
      · go_wp2_with fail;go_ret;rw[akB fX.out.Mt HD.out HO.out (by rw[<- HV.out,<- Dr.out,HZ.out];exact hc)];exact ⟨rfl,bF.out⟩
      · go_wp2_with fail;go_roundw
        case rel=>exact ⟨_,cnt1,nI,kX,JY (fun k' d' o' h1 h2=>by
         rcases HL.out k' d' o' h1 h2 with q | q
         · by_cases e:k'=k
           · subst e;rw[HD.out] at h1;cases h1;rw[HO.out] at h2;cases h2;exact .inr (by rw[<- HV.out,<- Dr.out,HZ.out];omega)
           · exact .inl (by simp[q,e])
         · exact .inr q),bF,by omega⟩
        case measure=>rw[nI.out.left_eq,HG.out.left_eq];exact hlt
def OZ (D:VM Hv.PD) (n v:S):Bool:=match Hv.get D n with
 | none=>false
 | some p=>decide (v=[]\/0<=(J8.compare p.ve v).1)
def zeroCells:Array Value := #[.string ⟨#[]⟩, .string ⟨#[]⟩, .string ⟨#[]⟩, .slice none 0 0, .slice none 0 0, .slice none 0 0, .slice none 0 0, .slice none 0 0, .slice none 0 0, .int .i64 0]
theorem aem(pm:Nat) (P:VM Value) (n v:S) (hn:n.length<=maxLen) (hq:Hv.get P n=none) (w:World) (hp:J6 w pm P) :
 Calls Tryz.prog 182 #[.map (some pm), .agg #[.string ⟨n.toArray⟩, .string ⟨v.toArray⟩]] w fun e w'=>e = .returned (.bool false)/\Below w.heap.size w w':=by
 have hrow:=AF w (.cells #[.string ⟨n.toArray⟩, .string ⟨v.toArray⟩] 287);have c0:=(JZ hrow 0).trans (show _=some (.string ⟨n.toArray⟩) from rfl);have hp1:=hp.alloc (.cells #[.string ⟨n.toArray⟩, .string ⟨v.toArray⟩] 287);have HB:=JY (((AD w.heap.size w).alloc (AC _) (.cells #[.string ⟨n.toArray⟩, .string ⟨v.toArray⟩] 287)).alloc (by simp) (.cells zeroCells 169));have cT:Hv.has P n=false:=by rw[Hv.J9,hq];rfl
 clear hrow;go_enter Tryz.func182,Tryz.ntmps182;go_wp2_with (first
  | (at_lookup;refine K6 rfl _ _ 97 rfl 169 IS (KW _) hp1 rfl n hn rfl ?_;rw[hq,cT];simp only[FS]))
 go_ret;exact ⟨rfl,HB.out⟩
theorem aen(pm:Nat) (P:VM Value) (n v:S) (hn:n.length<=maxLen) (p:Pk) (hq:Hv.get P n=some p.val) (hf:J8.fine p.ve=true) (hv:v=[]\/J8.fine v=true) (w:World) (hp:J6 w pm P) :
 Calls Tryz.prog 182 #[.map (some pm), .agg #[.string ⟨n.toArray⟩, .string ⟨v.toArray⟩]] w fun e w'=>e = .returned (.bool (decide (v=[]\/0<=(J8.compare p.ve v).1)))/\Below w.heap.size w w':=by
 have hrow:=AF w (.cells #[.string ⟨n.toArray⟩, .string ⟨v.toArray⟩] 287);have c0:=(JZ hrow 0).trans (show _=some (.string ⟨n.toArray⟩) from rfl);have hp1:=hp.alloc (.cells #[.string ⟨n.toArray⟩, .string ⟨v.toArray⟩] 287);have HB:=JY (((AD w.heap.size w).alloc (AC _) (.cells #[.string ⟨n.toArray⟩, .string ⟨v.toArray⟩] 287)).alloc (by simp) (.cells p.cells 169));have cT:Hv.has P n=true:=by rw[Hv.J9,hq];rfl
 have hr2:=AF (w.alloc (.cells #[.string ⟨n.toArray⟩, .string ⟨v.toArray⟩] 287)) (.cells p.cells 169);have hsz:(w.alloc (.cells #[.string ⟨n.toArray⟩, .string ⟨v.toArray⟩] 287)).heap.size=w.heap.size+1:=by simp
 rw[hsz] at hr2;have a2:=(JZ hr2 2).trans (show _=some (.string ⟨p.ve.toArray⟩) from rfl);have hr1:=(AM (w.alloc (.cells #[.string ⟨n.toArray⟩, .string ⟨v.toArray⟩] 287)) (.cells p.cells 169) w.heap.size (by simp)).trans hrow;have b1:=(JZ hr1 1).trans (show _=some (.string ⟨v.toArray⟩) from rfl);have HF:=JY hf;clear hrow hr1 hr2 hf hp;by_cases hv0:v=[]
 · subst hv0;go_enter Tryz.func182,Tryz.ntmps182;go_wp2_with (first
    | (at_lookup;refine K6 rfl _ _ 97 rfl 169 IS (KW _) hp1 rfl n hn rfl ?_;rw[hq,cT];simp only[DE,Pk.val,Pk.cells]))
   go_ret;exact ⟨by simp,HB.out⟩
 · have rI:=hv.resolve_left hv0;have hne : ¬ (⟨v.toArray⟩:ByteArray)=⟨#[]⟩:=fun e=>hv0 (by simpa using IN (fun b:ByteArray=>b.data.toList) e)
   go_enter Tryz.func182,Tryz.ntmps182;go_wp2_with (first
    | (at_lookup;refine K6 rfl _ _ 97 rfl 169 IS (KW _) hp1 rfl n hn rfl ?_;rw[hq,cT];simp only[DE,Pk.val,Pk.cells]))
   refine (WC p.ve v HF.out rI _).mono ?_;rintro e w6 ⟨rfl,aN⟩;have bF:=JY (HB.out.trans (aN.mono HB.out.size));clear aN;obtain ⟨z,hz⟩:∃ z,(J8.compare p.ve v).1=z:=⟨_,rfl⟩
   rw[hz];by_cases hc:0<=z
   · go_wp2_with fail;go_ret;exact ⟨by simp[hz,hc],bF.out⟩
   · go_wp2_with fail;go_ret;exact ⟨by simp[hz,hv0],bF.out⟩
theorem agK(pm:Nat) (P:VM Value) (D:VM Hv.PD) (N:Nat->Prop) (n v:S) (hn:n.length<=maxLen) (hv:v=[]\/J8.fine v=true) (w:World) (hp:J6 w pm P) (hP:Ls N w D P) :
 Calls Tryz.prog 182 #[.map (some pm), .agg #[.string ⟨n.toArray⟩, .string ⟨v.toArray⟩]] w fun e w'=>e = .returned (.bool (OZ D n v))/\Below w.heap.size w w':=by
 unfold OZ;cases hq:Hv.get P n with
 | none=>rw[hP.get_none hq];exact aem pm P n v hn hq w hp
 | some u =>
   obtain ⟨d,hd,p,rfl,p1,p2,p3,p4,hpk, -⟩:=hP.P8 n u hq;rw[hd];simp only;rw[<- p3];exact aen pm P n v hn p hq (Lm hpk.parse).2.1 hv w hp
def Vm (D:VM Hv.PD):Bool:=D.any fun p=>p.2.st.needs.any fun n => !OZ D n.1 n.2
theorem Xo(f:S->Hv.PD->Bool) (hD:Hv.Ki D) (h:∀ k d,Hv.get D k=some d->f k d=false):(D.any fun p=>f p.1 p.2)=false:=by
 rw[List.any_eq_false];intro p hp;rw[h p.1 p.2 ((Hv.get_some hD).2 hp)];simp
theorem aaD(f:S->Hv.PD->Bool) (hD:Hv.Ki D) {k:S} {d:Hv.PD} (h:Hv.get D k=some d) (hf:f k d=true):(D.any fun p=>f p.1 p.2)=true :=
 List.any_eq_true.2 ⟨(k,d),(Hv.get_some hD).1 h,hf⟩
theorem OM{l:List (S × S)} (h:w.ownsRow B e 2 v l.length (l.flatMap Lj))  (hk:k<l.length) :
 ∃ g c,v = .slice (some ⟨g,0,none⟩) l.length c/\g<w.heap.size/\w.cell? ⟨g,k*2,none⟩=some (.string ⟨l[k].1.toArray⟩)/\w.cell? ⟨g,k*2+1,none⟩=some (.string ⟨l[k].2.toArray⟩):=by
 obtain ⟨g,cap,rfl⟩:=Kt h (by omega);have hp:=afA l k hk;have e1:l.getD k ([],[])=l[k]:=by simp[List.getD,B9 hk]
 rw[e1,Nat.mul_comm] at hp;exact ⟨g,cap,rfl,(h.lt g rfl).2,by rw[h.cellAt _ (by omega)];exact hp.1,by rw[h.cellAt _ (by omega)];exact hp.2⟩
theorem ahe{size n:Nat} {s:Sl} {xs:List Value} (h:w.ownsRow B e size s.val n xs):s.n=n:=by
 obtain ⟨a,c,e⟩:=J4 h;unfold Sl.val at e;cases e;rfl
theorem R9{α:Type} {l:List α} {f:α->Bool}  (hk:k<l.length) (h:(l.take k).any f=false) (hf:f l[k]=false):(l.take (k+1)).any f=false:=by
 rw[AT hk,List.any_append,h];simp[hf]
theorem WV(pm:Nat) (P:VM Value) (D:VM Hv.PD) (N:Nat->Prop) (w:World) (hp:J6 w pm P) (hP:Ls N w D P) :
 Calls Tryz.prog 126 #[.map (some pm)] w fun e w'=>e = .returned (.bool (Vm D))/\Below w.heap.size w w':=by
 have hpl:=hp.lt;have HP:=JY hp;have aD:=JY hP;clear hp hP;go_enter Tryz.func126,Tryz.ntmps126;have hp1:=HP.out;go_wp2_with (first
  | (at_range;refine Mc rfl _ 97 rfl 169 IS hp1 rfl ?_;intro w0 hrg0 hg0 hs0;have aT:=JY hrg0;have aC:=JY ((AD w.heap.size w).grown hg0 (AC _) (fun q hq=>by cases hq))))
 go_frame
 clear hg0 hrg0 hp1;go_loopw [9] (fun _ wr=>∃ (left:S->Bool) (cnt:Nat),Hid (KO wr pm w.heap.size P left cnt)/\Hid (∀ k d,Hv.get D k=some d->left k=true\/(d.st.needs.any fun n => !OZ D n.1 n.2)=false)/\Hid (Below w.heap.size w wr)/\w.heap.size<wr.heap.size)
  (fun _ wr=>wr.rangeLeft pm w.heap.size)
 case atStart=>exact ⟨_,_,aT,JY (fun k d h => .inl (by rw[aD.out.has_eq,Hv.J9,h];rfl)),aC,by omega⟩
 case round =>
  clear aT aC;obtain ⟨left,cnt,HG,HL,HB,hsz1⟩:=hrel;go_wp2_with (first
   | (at_next;refine MW rfl _ rfl w.heap.size left cnt rfl HG.out ?_ ?_))
  · intro hc0 hl0;go_wp2_with fail;go_ret;rw[show Vm D=false from Xo (fun _ d=>d.st.needs.any fun n => !OZ D n.1 n.2) aD.out.Mt (fun k d h1=>(HL.out k d h1).resolve_left (by rw[hl0 k];simp))];exact ⟨rfl,HB.out⟩
  · intro k v w4 cnt1 hk hlk hget hrg1 hlt hg1 hs1 hen;obtain ⟨d,hd,⟨tx,pn,pv,⟨na,nn,nc⟩,br,wk,fl,ru,wo,bV⟩,rfl,p1,p2,p3,p4,hpk, -⟩:=aD.out.P8 k v hget;have aZ:=JY (KO.alloc hrg1 (.cells (Pk.mk tx pn pv ⟨na,nn,nc⟩ br wk fl ru wo bV).cells 169));have hb4:=HB.out.grown hg1 HB.out.size (fun q hq=>by cases hq;omega);have aB:=JY (hb4.alloc hb4.size (.cells (Pk.mk tx pn pv ⟨na,nn,nc⟩ br wk fl ru wo bV).cells 169));have hs4:w4.heap.size=wr.heap.size:=hs1;have hrow4:=AF w4 (.cells (Pk.mk tx pn pv ⟨na,nn,nc⟩ br wk fl ru wo bV).cells 169);have a3:=(JZ hrow4 3).trans (show _=some (.slice na nn nc) from rfl);have HN:=JY (ahe (hpk.rows 0));have HO:=JY (hpk.rows 0);have iu:=JY (Lm hpk.parse).2.2.needs;have fP:=JY (KZ hpk.parse).2.2.1;have HD:=JY hd;have hsu:(w4.alloc (.cells (Pk.mk tx pn pv ⟨na,nn,nc⟩ br wk fl ru wo bV).cells 169)).heap.size=w4.heap.size+1:=by simp
    simp only[Pk.val,Pk.cells] at hen |-;clear hrg1 hg1 hget hpk p1 p2 p3 p4 hd hb4 hrow4;go_wp2_with fail;have hs5:w.heap.size<(w4.alloc (.cells (Pk.mk tx pn pv ⟨na,nn,nc⟩ br wk fl ru wo bV).cells 169)).heap.size:=by rw[hsu];omega
    simp only[Pk.cells] at aZ aB hs5;clear a3 hsu;go_loopw [17] (fun i w2=>∃ j:Nat,j<=nn/\i = .int .i64 (j:Int)/\Hid (KO w2 pm w.heap.size P (fun z=>left z && !(z==k)) cnt1)/\Hid ((d.st.needs.take j).any (fun n => !OZ D n.1 n.2)=false)/\Hid (Below w.heap.size w w2)/\w.heap.size<w2.heap.size) (fun i _=>nn-(intOf i).toNat)
    case atStart=>exact ⟨0,Bs _,rfl,aZ,JY (by simp),aB,hs5⟩
    case round =>
     clear aZ aB;obtain ⟨j,hj,rfl,HG2,HA,ah,hs2⟩:=hrel;by_cases hjl:j<nn
     · have b1:(j:Int)<(nn:Int):=by omega
       have cD:j<d.st.needs.length:=by have:=HN.out;simp only[Ku] at this;omega
       obtain ⟨g,c,hv,hg,q1,q2⟩:=OM HO.out cD;obtain rfl:na=some ⟨g,0,none⟩:=(DS hv).1;have d1:=(ah.out.cell (p:=⟨g,j*2,none⟩) hg).trans q1;have d2:=(ah.out.cell (p:=⟨g,j*2+1,none⟩) hg).trans q2;have hgd:=iu.out _ (B1 cD);have qQ:j<21:=by have:=fP.out.1;omega
       have cx:=JY (B1 cD);have bS:=JY (fun h=>R9 (f:=fun n:S × S => !OZ D n.1 n.2) cD HA.out h);obtain ⟨q,hq⟩:∃ q,d.st.needs[j]=q:=⟨_,rfl⟩
       rw[hq] at d1 d2 hgd cx bS;obtain ⟨n1,n2⟩:=q;have hnl:n1.length<=maxLen:=by have:=hgd.1;simp only[Wd.isName,Wd.Og,Bool.and_eq_true,decide_eq_true_eq] at this;unfold maxLen;omega
       have rI:=hgd.2;simp only at rI bS;clear hv q1 q2 hgd hq;go_wp2_with fail;have av:=JY (ah.out.alloc ah.out.size (.cells #[.string ⟨n1.toArray⟩, .string ⟨n2.toArray⟩] 287));have cZ:=JY (HG2.out.alloc (.cells #[.string ⟨n1.toArray⟩, .string ⟨n2.toArray⟩] 287));refine (agK pm P D N n1 n2 hnl rI _ cZ.out.map (aD.out.below av.out)).mono ?_;rintro e w6 ⟨rfl,aN⟩;have nI:=JY (cZ.out.below aN);have bF:=JY (av.out.trans (aN.mono av.out.size));have kI:w.heap.size<w6.heap.size:=by have:=aN.size;simp at this;omega
       clear aN;cases hm:OZ D n1 n2
       · go_wp2_with fail;go_ret;rw[show Vm D=true from aaD (fun _ d=>d.st.needs.any fun n => !OZ D n.1 n.2) aD.out.Mt HD.out (List.any_eq_true.2 ⟨_,cx.out,by rw[hm];rfl⟩)];exact ⟨rfl,bF.out⟩
       · go_wp2_with fail;go_roundw
         case rel=>exact ⟨j+1,by omega,by go_num,nI,JY (bS.out (by rw[hm];rfl)),bF,kI⟩
         case measure=>simp[intOf];omega
     · obtain rfl:j=nn:=by omega
       have b1 : ¬ (j:Int)<(j:Int):=by omega
       go_wp2_with fail;go_roundw
       case rel=>exact ⟨_,cnt1,HG2,JY (fun k' d' h1=>by
        rcases HL.out k' d' h1 with q | q
        · by_cases e:k'=k
          · subst e;rw[HD.out] at h1;cases h1;have:=HA.out;rw[An (by have:=HN.out;simp only[Ku] at this;omega)] at this;exact .inr this
          · exact .inl (by simp[q,e])
        · exact .inr q),ah,hs2⟩
       case measure=>rw[HG2.out.left_eq,HG.out.left_eq];exact hlt
def Sk (D:VM Hv.PD):Bool:=D.any fun p=>p.2.st.breaks.any fun b=>Hv.has D b && !(b==p.1)
theorem MV{l:List S} (h:w.ownsRow B e 1 v l.length (l.map Kl))  (hk:k<l.length) :
 ∃ g c,v = .slice (some ⟨g,0,none⟩) l.length c/\g<w.heap.size/\w.cell? ⟨g,k,none⟩=some (.string ⟨l[k].toArray⟩):=by
 obtain ⟨g,cap,rfl⟩:=Kt h (by omega);exact ⟨g,cap,rfl,(h.lt g rfl).2,by rw[h.cellAt _ (by omega)];simp[B9 hk,Kl]⟩
theorem Ye{x:S} (h:Wd.isName x=true):x.length<=12:=by
 simp only[Wd.isName,Wd.Og,Bool.and_eq_true,decide_eq_true_eq] at h;omega
theorem Y7(pm:Nat) (P:VM Value) (D:VM Hv.PD) (N:Nat->Prop) (w:World) (hp:J6 w pm P) (hP:Ls N w D P) :
 Calls Tryz.prog 127 #[.map (some pm)] w fun e w'=>e = .returned (.bool (Sk D))/\Below w.heap.size w w':=by
 have hpl:=hp.lt;have HP:=JY hp;have aD:=JY hP;clear hp hP;go_enter Tryz.func127,Tryz.ntmps127;have hp1:=HP.out;go_wp2_with (first
  | (at_range;refine Mc rfl _ 97 rfl 169 IS hp1 rfl ?_;intro w0 hrg0 hg0 hs0;have aT:=JY hrg0;have aC:=JY ((AD w.heap.size w).grown hg0 (AC _) (fun q hq=>by cases hq))))
 go_frame
 clear hg0 hrg0 hp1;go_loopw [11] (fun _ wr=>∃ (left:S->Bool) (cnt:Nat),Hid (KO wr pm w.heap.size P left cnt)/\Hid (∀ k d,Hv.get D k=some d->left k=true\/(d.st.breaks.any fun b=>Hv.has D b && !(b==k))=false)/\Hid (Below w.heap.size w wr)/\w.heap.size<wr.heap.size)
  (fun _ wr=>wr.rangeLeft pm w.heap.size)
 case atStart=>exact ⟨_,_,aT,JY (fun k d h => .inl (by rw[aD.out.has_eq,Hv.J9,h];rfl)),aC,by omega⟩
 case round =>
  clear aT aC;obtain ⟨left,cnt,HG,HL,HB,hsz1⟩:=hrel;go_wp2_with (first
   | (at_next;refine MW rfl _ rfl w.heap.size left cnt rfl HG.out ?_ ?_))
  · intro hc0 hl0;go_wp2_with fail;go_ret;rw[show Sk D=false from Xo (fun k d=>d.st.breaks.any fun b=>Hv.has D b && !(b==k)) aD.out.Mt (fun k d h1=>(HL.out k d h1).resolve_left (by rw[hl0 k];simp))];exact ⟨rfl,HB.out⟩
  · intro k v w4 cnt1 hk hlk hget hrg1 hlt hg1 hs1 hen;obtain ⟨d,hd,⟨tx,pn,pv,nd,⟨na,nn,nc⟩,wk,fl,ru,wo,bV⟩,rfl,p1,p2,p3,p4,hpk, -⟩:=aD.out.P8 k v hget;have aZ:=JY (KO.alloc hrg1 (.cells (Pk.mk tx pn pv nd ⟨na,nn,nc⟩ wk fl ru wo bV).cells 169));have hb4:=HB.out.grown hg1 HB.out.size (fun q hq=>by cases hq;omega);have aB:=JY (hb4.alloc hb4.size (.cells (Pk.mk tx pn pv nd ⟨na,nn,nc⟩ wk fl ru wo bV).cells 169));have hs4:w4.heap.size=wr.heap.size:=hs1;have hrow4:=AF w4 (.cells (Pk.mk tx pn pv nd ⟨na,nn,nc⟩ wk fl ru wo bV).cells 169);have a3:=(JZ hrow4 4).trans (show _=some (.slice na nn nc) from rfl);have HN:=JY (ahe (hpk.rows 1));have HO:=JY (hpk.rows 1);have iu:=JY (Lm hpk.parse).2.2.breaks;have fP:=JY (KZ hpk.parse).2.2.1;have HD:=JY hd;have hsu:(w4.alloc (.cells (Pk.mk tx pn pv nd ⟨na,nn,nc⟩ wk fl ru wo bV).cells 169)).heap.size=w4.heap.size+1:=by simp
    simp only[Pk.val,Pk.cells] at hen |-;clear hrg1 hg1 hget hpk p1 p2 p3 p4 hd hb4 hrow4;go_wp2_with fail;have hs5:w.heap.size<(w4.alloc (.cells (Pk.mk tx pn pv nd ⟨na,nn,nc⟩ wk fl ru wo bV).cells 169)).heap.size:=by rw[hsu];omega
    simp only[Pk.cells] at aZ aB hs5;clear a3 hsu;go_loopw [20] (fun i w2=>∃ j:Nat,j<=nn/\i = .int .i64 (j:Int)/\Hid (KO w2 pm w.heap.size P (fun z=>left z && !(z==k)) cnt1)/\Hid ((d.st.breaks.take j).any (fun b=>Hv.has D b && !(b==k))=false)/\Hid (Below w.heap.size w w2)/\w.heap.size<w2.heap.size) (fun i _=>nn-(intOf i).toNat)
    case atStart=>exact ⟨0,Bs _,rfl,aZ,JY (by simp),aB,hs5⟩
    case round =>
     clear aZ aB;obtain ⟨j,hj,rfl,HG2,HA,ah,hs2⟩:=hrel;by_cases hjl:j<nn
     · have b1:(j:Int)<(nn:Int):=by omega
       have cD:j<d.st.breaks.length:=by have:=HN.out;simp only[Ku] at this;omega
       obtain ⟨g,c,hv,hg,q1⟩:=MV HO.out cD;obtain rfl:na=some ⟨g,0,none⟩:=(DS hv).1;have d1:=(ah.out.cell (p:=⟨g,j,none⟩) hg).trans q1;have hgd:=iu.out _ (B1 cD);have qQ:j<21:=by have:=fP.out.2.1;omega
       have cx:=JY (B1 cD);have bS:=JY (fun h=>R9 (f:=fun b:S=>Hv.has D b && !(b==k)) cD HA.out h);obtain ⟨n1,hq⟩:∃ q,d.st.breaks[j]=q:=⟨_,rfl⟩
       rw[hq] at d1 hgd cx bS;have hnl:n1.length<=maxLen:=by have:=Ye hgd;unfold maxLen;omega
       have hp2:=HG2.out.map;clear hv q1 hgd hq;cases hq:Hv.get P n1 with
       | none =>
         have cT:Hv.has P n1=false:=by rw[Hv.J9,hq];rfl
         have oY:Hid (Hv.has D n1=false):=JY (by rw[<- aD.out.has_eq];exact cT);have av:=JY (ah.out.alloc ah.out.size (.cells zeroCells 169));have cZ:=JY (HG2.out.alloc (.cells zeroCells 169));have hs3:w.heap.size<(wr.alloc (.cells zeroCells 169)).heap.size:=by simp;omega
         simp only[zeroCells] at av cZ hs3;go_wp2_with (first
          | (at_lookup;refine K6 rfl _ _ 97 rfl 169 IS (KW _) hp2 rfl n1 hnl rfl ?_;rw[hq,cT];simp only[FS]))
         go_roundw
         case rel=>exact ⟨j+1,by omega,by go_num,cZ,JY (bS.out (by rw[oY.out];rfl)),av,hs3⟩
         case measure=>simp[intOf];omega
       | some u =>
         obtain ⟨_,_,q,rfl, -⟩:=aD.out.P8 n1 u hq;have cT:Hv.has P n1=true:=by rw[Hv.J9,hq];rfl
         have oY:Hid (Hv.has D n1=true):=JY (by rw[<- aD.out.has_eq];exact cT);have av:=JY (ah.out.alloc ah.out.size (.cells q.cells 169));have cZ:=JY (HG2.out.alloc (.cells q.cells 169));have hs3:w.heap.size<(wr.alloc (.cells q.cells 169)).heap.size:=by simp;omega
         simp only[Pk.cells] at av cZ hs3;by_cases he:n1=k
         · subst he;go_wp2_with (first
            | (at_lookup;refine K6 rfl _ _ 97 rfl 169 IS (KW _) hp2 rfl n1 hnl rfl ?_;rw[hq,cT];simp only[DE,Pk.val,Pk.cells]))
           go_roundw
           case rel=>exact ⟨j+1,by omega,by go_num,cZ,JY (bS.out (by simp)),av,hs3⟩
           case measure=>simp[intOf];omega
         · have hne:(n1==k)=false:=by simpa using he
           go_wp2_with (first
            | (at_lookup;refine K6 rfl _ _ 97 rfl 169 IS (KW _) hp2 rfl n1 hnl rfl ?_;rw[hq,cT];simp only[DE,Pk.val,Pk.cells]))
           go_ret;rw[show Sk D=true from aaD (fun k d=>d.st.breaks.any fun b=>Hv.has D b && !(b==k)) aD.out.Mt HD.out (List.any_eq_true.2 ⟨_,cx.out,by rw[oY.out];simpa using he⟩)];exact ⟨rfl,av.out⟩
     · obtain rfl:j=nn:=by omega
       have b1 : ¬ (j:Int)<(j:Int):=by omega
       go_wp2_with fail;go_roundw
       case rel=>exact ⟨_,cnt1,HG2,JY (fun k' d' h1=>by
        rcases HL.out k' d' h1 with q | q
        · by_cases e:k'=k
          · subst e;rw[HD.out] at h1;cases h1;have:=HA.out;rw[An (by have:=HN.out;simp only[Ku] at this;omega)] at this;exact .inr this
          · exact .inl (by simp[q,e])
        · exact .inr q),ah,hs2⟩
       case measure=>rw[HG2.out.left_eq,HG.out.left_eq];exact hlt
namespace Hv
structure WS where
 R:VM Value
 I:VM PD
 N:VM Value
def Pd (s:WS):Item->WS
 | .inl nm=>⟨put s.R nm LB,s.I,put s.N nm LB⟩
 | .inr (x,nm,ve,st)=>⟨s.R,put s.I nm ⟨x,nm,ve,st,1⟩,put s.N nm LB⟩
def OT:List S->WS->Option WS
 | [],s=>some s
 | x::r,s=>match Mg x with
   | none=>none
   | some i=>OT r (Pd s i)
def wish (xs:List S):Except Int WS :=
 if xs.length=0\/6<xs.length then .error 6 else
  match OT xs ⟨[],[],[]⟩ with
  | none => .error 6
  | some s=>if s.N.length<xs.length then .error 7 else .ok s
end Hv
variable {xs:List S}{s:Hv.WS}{E:VM Value}{nm:S}
theorem Reads.form(h:Reads w v xs):∃ a c,v = .slice a xs.length c/\∀ j x,xs[j]? = some x->∃ g,a=some ⟨g,0,none⟩/\g<w.heap.size/\w.cell? ⟨g,j,none⟩=some (.string ⟨x.toArray⟩):=by
 rcases h with ⟨rfl,a,c,rfl⟩ | ⟨g,c,rfl,hg,hc⟩
 · exact ⟨a,c,rfl,fun j x hj=>by simp at hj⟩
 · exact ⟨_,c,rfl,fun j x hj=>⟨g,rfl,hg,hc j x hj⟩⟩
theorem OG.put{R:VM Value} (h:OG R) (hs:Hv.Ki R) (k:S):OG (Hv.put R k LB):=fun k' v q=>by
 by_cases e:k'=k
 · subst e;rw[Hv.Ka hs] at q;cases q;rfl
 · rw[Hv.J7 hs _ e] at q;exact h k' v q
def Rp (xs:List S) (w:World) (e:Ending) (w':World):Prop :=
 match Hv.wish xs with
 | .error k=>e = .returned (.tuple #[.agg #[.map none, .map none], .int .i64 k])/\Below w.heap.size w w'
 | .ok s=>∃ rm im I,e = .returned (.tuple #[.agg #[.map (some rm), .map (some im)], .int .i64 0])/\MH rm im s.R I w'/\OG s.R/\Ls (fun g=>w.heap.size<=g) w' s.I I/\s.R.length<=6/\I.length<=6/\w.heap.size<=rm/\w.heap.size<=im/\Below w.heap.size w w'
theorem ae2(xs:List S) (hx:xs.length=0\/6<xs.length) (v:Value) (w:World) (h:Reads w v xs) (hl:xs.length<=maxLen) :
 Calls Tryz.prog 70 #[v] w (Rp xs w):=by
 obtain ⟨a,c,rfl,_⟩:=h.form;have hw:Hv.wish xs = .error 6:=by unfold Hv.wish;rw[By hx]
 unfold Rp;rw[hw];unfold maxLen at hl;rcases hx with hx | hx
 · rw[hx];go_enter Tryz.func70,Tryz.ntmps70;have HB:=JY ((AD w.heap.size w).alloc (AC _) (.cells #[.map none, .map none] 148));have hrow:=AF w (.cells #[.map none, .map none] 148);have u0:=(JZ hrow 0).trans (show _=some (.map none) from rfl);have u1:=(JZ hrow 1).trans (show _=some (.map none) from rfl);clear hrow;go_wp2_with fail
   all_goals exact IH (v := .tuple #[.agg #[.map none, .map none], .int .i64 6]) (by simp[results,Tryz.results70,go_sem,u0,u1]) rfl ⟨rfl,HB.out⟩
 · have g1 : ¬ (xs.length:Int)=0:=by omega
   have g2:(6:Int)<(xs.length:Int):=by omega
   go_enter Tryz.func70,Tryz.ntmps70;have HB:=JY ((AD w.heap.size w).alloc (AC _) (.cells #[.map none, .map none] 148));have hrow:=AF w (.cells #[.map none, .map none] 148);have u0:=(JZ hrow 0).trans (show _=some (.map none) from rfl);have u1:=(JZ hrow 1).trans (show _=some (.map none) from rfl);clear hrow;go_wp2_with fail
   all_goals exact IH (v := .tuple #[.agg #[.map none, .map none], .int .i64 6]) (by simp[results,Tryz.results70,go_sem,u0,u1]) rfl ⟨rfl,HB.out⟩
theorem YM{B':Nat} {T:TypeId} {a b:Value} (hrow:w1.heap[B]? = some (.cells #[a,b] T (0,0))) (hb:Below B' w w1) (hB:B'<=B) (a' b':Value) :
 ∃ w2,w2=(w1.setCell ⟨B,0,none⟩ a').setCell ⟨B,1,none⟩ b'/\w2.heap[B]? = some (.cells #[a',b'] T (0,0))/\Below B' w w2/\Kj w1.heap.size (fun k=>k=B) w1 w2 :=
 ⟨_,rfl,AI _ _ 1 _ _ b' (AI _ _ 0 _ _ a' hrow),((hb.setCell (p:=⟨B,0,none⟩) hB _).setCell (p:=⟨B,1,none⟩) hB _),((Kj.refl w1.heap.size (fun k=>k=B) w1).setCell (p:=⟨B,0,none⟩) (.inr rfl) _).setCell (p:=⟨B,1,none⟩) (.inr rfl) _⟩
structure WO (xs:List S) (B:Nat) (w:World) (k:Nat) (s:Hv.WS) (E:VM Value) (wr:World):Prop where
 left:Hv.OT xs ⟨[],[],[]⟩=Hv.OT (xs.drop k) s
 wish:MH (B+1) (B+1+1) s.R E wr
 names:J6 wr (B+1+1+1+1) s.N
 uni:OG s.R
 pk:Ls (fun g=>B+5<=g) wr s.I E
 lens:s.R.length<=k/\E.length<=k/\s.N.length<=k
 rb:wr.heap[B]? = some (.cells #[.map none, .map none] 148 (0,0))
 cb:wr.heap[B+1+1+1]? = some (.cells #[.map (some (B+1)), .map (some (B+1+1))] 148 (0,0))
 K7:Below B w wr
 base:Base wr
theorem WO.size(h:WO xs B w k s E wr):B+5<=wr.heap.size:=by have:=h.names.lt;omega
theorem WO.rem(h:WO xs B w k s E wr)  (hk:k<xs.length) (hi:Hv.Mg xs[k]=some (.rem nm))
 (hw:MH (B+1) (B+1+1) (Hv.put s.R nm LB) E w1) (hf:Kj wr.heap.size (fun q=>q=B+1) wr w1) (hn:J6 w2 (B+1+1+1+1) (Hv.put s.N nm LB)) (ht:Kj w1.heap.size (fun q=>q=B+1+1+1+1) w1 w2) (hG:12<=B) :
 WO xs B w (k+1) (Hv.Pd s (.rem nm)) E w2:=by
 have z:=h.size;have z1:wr.heap.size<=w1.heap.size:=hf.size;have hb1:Below B w w1:=h.K7.trans (hf.toBelow (by omega) (fun q _ (e:q=_)=>by omega));have hb2:Below B w w2:=hb1.trans (ht.toBelow (by omega) (fun q _ (e:q=_)=>by omega));refine ⟨?_,⟨hw.rem.far ht (AC _) (by omega),hw.ins.far ht (AC _) (by omega),hw.ne⟩,hn,h.uni.put h.wish.rem.1 nm,(h.pk.far hf (AC _) (fun g _ hg=>by omega)).far ht (AC _) (fun g _ hg=>by omega),⟨?_,by have:=h.lens.2.1;omega,?_⟩,?_,?_,hb2,?_⟩
 · rw[h.left,DO hk];simp[Hv.OT,hi]
 · have:=Hv.Mr s.R nm LB;have:=h.lens.1;simp only[Hv.Pd];omega
 · have:=Hv.Mr s.N nm LB;have:=h.lens.2.2;simp only[Hv.Pd];omega
 · exact (ht.block B (by omega) (by omega)).trans ((hf.block B (by omega) (by omega)).trans h.rb)
 · exact (ht.block _ (by omega) (by omega)).trans ((hf.block _ (by omega) (by omega)).trans h.cb)
 · exact (h.base.far hf (by omega) (fun q (e:q=_)=>by omega)).far ht (by omega) (fun q (e:q=_)=>by omega)
theorem WO.ins(h:WO xs B w k s E wr) {x ve:S} {st:St}  (hk:k<xs.length) (hi:Hv.Mg xs[k]=some (.ins x nm ve st))
 (hp:Tp (fun g=>wr.heap.size<=g) w1 ⟨x,nm,ve,st,1⟩ v) (hw:MH (B+1) (B+1+1) s.R (Hv.put E nm v) w1) (hf:Kj wr.heap.size (fun q=>q=B+1+1) wr w1) (hn:J6 w2 (B+1+1+1+1) (Hv.put s.N nm LB)) (ht:Kj w1.heap.size (fun q=>q=B+1+1+1+1) w1 w2) (hG:12<=B) :
 WO xs B w (k+1) (Hv.Pd s (.ins x nm ve st)) (Hv.put E nm v) w2:=by
 have z:=h.size;have z1:wr.heap.size<=w1.heap.size:=hf.size;have hb1:Below B w w1:=h.K7.trans (hf.toBelow (by omega) (fun q _ (e:q=_)=>by omega));have hb2:Below B w w2:=hb1.trans (ht.toBelow (by omega) (fun q _ (e:q=_)=>by omega));refine ⟨?_,⟨hw.rem.far ht (AC _) (by omega),hw.ins.far ht (AC _) (by omega),hw.ne⟩,hn,h.uni,?_,⟨by have:=h.lens.1;simp only[Hv.Pd];omega,?_,?_⟩,?_,?_,hb2,?_⟩
 · rw[h.left,DO hk];simp[Hv.OT,hi]
 · exact ((h.pk.far hf (AC _) (fun g _ hg=>by omega)).put h.wish.ins.1 nm (hp.weak (fun g hg=>by omega))).far ht (AC _) (fun g _ hg=>by omega)
 · have:=Hv.Mr E nm v;have:=h.lens.2.1;omega
 · have:=Hv.Mr s.N nm LB;have:=h.lens.2.2;simp only[Hv.Pd];omega
 · exact (ht.block B (by omega) (by omega)).trans ((hf.block B (by omega) (by omega)).trans h.rb)
 · exact (ht.block _ (by omega) (by omega)).trans ((hf.block _ (by omega) (by omega)).trans h.cb)
 · exact (h.base.far hf (by omega) (fun q (e:q=_)=>by omega)).far ht (by omega) (fun q (e:q=_)=>by omega)
theorem WO.start(xs:List S) (w:World) (hb:Base w) :
 WO xs w.heap.size w 0 ⟨[],[],[]⟩ [] (((((w.alloc (.cells #[.map none, .map none] 148)).alloc (.map #[] 0)).alloc (.map #[] 0)).alloc (.cells #[.map (some (w.heap.size+1)), .map (some (w.heap.size+1+1))] 148)).alloc (.map #[] 0)):=by
 have s1:(w.alloc (.cells #[.map none, .map none] 148)).heap.size=w.heap.size+1:=by simp
 have b1:=(AD w.heap.size w).alloc (AC _) (.cells #[.map none, .map none] 148);have r1:=AF w (.cells #[.map none, .map none] 148);obtain ⟨u1,hu1⟩:∃ u,w.alloc (.cells #[.map none, .map none] 148)=u:=⟨_,rfl⟩
 rw[hu1] at s1 b1 r1 |-;have m2:=J6.made u1;rw[s1] at m2;have s2:(u1.alloc (.map #[] 0)).heap.size=w.heap.size+1+1:=by simp[s1]
 have b2:=b1.alloc b1.size (.map #[] 0);have r2:=(AM u1 (.map #[] 0) w.heap.size (by omega)).trans r1;obtain ⟨u2,hu2⟩:∃ u,u1.alloc (.map #[] 0)=u:=⟨_,rfl⟩
 rw[hu2] at s2 b2 r2 m2 |-;have m3:=J6.made u2;rw[s2] at m3;have m23:=m2.alloc (.map #[] 0);have s3:(u2.alloc (.map #[] 0)).heap.size=w.heap.size+1+1+1:=by simp[s2]
 have b3:=b2.alloc b2.size (.map #[] 0);have r3:=(AM u2 (.map #[] 0) w.heap.size (by omega)).trans r2;obtain ⟨u3,hu3⟩:∃ u,u2.alloc (.map #[] 0)=u:=⟨_,rfl⟩
 rw[hu3] at s3 b3 r3 m3 m23 |-;have c4:=AF u3 (.cells #[.map (some (w.heap.size+1)), .map (some (w.heap.size+1+1))] 148);rw[s3] at c4;have m24:=m23.alloc (.cells #[.map (some (w.heap.size+1)), .map (some (w.heap.size+1+1))] 148);have Fa:=m3.alloc (.cells #[.map (some (w.heap.size+1)), .map (some (w.heap.size+1+1))] 148);have s4:(u3.alloc (.cells #[.map (some (w.heap.size+1)), .map (some (w.heap.size+1+1))] 148)).heap.size=w.heap.size+1+1+1+1:=by simp[s3]
 have b4:=b3.alloc b3.size (.cells #[.map (some (w.heap.size+1)), .map (some (w.heap.size+1+1))] 148);have r4:=(AM u3 (.cells #[.map (some (w.heap.size+1)), .map (some (w.heap.size+1+1))] 148) w.heap.size (by omega)).trans r3;obtain ⟨u4,Iq⟩:∃ u,u3.alloc (.cells #[.map (some (w.heap.size+1)), .map (some (w.heap.size+1+1))] 148)=u:=⟨_,rfl⟩
 rw[Iq] at s4 b4 r4 Fa m24 c4 |-;have m5:=J6.made u4;rw[s4] at m5;have b5:=b4.alloc b4.size (.map #[] 0);exact ⟨rfl,⟨m24.alloc _,Fa.alloc _,by omega⟩,m5,fun k v h=>(by cases h),Ls.nil _ _,⟨Bs _,Bs _,Bs _⟩,(AM u4 (.map #[] 0) w.heap.size (by omega)).trans r4,(AM u4 (.map #[] 0) _ (by omega)).trans c4,b5,hb.below b5 hb.size⟩
theorem adv(xs:List S) (he:Rl xs) (hx : ¬ (xs.length=0\/6<xs.length)) (v:Value) (w:World) (h:Reads w v xs) (hb:Base w) :
 Calls Tryz.prog 70 #[v] w (Rp xs w):=by
 obtain ⟨a,c,rfl,hc⟩:=h.form;have hw:Hv.wish xs=match Hv.OT xs ⟨[],[],[]⟩ with
  | none => .error 6
  | some s=>if s.N.length<xs.length then .error 7 else .ok s:=by unfold Hv.wish;rw[Bm hx]
 have Aw:=JY hw;have HC:=JY hc;have HS:=JY (WO.start xs w hb);have kR:=JY he;clear he;have hG:=hb.size;clear hw hc hb h;obtain ⟨n,hn⟩:∃ n,xs.length=n:=⟨_,rfl⟩
 rw[hn] at hx |-;have g1 : ¬ (n:Int)=0:=by omega
 have g2 : ¬ (6:Int)<(n:Int):=by omega
 have HN:=JY hn;have hmm := @run_makeMap Tryz.prog;obtain ⟨B,hB⟩:∃ B,w.heap.size=B:=⟨_,rfl⟩
 rw[hB] at HS hG;clear hn hx;go_enter Tryz.func70,Tryz.ntmps70;go_wp2_with fail;go_loopw [25] (fun i wr=>∃ (k:Nat) (s:Hv.WS) (E:VM Value),k<=n/\i = .int .i64 (k:Int)/\Hid (WO xs B w k s E wr)) (fun i _=>n-(intOf i).toNat)
 case atStart=>exact ⟨0,_,_,Bs _,rfl,HS⟩
 case round =>
  clear HS;obtain ⟨k,s,E,hk,rfl,HI⟩:=hrel;by_cases hlt:k<n
  · have b1:(k:Int)<(n:Int):=by omega
    have hlx:k<xs.length:=by have:=HN.out;omega
    obtain ⟨g,rfl,hg,hc⟩:=HC.out k xs[k] (B9 hlx);have hcr:=(Be (a:=⟨g,k,none⟩) (HI.out.K7.block g (by omega))).trans hc;have c0:=(JZ HI.out.cb 0).trans (show _=some (.map (some (B+1))) from rfl);have c1:=(JZ HI.out.cb 1).trans (show _=some (.map (some (B+1+1))) from rfl);clear hc;go_wp2_with fail;refine (ajo (B+1) (B+1+1) s.R E xs[k] (fun t e=>kR.out t (by rw[<- e];exact B1 _)) (by have:=HI.out.lens.1;omega) (by have:=HI.out.lens.2.1;omega) wr HI.out.base HI.out.wish).mono ?_;rintro e w1 ht;unfold PE at ht;cases hi:Hv.Mg xs[k] with
    | none =>
      rw[hi] at ht;obtain ⟨rfl,hb1⟩:=ht;have hrb:=(hb1.block B (by have:=HI.out.size;omega)).trans HI.out.rb;obtain ⟨w9,kL,hrow,aR, -⟩:=YM hrb (HI.out.K7.trans (hb1.mono (by have:=HI.out.size;omega))) (AC _) (.map none) (.map none);have r0:=(JZ hrb 0).trans (show _=some (.map none) from rfl);have r1:=(JZ hrb 1).trans (show _=some (.map none) from rfl);have f0:=J2 hrb 0;have f1:=J2 hrb 1;have u0:=(JZ hrow 0).trans (show _=some (.map none) from rfl);have u1:=(JZ hrow 1).trans (show _=some (.map none) from rfl);rw[kL] at u0 u1 aR;have bJ:=JY aR;have HE:Hid (Hv.wish xs = .error 6):=JY (by rw[Aw.out,HI.out.left,DO hlx];simp[Hv.OT,hi]);clear hrb hrow kL aR hb1;go_wp2_with fail;refine IH (v := .tuple #[.agg #[.map none, .map none], .int .i64 6]) (by simp[results,Tryz.results70,go_sem,u0,u1]) rfl ?_;unfold Rp;rw[HE.out,hB];exact ⟨rfl,bJ.out⟩
    | some it =>
      cases it with
      | inl nm=>
        rw[hi] at ht;obtain ⟨rfl,hnl,hw1,aS⟩:=ht;have yN:=HI.out.names.far aS (AC _) (by omega);go_wp2_with (first
         | (at_mapUpdate;refine Qc rfl _ _ _ 146 rfl 63 Tryz.underlying146 yN (by unfold maxLen;have:=HI.out.lens.2.2;omega) rfl nm (by unfold maxLen;omega) rfl (.agg #[]) rfl ?_;intro w2 dF ht2;go_frame))
        have hf2:=Kv ht2;have aM:=JY (HI.out.rem hlx hi hw1 aS dF hf2 hG);go_roundw
        case rel=>exact ⟨k+1,_,_,by omega,by go_num,aM⟩
        case measure=>simp[intOf];omega
      | inr it=>
        obtain ⟨x,nm,ve,st⟩:=it
        rw[hi] at ht;obtain ⟨rfl,hnl,v,hp1,hw1,aS⟩:=ht;have yN:=HI.out.names.far aS (AC _) (by omega);go_wp2_with (first
         | (at_mapUpdate;refine Qc rfl _ _ _ 146 rfl 63 Tryz.underlying146 yN (by unfold maxLen;have:=HI.out.lens.2.2;omega) rfl nm (by unfold maxLen;omega) rfl (.agg #[]) rfl ?_;intro w2 dF ht2;go_frame))
        have hf2:=Kv ht2;have aM:=JY (HI.out.ins hlx hi hp1 hw1 aS dF hf2 hG);go_roundw
        case rel=>exact ⟨k+1,_,_,by omega,by go_num,aM⟩
        case measure=>simp[intOf];omega
  · obtain rfl:k=n:=by omega
    have b1 : ¬ (k:Int)<(k:Int):=by omega
    have Jz:Hid (s.N.length<=6):=JY (by have:=HI.out.lens.2.2;omega);have aY:=HI.out.names.len Tryz.underlying146 3;have HL:Hid (Hv.OT xs ⟨[],[],[]⟩=some s):=JY (by rw[HI.out.left,List.drop_eq_nil_of_le (by have:=HN.out;omega)];rfl);have c0:=(JZ HI.out.cb 0).trans (show _=some (.map (some (B+1))) from rfl);have c1:=(JZ HI.out.cb 1).trans (show _=some (.map (some (B+1+1))) from rfl);have r0:=(JZ HI.out.rb 0).trans (show _=some (.map none) from rfl);have r1:=(JZ HI.out.rb 1).trans (show _=some (.map none) from rfl);have f0:=J2 HI.out.rb 0;have f1:=J2 HI.out.rb 1;by_cases hd:s.N.length<k
    · have b2:(s.N.length:Int)<(k:Int):=by omega
      have HE:Hid (Hv.wish xs = .error 7):=JY (by rw[Aw.out,HL.out];simp only;rw[By (by have:=HN.out;omega)]);obtain ⟨w9,kL,hrow,aR, -⟩:=YM HI.out.rb HI.out.K7 (AC _) (.map none) (.map none);have u0:=(JZ hrow 0).trans (show _=some (.map none) from rfl);have u1:=(JZ hrow 1).trans (show _=some (.map none) from rfl);rw[kL] at u0 u1 aR;have bJ:=JY aR;clear hrow kL aR;go_wp2_with fail;refine IH (v := .tuple #[.agg #[.map none, .map none], .int .i64 7]) (by simp[results,Tryz.results70,go_sem,u0,u1]) rfl ?_;unfold Rp;rw[HE.out,hB];exact ⟨rfl,bJ.out⟩
    · have b2 : ¬ (s.N.length:Int)<(k:Int):=by omega
      have HE:Hid (Hv.wish xs = .ok s):=JY (by rw[Aw.out,HL.out];simp only;rw[Bm (by have:=HN.out;omega)]);obtain ⟨w9,kL,hrow,aR,lB⟩:=YM HI.out.rb HI.out.K7 (AC _) (.map (some (B+1))) (.map (some (B+1+1)));have u0:=(JZ hrow 0).trans (show _=some (.map (some (B+1))) from rfl);have u1:=(JZ hrow 1).trans (show _=some (.map (some (B+1+1))) from rfl);rw[kL] at u0 u1 aR lB;have bJ:=JY aR;have gU:=JY lB;have HU:=JY HI.out.uni;have HK:=JY HI.out.lens;have Au:=JY HI.out.wish;have jo:=JY HI.out.pk;clear hrow kL aR lB HI;go_wp2_with fail;refine IH (v := .tuple #[.agg #[.map (some (B+1)), .map (some (B+1+1))], .int .i64 0]) (by simp[results,Tryz.results70,go_sem,u0,u1]) rfl ?_;unfold Rp;rw[HE.out,hB];refine ⟨B+1,B+1+1,E,rfl,⟨Au.out.rem.far gU.out (AC _) (by omega),Au.out.ins.far gU.out (AC _) (by omega),Au.out.ne⟩,HU.out,(jo.out.far gU.out (AC _) (fun g _ hg=>by omega)).weak (fun g hg=>by omega),by have:=HK.out;omega,by have:=HK.out;omega,by omega,by omega,bJ.out⟩
theorem ae1(xs:List S) (he:Rl xs) (v:Value) (w:World) (h:Reads w v xs) (hl:xs.length<=maxLen) (hb:Base w):Calls Tryz.prog 70 #[v] w (Rp xs w):=by
 by_cases hx:xs.length=0\/6<xs.length
 · exact ae2 xs hx v w h hl
 · exact adv xs he hx v w h hb
end
end Go.Proofs.YtfhmaiicimdldaaGreatDoor
