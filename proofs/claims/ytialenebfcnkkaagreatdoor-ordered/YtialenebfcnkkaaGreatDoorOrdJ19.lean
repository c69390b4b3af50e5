/- RulW8, RulW9, PlnW1, PlnW2, PlnW3, PlnW4 -/
import Derived.Test.YtialenebfcnkkaaGreatDoorOrdJ18
set_option maxHeartbeats 4000000
set_option maxRecDepth 100000
namespace Go.Proofs.YtialenebfcnkkaaGreatDoor
section
open Go.RowKit
open aH (St)
open Hv (S Dk VM)
namespace Hv
theorem get_map {α β:Type} (E:VM α) (f:α→β) (k:S):get (E.map fun p=>(p.1,f p.2)) k=(get E k).map f:=by
 unfold get
 rw[List.find?_map]
 have:((fun p:S × β=>p.1==k) ∘ fun p:S × α=>(p.1,f p.2))=fun p=>p.1==k:=rfl
 rw[this]
 cases E.find? (fun p=>p.1==k)<;>rfl
theorem aM.map {α β:Type} {E:VM α} (h:aM E) (f:α→β):aM (E.map fun p=>(p.1,f p.2)):=List.pairwise_map.2 h
def aR (P:VM PD) (R:VM Value) (I:VM PD):VM PD:=merge (cut P R) I
def jY (P:VM PD) (R:VM Value):Bool:=R.any fun p => !has P p.1
end Hv
theorem dA.len {N:Nat→Prop} {w:World} {D:VM Hv.PD} {E:VM Value} (h:dA N w D E) (hE:Hv.aM E):E.length=D.length:=by
 have e:(E.map fun p=>(p.1,()))=D.map fun p=>(p.1,()):=(hE.map fun _=>()).dD (h.dU.map fun _=>()) (fun k=>by
   rw[Hv.get_map E (fun _=>()),Hv.get_map D (fun _=>())]
   cases q:Hv.get E k with
   | none=>rw[h.get_none q];rfl
   | some v=>obtain ⟨d,hd,_⟩:=h.nD k v q;rw[hd];rfl)
 have:=congrArg List.length e
 simpa using this
theorem dA.merge {N:Nat→Prop} {w:World} {D D':VM Hv.PD} {E E':VM Value} (h:dA N w D E) (hE:Hv.aM E) (h':dA N w D' E') (hE':Hv.aM E'):dA N w (Hv.merge D D') (Hv.merge E E'):=by
 refine ⟨Hv.iO D' D h.dU,fun k v q => ?_,fun k d q => ?_⟩
 · rw[Hv.iN E' E hE hE'] at q
   rw[Hv.iN D' D h.dU h'.dU]
   cases e:Hv.get E' k with
   | none=>rw[e] at q;rw[h'.get_none e];exact h.nD k v q
   | some u=>rw[e] at q;cases q;obtain ⟨d,hd,hr⟩:=h'.nD k v e;exact ⟨d,by rw[hd];rfl,hr⟩
 · rw[Hv.iN D' D h.dU h'.dU] at q
   rw[Hv.iN E' E hE hE']
   cases e:Hv.get E' k with
   | none=>rw[h'.get_none e] at q;exact h.wZ k d q
   | some u=>obtain ⟨d',hd',hr⟩:=h'.nD k u e;rw[hd'] at q;cases q;exact ⟨u,rfl,hr⟩
theorem dA.cut {N:Nat→Prop} {w:World} {D:VM Hv.PD} {E:VM Value} (h:dA N w D E) (hE:Hv.aM E) (R:VM Value):dA N w (Hv.cut D R) (Hv.cut E R):=by
 refine ⟨Hv.iK R D h.dU,fun k v q => ?_,fun k d q => ?_⟩
 · rw[Hv.kZ R E hE] at q
   rw[Hv.kZ R D h.dU]
   split at q
   · cases q
   next hn=>rw[if_neg hn];exact h.nD k v q
 · rw[Hv.kZ R D h.dU] at q
   rw[Hv.kZ R E hE]
   split at q
   · cases q
   next hn=>rw[if_neg hn];exact h.wZ k d q
theorem dA.acf {N:Nat→Prop} {w:World} {P I:VM Value} {DP DI:VM Hv.PD} (hP:dA N w DP P) (sP:Hv.aM P) (hI:dA N w DI I) (sI:Hv.aM I) (R:VM Value):dA N w (Hv.aR DP R DI) (pF P R I) :=
 (hP.cut sP R).merge (Hv.iK R P sP) hI sI
theorem dA.absent {N:Nat→Prop} {w:World} {P:VM Value} {DP:VM Hv.PD} (hP:dA N w DP P) (R:VM Value):qP P R=Hv.jY DP R:=by
 unfold qP Hv.jY
 congr 1
 funext p
 rw[hP.has_eq]
noncomputable def dh (P:VM Hv.PD) (R:VM Value) (I:VM Hv.PD):Int :=
 if Hv.jY P R=true then 8 else if LU P I=true then 9 else if 12<(Hv.aR P R I).length then 10 else if uf (Hv.aR P R I)=true then 11 else if qU (Hv.aR P R I)=true then 12 else if Av (Hv.aR P R I)=true then 13 else 0
theorem Mi (pm rm im:Nat) (P R I:VM Value) (DP DI:VM Hv.PD) (N:Nat→Prop) (w:World) (hp:MapAt w pm P) (hw:fM rm im R I w) (hR:ku R) (hP:dA N w DP P) (hI:dA N w DI I) (hroom:P.length+I.length≤1000000) :
   Calls Tryz.prog 66 #[.map (some pm), .agg #[.map (some rm), .map (some im)]] w fun e w'=>e = .returned (.int .i64 (dh DP R DI))∧Below w.heap.size w w':=by
 have hrow:=heap_alloc_new w (.cells #[.map (some rm), .map (some im)] 135)
 have hb0:=(Below.refl w.heap.size w).alloc (Nat.le_refl _) (.cells #[.map (some rm), .map (some im)] 135)
 have hsz:(w.alloc (.cells #[.map (some rm), .map (some im)] 135)).heap.size=w.heap.size+1:=by simp
 have HP:=hide hp;have HW:=hide hw;have eU:=hide hP;have Gp:=hide hI;have HU:=hide hR
 have HB0:=hide hb0
 have HAP:=hide hI.Ry
 have HAQ:=hide hP.Ry
 have HAB:=hide (hP.absent R)
 have Y3:=hide (hP.acf hp.1 hI hw.ins.1 R)
 clear hp hw hP hI hR
 obtain ⟨u,hu⟩:∃ u,w.alloc (.cells #[.map (some rm), .map (some im)] 135)=u:=⟨_,rfl⟩
 rw[hu] at hrow hsz HB0 hb0
 have QT:=hide hrow
 have c0:=(ah hrow 0).trans (show _=some (.map (some rm)) from rfl)
 have c1:=(ah hrow 1).trans (show _=some (.map (some im)) from rfl)
 go_enter Tryz.func66,Tryz.ntmps66
 go_wp2_with fail
 refine (JW pm rm im P R I HU.out HAP.out _ (HP.out.below hb0) (HW.out.rem.below hb0) (HW.out.ins.below hb0) hroom).mono ?_
 rintro e w1 ⟨tm,rfl,ht1,htm,hb1⟩
 rw[hsz] at htm
 have HB1:=hide (HB0.out.trans (hb1.mono (by omega)))
 have HR1:=hide ((hb1.block w.heap.size (by omega)).trans QT.out)
 have HT1:=hide ht1
 have c01:=(ah HR1.out 0).trans (show _=some (.map (some rm)) from rfl)
 have c11:=(ah HR1.out 1).trans (show _=some (.map (some im)) from rfl)
 clear hrow hb0 hu c0 c1 ht1 hb1
 go_wp2_with fail
 refine (wC pm rm im P R HAQ.out HU.out w1 (HP.out.below HB1.out) (HW.out.rem.below HB1.out)).mono ?_
 rintro e w2 ⟨rfl,hb2⟩
 have HB2:=hide (HB1.out.trans (hb2.mono HB1.out.size))
 have HR2:=hide ((hb2.block w.heap.size (blt HR1.out)).trans HR1.out)
 have HT2:=hide (HT1.out.below hb2)
 have c02:=(ah HR2.out 0).trans (show _=some (.map (some rm)) from rfl)
 have c12:=(ah HR2.out 1).trans (show _=some (.map (some im)) from rfl)
 clear hb2 c01 c11
 rw[HAB.out]
 cases h1:Hv.jY DP R
 · go_wp2_with fail
   refine (zH pm rm im P I DP DI N N w2 (HP.out.below HB2.out) (HW.out.ins.below HB2.out) (eU.out.below HB2.out) (Gp.out.below HB2.out)).mono ?_
   rintro e w3 ⟨rfl,hb3⟩
   have HB3:=hide (HB2.out.trans (hb3.mono HB2.out.size))
   have HT3:=hide (HT2.out.below hb3)
   clear hb3 c02 c12
   cases h2:LU DP DI
   · have hml:=HT3.out.len Tryz.underlying86 3
     rw[Y3.out.len HT3.out.1] at hml
     by_cases h3:12<(Hv.aR DP R DI).length
     · have g3:(12:Int)<((Hv.aR DP R DI).length:Int):=by omega
       go_wp2_with fail
       go_ret
       exact ⟨by unfold dh;simp[*],HB3.out⟩
     · have g3 : ¬ (12:Int)<((Hv.aR DP R DI).length:Int):=by omega
       have HTP:=hide (Y3.out.below HB3.out)
       have HTL:=hide (Y3.out.len HT3.out.1)
       go_wp2_with fail
       refine (zI tm (pF P R I) (Hv.aR DP R DI) N w3 HT3.out HTP.out).mono ?_
       rintro e w4 ⟨rfl,hb4⟩
       have iI:=hide (HB3.out.trans (hb4.mono HB3.out.size))
       have HT4:=hide (HT3.out.below hb4)
       have aa4:=hide (HTP.out.below hb4)
       clear hb4 hml
       cases h4:uf (Hv.aR DP R DI)
       · go_wp2_with fail
         refine (Dm tm (pF P R I) (Hv.aR DP R DI) N w4 HT4.out aa4.out).mono ?_
         rintro e w5 ⟨rfl,hb5⟩
         have kN:=hide (iI.out.trans (hb5.mono iI.out.size))
         have HT5:=hide (HT4.out.below hb5)
         have acK:=hide (aa4.out.below hb5)
         clear hb5
         cases h5:qU (Hv.aR DP R DI)
         · go_wp2_with fail
           refine (GZ tm (pF P R I) (Hv.aR DP R DI) N w5 HT5.out acK.out (by have:=HTL.out;omega)).mono ?_
           rintro e w6 ⟨rfl,hb6⟩
           have zO:=hide (kN.out.trans (hb6.mono kN.out.size))
           clear hb6
           cases h6:Av (Hv.aR DP R DI)
           · go_wp2_with fail
             go_ret
             exact ⟨by unfold dh;simp[*],zO.out⟩
           · go_wp2_with fail
             go_ret
             exact ⟨by unfold dh;simp[*],zO.out⟩
         · go_wp2_with fail
           go_ret
           exact ⟨by unfold dh;simp[*],kN.out⟩
       · go_wp2_with fail
         go_ret
         exact ⟨by unfold dh;simp[*],iI.out⟩
   · go_wp2_with fail
     go_ret
     exact ⟨by unfold dh;simp[*],HB3.out⟩
 · go_wp2_with fail
   go_ret
   exact ⟨by unfold dh;simp[*],HB2.out⟩
theorem yB (a:Nat) (ha:a≤1048576) (x:S) (hx:x.length≤4611686018427387904) (w:World) :
   Calls Tryz.prog 134 #[.int .i64 a, .string ⟨x.toArray⟩] w fun e w'=>e = .returned (.int .i64 (min (a+x.length) 1048576:Nat))∧w'=w:=by
 go_enter Tryz.func134,Tryz.ntmps134
 go_wp2_with fail
 go_ret
 exact ⟨congrArg (fun z=>Ending.returned (Value.int .i64 z)) (show min ((a:Int)+(x.length:Int)) 1048576=((min (a+x.length) 1048576:Nat):Int) by omega),rfl⟩
def rZ (D:VM Hv.PD) (left:S→Bool):Nat:=(D.map fun p=>if left p.1=true then 0 else p.2.text.length).sum
theorem EG:∀ (D:VM Hv.PD) (left:S→Bool),(∀ k,Hv.has D k=true→left k=true)→rZ D left=0
 | [],_,_=>rfl
 | p::D,left,h=>by
   have h1:=h p.1 (by simp[Hv.has])
   have h2:=EG D left (fun k hk=>h k (by simp only[Hv.has,List.any_cons] at hk ⊢;rw[hk];simp))
   simp only[rZ,List.map_cons,List.sum_cons,h1,if_true] at h2 ⊢
   omega
theorem EH:∀ (D:VM Hv.PD) (left left':S→Bool),(∀ p∈D,left p.1=left' p.1)→rZ D left=rZ D left'
 | [],_,_,_=>rfl
 | p::D,left,left',h=>by
   have h2:=EH D left left' (fun q hq=>h q (by simp[hq]))
   have h1:=h p (by simp)
   simp only[rZ,List.map_cons,List.sum_cons,h1] at h2 ⊢
   omega
theorem EI:∀ (D:VM Hv.PD) (left:S→Bool) (k:S) (d:Hv.PD),Hv.aM D→(k,d)∈D→left k=true→rZ D (fun z=>left z && !(z==k))=rZ D left+d.text.length
 | [],_,_,_,_,h,_=>by cases h
 | p::D,left,k,d,hs,h,hl=>by
   obtain ⟨g1,g2⟩:=List.pairwise_cons.1 hs
   rcases List.mem_cons.1 h with h | h
   · subst h
     have h2:=EH D (fun z=>left z && !(z==k)) left (fun q hq=>by
       have : ¬ q.1=k:=fun e=>by have:=g1 q hq;rw[e,Hv.dL] at this;cases this
       simp[this])
     simp only[rZ,List.map_cons,List.sum_cons,hl,beq_self_eq_true,Bool.not_true,Bool.and_false,Bool.false_eq_true,if_false,if_true] at h2 ⊢
     omega
   · have h2:=EI D left k d g2 h hl
     have : ¬ p.1=k:=fun e=>by have:=g1 _ h;rw[e,Hv.dL] at this;cases this
     have e:(left p.1 && !(p.1==k))=left p.1:=by simp[this]
     simp only[rZ,List.map_cons,List.sum_cons,e] at h2 ⊢
     omega
def zl (D:VM Hv.PD) (xs:List S):Nat:=min (3200+rZ D (fun _=>false)+(xs.map List.length).sum) 1048576
def jl (n:Int) (D:VM Hv.PD) (xs:List S):Bool:=decide (max 0 (n-32)*256<8*(zl D xs:Int))
theorem Bw (n:Int) (hn:0≤n∧n≤4096) (mb pm fm:Nat) (P F:VM Value) (D:VM Hv.PD) (N:Nat→Prop) (v:Value) (xs:List S) (hxl:xs.length≤1000000) (hxs:∀ x∈xs,x.length≤4611686018427387904) (w:World) (hm:aK mb pm fm P F w) (hP:dA N w D P) (hv:Reads w v xs) :
   Calls Tryz.prog 69 #[.int .i64 n, .pointer (some ⟨mb,0,none⟩),v] w fun e w'=>e = .returned (.bool (jl n D xs))∧Below w.heap.size w w':=by
 obtain ⟨a,c,rfl,hc⟩:=hv.form
 have m0:=(ah hm.blk 0).trans (show _=some (.map (some pm)) from rfl)
 have hp1:=hm.packs
 have hpl:=hp1.lt
 have eU:=hide hP;have HC:=hide hc;have HX:=hide hxs
 have HM:=hide hm
 obtain ⟨n0,hn0⟩:∃ n0,xs.length=n0:=⟨_,rfl⟩
 have HN:=hide hn0
 rw[hn0] at hxl ⊢
 clear hm hP hv hc hxs hn0
 go_enter Tryz.func69,Tryz.ntmps69
 go_wp2_with (first
   | (at_range;refine eH rfl _ 86 rfl 156 Tryz.underlying86 hp1 rfl ?_;intro w0 hrg0 hg0 hs0;have nP:=hide hrg0;have HB0:=hide ((Below.refl w.heap.size w).grown hg0 (Nat.le_refl _) (fun q hq=>by cases hq))))
 go_frame
 clear hg0 hrg0 hp1 m0
 go_loopw [7,17] (fun z _ wr=>∃ (left:S→Bool) (cnt:Nat),z = .int .i64 (min (3200+rZ D left) 1048576:Nat)∧Hid (bE wr pm w.heap.size P left cnt)∧Hid (Below w.heap.size w wr)∧w.heap.size<wr.heap.size)
   (fun _ _ wr=>wr.rangeLeft pm w.heap.size)
 case atStart=>exact ⟨_,_,by rw[EG D _ (fun k hk=>by rw[eU.out.has_eq];exact hk)];rfl,nP,HB0,by omega⟩
 case round =>
   clear nP HB0
   obtain ⟨left,cnt,rfl,HG,HB,hsz1⟩:=hrel
   go_wp2_with (first
     | (at_next;refine gG rfl _ rfl w.heap.size left cnt rfl HG.out ?_ ?_))
   · intro hc0 hl0
     have hl:left=fun _=>false:=funext hl0
     subst hl
     obtain ⟨s0,Dn⟩:∃ s0,min (3200+rZ D (fun _=>false)) 1048576=s0:=⟨_,rfl⟩
     have Gj:=hide Dn
     have hsl:s0≤1048576:=by omega
     rw[Dn]
     clear Dn
     go_wp2_with fail
     go_loopw [7,27] (fun z i w2=>∃ j:Nat,j≤n0∧i = .int .i64 (j:Int)∧z = .int .i64 (min (s0+((xs.map List.length).take j).sum) 1048576:Nat)∧w2=wr) (fun _ i _=>n0-(intOf i).toNat)
     case atStart=>exact ⟨0,Nat.zero_le _,rfl,by simp;omega,rfl⟩
     case round =>
       obtain ⟨j,hj,rfl,rfl,rfl⟩:=hrel
       by_cases hjl:j<n0
       · have b1:(j:Int)<(n0:Int):=by omega
         have uS:j<xs.length:=by have:=HN.out;omega
         obtain ⟨g,rfl,hg,q1⟩:=HC.out j _ (List.getElem?_eq_getElem uS)
         have d1:=(HB.out.cell (p:=⟨g,j,none⟩) hg).trans q1
         have abY:=HX.out _ (List.getElem_mem uS)
         have HT:Hid (((xs.map List.length).take (j+1)).sum=((xs.map List.length).take j).sum+xs[j].length):=hide (by rw[List.take_succ_eq_append_getElem (show j<(xs.map List.length).length by simpa using uS)];simp)
         obtain ⟨x,hx⟩:∃ x,xs[j]=x:=⟨_,rfl⟩
         rw[hx] at d1 abY HT
         obtain ⟨s1,hs1⟩:∃ s1,min (s0+((xs.map List.length).take j).sum) 1048576=s1:=⟨_,rfl⟩
         have kK:=hide hs1
         have hsl1:s1≤1048576:=by omega
         rw[hs1]
         clear q1 hx hs1
         go_wp2_with fail
         refine (yB s1 hsl1 x abY _).mono ?_
         rintro e w5 ⟨rfl,rfl⟩
         have HE:Hid (min (s1+x.length) 1048576=min (s0+((xs.map List.length).take (j+1)).sum) 1048576):=hide (by rw[HT.out,← kK.out];omega)
         rw[HE.out]
         go_wp2_with fail
         go_roundw
         case rel=>exact ⟨j+1,by omega,by go_num,rfl,by first | rfl | trivial⟩
         case measure=>simp[intOf];omega
       · obtain rfl:j=n0:=by omega
         have b1 : ¬ (j:Int)<(j:Int):=by omega
         have HE:Hid (min (s0+((xs.map List.length).take j).sum) 1048576=zl D xs):=hide (by unfold zl;rw[List.take_of_length_le (by have:=HN.out;simp;omega),← Gj.out];omega)
         rw[HE.out]
         have hsz:zl D xs≤1048576:=by unfold zl;omega
         obtain ⟨T,hT⟩:∃ T,zl D xs=T:=⟨_,rfl⟩
         have HT:=hide hT
         rw[hT] at hsz ⊢
         clear hT
         go_wp2_with fail
         go_ret
         exact ⟨by unfold jl;rw[HT.out];rfl,HB.out⟩
   · intro k v w4 cnt1 hk hlk hget hrg1 hlt hg1 hs1 hen
     obtain ⟨d,hd,p,rfl,p1,p2,p3,p4,hpk, -⟩:=eU.out.nD k v hget
     have oC:=hide (bE.alloc hrg1 (.cells p.cells 156))
     have hb4:=HB.out.grown hg1 HB.out.size (fun q hq=>by cases hq;omega)
     have iI:=hide (hb4.alloc hb4.size (.cells p.cells 156))
     have hs4:w4.heap.size=wr.heap.size:=hs1
     have hrow4:=heap_alloc_new w4 (.cells p.cells 156)
     have a0:=(ah hrow4 0).trans (show _=some (.string ⟨p.text.toArray⟩) from rfl)
     have hsu:(w4.alloc (.cells p.cells 156)).heap.size=w4.heap.size+1:=by simp
     have htl:p.text.length≤4611686018427387904:=by
       have h:=hpk.parse
       rw[aH.parse.eq_def] at h
       split at h
       · cases h
       · omega
     have HST:=hide (EI D left k d eU.out.dU ((Hv.get_some eU.out.dU).1 hd) hlk)
     rw[← p1] at HST
     obtain ⟨s0,Dn⟩:∃ s0,min (3200+rZ D left) 1048576=s0:=⟨_,rfl⟩
     have Gj:=hide Dn
     have hsl:s0≤1048576:=by omega
     simp only[Pk.val,Pk.cells] at hen ⊢
     rw[Dn]
     clear hrg1 hg1 hget hpk p1 p2 p3 p4 hd hb4 hrow4 Dn
     go_wp2_with fail
     refine (yB s0 hsl p.text htl _).mono ?_
     rintro e w5 ⟨rfl,rfl⟩
     have HE:Hid (min (s0+p.text.length) 1048576=min (3200+rZ D (fun z=>left z && !(z==k))) 1048576):=hide (by rw[HST.out,← Gj.out];omega)
     rw[HE.out]
     simp only[Pk.cells] at oC iI hsu
     go_wp2_with fail
     go_roundw
     case rel=>exact ⟨_,cnt1,rfl,oC,iI,by omega⟩
     case measure=>rw[oC.out.left_eq,HG.out.left_eq];exact hlt
def nN (D:VM Hv.PD) (n:S) (d:Hv.PD):Bool:=d.st.needs.any fun q=>Hv.has D q.1 && !(q.1==n)
def Pk.arc (p:Pk):Value := .agg #[.string ⟨p.nm.toArray⟩, .string ⟨p.ve.toArray⟩, .slice p.needs.a p.needs.n p.needs.c, .slice p.breaks.a p.breaks.n p.breaks.c, .slice p.wakes.a p.wakes.n p.wakes.c, .slice p.files.a p.files.n p.files.c, .slice p.runs.a p.runs.n p.runs.c, .slice p.aL.a p.aL.n p.aL.c]
theorem qZ (p:Pk) (w:World):(Instr.field 156 p.val 1).run Tryz.prog w = .ok p.arc w:=by kernel_rfl
theorem Ic (p:Pk) (w:World):(Instr.field 154 p.arc 2).run Tryz.prog w = .ok p.needs.val w:=by kernel_rfl
theorem xE (pm:Nat) (P:VM Value) (D:VM Hv.PD) (N:Nat→Prop) (n:S) (hnl:n.length≤maxLen) (d:Hv.PD) (hd:Hv.get D n=some d) (w:World) (hp:MapAt w pm P) (hP:dA N w D P) :
   Calls Tryz.prog 127 #[.string ⟨n.toArray⟩, .map (some pm)] w fun e w'=>e = .returned (.bool (!nN D n d))∧Below w.heap.size w w':=by
 obtain ⟨v,hget,⟨tx,pn,pv,⟨na,nn,nc⟩,br,wk,fl,ru,wo,qK⟩,rfl,p1,p2,p3,p4,hpk, -⟩:=hP.wZ n d hd
 have HN:=hide (Qt (hpk.rows 0))
 have HO:=hide (hpk.rows 0)
 have Km:=hide (bW hpk.parse).2.2.needs
 have Gh:=hide (bV hpk.parse).2.2.1
 have HP:=hide hp;have eU:=hide hP
 have hpl:=hp.lt
 clear hpk p1 p2 p3 p4 hd hP
 have hf1:=qZ ⟨tx,pn,pv,⟨na,nn,nc⟩,br,wk,fl,ru,wo,qK⟩ w
 have hf2:=Ic ⟨tx,pn,pv,⟨na,nn,nc⟩,br,wk,fl,ru,wo,qK⟩ w
 simp only[Pk.val,Pk.cells,Pk.arc,Sl.val] at hf1 hf2
 go_enter Tryz.func127,Tryz.ntmps127
 go_wp2_with (first
   | (at_lookup;refine jJ rfl _ _ 86 rfl 156 Tryz.underlying86 (bU _) hp rfl n hnl rfl ?_;rw[hget];simp only[Option.getD_some,Pk.val,Pk.cells]))
 clear hget hp hf1 hf2
 go_loopw [15] (fun i w2=>∃ j:Nat,j≤nn∧i = .int .i64 (j:Int)∧Hid ((d.st.needs.take j).any (fun q=>Hv.has D q.1 && !(q.1==n))=false)∧Hid (Below w.heap.size w w2)) (fun i _=>nn-(intOf i).toNat)
 case atStart=>exact ⟨0,Nat.zero_le _,rfl,hide (by simp),hide (Below.refl _ _)⟩
 case round =>
   obtain ⟨j,hj,rfl,HA,HB2⟩:=hrel
   by_cases hjl:j<nn
   · have b1:(j:Int)<(nn:Int):=by omega
     have uS:j<d.st.needs.length:=by have:=HN.out;simp only[aU] at this;omega
     obtain ⟨g,c,hv,hg,q1,q2⟩:=mg HO.out uS
     obtain rfl:na=some ⟨g,0,none⟩:=(Value.slice.inj hv).1
     have d1:=(HB2.out.cell (p:=⟨g,j*2,none⟩) hg).trans q1
     have d2:=(HB2.out.cell (p:=⟨g,j*2+1,none⟩) hg).trans q2
     have hgd:=Km.out _ (List.getElem_mem uS)
     have hj21:j<21:=by have:=Gh.out.1;omega
     have Gq:=hide (List.getElem_mem uS)
     have Ko:=hide (fun h=>qL (f:=fun q:S × S=>Hv.has D q.1 && !(q.1==n)) uS HA.out h)
     obtain ⟨q,hq⟩:∃ q,d.st.needs[j]=q:=⟨_,rfl⟩
     rw[hq] at d1 d2 hgd Gq Ko
     obtain ⟨n1,n2⟩:=q
     have ZX:n1.length≤maxLen:=by have:=BH hgd.1;unfold maxLen;simp only at this;omega
     simp only at Ko
     have hp2:=(HP.out.below HB2.out).alloc (.cells #[.string ⟨n1.toArray⟩, .string ⟨n2.toArray⟩] 275)
     have VE:=hide (HB2.out.alloc HB2.out.size (.cells #[.string ⟨n1.toArray⟩, .string ⟨n2.toArray⟩] 275))
     clear hv q1 q2 hgd hq
     cases hq:Hv.get P n1 with
     | none =>
       have wL:Hv.has P n1=false:=by rw[Hv.aB,hq];rfl
       have YD:Hid (Hv.has D n1=false):=hide (by rw[← eU.out.has_eq];exact wL)
       have HB3:=hide (VE.out.alloc VE.out.size (.cells zeroCells 156))
       simp only[zeroCells] at HB3
       go_wp2_with (first
         | (at_lookup;refine bQ rfl _ _ 86 rfl 156 Tryz.underlying86 (bU _) hp2 rfl n1 ZX rfl ?_;rw[hq,wL];simp only[Option.getD_none]))
       go_roundw
       case rel=>exact ⟨j+1,by omega,by go_num,hide (Ko.out (by rw[YD.out];rfl)),HB3⟩
       case measure=>simp[intOf];omega
     | some u =>
       obtain ⟨_,_,q,rfl, -⟩:=eU.out.nD n1 u hq
       have wL:Hv.has P n1=true:=by rw[Hv.aB,hq];rfl
       have YD:Hid (Hv.has D n1=true):=hide (by rw[← eU.out.has_eq];exact wL)
       have HB3:=hide (VE.out.alloc VE.out.size (.cells q.cells 156))
       simp only[Pk.cells] at HB3
       by_cases he:n1=n
       · subst he
         go_wp2_with (first
           | (at_lookup;refine bQ rfl _ _ 86 rfl 156 Tryz.underlying86 (bU _) hp2 rfl n1 ZX rfl ?_;rw[hq,wL];simp only[Option.getD_some,Pk.val,Pk.cells]))
         go_roundw
         case rel=>exact ⟨j+1,by omega,by go_num,hide (Ko.out (by simp)),HB3⟩
         case measure=>simp[intOf];omega
       · have hne:(n1==n)=false:=by simpa using he
         go_wp2_with (first
           | (at_lookup;refine bQ rfl _ _ 86 rfl 156 Tryz.underlying86 (bU _) hp2 rfl n1 ZX rfl ?_;rw[hq,wL];simp only[Option.getD_some,Pk.val,Pk.cells]))
         go_ret
         rw[show nN D n d=true from List.any_eq_true.2 ⟨_,Gq.out,by rw[YD.out];simpa using he⟩]
         exact ⟨rfl,HB3.out⟩
   · obtain rfl:j=nn:=by omega
     have b1 : ¬ (j:Int)<(j:Int):=by omega
     go_wp2_with fail
     go_ret
     rw[show nN D n d=false by have:=HA.out;rwa [List.take_of_length_le (by have:=HN.out;simp only[aU] at this;omega)] at this]
     exact ⟨rfl,HB2.out⟩
theorem EA (p t x:S) (b:Nat) (w:World) (h:w.cell? ⟨b,0,none⟩=some (.string ⟨x.toArray⟩)) :
   Calls Tryz.prog 227 #[.agg #[.string ⟨p.toArray⟩, .string ⟨t.toArray⟩], .pointer (some ⟨b,0,none⟩)] w fun e w'=>e = .returned (.bool (p==x))∧Below w.heap.size w w':=by
 have hb:=World.block_lt_of_cell? w _ h
 have hb':b<w.heap.size:=hb
 have hn : ¬ b=w.heap.size:=by omega
 go_enter Tryz.func227,Tryz.ntmps227
 go_wp2_with fail
 go_ret
 exact ⟨rfl,(Below.refl _ w).alloc (Nat.le_refl _) _⟩
theorem Li (F:List (S × S)) (hF:F.length≤2000) (x:S) (b:Nat) (base:Nat) (v:Value) (w:World) (hv:w.ownsRow base 275 2 v F.length (F.flatMap cB)) (h:w.cell? ⟨b,0,none⟩=some (.string ⟨x.toArray⟩)) :
   Calls Tryz.prog 274 #[v, .func (.func 227) #[] #[.pointer (some ⟨b,0,none⟩)]] w fun e w'=>∃ i:Int,e = .returned (.int .i64 i)∧decide (0≤i)=(F.any fun f=>f.1==x)∧Below w.heap.size w w':=by
 obtain ⟨n,hn⟩:∃ n,F.length=n:=⟨_,rfl⟩
 rw[hn] at hv hF
 have HN:=hide hn
 obtain ⟨ao,c,rfl⟩:=slice_form hv
 have hb:b<w.heap.size:=World.block_lt_of_cell? w _ h
 clear hn
 go_enter Tryz.func274,Tryz.ntmps274
 go_wp2_with fail
 go_loopw [8] (fun i wr=>∃ k:Nat,k≤n∧i = .int .i64 k∧Hid ((F.take k).any (fun f=>f.1==x)=false)∧Hid (Below w.heap.size w wr)) (fun i _=>n-(intOf i).toNat)
 case atStart=>exact ⟨0,by omega,rfl,hide rfl,hide (Below.refl _ _)⟩
 case round =>
   obtain ⟨k,hk,rfl,HA,HB⟩:=hrel
   by_cases hlt:k<n
   · have b1:(k:Int)<(n:Int):=by omega
     have hkl:k<F.length:=by rw[HN.out];exact hlt
     obtain ⟨g,cap,hv2⟩:=aP hv (by omega)
     cases hv2
     have hgl:=(hv.lt g rfl).2
     obtain ⟨p,hp⟩:∃ p,F.getD k ([],[])=p:=⟨_,rfl⟩
     obtain ⟨p1,p2⟩:=p
     have hpa:=FX F k hkl
     rw[hp] at hpa
     have d1:wr.cell? ⟨g,k*2,none⟩=some (.string ⟨p1.toArray⟩):=by rw[Nat.mul_comm];exact (HB.out.cell (p:=⟨g,2*k,none⟩) hgl).trans ((hv.cellAt _ (by omega)).trans hpa.1)
     have d2:wr.cell? ⟨g,k*2+1,none⟩=some (.string ⟨p2.toArray⟩):=by rw[Nat.mul_comm];exact (HB.out.cell (p:=⟨g,2*k+1,none⟩) hgl).trans ((hv.cellAt _ (by omega)).trans hpa.2)
     have hx:wr.cell? ⟨b,0,none⟩=some (.string ⟨x.toArray⟩):=(HB.out.cell (p:=⟨b,0,none⟩) hb).trans h
     have hs:(F.take (k+1)).any (fun f=>f.1==x)=(p1==x):=by
       rw[List.take_succ_eq_append_getElem hkl,List.any_append,HA.out]
       have:F[k]=(p1,p2):=by rw[← hp];simp[List.getD,List.getElem?_eq_getElem hkl]
       simp[this]
     have hin:p1==x→(F.any fun f=>f.1==x)=true:=fun e=>by
       rw[List.any_eq_true]
       have:F[k]=(p1,p2):=by rw[← hp];simp[List.getD,List.getElem?_eq_getElem hkl]
       exact ⟨F[k],List.getElem_mem hkl,by rw[this];exact e⟩
     have HS:=hide hs;have HIN:=hide hin
     have hbs:=HB.out.size
     clear hp hpa hs hin
     cases he:(p1==x)
     · have HS2:Hid ((F.take (k+1)).any (fun f=>f.1==x)=false):=hide (by rw[HS.out,he])
       go_wp2_with (refine (EA p1 p2 x b _ hx).mono ?_;rintro e w' ⟨he',hb1⟩;rw[he] at he';subst he')
       go_roundw
       case rel=>exact ⟨k+1,by omega,by go_num,HS2,hide (HB.out.trans (hb1.mono hbs))⟩
       case measure=>simp[intOf];omega
     · have HI2:=hide (HIN.out he)
       go_wp2_with (refine (EA p1 p2 x b _ hx).mono ?_;rintro e w' ⟨he',hb1⟩;rw[he] at he';subst he')
       go_ret
       exact ⟨_,rfl,by rw[HI2.out];simp,HB.out.trans (hb1.mono hbs)⟩
   · obtain rfl:k=n:=by omega
     have HA2:Hid ((F.any fun f=>f.1==x)=false):=hide (by have:=HA.out;rwa [List.take_of_length_le (by rw[HN.out];exact Nat.le_refl _)] at this)
     go_wp2_with fail
     go_ret
     exact ⟨_,rfl,by rw[HA2.out];rfl,HB.out⟩
theorem Dc (F:List (S × S)) (hF:F.length≤2000) (x:S) (b:Nat) (base:Nat) (v:Value) (w:World) (hv:w.ownsRow base 275 2 v F.length (F.flatMap cB)) (h:w.cell? ⟨b,0,none⟩=some (.string ⟨x.toArray⟩)) :
   Calls Tryz.prog 226 #[v, .func (.func 227) #[] #[.pointer (some ⟨b,0,none⟩)]] w fun e w'=>e = .returned (.bool (F.any fun f=>f.1==x))∧Below w.heap.size w w':=by
 have H:=hide (Li F hF x b base v w hv h)
 clear hv h
 go_enter Tryz.func226,Tryz.ntmps226
 go_wp2_with (go_at_call 274;refine H.out.mono ?_;rintro e w1 ⟨i,rfl,hi,hb⟩)
 go_ret
 exact ⟨rfl,hb⟩
theorem Px (p:Pk) (st:St) (n:S) (w:World) (h:w.ownsRow 0 275 2 p.needs.val st.needs.length (st.needs.flatMap cB)) (hl:st.needs.length≤2000) :
   Calls Tryz.prog 185 #[p.arc, .string ⟨n.toArray⟩] w fun e w'=>e = .returned (.bool (st.needs.any fun q=>q.1==n))∧Below w.heap.size w w':=by
 obtain ⟨tx,pn,pv,⟨na,nn,nc⟩,br,wk,fl,ru,wo,qK⟩:=p
 obtain ⟨cs,hcs⟩:∃ cs,cs = #[Value.string ⟨pn.toArray⟩, .string ⟨pv.toArray⟩, .slice na nn nc, .slice br.a br.n br.c, .slice wk.a wk.n wk.c, .slice fl.a fl.n fl.c, .slice ru.a ru.n ru.c, .slice wo.a wo.n wo.c]:=⟨_,rfl⟩
 have hrow:=heap_alloc_new w (.cells cs 154)
 have k2:=(ah ((Below.heap_alloc (w.alloc (.cells cs 154)) (.cells #[.string ⟨n.toArray⟩] 9) w.heap.size (by simp)).trans hrow) 2).trans (show _=some (.slice na nn nc) by rw[hcs];rfl)
 have HO:Hid (((w.alloc (.cells cs 154)).alloc (.cells #[.string ⟨n.toArray⟩] 9)).ownsRow 0 275 2 (.slice na nn nc) st.needs.length (st.needs.flatMap cB)):=hide ((h.alloc _).alloc _)
 have HC:=hide (ah (heap_alloc_new (w.alloc (.cells cs 154)) (.cells #[.string ⟨n.toArray⟩] 9)) 0)
 have HB:=hide (((Below.refl w.heap.size w).alloc (Nat.le_refl _) (.cells cs 154)).alloc (by simp) (.cells #[.string ⟨n.toArray⟩] 9))
 have hsz:(w.alloc (.cells cs 154)).heap.size=w.heap.size+1:=by simp
 rw[hsz] at HC
 subst hcs
 clear h hrow hsz
 simp only[Pk.arc]
 go_enter Tryz.func185,Tryz.ntmps185
 go_wp2_with (go_at_call 226;refine (Dc st.needs hl n (w.heap.size+1) 0 (.slice na nn nc) _ HO.out HC.out).mono ?_;rintro e w1 ⟨rfl,hb⟩)
 go_ret
 exact ⟨rfl,HB.out.trans (hb.mono HB.out.size)⟩
def zZ (D:VM Hv.PD) (n:S):Bool:=D.any fun p => !(p.1==n)&&p.2.st.needs.any fun q=>q.1==n
theorem xG (pm:Nat) (P:VM Value) (D:VM Hv.PD) (N:Nat→Prop) (n:S) (w:World) (hp:MapAt w pm P) (hP:dA N w D P) :
   Calls Tryz.prog 129 #[.string ⟨n.toArray⟩, .map (some pm)] w fun e w'=>e = .returned (.bool (!zZ D n))∧Below w.heap.size w w':=by
 have hpl:=hp.lt
 have HP:=hide hp;have eU:=hide hP
 clear hp hP
 go_enter Tryz.func129,Tryz.ntmps129
 have hp1:=HP.out
 go_wp2_with (first
   | (at_range;refine eH rfl _ 86 rfl 156 Tryz.underlying86 hp1 rfl ?_;intro w0 hrg0 hg0 hs0;have nP:=hide hrg0;have HB0:=hide ((Below.refl w.heap.size w).grown hg0 (Nat.le_refl _) (fun q hq=>by cases hq))))
 go_frame
 clear hg0 hrg0 hp1
 go_loopw [9] (fun _ wr=>∃ (left:S→Bool) (cnt:Nat),Hid (bE wr pm w.heap.size P left cnt)∧Hid (∀ k d,Hv.get D k=some d→left k=true∨(!(k==n)&&d.st.needs.any fun q=>q.1==n)=false)∧Hid (Below w.heap.size w wr)∧w.heap.size<wr.heap.size)
   (fun _ wr=>wr.rangeLeft pm w.heap.size)
 case atStart=>exact ⟨_,_,nP,hide (fun k d h => .inl (by rw[eU.out.has_eq,Hv.aB,h];rfl)),HB0,by omega⟩
 case round =>
   clear nP HB0
   obtain ⟨left,cnt,HG,HL,HB,hsz1⟩:=hrel
   go_wp2_with (first
     | (at_next;refine gG rfl _ rfl w.heap.size left cnt rfl HG.out ?_ ?_))
   · intro hc0 hl0
     go_wp2_with fail
     go_ret
     rw[show zZ D n=false from Al (fun k d => !(k==n)&&d.st.needs.any fun q=>q.1==n) eU.out.dU (fun k d h1=>(HL.out k d h1).resolve_left (by rw[hl0 k];simp))]
     exact ⟨rfl,HB.out⟩
   · intro k v w4 cnt1 hk hlk hget hrg1 hlt hg1 hs1 hen
     obtain ⟨d,hd,p,rfl,p1,p2,p3,p4,hpk, -⟩:=eU.out.nD k v hget
     have oC:=hide (bE.alloc hrg1 (.cells p.cells 156))
     have hb4:=HB.out.grown hg1 HB.out.size (fun q hq=>by cases hq;omega)
     have iI:=hide (hb4.alloc hb4.size (.cells p.cells 156))
     have hs4:w4.heap.size=wr.heap.size:=hs1
     have hrow4:=heap_alloc_new w4 (.cells p.cells 156)
     have T:=Pk.at_ hrow4
     have HO:=hide (own_below (hpk.rows 0) (iI.out))
     have Gh:=hide (bV hpk.parse).2.2.1
     have HD:=hide hd
     have hsu:(w4.alloc (.cells p.cells 156)).heap.size=w4.heap.size+1:=by simp
     have hs5:w.heap.size<(w4.alloc (.cells p.cells 156)).heap.size:=by rw[hsu];omega
     simp only[Pk.val,Pk.cells] at hen ⊢
     simp only[Pk.cells] at oC iI hs5 HO T
     clear hrg1 hg1 hget hpk p1 p2 p3 p4 hd hb4 hrow4 hsu
     have HL2:Hid ((!(k==n)&&d.st.needs.any fun q=>q.1==n)=false→∀ k' d',Hv.get D k'=some d'→(left k' && !(k'==k))=true∨(!(k'==n)&&d'.st.needs.any fun q=>q.1==n)=false):=hide (fun hno k' d' h1=>by
       rcases HL.out k' d' h1 with q | q
       · by_cases e:k'=k
         · subst e
           rw[HD.out] at h1;cases h1
           exact .inr hno
         · exact .inl (by simp[q,e])
       · exact .inr q)
     by_cases he:k=n
     · subst he
       go_wp2_with fail
       go_roundw
       case rel=>exact ⟨_,cnt1,oC,hide (HL2.out (by simp)),iI,hs5⟩
       case measure=>rw[oC.out.left_eq,HG.out.left_eq];exact hlt
     · have hne:(k==n)=false:=by simpa using he
       obtain ⟨t0,t1,t2,t3,t4,t5,t6,t7,t8,t9⟩:=T
       go_wp2_with fail
       refine (Px p d.st n _ HO.out (by have:=Gh.out.1;omega)).mono ?_
       rintro e w5 ⟨rfl,hb5⟩
       have CG:=hide (oC.out.below hb5)
       have kN:=hide (iI.out.trans (hb5.mono iI.out.size))
       have hs6:w.heap.size<w5.heap.size:=Nat.lt_of_lt_of_le hs5 hb5.size
       clear hb5
       cases hq:(d.st.needs.any fun q=>q.1==n)
       · go_wp2_with fail
         go_roundw
         case rel=>exact ⟨_,cnt1,CG,hide (HL2.out (by rw[hq];simp)),kN,hs6⟩
         case measure=>rw[CG.out.left_eq,HG.out.left_eq];exact hlt
       · go_wp2_with fail
         go_ret
         rw[show zZ D n=true from zU (fun k d => !(k==n)&&d.st.needs.any fun q=>q.1==n) eU.out.dU HD.out (by rw[hq];simpa using he)]
         exact ⟨rfl,kN.out⟩
def aI (D:VM Hv.PD) (n:S):Bool:=match Hv.get D n with
 | none=>true
 | some d => !nN D n d
def bC (D:VM Hv.PD) (n:S):Bool := !zZ D n
theorem abb (lm fb lb:Nat) (E:VM Value) (D:VM Hv.PD) (N:Nat→Prop) (n:S) (hnl:n.length≤maxLen) (hn:Hv.has D n=true) (w:World) (hp:MapAt w lm E) (hP:dA N w D E) (h1:w.cell? ⟨fb,0,none⟩=some (.func (.func 127) #[] #[])) (h2:w.cell? ⟨lb,0,none⟩=some (.map (some lm))) :
   Calls Tryz.prog 184 #[.string ⟨n.toArray⟩, .pointer (some ⟨fb,0,none⟩), .pointer (some ⟨lb,0,none⟩)] w fun e w'=>e = .returned (.bool (aI D n))∧Below w.heap.size w w':=by
 obtain ⟨d,hd⟩:∃ d,Hv.get D n=some d:=by rw[Hv.aB] at hn;exact Option.isSome_iff_exists.1 hn
 have HE:Hid (aI D n = !nN D n d):=hide (by unfold aI;rw[hd])
 have HP:=hide hp;have eU:=hide hP
 clear hp hP
 go_enter Tryz.func184,Tryz.ntmps184
 go_wp2_with fail
 refine (xE lm E D N n hnl d hd w HP.out eU.out).mono ?_
 rintro e w1 ⟨rfl,hb⟩
 go_wp2_with fail
 go_ret
 exact ⟨by rw[HE.out];rfl,hb⟩
theorem Wo (lm fb lb:Nat) (E:VM Value) (D:VM Hv.PD) (N:Nat→Prop) (l:List S) (hll:l.length≤1000000) (hl:∀ n∈l,n.length≤maxLen∧Hv.has D n=true) (B:Nat) (v:Value) (w:World) (hv:w.ownsRow B 9 1 v l.length (l.map aO)) (hp:MapAt w lm E) (hP:dA N w D E) (h1:w.cell? ⟨fb,0,none⟩=some (.func (.func 127) #[] #[])) (h2:w.cell? ⟨lb,0,none⟩=some (.map (some lm))) :
   Calls Tryz.prog 183 #[v, .func (.func 184) #[] #[.pointer (some ⟨fb,0,none⟩), .pointer (some ⟨lb,0,none⟩)]] w fun e w'=>∃ i:Int,e = .returned (.int .i64 i)∧((∃ j:Nat,i=(j:Int)∧∃ h:j<l.length,l.find? (aI D)=some l[j])∨(i = -1∧∀ x∈l,aI D x=false))∧Below w.heap.size w w':=by
 obtain ⟨n,hn⟩:∃ n,l.length=n:=⟨_,rfl⟩
 rw[hn] at hv hll
 have HN:=hide hn
 obtain ⟨ao,c,rfl⟩:=slice_form hv
 have HV:=hide hv;have HP:=hide hp;have eU:=hide hP;have HL:=hide hl
 have nV:fb<w.heap.size:=World.block_lt_of_cell? w _ h1
 have hlb:lb<w.heap.size:=World.block_lt_of_cell? w _ h2
 have H1:=hide h1;have H2:=hide h2
 clear hv hp hP hl hn h1 h2
 go_enter Tryz.func183,Tryz.ntmps183
 go_wp2_with fail
 go_loopw [8] (fun i wr=>∃ k:Nat,k≤n∧i = .int .i64 (k:Int)∧Hid (l.find? (aI D)=(l.drop k).find? (aI D))∧Hid (Below w.heap.size w wr)) (fun i _=>n-(intOf i).toNat)
 case atStart=>exact ⟨0,by omega,rfl,hide (by simp),hide (Below.refl _ _)⟩
 case round =>
   obtain ⟨k,hk,rfl,HA,HB⟩:=hrel
   by_cases hlt:k<n
   · have b1:(k:Int)<(n:Int):=by omega
     have hkl:k<l.length:=by rw[HN.out];exact hlt
     obtain ⟨g,c',hv2,hg,q1⟩:=gF (by rw[HN.out];exact HV.out) hkl
     obtain rfl:ao=some ⟨g,0,none⟩:=(Value.slice.inj hv2).1
     have d1:=(HB.out.cell (p:=⟨g,k,none⟩) hg).trans q1
     have hx:=HL.out _ (List.getElem_mem hkl)
     have f1:=(HB.out.cell (p:=⟨fb,0,none⟩) nV).trans H1.out
     have f2:=(HB.out.cell (p:=⟨lb,0,none⟩) hlb).trans H2.out
     have HD:Hid ((l.drop k).find? (aI D)=if aI D l[k]=true then some l[k] else (l.drop (k+1)).find? (aI D)):=hide (by rw[List.drop_eq_getElem_cons hkl,List.find?_cons];cases aI D l[k]<;>rfl)
     have YH:Hid (∃ h:k<l.length,l[k]=l[k]'h):=hide ⟨hkl,rfl⟩
     obtain ⟨x,hxe⟩:∃ x,l[k]=x:=⟨_,rfl⟩
     have HXE:=hide hxe
     rw[hxe] at d1 hx HD
     clear hv2 q1 hxe
     go_wp2_with fail
     refine (abb lm fb lb E D N x hx.1 hx.2 _ (HP.out.below HB.out) (eU.out.below HB.out) f1 f2).mono ?_
     rintro e w1 ⟨rfl,hb⟩
     have HB1:=hide (HB.out.trans (hb.mono HB.out.size))
     clear hb
     cases hf:aI D x
     · have HS:Hid (l.find? (aI D)=(l.drop (k+1)).find? (aI D)):=hide (by rw[HA.out,HD.out,hf];rfl)
       go_wp2_with fail
       go_roundw
       case rel=>exact ⟨k+1,by omega,by go_num,HS,HB1⟩
       case measure=>simp[intOf];omega
     · have HS:Hid (l.find? (aI D)=some l[k]):=hide (by rw[HA.out,HD.out,hf,HXE.out];rfl)
       go_wp2_with fail
       go_ret
       exact ⟨_,rfl, .inl ⟨k,rfl,hkl,HS.out⟩,HB1.out⟩
   · obtain rfl:k=n:=by omega
     have b1 : ¬ (k:Int)<(k:Int):=by omega
     have HS:Hid (l.find? (aI D)=none):=hide (by rw[HA.out,List.drop_eq_nil_of_le (by rw[HN.out];exact Nat.le_refl _)];rfl)
     go_wp2_with fail
     go_ret
     exact ⟨_,rfl, .inr ⟨rfl,fun x hx=>by simpa using List.find?_eq_none.1 HS.out x hx⟩,HB.out⟩
theorem abd (lm fb lb:Nat) (E:VM Value) (D:VM Hv.PD) (N:Nat→Prop) (n:S) (_hnl:n.length≤maxLen) (_hn:Hv.has D n=true) (w:World) (hp:MapAt w lm E) (hP:dA N w D E) (h1:w.cell? ⟨fb,0,none⟩=some (.func (.func 129) #[] #[])) (h2:w.cell? ⟨lb,0,none⟩=some (.map (some lm))) :
   Calls Tryz.prog 184 #[.string ⟨n.toArray⟩, .pointer (some ⟨fb,0,none⟩), .pointer (some ⟨lb,0,none⟩)] w fun e w'=>e = .returned (.bool (bC D n))∧Below w.heap.size w w':=by
 have HP:=hide hp;have eU:=hide hP
 clear hp hP
 go_enter Tryz.func184,Tryz.ntmps184
 go_wp2_with fail
 refine (xG lm E D N n w HP.out eU.out).mono ?_
 rintro e w1 ⟨rfl,hb⟩
 go_wp2_with fail
 go_ret
 exact ⟨rfl,hb⟩
theorem Wp (lm fb lb:Nat) (E:VM Value) (D:VM Hv.PD) (N:Nat→Prop) (l:List S) (hll:l.length≤1000000) (hl:∀ n∈l,n.length≤maxLen∧Hv.has D n=true) (B:Nat) (v:Value) (w:World) (hv:w.ownsRow B 9 1 v l.length (l.map aO)) (hp:MapAt w lm E) (hP:dA N w D E) (h1:w.cell? ⟨fb,0,none⟩=some (.func (.func 129) #[] #[])) (h2:w.cell? ⟨lb,0,none⟩=some (.map (some lm))) :
   Calls Tryz.prog 183 #[v, .func (.func 184) #[] #[.pointer (some ⟨fb,0,none⟩), .pointer (some ⟨lb,0,none⟩)]] w fun e w'=>∃ i:Int,e = .returned (.int .i64 i)∧((∃ j:Nat,i=(j:Int)∧∃ h:j<l.length,l.find? (bC D)=some l[j])∨(i = -1∧∀ x∈l,bC D x=false))∧Below w.heap.size w w':=by
 obtain ⟨n,hn⟩:∃ n,l.length=n:=⟨_,rfl⟩
 rw[hn] at hv hll
 have HN:=hide hn
 obtain ⟨ao,c,rfl⟩:=slice_form hv
 have HV:=hide hv;have HP:=hide hp;have eU:=hide hP;have HL:=hide hl
 have nV:fb<w.heap.size:=World.block_lt_of_cell? w _ h1
 have hlb:lb<w.heap.size:=World.block_lt_of_cell? w _ h2
 have H1:=hide h1;have H2:=hide h2
 clear hv hp hP hl hn h1 h2
 go_enter Tryz.func183,Tryz.ntmps183
 go_wp2_with fail
 go_loopw [8] (fun i wr=>∃ k:Nat,k≤n∧i = .int .i64 (k:Int)∧Hid (l.find? (bC D)=(l.drop k).find? (bC D))∧Hid (Below w.heap.size w wr)) (fun i _=>n-(intOf i).toNat)
 case atStart=>exact ⟨0,by omega,rfl,hide (by simp),hide (Below.refl _ _)⟩
 case round =>
   obtain ⟨k,hk,rfl,HA,HB⟩:=hrel
   by_cases hlt:k<n
   · have b1:(k:Int)<(n:Int):=by omega
     have hkl:k<l.length:=by rw[HN.out];exact hlt
     obtain ⟨g,c',hv2,hg,q1⟩:=gF (by rw[HN.out];exact HV.out) hkl
     obtain rfl:ao=some ⟨g,0,none⟩:=(Value.slice.inj hv2).1
     have d1:=(HB.out.cell (p:=⟨g,k,none⟩) hg).trans q1
     have hx:=HL.out _ (List.getElem_mem hkl)
     have f1:=(HB.out.cell (p:=⟨fb,0,none⟩) nV).trans H1.out
     have f2:=(HB.out.cell (p:=⟨lb,0,none⟩) hlb).trans H2.out
     have HD:Hid ((l.drop k).find? (bC D)=if bC D l[k]=true then some l[k] else (l.drop (k+1)).find? (bC D)):=hide (by rw[List.drop_eq_getElem_cons hkl,List.find?_cons];cases bC D l[k]<;>rfl)
     have YH:Hid (∃ h:k<l.length,l[k]=l[k]'h):=hide ⟨hkl,rfl⟩
     obtain ⟨x,hxe⟩:∃ x,l[k]=x:=⟨_,rfl⟩
     have HXE:=hide hxe
     rw[hxe] at d1 hx HD
     clear hv2 q1 hxe
     go_wp2_with fail
     refine (abd lm fb lb E D N x hx.1 hx.2 _ (HP.out.below HB.out) (eU.out.below HB.out) f1 f2).mono ?_
     rintro e w1 ⟨rfl,hb⟩
     have HB1:=hide (HB.out.trans (hb.mono HB.out.size))
     clear hb
     cases hf:bC D x
     · have HS:Hid (l.find? (bC D)=(l.drop (k+1)).find? (bC D)):=hide (by rw[HA.out,HD.out,hf];rfl)
       go_wp2_with fail
       go_roundw
       case rel=>exact ⟨k+1,by omega,by go_num,HS,HB1⟩
       case measure=>simp[intOf];omega
     · have HS:Hid (l.find? (bC D)=some l[k]):=hide (by rw[HA.out,HD.out,hf,HXE.out];rfl)
       go_wp2_with fail
       go_ret
       exact ⟨_,rfl, .inl ⟨k,rfl,hkl,HS.out⟩,HB1.out⟩
   · obtain rfl:k=n:=by omega
     have b1 : ¬ (k:Int)<(k:Int):=by omega
     have HS:Hid (l.find? (bC D)=none):=hide (by rw[HA.out,List.drop_eq_nil_of_le (by rw[HN.out];exact Nat.le_refl _)];rfl)
     go_wp2_with fail
     go_ret
     exact ⟨_,rfl, .inr ⟨rfl,fun x hx=>by simpa using List.find?_eq_none.1 HS.out x hx⟩,HB.out⟩
end
end Go.Proofs.YtialenebfcnkkaaGreatDoor
