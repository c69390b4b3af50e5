/- EngW9, EngW10, EngMath, RunMath, RunMath2, RunMath3, EngW11, LockW, HavW1 -/
import Derived.Test.YtialenebfcnkkaaGreatDoorWokJ27
import Derived.Test.YtialenebfcnkkaaGreatDoorProg
import Derived.Conc.MuLone
import Derived.KernelRfl
import Derived.Test.YtialenebfcnkkaaGreatDoorWokJ10
import Derived.Defers
set_option maxHeartbeats 4000000
set_option maxRecDepth 100000
namespace Go.Proofs.YtialenebfcnkkaaGreatDoor
section
open Go.RowKit
open Arc (St Cmd)
open Hv (S Dk VM)
structure RunGood (n:Nat) (pl:Hv.Plan) (m:Hv.Mac):Prop where
 ok:Hv.RunOk pl m pl.steps
 ks:∀ s∈pl.steps,s.2.length≤12
 len:pl.steps.length≤200
 at_:∀ k,k<pl.steps.length→(Hv.runS pl m (pl.steps.take k)).1.length≤1000∧(Hv.runS pl m (pl.steps.take k)).2.length≤1000∧Hv.Short 200 (Hv.runS pl m (pl.steps.take k)).2∧DBound 30000 (Hv.runS pl m (pl.steps.take k)).1
 wf:WakFine 30000 pl.wak
 fin:RecFine n (Hv.runS pl m pl.steps) []
def leftOf (eb ns:Nat) (w:World):Nat:=match w.cell? ⟨eb,2,none⟩,w.cell? ⟨eb,5,none⟩ with
 | some (.slice _ m _),some (.int _ d)=>if m=0 then 0 else ns+1-d.toNat
 | _,_=>0
theorem leftOf_on {eb ns:Nat} {s m im km:Value} {sa:Option Addr} {sc dn:Nat} {w:World} (h:EngB eb s m (.slice sa ns sc) im km (.int .i64 dn) w) (hn:0<ns):leftOf eb ns w=ns+1-dn:=by
 obtain ⟨_,_,q2,_,_,q5⟩:=h.cells
 unfold leftOf
 rw[q2,q5]
 simp
 omega
theorem leftOf_off {eb ns:Nat} {s m im km dn:Value} {w:World} (h:EngB eb s m (.slice none 0 0) im km dn w):leftOf eb ns w=0:=by
 obtain ⟨_,_,q2,_,_,q5⟩:=h.cells
 unfold leftOf
 rw[q2,q5]
 cases dn<;>simp
theorem itoa_few (n:Int) (h0:0≤n) (h1:n≤1000000) (w:World) (hb:Base w) :
   Calls Tryz.prog 76 #[.int .i64 n] w fun e w'=>∃ x:S,e = .returned (.string ⟨x.toArray⟩)∧x.length≤21∧Below w.heap.size w w' :=
 (itoa_any n (by omega) (by omega) w hb).mono fun e w' h=>⟨_,h.1,Lib.itoa_length_le n (by omega) (by omega),h.2⟩
structure FinOn (C N M:Nat→Prop) (eb sb mb pm fm db n a b:Nat) (h:S) (W:Nat) (m:Hv.Mac) (sa:Option Addr) (ns sc im km:Nat) (pl:Hv.Plan) (w:World) (dn:Nat) (C1:Nat→Prop) (c1:Nat) (d1:Dk) (P1:VM Value) (wr:World):Prop where
 eng:EngS C1 N eb sb mb pm fm db n a b c1 h d1 P1 (Hv.runS pl m (pl.steps.take dn)).1 (Hv.runS pl m (pl.steps.take dn)).2 (.slice sa ns sc) (.map (some im)) (.map (some km)) dn wr
 rest:DRest n (W+dn) a b h d1
 pln:PlanIn M pl (.slice sa ns sc) im km wr
 off:Apart5 C1 eb sb pm fm M
 far:Far w.heap.size (EFoot C eb sb pm fm) w wr
 new:∀ k,C1 k→C k∨w.heap.size≤k
structure FinOff (C N:Nat→Prop) (eb sb mb pm fm db n a:Nat) (W:Nat) (m:Hv.Mac) (pl:Hv.Plan) (w:World) (C1:Nat→Prop) (b1:Nat) (h1:S) (d1:Dk) (P1:VM Value) (wr:World):Prop where
 eng:EngS C1 N eb sb mb pm fm db n (1-a) b1 0 h1 d1 P1 (Hv.runS pl m pl.steps).1 (Hv.runS pl m pl.steps).2 (.slice none 0 0) (.map none) (.map none) 0 wr
 rest:DRest n (W+2000000) (1-a) b1 h1 d1
 far:Far w.heap.size (EFoot C eb sb pm fm) w wr
 new:∀ k,C1 k→C k∨w.heap.size≤k
theorem fin_step {C N M:Nat→Prop} {eb sb mb pm fm db n a b:Nat} {h:S} {W:Nat} {m:Hv.Mac} {sa:Option Addr} {ns sc im km:Nat} {pl:Hv.Plan} {w:World} {dn:Nat} {C1:Nat→Prop} {c1:Nat} {d1:Dk} {P1:VM Value} {wr:World} (hI:FinOn C N M eb sb mb pm fm db n a b h W m sa ns sc im km pl w dn C1 c1 d1 P1 wr) (hdn:dn<ns) (hns:pl.steps.length=ns) (hR:RunGood n pl m) (hN:∀ g,M g→N g) (hnn:1≤n∧n≤4096) (hW:W≤1000000000) (w4:World) (hb:Below wr.heap.size wr w4) :
   Calls Tryz.prog 81 #[.pointer (some ⟨eb,0,none⟩)] w4 fun e w'=>e = .returned .nilIface∧((∃ dn' C2 c2 d2 P2,dn'=dn+1∧dn'<ns∧FinOn C N M eb sb mb pm fm db n a b h W m sa ns sc im km pl w dn' C2 c2 d2 P2 w')∨(∃ C2 b2 h2 d2 P2,FinOff C N eb sb mb pm fm db n a W m pl w C2 b2 h2 d2 P2 w')):=by
 have hE:=hI.eng.below hb
 have hP:=hI.pln.below hb
 have hF:=hI.far.below hb hI.far.size
 have hFs:=hF.size
 have hn:dn<pl.steps.length:=by omega
 have hl200:=hR.len
 obtain ⟨r1,r2,r3,r4⟩:=hR.at_ dn hn
 have hPl:P1.length≤1000:=by have:=hE.pk.len hE.mach.packs.1;omega
 have hok:=hR.ok.at_ hn
 have hks:=hR.ks _ (List.getElem_mem hn)
 have tr:=take_run pl m hn
 have hMlt:∀ g,M g→g<w4.heap.size:=fun g hg=>(hE.rows g (hN g hg)).1
 have far5:∀ {w5:World},Far w4.heap.size (EFoot C1 eb sb pm fm) w4 w5→Far w.heap.size (EFoot C eb sb pm fm) w w5:=fun q=>hF.next q hFs (fun k hk hq=>by
   rcases hq with hq | hq
   · rcases hI.new k hq with hq | hq
     · exact .inl hq
     · omega
   · exact .inr hq)
 have new5:∀ {C2:Nat→Prop},(∀ k,C2 k→C1 k∨w4.heap.size≤k)→∀ k,C2 k→C k∨w.heap.size≤k:=fun q k hk=>by
   rcases q k hk with hk | hk
   · exact hI.new k hk
   · exact .inr (by omega)
 by_cases hl:dn+1<ns
 · refine (estep_mid eb sb mb pm fm db n a b c1 h d1 (W+dn) P1 _ _ sa ns sc im km dn pl hns hl (by omega) hok hks hPl r2 30000 (by omega) (r3.mono (by omega)) r4 hR.wf hI.rest (by omega) (by omega) w4 hE hP hN hI.off).mono ?_
   rintro e w5 ⟨C2,d2,P2,rfl,q1,q2,q3,q4,q5⟩
   refine ⟨rfl, .inl ⟨dn+1,C2,dn+1,d2,P2,rfl,hl,⟨?_,?_,q3,hI.off.disk q5 hMlt,far5 q4,new5 q5⟩⟩⟩
   · rw[tr];exact q1
   · have:=q2;rwa [Nat.add_assoc] at this
 · have hl':dn+1=ns:=by omega
   have te:pl.steps.take (dn+1)=pl.steps:=List.take_of_length_le (by omega)
   rw[te] at tr
   have hfin:=hR.fin
   rw[tr] at hfin
   refine (estep_last eb sb mb pm fm db n a b c1 h d1 (W+dn) P1 _ _ sa ns sc im km dn pl hns hl' (by omega) hok hks hPl r2 30000 (by omega) (r3.mono (by omega)) r4 hR.wf hI.rest (by omega) hnn hfin w4 hE hP hN hI.off).mono ?_
   rintro e w5 ⟨C2,d2,P2,b2,h2,rfl,q1,q2,q3,q4⟩
   refine ⟨rfl, .inr ⟨C2,b2,h2,d2,P2,⟨?_,⟨q2.len,q2.may,by have:=q2.wr;omega,q2.ha,q2.hb,q2.hh⟩,far5 q3,new5 q4⟩⟩⟩
   rw[tr];exact q1
theorem efinish_any {C N M:Nat→Prop} (eb sb mb pm fm db n a b c:Nat) (h:S) (d:Dk) (W:Nat) (P:VM Value) (m:Hv.Mac) (sa:Option Addr) (ns sc im km:Nat) (pl:Hv.Plan) (hns:pl.steps.length=ns) (hn0:0<ns) (hR:RunGood n pl m) (hD:DRest n W a b h d) (hW:W≤1000000000) (hnn:1≤n∧n≤4096) (w:World) (he:EngS C N eb sb mb pm fm db n a b c h d P m.1 m.2 (.slice sa ns sc) (.map (some im)) (.map (some km)) 0 w) (hpl:PlanIn M pl (.slice sa ns sc) im km w) (hN:∀ g,M g→N g) (hM:Apart5 C eb sb pm fm M) :
   Calls Tryz.prog 39 #[.pointer (some ⟨eb,0,none⟩)] w fun e w'=>∃ C' d' P' b' h',e = .returned .nilIface∧EngS C' N eb sb mb pm fm db n (1-a) b' 0 h' d' P' (Hv.runS pl m pl.steps).1 (Hv.runS pl m pl.steps).2 (.slice none 0 0) (.map none) (.map none) 0 w'∧DRest n (W+2000000) (1-a) b' h' d'∧Far w.heap.size (EFoot C eb sb pm fm) w w'∧∀ k,C' k→C k∨w.heap.size≤k:=by
 go_enter Tryz.func39,Tryz.ntmps39
 go_wp2_with fail
 have HR:=hide hR
 have HF0:Hid (FinOn C N M eb sb mb pm fm db n a b h W m sa ns sc im km pl w 0 C c d P w):=hide ⟨he,hD,hpl,hM,Far.refl _ _ _,fun k q => .inl q⟩
 have HNS:=hide hns;have HN:=hide hN
 have hns2:ns≤200:=by have:=hR.len;omega
 clear he hD hpl hM hR hns hN
 go_loopw [3,4] (fun x y wr=>(∃ dn C1 c1 d1 P1,dn<ns∧Hid (FinOn C N M eb sb mb pm fm db n a b h W m sa ns sc im km pl w dn C1 c1 d1 P1 wr))∨(∃ C1 b1 h1 d1 P1,Hid (FinOff C N eb sb mb pm fm db n a W m pl w C1 b1 h1 d1 P1 wr))) (fun _ _ wr=>leftOf eb ns wr)
 case atStart=>exact .inl ⟨0,C,c,d,P,hn0,HF0⟩
 case round =>
   clear HF0
   rcases hrel with ⟨dn,C1,c1,d1,P1,hdn,HI⟩ | ⟨C1,b1,h1,d1,P1,HI⟩
   · have hpos:(0:Int)<ns:=by omega
     have hdb:dn≤200:=by omega
     have HU:Hid (Calls Tryz.prog 31 #[.pointer (some ⟨eb,0,none⟩)] wr fun e w'=>e = .returned (.bool true)∧Below wr.heap.size wr w'):=hide (by
       refine (under_yes eb _ _ sa ns sc im km _ wr HI.out.eng.eng).mono ?_
       rintro e w' ⟨rfl,q⟩
       exact ⟨by rw[decide_eq_true hpos],q⟩)
     go_wp2_with fail
     refine HU.out.mono ?_
     rintro e w1 ⟨rfl,hb1⟩
     have HB1:=hide hb1
     have HE1:=hide (HI.out.eng.below hb1)
     obtain ⟨e0,e1,e2,e3,e4,e5⟩:=HE1.out.eng.cells
     have hbd:=(Below.refl w1.heap.size w1).drew
     have HB1':=hide (hb1.trans (hbd.mono hb1.size))
     have HE1':=hide (HE1.out.below hbd)
     clear hb1 hbd HU
     go_wp2_with fail
     have hd1:(dn:Int)+1≤1000000:=by omega
     have hwr:IntKind.i64.wrap ((dn:Int)+1)=(dn:Int)+1:=by rw[IntKind.wrap_i64];omega
     have hd0:(0:Int)≤(dn:Int)+1:=by omega
     have hn0':(0:Int)≤(ns:Int):=by omega
     have hn1':(ns:Int)≤1000000:=by omega
     go_region_held3 (fun w'=>w'.cell? ⟨eb,2,none⟩=some (.slice sa ns sc)∧w'.cell? ⟨eb,3,none⟩=some (.map (some im))∧w'.cell? ⟨eb,4,none⟩=some (.map (some km))∧w'.cell? ⟨eb,5,none⟩=some (.int .i64 dn))
       (first | assumption | exact ⟨e2,e3,e4,e5⟩ | exact HE4.out.eng.cells.2.2 | exact HE3.out.eng.cells.2.2 | exact HE2.out.eng.cells.2.2 | simp[go_sem, *])
       (first
         | (go_at_call_of 76 (Value.int .i64 (ns:Int));refine (itoa_few (ns:Int) hn0' hn1' _ HE3.out.base).mono ?_;rintro e w4 ⟨y,rfl,hy,hb4⟩;have k3 : ¬ 9223372036854775807<5+x.length+4+y.length:=(by omega);have HE4:=hide (HE3.out.below hb4);have HB4:=hide (HB3.out.trans (hb4.mono HB3.out.size));clear hb4)
         | (go_at_call 76;refine (itoa_few ((dn:Int)+1) hd0 hd1 _ HE1'.out.base).mono ?_;rintro e w2 ⟨x,rfl,hx,hb2⟩;have k1 : ¬ 9223372036854775807<5+x.length:=(by omega);have k2 : ¬ 9223372036854775807<5+x.length+4:=(by omega);have HE2:=hide (HE1'.out.below hb2);have HB2:=hide (HB1'.out.trans (hb2.mono HB1'.out.size));clear hb2)
         | (go_at_call 64;refine (planLen_any sa ns sc im km w2).mono ?_;rintro e w3 ⟨rfl,hb3⟩;have HE3:=hide (HE2.out.below hb3);have HB3:=hide (HB2.out.trans (hb3.mono HB2.out.size));clear hb3))
     all_goals
       have HST:=hide (fin_step HI.out hdn HNS.out HR.out HN.out hnn hW w4 HB4.out)
       have HLW:=hide (leftOf_on HI.out.eng.eng hn0)
       clear HE1' HB1' HE2 HB2 HE3 HB3 HE1 HB1 e0 e1 e2 e3 e4 e5 k1 k2 k3 hx hy hwr
       go_wp2_with fail
       refine HST.out.mono ?_
       rintro e w5 ⟨rfl,hor⟩
       have HOR:=hide hor
       clear hor HST HB4 HE4
       go_wp2_with fail
       go_roundw
       case rel =>
         rcases HOR.out with ⟨dn',C2,c2,d2,P2, -,q1,q2⟩ | ⟨C2,b2,h2,d2,P2,q⟩
         · exact .inl ⟨dn',C2,c2,d2,P2,q1,hide q2⟩
         · exact .inr ⟨C2,b2,h2,d2,P2,hide q⟩
       case measure =>
         rw[HLW.out]
         rcases HOR.out with ⟨dn',C2,c2,d2,P2,rfl,q1,q2⟩ | ⟨C2,b2,h2,d2,P2,q⟩
         · rw[leftOf_on q2.eng.eng hn0];omega
         · rw[leftOf_off q.eng.eng];omega
   · have HU:=hide (under_no eb _ _ _ wr HI.out.eng.eng)
     go_wp2_with fail
     refine HU.out.mono ?_
     rintro e w1 ⟨rfl,hb1⟩
     have HE1:=hide (HI.out.eng.below hb1)
     have HF1:=hide (HI.out.far.below hb1 HI.out.far.size)
     clear hb1 HU
     go_wp2_with fail
     go_ret
     exact ⟨C1,d1,P1,b1,h1,rfl,HE1.out,HI.out.rest,HF1.out,HI.out.new⟩
theorem st_sectors (sb db n a b c:Nat) (h:S) (w:World) (hs:StoreAt sb db n a b c h w) :
   Calls Tryz.prog 33 #[.pointer (some ⟨sb,0,none⟩)] w fun e w'=>e = .returned (.int .i64 n)∧Below w.heap.size w w':=by
 obtain ⟨s0,s1,s2,s3,s4,s5⟩:=hs.cells
 have HS:=hide (dev_sectors db n w)
 clear hs
 go_enter Tryz.func33,Tryz.ntmps33
 go_wp2_with fail
 refine HS.out.mono ?_
 rintro e w1 ⟨rfl,hb1⟩
 have HB1:=hide hb1
 clear hb1
 go_wp2_with fail
 go_ret
 exact ⟨rfl,HB1.out⟩
end
section
open Arc (St Cmd)
open Hv (S VM)
namespace Hv
def to0 (D:VM PD):VM PD:=D.map fun p=>(p.1,p.2.to 0)
theorem to0_srt {D:VM PD} (h:Srt D):Srt (to0 D):=h.map fun d:PD=>d.to 0
theorem to0_get (D:VM PD) (k:S):get (to0 D) k=(get D k).map (fun d=>d.to 0):=get_map D (fun d:PD=>d.to 0) k
theorem to0_put {D:VM PD} (h:Srt D) (k:S) (d:PD):to0 (put D k d)=put (to0 D) k (d.to 0):=by
 refine (to0_srt (h.put k d)).get_ext ((to0_srt h).put k _) fun n => ?_
 rw[to0_get]
 by_cases e:n=k
 · subst e;rw[get_put_same h,get_put_same (to0_srt h)];rfl
 · rw[get_put_other h _ e,get_put_other (to0_srt h) _ e,to0_get]
theorem to0_del {D:VM PD} (h:Srt D) (k:S):to0 (del D k)=del (to0 D) k:=by
 refine (to0_srt (h.del k)).get_ext ((to0_srt h).del k) fun n => ?_
 rw[to0_get]
 by_cases e:n=k
 · subst e;rw[get_del_same,get_del_same];rfl
 · rw[get_del_other h e,get_del_other (to0_srt h) e,to0_get]
theorem to0_woke (D:VM PD) (K:VM (List S)):to0 (wokeW D K)=to0 D:=by
 unfold to0 wokeW
 rw[List.map_map]
 refine List.map_congr_left fun p _ => ?_
 simp only[Function.comp_apply]
 split<;>rfl
theorem wokeW_srt {D:VM PD} (h:Srt D) (K:VM (List S)):Srt (wokeW D K):=h.mapk (fun (k:S) (d:PD)=>if has K k=true∧d.status=2 then d.to 3 else d)
theorem wokeW_len (D:VM PD) (K:VM (List S)):(wokeW D K).length=D.length:=by simp[wokeW]
theorem wokeW_get (D:VM PD) (K:VM (List S)) (k:S):get (wokeW D K) k=(get D k).map fun d=>if has K k=true∧d.status=2 then d.to 3 else d :=
 get_mapk (fun (k:S) (d:PD)=>if has K k=true∧d.status=2 then d.to 3 else d) k D
theorem findD_to0 (D:VM PD) (G:VM S) (path:S):findD (to0 D) G path=findD D G path:=by
 unfold findD to0
 split
 · rfl
 · rw[← List.map_reverse,List.findSome?_map]
   rfl
theorem findD_alike {D D':VM PD} (h:to0 D=to0 D') (G:VM S) (path:S):findD D G path=findD D' G path:=by
 rw[← findD_to0,h,findD_to0]
theorem doC_alike {D D':VM PD} (h:to0 D=to0 D') (wk:List S) (G:VM S) (c:Cmd):doC D wk G c=doC D' wk G c:=by
 unfold doC
 rw[findD_alike h]
theorem runC_alike {D D':VM PD} (h:to0 D=to0 D') (wk:List S) (G:VM S) (cs:List Cmd):runC D wk G cs=runC D' wk G cs:=by
 unfold runC
 congr 1
 funext G' c
 exact doC_alike h wk G' c
theorem get_alike {D D':VM PD} (h:to0 D=to0 D') (k:S):(get D k=none∧get D' k=none) ∨ ∃ d d',get D k=some d∧get D' k=some d'∧d.to 0=d'.to 0:=by
 have e:(get D k).map (fun d=>d.to 0)=(get D' k).map (fun d=>d.to 0):=by rw[← to0_get,← to0_get,h]
 cases q:get D k with
 | none =>
   rw[q] at e
   cases q':get D' k with
   | none=>exact .inl ⟨rfl,rfl⟩
   | some d'=>rw[q'] at e;cases e
 | some d =>
   rw[q] at e
   cases q':get D' k with
   | none=>rw[q'] at e;cases e
   | some d'=>rw[q'] at e;exact .inr ⟨d,d',rfl,rfl,by simpa using e⟩
theorem step_alike (pl:Plan) {D D':VM PD} (sD:Srt D) (sD':Srt D') (h:to0 D=to0 D') (G:VM S) (s:Step):to0 (stepD pl (D,G) s).1=to0 (stepD pl (D',G) s).1∧(stepD pl (D,G) s).2=(stepD pl (D',G) s).2:=by
 unfold stepD
 split
 · exact ⟨by simp only[to0_del sD,to0_del sD',h],rfl⟩
 · split
   · split
     · exact ⟨by simp only[to0_put sD,to0_put sD',h],rfl⟩
     · exact ⟨h,rfl⟩
   · rcases get_alike h s.2 with ⟨q,q'⟩ | ⟨d,d',q,q',e⟩
     · simp only[q,q'];exact ⟨h,trivial⟩
     · have est:d.st=d'.st:=(show (d.to 0).st=(d'.to 0).st by rw[e])
       have e2:∀ x:Int,(d.to x).to 0=(d'.to x).to 0:=fun _=>e
       simp only[q,q']
       split
       · exact ⟨by simp only[to0_put sD,to0_put sD',h,e2],by simp only[est,runC_alike h]⟩
       · split
         · exact ⟨by simp only[to0_put sD,to0_put sD',h,e2],by simp only[est,runC_alike h]⟩
         · exact ⟨h,rfl⟩
theorem run_alike (pl:Plan):∀ (ss:List Step) {D D':VM PD} {G:VM S},Srt D→Srt D'→Srt G→to0 D=to0 D'→to0 (runS pl (D,G) ss).1=to0 (runS pl (D',G) ss).1∧(runS pl (D,G) ss).2=(runS pl (D',G) ss).2
 | [],_,_,_,_,_,_,h=>⟨h,rfl⟩
 | s::ss,D,D',G,sD,sD',sG,h=>by
   obtain ⟨a,b⟩:=step_alike pl sD sD' h G s
   obtain ⟨u1,u2⟩:=stepD_srt pl (m:=(D,G)) sD sG s
   obtain ⟨v1,_⟩:=stepD_srt pl (m:=(D',G)) sD' sG s
   have ih:=run_alike pl ss (D:=(stepD pl (D,G) s).1) (D':=(stepD pl (D',G) s).1) (G:=(stepD pl (D,G) s).2) u1 v1 u2 a
   rw[show ((stepD pl (D',G) s).1,(stepD pl (D,G) s).2)=stepD pl (D',G) s by rw[b]] at ih
   exact ih
theorem over_alike (pl:Plan):∀ (ss:List Step) {D D':VM PD} {G:VM S},Srt D→Srt D'→Srt G→to0 D=to0 D'→overD pl (D,G) ss=overD pl (D',G) ss
 | [],_,_,_,_,_,_,_=>rfl
 | s::ss,D,D',G,sD,sD',sG,h=>by
   obtain ⟨a,b⟩:=step_alike pl sD sD' h G s
   obtain ⟨u1,u2⟩:=stepD_srt pl (m:=(D,G)) sD sG s
   obtain ⟨v1,_⟩:=stepD_srt pl (m:=(D',G)) sD' sG s
   have ih:=over_alike pl ss (D:=(stepD pl (D,G) s).1) (D':=(stepD pl (D',G) s).1) (G:=(stepD pl (D,G) s).2) u1 v1 u2 a
   rw[show ((stepD pl (D',G) s).1,(stepD pl (D,G) s).2)=stepD pl (D',G) s by rw[b]] at ih
   show (!fitsG (stepD pl (D,G) s).2||overD pl (stepD pl (D,G) s) ss)=(!fitsG (stepD pl (D',G) s).2||overD pl (stepD pl (D',G) s) ss)
   rw[b,← ih]
end Hv
namespace Hv
theorem put_id {α:Type} {D:VM α} (h:Srt D) {k:S} {d:α} (q:get D k=some d):put D k d=D:=(h.put k d).get_ext h fun n=>by
 by_cases e:n=k
 · subst e;rw[get_put_same h,q]
 · rw[get_put_other h _ e]
theorem gone_get (pl:Plan):∀ (l:List S) {m:Mac},Srt m.1→Srt m.2→∀ k,get (runS pl m (l.map fun x=>(1,x))).1 k=if k∈l then none else get m.1 k
 | [],m,_,_,k=>by simp[runS]
 | x::l,m,h1,h2,k=>by
   have e:runS pl m ((x::l).map fun x=>(1,x))=runS pl (del m.1 x,m.2) (l.map fun x=>(1,x)):=rfl
   rw[e,gone_get pl l (m:=(del m.1 x,m.2)) (h1.del x) h2 k]
   by_cases q:k=x
   · subst q;simp[get_del_same]
   · simp[q,get_del_other h1 q]
theorem unpack_get (pl:Plan):∀ (l:List S) {m:Mac},Srt m.1→Srt m.2→(∀ x∈l,has pl.ins x=true)→∀ k,get (runS pl m (l.map fun x=>(2,x))).1 k=if k∈l then get pl.ins k else get m.1 k
 | [],m,_,_,_,k=>by simp[runS]
 | x::l,m,h1,h2,hl,k=>by
   have hx:=hl x (by simp)
   rw[has_get] at hx
   obtain ⟨d,hd⟩:=Option.isSome_iff_exists.1 hx
   have e:runS pl m ((x::l).map fun x=>(2,x))=runS pl (put m.1 x d,m.2) (l.map fun x=>(2,x)):=by
     show runS pl (stepD pl m (2,x)) _=_
     simp[stepD,hd]
   rw[e,unpack_get pl l (m:=(put m.1 x d,m.2)) (h1.put x d) h2 (fun y hy=>hl y (by simp[hy])) k]
   by_cases q:k=x
   · subst q;simp[get_put_same h1,hd]
   · simp[q,get_put_other h1 _ q]
theorem late_to0 (pl:Plan) {m:Mac} (h1:Srt m.1) {s:Step} (hs:s.1=3∨s.1=4):to0 (stepD pl m s).1=to0 m.1:=by
 have key:∀ d x,get m.1 s.2=some d→to0 (put m.1 s.2 (d.to x))=to0 m.1:=fun d x q=>by
   rw[to0_put h1]
   exact put_id (to0_srt h1) (by rw[to0_get,q];rfl)
 unfold stepD
 rw[if_neg (by omega),if_neg (by omega)]
 split
 · rfl
 next d hd =>
   split
   · exact key d _ hd
   · split
     · exact key d _ hd
     · rfl
theorem lates_to0 (pl:Plan):∀ (ss:List Step) {m:Mac},Srt m.1→Srt m.2→(∀ s∈ss,s.1=3∨s.1=4)→to0 (runS pl m ss).1=to0 m.1
 | [],_,_,_,_=>rfl
 | s::ss,m,h1,h2,hs=>by
   obtain ⟨a,b⟩:=stepD_srt pl h1 h2 s
   have e:runS pl m (s::ss)=runS pl (stepD pl m s) ss:=rfl
   rw[e,lates_to0 pl ss a b (fun t ht=>hs t (by simp[ht])),late_to0 pl h1 (hs s (by simp))]
theorem run_end {D D':VM PD} {G:VM S} {R:VM Value} {I:VM PD} (sD:Srt D) (sD':Srt D') (sG:Srt G) (sI:Srt I) (h:to0 D'=to0 D):to0 (runS (planD D R I) (D',G) (planD D R I).steps).1=to0 (toBeD D R I):=by
 rw[(run_alike (planD D R I) (planD D R I).steps sD' sD sG h).1]
 obtain ⟨pl,hpl⟩:∃ pl,planD D R I=pl:=⟨_,rfl⟩
 have e:pl.steps=((order freeB (leaveD D R)).map (fun x=>(1,x))++(order freeA I).map (fun x=>(2,x)))++((order freeA I).map (fun x=>(3,x))++(keysOf (wakeD (toBeD D R I) (keysOf (changedQ D R I)))).map (fun x=>(4,x))):=by
   rw[← hpl,← List.append_assoc];rfl
 have ei:pl.ins=I:=by rw[← hpl];rfl
 have e3:∀ A B C:List Step,runS pl (D,G) ((A++B)++C)=runS pl (runS pl (runS pl (D,G) A) B) C:=fun A B C=>by simp only[runS,List.foldl_append]
 rw[hpl,e,e3]
 obtain ⟨a1,a2⟩:=runS_srt pl ((order freeB (leaveD D R)).map (fun x=>(1,x))) (m:=(D,G)) sD sG
 obtain ⟨b1,b2⟩:=runS_srt pl ((order freeA I).map (fun x=>(2,x))) a1 a2
 rw[lates_to0 pl _ b1 b2 (fun s hs=>by
   simp only[List.mem_append,List.mem_map] at hs
   rcases hs with ⟨x,_,rfl⟩ | ⟨x,_,rfl⟩
   · exact .inl rfl
   · exact .inr rfl)]
 congr 1
 refine b1.get_ext (merge_srt I (cut D R) (cut_srt R D sD)) fun k => ?_
 rw[unpack_get pl _ a1 a2 (fun x hx=>by rw[ei];exact (order_mem freeA sI x).1 hx),gone_get pl _ (m:=(D,G)) sD sG,ei]
 rw[show get (toBeD D R I) k=(get I k).orElse (fun _=>if has R k=true then none else get D k) from (merge_get I (cut D R) (cut_srt R D sD) sI k).trans (by rw[cut_get R D sD])]
 show (if k∈order freeA I then get I k else if k∈order freeB (leaveD D R) then none else get D k)=_
 have m1:=order_mem freeA sI k
 have m2:=order_mem freeB (leaveD_srt sD R) k
 rw[has_get,leaveD_get sD] at m2
 rw[has_get] at m1
 cases q:get I k with
 | some d =>
   rw[q] at m1
   rw[if_pos (m1.2 rfl)]
   rfl
 | none =>
   rw[q] at m1
   rw[if_neg (fun x=>by have:=m1.1 x;cases this)]
   simp only[Option.orElse_none]
   by_cases r:has R k=true
   · rw[if_pos r] at m2 ⊢
     cases q2:get D k with
     | none=>simp
     | some d=>rw[q2] at m2;rw[if_pos (m2.2 rfl)]
   · rw[if_neg r] at m2 ⊢
     rw[if_neg (fun x=>by have:=m2.1 x;cases this)]
theorem run_end_len {D D':VM PD} {G:VM S} {R:VM Value} {I:VM PD} (sD:Srt D) (sD':Srt D') (sG:Srt G) (sI:Srt I) (h:to0 D'=to0 D):(runS (planD D R I) (D',G) (planD D R I).steps).1.length=(toBeD D R I).length:=by
 have:=congrArg List.length (run_end (R:=R) sD sD' sG sI h)
 simpa [to0] using this
end Hv
namespace Hv
theorem check_ok {n:Int} {D:VM PD} {G:VM S} {xs:List S} {pl:Plan} (h:check n D G xs = .ok pl):∃ s,wish xs = .ok s∧refuseI D s.R s.I=0∧planD D s.R s.I=pl∧overD pl (D,G) pl.steps=false∧smallB n D xs=false:=by
 unfold check at h
 split at h
 · cases h
 next s hs =>
   split at h
   · cases h
   next h1 =>
     split at h
     · cases h
     next h2 =>
       split at h
       · cases h
       next h3 =>
         cases h
         exact ⟨s,hs,by simpa using h1,rfl,by simpa using h2,by simpa using h3⟩
def GK (G:VM S):Prop:=∀ k x,get G k=some x→k.length≤24
theorem GK.put {G:VM S} (h:GK G) (hs:Srt G) {k:S} (hk:k.length≤24) (x:S):GK (put G k x):=fun k' x' q=>by
 by_cases e:k'=k
 · subst e;exact hk
 · rw[get_put_other hs _ e] at q;exact h k' x' q
theorem GK.del {G:VM S} (h:GK G) (hs:Srt G) (k:S):GK (del G k):=fun k' x' q=>by
 by_cases e:k'=k
 · subst e;rw[get_del_same] at q;cases q
 · rw[get_del_other hs e] at q;exact h k' x' q
theorem GK.doC {G:VM S} (h:GK G) (hs:Srt G) (D:VM PD) (wk:List S) {c:Cmd} (hc:CmdGood c):GK (doC D wk G c):=by
 have hp:=(cmd_len hc).1
 unfold Hv.doC
 repeat' split
 all_goals first | exact h.put hs hp _ | exact h.del hs _ | exact h
theorem GK.runC (D:VM PD) (wk:List S):∀ (cs:List Cmd) {G:VM S},GK G→Srt G→(∀ c∈cs,CmdGood c)→GK (runC D wk G cs)
 | [],_,h,_,_=>h
 | c::cs,_,h,hs,hc=>GK.runC D wk cs (h.doC hs D wk (hc c (by simp))) (doC_srt D wk hs c) (fun c' h'=>hc c' (by simp[h']))
theorem GK.step {pl:Plan} {m:Mac} (h:GK m.2) (hs:Srt m.2) (hf:DFine m.1) (s:Step):GK (stepD pl m s).2:=by
 unfold stepD
 split
 · exact h
 · split
   · split<;>exact h
   · split
     · exact h
     next d hd =>
       have hgd:=(parse_good (hf.at_ hd).2.1).2.2
       split
       · exact GK.runC _ _ _ h hs (fun c hc=>(hgd.runs c hc).1)
       · split
         · exact GK.runC _ _ _ h hs (fun c hc=>hgd.wokens c hc)
         · exact h
theorem way {pl:Plan} {D:VM PD} {G:VM S} (sD:Srt D) (sG:Srt G) (hD:DFine D) (hI:DFine pl.ins) (hG:GK G):∀ k,k≤pl.steps.length→DFine (runS pl (D,G) (pl.steps.take k)).1∧GK (runS pl (D,G) (pl.steps.take k)).2∧(runS pl (D,G) (pl.steps.take k)).1.length≤D.length+k
 | 0,_=>⟨by simpa [runS] using hD,by simpa [runS] using hG,by simp[runS]⟩
 | k+1,hk=>by
   obtain ⟨a,b,c⟩:=way sD sG hD hI hG k (by omega)
   obtain ⟨s1,s2⟩:=runS_srt pl (pl.steps.take k) (m:=(D,G)) sD sG
   rw[take_run pl (D,G) (by omega)]
   have:=step_len pl (runS pl (D,G) (pl.steps.take k)) (pl.steps[k]'(by omega))
   exact ⟨a.step hI s1 _,b.step s2 a _,by omega⟩
theorem over_fits (pl:Plan):∀ (ss:List Step) (m:Mac),overD pl m ss=false→∀ k,1≤k→k≤ss.length→fitsG (runS pl m (ss.take k)).2=true
 | [],_,_,k,h1,h2=>by simp at h2;omega
 | s::ss,m,h,k,h1,h2=>by
   have h':(!fitsG (stepD pl m s).2||overD pl (stepD pl m s) ss)=false:=h
   rw[Bool.or_eq_false_iff] at h'
   obtain ⟨j,rfl⟩:∃ j,k=j+1:=⟨k-1,by omega⟩
   have e:runS pl m ((s::ss).take (j+1))=runS pl (stepD pl m s) (ss.take j):=rfl
   rw[e]
   by_cases hj:j=0
   · subst hj
     simpa [runS] using h'.1
   · exact over_fits pl ss _ h'.2 j (by omega) (by simp at h2;omega)
theorem ok_alike (pl:Plan):∀ (ss:List Step) {D D':VM PD} {G:VM S},Srt D→Srt D'→Srt G→to0 D=to0 D'→RunOk pl (D,G) ss→RunOk pl (D',G) ss
 | [],_,_,_,_,_,_,_,_=>trivial
 | s::ss,D,D',G,sD,sD',sG,h,⟨q1,q2⟩=>by
   obtain ⟨a,b⟩:=step_alike pl sD sD' h G s
   obtain ⟨u1,u2⟩:=stepD_srt pl (m:=(D,G)) sD sG s
   obtain ⟨v1,_⟩:=stepD_srt pl (m:=(D',G)) sD' sG s
   have hh:∀ k,has D k=has D' k:=fun k=>by
     rw[has_get,has_get]
     rcases get_alike h k with ⟨x,y⟩ | ⟨d,d',x,y,_⟩
     · rw[x,y]
     · rw[x,y];rfl
   have ih:=ok_alike pl ss (D:=(stepD pl (D,G) s).1) (D':=(stepD pl (D',G) s).1) (G:=(stepD pl (D,G) s).2) u1 v1 u2 a q2
   rw[show ((stepD pl (D',G) s).1,(stepD pl (D,G) s).2)=stepD pl (D',G) s by rw[b]] at ih
   refine ⟨?_,ih⟩
   rcases q1 with q | q | ⟨q,q'⟩
   · exact .inl q
   · exact .inr (.inl q)
   · exact .inr (.inr ⟨q,by rw[← hh];exact q'⟩)
theorem sumT_alike {D D':VM PD} (h:to0 D=to0 D'):sumT D=sumT D':=by
 have e:∀ E:VM PD,sumT (to0 E)=sumT E:=fun E=>by
   unfold sumT to0
   rw[List.map_map]
   rfl
 rw[← e D,h,e]
theorem DFine_woke {D:VM PD} (h:DFine D) (K:VM (List S)):DFine (wokeW D K):=by
 have key:∀ k d,get (wokeW D K) k=some d→∃ d0 x,get D k=some d0∧(d=d0∨d=d0.to x):=fun k d q=>by
   rw[wokeW_get] at q
   cases q2:get D k with
   | none=>rw[q2] at q;cases q
   | some d0 =>
     rw[q2] at q
     simp only[Option.map_some,Option.some.injEq] at q
     split at q
     · exact ⟨d0,3,rfl, .inr q.symm⟩
     · exact ⟨d0,3,rfl, .inl q.symm⟩
 refine ⟨fun k d q => ?_,h.copies.imp id fun f k d q => ?_⟩
 · obtain ⟨d0,x,q0,rfl | rfl⟩:=key k d q
   · exact h.named k _ q0
   · exact ⟨(h.named k d0 q0).1,(h.named k d0 q0).2⟩
 · obtain ⟨d0,x,q0,rfl | rfl⟩:=key k d q
   · exact f k _ q0
   · exact ⟨(f k d0 q0).1,(f k d0 q0).2⟩
end Hv
namespace Hv
theorem wfold_len:∀ (xs:List S) {s s':WS},wfold xs s=some s'→s'.I.length≤s.I.length+xs.length∧s'.R.length≤s.R.length+xs.length
 | [],s,s',h=>by rw[wfold] at h;cases h;simp
 | x::xs,s,s',h=>by
   rw[wfold] at h
   split at h
   · cases h
   next i hi =>
     obtain ⟨a,b⟩:=wfold_len xs h
     have key:(wstep s i).I.length≤s.I.length+1∧(wstep s i).R.length≤s.R.length+1:=by
       cases i with
       | inl nm=>exact ⟨Nat.le_succ _,put_len _ _ _⟩
       | inr it=>obtain ⟨t,nm,ve,st⟩:=it;exact ⟨put_len _ _ _,Nat.le_succ _⟩
     simp only[List.length_cons]
     omega
theorem wish_len {xs:List S} {s:WS} (h:wish xs = .ok s):s.I.length≤6∧s.R.length≤6:=by
 unfold wish at h
 split at h
 · cases h
 next hx =>
   split at h
   · cases h
   next s1 h1 =>
     split at h
     · cases h
     · cases h
       have:=wfold_len xs h1
       simp only[List.length_nil] at this
       omega
theorem rec_room {n:Nat} {D:VM PD} {xs:List S} (hn:n≤4096) (h:smallB n D xs=false):sumT D+(xs.map List.length).sum+4682≤(n-1) / 2*256:=by
 unfold smallB sizeN at h
 rw[sumT_V] at h
 simp only[decide_eq_false_iff_not] at h
 omega
theorem named_text {D:VM PD} (h:Named D) (hs:Srt D):∀ p∈D,p.2.text.length≤2000:=fun p hp=>(parse_files (h p.1 p.2 ((get_some hs).2 hp)).2).1
theorem rec_fine {n:Nat} {D:VM PD} {G:VM S} {xs:List S} {T:Nat} (sD:Srt D) (sG:Srt G) (hl:D.length≤12) (hD:Named D) (hG:G.length≤16) (hS:Short 200 G) (hK:GK G) (hx:xs.length≤6∧∀ x∈xs,x.length≤100000) (hT:sumT D+(xs.map List.length).sum≤T) (hr:T+4682≤(n-1) / 2*256):RecFine n (D,G) xs:=by
 have h4:∀ f∈G,f.1.length≤24∧f.2.length≤200:=fun f hf=>⟨hK f.1 f.2 ((get_some sG).2 hf),hS f.1 f.2 ((get_some sG).2 hf)⟩
 have ht:=named_text hD sD
 have hrl:=rec_len D G xs ht hl h4 hG (fun x q=>by have:=hx.2 x q;omega) hx.1
 exact ⟨hl,hD,hG,h4,fun x q=>by obtain ⟨p,hp,rfl⟩:=List.mem_map.1 q;exact ht p hp,hx,by show (recS D G xs).length≤_;omega⟩
theorem run_good {n:Nat} {D:VM PD} {G:VM S} {xs:List S} {pl:Plan} (hn:n≤4096) (sD:Srt D) (sG:Srt G) (hD:DFine D) (hDl:D.length≤12) (hG:G.length≤16) (hS:Short 200 G) (hK:GK G) (hxs:∀ x∈xs,x.length≤100000) (hcp:FindC ∨ ∀ s,wish xs = .ok s→∀ k d,get s.I k=some d→NoCopy d.st.runs∧NoCopy d.st.wokens) (hck:check n D G xs = .ok pl):RunGood n pl (wokeW D pl.wak,G)∧RecFine n (D,G) xs:=by
 obtain ⟨s,hw,hr,hpl,ho,hb⟩:=check_ok hck
 obtain ⟨g1,g2,g3,g4,g5⟩:=wish_good hw
 obtain ⟨l1,l2⟩:=wish_len hw
 have hroom:=rec_room hn hb
 have hIF:DFine pl.ins:=by rw[← hpl];exact ⟨g1,hcp.imp id (fun f=>f s hw)⟩
 have hlen:pl.steps.length≤200:=by have:=planD_len D s.R s.I;rw[hpl] at this;omega
 have hok:RunOk pl (D,G) pl.steps:=by have:=planD_ok (R:=s.R) sD sG g2;rwa [hpl] at this
 have hks:∀ t∈pl.steps,t.2.length≤12:=by have:=planD_names (R:=s.R) hD.named g1 sD g2;rwa [hpl] at this
 have hwf:WakFine 30000 pl.wak:=by have:=planD_wak (R:=s.R) hD.named g1 sD g2 (by omega) (by omega);rwa [hpl] at this
 have t0:=to0_woke D pl.wak
 have sW:=wokeW_srt sD pl.wak
 have hW:=DFine_woke hD pl.wak
 have hov:overD pl (wokeW D pl.wak,G) pl.steps=false:=by rw[← ho];exact over_alike pl pl.steps sW sD sG t0
 have hwy:=way sW sG hW hIF hK
 have hsr:=fun k=>runS_srt pl (pl.steps.take k) (m:=(wokeW D pl.wak,G)) sW sG
 have hft:∀ k,k≤pl.steps.length→(runS pl (wokeW D pl.wak,G) (pl.steps.take k)).2.length≤16∧Short 200 (runS pl (wokeW D pl.wak,G) (pl.steps.take k)).2:=fun k hk=>by
   by_cases h0:k=0
   · subst h0;simpa [runS] using ⟨hG,hS⟩
   · exact fitsG_short (hsr k).2 (over_fits pl pl.steps _ hov k (by omega) hk)
 refine ⟨⟨ok_alike pl pl.steps sD sW sG t0.symm hok,hks,hlen,fun k hk => ?_,hwf,?_⟩,rec_fine sD sG hDl hD.named hG hS hK ⟨g5,hxs⟩ (Nat.le_refl _) hroom⟩
 · obtain ⟨a,b,c⟩:=hwy k (by omega)
   obtain ⟨d,e⟩:=hft k (by omega)
   have:=wokeW_len D pl.wak
   exact ⟨by omega,by omega,e,a.bound (hsr k).1⟩
 · obtain ⟨a,b,c⟩:=hwy pl.steps.length (Nat.le_refl _)
   obtain ⟨d,e⟩:=hft pl.steps.length (Nat.le_refl _)
   obtain ⟨s1,s2⟩:=hsr pl.steps.length
   have hend:=run_end_len (R:=s.R) sD sW sG g2 t0
   have hsum:sumT (runS pl (wokeW D pl.wak,G) pl.steps).1≤sumT (wokeW D pl.wak)+(pl.steps.map (addS pl)).sum:=run_sum pl pl.steps (m:=(wokeW D pl.wak,G)) sW sG
   have hps:=planD_sum (D:=D) (R:=s.R) g2
   rw[hpl] at hend hps
   rw[List.take_length] at a b c d e s1 s2
   have h12:=(refuse_absent D s.R s.I hr).2
   have hsw:=sumT_alike t0
   have hl9:(runS pl (wokeW D pl.wak,G) pl.steps).1.length≤12:=by rw[hend];exact h12
   exact rec_fine (D:=(runS pl (wokeW D pl.wak,G) pl.steps).1) (G:=(runS pl (wokeW D pl.wak,G) pl.steps).2) s1 s2 hl9 a.named d e b ⟨by simp,by simp⟩ (T:=sumT D+(xs.map List.length).sum) (by simp only[List.map_nil,List.sum_nil];omega) hroom
end Hv
end
section
open Go.RowKit
open Arc (St Cmd)
open Hv (S Dk VM)
theorem PlanIn.weak {M M':Nat→Prop} {pl:Hv.Plan} {sv:Value} {im km:Nat} {w:World} (h:PlanIn M pl sv im km w) (hn:∀ g,M g→M' g):PlanIn M' pl sv im km w:=by
 obtain ⟨I,i1,i2⟩:=h.ins
 obtain ⟨K,k1,k2⟩:=h.wak
 exact ⟨h.row,fun g hg=>hn g (h.rowM g hg),⟨I,i1,i2.weak hn⟩,⟨K,k1,k2.weak hn⟩,⟨hn _ h.ge.1,hn _ h.ge.2⟩⟩
theorem plan_way {w1 w3:World} {A X:Nat} {pl:Hv.Plan} {sv:Value} {im km:Nat} (hp:PlanAt X pl sv im km w3) (hA:A<X) (hAs:w1.heap.size≤A) (hb:Below w1.heap.size w1 w3) (hr:w3.heap[A]? = some (.cells #[.slice none 0 0, .map none, .map none] 89 (0,0))) (a b c:Value) :
   ∃ z,(((w3.setCell ⟨A,0,none⟩ a).setCell ⟨A,1,none⟩ b).setCell ⟨A,2,none⟩ c).heap[A]? = some (.cells #[a,b,c] 89 (0,0))∧PlanIn (fun g=>w1.heap.size≤g∧g<z) pl sv im km (((w3.setCell ⟨A,0,none⟩ a).setCell ⟨A,1,none⟩ b).setCell ⟨A,2,none⟩ c)∧Below w1.heap.size w1 (((w3.setCell ⟨A,0,none⟩ a).setCell ⟨A,1,none⟩ b).setCell ⟨A,2,none⟩ c)∧z≤(((w3.setCell ⟨A,0,none⟩ a).setCell ⟨A,1,none⟩ b).setCell ⟨A,2,none⟩ c).heap.size:=by
 have hf:=(((Far.refl w3.heap.size (fun q=>q=A) w3).setCell (p:=⟨A,0,none⟩) (.inr rfl) a).setCell (p:=⟨A,1,none⟩) (.inr rfl) b).setCell (p:=⟨A,2,none⟩) (.inr rfl) c
 exact ⟨w3.heap.size,heap_setCell_same _ _ 2 _ _ _ (heap_setCell_same _ _ 1 _ _ _ (heap_setCell_same _ _ 0 _ _ _ hr)),(hp.inside.far hf (Nat.le_refl _) (fun g hg (q:g=A)=>by omega)).weak (fun g hg=>⟨by omega,hg.2⟩),((hb.setCell (p:=⟨A,0,none⟩) hAs a).setCell (p:=⟨A,1,none⟩) hAs b).setCell (p:=⟨A,2,none⟩) hAs c,hf.size⟩
theorem plan_way1 {w1 w3:World} {X:Nat} {pl:Hv.Plan} {sv:Value} {im km:Nat} (hp:PlanAt X pl sv im km w3) (hX:w1.heap.size≤X) (hb:Below w1.heap.size w1 w3) (a b c:Value) :
   ∃ z,(w3.alloc (.cells #[a,b,c] 89)).heap[w3.heap.size]? = some (.cells #[a,b,c] 89 (0,0))∧PlanIn (fun g=>w1.heap.size≤g∧g<z) pl sv im km (w3.alloc (.cells #[a,b,c] 89))∧Below w1.heap.size w1 (w3.alloc (.cells #[a,b,c] 89))∧z≤(w3.alloc (.cells #[a,b,c] 89)).heap.size :=
 ⟨w3.heap.size,heap_alloc_new w3 _,(hp.inside.below ((Below.refl w3.heap.size w3).alloc (Nat.le_refl _) _)).weak (fun g hg=>⟨by omega,hg.2⟩),hb.alloc hb.size _,by simp⟩
end
end Go.Proofs.YtialenebfcnkkaaGreatDoor
namespace Go.Proofs
abbrev Tryz.muLink:Go.Conc.Locks.MuLink:={ lock:=17,unlock:=18,ilock:=29,iunlock:=30,lockSlow:=60,unlockSlow:=63,disable:=56,enable:=58,acquire:=59,relMerge:=61,cas32:=57,add32:=62,tMutex:=59,tIMutex:=57,tPMutex:=83,tPIMutex:=126,tPI32:=128,tUP:=130,tNoCopy:=54,tU32:=55 }
theorem Tryz.muLib:Go.Conc.Locks.MuLib Tryz.prog Tryz.muLink :=
 ⟨Tryz.func17,Tryz.func18,Tryz.func29,Tryz.func30,Tryz.func56,Tryz.func58,Tryz.func59,Tryz.func61,Tryz.func57,Tryz.func62,Tryz.underlying57,Tryz.runUnderlying57,Tryz.sizeOf57,Tryz.isAgg57,Tryz.zeroValue57,Tryz.underlying59,Tryz.runUnderlying59,Tryz.sizeOf59,Tryz.isAgg59,Tryz.zeroValue59,Tryz.underlying83,Tryz.runUnderlying83,Tryz.sizeOf83,Tryz.isAgg83,Tryz.zeroValue83,Tryz.underlying126,Tryz.runUnderlying126,Tryz.sizeOf126,Tryz.isAgg126,Tryz.zeroValue126,Tryz.underlying128,Tryz.runUnderlying128,Tryz.sizeOf128,Tryz.isAgg128,Tryz.zeroValue128,Tryz.underlying130,Tryz.runUnderlying130,Tryz.sizeOf130,Tryz.isAgg130,Tryz.zeroValue130,Tryz.underlying54,Tryz.runUnderlying54,Tryz.sizeOf54,Tryz.isAgg54,Tryz.zeroValue54,Tryz.underlying21,Tryz.runUnderlying21,Tryz.sizeOf21,Tryz.isAgg21,Tryz.zeroValue21,(by kernel_rfl)⟩
end Go.Proofs
namespace Go.Proofs.YtialenebfcnkkaaGreatDoor
section
open Go.RowKit
open Go.MuLone
open Arc (St Cmd)
open Hv (S Dk VM)
structure HostS (C N:Nat→Prop) (hb eb sb mb pm fm db n a b c:Nat) (h:S) (d:Dk) (P:VM Value) (D:VM Hv.PD) (G:VM S) (w:World):Prop where
 blk:w.heap[hb]? = some (.cells #[.int .i32 0, .int .u32 0, .pointer (some ⟨eb,0,none⟩)] 62 (0,0))
 eng:EngS C N eb sb mb pm fm db n a b c h d P D G (.slice none 0 0) (.map none) (.map none) 0 w
 off : ¬ C hb ∧ ¬ N hb∧hb≠eb∧hb≠sb∧hb≠mb∧hb≠pm∧hb≠fm
 low:12≤hb
theorem HostS.below {C N:Nat→Prop} {hb eb sb mb pm fm db n a b c:Nat} {h:S} {d:Dk} {P:VM Value} {D:VM Hv.PD} {G:VM S} {w w':World} (e:HostS C N hb eb sb mb pm fm db n a b c h d P D G w) (q:Below w.heap.size w w'):HostS C N hb eb sb mb pm fm db n a b c h d P D G w' :=
 ⟨(q.block hb (blt e.blk)).trans e.blk,e.eng.below q,e.off,e.low⟩
theorem EngS.aside {C N:Nat→Prop} {eb sb mb pm fm db n a b c dn:Nat} {h:S} {d:Dk} {P:VM Value} {D:VM Hv.PD} {G:VM S} {sv im km:Value} {w w':World} {hb:Nat} (e:EngS C N eb sb mb pm fm db n a b c h d P D G sv im km dn w) (ho : ¬ C hb ∧ ¬ N hb∧hb≠eb∧hb≠sb∧hb≠mb∧hb≠pm∧hb≠fm) (hl:12≤hb) (hf:Far w.heap.size (fun q=>q=hb) w w'):EngS C N eb sb mb pm fm db n a b c h d P D G sv im km dn w':=by
 obtain ⟨o1,o2,o3,o4,o5,o6,o7⟩:=ho
 refine ⟨e.eng.kept (hf.block eb (blt e.eng) (fun q=>o3 q.symm)),e.st.far hf (Nat.le_refl _) (fun q=>o4 q.symm),e.mach.far hf (Nat.le_refl _) ⟨fun q=>o5 q.symm,fun q=>o6 q.symm,fun q=>o7 q.symm⟩,e.pk.far hf (Nat.le_refl _) (fun g _ hg (q:g=hb)=>o2 (q▸hg)),e.dk.far hf (Nat.le_refl _) (fun k hk (q:k=hb)=>o1 (q▸hk)),e.off,e.apart,fun g hg=>⟨Nat.lt_of_lt_of_le (e.rows g hg).1 hf.size,(e.rows g hg).2⟩,e.base.far hf e.base.size (fun k (q:k=hb)=>by rw[q];exact hl),e.low⟩
theorem settle_nil (hb:Nat) (w:World) :
   Calls Tryz.prog 20 #[.pointer (some ⟨hb,0,none⟩), .nilIface] w fun e w'=>e = .returned (.int .i64 0)∧Below w.heap.size w w':=by
 go_enter Tryz.func20,Tryz.ntmps20
 go_wp2_with fail
 refine (answer_nil w).mono ?_
 rintro e w1 ⟨rfl,hb1⟩
 have HB1:=hide hb1
 clear hb1
 go_wp2_with fail
 go_ret
 exact ⟨rfl,HB1.out⟩
end
end Go.Proofs.YtialenebfcnkkaaGreatDoor
