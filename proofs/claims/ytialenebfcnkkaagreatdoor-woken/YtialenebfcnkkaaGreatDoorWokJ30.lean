/- HavW3, HavW4, RunMath4, ItemMath, FineRef, ArcText, OrdSpec, VerRank, VerW10 -/
import Derived.Test.YtialenebfcnkkaaGreatDoorWokJ29
import Derived.Test.YtialenebfcnkkaaGreatDoorWokJ28
import Derived.Test.YtialenebfcnkkaaGreatDoorWokJ8
import Derived.Test.YtialenebfcnkkaaGreatDoorWokJ3
import Derived.Test.YtialenebfcnkkaaGreatDoorWokJ4
import Derived.Laws.IdiomStrings
set_option maxHeartbeats 4000000
set_option maxRecDepth 100000
namespace Go.Proofs.YtialenebfcnkkaaGreatDoor
section
open Go.RowKit
open Go.MuLone
open Arc (St Cmd)
open Hv (S Dk VM)
theorem hpacks_any {C N:Nat→Prop} (hb eb sb mb pm fm db n a b c:Nat) (h:S) (d:Dk) (P:VM Value) (D:VM Hv.PD) (G:VM S) (hDl:D.length≤12) (hDF:DFine D) (w:World) (he:HostS C N hb eb sb mb pm fm db n a b c h d P D G w) :
   Calls Tryz.prog 11 #[.pointer (some ⟨hb,0,none⟩)] w fun e w'=>∃ v,e = .returned v∧w'.ownsRow w.heap.size 41 3 v D.length (D.flatMap pkgV)∧HostS C N hb eb sb mb pm fm db n a b c h d P D G w'∧Far w.heap.size (fun q=>q=hb) w w':=by
 obtain ⟨l1,l2,l3⟩:=he.locked
 have h0:=(row_cell he.blk 0).trans (show _=some (.int .i32 0) from rfl)
 have f0:=row_free he.blk 0
 have HL2:=hide l2;have HL3:=hide l3;have HO:=hide he.off;have HLW:=hide he.low;have HBL:=hide (blt he.blk)
 have HEB:Hid (∀ w1,w1=w.setCell ⟨hb,0,none⟩ (.int .i32 1)→Calls Tryz.prog 21 #[.pointer (some ⟨eb,0,none⟩)] w1 fun e w'=>∃ v,e = .returned v∧w'.ownsRow w1.heap.size 41 3 v D.length (D.flatMap pkgV)∧Below w1.heap.size w1 w'):=hide (by
   rintro w1 rfl
   exact epacks_any eb sb mb pm fm db n a b c h d P D G _ _ _ 0 hDl hDF _ l2)
 clear hDF he
 have c2:=(row_cell l1 2).trans (show _=some (.pointer (some ⟨eb,0,none⟩)) from rfl)
 have HL1:=hide l1
 have hsz:(w.setCell ⟨hb,0,none⟩ (.int .i32 1)).heap.size=w.heap.size:=by simp
 have HSZ:=hide hsz
 clear l1 l2 l3 hsz
 go_enter_defers Tryz.func11,Tryz.ntmps11
 go_wp2_with (go_at_call 17;refine (lock_free Tryz.muLib ⟨hb,0,none⟩ _ h0 f0).mono ?_;rintro e w1 ⟨rfl,hw1⟩;have HW1:=hide hw1;rw[← hw1] at c2;clear hw1)
 refine (HEB.out w1 HW1.out).mono ?_
 rintro e w2 ⟨v,rfl,hr2,hb2⟩
 have HR:=hide hr2;have HB3:=hide hb2
 clear hr2 hb2 HEB
 go_wp2_with fail
 have hw1:=HW1.out
 have hs1:w1.heap.size=w.heap.size:=by rw[hw1];exact HSZ.out
 have hblt:=HBL.out
 have r1:w1.heap[hb]? = some (.cells #[.int .i32 1, .int .u32 0, .pointer (some ⟨eb,0,none⟩)] 62 (0,0)):=by rw[hw1];exact HL1.out
 have r3:=(HB3.out.block hb (blt r1)).trans r1
 have hE1:EngS C N eb sb mb pm fm db n a b c h d P D G (.slice none 0 0) (.map none) (.map none) 0 w1:=by rw[hw1];exact HL2.out
 have hE3:=hE1.below HB3.out
 have x0:=(row_cell r3 0).trans (show _=some (.int .i32 1) from rfl)
 have y0:=row_free r3 0
 refine leaves_cons (f:=18) (args := #[.pointer (some ⟨hb,0,none⟩)]) (by simp) (by simp[go_sem]) ?_
 refine (unlock_deferred Tryz.muLib ⟨hb,0,none⟩ .returning _ x0 y0).mono ?_
 rintro e u' w'' ⟨rfl,rfl,rfl⟩
 have hR:=HR.out
 rw[hs1] at hR
 refine ⟨_,results_tmp rfl _ _ _,v,rfl,own_away hR (fun e=>by have:=(hR.lt hb e).1;omega),HostS.free r3 hE3 HO.out HLW.out,?_⟩
 have hF1:Far w.heap.size (fun q=>q=hb) w w1:=by rw[hw1];exact HL3.out
 exact (hF1.below HB3.out hF1.size).setCell (p:=⟨hb,0,none⟩) (.inr rfl) _
theorem htree_any {C N:Nat→Prop} (hb eb sb mb pm fm db n a b c:Nat) (h:S) (d:Dk) (P:VM Value) (D:VM Hv.PD) (G:VM S) (hDl:D.length≤12) (hDF:DFine D) (hG:G.length≤16) (hK:Hv.GK G) (w:World) (he:HostS C N hb eb sb mb pm fm db n a b c h d P D G w) :
   Calls Tryz.prog 22 #[.pointer (some ⟨hb,0,none⟩)] w fun e w'=>∃ v,e = .returned v∧w'.ownsRow w.heap.size 71 2 v (Hv.treeD D G).length ((Hv.treeD D G).flatMap pairV)∧HostS C N hb eb sb mb pm fm db n a b c h d P D G w'∧Far w.heap.size (fun q=>q=hb) w w':=by
 obtain ⟨l1,l2,l3⟩:=he.locked
 have h0:=(row_cell he.blk 0).trans (show _=some (.int .i32 0) from rfl)
 have f0:=row_free he.blk 0
 have HL2:=hide l2;have HL3:=hide l3;have HO:=hide he.off;have HLW:=hide he.low;have HBL:=hide (blt he.blk)
 have HEB:Hid (∀ w1,w1=w.setCell ⟨hb,0,none⟩ (.int .i32 1)→Calls Tryz.prog 41 #[.pointer (some ⟨eb,0,none⟩)] w1 fun e w'=>∃ v,e = .returned v∧w'.ownsRow w1.heap.size 71 2 v (Hv.treeD D G).length ((Hv.treeD D G).flatMap pairV)∧Below w1.heap.size w1 w'):=hide (by
   rintro w1 rfl
   exact etree_any eb sb mb pm fm db n a b c h d P D G _ _ _ 0 hDl hDF hG hK _ l2)
 clear hDF he hK
 have c2:=(row_cell l1 2).trans (show _=some (.pointer (some ⟨eb,0,none⟩)) from rfl)
 have HL1:=hide l1
 have hsz:(w.setCell ⟨hb,0,none⟩ (.int .i32 1)).heap.size=w.heap.size:=by simp
 have HSZ:=hide hsz
 clear l1 l2 l3 hsz
 go_enter_defers Tryz.func22,Tryz.ntmps22
 go_wp2_with (go_at_call 17;refine (lock_free Tryz.muLib ⟨hb,0,none⟩ _ h0 f0).mono ?_;rintro e w1 ⟨rfl,hw1⟩;have HW1:=hide hw1;rw[← hw1] at c2;clear hw1)
 refine (HEB.out w1 HW1.out).mono ?_
 rintro e w2 ⟨v,rfl,hr2,hb2⟩
 have HR:=hide hr2;have HB3:=hide hb2
 clear hr2 hb2 HEB
 go_wp2_with fail
 have hw1:=HW1.out
 have hs1:w1.heap.size=w.heap.size:=by rw[hw1];exact HSZ.out
 have hblt:=HBL.out
 have r1:w1.heap[hb]? = some (.cells #[.int .i32 1, .int .u32 0, .pointer (some ⟨eb,0,none⟩)] 62 (0,0)):=by rw[hw1];exact HL1.out
 have r3:=(HB3.out.block hb (blt r1)).trans r1
 have hE1:EngS C N eb sb mb pm fm db n a b c h d P D G (.slice none 0 0) (.map none) (.map none) 0 w1:=by rw[hw1];exact HL2.out
 have hE3:=hE1.below HB3.out
 have x0:=(row_cell r3 0).trans (show _=some (.int .i32 1) from rfl)
 have y0:=row_free r3 0
 refine leaves_cons (f:=18) (args := #[.pointer (some ⟨hb,0,none⟩)]) (by simp) (by simp[go_sem]) ?_
 refine (unlock_deferred Tryz.muLib ⟨hb,0,none⟩ .returning _ x0 y0).mono ?_
 rintro e u' w'' ⟨rfl,rfl,rfl⟩
 have hR:=HR.out
 rw[hs1] at hR
 refine ⟨_,results_tmp rfl _ _ _,v,rfl,own_away hR (fun e=>by have:=(hR.lt hb e).1;omega),HostS.free r3 hE3 HO.out HLW.out,?_⟩
 have hF1:Far w.heap.size (fun q=>q=hb) w w1:=by rw[hw1];exact HL3.out
 exact (hF1.below HB3.out hF1.size).setCell (p:=⟨hb,0,none⟩) (.inr rfl) _
end
section
open Go.RowKit
open Arc (St Cmd)
open Hv (S Dk VM)
theorem content_any {C N:Nat→Prop} (hb eb sb mb pm fm db n a b c:Nat) (h:S) (d:Dk) (P:VM Value) (D:VM Hv.PD) (G:VM S) (path:S) (hDl:D.length≤12) (hDF:DFine D) (hG:G.length≤16) (hK:Hv.GK G) (w:World) (he:HostS C N hb eb sb mb pm fm db n a b c h d P D G w) :
   Calls Tryz.prog 12 #[.pointer (some ⟨hb,0,none⟩), .string ⟨path.toArray⟩] w fun e w'=>e = .returned (.string ⟨((Hv.get (Hv.treeD D G) path).getD []).toArray⟩)∧HostS C N hb eb sb mb pm fm db n a b c h d P D G w'∧Far w.heap.size (fun q=>q=hb) w w':=by
 have hsE:Hv.Srt (Hv.treeD D G):=Hv.treeD_srt D (Hv.srt_of_fileM he.eng.mach.files.1)
 have hlE:(Hv.treeD D G).length≤1000:=by
   have:=Hv.treeD_len D G (fun p hp=>(named_files hDF.named he.eng.pk.srt p hp).1)
   omega
 have HT:=hide (htree_any hb eb sb mb pm fm db n a b c h d P D G hDl hDF hG hK w he)
 obtain ⟨E,hE⟩:∃ E,Hv.treeD D G=E:=⟨_,rfl⟩
 rw[hE] at hsE hlE HT ⊢
 have HS:=hide hsE
 clear hE hDF hK he hsE
 go_enter Tryz.func12,Tryz.ntmps12
 go_wp2_with fail
 refine HT.out.mono ?_
 rintro e w1 ⟨v,rfl,hr,hh,hf⟩
 have HR:=hide hr;have HH:=hide hh;have HF:=hide hf
 obtain ⟨va,vc,rfl⟩:=slice_form hr
 obtain ⟨ne,hne⟩:∃ ne,E.length=ne:=⟨_,rfl⟩
 have HNE:=hide hne
 rw[hne] at hlE ⊢
 clear hr hh hf hne HT
 go_wp2_with fail
 go_loopw [6] (fun i wr=>∃ k:Nat,k≤ne∧i = .int .i64 (k:Int)∧wr=w1∧Hid (∀ j (hj:j<E.length),j<k→E[j].1≠path)) (fun i _=>ne-(intOf i).toNat)
 case atStart=>exact ⟨0,Nat.zero_le _,rfl,rfl,hide (fun j _ q=>absurd q (by omega))⟩
 case round =>
   obtain ⟨k,hk,rfl,rfl,HNO⟩:=hrel
   by_cases hlt:k<ne
   · have b1:(k:Int)<(ne:Int):=by omega
     have hkE:k<E.length:=by have:=HNE.out;omega
     obtain ⟨g,c',hv,hg,q1,q2⟩:=pairs_at (l:=E) HR.out hkE
     obtain rfl:va=some ⟨g,0,none⟩:=(Value.slice.inj hv).1
     have HM:=hide (List.getElem_mem hkE)
     have HX:=hide (show E[k]=E[k] from rfl)
     obtain ⟨p,hp⟩:∃ p,E[k]=p:=⟨_,rfl⟩
     have HP:=hide hp
     rw[hp] at q1 q2
     obtain ⟨x,y⟩:=p
     simp only at q1 q2
     clear hv hp HX
     by_cases hx:(x==path)=true
     · go_wp2_with fail
       go_ret
       refine ⟨?_,HH.out,HF.out⟩
       have e1:x=path:=by simpa using hx
       have hm:=HM.out
       rw[HP.out] at hm
       rw[← e1,(Hv.get_some HS.out).2 hm]
       rfl
     · have hx':(x==path)=false:=by simpa using hx
       clear hx
       go_wp2_with fail
       go_roundw
       case rel =>
         refine ⟨k+1,by omega,by go_num,trivial,hide (fun j hj hjk e => ?_)⟩
         by_cases q:j=k
         · subst q
           rw[HP.out] at e
           have:x=path:=e
           rw[this] at hx'
           simp at hx'
         · exact HNO.out j hj (by omega) e
       case measure=>simp[intOf];omega
   · obtain rfl:k=ne:=by omega
     have b1 : ¬ (k:Int)<(k:Int):=by omega
     go_wp2_with fail
     go_ret
     refine ⟨?_,HH.out,HF.out⟩
     have:Hv.get E path=none:=by
       rw[Hv.get_none]
       intro p hp e
       obtain ⟨j,hj,rfl⟩:=List.getElem_of_mem hp
       exact HNO.out j hj (by have:=HNE.out;omega) e
     rw[this]
     rfl
end
section
open Arc (St Cmd)
open Hv (S VM)
namespace Hv
theorem conf_step_get (pl:Plan) {m:Mac} (h1:Srt m.1) (x k:S):get (stepD pl m (3,x)).1 k=if k=x then (get m.1 k).map (fun d=>d.to (if has pl.wak k=true then 3 else 2)) else get m.1 k:=by
 simp only[stepD]
 rw[if_neg (by decide),if_neg (by decide)]
 by_cases e:k=x
 · subst e
   rw[if_pos rfl]
   cases q:get m.1 k with
   | none=>simp[q]
   | some d=>simp[get_put_same h1]
 · rw[if_neg e]
   cases q:get m.1 x with
   | none=>rfl
   | some d=>simp[get_put_other h1 _ e]
theorem trig_step_get (pl:Plan) {m:Mac} (h1:Srt m.1) (x k:S):get (stepD pl m (4,x)).1 k=if k=x then (get m.1 k).map (fun d=>d.to 2) else get m.1 k:=by
 simp only[stepD]
 rw[if_neg (by decide),if_neg (by decide)]
 by_cases e:k=x
 · subst e
   rw[if_pos rfl]
   cases q:get m.1 k with
   | none=>simp[q]
   | some d=>simp[get_put_same h1]
 · rw[if_neg e]
   cases q:get m.1 x with
   | none=>rfl
   | some d=>simp[get_put_other h1 _ e]
theorem conf_get (pl:Plan):∀ (l:List S) {m:Mac},Srt m.1→Srt m.2→∀ k,get (runS pl m (l.map fun x=>(3,x))).1 k=if k∈l then (get m.1 k).map (fun d=>d.to (if has pl.wak k=true then 3 else 2)) else get m.1 k
 | [],m,_,_,k=>by simp[runS]
 | x::l,m,h1,h2,k=>by
   obtain ⟨a,b⟩:=stepD_srt pl h1 h2 (3,x)
   have e:runS pl m ((x::l).map fun x=>(3,x))=runS pl (stepD pl m (3,x)) (l.map fun x=>(3,x)):=rfl
   rw[e,conf_get pl l a b k,conf_step_get pl h1]
   by_cases q:k=x
   · subst q
     rw[if_pos rfl,if_pos (show k∈k::l by simp)]
     split
     · cases get m.1 k<;>rfl
     · rfl
   · rw[if_neg q]
     by_cases r:k∈l
     · rw[if_pos r,if_pos (List.mem_cons_of_mem _ r)]
     · rw[if_neg r,if_neg (fun h=>(List.mem_cons.1 h).elim q r)]
theorem trig_get (pl:Plan):∀ (l:List S) {m:Mac},Srt m.1→Srt m.2→∀ k,get (runS pl m (l.map fun x=>(4,x))).1 k=if k∈l then (get m.1 k).map (fun d=>d.to 2) else get m.1 k
 | [],m,_,_,k=>by simp[runS]
 | x::l,m,h1,h2,k=>by
   obtain ⟨a,b⟩:=stepD_srt pl h1 h2 (4,x)
   have e:runS pl m ((x::l).map fun x=>(4,x))=runS pl (stepD pl m (4,x)) (l.map fun x=>(4,x)):=rfl
   rw[e,trig_get pl l a b k,trig_step_get pl h1]
   by_cases q:k=x
   · subst q
     rw[if_pos rfl,if_pos (show k∈k::l by simp)]
     split
     · cases get m.1 k<;>rfl
     · rfl
   · rw[if_neg q]
     by_cases r:k∈l
     · rw[if_pos r,if_pos (List.mem_cons_of_mem _ r)]
     · rw[if_neg r,if_neg (fun h=>(List.mem_cons.1 h).elim q r)]
def confG (T:VM PD) (l:List S) (G:VM S):VM S:=l.foldl (fun G x=>match get T x with | none=>G | some d=>runC T [] G d.st.runs) G
def trigG (T:VM PD) (W:VM (List S)) (l:List S) (G:VM S):VM S:=l.foldl (fun G x=>match get T x with | none=>G | some d=>runC T ((get W x).getD []) G d.st.wokens) G
theorem early_step (pl:Plan) (c:Int) (hc:c=1∨c=2) (x:S) (m:Mac):(stepD pl m (c,x)).2=m.2:=by
 rcases hc with rfl | rfl
 · rfl
 · simp only[stepD]
   rw[if_neg (by decide)]
   cases get pl.ins x<;>rfl
theorem early_files (pl:Plan) (c:Int) (hc:c=1∨c=2):∀ (l:List S) (m:Mac),(runS pl m (l.map fun x=>(c,x))).2=m.2
 | [],_=>rfl
 | x::l,m=>by
   have e:runS pl m ((x::l).map fun x=>(c,x))=runS pl (stepD pl m (c,x)) (l.map fun x=>(c,x)):=rfl
   rw[e,early_files pl c hc l,early_step pl c hc]
theorem conf_files (pl:Plan) (T:VM PD):∀ (l:List S) {m:Mac},Srt m.1→Srt m.2→to0 m.1=to0 T→(runS pl m (l.map fun x=>(3,x))).2=confG T l m.2
 | [],_,_,_,_=>rfl
 | x::l,m,h1,h2,ht=>by
   obtain ⟨a,b⟩:=stepD_srt pl h1 h2 (3,x)
   have e:runS pl m ((x::l).map fun x=>(3,x))=runS pl (stepD pl m (3,x)) (l.map fun x=>(3,x)):=rfl
   rw[e,conf_files pl T l a b ((late_to0 pl h1 (.inl rfl)).trans ht)]
   have es:(stepD pl m (3,x)).2=(match get T x with | none=>m.2 | some d=>runC T [] m.2 d.st.runs):=by
     rcases get_alike ht x with ⟨q1,q2⟩ | ⟨d,d',q1,q2,q3⟩
     · simp[stepD,q1,q2]
     · have:d.st=d'.st:=by have h:=congrArg PD.st q3;exact h
       simp[stepD,q1,q2,this,runC_alike ht]
   rw[es];rfl
theorem trig_files (pl:Plan) (T:VM PD):∀ (l:List S) {m:Mac},Srt m.1→Srt m.2→to0 m.1=to0 T→(runS pl m (l.map fun x=>(4,x))).2=trigG T pl.wak l m.2
 | [],_,_,_,_=>rfl
 | x::l,m,h1,h2,ht=>by
   obtain ⟨a,b⟩:=stepD_srt pl h1 h2 (4,x)
   have e:runS pl m ((x::l).map fun x=>(4,x))=runS pl (stepD pl m (4,x)) (l.map fun x=>(4,x)):=rfl
   rw[e,trig_files pl T l a b ((late_to0 pl h1 (.inr rfl)).trans ht)]
   have es:(stepD pl m (4,x)).2=(match get T x with | none=>m.2 | some d=>runC T ((get pl.wak x).getD []) m.2 d.st.wokens):=by
     rcases get_alike ht x with ⟨q1,q2⟩ | ⟨d,d',q1,q2,q3⟩
     · simp[stepD,q1,q2]
     · have:d.st=d'.st:=by have h:=congrArg PD.st q3;exact h
       simp[stepD,q1,q2,this,runC_alike ht]
   rw[es];rfl
theorem steps_eq (D:VM PD) (R:VM Value) (I:VM PD):(planD D R I).steps=((order freeB (leaveD D R)).map (fun x=>(1,x))++(order freeA I).map (fun x=>(2,x)))++((order freeA I).map (fun x=>(3,x))++(keysOf (wakeD (toBeD D R I) (keysOf (changedQ D R I)))).map (fun x=>(4,x))):=by
 rw[← List.append_assoc];rfl
theorem toBeD_get {D:VM PD} {R:VM Value} {I:VM PD} (sD:Srt D) (sI:Srt I) (k:S):get (toBeD D R I) k=(get I k).orElse (fun _=>if has R k=true then none else get D k) :=
 (merge_get I (cut D R) (cut_srt R D sD) sI k).trans (by rw[cut_get R D sD])
theorem toBeD_srt {D:VM PD} (sD:Srt D) (R:VM Value) (I:VM PD):Srt (toBeD D R I):=merge_srt I (cut D R) (cut_srt R D sD)
theorem PD.to_self {d:PD} {s:Int} (h:d.status=s):d.to s=d:=by cases d;simp only[PD.to] at h ⊢;rw[h]
theorem run_whole {D:VM PD} {G:VM S} {R:VM Value} {I:VM PD} (sD:Srt D) (sG:Srt G) (sI:Srt I) (hst:∀ k d,get D k=some d→d.status=2) :
   runS (planD D R I) (wokeW D (planD D R I).wak,G) (planD D R I).steps=((toBeD D R I).map (fun p=>(p.1,p.2.to 2)),trigG (toBeD D R I) (planD D R I).wak (keysOf (planD D R I).wak) (confG (toBeD D R I) (order freeA I) G)):=by
 have hend:=run_end (R:=R) (G:=G) (I:=I) (D':=wokeW D (planD D R I).wak) sD (wokeW_srt sD _) sG sI (to0_woke D _)
 have e:=steps_eq D R I
 have ew:(planD D R I).wak=wakeD (toBeD D R I) (keysOf (changedQ D R I)):=rfl
 have ei:(planD D R I).ins=I:=rfl
 rw[← ew] at e
 obtain ⟨pl,hpl⟩:∃ pl,planD D R I=pl:=⟨_,rfl⟩
 rw[hpl] at hend e ei ⊢
 clear hpl ew
 have e3:∀ A B C E:List Step,∀ m,runS pl m ((A++B)++(C++E))=runS pl (runS pl (runS pl (runS pl m A) B) C) E:=fun A B C E m=>by simp only[runS,List.foldl_append]
 rw[e,e3] at hend ⊢
 have sW:=wokeW_srt sD pl.wak
 obtain ⟨a1,a2⟩:=runS_srt pl ((order freeB (leaveD D R)).map (fun x=>(1,x))) (m:=(wokeW D pl.wak,G)) sW sG
 obtain ⟨b1,b2⟩:=runS_srt pl ((order freeA I).map (fun x=>(2,x))) a1 a2
 obtain ⟨c1,c2⟩:=runS_srt pl ((order freeA I).map (fun x=>(3,x))) b1 b2
 obtain ⟨d1,d2⟩:=runS_srt pl ((keysOf pl.wak).map (fun x=>(4,x))) c1 c2
 have tC:=lates_to0 pl ((order freeA I).map (fun x=>(3,x))) b1 b2 (fun s hs=>by obtain ⟨x,_,rfl⟩:=List.mem_map.1 hs;exact .inl rfl)
 have tE:=lates_to0 pl ((keysOf pl.wak).map (fun x=>(4,x))) c1 c2 (fun s hs=>by obtain ⟨x,_,rfl⟩:=List.mem_map.1 hs;exact .inr rfl)
 have tc:=tE.symm.trans hend
 have tb:=tC.symm.trans tc
 refine Prod.ext ?_ ?_
 · refine d1.get_ext ((toBeD_srt sD R I).map fun d:PD=>d.to 2) fun k => ?_
   rw[trig_get pl _ c1 c2,conf_get pl _ b1 b2,unpack_get pl _ a1 a2 (fun x hx=>by rw[ei];exact (order_mem freeA sI x).1 hx),gone_get pl _ (m:=(wokeW D pl.wak,G)) sW sG,ei,get_map (toBeD D R I) (fun d:PD=>d.to 2),toBeD_get sD sI]
   have m1:=order_mem freeA sI k
   have m2:=order_mem freeB (leaveD_srt sD R) k
   have m3:=mem_keysOf (E:=pl.wak) (k:=k)
   rw[has_get,leaveD_get sD] at m2
   rw[has_get] at m1
   show (if k∈keysOf pl.wak then Option.map (fun d=>d.to 2) (if k∈order freeA I then Option.map _ (if k∈order freeA I then get I k else if k∈order freeB (leaveD D R) then none else get (wokeW D pl.wak) k) else (if k∈order freeA I then get I k else if k∈order freeB (leaveD D R) then none else get (wokeW D pl.wak) k)) else (if k∈order freeA I then Option.map _ (if k∈order freeA I then get I k else if k∈order freeB (leaveD D R) then none else get (wokeW D pl.wak) k) else (if k∈order freeA I then get I k else if k∈order freeB (leaveD D R) then none else get (wokeW D pl.wak) k)))=_
   cases q:get I k with
   | some d =>
     rw[q] at m1
     rw[if_pos (m1.2 rfl),if_pos (m1.2 rfl)]
     by_cases r:k∈keysOf pl.wak
     · rw[if_pos r];rfl
     · rw[if_neg r]
       have : ¬ has pl.wak k=true:=fun x=>r (m3.2 x)
       simp[this]
   | none =>
     rw[q] at m1
     have hn : ¬ k∈order freeA I:=fun x=>by have:=m1.1 x;cases this
     rw[if_neg hn,if_neg hn,wokeW_get]
     simp only[Option.orElse_none]
     by_cases r:has R k=true
     · rw[if_pos r] at m2 ⊢
       cases q2:get D k with
       | none=>simp
       | some d=>rw[q2] at m2;rw[if_pos (m2.2 rfl)];simp
     · rw[if_neg r] at m2 ⊢
       have hb : ¬ k∈order freeB (leaveD D R):=fun x=>by have:=m2.1 x;cases this
       rw[if_neg hb]
       cases q2:get D k with
       | none=>simp
       | some d =>
         have hs:=hst k d q2
         by_cases w:k∈keysOf pl.wak
         · rw[if_pos w]
           have hw:=m3.1 w
           simp[hw,hs]
           rfl
         · rw[if_neg w]
           have hw : ¬ has pl.wak k=true:=fun x=>w (m3.2 x)
           simp[hw,PD.to_self hs]
 · rw[trig_files pl _ _ c1 c2 tc,conf_files pl _ _ b1 b2 tb,early_files pl 2 (.inr rfl),early_files pl 1 (.inl rfl)]
theorem overD_append (pl:Plan):∀ (A:List Step) (B:List Step) (m:Mac),overD pl m (A++B)=(overD pl m A||overD pl (runS pl m A) B)
 | [],_,_=>by simp[overD,runS]
 | s::A,B,m=>by
   show (!fitsG (stepD pl m s).2||overD pl (stepD pl m s) (A++B))=(!fitsG (stepD pl m s).2||overD pl (stepD pl m s) A||overD pl (runS pl (stepD pl m s) A) B)
   rw[overD_append pl A B,Bool.or_assoc]
theorem over_of (pl:Plan):∀ (A:List Step) (m:Mac),(∀ k,k<A.length→fitsG (runS pl m (A.take (k+1))).2=true)→overD pl m A=false
 | [],_,_=>rfl
 | s::A,m,h=>by
   have h0:=h 0 (by simp)
   have e0:runS pl m ((s::A).take 1)=stepD pl m s:=by simp[runS]
   rw[e0] at h0
   show (!fitsG (stepD pl m s).2||overD pl (stepD pl m s) A)=false
   rw[h0,over_of pl A (stepD pl m s) (fun k hk=>by
     have:=h (k+1) (by simp;omega)
     simpa [runS] using this)]
   rfl
theorem over_whole {D:VM PD} {G:VM S} {R:VM Value} {I:VM PD} (sD:Srt D) (sG:Srt G) (sI:Srt I) (h0:fitsG G=true) (h1:∀ k,k<(order freeA I).length→fitsG (confG (toBeD D R I) ((order freeA I).take (k+1)) G)=true) (h2:∀ k,k<(keysOf (planD D R I).wak).length→fitsG (trigG (toBeD D R I) (planD D R I).wak ((keysOf (planD D R I).wak).take (k+1)) (confG (toBeD D R I) (order freeA I) G))=true) :
   overD (planD D R I) (D,G) (planD D R I).steps=false:=by
 have hend:=run_end (R:=R) (G:=G) (I:=I) (D':=D) sD sD sG sI rfl
 have e:=steps_eq D R I
 have ew:(planD D R I).wak=wakeD (toBeD D R I) (keysOf (changedQ D R I)):=rfl
 rw[← ew] at e
 obtain ⟨pl,hpl⟩:∃ pl,planD D R I=pl:=⟨_,rfl⟩
 rw[hpl] at hend e h2 ⊢
 clear hpl ew
 have e3:∀ A B C E:List Step,∀ m,runS pl m ((A++B)++(C++E))=runS pl (runS pl (runS pl (runS pl m A) B) C) E:=fun A B C E m=>by simp only[runS,List.foldl_append]
 rw[e,e3] at hend
 rw[e,overD_append,overD_append,overD_append]
 obtain ⟨a1,a2⟩:=runS_srt pl ((order freeB (leaveD D R)).map (fun x=>(1,x))) (m:=(D,G)) sD sG
 obtain ⟨b1,b2⟩:=runS_srt pl ((order freeA I).map (fun x=>(2,x))) a1 a2
 obtain ⟨c1,c2⟩:=runS_srt pl ((order freeA I).map (fun x=>(3,x))) b1 b2
 have tC:=lates_to0 pl ((order freeA I).map (fun x=>(3,x))) b1 b2 (fun s hs=>by obtain ⟨x,_,rfl⟩:=List.mem_map.1 hs;exact .inl rfl)
 have tE:=lates_to0 pl ((keysOf pl.wak).map (fun x=>(4,x))) c1 c2 (fun s hs=>by obtain ⟨x,_,rfl⟩:=List.mem_map.1 hs;exact .inr rfl)
 have tc:=tE.symm.trans hend
 have tb:=tC.symm.trans tc
 have e2:runS pl (D,G) ((order freeB (leaveD D R)).map (fun x=>(1,x))++(order freeA I).map (fun x=>(2,x)))=runS pl (runS pl (D,G) ((order freeB (leaveD D R)).map (fun x=>(1,x)))) ((order freeA I).map (fun x=>(2,x))):=by simp only[runS,List.foldl_append]
 rw[e2]
 have fA:∀ k,(runS pl (D,G) (((order freeB (leaveD D R)).map (fun x=>((1:Int),x))).take k)).2=G:=fun k=>by
   rw[← List.map_take];exact early_files pl 1 (.inl rfl) _ _
 have fA':(runS pl (D,G) ((order freeB (leaveD D R)).map (fun x=>((1:Int),x)))).2=G:=early_files pl 1 (.inl rfl) _ _
 rw[over_of pl _ _ (fun k _=>by rw[fA];exact h0),over_of pl _ _ (fun k _=>by rw[← List.map_take,early_files pl 2 (.inr rfl),fA'];exact h0)]
 have fB':(runS pl (runS pl (D,G) ((order freeB (leaveD D R)).map (fun x=>((1:Int),x)))) ((order freeA I).map (fun x=>((2:Int),x)))).2=G:=(early_files pl 2 (.inr rfl) _ _).trans fA'
 rw[over_of pl _ _ (fun k hk=>by
   rw[← List.map_take,conf_files pl _ _ b1 b2 tb,fB']
   exact h1 k (by simpa using hk))]
 rw[over_of pl _ _ (fun k hk=>by
   rw[← List.map_take,trig_files pl _ _ c1 c2 tc,conf_files pl _ _ b1 b2 tb,fB']
   exact h2 k (by simpa using hk))]
 rfl
theorem check_of {n:Int} {D:VM PD} {G:VM S} {xs:List S} {s:WS} (hw:wish xs = .ok s) (hr:refuseI D s.R s.I=0) (ho:overD (planD D s.R s.I) (D,G) (planD D s.R s.I).steps=false) (hb:smallB n D xs=false):check n D G xs = .ok (planD D s.R s.I):=by
 unfold check
 rw[hw]
 simp only[hr,ho,hb]
 simp
end Hv
namespace Hv
def Item.name:Item→S
 | .inl nm=>nm
 | .inr (_,nm,_,_)=>nm
def itemsW (is:List Item):WS:=is.foldl wstep ⟨[],[],[]⟩
theorem itemsW_snoc (is:List Item) (i:Item):itemsW (is++[i])=wstep (itemsW is) i:=by simp[itemsW]
theorem wfold_items:∀ (is:List Item) (xs:List S) (s:WS),xs.map itemOf=is.map some→wfold xs s=some (is.foldl wstep s)
 | [],xs,s,h=>by
   cases xs with
   | nil=>rfl
   | cons x xs=>simp at h
 | i::is,xs,s,h=>by
   cases xs with
   | nil=>simp at h
   | cons x xs =>
     simp only[List.map_cons,List.cons.injEq] at h
     rw[wfold,h.1]
     exact wfold_items is xs _ h.2
theorem snoc_ind {α:Type} {P:List α→Prop} (h0:P []) (h1:∀ l a,P l→P (l++[a])):∀ l,P l:=fun l=>by
 have key:∀ r:List α,P r.reverse:=fun r=>by
   induction r with
   | nil=>exact h0
   | cons a r ih=>rw[List.reverse_cons];exact h1 _ _ ih
 have:=key l.reverse
 rwa [List.reverse_reverse] at this
theorem del_absent {α:Type} {E:VM α} {k:S} (h:has E k=false):del E k=E:=by
 unfold del
 rw[List.filter_eq_self]
 intro p hp
 cases e:(p.1==k) with
 | false=>rfl
 | true =>
   have:has E k=true:=List.any_eq_true.2 ⟨p,hp,e⟩
   rw[h] at this;cases this
theorem put_len_new {α:Type} {E:VM α} {k:S} (v:α) (h:has E k=false):(put E k v).length=E.length+1:=by
 unfold put;rw[ins_len,del_absent h]
structure ItemsOk (is:List Item):Prop where
 sI:Srt (itemsW is).I
 sR:Srt (itemsW is).R
 sN:Srt (itemsW is).N
 nlen:(itemsW is).N.length=is.length
 nmem:∀ k,has (itemsW is).N k=true ↔ k∈is.map Item.name
 imem:∀ k d,get (itemsW is).I k=some d ↔ ∃ t ve st,Item.ins t k ve st∈is∧d=⟨t,k,ve,st,1⟩
 rmem:∀ k,has (itemsW is).R k=true ↔ Item.rem k∈is
theorem has_put {α:Type} {E:VM α} (h:Srt E) (k:S) (v:α) (n:S):has (put E k v) n=true ↔ n=k∨has E n=true:=by
 rw[put_has h];exact or_comm
theorem items_ok:∀ (is:List Item),(is.map Item.name).Nodup→ItemsOk is:=by
 refine snoc_ind (fun _ => ?_) (fun l i ih hn => ?_)
 · refine ⟨List.Pairwise.nil,List.Pairwise.nil,List.Pairwise.nil,rfl,fun k => ?_,fun k d => ?_,fun k => ?_⟩
   · simp[itemsW,has]
   · simp[itemsW,get]
   · simp[itemsW,has]
 · rw[List.map_append,List.nodup_append] at hn
   obtain ⟨n1, -,n3⟩:=hn
   have h:=ih n1
   have hni:i.name ∉ l.map Item.name:=fun q=>n3 _ q _ (by simp) rfl
   have hN:has (itemsW l).N i.name=false:=by
     cases e:has (itemsW l).N i.name with
     | false=>rfl
     | true=>exact absurd ((h.nmem _).1 e) hni
   cases i with
   | inl nm=>
     have e:itemsW (l++[.rem nm])=⟨put (itemsW l).R nm unitV,(itemsW l).I,put (itemsW l).N nm unitV⟩:=itemsW_snoc l _
     rw[← List.append_eq] at *
     constructor
     · rw[show itemsW (l.append [.rem nm])=_ from e];exact h.sI
     · rw[show itemsW (l.append [.rem nm])=_ from e];exact h.sR.put _ _
     · rw[show itemsW (l.append [.rem nm])=_ from e];exact h.sN.put _ _
     · rw[show itemsW (l.append [.rem nm])=_ from e]
       show (put (itemsW l).N nm unitV).length=_
       rw[show (put (itemsW l).N nm unitV).length=(itemsW l).N.length+1 from put_len_new unitV hN,h.nlen];simp
     · intro k
       rw[show itemsW (l.append [.rem nm])=_ from e]
       show has (put (itemsW l).N nm unitV) k=true ↔ _
       rw[has_put h.sN,h.nmem]
       simp[Item.name,or_comm]
     · intro k d
       rw[show itemsW (l.append [.rem nm])=_ from e]
       show get (itemsW l).I k=some d ↔ _
       rw[h.imem]
       simp
     · intro k
       rw[show itemsW (l.append [.rem nm])=_ from e]
       show has (put (itemsW l).R nm unitV) k=true ↔ _
       rw[has_put h.sR,h.rmem]
       simp[or_comm]
   | inr it=>
     obtain ⟨t,nm,ve,st⟩:=it
     have e:itemsW (l++[.ins t nm ve st])=⟨(itemsW l).R,put (itemsW l).I nm ⟨t,nm,ve,st,1⟩,put (itemsW l).N nm unitV⟩:=itemsW_snoc l _
     rw[← List.append_eq] at *
     constructor
     · rw[show itemsW (l.append [.ins t nm ve st])=_ from e];exact h.sI.put _ _
     · rw[show itemsW (l.append [.ins t nm ve st])=_ from e];exact h.sR
     · rw[show itemsW (l.append [.ins t nm ve st])=_ from e];exact h.sN.put _ _
     · rw[show itemsW (l.append [.ins t nm ve st])=_ from e]
       show (put (itemsW l).N nm unitV).length=_
       rw[show (put (itemsW l).N nm unitV).length=(itemsW l).N.length+1 from put_len_new unitV hN,h.nlen];simp
     · intro k
       rw[show itemsW (l.append [.ins t nm ve st])=_ from e]
       show has (put (itemsW l).N nm unitV) k=true ↔ _
       rw[has_put h.sN,h.nmem]
       simp[Item.name,or_comm]
     · intro k d
       rw[show itemsW (l.append [.ins t nm ve st])=_ from e]
       show get (put (itemsW l).I nm ⟨t,nm,ve,st,1⟩) k=some d ↔ _
       by_cases q:k=nm
       · subst q
         rw[get_put_same h.sI]
         constructor
         · intro x;cases x;exact ⟨t,ve,st,by simp,rfl⟩
         · rintro ⟨t',ve',st',m,rfl⟩
           simp only[List.append_eq,List.mem_append,List.mem_singleton] at m
           rcases m with m | m
           · exact absurd (List.mem_map.2 ⟨_,m,rfl⟩) hni
           · cases m;rfl
       · rw[get_put_other h.sI _ q,h.imem]
         constructor
         · rintro ⟨t',ve',st',m,rfl⟩;exact ⟨t',ve',st',by simp[m],rfl⟩
         · rintro ⟨t',ve',st',m,rfl⟩
           simp only[List.append_eq,List.mem_append,List.mem_singleton] at m
           rcases m with m | m
           · exact ⟨t',ve',st',m,rfl⟩
           · cases m;exact absurd rfl q
     · intro k
       rw[show itemsW (l.append [.ins t nm ve st])=_ from e]
       show has (itemsW l).R k=true ↔ _
       rw[h.rmem]
       simp
theorem wish_items {xs:List S} {is:List Item} (h:xs.map itemOf=is.map some) (hn:(is.map Item.name).Nodup) (h1:1≤xs.length) (h6:xs.length≤6):wish xs = .ok (itemsW is):=by
 have hl:xs.length=is.length:=by have:=congrArg List.length h;simpa using this
 unfold wish
 rw[if_neg (by omega),wfold_items is xs _ h]
 show (if (itemsW is).N.length<xs.length then _ else _)=_
 rw[if_neg (by rw[(items_ok is hn).nlen];omega)]
 rfl
theorem toBe_items {D:VM PD} (sD:Srt D) {is:List Item} (hn:(is.map Item.name).Nodup) (k:S) (d:PD):get (toBeD D (itemsW is).R (itemsW is).I) k=some d ↔ (∃ t ve st,Item.ins t k ve st∈is∧d=⟨t,k,ve,st,1⟩)∨(get D k=some d∧k ∉ is.map Item.name):=by
 have h:=items_ok is hn
 rw[toBeD_get sD h.sI]
 cases q:get (itemsW is).I k with
 | some e =>
   obtain ⟨t,ve,st,m,rfl⟩:=(h.imem k e).1 q
   constructor
   · intro x;cases x;exact .inl ⟨t,ve,st,m,rfl⟩
   · rintro (⟨t',ve',st',m',rfl⟩ | ⟨-,x⟩)
     · have:=(h.imem k ⟨t',k,ve',st',1⟩).2 ⟨t',ve',st',m',rfl⟩
       rw[q] at this;exact this
     · exact absurd (List.mem_map.2 ⟨_,m,rfl⟩) x
 | none =>
   simp only[Option.orElse_none]
   have hno:∀ t ve st,Item.ins t k ve st ∉ is:=fun t ve st m=>by
     have:=(h.imem k ⟨t,k,ve,st,1⟩).2 ⟨t,ve,st,m,rfl⟩
     rw[q] at this;cases this
   have hnm:has (itemsW is).R k=true ↔ k∈is.map Item.name:=by
     rw[h.rmem]
     constructor
     · intro m;exact List.mem_map.2 ⟨_,m,rfl⟩
     · intro m
       obtain ⟨i,hi,e⟩:=List.mem_map.1 m
       cases i with
       | inl nm=>have e':nm=k:=e;subst e';exact hi
       | inr it=>obtain ⟨t,nm,ve,st⟩:=it;have e':nm=k:=e;subst e';exact absurd hi (hno t ve st)
   by_cases r:has (itemsW is).R k=true
   · rw[if_pos r]
     constructor
     · intro x;cases x
     · rintro (⟨t',ve',st',m',rfl⟩ | ⟨-,x⟩)
       · exact absurd m' (hno _ _ _)
       · exact absurd (hnm.1 r) x
   · rw[if_neg r]
     constructor
     · intro x;exact .inr ⟨x,fun m=>r (hnm.2 m)⟩
     · rintro (⟨t',ve',st',m',rfl⟩ | ⟨x, -⟩)
       · exact absurd m' (hno _ _ _)
       · exact x
end Hv
namespace Hv
def binP (k:S):S:=[47,98,105,110,47]++k
theorem binP_inj {a b:S} (h:binP a=binP b):a=b:=List.append_cancel_left h
theorem any_has {α:Type} {E:VM α} {k:S} {v:α} (h:(k,v)∈E):has E k=true:=List.any_eq_true.2 ⟨_,h,by simp⟩
theorem clash_none {T:VM PD} (h:∀ k d,get T k=some d→d.paths=[]∨d.paths=[binP k]) : ¬ Clash T:=by
 rintro (⟨k,d,hd,hn⟩ | ⟨k,k',d,d',x,hne,hd,hd',hx,hx'⟩)
 · rcases h k d hd with e | e<;>rw[e] at hn<;>simp at hn
 · rcases h k d hd with e | e
   · rw[e] at hx;cases hx
   · rcases h k' d' hd' with e' | e'
     · rw[e'] at hx';cases hx'
     · rw[e] at hx;rw[e'] at hx'
       simp only[List.mem_singleton] at hx hx'
       exact hne (binP_inj (hx.symm.trans hx'))
theorem lacks_none {T:VM PD} (hT:Srt T) (h:∀ k d,get T k=some d→∀ n∈d.st.needs,meetsB T n.1 n.2=true):lacksB T=false :=
 any_no (fun _ d=>d.st.needs.any fun n => !meetsB T n.1 n.2) hT fun k d q=>by
   rw[List.any_eq_false]
   intro n hn
   simp[h k d q n hn]
theorem broken_none {T:VM PD} (hT:Srt T) (h:∀ k d,get T k=some d→d.st.breaks=[]):brokenB T=false :=
 any_no (fun k d=>d.st.breaks.any fun b=>has T b && !(b==k)) hT fun k d q=>by rw[h k d q];rfl
structure Fine (D:VM PD) (is:List Item):Prop where
 rem:∀ nm,Item.rem nm∈is→has D nm=true
 new:∀ t k ve st,Item.ins t k ve st∈is→∀ o,get D k=some o→0<(Ver.compare ve o.ve).1
 len:(toBeD D (itemsW is).R (itemsW is).I).length≤12
 brk:∀ k d,get (toBeD D (itemsW is).R (itemsW is).I) k=some d→d.st.breaks=[]
 bin:∀ k d,get (toBeD D (itemsW is).R (itemsW is).I) k=some d→d.paths=[]∨d.paths=[binP k]
theorem absent_none {D:VM PD} {is:List Item} (hn:(is.map Item.name).Nodup) (h:Fine D is):absentD D (itemsW is).R=false:=by
 unfold absentD
 rw[List.any_eq_false]
 intro p hp
 have:=h.rem p.1 (((items_ok is hn).rmem p.1).1 (any_has (v:=p.2) hp))
 simp[this]
theorem old_none {D:VM PD} {is:List Item} (hn:(is.map Item.name).Nodup) (h:Fine D is):oldB D (itemsW is).I=false :=
 old_no (items_ok is hn).sI fun k d o hd ho=>by
   obtain ⟨t,ve,st,m,rfl⟩:=((items_ok is hn).imem k d).1 hd
   exact h.new t k ve st m o ho
theorem refuse_fine {D:VM PD} {is:List Item} (sD:Srt D) (hn:(is.map Item.name).Nodup) (h:Fine D is) (hneed:∀ k d,get (toBeD D (itemsW is).R (itemsW is).I) k=some d→∀ n∈d.st.needs,meetsB (toBeD D (itemsW is).R (itemsW is).I) n.1 n.2=true):refuseI D (itemsW is).R (itemsW is).I=0:=by
 have hT:=toBeD_srt sD (itemsW is).R (itemsW is).I
 unfold refuseI
 rw[absent_none hn h,old_none hn h,lacks_none hT hneed,broken_none hT h.brk,clash_no (clash_none h.bin)]
 have:=h.len
 simp only[Bool.false_eq_true,if_false]
 rw[if_neg (by omega)]
theorem len_keys {α:Type} {E:VM α} (h:Srt E) {ks:List S} (hk:∀ k,has E k=true→k∈ks):E.length≤ks.length:=by
 have hnd:=h.nodup
 have hsub:(E.map (·.1)) ⊆ ks:=fun k hm=>by
   obtain ⟨p,hp,rfl⟩:=List.mem_map.1 hm
   exact hk _ (any_has (v:=p.2) hp)
 have:=hnd.length_le_of_subset hsub
 simpa using this
end Hv
namespace Hv
def linesOf (ls:List S):S:=ls.flatMap fun l=>l++[10]
def glue:List S→S
 | []=>[]
 | [l]=>l
 | l::m::ls=>l++10::glue (m::ls)
theorem sp_glue:∀ (ls:List S),ls≠[]→(∀ l∈ls,∀ c∈l,c≠10)→sp 10 (glue ls)=ls
 | [],h,_=>absurd rfl h
 | [l],_,h=>sp_none 10 l (h l (by simp))
 | l::m::ls,_,h=>by
   show sp 10 (l++10::glue (m::ls))=_
   rw[sp_cut 10 l _ (h l (by simp)),sp_glue (m::ls) (by simp) (fun x hx=>h x (by simp at hx ⊢;exact .inr hx))]
theorem cutTwo_cons {c:UInt8} {l:S} (h : ¬ (c=10∧l.head? = some 10)):cutTwo (c::l)=(cutTwo l).map fun p=>(c::p.1,p.2):=by
 conv=>lhs;unfold cutTwo
 split
 · exact absurd ⟨rfl,rfl⟩ h
 · cases cutTwo l<;>rfl
theorem cutTwo_run:∀ (l r:S),(∀ c∈l,c≠10)→cutTwo (l++r)=(cutTwo r).map fun p=>(l++p.1,p.2)
 | [],r,_=>by cases h:cutTwo r<;>simp[h]
 | c::l,r,h=>by
   have hc:c≠10:=h c (by simp)
   rw[List.cons_append,cutTwo_cons (fun q=>hc q.1),cutTwo_run l r (fun x hx=>h x (by simp[hx]))]
   cases cutTwo r<;>rfl
theorem cutTwo_glue (r:S):∀ (ls:List S),ls≠[]→(∀ l∈ls,l≠[]∧∀ c∈l,c≠10)→cutTwo (linesOf ls++10::r)=some (glue ls,r)
 | [],h,_=>absurd rfl h
 | [l],_,h=>by
   have e:linesOf [l]++10::r=l++(10::10::r):=by simp[linesOf]
   rw[e,cutTwo_run l _ (h l (by simp)).2]
   have:cutTwo (10::10::r)=some ([],r):=by simp[cutTwo]
   rw[this];simp[glue]
 | l::m::ls,_,h=>by
   have e:linesOf (l::m::ls)++10::r=l++(10::(linesOf (m::ls)++10::r)):=by simp[linesOf]
   have hm:=h m (by simp)
   have hh : ¬ ((10:UInt8)=10∧(linesOf (m::ls)++10::r).head? = some 10):=by
     rintro ⟨-,q⟩
     cases m with
     | nil=>exact hm.1 rfl
     | cons a m =>
       have:(linesOf ((a::m)::ls)++10::r).head? = some a:=by simp[linesOf]
       rw[this] at q
       exact hm.2 a (by simp) (Option.some.inj q)
   rw[e,cutTwo_run l _ (h l (by simp)).2,cutTwo_cons hh,cutTwo_glue r (m::ls) (by simp) (fun x hx=>h x (by simp at hx ⊢;exact .inr hx))]
   rfl
def Ltr (c:UInt8):Prop:=c=97∨c=98∨c=99∨c=100∨c=101∨c=102∨c=122
def needL (n:UInt8):S:=[110,101,101,100,115,32,n,32,49]
def fileL (c:UInt8):S:=[102,105,108,101,32,47,98,105,110,47,c,32,53,32,98,97,52,55,56,56,98,50,50,54,97,97,56,100,99,50]
def runL (c:UInt8):S:=[114,117,110,32,97,100,100,32,47,118,97,114,47,111,114,100,101,114,32,c]
def wOrder:S:=[47,118,97,114,47,111,114,100,101,114]
def headL (c v:UInt8):List S:=[Arc.wHaven,Arc.wName++[c],Arc.wVersion++[v]]
def madeL (c v:UInt8) (ns:List UInt8) (o:Bool):List S:=headL c v++(ns.map needL++(fileL c::if o then [runL c] else []))
def madeT (c v:UInt8) (ns:List UInt8) (o:Bool):S:=linesOf (madeL c v ns o)++10::green
def madeSt (c:UInt8) (ns:List UInt8) (o:Bool):St:=⟨ns.map fun n=>([n],[49]),[],[],[(binP [c],green)],if o then [⟨2,wOrder,[c],[]⟩] else [],[],[]⟩
theorem ltr_name {c:UInt8} (h:Ltr c):Wd.isName [c]=true∧c≠10∧c≠32:=by
 rcases h with rfl | rfl | rfl | rfl | rfl | rfl | rfl<;>decide
theorem need_sp {n:UInt8} (h:Ltr n):sp 32 (needL n)=[[110,101,101,100,115],[n],[49]]:=by
 rcases h with rfl | rfl | rfl | rfl | rfl | rfl | rfl<;>rfl
theorem file_sp {c:UInt8} (h:Ltr c):sp 32 (fileL c)=[[102,105,108,101],binP [c],[53],[98,97,52,55,56,56,98,50,50,54,97,97,56,100,99,50]]:=by
 rcases h with rfl | rfl | rfl | rfl | rfl | rfl | rfl<;>rfl
theorem run_sp {c:UInt8} (h:Ltr c):sp 32 (runL c)=[[114,117,110],[97,100,100],wOrder,[c]]:=by
 rcases h with rfl | rfl | rfl | rfl | rfl | rfl | rfl<;>rfl
theorem bin_path {c:UInt8} (h:Ltr c):Wd.isPath (binP [c])=true∧Wd.under (binP [c])=false:=by
 rcases h with rfl | rfl | rfl | rfl | rfl | rfl | rfl<;>decide
theorem word_ltr {c:UInt8} (h:Ltr c):Wd.isWord [c]=true:=by
 rcases h with rfl | rfl | rfl | rfl | rfl | rfl | rfl<;>decide
theorem order_var:Wd.isVar wOrder=true:=by decide
theorem pbody_needs (f:S→S):∀ (ns:List UInt8) (st:St) (last:Int) (rest:List S),last≤1→(∀ n∈ns,Ltr n)→∃ last',last'≤1∧Arc.pbody f st last (ns.map needL++rest)=Arc.pbody f { st with needs:=st.needs++ns.map fun n=>([n],[49]) } last' rest
 | [],st,last,rest,hl,_=>⟨last,hl,by simp⟩
 | n::ns,st,last,rest,hl,h=>by
   have hn:=h n (by simp)
   obtain ⟨l',h1,h2⟩:=pbody_needs f ns { st with needs:=st.needs++[([n],[49])] } 1 rest (by omega) (fun m hm=>h m (by simp[hm]))
   refine ⟨l',h1,?_⟩
   have e:(n::ns).map needL++rest=needL n::(ns.map needL++rest):=rfl
   rw[e,Arc.pbody,need_sp hn]
   have k1:kd ([[110,101,101,100,115],[n],[49]]:List S).head! = 1:=by rfl
   rw[k1,if_neg (by omega)]
   have p1:Arc.pline f st 1 ([[110,101,101,100,115],[n],[49]]:List S).tail=some { st with needs:=st.needs++[([n],[49])] }:=by
     have hv:Ver.fine [49]=true:=by decide
     show (if (1:Int)=1 then (if Ver.fine [49]&&Wd.isName [n] then some _ else none) else _)=_
     rw[if_pos rfl,hv,(ltr_name hn).1]
     rfl
   rw[p1]
   show Arc.pbody f _ 1 _=_
   rw[h2]
   simp
theorem pbody_file (f:S→S) (hf:f green=[98,97,52,55,56,56,98,50,50,54,97,97,56,100,99,50]) {c:UInt8} (hc:Ltr c) (st:St) (last:Int) (hl:last≤1) (rest:List S) (h1:st.files=[]) (h2:st.left=green) :
   Arc.pbody f st last (fileL c::rest)=Arc.pbody f { st with files:=[(binP [c],green)],left:=[] } 4 rest:=by
 rw[Arc.pbody,file_sp hc]
 have k1:kd ([[102,105,108,101],binP [c],[53],[98,97,52,55,56,56,98,50,50,54,97,97,56,100,99,50]]:List S).head! = 4:=by rfl
 rw[k1,if_neg (by omega)]
 have hz:sz [53]=5:=by decide
 have hg:green.take 5=green:=by decide
 have hd:green.drop 5=[]:=by decide
 have hgl:(green.length:Int)=5:=by decide
 have p1:Arc.pline f st 4 ([[102,105,108,101],binP [c],[53],[98,97,52,55,56,56,98,50,50,54,97,97,56,100,99,50]]:List S).tail=some { st with files:=[(binP [c],green)],left:=[] }:=by
   unfold Arc.pline
   rw[if_neg (by decide),if_neg (by decide),if_neg (by decide),if_pos rfl]
   simp only[List.tail_cons]
   rw[hz,h1,h2,show (5:Int).toNat=5 from rfl,hg,hd,hf,(bin_path hc).1,(bin_path hc).2]
   rw[if_pos ⟨by decide,by omega,rfl,rfl,rfl,rfl⟩]
   rfl
 rw[p1]
theorem pbody_run (f:S→S) {c:UInt8} (hc:Ltr c) (st:St) (o:Bool) (h0:st.runs=[]) :
   Arc.pbody f st 4 (if o then [runL c] else [])=some { st with runs:=if o then [⟨2,wOrder,[c],[]⟩] else [] }:=by
 cases o
 · simp[Arc.pbody,← h0]
 · simp only[if_true]
   rw[Arc.pbody,run_sp hc]
   have k1:kd ([[114,117,110],[97,100,100],wOrder,[c]]:List S).head! = 5:=by rfl
   rw[k1,if_neg (by decide)]
   have pc:Arc.pcmd [[97,100,100],wOrder,[c]]=(⟨2,wOrder,[c],[]⟩,true):=by
     have v1:Arc.vb [97,100,100]=2:=by rfl
     unfold Arc.pcmd
     rw[v1,if_pos (by decide)]
     simp only
     rw[word_ltr hc,order_var]
     rfl
   have p1:Arc.pline f st 5 ([[114,117,110],[97,100,100],wOrder,[c]]:List S).tail=some { st with runs:=[⟨2,wOrder,[c],[]⟩] }:=by
     unfold Arc.pline
     rw[if_neg (by decide),if_neg (by decide),if_neg (by decide),if_neg (by decide),if_pos rfl]
     simp only[List.tail_cons]
     have hp:∀ x:Cmd × Bool,x=(⟨2,wOrder,[c],[]⟩,true)→(if x.2=true∧x.1.verb≠5 then some { st with runs:=st.runs++[x.1] } else none)=some { st with runs:=[⟨2,wOrder,[c],[]⟩] }:=by
       rintro x rfl
       rw[if_pos ⟨rfl,show (2:Int)≠5 by decide⟩,h0]
       rfl
     exact hp _ pc
   rw[p1]
   rfl
theorem linesOf_len (ns:List UInt8):(linesOf (ns.map needL)).length=10*ns.length:=by
 induction ns with
 | nil=>rfl
 | cons n ns ih =>
   simp only[linesOf,List.map_cons,List.flatMap_cons,List.length_append] at ih ⊢
   rw[ih];simp[needL];omega
theorem madeT_len (c v:UInt8) (ns:List UInt8) (o:Bool):(madeT c v ns o).length≤90+10*ns.length:=by
 have e:madeT c v ns o=linesOf (headL c v)++(linesOf (ns.map needL)++(linesOf (fileL c::if o then [runL c] else [])++10::green)):=by
   simp[madeT,madeL,linesOf]
 rw[e,List.length_append,List.length_append,linesOf_len]
 have h1:(linesOf (headL c v)).length=25:=by rfl
 have h2:(linesOf (fileL c::if o then [runL c] else [])++10::green).length≤60:=by cases o<;>simp[linesOf,fileL,runL,green]
 omega
theorem made_lines {c v:UInt8} (hc:Ltr c) (hv:v=49∨v=50) {ns:List UInt8} (hns:∀ n∈ns,Ltr n) (o:Bool):∀ l∈madeL c v ns o,l≠[]∧∀ x∈l,x≠10:=by
 have h1:∀ l∈headL c v,l≠[]∧∀ x∈l,x≠10:=by
   rcases hv with rfl | rfl<;>rcases hc with rfl | rfl | rfl | rfl | rfl | rfl | rfl<;>decide
 have h2:∀ l∈(fileL c::if o then [runL c] else []),l≠[]∧∀ x∈l,x≠10:=by
   cases o<;>rcases hc with rfl | rfl | rfl | rfl | rfl | rfl | rfl<;>decide
 intro l hl
 unfold madeL at hl
 rcases List.mem_append.1 hl with hl | hl
 · exact h1 l hl
 · rcases List.mem_append.1 hl with hl | hl
   · obtain ⟨n,hn,rfl⟩:=List.mem_map.1 hl
     have:=hns n hn
     rcases this with rfl | rfl | rfl | rfl | rfl | rfl | rfl<;>decide
   · exact h2 l hl
theorem parse_made (c v:UInt8) (hc:Ltr c) (hv:v=49∨v=50) (ns:List UInt8) (hns:∀ n∈ns,Ltr n) (hl:ns.length≤6) (o:Bool) :
   Arc.parse (short kTab) (madeT c v ns o)=some ([c],[v],madeSt c ns o):=by
 have hlen:=madeT_len c v ns o
 have hL:=made_lines hc hv hns o
 have hne:madeL c v ns o≠[]:=by simp[madeL,headL]
 have hh:Arc.headOk Arc.wHaven (Arc.wName++[c]) (Arc.wVersion++[v])=true∧Arc.behind Arc.wName (Arc.wName++[c])=[c]∧Arc.behind Arc.wVersion (Arc.wVersion++[v])=[v]:=by
   rcases hv with rfl | rfl<;>rcases hc with rfl | rfl | rfl | rfl | rfl | rfl | rfl<;>decide
 unfold Arc.parse
 rw[if_neg (by omega)]
 have e1:cutTwo (madeT c v ns o)=some (glue (madeL c v ns o),green):=cutTwo_glue green _ hne hL
 have e2:sp 10 (glue (madeL c v ns o))=Arc.wHaven::(Arc.wName++[c])::(Arc.wVersion++[v])::(ns.map needL++(fileL c::if o then [runL c] else [])):=(sp_glue _ hne (fun l q=>(hL l q).2)).trans rfl
 rw[e1]
 simp only
 rw[e2]
 simp only
 rw[if_neg (by cases o<;>simp<;>omega),if_pos hh.1]
 obtain ⟨l',h1,h2⟩:=pbody_needs (short kTab) ns (.of green) 0 (fileL c::if o then [runL c] else []) (by omega) hns
 rw[h2,pbody_file (short kTab) short_green hc _ l' h1 _ rfl rfl,pbody_run (short kTab) hc _ o rfl]
 simp only[if_true]
 rw[hh.2.1,hh.2.2]
 rfl
theorem item_made (c v:UInt8) (hc:Ltr c) (hv:v=49∨v=50) (ns:List UInt8) (hns:∀ n∈ns,Ltr n) (hl:ns.length≤6) (o:Bool) :
   itemOf (43::madeT c v ns o)=some (.ins (madeT c v ns o) [c] [v] (madeSt c ns o)):=by
 have hlen:=madeT_len c v ns o
 unfold itemOf
 simp only
 rw[if_neg (by decide),if_pos trivial,if_neg (by omega),parse_made c v hc hv ns hns hl o]
 rfl
theorem item_rem {c:UInt8} (hc:Ltr c):itemOf [45,c]=some (.rem [c]):=by
 unfold itemOf
 simp only
 rw[if_pos trivial,(ltr_name hc).1]
 rfl
end Hv
namespace Hv
def madePD (c v:UInt8) (ns:List UInt8) (o:Bool) (s:Int):PD:=⟨madeT c v ns o,[c],[v],madeSt c ns o,s⟩
theorem named_made {c v:UInt8} {ns:List UInt8} {o:Bool} {s:Int} (hc:Ltr c) (hv:v=49∨v=50) (hns:∀ n∈ns,Ltr n) (hl:ns.length≤6):PDok (madePD c v ns o s):=parse_made c v hc hv ns hns hl o
theorem nocopy_made (c v:UInt8) (ns:List UInt8) (o:Bool) (s:Int):NoCopy (madePD c v ns o s).st.runs∧NoCopy (madePD c v ns o s).st.wokens:=by
 refine ⟨fun x hx => ?_,fun x hx=>by cases hx⟩
 cases o
 · cases hx
 · have:x=⟨2,wOrder,[c],[]⟩:=by simpa [madePD,madeSt] using hx
   rw[this];show (2:Int)≠3;decide
theorem confG_quiet {T:VM PD}:∀ (l:List S) (G:VM S),(∀ x d,get T x=some d→d.st.runs=[])→confG T l G=G
 | [],_,_=>rfl
 | x::l,G,h=>by
   have e:confG T (x::l) G=confG T l (match get T x with | none=>G | some d=>runC T [] G d.st.runs):=rfl
   rw[e]
   cases q:get T x with
   | none=>exact confG_quiet l G h
   | some d=>simp only[h x d q];exact confG_quiet l G h
theorem wake_none {T:VM PD} (h:∀ k d,get T k=some d→d.st.wakes=[]) (sT:Srt T) (ch:List S):wakeD T ch=[]:=by
 unfold wakeD
 rw[List.filterMap_eq_nil_iff]
 intro p hp
 have:=h p.1 p.2 ((get_some sT).2 hp)
 rw[if_pos (by unfold wokenBy;rw[List.filter_eq_nil_iff];intro x _;simp[this])]
theorem small_no {D:VM PD} {xs:List S} (h:sumT D+(xs.map List.length).sum≤5000):smallB 300 D xs=false:=by
 unfold smallB sizeN
 rw[sumT_V]
 simp only[decide_eq_false_iff_not]
 omega
end Hv
end
namespace Ver
def d1 (n:Nat):UInt8:=(48+n).toUInt8
def dg (n:Nat):List UInt8:=if n<10 then [d1 n] else if n<100 then [d1 (n / 10),d1 (n%10)] else [d1 (n / 100),d1 (n / 10%10),d1 (n%10)]
def tr (n:Nat):List UInt8:=if n=0 then [] else dg n
def two (y:Nat):List UInt8:=49::46::48::dg y
end Ver
section
open Go.RowKit
def pk (c n:Int):Int:=(if c<0 then -(c+1) else c)%n
def dI (z:Int):UInt8:=(48+z%10).toNat.toUInt8
theorem digit_made (W:World) (z:Int):(convert 47 9 (.slice (some ⟨W.heap.size,0,none⟩) 1 1)).run Tryz.prog (W.alloc (.cells #[.int .u8 (48+z%10)] 5)) =
   .ok (.string ⟨[dI z].toArray⟩) (W.alloc (.cells #[.int .u8 (48+z%10)] 5)):=by
 refine run_convert_bytes_back _ 47 9 5 ⟨W.heap.size,0,none⟩ 1 [dI z] Tryz.underlying47 Tryz.underlying5 Tryz.underlying9 ?_
 intro j hj
 have hj0:j=0:=by simpa using hj
 subst hj0
 have hv:((dI z).toNat:Int)=48+z%10:=by
   show ((UInt8.ofNat (48+z%10).toNat).toNat:Int)=_
   rw[UInt8.toNat_ofNat'];omega
 simp[go_sem,Addr.add,hv]
theorem dI_d1 {n:Nat} (z:Int) (h:z=n):dI z=Ver.d1 (n%10):=by
 subst h;simp only[dI,Ver.d1];congr 1
def Dig (n:Nat) (q:Int) (l:List UInt8):Prop :=
 (q=n∧l=[Ver.d1 (n%10)])∨(10≤n∧q=(n / 10:Nat)∧l=[Ver.d1 (n / 10%10),Ver.d1 (n%10)])∨(100≤n∧q=(n / 100:Nat)∧l=[Ver.d1 (n / 100%10),Ver.d1 (n / 10%10),Ver.d1 (n%10)])
theorem dig_next {n:Nat} (hn:n<1000) {q:Int} {l:List UInt8} (h:Dig n q l) (hq:10≤q):Dig n (q / 10) (dI (q / 10)::l):=by
 rcases h with ⟨rfl,rfl⟩ | ⟨h1,rfl,rfl⟩ | ⟨h1,rfl,rfl⟩
 · exact .inr (.inl ⟨by omega,by omega,by rw[dI_d1 (n:=n / 10) _ (by omega)]⟩)
 · exact .inr (.inr ⟨by omega,by omega,by rw[dI_d1 (n:=n / 100) _ (by omega)]⟩)
 · omega
theorem dig_done {n:Nat} (hn:n<1000) {q:Int} {l:List UInt8} (h:Dig n q l) (hq : ¬ 10≤q):l=Ver.dg n:=by
 rcases h with ⟨rfl,rfl⟩ | ⟨h1,rfl,rfl⟩ | ⟨h1,rfl,rfl⟩
 · have:n<10:=by omega
   simp[Ver.dg,this,Nat.mod_eq_of_lt this]
 · have h2 : ¬ n<10:=by omega
   have h3:n<100:=by omega
   simp[Ver.dg,h2,h3,Nat.mod_eq_of_lt (show n / 10<10 by omega)]
 · have h2 : ¬ n<10:=by omega
   have h3 : ¬ n<100:=by omega
   simp[Ver.dg,h2,h3,Nat.mod_eq_of_lt (show n / 100<10 by omega)]
theorem dig_le {n:Nat} {q:Int} {l:List UInt8} (h:Dig n q l) (hn:n<1000):l.length≤3∧0≤q∧q<1000:=by
 rcases h with ⟨rfl,rfl⟩ | ⟨h1,rfl,rfl⟩ | ⟨h1,rfl,rfl⟩<;>simp<;>omega
theorem list_append (x y:List UInt8):(⟨x.toArray⟩:ByteArray)++⟨y.toArray⟩=⟨(x++y).toArray⟩:=by
 apply bytes_ext;simp
theorem digits_any (n:Nat) (hn:n<1000) (w:World) :
   Calls Tryz.prog 16 #[.int .i64 n] w fun e w'=>e = .returned (.string ⟨(Ver.dg n).toArray⟩)∧Below w.heap.size w w':=by
 have hm:=digit_made
 go_enter Tryz.func16,Tryz.ntmps16
 go_wp2_with fail
 go_loopw [0,3] (fun a b wr=>∃ (q:Int) (l:List UInt8),Dig n q l∧a = .int .i64 q∧b = .string ⟨l.toArray⟩∧Below w.heap.size w wr) (fun a _ _=>(intOf a).toNat)
 case atStart=>exact ⟨_,_, .inl ⟨rfl,by rw[dI_d1 (n:=n) _ rfl]⟩,rfl,rfl,(Below.refl _ _).alloc (Nat.le_refl _) _⟩
 case round =>
   obtain ⟨q,l,hd,rfl,rfl,hb⟩:=hrel
   have HD:=hide hd
   obtain ⟨hl,hq0,hq1⟩:=dig_le hd hn
   clear hd
   have HB:=hide hb;clear hb
   by_cases hq:10≤q
   · go_wp2_with fail
     exact ⟨⟨q / 10,_,dig_next hn HD.out hq,rfl,congrArg Value.string (list_append [dI (q / 10)] l),HB.out.alloc HB.out.size _⟩,by simp[intOf];omega⟩
   · go_wp2_with fail
     go_ret
     have he:=dig_done hn HD.out (by omega)
     exact ⟨ret_str (by rw[he]),HB.out⟩
end
end Go.Proofs.YtialenebfcnkkaaGreatDoor
