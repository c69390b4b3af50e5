/- KeepW1, WokSpec, WokSpec2, WokSpec3, OrdSpec2, OrdSpec3, FreshSpec, HavW5 -/
import Derived.Test.YtialenebfcnkkaaGreatDoorWokJ30
import Derived.Test.YtialenebfcnkkaaGreatDoorWokJ26
set_option maxHeartbeats 2000000
set_option maxRecDepth 100000
namespace Go.Proofs.YtialenebfcnkkaaGreatDoor
section
open Go.RowKit
open Arc (St Cmd)
open Hv (S Dk VM)
theorem pickN_any (c n:Int) (hn:0<n) (hn2:n≤1000) (h0 : -9223372036854775808≤c) (h1:c≤9223372036854775807) (w:World) :
   Calls Tryz.prog 7 #[.int .i64 c, .int .i64 n] w fun e w'=>e = .returned (.int .i64 (pk c n))∧w'=w:=by
 have hz : ¬ n=0:=by omega
 have hm : ¬ n = -1:=by omega
 by_cases hc:c<0
 · have e:pk c n=(-(c+1))%n:=by simp[pk,hc]
   rw[e]
   have h:=Int.tmod_eq_emod_of_nonneg (a := -(c+1)) (b:=n) (by omega)
   have k1:=Int.emod_nonneg (-(c+1)) hz
   have k2:=Int.emod_lt_of_pos (-(c+1)) hn
   have k3:IntKind.i64.wrap (c+1)=c+1:=by rw[IntKind.wrap_i64];omega
   have k4:IntKind.i64.wrap (-(c+1)) = -(c+1):=by rw[IntKind.wrap_i64];omega
   obtain ⟨r,hr⟩:∃ r,(-(c+1))%n=r:=⟨_,rfl⟩
   rw[hr] at h k1 k2 ⊢
   go_enter Tryz.func7,Tryz.ntmps7
   go_wp2
   go_ret
   rw[Int.neg_tmod] at h
   exact ⟨ret_int (by omega),rfl⟩
 · have e:pk c n=c%n:=by simp[pk,hc]
   rw[e]
   have h:=Int.tmod_eq_emod_of_nonneg (a:=c) (b:=n) (by omega)
   have k1:=Int.emod_nonneg c hz
   have k2:=Int.emod_lt_of_pos c hn
   obtain ⟨r,hr⟩:∃ r,c%n=r:=⟨_,rfl⟩
   rw[hr] at h k1 k2 ⊢
   go_enter Tryz.func7,Tryz.ntmps7
   go_wp2
   go_ret
   exact ⟨ret_int (by omega),rfl⟩
def ltr (k:Nat):UInt8:=UInt8.ofNat (97+k)
theorem ltr_is {k:Nat} (h:k<6):Hv.Ltr (ltr k):=by
 have:k=0∨k=1∨k=2∨k=3∨k=4∨k=5:=by omega
 rcases this with rfl | rfl | rfl | rfl | rfl | rfl<;>(unfold Hv.Ltr ltr;decide)
theorem letter_any (k:Nat) (hk:k<6) (w:World) :
   Calls Tryz.prog 8 #[.int .i64 k] w fun e w'=>e = .returned (.string ⟨([ltr k]:S).toArray⟩)∧w'=w:=by
 have:k=0∨k=1∨k=2∨k=3∨k=4∨k=5:=by omega
 rcases this with rfl | rfl | rfl | rfl | rfl | rfl
 all_goals
   go_enter Tryz.func8,Tryz.ntmps8
   go_wp2
   go_ret
   exact ⟨rfl,rfl⟩
def arcS (x:S) (v:Nat) (a b:S):S:=[43,104,97,118,101,110,32,49,10,110,97,109,101,32]++x++[10,118,101,114,115,105,111,110,32]++Ver.dg v++[10]++a++[102,105,108,101,32,47,98,105,110,47]++x++[32,53,32,98,97,52,55,56,56,98,50,50,54,97,97,56,100,99,50,10]++b++[10,103,114,101,101,110]
theorem archive_any (x a b:S) (v:Nat) (hv:v<10) (hx:x.length≤1000) (ha:a.length≤1000) (hb:b.length≤1000) (w:World) :
   Calls Tryz.prog 9 #[.string ⟨x.toArray⟩, .int .i64 v, .string ⟨a.toArray⟩, .string ⟨b.toArray⟩] w fun e w'=>e = .returned (.string ⟨(arcS x v a b).toArray⟩)∧Below w.heap.size w w':=by
 have hd:(Ver.dg v).length≤3:=by unfold Ver.dg;repeat' split<;>simp
 go_enter Tryz.func9,Tryz.ntmps9
 go_wp2_with fail
 refine (digits_any v (by omega) w).mono ?_
 rintro e w1 ⟨rfl,hb1⟩
 have HB1:=hide hb1
 have HA:Hid (arcS x v a b=_):=hide (by unfold arcS;rfl)
 obtain ⟨z,hz⟩:∃ z,Ver.dg v=z:=⟨_,rfl⟩
 rw[hz] at hd HA ⊢
 clear hb1 hz
 go_wp2_with fail
 go_ret
 refine ⟨?_,HB1.out⟩
 rw[HA.out]
 simp only[← list_append]
 rfl
theorem arc_made (k:Nat) {v:Nat} (hv:v=1∨v=2) (ns:List UInt8) (o:Bool) :
   arcS [UInt8.ofNat (97+k)] v (Hv.linesOf (ns.map Hv.needL)) (if o then Hv.runL (UInt8.ofNat (97+k))++[10] else [])=43::Hv.madeT (UInt8.ofNat (97+k)) (UInt8.ofNat (48+v)) ns o:=by
 have e:Ver.dg v=[UInt8.ofNat (48+v)]:=by rcases hv with rfl | rfl<;>rfl
 unfold arcS Hv.madeT Hv.madeL Hv.headL Hv.linesOf
 rw[e]
 obtain ⟨c,hc⟩:∃ c,UInt8.ofNat (97+k)=c:=⟨_,rfl⟩
 obtain ⟨d,hd⟩:∃ d,UInt8.ofNat (48+v)=d:=⟨_,rfl⟩
 rw[hc,hd]
 cases o<;>simp[Hv.fileL,Hv.runL,Arc.wHaven,Arc.wName,Arc.wVersion,green]
end
section
open Arc (St Cmd)
open Hv (S VM)
namespace Hv
def wMenu:S:=[109,101,110,117]
def wVMenu:S:=[47,118,97,114,47,109,101,110,117]
def wVCount:S:=[47,118,97,114,47,99,111,117,110,116]
def menuT:S:=[104,97,118,101,110,32,49,10,110,97,109,101,32,109,101,110,117,10,118,101,114,115,105,111,110,32,49,10,119,97,107,101,115,32,47,98,105,110,10,119,111,107,101,110,32,108,105,115,116,32,47,118,97,114,47,109,101,110,117,10,119,111,107,101,110,32,97,100,100,32,47,118,97,114,47,99,111,117,110,116,32,120,10,10]
def menuSt:St:=⟨[],[],[[47,98,105,110]],[],[],[⟨5,wVMenu,[],[]⟩,⟨2,wVCount,[120],[]⟩],[]⟩
theorem parse_menu:Arc.parse (short kTab) menuT=some (wMenu,[49],menuSt):=by kernel_rfl
def menuPD (s:Int):PD:=⟨menuT,wMenu,[49],menuSt,s⟩
theorem item_menu:itemOf (43::menuT)=some (.ins menuT wMenu [49] menuSt):=by
 unfold itemOf
 simp only
 rw[if_neg (by decide),if_pos trivial,if_neg (by decide),parse_menu]
 rfl
structure ShelfD (V:Nat→Nat) (D:VM PD):Prop where
 srt:Srt D
 get:∀ k d,get D k=some d ↔ (k=wMenu∧d=menuPD 2) ∨ ∃ j,j<6∧0<V j∧k=[ltr j]∧d=madePD (ltr j) (UInt8.ofNat (48+V j)) [] false 2
abbrev goes (V:Nat→Nat) (j:Nat):Prop:=0<V j∧j%2=0
def itemAt (V:Nat→Nat) (r j:Nat):S:=if goes V j then [45,ltr j] else 43::madeT (ltr j) (UInt8.ofNat (48+r)) [] false
def itemI (V:Nat→Nat) (r j:Nat):Item:=if goes V j then .rem [ltr j] else .ins (madeT (ltr j) (UInt8.ofNat (48+r)) [] false) [ltr j] [UInt8.ofNat (48+r)] (madeSt (ltr j) [] false)
def nextV (V:Nat→Nat) (r:Nat) (ks:List Nat) (j:Nat):Nat:=if j∈ks then (if goes V j then 0 else r) else V j
theorem ltr_inj {i j:Nat} (hi:i<6) (hj:j<6) (h:ltr i=ltr j):i=j:=by
 have hi':i=0∨i=1∨i=2∨i=3∨i=4∨i=5:=by omega
 have hj':j=0∨j=1∨j=2∨j=3∨j=4∨j=5:=by omega
 rcases hi' with rfl | rfl | rfl | rfl | rfl | rfl<;>rcases hj' with rfl | rfl | rfl | rfl | rfl | rfl<;>first | rfl | (exfalso;revert h;decide)
theorem ltr_menu (j:Nat):wMenu≠[ltr j]:=by intro h;have:=congrArg List.length h;simp[wMenu] at this
theorem itemI_name (V:Nat→Nat) (r j:Nat):(itemI V r j).name=[ltr j]:=by unfold itemI;split<;>rfl
theorem itemAt_I {V:Nat→Nat} {r j:Nat} (hj:j<6) (hr:r=1∨r=2):itemOf (itemAt V r j)=some (itemI V r j):=by
 unfold itemAt itemI
 split
 · exact item_rem (ltr_is hj)
 · exact item_made _ _ (ltr_is hj) (by rcases hr with rfl | rfl;exact .inl rfl;exact .inr rfl) [] (fun n hn=>by cases hn) (by simp) false
theorem itemAt_len (V:Nat→Nat) (r j:Nat):(itemAt V r j).length≤100:=by
 unfold itemAt;split
 · simp
 · have:=madeT_len (ltr j) (UInt8.ofNat (48+r)) [] false;simp at this ⊢;omega
structure Ks (ks:List Nat):Prop where
 lt:∀ j∈ks,j<6
 fall:ks.Pairwise fun a b=>b<a
theorem Ks.nodup {ks:List Nat} (h:Ks ks):ks.Nodup:=h.fall.imp fun {a b} q e=>by omega
theorem Ks.len {ks:List Nat} (h:Ks ks):ks.length≤6:=by
 have:=h.nodup.length_le_of_subset (l₂:=[0,1,2,3,4,5]) (fun j hj=>by have:=h.lt j hj;simp;omega)
 simpa using this
theorem items_map {V:Nat→Nat} {r:Nat} (hr:r=1∨r=2):∀ {ks:List Nat},(∀ j∈ks,j<6)→(ks.map (itemAt V r)).map itemOf=(ks.map (itemI V r)).map some
 | [],_=>rfl
 | j::ks,h=>by
   simp only[List.map_cons]
   rw[itemAt_I (h j (by simp)) hr,items_map hr (fun i hi=>h i (by simp[hi]))]
theorem items_names (V:Nat→Nat) (r:Nat) (ks:List Nat):(ks.map (itemI V r)).map Item.name=ks.map fun j=>[ltr j]:=by
 rw[List.map_map]
 refine List.map_congr_left fun j _=>itemI_name V r j
theorem items_nodup {ks:List Nat} (h:Ks ks) (V:Nat→Nat) (r:Nat):((ks.map (itemI V r)).map Item.name).Nodup:=by
 rw[items_names,List.nodup_iff_pairwise_ne,List.pairwise_map]
 have h1:=h.fall
 have h2:=h.lt
 clear h
 induction ks with
 | nil=>exact List.Pairwise.nil
 | cons a ks ih =>
   obtain ⟨x,y⟩:=List.pairwise_cons.1 h1
   refine List.pairwise_cons.2 ⟨fun b hb e => ?_,ih y (fun j hj=>h2 j (by simp[hj]))⟩
   have:=x b hb
   have e':ltr a=ltr b:=by simpa using e
   have:=ltr_inj (h2 a (by simp)) (h2 b (by simp[hb])) e'
   omega
theorem rem_mem {V:Nat→Nat} {r:Nat} {ks:List Nat} {nm:S}:Item.rem nm∈ks.map (itemI V r) ↔ ∃ j∈ks,goes V j∧nm=[ltr j]:=by
 rw[List.mem_map]
 constructor
 · rintro ⟨j,hj,e⟩
   unfold itemI at e
   split at e
   · next g=>cases e;exact ⟨j,hj,g,rfl⟩
   · cases e
 · rintro ⟨j,hj,g,rfl⟩
   exact ⟨j,hj,by unfold itemI;rw[if_pos g]⟩
theorem ins_mem {V:Nat→Nat} {r:Nat} {ks:List Nat} {t nm ve:S} {st:St}:Item.ins t nm ve st∈ks.map (itemI V r) ↔ ∃ j∈ks,¬ goes V j∧t=madeT (ltr j) (UInt8.ofNat (48+r)) [] false∧nm=[ltr j]∧ve=[UInt8.ofNat (48+r)]∧st=madeSt (ltr j) [] false:=by
 rw[List.mem_map]
 constructor
 · rintro ⟨j,hj,e⟩
   unfold itemI at e
   split at e
   · cases e
   · next g=>cases e;exact ⟨j,hj,g,rfl,rfl,rfl,rfl⟩
 · rintro ⟨j,hj,g,rfl,rfl,rfl,rfl⟩
   exact ⟨j,hj,by unfold itemI;rw[if_neg g]⟩
theorem shelf_toBe {V:Nat→Nat} {D:VM PD} (h:ShelfD V D) {r:Nat} {ks:List Nat} (hk:Ks ks) (k:S) (d:PD) :
   get (toBeD D (itemsW (ks.map (itemI V r))).R (itemsW (ks.map (itemI V r))).I) k=some d ↔ (k=wMenu∧d=menuPD 2)∨(∃ j,j∈ks ∧ ¬ goes V j∧k=[ltr j]∧d=madePD (ltr j) (UInt8.ofNat (48+r)) [] false 1) ∨ ∃ j,j<6∧j ∉ ks∧0<V j∧k=[ltr j]∧d=madePD (ltr j) (UInt8.ofNat (48+V j)) [] false 2:=by
 rw[toBe_items h.srt (items_nodup hk V r),h.get,items_names]
 constructor
 · rintro (⟨t,ve,st,m,rfl⟩ | ⟨q | ⟨j,hj,hv,rfl,rfl⟩,hn⟩)
   · obtain ⟨j,hj,g,rfl,rfl,rfl,rfl⟩:=ins_mem.1 m
     exact .inr (.inl ⟨j,hj,g,rfl,rfl⟩)
   · exact .inl q
   · exact .inr (.inr ⟨j,hj,fun hm=>hn (List.mem_map.2 ⟨j,hm,rfl⟩),hv,rfl,rfl⟩)
 · rintro (⟨rfl,rfl⟩ | ⟨j,hj,g,rfl,rfl⟩ | ⟨j,hj,hn,hv,rfl,rfl⟩)
   · refine .inr ⟨.inl ⟨rfl,rfl⟩,fun m => ?_⟩
     obtain ⟨j,_,e⟩:=List.mem_map.1 m
     exact ltr_menu j e.symm
   · exact .inl ⟨_,_,_,ins_mem.2 ⟨j,hj,g,rfl,rfl,rfl,rfl⟩,rfl⟩
   · refine .inr ⟨.inr ⟨j,hj,hv,rfl,rfl⟩,fun m => ?_⟩
     obtain ⟨i,hi,e⟩:=List.mem_map.1 m
     have e':ltr i=ltr j:=by simpa using e
     exact hn (ltr_inj (hk.lt i hi) hj e'▸hi)
theorem shelf_names {V:Nat→Nat} {D:VM PD} (h:ShelfD V D) {r:Nat} {ks:List Nat} (hk:Ks ks):∀ k,has (toBeD D (itemsW (ks.map (itemI V r))).R (itemsW (ks.map (itemI V r))).I) k=true→k∈[wMenu,[ltr 0],[ltr 1],[ltr 2],[ltr 3],[ltr 4],[ltr 5]]:=fun k q=>by
 rw[has_get] at q
 obtain ⟨d,hd⟩:=Option.isSome_iff_exists.1 q
 have key:∀ j,j<6→k=[ltr j]→k∈[wMenu,[ltr 0],[ltr 1],[ltr 2],[ltr 3],[ltr 4],[ltr 5]]:=fun j hj e=>by
   subst e
   have:j=0∨j=1∨j=2∨j=3∨j=4∨j=5:=by omega
   rcases this with rfl | rfl | rfl | rfl | rfl | rfl<;>simp
 rcases (shelf_toBe h hk k d).1 hd with ⟨rfl,_⟩ | ⟨j,hj,_,e,_⟩ | ⟨j,hj,_,_,e,_⟩
 · simp
 · exact key j (hk.lt j hj) e
 · exact key j hj e
theorem newer {V:Nat→Nat} {r j:Nat} (hr:r=1∨r=2) (h0:0<V j) (hv:V j<r):0<(Ver.compare [UInt8.ofNat (48+r)] [UInt8.ofNat (48+V j)]).1:=by
 have h1:V j=1:=by omega
 have h2:r=2:=by omega
 rw[h1,h2];decide
theorem shelf_fine {V:Nat→Nat} {D:VM PD} (h:ShelfD V D) {r:Nat} (hr:r=1∨r=2) (hv:∀ j,j<6→V j<r) {ks:List Nat} (hk:Ks ks):Fine D (ks.map (itemI V r)):=by
 refine ⟨fun nm m => ?_,fun t k ve st m o ho => ?_,?_,fun k d q => ?_,fun k d q => ?_⟩
 · obtain ⟨j,hj,g,rfl⟩:=rem_mem.1 m
   rw[has_get,(h.get _ _).2 (.inr ⟨j,hk.lt j hj,g.1,rfl,rfl⟩)];rfl
 · obtain ⟨j,hj,g,rfl,rfl,rfl,rfl⟩:=ins_mem.1 m
   rcases (h.get _ _).1 ho with ⟨e,_⟩ | ⟨i,hi,h0,e,rfl⟩
   · exact absurd e.symm (ltr_menu j)
   · have e':ltr j=ltr i:=by simpa using e
     obtain rfl:=ltr_inj (hk.lt j hj) hi e'
     exact newer hr h0 (hv j hi)
 · have:=len_keys (toBeD_srt h.srt _ _) (shelf_names h (r:=r) hk)
   simp at this
   omega
 · rcases (shelf_toBe h hk k d).1 q with ⟨_,rfl⟩ | ⟨j,_,_,_,rfl⟩ | ⟨j,_,_,_,_,rfl⟩<;>rfl
 · rcases (shelf_toBe h hk k d).1 q with ⟨_,rfl⟩ | ⟨j,_,_,rfl,rfl⟩ | ⟨j,_,_,_,rfl,rfl⟩
   · exact .inl rfl
   · exact .inr rfl
   · exact .inr rfl
end Hv
namespace Hv
theorem changed_has {D I:VM PD} {R:VM Value} (x:S):Srt (changedQ D R I)∧AllU (changedQ D R I)∧(has (changedQ D R I) x=true ↔ (∃ p∈R,x∈pathsAt D p.1) ∨ ∃ p∈I,x∈pathsAt D p.1∨x∈p.2.paths):=by
 obtain ⟨a,b,c⟩:=changedR_good D R [] List.Pairwise.nil (fun k v q=>by cases q)
 obtain ⟨a',b',c'⟩:=changedI_good D I (changedR D R []) a b
 refine ⟨a',b',?_⟩
 show has (changedI D I (changedR D R [])) x=true ↔ _
 rw[c',c]
 simp[has]
theorem mem_has {α:Type} {E:VM α} {k:S}:has E k=true ↔ ∃ v,(k,v)∈E:=by
 constructor
 · intro h
   obtain ⟨p,hp,e⟩:=List.any_eq_true.1 h
   simp only[beq_iff_eq] at e
   exact ⟨p.2,by rw[← e];exact hp⟩
 · rintro ⟨v,h⟩;exact any_has h
theorem bin_lt {i j:Nat} (hi:i<6) (hj:j<6) (h:i<j):bytesBefore (binP [ltr i]) (binP [ltr j])=true:=by
 have hi':i=0∨i=1∨i=2∨i=3∨i=4∨i=5:=by omega
 have hj':j=0∨j=1∨j=2∨j=3∨j=4∨j=5:=by omega
 rcases hi' with rfl | rfl | rfl | rfl | rfl | rfl<;>rcases hj' with rfl | rfl | rfl | rfl | rfl | rfl<;>first | omega | decide
def risePaths (ks:List Nat):List S:=ks.reverse.map fun j=>binP [ltr j]
theorem shelf_paths {V:Nat→Nat} {D:VM PD} (h:ShelfD V D) {r:Nat} {ks:List Nat} (hk:Ks ks):keysOf (changedQ D (itemsW (ks.map (itemI V r))).R (itemsW (ks.map (itemI V r))).I)=risePaths ks:=by
 have hok:=items_ok (ks.map (itemI V r)) (items_nodup hk V r)
 have hat:∀ j,j<6→0<V j→pathsAt D [ltr j]=[binP [ltr j]]:=fun j hj h0=>by
   unfold pathsAt
   rw[(h.get _ _).2 (.inr ⟨j,hj,h0,rfl,rfl⟩)]
   rfl
 have hno:∀ j,j<6→∀ x∈pathsAt D [ltr j],x=binP [ltr j]:=fun j hj x hx=>by
   unfold pathsAt at hx
   split at hx
   · cases hx
   next d hd =>
     rcases (h.get _ _).1 hd with ⟨e,_⟩ | ⟨i,hi,h0,e,rfl⟩
     · exact absurd e.symm (ltr_menu j)
     · have e':ltr j=ltr i:=by simpa using e
       rw[e']
       simpa [PD.paths,madePD,madeSt] using hx
 have hmem:∀ x,has (changedQ D (itemsW (ks.map (itemI V r))).R (itemsW (ks.map (itemI V r))).I) x=true ↔ ∃ j∈ks,x=binP [ltr j]:=fun x=>by
   rw[(changed_has x).2.2]
   constructor
   · rintro (⟨p,hp,hx⟩ | ⟨p,hp,hx⟩)
     · obtain ⟨j,hj,g,e⟩:=rem_mem.1 ((hok.rmem p.1).1 (any_has (v:=p.2) hp))
       rw[e] at hx
       exact ⟨j,hj,hno j (hk.lt j hj) x hx⟩
     · obtain ⟨t,ve,st,m,e⟩:=(hok.imem p.1 p.2).1 ((get_some hok.sI).2 hp)
       obtain ⟨j,hj,g, -,e2, -,e3⟩:=ins_mem.1 m
       rw[e2] at hx
       refine ⟨j,hj,?_⟩
       rcases hx with hx | hx
       · exact hno j (hk.lt j hj) x hx
       · rw[e,e3] at hx
         simpa [PD.paths,madeSt] using hx
   · rintro ⟨j,hj,rfl⟩
     by_cases g:goes V j
     · obtain ⟨v,hv⟩:=mem_has.1 ((hok.rmem [ltr j]).2 (rem_mem.2 ⟨j,hj,g,rfl⟩))
       exact .inl ⟨_,hv,by rw[hat j (hk.lt j hj) g.1];simp⟩
     · have:=(hok.imem [ltr j] _).2 ⟨_,_,_,ins_mem.2 ⟨j,hj,g,rfl,rfl,rfl,rfl⟩,rfl⟩
       exact .inr ⟨_,(get_some hok.sI).1 this, .inr (by simp[PD.paths,madeSt])⟩
 have hs:Srt (ks.reverse.map fun j=>(binP [ltr j],unitV)):=by
   unfold Srt
   rw[List.pairwise_map,List.pairwise_reverse]
   have h1:=hk.fall
   have h2:=hk.lt
   clear hmem hno hat hok hk h
   induction ks with
   | nil=>exact List.Pairwise.nil
   | cons a ks ih =>
     obtain ⟨x,y⟩:=List.pairwise_cons.1 h1
     exact List.pairwise_cons.2 ⟨fun b hb=>bin_lt (h2 b (by simp[hb])) (h2 a (by simp)) (x b hb),ih y (fun j hj=>h2 j (by simp[hj]))⟩
 have hu:AllU (ks.reverse.map fun j=>(binP [ltr j],unitV)):=fun k v q=>by
   obtain ⟨j,_,e⟩:=List.mem_map.1 ((get_some hs).1 q)
   cases e;rfl
 have e:changedQ D (itemsW (ks.map (itemI V r))).R (itemsW (ks.map (itemI V r))).I=ks.reverse.map fun j=>(binP [ltr j],unitV) :=
   uni_ext (changed_has []).1 hs (changed_has []).2.1 hu fun x=>by
     rw[hmem,mem_has]
     constructor
     · rintro ⟨j,hj,rfl⟩;exact ⟨unitV,List.mem_map.2 ⟨j,by simpa using hj,rfl⟩⟩
     · rintro ⟨v,m⟩
       obtain ⟨j,hj,e⟩:=List.mem_map.1 m
       cases e
       exact ⟨j,by simpa using hj,rfl⟩
 rw[e]
 simp[keysOf,risePaths,List.map_map,Function.comp_def]
theorem bin_pre (x:S):Lib.hasPrefix (binP x) [47,98,105,110]=true:=by
 simp[Lib.hasPrefix,binP,List.isPrefixOf]
theorem menu_woken (ks:List Nat):wokenBy (menuPD 2) (risePaths ks)=risePaths ks:=by
 unfold wokenBy
 rw[List.filter_eq_self]
 intro x hx
 obtain ⟨j,_,rfl⟩:=List.mem_map.1 hx
 show ([[47,98,105,110]]:List S).any (fun s=>Lib.hasPrefix (binP [ltr j]) s)=true
 simp[bin_pre]
theorem made_woken (c v:UInt8) (s:Int) (ch:List S):wokenBy (madePD c v [] false s) ch=[]:=by
 unfold wokenBy
 rw[List.filter_eq_nil_iff]
 intro x _
 simp[madePD,madeSt]
theorem shelf_wake {V:Nat→Nat} {D:VM PD} (h:ShelfD V D) {r:Nat} {ks:List Nat} (hk:Ks ks) (hne:ks≠[]):(planD D (itemsW (ks.map (itemI V r))).R (itemsW (ks.map (itemI V r))).I).wak=[(wMenu,risePaths ks)]:=by
 show wakeD (toBeD D _ _) (keysOf (changedQ D _ _))=_
 rw[shelf_paths h hk]
 have hT:=toBeD_srt h.srt (itemsW (ks.map (itemI V r))).R (itemsW (ks.map (itemI V r))).I
 have hs1:Srt ([(wMenu,risePaths ks)]:VM (List S)):=by simp[Srt]
 have hrn:risePaths ks≠[]:=by simpa [risePaths] using hne
 refine (wakeD_srt hT _).get_ext hs1 fun k => ?_
 rw[wakeD_get hT]
 cases q:get (toBeD D (itemsW (ks.map (itemI V r))).R (itemsW (ks.map (itemI V r))).I) k with
 | none =>
   simp only
   symm
   rw[get_none]
   intro p hp e
   simp only[List.mem_singleton] at hp
   subst hp
   have:=(shelf_toBe (r:=r) h hk wMenu _).2 (.inl ⟨rfl,rfl⟩)
   rw[show k=wMenu from e.symm,this] at q
   cases q
 | some d =>
   simp only
   rcases (shelf_toBe h hk k d).1 q with ⟨rfl,rfl⟩ | ⟨j,hj,_,rfl,rfl⟩ | ⟨j,hj,_,_,rfl,rfl⟩
   · rw[menu_woken,if_neg hrn]
     symm
     exact (get_some hs1).2 (by simp)
   · rw[made_woken,if_pos rfl]
     symm
     rw[get_none]
     intro p hp
     simp only[List.mem_singleton] at hp
     subst hp
     exact ltr_menu j
   · rw[made_woken,if_pos rfl]
     symm
     rw[get_none]
     intro p hp
     simp only[List.mem_singleton] at hp
     subst hp
     exact ltr_menu j
structure CountG (n:Nat) (G:VM S):Prop where
 srt:Srt G
 keys:∀ k x,get G k=some x→(k=wVMenu∧x.length≤60)∨(k=wVCount∧x.length≤60)
 cnt:((get G wVCount).getD []).length=n
theorem CountG.len {n:Nat} {G:VM S} (h:CountG n G):G.length≤2:=by
 have:=len_keys h.srt (ks:=[wVMenu,wVCount]) (fun k q=>by
   rw[has_get] at q
   obtain ⟨x,hx⟩:=Option.isSome_iff_exists.1 q
   rcases h.keys k x hx with ⟨rfl,_⟩ | ⟨rfl,_⟩<;>simp)
 simpa using this
theorem CountG.short {n:Nat} {G:VM S} (h:CountG n G):Short 200 G:=fun k x q=>by
 rcases h.keys k x q with ⟨_,hl⟩ | ⟨_,hl⟩<;>omega
theorem CountG.gk {n:Nat} {G:VM S} (h:CountG n G):GK G:=fun k x q=>by
 rcases h.keys k x q with ⟨rfl,_⟩ | ⟨rfl,_⟩<;>simp[wVMenu,wVCount]
theorem CountG.fits {n:Nat} {G:VM S} (h:CountG n G):fitsG G=true:=by
 simp only[fitsG,Bool.and_eq_true,decide_eq_true_eq,List.all_eq_true]
 refine ⟨by have:=h.len;omega,fun p hp => ?_⟩
 have:=h.short p.1 p.2 ((get_some h.srt).2 hp)
 exact this
def toldG (G:VM S) (ks:List Nat):VM S:=put (put G wVMenu (linesS (risePaths ks))) wVCount ((get G wVCount).getD []++[120])
theorem rise_lines_len:∀ ks:List Nat,(linesS (risePaths ks)).length=7*ks.length
 | []=>rfl
 | j::ks=>by
   have ih:=rise_lines_len ks
   simp only[risePaths,linesS,List.reverse_cons,List.map_append,List.map_cons,List.map_nil,List.flatMap_append,List.flatMap_cons,List.flatMap_nil,List.length_append,List.append_nil] at ih ⊢
   rw[ih]
   simp[binP]
   omega
theorem CountG.told {n:Nat} {G:VM S} (h:CountG n G) (hn:n≤50) {ks:List Nat} (hk:Ks ks):CountG (n+1) (toldG G ks)∧get (toldG G ks) wVMenu=some (linesS (risePaths ks))∧∃ x,get (toldG G ks) wVCount=some x∧x.length=n+1:=by
 have s1:=h.srt.put wVMenu (linesS (risePaths ks))
 have hne:wVMenu≠wVCount:=by decide
 have e1:get (toldG G ks) wVMenu=some (linesS (risePaths ks)):=by
   unfold toldG
   rw[get_put_other s1 _ hne,get_put_same h.srt]
 have e2:get (toldG G ks) wVCount=some ((get G wVCount).getD []++[120]):=get_put_same s1 _ _
 have hl:=rise_lines_len ks
 have h6:=hk.len
 have hc:=h.cnt
 refine ⟨⟨s1.put _ _,fun k x q => ?_,by rw[e2];simp[hc]⟩,e1,_,e2,by simp[hc]⟩
 by_cases c1:k=wVCount
 · subst c1
   rw[e2] at q;cases q
   exact .inr ⟨rfl,by simp[hc];omega⟩
 · by_cases c2:k=wVMenu
   · subst c2
     rw[e1] at q;cases q
     exact .inl ⟨rfl,by omega⟩
   · have:get (toldG G ks) k=get G k:=by
       unfold toldG
       rw[get_put_other s1 _ c1,get_put_other h.srt _ c2]
     rw[this] at q
     exact h.keys k x q
theorem shelf_trig {T:VM PD} (hT:get T wMenu=some (menuPD 2)) {G:VM S} (hG:Srt G) (ks:List Nat):trigG T [(wMenu,risePaths ks)] (keysOf [(wMenu,risePaths ks)]) G=toldG G ks:=by
 have e:get ([(wMenu,risePaths ks)]:VM (List S)) wMenu=some (risePaths ks):=(get_some (by simp[Srt])).2 (by simp)
 show (match get T wMenu with | none=>G | some d=>runC T ((get ([(wMenu,risePaths ks)]:VM (List S)) wMenu).getD []) G d.st.wokens)=_
 rw[hT,e]
 show runC T (risePaths ks) G [⟨5,wVMenu,[],[]⟩,⟨2,wVCount,[120],[]⟩]=_
 have hne:wVCount≠wVMenu:=by decide
 show put (put G wVMenu (linesS (risePaths ks))) wVCount ((get (put G wVMenu (linesS (risePaths ks))) wVCount).getD []++[120])=_
 rw[get_put_other hG _ hne]
 rfl
end Hv
namespace Hv
theorem sumT_le {b:Nat}:∀ D:VM PD,(∀ p∈D,p.2.text.length≤b)→sumT D≤b*D.length
 | [],_=>by simp[sumT]
 | p::D,h=>by
   have h1:=sumT_le D (fun q hq=>h q (by simp[hq]))
   have h2:=h p (by simp)
   simp only[sumT,List.map_cons,List.sum_cons,List.length_cons] at h1 ⊢
   rw[Nat.mul_add]
   omega
theorem sum_le {b:Nat}:∀ xs:List S,(∀ x∈xs,x.length≤b)→(xs.map List.length).sum≤b*xs.length
 | [],_=>by simp
 | x::xs,h=>by
   have h1:=sum_le xs (fun q hq=>h q (by simp[hq]))
   have h2:=h x (by simp)
   simp only[List.map_cons,List.sum_cons,List.length_cons]
   rw[Nat.mul_add]
   omega
theorem menu_nocopy (s:Int):NoCopy (menuPD s).st.runs∧NoCopy (menuPD s).st.wokens:=by
 refine ⟨fun x hx=>(by cases hx),fun x hx => ?_⟩
 have:x=⟨5,wVMenu,[],[]⟩∨x=⟨2,wVCount,[120],[]⟩:=by simpa [menuPD,menuSt] using hx
 rcases this with rfl | rfl<;>decide
theorem two_ver {n:Nat} (h0:0<n) (h:n≤2):UInt8.ofNat (48+n)=49∨UInt8.ofNat (48+n)=50:=by
 have:n=1∨n=2:=by omega
 rcases this with rfl | rfl
 · exact .inl rfl
 · exact .inr rfl
theorem ShelfD.fine {V:Nat→Nat} {D:VM PD} (h:ShelfD V D) (hV:∀ j,j<6→V j≤2):DFine D:=by
 refine ⟨fun k d q => ?_, .inr fun k d q => ?_⟩
 · rcases (h.get k d).1 q with ⟨rfl,rfl⟩ | ⟨j,hj,h0,rfl,rfl⟩
   · exact ⟨rfl,parse_menu⟩
   · exact ⟨rfl,named_made (ltr_is hj) (two_ver h0 (hV j hj)) (fun n hn=>by cases hn) (by simp)⟩
 · rcases (h.get k d).1 q with ⟨rfl,rfl⟩ | ⟨j,hj,h0,rfl,rfl⟩
   · exact menu_nocopy 2
   · exact nocopy_made _ _ _ _ _
theorem ShelfD.len {V:Nat→Nat} {D:VM PD} (h:ShelfD V D):D.length≤7:=by
 have:=len_keys h.srt (ks:=[wMenu,[ltr 0],[ltr 1],[ltr 2],[ltr 3],[ltr 4],[ltr 5]]) (fun k q=>by
   rw[has_get] at q
   obtain ⟨d,hd⟩:=Option.isSome_iff_exists.1 q
   rcases (h.get k d).1 hd with ⟨rfl,_⟩ | ⟨j,hj,_,rfl,_⟩
   · simp
   · have:j=0∨j=1∨j=2∨j=3∨j=4∨j=5:=by omega
     rcases this with rfl | rfl | rfl | rfl | rfl | rfl<;>simp)
 simpa using this
theorem ShelfD.texts {V:Nat→Nat} {D:VM PD} (h:ShelfD V D):sumT D≤1050:=by
 have h1:=h.len
 have h2:=sumT_le (b:=150) D (fun p hp=>by
   rcases (h.get p.1 p.2).1 ((get_some h.srt).2 hp) with ⟨_,e⟩ | ⟨j,_,_,_,e⟩
   · rw[e];show menuT.length≤150;decide
   · rw[e];have:=madeT_len (ltr j) (UInt8.ofNat (48+V j)) [] false;rw[List.length_nil] at this;show (madeT _ _ _ _).length≤150;omega)
 omega
theorem woken_round {V:Nat→Nat} {D:VM PD} {G:VM S} {n:Nat} (h:ShelfD V D) (hG:CountG n G) (hn:n≤50) {r:Nat} (hr:r=1∨r=2) (hv:∀ j,j<6→V j<r) {ks:List Nat} (hk:Ks ks) (hne:ks≠[]) :
   ∃ pl D',check 300 D G (ks.map (itemAt V r)) = .ok pl∧0<pl.steps.length∧(∀ s,wish (ks.map (itemAt V r)) = .ok s→∀ k d,get s.I k=some d→NoCopy d.st.runs∧NoCopy d.st.wokens)∧runS pl (wokeW D pl.wak,G) pl.steps=(D',toldG G ks)∧ShelfD (nextV V r ks) D':=by
 have hnd:=items_nodup hk V r
 have hok:=items_ok _ hnd
 have hw:wish (ks.map (itemAt V r)) = .ok (itemsW (ks.map (itemI V r))):=by
   refine wish_items (items_map hr hk.lt) hnd ?_ ?_
   · rw[List.length_map]
     cases ks with
     | nil=>exact absurd rfl hne
     | cons a l=>simp
   · rw[List.length_map];exact hk.len
 have hf:=shelf_fine h hr hv hk
 have hT:=toBeD_srt h.srt (itemsW (ks.map (itemI V r))).R (itemsW (ks.map (itemI V r))).I
 have hruns:∀ x d,get (toBeD D (itemsW (ks.map (itemI V r))).R (itemsW (ks.map (itemI V r))).I) x=some d→d.st.runs=[]:=fun x d q=>by
   rcases (shelf_toBe h hk x d).1 q with ⟨_,rfl⟩ | ⟨j,_,_,_,rfl⟩ | ⟨j,_,_,_,_,rfl⟩<;>rfl
 have hneeds:∀ x d,get (toBeD D (itemsW (ks.map (itemI V r))).R (itemsW (ks.map (itemI V r))).I) x=some d→d.st.needs=[]:=fun x d q=>by
   rcases (shelf_toBe h hk x d).1 q with ⟨_,rfl⟩ | ⟨j,_,_,_,rfl⟩ | ⟨j,_,_,_,_,rfl⟩<;>rfl
 have href:=refuse_fine h.srt hnd hf (fun k d q m hm=>by rw[hneeds k d q] at hm;cases hm)
 have hmenu:=(shelf_toBe (r:=r) h hk wMenu _).2 (.inl ⟨rfl,rfl⟩)
 have hwak:=shelf_wake (r:=r) h hk hne
 have hconf:∀ l,confG (toBeD D (itemsW (ks.map (itemI V r))).R (itemsW (ks.map (itemI V r))).I) l G=G:=fun l=>confG_quiet l G hruns
 have htrig:=shelf_trig hmenu hG.srt ks
 have hover:=over_whole (D:=D) (G:=G) (R:=(itemsW (ks.map (itemI V r))).R) (I:=(itemsW (ks.map (itemI V r))).I) h.srt hG.srt hok.sI hG.fits (fun k _=>by rw[hconf];exact hG.fits) (fun k hk'=>by
   rw[hconf,hwak] at *
   have:(keysOf [(wMenu,risePaths ks)]).take (k+1)=keysOf [(wMenu,risePaths ks)]:=List.take_of_length_le (by simp[keysOf])
   rw[this,htrig]
   exact (hG.told hn hk).1.fits)
 have hsmall:smallB 300 D (ks.map (itemAt V r))=false:=by
   refine small_no ?_
   have h1:=h.texts
   have h2:=sum_le (b:=100) (ks.map (itemAt V r)) (fun x hx=>by obtain ⟨j,_,rfl⟩:=List.mem_map.1 hx;exact itemAt_len V r j)
   have h3:=hk.len
   rw[List.length_map] at h2
   omega
 have hst:∀ k d,get D k=some d→d.status=2:=fun k d q=>by
   rcases (h.get k d).1 q with ⟨_,rfl⟩ | ⟨j,_,_,_,rfl⟩<;>rfl
 have hrun:=run_whole (D:=D) (G:=G) (R:=(itemsW (ks.map (itemI V r))).R) (I:=(itemsW (ks.map (itemI V r))).I) h.srt hG.srt hok.sI hst
 refine ⟨_,_,check_of hw href hover hsmall,?_,?_,hrun.trans (Prod.ext rfl ?_),?_⟩
 · have e:=steps_eq D (itemsW (ks.map (itemI V r))).R (itemsW (ks.map (itemI V r))).I
   have ew:(planD D (itemsW (ks.map (itemI V r))).R (itemsW (ks.map (itemI V r))).I).wak=wakeD (toBeD D (itemsW (ks.map (itemI V r))).R (itemsW (ks.map (itemI V r))).I) (keysOf (changedQ D (itemsW (ks.map (itemI V r))).R (itemsW (ks.map (itemI V r))).I)):=rfl
   rw[← ew,hwak] at e
   rw[e]
   simp[keysOf]
   omega
 · intro s hs k d q
   rw[hw] at hs
   cases hs
   obtain ⟨t,ve,st,m,rfl⟩:=(hok.imem k d).1 q
   obtain ⟨j,_,_,_,_,_,rfl⟩:=ins_mem.1 m
   exact nocopy_made (ltr j) 49 [] false 1
 · show trigG _ _ _ _=_
   rw[hconf,hwak,htrig]
 · refine ⟨hT.map fun d:PD=>d.to 2,fun k d => ?_⟩
   rw[get_map (toBeD D (itemsW (ks.map (itemI V r))).R (itemsW (ks.map (itemI V r))).I) (fun d:PD=>d.to 2)]
   constructor
   · intro q
     cases q2:get (toBeD D (itemsW (ks.map (itemI V r))).R (itemsW (ks.map (itemI V r))).I) k with
     | none=>rw[q2] at q;cases q
     | some d0 =>
       rw[q2] at q
       cases q
       rcases (shelf_toBe h hk k d0).1 q2 with ⟨rfl,rfl⟩ | ⟨j,hj,g,rfl,rfl⟩ | ⟨j,hj,hn,hv0,rfl,rfl⟩
       · exact .inl ⟨rfl,rfl⟩
       · have e:nextV V r ks j=r:=by unfold nextV;rw[if_pos hj,if_neg g]
         exact .inr ⟨j,hk.lt j hj,by rw[e];omega,rfl,by rw[e];rfl⟩
       · have e:nextV V r ks j=V j:=by unfold nextV;rw[if_neg hn]
         exact .inr ⟨j,hj,by rw[e];exact hv0,rfl,by rw[e];rfl⟩
   · rintro (⟨rfl,rfl⟩ | ⟨j,hj,h0,rfl,rfl⟩)
     · rw[hmenu];rfl
     · by_cases hm:j∈ks
       · by_cases g:goes V j
         · have e:nextV V r ks j=0:=by unfold nextV;rw[if_pos hm,if_pos g]
           omega
         · have e:nextV V r ks j=r:=by unfold nextV;rw[if_pos hm,if_neg g]
           rw[e,(shelf_toBe (r:=r) h hk [ltr j] _).2 (.inr (.inl ⟨j,hm,g,rfl,rfl⟩))]
           rfl
       · have e:nextV V r ks j=V j:=by unfold nextV;rw[if_neg hm]
         rw[e] at h0 ⊢
         rw[(shelf_toBe (r:=r) h hk [ltr j] _).2 (.inr (.inr ⟨j,hj,hm,h0,rfl,rfl⟩))]
         rfl
theorem nextV_lt {V:Nat→Nat} {r:Nat} {ks:List Nat} (hv:∀ j,j<6→V j<r):∀ j,j<6→nextV V r ks j<r+1:=fun j hj=>by
 have:=hv j hj
 unfold nextV
 split
 · split<;>omega
 · omega
end Hv
namespace Hv
structure Six (nm:Nat→Nat):Prop where
 lt:∀ i,i<6→nm i<6
 inj:∀ i j,i<6→j<6→nm i=nm j→i=j
def nsL (nm:Nat→Nat) (nb:Nat→Nat→Bool) (i:Nat):List UInt8:=((List.range i).filter (nb i)).map fun k=>ltr (nm k)
def oText (nm:Nat→Nat) (nb:Nat→Nat→Bool) (i:Nat):S:=43::madeT (ltr (nm i)) 49 (nsL nm nb i) true
def oItem (nm:Nat→Nat) (nb:Nat→Nat→Bool) (i:Nat):Item := .ins (madeT (ltr (nm i)) 49 (nsL nm nb i) true) [ltr (nm i)] [49] (madeSt (ltr (nm i)) (nsL nm nb i) true)
def oPD (nm:Nat→Nat) (nb:Nat→Nat→Bool) (s:Int) (i:Nat):PD:=madePD (ltr (nm i)) 49 (nsL nm nb i) true s
theorem nsL_mem {nm:Nat→Nat} {nb:Nat→Nat→Bool} {i:Nat} {c:UInt8}:c∈nsL nm nb i ↔ ∃ k,k<i∧nb i k=true∧c=ltr (nm k):=by
 unfold nsL
 rw[List.mem_map]
 constructor
 · rintro ⟨k,hk,rfl⟩
   rw[List.mem_filter,List.mem_range] at hk
   exact ⟨k,hk.1,hk.2,rfl⟩
 · rintro ⟨k,h1,h2,rfl⟩
   exact ⟨k,by rw[List.mem_filter,List.mem_range];exact ⟨h1,h2⟩,rfl⟩
theorem nsL_ltr {nm:Nat→Nat} (h:Six nm) (nb:Nat→Nat→Bool) {i:Nat} (hi:i<6):(∀ c∈nsL nm nb i,Ltr c)∧(nsL nm nb i).length≤6:=by
 refine ⟨fun c hc => ?_,?_⟩
 · obtain ⟨k,hk,_,rfl⟩:=nsL_mem.1 hc
   exact ltr_is (h.lt k (by omega))
 · unfold nsL
   rw[List.length_map]
   have:=List.length_filter_le (nb i) (List.range i)
   rw[List.length_range] at this
   omega
theorem oText_len {nm:Nat→Nat} (h:Six nm) (nb:Nat→Nat→Bool) {i:Nat} (hi:i<6):(oText nm nb i).length≤160:=by
 have:=madeT_len (ltr (nm i)) 49 (nsL nm nb i) true
 have:=(nsL_ltr h nb hi).2
 simp only[oText,List.length_cons]
 omega
structure Some6 (l:List Nat):Prop where
 lt:∀ i∈l,i<6
 nd:l.Nodup
theorem Some6.len {l:List Nat} (h:Some6 l):l.length≤6:=by
 have:=h.nd.length_le_of_subset (l₂:=[0,1,2,3,4,5]) (fun j hj=>by have:=h.lt j hj;simp;omega)
 simpa using this
theorem oNames (nm:Nat→Nat) (nb:Nat→Nat→Bool) (l:List Nat):(l.map (oItem nm nb)).map Item.name=l.map fun i=>[ltr (nm i)]:=by
 rw[List.map_map];rfl
theorem six_ltr {nm:Nat→Nat} (h:Six nm) {i j:Nat} (hi:i<6) (hj:j<6) (e:ltr (nm i)=ltr (nm j)):i=j:=h.inj i j hi hj (ltr_inj (h.lt i hi) (h.lt j hj) e)
theorem oNodup {nm:Nat→Nat} (h:Six nm) (nb:Nat→Nat→Bool) {l:List Nat} (hl:Some6 l):((l.map (oItem nm nb)).map Item.name).Nodup:=by
 rw[oNames]
 have h1:=hl.lt
 have h2:=hl.nd
 clear hl
 induction l with
 | nil=>exact List.Pairwise.nil
 | cons a l ih =>
   obtain ⟨x,y⟩:=List.nodup_cons.1 h2
   rw[List.map_cons,List.nodup_cons]
   refine ⟨fun m => ?_,ih (fun j hj=>h1 j (by simp[hj])) y⟩
   obtain ⟨b,hb,e⟩:=List.mem_map.1 m
   have e':ltr (nm b)=ltr (nm a):=by simpa using e
   have:=six_ltr h (h1 b (by simp[hb])) (h1 a (by simp)) e'
   exact x (this▸hb)
structure OrdD (nm:Nat→Nat) (nb:Nat→Nat→Bool) (s:Int) (l:List Nat) (D:VM PD):Prop where
 srt:Srt D
 get:∀ k d,get D k=some d ↔ ∃ i,i∈l∧k=[ltr (nm i)]∧d=oPD nm nb s i
theorem keys_len {α:Type} {E:VM α} {ks:List S} (hn:ks.Nodup) (h:∀ k∈ks,has E k=true):ks.length≤E.length:=by
 have:=hn.length_le_of_subset (l₂:=E.map (·.1)) (fun k hk=>by
   obtain ⟨v,hv⟩:=mem_has.1 (h k hk)
   exact List.mem_map.2 ⟨_,hv,rfl⟩)
 simpa using this
theorem OrdD.len {nm:Nat→Nat} (h:Six nm) {nb:Nat→Nat→Bool} {s:Int} {l:List Nat} (hl:Some6 l) {D:VM PD} (hD:OrdD nm nb s l D):D.length=l.length:=by
 have h1:=len_keys hD.srt (ks:=l.map fun i=>[ltr (nm i)]) (fun k q=>by
   rw[has_get] at q
   obtain ⟨d,hd⟩:=Option.isSome_iff_exists.1 q
   obtain ⟨i,hi,rfl,_⟩:=(hD.get k d).1 hd
   exact List.mem_map.2 ⟨i,hi,rfl⟩)
 have hn:=oNodup h nb hl
 rw[oNames] at hn
 have h2:=keys_len (E:=D) hn (fun k hk=>by
   obtain ⟨i,hi,rfl⟩:=List.mem_map.1 hk
   rw[has_get,(hD.get _ _).2 ⟨i,hi,rfl,rfl⟩];rfl)
 simp only[List.length_map] at h1 h2
 omega
theorem OrdD.fine {nm:Nat→Nat} (h:Six nm) {nb:Nat→Nat→Bool} {s:Int} {l:List Nat} (hl:Some6 l) {D:VM PD} (hD:OrdD nm nb s l D):DFine D:=by
 refine ⟨fun k d q => ?_, .inr fun k d q => ?_⟩
 · obtain ⟨i,hi,rfl,rfl⟩:=(hD.get k d).1 q
   have hi6:=hl.lt i hi
   exact ⟨rfl,named_made (ltr_is (h.lt i hi6)) (.inl rfl) (nsL_ltr h nb hi6).1 (nsL_ltr h nb hi6).2⟩
 · obtain ⟨i,hi,rfl,rfl⟩:=(hD.get k d).1 q
   exact nocopy_made _ _ _ _ _
theorem OrdD.texts {nm:Nat→Nat} (h:Six nm) {nb:Nat→Nat→Bool} {s:Int} {l:List Nat} (hl:Some6 l) {D:VM PD} (hD:OrdD nm nb s l D):sumT D≤960:=by
 have h1:=hD.len h hl
 have h2:=hl.len
 have h3:=sumT_le (b:=160) D (fun p hp=>by
   obtain ⟨i,hi,_,e⟩:=(hD.get p.1 p.2).1 ((get_some hD.srt).2 hp)
   rw[e]
   have:=oText_len h nb (hl.lt i hi)
   simp only[oText,List.length_cons] at this
   show (madeT _ _ _ _).length≤160
   omega)
 omega
end Hv
namespace Hv
theorem rem_wish {c:UInt8} (hc:Ltr c):wish [[45,c]] = .ok (itemsW [Item.rem [c]]) :=
 wish_items (is:=[Item.rem [c]]) (by simp[item_rem hc]) (by simp) (by simp) (by simp)
end Hv
namespace Hv
theorem wakeD_few {T:VM PD}:wakeD T []=[]:=by
 unfold wakeD
 rw[List.filterMap_eq_nil_iff]
 intro p _
 rw[if_pos (by rfl)]
theorem one_in {x t nm ve:S} {st:St} (hi:itemOf x=some (.ins t nm ve st)) (hn:st.needs=[]) (hb:st.breaks=[]) (hr:st.runs=[]) (hp:st.files.map (·.1)=[]∨st.files.map (·.1)=[binP nm]) (hw:st.wakes=[]∨st.files=[]) (hc:NoCopy st.wokens) (hx:x.length≤1000) :
   ∃ pl,check 300 [] [] [x] = .ok pl∧0<pl.steps.length∧(∀ s,wish [x] = .ok s→∀ k d,get s.I k=some d→NoCopy d.st.runs∧NoCopy d.st.wokens)∧runS pl (wokeW [] pl.wak,[]) pl.steps=([(nm,⟨t,nm,ve,st,2⟩)],[]):=by
 have hnd:([Item.ins t nm ve st].map Item.name).Nodup:=by simp
 have hok:=items_ok [Item.ins t nm ve st] hnd
 have hwi:wish [x] = .ok (itemsW [Item.ins t nm ve st]):=wish_items (is:=[Item.ins t nm ve st]) (by simp[hi]) hnd (by simp) (by simp)
 have sT:=toBeD_srt (D:=[]) List.Pairwise.nil (itemsW [Item.ins t nm ve st]).R (itemsW [Item.ins t nm ve st]).I
 have hT:∀ k d,get (toBeD [] (itemsW [Item.ins t nm ve st]).R (itemsW [Item.ins t nm ve st]).I) k=some d ↔ k=nm∧d=⟨t,nm,ve,st,1⟩:=fun k d=>by
   rw[toBe_items List.Pairwise.nil hnd]
   constructor
   · rintro (⟨t',ve',st',m,rfl⟩ | ⟨q,_⟩)
     · simp only[List.mem_singleton,Item.ins,Sum.inr.injEq,Prod.mk.injEq] at m
       obtain ⟨rfl,rfl,rfl,rfl⟩:=m
       exact ⟨rfl,rfl⟩
     · cases q
   · rintro ⟨rfl,rfl⟩;exact .inl ⟨t,ve,st,by simp,rfl⟩
 have hf:Fine [] [Item.ins t nm ve st]:=by
   refine ⟨fun k m=>(by simp at m),fun t k ve st m o ho=>(by cases ho),?_,fun k d q => ?_,fun k d q => ?_⟩
   · have:=len_keys sT (ks:=[nm]) (fun k q=>by
       rw[has_get] at q
       obtain ⟨d,hd⟩:=Option.isSome_iff_exists.1 q
       rw[((hT k d).1 hd).1];simp)
     simp at this;omega
   · obtain ⟨rfl,rfl⟩:=(hT k d).1 q;exact hb
   · obtain ⟨rfl,rfl⟩:=(hT k d).1 q;exact hp
 have href:=refuse_fine (D:=[]) List.Pairwise.nil hnd hf (fun k d q m hm=>by
   obtain ⟨rfl,rfl⟩:=(hT k d).1 q
   rw[show (PD.st ⟨t,k,ve,st,1⟩).needs=st.needs from rfl,hn] at hm;cases hm)
 have hwk:(planD [] (itemsW [Item.ins t nm ve st]).R (itemsW [Item.ins t nm ve st]).I).wak=[]:=by
   show wakeD (toBeD [] _ _) (keysOf (changedQ [] _ _))=[]
   rcases hw with hw | hw
   · exact wake_none (fun k d q=>by obtain ⟨rfl,rfl⟩:=(hT k d).1 q;exact hw) sT _
   · have e:changedQ [] (itemsW [Item.ins t nm ve st]).R (itemsW [Item.ins t nm ve st]).I=[]:=by
       refine uni_ext (changed_has []).1 List.Pairwise.nil (changed_has []).2.1 (fun k v q=>by cases q) fun y => ?_
       rw[(changed_has y).2.2]
       constructor
       · rintro (⟨p,hp,hy⟩ | ⟨p,hp,hy⟩)
         · cases hy
         · rcases hy with hy | hy
           · cases hy
           · obtain ⟨t',ve',st',m,e⟩:=(hok.imem p.1 p.2).1 ((get_some hok.sI).2 hp)
             simp only[List.mem_singleton,Item.ins,Sum.inr.injEq,Prod.mk.injEq] at m
             obtain ⟨rfl,e1,rfl,rfl⟩:=m
             rw[e] at hy
             simp[PD.paths,hw] at hy
       · intro q;simp[has] at q
     rw[e]
     exact wakeD_few
 have hconf:∀ l,confG (toBeD [] (itemsW [Item.ins t nm ve st]).R (itemsW [Item.ins t nm ve st]).I) l []=[]:=fun l=>confG_quiet l [] (fun k d q=>by obtain ⟨rfl,rfl⟩:=(hT k d).1 q;exact hr)
 have hover:=over_whole (D:=[]) (G:=[]) (R:=(itemsW [Item.ins t nm ve st]).R) (I:=(itemsW [Item.ins t nm ve st]).I) List.Pairwise.nil List.Pairwise.nil hok.sI rfl (fun k _=>by rw[hconf];rfl) (fun k hk=>by rw[hwk] at hk;simp[keysOf] at hk)
 have hrun:=run_whole (D:=[]) (G:=[]) (R:=(itemsW [Item.ins t nm ve st]).R) (I:=(itemsW [Item.ins t nm ve st]).I) List.Pairwise.nil List.Pairwise.nil hok.sI (fun k d q=>by cases q)
 refine ⟨_,check_of hwi href hover (small_no (by have:sumT []=0:=rfl;simp;omega)),?_,?_,hrun.trans (Prod.ext ?_ ?_)⟩
 · rw[steps_eq]
   have:0<(order freeA (itemsW [Item.ins t nm ve st]).I).length:=by
     refine List.length_pos_of_mem (a:=nm) ((order_mem freeA hok.sI _).2 ?_)
     rw[has_get,(hok.imem nm _).2 ⟨t,ve,st,by simp,rfl⟩];rfl
   simp only[List.length_append,List.length_map]
   omega
 · intro s hs k d q
   rw[hwi] at hs
   cases hs
   obtain ⟨t',ve',st',m,rfl⟩:=(hok.imem k d).1 q
   simp only[List.mem_singleton,Item.ins,Sum.inr.injEq,Prod.mk.injEq] at m
   obtain ⟨rfl,rfl,rfl,rfl⟩:=m
   exact ⟨(by rw[show (PD.st ⟨t',k,ve',st',1⟩).runs=st'.runs from rfl,hr];intro c hc;cases hc),hc⟩
 · show (toBeD [] _ _).map _=_
   have s1:Srt ([(nm,(⟨t,nm,ve,st,2⟩:PD))]:VM PD):=by simp[Srt]
   refine (sT.map fun d:PD=>d.to 2).get_ext s1 fun k => ?_
   rw[get_map (toBeD [] (itemsW [Item.ins t nm ve st]).R (itemsW [Item.ins t nm ve st]).I) (fun d:PD=>d.to 2)]
   cases q:get (toBeD [] (itemsW [Item.ins t nm ve st]).R (itemsW [Item.ins t nm ve st]).I) k with
   | none =>
     symm
     show get _ k=none
     rw[get_none]
     intro p hp e
     simp only[List.mem_singleton] at hp
     subst hp
     have:=(hT k _).2 ⟨e.symm,rfl⟩
     rw[q] at this;cases this
   | some d =>
     obtain ⟨rfl,rfl⟩:=(hT k d).1 q
     symm
     exact (get_some s1).2 (by simp[PD.to])
 · show trigG _ _ _ _=_
   rw[hconf,hwk]
   rfl
theorem one_out {c:UInt8} (hc:Ltr c) (d0:PD) (hd:d0.status=2) (ht:d0.text.length≤1000) :
   ∃ pl,check 300 [([c],d0)] [] [[45,c]] = .ok pl∧0<pl.steps.length∧runS pl (wokeW [([c],d0)] pl.wak,[]) pl.steps=([],[]):=by
 have hnd:([Item.rem [c]].map Item.name).Nodup:=by simp
 have hok:=items_ok [Item.rem [c]] hnd
 have s1:Srt ([([c],d0)]:VM PD):=by simp[Srt]
 have sT:=toBeD_srt s1 (itemsW [Item.rem [c]]).R (itemsW [Item.rem [c]]).I
 have hT:∀ k d,get (toBeD [([c],d0)] (itemsW [Item.rem [c]]).R (itemsW [Item.rem [c]]).I) k≠some d:=fun k d q=>by
   rcases (toBe_items s1 hnd k d).1 q with ⟨t',ve',st',m,rfl⟩ | ⟨q,hn⟩
   · simp at m
   · have:=(get_some s1).1 q
     simp only[List.mem_singleton,Prod.mk.injEq] at this
     exact hn (by simp[Item.name,this.1])
 have eT:toBeD [([c],d0)] (itemsW [Item.rem [c]]).R (itemsW [Item.rem [c]]).I=[]:=sT.get_ext List.Pairwise.nil fun k=>by
   cases q:get (toBeD [([c],d0)] (itemsW [Item.rem [c]]).R (itemsW [Item.rem [c]]).I) k with
   | none=>rfl
   | some d=>exact absurd q (hT k d)
 have hf:Fine [([c],d0)] [Item.rem [c]]:=by
   refine ⟨fun k m => ?_,fun t k ve st m o ho=>(by simp at m),(by rw[eT];simp),fun k d q=>absurd q (hT k d),fun k d q=>absurd q (hT k d)⟩
   simp only[List.mem_singleton,Item.rem,Sum.inl.injEq] at m
   subst m
   exact any_has (v:=d0) (by simp)
 have href:=refuse_fine s1 hnd hf (fun k d q=>absurd q (hT k d))
 have hwk:(planD [([c],d0)] (itemsW [Item.rem [c]]).R (itemsW [Item.rem [c]]).I).wak=[]:=by
   show wakeD (toBeD [([c],d0)] _ _) _=[]
   rw[eT];rfl
 have hord:order freeA (itemsW [Item.rem [c]]).I=[]:=rfl
 have hover:=over_whole (D:=[([c],d0)]) (G:=[]) (R:=(itemsW [Item.rem [c]]).R) (I:=(itemsW [Item.rem [c]]).I) s1 List.Pairwise.nil hok.sI rfl (fun k hk=>by rw[hord] at hk;simp at hk) (fun k hk=>by rw[hwk] at hk;simp[keysOf] at hk)
 have hrun:=run_whole (D:=[([c],d0)]) (G:=[]) (R:=(itemsW [Item.rem [c]]).R) (I:=(itemsW [Item.rem [c]]).I) s1 List.Pairwise.nil hok.sI (fun k d q=>by
   have:=(get_some s1).1 q
   simp only[List.mem_singleton,Prod.mk.injEq] at this
   rw[this.2];exact hd)
 refine ⟨_,check_of (rem_wish hc) href hover (small_no (by simp[sumT];omega)),?_,hrun.trans (Prod.ext ?_ ?_)⟩
 · rw[steps_eq]
   have:0<(order freeB (leaveD [([c],d0)] (itemsW [Item.rem [c]]).R)).length:=by
     refine List.length_pos_of_mem (a:=[c]) ((order_mem freeB (leaveD_srt s1 _) _).2 ?_)
     rw[has_get,leaveD_get s1,if_pos ((hok.rmem _).2 (by simp)),(get_some s1 (k:=[c]) (v:=d0)).2 (by simp)]
     rfl
   simp only[List.length_append,List.length_map]
   omega
 · show (toBeD _ _ _).map _=_
   rw[eT];rfl
 · show trigG _ _ _ _=_
   rw[hwk,hord]
   rfl
end Hv
end
section
open Go.RowKit
open Arc (St Cmd)
open Hv (S Dk VM)
namespace Hv
theorem putAll_other:∀ (l:List (S × S)) {E:VM S} {path:S},Srt E→(∀ f∈l,f.1≠path)→get (putAll E l) path=get E path
 | [],_,_,_,_=>rfl
 | f::l,E,path,hs,h=>by
   have e:putAll E (f::l)=putAll (put E f.1 f.2) l:=rfl
   rw[e,putAll_other l (hs.put _ _) (fun g hg=>h g (by simp[hg])),get_put_other hs _ (fun q=>h f (by simp) q.symm)]
theorem treeD_other:∀ (D:VM PD) {G:VM S} {path:S},Srt G→(∀ p∈D,∀ f∈p.2.st.files,f.1≠path)→get (treeD D G) path=get G path
 | [],_,_,_,_=>rfl
 | p::D,G,path,hs,h=>by
   have e:treeD (p::D) G=treeD D (putAll G p.2.st.files):=rfl
   rw[e,treeD_other D (putAll_srt _ hs) (fun q hq=>h q (by simp[hq])),putAll_other _ hs (h p (by simp))]
theorem treeD_var {D:VM PD} {G:VM S} (hD:Named D) (sD:Srt D) (sG:Srt G) {path:S} (hp:Wd.under path=true):get (treeD D G) path=get G path :=
 treeD_other D sG fun p hp' f hf e=>by
   have hd:=(hD p.1 p.2 ((get_some sD).2 hp')).2
   have:=((parse_good hd).2.2.files f hf).2
   rw[e,hp] at this
   cases this
structure Mild (D:VM PD) (G:VM S):Prop where
 fine:DFine D
 len:D.length≤12
 few:G.length≤16
 short:Short 200 G
 keys:GK G
end Hv
open Hv (Mild)
def RunS (F:Nat→Prop) (V hb:Nat) (D:VM Hv.PD) (G:VM S) (w:World):Prop :=
 ∃ C N eb sb mb pm fm db a b c h d P,HostS C N hb eb sb mb pm fm db 300 a b c h d P D G w∧DRest 300 V a b h d∧(∀ k,(EFoot C eb sb pm fm k∨k=hb)∨k=mb∨N k→F k)∧∀ k,F k→k<w.heap.size
theorem RunS.lt {F:Nat→Prop} {V hb:Nat} {D:VM Hv.PD} {G:VM S} {w:World} (h:RunS F V hb D G w):∀ k,F k→k<w.heap.size:=by
 obtain ⟨C,N,eb,sb,mb,pm,fm,db,a,b,c,hh,d,P,h1,h2,h3,h4⟩:=h
 exact h4
theorem RunS.base {F:Nat→Prop} {V hb:Nat} {D:VM Hv.PD} {G:VM S} {w:World} (h:RunS F V hb D G w):Base w:=by
 obtain ⟨C,N,eb,sb,mb,pm,fm,db,a,b,c,hh,d,P,h1,h2,h3,h4⟩:=h
 exact h1.eng.base
theorem RunS.below {F:Nat→Prop} {V hb:Nat} {D:VM Hv.PD} {G:VM S} {w w':World} (h:RunS F V hb D G w) (q:Below w.heap.size w w'):RunS F V hb D G w':=by
 obtain ⟨C,N,eb,sb,mb,pm,fm,db,a,b,c,hh,d,P,h1,h2,h3,h4⟩:=h
 exact ⟨C,N,eb,sb,mb,pm,fm,db,a,b,c,hh,d,P,h1.below q,h2,h3,fun k hk=>Nat.lt_of_lt_of_le (h4 k hk) q.size⟩
theorem RunS.aside {F:Nat→Prop} {V hb g:Nat} {D:VM Hv.PD} {G:VM S} {w w':World} (h:RunS F V hb D G w) (hf:Far w.heap.size (fun q=>q=g) w w') (hg : ¬ F g) (hl:12≤g):RunS F V hb D G w':=by
 obtain ⟨C,N,eb,sb,mb,pm,fm,db,a,b,c,hh,d,P,h1,h2,h3,h4⟩:=h
 have nf:∀ k,(EFoot C eb sb pm fm k∨k=hb)∨k=mb∨N k→g≠k:=fun k hk e=>hg (e▸h3 k hk)
 refine ⟨C,N,eb,sb,mb,pm,fm,db,a,b,c,hh,d,P,⟨(hf.block hb (blt h1.blk) (fun q=>nf hb (.inl (.inr rfl)) q.symm)).trans h1.blk,h1.eng.aside ⟨fun q=>nf g (.inl (.inl (.inl q))) rfl,fun q=>nf g (.inr (.inr q)) rfl,nf eb (.inl (.inl (.inr (.inl rfl)))),nf sb (.inl (.inl (.inr (.inr (.inl rfl))))),nf mb (.inr (.inl rfl)),nf pm (.inl (.inl (.inr (.inr (.inr (.inl rfl)))))),nf fm (.inl (.inl (.inr (.inr (.inr (.inr rfl))))))⟩ hl hf,h1.off,h1.low⟩,h2,h3,fun k hk=>Nat.lt_of_lt_of_le (h4 k hk) hf.size⟩
theorem foot_lt {C N:Nat→Prop} {hb eb sb mb pm fm db n a b c:Nat} {h:S} {d:Dk} {P:VM Value} {D:VM Hv.PD} {G:VM S} {w:World} (e:HostS C N hb eb sb mb pm fm db n a b c h d P D G w):∀ k,(EFoot C eb sb pm fm k∨k=hb)∨k=mb∨N k→k<w.heap.size:=by
 rintro k (((q | rfl | rfl | rfl | rfl) | rfl) | rfl | q)
 · exact e.eng.dk.lt k q
 · exact blt e.eng.eng
 · exact e.eng.st.lt
 · exact e.eng.mach.packs.lt
 · exact e.eng.mach.files.lt
 · exact blt e.blk
 · exact blt e.eng.mach.blk
 · exact (e.eng.rows k q).1
theorem run_begin_ok {F:Nat→Prop} {V hb:Nat} {D:VM Hv.PD} {G:VM S} (v:Value) (xs:List S) (pl:Hv.Plan) (D':VM Hv.PD) (G':VM S) (hck:Hv.check 300 D G xs = .ok pl) (hsteps:0<pl.steps.length) (hrun:Hv.runS pl (Hv.wokeW D pl.wak,G) pl.steps=(D',G')) (hxs:∀ x∈xs,x.length≤100000) (hM:Mild D G) (hcp:∀ s,Hv.wish xs = .ok s→∀ k d,Hv.get s.I k=some d→NoCopy d.st.runs∧NoCopy d.st.wokens) (hW:V≤500000000) (w:World) (he:RunS F V hb D G w) (hv:Reads w v xs) (hva:∀ g,v.ownBlock=some g → ¬ F g) :
   Calls Tryz.prog 10 #[.pointer (some ⟨hb,0,none⟩),v] w fun e w'=>∃ F',e = .returned (.int .i64 0)∧RunS F' (V+3000000) hb D' G' w'∧Far w.heap.size F w w'∧∀ k,F' k→F k∨w.heap.size≤k:=by
 obtain ⟨C,N,eb,sb,mb,pm,fm,db,a,b,c,hh,d,P,h1,h2,h3,h4⟩:=he
 refine (hbegin_ok hb eb sb mb pm fm db 300 a b c hh d V P D G v xs pl hck hsteps hxs hM.fine hM.len hM.few hM.short hM.keys (.inr hcp) h2 hW (by omega) w h1 hv (fun g hg e=>hva g hg (h3 g (.inl (.inr e))))).mono ?_
 rintro e w' ⟨C',N',d',P',b',h',rfl,q1,q2,q3,q4,q5⟩
 rw[hrun] at q1
 refine ⟨fun k=>(EFoot C' eb sb pm fm k∨k=hb)∨k=mb∨N' k,rfl,⟨C',N',eb,sb,mb,pm,fm,db,a,b',0,h',d',P',q1,q2,fun k hk=>hk,foot_lt q1⟩,q3.mono (Nat.le_refl _) (fun k _ hk=>h3 k (.inl hk)),fun k hk => ?_⟩
 rcases hk with ((hk | hk) | hk) | hk | hk
 · exact (q4 k hk).imp (fun q=>h3 k (.inl (.inl (.inl q)))) id
 · exact .inl (h3 k (.inl (.inl (.inr hk))))
 · exact .inl (h3 k (.inl (.inr hk)))
 · exact .inl (h3 k (.inr (.inl hk)))
 · exact (q5 k hk).imp (fun q=>h3 k (.inr (.inr q))) id
theorem run_packs {F:Nat→Prop} {V hb:Nat} {D:VM Hv.PD} {G:VM S} (hM:Mild D G) (w:World) (he:RunS F V hb D G w) :
   Calls Tryz.prog 11 #[.pointer (some ⟨hb,0,none⟩)] w fun e w'=>∃ v,e = .returned v∧w'.ownsRow w.heap.size 41 3 v D.length (D.flatMap pkgV)∧RunS F V hb D G w'∧Far w.heap.size F w w':=by
 obtain ⟨C,N,eb,sb,mb,pm,fm,db,a,b,c,hh,d,P,h1,h2,h3,h4⟩:=he
 refine (hpacks_any hb eb sb mb pm fm db 300 a b c hh d P D G hM.len hM.fine w h1).mono ?_
 rintro e w' ⟨v,rfl,q0,q1,q2⟩
 exact ⟨v,rfl,q0,⟨C,N,eb,sb,mb,pm,fm,db,a,b,c,hh,d,P,q1,h2,h3,fun k hk=>Nat.lt_of_lt_of_le (h4 k hk) q2.size⟩,q2.mono (Nat.le_refl _) (fun k _ e=>h3 k (.inl (.inr e)))⟩
theorem run_content {F:Nat→Prop} {V hb:Nat} {D:VM Hv.PD} {G:VM S} (hM:Mild D G) (path:S) (hp:Wd.under path=true) (w:World) (he:RunS F V hb D G w) :
   Calls Tryz.prog 12 #[.pointer (some ⟨hb,0,none⟩), .string ⟨path.toArray⟩] w fun e w'=>e = .returned (.string ⟨((Hv.get G path).getD []).toArray⟩)∧RunS F V hb D G w'∧Far w.heap.size F w w':=by
 obtain ⟨C,N,eb,sb,mb,pm,fm,db,a,b,c,hh,d,P,h1,h2,h3,h4⟩:=he
 have ht:=Hv.treeD_var hM.fine.named h1.eng.pk.srt (Hv.srt_of_fileM h1.eng.mach.files.1) hp
 refine (content_any hb eb sb mb pm fm db 300 a b c hh d P D G path hM.len hM.fine hM.few hM.keys w h1).mono ?_
 rintro e w' ⟨rfl,q1,q2⟩
 rw[ht]
 exact ⟨rfl,⟨C,N,eb,sb,mb,pm,fm,db,a,b,c,hh,d,P,q1,h2,h3,fun k hk=>Nat.lt_of_lt_of_le (h4 k hk) q2.size⟩,q2.mono (Nat.le_refl _) (fun k _ e=>h3 k (.inl (.inr e)))⟩
end
end Go.Proofs.YtialenebfcnkkaaGreatDoor
