/- HavW6, WokW1, OrdW1, OrdW3, WokW3, OrdW4 -/
import Derived.Test.YtialenebfcnkkaaGreatDoorOrdJ32
import Derived.Test.YtialenebfcnkkaaGreatDoorOrdJ31
import Derived.Laws.BitsAllLaws
set_option maxHeartbeats 4000000
set_option maxRecDepth 100000
namespace Go.Proofs.YtialenebfcnkkaaGreatDoor
section
open Go.RowKit
open aH (St gH)
open Hv (S Dk VM uZ)
def jg:Dk:=⟨List.replicate 300 gY,List.replicate 300 [],0⟩
theorem qz:uZ [] []:=⟨bY.nil,by simp,by simp,fun k x q=>(by cases q),fun k x q=>(by cases q)⟩
theorem Sz {C:Nat→Prop} {hb eb sb mb pm fm db:Nat} {d:Dk} {w:World} (hH:Rt C hb eb sb mb pm fm db 300 0 0 0 (short aF []) d [] [] w) (hbs:Base w) (hC:∀ k,C k→12≤k) (g0:12≤hb) (g1:12≤eb) (g2:12≤sb) (g4:12≤pm) (g5:12≤fm) (hd:jK 300 1000000 0 0 (short aF []) d):iJ (fun k=>(dZ C eb sb pm fm k∨k=hb)∨k=mb∨False) 1000000 hb [] [] w:=by
 obtain ⟨h1,he,o1,o2,o3,o4,o5,o6⟩:=hH
 have hE:dY C (fun _=>False) eb sb mb pm fm db 300 0 0 0 (short aF []) d [] [] [] (.slice none 0 0) (.map none) (.map none) 0 w :=
   ⟨he.dR,he.st,he.iM,⟨List.Pairwise.nil,fun k v q=>(by cases q),fun k v q=>(by cases q)⟩,he.dk,he.off,he.apart,fun g hg=>hg.elim,hbs,g1,g2,g4,g5,hC⟩
 have hS:gV C (fun _=>False) hb eb sb mb pm fm db 300 0 0 0 (short aF []) d [] [] [] w:=⟨h1,hE,⟨o1,fun q=>q,o2,o3,o4,o5,o6⟩,g0⟩
 exact ⟨C,fun _=>False,eb,sb,mb,pm,fm,db,0,0,0,_,d,[],hS,hd,fun k hk=>hk,Nb hS⟩
theorem Om:jg.now[0]? = some (List.replicate 256 0):=by
 unfold jg
 simp only
 rw[List.getElem?_replicate,if_pos (by omega)]
 rfl
theorem qQ:jg.now.length=300:=by unfold jg;simp only;rw[List.length_replicate]
theorem rz:(Mt jg.flush 0 0 0 (short aF [])).now.length=300:=by rw[Ga,jR];exact qQ
theorem OZ:(Mt jg.flush 0 0 0 (short aF [])).now[0]? = some (jC (iG 0 0 0 (short aF []))):=by
 show ((jg.flush.now.set 0 _))[0]? = _
 rw[List.getElem?_set_self (by rw[jR,qQ];omega)]
theorem K3:jK 300 1000000 0 0 (short aF []) (Mt jg.flush 0 0 0 (short aF [])).flush :=
 ⟨rz,fun i=>q9 _ i,by show jg.wr+1≤1000000;decide,by omega,by omega,oq _⟩
theorem V5:aC.compare [50] [49,48]=(-1,0):=by decide
theorem Uk {w:World} {B:Nat} {v:Value} {p:S × Hv.PD} (h:w.ownsRow B 41 3 v 1 ([p].flatMap zK)):∃ g c,v = .slice (some ⟨g,0,none⟩) 1 c∧B≤g∧g<w.heap.size∧w.cell? ⟨g,0,none⟩=some (aO p.1)∧w.cell? ⟨g,2,none⟩=some (.int .i64 p.2.status):=by
 obtain ⟨g,cap,rfl⟩:=aP h (by omega)
 obtain ⟨l1,l2⟩:=h.lt g rfl
 exact ⟨g,cap,rfl,l1,l2,by rw[h.cellAt _ (by omega)];rfl,by rw[h.cellAt _ (by omega)];rfl⟩
theorem xL {w:World} (x:S) (t:Nat):Reads (w.alloc (.cells #[.string ⟨x.toArray⟩] t)) (.slice (some ⟨w.heap.size,0,none⟩) 1 1) [x]:=by
 refine .inr ⟨w.heap.size,1,rfl,by simp,fun j y hj => ?_⟩
 have hj0:j=0:=by have:=(List.getElem?_eq_some_iff.1 hj).1;simpa using this
 subst hj0
 have e:x=y:=by simpa using hj
 subst e
 exact (ah (heap_alloc_new w _) 0).trans rfl
theorem aa9:Kw [122] 1 [] []=43::Hv.iE 122 49 [] false:=GJ 25 (.inl rfl) [] false
def zPD:Hv.PD:=⟨Hv.iE 122 49 [] false,[122],[49],Hv.uh 122 [] false,2⟩
theorem Nj:Hv.yu 122:=by unfold Hv.yu;decide
theorem Vi:(43::Hv.iE 122 49 [] false).length≤100:=by
 have:=Hv.nZ 122 49 [] false
 rw[List.length_nil] at this
 rw[List.length_cons]
 omega
theorem aei:∃ pl,Hv.check 300 [] [] [43::Hv.iE 122 49 [] false] = .ok pl∧0<pl.steps.length∧(∀ s,Hv.wish [43::Hv.iE 122 49 [] false] = .ok s→∀ k d,Hv.get s.I k=some d→bK d.st.runs∧bK d.st.aL)∧Hv.aJ pl (Hv.bP [] pl.cO,[]) pl.steps=([([122],zPD)],[]) :=
 Hv.aai (Hv.Ef 122 49 Nj (.inl rfl) [] (fun n hn=>(by cases hn)) (by simp) false) rfl rfl rfl (.inr rfl) (.inl rfl) (fun c hc=>(by cases hc)) (by have:=Vi;omega)
theorem Vj:uZ [([122],zPD)] []:=by
 have hs:Hv.aM ([([122],zPD)]:VM Hv.PD):=by simp[Hv.aM]
 refine ⟨⟨fun k d q => ?_, .inr fun k d q => ?_⟩,by simp,by simp,fun k x q=>(by cases q),fun k x q=>(by cases q)⟩
 · have:=(Hv.get_some hs).1 q
   simp only[List.mem_singleton,Prod.mk.injEq] at this
   obtain ⟨rfl,rfl⟩:=this
   exact ⟨rfl,Hv.uw 122 49 Nj (.inl rfl) [] (fun n hn=>(by cases hn)) (by simp) false⟩
 · have:=(Hv.get_some hs).1 q
   simp only[List.mem_singleton,Prod.mk.injEq] at this
   obtain ⟨rfl,rfl⟩:=this
   exact ⟨fun c hc=>(by cases hc),fun c hc=>(by cases hc)⟩
theorem aco:∃ pl,Hv.check 300 [([122],zPD)] [] [[45,122]] = .ok pl∧0<pl.steps.length∧Hv.aJ pl (Hv.bP [([122],zPD)] pl.cO,[]) pl.steps=([],[]) :=
 Hv.WV Nj zPD rfl (by have:=Vi;rw[List.length_cons] at this;show (Hv.iE 122 49 [] false).length≤1000;omega)
theorem uD {c:UInt8} (hc:Hv.yu c):∀ s,Hv.wish [[45,c]] = .ok s→∀ k d,Hv.get s.I k=some d→bK d.st.runs∧bK d.st.aL:=fun s hs k d q=>by
 rw[Hv.wB hc] at hs
 cases hs
 cases q
theorem OY {C:Nat→Prop} (db:Nat) (x y:Addr) (w:World) (hd:bI C db jg w) (hbs:Base w) (hE:sQ x y w) (hA:Q6 x y C) :
   Calls Tryz.prog 6 #[.pointer (some ⟨db,0,none⟩)] w fun e w'=>∃ hb F,e = .returned (.pointer (some ⟨hb,0,none⟩))∧iJ F 7000000 hb [] [] w'∧aQ w.heap.size C w w'∧∀ k,F k→C k∨w.heap.size≤k:=by
 have HD:=hide hd;have iT:=hide hbs;have HE:=hide hE;have HA:=hide hA
 have oF:=hide (show ∀ k,C k→12≤k from fun k hk=>(hA k hk).1)
 have HG:=hide hbs.size
 have l64:64≤jg.now.length:=by rw[qQ];omega
 have Yi:jg.now.length≤4096:=by rw[qQ];omega
 have HL:=hide (And.intro l64 Yi)
 clear hd hbs hE hA l64 Yi
 go_enter Tryz.func6,Tryz.ntmps6
 go_wp2_with fail
 refine (IU db x y HL.out.1 HL.out.2 Om w HD.out iT.out HE.out HA.out).mono ?_
 rintro e w1 ⟨rfl,hd1,hf1⟩
 have HD1:=hide hd1;have eO:=hide hf1
 have fC:=hide (iT.out.far hf1 HG.out oF.out)
 clear hd1 hf1
 go_wp2_with fail
 refine (KZ (d:=jg.flush) (by rw[jR];exact HL.out.1) (by rw[jR];exact HL.out.2) (q9 _) (by show jg.wr+1<_;decide) w1 HD1.out fC.out oF.out).mono ?_
 rintro e w2 ⟨rfl,C2,hd2,hf2,hc2⟩
 have hs1:=eO.out.size
 have HD2:=hide hd2;have jc:=hide (show ∀ k,C2 k→C k∨w.heap.size≤k from fun k q=>(hc2 k q).imp id (fun q=>by omega))
 have iU:=hide (eO.out.next hf2 hs1 (fun _ _ q=>q))
 have zx:=hide (fC.out.far hf2 fC.out.size oF.out)
 have YB:=hide (show ∀ k,C2 k→12≤k from fun k q=>by
   rcases jc.out k q with q | q
   · exact oF.out k q
   · have:=HG.out;omega)
 clear hd2 hf2 hc2
 go_wp2_with fail
 refine (IV (d:=Mt jg.flush 0 0 0 (short aF [])) db (by rw[rz];omega) (by rw[rz];omega) OZ w2 HD2.out zx.out YB.out).mono ?_
 rintro e w3 ⟨hb,eb,sb,mb,pm,fm,rfl,hH,g0,g1,g2,g3,g4,g5,hf3⟩
 rw[rz] at hH
 have hs2:=iU.out.size
 have YA:=hide (zx.out.far hf3 zx.out.size YB.out)
 have hG2:=zx.out.size
 have HR3:=hide (Sz hH YA.out YB.out (by omega) (by omega) (by omega) (by omega) (by omega) K3)
 have mO:=hide (iU.out.next hf3 hs2 (fun k hk q=>by
   rcases jc.out k q with q | q
   · exact q
   · omega))
 have Vp:=hide (show ∀ k,((dZ C2 eb sb pm fm k∨k=hb)∨k=mb∨False)→C k∨w.heap.size≤k from fun k q=>by
   rcases q with ((q | q | q | q | q) | q) | q | q
   · exact jc.out k q
   all_goals first | exact q.elim | (refine .inr ?_;omega))
 obtain ⟨F0,hF0⟩:∃ F0,(fun k=>(dZ C2 eb sb pm fm k∨k=hb)∨k=mb∨False)=F0:=⟨_,rfl⟩
 have aa0:Hid (iJ F0 1000000 hb [] [] w3):=hide (by rw[← hF0];exact HR3.out)
 have aaT:Hid (∀ k,F0 k→C k∨w.heap.size≤k):=hide (by rw[← hF0];exact Vp.out)
 clear hH g0 g1 g2 g3 g4 g5 hf3 hF0 HR3 Vp HD1 HD2 hG2
 go_wp2_with fail
 have hcmp:=G6 [50] [49,48] w3
 rw[V5] at hcmp
 refine hcmp.mono ?_
 clear hcmp
 rintro e w4 ⟨rfl,hb4⟩
 have HR4:=hide (aa0.out.below hb4)
 have sS:=hide (mO.out.below hb4 mO.out.size)
 clear hb4 aa0
 go_wp2_with fail
 refine (yC [122] [] [] 1 (by omega) (by simp) (by simp) (by simp) w4).mono ?_
 rintro e w5 ⟨rfl,hb5⟩
 rw[aa9]
 have Rl:=hide (HR4.out.below hb5)
 have Kj:=hide (sS.out.below hb5 sS.out.size)
 obtain ⟨zt,hzt⟩:∃ zt,43::Hv.iE 122 49 [] false=zt:=⟨_,rfl⟩
 have HZT:=hide hzt
 rw[hzt]
 clear hb5 hzt HR4
 go_wp2_with fail
 have hs5:=Kj.out.size
 have hb6:=(Below.refl w5.heap.size w5).alloc (Nat.le_refl _) (.cells #[.string ⟨zt.toArray⟩] 9)
 have HR6:=hide (Rl.out.below hb6)
 have XI:=hide (Kj.out.below hb6 hs5)
 have Y4:=hide (xL (w:=w5) zt 9)
 have abD:=Rl.out.lt
 have N8:=hide (show ∀ g,(Value.slice (some ⟨w5.heap.size,0,none⟩) 1 1).ownBlock=some g → ¬ F0 g from fun g hg q=>by
   have e:w5.heap.size=g:=Option.some.inj hg
   have:=abD g q
   omega)
 obtain ⟨u5,hu5⟩:∃ u,w5.alloc (.cells #[.string ⟨zt.toArray⟩] 9)=u:=⟨_,rfl⟩
 rw[hu5] at HR6 XI Y4 ⊢
 obtain ⟨n5,hn5⟩:∃ n,w5.heap.size=n:=⟨_,rfl⟩
 rw[hn5] at Y4 N8 ⊢
 obtain ⟨pl1,k1,k2,k3,k4⟩:=aei
 rw[HZT.out] at k1 k3
 have hzl:∀ q∈[zt],q.length≤100000:=fun q hq=>by
   have e:q=zt:=by simpa using hq
   have:=Vi
   rw[HZT.out] at this
   rw[e];omega
 have Q9:=hide (lu _ [zt] pl1 [([122],zPD)] [] k1 k2 k4 hzl qz k3 (by omega) u5 HR6.out Y4.out N8.out)
 clear hzl k1 k2 k3 k4 hb6 abD hu5 hn5 Rl hs5
 refine Q9.out.mono ?_
 rintro e w6 ⟨F1,rfl,q1,q2,q3⟩
 have HR7:=hide q1
 have HK7:=hide (show ∀ k,F1 k→C k∨w.heap.size≤k from fun k q=>by
   rcases q3 k q with q | q
   · exact aaT.out k q
   · have:=XI.out.size;exact .inr (by omega))
 have HF7:=hide (XI.out.next q2 XI.out.size (fun k hk q=>by
   rcases aaT.out k q with q | q
   · exact q
   · omega))
 clear q1 q2 q3 Q9 HR6 Y4 N8
 go_wp2_with fail
 refine (om Vj w6 HR7.out).mono ?_
 rintro e w7 ⟨v,rfl,q0,q1,q2⟩
 obtain ⟨g1,gc,rfl,gl,gh,gx,gy⟩:=Uk q0
 have HR8:=hide q1
 have MO:=hide (HF7.out.next q2 HF7.out.size (fun k hk q=>by
   rcases HK7.out k q with q | q
   · exact q
   · omega))
 have HGX:=hide (And.intro gx gy)
 have hg1 : ¬ F1 g1:=fun q=>by have:=HR7.out.lt g1 q;omega
 clear q0 q1 q2 gx gy HR7
 go_wp2_with fail
 have hs7:=MO.out.size
 have Nf:=(Below.refl w7.heap.size w7).alloc (Nat.le_refl _) (.cells #[.string ⟨#[45,122]⟩] 9)
 have HR9:=hide (HR8.out.below Nf)
 have Kk:=hide (MO.out.below Nf hs7)
 have HV9:Hid (Reads (w7.alloc (.cells #[.string ⟨#[45,122]⟩] 9)) (.slice (some ⟨w7.heap.size,0,none⟩) 1 1) [[45,122]]):=hide (xL (w:=w7) [45,122] 9)
 have HG9:=hide (show (w7.alloc (.cells #[.string ⟨#[45,122]⟩] 9)).cell? ⟨g1,0,none⟩=some (aO [122])∧(w7.alloc (.cells #[.string ⟨#[45,122]⟩] 9)).cell? ⟨g1,2,none⟩=some (.int .i64 2) from ⟨(fE gh _).trans HGX.out.1,(fE gh _).trans HGX.out.2⟩)
 have abE:=HR8.out.lt
 have N8:=hide (show ∀ g,(Value.slice (some ⟨w7.heap.size,0,none⟩) 1 1).ownBlock=some g → ¬ F1 g from fun g hg q=>by
   have e:w7.heap.size=g:=Option.some.inj hg
   have:=abE g q
   omega)
 have Z0:(w7.alloc (.cells #[.string ⟨#[45,122]⟩] 9)).heap.size=w7.heap.size+1:=by simp
 obtain ⟨u7,hu7⟩:∃ u,w7.alloc (.cells #[.string ⟨#[45,122]⟩] 9)=u:=⟨_,rfl⟩
 rw[hu7] at HR9 Kk HV9 HG9 Z0 ⊢
 obtain ⟨n7,hn7⟩:∃ n,w7.heap.size=n:=⟨_,rfl⟩
 rw[hn7] at HV9 N8 Z0 gh ⊢
 obtain ⟨pl2,k1,k2,k4⟩:=aco
 have hzl:∀ q∈([[45,122]]:List S),q.length≤100000:=fun q hq=>by
   have e:q=[45,122]:=by simpa using hq
   rw[e];simp
 have Q9:=hide (lu _ [[45,122]] pl2 [] [] k1 k2 k4 hzl Vj (uD Nj) (by omega) u7 HR9.out HV9.out N8.out)
 clear hzl k1 k2 k4 Nf abE hu7 hn7 HR8 hs7 HGX
 refine Q9.out.mono ?_
 rintro e w8 ⟨F2,rfl,q1,q2,q3⟩
 have aaZ:=hide q1
 have aaS:=hide (show ∀ k,F2 k→C k∨w.heap.size≤k from fun k q=>by
   rcases q3 k q with q | q
   · exact HK7.out k q
   · have:=Kk.out.size;exact .inr (by omega))
 have VI:=hide (Kk.out.next q2 Kk.out.size (fun k hk q=>by
   rcases HK7.out k q with q | q
   · exact q
   · omega))
 have YI:=hide (And.intro ((q2.cell (p:=⟨g1,0,none⟩) (by show g1<u7.heap.size;omega) hg1).trans HG9.out.1) ((q2.cell (p:=⟨g1,2,none⟩) (by show g1<u7.heap.size;omega) hg1).trans HG9.out.2))
 have hg2 : ¬ F2 g1:=fun q=>by
   rcases q3 g1 q with q | q
   · exact hg1 q
   · omega
 have hg8:g1<w8.heap.size:=by have:=q2.size;omega
 clear q1 q2 q3 Q9 HR9 HV9 N8 HG9 Z0
 go_wp2_with fail
 refine (om qz w8 aaZ.out).mono ?_
 rintro e w9 ⟨v,rfl,q0,q1,q2⟩
 obtain ⟨va,vc,rfl⟩:=slice_form q0
 have acJ:=hide q1
 have acv:=hide (VI.out.next q2 VI.out.size (fun k hk q=>by
   rcases aaS.out k q with q | q
   · exact q
   · omega))
 have p0:=(q2.cell (p:=⟨g1,0,none⟩) hg8 hg2).trans YI.out.1
 have p2:=(q2.cell (p:=⟨g1,2,none⟩) hg8 hg2).trans YI.out.2
 simp only[aO] at p0
 clear q0 q1 q2 aaZ YI
 go_wp2_with fail
 go_ret
 refine ⟨hb,F2,rfl,?_,acv.out,aaS.out⟩
 rw[show (7000000:Nat)=1000000+3000000+3000000 from rfl]
 exact acJ.out
end
section
open Go.RowKit
open aH (St gH)
open Hv (S Dk VM uZ nI iY Ks xg qA jy bM)
def wS (V:Nat→Nat):Array Value := #[.int .i64 (V 0), .int .i64 (V 1), .int .i64 (V 2), .int .i64 (V 3), .int .i64 (V 4), .int .i64 (V 5)]
theorem RF {w:World} {vb:Nat} {V V':Nat→Nat} (h:w.heap[vb]? = some (.cells (wS V) 39 (0,0))) {j:Nat} (hj:j<6) (hV:∀ i,i<6→V' i=if i=j then V' j else V i):(w.setCell ⟨vb,j,none⟩ (.int .i64 (V' j))).heap[vb]? = some (.cells (wS V') 39 (0,0)):=by
 have h2:=heap_setCell_same _ vb j _ _ (.int .i64 (V' j)) h
 refine h2.trans ?_
 have hV':∀ i,i<6→i≠j→V' i=V i:=fun i hi hne=>by rw[hV i hi,if_neg hne]
 have:j=0∨j=1∨j=2∨j=3∨j=4∨j=5:=by omega
 rcases this with rfl | rfl | rfl | rfl | rfl | rfl
 · simp[wS,hV' 1 (by omega) (by omega),hV' 2 (by omega) (by omega),hV' 3 (by omega) (by omega),hV' 4 (by omega) (by omega),hV' 5 (by omega) (by omega)]
 · simp[wS,hV' 0 (by omega) (by omega),hV' 2 (by omega) (by omega),hV' 3 (by omega) (by omega),hV' 4 (by omega) (by omega),hV' 5 (by omega) (by omega)]
 · simp[wS,hV' 0 (by omega) (by omega),hV' 1 (by omega) (by omega),hV' 3 (by omega) (by omega),hV' 4 (by omega) (by omega),hV' 5 (by omega) (by omega)]
 · simp[wS,hV' 0 (by omega) (by omega),hV' 1 (by omega) (by omega),hV' 2 (by omega) (by omega),hV' 4 (by omega) (by omega),hV' 5 (by omega) (by omega)]
 · simp[wS,hV' 0 (by omega) (by omega),hV' 1 (by omega) (by omega),hV' 2 (by omega) (by omega),hV' 3 (by omega) (by omega),hV' 5 (by omega) (by omega)]
 · simp[wS,hV' 0 (by omega) (by omega),hV' 1 (by omega) (by omega),hV' 2 (by omega) (by omega),hV' 3 (by omega) (by omega),hV' 4 (by omega) (by omega)]
def NH (b:Nat→Bool):Nat→List Nat
 | 0=>[]
 | m+1=>NH b m++if b (5-m) then [5-m] else []
theorem PG {V:Nat→Nat} {r:Nat} {ks:List Nat} {j:Nat}:∀ i,i<6→qA V r (ks++[j]) i=if i=j then qA V r (ks++[j]) j else qA V r ks i:=fun i _=>by
 by_cases e:i=j
 · rw[if_pos e,e]
 · rw[if_neg e]
   unfold qA
   have:i∈ks++[j] ↔ i∈ks:=by simp[e]
   by_cases q:i∈ks
   · rw[if_pos q,if_pos (this.2 q)]
   · rw[if_neg q,if_neg (fun h=>q (this.1 h))]
theorem and_one (q:Nat) (h:q<64):bits .and .i64 (q:Int) 1=((q%2:Nat):Int):=by
 have key:∀ q:Fin 64,bits .and .i64 ((q.val:Nat):Int) 1=((q.val%2:Nat):Int):=by decide
 exact key ⟨q,h⟩
theorem aam (a:Int):∃ sv:Nat,pk a 64=(sv:Int)∧sv<64:=by
 refine ⟨(pk a 64).toNat,?_,?_⟩<;>unfold pk<;>split<;>omega
def M0 (sv j:Nat):Bool:=decide (sv / 2^j%2=1)
theorem V3 (sv j:Nat):(sv:Int) / 2^j=((sv / 2^j:Nat):Int):=by
 rw[Int.natCast_ediv,Int.natCast_pow];rfl
theorem M4 {sv j:Nat} (h:sv<64):bits BinOp.and IntKind.i64 ((sv:Int) / 2^j) 1=((sv / 2^j%2:Nat):Int):=by
 rw[V3]
 exact and_one _ (Nat.lt_of_le_of_lt (Nat.div_le_self _ _) h)
theorem Uq {b:Nat→Bool} {m:Nat} (h:b (5-m)=false):NH b (m+1)=NH b m:=by rw[NH,h];simp
theorem Ur {b:Nat→Bool} {m:Nat} (h:b (5-m)=true):NH b (m+1)=NH b m++[5-m]:=by rw[NH,h];simp
structure XV (V:Nat→Nat) (r:Nat) (b:Nat→Bool) (vb hb Vn:Nat) (F:Nat→Prop) (D:VM Hv.PD) (G:VM S) (wi:World) (m:Nat) (lo:Option Addr) (n lc:Nat) (wr:World):Prop where
 num:n=(NH b m).length
 row:wr.ownsRow wi.heap.size 9 1 (.slice lo n lc) n (((NH b m).map (xg V r)).map aO)
 arr:wr.heap[vb]? = some (.cells (wS (qA V r (NH b m))) 39 (0,0))
 run:iJ F Vn hb D G wr
 far:aQ wi.heap.size (fun q=>q=vb) wi wr
theorem XV.skip {V:Nat→Nat} {r:Nat} {b:Nat→Bool} {vb hb Vn:Nat} {F:Nat→Prop} {D:VM Hv.PD} {G:VM S} {wi wr:World} {m n lc:Nat} {lo:Option Addr} (h:XV V r b vb hb Vn F D G wi m lo n lc wr) (hb':b (5-m)=false):XV V r b vb hb Vn F D G wi (m+1) lo n lc wr:=by
 have e:=Uq hb'
 exact ⟨by rw[e];exact h.num,by rw[e];exact h.row,by rw[e];exact h.arr,h.run,h.far⟩
theorem dY.turn {C N K:Nat→Prop} {eb sb mb pm fm db n a b c dn:Nat} {h:S} {d:Dk} {P:VM Value} {D:VM Hv.PD} {G:VM S} {sv im km:Value} {w w':World} (e:dY C N eb sb mb pm fm db n a b c h d P D G sv im km dn w) (hf:aQ w.heap.size K w w') (hK:∀ k,K k → ¬ C k ∧ ¬ N k∧k≠eb∧k≠sb∧k≠mb∧k≠pm∧k≠fm∧12≤k):dY C N eb sb mb pm fm db n a b c h d P D G sv im km dn w':=by
 refine ⟨e.dR.kept (hf.block eb (blt e.dR) (fun q=>(hK _ q).2.2.1 rfl)),e.st.far hf (Nat.le_refl _) (fun q=>(hK _ q).2.2.2.1 rfl),e.iM.far hf (Nat.le_refl _) ⟨fun q=>(hK _ q).2.2.2.2.1 rfl,fun q=>(hK _ q).2.2.2.2.2.1 rfl,fun q=>(hK _ q).2.2.2.2.2.2.1 rfl⟩,e.pk.far hf (Nat.le_refl _) (fun g _ hg q=>(hK g q).2.1 hg),e.dk.far hf (Nat.le_refl _) (fun k hk q=>(hK k q).1 hk),e.off,e.apart,fun g hg=>⟨Nat.lt_of_lt_of_le (e.rows g hg).1 hf.size,(e.rows g hg).2⟩,e.base.far hf e.base.size (fun k q=>(hK k q).2.2.2.2.2.2.2),e.low⟩
theorem iJ.turn {F K:Nat→Prop} {V hb:Nat} {D:VM Hv.PD} {G:VM S} {w w':World} (h:iJ F V hb D G w) (hf:aQ w.heap.size K w w') (hK:∀ k,K k → ¬ F k∧12≤k):iJ F V hb D G w':=by
 obtain ⟨C,N,eb,sb,mb,pm,fm,db,a,b,c,hh,d,P,h1,h2,h3,h4⟩:=h
 have nf:∀ k,K k→∀ q,(dZ C eb sb pm fm q∨q=hb)∨q=mb∨N q→k≠q:=fun k hk q hq e=>(hK k hk).1 (e▸h3 q hq)
 refine ⟨C,N,eb,sb,mb,pm,fm,db,a,b,c,hh,d,P,⟨(hf.block hb (blt h1.blk) (fun q=>nf hb q hb (.inl (.inr rfl)) rfl)).trans h1.blk,h1.dR.turn hf (fun k hk=>⟨fun q=>nf k hk k (.inl (.inl (.inl q))) rfl,fun q=>nf k hk k (.inr (.inr q)) rfl,nf k hk eb (.inl (.inl (.inr (.inl rfl)))),nf k hk sb (.inl (.inl (.inr (.inr (.inl rfl))))),nf k hk mb (.inr (.inl rfl)),nf k hk pm (.inl (.inl (.inr (.inr (.inr (.inl rfl)))))),nf k hk fm (.inl (.inl (.inr (.inr (.inr (.inr rfl)))))),(hK k hk).2⟩),h1.off,h1.low⟩,h2,h3,fun k hk=>Nat.lt_of_lt_of_le (h4 k hk) hf.size⟩
theorem XV.next {V:Nat→Nat} {r:Nat} {b:Nat→Bool} {vb hb Vn:Nat} {F:Nat→Prop} {D:VM Hv.PD} {G:VM S} {wi wr wq w4:World} {m n lc j gv cv:Nat} {lo:Option Addr} {o:Obj} (h:XV V r b vb hb Vn F D G wi m lo n lc wr) (hb':b (5-m)=true) (hm:m<6) (hj:5-m=j) (hq:Below wr.heap.size wr wq) (hg:(wq.alloc o).grownBy w4 (Value.slice lo n lc).ownBlock)
   (hown:w4.ownsRow wi.heap.size 9 1 (.slice (some ⟨gv,0,none⟩) (n+1) cv) (n+1) (((NH b m).map (xg V r)).map aO++[aO (xg V r j)])) (hvb:vb<wi.heap.size) (hFv : ¬ F vb) (hFl:∀ k,F k→k<wi.heap.size) (hG:12≤vb) :
   XV V r b vb hb Vn F D G wi (m+1) (some ⟨gv,0,none⟩) (n+1) cv (w4.setCell ⟨vb,j,none⟩ (.int .i64 (qA V r (NH b m++[j]) j))):=by
 have e:=Ur hb'
 rw[hj] at e
 have Yc:j<6:=by omega
 have hlt:=h.far.size
 have hrow:∀ q,(Value.slice lo n lc).ownBlock=some q→wi.heap.size≤q:=fun q hq=>(h.row.lt q hq).1
 have hgv:wi.heap.size≤gv:=(hown.lt gv rfl).1
 have hF1:aQ wr.heap.size (fun q=>(Value.slice lo n lc).ownBlock=some q) wr w4:=by
   have h1:=((aQ.refl wr.heap.size (fun q=>(Value.slice lo n lc).ownBlock=some q) wr).below hq (Nat.le_refl _)).alloc hq.size o
   exact h1.grown hg (by have:=hq.size;simp;omega) (fun q e => .inr e)
 have hF2:aQ wi.heap.size (fun q=>q=vb) wi w4:=h.far.next hF1 hlt (fun k hk q=>by have:=hrow k q;omega)
 have hR:iJ F Vn hb D G w4:=h.run.turn hF1 (fun k q=>⟨fun f=>by have:=hrow k q;have:=hFl k f;omega,by have:=hrow k q;omega⟩)
 have hA:w4.heap[vb]? = some (.cells (wS (qA V r (NH b m))) 39 (0,0)):=(hF1.block vb (by omega) (fun q=>by have:=hrow vb q;omega)).trans h.arr
 refine ⟨by rw[e,List.length_append];simp[h.num],?_,?_,hR.aside ((aQ.refl w4.heap.size (fun q=>q=vb) w4).setCell (p:=⟨vb,j,none⟩) (.inr rfl) _) hFv hG,hF2.setCell (p:=⟨vb,j,none⟩) (.inr rfl) _⟩
 · rw[e,List.map_append,List.map_append]
   exact bB hown (fun q=>by have e2:gv=vb:=Option.some.inj q;omega)
 · rw[e]
   exact RF hA Yc PG
end
section
open Go.RowKit
open aH (St gH)
open Hv (S Dk VM uZ)
structure Ru (l:List Nat) (i:Nat):Prop where
 len:l.length=i
 lt:∀ x∈l,x<i
 nd:l.Nodup
theorem Ru.nil:Ru [] 0:=⟨rfl,fun x h=>(by cases h),List.nodup_nil⟩
theorem Ru.ins {l:List Nat} {i p:Nat} (h:Ru l i) (hp:p≤i):Ru (l.take p++[i]++l.drop p) (i+1):=by
 have hn:i ∉ l:=fun q=>by have:=h.lt i q;omega
 have hperm:(l.take p++[i]++l.drop p).Perm (i::l):=by
   have h1:(l.take p++[i]++l.drop p).Perm ([i]++l.take p++l.drop p):=List.Perm.append_right _ List.perm_append_comm
   rw[List.append_assoc [i],List.take_append_drop] at h1
   exact h1
 refine ⟨by rw[hperm.length_eq,List.length_cons,h.len],fun x hx => ?_,hperm.nodup_iff.2 (List.nodup_cons.2 ⟨hn,h.nd⟩)⟩
 have:=hperm.mem_iff.1 hx
 rcases List.mem_cons.1 this with rfl | q
 · omega
 · have:=h.lt x q;omega
def bS (l:List Nat) (i:Nat):Nat:=l.getD i 0
theorem Ru.get {l:List Nat} (h:Ru l 6) {j:Nat} (hj:j<6):l[j]? = some (bS l j):=by
 unfold bS
 rw[List.getD_eq_getElem?_getD,List.getElem?_eq_getElem (by rw[h.len];exact hj)];rfl
theorem Ru.six {l:List Nat} (h:Ru l 6):Hv.rR (bS l):=by
 have e:∀ i,(hi:i<6)→bS l i=l[i]'(by rw[h.len];exact hi):=fun i hi=>by
   unfold bS;rw[List.getD_eq_getElem?_getD,List.getElem?_eq_getElem (by rw[h.len];exact hi)];rfl
 refine ⟨fun i hi => ?_,fun i j hi hj q => ?_⟩
 · rw[e i hi];exact h.lt _ (List.getElem_mem _)
 · rw[e i hi,e j hj] at q
   exact (List.getElem_inj h.nd).1 q
def zJ (l:List Nat):List Value:=l.map fun k=>Value.int .i64 ((k:Nat):Int)
theorem aac (l:List Nat) (p i:Nat):zJ (l.take p++[i]++l.drop p)=(zJ l).take p++[.int .i64 (i:Int)]++(zJ l).drop p:=by
 simp[zJ,List.map_take,List.map_drop]
theorem SH:(Tryz.prog.info? 3).map (fun i=>(i.zero,i.size,i.bytes))=some (some (.int .i64 0),1,8):=by kernel_rfl
theorem Yo (a:Int) (k:Nat):∃ q:Nat,pk a ((k:Int)+1)=(q:Int)∧q≤k:=by
 have h0:0≤pk a ((k:Int)+1):=by unfold pk;exact Int.emod_nonneg _ (by omega)
 have h1:pk a ((k:Int)+1)<(k:Int)+1:=by unfold pk;exact Int.emod_lt_of_pos _ (by omega)
 exact ⟨(pk a ((k:Int)+1)).toNat,by omega,by omega⟩
theorem Nn (l:List Nat):(zJ l).length=l.length:=by simp[zJ]
theorem vW (l:List Nat):∀ u∈zJ l,u.oneCell'=true:=fun u h=>by
 obtain ⟨k,_,rfl⟩:=List.mem_map.1 h
 rfl
structure Gv (B:Nat) (wi:World) (l:List Nat) (k:Nat) (lo:Option Addr) (lc:Nat) (wr:World):Prop where
 nm:Ru l k
 row:wr.ownsRow B 3 1 (.slice lo k lc) k (zJ l)
 bA:Below B wi wr
 zk:B≤wr.heap.size
theorem FV {w:World} {B:Nat} {e:TypeId} {g n c j:Nat} {xs:List Value} {u:Value} (h:w.ownsRow B e 1 (.slice (some ⟨g,0,none⟩) n c) n xs) (hj:xs[j]? = some u):w.cell? ⟨g,j,none⟩=some u:=by
 rcases h.2 with ⟨h0,_⟩ | ⟨g',cap',cur,hv,_,hg,_,_,_,htk⟩
 · cases h0
 · cases hv
   refine (ah hg j).trans ?_
   rw[← htk] at hj
   rw[List.getElem?_take] at hj
   split at hj
   · rw[← Array.getElem?_toList];exact hj
   · cases hj
theorem Ui {α:Type} {l:List α} {q j:Nat} {u:α} (h:(l.take q)[j]? = some u):l[j]? = some u:=by
 rw[List.getElem?_take] at h
 split at h
 · exact h
 · cases h
theorem Gv.put {B q k:Nat} {wi wr w7 w8 w9:World} {o:Obj} {l:List Nat} {lo a7 a8:Option Addr} {lc c7 n8 c8:Nat} {v9:Value} (h:Gv B wi l k lo lc wr) (hq:q≤k)
   (g7:wr.grownBy w7 none) (o7:w7.ownsRow wr.heap.size 3 1 (.slice a7 q c7) q ((zJ l).take q)) (g8:(w7.alloc o).grownBy w8 (Value.slice a7 q c7).ownBlock) (o8:w8.ownsRow wr.heap.size 3 1 (.slice a8 n8 c8) (q+1) ((zJ l).take q++[.int .i64 (k:Int)])) (g9:w8.grownBy w9 (Value.slice a8 n8 c8).ownBlock) (o9:w9.ownsRow wr.heap.size 3 1 v9 (k+1) ((zJ l).take q++[.int .i64 (k:Int)]++(zJ l).drop q)) :
   ∃ g c,v9 = .slice (some ⟨g,0,none⟩) (k+1) c∧Gv B wi (l.take q++[k]++l.drop q) (k+1) (some ⟨g,0,none⟩) c w9:=by
 obtain ⟨g,c,rfl⟩:=aP o9 (by omega)
 have s7:=g7.size
 have b7:=(Below.refl wr.heap.size wr).grown g7 (Nat.le_refl _) (fun k e=>by cases e)
 have b8:=(b7.alloc s7 o).grown g8 (by simp;omega) (fun k e=>(o7.lt k e).1)
 have b9:=b8.grown g9 b8.size (fun k e=>(o8.lt k e).1)
 exact ⟨g,c,rfl,⟨h.nm.ins hq,by rw[aac];exact bN o9 h.zk,h.bA.trans (b9.mono h.zk),Nat.le_trans h.zk b9.size⟩⟩
theorem wW {l:List Nat} {k q j:Nat} {u:Value} (h:((zJ l).drop q).length=(k-q)*1) (hk:k=q) : ¬ ((zJ l).drop q)[j]? = some u:=fun e=>by
 have:=(List.getElem?_eq_some_iff.1 e).1
 omega
theorem Ku (g o j:Nat):(⟨g,o,none⟩:Addr).add j=⟨g,o+j,none⟩:=by
 unfold Addr.add
 split
 · rename_i h;subst h;rfl
 · rfl
theorem Gv.first {B:Nat} {wi wr w8:World} {o:Obj} {g c:Nat} (h:Gv B wi [] 0 none 0 wr) (g8:(wr.alloc o).grownBy w8 none) (o8:w8.ownsRow wr.heap.size 3 1 (.slice (some ⟨g,0,none⟩) 1 c) 1 [.int .i64 0]):Gv B wi [0] 1 (some ⟨g,0,none⟩) c w8:=by
 have b8:=((Below.refl wr.heap.size wr).alloc (Nat.le_refl _) o).grown g8 (by simp) (fun k e=>by cases e)
 exact ⟨h.nm.ins (Nat.le_refl 0),bN o8 h.zk,h.bA.trans (b8.mono h.zk),Nat.le_trans h.zk b8.size⟩
theorem Yl {q:Nat} {wr w7 w8:World} {o:Obj} {v7:Value} {xs:List Value} (g7:wr.grownBy w7 none) (o7:w7.ownsRow wr.heap.size 3 1 v7 q xs) (g8:(w7.alloc o).grownBy w8 v7.ownBlock):Below wr.heap.size wr w8:=by
 have s7:=g7.size
 have b7:=(Below.refl wr.heap.size wr).grown g7 (Nat.le_refl _) (fun k e=>by cases e)
 exact (b7.alloc s7 o).grown g8 (by simp;omega) (fun k e=>(o7.lt k e).1)
theorem xU {wr w8:World} {g q:Nat} {xs:List Value} (hb:Below wr.heap.size wr w8) (hg:g<wr.heap.size) (h:∀ j u,xs[j]? = some u→wr.cell? ((⟨g,q,none⟩:Addr).add j)=some u):∀ j u,xs[j]? = some u→w8.cell? ((⟨g,q,none⟩:Addr).add j)=some u:=fun j u e=>by
 have:=h j u e
 rw[Ku] at this ⊢
 exact (hb.cell hg).trans this
def WL (M:Nat→Nat→Bool):Array Value:=((List.range 36).map fun k=>Value.bool (M (k / 6) (k%6))).toArray
theorem LB {w:World} {nb:Nat} {t:TypeId} {M:Nat→Nat→Bool} (h:w.heap[nb]? = some (.cells (WL M) t (0,0))) {a b:Nat} (ha:a<6) (hb:b<6):w.cell? ⟨nb,a*6+b,none⟩=some (.bool (M a b)):=by
 refine (ah h _).trans ?_
 unfold WL
 rw[List.getElem?_toArray,List.getElem?_map,List.getElem?_range (by omega)]
 simp only[Option.map_some]
 rw[show (a*6+b) / 6=a by omega,show (a*6+b)%6=b by omega]
theorem WM {w:World} {nb:Nat} {t:TypeId} {M:Nat→Nat→Bool} (h:w.heap[nb]? = some (.cells (WL M) t (0,0))) {a b:Nat} (hb:b<6):(w.setCell ⟨nb,a*6+b,none⟩ (.bool true)).heap[nb]? = some (.cells (WL fun i j=>if i=a∧j=b then true else M i j) t (0,0)):=by
 refine (heap_setCell_same _ nb _ _ _ _ h).trans ?_
 congr 2
 unfold WL
 apply Array.ext'
 rw[Array.toList_setIfInBounds]
 simp only
 apply List.ext_getElem?
 intro k
 rw[List.getElem?_set]
 simp only[List.length_map,List.length_range,List.getElem?_map]
 by_cases hk:k<36
 · rw[List.getElem?_range hk]
   by_cases e:a*6+b=k
   · subst e
     rw[if_pos rfl,if_pos hk,Option.map_some]
     simp only[show (a*6+b) / 6=a by omega,show (a*6+b)%6=b by omega]
     simp
   · rw[if_neg e]
     have : ¬ (k / 6=a∧k%6=b):=fun q=>e (by omega)
     simp[this]
 · rw[List.getElem?_eq_none (by simp;omega)]
   split<;>simp;omega
theorem Tj:Array.replicate 36 (Value.bool false)=WL fun _ _=>false:=by unfold WL;rfl
def Ue (a:Int):Nat:=(pk a 64).toNat
theorem Xr (a:Int):pk a 64=(Ue a:Int)∧Ue a<64:=by
 obtain ⟨sv,h,h2⟩:=aam a
 unfold Ue
 rw[h]
 exact ⟨by simp,by simpa using h2⟩
theorem WW {sv j:Nat} (h:sv<64) (hb:M0 sv j=true):(bits BinOp.and IntKind.i64 ((sv:Int) / 2^j) 1==1)=true:=by
 rw[M4 h]
 have:sv / 2^j%2=1:=of_decide_eq_true hb
 rw[this];rfl
theorem aaj {sv j:Nat} (h:sv<64) (hb:M0 sv j=false):(bits BinOp.and IntKind.i64 ((sv:Int) / 2^j) 1==1)=false:=by
 rw[M4 h]
 have h1 : ¬ sv / 2^j%2=1:=of_decide_eq_false hb
 have:sv / 2^j%2=0:=by omega
 rw[this];rfl
def rW (rn:Nat) (rs:Nat→Int) (i k:Nat):Bool:=decide (6+i<rn)&&M0 (Ue (rs (6+i))) k
def ahead (nm:Nat→Nat) (nb:Nat→Nat→Bool) (i k:Nat):S:=Hv.bM (((List.range k).filter (nb i)).map fun q=>Hv.nu (cK (nm q)))
theorem Lv (ls:List S) (x:S):Hv.bM (ls++[x])=Hv.bM ls++(x++[10]):=by simp[Hv.bM]
theorem tu {nm:Nat→Nat} {nb:Nat→Nat→Bool} {i k:Nat} (h:nb i k=false):ahead nm nb i (k+1)=ahead nm nb i k:=by
 unfold ahead;rw[List.range_succ,List.filter_append];simp[h]
theorem Ah {nm:Nat→Nat} {nb:Nat→Nat→Bool} {i k:Nat} (h:nb i k=true):ahead nm nb i (k+1)=ahead nm nb i k++[110,101,101,100,115,32]++[cK (nm k)]++[32,49,10]:=by
 unfold ahead
 rw[List.range_succ,List.filter_append]
 simp only[List.filter_cons,h,if_true,List.filter_nil,List.map_append,List.map_cons,List.map_nil]
 rw[Lv]
 simp[Hv.nu]
theorem Kv (nm:Nat→Nat) (nb:Nat→Nat→Bool) (i:Nat):ahead nm nb i i=Hv.bM ((Hv.Ke nm nb i).map Hv.nu):=by
 unfold ahead Hv.Ke;rw[List.map_map];rfl
theorem DV (nm:Nat→Nat) (nb:Nat→Nat→Bool) (i:Nat):∀ k,(ahead nm nb i k).length≤10*k
 | 0=>by simp[ahead,Hv.bM]
 | k+1=>by
   have:=DV nm nb i k
   cases h:nb i k with
   | false=>rw[tu h];omega
   | true=>rw[Ah h];simp;omega
def lZ (nm:Nat→Nat) (nb:Nat→Nat→Bool) (i k:Nat) (M:Nat→Nat→Bool):Prop:=∀ a b,M a b=true ↔ ∃ i' k',(i'<i∨(i'=i∧k'<k))∧k'<i'∧nb i' k'=true∧nm i'=a∧nm k'=b
theorem lZ.zero (nm:Nat→Nat) (nb:Nat→Nat→Bool):lZ nm nb 0 0 fun _ _=>false:=fun a b=>by
 constructor
 · intro h;cases h
 · rintro ⟨i',k',h | h,_⟩<;>omega
theorem lZ.skip {nm:Nat→Nat} {nb:Nat→Nat→Bool} {i k:Nat} {M:Nat→Nat→Bool} (h:lZ nm nb i k M) (hb:nb i k=false):lZ nm nb i (k+1) M:=fun a b=>by
 rw[h a b]
 constructor
 · rintro ⟨i',k',q,r⟩
   exact ⟨i',k',by omega,r⟩
 · rintro ⟨i',k',q,r1,r2,r3⟩
   refine ⟨i',k',?_,r1,r2,r3⟩
   rcases q with q | ⟨rfl,q⟩
   · exact .inl q
   · by_cases e:k'=k
     · subst e;rw[hb] at r2;cases r2
     · exact .inr ⟨rfl,by omega⟩
theorem lZ.take {nm:Nat→Nat} {nb:Nat→Nat→Bool} {i k:Nat} {M:Nat→Nat→Bool} (h:lZ nm nb i k M) (hb:nb i k=true) (hk:k<i):lZ nm nb i (k+1) fun a b=>if a=nm i∧b=nm k then true else M a b:=fun a b=>by
 by_cases e:a=nm i∧b=nm k
 · simp only[if_pos e,true_iff]
   exact ⟨i,k, .inr ⟨rfl,by omega⟩,hk,hb,e.1.symm,e.2.symm⟩
 · simp only[if_neg e]
   rw[h a b]
   constructor
   · rintro ⟨i',k',q,r⟩
     exact ⟨i',k',by omega,r⟩
   · rintro ⟨i',k',q,r1,r2,r3,r4⟩
     refine ⟨i',k',?_,r1,r2,r3,r4⟩
     rcases q with q | ⟨rfl,q⟩
     · exact .inl q
     · by_cases e2:k'=k
       · subst e2;exact absurd ⟨r3.symm,r4.symm⟩ e
       · exact .inr ⟨rfl,by omega⟩
theorem lZ.next {nm:Nat→Nat} {nb:Nat→Nat→Bool} {i:Nat} {M:Nat→Nat→Bool} (h:lZ nm nb i i M):lZ nm nb (i+1) 0 M:=fun a b=>by
 rw[h a b]
 constructor
 · rintro ⟨i',k',q,r⟩
   exact ⟨i',k',by omega,r⟩
 · rintro ⟨i',k',q,r⟩
   exact ⟨i',k',by omega,r⟩
theorem lZ.need {nm:Nat→Nat} {nb:Nat→Nat→Bool} {M:Nat→Nat→Bool} (h:lZ nm nb 6 0 M) (a b:Nat):M a b=true ↔ Hv.Need nm nb a b:=by
 rw[h a b]
 constructor
 · rintro ⟨i',k',q,r1,r2,r3,r4⟩
   exact ⟨i',k',by omega,r1,r2,r3,r4⟩
 · rintro ⟨i',k',q,r1,r2,r3,r4⟩
   exact ⟨i',k', .inl q,r1,r2,r3,r4⟩
structure pO (w3:World) (l:List Nat) (nb:Nat→Nat→Bool) (i k:Nat) (lo:Option Addr) (lc:Nat) (wr:World):Prop where
 row:wr.ownsRow (w3.heap.size+1) 9 1 (.slice lo i lc) i ((List.range i).map fun j=>aO (Hv.fU (bS l) nb j))
 Tp:∃ M,wr.heap[w3.heap.size]? = some (.cells (WL M) 30 (0,0))∧lZ (bS l) nb i k M
 bA:Below w3.heap.size w3 wr
 zk:w3.heap.size+1≤wr.heap.size
theorem pO.skip {w3 wr:World} {l:List Nat} {nb:Nat→Nat→Bool} {i k lc:Nat} {lo:Option Addr} (h:pO w3 l nb i k lo lc wr) (hb:nb i k=false):pO w3 l nb i (k+1) lo lc wr:=by
 obtain ⟨M,h1,h2⟩:=h.Tp
 exact ⟨h.row,⟨M,h1,h2.skip hb⟩,h.bA,h.zk⟩
theorem pO.take {w3 wr:World} {l:List Nat} {nb:Nat→Nat→Bool} {i k lc:Nat} {lo:Option Addr} (h:pO w3 l nb i k lo lc wr) (hb:nb i k=true) (hk:k<i) (h6:bS l k<6):pO w3 l nb i (k+1) lo lc (wr.setCell ⟨w3.heap.size,bS l i*6+bS l k,none⟩ (.bool true)):=by
 obtain ⟨M,h1,h2⟩:=h.Tp
 refine ⟨bB h.row (fun e=>by have:=(h.row.lt _ e).1;omega),⟨_,WM h1 h6,h2.take hb hk⟩,h.bA.setCell (Nat.le_refl _) _,by simpa using h.zk⟩
theorem pO.drew {w3 wr:World} {l:List Nat} {nb:Nat→Nat→Bool} {i k lc:Nat} {lo:Option Addr} (h:pO w3 l nb i k lo lc wr):pO w3 l nb i k lo lc wr.drew:=⟨h.row,h.Tp,h.bA.drew,h.zk⟩
theorem pO.zero (w3:World) (l:List Nat) (nb:Nat→Nat→Bool):pO w3 l nb 0 0 none 0 (w3.alloc (.cells (Array.replicate 36 (.bool false)) 30)) :=
 ⟨World.ownsRow_nil _ _ _ _,⟨_,by rw[Tj];exact heap_alloc_new w3 _,lZ.zero _ _⟩,(Below.refl _ _).alloc (Nat.le_refl _) _,by simp⟩
theorem pO.next {w3 wr w8 w9:World} {o:Obj} {l:List Nat} {nb:Nat→Nat→Bool} {m lc g c:Nat} {lo:Option Addr} (h:pO w3 l nb m m lo lc wr) (hb:Below wr.heap.size wr w8) (hg:(w8.alloc o).grownBy w9 (Value.slice lo m lc).ownBlock) (ho:w9.ownsRow (w3.heap.size+1) 9 1 (.slice (some ⟨g,0,none⟩) (m+1) c) (m+1) (((List.range m).map fun j=>aO (Hv.fU (bS l) nb j))++[aO (Hv.fU (bS l) nb m)])):pO w3 l nb (m+1) 0 (some ⟨g,0,none⟩) c w9:=by
 obtain ⟨M,h1,h2⟩:=h.Tp
 have s1:=h.zk
 have s2:=hb.size
 have s3:=hg.size
 have hr:∀ k,(Value.slice lo m lc).ownBlock=some k→w3.heap.size+1≤k:=fun k e=>(h.row.lt k e).1
 simp at s3
 refine ⟨by rw[List.range_succ,List.map_append];exact ho,⟨M,?_,h2.next⟩,(((h.bA.trans (hb.mono (by omega))).alloc (by omega) o)).grown hg (by simp;omega) (fun k e=>by have:=hr k e;omega),by omega⟩
 refine (hg.block w3.heap.size (by simp;omega) (fun e=>by have:=hr _ e.symm;omega)).trans (((Below.heap_alloc _ _ _ (by omega)).trans (hb.block _ (by omega))).trans h1)
theorem Bn {w:World} {a:Addr} {v:Value} (o:Obj) (h:w.cell? a=some v):(w.alloc o).cell? a=some v:=(((Below.refl w.heap.size w).alloc (Nat.le_refl _) o).cell (World.block_lt_of_cell? w a h)).trans h
theorem Ld {w w':World} {a:Addr} {v:Value} (hb:Below w.heap.size w w') (h:w.cell? a=some v):w'.cell? a=some v:=(hb.cell (World.block_lt_of_cell? w a h)).trans h
theorem Oj {w3 wr w8:World} {N:Nat} (o:Obj) (h:w3.heap.size+1≤wr.heap.size) (hb:Below N wr w8):w3.heap.size+1≤(w8.alloc o).heap.size:=by
 have:=hb.size
 simp;omega
theorem LA (l:List Nat) (nb:Nat→Nat→Bool) (m:Nat):Kw [cK (bS l m)] 1 (ahead (bS l) nb m m) (Hv.rY (cK (bS l m))++[10])=Hv.fU (bS l) nb m:=by
 rw[Kv]
 exact GJ (bS l m) (.inl rfl) (Hv.Ke (bS l) nb m) true
end
section
open Go.RowKit
open aH (St gH)
open Hv (S Dk VM uZ nI iY Ks xg qA jy)
def VB (r v:Nat):Prop:=v≤10000000*(r+1)
theorem VB.next {r v:Nat} (h:VB r v):VB (r+1) (v+3000000):=by unfold VB at *;omega
theorem VB.few {r v:Nat} (h:VB r v) (hr:r≤3):v≤500000000:=by unfold VB at *;omega
structure Y7 (vb hb B:Nat) (w:World) (cn r:Nat) (V:Nat→Nat) (Vn:Nat) (F:Nat→Prop) (D:VM Hv.PD) (G:VM S) (wr:World):Prop where
 shelf:nI V D
 count:iY cn G
 low:∀ j,j<6→V j<r
 arr:wr.heap[vb]? = some (.cells (wS V) 39 (0,0))
 run:iJ F Vn hb D G wr
 vol:VB r Vn
 off : ¬ F vb
 new:∀ k,F k→B≤k
 at_:B≤vb
 bA:Below B w wr
structure aaE (V:Nat→Nat) (r:Nat) (ks:List Nat) (vb hb Vn:Nat) (F:Nat→Prop) (D:VM Hv.PD) (G:VM S) (wi:World) (lo:Option Addr) (n lc:Nat) (wr:World):Prop where
 num:n=ks.length
 row:wr.ownsRow wi.heap.size 9 1 (.slice lo n lc) n ((ks.map (xg V r)).map aO)
 arr:wr.heap[vb]? = some (.cells (wS (qA V r ks)) 39 (0,0))
 run:iJ F Vn hb D G wr
 far:aQ wi.heap.size (fun q=>q=vb) wi wr
theorem XV.whole {V:Nat→Nat} {r:Nat} {b:Nat→Bool} {vb hb Vn:Nat} {F:Nat→Prop} {D:VM Hv.PD} {G:VM S} {wi wr:World} {n lc:Nat} {lo:Option Addr} {ks:List Nat} (h:XV V r b vb hb Vn F D G wi 6 lo n lc wr) (e:NH b 6=ks):aaE V r ks vb hb Vn F D G wi lo n lc wr:=by
 subst e
 exact ⟨h.num,h.row,h.arr,h.run,h.far⟩
structure NS (V:Nat→Nat) (vb hb Vn B:Nat) (F:Nat→Prop) (D:VM Hv.PD) (G:VM S) (w wr:World):Prop where
 arr:wr.heap[vb]? = some (.cells (wS V) 39 (0,0))
 run:iJ F Vn hb D G wr
 off : ¬ F vb
 new:∀ k,F k→B≤k
 bA:Below B w wr
theorem Y7.begun {vb hb:Nat} {w:World} {cn r:Nat} {V:Nat→Nat} {Vn Vn':Nat} {F F':Nat→Prop} {D D':VM Hv.PD} {G G':VM S} {wi wr w':World} {lo:Option Addr} {n lc:Nat} {ks:List Nat} (h:Y7 vb hb w.heap.size w cn r V Vn F D G wi) (e:aaE V r ks vb hb Vn F D G wi lo n lc wr) (q1:iJ F' Vn' hb D' G' w') (q2:aQ wr.heap.size F wr w') (q3:∀ k,F' k→F k∨wr.heap.size≤k):NS (qA V r ks) vb hb Vn' w.heap.size F' D' G' w w':=by
 have hbl:=blt e.arr
 have hb2:=jq h.bA e.far (fun q hq e=>by have:=h.at_;omega)
 exact ⟨(q2.block vb hbl h.off).trans e.arr,q1,fun q=>(q3 vb q).elim h.off (fun q=>by omega),fun k q=>(q3 k q).elim (h.new k) (fun q=>by have:=hb2.size;omega),jq hb2 q2 (fun q hq e=>by have:=h.new q e;omega)⟩
theorem NS.far {V:Nat→Nat} {vb hb Vn:Nat} {F:Nat→Prop} {D:VM Hv.PD} {G:VM S} {w wr w':World} (h:NS V vb hb Vn w.heap.size F D G w wr) (q1:iJ F Vn hb D G w') (q2:aQ wr.heap.size F wr w'):NS V vb hb Vn w.heap.size F D G w w' :=
 ⟨(q2.block vb (blt h.arr) h.off).trans h.arr,q1,h.off,h.new,jq h.bA q2 (fun q hq e=>by have:=h.new q e;omega)⟩
theorem NS.out {V:Nat→Nat} {vb hb Vn cn r:Nat} {F:Nat→Prop} {D:VM Hv.PD} {G:VM S} {w wr:World} (h:NS V vb hb Vn w.heap.size F D G w wr) (hS:nI V D) (hC:iY cn G) (hl:∀ j,j<6→V j<r) (hv:VB r Vn) (hat:w.heap.size≤vb):Y7 vb hb w.heap.size w cn r V Vn F D G wr :=
 ⟨hS,hC,hl,h.arr,h.run,hv,h.off,h.new,hat,h.bA⟩
theorem Qf {w:World} {B T n:Nat} {lo:Option Addr} {lc:Nat} {xs:List S} (hn:n=xs.length) (h:w.ownsRow B T 1 (.slice lo n lc) n (xs.map aO)):Reads w (.slice lo n lc) xs:=by
 subst hn
 by_cases h0:xs=[]
 · subst h0;exact .inl ⟨rfl,lo,lc,rfl⟩
 · have hp:0<xs.length:=by cases xs with | nil=>exact absurd rfl h0 | cons a l=>simp
   obtain ⟨g,cap,e⟩:=aP h (by omega)
   rw[e] at h
   refine .inr ⟨g,cap,by rw[e],(h.lt g rfl).2,fun j x hj => ?_⟩
   obtain ⟨hj1,rfl⟩:=List.getElem?_eq_some_iff.1 hj
   rw[h.cellAt _ (by omega)]
   simp[aO,hj1]
end
section
open Go.RowKit
open aH (St gH)
open Hv (S Dk VM uZ)
def kG (gn i:Nat):List Nat:=(List.range i).filter fun k => !(k==gn)
theorem uH (gn:Nat):kG gn (gn+1)=kG gn gn:=by
 unfold kG;rw[List.range_succ,List.filter_append];simp
theorem uI {gn i:Nat} (h:i≠gn):kG gn (i+1)=kG gn i++[i]:=by
 unfold kG;rw[List.range_succ,List.filter_append];simp[h]
theorem EC (gn:Nat):∀ i,(kG gn i).length≤i
 | 0=>Nat.le_refl _
 | i+1=>by
   have:=EC gn i
   by_cases h:i=gn
   · subst h;rw[uH];omega
   · rw[uI h];simp;omega
def kV (M:Nat→Nat→Bool) (nm:Nat→Nat) (gn i:Nat):Bool:=(List.range i).any fun k => !(k==gn)&&M (nm k) (nm gn)
theorem MG (M:Nat→Nat→Bool) (nm:Nat→Nat) (gn:Nat):kV M nm gn (gn+1)=kV M nm gn gn:=by
 unfold kV;rw[List.range_succ,List.any_append];simp
theorem CB {M:Nat→Nat→Bool} {nm:Nat→Nat} {gn i:Nat} (h:i≠gn):kV M nm gn (i+1)=(kV M nm gn i||M (nm i) (nm gn)):=by
 have hb:(i==gn)=false:=by simpa using h
 unfold kV;rw[List.range_succ,List.any_append];simp[hb]
theorem J4 {M:Nat→Nat→Bool} {nm:Nat→Nat} {nb:Nat→Nat→Bool} {gn:Nat} (hM:∀ a b,M a b=true ↔ Hv.Need nm nb a b) (h6:Hv.rR nm) (hg:gn<6) (h:kV M nm gn 6=true):∃ i,i<6∧gn<i∧nb i gn=true:=by
 unfold kV at h
 rw[List.any_eq_true] at h
 obtain ⟨i,hi,h2⟩:=h
 rw[Bool.and_eq_true] at h2
 obtain ⟨i',k',q1,q2,q3,q4,q5⟩:=(hM _ _).1 h2.2
 have e1:=h6.inj i' i q1 (by simpa using hi) q4
 have e2:=h6.inj k' gn (by omega) hg q5
 subst e1;subst e2
 exact ⟨i',q1,q2,q3⟩
theorem Xx {M:Nat→Nat→Bool} {nm:Nat→Nat} {nb:Nat→Nat→Bool} {gn:Nat} (hM:∀ a b,M a b=true ↔ Hv.Need nm nb a b) (h:kV M nm gn 6=false):∀ i,i<6→gn<i→nb i gn=false:=fun i hi hgi=>by
 cases hb:nb i gn with
 | false=>rfl
 | true =>
   unfold kV at h
   rw[List.any_eq_false] at h
   have:=h i (by simpa using hi)
   rw[(hM (nm i) (nm gn)).2 ⟨i,gn,hi,hgi,hb,rfl,rfl⟩] at this
   simp at this
   omega
structure jN (wa:World) (nm:Nat→Nat) (nb:Nat→Nat→Bool) (gn i n lc:Nat) (lo:Option Addr) (wr:World):Prop where
 row:wr.ownsRow wa.heap.size 9 1 (.slice lo n lc) n ((kG gn i).map fun j=>aO (Hv.fU nm nb j))
 num:n=(kG gn i).length
 bA:Below wa.heap.size wa wr
theorem jN.zero (wa:World) (nm:Nat→Nat) (nb:Nat→Nat→Bool) (gn:Nat):jN wa nm nb gn 0 0 0 none wa:=⟨World.ownsRow_nil _ _ _ _,rfl,Below.refl _ _⟩
theorem jN.skip {wa wr:World} {nm:Nat→Nat} {nb:Nat→Nat→Bool} {gn n lc:Nat} {lo:Option Addr} (h:jN wa nm nb gn gn n lc lo wr):jN wa nm nb gn (gn+1) n lc lo wr :=
 ⟨by rw[uH];exact h.row,by rw[uH];exact h.num,h.bA⟩
theorem jN.next {wa wr w8:World} {o:Obj} {nm:Nat→Nat} {nb:Nat→Nat→Bool} {gn i n lc g c:Nat} {lo:Option Addr} (h:jN wa nm nb gn i n lc lo wr) (hi:i≠gn) (hg:(wr.alloc o).grownBy w8 (Value.slice lo n lc).ownBlock) (ho:w8.ownsRow wa.heap.size 9 1 (.slice (some ⟨g,0,none⟩) (n+1) c) (n+1) (((kG gn i).map fun j=>aO (Hv.fU nm nb j))++[aO (Hv.fU nm nb i)])):jN wa nm nb gn (i+1) (n+1) c (some ⟨g,0,none⟩) w8:=by
 have s1:=h.bA.size
 refine ⟨by rw[uI hi,List.map_append];exact ho,by rw[uI hi,List.length_append,← h.num];rfl,(h.bA.alloc s1 o).grown hg (by simp;omega) (fun k e=>(h.row.lt k e).1)⟩
theorem jN.drew {wa wr:World} {nm:Nat→Nat} {nb:Nat→Nat→Bool} {gn i n lc:Nat} {lo:Option Addr} (h:jN wa nm nb gn i n lc lo wr):jN wa nm nb gn i n lc lo wr.drew:=⟨h.row,h.num,h.bA.drew⟩
structure uT (w:World) (l:List Nat) (nb:Nat→Nat→Bool) (M:Nat→Nat→Bool) (gm g gl:Nat) (F:Nat→Prop) (V hb:Nat) (D:VM Hv.PD) (G:VM S) (wr:World):Prop where
 Tp:wr.heap[gm]? = some (.cells (WL M) 30 (0,0))
 nmc:∀ j,j<6→wr.cell? ⟨g,j,none⟩=some (.int .i64 (bS l j:Int))
 lst:∀ j,j<6→wr.cell? ⟨gl,j,none⟩=some (aO (Hv.fU (bS l) nb j))
 lt:gm<wr.heap.size∧g<wr.heap.size∧gl<wr.heap.size
 run:iJ F V hb D G wr
 off : ¬ F gm ∧ ¬ F g ∧ ¬ F gl
 new:∀ k,F k→w.heap.size≤k
 bA:Below w.heap.size w wr
theorem uT.below {w wr w':World} {l:List Nat} {nb M:Nat→Nat→Bool} {gm g gl V hb:Nat} {F:Nat→Prop} {D:VM Hv.PD} {G:VM S} (h:uT w l nb M gm g gl F V hb D G wr) (b:Below wr.heap.size wr w'):uT w l nb M gm g gl F V hb D G w':=by
 obtain ⟨l1,l2,l3⟩:=h.lt
 have s:=b.size
 exact ⟨(b.block gm l1).trans h.Tp,fun j hj=>(b.cell (p:=⟨g,j,none⟩) l2).trans (h.nmc j hj),fun j hj=>(b.cell (p:=⟨gl,j,none⟩) l3).trans (h.lst j hj),⟨by omega,by omega,by omega⟩,h.run.below b,h.off,h.new,h.bA.trans (b.mono h.bA.size)⟩
theorem uT.begun {w wr w':World} {l:List Nat} {nb M:Nat→Nat→Bool} {gm g gl V V' hb:Nat} {F F':Nat→Prop} {D D':VM Hv.PD} {G G':VM S} (h:uT w l nb M gm g gl F V hb D G wr) (q1:iJ F' V' hb D' G' w') (q2:aQ wr.heap.size F wr w') (q3:∀ k,F' k→F k∨wr.heap.size≤k):uT w l nb M gm g gl F' V' hb D' G' w':=by
 obtain ⟨l1,l2,l3⟩:=h.lt
 obtain ⟨o1,o2,o3⟩:=h.off
 have s:=q2.size
 have sb:=h.bA.size
 have no:∀ k,k<wr.heap.size → ¬ F k → ¬ F' k:=fun k hk hf q=>(q3 k q).elim hf (fun e=>by omega)
 exact ⟨(q2.block gm l1 o1).trans h.Tp,fun j hj=>(q2.cell (p:=⟨g,j,none⟩) l2 o2).trans (h.nmc j hj),fun j hj=>(q2.cell (p:=⟨gl,j,none⟩) l3 o3).trans (h.lst j hj),⟨by omega,by omega,by omega⟩,q1,⟨no gm l1 o1,no g l2 o2,no gl l3 o3⟩,fun k q=>(q3 k q).elim (h.new k) (fun e=>by omega),jq h.bA q2 (fun q hq e=>by have:=h.new q e;omega)⟩
theorem uT.far {w wr w':World} {l:List Nat} {nb M:Nat→Nat→Bool} {gm g gl V hb:Nat} {F:Nat→Prop} {D:VM Hv.PD} {G:VM S} (h:uT w l nb M gm g gl F V hb D G wr) (q1:iJ F V hb D G w') (q2:aQ wr.heap.size F wr w'):uT w l nb M gm g gl F V hb D G w' :=
 h.begun q1 q2 (fun _ q => .inl q)
theorem uT.reads {w wr:World} {l:List Nat} {nb M:Nat→Nat→Bool} {gm g gl V hb c:Nat} {F:Nat→Prop} {D:VM Hv.PD} {G:VM S} (h:uT w l nb M gm g gl F V hb D G wr):Reads wr (.slice (some ⟨gl,0,none⟩) 6 c) ((List.range 6).map (Hv.fU (bS l) nb)):=by
 refine .inr ⟨gl,c,by simp,h.lt.2.2,fun j x hj => ?_⟩
 rw[List.getElem?_map] at hj
 obtain ⟨i,hi,rfl⟩:=Option.map_eq_some_iff.1 hj
 have Yc:j<6:=by simpa using (List.getElem?_eq_some_iff.1 hi).1
 rw[List.getElem?_range Yc] at hi
 obtain rfl:=Option.some.inj hi
 exact h.lst j Yc
theorem IZ {nm:Nat→Nat} (h:Hv.rR nm) {nb:Nat→Nat→Bool} {D:VM Hv.PD} {l:List Nat} {q:List Nat} (hl:Hv.jE l) (hD:Hv.oG nm nb 2 l D) (hq:q.length≤6):uZ D [(Hv.bG,q.map cK)]:=by
 have e:∀ k x,Hv.get [(Hv.bG,q.map cK)] k=some x→k=Hv.bG∧x=q.map cK:=fun k x e=>by
   have:k=Hv.bG:=by
     by_cases hk:Hv.bG=k
     · exact hk.symm
     · have:(Hv.bG==k)=false:=by simpa using hk
       simp[Hv.get,this] at e
   subst this
   exact ⟨rfl,by simpa [Hv.get] using e.symm⟩
 refine ⟨hD.fine h hl,by rw[hD.len h hl];have:=hl.len;omega,by simp,fun k x q => ?_,fun k x q => ?_⟩
 · obtain ⟨rfl,rfl⟩:=e k x q;simp;omega
 · obtain ⟨rfl,rfl⟩:=e k x q;decide
theorem WY (q:List Nat):(Hv.get ([(Hv.bG,q.map cK)]:VM S) Hv.bG).getD []=q.map cK:=by simp[Hv.get]
theorem ab5 {q:List Nat} {nm:Nat→Nat} {nb M:Nat→Nat→Bool} (hM:∀ a b,M a b=true ↔ Hv.Need nm nb a b) (h:q.Pairwise fun a b => ¬ Hv.Need nm nb a b) (hn:q.Nodup) {i k a b:Nat} (hik:i<k) (ha:q[i]? = some a) (hb:q[k]? = some b):M a b=false∧a≠b:=by
 obtain ⟨h1,rfl⟩:=List.getElem?_eq_some_iff.1 ha
 obtain ⟨h2,rfl⟩:=List.getElem?_eq_some_iff.1 hb
 refine ⟨?_,fun e => ?_⟩
 · cases e:M q[i] q[k] with
   | false=>rfl
   | true=>exact absurd ((hM _ _).1 e) ((List.pairwise_iff_getElem.1 h) i k h1 h2 hik)
 · have:=(List.getElem_inj hn).1 e
   omega
theorem Tc {g:Nat} (h:g<6):((List.range 6).filter fun i => !(i==g)).length=5:=by
 have:g=0∨g=1∨g=2∨g=3∨g=4∨g=5:=by omega
 rcases this with rfl | rfl | rfl | rfl | rfl | rfl<;>rfl
theorem WJ {a:Nat} (h:a<6):(cK a).toNat=97+a:=by unfold cK;rw[UInt8.toNat_ofNat'];omega
end
end Go.Proofs.YtialenebfcnkkaaGreatDoor
