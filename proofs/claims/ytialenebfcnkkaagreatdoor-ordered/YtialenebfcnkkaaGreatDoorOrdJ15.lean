/- BodyW1 -/
import Derived.Test.YtialenebfcnkkaaGreatDoorOrdJ14
set_option maxHeartbeats 1000000
set_option maxRecDepth 100000
namespace Go.Proofs.YtialenebfcnkkaaGreatDoor
section
open Go.RowKit
open aH (St gH S)
def VY (st:St) (n:Nat):Prop:=st.needs.length≤n∧st.breaks.length≤n∧st.wakes.length≤n∧st.files.length≤n∧st.runs.length≤n∧st.aL.length≤n∧st.left.length≤2000
theorem Ji {f:S→S} {st st':St} {k:Int} {rest:List S} {n:Nat} (hyp:aH.jM f st k rest=some st') (hl:VY st n):VY st' (n+1):=by
 obtain ⟨h1,h2,h3,h4,h5,h6,h7⟩:=hl
 rw[Cb] at hyp
 repeat' split at hyp
 all_goals first
   | (cases hyp;done)
   | (cases hyp;refine ⟨?_,?_,?_,?_,?_,?_,?_⟩<;>simp<;>omega)
theorem VY.fits {st:St} {n:Nat} (h:VY st n) (hn:n≤2000):XW st:=by
 obtain ⟨h1,h2,h3,h4,h5,h6,h7⟩:=h
 exact ⟨by omega,by omega,by omega,by omega,by omega,by omega,h7⟩
theorem Nv (x:S):∃ a r,sp 32 x=a::r:=by
 cases h:sp 32 x with
 | nil=>exact absurd h (Yr 32 x)
 | cons a r=>exact ⟨a,r,rfl⟩
theorem BX (f:S→S) (st:St) (la:Int) (x a:S) (r:List S) (h:sp 32 x=a::r) (l:List S):aH.dS f st la (x::l)=if kd a=0∨kd a<la then none else match aH.jM f st (kd a) r with
   | none=>none
   | some st'=>aH.dS f st' (kd a) l:=by
 rw[aH.dS,h];rfl
theorem p9 (pb lg lo lc:Nat) (nm ve:S) (st0:St) (L:List S) (K:Nat→Int) (mx:Int) (sl:Fin 6→Value) (w:World) (h:fD pb nm ve st0 sl w) (h0:VY st0 0) (hp0:9≤pb) (hlg:lg<pb) (hL:L.length≤21) (hll:∀ x∈L,x.length≤2000)
   (hm:w.cell? ⟨3,0,none⟩=some (.int .i64 mx)) (hK:∀ i:Nat,i<64→w.cell? ⟨4,i,none⟩=some (.int .u32 (K i)))
   (hc:∀ k,k<L.length→w.cell? ⟨lg,lo+k,none⟩=some (aO (L.getD k []))) :
   Calls Tryz.prog 212 #[.pointer (some ⟨pb,0,none⟩), .slice (some ⟨lg,lo,none⟩) L.length lc] w (sU pb nm ve (aH.dS (short K) st0 0 L) w):=by
 have H:=hide h;have HM:=hide hm;have HK:=hide hK;have HC:=hide hc;have XM:=hide hll;have H0:=hide h0
 have hlt:=h.lt
 clear h hm hK hc hll h0
 go_enter Tryz.func212,Tryz.ntmps212
 go_wp2_with fail
 go_loopw [5,12] (fun l i wr=>∃ (k:Nat) (st:St) (la:Int) (sl:Fin 6→Value),k≤L.length∧i = .int .i64 k∧l = .int .i64 la∧Hid (aH.dS (short K) st0 0 L=aH.dS (short K) st la (L.drop k))∧Hid (VY st k)∧Hid (fD pb nm ve st sl wr)∧Hid (Below pb w wr))
   (fun _ i _=>L.length-(intOf i).toNat)
 case atStart=>exact ⟨0,st0,0,sl,Nat.zero_le _,rfl,rfl,hide rfl,H0,H,hide (Below.refl _ _)⟩
 case round =>
   clear H H0
   obtain ⟨k,st,la,sl,hk,rfl,rfl,HE,HL,HP,HB⟩:=hrel
   by_cases hlt2:k<L.length
   · have b1:(k:Int)<(L.length:Int):=by omega
     have hcell:=(HB.out.cell (p:=⟨lg,lo+k,none⟩) hlg).trans (HC.out k hlt2)
     obtain ⟨x,hx⟩:∃ x,L.getD k []=x:=⟨_,rfl⟩
     have hxl:x.length≤2000:=by
       rw[← hx,List.getD,List.getElem?_eq_getElem hlt2];exact XM.out _ (List.getElem_mem hlt2)
     rw[hx] at hcell
     have hcell':wr.cell? ⟨lg,lo+k,none⟩=some (.string ⟨x.toArray⟩):=hcell
     have hdrop:L.drop k=x::L.drop (k+1):=by rw[List.drop_eq_getElem_cons hlt2,← hx];simp[List.getD,List.getElem?_eq_getElem hlt2]
     obtain ⟨a,r,har⟩:=Nv x
     have hE:=HE.out
     rw[hdrop,BX (short K) st la x a r har] at hE
     obtain ⟨z,hz⟩:∃ z,kd a=z:=⟨_,rfl⟩
     rw[hz] at hE
     obtain ⟨n,hn⟩:∃ n,(sp 32 x).length=n:=⟨_,rfl⟩
     have hnr:r.length+1=n:=by rw[← hn,har];rfl
     have hn2:n≤2001:=by have:=aas 32 x;omega
     have hwr:∀ y∈r,y.length≤2000:=fun y hy=>by have:=zm 32 x y (by rw[har];simp[hy]);omega
     have hzb:=aH.abZ a
     rw[hz] at hzb
     have HZ:=hide hz;have HN:=hide hn;have Q8:=hide har;have HNR:=hide hnr;have HWR:=hide hwr
     have hbs:=HB.out.size
     have wK:Hid (wr.cell? ⟨3,0,none⟩=some (.int .i64 mx)):=hide ((HB.out.cell (p:=⟨3,0,none⟩) (by show 3<pb;omega)).trans HM.out)
     have Ae:Hid (∀ i:Nat,i<64→wr.cell? ⟨4,i,none⟩=some (.int .u32 (K i))):=hide fun i hi=>(HB.out.cell (p:=⟨4,i,none⟩) (by show 4<pb;omega)).trans (HK.out i hi)
     have hn0:(0:Int)<(n:Int):=by omega
     clear hx hz hn hcell har hdrop hnr hwr HE
     by_cases g1:z=0
     · have HE2:=hide (hE.trans (if_pos (.inl g1)))
       clear hE
       subst g1
       go_wp2_with (first
         | (go_at_call 152;refine (dG 32 x hxl mx _ wK.out).mono ?_;rintro e w1 ⟨he,hw1⟩;rw[HN.out] at he;subst he;have HQ:=hide (jw hw1);have q0:w1.cell? ⟨wr.heap.size,0,none⟩=some (.string ⟨a.toArray⟩):=(HQ.out 0 (by rw[HN.out];omega)).trans (by rw[Q8.out];rfl);have HB1:=hide (jA hw1);clear hw1)
         | (go_at_call 262;refine (jU a _).mono ?_;rintro e w2 ⟨he,rfl⟩;rw[HZ.out] at he;subst he))
       go_ret
       rw[HE2.out]
       exact ⟨rfl,HB.out.trans (HB1.out.1.mono (Nat.le_of_lt HP.out.lt))⟩
     · by_cases g2:z<la
       · have HE2:=hide (hE.trans (if_pos (.inr g2)))
         clear hE
         have z0:(z==0)=false:=by simp[g1]
         go_wp2_with (first
           | (go_at_call 152;refine (dG 32 x hxl mx _ wK.out).mono ?_;rintro e w1 ⟨he,hw1⟩;rw[HN.out] at he;subst he;have HQ:=hide (jw hw1);have q0:w1.cell? ⟨wr.heap.size,0,none⟩=some (.string ⟨a.toArray⟩):=(HQ.out 0 (by rw[HN.out];omega)).trans (by rw[Q8.out];rfl);have HB1:=hide (jA hw1);clear hw1)
           | (go_at_call 262;refine (jU a _).mono ?_;rintro e w2 ⟨he,rfl⟩;rw[HZ.out] at he;subst he))
         go_ret
         rw[HE2.out]
         exact ⟨rfl,HB.out.trans (HB1.out.1.mono (Nat.le_of_lt HP.out.lt))⟩
       · have hE2:=hE.trans (if_neg (by omega))
         clear hE
         have z0:(z==0)=false:=by simp[g1]
         obtain ⟨o,ho⟩:∃ o,(if n=1 then 0 else 1)=o:=⟨_,rfl⟩
         have HO:=hide ho
         have CK:Hid (∀ (w1:World),fD pb nm ve st sl w1→Below pb wr w1→Below wr.heap.size wr w1→w1.heap.size=wr.heap.size+1→(∀ j,j<(sp 32 x).length→w1.cell? ⟨wr.heap.size,j,none⟩=some (aO ((sp 32 x).getD j []))) →
             Calls Tryz.prog 263 #[.pointer (some ⟨pb,0,none⟩), .int .i64 z, .slice (some ⟨wr.heap.size,o,none⟩) (n-1) (n-1)] w1 (sU pb nm ve (aH.jM (short K) st z r) w1)):=hide (by
           intro w1 hp hb hb2 hs hq
           have hrl:n-1=r.length:=by have:=HNR.out;omega
           have hpl:=HP.out.lt
           have hcr:∀ j y,r[j]? = some y→w1.cell? ⟨wr.heap.size,o+j,none⟩=some (.string ⟨y.toArray⟩):=by
             intro j y hy
             have hjr:=(List.getElem?_eq_some_iff.1 hy).1
             have ho1:o=1:=by rw[← ho,if_neg (by have:=HNR.out;omega)]
             have:=hq (j+1) (by rw[Q8.out];simp;omega)
             rw[Q8.out] at this
             rw[ho1,Nat.add_comm 1 j,this]
             simp[List.getD,hy,aO]
           have:=Td pb wr.heap.size o (n-1) nm ve st sl z (by omega) r HWR.out (by have:=HNR.out;omega) K mx (HL.out.fits (by omega)) w1 hp hp0 ⟨by omega,by omega,fun i e=>by have:=((HP.out.own i).lt _ e).2;omega⟩
             ((hb.cell (p:=⟨3,0,none⟩) (by show 3<pb;omega)).trans wK.out) (fun i hi=>(hb.cell (p:=⟨4,i,none⟩) (by show 4<pb;omega)).trans (Ae.out i hi)) hcr
           rwa [← hrl] at this)
         clear ho
         cases hpl:aH.jM (short K) st z r with
         | none =>
           rw[hpl] at hE2
           have HE2:=hide hE2
           have Rj:=hide hpl
           clear hE2 hpl
           by_cases hn1:n=1
           · obtain rfl:o=0:=by rw[← HO.out,if_pos hn1]
             subst hn1
             go_wp2_with (first
               | (go_at_call 152;refine (dG 32 x hxl mx _ wK.out).mono ?_;rintro e w1 ⟨he,hw1⟩;rw[HN.out] at he;subst he;have HQ:=hide (jw hw1);have q0:w1.cell? ⟨wr.heap.size,0,none⟩=some (.string ⟨a.toArray⟩):=(HQ.out 0 (by rw[HN.out];omega)).trans (by rw[Q8.out];rfl);have HB1:=hide (jA hw1);clear hw1)
               | (go_at_call 262;refine (jU a _).mono ?_;rintro e w2 ⟨he,rfl⟩;rw[HZ.out] at he;subst he)
               | (go_at_call 263;refine (CK.out _ (HP.out.below HB1.out.1) (HB1.out.1.mono (Nat.le_of_lt HP.out.lt)) HB1.out.1 HB1.out.2 HQ.out).mono ?_;rintro e w3 hpost;rw[Rj.out] at hpost;obtain ⟨rfl,hb3⟩:=hpost))
             go_ret
             rw[HE2.out]
             exact ⟨rfl,(HB.out.trans (HB1.out.1.mono (Nat.le_of_lt HP.out.lt))).trans hb3⟩
           · obtain rfl:o=1:=by rw[← HO.out,if_neg hn1]
             go_wp2_with (first
               | (go_at_call 152;refine (dG 32 x hxl mx _ wK.out).mono ?_;rintro e w1 ⟨he,hw1⟩;rw[HN.out] at he;subst he;have HQ:=hide (jw hw1);have q0:w1.cell? ⟨wr.heap.size,0,none⟩=some (.string ⟨a.toArray⟩):=(HQ.out 0 (by rw[HN.out];omega)).trans (by rw[Q8.out];rfl);have HB1:=hide (jA hw1);clear hw1)
               | (go_at_call 262;refine (jU a _).mono ?_;rintro e w2 ⟨he,rfl⟩;rw[HZ.out] at he;subst he)
               | (go_at_call 263;refine (CK.out _ (HP.out.below HB1.out.1) (HB1.out.1.mono (Nat.le_of_lt HP.out.lt)) HB1.out.1 HB1.out.2 HQ.out).mono ?_;rintro e w3 hpost;rw[Rj.out] at hpost;obtain ⟨rfl,hb3⟩:=hpost))
             go_ret
             rw[HE2.out]
             exact ⟨rfl,(HB.out.trans (HB1.out.1.mono (Nat.le_of_lt HP.out.lt))).trans hb3⟩
         | some st' =>
           rw[hpl] at hE2
           have HE2:=hide hE2
           have Rj:=hide hpl
           have HL2:=hide (Ji hpl HL.out)
           clear hE2 hpl
           by_cases hn1:n=1
           · obtain rfl:o=0:=by rw[← HO.out,if_pos hn1]
             subst hn1
             go_wp2_with (first
               | (go_at_call 152;refine (dG 32 x hxl mx _ wK.out).mono ?_;rintro e w1 ⟨he,hw1⟩;rw[HN.out] at he;subst he;have HQ:=hide (jw hw1);have q0:w1.cell? ⟨wr.heap.size,0,none⟩=some (.string ⟨a.toArray⟩):=(HQ.out 0 (by rw[HN.out];omega)).trans (by rw[Q8.out];rfl);have HB1:=hide (jA hw1);clear hw1)
               | (go_at_call 262;refine (jU a _).mono ?_;rintro e w2 ⟨he,rfl⟩;rw[HZ.out] at he;subst he)
               | (go_at_call 263;refine (CK.out _ (HP.out.below HB1.out.1) (HB1.out.1.mono (Nat.le_of_lt HP.out.lt)) HB1.out.1 HB1.out.2 HQ.out).mono ?_;rintro e w3 hpost;rw[Rj.out] at hpost;obtain ⟨rfl,sl3,hp3,hb3⟩:=hpost))
             go_roundw
             case rel=>exact ⟨k+1,st',z,sl3,by omega,by go_num,rfl,HE2,HL2,hide hp3,hide ((HB.out.trans (HB1.out.1.mono (Nat.le_of_lt HP.out.lt))).trans hb3)⟩
             case measure=>simp[intOf];omega
           · obtain rfl:o=1:=by rw[← HO.out,if_neg hn1]
             go_wp2_with (first
               | (go_at_call 152;refine (dG 32 x hxl mx _ wK.out).mono ?_;rintro e w1 ⟨he,hw1⟩;rw[HN.out] at he;subst he;have HQ:=hide (jw hw1);have q0:w1.cell? ⟨wr.heap.size,0,none⟩=some (.string ⟨a.toArray⟩):=(HQ.out 0 (by rw[HN.out];omega)).trans (by rw[Q8.out];rfl);have HB1:=hide (jA hw1);clear hw1)
               | (go_at_call 262;refine (jU a _).mono ?_;rintro e w2 ⟨he,rfl⟩;rw[HZ.out] at he;subst he)
               | (go_at_call 263;refine (CK.out _ (HP.out.below HB1.out.1) (HB1.out.1.mono (Nat.le_of_lt HP.out.lt)) HB1.out.1 HB1.out.2 HQ.out).mono ?_;rintro e w3 hpost;rw[Rj.out] at hpost;obtain ⟨rfl,sl3,hp3,hb3⟩:=hpost))
             go_roundw
             case rel=>exact ⟨k+1,st',z,sl3,by omega,by go_num,rfl,HE2,HL2,hide hp3,hide ((HB.out.trans (HB1.out.1.mono (Nat.le_of_lt HP.out.lt))).trans hb3)⟩
             case measure=>simp[intOf];omega
   · obtain rfl:k=L.length:=by omega
     have HE2:Hid (aH.dS (short K) st0 0 L=some st):=hide (by rw[HE.out,List.drop_length];rfl)
     go_wp2_with fail
     go_ret
     rw[HE2.out]
     exact ⟨rfl,sl,HP.out,HB.out⟩
end
end Go.Proofs.YtialenebfcnkkaaGreatDoor
