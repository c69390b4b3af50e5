/- InsW2, ParAny, WishW2, WishW3, GoodMath, MapW2, RulW3, RulW4 -/
import Derived.Test.YtialenebfcnkkaaGreatDoorWokJ12
import Derived.Deep.RegionHeld3
import Derived.Test.YtialenebfcnkkaaGreatDoorWokJ16
import Derived.Test.YtialenebfcnkkaaGreatDoorWokJ11
set_option maxHeartbeats 4000000
set_option maxRecDepth 100000
namespace Go.Proofs.YtialenebfcnkkaaGreatDoor
section
open Go.RowKit
open Arc (St Cmd S)
structure InQ (w:World) (A:Nat) (F:List (S × S)) (v:Value) (w':World):Prop where
 own:w'.ownsRow (w.heap.size+1) 234 2 v F.length (F.flatMap pairV)
 bel:Below w.heap.size w w'
 siz:A<w'.heap.size
def InS (w:World) (A:Nat) (F:List (S × S)) (nm ve:S) (a0 a1 a2 a3 a4 a5:Option Addr) (m0 m1 m2 m3 m4 m5 c0 c1 c2 c3 c4 c5:Nat) (w':World):Prop :=
 InQ w A F (.slice a3 m3 c3) w'∧w'.cell? ⟨A,0,none⟩=some (.string ⟨nm.toArray⟩)∧w'.cell? ⟨A,1,none⟩=some (.string ⟨ve.toArray⟩)∧w'.cell? ⟨A,2,none⟩=some (.slice a0 m0 c0)∧w'.cell? ⟨A,3,none⟩=some (.slice a1 m1 c1)∧w'.cell? ⟨A,4,none⟩=some (.slice a2 m2 c2)∧w'.cell? ⟨A,5,none⟩=some (.slice a3 m3 c3)∧w'.cell? ⟨A,6,none⟩=some (.slice a4 m4 c4)∧w'.cell? ⟨A,7,none⟩=some (.slice a5 m5 c5)
theorem InS.start {w w':World} {A:Nat} {F:List (S × S)} {nm ve:S} {a0 a1 a2 a3 a4 a5:Option Addr} {m0 m1 m2 m3 m4 m5 c0 c1 c2 c3 c4 c5:Nat} {t:TypeId} (h:w'.heap[A]? = some (.cells #[.string ⟨nm.toArray⟩, .string ⟨ve.toArray⟩, .slice a0 m0 c0, .slice a1 m1 c1, .slice a2 m2 c2, .slice a3 m3 c3, .slice a4 m4 c4, .slice a5 m5 c5] t (0,0)))
   (q:InQ w A F (.slice a3 m3 c3) w'):InS w A F nm ve a0 a1 a2 a3 a4 a5 m0 m1 m2 m3 m4 m5 c0 c1 c2 c3 c4 c5 w':=by
 obtain ⟨u0,u1,u2,u3,u4,u5,u6,u7, -⟩:=eight_any h
 exact ⟨q,u0,u1,u2,u3,u4,u5,u6,u7⟩
theorem InS.on {w w' w2:World} {A:Nat} {F:List (S × S)} {nm ve:S} {a0 a1 a2 a3 a4 a5:Option Addr} {m0 m1 m2 m3 m4 m5 c0 c1 c2 c3 c4 c5:Nat} (h:InS w A F nm ve a0 a1 a2 a3 a4 a5 m0 m1 m2 m3 m4 m5 c0 c1 c2 c3 c4 c5 w') (hb:Below w'.heap.size w' w2):InS w A F nm ve a0 a1 a2 a3 a4 a5 m0 m1 m2 m3 m4 m5 c0 c1 c2 c3 c4 c5 w2:=by
 obtain ⟨q,u0,u1,u2,u3,u4,u5,u6,u7⟩:=h
 have e:∀ j,w2.cell? ⟨A,j,none⟩=w'.cell? ⟨A,j,none⟩:=fun j=>hb.cell (p:=⟨A,j,none⟩) q.siz
 exact ⟨⟨own_below q.own hb,q.bel.trans (hb.mono q.bel.size),Nat.lt_of_lt_of_le q.siz hb.size⟩,(e 0).trans u0,(e 1).trans u1,(e 2).trans u2,(e 3).trans u3,(e 4).trans u4,(e 5).trans u5,(e 6).trans u6,(e 7).trans u7⟩
theorem InS.drew {w w':World} {A:Nat} {F:List (S × S)} {nm ve:S} {a0 a1 a2 a3 a4 a5:Option Addr} {m0 m1 m2 m3 m4 m5 c0 c1 c2 c3 c4 c5:Nat} (h:InS w A F nm ve a0 a1 a2 a3 a4 a5 m0 m1 m2 m3 m4 m5 c0 c1 c2 c3 c4 c5 w'):InS w A F nm ve a0 a1 a2 a3 a4 a5 m0 m1 m2 m3 m4 m5 c0 c1 c2 c3 c4 c5 w'.drew :=
 h.on ((Below.refl _ w').drew)
theorem InS.far {w w':World} {A:Nat} {F:List (S × S)} {nm ve:S} {a0 a1 a2 a3 a4 a5:Option Addr} {m0 m1 m2 m3 m4 m5 c0 c1 c2 c3 c4 c5:Nat} (h:InS w A F nm ve a0 a1 a2 a3 a4 a5 m0 m1 m2 m3 m4 m5 c0 c1 c2 c3 c4 c5 w') (hA:w.heap.size<A) (j:Nat) (u:Value):InS w A F nm ve a0 a1 a2 a3 a4 a5 m0 m1 m2 m3 m4 m5 c0 c1 c2 c3 c4 c5 (w'.setCell ⟨w.heap.size,j,none⟩ u):=by
 obtain ⟨q,u0,u1,u2,u3,u4,u5,u6,u7⟩:=h
 have e:∀ k,(w'.setCell ⟨w.heap.size,j,none⟩ u).cell? ⟨A,k,none⟩=w'.cell? ⟨A,k,none⟩:=fun k=>World.cell?_setCell_far _ _ _ _ (by show w.heap.size≠A;omega)
 refine ⟨⟨?_,q.bel.setCell (p:=⟨w.heap.size,j,none⟩) (Nat.le_refl _) u,by simpa using q.siz⟩,(e 0).trans u0,(e 1).trans u1,(e 2).trans u2,(e 3).trans u3,(e 4).trans u4,(e 5).trans u5,(e 6).trans u6,(e 7).trans u7⟩
 refine ⟨q.own.1,?_⟩
 rcases q.own.2 with hn | ⟨g,cap,cur,hv,hg,hgg,rest⟩
 · exact .inl hn
 · exact .inr ⟨g,cap,cur,hv,hg,by rw[Below.heap_setCell _ _ _ _ (by show g≠w.heap.size;omega)];exact hgg,rest⟩
theorem InS.bel {w w':World} {A:Nat} {F:List (S × S)} {nm ve:S} {a0 a1 a2 a3 a4 a5:Option Addr} {m0 m1 m2 m3 m4 m5 c0 c1 c2 c3 c4 c5:Nat} (h:InS w A F nm ve a0 a1 a2 a3 a4 a5 m0 m1 m2 m3 m4 m5 c0 c1 c2 c3 c4 c5 w'):Below w.heap.size w w':=h.1.bel
theorem cutTwo_le:∀ (x u v:S),cutTwo x=some (u,v)→u.length+v.length≤x.length
 | [],u,v,h=>by simp[cutTwo] at h
 | c::l,u,v,h=>by
   by_cases hc:c=10
   · subst hc
     match l with
     | []=>simp[cutTwo] at h
     | e::q =>
       by_cases he:e=10
       · subst he
         rw[show cutTwo (10::10::q)=some ([],q) from by unfold cutTwo;rfl] at h
         simp at h
         obtain ⟨rfl,rfl⟩:=h
         simp;omega
       · rw[Arc.cutTwo_ten e q he] at h
         cases h2:cutTwo (e::q) with
         | none=>rw[h2] at h;simp at h
         | some r =>
           obtain ⟨r1,r2⟩:=r
           rw[h2] at h
           simp at h
           have:=cutTwo_le (e::q) r1 r2 h2
           rw[← h.1,← h.2]
           simp at this ⊢;omega
   · rw[Arc.cutTwo_one c l hc] at h
     cases h2:cutTwo l with
     | none=>rw[h2] at h;simp at h
     | some r =>
       obtain ⟨r1,r2⟩:=r
       rw[h2] at h
       simp at h
       have:=cutTwo_le l r1 r2 h2
       rw[← h.1,← h.2]
       simp at this ⊢;omega
def Paths (st:St):Prop:=∀ p∈st.files,p.1.length≤2000
theorem pline_paths {f:S→S} {st st':St} {k:Int} {rest:List S} (hyp:Arc.pline f st k rest=some st') (hr:∀ y∈rest,y.length≤2000) (hl:Paths st):Paths st':=by
 rw[pline_is] at hyp
 repeat' split at hyp
 all_goals first
   | (cases hyp;done)
   | (cases hyp;exact hl)
   | (cases hyp
      intro p hp
      rcases List.mem_append.1 hp with hp | hp
      · exact hl p hp
      · simp at hp
        subst hp
        exact hr _ (by simp))
theorem pbody_paths (f:S→S):∀ (ls:List S) (st st':St) (la:Int) (n:Nat),(∀ y∈ls,y.length≤2000)→Arc.pbody f st la ls=some st'→PLe st n→Paths st→PLe st' (n+ls.length)∧Paths st'
 | [],st,st',la,n,hy,h,h1,h2=>by cases h;exact ⟨h1,h2⟩
 | l::ls,st,st',la,n,hy,h,h1,h2=>by
   obtain ⟨a,r,har⟩:=sp_head l
   rw[pbody_cons f st la l a r har ls] at h
   split at h
   · cases h
   · cases hp:Arc.pline f st (kd a) r with
     | none=>rw[hp] at h;cases h
     | some st1 =>
       rw[hp] at h
       simp only at h
       have hl:=hy l (by simp)
       have:=pbody_paths f ls st1 st' (kd a) (n+1) (fun y q=>hy y (by simp[q])) h (pline_le hp h1) (pline_paths hp (fun y q=>by have:=sp_le 32 l y (by rw[har];simp[q]);omega) h2)
       rw[List.length_cons,show n+(ls.length+1)=n+1+ls.length from by omega]
       exact this
def PaPost (o:Option (S × S × St)) (w:World):Ending→World→Prop:=fun e w'=>match o with
 | none=>e = .returned (.tuple #[.agg #[.string ⟨#[]⟩, .string ⟨#[]⟩, .slice none 0 0, .slice none 0 0, .slice none 0 0, .slice none 0 0, .slice none 0 0, .slice none 0 0], .bool false])∧Below w.heap.size w w'
 | some (nm,ve,st)=>∃ sl:Fin 6→Value,e = .returned (.tuple #[.agg #[strV nm,strV ve,sl 0,sl 1,sl 2,sl 3,sl 4,sl 5], .bool true])∧(∀ i,w'.ownsRow w.heap.size (pty i) (psz i) (sl i) (prow st i).1 (prow st i).2)∧Below w.heap.size w w'
theorem parse_any (x:S) (K:Nat→Int) (mx:Int) (w:World) (hw9:9≤w.heap.size) (hm:w.cell? ⟨3,0,none⟩=some (.int .i64 mx)) (hK:∀ i:Nat,i<64→w.cell? ⟨4,i,none⟩=some (.int .u32 (K i))) :
   Calls Tryz.prog 159 #[.string ⟨x.toArray⟩] w (PaPost (Arc.parse (short K) x) w):=by
 rw[Arc.parse]
 by_cases hx:2000<x.length
 · rw[if_pos hx];exact parse_long x hx w
 rw[if_neg hx]
 have hx':x.length≤2000:=by omega
 cases hcut:cutTwo x with
 | none=>exact parse_nocut x hx' hcut mx w hw9 hm
 | some q =>
   obtain ⟨head,contents⟩:=q
   have hle:=cutTwo_le x head contents hcut
   have hhl:head.length≤2000:=by omega
   have hcl:contents.length≤2000:=by omega
   simp only
   match hsp:sp 10 head with
   | []=>exact absurd hsp (sp_ne 10 head)
   | [a]=>exact parse_few x hx' head contents hcut hhl (by rw[hsp];simp) mx w hw9 hm
   | [a,b]=>exact parse_few x hx' head contents hcut hhl (by rw[hsp];simp) mx w hw9 hm
   | a::b::d::L =>
     simp only
     by_cases hlen:21<L.length
     · rw[if_pos hlen];exact parse_many x hx' head contents hcut hhl (by rw[hsp];simp;omega) mx w hw9 hm
     rw[if_neg hlen]
     have hL:L.length≤21:=by omega
     have hll:∀ y∈L,y.length≤2000:=fun y q=>by have:=sp_le 10 head y (by rw[hsp];simp[q]);omega
     have hbl:b.length≤2000:=by have:=sp_le 10 head b (by rw[hsp];simp);omega
     by_cases hok:Arc.headOk a b d=true
     · rw[if_pos hok]
       cases hbody:Arc.pbody (short K) (.of contents) 0 L with
       | none =>
         have hL0:1≤L.length:=by
           match L with
           | []=>cases hbody
           | _::_=>simp
         exact parse_body1 x head contents a b d L K mx w hx' hcut hhl hcl hsp hL hL0 hll hbl hw9 hok hbody hm hK
       | some st =>
         simp only
         by_cases hleft:st.left=[]
         · rw[if_pos hleft]
           by_cases hL0:L.length=0
           · exact parse_ok0 x head contents a b d L K mx w hx' hcut hhl hcl hsp hL hL0 hll hbl hw9 hok st hbody hleft hm hK
           · exact parse_ok1 x head contents a b d L K mx w hx' hcut hhl hcl hsp hL (by omega) hll hbl hw9 hok st hbody hleft hm hK
         · rw[if_neg hleft]
           have hl2:(st.left==[])=false:=by simpa using hleft
           by_cases hL0:L.length=0
           · exact parse_left0 x head contents a b d L K mx w hx' hcut hhl hcl hsp hL hL0 hll hbl hw9 hok st hbody hl2 hm hK
           · exact parse_left1 x head contents a b d L K mx w hx' hcut hhl hcl hsp hL (by omega) hll hbl hw9 hok st hbody hl2 hm hK
     · rw[if_neg hok]
       exact parse_head x head contents a b d L mx w hx' hcut hhl hsp hL hbl hw9 (by simpa using hok) hm
theorem parse_fits {f:S→S} {x nm ve:S} {st:St} (h:Arc.parse f x=some (nm,ve,st)):nm.length≤2000∧ve.length≤2000∧PLe st 21∧Paths st:=by
 rw[Arc.parse] at h
 by_cases hx:2000<x.length
 · rw[if_pos hx] at h;cases h
 rw[if_neg hx] at h
 cases hcut:cutTwo x with
 | none=>rw[hcut] at h;cases h
 | some q =>
   obtain ⟨head,contents⟩:=q
   have hle:=cutTwo_le x head contents hcut
   rw[hcut] at h
   simp only at h
   match hsp:sp 10 head with
   | []=>rw[hsp] at h;cases h
   | [a]=>rw[hsp] at h;cases h
   | [a,b]=>rw[hsp] at h;cases h
   | a::b::d::L =>
     rw[hsp] at h
     simp only at h
     by_cases hlen:21<L.length
     · rw[if_pos hlen] at h;cases h
     rw[if_neg hlen] at h
     by_cases hok:Arc.headOk a b d=true
     · rw[if_pos hok] at h
       cases hbody:Arc.pbody f (.of contents) 0 L with
       | none=>rw[hbody] at h;cases h
       | some st' =>
         rw[hbody] at h
         simp only at h
         split at h
         · simp only[Option.some.injEq,Prod.mk.injEq] at h
           obtain ⟨rfl,rfl,rfl⟩:=h
           have hb:b.length≤2000:=by have:=sp_le 10 head b (by rw[hsp];simp);omega
           have hd:d.length≤2000:=by have:=sp_le 10 head d (by rw[hsp];simp);omega
           obtain ⟨g1,g2⟩:=pbody_paths f L (.of contents) _ 0 0 (fun y q=>by have:=sp_le 10 head y (by rw[hsp];simp[q]);omega) hbody ⟨by simp[St.of],by simp[St.of],by simp[St.of],by simp[St.of],by simp[St.of],by simp[St.of],by simp[St.of];omega⟩ (fun p hp=>by simp[St.of] at hp)
           refine ⟨?_,?_,?_,g2⟩
           · unfold Arc.behind;split
             · rw[List.length_drop];omega
             · exact hb
           · unfold Arc.behind;split
             · rw[List.length_drop];omega
             · exact hd
           · obtain ⟨k1,k2,k3,k4,k5,k6,k7⟩:=g1
             exact ⟨by omega,by omega,by omega,by omega,by omega,by omega,k7⟩
         · cases h
     · rw[if_neg hok] at h;cases h
end
section
open Go.RowKit
open Arc (St)
open Hv (S Dk VM)
def Sl.val (s:Sl):Value := .slice s.a s.n s.c
def Pk.sl (p:Pk):Fin 6→Value
 | 0=>p.needs.val | 1=>p.breaks.val | 2=>p.wakes.val | 3=>p.files.val | 4=>p.runs.val | 5=>p.wokens.val
structure PkIs (B:Nat) (p:Pk) (st:St) (w:World):Prop where
 parse:Arc.parse (short kTab) p.text=some (p.nm,p.ve,st)
 rows:∀ i,w.ownsRow B (pty i) (psz i) (p.sl i) (prow st i).1 (prow st i).2
theorem PkIs.below {B:Nat} {p:Pk} {st:St} {w w':World} (h:PkIs B p st w) (hb:Below w.heap.size w w'):PkIs B p st w':=⟨h.parse,fun i=>own_below (h.rows i) hb⟩
theorem PkIs.far {B B':Nat} {C:Nat→Prop} {p:Pk} {st:St} {w w':World} (h:PkIs B p st w) (hf:Far B' C w w') (hB:w.heap.size≤B') (hC:∀ i g,(p.sl i).ownBlock=some g → ¬ C g):PkIs B p st w':=⟨h.parse,fun i=>hf.own (h.rows i) hB (hC i)⟩
theorem own_ge {w:World} {B e size n g:Nat} {v:Value} {xs:List Value} (h:w.ownsRow B e size v n xs) (hg:v.ownBlock=some g):B≤g:=by
 rcases h.2 with ⟨rfl,rfl⟩ | ⟨g',cap,cur,rfl,h1,h2,h3⟩
 · cases hg
 · cases hg;exact h1
theorem bparse_any (x:S) (w:World) (hb:Base w):Calls Tryz.prog 159 #[.string ⟨x.toArray⟩] w (PaPost (Arc.parse (short kTab) x) w):=by
 obtain ⟨m,hm⟩:=hb.mx
 exact parse_any x kTab m w (by have:=hb.size;omega) hm hb.rounds
theorem takeInstall_long (rm im:Nat) (x:S) (hx:2000<x.length) (w:World) :
   Calls Tryz.prog 173 #[.agg #[.map (some rm), .map (some im)], .string ⟨x.toArray⟩] w fun e w'=>e = .returned (.tuple #[.string ⟨#[]⟩, .bool false])∧Below w.heap.size w w':=by
 have gx:(2000:Int)<(x.length:Int):=by omega
 go_enter Tryz.func173,Tryz.ntmps173
 go_wp2_with fail
 go_ret2
 exact ⟨rfl,(Below.refl _ _).alloc (Nat.le_refl _) _⟩
theorem takeInstall_no (rm im:Nat) (x:S) (hx:x.length≤2000) (hp:Arc.parse (short kTab) x=none) (w:World) (hb:Base w) :
   Calls Tryz.prog 173 #[.agg #[.map (some rm), .map (some im)], .string ⟨x.toArray⟩] w fun e w'=>e = .returned (.tuple #[.string ⟨#[]⟩, .bool false])∧Below w.heap.size w w':=by
 have gx : ¬ (2000:Int)<(x.length:Int):=by omega
 have HBs:=hide hb
 have HP:=hide (fun w hw=>bparse_any x w hw)
 rw[hp] at HP
 clear hb hp
 go_enter Tryz.func173,Tryz.ntmps173
 go_wp2_with fail
 refine (clone_any x hx _).mono ?_
 rintro e w1 ⟨rfl,hb1⟩
 have HB1:=hide (((Below.refl w.heap.size w).alloc (Nat.le_refl _) (.cells #[.map (some rm), .map (some im)] 135)).trans (hb1.mono (by simp)))
 have HBs1:=hide (HBs.out.below HB1.out HBs.out.size)
 clear hb1
 go_wp2_with fail
 refine (HP.out _ HBs1.out).mono ?_
 rintro e w2 ⟨rfl,hb2⟩
 have HB2:=hide (HB1.out.trans (hb2.mono HB1.out.size))
 clear hb2
 go_wp2_with fail
 go_ret2
 exact ⟨rfl,HB2.out.alloc HB2.out.size _⟩
theorem takeInstall_yes (rm im:Nat) (R I:VM Value) (x nm ve:S) (st:St) (hx:x.length≤2000) (hp:Arc.parse (short kTab) x=some (nm,ve,st)) (hI:I.length≤1000000) (w:World) (hb:Base w) (h:WishAt rm im R I w) :
   Calls Tryz.prog 173 #[.agg #[.map (some rm), .map (some im)], .string ⟨x.toArray⟩] w fun e w'=>∃ p:Pk,e = .returned (.tuple #[.string ⟨nm.toArray⟩, .bool true])∧p.text=x∧p.nm=nm∧p.ve=ve∧p.status=1∧PkIs w.heap.size p st w'∧WishAt rm im R (Hv.put I nm p.val) w'∧Far w.heap.size (fun k=>k=im) w w':=by
 have gx : ¬ (2000:Int)<(x.length:Int):=by omega
 have HBs:=hide hb
 have HP:=hide (fun w hw=>bparse_any x w hw)
 rw[hp] at HP
 have HPS:=hide hp
 have hnl:nm.length≤2000:=(parse_fits hp).1
 have HW:=hide h
 have hil:=h.ins.lt
 clear hb hp h
 go_enter Tryz.func173,Tryz.ntmps173
 go_wp2_with fail
 have hrow:=heap_alloc_new w (.cells #[.map (some rm), .map (some im)] 135)
 refine (clone_any x hx _).mono ?_
 rintro e w1 ⟨rfl,hb1⟩
 have HC1:=hide ((hb1.block w.heap.size (by simp)).trans hrow)
 have HW1:=hide ((HW.out.below ((Below.refl w.heap.size w).alloc (Nat.le_refl _) (.cells #[.map (some rm), .map (some im)] 135))).below hb1)
 have HB1:=hide (((Below.refl w.heap.size w).alloc (Nat.le_refl _) (.cells #[.map (some rm), .map (some im)] 135)).trans (hb1.mono (by simp)))
 have HBs1:=hide (HBs.out.below HB1.out HBs.out.size)
 clear hrow hb1
 go_wp2_with fail
 refine (HP.out _ HBs1.out).mono ?_
 rintro e w2 ⟨sl,rfl,hown,hb2⟩
 have hs1:=HB1.out.size
 have HC2:=hide ((hb2.block w.heap.size (blt HC1.out)).trans HC1.out)
 have HW2:=hide (HW1.out.below hb2)
 have HB2:=hide (HB1.out.trans (hb2.mono HB1.out.size))
 obtain ⟨a0,c0,e0⟩:=slice_form (hown 0)
 obtain ⟨a1,c1,e1⟩:=slice_form (hown 1)
 obtain ⟨a2,c2,e2⟩:=slice_form (hown 2)
 obtain ⟨a3,c3,e3⟩:=slice_form (hown 3)
 obtain ⟨a4,c4,e4⟩:=slice_form (hown 4)
 obtain ⟨a5,c5,e5⟩:=slice_form (hown 5)
 have HO:=hide (show ∀ i,w2.ownsRow w.heap.size (pty i) (psz i) ((Pk.mk x nm ve ⟨a0,_,c0⟩ ⟨a1,_,c1⟩ ⟨a2,_,c2⟩ ⟨a3,_,c3⟩ ⟨a4,_,c4⟩ ⟨a5,_,c5⟩ 1).sl i) (prow st i).1 (prow st i).2 from fun i=>by
   have hi:=own_base (hown i) hs1
   match i with
   | 0=>rw[e0] at hi;exact hi
   | 1=>rw[e1] at hi;exact hi
   | 2=>rw[e2] at hi;exact hi
   | 3=>rw[e3] at hi;exact hi
   | 4=>rw[e4] at hi;exact hi
   | 5=>rw[e5] at hi;exact hi)
 rw[e0,e1,e2,e3,e4,e5]
 obtain ⟨p,hpk⟩:∃ p,Pk.mk x nm ve ⟨a0,(prow st 0).1,c0⟩ ⟨a1,(prow st 1).1,c1⟩ ⟨a2,(prow st 2).1,c2⟩ ⟨a3,(prow st 3).1,c3⟩ ⟨a4,(prow st 4).1,c4⟩ ⟨a5,(prow st 5).1,c5⟩ 1=p:=⟨_,rfl⟩
 have hrow2:=heap_alloc_new w2 (.cells #[.string ⟨nm.toArray⟩, .string ⟨ve.toArray⟩, .slice a0 (prow st 0).1 c0, .slice a1 (prow st 1).1 c1, .slice a2 (prow st 2).1 c2, .slice a3 (prow st 3).1 c3, .slice a4 (prow st 4).1 c4, .slice a5 (prow st 5).1 c5] 154)
 have k1:=(alloc_cell (blt HC2.out) (.cells #[.string ⟨nm.toArray⟩, .string ⟨ve.toArray⟩, .slice a0 (prow st 0).1 c0, .slice a1 (prow st 1).1 c1, .slice a2 (prow st 2).1 c2, .slice a3 (prow st 3).1 c3, .slice a4 (prow st 4).1 c4, .slice a5 (prow st 5).1 c5] 154)).trans ((row_cell HC2.out 1).trans (show _=some (.map (some im)) from rfl))
 have hb3:=(Below.refl w2.heap.size w2).alloc (Nat.le_refl _) (.cells #[.string ⟨nm.toArray⟩, .string ⟨ve.toArray⟩, .slice a0 (prow st 0).1 c0, .slice a1 (prow st 1).1 c1, .slice a2 (prow st 2).1 c2, .slice a3 (prow st 3).1 c3, .slice a4 (prow st 4).1 c4, .slice a5 (prow st 5).1 c5] 154)
 have HW3:=hide (HW2.out.below hb3)
 have hi3:=HW3.out.ins
 have HB3:=hide (HB2.out.trans (hb3.mono HB2.out.size))
 have HR3:=hide hrow2
 have q0:=(row_cell hrow2 0).trans (show _=some (.string ⟨nm.toArray⟩) from rfl)
 have q1:=(row_cell hrow2 1).trans (show _=some (.string ⟨ve.toArray⟩) from rfl)
 have q2:=(row_cell hrow2 2).trans (show _=some (.slice a0 (prow st 0).1 c0) from rfl)
 have q3:=(row_cell hrow2 3).trans (show _=some (.slice a1 (prow st 1).1 c1) from rfl)
 have q4:=(row_cell hrow2 4).trans (show _=some (.slice a2 (prow st 2).1 c2) from rfl)
 have q5:=(row_cell hrow2 5).trans (show _=some (.slice a3 (prow st 3).1 c3) from rfl)
 have q6:=(row_cell hrow2 6).trans (show _=some (.slice a4 (prow st 4).1 c4) from rfl)
 have q7:=(row_cell hrow2 7).trans (show _=some (.slice a5 (prow st 5).1 c5) from rfl)
 have hil2:im<w2.heap.size:=HW2.out.ins.lt
 have HB23:=hide hb3
 clear hown hb2 HW1 HC1 hb3 hrow2
 unfold strV
 go_wp2_with (first
   | (at_mapUpdate;refine wp_store rfl _ _ _ 86 rfl 156 Tryz.underlying86 hi3 (by unfold maxLen;omega) rfl nm (by unfold maxLen;omega) rfl p.val (by rw[← hpk];rfl) ?_;intro w4 hr4 ht4;have hz0:=(row_cell (((turned_far ht4).block w2.heap.size (by simp) (by omega)).trans HR3.out) 0).trans (show _=some (.string ⟨nm.toArray⟩) from rfl);go_frame))
 go_ret2
 have hf4:=turned_far ht4
 have hil4:=hr4.lt
 have HF4:Far w.heap.size (fun k=>k=im) w w4:=((Far.refl w.heap.size (fun k=>k=im) w).below HB3.out (Nat.le_refl _)).next hf4 HB3.out.size (fun _ _ q=>q)
 refine ⟨p,rfl,by rw[← hpk],by rw[← hpk],by rw[← hpk],by rw[← hpk],?_,⟨HW3.out.rem.kept (hf4.block rm HW3.out.rem.lt HW3.out.ne),hr4,HW3.out.ne⟩,HF4⟩
 rw[← hpk]
 refine ⟨HPS.out,fun i => ?_⟩
 have hi:=own_below (HO.out i) HB23.out
 refine hf4.own hi (Nat.le_refl _) (fun g hg e => ?_)
 have:=own_ge (HO.out i) hg
 omega
namespace Hv
structure PD where
 text:S
 nm:S
 ve:S
 st:St
 status:Int
abbrev Item:=S ⊕ (S × S × S × St)
abbrev Item.rem (nm:S):Item:=.inl nm
abbrev Item.ins (x nm ve:S) (st:St):Item:=.inr (x,nm,ve,st)
def itemOf (x:S):Option Item :=
 match x with
 | []=>none
 | c::t=>if c=45 then (if Wd.isName t then some (.rem t) else none)
   else if c=43 then (if 2000<t.length then none else (Arc.parse (short kTab) t).map fun a => .ins t a.1 a.2.1 a.2.2)
   else none
end Hv
def PkR (N:Nat→Prop) (w:World) (d:Hv.PD) (v:Value):Prop:=∃ p:Pk,v=p.val∧p.text=d.text∧p.nm=d.nm∧p.ve=d.ve∧p.status=d.status∧PkIs 0 p d.st w∧∀ i g,(p.sl i).ownBlock=some g→N g
theorem PkR.weak {N N':Nat→Prop} {w:World} {d:Hv.PD} {v:Value} (h:PkR N w d v) (hn:∀ g,N g→N' g):PkR N' w d v:=by
 obtain ⟨p,h1,h2,h3,h4,h5,h6,h7⟩:=h
 exact ⟨p,h1,h2,h3,h4,h5,h6,fun i g hg=>hn g (h7 i g hg)⟩
theorem PkR.far {N C:Nat→Prop} {w w':World} {B:Nat} {d:Hv.PD} {v:Value} (h:PkR N w d v) (hf:Far B C w w') (hB:w.heap.size≤B) (hC:∀ g,g<w.heap.size→N g → ¬ C g):PkR N w' d v:=by
 obtain ⟨p,h1,h2,h3,h4,h5,h6,h7⟩:=h
 refine ⟨p,h1,h2,h3,h4,h5,h6.far hf hB (fun i g hg => ?_),h7⟩
 rcases (h6.rows i).2 with ⟨q,_⟩ | ⟨g',cap,cur,q,_,q2,_⟩
 · rw[q] at hg;cases hg
 · rw[q] at hg;cases hg
   exact hC g' (blt q2) (h7 i g' (by rw[q];rfl))
theorem PkR.below {N:Nat→Prop} {w w':World} {d:Hv.PD} {v:Value} (h:PkR N w d v) (hb:Below w.heap.size w w'):PkR N w' d v:=h.far (Far.of (C:=fun _=>False) hb (Nat.le_refl _)) (Nat.le_refl _) (fun _ _ _ h=>h)
structure PkM (N:Nat→Prop) (w:World) (D:VM Hv.PD) (E:VM Value):Prop where
 srt:Hv.Srt D
 to_:∀ k v,Hv.get E k=some v→∃ d,Hv.get D k=some d∧PkR N w d v
 fro:∀ k d,Hv.get D k=some d→∃ v,Hv.get E k=some v∧PkR N w d v
theorem PkM.nil (N:Nat→Prop) (w:World):PkM N w [] []:=⟨List.Pairwise.nil,fun k v h=>(by cases h),fun k v h=>(by cases h)⟩
theorem PkM.weak {N N':Nat→Prop} {w:World} {D:VM Hv.PD} {E:VM Value} (h:PkM N w D E) (hn:∀ g,N g→N' g):PkM N' w D E :=
 ⟨h.srt,fun k v q=>(h.to_ k v q).imp fun _ a=>⟨a.1,a.2.weak hn⟩,fun k v q=>(h.fro k v q).imp fun _ a=>⟨a.1,a.2.weak hn⟩⟩
theorem PkM.far {N C:Nat→Prop} {w w':World} {B:Nat} {D:VM Hv.PD} {E:VM Value} (h:PkM N w D E) (hf:Far B C w w') (hB:w.heap.size≤B) (hC:∀ g,g<w.heap.size→N g → ¬ C g):PkM N w' D E :=
 ⟨h.srt,fun k v q=>(h.to_ k v q).imp fun _ a=>⟨a.1,a.2.far hf hB hC⟩,fun k v q=>(h.fro k v q).imp fun _ a=>⟨a.1,a.2.far hf hB hC⟩⟩
theorem PkM.below {N:Nat→Prop} {w w':World} {D:VM Hv.PD} {E:VM Value} (h:PkM N w D E) (hb:Below w.heap.size w w'):PkM N w' D E:=h.far (Far.of (C:=fun _=>False) hb (Nat.le_refl _)) (Nat.le_refl _) (fun _ _ _ h=>h)
theorem PkM.put {N:Nat→Prop} {w:World} {D:VM Hv.PD} {E:VM Value} (h:PkM N w D E) (hE:Hv.Srt E) (k:S) {d:Hv.PD} {v:Value} (hd:PkR N w d v):PkM N w (Hv.put D k d) (Hv.put E k v):=by
 refine ⟨h.srt.put k d,fun k' v' q => ?_,fun k' d' q => ?_⟩
 · by_cases e:k'=k
   · subst e
     rw[Hv.get_put_same hE] at q
     cases q
     exact ⟨d,Hv.get_put_same h.srt _ _,hd⟩
   · rw[Hv.get_put_other hE _ e] at q
     rw[Hv.get_put_other h.srt _ e]
     exact h.to_ k' v' q
 · by_cases e:k'=k
   · subst e
     rw[Hv.get_put_same h.srt] at q
     cases q
     exact ⟨v,Hv.get_put_same hE _ _,hd⟩
   · rw[Hv.get_put_other h.srt _ e] at q
     rw[Hv.get_put_other hE _ e]
     exact h.fro k' d' q
theorem PkM.allPk {N:Nat→Prop} {w:World} {D:VM Hv.PD} {E:VM Value} (h:PkM N w D E):AllPk E:=fun k v q=>by
 obtain ⟨d,_,p,hp,_⟩:=h.to_ k v q
 exact ⟨p,hp⟩
theorem cutP_any (x:S) (p:S) (w:World):Calls Tryz.prog 151 #[.string ⟨x.toArray⟩, .string ⟨p.toArray⟩] w fun e w'=>e = .returned (.tuple #[.string ⟨(Lib.trimPrefix x p).toArray⟩, .bool (Lib.hasPrefix x p)])∧w'=w :=
 Tryz.strings_CutPrefix ⟨x.toArray⟩ ⟨p.toArray⟩ w
theorem isName_long (x:S) (hx:2000<x.length) (w:World) :
   Calls Tryz.prog 222 #[.string ⟨x.toArray⟩] w fun e w'=>e = .returned (.bool false)∧Wd.isName x=false∧Below w.heap.size w w':=by
 have h:Wd.lenIn x 1 12=false:=by simp[Wd.lenIn];omega
 have e1:Wd.isName x=false:=by simp[Wd.isName,h]
 rw[e1]
 go_enter Tryz.func222,Tryz.ntmps222
 go_wp2_with (go_at_call 264;refine (wLen_any x 1 12 _).mono ?_;rintro e w' ⟨rfl,rfl⟩)
 go_ret
 exact ⟨rfl,by simp,Below.refl _ _⟩
theorem takeRemove_bad (rm im:Nat) (x:S) (hn:Wd.isName x=false) (w:World) :
   Calls Tryz.prog 172 #[.agg #[.map (some rm), .map (some im)], .string ⟨x.toArray⟩] w fun e w'=>e = .returned (.tuple #[.string ⟨#[]⟩, .bool false])∧Below w.heap.size w w':=by
 by_cases hx:x.length≤2000
 · exact takeRemove_no rm im x hx hn w
 · go_enter Tryz.func172,Tryz.ntmps172
   go_wp2_with fail
   refine (isName_long x (by omega) _).mono ?_
   rintro e w1 ⟨rfl, -,hb1⟩
   have HB1:=hide (((Below.refl w.heap.size w).alloc (Nat.le_refl _) (.cells #[.map (some rm), .map (some im)] 135)).trans (hb1.mono (by simp)))
   clear hb1
   go_wp2_with fail
   go_ret2
   exact ⟨rfl,HB1.out⟩
def TkPost (rm im:Nat) (R I:VM Value) (x:S) (w:World) (e:Ending) (w':World):Prop :=
 match Hv.itemOf x with
 | none=>e = .returned (.tuple #[.string ⟨#[]⟩, .bool false])∧Below w.heap.size w w'
 | some (.inl nm)=>e = .returned (.tuple #[.string ⟨nm.toArray⟩, .bool true])∧nm.length≤2000∧WishAt rm im (Hv.put R nm unitV) I w'∧Far w.heap.size (fun k=>k=rm) w w'
 | some (.inr (x,nm,ve,st))=>e = .returned (.tuple #[.string ⟨nm.toArray⟩, .bool true])∧nm.length≤2000∧∃ v,PkR (fun g=>w.heap.size≤g) w' ⟨x,nm,ve,st,1⟩ v∧WishAt rm im R (Hv.put I nm v) w'∧Far w.heap.size (fun k=>k=im) w w'
theorem take_minus (rm im:Nat) (R I:VM Value) (t:S) (hR:R.length≤1000000) (w:World) (h:WishAt rm im R I w) :
   Calls Tryz.prog 117 #[.agg #[.map (some rm), .map (some im)], .string ⟨(45::t).toArray⟩] w (TkPost rm im R I (45::t) w):=by
 have HC:=hide (fun w=>cutP_any (45::t) [45] w)
 have e1:Lib.hasPrefix (45::t) [45]=true:=by simp[Lib.hasPrefix]
 have e2:Lib.trimPrefix (45::t) [45]=t:=by simp[Lib.trimPrefix,Lib.hasPrefix]
 rw[e1,e2] at HC
 clear e1 e2
 have HW:=hide h
 clear h
 obtain ⟨x,hx⟩:∃ x,(45::t)=x:=⟨_,rfl⟩
 have hi:Hv.itemOf x=if Wd.isName t then some (.rem t) else none:=by rw[← hx];rfl
 rw[hx] at HC ⊢
 have hb0:=(Below.refl w.heap.size w).alloc (Nat.le_refl _) (.cells #[.map (some rm), .map (some im)] 135)
 have HW1:=hide (HW.out.below hb0)
 have HB0:=hide hb0
 clear hb0 hx
 go_enter Tryz.func117,Tryz.ntmps117
 go_wp2_with fail
 refine (HC.out _).mono ?_
 rintro e w1 ⟨rfl,rfl⟩
 go_wp2_with fail
 cases hn:Wd.isName t
 · refine (takeRemove_bad rm im t hn _).mono ?_
   rintro e w1 ⟨rfl,hb1⟩
   have HB1:=hide (HB0.out.trans (hb1.mono HB0.out.size))
   clear hb1
   go_wp2_with fail
   go_ret2
   unfold TkPost
   rw[hi,hn]
   exact ⟨rfl,HB1.out⟩
 · have htl:t.length≤2000:=by
     by_cases q:t.length≤2000
     · exact q
     · exfalso
       have h:Wd.lenIn t 1 12=false:=by simp[Wd.lenIn];omega
       have e1:Wd.isName t=false:=by simp[Wd.isName,h]
       rw[e1] at hn
       cases hn
   refine (takeRemove_yes rm im R I t htl hn hR _ HW1.out).mono ?_
   rintro e w1 ⟨rfl,hw1,hf1⟩
   have HF1:=hide (((Far.refl w.heap.size (fun k=>k=rm) w).below HB0.out (Nat.le_refl _)).next hf1 HB0.out.size (fun _ _ q=>q))
   have HW2:=hide hw1
   clear hw1 hf1
   go_wp2_with fail
   go_ret2
   unfold TkPost
   rw[hi,hn]
   exact ⟨rfl,htl,HW2.out,HF1.out⟩
theorem take_plus (rm im:Nat) (R I:VM Value) (t:S) (hI:I.length≤1000000) (w:World) (hb:Base w) (h:WishAt rm im R I w) :
   Calls Tryz.prog 117 #[.agg #[.map (some rm), .map (some im)], .string ⟨(43::t).toArray⟩] w (TkPost rm im R I (43::t) w):=by
 have HC:=hide (fun w=>cutP_any (43::t) [45] w)
 have HD:=hide (fun w=>cutP_any (43::t) [43] w)
 have e1:Lib.hasPrefix (43::t) [45]=false:=by simp[Lib.hasPrefix,List.isPrefixOf]
 have e2:Lib.hasPrefix (43::t) [43]=true:=by simp[Lib.hasPrefix]
 have e3:Lib.trimPrefix (43::t) [43]=t:=by simp[Lib.trimPrefix,Lib.hasPrefix]
 rw[e1] at HC
 rw[e2,e3] at HD
 clear e1 e2 e3
 have HW:=hide h
 clear h
 obtain ⟨x,hx⟩:∃ x,(43::t)=x:=⟨_,rfl⟩
 have hi:Hv.itemOf x=if 2000<t.length then none else (Arc.parse (short kTab) t).map fun a => .ins t a.1 a.2.1 a.2.2:=by rw[← hx];rfl
 rw[hx] at HC HD ⊢
 have hb0:=(Below.refl w.heap.size w).alloc (Nat.le_refl _) (.cells #[.map (some rm), .map (some im)] 135)
 have HW1:=hide (HW.out.below hb0)
 have HBs:=hide (hb.below hb0 hb.size)
 have HB0:=hide hb0
 clear hb0 hx hb
 go_enter Tryz.func117,Tryz.ntmps117
 go_wp2_with fail
 refine (HC.out _).mono ?_
 rintro e w1 ⟨rfl,rfl⟩
 go_wp2_with fail
 refine (HD.out _).mono ?_
 rintro e w1 ⟨rfl,rfl⟩
 go_wp2_with fail
 by_cases hl:2000<t.length
 · refine (takeInstall_long rm im t hl _).mono ?_
   rintro e w1 ⟨rfl,hb1⟩
   have HB1:=hide (HB0.out.trans (hb1.mono HB0.out.size))
   clear hb1
   go_wp2_with fail
   go_ret2
   unfold TkPost
   rw[hi,if_pos hl]
   exact ⟨rfl,HB1.out⟩
 · rw[if_neg hl] at hi
   cases hp:Arc.parse (short kTab) t with
   | none =>
     refine (takeInstall_no rm im t (by omega) hp _ HBs.out).mono ?_
     rintro e w1 ⟨rfl,hb1⟩
     have HB1:=hide (HB0.out.trans (hb1.mono HB0.out.size))
     clear hb1
     go_wp2_with fail
     go_ret2
     unfold TkPost
     rw[hi,hp]
     exact ⟨rfl,HB1.out⟩
   | some a =>
     obtain ⟨nm,ve,st⟩:=a
     refine (takeInstall_yes rm im R I t nm ve st (by omega) hp hI _ HBs.out HW1.out).mono ?_
     rintro e w1 ⟨p,rfl,p1,p2,p3,p4,hpk,hw1,hf1⟩
     have HF1:=hide (((Far.refl w.heap.size (fun k=>k=im) w).below HB0.out (Nat.le_refl _)).next hf1 HB0.out.size (fun _ _ q=>q))
     have HW2:=hide hw1
     have HP2:Hid (PkR (fun g=>w.heap.size≤g) w1 ⟨t,nm,ve,st,1⟩ p.val):=hide ⟨p,rfl,p1,p2,p3,p4,⟨hpk.parse,fun i=>own_base (hpk.rows i) (Nat.zero_le _)⟩,fun i g hg=>Nat.le_trans HB0.out.size (own_ge (hpk.rows i) hg)⟩
     clear hw1 hf1 hpk p1 p2 p3 p4
     go_wp2_with fail
     go_ret2
     unfold TkPost
     rw[hi,hp]
     exact ⟨rfl,(parse_fits hp).1,p.val,HP2.out,HW2.out,HF1.out⟩
theorem take_other (rm im:Nat) (R I:VM Value) (x:S) (h1:Lib.hasPrefix x [45]=false) (h2:Lib.hasPrefix x [43]=false) (hi:Hv.itemOf x=none) (w:World) :
   Calls Tryz.prog 117 #[.agg #[.map (some rm), .map (some im)], .string ⟨x.toArray⟩] w (TkPost rm im R I x w):=by
 have HC:=hide (fun w=>cutP_any x [45] w)
 have HD:=hide (fun w=>cutP_any x [43] w)
 rw[h1] at HC
 rw[h2] at HD
 have HB0:=hide ((Below.refl w.heap.size w).alloc (Nat.le_refl _) (.cells #[.map (some rm), .map (some im)] 135))
 go_enter Tryz.func117,Tryz.ntmps117
 go_wp2_with fail
 refine (HC.out _).mono ?_
 rintro e w1 ⟨rfl,rfl⟩
 go_wp2_with fail
 refine (HD.out _).mono ?_
 rintro e w1 ⟨rfl,rfl⟩
 go_wp2_with fail
 go_ret2
 unfold TkPost
 rw[hi]
 exact ⟨rfl,HB0.out⟩
theorem take_any (rm im:Nat) (R I:VM Value) (x:S) (hR:R.length≤1000000) (hI:I.length≤1000000) (w:World) (hb:Base w) (h:WishAt rm im R I w) :
   Calls Tryz.prog 117 #[.agg #[.map (some rm), .map (some im)], .string ⟨x.toArray⟩] w (TkPost rm im R I x w):=by
 cases x with
 | nil=>exact take_other rm im R I [] rfl rfl rfl w
 | cons c t =>
   by_cases h1:c=45
   · subst h1;exact take_minus rm im R I t hR w h
   · by_cases h2:c=43
     · subst h2;exact take_plus rm im R I t hI w hb h
     · exact take_other rm im R I (c::t) (by simp[Lib.hasPrefix,List.isPrefixOf];intro e;exact h1 e.symm) (by simp[Lib.hasPrefix,List.isPrefixOf];intro e;exact h2 e.symm) (by simp[Hv.itemOf,h1,h2]) w
end
section
open Arc (St Cmd)
open Hv (S)
def CmdGood (c:Cmd):Prop:=((c.verb=1∨c.verb=2)∧Wd.isWord c.word=true∧Wd.isVar c.path=true)∨(c.verb=3∧Wd.isPath c.frm=true∧Wd.isVar c.path=true)∨((c.verb=4∨c.verb=5)∧Wd.isVar c.path=true)
structure StGood (st:St):Prop where
 needs:∀ q∈st.needs,Wd.isName q.1=true∧(q.2=[]∨Ver.fine q.2=true)
 breaks:∀ q∈st.breaks,Wd.isName q=true
 wakes:∀ q∈st.wakes,Wd.isPath q=true
 files:∀ q∈st.files,Wd.isPath q.1=true∧Wd.under q.1=false
 runs:∀ c∈st.runs,CmdGood c∧c.verb≠5
 wokens:∀ c∈st.wokens,CmdGood c
theorem cmd_good (ws:List S) (h:(Arc.pcmd ws).2=true):CmdGood (Arc.pcmd ws).1:=by
 rw[Arc.pcmd.eq_def] at h ⊢
 split at h
 · split at h
   next hv =>
     split at h
     · split at h
       next hq=>simp only[Bool.and_eq_true] at hq;simp only[if_pos hv,hq.1,hq.2,Bool.and_self,if_true];exact .inl ⟨hv,hq.1,hq.2⟩
       next=>cases h
     · cases h
   next hv =>
     split at h
     next h3 =>
       split at h
       · split at h
         next hq=>simp only[Bool.and_eq_true] at hq;simp only[if_neg hv,if_pos h3,hq.1,hq.2,Bool.and_self,if_true];exact .inr (.inl ⟨h3,hq.1,hq.2⟩)
         next=>cases h
       · cases h
     next h3 =>
       split at h
       next h4 =>
         split at h
         · split at h
           next hq=>simp only[if_neg hv,if_neg h3,if_pos h4,hq,if_true];exact .inr (.inr ⟨h4,hq⟩)
           next=>cases h
         · cases h
       next=>cases h
 · cases h
theorem snoc_all {α:Type} {P:α→Prop} {l:List α} {a:α} (h:∀ q∈l,P q) (ha:P a):∀ q∈l++[a],P q:=fun q hq=>by
 rcases List.mem_append.1 hq with hq | hq
 · exact h q hq
 · rw[List.mem_singleton.1 hq];exact ha
theorem pline_good {f:S→S} {st st':St} {k:Int} {rest:List S} (h:Arc.pline f st k rest=some st') (g:StGood st):StGood st':=by
 rw[Arc.pline.eq_def] at h
 split at h
 · split at h
   · split at h
     next hn=>cases h;exact { g with needs:=snoc_all g.needs (⟨hn, .inl rfl⟩) }
     next=>cases h
   · split at h
     next hn =>
       simp only[Bool.and_eq_true] at hn
       cases h;exact { g with needs:=snoc_all g.needs (⟨hn.2, .inr hn.1⟩) }
     next=>cases h
   · cases h
 · split at h
   · split at h
     · split at h
       next hn=>cases h;exact { g with breaks:=snoc_all g.breaks (hn) }
       next=>cases h
     · cases h
   · split at h
     · split at h
       · split at h
         next hn=>cases h;exact { g with wakes:=snoc_all g.wakes (hn) }
         next=>cases h
       · cases h
     · split at h
       · split at h
         · split at h
           next hn=>cases h;exact { g with files:=snoc_all g.files (⟨hn.2.2.1,hn.2.2.2.1⟩) }
           next=>cases h
         · cases h
       · split at h
         · split at h
           next hn=>cases h;exact { g with runs:=snoc_all g.runs (⟨cmd_good _ hn.1,hn.2⟩) }
           next=>cases h
         · split at h
           · split at h
             next hn=>cases h;exact { g with wokens:=snoc_all g.wokens (cmd_good _ hn) }
             next=>cases h
           · cases h
theorem pbody_good {f:S→S}:∀ (ls:List S) {st st':St} {last:Int},Arc.pbody f st last ls=some st'→StGood st→StGood st'
 | [],st,st',last,h,g=>by rw[Arc.pbody] at h;cases h;exact g
 | l::ls,st,st',last,h,g=>by
   rw[Arc.pbody] at h
   split at h
   · cases h
   · split at h
     · cases h
     next s1 h1=>exact pbody_good ls h (pline_good h1 g)
theorem parse_good {f:S→S} {x nm ve:S} {st:St} (h:Arc.parse f x=some (nm,ve,st)):Wd.isName nm=true∧Ver.fine ve=true∧StGood st:=by
 rw[Arc.parse.eq_def] at h
 split at h
 · cases h
 · split at h
   · cases h
   · split at h
     · split at h
       · cases h
       · split at h
         next hh =>
           split at h
           · cases h
           next s1 h1 =>
             split at h
             · cases h
               simp only[Arc.headOk,Bool.and_eq_true] at hh
               exact ⟨hh.1.2,hh.2,pbody_good _ h1 ⟨fun q hq=>(by cases hq),fun q hq=>(by cases hq),fun q hq=>(by cases hq),fun q hq=>(by cases hq),fun q hq=>(by cases hq),fun q hq=>(by cases hq)⟩⟩
             · cases h
         next=>cases h
     · cases h
end
section
open Go.RowKit
open Hv (S VM)
theorem MapOn.blocks {w w':World} {b r cnt:Nat} {E:VM Value} {left:S→Bool} (h:MapOn w b r E left cnt) (hb:w'.heap[b]? = w.heap[b]?) (hr:w'.heap[r]? = w.heap[r]?):MapOn w' b r E left cnt:=by
 obtain ⟨h0,es,clock,since,seen,c0,q1,q2,q3,q4,q5,q6⟩:=h
 exact ⟨h0,es,clock,since,seen,c0,hb.trans q1,q2,q3,q4,hr.trans q5,q6⟩
theorem MapOn.lts {w:World} {b r cnt:Nat} {E:VM Value} {left:S→Bool} (h:MapOn w b r E left cnt):b<w.heap.size∧r<w.heap.size:=by
 obtain ⟨h0,es,clock,since,seen,c0,q1,q2,q3,q4,q5,q6⟩:=h
 exact ⟨(Array.getElem?_eq_some_iff.1 q1).1,(Array.getElem?_eq_some_iff.1 q5).1⟩
theorem MapOn.far {w w':World} {b r cnt B:Nat} {C:Nat→Prop} {E:VM Value} {left:S→Bool} (h:MapOn w b r E left cnt) (hf:Far B C w w') (hB:w.heap.size≤B) (h1 : ¬ C b) (h2 : ¬ C r):MapOn w' b r E left cnt :=
 h.blocks (hf.block b (by have:=h.lts;omega) h1) (hf.block r (by have:=h.lts;omega) h2)
theorem MapOn.below {w w':World} {b r cnt:Nat} {E:VM Value} {left:S→Bool} (h:MapOn w b r E left cnt) (hb:Below w.heap.size w w'):MapOn w' b r E left cnt :=
 h.blocks (hb.block b h.lts.1) (hb.block r h.lts.2)
theorem MapOn.alloc {w:World} {b r cnt:Nat} {E:VM Value} {left:S→Bool} (h:MapOn w b r E left cnt) (o:Obj):MapOn (w.alloc o) b r E left cnt:=⟨h.1,h.2.alloc o⟩
theorem MapOn.left_eq {w:World} {b r cnt:Nat} {E:VM Value} {left:S→Bool} (h:MapOn w b r E left cnt):w.rangeLeft b r=cnt:=h.2.left_eq
theorem MapOn.map {w:World} {b r cnt:Nat} {E:VM Value} {left:S→Bool} (h:MapOn w b r E left cnt):MapAt w b E:=by
 obtain ⟨h0,es,clock,since,seen,c0,q1,q2,q3,q4,q5,q6⟩:=h
 exact ⟨h0,es,clock,q1,q2,q3,q4⟩
end
section
open Go.RowKit
open Arc (St)
open Hv (S Dk VM)
theorem PkM.get_none {N:Nat→Prop} {w:World} {D:VM Hv.PD} {E:VM Value} (h:PkM N w D E) {k:S} (q:Hv.get E k=none):Hv.get D k=none:=by
 cases e:Hv.get D k with
 | none=>rfl
 | some d=>obtain ⟨v,hv,_⟩:=h.fro k d e;rw[q] at hv;cases hv
theorem PkM.has_eq {N:Nat→Prop} {w:World} {D:VM Hv.PD} {E:VM Value} (h:PkM N w D E) (k:S):Hv.has E k=Hv.has D k:=by
 rw[Hv.has_get,Hv.has_get]
 cases q:Hv.get E k with
 | none=>rw[h.get_none q];rfl
 | some v=>obtain ⟨d,hd,_⟩:=h.to_ k v q;rw[hd];rfl
def oldB (P I:VM Hv.PD):Bool:=I.any fun p=>match Hv.get P p.1 with
 | none=>false
 | some o=>decide ((Ver.compare p.2.ve o.ve).1≤0)
theorem old_no {P I:VM Hv.PD} (hI:Hv.Srt I) (h:∀ k d o,Hv.get I k=some d→Hv.get P k=some o→0<(Ver.compare d.ve o.ve).1):oldB P I=false:=by
 unfold oldB
 rw[List.any_eq_false]
 intro p hp
 have:=(Hv.get_some hI).2 (show (p.1,p.2)∈I from hp)
 cases e:Hv.get P p.1 with
 | none=>simp
 | some o=>simpa using h p.1 p.2 o this e
theorem old_yes {P I:VM Hv.PD} (hI:Hv.Srt I) {k:S} {d o:Hv.PD} (h1:Hv.get I k=some d) (h2:Hv.get P k=some o) (h:(Ver.compare d.ve o.ve).1≤0):oldB P I=true :=
 List.any_eq_true.2 ⟨(k,d),(Hv.get_some hI).1 h1,by simp only[h2];exact decide_eq_true h⟩
theorem installsOld_any (pm rm im:Nat) (P I:VM Value) (DP DI:VM Hv.PD) (NP NI:Nat→Prop) (w:World) (hp:MapAt w pm P) (hi:MapAt w im I) (hP:PkM NP w DP P) (hI:PkM NI w DI I) :
   Calls Tryz.prog 120 #[.map (some pm), .agg #[.map (some rm), .map (some im)]] w fun e w'=>e = .returned (.bool (oldB DP DI))∧Below w.heap.size w w':=by
 have hpl:=hp.lt
 have hil:=hi.lt
 have HP:=hide hp;have HI:=hide hi;have HPP:=hide hP;have HII:=hide hI
 clear hp hi hP hI
 have hrow:=heap_alloc_new w (.cells #[.map (some rm), .map (some im)] 135)
 have c1:=(row_cell hrow 1).trans (show _=some (.map (some im)) from rfl)
 go_enter Tryz.func120,Tryz.ntmps120
 have hi1:=HI.out.alloc (.cells #[.map (some rm), .map (some im)] 135)
 have hp1:=HP.out.alloc (.cells #[.map (some rm), .map (some im)] 135)
 clear hrow
 go_wp2_with (first
   | (at_range;refine wp_range rfl _ 86 rfl 156 Tryz.underlying86 hi1 rfl ?_;intro w0 hrg0 hg0 hs0;have HG0:=hide hrg0;have HP0:=hide (hp1.kept (hg0.block pm hp1.lt (by simp)));have HB0:=hide (((Below.refl w.heap.size w).alloc (Nat.le_refl _) (.cells #[.map (some rm), .map (some im)] 135)).grown hg0 (by simp) (fun q hq=>by cases hq))))
 have hsz:(w.alloc (.cells #[.map (some rm), .map (some im)] 135)).heap.size=w.heap.size+1:=by simp
 rw[hsz] at HG0 hs0 ⊢
 go_frame
 clear hg0 hrg0 c1
 go_loopw [12] (fun _ wr=>∃ (left:S→Bool) (cnt:Nat),Hid (MapOn wr im (w.heap.size+1) I left cnt)∧Hid (MapAt wr pm P)∧Hid (∀ k d o,Hv.get DI k=some d→Hv.get DP k=some o→left k=true∨0<(Ver.compare d.ve o.ve).1)∧Hid (Below w.heap.size w wr)∧w.heap.size+1<wr.heap.size)
   (fun _ wr=>wr.rangeLeft im (w.heap.size+1))
 case atStart=>exact ⟨_,_,HG0,HP0,hide (fun k d o h _ => .inl (by rw[HII.out.has_eq,Hv.has_get,h];rfl)),HB0,by omega⟩
 case round =>
   clear HG0 HP0 HB0 hi1 hp1
   obtain ⟨left,cnt,HG,HP1,HL,HB,hsz1⟩:=hrel
   go_wp2_with (first
     | (at_next;refine wp_next rfl _ rfl (w.heap.size+1) left cnt rfl HG.out ?_ ?_))
   · intro hc0 hl0
     go_wp2_with fail
     go_ret
     rw[old_no HII.out.srt (fun k d o h1 h2=>(HL.out k d o h1 h2).resolve_left (by rw[hl0 k];simp))]
     exact ⟨rfl,HB.out⟩
   · intro k v w4 cnt1 hk hlk hget hrg1 hlt hg1 hs1 hen
     obtain ⟨d,hd,p,rfl,p1,p2,p3,p4,hpk, -⟩:=HII.out.to_ k v hget
     have HG1:=hide hrg1
     have hP4:=(HP1.out.kept (hg1.block pm HP1.out.lt (by simp;omega))).alloc (.cells p.cells 156)
     have HB4:=hide ((HB.out.grown hg1 HB.out.size (fun q hq=>by cases hq;omega)).alloc (Nat.le_trans HB.out.size (Nat.le_of_eq hs1.symm)) (.cells p.cells 156))
     have hs4:w4.heap.size=wr.heap.size:=hs1
     have HGP:=hide hpk.parse
     have HD:=hide hd
     have HV:=hide p3
     clear hrg1 hg1 hget hpk p1 p2 p3 p4 hd
     have hrow4:=heap_alloc_new w4 (.cells p.cells 156)
     have hw5:(w4.alloc (.cells p.cells 156)).heap.size=w4.heap.size+1:=by simp
     have HG2:Hid (MapOn (w4.alloc (.cells p.cells 156)) im (w.heap.size+1) I (fun z=>left z && !(z==k)) cnt1):=hide ⟨HG1.out.1,HG1.out.2.alloc _⟩
     simp only[Pk.val,Pk.cells] at hen ⊢
     cases hq:Hv.get P k with
     | none =>
       have hPk:Hv.has P k=false:=by rw[Hv.has_get,hq];rfl
       have hDk:=HPP.out.get_none hq
       clear hrow4
       go_wp2_with (first
         | (at_lookup;refine wp_look_ok rfl _ _ 86 rfl 156 Tryz.underlying86 (zero_pk _) hP4 rfl k hk rfl ?_;rw[hq,hPk];simp only[Option.getD_none]))
       have HG3:Hid (MapOn ((w4.alloc (.cells p.cells 156)).alloc (.cells #[.string ⟨#[]⟩, .string ⟨#[]⟩, .string ⟨#[]⟩, .slice none 0 0, .slice none 0 0, .slice none 0 0, .slice none 0 0, .slice none 0 0, .slice none 0 0, .int .i64 0] 156)) im (w.heap.size+1) I (fun z=>left z && !(z==k)) cnt1):=hide ⟨HG2.out.1,HG2.out.2.alloc _⟩
       go_roundw
       case rel=>exact ⟨_,cnt1,HG3,hide (hP4.alloc _),hide (fun k' d' o' h1 h2=>by
         rcases HL.out k' d' o' h1 h2 with q | q
         · by_cases e:k'=k
           · subst e;rw[hDk] at h2;cases h2
           · exact .inl (by simp[q,e])
         · exact .inr q),hide (HB4.out.alloc HB4.out.size _),by simp;omega⟩
       case measure =>
         show (World.rangeLeft ((w4.alloc (.cells p.cells 156)).alloc (.cells #[.string ⟨#[]⟩, .string ⟨#[]⟩, .string ⟨#[]⟩, .slice none 0 0, .slice none 0 0, .slice none 0 0, .slice none 0 0, .slice none 0 0, .slice none 0 0, .int .i64 0] 156)) im (w.heap.size+1))<_
         rw[HG3.out.2.left_eq,HG.out.2.left_eq];exact hlt
     | some u =>
       obtain ⟨o,ho,q,rfl,q1,q2,q3,q4,hqk, -⟩:=HPP.out.to_ k u hq
       have hPk:Hv.has P k=true:=by rw[Hv.has_get,hq];rfl
       have HGQ:=hide hqk.parse
       have HO:=hide ho
       have HVQ:=hide q3
       clear hqk q1 q2 q3 q4 ho
       have hr5:=heap_alloc_new (w4.alloc (.cells p.cells 156)) (.cells q.cells 156)
       have hr4:=(Below.heap_alloc (w4.alloc (.cells p.cells 156)) (.cells q.cells 156) w4.heap.size (by simp)).trans hrow4
       have a2:=(row_cell hr4 2).trans (show _=some (.string ⟨p.ve.toArray⟩) from rfl)
       have b2:=(row_cell hr5 2).trans (show _=some (.string ⟨q.ve.toArray⟩) from rfl)
       have HG3:Hid (MapOn ((w4.alloc (.cells p.cells 156)).alloc (.cells q.cells 156)) im (w.heap.size+1) I (fun z=>left z && !(z==k)) cnt1):=hide ⟨HG2.out.1,HG2.out.2.alloc _⟩
       have HB5:=hide (HB4.out.alloc HB4.out.size (.cells q.cells 156))
       have HP5:=hide (hP4.alloc (.cells q.cells 156))
       rw[hw5] at hr5 b2
       clear hr4 hr5 hrow4
       go_wp2_with (first
         | (at_lookup;refine wp_look_ok rfl _ _ 86 rfl 156 Tryz.underlying86 (zero_pk _) hP4 rfl k hk rfl ?_;rw[hq,hPk];simp only[Option.getD_some,Pk.val,Pk.cells]))
       refine (rulecmp_any p.ve q.ve (parse_good HGP.out).2.1 (parse_good HGQ.out).2.1 _).mono ?_
       rintro e w6 ⟨rfl,hb6⟩
       obtain ⟨z,hz⟩:∃ z,(Ver.compare p.ve q.ve).1=z:=⟨_,rfl⟩
       have HZ:=hide hz
       rw[hz]
       have HG6:=hide (HG3.out.below hb6)
       have HP6:=hide (HP5.out.below hb6)
       have HB6:=hide (HB5.out.trans (hb6.mono HB5.out.size))
       have hs6:wr.heap.size+2≤w6.heap.size:=by have:=hb6.size;simp at this;omega
       clear hb6 a2 b2 hz
       by_cases hc:z≤0
       · go_wp2_with fail
         go_ret
         rw[old_yes HII.out.srt HD.out HO.out (by rw[← HV.out,← HVQ.out,HZ.out];exact hc)]
         exact ⟨rfl,HB6.out⟩
       · go_wp2_with fail
         go_roundw
         case rel=>exact ⟨_,cnt1,HG6,HP6,hide (fun k' d' o' h1 h2=>by
           rcases HL.out k' d' o' h1 h2 with q | q
           · by_cases e:k'=k
             · subst e
               rw[HD.out] at h1;cases h1
               rw[HO.out] at h2;cases h2
               exact .inr (by rw[← HV.out,← HVQ.out,HZ.out];omega)
             · exact .inl (by simp[q,e])
           · exact .inr q),HB6,by omega⟩
         case measure=>rw[HG6.out.left_eq,HG.out.left_eq];exact hlt
def meetsB (D:VM Hv.PD) (n v:S):Bool:=match Hv.get D n with
 | none=>false
 | some p=>decide (v=[]∨0≤(Ver.compare p.ve v).1)
def zeroCells:Array Value := #[.string ⟨#[]⟩, .string ⟨#[]⟩, .string ⟨#[]⟩, .slice none 0 0, .slice none 0 0, .slice none 0 0, .slice none 0 0, .slice none 0 0, .slice none 0 0, .int .i64 0]
theorem meets_none (pm:Nat) (P:VM Value) (n v:S) (hn:n.length≤maxLen) (hq:Hv.get P n=none) (w:World) (hp:MapAt w pm P) :
   Calls Tryz.prog 177 #[.map (some pm), .agg #[.string ⟨n.toArray⟩, .string ⟨v.toArray⟩]] w fun e w'=>e = .returned (.bool false)∧Below w.heap.size w w':=by
 have hrow:=heap_alloc_new w (.cells #[.string ⟨n.toArray⟩, .string ⟨v.toArray⟩] 275)
 have c0:=(row_cell hrow 0).trans (show _=some (.string ⟨n.toArray⟩) from rfl)
 have hp1:=hp.alloc (.cells #[.string ⟨n.toArray⟩, .string ⟨v.toArray⟩] 275)
 have HB:=hide (((Below.refl w.heap.size w).alloc (Nat.le_refl _) (.cells #[.string ⟨n.toArray⟩, .string ⟨v.toArray⟩] 275)).alloc (by simp) (.cells zeroCells 156))
 have hPk:Hv.has P n=false:=by rw[Hv.has_get,hq];rfl
 clear hrow
 go_enter Tryz.func177,Tryz.ntmps177
 go_wp2_with (first
   | (at_lookup;refine wp_look_ok rfl _ _ 86 rfl 156 Tryz.underlying86 (zero_pk _) hp1 rfl n hn rfl ?_;rw[hq,hPk];simp only[Option.getD_none]))
 go_ret
 exact ⟨rfl,HB.out⟩
theorem meets_some (pm:Nat) (P:VM Value) (n v:S) (hn:n.length≤maxLen) (p:Pk) (hq:Hv.get P n=some p.val) (hf:Ver.fine p.ve=true) (hv:v=[]∨Ver.fine v=true) (w:World) (hp:MapAt w pm P) :
   Calls Tryz.prog 177 #[.map (some pm), .agg #[.string ⟨n.toArray⟩, .string ⟨v.toArray⟩]] w fun e w'=>e = .returned (.bool (decide (v=[]∨0≤(Ver.compare p.ve v).1)))∧Below w.heap.size w w':=by
 have hrow:=heap_alloc_new w (.cells #[.string ⟨n.toArray⟩, .string ⟨v.toArray⟩] 275)
 have c0:=(row_cell hrow 0).trans (show _=some (.string ⟨n.toArray⟩) from rfl)
 have hp1:=hp.alloc (.cells #[.string ⟨n.toArray⟩, .string ⟨v.toArray⟩] 275)
 have HB:=hide (((Below.refl w.heap.size w).alloc (Nat.le_refl _) (.cells #[.string ⟨n.toArray⟩, .string ⟨v.toArray⟩] 275)).alloc (by simp) (.cells p.cells 156))
 have hPk:Hv.has P n=true:=by rw[Hv.has_get,hq];rfl
 have hr2:=heap_alloc_new (w.alloc (.cells #[.string ⟨n.toArray⟩, .string ⟨v.toArray⟩] 275)) (.cells p.cells 156)
 have hsz:(w.alloc (.cells #[.string ⟨n.toArray⟩, .string ⟨v.toArray⟩] 275)).heap.size=w.heap.size+1:=by simp
 rw[hsz] at hr2
 have a2:=(row_cell hr2 2).trans (show _=some (.string ⟨p.ve.toArray⟩) from rfl)
 have hr1:=(Below.heap_alloc (w.alloc (.cells #[.string ⟨n.toArray⟩, .string ⟨v.toArray⟩] 275)) (.cells p.cells 156) w.heap.size (by simp)).trans hrow
 have b1:=(row_cell hr1 1).trans (show _=some (.string ⟨v.toArray⟩) from rfl)
 have HF:=hide hf
 clear hrow hr1 hr2 hf hp
 by_cases hv0:v=[]
 · subst hv0
   go_enter Tryz.func177,Tryz.ntmps177
   go_wp2_with (first
     | (at_lookup;refine wp_look_ok rfl _ _ 86 rfl 156 Tryz.underlying86 (zero_pk _) hp1 rfl n hn rfl ?_;rw[hq,hPk];simp only[Option.getD_some,Pk.val,Pk.cells]))
   go_ret
   exact ⟨by simp,HB.out⟩
 · have hvf:=hv.resolve_left hv0
   have hne : ¬ (⟨v.toArray⟩:ByteArray)=⟨#[]⟩:=fun e=>hv0 (by simpa using congrArg (fun b:ByteArray=>b.data.toList) e)
   go_enter Tryz.func177,Tryz.ntmps177
   go_wp2_with (first
     | (at_lookup;refine wp_look_ok rfl _ _ 86 rfl 156 Tryz.underlying86 (zero_pk _) hp1 rfl n hn rfl ?_;rw[hq,hPk];simp only[Option.getD_some,Pk.val,Pk.cells]))
   refine (rulecmp_any p.ve v HF.out hvf _).mono ?_
   rintro e w6 ⟨rfl,hb6⟩
   have HB6:=hide (HB.out.trans (hb6.mono HB.out.size))
   clear hb6
   obtain ⟨z,hz⟩:∃ z,(Ver.compare p.ve v).1=z:=⟨_,rfl⟩
   rw[hz]
   by_cases hc:0≤z
   · go_wp2_with fail
     go_ret
     exact ⟨by simp[hz,hc],HB6.out⟩
   · go_wp2_with fail
     go_ret
     exact ⟨by simp[hz,hv0],HB6.out⟩
theorem meets_any (pm:Nat) (P:VM Value) (D:VM Hv.PD) (N:Nat→Prop) (n v:S) (hn:n.length≤maxLen) (hv:v=[]∨Ver.fine v=true) (w:World) (hp:MapAt w pm P) (hP:PkM N w D P) :
   Calls Tryz.prog 177 #[.map (some pm), .agg #[.string ⟨n.toArray⟩, .string ⟨v.toArray⟩]] w fun e w'=>e = .returned (.bool (meetsB D n v))∧Below w.heap.size w w':=by
 unfold meetsB
 cases hq:Hv.get P n with
 | none=>rw[hP.get_none hq];exact meets_none pm P n v hn hq w hp
 | some u =>
   obtain ⟨d,hd,p,rfl,p1,p2,p3,p4,hpk, -⟩:=hP.to_ n u hq
   rw[hd]
   simp only
   rw[← p3]
   exact meets_some pm P n v hn p hq (parse_good hpk.parse).2.1 hv w hp
end
end Go.Proofs.YtialenebfcnkkaaGreatDoor
