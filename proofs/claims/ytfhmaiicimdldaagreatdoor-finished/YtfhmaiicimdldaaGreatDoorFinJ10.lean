import Derived.Test.YtfhmaiicimdldaaGreatDoorFinJ9
set_option maxHeartbeats 4000000
set_option maxRecDepth 100000
namespace Go.Proofs.YtfhmaiicimdldaaGreatDoor
variable {w w':World}{k:Int}{B b n r:Nat}{C N N':Nat->Prop}{v:Value}
section
open Go.RowKit
open Hv (S Dk VM)
variable {P R:VM Value}
def Sg (P R:VM Value):Bool:=R.any fun p => !Hv.has P p.1
theorem af2(h:∀ k,Hv.has R k=true->Hv.has P k=true):Sg P R=false:=by
 unfold Sg;rw[List.any_eq_false];intro p hp;have:Hv.has R p.1=true:=List.any_eq_true.2 ⟨p,hp,by simp⟩;simp[h p.1 this]
theorem adF{k:S} (h:Hv.has R k=true) (hk:Hv.has P k=false):Sg P R=true:=by
 obtain ⟨p,hp,e⟩:=List.any_eq_true.1 h;simp only[beq_iff_eq] at e;exact List.any_eq_true.2 ⟨p,hp,by rw[e,hk];rfl⟩
theorem UW(pm rm im:Nat) (P R:VM Value) (hP:ahI P) (hR:OG R) (w:World) (hp:J6 w pm P) (hr:J6 w rm R) :
 Calls Tryz.prog 124 #[.map (some pm), .agg #[.map (some rm), .map (some im)]] w fun e w'=>e = .returned (.bool (Sg P R))/\Below w.heap.size w w':=by
 have hpl:=hp.lt;have hrl:=hr.lt;have HP:=JY hp;have HR:=JY hr;clear hp hr;go_enter Tryz.func124,Tryz.ntmps124;have hr1:=HR.out.alloc (.cells #[.map (some rm), .map (some im)] 148);have hp1:=HP.out.alloc (.cells #[.map (some rm), .map (some im)] 148);go_wp2_with (first
  | (at_range;refine Mc rfl _ 146 rfl 63 Tryz.underlying146 hr1 rfl ?_;intro w0 hrg0 hg0 hs0;have aT:=JY hrg0;have cF:=JY (hp1.kept (hg0.block pm hp1.lt (by simp)));have aC:=JY (((AD w.heap.size w).alloc (AC _) (.cells #[.map (some rm), .map (some im)] 148)).grown hg0 (by simp) (fun q hq=>by cases hq));clear hrg0 hg0))
 have hsz:(w.alloc (.cells #[.map (some rm), .map (some im)] 148)).heap.size=w.heap.size+1:=by simp
 rw[hsz] at aT hs0 |-
 go_frame
 go_loopw [5] (fun _ wr=>∃ (left:S->Bool) (cnt:Nat),Hid (KO wr rm (w.heap.size+1) R left cnt)/\Hid (J6 wr pm P)/\Hid (∀ k,Hv.has R k=true->left k=true\/Hv.has P k=true)/\Hid (Below w.heap.size w wr)/\w.heap.size+1<wr.heap.size)
  (fun _ wr=>wr.rangeLeft rm (w.heap.size+1))
 case atStart=>exact ⟨_,_,aT,cF,JY (fun k h => .inl h),aC,by omega⟩
 case round =>
  clear aT cF aC hr1 hp1;obtain ⟨left,cnt,HG,bB,HL,HB,hsz1⟩:=hrel;go_wp2_with (first
   | (at_next;refine MW rfl _ rfl (w.heap.size+1) left cnt rfl HG.out ?_ ?_))
  · intro hc0 hl0;go_wp2_with fail;go_ret;rw[af2 (fun k h=>(HL.out k h).resolve_left (by rw[hl0 k];simp))];exact ⟨rfl,HB.out⟩
  · intro k v w4 cnt1 hk hlk hget hrg1 hlt hg1 hs1 hen;obtain rfl:=hR k v hget;have aZ:=JY hrg1;have nY:=bB.out.kept (hg1.block pm bB.out.lt (by simp;omega));have aB:=JY (HB.out.grown hg1 HB.out.size (fun q hq=>by cases hq;omega));have sA:Hv.has R k=true:=by rw[Hv.J9,hget];rfl
    have hs4:w4.heap.size=wr.heap.size:=hs1;clear hrg1 hg1 hget;cases hq:Hv.get P k with
    | none =>
      have cT:Hv.has P k=false:=by rw[Hv.J9,hq];rfl
      go_wp2_with (first
       | (at_lookup;refine K6 rfl _ _ 97 rfl 169 IS (KW _) nY rfl k hk rfl ?_;rw[hq,cT];simp only[FS]))
      go_ret;rw[adF sA cT];exact ⟨rfl,aB.out.alloc aB.out.size _⟩
    | some u =>
      obtain ⟨p,rfl⟩:=hP k u hq;have cT:Hv.has P k=true:=by rw[Hv.J9,hq];rfl
      go_wp2_with (first
       | (at_lookup;refine K6 rfl _ _ 97 rfl 169 IS (KW _) nY rfl k hk rfl ?_;rw[hq,cT];simp only[DE,Pk.val,Pk.cells]))
      have HG2:Hid (KO (w4.alloc (.cells p.cells 169)) rm (w.heap.size+1) R (fun z=>left z && !(z==k)) cnt1):=JY ⟨aZ.out.1,aZ.out.2.alloc _⟩;go_roundw
      case rel=>exact ⟨_,cnt1,HG2,JY (nY.alloc _),JY (fun k' h'=>by
       rcases HL.out k' h' with q | q
       · by_cases e:k'=k
         · subst e;exact .inr cT
         · exact .inl (by simp[q,e])
       · exact .inr q),JY (aB.out.alloc aB.out.size _),by simp;omega⟩
      case measure=>show (w4.alloc (.cells p.cells 169)).rangeLeft rm (w.heap.size+1)<_;rw[HG2.out.2.left_eq,HG.out.2.left_eq];exact hlt
theorem WC(x y:S) (hx:J8.fine x=true) (hy:J8.fine y=true) (w:World) :
 Calls Tryz.prog 181 #[.string ⟨x.toArray⟩, .string ⟨y.toArray⟩] w fun e w'=>e = .returned (.int .i64 (J8.compare x y).1)/\Below w.heap.size w w':=by
 rw[XA hx hy];obtain ⟨l1,l2,l3⟩:=QZ hx;obtain ⟨m1,m2,m3⟩:=QZ hy;have HX:=JY (fun w=>PX x hx w);have HY:=JY (fun w=>PX y hy w);obtain ⟨e1,xo⟩:∃ v,J8.Ma x=v:=⟨_,rfl⟩
 obtain ⟨e2,EP⟩:∃ v,J8.Ma y=v:=⟨_,rfl⟩
 rw[xo] at HX l1 l2 l3 |-;rw[EP] at HY m1 m2 m3 |-;obtain ⟨a1,a2,a3⟩:=e1;obtain ⟨b1,b2,b3⟩:=e2;simp only at HX HY l1 l2 l3 m1 m2 m3;clear xo EP hx hy;go_enter Tryz.func181,Tryz.ntmps181;go_wp2_with fail;refine (HX.out _).mono ?_;rintro e w1 ⟨rfl,hb1⟩;have ag:=JY hb1;clear hb1;go_wp2_with fail;have hrow:=AF w1 (.cells #[.string ⟨a1.toArray⟩, .string ⟨a2.toArray⟩, .string ⟨a3.toArray⟩] 90);refine (HY.out _).mono ?_;rintro e w2 ⟨rfl,hb2⟩;have hr2:=(hb2.block w1.heap.size (by simp)).trans hrow;have ah:=JY ((ag.out.alloc ag.out.size (.cells #[.string ⟨a1.toArray⟩, .string ⟨a2.toArray⟩, .string ⟨a3.toArray⟩] 90)).trans (hb2.mono (by have:=ag.out.size;simp;omega)));have hr3:=(AM w2 (.cells #[.string ⟨b1.toArray⟩, .string ⟨b2.toArray⟩, .string ⟨b3.toArray⟩] 90) w1.heap.size (blt hr2)).trans hr2;have c0:=(JZ hr3 0).trans (show _=some (.string ⟨a1.toArray⟩) from rfl);have c1:=(JZ hr3 1).trans (show _=some (.string ⟨a2.toArray⟩) from rfl);have c2:=(JZ hr3 2).trans (show _=some (.string ⟨a3.toArray⟩) from rfl);clear hrow hb2 hr2 hr3;go_wp2_with fail;refine (ads a1 a2 a3 b1 b2 b3 l1 l2 l3 m1 m2 m3 _).mono ?_;rintro e w3 ⟨rfl,hb3⟩;have av:=JY ((ah.out.alloc ah.out.size _).trans (hb3.mono (by have:=ah.out.size;simp;omega)));clear hb3;go_wp2_with fail;go_ret;exact ⟨rfl,av.out⟩
end
section
open Go.RowKit
open Kw (St ME S)
theorem Vb(x:S) (hx:x.length<=2000) (w:World) :
 Calls Tryz.prog 228 #[.string ⟨x.toArray⟩] w fun e w'=>e = .returned (.string ⟨x.toArray⟩)/\Below w.heap.size w w':=by
 go_enter Tryz.func228,Tryz.ntmps228;go_wp2_with (go_at_call 278;refine (Tryz.stringslite_Clone ⟨x.toArray⟩ _ (by simp[ByteArray.size];omega)).mono ?_;rintro e w1 ⟨rfl,hb⟩)
 go_ret;exact ⟨rfl,hb⟩
theorem afA(F:List (S × S)) (k:Nat) (hk:k<F.length):(F.flatMap Lj)[2*k]? = some (Kl (F.getD k ([],[])).1)/\(F.flatMap Lj)[2*k+1]? = some (Kl (F.getD k ([],[])).2):=by
 induction F generalizing k with
 | nil=>simp at hk
 | cons a l ih =>
   cases k with
   | zero=>simp[Lj]
   | succ k =>
     have:=ih k (by simpa using hk);rw[show 2*(k+1)=2*k+1+1 from by omega];simpa [Lj] using this
end
section
open Go.RowKit
open Hv (S Dk VM)
structure MH (rm im:Nat) (R I:VM Value) (w:World):Prop where
 rem:J6 w rm R
 ins:J6 w im I
 ne:rm≠im
theorem MH.below{rm im:Nat} {R I:VM Value}  (h:MH rm im R I w) (hb:Below w.heap.size w w'):MH rm im R I w':=⟨h.rem.below hb,h.ins.below hb,h.ne⟩
def LB:Value := .agg #[]
theorem YE(rm im:Nat) (R I:VM Value) (x:S) (hx:x.length<=2000) (hn:Wd.isName x=true) (hR:R.length<=1000000) (w:World) (h:MH rm im R I w) :
 Calls Tryz.prog 177 #[.agg #[.map (some rm), .map (some im)], .string ⟨x.toArray⟩] w fun e w'=>e = .returned (.tuple #[.string ⟨x.toArray⟩, .bool true])/\MH rm im (Hv.put R x LB) I w'/\Kj w.heap.size (fun k=>k=rm) w w':=by
 have HW:=JY h;have hrl:=h.rem.lt;have hil:=h.ins.lt;clear h;go_enter Tryz.func177,Tryz.ntmps177;go_wp2_with fail;have hrow:=AF w (.cells #[.map (some rm), .map (some im)] 148);refine (TI x hx _).mono ?_;rintro e w1 ⟨rfl,hb1⟩;rw[hn];have cX:=JY ((hb1.block w.heap.size (by simp)).trans hrow);have bL:=JY ((HW.out.below ((AD w.heap.size w).alloc (AC _) (.cells #[.map (some rm), .map (some im)] 148))).below hb1);have ag:=JY (((AD w.heap.size w).alloc (AC _) (.cells #[.map (some rm), .map (some im)] 148)).trans (hb1.mono (by simp)));clear hrow hb1;go_wp2_with fail;refine (Vb x (by omega) _).mono ?_;rintro e w2 ⟨rfl,hb2⟩;have bA:=JY ((hb2.block w.heap.size (blt cX.out)).trans cX.out);have hw2:=bL.out.below hb2;have dx:=JY hw2;have hr2:=hw2.rem;have ah:=JY (ag.out.trans (hb2.mono ag.out.size));have c0:=(JZ bA.out 0).trans (show _=some (.map (some rm)) from rfl);clear hb2 bL cX hw2;go_wp2_with (first
  | (at_mapUpdate;refine Qc rfl _ _ _ 146 rfl 63 Tryz.underlying146 hr2 (by unfold maxLen;omega) rfl x (by unfold maxLen;omega) rfl (.agg #[]) rfl ?_;intro w3 hr3 oF;go_frame))
 have hf3:=Kv oF;have lh:Hid (MH rm im (Hv.put R x LB) I w3):=JY ⟨hr3,dx.out.ins.kept (hf3.block im dx.out.ins.lt (fun q=>dx.out.ne q.symm)),dx.out.ne⟩;have bP:=JY (((Kj.refl w.heap.size (fun k=>k=rm) w).below ah.out (AC _)).next hf3 ah.out.size (fun _ _ q=>q));clear hr3 oF hf3 hr2 c0;go_wp2_with fail;go_ret2;exact ⟨rfl,lh.out,bP.out⟩
theorem Ze(rm im:Nat) (x:S) (hx:x.length<=2000) (hn:Wd.isName x=false) (w:World) :
 Calls Tryz.prog 177 #[.agg #[.map (some rm), .map (some im)], .string ⟨x.toArray⟩] w fun e w'=>e = .returned (.tuple #[.string ⟨#[]⟩, .bool false])/\Below w.heap.size w w':=by
 go_enter Tryz.func177,Tryz.ntmps177;go_wp2_with fail;refine (TI x hx _).mono ?_;rintro e w1 ⟨rfl,hb1⟩;rw[hn];have ag:=JY (((AD w.heap.size w).alloc (AC _) (.cells #[.map (some rm), .map (some im)] 148)).trans (hb1.mono (by simp)));clear hb1;go_wp2_with fail;go_ret2;exact ⟨rfl,ag.out⟩
end
section
open Go.RowKit
open Kw (St ME S)
theorem acS(f:S->S) (st:St) (k:Int) (rest:List S):Kw.OO f st k rest=(if k=1 then match rest with
 | [n]=>if Wd.isName n then some { st with needs:=st.needs++[(n,[])] } else none
 | [n,v]=>if J8.fine v&&Wd.isName n then some { st with needs:=st.needs++[(n,v)] } else none
 | _=>none
 else if k=2 then match rest with
  | [n]=>if Wd.isName n then some { st with breaks:=st.breaks++[n] } else none
  | _=>none
 else if k=3 then match rest with
  | [p]=>if Wd.LU p then some { st with wakes:=st.wakes++[p] } else none
  | _=>none
 else if k=4 then match rest with
  | [p,z,h] =>
    if 0<=sz z/\sz z<=st.left.length/\Wd.LU p=true/\Wd.under p=false/\(st.files.any fun f=>f.1==p)=false/\f (st.left.take (sz z).toNat)=h then
     some { st with files:=st.files++[(p,st.left.take (sz z).toNat)],left:=st.left.drop (sz z).toNat } else none
  | _=>none
 else if k=5 then if (Kw.RS rest).2=true/\(Kw.RS rest).1.verb≠5 then some { st with runs:=st.runs++[(Kw.RS rest).1] } else none
 else if k=6 then if (Kw.RS rest).2=true then some { st with Kn:=st.Kn++[(Kw.RS rest).1] } else none
 else none):=rfl
end
namespace Kw
abbrev am7 (k last:Int):Prop:=k<last\/(k=last/\k<3)\/(k>last+1/\last<2)
variable (short:S->S)
theorem adP(d:UInt8) (l:S) (hd:d≠10):KI (d::l)=(KI l).map fun r=>(d::r.1,r.2):=by
 conv=>lhs;unfold KI
 split
 · rename_i h;exact absurd rfl hd
 · cases KI l<;>rfl
theorem adQ(e:UInt8) (l:S) (he:e≠10):KI (10::e::l)=(KI (e::l)).map fun r=>(10::r.1,r.2):=by
 conv=>lhs;unfold KI
 split
 · rename_i h;simp at h;exact absurd h.1 he
 · cases KI (e::l)<;>rfl
end Kw
section
open Go.RowKit
open Kw (St ME S)
variable {f:S->S}{st st':St}{rest:List S}
def PLe (st:St) (n:Nat):Prop:=st.needs.length<=n/\st.breaks.length<=n/\st.wakes.length<=n/\st.files.length<=n/\st.runs.length<=n/\st.Kn.length<=n/\st.left.length<=2000
theorem ai9(hyp:Kw.OO f st k rest=some st') (hl:PLe st n):PLe st' (n+1):=by
 obtain ⟨h1,h2,h3,h4,h5,h6,h7⟩:=hl;rw[acS] at hyp
 repeat' split at hyp
 all_goals first
  | (cases hyp;done)
  | (cases hyp;refine ⟨?_,?_,?_,?_,?_,?_,?_⟩<;>simp<;>omega)
theorem akU(x:S):∃ a r,sp 32 x=a::r:=by
 cases h:sp 32 x with
 | nil=>exact absurd h (ane 32 x)
 | cons a r=>exact ⟨a,r,rfl⟩
theorem aeD(f:S->S) (st:St) (la:Int) (x a:S) (r:List S) (h:sp 32 x=a::r) (l:List S):Kw.MZ f st la (x::l)=if kd a=0\/kd a<la then none else match Kw.OO f st (kd a) r with
 | none=>none
 | some st'=>Kw.MZ f st' (kd a) l:=by
 rw[Kw.MZ,h];rfl
theorem Ve:∀ (x u v:S),KI x=some (u,v)->u.length+v.length<=x.length
 | [],u,v,h=>by simp[KI] at h
 | c::l,u,v,h=>by
   by_cases hc:c=10
   · subst hc
     match l with
     | []=>simp[KI] at h
     | e::q =>
       by_cases he:e=10
       · subst he;rw[show KI (10::10::q)=some ([],q) from by unfold KI;rfl] at h;simp at h;obtain ⟨rfl,rfl⟩:=h;simp;omega
       · rw[Kw.adQ e q he] at h;cases h2:KI (e::q) with
         | none=>rw[h2] at h;simp at h
         | some r =>
           obtain ⟨r1,r2⟩:=r;rw[h2] at h;simp at h;have:=Ve (e::q) r1 r2 h2;rw[<- h.1,<- h.2];simp at this |-;omega
   · rw[Kw.adP c l hc] at h;cases h2:KI l with
     | none=>rw[h2] at h;simp at h
     | some r =>
       obtain ⟨r1,r2⟩:=r;rw[h2] at h;simp at h;have:=Ve l r1 r2 h2;rw[<- h.1,<- h.2];simp at this |-;omega
def Paths (st:St):Prop:=∀ p∈st.files,p.1.length<=2000
theorem acT(hyp:Kw.OO f st k rest=some st') (hr:∀ y∈rest,y.length<=2000) (hl:Paths st):Paths st':=by
 rw[acS] at hyp
 repeat' split at hyp
 all_goals first
  | (cases hyp;done)
  | (cases hyp;exact hl)
  | (cases hyp
     intro p hp;rcases List.mem_append.1 hp with hp | hp
     · exact hl p hp
     · simp at hp;subst hp;exact hr _ (by simp))
theorem Wu(f:S->S):∀ (ls:List S) (st st':St) (la:Int) (n:Nat),(∀ y∈ls,y.length<=2000)->Kw.MZ f st la ls=some st'->PLe st n->Paths st->PLe st' (n+ls.length)/\Paths st'
 | [],st,st',la,n,hy,h,h1,h2=>by cases h;exact ⟨h1,h2⟩
 | l::ls,st,st',la,n,hy,h,h1,h2=>by
   obtain ⟨a,r,har⟩:=akU l;rw[aeD f st la l a r har ls] at h;split at h
   · cases h
   · cases hp:Kw.OO f st (kd a) r with
     | none=>rw[hp] at h;cases h
     | some st1 =>
       rw[hp] at h;simp only at h;have hl:=hy l (by simp);have:=Wu f ls st1 st' (kd a) (n+1) (fun y q=>hy y (by simp[q])) h (ai9 hp h1) (acT hp (fun y q=>by have:=ada 32 l y (by rw[har];simp[q]);omega) h2);rw[CI,show n+(ls.length+1)=n+1+ls.length from by omega];exact this
def alo (o:Option (S × S × St)) (w:World):Ending->World->Prop:=fun e w'=>match o with
 | none=>e = .returned (.tuple #[.agg #[.string ⟨#[]⟩, .string ⟨#[]⟩, .slice none 0 0, .slice none 0 0, .slice none 0 0, .slice none 0 0, .slice none 0 0, .slice none 0 0], .bool false])/\Below w.heap.size w w'
 | some (nm,ve,st)=>∃ sl:Fin 6->Value,e = .returned (.tuple #[.agg #[Kl nm,Kl ve,sl 0,sl 1,sl 2,sl 3,sl 4,sl 5], .bool true])/\(∀ i,w'.ownsRow w.heap.size (pty i) (psz i) (sl i) (Ku st i).1 (Ku st i).2)/\Below w.heap.size w w'
theorem KZ{x nm ve:S}  (h:Kw.parse f x=some (nm,ve,st)):nm.length<=2000/\ve.length<=2000/\PLe st 21/\Paths st:=by
 rw[Kw.parse] at h;by_cases hx:2000<x.length
 · rw[By hx] at h;cases h
 rw[Bm hx] at h;cases hcut:KI x with
 | none=>rw[hcut] at h;cases h
 | some q =>
   obtain ⟨head,contents⟩:=q;have hle:=Ve x head contents hcut;rw[hcut] at h;simp only at h
   match hsp:sp 10 head with
   | []=>rw[hsp] at h;cases h
   | [a]=>rw[hsp] at h;cases h
   | [a,b]=>rw[hsp] at h;cases h
   | a::b::d::L =>
     rw[hsp] at h;simp only at h;by_cases hlen:21<L.length
     · rw[By hlen] at h;cases h
     rw[Bm hlen] at h;by_cases hok:Kw.XV a b d=true
     · rw[By hok] at h;cases hbody:Kw.MZ f (.of contents) 0 L with
       | none=>rw[hbody] at h;cases h
       | some st' =>
         rw[hbody] at h;simp only at h;split at h
         · simp only[Option.some.injEq,Prod.mk.injEq] at h;obtain ⟨rfl,rfl,rfl⟩:=h;have hb:b.length<=2000:=by have:=ada 10 head b (by rw[hsp];simp);omega
           have hd:d.length<=2000:=by have:=ada 10 head d (by rw[hsp];simp);omega
           obtain ⟨g1,g2⟩:=Wu f L (.of contents) _ 0 0 (fun y q=>by have:=ada 10 head y (by rw[hsp];simp[q]);omega) hbody ⟨by simp[St.of],by simp[St.of],by simp[St.of],by simp[St.of],by simp[St.of],by simp[St.of],by simp[St.of];omega⟩ (fun p hp=>by simp[St.of] at hp);refine ⟨?_,?_,?_,g2⟩
           · unfold Kw.behind;split
             · rw[GE];omega
             · exact hb
           · unfold Kw.behind;split
             · rw[GE];omega
             · exact hd
           · obtain ⟨k1,k2,k3,k4,k5,k6,k7⟩:=g1;exact ⟨by omega,by omega,by omega,by omega,by omega,by omega,k7⟩
         · cases h
     · rw[Bm hok] at h;cases h
end
section
open Go.RowKit
open Kw (St)
open Hv (S Dk VM)
def Sl.val (s:Sl):Value := .slice s.a s.n s.c
def Pk.sl (p:Pk):Fin 6->Value
 | 0=>p.needs.val | 1=>p.breaks.val | 2=>p.wakes.val | 3=>p.files.val | 4=>p.runs.val | 5=>p.Kn.val
structure ahP (B:Nat) (p:Pk) (st:St) (w:World):Prop where
 parse:Kw.parse (short KH) p.text=some (p.nm,p.ve,st)
 rows:∀ i,w.ownsRow B (pty i) (psz i) (p.sl i) (Ku st i).1 (Ku st i).2
theorem ahP.far{B':Nat}  {p:Pk} {st:St}  (h:ahP B p st w) (hf:Kj B' C w w') (hB:w.heap.size<=B') (hC:∀ i g,(p.sl i).ownBlock=some g -> ¬ C g):ahP B p st w':=⟨h.parse,fun i=>hf.own (h.rows i) hB (hC i)⟩
theorem VA{e size g:Nat}  {xs:List Value} (h:w.ownsRow B e size v n xs) (hg:v.ownBlock=some g):B<=g:=by
 rcases h.2 with ⟨rfl,rfl⟩ | ⟨g',cap,cur,rfl,h1,h2,h3⟩
 · cases hg
 · cases hg;exact h1
def Pz (x:S):Prop:=∀ w,Base w->Calls Tryz.prog 164 #[.string ⟨x.toArray⟩] w (alo (Kw.parse (short KH) x) w)
theorem VN(rm im:Nat) (x:S) (hx:2000<x.length) (w:World) :
 Calls Tryz.prog 178 #[.agg #[.map (some rm), .map (some im)], .string ⟨x.toArray⟩] w fun e w'=>e = .returned (.tuple #[.string ⟨#[]⟩, .bool false])/\Below w.heap.size w w':=by
 have gx:(2000:Int)<(x.length:Int):=by omega
 go_enter Tryz.func178,Tryz.ntmps178;go_wp2_with fail;go_ret2;exact ⟨rfl,(AD _ _).alloc (AC _) _⟩
theorem YC(rm im:Nat) (x:S) (hx:x.length<=2000) (he:Pz x) (hp:Kw.parse (short KH) x=none) (w:World) (hb:Base w) :
 Calls Tryz.prog 178 #[.agg #[.map (some rm), .map (some im)], .string ⟨x.toArray⟩] w fun e w'=>e = .returned (.tuple #[.string ⟨#[]⟩, .bool false])/\Below w.heap.size w w':=by
 have gx : ¬ (2000:Int)<(x.length:Int):=by omega
 have aJ:=JY hb;have HP:=JY (fun w hw=>he w hw);rw[hp] at HP;clear hb hp he;go_enter Tryz.func178,Tryz.ntmps178;go_wp2_with fail;refine (Vb x hx _).mono ?_;rintro e w1 ⟨rfl,hb1⟩;have ag:=JY (((AD w.heap.size w).alloc (AC _) (.cells #[.map (some rm), .map (some im)] 148)).trans (hb1.mono (by simp)));have aI:=JY (aJ.out.below ag.out aJ.out.size);clear hb1;go_wp2_with fail;refine (HP.out _ aI.out).mono ?_;rintro e w2 ⟨rfl,hb2⟩;have ah:=JY (ag.out.trans (hb2.mono ag.out.size));clear hb2;go_wp2_with fail;go_ret2;exact ⟨rfl,ah.out.alloc ah.out.size _⟩
theorem WY(rm im:Nat) (R I:VM Value) (x nm ve:S) (st:St) (hx:x.length<=2000) (he:Pz x) (hp:Kw.parse (short KH) x=some (nm,ve,st)) (hI:I.length<=1000000) (w:World) (hb:Base w) (h:MH rm im R I w) :
 Calls Tryz.prog 178 #[.agg #[.map (some rm), .map (some im)], .string ⟨x.toArray⟩] w fun e w'=>∃ p:Pk,e = .returned (.tuple #[.string ⟨nm.toArray⟩, .bool true])/\p.text=x/\p.nm=nm/\p.ve=ve/\p.status=1/\ahP w.heap.size p st w'/\MH rm im R (Hv.put I nm p.val) w'/\Kj w.heap.size (fun k=>k=im) w w':=by
 have gx : ¬ (2000:Int)<(x.length:Int):=by omega
 have aJ:=JY hb;have HP:=JY (fun w hw=>he w hw);rw[hp] at HP;have sf:=JY hp;have hnl:nm.length<=2000:=(KZ hp).1;have HW:=JY h;have hil:=h.ins.lt;clear hb hp h he;go_enter Tryz.func178,Tryz.ntmps178;go_wp2_with fail;have hrow:=AF w (.cells #[.map (some rm), .map (some im)] 148);refine (Vb x hx _).mono ?_;rintro e w1 ⟨rfl,hb1⟩;have cX:=JY ((hb1.block w.heap.size (by simp)).trans hrow);have bL:=JY ((HW.out.below ((AD w.heap.size w).alloc (AC _) (.cells #[.map (some rm), .map (some im)] 148))).below hb1);have ag:=JY (((AD w.heap.size w).alloc (AC _) (.cells #[.map (some rm), .map (some im)] 148)).trans (hb1.mono (by simp)));have aI:=JY (aJ.out.below ag.out aJ.out.size);clear hrow hb1;go_wp2_with fail;refine (HP.out _ aI.out).mono ?_;rintro e w2 ⟨sl,rfl,hown,hb2⟩;have hs1:=ag.out.size;have bA:=JY ((hb2.block w.heap.size (blt cX.out)).trans cX.out);have dx:=JY (bL.out.below hb2);have ah:=JY (ag.out.trans (hb2.mono ag.out.size));obtain ⟨a0,c0,e0⟩:=J4 (hown 0);obtain ⟨a1,c1,e1⟩:=J4 (hown 1);obtain ⟨a2,c2,e2⟩:=J4 (hown 2);obtain ⟨a3,c3,e3⟩:=J4 (hown 3);obtain ⟨a4,c4,e4⟩:=J4 (hown 4);obtain ⟨a5,c5,e5⟩:=J4 (hown 5);have HO:=JY (show ∀ i,w2.ownsRow w.heap.size (pty i) (psz i) ((Pk.mk x nm ve ⟨a0,_,c0⟩ ⟨a1,_,c1⟩ ⟨a2,_,c2⟩ ⟨a3,_,c3⟩ ⟨a4,_,c4⟩ ⟨a5,_,c5⟩ 1).sl i) (Ku st i).1 (Ku st i).2 from fun i=>by
  have hi:=KL (hown i) hs1
  match i with
  | 0=>rw[e0] at hi;exact hi
  | 1=>rw[e1] at hi;exact hi
  | 2=>rw[e2] at hi;exact hi
  | 3=>rw[e3] at hi;exact hi
  | 4=>rw[e4] at hi;exact hi
  | 5=>rw[e5] at hi;exact hi)
 rw[e0,e1,e2,e3,e4,e5];obtain ⟨p,hpk⟩:∃ p,Pk.mk x nm ve ⟨a0,(Ku st 0).1,c0⟩ ⟨a1,(Ku st 1).1,c1⟩ ⟨a2,(Ku st 2).1,c2⟩ ⟨a3,(Ku st 3).1,c3⟩ ⟨a4,(Ku st 4).1,c4⟩ ⟨a5,(Ku st 5).1,c5⟩ 1=p:=⟨_,rfl⟩
 have hrow2:=AF w2 (.cells #[.string ⟨nm.toArray⟩, .string ⟨ve.toArray⟩, .slice a0 (Ku st 0).1 c0, .slice a1 (Ku st 1).1 c1, .slice a2 (Ku st 2).1 c2, .slice a3 (Ku st 3).1 c3, .slice a4 (Ku st 4).1 c4, .slice a5 (Ku st 5).1 c5] 167);have k1:=(Mv (blt bA.out) (.cells #[.string ⟨nm.toArray⟩, .string ⟨ve.toArray⟩, .slice a0 (Ku st 0).1 c0, .slice a1 (Ku st 1).1 c1, .slice a2 (Ku st 2).1 c2, .slice a3 (Ku st 3).1 c3, .slice a4 (Ku st 4).1 c4, .slice a5 (Ku st 5).1 c5] 167)).trans ((JZ bA.out 1).trans (show _=some (.map (some im)) from rfl));have hb3:=(AD w2.heap.size w2).alloc (AC _) (.cells #[.string ⟨nm.toArray⟩, .string ⟨ve.toArray⟩, .slice a0 (Ku st 0).1 c0, .slice a1 (Ku st 1).1 c1, .slice a2 (Ku st 2).1 c2, .slice a3 (Ku st 3).1 c3, .slice a4 (Ku st 4).1 c4, .slice a5 (Ku st 5).1 c5] 167);have lh:=JY (dx.out.below hb3);have Ep:=lh.out.ins;have av:=JY (ah.out.trans (hb3.mono ah.out.size));have dv:=JY hrow2;have q0:=(JZ hrow2 0).trans (show _=some (.string ⟨nm.toArray⟩) from rfl);have q1:=(JZ hrow2 1).trans (show _=some (.string ⟨ve.toArray⟩) from rfl);have q2:=(JZ hrow2 2).trans (show _=some (.slice a0 (Ku st 0).1 c0) from rfl);have q3:=(JZ hrow2 3).trans (show _=some (.slice a1 (Ku st 1).1 c1) from rfl);have q4:=(JZ hrow2 4).trans (show _=some (.slice a2 (Ku st 2).1 c2) from rfl);have q5:=(JZ hrow2 5).trans (show _=some (.slice a3 (Ku st 3).1 c3) from rfl);have q6:=(JZ hrow2 6).trans (show _=some (.slice a4 (Ku st 4).1 c4) from rfl);have q7:=(JZ hrow2 7).trans (show _=some (.slice a5 (Ku st 5).1 c5) from rfl);have Hj:im<w2.heap.size:=dx.out.ins.lt;have y9:=JY hb3;clear hown hb2 bL cX hb3 hrow2;unfold Kl;go_wp2_with (first
  | (at_mapUpdate;refine Qc rfl _ _ _ 97 rfl 169 IS Ep (by unfold maxLen;omega) rfl nm (by unfold maxLen;omega) rfl p.val (by rw[<- hpk];rfl) ?_;intro w4 hr4 ht4;have hz0:=(JZ (((Kv ht4).block w2.heap.size (by simp) (by omega)).trans dv.out) 0).trans (show _=some (.string ⟨nm.toArray⟩) from rfl);go_frame))
 go_ret2;have d7:=Kv ht4;have Hk:=hr4.lt;have ey:Kj w.heap.size (fun k=>k=im) w w4:=((Kj.refl w.heap.size (fun k=>k=im) w).below av.out (AC _)).next d7 av.out.size (fun _ _ q=>q)
 refine ⟨p,rfl,by rw[<- hpk],by rw[<- hpk],by rw[<- hpk],by rw[<- hpk],?_,⟨lh.out.rem.kept (d7.block rm lh.out.rem.lt lh.out.ne),hr4,lh.out.ne⟩,ey⟩;rw[<- hpk];refine ⟨sf.out,fun i => ?_⟩;have hi:=Ky (HO.out i) y9.out;refine d7.own hi (AC _) (fun g hg e => ?_);have:=VA (HO.out i) hg;omega
namespace Hv
structure PD where
 text:S
 nm:S
 ve:S
 st:St
 status:Int
abbrev Item:=S ⊕ (S × S × S × St)
abbrev Item.rem (nm:S):Item:=.inl nm
abbrev Item.ins (x nm ve:S) (st:St):Item:=.inr (x,nm,ve,st)
def Mg (x:S):Option Item :=
 match x with
 | []=>none
 | c::t=>if c=45 then (if Wd.isName t then some (.rem t) else none)
   else if c=43 then (if 2000<t.length then none else (Kw.parse (short KH) t).map fun a => .ins t a.1 a.2.1 a.2.2)
   else none
end Hv
variable {D:VM Hv.PD}{E:VM Value}
def Tp (N:Nat->Prop) (w:World) (d:Hv.PD) (v:Value):Prop:=∃ p:Pk,v=p.val/\p.text=d.text/\p.nm=d.nm/\p.ve=d.ve/\p.status=d.status/\ahP 0 p d.st w/\∀ i g,(p.sl i).ownBlock=some g->N g
theorem Tp.weak{d:Hv.PD}  (h:Tp N w d v) (hn:∀ g,N g->N' g):Tp N' w d v:=by
 obtain ⟨p,h1,h2,h3,h4,h5,h6,h7⟩:=h;exact ⟨p,h1,h2,h3,h4,h5,h6,fun i g hg=>hn g (h7 i g hg)⟩
theorem Tp.far{d:Hv.PD}  (h:Tp N w d v) (hf:Kj B C w w') (hB:w.heap.size<=B) (hC:∀ g,g<w.heap.size->N g -> ¬ C g):Tp N w' d v:=by
 obtain ⟨p,h1,h2,h3,h4,h5,h6,h7⟩:=h;refine ⟨p,h1,h2,h3,h4,h5,h6.far hf hB (fun i g hg => ?_),h7⟩;rcases (h6.rows i).2 with ⟨q,_⟩ | ⟨g',cap,cur,q,_,q2,_⟩
 · rw[q] at hg;cases hg
 · rw[q] at hg;cases hg;exact hC g' (blt q2) (h7 i g' (by rw[q];rfl))
theorem Tp.below{d:Hv.PD}  (h:Tp N w d v) (hb:Below w.heap.size w w'):Tp N w' d v:=h.far (Kj.of (C:=fun _=>False) hb (AC _)) (AC _) (fun _ _ _ h=>h)
structure Ls (N:Nat->Prop) (w:World) (D:VM Hv.PD) (E:VM Value):Prop where
 Mt:Hv.Ki D
 P8:∀ k v,Hv.get E k=some v->∃ d,Hv.get D k=some d/\Tp N w d v
 Vk:∀ k d,Hv.get D k=some d->∃ v,Hv.get E k=some v/\Tp N w d v
theorem Ls.nil(N:Nat->Prop) (w:World):Ls N w [] []:=⟨IR,fun k v h=>(by cases h),fun k v h=>(by cases h)⟩
theorem Ls.weak(h:Ls N w D E) (hn:∀ g,N g->N' g):Ls N' w D E :=
 ⟨h.Mt,fun k v q=>(h.P8 k v q).imp fun _ a=>⟨a.1,a.2.weak hn⟩,fun k v q=>(h.Vk k v q).imp fun _ a=>⟨a.1,a.2.weak hn⟩⟩
theorem Ls.far(h:Ls N w D E) (hf:Kj B C w w') (hB:w.heap.size<=B) (hC:∀ g,g<w.heap.size->N g -> ¬ C g):Ls N w' D E :=
 ⟨h.Mt,fun k v q=>(h.P8 k v q).imp fun _ a=>⟨a.1,a.2.far hf hB hC⟩,fun k v q=>(h.Vk k v q).imp fun _ a=>⟨a.1,a.2.far hf hB hC⟩⟩
theorem Ls.below(h:Ls N w D E) (hb:Below w.heap.size w w'):Ls N w' D E:=h.far (Kj.of (C:=fun _=>False) hb (AC _)) (AC _) (fun _ _ _ h=>h)
theorem Ls.put(h:Ls N w D E) (hE:Hv.Ki E) (k:S) {d:Hv.PD}  (hd:Tp N w d v):Ls N w (Hv.put D k d) (Hv.put E k v):=by
 refine ⟨h.Mt.put k d,fun k' v' q => ?_,fun k' d' q => ?_⟩
 · by_cases e:k'=k
   · subst e;rw[Hv.Ka hE] at q;cases q;exact ⟨d,Hv.Ka h.Mt _ _,hd⟩
   · rw[Hv.J7 hE _ e] at q;rw[Hv.J7 h.Mt _ e];exact h.P8 k' v' q
 · by_cases e:k'=k
   · subst e;rw[Hv.Ka h.Mt] at q;cases q;exact ⟨v,Hv.Ka hE _ _,hd⟩
   · rw[Hv.J7 h.Mt _ e] at q;rw[Hv.J7 hE _ e];exact h.Vk k' d' q
theorem Ls.ahS(h:Ls N w D E):ahI E:=fun k v q=>by
 obtain ⟨d,_,p,hp,_⟩:=h.P8 k v q;exact ⟨p,hp⟩
theorem Rv(x:S) (p:S) (w:World):Calls Tryz.prog 156 #[.string ⟨x.toArray⟩, .string ⟨p.toArray⟩] w fun e w'=>e = .returned (.tuple #[.string ⟨(Lib.trimPrefix x p).toArray⟩, .bool (Lib.hasPrefix x p)])/\w'=w :=
 Tryz.strings_CutPrefix ⟨x.toArray⟩ ⟨p.toArray⟩ w
theorem acs(x:S) (hx:2000<x.length) (w:World) :
 Calls Tryz.prog 227 #[.string ⟨x.toArray⟩] w fun e w'=>e = .returned (.bool false)/\Wd.isName x=false/\Below w.heap.size w w':=by
 have h:Wd.Og x 1 12=false:=by simp[Wd.Og];omega
 have e1:Wd.isName x=false:=by simp[Wd.isName,h]
 rw[e1];go_enter Tryz.func227,Tryz.ntmps227;go_wp2_with (go_at_call 269;refine (Np x 1 12 _).mono ?_;rintro e w' ⟨rfl,rfl⟩)
 go_ret;exact ⟨rfl,by simp,AD _ _⟩
theorem YD(rm im:Nat) (x:S) (hn:Wd.isName x=false) (w:World) :
 Calls Tryz.prog 177 #[.agg #[.map (some rm), .map (some im)], .string ⟨x.toArray⟩] w fun e w'=>e = .returned (.tuple #[.string ⟨#[]⟩, .bool false])/\Below w.heap.size w w':=by
 by_cases hx:x.length<=2000
 · exact Ze rm im x hx hn w
 · go_enter Tryz.func177,Tryz.ntmps177;go_wp2_with fail;refine (acs x (by omega) _).mono ?_;rintro e w1 ⟨rfl, -,hb1⟩;have ag:=JY (((AD w.heap.size w).alloc (AC _) (.cells #[.map (some rm), .map (some im)] 148)).trans (hb1.mono (by simp)));clear hb1;go_wp2_with fail;go_ret2;exact ⟨rfl,ag.out⟩
def PE (rm im:Nat) (R I:VM Value) (x:S) (w:World) (e:Ending) (w':World):Prop :=
 match Hv.Mg x with
 | none=>e = .returned (.tuple #[.string ⟨#[]⟩, .bool false])/\Below w.heap.size w w'
 | some (.inl nm)=>e = .returned (.tuple #[.string ⟨nm.toArray⟩, .bool true])/\nm.length<=2000/\MH rm im (Hv.put R nm LB) I w'/\Kj w.heap.size (fun k=>k=rm) w w'
 | some (.inr (x,nm,ve,st))=>e = .returned (.tuple #[.string ⟨nm.toArray⟩, .bool true])/\nm.length<=2000/\∃ v,Tp (fun g=>w.heap.size<=g) w' ⟨x,nm,ve,st,1⟩ v/\MH rm im R (Hv.put I nm v) w'/\Kj w.heap.size (fun k=>k=im) w w'
theorem aeR(rm im:Nat) (R I:VM Value) (t:S) (hR:R.length<=1000000) (w:World) (h:MH rm im R I w) :
 Calls Tryz.prog 122 #[.agg #[.map (some rm), .map (some im)], .string ⟨(45::t).toArray⟩] w (PE rm im R I (45::t) w):=by
 have HC:=JY (fun w=>Rv (45::t) [45] w);have e1:Lib.hasPrefix (45::t) [45]=true:=by simp[Lib.hasPrefix]
 have e2:Lib.trimPrefix (45::t) [45]=t:=by simp[Lib.trimPrefix,Lib.hasPrefix]
 rw[e1,e2] at HC;clear e1 e2;have HW:=JY h;clear h;obtain ⟨x,hx⟩:∃ x,(45::t)=x:=⟨_,rfl⟩
 have hi:Hv.Mg x=if Wd.isName t then some (.rem t) else none:=by rw[<- hx];rfl
 rw[hx] at HC |-;have hb0:=(AD w.heap.size w).alloc (AC _) (.cells #[.map (some rm), .map (some im)] 148);have bL:=JY (HW.out.below hb0);have aC:=JY hb0;clear hb0 hx;go_enter Tryz.func122,Tryz.ntmps122;go_wp2_with fail;refine (HC.out _).mono ?_;rintro e w1 ⟨rfl,rfl⟩;go_wp2_with fail;cases hn:Wd.isName t
 · refine (YD rm im t hn _).mono ?_;rintro e w1 ⟨rfl,hb1⟩;have ag:=JY (aC.out.trans (hb1.mono aC.out.size));clear hb1;go_wp2_with fail;go_ret2;unfold PE;rw[hi,hn];exact ⟨rfl,ag.out⟩
 · have htl:t.length<=2000:=by
    by_cases q:t.length<=2000
    · exact q
    · exfalso;have h:Wd.Og t 1 12=false:=by simp[Wd.Og];omega
      have e1:Wd.isName t=false:=by simp[Wd.isName,h]
      rw[e1] at hn;cases hn
   refine (YE rm im R I t htl hn hR _ bL.out).mono ?_;rintro e w1 ⟨rfl,hw1,aS⟩;have aO:=JY (((Kj.refl w.heap.size (fun k=>k=rm) w).below aC.out (AC _)).next aS aC.out.size (fun _ _ q=>q));have dx:=JY hw1;clear hw1 aS;go_wp2_with fail;go_ret2;unfold PE;rw[hi,hn];exact ⟨rfl,htl,dx.out,aO.out⟩
theorem ahj(rm im:Nat) (R I:VM Value) (t:S) (he:Pz t) (hI:I.length<=1000000) (w:World) (hb:Base w) (h:MH rm im R I w) :
 Calls Tryz.prog 122 #[.agg #[.map (some rm), .map (some im)], .string ⟨(43::t).toArray⟩] w (PE rm im R I (43::t) w):=by
 have kR:=JY he;clear he;have HC:=JY (fun w=>Rv (43::t) [45] w);have HD:=JY (fun w=>Rv (43::t) [43] w);have e1:Lib.hasPrefix (43::t) [45]=false:=by simp[Lib.hasPrefix,List.isPrefixOf]
 have e2:Lib.hasPrefix (43::t) [43]=true:=by simp[Lib.hasPrefix]
 have e3:Lib.trimPrefix (43::t) [43]=t:=by simp[Lib.trimPrefix,Lib.hasPrefix]
 rw[e1] at HC;rw[e2,e3] at HD;clear e1 e2 e3;have HW:=JY h;clear h;obtain ⟨x,hx⟩:∃ x,(43::t)=x:=⟨_,rfl⟩
 have hi:Hv.Mg x=if 2000<t.length then none else (Kw.parse (short KH) t).map fun a => .ins t a.1 a.2.1 a.2.2:=by rw[<- hx];rfl
 rw[hx] at HC HD |-;have hb0:=(AD w.heap.size w).alloc (AC _) (.cells #[.map (some rm), .map (some im)] 148);have bL:=JY (HW.out.below hb0);have aJ:=JY (hb.below hb0 hb.size);have aC:=JY hb0;clear hb0 hx hb;go_enter Tryz.func122,Tryz.ntmps122;go_wp2_with fail;refine (HC.out _).mono ?_;rintro e w1 ⟨rfl,rfl⟩;go_wp2_with fail;refine (HD.out _).mono ?_;rintro e w1 ⟨rfl,rfl⟩;go_wp2_with fail;by_cases hl:2000<t.length
 · refine (VN rm im t hl _).mono ?_;rintro e w1 ⟨rfl,hb1⟩;have ag:=JY (aC.out.trans (hb1.mono aC.out.size));clear hb1;go_wp2_with fail;go_ret2;unfold PE;rw[hi,By hl];exact ⟨rfl,ag.out⟩
 · rw[Bm hl] at hi;cases hp:Kw.parse (short KH) t with
   | none =>
     refine (YC rm im t (by omega) kR.out hp _ aJ.out).mono ?_;rintro e w1 ⟨rfl,hb1⟩;have ag:=JY (aC.out.trans (hb1.mono aC.out.size));clear hb1;go_wp2_with fail;go_ret2;unfold PE;rw[hi,hp];exact ⟨rfl,ag.out⟩
   | some a =>
     obtain ⟨nm,ve,st⟩:=a;refine (WY rm im R I t nm ve st (by omega) kR.out hp hI _ aJ.out bL.out).mono ?_;rintro e w1 ⟨p,rfl,p1,p2,p3,p4,hpk,hw1,aS⟩;have aO:=JY (((Kj.refl w.heap.size (fun k=>k=im) w).below aC.out (AC _)).next aS aC.out.size (fun _ _ q=>q));have dx:=JY hw1;have bQ:Hid (Tp (fun g=>w.heap.size<=g) w1 ⟨t,nm,ve,st,1⟩ p.val):=JY ⟨p,rfl,p1,p2,p3,p4,⟨hpk.parse,fun i=>KL (hpk.rows i) (Bs _)⟩,fun i g hg=>Bi aC.out.size (VA (hpk.rows i) hg)⟩;clear hw1 aS hpk p1 p2 p3 p4;go_wp2_with fail;go_ret2;unfold PE;rw[hi,hp];exact ⟨rfl,(KZ hp).1,p.val,bQ.out,dx.out,aO.out⟩
theorem YF(rm im:Nat) (R I:VM Value) (x:S) (h1:Lib.hasPrefix x [45]=false) (h2:Lib.hasPrefix x [43]=false) (hi:Hv.Mg x=none) (w:World) :
 Calls Tryz.prog 122 #[.agg #[.map (some rm), .map (some im)], .string ⟨x.toArray⟩] w (PE rm im R I x w):=by
 have HC:=JY (fun w=>Rv x [45] w);have HD:=JY (fun w=>Rv x [43] w);rw[h1] at HC;rw[h2] at HD;have aC:=JY ((AD w.heap.size w).alloc (AC _) (.cells #[.map (some rm), .map (some im)] 148));go_enter Tryz.func122,Tryz.ntmps122;go_wp2_with fail;refine (HC.out _).mono ?_;rintro e w1 ⟨rfl,rfl⟩;go_wp2_with fail;refine (HD.out _).mono ?_;rintro e w1 ⟨rfl,rfl⟩;go_wp2_with fail;go_ret2;unfold PE;rw[hi];exact ⟨rfl,aC.out⟩
def Rl (xs:List S):Prop:=∀ t:S,(43::t)∈xs->Pz t
theorem ajo(rm im:Nat) (R I:VM Value) (x:S) (he:∀ t,x=43::t->Pz t) (hR:R.length<=1000000) (hI:I.length<=1000000) (w:World) (hb:Base w) (h:MH rm im R I w) :
 Calls Tryz.prog 122 #[.agg #[.map (some rm), .map (some im)], .string ⟨x.toArray⟩] w (PE rm im R I x w):=by
 cases x with
 | nil=>exact YF rm im R I [] rfl rfl rfl w
 | cons c t =>
   by_cases h1:c=45
   · subst h1;exact aeR rm im R I t hR w h
   · by_cases h2:c=43
     · subst h2;exact ahj rm im R I t (he t rfl) hI w hb h
     · exact YF rm im R I (c::t) (by simp[Lib.hasPrefix,List.isPrefixOf];intro e;exact h1 e.symm) (by simp[Lib.hasPrefix,List.isPrefixOf];intro e;exact h2 e.symm) (by simp[Hv.Mg,h1,h2]) w
end
section
open Kw (St ME)
open Hv (S)
variable {f:S->S}{st:St}
def Pg (c:ME):Prop:=((c.verb=1\/c.verb=2)/\Wd.isWord c.word=true/\Wd.isVar c.path=true)\/(c.verb=3/\Wd.LU c.frm=true/\Wd.isVar c.path=true)\/((c.verb=4\/c.verb=5)/\Wd.isVar c.path=true)
structure Xl (st:St):Prop where
 needs:∀ q∈st.needs,Wd.isName q.1=true/\(q.2=[]\/J8.fine q.2=true)
 breaks:∀ q∈st.breaks,Wd.isName q=true
 wakes:∀ q∈st.wakes,Wd.LU q=true
 files:∀ q∈st.files,Wd.LU q.1=true/\Wd.under q.1=false
 runs:∀ c∈st.runs,Pg c/\c.verb≠5
 Kn:∀ c∈st.Kn,Pg c
theorem abU(ws:List S) (h:(Kw.RS ws).2=true):Pg (Kw.RS ws).1:=by
 rw[Kw.RS.eq_def] at h |-;split at h
 · split at h
   next hv =>
    split at h
    · split at h
      next hq=>simp only[Bool.and_eq_true] at hq;simp only[By hv,hq.1,hq.2,Bool.and_self,if_true];exact .inl ⟨hv,hq.1,hq.2⟩
      next=>cases h
    · cases h
   next hv =>
    split at h
    next h3 =>
     split at h
     · split at h
       next hq=>simp only[Bool.and_eq_true] at hq;simp only[Bm hv,By h3,hq.1,hq.2,Bool.and_self,if_true];exact .inr (.inl ⟨h3,hq.1,hq.2⟩)
       next=>cases h
     · cases h
    next h3 =>
     split at h
     next h4 =>
      split at h
      · split at h
        next hq=>simp only[Bm hv,Bm h3,By h4,hq,if_true];exact .inr (.inr ⟨h4,hq⟩)
        next=>cases h
      · cases h
     next=>cases h
 · cases h
theorem OP{α:Type} {P:α->Prop} {l:List α} {a:α} (h:∀ q∈l,P q) (ha:P a):∀ q∈l++[a],P q:=fun q hq=>by
 rcases List.mem_append.1 hq with hq | hq
 · exact h q hq
 · rw[List.mem_singleton.1 hq];exact ha
theorem aeF{st':St}  {rest:List S} (h:Kw.OO f st k rest=some st') (g:Xl st):Xl st':=by
 rw[Kw.OO.eq_def] at h;split at h
 · split at h
   · split at h
     next hn=>cases h;exact { g with needs:=OP g.needs (⟨hn, .inl rfl⟩) }
     next=>cases h
   · split at h
     next hn =>
      simp only[Bool.and_eq_true] at hn;cases h;exact { g with needs:=OP g.needs (⟨hn.2, .inr hn.1⟩) }
     next=>cases h
   · cases h
 · split at h
   · split at h
     · split at h
       next hn=>cases h;exact { g with breaks:=OP g.breaks (hn) }
       next=>cases h
     · cases h
   · split at h
     · split at h
       · split at h
         next hn=>cases h;exact { g with wakes:=OP g.wakes (hn) }
         next=>cases h
       · cases h
     · split at h
       · split at h
         · split at h
           next hn=>cases h;exact { g with files:=OP g.files (⟨hn.2.2.1,hn.2.2.2.1⟩) }
           next=>cases h
         · cases h
       · split at h
         · split at h
           next hn=>cases h;exact { g with runs:=OP g.runs (⟨abU _ hn.1,hn.2⟩) }
           next=>cases h
         · split at h
           · split at h
             next hn=>cases h;exact { g with Kn:=OP g.Kn (abU _ hn) }
             next=>cases h
           · cases h
theorem Yn:∀ (ls:List S) {st st':St} {last:Int},Kw.MZ f st last ls=some st'->Xl st->Xl st'
 | [],st,st',last,h,g=>by rw[Kw.MZ] at h;cases h;exact g
 | l::ls,st,st',last,h,g=>by
   rw[Kw.MZ] at h;split at h
   · cases h
   · split at h
     · cases h
     next s1 h1=>exact Yn ls h (aeF h1 g)
theorem Lm{x nm ve:S}  (h:Kw.parse f x=some (nm,ve,st)):Wd.isName nm=true/\J8.fine ve=true/\Xl st:=by
 rw[Kw.parse.eq_def] at h;split at h
 · cases h
 · split at h
   · cases h
   · split at h
     · split at h
       · cases h
       · split at h
         next hh =>
          split at h
          · cases h
          next s1 h1 =>
           split at h
           · cases h;simp only[Kw.XV,Bool.and_eq_true] at hh;exact ⟨hh.1.2,hh.2,Yn _ h1 ⟨fun q hq=>(by cases hq),fun q hq=>(by cases hq),fun q hq=>(by cases hq),fun q hq=>(by cases hq),fun q hq=>(by cases hq),fun q hq=>(by cases hq)⟩⟩
           · cases h
         next=>cases h
     · cases h
end
section
open Go.RowKit
open Hv (S VM)
variable {E:VM Value}
theorem KO.blocks{cnt:Nat}  {left:S->Bool} (h:KO w b r E left cnt) (hb:w'.heap[b]? = w.heap[b]?) (hr:w'.heap[r]? = w.heap[r]?):KO w' b r E left cnt:=by
 obtain ⟨h0,es,clock,since,seen,c0,q1,q2,q3,q4,q5,q6⟩:=h;exact ⟨h0,es,clock,since,seen,c0,hb.trans q1,q2,q3,q4,hr.trans q5,q6⟩
theorem KO.lts{cnt:Nat}  {left:S->Bool} (h:KO w b r E left cnt):b<w.heap.size/\r<w.heap.size:=by
 obtain ⟨h0,es,clock,since,seen,c0,q1,q2,q3,q4,q5,q6⟩:=h;exact ⟨(Array.getElem?_eq_some_iff.1 q1).1,(Array.getElem?_eq_some_iff.1 q5).1⟩
theorem KO.far{cnt:Nat}   {left:S->Bool} (h:KO w b r E left cnt) (hf:Kj B C w w') (hB:w.heap.size<=B) (h1 : ¬ C b) (h2 : ¬ C r):KO w' b r E left cnt :=
 h.blocks (hf.block b (by have:=h.lts;omega) h1) (hf.block r (by have:=h.lts;omega) h2)
theorem KO.below{cnt:Nat}  {left:S->Bool} (h:KO w b r E left cnt) (hb:Below w.heap.size w w'):KO w' b r E left cnt :=
 h.blocks (hb.block b h.lts.1) (hb.block r h.lts.2)
theorem KO.alloc{cnt:Nat}  {left:S->Bool} (h:KO w b r E left cnt) (o:Obj):KO (w.alloc o) b r E left cnt:=⟨h.1,h.2.alloc o⟩
theorem KO.left_eq{cnt:Nat}  {left:S->Bool} (h:KO w b r E left cnt):w.rangeLeft b r=cnt:=h.2.left_eq
theorem KO.map{cnt:Nat}  {left:S->Bool} (h:KO w b r E left cnt):J6 w b E:=by
 obtain ⟨h0,es,clock,since,seen,c0,q1,q2,q3,q4,q5,q6⟩:=h;exact ⟨h0,es,clock,q1,q2,q3,q4⟩
end
end Go.Proofs.YtfhmaiicimdldaaGreatDoor
