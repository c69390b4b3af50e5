import Derived.Test.YtfhmaiicimdldaaGreatDoorFinJ7
import Derived.Stop.Asserts
import Derived.RowKitTokens
set_option maxHeartbeats 6000000
set_option maxRecDepth 100000
namespace Go.Proofs.YtfhmaiicimdldaaGreatDoor
variable {w w' wr:World}{B a b c db k n sb u:Nat}{C:Nat->Prop}
section
open Go.RowKit
open Hv (S Dk)
variable {h xa xb xc:S}
def Nb (a b c:Nat) (h:S):S:=[104,97,118,101,110,32,115,116,111,114,101,32,49,10]++(Lib.itoa a++([32]++(Lib.itoa b++([32]++(Lib.itoa c++([32]++h))))))++[10]
def M0 (a b c:Nat) (h:S):Array Value := #[.int .i64 a, .int .i64 b, .int .i64 c, .string ⟨h.toArray⟩]
theorem Yt(half:Nat) (x:S) (hx:x.length<=1000000) (w:World) (hb:Base w) :
 Calls Tryz.prog 79 #[.int .i64 half, .string ⟨x.toArray⟩] w fun e w'=>e = .returned (.agg (M0 half x.length 0 (short KH x)))/\Below w.heap.size w w':=by
 have HB:=JY hb;clear hb;go_enter Tryz.func79,Tryz.ntmps79;go_wp2_with fail;have nU:=HB.out.alloc (.cells #[.int .i64 0, .int .i64 0, .int .i64 0, .string ⟨#[]⟩] 159);refine (VI x hx KH _ (by have:=nU.size;omega) nU.rounds).mono ?_;rintro e w1 ⟨rfl,hb1⟩;have hrow:=(hb1.block w.heap.size (by simp)).trans (AF w (.cells #[.int .i64 0, .int .i64 0, .int .i64 0, .string ⟨#[]⟩] 159));have ag:=JY (((AD w.heap.size w).alloc (AC _) (.cells #[.int .i64 0, .int .i64 0, .int .i64 0, .string ⟨#[]⟩] 159)).trans (hb1.mono (by simp)));have c0:=(JZ hrow 0).trans (show _=some (.int .i64 0) from rfl);have c1:=(JZ hrow 1).trans (show _=some (.int .i64 0) from rfl);have c2:=(JZ hrow 2).trans (show _=some (.int .i64 0) from rfl);have c3:=(JZ hrow 3).trans (show _=some (.string ⟨#[]⟩) from rfl);have f0:=J2 hrow 0;have f1:=J2 hrow 1;have f2:=J2 hrow 2;have f3:=J2 hrow 3;obtain ⟨z,hz⟩:∃ z,short KH x=z:=⟨_,rfl⟩
 have fh:=AI _ w.heap.size 3 _ _ (.string ⟨z.toArray⟩) (AI _ w.heap.size 2 _ _ (.int .i64 0) (AI _ w.heap.size 1 _ _ (.int .i64 x.length) (AI _ w.heap.size 0 _ _ (.int .i64 half) hrow)));have q0:=(JZ fh 0).trans (show _=some (.int .i64 half) from rfl);have q1:=(JZ fh 1).trans (show _=some (.int .i64 x.length) from rfl);have q2:=(JZ fh 2).trans (show _=some (.int .i64 0) from rfl);have q3:=(JZ fh 3).trans (show _=some (.string ⟨z.toArray⟩) from rfl);have HZ:=JY hz;rw[hz];clear hb1 hrow nU hz fh;go_wp2_with fail;refine IH (v := .agg #[.int .i64 half, .int .i64 x.length, .int .i64 0, .string ⟨z.toArray⟩]) (by simp[results,Tryz.results79,go_sem,q0,q1,q2,q3]) rfl ⟨by rw[HZ.out];rfl,?_⟩;exact (((ag.out.setCell (AC _) _).setCell (AC _) _).setCell (AC _) _).setCell (AC _) _
theorem agD(x y z h:S) (hx:x.length<=21) (hy:y.length<=21) (hz:z.length<=21) (hh:h.length<=100) (w:World) :
 Calls Tryz.prog 201 #[.slice (some ⟨w.heap.size,0,none⟩) 4 4, .string ⟨#[32]⟩] (w.alloc (.cells #[.string ⟨x.toArray⟩, .string ⟨y.toArray⟩, .string ⟨z.toArray⟩, .string ⟨h.toArray⟩] 9)) fun e w'=>∃ J:S,x++([32]++(y++([32]++(z++([32]++h)))))=J/\J.length<=200/\e = .returned (.string ⟨J.toArray⟩)/\Below w.heap.size w w':=by
 have hrow:=AF w (.cells #[.string ⟨x.toArray⟩, .string ⟨y.toArray⟩, .string ⟨z.toArray⟩, .string ⟨h.toArray⟩] 9);have hJ:Lib.join ([⟨x.toArray⟩,⟨y.toArray⟩,⟨z.toArray⟩,⟨h.toArray⟩].map (fun b:ByteArray=>b.data.toList)) [32]=x++([32]++(y++([32]++(z++([32]++h))))):=by
  simp[Lib.join]
 refine (Tryz.strings_Join w.heap.size 0 4 [⟨x.toArray⟩,⟨y.toArray⟩,⟨z.toArray⟩,⟨h.toArray⟩] ⟨#[32]⟩ _ (fun j v hv => ?_) (by simp) (by simp) (by simp) ?_).mono ?_
 · rcases (show j=0\/j=1\/j=2\/j=3 by have:=(List.getElem?_eq_some_iff.1 hv).1;simp at this;omega) with rfl | rfl | rfl | rfl<;>simp at hv<;>subst hv
   · exact (JZ hrow 0).trans rfl
   · exact (JZ hrow 1).trans rfl
   · exact (JZ hrow 2).trans rfl
   · exact (JZ hrow 3).trans rfl
 · show (Lib.join _ [32]).length<=_;rw[hJ];simp;omega
 · rintro e w' ⟨rfl,hb⟩;refine ⟨_,rfl,by simp;omega,?_,((AD w.heap.size w).alloc (AC _) _).trans (hb.mono (by simp))⟩;rw[show Lib.join _ (ByteArray.mk #[32]).data.toList=_ from hJ]
theorem MS(hr:w.heap[B]? = some (.cells (M0 a b c h) 159 (0,0))):w.cell? ⟨B,0,none⟩=some (.int .i64 a)/\w.cell? ⟨B,1,none⟩=some (.int .i64 b)/\w.cell? ⟨B,2,none⟩=some (.int .i64 c)/\w.cell? ⟨B,3,none⟩=some (.string ⟨h.toArray⟩) :=
 ⟨(JZ hr 0).trans rfl,(JZ hr 1).trans rfl,(JZ hr 2).trans rfl,(JZ hr 3).trans rfl⟩
theorem XL(a b c:Nat) (h:S) (ha:a<=4000000000) (hb:b<=4000000000) (hc:c<=4000000000) (hh:h.length<=100) (w:World) (hbs:Base w) :
 Calls Tryz.prog 147 #[.agg (M0 a b c h)] w fun e w'=>e = .returned (.string ⟨(Nb a b c h).toArray⟩)/\Below w.heap.size w w':=by
 have aJ:=JY hbs;clear hbs;go_enter Tryz.func147,Tryz.ntmps147;go_wp2_with fail;have hrow:=AF w (.cells (M0 a b c h) 159);have aC:=JY ((AD w.heap.size w).alloc (AC _) (.cells (M0 a b c h) 159));have dG:=JY (aJ.out.alloc (.cells (M0 a b c h) 159));obtain ⟨B,hB⟩:∃ B,w.heap.size=B:=⟨_,rfl⟩
 obtain ⟨u,hu⟩:∃ u,w.alloc (.cells (M0 a b c h) 159)=u:=⟨_,rfl⟩
 have yx:B<u.heap.size:=by rw[<- hu,<- hB];simp
 rw[hu] at hrow aC dG |-;rw[hB] at hrow |-;have c0:=(JZ hrow 0).trans (show _=some (.int .i64 a) from rfl);have c1:=(JZ hrow 1).trans (show _=some (.int .i64 b) from rfl);have c2:=(JZ hrow 2).trans (show _=some (.int .i64 c) from rfl);have c3:=(JZ hrow 3).trans (show _=some (.string ⟨h.toArray⟩) from rfl);have la:=Lib.itoa_length_le a (by omega) (by omega);have lb:=Lib.itoa_length_le b (by omega) (by omega);have lc:=Lib.itoa_length_le c (by omega) (by omega);have HX:=JY (show ∀ x y z:S,Lib.itoa a=x->Lib.itoa b=y->Lib.itoa c=z->Nb a b c h=[104,97,118,101,110,32,115,116,111,114,101,32,49,10]++(x++([32]++(y++([32]++(z++([32]++h))))))++[10] from fun x y z e1 e2 e3=>by subst e1;subst e2;subst e3;rfl);have H0:=JY hrow;clear hu hrow aJ
 go_region_held3 (fun w'=>w'.cell? ⟨B,0,none⟩=some (.int .i64 a)/\w'.cell? ⟨B,1,none⟩=some (.int .i64 b)/\w'.cell? ⟨B,2,none⟩=some (.int .i64 c)/\w'.cell? ⟨B,3,none⟩=some (.string ⟨h.toArray⟩))
  (first | assumption | exact MS H5.out | exact MS H4.out | exact MS H3.out | exact MS H2.out | exact MS H1.out | exact ⟨c0,c1,c2,c3⟩ | simp[go_sem, *])
  (first
   | (go_at_call_of 81 (Value.int .i64 a);refine (OI a (by omega) (by omega) _ (dG.out.drew)).mono ?_;rintro e w1 ⟨rfl,hb1⟩;have H1:=JY ((hb1.block B (by simpa using yx)).trans H0.out);have aI:=JY (dG.out.drew.below hb1 (by have:=dG.out.size;simpa using this));have ag:=JY (aC.out.drew.trans (hb1.mono aC.out.size));have nU:B<w1.heap.size:=lt_of_block H1.out;clear hb1)
   | (go_at_call_of 81 (Value.int .i64 b);refine (OI b (by omega) (by omega) _ (aI.out)).mono ?_;rintro e w2 ⟨rfl,hb2⟩;have H2:=JY ((hb2.block B nU).trans H1.out);have jb:=JY (aI.out.below hb2 aI.out.size);have ah:=JY (ag.out.trans (hb2.mono ag.out.size));have uX:B<w2.heap.size:=lt_of_block H2.out;clear hb2)
   | (go_at_call_of 81 (Value.int .i64 c);refine (OI c (by omega) (by omega) _ (jb.out)).mono ?_;rintro e w3 ⟨rfl,hb3⟩;have H3:=JY ((hb3.block B uX).trans H2.out);have av:=JY (ah.out.trans (hb3.mono ah.out.size));have GH:B<w3.heap.size:=lt_of_block H3.out;clear hb3)
   | (go_at_call 201;refine (agD (Lib.itoa a) (Lib.itoa b) (Lib.itoa c) h la lb lc hh w3).mono ?_;rintro e w4 ⟨J,hJ,lJ,rfl,hb4⟩;have H4:=JY ((hb4.block B GH).trans H3.out);have aB:=JY (av.out.trans (hb4.mono av.out.size));have HJ:=JY hJ;have j1 : ¬ 9223372036854775807<14+J.length:=(by omega);have j2 : ¬ 9223372036854775807<14+J.length+1:=(by omega);clear hb4 hJ))
 go_wp2_with fail;go_ret;refine ⟨?_,aB.out⟩;rw[HX.out _ _ _ rfl rfl rfl,<- HJ.out]
 congr 2
def KA (sb db n a b c:Nat) (h:S) (w:World):Prop:=w.heap[sb]? = some (.cells #[.iface 24 (.pointer (some ⟨db,0,none⟩)), .int .i64 n, .int .i64 a, .int .i64 b, .int .i64 c, .string ⟨h.toArray⟩] 161 (0,0))
theorem KA.kept(hs:KA sb db n a b c h w) (hb:w'.heap[sb]? = w.heap[sb]?):KA sb db n a b c h w':=hb.trans hs
theorem KA.lt(hs:KA sb db n a b c h w):sb<w.heap.size:=(Array.getElem?_eq_some_iff.1 hs).1
theorem KA.below(hs:KA sb db n a b c h w) (hb:Below w.heap.size w w'):KA sb db n a b c h w':=hs.kept (hb.block sb hs.lt)
theorem KA.far(hs:KA sb db n a b c h w) (hf:Kj B C w w') (hB:w.heap.size<=B) (hC : ¬ C sb):KA sb db n a b c h w':=hs.kept (hf.block sb (by have:=hs.lt;omega) hC)
theorem KA.cells(hs:KA sb db n a b c h w):w.cell? ⟨sb,0,none⟩=some (.iface 24 (.pointer (some ⟨db,0,none⟩)))/\w.cell? ⟨sb,1,none⟩=some (.int .i64 n)/\w.cell? ⟨sb,2,none⟩=some (.int .i64 a)/\w.cell? ⟨sb,3,none⟩=some (.int .i64 b)/\w.cell? ⟨sb,4,none⟩=some (.int .i64 c)/\w.cell? ⟨sb,5,none⟩=some (.string ⟨h.toArray⟩) :=
 ⟨(JZ hs 0).trans rfl,(JZ hs 1).trans rfl,(JZ hs 2).trans rfl,(JZ hs 3).trans rfl,(JZ hs 4).trans rfl,(JZ hs 5).trans rfl⟩
theorem YA(sb db n a b c:Nat) (h:S) (hn:1<=n) (dF:n<=1000000) (w:World) (hs:KA sb db n a b c h w) :
 Calls Tryz.prog 91 #[.pointer (some ⟨sb,0,none⟩)] w fun e w'=>e = .returned (.int .i64 ((n-1) / 2:Nat))/\Below w.heap.size w w':=by
 obtain ⟨c0,c1, -⟩:=hs.cells;have e1:(n:Int)-1=((n-1:Nat):Int):=by omega
 have e2:(((n-1:Nat):Int)).tdiv 2=(((n-1) / 2:Nat):Int):=rfl;clear hs;go_enter Tryz.func91,Tryz.ntmps91;go_wp2_with fail;refine (V7 db n w).mono ?_;rintro e w1 ⟨rfl,hb1⟩;have ag:=JY hb1;clear hb1;go_wp2_with fail;go_ret;exact ⟨rfl,ag.out⟩
theorem WH(sb db n a b c half:Nat) (h:S) (hn:1<=n) (dF:n<=1000000) (hh:half<=1) (w:World) (hs:KA sb db n a b c h w) :
 Calls Tryz.prog 144 #[.pointer (some ⟨sb,0,none⟩), .int .i64 half] w fun e w'=>e = .returned (.int .i64 (1+half*((n-1) / 2):Nat))/\Below w.heap.size w w':=by
 have HS:=JY hs;clear hs;go_enter Tryz.func144,Tryz.ntmps144;go_wp2_with fail;refine (YA sb db n a b c h hn dF w HS.out).mono ?_;rintro e w1 ⟨rfl,hb1⟩;have ag:=JY hb1;obtain ⟨q,hq⟩:∃ q,(n-1) / 2=q:=⟨_,rfl⟩
 have hq2:q<=1000000:=by omega
 rw[hq];have HQ:=JY hq;clear hb1 hq;rcases (show half=0\/half=1 by omega) with rfl | rfl
 · go_wp2_with fail;go_ret;exact ⟨by rw[HQ.out];simp,ag.out⟩
 · go_wp2_with fail;go_ret;exact ⟨by rw[HQ.out];simp,ag.out⟩
theorem Z5(a b c:Nat) (h:S) (ha:a<=4000000000) (hb:b<=4000000000) (hc:c<=4000000000) (hh:h.length<=100):(Nb a b c h).length<=256:=by
 have la:=Lib.itoa_length_le a (by omega) (by omega);have lb:=Lib.itoa_length_le b (by omega) (by omega);have lc:=Lib.itoa_length_le c (by omega) (by omega);simp[Nb];omega
theorem Sz(x:S):(short KH x).length<=100:=by rw[short,R3];decide
theorem Rb(h:u<10):Lib.decDigits u=[UInt8.ofNat (48+u)]:=by rw[Lib.decDigits,dif_pos h]
theorem Tc(h : ¬ u<10):Lib.decDigits u=Lib.decDigits (u / 10)++[UInt8.ofNat (48+u%10)]:=by rw[Lib.decDigits,dif_neg h]
theorem XJ(d:Nat) (h:d<10):(UInt8.ofNat (48+d)).toNat=48+d:=by simp;omega
theorem XK:∀ (u:Nat),∀ c∈Lib.decDigits u,48<=c.toNat/\c.toNat<=57:=by
 intro u
 induction u using Nat.strongRecOn with
 | _ u ih =>
   intro c hc;by_cases h:u<10
   · rw[Rb h,DQ] at hc;subst hc;rw[XJ u h];omega
   · rw[Tc h] at hc;rcases List.mem_append.1 hc with hc | hc
     · exact ih (u / 10) (by omega) c hc
     · rw[DQ] at hc;subst hc;rw[XJ _ (Nat.mod_lt _ (by decide))];omega
theorem Uu(b:UInt8) (d:Nat) (hd:Lib.digitVal b=some d):∀ (l:S) (acc:Nat) (m:Nat),Lib.decFrom acc l=some m->Lib.decFrom acc (l++[b])=some (m*10+d)
 | [],acc,m,h=>by
   simp only[Lib.decFrom,Option.some.injEq] at h;subst h;simp[Lib.decFrom,hd]
 | a::r,acc,m,h=>by
   rw[List.cons_append,Lib.decFrom];rw[Lib.decFrom] at h;cases hv:Lib.digitVal a with
   | none=>rw[hv] at h;cases h
   | some e =>
     rw[hv] at h;exact Uu b d hd r _ m h
theorem V8(d:Nat) (h:d<10):Lib.digitVal (UInt8.ofNat (48+d))=some d:=by
 unfold Lib.digitVal;rw[XJ d h,By (by omega)];simp
theorem XH:∀ u:Nat,Lib.decFrom 0 (Lib.decDigits u)=some u:=by
 intro u
 induction u using Nat.strongRecOn with
 | _ u ih =>
   by_cases h:u<10
   · rw[Rb h,Lib.decFrom,V8 u h];simp[Lib.decFrom]
   · rw[Tc h,Uu _ _ (V8 _ (Nat.mod_lt _ (by decide))) _ _ _ (ih (u / 10) (by omega))]
     congr 1;omega
theorem agn(u:Nat):Lib.decDigits u≠[]:=fun e=>by
 have:=Lib.nDigits_pos u;rw[<- Lib.decDigits_length,e] at this;simp at this
theorem X5(u:Nat):Lib.itoa (u:Int)=Lib.decDigits u:=by
 unfold Lib.itoa;rw[Bm (by omega)];simp
theorem aga(u:Nat):Lib.atoi (Lib.itoa (u:Int))=some (u:Int):=by
 rw[X5];cases h:Lib.decDigits u with
 | nil=>exact absurd h (agn u)
 | cons b r =>
   have hb:=XK u b (by rw[h];simp);have h1:(b==45)=false:=by simp only[beq_eq_false_iff_ne,ne_eq];intro e;subst e;simp at hb
   have h2:(b==43)=false:=by simp only[beq_eq_false_iff_ne,ne_eq];intro e;subst e;simp at hb
   rw[Lib.atoi,h1,h2];simp only[Bool.false_eq_true,if_false,Lib.decNat,List.isEmpty_cons];rw[<- h,XH];rfl
theorem Ow(u:Nat) (c:UInt8) (hc:c∈Lib.itoa (u:Int)):c≠32/\c≠10/\c≠0:=by
 rw[X5] at hc;have:=XK u c hc;refine ⟨?_,?_,?_⟩<;>intro e<;>subst e<;>simp at this
theorem Yd:∀ (k u:Nat),0<k->u<10^k->Lib.nDigits u<=k
 | 0,_,h,_=>by omega
 | k+1,u,_,h=>by
   by_cases hu:u<10
   · rw[Lib.nDigits_small hu];omega
   · rw[Lib.nDigits_big hu];rw[Nat.pow_succ] at h;have hk:0<k:=by
      cases k with
      | zero=>simp at h;omega
      | succ=>omega
     have:=Yd k (u / 10) hk (by omega);omega
theorem aed(u:Nat) (h:u<=4000000000):(Lib.itoa (u:Int)).length<=10:=by
 rw[X5,Lib.decDigits_length];exact Yd 10 u (by decide) (by omega)
def WB (a b c:Nat) (h:S):S:=Lib.itoa a++([32]++(Lib.itoa b++([32]++(Lib.itoa c++([32]++h)))))
def Qm:S:=[104,97,118,101,110,32,115,116,111,114,101,32,49,10]
theorem UY(a b c:Nat) (h:S):Nb a b c h=Qm++WB a b c h++[10]:=rfl
theorem akV(a b c:Nat) (h:S) (hh:∀ x∈h,x≠32):sp 32 (WB a b c h)=[Lib.itoa a,Lib.itoa b,Lib.itoa c,h]:=by
 unfold WB;rw[show Lib.itoa a++([32]++(Lib.itoa b++([32]++(Lib.itoa c++([32]++h)))))=Lib.itoa a++32::(Lib.itoa b++32::(Lib.itoa c++32::h)) by simp];rw[QY 32 _ _ (fun x hx=>(Ow a x hx).1),QY 32 _ _ (fun x hx=>(Ow b x hx).1),QY 32 _ _ (fun x hx=>(Ow c x hx).1),SA 32 h hh]
theorem Vf(k:Nat) (r:S) (b:UInt8) (hb:b≠0):(List.replicate k (0:UInt8)++b::r).dropWhile (· == 0)=b::r:=by
 induction k with
 | zero=>simp[hb]
 | succ k ih=>rw[List.replicate_succ,List.cons_append,List.dropWhile_cons_of_pos (by simp)];exact ih
theorem aju(x:S) (b:UInt8) (hb:b≠0) (k:Nat):Lib.trimRightB (x++[b]++List.replicate k 0) 0=x++[b]:=by
 unfold Lib.trimRightB;rw[List.reverse_append,List.reverse_replicate,List.reverse_append,List.reverse_singleton,List.singleton_append,Vf k _ b hb];simp
theorem ahq(a b c:Nat) (h:S):Lib.trimRightB (MK (Nb a b c h)) 0=Nb a b c h:=by
 unfold MK;rw[UY];exact aju _ 10 (by decide) _
theorem Wx(a b c:Nat) (h:S):Lib.hasPrefix (Nb a b c h) Qm=true/\Lib.trimPrefix (Nb a b c h) Qm=WB a b c h++[10]:=by
 have h1:Lib.hasPrefix (Nb a b c h) Qm=true:=by
  rw[UY,FF];unfold Lib.hasPrefix;rw[List.isPrefixOf_iff_prefix];exact List.prefix_append _ _
 refine ⟨h1,?_⟩;unfold Lib.trimPrefix;rw[By h1,UY,FF,List.drop_left'];rfl
theorem adi(x:S):Lib.trimSuffix (x++[10]) [10]=x:=by
 have h1:Lib.hasSuffix (x++[10]) [10]=true:=by
  unfold Lib.hasSuffix;rw[List.isSuffixOf_iff_suffix];exact List.suffix_append _ _
 unfold Lib.trimSuffix;rw[By h1];simp
theorem akn(n:Int):aa0 n≠32:=by
 unfold aa0;intro e;have h:∀ k:Nat,akm.getD k 48≠32:=fun k=>by
  by_cases hk:k<16
  · have:∀ k:Fin 16,akm.getD k.val 48≠32:=by decide
    exact this ⟨k,hk⟩
  · rw[B7,List.getElem?_eq_none (by simp[akm];omega)];decide
 exact h _ e
theorem Tj(r:R8):∀ k,∀ c∈MU r k,c≠32
 | 0,c,hc=>by cases hc
 | k+1,c,hc=>by
   rw[MU] at hc;rcases List.mem_append.1 hc with hc | hc
   · exact Tj r k c hc
   · simp only[List.mem_cons,List.not_mem_nil,or_false] at hc;rcases hc with rfl | rfl<;>exact akn _
theorem ac9(x:S):∀ c∈short KH x,c≠32:=Tj _ _
theorem aao(x:S) (hx:x.length<=1000000) (w:World):Calls Tryz.prog 155 #[.string ⟨x.toArray⟩, .string ⟨#[0]⟩] w fun e w'=>e = .returned (.string ⟨(Lib.trimRightB x 0).toArray⟩)/\w'=w :=
 Tryz.strings_TrimRight_one ⟨x.toArray⟩ 0 (by decide) w (by show x.length<=_;omega)
theorem aap(x:S) (hx:x.length<=1000000) (w:World):Calls Tryz.prog 158 #[.string ⟨x.toArray⟩, .string ⟨#[10]⟩] w fun e w'=>e = .returned (.string ⟨(Lib.trimSuffix x [10]).toArray⟩)/\w'=w :=
 Tryz.strings_TrimSuffix ⟨x.toArray⟩ ⟨#[10]⟩ w (by show x.length<=_;omega)
theorem abZ(x:S) (w:World):Calls Tryz.prog 156 #[.string ⟨x.toArray⟩, .string ⟨Qm.toArray⟩] w fun e w'=>e = .returned (.tuple #[.string ⟨(Lib.trimPrefix x Qm).toArray⟩, .bool (Lib.hasPrefix x Qm)])/\w'=w :=
 Tryz.strings_CutPrefix ⟨x.toArray⟩ ⟨Qm.toArray⟩ w
theorem R5(x:S) (hx:x.length<=1000000) (w:World) (hb:Base w):Calls Tryz.prog 157 #[.string ⟨x.toArray⟩, .string ⟨#[32]⟩] w fun e w'=>e = .returned (.slice (some ⟨w.heap.size,0,none⟩) (sp 32 x).length (sp 32 x).length)/\w'=w.alloc (.cells ((sp 32 x).map fun y=>Value.string ⟨y.toArray⟩).toArray 9):=by
 obtain ⟨m,hm⟩:=hb.mx;refine (Tryz.strings_Split ⟨x.toArray⟩ ⟨#[32]⟩ m w (by show x.length<_;omega) hm (by decide)).mono ?_;rintro e w' ⟨rfl,rfl⟩;rw[Zz,VK,Hb];exact ⟨rfl,rfl⟩
theorem Pt(u:Nat) (hu:u<=4000000000) (w:World):Calls Tryz.prog 159 #[.string ⟨(Lib.itoa (u:Int)).toArray⟩] w fun e w'=>e = .returned (.tuple #[.int .i64 u, .nilIface])/\Below w.heap.size w w':=by
 refine (Tryz.strconv_Atoi ⟨(Lib.itoa (u:Int)).toArray⟩ u (by show (Lib.itoa (u:Int)).length<=_;have:=aed u hu;omega) (aga u) w).mono ?_;rintro e w' ⟨rfl,t,rfl⟩;exact ⟨rfl,below_bytesWorld _ _ _⟩
theorem aaK(w:World) (hb:Base w):Calls Tryz.prog 90 #[.string ⟨(List.replicate 256 (0:UInt8)).toArray⟩] w fun e w'=>e = .returned (.tuple #[.agg (M0 0 0 0 []), .bool false])/\Below w.heap.size w w':=by
 have HB:=JY hb;clear hb;have e1:Lib.trimRightB (List.replicate 256 (0:UInt8)) 0=[]:=by
  unfold Lib.trimRightB;simp
 have e2:Lib.trimPrefix [] Qm=[]:=by decide
 have e3:Lib.hasPrefix [] Qm=false:=by decide
 have e4:Lib.trimSuffix [] [10]=[]:=by decide
 obtain ⟨Z,hZ⟩:∃ Z,List.replicate 256 (0:UInt8)=Z:=⟨_,rfl⟩
 have hzl:Z.length<=1000000:=by rw[<- hZ];simp
 rw[hZ] at e1 |-;clear hZ;have T1:=JY (fun w=>(aao Z hzl w));rw[e1] at T1;have T2:=JY (fun w=>(abZ [] w));rw[e2,e3] at T2;have T3:=JY (fun w=>(aap [] (by simp) w));rw[e4] at T3;go_enter Tryz.func90,Tryz.ntmps90;go_wp2_with fail;have hrow:=AF w (.cells #[.int .i64 0, .int .i64 0, .int .i64 0, .string ⟨#[]⟩] 159);refine (T1.out _).mono ?_;rintro e w1 ⟨rfl,rfl⟩;go_wp2_with fail;refine (T2.out _).mono ?_;rintro e w1 ⟨rfl,rfl⟩;go_wp2_with fail;refine (T3.out _).mono ?_;rintro e w1 ⟨rfl,rfl⟩;go_wp2_with fail;refine (R5 [] (by simp) _ (HB.out.alloc _)).mono ?_;rintro e w1 ⟨rfl,rfl⟩;go_wp2_with fail;have hR:=(AM (w.alloc (.cells #[.int .i64 0, .int .i64 0, .int .i64 0, .string ⟨#[]⟩] 159)) (.cells ((sp 32 []).map fun y=>Value.string ⟨y.toArray⟩).toArray 9) w.heap.size (by simp)).trans hrow;have q0:=(JZ hR 0).trans (show _=some (.int .i64 0) from rfl);have q1:=(JZ hR 1).trans (show _=some (.int .i64 0) from rfl);have q2:=(JZ hR 2).trans (show _=some (.int .i64 0) from rfl);have q3:=(JZ hR 3).trans (show _=some (.string ⟨#[]⟩) from rfl);exact IH (v := .tuple #[.agg #[.int .i64 0, .int .i64 0, .int .i64 0, .string ⟨#[]⟩], .bool false]) (by simp[results,Tryz.results90,go_sem,q0,q1,q2,q3]) rfl
  ⟨rfl,((AD w.heap.size w).alloc (AC _) _).alloc (by simp) _⟩
structure Qp (B a b c:Nat) (h xa xb xc:S) (k:Nat) (w wr:World):Prop where
 res:wr.heap[B]? = some (.cells #[.int .i64 0, .int .i64 0, .int .i64 0, .string ⟨#[]⟩] 159 (0,0))
 strs:wr.heap[B+1]? = some (.cells #[.string ⟨xa.toArray⟩, .string ⟨xb.toArray⟩, .string ⟨xc.toArray⟩, .string ⟨h.toArray⟩] 9 (0,0))
 root:wr.heap[B+2]? = some (.cells #[.int .i64 (if 0<k then a else 0:Nat), .int .i64 (if 1<k then b else 0:Nat), .int .i64 (if 2<k then c else 0:Nat), .string ⟨h.toArray⟩] 159 (0,0))
 ptr:wr.heap[B+3]? = some (.cells #[.pointer (some ⟨B+2,0,none⟩), .pointer (some ⟨B+2,1,none⟩), .pointer (some ⟨B+2,2,none⟩)] 253 (0,0))
 K7:Below B w wr
 base:Base wr
theorem Qp.below{w4:World} (d:Qp B a b c h xa xb xc k w wr) (hb:Below wr.heap.size wr w4):Qp B a b c h xa xb xc k w w4 :=
 have l:=blt d.ptr
 ⟨(hb.block _ (by omega)).trans d.res,(hb.block _ (by omega)).trans d.strs,(hb.block _ (by omega)).trans d.root,(hb.block _ (by omega)).trans d.ptr,d.K7.trans (hb.mono (by omega)),d.base.below hb d.base.size⟩
theorem Qp.put{k' i:Nat} {v:Value}  (d:Qp B a b c h xa xb xc k w wr) (hB:12<=B)
 (he:(#[.int .i64 (if 0<k then a else 0:Nat), .int .i64 (if 1<k then b else 0:Nat), .int .i64 (if 2<k then c else 0:Nat), .string ⟨h.toArray⟩]:Array Value).setIfInBounds i v = #[.int .i64 (if 0<k' then a else 0:Nat), .int .i64 (if 1<k' then b else 0:Nat), .int .i64 (if 2<k' then c else 0:Nat), .string ⟨h.toArray⟩]):Qp B a b c h xa xb xc k' w (wr.setCell ⟨B+2,i,none⟩ v):=by
 refine ⟨(BY _ _ _ _ (by show B≠B+2;omega)).trans d.res,(BY _ _ _ _ (by show B+1≠B+2;omega)).trans d.strs,?_,(BY _ _ _ _ (by show B+3≠B+2;omega)).trans d.ptr,d.K7.setCell (by show B<=B+2;omega) _,d.base.below ((AD (B+2) wr).setCell (AC _) _) (by omega)⟩;rw[<- he];exact AI _ (B+2) i _ _ v d.root
theorem Qp.cells(d:Qp B a b c h xa xb xc k w wr):(wr.cell? ⟨B+1,0,none⟩=some (.string ⟨xa.toArray⟩)/\wr.cell? ⟨B+1,1,none⟩=some (.string ⟨xb.toArray⟩)/\wr.cell? ⟨B+1,2,none⟩=some (.string ⟨xc.toArray⟩)) /\
 wr.cell? ⟨B+2,0,none⟩=some (.int .i64 (if 0<k then a else 0:Nat))/\wr.cell? ⟨B+2,1,none⟩=some (.int .i64 (if 1<k then b else 0:Nat))/\wr.cell? ⟨B+2,2,none⟩=some (.int .i64 (if 2<k then c else 0:Nat))/\wr.cell? ⟨B+2,3,none⟩=some (.string ⟨h.toArray⟩) :=
 ⟨⟨(JZ d.strs 0).trans rfl,(JZ d.strs 1).trans rfl,(JZ d.strs 2).trans rfl⟩,(JZ d.root 0).trans rfl,(JZ d.root 1).trans rfl,(JZ d.root 2).trans rfl,(JZ d.root 3).trans rfl⟩
theorem Qp.ptrs(d:Qp B a b c h xa xb xc k w wr):wr.cell? ⟨B+3,0,none⟩=some (.pointer (some ⟨B+2,0,none⟩))/\wr.cell? ⟨B+3,1,none⟩=some (.pointer (some ⟨B+2,1,none⟩))/\wr.cell? ⟨B+3,2,none⟩=some (.pointer (some ⟨B+2,2,none⟩)) :=
 ⟨(JZ d.ptr 0).trans rfl,(JZ d.ptr 1).trans rfl,(JZ d.ptr 2).trans rfl⟩
theorem ab0(a b c:Nat) (h:S) (ha:a<=1) (hb:b<=1000000) (hc:c<=1000000) (hh:h.length<=100) (EO:∀ x∈h,x≠32) (w:World) (hbs:Base w) :
 Calls Tryz.prog 90 #[.string ⟨(MK (Nb a b c h)).toArray⟩] w fun e w'=>e = .returned (.tuple #[.agg (M0 a b c h), .bool true])/\Below w.heap.size w w':=by
 have HB:=JY hbs;have cW:=hbs.size;clear hbs;have hrl:=Z5 a b c h (by omega) (by omega) (by omega) hh;have hpl:(MK (Nb a b c h)).length<=1000000:=by unfold MK;rw[AS,List.length_replicate];omega
 have T1:=JY (fun w=>(aao (MK (Nb a b c h)) hpl w));rw[ahq] at T1;have T2:=JY (fun w=>(abZ (Nb a b c h) w));rw[(Wx a b c h).1,(Wx a b c h).2] at T2;have hbl:(WB a b c h++[10]).length<=1000000:=by
  have:=hrl;rw[UY,FF,AS] at this;omega
 have T3:=JY (fun w=>(aap (WB a b c h++[10]) hbl w));rw[adi] at T3;have T4:=JY (fun w hw=>(R5 (WB a b c h) (by rw[AS] at hbl;omega) w hw));rw[akV a b c h EO] at T4;have HE:=JY (fun w hw=>XL a b c h (by omega) (by omega) (by omega) hh w hw);obtain ⟨R,hR⟩:∃ R,Nb a b c h=R:=⟨_,rfl⟩
 rw[hR] at T1 T2 HE;obtain ⟨P,hP⟩:∃ P,MK R=P:=⟨_,rfl⟩
 rw[hR,hP];rw[hP] at T1;obtain ⟨L,hL⟩:∃ L,WB a b c h=L:=⟨_,rfl⟩
 rw[hL] at T2 T3 T4;obtain ⟨xa,CE⟩:∃ x,Lib.itoa (a:Int)=x:=⟨_,rfl⟩
 obtain ⟨xb,CF⟩:∃ x,Lib.itoa (b:Int)=x:=⟨_,rfl⟩
 obtain ⟨xc,CG⟩:∃ x,Lib.itoa (c:Int)=x:=⟨_,rfl⟩
 have A1:=JY (fun w=>Pt a (by omega) w);have A2:=JY (fun w=>Pt b (by omega) w);have A3:=JY (fun w=>Pt c (by omega) w);rw[CE,CF,CG] at T4;rw[CE] at A1;rw[CF] at A2;rw[CG] at A3;clear hR hP hL CE CF CG hrl hpl hbl EO;go_enter Tryz.func90,Tryz.ntmps90;go_wp2_with fail;have hrow:=AF w (.cells #[.int .i64 0, .int .i64 0, .int .i64 0, .string ⟨#[]⟩] 159);refine (T1.out _).mono ?_;rintro e w1 ⟨rfl,rfl⟩;go_wp2_with fail;refine (T2.out _).mono ?_;rintro e w1 ⟨rfl,rfl⟩;go_wp2_with fail;refine (T3.out _).mono ?_;rintro e w1 ⟨rfl,rfl⟩;go_wp2_with fail;refine (T4.out _ (HB.out.alloc _)).mono ?_;rintro e w1 ⟨rfl,rfl⟩;have hS:=AF (w.alloc (.cells #[.int .i64 0, .int .i64 0, .int .i64 0, .string ⟨#[]⟩] 159)) (.cells (([xa,xb,xc,h]:List S).map fun y=>Value.string ⟨y.toArray⟩).toArray 9);have hR:=(AM (w.alloc (.cells #[.int .i64 0, .int .i64 0, .int .i64 0, .string ⟨#[]⟩] 159)) (.cells (([xa,xb,xc,h]:List S).map fun y=>Value.string ⟨y.toArray⟩).toArray 9) w.heap.size (by simp)).trans hrow;have aO:=JY (((AD w.heap.size w).alloc (AC _) (.cells #[.int .i64 0, .int .i64 0, .int .i64 0, .string ⟨#[]⟩] 159)).alloc (by simp) (.cells (([xa,xb,xc,h]:List S).map fun y=>Value.string ⟨y.toArray⟩).toArray 9));have aI:=JY ((HB.out.alloc (.cells #[.int .i64 0, .int .i64 0, .int .i64 0, .string ⟨#[]⟩] 159)).alloc (.cells (([xa,xb,xc,h]:List S).map fun y=>Value.string ⟨y.toArray⟩).toArray 9));have hsz:((w.alloc (.cells #[.int .i64 0, .int .i64 0, .int .i64 0, .string ⟨#[]⟩] 159)).alloc (.cells (([xa,xb,xc,h]:List S).map fun y=>Value.string ⟨y.toArray⟩).toArray 9)).heap.size=w.heap.size+2:=by simp
 obtain ⟨u,hu⟩:∃ u,(w.alloc (.cells #[.int .i64 0, .int .i64 0, .int .i64 0, .string ⟨#[]⟩] 159)).alloc (.cells (([xa,xb,xc,h]:List S).map fun y=>Value.string ⟨y.toArray⟩).toArray 9)=u:=⟨_,rfl⟩
 rw[hu] at hS hR aO aI hsz |-;have sB:u.heap[w.heap.size+1]? = some (.cells #[.string ⟨xa.toArray⟩, .string ⟨xb.toArray⟩, .string ⟨xc.toArray⟩, .string ⟨h.toArray⟩] 9 (0,0)):=by simpa using hS
 have p0:=(JZ sB 0).trans (show _=some (.string ⟨xa.toArray⟩) from rfl);have p1:=(JZ sB 1).trans (show _=some (.string ⟨xb.toArray⟩) from rfl);have p2:=(JZ sB 2).trans (show _=some (.string ⟨xc.toArray⟩) from rfl);have p3:=(JZ sB 3).trans (show _=some (.string ⟨h.toArray⟩) from rfl);have HS:=JY sB;have HR:=JY hR;clear hrow hS sB hR hu T1 T2 T3 T4 HB;go_wp2_with fail;have iq:Hid (Qp w.heap.size a b c h xa xb xc 0 w ((u.alloc (.cells #[.int .i64 0, .int .i64 0, .int .i64 0, .string ⟨h.toArray⟩] 159)).alloc (.cells #[.pointer (some ⟨w.heap.size+2,0,none⟩), .pointer (some ⟨w.heap.size+2,1,none⟩), .pointer (some ⟨w.heap.size+2,2,none⟩)] 253))):=JY (by
  refine ⟨(AM _ _ _ (by simp;omega)).trans ((AM _ _ _ (by omega)).trans HR.out),(AM _ _ _ (by simp;omega)).trans ((AM _ _ _ (by omega)).trans HS.out),(AM _ _ _ (by simp;omega)).trans ?_,?_,(aO.out.alloc (by omega) _).alloc (by simp;omega) _,(aI.out.alloc _).alloc _⟩
  · rw[<- hsz];exact AF u _
  · have:=AF (u.alloc (.cells #[.int .i64 0, .int .i64 0, .int .i64 0, .string ⟨h.toArray⟩] 159)) (.cells #[.pointer (some ⟨w.heap.size+2,0,none⟩), .pointer (some ⟨w.heap.size+2,1,none⟩), .pointer (some ⟨w.heap.size+2,2,none⟩)] 253);rw[show w.heap.size+3=(u.alloc (.cells #[.int .i64 0, .int .i64 0, .int .i64 0, .string ⟨h.toArray⟩] 159)).heap.size by simp;omega];exact this)
 obtain ⟨B,hB⟩:∃ B,w.heap.size=B:=⟨_,rfl⟩
 have ig:12<=B:=by omega
 rw[hB] at iq |-;clear HR HS aO aI p0 p1 p2 p3 hsz;go_loopw [40] (fun i wr=>∃ k:Nat,k<=3/\i = .int .i64 (k:Int)/\Hid (Qp B a b c h xa xb xc k w wr)) (fun i _=>3-(intOf i).toNat)
 case atStart=>exact ⟨0,by omega,rfl,iq⟩
 case round =>
  clear iq;obtain ⟨k,hk,rfl,HD⟩:=hrel;obtain ⟨⟨g0,g1,g2⟩,⟨v0,v1,v2,v3⟩⟩:=HD.out.cells;obtain ⟨x0,x1,x2⟩:=HD.out.ptrs;rcases (show k=0\/k=1\/k=2\/k=3 by omega) with rfl | rfl | rfl | rfl
  · go_wp2_with fail;refine (A1.out _).mono ?_;rintro e w4 ⟨rfl,hb4⟩;have fN:=JY (HD.out.below hb4);clear hb4;have z0:=fN.out.cells.2.1;have f0:=J2 fN.out.root 0;go_wp2_with fail;exact ⟨⟨1,by omega,rfl,JY (fN.out.put (k':=1) ig rfl)⟩,by simp[intOf]⟩
  · go_wp2_with fail;refine (A2.out _).mono ?_;rintro e w4 ⟨rfl,hb4⟩;have fN:=JY (HD.out.below hb4);clear hb4;have z0:=fN.out.cells.2.2.1;have f0:=J2 fN.out.root 1;go_wp2_with fail;exact ⟨⟨2,by omega,rfl,JY (fN.out.put (k':=2) ig rfl)⟩,by simp[intOf]⟩
  · go_wp2_with fail;refine (A3.out _).mono ?_;rintro e w4 ⟨rfl,hb4⟩;have fN:=JY (HD.out.below hb4);clear hb4;have z0:=fN.out.cells.2.2.2.1;have f0:=J2 fN.out.root 2;go_wp2_with fail;exact ⟨⟨3,by omega,rfl,JY (fN.out.put (k':=3) ig rfl)⟩,by simp[intOf]⟩
  · have y0:wr.cell? ⟨B+2,0,none⟩=some (.int .i64 a):=v0;have y1:wr.cell? ⟨B+2,1,none⟩=some (.int .i64 b):=v1;have y2:wr.cell? ⟨B+2,2,none⟩=some (.int .i64 c):=v2;have r0:=(JZ HD.out.res 0).trans (show _=some (.int .i64 0) from rfl);have r1:=(JZ HD.out.res 1).trans (show _=some (.int .i64 0) from rfl);have r2:=(JZ HD.out.res 2).trans (show _=some (.int .i64 0) from rfl);have r3:=(JZ HD.out.res 3).trans (show _=some (.string ⟨#[]⟩) from rfl);have b2:(a:Int)<2:=by omega
    have b3:decide ((a:Int)<2)=true:=decide_eq_true b2;have qR:(R==R)=true:=by simp
    have hl:=blt HD.out.ptr;clear v0 v1 v2 x0 x1 x2 g0 g1 g2;go_wp2_with fail
    go_region_held3 (fun w'=>w'.cell? ⟨B+2,0,none⟩=some (.int .i64 a)/\w'.cell? ⟨B+2,1,none⟩=some (.int .i64 b)/\w'.cell? ⟨B+2,2,none⟩=some (.int .i64 c)/\w'.cell? ⟨B+2,3,none⟩=some (.string ⟨h.toArray⟩))
     (first | assumption | exact ⟨y0,y1,y2,v3⟩ | exact ⟨z0,z1,z2,z3⟩ | simp[go_sem, *])
     (first
      | (go_at_call 147;refine (HE.out _ HD.out.base.drew).mono ?_;rintro e w5 ⟨rfl,aG⟩;have iO:=JY ((show Qp B a b c h xa xb xc 3 w wr.drew from ⟨HD.out.res,HD.out.strs,HD.out.root,HD.out.ptr,HD.out.K7.drew,HD.out.base.drew⟩).below aG);have z0:w5.cell? ⟨B+2,0,none⟩=some (.int .i64 a):=iO.out.cells.2.1;have z1:w5.cell? ⟨B+2,1,none⟩=some (.int .i64 b):=iO.out.cells.2.2.1;have z2:w5.cell? ⟨B+2,2,none⟩=some (.int .i64 c):=iO.out.cells.2.2.2.1;have z3:=iO.out.cells.2.2.2.2;have f0:=J2 iO.out.res 0;have f1:=J2 iO.out.res 1;have f2:=J2 iO.out.res 2;have f3:=J2 iO.out.res 3;have s0:=(JZ iO.out.res 0).trans (show _=some (.int .i64 0) from rfl);have s1:=(JZ iO.out.res 1).trans (show _=some (.int .i64 0) from rfl);have s2:=(JZ iO.out.res 2).trans (show _=some (.int .i64 0) from rfl);have s3:=(JZ iO.out.res 3).trans (show _=some (.string ⟨#[]⟩) from rfl);clear aG))
    have fh:=AI _ B 3 _ _ (.string ⟨h.toArray⟩) (AI _ B 2 _ _ (.int .i64 c) (AI _ B 1 _ _ (.int .i64 b) (AI _ B 0 _ _ (.int .i64 a) iO.out.res)));have n0:=(JZ fh 0).trans (show _=some (.int .i64 a) from rfl);have n1:=(JZ fh 1).trans (show _=some (.int .i64 b) from rfl);have n2:=(JZ fh 2).trans (show _=some (.int .i64 c) from rfl);have n3:=(JZ fh 3).trans (show _=some (.string ⟨h.toArray⟩) from rfl);clear fh y0 y1 y2 v3 z0 z1 z2 z3 f0 f1 f2 f3 s0 s1 s2 s3;go_wp2_with fail;refine IH (v := .tuple #[.agg #[.int .i64 a, .int .i64 b, .int .i64 c, .string ⟨h.toArray⟩], .bool true]) (by simp[results,Tryz.results90,go_sem,n0,n1,n2,n3]) rfl ⟨rfl,?_⟩;rw[hB];exact (((iO.out.K7.setCell (AC _) _).setCell (AC _) _).setCell (AC _) _).setCell (AC _) _
theorem adG(w:World):Calls Tryz.prog 29 #[.nilIface] w fun e w'=>e = .returned (.int .i64 0)/\Below w.heap.size w w':=by
 go_enter Tryz.func29,Tryz.ntmps29;go_wp2_with fail;go_ret;exact ⟨rfl,(AD _ _).alloc (AC _) _⟩
end
section
open Go.RowKit Go.Extern.Stop Go.Stop Go.Extern
theorem X0(v:Value) (w:World):(Extern.ReflectliteType.typeOf #[.iface 398 v]).run Tryz.prog w = .ok (.iface 263 (.agg #[.pointer (some ⟨12,398,none⟩)])) w:=by kernel_rfl
theorem PL(w:World):(callFunc 358 #[.agg #[.pointer (some ⟨12,398,none⟩)]]).run Tryz.prog w = .ok (.value (.bool true)) w :=
 (@run_callFunc_extern Tryz.prog 358 _ (Extern.ReflectliteType.method fun t=>do Extern.Rtype.noPackHeld "Comparable" t;pure (.bool (<- typeInfo t).comparable)) Tryz.func358 (by kernel_rfl) (by kernel_rfl) (by kernel_rfl) (by kernel_rfl) _ w).trans (by kernel_rfl)
theorem NR(v:Value) (w:World):(Go.method 539 263 v "Comparable").run Tryz.prog w = .ok (358,v) w:=by kernel_rfl
theorem ad9:(Tryz.prog.info? 398).map (·.comparable)=some true:=by kernel_rfl
theorem aea:(Tryz.prog.info? 400).map (·.size)=some 1:=by kernel_rfl
theorem aiU(v:Value) (xT:TypeId) (w:World):(Instr.typeAssert (.iface 398 v) xT 265 true).run Tryz.prog w = .ok (.tuple #[.nilIface, .bool false]) w:=run_typeAssert_lacksB Tryz.underlying265 (by kernel_rfl) (by kernel_rfl) v xT w
theorem Vx(v:Value) (xT:TypeId) (w:World):(Instr.typeAssert (.iface 398 v) xT 268 true).run Tryz.prog w = .ok (.tuple #[.nilIface, .bool false]) w:=run_typeAssert_lacksB Tryz.underlying268 (by kernel_rfl) (by kernel_rfl) v xT w
theorem TP(v:Value) (xT:TypeId) (w:World):(Instr.typeAssert (.iface 398 v) xT 269 true).run Tryz.prog w = .ok (.tuple #[.nilIface, .bool false]) w:=run_typeAssert_lacksB Tryz.underlying269 (by kernel_rfl) (by kernel_rfl) v xT w
theorem aiV(v:Value) (xT:TypeId) (w:World):(Instr.typeAssert (.iface 183 v) xT 265 true).run Tryz.prog w = .ok (.tuple #[.nilIface, .bool false]) w:=run_typeAssert_lacksB Tryz.underlying265 (by kernel_rfl) (by kernel_rfl) v xT w
theorem QN(v:Value) (xT:TypeId) (w:World):(Instr.typeAssert (.iface 183 v) xT 268 true).run Tryz.prog w = .ok (.tuple #[.iface 183 v, .bool true]) w:=run_typeAssert_hasB Tryz.underlying268 (by kernel_rfl) v xT w
theorem Po(v:Value) (w:World):(Go.method 539 183 v "Unwrap").run Tryz.prog w = .ok (352,v) w:=by kernel_rfl
theorem aa2(pb:Nat) (b:Addr) (w:World) (h1:w.cell? ⟨pb,1,none⟩=some (.iface 398 (.pointer (some b)))) :
 Calls Tryz.prog 49 #[.iface 183 (.pointer (some ⟨pb,0,none⟩)), .iface 398 (.pointer (some b))] w fun e w'=>e = .returned (.bool true)/\w'=w:=by
 obtain ⟨i,hi,hcmp⟩:=Option.map_eq_some_iff.1 ad9;obtain ⟨j,hj,hjs⟩:=Option.map_eq_some_iff.1 aea;have h8 := @run_callFunc_extern Tryz.prog 97 _ Extern.ReflectliteType.typeOf Tryz.func97 (by kernel_rfl) (by kernel_rfl) (by kernel_rfl) (by kernel_rfl);have DC:=PL;have tT:=X0;have mR:=NR;have nE:=aiU;have uE:=Vx;have vE:=TP;have nW:=aiV;have uW:=QN;have mU:=Po;have heq:=run_eql_iface_ptr_same (P:=Tryz.prog) w b Tryz.underlying74 Tryz.underlying398 hi hcmp hj;have hty:=run_eql_iface_types (P:=Tryz.prog) 183 398 (.pointer (some ⟨pb,0,none⟩)) (.pointer (some b)) Tryz.underlying74 (by decide) w;go_enter Tryz.func49,Tryz.ntmps49
 go_wp2
 refine wp_loop_rounds 2 ?_;rw[rounds_succ]
 go_wp2
 rw[rounds_succ]
 go_wp2
 go_ret;exact ⟨rfl,rfl⟩
theorem Za(pb:Nat) (b a:Addr) (ca cb:Array Value) (ta tb:TypeId) (w:World) (h1:w.cell? ⟨pb,1,none⟩=some (.iface 398 (.pointer (some a)))) (hne:a≠b) (ha:w.heap[a.block]? = some (.cells ca ta (0,0))) (hb:w.heap[b.block]? = some (.cells cb tb (0,0))) :
 Calls Tryz.prog 49 #[.iface 183 (.pointer (some ⟨pb,0,none⟩)), .iface 398 (.pointer (some b))] w fun e w'=>e = .returned (.bool false)/\w'=w:=by
 obtain ⟨i,hi,hcmp⟩:=Option.map_eq_some_iff.1 ad9;obtain ⟨j,hj,hjs⟩:=Option.map_eq_some_iff.1 aea;have h8 := @run_callFunc_extern Tryz.prog 97 _ Extern.ReflectliteType.typeOf Tryz.func97 (by kernel_rfl) (by kernel_rfl) (by kernel_rfl) (by kernel_rfl);have DC:=PL;have tT:=X0;have mR:=NR;have nE:=aiU;have uE:=Vx;have vE:=TP;have nW:=aiV;have uW:=QN;have mU:=Po;have heq:=run_eql_iface_ptr_other (P:=Tryz.prog) w Tryz.underlying74 Tryz.underlying398 hi hcmp hj (by rw[hjs];decide) hne ha hb;have hty:=run_eql_iface_types (P:=Tryz.prog) 183 398 (.pointer (some ⟨pb,0,none⟩)) (.pointer (some b)) Tryz.underlying74 (by decide) w;go_enter Tryz.func49,Tryz.ntmps49
 go_wp2
 refine wp_loop_rounds 2 ?_;rw[rounds_succ]
 go_wp2
 rw[rounds_succ]
 go_wp2
 go_ret;exact ⟨rfl,rfl⟩
end
section
open Go.RowKit
open Hv (S Dk)
def Rz (a:Addr):Value := .iface 398 (.pointer (some a))
structure Tn (a b:Addr) (w:World):Prop where
 nothing:w.cell? ⟨0,0,none⟩=some (Rz a)
 power:w.cell? ⟨1,0,none⟩=some (Rz b)
 ne:a≠b
 atA:∃ ca ta,w.heap[a.block]? = some (.cells ca ta (0,0))
 atB:∃ cb tb,w.heap[b.block]? = some (.cells cb tb (0,0))
theorem Tn.of{a b:Addr}  (h:Tn a b w) (hs:w'.heap[0]? = w.heap[0]?) (hp:w'.heap[1]? = w.heap[1]?) (ha:w'.heap[a.block]? = w.heap[a.block]?) (hb:w'.heap[b.block]? = w.heap[b.block]?):Tn a b w':=by
 obtain ⟨ca,ta,h1⟩:=h.atA;obtain ⟨cb,tb,h2⟩:=h.atB;exact ⟨(Be (a:=⟨0,0,none⟩) hs).trans h.nothing,(Be (a:=⟨1,0,none⟩) hp).trans h.power,h.ne,⟨ca,ta,ha.trans h1⟩,⟨cb,tb,hb.trans h2⟩⟩
theorem Tn.below{a b:Addr}  (h:Tn a b w) (hb:Below w.heap.size w w'):Tn a b w':=by
 obtain ⟨ca,ta,h1⟩:=h.atA;obtain ⟨cb,tb,h2⟩:=h.atB;exact h.of (hb.block _ (B5 w _ h.nothing)) (hb.block _ (B5 w _ h.power)) (hb.block _ (blt h1)) (hb.block _ (blt h2))
def anp (a b:Addr) (C:Nat->Prop):Prop:=∀ k,C k->12<=k/\k≠a.block/\k≠b.block
theorem Tn.far{a b:Addr}   (h:Tn a b w) (hf:Kj w.heap.size C w w') (hC:anp a b C):Tn a b w':=by
 obtain ⟨ca,ta,h1⟩:=h.atA;obtain ⟨cb,tb,h2⟩:=h.atB;exact h.of (hf.block _ (B5 w _ h.nothing) (fun q=>by have:=(hC _ q).1;omega)) (hf.block _ (B5 w _ h.power) (fun q=>by have:=(hC _ q).1;omega)) (hf.block _ (blt h1) (fun q=>(hC _ q).2.1 rfl)) (hf.block _ (blt h2) (fun q=>(hC _ q).2.2 rfl))
theorem ajD(s:ByteArray) (a:Addr) (w:World):Calls Tryz.prog 42 #[.string s,Rz a] w fun e w'=>e = .returned (.iface 183 (.pointer (some ⟨w.heap.size,0,none⟩)))/\w'=w.alloc (.cells #[.string s,Rz a] 185):=by
 unfold Rz;go_enter Tryz.func42,Tryz.ntmps42
 go_wp2
 go_ret;exact ⟨rfl,rfl⟩
theorem abJ(a b:Addr) (pb:Nat) (w:World) (h:Tn a b w) (h1:w.cell? ⟨pb,1,none⟩=some (Rz a)):Calls Tryz.prog 29 #[.iface 183 (.pointer (some ⟨pb,0,none⟩))] w fun e w'=>e = .returned (.int .i64 4)/\Below w.heap.size w w':=by
 have H1:=JY (h.below ((AD w.heap.size w).alloc (AC _) (.cells #[.pointer none] 126)));have hl:=B5 w _ h1;have hc1:=(((AD w.heap.size w).alloc (AC _) (.cells #[.pointer none] 126)).cell (p:=⟨pb,1,none⟩) hl).trans h1;have g0:=H1.out.nothing;have g1:=H1.out.power;obtain ⟨ca,ta,h2⟩:=H1.out.atA;obtain ⟨cb,tb,h3⟩:=H1.out.atB;have HA:=JY h2;have HB:=JY h3;have HC:=JY hc1;clear h h1 h2 h3 hc1;unfold Rz at g0 g1 HC;go_enter Tryz.func29,Tryz.ntmps29;go_wp2_with fail;refine (Za pb b a ca cb ta tb _ HC.out H1.out.ne HA.out HB.out).mono ?_;rintro e w1 ⟨rfl,rfl⟩;go_wp2_with fail;refine (aa2 pb a _ HC.out).mono ?_;rintro e w1 ⟨rfl,rfl⟩;go_wp2_with fail;go_ret;exact ⟨rfl,(AD _ _).alloc (AC _) _⟩
end
end Go.Proofs.YtfhmaiicimdldaaGreatDoor
