import Derived.Test.YtfhmaiicimdldaaGreatDoorFinJ2
set_option maxHeartbeats 1000000
namespace Go.Proofs.YtfhmaiicimdldaaGreatDoor
variable {a a1 a2 a3 b1 b2 b3 x y:List UInt8}{k:Nat}{W W' w:World}
section
open Go.RowKit
theorem O5(f:UInt8->Bool) (l:List UInt8):(J8.suf f l).length<=l.length:=(List.dropWhile_suffix _).length_le
theorem O1(f:UInt8->Bool) (l:List UInt8):(J8.pre f l).length<=l.length:=(List.takeWhile_prefix _).length_le
theorem afJ(l:List UInt8):(J8.suf J8.SS (J8.suf J8.Mq l)).length<=l.length-1:=by
 cases l with
 | nil=>simp[J8.suf]
 | cons c l =>
   cases h:J8.SS c
   · have e:J8.suf J8.Mq (c::l)=J8.suf J8.Mq l:=by simp[J8.suf,J8.Mq,h]
     rw[e];exact Bi (O5 _ _) (O5 _ _)
   · have e:J8.suf J8.Mq (c::l)=c::l:=by simp[J8.suf,J8.Mq,h]
     have e':J8.suf J8.SS (c::l)=J8.suf J8.SS l:=by simp[J8.suf,h]
     rw[e,e'];exact O5 _ _
theorem V4(g:Nat) (f:UInt8->Bool) (he:∀ args w,(callFunc g args).run Tryz.prog w = .ok (.enter g args) w)
 (hg:∀ (c:UInt8) (w:World),Calls Tryz.prog g #[.int .u8 c.toNat] w fun e w'=>e = .returned (.bool (f c))/\w'=w)
 (x:List UInt8) (hx:x.length<=24) (w:World) :
 Calls Tryz.prog 112 #[.string ⟨x.toArray⟩, .func (.func g) #[] #[]] w fun e w' =>
  e = .returned (.tuple #[.string ⟨(J8.pre f x).toArray⟩, .string ⟨(J8.suf f x).toArray⟩])/\Below w.heap.size w w' :=
 adN g f he hg ⟨x.toArray⟩ (by simp[ByteArray.size];omega) w
theorem Ry(args:Array Value) (w:World):(callFunc 106 args).run Tryz.prog w = .ok (.enter 106 args) w :=
 enters Tryz.func106 (by kernel_rfl) rfl args w
theorem Vi(args:Array Value) (w:World):(callFunc 113 args).run Tryz.prog w = .ok (.enter 113 args) w :=
 enters Tryz.func113 (by kernel_rfl) rfl args w
theorem TF(x:List UInt8) (hx:x.length<=24) (w:World) :
 Calls Tryz.prog 112 #[.string ⟨x.toArray⟩, .func (.func 106) #[] #[]] w fun e w' =>
  e = .returned (.tuple #[.string ⟨(J8.pre J8.SS x).toArray⟩, .string ⟨(J8.suf J8.SS x).toArray⟩])/\Below w.heap.size w w' :=
 V4 _ _ Ry NY x hx w
theorem TG(x:List UInt8) (hx:x.length<=24) (w:World) :
 Calls Tryz.prog 112 #[.string ⟨x.toArray⟩, .func (.func 113) #[] #[]] w fun e w' =>
  e = .returned (.tuple #[.string ⟨(J8.pre J8.Mq x).toArray⟩, .string ⟨(J8.suf J8.Mq x).toArray⟩])/\Below w.heap.size w w' :=
 V4 _ _ Vi Y8 x hx w
theorem Ua(x y:List UInt8) (hx:x.length<=24) (hy:y.length<=24) (w:World) :
 Calls Tryz.prog 114 #[.string ⟨x.toArray⟩, .string ⟨y.toArray⟩] w fun e w'=>e = .returned (.int .i64 (J8.signs 25 x y))/\w'=w :=
 ag9 ⟨x.toArray⟩ ⟨y.toArray⟩ (by simpa [ByteArray.size] using hx) (by simpa [ByteArray.size] using hy) w
theorem Sy(x y:List UInt8) (hx:x.length<=24) (hy:y.length<=24) (w:World) :
 Calls Tryz.prog 58 #[.string ⟨x.toArray⟩, .string ⟨y.toArray⟩] w fun e w'=>e = .returned (.int .i64 (J8.nums x y))/\Below w.heap.size w w' :=
 aiW ⟨x.toArray⟩ ⟨y.toArray⟩ (by simpa [ByteArray.size] using hx) (by simpa [ByteArray.size] using hy) w
def Uc:Value->Nat
 | .string s=>s.size
 | _=>0
theorem adh(x:List UInt8):Uc (.string ⟨x.toArray⟩)=x.length:=rfl
theorem ahh{b:List UInt8} (ha:a.length<=x.length-1) (hb:b.length<=y.length-1) (h:0<x.length+y.length) :
 Uc (.string ⟨a.toArray⟩)+Uc (.string ⟨b.toArray⟩)<Uc (.string ⟨x.toArray⟩)+Uc (.string ⟨y.toArray⟩):=by
 simp only[adh];omega
theorem aiE(ha:a.length<=x.length-1) (hx:x.length<=24-k):a.length<=24-(k+1):=by omega
theorem akH(hk:k<=23) (h:J8.signs 25 (J8.pre J8.Mq x) (J8.pre J8.Mq y)≠0):J8.parts (25-k) x y=J8.signs 25 (J8.pre J8.Mq x) (J8.pre J8.Mq y):=by
 rw[show 25-k=(25-(k+1))+1 from by omega,J8.parts,J8.SV,Bm h]
theorem akI(hk:k<=23) (h:J8.signs 25 (J8.pre J8.Mq x) (J8.pre J8.Mq y)=0)
 (h2:J8.nums (J8.pre J8.SS (J8.suf J8.Mq x)) (J8.pre J8.SS (J8.suf J8.Mq y))≠0):J8.parts (25-k) x y=J8.nums (J8.pre J8.SS (J8.suf J8.Mq x)) (J8.pre J8.SS (J8.suf J8.Mq y)):=by
 rw[show 25-k=(25-(k+1))+1 from by omega,J8.parts,h,J8.SV,By rfl,J8.SV,Bm h2]
theorem akJ(hk:k<=23) (h:J8.signs 25 (J8.pre J8.Mq x) (J8.pre J8.Mq y)=0)
 (h2:J8.nums (J8.pre J8.SS (J8.suf J8.Mq x)) (J8.pre J8.SS (J8.suf J8.Mq y))=0) :
 J8.parts (25-k) x y=J8.parts (25-(k+1)) (J8.suf J8.SS (J8.suf J8.Mq x)) (J8.suf J8.SS (J8.suf J8.Mq y)):=by
 rw[show 25-k=(25-(k+1))+1 from by omega,J8.parts,h,J8.SV,By rfl,h2,J8.SV,By rfl]
theorem ag0(x y:List UInt8) (hx:x.length<=24) (hy:y.length<=24) (w:World) :
 Calls Tryz.prog 59 #[.string ⟨x.toArray⟩, .string ⟨y.toArray⟩] w fun e w'=>e = .returned (.int .i64 (J8.parts 25 x y))/\Below w.heap.size w w':=by
 go_enter Tryz.func59,Tryz.ntmps59;go_wp2_with fail;go_loopw [0,1] (fun a b wr=>∃ (k:Nat) (x' y':List UInt8),k<=24/\x'.length<=24-k/\y'.length<=24-k/\a = .string ⟨x'.toArray⟩/\b = .string ⟨y'.toArray⟩/\J8.parts 25 x y=J8.parts (25-k) x' y'/\Below w.heap.size w wr)
  (fun a b _=>Uc a+Uc b)
 case atStart=>exact ⟨0,x,y,Bs _,hx,hy,rfl,rfl,rfl,AD _ _⟩
 case round =>
  obtain ⟨k,x',y',hk,hx',hy',rfl,rfl,hs,hb⟩:=hrel;have HS:=JY hs;clear hs;have HB:=JY hb;clear hb;have Gn:x'.length<=24:=by omega
  have Gp:y'.length<=24:=by omega
  have HX:=JY (afJ x');have HY:=JY (afJ y');by_cases hne:x'.length=0/\y'.length=0
  · obtain ⟨h1,h2⟩:=hne;have h1':=List.eq_nil_of_length_eq_zero h1;have h2':=List.eq_nil_of_length_eq_zero h2;subst h1' h2';go_wp2_with fail;go_ret;exact ⟨Ny (by rw[HS.out,J8.ZV]),HB.out⟩
  · have hk':k<=23:=by omega
    have hpos:0<x'.length+y'.length:=by omega
    have kK:x'≠[]\/(x'=[]/\(!y'.isEmpty)=true):=by
     cases x' with
     | nil=>cases y' with
       | nil=>simp at hpos
       | cons d m=>exact .inr ⟨rfl,rfl⟩
     | cons c l=>exact .inl (by simp)
    clear hne;by_cases hc:J8.signs 25 (J8.pre J8.Mq x') (J8.pre J8.Mq y')=0
    · have HC:=JY hc;have hc':(J8.signs 25 (J8.pre J8.Mq x') (J8.pre J8.Mq y') != 0)=false:=bne_eq_false_iff_eq.2 hc;clear hc;by_cases hd:J8.nums (J8.pre J8.SS (J8.suf J8.Mq x')) (J8.pre J8.SS (J8.suf J8.Mq y'))=0
      · have HD:=JY hd;have hd':(J8.nums (J8.pre J8.SS (J8.suf J8.Mq x')) (J8.pre J8.SS (J8.suf J8.Mq y')) != 0)=false:=bne_eq_false_iff_eq.2 hd;clear hd;rcases kK with h | ⟨rfl,h⟩
        all_goals
         go_wp2_with (first
          | (go_at_call_of 112 (Value.func (Fn.func (113:Nat)) #[] #[]);refine (TG _ (by assumption) _).mono ?_;rintro e w' ⟨rfl,hb⟩;replace HB:=JY (HB.out.trans (hb.mono HB.out.size));clear hb)
          | (go_at_call_of 112 (Value.func (Fn.func (106:Nat)) #[] #[]);refine (TF _ (Bi (O5 _ _) (by assumption)) _).mono ?_;rintro e w' ⟨rfl,hb⟩;replace HB:=JY (HB.out.trans (hb.mono HB.out.size));clear hb)
          | (go_at_call 114;refine (Ua _ _ (Bi (O1 _ _) (by assumption)) (Bi (O1 _ _) (by assumption)) _).mono ?_;rintro e w' ⟨rfl,rfl⟩)
          | (go_at_call 58;refine (Sy _ _ (Bi (O1 _ _) (Bi (O5 _ _) (by assumption))) (Bi (O1 _ _) (Bi (O5 _ _) (by assumption))) _).mono ?_;rintro e w' ⟨rfl,hb⟩;replace HB:=JY (HB.out.trans (hb.mono HB.out.size));clear hb))
         exact ⟨⟨k+1,_,_,by omega,aiE HX.out hx',aiE HY.out hy',rfl,rfl,by rw[HS.out,akJ hk' HC.out HD.out],HB.out⟩,ahh HX.out HY.out hpos⟩
      · have HD:=JY hd;have hd':(J8.nums (J8.pre J8.SS (J8.suf J8.Mq x')) (J8.pre J8.SS (J8.suf J8.Mq y')) != 0)=true:=bne_iff_ne.2 hd;clear hd;rcases kK with h | ⟨rfl,h⟩
        all_goals
         go_wp2_with (first
          | (go_at_call_of 112 (Value.func (Fn.func (113:Nat)) #[] #[]);refine (TG _ (by assumption) _).mono ?_;rintro e w' ⟨rfl,hb⟩;replace HB:=JY (HB.out.trans (hb.mono HB.out.size));clear hb)
          | (go_at_call_of 112 (Value.func (Fn.func (106:Nat)) #[] #[]);refine (TF _ (Bi (O5 _ _) (by assumption)) _).mono ?_;rintro e w' ⟨rfl,hb⟩;replace HB:=JY (HB.out.trans (hb.mono HB.out.size));clear hb)
          | (go_at_call 114;refine (Ua _ _ (Bi (O1 _ _) (by assumption)) (Bi (O1 _ _) (by assumption)) _).mono ?_;rintro e w' ⟨rfl,rfl⟩)
          | (go_at_call 58;refine (Sy _ _ (Bi (O1 _ _) (Bi (O5 _ _) (by assumption))) (Bi (O1 _ _) (Bi (O5 _ _) (by assumption))) _).mono ?_;rintro e w' ⟨rfl,hb⟩;replace HB:=JY (HB.out.trans (hb.mono HB.out.size));clear hb))
         go_ret;exact ⟨Ny (by rw[HS.out,akI hk' HC.out HD.out]),HB.out⟩
    · have HC:=JY hc;have hc':(J8.signs 25 (J8.pre J8.Mq x') (J8.pre J8.Mq y') != 0)=true:=bne_iff_ne.2 hc;clear hc;rcases kK with h | ⟨rfl,h⟩
      all_goals
       go_wp2_with (first
        | (go_at_call_of 112 (Value.func (Fn.func (113:Nat)) #[] #[]);refine (TG _ (by assumption) _).mono ?_;rintro e w' ⟨rfl,hb⟩;replace HB:=JY (HB.out.trans (hb.mono HB.out.size));clear hb)
        | (go_at_call_of 112 (Value.func (Fn.func (106:Nat)) #[] #[]);refine (TF _ (Bi (O5 _ _) (by assumption)) _).mono ?_;rintro e w' ⟨rfl,hb⟩;replace HB:=JY (HB.out.trans (hb.mono HB.out.size));clear hb)
        | (go_at_call 114;refine (Ua _ _ (Bi (O1 _ _) (by assumption)) (Bi (O1 _ _) (by assumption)) _).mono ?_;rintro e w' ⟨rfl,rfl⟩)
        | (go_at_call 58;refine (Sy _ _ (Bi (O1 _ _) (Bi (O5 _ _) (by assumption))) (Bi (O1 _ _) (Bi (O5 _ _) (by assumption))) _).mono ?_;rintro e w' ⟨rfl,hb⟩;replace HB:=JY (HB.out.trans (hb.mono HB.out.size));clear hb))
       go_ret;exact ⟨Ny (by rw[HS.out,akH hk' HC.out]),HB.out⟩
def vv (v:J8.V):Value := .agg #[.string ⟨v.e.toArray⟩, .string ⟨v.m.toArray⟩, .string ⟨v.r.toArray⟩]
theorem adn{b:Nat} {x y z:Int} (h0:w.cell? ⟨b,0,none⟩=some (.int .i64 x)) (h1:w.cell? ⟨b,1,none⟩=some (.int .i64 y)) (h2:w.cell? ⟨b,2,none⟩=some (.int .i64 z)) :
 ∀ j,j<[x,y,z].length->w.cell? ⟨b,j,none⟩=some (.int .i64 ([x,y,z].getD j 0)):=by
 intro j hj
 match j,hj with
 | 0,_=>exact h0
 | 1,_=>exact h1
 | 2,_=>exact h2
theorem aiY(x y z:Int):Na [x,y,z]=J8.SV x (J8.SV y z):=by
 by_cases h:z=0<;>simp[Na,J8.SV,h]
theorem ai3(x y z:Int) (w:World) :
 Calls Tryz.prog 57 #[.slice (some ⟨w.heap.size,0,none⟩) 3 3] (w.alloc (.cells #[.int .i64 x, .int .i64 y, .int .i64 z] 3)) fun e w' =>
  e = .returned (.int .i64 (J8.SV x (J8.SV y z)))/\w'=w.alloc (.cells #[.int .i64 x, .int .i64 y, .int .i64 z] 3):=by
 rw[<- aiY];exact ai2 w.heap.size 3 3 [x,y,z] rfl (by decide) _ (adn (by simp[go_sem]) (by simp[go_sem]) (by simp[go_sem]))
def Six (a1 a2 a3 b1 b2 b3:List UInt8) (w w':World):Prop :=
 w'.cell? ⟨w.heap.size,0,none⟩=some (.string ⟨a1.toArray⟩)/\w'.cell? ⟨w.heap.size,1,none⟩=some (.string ⟨a2.toArray⟩)/\w'.cell? ⟨w.heap.size,2,none⟩=some (.string ⟨a3.toArray⟩)
  /\ w'.cell? ⟨w.heap.size+1,0,none⟩=some (.string ⟨b1.toArray⟩)/\w'.cell? ⟨w.heap.size+1,1,none⟩=some (.string ⟨b2.toArray⟩)/\w'.cell? ⟨w.heap.size+1,2,none⟩=some (.string ⟨b3.toArray⟩)/\Below w.heap.size w w'
theorem ahd(a1 a2 a3 b1 b2 b3:List UInt8) (w:World) (t:TypeId):Six a1 a2 a3 b1 b2 b3 w
 ((w.alloc (.cells #[.string ⟨a1.toArray⟩, .string ⟨a2.toArray⟩, .string ⟨a3.toArray⟩] t)).alloc (.cells #[.string ⟨b1.toArray⟩, .string ⟨b2.toArray⟩, .string ⟨b3.toArray⟩] t)).drew:=by
 refine ⟨?_,?_,?_,?_,?_,?_,(((AD _ _).alloc (AC _) _).alloc (by simp) _).drew⟩<;>simp[go_sem]
theorem Ot{p:Addr} {v:Value} (hb:Below W.heap.size W W') (h:W.cell? p=some v):W'.cell? p=some v :=
 (hb.cell (B5 W p h)).trans h
theorem aji(hb:Below W.heap.size W W') (h:Six a1 a2 a3 b1 b2 b3 w W):Six a1 a2 a3 b1 b2 b3 w W':=by
 obtain ⟨h1,h2,h3,h4,h5,h6,h7⟩:=h;exact ⟨Ot hb h1,Ot hb h2,Ot hb h3,Ot hb h4,Ot hb h5,Ot hb h6,h7.trans (hb.mono h7.size)⟩
theorem ahc{o:Obj} (h:Six a1 a2 a3 b1 b2 b3 w W):Six a1 a2 a3 b1 b2 b3 w (W.alloc o) :=
 aji ((AD _ _).alloc (AC _) _) h
theorem ads(a1 a2 a3 b1 b2 b3:List UInt8) (ha1:a1.length<=24) (ha2:a2.length<=24) (Jl:a3.length<=24) (hb1:b1.length<=24) (hb2:b2.length<=24) (hb3:b3.length<=24) (w:World) :
 Calls Tryz.prog 32 #[vv ⟨a1,a2,a3⟩,vv ⟨b1,b2,b3⟩] w fun e w'=>e = .returned (.int .i64 (J8.alz ⟨a1,a2,a3⟩ ⟨b1,b2,b3⟩))/\Below w.heap.size w w':=by
 simp only[vv];go_enter Tryz.func32,Tryz.ntmps32;go_wp2_with fail
 go_region_held3 (fun w'=>w'.cell? ⟨w.heap.size,0,none⟩=some (.string ⟨a1.toArray⟩)/\w'.cell? ⟨w.heap.size,1,none⟩=some (.string ⟨a2.toArray⟩)/\w'.cell? ⟨w.heap.size,2,none⟩=some (.string ⟨a3.toArray⟩)
  /\ w'.cell? ⟨w.heap.size+1,0,none⟩=some (.string ⟨b1.toArray⟩)/\w'.cell? ⟨w.heap.size+1,1,none⟩=some (.string ⟨b2.toArray⟩)/\w'.cell? ⟨w.heap.size+1,2,none⟩=some (.string ⟨b3.toArray⟩)/\Below w.heap.size w w')
  (first | assumption | exact ahd _ _ _ _ _ _ _ _ | exact aji (by assumption) (by assumption) | exact ahc (by assumption))
  (first
   | (go_at_call 58;refine (Sy a1 b1 ha1 hb1 _).mono ?_;rintro e w' ⟨rfl,hb⟩)
   | (go_at_call 59;refine (ag0 _ _ (by assumption) (by assumption) _).mono ?_;rintro e w' ⟨rfl,hb⟩)
   | (go_at_call 57;refine (ai3 _ _ _ _).mono ?_;rintro e w' ⟨rfl,rfl⟩))
 go_wp2
 go_ret;exact ⟨rfl,(show Six a1 a2 a3 b1 b2 b3 w _ by assumption).2.2.2.2.2.2⟩
end
namespace J8
theorem agz(l:List UInt8) (c:UInt8):(Lib.indexByte l c = -1/\l.contains c=false) \/
 (∃ k:Nat,k<l.length/\Lib.indexByte l c=k/\l.contains c=true/\(l.takeWhile fun x=>x != c)=l.take k/\((l.dropWhile fun x=>x != c).drop 1)=l.drop (k+1)):=by
 induction l with
 | nil=>exact .inl ⟨rfl,rfl⟩
 | cons b l ih =>
   by_cases hb:b=c
   · subst hb;exact .inr ⟨0,by simp,by simp[Lib.indexByte],by simp,by simp,by simp⟩
   · have hb' : ¬ c=b:=fun h=>hb h.symm
     rcases ih with ⟨h1,h2⟩ | ⟨k,h1,h2,h3,h4,h5⟩
     · exact .inl ⟨by simp[Lib.indexByte,hb,h1],by simp at h2;simp[h2,hb']⟩
     · refine .inr ⟨k+1,by simpa using h1,?_,?_,?_,?_⟩
       · have hk : ¬ ((k:Int) = -1):=by omega
         simp[Lib.indexByte,hb,h2,hk]
       · simp at h3;simp[h3]
       · simp[hb,h4]
       · simp[hb,h5]
theorem TA(l:List UInt8):(Lib.indexByte l 58 = -1/\XE l=([48],l))\/(∃ k:Nat,k<l.length/\Lib.indexByte l 58=k/\XE l=(l.take k,l.drop (k+1))):=by
 rcases agz l 58 with ⟨h1,h2⟩ | ⟨k,h1,h2,h3,h4,h5⟩
 · exact .inl ⟨h1,by simp only[XE,h2];rfl⟩
 · exact .inr ⟨k,h1,h2,by simp only[XE,h3,h4,h5];rfl⟩
theorem adM(u v:List UInt8) (hv:∀ x∈v,x≠45):Y5 (u++45::v)=(u,v):=by
 have e:(u++45::v).reverse=v.reverse++45::u.reverse:=by simp
 have hc:(u++45::v).contains 45=true:=by simp
 have h1:(v.reverse++45::u.reverse).takeWhile (fun c=>c != 45)=v.reverse:=by
  rw[List.takeWhile_append_of_pos (by intro x hx;simpa using hv x (by simpa using hx))];simp
 have h2:(v.reverse++45::u.reverse).dropWhile (fun c=>c != 45)=45::u.reverse:=by
  rw[List.dropWhile_append_of_pos (by intro x hx;simpa using hv x (by simpa using hx))];simp
 simp only[Y5,hc,e,h1,h2];simp
theorem agl(l:List UInt8) (h:∀ x∈l,x≠45):Y5 l=(l,[48]):=by
 have hc:l.contains 45=false:=by simp;intro hm;exact h 45 hm rfl
 simp only[Y5,hc];rfl
theorem QH(l:List UInt8):(Lib.lastIndexByte ⟨l.toArray⟩ 45 = -1/\Y5 l=(l,[48]))\/(∃ k:Nat,k<l.length/\Lib.lastIndexByte ⟨l.toArray⟩ 45=k/\Y5 l=(l.take k,l.drop (k+1))):=by
 have IZ:∀ x:UInt8,(x.toNat:Int)=45->x=45:=fun x h=>by
  apply UInt8.toNat_inj.1;show x.toNat=45;omega
 have at_:∀ j,∀ h:j<l.length,(⟨l.toArray⟩:ByteArray).data[j]! = l[j]:=fun j h=>by simp[h]
 rcases Lib.lastIndexByte_spec ⟨l.toArray⟩ 45 with ⟨h1,h2⟩ | ⟨i,h1,h2,h3,h4⟩
 · refine .inl ⟨h1,agl l fun x hx e => ?_⟩;obtain ⟨j,hj,rfl⟩:=List.mem_iff_getElem.1 hx;exact h2 j (by simpa [ByteArray.size] using hj) (by rw[at_ j hj,e];rfl)
 · have hi:i<l.length:=by simpa [ByteArray.size] using h1
   refine .inr ⟨i,hi,h2,?_⟩;have e45:l[i]=45:=IZ _ (by rw[<- at_ i hi];exact h3);have e:l=l.take i++45::l.drop (i+1):=by
    conv=>lhs;rw[<- List.take_append_drop i l,DO hi,e45]
   conv=>lhs;rw[e]
   refine adM _ _ fun x hx ex => ?_
   obtain ⟨j,hj,rfl⟩:=List.mem_iff_getElem.1 hx;simp only[GE] at hj;have hj':i+1+j<l.length:=by omega
   refine h4 (i+1+j) (by omega) (by simpa [ByteArray.size] using hj') ?_;rw[at_ _ hj'];rw[List.getElem_drop] at ex;rw[ex];rfl
theorem aia(l:List UInt8):(XE l).2.length<=l.length:=by
 rcases TA l with ⟨_,h⟩ | ⟨k,_,_,h⟩<;>rw[h]<;>simp
theorem agi(l:List UInt8) (hl:1<=l.length):(XE l).1.length<=l.length:=by
 rcases TA l with ⟨_,h⟩ | ⟨k,_,_,h⟩<;>rw[h]<;>simp
 · omega
 · omega
theorem agj(l:List UInt8):(Y5 l).1.length<=l.length:=by
 rcases QH l with ⟨_,h⟩ | ⟨k,_,_,h⟩<;>rw[h]<;>simp
 omega
theorem agk(l:List UInt8) (hl:l.length<=24):(Y5 l).2.length<=24:=by
 rcases QH l with ⟨_,h⟩ | ⟨k,_,_,h⟩<;>rw[h]<;>simp
 omega
end J8
section
open Go.RowKit
theorem Xm(g:Nat) (f:UInt8->Bool) (he:∀ args w,(callFunc g args).run Tryz.prog w = .ok (.enter g args) w)
 (hg:∀ (c:UInt8) (w:World),Calls Tryz.prog g #[.int .u8 c.toNat] w fun e w'=>e = .returned (.bool (f c))/\w'=w)
 (x:List UInt8) (hx:x.length<=24) (w:World) :
 Calls Tryz.prog 105 #[.string ⟨x.toArray⟩, .func (.func g) #[] #[]] w fun e w'=>e = .returned (.bool (J8.Rs f x))/\Below w.heap.size w w' :=
 afi g f he hg ⟨x.toArray⟩ (by simp[ByteArray.size];omega) w
theorem Uy(args:Array Value) (w:World):(callFunc 107 args).run Tryz.prog w = .ok (.enter 107 args) w :=
 enters Tryz.func107 (by kernel_rfl) rfl args w
theorem Rc(args:Array Value) (w:World):(callFunc 108 args).run Tryz.prog w = .ok (.enter 108 args) w :=
 enters Tryz.func108 (by kernel_rfl) rfl args w
theorem MP(x:List UInt8) (hx:x.length<=24) (w:World) :
 Calls Tryz.prog 54 #[.string ⟨x.toArray⟩] w fun e w'=>e = .returned (.bool (J8.okE x))/\Below w.heap.size w w':=by
 by_cases h1:1<=x.length
 · by_cases h2:x.length<=4
   · have e1:J8.okE x=J8.Rs J8.SS x:=by simp[J8.okE,h1,h2]
     rw[e1];go_enter Tryz.func54,Tryz.ntmps54;go_wp2_with (go_at_call 105;refine (Xm _ _ Ry NY x hx _).mono ?_;rintro e w' ⟨rfl,hb⟩)
     go_ret;exact ⟨rfl,hb⟩
   · have e1:J8.okE x=false:=by simp[J8.okE,h2]
     rw[e1];go_enter Tryz.func54,Tryz.ntmps54
     go_wp2
     go_ret;exact ⟨rfl,AD _ _⟩
 · have e1:J8.okE x=false:=by simp[J8.okE,h1]
   rw[e1];go_enter Tryz.func54,Tryz.ntmps54
   go_wp2
   go_ret;exact ⟨rfl,AD _ _⟩
theorem LK(x:List UInt8) (hx:x.length<=24) (w:World) :
 Calls Tryz.prog 56 #[.string ⟨x.toArray⟩] w fun e w'=>e = .returned (.bool (J8.okR x))/\Below w.heap.size w w':=by
 rcases x with _ | ⟨c,l⟩
 · go_enter Tryz.func56,Tryz.ntmps56
   go_wp2
   go_ret;exact ⟨rfl,AD _ _⟩
 · go_enter Tryz.func56,Tryz.ntmps56;go_wp2_with (go_at_call 105;refine (Xm _ _ Rc PU (c::l) hx _).mono ?_;rintro e w' ⟨rfl,hb⟩)
   go_ret;exact ⟨rfl,hb⟩
theorem Nk(x:List UInt8) (hx:x.length<=24) (w:World) :
 Calls Tryz.prog 55 #[.string ⟨x.toArray⟩] w fun e w'=>e = .returned (.bool (J8.okM x))/\Below w.heap.size w w':=by
 rcases x with _ | ⟨c,l⟩
 · go_enter Tryz.func55,Tryz.ntmps55
   go_wp2
   go_ret;exact ⟨rfl,AD _ _⟩
 · cases hc:J8.SS c
   · have e1:J8.okM (c::l)=false:=by simp[J8.okM,hc]
     rw[e1];go_enter Tryz.func55,Tryz.ntmps55;go_wp2_with (go_at_call 106;refine (NY c _).mono ?_;rintro e w' ⟨rfl,rfl⟩)
     go_ret;exact ⟨rfl,AD _ _⟩
   · have e1:J8.okM (c::l)=J8.Rs J8.isM (c::l):=by simp[J8.okM,hc]
     rw[e1];go_enter Tryz.func55,Tryz.ntmps55;go_wp2_with (first
      | (go_at_call 106;refine (NY c _).mono ?_;rintro e w' ⟨rfl,rfl⟩)
      | (go_at_call 105;refine (Xm _ _ Uy XY (c::l) hx _).mono ?_;rintro e w' ⟨rfl,hb⟩))
     go_ret;exact ⟨rfl,hb⟩
end
end Go.Proofs.YtfhmaiicimdldaaGreatDoor
