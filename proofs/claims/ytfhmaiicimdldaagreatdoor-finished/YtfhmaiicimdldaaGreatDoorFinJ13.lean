import Derived.Test.YtfhmaiicimdldaaGreatDoorFinJ12
set_option maxHeartbeats 4000000
set_option maxRecDepth 100000
namespace Go.Proofs.YtfhmaiicimdldaaGreatDoor
variable {N:Nat->Prop}{w:World}{b:Nat}
section
open Go.RowKit
open Kw (St)
open Hv (S Dk VM)
def Km (D:VM Hv.PD) (n:S):Bool:=match Hv.get D n with
 | none=>true
 | some d => !Vu D n d
def KS (D:VM Hv.PD) (n:S):Bool := !Xe D n
theorem amG(lm fb lb:Nat) (E:VM Value) (D:VM Hv.PD) (N:Nat->Prop) (n:S) (hnl:n.length<=maxLen) (hn:Hv.has D n=true) (w:World) (hp:J6 w lm E) (hP:Ls N w D E) (h1:w.cell? ⟨fb,0,none⟩=some (.func (.func 132) #[] #[])) (h2:w.cell? ⟨lb,0,none⟩=some (.map (some lm))) :
 Calls Tryz.prog 189 #[.string ⟨n.toArray⟩, .pointer (some ⟨fb,0,none⟩), .pointer (some ⟨lb,0,none⟩)] w fun e w'=>e = .returned (.bool (Km D n))/\Below w.heap.size w w':=by
 obtain ⟨d,hd⟩:∃ d,Hv.get D n=some d:=by rw[Hv.J9] at hn;exact Option.isSome_iff_exists.1 hn
 have HE:Hid (Km D n = !Vu D n d):=JY (by unfold Km;rw[hd]);have HP:=JY hp;have aD:=JY hP;clear hp hP;go_enter Tryz.func189,Tryz.ntmps189;go_wp2_with fail;refine (Vv lm E D N n hnl d hd w HP.out aD.out).mono ?_;rintro e w1 ⟨rfl,hb⟩;go_wp2_with fail;go_ret;exact ⟨by rw[HE.out];rfl,hb⟩
theorem aki(lm fb lb:Nat) (E:VM Value) (D:VM Hv.PD) (N:Nat->Prop) (l:List S) (hll:l.length<=1000000) (hl:∀ n∈l,n.length<=maxLen/\Hv.has D n=true) (B:Nat) (v:Value) (w:World) (hv:w.ownsRow B 9 1 v l.length (l.map Kl)) (hp:J6 w lm E) (hP:Ls N w D E) (h1:w.cell? ⟨fb,0,none⟩=some (.func (.func 132) #[] #[])) (h2:w.cell? ⟨lb,0,none⟩=some (.map (some lm))) :
 Calls Tryz.prog 188 #[v, .func (.func 189) #[] #[.pointer (some ⟨fb,0,none⟩), .pointer (some ⟨lb,0,none⟩)]] w fun e w'=>∃ i:Int,e = .returned (.int .i64 i)/\((∃ j:Nat,i=(j:Int)/\∃ h:j<l.length,l.find? (Km D)=some l[j])\/(i = -1/\∀ x∈l,Km D x=false))/\Below w.heap.size w w':=by
 obtain ⟨n,hn⟩:∃ n,l.length=n:=⟨_,rfl⟩
 rw[hn] at hv hll;have HN:=JY hn;obtain ⟨ao,c,rfl⟩:=J4 hv;have HV:=JY hv;have HP:=JY hp;have aD:=JY hP;have HL:=JY hl;have fU:fb<w.heap.size:=B5 w _ h1;have hlb:lb<w.heap.size:=B5 w _ h2;have H1:=JY h1;have H2:=JY h2;clear hv hp hP hl hn h1 h2;go_enter Tryz.func188,Tryz.ntmps188;go_wp2_with fail;go_loopw [8] (fun i wr=>∃ k:Nat,k<=n/\i = .int .i64 (k:Int)/\Hid (l.find? (Km D)=(l.drop k).find? (Km D))/\Hid (Below w.heap.size w wr)) (fun i _=>n-(intOf i).toNat)
 case atStart=>exact ⟨0,by omega,rfl,JY (by simp),JY (AD _ _)⟩
 case round =>
  obtain ⟨k,hk,rfl,HA,HB⟩:=hrel;by_cases hlt:k<n
  · have b1:(k:Int)<(n:Int):=by omega
    have hkl:k<l.length:=by rw[HN.out];exact hlt
    obtain ⟨g,c',hv2,hg,q1⟩:=MV (by rw[HN.out];exact HV.out) hkl;obtain rfl:ao=some ⟨g,0,none⟩:=(DS hv2).1;have d1:=(HB.out.cell (p:=⟨g,k,none⟩) hg).trans q1;have hx:=HL.out _ (B1 hkl);have f1:=(HB.out.cell (p:=⟨fb,0,none⟩) fU).trans H1.out;have f2:=(HB.out.cell (p:=⟨lb,0,none⟩) hlb).trans H2.out;have HD:Hid ((l.drop k).find? (Km D)=if Km D l[k]=true then some l[k] else (l.drop (k+1)).find? (Km D)):=JY (by rw[DO hkl,List.find?_cons];cases Km D l[k]<;>rfl);have xQ:Hid (∃ h:k<l.length,l[k]=l[k]'h):=JY ⟨hkl,rfl⟩;obtain ⟨x,ja⟩:∃ x,l[k]=x:=⟨_,rfl⟩
    have qq:=JY ja;rw[ja] at d1 hx HD;clear hv2 q1 ja;go_wp2_with fail;refine (amG lm fb lb E D N x hx.1 hx.2 _ (HP.out.below HB.out) (aD.out.below HB.out) f1 f2).mono ?_;rintro e w1 ⟨rfl,hb⟩;have ag:=JY (HB.out.trans (hb.mono HB.out.size));clear hb;cases hf:Km D x
    · have HS:Hid (l.find? (Km D)=(l.drop (k+1)).find? (Km D)):=JY (by rw[HA.out,HD.out,hf];rfl);go_wp2_with fail;go_roundw
      case rel=>exact ⟨k+1,by omega,by go_num,HS,ag⟩
      case measure=>simp[intOf];omega
    · have HS:Hid (l.find? (Km D)=some l[k]):=JY (by rw[HA.out,HD.out,hf,qq.out];rfl);go_wp2_with fail;go_ret;exact ⟨_,rfl, .inl ⟨k,rfl,hkl,HS.out⟩,ag.out⟩
  · obtain rfl:k=n:=by omega
    have b1 : ¬ (k:Int)<(k:Int):=by omega
    have HS:Hid (l.find? (Km D)=none):=JY (by rw[HA.out,List.drop_eq_nil_of_le (by rw[HN.out];exact AC _)];rfl);go_wp2_with fail;go_ret;exact ⟨_,rfl, .inr ⟨rfl,fun x hx=>by simpa using List.find?_eq_none.1 HS.out x hx⟩,HB.out⟩
theorem amH(lm fb lb:Nat) (E:VM Value) (D:VM Hv.PD) (N:Nat->Prop) (n:S) (_hnl:n.length<=maxLen) (_hn:Hv.has D n=true) (w:World) (hp:J6 w lm E) (hP:Ls N w D E) (h1:w.cell? ⟨fb,0,none⟩=some (.func (.func 134) #[] #[])) (h2:w.cell? ⟨lb,0,none⟩=some (.map (some lm))) :
 Calls Tryz.prog 189 #[.string ⟨n.toArray⟩, .pointer (some ⟨fb,0,none⟩), .pointer (some ⟨lb,0,none⟩)] w fun e w'=>e = .returned (.bool (KS D n))/\Below w.heap.size w w':=by
 have HP:=JY hp;have aD:=JY hP;clear hp hP;go_enter Tryz.func189,Tryz.ntmps189;go_wp2_with fail;refine (Vw lm E D N n w HP.out aD.out).mono ?_;rintro e w1 ⟨rfl,hb⟩;go_wp2_with fail;go_ret;exact ⟨rfl,hb⟩
theorem akj(lm fb lb:Nat) (E:VM Value) (D:VM Hv.PD) (N:Nat->Prop) (l:List S) (hll:l.length<=1000000) (hl:∀ n∈l,n.length<=maxLen/\Hv.has D n=true) (B:Nat) (v:Value) (w:World) (hv:w.ownsRow B 9 1 v l.length (l.map Kl)) (hp:J6 w lm E) (hP:Ls N w D E) (h1:w.cell? ⟨fb,0,none⟩=some (.func (.func 134) #[] #[])) (h2:w.cell? ⟨lb,0,none⟩=some (.map (some lm))) :
 Calls Tryz.prog 188 #[v, .func (.func 189) #[] #[.pointer (some ⟨fb,0,none⟩), .pointer (some ⟨lb,0,none⟩)]] w fun e w'=>∃ i:Int,e = .returned (.int .i64 i)/\((∃ j:Nat,i=(j:Int)/\∃ h:j<l.length,l.find? (KS D)=some l[j])\/(i = -1/\∀ x∈l,KS D x=false))/\Below w.heap.size w w':=by
 obtain ⟨n,hn⟩:∃ n,l.length=n:=⟨_,rfl⟩
 rw[hn] at hv hll;have HN:=JY hn;obtain ⟨ao,c,rfl⟩:=J4 hv;have HV:=JY hv;have HP:=JY hp;have aD:=JY hP;have HL:=JY hl;have fU:fb<w.heap.size:=B5 w _ h1;have hlb:lb<w.heap.size:=B5 w _ h2;have H1:=JY h1;have H2:=JY h2;clear hv hp hP hl hn h1 h2;go_enter Tryz.func188,Tryz.ntmps188;go_wp2_with fail;go_loopw [8] (fun i wr=>∃ k:Nat,k<=n/\i = .int .i64 (k:Int)/\Hid (l.find? (KS D)=(l.drop k).find? (KS D))/\Hid (Below w.heap.size w wr)) (fun i _=>n-(intOf i).toNat)
 case atStart=>exact ⟨0,by omega,rfl,JY (by simp),JY (AD _ _)⟩
 case round =>
  obtain ⟨k,hk,rfl,HA,HB⟩:=hrel;by_cases hlt:k<n
  · have b1:(k:Int)<(n:Int):=by omega
    have hkl:k<l.length:=by rw[HN.out];exact hlt
    obtain ⟨g,c',hv2,hg,q1⟩:=MV (by rw[HN.out];exact HV.out) hkl;obtain rfl:ao=some ⟨g,0,none⟩:=(DS hv2).1;have d1:=(HB.out.cell (p:=⟨g,k,none⟩) hg).trans q1;have hx:=HL.out _ (B1 hkl);have f1:=(HB.out.cell (p:=⟨fb,0,none⟩) fU).trans H1.out;have f2:=(HB.out.cell (p:=⟨lb,0,none⟩) hlb).trans H2.out;have HD:Hid ((l.drop k).find? (KS D)=if KS D l[k]=true then some l[k] else (l.drop (k+1)).find? (KS D)):=JY (by rw[DO hkl,List.find?_cons];cases KS D l[k]<;>rfl);have xQ:Hid (∃ h:k<l.length,l[k]=l[k]'h):=JY ⟨hkl,rfl⟩;obtain ⟨x,ja⟩:∃ x,l[k]=x:=⟨_,rfl⟩
    have qq:=JY ja;rw[ja] at d1 hx HD;clear hv2 q1 ja;go_wp2_with fail;refine (amH lm fb lb E D N x hx.1 hx.2 _ (HP.out.below HB.out) (aD.out.below HB.out) f1 f2).mono ?_;rintro e w1 ⟨rfl,hb⟩;have ag:=JY (HB.out.trans (hb.mono HB.out.size));clear hb;cases hf:KS D x
    · have HS:Hid (l.find? (KS D)=(l.drop (k+1)).find? (KS D)):=JY (by rw[HA.out,HD.out,hf];rfl);go_wp2_with fail;go_roundw
      case rel=>exact ⟨k+1,by omega,by go_num,HS,ag⟩
      case measure=>simp[intOf];omega
    · have HS:Hid (l.find? (KS D)=some l[k]):=JY (by rw[HA.out,HD.out,hf,qq.out];rfl);go_wp2_with fail;go_ret;exact ⟨_,rfl, .inl ⟨k,rfl,hkl,HS.out⟩,ag.out⟩
  · obtain rfl:k=n:=by omega
    have b1 : ¬ (k:Int)<(k:Int):=by omega
    have HS:Hid (l.find? (KS D)=none):=JY (by rw[HA.out,List.drop_eq_nil_of_le (by rw[HN.out];exact AC _)];rfl);go_wp2_with fail;go_ret;exact ⟨_,rfl, .inr ⟨rfl,fun x hx=>by simpa using List.find?_eq_none.1 HS.out x hx⟩,HB.out⟩
namespace Hv
variable {D:VM PD}
theorem Uv{α:Type}:∀ {E:VM α} {k:S},Ki E->has E k=true->(del E k).length+1=E.length
 | [],k,_,h=>by cases h
 | p::E,k,hs,h=>by
   obtain ⟨g1,g2⟩:=List.pairwise_cons.1 hs;by_cases e:p.1=k
   · have hd:del E k=E:=by
      unfold del;rw[List.filter_eq_self];intro q hq;have : ¬ q.1=k:=fun e2=>by have:=g1 q hq;rw[e,e2,Lx] at this;cases this
      simp[this]
     have:del (p::E) k=del E k:=by unfold del;rw[List.filter_cons_of_neg (by simp[e])]
     rw[this,hd];rfl
   · have:del (p::E) k=p::del E k:=by unfold del;rw[List.filter_cons_of_pos (by simp[e])]
     rw[this];have h2:has E k=true:=by
      unfold has at h |-;rw[List.any_cons] at h;have:(p.1==k)=false:=by simp[e]
      rw[this] at h;simpa using h
     have:=Uv g2 h2;simp only[CI];omega
def pick (fr:VM PD->S->Bool) (D:VM PD):S:=match (J3 D).find? (fr D) with
 | some k=>k
 | none=>(J3 D).headD []
def Oy (fr:VM PD->S->Bool):Nat->VM PD->List S
 | 0,_=>[]
 | n+1,D=>pick fr D::Oy fr n (del D (pick fr D))
def order (fr:VM PD->S->Bool) (D:VM PD):List S:=Oy fr D.length D
theorem mem_keys{α:Type} {E:VM α} {k:S} (h:k∈J3 E):has E k=true:=by
 obtain ⟨p,hp,e⟩:=List.mem_map.1 h;exact List.any_eq_true.2 ⟨p,hp,by simp[e]⟩
theorem UO(fr:VM PD->S->Bool)  (h:0<D.length):has D (pick fr D)=true:=by
 unfold pick;cases q:(J3 D).find? (fr D) with
 | some k=>exact mem_keys (List.mem_of_find?_eq_some q)
 | none =>
   cases D with
   | nil=>simp at h
   | cons p D=>exact mem_keys (by simp[J3])
theorem aey(fr:VM PD->S->Bool)  (hs:Ki D) (h:0<D.length):order fr D=pick fr D::order fr (del D (pick fr D)):=by
 have e:=Uv hs (UO fr h);have:order fr D=Oy fr ((del D (pick fr D)).length+1) D:=by unfold order;rw[e]
 rw[this];rfl
end Hv
variable {D:VM Hv.PD}{E:VM Value}
theorem Ls.keys(h:Ls N w D E) (hE:Hv.Ki E):J3 E=J3 D:=by
 have e:(E.map fun p=>(p.1,()))=D.map fun p=>(p.1,()):=(hE.map fun _=>()).Lr (h.Mt.map fun _=>()) (fun k=>by
  rw[Hv.get_map E (fun _=>()),Hv.get_map D (fun _=>())];cases q:Hv.get E k with
  | none=>rw[h.get_none q];rfl
  | some v=>obtain ⟨d,hd,_⟩:=h.P8 k v q;rw[hd];rfl)
 have:=IN (List.map (·.1)) e;simpa [J3,Hb,Function.comp_def] using this
theorem Ls.del(h:Ls N w D E) (hE:Hv.Ki E) (k:S):Ls N w (Hv.del D k) (Hv.del E k):=by
 refine ⟨h.Mt.del k,fun k' v q => ?_,fun k' d q => ?_⟩
 · by_cases e:k'=k
   · subst e;rw[Hv.KQ] at q;cases q
   · rw[Hv.Kz hE e] at q;rw[Hv.Kz h.Mt e];exact h.P8 k' v q
 · by_cases e:k'=k
   · subst e;rw[Hv.KQ] at q;cases q
   · rw[Hv.Kz h.Mt e] at q;rw[Hv.Kz hE e];exact h.Vk k' d q
theorem afp{α:Type} {E:VM α} (hE:Hv.Ki E) {k n:S} (h:Hv.has (Hv.del E k) n=true):Hv.has E n=true:=by
 rw[Hv.J9] at h |-;by_cases e:n=k
 · subst e;rw[Hv.KQ] at h;cases h
 · rwa [Hv.Kz hE e] at h
theorem ais{l:List S} (h:0<l.length):l[0]=l.headD []:=by
 cases l with
 | nil=>simp at h
 | cons a l=>rfl
structure ahO (fr:VM Hv.PD->S->Bool) (fv:Value) (D0:VM Hv.PD) (N:Nat->Prop) (B lb lm:Nat) (w wr:World) (o:Value) (done:List S) (D:VM Hv.PD) (E:VM Value):Prop where
 row:wr.ownsRow (lb+1) 9 1 o done.length (done.map Kl)
 map:J6 wr lm E
 pk:Ls N w D E
 left:Hv.order fr D0=done++Hv.order fr D
 lens:done.length+D.length=D0.length
 keys:∀ n,Hv.has D n=true->Hv.has D0 n=true
 f:wr.cell? ⟨B,0,none⟩=some fv
 l:wr.cell? ⟨lb,0,none⟩=some (.map (some lm))
 K7:Below B w wr
def ajQ (fi:FuncId) (fr:VM Hv.PD->S->Bool):Prop:=∀ (lm fb lb:Nat) (E:VM Value) (D:VM Hv.PD) (N:Nat->Prop) (l:List S) (_:l.length<=1000000) (_:∀ n∈l,n.length<=maxLen/\Hv.has D n=true) (B:Nat) (v:Value) (w:World) (_:w.ownsRow B 9 1 v l.length (l.map Kl)) (_:J6 w lm E) (_:Ls N w D E) (_:w.cell? ⟨fb,0,none⟩=some (.func (.func fi) #[] #[])) (_:w.cell? ⟨lb,0,none⟩=some (.map (some lm))),
 Calls Tryz.prog 188 #[v, .func (.func 189) #[] #[.pointer (some ⟨fb,0,none⟩), .pointer (some ⟨lb,0,none⟩)]] w fun e w'=>∃ i:Int,e = .returned (.int .i64 i)/\((∃ j:Nat,i=(j:Int)/\∃ h:j<l.length,l.find? (fr D)=some l[j])\/(i = -1/\∀ x∈l,fr D x=false))/\Below w.heap.size w w'
theorem afy(fi:FuncId) (fr:VM Hv.PD->S->Bool) (hF:ajQ fi fr) (pm:Nat) (P:VM Value) (D0:VM Hv.PD) (N:Nat->Prop) (dD:P.length<=1000) (hks:∀ n,Hv.has D0 n=true->n.length<=12) (w:World) (hp:J6 w pm P) (hP:Ls N w D0 P) :
 Calls Tryz.prog 131 #[.map (some pm), .func (.func fi) #[] #[]] w fun e w'=>∃ v,e = .returned v/\w'.ownsRow w.heap.size 9 1 v (Hv.order fr D0).length ((Hv.order fr D0).map Kl)/\Below w.heap.size w w':=by
 have nH:=JY hF;clear hF;obtain ⟨i0,hi,hz0,hz1,hz2⟩:=KJ PS;have HP:=JY hp;have aD:=JY hP;have nJ:=JY hks;have hpl:=hp.lt;have hrow:=AF w (.cells #[.func (.func fi) #[] #[]] 229);have hb0:=(AD w.heap.size w).alloc (AC _) (.cells #[.func (.func fi) #[] #[]] 229);have hsz:(w.alloc (.cells #[.func (.func fi) #[] #[]] 229)).heap.size=w.heap.size+1:=by simp
 have iq:=JY (hP.len hp.1);clear hp hP hks;go_enter Tryz.func131,Tryz.ntmps131;go_wp2_with fail;refine (Tz pm P _ (HP.out.below hb0)).mono ?_;rintro e w1 ⟨rfl,fH,hb1⟩;have mX:=fH.lt;rw[hsz] at fH mX |-;have qI:=hb0.trans (hb1.mono hb0.size);have ay:Hid (ahO fr (.func (.func fi) #[] #[]) D0 N w.heap.size w1.heap.size (w.heap.size+1) w (w1.alloc (.cells #[.map (some (w.heap.size+1))] 97)) (.slice none 0 0) [] D0 P):=JY
  ⟨Cf _ _ _ _,fH.alloc _,aD.out,rfl,by simp,fun n h=>h,
   (Mv (by omega) _).trans ((Be (a:=⟨w.heap.size,0,none⟩) (hb1.block w.heap.size (by omega))).trans ((JZ hrow 0).trans rfl)),(JZ (AF w1 _) 0).trans rfl,qI.alloc qI.size _⟩
 obtain ⟨lb,hlb⟩:∃ lb,w1.heap.size=lb:=⟨_,rfl⟩
 have BB:w.heap.size+1<lb:=by omega
 obtain ⟨B,hB⟩:∃ B,w.heap.size=B:=⟨_,rfl⟩
 have bJ:=JY hB;rw[hlb] at ay;rw[hB] at BB ay;clear hrow hb0 hsz fH hb1 qI mX;go_wp2_with fail;go_loopw [6] (fun o wr=>∃ (done:List S) (D:VM Hv.PD) (E:VM Value) (oo:Option Addr) (oc:Nat),o = .slice oo done.length oc/\Hid (ahO fr (.func (.func fi) #[] #[]) D0 N B lb (B+1) w wr o done D E)) (fun o _=>D0.length-lenOf o)
 case atStart=>exact ⟨[],D0,P,none,0,rfl,ay⟩
 case round =>
  clear ay;obtain ⟨done,D,E,oo,oc,rfl,HI⟩:=hrel;have aY:=HI.out.map.len IS 3;have nX:=HI.out.pk.len HI.out.map.1;rw[nX] at aY;have xQ:=JY nX;clear nX;have l0:=HI.out.l;have AR:D.length<=1000:=by have:=HI.out.lens;have:=iq.out;omega
  have hdone:done.length<=1000:=by have:=HI.out.lens;have:=iq.out;omega
  by_cases hz:D.length=0
  · have g3 : ¬ (0:Int)<(D.length:Int):=by omega
    have HE:Hid (Hv.order fr D0=done):=JY (by rw[HI.out.left];unfold Hv.order;rw[hz];simp[Hv.Oy]);go_wp2_with fail;go_ret;rw[HE.out];exact ⟨_,rfl,KL HI.out.row (by omega),HI.out.K7⟩
  · have g3:(0:Int)<(D.length:Int):=by omega
    go_wp2_with fail;refine (callsIn_wide.1 (Tryz.maps_Keys_140 (some (B+1)) wr)).mono ?_;rintro e w2 ⟨rfl,rfl⟩;go_wp2_with fail;refine (callsIn_wide.1 (Tryz.slices_Sorted_keys_77_140 (B+1) E.length (Hv.Ta E) Hv.hR wr HI.out.map.2 (by rw[Hv.NM,xQ.out];unfold maxLen;omega) (by rw[Hv.NM,xQ.out];omega))).mono ?_;rintro e w3 ⟨v,ss,rfl,hS,hrow, -,hb⟩;have hk:=Px HI.out.map.1 hS;have hl:ss.length=(J3 D).length:=by rw[hS.length_eq,OA,HI.out.pk.keys HI.out.map.1]
    rw[hk,hl,HI.out.pk.keys HI.out.map.1] at hrow;have hwz:(wr.alloc (.cells #[.map (some (B+1))] 97)).heap.size=wr.heap.size+1:=by simp
    have nU:B+1<wr.heap.size:=HI.out.map.lt;have hrow3:=KL (B:=wr.heap.size) hrow (by simp);have dv:=JY (show w3.ownsRow wr.heap.size 9 1 v (J3 D).length ((J3 D).map Kl) from hrow3);have av:=JY (((AD wr.heap.size wr).alloc (AC _) (.cells #[.map (some (B+1))] 97)).trans (hb.mono (by simp)));have lX:=JY (HI.out.map.below av.out);have bG:=JY (HI.out.K7.trans (av.out.mono (by omega)));have cK:=JY (HI.out.pk.below (show Below w.heap.size w w3 by rw[bJ.out];exact bG.out));have zU:=JY (Ky HI.out.row av.out);have vK:B<wr.heap.size:=B5 wr _ HI.out.f;have wj:lb<wr.heap.size:=B5 wr _ HI.out.l;have f3:=(av.out.cell (p:=⟨B,0,none⟩) vK).trans HI.out.f;have l3:=(av.out.cell (p:=⟨lb,0,none⟩) wj).trans HI.out.l;obtain ⟨ka,kc,rfl⟩:=J4 dv.out;have zI:Hid ((J3 D).length=D.length):=JY (by unfold J3;simp);have zJ:=JY (show ∀ n∈J3 D,n.length<=maxLen/\Hv.has D n=true from fun n hn=>⟨by have:=nJ.out n (HI.out.keys n (Hv.mem_keys hn));unfold maxLen;omega,Hv.mem_keys hn⟩);have bP:=JY f3;have jI:=JY l3;clear hrow hrow3 hb hk hl hS hwz l0 aY;go_wp2_with fail;refine (nH.out (B+1) B lb E D N (J3 D) (by rw[zI.out];omega) zJ.out wr.heap.size (.slice ka (J3 D).length kc) w3 dv.out lX.out cK.out bP.out jI.out).mono ?_;rintro e w4 ⟨i,rfl,hif,hb4⟩;have Bw:∃ jj:Nat,max 0 i=(jj:Int)/\∃ h:jj<(J3 D).length,(J3 D)[jj]=Hv.pick fr D:=by
     rcases hif with ⟨j,rfl,h1,h2⟩ | ⟨rfl,h2⟩
     · exact ⟨j,by omega,h1,by unfold Hv.pick;rw[h2]⟩
     · refine ⟨0,by omega,by rw[zI.out];omega,?_⟩;have:(J3 D).find? (fr D)=none:=List.find?_eq_none.2 (fun x hx=>by rw[h2 x hx];simp);unfold Hv.pick;rw[this];simp only;exact ais _
    obtain ⟨jj,hmx,hjl,Bv⟩:=Bw;have fh:=Ky dv.out hb4;obtain ⟨g,c',hv2,hg,q1⟩:=MV fh hjl;obtain rfl:ka=some ⟨g,0,none⟩:=(DS hv2).1;have Hh:wr.heap.size<=g:=VA fh rfl;have Dd:=JY (Hv.UO fr (D:=D) (by omega));have HST:=JY (Hv.aey fr HI.out.pk.Mt (by omega));have hjb:(jj:Int)<((J3 D).length:Int):=by omega
    rw[Bv] at q1;obtain ⟨x,hx⟩:∃ x,Hv.pick fr D=x:=⟨_,rfl⟩
    rw[hx] at q1 Dd HST;have hxl:x.length<=maxLen:=(zJ.out x (by rw[<- hx,<- Bv];exact B1 hjl)).1;obtain ⟨kl,hkl⟩:∃ kl,(J3 D).length=kl:=⟨_,rfl⟩
    have FB:=JY hkl;have hl4:=(hb4.cell (p:=⟨lb,0,none⟩) (B3 wj av.out.size)).trans jI.out;have d7:=(hb4.cell (p:=⟨B,0,none⟩) (B3 vK av.out.size)).trans bP.out;have rY:=JY (Ky zU.out hb4);have dJ:=JY (lX.out.below hb4);have aB:=JY (av.out.trans (hb4.mono av.out.size));have ey:=JY d7;have FD:=JY hl4;have jq:=JY q1;rw[hkl] at hjb |-;clear hif hjl Bv fh hv2 hx hb4 dv zJ zI hkl d7;go_wp2_with (first
     | (at_builtin;refine wpList_append_own _ rfl _ _ 31 rfl (lb+1) 9 i0 (.string ByteArray.empty) 1 16 Tryz.underlying31 hi hz0 hz1 hz2 rfl (by decide) _ _ _ rfl (rY.out.alloc _) ⟨w4.heap.size,0,none⟩ 1 1 [.string ⟨x.toArray⟩] rfl rfl (cell_one_new _ _ _) (fun x hx=>by simp at hx;subst hx;rfl) (by unfold maxLen;omega) (by omega) (by simp;omega) ?_;intro v' w5 hown' ad5 amY))
    obtain ⟨g3,cap,rfl⟩:=Kt hown' (by omega);have Iw:=aB.out.size;have hs4:(w4.alloc (.cells #[.string ⟨x.toArray⟩] 9)).heap.size=w4.heap.size+1:=by simp
    have hne:∀ q,(Value.slice oo done.length oc).ownBlock=some q->lb+1<=q/\q<wr.heap.size:=fun q hq=>HI.out.row.lt q hq
    have ko:∀ k,k<w4.heap.size->(k<=lb\/wr.heap.size<=k)->w5.heap[k]? = w4.heap[k]? := fun k hk hc=>(ad5.block k (by rw[hs4];omega) (fun e=>by have:=hne k e.symm;omega)).trans (AM w4 _ k hk)
    have l5:=(Be (a:=⟨lb,0,none⟩) (ko lb (by omega) (.inl (AC _)))).trans FD.out;have f5:=(Be (a:=⟨B,0,none⟩) (ko B (by omega) (.inl (by omega)))).trans ey.out;have q5:=(Be (a:=⟨g,jj,none⟩) (ko g hg (.inr Hh))).trans jq.out;have M5:=dJ.out.kept (ko (B+1) (by omega) (.inl (by omega)));have uR:=((HI.out.K7.trans (aB.out.mono (by omega))).alloc (by omega) (.cells #[.string ⟨x.toArray⟩] 9)).grown ad5 (by rw[hs4];omega) (fun q hq=>by have:=hne q hq;omega);have qO:g<w5.heap.size:=B5 w5 _ q5;have BA:lb<w5.heap.size:=B5 w5 _ l5;obtain ⟨w6,hrun,D9,ER⟩:=M5.drew.drop IS x hxl 0;have cV:=Kv ER;have k6:∀ k,k<w5.heap.size->k≠B+1->w6.heap[k]? = w5.heap[k]? := fun k hk hc=>cV.block k hk hc
    have l6:=(Be (a:=⟨lb,0,none⟩) (k6 lb BA (by omega))).trans l5;have q6:=(Be (a:=⟨g,jj,none⟩) (k6 g qO (by omega))).trans q5;have f6:=(Be (a:=⟨B,0,none⟩) (k6 B (by omega) (by omega))).trans f5;have bN:Hid (ahO fr (.func (.func fi) #[] #[]) D0 N B lb (B+1) w w6 (.slice (some ⟨g3,0,none⟩) (done.length+1) cap) (done++[x]) (Hv.del D x) (Hv.del E x)):=JY
     ⟨by
      have h:=cV.own (show w5.drew.ownsRow (lb+1) 9 1 (.slice (some ⟨g3,0,none⟩) (done.length+1) cap) (done.length+1) (done.map Kl++[Kl x]) from hown') (AC _) (fun q hq e=>by have:=hown'.lt q hq;omega);simpa using h,
     D9,HI.out.pk.del HI.out.map.1 x,by rw[HI.out.left,HST.out];simp,by have:=Hv.Uv HI.out.pk.Mt Dd.out;have:=HI.out.lens;simp only[AS,CI,List.length_nil];omega,
     fun n h=>HI.out.keys n (afp HI.out.pk.Mt h),f6,l6,(uR.drew).trans (cV.toBelow (show B<=w5.heap.size by omega) (fun q _ (e:q=B+1)=>by omega))⟩
    have Ez:done.length+1<=D0.length:=by have:=HI.out.lens;omega
    clear hown' ad5 amY hne ko f5 M5 uR D9 ER cV k6 f6 hs4
    go_region_held3 (fun w'=>w'.cell? ⟨lb,0,none⟩=some (.map (some (B+1)))/\w'.cell? ⟨g,jj,none⟩=some (.string ⟨x.toArray⟩))
     (first | assumption | exact ⟨l6,q6⟩ | exact ⟨l5,q5⟩ | simp[go_sem, *])
     (fail)
    go_wp2_with fail;go_roundw
    case rel=>exact ⟨done++[x],Hv.del D x,Hv.del E x,some ⟨g3,0,none⟩,cap,by simp,bN⟩
    case measure=>simp[lenOf];omega
theorem akE(pm:Nat) (P:VM Value) (D0:VM Hv.PD) (N:Nat->Prop) (dD:P.length<=1000) (hks:∀ n,Hv.has D0 n=true->n.length<=12) (w:World) (hp:J6 w pm P) (hP:Ls N w D0 P) :
 Calls Tryz.prog 131 #[.map (some pm), .func (.func 132) #[] #[]] w fun e w'=>∃ v,e = .returned v/\w'.ownsRow w.heap.size 9 1 v (Hv.order Km D0).length ((Hv.order Km D0).map Kl)/\Below w.heap.size w w' :=
 afy _ Km aki pm P D0 N dD hks w hp hP
theorem akF(pm:Nat) (P:VM Value) (D0:VM Hv.PD) (N:Nat->Prop) (dD:P.length<=1000) (hks:∀ n,Hv.has D0 n=true->n.length<=12) (w:World) (hp:J6 w pm P) (hP:Ls N w D0 P) :
 Calls Tryz.prog 131 #[.map (some pm), .func (.func 134) #[] #[]] w fun e w'=>∃ v,e = .returned v/\w'.ownsRow w.heap.size 9 1 v (Hv.order KS D0).length ((Hv.order KS D0).map Kl)/\Below w.heap.size w w' :=
 afy _ KS akj pm P D0 N dD hks w hp hP
def KN (Q:VM Value) (l:List S):VM Value:=l.foldl (fun q x=>Hv.put q x LB) Q
theorem NH(l:List S):∀ Q:VM Value,(KN Q l).length<=Q.length+l.length:=by
 induction l with
 | nil=>intro Q;simp[KN]
 | cons x l ih =>
   intro Q;have:=ih (Hv.put Q x LB);have:=Hv.Mr Q x LB;simp only[KN,List.foldl_cons,CI] at *;omega
theorem abF(Q:VM Value) (l:List S) (x:S):KN Q (l++[x])=Hv.put (KN Q l) x LB:=by simp[KN]
theorem Yc{g:Nat}  {cs:Array Value} {t:TypeId} {fz:Nat × Nat} (h:J6 w b E) (hr:w.heap[g]? = some (.cells cs t fz)):g≠b:=by
 rintro rfl;obtain ⟨_,es,clock,h1,_⟩:=h;rw[h1] at hr;cases hr
theorem abH(cb sm:Nat) (Q:VM Value) (hQ:Q.length<=1000000) (p:Pk) (F:List (S × S)) (hF:F.length<=30) (hl:∀ q∈F,q.1.length<=24) (w:World) (hr:w.ownsRow 0 247 2 p.files.val F.length (F.flatMap Lj)) (hm:J6 w sm Q) (hc:w.cell? ⟨cb,0,none⟩=some (.map (some sm))) :
 Calls Tryz.prog 186 #[p.val, .pointer (some ⟨cb,0,none⟩)] w fun e w'=>∃ u,e = .returned u/\J6 w' sm (KN Q (F.map (·.1)))/\Kj w.heap.size (fun k=>k=sm) w w':=by
 obtain ⟨tx,pn,pv,nd,br,wk,⟨na,nn,nc⟩,ru,wo,bV⟩:=p;have HN:=JY (ahe hr);have HR:=JY hr;have HM:=JY hm;have hcb:cb<w.heap.size:=B5 w _ hc;have hsl:=hm.lt;have hcn:cb≠sm:=by
  rintro rfl;obtain ⟨_,es,clock,h1,_⟩:=hm;simp[World.cell?,h1] at hc
 have HC:=JY hc;have HL:=JY hl;have hrow:=AF w (.cells (Pk.mk tx pn pv nd br wk ⟨na,nn,nc⟩ ru wo bV).cells 169);have a6:=(JZ hrow 6).trans (show _=some (.slice na nn nc) from rfl);have aV:=JY ((Kj.refl w.heap.size (fun k=>k=sm) w).alloc (AC _) (.cells (Pk.mk tx pn pv nd br wk ⟨na,nn,nc⟩ ru wo bV).cells 169));have aw:=JY (hm.alloc (.cells (Pk.mk tx pn pv nd br wk ⟨na,nn,nc⟩ ru wo bV).cells 169));simp only[Pk.cells] at a6 aV aw;simp only[Pk.val,Pk.cells];clear hr hm hc hl hrow;go_enter Tryz.func186,Tryz.ntmps186;go_wp2_with fail;clear a6;go_loopw [9] (fun i wr=>∃ j:Nat,j<=nn/\i = .int .i64 (j:Int)/\Hid (J6 wr sm (KN Q ((F.take j).map (·.1))))/\Hid (Kj w.heap.size (fun k=>k=sm) w wr)) (fun i _=>nn-(intOf i).toNat)
 case atStart=>exact ⟨0,Bs _,rfl,aw,aV⟩
 case round =>
  clear aw aV;obtain ⟨j,hj,rfl,aQ,aO⟩:=hrel;by_cases hjl:j<nn
  · have b1:(j:Int)<(nn:Int):=by omega
    have hnF:nn=F.length:=HN.out;have cD:j<F.length:=by omega
    obtain ⟨g,c,hv,hg,q1,q2⟩:=OM HR.out cD;obtain rfl:na=some ⟨g,0,none⟩:=(DS hv).1;have Hg:g≠sm:=by
     rcases HR.out.2 with ⟨e,_⟩ | ⟨g',cap,cur,e,_,h2,_⟩
     · cases e
     · cases e;exact Yc HM.out h2
    have hbg:=aO.out.block g hg Hg;have d1:=(Be (a:=⟨g,j*2,none⟩) hbg).trans q1;have d2:=(Be (a:=⟨g,j*2+1,none⟩) hbg).trans q2;have k1:=(Be (a:=⟨cb,0,none⟩) (aO.out.block cb hcb hcn)).trans HC.out;have hxl:=HL.out _ (B1 cD);have HT:Hid (KN Q ((F.take (j+1)).map (·.1))=Hv.put (KN Q ((F.take j).map (·.1))) F[j].1 LB):=JY (by rw[AT cD,GB];exact abF _ _ _);have iZ:(KN Q ((F.take j).map (·.1))).length<maxLen:=by
     have:=NH ((F.take j).map (·.1)) Q;rw[DH,DD] at this;unfold maxLen;omega
    obtain ⟨q,hq⟩:∃ q,F[j]=q:=⟨_,rfl⟩
    rw[hq] at d1 d2 hxl HT;obtain ⟨x,y⟩:=q;obtain ⟨Qj,Ea⟩:∃ Qj,KN Q ((F.take j).map (·.1))=Qj:=⟨_,rfl⟩
    rw[Ea] at aQ HT iZ;have hxl:x.length<=24:=hxl;have gN:x.length<=maxLen:=by unfold maxLen;omega
    have hm2:=aQ.out.alloc (.cells #[.string ⟨x.toArray⟩, .string ⟨y.toArray⟩] 247);have hz:=aO.out.size;have G7 : ¬ wr.heap.size=cb:=by omega
    have bp:=JY (aO.out.alloc aO.out.size (.cells #[.string ⟨x.toArray⟩, .string ⟨y.toArray⟩] 247));have hrow2:=AF wr (.cells #[.string ⟨x.toArray⟩, .string ⟨y.toArray⟩] 247);have k2:=(Mv (by omega) (.cells #[.string ⟨x.toArray⟩, .string ⟨y.toArray⟩] 247)).trans k1;have e2:=(JZ hrow2 0).trans (show _=some (.string ⟨x.toArray⟩) from rfl);obtain ⟨w5,hrun,fI,oG⟩:=hm2.store Tryz.underlying146 iZ x gN (.agg #[]);have dL:=Kv oG;have hsu:(wr.alloc (.cells #[.string ⟨x.toArray⟩, .string ⟨y.toArray⟩] 247)).heap.size=wr.heap.size+1:=by simp
    have k5:=(Be (a:=⟨cb,0,none⟩) (dL.block cb (show cb<(wr.alloc (.cells #[.string ⟨x.toArray⟩, .string ⟨y.toArray⟩] 247)).heap.size by omega) hcn)).trans k2;have e5:=(Be (a:=⟨wr.heap.size,0,none⟩) (dL.block wr.heap.size (show wr.heap.size<(wr.alloc (.cells #[.string ⟨x.toArray⟩, .string ⟨y.toArray⟩] 247)).heap.size by omega) (by omega))).trans e2;have eI:Hid (J6 w5 sm (KN Q ((F.take (j+1)).map (·.1)))):=JY (by rw[HT.out];exact fI);have fy:=JY (bp.out.next dL bp.out.size (fun _ _ q=>q));clear hv q1 q2 hq Ea hbg fI oG dL hrow2 hsu k1;go_wp2_with fail;go_roundw
    case rel=>exact ⟨j+1,by omega,by go_num,eI,fy⟩
    case measure=>simp[intOf];omega
  · obtain rfl:j=nn:=by omega
    have b1 : ¬ (j:Int)<(j:Int):=by omega
    have eI:Hid (J6 wr sm (KN Q (F.map (·.1)))):=JY (by have:=aQ.out;rwa [An (by have:=HN.out;omega)] at this);go_wp2_with fail
    go_end0
    exact ⟨⟨_,rfl⟩,eI.out,aO.out⟩
end
section
open Hv (S VM)
theorem PG:∀ (l:List S) (Q:VM Value),Hv.Ki Q->Hv.Ki (KN Q l)
 | [],_,h=>h
 | x::l,Q,h=>PG l (Hv.put Q x LB) (h.put x LB)
theorem NJ:∀ (l:List S) (Q:VM Value),Hv.Ki Q->OG Q->OG (KN Q l)
 | [],_,_,h=>h
 | x::l,Q,hs,h=>NJ l (Hv.put Q x LB) (hs.put x LB) (OG.put h hs x)
theorem NG:∀ (l:List S) (Q:VM Value),Hv.Ki Q->∀ x,Hv.has (KN Q l) x=true ↔ Hv.has Q x=true\/x∈l
 | [],_,_,x=>by simp[KN]
 | y::l,Q,h,x=>by
   have:=NG l (Hv.put Q y LB) (h.put y LB) x;have e:KN Q (y::l)=KN (Hv.put Q y LB) l:=rfl;rw[e,this,Xg h,List.mem_cons,or_assoc]
def KE (D:VM Hv.PD) (n:S):List S:=match Hv.get D n with
 | none=>[]
 | some d=>d.paths
def LX (D:VM Hv.PD) (R:VM Value) (Q:VM Value):VM Value:=R.foldl (fun q p=>KN q (KE D p.1)) Q
def MI (D I:VM Hv.PD) (Q:VM Value):VM Value:=I.foldl (fun q p=>KN (KN q (KE D p.1)) p.2.paths) Q
def Kr (D:VM Hv.PD) (R:VM Value) (I:VM Hv.PD):VM Value:=MI D I (LX D R [])
theorem OE(D:VM Hv.PD):∀ (R Q:VM Value),Hv.Ki Q->OG Q->Hv.Ki (LX D R Q)/\OG (LX D R Q)/\∀ x,Hv.has (LX D R Q) x=true ↔ Hv.has Q x=true \/ ∃ p∈R,x∈KE D p.1
 | [],Q,h,u=>⟨h,u,fun x=>by simp[LX]⟩
 | p::R,Q,h,u=>by
   have h1:=PG (KE D p.1) Q h;obtain ⟨a,b,c⟩:=OE D R (KN Q (KE D p.1)) h1 (NJ _ _ h u);have e:LX D (p::R) Q=LX D R (KN Q (KE D p.1)):=rfl;rw[e];refine ⟨a,b,fun x => ?_⟩;rw[c,NG _ _ h,or_assoc];simp
theorem OD(D:VM Hv.PD):∀ (I:VM Hv.PD) (Q:VM Value),Hv.Ki Q->OG Q->Hv.Ki (MI D I Q)/\OG (MI D I Q)/\∀ x,Hv.has (MI D I Q) x=true ↔ Hv.has Q x=true \/ ∃ p∈I,x∈KE D p.1\/x∈p.2.paths
 | [],Q,h,u=>⟨h,u,fun x=>by simp[MI]⟩
 | p::I,Q,h,u=>by
   have h1:=PG (KE D p.1) Q h;have u1:=NJ (KE D p.1) Q h u;obtain ⟨a,b,c⟩:=OD D I (KN (KN Q (KE D p.1)) p.2.paths) (PG _ _ h1) (NJ _ _ h1 u1);have e:MI D (p::I) Q=MI D I (KN (KN Q (KE D p.1)) p.2.paths):=rfl;rw[e];refine ⟨a,b,fun x => ?_⟩;rw[c,NG _ _ h1,NG _ _ h,or_assoc,or_assoc];simp[or_assoc]
theorem abn{Q Q':VM Value} (h:Hv.Ki Q) (h':Hv.Ki Q') (u:OG Q) (u':OG Q') (hk:∀ x,Hv.has Q x=true ↔ Hv.has Q' x=true):Q=Q' :=
 h.Lr h' fun k=>by
  have e:=hk k;rw[Hv.J9,Hv.J9] at e;cases q:Hv.get Q k with
  | none =>
    cases q':Hv.get Q' k with
    | none=>rfl
    | some v=>rw[q,q'] at e;simp at e
  | some v =>
    cases q':Hv.get Q' k with
    | none=>rw[q,q'] at e;simp at e
    | some v'=>rw[u k v q,u' k v' q']
open Go.RowKit
open Hv (Dk)
theorem N9(a:Option Addr) (n c im km:Nat) (w:World):Calls Tryz.prog 69 #[.agg #[.slice a n c, .map (some im), .map (some km)]] w fun e w'=>e = .returned (.int .i64 n)/\Below w.heap.size w w':=by
 go_enter Tryz.func69,Tryz.ntmps69;go_wp2_with fail;go_ret;exact ⟨rfl,(AD _ w).alloc (AC _) _⟩
theorem abe(w:World):Calls Tryz.prog 69 #[.agg #[.slice none 0 0, .map none, .map none]] w fun e w'=>e = .returned (.int .i64 0)/\Below w.heap.size w w':=by
 go_enter Tryz.func69,Tryz.ntmps69;go_wp2_with fail;go_ret;exact ⟨rfl,(AD _ w).alloc (AC _) _⟩
theorem SE(w:World):(zeroValue 31).run Tryz.prog w = .ok (.slice none 0 0) w:=Tryz.zeroValue31 w
def ajO (K:VM Value):Prop:=∀ k v,Hv.get K k=some v->∃ a n c,v = .slice a n c
theorem XB(a:Option Addr) (n c im km:Nat) (K:VM Value) (hK:ajO K) (x:S) (hx:x.length<=maxLen) (w:World) (h:J6 w km K) :
 Calls Tryz.prog 193 #[.agg #[.slice a n c, .map (some im), .map (some km)], .string ⟨x.toArray⟩] w fun e w'=>e = .returned (.int .i64 (if Hv.has K x=true then 3 else 2))/\Below w.heap.size w w':=by
 have h1:=h.alloc (.cells #[.slice a n c, .map (some im), .map (some km)] 100);have HB:=JY ((AD w.heap.size w).alloc (AC _) (.cells #[.slice a n c, .map (some im), .map (some km)] 100));cases q:Hv.get K x with
 | none =>
   have hh:Hv.has K x=false:=by rw[Hv.J9,q];rfl
   rw[hh];go_enter Tryz.func193,Tryz.ntmps193;go_wp2_with (first
    | (at_lookup;refine K6 rfl _ _ 98 rfl 31 Tryz.underlying98 (SE _) h1 rfl x hx rfl ?_;rw[q,hh];simp only[FS]))
   go_ret;exact ⟨rfl,HB.out⟩
 | some v =>
   obtain ⟨va,vn,vc,rfl⟩:=hK x v q;have hh:Hv.has K x=true:=by rw[Hv.J9,q];rfl
   rw[hh];go_enter Tryz.func193,Tryz.ntmps193;go_wp2_with (first
    | (at_lookup;refine K6 rfl _ _ 98 rfl 31 Tryz.underlying98 (SE _) h1 rfl x hx rfl ?_;rw[q,hh];simp only[DE]))
   go_ret;exact ⟨rfl,HB.out⟩
end
section
open Go.RowKit
open Kw (St)
open Hv (S Dk VM)
namespace Hv
theorem XQ{α β:Type} (f:S->α->β) (k:S):∀ E:VM α,get (E.map fun p=>(p.1,f p.1 p.2)) k=(get E k).map (f k)
 | []=>rfl
 | p::E=>by
   have ih:=XQ f k E;unfold get at ih |-;by_cases e:p.1=k
   · rw[Cp,List.find?_cons_of_pos (by simp[e]),List.find?_cons_of_pos (by simp[e])];simp[e]
   · rw[Cp,List.find?_cons_of_neg (by simp[e]),List.find?_cons_of_neg (by simp[e])];exact ih
theorem Ki.am2{α β:Type} {E:VM α} (h:Ki E) (f:S->α->β):Ki (E.map fun p=>(p.1,f p.1 p.2)):=List.pairwise_map.2 h
def PD.to (d:PD) (s:Int):PD:={ d with status:=s }
def QB (D:VM PD) (K:VM Value) (left:S->Bool):VM PD:=D.map fun p=>(p.1,if has K p.1=true/\left p.1=false/\p.2.status=2 then p.2.to 3 else p.2)
def woke (D:VM PD) (K:VM Value):VM PD:=QB D K fun _=>false
end Hv
variable {D:VM Hv.PD}{E:VM Value}{k:S}
theorem Ls.YI(h:Ls N w D E) (hE:Hv.Ki E)  {p:Pk} {d:Hv.PD} (hg:Hv.get E k=some p.val) (hd:Hv.get D k=some d) (s:Int):Ls N w (Hv.put D k (d.to s)) (Hv.put E k (p.to s).val):=by
 refine h.put hE k ?_;obtain ⟨d',hd',q,hq,q1,q2,q3,q4,q5,q6⟩:=h.P8 k _ hg;rw[hd] at hd';cases hd';have e:q.to s=p.to s:=by
  have:=IN (fun v=>v) hq;unfold Pk.val Pk.cells at this;cases p with | mk a1 a2 a3 b1 b2 b3 b4 b5 b6 st =>
  cases q with | mk c1 c2 c3 e1 e2 e3 e4 e5 e6 st' =>
  obtain ⟨_,_,_⟩:=b1;obtain ⟨_,_,_⟩:=b2;obtain ⟨_,_,_⟩:=b3;obtain ⟨_,_,_⟩:=b4;obtain ⟨_,_,_⟩:=b5;obtain ⟨_,_,_⟩:=b6;obtain ⟨_,_,_⟩:=e1;obtain ⟨_,_,_⟩:=e2;obtain ⟨_,_,_⟩:=e3;obtain ⟨_,_,_⟩:=e4;obtain ⟨_,_,_⟩:=e5;obtain ⟨_,_,_⟩:=e6;simp at this;simp[Pk.to,this]
 refine ⟨q.to s,by rw[e],q1,q2,q3,rfl,⟨q5.parse,fun i => ?_⟩,fun i g hg=>q6 i g ?_⟩
 · have:=q5.rows i
   match i with
   | 0=>exact this
   | 1=>exact this
   | 2=>exact this
   | 3=>exact this
   | 4=>exact this
   | 5=>exact this
 · match i with
   | 0=>exact hg
   | 1=>exact hg
   | 2=>exact hg
   | 3=>exact hg
   | 4=>exact hg
   | 5=>exact hg
theorem Ls.turned{w':World} {B:Nat}   (h:Ls N w D E) (hm:∀ cs t fz,w.heap[b]? ≠ some (.cells cs t fz)) (hf:Kj B (fun k=>k=b) w w') (hB:w.heap.size<=B):Ls N w' D E:=by
 have hr:∀ d v,Tp N w d v->Tp N w' d v:=by
  rintro d v ⟨p,h1,h2,h3,h4,h5,h6,h7⟩;refine ⟨p,h1,h2,h3,h4,h5,h6.far hf hB (fun i g hg e => ?_),h7⟩;rcases (h6.rows i).2 with ⟨q,_⟩ | ⟨g',cap,cur,q,_,q2,_⟩
  · rw[q] at hg;cases hg
  · rw[q] at hg;cases hg;have e':g'=b:=e;subst e';exact hm _ _ _ q2
 exact ⟨h.Mt,fun k v q=>(h.P8 k v q).imp fun _ a=>⟨a.1,hr _ _ a.2⟩,fun k v q=>(h.Vk k v q).imp fun _ a=>⟨a.1,hr _ _ a.2⟩⟩
theorem J6.MB(h:J6 w b E):∀ cs t fz,w.heap[b]? ≠ some (.cells cs t fz):=fun _ _ _ hr=>Yc h hr rfl
theorem KO.MB{r cnt:Nat}  {left:S->Bool} (h:KO w b r E left cnt):∀ cs t fz,w.heap[r]? ≠ some (.cells cs t fz):=by
 obtain ⟨h0,es,clock,since,seen,c0,q1,q2,q3,q4,q5,q6⟩:=h;intro cs t fz e;rw[q5] at e;cases e
theorem UA(p:Pk) (w:World):(Instr.field 169 p.val 2).run Tryz.prog w = .ok (.int .i64 p.status) w:=by kernel_rfl
theorem OU(D:VM Hv.PD) (K:VM Value) (left:S->Bool) (k:S):Hv.get (Hv.QB D K left) k=(Hv.get D k).map fun d=>if Hv.has K k=true/\left k=false/\d.status=2 then d.to 3 else d :=
 Hv.XQ (fun (k:S) (d:Hv.PD)=>if Hv.has K k=true/\left k=false/\d.status=2 then d.to 3 else d) k D
theorem Qb(h:Hv.Ki D) (K:VM Value) (left:S->Bool):Hv.Ki (Hv.QB D K left):=h.am2 (fun (k:S) (d:Hv.PD)=>if Hv.has K k=true/\left k=false/\d.status=2 then d.to 3 else d)
theorem aeZ(h:Hv.Ki D) (K:VM Value):Hv.QB D K (Hv.has K)=D:=(Qb h K _).Lr h fun k=>by
 rw[OU];cases Hv.get D k with
 | none=>rfl
 | some d =>
   simp only[Option.map_some];rw[Bm (by rintro ⟨a,b,_⟩;rw[a] at b;cases b)]
theorem aay(h:Hv.Ki D) (K:VM Value) (left:S->Bool) (k:S) (hk:∀ d,Hv.get D k=some d->d.status≠2):Hv.QB D K (fun z=>left z && !(z==k))=Hv.QB D K left:=(Qb h K _).Lr (Qb h K _) fun x=>by
 rw[OU,OU];cases q:Hv.get D x with
 | none=>rfl
 | some d =>
   by_cases e:x=k
   · subst e;have:=hk d q;simp[this]
   · simp[e]
theorem ajA(h:Hv.Ki D) {K:VM Value} {left:S->Bool}  {d:Hv.PD} (hd:Hv.get D k=some d) (hs:d.status=2) (hK:Hv.has K k=true):Hv.QB D K (fun z=>left z && !(z==k))=Hv.put (Hv.QB D K left) k (d.to 3):=(Qb h K _).Lr ((Qb h K _).put _ _) fun x=>by
 by_cases e:x=k
 · subst e;rw[Hv.Ka (Qb h K _),OU,hd];simp[hK,hs]
 · rw[Hv.J7 (Qb h K _) _ e,OU,OU];simp[e]
theorem ahg(a:Option Addr) (n c im km mb pm fm:Nat) (P F K:VM Value) (D:VM Hv.PD) (N:Nat->Prop) (dD:P.length<=1000) (hK:ajO K) (w:World) (hk:J6 w km K) (hm:Kh mb pm fm P F w) (hP:Ls N w D P) (hne:km≠pm) :
 Calls Tryz.prog 85 #[.agg #[.slice a n c, .map (some im), .map (some km)], .pointer (some ⟨mb,0,none⟩)] w fun e w'=>∃ u P',e = .returned u/\Kh mb pm fm P' F w'/\Ls N w' (Hv.woke D K) P'/\Kj w.heap.size (fun k=>k=pm) w w':=by
 have hrow:=AF w (.cells #[.slice a n c, .map (some im), .map (some km)] 100);have hb0:=(AD w.heap.size w).alloc (AC _) (.cells #[.slice a n c, .map (some im), .map (some km)] 100);have c2:=(JZ hrow 2).trans (show _=some (.map (some km)) from rfl);have hk1:=hk.below hb0;have hkl:=hk.lt;have hpl:=hm.packs.lt;have HM:=JY hm;have aD:=JY hP;have aC:=JY hb0;have hsz:(w.alloc (.cells #[.slice a n c, .map (some im), .map (some km)] 100)).heap.size=w.heap.size+1:=by simp
 clear hm hP hrow hb0;go_enter Tryz.func85,Tryz.ntmps85;go_wp2_with (first
  | (at_range;refine Mc rfl _ 98 rfl 31 Tryz.underlying98 hk1 rfl ?_;intro w0 hrg0 hg0 hs0;have aT:=JY hrg0;have ag:=JY (aC.out.grown hg0 (by simp) (fun q hq=>by cases hq))))
 rw[hsz] at aT hs0 |-
 go_frame
 clear hg0 hrg0 c2 hk1;go_loopw [8] (fun _ wr=>∃ (left:S->Bool) (cnt:Nat) (E:VM Value),Hid (KO wr km (w.heap.size+1) K left cnt)/\Hid (Kh mb pm fm E F wr)/\Hid (Ls N wr (Hv.QB D K left) E)/\Hid (E.length<=1000)/\Hid (Kj w.heap.size (fun k=>k=pm) w wr)/\w.heap.size+1<wr.heap.size)
  (fun _ wr=>wr.rangeLeft km (w.heap.size+1))
 case atStart=>exact ⟨_,_,P,aT,JY (HM.out.below ag.out),JY (by rw[aeZ aD.out.Mt];exact aD.out.below ag.out),JY dD,JY (Kj.of ag.out (AC _)),by omega⟩
 case round =>
  clear aT;obtain ⟨left,cnt,E,HG,aQ,bB,dW,HF,hsz1⟩:=hrel;go_wp2_with (first
   | (at_next;refine MW rfl _ rfl (w.heap.size+1) left cnt rfl HG.out ?_ ?_))
  · intro hc0 hl0;have hl:left=fun _=>false:=funext hl0
    subst hl;go_wp2_with fail
    go_end0
    exact ⟨⟨_,rfl⟩,E,aQ.out,bB.out,HF.out⟩
  · intro k v w4 cnt1 hk' hlk hget hrg1 hlt hg1 hs1 hen;obtain ⟨va,vn,vc,rfl⟩:=hK k v hget;have vg:Hv.has K k=true:=by rw[Hv.J9,hget];rfl
    have oh:Kj wr.heap.size (fun q=>q=w.heap.size+1) wr w4:=⟨hg1.os,hg1.tape,hg1.output,hg1.size,fun q hq hc=>hg1.block q hq (fun e=>hc (Cd e))⟩;have aY:=blt HM.out.blk;have hfl:=HM.out.files.lt;have dJ:=JY (aQ.out.far oh (AC _) ⟨by omega,by omega,by omega⟩);have dY:=JY (bB.out.turned HG.out.MB oh (AC _));have ey:=JY (HF.out.trans (show Kj w.heap.size (fun q=>q=pm) wr w4 from ⟨oh.os,oh.tape,oh.output,oh.size,fun q hq hc=>oh.block q (by omega) (by omega)⟩));have fQ:=JY hrg1;have hs4:w4.heap.size=wr.heap.size:=hs1;have m0:=(JZ dJ.out.blk 0).trans (show _=some (.map (some pm)) from rfl);have gG:=dJ.out.packs;clear hrg1 hg1 hget oh;cases hq:Hv.get E k with
    | none =>
      have uZ:∀ d,Hv.get D k=some d->d.status≠2:=fun d hd=>by
       have:=dY.out.get_none hq;rw[OU,hd] at this;cases this
      have yI:=UA (Pk.mk [] [] [] ⟨none,0,0⟩ ⟨none,0,0⟩ ⟨none,0,0⟩ ⟨none,0,0⟩ ⟨none,0,0⟩ ⟨none,0,0⟩ 0) w4;simp only[Pk.val,Pk.cells] at yI;go_wp2_with (first
       | (at_lookup;refine Ol rfl _ _ 97 rfl 169 IS (KW _) gG rfl k hk' rfl ?_;rw[hq];simp only[FS]))
      go_roundw
      case rel=>exact ⟨_,cnt1,E,fQ,dJ,JY (by rw[aay aD.out.Mt K left k uZ];exact dY.out),dW,ey,by omega⟩
      case measure=>rw[fQ.out.left_eq,HG.out.left_eq];exact hlt
    | some u =>
      obtain ⟨d',hd',p,rfl,p1,p2,p3,p4,hpk, -⟩:=dY.out.P8 k u hq;have hd0:∃ d,Hv.get D k=some d/\d'=d:=by
       rw[OU] at hd';cases e:Hv.get D k with
       | none=>rw[e] at hd';cases hd'
       | some d =>
         rw[e] at hd';simp only[Option.map_some,Option.some.injEq] at hd';rw[Bm (by rintro ⟨_,b,_⟩;rw[hlk] at b;cases b)] at hd';exact ⟨d,rfl,hd'.symm⟩
      obtain ⟨d,hd,rfl⟩:=hd0;have HD:=JY hd;have aK:=JY hd';have HS:=JY p4;have HQ:=JY hq;have yI:=UA p w4;simp only[Pk.val,Pk.cells] at yI;clear hpk p1 p2 p3 p4 hd hd';by_cases h2:p.status=2
      · rw[h2] at yI;go_wp2_with (first
         | (at_lookup;refine Ol rfl _ _ 97 rfl 169 IS (KW _) gG rfl k hk' rfl ?_;rw[hq];simp only[DE,Pk.val,Pk.cells]))
        refine (Qn mb pm fm E F k hk' p HQ.out 3 (by have:=dW.out;unfold maxLen;omega) w4 dJ.out).mono ?_;rintro e w5 ⟨u5,rfl,fI,dL⟩;have eI:=JY fI;have dN:=JY (fQ.out.far dL (AC _) hne (by omega));have eJ:Hid (Ls N w5 (Hv.QB D K (fun z=>left z && !(z==k))) (Hv.put E k (p.to 3).val)):=JY (by
         rw[ajA aD.out.Mt HD.out (by rw[<- HS.out];exact h2) vg];exact (dY.out.YI gG.1 HQ.out aK.out 3).turned gG.MB dL (AC _))
        have fy:=JY (ey.out.next dL (by omega) (fun _ _ q=>q));have FE:Hid ((Hv.put E k (p.to 3).val).length<=1000):=JY (by
         have e1:=eJ.out.len fI.packs.1;rw[e1];have e2:(Hv.QB D K fun z=>left z && !(z==k)).length=D.length:=by unfold Hv.QB;simp
         rw[e2,<- aD.out.len HM.out.packs.1];exact dD)
        have hs5:=dL.size;clear fI dL;go_wp2_with fail;go_roundw
        case rel=>exact ⟨_,cnt1,_,dN,eI,eJ,FE,fy,by omega⟩
        case measure=>rw[dN.out.left_eq,HG.out.left_eq];exact hlt
      · go_wp2_with (first
         | (at_lookup;refine Ol rfl _ _ 97 rfl 169 IS (KW _) gG rfl k hk' rfl ?_;rw[hq];simp only[DE,Pk.val,Pk.cells]))
        go_roundw
        case rel=>exact ⟨_,cnt1,E,fQ,dJ,JY (by rw[aay aD.out.Mt K left k (fun d2 h=>by rw[HD.out] at h;cases h;rw[<- HS.out];exact h2)];exact dY.out),dW,ey,by omega⟩
        case measure=>rw[fQ.out.left_eq,HG.out.left_eq];exact hlt
theorem afh(cb sm:Nat) (Q:VM Value) (hQ:Q.length<=1000000) (N:Nat->Prop) (d:Hv.PD) (v:Value) (w:World) (h:Tp N w d v) (hm:J6 w sm Q) (hc:w.cell? ⟨cb,0,none⟩=some (.map (some sm))) :
 Calls Tryz.prog 186 #[v, .pointer (some ⟨cb,0,none⟩)] w fun e w'=>∃ u,e = .returned u/\J6 w' sm (KN Q d.paths)/\Kj w.heap.size (fun k=>k=sm) w w':=by
 obtain ⟨p,rfl,h2,h3,h4,h5,h6,h7⟩:=h;have hg:=(Lm h6.parse).2.2.files;have hf:=(KZ h6.parse).2.2.1.2.2.2.1;exact abH cb sm Q hQ p d.st.files (by omega) (fun q hq=>Qy (hg q hq).1) w (h6.rows 3) hm hc
theorem af4(cb sm:Nat) (Q:VM Value) (hQ:Q.length<=1000000) (w:World) (hm:J6 w sm Q) (hc:w.cell? ⟨cb,0,none⟩=some (.map (some sm))) :
 Calls Tryz.prog 186 #[.agg zeroCells, .pointer (some ⟨cb,0,none⟩)] w fun e w'=>∃ u,e = .returned u/\J6 w' sm Q/\Kj w.heap.size (fun k=>k=sm) w w' :=
 abH cb sm Q hQ (Pk.mk [] [] [] ⟨none,0,0⟩ ⟨none,0,0⟩ ⟨none,0,0⟩ ⟨none,0,0⟩ ⟨none,0,0⟩ ⟨none,0,0⟩ 0) [] (by simp) (fun q hq=>by cases hq) w (Cf _ _ _ _) hm hc
def ajX (E:VM Value) (k:S):Value:=(Hv.get E k).getD (.agg zeroCells)
theorem afg(cb sm:Nat) (Q:VM Value) (hQ:Q.length<=1000000) (N:Nat->Prop) (D:VM Hv.PD) (E:VM Value) (k:S) (w:World) (h:Ls N w D E) (hm:J6 w sm Q) (hc:w.cell? ⟨cb,0,none⟩=some (.map (some sm))) :
 Calls Tryz.prog 186 #[ajX E k, .pointer (some ⟨cb,0,none⟩)] w fun e w'=>∃ u,e = .returned u/\J6 w' sm (KN Q (KE D k))/\Kj w.heap.size (fun k=>k=sm) w w':=by
 unfold ajX KE;cases q:Hv.get E k with
 | none=>rw[h.get_none q];exact af4 cb sm Q hQ w hm hc
 | some v =>
   obtain ⟨d,hd,hr⟩:=h.P8 k v q;rw[hd];exact afh cb sm Q hQ N d v w hr hm hc
theorem Wq(h:Ls N w D E) (k:S):(KE D k).length<=21:=by
 unfold KE;cases q:Hv.get D k with
 | none=>simp
 | some d =>
   obtain ⟨v,_,p,_,_,_,_,_,hpk,_⟩:=h.Vk k d q;have:=(KZ hpk.parse).2.2.1.2.2.2.1;simp only[Hv.PD.paths,DH];exact this
end
end Go.Proofs.YtfhmaiicimdldaaGreatDoor
