import Derived.Test.YtfhmaiicimdldaaGreatDoorFinJ23
set_option maxHeartbeats 4000000
set_option maxRecDepth 100000
namespace Go.Proofs.YtfhmaiicimdldaaGreatDoor
variable {B B' K K' a b db j m n:Nat}{w w' w1 w2:World}{k r:Int}{v:Value}{C C1 D:Nat->Prop}
section
open Go.RowKit
open Hv (S Dx)
def Om:Nat->World->Nat->Value->Int->Prop
 | 0,w,B,v,r=>∃ b s,v = .iface 126 (.pointer (some ⟨b,0,none⟩))/\B<=b/\w.heap[b]? = some (.cells #[.string s, .int .i64 r] 131 (0,0))
 | k+1,w,B,v,r=>∃ b s u,v = .iface 183 (.pointer (some ⟨b,0,none⟩))/\B<=b/\w.heap[b]? = some (.cells #[.string s,u] 185 (0,0))/\Om k w B u r
def ahL (B:Nat) (w:World) (v:Value) (r:Int):Prop:=∃ k,Om k w B v r
def EV (B:Nat) (w:World) (v:Value) (r:Int):Prop:=(r=0/\v = .nilIface)\/((r=16\/r=17)/\ahL B w v r)
theorem Om.kept(h:∀ k,B<=k->k<w.heap.size->w'.heap[k]? = w.heap[k]?):∀ {k:Nat} {v:Value},Om k w B v r->Om k w' B v r
 | 0,_,⟨b,s,e,hb,c⟩=>⟨b,s,e,hb,(h b hb (blt c)).trans c⟩
 | _+1,_,⟨b,s,u,e,hb,c,n⟩=>⟨b,s,u,e,hb,(h b hb (blt c)).trans c,Om.kept h n⟩
theorem EV.kept(e:EV B w v r) (h:∀ k,B<=k->k<w.heap.size->w'.heap[k]? = w.heap[k]?):EV B w' v r:=e.imp id fun ⟨h1,k,n⟩=>⟨h1,k,Om.kept h n⟩
theorem EV.below(e:EV B w v r) (h:Below w.heap.size w w'):EV B w' v r:=e.kept fun k _ hk=>h.block k hk
theorem Om.base(hB:B'<=B):∀ {k:Nat} {v:Value},Om k w B v r->Om k w B' v r
 | 0,_,⟨b,s,e,hb,c⟩=>⟨b,s,e,Bi hB hb,c⟩
 | _+1,_,⟨b,s,u,e,hb,c,n⟩=>⟨b,s,u,e,Bi hB hb,c,Om.base hB n⟩
theorem EV.base(e:EV B w v r) (hB:B'<=B):EV B' w v r:=e.imp id fun ⟨h1,k,n⟩=>⟨h1,k,n.base hB⟩
theorem EV.form(e:EV B w v r):(r=0/\v = .nilIface)\/((r=16\/r=17)/\∃ t b,v = .iface t (.pointer (some ⟨b,0,none⟩))/\ahL B w v r):=by
 refine e.imp id fun ⟨h1,k,n⟩=>⟨h1,?_⟩
 cases k with
 | zero=>obtain ⟨b,s,rfl,hb,c⟩:=n;exact ⟨_,b,rfl,0,b,s,rfl,hb,c⟩
 | succ k=>obtain ⟨b,s,u,rfl,hb,c,n⟩:=n;exact ⟨_,b,rfl,k+1,b,s,u,rfl,hb,c,n⟩
theorem Pe(s:ByteArray) (B:Nat) (v:Value) (r:Int) (w:World) (hv:EV B w v r) (hB:B<=w.heap.size) :
 Calls Tryz.prog 42 #[.string s,v] w fun e w'=>∃ v',e = .returned v'/\EV B w' v' r/\Below w.heap.size w w':=by
 rcases hv.form with ⟨rfl,rfl⟩ | ⟨h1,t,b,rfl,k,hk⟩
 · go_enter Tryz.func42,Tryz.ntmps42
   go_wp2
   go_ret;exact ⟨_,rfl, .inl ⟨rfl,rfl⟩,AD _ _⟩
 · have HK:=JY hk;have H1:=JY h1;clear hv hk h1;go_enter Tryz.func42,Tryz.ntmps42
   go_wp2
   go_ret;have hb:=(AD w.heap.size w).alloc (AC _) (.cells #[.string s, .iface t (.pointer (some ⟨b,0,none⟩))] 185);exact ⟨_,rfl, .inr ⟨H1.out,k+1,_,_,_,rfl,hB,AF w _,Om.kept (fun k _ hk=>hb.block k hk) HK.out⟩,hb⟩
def ND (op:Dx->Dx × Int):Nat->Dx->Dx × Int
 | 0,d=>op d
 | k+1,d=>if (op d).2=16 then ND op k (op d).1 else op d
theorem anm(g:Nat) (cs:Array Value) (op:Dx->Dx × Int) (he:∀ args w,(callFunc g args).run Tryz.prog w = .ok (.enter g args) w) (P:Nat->Dx->World->Prop) (R:Dx->Int->World->Prop) (hop:∀ d,(op d).2=0\/(op d).2=16\/(op d).2=17)
 (h:∀ j d w,j<=3->P j d w->Calls Tryz.prog g cs w fun e w'=>e = .returned (.int .i64 (op d).2)/\R (op d).1 (op d).2 w'/\((op d).2=16->P (j+1) (op d).1 w')) (nm:S) (d:Dx) (w:World) (hP:P 0 d w) :
 Calls Tryz.prog 152 #[.string ⟨nm.toArray⟩, .func (.func g) #[] cs] w fun e w'=>∃ v,e = .returned v/\∃ w1,R (ND op 3 d).1 (ND op 3 d).2 w1/\Below w1.heap.size w1 w'/\EV w1.heap.size w' v (ND op 3 d).2:=by
 have HH:=JY h;have bj:=JY hop;have h0:=h 0 d w (by omega) hP;clear h hop hP;go_enter Tryz.func152,Tryz.ntmps152;go_wp2_with fail;refine h0.mono ?_;rintro e w1 ⟨rfl,h1,h2⟩;have ay:Hid (ND op 3 d=if (op d).2=16/\0<3 then ND op (3-0-1) (op d).1 else op d):=JY (by simp[ND]);have cS:=JY h1;have cF:=JY h2;have fK:=bj.out d;clear h0 h1 h2;obtain ⟨q,hq⟩:∃ q,op d=q:=⟨_,rfl⟩
 rw[hq] at ay cS cF fK |-;obtain ⟨d1,r⟩:=q;simp only at ay cS cF fK |-;clear hq;go_wp2_with fail;go_loopw [5,6] (fun a i wr=>∃ (t:Nat) (d1:Dx) (r:Int),t<=3/\a = .int .i64 r/\i = .int .i64 (t:Int)/\(r=0\/r=16\/r=17)/\Hid (ND op 3 d=if r=16/\t<3 then ND op (3-t-1) d1 else (d1,r))/\Hid (R d1 r wr)/\Hid (r=16->P (t+1) d1 wr)) (fun _ i _=>3-(intOf i).toNat)
 case atStart=>exact ⟨0,d1,r,by omega,rfl,rfl,fK,ay,cS,cF⟩
 case round =>
  clear ay cS cF fK;obtain ⟨t,d1,r,ht,rfl,rfl,hrc,HI,HR,HP⟩:=hrel;by_cases hc:r=16/\t<3
  · obtain ⟨rfl,oF⟩:=hc;have hti:(t:Int)<3:=by omega
    have h0:=HH.out (t+1) d1 wr (by omega) (HP.out rfl);have iL:=bj.out d1;have cj:Hid (ND op 3 d=if (op d1).2=16/\t+1<3 then ND op (3-(t+1)-1) (op d1).1 else op d1):=JY (by
     rw[HI.out,By ⟨rfl,oF⟩];rcases (show t=0\/t=1\/t=2 by omega) with rfl | rfl | rfl<;>simp[ND])
    clear HR HP HI hrc;go_wp2_with fail;refine h0.mono ?_;rintro e w2 ⟨rfl,h1,h2⟩;have HR:=JY h1;have HP:=JY h2;obtain ⟨q,hq⟩:∃ q,op d1=q:=⟨_,rfl⟩
    rw[hq] at cj HR HP iL |-;obtain ⟨d2,r2⟩:=q;simp only at cj HR HP iL |-;clear h0 h1 h2 hq;go_wp2_with fail;go_roundw
    case rel=>exact ⟨t+1,d2,r2,by omega,rfl,by go_num,iL,cj,HR,HP⟩
    case measure=>simp[intOf];omega
  · have hI:ND op 3 d=(d1,r):=by rw[HI.out,Bm hc]
    have aM:=JY hI;have hc2:(r=16 /\ ¬ (t:Int)<3)\/r=0\/r=17:=by omega
    clear hI HI hc;rcases hc2 with ⟨rfl,oF⟩ | rfl | rfl
    · go_wp2_with fail;go_ret;rw[aM.out];exact ⟨_,rfl,wr,HR.out,(AD _ _).alloc (AC _) _, .inr ⟨.inl rfl,0,_,_,rfl,AC _,AF wr _⟩⟩
    · go_wp2_with fail;go_ret;rw[aM.out];exact ⟨_,rfl,wr,HR.out,AD _ _, .inl ⟨rfl,rfl⟩⟩
    · go_wp2_with fail;go_ret;rw[aM.out];exact ⟨_,rfl,wr,HR.out,(AD _ _).alloc (AC _) _, .inr ⟨.inr rfl,0,_,_,rfl,AC _,AF wr _⟩⟩
namespace Hv
def Dx.calm (d:Dx):Prop:=d.fl.n=0/\d.after<0/\d.gone=false
def Dx.tidy (d:Dx):Prop:=d.bad=[]/\0<=d.worst/\d.worst<=3
def Dx.core (d:Dx):List S × List (List S) × Nat:=(d.now,d.may,d.wr)
structure Turn (f:Dx->Dx):Prop where
 core:∀ d e:Dx,d.core=e.core->(f d).core=(f e).core
 rest:∀ d:Dx,(f d).calls=d.calls/\(f d).after=d.after/\(f d).gone=d.gone/\(f d).fl=d.fl/\(f d).bad=d.bad/\(f d).worst=d.worst
theorem Ml{d e:Dx} (h:d.core=e.core):d.now=e.now/\d.may=e.may/\d.wr=e.wr:=by
 simp only[Dx.core,Prod.mk.injEq] at h;exact h
theorem ak0:Turn id:=⟨fun _ _ h=>h,fun _=>⟨rfl,rfl,rfl,rfl,rfl,rfl⟩⟩
theorem YL:Turn Dx.flush:=⟨fun d e h=>by obtain ⟨h1,h2,h3⟩:=Ml h;simp[Dx.core,Dx.flush,h1,h3],fun _=>⟨rfl,rfl,rfl,rfl,rfl,rfl⟩⟩
theorem aeT(n:Nat) (x:S):Turn fun d=>d.write n x:=⟨fun d e h=>by obtain ⟨h1,h2,h3⟩:=Ml h;simp[Dx.core,Dx.write,h1,h2,h3],fun _=>⟨rfl,rfl,rfl,rfl,rfl,rfl⟩⟩
structure Tk (d d':Dx) (f:Dx->Dx) (r:Int):Prop where
 rr:r=0\/r=16\/r=17
 fl:d'.fl=d.fl
 after:d'.after=d.after
 calls:d.calls<=d'.calls/\d'.calls<=d.calls+4
 ahZ:d'.bad.length+d.calls<=d.bad.length+d'.calls
 ok:r=0->d'.gone=false/\(d.tidy->d'.tidy)/\d'.core=(f d).core
 no:r≠0 -> ¬ d.calm/\d'.core=d.core/\((r=16/\d.fl.n≠0/\d'.gone=false/\(d.tidy->d'.worst=4))\/(r=17/\d'.gone=true))
end Hv
open Hv (Tk Turn)
variable {d0:Dx}{f:Dx->Dx}
def Te (k n:Int) (f:Dx->Dx) (d:Dx):Dx × Int:=(Dx.act d k n f,(d.call k n).2)
structure Mid (k n:Int) (d0:Dx) (j:Nat) (d:Dx):Prop where
 core:d.core=d0.core
 fl:d.fl=d0.fl/\d.after=d0.after
 calls:d.calls=d0.calls+j
 len:d.bad.length<=d0.bad.length+j
 gone:0<j->d.gone=false/\d0.gone=false/\d0.fl.n≠0
 same:j=0->d.gone=d0.gone
 tidy:d0.tidy->Hv.cnt d k n=j/\Hv.Oi k n d.bad=[]/\d.worst=max d0.worst j
theorem Mid.zero(k n:Int) (d:Dx):Mid k n d 0 d:=⟨rfl,⟨rfl,rfl⟩,rfl,AC _,fun q=>by omega,fun _=>rfl,fun t=>⟨by simp[Hv.cnt,Hv.Xz,t.1],by simp[Hv.Oi,t.1],by have:=t.2;omega⟩⟩
theorem acr(k n c:Int):Hv.isB k n (k,n,c)=true:=by simp[Hv.isB]
theorem Mid.next{n:Int} {d:Dx}   (h:Mid k n d0 j d) (hr:(Te k n f d).2=16):Mid k n d0 (j+1) (Te k n f d).1:=by
 have hc:d.gone=false/\d.hit=true/\(d.call k n).1=({ d with calls:=d.calls+1 }:Dx).fails k n:=by
  simp only[Te,Dx.call] at hr;split at hr
  · cases hr
  · rename_i q1
    split at hr
    · cases hr
    · rename_i q2
      split at hr
      · rename_i q3
        refine ⟨by simpa using q1,q3,?_⟩;rw[Dx.call,Bm q1,Bm q2,By q3]
      · cases hr
 obtain ⟨c1,c2,c3⟩:=hc;have hn:d0.fl.n≠0:=fun q=>by
  have:d.hit=false:=by simp[Dx.hit,h.fl.1,q]
  rw[this] at c2;cases c2
 have e:(Te k n f d).1=(d.call k n).1:=by
  simp only[Te,Dx.act] at hr |-;rw[Bm (by rw[hr];decide)]
 rw[e,c3];have hgo:d0.gone=false:=by
  by_cases q:j=0
  · rw[<- h.same q];exact c1
  · exact (h.gone (by omega)).2.1
 have hrl:=VE k n d.bad;refine ⟨h.core,h.fl,by show d.calls+1=_;rw[h.calls];rfl,?_,fun _=>⟨c1,hgo,hn⟩,fun q=>by omega,fun t => ?_⟩
 · show (Hv.Oi k n d.bad++[_]).length<=_;rw[AS,List.length_singleton];have:=h.len;omega
 · obtain ⟨t1,t2,t3⟩:=h.tidy t;refine ⟨?_,?_,?_⟩
   · show Hv.Xz k n (Hv.Oi k n d.bad++[(k,n,Hv.cnt d k n+1)])=_;rw[Vd,By (acr _ _ _),t1];show (j:Int)+1=((j+1:Nat):Int);omega
   · show Hv.Oi k n (Hv.Oi k n d.bad++[(k,n,Hv.cnt d k n+1)])=_;rw[TV,By (acr _ _ _),t2];rfl
   · show max d.worst (Hv.cnt d k n+1)=_;rw[t1,t3];omega
theorem Mid.done{n:Int} {d:Dx}   (hf:Turn f) (h:Mid k n d0 j d) (hj:j<=3) (hr:(Te k n f d).2≠16):Tk d0 (Te k n f d).1 f (Te k n f d).2:=by
 have hfl:=h.fl;have hcl:=h.calls;have cU:=h.core;have hle:=h.len;by_cases hgo:d.gone=true
 · have e:=Zv (k:=k) (n:=n) hgo;have hn : ¬ d0.calm:=fun q=>by
    by_cases h0:j=0
    · have:=h.same h0;rw[q.2.2,hgo] at this;cases this
    · have:=(h.gone (by omega)).1;rw[hgo] at this;cases this
   have e2:Te k n f d=(d,17):=by rw[Te,Dx.act,e];rfl
   rw[e2];exact ⟨.inr (.inr rfl),hfl.1,hfl.2,(by simp only;omega),(by simp only;omega),fun q=>(by cases q),fun _=>⟨hn,cU, .inr ⟨rfl,hgo⟩⟩⟩
 · have hgo:d.gone=false:=by simpa using hgo
   by_cases ho:0<=d.after/\d.after<=(d.calls:Int)
   · have e:=abR (k:=k) (n:=n) hgo ho.1 ho.2;have hn : ¬ d0.calm:=fun q=>by have:=q.2.1;rw[hfl.2] at ho;omega
     have e2:Te k n f d=({ d with gone:=true },17):=by rw[Te,Dx.act,e];rfl
     rw[e2];exact ⟨.inr (.inr rfl),hfl.1,hfl.2,(by simp only;omega),(by simp only;omega),fun q=>(by cases q),fun _=>⟨hn,cU, .inr ⟨rfl,rfl⟩⟩⟩
   · cases hh:d.hit with
     | true=>exact absurd (by rw[Te,abQ hgo ho hh]) hr
     | false =>
       have e:=Zu (k:=k) (n:=n) hgo ho hh;have e2:Te k n f d=(f (({ d with calls:=d.calls+1 }:Dx).fine k n),0):=by rw[Te,Dx.act,e];rfl
       rw[e2];obtain ⟨f1,f2,f3,f4,f5,f6⟩:=hf.rest (({ d with calls:=d.calls+1 }:Dx).fine k n);refine ⟨.inl rfl,f4.trans hfl.1,f2.trans hfl.2,?_,?_,fun _=>⟨f3.trans hgo,fun ht => ?_,hf.core _ _ cU⟩,fun q=>absurd rfl q⟩
       · show d0.calls<=(f _).calls/\(f _).calls<=d0.calls+4;rw[f1];show d0.calls<=d.calls+1/\d.calls+1<=d0.calls+4;omega
       · show (f _).bad.length+d0.calls<=d0.bad.length+(f _).calls;rw[f1,f5];show (Hv.Oi k n d.bad).length+d0.calls<=d0.bad.length+(d.calls+1);have:=VE k n d.bad;omega
       · obtain ⟨w1,w2,w3⟩:=h.tidy ht;have h2:=ht.2;refine ⟨f5.trans w2,?_,?_⟩
         · show 0<=(f _).worst;rw[f6];show 0<=d.worst;omega
         · show (f _).worst<=3;rw[f6];show d.worst<=3;omega
theorem Mid.last{n:Int} {d:Dx}  (h:Mid k n d0 4 d):Tk d0 d f 16:=by
 obtain ⟨g1,g2,g3⟩:=h.gone (by omega);have hcl:=h.calls;have hle:=h.len;refine ⟨.inr (.inl rfl),h.fl.1,h.fl.2,(by omega),(by omega),fun q=>(by cases q),fun _=>⟨fun q=>g3 q.1,h.core, .inl ⟨rfl,g3,g1,fun t => ?_⟩⟩⟩;have h2:=t.2;rw[(h.tidy t).2.2];omega
theorem afQ{n:Int}   (hf:Turn f):∀ (m j:Nat) (d:Dx),j+m=3->Mid k n d0 j d->Tk d0 (ND (Te k n f) m d).1 f (ND (Te k n f) m d).2
 | 0,j,d,e,h=>by
   obtain rfl:j=3:=by omega
   show Tk d0 (Te k n f d).1 f (Te k n f d).2;by_cases hr:(Te k n f d).2=16
   · rw[hr];exact (h.next hr).last
   · exact h.done hf (by omega) hr
 | m+1,j,d,e,h=>by
   rw[ND];by_cases hr:(Te k n f d).2=16
   · rw[By hr];exact afQ hf m (j+1) _ (by omega) (h.next hr)
   · rw[Bm hr];exact h.done hf (by omega) hr
theorem abl{n:Int} {d:Dx}  (hf:Turn f):Tk d (ND (Te k n f) 3 d).1 f (ND (Te k n f) 3 d).2:=afQ hf 3 0 d rfl (Mid.zero k n d)
open Hv (Tk Turn)
theorem ae7(db:Nat) (op:Dx->Dx × Int) (P:Nat->Dx->World->Prop) (R:Dx->Int->World->Prop) (hop:∀ d,(op d).2=0\/(op d).2=16\/(op d).2=17)
 (h:∀ j d w,j<=3->P j d w->Calls Tryz.prog 340 #[.pointer (some ⟨db,0,none⟩)] w fun e w'=>e = .returned (.int .i64 (op d).2)/\R (op d).1 (op d).2 w'/\((op d).2=16->P (j+1) (op d).1 w')) (nm:S) (d:Dx) (w:World) (hP:P 0 d w) :
 Calls Tryz.prog 152 #[.string ⟨nm.toArray⟩, .func (.method "Flush") #[.iface 24 (.pointer (some ⟨db,0,none⟩))] #[]] w fun e w'=>∃ v,e = .returned v/\∃ w1,R (ND op 3 d).1 (ND op 3 d).2 w1/\Below w1.heap.size w1 w'/\EV w1.heap.size w' v (ND op 3 d).2:=by
 have HH:=JY h;have bj:=JY hop;have h0:=h 0 d w (by omega) hP;clear h hop hP;have hm:=aep db;go_enter Tryz.func152,Tryz.ntmps152;go_wp2_with fail;refine h0.mono ?_;rintro e w1 ⟨rfl,h1,h2⟩;have ay:Hid (ND op 3 d=if (op d).2=16/\0<3 then ND op (3-0-1) (op d).1 else op d):=JY (by simp[ND]);have cS:=JY h1;have cF:=JY h2;have fK:=bj.out d;clear h0 h1 h2;obtain ⟨q,hq⟩:∃ q,op d=q:=⟨_,rfl⟩
 rw[hq] at ay cS cF fK |-;obtain ⟨d1,r⟩:=q;simp only at ay cS cF fK |-;clear hq;go_wp2_with fail;go_loopw [5,6] (fun a i wr=>∃ (t:Nat) (d1:Dx) (r:Int),t<=3/\a = .int .i64 r/\i = .int .i64 (t:Int)/\(r=0\/r=16\/r=17)/\Hid (ND op 3 d=if r=16/\t<3 then ND op (3-t-1) d1 else (d1,r))/\Hid (R d1 r wr)/\Hid (r=16->P (t+1) d1 wr)) (fun _ i _=>3-(intOf i).toNat)
 case atStart=>exact ⟨0,d1,r,by omega,rfl,rfl,fK,ay,cS,cF⟩
 case round =>
  clear ay cS cF fK;obtain ⟨t,d1,r,ht,rfl,rfl,hrc,HI,HR,HP⟩:=hrel;by_cases hc:r=16/\t<3
  · obtain ⟨rfl,oF⟩:=hc;have hti:(t:Int)<3:=by omega
    have h0:=HH.out (t+1) d1 wr (by omega) (HP.out rfl);have iL:=bj.out d1;have cj:Hid (ND op 3 d=if (op d1).2=16/\t+1<3 then ND op (3-(t+1)-1) (op d1).1 else op d1):=JY (by
     rw[HI.out,By ⟨rfl,oF⟩];rcases (show t=0\/t=1\/t=2 by omega) with rfl | rfl | rfl<;>simp[ND])
    clear HR HP HI hrc;go_wp2_with fail;refine h0.mono ?_;rintro e w2 ⟨rfl,h1,h2⟩;have HR:=JY h1;have HP:=JY h2;obtain ⟨q,hq⟩:∃ q,op d1=q:=⟨_,rfl⟩
    rw[hq] at cj HR HP iL |-;obtain ⟨d2,r2⟩:=q;simp only at cj HR HP iL |-;clear h0 h1 h2 hq;go_wp2_with fail;go_roundw
    case rel=>exact ⟨t+1,d2,r2,by omega,rfl,by go_num,iL,cj,HR,HP⟩
    case measure=>simp[intOf];omega
  · have hI:ND op 3 d=(d1,r):=by rw[HI.out,Bm hc]
    have aM:=JY hI;have hc2:(r=16 /\ ¬ (t:Int)<3)\/r=0\/r=17:=by omega
    clear hI HI hc;rcases hc2 with ⟨rfl,oF⟩ | rfl | rfl
    · go_wp2_with fail;go_ret;rw[aM.out];exact ⟨_,rfl,wr,HR.out,(AD _ _).alloc (AC _) _, .inr ⟨.inl rfl,0,_,_,rfl,AC _,AF wr _⟩⟩
    · go_wp2_with fail;go_ret;rw[aM.out];exact ⟨_,rfl,wr,HR.out,AD _ _, .inl ⟨rfl,rfl⟩⟩
    · go_wp2_with fail;go_ret;rw[aM.out];exact ⟨_,rfl,wr,HR.out,(AD _ _).alloc (AC _) _, .inr ⟨.inr rfl,0,_,_,rfl,AC _,AF wr _⟩⟩
def anr (k n:Int) (C:Nat->Prop) (db:Nat) (d0:Dx) (w0:World) (E:World->Prop) (j:Nat) (d:Dx) (w:World):Prop:=Mid k n d0 j d/\E w/\∃ C',Kq C' db d w/\Gr C C' w0 w
def ant (C:Nat->Prop) (db:Nat) (w0:World) (E:Dx->Int->World->Prop) (d:Dx) (r:Int) (w:World):Prop:=E d r w/\∃ C',Kq C' db d w/\Gr C C' w0 w
theorem Q8{d:Dx} (au:d.calls+10<1000000000000) (w:World) (h:Kq C db d w) :
 Calls Tryz.prog 88 #[.agg (M7 db m)] w fun e w'=>∃ v,e = .returned v/\∃ d' C' r,EV w.heap.size w' v r/\Tk d d' Hv.Dx.flush r/\Kq C' db d' w'/\Gr C C' w w':=by
 have HD:=JY h;clear h;unfold M7;go_enter Tryz.func88,Tryz.ntmps88;go_wp2_with fail;have tI:=JY ((Gr.refl C w).alloc (.cells (M7 db m) 123));have bH:=JY (HD.out.alloc (.cells (M7 db m) 123));unfold M7 at tI bH;obtain ⟨w1,hw1⟩:∃ u,w.alloc (.cells #[.iface 24 (.pointer (some ⟨db,0,none⟩)), .int .i64 m] 123)=u:=⟨_,rfl⟩
 rw[hw1] at tI bH |-;have hs1:w.heap.size<=w1.heap.size:=tI.out.1.size;clear hw1 HD;refine (ae7 db (Te 102 0 Hv.Dx.flush) (anr 102 0 C db d w1 fun _=>True) (ant C db w1 fun _ _ _=>True) (fun d=>U9 d 102 0) (fun j d1 w2 hj hP => ?_) [70,108,117,115,104] d w1 ⟨Mid.zero _ _ _,trivial,C,bH.out,Gr.refl _ _⟩).mono ?_
 · obtain ⟨h1, -,C1,h2,h3⟩:=hP;refine (amx (by have:=h1.calls;omega) w2 h2).mono ?_;rintro e w3 ⟨rfl,C2,q1,q2⟩;exact ⟨rfl,⟨trivial,C2,q1,h3.trans q2⟩,fun hr=>⟨h1.next hr,trivial,C2,q1,h3.trans q2⟩⟩
 rintro e w2 ⟨v,rfl,w3,⟨-,C2,q1,q2⟩,hb,hv⟩;have hr:=abl (k:=102) (n:=0) (d:=d) Hv.YL;have HR:=JY hr;have HQ:=JY q1;have kT:=JY ((tI.out.trans q2).below hb);have HV:=JY hv;have HB:=JY hb;have hs3:w.heap.size<=w3.heap.size:=(tI.out.trans q2).1.size;clear hr q1 q2 hb hv;go_wp2_with fail;go_ret;exact ⟨_,rfl,_,C2,_,HV.out.base hs3,HR.out,HQ.out.below HB.out,kT.out⟩
theorem ajd{d d':Dx} (h:d'.fl=d.fl):d'.rb=d.rb:=by simp only[Dx.rb,h]
theorem ae3{r:Nat} {d:Dx} (x:S) (hx:d.now[n]? = some x) (au:d.calls+1<1000000000000) (w:World) (h:Kq C db d w) (y:Value) (yQ : ¬ C r/\r≠d.rb)
 (ha:w.heap[a]? = some (.cells (M7 db m) 123 (0,0))) (hb:w.heap[b]? = some (.cells #[.int .i64 n] 3 (0,0))) (ft:w.heap[r]? = some (.cells #[y] 9 (0,0))) :
 Calls Tryz.prog 153 #[.pointer (some ⟨a,0,none⟩), .pointer (some ⟨b,0,none⟩), .pointer (some ⟨r,0,none⟩)] w fun e w'=>e = .returned (.int .i64 (d.call 114 n).2)/\∃ C',Kq C' db (d.call 114 n).1 w'/\w'.heap[r]? = some (.cells #[.string ⟨(if (d.call 114 n).2=0 then x else []).toArray⟩] 9 (0,0))/\Kj w.heap.size (fun k=>C k\/k=r) w w'/\∀ k,C' k->C k\/w.heap.size<=k:=by
 have HX:=JY (ank n x hx au w h);have a0:=(JZ ha 0).trans (show _=some (.iface 24 (.pointer (some ⟨db,0,none⟩))) from rfl);have b0:=(JZ hb 0).trans (show _=some (.int .i64 n) from rfl);have hm:=agL db;have hrl:=blt ft;have HR:=JY ft;have HC:=JY yQ;have gX:=JY (ajd (Sn d 114 n).2.2.2.1);unfold rdV at HX;obtain ⟨q,hq⟩:∃ q,d.call 114 n=q:=⟨_,rfl⟩
 obtain ⟨z,hz⟩:∃ z,(if q.2=0 then x else [])=z:=⟨_,rfl⟩
 rw[hq] at HX gX |-;rw[hz] at HX |-;clear h ha hb ft yQ hx hq hz;go_enter Tryz.func153,Tryz.ntmps153;go_wp2_with (go_at_call 341;refine HX.out.mono ?_;rintro e w1 ⟨rfl,C',hd1,hg1⟩;have hr1:=(hg1.block HC.out.1 hrl).trans HR.out;have r0:=(JZ hr1 0).trans (show _=some y from rfl);have r1:=J2 hr1 0;have bO:=JY hr1;have bH:=JY hd1;have aZ:=JY hg1;clear hr1 hd1 hg1)
 go_ret;exact ⟨rfl,C',bH.out.set r 0 ⟨aZ.out.old HC.out.1 hrl,by rw[gX.out];exact HC.out.2⟩ _,AI _ r 0 _ _ _ bO.out,(aZ.out.1.mono (AC _) (fun _ _ => .inl)).setCell (p:=⟨r,0,none⟩) (.inr (.inr rfl)) _,aZ.out.2⟩
structure RdP (C:Nat->Prop) (db m n:Nat) (d0:Dx) (w0:World) (C':Nat->Prop) (d:Dx) (w:World):Prop where
 dk:Kq C' db d w
 gr:Gr C C' w0 w
 fl:d.fl=d0.fl
 no : ¬ C' w0.heap.size /\ ¬ C' (w0.heap.size+1) /\ ¬ C' (w0.heap.size+1+1)
 a:w.heap[w0.heap.size]? = some (.cells (M7 db m) 123 (0,0))
 b:w.heap[w0.heap.size+1]? = some (.cells #[.int .i64 n] 3 (0,0))
theorem VW{d:Dx} (x:S) (hx:d.now[n]? = some x) (au:d.calls+10<1000000000000) (hn:n<=1000000) (w:World) (h:Kq C db d w) (hbs:Base w) (bt:∀ k,C k->12<=k) :
 Calls Tryz.prog 89 #[.agg (M7 db m), .int .i64 n] w fun e w'=>∃ v r,e = .returned (.tuple #[.string ⟨(if r=0 then x else []).toArray⟩,v])/\∃ d' C',EV w.heap.size w' v r/\Tk d d' id r/\Kq C' db d' w'/\Gr C C' w w':=by
 have HD:=JY h;have HX:=JY hx;have aJ:=JY hbs;have bD:=JY bt;have hlt:=JY h.lt;have hrb:=JY h.rb.2;clear h hx hbs bt;go_enter Tryz.func89,Tryz.ntmps89;go_wp2_with fail;have av:=JY ((((AD w.heap.size w).alloc (AC _) (.cells (M7 db m) 123)).alloc (by simp) (.cells #[.int .i64 n] 3)).alloc (by simp;omega) (.cells #[.string ⟨#[]⟩] 9));have ha:(((w.alloc (.cells (M7 db m) 123)).alloc (.cells #[.int .i64 n] 3)).alloc (.cells #[.string ⟨#[]⟩] 9)).heap[w.heap.size]? = some (.cells (M7 db m) 123 (0,0)) :=
  (AM _ _ _ (by simp;omega)).trans ((AM _ _ _ (by simp)).trans (AF w _))
 have hb:(((w.alloc (.cells (M7 db m) 123)).alloc (.cells #[.int .i64 n] 3)).alloc (.cells #[.string ⟨#[]⟩] 9)).heap[w.heap.size+1]? = some (.cells #[.int .i64 n] 3 (0,0)) :=
  (AM _ _ _ (by simp)).trans (by have:=AF (w.alloc (.cells (M7 db m) 123)) (.cells #[.int .i64 n] 3);simpa using this)
 have hr:(((w.alloc (.cells (M7 db m) 123)).alloc (.cells #[.int .i64 n] 3)).alloc (.cells #[.string ⟨#[]⟩] 9)).heap[w.heap.size+1+1]? = some (.cells #[.string ⟨#[]⟩] 9 (0,0)):=by
  have:=AF ((w.alloc (.cells (M7 db m) 123)).alloc (.cells #[.int .i64 n] 3)) (.cells #[.string ⟨#[]⟩] 9);simpa using this
 obtain ⟨w3,hw3⟩:∃ w3,(((w.alloc (.cells (M7 db m) 123)).alloc (.cells #[.int .i64 n] 3)).alloc (.cells #[.string ⟨#[]⟩] 9))=w3:=⟨_,rfl⟩
 have hs3:w.heap.size+3<=w3.heap.size:=by rw[<- hw3];simp
 rw[hw3] at ha hb hr av |-;clear hw3;have vo:RdP C db m n d w C d w3:=⟨HD.out.below av.out,(Gr.refl C w).below av.out,rfl,⟨fun q=>by have:=hlt.out _ q;omega,fun q=>by have:=hlt.out _ q;omega,fun q=>by have:=hlt.out _ q;omega⟩,ha,hb⟩;refine (anm 153 #[.pointer (some ⟨w.heap.size,0,none⟩), .pointer (some ⟨w.heap.size+1,0,none⟩), .pointer (some ⟨w.heap.size+1+1,0,none⟩)] (Te 114 n id) aaN
  (fun j d1 w1=>Mid 114 n d j d1/\(∃ C',RdP C db m n d w C' d1 w1)/\∃ y,w1.heap[w.heap.size+1+1]? = some (.cells #[y] 9 (0,0)))
  (fun d1 r w1=>(∃ C',RdP C db m n d w C' d1 w1)/\w1.heap[w.heap.size+1+1]? = some (.cells #[.string ⟨(if r=0 then x else []).toArray⟩] 9 (0,0)))
  (fun d=>U9 d 114 n) (fun j d1 w2 hj hP => ?_) [82,101,97,100] d w3 ⟨Mid.zero _ _ _,⟨C,vo⟩,_,hr⟩).mono ?_
 · obtain ⟨h1,⟨C1,p⟩,y,hy⟩:=hP;have hsz:=p.gr.1.size;have hl2:=blt hy;have Cc:d1.rb=d.rb:=ajd p.fl;refine (ae3 x (by rw[(Hv.Ml h1.core).1];exact HX.out) (by have:=h1.calls;omega) w2 p.dk y ⟨p.no.2.2,by rw[Cc];have:=hrb.out;omega⟩ p.a p.b hy).mono ?_;rintro e w4 ⟨rfl,C2,q1,q2,q3,q4⟩;have e1:(Te 114 n id d1).1=(d1.call 114 n).1:=by simp only[Te,Dx.act,id];split<;>rfl
   have hp:RdP C db m n d w C2 (Te 114 n id d1).1 w4:=by
    rw[e1];refine ⟨q1,⟨p.gr.1.next q3 hsz fun i hi q => ?_,fun k q => ?_⟩,(Sn d1 114 n).2.2.2.1.trans p.fl,⟨fun q => ?_,fun q => ?_,fun q => ?_⟩,(q3.block _ (by omega) (fun q => ?_)).trans p.a,(q3.block _ (by omega) (fun q => ?_)).trans p.b⟩
    · exact q.elim (fun q=>(p.gr.2 i q).resolve_right (by omega)) (fun q=>by omega)
    · exact (q4 k q).elim (p.gr.2 k) (fun q => .inr (by omega))
    · exact (q4 _ q).elim p.no.1 (fun q=>by omega)
    · exact (q4 _ q).elim p.no.2.1 (fun q=>by omega)
    · exact (q4 _ q).elim p.no.2.2 (fun q=>by omega)
    · exact q.elim p.no.1 (fun q=>by omega)
    · exact q.elim p.no.2.1 (fun q=>by omega)
   exact ⟨rfl,⟨⟨C2,hp⟩,q2⟩,fun hr=>⟨h1.next hr,⟨C2,hp⟩,_,q2⟩⟩
 rintro e w4 ⟨v,rfl,w5,⟨⟨C2,p⟩,hy⟩,aG,hv⟩;have hr:=abl (k:=114) (n:=n) (d:=d) Hv.ak0;obtain ⟨q,hq⟩:∃ q,ND (Te 114 n id) 3 d=q:=⟨_,rfl⟩
 rw[hq] at hv hr p hy;obtain ⟨d5,r⟩:=q;simp only at hv hr p hy;have b4:=(JZ ((aG.block _ (blt p.b)).trans p.b) 0).trans (show _=some (.int .i64 n) from rfl);have HR:=JY hr;have HV:=JY hv;have hsz:=p.gr.1.size;have kT:=JY (p.gr.below aG);have xP:=JY (p.dk.below aG);have aB:=JY (aJ.out.far kT.out.1 aJ.out.size bD.out);have JB:=(JZ ((aG.block _ (blt hy)).trans hy) 0).trans (show _=some (.string ⟨(if r=0 then x else []).toArray⟩) from rfl);have ft:=hr.rr;have hs5:=aG.size;clear ha hb av vo hq hr p hy aG HD;rcases hv.form with ⟨rfl,rfl⟩ | ⟨h0,t,bb,rfl, -⟩
 · clear hv ft;go_wp2_with fail;go_ret2;exact ⟨_,0,rfl,d5,C2,HV.out.base (by omega),HR.out,xP.out,kT.out⟩
 · clear hv;go_wp2_with fail;refine (U0 n hn _ aB.out).mono ?_;rintro e w6 ⟨z,rfl,aN⟩;have bF:=JY aN;clear aN;go_wp2_with fail;refine (Pe _ w.heap.size _ r _ ((HV.out.base (by omega)).below bF.out) (by have:=bF.out.size;omega)).mono ?_;rintro e w7 ⟨v,rfl,q1,q2⟩;have cR:=JY q1;have bR:=JY q2;clear q1 q2;go_wp2_with fail;go_ret2;have e0:(if r=0 then x else [])=[]:=Bm (by omega);refine ⟨_,r,(by rw[e0];rfl),d5,C2,cR.out,HR.out,(xP.out.below bF.out).below bR.out,(kT.out.below bF.out).below bR.out⟩
theorem adw{r:Nat} {d:Dx} (x:S) (hn:n<d.now.length) (hmb:(d.may.getD n []).length<=1000000) (au:d.calls+1<1000000000000) (w:World) (h:Kq C db d w)
 (ha:w.heap[a]? = some (.cells (M7 db m) 123 (0,0))) (hb:w.heap[b]? = some (.cells #[.int .i64 n] 3 (0,0))) (ft:w.heap[r]? = some (.cells #[.string ⟨x.toArray⟩] 9 (0,0))) :
 Calls Tryz.prog 199 #[.pointer (some ⟨a,0,none⟩), .pointer (some ⟨b,0,none⟩), .pointer (some ⟨r,0,none⟩)] w fun e w'=>e = .returned (.int .i64 (d.call 119 n).2)/\∃ C',Kq C' db (Dx.act d 119 n fun d=>d.write n x) w'/\Gr C C' w w':=by
 have HX:=JY (amB n hn x hmb au w h);have a0:=(JZ ha 0).trans (show _=some (.iface 24 (.pointer (some ⟨db,0,none⟩))) from rfl);have b0:=(JZ hb 0).trans (show _=some (.int .i64 n) from rfl);have r0:=(JZ ft 0).trans (show _=some (.string ⟨x.toArray⟩) from rfl);have hm:=aer db;clear h ha hb ft hmb hn;go_enter Tryz.func199,Tryz.ntmps199;go_wp2_with (go_at_call 343;refine HX.out.mono ?_;rintro e w1 ⟨rfl,C',hd1,hg1⟩;have bH:=JY hd1;have aZ:=JY hg1;clear hd1 hg1)
 go_ret;exact ⟨rfl,C',bH.out,aZ.out⟩
structure WrP (C:Nat->Prop) (db m n A R:Nat) (x:S) (w0:World) (C':Nat->Prop) (d:Dx) (w:World):Prop where
 dk:Kq C' db d w
 gr:Gr C C' w0 w
 no : ¬ C' A /\ ¬ C' (A+1) /\ ¬ C' R
 a:w.heap[A]? = some (.cells (M7 db m) 123 (0,0))
 b:w.heap[A+1]? = some (.cells #[.int .i64 n] 3 (0,0))
 r:w.heap[R]? = some (.cells #[.string ⟨x.toArray⟩] 9 (0,0))
theorem YQ{d:Dx} (x:S) (hx:x.length<=256) (hn:n<d.now.length) (dF:n<=1000000) (hmb:(d.may.getD n []).length<=1000000) (au:d.calls+10<1000000000000) (w:World) (h:Kq C db d w) (hbs:Base w) (bt:∀ k,C k->12<=k) :
 Calls Tryz.prog 145 #[.agg (M7 db m), .int .i64 n, .string ⟨x.toArray⟩] w fun e w'=>∃ v,e = .returned v/\∃ d' C' r,EV w.heap.size w' v r/\Tk d d' (fun d=>d.write n (MK x)) r/\Kq C' db d' w'/\Gr C C' w w':=by
 have HD:=JY h;have HN:=JY hn;have HM:=JY hmb;have aJ:=JY hbs;have bD:=JY bt;have hlt:=JY h.lt;have e1:(256:Int)-(x.length:Int)=((256-x.length:Nat):Int):=by omega
 clear h hn hmb hbs bt;go_enter Tryz.func145,Tryz.ntmps145;go_wp2_with fail;refine (noughts (256-x.length) (by omega) _).mono ?_;rintro e w1 ⟨rfl,hb1⟩;have ha:=(hb1.block w.heap.size (by simp;omega)).trans ((AM _ _ _ (by simp)).trans (AF w (.cells (M7 db m) 123)));have hb:=(hb1.block (w.heap.size+1) (by simp)).trans (show ((w.alloc (.cells (M7 db m) 123)).alloc (.cells #[.int .i64 n] 3)).heap[w.heap.size+1]? = some (.cells #[.int .i64 n] 3 (0,0)) by
  have:=AF (w.alloc (.cells (M7 db m) 123)) (.cells #[.int .i64 n] 3);simpa using this)
 have hs1:w.heap.size+2<=w1.heap.size:=by have:=hb1.size;simp at this;omega
 have ag:=JY ((((AD w.heap.size w).alloc (AC _) (.cells (M7 db m) 123)).alloc (by simp) (.cells #[.int .i64 n] 3)).trans (hb1.mono (by simp;omega)));have hl:x.length+(256-x.length)=256:=by omega
 clear hb1;go_wp2_with fail;rw[agT];have hr:=AF w1 (.cells #[.string ⟨(MK x).toArray⟩] 9);have ha2:=(AM w1 (.cells #[.string ⟨(MK x).toArray⟩] 9) w.heap.size (by omega)).trans ha;have hb2:=(AM w1 (.cells #[.string ⟨(MK x).toArray⟩] 9) (w.heap.size+1) (by omega)).trans hb;have ah:=JY (ag.out.alloc (by omega) (.cells #[.string ⟨(MK x).toArray⟩] 9));obtain ⟨R,hR⟩:∃ R,w1.heap.size=R:=⟨_,rfl⟩
 obtain ⟨w3,hw3⟩:∃ w3,w1.alloc (.cells #[.string ⟨(MK x).toArray⟩] 9)=w3:=⟨_,rfl⟩
 rw[hw3] at hr ha2 hb2 ah |-;rw[hR] at hr hs1 |-;clear hw3 hR ha hb ag;have vo:WrP C db m n w.heap.size R (MK x) w C d w3:=⟨HD.out.below ah.out,(Gr.refl C w).below ah.out,⟨fun q=>by have:=hlt.out _ q;omega,fun q=>by have:=hlt.out _ q;omega,fun q=>by have:=hlt.out _ q;omega⟩,ha2,hb2,hr⟩;refine (anm 199 #[.pointer (some ⟨w.heap.size,0,none⟩), .pointer (some ⟨w.heap.size+1,0,none⟩), .pointer (some ⟨R,0,none⟩)] (Te 119 n fun d=>d.write n (MK x)) Y6
  (fun j d1 w1=>Mid 119 n d j d1/\∃ C',WrP C db m n w.heap.size R (MK x) w C' d1 w1)
  (fun d1 _ w1=>∃ C',WrP C db m n w.heap.size R (MK x) w C' d1 w1)
  (fun d=>U9 d 119 n) (fun j d1 w2 hj hP => ?_) [87,114,105,116,101] d w3 ⟨Mid.zero _ _ _,C,vo⟩).mono ?_
 · obtain ⟨h1,C1,p⟩:=hP;have cU:=Hv.Ml h1.core;refine (adw (MK x) (by rw[cU.1];exact HN.out) (by rw[cU.2.1];exact HM.out) (by have:=h1.calls;omega) w2 p.dk p.a p.b p.r).mono ?_;rintro e w4 ⟨rfl,C2,q1,q2⟩;have l1:=blt p.a;have l2:=blt p.b;have l3:=blt p.r;have hp:WrP C db m n w.heap.size R (MK x) w C2 (Te 119 n (fun d=>d.write n (MK x)) d1).1 w4:=⟨q1,p.gr.trans q2,⟨q2.old p.no.1 l1,q2.old p.no.2.1 l2,q2.old p.no.2.2 l3⟩,(q2.block p.no.1 l1).trans p.a,(q2.block p.no.2.1 l2).trans p.b,(q2.block p.no.2.2 l3).trans p.r⟩;exact ⟨rfl,⟨C2,hp⟩,fun hr=>⟨h1.next hr,C2,hp⟩⟩
 rintro e w4 ⟨v,rfl,w5,⟨C2,p⟩,aG,hv⟩;have hr:=abl (k:=119) (n:=n) (d:=d) (Hv.aeT n (MK x));obtain ⟨q,hq⟩:∃ q,ND (Te 119 n fun d=>d.write n (MK x)) 3 d=q:=⟨_,rfl⟩
 rw[hq] at hv hr p;obtain ⟨d5,r⟩:=q;simp only at hv hr p;have b4:=(JZ ((aG.block _ (blt p.b)).trans p.b) 0).trans (show _=some (.int .i64 n) from rfl);have HR:=JY hr;have hsz:=p.gr.1.size;have hs5:=aG.size;have kT:=JY (p.gr.below aG);have xP:=JY (p.dk.below aG);have aB:=JY (aJ.out.far kT.out.1 aJ.out.size bD.out);have HV:=JY (hv.base hsz);clear ha2 hb2 hr ah vo hq p aG HD hv;go_wp2_with fail;refine (U0 n dF _ aB.out).mono ?_;rintro e w6 ⟨z,rfl,aN⟩;have bF:=JY aN;clear aN;go_wp2_with fail;refine (Pe _ w.heap.size _ r _ (HV.out.below bF.out) (by have:=bF.out.size;omega)).mono ?_;rintro e w7 ⟨v',rfl,q1,q2⟩;have cR:=JY q1;have bR:=JY q2;clear q1 q2;go_wp2_with fail;go_ret;exact ⟨_,rfl,d5,C2,r,cR.out,HR.out,(xP.out.below bF.out).below bR.out,(kT.out.below bF.out).below bR.out⟩
namespace Hv
variable {d':Dx}{Q:List S->Prop}{im:List S}{x:S}
structure Ns (d d':Dx) (r:Int) (K:Nat):Prop where
 rr:r=0\/r=16\/r=17
 fl:d'.fl=d.fl
 after:d'.after=d.after
 calls:d.calls<=d'.calls/\d'.calls<=d.calls+K
 ahZ:d'.bad.length+d.calls<=d.bad.length+d'.calls
 ok:r=0->d'.gone=false/\(d.tidy->d'.tidy)
 no:r≠0 -> ¬ d.calm/\((r=16/\d.fl.n≠0/\d'.gone=false/\(d.tidy->d'.worst=4))\/(r=17/\d'.gone=true))
theorem Tk.op{d:Dx} {f:Dx->Dx}  (h:Tk d d' f r):Ns d d' r 4 :=
 ⟨h.rr,h.fl,h.after,h.calls,h.ahZ,fun q=>⟨(h.ok q).1,(h.ok q).2.1⟩,fun q=>⟨(h.no q).1,(h.no q).2.2⟩⟩
theorem Ns.calm{d:Dx}  (h:Ns d d' 0 K) (hc:d.calm):d'.calm:=⟨by rw[h.fl];exact hc.1,by rw[h.after];exact hc.2.1,(h.ok rfl).1⟩
theorem Ns.trans{d d1 d2:Dx}   (h:Ns d d1 0 K) (k:Ns d1 d2 r K'):Ns d d2 r (K+K') :=
 ⟨k.rr,k.fl.trans h.fl,k.after.trans h.after,by have:=h.calls;have:=k.calls;omega,by have:=h.ahZ;have:=k.ahZ;have:=h.calls;have:=k.calls;omega,fun q=>⟨(k.ok q).1,fun t=>(k.ok q).2 ((h.ok rfl).2 t)⟩,fun q=>⟨fun t=>(k.no q).1 (h.calm t),(k.no q).2.imp (fun a=>⟨a.1,by rw[<- h.fl];exact a.2.1,a.2.2.1,fun t=>a.2.2.2 ((h.ok rfl).2 t)⟩) id⟩⟩
theorem Ns.more{d:Dx}   (h:Ns d d' r K) (hK:K<=K'):Ns d d' r K':=⟨h.rr,h.fl,h.after,by have:=h.calls;omega,h.ahZ,h.ok,h.no⟩
theorem Ns.rb{d:Dx}   (h:Ns d d' r K):d'.rb=d.rb:=ajd h.fl
def Zl (d:Dx) (im:List S):Prop:=im.length=d.now.length/\∀ i,im.getD i []=d.now.getD i []\/im.getD i []∈d.may.getD i []
def All (d:Dx) (Q:List S->Prop):Prop:=∀ im,Zl d im->Q im
theorem Zl.now(d:Dx):Zl d d.now:=⟨rfl,fun _ => .inl rfl⟩
theorem All.core{d e:Dx}  (h:All d Q) (c:e.core=d.core):All e Q:=by
 obtain ⟨h1,h2, -⟩:=Ml c;exact fun im q=>h im ⟨by rw[<- h1];exact q.1,fun i=>by rw[<- h1,<- h2];exact q.2 i⟩
theorem All.imp{d:Dx} {Q':List S->Prop} (h:All d Q) (k:∀ im,Q im->Q' im):All d Q':=fun im q=>k im (h im q)
theorem aiu{d:Dx} (hm:∀ i,d.may.getD i []=[])  (h:Zl d im):im=d.now:=by
 apply List.ext_getElem h.1;intro i h1 h2;have:=(h.2 i).resolve_right (by rw[hm i];simp);simpa [List.getD_eq_getElem?_getD,h1,h2] using this
theorem Qr{d:Dx}  (hm:∀ i,d.may.getD i []=[]) (h:Q d.now):All d Q:=fun im q=>by rw[aiu hm q];exact h
theorem NQ(d:Dx) (i:Nat):d.flush.may.getD i []=[]:=by
 simp only[Dx.flush,B7,GO];cases d.now[i]? <;> rfl
theorem All.flush{d:Dx}  (h:All d Q):All d.flush Q:=Qr (NQ d) (h _ (Zl.now d))
theorem All.write{d:Dx}  (h:All d Q)   (hn:n<d.now.length) (hl:d.may.length=d.now.length) (k:∀ im,im.length=d.now.length->Q im->Q (im.set n x)):All (d.write n x) Q:=fun im q=>by
 have hq1:im.length=d.now.length:=by have:=q.1;simpa [Dx.write] using this
 have old:∀ i,i≠n->im.getD i []=d.now.getD i []\/im.getD i []∈d.may.getD i []:=fun i hi=>by
  have:=q.2 i;simp only[Dx.write,B7] at this |-;rw[ID (by omega),ID (by omega)] at this;exact this
 have Dw:=q.2 n;have e1:(d.write n x).now.getD n []=x:=by simp[Dx.write,List.getD_eq_getElem?_getD,hn]
 have e2:(d.write n x).may.getD n []=(if d.may.getD n []=[] then [d.now.getD n []] else d.may.getD n [])++[x]:=by
  simp only[Dx.write,B7];rw[List.getElem?_set,By rfl,By (by omega)];rfl
 rw[e1,e2] at Dw;by_cases hx:im.getD n []=x
 · have hk:=k (im.set n (d.now.getD n [])) (by simpa using hq1) (h _ ⟨by simpa using hq1,fun i=>by
    by_cases hi:i=n
    · subst hi;left;simp[List.getD_eq_getElem?_getD,hq1,hn]
    · have:=old i hi;simp only[B7] at this |-
      rwa [ID (by omega)]⟩)
   have e:(im.set n (d.now.getD n [])).set n x=im:=by
    rw[List.set_set];apply List.ext_getElem (by simp);intro i h1 h2;rw[List.getElem_set];split
    · rename_i e;subst e;simpa [List.getD_eq_getElem?_getD,h2] using hx.symm
    · rfl
   rwa [e] at hk
 · refine h im ⟨hq1,fun i => ?_⟩;by_cases hi:i=n
   · subst hi;have h3:=(Dw.resolve_left hx);rw[IF] at h3;have h4:=h3.resolve_right (by simpa using hx);split at h4
     · exact .inl (by simpa using h4)
     · exact .inr h4
   · exact old i hi
structure Has (n:Nat) (im:List S) (a:Nat) (x:S) (m:Nat):Prop where
 len:im.length=n
 ha:a<=1
 fit:x.length<=(n-1) / 2*256
 root:im[0]? = some (MK (Nb a x.length m (short KH x)))
 text:∀ j,j*256<x.length->im[1+a*((n-1) / 2)+j]? = some (MK ((x.drop (j*256)).take 256))
theorem Has.set{i:Nat}  (h:Has n im a x m) (hi:0<i) (ho:i<1+a*((n-1) / 2)\/1+a*((n-1) / 2)+(n-1) / 2<=i) (y:S):Has n (im.set i y) a x m:=by
 have hf:=h.fit;refine ⟨by simpa using h.len,h.ha,h.fit,by rw[ID (by omega)];exact h.root,fun j hj => ?_⟩;rw[ID (by omega)];exact h.text j hj
theorem acj(hl:im.length=n) (hn:0<n) (ha:a<=1) (hf:x.length<=(n-1) / 2*256) (ht:∀ j,j*256<x.length->im[1+a*((n-1) / 2)+j]? = some (MK ((x.drop (j*256)).take 256))):Has n (im.set 0 (MK (Nb a x.length m (short KH x)))) a x m :=
 ⟨by simpa using hl,ha,hf,by rw[List.getElem?_set,By rfl,By (by omega)],fun j hj=>by rw[ID (by omega)];exact ht j hj⟩
end Hv
open Hv (Ns Zl All Has)
def YW (D C C':Nat->Prop) (w w':World):Prop:=Kj w.heap.size (fun k=>C k\/D k) w w'/\∀ k,C' k->C k\/w.heap.size<=k
theorem Gr.d{C':Nat->Prop}  (h:Gr C C' w w'):YW D C C' w w':=⟨h.1.mono (AC _) fun _ _ => .inl,h.2⟩
theorem YW.trans{C2:Nat->Prop}  (h:YW D C C1 w w1) (k:YW D C1 C2 w1 w2):YW D C C2 w w2:=by
 have hs:=h.1.size;refine ⟨h.1.next k.1 hs fun i hi q => ?_,fun i q => ?_⟩
 · exact q.imp (fun q=>(h.2 i q).resolve_right (by omega)) id
 · exact (k.2 i q).elim (h.2 i) fun q => .inr (by omega)
theorem YW.below(h:YW D C C1 w w1) (k:Below w1.heap.size w1 w2):YW D C C1 w w2:=h.trans ⟨Kj.of k (AC _),fun _ => .inl⟩
theorem YW.block(h:YW D C C1 w w1) {k:Nat} (hk : ¬ C k /\ ¬ D k) (hl:k<w.heap.size):w1.heap[k]? = w.heap[k]? := h.1.block k hl fun q=>q.elim hk.1 hk.2
theorem Gr.low{L:Nat} (h:Gr C C1 w w1) (hC:∀ k,C k->L<=k) (hL:L<=w.heap.size):∀ k,C1 k->L<=k:=fun k q=>(h.2 k q).elim (hC k) fun q=>by omega
theorem Gr.base(h:Gr C C1 w w1) (hb:Base w) (hC:∀ k,C k->12<=k):Base w1:=hb.far h.1 hb.size hC
open Hv (All Has Zl Ns)
def Z4 (d:Dx) (a b c:Nat) (h:S):Dx:=d.write 0 (MK (Nb a b c h))
theorem abw{d:Dx} (sb db n a b c a' b' c':Nat) (h h':S) (ha:a'<=4000000000) (hb:b'<=4000000000) (hc:c'<=4000000000) (hh:h'.length<=100) (hn:0<d.now.length) (hmb:(d.may.getD 0 []).length<=1000000) (au:d.calls+20<1000000000000)
 (w:World) (hs:KA sb db n a b c h w) (hd:Kq C db d w) (i7 : ¬ C sb/\sb≠d.rb) (hbs:Base w) (bt:∀ k,C k->12<=k) :
 Calls Tryz.prog 82 #[.pointer (some ⟨sb,0,none⟩), .agg (M0 a' b' c' h')] w fun e w'=>∃ v,e = .returned v/\∃ d' C' r,EV w.heap.size w' v r/\Ns d d' r 8/\Kq C' db d' w'/\YW (fun k=>k=sb) C C' w w'/\((r=0/\d'.core=(Z4 d a' b' c' h').flush.core/\KA sb db n a' b' c' h' w')\/(r≠0/\(d'.core=d.core\/d'.core=(Z4 d a' b' c' h').core))):=by
 have HS:=JY hs;have HD:=JY hd;have aJ:=JY hbs;have bD:=JY bt;have HM:=JY hmb;have ld:=JY i7;have pB:=JY (Z5 a' b' c' h' ha hb hc hh);clear hs hd hbs bt hmb i7;go_enter Tryz.func82,Tryz.ntmps82;go_wp2_with fail;have hrow:=AF w (.cells (M0 a' b' c' h') 159);have aC:=JY ((AD w.heap.size w).alloc (AC _) (.cells (M0 a' b' c' h') 159));have dG:=JY (aJ.out.alloc (.cells (M0 a' b' c' h') 159));have dP:=JY (HS.out.below aC.out);have iq:=JY (HD.out.alloc (.cells (M0 a' b' c' h') 159));have hsl:=HS.out.lt;have qy : ¬ C w.heap.size:=fun q=>by have:=HD.out.lt _ q;omega
 obtain ⟨B,hB⟩:∃ B,w.heap.size=B:=⟨_,rfl⟩
 obtain ⟨u,hu⟩:∃ u,w.alloc (.cells (M0 a' b' c' h') 159)=u:=⟨_,rfl⟩
 have yx:B<u.heap.size:=by rw[<- hu,<- hB];simp
 have Fu:=JY aJ.out.size;rw[hu] at hrow aC dG dP iq |-;rw[hB] at hrow aC hsl qy Fu |-;have H0:=JY hrow;have c0:=MS hrow;obtain ⟨s0,s1, -⟩:=dP.out.cells;clear hu hrow aJ HS HD
 go_region_held3 (fun w'=>w'.cell? ⟨sb,0,none⟩=some (.iface 24 (.pointer (some ⟨db,0,none⟩)))/\w'.cell? ⟨sb,1,none⟩=some (.int .i64 n)/\w'.cell? ⟨B,0,none⟩=some (.int .i64 a')/\w'.cell? ⟨B,1,none⟩=some (.int .i64 b')/\w'.cell? ⟨B,2,none⟩=some (.int .i64 c')/\w'.cell? ⟨B,3,none⟩=some (.string ⟨h'.toArray⟩))
  (first | assumption | exact ⟨bq.out.cells.1,bq.out.cells.2.1,MS H2.out⟩ | exact ⟨fF.out.cells.1,fF.out.cells.2.1,MS H1.out⟩ | exact ⟨s0,s1,c0⟩ | simp[go_sem, *])
  (first
   | (go_at_call 147;refine (XL a' b' c' h' ha hb hc hh _ dG.out.drew).mono ?_;rintro e w1 ⟨rfl,hb1⟩;have H1:=JY ((hb1.block B (by simpa using yx)).trans H0.out);have fF:=JY (dP.out.kept (hb1.block sb (by simp;omega)));have aI:=JY (dG.out.drew.below hb1 (by have:=dG.out.size;simpa using this));have bH:=JY (iq.out.drew.below hb1);have ag:=JY (aC.out.drew.trans (hb1.mono (by simp;omega)));have nU:B<w1.heap.size:=lt_of_block H1.out;clear hb1)
   | (go_at_call 145;refine (YQ (m:=n) (n:=0) (Nb a' b' c' h') pB.out hn (by omega) HM.out (by omega) _ bH.out aI.out bD.out).mono ?_;rintro e w2 ⟨v2,rfl,d2,C2,r2,hv2,hr2,hd2,hg2⟩;have H2:=JY ((hg2.block qy nU).trans H1.out);have bq:=JY (fF.out.kept (hg2.block ld.out.1 (by omega)));have aK:=JY hd2;have aU:=JY hr2;have bY:=JY (hv2.base (show B<=_ by omega));have HG2:=JY (show Gr C C2 w w2 from ⟨(Kj.of ag.out (by omega)).trans (hg2.1.mono (by omega) (fun _ _ q=>q)),fun k q=>(hg2.2 k q).imp id (fun q=>by omega)⟩);clear hv2 hr2 hd2 hg2))
 have rX:=JY (HG2.out.old ld.out.1 (by omega));obtain ⟨p0,p1,p2,p3,p4,p5⟩:=bq.out.cells;have f2:=J2 bq.out 2;have f3:=J2 bq.out 3;have f4:=J2 bq.out 4;have f5:=J2 bq.out 5;obtain ⟨d0,d1,I8,d3⟩:=MS H2.out;have hw2:B<=w2.heap.size:=by have:=HG2.out.1.size;omega
 rcases bY.out.form with ⟨rfl,rfl⟩ | ⟨h0,t,bb,rfl, -⟩
 · have Ee:KA sb db n a' b' c' h' ((((w2.setCell ⟨sb,2,none⟩ (.int .i64 a')).setCell ⟨sb,3,none⟩ (.int .i64 b')).setCell ⟨sb,4,none⟩ (.int .i64 c')).setCell ⟨sb,5,none⟩ (.string ⟨h'.toArray⟩)) :=
    AI _ sb 5 _ _ _ (AI _ sb 4 _ _ _ (AI _ sb 3 _ _ _ (AI _ sb 2 _ _ _ bq.out)))
   have bj:=JY aU.out.op;have uH:=JY (show ¬ C2 sb/\sb≠d2.rb from ⟨rX.out,by rw[bj.out.rb];exact ld.out.2⟩);have lO:=JY ((((aK.out.set sb 2 uH.out (.int .i64 a')).set sb 3 uH.out (.int .i64 b')).set sb 4 uH.out (.int .i64 c')).set sb 5 uH.out (.string ⟨h'.toArray⟩));have cZ:=JY (show YW (fun k=>k=sb) C C2 w ((((w2.setCell ⟨sb,2,none⟩ (.int .i64 a')).setCell ⟨sb,3,none⟩ (.int .i64 b')).setCell ⟨sb,4,none⟩ (.int .i64 c')).setCell ⟨sb,5,none⟩ (.string ⟨h'.toArray⟩)) from ⟨((((HG2.out.d (D:=fun k=>k=sb)).1.setCell (p:=⟨sb,2,none⟩) (.inr (.inr rfl)) (.int .i64 a')).setCell (p:=⟨sb,3,none⟩) (.inr (.inr rfl)) (.int .i64 b')).setCell (p:=⟨sb,4,none⟩) (.inr (.inr rfl)) (.int .i64 c')).setCell (p:=⟨sb,5,none⟩) (.inr (.inr rfl)) (.string ⟨h'.toArray⟩),HG2.out.2⟩);have cG:=JY Ee;clear Ee;go_wp2_with fail;have hcl:=aU.out.calls;refine (Q8 (m:=n) (by omega) _ lO.out).mono ?_;rintro e w4 ⟨v4,rfl,d4,C4,r4,q1,q2,q3,q4⟩;have iX:=JY (q1.base (show B<=_ by simp;omega));have iV:=JY (bj.out.trans q2.op);have ey:=JY q2;have fN:=JY q3;have FQ:=JY (cG.out.kept (q4.block uH.out.1 (by simp;have:=bq.out.lt;omega)));have fQ:=JY (cZ.out.trans q4.d);clear q1 q2 q3 q4;go_wp2_with fail;go_ret;rw[hB];refine ⟨v4,rfl,d4,C4,r4,iX.out,iV.out,fN.out,fQ.out,?_⟩;have hc2:=(aU.out.ok rfl).2.2;by_cases hr:r4=0
   · exact .inl ⟨hr,((ey.out.ok hr).2.2).trans (Hv.YL.core _ _ hc2),FQ.out⟩
   · exact .inr ⟨hr, .inr (((ey.out.no hr).2.1).trans hc2)⟩
 · have hne:r2≠0:=by omega
   go_wp2_with fail;go_ret;rw[hB];exact ⟨_,rfl,d2,C2,r2,bY.out,aU.out.op.more (by omega),aK.out,HG2.out.d, .inr ⟨hne, .inl (aU.out.no hne).2.1⟩⟩
end
end Go.Proofs.YtfhmaiicimdldaaGreatDoor
