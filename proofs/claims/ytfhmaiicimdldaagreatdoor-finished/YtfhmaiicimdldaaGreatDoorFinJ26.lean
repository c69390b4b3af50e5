import Derived.Test.YtfhmaiicimdldaaGreatDoorFinJ25
set_option maxHeartbeats 8000000
set_option maxRecDepth 100000
namespace Go.Proofs.YtfhmaiicimdldaaGreatDoor
variable {B X a b c db im km n:Nat}{sv v:Value}{w w' w1 w3 wr:World}{C C1:Nat->Prop}
section
open Go.RowKit Go.Lib
variable {P:Program} (w:World)
theorem RY(t u ty e:TypeId) (i:TypeInfo) (ht:P.underlying t=some (.slice e)) (hu:P.underlying u=some .string) (hi:P.info? e=some i) (hz:i.zero=some (.int .u8 0))
 (hsize:i.size=1) (hby:i.bytes=1) (v:Value) (n:Nat) (xs:List Value) (hown:w.ownsRow 0 e 1 v n xs) (s:ByteArray)
 (h63:n+s.size<=maxLen) (hbytes:n+s.size<=140737488355328) :
 ∃ v' w',(Builtin.append_ #[t,u] ty #[v, .string s]).run P w = .ok v' w'/\w'.ownsRow 0 e 1 v' (n+s.size) (xs++strCells s)/\w.grownBy w' v.ownBlock /\
   (v'.ownBlock=v.ownBlock \/ ∀ g,v'.ownBlock=some g->w.heap.size<=g):=by
 rcases hown.2 with ⟨rfl,rfl⟩ | ⟨g,cap,cur,rfl,hbg,hg,hnc,hcm,hcs,htake⟩
 · have hx:xs=[]:=List.eq_nil_of_length_eq_zero (by simpa using hown.1);subst hx;obtain ⟨v',w',h1,h2,h3, -⟩:=run_append_own_string (P:=P) w w.heap.size t u ty e i ht hu hi hz hsize hby (.slice none 0 0) 0 [] (Cf w _ e 1) s h63 hbytes (AC _);exact ⟨v',w',h1,KL h2 (Bs _),h3, .inr fun g q=>(h2.lt g q).1⟩
 · obtain ⟨v',w',h1,h2,h3, -⟩:=run_append_own_string (P:=P) w 0 t u ty e i ht hu hi hz hsize hby _ n xs hown s h63 hbytes (Bs _);refine ⟨v',w',h1,h2,h3,?_⟩;have hxl:xs.length=n:=by simpa using hown.1
   by_cases hroom:n+s.size<=cap
   · have hcs':cur.size=cap:=by simpa using hcs
     have hr:=run_append_room_string (P:=P) w t u ty e i ht hu hi hsize g n cap cur hg s hroom (by omega);rw[h1] at hr;injection hr with q1 q2
     rw[q1];exact .inl rfl
   · have holds:∀ j u,xs[j]? = some u->w.cell? ((⟨g,0,none⟩:Addr).add j)=some u:=hown.cells (g:=g) rfl
     have hr:=run_append_grow_string (P:=P) w t u ty e i (.int .u8 0) ht hu hi hz ⟨g,0,none⟩ n cap xs (by rw[hsize];simpa using hxl) holds s (by omega) (by simp only[maxLen] at h63;omega) (by rw[hby];exact growslice_fits (by omega) (by omega));rw[h1] at hr;injection hr with q1 q2
     rw[q1];exact .inr fun k q=>by cases q;exact AC _
variable {w:World}
theorem QC{ops:Array Oper} {rest:List Oper} {o:Oper} {a:Act} {Q:Exit->Act->World->Prop} (hgd:o.guard=none) (sl x:Operand) (t u:TypeId)
 (ho:o.op = .call { callee := .builtin .append,args := #[sl,x],argTypes := #[t,u] })
 (e:TypeId) (i:TypeInfo) (ht:P.underlying t=some (.slice e)) (hu:P.underlying u=some .string) (hi:P.info? e=some i) (hz:i.zero=some (.int .u8 0))
 (hsize:i.size=1) (hby:i.bytes=1)
 (v:Value) (n:Nat) (xs:List Value) (hs:a.eval sl=v) (hown:w.ownsRow 0 e 1 v n xs) (s:ByteArray) (hx:a.eval x = .string s)
 (h63:n+s.size<=maxLen) (hbytes:n+s.size<=140737488355328)
 (h:∀ v' w',w'.ownsRow 0 e 1 v' (n+s.size) (xs++strCells s)->w.grownBy w' v.ownBlock->(v'.ownBlock=v.ownBlock \/ ∀ g,v'.ownBlock=some g->w.heap.size<=g)->wpList P ops Q rest (a.put o.dst v') w'):wpList P ops Q (o::rest) a w:=by
 refine wpList_plain hgd fun K hK => ?_
 obtain ⟨v',w',hr,h2,h3,h4⟩:=RY (P:=P) w t u o.type e i ht hu hi hz hsize hby v n xs hown s h63 hbytes;unfold Oper.wp execOp;simp only[ho,resolve,invoke,builtin,Sem.run_bind,Sem.run_pure,Result.andThen_ok,List.map_toArray,Cp,List.map_nil,hs,hx,hr];exact hK _ _ (h v' w' h2 h3 h4)
end
section
open Go.RowKit Go.Lib
open Hv (S)
variable {l:S}
structure WL (b:Nat) (l:S) (v:Value) (w:World):Prop where
 blk:∃ p,(p = .pointer none\/p = .pointer (some ⟨b,0,none⟩))/\w.heap[b]? = some (.cells #[p,v] 181 (0,0))
 row:w.ownsRow 0 5 1 v l.length (byteCells l)
 off:v.ownBlock≠some b
theorem WL.lt(h:WL b l v w):b<w.heap.size:=by
 obtain ⟨p, -,q⟩:=h.blk;exact blt q
theorem WL.is(h:WL b l v w):Lib.IsBuilder 181 5 0 b (byteCells l) w:=by
 obtain ⟨p,rfl | rfl,q⟩:=h.blk
 · exact .inl ⟨Bs _,v,q,by rw[Sm];exact h.row,h.off⟩
 · exact .inr ⟨Bs _,v,q,by rw[Sm];exact h.row,h.off⟩
theorem WL.kept(h:WL b l v w) (h1:w'.heap[b]? = w.heap[b]?) (h2:∀ g,v.ownBlock=some g->w'.heap[g]? = w.heap[g]?):WL b l v w':=by
 obtain ⟨p,q,hb⟩:=h.blk;exact ⟨⟨p,q,h1.trans hb⟩,Kg h.row h2,h.off⟩
theorem amJ(b:Nat) (l:S) (v:Value) (w:World) (h:WL b l v w) :
 Calls Tryz.prog 160 #[.pointer (some ⟨b,0,none⟩)] w fun e w'=>e = .returned (.int .i64 (l.length:Nat))/\w'=w:=by
 have:=Tryz.Builder_Len 0 b (byteCells l) w h.is
 rwa [Sm] at this
theorem aly(b:Nat) (l s:S) (v:Value) (w:World) (h:WL b l v w) (hl:l.length+s.length<=100000000) :
 Calls Tryz.prog 148 #[.pointer (some ⟨b,0,none⟩), .string ⟨s.toArray⟩] w fun e w'=>(∃ u,e = .returned u)/\∃ v',WL b (l++s) v' w'/\(v'.ownBlock=v.ownBlock \/ ∀ g,v'.ownBlock=some g->w.heap.size<=g)/\Kj w.heap.size (fun k=>k=b\/v.ownBlock=some k) w w':=by
 obtain ⟨i0,hi,hz0,hz1,hz2⟩:=KJ Vl;obtain ⟨p,hp,hb⟩:=h.blk;have HR:=JY h.row;have HO:=JY h.off;have oQ:Hid (Calls Tryz.prog 202 #[.pointer (some ⟨b,0,none⟩)] w fun e w'=>e = .returned (.tuple #[])/\w'.heap[b]? = some (.cells #[.pointer (some ⟨b,0,none⟩),v] 181 (0,0))/\Kj w.heap.size (fun k=>k=b) w w'):=JY (by
  rcases hp with rfl | rfl
  · refine (Any.Builder_copyCheck_fresh { Tryz.lays166 with } Tryz.Builder_Extra_166.toX72 b w ((JZ hb 0).trans rfl) (by simp[World.shape?,hb];rfl) (J2 hb 0)).mono ?_;rintro e w' ⟨rfl,rfl⟩;exact ⟨rfl,heap_setCell_same _ b 0 _ _ _ hb,(Kj.refl w.heap.size (fun k=>k=b) w).setCell (p:=⟨b,0,none⟩) (.inr rfl) _⟩
  · refine (Any.Builder_copyCheck_used { Tryz.lays166 with } Tryz.Builder_Extra_166.toX72 b w ((JZ hb 0).trans rfl)).mono ?_;rintro e w' ⟨rfl,rfl⟩;exact ⟨rfl,hb,Kj.refl _ _ _⟩)
 have hlb:=blt hb;clear h hb hp;go_enter Tryz.func148,Tryz.ntmps148;go_wp2_with fail;refine oQ.out.mono ?_;rintro e w1 ⟨rfl,hb1,aS⟩;have aO:=JY aS;have hs1:=aS.size;have bO:=JY (Kg HR.out (fun g hg=>aS.block g (HR.out.lt g hg).2 (fun (e:g=b)=>HO.out (e▸hg))));have c1:=(JZ hb1 1).trans (show _=some v from rfl);have ag:=JY hb1;have kB:=blt hb1;clear aS hb1;go_wp2_with (at_builtin;refine QC rfl _ _ 53 9 rfl 5 i0 Tryz.underlying53 IT hi hz0 hz1 hz2 _ _ _ rfl bO.out ⟨s.toArray⟩ rfl (by unfold maxLen;show _+s.length<=_;omega) (by show _+s.length<=_;omega) ?_;intro v' w2 q1 q2 q3;obtain ⟨ao,cap,rfl⟩:=J4 q1;have cR:=JY q1;have bR:=JY q2;have eZ:=JY q3;have hb2:=(q2.block b kB (fun e=>HO.out e.symm)).trans ag.out;have d1:=(JZ hb2 1).trans (show _=some v from rfl);have f1:=J2 hb2 1;have ah:=JY hb2;clear q1 q2 q3 hb2)
 go_wp2
 go_ret2;have hb3:=heap_setCell_same _ b 1 _ _ (.slice ao (l.length+s.length) cap) ah.out;have hvb:(Value.slice ao (l.length+s.length) cap).ownBlock≠some b:=fun e=>by
  rcases eZ.out with q | q
  · exact HO.out (q▸e)
  · have:=q b e;omega
 refine ⟨⟨_,rfl⟩,_,⟨⟨_, .inr rfl,hb3⟩,?_,hvb⟩,?_,?_⟩
 · refine KT ?_ hvb;have:=cR.out;rw[show (l++s).length=l.length+(⟨s.toArray⟩:ByteArray).size by rw[AS];rfl,<- Zr]
   rwa [Zt] at this
 · rcases eZ.out with q | q
   · exact .inl q
   · exact .inr fun g hg=>Bi hs1 (q g hg)
 · have h1:Kj w.heap.size (fun k=>k=b\/v.ownBlock=some k) w w1:=aO.out.mono (AC _) (fun _ _ q => .inl q);exact (h1.grown bR.out hs1 (fun k q => .inr (.inr q))).setCell (p:=⟨b,1,none⟩) (.inr (.inl rfl)) _
theorem adW{a:World} (h:Kj B C a w) {p:Addr} (hp:C p.block) (n:Nat):Kj B C a (w.freeze p n):=by
 unfold World.freeze;split
 · exact h
 · refine ⟨h.os,h.tape,h.output,by have:=h.size;simpa using this,fun k hk hc => ?_⟩;have e:p.block≠k:=fun e=>hc (e▸hp)
   simp only[Array.getElem?_modify];rw[Bm e];exact h.block k hk hc
theorem aj0(b:Nat) (l:S) (v:Value) (w:World) (h:WL b l v w) (h0:l=[]->v = .slice none 0 0) :
 Calls Tryz.prog 84 #[.pointer (some ⟨b,0,none⟩)] w fun e w'=>e = .returned (.string ⟨l.toArray⟩)/\Kj w.heap.size (fun k=>v.ownBlock=some k) w w':=by
 obtain ⟨p, -,hb⟩:=h.blk;by_cases hl:l=[]
 · have hv:=h0 hl;subst hl;subst hv;refine (Any.Builder_String_nil Tryz.lays169 Tryz.Builder_Extra_169 w.heap.size b p w hb).mono ?_;rintro e w' ⟨rfl,hq⟩;exact ⟨rfl,Kj.of hq (AC _)⟩
 · have Jt:0<l.length:=List.length_pos_iff.2 hl;obtain ⟨g,cap,cur,rfl, -,hg,hnc,hcm,hcs,htake⟩:∃ g cap cur,v = .slice (some ⟨g,0,none⟩) l.length cap/\0<=g/\w.heap[g]? = some (.cells cur 5 (0,0))/\l.length<=cap/\cap<=maxLen/\cur.size=cap*1/\cur.toList.take (l.length*1)=byteCells l:=by
    rcases h.row.2 with ⟨_,hz⟩ | ⟨g,cap,cur,hv,r⟩
    · omega
    · exact ⟨g,cap,cur,hv,r⟩
   have c1:=(JZ (show w.drew.heap[b]? = _ from hb) 1).trans (show _=some (.slice (some ⟨g,0,none⟩) l.length cap) from rfl);have Ji:(Builtin.unsafeSliceData_ #[53] 243 #[.slice (some ⟨g,0,none⟩) l.length cap]).run Tryz.prog w.drew = .ok (.pointer (some ⟨g,0,none⟩)) w.drew:=run_unsafeSliceData_row _ _ _ _ _ _ (by omega);have Jk:(Builtin.unsafeString_ #[243,3] 9 #[.pointer (some ⟨g,0,none⟩), .int .i64 l.length]).run Tryz.prog w.drew = .ok (.string ⟨l.toArray⟩) (w.drew.freeze ⟨g,0,none⟩ l.length):=by
    refine run_unsafeString_row w.drew 243 3 9 5 Tryz.underlying243 (by kernel_rfl) g cur.size (by have hg':w.drew.heap[g]? = some (.cells cur 5 (0,0)):=hg;simp[World.shape?,hg']) l hl (by omega) (by unfold maxLen at hcm;omega) ?_;intro j x hx;exact h.row.cells (g:=g) rfl j (.int .u8 x.toNat) (by simp[byteCells,hx])
   clear h hb h0 hcs htake hcm hg;go_enter Tryz.func84,Tryz.ntmps84
   go_wp2
   go_region
   all_goals (go_wp2;go_ret;exact ⟨rfl,adW (Kj.refl w.heap.size (fun k=>(Value.slice (some ⟨g,0,none⟩) l.length cap).ownBlock=some k) w).drew (p:=⟨g,0,none⟩) rfl _⟩)
end
section
open Go.RowKit
open Hv (S Dx Tk Turn Ns Zl All Has)
variable {h:S}{d0:Dx}
theorem ajn{x:S} {k:Nat} (h:x.length<=k):x.take k=x:=An h
structure alq (C:Nat->Prop) (sb db n a c b:Nat) (x h:S) (d:Dx) (w:World) (j:Nat) (d':Dx) (C':Nat->Prop) (v:Value) (wr:World):Prop where
 op:Ns d d' 0 (4*j)
 core:d'.core=d.core
 dk:Kq C' db d' wr
 gr:Gr C C' w wr
 st:KA sb db n a x.length c h wr
 base:Base wr
 bld:WL b (x.take (j*256)) v wr
 emp:j=0->v = .slice none 0 0
 off : ¬ C' b/\b≠sb/\∀ g,v.ownBlock=some g -> ¬ C' g/\w.heap.size<=g/\g≠sb
theorem ahE{d:Dx} (sb db n a c:Nat) (x h:S) (hn:1<=n) (dF:n<=1000000) (hxl:x.length<=1000000) (hH:Has n d.now a x c) (hgo:d.gone=false) (au:d.calls+x.length+100<1000000000000)
 (w:World) (hs:KA sb db n a x.length c h w) (hd:Kq C db d w) (i7 : ¬ C sb) (hbs:Base w) (bt:∀ k,C k->12<=k) :
 Calls Tryz.prog 92 #[.pointer (some ⟨sb,0,none⟩)] w fun e w'=>∃ v r,e = .returned (.tuple #[.string ⟨(if r=0 then x else []).toArray⟩,v])/\∃ d' C',EV w.heap.size w' v r/\Ns d d' r (x.length+100)/\d'.core=d.core/\Kq C' db d' w'/\Gr C C' w w':=by
 have ha:=hH.ha;have HS:=JY hs;have HD:=JY hd;have aJ:=JY hbs;have bD:=JY bt;have HH:=JY hH;have tH:=JY hgo;have hlt:=JY hd.lt;have hrb:=JY hd.rb.2;have hsl:=hs.lt;have cW:=hbs.size;obtain ⟨s0,s1,s2,s3,s4,s5⟩:=(show KA sb db n a x.length c h (w.alloc (.cells #[.pointer none, .slice none 0 0] 181)) from HS.out.below ((AD w.heap.size w).alloc (AC _) _)).cells;have q9 : ¬ w.heap.size=sb:=by omega
 clear hs hd hbs bt hH hgo;go_enter Tryz.func92,Tryz.ntmps92;go_wp2_with fail;have kH:=AF w (.cells #[.pointer none, .slice none 0 0] 181);have hb0:=(AD w.heap.size w).alloc (AC _) (.cells #[.pointer none, .slice none 0 0] 181);have hz0:(w.alloc (.cells #[.pointer none, .slice none 0 0] 181)).heap.size=w.heap.size+1:=by simp
 have dP:=JY (HS.out.below hb0);have aC:=JY hb0;obtain ⟨u,hu⟩:∃ u,w.alloc (.cells #[.pointer none, .slice none 0 0] 181)=u:=⟨_,rfl⟩
 obtain ⟨b,hb⟩:∃ b,w.heap.size=b:=⟨_,rfl⟩
 rw[hu,hb] at kH;rw[hu] at dP aC hz0 |-;rw[hb] at hz0 |-;have bg:=JY kH;have bJ:=JY hb;clear hu hb0 kH s0 s1 s2 s3 s4 s5 q9;refine (WH sb db n a x.length c a h hn dF ha u dP.out).mono ?_;rintro e w1 ⟨rfl,hb1⟩;obtain ⟨n0,hn0⟩:∃ n0,1+a*((n-1) / 2)=n0:=⟨_,rfl⟩
 have bC:n0+(n-1) / 2<=n:=by
  rcases (show a=0\/a=1 by omega) with rfl | rfl<;>omega
 have hfit:=HH.out.fit;rw[hn0];have pE:=JY hn0;have ay:Hid (alq C sb db n a c b x h d w 0 d C (.slice none 0 0) w1):=JY (by
  have hb2:=aC.out.trans (hb1.mono (by omega));refine ⟨Ns.refl tH.out,rfl,HD.out.below hb2,(Gr.refl C w).below hb2,dP.out.below hb1,aJ.out.below hb2 aJ.out.size,⟨⟨_, .inl rfl,(hb1.block b (by omega)).trans bg.out⟩,?_,by simp[Value.ownBlock]⟩,fun _=>rfl,fun q=>by have:=hlt.out _ q;omega,by omega,fun g hg=>by cases hg⟩;simpa [Lib.byteCells] using Cf w1 0 5 1)
 clear hb1 HS HD aJ dP aC bg hn0;go_wp2_with fail;go_loopw [5] (fun i wr=>∃ (j:Nat) (d':Dx) (C':Nat->Prop) (v:Value),i = .int .i64 ((n0+j:Nat):Int)/\(j=0\/(j-1)*256<x.length)/\Hid (alq C sb db n a c b x h d w j d' C' v wr)) (fun i _=>n0+x.length+1-(intOf i).toNat)
 case atStart=>exact ⟨0,d,C,_,rfl, .inl rfl,ay⟩
 case round =>
  clear ay;obtain ⟨j,d',C',v,rfl,hj,HI⟩:=hrel;obtain ⟨s0,s1,s2,s3, -⟩:=HI.out.st.cells;have yU:=HI.out.gr.1.size;have HL:=JY (amJ b _ v wr.drew (HI.out.bld.kept rfl (fun _ _=>rfl)));have fu:=JY (HI.out.gr.low bD.out cW);have hcl:=HI.out.op.calls;have hbl:=HI.out.bld.lt;have Cr:=HI.out.st.lt;obtain ⟨l,hl⟩:∃ l,x.take (j*256)=l:=⟨_,rfl⟩
  have hll:l.length=min (j*256) x.length:=by rw[<- hl,DD]
  rw[hl] at HL;have eX:=JY hl;clear hl;by_cases hlt2:j*256<x.length
  · have kB:l.length=j*256:=by omega
    have b1:(l.length:Int)<(x.length:Int):=by omega
    obtain ⟨y,hy⟩:∃ y,MK ((x.drop (j*256)).take 256)=y:=⟨_,rfl⟩
    have Bz:d'.now[n0+j]? = some y:=by rw[(Hv.Ml HI.out.core).1,<- hy,<- pE.out];exact HH.out.text j hlt2
    have oI:y.length=256:=by rw[<- hy];unfold MK;rw[AS,List.length_replicate,DD];omega
    obtain ⟨m,hm⟩:∃ m,min 256 (x.length-j*256)=m:=⟨_,rfl⟩
    have bS:Hid (l++y.take m=x.take ((j+1)*256)):=JY (by
     rw[<- eX.out,<- hy,<- hm];have e1:((x.drop (j*256)).take 256).length=min 256 (x.length-j*256):=by rw[DD,GE]
     unfold MK;rw[List.take_append_of_le_length (by rw[e1];omega),show List.take (min 256 (x.length-j*256)) ((x.drop (j*256)).take 256)=(x.drop (j*256)).take 256 from An (by rw[e1];omega),show (j+1)*256=j*256+256 by omega,List.take_add])
    have HY:=JY oI;have yM:min (y.length:Int) ((x.length:Int)-(l.length:Int))=(m:Int):=by omega
    have hw1:IntKind.i64.wrap ((x.length:Int)-(l.length:Int))=(x.length:Int)-(l.length:Int):=by rw[De];omega
    have hx1:(⟨y.toArray⟩:ByteArray).extract 0 m=⟨(y.take m).toArray⟩:=RA _ m;have b2:(m:Int)<=(y.length:Int):=by omega
    have b3:(0:Int)<=(m:Int):=by omega
    have htl:(y.take m).length<=256:=by rw[DD];omega
    have Hn:l.length<=1000000:=by omega
    have e5:((n0+j:Nat):Int)+1=((n0+(j+1):Nat):Int):=by omega
    obtain ⟨k,hk⟩:∃ k,n0+j=k:=⟨_,rfl⟩
    have HK:=JY hk;rw[hk] at Bz e5 |-;have gA:k<=1000000:=by omega
    clear hk hy hm oI hll kB;go_wp2_with fail
    go_region_held3 (fun w'=>w'.cell? ⟨sb,3,none⟩=some (.int .i64 x.length))
     (first | assumption | simp[go_sem, *])
     (first
      | (go_at_call 160;refine HL.out.mono ?_;rintro e w2 ⟨rfl,rfl⟩))
    go_wp2_with fail;refine (VW (m:=n) (n:=k) y Bz (by omega) gA _ HI.out.dk.drew HI.out.base.drew fu.out).mono ?_;rintro e w2 ⟨v2,r2,rfl,d2,C2,q1,q2,q3,q4⟩;have hv2:=q1.form;have bY:=JY (q1.base (show w.heap.size<=_ from yU));have bq:=JY ((show KA sb db n a x.length c h wr.drew from HI.out.st).kept (q4.block (fun q=>(HI.out.gr.2 sb q).elim i7 (fun q=>by omega)) Cr));have HG2:=JY (HI.out.gr.drew.trans q4);have aU:=JY q2;have aK:=JY q3;have ah:=JY (q4.base HI.out.base.drew fu.out);have eG:=JY (HI.out.bld.kept (w':=w2) (q4.block HI.out.off.1 hbl) (fun g hg=>q4.block (HI.out.off.2.2 g hg).1 (HI.out.bld.row.lt g hg).2));have jJ:=JY (show ¬ C2 b/\b≠sb/\∀ g,v.ownBlock=some g -> ¬ C2 g/\w.heap.size<=g/\g≠sb from ⟨q4.old HI.out.off.1 hbl,HI.out.off.2.1,fun g hg=>⟨q4.old (HI.out.off.2.2 g hg).1 (HI.out.bld.row.lt g hg).2,(HI.out.off.2.2 g hg).2⟩⟩);have zl:=JY (show d2.core=d.core from by
     rcases q2.rr with h0 | h0 | h0
     · exact (q2.ok h0).2.2.trans HI.out.core
     · exact (q2.no (by omega)).2.1.trans HI.out.core
     · exact (q2.no (by omega)).2.1.trans HI.out.core)
    have bj:=JY HI.out.op;have hs2:=q4.1.size;have hl2:=eG.out.lt;clear q1 q2 q3 q4 HL s0 s1 s2 s3 HI;rcases hv2 with ⟨rfl,rfl⟩ | ⟨h0,t,bb,rfl, -⟩
    · obtain ⟨s0,s1,s2,s3, -⟩:=bq.out.cells;rw[eX.out] at eG;have gQ:=JY (eG.out.kept (w':=w2.drew) rfl (fun _ _=>rfl));have eW:=JY (amJ b l v w2.drew gQ.out);have dx:=JY (aly b l (y.take m) v w2.drew gQ.out (by omega));have kz:bj.out=bj.out:=rfl;have EN:sb≠b:=fun e=>jJ.out.2.1 e.symm
      rw[By rfl];clear kz;go_wp2_with fail
      go_region_held3 (fun w'=>w'.cell? ⟨sb,3,none⟩=some (.int .i64 x.length))
       (first | assumption | exact S4.out | simp[go_sem, *])
       (first
        | (go_at_call 160;refine eW.out.mono ?_;rintro e w3 ⟨rfl,rfl⟩)
        | (go_at_call 148;refine dx.out.mono ?_;rintro e w4 ⟨⟨u4,rfl⟩,v4,p1,p2,p3⟩;have bB:=JY p1;have bQ:=JY p2;have cK:=JY p3;have S4:=JY ((p3.cell (p:=⟨sb,3,none⟩) bq.out.lt (fun q=>q.elim EN (fun q=>(jJ.out.2.2 _ q).2.2 rfl))).trans s3);clear p1 p2 p3))
      all_goals
       have dX:Hid (alq C sb db n a c b x h d w (j+1) d2 C2 v4 w4):=JY (by
        have hf:=cK.out;have BL:∀ k,C2 k\/k=d2.rb -> ¬ (k=b\/v.ownBlock=some k):=fun k hk q=>by
         rcases hk with hk | hk
         · rcases q with q | q
           · exact jJ.out.1 (q▸hk)
           · exact (jJ.out.2.2 k q).1 hk
         · have Ce:d2.rb=d.rb:=by rw[aU.out.op.rb,bj.out.rb]
           have h1:=hrb.out;rw[hk,Ce] at q;rcases q with q | q
           · omega
           · have:=(jJ.out.2.2 _ q).2.1;omega
        refine ⟨(bj.out.trans aU.out.op).more (by omega),zl.out,aK.out.drew.far hf (AC _) BL,⟨HG2.out.drew.1.next hf (by have:=HG2.out.1.size;exact this) (fun i hi q=>by
         rcases q with q | q
         · omega
         · have:=(jJ.out.2.2 i q).2.1;omega),HG2.out.2⟩,(show KA sb db n a x.length c h w2.drew from bq.out).kept (hf.block sb bq.out.lt (fun q=>q.elim EN (fun q=>(jJ.out.2.2 _ q).2.2 rfl))),ah.out.drew.far hf ah.out.size (fun k q=>by
         rcases q with q | q
         · omega
         · have:=(jJ.out.2.2 k q).2.1;omega),by rw[<- bS.out];exact bB.out,fun q=>by omega,jJ.out.1,jJ.out.2.1,fun g hg => ?_⟩
        rcases bQ.out with q | q
        · exact jJ.out.2.2 g (by rw[<- q];exact hg)
        · have h1:=q g hg;have h2:w2.heap.size<=g:=h1;have h3:=HG2.out.1.size;exact ⟨fun r=>by have:=aK.out.lt g r;omega,by omega,fun r=>by have:=bq.out.lt;omega⟩)
       clear gQ eW dx bB bQ cK S4 s0 s1 s2 s3 aK bq HG2 ah eG jJ zl bj aU;go_wp2_with fail;refine ⟨⟨j+1,d2,C2,v4,(by rw[<- HK.out] at e5;first | rfl | exact IN (Value.int .i64) e5), .inr (by simpa using hlt2),dX⟩,?_⟩;simp only[intOf];have:=HK.out;omega
    · have hne:r2≠0:=by omega
      rw[Bm hne];go_wp2_with fail;go_ret2;refine ⟨_,r2,by rw[Bm hne];rfl,d2,C2,bY.out,(bj.out.trans aU.out.op).more (by omega),zl.out,aK.out,HG2.out⟩
  · have kB:l=x:=by rw[<- eX.out];exact ajn (by omega)
    have C8:=JY kB;have b1 : ¬ (l.length:Int)<(x.length:Int):=by rw[kB];omega
    clear kB;go_wp2_with fail
    go_region_held3 (fun w'=>w'.cell? ⟨sb,3,none⟩=some (.int .i64 x.length))
     (first | assumption | simp[go_sem, *])
     (first
      | (go_at_call 160;refine HL.out.mono ?_;rintro e w2 ⟨rfl,rfl⟩))
    have gQ:=JY (HI.out.bld.kept (w':=wr.drew) rfl (fun _ _=>rfl));rw[eX.out] at gQ;have HST:=JY (aj0 b l v wr.drew gQ.out (fun e=>HI.out.emp (by rcases hj with q | q;exact q;exfalso;rw[C8.out] at e;rw[e] at q;simp at q)));go_wp2_with fail;refine HST.out.mono ?_;rintro e w3 ⟨rfl,hf3⟩;have bP:=JY hf3;clear hf3 HST HL;go_wp2_with fail;go_ret2;have BL:∀ k,C' k\/k=d'.rb -> ¬ (v.ownBlock=some k):=fun k hk q=>by
     rcases hk with hk | hk
     · exact (HI.out.off.2.2 k q).1 hk
     · have h1:=hrb.out;rw[hk,HI.out.op.rb] at q;have:=(HI.out.off.2.2 _ q).2.1;omega
    refine ⟨_,0,by rw[By rfl,<- C8.out];rfl,d',C', .inl ⟨rfl,rfl⟩,HI.out.op.more (by omega),HI.out.core,HI.out.dk.drew.far bP.out (AC _) BL,HI.out.gr.drew.1.next bP.out (by have:=HI.out.gr.1.size;exact this) (fun i hi q=>by have:=(HI.out.off.2.2 i q).2.1;omega),HI.out.gr.2⟩
structure Zm (C:Nat->Prop) (B db n a b c:Nat) (h:S) (d0:Dx) (w:World) (C1:Nat->Prop) (d1:Dx) (wr:World):Prop where
 dev:wr.heap[B]? = some (.cells #[.iface 24 (.pointer (some ⟨db,0,none⟩)), .int .i64 n] 123 (0,0))
 con:wr.heap[B+1]? = some (.cells #[.string ⟨#[]⟩, .int .i64 0] 119 (0,0))
 st:KA (B+2) db n a b c h wr
 dk:Kq C1 db d1 wr
 gr:Gr C C1 w wr
 base:Base wr
 no : ¬ C1 B /\ ¬ C1 (B+1) /\ ¬ C1 (B+2)
 rb:d1.rb=d0.rb
theorem Zm.go{C2:Nat->Prop}   {d1 d2:Dx}  (o:Zm C B db n a b c h d0 w C1 d1 wr) (hG:∀ k,C1 k->12<=k) (hd:Kq C2 db d2 w') (hg:Gr C1 C2 wr w') (hr:d2.rb=d1.rb):Zm C B db n a b c h d0 w C2 d2 w' :=
 have l:=o.st.lt;have l0:=blt o.dev;have l1:=blt o.con
 ⟨(hg.block o.no.1 l0).trans o.dev,(hg.block o.no.2.1 l1).trans o.con,o.st.kept (hg.block o.no.2.2 l),hd,o.gr.trans hg,hg.base o.base hG,⟨hg.old o.no.1 l0,hg.old o.no.2.1 l1,hg.old o.no.2.2 l⟩,hr.trans o.rb⟩
theorem Zm.below{d1:Dx}  (o:Zm C B db n a b c h d0 w C1 d1 wr) (hb:Below wr.heap.size wr w'):Zm C B db n a b c h d0 w C1 d1 w' :=
 have l:=o.st.lt
 ⟨(hb.block B (by omega)).trans o.dev,(hb.block (B+1) (by omega)).trans o.con,o.st.below hb,o.dk.below hb,o.gr.below hb,o.base.below hb o.base.size,o.no,o.rb⟩
theorem Zm.drew{d1:Dx}  (o:Zm C B db n a b c h d0 w C1 d1 wr):Zm C B db n a b c h d0 w C1 d1 wr.drew:=o.below ((AD _ _).drew)
theorem Gr.own(h:Gr C C1 w w1) (b i:Nat) (hb:w.heap.size<=b) (v:Value):Gr C C1 w (w1.setCell ⟨b,i,none⟩ v):=⟨h.1.setCell (p:=⟨b,i,none⟩) (.inl hb) v,h.2⟩
theorem Zm.put{d1:Dx}  (o:Zm C B db n a b c h d0 w C1 d1 wr) (hw:w.heap.size<=B) (hB:12<=B) (hrb:d0.rb<B) (a' b' c':Nat) (h':S):Zm C B db n a' b' c' h' d0 w C1 d1 ((((wr.setCell ⟨B+2,2,none⟩ (.int .i64 a')).setCell ⟨B+2,3,none⟩ (.int .i64 b')).setCell ⟨B+2,4,none⟩ (.int .i64 c')).setCell ⟨B+2,5,none⟩ (.string ⟨h'.toArray⟩)):=by
 have hn : ¬ C1 (B+2)/\B+2≠d1.rb:=⟨o.no.2.2,by rw[o.rb];omega⟩;have hf:∀ k,k≠B+2->((((wr.setCell ⟨B+2,2,none⟩ (.int .i64 a')).setCell ⟨B+2,3,none⟩ (.int .i64 b')).setCell ⟨B+2,4,none⟩ (.int .i64 c')).setCell ⟨B+2,5,none⟩ (.string ⟨h'.toArray⟩)).heap[k]? = wr.heap[k]? := fun k hk=>by
  rw[BY _ _ _ _ hk,BY _ _ _ _ hk,BY _ _ _ _ hk,BY _ _ _ _ hk]
 exact ⟨(hf B (by omega)).trans o.dev,(hf (B+1) (by omega)).trans o.con,heap_setCell_same _ (B+2) 5 _ _ _ (heap_setCell_same _ (B+2) 4 _ _ _ (heap_setCell_same _ (B+2) 3 _ _ _ (heap_setCell_same _ (B+2) 2 _ _ _ o.st))),
  (((o.dk.set (B+2) 2 hn _).set (B+2) 3 hn _).set (B+2) 4 hn _).set (B+2) 5 hn _,
  (((o.gr.own (B+2) 2 (by omega) _).own (B+2) 3 (by omega) _).own (B+2) 4 (by omega) _).own (B+2) 5 (by omega) _,
  o.base.of (by simp) (fun k hk=>hf k (by omega)),o.no,o.rb⟩
theorem Zm.first{d:Dx}  (hd:Kq C db d w) (hbs:Base w):Zm C w.heap.size db n 0 0 0 [] d w C d (((w.alloc (.cells #[.iface 24 (.pointer (some ⟨db,0,none⟩)), .int .i64 n] 123)).alloc (.cells #[.string ⟨#[]⟩, .int .i64 0] 119)).alloc (.cells #[.iface 24 (.pointer (some ⟨db,0,none⟩)), .int .i64 n, .int .i64 0, .int .i64 0, .int .i64 0, .string ⟨#[]⟩] 161)):=by
 have hlt:=hd.lt;refine ⟨(AM _ _ _ (by simp;omega)).trans ((AM _ _ _ (by simp)).trans (AF w _)),(AM _ _ _ (by simp)).trans ?_,?_,((hd.alloc _).alloc _).alloc _,(((Gr.refl C w).alloc _).alloc _).alloc _,((hbs.alloc _).alloc _).alloc _,⟨fun q=>by have:=hlt _ q;omega,fun q=>by have:=hlt _ q;omega,fun q=>by have:=hlt _ q;omega⟩,rfl⟩
 · have:=AF (w.alloc (.cells #[.iface 24 (.pointer (some ⟨db,0,none⟩)), .int .i64 n] 123)) (.cells #[.string ⟨#[]⟩, .int .i64 0] 119);simpa using this
 · have:=AF ((w.alloc (.cells #[.iface 24 (.pointer (some ⟨db,0,none⟩)), .int .i64 n] 123)).alloc (.cells #[.string ⟨#[]⟩, .int .i64 0] 119)) (.cells #[.iface 24 (.pointer (some ⟨db,0,none⟩)), .int .i64 n, .int .i64 0, .int .i64 0, .int .i64 0, .string ⟨#[]⟩] 161);unfold KA;simpa using this
theorem Zm.fin{d1:Dx}  (o:Zm C B db n a b c h d0 w C1 d1 wr) (hw:w.heap.size=B) (hrb:d0.rb<B) (x y v:Value) (r:Int) (hv:EV (B+3) wr v r) :
 (((wr.setCell ⟨B+1,0,none⟩ x).setCell ⟨B+1,1,none⟩ y).cell? ⟨B+1,0,none⟩=some x/\((wr.setCell ⟨B+1,0,none⟩ x).setCell ⟨B+1,1,none⟩ y).cell? ⟨B+1,1,none⟩=some y)/\Kq C1 db d1 ((wr.setCell ⟨B+1,0,none⟩ x).setCell ⟨B+1,1,none⟩ y)/\Gr C C1 w ((wr.setCell ⟨B+1,0,none⟩ x).setCell ⟨B+1,1,none⟩ y)/\EV w.heap.size ((wr.setCell ⟨B+1,0,none⟩ x).setCell ⟨B+1,1,none⟩ y) v r/\KA (B+2) db n a b c h ((wr.setCell ⟨B+1,0,none⟩ x).setCell ⟨B+1,1,none⟩ y):=by
 have hc:=heap_setCell_same _ (B+1) 1 _ _ y (heap_setCell_same _ (B+1) 0 _ _ x o.con);have hn : ¬ C1 (B+1)/\B+1≠d1.rb:=⟨o.no.2.1,by rw[o.rb];omega⟩;have hf:∀ k,k≠B+1->((wr.setCell ⟨B+1,0,none⟩ x).setCell ⟨B+1,1,none⟩ y).heap[k]? = wr.heap[k]? := fun k hk=>by
  rw[BY _ _ _ _ hk,BY _ _ _ _ hk]
 exact ⟨⟨(JZ hc 0).trans rfl,(JZ hc 1).trans rfl⟩,(o.dk.set (B+1) 0 hn _).set (B+1) 1 hn _,(o.gr.own (B+1) 0 (by omega) _).own (B+1) 1 (by omega) _,(hv.kept (fun k hk _=>hf k (by omega))).base (by omega),o.st.kept (hf _ (by omega))⟩
def amE (C:Nat->Prop) (db:Nat) (d:Dx) (K:Nat) (w:World) (v:Value) (bad:Prop) (ok:(Nat->Prop)->Dx->World->Prop) (w':World):Prop :=
 ∃ d' C' r,EV w.heap.size w' v r/\Ns d d' r K/\Kq C' db d' w'/\Gr C C' w w'/\((r=0/\ok C' d' w')\/(r≠0/\bad/\(d'.core=d.core\/d'.core=d.flush.core)))
def aa8:List Value:=[.pointer none, .agg #[.string ⟨#[]⟩, .int .i64 0]]
theorem WK{d:Dx} (db n a c:Nat) (x:S) (hn:1<=n) (dF:n<=1000000) (hc:c<=1000000) (hxl:x.length<=1000000) (hH:Has n d.now a x c) (au:d.calls+x.length+500<1000000000000)
 (w:World) (hd:Kq C db d w) (hbs:Base w) (bt:∀ k,C k->12<=k) :
 Calls Tryz.prog 46 #[.agg (M7 db n)] w fun e w'=>∃ p q v,e = .returned (.tuple #[p,q,v])/\amE C db d (x.length+200) w v ([p,q]=aa8) (fun C' d' w'=>∃ sb,p = .pointer (some ⟨sb,0,none⟩)/\q = .agg #[.string ⟨x.toArray⟩, .int .i64 c]/\w.heap.size<=sb /\ ¬ C' sb/\KA sb db n a x.length c (short KH x) w'/\Md n a x c d') w':=by
 have ha:=hH.ha;have aJ:=JY hbs;have bD:=JY bt;have HH:=JY hH;have cW:=hbs.size;have nB:=JY (fun w hw=>ab0 a x.length c (short KH x) ha hxl hc (Sz x) (ac9 x) w hw);have ke:=JY (fun w (hw:Base w)=>VI x hxl KH w (by have:=hw.size;omega) hw.rounds);have H0:=JY (Zm.first (n:=n) hd hbs);have rD:=hd.rb.2;have iN:=hH.root;have JA:=hH.fit;obtain ⟨P,hP⟩:∃ P,MK (Nb a x.length c (short KH x))=P:=⟨_,rfl⟩
 obtain ⟨h,hh⟩:∃ h,short KH x=h:=⟨_,rfl⟩
 rw[hP] at iN nB;rw[hh] at nB ke |-;have I4:=JY hh;clear hd hbs bt hP hh hH;unfold M7;go_enter Tryz.func46,Tryz.ntmps46;go_wp2_with fail;obtain ⟨u,hu⟩:∃ u,((w.alloc (.cells #[.iface 24 (.pointer (some ⟨db,0,none⟩)), .int .i64 n] 123)).alloc (.cells #[.string ⟨#[]⟩, .int .i64 0] 119)).alloc (.cells #[.iface 24 (.pointer (some ⟨db,0,none⟩)), .int .i64 n, .int .i64 0, .int .i64 0, .int .i64 0, .string ⟨#[]⟩] 161)=u:=⟨_,rfl⟩
 obtain ⟨B,hB⟩:∃ B,w.heap.size=B:=⟨_,rfl⟩
 have ig:12<=B:=by omega
 have lD:d.rb<B:=by omega
 have xz:w.heap.size<=B:=by omega
 rw[hu,hB] at H0;rw[hu,hB];have bG:=JY hB;clear hu hB aJ cW rD;have c0:=J2 H0.out.con 0;refine (Q8 (m:=n) (by omega) u H0.out.dk).mono ?_;rintro e w1 ⟨v1,rfl,d1,C1,r1,q1,q2,q3,q4⟩;have H1:=JY (H0.out.go bD.out q3 q4 q2.op.rb);have hv1:=q1.form;have fe:=JY (q1.base (show B+3<=_ by have:=H0.out.st.lt;omega));have bO:=JY q2;have jS:=JY (H1.out.gr.low bD.out (by have:=bG.out;omega));have e0:=(JZ H1.out.dev 0).trans (show _=some (.iface 24 (.pointer (some ⟨db,0,none⟩))) from rfl);have e1:=(JZ H1.out.dev 1).trans (show _=some (.int .i64 n) from rfl);clear q1 q2 q3 q4 H0 c0;rcases hv1 with ⟨rfl,rfl⟩ | ⟨h0,t,bb,rfl, -⟩
 · have cC:=(bO.out.ok rfl).2.2;have ik:=JY cC;have hx1:d1.now[0]? = some P:=by rw[(Hv.Ml cC).1];exact iN
   clear cC;go_wp2_with fail;refine (VW (m:=n) (n:=0) P hx1 (by have:=bO.out.calls;omega) (by omega) w1 H1.out.dk H1.out.base jS.out).mono ?_;rintro e w2 ⟨v2,r2,rfl,d2,C2,q1,q2,q3,q4⟩;have H2:=JY (H1.out.go jS.out q3 q4 q2.op.rb);have hv2:=q1.form;have bY:=JY (q1.base (show B+3<=_ by have:=H1.out.st.lt;omega));have aU:=JY q2;have fu:=JY (H2.out.gr.low bD.out (by have:=bG.out;omega));have jl:=JY (bO.out.op.trans q2.op);have jc:=JY (show d2.core=d.flush.core from by
    rcases q2.rr with h0 | h0 | h0
    · exact (q2.ok h0).2.2.trans ik.out
    · exact (q2.no (by omega)).2.1.trans ik.out
    · exact (q2.no (by omega)).2.1.trans ik.out)
   clear q1 q2 q3 q4 H1 hx1;rcases hv2 with ⟨rfl,rfl⟩ | ⟨h0,t,bb,rfl, -⟩
   · rw[By rfl];have AH:=e0;have AJ:=e1;clear e0 e1 AH AJ;go_wp2_with fail;refine (nB.out w2 H2.out.base).mono ?_;rintro e w3 ⟨rfl,hb3⟩;have H3:=JY (H2.out.below hb3);obtain ⟨s0,s1,s2,s3,s4,s5⟩:=H3.out.st.cells;have f2:=J2 H3.out.st 2;have f3:=J2 H3.out.st 3;have f4:=J2 H3.out.st 4;have f5:=J2 H3.out.st 5;have H4:=JY (H3.out.put xz ig lD a x.length c h);clear hb3 H2;unfold M0;go_wp2_with fail;clear s0 s1 s2 s3 s4 s5 f2 f3 f4 f5 H3;rw[show B+1+1=B+2 from rfl];obtain ⟨W4,sF⟩:∃ W4,((((w3.setCell ⟨B+2,2,none⟩ (.int .i64 a)).setCell ⟨B+2,3,none⟩ (.int .i64 x.length)).setCell ⟨B+2,4,none⟩ (.int .i64 c)).setCell ⟨B+2,5,none⟩ (.string ⟨h.toArray⟩))=W4:=⟨_,rfl⟩
     rw[sF] at H4 |-;clear sF;obtain ⟨s0,s1,s2,s3,s4,s5⟩:=H4.out.st.cells;obtain ⟨q,hq⟩:∃ q,(n-1) / 2=q:=⟨_,rfl⟩
     have hq2:q<=1000000:=by omega
     have Iy:x.length<=q*256:=by omega
     have b1 : ¬ ((q:Int)*256<(x.length:Int)):=by omega
     have b2:decide ((q:Int)*256<(x.length:Int))=false:=decide_eq_false b1;have w1':IntKind.i64.wrap ((q:Int)*256)=(q:Int)*256:=by rw[De];omega
     go_region_held3 (fun w'=>w'.cell? ⟨B+2,0,none⟩=some (.iface 24 (.pointer (some ⟨db,0,none⟩)))/\w'.cell? ⟨B+2,1,none⟩=some (.int .i64 n)/\w'.cell? ⟨B+2,3,none⟩=some (.int .i64 x.length))
      (first | assumption | exact ⟨H5.out.st.cells.1,H5.out.st.cells.2.1,H5.out.st.cells.2.2.2.1⟩ | exact ⟨s0,s1,s3⟩ | simp[go_sem, *])
      (first
       | (go_at_call 91;refine (YA (B+2) db n a x.length c h hn dF _ H4.out.drew.st).mono ?_;rintro e w5 ⟨he,aG⟩;rw[hq] at he;subst he;have H5:=JY (H4.out.drew.below aG);clear aG))
     clear s0 s1 s2 s3 s4 s5 H4;go_wp2_with fail;clear b1 b2 w1';have Fw:Hid (Has n d2.now a x c):=JY (by rw[(Hv.Ml jc.out).1];exact HH.out);have vM:=(aU.out.ok rfl).1;refine (ahE (B+2) db n a c x h hn dF hxl Fw.out vM (by have:=jl.out.calls;omega) w5 H5.out.st H5.out.dk H5.out.no.2.2 H5.out.base fu.out).mono ?_;rintro e w6 ⟨v6,r6,rfl,d6,C6,q1,q2,q3,q4,q5⟩;have H6:=JY (H5.out.go fu.out q4 q5 q2.rb);have Ir:=q1.form;have jN:=JY (q1.base (show B+3<=_ by have:=H5.out.st.lt;omega));have pK:=JY (jl.out.trans q2);have oU:=JY (q3.trans jc.out);clear q1 q2 q3 q4 q5 H5 vM;rcases Ir with ⟨rfl,rfl⟩ | ⟨h0,t,bb,rfl, -⟩
     · rw[By rfl];have s5:=H6.out.st.cells.2.2.2.2.2;have qh:(h==h)=true:=by simp
       go_wp2_with fail
       go_region_held3 (fun w'=>w'.cell? ⟨B+2,5,none⟩=some (.string ⟨h.toArray⟩))
        (first | assumption | exact H7.out.st.cells.2.2.2.2.2 | simp[go_sem, *])
        (first
         | (go_at_call 93;refine (ke.out _ H6.out.drew.base).mono ?_;rintro e w7 ⟨rfl,jv⟩;have H7:=JY (H6.out.drew.below jv);clear jv))
       clear s5 H6;go_wp2_with fail;have s4:=H7.out.st.cells.2.2.2.2.1;have f0:=J2 H7.out.con 0;have f1:=J2 H7.out.con 1;have r0:=(JZ H7.out.con 0).trans (show _=some (.string ⟨#[]⟩) from rfl);have r1:=(JZ H7.out.con 1).trans (show _=some (.int .i64 0) from rfl)
       go_region_held3 (fun w'=>w'.cell? ⟨B+2,4,none⟩=some (.int .i64 c))
        (first | assumption | simp[go_sem, *])
        (fail)
       have HF:=JY (H7.out.fin bG.out lD (.string ⟨x.toArray⟩) (.int .i64 c) .nilIface 0 (.inl ⟨rfl,rfl⟩));obtain ⟨⟨n0,n1⟩, -⟩:=HF.out;clear s4 f0 f1 r0 r1;go_wp2_with fail;obtain ⟨-,k1,k2,k3,k4⟩:=HF.out;refine IH (v := .tuple #[.pointer (some ⟨B+2,0,none⟩), .agg #[.string ⟨x.toArray⟩, .int .i64 c], .nilIface]) (by simp[results,Tryz.results46,go_sem,n0,n1]) rfl ⟨_,_,_,rfl,d6,C6,0, .inl ⟨rfl,rfl⟩,pK.out.more (by omega),k1.drew,k2.drew, .inl ⟨rfl,B+2,rfl,rfl,by rw[bG.out];omega,H7.out.no.2.2,k4,⟨fun i=>by rw[(Hv.Ml oU.out).2.1];exact Hv.NQ _ i,by rw[(Hv.Ml oU.out).1];exact HH.out,(pK.out.ok rfl).1⟩⟩⟩
     · rw[Bm (by omega)];have hne:r6≠0:=by omega
       have g0:=J2 H6.out.con 0;go_wp2_with fail;refine (Pe _ (B+3) _ r6 w6 jN.out (by have:=H6.out.st.lt;omega)).mono ?_;rintro e w9 ⟨v9,rfl,p1,p2⟩;have gZ:=JY p1;have H9:=JY (H6.out.below p2);have z0:=(JZ H9.out.con 0).trans (show _=some (.string ⟨#[]⟩) from rfl);have z1:=(JZ H9.out.con 1).trans (show _=some (.int .i64 0) from rfl);have y0:=J2 H9.out.con 0;have y1:=J2 H9.out.con 1;have HF:=JY (H9.out.fin bG.out lD (.string ⟨#[]⟩) (.int .i64 0) v9 r6 gZ.out);obtain ⟨⟨n0,n1⟩, -⟩:=HF.out;clear p1 p2;go_wp2_with fail;obtain ⟨-,k1,k2,k3, -⟩:=HF.out;refine IH (v := .tuple #[.pointer none, .agg #[.string ⟨#[]⟩, .int .i64 0],v9]) (by simp[results,Tryz.results46,go_sem,n0,n1]) rfl ⟨_,_,_,rfl,_,_,r6,k3,pK.out.more (by omega),k1,k2, .inr ⟨hne,rfl, .inr oU.out⟩⟩
   · rw[Bm (by omega)];have hne:r2≠0:=by omega
     have g0:=J2 H2.out.con 0;clear e0 e1;go_wp2_with fail;refine (Pe _ (B+3) _ r2 w2 bY.out (by have:=H2.out.st.lt;omega)).mono ?_;rintro e w9 ⟨v9,rfl,p1,p2⟩;have gZ:=JY p1;have H9:=JY (H2.out.below p2);have z0:=(JZ H9.out.con 0).trans (show _=some (.string ⟨#[]⟩) from rfl);have z1:=(JZ H9.out.con 1).trans (show _=some (.int .i64 0) from rfl);have y0:=J2 H9.out.con 0;have y1:=J2 H9.out.con 1;have HF:=JY (H9.out.fin bG.out lD (.string ⟨#[]⟩) (.int .i64 0) v9 r2 gZ.out);obtain ⟨⟨n0,n1⟩, -⟩:=HF.out;clear p1 p2;go_wp2_with fail;obtain ⟨-,k1,k2,k3, -⟩:=HF.out;refine IH (v := .tuple #[.pointer none, .agg #[.string ⟨#[]⟩, .int .i64 0],v9]) (by simp[results,Tryz.results46,go_sem,n0,n1]) rfl ⟨_,_,_,rfl,_,_,r2,k3,jl.out.more (by omega),k1,k2, .inr ⟨hne,rfl, .inr jc.out⟩⟩
 · have hne:r1≠0:=by omega
   have g0:=J2 H1.out.con 0;clear e0 e1;go_wp2_with fail;refine (Pe _ (B+3) _ r1 w1 fe.out (by have:=H1.out.st.lt;omega)).mono ?_;rintro e w9 ⟨v9,rfl,p1,p2⟩;have gZ:=JY p1;have H9:=JY (H1.out.below p2);have z0:=(JZ H9.out.con 0).trans (show _=some (.string ⟨#[]⟩) from rfl);have z1:=(JZ H9.out.con 1).trans (show _=some (.int .i64 0) from rfl);have y0:=J2 H9.out.con 0;have y1:=J2 H9.out.con 1;have HF:=JY (H9.out.fin bG.out lD (.string ⟨#[]⟩) (.int .i64 0) v9 r1 gZ.out);obtain ⟨⟨n0,n1⟩, -⟩:=HF.out;clear p1 p2;go_wp2_with fail;obtain ⟨-,k1,k2,k3, -⟩:=HF.out;refine IH (v := .tuple #[.pointer none, .agg #[.string ⟨#[]⟩, .int .i64 0],v9]) (by simp[results,Tryz.results46,go_sem,n0,n1]) rfl ⟨_,_,_,rfl,_,_,r1,k3,bO.out.op.more (by omega),k1,k2, .inr ⟨hne,rfl, .inl (bO.out.no hne).2.1⟩⟩
theorem adx{d:Dx} (db n:Nat) (E:Value) (iN:d.now[0]? = some (List.replicate 256 0)) (au:d.calls+500<1000000000000)
 (w:World) (hd:Kq C db d w) (hbs:Base w) (bt:∀ k,C k->12<=k) (hE:w.cell? ⟨0,0,none⟩=some E) :
 Calls Tryz.prog 46 #[.agg (M7 db n)] w fun e w'=>∃ v,e = .returned (.tuple #[.pointer none, .agg #[.string ⟨#[]⟩, .int .i64 0],v])/\∃ d' C' r,Ns d d' r 200/\Kq C' db d' w'/\Gr C C' w w'/\((r=0/\v=E/\d'.core=d.flush.core)\/(r≠0/\EV w.heap.size w' v r/\(d'.core=d.core\/d'.core=d.flush.core))):=by
 have aJ:=JY hbs;have bD:=JY bt;have HE:=JY hE;have cW:=hbs.size;have nB:=JY (fun w hw=>aaK w hw);have H0:=JY (Zm.first (n:=n) hd hbs);have rD:=hd.rb.2;obtain ⟨P,hP⟩:∃ P,List.replicate 256 (0:UInt8)=P:=⟨_,rfl⟩
 rw[hP] at iN nB;have qX : ¬ C 0:=fun q=>by have:=bt _ q;omega
 clear hd hbs bt hP hE;unfold M7;go_enter Tryz.func46,Tryz.ntmps46;go_wp2_with fail;obtain ⟨u,hu⟩:∃ u,((w.alloc (.cells #[.iface 24 (.pointer (some ⟨db,0,none⟩)), .int .i64 n] 123)).alloc (.cells #[.string ⟨#[]⟩, .int .i64 0] 119)).alloc (.cells #[.iface 24 (.pointer (some ⟨db,0,none⟩)), .int .i64 n, .int .i64 0, .int .i64 0, .int .i64 0, .string ⟨#[]⟩] 161)=u:=⟨_,rfl⟩
 obtain ⟨B,hB⟩:∃ B,w.heap.size=B:=⟨_,rfl⟩
 have ig:12<=B:=by omega
 have lD:d.rb<B:=by omega
 have xz:w.heap.size<=B:=by omega
 rw[hu,hB] at H0;rw[hu,hB];have bG:=JY hB;clear hu hB aJ cW rD;have c0:=J2 H0.out.con 0;refine (Q8 (m:=n) (by omega) u H0.out.dk).mono ?_;rintro e w1 ⟨v1,rfl,d1,C1,r1,q1,q2,q3,q4⟩;have H1:=JY (H0.out.go bD.out q3 q4 q2.op.rb);have hv1:=q1.form;have fe:=JY (q1.base (show B+3<=_ by have:=H0.out.st.lt;omega));have bO:=JY q2;have jS:=JY (H1.out.gr.low bD.out (by have:=bG.out;omega));have e0:=(JZ H1.out.dev 0).trans (show _=some (.iface 24 (.pointer (some ⟨db,0,none⟩))) from rfl);have e1:=(JZ H1.out.dev 1).trans (show _=some (.int .i64 n) from rfl);clear q1 q2 q3 q4 H0 c0;rcases hv1 with ⟨rfl,rfl⟩ | ⟨h0,t,bb,rfl, -⟩
 · have cC:=(bO.out.ok rfl).2.2;have ik:=JY cC;have hx1:d1.now[0]? = some P:=by rw[(Hv.Ml cC).1];exact iN
   clear cC;go_wp2_with fail;refine (VW (m:=n) (n:=0) P hx1 (by have:=bO.out.calls;omega) (by omega) w1 H1.out.dk H1.out.base jS.out).mono ?_;rintro e w2 ⟨v2,r2,rfl,d2,C2,q1,q2,q3,q4⟩;have H2:=JY (H1.out.go jS.out q3 q4 q2.op.rb);have hv2:=q1.form;have bY:=JY (q1.base (show B+3<=_ by have:=H1.out.st.lt;omega));have aU:=JY q2;have fu:=JY (H2.out.gr.low bD.out (by have:=bG.out;omega));have jl:=JY (bO.out.op.trans q2.op);have jc:=JY (show d2.core=d.flush.core from by
    rcases q2.rr with h0 | h0 | h0
    · exact (q2.ok h0).2.2.trans ik.out
    · exact (q2.no (by omega)).2.1.trans ik.out
    · exact (q2.no (by omega)).2.1.trans ik.out)
   clear q1 q2 q3 q4 H1 hx1;rcases hv2 with ⟨rfl,rfl⟩ | ⟨h0,t,bb,rfl, -⟩
   · rw[By rfl];have AH:=e0;have AJ:=e1;clear e0 e1 AH AJ;go_wp2_with fail;refine (nB.out w2 H2.out.base).mono ?_;rintro e w3 ⟨rfl,hb3⟩;have H3:=JY (H2.out.below hb3);obtain ⟨s0,s1,s2,s3,s4,s5⟩:=H3.out.st.cells;have f2:=J2 H3.out.st 2;have f3:=J2 H3.out.st 3;have f4:=J2 H3.out.st 4;have f5:=J2 H3.out.st 5;have H4:=JY (H3.out.put xz ig lD 0 0 0 []);clear hb3 H2;unfold M0;go_wp2_with fail;clear s0 s1 s2 s3 s4 s5 f2 f3 f4 f5 H3;rw[show B+1+1=B+2 from rfl];obtain ⟨W4,sF⟩:∃ W4,((((w3.setCell ⟨B+2,2,none⟩ (.int .i64 0)).setCell ⟨B+2,3,none⟩ (.int .i64 0)).setCell ⟨B+2,4,none⟩ (.int .i64 0)).setCell ⟨B+2,5,none⟩ (.string ⟨#[]⟩))=W4:=⟨_,rfl⟩
     have H5:Hid (Zm C B db n 0 0 0 [] d w C2 d2 W4):=JY (by rw[<- sF];exact H4.out);rw[sF];clear sF H4;go_quiet (fail);go_wp2_with fail;have e4:(W4.drewN nq).cell? ⟨0,0,none⟩=some E:=(Be (a:=⟨0,0,none⟩) (H5.out.gr.block qX (show 0<w.heap.size by have:=bG.out;omega))).trans HE.out;have f0:=J2 H5.out.con 0;have f1:=J2 H5.out.con 1;have r0:=(JZ H5.out.con 0).trans (show _=some (.string ⟨#[]⟩) from rfl);have r1:=(JZ H5.out.con 1).trans (show _=some (.int .i64 0) from rfl);obtain ⟨W5,Bb⟩:∃ W5,W4.drewN nq=W5:=⟨_,rfl⟩
     have H6:Hid (Zm C B db n 0 0 0 [] d w C2 d2 W5):=JY (by rw[<- Bb];exact H5.out.below (below_drewN (AD _ _) nq));rw[Bb] at e4 |-;clear Bb H5 f0 f1 r0 r1;have f0:=J2 H6.out.con 0;have f1:=J2 H6.out.con 1;have r0:=(JZ H6.out.con 0).trans (show _=some (.string ⟨#[]⟩) from rfl);have r1:=(JZ H6.out.con 1).trans (show _=some (.int .i64 0) from rfl);have hgl : ¬ 0=B+1:=by omega
     go_region_held3 (fun w'=>w'.cell? ⟨0,0,none⟩=some E)
      (first | assumption | simp[go_sem, *])
      (fail)
     have HF:=JY (H6.out.fin bG.out lD (.string ⟨#[]⟩) (.int .i64 0) .nilIface 0 (.inl ⟨rfl,rfl⟩));obtain ⟨⟨n0,n1⟩, -⟩:=HF.out;clear f0 f1 r0 r1;go_wp2_with fail;obtain ⟨-,k1,k2, -, -⟩:=HF.out;refine IH (v := .tuple #[.pointer none, .agg #[.string ⟨#[]⟩, .int .i64 0],E]) (by simp[results,Tryz.results46,go_sem,n0,n1]) rfl ⟨_,rfl,d2,C2,0,jl.out.more (by omega),k1.drew,k2.drew, .inl ⟨rfl,rfl,jc.out⟩⟩
   · rw[Bm (by omega)];have hne:r2≠0:=by omega
     have g0:=J2 H2.out.con 0;clear e0 e1;go_wp2_with fail;refine (Pe _ (B+3) _ r2 w2 bY.out (by have:=H2.out.st.lt;omega)).mono ?_;rintro e w9 ⟨v9,rfl,p1,p2⟩;have gZ:=JY p1;have H9:=JY (H2.out.below p2);have z0:=(JZ H9.out.con 0).trans (show _=some (.string ⟨#[]⟩) from rfl);have z1:=(JZ H9.out.con 1).trans (show _=some (.int .i64 0) from rfl);have y0:=J2 H9.out.con 0;have y1:=J2 H9.out.con 1;have HF:=JY (H9.out.fin bG.out lD (.string ⟨#[]⟩) (.int .i64 0) v9 r2 gZ.out);obtain ⟨⟨n0,n1⟩, -⟩:=HF.out;clear p1 p2;go_wp2_with fail;obtain ⟨-,k1,k2,k3, -⟩:=HF.out;refine IH (v := .tuple #[.pointer none, .agg #[.string ⟨#[]⟩, .int .i64 0],v9]) (by simp[results,Tryz.results46,go_sem,n0,n1]) rfl ⟨_,rfl,_,_,r2,jl.out.more (by omega),k1,k2, .inr ⟨hne,k3, .inr jc.out⟩⟩
 · have hne:r1≠0:=by omega
   have g0:=J2 H1.out.con 0;clear e0 e1;go_wp2_with fail;refine (Pe _ (B+3) _ r1 w1 fe.out (by have:=H1.out.st.lt;omega)).mono ?_;rintro e w9 ⟨v9,rfl,p1,p2⟩;have gZ:=JY p1;have H9:=JY (H1.out.below p2);have z0:=(JZ H9.out.con 0).trans (show _=some (.string ⟨#[]⟩) from rfl);have z1:=(JZ H9.out.con 1).trans (show _=some (.int .i64 0) from rfl);have y0:=J2 H9.out.con 0;have y1:=J2 H9.out.con 1;have HF:=JY (H9.out.fin bG.out lD (.string ⟨#[]⟩) (.int .i64 0) v9 r1 gZ.out);obtain ⟨⟨n0,n1⟩, -⟩:=HF.out;clear p1 p2;go_wp2_with fail;obtain ⟨-,k1,k2,k3, -⟩:=HF.out;refine IH (v := .tuple #[.pointer none, .agg #[.string ⟨#[]⟩, .int .i64 0],v9]) (by simp[results,Tryz.results46,go_sem,n0,n1]) rfl ⟨_,rfl,_,_,r1,bO.out.op.more (by omega),k1,k2, .inr ⟨hne,k3, .inl (bO.out.no hne).2.1⟩⟩
end
section
open Go.RowKit
open Kw (St ME)
open Hv (S Dk VM)
variable {pl:Hv.Plan}
theorem LC.weak{M M':Nat->Prop}     (h:LC M pl sv im km w) (hn:∀ g,M g->M' g):LC M' pl sv im km w:=by
 obtain ⟨I,i1,i2⟩:=h.ins;obtain ⟨K,k1,k2⟩:=h.Le;exact ⟨h.row,fun g hg=>hn g (h.amm g hg),⟨I,i1,i2.weak hn⟩,⟨K,k1,k2.weak hn⟩,⟨hn _ h.ge.1,hn _ h.ge.2⟩⟩
theorem UQ{A:Nat}    (hp:MR X pl sv im km w3) (hA:A<X) (AO:w1.heap.size<=A) (hb:Below w1.heap.size w1 w3) (hr:w3.heap[A]? = some (.cells #[.slice none 0 0, .map none, .map none] 100 (0,0))) (a b c:Value) :
 ∃ z,(((w3.setCell ⟨A,0,none⟩ a).setCell ⟨A,1,none⟩ b).setCell ⟨A,2,none⟩ c).heap[A]? = some (.cells #[a,b,c] 100 (0,0))/\LC (fun g=>w1.heap.size<=g/\g<z) pl sv im km (((w3.setCell ⟨A,0,none⟩ a).setCell ⟨A,1,none⟩ b).setCell ⟨A,2,none⟩ c)/\Below w1.heap.size w1 (((w3.setCell ⟨A,0,none⟩ a).setCell ⟨A,1,none⟩ b).setCell ⟨A,2,none⟩ c)/\z<=(((w3.setCell ⟨A,0,none⟩ a).setCell ⟨A,1,none⟩ b).setCell ⟨A,2,none⟩ c).heap.size:=by
 have hf:=(((Kj.refl w3.heap.size (fun q=>q=A) w3).setCell (p:=⟨A,0,none⟩) (.inr rfl) a).setCell (p:=⟨A,1,none⟩) (.inr rfl) b).setCell (p:=⟨A,2,none⟩) (.inr rfl) c;exact ⟨w3.heap.size,heap_setCell_same _ _ 2 _ _ _ (heap_setCell_same _ _ 1 _ _ _ (heap_setCell_same _ _ 0 _ _ _ hr)),(hp.inside.far hf (AC _) (fun g hg (q:g=A)=>by omega)).weak (fun g hg=>⟨by omega,hg.2⟩),((hb.setCell (p:=⟨A,0,none⟩) AO a).setCell (p:=⟨A,1,none⟩) AO b).setCell (p:=⟨A,2,none⟩) AO c,hf.size⟩
theorem ZY(hp:MR X pl sv im km w3) (hX:w1.heap.size<=X) (hb:Below w1.heap.size w1 w3) (a b c:Value) :
 ∃ z,(w3.alloc (.cells #[a,b,c] 100)).heap[w3.heap.size]? = some (.cells #[a,b,c] 100 (0,0))/\LC (fun g=>w1.heap.size<=g/\g<z) pl sv im km (w3.alloc (.cells #[a,b,c] 100))/\Below w1.heap.size w1 (w3.alloc (.cells #[a,b,c] 100))/\z<=(w3.alloc (.cells #[a,b,c] 100)).heap.size :=
 ⟨w3.heap.size,AF w3 _,(hp.inside.below ((AD w3.heap.size w3).alloc (AC _) _)).weak (fun g hg=>⟨by omega,hg.2⟩),hb.alloc hb.size _,by simp⟩
end
end Go.Proofs.YtfhmaiicimdldaaGreatDoor
