import Derived.Test.YtfhmaiicimdldaaGreatDoorFinJ22
set_option maxHeartbeats 4000000
set_option maxRecDepth 100000
namespace Go.Proofs.YtfhmaiicimdldaaGreatDoor
variable {k n:Int}{w w' w1 w2:World}{bv:Value}{B ak aq db mb:Nat}{C C1:Nat->Prop}{vs:List Value}
section
open Go.RowKit
open Hv (S Dx)
theorem aiv:(Tryz.prog.info? 423).map (fun i=>(i.zero,i.size,i.bytes))=some (some (.agg #[.int .u8 0, .int .i64 0, .int .i64 0]),3,24):=by kernel_rfl
theorem Zo{c:Int}:∀ x∈([.int .u8 k, .int .i64 n, .int .i64 c]:List Value),x.oneCell'=true:=fun x hx=>by simp at hx;rcases hx with rfl | rfl | rfl<;>rfl
theorem Ra(w:World) (x y z:Value) (t:TypeId):∀ j u,[x,y,z][j]? = some u->(w.alloc (.cells #[x,y,z] t)).cell? ((⟨w.heap.size,0,none⟩:Addr).add j)=some u:=by
 intro j u h;have hadd:(⟨w.heap.size,0,none⟩:Addr).add j=⟨w.heap.size,j,none⟩:=by unfold Addr.add;split<;>simp_all
 rw[hadd,JZ (AF w _)];simpa using h
theorem afj:∀ {l:List (Int × Int × Int)} {k:Nat} (h:k<l.length),(l.flatMap SK)[k*3]? = some (.int .u8 (l[k]).1)/\(l.flatMap SK)[k*3+1]? = some (.int .i64 (l[k]).2.1)/\(l.flatMap SK)[k*3+2]? = some (.int .i64 (l[k]).2.2)
 | _::_,0,_=>⟨rfl,rfl,rfl⟩
 | e::l,k+1,h=>by
   have hk:k<l.length:=by simpa using h
   obtain ⟨h1,h2,h3⟩:=afj hk;have e1:((e::l).flatMap SK)=SK e++l.flatMap SK:=rfl;have e2:(SK e).length=3:=rfl;rw[e1];refine ⟨?_,?_,?_⟩
   · rw[Hc (by omega),e2,show (k+1)*3-3=k*3 by omega,h1];rfl
   · rw[Hc (by omega),e2,show (k+1)*3+1-3=k*3+1 by omega,h2];rfl
   · rw[Hc (by omega),e2,show (k+1)*3+2-3=k*3+2 by omega,h3];rfl
theorem Xh.row{l:List (Int × Int × Int)} (h:Xh w bv l) {k:Nat} (hk:k<l.length):∃ g cap,bv = .slice (some ⟨g,0,none⟩) l.length cap/\w.cell? ⟨g,k*3,none⟩=some (.int .u8 (l[k]).1)/\w.cell? ⟨g,k*3+1,none⟩=some (.int .i64 (l[k]).2.1)/\w.cell? ⟨g,k*3+2,none⟩=some (.int .i64 (l[k]).2.2):=by
 obtain ⟨g,cap,rfl⟩:=Kt h (by omega);obtain ⟨h1,h2,h3⟩:=afj hk;exact ⟨g,cap,rfl,(h.cellAt _ (by omega)).trans h1,(h.cellAt _ (by omega)).trans h2,(h.cellAt _ (by omega)).trans h3⟩
theorem acK{v:Value} {l':List (Int × Int × Int)} {n:Nat} {xs:List Value} (h:w.ownsRow B 423 3 v n xs) (hn:n=l'.length) (hx:xs=l'.flatMap SK):w.ownsRow B 423 3 v l'.length (l'.flatMap SK):=by rw[<- hn,<- hx];exact h
structure amC (C:Nat->Prop) (db nb aq mb ak:Nat) (d:Dx) (vs:List Value) (bv:Value) (kind n:Int) (w:World) (k:Nat) (la:Option Addr) (ln lc:Nat) (wr:World):Prop where
 own:wr.ownsRow w.heap.size 423 3 (.slice la ln lc) (Hv.Oi kind n (d.bad.take k)).length ((Hv.Oi kind n (d.bad.take k)).flatMap SK)
 K7:Below w.heap.size w wr
theorem anE{nb:Nat} {d:Dx}   (kind n:Int) (f:Bool) (hb:d.bad.length+1<=d.calls) (hc:∀ e∈d.bad,0<=e.2.2/\e.2.2+1<=d.calls) (h1:1<=d.calls) (w:World) (h:Nt C db d nb aq mb ak vs bv w) :
 Calls Tryz.prog 345 #[.pointer (some ⟨db,0,none⟩), .int .u8 kind, .int .i64 n, .bool f] w fun e w'=>∃ u C',e = .returned u/\Kq C' db (if f=true then d.fails kind n else d.fine kind n) w'/\Kj w.heap.size C w w'/\∀ k,C' k->C k\/w.heap.size<=k:=by
 obtain ⟨i0,hi,hz0,hz1,hz2⟩:=KJ aiv;have HD:=JY h;have eG:=JY h.bad;have hl:=h.lt db h.Td.1;have HC:=JY hc;have hcb:∀ k,0<=Hv.Xz kind n (d.bad.take k)/\Hv.Xz kind n (d.bad.take k)+1<=d.calls:=fun k=>by
  have:=aaG (k:=kind) (n:=n) (B:=(d.calls:Int)-1) (d.bad.take k) 0 (by omega) (by omega) (fun e he=>by have:=hc e (GT he);omega);unfold Hv.Xz;omega
 have kP:=JY hcb;have au:=h.few.1;obtain ⟨CN,hnb⟩:∃ CN,d.bad.length=CN:=⟨_,rfl⟩
 have zQ:=JY hnb;obtain ⟨ba,bn,bc,kx⟩:∃ ba bn bc,bv = .slice ba bn bc:=by
  obtain ⟨a,c,e⟩:=J4 h.bad;exact ⟨a,_,c,e⟩
 have iG:bn=CN:=by
  obtain ⟨a,c,e⟩:=J4 h.bad;rw[kx] at e;injection e with e1 e2 e3
  omega
 subst iG;rw[hnb] at hb;have hb2:bn+1<=1000000000000:=by omega
 have Fg:=JY kx;obtain ⟨-, -, -, -, -, -, -,c7,c8,eO⟩:=h.cells;rw[kx] at c7;have f8:=eO 8;have f7:=eO 7;have ay:Hid (amC C db nb aq mb ak d vs bv kind n w 0 none 0 0 w):=JY ⟨Cf _ _ _ _,AD _ _⟩;clear h eO hc hcb hnb kx;go_enter Tryz.func345,Tryz.ntmps345;go_wp2_with fail;go_loopw [8,9,10] (fun l c i wr=>∃ (k:Nat) (la:Option Addr) (ln lc:Nat),k<=bn/\l = .slice la ln lc/\i = .int .i64 (k:Int)/\c = .int .i64 (Hv.Xz kind n (d.bad.take k))/\Hid (amC C db nb aq mb ak d vs bv kind n w k la ln lc wr)) (fun _ _ i _=>bn-(intOf i).toNat)
 case atStart=>exact ⟨0,none,0,0,Bs _,rfl,rfl,rfl,ay⟩
 case round =>
  clear ay;obtain ⟨k,la,ln,lc,hk,rfl,rfl,rfl,HI⟩:=hrel;have k7:=(HI.out.K7.cell (p:=⟨db,7,none⟩) hl).trans c7;have hcc:=kP.out k;obtain ⟨c,hce⟩:∃ c,Hv.Xz kind n (d.bad.take k)=c:=⟨_,rfl⟩
  rw[hce] at hcc;have s8:=JY hce;rw[hce];obtain ⟨hc0,hc1⟩:=hcc;have hw1:=HI.out.K7.size;have hrl:=VE kind n (d.bad.take k);have Cj:(d.bad.take k).length<=bn:=by rw[DD];have:=zQ.out;omega
  obtain ⟨rl,hre⟩:∃ rl,Hv.Oi kind n (d.bad.take k)=rl:=⟨_,rfl⟩
  have nP:=JY hre;have HOW:Hid (wr.ownsRow w.heap.size 423 3 (.slice la ln lc) rl.length (rl.flatMap SK)):=JY (by rw[<- hre];exact HI.out.own);have dR:=JY HI.out.K7;rw[hre] at hrl;have wY:rl.length<=1000000000000/\rl.length+1<=d.calls:=by omega
  obtain ⟨wY,Ck⟩:=wY;clear hce hre HI hrl Cj;by_cases hlt:k<bn
  · have b1:(k:Int)<(bn:Int):=by omega
    have hkl:k<d.bad.length:=by have:=zQ.out;omega
    obtain ⟨g,cap,Bc,r0,r1,r2⟩:=eG.out.row hkl;have hbg:ba=some ⟨g,0,none⟩:=by rw[Fg.out] at Bc;exact (DS Bc).1
    subst hbg;have hgl:g<w.heap.size:=B5 w _ r0;have q0:=(dR.out.cell (p:=⟨g,k*3,none⟩) hgl).trans r0;have q1:=(dR.out.cell (p:=⟨g,k*3+1,none⟩) hgl).trans r1;have q2:=(dR.out.cell (p:=⟨g,k*3+2,none⟩) hgl).trans r2;have bS:=JY (show d.bad.take (k+1)=d.bad.take k++[d.bad[k]] from AT hkl);obtain ⟨en,hen⟩:∃ en,d.bad[k]=en:=⟨_,rfl⟩
    rw[hen] at q0 q1 q2 bS;obtain ⟨ek,ei,ec⟩:=en;simp only at q0 q1 q2;clear hen r0 r1 r2 Bc;have dA:((ek==kind)=true/\(ei==n)=true)\/(ek==kind)=false\/((ek==kind)=true/\(ei==n)=false):=by
     cases (ek==kind)<;>cases (ei==n)<;>simp
    rcases dA with ⟨x1,x2⟩ | x1 | ⟨x1,x2⟩
    · have HB:Hid (Hv.isB kind n (ek,ei,ec)=true):=JY (by simp only[Hv.isB,x1,x2];rfl);go_wp2_with fail;refine ⟨⟨k+1,la,ln,lc,by omega,rfl,by go_num,?_,JY ⟨?_,dR.out⟩⟩,by simp[intOf];omega⟩
      · rw[bS.out,Vd,By HB.out]
      · rw[bS.out,TV,By HB.out,nP.out];exact HOW.out
    all_goals
     have HB:Hid (Hv.isB kind n (ek,ei,ec)=false):=JY (by simp only[Hv.isB,x1];first | rfl | simp only[x2];rfl);go_wp2_with (at_builtin;refine wpList_append_own_at _ rfl _ _ 40 rfl w.heap.size 423 i0 (.agg #[.int .u8 0, .int .i64 0, .int .i64 0]) 3 24 Tryz.underlying40 hi hz0 hz1 hz2 rfl (by decide) (.slice la ln lc) rl.length (rl.flatMap SK) rfl (Ky HOW.out ((AD wr.heap.size wr).alloc (AC _) _)) ⟨wr.heap.size,0,none⟩ 1 1 [.int .u8 ek, .int .i64 ei, .int .i64 ec] rfl rfl (Ra _ _ _ _ _) Zo (by unfold maxLen;omega) (by omega) (by simp;omega) ?_;intro v8 w8 o8 g8 n8 b8;obtain ⟨gv,cv,rfl⟩:=Kt o8 (by omega);have nu:=JY ((dR.out.alloc hw1 (.cells #[.int .u8 ek, .int .i64 ei, .int .i64 ec] 423)).grown g8 (by simp;omega) (fun k e=>(HOW.out.lt k e).1));have O8:=JY o8;clear o8 g8 n8 b8)
     refine ⟨⟨k+1,_,_,_,by omega,rfl,by go_num,?_,JY ⟨?_,nu.out⟩⟩,by simp[intOf];omega⟩
     · rw[bS.out,Vd,Bm (by rw[HB.out];decide),s8.out]
     · rw[bS.out,TV,Bm (by rw[HB.out];decide),nP.out];exact acK O8.out (by simp) (by simp[SK])
  · obtain rfl:k=bn:=by omega
    have b1 : ¬ (k:Int)<(k:Int):=by omega
    have Di:Hid (d.bad.take k=d.bad):=JY (An (by have:=zQ.out;omega));have k8:=(dR.out.cell (p:=⟨db,8,none⟩) hl).trans c8;have u7:=(PK (dR.out.block db hl) 7).trans f7;have u8:=(PK (dR.out.block db hl) 8).trans f8;have bH:=JY (HD.out.kept hw1 (fun k hk=>dR.out.block k (by rcases hk with q | q;exact HD.out.lt k q;exact q▸HD.out.rb.2)));have nz:Hid (Hv.cnt d kind n=c):=JY (by unfold Hv.cnt;rw[<- Di.out];exact s8.out);have iW:Hid (Hv.Oi kind n d.bad=rl):=JY (by rw[<- Di.out];exact nP.out);have cx:Hid (∀ e∈rl,0<=e.2.2/\e.2.2+1<=d.calls):=JY (fun e he=>HC.out e (by rw[<- iW.out] at he;exact (List.mem_filter.1 he).1));cases f with
    | false =>
      go_wp2_with fail;have D2:=bH.out.turn rl (bv' := .slice la ln lc) (KL HOW.out (Bs _)) ⟨by omega,fun e he=>⟨(cx.out e he).1,by have:=(cx.out e he).2;omega⟩⟩ (fun g hg=>by have:=HOW.out.lt g hg;exact ⟨fun q=>by have:=HD.out.lt g q;omega,fun q=>by have:=HD.out.rb.2;simp only[Dx.rb] at *;omega,by omega⟩);have key:Kq _ db (d.fine kind n) _:=⟨_,_,_,_,_,_,by unfold Hv.Dx.fine;rw[iW.out];exact D2⟩
      go_end0
      first
       | exact ⟨_,_,rfl,key,(Kj.of dR.out (AC _)).setCell (p:=⟨db,7,none⟩) (.inr HD.out.Td.1) _,fun k q=>Or.imp id (fun q=>(HOW.out.lt k q).1) q⟩
       | exact ⟨⟨_,rfl⟩,_,key,(Kj.of dR.out (AC _)).setCell (p:=⟨db,7,none⟩) (.inr HD.out.Td.1) _,fun k q=>Or.imp id (fun q=>(HOW.out.lt k q).1) q⟩
    | true =>
      go_wp2_with (at_builtin;refine wpList_append_own_at _ rfl _ _ 40 rfl w.heap.size 423 i0 (.agg #[.int .u8 0, .int .i64 0, .int .i64 0]) 3 24 Tryz.underlying40 hi hz0 hz1 hz2 rfl (by decide) (.slice la ln lc) rl.length (rl.flatMap SK) rfl (Ky HOW.out ((AD wr.heap.size wr).alloc (AC _) _)) ⟨wr.heap.size,0,none⟩ 1 1 [.int .u8 kind, .int .i64 n, .int .i64 (c+1)] rfl rfl (Ra _ _ _ _ _) Zo (by unfold maxLen;omega) (by omega) (by simp;omega) ?_;intro v8 w8 o8 g8 n8 b8;obtain ⟨gv,cv,rfl⟩:=Kt o8 (by omega);have gq:=(dR.out.alloc hw1 (.cells #[.int .u8 kind, .int .i64 n, .int .i64 (c+1)] 423)).grown g8 (by simp;omega) (fun k e=>(HOW.out.lt k e).1);have k7:=(gq.cell (p:=⟨db,7,none⟩) hl).trans c7;have k8:=(gq.cell (p:=⟨db,8,none⟩) hl).trans c8;have q7:=(PK (gq.block db hl) 7).trans f7;have q8:=(PK (gq.block db hl) 8).trans f8;have nu:=JY gq;have O8:=JY o8;clear o8 g8 n8 b8 gq)
      have Cn:=nu.out.size;have D1:=(HD.out.kept Cn (fun k hk=>nu.out.block k (by rcases hk with q | q;exact HD.out.lt k q;exact q▸HD.out.rb.2))).top (d':={ d with worst:=max d.worst (c+1) }) 8 (.int .i64 (max d.worst (c+1))) rfl rfl rfl rfl rfl HD.out.few;have D2:=D1.turn (rl++[(kind,n,c+1)]) (bv' := .slice (some ⟨gv,0,none⟩) (rl.length+1) cv) (KT (KL (acK (l':=rl++[(kind,n,c+1)]) O8.out (by simp) (by simp[SK])) (Bs _)) (fun e=>by have:=(O8.out.lt db e).1;omega)) ⟨by rw[AS,List.length_singleton];exact Ck,fun e he=>by
       rcases List.mem_append.1 he with he | he
       · exact ⟨(cx.out e he).1,by have:=(cx.out e he).2;show e.2.2<=(d.calls:Int);omega⟩
       · have:e=(kind,n,c+1):=by simpa using he
         subst this;exact ⟨by show 0<=c+1;omega,hc1⟩⟩ (fun g hg=>by have:=O8.out.lt g hg;exact ⟨fun q=>by have:=HD.out.lt g q;omega,fun q=>by have:=HD.out.rb.2;simp only[Dx.rb] at *;omega,by simp;omega⟩)
      have key:Kq _ db (d.fails kind n) _:=⟨_,_,_,_,_,_,by unfold Hv.Dx.fails;rw[iW.out,nz.out];exact D2⟩
      go_end0
      first
       | exact ⟨_,_,rfl,key,((Kj.of nu.out (AC _)).setCell (p:=⟨db,8,none⟩) (.inr HD.out.Td.1) _).setCell (p:=⟨db,7,none⟩) (.inr HD.out.Td.1) _,fun k q=>Or.imp id (fun q=>(O8.out.lt k q).1) q⟩
       | exact ⟨⟨_,rfl⟩,_,key,((Kj.of nu.out (AC _)).setCell (p:=⟨db,8,none⟩) (.inr HD.out.Td.1) _).setCell (p:=⟨db,7,none⟩) (.inr HD.out.Td.1) _,fun k q=>Or.imp id (fun q=>(O8.out.lt k q).1) q⟩
theorem Zv{d:Dx}  (h:d.gone=true):d.call k n=(d,17):=by simp[Dx.call,h]
theorem abR{d:Dx}  (h:d.gone=false) (h1:0<=d.after) (h2:d.after<=d.calls):d.call k n=({ d with gone:=true },17):=by simp[Dx.call,h,h1,h2]
theorem abQ{d:Dx}  (h:d.gone=false) (h1 : ¬ (0<=d.after/\d.after<=d.calls)) (h2:d.hit=true):d.call k n=(({ d with calls:=d.calls+1 }:Dx).fails k n,16):=by
 rw[Dx.call,Bm (by rw[h];decide),Bm h1,By h2]
theorem Zu{d:Dx}  (h:d.gone=false) (h1 : ¬ (0<=d.after/\d.after<=d.calls)) (h2:d.hit=false):d.call k n=(({ d with calls:=d.calls+1 }:Dx).fine k n,0):=by
 rw[Dx.call,Bm (by rw[h];decide),Bm h1,Bm (by rw[h2];decide)]
theorem anj{nb:Nat} {d:Dx}   (kind n:Int) (au:d.calls+1<1000000000000) (w:World) (h:Nt C db d nb aq mb ak vs bv w) :
 Calls Tryz.prog 344 #[.pointer (some ⟨db,0,none⟩), .int .u8 kind, .int .i64 n] w fun e w'=>∃ C',e = .returned (.int .i64 (d.call kind n).2)/\Kq C' db (d.call kind n).1 w'/\Kj w.heap.size C w w'/\∀ k,C' k->C k\/w.heap.size<=k:=by
 obtain ⟨-, -,c2,c3,c4,c5, -, -, -,eO⟩:=h.cells;have f2:=eO 2;have f4:=eO 4;have HD:=JY h;clear h eO;cases hg:d.gone with
 | true =>
   have HC:=JY (Zv (k:=kind) (n:=n) hg);rw[hg] at c4;clear hg;go_enter Tryz.func344,Tryz.ntmps344;go_wp2_with (first | go_region)
   go_ret;rw[HC.out];exact ⟨C,rfl,⟨_,_,_,_,_,_,HD.out.drew⟩,(Kj.refl _ _ _).drew,fun _ => .inl⟩
 | false =>
   rw[hg] at c4;by_cases ho:0<=d.after/\d.after<=(d.calls:Int)
   · obtain ⟨h1,h2⟩:=ho;have HC:=JY (abR (k:=kind) (n:=n) hg h1 h2);clear hg;go_enter Tryz.func344,Tryz.ntmps344;go_wp2_with (first | go_region)
     go_ret;rw[HC.out];exact ⟨C,rfl,⟨_,_,_,_,_,_,HD.out.drew.top (d':={ d with gone:=true }) 4 (.bool true) rfl rfl rfl rfl rfl HD.out.few⟩,(Kj.refl _ _ _).drew.setCell (p:=⟨db,4,none⟩) (.inr HD.out.Td.1) _,fun _ => .inl⟩
   · have HO:Hid (¬ (0<=d.after/\d.after<=(d.calls:Int))):=JY ho;have lC : ¬ (0<=d.after)\/(0<=d.after /\ ¬ d.after<=(d.calls:Int)):=by omega
     have hcl:=HD.out.few.1;have bH:Hid (Nt C db { d with calls:=d.calls+1 } nb aq mb ak vs bv (w.setCell ⟨db,2,none⟩ (.int .i64 ((d.calls:Int)+1)))):=JY (HD.out.top (d':={ d with calls:=d.calls+1 }) 2 (.int .i64 ((d.calls:Int)+1)) rfl rfl rfl rfl rfl ⟨au,by have:=HD.out.few.2;simp only;omega⟩);have aO:Hid (Kj w.heap.size C w (w.setCell ⟨db,2,none⟩ (.int .i64 ((d.calls:Int)+1)))):=JY ((Kj.refl _ _ _).setCell (p:=⟨db,2,none⟩) (.inr HD.out.Td.1) _);obtain ⟨-, -,k2, -, -,k5, -,k7, -, -⟩:=bH.out.cells;have k2:(w.setCell ⟨db,2,none⟩ (.int .i64 ((d.calls:Int)+1))).cell? ⟨db,2,none⟩=some (.int .i64 ((d.calls:Int)+1)):=k2;obtain ⟨Gf,uS,Gg,vC⟩:∃ a n c,bv = .slice a n c:=by
      obtain ⟨a,c,e⟩:=J4 HD.out.bad;exact ⟨a,_,c,e⟩
     have ze:Hid (d.bad.length=uS):=JY (by
      obtain ⟨a,c,e⟩:=J4 HD.out.bad;rw[vC] at e;injection e with e1 e2 e3
      omega)
     have eG:Hid (∀ f,Calls Tryz.prog 345 #[.pointer (some ⟨db,0,none⟩), .int .u8 kind, .int .i64 n, .bool f] (w.setCell ⟨db,2,none⟩ (.int .i64 ((d.calls:Int)+1))).drew.drew fun e w'=>∃ u C',e = .returned u/\Kq C' db (if f=true then ({ d with calls:=d.calls+1 }:Dx).fails kind n else ({ d with calls:=d.calls+1 }:Dx).fine kind n) w'/\Kj (w.setCell ⟨db,2,none⟩ (.int .i64 ((d.calls:Int)+1))).drew.drew.heap.size C (w.setCell ⟨db,2,none⟩ (.int .i64 ((d.calls:Int)+1))).drew.drew w'/\∀ k,C' k->C k\/(w.setCell ⟨db,2,none⟩ (.int .i64 ((d.calls:Int)+1))).drew.drew.heap.size<=k):=JY (fun f =>
      anE (d:={ d with calls:=d.calls+1 }) kind n f (by show d.bad.length+1<=d.calls+1;have:=HD.out.cts.1;omega) (fun e he=>⟨(HD.out.cts.2 e he).1,by have:=(HD.out.cts.2 e he).2;show e.2.2+1<=((d.calls+1:Nat):Int);omega⟩) (by show 1<=d.calls+1;omega) _ bH.out.drew.drew)
     subst vC;obtain ⟨cl,ky⟩:∃ x,d.calls=x:=⟨_,rfl⟩
     obtain ⟨af,yG⟩:∃ x,d.after=x:=⟨_,rfl⟩
     have HG:=JY hg;have cY:=JY ky;cases hh:d.hit with
     | true =>
       have Eo:=hh;rw[Dx.hit,Bool.and_eq_true,decide_eq_true_eq,decide_eq_true_eq] at Eo;obtain ⟨h0,h1⟩:=Eo;obtain ⟨a,ha,kc⟩:=bH.out.fl.2 ((d.calls+1)%d.fl.n) (Nat.mod_lt _ h0);have kc:(w.setCell ⟨db,2,none⟩ (.int .i64 ((d.calls:Int)+1))).cell? (a.add ((d.calls+1)%d.fl.n))=some (.int .i64 (d.fl.f ((d.calls+1)%d.fl.n))):=kc;have k5:(w.setCell ⟨db,2,none⟩ (.int .i64 ((d.calls:Int)+1))).cell? ⟨db,5,none⟩=some (.slice d.fl.p d.fl.n d.fl.c):=k5;rw[h1] at kc;have ha:d.fl.p=some a:=ha;rw[ha] at k5;have hm:((d.calls:Int)+1).tmod (d.fl.n:Int)=(((d.calls+1)%d.fl.n:Nat):Int):=by rw[Ex (by omega)];rfl
       have aY:=HD.out.fl.1;unfold maxLen at aY;have hlt:=Nat.mod_lt (d.calls+1) h0;have HC:=JY (abQ (k:=kind) (n:=n) hg ho hh);obtain ⟨ix,mS⟩:∃ ix,(d.calls+1)%d.fl.n=ix:=⟨_,rfl⟩
       rw[mS] at kc hm hlt;obtain ⟨fn,hfn⟩:∃ x,d.fl.n=x:=⟨_,rfl⟩
       obtain ⟨fc,hfc⟩:∃ x,d.fl.c=x:=⟨_,rfl⟩
       rw[hfn,hfc] at k5;rw[hfn] at hm aY hlt h0;rw[ky] at c2 k2 k5 kc hm hcl au lC bH aO eG;rw[yG] at c3 lC;clear hg ho hh mS h1 ha hfn hfc ky yG k7 c5;have Gk:(0:Int)<(fn:Int):=by omega
       have BD:(ix:Int)<(fn:Int):=by omega
       go_enter Tryz.func344,Tryz.ntmps344;rcases lC with lC | ⟨lC,ow⟩
       all_goals
        go_wp2_with (first | go_region)
        refine (eG.out true).mono ?_;rintro e w2 ⟨u,C',rfl,q1,q2,q3⟩;have cR:=JY q1;have bR:=JY q2;have eZ:=JY q3;rw[By rfl] at cR;clear q1 q2 q3;go_wp2_with fail;go_ret;rw[HC.out,cY.out];exact ⟨C',rfl,cR.out,aO.out.drew.drew.next bR.out (by simp) (fun _ _ q=>q),fun k q=>by simpa using eZ.out k q⟩
     | false =>
       have HC:=JY (Zu (k:=kind) (n:=n) hg ho hh);have dA:d.fl.n=0\/(0<d.fl.n /\ ¬ d.fl.f ((d.calls+1)%d.fl.n)=1):=by
        rw[Dx.hit,Bool.and_eq_false_iff,decide_eq_false_iff_not,decide_eq_false_iff_not] at hh;omega
       obtain ⟨fn,hfn⟩:∃ x,d.fl.n=x:=⟨_,rfl⟩
       obtain ⟨fc,hfc⟩:∃ x,d.fl.c=x:=⟨_,rfl⟩
       have aY:=HD.out.fl.1;unfold maxLen at aY;have k5:(w.setCell ⟨db,2,none⟩ (.int .i64 ((d.calls:Int)+1))).cell? ⟨db,5,none⟩=some (.slice d.fl.p d.fl.n d.fl.c):=k5;have hm:((d.calls:Int)+1).tmod (d.fl.n:Int)=(((d.calls+1)%d.fl.n:Nat):Int):=by rw[Ex (by omega)];rfl
       obtain ⟨fp,Ek,hpc⟩:∃ fp,d.fl.p=fp/\(fn=0 \/ ∃ a fv,0<fn/\fp=some a/\(w.setCell ⟨db,2,none⟩ (.int .i64 ((d.calls:Int)+1))).cell? (a.add ((d.calls+1)%d.fl.n))=some (.int .i64 fv)/\(fv==1)=false /\ ¬ fv=1):=⟨_,rfl,by
        rcases dA with q | ⟨q1,q2⟩
        · exact .inl (hfn▸q)
        · obtain ⟨a,ha,kc⟩:=bH.out.fl.2 ((d.calls+1)%d.fl.n) (Nat.mod_lt _ q1);exact .inr ⟨a,_,by omega,ha,kc,by simpa using q2,q2⟩⟩
       have hlt:0<d.fl.n->(d.calls+1)%d.fl.n<d.fl.n:=Nat.mod_lt _;obtain ⟨ix,mS⟩:∃ ix,(d.calls+1)%d.fl.n=ix:=⟨_,rfl⟩
       rw[mS] at hpc hm hlt;rw[Ek,hfn,hfc] at k5;rw[hfn] at hm aY hlt;have k7:(w.setCell ⟨db,2,none⟩ (.int .i64 ((d.calls:Int)+1))).cell? ⟨db,7,none⟩=some (.slice Gf uS Gg):=k7;rw[ky] at c2 k2 k5 k7 hpc hm hcl au lC bH aO eG;rw[yG] at c3 lC;clear hg ho hh mS hfn hfc ky yG c5 Ek dA;have HE:Hid (uS=0->({ d with calls:=cl+1 }:Dx).fine kind n={ d with calls:=cl+1 }):=JY (fun q=>by
        have:d.bad=[]:=List.eq_nil_of_length_eq_zero (ze.out.trans q);simp[Dx.fine,Hv.Oi,this])
       go_enter Tryz.func344,Tryz.ntmps344;rcases lC with lC | ⟨lC,ow⟩
       all_goals
        rcases hpc with rfl | ⟨a,fv,hpos,rfl,kc,Jq,Hd⟩
       all_goals
        try have Gk:(0:Int)<(fn:Int):=by omega
        try have hz0 : ¬ (0:Int)<((0:Nat):Int):=by decide
        try have BD:(ix:Int)<(fn:Int):=by have:=hlt hpos;omega
        by_cases hb0:uS=0
        · have Fk:=JY (HE.out hb0);subst hb0;have hz1 : ¬ (0:Int)<((0:Nat):Int):=by decide
          clear HE ze eG;go_wp2_with (first | go_region)
          go_ret;rw[HC.out,cY.out,Fk.out]
          first | exact ⟨C,rfl,⟨_,_,_,_,_,_,bH.out.drew.drew⟩,aO.out.drew.drew,fun _ => .inl⟩ | exact ⟨rfl,C,⟨_,_,_,_,_,_,bH.out.drew.drew⟩,aO.out.drew.drew,fun _ => .inl⟩
        · have hb1:(0:Int)<(uS:Int):=by omega
          clear HE ze;go_wp2_with (first | go_region)
          refine (eG.out false).mono ?_;rintro e w2 ⟨u,C',rfl,q1,q2,q3⟩;have cR:=JY q1;have bR:=JY q2;have eZ:=JY q3;rw[Bm (by decide)] at cR;clear q1 q2 q3 eG;go_wp2_with fail;go_ret;rw[HC.out,cY.out];exact ⟨C',rfl,cR.out,aO.out.drew.drew.next bR.out (by simp) (fun _ _ q=>q),fun k q=>by simpa using eZ.out k q⟩
def Gr (C C':Nat->Prop) (w w':World):Prop:=Kj w.heap.size C w w'/\∀ k,C' k->C k\/w.heap.size<=k
theorem Gr.refl(C:Nat->Prop) (w:World):Gr C C w w:=⟨Kj.refl _ _ _,fun _ => .inl⟩
theorem Gr.trans{C2:Nat->Prop}  (h:Gr C C1 w w1) (k:Gr C1 C2 w1 w2):Gr C C2 w w2:=by
 have hs:=h.1.size;refine ⟨h.1.next k.1 hs fun i hi q=>(h.2 i q).resolve_right (by omega),fun i q => ?_⟩;rcases k.2 i q with q | q
 · exact h.2 i q
 · exact .inr (by omega)
theorem Gr.below(h:Gr C C1 w w1) (k:Below w1.heap.size w1 w2):Gr C C1 w w2:=h.trans ⟨Kj.of k (AC _),fun _ => .inl⟩
theorem Gr.drew(h:Gr C C1 w w1):Gr C C1 w w1.drew:=⟨h.1.drew,h.2⟩
theorem Gr.alloc(h:Gr C C1 w w1) (o:Obj):Gr C C1 w (w1.alloc o):=h.below ((AD _ _).alloc (AC _) o)
theorem Gr.set(h:Gr C C1 w w1) (b i:Nat) (hb:C1 b) (v:Value):Gr C C1 w (w1.setCell ⟨b,i,none⟩ v):=h.trans ⟨(Kj.refl _ _ _).setCell (p:=⟨b,i,none⟩) (.inr hb) v,fun _ => .inl⟩
theorem Gr.old(h:Gr C C1 w w1) {k:Nat} (hk : ¬ C k) (hl:k<w.heap.size) : ¬ C1 k:=fun q=>(h.2 k q).elim hk fun q=>by omega
theorem Gr.block(h:Gr C C1 w w1) {k:Nat} (hk : ¬ C k) (hl:k<w.heap.size):w1.heap[k]? = w.heap[k]? := h.1.block k hl hk
theorem Nt.ajw{nb:Nat} {d:Dx}    (h:Nt C db d nb aq mb ak vs bv w):vs.length=d.now.length:=by have:=h.may.1;simpa using this
theorem Nt.put{nb:Nat} {d:Dx}    (h:Nt C db d nb aq mb ak vs bv w) (n:Nat) (hn:n<d.now.length) (v v':Value) (hv:vs[n]? = some v) (xs':List S)
 (hg:w.grownBy w1 v.ownBlock) (hs:Strs w1 v' xs') (hb:v'.ownBlock=v.ownBlock \/ ∀ g,v'.ownBlock=some g->w.heap.size<=g) (hl:∀ g,v'.ownBlock=some g->g<w1.heap.size) :
 Nt (fun k=>C k\/v'.ownBlock=some k) db { d with may:=d.may.set n xs' } nb aq mb ak (vs.set n v') bv (w1.setCell ⟨mb,n,none⟩ v'):=by
 obtain ⟨o1,o2,o3,o4,o5⟩:=h.off;obtain ⟨i1,i2,i3,i4,i5⟩:=h.Td;have hsz:=hg.size;have hq:∀ i u,(vs.set n v')[i]? = some u->(i=n/\u=v')\/(i≠n/\vs[i]? = some u):=fun i u q=>by
  rw[List.getElem?_set] at q;split at q
  · split at q
    · cases q;exact .inl ⟨by omega,rfl⟩
    · cases q
  · exact .inr ⟨by omega,q⟩
 have EX:∀ g,v.ownBlock=some g->C g:=fun g e=>i4 n v g hv e
 have hnew:∀ g k,v'.ownBlock=some g->C k->v.ownBlock≠some k->g≠k:=fun g k e hk hne e'=>by
  subst e';rcases hb with hb | hb
  · exact hne (hb▸e)
  · have:=hb g e;have:=h.lt g hk;omega
 have h3:∀ g,v'.ownBlock=some g->g≠db/\g≠nb/\g≠mb:=fun g e=>⟨hnew g db e i1 fun q=>(o4 n v _ hv q).1 rfl,hnew g nb e i2 fun q=>(o4 n v _ hv q).2.1 rfl,hnew g mb e i3 fun q=>(o4 n v _ hv q).2.2 rfl⟩
 have oq:∀ k,k<w.heap.size->v.ownBlock≠some k->w1.heap[k]? = w.heap[k]? := fun k hk hne=>hg.block k hk (fun e=>hne e.symm)
 have hkm:∀ k,k<w.heap.size->v.ownBlock≠some k->k≠mb->(w1.setCell ⟨mb,n,none⟩ v').heap[k]? = w.heap[k]? := fun k hk hne hm=>(BY _ _ _ _ hm).trans (oq k hk hne)
 have iG:∀ g,bv.ownBlock=some g->v.ownBlock≠some g:=fun g e=>(o5 g e).2 n v hv
 refine ⟨(hkm db (h.lt _ i1) (fun e=>(o4 n v _ hv e).1 rfl) o2).trans h.blk,Kg h.now (fun k e=>by cases e;exact hkm _ (h.lt _ i2) (fun e=>(o4 n v _ hv e).2.1 rfl) o3),afz (Kg h.may (fun k e=>by cases e;exact oq _ (h.lt _ i3) (fun e=>(o4 n v _ hv e).2.2 rfl))) n _,by simpa using h.len,fun i u q => ?_,fun i j u u2 g hij q r e => ?_,h.bad.kept fun g e=>hkm g (h.lt g (i5 g e)) (iG g e) (o5 g e).1.2.2,h.fl.kept (hkm _ h.rb.2 (fun e=>h.rb.1 (EX _ e)) (fun e=>h.rb.1 (e▸i3))),⟨.inl i1, .inl i2, .inl i3,fun i u g q e => ?_,fun g e => .inl (i5 g e)⟩,⟨o1,o2,o3,fun i u g q e => ?_,fun g e=>⟨(o5 g e).1,fun i u q e' => ?_⟩⟩,⟨fun q=>q.elim h.rb.1 fun q => ?_,B3 h.rb.2 (by simpa using hsz)⟩,fun k hk => ?_,h.few,h.cts⟩
 · show Strs _ u ((d.may.set n xs').getD i []);rcases hq i u q with ⟨rfl,rfl⟩ | ⟨hi,q⟩
   · rw[B7,List.getElem?_set,By rfl,By (by have:=h.len;omega)];exact hs.kept fun g e=>BY _ _ _ _ (h3 g e).2.2
   · rw[B7,List.getElem?_set,Bm (fun e=>hi e.symm),<- B7];exact (h.each i u q).kept fun g e=>hkm g (h.lt g (i4 i u g q e)) (h.apart i n u v g hi q hv e) (o4 i u g q e).2.2
 · have key:∀ i u g,i≠n->vs[i]? = some u->u.ownBlock=some g->v'.ownBlock≠some g:=fun i u g hi q e e'=>hnew g g e' (i4 i u g q e) (h.apart i n u v g hi q hv e) rfl
   rcases hq i u q with ⟨ei,eu⟩ | ⟨hi,q'⟩
   · rcases hq j u2 r with ⟨ej,Dy⟩ | ⟨hj,r'⟩
     · exact absurd (ei.trans ej.symm) hij
     · rw[eu] at e;exact fun e'=>key j u2 g hj r' e' e
   · rcases hq j u2 r with ⟨ej,Dy⟩ | ⟨hj,r'⟩
     · rw[Dy];exact key i u g hi q' e
     · exact h.apart i j u u2 g hij q' r' e
 · rcases hq i u q with ⟨rfl,rfl⟩ | ⟨hi,q⟩
   · exact .inr e
   · exact .inl (i4 i u g q e)
 · rcases hq i u q with ⟨rfl,rfl⟩ | ⟨hi,q⟩
   · exact h3 g e
   · exact o4 i u g q e
 · rcases hq i u q with ⟨rfl,rfl⟩ | ⟨hi,q⟩
   · exact hnew g g e' (i5 g e) (iG g e) rfl
   · exact (o5 g e).2 i u q e'
 · rcases hb with hb | hb
   · exact h.rb.1 (EX _ (hb▸q))
   · have:=hb _ q;have:=h.rb.2;simp only[Dx.rb] at *;omega
 · rw[show (w1.setCell ⟨mb,n,none⟩ v').heap.size=w1.heap.size by simp];rcases hk with hk | hk
   · exact B3 (h.lt k hk) hsz
   · exact hl k hk
theorem Nt.clean{nb:Nat} {d:Dx}    (h:Nt C db d nb aq mb ak vs bv w) (k:Nat) (hk:k<d.now.length) :
 Nt C db { d with may:=d.may.set k [] } nb aq mb ak (vs.set k (.slice none 0 0)) bv (w.setCell ⟨mb,k,none⟩ (.slice none 0 0)):=by
 have hv:=B9 (l:=vs) (i:=k) (by rw[h.ajw];exact hk);have:=h.put k hk _ (.slice none 0 0) hv [] (w1:=w) ⟨rfl,rfl,rfl,AC _,fun _ _ _=>rfl⟩ (.inl ⟨rfl,rfl⟩) (.inr fun g e=>by cases e) (fun g e=>by cases e);have e:(fun k=>C k\/(Value.slice none 0 0).ownBlock=some k)=C:=by funext k;simp[Value.ownBlock]
 rwa [e] at this
theorem Nt.wrote{nb:Nat} {d:Dx}    (h:Nt C db d nb aq mb ak vs bv w) (n:Nat) (x:S) (au:d.wr+1<=d.calls) :
 Nt C db { d with now:=d.now.set n x,wr:=d.wr+1 } nb aq mb ak vs bv ((w.setCell ⟨nb,n,none⟩ (.string ⟨x.toArray⟩)).setCell ⟨db,6,none⟩ (.int .i64 ((d.wr:Int)+1))):=by
 obtain ⟨o1,o2,o3,o4,o5⟩:=h.off;obtain ⟨i1,i2,i3,i4,i5⟩:=h.Td;have hs:(strs d.now).set n (.string ⟨x.toArray⟩)=strs (d.now.set n x):=by simp[strs,List.map_set]
 have hk:∀ k,k≠nb->(w.setCell ⟨nb,n,none⟩ (.string ⟨x.toArray⟩)).heap[k]? = w.heap[k]? := fun k hk=>BY _ _ _ _ hk
 have h1:Nt C db { d with now:=d.now.set n x } nb aq mb ak vs bv (w.setCell ⟨nb,n,none⟩ (.string ⟨x.toArray⟩)):=by
  have hl:(d.now.set n x).length=d.now.length:=by simp
  refine ⟨?_,?_,?_,by simpa using h.len,fun i v q=>(h.each i v q).kept fun g e=>hk g (o4 i v g q e).2.1,h.apart,h.bad.kept fun g e=>hk g (o5 g e).1.2.1,h.fl.kept (hk _ (fun e=>h.rb.1 (e▸i2))),h.Td,h.off,⟨h.rb.1,by have:=h.rb.2;simp only[Dx.rb] at *;simpa using this⟩,fun k q=>by simpa using h.lt k q,h.few,h.cts⟩
  · have:=(hk db o1).trans h.blk;simpa [Xb] using this
  · have:=afz h.now n (.string ⟨x.toArray⟩);rw[hs] at this;simpa using this
  · have:=Kg h.may fun g e=>by cases e;exact hk _ (fun e=>o3 e.symm)
    simpa using this
 exact h1.top (d':={ d with now:=d.now.set n x,wr:=d.wr+1 }) 6 (.int .i64 ((d.wr:Int)+1)) rfl rfl rfl rfl rfl ⟨h.few.1,au⟩
theorem U9(d:Dx) (k n:Int):(d.call k n).2=0\/(d.call k n).2=16\/(d.call k n).2=17:=by
 unfold Dx.call;split
 · exact .inr (.inr rfl)
 · split
   · exact .inr (.inr rfl)
   · split
     · exact .inr (.inl rfl)
     · exact .inl rfl
theorem Sn(d:Dx) (k n:Int):(d.call k n).1.now=d.now/\(d.call k n).1.may=d.may/\(d.call k n).1.wr=d.wr/\(d.call k n).1.fl=d.fl/\(d.call k n).1.after=d.after/\d.calls<=(d.call k n).1.calls/\(d.call k n).1.calls<=d.calls+1/\((d.call k n).2≠17->(d.call k n).1.calls=d.calls+1):=by
 unfold Dx.call;split
 · exact ⟨rfl,rfl,rfl,rfl,rfl,AC _,by simp,fun h=>absurd rfl h⟩
 · split
   · exact ⟨rfl,rfl,rfl,rfl,rfl,AC _,by simp,fun h=>absurd rfl h⟩
   · split
     · exact ⟨rfl,rfl,rfl,rfl,rfl,by simp[Dx.fails],by simp[Dx.fails],fun _=>rfl⟩
     · exact ⟨rfl,rfl,rfl,rfl,rfl,by simp[Dx.fine],by simp[Dx.fine],fun _=>rfl⟩
theorem Kq.below{d:Dx}  (h:Kq C db d w) (hb:Below w.heap.size w w'):Kq C db d w':=by
 obtain ⟨nb,aq,mb,ak,vs,bv,h⟩:=h;exact ⟨nb,aq,mb,ak,vs,bv,h.kept hb.size fun k hk=>hb.block k (by rcases hk with q | q;exact h.lt k q;exact q▸h.rb.2)⟩
theorem Kq.alloc{d:Dx}  (h:Kq C db d w) (o:Obj):Kq C db d (w.alloc o):=h.below ((AD _ w).alloc (AC _) o)
theorem Kq.drew{d:Dx}  (h:Kq C db d w):Kq C db d w.drew:=h.below ((AD _ w).drew)
theorem Kq.far{D:Nat->Prop}  {d:Dx}   (h:Kq C db d w) (hf:Kj B D w w') (hB:w.heap.size<=B) (hD:∀ k,C k\/k=d.rb -> ¬ D k):Kq C db d w':=by
 obtain ⟨nb,aq,mb,ak,vs,bv,h⟩:=h;exact ⟨nb,aq,mb,ak,vs,bv,h.far hf hB hD⟩
theorem Kq.set{d:Dx}  (h:Kq C db d w) (b i:Nat) (hb : ¬ C b/\b≠d.rb) (v:Value):Kq C db d (w.setCell ⟨b,i,none⟩ v):=h.far ((Kj.refl w.heap.size (fun k=>k=b) w).setCell (p:=⟨b,i,none⟩) (.inr rfl) v) (AC _) (fun k hk e=>by subst e;exact hk.elim hb.1 hb.2)
theorem Kq.lt{d:Dx}  (h:Kq C db d w):∀ k,C k->k<w.heap.size:=by
 obtain ⟨nb,aq,mb,ak,vs,bv,h⟩:=h;exact h.lt
theorem Kq.rb{d:Dx}  (h:Kq C db d w) : ¬ C d.rb/\d.rb<w.heap.size:=by
 obtain ⟨nb,aq,mb,ak,vs,bv,h⟩:=h;exact h.rb
theorem Kq.at_{d:Dx}  (h:Kq C db d w):C db:=by
 obtain ⟨nb,aq,mb,ak,vs,bv,h⟩:=h;exact h.Td.1
theorem Kq.few{d:Dx}  (h:Kq C db d w):d.wr<=d.calls/\d.may.length=d.now.length:=by
 obtain ⟨nb,aq,mb,ak,vs,bv,h⟩:=h;exact ⟨h.few.2,h.len⟩
theorem YP{d:Dx} (kind n:Int) (au:d.calls+1<1000000000000) (w:World) (h:Kq C db d w) :
 Calls Tryz.prog 344 #[.pointer (some ⟨db,0,none⟩), .int .u8 kind, .int .i64 n] w fun e w'=>∃ C',e = .returned (.int .i64 (d.call kind n).2)/\Kq C' db (d.call kind n).1 w'/\Gr C C' w w':=by
 obtain ⟨nb,aq,mb,ak,vs,bv,h⟩:=h;exact anj kind n au w h
theorem adz{d:Dx} (w:World) (h:Kq C db d w) :
 Calls Tryz.prog 342 #[.pointer (some ⟨db,0,none⟩)] w fun e w'=>e = .returned (.int .i64 d.now.length)/\w'=w:=by
 obtain ⟨nb,aq,mb,ak,vs,bv,h⟩:=h;obtain ⟨c0, -⟩:=h.cells;clear h;go_enter Tryz.func342,Tryz.ntmps342
 go_wp2
 go_ret;exact ⟨rfl,rfl⟩
def rdV (x:S) (r:Int):Value := .tuple #[.string ⟨(if r=0 then x else []).toArray⟩, .int .i64 r]
theorem ank{d:Dx} (n:Nat) (x:S) (hx:d.now[n]? = some x) (au:d.calls+1<1000000000000) (w:World) (h:Kq C db d w) :
 Calls Tryz.prog 341 #[.pointer (some ⟨db,0,none⟩), .int .i64 n] w fun e w'=>e = .returned (rdV x (d.call 114 n).2)/\∃ C',Kq C' db (d.call 114 n).1 w'/\Gr C C' w w':=by
 have HX:=JY (YP 114 n au w h);obtain ⟨e1, -⟩:=Sn d 114 n;have hn:n<d.now.length:=(List.getElem?_eq_some_iff.1 hx).1;have hx1:(d.call 114 n).1.now[n]? = some x:=by rw[e1];exact hx
 have kB:(d.call 114 n).1.now.length=d.now.length:=by rw[e1]
 have hrc:=U9 d 114 n;obtain ⟨q,hq⟩:∃ q,d.call 114 n=q:=⟨_,rfl⟩
 rw[hq] at HX hx1 kB hrc |-;obtain ⟨d1,r⟩:=q;simp only at HX hx1 kB hrc |-;clear h hq e1 au hx;go_enter Tryz.func341,Tryz.ntmps341;go_wp2_with fail;refine HX.out.mono ?_;rintro e w1 ⟨C',rfl,h1,h2⟩;have HD:=JY h1;have HG:=JY h2;obtain ⟨nb,aq,mb,ak,vs,bv,h⟩:=h1;obtain ⟨c0, -⟩:=h.cells;have aY:d1.now.length<=maxLen:=by obtain ⟨h1,h2⟩:=aa9 h.now;omega
 unfold maxLen at aY;have n0:w1.cell? ⟨nb,n,none⟩=some (.string ⟨x.toArray⟩):=(h.now.cellAt n (by omega)).trans (by rw[strs,GO,hx1];rfl);have b1:(n:Int)<(d1.now.length:Int):=by omega
 clear h h2 HX hx1;rcases hrc with rfl | rfl | rfl
 all_goals
  go_wp2_with fail;go_ret2;exact ⟨rfl,C',HD.out,HG.out⟩
def Dx.act (d:Dx) (k n:Int) (f:Dx->Dx):Dx:=if (d.call k n).2=0 then f (d.call k n).1 else (d.call k n).1
theorem amx{d:Dx} (au:d.calls+1<1000000000000) (w:World) (h:Kq C db d w) :
 Calls Tryz.prog 340 #[.pointer (some ⟨db,0,none⟩)] w fun e w'=>e = .returned (.int .i64 (d.call 102 0).2)/\∃ C',Kq C' db (Dx.act d 102 0 Hv.Dx.flush) w'/\Gr C C' w w':=by
 have HX:=JY (YP 102 0 au w h);have hrc:=U9 d 102 0;unfold Dx.act;obtain ⟨q,hq⟩:∃ q,d.call 102 0=q:=⟨_,rfl⟩
 rw[hq] at HX hrc |-;obtain ⟨d1,r⟩:=q;simp only at HX hrc |-;clear h hq au;go_enter Tryz.func340,Tryz.ntmps340;go_wp2_with fail;refine HX.out.mono ?_;rintro e w1 ⟨C',rfl,h1,h2⟩;have HG:=JY h2;obtain ⟨nb,aq,mb,ak,vs,bv,h⟩:=h1;have HD:=JY h;have aY:d1.now.length<=maxLen:=by obtain ⟨h1,h2⟩:=aa9 h.now;omega
 unfold maxLen at aY;clear h h2 HX;rcases hrc with rfl | rfl | rfl
 · go_wp2_with fail;go_loopw [4] (fun i wr=>∃ (k:Nat) (may':List (List S)) (vs':List Value),k<=d1.now.length/\i = .int .i64 (k:Int)/\Hid (∀ i,may'.getD i []=if i<k then [] else d1.may.getD i [])/\Hid (Nt C' db { d1 with may:=may' } nb aq mb ak vs' bv wr)/\Hid (Gr C C' w wr)) (fun i _=>d1.now.length-(intOf i).toNat)
   case atStart=>exact ⟨0,d1.may,vs,by omega,rfl,JY fun i=>by simp,HD,HG⟩
   case round =>
    clear HD HG;obtain ⟨k,may',vs',hk,rfl,HM,aK,HG2⟩:=hrel;obtain ⟨-,c1, -⟩:=aK.out.cells;simp only at c1;by_cases hlt:k<d1.now.length
    · have b1:(k:Int)<(d1.now.length:Int):=by omega
      have f1:wr.frozen? ⟨mb,k,none⟩=false:=aK.out.may.frozenAt k;have Eu:k<vs'.length:=by rw[aK.out.ajw];exact hlt
      have d1':wr.cell? ⟨mb,k,none⟩=some (vs'[k]'Eu):=(aK.out.may.cellAt k (by simp;omega)).trans (B9 Eu);go_wp2_with fail;exact ⟨⟨k+1,may'.set k [],_,by omega,by go_num,JY fun i=>by
       have:=HM.out i;rw[B7,List.getElem?_set];rw[B7] at this;split
       · split
         · rw[By (by omega)];rfl
         · rw[By (by omega)];rfl
       · rw[this];by_cases hi:i<k
         · rw[By hi,By (by omega)]
         · rw[Bm hi,Bm (by omega)],JY (aK.out.clean k hlt),JY (HG2.out.set mb k aK.out.Td.2.2.1 _)⟩,by simp[intOf];omega⟩
    · obtain rfl:k=d1.now.length:=by omega
      have b1 : ¬ (d1.now.length:Int)<(d1.now.length:Int):=by omega
      go_wp2_with fail;go_ret;refine ⟨rfl,C',?_,HG2.out⟩;have e:({ d1 with may:=may' }:Dx)=d1.flush:=by
       unfold Hv.Dx.flush
       congr 1
       apply List.ext_getElem?;intro i;have hl:=aK.out.len;simp only at hl;have:=HM.out i;rw[B7] at this;by_cases hi:i<d1.now.length
       · rw[By hi,B9 (by omega)] at this;rw[B9 (by omega),GO,B9 hi];simpa using this
       · rw[List.getElem?_eq_none (by omega),List.getElem?_eq_none (by simpa using hi)]
      rw[<- e];exact ⟨_,_,_,_,_,_,aK.out⟩
 all_goals
  go_wp2_with fail;go_ret;exact ⟨rfl,C',⟨_,_,_,_,_,_,HD.out⟩,HG.out⟩
theorem amB{d:Dx} (n:Nat) (hn:n<d.now.length) (x:S) (hmb:(d.may.getD n []).length<=1000000) (au:d.calls+1<1000000000000) (w:World) (h:Kq C db d w) :
 Calls Tryz.prog 343 #[.pointer (some ⟨db,0,none⟩), .int .i64 n, .string ⟨x.toArray⟩] w fun e w'=>e = .returned (.int .i64 (d.call 119 n).2)/\∃ C',Kq C' db (Dx.act d 119 n fun d=>d.write n x) w'/\Gr C C' w w':=by
 have HX:=JY (YP 119 n au w h);have hrc:=U9 d 119 n;have hfw:=h.few.1;obtain ⟨e1,e2,e3, -, -, -, -,e8⟩:=Sn d 119 n;unfold Dx.act;obtain ⟨q,hq⟩:∃ q,d.call 119 n=q:=⟨_,rfl⟩
 rw[hq] at HX hrc e1 e2 e3 e8 |-;obtain ⟨d1,r⟩:=q;simp only at HX hrc e1 e2 e3 e8 |-;rw[<- e1] at hn;rw[<- e2] at hmb;have Du:Hid (r≠17->d1.wr+1<=d1.calls):=JY fun q=>by have:=e8 q;omega
 clear h hq au e1 e2 e3 e8 hfw;obtain ⟨i0,hi,hz0,hz1,hz2⟩:=KJ PS;have hq:∀ (u:World) (a:Option Addr) (i j:Nat),(binOp BinOp.eql 31 (.slice a i j) (.slice none 0 0)).run Tryz.prog u = .ok (.bool a.isNone) u:=fun u a i j=>Lib.run_eql_slice_nil u _ _ a i j 0 0 Tryz.underlying31
 go_enter Tryz.func343,Tryz.ntmps343;go_wp2_with fail;refine HX.out.mono ?_;rintro e w1 ⟨C',rfl,h1,h2⟩;have HG:=JY h2;obtain ⟨nb,aq,mb,ak,vs,bv,h⟩:=h1;have HD:=JY h;have hmx:d1.now.length<=maxLen:=by obtain ⟨h1,h2⟩:=aa9 h.now;omega
 obtain ⟨c0,c1, -, -, -, -,c6, -, -,eO⟩:=h.cells;have f6:=eO 6;obtain ⟨y,hy⟩:∃ y,d1.now[n]? = some y:=⟨_,B9 hn⟩
 have w0:w1.cell? ⟨nb,n,none⟩=some (.string ⟨y.toArray⟩):=(h.now.cellAt n (by omega)).trans (by rw[strs,GO,hy];rfl);have yX:w1.frozen? ⟨nb,n,none⟩=false:=h.now.frozenAt n;obtain ⟨v,hv⟩:∃ v,vs[n]? = some v:=⟨_,B9 (by rw[h.ajw];exact hn)⟩
 have n0:w1.cell? ⟨mb,n,none⟩=some v:=(h.may.cellAt n (by omega)).trans hv;have n1:w1.frozen? ⟨mb,n,none⟩=false:=h.may.frozenAt n;have hst:=h.each n v hv;have hmn:n<d1.may.length:=by rw[h.len];exact hn
 have l1:=h.lt db h.Td.1;have l2:=h.lt mb h.Td.2.2.1;have l3:=h.lt nb h.Td.2.1;have k1 : ¬ db=w1.heap.size:=by omega
 have k2 : ¬ mb=w1.heap.size:=by omega
 have k3 : ¬ nb=w1.heap.size:=by omega
 obtain ⟨o1,o2,o3, -, -⟩:=h.off;have HV:=JY hv;unfold maxLen at hmx;have b1:(n:Int)<(d1.now.length:Int):=by omega
 clear h h2 HX eO hv;rcases hrc with rfl | rfl | rfl
 case' inr.inl | inr.inr =>
  clear hst;go_wp2_with fail;go_ret;exact ⟨rfl,C',⟨_,_,_,_,_,_,HD.out⟩,HG.out⟩
 have mn:=JY (Du.out (by decide));obtain ⟨xs,hxs⟩:∃ xs,d1.may.getD n []=xs:=⟨_,rfl⟩
 rw[hxs] at hst hmb;have jt:=JY hxs;have HY:=JY hy;have dA:(xs≠[]/\∃ g cm,v = .slice (some ⟨g,0,none⟩) xs.length cm)\/(xs=[]/\v = .slice none 0 0):=by
  rcases hst with ⟨e1,e2⟩ | ⟨e1,e2⟩
  · exact .inr ⟨e1,e2⟩
  · exact .inl ⟨e1,Kt e2 (List.length_pos_iff.2 e1)⟩
 clear hst Du hxs hy;rcases dA with ⟨hne,g,cm,hvv⟩ | ⟨hne,hvv⟩
 all_goals subst hvv
 case' inl.inl =>
  have HW:Hid (d1.write n x={ { d1 with may:=d1.may.set n (xs++[x]) } with now:=d1.now.set n x,wr:=d1.wr+1 }):=JY (by unfold Hv.Dx.write;rw[jt.out,Bm hne]);have cI:=JY (show (d1.may.getD n [])=xs from jt.out);have HG2:=HG;have aK:=HD;have bY:=HV;have hlx:xs.length<=1000000:=hmb;obtain ⟨w2,hw2⟩:∃ u,u=w1:=⟨_,rfl⟩
  obtain ⟨vs2,xt⟩:∃ u,u=vs:=⟨_,rfl⟩
  obtain ⟨d2,hd2⟩:∃ u,u=d1:=⟨_,rfl⟩
  obtain ⟨C2,yz⟩:∃ u,u=C':=⟨_,rfl⟩
  rw[<- hw2] at HG2 aK;rw[<- xt] at bY aK;rw[<- hd2] at aK cI;rw[<- yz] at HG2 aK;have jz:d2.now=d1.now:=by rw[hd2]
  have yq:Hid (d1.write n x={ { d2 with may:=d2.may.set n (xs++[x]) } with now:=d2.now.set n x,wr:=d2.wr+1 }):=JY (by rw[hd2];exact HW.out);have qp:Hid (d2.wr+1<=d2.calls):=JY (by rw[hd2];exact mn.out);rw[<- hw2] at c0 c1 c6 f6 w0 yX n0 n1 l1 l2 l3 k1 k2 k3 |-;have HO:Hid (w2.ownsRow 0 9 1 (.slice (some ⟨g,0,none⟩) xs.length cm) xs.length (strs xs)):=JY (by
   have hst:=aK.out.each n _ bY.out;rw[cI.out] at hst;exact (hst.resolve_left fun q=>hne q.1).2)
  replace c6:w2.cell? ⟨db,6,none⟩=some (.int .i64 (d2.wr:Int)):=by rw[hd2];exact c6
  clear hw2 xt hd2 yz HD HG HV HW mn jt hne hmb cI;go_wp2_with fail
 case' inl.inr =>
  subst hne;clear hmb;go_wp2_with fail;go_region;show _;have DZ:w1.grownBy (w1.alloc (.cells #[.string ⟨y.toArray⟩] 9)) (Value.slice none 0 0).ownBlock:=World.grownBy_alloc _ _ _;have D0:=HD.out.put n hn _ (.slice (some ⟨w1.heap.size,0,none⟩) 1 1) HV.out [y] DZ (.inr ⟨by simp,by simpa [strs] using aiO w1 (.string ⟨y.toArray⟩)⟩) (.inr fun k q=>by cases q;exact AC _) (fun k q=>by cases q;simp);rw[World.setCell_alloc_past _ mb n _ l2] at D0;have D1:=D0.drew;have G1:=((HG.out.set mb n HD.out.Td.2.2.1 (.slice (some ⟨w1.heap.size,0,none⟩) 1 1)).alloc (.cells #[.string ⟨y.toArray⟩] 9)).drew;have G2:Gr C (fun k=>C' k\/(Value.slice (some ⟨w1.heap.size,0,none⟩) 1 1).ownBlock=some k) w (((w1.setCell ⟨mb,n,none⟩ (.slice (some ⟨w1.heap.size,0,none⟩) 1 1)).alloc (.cells #[.string ⟨y.toArray⟩] 9)).drew):=⟨G1.1,fun k q=>by
   rcases q with q | q
   · exact HG.out.2 k q
   · cases q;exact .inr HG.out.1.size⟩
  obtain ⟨g,hgx⟩:∃ g,w1.heap.size=g:=⟨_,rfl⟩
  rw[hgx] at D1 G2 |-;obtain ⟨w2,hw2⟩:∃ w2,((w1.setCell ⟨mb,n,none⟩ (.slice (some ⟨g,0,none⟩) 1 1)).alloc (.cells #[.string ⟨y.toArray⟩] 9)).drew=w2:=⟨_,rfl⟩
  rw[hw2] at D1 G2 |-;generalize hCe:(fun k=>C' k\/(Value.slice (some ⟨g,0,none⟩) 1 1).ownBlock=some k)=C2 at D1 G2;have bY:Hid ((vs.set n (.slice (some ⟨g,0,none⟩) 1 1))[n]? = some (.slice (some ⟨g,0,none⟩) 1 1)):=JY (by
   rw[List.getElem?_set,By rfl,By (by rw[HD.out.ajw];exact hn)])
  generalize vs.set n (.slice (some ⟨g,0,none⟩) 1 1)=vs2 at D1 bY;have yq:Hid (d1.write n x={ { ({ d1 with may:=d1.may.set n [y] }:Dx) with may:=(d1.may.set n [y]).set n ([y]++[x]) } with now:=d1.now.set n x,wr:=d1.wr+1 }):=JY (by
   unfold Hv.Dx.write;rw[jt.out,By rfl,B7,HY.out,List.set_set];rfl)
  have cI:Hid ((d1.may.set n [y]).getD n []=[y]):=JY (by
   rw[B7,List.getElem?_set,By rfl,By hmn];rfl)
  obtain ⟨d2,hd2⟩:∃ d2:Dx,{ d1 with may:=d1.may.set n [y] }=d2:=⟨_,rfl⟩
  have e2:d1.may.set n [y]=d2.may:=by rw[<- hd2]
  have e3:d2.now=d1.now:=by rw[<- hd2]
  have e4:d2.wr=d1.wr:=by rw[<- hd2]
  have e5:d2.calls=d1.calls:=by rw[<- hd2]
  rw[hd2] at D1;rw[hd2,e2,<- e3,<- e4] at yq;rw[e2] at cI;have qp:Hid (d2.wr+1<=d2.calls):=JY (by rw[e4,e5];exact mn.out);have jz:=e3;have aK:=JY D1;have HG2:=JY G2;obtain ⟨xs,hxs⟩:∃ xs,[y]=xs:=⟨_,rfl⟩
  have hx1:xs.length=1:=by rw[<- hxs];rfl
  have hlx:xs.length<=1000000:=by omega
  rw[hxs] at cI yq;rw[show (Value.slice (some ⟨g,0,none⟩) 1 1) = .slice (some ⟨g,0,none⟩) xs.length 1 by rw[hx1]] at bY;obtain ⟨cm,hcm⟩:∃ cm:Nat,1=cm:=⟨_,rfl⟩
  have jM:Hid (vs2[n]? = some (.slice (some ⟨g,0,none⟩) xs.length cm)):=JY (hcm▸bY.out);have HO:Hid (w2.ownsRow 0 9 1 (.slice (some ⟨g,0,none⟩) xs.length cm) xs.length (strs xs)):=JY (by
   have hst:=aK.out.each n _ jM.out;rw[cI.out] at hst;exact (hst.resolve_left fun q=>by rw[q.1] at hx1;cases hx1).2)
  clear bY cI hx1 hxs D0 D1 G1 G2 DZ hw2 hgx hCe HD HG HV mn jt c0 c1 c6 f6 w0 yX n0 n1 l1 l2 l3 k1 k2 k3 hd2 e2 e3 e4 e5;obtain ⟨c0,c1, -, -, -, -,c6, -, -,eO⟩:=aK.out.cells;have f6:=eO 6;have bY:=jM;have n0:w2.cell? ⟨mb,n,none⟩=some (.slice (some ⟨g,0,none⟩) xs.length cm):=(aK.out.may.cellAt n (by rw[jz];omega)).trans bY.out;have n1:w2.frozen? ⟨mb,n,none⟩=false:=aK.out.may.frozenAt n;have w0:w2.cell? ⟨nb,n,none⟩=some (.string ⟨y.toArray⟩):=(aK.out.now.cellAt n (by rw[jz];omega)).trans (by rw[strs,GO,jz,HY.out];rfl);have yX:w2.frozen? ⟨nb,n,none⟩=false:=aK.out.now.frozenAt n;have l1:=aK.out.lt db aK.out.Td.1;have l2:=aK.out.lt mb aK.out.Td.2.2.1;have l3:=aK.out.lt nb aK.out.Td.2.1;have k1 : ¬ db=w2.heap.size:=by omega
  have k2 : ¬ mb=w2.heap.size:=by omega
  have k3 : ¬ nb=w2.heap.size:=by omega
  rw[jz] at c0 c1;clear eO jM hcm;go_wp2_with fail
 all_goals
  obtain ⟨o1,o2,o3,o4,o5⟩:=aK.out.off;have CV:=JY (aK.out.Td.2.2.2.1 n _ g bY.out rfl);have pJ:=JY (o4 n _ g bY.out rfl);have hwb:d2.wr+1<1000000000000:=by have:=aK.out.few.1;have:=qp.out;omega
  clear o4 o5
  go_region_law (refine LW rfl _ _ 31 rfl 0 9 i0 _ 1 16 Tryz.underlying31 hi hz0 hz1 hz2 rfl (by decide) (.slice (some ⟨g,0,none⟩) xs.length cm) xs.length (strs xs) (by simp[Act.eval]) (HO.out.alloc _) ⟨w2.heap.size,0,none⟩ 1 1 [.string ⟨x.toArray⟩] (by simp[Act.eval]) rfl (cell_one_new _ _ _) one_cell (by unfold maxLen;omega) (by omega) (by simp) ?_;intro v' w4 hown' KF Nj RG;obtain ⟨gv,cv,rfl⟩:=Kt hown' (by omega);have hG:w2.grownBy w4 (Value.slice (some ⟨g,0,none⟩) xs.length cm).ownBlock:=(World.grownBy_alloc w2 _ _).trans (ad1 KF);have Bd:=hG.block mb l2 (by simp[Value.ownBlock];exact fun e=>pJ.out.2.2 e.symm);have aF:=hG.block db l1 (by simp[Value.ownBlock];exact fun e=>pJ.out.1 e.symm);have m0:=(NC aF 0).trans c0;have m6:=(NC aF 6).trans c6;have m7:=(PK aF 6).trans f6;have iG:=hG.block nb l3 (by simp[Value.ownBlock];exact fun e=>pJ.out.2.1 e.symm);have p0:=(NC iG n).trans w0;have p1:=(PK iG n).trans yX;have m1:=(NC aF 1).trans c1;have m4:=(NC Bd n).trans n0;have m5:=(PK Bd n).trans n1;have dU:=JY hG;have rY:=JY hown';have aB:=JY RG;clear hG Bd aF iG KF hown' RG Nj)
  go_wp2_with fail
  all_goals
   have D1:=aK.out.put n (by rw[jz];exact hn) _ (.slice (some ⟨gv,0,none⟩) (xs.length+1) cv) bY.out (xs++[x]) dU.out (.inr ⟨by simp,by simpa [strs] using rY.out⟩) (aB.out.imp id (fun e k q=>by rw[e] at q;cases q;simp)) (fun k q=>(rY.out.lt k q).2);have D2:=D1.wrote n x qp.out;have hs4:=dU.out.size;go_ret;refine ⟨rfl,_,⟨_,_,_,_,_,_,by rw[yq.out];exact D2⟩,(((HG2.out.1.grown dU.out HG2.out.1.size (fun k q=>by cases q;exact (HG2.out.2 _ CV.out).symm)).setCell (p:=⟨mb,n,none⟩) (HG2.out.2 _ aK.out.Td.2.2.1).symm _).setCell (p:=⟨nb,n,none⟩) (HG2.out.2 _ aK.out.Td.2.1).symm _).setCell (p:=⟨db,6,none⟩) (HG2.out.2 _ aK.out.Td.1).symm _,fun k q => ?_⟩;rcases q with q | q
   · exact HG2.out.2 k q
   · rcases aB.out with e | e
     · rw[e] at q;cases q;exact HG2.out.2 _ CV.out
     · rw[e] at q;cases q;have:=HG2.out.1.size;right;simp;omega
end
end Go.Proofs.YtfhmaiicimdldaaGreatDoor
