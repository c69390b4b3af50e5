import Derived.Test.YtfhmaiicimdldaaGreatDoorFinJ32
set_option maxHeartbeats 8000000
set_option maxRecDepth 100000
namespace Go.Proofs.YtfhmaiicimdldaaGreatDoor
variable {C C' F N:Nat->Prop}{B L a b c db dn eb fm hb m mb mc n nc pm sb:Nat}{im km sv:Value}{w w' w1 w4 wr:World}{x y:Addr}{mo:Option Addr}{o:Obj}
section
open Go.RowKit
open Kw (St ME)
open Hv (S Dx VM Ns All Has Pj)
variable {D D':VM Hv.PD}{G G':VM S}{xs:List S}{pl:Hv.Plan}{d':Dx}
theorem Mj.new{h:S} {d:Dx} {P:VM Value}     (e:LJ C N eb sb mb pm fm db n a b c h d P D G sv im km dn w):Mj C N w.heap.size eb sb mb pm fm db n a b c h d P D G sv im km dn (w.alloc (.cells (ZF eb) 72)):=by
 have l1:=blt e.Lu;have l2:=e.st.lt;have l3:=e.La.packs.lt;have l4:=e.La.files.lt;have l5:=blt e.La.blk;have l6:=e.dk.lt;have l7:=e.dk.rb.2;exact ⟨AF w _,e.below ((AD w.heap.size w).alloc (AC _) _),⟨fun q=>by have:=l6 _ q;omega,fun q=>by have:=(e.rows _ q).1;omega,by omega,by omega,by omega,by omega,by omega,by omega⟩,e.base.size⟩
def alc (L:Nat) (C:Nat->Prop) (db:Nat) (d:Dx) (K:Nat) (D:VM Hv.PD) (G:VM S) (xs:List S) (pl:Hv.Plan) (D':VM Hv.PD) (G':VM S) (w:World) (e:Ending) (w':World):Prop:=∃ p r,e = .returned (.tuple #[p, .int .i64 r])/\∃ d',Ns d d' r K/\Kj w.heap.size C w w'/\((r=0/\∃ hb F,p = .pointer (some ⟨hb,0,none⟩)/\(∀ k,F k->C k\/w.heap.size<=k)/\((∃ D2 G2,abC D G D' G' D2 G2/\Lh L F hb db d' D2 G2 w') \/ ∃ m,m<pl.steps.length/\ajT L F hb db d' (Hv.KG D pl.Le,G) pl (Hv.KU D G xs) m w'))\/(r≠0/\p = .pointer none/\∃ C',Kq C' db d' w'/\(∀ k,C' k->C k\/w.heap.size<=k)/\All d' (O7 300 (adD D G xs pl D' G'))))
theorem TN{d:Dx} {K:Nat} {ok:(Nat->Prop)->Nat->Nat->Dx->World->Prop}      {e:Ending}  (hall:All d (O7 300 (adD D G xs pl D' G'))) (hm:ald C db d K ok w e w')
 (hok:∀ C' eb sb d' w1,ok C' eb sb d' w1->(∀ k,C' k->C k\/w.heap.size<=k)->w.heap.size<=w1.heap.size->∃ F,(∀ k,F k->C k\/w.heap.size<=k)/\((∃ D2 G2,abC D G D' G' D2 G2/\Lh L F w1.heap.size db d' D2 G2 (w1.alloc (.cells (ZF eb) 72))) \/ ∃ m,m<pl.steps.length/\ajT L F w1.heap.size db d' (Hv.KG D pl.Le,G) pl (Hv.KU D G xs) m (w1.alloc (.cells (ZF eb) 72)))):alc L C db d K D G xs pl D' G' w e w':=by
 obtain ⟨p,r,rfl,d',C',h1,h2,h3,h4⟩:=hm;refine ⟨p,r,rfl,d',h1,h3.1,?_⟩;rcases h4 with ⟨rfl,hb,eb,sb,w1,rfl,rfl,k1,k2,rfl⟩ | ⟨hr,rfl,cU⟩
 · obtain ⟨F,f1,f2⟩:=hok C' eb sb d' w1 k2 h3.2 k1;exact .inl ⟨rfl,w1.heap.size,F,rfl,f1,f2⟩
 · refine .inr ⟨hr,rfl,C',h2,h3.2,?_⟩;rcases cU with cU | cU
   · exact hall.core cU
   · exact hall.flush.core cU
theorem Tw{D2:VM Hv.PD} {G2:VM S}  (lu:L<=w.heap.size) (hC:∀ k,C k->L<=k) (h:Md 300 a (Hv.KU D2 G2 []) 0 d'/\ahJ C' eb sb db 300 a (Hv.KU D2 G2 []) d' D2 G2 w.heap.size w1) (mC:∀ k,C' k->C k\/w.heap.size<=k) (hs:w.heap.size<=w1.heap.size):∃ F,(∀ k,F k->C k\/w.heap.size<=k)/\Lh L F w1.heap.size db d' D2 G2 (w1.alloc (.cells (ZF eb) 72)):=by
 obtain ⟨hd,mb,pm,fm,E,N,he,⟨g1,g2,g3,g4,g5⟩,hN⟩:=h;have hH:=Mj.new he;have hF:∀ k,((K9 C' eb sb pm fm k\/k=w1.heap.size)\/k=mb\/N k)->C k\/w.heap.size<=k:=by
  rintro k (((q | rfl | rfl | rfl | rfl) | rfl) | rfl | q)
  · exact mC k q
  · exact .inr g1
  · exact .inr g2
  · exact .inr g4
  · exact .inr g5
  · exact .inr hs
  · exact .inr g3
  · exact .inr (hN k q)
 refine ⟨fun k=>(K9 C' eb sb pm fm k\/k=w1.heap.size)\/k=mb\/N k,hF,C',N,eb,sb,mb,pm,fm,a,E,hH,hd,fun k hk=>hk,fun k hk=>⟨?_,XP hH k hk⟩⟩;rcases hF k hk with q | q
 · exact hC k q
 · omega
theorem af9(lu:L<=w.heap.size) (hC:∀ k,C k->L<=k) (h:Md 300 a (Hv.KU D G xs) m d'/\alb C' eb sb db 300 a (Hv.KU D G xs) m d' D G pl w.heap.size w1) (mC:∀ k,C' k->C k\/w.heap.size<=k) (hs:w.heap.size<=w1.heap.size):∃ F,(∀ k,F k->C k\/w.heap.size<=k)/\ajT L F w1.heap.size db d' (Hv.KG D pl.Le,G) pl (Hv.KU D G xs) m (w1.alloc (.cells (ZF eb) 72)):=by
 obtain ⟨hd,mb,pm,fm,P,N,M,sa,sc,im,km,he,hp,A7,hA,⟨g1,g2,g3,g4,g5⟩,hN⟩:=h;have hH:=Mj.new he;have hF:∀ k,((K9 C' eb sb pm fm k\/k=w1.heap.size)\/k=mb\/N k)->C k\/w.heap.size<=k:=by
  rintro k (((q | rfl | rfl | rfl | rfl) | rfl) | rfl | q)
  · exact mC k q
  · exact .inr g1
  · exact .inr g2
  · exact .inr g4
  · exact .inr g5
  · exact .inr hs
  · exact .inr g3
  · exact .inr (hN k q)
 refine ⟨fun k=>(K9 C' eb sb pm fm k\/k=w1.heap.size)\/k=mb\/N k,hF,C',N,eb,sb,mb,pm,fm,a,P,M,sa,sc,im,km,hH,hp.below ((AD w1.heap.size w1).alloc (AC _) _),A7,hA,hd,fun k hk=>hk,fun k hk=>⟨?_,XP hH k hk⟩⟩;rcases hF k hk with q | q
 · exact hC k q
 · omega
theorem amy{d:Dx}     (h:Rnd D G xs pl D' G') (hall:All d (O7 300 (adD D G xs pl D' G'))) (au:d.calls+2000000<1000000000000) (w:World) (hd:Kq C db d w) (hE:Ph L x y w) (hC:∀ k,C k->L<=k) :
 Calls Tryz.prog 12 #[SN db] w (alc L C db d 1000200 D G xs pl D' G' w):=by
 obtain ⟨a,z,m,hT,hH⟩:=hall _ (Hv.Zl.now d);have lu:=hE.low.2.2.2;have bt:∀ k,C k->12<=k:=fun k q=>by have:=hC k q;have:=hE.low.1;omega
 have hlen:=hH.len;have qU:64<=d.now.length:=by omega
 have iI:d.now.length<=4096:=by omega
 rcases hT with ⟨rfl,rfl⟩ | ⟨rfl, -,hm⟩ | ⟨rfl,rfl⟩
 · refine (abt db 1000200 _ qU iI w hd hE hC (Sd db 300 a D G hlen ⟨by decide,by decide⟩ h.at0 hH au w hd hE.base bt)).mono ?_;intro e w' hp;refine TN (L:=L) hall hp fun C' eb sb d' w1 hok mC hs => ?_
   obtain ⟨F,f1,f2⟩:=Tw lu hC hok mC hs;exact ⟨F,f1, .inl ⟨D,G, .inl ⟨rfl,rfl⟩,f2⟩⟩
 · refine (abt db 1000200 _ qU iI w hd hE hC (ae4 db 300 a D G xs pl m hm h.ne h.ck h.good h.mild.fine (.inr h.cp) hlen ⟨by decide,by decide⟩ h.at1 hH au w hd hE.base bt)).mono ?_;intro e w' hp;refine TN (L:=L) hall hp fun C' eb sb d' w1 hok mC hs => ?_
   obtain ⟨F,f1,f2⟩:=af9 lu hC hok mC hs;exact ⟨F,f1, .inr ⟨m,hm,f2⟩⟩
 · refine (abt db 1000200 _ qU iI w hd hE hC (Sd db 300 a D' G' hlen ⟨by decide,by decide⟩ h.at2 hH au w hd hE.base bt)).mono ?_;intro e w' hp;refine TN (L:=L) hall hp fun C' eb sb d' w1 hok mC hs => ?_
   obtain ⟨F,f1,f2⟩:=Tw lu hC hok mC hs;exact ⟨F,f1, .inl ⟨D',G', .inr ⟨rfl,rfl⟩,f2⟩⟩
theorem YU{d:Dx}   {T:S->Nat->Prop} {ok:VM Hv.PD->VM S->Prop} (hok:ok D G) (w:World) (lu:L<=w.heap.size) (he:Lh L F hb db d D G w) :
 Calls Tryz.prog 24 #[.pointer (some ⟨hb,0,none⟩)] w (abB L F hb db d 1500000 T ok w):=by
 obtain ⟨C,N,eb,sb,mb,pm,fm,a,P,h1,h2,h3,h4⟩:=he;refine (Zg hb eb sb mb pm fm db 300 a d P D G T h2 w h1).mono ?_;intro e w' hp;obtain ⟨r,rfl,d',C',N',q1,q⟩:=hp;exact Zk.run (m:=(D,G)) (T:=T) ⟨r,rfl,d',C',N',q1.more (by omega),q⟩ h3 h4 lu hok (fun _ _ q=>q)
theorem Zh{d:Dx}      (h:Rnd D G xs pl D' G') (hm:m<pl.steps.length) (au:d.calls+2000000<1000000000000) (w:World) (hE:Ph L x y w) (he:ajT L F hb db d (Hv.KG D pl.Le,G) pl (Hv.KU D G xs) m w) :
 Calls Tryz.prog 24 #[.pointer (some ⟨hb,0,none⟩)] w (abB L F hb db d 1500000 (adD D G xs pl D' G') (abC D G D' G') w):=by
 obtain ⟨C,N,eb,sb,mb,pm,fm,a,P,M,sa,sc,im,km,h1,hp,A7,hA,h2,h3,h4⟩:=he;refine (abr (L:=L) (x:=x) (y:=y) hb eb sb mb pm fm db 300 a _ d P _ sa sc im km m pl hm h.good h2 h.at1.len au (by omega) w hE (fun k hk=>(h4 k (h3 k (.inl hk))).1) h1 hp A7 hA).mono ?_;intro e w' hp;rw[h.run] at hp;exact hp.run h3 h4 hE.low.2.2.2 (.inr ⟨rfl,rfl⟩) (fun z j q => .inr (by
  rcases q with ⟨q1,q2,q3⟩ | q
  · exact .inl ⟨q1,by omega,q3⟩
  · exact .inr q))
end
section
open Go.RowKit
open Hv (S Dx VM Ns All Zl)
variable {ys:List S}{s:S}
structure Rh (B:Nat) (ys:List S) (no mo:Option Addr) (nc mc:Nat) (w wr:World):Prop where
 blk:wr.heap[B]? = some (.cells #[.slice no ys.length nc, .slice mo ys.length mc, .int .i64 0, .int .i64 (-1), .bool false, .slice none 0 0, .int .i64 0, .slice none 0 0, .int .i64 0] 42 (0,0))
 now:wr.ownsRow (B+1) 9 1 (.slice no ys.length nc) ys.length (ys.map Kl)
 may:wr.ownsRow (B+1) 31 1 (.slice mo ys.length mc) ys.length (List.replicate ys.length (.slice none 0 0))
 K7:Below B w wr
 size:B+1<=wr.heap.size
def aiT:Hv.Fl:=⟨none,0,0,fun _=>0⟩
def RJ (ys:List S):Dx:=⟨ys,ys.map fun _=>[],0,0, -1,false,aiT,[],0⟩
theorem Rh.ajb{no no':Option Addr} {ZT:Nat}   (s:S) (h:Rh B ys no mo nc mc w wr) (hg:(wr.alloc o).grownBy w4 (Value.slice no ys.length nc).ownBlock) (hown:w4.ownsRow (B+1) 9 1 (.slice no' (ys.length+1) ZT) (ys.length+1) (ys.map Kl++[Kl s])) :
 (w4.setCell ⟨B,0,none⟩ (.slice no' (ys.length+1) ZT)).heap[B]? = some (.cells #[.slice no' (ys.length+1) ZT, .slice mo ys.length mc, .int .i64 0, .int .i64 (-1), .bool false, .slice none 0 0, .int .i64 0, .slice none 0 0, .int .i64 0] 42 (0,0))/\(w4.setCell ⟨B,0,none⟩ (.slice no' (ys.length+1) ZT)).ownsRow (B+1) 9 1 (.slice no' (ys.length+1) ZT) (ys.length+1) ((ys++[s]).map Kl)/\(w4.setCell ⟨B,0,none⟩ (.slice no' (ys.length+1) ZT)).ownsRow (B+1) 31 1 (.slice mo ys.length mc) ys.length (List.replicate ys.length (.slice none 0 0))/\Below B w (w4.setCell ⟨B,0,none⟩ (.slice no' (ys.length+1) ZT))/\B+1<=(w4.setCell ⟨B,0,none⟩ (.slice no' (ys.length+1) ZT)).heap.size:=by
 have hs:=h.size;have hk:∀ q,q<wr.heap.size->(Value.slice no ys.length nc).ownBlock≠some q->w4.heap[q]? = wr.heap[q]? := fun q hq hne=>(hg.block q (by simp;omega) (fun e=>hne e.symm)).trans (AM _ _ _ hq)
 have hlo:∀ q,q<B+1->(Value.slice no ys.length nc).ownBlock≠some q:=fun q hq e=>by have:=(h.now.lt q e).1;omega
 have hsz:wr.heap.size<=w4.heap.size:=Bi (by simp) hg.size;refine ⟨AI _ _ 0 _ _ _ ((hk B (blt h.blk) (hlo _ (by omega))).trans h.blk),?_,?_,?_,by simp[World.setCell];omega⟩
 · rw[GB];exact KT hown (fun e=>by have:=(hown.lt _ e).1;omega)
 · refine KT (Kg h.may fun g hgb=>hk g (h.may.lt g hgb).2 (fun e=>N7 h.now h.may (by decide) e hgb)) (fun e=>by have:=(h.may.lt _ e).1;omega)
 · refine Below.setCell (p:=⟨B,0,none⟩) ?_ (AC _) _;exact (h.K7.alloc (by omega) o).grown hg (by simp;omega) (fun q hq=>by have:=(h.now.lt q hq).1;omega)
theorem Rh.aja{no mo':Option Addr} {mc':Nat}  
 (hblk:wr.heap[B]? = some (.cells #[.slice no (ys.length+1) nc, .slice mo ys.length mc, .int .i64 0, .int .i64 (-1), .bool false, .slice none 0 0, .int .i64 0, .slice none 0 0, .int .i64 0] 42 (0,0)))
 (cg:wr.ownsRow (B+1) 9 1 (.slice no (ys.length+1) nc) (ys.length+1) ((ys++[s]).map Kl)) (aW:wr.ownsRow (B+1) 31 1 (.slice mo ys.length mc) ys.length (List.replicate ys.length (.slice none 0 0))) (aR:Below B w wr) (hs:B+1<=wr.heap.size)
 (hg:(wr.alloc o).grownBy w4 (Value.slice mo ys.length mc).ownBlock) (hown:w4.ownsRow (B+1) 31 1 (.slice mo' (ys.length+1) mc') (ys.length+1) (List.replicate ys.length (.slice none 0 0)++[.slice none 0 0])) :
 Rh B (ys++[s]) no mo' nc mc' w (w4.setCell ⟨B,1,none⟩ (.slice mo' (ys.length+1) mc')):=by
 have hk:∀ q,q<wr.heap.size->(Value.slice mo ys.length mc).ownBlock≠some q->w4.heap[q]? = wr.heap[q]? := fun q hq hne=>(hg.block q (by simp;omega) (fun e=>hne e.symm)).trans (AM _ _ _ hq)
 have hlo:∀ q,q<B+1->(Value.slice mo ys.length mc).ownBlock≠some q:=fun q hq e=>by have:=(aW.lt q e).1;omega
 have hsz:wr.heap.size<=w4.heap.size:=Bi (by simp) hg.size;have hl:(ys++[s]).length=ys.length+1:=by simp
 refine ⟨?_,?_,?_,?_,by simp[World.setCell];omega⟩
 · rw[hl];exact AI _ _ 1 _ _ _ ((hk B (blt hblk) (hlo _ (by omega))).trans hblk)
 · rw[hl];refine KT (Kg cg fun g hgb=>hk g (cg.lt g hgb).2 (fun e=>N7 aW cg (by decide) e hgb)) (fun e=>by have:=(cg.lt _ e).1;omega)
 · rw[hl,Yr];exact KT hown (fun e=>by have:=(hown.lt _ e).1;omega)
 · refine Below.setCell (p:=⟨B,1,none⟩) ?_ (AC _) _;exact (aR.alloc (by omega) o).grown hg (by simp;omega) (fun q hq=>by have:=(aW.lt q hq).1;omega)
theorem Rh.disk{no:Option Addr}   (h:Rh B ys no mo nc mc w wr) (hn:0<ys.length) (hB:0<B):Kq (fun k=>B<=k/\k<wr.heap.size) B (RJ ys) wr:=by
 obtain ⟨nb,c1,e1⟩:=Kt h.now (by omega);obtain ⟨mb,c2,e2⟩:=Kt h.may (by omega);have cg:=h.now;have aW:=h.may;have hblk:=h.blk;rw[e1] at cg hblk;rw[e2] at aW hblk;have l1:=cg.lt nb rfl;have l2:=aW.lt mb rfl;have hne:nb≠mb:=fun e=>N7 cg aW (by decide) (g:=nb) rfl (by rw[e];rfl)
 have hv0:∀ (i:Nat) (v:Value),(List.replicate ys.length (Value.slice none 0 0))[i]? = some v->v=Value.slice none 0 0:=fun i v hv=>(List.mem_replicate.1 (List.mem_of_getElem? hv)).2
 have hm0:∀ i,(ys.map fun _=>([]:List S)).getD i []=[]:=fun i=>by
  simp only[B7,GO];cases ys[i]? <;> rfl
 have hrb:(RJ ys).rb=0:=rfl;refine ⟨nb,c1,mb,c2,List.replicate ys.length (.slice none 0 0), .slice none 0 0,⟨hblk,?_,KL aW (Bs _),by simp[RJ],fun i v hv => .inl ⟨hm0 i,hv0 i v hv⟩,fun i j v u g _ hv _ hg => ?_,Cf _ _ _ _,⟨(show (0:Nat)<=maxLen by decide),fun i hi=>absurd hi (by show ¬ i<0;omega)⟩,⟨⟨AC _,blt h.blk⟩,⟨by omega,l1.2⟩,⟨by omega,l2.2⟩,fun i v g hv hg => ?_,fun g hg=>by cases hg⟩,⟨by omega,by omega,hne,fun i v g hv hg => ?_,fun g hg=>by cases hg⟩,⟨by rw[hrb];rintro ⟨q,_⟩;omega,by rw[hrb];have:=blt h.blk;omega⟩,fun k hk=>hk.2,⟨(show (0:Nat)<1000000000000 by decide),AC _⟩,⟨AC _,fun e he=>by cases he⟩⟩⟩
 · have e:strs ys=ys.map Kl:=by simp[strs,Kl]
   show wr.ownsRow 0 _ 1 _ ys.length (strs ys);rw[e];exact KL cg (Bs _)
 · rw[hv0 i v hv] at hg;cases hg
 · rw[hv0 i v hv] at hg;cases hg
 · rw[hv0 i v hv] at hg;cases hg
theorem aaB.anC{no:Option Addr}   (h:aaB B n no mo nc mc w wr):Rh B (List.replicate n Nr) no mo nc mc w wr:=by
 have hl:(List.replicate n Nr).length=n:=by simp
 refine ⟨by rw[hl];exact h.blk,?_,by rw[hl];exact h.may,h.K7,h.size⟩;rw[hl,show (List.replicate n Nr).map Kl=List.replicate n (Kl Nr) by simp];exact h.now
theorem amu(n:Nat) (hn:0<n) (dF:n<=4096) (w:World) (hw:0<w.heap.size) :
 Calls Tryz.prog 4 #[.int .i64 n] w fun e w'=>e = .returned (.pointer (some ⟨w.heap.size,0,none⟩))/\Kq (fun k=>w.heap.size<=k/\k<w'.heap.size) w.heap.size (RJ (List.replicate n Nr)) w'/\Below w.heap.size w w':=by
 obtain ⟨i0,hi,hz0,hz1,hz2⟩:=KJ PS;obtain ⟨j0,ji,xE,jz1,xG⟩:=KJ ZH;have hmk:=akv;have E5:=ahG (w.alloc (.cells #[.slice none 0 0, .slice none 0 0, .int .i64 0, .int .i64 (-1), .bool false, .slice none 0 0, .int .i64 0, .slice none 0 0, .int .i64 0] 42));rw[show (w.alloc (.cells #[.slice none 0 0, .slice none 0 0, .int .i64 0, .int .i64 (-1), .bool false, .slice none 0 0, .int .i64 0, .slice none 0 0, .int .i64 0] 42)).heap.size=w.heap.size+1 by simp] at E5;go_enter Tryz.func4,Tryz.ntmps4;go_wp2_with fail;have hrow:=AF w (.cells #[.slice none 0 0, .slice none 0 0, .int .i64 0, .int .i64 (-1), .bool false, .slice none 0 0, .int .i64 0, .slice none 0 0, .int .i64 0] 42);have hb1:=((AD w.heap.size w).alloc (AC _) (.cells #[.slice none 0 0, .slice none 0 0, .int .i64 0, .int .i64 (-1), .bool false, .slice none 0 0, .int .i64 0, .slice none 0 0, .int .i64 0] 42)).alloc (by simp) (.cells (Array.replicate 256 (.int .u8 0)) 5);have hrow2:=(AM (w.alloc (.cells #[.slice none 0 0, .slice none 0 0, .int .i64 0, .int .i64 (-1), .bool false, .slice none 0 0, .int .i64 0, .slice none 0 0, .int .i64 0] 42)) (.cells (Array.replicate 256 (.int .u8 0)) 5) w.heap.size (by simp)).trans hrow;have ay:Hid (aaB w.heap.size 0 none none 0 0 w ((w.alloc (.cells #[.slice none 0 0, .slice none 0 0, .int .i64 0, .int .i64 (-1), .bool false, .slice none 0 0, .int .i64 0, .slice none 0 0, .int .i64 0] 42)).alloc (.cells (Array.replicate 256 (.int .u8 0)) 5))):=JY ⟨hrow2,Cf _ _ _ _,Cf _ _ _ _,hb1,by simp⟩;obtain ⟨u,hu⟩:∃ u,((w.alloc (.cells #[.slice none 0 0, .slice none 0 0, .int .i64 0, .int .i64 (-1), .bool false, .slice none 0 0, .int .i64 0, .slice none 0 0, .int .i64 0] 42)).alloc (.cells (Array.replicate 256 (.int .u8 0)) 5))=u:=⟨_,rfl⟩
 obtain ⟨B,hB⟩:∃ B,w.heap.size=B:=⟨_,rfl⟩
 have bJ:=JY hB;rw[hu] at ay |-;rw[hB] at ay |-;clear hu hrow hb1 hrow2 hmk E5 hB;obtain ⟨zs,hzs⟩:∃ zs:S,Nr=zs:=⟨_,rfl⟩
 have HZ:=JY hzs;rw[hzs];clear hzs;go_loopw [5] (fun i wr=>∃ (k:Nat) (no mo:Option Addr) (nc mc:Nat),k<=n/\i = .int .i64 (k:Int)/\Hid (aaB B k no mo nc mc w wr)) (fun i _=>n-(intOf i).toNat)
 case atStart=>exact ⟨0,none,none,0,0,Bs _,rfl,ay⟩
 case round =>
  clear ay;obtain ⟨k,no,mo,nc,mc,hk,rfl,HI⟩:=hrel;by_cases hlt:k<n
  · have b1:(k:Int)<(n:Int):=by omega
    have c0:=(JZ HI.out.blk 0).trans (show _=some (.slice no k nc) from rfl);have c1:=(JZ HI.out.blk 1).trans (show _=some (.slice mo k mc) from rfl);have f0:=J2 HI.out.blk 0;have f1:=J2 HI.out.blk 1;have hBw:=HI.out.size;have hne : ¬ B=wr.heap.size:=by omega
    obtain ⟨ys,hys⟩:∃ ys,List.replicate k (Kl Nr)=ys:=⟨_,rfl⟩
    obtain ⟨zy,hzy⟩:∃ zy,List.replicate k (Value.slice none 0 0)=zy:=⟨_,rfl⟩
    have qr:=JY hys;have kj:=JY hzy;have HO:=JY ((show wr.ownsRow (B+1) 9 1 (.slice no k nc) k ys by rw[<- hys];exact HI.out.now).alloc (.cells #[.string ⟨zs.toArray⟩] 9));have gX:=JY HI.out.blk;have jg:=JY (fun q (e:(Value.slice no k nc).ownBlock=some q)=>(HI.out.now.lt q e).1);clear hys hzy;go_wp2_with (first
     | (at_builtin;refine wpList_append_own_at _ rfl _ _ 31 rfl (B+1) 9 i0 (.string ByteArray.empty) 1 16 Tryz.underlying31 hi hz0 hz1 hz2 rfl (by decide) _ _ _ rfl HO.out ⟨wr.heap.size,0,none⟩ 1 1 [_] rfl rfl (cell_one_new _ _ _) (fun x hx=>by simp at hx;subst hx;rfl) (by unfold maxLen;omega) (by omega) (by simp;omega) ?_;intro v' w4 hown' KF Nj SQ;obtain ⟨gv,cv,rfl⟩:=Kt hown' (by omega);have hP:=HI.out.ajb KF (by rw[qr.out,HZ.out];exact hown');have HP:=JY hP;have hk4:=(KF.block B (by simp;omega) (fun e=>by have:=jg.out B e.symm;omega)).trans ((AM _ _ _ (by show B<wr.heap.size;omega)).trans gX.out);have q5:=(JZ hk4 0).trans (show _=some (.slice no k nc) from rfl);have g5:=J2 hk4 0;have g6:=J2 hk4 1;have p1:=(JZ hP.1 1).trans (show _=some (.slice mo k mc) from rfl);have hs4:=hP.2.2.2.2;have rF:B+1<=w4.heap.size:=(by have h:=hP.2.2.2.2;simpa using h);clear hP hown' KF Nj SQ)
     | (at_builtin;refine wpList_append_own_at _ rfl _ _ 38 rfl (B+1) 31 j0 (.slice none 0 0) 1 24 Tryz.underlying38 ji xE jz1 xG rfl (by decide) _ _ _ rfl ((show (w4.setCell ⟨B,0,none⟩ (.slice (some ⟨gv,0,none⟩) (k+1) cv)).ownsRow (B+1) 31 1 (.slice mo k mc) k zy by rw[<- kj.out];exact HP.out.2.2.1).alloc _) ⟨w4.heap.size,0,none⟩ 1 1 [.slice none 0 0] rfl rfl (by have h:=cell_one_new (w4.setCell ⟨B,0,none⟩ (.slice (some ⟨gv,0,none⟩) (k+1) cv)) (.slice none 0 0) 31;rw[show (w4.setCell ⟨B,0,none⟩ (.slice (some ⟨gv,0,none⟩) (k+1) cv)).heap.size=w4.heap.size by simp] at h;exact h) (fun x hx=>by simp at hx;subst hx;rfl) (by unfold maxLen;omega) (by omega) (by simp;omega) ?_;intro v' w8 hown' Li Qv WQ;obtain ⟨gm,cm,rfl⟩:=Kt hown' (by omega);have HM:=JY (aaB.aja HP.out.1 HP.out.2.1 HP.out.2.2.1 HP.out.2.2.2.1 HP.out.2.2.2.2 rfl Li (by rw[kj.out];exact hown'));have cE:=(Li.block B (by simp;omega) (fun e=>by have:=(HP.out.2.2.1.lt B e.symm).1;omega)).trans ((AM _ _ _ (by simp;omega)).trans HP.out.1);have q8:=(JZ cE 1).trans (show _=some (.slice mo k mc) from rfl);have g8:=J2 cE 1;clear cE hown' Li Qv WQ))
    go_roundw
    case rel=>exact ⟨k+1,_,_,cv,cm,by omega,by go_num,HM⟩
    case measure=>simp[intOf];omega
  · obtain rfl:k=n:=by omega
    have b1 : ¬ (k:Int)<(k:Int):=by omega
    go_wp2_with fail;go_ret;rw[bJ.out];exact ⟨rfl,HI.out.anC.disk (by simpa using hn) (by rw[<- bJ.out];exact hw),HI.out.K7⟩
def Q9 (d:Dx) (ys:List S):Prop:=∀ i,i<ys.length->ys.getD i []=d.now.getD i []\/ys.getD i []∈d.may.getD i []
theorem Q9.nil(d:Dx):Q9 d []:=fun i hi=>absurd hi (by simp)
theorem Q9.snoc{d:Dx}   (h:Q9 d ys) (hs:s=d.now.getD ys.length []\/s∈d.may.getD ys.length []):Q9 d (ys++[s]):=fun i hi=>by
 by_cases e:i<ys.length
 · have h1:=h i e;rw[B7,List.getElem?_append_left e,<- B7];exact h1
 · obtain rfl:i=ys.length:=by simp at hi;omega
   rw[B7,List.getElem?_concat_length];exact hs
theorem Q9.img{d:Dx}  (h:Q9 d ys) (hl:ys.length=d.now.length) (hm:d.may.length=d.now.length):Zl d ys:=⟨hl,fun i=>by
 by_cases e:i<ys.length
 · exact h i e
 · left;rw[B7,B7,List.getElem?_eq_none (by omega),List.getElem?_eq_none (by omega)]⟩
theorem af5{d:Dx} (kg kc:Nat) (f:Nat->Int) (hf:∀ i,i<3 -> -9223372036854775808<=f i/\f i<=9223372036854775807) (hn:0<d.now.length) (dF:d.now.length<=4096) (w:World) (hd:Kq C db d w) (hk:kg<w.heap.size) (hkc:∀ i,i<3->w.cell? ⟨kg,i,none⟩=some (.int .i64 (f i))) :
 Calls Tryz.prog 23 #[.pointer (some ⟨db,0,none⟩), .slice (some ⟨kg,0,none⟩) 3 kc] w fun e w'=>∃ ys,e = .returned (.pointer (some ⟨w.heap.size,0,none⟩))/\Zl d ys/\Kq (fun k=>w.heap.size<=k/\k<w'.heap.size) w.heap.size (RJ ys) w'/\Below w.heap.size w w':=by
 obtain ⟨nb,aq,mb,ak,vs,bv,hd⟩:=hd;obtain ⟨i0,hi,hz0,hz1,hz2⟩:=KJ PS;obtain ⟨j0,ji,xE,jz1,xG⟩:=KJ ZH;have aY:=hd.len;have pC:=JY aY;have nA:=JY hd;have Fz:=JY hkc;have HF:=JY hf;obtain ⟨n,hnn⟩:∃ n,d.now.length=n:=⟨_,rfl⟩
 have ue:=JY hnn;rw[hnn] at hn dF;have hw0:0<w.heap.size:=by omega
 clear hd hkc hf aY hnn;go_enter Tryz.func23,Tryz.ntmps23;go_wp2_with fail;have hrow:=AF w (.cells #[.slice none 0 0, .slice none 0 0, .int .i64 0, .int .i64 (-1), .bool false, .slice none 0 0, .int .i64 0, .slice none 0 0, .int .i64 0] 42);have hb1:=(AD w.heap.size w).alloc (AC _) (.cells #[.slice none 0 0, .slice none 0 0, .int .i64 0, .int .i64 (-1), .bool false, .slice none 0 0, .int .i64 0, .slice none 0 0, .int .i64 0] 42);have ay:Hid (Rh w.heap.size [] none none 0 0 w (w.alloc (.cells #[.slice none 0 0, .slice none 0 0, .int .i64 0, .int .i64 (-1), .bool false, .slice none 0 0, .int .i64 0, .slice none 0 0, .int .i64 0] 42))):=JY ⟨hrow,Cf _ _ _ _,Cf _ _ _ _,hb1,by simp⟩;obtain ⟨u,hu⟩:∃ u,(w.alloc (.cells #[.slice none 0 0, .slice none 0 0, .int .i64 0, .int .i64 (-1), .bool false, .slice none 0 0, .int .i64 0, .slice none 0 0, .int .i64 0] 42))=u:=⟨_,rfl⟩
 obtain ⟨B,hB⟩:∃ B,w.heap.size=B:=⟨_,rfl⟩
 have bJ:=JY hB;rw[hu] at ay |-;rw[hB] at ay hw0 hk |-;clear hu hrow hb1 hB;have nM:=JY (Q9.nil d);go_loopw [6,7] (fun t i wr=>∃ (j k:Nat) (ys:List S) (no mo:Option Addr) (nc mc:Nat),k<=n/\j<=k/\ys.length=k/\t = .int .i64 (j:Int)/\i = .int .i64 (k:Int)/\Hid (Q9 d ys)/\Hid (Rh B ys no mo nc mc w wr)) (fun _ i _=>n-(intOf i).toNat)
 case atStart=>exact ⟨0,0,[],none,none,0,0,Bs _,AC _,rfl,rfl,rfl,nM,ay⟩
 case round =>
  clear ay nM;obtain ⟨j,k,ys,no,mo,nc,mc,hk1,hjk,oI,rfl,rfl,xX,HI⟩:=hrel;have bZ:=JY oI;clear oI;have hD:=nA.out.far (D:=fun _=>False) (Kj.of HI.out.K7 (AC _)) (by rw[bJ.out];exact AC _) (fun _ _ q=>q);obtain ⟨d0,d1, -⟩:=hD.cells;rw[ue.out] at d0 d1;by_cases hlt:k<n
  · have b1:(k:Int)<(n:Int):=by omega
    have hkl:k<d.now.length:=by rw[ue.out];exact hlt
    have n0:wr.cell? ⟨nb,k,none⟩=some (.string ⟨(d.now.getD k []).toArray⟩):=by
     rw[hD.now.cellAt k (by omega)];simp[strs,List.getD_eq_getElem?_getD,hkl]
    have hvk:∃ v,vs[k]? = some v:=by
     have h1:=hD.ajw;exact ⟨_,B9 (by omega)⟩
    obtain ⟨v,hv⟩:=hvk;have m0:wr.cell? ⟨mb,k,none⟩=some v:=by
     rw[hD.may.cellAt k (by omega)];exact hv
    have hst:=hD.each k v hv;have c0:=(JZ HI.out.blk 0).trans (show _=some (.slice no ys.length nc) from rfl);have c1:=(JZ HI.out.blk 1).trans (show _=some (.slice mo ys.length mc) from rfl);have f0:=J2 HI.out.blk 0;have f1:=J2 HI.out.blk 1;have hBw:=HI.out.size;have hne : ¬ B=wr.heap.size:=by omega
    have mg:=JY HI.out.blk;rw[bZ.out] at c0 c1 mg;have CM:∀ i,i<3->wr.cell? ⟨kg,i,none⟩=some (.int .i64 (f i)):=fun i hi=>(HI.out.K7.cell (p:=⟨kg,i,none⟩) hk).trans (Fz.out i hi)
    have b9:IntKind.i64.wrap ((k:Int)+1)=(k:Int)+1:=by rw[De];omega
    have b8:IntKind.i64.wrap ((j:Int)+1)=(j:Int)+1:=by rw[De];omega
    obtain ⟨y0,hy0⟩:∃ y0,d.now.getD k []=y0:=⟨_,rfl⟩
    have Gb:=JY hy0;rw[hy0] at n0;obtain ⟨xs,hxs⟩:∃ xs,d.may.getD k []=xs:=⟨_,rfl⟩
    have jt:=JY hxs;rw[hxs] at hst;clear hD hy0 hxs hv;rcases hst with ⟨rfl,rfl⟩ | ⟨ja,hrow⟩
    · obtain ⟨s,hs⟩:∃ s,y0=s:=⟨_,rfl⟩
      rw[hs] at n0;have jU:Hid (Q9 d (ys++[s])):=JY (xX.out.snoc (by rw[bZ.out];exact .inl (by rw[Gb.out,hs])));clear CM hs;have HOW:Hid (Rh B ys no mo nc mc w wr):=JY (HI.out);have HO:=JY ((show (wr).ownsRow (B+1) 9 1 (.slice no k nc) k (ys.map Kl) by have h:=HOW.out.now;rw[bZ.out] at h;exact h).alloc (.cells #[.string ⟨s.toArray⟩] 9));have jY:=JY (show (wr).ownsRow (B+1) 31 1 (.slice mo k mc) k (List.replicate k (.slice none 0 0)) by have h:=HOW.out.may;rw[bZ.out] at h;exact h);have jg:=JY (fun q (e:(Value.slice no k nc).ownBlock=some q)=>(HO.out.lt q e).1);obtain ⟨ym,eU⟩:∃ ym,ys.map Kl=ym:=⟨_,rfl⟩
      obtain ⟨zy,hzy⟩:∃ zy,List.replicate k (Value.slice none 0 0)=zy:=⟨_,rfl⟩
      have mr:=JY eU;have kj:=JY hzy;rw[eU] at HO;rw[hzy] at jY;clear eU hzy;go_wp2_with (first
       | (at_builtin;refine wpList_append_own_at _ rfl _ _ 31 rfl (B+1) 9 i0 (.string ByteArray.empty) 1 16 Tryz.underlying31 hi hz0 hz1 hz2 rfl (by decide) _ _ _ rfl HO.out ⟨wr.heap.size,0,none⟩ 1 1 [_] rfl rfl (cell_one_new _ _ _) (fun x hx=>by simp at hx;subst hx;rfl) (by unfold maxLen;omega) (by omega) (by simp;omega) ?_;intro v' w4 hown' KF Nj SQ;obtain ⟨gv,cv,rfl⟩:=Kt hown' (by omega);have hP:=HOW.out.ajb s (o := .cells #[.string ⟨s.toArray⟩] 9) (no':=some ⟨gv,0,none⟩) (ZT:=cv) (w4:=w4) (by rw[bZ.out];exact KF) (by rw[bZ.out,mr.out];exact hown');rw[bZ.out] at hP;have HP:=JY hP;have hk4:=(KF.block B (by simp;omega) (fun e=>by have:=jg.out B e.symm;omega)).trans ((AM _ _ _ (by show B<wr.heap.size;omega)).trans mg.out);have q5:=(JZ hk4 0).trans (show _=some (.slice no k nc) from rfl);have g5:=J2 hk4 0;have g6:=J2 hk4 1;have p1:=(JZ hP.1 1).trans (show _=some (.slice mo k mc) from rfl);have hs4:=hP.2.2.2.2;have rF:B+1<=w4.heap.size:=(by have h:=hP.2.2.2.2;simpa using h);clear hP hown' KF Nj SQ)
       | (at_builtin;refine wpList_append_own_at _ rfl _ _ 38 rfl (B+1) 31 j0 (.slice none 0 0) 1 24 Tryz.underlying38 ji xE jz1 xG rfl (by decide) _ _ _ rfl ((show (w4.setCell ⟨B,0,none⟩ (.slice (some ⟨gv,0,none⟩) (k+1) cv)).ownsRow (B+1) 31 1 (.slice mo k mc) k zy by rw[<- kj.out];exact HP.out.2.2.1).alloc _) ⟨w4.heap.size,0,none⟩ 1 1 [.slice none 0 0] rfl rfl (by have h:=cell_one_new (w4.setCell ⟨B,0,none⟩ (.slice (some ⟨gv,0,none⟩) (k+1) cv)) (.slice none 0 0) 31;rw[show (w4.setCell ⟨B,0,none⟩ (.slice (some ⟨gv,0,none⟩) (k+1) cv)).heap.size=w4.heap.size by simp] at h;exact h) (fun x hx=>by simp at hx;subst hx;rfl) (by unfold maxLen;omega) (by omega) (by simp;omega) ?_;intro v' w8 hown' Li Qv WQ;obtain ⟨gm,nT,rfl⟩:=Kt hown' (by omega);have cE:=(Li.block B (by simp;omega) (fun e=>by have:=(HP.out.2.2.1.lt B e.symm).1;omega)).trans ((AM _ _ _ (by simp;omega)).trans HP.out.1);have jO:=Li;rw[<- bZ.out] at HP Li;have HM:=JY (Rh.aja (s:=s) HP.out.1 HP.out.2.1 HP.out.2.2.1 HP.out.2.2.2.1 HP.out.2.2.2.2 (mo':=some ⟨gm,0,none⟩) (mc':=nT) Li (by rw[bZ.out,kj.out];exact hown'));rw[bZ.out] at HM;have q8:=(JZ cE 1).trans (show _=some (.slice mo k mc) from rfl);have g8:=J2 cE 1;clear cE hown' Li jO Qv WQ))
      go_roundw
      case rel=>exact ⟨j,k+1,ys++[s],_,_,cv,nT,by omega,by omega,by simp[bZ.out],by go_num,by go_num,jU,HM⟩
      case measure=>simp[intOf];omega
    · obtain ⟨xm,gN⟩:∃ xm,xs.length=xm:=⟨_,rfl⟩
      have Dv:=JY gN;have E3:0<xs.length:=List.length_pos_iff.2 ja;obtain ⟨g,cm,rfl⟩:=Kt hrow E3;have ly:∀ q (hq:q<xs.length),wr.cell? ⟨g,q,none⟩=some (.string ⟨(xs[q]).toArray⟩):=fun q hq=>by
       rw[hrow.cellAt q (by omega)];simp[strs,hq]
      have oW:=JY ly;rw[gN] at E3 m0;have b2:(0:Int)<(xm:Int):=by omega
      have b3 : ¬ (xm:Int)=0:=by omega
      have b3' : ¬ (xm:Int) = -1:=by omega
      obtain ⟨r,hr⟩:∃ r,j%3=r:=⟨_,rfl⟩
      have hr3:r<3:=by omega
      have ft:Int.tmod (j:Int) 3=(r:Int):=by
       rw[Ex (by omega),<- hr];omega
      have bC:(0:Int)<=(r:Int):=by omega
      have hr1:(r:Int)<3:=by omega
      have IC:=CM r hr3;obtain ⟨lo,Hi⟩:=HF.out r hr3;obtain ⟨c,hc⟩:∃ c,f r=c:=⟨_,rfl⟩
      rw[hc] at IC lo Hi;clear gN ly hrow hr CM ja hc;by_cases hc0:c<0
      · have k3:IntKind.i64.wrap (c+1)=c+1:=by rw[De];omega
        have k4:IntKind.i64.wrap (-(c+1)) = -(c+1):=by rw[De];omega
        have h9:=Ex (a := -(c+1)) (b:=(xm:Int)) (by omega);have q1:=Int.emod_nonneg (-(c+1)) b3;have q2:=Int.emod_lt_of_pos (-(c+1)) b2;obtain ⟨q,hq⟩:∃ q:Nat,(-(c+1))%(xm:Int)=(q:Int):=⟨((-(c+1))%(xm:Int)).toNat,by omega⟩
        rw[hq] at h9 q1 q2;have Gz:=h9;rw[Int.neg_tmod] at Gz;have rC:q<xs.length:=by rw[Dv.out];omega
        have x0:=oW.out q rC;have hmem:=B1 rC;obtain ⟨s,hs⟩:∃ s,xs[q]=s:=⟨_,rfl⟩
        rw[hs] at x0 hmem;have jU:Hid (Q9 d (ys++[s])):=JY (xX.out.snoc (by rw[bZ.out];exact .inr (by rw[jt.out];exact hmem)));clear hs hmem hq rC;go_wp2_with fail;go_region
        all_goals
         have HOW:Hid (Rh B ys no mo nc mc w wr.drew):=JY ((show Rh B ys no mo nc mc w wr.drew from ⟨HI.out.blk,HI.out.now,HI.out.may,HI.out.K7.drew,HI.out.size⟩));have HO:=JY ((show (wr.drew).ownsRow (B+1) 9 1 (.slice no k nc) k (ys.map Kl) by have h:=HOW.out.now;rw[bZ.out] at h;exact h).alloc (.cells #[.string ⟨s.toArray⟩] 9));have jY:=JY (show (wr.drew).ownsRow (B+1) 31 1 (.slice mo k mc) k (List.replicate k (.slice none 0 0)) by have h:=HOW.out.may;rw[bZ.out] at h;exact h);have jg:=JY (fun q (e:(Value.slice no k nc).ownBlock=some q)=>(HO.out.lt q e).1);obtain ⟨ym,eU⟩:∃ ym,ys.map Kl=ym:=⟨_,rfl⟩
         obtain ⟨zy,hzy⟩:∃ zy,List.replicate k (Value.slice none 0 0)=zy:=⟨_,rfl⟩
         have mr:=JY eU;have kj:=JY hzy;rw[eU] at HO;rw[hzy] at jY;clear eU hzy;go_wp2_with (first
          | (at_builtin;refine wpList_append_own_at _ rfl _ _ 31 rfl (B+1) 9 i0 (.string ByteArray.empty) 1 16 Tryz.underlying31 hi hz0 hz1 hz2 rfl (by decide) _ _ _ rfl HO.out ⟨wr.heap.size,0,none⟩ 1 1 [_] rfl rfl (cell_one_new _ _ _) (fun x hx=>by simp at hx;subst hx;rfl) (by unfold maxLen;omega) (by omega) (by simp;omega) ?_;intro v' w4 hown' KF Nj SQ;obtain ⟨gv,cv,rfl⟩:=Kt hown' (by omega);have hP:=HOW.out.ajb s (o := .cells #[.string ⟨s.toArray⟩] 9) (no':=some ⟨gv,0,none⟩) (ZT:=cv) (w4:=w4) (by rw[bZ.out];exact KF) (by rw[bZ.out,mr.out];exact hown');rw[bZ.out] at hP;have HP:=JY hP;have hk4:=(KF.block B (by simp;omega) (fun e=>by have:=jg.out B e.symm;omega)).trans ((AM _ _ _ (by show B<wr.heap.size;omega)).trans mg.out);have q5:=(JZ hk4 0).trans (show _=some (.slice no k nc) from rfl);have g5:=J2 hk4 0;have g6:=J2 hk4 1;have p1:=(JZ hP.1 1).trans (show _=some (.slice mo k mc) from rfl);have hs4:=hP.2.2.2.2;have rF:B+1<=w4.heap.size:=(by have h:=hP.2.2.2.2;simpa using h);clear hP hown' KF Nj SQ)
          | (at_builtin;refine wpList_append_own_at _ rfl _ _ 38 rfl (B+1) 31 j0 (.slice none 0 0) 1 24 Tryz.underlying38 ji xE jz1 xG rfl (by decide) _ _ _ rfl ((show (w4.setCell ⟨B,0,none⟩ (.slice (some ⟨gv,0,none⟩) (k+1) cv)).ownsRow (B+1) 31 1 (.slice mo k mc) k zy by rw[<- kj.out];exact HP.out.2.2.1).alloc _) ⟨w4.heap.size,0,none⟩ 1 1 [.slice none 0 0] rfl rfl (by have h:=cell_one_new (w4.setCell ⟨B,0,none⟩ (.slice (some ⟨gv,0,none⟩) (k+1) cv)) (.slice none 0 0) 31;rw[show (w4.setCell ⟨B,0,none⟩ (.slice (some ⟨gv,0,none⟩) (k+1) cv)).heap.size=w4.heap.size by simp] at h;exact h) (fun x hx=>by simp at hx;subst hx;rfl) (by unfold maxLen;omega) (by omega) (by simp;omega) ?_;intro v' w8 hown' Li Qv WQ;obtain ⟨gm,nT,rfl⟩:=Kt hown' (by omega);have cE:=(Li.block B (by simp;omega) (fun e=>by have:=(HP.out.2.2.1.lt B e.symm).1;omega)).trans ((AM _ _ _ (by simp;omega)).trans HP.out.1);have jO:=Li;rw[<- bZ.out] at HP Li;have HM:=JY (Rh.aja (s:=s) HP.out.1 HP.out.2.1 HP.out.2.2.1 HP.out.2.2.2.1 HP.out.2.2.2.2 (mo':=some ⟨gm,0,none⟩) (mc':=nT) Li (by rw[bZ.out,kj.out];exact hown'));rw[bZ.out] at HM;have q8:=(JZ cE 1).trans (show _=some (.slice mo k mc) from rfl);have g8:=J2 cE 1;clear cE hown' Li jO Qv WQ))
         go_roundw
         case rel=>exact ⟨j+1,k+1,ys++[s],_,_,cv,nT,by omega,by omega,by simp[bZ.out],by go_num,by go_num,jU,HM⟩
         case measure=>simp[intOf];omega
      · have h9:=Ex (a:=c) (b:=(xm:Int)) (by omega);have q1:=Int.emod_nonneg c b3;have q2:=Int.emod_lt_of_pos c b2;obtain ⟨q,hq⟩:∃ q:Nat,c%(xm:Int)=(q:Int):=⟨(c%(xm:Int)).toNat,by omega⟩
        rw[hq] at h9 q1 q2;have rC:q<xs.length:=by rw[Dv.out];omega
        have x0:=oW.out q rC;have hmem:=B1 rC;obtain ⟨s,hs⟩:∃ s,xs[q]=s:=⟨_,rfl⟩
        rw[hs] at x0 hmem;have jU:Hid (Q9 d (ys++[s])):=JY (xX.out.snoc (by rw[bZ.out];exact .inr (by rw[jt.out];exact hmem)));clear hs hmem hq rC;go_wp2_with fail;go_region
        all_goals
         have HOW:Hid (Rh B ys no mo nc mc w wr.drew):=JY ((show Rh B ys no mo nc mc w wr.drew from ⟨HI.out.blk,HI.out.now,HI.out.may,HI.out.K7.drew,HI.out.size⟩));have HO:=JY ((show (wr.drew).ownsRow (B+1) 9 1 (.slice no k nc) k (ys.map Kl) by have h:=HOW.out.now;rw[bZ.out] at h;exact h).alloc (.cells #[.string ⟨s.toArray⟩] 9));have jY:=JY (show (wr.drew).ownsRow (B+1) 31 1 (.slice mo k mc) k (List.replicate k (.slice none 0 0)) by have h:=HOW.out.may;rw[bZ.out] at h;exact h);have jg:=JY (fun q (e:(Value.slice no k nc).ownBlock=some q)=>(HO.out.lt q e).1);obtain ⟨ym,eU⟩:∃ ym,ys.map Kl=ym:=⟨_,rfl⟩
         obtain ⟨zy,hzy⟩:∃ zy,List.replicate k (Value.slice none 0 0)=zy:=⟨_,rfl⟩
         have mr:=JY eU;have kj:=JY hzy;rw[eU] at HO;rw[hzy] at jY;clear eU hzy;go_wp2_with (first
          | (at_builtin;refine wpList_append_own_at _ rfl _ _ 31 rfl (B+1) 9 i0 (.string ByteArray.empty) 1 16 Tryz.underlying31 hi hz0 hz1 hz2 rfl (by decide) _ _ _ rfl HO.out ⟨wr.heap.size,0,none⟩ 1 1 [_] rfl rfl (cell_one_new _ _ _) (fun x hx=>by simp at hx;subst hx;rfl) (by unfold maxLen;omega) (by omega) (by simp;omega) ?_;intro v' w4 hown' KF Nj SQ;obtain ⟨gv,cv,rfl⟩:=Kt hown' (by omega);have hP:=HOW.out.ajb s (o := .cells #[.string ⟨s.toArray⟩] 9) (no':=some ⟨gv,0,none⟩) (ZT:=cv) (w4:=w4) (by rw[bZ.out];exact KF) (by rw[bZ.out,mr.out];exact hown');rw[bZ.out] at hP;have HP:=JY hP;have hk4:=(KF.block B (by simp;omega) (fun e=>by have:=jg.out B e.symm;omega)).trans ((AM _ _ _ (by show B<wr.heap.size;omega)).trans mg.out);have q5:=(JZ hk4 0).trans (show _=some (.slice no k nc) from rfl);have g5:=J2 hk4 0;have g6:=J2 hk4 1;have p1:=(JZ hP.1 1).trans (show _=some (.slice mo k mc) from rfl);have hs4:=hP.2.2.2.2;have rF:B+1<=w4.heap.size:=(by have h:=hP.2.2.2.2;simpa using h);clear hP hown' KF Nj SQ)
          | (at_builtin;refine wpList_append_own_at _ rfl _ _ 38 rfl (B+1) 31 j0 (.slice none 0 0) 1 24 Tryz.underlying38 ji xE jz1 xG rfl (by decide) _ _ _ rfl ((show (w4.setCell ⟨B,0,none⟩ (.slice (some ⟨gv,0,none⟩) (k+1) cv)).ownsRow (B+1) 31 1 (.slice mo k mc) k zy by rw[<- kj.out];exact HP.out.2.2.1).alloc _) ⟨w4.heap.size,0,none⟩ 1 1 [.slice none 0 0] rfl rfl (by have h:=cell_one_new (w4.setCell ⟨B,0,none⟩ (.slice (some ⟨gv,0,none⟩) (k+1) cv)) (.slice none 0 0) 31;rw[show (w4.setCell ⟨B,0,none⟩ (.slice (some ⟨gv,0,none⟩) (k+1) cv)).heap.size=w4.heap.size by simp] at h;exact h) (fun x hx=>by simp at hx;subst hx;rfl) (by unfold maxLen;omega) (by omega) (by simp;omega) ?_;intro v' w8 hown' Li Qv WQ;obtain ⟨gm,nT,rfl⟩:=Kt hown' (by omega);have cE:=(Li.block B (by simp;omega) (fun e=>by have:=(HP.out.2.2.1.lt B e.symm).1;omega)).trans ((AM _ _ _ (by simp;omega)).trans HP.out.1);have jO:=Li;rw[<- bZ.out] at HP Li;have HM:=JY (Rh.aja (s:=s) HP.out.1 HP.out.2.1 HP.out.2.2.1 HP.out.2.2.2.1 HP.out.2.2.2.2 (mo':=some ⟨gm,0,none⟩) (mc':=nT) Li (by rw[bZ.out,kj.out];exact hown'));rw[bZ.out] at HM;have q8:=(JZ cE 1).trans (show _=some (.slice mo k mc) from rfl);have g8:=J2 cE 1;clear cE hown' Li jO Qv WQ))
         go_roundw
         case rel=>exact ⟨j+1,k+1,ys++[s],_,_,cv,nT,by omega,by omega,by simp[bZ.out],by go_num,by go_num,jU,HM⟩
         case measure=>simp[intOf];omega
  · obtain rfl:k=n:=by omega
    have b1 : ¬ (k:Int)<(k:Int):=by omega
    go_wp2_with fail;go_ret;rw[bJ.out];have hl:ys.length=d.now.length:=by rw[bZ.out,ue.out]
    exact ⟨rfl,ys,xX.out.img hl pC.out,HI.out.disk (by rw[bZ.out];exact hn) hw0,HI.out.K7⟩
end
section
open Go.RowKit
open Kw (St ME)
open Hv (S Dx VM Ns All Zl)
variable {d':Dx}{D:VM Hv.PD}{G:VM S}
theorem Kq.P5{d:Dx}  (h:Kq C db d w) (a:Int):Kq C db { d with after:=a } (w.setCell ⟨db,3,none⟩ (.int .i64 a)):=by
 obtain ⟨nb,aq,mb,ak,vs,bv,h⟩:=h;exact ⟨nb,aq,mb,ak,vs,bv,h.top (d':={ d with after:=a }) 3 _ rfl rfl rfl rfl rfl h.few⟩
theorem Kq.ac8{d:Dx}  (h:Kq C db d w) (f:Hv.Fl) (hf:adC w f) (hrb : ¬ C ({ d with fl:=f }:Dx).rb/\({ d with fl:=f }:Dx).rb<w.heap.size):Kq C db { d with fl:=f } (w.setCell ⟨db,5,none⟩ (.slice f.p f.n f.c)):=by
 obtain ⟨nb,aq,mb,ak,vs,bv,h⟩:=h;obtain ⟨o1,o2,o3,o4,o5⟩:=h.off;have hk:∀ k,k≠db->(w.setCell ⟨db,5,none⟩ (.slice f.p f.n f.c)).heap[k]? = w.heap[k]? := fun k hk=>BY _ _ _ _ hk
 refine ⟨nb,aq,mb,ak,vs,bv,(AI _ db 5 _ _ _ h.blk).trans rfl,Kg h.now fun g hg=>by cases hg;exact hk _ (fun e=>o1 e.symm),Kg h.may fun g hg=>by cases hg;exact hk _ (fun e=>o2 e.symm),h.len,fun i v hv=>(h.each i v hv).kept fun g hg=>hk g (o4 i v g hv hg).1,h.apart,h.bad.kept fun g hg=>hk g (o5 g hg).1.1,?_,h.Td,h.off,⟨hrb.1,by simpa using hrb.2⟩,fun k q=>by simpa using h.lt k q,h.few,h.cts⟩;refine ⟨hf.1,fun i hi => ?_⟩;obtain ⟨a,ha,hc⟩:=hf.2 i hi;refine ⟨a,ha,(Be (hk _ fun e=>hrb.1 ?_)).trans hc⟩;have e1:({ d with fl:=f }:Dx).rb=a.block:=by simp[Dx.rb,ha]
 have e2:(a.add i).block=a.block:=by unfold Addr.add;split<;>rfl
 rw[e1,<- e2,e];exact h.Td.1
theorem LJ.under{h:S} {d:Dx} {P:VM Value}     (e:LJ C N eb sb mb pm fm db n a b c h d P D G sv im km dn w) (hd:Kq C db d' w') (hf:Kj w.heap.size (fun k=>k=db) w w') (hrb:d'.rb≠eb/\d'.rb≠sb/\d'.rb≠pm/\d'.rb≠fm):LJ C N eb sb mb pm fm db n a b c h d' P D G sv im km dn w':=by
 obtain ⟨o1,o2,o3,o4,o5⟩:=e.off;have hC:=e.dk.at_;have hne:∀ k,¬ C k -> ¬ k=db:=fun k hk q=>hk (q▸hC)
 exact ⟨e.Lu.kept (hf.block eb (blt e.Lu) (hne eb o1)),e.st.far hf (AC _) (hne sb o2),e.La.far hf (AC _) ⟨hne mb o3,hne pm o4,hne fm o5⟩,e.pk.far hf (AC _) (fun g _ hg=>hne g (e.rows g hg).2.1),hd,e.off,e.apart,fun g hg=>⟨B3 (e.rows g hg).1 hf.size,(e.rows g hg).2⟩,e.base.far hf e.base.size (fun k (q:k=db)=>by rw[q];exact e.low.2.2.2.2 db hC),e.low,hrb⟩
theorem Lh.under{d:Dx}    (h:Lh L F hb db d D G w) (cg:d'.now=d.now) (aW:d'.may=d.may) (vN:d'.gone=false) (hd:∀ C,Kq C db d w->(∀ k,C k->F k)->Kq C db d' w') (hf:Kj w.heap.size (fun k=>k=db) w w') (hrb : ¬ F d'.rb):Lh L F hb db d' D G w':=by
 obtain ⟨C,N,eb,sb,mb,pm,fm,a,P,h1,h2,h3,h4⟩:=h;have hn:∀ k,((K9 C eb sb pm fm k\/k=hb)\/k=mb\/N k)->d'.rb≠k:=fun k hk e=>hrb (e▸h3 k hk)
 refine ⟨C,N,eb,sb,mb,pm,fm,a,P,⟨(hf.block hb (blt h1.blk) (fun q=>h1.off.1 (q▸h1.Lu.dk.at_))).trans h1.blk,h1.Lu.under (hd C h1.Lu.dk fun k hk=>h3 k (.inl (.inl (.inl hk)))) hf ⟨hn eb (.inl (.inl (.inr (.inl rfl)))),hn sb (.inl (.inl (.inr (.inr (.inl rfl))))),hn pm (.inl (.inl (.inr (.inr (.inr (.inl rfl)))))),hn fm (.inl (.inl (.inr (.inr (.inr (.inr rfl))))))⟩,?_,h1.low⟩,⟨by rw[aW];exact h2.may,by rw[cg];exact h2.has,vN⟩,h3,fun k hk=>⟨(h4 k hk).1,B3 (h4 k hk).2 hf.size⟩⟩;obtain ⟨o1,o2,o3,o4,o5,o6,o7,o8⟩:=h1.off;exact ⟨o1,o2,o3,o4,o5,o6,o7,hn hb (.inl (.inr rfl))⟩
theorem Lh.V6{d:Dx}    (h:Lh L F hb db d D G w):F db:=by
 obtain ⟨C,N,eb,sb,mb,pm,fm,a,P,h1,h2,h3,h4⟩:=h;exact h3 db (.inl (.inl (.inl h1.Lu.dk.at_)))
theorem Lh.P5{d:Dx}    (h:Lh L F hb db d D G w) (hrb : ¬ F d.rb) (a:Int):Lh L F hb db { d with after:=a } D G (w.setCell ⟨db,3,none⟩ (.int .i64 a)) :=
 h.under rfl rfl h.has.1 (fun _ hd _=>hd.P5 a) ((Kj.refl w.heap.size (fun k=>k=db) w).setCell (p:=⟨db,3,none⟩) (.inr rfl) _) hrb
theorem Lh.ac8{d:Dx}    (h:Lh L F hb db d D G w) (f:Hv.Fl) (hf:adC w f) (hrb : ¬ F ({ d with fl:=f }:Dx).rb/\({ d with fl:=f }:Dx).rb<w.heap.size):Lh L F hb db { d with fl:=f } D G (w.setCell ⟨db,5,none⟩ (.slice f.p f.n f.c)) :=
 h.under rfl rfl h.has.1 (fun _ hd hC=>hd.ac8 f hf ⟨fun q=>hrb.1 (hC _ q),hrb.2⟩) ((Kj.refl w.heap.size (fun k=>k=db) w).setCell (p:=⟨db,5,none⟩) (.inr rfl) _) hrb.1
end
section
open Go.RowKit
open Hv (S Dx)
structure afd (w:World) (f:Hv.Fl) (w':World):Prop where
 at_:adC w' f
 own:(f.p=none/\f.n=0) \/ ∃ g,f.p=some ⟨g,0,none⟩/\w.heap.size<=g/\g<w'.heap.size
 K7:Below w.heap.size w w'
theorem aaW(w:World) (xs:List Int) (hx:xs.length<=maxLen):afd w ⟨some ⟨w.heap.size,0,none⟩,xs.length,xs.length,fun i=>xs.getD i 0⟩ (w.alloc (.cells (xs.map fun x=>Value.int .i64 x).toArray 3)):=by
 refine ⟨⟨hx,fun i hi=>⟨_,rfl,?_⟩⟩, .inr ⟨w.heap.size,rfl,AC _,by simp⟩,(AD _ _).alloc (AC _) _⟩;have hadd:(⟨w.heap.size,0,none⟩:Addr).add i=⟨w.heap.size,i,none⟩:=by unfold Addr.add;split<;>simp_all
 rw[hadd,JZ (AF w _)];have hi':i<xs.length:=hi;simp[List.getD_eq_getElem?_getD,hi']
theorem agt(c:Int) (h0 : -9223372036854775808<=c) (h1:c<=9223372036854775807) (w:World) :
 Calls Tryz.prog 8 #[.int .i64 c] w fun e w'=>∃ f:Hv.Fl,e = .returned (.slice f.p f.n f.c)/\afd w f w':=by
 have HP:=JY (Qz c 6 (by decide) (by decide) h0 h1 w);obtain ⟨p,hp⟩:∃ p,pk c 6=p:=⟨_,rfl⟩
 rw[hp] at HP;clear h0 h1 hp;by_cases q0:p=0
 · subst q0;go_enter Tryz.func8,Tryz.ntmps8;go_wp2_with fail;refine HP.out.mono ?_;rintro e w1 ⟨rfl,rfl⟩;go_wp2_with fail;go_ret;exact ⟨_,rfl,aaW w1 [1,0] (by decide)⟩
 by_cases q1:p=1
 · subst q1;go_enter Tryz.func8,Tryz.ntmps8;go_wp2_with fail;refine HP.out.mono ?_;rintro e w1 ⟨rfl,rfl⟩;go_wp2_with fail;go_ret;exact ⟨_,rfl,aaW w1 [1,1,1,0] (by decide)⟩
 by_cases q2:p=2
 · subst q2;go_enter Tryz.func8,Tryz.ntmps8;go_wp2_with fail;refine HP.out.mono ?_;rintro e w1 ⟨rfl,rfl⟩;go_wp2_with fail;go_ret;exact ⟨_,rfl,aaW w1 [0,0,0,1,1,1,1,0,0,0,0,0,0,0,0,0,0,0,0] (by decide)⟩
 go_enter Tryz.func8,Tryz.ntmps8;go_wp2_with fail;refine HP.out.mono ?_;rintro e w1 ⟨rfl,rfl⟩;go_wp2_with fail;go_ret;exact ⟨aiT,rfl,⟨(show (0:Nat)<=maxLen by decide),fun i hi=>absurd hi (by show ¬ i<0;omega)⟩, .inl ⟨rfl,rfl⟩,AD _ _⟩
end
section
open Go.RowKit
open Kw (St ME)
open Hv (S Dk VM Pj)
theorem UM:Pj [] []:=⟨Lf.nil,by simp,by simp,fun k x q=>(by cases q),fun k x q=>(by cases q)⟩
theorem aj2:J8.compare [50] [49,48]=(-1,0):=by decide
theorem ajr{v:Value} {p:S × Hv.PD} (h:w.ownsRow B 61 3 v 1 ([p].flatMap Rf)):∃ g c,v = .slice (some ⟨g,0,none⟩) 1 c/\B<=g/\g<w.heap.size/\w.cell? ⟨g,0,none⟩=some (Kl p.1)/\w.cell? ⟨g,2,none⟩=some (.int .i64 p.2.status):=by
 obtain ⟨g,cap,rfl⟩:=Kt h (by omega);obtain ⟨l1,l2⟩:=h.lt g rfl;exact ⟨g,cap,rfl,l1,l2,by rw[h.cellAt _ (by omega)];rfl,by rw[h.cellAt _ (by omega)];rfl⟩
theorem Z0(x:S) (t:Nat):Reads (w.alloc (.cells #[.string ⟨x.toArray⟩] t)) (.slice (some ⟨w.heap.size,0,none⟩) 1 1) [x]:=by
 refine .inr ⟨w.heap.size,1,rfl,by simp,fun j y hj => ?_⟩;have hj0:j=0:=by have:=(List.getElem?_eq_some_iff.1 hj).1;simpa using this
 subst hj0;have e:x=y:=by simpa using hj
 subst e;exact (JZ (AF w _) 0).trans rfl
theorem amF:abK [122] 1 [] []=43::Hv.Oh 122 49 [] false:=ahW 25 (.inl rfl) [] false
def zPD:Hv.PD:=⟨Hv.Oh 122 49 [] false,[122],[49],Hv.aek 122 [] false,2⟩
theorem afv:Hv.Rn 122:=by unfold Hv.Rn;decide
theorem ajM:(43::Hv.Oh 122 49 [] false).length<=100:=by
 have:=Hv.Vp 122 49 [] false;rw[List.length_nil] at this;rw[CI];omega
theorem anF:∃ pl,Hv.check 300 [] [] [43::Hv.Oh 122 49 [] false] = .ok pl/\0<pl.steps.length/\(∀ s,Hv.wish [43::Hv.Oh 122 49 [] false] = .ok s->∀ k d,Hv.get s.I k=some d->KX d.st.runs/\KX d.st.Kn)/\Hv.Kc pl (Hv.KG [] pl.Le,[]) pl.steps=([([122],zPD)],[]) :=
 Hv.ame (Hv.agB 122 49 afv (.inl rfl) [] (fun n hn=>(by cases hn)) (by simp) false) rfl rfl rfl (.inr rfl) (.inl rfl) (fun c hc=>(by cases hc)) (by have:=ajM;omega)
theorem afb:Pj [([122],zPD)] []:=by
 have hs:Hv.Ki ([([122],zPD)]:VM Hv.PD):=by simp[Hv.Ki]
 refine ⟨⟨fun k d q => ?_, .inr fun k d q => ?_⟩,by simp,by simp,fun k x q=>(by cases q),fun k x q=>(by cases q)⟩
 · have:=(Hv.get_some hs).1 q;simp only[DQ,Prod.mk.injEq] at this;obtain ⟨rfl,rfl⟩:=this;exact ⟨rfl,Hv.TS 122 49 afv (.inl rfl) [] (fun n hn=>(by cases hn)) (by simp) false⟩
 · have:=(Hv.get_some hs).1 q;simp only[DQ,Prod.mk.injEq] at this;obtain ⟨rfl,rfl⟩:=this;exact ⟨fun c hc=>(by cases hc),fun c hc=>(by cases hc)⟩
theorem ano:∃ pl,Hv.check 300 [([122],zPD)] [] [[45,122]] = .ok pl/\0<pl.steps.length/\Hv.Kc pl (Hv.KG [([122],zPD)] pl.Le,[]) pl.steps=([],[]) :=
 Hv.akD afv zPD rfl (by have:=ajM;rw[CI] at this;show (Hv.Oh 122 49 [] false).length<=1000;omega)
theorem aeK{c:UInt8} (hc:Hv.Rn c):∀ s,Hv.wish [[45,c]] = .ok s->∀ k d,Hv.get s.I k=some d->KX d.st.runs/\KX d.st.Kn:=fun s hs k d q=>by
 rw[Hv.acZ hc] at hs;cases hs;cases q
end
end Go.Proofs.YtfhmaiicimdldaaGreatDoor
