/- TeaHash, BaseW, DvW3, StW1, StW2 -/
import Derived.Test.YtialenebfcnkkaaGreatDoorOrdJ6
import Derived.KernelRfl
import Derived.Test.YtialenebfcnkkaaGreatDoorOrdJ7
import Derived.Test.YtialenebfcnkkaaGreatDoorOrdJ1
import Derived.Lib.LaidTab
import Derived.Lib.ItoaLen
import Derived.Deep.RegionHeld3
set_option maxHeartbeats 4000000
set_option maxRecDepth 100000
namespace Go.Proofs.YtialenebfcnkkaaGreatDoor
def Nh:List Int:=[1116352408,1899447441,3049323471,3921009573,961987163,1508970993,2453635748,2870763221,3624381080,310598401,607225278,1426881987,1925078388,2162078206,2614888103,3248222580,3835390401,4022224774,264347078,604807628,770255983,1249150122,1555081692,1996064986,2554220882,2821834349,2952996808,3210313671,3336571891,3584528711,113926993,338241895,666307205,773529912,1294757372,1396182291,1695183700,1986661051,2177026350,2456956037,2730485921,2820302411,3259730800,3345764771,3516065817,3600352804,4094571909,275423344,430227734,506948616,659060556,883997877,958139571,1322822218,1537002063,1747873779,1955562222,2024104815,2227730452,2361852424,2428436474,2756734187,3204031479,3329325298]
def aF (i:Nat):Int:=Nh.getD i 0
def green:List UInt8:=[103,114,101,101,110]
def cu:Nat→Int:=blk green 0
theorem bO {b:Nat→Int} (m:Nat) {a0 a1 a9 a14 v:Int} (h0:wf b m=a0) (h1:wf b (m+1)=a1) (h9:wf b (m+9)=a9) (h14:wf b (m+14)=a14) (hv:(sS1 a14+a9+sS0 a1+a0)%4294967296=v):wf b (m+16)=v:=by
 rw[NQ (by omega),show m+16-2=m+14 from by omega,show m+16-7=m+9 from by omega,show m+16-15=m+1 from by omega,show m+16-16=m from by omega,h0,h1,h9,h14,hv]
theorem aA {r s s':R8} {F K:Nat→Int} {n:Nat} {k x:Int} (h:rounds r F K n=s) (hk:K n=k) (hx:F n=x) (hs:s.next k x=s'):rounds r F K (n+1)=s':=by
 rw[rounds,h,hk,hx,hs]
theorem fK {b:Nat→Int} {k:Nat} {v:Int} (h:k<16) (hv:Ve b k=v):wf b k=v:=(Uu h).trans hv
theorem wg0:wf cu 0=1735550309:=fK (by decide) (by kernel_rfl)
theorem wg1:wf cu 1=1853882368:=fK (by decide) (by kernel_rfl)
theorem wg2:wf cu 2=0:=fK (by decide) (by kernel_rfl)
theorem wg3:wf cu 3=0:=fK (by decide) (by kernel_rfl)
theorem wg4:wf cu 4=0:=fK (by decide) (by kernel_rfl)
theorem wg5:wf cu 5=0:=fK (by decide) (by kernel_rfl)
theorem wg6:wf cu 6=0:=fK (by decide) (by kernel_rfl)
theorem wg7:wf cu 7=0:=fK (by decide) (by kernel_rfl)
theorem wg8:wf cu 8=0:=fK (by decide) (by kernel_rfl)
theorem wg9:wf cu 9=0:=fK (by decide) (by kernel_rfl)
theorem Xy:wf cu 10=0:=fK (by decide) (by kernel_rfl)
theorem Xz:wf cu 11=0:=fK (by decide) (by kernel_rfl)
theorem XA:wf cu 12=0:=fK (by decide) (by kernel_rfl)
theorem XB:wf cu 13=0:=fK (by decide) (by kernel_rfl)
theorem Uv:wf cu 14=0:=fK (by decide) (by kernel_rfl)
theorem Uw:wf cu 15=40:=fK (by decide) (by kernel_rfl)
theorem Ux:wf cu 16=1954513157:=bO 0 wg0 wg1 wg9 Uv (by kernel_rfl)
theorem Uy:wf cu 17=1854996480:=bO 1 wg1 wg2 Xy Uw (by kernel_rfl)
theorem Uz:wf cu 18=817826640:=bO 2 wg2 wg3 Xz Ux (by kernel_rfl)
theorem UA:wf cu 19=2686164698:=bO 3 wg3 wg4 XA Uy (by kernel_rfl)
theorem UC:wf cu 20=1691234698:=bO 4 wg4 wg5 XB Uz (by kernel_rfl)
theorem UD:wf cu 21=3164472041:=bO 5 wg5 wg6 Uv UA (by kernel_rfl)
theorem UE:wf cu 22=3740093850:=bO 6 wg6 wg7 Uw UC (by kernel_rfl)
theorem UF:wf cu 23=897994593:=bO 7 wg7 wg8 Ux UD (by kernel_rfl)
theorem UG:wf cu 24=2111475704:=bO 8 wg8 wg9 Uy UE (by kernel_rfl)
theorem UH:wf cu 25=521201968:=bO 9 wg9 Xy Uz UF (by kernel_rfl)
theorem UJ:wf cu 26=3057116879:=bO 10 Xy Xz UA UG (by kernel_rfl)
theorem UK:wf cu 27=3465017818:=bO 11 Xz XA UC UH (by kernel_rfl)
theorem UL:wf cu 28=3425805069:=bO 12 XA XB UD UJ (by kernel_rfl)
theorem UM:wf cu 29=3805474055:=bO 13 XB Uv UE UK (by kernel_rfl)
theorem UN:wf cu 30=1801757532:=bO 14 Uv Uw UF UL (by kernel_rfl)
theorem UO:wf cu 31=2367462373:=bO 15 Uw Ux UG UM (by kernel_rfl)
theorem UQ:wf cu 32=2793334223:=bO 16 Ux Uy UH UN (by kernel_rfl)
theorem UR:wf cu 33=1746446893:=bO 17 Uy Uz UJ UO (by kernel_rfl)
theorem UU:wf cu 34=4105480787:=bO 18 Uz UA UK UQ (by kernel_rfl)
theorem UW:wf cu 35=1086923885:=bO 19 UA UC UL UR (by kernel_rfl)
theorem UY:wf cu 36=1280334838:=bO 20 UC UD UM UU (by kernel_rfl)
theorem UZ:wf cu 37=1538565388:=bO 21 UD UE UN UW (by kernel_rfl)
theorem U0:wf cu 38=3919867206:=bO 22 UE UF UO UY (by kernel_rfl)
theorem U1:wf cu 39=4277501003:=bO 23 UF UG UQ UZ (by kernel_rfl)
theorem U2:wf cu 40=4206179922:=bO 24 UG UH UR U0 (by kernel_rfl)
theorem U3:wf cu 41=2507296791:=bO 25 UH UJ UU U1 (by kernel_rfl)
theorem U4:wf cu 42=2266619366:=bO 26 UJ UK UW U2 (by kernel_rfl)
theorem U5:wf cu 43=3890339454:=bO 27 UK UL UY U3 (by kernel_rfl)
theorem U6:wf cu 44=2788335103:=bO 28 UL UM UZ U4 (by kernel_rfl)
theorem U7:wf cu 45=1051589052:=bO 29 UM UN U0 U5 (by kernel_rfl)
theorem U8:wf cu 46=2214892587:=bO 30 UN UO U1 U6 (by kernel_rfl)
theorem U9:wf cu 47=4272475937:=bO 31 UO UQ U2 U7 (by kernel_rfl)
theorem XC:wf cu 48=2449172388:=bO 32 UQ UR U3 U8 (by kernel_rfl)
theorem aav:wf cu 49=23655416:=bO 33 UR UU U4 U9 (by kernel_rfl)
theorem aaw:wf cu 50=1461523427:=bO 34 UU UW U5 XC (by kernel_rfl)
theorem aax:wf cu 51=1114527214:=bO 35 UW UY U6 aav (by kernel_rfl)
theorem aay:wf cu 52=4044965601:=bO 36 UY UZ U7 aaw (by kernel_rfl)
theorem aaz:wf cu 53=1271540545:=bO 37 UZ U0 U8 aax (by kernel_rfl)
theorem aaA:wf cu 54=1259305009:=bO 38 U0 U1 U9 aay (by kernel_rfl)
theorem aaB:wf cu 55=3640841232:=bO 39 U1 U2 XC aaz (by kernel_rfl)
theorem aaC:wf cu 56=4172006784:=bO 40 U2 U3 aav aaA (by kernel_rfl)
theorem acg:wf cu 57=3353363663:=bO 41 U3 U4 aaw aaB (by kernel_rfl)
theorem ach:wf cu 58=4202872592:=bO 42 U4 U5 aax aaC (by kernel_rfl)
theorem aci:wf cu 59=1354819460:=bO 43 U5 U6 aay acg (by kernel_rfl)
theorem acj:wf cu 60=4229527405:=bO 44 U6 U7 aaz ach (by kernel_rfl)
theorem acn:wf cu 61=1533443802:=bO 45 U7 U8 aaA aci (by kernel_rfl)
theorem aeg:wf cu 62=1649141725:=bO 46 U8 U9 aaB acj (by kernel_rfl)
theorem aeh:wf cu 63=1793790502:=bO 47 U9 XC aaC acn (by kernel_rfl)
theorem rg0:rounds iv (wf cu) aF 0=⟨1779033703,3144134277,1013904242,2773480762,1359893119,2600822924,528734635,1541459225⟩:=rfl
theorem rg1:rounds iv (wf cu) aF 1=⟨1669000626,1779033703,3144134277,1013904242,3819527,1359893119,2600822924,528734635⟩:=aA rg0 (show aF 0=1116352408 by kernel_rfl) wg0 (by kernel_rfl)
theorem rg2:rounds iv (wf cu) aF 2=⟨645317777,1669000626,1779033703,3144134277,3632160806,3819527,1359893119,2600822924⟩:=aA rg1 (show aF 1=1899447441 by kernel_rfl) wg1 (by kernel_rfl)
theorem rg3:rounds iv (wf cu) aF 3=⟨185419416,645317777,1669000626,1779033703,2918402655,3632160806,3819527,1359893119⟩:=aA rg2 (show aF 2=3049323471 by kernel_rfl) wg2 (by kernel_rfl)
theorem rg4:rounds iv (wf cu) aF 4=⟨3065903408,185419416,645317777,1669000626,4197429543,2918402655,3632160806,3819527⟩:=aA rg3 (show aF 3=3921009573 by kernel_rfl) wg3 (by kernel_rfl)
theorem rg5:rounds iv (wf cu) aF 5=⟨3370090817,3065903408,185419416,645317777,4065239274,4197429543,2918402655,3632160806⟩:=aA rg4 (show aF 4=961987163 by kernel_rfl) wg4 (by kernel_rfl)
theorem rg6:rounds iv (wf cu) aF 6=⟨1422968091,3370090817,3065903408,185419416,3933021965,4065239274,4197429543,2918402655⟩:=aA rg5 (show aF 5=1508970993 by kernel_rfl) wg5 (by kernel_rfl)
theorem rg7:rounds iv (wf cu) aF 7=⟨2799810718,1422968091,3370090817,3065903408,504775570,3933021965,4065239274,4197429543⟩:=aA rg6 (show aF 6=2453635748 by kernel_rfl) wg6 (by kernel_rfl)
theorem rg8:rounds iv (wf cu) aF 8=⟨1899211513,2799810718,1422968091,3370090817,2003894109,504775570,3933021965,4065239274⟩:=aA rg7 (show aF 7=2870763221 by kernel_rfl) wg7 (by kernel_rfl)
theorem rg9:rounds iv (wf cu) aF 9=⟨3365814637,1899211513,2799810718,1422968091,1465881388,2003894109,504775570,3933021965⟩:=aA rg8 (show aF 8=3624381080 by kernel_rfl) wg8 (by kernel_rfl)
theorem adl:rounds iv (wf cu) aF 10=⟨3093259721,3365814637,1899211513,2799810718,741351004,1465881388,2003894109,504775570⟩:=aA rg9 (show aF 9=310598401 by kernel_rfl) wg9 (by kernel_rfl)
theorem adn:rounds iv (wf cu) aF 11=⟨1925170202,3093259721,3365814637,1899211513,3820281191,741351004,1465881388,2003894109⟩:=aA adl (show aF 10=607225278 by kernel_rfl) Xy (by kernel_rfl)
theorem ado:rounds iv (wf cu) aF 12=⟨639632390,1925170202,3093259721,3365814637,1531468932,3820281191,741351004,1465881388⟩:=aA adn (show aF 11=1426881987 by kernel_rfl) Xz (by kernel_rfl)
theorem adp:rounds iv (wf cu) aF 13=⟨3003041267,639632390,1925170202,3093259721,531929789,1531468932,3820281191,741351004⟩:=aA ado (show aF 12=1925078388 by kernel_rfl) XA (by kernel_rfl)
theorem adq:rounds iv (wf cu) aF 14=⟨2358531305,3003041267,639632390,1925170202,3657371231,531929789,1531468932,3820281191⟩:=aA adp (show aF 13=2162078206 by kernel_rfl) XB (by kernel_rfl)
theorem adr:rounds iv (wf cu) aF 15=⟨575686508,2358531305,3003041267,639632390,1495330553,3657371231,531929789,1531468932⟩:=aA adq (show aF 14=2614888103 by kernel_rfl) Uv (by kernel_rfl)
theorem ads:rounds iv (wf cu) aF 16=⟨1015955776,575686508,2358531305,3003041267,1290881933,1495330553,3657371231,531929789⟩:=aA adr (show aF 15=3248222580 by kernel_rfl) Uw (by kernel_rfl)
theorem adt:rounds iv (wf cu) aF 17=⟨4143524919,1015955776,575686508,2358531305,1094465522,1290881933,1495330553,3657371231⟩:=aA ads (show aF 16=3835390401 by kernel_rfl) Ux (by kernel_rfl)
theorem adu:rounds iv (wf cu) aF 18=⟨3915364458,4143524919,1015955776,575686508,3328877776,1094465522,1290881933,1495330553⟩:=aA adt (show aF 17=4022224774 by kernel_rfl) Uy (by kernel_rfl)
theorem adv:rounds iv (wf cu) aF 19=⟨3547221812,3915364458,4143524919,1015955776,4043202300,3328877776,1094465522,1290881933⟩:=aA adu (show aF 18=264347078 by kernel_rfl) Uz (by kernel_rfl)
theorem adw:rounds iv (wf cu) aF 20=⟨230118133,3547221812,3915364458,4143524919,1652853773,4043202300,3328877776,1094465522⟩:=aA adv (show aF 19=604807628 by kernel_rfl) UA (by kernel_rfl)
theorem adx:rounds iv (wf cu) aF 21=⟨2186268284,230118133,3547221812,3915364458,2788897550,1652853773,4043202300,3328877776⟩:=aA adw (show aF 20=770255983 by kernel_rfl) UC (by kernel_rfl)
theorem ady:rounds iv (wf cu) aF 22=⟨1993640116,2186268284,230118133,3547221812,1886838466,2788897550,1652853773,4043202300⟩:=aA adx (show aF 21=1249150122 by kernel_rfl) UD (by kernel_rfl)
theorem adz:rounds iv (wf cu) aF 23=⟨1262169439,1993640116,2186268284,230118133,228420685,1886838466,2788897550,1652853773⟩:=aA ady (show aF 22=1555081692 by kernel_rfl) UE (by kernel_rfl)
theorem adA:rounds iv (wf cu) aF 24=⟨3141410882,1262169439,1993640116,2186268284,840169241,228420685,1886838466,2788897550⟩:=aA adz (show aF 23=1996064986 by kernel_rfl) UF (by kernel_rfl)
theorem adB:rounds iv (wf cu) aF 25=⟨1517848001,3141410882,1262169439,1993640116,221171930,840169241,228420685,1886838466⟩:=aA adA (show aF 24=2554220882 by kernel_rfl) UG (by kernel_rfl)
theorem adC:rounds iv (wf cu) aF 26=⟨304683835,1517848001,3141410882,1262169439,2470414031,221171930,840169241,228420685⟩:=aA adB (show aF 25=2821834349 by kernel_rfl) UH (by kernel_rfl)
theorem adD:rounds iv (wf cu) aF 27=⟨3774588913,304683835,1517848001,3141410882,1489016895,2470414031,221171930,840169241⟩:=aA adC (show aF 26=2952996808 by kernel_rfl) UJ (by kernel_rfl)
theorem adE:rounds iv (wf cu) aF 28=⟨1804593403,3774588913,304683835,1517848001,723933098,1489016895,2470414031,221171930⟩:=aA adD (show aF 27=3210313671 by kernel_rfl) UK (by kernel_rfl)
theorem adF:rounds iv (wf cu) aF 29=⟨207827124,1804593403,3774588913,304683835,1637138059,723933098,1489016895,2470414031⟩:=aA adE (show aF 28=3336571891 by kernel_rfl) UL (by kernel_rfl)
theorem adG:rounds iv (wf cu) aF 30=⟨790192558,207827124,1804593403,3774588913,3453770995,1637138059,723933098,1489016895⟩:=aA adF (show aF 29=3584528711 by kernel_rfl) UM (by kernel_rfl)
theorem adH:rounds iv (wf cu) aF 31=⟨4418159,790192558,207827124,1804593403,3473021318,3453770995,1637138059,723933098⟩:=aA adG (show aF 30=113926993 by kernel_rfl) UN (by kernel_rfl)
theorem adI:rounds iv (wf cu) aF 32=⟨267308018,4418159,790192558,207827124,3497652158,3473021318,3453770995,1637138059⟩:=aA adH (show aF 31=338241895 by kernel_rfl) UO (by kernel_rfl)
theorem adJ:rounds iv (wf cu) aF 33=⟨2756342324,267308018,4418159,790192558,975057221,3497652158,3473021318,3453770995⟩:=aA adI (show aF 32=666307205 by kernel_rfl) UQ (by kernel_rfl)
theorem adK:rounds iv (wf cu) aF 34=⟨38388289,2756342324,267308018,4418159,2610515242,975057221,3497652158,3473021318⟩:=aA adJ (show aF 33=773529912 by kernel_rfl) UR (by kernel_rfl)
theorem adL:rounds iv (wf cu) aF 35=⟨2866119168,38388289,2756342324,267308018,792380200,2610515242,975057221,3497652158⟩:=aA adK (show aF 34=1294757372 by kernel_rfl) UU (by kernel_rfl)
theorem adM:rounds iv (wf cu) aF 36=⟨3883016565,2866119168,38388289,2756342324,3898537696,792380200,2610515242,975057221⟩:=aA adL (show aF 35=1396182291 by kernel_rfl) UW (by kernel_rfl)
theorem adN:rounds iv (wf cu) aF 37=⟨4112757436,3883016565,2866119168,38388289,1009139294,3898537696,792380200,2610515242⟩:=aA adM (show aF 36=1695183700 by kernel_rfl) UY (by kernel_rfl)
theorem adO:rounds iv (wf cu) aF 38=⟨1188593675,4112757436,3883016565,2866119168,994634162,1009139294,3898537696,792380200⟩:=aA adN (show aF 37=1986661051 by kernel_rfl) UZ (by kernel_rfl)
theorem adP:rounds iv (wf cu) aF 39=⟨2297800622,1188593675,4112757436,3883016565,2557234580,994634162,1009139294,3898537696⟩:=aA adO (show aF 38=2177026350 by kernel_rfl) U0 (by kernel_rfl)
theorem adQ:rounds iv (wf cu) aF 40=⟨2611923344,2297800622,1188593675,4112757436,1951904754,2557234580,994634162,1009139294⟩:=aA adP (show aF 39=2456956037 by kernel_rfl) U1 (by kernel_rfl)
theorem adR:rounds iv (wf cu) aF 41=⟨3983770346,2611923344,2297800622,1188593675,2253489824,1951904754,2557234580,994634162⟩:=aA adQ (show aF 40=2730485921 by kernel_rfl) U2 (by kernel_rfl)
theorem adS:rounds iv (wf cu) aF 42=⟨1436782,3983770346,2611923344,2297800622,1526122556,2253489824,1951904754,2557234580⟩:=aA adR (show aF 41=2820302411 by kernel_rfl) U3 (by kernel_rfl)
theorem adT:rounds iv (wf cu) aF 43=⟨3550778174,1436782,3983770346,2611923344,513650254,1526122556,2253489824,1951904754⟩:=aA adS (show aF 42=3259730800 by kernel_rfl) U4 (by kernel_rfl)
theorem adU:rounds iv (wf cu) aF 44=⟨4268864469,3550778174,1436782,3983770346,429373522,513650254,1526122556,2253489824⟩:=aA adT (show aF 43=3345764771 by kernel_rfl) U5 (by kernel_rfl)
theorem adV:rounds iv (wf cu) aF 45=⟨3711481407,4268864469,3550778174,1436782,3497639210,429373522,513650254,1526122556⟩:=aA adU (show aF 44=3516065817 by kernel_rfl) U6 (by kernel_rfl)
theorem adW:rounds iv (wf cu) aF 46=⟨1160899978,3711481407,4268864469,3550778174,3249466235,3497639210,429373522,513650254⟩:=aA adV (show aF 45=3600352804 by kernel_rfl) U7 (by kernel_rfl)
theorem adX:rounds iv (wf cu) aF 47=⟨3721369680,1160899978,3711481407,4268864469,2577004534,3249466235,3497639210,429373522⟩:=aA adW (show aF 46=4094571909 by kernel_rfl) U8 (by kernel_rfl)
theorem adY:rounds iv (wf cu) aF 48=⟨2075183683,3721369680,1160899978,3711481407,3511973599,2577004534,3249466235,3497639210⟩:=aA adX (show aF 47=275423344 by kernel_rfl) U9 (by kernel_rfl)
theorem adZ:rounds iv (wf cu) aF 49=⟨3387532753,2075183683,3721369680,1160899978,4187074774,3511973599,2577004534,3249466235⟩:=aA adY (show aF 48=430227734 by kernel_rfl) XC (by kernel_rfl)
theorem ad1:rounds iv (wf cu) aF 50=⟨278252649,3387532753,2075183683,3721369680,2172309636,4187074774,3511973599,2577004534⟩:=aA adZ (show aF 49=506948616 by kernel_rfl) aav (by kernel_rfl)
theorem ad2:rounds iv (wf cu) aF 51=⟨1931468947,278252649,3387532753,2075183683,2262915244,2172309636,4187074774,3511973599⟩:=aA ad1 (show aF 50=659060556 by kernel_rfl) aaw (by kernel_rfl)
theorem ad3:rounds iv (wf cu) aF 52=⟨310877002,1931468947,278252649,3387532753,2495370149,2262915244,2172309636,4187074774⟩:=aA ad2 (show aF 51=883997877 by kernel_rfl) aax (by kernel_rfl)
theorem ad4:rounds iv (wf cu) aF 53=⟨3114773515,310877002,1931468947,278252649,811413229,2495370149,2262915244,2172309636⟩:=aA ad3 (show aF 52=958139571 by kernel_rfl) aay (by kernel_rfl)
theorem ad5:rounds iv (wf cu) aF 54=⟨1054192414,3114773515,310877002,1931468947,190828195,811413229,2495370149,2262915244⟩:=aA ad4 (show aF 53=1322822218 by kernel_rfl) aaz (by kernel_rfl)
theorem ad6:rounds iv (wf cu) aF 55=⟨910597554,1054192414,3114773515,310877002,760602794,190828195,811413229,2495370149⟩:=aA ad5 (show aF 54=1537002063 by kernel_rfl) aaA (by kernel_rfl)
theorem ad7:rounds iv (wf cu) aF 56=⟨3213535570,910597554,1054192414,3114773515,416524801,760602794,190828195,811413229⟩:=aA ad6 (show aF 55=1747873779 by kernel_rfl) aaB (by kernel_rfl)
theorem ad8:rounds iv (wf cu) aF 57=⟨3844376159,3213535570,910597554,1054192414,2419285081,416524801,760602794,190828195⟩:=aA ad7 (show aF 56=1955562222 by kernel_rfl) aaC (by kernel_rfl)
theorem ad9:rounds iv (wf cu) aF 58=⟨2395999183,3844376159,3213535570,910597554,3169827444,2419285081,416524801,760602794⟩:=aA ad8 (show aF 57=2024104815 by kernel_rfl) acg (by kernel_rfl)
theorem aea:rounds iv (wf cu) aF 59=⟨3589611270,2395999183,3844376159,3213535570,1590945553,3169827444,2419285081,416524801⟩:=aA ad9 (show aF 58=2227730452 by kernel_rfl) ach (by kernel_rfl)
theorem aeb:rounds iv (wf cu) aF 60=⟨3238948289,3589611270,2395999183,3844376159,560796806,1590945553,3169827444,2419285081⟩:=aA aea (show aF 59=2361852424 by kernel_rfl) aci (by kernel_rfl)
theorem aec:rounds iv (wf cu) aF 61=⟨3865706718,3238948289,3589611270,2395999183,3720340335,560796806,1590945553,3169827444⟩:=aA aeb (show aF 60=2428436474 by kernel_rfl) acj (by kernel_rfl)
theorem aed:rounds iv (wf cu) aF 62=⟨2859303090,3865706718,3238948289,3589611270,1549841853,3720340335,560796806,1590945553⟩:=aA aec (show aF 61=2756734187 by kernel_rfl) acn (by kernel_rfl)
theorem aee:rounds iv (wf cu) aF 63=⟨1799544637,2859303090,3865706718,3238948289,1170015112,1549841853,3720340335,560796806⟩:=aA aed (show aF 62=3204031479 by kernel_rfl) aeg (by kernel_rfl)
theorem aef:rounds iv (wf cu) aF 64=⟨1346216523,1799544637,2859303090,3865706718,2124052186,1170015112,1549841853,3720340335⟩:=aA aee (show aF 63=3329325298 by kernel_rfl) aeh (by kernel_rfl)
theorem PW:(qE green).length=64:=by kernel_rfl
theorem Tq:nb green=1:=by rw[nb,PW]
theorem K7:gT aF green 1=⟨3125250226,648711618,3873207332,2344220184,3483945305,3770838036,2078576488,966832264⟩:=by
 rw[gT,gT,show rounds iv (wf (blk green 0)) aF 64=_ from aef]
 kernel_rfl
theorem JE:short aF green=[98,97,52,55,56,56,98,50,50,54,97,97,56,100,99,50]:=by
 rw[short,Tq,K7]
 kernel_rfl
section
open Go.RowKit
open Hv (S Dk)
structure Base (w:World):Prop where
 size:12≤w.heap.size
 mx:∃ m,w.cell? ⟨3,0,none⟩=some (.int .i64 m)
 rounds:∀ i:Nat,i<64→w.cell? ⟨4,i,none⟩=some (.int .u32 (aF i))
 pow:Lib.TabIs Tryz.prog w "internal/strconv.uint64pow10" .u64 Lib.pow10Tab
theorem Base.of {w w':World} (h:Base w) (hs:w.heap.size≤w'.heap.size) (hb:∀ k,k<12→w'.heap[k]? = w.heap[k]?):Base w':=by
 refine ⟨Nat.le_trans h.size hs,?_,fun i hi => ?_,?_⟩
 · obtain ⟨m,hm⟩:=h.mx
   exact ⟨m,(World.cell?_of_block (a:=⟨3,0,none⟩) (hb _ (by decide))).trans hm⟩
 · exact (World.cell?_of_block (a:=⟨4,i,none⟩) (hb 4 (by decide))).trans (h.rounds i hi)
 · have h2:=h.pow
   have hg:Tryz.prog.globalNamed "internal/strconv.uint64pow10" = some 5:=by kernel_rfl
   unfold Lib.TabIs World.var? at h2 ⊢
   rw[hg] at h2 ⊢
   simp only[Option.bind_some] at h2 ⊢
   rw[hb _ (by decide)]
   exact h2
theorem Base.below {B:Nat} {w w':World} (h:Base w) (hb:Below B w w') (hB:12≤B):Base w':=h.of hb.size fun k hk=>hb.block k (by omega)
theorem Base.far {B:Nat} {C:Nat→Prop} {w w':World} (h:Base w) (hf:aQ B C w w') (hB:12≤B) (hC:∀ k,C k→12≤k):Base w':=h.of hf.size fun k hk=>hf.block k (by omega) (fun q=>by have:=hC k q;omega)
theorem Base.alloc {w:World} (h:Base w) (o:Obj):Base (w.alloc o):=h.below ((Below.refl _ w).alloc (Nat.le_refl _) o) h.size
theorem Base.drew {w:World} (h:Base w):Base w.drew:=h.below ((Below.refl w.heap.size w).drew) h.size
theorem K5 (w:World) (k:Nat) (os:Array Obj):Below w.heap.size w (Sort.grow (w.drewN k) os):=by
 refine ⟨rfl,rfl,rfl,?_,fun i hi => ?_⟩
 · show w.heap.size≤(w.heap++os).size
   simp
 · show (w.heap++os)[i]? = w.heap[i]?
   exact Array.getElem?_append_left hi
theorem lX (n:Int) (h0 : -9223372036854775808≤n) (h1:n≤9223372036854775807) (w:World) (hb:Base w) :
   Calls Tryz.prog 76 #[.int .i64 n] w fun e w'=>e = .returned (.string ⟨(Lib.itoa n).toArray⟩)∧Below w.heap.size w w':=by
 refine (Tryz.strconv_Itoa n h0 h1 w hb.pow).mono ?_
 rintro e w' ⟨rfl,k,os,rfl⟩
 exact ⟨rfl,K5 w k os⟩
theorem F8 (n:Nat) (hn:n≤1000000) (w:World) (hb:Base w) :
   Calls Tryz.prog 149 #[.int .i64 n] w fun e w'=>∃ x:S,e = .returned (.string ⟨x.toArray⟩)∧Below w.heap.size w w':=by
 have HB:=hide hb
 clear hb
 go_enter Tryz.func149,Tryz.ntmps149
 go_wp2_with fail
 refine (lX n (by omega) (by omega) w HB.out).mono ?_
 rintro e w1 ⟨rfl,hb1⟩
 have HB1:=hide hb1
 have hl:=Lib.itoa_length_le n (by omega) (by omega)
 obtain ⟨z,hz⟩:∃ z,Lib.itoa n=z:=⟨_,rfl⟩
 rw[hz] at hl ⊢
 clear hb1 hz
 go_wp2_with fail
 go_ret
 exact ⟨_,rfl,HB1.out⟩
def jC (x:S):S:=x++List.replicate (256-x.length) 0
theorem sK:∀ c:Nat,Lib.repeatL [0] c=List.replicate c 0
 | 0=>rfl
 | c+1=>by rw[Lib.repeatL,sK c];rfl
theorem PU (x:S):((⟨x.toArray⟩:ByteArray)++⟨Array.replicate (256-x.length) 0⟩)=⟨(jC x).toArray⟩:=by
 apply nT
 simp[jC,ByteArray.data_append]
theorem noughts (c:Nat) (hc:c≤256) (w:World):Calls Tryz.prog 193 #[.string ⟨#[0]⟩, .int .i64 c] w fun e w'=>e = .returned (.string ⟨(List.replicate c (0:UInt8)).toArray⟩)∧Below w.heap.size w w':=by
 refine (Tryz.strings_Repeat ⟨#[0]⟩ c w (by omega) (by show 1*c≤_;omega)).mono ?_
 rintro e w' ⟨rfl,hb⟩
 have:Lib.repeatL (ByteArray.mk #[0]).data.toList c=List.replicate c 0:=sK c
 rw[this]
 exact ⟨rfl,hb⟩
theorem KM {C:Nat→Prop} {db m a b r n:Nat} {d:Dk} (x:S) (hn:n<d.now.length) (hmb:(d.may.getD n []).length≤1000000) (kP:d.wr+1<4611686018427387904) (w:World) (h:bI C db d w)
   (ha:w.heap[a]? = some (.cells (gJ db m) 110 (0,0))) (hb:w.heap[b]? = some (.cells #[.int .i64 n] 3 (0,0))) (hr:w.heap[r]? = some (.cells #[.string ⟨x.toArray⟩] 9 (0,0))) :
   Calls Tryz.prog 194 #[.pointer (some ⟨a,0,none⟩), .pointer (some ⟨b,0,none⟩), .pointer (some ⟨r,0,none⟩)] w fun e w'=>e = .returned (.int .i64 0)∧∃ C',bI C' db (d.write n x) w'∧aQ w.heap.size C w w'∧∀ k,C' k→C k∨w.heap.size≤k:=by
 have HD:=hide h
 have a0:=(ah ha 0).trans (show _=some (.iface 23 (.pointer (some ⟨db,0,none⟩))) from rfl)
 have b0:=(ah hb 0).trans (show _=some (.int .i64 n) from rfl)
 have r0:=(ah hr 0).trans (show _=some (.string ⟨x.toArray⟩) from rfl)
 have hm:=LM db
 clear h ha hb hr
 go_enter Tryz.func194,Tryz.ntmps194
 go_wp2_with (go_at_call 338;refine (KR n hn x hmb kP _ HD.out).mono ?_;rintro e w1 ⟨C',rfl,hd1,hf1,hc1⟩;have HD1:=hide hd1;have eO:=hide hf1;have zP:=hide hc1;clear hd1 hf1 hc1)
 go_ret
 exact ⟨rfl,_,HD1.out,eO.out,zP.out⟩
theorem D6 {C:Nat→Prop} {db m n:Nat} {d:Dk} (x:S) (hx:x.length≤256) (hn:n<d.now.length) (hn2:n≤1000000) (hmb:(d.may.getD n []).length≤1000000) (kP:d.wr+1<4611686018427387904) (w:World) (h:bI C db d w) (hbase:Base w) (qm:∀ k,C k→12≤k) :
   Calls Tryz.prog 140 #[.agg (gJ db m), .int .i64 n, .string ⟨x.toArray⟩] w fun e w'=>e = .returned .nilIface∧∃ C',bI C' db (d.write n (jC x)) w'∧aQ w.heap.size C w w'∧∀ k,C' k→C k∨w.heap.size≤k:=by
 have HD:=hide h
 have iT:=hide hbase
 have oF:=hide qm
 have e1:(256:Int)-(x.length:Int)=((256-x.length:Nat):Int):=by omega
 have hlt:=hide h.lt
 clear h hbase qm
 go_enter Tryz.func140,Tryz.ntmps140
 go_wp2_with fail
 refine (noughts (256-x.length) (by omega) _).mono ?_
 rintro e w1 ⟨rfl,hb1⟩
 have ha:=(hb1.block w.heap.size (by simp;omega)).trans ((Below.heap_alloc _ _ _ (by simp)).trans (heap_alloc_new w (.cells (gJ db m) 110)))
 have hb:=(hb1.block (w.heap.size+1) (by simp)).trans (show ((w.alloc (.cells (gJ db m) 110)).alloc (.cells #[.int .i64 n] 3)).heap[w.heap.size+1]? = some (.cells #[.int .i64 n] 3 (0,0)) by
   have:=heap_alloc_new (w.alloc (.cells (gJ db m) 110)) (.cells #[.int .i64 n] 3)
   simpa using this)
 have hs1:w.heap.size+2≤w1.heap.size:=by have:=hb1.size;simp at this;omega
 have eO:=hide (((((aQ.refl w.heap.size C w).alloc (Nat.le_refl _) (.cells (gJ db m) 110)).alloc (by simp) (.cells #[.int .i64 n] 3))).below hb1 (by simp;omega))
 have HD1:=hide (((HD.out.alloc (.cells (gJ db m) 110)).alloc (.cells #[.int .i64 n] 3)).below hb1)
 have fC:=hide (((iT.out.alloc (.cells (gJ db m) 110)).alloc (.cells #[.int .i64 n] 3)).below hb1 (by simp;have:=iT.out.size;omega))
 have hl:x.length+(256-x.length)=256:=by omega
 clear hb1
 go_wp2_with fail
 rw[PU]
 have hr:=heap_alloc_new w1 (.cells #[.string ⟨(jC x).toArray⟩] 9)
 have ha2:=(Below.heap_alloc w1 (.cells #[.string ⟨(jC x).toArray⟩] 9) w.heap.size (by omega)).trans ha
 have hb2:=(Below.heap_alloc w1 (.cells #[.string ⟨(jC x).toArray⟩] 9) (w.heap.size+1) (by omega)).trans hb
 refine (Uo 194 _ _ _ Dj [87,114,105,116,101] _ _ (KM (jC x) hn hmb kP _ (HD1.out.alloc _) ha2 hb2 hr)).mono ?_
 rintro e w4 ⟨rfl,C',hd4,lF,hc4⟩
 have b4:=(ah ((lF.block (w.heap.size+1) (by simp;omega) (fun q=>by have:=hlt.out _ q;omega)).trans hb2) 0).trans (show _=some (.int .i64 n) from rfl)
 have hs4:=lF.size
 simp at hs4
 have sS:=hide ((eO.out.alloc (by omega) (.cells #[.string ⟨(jC x).toArray⟩] 9)).next lF (by simp;omega) (fun k _ hc=>hc))
 have HD4:=hide hd4
 have Ra:=hide (show ∀ k,C' k→C k∨w.heap.size≤k from fun k hk=>(hc4 k hk).imp id (fun q=>by simp at q;omega))
 have acs:=hide ((fC.out.alloc (.cells #[.string ⟨(jC x).toArray⟩] 9)).far lF (by simp;have:=fC.out.size;omega) oF.out)
 clear ha hb hr ha2 hb2 hd4 lF hc4
 go_wp2_with fail
 refine (F8 n hn2 _ acs.out).mono ?_
 rintro e w5 ⟨z,rfl,hb5⟩
 have kN:=hide hb5
 clear hb5
 go_wp2_with fail
 refine (J7 z _).mono ?_
 rintro e w6 ⟨rfl,rfl⟩
 go_wp2_with fail
 go_ret
 exact ⟨rfl,C',HD4.out.below kN.out,sS.out.below kN.out (by omega),Ra.out⟩
theorem QB {C:Nat→Prop} {db:Nat} {d:Dk} (nm:S) (w:World) (h:bI C db d w) :
   Calls Tryz.prog 147 #[.string ⟨nm.toArray⟩, .func (.method "Flush") #[.iface 23 (.pointer (some ⟨db,0,none⟩))] #[]] w fun e w'=>e = .returned .nilIface∧bI C db d.flush w'∧aQ w.heap.size C w w':=by
 have HD:=hide h
 have hm:=LK db
 clear h
 go_enter Tryz.func147,Tryz.ntmps147
 go_wp2_with fail
 refine (KQ w HD.out).mono ?_
 rintro e w1 ⟨rfl,hd1,hf1⟩
 have HD1:=hide hd1;have eO:=hide hf1
 clear hd1 hf1
 go_wp2_with fail
 go_loop [5,6] (fun y i=>y = .int .i64 0∧i = .int .i64 0) (fun _ _=>0)
 case atStart=>exact ⟨rfl,rfl⟩
 case round =>
   obtain ⟨rfl,rfl⟩:=hrel
   go_wp2_with fail
   go_ret
   exact ⟨rfl,HD1.out,eO.out⟩
theorem qX {C:Nat→Prop} {db m:Nat} {d:Dk} (w:World) (h:bI C db d w) :
   Calls Tryz.prog 83 #[.agg (gJ db m)] w fun e w'=>e = .returned .nilIface∧bI C db d.flush w'∧aQ w.heap.size C w w':=by
 have HD:=hide h
 clear h
 unfold gJ
 go_enter Tryz.func83,Tryz.ntmps83
 go_wp2_with fail
 refine (QB [70,108,117,115,104] _ (HD.out.alloc _)).mono ?_
 rintro e w1 ⟨rfl,hd1,hf1⟩
 have HD1:=hide hd1;have eO:=hide (((aQ.refl w.heap.size C w).alloc (Nat.le_refl _) (.cells (gJ db m) 110)).next hf1 (by simp) (fun k _ hc=>hc))
 clear hd1 hf1
 go_wp2_with fail
 go_ret
 exact ⟨rfl,HD1.out,eO.out⟩
def iG (a b c:Nat) (h:S):S:=[104,97,118,101,110,32,115,116,111,114,101,32,49,10]++(Lib.itoa a++([32]++(Lib.itoa b++([32]++(Lib.itoa c++([32]++h))))))++[10]
def dX (a b c:Nat) (h:S):Array Value := #[.int .i64 a, .int .i64 b, .int .i64 c, .string ⟨h.toArray⟩]
theorem Ce (half:Nat) (x:S) (hx:x.length≤1000000) (w:World) (hb:Base w) :
   Calls Tryz.prog 74 #[.int .i64 half, .string ⟨x.toArray⟩] w fun e w'=>e = .returned (.agg (dX half x.length 0 (short aF x)))∧Below w.heap.size w w':=by
 have HB:=hide hb
 clear hb
 go_enter Tryz.func74,Tryz.ntmps74
 go_wp2_with fail
 have hB1:=HB.out.alloc (.cells #[.int .i64 0, .int .i64 0, .int .i64 0, .string ⟨#[]⟩] 146)
 refine (xP x hx aF _ (by have:=hB1.size;omega) hB1.rounds).mono ?_
 rintro e w1 ⟨rfl,hb1⟩
 have hrow:=(hb1.block w.heap.size (by simp)).trans (heap_alloc_new w (.cells #[.int .i64 0, .int .i64 0, .int .i64 0, .string ⟨#[]⟩] 146))
 have HB1:=hide (((Below.refl w.heap.size w).alloc (Nat.le_refl _) (.cells #[.int .i64 0, .int .i64 0, .int .i64 0, .string ⟨#[]⟩] 146)).trans (hb1.mono (by simp)))
 have c0:=(ah hrow 0).trans (show _=some (.int .i64 0) from rfl)
 have c1:=(ah hrow 1).trans (show _=some (.int .i64 0) from rfl)
 have c2:=(ah hrow 2).trans (show _=some (.int .i64 0) from rfl)
 have c3:=(ah hrow 3).trans (show _=some (.string ⟨#[]⟩) from rfl)
 have f0:=ak hrow 0
 have f1:=ak hrow 1
 have f2:=ak hrow 2
 have f3:=ak hrow 3
 obtain ⟨z,hz⟩:∃ z,short aF x=z:=⟨_,rfl⟩
 have zW:=heap_setCell_same _ w.heap.size 3 _ _ (.string ⟨z.toArray⟩) (heap_setCell_same _ w.heap.size 2 _ _ (.int .i64 0) (heap_setCell_same _ w.heap.size 1 _ _ (.int .i64 x.length) (heap_setCell_same _ w.heap.size 0 _ _ (.int .i64 half) hrow)))
 have q0:=(ah zW 0).trans (show _=some (.int .i64 half) from rfl)
 have q1:=(ah zW 1).trans (show _=some (.int .i64 x.length) from rfl)
 have q2:=(ah zW 2).trans (show _=some (.int .i64 0) from rfl)
 have q3:=(ah zW 3).trans (show _=some (.string ⟨z.toArray⟩) from rfl)
 have HZ:=hide hz
 rw[hz]
 clear hb1 hrow hB1 hz zW
 go_wp2_with fail
 refine bodyPost_ret (v := .agg #[.int .i64 half, .int .i64 x.length, .int .i64 0, .string ⟨z.toArray⟩]) (by simp[results,Tryz.results74,go_sem,q0,q1,q2,q3]) rfl ⟨by rw[HZ.out];rfl,?_⟩
 exact (((HB1.out.setCell (Nat.le_refl _) _).setCell (Nat.le_refl _) _).setCell (Nat.le_refl _) _).setCell (Nat.le_refl _) _
theorem Pm (x y z h:S) (hx:x.length≤21) (hy:y.length≤21) (hz:z.length≤21) (hh:h.length≤100) (w:World) :
   Calls Tryz.prog 196 #[.slice (some ⟨w.heap.size,0,none⟩) 4 4, .string ⟨#[32]⟩] (w.alloc (.cells #[.string ⟨x.toArray⟩, .string ⟨y.toArray⟩, .string ⟨z.toArray⟩, .string ⟨h.toArray⟩] 9)) fun e w'=>∃ J:S,x++([32]++(y++([32]++(z++([32]++h)))))=J∧J.length≤200∧e = .returned (.string ⟨J.toArray⟩)∧Below w.heap.size w w':=by
 have hrow:=heap_alloc_new w (.cells #[.string ⟨x.toArray⟩, .string ⟨y.toArray⟩, .string ⟨z.toArray⟩, .string ⟨h.toArray⟩] 9)
 have hJ:Lib.join ([⟨x.toArray⟩,⟨y.toArray⟩,⟨z.toArray⟩,⟨h.toArray⟩].map (fun b:ByteArray=>b.data.toList)) [32]=x++([32]++(y++([32]++(z++([32]++h))))):=by
   simp[Lib.join]
 refine (Tryz.strings_Join w.heap.size 0 4 [⟨x.toArray⟩,⟨y.toArray⟩,⟨z.toArray⟩,⟨h.toArray⟩] ⟨#[32]⟩ _ (fun j v hv => ?_) (by simp) (by simp) (by simp) ?_).mono ?_
 · rcases (show j=0∨j=1∨j=2∨j=3 by have:=(List.getElem?_eq_some_iff.1 hv).1;simp at this;omega) with rfl | rfl | rfl | rfl<;>simp at hv<;>subst hv
   · exact (ah hrow 0).trans rfl
   · exact (ah hrow 1).trans rfl
   · exact (ah hrow 2).trans rfl
   · exact (ah hrow 3).trans rfl
 · show (Lib.join _ [32]).length≤_
   rw[hJ]
   simp;omega
 · rintro e w' ⟨rfl,hb⟩
   refine ⟨_,rfl,by simp;omega,?_,((Below.refl w.heap.size w).alloc (Nat.le_refl _) _).trans (hb.mono (by simp))⟩
   rw[show Lib.join _ (ByteArray.mk #[32]).data.toList=_ from hJ]
theorem fu {w:World} {B a b c:Nat} {h:S} (hr:w.heap[B]? = some (.cells (dX a b c h) 146 (0,0))):w.cell? ⟨B,0,none⟩=some (.int .i64 a)∧w.cell? ⟨B,1,none⟩=some (.int .i64 b)∧w.cell? ⟨B,2,none⟩=some (.int .i64 c)∧w.cell? ⟨B,3,none⟩=some (.string ⟨h.toArray⟩) :=
 ⟨(ah hr 0).trans rfl,(ah hr 1).trans rfl,(ah hr 2).trans rfl,(ah hr 3).trans rfl⟩
theorem Bc (a b c:Nat) (h:S) (ha:a≤4000000000) (hb:b≤4000000000) (hc:c≤4000000000) (hh:h.length≤100) (w:World) (hbs:Base w) :
   Calls Tryz.prog 142 #[.agg (dX a b c h)] w fun e w'=>e = .returned (.string ⟨(iG a b c h).toArray⟩)∧Below w.heap.size w w':=by
 have iT:=hide hbs
 clear hbs
 go_enter Tryz.func142,Tryz.ntmps142
 go_wp2_with fail
 have hrow:=heap_alloc_new w (.cells (dX a b c h) 146)
 have HB0:=hide ((Below.refl w.heap.size w).alloc (Nat.le_refl _) (.cells (dX a b c h) 146))
 have wO:=hide (iT.out.alloc (.cells (dX a b c h) 146))
 obtain ⟨B,hB⟩:∃ B,w.heap.size=B:=⟨_,rfl⟩
 obtain ⟨u,hu⟩:∃ u,w.alloc (.cells (dX a b c h) 146)=u:=⟨_,rfl⟩
 have hBu:B<u.heap.size:=by rw[← hu,← hB];simp
 rw[hu] at hrow HB0 wO ⊢
 rw[hB] at hrow ⊢
 have c0:=(ah hrow 0).trans (show _=some (.int .i64 a) from rfl)
 have c1:=(ah hrow 1).trans (show _=some (.int .i64 b) from rfl)
 have c2:=(ah hrow 2).trans (show _=some (.int .i64 c) from rfl)
 have c3:=(ah hrow 3).trans (show _=some (.string ⟨h.toArray⟩) from rfl)
 have la:=Lib.itoa_length_le a (by omega) (by omega)
 have lb:=Lib.itoa_length_le b (by omega) (by omega)
 have lc:=Lib.itoa_length_le c (by omega) (by omega)
 have HX:=hide (show ∀ x y z:S,Lib.itoa a=x→Lib.itoa b=y→Lib.itoa c=z→iG a b c h=[104,97,118,101,110,32,115,116,111,114,101,32,49,10]++(x++([32]++(y++([32]++(z++([32]++h))))))++[10] from fun x y z e1 e2 e3=>by subst e1;subst e2;subst e3;rfl)
 have H0:=hide hrow
 clear hu hrow iT
 go_region_held3 (fun w'=>w'.cell? ⟨B,0,none⟩=some (.int .i64 a)∧w'.cell? ⟨B,1,none⟩=some (.int .i64 b)∧w'.cell? ⟨B,2,none⟩=some (.int .i64 c)∧w'.cell? ⟨B,3,none⟩=some (.string ⟨h.toArray⟩))
   (first | assumption | exact fu H5.out | exact fu H4.out | exact fu H3.out | exact fu H2.out | exact fu H1.out | exact ⟨c0,c1,c2,c3⟩ | simp[go_sem, *])
   (first
     | (go_at_call_of 76 (Value.int .i64 a);refine (lX a (by omega) (by omega) _ (wO.out.drew)).mono ?_;rintro e w1 ⟨rfl,hb1⟩;have H1:=hide ((hb1.block B (by simpa using hBu)).trans H0.out);have fC:=hide (wO.out.drew.below hb1 (by have:=wO.out.size;simpa using this));have HB1:=hide (HB0.out.drew.trans (hb1.mono HB0.out.size));have hB1:B<w1.heap.size:=lt_of_block H1.out;clear hb1)
     | (go_at_call_of 76 (Value.int .i64 b);refine (lX b (by omega) (by omega) _ (fC.out)).mono ?_;rintro e w2 ⟨rfl,hb2⟩;have H2:=hide ((hb2.block B hB1).trans H1.out);have zx:=hide (fC.out.below hb2 fC.out.size);have HB2:=hide (HB1.out.trans (hb2.mono HB1.out.size));have hB2:B<w2.heap.size:=lt_of_block H2.out;clear hb2)
     | (go_at_call_of 76 (Value.int .i64 c);refine (lX c (by omega) (by omega) _ (zx.out)).mono ?_;rintro e w3 ⟨rfl,hb3⟩;have H3:=hide ((hb3.block B hB2).trans H2.out);have HB3:=hide (HB2.out.trans (hb3.mono HB2.out.size));have hB3:B<w3.heap.size:=lt_of_block H3.out;clear hb3)
     | (go_at_call 196;refine (Pm (Lib.itoa a) (Lib.itoa b) (Lib.itoa c) h la lb lc hh w3).mono ?_;rintro e w4 ⟨J,hJ,lJ,rfl,hb4⟩;have H4:=hide ((hb4.block B hB3).trans H3.out);have iI:=hide (HB3.out.trans (hb4.mono HB3.out.size));have HJ:=hide hJ;have j1 : ¬ 9223372036854775807<14+J.length:=(by omega);have j2 : ¬ 9223372036854775807<14+J.length+1:=(by omega);clear hb4 hJ))
 go_wp2_with fail
 go_ret
 refine ⟨?_,iI.out⟩
 rw[HX.out _ _ _ rfl rfl rfl,← HJ.out]
 congr 2
def aY (sb db n a b c:Nat) (h:S) (w:World):Prop:=w.heap[sb]? = some (.cells #[.iface 23 (.pointer (some ⟨db,0,none⟩)), .int .i64 n, .int .i64 a, .int .i64 b, .int .i64 c, .string ⟨h.toArray⟩] 148 (0,0))
theorem aY.kept {sb db n a b c:Nat} {h:S} {w w':World} (hs:aY sb db n a b c h w) (hb:w'.heap[sb]? = w.heap[sb]?):aY sb db n a b c h w':=hb.trans hs
theorem aY.lt {sb db n a b c:Nat} {h:S} {w:World} (hs:aY sb db n a b c h w):sb<w.heap.size:=(Array.getElem?_eq_some_iff.1 hs).1
theorem aY.below {sb db n a b c:Nat} {h:S} {w w':World} (hs:aY sb db n a b c h w) (hb:Below w.heap.size w w'):aY sb db n a b c h w':=hs.kept (hb.block sb hs.lt)
theorem aY.far {sb db n a b c:Nat} {h:S} {C:Nat→Prop} {B:Nat} {w w':World} (hs:aY sb db n a b c h w) (hf:aQ B C w w') (hB:w.heap.size≤B) (hC : ¬ C sb):aY sb db n a b c h w':=hs.kept (hf.block sb (by have:=hs.lt;omega) hC)
theorem aY.cells {sb db n a b c:Nat} {h:S} {w:World} (hs:aY sb db n a b c h w):w.cell? ⟨sb,0,none⟩=some (.iface 23 (.pointer (some ⟨db,0,none⟩)))∧w.cell? ⟨sb,1,none⟩=some (.int .i64 n)∧w.cell? ⟨sb,2,none⟩=some (.int .i64 a)∧w.cell? ⟨sb,3,none⟩=some (.int .i64 b)∧w.cell? ⟨sb,4,none⟩=some (.int .i64 c)∧w.cell? ⟨sb,5,none⟩=some (.string ⟨h.toArray⟩) :=
 ⟨(ah hs 0).trans rfl,(ah hs 1).trans rfl,(ah hs 2).trans rfl,(ah hs 3).trans rfl,(ah hs 4).trans rfl,(ah hs 5).trans rfl⟩
theorem Cj (sb db n a b c:Nat) (h:S) (hn:1≤n) (hn2:n≤1000000) (w:World) (hs:aY sb db n a b c h w) :
   Calls Tryz.prog 86 #[.pointer (some ⟨sb,0,none⟩)] w fun e w'=>e = .returned (.int .i64 ((n-1) / 2:Nat))∧Below w.heap.size w w':=by
 obtain ⟨c0,c1, -⟩:=hs.cells
 have e1:(n:Int)-1=((n-1:Nat):Int):=by omega
 have e2:(((n-1:Nat):Int)).tdiv 2=(((n-1) / 2:Nat):Int):=rfl
 clear hs
 go_enter Tryz.func86,Tryz.ntmps86
 go_wp2_with fail
 refine (yI db n w).mono ?_
 rintro e w1 ⟨rfl,hb1⟩
 have HB1:=hide hb1
 clear hb1
 go_wp2_with fail
 go_ret
 exact ⟨rfl,HB1.out⟩
theorem zn (sb db n a b c half:Nat) (h:S) (hn:1≤n) (hn2:n≤1000000) (hh:half≤1) (w:World) (hs:aY sb db n a b c h w) :
   Calls Tryz.prog 139 #[.pointer (some ⟨sb,0,none⟩), .int .i64 half] w fun e w'=>e = .returned (.int .i64 (1+half*((n-1) / 2):Nat))∧Below w.heap.size w w':=by
 have HS:=hide hs
 clear hs
 go_enter Tryz.func139,Tryz.ntmps139
 go_wp2_with fail
 refine (Cj sb db n a b c h hn hn2 w HS.out).mono ?_
 rintro e w1 ⟨rfl,hb1⟩
 have HB1:=hide hb1
 obtain ⟨q,hq⟩:∃ q,(n-1) / 2=q:=⟨_,rfl⟩
 have hq2:q≤1000000:=by omega
 rw[hq]
 have HQ:=hide hq
 clear hb1 hq
 rcases (show half=0∨half=1 by omega) with rfl | rfl
 · go_wp2_with fail
   go_ret
   exact ⟨by rw[HQ.out];simp,HB1.out⟩
 · go_wp2_with fail
   go_ret
   exact ⟨by rw[HQ.out];simp,HB1.out⟩
theorem Ey (a b c:Nat) (h:S) (ha:a≤4000000000) (hb:b≤4000000000) (hc:c≤4000000000) (hh:h.length≤100):(iG a b c h).length≤256:=by
 have la:=Lib.itoa_length_le a (by omega) (by omega)
 have lb:=Lib.itoa_length_le b (by omega) (by omega)
 have lc:=Lib.itoa_length_le c (by omega) (by omega)
 simp[iG]
 omega
theorem uM {C:Nat→Prop} {d:Dk} (sb db n a b c a' b' c':Nat) (h h':S) (ha:a'≤4000000000) (hb:b'≤4000000000) (hc:c'≤4000000000) (hh:h'.length≤100) (hn:0<d.now.length) (hmb:(d.may.getD 0 []).length≤1000000) (kP:d.wr+1<4611686018427387904)
   (w:World) (hs:aY sb db n a b c h w) (hd:bI C db d w) (QX : ¬ C sb) (hbs:Base w) (qm:∀ k,C k→12≤k) :
   Calls Tryz.prog 77 #[.pointer (some ⟨sb,0,none⟩), .agg (dX a' b' c' h')] w fun e w'=>e = .returned .nilIface∧∃ C',bI C' db ((d.write 0 (jC (iG a' b' c' h'))).flush) w'∧aY sb db n a' b' c' h' w'∧aQ w.heap.size (fun k=>C k∨k=sb) w w'∧∀ k,C' k→C k∨w.heap.size≤k:=by
 have HS:=hide hs;have HD:=hide hd;have iT:=hide hbs;have oF:=hide qm
 have YM:=hide (Ey a' b' c' h' ha hb hc hh)
 clear hs hd hbs qm
 go_enter Tryz.func77,Tryz.ntmps77
 go_wp2_with fail
 have hrow:=heap_alloc_new w (.cells (dX a' b' c' h') 146)
 have iV:=hide ((aQ.refl w.heap.size C w).alloc (Nat.le_refl _) (.cells (dX a' b' c' h') 146))
 have wO:=hide (iT.out.alloc (.cells (dX a' b' c' h') 146))
 have Gj:=hide (show aY sb db n a b c h (w.alloc (.cells (dX a' b' c' h') 146)) from HS.out.below ((Below.refl w.heap.size w).alloc (Nat.le_refl _) _))
 have HD0:=hide (HD.out.alloc (.cells (dX a' b' c' h') 146))
 have hsl:=HS.out.lt
 have ZG : ¬ C w.heap.size:=fun q=>by have:=HD.out.lt _ q;omega
 obtain ⟨B,hB⟩:∃ B,w.heap.size=B:=⟨_,rfl⟩
 obtain ⟨u,hu⟩:∃ u,w.alloc (.cells (dX a' b' c' h') 146)=u:=⟨_,rfl⟩
 have hBu:B<u.heap.size:=by rw[← hu,← hB];simp
 have HGB:=hide iT.out.size
 rw[hu] at hrow iV wO Gj HD0 ⊢
 rw[hB] at hrow iV hsl ZG HGB ⊢
 have H0:=hide hrow
 have c0:=fu hrow
 obtain ⟨s0,s1, -⟩:=Gj.out.cells
 clear hu hrow iT HS HD
 go_region_held3 (fun w'=>w'.cell? ⟨sb,0,none⟩=some (.iface 23 (.pointer (some ⟨db,0,none⟩)))∧w'.cell? ⟨sb,1,none⟩=some (.int .i64 n)∧w'.cell? ⟨B,0,none⟩=some (.int .i64 a')∧w'.cell? ⟨B,1,none⟩=some (.int .i64 b')∧w'.cell? ⟨B,2,none⟩=some (.int .i64 c')∧w'.cell? ⟨B,3,none⟩=some (.string ⟨h'.toArray⟩))
   (first | assumption | exact ⟨HS2.out.cells.1,HS2.out.cells.2.1,fu H2.out⟩ | exact ⟨kK.out.cells.1,kK.out.cells.2.1,fu H1.out⟩ | exact ⟨s0,s1,c0⟩ | simp[go_sem, *])
   (first
     | (go_at_call 142;refine (Bc a' b' c' h' ha hb hc hh _ wO.out.drew).mono ?_;rintro e w1 ⟨rfl,hb1⟩;have H1:=hide ((hb1.block B (by simpa using hBu)).trans H0.out);have kK:=hide (Gj.out.kept (hb1.block sb (by simp;omega)));have fC:=hide (wO.out.drew.below hb1 (by have:=wO.out.size;simpa using this));have HD1:=hide (HD0.out.drew.below hb1);have eO:=hide (iV.out.drew.below hb1 (by simp;omega));have hB1:B<w1.heap.size:=lt_of_block H1.out;clear hb1)
     | (go_at_call 140;refine (D6 (m:=n) (n:=0) (iG a' b' c' h') YM.out hn (by omega) hmb kP _ HD1.out fC.out oF.out).mono ?_;rintro e w2 ⟨rfl,C',hd2,hf2,hc2⟩;have H2:=hide ((hf2.block B hB1 ZG).trans H1.out);have HS2:=hide (kK.out.far hf2 (Nat.le_refl _) QX);have HD2:=hide hd2;have iU:=hide (eO.out.next hf2 (by omega) (fun _ _ q=>q));have jc:=hide (show ∀ k,C' k→C k∨B≤k from fun k hk=>(hc2 k hk).imp id (fun q=>by omega));clear hd2 hf2 hc2))
 have hC2 : ¬ C' sb:=fun q=>by
   rcases jc.out sb q with h | h
   · exact QX h
   · omega
 obtain ⟨p0,p1,p2,p3,p4,p5⟩:=HS2.out.cells
 have f2:=ak HS2.out 2
 have f3:=ak HS2.out 3
 have f4:=ak HS2.out 4
 have f5:=ak HS2.out 5
 have d0:=(fu H2.out).1
 have d1:=(fu H2.out).2.1
 have d2:=(fu H2.out).2.2.1
 have d3:=(fu H2.out).2.2.2
 have hS3:aY sb db n a' b' c' h' ((((w2.setCell ⟨sb,2,none⟩ (.int .i64 a')).setCell ⟨sb,3,none⟩ (.int .i64 b')).setCell ⟨sb,4,none⟩ (.int .i64 c')).setCell ⟨sb,5,none⟩ (.string ⟨h'.toArray⟩)) :=
   heap_setCell_same _ sb 5 _ _ _ (heap_setCell_same _ sb 4 _ _ _ (heap_setCell_same _ sb 3 _ _ _ (heap_setCell_same _ sb 2 _ _ _ HS2.out)))
 have HD3:=hide ((((HD2.out.set sb 2 hC2 (.int .i64 a')).set sb 3 hC2 (.int .i64 b')).set sb 4 hC2 (.int .i64 c')).set sb 5 hC2 (.string ⟨h'.toArray⟩))
 have mO:=hide (((((iU.out.mono (C':=fun k=>C k∨k=sb) (Nat.le_refl _) (fun _ _ q => .inl q)).setCell (p:=⟨sb,2,none⟩) (.inr (.inr rfl)) (.int .i64 a')).setCell (p:=⟨sb,3,none⟩) (.inr (.inr rfl)) (.int .i64 b')).setCell (p:=⟨sb,4,none⟩) (.inr (.inr rfl)) (.int .i64 c')).setCell (p:=⟨sb,5,none⟩) (.inr (.inr rfl)) (.string ⟨h'.toArray⟩))
 have Y2:=hide hS3
 clear hS3
 have hw2:B≤w2.heap.size:=by have:=iU.out.size;omega
 go_wp2_with fail
 refine (qX (m:=n) _ HD3.out).mono ?_
 rintro e w4 ⟨rfl,hd4,lF⟩
 have HD4:=hide hd4
 have HS4:=hide (Y2.out.far lF (Nat.le_refl _) hC2)
 have sS:=hide (mO.out.next lF (by simp;omega) (fun k hk q => .inl ((jc.out k q).resolve_right (by omega))))
 clear hd4 lF
 go_wp2_with fail
 go_ret
 rw[hB]
 exact ⟨rfl,C',HD4.out,HS4.out,sS.out,jc.out⟩
end
end Go.Proofs.YtialenebfcnkkaaGreatDoor
