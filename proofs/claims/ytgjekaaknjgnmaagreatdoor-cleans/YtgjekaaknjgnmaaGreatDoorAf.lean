import Derived.Test.YtgjekaaknjgnmaaGreatDoorAe
import Derived.BigQuiet
import Derived.Carry
import Derived.Conc.HoldsTime
import Derived.Deep.SlicePairs
import Derived.LaidLaws
import Derived.LaidMore
import Derived.MakeChecks
import Derived.MapKept
import Derived.Maps.AppendAt
import Derived.OpenShut
import Derived.Stop.Joined
import Derived.Test.YtgjekaaknjgnmaaGreatDoorCards
import Derived.Test.YtgjekaaknjgnmaaGreatDoorRows
import Derived.Test.YtgjekaaknjgnmaaGreatDoorTie
import Derived.WideMake
set_option linter.all false
set_option maxHeartbeats 32000000
set_option maxRecDepth 100000
namespace Go.Proofs.Kz
open Go.Proofs.Tryz
open Go.Proofs.Tryz renaming prog → ak
open _root_.ByteArray renaming empty → bF
open _root_.Option renaming some → so,none → we
open Go.Ren Go.Conc Go.Proofs Go.ConcN
section
variable {Fin:br}{o:aL}{w:ae}
def mA.lock{p:Option Addr}{Ru c bb:Nat}{rs:List aN}{NM:aN->List ag}{NB:aN->Nat}{w':ae}(h:mA o w p Ru c rs NM NB)(hO:nZ bb w w')(h1:Ru≠bb)(h2:∀r∈rs,NM r≠[]->NB r≠bb):mA o w' p Ru c rs NM NB :=
 h.keep (λ_ hb=>hb) (hO.2 _ h1) λr hr hn=>hO.2 _ (h2 r hr hn)
def Z9{w:ae}{b:Nat}{t:TypeId}{c0 c1 c2 c3 c4 c5 c6 c7:Value}(h:w.heap[b]?=so (.cells #[c0,c1,c2,c3,c4,c5,c6,c7] t))(x:Value):(w.setCell ⟨b,1,we⟩ x).heap[b]?=so (.cells #[c0,x,c2,c3,c4,c5,c6,c7] t)/\(w.setCell ⟨b,2,we⟩ x).heap[b]?=so (.cells #[c0,c1,x,c3,c4,c5,c6,c7] t):=by
 simp[World.setCell,aR,h]
structure tB(o:aL)(w:ae)(bb:Nat)(rs:List aN)(NM:aN->List ag)(blk:Value->Value->Value->Obj)(o':aL)(w':ae):Prop where
 bS:bJ ak L0 o' w'
 own:o'=grow o w w'
 size:w.heap.size<=w'.heap.size
 old:∀b,b<w.heap.size->b≠bb->w'.heap[b]?=w.heap[b]?
 lay:∃cB St Or cX sv y0 y1 y2,cB.Perm rs/\(∀i j (hi:i<cB.length) (hj:j<cB.length),i<j->¬rN cB[j] cB[i]<0)/\wS w.heap.size NM cB St Or cX sv (.agg #[y0,y1,y2]) w'/\w'.heap[bb]?=so (blk y0 y1 y2)
def TS(hF:bJ ak L0 o w)(bb bx Ru c:Nat)(p:Option Addr)(rs:List aN)(NM:aN->List ag)(NB:aN->Nat)(hR:mA o w p Ru c rs NM NB)(wU:o bb)(J0:o bx)(fu:bx≠bb)(Wk:Ru≠bb)(hNn:∀r∈rs,NM r≠[]->NB r≠bb)(c3 c4 c5 c6 c7:Value)(hb:w.heap[bb]?=so (Ls (.slice p rs.length c) (.int .u32 0) (.int .i32 0) c3 c4 c5 c6 c7))(hx:w.cell? ⟨bx,0,we⟩=so (.pointer (so ⟨bb,0,we⟩))):
  bC ak (XB ak Fin 0) 143 #[.pointer (so ⟨bb,1,we⟩),.func (.func 111) #[] #[.pointer (so ⟨bx,0,we⟩)]] o w λv o' w'=>v=.tuple #[]/\tB o w bb rs NM (λy0 y1 y2=>Ls (.slice p rs.length c) (.int .u32 1) (.int .i32 0) c3 y0 y1 y2 c7) o' w':=by
 have W:=bZ (P:=ak) (Fin:=Fin) (d:=0);refine Jt W func143 aG ?_;walk_nrmf Tryz.f143;obtain⟨-,d1,d2,-,-,-,-,-,fz⟩:=oP hb;refine aD ?_;refine dq func45 (ZS bb 2 wU d2 (fz 2)) ?_;rintro v1 o1 w1 ⟨rfl,rfl,rfl⟩;refine aD ?_;refine xL W (d:={target:=.fn (.func 46) #[],args:=#[.pointer (so ⟨bb,2,we⟩)]}) rfl aG (λw1=>iY) (λw1=>iY) rfl ?_;refine aD ?_;have Ev:=(Z9 hb (.int .i32 1)).2;have lS:bJ ak L0 o1 (w.setCell ⟨bb,2,we⟩ (.int .i32 1)):=Go.Conc.bJ.setCell hF lG;have pM:nZ bb w (w.setCell ⟨bb,2,we⟩ (.int .i32 1)):=AI _ _ _ _;generalize w.setCell ⟨bb,2,we⟩ (.int .i32 1)=w1 at *;refine dq func142 (xM bb 1 0 (oP Ev).2.1) ?_;rintro v2 o2 w2 ⟨rfl,rfl,rfl⟩;refine aD ?_;refine xL W (d:={target:=.fn (.func 183) #[],args:=#[.pointer (so ⟨bb,1,we⟩),.bool true]}) rfl aG (λw1=>iY) (λw1=>iY) rfl ?_;refine aD ?_;refine Mu W rfl aG rfl (cap:=#[.pointer (so ⟨bx,0,we⟩)]) ax func111 ah rfl ax rfl ((WA lS bb bx Ru c p rs NM NB (hR.lock pM Wk hNn) wU J0 (.int .u32 0) (.int .i32 1) c3 c4 c5 c6 c7 Ev ((cell_of (pM.2 _ fu)).trans hx)).mono ?_);rintro v3 o3 w3 ⟨rfl,vJ,y0,y1,y2,w4,⟨N,cB,St,Or,cX,sv,h1,h2,hL⟩,vN,FG⟩;refine aD ?_;have hz:=N.size;have JO:=pM.1;have Lt:=vN.1;have ub:=hF.lt wU;have ahP:o3 bb:=by rw[N.own];exact .inl wU
 obtain⟨-,k1,k2,-,-,-,-,-,kf⟩:=oP FG;have hb4:=(Z9 FG (.int .u32 1)).1;have hb5:=(Z9 hb4 (.int .i32 0)).2;have EG:nZ bb w3 ((w3.setCell ⟨bb,1,we⟩ (.int .u32 1)).setCell ⟨bb,2,we⟩ (.int .i32 0)):=OD _ _ _ _ _ _;have zu:bJ ak L0 o3 ((w3.setCell ⟨bb,1,we⟩ (.int .u32 1)).setCell ⟨bb,2,we⟩ (.int .i32 0)):=Go.Conc.bJ.setCell (Go.Conc.bJ.setCell vJ lG) lG;refine⟨.inl trivial,M3 bb 1 0 k1 (kf 1) vJ _ _ (EF bb 2 ahP (oP hb4).2.2.1 ((oP hb4).2.2.2.2.2.2.2.2 2) _ _ (Mv W func143 rfl (v:=.tuple #[]) (λw1=>results_none ah _ _) ⟨rfl,zu,?_,?_,λb nD hn=>?_,cB,St,Or,cX,sv,y0,y1,y2,h1,h2,?_,hb5⟩))⟩
 ·rw[N.own];unfold grow;rw[EG.1,Lt,JO]
 ·rw[EG.1];omega
 ·rw[EG.2 b hn,vN.2 b hn,N.old b aa,pM.2 b hn]
 ·rw[JO]at hL;exact hL.keep (by rw[EG.1];omega) λb Ev oe=>by rw[EG.2 b aa,vN.2 b aa]
def ahR(hF:bJ ak L0 o w)(bb bx Ru c:Nat)(p:Option Addr)(rs:List aN)(NM:aN->List ag)(NB:aN->Nat)(hR:mA o w p Ru c rs NM NB)(wU:o bb)(J0:o bx)(fu:bx≠bb)(Wk:Ru≠bb)(hNn:∀r∈rs,NM r≠[]->NB r≠bb)(c3 c4 c5 c6 c7:Value)(hb:w.heap[bb]?=so (Ls (.slice p rs.length c) (.int .u32 0) (.int .i32 0) c3 c4 c5 c6 c7))(hx:w.cell? ⟨bx,0,we⟩=so (.pointer (so ⟨bb,0,we⟩))):
  bC ak (XB ak Fin 0) 110 #[.pointer (so ⟨bb,1,we⟩),.func (.func 111) #[] #[.pointer (so ⟨bx,0,we⟩)]] o w λv o' w'=>v=.tuple #[]/\tB o w bb rs NM (λy0 y1 y2=>Ls (.slice p rs.length c) (.int .u32 1) (.int .i32 0) c3 y0 y1 y2 c7) o' w':=by
 have W:=bZ (P:=ak) (Fin:=Fin) (d:=0);refine bt W func110 aG ?_;walk_nrmf Tryz.f110;refine aD ?_;refine dq func142 (xM bb 1 0 (oP hb).2.1) ?_;rintro v2 o2 w2 ⟨rfl,rfl,rfl⟩;refine aD ?_;refine dq func143 (TS hF bb bx Ru c p rs NM NB hR wU J0 fu Wk hNn c3 c4 c5 c6 c7 hb hx) ?_;rintro v3 o3 w3 ⟨rfl,hP⟩;refine aD ?_;exact⟨.inl trivial,trivial,.tuple #[],λw1=>results_none ah _ _,rfl,hP⟩
def WB(bb:Nat)(f c0 c2 c3 c4 c5 c6 c7:Value)(hb:w.heap[bb]?=so (Ls c0 (.int .u32 1) c2 c3 c4 c5 c6 c7)):
  bC ak (XB ak Fin 0) 110 #[.pointer (so ⟨bb,1,we⟩),f] o w λv o' w'=>v=.tuple #[]/\o'=o/\w'=w:=by
 have W:=bZ (P:=ak) (Fin:=Fin) (d:=0);refine bt W func110 aG ?_;walk_nrmf Tryz.f110;refine aD ?_;refine dq func142 (xM bb 1 1 (oP hb).2.1) ?_;rintro v2 o2 w2 ⟨rfl,rfl,rfl⟩;refine aD ?_;exact⟨.inl trivial,trivial,.tuple #[],λw1=>results_none ah _ _,aj⟩
def wS.low{lo Wt:Nat}{NM:aN->List ag}{cB:List aN}{St Or:Nat}{cX:Nat->Nat}{sv v:Value}{w:ae}(h:wS lo NM cB St Or cX sv v w)(hl:Wt<=lo):wS Wt NM cB St Or cX sv v w where
 val:=h.val
 steps:=h.steps
 ord:=h.ord
 src:=mh h.src hl (af _) λ_ _ _=>rfl
 st:=⟨by have:=h.st.1;omega,h.st.2⟩
 or:=⟨by have:=h.or.1;omega,h.or.2⟩
 ib s hs:=by have:=h.ib s hs;omega
def tB.after{w1:ae}{bb:Nat}{rs:List aN}{NM:aN->List ag}{blk:Value->Value->Value->Obj}{o':aL}{w':ae}(h:tB (grow o w w1) w1 bb rs NM blk o' w')(hz:w.heap.size<=w1.heap.size)(hold:∀b,b<w.heap.size->w1.heap[b]?=w.heap[b]?):tB o w bb rs NM blk o' w' where
 bS:=h.bS
 own:=by rw[h.own];exact grow_grow hz rfl h.size
 size:=by have:=h.size;omega
 old b hb hn:=(h.old b aa hn).trans (hold b hb)
 lay:=by
  obtain⟨cB,St,Or,cX,sv,y0,y1,y2,h1,h2,h3,h4⟩:=h.lay;exact⟨cB,St,Or,cX,sv,y0,y1,y2,h1,h2,h3.low hz,h4⟩
def M5(hF:bJ ak L0 o w)(bb Ru c:Nat)(p:Option Addr)(rs:List aN)(NM:aN->List ag)(NB:aN->Nat)(hR:mA o w p Ru c rs NM NB)(wU:o bb)(Wk:Ru≠bb)(hNn:∀r∈rs,NM r≠[]->NB r≠bb)(c3 c4 c5 c6 c7:Value)(hb:w.heap[bb]?=so (Ls (.slice p rs.length c) (.int .u32 0) (.int .i32 0) c3 c4 c5 c6 c7)):
  bC ak (XB ak Fin 0) 73 #[.pointer (so ⟨bb,0,we⟩)] o w λv o' w'=>v=.pointer (so ⟨bb,4,we⟩)/\tB o w bb rs NM (λy0 y1 y2=>Ls (.slice p rs.length c) (.int .u32 1) (.int .i32 0) c3 y0 y1 y2 c7) o' w':=by
 have W:=bZ (P:=ak) (Fin:=Fin) (d:=0);refine bt W func73 aG ?_;walk_nrmf Tryz.f73;refine aD ?_;refine jL jN hF rfl aG aG ?_ rfl (R:=λwl v bN=>v=.pointer (so ⟨wl.heap.size,0,we⟩)/\bN=wl.alloc (Obj.cells #[.pointer (so ⟨bb,0,we⟩)] 208)) (λwl bu=>⟨_,_,iY,rfl,rfl⟩) λwl v1 bN w1 bu tV fP=>?_
 ·exact S4 (gE wU)
 obtain⟨rfl,tV⟩:=tV;obtain⟨z1,k1,Kp⟩:=fP.alloc hF bu tV;have lS:=fP.bS;rw[bu.size];clear tV fP bu wl bN;have im:=hF.lt wU;have vw:grow o w w1 w.heap.size:=.inr ⟨af _,aa⟩;refine aD ?_;have J0:=(TN Kp).1;refine rdC lS vw J0 λ_=>?_;refine aD ?_;have Z8:mA (grow o w w1) w1 p Ru c rs NM NB:=hR.keep qf (k1 _ (hF.lt hR.own)) λr hr hn=>k1 _ (hF.lt ((hR.nm r hr).2.1 hn).2);refine dq func110 (ahR lS bb w.heap.size Ru c p rs NM NB Z8 (.inl wU) vw aa Wk hNn c3 c4 c5 c6 c7 ((k1 _ im).trans hb) J0) ?_;rintro v2 o2 w2 ⟨rfl,hP⟩;refine aD ?_;have ZG:o2 w.heap.size:=by rw[hP.own];exact .inl vw
 have ahS:=(cell_of (a:=⟨w.heap.size,0,we⟩) (hP.old w.heap.size aa aa)).trans J0;refine rdC hP.bS ZG ahS λ_=>?_;refine aD ?_;exact⟨.inr trivial,trivial,_,resultsC_tmp (t:=2) aG _,ax,hP.after aa k1⟩
def Dg(hF:bJ ak L0 o w)(bb:Nat)(wU:o bb)(c0 c2 c3 c4 c5 c6 c7:Value)(hb:w.heap[bb]?=so (Ls c0 (.int .u32 1) c2 c3 c4 c5 c6 c7)):
  bC ak (XB ak Fin 0) 73 #[.pointer (so ⟨bb,0,we⟩)] o w λv o' w'=>v=.pointer (so ⟨bb,4,we⟩)/\iz o w v o' w':=by
 have W:=bZ (P:=ak) (Fin:=Fin) (d:=0);refine bt W func73 aG ?_;walk_nrmf Tryz.f73;refine aD ?_;refine jL jN hF rfl aG aG ?_ rfl (R:=λwl v bN=>v=.pointer (so ⟨wl.heap.size,0,we⟩)/\bN=wl.alloc (Obj.cells #[.pointer (so ⟨bb,0,we⟩)] 208)) (λwl bu=>⟨_,_,iY,rfl,rfl⟩) λwl v1 bN w1 bu tV fP=>?_
 ·exact S4 (gE wU)
 obtain⟨rfl,tV⟩:=tV;obtain⟨z1,k1,Kp⟩:=fP.alloc hF bu tV;have lS:=fP.bS;rw[bu.size];clear tV fP bu wl bN;have im:=hF.lt wU;have vw:grow o w w1 w.heap.size:=.inr ⟨af _,aa⟩;refine aD ?_;have J0:=(TN Kp).1;refine rdC lS vw J0 λ_=>?_;refine aD ?_;refine dq func110 (WB bb (.func (.func 111) #[] #[.pointer (so ⟨w.heap.size,0,we⟩)]) c0 c2 c3 c4 c5 c6 c7 ((k1 _ im).trans hb)) ?_;rintro v2 o2 w2 ⟨rfl,rfl,rfl⟩;refine aD ?_;refine rdC lS vw J0 λ_=>?_;refine aD ?_;exact⟨.inr trivial,trivial,_,resultsC_tmp (t:=2) aG _,ax,rfl,lS,aa,k1,by simp[Act.eval];exact gE (.inl wU)⟩
def QB:(ak.info? 4).map (λi=>(i.zero,i.size,i.bytes))=so (so (.bool false),1,1):=ah
def QC:(ak.info? 207).map (λi=>(i.zero,i.size,i.bytes))=so (so (.chan we),1,8):=ah
def QD:(ak.info? 100).map (λi=>i.bytes)=so 0:=ah
def Dh(w:ae)(n:Nat)(hn:n<=100000):(Instr.makeSlice 182 (.int .i64 (n:Int)) (.int .i64 (n:Int))).run ak w=.ok (.slice (so ⟨w.heap.size,0,we⟩) n n) (w.alloc (.cells (madeCells #[.bool false] n) 4)):=by
 obtain⟨i,hi,hz⟩:=aH.1 QB;simp only[bO]at hz;obtain⟨hz,hs,hb⟩:=hz;have:=run_make (P:=ak) w 182 4 i _ underlying182 hi hz .i64 .i64 n n aa (en _) (by rw[hb];omega) aa;rw[this,hs];simp[Value.cells]
def Di(w:ae)(n:Nat)(hn:n<=100000):(Instr.makeSlice 204 (.int .i64 (n:Int)) (.int .i64 (n:Int))).run ak w=.ok (.slice (so ⟨w.heap.size,0,we⟩) n n) (w.alloc (.cells (madeCells #[.chan we] n) 207)):=by
 obtain⟨i,hi,hz⟩:=aH.1 QC;simp only[bO]at hz;obtain⟨hz,hs,hb⟩:=hz;have:=run_make (P:=ak) w 204 207 i _ underlying204 hi hz .i64 .i64 n n aa (en _) (by rw[hb];omega) aa;rw[this,hs];simp[Value.cells]
def EH(w:ae):(Instr.makeChan 207 (.int .i64 0)).run ak w=.ok (.chan (so w.heap.size)) (w.alloc (.chan 0 #[] false 0 0 false)):=by
 obtain⟨i,hi,hb⟩:=aH.1 QD;exact run_makeChan underlying207 hi .i64 0 aa (by rw[hb];omega)
structure kI(o:aL)(w:ae)(v0 v1 v2:Value)(n:Nat)(bn Nb Mb:Nat)(ch:Nat->Nat)(k:Nat)(o':aL)(w':ae):Prop where
 own:o'=grow o w w'
 bS:bJ ak L0 o' w'
 size:w.heap.size<=w'.heap.size
 old:∀b,b<w.heap.size->w'.heap[b]?=w.heap[b]?
 bn:w.heap.size<=bn/\bn<w'.heap.size/\w'.heap[bn]?=so (.cells #[v0,v1,v2,.slice (so ⟨Nb,0,we⟩) n n,.slice (so ⟨Mb,0,we⟩) n n] 206)
 nb:w.heap.size<=Nb/\Nb<w'.heap.size/\w'.heap[Nb]?=so (.cells (madeCells #[.bool false] n) 4)
 mb:w.heap.size<=Mb/\Mb<w'.heap.size/\w'.rowIs Mb 207 n (λj=>if j<k then .chan (so (ch j))else .chan we)
 pX:∀s,s<k->w.heap.size<=ch s/\ch s<w'.heap.size/\w'.heap[ch s]?=so (.chan 0 #[] false 0 0 false)
 inj:∀s t,s<k->t<k->ch s=ch t->s=t
def kI.more{v0 v1 v2:Value}{n bn Nb Mb k:Nat}{ch:Nat->Nat}{o':aL}{w' w2:ae}(h:kI o w v0 v1 v2 n bn Nb Mb ch k o' w')(hF:bJ ak L0 (grow o' w' w2) w2)(hz:w'.heap.size<=w2.heap.size)(hold:∀b,b<w'.heap.size->w2.heap[b]?=w'.heap[b]?):kI o w v0 v1 v2 n bn Nb Mb ch k (grow o' w' w2) w2 where
 own:=by rw[h.own];exact grow_grow h.size rfl hz
 bS:=hF
 size:=by have:=h.size;omega
 old b hb:=(hold b (by have:=h.size;omega)).trans (h.old b hb)
 bn:=⟨h.bn.1,by have:=h.bn.2.1;omega,(hold _ h.bn.2.1).trans h.bn.2.2⟩
 nb:=⟨h.nb.1,by have:=h.nb.2.1;omega,(hold _ h.nb.2.1).trans h.nb.2.2⟩
 mb:=⟨h.mb.1,by have:=h.mb.2.1;omega,World.rowIs.of_block h.mb.2.2 (hold _ h.mb.2.1)⟩
 pX s hs:=⟨(h.pX s hs).1,by have:=(h.pX s hs).2.1;omega,(hold _ (h.pX s hs).2.1).trans (h.pX s hs).2.2⟩
 inj:=h.inj
def kI.put{v0 v1 v2:Value}{n bn Nb Mb k c:Nat}{ch:Nat->Nat}{o':aL}{w' w2:ae}(h:kI o w v0 v1 v2 n bn Nb Mb ch k o' w')(hF:bJ ak L0 o' w2)(on:nZ Mb w' w2)(hM:w2.heap[Mb]?=(w'.setCell ⟨Mb,k,we⟩ (.chan (so c))).heap[Mb]?)(hc:w.heap.size<=c/\c<w'.heap.size/\w'.heap[c]?=so (.chan 0 #[] false 0 0 false))(zw:∀s,s<k->ch s≠c):kI o w v0 v1 v2 n bn Nb Mb (λs=>if s=k then c else ch s) (k+1) o' w2:=by
 have hMb:=h.mb.2.2;obtain⟨cs,HP,-,-⟩:=hMb;have nM:∀b x,w'.heap[b]?=so x->(∀c t z,x=.cells c t z->t≠207)->b≠Mb:=λb x hx ht e=>by
  subst e;rw[HP]at hx;exact ht _ _ _ (aP hx).symm rfl
 refine⟨?_,hF,by have:=h.size;rw[on.1];exact this,λb hb=>(on.2 b (by have:=h.mb.1;omega)).trans (h.old b hb),⟨h.bn.1,by rw[on.1];exact h.bn.2.1,?_⟩,⟨h.nb.1,by rw[on.1];exact h.nb.2.1,?_⟩,⟨h.mb.1,by rw[on.1];exact h.mb.2.1,?_⟩,λs hs=>?_,λs t hs ht e=>?_⟩
 ·rw[h.own];unfold grow;rw[on.1]
 ·rw[on.2 _ (nM _ _ h.bn.2.2 λc t z e=>by cases e;decide)];exact h.bn.2.2
 ·rw[on.2 _ (nM _ _ h.nb.2.2 λc t z e=>by cases e;decide)];exact h.nb.2.2
 ·refine World.rowIs.of_block ((h.mb.2.2.set k (.chan (so c))).congr λj hj=>?_) hM;by_cases e:j=k
  ·subst e;simp
  ·by_cases e':j<k
   ·rw[if_neg e,if_pos e',if_pos aa,if_neg e]
   ·rw[if_neg e,if_neg e',if_neg aa]
 ·by_cases e:s=k
  ·subst e;simp only[if_true];exact⟨hc.1,by rw[on.1];exact hc.2.1,by rw[on.2 _ (nM _ _ hc.2.2 λc t z e=>by cases e)];exact hc.2.2⟩
  ·simp only[if_neg e];have q:=h.pX s aa;exact⟨q.1,by rw[on.1];exact q.2.1,by rw[on.2 _ (nM _ _ q.2.2 λc t z e=>by cases e)];exact q.2.2⟩
 ·by_cases e1:s=k
  ·by_cases e2:t=k
   ·omega
   ·rw[if_pos e1,if_neg e2]at e;exact absurd e.symm (zw t aa)
  ·by_cases e2:t=k
   ·rw[if_neg e1,if_pos e2]at e;exact absurd e (zw s aa)
   ·rw[if_neg e1,if_neg e2]at e;exact h.inj s t aa aa e
structure ahU(o:aL)(w:ae)(v0 v1 v2:Value)(n bn Nb Mb k:Nat)(a:Act)(o':aL)(w':ae):Prop where
 size:a.tmps.size=37
 df:a.defers=[]
 t7:a.eval (.tmp 7)=.pointer (so ⟨bn,0,we⟩)
 t24:a.eval (.tmp 24)=.int .i64 n
 t25:a.eval (.tmp 25)=.int .i64 k
 new:∃ch,kI o w v0 v1 v2 n bn Nb Mb ch k o' w'
def Dj{w:ae}{b:Nat}{t:TypeId}{c0 c1 c2 c3 c4:Value}(h:w.heap[b]?=so (.cells #[c0,c1,c2,c3,c4] t)):w.cell? ⟨b,0,we⟩=so c0/\w.cell? ⟨b,1,we⟩=so c1/\w.cell? ⟨b,2,we⟩=so c2/\w.cell? ⟨b,3,we⟩=so c3/\w.cell? ⟨b,4,we⟩=so c4/\∀k,w.frozen? ⟨b,k,we⟩=false:=by
 simp[World.cell?,World.frozen?,h]
def M6(hF:bJ ak L0 o w)(Lb Lo Vb nv Rb n:Nat)(hn:n<=1000)(hLb:o Lb)(Yf:o Vb)(GZ:o Rb):
  bC ak (XB ak Fin 0) 72 #[.pointer (so ⟨Lb,Lo,we⟩),.slice (so ⟨Vb,0,we⟩) nv nv,.slice (so ⟨Rb,0,we⟩) n n] o w λv o' w'=>∃bn Nb Mb ch,v=.pointer (so ⟨bn,0,we⟩)/\kI o w (.pointer (so ⟨Lb,Lo,we⟩)) (.slice (so ⟨Vb,0,we⟩) nv nv) (.slice (so ⟨Rb,0,we⟩) n n) n bn Nb Mb ch n o' w':=by
 have W:=bZ (P:=ak) (Fin:=Fin) (d:=0);refine bt W func72 aG ?_;walk_nrmf Tryz.f72;refine aD ?_;refine iy mixed ah [so we,so we,so we,so we,so we,we,so we,so we,we,so we,we,so we]
  (S:=λσ o' w'=>(o'=grow o w w'/\bJ ak L0 o' w'/\w.heap.size<=w'.heap.size/\(∀b,b<w.heap.size->w'.heap[b]?=w.heap[b]?)) /\
   (∀y,σ 5=so y->∃Nb,y=.slice (so ⟨Nb,0,we⟩) n n/\w.heap.size<=Nb/\Nb<w'.heap.size/\w'.heap[Nb]?=so (.cells (madeCells #[.bool false] n) 4)) /\
   (∀y,σ 8=so y->∃Mb,y=.slice (so ⟨Mb,0,we⟩) n n/\w.heap.size<=Mb/\Mb<w'.heap.size/\w'.heap[Mb]?=so (.cells (madeCells #[.chan we] n) 207)) /\
   (∀y,σ 10=so y->∃bn y5 y8,σ 5=so y5/\σ 8=so y8/\y=.pointer (so ⟨bn,0,we⟩)/\w.heap.size<=bn/\bn<w'.heap.size/\w'.heap[bn]?=so (.cells #[.pointer (so ⟨Lb,Lo,we⟩),.slice (so ⟨Vb,0,we⟩) nv nv,.slice (so ⟨Rb,0,we⟩) n n,y5,y8] 206))) ?_ λv=>?_
 ·exact⟨⟨(cp _ _).symm,hF,af _,λ_ _=>rfl⟩,λy hy=>(by cases hy),λy hy=>(by cases hy),λy hy=>(by cases hy)⟩
 refine fF ?_;refine fU ?_;refine zS jN rfl rfl rfl aG aG (λσ o' w' H hj hS=>?_) ?_
 ·obtain⟨⟨e1,e2,e3,e4⟩,s5,s8,s10⟩:=hS;refine⟨e2,λy hy=>?_,λwl v bN=>v=.slice (so ⟨wl.heap.size,0,we⟩) n n/\bN=wl.alloc (.cells (madeCells #[.bool false] n) 4),λwl bu=>⟨_,_,by simp[go_sem,Dh wl n aa],rfl,rfl⟩,λwl y bN w2 bu hR fP=>?_⟩
  ·simp[Op.operands]at hy;subst hy;simp[Act.eval];exact lG
  ·obtain⟨rfl,hR⟩:=hR;obtain⟨z1,k1,Kp⟩:=fP.alloc e2 bu hR;have vx:σ 10=none:=by
    cases h:σ 10 with
    |none=>rfl
    |some y=>obtain⟨_,y5,y8,q5,q8,_⟩:=s10 y h;rw[hj]at q5;cases q5
   rw[bu.size];refine⟨⟨by rw[e1];exact grow_grow e3 rfl aa,fP.bS,aa,λb hb=>(k1 b aa).trans (e4 b hb)⟩,λy hy=>?_,λy hy=>?_,λy hy=>?_⟩
   ·simp only[lg,if_true,ay]at hy;exact⟨w'.heap.size,hy.symm,e3,aa,Kp⟩
   ·simp only[lg,show ¬(8=5) by omega,if_false]at hy;obtain⟨b,q1,q2,q3,q4⟩:=s8 y hy;exact⟨b,q1,q2,aa,(k1 b q3).trans q4⟩
   ·simp[lg,vx]at hy
 refine fU ?_;refine zS jN rfl rfl rfl aG aG (λσ o' w' H hj hS=>?_) ?_
 ·obtain⟨⟨e1,e2,e3,e4⟩,s5,s8,s10⟩:=hS;refine⟨e2,λy hy=>?_,λwl v bN=>v=.slice (so ⟨wl.heap.size,0,we⟩) n n/\bN=wl.alloc (.cells (madeCells #[.chan we] n) 207),λwl bu=>⟨_,_,by simp[go_sem,Di wl n aa],rfl,rfl⟩,λwl y bN w2 bu hR fP=>?_⟩
  ·simp[Op.operands]at hy;subst hy;simp[Act.eval];exact lG
  ·obtain⟨rfl,hR⟩:=hR;obtain⟨z1,k1,Kp⟩:=fP.alloc e2 bu hR;have vx:σ 10=none:=by
    cases h:σ 10 with
    |none=>rfl
    |some y=>obtain⟨_,y5,y8,q5,q8,_⟩:=s10 y h;rw[hj]at q8;cases q8
   rw[bu.size];refine⟨⟨by rw[e1];exact grow_grow e3 rfl aa,fP.bS,aa,λb hb=>(k1 b aa).trans (e4 b hb)⟩,λy hy=>?_,λy hy=>?_,λy hy=>?_⟩
   ·simp only[lg,show ¬(5=8) by omega,if_false]at hy;obtain⟨b,q1,q2,q3,q4⟩:=s5 y hy;exact⟨b,q1,q2,aa,(k1 b q3).trans q4⟩
   ·simp only[lg,if_true,ay]at hy;exact⟨w'.heap.size,hy.symm,e3,aa,Kp⟩
   ·simp[lg,vx]at hy
 walk_nrm;refine Jv ((∃x,v 5=.slice x n n)/\∃x,v 8=.slice x n n) (.agg #[.pointer (so ⟨Lb,Lo,we⟩),.slice (so ⟨Vb,0,we⟩) nv nv,.slice (so ⟨Rb,0,we⟩) n n,v 5,v 8]) rfl rfl rfl aG (λσ o' w' H hS=>?_) (λhv w1=>?_) (λhv w1=>?_) λy9 hy9=>?_
 ·obtain⟨Nb,q1,-⟩:=hS.2.1 _ (H.done 5 ah rfl);obtain⟨Mb,q2,-⟩:=hS.2.2.1 _ (H.done 8 ah rfl);exact⟨⟨_,q1⟩,_,q2⟩
 ·obtain⟨⟨x,hx⟩,y,hy⟩:=hv;simp[go_sem,Act.eval,hx,hy]
 ·obtain⟨⟨x,hx⟩,y,hy⟩:=hv;simp[go_sem,Act.eval,hx,hy]
 walk_nrm;refine zS jN rfl rfl rfl aG aG (λσ o' w' H hj hS=>?_) ?_
 ·have d5:=H.SZ [9] 5 ah rfl;have d8:=H.SZ [9] 8 ah rfl;obtain⟨⟨e1,e2,e3,e4⟩,s5,s8,s10⟩:=hS;obtain⟨Nb,q1,q2,q3,q4⟩:=s5 _ d5;obtain⟨Mb,r1,r2,r3,r4⟩:=s8 _ d8;have hy:=hy9 ⟨⟨_,q1⟩,_,r1⟩;have up:∀b,o b->o' b:=λb hb=>by rw[e1];exact .inl hb
  have hNb:o' Nb:=by rw[e1];exact .inr ⟨q2,q3⟩
  have hMb:o' Mb:=by rw[e1];exact .inr ⟨r2,r3⟩
  refine⟨e2,λy Wz=>?_,λwl y bN=>y=.pointer (so ⟨wl.heap.size,0,we⟩)/\bN=wl.alloc (.cells #[.pointer (so ⟨Lb,Lo,we⟩),.slice (so ⟨Vb,0,we⟩) nv nv,.slice (so ⟨Rb,0,we⟩) n n,v 5,v 8] 206),λwl bu=>⟨_,_,by rw[q1,r1]at hy;simp[go_sem,hy,q1,r1],rfl,rfl⟩,λwl y bN w2 bu hR fP=>?_⟩
  ·simp[Op.operands]at Wz;subst Wz;simp[Act.eval];rw[hy,q1,r1];exact sB (vs:=[_,_,_,_,_]) (λx hx=>by
    simp at hx;rcases hx with rfl|rfl|rfl|rfl|rfl
    ·exact gE (up _ hLb)
    ·exact eK (up _ Yf)
    ·exact eK (up _ GZ)
    ·exact eK hNb
    ·exact eK hMb)
  ·obtain⟨rfl,hR⟩:=hR;obtain⟨z1,k1,Kp⟩:=fP.alloc e2 bu hR;rw[bu.size];refine⟨⟨by rw[e1];exact grow_grow e3 rfl aa,fP.bS,aa,λb hb=>(k1 b aa).trans (e4 b hb)⟩,λy hy=>?_,λy hy=>?_,λy hy=>?_⟩
   ·simp only[lg,show ¬(5=10) by omega,if_false]at hy;obtain⟨b,q1,q2,q3,q4⟩:=s5 y hy;exact⟨b,q1,q2,aa,(k1 b q3).trans q4⟩
   ·simp only[lg,show ¬(8=10) by omega,if_false]at hy;obtain⟨b,q1,q2,q3,q4⟩:=s8 y hy;exact⟨b,q1,q2,aa,(k1 b q3).trans q4⟩
   ·simp only[lg,if_true,ay]at hy;exact⟨w'.heap.size,v 5,v 8,by simpa[lg] using d5,by simpa[lg] using d8,hy.symm,e3,aa,Kp⟩
 refine fU ?_;refine fj λσ o1 w1 wu hS=>?_;obtain⟨⟨e1,e2,e3,e4⟩,s5,s8,s10⟩:=hS;obtain⟨bn,y5,y8,t5,t8,hbn,b1,b2,b3⟩:=s10 _ (wu 10 iG rfl);obtain⟨Nb,rfl,n1,n2,n3⟩:=s5 _ t5;obtain⟨Mb,rfl,m1,m2,m3⟩:=s8 _ t8;rw[hbn];have hB:kI o w (.pointer (so ⟨Lb,Lo,we⟩)) (.slice (so ⟨Vb,0,we⟩) nv nv) (.slice (so ⟨Rb,0,we⟩) n n) n bn Nb Mb (λ_=>0) 0 o1 w1 :=
  ⟨e1,e2,e3,e4,⟨b1,b2,b3⟩,⟨n1,n2,n3⟩,⟨m1,m2,⟨_,m3,by simp[size_madeCells],λj hj=>by simp[madeCells,hj,Nat.mod_one]⟩⟩,λs hs=>aa,λs t hs=>aa⟩
 clear s5 s8 s10 t5 t8 wu hbn e1 e2 e3 e4 b1 b2 b3 n1 n2 n3 m1 m2 m3;have aab:o1 bn:=by rw[hB.own];exact .inr ⟨hB.bn.1,hB.bn.2.1⟩
 simp only[nu,gL,if_true,if_false,reduceIte,Nat.reduceEqDiff];refine aD ?_;obtain⟨-,-,-,-,c4,-⟩:=Dj hB.bn.2.2;refine rdC hB.bS aab c4 λ_=>?_;refine aD ?_;refine dQ W (λm a o' w'=>∃k,m+k=n/\ahU o w (.pointer (so ⟨Lb,Lo,we⟩)) (.slice (so ⟨Vb,0,we⟩) nv nv) (.slice (so ⟨Rb,0,we⟩) n n) n bn Nb Mb k a o' w') (N:=n) ⟨0,aj,rfl,rfl,ax,ax,ax,_,hB⟩ ?_;clear hB c4 aab hy9;rintro m a o1 w1 ⟨k,lP,ew,iu,i7,i24,i25,ch,hB⟩;obtain⟨gs,rfl⟩:=eQ ew iu;clear ew iu;simp only[List.range,List.range.loop,aB,aJ]at i7 i24 i25 |-;simp[Act.eval]at i7 i24 i25;simp only[i7,i24,i25];clear i7 i24 i25;rcases bh m with hm|hm
 ·have hk:k=n:=aa;subst hk;refine aD ?_;exact⟨.inr trivial,trivial,_,resultsC_tmp (t:=6) aG _,bn,Nb,Mb,ch,ax,hB⟩
 ·have hk:k<n:=aa;have rq:(k:Int)<(n:Int):=aa;have aab:o1 bn:=by rw[hB.own];exact .inr ⟨hB.bn.1,hB.bn.2.1⟩
  have ane:o1 Mb:=by rw[hB.own];exact .inr ⟨hB.mb.1,hB.mb.2.1⟩
  obtain⟨-,-,-,-,c4,-⟩:=Dj hB.bn.2.2;refine aD ?_;generalize RV:(Value.pointer (so ⟨Lb,Lo,we⟩))=v0 at *;generalize Ie:(Value.slice (so ⟨Vb,0,we⟩) nv nv)=v1 at *;generalize NN:(Value.slice (so ⟨Rb,0,we⟩) n n)=v2 at *;refine iy mixed ah [so we,so we,so we,so (so (.slice (so ⟨Mb,0,we⟩) n n)),so we,we,so we,we]
   (S:=λσ o' w'=>(σ 7=we/\kI o w v0 v1 v2 n bn Nb Mb ch k o' w'/\∀y,σ 5=so y->∃c,y=.chan (so c)/\(w.heap.size<=c/\c<w'.heap.size/\w'.heap[c]?=so (.chan 0 #[] false 0 0 false))/\∀s,s<k->ch s≠c)\/(σ 7≠we/\∃ch',kI o w v0 v1 v2 n bn Nb Mb ch' (k+1) o' w')) ?_ λv=>?_
  ·exact .inl ⟨rfl,hB,λy hy=>by cases hy⟩
  refine fF ?_;refine fU ?_;refine ZX (λσ o' w' H hS=>?_) ?_
  ·rcases hS with⟨h7,xS,-⟩|⟨h7,-⟩
   ·have p7:o' bn:=by rw[xS.own];exact .inr ⟨xS.bn.1,xS.bn.2.1⟩
    obtain⟨-,-,-,-,c4',-⟩:=Dj xS.bn.2.2;refine⟨xS.bS,λy hy=>?_,λwl bu=>?_⟩
    ·simp[Op.operands]at hy;subst hy;simp[Act.eval];exact gE p7
    ·simp[go_sem,(bu.cell p7).trans c4']
   ·exact absurd (H.P8 [6] 7 ah) h7
  refine fU ?_;refine zS jN rfl rfl rfl aG aG (λσ o' w' H h5 hS=>?_) ?_
  ·rcases hS with⟨h7,xS,-⟩|⟨h7,-⟩
   ·refine⟨xS.bS,λy hy=>?_,λwl y bN=>y=.chan (so wl.heap.size)/\bN=wl.alloc (.chan 0 #[] false 0 0 false),λwl bu=>⟨_,_,by simp[go_sem,EH],rfl,rfl⟩,λwl y bN w2 bu hR fP=>?_⟩
    ·simp[Op.operands]at hy;subst hy;simp[Act.eval];exact lG
    ·obtain⟨rfl,hR⟩:=hR;obtain⟨z1,k1,Kp⟩:=fP.alloc xS.bS bu hR;rw[bu.size];refine .inl ⟨by simpa[lg] using h7,xS.more fP.bS aa k1,λy hy=>?_⟩;simp only[lg,if_true,ay]at hy;exact⟨w'.heap.size,hy.symm,⟨xS.size,aa,Kp⟩,λs hs e=>by have:=(xS.pX s hs).2.1;omega⟩
   ·exact absurd (H.GN 7 ah) h7
  refine fU ?_;refine GP jN rfl rfl rfl aG aG (λσ o' w' H h7 hS=>?_) ?_
  ·rcases hS with⟨-,xS,h6⟩|⟨h7',-⟩
   ·obtain⟨c,hc,Rv,hc3⟩:=h6 _ (H.done 5 ah rfl);have hM':o' Mb:=by rw[xS.own];exact .inr ⟨xS.mb.1,xS.mb.2.1⟩
    have Rw:o' c:=by rw[xS.own];exact .inr ⟨Rv.1,Rv.2.1⟩
    refine⟨xS.bS,λy hy=>?_,λwl bN=>bN=wl.setCell ⟨Mb,k,we⟩ (.chan (so c)),λwl bu=>⟨_,?_,rfl⟩,λwl bN w2 bu hR fP=>?_⟩
    ·simp[Op.operands]at hy;rcases hy with rfl|rfl
     ·simp[Act.eval];exact gE hM'
     ·simp[Act.eval,hc];exact λf hf=>by simp[val,hf.at_ c Rw,nN]
    ·have Z7:=World.rowIs.of_block xS.mb.2.2 (bu.heap _ hM');have q0:=Z7.cell hk;have f:=Z7.frozen;simp[go_sem,hc,q0,f]
    ·have hO:nZ Mb wl bN:=by rw[hR];exact AI _ _ _ _
     obtain⟨on,kb,eg⟩:=fP.only bu hM' hO;have rK:=fP.bS;rw[eg]at rK |-;refine .inr ⟨by simp[lg],_,xS.put rK on ?_ Rv hc3⟩;rw[kb,hR];simp only[World.setCell,aR,if_true,bu.heap _ hM']
   ·exact absurd h7 h7'
  walk_nrm;refine fj λσ o' w' wu hS=>?_;rcases hS with⟨h7,-⟩|⟨-,ch',xS⟩
  ·rw[wu 7 iG rfl]at h7;cases h7
  simp only[nu,gL,if_true,if_false,reduceIte,Nat.reduceEqDiff];refine aD ?_;have Ry:IntKind.i64.wrap ((k:Int)+1)=((k+1:Nat):Int):=by rw[IntKind.wrap_i64]<;>omega
  exact⟨m-1,aa,k+1,aa,rfl,rfl,rfl,rfl,by simp[Act.eval,Ry],ch',xS⟩
end
section
open Go.RowKit
section
variable {Fin:br}{o:aL}{w:ae}
def wW{w w':ae}{bn Lb Lo St Rb Nb n:Nat}{out:Nat->ag}{eT:Nat->Int}{ins:Nat->List (Bool×Nat)}{cX:Nat->Nat}{res:Nat->Kz.V}{rO:Nat->Bool}(h:ql w bn Lb Lo St Rb Nb n out eT ins cX res rO)(hz:w'.heap.size=w.heap.size)(e:∀b,b=bn\/b=Lb\/b=St\/b=Rb\/b=Nb\/(∃s,s<n/\b=cX s)->w'.heap[b]?=w.heap[b]?):ql w' bn Lb Lo St Rb Nb n out eT ins cX res rO where
 b0:=(cell_of (e bn (.inl rfl))).trans h.b0
 b2:=(cell_of (e bn (.inl rfl))).trans h.b2
 b3:=(cell_of (e bn (.inl rfl))).trans h.b3
 st:=(cell_of (e Lb (.inr (.inl rfl)))).trans h.st
 steps:=kg h.steps (e St (.inr (.inr (.inl rfl)))) (λs hs=>e _ (.inr (.inr (.inr (.inr (.inr ⟨s,hs,rfl⟩)))))) aa
 r2 s hs:=(cell_of (e Rb (.inr (.inr (.inr (.inl rfl)))))).trans (h.r2 s hs)
 r3 s hs:=(cell_of (e Rb (.inr (.inr (.inr (.inl rfl)))))).trans (h.r3 s hs)
 rO s hs:=(cell_of (e Nb (.inr (.inr (.inr (.inr (.inl rfl))))))).trans (h.rO s hs)
 lbn:=by rw[hz];exact h.lbn
 lLb:=by rw[hz];exact h.lLb
 lSt:=by rw[hz];exact h.lSt
 lRb:=by rw[hz];exact h.lRb
 lNb:=by rw[hz];exact h.lNb
def QE(hF:bJ ak L0 o w)(bn Lb Lo St Rb Nb n:Nat)(out:Nat->ag)(eT:Nat->Int)(ins:Nat->List (Bool×Nat))(cX:Nat->Nat)(res:Nat->Kz.V)(rO:Nat->Bool)(hn:n<=1000)(h:ql w bn Lb Lo St Rb Nb n out eT ins cX res rO)(ho:∀b,b=bn\/b=Lb\/b=St\/b=Rb\/b=Nb\/(∃s,s<n/\b=cX s)->o b):
  bC ak (XB ak Fin 0) 75 #[.pointer (so ⟨bn,0,we⟩)] o w λv o' w'=>iz o w v o' w'/\v=.slice (so ⟨w.heap.size,0,we⟩) n n/\w.heap.size<w'.heap.size/\w'.rowIs w.heap.size 65 (n*3) (iO out res n):=by
 refine bC.mono (fQ ah hF (λx hx=>by simp at hx;subst hx;exact gE (ho bn (.inl rfl))) (Q:=λwl v w'=>v=.slice (so ⟨wl.heap.size,0,we⟩) n n/\wl.heap.size<w'.heap.size/\w'.rowIs wl.heap.size 65 (n*3) (iO out res n)) (λwl D8 v w1 w2 e1 e2 h=>?_) (λwl hz bu=>?_)) (λv o' w' hq=>?_)
 ·rw[e1,e2];exact⟨h.1,h.2.1,World.rowIs.of_block h.2.2 (by rw[e2])⟩
 ·refine(Kj bn Lb Lo St Rb Nb n out eT ins cX res rO wl hn (wW h hz λb hb=>bu b (ho b hb))).mono λe w' hq=>?_;obtain⟨rfl,h1,h2,h3⟩:=hq;exact⟨_,rfl,h1.size,λb hb=>h1.block b hb,rfl,h2,h3⟩
 ·obtain⟨hN,wl,bN,z1,z2,hs,rfl,h2,h3⟩:=hq;rw[z1]at h2 h3 hN |-;exact⟨hN,rfl,aa,World.rowIs.of_block h3 (hs _ (af _) aa)⟩
def AL{lo:Nat}{ts:List ag}{v:Value}{w wl:ae}(h:wl.ownsRow lo 9 1 v ts.length (ts.map .string))(hs:∀b,lo<=b->b<w.heap.size->w.heap[b]?=wl.heap[b]?)(hz:wl.heap.size=w.heap.size):mg lo ts v w:=by
 obtain⟨hl,hc⟩:=h;rcases hc with⟨rfl,h2⟩|⟨g,cap,cur,rfl,h1,h2,h3,h4,h5,h6⟩
 ·exact .inl ⟨rfl,dx.1 h2⟩
 ·have hg:g<w.heap.size:=by rw[<- hz];exact(aI.1 h2).1
  refine .inr ⟨g,cap,rfl,h3,h1,hg,λk hk=>?_⟩;have hb:=(hs g h1 hg).trans h2;have:(cur.toList.take (ts.length*1))[k]?=(ts.map Value.string)[k]?:=by rw[h6]
  rw[cE aa]at this;simp[World.cell?,hb];simpa[hk] using this
def QF(hF:bJ ak L0 o w)(bn Lb Lo St Rb Nb n:Nat)(out:Nat->ag)(eT:Nat->Int)(ins:Nat->List (Bool×Nat))(cX:Nat->Nat)(res:Nat->Kz.V)(rO:Nat->Bool)(hn:n<=1000)(h:ql w bn Lb Lo St Rb Nb n out eT ins cX res rO)(ho:∀b,b=bn\/b=Lb\/b=St\/b=Rb\/b=Nb\/(∃s,s<n/\b=cX s)->o b):
  bC ak (XB ak Fin 0) 76 #[.pointer (so ⟨bn,0,we⟩)] o w λv o' w'=>iz o w v o' w'/\mg w.heap.size (vi out rO n) v w':=by
 refine bC.mono (fQ ah hF (λx hx=>by simp at hx;subst hx;exact gE (ho bn (.inl rfl))) (Q:=λwl v w'=>w'.ownsRow wl.heap.size 9 1 v (vi out rO n).length ((vi out rO n).map .string)) (λwl D8 v w1 w2 e1 e2 h=>?_) (λwl hz bu=>?_)) (λv o' w' hq=>?_)
 ·rw[e1];exact gv h λg _ _=>by rw[e2]
 ·refine(Kl bn Lb Lo St Rb Nb n out eT ins cX res rO wl hn (wW h hz λb hb=>bu b (ho b hb))).mono λe w' hq=>?_;obtain⟨v,rfl,h1,h2,h3⟩:=hq;exact⟨_,rfl,h1.size,λb hb=>h1.block b hb,h3⟩
 ·obtain⟨hN,wl,bN,z1,z2,hs,h3⟩:=hq;rw[z1]at h3;exact⟨hN,AL h3 hs z2⟩
def Kq(hF:bJ ak L0 o w)(v0:Value)(b c:Nat)(p:Option Addr)(ts:List ag)(RV:v0=.slice p ts.length c)(hn:ts.length<=100000)(hp:p=we->ts=[])(hq:ts≠[]->p=so ⟨b,0,we⟩/\o b)(ht:gf w b 0 ts)(hc:Cl ak L0 o v0):
  bC ak (XB ak Fin 0) 51 #[v0] o w λv o' w'=>iz o w v o' w'/\mg w.heap.size ts v w':=by
 refine bC.mono (fQ ah hF (λx hx=>by simp at hx;subst hx;exact hc) (Q:=λwl v w'=>w'.ownsRow wl.heap.size 9 1 v ts.length (ts.map .string)) (λwl D8 v w1 w2 e1 e2 h=>?_) (λwl hz bu=>?_)) (λv o' w' hq=>?_)
 ·rw[e1];exact gv h λg _ _=>by rw[e2]
 ·subst RV;cases p with
  |none =>
   obtain rfl:=hp rfl;refine(Tryz.slices_Clone_string_nil _ _ wl).mono λe w' hq=>?_;obtain⟨rfl,rfl⟩:=hq;exact⟨_,rfl,af _,λ_ _=>rfl,aj,.inl ⟨rfl,rfl⟩⟩
  |some a =>
   by_cases fu:ts=[]
   ·subst fu;refine(Tryz.slices_Clone_string_zero a _ wl).mono λe w' hq=>?_;obtain⟨v',rfl,h1,-,h2⟩:=hq;exact⟨_,rfl,h2.size,λb hb=>h2.block b hb,h1⟩
   ·obtain⟨e,hb⟩:=hq fu;cases e;refine(Tryz.slices_Clone_string b 0 ts.length c ts wl (af _) aa (λj hj=>?_)).mono λe w' hq=>?_
    ·rw[dS ht (bu b hb) j hj];simp[hj]
    ·obtain⟨v',rfl,h1,h2⟩:=hq;rw[cO]at h1;exact⟨_,rfl,h2.2.size,λb hb=>h2.2.block b hb,h1⟩
 ·obtain⟨hN,wl,bN,z1,z2,hs,h3⟩:=hq;rw[z1]at h3;exact⟨hN,AL h3 hs z2⟩
end
end
structure lJ(rs:List aN)(NM:aN->List ag)(RK:ag->Nat):Prop where
 nodup:(rs.map (·.out)).Nodup
 low:∀r∈rs,RK r.out<rs.length
 Dk:∀r∈rs,∀x∈NM r,x∈rs.map (·.out)->RK x<RK r.out
 eT:∀r∈rs,1<=r.eT/\r.eT<=5
 four:∀r∈rs,(NM r).length<=4
def lJ.perm{rs cB:List aN}{NM:aN->List ag}{RK:ag->Nat}(h:lJ rs NM RK)(p:cB.Perm rs):lJ cB NM RK where
 nodup:=((p.map (·.out)).nodup_iff).2 h.nodup
 low r hr:=by rw[p.length_eq];exact h.low r (p.mem_iff.1 hr)
 Dk r hr x hx ho:=h.Dk r (p.mem_iff.1 hr) x hx (((p.map (·.out)).mem_iff).1 ho)
 eT r hr:=h.eT r (p.mem_iff.1 hr)
 four r hr:=h.four r (p.mem_iff.1 hr)
def vj{rs:List aN}(hn:(rs.map (·.out)).Nodup)(hs:∀i j (hi:i<rs.length) (hj:j<rs.length),i<j->¬rN rs[j] rs[i]<0):mY (rs.map (·.out)):=λi j hi hj wh=>by
 have mn:i<rs.length:=by simpa using hi
 have Bd:j<rs.length:=by simpa using hj
 simp only[List.getElem_map];have h1:=hs i j mn Bd wh;unfold rN at h1;have e:∀b:ag,b.data.toList=b.toList:=λb=>(ByteArray.toList_eq b).symm;rw[e,e]at h1;rw[rh rs[i].out.toList rs[j].out.toList]at h1;have h2:Lib.compareBytes rs[i].out.toList rs[j].out.toList≠0:=λh=>by
  have h3:=r9 _ _ h;have h4:rs[i].out=rs[j].out:=by
   have:rs[i].out.data=rs[j].out.data:=by
    apply Array.toList_inj.1;rw[e,e];exact h3
   cases hx:rs[i].out;cases hy:rs[j].out;rw[hx,hy]at this;simp at this;rw[this]
  have:=(ba.1 hn i j hi hj wh);simp only[List.getElem_map]at this;exact this h4
 omega
section
variable {rs:List aN}{NM:aN->List ag}{RK:ag->Nat}
def Hn{xs:List ag}{x:ag}(h:qk xs x=true):∃h:nY xs x<xs.length,xs[nY xs x]=x:=by
 unfold qk at h;simp only[decide_eq_true_eq]at h;refine⟨h.1,?_⟩;have:=h.2;simpa[List.getD,h.1] using this
def QG{outs:List ag}{l:List ag}{x:ag}:x∈tU outs l↔x∈l/\x∉outs:=by
 unfold tU;rw[gm];constructor
 ·rintro⟨h1,h2⟩;refine⟨h1,λh=>?_⟩;rw[(Lib.containsS_iff outs x).2 h]at h2;cases h2
 ·rintro⟨h1,h2⟩;refine⟨h1,?_⟩;cases hc:Lib.containsS outs x with
  |false=>rfl
  |true=>exact absurd ((Lib.containsS_iff outs x).1 hc) h2
def Kr{outs:List ag}{nm:Nat->List ag}{x:ag}:∀k,x∈mI outs nm k↔∃i,i<k/\x∈nm i/\x∉outs
 |0=>by simp[mI]
 |k+1=>by
  simp only[mI,List.mem_append,Kr k,QG];constructor
  ·rintro(⟨i,h1,h2,h3⟩|⟨h2,h3⟩)
   ·exact⟨i,aa,h2,h3⟩
   ·exact⟨k,aa,h2,h3⟩
  ·rintro⟨i,h1,h2,h3⟩;by_cases e:i=k
   ·subst e;exact .inr ⟨h2,h3⟩
   ·exact .inl ⟨i,aa,h2,h3⟩
def oQ{i:Nat}(h:i<rs.length):Hj NM rs i=NM rs[i]:=by simp[Hj,h]
def y7{i:Nat}(h:i<rs.length):wq rs i=rs[i].out:=by simp[wq,h]
def OG{i:Nat}(h:i<rs.length):zZ rs i=rs[i].eT:=by simp[zZ,h]
def za{x:ag}:x∈kj NM rs↔∃r∈rs,x∈NM r/\x∉rs.map (·.out):=by
 unfold kj;rw[(sY _).2,Kr];constructor
 ·rintro⟨i,h1,h2,h3⟩;rw[oQ h1]at h2;exact⟨rs[i],aA h1,h2,h3⟩
 ·rintro⟨r,h1,h2,h3⟩;obtain⟨i,hi,rfl⟩:=bB h1;exact⟨i,hi,by rw[oQ hi];exact h2,h3⟩
def WE(hS:mY (rs.map (·.out))){s m:Nat}(hs:s<rs.length)(h:(true,m)∈mZ NM rs s):∃hm:m<rs.length,rs[m].out∈NM rs[s]:=by
 unfold mZ at h;rw[oQ hs]at h;obtain⟨x,hx,he⟩:=aV.1 h;unfold sd at he;have h1:qk (rs.map (·.out)) x=true:=congrArg Prod.fst he;have h2:=congrArg Prod.snd he;simp only[h1,if_true]at h2;obtain⟨hp,p7⟩:=Hn h1;subst h2;rw[b6]at hp;exact⟨hp,by simp only[List.getElem_map]at p7;rw[p7];exact hx⟩
def WG(hS:mY (rs.map (·.out))){s m:Nat}(hs:s<rs.length)(h:(false,m)∈mZ NM rs s):m<(kj NM rs).length:=by
 unfold mZ at h;rw[oQ hs]at h;obtain⟨x,hx,he⟩:=aV.1 h;unfold sd at he;have h1:qk (rs.map (·.out)) x=false:=congrArg Prod.fst he;have h2:=congrArg Prod.snd he;simp only[h1,aT,if_false]at h2;have ua:x∉rs.map (·.out):=λhm=>by rw[(yW _ hS x).2 hm]at h1;cases h1
 have hm:x∈kj NM rs:=za.2 ⟨rs[s],aA hs,hx,ua⟩;obtain⟨hp,-⟩:=Hn ((yW _ (sY _).1 x).2 hm);rw[<- h2];exact hp
def tC(rs:List aN)(NM:aN->List ag)(file:ag->V):Nat->ag->V
 |0,_=>V0
 |f+1,x=>match rs.find? (λr=>decide (r.out=x)) with
  |some r=>ef r.eT ((NM r).map (tC rs NM file f))
  |none=>file x
def valOf(rs:List aN)(NM:aN->List ag)(file:ag->V)(x:ag):V:=tC rs NM file (rs.length+1) x
def zb(hn:(rs.map (·.out)).Nodup){r:aN}(hr:r∈rs):rs.find? (λq=>decide (q.out=r.out))=so r:=by
 induction rs with
 |nil=>cases hr
 |cons q l ih =>
  rw[aB,il]at hn;rcases bq.1 hr with rfl|h
  ·simp
  ·have fu:decide (q.out=r.out)=false:=cz λe=>hn.1 (by rw[e];exact jF h);rw[List.find?_cons,fu];exact ih hn.2 h
def qz{x:ag}(h:x∉rs.map (·.out)):rs.find? (λq=>decide (q.out=x))=none:=by
 rw[List.find?_eq_none];intro q hq;simp only[decide_eq_true_eq];intro e;exact h (e▸jF hq)
def Ks(h:lJ rs NM RK)(file:ag->V):∀(k f g:Nat) (x:ag),(x∈rs.map (·.out)->RK x<k)->k<f->k<g->tC rs NM file f x=tC rs NM file g x:=by
 intro k
 induction k with
 |zero =>
  intro f g x hx hf hg;obtain⟨f,rfl⟩:∃f',f=f'+1:=⟨f-1,aa⟩;obtain⟨g,rfl⟩:∃g',g=g'+1:=⟨g-1,aa⟩;have:x∉rs.map (·.out):=λhm=>by have:=hx hm;omega
  simp only[tC,qz this]
 |succ k ih =>
  intro f g x hx hf hg;obtain⟨f,rfl⟩:∃f',f=f'+1:=⟨f-1,aa⟩;obtain⟨g,rfl⟩:∃g',g=g'+1:=⟨g-1,aa⟩;by_cases hm:x∈rs.map (·.out)
  ·obtain⟨r,hr,rfl⟩:=aV.1 hm;simp only[tC,zb h.nodup hr]
   congr 1
   refine cQ λy hy=>ih f g y (λhym=>?_) aa aa;have:=h.Dk r hr y hy hym;have:=hx hm;omega
  ·simp only[tC,qz hm]
def FK(h:lJ rs NM RK)(file:ag->V){r:aN}(hr:r∈rs):valOf rs NM file r.out=ef r.eT ((NM r).map (valOf rs NM file)):=by
 unfold valOf
 conv=>lhs;unfold tC
 simp only[zb h.nodup hr]
 congr 1
 refine cQ λy hy=>Ks h file (rs.length-1) _ _ y (λhm=>?_) ?_ ?_
 ·have:=h.Dk r hr y hy hm;have:=h.low r hr;omega
 ·have:0<rs.length:=lA hr;omega
 ·omega
def QH(file:ag->V){x:ag}(h:x∉rs.map (·.out)):valOf rs NM file x=file x:=by
 unfold valOf tC;simp only[qz h]
def Dl{cB:List aN}(h:lJ rs NM RK)(p:cB.Perm rs)(file:ag->V)(x:ag):valOf cB NM file x=valOf rs NM file x:=by
 unfold valOf;rw[p.length_eq];generalize rs.length+1=f
 induction f generalizing x with
 |zero=>rfl
 |succ f ih =>
  unfold tC;by_cases hm:x∈rs.map (·.out)
  ·obtain⟨r,hr,rfl⟩:=aV.1 hm;rw[zb h.nodup hr,zb (h.perm p).nodup (p.mem_iff.2 hr)];simp only
   congr 1
   exact cQ λy _=>ih y
  ·rw[qz hm,qz (λhx=>hm (((p.map (·.out)).mem_iff).1 hx))]
def QI(h:lJ rs NM RK)(hS:mY (rs.map (·.out)))(D:nV)(file:ag->V)(res:Nat->V)(pW:D.ins=mZ NM rs)(hv:D.mH=(kj NM rs).map file)(qK:∀s,s<rs.length->res s=valOf rs NM file (wq rs s)){s:Nat}(hs:s<rs.length):er D res s=(NM rs[s]).map (valOf rs NM file):=by
 unfold er;rw[pW];unfold mZ;rw[oQ hs,List.map_map];refine cQ λx hx=>?_;simp only[Function.comp,JV,sd];rcases Bool.eq_false_or_eq_true (qk (rs.map (·.out)) x)with hh|hh
 ·obtain⟨hp,p7⟩:=Hn hh;have hp':nY (rs.map (·.out)) x<rs.length:=by simpa using hp
  simp only[hh,if_true];rw[qK _ hp',y7 hp'];simp only[List.getElem_map]at p7;rw[p7]
 ·have ua:x∉rs.map (·.out):=λhm=>by rw[(yW _ hS x).2 hm]at hh;cases hh
  have hm:x∈kj NM rs:=za.2 ⟨rs[s],aA hs,hx,ua⟩;obtain⟨hp,p7⟩:=Hn ((yW _ (sY _).1 x).2 hm);have Lu:nY (kj NM rs) x<(kj NM rs).length:=hp;have ZG:(kj NM rs)[nY (kj NM rs) x]=x:=p7;simp only[hh,aT,if_false,hv];rw[QH file ua];simp[List.getD,Lu,ZG]
end
def Kt(n:Nat)(h:n<18446744073709551616):(⟨(Lib.decDigits n).toArray⟩:ag).size<=20:=by
 show(Lib.decDigits n).toArray.size<=20;rw[List.size_toArray,Lib.decDigits_length];exact Lib.nDigits_le20 n h
def lh(l:List UInt8):(bytes l).size=l.length:=by
 show l.toArray.size=l.length;simp
def Ku{M:Nat}:∀{ts:List ag},(∀t∈ts,t.size<=M)->gy ts<=M*ts.length
 | [],_=>by simp[gy]
 |t::ts,h=>by
  have h1:=h t aj;have h2:=Ku (ts:=ts) λx hx=>h x (by simp[hx]);simp only[gy,aB,List.sum_cons,List.length_cons,Nat.mul_add]at h2 |-;omega
def Kv{M:Nat}:∀{ts:List ag},(∀t∈ts,t.size<=M)->nU ts<=255*M*ts.length
 | [],_=>by simp[nU]
 |t::ts,h=>by
  have h1:=h t aj;have h2:=Kv (ts:=ts) λx hx=>h x (by simp[hx]);have h3:=BD t.data.toList;have h4:t.data.toList.length=t.size:=by rw[Array.length_toList];rfl
  simp only[nU,aB,List.sum_cons,List.length_cons,Nat.mul_add]at h2 |-;rw[h4]at h3;have h5:255*t.size<=255*M:=Nat.mul_le_mul_left _ h1;omega
def WH(x y:ag):Lib.minS x y=x\/Lib.minS x y=y:=by
 unfold Lib.minS;split
 ·exact .inl rfl
 ·exact .inr rfl
def FL:∀(l:List ag) (x:ag),l.foldl Lib.minS x=x\/l.foldl Lib.minS x∈l
 | [],x=>.inl rfl
 |y::l,x=>by
  simp only[List.foldl_cons];rcases FL l (Lib.minS x y)with h|h
  ·rw[h];rcases WH x y with e|e
   ·exact .inl e
   ·exact .inr (by rw[e];simp)
  ·exact .inr (by simp[h])
def TT(l:List ag)(h:l≠[]):Lib.minOfS l∈l:=by
 unfold Lib.minOfS;cases l with
 |nil=>exact absurd rfl h
 |cons y l =>
  rcases FL (y::l) ((y::l).headD bF)with e|e
  ·rw[e];simp
  ·exact e
def Dm{r:Int}{vs:List V}(hl:vs.length<=4)(h:∀v∈vs,v.2.size<=100):(ef r vs).2.size<=100:=by
 have ht:∀t∈vs.map (·.2),t.size<=100:=λt ht=>by
  obtain⟨v,hv,rfl⟩:=aV.1 ht;exact h v hv
 unfold ef;split
 ·have:=q7 vs;exact aS (Kt _ aa) aa
 ·split
  ·exact aW _
  ·show(gN r (vs.map (·.2))).size<=100;unfold gN;split
   ·rw[lh];simp;omega
   ·split
    ·rw[lh];simp;omega
    ·split
     ·have:=Kv ht;rw[b6]at this;exact aS (Kt _ aa) aa
     ·split
      ·unfold ju;split
       ·exact aW _
       ·rename_i fu;exact ht _ (TT _ fu)
      ·exact aW _
def FM{rs:List aN}{NM:aN->List ag}(h4:∀r∈rs,(NM r).length<=4){file:ag->V}(hf:∀x,(file x).2.size<=100):∀f x,(tC rs NM file f x).2.size<=100
 |0,x=>by simp[tC,V0]
 |f+1,x=>by
  unfold tC;cases hr:rs.find? (λr=>decide (r.out=x)) with
  |none=>exact hf x
  |some r =>
   have hm:=List.mem_of_find?_eq_some hr;refine Dm (by rw[b6];exact h4 r hm) λv hv=>?_;obtain⟨y,_,rfl⟩:=aV.1 hv;exact FM h4 hf f y
structure gP where
 cB:List aN
 St:Nat
 Or:Nat
 cX:Nat->Nat
 sv:Value
section
variable {Fin:br}{o:aL}{w:ae}
def AM(F:gP)(b:Nat):Prop:=b=F.St\/b=F.Or\/(∃s,s<F.cB.length/\b=F.cX s)\/∃l c,F.sv=.slice (so ⟨b,0,we⟩) l c
structure Aa(o:aL)(w:ae)(lo:Nat)(rs:List aN)(NM:aN->List ag)(F:gP)(y:Value):Prop where
 lay:wS lo NM F.cB F.St F.Or F.cX F.sv y w
 perm:F.cB.Perm rs
 sorted:∀i j (hi:i<F.cB.length) (hj:j<F.cB.length),i<j->¬rN F.cB[j] F.cB[i]<0
 own:∀b,AM F b->o b
def Aa.ge{lo:Nat}{rs:List aN}{NM:aN->List ag}{F:gP}{y:Value}(h:Aa o w lo rs NM F y){b:Nat}(hb:AM F b):lo<=b:=by
 rcases hb with rfl|rfl|⟨s,hs,rfl⟩|⟨l,c,e⟩
 ·exact h.lay.st.1
 ·exact h.lay.or.1
 ·exact h.lay.ib s hs
 ·rcases h.lay.src with⟨h1,-⟩|⟨g,cap,h1,h2,h3,h4,h5⟩
  ·rw[h1]at e;cases e
  ·rw[h1]at e;cases e;exact h3
def Aa.keep{lo:Nat}{rs:List aN}{NM:aN->List ag}{F:gP}{y:Value}{o':aL}{w':ae}(h:Aa o w lo rs NM F y)(pB:∀b,AM F b->o' b)(hz:w.heap.size<=w'.heap.size)(e:∀b,AM F b->w'.heap[b]?=w.heap[b]?):Aa o' w' lo rs NM F y where
 lay:={
  val:=h.lay.val
  steps:=kg h.lay.steps (e _ (.inl rfl)) (λs hs=>e _ (.inr (.inr (.inl ⟨s,hs,rfl⟩)))) hz
  ord:=World.rowIs.of_block h.lay.ord (e _ (.inr (.inl rfl)))
  src:=by
   rcases h.lay.src with h1|⟨g,cap,h1,h2,h3,h4,h5⟩
   ·exact .inl h1
   ·exact .inr ⟨g,cap,h1,h2,h3,aa,dS h5 (e g (.inr (.inr (.inr ⟨_,_,h1⟩))))⟩
  st:=⟨h.lay.st.1,by have:=h.lay.st.2;omega⟩
  or:=⟨h.lay.or.1,by have:=h.lay.or.2;omega⟩
  ib:=h.lay.ib}
 perm:=h.perm
 sorted:=h.sorted
 own:=pB
def OH(Rb s:Nat)(r:Int)(x:Option (Nat×List V))(w:ae):Prop:=match x with
 |none=>w.cell? ⟨Rb,s*4,we⟩=so (.bool false)/\w.cell? ⟨Rb,s*4+1,we⟩=so (.slice we 0 0)/\w.cell? ⟨Rb,s*4+2,we⟩=so (.bool false)/\w.cell? ⟨Rb,s*4+3,we⟩=so (.string bF)
 |some (B,vs)=>w.cell? ⟨Rb,s*4,we⟩=so (.bool true)/\w.cell? ⟨Rb,s*4+1,we⟩=so (.slice (so ⟨B,0,we⟩) vs.length vs.length)/\w.cell? ⟨Rb,s*4+2,we⟩=so (.bool (ef r vs).1)/\w.cell? ⟨Rb,s*4+3,we⟩=so (.string (ef r vs).2)
def OH.keep{Rb s:Nat}{r:Int}{x:Option (Nat×List V)}{w w':ae}(h:OH Rb s r x w)(e:w'.heap[Rb]?=w.heap[Rb]?):OH Rb s r x w':=by
 cases x with
 |none=>exact⟨(cell_of e).trans h.1,(cell_of e).trans h.2.1,(cell_of e).trans h.2.2.1,(cell_of e).trans h.2.2.2⟩
 |some y=>exact⟨(cell_of e).trans h.1,(cell_of e).trans h.2.1,(cell_of e).trans h.2.2.1,(cell_of e).trans h.2.2.2⟩
structure Ab where
 bb:Nat
 p:Option Addr
 Ru:Nat
 c:Nat
 Rb:Nat
 rs:List aN
 NM:aN->List ag
 NB:aN->Nat
 RK:ag->Nat
def zd(B:Ab)(fd:Option (Nat×gP))(old:Nat->Option (Nat×List V))(b:Nat):Prop :=
 b=B.bb\/b=B.Ru\/b=B.Rb\/b=1\/(∃r∈B.rs,B.NM r≠[]/\b=B.NB r)\/(∃lo F,fd=so (lo,F)/\AM F b)\/∃s vs,s<B.rs.length/\old s=so (b,vs)
structure jO(o:aL)(w:ae)(B:Ab)(fd:Option (Nat×gP))(old:Nat->Option (Nat×List V)):Prop where
 own:∀b,zd B fd old b->o b
 right:lJ B.rs B.NM B.RK
 rules:mA o w B.p B.Ru B.c B.rs B.NM B.NB
 apart:B.Ru≠B.bb/\B.Rb≠B.bb/\(∀r∈B.rs,B.NM r≠[]->B.NB r≠B.bb)/\4<=B.Rb/\4<=B.bb/\B.Ru≠B.Rb/\∀r∈B.rs,B.NM r≠[]->B.NB r≠B.Rb
 blk:∃y0 y1 y2,w.heap[B.bb]?=so (Ls (.slice B.p B.rs.length B.c) (.int .u32 (if fd.isSome then 1 else 0)) (.int .i32 0) (.int .u32 0) y0 y1 y2 (.slice (so ⟨B.Rb,0,we⟩) B.rs.length B.rs.length))/\∀lo F,fd=so (lo,F)->Aa o w lo B.rs B.NM F (.agg #[y0,y1,y2])
 lo:∀lo F,fd=so (lo,F)->B.Rb<lo/\B.bb<lo
 fresh:fd=we->∀s,s<B.rs.length->old s=we
 runs:∃cs,w.heap[B.Rb]?=so (.cells cs 222 (0,0))/\cs.size=B.rs.length*4
 idle:∀s,s<B.rs.length->∀r,(∀lo F,fd=so (lo,F)->r=zZ F.cB s)->OH B.Rb s r (old s) w
 olds:∀s b vs,s<B.rs.length->old s=so (b,vs)->gp w b vs/\vs.length<=100000/\B.Rb<b/\B.bb<b
 pow:jM w
def jO.keep{B:Ab}{fd:Option (Nat×gP)}{old:Nat->Option (Nat×List V)}{o':aL}{w':ae}(h:jO o w B fd old)(pB:∀b,o b->o' b)(hz:w.heap.size<=w'.heap.size)(e:∀b,zd B fd old b->w'.heap[b]?=w.heap[b]?):jO o' w' B fd old where
 own b hb:=pB _ (h.own b hb)
 right:=h.right
 rules:=h.rules.keep pB (e _ (.inr (.inl rfl))) λr hr hn=>e _ (.inr (.inr (.inr (.inr (.inl ⟨r,hr,hn,rfl⟩)))))
 apart:=h.apart
 blk:=by
  obtain⟨y0,y1,y2,h1,h2⟩:=h.blk;exact⟨y0,y1,y2,(e _ (.inl rfl)).trans h1,λlo F hf=>(h2 lo F hf).keep (λb hb=>pB _ ((h2 lo F hf).own b hb)) hz λb hb=>e b (.inr (.inr (.inr (.inr (.inr (.inl ⟨lo,F,hf,hb⟩))))))⟩
 lo:=h.lo
 fresh:=h.fresh
 runs:=by
  obtain⟨cs,h1,h2⟩:=h.runs;exact⟨cs,(e _ (.inr (.inr (.inl rfl)))).trans h1,h2⟩
 idle s hs r hr:=(h.idle s hs r hr).keep (e _ (.inr (.inr (.inl rfl))))
 olds s b vs hs ho:=by
  obtain⟨h1,h2⟩:=h.olds s b vs hs ho;exact⟨h1.of_block (e b (.inr (.inr (.inr (.inr (.inr (.inr ⟨s,vs,hs,ho⟩))))))),h2⟩
 pow q hq:=(cell_of (e 1 (.inr (.inr (.inr (.inl rfl)))))).trans (h.pow q hq)
end
def FN{α:Type}{lt:α->α->Prop}(ha:∀x y,lt x y->lt y x->False):∀a b:List α,a.Pairwise lt->b.Pairwise lt->(∀x,x∈a↔x∈b)->a=b
 | [],[],_,_,_=>rfl
 | [],y::b,_,_,h=>by have:=(h y).2 aj;cases this
 |x::a,[],_,_,h=>by have:=(h x).1 aj;cases this
 |x::a,y::b,h1,h2,h=>by
  rw[List.pairwise_cons]at h1 h2;have e:x=y:=by
   rcases bq.1 ((h x).1 aj)with e|hx
   ·exact e
   ·rcases bq.1 ((h y).2 aj)with e|hy
    ·exact e.symm
    ·exact(ha _ _ (h1.1 y hy) (h2.1 x hx)).elim
  subst e;rw[FN ha a b h1.2 h2.2 λz=>⟨λhz=>?_,λhz=>?_⟩]
  ·rcases bq.1 ((h z).1 (by simp[hz]))with e|D2
   ·subst e;exact(ha _ _ (h1.1 z hz) (h1.1 z hz)).elim
   ·exact D2
  ·rcases bq.1 ((h z).2 (by simp[hz]))with e|D2
   ·subst e;exact(ha _ _ (h2.1 z hz) (h2.1 z hz)).elim
   ·exact D2
def wX{a b:List ag}(ha:mY a)(hb:mY b)(h:∀x,x∈a↔x∈b):a=b:=by
 refine FN (lt:=λx y=>Lib.compareBytes x.toList y.toList<0) (λx y h1 h2=>?_) a b (ba.2 λi j hi hj wh=>ha i j hi hj wh) (ba.2 λi j hi hj wh=>hb i j hi hj wh) h;rw[rh x.toList y.toList]at h2;omega
def Ac{rs cB:List aN}{NM:aN->List ag}(p:cB.Perm rs):kj NM cB=kj NM rs:=by
 refine wX (sY _).1 (sY _).1 λx=>?_;show x∈kj NM cB↔x∈kj NM rs;rw[za,za];constructor
 ·rintro⟨r,h1,h2,h3⟩;exact⟨r,p.mem_iff.1 h1,h2,λh=>h3 (((p.map (·.out)).mem_iff).2 h)⟩
 ·rintro⟨r,h1,h2,h3⟩;exact⟨r,p.mem_iff.2 h1,h2,λh=>h3 (((p.map (·.out)).mem_iff).1 h)⟩
section
variable {Fin:br}{o:aL}{w:ae}
structure fW(ex:Nat->Prop)(o:aL)(w:ae)(o':aL)(w':ae):Prop where
 bS:bJ ak L0 o' w'
 more:∀b,o b->o' b
 new:∀b,o' b->o b\/w.heap.size<=b
 size:w.heap.size<=w'.heap.size
 same:∀b,b<w.heap.size->¬ex b->w'.heap[b]?=w.heap[b]?
def fW.refl{ex:Nat->Prop}(hF:bJ ak L0 o w):fW ex o w o w:=⟨hF,λ_ h=>h,λ_ h=>.inl h,af _,λ_ _ _=>rfl⟩
def fW.trans{ex:Nat->Prop}{o1 o2:aL}{w1 w2:ae}(h:fW ex o w o1 w1)(k:fW ex o1 w1 o2 w2):fW ex o w o2 w2 :=
 ⟨k.bS,λb hb=>k.more b (h.more b hb),λb hb=>(k.new b hb).elim (λq=>h.new b q) λq=>.inr (by have:=h.size;omega),by have:=h.size;have:=k.size;omega,λb hb hx=>(k.same b (by have:=h.size;omega) hx).trans (h.same b hb hx)⟩
def fW.mono{ex ex':Nat->Prop}{o1:aL}{w1:ae}(h:fW ex o w o1 w1)(he:∀b,ex b->ex' b):fW ex' o w o1 w1:=⟨h.bS,h.more,h.new,h.size,λb hb hx=>h.same b hb λq=>hx (he b q)⟩
def fW.kJ{ex:Nat->Prop}{v:Value}{o1:aL}{w1:ae}(h:iz o w v o1 w1):fW ex o w o1 w1:=by
 refine⟨h.bS,λb hb=>?_,λb hb=>?_,h.size,λb hb _=>h.old b hb⟩
 ·rw[h.own];exact .inl hb
 ·rw[h.own]at hb;exact hb.imp id λq=>q.1
def jO.found{B:Ab}{old:Nat->Option (Nat×List V)}{o':aL}{w':ae}(h:jO o w B we old)(hF:bJ ak L0 o w)(P:tB o w B.bb B.rs B.NM (λy0 y1 y2=>Ls (.slice B.p B.rs.length B.c) (.int .u32 1) (.int .i32 0) (.int .u32 0) y0 y1 y2 (.slice (so ⟨B.Rb,0,we⟩) B.rs.length B.rs.length)) o' w'):
  ∃F,jO o' w' B (so (w.heap.size,F)) old:=by
 obtain⟨cB,St,Or,cX,sv,y0,y1,y2,h1,h2,h3,h4⟩:=P.lay;have up:∀b,o b->o' b:=λb hb=>by rw[P.own];exact .inl hb
 have nw:∀b,w.heap.size<=b->b<w'.heap.size->o' b:=λb q1 q2=>by rw[P.own];exact .inr ⟨q1,q2⟩
 have lt:∀b,zd B we old b->b<w.heap.size:=λb hb=>hF.lt (h.own b hb);have fo:∀b,AM ⟨cB,St,Or,cX,sv⟩ b->o' b:=λb hb=>by
  rcases hb with rfl|rfl|⟨s,hs,rfl⟩|⟨l,c,e⟩
  ·exact nw _ h3.st.1 h3.st.2
  ·exact nw _ h3.or.1 h3.or.2
  ·exact nw _ (h3.ib s hs) (h3.steps.lt s hs)
  ·rcases h3.src with⟨q1,-⟩|⟨g,cap,q1,q2,q3,q4,q5⟩
   ·simp only at e;rw[q1]at e;cases e
   ·simp only at e;rw[q1]at e;cases e;exact nw _ q3 q4
 have sm:∀b,zd B we old b->b≠B.bb->w'.heap[b]?=w.heap[b]?:=λb hb hn=>P.old b (lt b hb) hn;obtain⟨a1,a2,a3,a4,a5,a6,a7⟩:=h.apart;refine⟨⟨cB,St,Or,cX,sv⟩,λb hb=>?_,h.right,h.rules.keep up (sm _ (.inr (.inl rfl)) a1) λr hr hn=>sm _ (.inr (.inr (.inr (.inr (.inl ⟨r,hr,hn,rfl⟩))))) (a3 r hr hn),h.apart,⟨y0,y1,y2,by simpa using h4,λlo F hf=>?_⟩,λlo F hf=>?_,(λhf=>by cases hf),?_,λs hs r hr=>?_,λs b vs hs ho=>?_,λq hq=>?_⟩
 ·rcases hb with hb|hb|hb|hb|hb|⟨lo,F,hf,hb⟩|hb
  ·exact up _ (h.own b (.inl hb))
  ·exact up _ (h.own b (.inr (.inl hb)))
  ·exact up _ (h.own b (.inr (.inr (.inl hb))))
  ·exact up _ (h.own b (.inr (.inr (.inr (.inl hb)))))
  ·exact up _ (h.own b (.inr (.inr (.inr (.inr (.inl hb))))))
  ·cases hf;exact fo b hb
  ·exact up _ (h.own b (.inr (.inr (.inr (.inr (.inr (.inr hb)))))))
 ·cases hf;exact⟨h3,h1,h2,fo⟩
 ·cases hf;exact⟨lt _ (.inr (.inr (.inl rfl))),lt _ (.inl rfl)⟩
 ·obtain⟨cs,q1,q2⟩:=h.runs;exact⟨cs,(sm _ (.inr (.inr (.inl rfl))) a2).trans q1,q2⟩
 ·have:=h.fresh rfl s hs;rw[this];have q:=h.idle s hs r (λlo F hf=>by cases hf);rw[this]at q;exact q.keep (sm _ (.inr (.inr (.inl rfl))) a2)
 ·rw[h.fresh rfl s hs]at ho;cases ho
 ·exact(cell_of (a:=⟨1,q,we⟩) (sm 1 (.inr (.inr (.inr (.inl rfl)))) aa)).trans (h.pow q hq)
def QJ(hF:bJ ak L0 o w)(B:Ab)(fd:Option (Nat×gP))(old:Nat->Option (Nat×List V))(h:jO o w B fd old):
  bC ak (XB ak Fin 0) 44 #[.pointer (so ⟨B.bb,0,we⟩)] o w λv o' w'=>fW (·=B.bb) o w o' w'/\(∃lo F mid,jO o' w' B (so (lo,F)) old/\(fd=so (lo,F)\/fd=we/\lo=w.heap.size)/\w.heap.size<=mid/\(∀b,zd B (so (lo,F)) old b->b<mid)/\∀g,v.ownBlock=so g->mid<=g)/\Cl ak L0 o' v/\mg w.heap.size (kj B.NM B.rs) v w'/\∀g l c,v=.slice (so ⟨g,0,we⟩) l c->o' g:=by
 have W:=bZ (P:=ak) (Fin:=Fin) (d:=0);refine bt W func44 aG ?_;walk_nrmf Tryz.f44;have wU:=h.own B.bb (.inl rfl);refine aD ?_;have hl:bC ak (XB ak Fin 0) 73 #[.pointer (so ⟨B.bb,0,we⟩)] o w λv o' w'=>v=.pointer (so ⟨B.bb,4,we⟩)/\fW (·=B.bb) o w o' w'/\∃lo F,jO o' w' B (so (lo,F)) old/\(fd=so (lo,F)\/fd=we/\lo=w.heap.size):=by
  obtain⟨y0,y1,y2,hb,hp⟩:=h.blk;cases fd with
  |none =>
   refine(M5 hF B.bb B.Ru B.c B.p B.rs B.NM B.NB h.rules wU h.apart.1 h.apart.2.2.1 _ y0 y1 y2 _ (by simpa using hb)).mono ?_;rintro v o' w' ⟨rfl,P⟩;refine⟨rfl,⟨P.bS,λb hb=>by rw[P.own];exact .inl hb,λb hb=>by rw[P.own]at hb;exact hb.imp id λq=>q.1,P.size,λb hb hn=>P.old b hb hn⟩,?_⟩;obtain⟨F,hq⟩:=h.found hF P;exact⟨_,F,hq,.inr ⟨rfl,rfl⟩⟩
  |some f =>
   obtain⟨lo,F⟩:=f;refine(Dg hF B.bb wU _ _ _ y0 y1 y2 _ (by simpa using hb)).mono ?_;rintro v o' w' ⟨rfl,N⟩;have hW:fW (·=B.bb) o w o' w':=fW.kJ N;exact⟨rfl,hW,lo,F,h.keep hW.more hW.size λb hb=>N.old b (hF.lt (h.own b hb)),.inl rfl⟩
 refine eH W rfl aG rfl func73 ah rfl ax rfl (hl.mono ?_);clear hl;rintro v1 o1 w1 ⟨rfl,W1,lo,F,h1,ahX⟩;refine aD ?_;obtain⟨y0,y1,y2,hb,hp⟩:=h1.blk;have P:=hp lo F rfl;have ahY:=W1.more _ wU;have qP:=P.lay.val;simp only[Value.agg.injEq]at qP;have UQ:y2=F.sv:=by
  have:=congrArg (λa:Array Value=>a[2]?) qP;simpa using this
 obtain⟨-,-,-,-,-,-,c6,-,-⟩:=oP hb;rw[UQ]at c6;have rM:=P.lay.src;rw[Ac P.perm]at rM;have fG:Cl ak L0 o1 F.sv:=by
  rcases rM with⟨q1,-⟩|⟨g,cap,q1,-⟩
  ·rw[q1];exact nR
  ·rw[q1];exact eK (P.own g (.inr (.inr (.inr ⟨_,_,q1⟩))))
 refine rdC W1.bS ahY c6 λ_=>?_;refine aD ?_;have hC:bC ak (XB ak Fin 0) 51 #[F.sv] o1 w1 λv o' w'=>iz o1 w1 v o' w'/\mg w1.heap.size (kj B.NM B.rs) v w':=by
  have hlen:(kj B.NM B.rs).length<=100000:=by
   have q1:=yY (mI (B.rs.map (·.out)) (Hj B.NM B.rs) B.rs.length);have q2:=rn (B.rs.map (·.out)) (Hj B.NM B.rs) B.rs.length (λi hi=>by rw[oQ hi];exact h.right.four _ (aA hi)) B.rs.length (af _);have q3:=h.rules.ui;have:(kj B.NM B.rs).length<=(mI (B.rs.map (·.out)) (Hj B.NM B.rs) B.rs.length).length:=q1;omega
  rcases rM with⟨q1,q2⟩|⟨g,cap,q1,q2,q3,q4,q5⟩
  ·exact Kq W1.bS F.sv 0 0 we _ (by rw[q1,q2];rfl) hlen (λ_=>q2) (λfu=>absurd q2 fu) (λk hk=>by rw[q2]at hk;simp at hk) fG
  ·exact Kq W1.bS F.sv g cap (so ⟨g,0,we⟩) _ q1 hlen (λe=>by cases e) (λ_=>⟨rfl,P.own g (.inr (.inr (.inr ⟨_,_,q1⟩)))⟩) q5 fG
 refine eH W rfl aG rfl func51 ah rfl ax rfl (hC.mono ?_);rintro v2 o2 w2 ⟨N2,t2⟩;refine aD ?_;have W2:fW (·=B.bb) o1 w1 o2 w2:=fW.kJ N2;have W02:=W1.trans W2;refine⟨.inr trivial,trivial,_,resultsC_tmp (t:=2) aG _,W02,⟨lo,F,w1.heap.size,h1.keep W2.more W2.size λb hb=>N2.old b (W1.bS.lt (h1.own b hb)),ahX,W1.size,λb hb=>W1.bS.lt (h1.own b hb),λg hg=>?_⟩,by simpa[Act.eval] using N2.cl,by simpa[Act.eval] using mh t2 W1.size (af _) λ_ _ _=>rfl,λg l c e=>?_⟩
 ·have e':v2.ownBlock=so g:=by simpa[Act.eval] using hg
  rcases t2 with⟨q1,-⟩|⟨g',cap,q1,q2,q3,q4,q5⟩
  ·rw[q1]at e';cases e'
  ·rw[q1]at e';cases e';exact q3
 have e':v2=.slice (so ⟨g,0,we⟩) l c:=by simpa[Act.eval] using e
 rcases t2 with⟨q1,-⟩|⟨g',cap,q1,q2,q3,q4,q5⟩
 ·rw[q1]at e';cases e'
 ·rw[q1]at e';cases e';rw[N2.own];exact .inr ⟨q3,q4⟩
end
section
open Go.ChangeShapes Go.WideShapes Go.Deep
def vO{ts:List TypeId}{k:IntKind}{P:Program}{w:ae}{t u:TypeId}{cs:Array Value}(Vj:P.cellTypes P.depth t=so ts)(eP:∀x∈ts,P.underlying x=so (.int k))(h:Row.ok P w .any 0 t cs)(f:Rn):cs.map (val f)=cs:=by
 obtain⟨Rt,e,-,hr⟩:=h;rw[Vj]at e;cases e;apply fC;intro i;rw[aM];cases hi:cs[i]? with
 |none=>rfl
 |some v =>
  obtain⟨u,hu,ho⟩:=hr i v hi;have:=eP u (cL hu);unfold Cell.ok at ho;rw[this]at ho;cases v<;>simp at ho;simp
def QK{w:ae}(h:w.ShapedOpen ak):bJ ak L0 (λb=>b<4) w:=by
 have Oc:ak.globals.size=4:=ah;have key:∀b,b<4->∃cs t,w.heap[b]?=so (.cells cs t)/\∀f:Rn,cs.map (val f)=cs:=by
  intro b hb;have nD:b=0\/b=1\/b=2\/b=3:=aa;rcases nD with rfl|rfl|rfl|rfl
  ·obtain⟨cs,e1,-,e2⟩:=h.1 0 (#[.int .i64 0]) 3 (by rw[Oc];omega) ah;exact⟨cs,_,e1,vO (ts:=[3]) (k:=.i64) (u:=0) ah (λx hx=>by rw[List.mem_singleton.1 hx];exact underlying3) (e2 ah)⟩
  ·obtain⟨cs,e1,-,e2⟩:=h.1 1 (Array.replicate 20 (.int .u64 0)) 342 (by rw[Oc];omega) ah;exact⟨cs,_,e1,vO (ts:=List.replicate 20 212) (k:=.u64) (u:=0) ah (λx hx=>by rw[ga hx];exact underlying212) (e2 ah)⟩
  ·obtain⟨cs,e1,-,e2⟩:=h.1 2 (Array.replicate 32 (.int .u8 0)) 347 (by rw[Oc];omega) ah;exact⟨cs,_,e1,vO (ts:=List.replicate 32 5) (k:=.u8) (u:=0) ah (λx hx=>by rw[ga hx];exact underlying5) (e2 ah)⟩
  ·obtain⟨cs,e1,-,e2⟩:=h.1 3 (Array.replicate 64 (.int .u8 0)) 348 (by rw[Oc];omega) ah;exact⟨cs,_,e1,vO (ts:=List.replicate 64 5) (k:=.u8) (u:=0) ah (λx hx=>by rw[ga hx];exact underlying5) (e2 ah)⟩
 refine⟨λb hb=>?_,λb hb=>by rw[Oc]at hb;exact hb,?_⟩
 ·obtain⟨cs,t,e1,e2⟩:=key b hb;exact⟨_,e1,rfl,λf _=>by simp[obj,e2 f]⟩
 ·obtain⟨cs,t,e1,-⟩:=key 3 aa;have:=(aI.1 e1).1;rw[Oc];omega
def ahZ{q:Nat}(hq:q<20):(match (YtgjekaaknjgnmaaGreatDoor.Rows.laid_internal_strconv_uint64pow10:DataW Unit) with|.agg l=>l[q]? | _=>we)=so (.lit (.int .u64 ((10^q:Nat):Int))):=by
 have Cm:q=0\/q=1\/q=2\/q=3\/q=4\/q=5\/q=6\/q=7\/q=8\/q=9\/q=10\/q=11\/q=12\/q=13\/q=14\/q=15\/q=16\/q=17\/q=18\/q=19:=aa;rcases Cm with rfl|rfl|rfl|rfl|rfl|rfl|rfl|rfl|rfl|rfl|rfl|rfl|rfl|rfl|rfl|rfl|rfl|rfl|rfl|rfl<;>rfl
def M7{w:ae}{r:List (String×DataW Unit)}(hr:r=[("math/bits.deBruijn32tab",YtgjekaaknjgnmaaGreatDoor.Rows.laid_math_bits_deBruijn32tab),("math/bits.deBruijn64tab",YtgjekaaknjgnmaaGreatDoor.Rows.laid_math_bits_deBruijn64tab),("internal/strconv.uint64pow10",YtgjekaaknjgnmaaGreatDoor.Rows.laid_internal_strconv_uint64pow10)])(h:laidMetH ak r w):jM w:=by
 subst hr;rw[MakeChecks.laidMetH_plain _ _ _ ah]at h;obtain⟨ps,⟨g0,t0,cs0,f0,p0,q0,YR,ht0,RV,D3,⟨g1,t1,tQ,f1,p1,q1,HQ,ht1,Ie,hd1,⟨g2,t2,cs2,f2,p2,q2,Bs,ht2,NN,U2,-,-⟩,-⟩,-⟩,-,-⟩:=h;clear D3 hd1 RV Ie YR HQ ht0 ht1;have e1:ak.globalNamed "internal/strconv.uint64pow10" = so 1:=ah;have e2:(ak.globals[1]?).map (·.type)=so 342:=ah;obtain rfl:=aP (e1.symm.trans Bs);obtain rfl:=aP (e2.symm.trans ht2);obtain⟨xs,m,-,hx,fG,Yg,hel⟩:=DataW.trod_array underlying342 U2;have c1:ak.cellsOf 212=1:=ah;intro q hq;have hp:=ahZ hq;rw[(jP hx).1]at hp;simp only[List.getElem?_map]at hp;obtain⟨y,hy,e3⟩:=aH.1 hp;have Kw:=hel q hq;rw[hy,c1]at Kw;obtain⟨n,k1,k2,-⟩:=DataW.trod_int underlying212 Kw;rw[k2]at e3;simp only[DataW.lit.injEq,Lit.int.injEq,true_and]at e3;subst e3;have:=World.var?_cell Bs NN q;rw[this];rw[Nat.mul_one]at k1;have k3:=congrArg (λl=>l[0]?) k1;simp only[List.getElem?_take,List.getElem?_drop,Array.getElem?_toList]at k3;simpa using k3
end
open Go.ConcR (Payload)
section
variable {Fin:br}{o:aL}{w:ae}
def qm(B:Ab)(F:gP)(file:ag->V)(s:Nat):List V:=(Hj B.NM F.cB s).map (valOf B.rs B.NM file)
def uf(B:Ab)(F:gP)(file:ag->V)(s:Nat):V:=valOf B.rs B.NM file (wq F.cB s)
def Ad(B:Ab)(F:gP)(file:ag->V)(Vb bn Nb Mb:Nat)(ch:Nat->Nat):nV where
 n:=B.rs.length
 bn:=bn
 Lb:=B.bb
 Lo:=4
 St:=F.St
 Vb:=Vb
 Rb:=B.Rb
 Nb:=Nb
 Mb:=Mb
 kG:=zZ F.cB
 ins:=mZ B.NM F.cB
 cX:=F.cX
 mH:=(kj B.NM B.rs).map file
 ch:=ch
def ze(B:Ab)(F:gP)(k:Nat):Nat:=(eL (mZ B.NM F.cB) F.cB.length F.cB.length).getD k 0
def M8{B:Ab}{F:gP}(hR:lJ B.rs B.NM B.RK)(hp:F.cB.Perm B.rs)(hS:mY (F.cB.map (·.out))):
  (eL (mZ B.NM F.cB) F.cB.length F.cB.length).length=F.cB.length/\pI F.cB.length (eL (mZ B.NM F.cB) F.cB.length F.cB.length)/\(∀s,s<F.cB.length->s∈eL (mZ B.NM F.cB) F.cB.length F.cB.length)/\oO (mZ B.NM F.cB) (eL (mZ B.NM F.cB) F.cB.length F.cB.length):=by
 have Z8:=hR.perm hp;refine TD (mZ B.NM F.cB) F.cB.length (λs=>B.RK (wq F.cB s)) (λs hs=>?_) (λs hs m hm=>?_)
 ·rw[y7 hs];exact Z8.low _ (aA hs)
 ·obtain⟨h1,h2⟩:=WE hS hs hm;refine⟨h1,?_⟩;rw[y7 h1,y7 hs];exact Z8.Dk _ (aA hs) _ h2 (jF (aA h1))
def qo{B:Ab}{F:gP}(hR:lJ B.rs B.NM B.RK)(hp:F.cB.Perm B.rs)(hS:mY (F.cB.map (·.out)))(file:ag->V)(Vb bn Nb Mb:Nat)(ch:Nat->Nat){s:Nat}(hs:s<B.rs.length):er (Ad B F file Vb bn Nb Mb ch) (uf B F file) s=qm B F file s:=by
 have rJ:s<F.cB.length:=by rw[hp.length_eq];exact hs
 rw[QI (hR.perm hp) hS (Ad B F file Vb bn Nb Mb ch) file (uf B F file) rfl (by show(kj B.NM B.rs).map file=_;rw[Ac hp]) (λs hs=>by show valOf B.rs B.NM file _=_;rw[Dl hR hp]) rJ];unfold qm;rw[oQ rJ];exact cQ λx _=>Dl hR hp file x
def FO{B:Ab}{F:gP}(hR:lJ B.rs B.NM B.RK)(hp:F.cB.Perm B.rs)(file:ag->V){s:Nat}(hs:s<B.rs.length):uf B F file s=ef (zZ F.cB s) (qm B F file s):=by
 have rJ:s<F.cB.length:=by rw[hp.length_eq];exact hs
 unfold uf qm;rw[y7 rJ,OG rJ,oQ rJ];exact FK hR file (hp.mem_iff.1 (aA rJ))
def sZ{w:ae}{a b:Nat}{x y:Obj}(ha:w.heap[a]?=so x)(hb:w.heap[b]?=so y)(h:x≠y):a≠b:=λe=>by
 subst e;rw[ha]at hb;exact h (aP hb)
def TU{B:Ab}{lo:Nat}{F:gP}{old:Nat->Option (Nat×List V)}{file:ag->V}{Vb bn Nb Mb nv:Nat}{ch:Nat->Nat}{o':aL}{w':ae}(hF:bJ ak L0 o w)(h:jO o w B (so (lo,F)) old)(AN:∀x,(file x).2.size<=100)(Yf:o Vb)(hVr:Vb≠B.Rb)(hv:gp w Vb ((kj B.NM B.rs).map file))(hnv:nv=((kj B.NM B.rs).map file).length)(N:kI o w (.pointer (so ⟨B.bb,4,we⟩)) (.slice (so ⟨Vb,0,we⟩) nv nv) (.slice (so ⟨B.Rb,0,we⟩) B.rs.length B.rs.length) B.rs.length bn Nb Mb ch B.rs.length o' w'):
  pf (Ad B F file Vb bn Nb Mb ch) (ze B F) (uf B F file) old F.Or o' w':=by
 subst hnv;obtain⟨y0,y1,y2,hb,hp⟩:=h.blk;have P:=hp lo F rfl;have hlen:=P.perm.length_eq;have hS:=vj (h.right.perm P.perm).nodup P.sorted;obtain⟨k1,k2,k3,k4⟩:=M8 h.right P.perm hS;have qP:=P.lay.val;simp only[Value.agg.injEq]at qP;have hy0:y0=.slice (so ⟨F.St,0,we⟩) F.cB.length F.cB.length:=by have:=congrArg (λa:Array Value=>a[0]?) qP;simpa using this
 have hy1:y1=.slice (so ⟨F.Or,0,we⟩) (eL (mZ B.NM F.cB) F.cB.length F.cB.length).length F.cB.length:=by have:=congrArg (λa:Array Value=>a[1]?) qP;simpa using this
 rw[k1]at hy1;have ry:∀b,o b->w'.heap[b]?=w.heap[b]?:=λb hb=>N.old b (hF.lt hb);have up:∀b,o b->o' b:=λb hb=>by rw[N.own];exact .inl hb
 have tD:∀b,zd B (so (lo,F)) old b->o b:=h.own;have wU:=tD B.bb (.inl rfl);have GZ:=tD B.Rb (.inr (.inr (.inl rfl)));have hLf:∀b,AM F b->o b:=P.own;have c8:=oP ((ry _ wU).trans hb);have c5:=Dj N.bn.2.2;have fe:qj w' F.St F.cB.length (wq F.cB) (zZ F.cB) (mZ B.NM F.cB) F.cX:=kg P.lay.steps (ry _ (hLf _ (.inl rfl))) (λs hs=>ry _ (hLf _ (.inr (.inr (.inl ⟨s,hs,rfl⟩))))) N.size;have hRw:=hF.lt GZ;have new:∀b,w.heap.size<=b->∀c,o c->c≠b:=λb hb c hc e=>by have:=hF.lt hc;omega
 have ah1:∀s,s<B.rs.length->ch s≠Nb:=λs hs=>sZ (N.pX s hs).2.2 N.nb.2.2 aj;obtain⟨csM,hM,-,-⟩:=N.mb.2.2;have Kx:∀c,o c->o' c/\c≠Nb/\∀s,s<B.rs.length->c≠ch s:=λc hc=>⟨up c hc,new Nb N.nb.1 c hc,λs hs=>new (ch s) (N.pX s hs).1 c hc⟩;have lsp:=(h.lo lo F rfl);have four:∀s,s<B.rs.length->(mZ B.NM F.cB s).length<=4:=λs hs=>by
  have rJ:s<F.cB.length:=aa;unfold mZ;rw[b6,oQ rJ];exact h.right.four _ (P.perm.mem_iff.1 (aA rJ))
 have Vr:=h.apart;refine {Ff:=⟨c5.1,c5.2.1,c5.2.2.1,c5.2.2.2.1,c5.2.2.2.2.1,?_,λs hs=>fe.eT s (by rw[hlen];exact hs),λs hs=>fe.Be s (by rw[hlen];exact hs),λs hs j hj=>fe.CV s (by rw[hlen];exact hs) j hj,(hv.of_block (ry _ Yf)).mH,λs hs=>?_⟩,pow:=λq hq=>(cell_of (a:=⟨1,q,we⟩) (ry 1 (tD 1 (.inr (.inr (.inr (.inl rfl))))))).trans (h.pow q hq),order:=?_,MJ:=λk hk=>?_,still:=λb hb=>?_,pX:=λs hs=>⟨?_,?_,ah1 s hs,0,0,false,(N.pX s hs).2.2⟩,yr:=N.inj,C0:=up _ GZ,C5:=?_,apart:=(Kx _ GZ).2.1,R0:=?_,N0:=⟨_,N.nb.2.2,by simp[size_madeCells];rfl⟩,idle:=λs hs=>⟨?_,?_,?_,⟨_,_,N.nb.2.2⟩⟩,olds:=λs b vs hs ho=>?_,rL:=λi hi=>?_,ZM:=λi j hi hj e=>?_,ZN:=λs hs=>?_,dep:=λi hi m hm=>?_,src:=λs hs m hm=>?_,short:=four,ui:=by show B.rs.length<=_;have:=h.rules.ui;omega,V2:=?_,made:=λs hs=>?_,eT:=λs hs=>?_,size:=λs hs=>?_}
 ·show w'.cell? ⟨B.bb,4,we⟩=so (.slice (so ⟨F.St,0,we⟩) B.rs.length B.rs.length);rw[c8.2.2.2.2.1,hy0,hlen]
 ·have rJ:s<B.rs.length:=hs;have:=N.mb.2.2.cell rJ;rw[if_pos rJ]at this;exact this
 ·show w'.cell? ⟨B.bb,5,we⟩=so (.slice (so ⟨F.Or,0,we⟩) B.rs.length B.rs.length);rw[c8.2.2.2.2.2.1,hy1,hlen]
 ·have lY:k<F.cB.length:=by rw[hlen];exact hk
  exact(World.rowIs.of_block P.lay.ord (ry _ (hLf _ (.inr (.inl rfl))))).cell lY
 ·rcases hb with hb|rfl|rfl|rfl|hb|rfl|rfl|⟨s,hs,rfl⟩|⟨s,vs,hs,ho⟩
  ·have e:b=bn:=hb;rw[e];exact⟨by rw[N.own];exact .inr ⟨N.bn.1,N.bn.2.1⟩,λe=>new bn N.bn.1 _ GZ e.symm,sZ N.bn.2.2 N.nb.2.2 aj,λs hs=>sZ N.bn.2.2 (N.pX s hs).2.2 aj⟩
  ·obtain⟨q1,q2,q3⟩:=Kx _ wU;exact⟨q1,λe=>Vr.2.1 e.symm,q2,q3⟩
  ·obtain⟨q1,q2,q3⟩:=Kx _ (hLf F.St (.inl rfl));exact⟨q1,λe=>by have:=P.ge (b:=F.St) (.inl rfl);have e:F.St=B.Rb:=e;omega,q2,q3⟩
  ·obtain⟨q1,q2,q3⟩:=Kx _ Yf;exact⟨q1,hVr,q2,q3⟩
  ·have e:b=Mb:=hb;rw[e];exact⟨by rw[N.own];exact .inr ⟨N.mb.1,N.mb.2.1⟩,λe=>new Mb N.mb.1 _ GZ e.symm,sZ hM N.nb.2.2 (by intro e;cases e),λs hs=>sZ hM (N.pX s hs).2.2 aj⟩
  ·obtain⟨q1,q2,q3⟩:=Kx _ (hLf F.Or (.inr (.inl rfl)));exact⟨q1,λe=>by have:=P.ge (b:=F.Or) (.inr (.inl rfl));have e:F.Or=B.Rb:=e;omega,q2,q3⟩
  ·obtain⟨q1,q2,q3⟩:=Kx _ (tD 1 (.inr (.inr (.inr (.inl rfl)))));exact⟨q1,λe=>by have e:1=B.Rb:=e;omega,q2,q3⟩
  ·have hl:AM F (F.cX s):=.inr (.inr (.inl ⟨s,by rw[hlen];exact hs,rfl⟩));obtain⟨q1,q2,q3⟩:=Kx _ (hLf _ hl);exact⟨q1,λe=>by have:=P.ge hl;have e:F.cX s=B.Rb:=e;omega,q2,q3⟩
  ·obtain⟨q1,q2,q3⟩:=Kx _ (tD b (.inr (.inr (.inr (.inr (.inr (.inr ⟨s,vs,hs,ho⟩)))))));obtain⟨-,-,r3,-⟩:=h.olds s b vs hs ho;exact⟨q1,λe=>by have e:b=B.Rb:=e;omega,q2,q3⟩
 ·show o' (ch s);rw[N.own];exact .inr ⟨(N.pX s hs).1,(N.pX s hs).2.1⟩
 ·exact λe=>new (ch s) (N.pX s hs).1 _ GZ e.symm
 ·show o' Nb;rw[N.own];exact .inr ⟨N.nb.1,N.nb.2.1⟩
 ·obtain⟨cs,q1,q2⟩:=h.runs;exact⟨cs,(ry _ GZ).trans q1,q2⟩
 ·have q:=(h.idle s hs (zZ F.cB s) (λWt F' hf=>by cases hf;rfl)).keep (ry _ GZ);cases hx:old s with
  |none=>rw[hx]at q;exact⟨q.1,q.2.1,q.2.2.1,q.2.2.2⟩
  |some x=>rw[hx]at q;exact⟨q.1,q.2.1,q.2.2.1,q.2.2.2⟩
 ·have rJ:s<B.rs.length:=hs;show w'.cell? ⟨Nb,s,we⟩=so (.bool false);simp[World.cell?,N.nb.2.2,madeCells,rJ,Nat.mod_one]
 ·obtain⟨cs,q1,q2⟩:=h.runs;exact⟨cs,_,(ry _ GZ).trans q1⟩
 ·obtain⟨q1,q2,-⟩:=h.olds s b vs hs ho;exact⟨(q1.of_block (ry _ (tD b (.inr (.inr (.inr (.inr (.inr (.inr ⟨s,vs,hs,ho⟩))))))))).mH,q2⟩
 ·have mn:i<(eL (mZ B.NM F.cB) F.cB.length F.cB.length).length:=by rw[k1,hlen];exact hi
  show ze B F i<B.rs.length;unfold ze;rw[<- hlen];simp only[List.getD,au mn,bc];exact k2.2 _ (aA mn)
 ·have mn:i<(eL (mZ B.NM F.cB) F.cB.length F.cB.length).length:=by rw[k1,hlen];exact hi
  have Bd:j<(eL (mZ B.NM F.cB) F.cB.length F.cB.length).length:=by rw[k1,hlen];exact hj
  unfold ze at e;simp only[List.getD,au mn,au Bd,bc]at e;have nd:=ba.1 k2.1;rcases dB i j with q|q|q
  ·exact absurd e (nd i j mn Bd q)
  ·exact q
  ·exact absurd e.symm (nd j i Bd mn q)
 ·obtain⟨i,hi,e⟩:=bB (k3 s (by rw[hlen];exact hs));refine⟨i,by show i<B.rs.length;rw[<- hlen,<- k1];exact hi,?_⟩;unfold ze;simp only[List.getD,au hi,bc];exact e
 ·have mn:i<(eL (mZ B.NM F.cB) F.cB.length F.cB.length).length:=by rw[k1,hlen];exact hi
  have e1:ze B F i=(eL (mZ B.NM F.cB) F.cB.length F.cB.length)[i]:=by
   unfold ze;simp only[List.getD,au mn,bc]
  have hm':(true,m)∈mZ B.NM F.cB (ze B F i):=hm;rw[e1]at hm';obtain⟨k,hk,PL,e⟩:=k4 i mn m hm';refine⟨k,PL,?_⟩;unfold ze;simp only[List.getD,au hk,bc];exact e
 ·have rJ:s<F.cB.length:=by rw[hlen];exact hs
  have:=WG hS rJ hm;rw[Ac P.perm]at this;show m<((kj B.NM B.rs).map file).length;rw[b6];exact this
 ·show((kj B.NM B.rs).map file).length<=100000;rw[b6];have q1:=yY (mI (B.rs.map (·.out)) (Hj B.NM B.rs) B.rs.length);have q2:=rn (B.rs.map (·.out)) (Hj B.NM B.rs) B.rs.length (λi hi=>by rw[oQ hi];exact h.right.four _ (aA hi)) B.rs.length (af _);have q3:=h.rules.ui;have:(kj B.NM B.rs).length<=(mI (B.rs.map (·.out)) (Hj B.NM B.rs) B.rs.length).length:=q1;omega
 ·rw[qo h.right P.perm hS file Vb bn Nb Mb ch hs];exact FO h.right P.perm file hs
 ·have rJ:s<F.cB.length:=by rw[hlen];exact hs
  show 1<=zZ F.cB s/\zZ F.cB s<=5;rw[OG rJ];exact h.right.eT _ (P.perm.mem_iff.1 (aA rJ))
 ·rw[qo h.right P.perm hS file Vb bn Nb Mb ch hs];have rJ:s<F.cB.length:=by rw[hlen];exact hs
  have q:∀t∈(qm B F file s).map (·.2),t.size<=100:=λt ht=>by
   obtain⟨x,hx,rfl⟩:=aV.1 ht;obtain⟨y,-,rfl⟩:=aV.1 hx;exact FM h.right.four AN _ y
  have q2:=Ku q;have q3:((qm B F file s).map (·.2)).length<=4:=by
   rw[b6];unfold qm;rw[b6,oQ rJ];exact h.right.four _ (P.perm.mem_iff.1 (aA rJ))
  omega
def Dn{w w':ae}{bn Lb Lo St Rb Nb n:Nat}{out:Nat->ag}{eT:Nat->Int}{ins:Nat->List (Bool×Nat)}{cX:Nat->Nat}{res:Nat->Kz.V}{rO:Nat->Bool}(h:ql w bn Lb Lo St Rb Nb n out eT ins cX res rO)(hz:w.heap.size<=w'.heap.size)(e:∀b,b=bn\/b=Lb\/b=St\/b=Rb\/b=Nb\/(∃s,s<n/\b=cX s)->w'.heap[b]?=w.heap[b]?):ql w' bn Lb Lo St Rb Nb n out eT ins cX res rO where
 b0:=(cell_of (e bn (.inl rfl))).trans h.b0
 b2:=(cell_of (e bn (.inl rfl))).trans h.b2
 b3:=(cell_of (e bn (.inl rfl))).trans h.b3
 st:=(cell_of (e Lb (.inr (.inl rfl)))).trans h.st
 steps:=kg h.steps (e St (.inr (.inr (.inl rfl)))) (λs hs=>e _ (.inr (.inr (.inr (.inr (.inr ⟨s,hs,rfl⟩)))))) hz
 r2 s hs:=(cell_of (e Rb (.inr (.inr (.inr (.inl rfl)))))).trans (h.r2 s hs)
 r3 s hs:=(cell_of (e Rb (.inr (.inr (.inr (.inl rfl)))))).trans (h.r3 s hs)
 rO s hs:=(cell_of (e Nb (.inr (.inr (.inr (.inr (.inl rfl))))))).trans (h.rO s hs)
 lbn:=by have:=h.lbn;omega
 lLb:=by have:=h.lLb;omega
 lSt:=by have:=h.lSt;omega
 lRb:=by have:=h.lRb;omega
 lNb:=by have:=h.lNb;omega
def Dp(old:Nat->Option (Nat×List V))(ins:Nat->List V)(s:Nat):Bool:=match old s with
 |none=>true
 |some (_,vs)=>!decide (vs=ins s)
def jO.built{B:Ab}{lo:Nat}{F:gP}{old:Nat->Option (Nat×List V)}{file:ag->V}{Vb bn Nb Mb:Nat}{ch:Nat->Nat}{o1 o2:aL}{w1 w2:ae}(hF:bJ ak L0 o w)(rK:bJ ak L0 o2 w2)(h:jO o w B (so (lo,F)) old)(pB:∀b,o b->o1 b)(hz:w.heap.size<=w1.heap.size)(hold:∀b,b<w.heap.size->w1.heap[b]?=w.heap[b]?)(Gt:w.heap.size<=Nb)(IE:∀s,s<B.rs.length->w.heap.size<=ch s)(Q:Tp (Ad B F file Vb bn Nb Mb ch) (uf B F file) old o1 w1 o2 w2):
  (∃ry,jO o2 w2 B (so (lo,F)) ry/\∀s,s<B.rs.length->∃b,ry s=so (b,qm B F file s)/\((∃vs,old s=so (b,vs))\/w.heap.size<=b))/\(∀b,b<w.heap.size->b≠B.Rb->w2.heap[b]?=w.heap[b]?) /\
   ∀s,s<B.rs.length->w2.cell? ⟨B.Rb,s*4+2,we⟩=so (.bool (uf B F file s).1)/\w2.cell? ⟨B.Rb,s*4+3,we⟩=so (.string (uf B F file s).2)/\w2.cell? ⟨Nb,s,we⟩=so (.bool (Dp old (qm B F file) s)):=by
 obtain⟨y0,y1,y2,hb,hp⟩:=h.blk;have P:=hp lo F rfl;have hlen:=P.perm.length_eq;have hS:=vj (h.right.perm P.perm).nodup P.sorted;have tD:∀b,zd B (so (lo,F)) old b->o b:=h.own;have sm:∀b,b<w.heap.size->b≠B.Rb->w2.heap[b]?=w.heap[b]?:=λb hb hn=>by
  rw[Q.same b aa hn (λe=>by have e:b=Nb:=e;omega) (λs hs e=>by have e:b=ch s:=e;have:=IE s hs;omega)];exact hold b hb
 have up:∀b,o b->o2 b:=λb hb=>Q.more b (pB b hb);have lsp:=h.lo lo F rfl;obtain⟨a1,a2,a3,a4,a5,a6,a7⟩:=h.apart;have hRw:B.Rb<w.heap.size:=hF.lt (tD _ (.inr (.inr (.inl rfl))));have im:B.bb<w.heap.size:=hF.lt (tD _ (.inl rfl));have run:∀s,∃b,s<B.rs.length->wR (Ad B F file Vb bn Nb Mb ch) s w2 b (qm B F file s) (uf B F file s)/\gp w2 b (qm B F file s)/\o2 b/\B.Rb<b/\B.bb<b/\((∃vs,old s=so (b,vs))\/w.heap.size<=b):=λs=>by
  by_cases hs:s<B.rs.length
  ·have q:=Q.runs s hs;rw[qo h.right P.perm hS file Vb bn Nb Mb ch hs]at q;rcases q with⟨b,q1,q2,q3⟩|⟨q1,b,q2,q3,q4,q5⟩
   ·obtain⟨r1,r2,r3,r4⟩:=h.olds s b _ hs q1;have gB:=tD b (.inr (.inr (.inr (.inr (.inr (.inr ⟨s,_,hs,q1⟩))))));exact⟨b,λ_=>⟨q2,r1.of_block (sm b (hF.lt gB) aa),up b gB,r3,r4,.inl ⟨_,q1⟩⟩⟩
   ·have:=q2.2;exact⟨b,λ_=>⟨q4,q3,q2.1,aa,aa,.inr aa⟩⟩
  ·exact⟨0,λe=>absurd e hs⟩
 obtain⟨f,hf⟩:∃f:Nat->Nat,∀s,s<B.rs.length->wR (Ad B F file Vb bn Nb Mb ch) s w2 (f s) (qm B F file s) (uf B F file s)/\gp w2 (f s) (qm B F file s)/\o2 (f s)/\B.Rb<f s/\B.bb<f s/\((∃vs,old s=so (f s,vs))\/w.heap.size<=f s):=⟨λs=>Classical.choose (run s),λs=>Classical.choose_spec (run s)⟩;have l4:∀s,s<B.rs.length->(qm B F file s).length<=4:=λs hs=>by
  have rJ:s<F.cB.length:=aa;unfold qm;rw[b6,oQ rJ];exact h.right.four _ (P.perm.mem_iff.1 (aA rJ))
 refine⟨⟨λs=>so (f s,qm B F file s),⟨λb hb=>?_,h.right,h.rules.keep up (sm _ (hF.lt (tD _ (.inr (.inl rfl)))) a6) λr hr hn=>sm _ (hF.lt (tD _ (.inr (.inr (.inr (.inr (.inl ⟨r,hr,hn,rfl⟩))))))) (a7 r hr hn),h.apart,⟨y0,y1,y2,(sm _ im λe=>a2 e.symm).trans hb,λWt F' EY=>?_⟩,h.lo,(λe=>by cases e),Q.R0,λs hs r hr=>?_,λs b vs hs ho=>?_,λq hq=>?_⟩,λs hs=>⟨f s,rfl,(hf s hs).2.2.2.2.2⟩⟩,sm,λs hs=>?_⟩
 ·rcases hb with hb|hb|hb|hb|hb|hb|⟨s,vs,hs,ho⟩
  ·exact up _ (tD b (.inl hb))
  ·exact up _ (tD b (.inr (.inl hb)))
  ·exact up _ (tD b (.inr (.inr (.inl hb))))
  ·exact up _ (tD b (.inr (.inr (.inr (.inl hb)))))
  ·exact up _ (tD b (.inr (.inr (.inr (.inr (.inl hb))))))
  ·exact up _ (tD b (.inr (.inr (.inr (.inr (.inr (.inl hb)))))))
  ·cases ho;exact(hf s hs).2.2.1
 ·cases EY;exact P.keep (λb hb=>up _ (P.own b hb)) (by have:=Q.size;omega) λb hb=>sm b (hF.lt (P.own b hb)) (by have:=P.ge hb;omega)
 ·have XS:=hr lo F rfl;obtain⟨q1,-⟩:=hf s hs;rw[XS];have e:=FO h.right P.perm file hs;refine⟨q1.c0,q1.c1,?_,?_⟩
  ·rw[<- e];exact q1.c2
  ·rw[<- e];exact q1.c3
 ·cases ho;obtain⟨-,q2,-,q4,q5,-⟩:=hf s hs;exact⟨q2,by have:=l4 s hs;omega,q4,q5⟩
 ·exact(cell_of (a:=⟨1,q,we⟩) (sm 1 (hF.lt (tD 1 (.inr (.inr (.inr (.inl rfl)))))) aa)).trans (h.pow q hq)
 ·obtain⟨q1,-⟩:=hf s hs;refine⟨q1.c2,q1.c3,?_⟩;have q:=Q.runs s hs;rw[qo h.right P.perm hS file Vb bn Nb Mb ch hs]at q;rcases q with⟨b,q1,q2,q3⟩|⟨q1,b,q2,q3,q4,q5⟩
  ·have:Dp old (qm B F file) s=false:=by simp[Dp,q1]
   rw[this];exact q3
  ·have:Dp old (qm B F file) s=true:=by
    unfold Dp;cases ho:old s with
    |none=>rfl
    |some x =>
     obtain⟨b',vs⟩:=x;have:vs≠qm B F file s:=λe=>q1 b' (by rw[ho,e]);simp[this]
   rw[this];exact q5
def WJ[Payload](hF:bJ ak L0 o w)(B:Ab)(lo:Nat)(F:gP)(old:Nat->Option (Nat×List V))(h:jO o w B (so (lo,F)) old)(file:ag->V)(AN:∀x,(file x).2.size<=100)(Vb nv:Nat)(Yf:o Vb)(hVr:Vb≠B.Rb)(hv:gp w Vb ((kj B.NM B.rs).map file))(hnv:nv=((kj B.NM B.rs).map file).length):
  bC ak (XB ak Fin 0) 42 #[.pointer (so ⟨B.bb,0,we⟩),.slice (so ⟨Vb,0,we⟩) nv nv] o w λv o' w'=>∃R rv ry,v=.tuple #[.slice (so ⟨R,0,we⟩) B.rs.length B.rs.length,rv]/\fW (·=B.Rb) o w o' w'/\jO o' w' B (so (lo,F)) ry/\(∀s,s<B.rs.length->∃b,ry s=so (b,qm B F file s)/\((∃vs,old s=so (b,vs))\/w.heap.size<=b)) /\
   (w.heap.size<=R/\o' R/\w'.rowIs R 65 (B.rs.length*3) (iO (wq F.cB) (uf B F file) B.rs.length))/\mg w.heap.size (vi (wq F.cB) (Dp old (qm B F file)) B.rs.length) rv w'/\Cl ak L0 o' rv/\(∀g l c,rv=.slice (so ⟨g,0,we⟩) l c->o' g)/\∃mid,w.heap.size<=mid/\mid<=R/\(∀b,zd B (so (lo,F)) ry b->b<mid)/\∀g,rv.ownBlock=so g->mid<=g:=by
 have W:=bZ (P:=ak) (Fin:=Fin) (d:=0);refine bt W func42 aG ?_;walk_nrmf Tryz.f42;have ah2:=hnv.symm;clear hnv;have wU:=h.own B.bb (.inl rfl);have GZ:=h.own B.Rb (.inr (.inr (.inl rfl)));have hn8:=h.rules.ui;obtain⟨y0,y1,y2,hb,hp⟩:=h.blk;have P:=hp lo F rfl;have hb:w.heap[B.bb]?=so (Ls (.slice B.p B.rs.length B.c) (.int .u32 1) (.int .i32 0) (.int .u32 0) y0 y1 y2 (.slice (so ⟨B.Rb,0,we⟩) B.rs.length B.rs.length)):=by simpa using hb
 have im:=hF.lt wU;refine aD ?_;refine iy mixed ah [so we,so we,so we,so (so (.pointer (so ⟨B.bb,4,we⟩))),so we,so we,so we,so we,so (so (.slice (so ⟨B.Rb,0,we⟩) B.rs.length B.rs.length)),we,so we]
  (S:=λσ o' w'=>(σ 9=we/\fW (λ_=>False) o w o' w')\/(∃y,σ 9=so y/\∃o1 w1 bn Nb Mb ch,fW (λ_=>False) o w o1 w1/\y=.pointer (so ⟨bn,0,we⟩)/\kI o1 w1 (.pointer (so ⟨B.bb,4,we⟩)) (.slice (so ⟨Vb,0,we⟩) nv nv) (.slice (so ⟨B.Rb,0,we⟩) B.rs.length B.rs.length) B.rs.length bn Nb Mb ch B.rs.length o' w')) ?_ λv=>?_
 ·exact .inl ⟨rfl,fW.refl hF⟩
 refine fF ?_;refine fU ?_;refine CR rfl rfl aG rfl func73 ah rfl (av:=#[.pointer (so ⟨B.bb,0,we⟩)]) ax (λσ o' w' H hS=>?_) ?_
 ·rcases hS with⟨h9,hW⟩|⟨y,h9,-⟩
  ·refine(Dg hW.bS B.bb (hW.more _ wU) _ _ _ y0 y1 y2 _ ((hW.same _ im id).trans hb)).mono ?_;rintro v' o2 w2 ⟨rfl,N⟩;exact⟨rfl,.inl ⟨h9,hW.trans (fW.kJ N)⟩⟩
  ·rw[H.GN 9 ah]at h9;cases h9
 refine fU ?_;refine ZX (λσ o' w' H hS=>?_) ?_
 ·rcases hS with⟨h9,hW⟩|⟨y,h9,-⟩
  ·have p7:=hW.more _ wU;refine⟨hW.bS,λy hy=>?_,λwl bu=>?_⟩
   ·simp[Op.operands]at hy;subst hy;simp[Act.eval];exact gE p7
   ·have c7:=(oP ((hW.same _ im id).trans hb)).2.2.2.2.2.2.2.1;simp[go_sem,(bu.cell p7).trans c7]
  ·rw[H.GN 9 ah]at h9;cases h9
 walk_nrm;refine BB rfl rfl aG rfl func72 ah rfl (av:=#[.pointer (so ⟨B.bb,4,we⟩),.slice (so ⟨Vb,0,we⟩) nv nv,.slice (so ⟨B.Rb,0,we⟩) B.rs.length B.rs.length]) ax (λσ o' w' H h9 hS=>?_) ?_
 ·rcases hS with⟨-,hW⟩|⟨y,h9',-⟩
  ·refine(M6 hW.bS B.bb 4 Vb nv B.Rb B.rs.length aa (hW.more _ wU) (hW.more _ Yf) (hW.more _ GZ)).mono ?_;rintro y o2 w2 ⟨bn,Nb,Mb,ch,rfl,N⟩;exact .inr ⟨_,by simp[lg],o',w',bn,Nb,Mb,ch,hW,rfl,N⟩
  ·rw[h9]at h9';cases h9'
 refine fU ?_;refine fj λσ o2 w2 wu hS=>?_;rcases hS with⟨h9,-⟩|⟨y,h9,o1,w1,bn,Nb,Mb,ch,hW,rfl,N⟩
 ·rw[wu 9 iG rfl]at h9;cases h9
 have hv9:v 9=.pointer (so ⟨bn,0,we⟩):=by
  have:=wu 9 iG rfl;rw[h9]at this;exact(aP this).symm
 rw[hv9];simp only[nu,gL,if_true,if_false,reduceIte,Nat.reduceEqDiff];refine aD ?_;have h1:=h.keep hW.more hW.size λb hb=>hW.same b (hF.lt (h.own b hb)) id;have BA:=TU hW.bS h1 AN (hW.more _ Yf) hVr (hv.of_block (hW.same _ (hF.lt Yf) id)) ah2.symm N;refine eH W rfl aG rfl func74 ah rfl (by simp[Act.eval];rfl) rfl ((Qm N.bS BA).mono ?_);rintro v3 o3 w3 ⟨rfl,Q,vJ⟩;refine aD ?_;obtain⟨⟨ry,xS,p6⟩,sm,rr⟩:=h1.built hW.bS vJ (λb hb=>by rw[N.own];exact .inl hb) N.size N.old N.nb.1 (λs hs=>(N.pX s hs).1) Q;have aad:o2 bn:=by rw[N.own];exact .inr ⟨N.bn.1,N.bn.2.1⟩
 obtain⟨-,n1,n2,n3⟩:=BA.still bn (.inl rfl);have kb3:w3.heap[bn]?=w2.heap[bn]?:=Q.same bn (N.bS.lt aad) n1 n2 n3;have c5:=Dj (kb3.trans N.bn.2.2);obtain⟨z0,z1,z2,FG,X2⟩:=xS.blk;have P3:=X2 lo F rfl;have hlen:=P3.perm.length_eq;have qP:=P3.lay.val;simp only[Value.agg.injEq]at qP;have YL:z0=.slice (so ⟨F.St,0,we⟩) F.cB.length F.cB.length:=by have:=congrArg (λa:Array Value=>a[0]?) qP;simpa using this
 have adO:=xS.own B.bb (.inl rfl);have adP:=xS.own B.Rb (.inr (.inr (.inl rfl)));have adQ:o3 Nb:=Q.more _ (by rw[N.own];exact .inr ⟨N.nb.1,N.nb.2.1⟩);have hrd:ql w3 bn B.bb 4 F.St B.Rb Nb B.rs.length (wq F.cB) (zZ F.cB) (mZ B.NM F.cB) F.cX (uf B F file) (Dp old (qm B F file)) :=
  ⟨c5.1,c5.2.2.1,c5.2.2.2.1,by rw[(oP FG).2.2.2.2.1,YL,hlen],by rw[<- hlen];exact P3.lay.steps,λs hs=>(rr s hs).1,λs hs=>(rr s hs).2.1,λs hs=>(rr s hs).2.2,vJ.lt (Q.more _ aad),vJ.lt adO,vJ.lt (P3.own _ (.inl rfl)),vJ.lt adP,vJ.lt adQ⟩
 have vu:∀b,b=bn\/b=B.bb\/b=F.St\/b=B.Rb\/b=Nb\/(∃s,s<B.rs.length/\b=F.cX s)->o3 b:=by
  rintro b (rfl|rfl|rfl|rfl|rfl|⟨s,hs,rfl⟩)
  ·exact Q.more _ aad
  ·exact adO
  ·exact P3.own _ (.inl rfl)
  ·exact adP
  ·exact adQ
  ·exact P3.own _ (.inr (.inr (.inl ⟨s,aa,rfl⟩)))
 refine dq func75 (QE vJ bn B.bb 4 F.St B.Rb Nb B.rs.length _ _ _ _ _ _ aa hrd vu) ?_;rintro v4 o4 w4 ⟨N4,rfl,z4,EI⟩;refine aD ?_;have u4:∀b,o3 b->o4 b:=λb hb=>by rw[N4.own];exact .inl hb
 have ah4:=Dn hrd N4.size λb hb=>N4.old b (vJ.lt (vu b hb));refine dq func76 (QF N4.bS bn B.bb 4 F.St B.Rb Nb B.rs.length _ _ _ _ _ _ aa ah4 (λb hb=>u4 _ (vu b hb))) ?_;rintro v5 o5 w5 ⟨N5,t5⟩;refine aD ?_;have W4:fW (·=B.Rb) o3 w3 o4 w4:=fW.kJ N4;have W5:fW (·=B.Rb) o4 w4 o5 w5:=fW.kJ N5;have zQ:=Q.size;have zN:=N.size;have zW:=hW.size;have W3:fW (·=B.Rb) o w o3 w3:=by
  refine⟨vJ,λb hb=>Q.more _ (by rw[N.own];exact .inl (hW.more _ hb)),λb hb=>?_,aa,λb hb hx=>?_⟩
  ·rcases Q.new b hb with q|q
   ·rw[N.own]at q;rcases q with q|q
    ·rcases hW.new b q with q|q
     ·exact .inl q
     ·exact .inr q
    ·exact .inr aa
   ·exact .inr aa
  ·rw[sm b aa hx];exact hW.same b hb id
 have W45:=W4.trans W5;refine⟨.inr trivial,trivial,_,resultsC_tmp2 (t:=4) (u:=5) aG _,w3.heap.size,v5,ry,ax,W3.trans W45,xS.keep W45.more W45.size λb hb=>?_,λs hs=>(p6 s hs).imp λb q=>⟨q.1,q.2.imp id λe=>aa⟩,⟨aa,W5.more _ (by rw[N4.own];exact .inr ⟨af _,z4⟩),World.rowIs.of_block EI (N5.old _ z4)⟩,mh t5 (by have:=N4.size;omega) (af _) (λ_ _ _=>rfl),N5.cl,λg l c e=>?_,w3.heap.size,aa,af _,λb hb=>vJ.lt (xS.own b hb),λg hg=>?_⟩
 ·have hl:=vJ.lt (xS.own b hb);rw[N5.old b (by have:=N4.size;omega),N4.old b hl]
 ·rcases t5 with⟨q1,-⟩|⟨g',cap,q1,q2,q3,q4,q5⟩
  ·rw[q1]at e;cases e
  ·rw[q1]at e;cases e;rw[N5.own];exact .inr ⟨q3,q4⟩
 ·rcases t5 with⟨q1,-⟩|⟨g',cap,q1,q2,q3,q4,q5⟩
  ·rw[q1]at hg;cases hg
  ·rw[q1]at hg;have e:g'=g:=aP hg;have:=N4.size;omega
end
def wv{α:Type}:List (ag×α)->ag->Option α
 | [],_=>we
 | (k,v)::l,x=>if x=k then so v else wv l x
section
variable {P:Program}{w:ae}{r:Nat}{l:List (ag×Value)}{x:ag}{mt kt et:TypeId}
end
def TV{P:Program}{L:Nat->Bool}{o:aL}{w:ae}(hF:bJ P L o w){g:Nat}(hg:¬o g):∃f:Rn,(nN P L o).has f/\f.b g≠g:=by
 obtain⟨g',GC,fu,hG'⟩:∃g',¬o g'/\g'≠g/\P.globals.size<=g':=⟨g+w.heap.size+P.globals.size+1,λh=>by have:=hF.lt h;omega,aa,aa⟩;have hG:P.globals.size<=g:=dt λh=>hg (hF.kz g h);refine⟨⟨λx=>if x=g then g' else if x=g' then g else x,id,id,id⟩,⟨λx y h=>?_,λr hr=>?_,λ_ _=>rfl,λr=>?_⟩,by simp;exact fu⟩
 ·simp only at h;by_cases h1:x=g<;>by_cases h2:y=g<;>by_cases h3:x=g'<;>by_cases h4:y=g'<;>simp_all
 ·have h1:r≠g:=λe=>hg (e▸hr);have h2:r≠g':=λe=>GC (e▸hr);simp[h1,h2,nN]
 ·simp only[nN];by_cases h1:r=g
  ·simp[h1];omega
  ·by_cases h2:r=g'
   ·simp[h1,h2,fu];omega
   ·simp[h1,h2]
section
variable {Fin:br}{o:aL}{w:ae}
end
section
open Go.RowKit
def small(x:ag)(k:Nat):Prop:=∀j (h:j<x.size),j<k->97<=x[j].toNat/\x[j].toNat<=122
def isName(x:ag):Prop:=1<=x.size/\x.size<=4/\small x x.size
structure adR(x:ag)(e:Ending):Prop where
 ex:∃b,e=.returned (.bool b)/\(b=true↔isName x)
def Dq(x:ag)(w:ae)(hx:x.size<=9223372036854775807):Calls ak 68 #[.string x] w λe w'=>adR x e/\w'=w:=by
 go_enter func68,ntmps68;by_cases h1:x.size<1
 ·have h1I:(x.size:Int)<1:=aa;go_wp2;go_ret;exact⟨⟨⟨false,rfl,by simp[isName];omega⟩⟩,rfl⟩
 ·have h1I:¬(x.size:Int)<1:=aa;by_cases h2:x.size>4
  ·have h2I:(4:Int)<(x.size:Int):=aa;go_wp2;go_ret;exact⟨⟨⟨false,rfl,by simp[isName];omega⟩⟩,rfl⟩
  ·have h2I:¬(4:Int)<(x.size:Int):=aa;go_wp2;go_loop [14] (λi=>∃k:Nat,k<=x.size/\i=.int .i64 k/\small x k) (λi=>x.size-(intOf i).toNat)
   case atStart=>exact⟨0,aW _,rfl,λj _ hj=>aa⟩
   case round =>
    obtain⟨k,hk,rfl,hs⟩:=hrel;by_cases cR:k<x.size
    ·by_cases c1:x[k].toNat<97
     ·have c1I:(x[k].toNat:Int)<97:=aa;go_wp2;go_ret;exact⟨⟨⟨false,rfl,⟨(λe=>by cases e),λh=>by have:=h.2.2 k cR cR;omega⟩⟩⟩,rfl⟩
     ·have c1I:¬(x[k].toNat:Int)<97:=aa;by_cases c2:x[k].toNat>122
      ·have c2I:(122:Int)<(x[k].toNat:Int):=aa;go_wp2;go_ret;exact⟨⟨⟨false,rfl,⟨(λe=>by cases e),λh=>by have:=h.2.2 k cR cR;omega⟩⟩⟩,rfl⟩
      ·have c2I:¬(122:Int)<(x[k].toNat:Int):=aa;go_wp2
       go_round
       case rel=>exact⟨k+1,aa,by go_num,λj h hj=>if e:j=k then by subst e;omega else hs j h aa⟩
       case measure=>simp[intOf];omega
    ·go_wp2;go_ret;have e:k=x.size:=aa;subst e;exact⟨⟨⟨true,rfl,by simp only[true_iff];exact⟨aa,aa,hs⟩⟩⟩,rfl⟩
def TW(x:ag)(w:ae):Calls ak 70 #[.string x] w λe w'=>e=.returned (.bool (decide ((x.size:Int)<=12)))/\w'=w:=by
 go_enter func70,ntmps70;go_wp2;go_ret;exact⟨rfl,rfl⟩
section
variable {Fin:br}{o:aL}{w:ae}
def aaf(hF:bJ ak L0 o w)(x:ag)(hx:x.size<=9223372036854775807):
  bC ak (XB ak Fin 0) 68 #[.string x] o w λv o' w'=>∃b,v=.bool b/\(b=true↔isName x)/\iz o w v o' w':=by
 refine bC.mono (fQ ah hF (λy hy=>by simp at hy;subst hy;exact dH) (Q:=λwl v w'=>∃b,v=.bool b/\(b=true↔isName x)) (λwl D8 v w1 w2 e1 e2 h=>h) (λwl hz bu=>?_)) (λv o' w' hq=>?_)
 ·refine(Dq x wl hx).mono λe w' hq=>?_;obtain⟨⟨b,rfl,hb⟩,rfl⟩:=hq;exact⟨_,rfl,af _,λ_ _=>rfl,b,rfl,hb⟩
 ·obtain⟨hN,wl,bN,-,-,-,b,h1,h2⟩:=hq;exact⟨b,h1,h2,hN⟩
def aag(hF:bJ ak L0 o w)(x:ag):
  bC ak (XB ak Fin 0) 70 #[.string x] o w λv o' w'=>v=.bool (decide ((x.size:Int)<=12))/\iz o w v o' w':=by
 refine bC.mono (fQ ah hF (λy hy=>by simp at hy;subst hy;exact dH) (Q:=λwl v w'=>v=.bool (decide ((x.size:Int)<=12))) (λwl D8 v w1 w2 e1 e2 h=>h) (λwl hz bu=>?_)) (λv o' w' hq=>?_)
 ·refine(TW x wl).mono λe w' hq=>?_;obtain⟨rfl,rfl⟩:=hq;exact⟨_,rfl,af _,λ_ _=>rfl,rfl⟩
 ·obtain⟨hN,wl,bN,-,-,-,h1⟩:=hq;exact⟨h1,hN⟩
end
end
def oq(th:List (ag×ag))(x:ag):V:=match wv th x with
 |some t=>(true,t)
 |none=>V0
section
variable {Fin:br}{o:aL}{w:ae}{fb mT mS:Nat}{th:List (ag×ag)}{st:List (ag×Int)}
end
structure EJ where
 B:Ab
 kb:Nat
 fb:Nat
 mT:Nat
 mS:Nat
structure D9 where
 fd:Option (Nat×gP)
 old:Nat->Option (Nat×List V)
 th:List (ag×ag)
 st:List (ag×Int)
 qv:Value
 qn:List ag
 lost:Bool
 time:Nat
 phase:Nat
 since:Nat
 sv:Value
 src:List ag
 rv:Value
 rd:List (V×Int)
 ck:Nat
 pb:Nat
 num:Int
 uf:Value
 res:List (ag×V)
 Dp:Value
 rO:List ag
def tW(w:ae)(b:Nat)(rs:List (ag×V)):Prop:=∀i (h:i<rs.length),w.cell? ⟨b,i*3,we⟩=so (.string rs[i].1)/\w.cell? ⟨b,i*3+1,we⟩=so (.string rs[i].2.2)/\w.cell? ⟨b,i*3+2,we⟩=so (.bool (!rs[i].2.1))
section
variable {Fin:br}{o o':aL}{w w':ae}
def se{v:Value}(hF:bJ ak L0 o w)(h:Cl ak L0 o v):∀b,v.ownBlock=so b->o b:=λb hb=>aX λhg=>by
 cases v<;>first|(cases hb;done)|skip
 rename_i p l c;cases p with
 |none=>cases hb
 |some a =>
  have e:a.block=b:=aP hb;subst e;obtain⟨f,hf,fu⟩:=TV hF hg;have:=h f hf;simp only[val,aK,addr,Value.slice.injEq,ay]at this;exact fu (congrArg Addr.block this.1)
end
section
variable {Fin:br}{o:aL}{w:ae}{K:EJ}{s:D9}{Ky:Nat->Nat}
end
section
variable {Fin:br}{o o':aL}{w w':ae}{K:EJ}{s:D9}{lk:Int}{Ky:Nat->Nat}
def Dr(B:Ab)(F:gP)(file:ag->V):List (ag×V):=(List.range B.rs.length).map λi=>(wq F.cB i,uf B F file i)
def WK{B:Ab}{F:gP}{file:ag->V}{R:Nat}(h:w.rowIs R 65 (B.rs.length*3) (iO (wq F.cB) (uf B F file) B.rs.length)):tW w R (Dr B F file):=λi hi=>by
 have mn:i<B.rs.length:=by simpa[Dr] using hi
 have h0:(i*3)%3=0:=aa;have h1:(i*3+1)%3=1:=aa;have h2:(i*3+2)%3=2:=aa;have d0:(i*3)/3=i:=aa;have d1:(i*3+1)/3=i:=aa;have d2:(i*3+2)/3=i:=aa;refine⟨?_,?_,?_⟩
 ·rw[h.cell aa];simp[iO,h0,d0,Dr,show i*3<B.rs.length*3 by omega]
 ·rw[h.cell aa];simp[iO,h1,d1,Dr,show i*3+1<B.rs.length*3 by omega]
 ·rw[h.cell aa];simp[iO,h2,d2,Dr,show i*3+2<B.rs.length*3 by omega]
end
section
variable {Fin:br}{o o' o1:aL}{w w' w1:ae}{K:EJ}{s:D9}{lk:Int}{Ky M9:Nat->Nat}
def TX{B:Ab}{fd:Option (Nat×gP)}{old:Nat->Option (Nat×List V)}(h:jO o w B fd old):(kj B.NM B.rs).length<=1000:=by
 have q1:=yY (mI (B.rs.map (·.out)) (Hj B.NM B.rs) B.rs.length);have q2:=rn (B.rs.map (·.out)) (Hj B.NM B.rs) B.rs.length (λi hi=>by rw[oQ hi];exact h.right.four _ (aA hi)) B.rs.length (af _);have q3:=h.rules.ui;have:(kj B.NM B.rs).length<=(mI (B.rs.map (·.out)) (Hj B.NM B.rs) B.rs.length).length:=q1;omega
end
section
variable {Fin:br}{o o' o1 o2:aL}{w w' w1 w2:ae}{K:EJ}{s:D9}{lk:Int}{Ky WL:Nat->Nat}
end
section
variable {Fin:br}{o o' o2 o3:aL}{w w' w2 w3:ae}{K:EJ}{s:D9}{lk:Int}{Ky WL:Nat->Nat}
end
section
open Go.RowKit
def EK(b c n:Nat)(p:Option Addr)(xs:List Value)(w:ae)(hl:xs.length=n*3)(hn:n<=1000)(hp:p=we->n=0)(hq:n≠0->p=so ⟨b,0,we⟩)(hx:∀j u,xs[j]?=so u->w.cell? ⟨b,j,we⟩=so u)(h1:∀u∈xs,u.oneCell'=true):
  Calls ak 71 #[.slice p n c] w λe w'=>∃v,e=.returned v/\w'.ownsRow w.heap.size 42 3 v n xs/\Below w.heap.size w w'/\w.heap.size<=w'.heap.size:=by
 have q24:∀(w:ae) (a:Option Addr) (n c n' c':Nat),(binOp .eql 35 (.slice a n c) (.slice we n' c')).run ak w=.ok (.bool a.isNone) w:=λw a n c n' c'=>Lib.run_eql_slice_nil w _ _ a n c n' c' underlying35;go_enter func71,ntmps71;cases p with
 |none =>
  have Xv:=hp rfl;subst Xv;have RU:xs=[]:=dx.1 aa;subst RU;go_wp2;go_ret;exact⟨_,rfl,⟨aj,.inl ⟨rfl,rfl⟩⟩,Below.refl _ _,af _⟩
 |some a =>
  obtain⟨i,hi,pL⟩:=aH.1 J7;simp only[bO]at pL;have fo:(w.alloc (.cells #[] 42)).ownsRow w.heap.size 42 3 (.slice (so ⟨w.heap.size,0,we⟩) 0 0) 0 []:=⟨aj,.inr ⟨w.heap.size,0,#[],rfl,af _,dz w _,af _,by simp[maxLen],aj,aj⟩⟩;have p7:∀j u,xs[j]?=so u->(w.alloc (.cells #[] 42)).cell? (a.add j)=so u:=λj u hu=>by
   have Xv:n≠0:=λe=>by
    subst e;have RU:xs=[]:=dx.1 aa;subst RU;simp at hu
   have ha:=hq Xv;cases ha;have hc:=hx j u hu;have hb:b<w.heap.size:=aX λq=>by
    simp[World.cell?,Array.getElem?_eq_none (Nat.le_of_not_lt q)]at hc
   have:(⟨b,0,we⟩:Addr).add j=⟨b,j,we⟩:=by simp[Addr.add];omega
   rw[this,((Below.refl w.heap.size w).alloc (af _) _).cell (p:=⟨b,j,we⟩) hb];exact hc
  obtain⟨v',W',e1,e2,e3,_⟩:=run_append_own (P:=ak) (w.alloc (.cells #[] 42)) w.heap.size 35 35 42 i _ 3 48 underlying35 hi pL.1 pL.2.1 pL.2.2 rfl aa _ 0 [] fo a n c xs hl p7 h1 (by simp[maxLen];omega) aa aj;have FG:=Below.grown ((Below.refl w.heap.size w).alloc (af _) (.cells #[] 42)) e3 aj (λk hk=>by cases hk;exact af _);go_wp2_with (at_builtin;refine lQ rfl _ _ 35 rfl rfl rfl e1 ?_);go_ret;exact⟨_,rfl,by simpa using e2,FG,FG.size⟩
end
section
variable {Fin:br}{o o':aL}{w w':ae}{K:EJ}{s:D9}{lk:Int}{Ky:Nat->Nat}
def ja(rs:List (ag×V)):List Value:=(rs.map λr=>[Value.string r.1,.string r.2.2,.bool (!r.2.1)]).flatten
def zf:∀(rs:List (ag×V)) (i:Nat) (h:i<rs.length),(ja rs)[i*3]?=so (.string rs[i].1)/\(ja rs)[i*3+1]?=so (.string rs[i].2.2)/\(ja rs)[i*3+2]?=so (.bool (!rs[i].2.1))
 |r::rs,0,h=>by simp[ja]
 |r::rs,i+1,h=>by
  have ih:=zf rs i (by simpa using h);have e:ja (r::rs)=.string r.1 :: .string r.2.2 :: .bool (!r.2.1)::ja rs:=by simp[ja]
  have e2:(i+1)*3=i*3+1+1+1:=aa;rw[e,e2];simpa using ih
end
section
open Go.RowKit
def qA{x y:ag}(h:¬x=y):(x.toList==y.toList)=false:=by
 rw[dm];intro e;rw[ByteArray.toList_eq,ByteArray.toList_eq]at e;exact h (iZ (Array.toList_inj.1 e))
def Yh:List ag:=[⟨#[97]⟩,⟨#[98]⟩,⟨#[99]⟩,⟨#[100]⟩,⟨#[101]⟩,⟨#[102]⟩]
def KA(w:ae)(cs:Array Value)(t:TypeId)(j:Nat):(w.alloc (.cells cs t)).cell? ⟨w.heap.size,j,we⟩=cs[j]?:=by
 simp only[World.cell?];rw[show(w.alloc (.cells cs t)).heap[w.heap.size]?=so (.cells cs t) from by show(w.heap.push _)[w.heap.size]?=_;simp];rfl
end
section
open Go.RowKit
open Go.Ren (AI nZ)
structure IxR(rs:List aN)(x:ag)(r:Int):Prop where
 ex:(r=-1/\∀q∈rs,q.out≠x)\/∃i,∃h:i<rs.length,r=(i:Nat)/\rs[i].out=x
def Bf:List aN->ag->Nat->Int
 | [],_,_=>-1
 |r::l,x,k=>if r.out=x then(k:Nat)else Bf l x (k+1)
def FP(x:ag):∀(l:List aN) (k:Nat),(Bf l x k=-1/\∀q∈l,q.out≠x)\/∃i,∃h:i<l.length,Bf l x k=((k+i:Nat):Int)/\l[i].out=x
 | [],k=>.inl ⟨rfl,aj⟩
 |r::l,k=>by
  unfold Bf;by_cases h:r.out=x
  ·rw[if_pos h];exact .inr ⟨0,aj,aj,by simpa using h⟩
  ·rw[if_neg h];rcases FP x l (k+1) with⟨h1,h2⟩|⟨i,hi,h1,h2⟩
   ·refine .inl ⟨h1,λq hq=>?_⟩;rcases bq.1 hq with rfl|hq
    ·exact h
    ·exact h2 q hq
   ·exact .inr ⟨i+1,eW,by rw[h1];congr 1;omega,by simpa using h2⟩
def KB(rs:List aN)(x:ag):IxR rs x (Bf rs x 0):=by
 rcases FP x rs 0 with h|⟨i,hi,h1,h2⟩
 ·exact⟨.inl h⟩
 ·exact⟨.inr ⟨i,hi,by simpa using h1,h2⟩⟩
def Ds(b c:Nat)(p:Option Addr)(rs:List aN)(x:ag)(w:ae)(hn:rs.length<=100000)(hp:rs≠[]->p=so ⟨b,0,we⟩)(hv:fw w b rs):
  Calls ak 107 #[.slice p rs.length c,.string x] w λe w'=>e=.returned (.int .i64 (Bf rs x 0))/\w'=w:=by
 go_enter func107,ntmps107;go_wp2;go_loop [8] (λi=>∃k:Nat,k<=rs.length/\i=.int .i64 k/\Bf rs x 0=Bf (rs.drop k) x k) (λi=>rs.length-(intOf i).toNat)
 case atStart=>exact⟨0,aW _,rfl,rfl⟩
 case round =>
  obtain⟨k,hk,rfl,hs⟩:=hrel;by_cases cR:k<rs.length
  ·have e:=hp (lU cR);subst e;obtain⟨h1,-,-⟩:=hv k cR;rw[dJ cR,Bf]at hs;generalize rs[k].out=y at *;by_cases hx:y=x
   ·rw[if_pos hx]at hs;subst hx;go_wp2;go_ret;exact⟨rfl,rfl⟩
   ·rw[if_neg hx]at hs;have Yg:=qA hx;go_wp2
    go_round
    case rel=>exact⟨k+1,aa,by go_num,hs⟩
    case measure=>simp[intOf];omega
  ·rw[dZ aa,Bf]at hs;go_wp2;go_ret;exact⟨rfl,rfl⟩
def Dt(x:ag)(h:isName x)(w:ae):Calls ak 68 #[.string x] w λe w'=>e=.returned (.bool true)/\w'=w:=by
 refine(Dq x w (by have:=h.2.1;omega)).mono λe w' hq=>?_;obtain⟨⟨b,rfl,hb⟩,rfl⟩:=hq;rw[hb.2 h];exact⟨rfl,rfl⟩
def QL(n:Int)(w:ae)(h1:1<=n)(h5:n<=5):Calls ak 106 #[.int .i64 n] w λe w'=>e=.returned (.bool true)/\w'=w:=by
 go_enter func106,ntmps106;go_wp2;go_ret;exact⟨rfl,rfl⟩
structure OJ(w:ae)(p:Option Addr)(b:Nat)(rs:List aN)(NM:aN->List ag)(NB:aN->Nat):Prop where
 ui:rs.length<=8
 ptr:rs≠[]->p=so ⟨b,0,we⟩/\b<w.heap.size
 at_:fw w b rs
 nm:∀r∈rs,r.sl=(NM r).length/\(NM r≠[]->r.sa=so ⟨NB r,0,we⟩/\NB r<w.heap.size)/\gf w (NB r) 0 (NM r)/\(NM r).length<=4
structure TY(rs:List aN)(NM:aN->List ag)(RK:ag->Nat):Prop where
 outs:∀r∈rs,isName r.out
 ins:∀r∈rs,∀x∈NM r,isName x
 eT:∀r∈rs,1<=r.eT/\r.eT<=5
 nodup:(rs.map (·.out)).Nodup
 Dk:∀r∈rs,∀x∈NM r,x∈rs.map (·.out)->RK x<RK r.out
def xN:(ak.info? 201).map (·.size)=so 64:=ah
def alloc_old(w:ae)(x:Obj)(b:Nat)(h:b<w.heap.size):(w.alloc x).heap[b]?=w.heap[b]?:=by
 show(w.heap.push x)[b]?=_;rw[dE h,aO h]
def tE{B g:Nat}{a w:ae}(h:Below B a w)(hg:B<=g)(cs:Array Value):Below B a (w.setRow g cs) :=
 ⟨h.os,h.tape,h.output,by rw[setRow_size];exact h.size,λb hb=>(setRow_other w g b cs aa).trans (h.block b hb)⟩
end
section
open Go.RowKit
open Go.Ren (AI nZ)
end
section
open Go.RowKit
end
section
open Go.RowKit
def na(w:ae)(b:Nat)(fs:List (ag×ag)):Prop:=∀i (h:i<fs.length),w.cell? ⟨b,i*2,we⟩=so (.string fs[i].1)/\w.cell? ⟨b,i*2+1,we⟩=so (.string fs[i].2)
def na.below{w w':ae}{b:Nat}{fs:List (ag×ag)}(h:na w b fs)(hb:b<w.heap.size)(hw:Below w.heap.size w w'):na w' b fs:=λk hk=>by
 obtain⟨hc,-⟩:=yO hw;rw[hc _ _ hb,hc _ _ hb];exact h k hk
def nB{w:ae}{lo e sz n:Nat}{v:Value}{xs:List Value}(h:w.ownsRow lo e sz v n xs):∃p l c,v=.slice p l c:=by
 obtain⟨_,hc⟩:=h;rcases hc with⟨rfl,_⟩|⟨g,cap,cur,rfl,h1,_⟩
 ·exact⟨_,_,_,rfl⟩
 ·exact⟨_,_,_,rfl⟩
end
section
open Go.RowKit
def Na(b c:Nat)(p:Option Addr)(ts:List ag)(w:ae)(hn:ts.length<=100000)(hp:p=we->ts=[])(hq:ts≠[]->p=so ⟨b,0,we⟩)(ht:gf w b 0 ts):
  Calls ak 51 #[.slice p ts.length c] w λe w'=>∃v,e=.returned v/\w'.ownsRow w.heap.size 9 1 v ts.length (ts.map .string)/\Below w.heap.size w w'/\w.heap.size<=w'.heap.size:=by
 cases p with
 |none =>
  obtain rfl:=hp rfl;refine(Tryz.slices_Clone_string_nil _ _ w).mono λe w' hq=>?_;obtain⟨rfl,rfl⟩:=hq;exact⟨_,rfl,⟨aj,.inl ⟨rfl,rfl⟩⟩,Below.refl _ _,af _⟩
 |some a =>
  by_cases fu:ts=[]
  ·subst fu;refine(Tryz.slices_Clone_string_zero a _ w).mono λe w' hq=>?_;obtain⟨v',rfl,h1,-,h2⟩:=hq;exact⟨_,rfl,h1,h2,h2.size⟩
  ·have e:=hq fu;cases e;refine(Tryz.slices_Clone_string b 0 ts.length c ts w (af _) aa (λj hj=>?_)).mono λe w' hq=>?_
   ·rw[ht j hj];simp[hj]
   ·obtain⟨v',rfl,h1,h2⟩:=hq;rw[cO]at h1;exact⟨_,rfl,h1,h2.2,h2.2.size⟩
def jI(rs:List aN):List Value:=(rs.map aN.cells).flatten
def rz(r:aN)(rs:List aN):jI (r::rs)=.string r.out :: .int .i64 r.eT :: .slice r.sa r.sl r.sc::jI rs:=by simp[jI,aN.cells]
def sE(rs:List aN):(jI rs).length=rs.length*3:=by
 induction rs with
 |nil=>rfl
 |cons r rs ih =>
  rw[rz];simp[ih];omega
def sF:∀(rs:List aN) (i:Nat) (h:i<rs.length),(jI rs)[i*3]?=so (.string rs[i].out)/\(jI rs)[i*3+1]?=so (.int .i64 rs[i].eT)/\(jI rs)[i*3+2]?=so (.slice rs[i].sa rs[i].sl rs[i].sc)
 |r::rs,0,h=>by simp[rz]
 |r::rs,i+1,h=>by
  have ih:=sF rs i (by simpa using h);have e2:(i+1)*3=i*3+1+1+1:=aa;rw[rz,e2];simpa using ih
def EL(rs:List aN):∀u∈jI rs,u.oneCell'=true:=λu hu=>by
 simp only[jI,List.mem_flatten,List.mem_map]at hu;obtain⟨l,⟨r,-,rfl⟩,hu⟩:=hu;simp[aN.cells]at hu;rcases hu with rfl|rfl|rfl<;>rfl
def EM{w:ae}{b:Nat}{rs:List aN}(h:fw w b rs):∀j u,(jI rs)[j]?=so u->w.cell? ⟨b,j,we⟩=so u:=λj u hu=>by
 have hj:j<rs.length*3:=by
  rw[<- sE];exact(a8.1 hu).1
 have hi:j/3<rs.length:=aa;obtain⟨c0,c1,c2⟩:=sF rs (j/3) hi;obtain⟨d0,d1,d2⟩:=h (j/3) hi;have h3:j=j/3*3\/j=j/3*3+1\/j=j/3*3+2:=aa;generalize j/3=i at *;rcases h3 with rfl|rfl|rfl
 ·rw[c0]at hu;rw[d0];exact hu
 ·rw[c1]at hu;rw[d1];exact hu
 ·rw[c2]at hu;rw[d2];exact hu
def TZ:(ak.info? 222).map (λi=>(i.zero,i.size,i.bytes))=so (so (.agg #[.bool false,.slice we 0 0,.bool false,.string bF]),4,56):=ah
def EN(w:ae)(n:Nat)(hn:n<=100000):(Instr.makeSlice 148 (.int .i64 (n:Int)) (.int .i64 (n:Int))).run ak w=.ok (.slice (so ⟨w.heap.size,0,we⟩) n n) (w.alloc (.cells (madeCells #[.bool false,.slice we 0 0,.bool false,.string bF] (n*4)) 222)):=by
 obtain⟨i,hi,hz⟩:=aH.1 TZ;simp only[bO]at hz;obtain⟨hz,hs,hb⟩:=hz;have:=run_make (P:=ak) w 148 222 i _ underlying148 hi hz .i64 .i64 n n aa (en _) (by rw[hb];omega) aa;rw[this,hs];simp[Value.cells]
def vP{w:ae}{lo e sz n:Nat}{v:Value}{xs:List Value}(h:w.ownsRow lo e sz v n xs){p:Option Addr}{l c:Nat}(hv:v=.slice p l c):l=n:=by
 obtain⟨h0,hc⟩:=h;rcases hc with⟨rfl,h2⟩|⟨g,cap,cur,rfl,h1,_⟩
 ·cases hv;exact h2.symm
 ·cases hv;rfl
def tF(j:Nat):Value:=match j%4 with
 |0=>.bool false
 |1=>.slice we 0 0
 |2=>.bool false
 |_=>.string bF
def vk(lo hi:Nat)(v:Value)(ts:List ag)(w':ae):Prop:=(v=.slice we 0 0/\ts=[])\/∃g cap,v=.slice (so ⟨g,0,we⟩) ts.length cap/\lo<g/\g<hi/\gf w' g 0 ts
def vk.keep{lo hi mn:Nat}{v:Value}{ts:List ag}{w w':ae}(h:vk lo hi v ts w)(hz:hi<=mn)(e:∀g,lo<g->g<hi->w'.heap[g]?=w.heap[g]?):vk lo mn v ts w':=by
 rcases h with h|⟨g,cap,h1,h2,h3,h4⟩
 ·exact .inl h
 ·exact .inr ⟨g,cap,h1,h2,aa,λk hk=>(World.cell?_of_block (w:=w) (w':=w') (a:=⟨g,0+k,we⟩) (e g h2 h3)).trans (h4 k hk)⟩
def QM{lo:Nat}{v:Value}{ts:List ag}{w1 w2:ae}(h:w2.ownsRow w1.heap.size 9 1 v ts.length (ts.map .string))(Jp:lo<w1.heap.size):vk lo w2.heap.size v ts w2:=by
 have h0:=h;obtain⟨h4,h5⟩:=h;rcases h5 with⟨e1,e2⟩|⟨g,cap,cur,rfl,q1,q2,q3,q4,q5,q6⟩
 ·refine .inl ⟨e1,?_⟩;cases ts with
  |nil=>rfl
  |cons r rs=>simp at e2
 ·have hg:g<w2.heap.size:=aX λq=>by
   rw[bX (dt q)]at q2;cases q2
  refine .inr ⟨g,cap,rfl,aa,hg,λi hi=>?_⟩;have hc:=h0.cells (g:=g) rfl i (.string ts[i]) (by simp[hi]);have ha:(⟨g,0,we⟩:Addr).add i=⟨g,i,we⟩:=by simp[Addr.add];omega
  rw[ha]at hc;rw[bD];exact hc
structure BI(w:ae)(rs:List aN)(NM:aN->List ag)(Ru k:Nat)(w':ae):Prop where
 FQ:Below w.heap.size w w'
 ru:rs≠[]->w.heap.size<=Ru/\Ru<w'.heap.size
 row:rs≠[]->∃N f,w'.rowIs Ru 42 N f/\rs.length*3<=N/\∀i (h:i<rs.length),f (i*3)=.string rs[i].out/\f (i*3+1)=.int .i64 rs[i].eT/\(k<=i->f (i*3+2)=.slice rs[i].sa rs[i].sl rs[i].sc)/\(i<k->vk Ru w'.heap.size (f (i*3+2)) (NM rs[i]) w')
structure WM(lo:Nat)(rs:List aN)(NM:aN->List ag)(v:Value)(w':ae):Prop where
 ex:∃(bb Rb Ru c:Nat) (p':Option Addr) (f:Nat->Value),v=.pointer (so ⟨bb,0,we⟩)/\lo<=Rb/\Rb<bb/\bb<w'.heap.size/\((p'=we/\rs=[])\/(p'=so ⟨Ru,0,we⟩/\lo<=Ru/\Ru<Rb)) /\
  (∀i (h:i<rs.length),w'.cell? ⟨Ru,i*3,we⟩=so (.string rs[i].out)/\w'.cell? ⟨Ru,i*3+1,we⟩=so (.int .i64 rs[i].eT)/\w'.cell? ⟨Ru,i*3+2,we⟩=so (f i)/\vk Ru Rb (f i) (NM rs[i]) w') /\
  w'.heap[bb]?=so (Ls (.slice p' rs.length c) (.int .u32 0) (.int .i32 0) (.int .u32 0) (.slice we 0 0) (.slice we 0 0) (.slice we 0 0) (.slice (so ⟨Rb,0,we⟩) rs.length rs.length)) /\
  w'.rowIs Rb 222 (rs.length*4) tF
def T1(p:Option Addr)(b c:Nat)(rs:List aN)(NM:aN->List ag)(NB:aN->Nat)(w:ae)(hR:OJ w p b rs NM NB)(hp:p=we->rs=[])(hpi:∀r∈rs,r.sa=we->NM r=[]):
  Calls ak 41 #[.slice p rs.length c] w λe w'=>∃v,e=.returned v/\Below w.heap.size w w'/\w.heap.size<=w'.heap.size/\WM w.heap.size rs NM v w':=by
 have sD:=hR.ui;have fG:=EK b c rs.length p (jI rs) w (sE rs) aa (λe=>by rw[hp e];rfl) (λfu=>(hR.ptr (λe=>fu (by rw[e];rfl))).1) (EM hR.at_) (EL rs);have lP:=λw=>EN w rs.length aa;go_enter func41,ntmps41;go_wp2_with (go_at_call 71;refine fG.mono ?_;rintro e w1 ⟨v1,rfl,KC,Ev,JO⟩;obtain⟨p',sl,c',Ie⟩:=nB KC;have hsl:=vP KC Ie;subst hsl;subst Ie);obtain⟨Ru,iX,hB0⟩:∃Ru,((p'=we/\rs=[])\/(p'=so ⟨Ru,0,we⟩/\w.heap.size<=Ru/\Ru<w1.heap.size))/\BI w rs NM Ru 0 w1:=by
  rcases KC.2 with⟨e1,e2⟩|⟨g,cap,cur,e1,q1,q2,q3,q4,q5,q6⟩
  ·have HY:rs=[]:=dx.1 e2;injection e1 with e1 _ _;exact⟨0,.inl ⟨e1,HY⟩,Ev,λq=>absurd HY q,λq=>absurd HY q⟩
  ·have hg:g<w1.heap.size:=aX λq=>by
    rw[bX (dt q)]at q2;cases q2
   have hc:=KC.cells (g:=g) (by rw[e1];rfl);cases e1;refine⟨g,.inr ⟨rfl,q1,hg⟩,Ev,λ_=>⟨q1,hg⟩,λ_=>⟨cur.size,λj=>cur.getD j undef,⟨cur,q2,rfl,λj hj=>by simp[hj]⟩,by rw[q5];exact eM _ q3,λi hi=>?_⟩⟩;obtain⟨c0,c1,c2⟩:=sF rs i hi;have cc:∀j u,(jI rs)[j]?=so u->cur.getD j undef=u:=λj u hu=>by
    have:=hc j u hu;have hj:j<rs.length*3:=by
     rw[<- sE];exact(a8.1 hu).1
    have QN:j<cur.size:=by rw[q5];exact bf hj (eM _ q3)
    have ha:(⟨g,0,we⟩:Addr).add j=⟨g,j,we⟩:=by simp[Addr.add];omega
    rw[ha]at this;simp[World.cell?,q2,QN]at this;simp[QN,this]
   exact⟨cc _ _ c0,cc _ _ c1,λ_=>cc _ _ c2,λq=>aa⟩
 clear KC Ev;go_loopw [9] (λi w'=>∃k:Nat,k<=rs.length/\i=.int .i64 k/\BI w rs NM Ru k w'/\w1.heap.size<=w'.heap.size) (λi _=>rs.length-(intOf i).toNat)
 case atStart=>exact⟨0,aW _,rfl,hB0,af _⟩
 case round =>
  clear hB0;obtain⟨k,hk,rfl,hB,pL⟩:=hrel;by_cases cR:k<rs.length
  ·have fu:rs≠[]:=λe=>by rw[e]at cR;simp at cR
   rcases iX with⟨-,e⟩|⟨rfl,mC,ME⟩
   ·exact absurd e fu
   obtain⟨N,f,cd,hN,hf⟩:=hB.row fu;obtain⟨-,AH⟩:=hB.ru fu;obtain⟨f0,f1,f2,-⟩:=hf k cR;have c2:=cd.cell (show k*3+2<N by omega);have z2:=cd.frozen (k*3+2);rw[f2 (af _)]at c2;obtain⟨n1,n2,n3,n4⟩:=hR.nm rs[k] (aA cR);rw[n1]at c2;have HP:=Na (NB rs[k]) rs[k].sc rs[k].sa (NM rs[k]) wr aa (hpi _ (aA cR)) (λq=>(n2 q).1) (λj hj=>n3.below (n2 (lU hj)).2 hB.FQ j hj);go_wp2_with (go_at_call 51;refine HP.mono ?_;rintro e w2 ⟨v2,rfl,Yi,oe,Da⟩;have pz:=QM Yi AH;have NN:=nB Yi;obtain⟨sp,sl,sc2,NN⟩:=NN;subst NN;have Yj:=(oe.cell (p:=⟨Ru,k*3+2,we⟩) AH).trans c2;have zz2:=(oe.frozen (p:=⟨Ru,k*3+2,we⟩) AH).trans z2);have adW:=World.rowIs.of_block cd (oe.block Ru AH);have on:=Go.Ren.AI w2 Ru (k*3+2) (.slice sp sl sc2);refine⟨⟨k+1,aa,by go_num,⟨?_,λ_=>⟨mC,by rw[on.1];omega⟩,λ_=>⟨N,λj=>if j=k*3+2 then .slice sp sl sc2 else f j,(adW.set (k*3+2) _).congr λj hj=>rfl,hN,λi hi=>?_⟩⟩,by rw[on.1];omega⟩,by simp[intOf];omega⟩
   ·exact(hB.FQ.trans (oe.mono (by have:=hB.FQ.size;omega))).setCell (by simpa using mC) _
   ·obtain⟨g0,g1,g2,g3⟩:=hf i hi;have e0:¬i*3=k*3+2:=aa;have e1:¬i*3+1=k*3+2:=aa;simp only[if_neg e0,if_neg e1];refine⟨g0,g1,λq=>?_,λq=>?_⟩
    ·have e2:¬i*3+2=k*3+2:=aa;rw[if_neg e2];exact g2 aa
    ·by_cases e:i=k
     ·subst e;rw[if_pos rfl];exact pz.keep (cF on.1.symm) λg hg _=>on.2 g aa
     ·have e2:¬i*3+2=k*3+2:=aa;rw[if_neg e2];exact(g3 aa).keep (by rw[on.1];exact Da) λg hg Bs=>(on.2 g aa).trans (oe.block g Bs)
  ·have lY:k=rs.length:=aa;subst lY;go_wp2;go_ret;generalize hm:madeCells #[.bool false,.slice we 0 0,.bool false,.string bF] (rs.length*4)=mc;have hms:mc.size=rs.length*4:=by rw[<- hm];simp[size_madeCells]
   have hzw:=hB.FQ.size;refine⟨_,rfl,(hB.FQ.alloc aa _).alloc eW _,eW,⟨wr.heap.size+1,wr.heap.size,Ru,c',p',λi=>((wr.cell? ⟨Ru,i*3+2,we⟩).getD undef),rfl,hzw,aa,aj,?_,λi hi=>?_,heap_alloc2_new wr _ _,mc,heap_alloc2_old wr _ _,hms,λj hj=>?_⟩⟩
   ·exact iX.imp id λq=>⟨q.1,q.2.1,aa⟩
   ·have fu:rs≠[]:=λe=>by rw[e]at hi;simp at hi
    obtain⟨N,f,cd,hN,hf⟩:=hB.row fu;obtain⟨-,AH⟩:=hB.ru fu;obtain⟨g0,g1,-,g3⟩:=hf i hi;have wU:((wr.alloc (.cells mc 222)).alloc (Ls (.slice p' rs.length c') (.int .u32 0) (.int .i32 0) (.int .u32 0) (.slice we 0 0) (.slice we 0 0) (.slice we 0 0) (.slice (so ⟨wr.heap.size,0,we⟩) rs.length rs.length))).heap[Ru]?=wr.heap[Ru]?:=(alloc_old _ _ _ eW).trans (alloc_old _ _ _ AH);have T2:=World.rowIs.of_block cd wU;have d0:=T2.cell (show i*3<N by omega);have d1:=T2.cell (show i*3+1<N by omega);have d2:=T2.cell (show i*3+2<N by omega);have d3:=cd.cell (show i*3+2<N by omega);rw[g0]at d0;rw[g1]at d1;refine⟨d0,d1,?_,?_⟩
    ·show _=so ((wr.cell? ⟨Ru,i*3+2,we⟩).getD undef);rw[d3];exact d2
    show vk _ _ ((wr.cell? ⟨Ru,i*3+2,we⟩).getD undef) _ _;rw[d3];exact(g3 hi).keep (af _) λg _ hg=>(alloc_old _ _ _ eW).trans (alloc_old _ _ _ hg)
   ·rw[<- hm];simp only[madeCells,aM,Array.getElem?_range,hj,if_true,aK];have h4:j%4=0\/j%4=1\/j%4=2\/j%4=3:=aa;rcases h4 with e|e|e|e<;>simp[e,tF]
end
def KD{α:Type}{x:ag}{v:α}:∀{l:List (ag×α)},wv l x=so v->(x,v)∈l
 | [],h=>by cases h
 | (k,u)::l,h=>by
  unfold wv at h;split at h
  ·rename_i e;cases h;subst e;simp
  ·exact bY _ (KD h)
section
variable {Fin:br}{o:aL}{w:ae}{K:EJ}{s s':D9}{Ky:Nat->Nat}
def KE{th:List (ag×ag)}(h:∀x∈th,x.2.size<=12)(x:ag):(oq th x).2.size<=12:=by
 unfold oq;split
 ·rename_i t e;exact h _ (KD e)
 ·simp[V0]
end
section
open Go.RowKit (intOf)
section
variable {Fin:br}{o o':aL}{w w':ae}
structure Hand(o:aL)(w:ae)(p:Option Addr)(b c:Nat)(rs:List aN)(NM:aN->List ag)(NB:aN->Nat)(RK:ag->Nat):Prop where
 ui:rs.length<=8
 ptr:rs≠[]->p=so ⟨b,0,we⟩/\o b
 nil:p=we->rs=[]
 at_:fw w b rs
 cl:Cl ak L0 o (.slice p rs.length c)
 cap:rs.length<=c
 nm:∀r∈rs,r.sl=(NM r).length/\(NM r≠[]->r.sa=so ⟨NB r,0,we⟩/\o (NB r))/\gf w (NB r) 0 (NM r)/\(NM r).length<=4
 nmn:∀r∈rs,r.sa=we->NM r=[]
 yes:TY rs NM RK
 low:∀r∈rs,RK r.out<rs.length
def Hand.rin{p:Option Addr}{b c:Nat}{rs:List aN}{NM:aN->List ag}{NB:aN->Nat}{RK:ag->Nat}{wl:ae}(h:Hand o w p b c rs NM NB RK)(hF:bJ ak L0 o w)(hz:wl.heap.size=w.heap.size)(bu:∀b,o b->wl.heap[b]?=w.heap[b]?):OJ wl p b rs NM NB:=by
 refine⟨h.ui,λq=>⟨(h.ptr q).1,by rw[hz];exact hF.lt (h.ptr q).2⟩,λi hi=>?_,λr hr=>⟨(h.nm r hr).1,λq=>⟨((h.nm r hr).2.1 q).1,by rw[hz];exact hF.lt ((h.nm r hr).2.1 q).2⟩,λk hk=>?_,(h.nm r hr).2.2.2⟩⟩
 ·exact gG h.at_ (bu b (h.ptr (lU hi)).2) i hi
 ·exact dS (h.nm r hr).2.2.1 (bu _ ((h.nm r hr).2.1 (lU hk)).2) k hk
def FR{w1 w2:ae}{b off:Nat}(e:w2.heap[b]?=w1.heap[b]?):w2.cell? ⟨b,off,we⟩=w1.cell? ⟨b,off,we⟩:=World.cell?_of_block (w:=w1) (w':=w2) (a:=⟨b,off,we⟩) e
def aah{p:Option Addr}{b c:Nat}{rs:List aN}{NM:aN->List ag}{NB:aN->Nat}{RK:ag->Nat}(hF:bJ ak L0 o w)(h:Hand o w p b c rs NM NB RK):
  bC ak (XB ak Fin 0) 41 #[.slice p rs.length c] o w λv o' w'=>iz o w v o' w'/\WM w.heap.size rs NM v w':=by
 refine bC.mono (fQ ah hF (λy hy=>by simp at hy;subst hy;exact h.cl) (Q:=λwl v w'=>WM wl.heap.size rs NM v w') (λwl D8 v w1 w2 e1 e2 h=>?_) (λwl hz bu=>?_)) (λv o' w' hq=>?_)
 ·rw[e1];obtain⟨bb,Rb,Ru,c,p',f,h1,h2,h3,h4,h5,h6,h7,h8⟩:=h.ex;refine⟨bb,Rb,Ru,c,p',f,h1,h2,h3,by rw[e2];exact h4,h5,λi hi=>?_,by rw[e2];exact h7,h8.of_block (by rw[e2])⟩;obtain⟨k1,k2,k3,k4⟩:=h6 i hi;exact⟨(FR (by rw[e2])).trans k1,(FR (by rw[e2])).trans k2,(FR (by rw[e2])).trans k3,k4.keep (af _) λg _ _=>by rw[e2]⟩
 ·refine(T1 p b c rs NM NB wl (h.rin hF hz bu) h.nil h.nmn).mono λe w' hq=>?_;obtain⟨v,rfl,h1,h2,h3⟩:=hq;exact⟨_,rfl,h2,λb hb=>h1.block b hb,h3⟩
 ·obtain⟨hN,wl,bN,z1,z2,hs,h3⟩:=hq;refine⟨hN,?_⟩;rw[z1]at h3;obtain⟨bb,Rb,Ru,c,p',f,h1,h2,h3,h4,h5,h6,h7,h8⟩:=h3.ex;refine⟨bb,Rb,Ru,c,p',f,h1,h2,h3,aa,h5,λi hi=>?_,(hs bb aa aa).trans h7,h8.of_block (hs Rb h2 aa)⟩;obtain⟨k1,k2,k3,k4⟩:=h6 i hi;have AH:w.heap.size<=Ru/\Ru<Rb:=by
   rcases h5 with⟨-,e⟩|⟨-,q1,q2⟩
   ·rw[e]at hi;simp at hi
   ·exact⟨q1,q2⟩
  have e:=hs Ru AH.1 aa;exact⟨(FR e).trans k1,(FR e).trans k2,(FR e).trans k3,k4.keep (af _) λg g1 g2=>hs g aa aa⟩
end
end
def slO:Value->Option Addr
 | .slice a _ _=>a
 |_=>we
def slL:Value->Nat
 | .slice _ l _=>l
 |_=>0
def slC:Value->Nat
 | .slice _ _ c=>c
 |_=>0
def OL(rs:List aN)(f:Nat->Value)(i:Nat):aN:=⟨((rs[i]?).map (·.out)).getD bF,((rs[i]?).map (·.eT)).getD 0,slO (f i),slL (f i),slC (f i)⟩
def kK(rs:List aN)(f:Nat->Value):List aN:=(List.range rs.length).map (OL rs f)
def tG(rs:List aN)(f:Nat->Value):(kK rs f).length=rs.length:=by simp[kK]
def qp(rs:List aN)(f:Nat->Value)(i:Nat)(h:i<rs.length)(h':i<(kK rs f).length):(kK rs f)[i]=⟨rs[i].out,rs[i].eT,slO (f i),slL (f i),slC (f i)⟩:=by simp[kK,OL,h]
def sG(rs:List aN)(f:Nat->Value):(kK rs f).map (·.out)=rs.map (·.out):=by
 apply List.ext_getElem
 ·simp[tG]
 ·intro i h1 h2;have hi:i<rs.length:=by simpa using h2
  simp[qp rs f i hi]
def qs{rs:List aN}{f:Nat->Value}{r:aN}(h:r∈kK rs f):∃i,∃hi:i<rs.length,r=⟨rs[i].out,rs[i].eT,slO (f i),slL (f i),slC (f i)⟩:=by
 obtain⟨i,hi,rfl⟩:=bB h;have mn:i<rs.length:=by rw[<- tG rs f];exact hi
 exact⟨i,mn,qp rs f i mn hi⟩
def EO:List aN->(aN->List ag)->ag->List ag
 | [],_,_=>[]
 |r::l,NM,x=>if r.out=x then NM r else EO l NM x
def OM{NM:aN->List ag}:∀{rs:List aN},(rs.map (·.out)).Nodup->∀r∈rs,EO rs NM r.out=NM r
 | [],_,r,h=>by simp at h
 |q::l,hn,r,h=>by
  rw[aB,il]at hn;unfold EO;rcases bq.1 h with rfl|h
  ·rw[if_pos rfl]
  ·rw[if_neg (λe=>hn.1 (by rw[e];exact aV.2 ⟨r,h,rfl⟩)),OM hn.2 r h]
structure s7(rs:List aN)(NM:aN->List ag)(RK:ag->Nat)(B:Ab):Prop where
 len:B.rs.length=rs.length
 at_:∀i (h:i<rs.length) (h':i<B.rs.length),B.rs[i].out=rs[i].out/\B.rs[i].eT=rs[i].eT/\B.NM B.rs[i]=NM rs[i]
 outs:B.rs.map (·.out)=rs.map (·.out)
 rk:B.RK=RK
section
variable {Fin:br}{o o':aL}{w w':ae}
def KF{lo:Nat}{rs:List aN}{NM:aN->List ag}{RK:ag->Nat}{v:Value}(hF:bJ ak L0 o' w')(Jp:4<=lo)(own:∀b,lo<=b->b<w'.heap.size->o' b)(ui:rs.length<=8)(yes:TY rs NM RK)(low:∀r∈rs,RK r.out<rs.length)(four:∀r∈rs,(NM r).length<=4)(pow:jM w')(N:WM lo rs NM v w'):
  ∃B:Ab,v=.pointer (so ⟨B.bb,0,we⟩)/\jO o' w' B we (λ_=>we)/\s7 rs NM RK B/\(∀b,zd B we (λ_=>we) b->b=1\/(lo<=b/\b<=B.bb))/\lo<=B.bb/\B.bb<w'.heap.size:=by
 obtain⟨bb,Rb,Ru0,c,p',f,h1,h2,h3,h4,h5,h6,h7,h8⟩:=N.ex;have o1:o' 1:=hF.kz 1 (by rw[show ak.globals.size=4 by kernel_rfl];omega);obtain⟨Ru,hp,AH,h6⟩:∃Ru,((p'=we/\rs=[])\/p'=so ⟨Ru,0,we⟩)/\(Ru=1\/(lo<=Ru/\Ru<Rb))/\∀i (h:i<rs.length),w'.cell? ⟨Ru,i*3,we⟩=so (.string rs[i].out)/\w'.cell? ⟨Ru,i*3+1,we⟩=so (.int .i64 rs[i].eT)/\w'.cell? ⟨Ru,i*3+2,we⟩=so (f i)/\(lo<=Ru/\vk Ru Rb (f i) (NM rs[i]) w'):=by
  rcases h5 with⟨e1,e2⟩|⟨e1,e2,e3⟩
  ·exact⟨1,.inl ⟨e1,e2⟩,.inl rfl,λi hi=>by rw[e2]at hi;simp at hi⟩
  ·exact⟨Ru0,.inr e1,.inr ⟨e2,e3⟩,λi hi=>⟨(h6 i hi).1,(h6 i hi).2.1,(h6 i hi).2.2.1,e2,(h6 i hi).2.2.2⟩⟩
 have oRu:o' Ru:=by
  rcases AH with rfl|q
  ·exact o1
  ·exact own Ru q.1 aa
 have hlen:=tG rs f;have qW:∀i (hi:i<rs.length),EO rs NM rs[i].out=NM rs[i]:=λi hi=>OM yes.nodup _ (aA hi);have pW:∀i (hi:i<rs.length),f i=.slice (slO (f i)) (slL (f i)) (slC (f i))/\slL (f i)=(NM rs[i]).length/\((slO (f i)=we/\NM rs[i]=[])\/∃g,slO (f i)=so ⟨g,0,we⟩/\lo<=g/\g<Rb/\gf w' g 0 (NM rs[i])):=λi hi=>by
  obtain⟨-,-,-,k1,k2⟩:=h6 i hi;rcases k2 with⟨e1,e2⟩|⟨g,cap,e1,e2,e3,e4⟩
  ·rw[e1,e2];exact⟨rfl,rfl,.inl ⟨rfl,rfl⟩⟩
  ·rw[e1];exact⟨rfl,rfl,.inr ⟨g,rfl,aa,e3,e4⟩⟩
 have hR:lJ (kK rs f) (λr=>EO rs NM r.out) RK:=by
  refine⟨by rw[sG];exact yes.nodup,λr hr=>?_,λr hr x hx ho=>?_,λr hr=>?_,λr hr=>?_⟩;all_goals obtain⟨i,hi,rfl⟩:=qs hr
  ·rw[hlen];exact low rs[i] (aA hi)
  ·simp only[qW i hi]at hx;rw[sG]at ho;exact yes.Dk _ (aA hi) x hx ho
  ·exact yes.eT rs[i] (aA hi)
  ·simp only[qW i hi];exact four _ (aA hi)
 have Gt:∀r∈kK rs f,EO rs NM r.out≠[]->lo<=(r.sa.map (·.block)).getD 0/\(r.sa.map (·.block)).getD 0<Rb:=λr hr fu=>by
  obtain⟨i,hi,rfl⟩:=qs hr;simp only[qW i hi]at fu;obtain⟨-,-,q⟩:=pW i hi;rcases q with⟨-,q⟩|⟨g,q,q1,q2,-⟩
  ·exact absurd q fu
  ·simp only[q,aK,bc];exact⟨q1,q2⟩
 have hOK:mA o' w' p' Ru c (kK rs f) (λr=>EO rs NM r.out) (λr=>(r.sa.map (·.block)).getD 0):=by
  refine⟨aa,λfu=>?_,oRu,λi hi=>?_,λr hr=>?_,?_,λr hr=>?_⟩
  ·rcases hp with⟨-,e⟩|e
   ·exact absurd (by subst e;rfl) fu
   ·exact e
  ·have mn:i<rs.length:=aa;obtain⟨k0,k1,k2,-⟩:=h6 i mn;rw[qp rs f i mn hi];refine⟨k0,k1,?_⟩;rw[k2];exact congrArg so (pW i mn).1
  ·obtain⟨i,hi,rfl⟩:=qs hr;obtain⟨-,-,q⟩:=pW i hi;rcases q with⟨q,-⟩|⟨g,q,q1,q2,-⟩
   ·simp only[q];exact nR
   ·simp only[q];exact eK (own g q1 aa)
  ·rcases hp with⟨e,-⟩|e
   ·rw[e];exact nR
   ·rw[e];exact eK oRu
  ·obtain⟨i,hi,rfl⟩:=qs hr;obtain⟨-,q0,q⟩:=pW i hi;simp only[qW i hi];refine⟨q0,λfu=>?_,?_,four _ (aA hi)⟩
   ·rcases q with⟨-,q⟩|⟨g,q,q1,q2,-⟩
    ·exact absurd q fu
    ·simp only[q,aK,bc];exact⟨trivial,own g q1 aa⟩
   ·rcases q with⟨-,q⟩|⟨g,q,q1,q2,q3⟩
    ·rw[q];exact λk hk=>by simp at hk
    ·simp only[q,aK,bc];exact q3
 obtain⟨cs,r1,r2,r3⟩:=h8;have cG:∀s,s<rs.length->∀j,j<4->w'.cell? ⟨Rb,s*4+j,we⟩=so (tF (s*4+j)):=λs hs j hj=>World.rowIs.cell (b:=Rb) ⟨cs,r1,r2,r3⟩ (show s*4+j<rs.length*4 by omega);refine⟨⟨bb,p',Ru,c,Rb,kK rs f,λr=>EO rs NM r.out,λr=>(r.sa.map (·.block)).getD 0,RK⟩,h1,⟨λb hb=>?_,hR,hOK,?_,⟨_,_,_,by simp only[hlen];exact h7,(λlo F e=>by cases e)⟩,(λlo F e=>by cases e),λ_ _ _=>rfl,⟨cs,r1,by rw[r2,hlen]⟩,λs hs r _=>?_,(λs b vs _ e=>by cases e),pow⟩,⟨hlen,λi h h'=>?_,sG rs f,rfl⟩,λb hb=>?_,by simp only;omega,h4⟩
 ·rcases hb with rfl|rfl|rfl|rfl|⟨r,hr,q1,rfl⟩|⟨lo,F,q,-⟩|⟨s,vs,-,q⟩
  ·exact own _ aa h4
  ·exact oRu
  ·exact own _ h2 aa
  ·exact o1
  ·obtain⟨k1,k2⟩:=Gt r hr q1;exact own _ k1 (lj k2 aa)
  ·cases q
  ·cases q
 ·show Ru≠bb/\Rb≠bb/\(∀r∈kK rs f,EO rs NM r.out≠[]->(r.sa.map (·.block)).getD 0≠bb)/\4<=Rb/\4<=bb/\Ru≠Rb/\(∀r∈kK rs f,EO rs NM r.out≠[]->(r.sa.map (·.block)).getD 0≠Rb);refine⟨aa,aa,λr hr q=>?_,aa,aa,aa,λr hr q=>?_⟩
  ·have:=Gt r hr q;omega
  ·have:=Gt r hr q;omega
 ·simp only[hlen]at hs;have e0:s*4%4=0:=aa;have e1:(s*4+1)%4=1:=aa;have e2:(s*4+2)%4=2:=aa;have e3:(s*4+3)%4=3:=aa;refine⟨?_,?_,?_,?_⟩
  ·have:=cG s hs 0 aa;simpa[tF,e0] using this
  ·have:=cG s hs 1 aa;simpa[tF,e1] using this
  ·have:=cG s hs 2 aa;simpa[tF,e2] using this
  ·have:=cG s hs 3 aa;simpa[tF,e3] using this
 ·simp only[qp rs f i h h',qW i h];exact⟨trivial,trivial,trivial⟩
 ·rcases hb with rfl|rfl|rfl|rfl|⟨r,hr,q1,rfl⟩|⟨lo,F,q,-⟩|⟨s,vs,-,q⟩
  ·exact .inr ⟨ll (Nat.lt_of_le_of_lt h2 h3),af _⟩
  ·rcases AH with e|q
   ·exact .inl e
   ·exact .inr ⟨q.1,ll (lj q.2 h3)⟩
  ·exact .inr ⟨h2,ll h3⟩
  ·exact .inl rfl
  ·obtain⟨k1,k2⟩:=Gt r hr q1;exact .inr ⟨k1,ll (lj k2 h3)⟩
  ·cases q
  ·cases q
end
def s0(pb:Nat):D9 where
 fd:=we
 old:=λ_=>we
 th:=[]
 st:=[]
 qv:=.slice we 0 0
 qn:=[]
 lost:=false
 time:=0
 phase:=0
 since:=0
 sv:=.slice we 0 0
 src:=[]
 rv:=.slice we 0 0
 rd:=[]
 ck:=0
 pb:=pb
 num:=0
 uf:=.slice we 0 0
 res:=[]
 Dp:=.slice we 0 0
 rO:=[]
section
variable {Fin:br}{o o':aL}{w w':ae}
def n9{w w':ae}{b:Nat}{fs:List (ag×ag)}(h:na w b fs)(e:w'.heap[b]?=w.heap[b]?):na w' b fs:=λi hi=>⟨(cell_of e).trans (h i hi).1,(cell_of e).trans (h i hi).2⟩
end
section
variable {Fin:br}{o o' o1 o2:aL}{w w' w1 w2:ae}
structure gZ(o:aL)(w:ae)(o':aL)(w':ae):Prop where
 bA:fW (λ_=>False) o w o' w'
 all:∀b,w.heap.size<=b->b<w'.heap.size->o' b
def gZ.refl(hF:bJ ak L0 o w):gZ o w o w:=⟨fW.refl hF,λb h1 h2=>aa⟩
def gZ.trans(h:gZ o w o1 w1)(k:gZ o1 w1 o2 w2):gZ o w o2 w2:=⟨h.bA.trans k.bA,λb h1 h2=>by
 by_cases q:b<w1.heap.size
 ·exact k.bA.more _ (h.all b h1 q)
 ·exact k.all b aa h2⟩
def gZ.kJ{v:Value}(h:iz o w v o' w'):gZ o w o' w':=⟨fW.kJ h,λb h1 h2=>by rw[h.own];exact .inr ⟨h1,h2⟩⟩
def gZ.tH(hF:bJ ak L0 (grow o w w') w')(z:w.heap.size<=w'.heap.size)(k:∀b,b<w.heap.size->w'.heap[b]?=w.heap[b]?):gZ o w (grow o w w') w' :=
 ⟨⟨hF,qf,λb hb=>hb.imp id λq=>q.1,z,λb hb _=>k b hb⟩,λb h1 h2=>.inr ⟨h1,h2⟩⟩
structure jy(o:aL)(w:ae)(lo e sz:Nat)(v:Value)(n:Nat)(xs:List Value):Prop where
 row:w.ownsRow lo e sz v n xs
 cl:Cl ak L0 o v
 low:lo<=w.heap.size
def jy.nil(o:aL)(w:ae)(lo e sz:Nat)(h:lo<=w.heap.size):jy o w lo e sz (.slice we 0 0) 0 []:=⟨⟨aj,.inl ⟨rfl,rfl⟩⟩,nR,h⟩
def jy.keep{lo e sz n:Nat}{v:Value}{xs:List Value}(h:jy o w lo e sz v n xs)(pB:∀b,o b->o' b)(hz:w.heap.size<=w'.heap.size)(k:∀g,v.ownBlock=so g->w'.heap[g]?=w.heap[g]?):jy o' w' lo e sz v n xs :=
 ⟨gv h.row λg hg _=>k g hg.symm,h.cl.up pB,aS h.low hz⟩
def jy.lt{lo e sz n:Nat}{v:Value}{xs:List Value}(h:jy o w lo e sz v n xs):∀g,v.ownBlock=so g->lo<=g/\g<w.heap.size:=λg hg=>by
 refine⟨MV h.row g hg,?_⟩;obtain⟨_,hc⟩:=h.row;rcases hc with⟨rfl,_⟩|⟨g',cap,cur,rfl,h1,h2,_⟩
 ·cases hg
 ·cases hg;exact(aI.1 h2).1
def jy.sx{lo e sz n:Nat}{v:Value}{xs:List Value}(h:jy o w lo e sz v n xs)(G:gZ o w o' w'):jy o' w' lo e sz v n xs:=h.keep G.bA.more G.bA.size λg hg=>G.bA.same g (h.lt g hg).2 id
def jy.add{lo e sz n n':Nat}{v v':Value}{xs xs':List Value}{wl bN:ae}(hF:bJ ak L0 o w)(h:jy o w lo e sz v n xs)(bu:jk o w wl)(fP:mG ak L0 o w w' bN v')(cd:bN.ownsRow lo e sz v' n' xs')(Lp:wl.grownBy bN v.ownBlock)(hwh:v'.ownBlock=v.ownBlock\/v'.ownBlock=so wl.heap.size):
  jy (grow o w w') w' lo e sz v' n' xs'/\fW (λb=>v.ownBlock=so b) o w (grow o w w') w'/\∀b,v'.ownBlock=so b->v.ownBlock=so b\/w.heap.size<=b:=by
 rw[bu.size]at hwh;have BG:=fP.bS;have fG:Cl ak L0 (grow o w w') v':=fP.val;have z6:=fP.sx;have adZ:∀b,v'.ownBlock=so b->grow o w w' b:=se BG fG;refine⟨⟨gv cd λb hb _=>fP.same b (adZ b hb.symm),fG,by have:=h.low;omega⟩,⟨BG,qf,λb hb=>hb.imp id λq=>q.1,z6,λb hb hbv=>?_⟩,λb hb=>?_⟩
 ·by_cases ho:o b
  ·rw[fP.same b (.inl ho),Lp.block b (by rw[bu.size];exact hb) (λe=>hbv e.symm),bu.heap b ho]
  ·exact fP.rest b hb ho
 ·rcases hwh with e|e
  ·rw[hb]at e;exact .inl e.symm
  ·rw[hb]at e;exact .inr (cF (aP e).symm)
end
end Go.Proofs.Kz
namespace Go.Ren
open _root_.Option renaming some → so,none → we
open Go.Conc Go.ConcN
structure AO(w wl:ae):Prop where
 heap:wl.heap=w.heap
def AO.cell{w wl:ae}(h:AO w wl){ad:Addr}:wl.cell? ad=w.cell? ad:=by simp[World.cell?,h.heap]
section
variable {P:Program}{Fin:br}{d:Nat}{o:aL}{w:ae}{fn:FuncId}{Q:Exit->Act->aL->ae->Prop}{a:Act}{ops:Array Oper}{i:Nat}{rest:List Nat}{op:Oper}
end
section
variable {P:Program}{L:Nat->Bool}{Fin:br}{d:Nat}{fn:FuncId}{Q:Exit->Act->aL->ae->Prop}{a:Act}{ops:Array Oper}{S:(Nat->Option Value)->aL->ae->Prop}{kds:List Kd}{v:Nat->Value}{K:Act->Prop}{j:Nat}{l:List Nat}{xs:List Kd}{op:Oper}{dd:Option Tmp}
end
end Go.Ren
namespace Go.Proofs.Kz
open Go.Proofs.Tryz
open Go.Proofs.Tryz renaming prog → ak
open _root_.ByteArray renaming empty → bF
open _root_.Option renaming some → so,none → we
open Go.Ren Go.Conc Go.Proofs Go.ConcN
section
variable {Fin:br}{o o' o1 o2:aL}{w w' w1 w2:ae}
end
section
open Go.ChangeShapes Go.WideShapes Go.Deep
section
variable {H:Type}{enc:TypeId×Value->H}{W:ae}{base:Nat}
def Bg{P:Program}{t e:TypeId}{v:Value}(ht:P.underlying t=so (.slice e))(h:Value.okWide P W .any base t v):∃a l c,v=.slice a l c:=by
 unfold Value.okWide at h;rw[ht]at h;simp only at h;unfold Cell.okWide at h;rw[ht]at h;cases v with
 |slice a l c=>exact⟨a,l,c,rfl⟩
 |_=>simp[Cell.ok,ht]at h
def zh{b off i:Nat}:(⟨b,off,we⟩:Addr).add i=⟨b,off+i,we⟩:=by
 unfold Addr.add;split
 ·rename_i h;subst h;rfl
 ·rfl
end
end
section
variable {Fin:br}{d:Nat}{o:aL}{w:ae}{K:EJ}{s:D9}{lk:Int}{Ky:Nat->Nat}{fn:FuncId}{Q:Exit->Act->aL->ae->Prop}{a:Act}{ops:Array Oper}{i j:Nat}{rest:List Nat}{t:Tmp}{e1 e2:Oper}
end
def KG(rs:List aN)(NM:aN->List ag)(NB:aN->Nat)(b g:Nat):Prop:=(rs≠[]/\g=b)\/∃r∈rs,NM r≠[]/\g=NB r
section
variable {Fin:br}{o o':aL}{w w':ae}{K:EJ}{s s':D9}
end
open Go.ConcR (Payload)
section
variable {Fin:br}{o o' o1 o2 o3:aL}{w w' w1 w2 w3:ae}{K:EJ}{Ky M9 WL ad0:Nat->Nat}
def Ho:ak.globals.size=4:=ah
def ad1(hF:bJ ak L0 o w):o 1:=hF.kz 1 (by rw[Ho];omega)
end
section
variable {Fin:br}{o o':aL}{w w':ae}
def Hand.keep{p:Option Addr}{b c:Nat}{rs:List aN}{NM:aN->List ag}{NB:aN->Nat}{RK:ag->Nat}(h:Hand o w p b c rs NM NB RK)(pB:∀b,o b->o' b)(e:∀g,KG rs NM NB b g->w'.heap[g]?=w.heap[g]?):Hand o' w' p b c rs NM NB RK:=by
 refine⟨h.ui,λq=>⟨(h.ptr q).1,pB _ (h.ptr q).2⟩,h.nil,λi hi=>?_,h.cl.up pB,h.cap,λr hr=>⟨(h.nm r hr).1,λq=>⟨((h.nm r hr).2.1 q).1,pB _ ((h.nm r hr).2.1 q).2⟩,λk hk=>?_,(h.nm r hr).2.2.2⟩,h.nmn,h.yes,h.low⟩
 ·exact gG h.at_ (e b (.inl ⟨(lU hi),rfl⟩)) i hi
 ·exact dS (h.nm r hr).2.2.1 (e _ (.inr ⟨r,hr,(lU hk),rfl⟩)) k hk
end
def FT{α:Type}{x:ag}:∀{l:List (ag×α)},x∉l.map (·.1)->wv l x=we
 | [],_=>rfl
 | (k,u)::l,h=>by
  simp only[aB,bq,not_or]at h;unfold wv;rw[if_neg h.1];exact FT h.2
def FU{α:Type}(x y:ag)(v:α):∀l:List (ag×α),wv (l++[(x,v)]) y=match wv l y with
  |some u=>so u
  |none=>if y=x then so v else we
 | []=>by simp[wv]
 | (k,u)::l=>by
  rw[List.cons_append];unfold wv;by_cases hyk:y=k
  ·rw[if_pos hyk,if_pos hyk]
  ·rw[if_neg hyk,if_neg hyk];exact FU x y v l
def uT:∀(l m:List ag),l.Nodup->(∀x∈l,x∈m)->l.length<=m.length
 | [],m,_,_=>aj
 |x::l,m,hn,h=>by
  rw[il]at hn;have hx:=h x aj;obtain⟨m1,m2,rfl⟩:=List.append_of_mem hx;have:=uT l (m1++m2) hn.2 (λy hy=>by
   have UQ:=h y (bY _ hy);rw[bG,bq]at UQ;rw[bG];rcases UQ with q|q|q
   ·exact .inl q
   ·rw[q]at hy;exact absurd hy hn.1
   ·exact .inr q)
  simp only[List.length_append,List.length_cons]at this |-;omega
structure oG(s:D9)(fs:List (ag×ag)):Prop where
 get:∀x,wv s.th x=wv fs x
 tk:(s.th.map (·.1)).Nodup/\∀x∈s.th.map (·.1),x∈Yh
 fk:(fs.map (·.1)).Nodup/\∀x∈fs.map (·.1),x∈Yh
section
variable {Fin:br}{o o' o1 o2:aL}{w w' w1 w2:ae}{S:Nat}{K:EJ}{s s':D9}{Ky ad0 M9 WL:Nat->Nat}{rv fv:Value}{fs:List (ag×ag)}{ed:Nat}
end
section
variable {Fin:br}{o o' o1 o2 o3:aL}{w w' w1 w2 w3:ae}{S Nb:Nat}{K:EJ}{s s' s2:D9}{Ky ad0 M9 WL anw:Nat->Nat}{rv fv fv2 sv:Value}{fs fs2:List (ag×ag)}{ed ed2:Nat}{since:List ag}
def ON{P:Program}{m:Bool}{R:aL->ae->ae->Prop}{Gu:aL->ae->ae->Array Event->Prop}{X:aL->aY->ae->Prop}{fn:FuncId}{Q:Exit->Act->aL->ae->Prop}{a:Act}(W:gj P m R Gu X){x y:Code}(J:Act->aL->ae->Prop)(h1:wN X fn x (nu J Q) a o w)(h2:∀a' o' w',J a' o' w'->wN X fn y Q a' o' w'):wN X fn (.seq x y) Q a o w :=
 Bt W (I3 h1 λe a o w hq=>by
  cases e
  case normal=>exact h2 _ _ _ hq
  all_goals exact hq)
def nf{P:Program}(w1:ae)(es:Array Event)(t e:TypeId)(b k n ec:Nat)(ht:P.underlying t=so (.slice e))(hkc:k<=ec):(Instr.sliceAt t (.slice (so ⟨b,0,we⟩) n ec) we (so (.int .i64 k)) we).events P w1 es=es:=by
 have h:(k:Int)<=ec:=aa;have b1:∀w es c,(Instr.sliceBound (.int .i64 k) ec c).events P w es=es:=λw es c=>by
  simp[Instr.sliceBound,asIntOf,h]
 unfold Instr.sliceAt;simp[Instr.slice,Instr.sliceBounds,Instr.sureAddr,Sem.events_bind,run_underlying ht,run_sliceBound,b1,h,go_sem]
end
end Go.Proofs.Kz
namespace Go.Ren
open _root_.Option renaming some → so,none → we
open Go.Conc Go.ConcN
def FV(P:Program)(X:aL->aY->ae->Prop)(f:FuncId)(fc:Func)(vs:Array Value)(o:aL)(w:ae)(Post:Value->aL->ae->Prop):Prop :=
 ∃c,fc.body=so c/\wN X f c (λe a' o' w'=>(e=.normal\/e=.ret)/\a'.defers=[]/\∃v,ResultsC P fc a'.tmps v/\Post v o' w') {tmps:=vs++Array.replicate (fc.ntmps-vs.size) undef,defers:=[]} o w
section
variable {P:Program}{m:Bool}{R:aL->ae->ae->Prop}{Gu:aL->ae->ae->Array Event->Prop}{X:aL->aY->ae->Prop}{o:aL}{w:ae}
def FV.top(W:gj P m R Gu X){f:FuncId}{fc:Func}{vs:Array Value}{Post:Value->aL->ae->Prop}(hf:P.funcs[f]?=so fc)(h:FV P X f fc vs o w Post)(hc:∀(a':Act) (o':aL) (w':ae) (todo:List Item) (v:Value),a'.defers=[]->ResultsC P fc a'.tmps v->Post v o' w'->X o' (G {(base f).at a' todo with mode:=.returning} []) w'):
  X o (G (Frame.enter P f vs .normal) []) w:=by
 obtain⟨c,gb,h⟩:=h;rw[jr hf gb];refine h (base f) [] [] rfl (by simp[base]) λe a' o' w' q=>?_;obtain⟨he,hd,v,hr,hx⟩:=q;rcases he with rfl|rfl
 ·exact W.go rfl (λ_=>eD) (hc a' o' w' [] v hd hr hx)
 ·exact λtodo=>hc a' o' w' todo v hd hr hx
def Bh{b:Frame}{a:Act}{fn:Func}{todo:List Item}{v:Value}(hi:P.inits.idxOf? b.fn=we)(hn:b.kind=.normal)(hd:a.defers=[])(hf:P.funcs[b.fn]?=so fn)(hr:(results fn a.tmps).run P w=.ok v w)(he:(results fn a.tmps).events P w #[]=#[]):
  stepG P true (G {b.at a todo with mode:=.returning} []) w=.ended (.done v) w #[]:=by
 simp[G,stepG,unwind,doReturn,Frame.at,hn,hd,hf,hr,he,hi,GStep.after,seen_none]
end
section
variable {P:Program}
def KH{S:Nat->Prop}{Post:Value->ae->Prop}{a:aY}{W:ae}(hS:∀b,W.heap.size<=b->¬S b)(h:BX P (SP P Post) 0 S a W):
  ∃N last o w' t',runNT P (N+1) (solo a W) #[]=(.ended o w',t')/\runN P N (solo a W)=.next last/\step P last=.ended o w'/\Conc.Good P Post last o w' t':=by
 have XH:ny 0 S #[]:=⟨past_nil.clean,λi a ha=>by simp[touchAt,Trace.act?]at ha,past_nil.over,rfl⟩;obtain⟨N,gs,w,sl,t,q,S,g,k1,k2,k3,k4,_,k6⟩:=h #[a] we #[] (λ_=>0) rfl (leavers_one P a) XH hS;obtain⟨B,hB⟩:=k4.Sj;obtain⟨N2,last,o,w',t',l1,l2,l3,l4⟩:=beside_ends (P:=P) (Shun:=uJ S) (B:=B+0) (D:=λ_ _ _=>False) (Post:=Post) (n:=0) (sl:=sl) (λ_ _ _ hf=>hf.elim) k2 k3 (hB 0) (λw1 hw=>by
  obtain⟨h1,v,h2,h3⟩:=k6 w1 hw;exact⟨h1,v,#[],h2,aj,h3⟩)
 refine⟨N+N2,last,o,w',t',?_,?_,l3,l4⟩
 ·rw[dG,runNT_add,solo_eq_crowd,k1];exact l1
 ·rw[runN_add,solo_eq_crowd,<- runNT_fst P _ _ #[],k1];exact l2
def Hp{f:FuncId}{fc:Func}{vs:Array Value}{o:aL}{W:ae}{Q:Value->aL->ae->Prop}(A:Nat->Prop)(hA:∀b,A b->b<W.heap.size)(hf:P.funcs[f]?=so fc)(hi:P.inits.idxOf? f=we)(h:∀Fin,(∀b,A b->nE Fin b)->FV P (XB P Fin 0) f fc vs o W Q):
  ∃N last o' w' t',runNT P (N+1) (solo (G (Frame.enter P f vs .normal) []) W) #[]=(.ended o' w',t')/\runN P N (solo (G (Frame.enter P f vs .normal) []) W)=.next last/\step P last=.ended o' w' /\
   Conc.Good P (λv w'=>(∃o1 w1,w'.heap=w1.heap/\Q v o1 w1)/\w'.os=W.os/\w'.output=W.output) last o' w' t':=by
 have mW:∀{w1 w2:ae},AtRel w1 w2->w2.heap=w1.heap/\w2.os=w1.os/\w2.output=w1.output:=λhx=>by obtain⟨d,rfl⟩:=hx;exact⟨rfl,rfl,rfl⟩
 let F:br:=λS g w=>SP P (λv w'=>∃o1 w1,w'.heap=w1.heap/\Q v o1 w1) S g w/\(∀b,A b->¬S b)\/w.output≠W.output/\∀b,A b->¬S b;have hL:∀b,A b->nE F b:=λb hb S g w hx=>hx.elim (λk=>k.2 b hb) λk=>k.2 b hb;have hB:uV F W:=λb hb=>fg λhle=>hb (λx=>x=b) (G (Frame.enter P f vs .normal) []) {W with output:=W.output.push (0,ByteArray.empty)} (.inr ⟨λe=>by have:=congrArg (λx=>x.size) e;simp at this,λx hx e=>by have:=hA x hx;omega⟩) rfl;have hx:XB P F 0 o (G (Frame.enter P f vs .normal) []) W :=
  FV.top bZ hf (h _ hL) λa' o' w' todo v hd hr hq=>(λ_=>zt.fin λw1 hw=>⟨.inl ⟨λw2 tY=>⟨rfl,v,Bh hi rfl hd hf (hr w2).1 (hr w2).2,o',w',(mW (atRel_trans _ _ _ hw tY)).1,hq⟩,λb hb hs=>hs.2.2 (hL b hb)⟩,(mW hw).2⟩)
 refine KH (S:=CE F o W) (λb hb hx=>by have:=hx.1;omega) ((hx hB).bx.mono λS g w hw=>?_);intro w1 h1;obtain⟨k1,v,k2,k3⟩:=(hw.1.resolve_right λk=>k.1 hw.2.2).1 w1 h1;exact⟨k1,v,k2,k3,(mW h1).2.1.trans hw.2.1,(mW h1).2.2.trans hw.2.2⟩
end
end Go.Ren
namespace Go
open _root_.Option renaming some → so,none → we
open Go.Conc
section
open Go.ConcM
section
variable {H:Type}{enc:TypeId×Value->H}
def nF{a:Assume}{C:Checked}{os:Os}{f:FuncId}{fn:Func}{s:ChangeSpec}{F:Stop.Interp}{conds:List PathCond}{apart fresh handsOn:Bool}{laid:List (String×DataW Unit)}(own:ownKnob C.prog.godebug=we)(started:os.Started)(sr:C.prog.funcs[f]?=so fn)(witness:∃(w:ae) (tape:Tape) (i:Input),w.os=os/\(w.forCall tape i).Shaped C.prog/\i.vars=[]/\Input.okWide C.prog (w.forCall tape i) .any w.heap.size f i /\
   ((s.pre enc C.prog fn conds apart (w.forCall tape i).memory i.args/\laidMetH C.prog laid (w.forCall tape i).memory)/\sizedMet enc C.prog fn (OpenSpec.ofChange s) apart (w.forCall tape i).memory i.args)/\a.holds C.prog (lone (Frame.enter C.prog f i.args .normal) [] (w.forCall tape i)))(runs:∀(W:ae) (base:Nat) (args:Array Value) (ds gs:List (DataW H)) (before:List MemPlace),
   (∀(j:Nat) t v,fn.params[j]?=so t->args[j]?=so v->Value.okWide C.prog W .any base t v) ->
   DataW.Whole enc C.prog fn.params.toList s.vars apart W args.toList ds gs before ->
   (DataW.weightsEach C.prog (fn.params.toList++s.plain.varTypes C.prog) (ds++gs)).all (·<=reachBytes)=true ->
   laidMetH C.prog laid W->W.ShapedOpen C.prog ->
   ∃M last o w' t',runNT C.prog (M+1) (solo (G (Frame.enter C.prog f args .normal) []) W) #[]=(.ended o w',t')/\runN C.prog M (solo (G (Frame.enter C.prog f args .normal) []) W)=.next last /\
    step C.prog last=.ended o w'/\Conc.Good C.prog (λv W'=>s.post enc C.prog fn apart fresh handsOn false W args v {W' with os:=W.os}/\OsLater W.os W'.os) last o w' t'):
  ReturnsInLeavingWide a C os f .any (λw args=>(s.pre enc C.prog fn conds apart w args/\laidMetH C.prog laid w)/\sizedMet enc C.prog fn (OpenSpec.ofChange s) apart w args) ((OpenSpec.ofChange s).postWith enc C.prog fn F (outsideKept [.timePasses]) apart fresh handsOn):=by
 refine returnsInLeavingWide_of_good own started witness ?_;intro w tape i _ tZ _ iS aai aib;obtain⟨_,_,_,fn',aic,_,_,_,_,qP⟩:=iS;have e:fn'=fn:=aP (aic.symm.trans sr);subst e;obtain⟨⟨⟨ds,gs,before,hw,hc⟩,hl⟩,hz⟩:=aai;have hw':=DataW.Whole.of_heap (w':=w.forCall tape i) aG hw;obtain⟨M,last,o,w',t',h1,h2,h3,h4⟩:=runs (w.forCall tape i) w.heap.size i.args ds gs before qP hw' (hz.weights hw) (laidMetH.of_heap aG hl) tZ;obtain⟨v,e,hp,r1,r2,r3,r4⟩:=h4;exact⟨M,last,o,w',t',h1,h2,h3,v,e,postWith_blind (postWith_of_post hp.1 hp.2),r1,r2,r3,r4⟩
def ChangeSpec.Hq{C:Checked}{os:Os}{f:FuncId}{fn:Func}{s:ChangeSpec}{conds:List PathCond}{apart:Bool}{laid:List (String×DataW Unit)}(w0:ae)(args:Array Value)(fuel:Nat)(Ld:w0.os=os)(tZ:(w0.forCall (λ_ _=>0) ⟨#[],args,[]⟩).Shaped C.prog)(iS:Input.okWideB C.prog (w0.forCall (λ_ _=>0) ⟨#[],args,[]⟩) f ⟨#[],args,[]⟩=true)(aai:s.preB enc C.prog fn conds apart (w0.forCall (λ_ _=>0) ⟨#[],args,[]⟩).memory args fuel=true)(ew:s.sizedB enc C.prog fn apart (w0.forCall (λ_ _=>0) ⟨#[],args,[]⟩).memory args fuel=true)(hx:laidMetH C.prog laid (w0.forCall (λ_ _=>0) ⟨#[],args,[]⟩).memory):
  ∃(w:ae) (tape:Tape) (i:Input),w.os=os/\(w.forCall tape i).Shaped C.prog/\i.vars=[]/\Input.okWide C.prog (w.forCall tape i) .any w.heap.size f i /\
   ((s.pre enc C.prog fn conds apart (w.forCall tape i).memory i.args/\laidMetH C.prog laid (w.forCall tape i).memory)/\sizedMet enc C.prog fn (OpenSpec.ofChange s) apart (w.forCall tape i).memory i.args)/\({calm:=true}:Assume).holds C.prog (lone (Frame.enter C.prog f i.args .normal) [] (w.forCall tape i)) :=
 ⟨w0,λ_ _=>0,⟨#[],args,[]⟩,Ld,tZ,(Input.okWide_of_okWideB (base:=0) iS).1,(Input.okWide_of_okWideB iS).2,⟨⟨ChangeSpec.pre_of_preB aai,hx⟩,sizedMet_of_sizedB ew⟩,by
  simp only[Assume.holds];exact⟨aj,λ_ _ _ _=>rfl,aj,aj,aj⟩⟩
end
end
end Go
namespace Go.Proofs.Kz
open Go.Proofs.Tryz
open Go.Proofs.Tryz renaming prog → ak
open _root_.ByteArray renaming empty → bF
open _root_.Option renaming some → so,none → we
open Go.Ren Go.Conc Go.Proofs Go.ConcN
open Go.ConcR (Payload)
section
open Go.ChangeShapes Go.WideShapes Go.Deep Go.RowKit Go.ConcM
section
variable {Fin:br}{W:ae}
end
def T3:List (String×DataW Unit):=[("math/bits.deBruijn32tab",YtgjekaaknjgnmaaGreatDoor.Rows.laid_math_bits_deBruijn32tab),("math/bits.deBruijn64tab",YtgjekaaknjgnmaaGreatDoor.Rows.laid_math_bits_deBruijn64tab),("internal/strconv.uint64pow10",YtgjekaaknjgnmaaGreatDoor.Rows.laid_internal_strconv_uint64pow10)]
def T4:ownKnob ak.godebug=none:=ah
def T5:laidOutB ak=true:=ah
def T6(os:Os)(args:Array Value):laidMetH ak T3 ((World.doorLaid ak 400 os).forCall (λ_ _=>0) ⟨#[],args,[]⟩).memory :=
 laidMetH_of_parts3 (fuel:=8) (laidMet_of_run' 8 ah ah) ah ah
section
variable {H:Type}{enc:TypeId×Value->H}
end
def QO(Lk:Looks){p:Pinned}{s:OpenSpec}{c:OpenClaim}(kinds:List LaidKind)(T7:Bool)(har:Bool×String)(lk:Bool)(hc:c.holds p s)(hw:c.wfByText s=true)(aid:c.laidByTextAt Lk p kinds T7)(fe:c.start=.entering)(Gt:c.noBlocks=false/\c.again=false)(hm:p.checked.prog.mainIs=so (har.1,har.2.toList))(hn:(!har.1&&har.2.isEmpty&&!lk)=false)(hl:∀f fn,p.checked.prog.funcNamed c.func=so f->p.checked.prog.funcs[f]?=so fn->lk=p.checked.prog.looks []/\∀(j:Nat) t,fn.params[j]?=so t->p.checked.prog.wantsStandIn t=false)(hg:true=c.goesBy p.checked.prog):
  Claim7.holds p (.plain s) {stood:={row:=c,standIns:=[],harness:=har,looks:=lk},kinds:=[],alts:=[],goes:=true,laidByText:=true,laidKinds:=kinds,laidTests:=T7,laidLooks:=Lk}:=by
 have h6:∀r:OpenClaim,Claim7.isSixth {stood:={row:=r,standIns:=[],harness:=har,looks:=lk},kinds:=[]}=false:=λr=>by simpa[Claim7.isSixth] using hn
 exact⟨Claim7.tied_new_at Lk kinds T7 (Claim7.new_of_sixth hc har lk fe Gt hm (h6 c) hl) hw,(λD hD=>by cases hD),aid,(λh=>by cases h),hg⟩
end
end Go.Proofs.Kz
namespace Go.Ren
open _root_.Option renaming some → so,none → we
open Go.Conc Go.ConcN
section
variable {P:Program}{Fin:br}{o:aL}{g:aY}{w:ae}
def XB.drop{d:Nat}{o2:aL}(hs:∀b,o b->o2 b)(h:XB P Fin d o g w):XB P Fin d o2 g w:=λRE w1 hw =>
 (h RE w1 hw).less (λb hb=>⟨hb.1,λk=>hb.2.1 (hs b k),hb.2.2⟩) λb hb hx=>by
  obtain⟨n,rfl⟩:=hw;exact absurd hx.1 (Nat.not_lt_of_le hb)
def bC.frame{f:FuncId}{vs:Array Value}{Post:Value->aL->ae->Prop}(E:Nat->Prop)(hE:∀b,E b->b<w.heap.size)(h:∀gd,(∀b,nE gd b↔E b\/nE Fin b)->bC P (XB P gd 0) f vs o w Post):bC P (XB P Fin 0) f vs (λb=>o b\/E b) w λv o2 w'=>∃o',o2=(λb=>o' b\/E b)/\Post v o' w':=by
 intro c cs hc RE;let F:br:=λS g w1=>zt P (GH Fin w1) 0 S g w1/\(∀b,E b\/nE Fin b->¬S b)\/w1.output≠w.output/\∀b,E b\/nE Fin b->¬S b;have hL:∀b,nE F b↔E b\/nE Fin b:=λb=>⟨λhl=>aX λhn =>
   hl (λx=>x=b) (G (Frame.enter P f vs .normal) []) {w with output:=w.output.push (0,ByteArray.empty)} (.inr ⟨λe=>by have:=congrArg (λx=>x.size) e;simp at this,λx hx e=>hn (e▸hx)⟩) rfl,
  λhb S g w1 hx=>hx.elim (λk=>k.2 b hb) λk=>k.2 b hb⟩
 have V7:∀(o1:aL) (w1:ae),CE F o1 w1=CE Fin (λb=>o1 b\/E b) w1:=λo1 w1=>by
  funext b;simp only[CE,hL,not_or,eq_iff_iff];exact⟨λk=>⟨k.1,⟨k.2.1,k.2.2.1⟩,k.2.2.2⟩,λk=>⟨k.1,k.2.1.1,k.2.1.2,k.2.2⟩⟩
 have hx:XB P F 0 o (G (Frame.enter P f vs .normal) (c::cs)) w:=h F hL c cs λv o' w' hp aie=>zt.fin λw1 hw=>by
  have e1:w1.os=w'.os/\w1.output=w'.output:=by obtain⟨n,rfl⟩:=hw;exact⟨rfl,rfl⟩
  have hk:=hc v _ w' ⟨o',rfl,hp⟩ λb hb=>aie b ((hL b).2 (.inr hb));refine⟨.inl ⟨?_,λb hb hs=>hs.2.2 ((hL b).2 hb)⟩,e1⟩;rw[yF e1,V7];exact zt.rely hk hw
 have hy:=hx λb hb=>((hL b).1 hb).elim (hE b) (RE b);rw[V7]at hy;intro w1 hw;refine BX.trans ((hy w1 hw).mono λS g w2 hq=>?_);have hz:=(hq.1.resolve_right λk=>k.1 hq.2.2).1;rw[yF hq.2]at hz;exact hz.bx
def bC.drop{f:FuncId}{vs:Array Value}{Post:Value->aL->ae->Prop}(h:bC P (XB P Fin 0) f vs o w λv o' w'=>∃o2,(∀b,o2 b->o' b)/\Post v o2 w'):bC P (XB P Fin 0) f vs o w Post :=
 λc cs hc=>h c cs λv o' w' ⟨o2,h1,h2⟩=>(hc v o2 w' h2).drop h1
end
def wx(Fin:br)(o:aL)(b:Nat):Prop:=o b\/nE Fin b
section
variable {P:Program}{Fin:br}{d:Nat}{o:aL}{w:ae}{fn:FuncId}{Q:Exit->Act->aL->ae->Prop}{a:Act}{ops:Array Oper}{i:Nat}{rest:List Nat}{op:Oper}{dd:Option Tmp}{v:Value}
def wx.up{o':aL}{b:Nat}(h:wx Fin o b)(hs:∀b,o b->o' b):wx Fin o' b:=h.imp (hs b) id
def eZ{B:Nat}(hB:wx Fin o B)(ho:ops[i]?=so op)(hw:Region.wanted op (yielded ops a.tmps)=true)(hd:op.dst=dd)(hr:∀wl,AO w wl->(execOp a.eval op).run P wl=.ok (.value v) wl)(jg:∀wl,AO w wl->∀x∈(execOp a.eval op).events P wl #[],∃ad wt sy,x=⟨.cell ad,wt,sy⟩/\ad.block=B)(h:dK (XB P Fin d) fn ops rest Q (a.put dd v) o w):dK (XB P Fin d) fn ops (i::rest) Q a o w :=
 M0 ho hw hd (λn=>hr _ ⟨rfl⟩) (λn x hx=>by
  obtain⟨ad,wt,sy,rfl,e⟩:=jg (w.at n) ⟨rfl⟩ x hx;subst e;exact⟨tw (o:=λb=>o b\/nE Fin b) hB,aj,aj⟩) h
def kn{b j:Nat}(hB:wx Fin o b)(c:w.cell? ⟨b,j,we⟩=so v)(h:dK (XB P Fin d) fn ops rest Q (a.put dd v) o w)(ho:ops[i]?=so op:=by rfl)(hw:Region.wanted op (yielded ops a.tmps)=true:=by rfl)(hd:op.dst=dd:=by rfl)(f2:(∀wl,AO w wl->wl.cell? ⟨b,j,we⟩=so v)->∀wl,AO w wl->(execOp a.eval op).run P wl=.ok (.value v) wl:=by
   intro h9 wl bu;simp[go_sem,h9 wl bu])(f3:(∀wl,AO w wl->wl.cell? ⟨b,j,we⟩=so v)->∀wl,AO w wl->∀x∈(execOp a.eval op).events P wl #[],∃ad wt sy,x=⟨.cell ad,wt,sy⟩/\ad.block=b:=by
   intro h9 wl bu x hx;simp[go_sem,h9 wl bu]at hx;subst hx;exact⟨_,_,_,rfl,rfl⟩):dK (XB P Fin d) fn ops (i::rest) Q a o w :=
 eZ hB ho hw hd (f2 λwl bu=>bu.cell.trans c) (f3 λwl bu=>bu.cell.trans c) h
def WN{w':ae}(ho:ops[i]?=so op)(hw:Region.wanted op (yielded ops a.tmps)=true)(hd:op.dst=dd)(hz:w.heap.size<=w'.heap.size)(Ld:w'.os=w.os/\w'.output=w.output)(hr:∀n,(execOp a.eval op).run P (w.at n)=.ok (.value v) (w'.at n))(jg:∀n,∀x∈(execOp a.eval op).events P (w.at n) #[],∃ad wt sy,x=⟨.cell ad,wt,sy⟩/\wx Fin (grow o w w') ad.block)(h:dK (XB P Fin d) fn ops rest Q (a.put dd v) (grow o w w') w'):dK (XB P Fin d) fn ops (i::rest) Q a o w:=λb k cs nD hk hc=>by
 subst hd;refine bZ.step o _ w rfl λw1 h1=>?_;obtain⟨n,rfl⟩:=h1;refine⟨_,_,_,dP ho hw hk (hr n),⟨λx hx=>?_,hz,Ld⟩,bZ.rely _ _ _ _ (h b k cs nD hk hc) ⟨n,rfl⟩⟩;obtain⟨ad,wt,sy,rfl,e⟩:=jg n x (mem_listed hx);exact⟨tw (o:=λb=>grow o w w' b\/nE Fin b) e,aj,aj⟩
def rA{w':ae}(ho:ops[i]?=so op)(hw:Region.wanted op (yielded ops a.tmps)=true)(hd:op.dst=dd)(hz:w.heap.size<=w'.heap.size)(Ld:w'.os=w.os/\w'.output=w.output)(hr:∀n,(execOp a.eval op).run P (w.at n)=.ok .skip (w'.at n))(jg:∀n,∀x∈(execOp a.eval op).events P (w.at n) #[],∃ad wt sy,x=⟨.cell ad,wt,sy⟩/\wx Fin (grow o w w') ad.block)(h:dK (XB P Fin d) fn ops rest Q (a.put dd undef) (grow o w w') w'):dK (XB P Fin d) fn ops (i::rest) Q a o w:=λb k cs nD hk hc=>by
 subst hd;refine bZ.step o _ w rfl λw1 h1=>?_;obtain⟨n,rfl⟩:=h1;refine⟨_,_,_,jl ho hw hk (hr n),⟨λx hx=>?_,hz,Ld⟩,bZ.rely _ _ _ _ (h b k cs nD hk hc) ⟨n,rfl⟩⟩;obtain⟨ad,wt,sy,rfl,e⟩:=jg n x (mem_listed hx);exact⟨tw (o:=λb=>grow o w w' b\/nE Fin b) e,aj,aj⟩
def eu(ho:ops[i]?=so op)(hw:Region.wanted op (yielded ops a.tmps)=true)(hd:op.dst=dd)(x:Obj)(f:Nat->Value)(cG:∀w1,(execOp a.eval op).run P w1=.ok (.value (f w1.heap.size)) (w1.alloc x))(jg:∀w1,(execOp a.eval op).events P w1 #[]=#[])(h:dK (XB P Fin d) fn ops rest Q (a.put dd (f w.heap.size)) (λb=>o b\/b=w.heap.size) (w.alloc x)):dK (XB P Fin d) fn ops (i::rest) Q a o w:=λb k cs nD hk hc=>vD ho hw hk hd x f cG jg (h b k cs nD hk hc)
def s9(w:ae)(cs:Array Value)(t:TypeId)(j:Nat)(v:Value):(w.alloc (.cells cs t)).setCell ⟨w.heap.size,j,we⟩ v=w.alloc (.cells (cs.setIfInBounds j v) t):=by
 have e:(w.heap.push (Obj.cells cs t)).modify w.heap.size (λx=>match x with|.cells c elem frozen=>.cells (c.setIfInBounds j v) elem frozen|o=>o)=w.heap.push (.cells (cs.setIfInBounds j v) t):=by
  apply fC;intro k;rw[aR,dX,dX];by_cases hk:w.heap.size=k
  ·subst hk;simp
  ·have lY:¬k=w.heap.size:=λq=>hk q.symm;simp[hk,lY]
 show {w with heap:=(w.heap.push (Obj.cells cs t)).modify w.heap.size _}={w with heap:=w.heap.push _};rw[<- e];rfl
def Du(w:ae)(x y z x' y' z':Value)(t:TypeId):(((w.alloc (.cells #[x,y,z] t)).setCell ⟨w.heap.size,0,we⟩ x').setCell ⟨w.heap.size,1,we⟩ y').setCell ⟨w.heap.size,2,we⟩ z'=w.alloc (.cells #[x',y',z'] t):=by
 rw[s9,s9,s9];rfl
def Dv(w:ae)(x y x' y':Value)(t:TypeId):((w.alloc (.cells #[x,y] t)).setCell ⟨w.heap.size,0,we⟩ x').setCell ⟨w.heap.size,1,we⟩ y'=w.alloc (.cells #[x',y'] t):=by
 rw[s9,s9];rfl
structure fl(w w':ae):Prop where
 size:w.heap.size<=w'.heap.size
 same:∀b,b<w.heap.size->w'.heap[b]?=w.heap[b]?
def fl.refl(w:ae):fl w w:=⟨af _,λ_ _=>rfl⟩
def fl.trans{w1 w2:ae}(h:fl w w1)(k:fl w1 w2):fl w w2:=⟨aS h.size k.size,λb hb=>(k.same b (bf hb h.size)).trans (h.same b hb)⟩
def fl.alloc(w:ae)(x:Obj):fl w (w.alloc x):=⟨aj,λb hb=>RowKit.Below.heap_alloc w x b hb⟩
def fl.bS{L:Nat->Bool}{w1:ae}(h:fl w w1)(hF:bJ P L o w):bJ P L o w1:=⟨λb hb=>by rw[h.same b (hF.lt hb)];exact hF.shut b hb,hF.kz,aS hF.size h.size⟩
end
def pg(E:Nat->Nat->Prop):Nat->Nat->Nat->Prop
 |0,_,_=>False
 |n+1,i,j=>E i j\/∃k,E i k/\pg E n k j
def FW(E:Nat->Nat->Prop):Nat->Nat->Nat->Prop
 |0,i,j=>E i j
 |m+1,i,j=>FW E m i j\/FW E m i m/\FW E m m j
def cnt(p:Nat->Bool):Nat->Nat
 |0=>0
 |n+1=>cnt p n+if p n then 1 else 0
def q7(p:Nat->Bool):∀n,cnt p n<=n
 |0=>af _
 |n+1=>by
  have:=q7 p n;unfold cnt;split<;>omega
def cnt_mono{p q:Nat->Bool}:∀n,(∀x,x<n->p x=true->q x=true)->cnt p n<=cnt q n
 |0,_=>af _
 |n+1,h=>by
  have h1:=cnt_mono n λx hx=>h x aa;have h2:=h n aa;unfold cnt;split
  ·rw[if_pos (h2 ‹_›)];omega
  ·split<;>omega
def cnt_lt{p q:Nat->Bool}:∀n,(∀x,x<n->p x=true->q x=true)->∀x,x<n->q x=true->p x=false->cnt p n<cnt q n
 |0,_,x,hx,_,_=>absurd hx (cH _)
 |n+1,h,x,hx,h1,h2=>by
  have hm:=cnt_mono n λy hy=>h y aa;unfold cnt;by_cases e:x=n
  ·subst e;rw[h1,h2];simp;omega
  ·have:=cnt_lt n (λy hy=>h y aa) x aa h1 h2;have h3:=h n aa;split
   ·rw[if_pos (h3 ‹_›)];omega
   ·split<;>omega
section
variable {E:Nat->Nat->Prop}
def pg.up:∀{n i j},pg E n i j->pg E (n+1) i j
 |0,_,_,h=>h.elim
 |n+1,i,j,h=>h.elim .inl λ⟨k,h1,h2⟩=>.inr ⟨k,h1,h2.up⟩
def pg.le{n m i j}(h:pg E n i j)(hm:n<=m):pg E m i j:=by
 induction hm with
 |refl=>exact h
 |step _ ih=>exact ih.up
def pg.snoc:∀{n i k j},pg E n i k->E k j->pg E (n+1) i j
 |0,_,_,_,h,_=>h.elim
 |n+1,i,k,j,h,e=>h.elim (λh1=>.inr ⟨k,h1,.inl e⟩) λ⟨x,h1,h2⟩=>.inr ⟨x,h1,h2.snoc e⟩
def pg.last:∀{n i j},pg E (n+1) i j->E i j\/∃k,pg E n i k/\E k j
 |0,_,_,h=>h.elim .inl λ⟨k,_,h2⟩=>h2.elim
 |n+1,i,j,h=>h.elim .inl λ⟨k,h1,h2⟩=>by
  rcases h2.last with h3|⟨x,h3,h4⟩
  ·exact .inr ⟨k,.inl h1,h3⟩
  ·exact .inr ⟨x,.inr ⟨k,h1,h3⟩,h4⟩
def pg.trans:∀{n m i k j},pg E n i k->pg E m k j->pg E (n+m) i j
 |0,_,_,_,_,h,_=>h.elim
 |n+1,m,i,k,j,h,h'=>by
  rw[show n+1+m=n+m+1 by omega];exact h.elim (λh1=>.inr ⟨k,h1,h'.le aa⟩) λ⟨x,h1,h2⟩=>.inr ⟨x,h1,h2.trans h'⟩
def pg.short{N:Nat}(hE:∀i j,E i j->j<N){n i j:Nat}(h:pg E n i j):pg E N i j:=by
 classical
 let c:Nat->Nat:=λs=>cnt (λx=>decide (pg E s i x)) N;have still:∀s,0<s->(∀x,pg E (s+1) i x->pg E s i x)->∀m x,pg E (s+m) i x->pg E s i x:=by
  intro s hs h1 m
  induction m with
  |zero=>exact λx h=>h
  |succ m ih =>
   intro x hx;rcases pg.last (n:=s+m) hx with h2|⟨k,h2,h3⟩
   ·exact pg.le (n:=1) (.inl h2) hs
   ·exact h1 x ((ih k h2).snoc h3)
 have lt:∀s x,pg E s i x->x<N:=by
  intro s;cases s with
  |zero=>exact λx h=>h.elim
  |succ s=>exact λx h=>h.last.elim (hE _ _) λ⟨k,_,h3⟩=>hE _ _ h3
 have grow:∀s,s<=N->(∃t,0<t/\t<=s/\∀x,pg E (t+1) i x->pg E t i x)\/s<=c s:=by
  intro s
  induction s with
  |zero=>exact λ_=>.inr (aW _)
  |succ s ih =>
   intro hs;rcases ih aa with⟨t,h1,h2,h3⟩|h1
   ·exact .inl ⟨t,h1,aa,h3⟩
   ·by_cases hq:∀x,pg E (s+1) i x->pg E s i x
    ·rcases bh s with rfl|hp
     ·
      exact .inl ⟨1,Nat.one_pos,af _,λx hx=>by
       rcases pg.last hx with h2|⟨k,h2,_⟩
       ·exact .inl h2
       ·exact(hq k h2).elim⟩
     ·exact .inl ⟨s,hp,aa,hq⟩
    ·obtain⟨x,hx⟩:=Classical.not_forall.1 hq;obtain⟨vw,ZG⟩:=Classical.not_imp.1 hx;refine .inr ?_;have:=cnt_lt (p:=λx=>decide (pg E s i x)) (q:=λx=>decide (pg E (s+1) i x)) N (λy _ hy=>eY (fR hy).up) x (lt _ _ vw) (eY vw) (cz ZG);show s+1<=cnt _ N;have h4:s<=cnt (λx=>decide (pg E s i x)) N:=h1;omega
 by_cases hn:n<=N
 ·exact h.le hn
 rcases grow N (af _) with⟨t,h1,h2,h3⟩|h1
 ·exact(still t h1 h3 (n-t) j (by rw[show t+(n-t)=n by omega];exact h)).le h2
 ·
  refine aX λhj=>?_;have:=cnt_lt (p:=λx=>decide (pg E N i x)) (q:=λ_=>true) N (λ_ _ _=>rfl) j (lt _ _ h) rfl (cz hj);have h5:=q7 (λ_=>true) N;have h6:N<=cnt (λx=>decide (pg E N i x)) N:=h1;omega
def FW.up{m m' i j:Nat}(h:FW E m i j)(hm:m<=m'):FW E m' i j:=by
 induction hm with
 |refl=>exact h
 |step _ ih=>exact .inl ih
def FW.join:∀{m i k j},k<m->FW E m i k->FW E m k j->FW E m i j
 |0,_,_,_,h,_,_=>absurd h (cH _)
 |m+1,i,k,j,hk,h1,h2=>by
  by_cases e:k=m
  ·subst e;have h1':FW E k i k:=h1.elim id λh=>h.1;have Zl:FW E k k j:=h2.elim id λh=>h.2;exact .inr ⟨h1',Zl⟩
  ·have lY:k<m:=aa;rcases h1 with h1|⟨h1,h1'⟩<;>rcases h2 with h2|⟨h2,Zl⟩
   ·exact .inl (h1.join lY h2)
   ·exact .inr ⟨h1.join lY h2,Zl⟩
   ·exact .inr ⟨h1,h1'.join lY h2⟩
   ·exact .inr ⟨h1,Zl⟩
def pg.via{N:Nat}(hE:∀i j,E i j->i<N/\j<N):∀{n i j},pg E n i j->FW E N i j
 |0,_,_,h=>h.elim
 |n+1,i,j,h=>h.elim (λh1=>(show FW E 0 i j from h1).up (aW _)) λ⟨k,h1,h2⟩ =>
  FW.join (hE _ _ h1).2 ((show FW E 0 i k from h1).up (aW _)) (h2.via hE)
def OO{N:Nat}(hE:∀i j,E i j->j<N)(hr:∀i n,¬pg E n i i):∃rk:Nat->Nat,(∀i j,E i j->rk j<rk i)/\∀i,i<N->rk i<N:=by
 classical
 refine⟨λi=>cnt (λx=>decide (∃n,pg E n i x)) N,λi j h=>?_,λi hi=>?_⟩;rotate_left
 ·exact bf (cnt_lt (q:=λ_=>true) N (λx _ _=>rfl) i hi rfl (cz λ⟨n,hn⟩=>hr i n hn)) (q7 _ N)
 refine cnt_lt N (λx _ hx=>?_) j (hE _ _ h) (eY ⟨1,.inl h⟩) (cz λ⟨n,hn⟩=>hr j n hn);obtain⟨n,hn⟩:=fR hx;exact eY ⟨n+1,.inr ⟨j,h,hn⟩⟩
end
end Go.Ren
namespace Go.Proofs.Kz
open Go.Proofs.Tryz
open Go.Proofs.Tryz renaming prog → ak
open _root_.ByteArray renaming empty → bF
open _root_.Option renaming some → so,none → we
section
open Go.Ren (pg FW OO)
def gH{α:Type}{ts:List α}{t:Nat}(h:t<ts.length){z:α}:z∈ts.take (t+1)↔z∈ts.take t\/z=ts[t]:=by
 rw[kH,au h,bG];simp only[Option.toList_some,List.mem_singleton]
structure Ru where
 out:ag
 eT:Int
 ins:List ag
def Ru.named(u:Ru):Prop:=isName u.out/\∀x∈u.ins,isName x
structure oa(us:List Ru)(k:Nat)(e:Int):Prop where
 ex:∃u,us[k]?=so u/\(e=2/\¬u.named\/u.named/\(e=1/\4<u.ins.length\/u.ins.length<=4/\(e=3/\¬(1<=u.eT/\u.eT<=5)\/(1<=u.eT/\u.eT<=5)/\(e=4/\u.out∈(us.take k).map (·.out)\/e=0/\u.out∉(us.take k).map (·.out)))))
def oa.one{us:List Ru}{k:Nat}{e e':Int}(h:oa us k e)(h':oa us k e'):e=e':=by
 obtain⟨u,hu,x⟩:=h.ex;obtain⟨u',hu',x'⟩:=h'.ex;clear h h';rw[hu]at hu';obtain rfl:=aP hu';rcases x with⟨rfl,x⟩|⟨a,⟨rfl,x⟩|⟨b,⟨rfl,x⟩|⟨c,⟨rfl,x⟩|⟨rfl,x⟩⟩⟩⟩<;>rcases x' with⟨rfl,x'⟩|⟨a',⟨rfl,x'⟩|⟨b',⟨rfl,x'⟩|⟨c',⟨rfl,x'⟩|⟨rfl,x'⟩⟩⟩⟩<;>first|rfl|(exfalso;omega)|exact absurd a x' | exact absurd a' x|exact absurd c x' | exact absurd c' x|exact absurd x x' | exact absurd x' x
def tX(us:List Ru)(i j:Nat):Prop:=∃u v,us[i]?=so u/\us[j]?=so v/\v.out∈u.ins
def tX.lt{us:List Ru}{i j:Nat}(h:tX us i j):i<us.length/\j<us.length:=by
 obtain⟨u,v,h1,h2,-⟩:=h;exact⟨(a8.1 h1).1,(a8.1 h2).1⟩
def ng(us:List Ru)(i:Nat):Prop:=∃n,pg (tX us) n i i
structure jG(us:List Ru)(e at_:Int):Prop where
 ex:8<us.length/\e=1/\at_=0\/us.length<=8/\((∃i:Nat,i<us.length/\oa us i e/\e≠0/\at_=i/\∀j,j<i->oa us j 0)\/(∀j,j<us.length->oa us j 0)/\((∃i:Nat,i<us.length/\ng us i/\e=5/\at_=i/\∀j,j<i->¬ng us j)\/(∀j,j<us.length->¬ng us j)/\e=0/\at_=0))
def jG.one{us:List Ru}{e e' a a':Int}(h:jG us e a)(h':jG us e' a'):e=e'/\a=a':=by
 rcases h.ex with⟨h1,rfl,rfl⟩|⟨h1,h2⟩<;>rcases h'.ex with⟨k1,rfl,rfl⟩|⟨k1,k2⟩
 ·exact⟨rfl,rfl⟩
 ·omega
 ·omega
 rcases h2 with⟨i,h2,h3,h4,rfl,h5⟩|⟨h2,h3⟩<;>rcases k2 with⟨j,k2,k3,k4,rfl,k5⟩|⟨k2,k3⟩
 ·rcases dB i j with q|rfl|q
  ·exact absurd (h3.one (k5 i q)) h4
  ·exact⟨h3.one k3,rfl⟩
  ·exact absurd (k3.one (h5 j q)) k4
 ·exact absurd (h3.one (k2 i h2)) h4
 ·exact absurd (k3.one (h2 j k2)) k4
 rcases h3 with⟨i,a1,a2,rfl,rfl,a5⟩|⟨a1,rfl,rfl⟩<;>rcases k3 with⟨j,b1,b2,rfl,rfl,b5⟩|⟨b1,rfl,rfl⟩
 ·rcases dB i j with q|rfl|q
  ·exact absurd a2 (b5 i q)
  ·exact⟨rfl,rfl⟩
  ·exact absurd b2 (a5 j q)
 ·exact absurd a2 (b1 i a1)
 ·exact absurd b2 (a1 j b1)
 ·exact⟨rfl,rfl⟩
structure vl(us:List Ru):Prop where
 ui:us.length<=8
 each:∀u∈us,u.named/\u.ins.length<=4/\1<=u.eT/\u.eT<=5
 nodup:(us.map (·.out)).Nodup
 round:∀i,¬ng us i
def Dw{us:List Ru}(h:∀j,j<us.length->oa us j 0):(us.map (·.out)).Nodup:=by
 refine ba.2 λi j hi hj wh e=>?_;simp only[List.length_map]at hi hj;simp only[List.getElem_map]at e;obtain⟨u,hu,hx⟩:=(h j hj).ex;rw[au hj]at hu;obtain rfl:=aP hu;have pz:us[j].out∈(us.take j).map (·.out):=aV.2 ⟨us[i],by rw[gQ];exact⟨i,eW,aj⟩,e⟩;rcases hx with⟨q,-⟩|⟨-,⟨q,-⟩|⟨-,⟨q,-⟩|⟨-,⟨q,-⟩|⟨-,q⟩⟩⟩⟩
 ·cases q
 ·cases q
 ·cases q
 ·cases q
 ·exact q pz
def jG.yes{us:List Ru}{a:Int}(h:jG us 0 a):vl us:=by
 rcases h.ex with⟨-,e,-⟩|⟨h1,⟨i,-,-,h4,-⟩|⟨h2,⟨i,-,-,e,-⟩|⟨h3,-,-⟩⟩⟩
 ·cases e
 ·exact absurd rfl h4
 ·cases e
 refine⟨h1,λu hu=>?_,Dw h2,λi ⟨n,hn⟩=>?_⟩
 ·obtain⟨j,hj,rfl⟩:=bB hu;obtain⟨u,hu,hx⟩:=(h2 j hj).ex;rw[au hj]at hu;obtain rfl:=aP hu;rcases hx with⟨q,-⟩|⟨q1,⟨q,-⟩|⟨q2,⟨q,-⟩|⟨⟨q3,q4⟩,-⟩⟩⟩
  ·cases q
  ·cases q
  ·cases q
  ·exact⟨q1,q2,q3,q4⟩
 ·by_cases hi:i<us.length
  ·exact h3 i hi ⟨n,hn⟩
  ·cases n with
   |zero=>exact hn
   |succ n=>exact hn.elim (λq=>hi q.lt.1) λ⟨k,q,_⟩=>hi q.lt.1
def vl.Dk{us:List Ru}(h:vl us):∃RK:ag->Nat,(∀u∈us,∀x∈u.ins,x∈us.map (·.out)->RK x<RK u.out)/\∀u∈us,RK u.out<us.length:=by
 obtain⟨rk,RH,vY⟩:=OO (E:=tX us) (N:=us.length) (λi j q=>q.lt.2) (λi n q=>h.round i ⟨n,q⟩);refine⟨λx=>rk (us.findIdx λu=>u.out=x),λu hu x hx hm=>?_,λu hu=>vY _ (List.findIdx_lt_length_of_exists ⟨u,hu,aj⟩)⟩;obtain⟨i,hi,rfl⟩:=bB hu;obtain⟨v,hv,rfl⟩:=aV.1 hm;obtain⟨j,hj,rfl⟩:=bB hv;have idx:∀k (hk:k<us.length),(us.findIdx λu=>u.out=us[k].out)=k:=λk hk=>by
  rw[List.findIdx_eq hk];refine⟨aj,λm hm=>?_⟩;have:=ba.1 h.nodup m k eW eW hm;simp only[List.getElem_map]at this;simpa using this
 show rk _<rk _;rw[idx i hi,idx j hj];exact RH i j ⟨us[i],us[j],au hi,au hj,hx⟩
end
open Go.Ren Go.Conc Go.Proofs Go.ConcN
structure iF where
 out:ag
 eT:Int
 ins:List ag
 sa:Option Addr
 sc:Nat
 ib:Nat
 Nc:Nat
def iF.ru(l:iF):Ru:=⟨l.out,l.eT,l.ins⟩
structure kp(Fin:br)(o:aL)(w:ae)(p:Option Addr)(b off:Nat)(ls:List iF):Prop where
 ptr:ls≠[]->p=so ⟨b,off,we⟩/\wx Fin o b/\b<w.heap.size
 at_:∀i (h:i<ls.length),w.cell? ⟨b,off+i*3,we⟩=so (.string ls[i].out)/\w.cell? ⟨b,off+i*3+1,we⟩=so (.int .i64 ls[i].eT)/\w.cell? ⟨b,off+i*3+2,we⟩=so (.slice ls[i].sa ls[i].ins.length ls[i].sc)
 ins:∀l∈ls,(l.ins≠[]->l.sa=so ⟨l.ib,l.Nc,we⟩/\wx Fin o l.ib/\l.ib<w.heap.size)/\∀j (h:j<l.ins.length),w.cell? ⟨l.ib,l.Nc+j,we⟩=so (.string l.ins[j])
 qt:ls.length<=2932031007317/\∀l∈ls,l.out.size<=9223372036854775807/\l.ins.length<=8796093021952/\∀x∈l.ins,x.size<=9223372036854775807
section
variable {Fin:br}{o o':aL}{w w':ae}{p:Option Addr}{b off c:Nat}{ls:List iF}
def kp.keep(h:kp Fin o w p b off ls)(hs:∀b,o b->o' b)(hz:w.heap.size<=w'.heap.size)(k:∀b,b<w.heap.size->w'.heap[b]?=w.heap[b]?):kp Fin o' w' p b off ls:=by
 refine⟨λq=>⟨(h.ptr q).1,(h.ptr q).2.1.up hs,by have:=(h.ptr q).2.2;omega⟩,λi hi=>?_,λl hl=>⟨λq=>?_,λj hj=>?_⟩,h.qt⟩
 ·have e:=k b (h.ptr (lU hi)).2.2;obtain⟨h1,h2,h3⟩:=h.at_ i hi;exact⟨(cell_of e).trans h1,(cell_of e).trans h2,(cell_of e).trans h3⟩
 ·obtain⟨h1,h2,h3⟩:=(h.ins l hl).1 q;exact⟨h1,h2.up hs,aa⟩
 ·have e:=k l.ib ((h.ins l hl).1 (lU hj)).2.2;exact(cell_of e).trans ((h.ins l hl).2 j hj)
def uj:List ag->ag->Nat->Int
 | [],_,_=>-1
 |y::l,x,k=>if y=x then(k:Nat)else uj l x (k+1)
def tc(x:ag):∀(l:List ag) (k:Nat),(uj l x k=-1/\x∉l)\/∃i,uj l x k=((k+i:Nat):Int)/\l[i]?=so x/\∀j,j<i->l[j]?≠so x
 | [],k=>.inl ⟨rfl,aj⟩
 |y::l,k=>by
  unfold uj;by_cases h:y=x
  ·rw[if_pos h];exact .inr ⟨0,aj,by simpa using h,λj hj=>aa⟩
  ·rw[if_neg h];rcases tc x l (k+1) with⟨h1,h2⟩|⟨i,h1,h2,h3⟩
   ·exact .inl ⟨h1,by simp[h2];exact λe=>h e.symm⟩
   ·refine .inr ⟨i+1,by rw[h1];congr 1;omega,by simpa using h2,λj hj=>?_⟩;cases j with
    |zero=>simpa using h
    |succ j=>simpa using h3 j aa
def Nd(hR:kp Fin o w p b off ls)(x:ag):
  bC ak (XB ak Fin 0) 176 #[.slice p ls.length c,.string x] o w λv o' w'=>v=.int .i64 (uj (ls.map (·.out)) x 0)/\o'=o/\w'=w:=by
 have W:=bZ (P:=ak) (Fin:=Fin) (d:=0);have jE:=hR.qt.1;refine bt W func176 aG ?_;walk_nrmf Tryz.f176;refine aD ?_;refine dQ W (λm a o' w'=>∃k,m+k=ls.length/\a.tmps.size=20/\a.defers=[]/\a.eval (.tmp 0)=.slice p ls.length c/\a.eval (.tmp 1)=.string x/\a.eval (.tmp 5)=.int .i64 (k:Nat)/\o'=o/\w'=w/\uj (ls.map (·.out)) x 0=uj ((ls.map (·.out)).drop k) x k) (N:=ls.length) ⟨0,aj,rfl,rfl,ax,ax,ax,rfl,rfl,rfl⟩ ?_;rintro m a o1 w1 ⟨k,lP,ew,iu,i0,i1,i5,e1,e2,wY⟩;subst e1 e2;obtain⟨gs,rfl⟩:=eQ ew iu;clear ew iu;simp only[List.range,List.range.loop,aB,aJ]at i0 i1 i5 |-;simp[Act.eval]at i0 i1 i5;simp only[i0,i1,i5];clear i0 i1 i5;by_cases hk:k<ls.length
 ·have rq:(k:Int)<(ls.length:Int):=aa;have om:IntKind.i64.wrap ((k:Int)+1)=((k+1:Nat):Int):=by rw[IntKind.wrap_i64]<;>omega
  obtain⟨ep,hB,ub⟩:=hR.ptr (lU hk);subst ep;obtain⟨c0,-,-⟩:=hR.at_ k hk;rw[dJ (by simpa using hk),uj,gR]at wY;clear hR;generalize ls[k].out=y at *;refine aD ?_;refine kn hB c0 ?_;walk_nrm;by_cases hx:y=x
  ·rw[if_pos hx]at wY;subst hx;refine aD ?_;exact⟨.inr trivial,trivial,_,resultsC_tmp (t:=4) aG _,by simp[Act.eval,wY],by trivial,by trivial⟩
  ·rw[if_neg hx]at wY;have Yg:=qA hx;refine aD ?_;exact⟨m-1,aa,k+1,aa,bQ,bQ,ax,ax,by simp[Act.eval,om],by trivial,by trivial,wY⟩
 ·have rq:¬(k:Int)<(ls.length:Int):=aa;rw[dZ eW,uj]at wY;clear hR;refine aD ?_;exact⟨.inr trivial,trivial,_,resultsC_tmp (t:=4) aG _,by simp[Act.eval,wY],by trivial,by trivial⟩
end
def nh(us:List Ru):Nat->Nat->ag->Bool
 |0,_,_=>false
 |s+1,i,x=>(((us[i]?).map (·.ins)).getD []).any λn=>decide (n=x)||decide (0<=uj (us.map (·.out)) n 0)&&nh us s (uj (us.map (·.out)) n 0).toNat x
section
variable {Fin:br}{o o':aL}{w w':ae}{p:Option Addr}{b off c:Nat}{ls:List iF}
def T8{l:List ag}{x:ag}(h:0<=uj l x 0):(uj l x 0).toNat<l.length:=by
 rcases tc x l 0 with⟨e,-⟩|⟨i,e,h1,-⟩
 ·omega
 ·have:=(a8.1 h1).1;omega
def QP(hR:kp Fin o w p b off ls)(x:ag):∀(s f:Nat),s<=1000->f<ls.length ->
  bC ak (XB ak Fin 0) 130 #[.slice p ls.length c,.int .i64 (f:Nat),.string x,.int .i64 (s:Nat)] o w λv o' w'=>v=.bool (nh (ls.map iF.ru) s f x)/\o'=o/\w'=w:=by
 intro s
 induction s with
 |zero =>
  intro f hs hf;have W:=bZ (P:=ak) (Fin:=Fin) (d:=0);refine bt W func130 aG ?_;walk_nrmf Tryz.f130;clear hR;refine aD ?_;exact⟨.inr trivial,trivial,_,resultsC_tmp (t:=8) aG _,by simp[Act.eval,nh],by trivial,by trivial⟩
 |succ s ih =>
  intro f hs hf;have W:=bZ (P:=ak) (Fin:=Fin) (d:=0);obtain⟨ep,hB,ub⟩:=hR.ptr (lU hf);obtain⟨-,-,c2⟩:=hR.at_ f hf;obtain⟨n1,n2⟩:=hR.ins ls[f] (aA hf);obtain⟨-,QQ,bg2⟩:=hR.qt.2 ls[f] (aA hf);have jE:=hR.qt.1;have JX:nh (ls.map iF.ru) (s+1) f x=ls[f].ins.any λn=>decide (n=x)||decide (0<=uj (ls.map (·.out)) n 0)&&nh (ls.map iF.ru) s (uj (ls.map (·.out)) n 0).toNat x:=by
   rw[nh,bM,au hf];simp[iF.ru,List.map_map,Function.comp_def]
  have rB:=λx=>Nd (c:=c) hR x;have ih:=λf hf=>ih f aa hf;have OC:∀n,0<=uj (ls.map (·.out)) n 0->(uj (ls.map (·.out)) n 0).toNat<ls.length:=λn hn=>by simpa using T8 hn
  subst ep;rw[JX];clear JX hR;generalize ls[f].ins=ts at *;generalize ls[f].sa=sa at *;generalize ls[f].sc=sc at *;generalize ls[f].ib=ib at *;generalize ls[f].Nc=io at *;have h0:(((s+1:Nat):Int)==0)=false:=by rw[dm];omega
  have hwm:IntKind.i64.wrap (((s+1:Nat):Int)-1)=(s:Int):=by rw[IntKind.wrap_i64]<;>omega
  have hfI:(f:Int)<(ls.length:Int):=aa;generalize hS:((s+1:Nat):Int)=s1 at *;generalize hF:(λn=>decide (n=x)||decide (0<=uj (ls.map (·.out)) n 0)&&nh (ls.map iF.ru) s (uj (ls.map (·.out)) n 0).toNat x)=F;have hFn:∀n,F n=(decide (n=x)||decide (0<=uj (ls.map (·.out)) n 0)&&nh (ls.map iF.ru) s (uj (ls.map (·.out)) n 0).toNat x):=λn=>by rw[<- hF]
  clear hF;refine bt W func130 aG ?_;walk_nrmf Tryz.f130;refine aD ?_;refine dQ W (λm a o' w'=>∃k,m+k=ts.length/\a.tmps.size=48/\a.defers=[]/\a.eval (.tmp 0)=.slice (so ⟨b,off,we⟩) ls.length c/\a.eval (.tmp 1)=.int .i64 (f:Nat)/\a.eval (.tmp 2)=.string x/\a.eval (.tmp 3)=.int .i64 s1/\a.eval (.tmp 9)=.int .i64 (k:Nat)/\o'=o/\w'=w/\ts.any F=(ts.drop k).any F) (N:=ts.length) ⟨0,aj,rfl,rfl,ax,ax,ax,ax,ax,rfl,rfl,rfl⟩ ?_;rintro m a o1 w1 ⟨k,lP,ew,iu,i0,i1,i2,i3,i9,e1,e2,Ae⟩;subst e1 e2;obtain⟨gs,rfl⟩:=eQ ew iu;clear ew iu;simp only[List.range,List.range.loop,aB,aJ]at i0 i1 i2 i3 i9 |-;simp[Act.eval]at i0 i1 i2 i3 i9;simp only[i0,i1,i2,i3,i9];clear i0 i1 i2 i3 i9;by_cases hk:k<ts.length
  ·have rq:(k:Int)<(ts.length:Int):=aa;have om:IntKind.i64.wrap ((k:Int)+1)=((k+1:Nat):Int):=by rw[IntKind.wrap_i64]<;>omega
   obtain⟨es,hI,-⟩:=n1 (lU hk);have ci:=n2 k hk;rw[dJ hk,List.any_cons,hFn]at Ae;clear n1 n2 bg2;subst es;generalize ts[k]=n at *;refine aD ?_;refine kn hB c2 ?_;refine aD ?_;refine kn hB c2 ?_;refine aD ?_;refine kn hI ci ?_;walk_nrm;by_cases hx:n=x
   ·subst hx;simp only[decide_true,Bool.true_or]at Ae;clear OC rB ih;refine aD ?_;exact⟨.inr trivial,trivial,_,resultsC_tmp (t:=8) aG _,by simp[Act.eval,Ae],by trivial,by trivial⟩
   ·have Yg:=qA hx;rw[cz hx,kA]at Ae;refine aD ?_;refine dq func176 (rB n) ?_;rintro v o2 w2 ⟨rfl,e1,e2⟩;subst e1 e2;have hl:=OC n;generalize uj (ls.map (·.out)) n 0=r at *;clear OC rB;walk_nrm;by_cases hr:0<=r
    ·have hrI:((r.toNat:Nat):Int)=r:=ig hr;have ih:=ih r.toNat (hl hr);rw[eY hr,Bool.true_and]at Ae;rw[hrI]at ih;clear hl hrI;generalize nh (ls.map iF.ru) s r.toNat x=q at *;refine aD ?_;refine dq func130 (ih) ?_;rintro v o2 w2 ⟨rfl,e1,e2⟩;subst e1 e2;walk_nrm;clear ih;cases q
     ·rw[kA]at Ae;refine aD ?_;exact⟨m-1,aa,k+1,aa,bQ,bQ,ax,ax,ax,ax,by simp[Act.eval,om],by trivial,by trivial,Ae⟩
     ·rw[Bool.true_or]at Ae;refine aD ?_;exact⟨.inr trivial,trivial,_,resultsC_tmp (t:=8) aG _,by simp[Act.eval,Ae],by trivial,by trivial⟩
    ·rw[cz hr,Bool.false_and,kA]at Ae;clear hl ih;refine aD ?_;exact⟨m-1,aa,k+1,aa,bQ,bQ,ax,ax,ax,ax,by simp[Act.eval,om],by trivial,by trivial,Ae⟩
  ·have rq:¬(k:Int)<(ts.length:Int):=aa;rw[dZ aa,List.any_nil]at Ae;clear n1 n2 bg2 OC rB ih;refine aD ?_;refine kn hB c2 ?_;refine aD ?_;exact⟨.inr trivial,trivial,_,resultsC_tmp (t:=8) aG _,by simp[Act.eval,Ae],by trivial,by trivial⟩
end
def OP(x:ag)(w:ae)(es:Array Event):(Builtin.len_ #[9] 3 #[.string x]).events ak w es=es:=by
 unfold Builtin.len_;simp[go_sem,Sem.events_bind,events_underlying]
def QR(x:ag)(k:Nat)(hk:k<x.size)(w:ae)(es:Array Event):(Instr.index 9 (.string x) (.int .i64 (k:Nat))).events ak w es=es:=by
 simp only[Instr.index,asIntOf,Sem.events_bind,Sem.run_pure,Sem.events_pure,Result.evThen_ok,run_underlying underlying9,events_underlying];have h:x[k]?=so x[k]:=by simp[hk]
 simp[h,hk]
section
variable {Fin:br}{o o':aL}{w w':ae}{p:Option Addr}{b off c:Nat}{ls:List iF}
def Hr(x:ag)(hx:x.size<=9223372036854775807):
  bC ak (XB ak Fin 0) 131 #[.string x] o w λv o' w'=>∃q,v=.bool q/\(q=true↔isName x)/\o'=o/\w'=w:=by
 have W:=bZ (P:=ak) (Fin:=Fin) (d:=0);have Zh:=OP x;refine bt W func131 aG ?_;walk_nrmf Tryz.f131;refine aD ?_;refine dQ W (λm a o' w'=>∃k,m+k=x.size/\a.tmps.size=28/\a.defers=[]/\a.eval (.tmp 0)=.string x/\a.eval (.tmp 3)=.int .i64 (k:Nat)/\o'=o/\w'=w/\small x k) (N:=x.size) ⟨0,aj,rfl,rfl,ax,ax,rfl,rfl,λj _ hj=>aa⟩ ?_;rintro m a o1 w1 ⟨k,lP,ew,iu,i0,i3,e1,e2,OB⟩;subst e1 e2;obtain⟨gs,rfl⟩:=eQ ew iu;clear ew iu;simp only[List.range,List.range.loop,aB,aJ]at i0 i3 |-;simp[Act.eval]at i0 i3;simp only[i0,i3];clear i0 i3;by_cases hk:k<x.size
 ·have rq:(k:Int)<(x.size:Int):=aa;have om:IntKind.i64.wrap ((k:Int)+1)=((k+1:Nat):Int):=by rw[IntKind.wrap_i64]<;>omega
  have hxs:=QR x k hk;by_cases c1:x[k].toNat<97
  ·have c1I:(x[k].toNat:Int)<97:=aa;have ua:¬isName x:=λh=>by have:=h.2.2 k hk hk;omega
   clear OB;refine aD ?_;exact⟨.inr trivial,trivial,_,resultsC_tmp (t:=2) aG _,false,ax,by simp[ua],by trivial,by trivial⟩
  ·have c1I:¬(x[k].toNat:Int)<97:=aa;by_cases c2:x[k].toNat>122
   ·have c2I:(122:Int)<(x[k].toNat:Int):=aa;have ua:¬isName x:=λh=>by have:=h.2.2 k hk hk;omega
    clear OB;refine aD ?_;exact⟨.inr trivial,trivial,_,resultsC_tmp (t:=2) aG _,false,ax,by simp[ua],by trivial,by trivial⟩
   ·have c2I:¬(122:Int)<(x[k].toNat:Int):=aa;have aii:small x (k+1):=λj h hj=>if e:j=k then by subst e;omega else OB j h aa
    clear OB;refine aD ?_;exact⟨m-1,aa,k+1,aa,bQ,bQ,ax,by simp[Act.eval,om],by trivial,by trivial,aii⟩
 ·have rq:¬(k:Int)<(x.size:Int):=aa;obtain rfl:k=x.size:=aa;by_cases h1:1<=x.size
  ·have h1I:(1:Int)<=(x.size:Int):=aa;by_cases h4:x.size<=4
   ·have h4I:(x.size:Int)<=4:=aa;have hy:isName x:=⟨h1,h4,OB⟩;clear OB;refine aD ?_;exact⟨.inr trivial,trivial,_,resultsC_tmp (t:=2) aG _,true,ax,by simp[hy],by trivial,by trivial⟩
   ·have h4I:¬(x.size:Int)<=4:=aa;have ua:¬isName x:=λh=>h4 h.2.1;clear OB;refine aD ?_;exact⟨.inr trivial,trivial,_,resultsC_tmp (t:=2) aG _,false,ax,by simp[ua],by trivial,by trivial⟩
  ·have h1I:¬(1:Int)<=(x.size:Int):=aa;have ua:¬isName x:=λh=>h1 h.1;clear OB;refine aD ?_;exact⟨.inr trivial,trivial,_,resultsC_tmp (t:=2) aG _,false,ax,by simp[ua],by trivial,by trivial⟩
end
def sf(P:Program)(w:ae)(es:Array Event)(a:Addr)(m:Mode)(x:ag):(store a (.string x) m).events P w es=storedEv P w es a (.string x) m:=events_store P w es a _ m rfl
def BJ(P:Program)(w:ae)(es:Array Event)(a:Addr)(m:Mode)(b:Option Addr)(l c:Nat):(store a (.slice b l c) m).events P w es=storedEv P w es a (.slice b l c) m:=events_store P w es a _ m rfl
section
variable {Fin:br}{d:Nat}{o:aL}{w:ae}{fn:FuncId}{Q:Exit->Act->aL->ae->Prop}{a:Act}{ops:Array Oper}{i j:Nat}{rest:List Nat}{t:Tmp}{e1 e2:Oper}
def Dx(y:ag)(rc:Int)(sa:Option Addr)(n sc:Nat)(k:dK (XB ak Fin d) fn ops rest Q ((a.put (so t) (.pointer (so ⟨w.heap.size,0,we⟩))).put we undef) (λb=>o b\/b=w.heap.size) (w.alloc (.cells #[.string y,.int .i64 rc,.slice sa n sc] 42)))(h1:ops[i]?=so e1:=by rfl)(h2:Region.wanted e1 (yielded ops a.tmps)=true:=by rfl)(h3:e1.op=.alloc 42:=by rfl)(h4:e1.dst=so t:=by rfl)(h5:ops[j]?=so e2:=by rfl)(h6:∀p,Region.wanted e2 (yielded ops (a.put (so t) p).tmps)=true:=by intro p;rfl)(h7:∃x,e2.op=.store 42 (.tmp t) x/\∀p,(a.put (so t) p).eval x=.agg #[.string y,.int .i64 rc,.slice sa n sc]:=by exact⟨_,rfl,λp=>rfl⟩)(h8:e2.dst=none:=by rfl)(h9:∀p,(a.put (so t) p).eval (.tmp t)=p:=by intro p;rfl):dK (XB ak Fin d) fn ops (i::j::rest) Q a o w:=by
 obtain⟨x,h7,vx⟩:=h7;obtain⟨_,_,_,_,_,_⟩:=e1;obtain⟨_,_,_,_,_,_⟩:=e2;simp only at h3 h4 h7 h8;subst h3 h4 h7 h8;refine eu h1 h2 rfl (.cells #[.string bF,.int .i64 0,.slice we 0 0] 42) (λn=>.pointer (so ⟨n,0,we⟩)) (λw1=>by first|(simp[go_sem];done)|(simp[go_sem];rfl)) (λw1=>by first|(simp[go_sem];done)|(simp[go_sem];rfl)) ?_;have hg:Go.Ren.grow (λb=>o b\/b=w.heap.size) (w.alloc (.cells #[.string bF,.int .i64 0,.slice we 0 0] 42)) (w.alloc (.cells #[.string y,.int .i64 rc,.slice sa n sc] 42))=λb=>o b\/b=w.heap.size:=by
  funext b;simp only[Go.Ren.grow,eq_iff_iff];exact⟨λh=>h.elim id λh=>by simp at h;omega,.inl⟩
 have ji:∀m,((w.alloc (.cells #[.string bF,.int .i64 0,.slice we 0 0] 42)).at m).heap[w.heap.size]?=so (.cells #[.string bF,.int .i64 0,.slice we 0 0] 42):=λm=>dz _ _;have q9:=h9 (.pointer (so ⟨w.heap.size,0,we⟩));have Hs:=vx (.pointer (so ⟨w.heap.size,0,we⟩));refine rA (w':=w.alloc (.cells #[.string y,.int .i64 rc,.slice sa n sc] 42)) h5 (h6 _) rfl aj ⟨rfl,rfl⟩ (λm=>?_) (λm x hx=>?_) ?_
 ·obtain⟨e0,e1,e2,f0,f1,f2⟩:=ki (ji m);generalize Act.eval (a.put (so t) (.pointer (so ⟨w.heap.size,0,we⟩)))=ev at q9 Hs |-;have:=Du (w.at m) (.string bF) (.int .i64 0) (.slice we 0 0) (.string y) (.int .i64 rc) (.slice sa n sc) 42;simp[go_sem,q9,Hs,e0,e1,e2,f0,f1,f2];exact this
 ·obtain⟨e0,e1,e2,f0,f1,f2⟩:=ki (ji m);generalize Act.eval (a.put (so t) (.pointer (so ⟨w.heap.size,0,we⟩)))=ev at q9 Hs hx;simp[go_sem,sf,BJ,q9,Hs,e0,e1,e2,f0,f1,f2]at hx;rw[hg];rcases hx with rfl|rfl|rfl<;>exact⟨_,_,_,rfl,.inl (.inr rfl)⟩
 ·rw[hg];exact k
end
structure kB(Fin:br)(o:aL)(w:ae)(p:Option Addr)(b off:Nat)(fs:List (ag×ag)):Prop where
 ptr:fs≠[]->p=so ⟨b,off,we⟩/\wx Fin o b/\b<w.heap.size
 at_:∀i (h:i<fs.length),w.cell? ⟨b,off+i*2,we⟩=so (.string fs[i].1)/\w.cell? ⟨b,off+i*2+1,we⟩=so (.string fs[i].2)
 qt:fs.length<=4398046510976/\∀f∈fs,f.1.size<=9223372036854775807/\f.2.size<=9223372036854775807
section
variable {Fin:br}{o o':aL}{w w':ae}{p:Option Addr}{b off c:Nat}{fs:List (ag×ag)}
def kB.keep(h:kB Fin o w p b off fs)(hs:∀b,o b->o' b)(k:fl w w'):kB Fin o' w' p b off fs:=by
 refine⟨λq=>⟨(h.ptr q).1,(h.ptr q).2.1.up hs,bf (h.ptr q).2.2 k.size⟩,λi hi=>?_,h.qt⟩;have e:=k.same b (h.ptr (lU hi)).2.2;exact⟨(cell_of e).trans (h.at_ i hi).1,(cell_of e).trans (h.at_ i hi).2⟩
def ot:List (ag×ag)->ag->V
 | [],_=>(false,⟨#[]⟩)
 |f::l,x=>if f.1=x then(true,f.2)else ot l x
end
def WO(P:Program)(w:ae)(es:Array Event)(a:Addr)(m:Mode)(x:Bool):(store a (.bool x) m).events P w es=storedEv P w es a (.bool x) m:=events_store P w es a _ m rfl
section
variable {Fin:br}{d:Nat}{o:aL}{w:ae}{fn:FuncId}{Q:Exit->Act->aL->ae->Prop}{a:Act}{ops:Array Oper}{i j:Nat}{rest:List Nat}{e1 e2:Oper}
def zi{q0 q:Bool}{y0 y:ag}{T:Nat}(hT:T=w.heap.size)(k:dK (XB ak Fin d) fn ops rest Q (a.put we undef) (λb=>o b\/b=T) (w.alloc (.cells #[.bool q,.string y] 237)))(h5:ops[j]?=so e2:=by rfl)(h6:Region.wanted e2 (yielded ops a.tmps)=true:=by rfl)(h7:∃u x,e2.op=.store 237 u x/\a.eval u=.pointer (so ⟨T,0,we⟩)/\a.eval x=.agg #[.bool q,.string y]:=by exact⟨_,_,rfl,rfl,rfl⟩)(h8:e2.dst=none:=by rfl):dK (XB ak Fin d) fn ops (j::rest) Q a (λb=>o b\/b=T) (w.alloc (.cells #[.bool q0,.string y0] 237)):=by
 obtain⟨u,x,h7,q9,Hs⟩:=h7;obtain⟨_,_,_,_,_,_⟩:=e2;simp only at h7 h8;subst h7 h8 hT;have hg:Go.Ren.grow (λb=>o b\/b=w.heap.size) (w.alloc (.cells #[.bool q0,.string y0] 237)) (w.alloc (.cells #[.bool q,.string y] 237))=λb=>o b\/b=w.heap.size:=by
  funext b;simp only[Go.Ren.grow,eq_iff_iff];exact⟨λh=>h.elim id λh=>by simp at h;omega,.inl⟩
 have ji:∀m,((w.alloc (.cells #[.bool q0,.string y0] 237)).at m).heap[w.heap.size]?=so (.cells #[.bool q0,.string y0] 237):=λm=>dz _ _;refine rA (w':=w.alloc (.cells #[.bool q,.string y] 237)) h5 h6 rfl aj ⟨rfl,rfl⟩ (λm=>?_) (λm x hx=>?_) ?_
 ·obtain⟨e0,e1,f0,f1⟩:=lI (ji m);generalize Act.eval a=ev at q9 Hs |-;have:=Dv (w.at m) (.bool q0) (.string y0) (.bool q) (.string y) 237;simp[go_sem,q9,Hs,e0,e1,f0,f1];exact this
 ·obtain⟨e0,e1,f0,f1⟩:=lI (ji m);generalize Act.eval a=ev at q9 Hs hx;simp[go_sem,sf,WO,q9,Hs,e0,e1,f0,f1]at hx;rw[hg];rcases hx with rfl|rfl<;>exact⟨_,_,_,rfl,.inl (.inr rfl)⟩
 ·rw[hg];exact k
end
section
variable {Fin:br}{o o':aL}{w w':ae}{p:Option Addr}{b off c:Nat}{fs:List (ag×ag)}
def aak(hL:kB Fin o w p b off fs)(x:ag):
  bC ak (XB ak Fin 0) 134 #[.slice p fs.length c,.string x] o w λv o' w'=>v=.agg #[.bool (ot fs x).1,.string (ot fs x).2]/\o'=o/\fl w w':=by
 have W:=bZ (P:=ak) (Fin:=Fin) (d:=0);have jE:=hL.qt.1;have T9:=λx=>fl.alloc w x;have FX:=λx=>hL.keep (o':=λb=>o b\/b=w.heap.size) (λb h=>.inl h) (T9 x);have qK:∀(q:Bool) (y:ag) (tm:Array Value),tm[4]?=so (.pointer (so ⟨w.heap.size,0,we⟩))->yz ak (λ_=>AtRel) (GuO Fin) Tryz.f134 tm (λb=>o b\/b=w.heap.size) (w.alloc (.cells #[.bool q,.string y] 237)) (.agg #[.bool q,.string y]):=λq y tm h4=>by
  have hc:=λn=>lI (w:=(w.alloc (.cells #[.bool q,.string y] 237)).at n) (b:=w.heap.size) (dz _ _);refine acU (λn=>?_) (λn e he=>?_)
  ·obtain⟨e0,e1,-⟩:=hc n;simp[results,Tryz.f134,h4,go_sem,e0,e1]
  ·obtain⟨e0,e1,-⟩:=hc n;simp[results,Tryz.f134,h4,go_sem,e0,e1]at he;rcases he with rfl|rfl<;>exact⟨_,_,_,rfl,.inr rfl⟩
 refine bC.drop ?_;refine kF W func134 aG ?_;walk_nrmf Tryz.f134;refine aD ?_;refine eu rfl aG rfl (.cells #[.bool false,.string ⟨#[]⟩] 237) (λn=>.pointer (so ⟨n,0,we⟩)) (λw1=>by first|(simp[go_sem];done)|(simp[go_sem];rfl)) (λw1=>by first|(simp[go_sem];done)|(simp[go_sem];rfl)) ?_;refine aD ?_;refine dQ W (λm a o' w'=>∃k,m+k=fs.length/\a.tmps.size=26/\a.defers=[]/\a.eval (.tmp 0)=.slice p fs.length c/\a.eval (.tmp 1)=.string x/\a.eval (.tmp 4)=.pointer (so ⟨w.heap.size,0,we⟩)/\a.eval (.tmp 5)=.int .i64 (k:Nat)/\o'=(λb=>o b\/b=w.heap.size)/\w'=w.alloc (.cells #[.bool false,.string ⟨#[]⟩] 237)/\ot fs x=ot (fs.drop k) x) (N:=fs.length) ⟨0,aj,rfl,rfl,ax,ax,ax,ax,rfl,rfl,rfl⟩ ?_;rintro m a o1 w1 ⟨k,lP,ew,iu,i0,i1,i4,i5,e1,e2,wY⟩;subst e1 e2;obtain⟨gs,rfl⟩:=eQ ew iu;clear ew iu;simp only[List.range,List.range.loop,aB,aJ]at i0 i1 i4 i5 |-;simp[Act.eval]at i0 i1 i4 i5;simp only[i0,i1,i4,i5];clear i0 i1 i4 i5;by_cases hk:k<fs.length
 ·have rq:(k:Int)<(fs.length:Int):=aa;have om:IntKind.i64.wrap ((k:Int)+1)=((k+1:Nat):Int):=by rw[IntKind.wrap_i64]<;>omega
  have hL2:=FX (.cells #[.bool false,.string ⟨#[]⟩] 237);obtain⟨ep,hB,ub⟩:=hL2.ptr (lU hk);subst ep;obtain⟨c0,c1⟩:=hL2.at_ k hk;rw[dJ hk,ot]at wY;clear hL FX hL2;generalize fs[k].1=y at *;generalize fs[k].2=t at *;refine aD ?_;refine kn hB c0 ?_;walk_nrm;by_cases hx:y=x
  ·rw[if_pos hx]at wY;subst hx;rw[wY];refine aD ?_;refine kn hB c1 ?_;refine aD ?_;refine zi rfl ?_;refine aD ?_;exact⟨.inr trivial,trivial,_,qK true t _ ax,o,λb h=>.inl h,rfl,rfl,T9 _⟩
  ·rw[if_neg hx]at wY;have Yg:=qA hx;refine aD ?_;exact⟨m-1,aa,k+1,aa,bQ,bQ,ax,ax,ax,by simp[Act.eval,om],by trivial,by trivial,wY⟩
 ·have rq:¬(k:Int)<(fs.length:Int):=aa;rw[dZ aa,ot]at wY;rw[wY];clear hL FX;refine aD ?_;refine zi rfl ?_;refine aD ?_;exact⟨.inr trivial,trivial,_,qK false ⟨#[]⟩ _ ax,o,λb h=>.inl h,rfl,rfl,T9 _⟩
end
section
variable {o o' o0:aL}{w w' w0:ae}{lo e sz n:Nat}{v y:Value}{xs:List Value}
structure WQ(o:aL)(w:ae)(lo e sz:Nat)(v y:Value)(n:Nat)(xs:List Value)(o':aL)(w':ae):Prop where
 row:jy o' w' lo e sz y n xs
 bA:fW (λb=>v.ownBlock=so b) o w o' w'
 all:∀b,w.heap.size<=b->b<w'.heap.size->o' b
end
section
variable {o:aL}{w:ae}
def jy.at_{lo e sz n:Nat}{v:Value}{xs:List Value}(h:jy o w lo e sz v n xs)(hF:bJ ak L0 o w):∃p b c,v=.slice p n c/\n<=c/\(0<n->p=so ⟨b,0,we⟩/\o b/\lo<=b)/\(p=we->n=0)/\∀k u,xs[k]?=so u->w.cell? ⟨b,k,we⟩=so u:=by
 have cd:=h.row;obtain⟨h0,hc⟩:=h.row;rcases hc with⟨e1,e2⟩|⟨g,cap,cur,e1,k1,k2,k3,k4,k5,k6⟩
 ·subst e2;have:xs=[]:=dx.1 (by rw[h0];simp);subst this;exact⟨we,0,0,e1,af _,λq=>absurd q aa,λ_=>rfl,λk u hk=>by simp at hk⟩
 ·have ji:=cd.cells (g:=g) (by rw[e1];rfl);have og:=se hF h.cl g (by rw[e1];rfl);refine⟨_,g,cap,e1,?_,λ_=>⟨rfl,og,k1⟩,(λq=>by cases q),λk u hk=>?_⟩
  ·first|omega|exact k3|exact k4|exact k5|exact k6
  ·have:=ji k u hk;have ha:(⟨g,0,we⟩:Addr).add k=⟨g,k,we⟩:=by simp[Addr.add];omega
   rw[ha]at this;exact this
end
section
variable {Fin:br}{d:Nat}{o:aL}{w:ae}{fn:FuncId}{Q:Exit->Act->aL->ae->Prop}{a:Act}{ops:Array Oper}{i j:Nat}{rest:List Nat}{t1:Tmp}{dd:Option Tmp}{e1 e2:Oper}
def aal{e sz bs:Nat}{t:TypeId}{z:Value}{us:List Value}{lo n:Nat}{v:Value}{xs:List Value}(hF:bJ ak L0 o w)(row:jy o w lo e sz v n xs)(hn:(n+1)*bs<=140737488355328)(MB:n+1<=9223372036854775807)(OQ:us.length=sz)(h1c:∀u∈us,u.oneCell'=true)(zj:(ak.info? e).map (λi=>(i.zero,i.size,i.bytes))=so (so z,sz,bs))(hz:z.cells.size=sz)(h0:0<sz)(hu:ak.underlying t=so (.slice e)){xv:Value}(hx:Cl ak L0 o xv)(k:∀y o' w',WQ o w lo e sz v y (n+1) (xs++us) o' w'->dK (XB ak Fin d) fn ops rest Q ((a.put (so t1) (.slice (so ⟨w.heap.size,0,we⟩) 1 1)).put dd y) o' w')(h1:ops[i]?=so e1:=by rfl)(h2:Region.wanted e1 (yielded ops a.tmps)=true:=by rfl)(h3:oC L0 e1.op=true:=by rfl)(h4:e1.dst=so t1:=by rfl)(h5:∀wl,(execOp a.eval e1).run ak wl=.ok (.value (.slice (so ⟨wl.heap.size,0,we⟩) 1 1)) (wl.alloc (.cells us.toArray e)):=by intro wl;simp[go_sem,Act.eval])(h6:Cl ak L0 o xv->∀x∈e1.op.operands,Cl ak L0 o (a.eval x):=by
   intro h9 y hy;simp[Op.operands]at hy;subst hy;simp[Act.eval];exact h9)(h7:ops[j]?=so e2:=by rfl)(h8:∀p,Region.wanted e2 (yielded ops (a.put (so t1) p).tmps)=true:=by intro p;rfl)(h9:oC L0 e2.op=true:=by rfl)(vx:∃s,e2.op=.call {callee:=.builtin .append,args:=#[s,.tmp t1],argTypes:=#[t,t]}/\(∀p,(a.put (so t1) p).eval s=v)/\∀p,(a.put (so t1) p).eval (.tmp t1)=p:=by exact⟨_,rfl,λp=>rfl,λp=>rfl⟩)(h11:e2.dst=dd:=by rfl):dK (XB ak Fin d) fn ops (i::j::rest) Q a o w:=by
 obtain⟨s,vx,q1,q2⟩:=vx;refine jL jN hF h1 h2 h3 (h6 hx) h4 (R:=λwl v bN=>v=.slice (so ⟨wl.heap.size,0,we⟩) 1 1/\bN=wl.alloc (.cells us.toArray e)) (λwl bu=>⟨_,_,h5 wl,rfl,rfl⟩) λwl v1 bN w5 bu Ey fP=>?_;obtain⟨rfl,Ey⟩:=Ey;obtain⟨z5,k5,kb5⟩:=fP.alloc hF bu Ey;rw[bu.size];have Gx:=gZ.tH fP.bS aa k5;have oN:Go.Ren.grow o w w5 w.heap.size:=Gx.all _ (af _) aa;have od:=row.sx Gx;have zu:=Gx.bA.bS;have cR:=row.lt;clear Ey fP bu wl bN k5;generalize Go.Ren.grow o w w5=o5 at *;refine jL jN zu h7 (h8 _) h9 ?_ h11 (R:=λwl y bN=>bN.ownsRow lo e sz y (n+1) (xs++us)/\wl.grownBy bN v.ownBlock/\(y.ownBlock=v.ownBlock\/y.ownBlock=so wl.heap.size)) (λwl bu=>?_) λwl y6 bN w6 bu hR6 fP=>?_
 ·rw[vx];intro y hy;simp[Op.operands,Call.operands]at hy;rcases hy with rfl|rfl
  ·rw[q1];exact od.cl
  ·rw[q2];exact eK oN
 ·obtain⟨i0,hi,pL⟩:=aH.1 zj;simp only[bO]at pL;have ha:=(bu.heap _ oN).trans kb5;obtain⟨v',W',r1,r2,r3,-,r4⟩:=run_append_own_at (P:=ak) wl lo t e2.type e i0 z sz bs hu hi pL.1 pL.2.1 pL.2.2 hz h0 v n xs (gv od.row λg hg _=>bu.heap g (se zu od.cl g hg.symm)) ⟨w.heap.size,0,we⟩ 1 1 us aa (λj u hj=>by
   have e:(⟨w.heap.size,0,we⟩:Addr).add j=⟨w.heap.size,j,we⟩:=by simp[Addr.add];omega
   rw[e];simp[World.cell?,ha,hj]) h1c (by simp[maxLen];omega) hn (by rw[bu.size];exact od.low)
  exact⟨v',W',j0 s (.tmp t1) t vx (q1 _) (q2 _) r1,r2,r3,r4⟩
 obtain⟨r1,r2,r3⟩:=hR6;obtain⟨q1,q2,q3⟩:=jy.add zu od bu fP r1 r2 r3;have z6:=q2.size;refine k y6 _ _ ⟨q1,⟨q2.bS,λb hb=>q2.more b (Gx.bA.more b hb),λb hb=>(q2.new b hb).elim (λq=>Gx.bA.new b q) λq=>.inr aa,aa,λb hb hx=>(q2.same b aa hx).trans (Gx.bA.same b hb id)⟩,λb Ev oe=>?_⟩;by_cases q:b<w5.heap.size
 ·exact q2.more _ (Gx.all b Ev q)
 ·exact .inr ⟨aa,oe⟩
end
def wy(outs:List ag)(fs:List (ag×ag))(hv:List V)(ins:List ag):List V:=ins.map λx=>if 0<=uj outs x 0 then hv.getD (uj outs x 0).toNat (false,⟨#[]⟩)else ot fs x
def mJ(l:List V):List Value:=(l.map λv=>[Value.bool v.1,Value.string v.2]).flatten
def wZ(l:List V)(v:V):mJ (l++[v])=mJ l++[.bool v.1,.string v.2]:=by simp[mJ]
def Af:(ak.info? 237).map (λi=>(i.zero,i.size,i.bytes))=so (so (.agg #[.bool false,.string ⟨#[]⟩]),2,24):=ah
section
variable {Fin:br}{o o':aL}{w w':ae}{p fp:Option Addr}{b off c fb rP fc hb hc:Nat}{ls:List iF}{fs:List (ag×ag)}{hv:List V}
def Dy(hF:bJ ak L0 o w)(q:Bool)(y:ag):gZ o w (λb=>o b\/b=w.heap.size) (w.alloc (.cells #[.bool q,.string y] 237)) :=
 ⟨⟨hF.alloc rfl λf hf=>by simp[obj],λb h=>.inl h,λb h=>h.imp id λe=>aa,aj,λb hb _=>RowKit.Below.heap_alloc _ _ b hb⟩,λb h1 h2=>.inr (by simp at h2;omega)⟩
def gZ.olds(h:gZ o w o' w'):fl w w':=⟨h.bA.size,λb hb=>h.bA.same b hb id⟩
def qZ.olds{vs:List V}(h:qZ w b off vs)(k:fl w w')(hb:b<w.heap.size):qZ w' b off vs:=λj hj=>⟨(cell_of (k.same b hb)).trans (h j hj).1,(cell_of (k.same b hb)).trans (h j hj).2⟩
def ad3(hF:bJ ak L0 o w)(hR:kp Fin o w p b off ls)(hL:kB Fin o w fp fb rP fs)(ohb:o hb)(hV:qZ w hb 0 hv)(Wf:hv.length=ls.length)(h8:ls.length<=8)(i:Nat)(hi:i<ls.length)(h4:ls[i].ins.length<=4):
  bC ak (XB ak Fin 0) 177 #[.slice p ls.length c,.slice fp fs.length fc,.slice (so ⟨hb,0,we⟩) ls.length hc,.int .i64 (i:Nat)] o w λv o' w'=>fW (λ_=>False) o w o' w'/\jy o' w' w.heap.size 237 2 v ls[i].ins.length (mJ (wy (ls.map (·.out)) fs hv ls[i].ins)):=by
 have W:=bZ (P:=ak) (Fin:=Fin) (d:=0);have Yk:(i:Int)<(ls.length:Int):=aa;have lhb:=hF.lt ohb;refine bt W func177 aG ?_;walk_nrmf Tryz.f177;refine aD ?_;refine dQ W (λm a o' w'=>∃k,m+k=ls[i].ins.length/\a.tmps.size=54/\a.defers=[]/\a.eval (.tmp 0)=.slice p ls.length c/\a.eval (.tmp 1)=.slice fp fs.length fc/\a.eval (.tmp 2)=.slice (so ⟨hb,0,we⟩) ls.length hc/\a.eval (.tmp 3)=.int .i64 (i:Nat)/\a.eval (.tmp 10)=.int .i64 (k:Nat)/\∃v,a.eval (.tmp 9)=v/\fW (λ_=>False) o w o' w'/\jy o' w' w.heap.size 237 2 v k (mJ (wy (ls.map (·.out)) fs hv (ls[i].ins.take k)))) (N:=ls[i].ins.length) ⟨0,aj,rfl,rfl,ax,ax,ax,ax,ax,_,ax,fW.refl hF,jy.nil _ _ _ _ _ (af _)⟩ ?_;rintro m a o1 w1 ⟨k,lP,ew,iu,i0,i1,i2,i3,i10,v,i9,hW,row⟩;obtain⟨gs,rfl⟩:=eQ ew iu;clear ew iu;simp only[List.range,List.range.loop,aB,aJ]at i0 i1 i2 i3 i9 i10 |-;simp[Act.eval]at i0 i1 i2 i3 i9 i10;simp only[i0,i1,i2,i3,i9,i10];clear i0 i1 i2 i3 i9 i10;have pM:fl w w1:=⟨hW.size,λb hb=>hW.same b hb id⟩;have tV:=hR.keep (o':=o1) hW.more pM.size pM.same;obtain⟨ep,hB,ub⟩:=tV.ptr (lU hi);obtain⟨-,-,c2⟩:=tV.at_ i hi;obtain⟨n1,n2⟩:=tV.ins ls[i] (aA hi);have lS:=hW.bS;by_cases hk:k<ls[i].ins.length
 ·have rq:(k:Int)<(ls[i].ins.length:Int):=aa;have om:IntKind.i64.wrap ((k:Int)+1)=((k+1:Nat):Int):=by rw[IntKind.wrap_i64]<;>omega
  obtain⟨es,hI,-⟩:=n1 (lU hk);have ci:=n2 k hk;have BH:wy (ls.map (·.out)) fs hv (ls[i].ins.take (k+1))=wy (ls.map (·.out)) fs hv (ls[i].ins.take k)++[if 0<=uj (ls.map (·.out)) ls[i].ins[k] 0 then hv.getD (uj (ls.map (·.out)) ls[i].ins[k] 0).toNat (false,⟨#[]⟩)else ot fs ls[i].ins[k]]:=by
   rw[take_succ _ k hk,wy,jw];rfl
  have hlx:0<=uj (ls.map (·.out)) ls[i].ins[k] 0->(uj (ls.map (·.out)) ls[i].ins[k] 0).toNat<ls.length:=λh=>by have:=T8 h;simpa using this
  have FX:=hL.keep (o':=o1) hW.more pM;have XM:=hV.olds pM lhb;clear n1 n2 hV;have rB:=λx=>Nd (c:=c) tV x;have AN:=λx=>aak (c:=fc) FX x;subst ep;rw[es]at c2;generalize ls[i].ins[k]=x at *;generalize ls[i].ins.length=nl at *;generalize ls[i].sc=sc at *;generalize ls[i].ib=ib at *;generalize ls[i].Nc=io at *;refine aD ?_;refine kn hB c2 ?_;refine aD ?_;refine kn hB c2 ?_;refine aD ?_;refine kn hI ci ?_;walk_nrm;refine dq func176 (rB x) ?_;rintro v2 o2 w2 ⟨rfl,e1,e2⟩;subst e1 e2;clear rB;refine aD ?_;refine kn hB c2 ?_;refine aD ?_;refine kn hI ci ?_;walk_nrm;refine dq func134 (AN x) ?_;rintro v2 o3 w3 ⟨rfl,e1,vN⟩;subst e1;clear AN;have vJ:=vN.bS lS;have vm:=row.keep (o':=o3) (w':=w3) (λ_ h=>h) vN.size (λg hg=>vN.same g (row.lt g hg).2);have GD:fW (λ_=>False) o w o3 w3:=⟨vJ,hW.more,hW.new,aS hW.size vN.size,λb hb hx=>(vN.same b (bf hb hW.size)).trans (hW.same b hb hx)⟩;have hV3:=XM.olds vN (bf lhb hW.size);have WS:=hW.more _ ohb;clear row hW tV FX XM lS hB hI ci c2 pM vN;generalize uj (ls.map (·.out)) x 0=r at *;generalize hfv:ot fs x=fv at *;generalize wy (ls.map (·.out)) fs hv (ls[i].ins.take k)=l0 at *;walk_nrm;refine eu rfl aG rfl (.cells #[.bool false,.string ⟨#[]⟩] 237) (λn=>.pointer (so ⟨n,0,we⟩)) (λw1=>by first|(simp[go_sem];done)|(simp[go_sem];rfl)) (λw1=>by first|(simp[go_sem];done)|(simp[go_sem];rfl)) ?_;walk_nrm;refine zi rfl ?_;walk_nrm;have WU:=vJ.lt WS;by_cases hr:0<=r
  ·have hrI:r<(ls.length:Int):=by have:=hlx hr;omega
   have U8:=hlx hr;rw[if_pos hr]at BH;obtain⟨g0,g1⟩:=hV3 r.toNat aa;rw[bD]at g0 g1;have g0':=(cell_of ((fl.alloc w3 (.cells #[.bool fv.1,.string fv.2] 237)).same hb WU)).trans g0;have g1':=(cell_of ((fl.alloc w3 (.cells #[.bool fv.1,.string fv.2] 237)).same hb WU)).trans g1;have ehv:hv.getD r.toNat (false,⟨#[]⟩)=hv[r.toNat]:=by rw[bm,au aa];rfl
   rw[ehv]at BH;clear g0 g1 ehv;generalize hv[r.toNat]=hq at *;obtain⟨qq,qy⟩:=hq;refine aD ?_;refine eZ (B:=hb) (.inl (.inl WS)) rfl aG rfl (v:=.agg #[.bool qq,.string qy]) (λwl bu=>by simp[go_sem,bu.cell.trans g0',bu.cell.trans g1']) (λwl bu x hx=>?_) ?_
   ·simp[go_sem,bu.cell.trans g0',bu.cell.trans g1']at hx;rcases hx with rfl|rfl<;>exact⟨_,_,_,rfl,rfl⟩
   clear g0' g1';walk_nrm;refine zi rfl ?_;refine aD ?_;have GT:=Dy vJ qq qy;have Va:=GT.bA.bS;have Dz:=vm.sx GT;have uk:=GD.trans GT.bA;obtain⟨t0,t1,-⟩:=lI (w:=w3.alloc (.cells #[.bool qq,.string qy] 237)) (b:=w3.heap.size) (dz _ _);have oT:wx Fin (λb=>o3 b\/b=w3.heap.size) w3.heap.size:=.inl (.inr rfl);clear GT vm GD vJ hV3 WS WU hlx;generalize (λb=>o3 b\/b=w3.heap.size)=oV at *;generalize w3.alloc (.cells #[.bool qq,.string qy] 237)=wV at *;generalize w3.heap.size=T at *;refine eZ oT rfl aG rfl (v:=.agg #[.bool qq,.string qy]) (λwl bu=>by simp[go_sem,bu.cell.trans t0,bu.cell.trans t1]) (λwl bu x hx=>?_) ?_
   ·simp[go_sem,bu.cell.trans t0,bu.cell.trans t1]at hx;rcases hx with rfl|rfl<;>exact⟨_,_,_,rfl,rfl⟩
   walk_nrm;have hk4:k<=4:=aa;have hcv:Cl ak L0 oV (.agg #[.bool qq,.string qy]):=sB (vs:=[.bool qq,.string qy]) λu hu=>by
    simp at hu;rcases hu with rfl|rfl
    ·exact vE
    ·exact dH
   refine aal (us:=[.bool qq,.string qy]) Va Dz aa aa rfl (by intro u hu;simp at hu;rcases hu with rfl|rfl<;>rfl) Af rfl aa underlying234 hcv λy6 o6 w6 hA=>?_;have Lv:fW (λ_=>False) o w o6 w6:=⟨hA.bA.bS,λb hb=>hA.bA.more b (uk.more b hb),λb hb=>(hA.bA.new b hb).elim (λq=>uk.new b q) λq=>.inr (by have:=uk.size;omega),by have:=uk.size;have:=hA.bA.size;omega,λb hb hx=>(hA.bA.same b (by have:=uk.size;omega) (λq=>by have:=(Dz.lt b q).1;omega)).trans (uk.same b hb hx)⟩;have ug:=hA.row;clear hA Dz uk Va t0 t1 oT;refine aD ?_;exact⟨m-1,aa,k+1,aa,bQ,bQ,ax,ax,ax,ax,by simp[Act.eval,om],y6,ax,Lv,by rw[BH,wZ];exact ug⟩
  ·rw[if_neg hr]at BH;obtain⟨qq,qy⟩:=fv;refine aD ?_;have GT:=Dy vJ qq qy;have Va:=GT.bA.bS;have Dz:=vm.sx GT;have uk:=GD.trans GT.bA;obtain⟨t0,t1,-⟩:=lI (w:=w3.alloc (.cells #[.bool qq,.string qy] 237)) (b:=w3.heap.size) (dz _ _);have oT:wx Fin (λb=>o3 b\/b=w3.heap.size) w3.heap.size:=.inl (.inr rfl);clear GT vm GD vJ hV3 WS WU hlx;generalize (λb=>o3 b\/b=w3.heap.size)=oV at *;generalize w3.alloc (.cells #[.bool qq,.string qy] 237)=wV at *;generalize w3.heap.size=T at *;refine eZ oT rfl aG rfl (v:=.agg #[.bool qq,.string qy]) (λwl bu=>by simp[go_sem,bu.cell.trans t0,bu.cell.trans t1]) (λwl bu x hx=>?_) ?_
   ·simp[go_sem,bu.cell.trans t0,bu.cell.trans t1]at hx;rcases hx with rfl|rfl<;>exact⟨_,_,_,rfl,rfl⟩
   walk_nrm;have hk4:k<=4:=aa;have hcv:Cl ak L0 oV (.agg #[.bool qq,.string qy]):=sB (vs:=[.bool qq,.string qy]) λu hu=>by
    simp at hu;rcases hu with rfl|rfl
    ·exact vE
    ·exact dH
   refine aal (us:=[.bool qq,.string qy]) Va Dz aa aa rfl (by intro u hu;simp at hu;rcases hu with rfl|rfl<;>rfl) Af rfl aa underlying234 hcv λy6 o6 w6 hA=>?_;have Lv:fW (λ_=>False) o w o6 w6:=⟨hA.bA.bS,λb hb=>hA.bA.more b (uk.more b hb),λb hb=>(hA.bA.new b hb).elim (λq=>uk.new b q) λq=>.inr (by have:=uk.size;omega),by have:=uk.size;have:=hA.bA.size;omega,λb hb hx=>(hA.bA.same b (by have:=uk.size;omega) (λq=>by have:=(Dz.lt b q).1;omega)).trans (uk.same b hb hx)⟩;have ug:=hA.row;clear hA Dz uk Va t0 t1 oT;refine aD ?_;exact⟨m-1,aa,k+1,aa,bQ,bQ,ax,ax,ax,ax,by simp[Act.eval,om],y6,ax,Lv,by rw[BH,wZ];exact ug⟩
 ·have rq:¬(k:Int)<(ls[i].ins.length:Int):=aa;have hke:k=ls[i].ins.length:=aa;rw[bz aa,hke]at row;subst ep;clear n1 n2 hke;refine aD ?_;refine kn hB c2 ?_;refine aD ?_;exact⟨.inr trivial,trivial,_,resultsC_tmp (t:=8) aG _,hW,by simpa[Act.eval] using row⟩
end
section
open Go.RowKit
def kx(a b:ag):Bool:=decide (Lib.compareBytes a.data.toList b.data.toList<0)
def vQ(a:ag)(k:Nat)(h:k<a.size):a.data.toList.drop k=a[k]::a.data.toList.drop (k+1):=by
 rw[dJ (by simpa using h)];rfl
def Ua{a b:ag}{k:Nat}(ha:k<a.size)(hb:k<b.size):Lib.compareBytes (a.data.toList.drop k) (b.data.toList.drop k)=if a[k]<b[k] then -1 else if b[k]<a[k] then 1 else Lib.compareBytes (a.data.toList.drop (k+1)) (b.data.toList.drop (k+1)):=by
 rw[vQ a k ha,vQ b k hb,Lib.compareBytes]
def DC(a:ag)(k:Nat)(h:a.size<=k):a.data.toList.drop k=[]:=dZ (by simpa using h)
def zk(a b:ag)(w:ae)(ha:a.size<=9223372036854775807)(hb:b.size<=9223372036854775807):Calls ak 180 #[.string a,.string b] w λe w'=>e=.returned (.bool (kx a b))/\∃n,w'=w.drewN n:=by
 go_enter func180,ntmps180;go_wp2;go_loopw [5] (λi w'=>∃k:Nat,k<=a.size/\k<=b.size/\i=.int .i64 k/\(∃n,w'=w.drewN n)/\kx a b=decide (Lib.compareBytes (a.data.toList.drop k) (b.data.toList.drop k)<0)) (λi _=>a.size-(intOf i).toNat)
 case atStart=>exact⟨0,aW _,aW _,rfl,⟨0,rfl⟩,rfl⟩
 case round =>
  obtain⟨k,hk1,XJ,rfl,⟨n,rfl⟩,hs⟩:=hrel;by_cases h1:k<a.size
  ·have h1I:(k:Int)<(a.size:Int):=aa;by_cases h2:k<b.size
   ·have h2I:(k:Int)<(b.size:Int):=aa;rw[Ua h1 h2]at hs;have om:IntKind.i64.wrap ((k:Int)+1)=((k+1:Nat):Int):=by rw[IntKind.wrap_i64]<;>omega
    by_cases he:a[k]=b[k]
    ·have heI:((a[k].toNat:Int)==(b[k].toNat:Int))=true:=by rw[he];simp
     have hi1:¬a[k]<b[k]:=by rw[he];exact iq _
     have hi2:¬b[k]<a[k]:=by rw[he];exact iq _
     rw[if_neg hi1,if_neg hi2]at hs;clear hi1 hi2;generalize a[k].toNat=x at *;generalize b[k].toNat=y at *;go_wp2
     go_quiet (fail)
     go_wp2;exact⟨⟨k+1,aa,aa,by go_num,⟨_,rfl⟩,hs⟩,by simp[intOf];omega⟩
    ·have fu:a[k].toNat≠b[k].toNat:=λq=>he (UInt8.toNat_inj.1 q);have heI:((a[k].toNat:Int)==(b[k].toNat:Int))=false:=by rw[dm];omega
     have rJ:kx a b=decide ((a[k].toNat:Int)<(b[k].toNat:Int)):=by
      rw[hs];by_cases hl:a[k]<b[k]
      ·have:=jf.1 hl;simp[hl];omega
      ·have h3:¬a[k].toNat<b[k].toNat:=λq=>hl (jf.2 q);have h4:b[k]<a[k]:=jf.2 aa;simp[hl,h4];omega
     clear hs fu he;go_wp2
     go_quiet (fail)
     go_wp2
     go_quiet (fail)
     go_wp2;go_ret;exact⟨by first|rfl|(simp[rJ];done),_,by rw[World.drewN_drewN,World.drewN_drewN]⟩
   ·have h2I:¬(k:Int)<(b.size:Int):=aa;rw[DC b k aa,vQ a k h1,Lib.compareBytes]at hs;have cR:¬(a.size:Int)<(b.size:Int):=aa;go_wp2;go_ret;exact⟨by first|rfl|(simp[hs];omega),_,rfl⟩
  ·have h1I:¬(k:Int)<(a.size:Int):=aa;have rJ:kx a b=decide (a.size<b.size):=by
    rw[hs,DC a k aa];by_cases h2:k<b.size
    ·rw[vQ b k h2,Lib.compareBytes];simp;omega
    ·rw[DC b k aa,Lib.compareBytes];simp;omega
   clear hs;go_wp2;go_ret;exact⟨by first|rfl|(simp[rJ];done),_,rfl⟩
end
end Go.Proofs.Kz
