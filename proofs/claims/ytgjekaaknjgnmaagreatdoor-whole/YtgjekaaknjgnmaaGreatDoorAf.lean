import Derived.Test.YtgjekaaknjgnmaaGreatDoorAe
import Derived.Deep.SlicePairs
import Derived.MakeChecks
import Derived.MapKept
import Derived.OpenShut
import Derived.Test.YtgjekaaknjgnmaaGreatDoorRows
import Derived.WideMake
set_option linter.all false
set_option maxHeartbeats 40000000
set_option maxRecDepth 200000
namespace Go.Proofs.Kz
open Go.Proofs.Tryz
open Go.Proofs.Tryz renaming prog → au
open _root_.ByteArray renaming empty → aP
open Go.Ren Go.Conc Go.Proofs Go.ConcN
section
variable {Fin:bL} {o:aN} {w:ae}
theorem wB.keep{lo:Nat}{NM:aJ->List af}{cu:List aJ}{St Or:Nat}{cO:Nat->Nat}{sv v:Value}{w w':ae}(h:wB lo NM cu St Or cO sv v w)(hz:w.heap.size<=w'.heap.size)(e:∀b,lo<=b->b<w.heap.size->w'.heap[b]?=w.heap[b]?):wB lo NM cu St Or cO sv v w' where
 val:=h.val
 steps:=jG h.steps (e St h.st.1 h.st.2) (fun s hs=>e _ (h.ib s hs) (h.steps.lt s hs)) hz
 ord:=World.rowIs.of_block h.ord (e Or h.or.1 h.or.2)
 src:=lB h.src (ag _) hz e
 st:=⟨h.st.1,by have:=h.st.2;omega⟩
 or:=⟨h.or.1,by have:=h.or.2;omega⟩
 ib:=h.ib
structure lK(o:aN)(w:ae)(p:Option Addr)(Ru c:Nat)(rs:List aJ)(NM:aJ->List af)(NB:aJ->Nat):Prop where
 gY:rs.length<=8
 ptr:rs≠[]->p=some ⟨Ru,0,none⟩
 own:o Ru
 at_:eX w Ru rs
 clr:∀r∈rs,Cl au L0 o (.slice r.sa r.sl r.sc)
 cl:Cl au L0 o (.slice p rs.length c)
 nm:∀r∈rs,r.sl=(NM r).length/\(NM r≠[]->r.sa=some ⟨NB r,0,none⟩/\o (NB r))/\fE w (NB r) 0 (NM r)/\(NM r).length<=4
theorem lK.keep{p:Option Addr}{Ru c:Nat}{rs:List aJ}{NM:aJ->List af}{NB:aJ->Nat}{o':aN}{w':ae}(h:lK o w p Ru c rs NM NB)(om:∀b,o b->o' b)(e0:w'.heap[Ru]?=w.heap[Ru]?)(e:∀r∈rs,NM r≠[]->w'.heap[NB r]?=w.heap[NB r]?):lK o' w' p Ru c rs NM NB where
 gY:=h.gY
 ptr:=h.ptr
 own:=om _ h.own
 at_:=hJ h.at_ e0
 clr r hr:=(h.clr r hr).up om
 cl:=h.cl.up om
 nm r hr:=by
  obtain⟨h1,h2,h3,h4⟩:=h.nm r hr;refine⟨h1,fun hn=>⟨(h2 hn).1,om _ (h2 hn).2⟩,fun k hk=>?_,h4⟩;have dJ:NM r≠[]:=fun e=>by rw[e] at hk;simp at hk
  exact dh h3 (e r hr dJ) k hk
def MI(o:aN)(w:ae)(rs:List aJ)(NM:aJ->List af)(v:Value)(o':aN)(w':ae):Prop :=
 fY o w v o' w'/\∃cu St Or cO sv,cu.Perm rs/\(∀i j (hi:i<cu.length) (hj:j<cu.length),i<j->¬qU cu[j] cu[i]<0)/\wB w.heap.size NM cu St Or cO sv v w'
theorem nY{w:ae}{b:Nat}{t:TypeId}{c0 c1 c2 c3 c4 c5 c6 c7:Value}(h:w.heap[b]?=some (.cells #[c0,c1,c2,c3,c4,c5,c6,c7] t)):w.cell? ⟨b,0,none⟩=some c0/\w.cell? ⟨b,1,none⟩=some c1/\w.cell? ⟨b,2,none⟩=some c2/\w.cell? ⟨b,3,none⟩=some c3/\w.cell? ⟨b,4,none⟩=some c4/\w.cell? ⟨b,5,none⟩=some c5/\w.cell? ⟨b,6,none⟩=some c6/\w.cell? ⟨b,7,none⟩=some c7/\∀k,w.frozen? ⟨b,k,none⟩=false:=by
 simp[World.cell?,World.frozen?,h]
abbrev K8(c0 c1 c2 c3 c4 c5 c6 c7:Value):Obj:=.cells #[c0,c1,c2,c3,c4,c5,c6,c7] 150
theorem WC(hF:bN au L0 o w)(bb bx Ru c:Nat)(p:Option Addr)(rs:List aJ)(NM:aJ->List af)(NB:aJ->Nat)(hR:lK o w p Ru c rs NM NB)(uO:o bb)(JD:o bx)(c1 c2 c3 c4 c5 c6 c7:Value)(hb:w.heap[bb]?=some (K8 (.slice p rs.length c) c1 c2 c3 c4 c5 c6 c7))(hx:w.cell? ⟨bx,0,none⟩=some (.pointer (some ⟨bb,0,none⟩))):
  bA au (XB au Fin 0) 111 #[.pointer (some ⟨bx,0,none⟩)] o w fun v o' w'=>v=.tuple #[]/\bN au L0 o' w'/\∃y0 y1 y2 w2,MI o w rs NM (.agg #[y0,y1,y2]) o' w2/\eK bb w2 w'/\w'.heap[bb]?=some (K8 (.slice p rs.length c) c1 c2 c3 y0 y1 y2 c7):=by
 have W:=bY (P:=au) (Fin:=Fin) (d:=0);refine bD W func111 ar ?_;bP Tryz.f111;have gB:=hF.lt uO;have hxw:=hF.lt JD;refine dS mixed ah [some (some (.pointer (some ⟨bb,0,none⟩))),some (some (.pointer (some ⟨bb,0,none⟩))),some none,some none,some (some (.slice p rs.length c)),none,some none,some none,none]
  (S:=fun σ o' w'=>(σ 8=none/\(o'=grow o w w'/\bN au L0 o' w'/\w.heap.size<=w'.heap.size/\(∀b,b<w.heap.size->w'.heap[b]?=w.heap[b]?))/\(σ 5=none->o'=o/\w'=w)/\∀y,σ 5=some y->MI o w rs NM y o' w') \/
   (σ 8≠none/\bN au L0 o' w'/\∃y0 y1 y2 w2,MI o w rs NM (.agg #[y0,y1,y2]) o' w2/\eK bb w2 w'/\w'.heap[bb]?=some (K8 (.slice p rs.length c) c1 c2 c3 y0 y1 y2 c7))) ?_ fun v=>?_
 ·exact .inl ⟨rfl,⟨(cd _ _).symm,hF,ag _,fun _ _=>rfl⟩,fun _=>⟨rfl,rfl⟩,fun y hy=>by cases hy⟩
 refine dR ?_
 iterate 2
  refine cq bS rfl rfl rfl ar ar (fun σ o' w' H hS=>?_) ?_
  ·rcases hS with⟨h8,⟨e1,e2,e3,e4⟩,-,-⟩|⟨h8,-⟩
   ·have mq:o' bx:=by rw[e1];exact .inl JD
    refine⟨e2,ng (bX mq),fun wl aU=>?_⟩;simp[go_sem,(aU.cell mq).trans ((cell_of (e4 _ hxw)).trans hx)]
   ·exact absurd (H.xz 8 ah) h8
 refine cE ?_;refine cq bS rfl rfl rfl ar ar (fun σ o' w' H hS=>?_) ?_
 ·rcases hS with⟨h8,⟨e1,e2,e3,e4⟩,-,-⟩|⟨h8,-⟩
  ·have mq:o' bb:=by rw[e1];exact .inl uO
   refine⟨e2,fun y hy=>?_,fun wl aU=>?_⟩
   ·simp[Op.operands] at hy;subst hy;simp[Act.eval];exact bX mq
   ·simp[go_sem,(aU.cell mq).trans ((cell_of (e4 _ gB)).trans (nY hb).1)]
  ·exact absurd (H.xz 8 ah) h8
 aE;refine vm rfl rfl ar rfl func112 ah rfl (av:=#[.slice p rs.length c]) aI (fun σ o' w' H h5 hS=>?_) ?_
 ·rcases hS with⟨h8,-,hS,-⟩|⟨h8,-⟩
  ·obtain⟨rfl,rfl⟩:=hS h5;refine(G6 hF Ru c p rs hR.gY hR.ptr hR.own hR.at_ hR.clr hR.cl NM NB hR.nm).mono fun y o2 w2 hq=>?_;refine .inl ⟨by simpa[fR] using h8,⟨hq.1.own,hq.1.aG,hq.1.size,hq.1.old⟩,fun h=>by simp[fR] at h,fun z hz=>?_⟩;simp only[fR,if_true,ay] at hz;subst hz;exact hq
  ·exact absurd (H.xz 8 ah) h8
 refine cE ?_;refine pS bS rfl rfl rfl ar ar (fun σ o' w' H h8 hS=>?_) ?_
 ·rcases hS with⟨-,⟨e1,e2,e3,e4⟩,-,h6⟩|⟨h8',-⟩
  ·have hq:=h6 _ (H.done 5 ah rfl);have Bm:=hq;obtain⟨N,cu,St,Or,cO,sv,-,-,hL⟩:=Bm;have oJ:=hL.val;generalize hol:(eE (mA NM cu) cu.length cu.length).length=ol at oJ;have mq:o' bb:=by rw[e1];exact .inl uO
   have nC:=(e4 bb gB).trans hb;refine⟨e2,fun y hy=>?_,fun wl aW=>aW=((wl.setCell ⟨bb,4,none⟩ (.slice (some ⟨St,0,none⟩) cu.length cu.length)).setCell ⟨bb,5,none⟩ (.slice (some ⟨Or,0,none⟩) ol cu.length)).setCell ⟨bb,6,none⟩ sv,fun wl aU=>⟨_,?_,rfl⟩,fun wl aW w2 aU hR' bO=>?_⟩
   ·simp[Op.operands] at hy;rcases hy with rfl|rfl
    ·simp[Act.eval];exact bX mq
    ·simp[Act.eval];exact N.cl
   ·obtain⟨-,-,-,-,d4,d5,d6,-,f⟩:=nY ((aU.heap _ mq).trans nC);have hs:=hL.src;rcases hs with⟨rfl,-⟩|⟨g,cap,rfl,-⟩
    ·simp[go_sem,oJ,d4,d5,d6,f]
    ·simp[go_sem,oJ,d4,d5,d6,f]
   ·have hO:eK bb wl aW:=by rw[hR'];exact uM _ _ _ _ _ _ _ _
    obtain⟨on,kb,eg⟩:=bO.only aU mq hO;have rV:=bO.aG;rw[eg] at rV |-;refine .inr ⟨by simp[fR],rV,_,_,_,w',oJ▸hq,on,?_⟩;rw[kb,hR'];simp[World.setCell,aS,(aU.heap _ mq).trans nC]
  ·exact absurd h8 h8'
 aE;refine cD fun σ o' w' mC hS=>?_;rcases hS with⟨h8,-⟩|⟨-,e1,e2⟩
 ·rw[mC 8 eA rfl] at h8;cases h8
 exact⟨.inl trivial,rfl,.tuple #[],fun w1=>results_none ah _ _,rfl,e1,e2⟩
theorem lK.lock{p:Option Addr}{Ru c bb:Nat}{rs:List aJ}{NM:aJ->List af}{NB:aJ->Nat}{w':ae}(h:lK o w p Ru c rs NM NB)(hO:eK bb w w')(h1:Ru≠bb)(h2:∀r∈rs,NM r≠[]->NB r≠bb):lK o w' p Ru c rs NM NB :=
 h.keep (fun _ hb=>hb) (hO.2 _ h1) fun r hr hn=>hO.2 _ (h2 r hr hn)
theorem aat{w:ae}{b:Nat}{t:TypeId}{c0 c1 c2 c3 c4 c5 c6 c7:Value}(h:w.heap[b]?=some (.cells #[c0,c1,c2,c3,c4,c5,c6,c7] t))(x:Value):(w.setCell ⟨b,1,none⟩ x).heap[b]?=some (.cells #[c0,x,c2,c3,c4,c5,c6,c7] t)/\(w.setCell ⟨b,2,none⟩ x).heap[b]?=some (.cells #[c0,c1,x,c3,c4,c5,c6,c7] t):=by
 simp[World.setCell,aS,h]
structure sW(o:aN)(w:ae)(bb:Nat)(rs:List aJ)(NM:aJ->List af)(blk:Value->Value->Value->Obj)(o':aN)(w':ae):Prop where
 aG:bN au L0 o' w'
 own:o'=grow o w w'
 size:w.heap.size<=w'.heap.size
 old:∀b,b<w.heap.size->b≠bb->w'.heap[b]?=w.heap[b]?
 lay:∃cu St Or cO sv y0 y1 y2,cu.Perm rs/\(∀i j (hi:i<cu.length) (hj:j<cu.length),i<j->¬qU cu[j] cu[i]<0)/\wB w.heap.size NM cu St Or cO sv (.agg #[y0,y1,y2]) w'/\w'.heap[bb]?=some (blk y0 y1 y2)
theorem TO(hF:bN au L0 o w)(bb bx Ru c:Nat)(p:Option Addr)(rs:List aJ)(NM:aJ->List af)(NB:aJ->Nat)(hR:lK o w p Ru c rs NM NB)(uO:o bb)(JD:o bx)(dJ:bx≠bb)(Wv:Ru≠bb)(hNn:∀r∈rs,NM r≠[]->NB r≠bb)(c3 c4 c5 c6 c7:Value)(hb:w.heap[bb]?=some (K8 (.slice p rs.length c) (.int .u32 0) (.int .i32 0) c3 c4 c5 c6 c7))(hx:w.cell? ⟨bx,0,none⟩=some (.pointer (some ⟨bb,0,none⟩))):
  bA au (XB au Fin 0) 143 #[.pointer (some ⟨bb,1,none⟩),.func (.func 111) #[] #[.pointer (some ⟨bx,0,none⟩)]] o w fun v o' w'=>v=.tuple #[]/\sW o w bb rs NM (fun y0 y1 y2=>K8 (.slice p rs.length c) (.int .u32 1) (.int .i32 0) c3 y0 y1 y2 c7) o' w':=by
 have W:=bY (P:=au) (Fin:=Fin) (d:=0);refine oQ W func143 ar ?_;bP Tryz.f143;obtain⟨-,d1,d2,-,-,-,-,-,fz⟩:=nY hb;refine ax ?_;refine cj func45 (CZ bb 2 uO d2 (fz 2)) ?_;rintro v1 o1 w1 ⟨rfl,rfl,rfl⟩;refine ax ?_;refine mw W (d:={target:=.fn (.func 46) #[],args:=#[.pointer (some ⟨bb,2,none⟩)]}) rfl ar (fun w1=>fU) (fun w1=>fU) rfl ?_;refine ax ?_;have By:=(aat hb (.int .i32 1)).2;have lD:bN au L0 o1 (w.setCell ⟨bb,2,none⟩ (.int .i32 1)):=Go.Conc.bN.setCell hF dU;have hO1:eK bb w (w.setCell ⟨bb,2,none⟩ (.int .i32 1)):=je _ _ _ _;generalize w.setCell ⟨bb,2,none⟩ (.int .i32 1)=w1 at *;refine cj func142 (xm bb 1 0 (nY By).2.1) ?_;rintro v2 o2 w2 ⟨rfl,rfl,rfl⟩;refine ax ?_;refine mw W (d:={target:=.fn (.func 183) #[],args:=#[.pointer (some ⟨bb,1,none⟩),.bool true]}) rfl ar (fun w1=>fU) (fun w1=>fU) rfl ?_;refine ax ?_;refine Mc W rfl ar rfl (cap:=#[.pointer (some ⟨bx,0,none⟩)]) aI func111 ah rfl aI rfl ((WC lD bb bx Ru c p rs NM NB (hR.lock hO1 Wv hNn) uO JD (.int .u32 0) (.int .i32 1) c3 c4 c5 c6 c7 By ((cell_of (hO1.2 _ dJ)).trans hx)).mono ?_);rintro v3 o3 w3 ⟨rfl,pE,y0,y1,y2,w4,⟨N,cu,St,Or,cO,sv,h1,h2,hL⟩,hO3,xA⟩;refine ax ?_;have hz:=N.size;have Wd:=hO1.1;have hz3:=hO3.1;have Va:=hF.lt uO;have aie:o3 bb:=by rw[N.own];exact .inl uO
 obtain⟨-,k1,k2,-,-,-,-,-,kf⟩:=nY xA;have hb4:=(aat xA (.int .u32 1)).1;have hb5:=(aat hb4 (.int .i32 0)).2;have hO5:eK bb w3 ((w3.setCell ⟨bb,1,none⟩ (.int .u32 1)).setCell ⟨bb,2,none⟩ (.int .i32 0)):=AG _ _ _ _ _ _;have FA:bN au L0 o3 ((w3.setCell ⟨bb,1,none⟩ (.int .u32 1)).setCell ⟨bb,2,none⟩ (.int .i32 0)):=Go.Conc.bN.setCell (Go.Conc.bN.setCell pE dU) dU;refine⟨.inl trivial,MH bb 1 0 k1 (kf 1) pE _ _ (wD bb 2 aie (nY hb4).2.2.1 ((nY hb4).2.2.2.2.2.2.2.2 2) _ _ (mr W func143 rfl (v:=.tuple #[]) (fun w1=>results_none ah _ _) ⟨rfl,FA,?_,?_,fun b nC hn=>?_,cu,St,Or,cO,sv,y0,y1,y2,h1,h2,?_,hb5⟩))⟩
 ·rw[N.own];unfold grow;rw[hO5.1,hz3,Wd]
 ·rw[hO5.1];omega
 ·rw[hO5.2 b hn,hO3.2 b hn,N.old b aa,hO1.2 b hn]
 ·rw[Wd] at hL;exact hL.keep (by rw[hO5.1];omega) fun b By pH=>by rw[hO5.2 b aa,hO3.2 b aa]
theorem aih(hF:bN au L0 o w)(bb bx Ru c:Nat)(p:Option Addr)(rs:List aJ)(NM:aJ->List af)(NB:aJ->Nat)(hR:lK o w p Ru c rs NM NB)(uO:o bb)(JD:o bx)(dJ:bx≠bb)(Wv:Ru≠bb)(hNn:∀r∈rs,NM r≠[]->NB r≠bb)(c3 c4 c5 c6 c7:Value)(hb:w.heap[bb]?=some (K8 (.slice p rs.length c) (.int .u32 0) (.int .i32 0) c3 c4 c5 c6 c7))(hx:w.cell? ⟨bx,0,none⟩=some (.pointer (some ⟨bb,0,none⟩))):
  bA au (XB au Fin 0) 110 #[.pointer (some ⟨bb,1,none⟩),.func (.func 111) #[] #[.pointer (some ⟨bx,0,none⟩)]] o w fun v o' w'=>v=.tuple #[]/\sW o w bb rs NM (fun y0 y1 y2=>K8 (.slice p rs.length c) (.int .u32 1) (.int .i32 0) c3 y0 y1 y2 c7) o' w':=by
 have W:=bY (P:=au) (Fin:=Fin) (d:=0);refine bD W func110 ar ?_;bP Tryz.f110;refine ax ?_;refine cj func142 (xm bb 1 0 (nY hb).2.1) ?_;rintro v2 o2 w2 ⟨rfl,rfl,rfl⟩;refine ax ?_;refine cj func143 (TO hF bb bx Ru c p rs NM NB hR uO JD dJ Wv hNn c3 c4 c5 c6 c7 hb hx) ?_;rintro v3 o3 w3 ⟨rfl,hP⟩;refine ax ?_;exact⟨.inl trivial,trivial,.tuple #[],fun w1=>results_none ah _ _,rfl,hP⟩
theorem WE(bb:Nat)(f c0 c2 c3 c4 c5 c6 c7:Value)(hb:w.heap[bb]?=some (K8 c0 (.int .u32 1) c2 c3 c4 c5 c6 c7)):
  bA au (XB au Fin 0) 110 #[.pointer (some ⟨bb,1,none⟩),f] o w fun v o' w'=>v=.tuple #[]/\o'=o/\w'=w:=by
 have W:=bY (P:=au) (Fin:=Fin) (d:=0);refine bD W func110 ar ?_;bP Tryz.f110;refine ax ?_;refine cj func142 (xm bb 1 1 (nY hb).2.1) ?_;rintro v2 o2 w2 ⟨rfl,rfl,rfl⟩;refine ax ?_;exact⟨.inl trivial,trivial,.tuple #[],fun w1=>results_none ah _ _,aj⟩
theorem wB.low{lo TJ:Nat}{NM:aJ->List af}{cu:List aJ}{St Or:Nat}{cO:Nat->Nat}{sv v:Value}{w:ae}(h:wB lo NM cu St Or cO sv v w)(hl:TJ<=lo):wB TJ NM cu St Or cO sv v w where
 val:=h.val
 steps:=h.steps
 ord:=h.ord
 src:=lB h.src hl (ag _) fun _ _ _=>rfl
 st:=⟨by have:=h.st.1;omega,h.st.2⟩
 or:=⟨by have:=h.or.1;omega,h.or.2⟩
 ib s hs:=by have:=h.ib s hs;omega
theorem sW.after{w1:ae}{bb:Nat}{rs:List aJ}{NM:aJ->List af}{blk:Value->Value->Value->Obj}{o':aN}{w':ae}(h:sW (grow o w w1) w1 bb rs NM blk o' w')(hz:w.heap.size<=w1.heap.size)(hold:∀b,b<w.heap.size->w1.heap[b]?=w.heap[b]?):sW o w bb rs NM blk o' w' where
 aG:=h.aG
 own:=by rw[h.own];exact grow_grow hz rfl h.size
 size:=by have:=h.size;omega
 old b hb hn:=(h.old b aa hn).trans (hold b hb)
 lay:=by
  obtain⟨cu,St,Or,cO,sv,y0,y1,y2,h1,h2,h3,h4⟩:=h.lay;exact⟨cu,St,Or,cO,sv,y0,y1,y2,h1,h2,h3.low hz,h4⟩
theorem MJ(hF:bN au L0 o w)(bb Ru c:Nat)(p:Option Addr)(rs:List aJ)(NM:aJ->List af)(NB:aJ->Nat)(hR:lK o w p Ru c rs NM NB)(uO:o bb)(Wv:Ru≠bb)(hNn:∀r∈rs,NM r≠[]->NB r≠bb)(c3 c4 c5 c6 c7:Value)(hb:w.heap[bb]?=some (K8 (.slice p rs.length c) (.int .u32 0) (.int .i32 0) c3 c4 c5 c6 c7)):
  bA au (XB au Fin 0) 73 #[.pointer (some ⟨bb,0,none⟩)] o w fun v o' w'=>v=.pointer (some ⟨bb,4,none⟩)/\sW o w bb rs NM (fun y0 y1 y2=>K8 (.slice p rs.length c) (.int .u32 1) (.int .i32 0) c3 y0 y1 y2 c7) o' w':=by
 have W:=bY (P:=au) (Fin:=Fin) (d:=0);refine bD W func73 ar ?_;bP Tryz.f73;refine ax ?_;refine dv bS hF rfl ar ar ?_ rfl (R:=fun wl v aW=>v=.pointer (some ⟨wl.heap.size,0,none⟩)/\aW=wl.alloc (Obj.cells #[.pointer (some ⟨bb,0,none⟩)] 208)) (fun wl aU=>⟨_,_,fU,rfl,rfl⟩) fun wl v1 aW w1 aU K7 bO=>?_
 ·exact ng (bX uO)
 obtain⟨rfl,K7⟩:=K7;obtain⟨z1,k1,tN⟩:=bO.alloc hF aU K7;have lD:=bO.aG;rw[aU.size];clear K7 bO aU wl aW;have gB:=hF.lt uO;have xx:grow o w w1 w.heap.size:=.inr ⟨ag _,aa⟩;refine ax ?_;have JD:=(C9 tN).1;refine lz lD xx JD fun _=>?_;refine ax ?_;have hR':lK (grow o w w1) w1 p Ru c rs NM NB:=hR.keep jr (k1 _ (hF.lt hR.own)) fun r hr hn=>k1 _ (hF.lt ((hR.nm r hr).2.1 hn).2);refine cj func110 (aih lD bb w.heap.size Ru c p rs NM NB hR' (.inl uO) xx aa Wv hNn c3 c4 c5 c6 c7 ((k1 _ gB).trans hb) JD) ?_;rintro v2 o2 w2 ⟨rfl,hP⟩;refine ax ?_;have hx2:o2 w.heap.size:=by rw[hP.own];exact .inl xx
 have aii:=(cell_of (a:=⟨w.heap.size,0,none⟩) (hP.old w.heap.size aa aa)).trans JD;refine lz hP.aG hx2 aii fun _=>?_;refine ax ?_;exact⟨.inr trivial,trivial,_,resultsC_tmp (t:=2) ar _,aI,hP.after aa k1⟩
theorem Dd(hF:bN au L0 o w)(bb:Nat)(uO:o bb)(c0 c2 c3 c4 c5 c6 c7:Value)(hb:w.heap[bb]?=some (K8 c0 (.int .u32 1) c2 c3 c4 c5 c6 c7)):
  bA au (XB au Fin 0) 73 #[.pointer (some ⟨bb,0,none⟩)] o w fun v o' w'=>v=.pointer (some ⟨bb,4,none⟩)/\fY o w v o' w':=by
 have W:=bY (P:=au) (Fin:=Fin) (d:=0);refine bD W func73 ar ?_;bP Tryz.f73;refine ax ?_;refine dv bS hF rfl ar ar ?_ rfl (R:=fun wl v aW=>v=.pointer (some ⟨wl.heap.size,0,none⟩)/\aW=wl.alloc (Obj.cells #[.pointer (some ⟨bb,0,none⟩)] 208)) (fun wl aU=>⟨_,_,fU,rfl,rfl⟩) fun wl v1 aW w1 aU K7 bO=>?_
 ·exact ng (bX uO)
 obtain⟨rfl,K7⟩:=K7;obtain⟨z1,k1,tN⟩:=bO.alloc hF aU K7;have lD:=bO.aG;rw[aU.size];clear K7 bO aU wl aW;have gB:=hF.lt uO;have xx:grow o w w1 w.heap.size:=.inr ⟨ag _,aa⟩;refine ax ?_;have JD:=(C9 tN).1;refine lz lD xx JD fun _=>?_;refine ax ?_;refine cj func110 (WE bb (.func (.func 111) #[] #[.pointer (some ⟨w.heap.size,0,none⟩)]) c0 c2 c3 c4 c5 c6 c7 ((k1 _ gB).trans hb)) ?_;rintro v2 o2 w2 ⟨rfl,rfl,rfl⟩;refine ax ?_;refine lz lD xx JD fun _=>?_;refine ax ?_;exact⟨.inr trivial,trivial,_,resultsC_tmp (t:=2) ar _,aI,rfl,lD,aa,k1,by simp[Act.eval];exact bX (.inl uO)⟩
theorem Qy:(au.info? 4).map (fun i=>(i.zero,i.size,i.bytes))=some (some (.bool false),1,1):=ah
theorem Qz:(au.info? 207).map (fun i=>(i.zero,i.size,i.bytes))=some (some (.chan none),1,8):=ah
theorem QA:(au.info? 100).map (fun i=>i.bytes)=some 0:=ah
theorem De(w:ae)(n:Nat)(hn:n<=100000):(Instr.makeSlice 182 (.int .i64 (n:Int)) (.int .i64 (n:Int))).run au w=.ok (.slice (some ⟨w.heap.size,0,none⟩) n n) (w.alloc (.cells (madeCells #[.bool false] n) 4)):=by
 obtain⟨i,hi,hz⟩:=Option.map_eq_some_iff.1 Qy;simp only[bu] at hz;obtain⟨hz,hs,hb⟩:=hz;have:=run_make (P:=au) w 182 4 i _ underlying182 hi hz .i64 .i64 n n aa (fP _) (by rw[hb];omega) aa;rw[this,hs];simp[Value.cells]
theorem Df(w:ae)(n:Nat)(hn:n<=100000):(Instr.makeSlice 204 (.int .i64 (n:Int)) (.int .i64 (n:Int))).run au w=.ok (.slice (some ⟨w.heap.size,0,none⟩) n n) (w.alloc (.cells (madeCells #[.chan none] n) 207)):=by
 obtain⟨i,hi,hz⟩:=Option.map_eq_some_iff.1 Qz;simp only[bu] at hz;obtain⟨hz,hs,hb⟩:=hz;have:=run_make (P:=au) w 204 207 i _ underlying204 hi hz .i64 .i64 n n aa (fP _) (by rw[hb];omega) aa;rw[this,hs];simp[Value.cells]
theorem Ez(w:ae):(Instr.makeChan 207 (.int .i64 0)).run au w=.ok (.chan (some w.heap.size)) (w.alloc (.chan 0 #[] false 0 0 false)):=by
 obtain⟨i,hi,hb⟩:=Option.map_eq_some_iff.1 QA;exact run_makeChan underlying207 hi .i64 0 aa (by rw[hb];omega)
structure jY(o:aN)(w:ae)(v0 v1 v2:Value)(n:Nat)(bn Nb Mb:Nat)(ch:Nat->Nat)(k:Nat)(o':aN)(w':ae):Prop where
 own:o'=grow o w w'
 aG:bN au L0 o' w'
 size:w.heap.size<=w'.heap.size
 old:∀b,b<w.heap.size->w'.heap[b]?=w.heap[b]?
 bn:w.heap.size<=bn/\bn<w'.heap.size/\w'.heap[bn]?=some (.cells #[v0,v1,v2,.slice (some ⟨Nb,0,none⟩) n n,.slice (some ⟨Mb,0,none⟩) n n] 206)
 nb:w.heap.size<=Nb/\Nb<w'.heap.size/\w'.heap[Nb]?=some (.cells (madeCells #[.bool false] n) 4)
 mb:w.heap.size<=Mb/\Mb<w'.heap.size/\w'.rowIs Mb 207 n (fun j=>if j<k then .chan (some (ch j)) else .chan none)
 pC:∀s,s<k->w.heap.size<=ch s/\ch s<w'.heap.size/\w'.heap[ch s]?=some (.chan 0 #[] false 0 0 false)
 inj:∀s t,s<k->t<k->ch s=ch t->s=t
theorem jY.more{v0 v1 v2:Value}{n bn Nb Mb k:Nat}{ch:Nat->Nat}{o':aN}{w' w2:ae}(h:jY o w v0 v1 v2 n bn Nb Mb ch k o' w')(hF:bN au L0 (grow o' w' w2) w2)(hz:w'.heap.size<=w2.heap.size)(hold:∀b,b<w'.heap.size->w2.heap[b]?=w'.heap[b]?):jY o w v0 v1 v2 n bn Nb Mb ch k (grow o' w' w2) w2 where
 own:=by rw[h.own];exact grow_grow h.size rfl hz
 aG:=hF
 size:=by have:=h.size;omega
 old b hb:=(hold b (by have:=h.size;omega)).trans (h.old b hb)
 bn:=⟨h.bn.1,by have:=h.bn.2.1;omega,(hold _ h.bn.2.1).trans h.bn.2.2⟩
 nb:=⟨h.nb.1,by have:=h.nb.2.1;omega,(hold _ h.nb.2.1).trans h.nb.2.2⟩
 mb:=⟨h.mb.1,by have:=h.mb.2.1;omega,World.rowIs.of_block h.mb.2.2 (hold _ h.mb.2.1)⟩
 pC s hs:=⟨(h.pC s hs).1,by have:=(h.pC s hs).2.1;omega,(hold _ (h.pC s hs).2.1).trans (h.pC s hs).2.2⟩
 inj:=h.inj
theorem jY.put{v0 v1 v2:Value}{n bn Nb Mb k c:Nat}{ch:Nat->Nat}{o':aN}{w' w2:ae}(h:jY o w v0 v1 v2 n bn Nb Mb ch k o' w')(hF:bN au L0 o' w2)(on:eK Mb w' w2)(hM:w2.heap[Mb]?=(w'.setCell ⟨Mb,k,none⟩ (.chan (some c))).heap[Mb]?)(hc:w.heap.size<=c/\c<w'.heap.size/\w'.heap[c]?=some (.chan 0 #[] false 0 0 false))(vU:∀s,s<k->ch s≠c):jY o w v0 v1 v2 n bn Nb Mb (fun s=>if s=k then c else ch s) (k+1) o' w2:=by
 have hMb:=h.mb.2.2;obtain⟨cs,Pd,-,-⟩:=hMb;have nM:∀b x,w'.heap[b]?=some x->(∀c t z,x=.cells c t z->t≠207)->b≠Mb:=fun b x hx ht e=>by
  subst e;rw[Pd] at hx;exact ht _ _ _ (aR hx).symm rfl
 refine⟨?_,hF,by have:=h.size;rw[on.1];exact this,fun b hb=>(on.2 b (by have:=h.mb.1;omega)).trans (h.old b hb),⟨h.bn.1,by rw[on.1];exact h.bn.2.1,?_⟩,⟨h.nb.1,by rw[on.1];exact h.nb.2.1,?_⟩,⟨h.mb.1,by rw[on.1];exact h.mb.2.1,?_⟩,fun s hs=>?_,fun s t hs ht e=>?_⟩
 ·rw[h.own];unfold grow;rw[on.1]
 ·rw[on.2 _ (nM _ _ h.bn.2.2 fun c t z e=>by cases e;decide)];exact h.bn.2.2
 ·rw[on.2 _ (nM _ _ h.nb.2.2 fun c t z e=>by cases e;decide)];exact h.nb.2.2
 ·refine World.rowIs.of_block ((h.mb.2.2.set k (.chan (some c))).congr fun j hj=>?_) hM;by_cases e:j=k
  ·subst e;simp
  ·by_cases e':j<k
   ·rw[if_neg e,if_pos e',if_pos aa,if_neg e]
   ·rw[if_neg e,if_neg e',if_neg aa]
 ·by_cases e:s=k
  ·subst e;simp only[if_true];exact⟨hc.1,by rw[on.1];exact hc.2.1,by rw[on.2 _ (nM _ _ hc.2.2 fun c t z e=>by cases e)];exact hc.2.2⟩
  ·simp only[if_neg e];have q:=h.pC s aa;exact⟨q.1,by rw[on.1];exact q.2.1,by rw[on.2 _ (nM _ _ q.2.2 fun c t z e=>by cases e)];exact q.2.2⟩
 ·by_cases e1:s=k
  ·by_cases e2:t=k
   ·omega
   ·rw[if_pos e1,if_neg e2] at e;exact absurd e.symm (vU t aa)
  ·by_cases e2:t=k
   ·rw[if_neg e1,if_pos e2] at e;exact absurd e (vU s aa)
   ·rw[if_neg e1,if_neg e2] at e;exact h.inj s t aa aa e
structure aik(o:aN)(w:ae)(v0 v1 v2:Value)(n bn Nb Mb k:Nat)(a:Act)(o':aN)(w':ae):Prop where
 size:a.tmps.size=37
 df:a.defers=[]
 t7:a.eval (.tmp 7)=.pointer (some ⟨bn,0,none⟩)
 t24:a.eval (.tmp 24)=.int .i64 n
 t25:a.eval (.tmp 25)=.int .i64 k
 new:∃ch,jY o w v0 v1 v2 n bn Nb Mb ch k o' w'
theorem Dg{w:ae}{b:Nat}{t:TypeId}{c0 c1 c2 c3 c4:Value}(h:w.heap[b]?=some (.cells #[c0,c1,c2,c3,c4] t)):w.cell? ⟨b,0,none⟩=some c0/\w.cell? ⟨b,1,none⟩=some c1/\w.cell? ⟨b,2,none⟩=some c2/\w.cell? ⟨b,3,none⟩=some c3/\w.cell? ⟨b,4,none⟩=some c4/\∀k,w.frozen? ⟨b,k,none⟩=false:=by
 simp[World.cell?,World.frozen?,h]
theorem MK(hF:bN au L0 o w)(Lb Lo Vb nv Rb n:Nat)(hn:n<=1000)(hLb:o Lb)(Yu:o Vb)(JL:o Rb):
  bA au (XB au Fin 0) 72 #[.pointer (some ⟨Lb,Lo,none⟩),.slice (some ⟨Vb,0,none⟩) nv nv,.slice (some ⟨Rb,0,none⟩) n n] o w fun v o' w'=>∃bn Nb Mb ch,v=.pointer (some ⟨bn,0,none⟩)/\jY o w (.pointer (some ⟨Lb,Lo,none⟩)) (.slice (some ⟨Vb,0,none⟩) nv nv) (.slice (some ⟨Rb,0,none⟩) n n) n bn Nb Mb ch n o' w':=by
 have W:=bY (P:=au) (Fin:=Fin) (d:=0);refine bD W func72 ar ?_;bP Tryz.f72;refine ax ?_;refine dS mixed ah [some none,some none,some none,some none,some none,none,some none,some none,none,some none,none,some none]
  (S:=fun σ o' w'=>(o'=grow o w w'/\bN au L0 o' w'/\w.heap.size<=w'.heap.size/\(∀b,b<w.heap.size->w'.heap[b]?=w.heap[b]?)) /\
   (∀y,σ 5=some y->∃Nb,y=.slice (some ⟨Nb,0,none⟩) n n/\w.heap.size<=Nb/\Nb<w'.heap.size/\w'.heap[Nb]?=some (.cells (madeCells #[.bool false] n) 4)) /\
   (∀y,σ 8=some y->∃Mb,y=.slice (some ⟨Mb,0,none⟩) n n/\w.heap.size<=Mb/\Mb<w'.heap.size/\w'.heap[Mb]?=some (.cells (madeCells #[.chan none] n) 207)) /\
   (∀y,σ 10=some y->∃bn y5 y8,σ 5=some y5/\σ 8=some y8/\y=.pointer (some ⟨bn,0,none⟩)/\w.heap.size<=bn/\bn<w'.heap.size/\w'.heap[bn]?=some (.cells #[.pointer (some ⟨Lb,Lo,none⟩),.slice (some ⟨Vb,0,none⟩) nv nv,.slice (some ⟨Rb,0,none⟩) n n,y5,y8] 206))) ?_ fun v=>?_
 ·exact⟨⟨(cd _ _).symm,hF,ag _,fun _ _=>rfl⟩,fun y hy=>(by cases hy),fun y hy=>(by cases hy),fun y hy=>(by cases hy)⟩
 refine dR ?_;refine cE ?_;refine qu bS rfl rfl rfl ar ar (fun σ o' w' H hj hS=>?_) ?_
 ·obtain⟨⟨e1,e2,e3,e4⟩,s5,s8,ML⟩:=hS;refine⟨e2,fun y hy=>?_,fun wl v aW=>v=.slice (some ⟨wl.heap.size,0,none⟩) n n/\aW=wl.alloc (.cells (madeCells #[.bool false] n) 4),fun wl aU=>⟨_,_,by simp[go_sem,De wl n aa],rfl,rfl⟩,fun wl y aW w2 aU hR bO=>?_⟩
  ·simp[Op.operands] at hy;subst hy;simp[Act.eval];exact dU
  ·obtain⟨rfl,hR⟩:=hR;obtain⟨z1,k1,tN⟩:=bO.alloc e2 aU hR;have nH:σ 10=none:=by
    cases h:σ 10 with
    |none=>rfl
    |some y=>obtain⟨_,y5,y8,q5,q8,_⟩:=ML y h;rw[hj] at q5;cases q5
   rw[aU.size];refine⟨⟨by rw[e1];exact grow_grow e3 rfl aa,bO.aG,aa,fun b hb=>(k1 b aa).trans (e4 b hb)⟩,fun y hy=>?_,fun y hy=>?_,fun y hy=>?_⟩
   ·simp only[fR,if_true,ay] at hy;exact⟨w'.heap.size,hy.symm,e3,aa,tN⟩
   ·simp only[fR,show ¬(8=5) by omega,if_false] at hy;obtain⟨b,q1,q2,q3,q4⟩:=s8 y hy;exact⟨b,q1,q2,aa,(k1 b q3).trans q4⟩
   ·simp[fR,nH] at hy
 refine cE ?_;refine qu bS rfl rfl rfl ar ar (fun σ o' w' H hj hS=>?_) ?_
 ·obtain⟨⟨e1,e2,e3,e4⟩,s5,s8,ML⟩:=hS;refine⟨e2,fun y hy=>?_,fun wl v aW=>v=.slice (some ⟨wl.heap.size,0,none⟩) n n/\aW=wl.alloc (.cells (madeCells #[.chan none] n) 207),fun wl aU=>⟨_,_,by simp[go_sem,Df wl n aa],rfl,rfl⟩,fun wl y aW w2 aU hR bO=>?_⟩
  ·simp[Op.operands] at hy;subst hy;simp[Act.eval];exact dU
  ·obtain⟨rfl,hR⟩:=hR;obtain⟨z1,k1,tN⟩:=bO.alloc e2 aU hR;have nH:σ 10=none:=by
    cases h:σ 10 with
    |none=>rfl
    |some y=>obtain⟨_,y5,y8,q5,q8,_⟩:=ML y h;rw[hj] at q8;cases q8
   rw[aU.size];refine⟨⟨by rw[e1];exact grow_grow e3 rfl aa,bO.aG,aa,fun b hb=>(k1 b aa).trans (e4 b hb)⟩,fun y hy=>?_,fun y hy=>?_,fun y hy=>?_⟩
   ·simp only[fR,show ¬(5=8) by omega,if_false] at hy;obtain⟨b,q1,q2,q3,q4⟩:=s5 y hy;exact⟨b,q1,q2,aa,(k1 b q3).trans q4⟩
   ·simp only[fR,if_true,ay] at hy;exact⟨w'.heap.size,hy.symm,e3,aa,tN⟩
   ·simp[fR,nH] at hy
 aE;refine yq ((∃x,v 5=.slice x n n)/\∃x,v 8=.slice x n n) (.agg #[.pointer (some ⟨Lb,Lo,none⟩),.slice (some ⟨Vb,0,none⟩) nv nv,.slice (some ⟨Rb,0,none⟩) n n,v 5,v 8]) rfl rfl rfl ar (fun σ o' w' H hS=>?_) (fun hv w1=>?_) (fun hv w1=>?_) fun y9 hy9=>?_
 ·obtain⟨Nb,q1,-⟩:=hS.2.1 _ (H.done 5 ah rfl);obtain⟨Mb,q2,-⟩:=hS.2.2.1 _ (H.done 8 ah rfl);exact⟨⟨_,q1⟩,_,q2⟩
 ·obtain⟨⟨x,hx⟩,y,hy⟩:=hv;simp[go_sem,Act.eval,hx,hy]
 ·obtain⟨⟨x,hx⟩,y,hy⟩:=hv;simp[go_sem,Act.eval,hx,hy]
 aE;refine qu bS rfl rfl rfl ar ar (fun σ o' w' H hj hS=>?_) ?_
 ·have d5:=H.Ja [9] 5 ah rfl;have d8:=H.Ja [9] 8 ah rfl;obtain⟨⟨e1,e2,e3,e4⟩,s5,s8,ML⟩:=hS;obtain⟨Nb,q1,q2,q3,q4⟩:=s5 _ d5;obtain⟨Mb,r1,r2,r3,r4⟩:=s8 _ d8;have hy:=hy9 ⟨⟨_,q1⟩,_,r1⟩;have up:∀b,o b->o' b:=fun b hb=>by rw[e1];exact .inl hb
  have WG:o' Nb:=by rw[e1];exact .inr ⟨q2,q3⟩
  have hMb:o' Mb:=by rw[e1];exact .inr ⟨r2,r3⟩
  refine⟨e2,fun y Oi=>?_,fun wl y aW=>y=.pointer (some ⟨wl.heap.size,0,none⟩)/\aW=wl.alloc (.cells #[.pointer (some ⟨Lb,Lo,none⟩),.slice (some ⟨Vb,0,none⟩) nv nv,.slice (some ⟨Rb,0,none⟩) n n,v 5,v 8] 206),fun wl aU=>⟨_,_,by rw[q1,r1] at hy;simp[go_sem,hy,q1,r1],rfl,rfl⟩,fun wl y aW w2 aU hR bO=>?_⟩
  ·simp[Op.operands] at Oi;subst Oi;simp[Act.eval];rw[hy,q1,r1];exact fX (vs:=[_,_,_,_,_]) (fun x hx=>by
    simp at hx;rcases hx with rfl|rfl|rfl|rfl|rfl
    ·exact bX (up _ hLb)
    ·exact ee (up _ Yu)
    ·exact ee (up _ JL)
    ·exact ee WG
    ·exact ee hMb)
  ·obtain⟨rfl,hR⟩:=hR;obtain⟨z1,k1,tN⟩:=bO.alloc e2 aU hR;rw[aU.size];refine⟨⟨by rw[e1];exact grow_grow e3 rfl aa,bO.aG,aa,fun b hb=>(k1 b aa).trans (e4 b hb)⟩,fun y hy=>?_,fun y hy=>?_,fun y hy=>?_⟩
   ·simp only[fR,show ¬(5=10) by omega,if_false] at hy;obtain⟨b,q1,q2,q3,q4⟩:=s5 y hy;exact⟨b,q1,q2,aa,(k1 b q3).trans q4⟩
   ·simp only[fR,show ¬(8=10) by omega,if_false] at hy;obtain⟨b,q1,q2,q3,q4⟩:=s8 y hy;exact⟨b,q1,q2,aa,(k1 b q3).trans q4⟩
   ·simp only[fR,if_true,ay] at hy;exact⟨w'.heap.size,v 5,v 8,by simpa[fR] using d5,by simpa[fR] using d8,hy.symm,e3,aa,tN⟩
 refine cE ?_;refine cD fun σ o1 w1 mC hS=>?_;obtain⟨⟨e1,e2,e3,e4⟩,s5,s8,ML⟩:=hS;obtain⟨bn,y5,y8,t5,t8,Yv,b1,b2,b3⟩:=ML _ (mC 10 eA rfl);obtain⟨Nb,rfl,n1,n2,n3⟩:=s5 _ t5;obtain⟨Mb,rfl,m1,m2,m3⟩:=s8 _ t8;rw[Yv];have hB:jY o w (.pointer (some ⟨Lb,Lo,none⟩)) (.slice (some ⟨Vb,0,none⟩) nv nv) (.slice (some ⟨Rb,0,none⟩) n n) n bn Nb Mb (fun _=>0) 0 o1 w1 :=
  ⟨e1,e2,e3,e4,⟨b1,b2,b3⟩,⟨n1,n2,n3⟩,⟨m1,m2,⟨_,m3,by simp[size_madeCells],fun j hj=>by simp[madeCells,hj,Nat.mod_one]⟩⟩,fun s hs=>aa,fun s t hs=>aa⟩
 clear s5 s8 ML t5 t8 mC Yv e1 e2 e3 e4 b1 b2 b3 n1 n2 n3 m1 m2 m3;have aau:o1 bn:=by rw[hB.own];exact .inr ⟨hB.bn.1,hB.bn.2.1⟩
 simp only[iM,dK,if_true,if_false,reduceIte,Nat.reduceEqDiff];refine ax ?_;obtain⟨-,-,-,-,c4,-⟩:=Dg hB.bn.2.2;refine lz hB.aG aau c4 fun _=>?_;refine ax ?_;refine iQ W (fun m a o' w'=>∃k,m+k=n/\aik o w (.pointer (some ⟨Lb,Lo,none⟩)) (.slice (some ⟨Vb,0,none⟩) nv nv) (.slice (some ⟨Rb,0,none⟩) n n) n bn Nb Mb k a o' w') (N:=n) ⟨0,aj,rfl,rfl,aI,aI,aI,_,hB⟩ ?_;clear hB c4 aau hy9;rintro m a o1 w1 ⟨k,Jq,fJ,kZ,i7,i24,i25,ch,hB⟩;obtain⟨gs,rfl⟩:=iJ fJ kZ;clear fJ kZ;simp only[List.range,List.range.loop,aA,aQ] at i7 i24 i25 |-;simp[Act.eval] at i7 i24 i25;simp only[i7,i24,i25];clear i7 i24 i25;rcases bh m with hm|hm
 ·have hk:k=n:=aa;subst hk;refine ax ?_;exact⟨.inr trivial,trivial,_,resultsC_tmp (t:=6) ar _,bn,Nb,Mb,ch,aI,hB⟩
 ·have hk:k<n:=aa;have Vj:(k:Int)<(n:Int):=aa;have aau:o1 bn:=by rw[hB.own];exact .inr ⟨hB.bn.1,hB.bn.2.1⟩
  have ao2:o1 Mb:=by rw[hB.own];exact .inr ⟨hB.mb.1,hB.mb.2.1⟩
  obtain⟨-,-,-,-,c4,-⟩:=Dg hB.bn.2.2;refine ax ?_;generalize OT:(Value.pointer (some ⟨Lb,Lo,none⟩))=v0 at *;generalize HV:(Value.slice (some ⟨Vb,0,none⟩) nv nv)=v1 at *;generalize KU:(Value.slice (some ⟨Rb,0,none⟩) n n)=v2 at *;refine dS mixed ah [some none,some none,some none,some (some (.slice (some ⟨Mb,0,none⟩) n n)),some none,none,some none,none]
   (S:=fun σ o' w'=>(σ 7=none/\jY o w v0 v1 v2 n bn Nb Mb ch k o' w'/\∀y,σ 5=some y->∃c,y=.chan (some c)/\(w.heap.size<=c/\c<w'.heap.size/\w'.heap[c]?=some (.chan 0 #[] false 0 0 false))/\∀s,s<k->ch s≠c)\/(σ 7≠none/\∃ch',jY o w v0 v1 v2 n bn Nb Mb ch' (k+1) o' w')) ?_ fun v=>?_
  ·exact .inl ⟨rfl,hB,fun y hy=>by cases hy⟩
  refine dR ?_;refine cE ?_;refine cq bS rfl rfl rfl ar ar (fun σ o' w' H hS=>?_) ?_
  ·rcases hS with⟨h7,zb,-⟩|⟨h7,-⟩
   ·have mq:o' bn:=by rw[zb.own];exact .inr ⟨zb.bn.1,zb.bn.2.1⟩
    obtain⟨-,-,-,-,c4',-⟩:=Dg zb.bn.2.2;refine⟨zb.aG,fun y hy=>?_,fun wl aU=>?_⟩
    ·simp[Op.operands] at hy;subst hy;simp[Act.eval];exact bX mq
    ·simp[go_sem,(aU.cell mq).trans c4']
   ·exact absurd (H.qQ [6] 7 ah) h7
  refine cE ?_;refine qu bS rfl rfl rfl ar ar (fun σ o' w' H h5 hS=>?_) ?_
  ·rcases hS with⟨h7,zb,-⟩|⟨h7,-⟩
   ·refine⟨zb.aG,fun y hy=>?_,fun wl y aW=>y=.chan (some wl.heap.size)/\aW=wl.alloc (.chan 0 #[] false 0 0 false),fun wl aU=>⟨_,_,by simp[go_sem,Ez],rfl,rfl⟩,fun wl y aW w2 aU hR bO=>?_⟩
    ·simp[Op.operands] at hy;subst hy;simp[Act.eval];exact dU
    ·obtain⟨rfl,hR⟩:=hR;obtain⟨z1,k1,tN⟩:=bO.alloc zb.aG aU hR;rw[aU.size];refine .inl ⟨by simpa[fR] using h7,zb.more bO.aG aa k1,fun y hy=>?_⟩;simp only[fR,if_true,ay] at hy;exact⟨w'.heap.size,hy.symm,⟨zb.size,aa,tN⟩,fun s hs e=>by have:=(zb.pC s hs).2.1;omega⟩
   ·exact absurd (H.xz 7 ah) h7
  refine cE ?_;refine pS bS rfl rfl rfl ar ar (fun σ o' w' H h7 hS=>?_) ?_
  ·rcases hS with⟨-,zb,h6⟩|⟨h7',-⟩
   ·obtain⟨c,hc,XP,hc3⟩:=h6 _ (H.done 5 ah rfl);have hM':o' Mb:=by rw[zb.own];exact .inr ⟨zb.mb.1,zb.mb.2.1⟩
    have Io:o' c:=by rw[zb.own];exact .inr ⟨XP.1,XP.2.1⟩
    refine⟨zb.aG,fun y hy=>?_,fun wl aW=>aW=wl.setCell ⟨Mb,k,none⟩ (.chan (some c)),fun wl aU=>⟨_,?_,rfl⟩,fun wl aW w2 aU hR bO=>?_⟩
    ·simp[Op.operands] at hy;rcases hy with rfl|rfl
     ·simp[Act.eval];exact bX hM'
     ·simp[Act.eval,hc];exact fun f hf=>by simp[val,hf.at_ c Io,mM]
    ·have rl':=World.rowIs.of_block zb.mb.2.2 (aU.heap _ hM');have q0:=rl'.cell hk;have f:=rl'.frozen;simp[go_sem,hc,q0,f]
    ·have hO:eK Mb wl aW:=by rw[hR];exact je _ _ _ _
     obtain⟨on,kb,eg⟩:=bO.only aU hM' hO;have rV:=bO.aG;rw[eg] at rV |-;refine .inr ⟨by simp[fR],_,zb.put rV on ?_ XP hc3⟩;rw[kb,hR];simp only[World.setCell,aS,if_true,aU.heap _ hM']
   ·exact absurd h7 h7'
  aE;refine cD fun σ o' w' mC hS=>?_;rcases hS with⟨h7,-⟩|⟨-,ch',zb⟩
  ·rw[mC 7 eA rfl] at h7;cases h7
  simp only[iM,dK,if_true,if_false,reduceIte,Nat.reduceEqDiff];refine ax ?_;have ve:IntKind.i64.wrap ((k:Int)+1)=((k+1:Nat):Int):=by rw[IntKind.wrap_i64]<;>omega
  exact⟨m-1,aa,k+1,aa,rfl,rfl,rfl,rfl,by simp[Act.eval,ve],ch',zb⟩
end
section
open Go.RowKit
def pd(w:ae)(b:Nat)(ss:List (V×Int)):Prop:=∀i (h:i<ss.length),w.cell? ⟨b,i*3,none⟩=some (.bool ss[i].1.1)/\w.cell? ⟨b,i*3+1,none⟩=some (.string ss[i].1.2)/\w.cell? ⟨b,i*3+2,none⟩=some (.int .i64 ss[i].2)
theorem pd.below{w w':ae}{b:Nat}{ss:List (V×Int)}(h:pd w b ss)(hb:b<w.heap.size)(hw:Below w.heap.size w w'):pd w' b ss:=fun k hk=>by
 obtain⟨hc,-⟩:=wq hw;rw[hc _ _ hb,hc _ _ hb,hc _ _ hb];exact h k hk
theorem yJ{w w':ae}{b:Nat}{ss:List (V×Int)}(h:pd w b ss)(e:w'.heap[b]?=w.heap[b]?):pd w' b ss:=fun i hi=>⟨(Go.Ren.cell_of e).trans (h i hi).1,(Go.Ren.cell_of e).trans (h i hi).2.1,(Go.Ren.cell_of e).trans (h i hi).2.2⟩
theorem WH{w:ae}{B t n k:Nat}{vs:List V}(cp:w.rowIs B t (n*2) fun j=>if j<k*2 then dZ vs j else dZ [] j){b:Bool}{x:af}(hl:vs.getD k V0=(b,x)):
  ((w.setCell ⟨B,k*2,none⟩ (.bool b)).setCell ⟨B,k*2+1,none⟩ (.string x)).rowIs B t (n*2) fun j=>if j<(k+1)*2 then dZ vs j else dZ [] j:=by
 refine((cp.set (k*2) _).set (k*2+1) _).congr fun j hj=>?_;by_cases e1:j=k*2+1
 ·subst e1;rw[if_pos rfl,if_pos aa];have h1:(k*2+1)%2=1:=aa;have h2:(k*2+1)/2=k:=aa;simp only[dZ,h1,h2,hl];rfl
 ·by_cases e2:j=k*2
  ·subst e2;rw[if_neg e1,if_pos rfl,if_pos aa];have h1:(k*2)%2=0:=aa;have h2:(k*2)/2=k:=aa;simp only[dZ,h1,h2,hl];rfl
  ·rw[if_neg e1,if_neg e2];by_cases e3:j<k*2
   ·rw[if_pos e3,if_pos aa]
   ·rw[if_neg e3,if_neg aa]
theorem Dh(b c:Nat)(p:Option Addr)(ss:List (V×Int))(w:ae)(hn:ss.length<=100000)(hp:ss≠[]->p=some ⟨b,0,none⟩/\b<w.heap.size)(hv:pd w b ss):
  Calls au 141 #[.slice p ss.length c] w fun e w'=>e=.returned (.slice (some ⟨w.heap.size,0,none⟩) ss.length ss.length)/\Below w.heap.size w w'/\w.heap.size<w'.heap.size/\fe w' w.heap.size (ss.map (·.1)):=by
 have Jq:=fun w=>rM w ss.length hn;go_enter func141,ntmps141;go_wp2;go_loopw [11] (fun i w'=>∃k:Nat,k<=ss.length/\i=.int .i64 k/\Below w.heap.size w w'/\w.heap.size<w'.heap.size/\w'.rowIs w.heap.size 159 (ss.length*2) (fun j=>if j<k*2 then dZ (ss.map (·.1)) j else dZ [] j)) (fun i _=>ss.length-(intOf i).toNat)
 case atStart =>
  refine⟨0,aV _,rfl,(Below.refl _ _).alloc (ag _) _,aj,_,jW _ _,by simp[size_madeCells],fun j hj=>?_⟩;simp only[madeCells,aL,Array.getElem?_range,hj,if_true,aK];rcases fo j with e|e<;>simp[e,dZ,V0]
 case round =>
  obtain⟨k,hk,rfl,gB,hz,cp⟩:=hrel;by_cases cB:k<ss.length
  ·obtain⟨rfl,hb⟩:=hp (fun e=>by rw[e] at cB;simp at cB);obtain⟨c0,c1,c2⟩:=hv.below hb gB k cB;have d0:wr.cell? ⟨w.heap.size,k*2,none⟩=some (.bool false):=by rw[cp.cell aa,if_neg aa];simp[dZ,V0]
   have d1:wr.cell? ⟨w.heap.size,k*2+1,none⟩=some (.string aP):=by rw[cp.cell aa,if_neg aa];simp[dZ,V0]
   have f0:=cp.frozen;have Og:(ss.map (·.1)).getD k V0=ss[k].1:=by simp[cB]
   generalize ss[k]=x at *;obtain⟨⟨xb,xt⟩,xs⟩:=x;clear hv hp;go_wp2;refine⟨⟨k+1,aa,by go_num,((gB.setCell (ag _) _).setCell (ag _) _).alloc (by simp[World.setCell];omega) _,by simp[World.setCell];omega,?_⟩,by simp[intOf];omega⟩;exact(WH cp Og).alloc _
  ·go_wp2;go_ret;exact⟨rfl,gB,hz,by unfold fe;rw[bR];exact cp.congr fun i hi=>by rw[if_pos aa]⟩
section
variable {Fin:bL} {o:aN} {w:ae}
theorem Ha(hF:bN au L0 o w)(b c:Nat)(p:Option Addr)(ss:List (Kz.V×Int))(hn:ss.length<=100000)(hp:ss≠[]->p=some ⟨b,0,none⟩/\o b)(hv:pd w b ss)(hc:Cl au L0 o (.slice p ss.length c)):
  bA au (XB au Fin 0) 141 #[.slice p ss.length c] o w fun v o' w'=>fY o w v o' w'/\v=.slice (some ⟨w.heap.size,0,none⟩) ss.length ss.length/\w.heap.size<w'.heap.size/\fe w' w.heap.size (ss.map (·.1)):=by
 refine bA.mono (eF ah hF (fun x hx=>by simp at hx;subst hx;exact hc) (Q:=fun wl v w'=>v=.slice (some ⟨wl.heap.size,0,none⟩) ss.length ss.length/\wl.heap.size<w'.heap.size/\fe w' wl.heap.size (ss.map (·.1))) (fun wl Ba v w1 w2 e1 e2 h=>?_) (fun wl hz aU=>?_)) (fun v o' w' hq=>?_)
 ·rw[e1,e2];exact⟨h.1,h.2.1,World.rowIs.of_block h.2.2 (by rw[e2])⟩
 ·refine(Dh b c p ss wl hn (fun h=>⟨(hp h).1,by rw[hz];exact hF.lt (hp h).2⟩) (fun i hi=>?_)).mono fun e w' hq=>?_
  ·exact yJ hv (aU b (hp (fun e=>by rw[e] at hi;simp at hi)).2) i hi
  ·obtain⟨rfl,h1,h2,h3⟩:=hq;exact⟨_,rfl,h1.size,fun b hb=>h1.block b hb,rfl,h2,h3⟩
 ·obtain⟨hN,wl,aW,z1,z2,hs,rfl,h2,h3⟩:=hq;rw[z1] at h2 h3 hN |-;exact⟨hN,rfl,aa,World.rowIs.of_block h3 (hs _ (ag _) aa)⟩
theorem wE{w w':ae}{bn Lb Lo St Rb Nb n:Nat}{out:Nat->af}{eU:Nat->Int}{ins:Nat->List (Bool×Nat)}{cO:Nat->Nat}{res:Nat->Kz.V}{jX:Nat->Bool}(h:pW w bn Lb Lo St Rb Nb n out eU ins cO res jX)(hz:w'.heap.size=w.heap.size)(e:∀b,b=bn\/b=Lb\/b=St\/b=Rb\/b=Nb\/(∃s,s<n/\b=cO s)->w'.heap[b]?=w.heap[b]?):pW w' bn Lb Lo St Rb Nb n out eU ins cO res jX where
 b0:=(cell_of (e bn (.inl rfl))).trans h.b0
 b2:=(cell_of (e bn (.inl rfl))).trans h.b2
 b3:=(cell_of (e bn (.inl rfl))).trans h.b3
 st:=(cell_of (e Lb (.inr (.inl rfl)))).trans h.st
 steps:=jG h.steps (e St (.inr (.inr (.inl rfl)))) (fun s hs=>e _ (.inr (.inr (.inr (.inr (.inr ⟨s,hs,rfl⟩)))))) aa
 r2 s hs:=(cell_of (e Rb (.inr (.inr (.inr (.inl rfl)))))).trans (h.r2 s hs)
 r3 s hs:=(cell_of (e Rb (.inr (.inr (.inr (.inl rfl)))))).trans (h.r3 s hs)
 jX s hs:=(cell_of (e Nb (.inr (.inr (.inr (.inr (.inl rfl))))))).trans (h.jX s hs)
 lbn:=by rw[hz];exact h.lbn
 lLb:=by rw[hz];exact h.lLb
 lSt:=by rw[hz];exact h.lSt
 lRb:=by rw[hz];exact h.lRb
 lNb:=by rw[hz];exact h.lNb
theorem QB(hF:bN au L0 o w)(bn Lb Lo St Rb Nb n:Nat)(out:Nat->af)(eU:Nat->Int)(ins:Nat->List (Bool×Nat))(cO:Nat->Nat)(res:Nat->Kz.V)(jX:Nat->Bool)(hn:n<=1000)(h:pW w bn Lb Lo St Rb Nb n out eU ins cO res jX)(ho:∀b,b=bn\/b=Lb\/b=St\/b=Rb\/b=Nb\/(∃s,s<n/\b=cO s)->o b):
  bA au (XB au Fin 0) 75 #[.pointer (some ⟨bn,0,none⟩)] o w fun v o' w'=>fY o w v o' w'/\v=.slice (some ⟨w.heap.size,0,none⟩) n n/\w.heap.size<w'.heap.size/\w'.rowIs w.heap.size 65 (n*3) (hZ out res n):=by
 refine bA.mono (eF ah hF (fun x hx=>by simp at hx;subst hx;exact bX (ho bn (.inl rfl))) (Q:=fun wl v w'=>v=.slice (some ⟨wl.heap.size,0,none⟩) n n/\wl.heap.size<w'.heap.size/\w'.rowIs wl.heap.size 65 (n*3) (hZ out res n)) (fun wl Ba v w1 w2 e1 e2 h=>?_) (fun wl hz aU=>?_)) (fun v o' w' hq=>?_)
 ·rw[e1,e2];exact⟨h.1,h.2.1,World.rowIs.of_block h.2.2 (by rw[e2])⟩
 ·refine(JV bn Lb Lo St Rb Nb n out eU ins cO res jX wl hn (wE h hz fun b hb=>aU b (ho b hb))).mono fun e w' hq=>?_;obtain⟨rfl,h1,h2,h3⟩:=hq;exact⟨_,rfl,h1.size,fun b hb=>h1.block b hb,rfl,h2,h3⟩
 ·obtain⟨hN,wl,aW,z1,z2,hs,rfl,h2,h3⟩:=hq;rw[z1] at h2 h3 hN |-;exact⟨hN,rfl,aa,World.rowIs.of_block h3 (hs _ (ag _) aa)⟩
theorem uP{lo:Nat}{ts:List af}{v:Value}{w wl:ae}(h:wl.ownsRow lo 9 1 v ts.length (ts.map .string))(hs:∀b,lo<=b->b<w.heap.size->w.heap[b]?=wl.heap[b]?)(hz:wl.heap.size=w.heap.size):ir lo ts v w:=by
 obtain⟨hl,hc⟩:=h;rcases hc with⟨rfl,h2⟩|⟨g,cap,cur,rfl,h1,h2,h3,h4,h5,h6⟩
 ·exact .inl ⟨rfl,List.length_eq_zero_iff.1 h2⟩
 ·have hg:g<w.heap.size:=by rw[<- hz];exact(Array.getElem?_eq_some_iff.1 h2).1
  refine .inr ⟨g,cap,rfl,h3,h1,hg,fun k hk=>?_⟩;have hb:=(hs g h1 hg).trans h2;have:(cur.toList.take (ts.length*1))[k]?=(ts.map Value.string)[k]?:=by rw[h6]
  rw[fI aa] at this;simp[World.cell?,hb];simpa[hk] using this
theorem QC(hF:bN au L0 o w)(bn Lb Lo St Rb Nb n:Nat)(out:Nat->af)(eU:Nat->Int)(ins:Nat->List (Bool×Nat))(cO:Nat->Nat)(res:Nat->Kz.V)(jX:Nat->Bool)(hn:n<=1000)(h:pW w bn Lb Lo St Rb Nb n out eU ins cO res jX)(ho:∀b,b=bn\/b=Lb\/b=St\/b=Rb\/b=Nb\/(∃s,s<n/\b=cO s)->o b):
  bA au (XB au Fin 0) 76 #[.pointer (some ⟨bn,0,none⟩)] o w fun v o' w'=>fY o w v o' w'/\ir w.heap.size (rN out jX n) v w':=by
 refine bA.mono (eF ah hF (fun x hx=>by simp at hx;subst hx;exact bX (ho bn (.inl rfl))) (Q:=fun wl v w'=>w'.ownsRow wl.heap.size 9 1 v (rN out jX n).length ((rN out jX n).map .string)) (fun wl Ba v w1 w2 e1 e2 h=>?_) (fun wl hz aU=>?_)) (fun v o' w' hq=>?_)
 ·rw[e1];exact dF h fun g _ _=>by rw[e2]
 ·refine(JW bn Lb Lo St Rb Nb n out eU ins cO res jX wl hn (wE h hz fun b hb=>aU b (ho b hb))).mono fun e w' hq=>?_;obtain⟨v,rfl,h1,h2,h3⟩:=hq;exact⟨_,rfl,h1.size,fun b hb=>h1.block b hb,h3⟩
 ·obtain⟨hN,wl,aW,z1,z2,hs,h3⟩:=hq;rw[z1] at h3;exact⟨hN,uP h3 hs z2⟩
theorem Di(hF:bN au L0 o w)(v0:Value)(b c:Nat)(p:Option Addr)(ts:List af)(OT:v0=.slice p ts.length c)(hn:ts.length<=100000)(hp:p=none->ts=[])(hq:ts≠[]->p=some ⟨b,0,none⟩/\o b)(ht:fE w b 0 ts)(hc:Cl au L0 o v0):
  bA au (XB au Fin 0) 51 #[v0] o w fun v o' w'=>fY o w v o' w'/\ir w.heap.size ts v w':=by
 refine bA.mono (eF ah hF (fun x hx=>by simp at hx;subst hx;exact hc) (Q:=fun wl v w'=>w'.ownsRow wl.heap.size 9 1 v ts.length (ts.map .string)) (fun wl Ba v w1 w2 e1 e2 h=>?_) (fun wl hz aU=>?_)) (fun v o' w' hq=>?_)
 ·rw[e1];exact dF h fun g _ _=>by rw[e2]
 ·subst OT;cases p with
  |none =>
   obtain rfl:=hp rfl;refine(Tryz.slices_Clone_string_nil _ _ wl).mono fun e w' hq=>?_;obtain⟨rfl,rfl⟩:=hq;exact⟨_,rfl,ag _,fun _ _=>rfl,aj,.inl ⟨rfl,rfl⟩⟩
  |some a =>
   by_cases dJ:ts=[]
   ·subst dJ;refine(Tryz.slices_Clone_string_zero a _ wl).mono fun e w' hq=>?_;obtain⟨v',rfl,h1,-,h2⟩:=hq;exact⟨_,rfl,h2.size,fun b hb=>h2.block b hb,h1⟩
   ·obtain⟨e,hb⟩:=hq dJ;cases e;refine(Tryz.slices_Clone_string b 0 ts.length c ts wl (ag _) aa (fun j hj=>?_)).mono fun e w' hq=>?_
    ·rw[dh ht (aU b hb) j hj];simp[hj]
    ·obtain⟨v',rfl,h1,h2⟩:=hq;rw[cU] at h1;exact⟨_,rfl,h2.2.size,fun b hb=>h2.2.block b hb,h1⟩
 ·obtain⟨hN,wl,aW,z1,z2,hs,h3⟩:=hq;rw[z1] at h3;exact⟨hN,uP h3 hs z2⟩
end
end
structure mD(rs:List aJ)(NM:aJ->List af)(RK:af->Nat):Prop where
 nodup:(rs.map (·.out)).Nodup
 low:∀r∈rs,RK r.out<rs.length
 EA:∀r∈rs,∀x∈NM r,x∈rs.map (·.out)->RK x<RK r.out
 eU:∀r∈rs,1<=r.eU/\r.eU<=5
 four:∀r∈rs,(NM r).length<=4
theorem mD.perm{rs cu:List aJ}{NM:aJ->List af}{RK:af->Nat}(h:mD rs NM RK)(p:cu.Perm rs):mD cu NM RK where
 nodup:=((p.map (·.out)).nodup_iff).2 h.nodup
 low r hr:=by rw[p.length_eq];exact h.low r (p.mem_iff.1 hr)
 EA r hr x hx ho:=h.EA r (p.mem_iff.1 hr) x hx (((p.map (·.out)).mem_iff).1 ho)
 eU r hr:=h.eU r (p.mem_iff.1 hr)
 four r hr:=h.four r (p.mem_iff.1 hr)
theorem uQ{rs:List aJ}(hn:(rs.map (·.out)).Nodup)(hs:∀i j (hi:i<rs.length) (hj:j<rs.length),i<j->¬qU rs[j] rs[i]<0):lS (rs.map (·.out)):=fun i j hi hj Fi=>by
 have mn:i<rs.length:=by simpa using hi
 have sk:j<rs.length:=by simpa using hj
 simp only[List.getElem_map];have h1:=hs i j mn sk Fi;unfold qU at h1;have e:∀b:af,b.data.toList=b.toList:=fun b=>(ByteArray.toList_eq b).symm;rw[e,e] at h1;rw[sn rs[i].out.toList rs[j].out.toList] at h1;have h2:Lib.compareBytes rs[i].out.toList rs[j].out.toList≠0:=fun h=>by
  have h3:=sU _ _ h;have h4:rs[i].out=rs[j].out:=by
   have:rs[i].out.data=rs[j].out.data:=by
    apply Array.toList_inj.1;rw[e,e];exact h3
   cases hx:rs[i].out;cases hy:rs[j].out;rw[hx,hy] at this;simp at this;rw[this]
  have:=(List.pairwise_iff_getElem.1 hn i j hi hj Fi);simp only[List.getElem_map] at this;exact this h4
 omega
section
variable {rs:List aJ} {NM:aJ->List af} {RK:af->Nat}
theorem Hb{xs:List af}{x:af}(h:pV xs x=true):∃h:nn xs x<xs.length,xs[nn xs x]=x:=by
 unfold pV at h;simp only[decide_eq_true_eq] at h;refine⟨h.1,?_⟩;have:=h.2;simpa[List.getD,h.1] using this
theorem QD{outs:List af}{l:List af}{x:af}:x∈tD outs l↔x∈l/\x∉outs:=by
 unfold tD;rw[List.mem_filter];constructor
 ·rintro⟨h1,h2⟩;refine⟨h1,fun h=>?_⟩;rw[(Lib.containsS_iff outs x).2 h] at h2;cases h2
 ·rintro⟨h1,h2⟩;refine⟨h1,?_⟩;cases hc:Lib.containsS outs x with
  |false=>rfl
  |true=>exact absurd ((Lib.containsS_iff outs x).1 hc) h2
theorem J0{outs:List af}{nm:Nat->List af}{x:af}:∀k,x∈lJ outs nm k↔∃i,i<k/\x∈nm i/\x∉outs
 |0=>by simp[lJ]
 |k+1=>by
  simp only[lJ,List.mem_append,J0 k,QD];constructor
  ·rintro(⟨i,h1,h2,h3⟩|⟨h2,h3⟩)
   ·exact⟨i,aa,h2,h3⟩
   ·exact⟨k,aa,h2,h3⟩
  ·rintro⟨i,h1,h2,h3⟩;by_cases e:i=k
   ·subst e;exact .inr ⟨h2,h3⟩
   ·exact .inl ⟨i,aa,h2,h3⟩
theorem nt{i:Nat}(h:i<rs.length):DZ NM rs i=NM rs[i]:=by simp[DZ,h]
theorem yK{i:Nat}(h:i<rs.length):qW rs i=rs[i].out:=by simp[qW,h]
theorem Oj{i:Nat}(h:i<rs.length):zS rs i=rs[i].eU:=by simp[zS,h]
theorem sw{x:af}:x∈fq NM rs↔∃r∈rs,x∈NM r/\x∉rs.map (·.out):=by
 unfold fq;rw[(oZ _).2,J0];constructor
 ·rintro⟨i,h1,h2,h3⟩;rw[nt h1] at h2;exact⟨rs[i],aH h1,h2,h3⟩
 ·rintro⟨r,h1,h2,h3⟩;obtain⟨i,hi,rfl⟩:=bf h1;exact⟨i,hi,by rw[nt hi];exact h2,h3⟩
theorem WI(hS:lS (rs.map (·.out))){s m:Nat}(hs:s<rs.length)(h:(true,m)∈mA NM rs s):∃hm:m<rs.length,rs[m].out∈NM rs[s]:=by
 unfold mA at h;rw[nt hs] at h;obtain⟨x,hx,he⟩:=List.mem_map.1 h;unfold rD at he;have h1:pV (rs.map (·.out)) x=true:=congrArg Prod.fst he;have h2:=congrArg Prod.snd he;simp only[h1,if_true] at h2;obtain⟨hp,mq⟩:=Hb h1;subst h2;rw[bR] at hp;exact⟨hp,by simp only[List.getElem_map] at mq;rw[mq];exact hx⟩
theorem WJ(hS:lS (rs.map (·.out))){s m:Nat}(hs:s<rs.length)(h:(false,m)∈mA NM rs s):m<(fq NM rs).length:=by
 unfold mA at h;rw[nt hs] at h;obtain⟨x,hx,he⟩:=List.mem_map.1 h;unfold rD at he;have h1:pV (rs.map (·.out)) x=false:=congrArg Prod.fst he;have h2:=congrArg Prod.snd he;simp only[h1,aM,if_false] at h2;have MD:x∉rs.map (·.out):=fun hm=>by rw[(yF _ hS x).2 hm] at h1;cases h1
 have hm:x∈fq NM rs:=sw.2 ⟨rs[s],aH hs,hx,MD⟩;obtain⟨hp,-⟩:=Hb ((yF _ (oZ _).1 x).2 hm);rw[<- h2];exact hp
def qD(rs:List aJ)(NM:aJ->List af)(file:af->V):Nat->af->V
 |0,_=>V0
 |f+1,x=>match rs.find? (fun r=>decide (r.out=x)) with
  |some r=>jc r.eU ((NM r).map (qD rs NM file f))
  |none=>file x
def valOf(rs:List aJ)(NM:aJ->List af)(file:af->V)(x:af):V:=qD rs NM file (rs.length+1) x
theorem yL(hn:(rs.map (·.out)).Nodup){r:aJ}(hr:r∈rs):rs.find? (fun q=>decide (q.out=r.out))=some r:=by
 induction rs with
 |nil=>cases hr
 |cons q l ih =>
  rw[aA,dc] at hn;rcases List.mem_cons.1 hr with rfl|h
  ·simp
  ·have dJ:decide (q.out=r.out)=false:=dA fun e=>hn.1 (by rw[e];exact gK h);rw[List.find?_cons,dJ];exact ih hn.2 h
theorem sx{x:af}(h:x∉rs.map (·.out)):rs.find? (fun q=>decide (q.out=x))=none:=by
 rw[List.find?_eq_none];intro q hq;simp only[decide_eq_true_eq];intro e;exact h (e▸gK hq)
theorem J1(h:mD rs NM RK)(file:af->V):∀(k f g:Nat) (x:af),(x∈rs.map (·.out)->RK x<k)->k<f->k<g->qD rs NM file f x=qD rs NM file g x:=by
 intro k
 induction k with
 |zero =>
  intro f g x hx hf hg;obtain⟨f,rfl⟩:∃f',f=f'+1:=⟨f-1,aa⟩;obtain⟨g,rfl⟩:∃g',g=g'+1:=⟨g-1,aa⟩;have:x∉rs.map (·.out):=fun hm=>by have:=hx hm;omega
  simp only[qD,sx this]
 |succ k ih =>
  intro f g x hx hf hg;obtain⟨f,rfl⟩:∃f',f=f'+1:=⟨f-1,aa⟩;obtain⟨g,rfl⟩:∃g',g=g'+1:=⟨g-1,aa⟩;by_cases hm:x∈rs.map (·.out)
  ·obtain⟨r,hr,rfl⟩:=List.mem_map.1 hm;simp only[qD,yL h.nodup hr]
   congr 1
   refine cg fun y hy=>ih f g y (fun hym=>?_) aa aa;have:=h.EA r hr y hy hym;have:=hx hm;omega
  ·simp only[qD,sx hm]
theorem FD(h:mD rs NM RK)(file:af->V){r:aJ}(hr:r∈rs):valOf rs NM file r.out=jc r.eU ((NM r).map (valOf rs NM file)):=by
 unfold valOf
 conv=>lhs;unfold qD
 simp only[yL h.nodup hr]
 congr 1
 refine cg fun y hy=>J1 h file (rs.length-1) _ _ y (fun hm=>?_) ?_ ?_
 ·have:=h.EA r hr y hy hm;have:=h.low r hr;omega
 ·have:0<rs.length:=iB hr;omega
 ·omega
theorem FE(file:af->V){x:af}(h:x∉rs.map (·.out)):valOf rs NM file x=file x:=by
 unfold valOf qD;simp only[sx h]
theorem Dj{cu:List aJ}(h:mD rs NM RK)(p:cu.Perm rs)(file:af->V)(x:af):valOf cu NM file x=valOf rs NM file x:=by
 unfold valOf;rw[p.length_eq];generalize rs.length+1=f
 induction f generalizing x with
 |zero=>rfl
 |succ f ih =>
  unfold qD;by_cases hm:x∈rs.map (·.out)
  ·obtain⟨r,hr,rfl⟩:=List.mem_map.1 hm;rw[yL h.nodup hr,yL (h.perm p).nodup (p.mem_iff.2 hr)];simp only
   congr 1
   exact cg fun y _=>ih y
  ·rw[sx hm,sx (fun hx=>hm (((p.map (·.out)).mem_iff).1 hx))]
theorem QE(h:mD rs NM RK)(hS:lS (rs.map (·.out)))(D:nh)(file:af->V)(res:Nat->V)(G7:D.ins=mA NM rs)(hv:D.lI=(fq NM rs).map file)(wV:∀s,s<rs.length->res s=valOf rs NM file (qW rs s)){s:Nat}(hs:s<rs.length):dV D res s=(NM rs[s]).map (valOf rs NM file):=by
 unfold dV;rw[G7];unfold mA;rw[nt hs,List.map_map];refine cg fun x hx=>?_;simp only[Function.comp,Jy,rD];rcases Bool.eq_false_or_eq_true (pV (rs.map (·.out)) x) with hh|hh
 ·obtain⟨hp,mq⟩:=Hb hh;have hp':nn (rs.map (·.out)) x<rs.length:=by simpa using hp
  simp only[hh,if_true];rw[wV _ hp',yK hp'];simp only[List.getElem_map] at mq;rw[mq]
 ·have MD:x∉rs.map (·.out):=fun hm=>by rw[(yF _ hS x).2 hm] at hh;cases hh
  have hm:x∈fq NM rs:=sw.2 ⟨rs[s],aH hs,hx,MD⟩;obtain⟨hp,mq⟩:=Hb ((yF _ (oZ _).1 x).2 hm);have hp2:nn (fq NM rs) x<(fq NM rs).length:=hp;have hx2:(fq NM rs)[nn (fq NM rs) x]=x:=mq;simp only[hh,aM,if_false,hv];rw[FE file MD];simp[List.getD,hp2,hx2]
end
theorem J2(n:Nat)(h:n<18446744073709551616):(⟨(Lib.decDigits n).toArray⟩:af).size<=20:=by
 show(Lib.decDigits n).toArray.size<=20;rw[List.size_toArray,Lib.decDigits_length];exact Lib.nDigits_le20 n h
theorem Dk(l:List UInt8):(bytes l).size=l.length:=by
 show l.toArray.size=l.length;simp
theorem J3{M:Nat}:∀{ts:List af},(∀t∈ts,t.size<=M)->js ts<=M*ts.length
 | [],_=>by simp[js]
 |t::ts,h=>by
  have h1:=h t aj;have h2:=J3 (ts:=ts) fun x hx=>h x (by simp[hx]);simp only[js,aA,List.sum_cons,List.length_cons,Nat.mul_add] at h2 |-;omega
theorem J4{M:Nat}:∀{ts:List af},(∀t∈ts,t.size<=M)->sS ts<=255*M*ts.length
 | [],_=>by simp[sS]
 |t::ts,h=>by
  have h1:=h t aj;have h2:=J4 (ts:=ts) fun x hx=>h x (by simp[hx]);have h3:=GM t.data.toList;have h4:t.data.toList.length=t.size:=by rw[Array.length_toList];rfl
  simp only[sS,aA,List.sum_cons,List.length_cons,Nat.mul_add] at h2 |-;rw[h4] at h3;have h5:255*t.size<=255*M:=Nat.mul_le_mul_left _ h1;omega
theorem WK(x y:af):Lib.minS x y=x\/Lib.minS x y=y:=by
 unfold Lib.minS;split
 ·exact .inl rfl
 ·exact .inr rfl
theorem FF:∀(l:List af) (x:af),l.foldl Lib.minS x=x\/l.foldl Lib.minS x∈l
 | [],x=>.inl rfl
 |y::l,x=>by
  simp only[List.foldl_cons];rcases FF l (Lib.minS x y) with h|h
  ·rw[h];rcases WK x y with e|e
   ·exact .inl e
   ·exact .inr (by rw[e];simp)
  ·exact .inr (by simp[h])
theorem TP(l:List af)(h:l≠[]):Lib.minOfS l∈l:=by
 unfold Lib.minOfS;cases l with
 |nil=>exact absurd rfl h
 |cons y l =>
  rcases FF (y::l) ((y::l).headD aP) with e|e
  ·rw[e];simp
  ·exact e
theorem MM{r:Int}{vs:List V}(hl:vs.length<=4)(h:∀v∈vs,v.2.size<=100):(jc r vs).2.size<=100:=by
 have ht:∀t∈vs.map (·.2),t.size<=100:=fun t ht=>by
  obtain⟨v,hv,rfl⟩:=List.mem_map.1 ht;exact h v hv
 unfold jc;split
 ·have:=CQ vs;exact aX (J2 _ aa) aa
 ·split
  ·exact aV _
  ·show(l8 r (vs.map (·.2))).size<=100;unfold l8;split
   ·rw[Dk];simp;omega
   ·split
    ·rw[Dk];simp;omega
    ·split
     ·have:=J4 ht;rw[bR] at this;exact aX (J2 _ aa) aa
     ·split
      ·unfold zK;split
       ·exact aV _
       ·rename_i dJ;exact ht _ (TP _ dJ)
      ·exact aV _
theorem FG{rs:List aJ}{NM:aJ->List af}(h4:∀r∈rs,(NM r).length<=4){file:af->V}(hf:∀x,(file x).2.size<=100):∀f x,(qD rs NM file f x).2.size<=100
 |0,x=>by simp[qD,V0]
 |f+1,x=>by
  unfold qD;cases hr:rs.find? (fun r=>decide (r.out=x)) with
  |none=>exact hf x
  |some r =>
   have hm:=jN hr;refine MM (by rw[bR];exact h4 r hm) fun v hv=>?_;obtain⟨y,_,rfl⟩:=List.mem_map.1 hv;exact FG h4 hf f y
structure da where
 cu:List aJ
 St:Nat
 Or:Nat
 cO:Nat->Nat
 sv:Value
section
variable {Fin:bL} {o:aN} {w:ae}
def AI(F:da)(b:Nat):Prop:=b=F.St\/b=F.Or\/(∃s,s<F.cu.length/\b=F.cO s)\/∃l c,F.sv=.slice (some ⟨b,0,none⟩) l c
structure zV(o:aN)(w:ae)(lo:Nat)(rs:List aJ)(NM:aJ->List af)(F:da)(y:Value):Prop where
 lay:wB lo NM F.cu F.St F.Or F.cO F.sv y w
 perm:F.cu.Perm rs
 sorted:∀i j (hi:i<F.cu.length) (hj:j<F.cu.length),i<j->¬qU F.cu[j] F.cu[i]<0
 own:∀b,AI F b->o b
theorem zV.ge{lo:Nat}{rs:List aJ}{NM:aJ->List af}{F:da}{y:Value}(h:zV o w lo rs NM F y){b:Nat}(hb:AI F b):lo<=b:=by
 rcases hb with rfl|rfl|⟨s,hs,rfl⟩|⟨l,c,e⟩
 ·exact h.lay.st.1
 ·exact h.lay.or.1
 ·exact h.lay.ib s hs
 ·rcases h.lay.src with⟨h1,-⟩|⟨g,cap,h1,h2,h3,h4,h5⟩
  ·rw[h1] at e;cases e
  ·rw[h1] at e;cases e;exact h3
theorem zV.keep{lo:Nat}{rs:List aJ}{NM:aJ->List af}{F:da}{y:Value}{o':aN}{w':ae}(h:zV o w lo rs NM F y)(om:∀b,AI F b->o' b)(hz:w.heap.size<=w'.heap.size)(e:∀b,AI F b->w'.heap[b]?=w.heap[b]?):zV o' w' lo rs NM F y where
 lay:={
  val:=h.lay.val
  steps:=jG h.lay.steps (e _ (.inl rfl)) (fun s hs=>e _ (.inr (.inr (.inl ⟨s,hs,rfl⟩)))) hz
  ord:=World.rowIs.of_block h.lay.ord (e _ (.inr (.inl rfl)))
  src:=by
   rcases h.lay.src with h1|⟨g,cap,h1,h2,h3,h4,h5⟩
   ·exact .inl h1
   ·exact .inr ⟨g,cap,h1,h2,h3,aa,dh h5 (e g (.inr (.inr (.inr ⟨_,_,h1⟩))))⟩
  st:=⟨h.lay.st.1,by have:=h.lay.st.2;omega⟩
  or:=⟨h.lay.or.1,by have:=h.lay.or.2;omega⟩
  ib:=h.lay.ib}
 perm:=h.perm
 sorted:=h.sorted
 own:=om
def Ol(Rb s:Nat)(r:Int)(x:Option (Nat×List V))(w:ae):Prop:=match x with
 |none=>w.cell? ⟨Rb,s*4,none⟩=some (.bool false)/\w.cell? ⟨Rb,s*4+1,none⟩=some (.slice none 0 0)/\w.cell? ⟨Rb,s*4+2,none⟩=some (.bool false)/\w.cell? ⟨Rb,s*4+3,none⟩=some (.string aP)
 |some (B,vs)=>w.cell? ⟨Rb,s*4,none⟩=some (.bool true)/\w.cell? ⟨Rb,s*4+1,none⟩=some (.slice (some ⟨B,0,none⟩) vs.length vs.length)/\w.cell? ⟨Rb,s*4+2,none⟩=some (.bool (jc r vs).1)/\w.cell? ⟨Rb,s*4+3,none⟩=some (.string (jc r vs).2)
theorem Ol.keep{Rb s:Nat}{r:Int}{x:Option (Nat×List V)}{w w':ae}(h:Ol Rb s r x w)(e:w'.heap[Rb]?=w.heap[Rb]?):Ol Rb s r x w':=by
 cases x with
 |none=>exact⟨(cell_of e).trans h.1,(cell_of e).trans h.2.1,(cell_of e).trans h.2.2.1,(cell_of e).trans h.2.2.2⟩
 |some y=>exact⟨(cell_of e).trans h.1,(cell_of e).trans h.2.1,(cell_of e).trans h.2.2.1,(cell_of e).trans h.2.2.2⟩
structure vt where
 bb:Nat
 p:Option Addr
 Ru:Nat
 c:Nat
 Rb:Nat
 rs:List aJ
 NM:aJ->List af
 NB:aJ->Nat
 RK:af->Nat
def nI(B:vt)(fd:Option (Nat×da))(old:Nat->Option (Nat×List V))(b:Nat):Prop :=
 b=B.bb\/b=B.Ru\/b=B.Rb\/b=1\/(∃r∈B.rs,B.NM r≠[]/\b=B.NB r)\/(∃lo F,fd=some (lo,F)/\AI F b)\/∃s vs,s<B.rs.length/\old s=some (b,vs)
structure fQ(o:aN)(w:ae)(B:vt)(fd:Option (Nat×da))(old:Nat->Option (Nat×List V)):Prop where
 own:∀b,nI B fd old b->o b
 right:mD B.rs B.NM B.RK
 rules:lK o w B.p B.Ru B.c B.rs B.NM B.NB
 apart:B.Ru≠B.bb/\B.Rb≠B.bb/\(∀r∈B.rs,B.NM r≠[]->B.NB r≠B.bb)/\4<=B.Rb/\4<=B.bb/\B.Ru≠B.Rb/\∀r∈B.rs,B.NM r≠[]->B.NB r≠B.Rb
 blk:∃y0 y1 y2,w.heap[B.bb]?=some (K8 (.slice B.p B.rs.length B.c) (.int .u32 (if fd.isSome then 1 else 0)) (.int .i32 0) (.int .u32 0) y0 y1 y2 (.slice (some ⟨B.Rb,0,none⟩) B.rs.length B.rs.length))/\∀lo F,fd=some (lo,F)->zV o w lo B.rs B.NM F (.agg #[y0,y1,y2])
 lo:∀lo F,fd=some (lo,F)->B.Rb<lo/\B.bb<lo
 fresh:fd=none->∀s,s<B.rs.length->old s=none
 runs:∃cs,w.heap[B.Rb]?=some (.cells cs 222 (0,0))/\cs.size=B.rs.length*4
 idle:∀s,s<B.rs.length->∀r,(∀lo F,fd=some (lo,F)->r=zS F.cu s)->Ol B.Rb s r (old s) w
 xk:∀s b vs,s<B.rs.length->old s=some (b,vs)->fe w b vs/\vs.length<=100000/\B.Rb<b/\B.bb<b
 pow:jb w
theorem fQ.keep{B:vt}{fd:Option (Nat×da)}{old:Nat->Option (Nat×List V)}{o':aN}{w':ae}(h:fQ o w B fd old)(om:∀b,o b->o' b)(hz:w.heap.size<=w'.heap.size)(e:∀b,nI B fd old b->w'.heap[b]?=w.heap[b]?):fQ o' w' B fd old where
 own b hb:=om _ (h.own b hb)
 right:=h.right
 rules:=h.rules.keep om (e _ (.inr (.inl rfl))) fun r hr hn=>e _ (.inr (.inr (.inr (.inr (.inl ⟨r,hr,hn,rfl⟩)))))
 apart:=h.apart
 blk:=by
  obtain⟨y0,y1,y2,h1,h2⟩:=h.blk;exact⟨y0,y1,y2,(e _ (.inl rfl)).trans h1,fun lo F hf=>(h2 lo F hf).keep (fun b hb=>om _ ((h2 lo F hf).own b hb)) hz fun b hb=>e b (.inr (.inr (.inr (.inr (.inr (.inl ⟨lo,F,hf,hb⟩))))))⟩
 lo:=h.lo
 fresh:=h.fresh
 runs:=by
  obtain⟨cs,h1,h2⟩:=h.runs;exact⟨cs,(e _ (.inr (.inr (.inl rfl)))).trans h1,h2⟩
 idle s hs r hr:=(h.idle s hs r hr).keep (e _ (.inr (.inr (.inl rfl))))
 xk s b vs hs ho:=by
  obtain⟨h1,h2⟩:=h.xk s b vs hs ho;exact⟨h1.of_block (e b (.inr (.inr (.inr (.inr (.inr (.inr ⟨s,vs,hs,ho⟩))))))),h2⟩
 pow q hq:=(cell_of (e 1 (.inr (.inr (.inr (.inl rfl)))))).trans (h.pow q hq)
end
theorem FH{α:Type}{lt:α->α->Prop}(ha:∀x y,lt x y->lt y x->False):∀a b:List α,a.Pairwise lt->b.Pairwise lt->(∀x,x∈a↔x∈b)->a=b
 | [],[],_,_,_=>rfl
 | [],y::b,_,_,h=>by have:=(h y).2 aj;cases this
 |x::a,[],_,_,h=>by have:=(h x).1 aj;cases this
 |x::a,y::b,h1,h2,h=>by
  rw[List.pairwise_cons] at h1 h2;have e:x=y:=by
   rcases List.mem_cons.1 ((h x).1 aj) with e|hx
   ·exact e
   ·rcases List.mem_cons.1 ((h y).2 aj) with e|hy
    ·exact e.symm
    ·exact(ha _ _ (h1.1 y hy) (h2.1 x hx)).elim
  subst e;rw[FH ha a b h1.2 h2.2 fun z=>⟨fun hz=>?_,fun hz=>?_⟩]
  ·rcases List.mem_cons.1 ((h z).1 (by simp[hz])) with e|DR
   ·subst e;exact(ha _ _ (h1.1 z hz) (h1.1 z hz)).elim
   ·exact DR
  ·rcases List.mem_cons.1 ((h z).2 (by simp[hz])) with e|DR
   ·subst e;exact(ha _ _ (h2.1 z hz) (h2.1 z hz)).elim
   ·exact DR
theorem wF{a b:List af}(ha:lS a)(hb:lS b)(h:∀x,x∈a↔x∈b):a=b:=by
 refine FH (lt:=fun x y=>Lib.compareBytes x.toList y.toList<0) (fun x y h1 h2=>?_) a b (List.pairwise_iff_getElem.2 fun i j hi hj Fi=>ha i j hi hj Fi) (List.pairwise_iff_getElem.2 fun i j hi hj Fi=>hb i j hi hj Fi) h;rw[sn x.toList y.toList] at h2;omega
theorem zX{rs cu:List aJ}{NM:aJ->List af}(p:cu.Perm rs):fq NM cu=fq NM rs:=by
 refine wF (oZ _).1 (oZ _).1 fun x=>?_;show x∈fq NM cu↔x∈fq NM rs;rw[sw,sw];constructor
 ·rintro⟨r,h1,h2,h3⟩;exact⟨r,p.mem_iff.1 h1,h2,fun h=>h3 (((p.map (·.out)).mem_iff).2 h)⟩
 ·rintro⟨r,h1,h2,h3⟩;exact⟨r,p.mem_iff.2 h1,h2,fun h=>h3 (((p.map (·.out)).mem_iff).1 h)⟩
section
variable {Fin:bL} {o:aN} {w:ae}
structure bB(ex:Nat->Prop)(o:aN)(w:ae)(o':aN)(w':ae):Prop where
 aG:bN au L0 o' w'
 more:∀b,o b->o' b
 new:∀b,o' b->o b\/w.heap.size<=b
 size:w.heap.size<=w'.heap.size
 same:∀b,b<w.heap.size->¬ex b->w'.heap[b]?=w.heap[b]?
theorem bB.refl{ex:Nat->Prop}(hF:bN au L0 o w):bB ex o w o w:=⟨hF,fun _ h=>h,fun _ h=>.inl h,ag _,fun _ _ _=>rfl⟩
theorem bB.trans{ex:Nat->Prop}{o1 o2:aN}{w1 w2:ae}(h:bB ex o w o1 w1)(k:bB ex o1 w1 o2 w2):bB ex o w o2 w2 :=
 ⟨k.aG,fun b hb=>k.more b (h.more b hb),fun b hb=>(k.new b hb).elim (fun q=>h.new b q) fun q=>.inr (by have:=h.size;omega),by have:=h.size;have:=k.size;omega,fun b hb hx=>(k.same b (by have:=h.size;omega) hx).trans (h.same b hb hx)⟩
theorem bB.mono{ex ex':Nat->Prop}{o1:aN}{w1:ae}(h:bB ex o w o1 w1)(he:∀b,ex b->ex' b):bB ex' o w o1 w1:=⟨h.aG,h.more,h.new,h.size,fun b hb hx=>h.same b hb fun q=>hx (he b q)⟩
theorem bB.eL{ex:Nat->Prop}{v:Value}{o1:aN}{w1:ae}(h:fY o w v o1 w1):bB ex o w o1 w1:=by
 refine⟨h.aG,fun b hb=>?_,fun b hb=>?_,h.size,fun b hb _=>h.old b hb⟩
 ·rw[h.own];exact .inl hb
 ·rw[h.own] at hb;exact hb.imp id fun q=>q.1
theorem ir.own{lo:Nat}{ts:List af}{v:Value}(h:ir lo ts v w):(v=.slice none 0 0/\ts=[])\/∃g cap,v=.slice (some ⟨g,0,none⟩) ts.length cap/\lo<=g/\g<w.heap.size/\fE w g 0 ts:=by
 rcases h with h|⟨g,cap,h1,h2,h3,h4,h5⟩
 ·exact .inl h
 ·exact .inr ⟨g,cap,h1,h3,h4,h5⟩
theorem fQ.found{B:vt}{old:Nat->Option (Nat×List V)}{o':aN}{w':ae}(h:fQ o w B none old)(hF:bN au L0 o w)(P:sW o w B.bb B.rs B.NM (fun y0 y1 y2=>K8 (.slice B.p B.rs.length B.c) (.int .u32 1) (.int .i32 0) (.int .u32 0) y0 y1 y2 (.slice (some ⟨B.Rb,0,none⟩) B.rs.length B.rs.length)) o' w'):
  ∃F,fQ o' w' B (some (w.heap.size,F)) old:=by
 obtain⟨cu,St,Or,cO,sv,y0,y1,y2,h1,h2,h3,h4⟩:=P.lay;have up:∀b,o b->o' b:=fun b hb=>by rw[P.own];exact .inl hb
 have nw:∀b,w.heap.size<=b->b<w'.heap.size->o' b:=fun b q1 q2=>by rw[P.own];exact .inr ⟨q1,q2⟩
 have lt:∀b,nI B none old b->b<w.heap.size:=fun b hb=>hF.lt (h.own b hb);have fy:∀b,AI ⟨cu,St,Or,cO,sv⟩ b->o' b:=fun b hb=>by
  rcases hb with rfl|rfl|⟨s,hs,rfl⟩|⟨l,c,e⟩
  ·exact nw _ h3.st.1 h3.st.2
  ·exact nw _ h3.or.1 h3.or.2
  ·exact nw _ (h3.ib s hs) (h3.steps.lt s hs)
  ·rcases h3.src with⟨q1,-⟩|⟨g,cap,q1,q2,q3,q4,q5⟩
   ·simp only at e;rw[q1] at e;cases e
   ·simp only at e;rw[q1] at e;cases e;exact nw _ q3 q4
 have sm:∀b,nI B none old b->b≠B.bb->w'.heap[b]?=w.heap[b]?:=fun b hb hn=>P.old b (lt b hb) hn;obtain⟨a1,a2,a3,a4,a5,a6,a7⟩:=h.apart;refine⟨⟨cu,St,Or,cO,sv⟩,fun b hb=>?_,h.right,h.rules.keep up (sm _ (.inr (.inl rfl)) a1) fun r hr hn=>sm _ (.inr (.inr (.inr (.inr (.inl ⟨r,hr,hn,rfl⟩))))) (a3 r hr hn),h.apart,⟨y0,y1,y2,by simpa using h4,fun lo F hf=>?_⟩,fun lo F hf=>?_,(fun hf=>by cases hf),?_,fun s hs r hr=>?_,fun s b vs hs ho=>?_,fun q hq=>?_⟩
 ·rcases hb with hb|hb|hb|hb|hb|⟨lo,F,hf,hb⟩|hb
  ·exact up _ (h.own b (.inl hb))
  ·exact up _ (h.own b (.inr (.inl hb)))
  ·exact up _ (h.own b (.inr (.inr (.inl hb))))
  ·exact up _ (h.own b (.inr (.inr (.inr (.inl hb)))))
  ·exact up _ (h.own b (.inr (.inr (.inr (.inr (.inl hb))))))
  ·cases hf;exact fy b hb
  ·exact up _ (h.own b (.inr (.inr (.inr (.inr (.inr (.inr hb)))))))
 ·cases hf;exact⟨h3,h1,h2,fy⟩
 ·cases hf;exact⟨lt _ (.inr (.inr (.inl rfl))),lt _ (.inl rfl)⟩
 ·obtain⟨cs,q1,q2⟩:=h.runs;exact⟨cs,(sm _ (.inr (.inr (.inl rfl))) a2).trans q1,q2⟩
 ·have:=h.fresh rfl s hs;rw[this];have q:=h.idle s hs r (fun lo F hf=>by cases hf);rw[this] at q;exact q.keep (sm _ (.inr (.inr (.inl rfl))) a2)
 ·rw[h.fresh rfl s hs] at ho;cases ho
 ·exact(cell_of (a:=⟨1,q,none⟩) (sm 1 (.inr (.inr (.inr (.inl rfl)))) aa)).trans (h.pow q hq)
theorem FI(hF:bN au L0 o w)(B:vt)(fd:Option (Nat×da))(old:Nat->Option (Nat×List V))(h:fQ o w B fd old):
  bA au (XB au Fin 0) 44 #[.pointer (some ⟨B.bb,0,none⟩)] o w fun v o' w'=>bB (·=B.bb) o w o' w'/\(∃lo F mid,fQ o' w' B (some (lo,F)) old/\(fd=some (lo,F)\/fd=none/\lo=w.heap.size)/\w.heap.size<=mid/\(∀b,nI B (some (lo,F)) old b->b<mid)/\∀g,v.ownBlock=some g->mid<=g)/\Cl au L0 o' v/\ir w.heap.size (fq B.NM B.rs) v w'/\∀g l c,v=.slice (some ⟨g,0,none⟩) l c->o' g:=by
 have W:=bY (P:=au) (Fin:=Fin) (d:=0);refine bD W func44 ar ?_;bP Tryz.f44;have uO:=h.own B.bb (.inl rfl);refine ax ?_;have hl:bA au (XB au Fin 0) 73 #[.pointer (some ⟨B.bb,0,none⟩)] o w fun v o' w'=>v=.pointer (some ⟨B.bb,4,none⟩)/\bB (·=B.bb) o w o' w'/\∃lo F,fQ o' w' B (some (lo,F)) old/\(fd=some (lo,F)\/fd=none/\lo=w.heap.size):=by
  obtain⟨y0,y1,y2,hb,hp⟩:=h.blk;cases fd with
  |none =>
   refine(MJ hF B.bb B.Ru B.c B.p B.rs B.NM B.NB h.rules uO h.apart.1 h.apart.2.2.1 _ y0 y1 y2 _ (by simpa using hb)).mono ?_;rintro v o' w' ⟨rfl,P⟩;refine⟨rfl,⟨P.aG,fun b hb=>by rw[P.own];exact .inl hb,fun b hb=>by rw[P.own] at hb;exact hb.imp id fun q=>q.1,P.size,fun b hb hn=>P.old b hb hn⟩,?_⟩;obtain⟨F,hq⟩:=h.found hF P;exact⟨_,F,hq,.inr ⟨rfl,rfl⟩⟩
  |some f =>
   obtain⟨lo,F⟩:=f;refine(Dd hF B.bb uO _ _ _ y0 y1 y2 _ (by simpa using hb)).mono ?_;rintro v o' w' ⟨rfl,N⟩;have hW:bB (·=B.bb) o w o' w':=bB.eL N;exact⟨rfl,hW,lo,F,h.keep hW.more hW.size fun b hb=>N.old b (hF.lt (h.own b hb)),.inl rfl⟩
 refine dC W rfl ar rfl func73 ah rfl aI rfl (hl.mono ?_);clear hl;rintro v1 o1 w1 ⟨rfl,W1,lo,F,h1,ain⟩;refine ax ?_;obtain⟨y0,y1,y2,hb,hp⟩:=h1.blk;have P:=hp lo F rfl;have aio:=W1.more _ uO;have oJ:=P.lay.val;simp only[Value.agg.injEq] at oJ;have hy2:y2=F.sv:=by
  have:=congrArg (fun a:Array Value=>a[2]?) oJ;simpa using this
 obtain⟨-,-,-,-,-,-,c6,-,-⟩:=nY hb;rw[hy2] at c6;have Qg:=P.lay.src;rw[zX P.perm] at Qg;have fB:Cl au L0 o1 F.sv:=by
  rcases Qg with⟨q1,-⟩|⟨g,cap,q1,-⟩
  ·rw[q1];exact iU
  ·rw[q1];exact ee (P.own g (.inr (.inr (.inr ⟨_,_,q1⟩))))
 refine lz W1.aG aio c6 fun _=>?_;refine ax ?_;have hC:bA au (XB au Fin 0) 51 #[F.sv] o1 w1 fun v o' w'=>fY o1 w1 v o' w'/\ir w1.heap.size (fq B.NM B.rs) v w':=by
  have hlen:(fq B.NM B.rs).length<=100000:=by
   have q1:=uN (lJ (B.rs.map (·.out)) (DZ B.NM B.rs) B.rs.length);have q2:=oY (B.rs.map (·.out)) (DZ B.NM B.rs) B.rs.length (fun i hi=>by rw[nt hi];exact h.right.four _ (aH hi)) B.rs.length (ag _);have q3:=h.rules.gY;have:(fq B.NM B.rs).length<=(lJ (B.rs.map (·.out)) (DZ B.NM B.rs) B.rs.length).length:=q1;omega
  rcases Qg with⟨q1,q2⟩|⟨g,cap,q1,q2,q3,q4,q5⟩
  ·exact Di W1.aG F.sv 0 0 none _ (by rw[q1,q2];rfl) hlen (fun _=>q2) (fun dJ=>absurd q2 dJ) (fun k hk=>by rw[q2] at hk;simp at hk) fB
  ·exact Di W1.aG F.sv g cap (some ⟨g,0,none⟩) _ q1 hlen (fun e=>by cases e) (fun _=>⟨rfl,P.own g (.inr (.inr (.inr ⟨_,_,q1⟩)))⟩) q5 fB
 refine dC W rfl ar rfl func51 ah rfl aI rfl (hC.mono ?_);rintro v2 o2 w2 ⟨N2,t2⟩;refine ax ?_;have W2:bB (·=B.bb) o1 w1 o2 w2:=bB.eL N2;have W02:=W1.trans W2;refine⟨.inr trivial,trivial,_,resultsC_tmp (t:=2) ar _,W02,⟨lo,F,w1.heap.size,h1.keep W2.more W2.size fun b hb=>N2.old b (W1.aG.lt (h1.own b hb)),ain,W1.size,fun b hb=>W1.aG.lt (h1.own b hb),fun g hg=>?_⟩,by simpa[Act.eval] using N2.cl,by simpa[Act.eval] using lB t2 W1.size (ag _) fun _ _ _=>rfl,fun g l c e=>?_⟩
 ·have e':v2.ownBlock=some g:=by simpa[Act.eval] using hg
  rcases t2 with⟨q1,-⟩|⟨g',cap,q1,q2,q3,q4,q5⟩
  ·rw[q1] at e';cases e'
  ·rw[q1] at e';cases e';exact q3
 have e':v2=.slice (some ⟨g,0,none⟩) l c:=by simpa[Act.eval] using e
 rcases t2 with⟨q1,-⟩|⟨g',cap,q1,q2,q3,q4,q5⟩
 ·rw[q1] at e';cases e'
 ·rw[q1] at e';cases e';rw[N2.own];exact .inr ⟨q3,q4⟩
end
section
open Go.ChangeShapes Go.WideShapes Go.Deep
theorem vu{ts:List TypeId}{k:IntKind}{P:Program}{w:ae}{t u:TypeId}{cs:Array Value}(Y5:P.cellTypes P.depth t=some ts)(iG:∀x∈ts,P.underlying x=some (.int k))(h:Row.ok P w .any 0 t cs)(f:Rn):cs.map (val f)=cs:=by
 obtain⟨Ra,e,-,hr⟩:=h;rw[Y5] at e;cases e;apply jA;intro i;rw[aL];cases hi:cs[i]? with
 |none=>rfl
 |some v =>
  obtain⟨u,hu,ho⟩:=hr i v hi;have:=iG u (List.mem_of_getElem? hu);unfold Cell.ok at ho;rw[this] at ho;cases v<;>simp at ho;simp
theorem QF{w:ae}(h:w.ShapedOpen au):bN au L0 (fun b=>b<4) w:=by
 have Rh:au.globals.size=4:=ah;have key:∀b,b<4->∃cs t,w.heap[b]?=some (.cells cs t)/\∀f:Rn,cs.map (val f)=cs:=by
  intro b hb;have nC:b=0\/b=1\/b=2\/b=3:=aa;rcases nC with rfl|rfl|rfl|rfl
  ·obtain⟨cs,e1,-,e2⟩:=h.1 0 (#[.int .i64 0]) 3 (by rw[Rh];omega) ah;exact⟨cs,_,e1,vu (ts:=[3]) (k:=.i64) (u:=0) ah (fun x hx=>by rw[List.mem_singleton.1 hx];exact underlying3) (e2 ah)⟩
  ·obtain⟨cs,e1,-,e2⟩:=h.1 1 (Array.replicate 20 (.int .u64 0)) 342 (by rw[Rh];omega) ah;exact⟨cs,_,e1,vu (ts:=List.replicate 20 212) (k:=.u64) (u:=0) ah (fun x hx=>by rw[gR hx];exact underlying212) (e2 ah)⟩
  ·obtain⟨cs,e1,-,e2⟩:=h.1 2 (Array.replicate 32 (.int .u8 0)) 347 (by rw[Rh];omega) ah;exact⟨cs,_,e1,vu (ts:=List.replicate 32 5) (k:=.u8) (u:=0) ah (fun x hx=>by rw[gR hx];exact underlying5) (e2 ah)⟩
  ·obtain⟨cs,e1,-,e2⟩:=h.1 3 (Array.replicate 64 (.int .u8 0)) 348 (by rw[Rh];omega) ah;exact⟨cs,_,e1,vu (ts:=List.replicate 64 5) (k:=.u8) (u:=0) ah (fun x hx=>by rw[gR hx];exact underlying5) (e2 ah)⟩
 refine⟨fun b hb=>?_,fun b hb=>by rw[Rh] at hb;exact hb,?_⟩
 ·obtain⟨cs,t,e1,e2⟩:=key b hb;exact⟨_,e1,rfl,fun f _=>by simp[obj,e2 f]⟩
 ·obtain⟨cs,t,e1,-⟩:=key 3 aa;have:=(Array.getElem?_eq_some_iff.1 e1).1;rw[Rh];omega
theorem aip{q:Nat}(hq:q<20):(match (YtgjekaaknjgnmaaGreatDoor.Rows.laid_internal_strconv_uint64pow10:DataW Unit) with|.agg l=>l[q]? | _=>none)=some (.lit (.int .u64 ((10^q:Nat):Int))):=by
 have Bm:q=0\/q=1\/q=2\/q=3\/q=4\/q=5\/q=6\/q=7\/q=8\/q=9\/q=10\/q=11\/q=12\/q=13\/q=14\/q=15\/q=16\/q=17\/q=18\/q=19:=aa;rcases Bm with rfl|rfl|rfl|rfl|rfl|rfl|rfl|rfl|rfl|rfl|rfl|rfl|rfl|rfl|rfl|rfl|rfl|rfl|rfl|rfl<;>rfl
theorem MN{w:ae}{r:List (String×DataW Unit)}(hr:r=[("math/bits.deBruijn32tab",YtgjekaaknjgnmaaGreatDoor.Rows.laid_math_bits_deBruijn32tab),("math/bits.deBruijn64tab",YtgjekaaknjgnmaaGreatDoor.Rows.laid_math_bits_deBruijn64tab),("internal/strconv.uint64pow10",YtgjekaaknjgnmaaGreatDoor.Rows.laid_internal_strconv_uint64pow10)])(h:laidMetH au r w):jb w:=by
 subst hr;rw[MakeChecks.laidMetH_plain _ _ _ ah] at h;obtain⟨ps,⟨g0,t0,cs0,f0,p0,q0,Zd,ht0,OT,DT,⟨g1,t1,tH,f1,p1,q1,KW,ht1,HV,hd1,⟨g2,t2,cs2,f2,p2,q2,DX,ht2,KU,U1,-,-⟩,-⟩,-⟩,-,-⟩:=h;clear DT hd1 OT HV Zd KW ht0 ht1;have e1:au.globalNamed "internal/strconv.uint64pow10" = some 1:=ah;have e2:(au.globals[1]?).map (·.type)=some 342:=ah;obtain rfl:=aR (e1.symm.trans DX);obtain rfl:=aR (e2.symm.trans ht2);obtain⟨xs,m,-,hx,fB,hxl,hel⟩:=DataW.trod_array underlying342 U1;have c1:au.cellsOf 212=1:=ah;intro q hq;have hp:=aip hq;rw[(Prod.mk.inj hx).1] at hp;simp only[List.getElem?_map] at hp;obtain⟨y,hy,e3⟩:=Option.map_eq_some_iff.1 hp;have hq2:=hel q hq;rw[hy,c1] at hq2;obtain⟨n,k1,k2,-⟩:=DataW.trod_int underlying212 hq2;rw[k2] at e3;simp only[DataW.lit.injEq,Lit.int.injEq,true_and] at e3;subst e3;have:=World.var?_cell DX KU q;rw[this];rw[Nat.mul_one] at k1;have k3:=congrArg (fun l=>l[0]?) k1;simp only[List.getElem?_take,List.getElem?_drop,Array.getElem?_toList] at k3;simpa using k3
end
theorem mE{Fin:bL}{d A:Nat}{o:aN}{w:ae}{fn:FuncId}{Q:Exit->Act->aN->ae->Prop}{x:Act}{ops:Array Oper}{i:Nat}{rest:List Nat}{e:Oper}{n0:Int}{y0:af}(n:Int)(y:af)(hF:bN au L0 o w)(oA:o A)(kA:w.heap[A]?=some (.cells #[.int .i64 n0,.string y0] 32))(k:∀w2,bN au L0 o w2->eK A w w2->w2.heap[A]?=some (.cells #[.int .i64 n,.string y] 32)->fa (XB au Fin d) fn ops rest Q (x.put none undef) o w2)(h5:ops[i]?=some e:=by rfl)(h6:Region.wanted e (yielded ops x.tmps)=true:=by rfl)(h7:∃p v,e.op=.store 32 p v/\x.eval p=.pointer (some ⟨A,0,none⟩)/\x.eval v=.agg #[.int .i64 n,.string y]:=by exact⟨_,_,rfl,rfl,rfl⟩)(h8:e.dst=none:=by rfl):fa (XB au Fin d) fn ops (i::rest) Q x o w:=by
 obtain⟨p,v,h7,h9,nH⟩:=h7;obtain⟨_,_,_,_,_,_⟩:=e;simp only at h7 h8;subst h7 h8;refine dz bS hF h5 h6 ar ?_ rfl (R:=fun wl aW=>aW=(wl.setCell ⟨A,0,none⟩ (.int .i64 n)).setCell ⟨A,1,none⟩ (.string y)) (fun wl aU=>⟨_,?_,rfl⟩) fun wl aW w2 aU hR bO=>?_
 ·intro z hz;simp[Op.operands] at hz;rcases hz with rfl|rfl
  ·rw[h9];exact bX oA
  ·rw[nH];refine fX (vs:=[_,_]) (fun x hx=>?_);simp at hx;rcases hx with rfl|rfl
   ·exact dU
   ·exact bU
 ·obtain⟨e0,e1,f0,f1⟩:=dQ ((aU.heap _ oA).trans kA);generalize Act.eval x=ev at h9 nH |-;simp[go_sem,h9,nH,e0,e1,f0,f1]
 have hO:eK A wl aW:=by rw[hR];exact AG _ _ _ _ _ _
 obtain⟨on,kA2,ey⟩:=bO.only aU oA hO;have rV:=bO.aG;rw[ey] at rV |-;rw[hR,TH ((aU.heap _ oA).trans kA)] at kA2;exact k w2 rV on kA2
open Go.ConcR (Payload)
section
variable {Fin:bL} {o:aN} {w:ae}
def mN(B:vt)(F:da)(file:af->V)(s:Nat):List V:=(DZ B.NM F.cu s).map (valOf B.rs B.NM file)
def lC(B:vt)(F:da)(file:af->V)(s:Nat):V:=valOf B.rs B.NM file (qW F.cu s)
def zY(B:vt)(F:da)(file:af->V)(Vb bn Nb Mb:Nat)(ch:Nat->Nat):nh where
 n:=B.rs.length
 bn:=bn
 Lb:=B.bb
 Lo:=4
 St:=F.St
 Vb:=Vb
 Rb:=B.Rb
 Nb:=Nb
 Mb:=Mb
 jV:=zS F.cu
 ins:=mA B.NM F.cu
 cO:=F.cO
 lI:=(fq B.NM B.rs).map file
 ch:=ch
def yM(B:vt)(F:da)(k:Nat):Nat:=(eE (mA B.NM F.cu) F.cu.length F.cu.length).getD k 0
theorem MO{B:vt}{F:da}(hR:mD B.rs B.NM B.RK)(hp:F.cu.Perm B.rs)(hS:lS (F.cu.map (·.out))):
  (eE (mA B.NM F.cu) F.cu.length F.cu.length).length=F.cu.length/\oX F.cu.length (eE (mA B.NM F.cu) F.cu.length F.cu.length)/\(∀s,s<F.cu.length->s∈eE (mA B.NM F.cu) F.cu.length F.cu.length)/\nX (mA B.NM F.cu) (eE (mA B.NM F.cu) F.cu.length F.cu.length):=by
 have hR':=hR.perm hp;refine Ty (mA B.NM F.cu) F.cu.length (fun s=>B.RK (qW F.cu s)) (fun s hs=>?_) (fun s hs m hm=>?_)
 ·rw[yK hs];exact hR'.low _ (aH hs)
 ·obtain⟨h1,h2⟩:=WI hS hs hm;refine⟨h1,?_⟩;rw[yK h1,yK hs];exact hR'.EA _ (aH hs) _ h2 (gK (aH h1))
theorem pX{B:vt}{F:da}(hR:mD B.rs B.NM B.RK)(hp:F.cu.Perm B.rs)(hS:lS (F.cu.map (·.out)))(file:af->V)(Vb bn Nb Mb:Nat)(ch:Nat->Nat){s:Nat}(hs:s<B.rs.length):dV (zY B F file Vb bn Nb Mb ch) (lC B F file) s=mN B F file s:=by
 have sP:s<F.cu.length:=by rw[hp.length_eq];exact hs
 rw[QE (hR.perm hp) hS (zY B F file Vb bn Nb Mb ch) file (lC B F file) rfl (by show(fq B.NM B.rs).map file=_;rw[zX hp]) (fun s hs=>by show valOf B.rs B.NM file _=_;rw[Dj hR hp]) sP];unfold mN;rw[nt sP];exact cg fun x _=>Dj hR hp file x
theorem FJ{B:vt}{F:da}(hR:mD B.rs B.NM B.RK)(hp:F.cu.Perm B.rs)(file:af->V){s:Nat}(hs:s<B.rs.length):lC B F file s=jc (zS F.cu s) (mN B F file s):=by
 have sP:s<F.cu.length:=by rw[hp.length_eq];exact hs
 unfold lC mN;rw[yK sP,Oj sP,nt sP];exact FD hR file (hp.mem_iff.1 (aH sP))
theorem sA{w:ae}{a b:Nat}{x y:Obj}(ha:w.heap[a]?=some x)(hb:w.heap[b]?=some y)(h:x≠y):a≠b:=fun e=>by
 subst e;rw[ha] at hb;exact h (aR hb)
theorem TQ{B:vt}{lo:Nat}{F:da}{old:Nat->Option (Nat×List V)}{file:af->V}{Vb bn Nb Mb nv:Nat}{ch:Nat->Nat}{o':aN}{w':ae}(hF:bN au L0 o w)(h:fQ o w B (some (lo,F)) old)(pF:∀x,(file x).2.size<=100)(Yu:o Vb)(hVr:Vb≠B.Rb)(hv:fe w Vb ((fq B.NM B.rs).map file))(hnv:nv=((fq B.NM B.rs).map file).length)(N:jY o w (.pointer (some ⟨B.bb,4,none⟩)) (.slice (some ⟨Vb,0,none⟩) nv nv) (.slice (some ⟨B.Rb,0,none⟩) B.rs.length B.rs.length) B.rs.length bn Nb Mb ch B.rs.length o' w'):
  ot (zY B F file Vb bn Nb Mb ch) (yM B F) (lC B F file) old F.Or o' w':=by
 subst hnv;obtain⟨y0,y1,y2,hb,hp⟩:=h.blk;have P:=hp lo F rfl;have hlen:=P.perm.length_eq;have hS:=uQ (h.right.perm P.perm).nodup P.sorted;obtain⟨k1,k2,k3,k4⟩:=MO h.right P.perm hS;have oJ:=P.lay.val;simp only[Value.agg.injEq] at oJ;have hy0:y0=.slice (some ⟨F.St,0,none⟩) F.cu.length F.cu.length:=by have:=congrArg (fun a:Array Value=>a[0]?) oJ;simpa using this
 have hy1:y1=.slice (some ⟨F.Or,0,none⟩) (eE (mA B.NM F.cu) F.cu.length F.cu.length).length F.cu.length:=by have:=congrArg (fun a:Array Value=>a[1]?) oJ;simpa using this
 rw[k1] at hy1;have iu:∀b,o b->w'.heap[b]?=w.heap[b]?:=fun b hb=>N.old b (hF.lt hb);have up:∀b,o b->o' b:=fun b hb=>by rw[N.own];exact .inl hb
 have lM:∀b,nI B (some (lo,F)) old b->o b:=h.own;have uO:=lM B.bb (.inl rfl);have JL:=lM B.Rb (.inr (.inr (.inl rfl)));have hLf:∀b,AI F b->o b:=P.own;have c8:=nY ((iu _ uO).trans hb);have c5:=Dg N.bn.2.2;have eI:pU w' F.St F.cu.length (qW F.cu) (zS F.cu) (mA B.NM F.cu) F.cO:=jG P.lay.steps (iu _ (hLf _ (.inl rfl))) (fun s hs=>iu _ (hLf _ (.inr (.inr (.inl ⟨s,hs,rfl⟩))))) N.size;have hRw:=hF.lt JL;have new:∀b,w.heap.size<=b->∀c,o c->c≠b:=fun b hb c hc e=>by have:=hF.lt hc;omega
 have aiq:∀s,s<B.rs.length->ch s≠Nb:=fun s hs=>sA (N.pC s hs).2.2 N.nb.2.2 aj;obtain⟨csM,hM,-,-⟩:=N.mb.2.2;have J5:∀c,o c->o' c/\c≠Nb/\∀s,s<B.rs.length->c≠ch s:=fun c hc=>⟨up c hc,new Nb N.nb.1 c hc,fun s hs=>new (ch s) (N.pC s hs).1 c hc⟩;have lsp:=(h.lo lo F rfl);have four:∀s,s<B.rs.length->(mA B.NM F.cu s).length<=4:=fun s hs=>by
  have sP:s<F.cu.length:=aa;unfold mA;rw[bR,nt sP];exact h.right.four _ (P.perm.mem_iff.1 (aH sP))
 have Pk:=h.apart;refine {E9:=⟨c5.1,c5.2.1,c5.2.2.1,c5.2.2.2.1,c5.2.2.2.2.1,?_,fun s hs=>eI.eU s (by rw[hlen];exact hs),fun s hs=>eI.A9 s (by rw[hlen];exact hs),fun s hs j hj=>eI.CR s (by rw[hlen];exact hs) j hj,(hv.of_block (iu _ Yu)).lI,fun s hs=>?_⟩,pow:=fun q hq=>(cell_of (a:=⟨1,q,none⟩) (iu 1 (lM 1 (.inr (.inr (.inr (.inl rfl))))))).trans (h.pow q hq),order:=?_,Mq:=fun k hk=>?_,still:=fun b hb=>?_,pC:=fun s hs=>⟨?_,?_,aiq s hs,0,0,false,(N.pC s hs).2.2⟩,xY:=N.inj,CW:=up _ JL,CX:=?_,apart:=(J5 _ JL).2.1,R0:=?_,N0:=⟨_,N.nb.2.2,by simp[size_madeCells];rfl⟩,idle:=fun s hs=>⟨?_,?_,?_,⟨_,_,N.nb.2.2⟩⟩,xk:=fun s b vs hs ho=>?_,qT:=fun i hi=>?_,Z5:=fun i j hi hj e=>?_,Z6:=fun s hs=>?_,dep:=fun i hi m hm=>?_,src:=fun s hs m hm=>?_,short:=four,gY:=by show B.rs.length<=_;have:=h.rules.gY;omega,Wf:=?_,made:=fun s hs=>?_,eU:=fun s hs=>?_,size:=fun s hs=>?_}
 ·show w'.cell? ⟨B.bb,4,none⟩=some (.slice (some ⟨F.St,0,none⟩) B.rs.length B.rs.length);rw[c8.2.2.2.2.1,hy0,hlen]
 ·have sP:s<B.rs.length:=hs;have:=N.mb.2.2.cell sP;rw[if_pos sP] at this;exact this
 ·show w'.cell? ⟨B.bb,5,none⟩=some (.slice (some ⟨F.Or,0,none⟩) B.rs.length B.rs.length);rw[c8.2.2.2.2.2.1,hy1,hlen]
 ·have lX:k<F.cu.length:=by rw[hlen];exact hk
  exact(World.rowIs.of_block P.lay.ord (iu _ (hLf _ (.inr (.inl rfl))))).cell lX
 ·rcases hb with hb|rfl|rfl|rfl|hb|rfl|rfl|⟨s,hs,rfl⟩|⟨s,vs,hs,ho⟩
  ·have e:b=bn:=hb;rw[e];exact⟨by rw[N.own];exact .inr ⟨N.bn.1,N.bn.2.1⟩,fun e=>new bn N.bn.1 _ JL e.symm,sA N.bn.2.2 N.nb.2.2 aj,fun s hs=>sA N.bn.2.2 (N.pC s hs).2.2 aj⟩
  ·obtain⟨q1,q2,q3⟩:=J5 _ uO;exact⟨q1,fun e=>Pk.2.1 e.symm,q2,q3⟩
  ·obtain⟨q1,q2,q3⟩:=J5 _ (hLf F.St (.inl rfl));exact⟨q1,fun e=>by have:=P.ge (b:=F.St) (.inl rfl);have e:F.St=B.Rb:=e;omega,q2,q3⟩
  ·obtain⟨q1,q2,q3⟩:=J5 _ Yu;exact⟨q1,hVr,q2,q3⟩
  ·have e:b=Mb:=hb;rw[e];exact⟨by rw[N.own];exact .inr ⟨N.mb.1,N.mb.2.1⟩,fun e=>new Mb N.mb.1 _ JL e.symm,sA hM N.nb.2.2 (by intro e;cases e),fun s hs=>sA hM (N.pC s hs).2.2 aj⟩
  ·obtain⟨q1,q2,q3⟩:=J5 _ (hLf F.Or (.inr (.inl rfl)));exact⟨q1,fun e=>by have:=P.ge (b:=F.Or) (.inr (.inl rfl));have e:F.Or=B.Rb:=e;omega,q2,q3⟩
  ·obtain⟨q1,q2,q3⟩:=J5 _ (lM 1 (.inr (.inr (.inr (.inl rfl)))));exact⟨q1,fun e=>by have e:1=B.Rb:=e;omega,q2,q3⟩
  ·have hl:AI F (F.cO s):=.inr (.inr (.inl ⟨s,by rw[hlen];exact hs,rfl⟩));obtain⟨q1,q2,q3⟩:=J5 _ (hLf _ hl);exact⟨q1,fun e=>by have:=P.ge hl;have e:F.cO s=B.Rb:=e;omega,q2,q3⟩
  ·obtain⟨q1,q2,q3⟩:=J5 _ (lM b (.inr (.inr (.inr (.inr (.inr (.inr ⟨s,vs,hs,ho⟩)))))));obtain⟨-,-,r3,-⟩:=h.xk s b vs hs ho;exact⟨q1,fun e=>by have e:b=B.Rb:=e;omega,q2,q3⟩
 ·show o' (ch s);rw[N.own];exact .inr ⟨(N.pC s hs).1,(N.pC s hs).2.1⟩
 ·exact fun e=>new (ch s) (N.pC s hs).1 _ JL e.symm
 ·show o' Nb;rw[N.own];exact .inr ⟨N.nb.1,N.nb.2.1⟩
 ·obtain⟨cs,q1,q2⟩:=h.runs;exact⟨cs,(iu _ JL).trans q1,q2⟩
 ·have q:=(h.idle s hs (zS F.cu s) (fun TJ F' hf=>by cases hf;rfl)).keep (iu _ JL);cases hx:old s with
  |none=>rw[hx] at q;exact⟨q.1,q.2.1,q.2.2.1,q.2.2.2⟩
  |some x=>rw[hx] at q;exact⟨q.1,q.2.1,q.2.2.1,q.2.2.2⟩
 ·have sP:s<B.rs.length:=hs;show w'.cell? ⟨Nb,s,none⟩=some (.bool false);simp[World.cell?,N.nb.2.2,madeCells,sP,Nat.mod_one]
 ·obtain⟨cs,q1,q2⟩:=h.runs;exact⟨cs,_,(iu _ JL).trans q1⟩
 ·obtain⟨q1,q2,-⟩:=h.xk s b vs hs ho;exact⟨(q1.of_block (iu _ (lM b (.inr (.inr (.inr (.inr (.inr (.inr ⟨s,vs,hs,ho⟩))))))))).lI,q2⟩
 ·have mn:i<(eE (mA B.NM F.cu) F.cu.length F.cu.length).length:=by rw[k1,hlen];exact hi
  show yM B F i<B.rs.length;unfold yM;rw[<- hlen];simp only[List.getD,bp mn,br];exact k2.2 _ (aH mn)
 ·have mn:i<(eE (mA B.NM F.cu) F.cu.length F.cu.length).length:=by rw[k1,hlen];exact hi
  have sk:j<(eE (mA B.NM F.cu) F.cu.length F.cu.length).length:=by rw[k1,hlen];exact hj
  unfold yM at e;simp only[List.getD,bp mn,bp sk,br] at e;have nd:=List.pairwise_iff_getElem.1 k2.1;rcases gd i j with q|q|q
  ·exact absurd e (nd i j mn sk q)
  ·exact q
  ·exact absurd e.symm (nd j i sk mn q)
 ·obtain⟨i,hi,e⟩:=bf (k3 s (by rw[hlen];exact hs));refine⟨i,by show i<B.rs.length;rw[<- hlen,<- k1];exact hi,?_⟩;unfold yM;simp only[List.getD,bp hi,br];exact e
 ·have mn:i<(eE (mA B.NM F.cu) F.cu.length F.cu.length).length:=by rw[k1,hlen];exact hi
  have e1:yM B F i=(eE (mA B.NM F.cu) F.cu.length F.cu.length)[i]:=by
   unfold yM;simp only[List.getD,bp mn,br]
  have hm':(true,m)∈mA B.NM F.cu (yM B F i):=hm;rw[e1] at hm';obtain⟨k,hk,Pu,e⟩:=k4 i mn m hm';refine⟨k,Pu,?_⟩;unfold yM;simp only[List.getD,bp hk,br];exact e
 ·have sP:s<F.cu.length:=by rw[hlen];exact hs
  have:=WJ hS sP hm;rw[zX P.perm] at this;show m<((fq B.NM B.rs).map file).length;rw[bR];exact this
 ·show((fq B.NM B.rs).map file).length<=100000;rw[bR];have q1:=uN (lJ (B.rs.map (·.out)) (DZ B.NM B.rs) B.rs.length);have q2:=oY (B.rs.map (·.out)) (DZ B.NM B.rs) B.rs.length (fun i hi=>by rw[nt hi];exact h.right.four _ (aH hi)) B.rs.length (ag _);have q3:=h.rules.gY;have:(fq B.NM B.rs).length<=(lJ (B.rs.map (·.out)) (DZ B.NM B.rs) B.rs.length).length:=q1;omega
 ·rw[pX h.right P.perm hS file Vb bn Nb Mb ch hs];exact FJ h.right P.perm file hs
 ·have sP:s<F.cu.length:=by rw[hlen];exact hs
  show 1<=zS F.cu s/\zS F.cu s<=5;rw[Oj sP];exact h.right.eU _ (P.perm.mem_iff.1 (aH sP))
 ·rw[pX h.right P.perm hS file Vb bn Nb Mb ch hs];have sP:s<F.cu.length:=by rw[hlen];exact hs
  have q:∀t∈(mN B F file s).map (·.2),t.size<=100:=fun t ht=>by
   obtain⟨x,hx,rfl⟩:=List.mem_map.1 ht;obtain⟨y,-,rfl⟩:=List.mem_map.1 hx;exact FG h.right.four pF _ y
  have q2:=J3 q;have q3:((mN B F file s).map (·.2)).length<=4:=by
   rw[bR];unfold mN;rw[bR,nt sP];exact h.right.four _ (P.perm.mem_iff.1 (aH sP))
  omega
theorem Dl{w w':ae}{bn Lb Lo St Rb Nb n:Nat}{out:Nat->af}{eU:Nat->Int}{ins:Nat->List (Bool×Nat)}{cO:Nat->Nat}{res:Nat->Kz.V}{jX:Nat->Bool}(h:pW w bn Lb Lo St Rb Nb n out eU ins cO res jX)(hz:w.heap.size<=w'.heap.size)(e:∀b,b=bn\/b=Lb\/b=St\/b=Rb\/b=Nb\/(∃s,s<n/\b=cO s)->w'.heap[b]?=w.heap[b]?):pW w' bn Lb Lo St Rb Nb n out eU ins cO res jX where
 b0:=(cell_of (e bn (.inl rfl))).trans h.b0
 b2:=(cell_of (e bn (.inl rfl))).trans h.b2
 b3:=(cell_of (e bn (.inl rfl))).trans h.b3
 st:=(cell_of (e Lb (.inr (.inl rfl)))).trans h.st
 steps:=jG h.steps (e St (.inr (.inr (.inl rfl)))) (fun s hs=>e _ (.inr (.inr (.inr (.inr (.inr ⟨s,hs,rfl⟩)))))) hz
 r2 s hs:=(cell_of (e Rb (.inr (.inr (.inr (.inl rfl)))))).trans (h.r2 s hs)
 r3 s hs:=(cell_of (e Rb (.inr (.inr (.inr (.inl rfl)))))).trans (h.r3 s hs)
 jX s hs:=(cell_of (e Nb (.inr (.inr (.inr (.inr (.inl rfl))))))).trans (h.jX s hs)
 lbn:=by have:=h.lbn;omega
 lLb:=by have:=h.lLb;omega
 lSt:=by have:=h.lSt;omega
 lRb:=by have:=h.lRb;omega
 lNb:=by have:=h.lNb;omega
def mO(old:Nat->Option (Nat×List V))(ins:Nat->List V)(s:Nat):Bool:=match old s with
 |none=>true
 |some (_,vs)=>!decide (vs=ins s)
theorem fQ.built{B:vt}{lo:Nat}{F:da}{old:Nat->Option (Nat×List V)}{file:af->V}{Vb bn Nb Mb:Nat}{ch:Nat->Nat}{o1 o2:aN}{w1 w2:ae}(hF:bN au L0 o w)(rV:bN au L0 o2 w2)(h:fQ o w B (some (lo,F)) old)(om:∀b,o b->o1 b)(hz:w.heap.size<=w1.heap.size)(hold:∀b,b<w.heap.size->w1.heap[b]?=w.heap[b]?)(Gv:w.heap.size<=Nb)(vK:∀s,s<B.rs.length->w.heap.size<=ch s)(Q:Tk (zY B F file Vb bn Nb Mb ch) (lC B F file) old o1 w1 o2 w2):
  (∃iu,fQ o2 w2 B (some (lo,F)) iu/\∀s,s<B.rs.length->∃b,iu s=some (b,mN B F file s)/\((∃vs,old s=some (b,vs))\/w.heap.size<=b))/\(∀b,b<w.heap.size->b≠B.Rb->w2.heap[b]?=w.heap[b]?) /\
   ∀s,s<B.rs.length->w2.cell? ⟨B.Rb,s*4+2,none⟩=some (.bool (lC B F file s).1)/\w2.cell? ⟨B.Rb,s*4+3,none⟩=some (.string (lC B F file s).2)/\w2.cell? ⟨Nb,s,none⟩=some (.bool (mO old (mN B F file) s)):=by
 obtain⟨y0,y1,y2,hb,hp⟩:=h.blk;have P:=hp lo F rfl;have hlen:=P.perm.length_eq;have hS:=uQ (h.right.perm P.perm).nodup P.sorted;have lM:∀b,nI B (some (lo,F)) old b->o b:=h.own;have sm:∀b,b<w.heap.size->b≠B.Rb->w2.heap[b]?=w.heap[b]?:=fun b hb hn=>by
  rw[Q.same b aa hn (fun e=>by have e:b=Nb:=e;omega) (fun s hs e=>by have e:b=ch s:=e;have:=vK s hs;omega)];exact hold b hb
 have up:∀b,o b->o2 b:=fun b hb=>Q.more b (om b hb);have lsp:=h.lo lo F rfl;obtain⟨a1,a2,a3,a4,a5,a6,a7⟩:=h.apart;have hRw:B.Rb<w.heap.size:=hF.lt (lM _ (.inr (.inr (.inl rfl))));have gB:B.bb<w.heap.size:=hF.lt (lM _ (.inl rfl));have run:∀s,∃b,s<B.rs.length->wz (zY B F file Vb bn Nb Mb ch) s w2 b (mN B F file s) (lC B F file s)/\fe w2 b (mN B F file s)/\o2 b/\B.Rb<b/\B.bb<b/\((∃vs,old s=some (b,vs))\/w.heap.size<=b):=fun s=>by
  by_cases hs:s<B.rs.length
  ·have q:=Q.runs s hs;rw[pX h.right P.perm hS file Vb bn Nb Mb ch hs] at q;rcases q with⟨b,q1,q2,q3⟩|⟨q1,b,q2,q3,q4,q5⟩
   ·obtain⟨r1,r2,r3,r4⟩:=h.xk s b _ hs q1;have gj:=lM b (.inr (.inr (.inr (.inr (.inr (.inr ⟨s,_,hs,q1⟩))))));exact⟨b,fun _=>⟨q2,r1.of_block (sm b (hF.lt gj) aa),up b gj,r3,r4,.inl ⟨_,q1⟩⟩⟩
   ·have:=q2.2;exact⟨b,fun _=>⟨q4,q3,q2.1,aa,aa,.inr aa⟩⟩
  ·exact⟨0,fun e=>absurd e hs⟩
 obtain⟨f,hf⟩:∃f:Nat->Nat,∀s,s<B.rs.length->wz (zY B F file Vb bn Nb Mb ch) s w2 (f s) (mN B F file s) (lC B F file s)/\fe w2 (f s) (mN B F file s)/\o2 (f s)/\B.Rb<f s/\B.bb<f s/\((∃vs,old s=some (f s,vs))\/w.heap.size<=f s):=⟨fun s=>Classical.choose (run s),fun s=>Classical.choose_spec (run s)⟩;have l4:∀s,s<B.rs.length->(mN B F file s).length<=4:=fun s hs=>by
  have sP:s<F.cu.length:=aa;unfold mN;rw[bR,nt sP];exact h.right.four _ (P.perm.mem_iff.1 (aH sP))
 refine⟨⟨fun s=>some (f s,mN B F file s),⟨fun b hb=>?_,h.right,h.rules.keep up (sm _ (hF.lt (lM _ (.inr (.inl rfl)))) a6) fun r hr hn=>sm _ (hF.lt (lM _ (.inr (.inr (.inr (.inr (.inl ⟨r,hr,hn,rfl⟩))))))) (a7 r hr hn),h.apart,⟨y0,y1,y2,(sm _ gB fun e=>a2 e.symm).trans hb,fun TJ F' UP=>?_⟩,h.lo,(fun e=>by cases e),Q.R0,fun s hs r hr=>?_,fun s b vs hs ho=>?_,fun q hq=>?_⟩,fun s hs=>⟨f s,rfl,(hf s hs).2.2.2.2.2⟩⟩,sm,fun s hs=>?_⟩
 ·rcases hb with hb|hb|hb|hb|hb|hb|⟨s,vs,hs,ho⟩
  ·exact up _ (lM b (.inl hb))
  ·exact up _ (lM b (.inr (.inl hb)))
  ·exact up _ (lM b (.inr (.inr (.inl hb))))
  ·exact up _ (lM b (.inr (.inr (.inr (.inl hb)))))
  ·exact up _ (lM b (.inr (.inr (.inr (.inr (.inl hb))))))
  ·exact up _ (lM b (.inr (.inr (.inr (.inr (.inr (.inl hb)))))))
  ·cases ho;exact(hf s hs).2.2.1
 ·cases UP;exact P.keep (fun b hb=>up _ (P.own b hb)) (by have:=Q.size;omega) fun b hb=>sm b (hF.lt (P.own b hb)) (by have:=P.ge hb;omega)
 ·have UY:=hr lo F rfl;obtain⟨q1,-⟩:=hf s hs;rw[UY];have e:=FJ h.right P.perm file hs;refine⟨q1.c0,q1.c1,?_,?_⟩
  ·rw[<- e];exact q1.c2
  ·rw[<- e];exact q1.c3
 ·cases ho;obtain⟨-,q2,-,q4,q5,-⟩:=hf s hs;exact⟨q2,by have:=l4 s hs;omega,q4,q5⟩
 ·exact(cell_of (a:=⟨1,q,none⟩) (sm 1 (hF.lt (lM 1 (.inr (.inr (.inr (.inl rfl)))))) aa)).trans (h.pow q hq)
 ·obtain⟨q1,-⟩:=hf s hs;refine⟨q1.c2,q1.c3,?_⟩;have q:=Q.runs s hs;rw[pX h.right P.perm hS file Vb bn Nb Mb ch hs] at q;rcases q with⟨b,q1,q2,q3⟩|⟨q1,b,q2,q3,q4,q5⟩
  ·have:mO old (mN B F file) s=false:=by simp[mO,q1]
   rw[this];exact q3
  ·have:mO old (mN B F file) s=true:=by
    unfold mO;cases ho:old s with
    |none=>rfl
    |some x =>
     obtain⟨b',vs⟩:=x;have:vs≠mN B F file s:=fun e=>q1 b' (by rw[ho,e]);simp[this]
   rw[this];exact q5
theorem Om[Payload](hF:bN au L0 o w)(B:vt)(lo:Nat)(F:da)(old:Nat->Option (Nat×List V))(h:fQ o w B (some (lo,F)) old)(file:af->V)(pF:∀x,(file x).2.size<=100)(Vb nv:Nat)(Yu:o Vb)(hVr:Vb≠B.Rb)(hv:fe w Vb ((fq B.NM B.rs).map file))(hnv:nv=((fq B.NM B.rs).map file).length):
  bA au (XB au Fin 0) 42 #[.pointer (some ⟨B.bb,0,none⟩),.slice (some ⟨Vb,0,none⟩) nv nv] o w fun v o' w'=>∃R rv iu,v=.tuple #[.slice (some ⟨R,0,none⟩) B.rs.length B.rs.length,rv]/\bB (·=B.Rb) o w o' w'/\fQ o' w' B (some (lo,F)) iu/\(∀s,s<B.rs.length->∃b,iu s=some (b,mN B F file s)/\((∃vs,old s=some (b,vs))\/w.heap.size<=b)) /\
   (w.heap.size<=R/\o' R/\w'.rowIs R 65 (B.rs.length*3) (hZ (qW F.cu) (lC B F file) B.rs.length))/\ir w.heap.size (rN (qW F.cu) (mO old (mN B F file)) B.rs.length) rv w'/\Cl au L0 o' rv/\(∀g l c,rv=.slice (some ⟨g,0,none⟩) l c->o' g)/\∃mid,w.heap.size<=mid/\mid<=R/\(∀b,nI B (some (lo,F)) iu b->b<mid)/\∀g,rv.ownBlock=some g->mid<=g:=by
 have W:=bY (P:=au) (Fin:=Fin) (d:=0);refine bD W func42 ar ?_;bP Tryz.f42;have air:=hnv.symm;clear hnv;have uO:=h.own B.bb (.inl rfl);have JL:=h.own B.Rb (.inr (.inr (.inl rfl)));have hn8:=h.rules.gY;obtain⟨y0,y1,y2,hb,hp⟩:=h.blk;have P:=hp lo F rfl;have hb:w.heap[B.bb]?=some (K8 (.slice B.p B.rs.length B.c) (.int .u32 1) (.int .i32 0) (.int .u32 0) y0 y1 y2 (.slice (some ⟨B.Rb,0,none⟩) B.rs.length B.rs.length)):=by simpa using hb
 have gB:=hF.lt uO;refine ax ?_;refine dS mixed ah [some none,some none,some none,some (some (.pointer (some ⟨B.bb,4,none⟩))),some none,some none,some none,some none,some (some (.slice (some ⟨B.Rb,0,none⟩) B.rs.length B.rs.length)),none,some none]
  (S:=fun σ o' w'=>(σ 9=none/\bB (fun _=>False) o w o' w')\/(∃y,σ 9=some y/\∃o1 w1 bn Nb Mb ch,bB (fun _=>False) o w o1 w1/\y=.pointer (some ⟨bn,0,none⟩)/\jY o1 w1 (.pointer (some ⟨B.bb,4,none⟩)) (.slice (some ⟨Vb,0,none⟩) nv nv) (.slice (some ⟨B.Rb,0,none⟩) B.rs.length B.rs.length) B.rs.length bn Nb Mb ch B.rs.length o' w')) ?_ fun v=>?_
 ·exact .inl ⟨rfl,bB.refl hF⟩
 refine dR ?_;refine cE ?_;refine jU rfl rfl ar rfl func73 ah rfl (av:=#[.pointer (some ⟨B.bb,0,none⟩)]) aI (fun σ o' w' H hS=>?_) ?_
 ·rcases hS with⟨h9,hW⟩|⟨y,h9,-⟩
  ·refine(Dd hW.aG B.bb (hW.more _ uO) _ _ _ y0 y1 y2 _ ((hW.same _ gB id).trans hb)).mono ?_;rintro v' o2 w2 ⟨rfl,N⟩;exact⟨rfl,.inl ⟨h9,hW.trans (bB.eL N)⟩⟩
  ·rw[H.xz 9 ah] at h9;cases h9
 refine cE ?_;refine cq bS rfl rfl rfl ar ar (fun σ o' w' H hS=>?_) ?_
 ·rcases hS with⟨h9,hW⟩|⟨y,h9,-⟩
  ·have mq:=hW.more _ uO;refine⟨hW.aG,fun y hy=>?_,fun wl aU=>?_⟩
   ·simp[Op.operands] at hy;subst hy;simp[Act.eval];exact bX mq
   ·have c7:=(nY ((hW.same _ gB id).trans hb)).2.2.2.2.2.2.2.1;simp[go_sem,(aU.cell mq).trans c7]
  ·rw[H.xz 9 ah] at h9;cases h9
 aE;refine vm rfl rfl ar rfl func72 ah rfl (av:=#[.pointer (some ⟨B.bb,4,none⟩),.slice (some ⟨Vb,0,none⟩) nv nv,.slice (some ⟨B.Rb,0,none⟩) B.rs.length B.rs.length]) aI (fun σ o' w' H h9 hS=>?_) ?_
 ·rcases hS with⟨-,hW⟩|⟨y,h9',-⟩
  ·refine(MK hW.aG B.bb 4 Vb nv B.Rb B.rs.length aa (hW.more _ uO) (hW.more _ Yu) (hW.more _ JL)).mono ?_;rintro y o2 w2 ⟨bn,Nb,Mb,ch,rfl,N⟩;exact .inr ⟨_,by simp[fR],o',w',bn,Nb,Mb,ch,hW,rfl,N⟩
  ·rw[h9] at h9';cases h9'
 refine cE ?_;refine cD fun σ o2 w2 mC hS=>?_;rcases hS with⟨h9,-⟩|⟨y,h9,o1,w1,bn,Nb,Mb,ch,hW,rfl,N⟩
 ·rw[mC 9 eA rfl] at h9;cases h9
 have hv9:v 9=.pointer (some ⟨bn,0,none⟩):=by
  have:=mC 9 eA rfl;rw[h9] at this;exact(aR this).symm
 rw[hv9];simp only[iM,dK,if_true,if_false,reduceIte,Nat.reduceEqDiff];refine ax ?_;have h1:=h.keep hW.more hW.size fun b hb=>hW.same b (hF.lt (h.own b hb)) id;have BA:=TQ hW.aG h1 pF (hW.more _ Yu) hVr (hv.of_block (hW.same _ (hF.lt Yu) id)) air.symm N;refine dC W rfl ar rfl func74 ah rfl (by simp[Act.eval];rfl) rfl ((Qk N.aG BA).mono ?_);rintro v3 o3 w3 ⟨rfl,Q,pE⟩;refine ax ?_;obtain⟨⟨iu,zb,pK⟩,sm,rr⟩:=h1.built hW.aG pE (fun b hb=>by rw[N.own];exact .inl hb) N.size N.old N.nb.1 (fun s hs=>(N.pC s hs).1) Q;have aav:o2 bn:=by rw[N.own];exact .inr ⟨N.bn.1,N.bn.2.1⟩
 obtain⟨-,n1,n2,n3⟩:=BA.still bn (.inl rfl);have sJ:w3.heap[bn]?=w2.heap[bn]?:=Q.same bn (N.aG.lt aav) n1 n2 n3;have c5:=Dg (sJ.trans N.bn.2.2);obtain⟨z0,z1,z2,xA,hp3⟩:=zb.blk;have P3:=hp3 lo F rfl;have hlen:=P3.perm.length_eq;have oJ:=P3.lay.val;simp only[Value.agg.injEq] at oJ;have Y8:z0=.slice (some ⟨F.St,0,none⟩) F.cu.length F.cu.length:=by have:=congrArg (fun a:Array Value=>a[0]?) oJ;simpa using this
 have ad9:=zb.own B.bb (.inl rfl);have aea:=zb.own B.Rb (.inr (.inr (.inl rfl)));have aeb:o3 Nb:=Q.more _ (by rw[N.own];exact .inr ⟨N.nb.1,N.nb.2.1⟩);have TR:pW w3 bn B.bb 4 F.St B.Rb Nb B.rs.length (qW F.cu) (zS F.cu) (mA B.NM F.cu) F.cO (lC B F file) (mO old (mN B F file)) :=
  ⟨c5.1,c5.2.2.1,c5.2.2.2.1,by rw[(nY xA).2.2.2.2.1,Y8,hlen],by rw[<- hlen];exact P3.lay.steps,fun s hs=>(rr s hs).1,fun s hs=>(rr s hs).2.1,fun s hs=>(rr s hs).2.2,pE.lt (Q.more _ aav),pE.lt ad9,pE.lt (P3.own _ (.inl rfl)),pE.lt aea,pE.lt aeb⟩
 have r8:∀b,b=bn\/b=B.bb\/b=F.St\/b=B.Rb\/b=Nb\/(∃s,s<B.rs.length/\b=F.cO s)->o3 b:=by
  rintro b (rfl|rfl|rfl|rfl|rfl|⟨s,hs,rfl⟩)
  ·exact Q.more _ aav
  ·exact ad9
  ·exact P3.own _ (.inl rfl)
  ·exact aea
  ·exact aeb
  ·exact P3.own _ (.inr (.inr (.inl ⟨s,aa,rfl⟩)))
 refine cj func75 (QB pE bn B.bb 4 F.St B.Rb Nb B.rs.length _ _ _ _ _ _ aa TR r8) ?_;rintro v4 o4 w4 ⟨N4,rfl,z4,ais⟩;refine ax ?_;have u4:∀b,o3 b->o4 b:=fun b hb=>by rw[N4.own];exact .inl hb
 have ait:=Dl TR N4.size fun b hb=>N4.old b (pE.lt (r8 b hb));refine cj func76 (QC N4.aG bn B.bb 4 F.St B.Rb Nb B.rs.length _ _ _ _ _ _ aa ait (fun b hb=>u4 _ (r8 b hb))) ?_;rintro v5 o5 w5 ⟨N5,t5⟩;refine ax ?_;have W4:bB (·=B.Rb) o3 w3 o4 w4:=bB.eL N4;have W5:bB (·=B.Rb) o4 w4 o5 w5:=bB.eL N5;have zQ:=Q.size;have zN:=N.size;have zW:=hW.size;have W3:bB (·=B.Rb) o w o3 w3:=by
  refine⟨pE,fun b hb=>Q.more _ (by rw[N.own];exact .inl (hW.more _ hb)),fun b hb=>?_,aa,fun b hb hx=>?_⟩
  ·rcases Q.new b hb with q|q
   ·rw[N.own] at q;rcases q with q|q
    ·rcases hW.new b q with q|q
     ·exact .inl q
     ·exact .inr q
    ·exact .inr aa
   ·exact .inr aa
  ·rw[sm b aa hx];exact hW.same b hb id
 have W45:=W4.trans W5;refine⟨.inr trivial,trivial,_,resultsC_tmp2 (t:=4) (u:=5) ar _,w3.heap.size,v5,iu,aI,W3.trans W45,zb.keep W45.more W45.size fun b hb=>?_,fun s hs=>(pK s hs).imp fun b q=>⟨q.1,q.2.imp id fun e=>aa⟩,⟨aa,W5.more _ (by rw[N4.own];exact .inr ⟨ag _,z4⟩),World.rowIs.of_block ais (N5.old _ z4)⟩,lB t5 (by have:=N4.size;omega) (ag _) (fun _ _ _=>rfl),N5.cl,fun g l c e=>?_,w3.heap.size,aa,ag _,fun b hb=>pE.lt (zb.own b hb),fun g hg=>?_⟩
 ·have hl:=pE.lt (zb.own b hb);rw[N5.old b (by have:=N4.size;omega),N4.old b hl]
 ·rcases t5 with⟨q1,-⟩|⟨g',cap,q1,q2,q3,q4,q5⟩
  ·rw[q1] at e;cases e
  ·rw[q1] at e;cases e;rw[N5.own];exact .inr ⟨q3,q4⟩
 ·rcases t5 with⟨q1,-⟩|⟨g',cap,q1,q2,q3,q4,q5⟩
  ·rw[q1] at hg;cases hg
  ·rw[q1] at hg;have e:g'=g:=aR hg;have:=N4.size;omega
end
def nu(w:ae)(r:Nat)(l:List (af×Value)):Prop:=∃es clock,w.heap[r]?=some (.map es clock)/\es.toList.map (fun e=>(e.key,e.val))=l.map fun p=>(Value.string p.1,p.2)
theorem nu.of_block{w w':ae}{r:Nat}{l:List (af×Value)}(h:nu w r l)(e:w'.heap[r]?=w.heap[r]?):nu w' r l:=by
 obtain⟨es,c,h1,h2⟩:=h;exact⟨es,c,e.trans h1,h2⟩
def eW{α:Type}:List (af×α)->af->Option α
 | [],_=>none
 | (k,v)::l,x=>if x=k then some v else eW l x
def gS{α:Type}:List (af×α)->af->α->List (af×α)
 | [],x,v=>[(x,v)]
 | (k,u)::l,x,v=>if x=k then(x,v)::l else(k,u)::gS l x v
def ma{α:Type}:List (af×α)->af->List (af×α)
 | [],_=>[]
 | (k,u)::l,x=>if x=k then l else(k,u)::ma l x
def sX:List (af×Value)->af->Nat->Option (Nat×Value)
 | [],_,_=>none
 | (k,v)::l,x,i=>if x=k then some (i,v) else sX l x (i+1)
theorem On(a b:af):(a==b)=decide (a=b):=by
 by_cases h:a=b
 ·rw[(MapKept.bytes_beq a b).2 h];simp[h]
 ·cases hb:(a==b) with
  |false=>simp[h]
  |true=>exact absurd ((MapKept.bytes_beq a b).1 hb) h
theorem rF(x:af):∀(es:List MapEntry) (l:List (af×Value)) (i:Nat),es.map (fun e=>(e.key,e.val))=l.map (fun p=>(Value.string p.1,p.2))->Instr.findNow .string (.string x) es i=some (sX l x i)
 | [],[],i,_=>rfl
 | [],_::_,i,h=>by simp at h
 |_::_,[],i,h=>by simp at h
 |e::es,(k,v)::l,i,h=>by
  simp only[aA,cx,bu] at h;obtain⟨⟨h1,h2⟩,h3⟩:=h;unfold Instr.findNow;rw[h1];simp only[Instr.sameNow,On];by_cases hx:x=k
  ·subst hx;simp[sX,h2]
  ·simp only[sX,if_neg hx,decide_eq_false hx];exact rF x es l (i+1) h3
theorem J6(x:af):∀(l:List (af×Value)) (i:Nat),(sX l x i).map (·.2)=eW l x
 | [],i=>rfl
 | (k,v)::l,i=>by
  by_cases hx:x=k
  ·simp[sX,eW,hx]
  ·simp only[sX,eW,if_neg hx];exact J6 x l (i+1)
theorem yN{x:af}{v:Value}:∀{l:List (af×Value)} {i j:Nat} {u:Value},sX l x i=some (j,u)->i<=j/\j<i+l.length/\gS l x v=l.set (j-i) (x,v)/\(l.map (·.1))[j-i]?=some x
 | [],i,j,u,h=>by cases h
 | (k,w)::l,i,j,u,h=>by
  by_cases hx:x=k
  ·simp only[sX,if_pos hx,ay,bu] at h;obtain⟨rfl,rfl⟩:=h;simp[gS,hx]
  ·simp only[sX,if_neg hx] at h;obtain⟨h1,h2,h3,h4⟩:=yN (v:=v) h;have e:j-i=(j-(i+1))+1:=aa;refine⟨aa,dX,?_,?_⟩
   ·rw[e];simp[gS,if_neg hx,h3]
   ·rw[e];simpa using h4
theorem J7{x:af}:∀{l:List (af×Value)} {i j:Nat} {u:Value},sX l x i=some (j,u)->ma l x=l.eraseIdx (j-i)
 | [],i,j,u,h=>by cases h
 | (k,w)::l,i,j,u,h=>by
  by_cases hx:x=k
  ·simp only[sX,if_pos hx,ay,bu] at h;obtain⟨rfl,rfl⟩:=h;simp[ma,hx]
  ·simp only[sX,if_neg hx] at h;have h1:=(yN (v:=u) h).1;have e:j-i=(j-(i+1))+1:=aa;rw[e];simp only[ma,if_neg hx,List.eraseIdx_cons_succ];rw[J7 h]
theorem zZ{x:af}{v:Value}:∀{l:List (af×Value)} {i:Nat},sX l x i=none->gS l x v=l++[(x,v)]/\ma l x=l
 | [],i,h=>by simp[gS,ma]
 | (k,w)::l,i,h=>by
  by_cases hx:x=k
  ·simp[sX,if_pos hx] at h
  ·simp only[sX,if_neg hx] at h;obtain⟨h1,h2⟩:=zZ (v:=v) h;simp[gS,ma,if_neg hx,h1,h2]
section
variable {P:Program} {w:ae} {r:Nat} {l:List (af×Value)} {x:af} {mt kt et:TypeId}
theorem AJ(hm:P.underlying mt=some (.map kt et))(hk:P.underlying kt=some .string)(h:nu w r l){z:Value}(hz:(zeroValue et).run P w=.ok z w):(Instr.lookup mt (.map (some r)) (.string x) false).run P w=.ok ((eW l x).getD z) w:=by
 obtain⟨es,c,h1,h2⟩:=h;have hf:=rF x es.toList l 0 h2;have hc:∀e,(Instr.checkKey e 10000 kt (.string x)).run P w=.ok () w:=fun e=>MapKept.run_checkKey (k:=.string x) hk (by simp[MapKept.IsKey]) e 9999;rw[<- J6 x l 0];cases hi:sX l x 0 with
 |none =>
  rw[hi] at hf;simp[Instr.lookup,run_underlying hm,MapKept.run_getObj_map h1,hc,MapKept.run_findKey hk hf,Result.andThen,hz]
 |some q =>
  rw[hi] at hf;simp[Instr.lookup,run_underlying hm,MapKept.run_getObj_map h1,hc,MapKept.run_findKey hk hf,Result.andThen]
def qE(w:ae)(r:Nat)(x:Obj):ae:={w with heap:=w.heap.setIfInBounds r x}
theorem pe(hm:P.underlying mt=some (.map kt et))(hk:P.underlying kt=some .string)(h:nu w r l)(v:Value):∃X,(Instr.mapUpdate mt (.map (some r)) (.string x) v).run P w=.ok () (qE w r X)/\nu (qE w r X) r (gS l x v):=by
 obtain⟨es,c,h1,h2⟩:=h;have hf:=rF x es.toList l 0 h2;have hc:∀e,(Instr.checkKey e 10000 kt (.string x)).run P w=.ok () w:=fun e=>MapKept.run_checkKey (k:=.string x) hk (by simp[MapKept.IsKey]) e 9999;have cB:r<w.heap.size:=(Array.getElem?_eq_some_iff.1 h1).1;have pw:∀X,(qE w r X).heap[r]?=some X:=fun X=>by simp[qE,cB]
 cases hi:sX l x 0 with
 |none =>
  rw[hi] at hf;refine⟨_,by simp[Instr.mapUpdate,run_underlying hm,MapKept.run_getObj_map h1,hc,MapKept.run_findKey hk hf,MapKept.run_setObj_map _ h1,Result.andThen];rfl,_,_,pw _,?_⟩;rw[(zZ (v:=v) hi).1];simp[h2]
 |some q =>
  obtain⟨j,u⟩:=q;rw[hi] at hf;obtain⟨-,hj,hp,R7⟩:=yN (v:=v) hi;rw[Nat.sub_zero] at hp R7;have hlen:es.size=l.length:=by simpa using congrArg List.length h2
  have sk:j<es.size:=aa;have aiv:es[j].key=.string x:=by
   have:=congrArg (fun q=>q[j]?) h2;simp only[List.getElem?_map,Array.getElem?_toList,Array.getElem?_eq_getElem sk,aK] at this;cases hl:l[j]? with
   |none=>rw[hl] at this;cases this
   |some q =>
    rw[hl] at this;rw[eG,hl] at R7;simp at this R7;rw[this.1,R7]
  have X2:Instr.sameBits 10000 (.string x) (.string x)=true:=by
   unfold Instr.sameBits;rw[On];simp
  refine⟨_,by simp[Instr.mapUpdate,run_underlying hm,MapKept.run_getObj_map h1,hc,MapKept.run_findKey hk hf,MapKept.run_setObj_map _ h1,Result.andThen,Instr.keyThatStays,sk,aiv,X2];rfl,_,_,pw _,?_⟩;rw[hp];apply ga;intro k;have R2:=congrArg (fun q=>q[k]?) h2;simp only[List.getElem?_map,Array.getElem?_toList] at R2 |-;rw[aS];by_cases e:j=k
  ·subst e;simp[Array.getElem?_eq_getElem sk,show j<l.length by omega]
  ·rw[if_neg e,List.getElem?_set_ne e];exact R2
theorem J8(hm:P.underlying mt=some (.map kt et))(hk:P.underlying kt=some .string)(h:nu w r l)(ty:TypeId):∃X,(Builtin.delete_ #[mt,kt] ty #[.map (some r),.string x]).run P w=.ok (.tuple #[]) (qE w r X)/\nu (qE w r X) r (ma l x):=by
 obtain⟨es,c,h1,h2⟩:=h;have hf:=rF x es.toList l 0 h2;have hc:∀e,(Instr.checkKey e 10000 kt (.string x)).run P w=.ok () w:=fun e=>MapKept.run_checkKey (k:=.string x) hk (by simp[MapKept.IsKey]) e 9999;have cB:r<w.heap.size:=(Array.getElem?_eq_some_iff.1 h1).1;have pw:∀X,(qE w r X).heap[r]?=some X:=fun X=>by simp[qE,cB]
 cases hi:sX l x 0 with
 |none =>
  rw[hi] at hf;refine⟨_,by simp[Builtin.delete_,run_underlying hm,MapKept.run_getObj_map h1,hc,MapKept.run_findKey hk hf,MapKept.run_setObj_map _ h1,Result.andThen];rfl,_,_,pw _,?_⟩;rw[(zZ (v:=.bool true) hi).2];exact h2
 |some q =>
  obtain⟨j,u⟩:=q;rw[hi] at hf;refine⟨_,by simp[Builtin.delete_,run_underlying hm,MapKept.run_getObj_map h1,hc,MapKept.run_findKey hk hf,MapKept.run_setObj_map _ h1,Result.andThen];rfl,_,_,pw _,?_⟩;have hd:=J7 hi;rw[Nat.sub_zero] at hd;rw[hd];have hlen:es.size=l.length:=by simpa using congrArg List.length h2
  have sk:j<es.size:=by have:=(yN (v:=u) hi).2.1;omega
  simp only[Array.eraseIdxIfInBounds,sk,dif_pos];rw[Array.toList_eraseIdx];have em:∀{α β:Type} (f:α->β) (l:List α) (j:Nat),(l.eraseIdx j).map f=(l.map f).eraseIdx j:=fun f l j=>by
   induction l generalizing j with
   |nil=>rfl
   |cons a l ih=>cases j with
    |zero=>rfl
    |succ j=>simp[ih]
  rw[em,em,h2]
theorem WL(h:nu w r l):∃es c,w.heap[r]?=some (.map es c)/\es.size=l.length:=by
 obtain⟨es,c,h1,h2⟩:=h;exact⟨es,c,h1,by simpa using congrArg List.length h2⟩
end
def sB{α:Type}(f:α->Value)(l:List (af×α)):List (af×Value):=l.map fun p=>(p.1,f p.2)
theorem Hc{α:Type}(f:α->Value)(x:af):∀l:List (af×α),eW (sB f l) x=(eW l x).map f
 | []=>rfl
 | (k,v)::l=>by
  have:=Hc f x l;simp only[sB,aA,eW] at this |-;split
  ·rfl
  ·exact this
theorem vv{α:Type}(f:α->Value)(x:af)(v:α):∀l:List (af×α),gS (sB f l) x (f v)=sB f (gS l x v)
 | []=>rfl
 | (k,u)::l=>by
  have:=vv f x v l;simp only[sB,aA,gS] at this |-;split
  ·rfl
  ·rw[this];rfl
theorem Oo{α:Type}(f:α->Value)(x:af):∀l:List (af×α),ma (sB f l) x=sB f (ma l x)
 | []=>rfl
 | (k,u)::l=>by
  have:=Oo f x l;simp only[sB,aA,ma] at this |-;split
  ·rfl
  ·rw[this];rfl
theorem WM{α:Type}(f:α->Value)(l:List (af×α)):(sB f l).length=l.length:=by simp[sB]
theorem yO{P:Program}(W:ae)(base:Nat)(t ty e:TypeId)(i:TypeInfo)(z:Value)(size bytes:Nat)(ht:P.underlying t=some (.slice e))(hi:P.info? e=some i)(hz:i.zero=some z)(rn:i.size=size)(hby:i.bytes=bytes)(v:Value)(n:Nat)(xs:List Value)(fy:W.ownsRow base e size v n xs)(a:Addr)(c:Nat)(news:List Value)(hl:news.length=1*size)(JJ:∀j u,news[j]?=some u->W.cell? (a.add j)=some u)(h1:∀u∈news,u.oneCell'=true)(h63:n<=100000)(aaw:(n+1)*bytes<=140737488355328){v':Value}{W':ae}(hr:(Builtin.append_ #[t,t] ty #[v,.slice (some a) 1 c]).run P W=.ok v' W'):v'.ownBlock=v.ownBlock\/v'.ownBlock=some W.heap.size:=by
 subst rn hby;rcases fy.2 with⟨rfl,rfl⟩|⟨g,cap,cur,rfl,hbg,hg,hnc,hcm,Pd,alk⟩
 ·have h:=run_append_nil (P:=P) W t ty e i z ht hi hz a 1 c news hl JJ aa aa aa;rw[hr] at h;injection h with h _;rw[h];exact .inr rfl
 ·by_cases Yw:n+1<=cap
  ·have aiw:n*i.size+news.length<=cur.size:=by rw[hl,Pd,<- Nat.add_mul];exact iV _ Yw
   have h:=run_append_room (P:=P) W t ty e i ht hi g n cap cur hg a 1 c news hl JJ h1 Yw aiw;rw[hr] at h;injection h with h _;rw[h];exact .inl rfl
  ·have h:=run_append_grow (P:=P) W t ty e i z ht hi hz ⟨g,0,none⟩ n cap xs fy.1 (fy.cells (g:=g) rfl) a 1 c news hl JJ aa aa (growslice_fits aa aaw);rw[hr] at h;injection h with h _;rw[h];exact .inr rfl
theorem J9{P:Program}{L:Nat->Bool}{o:aN}{w:ae}(hF:bN P L o w){g:Nat}(hg:¬o g):∃f:Rn,(mM P L o).has f/\f.b g≠g:=by
 obtain⟨g',Aw,dJ,hG'⟩:∃g',¬o g'/\g'≠g/\P.globals.size<=g':=⟨g+w.heap.size+P.globals.size+1,fun h=>by have:=hF.lt h;omega,aa,aa⟩;have hG:P.globals.size<=g:=di fun h=>hg (hF.kz g h);refine⟨⟨fun x=>if x=g then g' else if x=g' then g else x,id,id,id⟩,⟨fun x y h=>?_,fun r hr=>?_,fun _ _=>rfl,fun r=>?_⟩,by simp;exact dJ⟩
 ·simp only at h;by_cases h1:x=g<;>by_cases h2:y=g<;>by_cases h3:x=g'<;>by_cases h4:y=g'<;>simp_all
 ·have h1:r≠g:=fun e=>hg (e▸hr);have h2:r≠g':=fun e=>Aw (e▸hr);simp[h1,h2,mM]
 ·simp only[mM];by_cases h1:r=g
  ·simp[h1];omega
  ·by_cases h2:r=g'
   ·simp[h1,h2,dJ];omega
   ·simp[h1,h2]
theorem Hd{P:Program}{L:Nat->Bool}{o:aN}{w:ae}(hF:bN P L o w){g off l c:Nat}(h:Cl P L o (.slice (some ⟨g,off,none⟩) l c)):o g:=a8 fun hg=>by
 obtain⟨f,hf,dJ⟩:=J9 hF hg;have:=h f hf;simp only[val,aK,addr,Value.slice.injEq,ay,Addr.mk.injEq] at this;exact dJ this.1.1
section
variable {Fin:bL} {o:aN} {w:ae}
theorem WO(hF:bN au L0 o w)(K off n c:Nat)(p:Option Addr)(lost:Bool)(hK:o K)(h0:w.cell? ⟨K,off,none⟩=some (.slice p n c))(h1:w.cell? ⟨K,off+1,none⟩=some (.bool lost)):
  bA au (XB au Fin 0) 103 #[.pointer (some ⟨K,off,none⟩)] o w fun v o' w'=>v=.bool (decide (0<n)||lost)/\o'=o/\w'=w:=by
 have W:=bY (P:=au) (Fin:=Fin) (d:=0);refine bD W func103 ar ?_;bP Tryz.f103;refine ax ?_;refine lz hF hK h0 fun _=>?_;aE;rcases bh n with hn|hn
 ·subst hn;refine ax ?_;refine lz hF hK h1 fun _=>?_;refine ax ?_;exact⟨.inr trivial,trivial,_,resultsC_tmp (t:=2) ar _,aI⟩
 ·have hnI:(0:Int)<(n:Int):=aa;refine ax ?_;exact⟨.inr trivial,trivial,_,resultsC_tmp (t:=2) ar _,by simp[Act.eval,hn]⟩
theorem WQ(hF:bN au L0 o w)(K off t n:Nat)(g:Nat->Value)(hK:o K)(hr:w.rowIs K t n g)(hn:off+1<n):
  bA au (XB au Fin 0) 104 #[.pointer (some ⟨K,off,none⟩)] o w fun v o' w'=>v=.tuple #[]/\o'=o/\bN au L0 o w'/\eK K w w'/\w'.rowIs K t n (fun j=>if j=off+1 then .bool false else if j=off then .slice none 0 0 else g j):=by
 have W:=bY (P:=au) (Fin:=Fin) (d:=0);refine bD W func104 ar ?_;bP Tryz.f104;refine ax ?_;refine dz bS hF rfl ar ar ?_ rfl (R:=fun wl aW=>aW=(wl.setCell ⟨K,off,none⟩ (.slice none 0 0)).setCell ⟨K,off+1,none⟩ (.bool false)) (fun wl aU=>⟨_,?_,rfl⟩) fun wl aW w9 aU hR bO=>?_
 ·refine ja ?_ ?_
  ·exact bX hK
  ·exact fX (vs:=[_,_]) (fun x hx=>by
    simp at hx;rcases hx with rfl|rfl
    ·exact iU
    ·exact nf)
 ·have rl:=World.rowIs.of_block hr (aU.heap K hK);have e0:=rl.cell (i:=off) aa;have e1:=rl.cell (i:=off+1) hn;have f:=rl.frozen;simp[go_sem,e0,e1,f]
 have hO:eK K wl aW:=by rw[hR];exact AG _ _ _ _ _ _
 obtain⟨lV,ow,e9⟩:=bO.only aU hK hO;have mB:=bO.aG;rw[e9] at mB |-;refine ax ?_;refine⟨.inl trivial,trivial,.tuple #[],fun w1=>results_none ah _ _,aj,aj,mB,lV,?_⟩;rw[hR] at ow;exact World.rowIs.of_block (((World.rowIs.of_block hr (aU.heap K hK)).set off _).set (off+1) _) ow
theorem MP(hF:bN au L0 o w)(b c:Nat)(p:Option Addr)(ts:List af)(x:af)(hn:ts.length<=100000)(hq:ts≠[]->p=some ⟨b,0,none⟩/\o b)(ht:fE w b 0 ts)(hc:Cl au L0 o (.slice p ts.length c)):
  bA au (XB au Fin 0) 80 #[.slice p ts.length c,.string x] o w fun v o' w'=>v=.bool (Lib.containsS ts x)/\fY o w v o' w':=by
 refine bA.mono (eF ah hF (fun y hy=>by simp at hy;rcases hy with rfl|rfl;exact hc;exact bU) (Q:=fun wl v w'=>v=.bool (Lib.containsS ts x)) (fun wl Ba v w1 w2 e1 e2 h=>h) (fun wl hz aU=>?_)) (fun v o' w' hq=>⟨hq.2.choose_spec.choose_spec.2.2.2,hq.1⟩);by_cases dJ:ts=[]
 ·subst dJ;refine(Tryz.slices_Contains_string_empty p c x wl).mono fun e w' hq=>?_;obtain⟨rfl,rfl⟩:=hq;refine⟨_,rfl,ag _,fun _ _=>rfl,?_⟩;cases hx:Lib.containsS [] x with
  |false=>rfl
  |true=>have:=(Lib.containsS_iff [] x).1 hx;cases this
 ·obtain⟨rfl,hb⟩:=hq dJ;refine(yH b c ts x wl hn (dh ht (aU b hb))).mono fun e w' hq=>?_;obtain⟨rfl,rfl⟩:=hq;exact⟨_,rfl,ag _,fun _ _=>rfl,rfl⟩
structure QG(o:aN)(w:ae)(v:Value)(ts:List af):Prop where
 row:∃lo,lo<=w.heap.size/\w.ownsRow lo 9 1 v ts.length (ts.map .string)
 cl:Cl au L0 o v
theorem QG.view{v:Value}{ts:List af}(h:QG o w v ts)(hF:bN au L0 o w):∃p b c,v=.slice p ts.length c/\(p=none->ts=[])/\(ts≠[]->p=some ⟨b,0,none⟩/\o b)/\fE w b 0 ts/\(∀g,v.ownBlock=some g->o g):=by
 obtain⟨lo,vO,cp⟩:=h.row;have ht:=uP cp (fun _ _ _=>rfl) rfl;rcases ht with⟨q1,q2⟩|⟨g,cap,q1,q2,q3,q4,q5⟩
 ·exact⟨none,0,0,by rw[q1,q2];rfl,fun _=>q2,fun dJ=>absurd q2 dJ,fun k hk=>by rw[q2] at hk;simp at hk,fun g hg=>by rw[q1] at hg;cases hg⟩
 ·have hc:=h.cl;rw[q1] at hc;have hg:=Hd hF hc;exact⟨_,g,cap,q1,(fun e=>by cases e),fun _=>⟨rfl,hg⟩,q5,fun g' Aw=>by rw[q1] at Aw;cases Aw;exact hg⟩
theorem QG.keep{v:Value}{ts:List af}{o':aN}{w':ae}(h:QG o w v ts)(om:∀b,o b->o' b)(hz:w.heap.size<=w'.heap.size)(e:∀g,v.ownBlock=some g->w'.heap[g]?=w.heap[g]?):QG o' w' v ts:=by
 obtain⟨lo,vO,cp⟩:=h.row;exact⟨⟨lo,aa,dF cp fun g hg _=>e g hg.symm⟩,h.cl.up om⟩
def jH(ts:List af)(lost:Bool)(x:af):List af×Bool:=if Lib.containsS ts x then(ts,lost) else if 4<=ts.length then(ts,true) else(ts++[x],lost)
theorem Yx(hF:bN au L0 o w)(K off t n:Nat)(g:Nat->Value)(qv:Value)(ts:List af)(lost:Bool)(x:af)(hK:o K)(hQ:QG o w qv ts)(dJ:qv.ownBlock≠some K)(hr:w.rowIs K t n g)(hn:off+1<n)(h0:g off=qv)(h1:g (off+1)=.bool lost)(hl:ts.length<=1000):
  bA au (XB au Fin 0) 48 #[.pointer (some ⟨K,off,none⟩),.string x] o w fun v o' w'=>v=.tuple #[]/\bB (fun b=>b=K\/qv.ownBlock=some b) o w o' w'/\∃qX,QG o' w' qX (jH ts lost x).1/\(∀b,qX.ownBlock=some b->b≠K/\(qv.ownBlock=some b\/w.heap.size<=b))/\w'.rowIs K t n (fun j=>if j=off+1 then .bool (jH ts lost x).2 else if j=off then qX else g j):=by
 have W:=bY (P:=au) (Fin:=Fin) (d:=0);refine bD W func48 ar ?_;bP Tryz.f48;obtain⟨p,b,c,rfl,v1,v2,v3,v4⟩:=hQ.view hF;have hKw:=hF.lt hK;have cell0:∀{w':ae},w'.rowIs K t n g->w'.cell? ⟨K,off,none⟩=some (.slice p ts.length c):=fun h=>by rw[h.cell aa,h0]
 refine ax ?_;refine lz (v:=.slice p ts.length c) hF hK (cell0 hr) fun _=>?_;refine ax ?_;refine cj func80 (MP hF b c p ts x aa v2 v3 hQ.cl) ?_;rintro v3' o3 w3 ⟨rfl,N3⟩;have W3:bB (fun b=>b=K\/(Value.slice p ts.length c).ownBlock=some b) o w o3 w3:=bB.eL N3;have WS:=W3.more _ hK;have Er:=World.rowIs.of_block hr (N3.old K hKw);have hQ3:QG o3 w3 (.slice p ts.length c) ts:=hQ.keep W3.more W3.size fun g hg=>N3.old g (hF.lt (v4 g hg));cases hcx:Lib.containsS ts x with
 |true =>
  refine ax ?_;have Yy:jH ts lost x=(ts,lost):=by simp[jH,hcx]
  refine⟨.inr trivial,trivial,.tuple #[],fun w1=>results_none ah _ _,aj,W3,_,by rw[Yy];exact hQ3,fun g hg=>⟨fun e=>dJ (by rw[hg,e]),.inl hg⟩,?_⟩;rw[Yy];refine Er.congr fun j _=>?_;by_cases e1:j=off+1
  ·rw[if_pos e1,e1,h1]
  ·by_cases e0:j=off
   ·rw[if_neg e1,if_pos e0,e0,h0]
   ·rw[if_neg e1,if_neg e0]
 |false =>
  refine ax ?_;refine lz (v:=.slice p ts.length c) W3.aG WS (cell0 Er) fun _=>?_;aE;by_cases h4:4<=ts.length
  ·have hlI:(4:Int)<=(ts.length:Int):=aa;refine ax ?_;have Yy:jH ts lost x=(ts,true):=by simp[jH,hcx,h4]
   refine dz bS W3.aG rfl ar ar ?_ rfl (R:=fun wl aW=>aW=wl.setCell ⟨K,off+1,none⟩ (.bool true)) (fun wl aU=>⟨_,?_,rfl⟩) fun wl aW w9 aU hR bO=>?_
   ·exact ja (bX WS) nf
   ·have rl:=World.rowIs.of_block Er (aU.heap K WS);have e1:=rl.cell (i:=off+1) hn;rw[h1] at e1;have f:=rl.frozen;simp[go_sem,e1,f]
   have hO:eK K wl aW:=by rw[hR];exact je _ _ _ _
   obtain⟨lV,ow,e9⟩:=bO.only aU WS hO;have mB:=bO.aG;rw[e9] at mB |-;refine ax ?_;have W9:bB (fun b=>b=K\/(Value.slice p ts.length c).ownBlock=some b) o3 w3 o3 w9:=⟨mB,fun _ h=>h,fun _ h=>.inl h,bH lV.1.symm,fun b _ hb=>lV.2 b fun e=>hb (.inl e)⟩;refine⟨.inr trivial,trivial,.tuple #[],fun w1=>results_none ah _ _,aj,W3.trans W9,_,by rw[Yy];exact hQ3.keep (fun _ h=>h) (bH lV.1.symm) (fun g hg=>lV.2 g fun e=>dJ (by rw[hg,e])),fun g hg=>⟨fun e=>dJ (by rw[hg,e]),.inl hg⟩,?_⟩;rw[hR] at ow;rw[Yy];refine World.rowIs.of_block (((World.rowIs.of_block Er (aU.heap K WS)).set (off+1) _).congr fun j _=>?_) ow;by_cases e1:j=off+1
   ·rw[if_pos e1,if_pos e1]
   ·by_cases e0:j=off
    ·rw[if_neg e1,if_neg e1,if_pos e0,e0,h0]
    ·rw[if_neg e1,if_neg e1,if_neg e0]
  ·have hlI:¬(4:Int)<=(ts.length:Int):=aa;refine ax ?_;have Yy:jH ts lost x=(ts++[x],lost):=by simp[jH,hcx,h4]
   refine lz (v:=.slice p ts.length c) W3.aG WS (cell0 Er) fun _=>?_;refine ax ?_;refine dv bS W3.aG rfl ar ar ?_ rfl (R:=fun wl v aW=>v=.slice (some ⟨wl.heap.size,0,none⟩) 1 1/\aW=wl.alloc (.cells #[.string x] 9)) (fun wl aU=>⟨_,_,fU,rfl,rfl⟩) fun wl v5 aW w5 aU hR5 bO=>?_
   ·exact ng bU
   obtain⟨rfl,hR5⟩:=hR5;obtain⟨z5,k5,MQ⟩:=bO.alloc W3.aG aU hR5;have FA:=bO.aG;rw[aU.size];clear hR5 bO aU wl aW;aE;have u5:∀b,o3 b->grow o3 w3 w5 b:=fun b hb=>.inl hb;have xj:grow o3 w3 w5 w3.heap.size:=.inr ⟨ag _,aa⟩;have hQ5:QG (grow o3 w3 w5) w5 (.slice p ts.length c) ts:=hQ3.keep u5 aa fun g hg=>k5 g (W3.aG.lt (W3.more _ (v4 g hg)));obtain⟨lo,vO,cp⟩:=hQ5.row;refine dv bS FA rfl ar ar ?_ rfl (R:=fun wl v aW=>aW.ownsRow lo 9 1 v (ts++[x]).length ((ts++[x]).map .string)/\wl.grownBy aW (Value.slice p ts.length c).ownBlock/\(v.ownBlock=(Value.slice p ts.length c).ownBlock\/v.ownBlock=some wl.heap.size)) (fun wl aU=>?_) fun wl v6 aW w6 aU hR6 bO=>?_
   ·intro y hy;simp[Op.operands,Call.operands] at hy;rcases hy with rfl|rfl
    ·simp[Act.eval];exact hQ5.cl
    ·simp[Act.eval];exact ee xj
   ·obtain⟨v',W',e1,e2,e3⟩:=qC wl lo (.slice p ts.length c) ts x w3.heap.size (dF cp fun g hg _=>aU.heap g (u5 _ (W3.more _ (v4 g hg.symm)))) aa (by rw[aU.size];exact vO) ((C9 ((aU.heap _ xj).trans MQ)).1);refine⟨v',W',jF (.tmp 23) (.tmp 25) 40 rfl aI aI e1,e2,e3,?_⟩;obtain⟨i,hi,ov⟩:=Option.map_eq_some_iff.1 qx;simp only[bu] at ov;refine yO wl lo 40 40 9 i _ 1 16 underlying40 hi ov.1 ov.2.1 ov.2.2 _ ts.length (ts.map .string) (dF cp fun g hg _=>aU.heap g (u5 _ (W3.more _ (v4 g hg.symm)))) ⟨w3.heap.size,0,none⟩ 1 [.string x] rfl (fun j u hj=>?_) (by simp;rfl) aa aa e1;cases j with
    |zero=>simp at hj;subst hj;simpa[Addr.add] using(C9 ((aU.heap _ xj).trans MQ)).1
    |succ j=>simp at hj
   obtain⟨Oq,Ej,Yz⟩:=hR6;rw[aU.size] at Yz;have Es:=bO.aG;have aax:Cl au L0 (grow (grow o3 w3 w5) w5 w6) v6:=bO.val;have z6:=bO.jq;have aed:∀b,b<w5.heap.size->(Value.slice p ts.length c).ownBlock≠some b->w6.heap[b]?=w5.heap[b]?:=fun b hb Ve=>by
    by_cases ho:grow o3 w3 w5 b
    ·rw[bO.same b (.inl ho),Ej.block b (by rw[aU.size];exact hb) (fun e=>Ve e.symm),aU.heap b ho]
    ·exact bO.rest b hb ho
   have Ka:∀b,v6.ownBlock=some b->grow (grow o3 w3 w5) w5 w6 b:=fun b hb=>by
    obtain⟨-,gf⟩:=Oq;rcases gf with⟨rfl,-⟩|⟨g',cap,cur,rfl,-⟩
    ·cases hb
    ·cases hb;exact Hd Es aax
   have Jz:w6.ownsRow lo 9 1 v6 (ts++[x]).length ((ts++[x]).map .string):=dF Oq fun b hb _=>bO.same b (Ka b hb.symm);have hv6:∃q l cc,v6=.slice q l cc:=by
    obtain⟨-,gf⟩:=Oq;rcases gf with⟨rfl,-⟩|⟨g',cap,cur,rfl,-⟩
    ·exact⟨_,_,_,rfl⟩
    ·exact⟨_,_,_,rfl⟩
   have YA:∀b,v6.ownBlock=some b->b≠K/\((Value.slice p ts.length c).ownBlock=some b\/w.heap.size<=b):=fun b hb=>by
    have zz:=W3.size;have hKl:=W3.aG.lt WS;rcases Yz with e|e
    ·rw[hb] at e;exact⟨fun q=>dJ (by rw[<- e,q]),.inl e.symm⟩
    ·rw[hb] at e;have e:=aR e;exact⟨aa,.inr aa⟩
   clear Ej Oq bO aU wl aW;refine ax ?_;have hK6:grow (grow o3 w3 w5) w5 w6 K:=.inl (.inl WS);have aiy:=W3.aG.lt WS;have Qc:w6.rowIs K t n g:=World.rowIs.of_block Er ((aed K aa dJ).trans (k5 K aiy));obtain⟨q6,l6,c6,rfl⟩:=hv6;refine dz bS Es rfl ar ar ?_ rfl (R:=fun wl aW=>aW=wl.setCell ⟨K,off,none⟩ (.slice q6 l6 c6)) (fun wl aU=>⟨_,?_,rfl⟩) fun wl aW w9 aU hR bO=>?_
   ·refine ja ?_ ?_
    ·exact bX hK6
    ·exact aax
   ·have rl:=World.rowIs.of_block Qc (aU.heap K hK6);have e1:=cell0 rl;have f:=rl.frozen;simp[go_sem,e1,f]
   have hO:eK K wl aW:=by rw[hR];exact je _ _ _ _
   obtain⟨lV,ow,e9⟩:=bO.only aU hK6 hO;have mB:=bO.aG;rw[e9] at mB |-;refine ax ?_;have W9:bB (fun b=>b=K\/(Value.slice p ts.length c).ownBlock=some b) o3 w3 (grow (grow o3 w3 w5) w5 w6) w9:=by
    refine⟨mB,fun b hb=>.inl (.inl hb),fun b hb=>?_,by rw[lV.1];omega,fun b hb hx=>?_⟩
    ·rcases hb with(hb|hb)|hb
     ·exact .inl hb
     ·exact .inr hb.1
     ·exact .inr aa
    ·rw[lV.2 b fun e=>hx (.inl e),aed b aa fun e=>hx (.inr e),k5 b hb]
   refine⟨.inl trivial,trivial,.tuple #[],fun w1=>results_none ah _ _,aj,W3.trans W9,_,by rw[Yy];exact⟨⟨lo,by rw[lV.1];omega,dF Jz fun b hb _=>lV.2 b (YA b hb.symm).1⟩,aax⟩,YA,?_⟩;rw[hR] at ow;rw[Yy];refine World.rowIs.of_block (((World.rowIs.of_block Qc (aU.heap K hK6)).set off _).congr fun j _=>?_) ow;by_cases e1:j=off+1
   ·rw[if_neg aa,if_pos e1,e1,h1]
   ·by_cases e0:j=off
    ·simp[e0]
    ·simp[e0,e1]
end
section
open Go.RowKit
def small(x:af)(k:Nat):Prop:=∀j (h:j<x.size),j<k->97<=x[j].toNat/\x[j].toNat<=122
def isName(x:af):Prop:=1<=x.size/\x.size<=4/\small x x.size
structure aee(x:af)(e:Ending):Prop where
 ex:∃b,e=.returned (.bool b)/\(b=true↔isName x)
theorem Kb(x:af)(w:ae)(hx:x.size<=1000000):Calls au 68 #[.string x] w fun e w'=>aee x e/\w'=w:=by
 go_enter func68,ntmps68;by_cases h1:x.size<1
 ·have h1I:(x.size:Int)<1:=aa;go_wp2;go_ret;exact⟨⟨⟨false,rfl,by simp[isName];omega⟩⟩,rfl⟩
 ·have h1I:¬(x.size:Int)<1:=aa;by_cases h2:x.size>4
  ·have h2I:(4:Int)<(x.size:Int):=aa;go_wp2;go_ret;exact⟨⟨⟨false,rfl,by simp[isName];omega⟩⟩,rfl⟩
  ·have h2I:¬(4:Int)<(x.size:Int):=aa;go_wp2;go_loop [14] (fun i=>∃k:Nat,k<=x.size/\i=.int .i64 k/\small x k) (fun i=>x.size-(intOf i).toNat)
   case atStart=>exact⟨0,aV _,rfl,fun j _ hj=>aa⟩
   case round =>
    obtain⟨k,hk,rfl,hs⟩:=hrel;by_cases cB:k<x.size
    ·by_cases c1:x[k].toNat<97
     ·have c1I:(x[k].toNat:Int)<97:=aa;go_wp2;go_ret;exact⟨⟨⟨false,rfl,⟨(fun e=>by cases e),fun h=>by have:=h.2.2 k cB cB;omega⟩⟩⟩,rfl⟩
     ·have c1I:¬(x[k].toNat:Int)<97:=aa;by_cases c2:x[k].toNat>122
      ·have c2I:(122:Int)<(x[k].toNat:Int):=aa;go_wp2;go_ret;exact⟨⟨⟨false,rfl,⟨(fun e=>by cases e),fun h=>by have:=h.2.2 k cB cB;omega⟩⟩⟩,rfl⟩
      ·have c2I:¬(122:Int)<(x[k].toNat:Int):=aa;go_wp2
       go_round
       case rel=>exact⟨k+1,aa,by go_num,fun j h hj=>if e:j=k then by subst e;omega else hs j h aa⟩
       case measure=>simp[intOf];omega
    ·go_wp2;go_ret;have e:k=x.size:=aa;subst e;exact⟨⟨⟨true,rfl,by simp only[true_iff];exact⟨aa,aa,hs⟩⟩⟩,rfl⟩
theorem TS(x:af)(w:ae):Calls au 70 #[.string x] w fun e w'=>e=.returned (.bool (decide ((x.size:Int)<=12)))/\w'=w:=by
 go_enter func70,ntmps70;go_wp2;go_ret;exact⟨rfl,rfl⟩
section
variable {Fin:bL} {o:aN} {w:ae}
theorem MR(hF:bN au L0 o w)(x:af)(hx:x.size<=1000000):
  bA au (XB au Fin 0) 68 #[.string x] o w fun v o' w'=>∃b,v=.bool b/\(b=true↔isName x)/\fY o w v o' w':=by
 refine bA.mono (eF ah hF (fun y hy=>by simp at hy;subst hy;exact bU) (Q:=fun wl v w'=>∃b,v=.bool b/\(b=true↔isName x)) (fun wl Ba v w1 w2 e1 e2 h=>h) (fun wl hz aU=>?_)) (fun v o' w' hq=>?_)
 ·refine(Kb x wl hx).mono fun e w' hq=>?_;obtain⟨⟨b,rfl,hb⟩,rfl⟩:=hq;exact⟨_,rfl,ag _,fun _ _=>rfl,b,rfl,hb⟩
 ·obtain⟨hN,wl,aW,-,-,-,b,h1,h2⟩:=hq;exact⟨b,h1,h2,hN⟩
theorem TT(hF:bN au L0 o w)(x:af):
  bA au (XB au Fin 0) 70 #[.string x] o w fun v o' w'=>v=.bool (decide ((x.size:Int)<=12))/\fY o w v o' w':=by
 refine bA.mono (eF ah hF (fun y hy=>by simp at hy;subst hy;exact bU) (Q:=fun wl v w'=>v=.bool (decide ((x.size:Int)<=12))) (fun wl Ba v w1 w2 e1 e2 h=>h) (fun wl hz aU=>?_)) (fun v o' w' hq=>?_)
 ·refine(TS x wl).mono fun e w' hq=>?_;obtain⟨rfl,rfl⟩:=hq;exact⟨_,rfl,ag _,fun _ _=>rfl,rfl⟩
 ·obtain⟨hN,wl,aW,-,-,-,h1⟩:=hq;exact⟨h1,hN⟩
end
end
def He(t:af):Value:=.agg #[.bool true,.string t]
def Dm(n:Int):Value:=.int .i64 n
structure iy(o:aN)(w:ae)(fb mT mS:Nat)(th:List (af×af))(st:List (af×Int)):Prop where
 blk:w.heap[fb]?=some (.cells #[.map (some mT),.map (some mS)] 164)
 tm:nu w mT (sB He th)
 sm:nu w mS (sB Dm st)
 own:o fb/\o mT/\o mS
 apart:fb≠mT/\fb≠mS/\mT≠mS
def dW(th:List (af×af))(x:af):V:=match eW th x with
 |some t=>(true,t)
 |none=>V0
def cm(st:List (af×Int))(x:af):Int:=(eW st x).getD 0
section
variable {Fin:bL} {o:aN} {w:ae} {fb mT mS:Nat} {th:List (af×af)} {st:List (af×Int)}
theorem iy.keep{o':aN}{w':ae}(h:iy o w fb mT mS th st)(om:∀b,o b->o' b)(e:∀b,b=fb\/b=mT\/b=mS->w'.heap[b]?=w.heap[b]?):iy o' w' fb mT mS th st :=
 ⟨(e fb (.inl rfl)).trans h.blk,h.tm.of_block (e mT (.inr (.inl rfl))),h.sm.of_block (e mS (.inr (.inr rfl))),⟨om _ h.own.1,om _ h.own.2.1,om _ h.own.2.2⟩,h.apart⟩
theorem TU(w:ae):(zeroValue 159).run au w=.ok (.agg #[.bool false,.string aP]) w:=ah
theorem TV(w:ae):(zeroValue 3).run au w=.ok (.int .i64 0) w:=ah
theorem Aa(w:ae)(x:af)(h:nu w mT (sB He th)):(Instr.lookup 161 (.map (some mT)) (.string x) false).run au w=.ok (.agg #[.bool (dW th x).1,.string (dW th x).2]) w:=by
 rw[AJ underlying161 underlying9 h (TU w),Hc];unfold dW;cases eW th x<;>rfl
theorem vw(w:ae)(x:af)(h:nu w mS (sB Dm st)):(Instr.lookup 162 (.map (some mS)) (.string x) false).run au w=.ok (.int .i64 (cm st x)) w:=by
 rw[AJ underlying162 underlying9 h (TV w),Hc];unfold cm;cases eW st x<;>rfl
theorem ny{r:Nat}(h:o r):Cl au L0 o (.map (some r)):=fun f hf=>by simp[val,hf.at_ r h,mM]
theorem YB(hF:bN au L0 o w)(h:iy o w fb mT mS th st)(x:af):
  bA au (XB au Fin 0) 100 #[.pointer (some ⟨fb,0,none⟩),.string x] o w fun v o' w'=>v=.agg #[.bool (dW th x).1,.string (dW th x).2,.int .i64 (cm st x)]/\fY o w v o' w':=by
 have W:=bY (P:=au) (Fin:=Fin) (d:=0);refine eC W func100 ar ?_;bP Tryz.f100;refine ax ?_;refine dv bS hF rfl ar ar ni rfl (R:=fun wl v aW=>v=.pointer (some ⟨wl.heap.size,0,none⟩)/\aW=wl.alloc (Obj.cells #[.bool false,.string aP,.int .i64 0] 194)) (fun wl aU=>⟨_,_,by simp[go_sem];rfl,rfl,rfl⟩) fun wl v1 aW w1 aU hR bO=>?_;obtain⟨rfl,hR⟩:=hR;obtain⟨z1,k1,tN⟩:=bO.alloc hF aU hR;have lD:=bO.aG;rw[aU.size];clear hR bO aU wl aW;aE;have hfb:=hF.lt h.own.1;have h1:iy (grow o w w1) w1 fb mT mS th st:=h.keep jr fun b hb=>by
  rcases hb with rfl|rfl|rfl
  ·exact k1 _ hfb
  ·exact k1 _ (hF.lt h.own.2.1)
  ·exact k1 _ (hF.lt h.own.2.2)
 have hA:grow o w w1 w.heap.size:=.inr ⟨ag _,aa⟩;obtain⟨c0,c1,-⟩:=dQ h1.blk;obtain⟨o1,Gw⟩:∃x,x=grow o w w1:=⟨_,rfl⟩;rw[<- Gw] at h1 hA lD |-;generalize QH:dW th x=sv;obtain⟨sb,stx⟩:=sv;generalize hss:cm st x=ss;refine ax ?_;refine dS mixed ah [some none,some none,some none,some (some (.map (some mT))),some none,some (some (.agg #[.bool sb,.string stx])),some none,some none,some none,some (some (.map (some mS))),some none,some (some (.int .i64 ss)),some none,none]
  (S:=fun σ o' w'=>o'=o1/\(σ 13=none->w'=w1)/\∀y,σ 13=some y->bN au L0 o1 w'/\eK w.heap.size w1 w'/\w'.heap[w.heap.size]?=some (Obj.cells #[.bool sb,.string stx,.int .i64 ss] 194)) ?_ fun v=>?_
 ·exact⟨rfl,fun _=>rfl,fun y hy=>by cases hy⟩
 refine dR ?_;refine cE ?_;refine cq bS rfl rfl rfl ar ar (fun σ o' w' H hS=>?_) ?_
 ·obtain⟨rfl,e1,-⟩:=hS;obtain rfl:=e1 (H.qQ [12,5] 13 ah);exact tM lD h1.own.1 c0
 refine cE ?_;refine cq bS rfl rfl rfl ar ar (fun σ o' w' H hS=>?_) ?_
 ·obtain⟨rfl,e1,-⟩:=hS;obtain rfl:=e1 (H.qQ [12] 13 ah);refine⟨lD,fun y hy=>?_,fun wl aU=>?_⟩
  ·simp[Op.operands] at hy;rcases hy with rfl|rfl
   ·simp[Act.eval];exact ny h1.own.2.1
   ·simp[Act.eval];exact bU
  ·have:=Aa wl x (h1.tm.of_block (aU.heap _ h1.own.2.1));rw[QH] at this;simp[go_sem,this]
 refine cE ?_;refine cq bS rfl rfl rfl ar ar (fun σ o' w' H hS=>?_) ?_
 ·obtain⟨rfl,e1,-⟩:=hS;obtain rfl:=e1 (H.qQ [12,11] 13 ah);exact tM lD h1.own.1 c1
 refine cE ?_;refine cq bS rfl rfl rfl ar ar (fun σ o' w' H hS=>?_) ?_
 ·obtain⟨rfl,e1,-⟩:=hS;obtain rfl:=e1 (H.qQ [12] 13 ah);refine⟨lD,fun y hy=>?_,fun wl aU=>?_⟩
  ·simp[Op.operands] at hy;rcases hy with rfl|rfl
   ·simp[Act.eval];exact ny h1.own.2.2
   ·simp[Act.eval];exact bU
  ·have:=vw wl x (h1.sm.of_block (aU.heap _ h1.own.2.2));rw[hss] at this;simp[go_sem,this]
 refine cE ?_;refine pS bS rfl rfl rfl ar ar (fun σ o' w' H Bc hS=>?_) ?_
 ·obtain⟨rfl,e1,-⟩:=hS;obtain rfl:=e1 Bc;refine⟨lD,fun y hy=>?_,fun wl aW=>aW=((wl.setCell ⟨w.heap.size,0,none⟩ (.bool sb)).setCell ⟨w.heap.size,1,none⟩ (.string stx)).setCell ⟨w.heap.size,2,none⟩ (.int .i64 ss),fun wl aU=>⟨_,?_,rfl⟩,fun wl aW w2 aU hR bO=>?_⟩
  ·simp[Op.operands] at hy;rcases hy with rfl|rfl
   ·simp[Act.eval];exact bX hA
   ·simp[Act.eval];exact fX (vs:=[_,_,_]) (fun x hx=>by
     simp at hx;rcases hx with rfl|rfl|rfl
     ·exact nf
     ·exact bU
     ·exact dU)
  ·obtain⟨e0,e1,e2,f0,f1,f2⟩:=eQ ((aU.heap _ hA).trans tN);simp[go_sem,e0,e1,e2,f0,f1,f2]
  ·have hO:eK w.heap.size wl aW:=by rw[hR];exact uM _ _ _ _ _ _ _ _
   obtain⟨on,kb,eg⟩:=bO.only aU hA hO;have rV:=bO.aG;rw[eg] at rV |-;refine⟨rfl,fun h=>by simp[fR] at h,fun y _=>⟨rV,on,?_⟩⟩;rw[kb,hR,JX ((aU.heap _ hA).trans tN)]
 aE;refine cD fun σ o' w' mC hS=>?_;obtain⟨rfl,-,e2⟩:=hS;obtain⟨rV,on,kb⟩:=e2 _ (mC 13 eA rfl);simp only[iM,dK,if_true,if_false,reduceIte,Nat.reduceEqDiff];refine ax ?_;have c9:∀n,(w'.at n).cell? ⟨w.heap.size,0,none⟩=some (.bool sb)/\(w'.at n).cell? ⟨w.heap.size,1,none⟩=some (.string stx)/\(w'.at n).cell? ⟨w.heap.size,2,none⟩=some (.int .i64 ss):=fun n=>⟨(eQ kb).1,(eQ kb).2.1,(eQ kb).2.2.1⟩;refine⟨.inr trivial,trivial,.agg #[.bool sb,.string stx,.int .i64 ss],xc (fun n=>?_) (fun n e he=>?_),rfl,?_,rV,by rw[on.1];omega,fun b hb=>?_,?_⟩
 ·obtain⟨c0,c1,c2⟩:=c9 n;simp[results,results100,go_sem,c0,c1,c2]
 ·obtain⟨c0,c1,c2⟩:=c9 n;simp[results,results100,go_sem,c0,c1,c2] at he;rcases he with rfl|rfl|rfl;all_goals exact⟨_,_,_,rfl,hA⟩
 ·rw[Gw];exact G1 on.1.symm
 ·rw[on.2 b aa];exact k1 b hb
 ·exact fX (vs:=[_,_,_]) (fun x hx=>by
   simp at hx;rcases hx with rfl|rfl|rfl
   ·exact nf
   ·exact bU
   ·exact dU)
theorem mK(w:ae)(r:Nat)(X:Obj):eK r w (qE w r X):=⟨by simp[qE],fun c hc=>by simp[qE,Ne.symm hc]⟩
theorem bB.dI{r:Nat}{ex:Nat->Prop}{w':ae}(hF:bN au L0 o w')(h:eK r w w')(hr:ex r):bB ex o w o w':=⟨hF,fun _ h=>h,fun _ h=>.inl h,bH h.1.symm,fun b _ hb=>h.2 b fun e=>hb (e▸hr)⟩
theorem Ac(b:Bool)(t:af)(w:ae):(Instr.field 159 (.agg #[.bool b,.string t]) 0).events au w #[]=#[]:=ah
theorem WU(hF:bN au L0 o w)(h:iy o w fb mT mS th st)(x t:af)(hx:x.size<=1000000)(Vk:th.length<=100000):
  bA au (XB au Fin 0) 47 #[.pointer (some ⟨fb,0,none⟩),.string x,.string t] o w fun v o' w'=>bB (fun b=>b=mT\/b=mS) o w o' w'/\((v=.int .i64 2/\¬isName x/\iy o' w' fb mT mS th st)\/(v=.int .i64 6/\isName x/\12<t.size/\iy o' w' fb mT mS th st)\/(v=.int .i64 1/\isName x/\t.size<=12/\eW th x=none/\12<=th.length/\iy o' w' fb mT mS th st) \/
   (v=.int .i64 0/\isName x/\t.size<=12/\¬(eW th x=none/\12<=th.length)/\iy o' w' fb mT mS (gS th x t) (gS st x (IntKind.i64.wrap (cm st x+1))))):=by
 have W:=bY (P:=au) (Fin:=Fin) (d:=0);refine bD W func47 ar ?_;bP Tryz.f47;refine ax ?_;refine cj func68 (MR hF x hx) ?_;rintro v1 o1 w1 ⟨b1,rfl,By,N1⟩;have W1:bB (fun b=>b=mT\/b=mS) o w o1 w1:=bB.eL N1;have lt3:∀b,b=fb\/b=mT\/b=mS->b<w.heap.size:=fun b hb=>by
  rcases hb with rfl|rfl|rfl
  ·exact hF.lt h.own.1
  ·exact hF.lt h.own.2.1
  ·exact hF.lt h.own.2.2
 have h1:=h.keep W1.more fun b hb=>N1.old b (lt3 b hb);cases b1 with
 |false =>
  have hn:¬isName x:=fun q=>by have:=By.2 q;cases this
  refine ax ?_;exact⟨.inr trivial,trivial,_,resultsC_tmp (t:=6) ar _,W1,.inl ⟨aI,hn,h1⟩⟩
 |true =>
  have hn:isName x:=By.1 rfl;refine ax ?_;refine cj func70 (TT N1.aG t) ?_;rintro v2 o2 w2 ⟨rfl,N2⟩;have W2:=W1.trans (bB.eL (ex:=fun b=>b=mT\/b=mS) N2);have h2:=h1.keep (bB.eL (ex:=fun _=>False) N2).more fun b hb=>N2.old b (by have:=lt3 b hb;have:=N1.size;omega);by_cases ht:t.size<=12
  ·have htI:(t.size:Int)<=12:=aa;rw[cW htI];refine ax ?_;obtain⟨c0,c1,-⟩:=dQ h2.blk;refine lz N2.aG h2.own.1 c0 fun _=>?_;refine ax ?_;refine dD bS N2.aG rfl ar ar ?_ rfl (v:=.agg #[.bool (dW th x).1,.string (dW th x).2]) (fun wl aU=>by simp[go_sem,Aa wl x (h2.tm.of_block (aU.heap _ h2.own.2.1))]) fun _=>?_
   ·exact ja (ny h2.own.2.1) bU
   aE;cases hg:eW th x with
   |some t0 =>
    have QH:dW th x=(true,t0):=by simp[dW,hg]
    rw[QH];have evf:=Ac;refine ax ?_;refine lz N2.aG h2.own.1 c0 fun _=>?_;refine ax ?_;refine dz bS N2.aG rfl ar ar ?_ rfl (R:=fun wl aW=>eK mT wl aW/\nu aW mT (sB He (gS th x t))) (fun wl aU=>?_) fun wl aW w3 aU hR bO=>?_
    ·intro y hy;simp[Op.operands] at hy;rcases hy with rfl|rfl|rfl
     ·simp[Act.eval];exact ny h2.own.2.1
     ·simp[Act.eval];exact bU
     ·simp[Act.eval];exact fX (vs:=[_,_]) (fun x hx=>by
       simp at hx;rcases hx with rfl|rfl
       ·exact nf
       ·exact bU)
    ·obtain⟨X,e1,e2⟩:=pe (P:=au) (x:=x) underlying161 underlying9 (h2.tm.of_block (aU.heap _ h2.own.2.1)) (He t);rw[vv] at e2;unfold He at e1;exact⟨_,by simp[go_sem,e1],mK _ _ _,e2⟩
    obtain⟨Kc,sJ,e3⟩:=bO.only aU h2.own.2.1 hR.1;have tm3:=hR.2.of_block sJ;have pE:=bO.aG;rw[e3] at pE |-;clear hR bO aU sJ wl aW e3;have AW:=(cell_of (a:=⟨fb,1,none⟩) (Kc.2 fb h2.apart.1)).trans c1;refine ax ?_;refine lz pE h2.own.1 AW fun _=>?_;refine ax ?_;have YC:=h2.sm.of_block (Kc.2 mS (fun e=>h2.apart.2.2 e.symm));refine dD bS pE rfl ar ar ?_ rfl (v:=.int .i64 (cm st x)) (fun wl aU=>by simp[go_sem,vw wl x (YC.of_block (aU.heap _ h2.own.2.2))]) fun _=>?_
    ·exact ja (ny h2.own.2.2) bU
    refine ax ?_;refine dz bS pE rfl ar ar ?_ rfl (R:=fun wl aW=>eK mS wl aW/\nu aW mS (sB Dm (gS st x (IntKind.i64.wrap (cm st x+1))))) (fun wl aU=>?_) fun wl aW w4 aU hR bO=>?_
    ·intro y hy;simp[Op.operands] at hy;rcases hy with rfl|rfl|rfl
     ·simp[Act.eval];exact ny h2.own.2.2
     ·simp[Act.eval];exact bU
     ·simp[Act.eval];exact dU
    ·obtain⟨X,e1,e2⟩:=pe (P:=au) (x:=x) underlying162 underlying9 (YC.of_block (aU.heap _ h2.own.2.2)) (Dm (IntKind.i64.wrap (cm st x+1)));rw[vv] at e2;unfold Dm at e1;exact⟨_,by simp[go_sem,e1],mK _ _ _,e2⟩
    obtain⟨vx,yP,e4⟩:=bO.only aU h2.own.2.2 hR.1;have sm4:=hR.2.of_block yP;have tB:=bO.aG;rw[e4] at tB |-;clear hR bO aU yP wl aW e4;refine ax ?_;have W4:=(W2.trans (bB.dI pE Kc (.inl rfl))).trans (bB.dI tB vx (.inr rfl));refine⟨.inr trivial,trivial,_,resultsC_tmp (t:=6) ar _,W4,.inr (.inr (.inr ⟨aI,hn,ht,(fun q=>by cases q.1),?_⟩))⟩;exact⟨(vx.2 fb h2.apart.2.1).trans ((Kc.2 fb h2.apart.1).trans h2.blk),tm3.of_block (vx.2 mT h2.apart.2.2),sm4,h2.own,h2.apart⟩
   |none =>
    have QH:dW th x=(false,aP):=by simp[dW,hg,V0]
    rw[QH];have evf:=Ac;refine ax ?_;refine lz N2.aG h2.own.1 c0 fun _=>?_;refine ax ?_;refine dD bS N2.aG rfl ar ar ?_ rfl (v:=.int .i64 th.length) (fun wl aU=>?_) fun _=>?_
    ·intro y hy;simp[Op.operands,Call.operands] at hy;subst hy;simp[Act.eval];exact ny h2.own.2.1
    ·obtain⟨es,cl,q1,q2⟩:=WL (h2.tm.of_block (aU.heap _ h2.own.2.1));have:=run_len_map (P:=au) wl 161 3 mT es cl ah q1;simp[go_sem,this,q2,WM,goInt]
    aE;by_cases qa:12<=th.length
    ·have aeh:(12:Int)<=(th.length:Int):=aa;refine ax ?_;exact⟨.inr trivial,trivial,_,resultsC_tmp (t:=6) ar _,W2,.inr (.inr (.inl ⟨aI,hn,ht,trivial,qa,h2⟩))⟩
    have aeh:¬(12:Int)<=(th.length:Int):=aa;refine ax ?_;refine lz N2.aG h2.own.1 c0 fun _=>?_;refine ax ?_;refine dz bS N2.aG rfl ar ar ?_ rfl (R:=fun wl aW=>eK mT wl aW/\nu aW mT (sB He (gS th x t))) (fun wl aU=>?_) fun wl aW w3 aU hR bO=>?_
    ·intro y hy;simp[Op.operands] at hy;rcases hy with rfl|rfl|rfl
     ·simp[Act.eval];exact ny h2.own.2.1
     ·simp[Act.eval];exact bU
     ·simp[Act.eval];exact fX (vs:=[_,_]) (fun x hx=>by
       simp at hx;rcases hx with rfl|rfl
       ·exact nf
       ·exact bU)
    ·obtain⟨X,e1,e2⟩:=pe (P:=au) (x:=x) underlying161 underlying9 (h2.tm.of_block (aU.heap _ h2.own.2.1)) (He t);rw[vv] at e2;unfold He at e1;exact⟨_,by simp[go_sem,e1],mK _ _ _,e2⟩
    obtain⟨Kc,sJ,e3⟩:=bO.only aU h2.own.2.1 hR.1;have tm3:=hR.2.of_block sJ;have pE:=bO.aG;rw[e3] at pE |-;clear hR bO aU sJ wl aW e3;have AW:=(cell_of (a:=⟨fb,1,none⟩) (Kc.2 fb h2.apart.1)).trans c1;refine ax ?_;refine lz pE h2.own.1 AW fun _=>?_;refine ax ?_;have YC:=h2.sm.of_block (Kc.2 mS (fun e=>h2.apart.2.2 e.symm));refine dD bS pE rfl ar ar ?_ rfl (v:=.int .i64 (cm st x)) (fun wl aU=>by simp[go_sem,vw wl x (YC.of_block (aU.heap _ h2.own.2.2))]) fun _=>?_
    ·exact ja (ny h2.own.2.2) bU
    refine ax ?_;refine dz bS pE rfl ar ar ?_ rfl (R:=fun wl aW=>eK mS wl aW/\nu aW mS (sB Dm (gS st x (IntKind.i64.wrap (cm st x+1))))) (fun wl aU=>?_) fun wl aW w4 aU hR bO=>?_
    ·intro y hy;simp[Op.operands] at hy;rcases hy with rfl|rfl|rfl
     ·simp[Act.eval];exact ny h2.own.2.2
     ·simp[Act.eval];exact bU
     ·simp[Act.eval];exact dU
    ·obtain⟨X,e1,e2⟩:=pe (P:=au) (x:=x) underlying162 underlying9 (YC.of_block (aU.heap _ h2.own.2.2)) (Dm (IntKind.i64.wrap (cm st x+1)));rw[vv] at e2;unfold Dm at e1;exact⟨_,by simp[go_sem,e1],mK _ _ _,e2⟩
    obtain⟨vx,yP,e4⟩:=bO.only aU h2.own.2.2 hR.1;have sm4:=hR.2.of_block yP;have tB:=bO.aG;rw[e4] at tB |-;clear hR bO aU yP wl aW e4;refine ax ?_;have W4:=(W2.trans (bB.dI pE Kc (.inl rfl))).trans (bB.dI tB vx (.inr rfl));refine⟨.inr trivial,trivial,_,resultsC_tmp (t:=6) ar _,W4,.inr (.inr (.inr ⟨aI,hn,ht,fun q=>qa q.2,?_⟩))⟩;exact⟨(vx.2 fb h2.apart.2.1).trans ((Kc.2 fb h2.apart.1).trans h2.blk),tm3.of_block (vx.2 mT h2.apart.2.2),sm4,h2.own,h2.apart⟩
  ·have htI:¬(t.size:Int)<=12:=aa;rw[dA htI];refine ax ?_;exact⟨.inr trivial,trivial,_,resultsC_tmp (t:=6) ar _,W2,.inr (.inl ⟨aI,hn,aa,h2⟩)⟩
theorem QI(hF:bN au L0 o w)(h:iy o w fb mT mS th st)(x:af)(hx:x.size<=1000000)(Vk:th.length<=100000):
  bA au (XB au Fin 0) 62 #[.pointer (some ⟨fb,0,none⟩),.string x] o w fun v o' w'=>bB (fun b=>b=mT\/b=mS) o w o' w'/\((v=.int .i64 2/\¬isName x/\iy o' w' fb mT mS th st)\/(v=.int .i64 7/\isName x/\eW th x=none/\iy o' w' fb mT mS th st) \/
   (v=.int .i64 0/\isName x/\eW th x≠none/\iy o' w' fb mT mS (ma th x) (gS st x (IntKind.i64.wrap (cm st x+1))))):=by
 have W:=bY (P:=au) (Fin:=Fin) (d:=0);refine bD W func62 ar ?_;bP Tryz.f62;refine ax ?_;refine cj func68 (MR hF x hx) ?_;rintro v1 o1 w1 ⟨b1,rfl,By,N1⟩;have W1:bB (fun b=>b=mT\/b=mS) o w o1 w1:=bB.eL N1;have lt3:∀b,b=fb\/b=mT\/b=mS->b<w.heap.size:=fun b hb=>by
  rcases hb with rfl|rfl|rfl
  ·exact hF.lt h.own.1
  ·exact hF.lt h.own.2.1
  ·exact hF.lt h.own.2.2
 have h1:=h.keep W1.more fun b hb=>N1.old b (lt3 b hb);cases b1 with
 |false =>
  have hn:¬isName x:=fun q=>by have:=By.2 q;cases this
  refine ax ?_;exact⟨.inr trivial,trivial,_,resultsC_tmp (t:=4) ar _,W1,.inl ⟨aI,hn,h1⟩⟩
 |true =>
  have hn:isName x:=By.1 rfl;refine ax ?_;obtain⟨c0,c1,-⟩:=dQ h1.blk;refine lz N1.aG h1.own.1 c0 fun _=>?_;refine ax ?_;refine dD bS N1.aG rfl ar ar ?_ rfl (v:=.agg #[.bool (dW th x).1,.string (dW th x).2]) (fun wl aU=>by simp[go_sem,Aa wl x (h1.tm.of_block (aU.heap _ h1.own.2.1))]) fun _=>?_
  ·exact ja (ny h1.own.2.1) bU
  aE;have evf:=Ac;cases hg:eW th x with
  |none =>
    have QH:dW th x=(false,aP):=by simp[dW,hg,V0]
    rw[QH];refine ax ?_;exact⟨.inr trivial,trivial,_,resultsC_tmp (t:=4) ar _,W1,.inr (.inl ⟨aI,hn,aj,h1⟩)⟩
  |some t0 =>
    have QH:dW th x=(true,t0):=by simp[dW,hg]
    rw[QH];refine ax ?_;refine lz N1.aG h1.own.1 c0 fun _=>?_;refine ax ?_;refine dv bS N1.aG rfl ar ar ?_ rfl (R:=fun wl v aW=>v=.tuple #[]/\eK mT wl aW/\nu aW mT (sB He (ma th x))) (fun wl aU=>?_) fun wl v3 aW w3 aU hR bO=>?_
    ·intro y hy;simp[Op.operands,Call.operands] at hy;rcases hy with rfl|rfl
     ·simp[Act.eval];exact ny h1.own.2.1
     ·simp[Act.eval];exact bU
    ·obtain⟨X,e1,e2⟩:=J8 (P:=au) (x:=x) underlying161 underlying9 (h1.tm.of_block (aU.heap _ h1.own.2.1)) 0;rw[Oo] at e2;exact⟨_,_,by simp[go_sem,e1],rfl,mK _ _ _,e2⟩
    obtain⟨rfl,hR⟩:=hR;obtain⟨Kc,sJ,e3⟩:=bO.only aU h1.own.2.1 hR.1;have tm3:=hR.2.of_block sJ;have pE:=bO.aG;rw[e3] at pE |-;clear hR bO aU sJ wl aW e3;have AW:=(cell_of (a:=⟨fb,1,none⟩) (Kc.2 fb h1.apart.1)).trans c1;refine ax ?_;refine lz pE h1.own.1 AW fun _=>?_;refine ax ?_;have YC:=h1.sm.of_block (Kc.2 mS (fun e=>h1.apart.2.2 e.symm));refine dD bS pE rfl ar ar ?_ rfl (v:=.int .i64 (cm st x)) (fun wl aU=>by simp[go_sem,vw wl x (YC.of_block (aU.heap _ h1.own.2.2))]) fun _=>?_
    ·exact ja (ny h1.own.2.2) bU
    refine ax ?_;refine dz bS pE rfl ar ar ?_ rfl (R:=fun wl aW=>eK mS wl aW/\nu aW mS (sB Dm (gS st x (IntKind.i64.wrap (cm st x+1))))) (fun wl aU=>?_) fun wl aW w4 aU hR bO=>?_
    ·intro y hy;simp[Op.operands] at hy;rcases hy with rfl|rfl|rfl
     ·simp[Act.eval];exact ny h1.own.2.2
     ·simp[Act.eval];exact bU
     ·simp[Act.eval];exact dU
    ·obtain⟨X,e1,e2⟩:=pe (P:=au) (x:=x) underlying162 underlying9 (YC.of_block (aU.heap _ h1.own.2.2)) (Dm (IntKind.i64.wrap (cm st x+1)));rw[vv] at e2;unfold Dm at e1;exact⟨_,by simp[go_sem,e1],mK _ _ _,e2⟩
    obtain⟨vx,yP,e4⟩:=bO.only aU h1.own.2.2 hR.1;have sm4:=hR.2.of_block yP;have tB:=bO.aG;rw[e4] at tB |-;clear hR bO aU yP wl aW e4;refine ax ?_;have W4:=(W1.trans (bB.dI pE Kc (.inl rfl))).trans (bB.dI tB vx (.inr rfl));refine⟨.inr trivial,trivial,_,resultsC_tmp (t:=4) ar _,W4,.inr (.inr ⟨aI,hn,aj,?_⟩)⟩;exact⟨(vx.2 fb h1.apart.2.1).trans ((Kc.2 fb h1.apart.1).trans h1.blk),tm3.of_block (vx.2 mT h1.apart.2.2),sm4,h1.own,h1.apart⟩
end
structure pG where
 B:vt
 kb:Nat
 fb:Nat
 mT:Nat
 mS:Nat
structure gV where
 fd:Option (Nat×da)
 old:Nat->Option (Nat×List V)
 th:List (af×af)
 st:List (af×Int)
 qv:Value
 qn:List af
 lost:Bool
 time:Nat
 phase:Nat
 since:Nat
 sv:Value
 src:List af
 rv:Value
 rd:List (V×Int)
 ck:Nat
 pb:Nat
 num:Int
 lC:Value
 res:List (af×V)
 mO:Value
 jX:List af
def sC(K:pG)(s:gV)(lk:Int):Nat->Value
 |0=>.int .i32 lk
 |1=>.int .u32 0
 |2=>.pointer (some ⟨K.B.bb,0,none⟩)
 |3=>.pointer (some ⟨K.fb,0,none⟩)
 |4=>s.qv
 |5=>.bool s.lost
 |6=>.int .i64 s.time
 |7=>.int .i64 s.phase
 |8=>.int .i64 s.since
 |9=>s.sv
 |10=>s.rv
 |11=>.int .i64 s.ck
 |_=>.pointer (some ⟨s.pb,0,none⟩)
theorem nz{j:Nat}(h:j<13):j=0\/j=1\/j=2\/j=3\/j=4\/j=5\/j=6\/j=7\/j=8\/j=9\/j=10\/j=11\/j=12:=aa
structure Rt(o:aN)(w:ae)(v:Value)(ts:List af):Prop where
 row:∃p b c,v=.slice p ts.length c/\(p=none->ts=[])/\(ts≠[]->p=some ⟨b,0,none⟩/\o b)/\fE w b 0 ts
 cl:Cl au L0 o v
 gY:ts.length<=1000
def ff(ss:List (V×Int)):List Value:=(ss.map fun s=>[Value.bool s.1.1,.string s.1.2,.int .i64 s.2]).flatten
structure K9(o:aN)(w:ae)(v:Value)(ss:List (V×Int)):Prop where
 row:∃lo,lo<=w.heap.size/\w.ownsRow lo 194 3 v ss.length (ff ss)
 cl:Cl au L0 o v
 gY:ss.length<=1000
def nJ(w:ae)(b:Nat)(rs:List (af×V)):Prop:=∀i (h:i<rs.length),w.cell? ⟨b,i*3,none⟩=some (.string rs[i].1)/\w.cell? ⟨b,i*3+1,none⟩=some (.string rs[i].2.2)/\w.cell? ⟨b,i*3+2,none⟩=some (.bool (!rs[i].2.1))
structure Dn(o:aN)(w:ae)(s:gV):Prop where
 blk:w.heap[s.pb]?=some (.cells #[.int .i64 s.num,s.lC,s.mO] 59)
 own:o s.pb
 res:∃p b c,s.lC=.slice p s.res.length c/\(p=none->s.res=[])/\(s.res≠[]->p=some ⟨b,0,none⟩/\o b)/\nJ w b s.res
 cl:Cl au L0 o s.lC
 gY:s.res.length<=1000
 jX:Rt o w s.mO s.jX
section
variable {Fin:bL} {o o':aN} {w w':ae}
theorem Rt.keep{v:Value}{ts:List af}(h:Rt o w v ts)(om:∀b,o b->o' b)(e:∀g,v.ownBlock=some g->w'.heap[g]?=w.heap[g]?):Rt o' w' v ts:=by
 obtain⟨p,b,c,h1,h2,h3,h4⟩:=h.row;refine⟨⟨p,b,c,h1,h2,fun hn=>⟨(h3 hn).1,om _ (h3 hn).2⟩,fun k hk=>?_⟩,h.cl.up om,h.gY⟩;have hn:ts≠[]:=fun q=>by rw[q] at hk;simp at hk
 exact dh h4 (e b (by rw[h1,(h3 hn).1];rfl)) k hk
theorem K9.keep{v:Value}{ss:List (V×Int)}(h:K9 o w v ss)(om:∀b,o b->o' b)(hz:w.heap.size<=w'.heap.size)(e:∀g,v.ownBlock=some g->w'.heap[g]?=w.heap[g]?):K9 o' w' v ss:=by
 obtain⟨lo,vO,cp⟩:=h.row;exact⟨⟨lo,aa,dF cp fun g hg _=>e g hg.symm⟩,h.cl.up om,h.gY⟩
def yQ(s:gV)(b:Nat):Prop:=b=s.pb\/s.lC.ownBlock=some b\/s.mO.ownBlock=some b
theorem Dn.keep{s:gV}(h:Dn o w s)(om:∀b,o b->o' b)(e:∀b,yQ s b->w'.heap[b]?=w.heap[b]?):Dn o' w' s:=by
 obtain⟨p,b,c,h1,h2,h3,h4⟩:=h.res;refine⟨(e _ (.inl rfl)).trans h.blk,om _ h.own,⟨p,b,c,h1,h2,fun hn=>⟨(h3 hn).1,om _ (h3 hn).2⟩,fun k hk=>?_⟩,h.cl.up om,h.gY,h.jX.keep om fun g hg=>e g (.inr (.inr hg))⟩;have hn:s.res≠[]:=fun q=>by rw[q] at hk;simp at hk
 have eb:=e b (.inr (.inl (by rw[h1,(h3 hn).1];rfl)));exact⟨(cell_of eb).trans (h4 k hk).1,(cell_of eb).trans (h4 k hk).2.1,(cell_of eb).trans (h4 k hk).2.2⟩
def MS(b:Nat):Nat:=if b=1 then 8 else 1
structure bo(o:aN)(w:ae)(K:pG)(s:gV)(lk:Int)(lab:Nat->Nat):Prop where
 aG:bN au L0 o w
 row:w.rowIs K.kb 120 13 (sC K s lk)
 own:o K.kb
 build:fQ o w K.B s.fd s.old
 files:iy o w K.fb K.mT K.mS s.th s.st
 queue:QG o w s.qv s.qn
 cZ:Rt o w s.sv s.src
 reads:K9 o w s.rv s.rd
 set:Dn o w s
 l0:lab K.kb=0
 l1:∀b,nI K.B s.fd s.old b->lab b=MS b
 l2:∀b,b=K.fb\/b=K.mT\/b=K.mS->lab b=2
 l3:∀b,s.qv.ownBlock=some b->lab b=3
 l4:∀b,s.sv.ownBlock=some b->lab b=4
 l5:∀b,s.rv.ownBlock=some b->lab b=5
 l6:∀b,yQ s b->lab b=6
 gY:s.qn.length<=4/\s.th.length<=12/\s.time<=100000/\s.since<=s.time/\s.ck<=s.src.length/\s.rd.length<=s.src.length
theorem gL{v:Value}(hF:bN au L0 o w)(h:Cl au L0 o v):∀b,v.ownBlock=some b->o b:=fun b hb=>a8 fun hg=>by
 cases v<;>first|(cases hb;done)|skip
 rename_i p l c;cases p with
 |none=>cases hb
 |some a =>
  have e:a.block=b:=aR hb;subst e;obtain⟨f,hf,dJ⟩:=J9 hF hg;have:=h f hf;simp only[val,aK,addr,Value.slice.injEq,ay] at this;exact dJ (congrArg Addr.block this.1)
theorem bo.all{K:pG}{s:gV}{lk:Int}{lab:Nat->Nat}(h:bo o w K s lk lab):(∀b,s.qv.ownBlock=some b->o b)/\(∀b,s.sv.ownBlock=some b->o b)/\(∀b,s.rv.ownBlock=some b->o b)/\∀b,yQ s b->o b:=by
 refine⟨gL h.aG h.queue.cl,gL h.aG h.cZ.cl,gL h.aG h.reads.cl,fun b hb=>?_⟩;rcases hb with rfl|hb|hb
 ·exact h.set.own
 ·exact gL h.aG h.set.cl b hb
 ·exact gL h.aG h.set.jX.cl b hb
structure aay(o:aN)(w:ae)(K:pG)(s:gV):Prop where
 build:fQ o w K.B s.fd s.old
 files:iy o w K.fb K.mT K.mS s.th s.st
 queue:QG o w s.qv s.qn
 cZ:Rt o w s.sv s.src
 reads:K9 o w s.rv s.rd
 set:Dn o w s
theorem bo.other{K:pG}{s:gV}{lk:Int}{lab:Nat->Nat}(h:bo o w K s lk lab){ex:Nat->Prop}(hW:bB ex o w o' w')(hx:∀b,ex b->lab b=0):aay o' w' K s:=by
 have ne:∀b n,lab b=n->n≠0->¬ex b:=fun b n hb hn he=>hn (by rw[<- hb];exact hx b he);obtain⟨a1,a2,a3,a4⟩:=h.all;have sm:∀b n,o b->lab b=n->n≠0->w'.heap[b]?=w.heap[b]?:=fun b n hb hl hn=>hW.same b (h.aG.lt hb) (ne b n hl hn);refine⟨h.build.keep hW.more hW.size fun b hb=>sm b (MS b) (h.build.own b hb) (h.l1 b hb) (by unfold MS;split<;>omega),h.files.keep hW.more fun b hb=>sm b 2 ?_ (h.l2 b hb) aa,h.queue.keep hW.more hW.size fun g hg=>sm g 3 (a1 g hg) (h.l3 g hg) aa,h.cZ.keep hW.more fun g hg=>sm g 4 (a2 g hg) (h.l4 g hg) aa,h.reads.keep hW.more hW.size fun g hg=>sm g 5 (a3 g hg) (h.l5 g hg) aa,h.set.keep hW.more fun b hb=>sm b 6 (a4 b hb) (h.l6 b hb) aa⟩;rcases hb with rfl|rfl|rfl
 ·exact h.files.own.1
 ·exact h.files.own.2.1
 ·exact h.files.own.2.2
theorem bo.put{K:pG}{s s':gV}{lk lk':Int}{lab:Nat->Nat}(h:bo o w K s lk lab)(hF:bN au L0 o w')(hO:eK K.kb w w')(hr:w'.rowIs K.kb 120 13 (sC K s' lk'))(he:(s'.fd,s'.old,s'.th,s'.st,s'.qv,s'.qn)=(s.fd,s.old,s.th,s.st,s.qv,s.qn))(he2:(s'.sv,s'.src,s'.rv,s'.rd,s'.pb,s'.num,s'.lC,s'.res,s'.mO,s'.jX)=(s.sv,s.src,s.rv,s.rd,s.pb,s.num,s.lC,s.res,s.mO,s.jX))(xl:s'.time<=100000/\s'.since<=s'.time/\s'.ck<=s.src.length):bo o w' K s' lk' lab:=by
 have hW:bB (·=K.kb) o w o w':=bB.dI hF hO rfl;obtain⟨q1,q2,q3,q4,q5,q6⟩:=h.other hW (fun b hb=>by rw[hb];exact h.l0);simp only[bu] at he he2;obtain⟨e1,e2,e3,e4,e5,e6⟩:=he;obtain⟨f1,f2,f3,f4,f5,f6,f7,f8,f9,f10⟩:=he2;refine⟨hF,hr,h.own,by rw[e1,e2];exact q1,by rw[e3,e4];exact q2,by rw[e5,e6];exact q3,by rw[f1,f2];exact q4,by rw[f3,f4];exact q5,⟨by rw[f5,f6,f7,f9];exact q6.blk,by rw[f5];exact q6.own,by rw[f7,f8];exact q6.res,by rw[f7];exact q6.cl,by rw[f8];exact q6.gY,by rw[f9,f10];exact q6.jX⟩,h.l0,by rw[e1,e2];exact h.l1,h.l2,by rw[e5];exact h.l3,by rw[f1];exact h.l4,by rw[f3];exact h.l5,fun b hb=>h.l6 b (by unfold yQ at hb |-;rw[f5,f7,f9] at hb;exact hb),by rw[e6,e3,f2,f4];exact⟨h.gY.1,h.gY.2.1,xl.1,xl.2.1,xl.2.2,h.gY.2.2.2.2.2⟩⟩
theorem bo.lock{K:pG}{s:gV}{lk lk':Int}{lab:Nat->Nat}(h:bo o w K s lk lab):bo o (w.setCell ⟨K.kb,0,none⟩ (.int .i32 lk')) K s lk' lab:=by
 refine h.put (Go.Conc.bN.setCell h.aG dU) (je _ _ _ _) ((h.row.set 0 _).congr fun j hj=>?_) rfl rfl ⟨h.gY.2.2.1,h.gY.2.2.2.1,h.gY.2.2.2.2.1⟩;rcases nz hj with rfl|rfl|rfl|rfl|rfl|rfl|rfl|rfl|rfl|rfl|rfl|rfl|rfl<;>rfl
end
section
variable {Fin:bL} {o:aN} {w:ae} {K:pG} {s:gV} {lab:Nat->Nat}
theorem bo.unlock{f:FuncId}{Post:Value->aN->ae->Prop}(h:bo o w K s 1 lab)(tm:Array Value)(hl:∀w',bo o w' K s 0 lab->w'.heap.size=w.heap.size->(∀b,b≠K.kb->w'.heap[b]?=w.heap[b]?)->jP (XB au Fin 0) f Post ⟨tm,[]⟩ o w'):
  jP (XB au Fin 0) f Post ⟨tm,[{target:=.fn (.func 46) #[],args:=#[.pointer (some ⟨K.kb,0,none⟩)]}]⟩ o w :=
 wD K.kb 0 h.own (by rw[h.row.cell aa];rfl) (h.row.frozen 0) _ _ (hl _ h.lock (je w K.kb 0 (.int .i32 0)).1 (je w K.kb 0 (.int .i32 0)).2)
def rO(time:Nat)(n:Int):Prop:=1<=n/\n<=100/\(time:Int)+n<=100000
theorem MT(h:bo o w K s 0 lab)(n:Int):
  bA au (XB au Fin 0) 37 #[.pointer (some ⟨K.kb,0,none⟩),.int .i64 n] o w fun v o' w'=>o'=o/\w'.heap.size=w.heap.size/\(∀b,b≠K.kb->w'.heap[b]?=w.heap[b]?)/\((v=.int .i64 8/\¬rO s.time n/\bo o' w' K s 0 lab)\/(v=.int .i64 0/\rO s.time n/\bo o' w' K {s with time:=s.time+n.toNat} 0 lab)):=by
 have W:=bY (P:=au) (Fin:=Fin) (d:=0);refine oQ W func37 ar ?_;bP Tryz.f37;refine ax ?_;refine cj func45 (CZ K.kb 0 h.own (by rw[h.row.cell aa];rfl) (h.row.frozen 0)) ?_;rintro v0 o0 w0 ⟨rfl,rfl,rfl⟩;have h1:=h.lock (lk':=1);have on1:=je w K.kb 0 (.int .i32 1);generalize w.setCell ⟨K.kb,0,none⟩ (.int .i32 1)=w1 at h1 on1 |-;refine ax ?_;refine mw W (d:={target:=.fn (.func 46) #[],args:=#[.pointer (some ⟨K.kb,0,none⟩)]}) rfl ar (fun w1=>fU) (fun w1=>fU) rfl ?_;aE;have alo:=h.gY.2.2.1;have c6:w1.cell? ⟨K.kb,6,none⟩=some (.int .i64 s.time):=by rw[h1.row.cell aa];rfl
 have bad:¬rO s.time n->∀tm,tm.getD 4 undef=.int .i64 8->jP (XB au Fin 0) 37 (fun v o' w'=>o'=o0/\w'.heap.size=w.heap.size/\(∀b,b≠K.kb->w'.heap[b]?=w.heap[b]?)/\((v=.int .i64 8/\¬rO s.time n/\bo o' w' K s 0 lab)\/(v=.int .i64 0/\rO s.time n/\bo o' w' K {s with time:=s.time+n.toNat} 0 lab))) ⟨tm,[{target:=.fn (.func 46) #[],args:=#[.pointer (some ⟨K.kb,0,none⟩)]}]⟩ o0 w1:=fun hb tm ht =>
  h1.unlock tm fun w' hk hz hs=>mr W func37 rfl (resultsC_tmp (t:=4) ar _) ⟨rfl,hz.trans on1.1,fun b hb=>(hs b hb).trans (on1.2 b hb),.inl ⟨ht,hb,hk⟩⟩
 by_cases n1:n<1
 ·refine ax ?_;exact⟨.inr trivial,bad (fun q=>by have:=q.1;omega) _ rfl⟩
 by_cases n2:100<n
 ·refine ax ?_;exact⟨.inr trivial,bad (fun q=>by have:=q.2.1;omega) _ rfl⟩
 refine ax ?_;refine lz h1.aG h.own c6 fun _=>?_;aE;have ve:IntKind.i64.wrap ((s.time:Int)+n)=(s.time:Int)+n:=by rw[IntKind.wrap_i64]<;>omega
 by_cases n3:100000<(s.time:Int)+n
 ·refine ax ?_;exact⟨.inr trivial,bad (fun q=>by have:=q.2.2;omega) _ rfl⟩
 refine ax ?_;refine lz h1.aG h.own c6 fun _=>?_;refine ax ?_;refine dz bS h1.aG rfl ar ar ?_ rfl (R:=fun wl aW=>aW=wl.setCell ⟨K.kb,6,none⟩ (.int .i64 ((s.time:Int)+n))) (fun wl aU=>⟨_,?_,rfl⟩) fun wl aW w9 aU hR bO=>?_
 ·exact ja (bX h.own) dU
 ·have rl:=World.rowIs.of_block h1.row (aU.heap _ h.own);have e1:=(aU.cell h.own).trans c6;have f:=rl.frozen;simp[go_sem,e1,f,ve]
 have hO:eK K.kb wl aW:=by rw[hR];exact je _ _ _ _
 obtain⟨lV,ow,e9⟩:=bO.only aU h.own hO;have mB:=bO.aG;rw[e9] at mB |-;rw[hR] at ow;have hn:(s.time:Int)+n=((s.time+n.toNat:Nat):Int):=aa;have h9:bo o0 w9 K {s with time:=s.time+n.toNat} 1 lab:=by
  refine h1.put mB lV (World.rowIs.of_block (((World.rowIs.of_block h1.row (aU.heap _ h.own)).set 6 _).congr fun j hj=>?_) ow) rfl rfl ⟨dX,by have:=h.gY.2.2.2.1;simp;omega,h.gY.2.2.2.2.1⟩;rcases nz hj with rfl|rfl|rfl|rfl|rfl|rfl|rfl|rfl|rfl|rfl|rfl|rfl|rfl<;>simp[sC,hn]
 clear hR bO aU hO ow wl aW e9;refine ax ?_;refine⟨.inr trivial,h9.unlock _ fun w' hk hz hs=>mr W func37 rfl (resultsC_tmp (t:=4) ar _) ⟨rfl,hz.trans (lV.1.trans on1.1),fun b hb=>(hs b hb).trans ((lV.2 b hb).trans (on1.2 b hb)),.inr ⟨aI,⟨aa,aa,aa⟩,hk⟩⟩⟩
end
section
variable {Fin:bL} {o o':aN} {w w':ae} {K:pG} {s:gV} {lk:Int} {lab:Nat->Nat}
structure cP(o:aN)(w:ae)(lab:Nat->Nat)(o':aN)(w':ae)(lab':Nat->Nat):Prop where
 bt:bB (fun b=>lab b<=6) o w o' w'
 lab:∀b,b<w.heap.size->lab' b=lab b
theorem cP.trans{o2:aN}{w2:ae}{lab' fW:Nat->Nat}(h:cP o w lab o' w' lab')(k:cP o' w' lab' o2 w2 fW):cP o w lab o2 w2 fW:=by
 have hz:=h.bt.size;refine⟨⟨k.bt.aG,fun b hb=>k.bt.more b (h.bt.more b hb),fun b hb=>(k.bt.new b hb).elim (fun q=>h.bt.new b q) fun q=>.inr aa,by have:=k.bt.size;omega,fun b hb hx=>?_⟩,fun b hb=>(k.lab b aa).trans (h.lab b hb)⟩;rw[k.bt.same b aa (by rw[h.lab b hb];exact hx),h.bt.same b hb hx]
theorem cP.of{ex:Nat->Prop}(h:bB ex o w o' w')(hx:∀b,ex b->lab b<=6):cP o w lab o' w' lab:=⟨h.mono hx,fun _ _=>rfl⟩
structure aaz(o':aN)(w':ae)(K:pG)(s:gV)(lk:Int)(l m:Nat):Prop where
 row:l≠0->m≠0->w'.rowIs K.kb 120 13 (sC K s lk)
 build:l≠1->m≠1->fQ o' w' K.B s.fd s.old
 files:l≠2->m≠2->iy o' w' K.fb K.mT K.mS s.th s.st
 queue:l≠3->m≠3->QG o' w' s.qv s.qn
 cZ:l≠4->m≠4->Rt o' w' s.sv s.src
 reads:l≠5->m≠5->K9 o' w' s.rv s.rd
 set:l≠6->m≠6->Dn o' w' s
theorem bo.parts(h:bo o w K s lk lab){ex:Nat->Prop}(hW:bB ex o w o' w')(l m:Nat)(hx:∀b,ex b->lab b=l\/lab b=m)(qJ:l<=7:=by omega)(hm7:m<=7:=by omega):aaz o' w' K s lk l m:=by
 obtain⟨a1,a2,a3,a4⟩:=h.all;have sm:∀b n,o b->lab b=n->l≠n->m≠n->w'.heap[b]?=w.heap[b]?:=fun b n hb hl h1 h2=>hW.same b (h.aG.lt hb) fun he=>(hx b he).elim (fun e=>h1 (by rw[<- e,hl])) fun e=>h2 (by rw[<- e,hl]);refine⟨fun h1 h2=>World.rowIs.of_block h.row (sm _ 0 h.own h.l0 h1 h2),fun h1 h2=>h.build.keep hW.more hW.size fun b hb=>sm b (MS b) (h.build.own b hb) (h.l1 b hb) (by unfold MS;split<;>omega) (by unfold MS;split<;>omega),fun h1 h2=>h.files.keep hW.more fun b hb=>sm b 2 ?_ (h.l2 b hb) h1 h2,fun h1 h2=>h.queue.keep hW.more hW.size fun g hg=>sm g 3 (a1 g hg) (h.l3 g hg) h1 h2,fun h1 h2=>h.cZ.keep hW.more fun g hg=>sm g 4 (a2 g hg) (h.l4 g hg) h1 h2,fun h1 h2=>h.reads.keep hW.more hW.size fun g hg=>sm g 5 (a3 g hg) (h.l5 g hg) h1 h2,fun h1 h2=>h.set.keep hW.more fun b hb=>sm b 6 (a4 b hb) (h.l6 b hb) h1 h2⟩;rcases hb with rfl|rfl|rfl
 ·exact h.files.own.1
 ·exact h.files.own.2.1
 ·exact h.files.own.2.2
theorem Ot{α:Type}(x:af)(v:α):∀l:List (af×α),(gS l x v).length=if eW l x=none then l.length+1 else l.length
 | []=>by simp[gS,eW]
 | (k,u)::l=>by
  have:=Ot x v l;by_cases h:x=k
  ·simp[gS,eW,h]
  ·simp only[gS,eW,if_neg h,List.length_cons,this];split<;>rfl
theorem Ou{α:Type}(x:af):∀l:List (af×α),(ma l x).length<=l.length
 | []=>by simp[ma]
 | (k,u)::l=>by
  have:=Ou x l;by_cases h:x=k
  ·simp[ma,h]
  ·simp only[ma,if_neg h,List.length_cons];omega
theorem bo.Ov(h:bo o w K s lk lab)(hW:bB (fun b=>b=K.mT\/b=K.mS) o w o' w'){th:List (af×af)}{st:List (af×Int)}(hf:iy o' w' K.fb K.mT K.mS th st)(hl:th.length<=12):bo o' w' K {s with th:=th,st:=st} lk lab/\cP o w lab o' w' lab:=by
 have hx:∀b,b=K.mT\/b=K.mS->lab b=2:=fun b hb=>h.l2 b (.inr hb);have P:=h.parts hW 2 2 fun b hb=>.inl (hx b hb);obtain⟨f1,f2,f3⟩:=h.gY;exact⟨⟨hW.aG,P.row aa aa,hW.more _ h.own,P.build aa aa,hf,P.queue aa aa,P.cZ aa aa,P.reads aa aa,⟨(P.set aa aa).blk,(P.set aa aa).own,(P.set aa aa).res,(P.set aa aa).cl,(P.set aa aa).gY,(P.set aa aa).jX⟩,h.l0,h.l1,h.l2,h.l3,h.l4,h.l5,h.l6,f1,hl,f3⟩,.of hW fun b hb=>by rw[hx b hb];omega⟩
theorem TW(ts:List af)(lost:Bool)(x:af)(h:ts.length<=4):(jH ts lost x).1.length<=4:=by
 unfold jH;split
 ·exact h
 ·split
  ·exact h
  ·simp;omega
theorem bo.TX(h:bo o w K s lk lab)(x:af){qX:Value}(hW:bB (fun b=>b=K.kb\/s.qv.ownBlock=some b) o w o' w')(hq:QG o' w' qX (jH s.qn s.lost x).1)(hb:∀b,qX.ownBlock=some b->b≠K.kb/\(s.qv.ownBlock=some b\/w.heap.size<=b))(hr:w'.rowIs K.kb 120 13 (fun j=>if j=4+1 then .bool (jH s.qn s.lost x).2 else if j=4 then qX else sC K s lk j)):
  ∃lab',bo o' w' K {s with qv:=qX,qn:=(jH s.qn s.lost x).1,lost:=(jH s.qn s.lost x).2} lk lab'/\cP o w lab o' w' lab':=by
 have hx:∀b,b=K.kb\/s.qv.ownBlock=some b->lab b=0\/lab b=3:=fun b hb=>hb.imp (fun e=>by rw[e];exact h.l0) fun e=>h.l3 b e;have P:=h.parts hW 0 3 hx;obtain⟨a1,a2,a3,a4⟩:=h.all;have lt:∀b,o b->b<w.heap.size:=fun b hb=>h.aG.lt hb;have lb:∀b,o b->(if w.heap.size<=b then 3 else lab b)=lab b:=fun b hb=>if_neg (by have:=lt b hb;omega);obtain⟨f1,f2,f3⟩:=h.gY;refine⟨fun b=>if w.heap.size<=b then 3 else lab b,⟨hW.aG,hr.congr fun j hj=>?_,hW.more _ h.own,P.build aa aa,P.files aa aa,hq,P.cZ aa aa,P.reads aa aa,⟨(P.set aa aa).blk,(P.set aa aa).own,(P.set aa aa).res,(P.set aa aa).cl,(P.set aa aa).gY,(P.set aa aa).jX⟩,(lb _ h.own).trans h.l0,fun b hb=>(lb b (h.build.own b hb)).trans (h.l1 b hb),fun b hb=>(lb b ?_).trans (h.l2 b hb),fun b hq=>?_,fun b hb=>(lb b (a2 b hb)).trans (h.l4 b hb),fun b hb=>(lb b (a3 b hb)).trans (h.l5 b hb),fun b hb=>(lb b (a4 b hb)).trans (h.l6 b hb),TW _ _ _ f1,f2,f3⟩,⟨hW.mono fun b hb=>by rcases hx b hb with e|e<;>omega,fun b hb=>if_neg aa⟩⟩
 ·rcases nz hj with rfl|rfl|rfl|rfl|rfl|rfl|rfl|rfl|rfl|rfl|rfl|rfl|rfl<;>rfl
 ·rcases hb with rfl|rfl|rfl
  ·exact h.files.own.1
  ·exact h.files.own.2.1
  ·exact h.files.own.2.2
 ·rcases(hb b hq).2 with e|e
  ·exact(lb b (a1 b e)).trans (h.l3 b e)
  ·exact if_pos e
theorem bo.qne(h:bo o w K s lk lab):s.qv.ownBlock≠some K.kb:=fun e=>by
 have:=h.l3 _ e;rw[h.l0] at this;omega
theorem cP.lock(h:bo o w K s lk lab){lk':Int}:cP o w lab o (w.setCell ⟨K.kb,0,none⟩ (.int .i32 lk')) lab:=.of (bB.dI (ex:=(·=K.kb)) (h.lock (lk':=lk')).aG (je _ _ _ _) rfl) fun b hb=>by rw[hb,h.l0];omega
theorem TY(h:bo o w K s 0 lab)(x t:af)(hx:x.size<=1000000):
  bA au (XB au Fin 0) 21 #[.pointer (some ⟨K.kb,0,none⟩),.string x,.string t] o w fun v o' w'=>∃lab',cP o w lab o' w' lab'/\((∃e,v=.int .i64 e/\e≠0/\¬(isName x/\t.size<=12/\¬(eW s.th x=none/\12<=s.th.length))/\bo o' w' K s 0 lab') \/
   (v=.int .i64 0/\(isName x/\t.size<=12/\¬(eW s.th x=none/\12<=s.th.length))/\∃qX,bo o' w' K {s with th:=gS s.th x t,st:=gS s.st x (IntKind.i64.wrap (cm s.st x+1)),qv:=qX,qn:=(jH s.qn s.lost x).1,lost:=(jH s.qn s.lost x).2} 0 lab')):=by
 have W:=bY (P:=au) (Fin:=Fin) (d:=0);refine oQ W func21 ar ?_;bP Tryz.f21;refine ax ?_;refine cj func45 (CZ K.kb 0 h.own (by rw[h.row.cell aa];rfl) (h.row.frozen 0)) ?_;rintro v0 o0 w0 ⟨rfl,rfl,rfl⟩;have h1:=h.lock (lk':=1);have S1:=cP.lock h (lk':=1);generalize w.setCell ⟨K.kb,0,none⟩ (.int .i32 1)=w1 at h1 S1 |-;refine ax ?_;refine mw W (d:={target:=.fn (.func 46) #[],args:=#[.pointer (some ⟨K.kb,0,none⟩)]}) rfl ar (fun w1=>fU) (fun w1=>fU) rfl ?_;refine ax ?_;have c3:w1.cell? ⟨K.kb,3,none⟩=some (.pointer (some ⟨K.fb,0,none⟩)):=by rw[h1.row.cell aa];rfl
 refine lz h1.aG h.own c3 fun _=>?_;refine ax ?_;refine cj func47 (WU h1.aG h1.files x t hx (by have:=h.gY.2.1;omega)) ?_;rintro v2 o2 w2 ⟨W2,hq⟩;have fail:∀e:Int,e≠0->iy o2 w2 K.fb K.mT K.mS s.th s.st->¬(isName x/\t.size<=12/\¬(eW s.th x=none/\12<=s.th.length))->∀tm,tm.getD 6 undef=.int .i64 e->jP (XB au Fin 0) 21 (fun v o' w'=>∃lab',cP o0 w lab o' w' lab'/\((∃e,v=.int .i64 e/\e≠0/\¬(isName x/\t.size<=12/\¬(eW s.th x=none/\12<=s.th.length))/\bo o' w' K s 0 lab') \/
   (v=.int .i64 0/\(isName x/\t.size<=12/\¬(eW s.th x=none/\12<=s.th.length))/\∃qX,bo o' w' K {s with th:=gS s.th x t,st:=gS s.st x (IntKind.i64.wrap (cm s.st x+1)),qv:=qX,qn:=(jH s.qn s.lost x).1,lost:=(jH s.qn s.lost x).2} 0 lab'))) ⟨tm,[{target:=.fn (.func 46) #[],args:=#[.pointer (some ⟨K.kb,0,none⟩)]}]⟩ o2 w2:=fun e he hf aaA tm ht=>by
  obtain⟨k2,S2⟩:=h1.Ov W2 hf h.gY.2.1;refine k2.unlock tm fun w' hk hz hs=>mr W func21 rfl (resultsC_tmp (t:=6) ar _) ⟨lab,(S1.trans S2).trans (.of (bB.dI (ex:=(·=K.kb)) hk.aG ⟨hz,hs⟩ rfl) fun b hb=>by rw[hb,h.l0];omega),.inl ⟨e,ht,he,aaA,hk⟩⟩
 rcases hq with⟨rfl,q1,hf⟩|⟨rfl,q1,q2,hf⟩|⟨rfl,q1,q2,q3,q4,hf⟩|⟨rfl,q1,q2,q3,hf⟩
 ·aE;refine ax ?_;exact⟨.inr trivial,fail 2 aa hf (fun q=>q1 q.1) _ rfl⟩
 ·aE;refine ax ?_;exact⟨.inr trivial,fail 6 aa hf (fun q=>by have:=q.2.1;omega) _ rfl⟩
 ·aE;refine ax ?_;exact⟨.inr trivial,fail 1 aa hf (fun q=>q.2.2 ⟨q3,q4⟩) _ rfl⟩
 ·obtain⟨k2,S2⟩:=h1.Ov W2 hf (by
   rw[Ot];have:=h.gY.2.1;split
   ·rename_i hn;have:¬12<=s.th.length:=fun q=>q3 ⟨hn,q⟩;omega
   ·omega)
  refine ax ?_;refine cj func48 (Yx k2.aG K.kb 4 120 13 _ s.qv s.qn s.lost x k2.own k2.queue h.qne k2.row aa rfl rfl (by have:=h.gY.1;omega)) ?_;rintro v3 o3 w3 ⟨rfl,W3,qX,Bm,nC,UY⟩;obtain⟨lab',k3,S3⟩:=k2.TX x W3 Bm nC UY;refine ax ?_;refine⟨.inr trivial,k3.unlock _ fun w' hk hz hs=>mr W func21 rfl (resultsC_tmp (t:=6) ar _) ⟨lab',((S1.trans S2).trans S3).trans (.of (bB.dI (ex:=(·=K.kb)) hk.aG ⟨hz,hs⟩ rfl) fun b hb=>by rw[hb,k3.l0];omega),.inr ⟨aI,⟨q1,q2,q3⟩,qX,hk⟩⟩⟩
theorem Ke(h:bo o w K s 0 lab)(x:af)(hx:x.size<=1000000):
  bA au (XB au Fin 0) 36 #[.pointer (some ⟨K.kb,0,none⟩),.string x] o w fun v o' w'=>∃lab',cP o w lab o' w' lab'/\((∃e,v=.int .i64 e/\e≠0/\(¬(isName x/\eW s.th x≠none)/\(isName x->e=7))/\bo o' w' K s 0 lab') \/
   (v=.int .i64 0/\(isName x/\eW s.th x≠none)/\∃qX,bo o' w' K {s with th:=ma s.th x,st:=gS s.st x (IntKind.i64.wrap (cm s.st x+1)),qv:=qX,qn:=(jH s.qn s.lost x).1,lost:=(jH s.qn s.lost x).2} 0 lab')):=by
 have W:=bY (P:=au) (Fin:=Fin) (d:=0);refine oQ W func36 ar ?_;bP Tryz.f36;refine ax ?_;refine cj func45 (CZ K.kb 0 h.own (by rw[h.row.cell aa];rfl) (h.row.frozen 0)) ?_;rintro v0 o0 w0 ⟨rfl,rfl,rfl⟩;have h1:=h.lock (lk':=1);have S1:=cP.lock h (lk':=1);generalize w.setCell ⟨K.kb,0,none⟩ (.int .i32 1)=w1 at h1 S1 |-;refine ax ?_;refine mw W (d:={target:=.fn (.func 46) #[],args:=#[.pointer (some ⟨K.kb,0,none⟩)]}) rfl ar (fun w1=>fU) (fun w1=>fU) rfl ?_;refine ax ?_;have c3:w1.cell? ⟨K.kb,3,none⟩=some (.pointer (some ⟨K.fb,0,none⟩)):=by rw[h1.row.cell aa];rfl
 refine lz h1.aG h.own c3 fun _=>?_;refine ax ?_;refine cj func62 (QI h1.aG h1.files x hx (by have:=h.gY.2.1;omega)) ?_;rintro v2 o2 w2 ⟨W2,hq⟩;have fail:∀e:Int,e≠0->iy o2 w2 K.fb K.mT K.mS s.th s.st->(¬(isName x/\eW s.th x≠none)/\(isName x->e=7))->∀tm,tm.getD 4 undef=.int .i64 e->jP (XB au Fin 0) 36 (fun v o' w'=>∃lab',cP o0 w lab o' w' lab'/\((∃e,v=.int .i64 e/\e≠0/\(¬(isName x/\eW s.th x≠none)/\(isName x->e=7))/\bo o' w' K s 0 lab') \/
   (v=.int .i64 0/\(isName x/\eW s.th x≠none)/\∃qX,bo o' w' K {s with th:=ma s.th x,st:=gS s.st x (IntKind.i64.wrap (cm s.st x+1)),qv:=qX,qn:=(jH s.qn s.lost x).1,lost:=(jH s.qn s.lost x).2} 0 lab'))) ⟨tm,[{target:=.fn (.func 46) #[],args:=#[.pointer (some ⟨K.kb,0,none⟩)]}]⟩ o2 w2:=fun e he hf aaA tm ht=>by
  obtain⟨k2,S2⟩:=h1.Ov W2 hf h.gY.2.1;refine k2.unlock tm fun w' hk hz hs=>mr W func36 rfl (resultsC_tmp (t:=4) ar _) ⟨lab,(S1.trans S2).trans (.of (bB.dI (ex:=(·=K.kb)) hk.aG ⟨hz,hs⟩ rfl) fun b hb=>by rw[hb,h.l0];omega),.inl ⟨e,ht,he,aaA,hk⟩⟩
 rcases hq with⟨rfl,q1,hf⟩|⟨rfl,q1,q2,hf⟩|⟨rfl,q1,q2,hf⟩
 ·aE;refine ax ?_;exact⟨.inr trivial,fail 2 aa hf ⟨fun q=>q1 q.1,fun q=>absurd q q1⟩ _ rfl⟩
 ·aE;refine ax ?_;exact⟨.inr trivial,fail 7 aa hf ⟨fun q=>q.2 q2,fun _=>rfl⟩ _ rfl⟩
 ·obtain⟨k2,S2⟩:=h1.Ov W2 hf (by have:=Ou x s.th;have:=h.gY.2.1;omega);refine ax ?_;refine cj func48 (Yx k2.aG K.kb 4 120 13 _ s.qv s.qn s.lost x k2.own k2.queue h.qne k2.row aa rfl rfl (by have:=h.gY.1;omega)) ?_;rintro v3 o3 w3 ⟨rfl,W3,qX,Bm,nC,UY⟩;obtain⟨lab',k3,S3⟩:=k2.TX x W3 Bm nC UY;refine ax ?_;refine⟨.inr trivial,k3.unlock _ fun w' hk hz hs=>mr W func36 rfl (resultsC_tmp (t:=4) ar _) ⟨lab',((S1.trans S2).trans S3).trans (.of (bB.dI (ex:=(·=K.kb)) hk.aG ⟨hz,hs⟩ rfl) fun b hb=>by rw[hb,k3.l0];omega),.inr ⟨aI,⟨q1,q2⟩,qX,hk⟩⟩⟩
theorem WV:Rt o w (.slice none 0 0) []:=⟨⟨none,0,0,rfl,fun _=>rfl,fun h=>absurd rfl h,fun k hk=>by simp at hk⟩,iU,aj⟩
theorem Ow:K9 o w (.slice none 0 0) []:=⟨⟨0,aV _,by simp[ff],.inl ⟨rfl,rfl⟩⟩,iU,aj⟩
def gV.stand(s:gV)(phase since:Nat):gV:={s with phase:=phase,since:=since,sv:=.slice none 0 0,src:=[],rv:=.slice none 0 0,rd:=[],ck:=0}
theorem bo.Kf(h:bo o w K s lk lab){phase since:Nat}(hF:bN au L0 o w')(hO:eK K.kb w w')(hr:w'.rowIs K.kb 120 13 (sC K (s.stand phase since) lk))(hs:since<=s.time):bo o w' K (s.stand phase since) lk lab:=by
 have hW:bB (·=K.kb) o w o w':=bB.dI hF hO rfl;have P:=h.parts hW 0 0 fun b hb=>.inl (by rw[hb];exact h.l0);have q6:=P.set aa aa;obtain⟨f1,f2,f3,-⟩:=h.gY;exact⟨hF,hr,h.own,P.build aa aa,P.files aa aa,P.queue aa aa,WV,Ow,⟨q6.blk,q6.own,q6.res,q6.cl,q6.gY,q6.jX⟩,h.l0,h.l1,h.l2,h.l3,(fun b hb=>by cases hb),(fun b hb=>by cases hb),h.l6,f1,f2,f3,hs,aV _,aV _⟩
theorem FK(h:w.rowIs K.kb 120 13 (sC K s lk))(phase since:Nat):(((((w.setCell ⟨K.kb,7,none⟩ (.int .i64 phase)).setCell ⟨K.kb,8,none⟩ (.int .i64 since)).setCell ⟨K.kb,9,none⟩ (.slice none 0 0)).setCell ⟨K.kb,10,none⟩ (.slice none 0 0)).setCell ⟨K.kb,11,none⟩ (.int .i64 0)).rowIs K.kb 120 13 (sC K (s.stand phase since) lk):=by
 refine(((((h.set 7 _).set 8 _).set 9 _).set 10 _).set 11 _).congr fun j hj=>?_;rcases nz hj with rfl|rfl|rfl|rfl|rfl|rfl|rfl|rfl|rfl|rfl|rfl|rfl|rfl<;>rfl
theorem TZ(w:ae)(b i1 i2 i3 i4 i5:Nat)(x1 x2 x3 x4 x5:Value):eK b w (((((w.setCell ⟨b,i1,none⟩ x1).setCell ⟨b,i2,none⟩ x2).setCell ⟨b,i3,none⟩ x3).setCell ⟨b,i4,none⟩ x4).setCell ⟨b,i5,none⟩ x5):=((uM w b i1 i2 i3 x1 x2 x3).at i4 x4).at i5 x5
theorem sCl{phase since:Nat}:Cl au L0 o (.agg #[.int .i64 phase,.int .i64 since,.slice none 0 0,.slice none 0 0,.int .i64 0]):=fX (vs:=[_,_,_,_,_]) (fun x hx=>by
 simp at hx;rcases hx with rfl|rfl|rfl|rfl
 ·exact dU
 ·exact dU
 ·exact iU
 ·exact dU)
theorem T1(h:bo o w K s lk lab):
  bA au (XB au Fin 0) 102 #[.pointer (some ⟨K.kb,0,none⟩)] o w fun v o' w'=>v=.tuple #[]/\cP o w lab o' w' lab/\bo o' w' K (s.stand 1 s.time) lk lab:=by
 have W:=bY (P:=au) (Fin:=Fin) (d:=0);refine bD W func102 ar ?_;bP Tryz.f102;have c6:w.cell? ⟨K.kb,6,none⟩=some (.int .i64 s.time):=by rw[h.row.cell aa];rfl
 refine ax ?_;refine lz h.aG h.own c6 fun _=>?_;refine ax ?_;refine dz bS h.aG rfl ar ar ?_ rfl (R:=fun wl aW=>aW=((((wl.setCell ⟨K.kb,7,none⟩ (.int .i64 (1:Nat))).setCell ⟨K.kb,8,none⟩ (.int .i64 s.time)).setCell ⟨K.kb,9,none⟩ (.slice none 0 0)).setCell ⟨K.kb,10,none⟩ (.slice none 0 0)).setCell ⟨K.kb,11,none⟩ (.int .i64 0)) (fun wl aU=>⟨_,?_,rfl⟩) fun wl aW w9 aU hR bO=>?_
 ·refine ja ?_ ?_
  ·exact bX h.own
  ·exact sCl (phase:=1)
 ·have rl:=World.rowIs.of_block h.row (aU.heap _ h.own);have e7:=rl.cell (i:=7) aa;have e8:=rl.cell (i:=8) aa;have e9:=rl.cell (i:=9) aa;have XU:=rl.cell (i:=10) aa;have RP:=rl.cell (i:=11) aa;have f:=rl.frozen;simp[go_sem,e7,e8,e9,XU,RP,f]
 have hO:eK K.kb wl aW:=by rw[hR];exact TZ _ _ _ _ _ _ _ _ _ _ _ _
 obtain⟨lV,ow,e9⟩:=bO.only aU h.own hO;have mB:=bO.aG;rw[e9] at mB |-;rw[hR] at ow;have h9:=h.Kf mB lV (World.rowIs.of_block (FK (World.rowIs.of_block h.row (aU.heap _ h.own)) 1 s.time) ow) (ag _);clear hR bO aU hO ow wl aW e9;refine ax ?_;exact⟨.inl trivial,trivial,.tuple #[],fun w1=>results_none ah _ _,aj,.of (bB.dI (ex:=(·=K.kb)) mB lV rfl) fun b hb=>by rw[hb,h.l0];omega,h9⟩
theorem bo.yR(h:bo o w K s lk lab)(hW:bB (fun _=>False) o w o' w'):bo o' w' K s lk lab/\cP o w lab o' w' lab:=by
 have P:=h.parts hW 7 7 fun b hb=>hb.elim;exact⟨⟨hW.aG,P.row aa aa,hW.more _ h.own,P.build aa aa,P.files aa aa,P.queue aa aa,P.cZ aa aa,P.reads aa aa,P.set aa aa,h.l0,h.l1,h.l2,h.l3,h.l4,h.l5,h.l6,h.gY⟩,.of hW fun b hb=>hb.elim⟩
theorem bo.aside(h:bo o w K s lk lab){ex:Nat->Prop}(hW:bB ex o w o' w')(hx:∀b,ex b->lab b=7):bo o' w' K s lk lab:=by
 have P:=h.parts hW 7 7 fun b hb=>.inl (hx b hb);exact⟨hW.aG,P.row aa aa,hW.more _ h.own,P.build aa aa,P.files aa aa,P.queue aa aa,P.cZ aa aa,P.reads aa aa,P.set aa aa,h.l0,h.l1,h.l2,h.l3,h.l4,h.l5,h.l6,h.gY⟩
theorem bo.Kg(h:bo o w K s lk lab){lab':Nat->Nat}(hl:∀b,o b->lab' b=lab b):bo o w K s lk lab':=by
 obtain⟨a1,a2,a3,a4⟩:=h.all;refine⟨h.aG,h.row,h.own,h.build,h.files,h.queue,h.cZ,h.reads,h.set,(hl _ h.own).trans h.l0,fun b hb=>(hl b (h.build.own b hb)).trans (h.l1 b hb),fun b hb=>(hl b ?_).trans (h.l2 b hb),fun b hb=>(hl b (a1 b hb)).trans (h.l3 b hb),fun b hb=>(hl b (a2 b hb)).trans (h.l4 b hb),fun b hb=>(hl b (a3 b hb)).trans (h.l5 b hb),fun b hb=>(hl b (a4 b hb)).trans (h.l6 b hb),h.gY⟩;rcases hb with rfl|rfl|rfl
 ·exact h.files.own.1
 ·exact h.files.own.2.1
 ·exact h.files.own.2.2
theorem bo.built(h:bo o w K s lk lab)(hW:bB (·=K.B.Rb) o w o' w'){iu:Nat->Option (Nat×List V)}(hB:fQ o' w' K.B s.fd iu){mid:Nat}(hm:∀b,nI K.B s.fd iu b->b<mid)(ho:∀i,i<K.B.rs.length->∃b vs,iu i=some (b,vs)/\((∃vs',s.old i=some (b,vs'))\/w.heap.size<=b)):
  ∃lab',bo o' w' K {s with old:=iu} lk lab'/\cP o w lab o' w' lab'/\∀b,w.heap.size<=b->mid<=b->lab' b=6:=by
 have hx:∀b,b=K.B.Rb->lab b=1:=fun b hb=>(h.l1 b (.inr (.inr (.inl hb)))).trans (if_neg (by have:=h.build.apart.2.2.2.1;omega));have P:=h.parts hW 1 1 fun b hb=>.inl (hx b hb);obtain⟨a1,a2,a3,a4⟩:=h.all;have lb:∀b,o b->(if w.heap.size<=b then(if mid<=b then 6 else 1) else lab b)=lab b:=fun b hb=>if_neg (by have:=h.aG.lt hb;omega);have q6:=P.set aa aa;refine⟨fun b=>if w.heap.size<=b then(if mid<=b then 6 else 1) else lab b,⟨hW.aG,P.row aa aa,hW.more _ h.own,hB,P.files aa aa,P.queue aa aa,P.cZ aa aa,P.reads aa aa,⟨q6.blk,q6.own,q6.res,q6.cl,q6.gY,q6.jX⟩,(lb _ h.own).trans h.l0,fun b hb=>?_,fun b hb=>(lb b ?_).trans (h.l2 b hb),fun b hb=>(lb b (a1 b hb)).trans (h.l3 b hb),fun b hb=>(lb b (a2 b hb)).trans (h.l4 b hb),fun b hb=>(lb b (a3 b hb)).trans (h.l5 b hb),fun b hb=>(lb b (a4 b hb)).trans (h.l6 b hb),h.gY⟩,⟨hW.mono fun b hb=>by rw[hx b hb];omega,fun b hb=>if_neg aa⟩,fun b h1 h2=>by simp[h1,h2]⟩
 ·by_cases hz:w.heap.size<=b
  ·have:=hm b hb;have h4:=h.build.apart.2.2.2.1;have cB:=h.aG.lt (h.build.own K.B.Rb (.inr (.inr (.inl rfl))));simp only[hz,if_true];exact(if_neg aa).trans (if_neg aa).symm
  ·simp only[hz,if_false];rcases hb with q|q|q|q|q|q|⟨i,vs,hi,q⟩
   ·exact h.l1 b (.inl q)
   ·exact h.l1 b (.inr (.inl q))
   ·exact h.l1 b (.inr (.inr (.inl q)))
   ·exact h.l1 b (.inr (.inr (.inr (.inl q))))
   ·exact h.l1 b (.inr (.inr (.inr (.inr (.inl q)))))
   ·exact h.l1 b (.inr (.inr (.inr (.inr (.inr (.inl q))))))
   ·obtain⟨b',vs',e1,e2⟩:=ho i hi;have q':iu i=some (b,vs):=q;rw[e1] at q';cases q';rcases e2 with⟨vs2,e2⟩|e2
    ·exact h.l1 b (.inr (.inr (.inr (.inr (.inr (.inr ⟨i,vs2,hi,e2⟩))))))
    ·exact absurd e2 hz
 ·rcases hb with rfl|rfl|rfl
  ·exact h.files.own.1
  ·exact h.files.own.2.1
  ·exact h.files.own.2.2
theorem bo.QJ(h:bo o w K s lk lab){s':gV}(hF:bN au L0 o w')(hO:eK K.kb w w')(hr:w'.rowIs K.kb 120 13 (sC K s' lk))(aiz:Dn o w s')(he:s'={s with pb:=s'.pb,num:=s'.num,lC:=s'.lC,res:=s'.res,mO:=s'.mO,jX:=s'.jX})(h6:∀b,yQ s' b->lab b=6):bo o w' K s' lk lab:=by
 have hW:bB (·=K.kb) o w o w':=bB.dI hF hO rfl;have P:=h.parts hW 0 0 fun b hb=>.inl (by rw[hb];exact h.l0);have q6:=aiz.keep (o':=o) (w':=w') (fun _ q=>q) fun b hb=>hO.2 b fun e=>by have:=h6 b hb;rw[e,h.l0] at this;omega
 rw[he] at hr q6 h6 |-;exact⟨hF,hr,h.own,P.build aa aa,P.files aa aa,P.queue aa aa,P.cZ aa aa,P.reads aa aa,q6,h.l0,h.l1,h.l2,h.l3,h.l4,h.l5,h6,h.gY⟩
theorem Kh:∀(ss:List (V×Int)) (i:Nat) (h:i<ss.length),(ff ss)[i*3]?=some (.bool ss[i].1.1)/\(ff ss)[i*3+1]?=some (.string ss[i].1.2)/\(ff ss)[i*3+2]?=some (.int .i64 ss[i].2)
 | [],i,h=>by simp at h
 |a::ss,0,h=>by simp[ff]
 |a::ss,i+1,h=>by
  have:=Kh ss i (by simpa using h);have e:ff (a::ss)=.bool a.1.1 :: .string a.1.2 :: .int .i64 a.2::ff ss:=by simp[ff]
  rw[e];have e1:(i+1)*3=i*3+1+1+1:=aa;have e2:(i+1)*3+1=i*3+1+1+1+1:=aa;have e3:(i+1)*3+2=i*3+2+1+1+1:=aa;rw[e3,e2,e1];simpa using this
theorem K9.view{v:Value}{ss:List (V×Int)}(h:K9 o w v ss)(hF:bN au L0 o w):∃p b c,v=.slice p ss.length c/\(ss≠[]->p=some ⟨b,0,none⟩/\o b)/\pd w b ss:=by
 obtain⟨lo,vO,cp⟩:=h.row;have hr:=cp;obtain⟨hl,hc⟩:=hr;rcases hc with⟨rfl,hn⟩|⟨g,cap,cur,rfl,h1,h2,h3,h4,h5,h6⟩
 ·have e:ss=[]:=List.length_eq_zero_iff.1 hn;subst e;exact⟨none,0,0,rfl,fun q=>absurd rfl q,fun i hi=>by simp at hi⟩
 ·refine⟨_,g,cap,rfl,fun _=>⟨rfl,Hd hF h.cl⟩,fun i hi=>?_⟩;obtain⟨q1,q2,q3⟩:=Kh ss i hi;have ca:=fun j hj=>World.ownsRow.cellAt cp j hj;exact⟨(ca (i*3) aa).trans q1,(ca (i*3+1) aa).trans q2,(ca (i*3+2) aa).trans q3⟩
def nZ(B:vt)(F:da)(file:af->V):List (af×V):=(List.range B.rs.length).map fun i=>(qW F.cu i,lC B F file i)
theorem Ox{B:vt}{F:da}{file:af->V}{R:Nat}(h:w.rowIs R 65 (B.rs.length*3) (hZ (qW F.cu) (lC B F file) B.rs.length)):nJ w R (nZ B F file):=fun i hi=>by
 have mn:i<B.rs.length:=by simpa[nZ] using hi
 have h0:(i*3)%3=0:=aa;have h1:(i*3+1)%3=1:=aa;have h2:(i*3+2)%3=2:=aa;have d0:(i*3)/3=i:=aa;have d1:(i*3+1)/3=i:=aa;have d2:(i*3+2)/3=i:=aa;refine⟨?_,?_,?_⟩
 ·rw[h.cell aa];simp[hZ,h0,d0,nZ,show i*3<B.rs.length*3 by omega]
 ·rw[h.cell aa];simp[hZ,h1,d1,nZ,show i*3+1<B.rs.length*3 by omega]
 ·rw[h.cell aa];simp[hZ,h2,d2,nZ,show i*3+2<B.rs.length*3 by omega]
theorem uR{lo:Nat}{ts:List af}{v:Value}(h:ir lo ts v w):∃p l c,v=.slice p l c:=by
 rcases h.own with⟨e,-⟩|⟨g,cap,e,-⟩
 ·exact⟨_,_,_,e⟩
 ·exact⟨_,_,_,e⟩
theorem QK[Payload](h:bo o w K s lk lab)(lo:Nat)(F:da)(D2:s.fd=some (lo,F))(file:af->V)(pF:∀x,(file x).2.size<=100)(TR:s.rd.map (·.1)=(fq K.B.NM K.B.rs).map file):
  bA au (XB au Fin 0) 101 #[.pointer (some ⟨K.kb,0,none⟩)] o w fun v o' w'=>v=.agg #[.int .i64 6,.string aP]/\∃lab' iu QL sD sE,cP o w lab o' w' lab'/\(∀i,i<K.B.rs.length->∃b,iu i=some (b,mN K.B F file i))/\bo o' w' K {s.stand 0 0 with old:=iu,pb:=QL,num:=IntKind.i64.wrap (s.num+1),lC:=sD,res:=nZ K.B F file,mO:=sE,jX:=rN (qW F.cu) (mO s.old (mN K.B F file)) K.B.rs.length} lk lab':=by
 have W:=bY (P:=au) (Fin:=Fin) (d:=0);refine eC W func101 ar ?_;bP Tryz.f101;refine ax ?_;refine dv bS h.aG rfl ar ar ni rfl (R:=fun wl v aW=>v=.pointer (some ⟨wl.heap.size,0,none⟩)/\aW=wl.alloc (Obj.cells #[.int .i64 0,.string aP] 32)) (fun wl aU=>⟨_,_,by simp[go_sem];rfl,rfl,rfl⟩) fun wl v1 aW w1 aU hR bO=>?_;obtain⟨rfl,hR⟩:=hR;obtain⟨z1,k1,tN⟩:=bO.alloc h.aG aU hR;have lD:=bO.aG;rw[aU.size];clear hR bO aU wl aW;have tI:bB (fun _=>False) o w (grow o w w1) w1:=⟨lD,jr,fun b hb=>hb.imp id fun q=>q.1,aa,fun b hb _=>k1 b hb⟩;obtain⟨dt,Ua⟩:∃l:Nat->Nat,l=fun b=>if b=w.heap.size then 7 else lab b:=⟨_,rfl⟩
 have yS:∀b,b<w.heap.size->dt b=lab b:=fun b hb=>by rw[Ua];exact if_neg aa
 have qJ:dt w.heap.size=7:=by rw[Ua];exact if_pos rfl
 obtain⟨h1,S1⟩:=(h.Kg fun b hb=>yS b (h.aG.lt hb)).yR tI;clear Ua;have xa:grow o w w1 w.heap.size:=.inr ⟨ag _,aa⟩;generalize grow o w w1=o1 at *;obtain⟨p,rb,rc,La,YD,Cw⟩:=h1.reads.view h1.aG;have Yl:s.rd.length=(fq K.B.NM K.B.rs).length:=by simpa using congrArg List.length TR
 have c2:w1.cell? ⟨K.kb,2,none⟩=some (.pointer (some ⟨K.B.bb,0,none⟩)):=by rw[h1.row.cell aa];rfl
 have c10:w1.cell? ⟨K.kb,10,none⟩=some (.slice p s.rd.length rc):=by rw[h1.row.cell aa];exact congrArg some La
 have Ub:=h1.aG.lt h1.own;refine ax ?_;have PM:=h1.build;rw[D2] at PM;have Vu:=h1.reads.cl;rw[La] at Vu;refine dS mixed ah [some none,some none,some none,some (some (.pointer (some ⟨K.B.bb,0,none⟩))),some none,some none,some none,some none,some (some (.slice p s.rd.length rc)),none,none,some none,some none,some none,some none,some none]
  (S:=fun σ o' w'=>(σ 10=none/\bB (fun _=>False) o1 w1 o' w'/\∀y,σ 9=some y->∃Vb,y=.slice (some ⟨Vb,0,none⟩) s.rd.length s.rd.length/\w1.heap.size<=Vb/\o' Vb/\fe w' Vb (s.rd.map (·.1))) \/
   (∃y,σ 10=some y/\∃o2 w2 R rv iu,bB (fun _=>False) o1 w1 o2 w2/\y=.tuple #[.slice (some ⟨R,0,none⟩) K.B.rs.length K.B.rs.length,rv]/\bB (·=K.B.Rb) o2 w2 o' w'/\fQ o' w' K.B (some (lo,F)) iu/\(∀i,i<K.B.rs.length->∃b,iu i=some (b,mN K.B F file i)/\((∃vs,s.old i=some (b,vs))\/w2.heap.size<=b)) /\
    (w2.heap.size<=R/\o' R/\w'.rowIs R 65 (K.B.rs.length*3) (hZ (qW F.cu) (lC K.B F file) K.B.rs.length))/\ir w2.heap.size (rN (qW F.cu) (mO s.old (mN K.B F file)) K.B.rs.length) rv w'/\Cl au L0 o' rv/\(∀g l c,rv=.slice (some ⟨g,0,none⟩) l c->o' g)/\∃mid,w2.heap.size<=mid/\mid<=R/\(∀b,nI K.B (some (lo,F)) iu b->b<mid)/\∀g,rv.ownBlock=some g->mid<=g)) ?_ fun v=>?_
 ·exact .inl ⟨rfl,bB.refl h1.aG,fun y hy=>by cases hy⟩
 refine dR ?_;refine cE ?_;refine cq bS rfl rfl rfl ar ar (fun σ o' w' H hS=>?_) ?_
 ·rcases hS with⟨nH,hW,-⟩|⟨y,nH,-⟩
  ·have mq:=hW.more _ h1.own;exact tM hW.aG mq ((cell_of (hW.same _ Ub id)).trans c2)
  ·rw[H.qQ [] 10 ah] at nH;cases nH
 refine cE ?_;refine cq bS rfl rfl rfl ar ar (fun σ o' w' H hS=>?_) ?_
 ·rcases hS with⟨nH,hW,-⟩|⟨y,nH,-⟩
  ·have mq:=hW.more _ h1.own;exact tM hW.aG mq ((cell_of (hW.same _ Ub id)).trans c10)
  ·rw[H.qQ [9] 10 ah] at nH;cases nH
 aE;refine vm rfl rfl ar rfl func141 ah rfl (av:=#[.slice p s.rd.length rc]) aI (fun σ o' w' H h9 hS=>?_) ?_
 ·rcases hS with⟨nH,hW,-⟩|⟨y,nH,-⟩
  ·refine(Ha hW.aG rb rc p s.rd (by have:=h1.reads.gY;omega) (fun q=>⟨(YD q).1,hW.more _ (YD q).2⟩) (fun i hi=>?_) (Vu.up hW.more)).mono ?_
   ·have dJ:s.rd≠[]:=fun q=>by rw[q] at hi;simp at hi
    exact yJ Cw (hW.same _ (h1.aG.lt (YD dJ).2) id) i hi
   ·rintro y o2 w2 ⟨N,rfl,z,hv⟩;refine .inl ⟨by simpa[fR] using nH,hW.trans (bB.eL N),fun y hy=>?_⟩;simp only[fR,if_true,ay] at hy;exact⟨w'.heap.size,hy.symm,hW.size,by rw[N.own];exact .inr ⟨ag _,z⟩,hv⟩
  ·rw[H.xz 10 ah] at nH;cases nH
 aE;refine vm rfl rfl ar rfl func42 ah rfl (av:=#[.pointer (some ⟨K.B.bb,0,none⟩),v 9]) aI (fun σ o' w' H nH hS=>?_) ?_
 ·rcases hS with⟨-,hW,h9⟩|⟨y,q,-⟩
  ·obtain⟨Vb,hy,hVz,hVo,hVr⟩:=h9 _ (H.done 9 ah rfl);have JL:=h1.aG.lt (PM.own K.B.Rb (.inr (.inr (.inl rfl))));rw[TR] at hVr;rw[hy];refine(Om hW.aG K.B lo F s.old (PM.keep hW.more hW.size fun b hb=>hW.same _ (h1.aG.lt (PM.own b hb)) id) file pF Vb s.rd.length hVo aa hVr (by simp[Yl])).mono ?_;rintro y o2 w2 ⟨R,rv,iu,q⟩;exact .inr ⟨y,by simp[fR],o',w',R,rv,iu,hW,q⟩
  ·rw[nH] at q;cases q
 refine cE ?_;obtain⟨ra,rb',rT⟩:∃a b,(∃a' b',v 10=.tuple #[a',b'])->v 10=.tuple #[a,b]:=by
  by_cases q:∃a' b',v 10=.tuple #[a',b']
  ·obtain⟨a,b,e⟩:=q;exact⟨a,b,fun _=>e⟩
  ·exact⟨.tuple #[],.tuple #[],fun q'=>absurd q' q⟩
 refine yq (v 10=.tuple #[ra,rb']) ra rfl rfl rfl ar (fun σ o' w' H hS=>?_) (fun hv w1=>?_) (fun hv w1=>?_) fun y18 aiB=>?_
 ·have d:=H.Ja [11] 10 ah rfl;rcases hS with⟨nH,-⟩|⟨y,nH,o2,w2,R,rv,iu,-,e,-⟩
  ·rw[d] at nH;cases nH
  ·rw[d] at nH;cases nH;exact rT ⟨_,_,e⟩
 ·simp[go_sem,Act.eval,hv]
 ·simp[go_sem,Act.eval,hv]
 aE;refine yq (v 10=.tuple #[ra,rb']) rb' rfl rfl rfl ar (fun σ o' w' H hS=>?_) (fun hv w1=>?_) (fun hv w1=>?_) fun y19 aiC=>?_
 ·have d:=H.Ja [11] 10 ah rfl;rcases hS with⟨nH,-⟩|⟨y,nH,o2,w2,R,rv,iu,-,e,-⟩
  ·rw[d] at nH;cases nH
  ·rw[d] at nH;cases nH;exact rT ⟨_,_,e⟩
 ·simp[go_sem,Act.eval,hv]
 ·simp[go_sem,Act.eval,hv]
 refine cE ?_;refine cE ?_;refine cD fun σ o3 w3 mC hS=>?_;rcases hS with⟨nH,-⟩|⟨y,nH,o2,w2,R,rv,iu,uq,e,sH,hB,hold,⟨hRz,hRo,aej⟩,La,aek,aiF,mid,hm1,XS,hm3,hm4⟩
 ·rw[mC 10 eA rfl] at nH;cases nH
 rw[mC 10 eA rfl] at nH;cases nH;have WW:=rT ⟨_,_,e⟩;obtain rfl:=aiB WW;obtain rfl:=aiC WW;rw[e] at WW;cases WW;simp only[iM,dK,if_true,if_false,reduceIte,Nat.reduceEqDiff];obtain⟨h2,S2⟩:=h1.yR uq;obtain⟨kQ,h3,S3,L3⟩:=h2.built sH (by rw[D2];exact hB) (mid:=mid) (by rw[D2];exact hm3) fun i hi=>by
  obtain⟨b,e,q⟩:=hold i hi;exact⟨b,_,e,q⟩
 have c12:w3.cell? ⟨K.kb,12,none⟩=some (.pointer (some ⟨s.pb,0,none⟩)):=by rw[h3.row.cell aa];rfl
 have X2:=h3.set.blk;have Ri:=h3.set.own;have cn:w3.cell? ⟨s.pb,0,none⟩=some (.int .i64 s.num):=(eQ X2).1;have hk3:=h3.own;obtain⟨rp,rl,eU,rfl⟩:=uR La;refine ax ?_;refine cj func49 (FC K.kb 12 s.pb _ _ _ c12 X2) ?_;rintro v0 o0 w0 ⟨rfl,rfl,rfl⟩;refine ax ?_;refine lz h3.aG Ri cn fun _=>?_;refine ax ?_;refine dv bS h3.aG rfl ar ar ?_ rfl (R:=fun wl v aW=>v=.pointer (some ⟨wl.heap.size,0,none⟩)/\aW=wl.alloc (Obj.cells #[.int .i64 (IntKind.i64.wrap (s.num+1)),.slice (some ⟨R,0,none⟩) K.B.rs.length K.B.rs.length,.slice rp rl eU] 59)) (fun wl aU=>⟨_,_,fU,rfl,rfl⟩) fun wl v1 aW w4 aU hR bO=>?_
 ·refine ng ?_;exact fX (vs:=[_,_,_]) (fun x hx=>by
   simp at hx;rcases hx with rfl|rfl|rfl
   ·exact dU
   ·exact ee hRo
   ·exact aek)
 obtain⟨rfl,hR⟩:=hR;obtain⟨z4,k4,yP⟩:=bO.alloc h3.aG aU hR;have tB:=bO.aG;rw[aU.size];clear hR bO aU wl aW;have Ki:bB (fun _=>False) o0 w0 (grow o0 w0 w4) w4:=⟨tB,jr,fun b hb=>hb.imp id fun q=>q.1,aa,fun b hb _=>k4 b hb⟩;obtain⟨h4,S4⟩:=h3.yR Ki;have tK:grow o0 w0 w4 w0.heap.size:=.inr ⟨ag _,aa⟩;have hRl:=h3.aG.lt hRo;have BB:=Ki.more _ hRo;generalize grow o0 w0 w4=o4 at *;aE;refine cj func61 (Dc K.kb 12 w0.heap.size _ _ _ (.pointer (some ⟨s.pb,0,none⟩)) (by rw[h4.row.cell aa];rfl) (h4.row.frozen 12) yP) ?_;rintro v0 o5 w5 ⟨rfl,rfl,rfl⟩;have h5:=h4.QJ (s':={s with old:=iu,pb:=w0.heap.size,num:=IntKind.i64.wrap (s.num+1),lC:=.slice (some ⟨R,0,none⟩) K.B.rs.length K.B.rs.length,res:=nZ K.B F file,mO:=.slice rp rl eU,jX:=rN (qW F.cu) (mO s.old (mN K.B F file)) K.B.rs.length}) (Go.Conc.bN.setCell h4.aG (bX (off:=0) tK)) (je _ _ _ _) ((h4.row.set 12 _).congr fun j hj=>?_) ?_ rfl ?_;rotate_left
 ·rcases nz hj with rfl|rfl|rfl|rfl|rfl|rfl|rfl|rfl|rfl|rfl|rfl|rfl|rfl<;>rfl
 ·refine⟨yP,tK,⟨some ⟨R,0,none⟩,R,K.B.rs.length,by simp[nZ],(fun q=>by cases q),fun _=>⟨rfl,BB⟩,Ox (World.rowIs.of_block aej (k4 R hRl))⟩,ee BB,?_,⟨?_,aek.up Ki.more,?_⟩⟩
  ·have:=h.build.rules.gY;simp only[nZ,List.length_map,List.length_range];omega
  ·rcases La.own with⟨e,e2⟩|⟨g,cap,e,g1,g2,g3⟩
   ·exact⟨none,0,0,by rw[e2];exact e,fun _=>e2,fun q=>absurd e2 q,fun i hi=>by rw[e2] at hi;simp at hi⟩
   ·exact⟨_,g,cap,e,(fun q=>by cases q),fun _=>⟨rfl,Ki.more _ (aiF g _ _ e)⟩,dh g3 (k4 g g2)⟩
  ·have:=h.build.rules.gY;exact aX (C7 _ _ _) aa
 ·rintro b (rfl|q|q)
  ·exact L3 w0.heap.size (by have:=S3.bt.size;omega) aa
  ·cases q;exact L3 _ hRz XS
  ·have:=hm4 b q;exact L3 _ aa this
 have S5:cP o5 w4 kQ o5 (w4.setCell ⟨K.kb,12,none⟩ (.pointer (some ⟨w0.heap.size,0,none⟩))) kQ:=.of (bB.dI (ex:=(·=K.kb)) h5.aG (je _ _ _ _) rfl) fun b hb=>by rw[hb,h4.l0];omega
 generalize w4.setCell ⟨K.kb,12,none⟩ (.pointer (some ⟨w0.heap.size,0,none⟩))=w5 at h5 S5 |-;have S15:=(((S1.trans S2).trans S3).trans S4).trans S5;have xj:o5 w.heap.size:=Ki.more _ (sH.more _ (uq.more _ xa));have Bz:kQ w.heap.size=7:=((S2.trans S3).lab _ aa).trans qJ;have MQ:w5.heap[w.heap.size]?=some (.cells #[.int .i64 0,.string aP] 32):=by
  rw[((((S2.trans S3).trans S4).trans S5).bt).same _ aa (by rw[qJ];omega)];exact tN
 clear S2 S3 S4 S5 h2 h3 h4 uq sH Ki L3 hm3 hm4;refine ax ?_;refine dz bS h5.aG rfl ar ar ?_ rfl (R:=fun wl aW=>aW=((((wl.setCell ⟨K.kb,7,none⟩ (.int .i64 (0:Nat))).setCell ⟨K.kb,8,none⟩ (.int .i64 (0:Nat))).setCell ⟨K.kb,9,none⟩ (.slice none 0 0)).setCell ⟨K.kb,10,none⟩ (.slice none 0 0)).setCell ⟨K.kb,11,none⟩ (.int .i64 0)) (fun wl aU=>⟨_,?_,rfl⟩) fun wl aW w9 aU hR bO=>?_
 ·refine ja ?_ ?_
  ·exact bX h5.own
  ·exact sCl (phase:=0) (since:=0)
 ·have rl:=World.rowIs.of_block h5.row (aU.heap _ h5.own);have e7:=rl.cell (i:=7) aa;have e8:=rl.cell (i:=8) aa;have e9:=rl.cell (i:=9) aa;have XU:=rl.cell (i:=10) aa;have RP:=rl.cell (i:=11) aa;have f:=rl.frozen;simp[go_sem,e7,e8,e9,XU,RP,f]
 have hO:eK K.kb wl aW:=by rw[hR];exact TZ _ _ _ _ _ _ _ _ _ _ _ _
 obtain⟨lV,ow,e9⟩:=bO.only aU h5.own hO;have mB:=bO.aG;rw[e9] at mB |-;rw[hR] at ow;have h9:=h5.Kf mB lV (World.rowIs.of_block (FK (World.rowIs.of_block h5.row (aU.heap _ h5.own)) 0 0) ow) (aV _);have S9:=S15.trans (.of (bB.dI (ex:=(·=K.kb)) mB lV rfl) fun b hb=>by rw[hb,h5.l0];omega);have dJ:w.heap.size≠K.kb:=fun e=>by have:=h5.l0;rw[<- e,Bz] at this;omega
 have kbA:w9.heap[w.heap.size]?=some (.cells #[.int .i64 0,.string aP] 32):=(lV.2 _ dJ).trans MQ;clear hR bO aU hO ow wl aW e9 h5 S15 MQ lV;refine ax ?_;refine mE 6 aP h9.aG xj kbA fun wA AK Ad sY=>?_;have hWA:bB (·=w.heap.size) o5 w9 o5 wA:=bB.dI AK Ad rfl;have hA:=h9.aside hWA fun b hb=>by rw[hb];exact Bz
 refine ax ?_;have c9:∀n,(wA.at n).cell? ⟨w.heap.size,0,none⟩=some (.int .i64 6)/\(wA.at n).cell? ⟨w.heap.size,1,none⟩=some (.string aP):=fun n=>⟨(dQ sY).1,(dQ sY).2.1⟩;refine⟨.inr trivial,trivial,.agg #[.int .i64 6,.string aP],xc (fun n=>?_) (fun n e he=>?_),rfl,kQ,iu,w0.heap.size,_,_,?_,fun i hi=>?_,hA⟩
 ·obtain⟨c0,c1⟩:=c9 n;simp[results,results101,go_sem,c0,c1]
 ·obtain⟨c0,c1⟩:=c9 n;simp[results,results101,go_sem,c0,c1] at he;rcases he with rfl|rfl;all_goals exact⟨_,_,_,rfl,xj⟩
 ·refine⟨⟨AK,S9.bt.more,S9.bt.new,by rw[Ad.1];exact S9.bt.size,fun b hb hx=>?_⟩,fun b hb=>(S9.lab b hb).trans (yS b hb)⟩;rw[Ad.2 b aa];exact S9.bt.same b hb (by rw[yS b hb];exact hx)
 ·obtain⟨b,e,-⟩:=hold i hi;exact⟨b,e⟩
end
end Go.Proofs.Kz
