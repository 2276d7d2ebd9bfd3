import Derived.Test.YtgjekaaknjgnmaaGreatDoorAe
import Derived.Deep.SlicePairs
import Derived.MakeChecks
import Derived.MapKept
import Derived.OpenShut
import Derived.Test.YtgjekaaknjgnmaaGreatDoorRows
import Derived.WideMake
set_option linter.all false
set_option maxHeartbeats 40000000
set_option maxRecDepth 200000
namespace Go.Proofs.Kz
open Go.Proofs.Tryz
open Go.Proofs.Tryz renaming prog → au
open _root_.ByteArray renaming empty → aO
open Go.Ren Go.Conc Go.Proofs Go.ConcN
section
variable {Fin:bK} {o:aM} {w:ae}
theorem wh.keep{lo:Nat}{NM:aI->List af}{cp:List aI}{St Or:Nat}{cM:Nat->Nat}{sv v:Value}{w w':ae}(h:wh lo NM cp St Or cM sv v w)(hz:w.heap.size<=w'.heap.size)(e:∀b,lo<=b->b<w.heap.size->w'.heap[b]?=w.heap[b]?):wh lo NM cp St Or cM sv v w' where
 val:=h.val
 steps:=jB h.steps (e St h.st.1 h.st.2) (fun s hs=>e _ (h.ib s hs) (h.steps.lt s hs)) hz
 ord:=World.rowIs.of_block h.ord (e Or h.or.1 h.or.2)
 src:=ll h.src (ag _) hz e
 st:=⟨h.st.1,by have:=h.st.2;omega⟩
 or:=⟨h.or.1,by have:=h.or.2;omega⟩
 ib:=h.ib
structure lE(o:aM)(w:ae)(p:Option Addr)(Ru c:Nat)(rs:List aI)(NM:aI->List af)(NB:aI->Nat):Prop where
 gT:rs.length<=8
 ptr:rs≠[]->p=some ⟨Ru,0,none⟩
 own:o Ru
 at_:eU w Ru rs
 clr:∀r∈rs,Cl au L0 o (.slice r.sa r.sl r.sc)
 cl:Cl au L0 o (.slice p rs.length c)
 nm:∀r∈rs,r.sl=(NM r).length/\(NM r≠[]->r.sa=some ⟨NB r,0,none⟩/\o (NB r))/\fy w (NB r) 0 (NM r)/\(NM r).length<=4
theorem lE.keep{p:Option Addr}{Ru c:Nat}{rs:List aI}{NM:aI->List af}{NB:aI->Nat}{o':aM}{w':ae}(h:lE o w p Ru c rs NM NB)(nX:∀b,o b->o' b)(e0:w'.heap[Ru]?=w.heap[Ru]?)(e:∀r∈rs,NM r≠[]->w'.heap[NB r]?=w.heap[NB r]?):lE o' w' p Ru c rs NM NB where
 gT:=h.gT
 ptr:=h.ptr
 own:=nX _ h.own
 at_:=gV h.at_ e0
 clr r hr:=(h.clr r hr).up nX
 cl:=h.cl.up nX
 nm r hr:=by
  obtain⟨h1,h2,h3,h4⟩:=h.nm r hr;refine⟨h1,fun hn=>⟨(h2 hn).1,nX _ (h2 hn).2⟩,fun k hk=>?_,h4⟩;have dH:NM r≠[]:=fun e=>by rw[e] at hk;simp at hk
  exact dc h3 (e r hr dH) k hk
def Mu(o:aM)(w:ae)(rs:List aI)(NM:aI->List af)(v:Value)(o':aM)(w':ae):Prop :=
 fT o w v o' w'/\∃cp St Or cM sv,cp.Perm rs/\(∀i j (hi:i<cp.length) (hj:j<cp.length),i<j->¬qG cp[j] cp[i]<0)/\wh w.heap.size NM cp St Or cM sv v w'
theorem nR{w:ae}{b:Nat}{t:TypeId}{c0 c1 c2 c3 c4 c5 c6 c7:Value}(h:w.heap[b]?=some (.cells #[c0,c1,c2,c3,c4,c5,c6,c7] t)):w.cell? ⟨b,0,none⟩=some c0/\w.cell? ⟨b,1,none⟩=some c1/\w.cell? ⟨b,2,none⟩=some c2/\w.cell? ⟨b,3,none⟩=some c3/\w.cell? ⟨b,4,none⟩=some c4/\w.cell? ⟨b,5,none⟩=some c5/\w.cell? ⟨b,6,none⟩=some c6/\w.cell? ⟨b,7,none⟩=some c7/\∀k,w.frozen? ⟨b,k,none⟩=false:=by
 simp[World.cell?,World.frozen?,h]
abbrev KW(c0 c1 c2 c3 c4 c5 c6 c7:Value):Obj:=.cells #[c0,c1,c2,c3,c4,c5,c6,c7] 150
theorem Wo(hF:bM au L0 o w)(bb bx Ru c:Nat)(p:Option Addr)(rs:List aI)(NM:aI->List af)(NB:aI->Nat)(hR:lE o w p Ru c rs NM NB)(uG:o bb)(Jr:o bx)(c1 c2 c3 c4 c5 c6 c7:Value)(hb:w.heap[bb]?=some (KW (.slice p rs.length c) c1 c2 c3 c4 c5 c6 c7))(hx:w.cell? ⟨bx,0,none⟩=some (.pointer (some ⟨bb,0,none⟩))):
  bz au (XB au Fin 0) 111 #[.pointer (some ⟨bx,0,none⟩)] o w fun v o' w'=>v=.tuple #[]/\bM au L0 o' w'/\∃y0 y1 y2 w2,Mu o w rs NM (.agg #[y0,y1,y2]) o' w2/\eI bb w2 w'/\w'.heap[bb]?=some (KW (.slice p rs.length c) c1 c2 c3 y0 y1 y2 c7):=by
 have W:=bV (P:=au) (Fin:=Fin) (d:=0);refine bC W func111 ar ?_;walk_nrmf Tryz.f111;have gw:=hF.lt uG;have hxw:=hF.lt Jr;refine dQ mixed ah [some (some (.pointer (some ⟨bb,0,none⟩))),some (some (.pointer (some ⟨bb,0,none⟩))),some none,some none,some (some (.slice p rs.length c)),none,some none,some none,none]
  (S:=fun σ o' w'=>(σ 8=none/\(o'=grow o w w'/\bM au L0 o' w'/\w.heap.size<=w'.heap.size/\(∀b,b<w.heap.size->w'.heap[b]?=w.heap[b]?))/\(σ 5=none->o'=o/\w'=w)/\∀y,σ 5=some y->Mu o w rs NM y o' w') \/
   (σ 8≠none/\bM au L0 o' w'/\∃y0 y1 y2 w2,Mu o w rs NM (.agg #[y0,y1,y2]) o' w2/\eI bb w2 w'/\w'.heap[bb]?=some (KW (.slice p rs.length c) c1 c2 c3 y0 y1 y2 c7))) ?_ fun v=>?_
 ·exact .inl ⟨rfl,⟨(b8 _ _).symm,hF,ag _,fun _ _=>rfl⟩,fun _=>⟨rfl,rfl⟩,fun y hy=>by cases hy⟩
 refine dP ?_
 iterate 2
  refine cm bQ rfl rfl rfl ar ar (fun σ o' w' H hS=>?_) ?_
  ·rcases hS with⟨h8,⟨e1,e2,e3,e4⟩,-,-⟩|⟨h8,-⟩
   ·have mf:o' bx:=by rw[e1];exact .inl Jr
    refine⟨e2,mU (bU mf),fun wl aT=>?_⟩;simp[go_sem,(aT.cell mf).trans ((cell_of (e4 _ hxw)).trans hx)]
   ·exact absurd (H.xm 8 ah) h8
 refine cC ?_;refine cm bQ rfl rfl rfl ar ar (fun σ o' w' H hS=>?_) ?_
 ·rcases hS with⟨h8,⟨e1,e2,e3,e4⟩,-,-⟩|⟨h8,-⟩
  ·have mf:o' bb:=by rw[e1];exact .inl uG
   refine⟨e2,fun y hy=>?_,fun wl aT=>?_⟩
   ·simp[Op.operands] at hy;subst hy;simp[Act.eval];exact bU mf
   ·simp[go_sem,(aT.cell mf).trans ((cell_of (e4 _ gw)).trans (nR hb).1)]
  ·exact absurd (H.xm 8 ah) h8
 walk_nrm;refine ve rfl rfl ar rfl func112 ah rfl (av:=#[.slice p rs.length c]) aH (fun σ o' w' H h5 hS=>?_) ?_
 ·rcases hS with⟨h8,-,hS,-⟩|⟨h8,-⟩
  ·obtain⟨rfl,rfl⟩:=hS h5;refine(GP hF Ru c p rs hR.gT hR.ptr hR.own hR.at_ hR.clr hR.cl NM NB hR.nm).mono fun y o2 w2 hq=>?_;refine .inl ⟨by simpa[fM] using h8,⟨hq.1.own,hq.1.aF,hq.1.size,hq.1.old⟩,fun h=>by simp[fM] at h,fun z hz=>?_⟩;simp only[fM,if_true,ay] at hz;subst hz;exact hq
  ·exact absurd (H.xm 8 ah) h8
 refine cC ?_;refine pL bQ rfl rfl rfl ar ar (fun σ o' w' H h8 hS=>?_) ?_
 ·rcases hS with⟨-,⟨e1,e2,e3,e4⟩,-,h6⟩|⟨h8',-⟩
  ·have hq:=h6 _ (H.done 5 ah rfl);have Bc:=hq;obtain⟨N,cp,St,Or,cM,sv,-,-,hL⟩:=Bc;have oB:=hL.val;generalize hol:(eC (mj NM cp) cp.length cp.length).length=ol at oB;have mf:o' bb:=by rw[e1];exact .inl uG
   have nn:=(e4 bb gw).trans hb;refine⟨e2,fun y hy=>?_,fun wl aV=>aV=((wl.setCell ⟨bb,4,none⟩ (.slice (some ⟨St,0,none⟩) cp.length cp.length)).setCell ⟨bb,5,none⟩ (.slice (some ⟨Or,0,none⟩) ol cp.length)).setCell ⟨bb,6,none⟩ sv,fun wl aT=>⟨_,?_,rfl⟩,fun wl aV w2 aT hR' bN=>?_⟩
   ·simp[Op.operands] at hy;rcases hy with rfl|rfl
    ·simp[Act.eval];exact bU mf
    ·simp[Act.eval];exact N.cl
   ·obtain⟨-,-,-,-,d4,d5,d6,-,f⟩:=nR ((aT.heap _ mf).trans nn);have hs:=hL.src;rcases hs with⟨rfl,-⟩|⟨g,cap,rfl,-⟩
    ·simp[go_sem,oB,d4,d5,d6,f]
    ·simp[go_sem,oB,d4,d5,d6,f]
   ·have hO:eI bb wl aV:=by rw[hR'];exact uE _ _ _ _ _ _ _ _
    obtain⟨on,kb,eg⟩:=bN.only aT mf hO;have rO:=bN.aF;rw[eg] at rO |-;refine .inr ⟨by simp[fM],rO,_,_,_,w',oB▸hq,on,?_⟩;rw[kb,hR'];simp[World.setCell,aR,(aT.heap _ mf).trans nn]
  ·exact absurd h8 h8'
 walk_nrm;refine cB fun σ o' w' mn hS=>?_;rcases hS with⟨h8,-⟩|⟨-,e1,e2⟩
 ·rw[mn 8 eu rfl] at h8;cases h8
 exact⟨.inl trivial,rfl,.tuple #[],fun w1=>results_none ah _ _,rfl,e1,e2⟩
theorem lE.lock{p:Option Addr}{Ru c bb:Nat}{rs:List aI}{NM:aI->List af}{NB:aI->Nat}{w':ae}(h:lE o w p Ru c rs NM NB)(hO:eI bb w w')(h1:Ru≠bb)(h2:∀r∈rs,NM r≠[]->NB r≠bb):lE o w' p Ru c rs NM NB :=
 h.keep (fun _ hb=>hb) (hO.2 _ h1) fun r hr hn=>hO.2 _ (h2 r hr hn)
theorem aaf{w:ae}{b:Nat}{t:TypeId}{c0 c1 c2 c3 c4 c5 c6 c7:Value}(h:w.heap[b]?=some (.cells #[c0,c1,c2,c3,c4,c5,c6,c7] t))(x:Value):(w.setCell ⟨b,1,none⟩ x).heap[b]?=some (.cells #[c0,x,c2,c3,c4,c5,c6,c7] t)/\(w.setCell ⟨b,2,none⟩ x).heap[b]?=some (.cells #[c0,c1,x,c3,c4,c5,c6,c7] t):=by
 simp[World.setCell,aR,h]
structure sO(o:aM)(w:ae)(bb:Nat)(rs:List aI)(NM:aI->List af)(blk:Value->Value->Value->Obj)(o':aM)(w':ae):Prop where
 aF:bM au L0 o' w'
 own:o'=grow o w w'
 size:w.heap.size<=w'.heap.size
 old:∀b,b<w.heap.size->b≠bb->w'.heap[b]?=w.heap[b]?
 lay:∃cp St Or cM sv y0 y1 y2,cp.Perm rs/\(∀i j (hi:i<cp.length) (hj:j<cp.length),i<j->¬qG cp[j] cp[i]<0)/\wh w.heap.size NM cp St Or cM sv (.agg #[y0,y1,y2]) w'/\w'.heap[bb]?=some (blk y0 y1 y2)
theorem Tz(hF:bM au L0 o w)(bb bx Ru c:Nat)(p:Option Addr)(rs:List aI)(NM:aI->List af)(NB:aI->Nat)(hR:lE o w p Ru c rs NM NB)(uG:o bb)(Jr:o bx)(dH:bx≠bb)(Wh:Ru≠bb)(hNn:∀r∈rs,NM r≠[]->NB r≠bb)(c3 c4 c5 c6 c7:Value)(hb:w.heap[bb]?=some (KW (.slice p rs.length c) (.int .u32 0) (.int .i32 0) c3 c4 c5 c6 c7))(hx:w.cell? ⟨bx,0,none⟩=some (.pointer (some ⟨bb,0,none⟩))):
  bz au (XB au Fin 0) 143 #[.pointer (some ⟨bb,1,none⟩),.func (.func 111) #[] #[.pointer (some ⟨bx,0,none⟩)]] o w fun v o' w'=>v=.tuple #[]/\sO o w bb rs NM (fun y0 y1 y2=>KW (.slice p rs.length c) (.int .u32 1) (.int .i32 0) c3 y0 y1 y2 c7) o' w':=by
 have W:=bV (P:=au) (Fin:=Fin) (d:=0);refine oH W func143 ar ?_;walk_nrmf Tryz.f143;obtain⟨-,d1,d2,-,-,-,-,-,fz⟩:=nR hb;refine ax ?_;refine cd func45 (CO bb 2 uG d2 (fz 2)) ?_;rintro v1 o1 w1 ⟨rfl,rfl,rfl⟩;refine ax ?_;refine mh W (d:={target:=.fn (.func 46) #[],args:=#[.pointer (some ⟨bb,2,none⟩)]}) rfl ar (fun w1=>fP) (fun w1=>fP) rfl ?_;refine ax ?_;have Bo:=(aaf hb (.int .i32 1)).2;have lv:bM au L0 o1 (w.setCell ⟨bb,2,none⟩ (.int .i32 1)):=Go.Conc.bM.setCell hF dS;have hO1:eI bb w (w.setCell ⟨bb,2,none⟩ (.int .i32 1)):=iZ _ _ _ _;generalize w.setCell ⟨bb,2,none⟩ (.int .i32 1)=w1 at *;refine cd func142 (xd bb 1 0 (nR Bo).2.1) ?_;rintro v2 o2 w2 ⟨rfl,rfl,rfl⟩;refine ax ?_;refine mh W (d:={target:=.fn (.func 183) #[],args:=#[.pointer (some ⟨bb,1,none⟩),.bool true]}) rfl ar (fun w1=>fP) (fun w1=>fP) rfl ?_;refine ax ?_;refine LS W rfl ar rfl (cap:=#[.pointer (some ⟨bx,0,none⟩)]) aH func111 ah rfl aH rfl ((Wo lv bb bx Ru c p rs NM NB (hR.lock hO1 Wh hNn) uG Jr (.int .u32 0) (.int .i32 1) c3 c4 c5 c6 c7 Bo ((cell_of (hO1.2 _ dH)).trans hx)).mono ?_);rintro v3 o3 w3 ⟨rfl,px,y0,y1,y2,w4,⟨N,cp,St,Or,cM,sv,h1,h2,hL⟩,hO3,xn⟩;refine ax ?_;have hz:=N.size;have VW:=hO1.1;have hz3:=hO3.1;have UN:=hF.lt uG;have ahV:o3 bb:=by rw[N.own];exact .inl uG
 obtain⟨-,k1,k2,-,-,-,-,-,kf⟩:=nR xn;have hb4:=(aaf xn (.int .u32 1)).1;have hb5:=(aaf hb4 (.int .i32 0)).2;have hO5:eI bb w3 ((w3.setCell ⟨bb,1,none⟩ (.int .u32 1)).setCell ⟨bb,2,none⟩ (.int .i32 0)):=Aw _ _ _ _ _ _;have Fo:bM au L0 o3 ((w3.setCell ⟨bb,1,none⟩ (.int .u32 1)).setCell ⟨bb,2,none⟩ (.int .i32 0)):=Go.Conc.bM.setCell (Go.Conc.bM.setCell px dS) dS;refine⟨.inl trivial,Mt bb 1 0 k1 (kf 1) px _ _ (wj bb 2 ahV (nR hb4).2.2.1 ((nR hb4).2.2.2.2.2.2.2.2 2) _ _ (mg W func143 rfl (v:=.tuple #[]) (fun w1=>results_none ah _ _) ⟨rfl,Fo,?_,?_,fun b nn hn=>?_,cp,St,Or,cM,sv,y0,y1,y2,h1,h2,?_,hb5⟩))⟩
 ·rw[N.own];unfold grow;rw[hO5.1,hz3,VW]
 ·rw[hO5.1];omega
 ·rw[hO5.2 b hn,hO3.2 b hn,N.old b aa,hO1.2 b hn]
 ·rw[VW] at hL;exact hL.keep (by rw[hO5.1];omega) fun b Bo pA=>by rw[hO5.2 b aa,hO3.2 b aa]
theorem ahX(hF:bM au L0 o w)(bb bx Ru c:Nat)(p:Option Addr)(rs:List aI)(NM:aI->List af)(NB:aI->Nat)(hR:lE o w p Ru c rs NM NB)(uG:o bb)(Jr:o bx)(dH:bx≠bb)(Wh:Ru≠bb)(hNn:∀r∈rs,NM r≠[]->NB r≠bb)(c3 c4 c5 c6 c7:Value)(hb:w.heap[bb]?=some (KW (.slice p rs.length c) (.int .u32 0) (.int .i32 0) c3 c4 c5 c6 c7))(hx:w.cell? ⟨bx,0,none⟩=some (.pointer (some ⟨bb,0,none⟩))):
  bz au (XB au Fin 0) 110 #[.pointer (some ⟨bb,1,none⟩),.func (.func 111) #[] #[.pointer (some ⟨bx,0,none⟩)]] o w fun v o' w'=>v=.tuple #[]/\sO o w bb rs NM (fun y0 y1 y2=>KW (.slice p rs.length c) (.int .u32 1) (.int .i32 0) c3 y0 y1 y2 c7) o' w':=by
 have W:=bV (P:=au) (Fin:=Fin) (d:=0);refine bC W func110 ar ?_;walk_nrmf Tryz.f110;refine ax ?_;refine cd func142 (xd bb 1 0 (nR hb).2.1) ?_;rintro v2 o2 w2 ⟨rfl,rfl,rfl⟩;refine ax ?_;refine cd func143 (Tz hF bb bx Ru c p rs NM NB hR uG Jr dH Wh hNn c3 c4 c5 c6 c7 hb hx) ?_;rintro v3 o3 w3 ⟨rfl,hP⟩;refine ax ?_;exact⟨.inl trivial,trivial,.tuple #[],fun w1=>results_none ah _ _,rfl,hP⟩
theorem Wp(bb:Nat)(f c0 c2 c3 c4 c5 c6 c7:Value)(hb:w.heap[bb]?=some (KW c0 (.int .u32 1) c2 c3 c4 c5 c6 c7)):
  bz au (XB au Fin 0) 110 #[.pointer (some ⟨bb,1,none⟩),f] o w fun v o' w'=>v=.tuple #[]/\o'=o/\w'=w:=by
 have W:=bV (P:=au) (Fin:=Fin) (d:=0);refine bC W func110 ar ?_;walk_nrmf Tryz.f110;refine ax ?_;refine cd func142 (xd bb 1 1 (nR hb).2.1) ?_;rintro v2 o2 w2 ⟨rfl,rfl,rfl⟩;refine ax ?_;exact⟨.inl trivial,trivial,.tuple #[],fun w1=>results_none ah _ _,aj⟩
theorem wh.low{lo Tu:Nat}{NM:aI->List af}{cp:List aI}{St Or:Nat}{cM:Nat->Nat}{sv v:Value}{w:ae}(h:wh lo NM cp St Or cM sv v w)(hl:Tu<=lo):wh Tu NM cp St Or cM sv v w where
 val:=h.val
 steps:=h.steps
 ord:=h.ord
 src:=ll h.src hl (ag _) fun _ _ _=>rfl
 st:=⟨by have:=h.st.1;omega,h.st.2⟩
 or:=⟨by have:=h.or.1;omega,h.or.2⟩
 ib s hs:=by have:=h.ib s hs;omega
theorem sO.after{w1:ae}{bb:Nat}{rs:List aI}{NM:aI->List af}{blk:Value->Value->Value->Obj}{o':aM}{w':ae}(h:sO (grow o w w1) w1 bb rs NM blk o' w')(hz:w.heap.size<=w1.heap.size)(hold:∀b,b<w.heap.size->w1.heap[b]?=w.heap[b]?):sO o w bb rs NM blk o' w' where
 aF:=h.aF
 own:=by rw[h.own];exact grow_grow hz rfl h.size
 size:=by have:=h.size;omega
 old b hb hn:=(h.old b aa hn).trans (hold b hb)
 lay:=by
  obtain⟨cp,St,Or,cM,sv,y0,y1,y2,h1,h2,h3,h4⟩:=h.lay;exact⟨cp,St,Or,cM,sv,y0,y1,y2,h1,h2,h3.low hz,h4⟩
theorem Mv(hF:bM au L0 o w)(bb Ru c:Nat)(p:Option Addr)(rs:List aI)(NM:aI->List af)(NB:aI->Nat)(hR:lE o w p Ru c rs NM NB)(uG:o bb)(Wh:Ru≠bb)(hNn:∀r∈rs,NM r≠[]->NB r≠bb)(c3 c4 c5 c6 c7:Value)(hb:w.heap[bb]?=some (KW (.slice p rs.length c) (.int .u32 0) (.int .i32 0) c3 c4 c5 c6 c7)):
  bz au (XB au Fin 0) 73 #[.pointer (some ⟨bb,0,none⟩)] o w fun v o' w'=>v=.pointer (some ⟨bb,4,none⟩)/\sO o w bb rs NM (fun y0 y1 y2=>KW (.slice p rs.length c) (.int .u32 1) (.int .i32 0) c3 y0 y1 y2 c7) o' w':=by
 have W:=bV (P:=au) (Fin:=Fin) (d:=0);refine bC W func73 ar ?_;walk_nrmf Tryz.f73;refine ax ?_;refine dt bQ hF rfl ar ar ?_ rfl (R:=fun wl v aV=>v=.pointer (some ⟨wl.heap.size,0,none⟩)/\aV=wl.alloc (Obj.cells #[.pointer (some ⟨bb,0,none⟩)] 208)) (fun wl aT=>⟨_,_,fP,rfl,rfl⟩) fun wl v1 aV w1 aT KV bN=>?_
 ·exact mU (bU uG)
 obtain⟨rfl,KV⟩:=KV;obtain⟨z1,k1,tF⟩:=bN.alloc hF aT KV;have lv:=bN.aF;rw[aT.size];clear KV bN aT wl aV;have gw:=hF.lt uG;have xk:grow o w w1 w.heap.size:=.inr ⟨ag _,aa⟩;refine ax ?_;have Jr:=(CZ tF).1;refine lh lv xk Jr fun _=>?_;refine ax ?_;have hR':lE (grow o w w1) w1 p Ru c rs NM NB:=hR.keep jk (k1 _ (hF.lt hR.own)) fun r hr hn=>k1 _ (hF.lt ((hR.nm r hr).2.1 hn).2);refine cd func110 (ahX lv bb w.heap.size Ru c p rs NM NB hR' (.inl uG) xk aa Wh hNn c3 c4 c5 c6 c7 ((k1 _ gw).trans hb) Jr) ?_;rintro v2 o2 w2 ⟨rfl,hP⟩;refine ax ?_;have hx2:o2 w.heap.size:=by rw[hP.own];exact .inl xk
 have ahY:=(cell_of (a:=⟨w.heap.size,0,none⟩) (hP.old w.heap.size aa aa)).trans Jr;refine lh hP.aF hx2 ahY fun _=>?_;refine ax ?_;exact⟨.inr trivial,trivial,_,resultsC_tmp (t:=2) ar _,aH,hP.after aa k1⟩
theorem C3(hF:bM au L0 o w)(bb:Nat)(uG:o bb)(c0 c2 c3 c4 c5 c6 c7:Value)(hb:w.heap[bb]?=some (KW c0 (.int .u32 1) c2 c3 c4 c5 c6 c7)):
  bz au (XB au Fin 0) 73 #[.pointer (some ⟨bb,0,none⟩)] o w fun v o' w'=>v=.pointer (some ⟨bb,4,none⟩)/\fT o w v o' w':=by
 have W:=bV (P:=au) (Fin:=Fin) (d:=0);refine bC W func73 ar ?_;walk_nrmf Tryz.f73;refine ax ?_;refine dt bQ hF rfl ar ar ?_ rfl (R:=fun wl v aV=>v=.pointer (some ⟨wl.heap.size,0,none⟩)/\aV=wl.alloc (Obj.cells #[.pointer (some ⟨bb,0,none⟩)] 208)) (fun wl aT=>⟨_,_,fP,rfl,rfl⟩) fun wl v1 aV w1 aT KV bN=>?_
 ·exact mU (bU uG)
 obtain⟨rfl,KV⟩:=KV;obtain⟨z1,k1,tF⟩:=bN.alloc hF aT KV;have lv:=bN.aF;rw[aT.size];clear KV bN aT wl aV;have gw:=hF.lt uG;have xk:grow o w w1 w.heap.size:=.inr ⟨ag _,aa⟩;refine ax ?_;have Jr:=(CZ tF).1;refine lh lv xk Jr fun _=>?_;refine ax ?_;refine cd func110 (Wp bb (.func (.func 111) #[] #[.pointer (some ⟨w.heap.size,0,none⟩)]) c0 c2 c3 c4 c5 c6 c7 ((k1 _ gw).trans hb)) ?_;rintro v2 o2 w2 ⟨rfl,rfl,rfl⟩;refine ax ?_;refine lh lv xk Jr fun _=>?_;refine ax ?_;exact⟨.inr trivial,trivial,_,resultsC_tmp (t:=2) ar _,aH,rfl,lv,aa,k1,by simp[Act.eval];exact bU (.inl uG)⟩
theorem Qk:(au.info? 4).map (fun i=>(i.zero,i.size,i.bytes))=some (some (.bool false),1,1):=ah
theorem Ql:(au.info? 207).map (fun i=>(i.zero,i.size,i.bytes))=some (some (.chan none),1,8):=ah
theorem Qm:(au.info? 100).map (fun i=>i.bytes)=some 0:=ah
theorem C4(w:ae)(n:Nat)(hn:n<=100000):(Instr.makeSlice 182 (.int .i64 (n:Int)) (.int .i64 (n:Int))).run au w=.ok (.slice (some ⟨w.heap.size,0,none⟩) n n) (w.alloc (.cells (madeCells #[.bool false] n) 4)):=by
 obtain⟨i,hi,hz⟩:=Option.map_eq_some_iff.1 Qk;simp only[bt] at hz;obtain⟨hz,hs,hb⟩:=hz;have:=run_make (P:=au) w 182 4 i _ underlying182 hi hz .i64 .i64 n n aa (fK _) (by rw[hb];omega) aa;rw[this,hs];simp[Value.cells]
theorem C5(w:ae)(n:Nat)(hn:n<=100000):(Instr.makeSlice 204 (.int .i64 (n:Int)) (.int .i64 (n:Int))).run au w=.ok (.slice (some ⟨w.heap.size,0,none⟩) n n) (w.alloc (.cells (madeCells #[.chan none] n) 207)):=by
 obtain⟨i,hi,hz⟩:=Option.map_eq_some_iff.1 Ql;simp only[bt] at hz;obtain⟨hz,hs,hb⟩:=hz;have:=run_make (P:=au) w 204 207 i _ underlying204 hi hz .i64 .i64 n n aa (fK _) (by rw[hb];omega) aa;rw[this,hs];simp[Value.cells]
theorem Eo(w:ae):(Instr.makeChan 207 (.int .i64 0)).run au w=.ok (.chan (some w.heap.size)) (w.alloc (.chan 0 #[] false 0 0 false)):=by
 obtain⟨i,hi,hb⟩:=Option.map_eq_some_iff.1 Qm;exact run_makeChan underlying207 hi .i64 0 aa (by rw[hb];omega)
structure jT(o:aM)(w:ae)(v0 v1 v2:Value)(n:Nat)(bn Nb Mb:Nat)(ch:Nat->Nat)(k:Nat)(o':aM)(w':ae):Prop where
 own:o'=grow o w w'
 aF:bM au L0 o' w'
 size:w.heap.size<=w'.heap.size
 old:∀b,b<w.heap.size->w'.heap[b]?=w.heap[b]?
 bn:w.heap.size<=bn/\bn<w'.heap.size/\w'.heap[bn]?=some (.cells #[v0,v1,v2,.slice (some ⟨Nb,0,none⟩) n n,.slice (some ⟨Mb,0,none⟩) n n] 206)
 nb:w.heap.size<=Nb/\Nb<w'.heap.size/\w'.heap[Nb]?=some (.cells (madeCells #[.bool false] n) 4)
 mb:w.heap.size<=Mb/\Mb<w'.heap.size/\w'.rowIs Mb 207 n (fun j=>if j<k then .chan (some (ch j)) else .chan none)
 pv:∀s,s<k->w.heap.size<=ch s/\ch s<w'.heap.size/\w'.heap[ch s]?=some (.chan 0 #[] false 0 0 false)
 inj:∀s t,s<k->t<k->ch s=ch t->s=t
theorem jT.more{v0 v1 v2:Value}{n bn Nb Mb k:Nat}{ch:Nat->Nat}{o':aM}{w' w2:ae}(h:jT o w v0 v1 v2 n bn Nb Mb ch k o' w')(hF:bM au L0 (grow o' w' w2) w2)(hz:w'.heap.size<=w2.heap.size)(hold:∀b,b<w'.heap.size->w2.heap[b]?=w'.heap[b]?):jT o w v0 v1 v2 n bn Nb Mb ch k (grow o' w' w2) w2 where
 own:=by rw[h.own];exact grow_grow h.size rfl hz
 aF:=hF
 size:=by have:=h.size;omega
 old b hb:=(hold b (by have:=h.size;omega)).trans (h.old b hb)
 bn:=⟨h.bn.1,by have:=h.bn.2.1;omega,(hold _ h.bn.2.1).trans h.bn.2.2⟩
 nb:=⟨h.nb.1,by have:=h.nb.2.1;omega,(hold _ h.nb.2.1).trans h.nb.2.2⟩
 mb:=⟨h.mb.1,by have:=h.mb.2.1;omega,World.rowIs.of_block h.mb.2.2 (hold _ h.mb.2.1)⟩
 pv s hs:=⟨(h.pv s hs).1,by have:=(h.pv s hs).2.1;omega,(hold _ (h.pv s hs).2.1).trans (h.pv s hs).2.2⟩
 inj:=h.inj
theorem jT.put{v0 v1 v2:Value}{n bn Nb Mb k c:Nat}{ch:Nat->Nat}{o':aM}{w' w2:ae}(h:jT o w v0 v1 v2 n bn Nb Mb ch k o' w')(hF:bM au L0 o' w2)(on:eI Mb w' w2)(hM:w2.heap[Mb]?=(w'.setCell ⟨Mb,k,none⟩ (.chan (some c))).heap[Mb]?)(hc:w.heap.size<=c/\c<w'.heap.size/\w'.heap[c]?=some (.chan 0 #[] false 0 0 false))(vL:∀s,s<k->ch s≠c):jT o w v0 v1 v2 n bn Nb Mb (fun s=>if s=k then c else ch s) (k+1) o' w2:=by
 have hMb:=h.mb.2.2;obtain⟨cs,OX,-,-⟩:=hMb;have nM:∀b x,w'.heap[b]?=some x->(∀c t z,x=.cells c t z->t≠207)->b≠Mb:=fun b x hx ht e=>by
  subst e;rw[OX] at hx;exact ht _ _ _ (aQ hx).symm rfl
 refine⟨?_,hF,by have:=h.size;rw[on.1];exact this,fun b hb=>(on.2 b (by have:=h.mb.1;omega)).trans (h.old b hb),⟨h.bn.1,by rw[on.1];exact h.bn.2.1,?_⟩,⟨h.nb.1,by rw[on.1];exact h.nb.2.1,?_⟩,⟨h.mb.1,by rw[on.1];exact h.mb.2.1,?_⟩,fun s hs=>?_,fun s t hs ht e=>?_⟩
 ·rw[h.own];unfold grow;rw[on.1]
 ·rw[on.2 _ (nM _ _ h.bn.2.2 fun c t z e=>by cases e;decide)];exact h.bn.2.2
 ·rw[on.2 _ (nM _ _ h.nb.2.2 fun c t z e=>by cases e;decide)];exact h.nb.2.2
 ·refine World.rowIs.of_block ((h.mb.2.2.set k (.chan (some c))).congr fun j hj=>?_) hM;by_cases e:j=k
  ·subst e;simp
  ·by_cases e':j<k
   ·rw[if_neg e,if_pos e',if_pos aa,if_neg e]
   ·rw[if_neg e,if_neg e',if_neg aa]
 ·by_cases e:s=k
  ·subst e;simp only[if_true];exact⟨hc.1,by rw[on.1];exact hc.2.1,by rw[on.2 _ (nM _ _ hc.2.2 fun c t z e=>by cases e)];exact hc.2.2⟩
  ·simp only[if_neg e];have q:=h.pv s aa;exact⟨q.1,by rw[on.1];exact q.2.1,by rw[on.2 _ (nM _ _ q.2.2 fun c t z e=>by cases e)];exact q.2.2⟩
 ·by_cases e1:s=k
  ·by_cases e2:t=k
   ·omega
   ·rw[if_pos e1,if_neg e2] at e;exact absurd e.symm (vL t aa)
  ·by_cases e2:t=k
   ·rw[if_neg e1,if_pos e2] at e;exact absurd e (vL s aa)
   ·rw[if_neg e1,if_neg e2] at e;exact h.inj s t aa aa e
structure ah0(o:aM)(w:ae)(v0 v1 v2:Value)(n bn Nb Mb k:Nat)(a:Act)(o':aM)(w':ae):Prop where
 size:a.tmps.size=37
 df:a.defers=[]
 t7:a.eval (.tmp 7)=.pointer (some ⟨bn,0,none⟩)
 t24:a.eval (.tmp 24)=.int .i64 n
 t25:a.eval (.tmp 25)=.int .i64 k
 new:∃ch,jT o w v0 v1 v2 n bn Nb Mb ch k o' w'
theorem C6{w:ae}{b:Nat}{t:TypeId}{c0 c1 c2 c3 c4:Value}(h:w.heap[b]?=some (.cells #[c0,c1,c2,c3,c4] t)):w.cell? ⟨b,0,none⟩=some c0/\w.cell? ⟨b,1,none⟩=some c1/\w.cell? ⟨b,2,none⟩=some c2/\w.cell? ⟨b,3,none⟩=some c3/\w.cell? ⟨b,4,none⟩=some c4/\∀k,w.frozen? ⟨b,k,none⟩=false:=by
 simp[World.cell?,World.frozen?,h]
theorem Mw(hF:bM au L0 o w)(Lb Lo Vb nv Rb n:Nat)(hn:n<=1000)(hLb:o Lb)(Yg:o Vb)(Jz:o Rb):
  bz au (XB au Fin 0) 72 #[.pointer (some ⟨Lb,Lo,none⟩),.slice (some ⟨Vb,0,none⟩) nv nv,.slice (some ⟨Rb,0,none⟩) n n] o w fun v o' w'=>∃bn Nb Mb ch,v=.pointer (some ⟨bn,0,none⟩)/\jT o w (.pointer (some ⟨Lb,Lo,none⟩)) (.slice (some ⟨Vb,0,none⟩) nv nv) (.slice (some ⟨Rb,0,none⟩) n n) n bn Nb Mb ch n o' w':=by
 have W:=bV (P:=au) (Fin:=Fin) (d:=0);refine bC W func72 ar ?_;walk_nrmf Tryz.f72;refine ax ?_;refine dQ mixed ah [some none,some none,some none,some none,some none,none,some none,some none,none,some none,none,some none]
  (S:=fun σ o' w'=>(o'=grow o w w'/\bM au L0 o' w'/\w.heap.size<=w'.heap.size/\(∀b,b<w.heap.size->w'.heap[b]?=w.heap[b]?)) /\
   (∀y,σ 5=some y->∃Nb,y=.slice (some ⟨Nb,0,none⟩) n n/\w.heap.size<=Nb/\Nb<w'.heap.size/\w'.heap[Nb]?=some (.cells (madeCells #[.bool false] n) 4)) /\
   (∀y,σ 8=some y->∃Mb,y=.slice (some ⟨Mb,0,none⟩) n n/\w.heap.size<=Mb/\Mb<w'.heap.size/\w'.heap[Mb]?=some (.cells (madeCells #[.chan none] n) 207)) /\
   (∀y,σ 10=some y->∃bn y5 y8,σ 5=some y5/\σ 8=some y8/\y=.pointer (some ⟨bn,0,none⟩)/\w.heap.size<=bn/\bn<w'.heap.size/\w'.heap[bn]?=some (.cells #[.pointer (some ⟨Lb,Lo,none⟩),.slice (some ⟨Vb,0,none⟩) nv nv,.slice (some ⟨Rb,0,none⟩) n n,y5,y8] 206))) ?_ fun v=>?_
 ·exact⟨⟨(b8 _ _).symm,hF,ag _,fun _ _=>rfl⟩,fun y hy=>(by cases hy),fun y hy=>(by cases hy),fun y hy=>(by cases hy)⟩
 refine dP ?_;refine cC ?_;refine ql bQ rfl rfl rfl ar ar (fun σ o' w' H hj hS=>?_) ?_
 ·obtain⟨⟨e1,e2,e3,e4⟩,s5,s8,Mx⟩:=hS;refine⟨e2,fun y hy=>?_,fun wl v aV=>v=.slice (some ⟨wl.heap.size,0,none⟩) n n/\aV=wl.alloc (.cells (madeCells #[.bool false] n) 4),fun wl aT=>⟨_,_,by simp[go_sem,C4 wl n aa],rfl,rfl⟩,fun wl y aV w2 aT hR bN=>?_⟩
  ·simp[Op.operands] at hy;subst hy;simp[Act.eval];exact dS
  ·obtain⟨rfl,hR⟩:=hR;obtain⟨z1,k1,tF⟩:=bN.alloc e2 aT hR;have nA:σ 10=none:=by
    cases h:σ 10 with
    |none=>rfl
    |some y=>obtain⟨_,y5,y8,q5,q8,_⟩:=Mx y h;rw[hj] at q5;cases q5
   rw[aT.size];refine⟨⟨by rw[e1];exact grow_grow e3 rfl aa,bN.aF,aa,fun b hb=>(k1 b aa).trans (e4 b hb)⟩,fun y hy=>?_,fun y hy=>?_,fun y hy=>?_⟩
   ·simp only[fM,if_true,ay] at hy;exact⟨w'.heap.size,hy.symm,e3,aa,tF⟩
   ·simp only[fM,show ¬(8=5) by omega,if_false] at hy;obtain⟨b,q1,q2,q3,q4⟩:=s8 y hy;exact⟨b,q1,q2,aa,(k1 b q3).trans q4⟩
   ·simp[fM,nA] at hy
 refine cC ?_;refine ql bQ rfl rfl rfl ar ar (fun σ o' w' H hj hS=>?_) ?_
 ·obtain⟨⟨e1,e2,e3,e4⟩,s5,s8,Mx⟩:=hS;refine⟨e2,fun y hy=>?_,fun wl v aV=>v=.slice (some ⟨wl.heap.size,0,none⟩) n n/\aV=wl.alloc (.cells (madeCells #[.chan none] n) 207),fun wl aT=>⟨_,_,by simp[go_sem,C5 wl n aa],rfl,rfl⟩,fun wl y aV w2 aT hR bN=>?_⟩
  ·simp[Op.operands] at hy;subst hy;simp[Act.eval];exact dS
  ·obtain⟨rfl,hR⟩:=hR;obtain⟨z1,k1,tF⟩:=bN.alloc e2 aT hR;have nA:σ 10=none:=by
    cases h:σ 10 with
    |none=>rfl
    |some y=>obtain⟨_,y5,y8,q5,q8,_⟩:=Mx y h;rw[hj] at q8;cases q8
   rw[aT.size];refine⟨⟨by rw[e1];exact grow_grow e3 rfl aa,bN.aF,aa,fun b hb=>(k1 b aa).trans (e4 b hb)⟩,fun y hy=>?_,fun y hy=>?_,fun y hy=>?_⟩
   ·simp only[fM,show ¬(5=8) by omega,if_false] at hy;obtain⟨b,q1,q2,q3,q4⟩:=s5 y hy;exact⟨b,q1,q2,aa,(k1 b q3).trans q4⟩
   ·simp only[fM,if_true,ay] at hy;exact⟨w'.heap.size,hy.symm,e3,aa,tF⟩
   ·simp[fM,nA] at hy
 walk_nrm;refine yh ((∃x,v 5=.slice x n n)/\∃x,v 8=.slice x n n) (.agg #[.pointer (some ⟨Lb,Lo,none⟩),.slice (some ⟨Vb,0,none⟩) nv nv,.slice (some ⟨Rb,0,none⟩) n n,v 5,v 8]) rfl rfl rfl ar (fun σ o' w' H hS=>?_) (fun hv w1=>?_) (fun hv w1=>?_) fun y9 hy9=>?_
 ·obtain⟨Nb,q1,-⟩:=hS.2.1 _ (H.done 5 ah rfl);obtain⟨Mb,q2,-⟩:=hS.2.2.1 _ (H.done 8 ah rfl);exact⟨⟨_,q1⟩,_,q2⟩
 ·obtain⟨⟨x,hx⟩,y,hy⟩:=hv;simp[go_sem,Act.eval,hx,hy]
 ·obtain⟨⟨x,hx⟩,y,hy⟩:=hv;simp[go_sem,Act.eval,hx,hy]
 walk_nrm;refine ql bQ rfl rfl rfl ar ar (fun σ o' w' H hj hS=>?_) ?_
 ·have d5:=H.IY [9] 5 ah rfl;have d8:=H.IY [9] 8 ah rfl;obtain⟨⟨e1,e2,e3,e4⟩,s5,s8,Mx⟩:=hS;obtain⟨Nb,q1,q2,q3,q4⟩:=s5 _ d5;obtain⟨Mb,r1,r2,r3,r4⟩:=s8 _ d8;have hy:=hy9 ⟨⟨_,q1⟩,_,r1⟩;have up:∀b,o b->o' b:=fun b hb=>by rw[e1];exact .inl hb
  have Wq:o' Nb:=by rw[e1];exact .inr ⟨q2,q3⟩
  have hMb:o' Mb:=by rw[e1];exact .inr ⟨r2,r3⟩
  refine⟨e2,fun y NV=>?_,fun wl y aV=>y=.pointer (some ⟨wl.heap.size,0,none⟩)/\aV=wl.alloc (.cells #[.pointer (some ⟨Lb,Lo,none⟩),.slice (some ⟨Vb,0,none⟩) nv nv,.slice (some ⟨Rb,0,none⟩) n n,v 5,v 8] 206),fun wl aT=>⟨_,_,by rw[q1,r1] at hy;simp[go_sem,hy,q1,r1],rfl,rfl⟩,fun wl y aV w2 aT hR bN=>?_⟩
  ·simp[Op.operands] at NV;subst NV;simp[Act.eval];rw[hy,q1,r1];exact fS (vs:=[_,_,_,_,_]) (fun x hx=>by
    simp at hx;rcases hx with rfl|rfl|rfl|rfl|rfl
    ·exact bU (up _ hLb)
    ·exact dY (up _ Yg)
    ·exact dY (up _ Jz)
    ·exact dY Wq
    ·exact dY hMb)
  ·obtain⟨rfl,hR⟩:=hR;obtain⟨z1,k1,tF⟩:=bN.alloc e2 aT hR;rw[aT.size];refine⟨⟨by rw[e1];exact grow_grow e3 rfl aa,bN.aF,aa,fun b hb=>(k1 b aa).trans (e4 b hb)⟩,fun y hy=>?_,fun y hy=>?_,fun y hy=>?_⟩
   ·simp only[fM,show ¬(5=10) by omega,if_false] at hy;obtain⟨b,q1,q2,q3,q4⟩:=s5 y hy;exact⟨b,q1,q2,aa,(k1 b q3).trans q4⟩
   ·simp only[fM,show ¬(8=10) by omega,if_false] at hy;obtain⟨b,q1,q2,q3,q4⟩:=s8 y hy;exact⟨b,q1,q2,aa,(k1 b q3).trans q4⟩
   ·simp only[fM,if_true,ay] at hy;exact⟨w'.heap.size,v 5,v 8,by simpa[fM] using d5,by simpa[fM] using d8,hy.symm,e3,aa,tF⟩
 refine cC ?_;refine cB fun σ o1 w1 mn hS=>?_;obtain⟨⟨e1,e2,e3,e4⟩,s5,s8,Mx⟩:=hS;obtain⟨bn,y5,y8,t5,t8,Yh,b1,b2,b3⟩:=Mx _ (mn 10 eu rfl);obtain⟨Nb,rfl,n1,n2,n3⟩:=s5 _ t5;obtain⟨Mb,rfl,m1,m2,m3⟩:=s8 _ t8;rw[Yh];have hB:jT o w (.pointer (some ⟨Lb,Lo,none⟩)) (.slice (some ⟨Vb,0,none⟩) nv nv) (.slice (some ⟨Rb,0,none⟩) n n) n bn Nb Mb (fun _=>0) 0 o1 w1 :=
  ⟨e1,e2,e3,e4,⟨b1,b2,b3⟩,⟨n1,n2,n3⟩,⟨m1,m2,⟨_,m3,by simp[size_madeCells],fun j hj=>by simp[madeCells,hj,Nat.mod_one]⟩⟩,fun s hs=>aa,fun s t hs=>aa⟩
 clear s5 s8 Mx t5 t8 mn Yh e1 e2 e3 e4 b1 b2 b3 n1 n2 n3 m1 m2 m3;have aag:o1 bn:=by rw[hB.own];exact .inr ⟨hB.bn.1,hB.bn.2.1⟩
 simp only[iH,dI,if_true,if_false,reduceIte,Nat.reduceEqDiff];refine ax ?_;obtain⟨-,-,-,-,c4,-⟩:=C6 hB.bn.2.2;refine lh hB.aF aag c4 fun _=>?_;refine ax ?_;refine iL W (fun m a o' w'=>∃k,m+k=n/\ah0 o w (.pointer (some ⟨Lb,Lo,none⟩)) (.slice (some ⟨Vb,0,none⟩) nv nv) (.slice (some ⟨Rb,0,none⟩) n n) n bn Nb Mb k a o' w') (N:=n) ⟨0,aj,rfl,rfl,aH,aH,aH,_,hB⟩ ?_;clear hB c4 aag hy9;rintro m a o1 w1 ⟨k,Je,fE,kT,i7,i24,i25,ch,hB⟩;obtain⟨gs,rfl⟩:=iE fE kT;clear fE kT;simp only[List.range,List.range.loop,aA,aP] at i7 i24 i25 |-;simp[Act.eval] at i7 i24 i25;simp only[i7,i24,i25];clear i7 i24 i25;rcases bg m with hm|hm
 ·have hk:k=n:=aa;subst hk;refine ax ?_;exact⟨.inr trivial,trivial,_,resultsC_tmp (t:=6) ar _,bn,Nb,Mb,ch,aH,hB⟩
 ·have hk:k<n:=aa;have UT:(k:Int)<(n:Int):=aa;have aag:o1 bn:=by rw[hB.own];exact .inr ⟨hB.bn.1,hB.bn.2.1⟩
  have aoI:o1 Mb:=by rw[hB.own];exact .inr ⟨hB.mb.1,hB.mb.2.1⟩
  obtain⟨-,-,-,-,c4,-⟩:=C6 hB.bn.2.2;refine ax ?_;generalize OE:(Value.pointer (some ⟨Lb,Lo,none⟩))=v0 at *;generalize HI:(Value.slice (some ⟨Vb,0,none⟩) nv nv)=v1 at *;generalize KH:(Value.slice (some ⟨Rb,0,none⟩) n n)=v2 at *;refine dQ mixed ah [some none,some none,some none,some (some (.slice (some ⟨Mb,0,none⟩) n n)),some none,none,some none,none]
   (S:=fun σ o' w'=>(σ 7=none/\jT o w v0 v1 v2 n bn Nb Mb ch k o' w'/\∀y,σ 5=some y->∃c,y=.chan (some c)/\(w.heap.size<=c/\c<w'.heap.size/\w'.heap[c]?=some (.chan 0 #[] false 0 0 false))/\∀s,s<k->ch s≠c)\/(σ 7≠none/\∃ch',jT o w v0 v1 v2 n bn Nb Mb ch' (k+1) o' w')) ?_ fun v=>?_
  ·exact .inl ⟨rfl,hB,fun y hy=>by cases hy⟩
  refine dP ?_;refine cC ?_;refine cm bQ rfl rfl rfl ar ar (fun σ o' w' H hS=>?_) ?_
  ·rcases hS with⟨h7,yU,-⟩|⟨h7,-⟩
   ·have mf:o' bn:=by rw[yU.own];exact .inr ⟨yU.bn.1,yU.bn.2.1⟩
    obtain⟨-,-,-,-,c4',-⟩:=C6 yU.bn.2.2;refine⟨yU.aF,fun y hy=>?_,fun wl aT=>?_⟩
    ·simp[Op.operands] at hy;subst hy;simp[Act.eval];exact bU mf
    ·simp[go_sem,(aT.cell mf).trans c4']
   ·exact absurd (H.qE [6] 7 ah) h7
  refine cC ?_;refine ql bQ rfl rfl rfl ar ar (fun σ o' w' H h5 hS=>?_) ?_
  ·rcases hS with⟨h7,yU,-⟩|⟨h7,-⟩
   ·refine⟨yU.aF,fun y hy=>?_,fun wl y aV=>y=.chan (some wl.heap.size)/\aV=wl.alloc (.chan 0 #[] false 0 0 false),fun wl aT=>⟨_,_,by simp[go_sem,Eo],rfl,rfl⟩,fun wl y aV w2 aT hR bN=>?_⟩
    ·simp[Op.operands] at hy;subst hy;simp[Act.eval];exact dS
    ·obtain⟨rfl,hR⟩:=hR;obtain⟨z1,k1,tF⟩:=bN.alloc yU.aF aT hR;rw[aT.size];refine .inl ⟨by simpa[fM] using h7,yU.more bN.aF aa k1,fun y hy=>?_⟩;simp only[fM,if_true,ay] at hy;exact⟨w'.heap.size,hy.symm,⟨yU.size,aa,tF⟩,fun s hs e=>by have:=(yU.pv s hs).2.1;omega⟩
   ·exact absurd (H.xm 7 ah) h7
  refine cC ?_;refine pL bQ rfl rfl rfl ar ar (fun σ o' w' H h7 hS=>?_) ?_
  ·rcases hS with⟨-,yU,h6⟩|⟨h7',-⟩
   ·obtain⟨c,hc,XA,hc3⟩:=h6 _ (H.done 5 ah rfl);have hM':o' Mb:=by rw[yU.own];exact .inr ⟨yU.mb.1,yU.mb.2.1⟩
    have H9:o' c:=by rw[yU.own];exact .inr ⟨XA.1,XA.2.1⟩
    refine⟨yU.aF,fun y hy=>?_,fun wl aV=>aV=wl.setCell ⟨Mb,k,none⟩ (.chan (some c)),fun wl aT=>⟨_,?_,rfl⟩,fun wl aV w2 aT hR bN=>?_⟩
    ·simp[Op.operands] at hy;rcases hy with rfl|rfl
     ·simp[Act.eval];exact bU hM'
     ·simp[Act.eval,hc];exact fun f hf=>by simp[val,hf.at_ c H9,mF]
    ·have rl':=World.rowIs.of_block yU.mb.2.2 (aT.heap _ hM');have q0:=rl'.cell hk;have f:=rl'.frozen;simp[go_sem,hc,q0,f]
    ·have hO:eI Mb wl aV:=by rw[hR];exact iZ _ _ _ _
     obtain⟨on,kb,eg⟩:=bN.only aT hM' hO;have rO:=bN.aF;rw[eg] at rO |-;refine .inr ⟨by simp[fM],_,yU.put rO on ?_ XA hc3⟩;rw[kb,hR];simp only[World.setCell,aR,if_true,aT.heap _ hM']
   ·exact absurd h7 h7'
  walk_nrm;refine cB fun σ o' w' mn hS=>?_;rcases hS with⟨h7,-⟩|⟨-,ch',yU⟩
  ·rw[mn 7 eu rfl] at h7;cases h7
  simp only[iH,dI,if_true,if_false,reduceIte,Nat.reduceEqDiff];refine ax ?_;have uW:IntKind.i64.wrap ((k:Int)+1)=((k+1:Nat):Int):=by rw[IntKind.wrap_i64]<;>omega
  exact⟨m-1,aa,k+1,aa,rfl,rfl,rfl,rfl,by simp[Act.eval,uW],ch',yU⟩
end
section
open Go.RowKit
def oP(w:ae)(b:Nat)(ss:List (V×Int)):Prop:=∀i (h:i<ss.length),w.cell? ⟨b,i*3,none⟩=some (.bool ss[i].1.1)/\w.cell? ⟨b,i*3+1,none⟩=some (.string ss[i].1.2)/\w.cell? ⟨b,i*3+2,none⟩=some (.int .i64 ss[i].2)
theorem oP.below{w w':ae}{b:Nat}{ss:List (V×Int)}(h:oP w b ss)(hb:b<w.heap.size)(hw:Below w.heap.size w w'):oP w' b ss:=fun k hk=>by
 obtain⟨hc,-⟩:=vX hw;rw[hc _ _ hb,hc _ _ hb,hc _ _ hb];exact h k hk
theorem yA{w w':ae}{b:Nat}{ss:List (V×Int)}(h:oP w b ss)(e:w'.heap[b]?=w.heap[b]?):oP w' b ss:=fun i hi=>⟨(Go.Ren.cell_of e).trans (h i hi).1,(Go.Ren.cell_of e).trans (h i hi).2.1,(Go.Ren.cell_of e).trans (h i hi).2.2⟩
theorem Wr{w:ae}{B t n k:Nat}{vs:List V}(cj:w.rowIs B t (n*2) fun j=>if j<k*2 then dX vs j else dX [] j){b:Bool}{x:af}(hl:vs.getD k V0=(b,x)):
  ((w.setCell ⟨B,k*2,none⟩ (.bool b)).setCell ⟨B,k*2+1,none⟩ (.string x)).rowIs B t (n*2) fun j=>if j<(k+1)*2 then dX vs j else dX [] j:=by
 refine((cj.set (k*2) _).set (k*2+1) _).congr fun j hj=>?_;by_cases e1:j=k*2+1
 ·subst e1;rw[if_pos rfl,if_pos aa];have h1:(k*2+1)%2=1:=aa;have h2:(k*2+1)/2=k:=aa;simp only[dX,h1,h2,hl];rfl
 ·by_cases e2:j=k*2
  ·subst e2;rw[if_neg e1,if_pos rfl,if_pos aa];have h1:(k*2)%2=0:=aa;have h2:(k*2)/2=k:=aa;simp only[dX,h1,h2,hl];rfl
  ·rw[if_neg e1,if_neg e2];by_cases e3:j<k*2
   ·rw[if_pos e3,if_pos aa]
   ·rw[if_neg e3,if_neg aa]
theorem C7(b c:Nat)(p:Option Addr)(ss:List (V×Int))(w:ae)(hn:ss.length<=100000)(hp:ss≠[]->p=some ⟨b,0,none⟩/\b<w.heap.size)(hv:oP w b ss):
  Calls au 141 #[.slice p ss.length c] w fun e w'=>e=.returned (.slice (some ⟨w.heap.size,0,none⟩) ss.length ss.length)/\Below w.heap.size w w'/\w.heap.size<w'.heap.size/\eY w' w.heap.size (ss.map (·.1)):=by
 have Je:=fun w=>rF w ss.length hn;go_enter func141,ntmps141;go_wp2;go_loopw [11] (fun i w'=>∃k:Nat,k<=ss.length/\i=.int .i64 k/\Below w.heap.size w w'/\w.heap.size<w'.heap.size/\w'.rowIs w.heap.size 159 (ss.length*2) (fun j=>if j<k*2 then dX (ss.map (·.1)) j else dX [] j)) (fun i _=>ss.length-(intOf i).toNat)
 case atStart =>
  refine⟨0,aU _,rfl,(Below.refl _ _).alloc (ag _) _,aj,_,jR _ _,by simp[size_madeCells],fun j hj=>?_⟩;simp only[madeCells,aK,Array.getElem?_range,hj,if_true,aJ];rcases fg j with e|e<;>simp[e,dX,V0]
 case round =>
  obtain⟨k,hk,rfl,gw,hz,cj⟩:=hrel;by_cases cy:k<ss.length
  ·obtain⟨rfl,hb⟩:=hp (fun e=>by rw[e] at cy;simp at cy);obtain⟨c0,c1,c2⟩:=hv.below hb gw k cy;have d0:wr.cell? ⟨w.heap.size,k*2,none⟩=some (.bool false):=by rw[cj.cell aa,if_neg aa];simp[dX,V0]
   have d1:wr.cell? ⟨w.heap.size,k*2+1,none⟩=some (.string aO):=by rw[cj.cell aa,if_neg aa];simp[dX,V0]
   have f0:=cj.frozen;have NT:(ss.map (·.1)).getD k V0=ss[k].1:=by simp[cy]
   generalize ss[k]=x at *;obtain⟨⟨xb,xt⟩,xs⟩:=x;clear hv hp;go_wp2;refine⟨⟨k+1,aa,by go_num,((gw.setCell (ag _) _).setCell (ag _) _).alloc (by simp[World.setCell];omega) _,by simp[World.setCell];omega,?_⟩,by simp[intOf];omega⟩;exact(Wr cj NT).alloc _
  ·go_wp2;go_ret;exact⟨rfl,gw,hz,by unfold eY;rw[bP];exact cj.congr fun i hi=>by rw[if_pos aa]⟩
section
variable {Fin:bK} {o:aM} {w:ae}
theorem GU(hF:bM au L0 o w)(b c:Nat)(p:Option Addr)(ss:List (Kz.V×Int))(hn:ss.length<=100000)(hp:ss≠[]->p=some ⟨b,0,none⟩/\o b)(hv:oP w b ss)(hc:Cl au L0 o (.slice p ss.length c)):
  bz au (XB au Fin 0) 141 #[.slice p ss.length c] o w fun v o' w'=>fT o w v o' w'/\v=.slice (some ⟨w.heap.size,0,none⟩) ss.length ss.length/\w.heap.size<w'.heap.size/\eY w' w.heap.size (ss.map (·.1)):=by
 refine bz.mono (eD ah hF (fun x hx=>by simp at hx;subst hx;exact hc) (Q:=fun wl v w'=>v=.slice (some ⟨wl.heap.size,0,none⟩) ss.length ss.length/\wl.heap.size<w'.heap.size/\eY w' wl.heap.size (ss.map (·.1))) (fun wl A1 v w1 w2 e1 e2 h=>?_) (fun wl hz aT=>?_)) (fun v o' w' hq=>?_)
 ·rw[e1,e2];exact⟨h.1,h.2.1,World.rowIs.of_block h.2.2 (by rw[e2])⟩
 ·refine(C7 b c p ss wl hn (fun h=>⟨(hp h).1,by rw[hz];exact hF.lt (hp h).2⟩) (fun i hi=>?_)).mono fun e w' hq=>?_
  ·exact yA hv (aT b (hp (fun e=>by rw[e] at hi;simp at hi)).2) i hi
  ·obtain⟨rfl,h1,h2,h3⟩:=hq;exact⟨_,rfl,h1.size,fun b hb=>h1.block b hb,rfl,h2,h3⟩
 ·obtain⟨hN,wl,aV,z1,z2,hs,rfl,h2,h3⟩:=hq;rw[z1] at h2 h3 hN |-;exact⟨hN,rfl,aa,World.rowIs.of_block h3 (hs _ (ag _) aa)⟩
theorem wm{w w':ae}{bn Lb Lo St Rb Nb n:Nat}{out:Nat->af}{eR:Nat->Int}{ins:Nat->List (Bool×Nat)}{cM:Nat->Nat}{res:Nat->Kz.V}{jS:Nat->Bool}(h:pP w bn Lb Lo St Rb Nb n out eR ins cM res jS)(hz:w'.heap.size=w.heap.size)(e:∀b,b=bn\/b=Lb\/b=St\/b=Rb\/b=Nb\/(∃s,s<n/\b=cM s)->w'.heap[b]?=w.heap[b]?):pP w' bn Lb Lo St Rb Nb n out eR ins cM res jS where
 b0:=(cell_of (e bn (.inl rfl))).trans h.b0
 b2:=(cell_of (e bn (.inl rfl))).trans h.b2
 b3:=(cell_of (e bn (.inl rfl))).trans h.b3
 st:=(cell_of (e Lb (.inr (.inl rfl)))).trans h.st
 steps:=jB h.steps (e St (.inr (.inr (.inl rfl)))) (fun s hs=>e _ (.inr (.inr (.inr (.inr (.inr ⟨s,hs,rfl⟩)))))) aa
 r2 s hs:=(cell_of (e Rb (.inr (.inr (.inr (.inl rfl)))))).trans (h.r2 s hs)
 r3 s hs:=(cell_of (e Rb (.inr (.inr (.inr (.inl rfl)))))).trans (h.r3 s hs)
 jS s hs:=(cell_of (e Nb (.inr (.inr (.inr (.inr (.inl rfl))))))).trans (h.jS s hs)
 lbn:=by rw[hz];exact h.lbn
 lLb:=by rw[hz];exact h.lLb
 lSt:=by rw[hz];exact h.lSt
 lRb:=by rw[hz];exact h.lRb
 lNb:=by rw[hz];exact h.lNb
theorem Qn(hF:bM au L0 o w)(bn Lb Lo St Rb Nb n:Nat)(out:Nat->af)(eR:Nat->Int)(ins:Nat->List (Bool×Nat))(cM:Nat->Nat)(res:Nat->Kz.V)(jS:Nat->Bool)(hn:n<=1000)(h:pP w bn Lb Lo St Rb Nb n out eR ins cM res jS)(ho:∀b,b=bn\/b=Lb\/b=St\/b=Rb\/b=Nb\/(∃s,s<n/\b=cM s)->o b):
  bz au (XB au Fin 0) 75 #[.pointer (some ⟨bn,0,none⟩)] o w fun v o' w'=>fT o w v o' w'/\v=.slice (some ⟨w.heap.size,0,none⟩) n n/\w.heap.size<w'.heap.size/\w'.rowIs w.heap.size 65 (n*3) (gW out res n):=by
 refine bz.mono (eD ah hF (fun x hx=>by simp at hx;subst hx;exact bU (ho bn (.inl rfl))) (Q:=fun wl v w'=>v=.slice (some ⟨wl.heap.size,0,none⟩) n n/\wl.heap.size<w'.heap.size/\w'.rowIs wl.heap.size 65 (n*3) (gW out res n)) (fun wl A1 v w1 w2 e1 e2 h=>?_) (fun wl hz aT=>?_)) (fun v o' w' hq=>?_)
 ·rw[e1,e2];exact⟨h.1,h.2.1,World.rowIs.of_block h.2.2 (by rw[e2])⟩
 ·refine(JI bn Lb Lo St Rb Nb n out eR ins cM res jS wl hn (wm h hz fun b hb=>aT b (ho b hb))).mono fun e w' hq=>?_;obtain⟨rfl,h1,h2,h3⟩:=hq;exact⟨_,rfl,h1.size,fun b hb=>h1.block b hb,rfl,h2,h3⟩
 ·obtain⟨hN,wl,aV,z1,z2,hs,rfl,h2,h3⟩:=hq;rw[z1] at h2 h3 hN |-;exact⟨hN,rfl,aa,World.rowIs.of_block h3 (hs _ (ag _) aa)⟩
theorem uH{lo:Nat}{ts:List af}{v:Value}{w wl:ae}(h:wl.ownsRow lo 9 1 v ts.length (ts.map .string))(hs:∀b,lo<=b->b<w.heap.size->w.heap[b]?=wl.heap[b]?)(hz:wl.heap.size=w.heap.size):ig lo ts v w:=by
 obtain⟨hl,hc⟩:=h;rcases hc with⟨rfl,h2⟩|⟨g,cap,cur,rfl,h1,h2,h3,h4,h5,h6⟩
 ·exact .inl ⟨rfl,List.length_eq_zero_iff.1 h2⟩
 ·have hg:g<w.heap.size:=by rw[<- hz];exact(Array.getElem?_eq_some_iff.1 h2).1
  refine .inr ⟨g,cap,rfl,h3,h1,hg,fun k hk=>?_⟩;have hb:=(hs g h1 hg).trans h2;have:(cur.toList.take (ts.length*1))[k]?=(ts.map Value.string)[k]?:=by rw[h6]
  rw[fD aa] at this;simp[World.cell?,hb];simpa[hk] using this
theorem Qo(hF:bM au L0 o w)(bn Lb Lo St Rb Nb n:Nat)(out:Nat->af)(eR:Nat->Int)(ins:Nat->List (Bool×Nat))(cM:Nat->Nat)(res:Nat->Kz.V)(jS:Nat->Bool)(hn:n<=1000)(h:pP w bn Lb Lo St Rb Nb n out eR ins cM res jS)(ho:∀b,b=bn\/b=Lb\/b=St\/b=Rb\/b=Nb\/(∃s,s<n/\b=cM s)->o b):
  bz au (XB au Fin 0) 76 #[.pointer (some ⟨bn,0,none⟩)] o w fun v o' w'=>fT o w v o' w'/\ig w.heap.size (rG out jS n) v w':=by
 refine bz.mono (eD ah hF (fun x hx=>by simp at hx;subst hx;exact bU (ho bn (.inl rfl))) (Q:=fun wl v w'=>w'.ownsRow wl.heap.size 9 1 v (rG out jS n).length ((rG out jS n).map .string)) (fun wl A1 v w1 w2 e1 e2 h=>?_) (fun wl hz aT=>?_)) (fun v o' w' hq=>?_)
 ·rw[e1];exact dD h fun g _ _=>by rw[e2]
 ·refine(JJ bn Lb Lo St Rb Nb n out eR ins cM res jS wl hn (wm h hz fun b hb=>aT b (ho b hb))).mono fun e w' hq=>?_;obtain⟨v,rfl,h1,h2,h3⟩:=hq;exact⟨_,rfl,h1.size,fun b hb=>h1.block b hb,h3⟩
 ·obtain⟨hN,wl,aV,z1,z2,hs,h3⟩:=hq;rw[z1] at h3;exact⟨hN,uH h3 hs z2⟩
theorem C8(hF:bM au L0 o w)(v0:Value)(b c:Nat)(p:Option Addr)(ts:List af)(OE:v0=.slice p ts.length c)(hn:ts.length<=100000)(hp:p=none->ts=[])(hq:ts≠[]->p=some ⟨b,0,none⟩/\o b)(ht:fy w b 0 ts)(hc:Cl au L0 o v0):
  bz au (XB au Fin 0) 51 #[v0] o w fun v o' w'=>fT o w v o' w'/\ig w.heap.size ts v w':=by
 refine bz.mono (eD ah hF (fun x hx=>by simp at hx;subst hx;exact hc) (Q:=fun wl v w'=>w'.ownsRow wl.heap.size 9 1 v ts.length (ts.map .string)) (fun wl A1 v w1 w2 e1 e2 h=>?_) (fun wl hz aT=>?_)) (fun v o' w' hq=>?_)
 ·rw[e1];exact dD h fun g _ _=>by rw[e2]
 ·subst OE;cases p with
  |none =>
   obtain rfl:=hp rfl;refine(Tryz.slices_Clone_string_nil _ _ wl).mono fun e w' hq=>?_;obtain⟨rfl,rfl⟩:=hq;exact⟨_,rfl,ag _,fun _ _=>rfl,aj,.inl ⟨rfl,rfl⟩⟩
  |some a =>
   by_cases dH:ts=[]
   ·subst dH;refine(Tryz.slices_Clone_string_zero a _ wl).mono fun e w' hq=>?_;obtain⟨v',rfl,h1,-,h2⟩:=hq;exact⟨_,rfl,h2.size,fun b hb=>h2.block b hb,h1⟩
   ·obtain⟨e,hb⟩:=hq dH;cases e;refine(Tryz.slices_Clone_string b 0 ts.length c ts wl (ag _) aa (fun j hj=>?_)).mono fun e w' hq=>?_
    ·rw[dc ht (aT b hb) j hj];simp[hj]
    ·obtain⟨v',rfl,h1,h2⟩:=hq;rw[cS] at h1;exact⟨_,rfl,h2.2.size,fun b hb=>h2.2.block b hb,h1⟩
 ·obtain⟨hN,wl,aV,z1,z2,hs,h3⟩:=hq;rw[z1] at h3;exact⟨hN,uH h3 hs z2⟩
end
end
structure mq(rs:List aI)(NM:aI->List af)(RK:af->Nat):Prop where
 nodup:(rs.map (·.out)).Nodup
 low:∀r∈rs,RK r.out<rs.length
 Ep:∀r∈rs,∀x∈NM r,x∈rs.map (·.out)->RK x<RK r.out
 eR:∀r∈rs,1<=r.eR/\r.eR<=5
 four:∀r∈rs,(NM r).length<=4
theorem mq.perm{rs cp:List aI}{NM:aI->List af}{RK:af->Nat}(h:mq rs NM RK)(p:cp.Perm rs):mq cp NM RK where
 nodup:=((p.map (·.out)).nodup_iff).2 h.nodup
 low r hr:=by rw[p.length_eq];exact h.low r (p.mem_iff.1 hr)
 Ep r hr x hx ho:=h.Ep r (p.mem_iff.1 hr) x hx (((p.map (·.out)).mem_iff).1 ho)
 eR r hr:=h.eR r (p.mem_iff.1 hr)
 four r hr:=h.four r (p.mem_iff.1 hr)
theorem uI{rs:List aI}(hn:(rs.map (·.out)).Nodup)(hs:∀i j (hi:i<rs.length) (hj:j<rs.length),i<j->¬qG rs[j] rs[i]<0):lK (rs.map (·.out)):=fun i j hi hj E7=>by
 have ma:i<rs.length:=by simpa using hi
 have r8:j<rs.length:=by simpa using hj
 simp only[List.getElem_map];have h1:=hs i j ma r8 E7;unfold qG at h1;have e:∀b:af,b.data.toList=b.toList:=fun b=>(ByteArray.toList_eq b).symm;rw[e,e] at h1;rw[r9 rs[i].out.toList rs[j].out.toList] at h1;have h2:Lib.compareBytes rs[i].out.toList rs[j].out.toList≠0:=fun h=>by
  have h3:=sM _ _ h;have h4:rs[i].out=rs[j].out:=by
   have:rs[i].out.data=rs[j].out.data:=by
    apply Array.toList_inj.1;rw[e,e];exact h3
   cases hx:rs[i].out;cases hy:rs[j].out;rw[hx,hy] at this;simp at this;rw[this]
  have:=(List.pairwise_iff_getElem.1 hn i j hi hj E7);simp only[List.getElem_map] at this;exact this h4
 omega
section
variable {rs:List aI} {NM:aI->List af} {RK:af->Nat}
theorem GV{xs:List af}{x:af}(h:pO xs x=true):∃h:mZ xs x<xs.length,xs[mZ xs x]=x:=by
 unfold pO at h;simp only[decide_eq_true_eq] at h;refine⟨h.1,?_⟩;have:=h.2;simpa[List.getD,h.1] using this
theorem Qp{outs:List af}{l:List af}{x:af}:x∈tq outs l↔x∈l/\x∉outs:=by
 unfold tq;rw[List.mem_filter];constructor
 ·rintro⟨h1,h2⟩;refine⟨h1,fun h=>?_⟩;rw[(Lib.containsS_iff outs x).2 h] at h2;cases h2
 ·rintro⟨h1,h2⟩;refine⟨h1,?_⟩;cases hc:Lib.containsS outs x with
  |false=>rfl
  |true=>exact absurd ((Lib.containsS_iff outs x).1 hc) h2
theorem JN{outs:List af}{nm:Nat->List af}{x:af}:∀k,x∈lD outs nm k↔∃i,i<k/\x∈nm i/\x∉outs
 |0=>by simp[lD]
 |k+1=>by
  simp only[lD,List.mem_append,JN k,Qp];constructor
  ·rintro(⟨i,h1,h2,h3⟩|⟨h2,h3⟩)
   ·exact⟨i,aa,h2,h3⟩
   ·exact⟨k,aa,h2,h3⟩
  ·rintro⟨i,h1,h2,h3⟩;by_cases e:i=k
   ·subst e;exact .inr ⟨h2,h3⟩
   ·exact .inl ⟨i,aa,h2,h3⟩
theorem nf{i:Nat}(h:i<rs.length):DN NM rs i=NM rs[i]:=by simp[DN,h]
theorem yB{i:Nat}(h:i<rs.length):qH rs i=rs[i].out:=by simp[qH,h]
theorem NW{i:Nat}(h:i<rs.length):zH rs i=rs[i].eR:=by simp[zH,h]
theorem sf{x:af}:x∈fh NM rs↔∃r∈rs,x∈NM r/\x∉rs.map (·.out):=by
 unfold fh;rw[(oO _).2,JN];constructor
 ·rintro⟨i,h1,h2,h3⟩;rw[nf h1] at h2;exact⟨rs[i],aG h1,h2,h3⟩
 ·rintro⟨r,h1,h2,h3⟩;obtain⟨i,hi,rfl⟩:=bc h1;exact⟨i,hi,by rw[nf hi];exact h2,h3⟩
theorem Ws(hS:lK (rs.map (·.out))){s m:Nat}(hs:s<rs.length)(h:(true,m)∈mj NM rs s):∃hm:m<rs.length,rs[m].out∈NM rs[s]:=by
 unfold mj at h;rw[nf hs] at h;obtain⟨x,hx,he⟩:=List.mem_map.1 h;unfold rj at he;have h1:pO (rs.map (·.out)) x=true:=congrArg Prod.fst he;have h2:=congrArg Prod.snd he;simp only[h1,if_true] at h2;obtain⟨hp,mf⟩:=GV h1;subst h2;rw[bP] at hp;exact⟨hp,by simp only[List.getElem_map] at mf;rw[mf];exact hx⟩
theorem Wt(hS:lK (rs.map (·.out))){s m:Nat}(hs:s<rs.length)(h:(false,m)∈mj NM rs s):m<(fh NM rs).length:=by
 unfold mj at h;rw[nf hs] at h;obtain⟨x,hx,he⟩:=List.mem_map.1 h;unfold rj at he;have h1:pO (rs.map (·.out)) x=false:=congrArg Prod.fst he;have h2:=congrArg Prod.snd he;simp only[h1,aL,if_false] at h2;have Mp:x∉rs.map (·.out):=fun hm=>by rw[(yv _ hS x).2 hm] at h1;cases h1
 have hm:x∈fh NM rs:=sf.2 ⟨rs[s],aG hs,hx,Mp⟩;obtain⟨hp,-⟩:=GV ((yv _ (oO _).1 x).2 hm);rw[<- h2];exact hp
def qu(rs:List aI)(NM:aI->List af)(file:af->V):Nat->af->V
 |0,_=>V0
 |f+1,x=>match rs.find? (fun r=>decide (r.out=x)) with
  |some r=>iX r.eR ((NM r).map (qu rs NM file f))
  |none=>file x
def valOf(rs:List aI)(NM:aI->List af)(file:af->V)(x:af):V:=qu rs NM file (rs.length+1) x
theorem yC(hn:(rs.map (·.out)).Nodup){r:aI}(hr:r∈rs):rs.find? (fun q=>decide (q.out=r.out))=some r:=by
 induction rs with
 |nil=>cases hr
 |cons q l ih =>
  rw[aA,da] at hn;rcases List.mem_cons.1 hr with rfl|h
  ·simp
  ·have dH:decide (q.out=r.out)=false:=dv fun e=>hn.1 (by rw[e];exact gF h);rw[List.find?_cons,dH];exact ih hn.2 h
theorem sg{x:af}(h:x∉rs.map (·.out)):rs.find? (fun q=>decide (q.out=x))=none:=by
 rw[List.find?_eq_none];intro q hq;simp only[decide_eq_true_eq];intro e;exact h (e▸gF hq)
theorem JO(h:mq rs NM RK)(file:af->V):∀(k f g:Nat) (x:af),(x∈rs.map (·.out)->RK x<k)->k<f->k<g->qu rs NM file f x=qu rs NM file g x:=by
 intro k
 induction k with
 |zero =>
  intro f g x hx hf hg;obtain⟨f,rfl⟩:∃f',f=f'+1:=⟨f-1,aa⟩;obtain⟨g,rfl⟩:∃g',g=g'+1:=⟨g-1,aa⟩;have:x∉rs.map (·.out):=fun hm=>by have:=hx hm;omega
  simp only[qu,sg this]
 |succ k ih =>
  intro f g x hx hf hg;obtain⟨f,rfl⟩:∃f',f=f'+1:=⟨f-1,aa⟩;obtain⟨g,rfl⟩:∃g',g=g'+1:=⟨g-1,aa⟩;by_cases hm:x∈rs.map (·.out)
  ·obtain⟨r,hr,rfl⟩:=List.mem_map.1 hm;simp only[qu,yC h.nodup hr]
   congr 1
   refine b9 fun y hy=>ih f g y (fun hym=>?_) aa aa;have:=h.Ep r hr y hy hym;have:=hx hm;omega
  ·simp only[qu,sg hm]
theorem Fs(h:mq rs NM RK)(file:af->V){r:aI}(hr:r∈rs):valOf rs NM file r.out=iX r.eR ((NM r).map (valOf rs NM file)):=by
 unfold valOf
 conv=>lhs;unfold qu
 simp only[yC h.nodup hr]
 congr 1
 refine b9 fun y hy=>JO h file (rs.length-1) _ _ y (fun hm=>?_) ?_ ?_
 ·have:=h.Ep r hr y hy hm;have:=h.low r hr;omega
 ·have:0<rs.length:=iw hr;omega
 ·omega
theorem Ft(file:af->V){x:af}(h:x∉rs.map (·.out)):valOf rs NM file x=file x:=by
 unfold valOf qu;simp only[sg h]
theorem C9{cp:List aI}(h:mq rs NM RK)(p:cp.Perm rs)(file:af->V)(x:af):valOf cp NM file x=valOf rs NM file x:=by
 unfold valOf;rw[p.length_eq];generalize rs.length+1=f
 induction f generalizing x with
 |zero=>rfl
 |succ f ih =>
  unfold qu;by_cases hm:x∈rs.map (·.out)
  ·obtain⟨r,hr,rfl⟩:=List.mem_map.1 hm;rw[yC h.nodup hr,yC (h.perm p).nodup (p.mem_iff.2 hr)];simp only
   congr 1
   exact b9 fun y _=>ih y
  ·rw[sg hm,sg (fun hx=>hm (((p.map (·.out)).mem_iff).1 hx))]
theorem Qq(h:mq rs NM RK)(hS:lK (rs.map (·.out)))(D:mV)(file:af->V)(res:Nat->V)(GQ:D.ins=mj NM rs)(hv:D.lC=(fh NM rs).map file)(wM:∀s,s<rs.length->res s=valOf rs NM file (qH rs s)){s:Nat}(hs:s<rs.length):dT D res s=(NM rs[s]).map (valOf rs NM file):=by
 unfold dT;rw[GQ];unfold mj;rw[nf hs,List.map_map];refine b9 fun x hx=>?_;simp only[Function.comp,Jm,rj];rcases Bool.eq_false_or_eq_true (pO (rs.map (·.out)) x) with hh|hh
 ·obtain⟨hp,mf⟩:=GV hh;have hp':mZ (rs.map (·.out)) x<rs.length:=by simpa using hp
  simp only[hh,if_true];rw[wM _ hp',yB hp'];simp only[List.getElem_map] at mf;rw[mf]
 ·have Mp:x∉rs.map (·.out):=fun hm=>by rw[(yv _ hS x).2 hm] at hh;cases hh
  have hm:x∈fh NM rs:=sf.2 ⟨rs[s],aG hs,hx,Mp⟩;obtain⟨hp,mf⟩:=GV ((yv _ (oO _).1 x).2 hm);have hp2:mZ (fh NM rs) x<(fh NM rs).length:=hp;have hx2:(fh NM rs)[mZ (fh NM rs) x]=x:=mf;simp only[hh,aL,if_false,hv];rw[Ft file Mp];simp[List.getD,hp2,hx2]
end
theorem JP(n:Nat)(h:n<18446744073709551616):(⟨(Lib.decDigits n).toArray⟩:af).size<=20:=by
 show(Lib.decDigits n).toArray.size<=20;rw[List.size_toArray,Lib.decDigits_length];exact Lib.nDigits_le20 n h
theorem Da(l:List UInt8):(bytes l).size=l.length:=by
 show l.toArray.size=l.length;simp
theorem JQ{M:Nat}:∀{ts:List af},(∀t∈ts,t.size<=M)->jl ts<=M*ts.length
 | [],_=>by simp[jl]
 |t::ts,h=>by
  have h1:=h t aj;have h2:=JQ (ts:=ts) fun x hx=>h x (by simp[hx]);simp only[jl,aA,List.sum_cons,List.length_cons,Nat.mul_add] at h2 |-;omega
theorem JR{M:Nat}:∀{ts:List af},(∀t∈ts,t.size<=M)->sK ts<=255*M*ts.length
 | [],_=>by simp[sK]
 |t::ts,h=>by
  have h1:=h t aj;have h2:=JR (ts:=ts) fun x hx=>h x (by simp[hx]);have h3:=GA t.data.toList;have h4:t.data.toList.length=t.size:=by rw[Array.length_toList];rfl
  simp only[sK,aA,List.sum_cons,List.length_cons,Nat.mul_add] at h2 |-;rw[h4] at h3;have h5:255*t.size<=255*M:=Nat.mul_le_mul_left _ h1;omega
theorem Wu(x y:af):Lib.minS x y=x\/Lib.minS x y=y:=by
 unfold Lib.minS;split
 ·exact .inl rfl
 ·exact .inr rfl
theorem Fu:∀(l:List af) (x:af),l.foldl Lib.minS x=x\/l.foldl Lib.minS x∈l
 | [],x=>.inl rfl
 |y::l,x=>by
  simp only[List.foldl_cons];rcases Fu l (Lib.minS x y) with h|h
  ·rw[h];rcases Wu x y with e|e
   ·exact .inl e
   ·exact .inr (by rw[e];simp)
  ·exact .inr (by simp[h])
theorem TA(l:List af)(h:l≠[]):Lib.minOfS l∈l:=by
 unfold Lib.minOfS;cases l with
 |nil=>exact absurd rfl h
 |cons y l =>
  rcases Fu (y::l) ((y::l).headD aO) with e|e
  ·rw[e];simp
  ·exact e
theorem My{r:Int}{vs:List V}(hl:vs.length<=4)(h:∀v∈vs,v.2.size<=100):(iX r vs).2.size<=100:=by
 have ht:∀t∈vs.map (·.2),t.size<=100:=fun t ht=>by
  obtain⟨v,hv,rfl⟩:=List.mem_map.1 ht;exact h v hv
 unfold iX;split
 ·have:=CG vs;exact aW (JP _ aa) aa
 ·split
  ·exact aU _
  ·show(lS r (vs.map (·.2))).size<=100;unfold lS;split
   ·rw[Da];simp;omega
   ·split
    ·rw[Da];simp;omega
    ·split
     ·have:=JR ht;rw[bP] at this;exact aW (JP _ aa) aa
     ·split
      ·unfold zA;split
       ·exact aU _
       ·rename_i dH;exact ht _ (TA _ dH)
      ·exact aU _
theorem Fv{rs:List aI}{NM:aI->List af}(h4:∀r∈rs,(NM r).length<=4){file:af->V}(hf:∀x,(file x).2.size<=100):∀f x,(qu rs NM file f x).2.size<=100
 |0,x=>by simp[qu,V0]
 |f+1,x=>by
  unfold qu;cases hr:rs.find? (fun r=>decide (r.out=x)) with
  |none=>exact hf x
  |some r =>
   have hm:=jI hr;refine My (by rw[bP];exact h4 r hm) fun v hv=>?_;obtain⟨y,_,rfl⟩:=List.mem_map.1 hv;exact Fv h4 hf f y
structure cY where
 cp:List aI
 St:Nat
 Or:Nat
 cM:Nat->Nat
 sv:Value
section
variable {Fin:bK} {o:aM} {w:ae}
def Ay(F:cY)(b:Nat):Prop:=b=F.St\/b=F.Or\/(∃s,s<F.cp.length/\b=F.cM s)\/∃l c,F.sv=.slice (some ⟨b,0,none⟩) l c
structure zK(o:aM)(w:ae)(lo:Nat)(rs:List aI)(NM:aI->List af)(F:cY)(y:Value):Prop where
 lay:wh lo NM F.cp F.St F.Or F.cM F.sv y w
 perm:F.cp.Perm rs
 sorted:∀i j (hi:i<F.cp.length) (hj:j<F.cp.length),i<j->¬qG F.cp[j] F.cp[i]<0
 own:∀b,Ay F b->o b
theorem zK.ge{lo:Nat}{rs:List aI}{NM:aI->List af}{F:cY}{y:Value}(h:zK o w lo rs NM F y){b:Nat}(hb:Ay F b):lo<=b:=by
 rcases hb with rfl|rfl|⟨s,hs,rfl⟩|⟨l,c,e⟩
 ·exact h.lay.st.1
 ·exact h.lay.or.1
 ·exact h.lay.ib s hs
 ·rcases h.lay.src with⟨h1,-⟩|⟨g,cap,h1,h2,h3,h4,h5⟩
  ·rw[h1] at e;cases e
  ·rw[h1] at e;cases e;exact h3
theorem zK.keep{lo:Nat}{rs:List aI}{NM:aI->List af}{F:cY}{y:Value}{o':aM}{w':ae}(h:zK o w lo rs NM F y)(nX:∀b,Ay F b->o' b)(hz:w.heap.size<=w'.heap.size)(e:∀b,Ay F b->w'.heap[b]?=w.heap[b]?):zK o' w' lo rs NM F y where
 lay:={
  val:=h.lay.val
  steps:=jB h.lay.steps (e _ (.inl rfl)) (fun s hs=>e _ (.inr (.inr (.inl ⟨s,hs,rfl⟩)))) hz
  ord:=World.rowIs.of_block h.lay.ord (e _ (.inr (.inl rfl)))
  src:=by
   rcases h.lay.src with h1|⟨g,cap,h1,h2,h3,h4,h5⟩
   ·exact .inl h1
   ·exact .inr ⟨g,cap,h1,h2,h3,aa,dc h5 (e g (.inr (.inr (.inr ⟨_,_,h1⟩))))⟩
  st:=⟨h.lay.st.1,by have:=h.lay.st.2;omega⟩
  or:=⟨h.lay.or.1,by have:=h.lay.or.2;omega⟩
  ib:=h.lay.ib}
 perm:=h.perm
 sorted:=h.sorted
 own:=nX
def NX(Rb s:Nat)(r:Int)(x:Option (Nat×List V))(w:ae):Prop:=match x with
 |none=>w.cell? ⟨Rb,s*4,none⟩=some (.bool false)/\w.cell? ⟨Rb,s*4+1,none⟩=some (.slice none 0 0)/\w.cell? ⟨Rb,s*4+2,none⟩=some (.bool false)/\w.cell? ⟨Rb,s*4+3,none⟩=some (.string aO)
 |some (B,vs)=>w.cell? ⟨Rb,s*4,none⟩=some (.bool true)/\w.cell? ⟨Rb,s*4+1,none⟩=some (.slice (some ⟨B,0,none⟩) vs.length vs.length)/\w.cell? ⟨Rb,s*4+2,none⟩=some (.bool (iX r vs).1)/\w.cell? ⟨Rb,s*4+3,none⟩=some (.string (iX r vs).2)
theorem NX.keep{Rb s:Nat}{r:Int}{x:Option (Nat×List V)}{w w':ae}(h:NX Rb s r x w)(e:w'.heap[Rb]?=w.heap[Rb]?):NX Rb s r x w':=by
 cases x with
 |none=>exact⟨(cell_of e).trans h.1,(cell_of e).trans h.2.1,(cell_of e).trans h.2.2.1,(cell_of e).trans h.2.2.2⟩
 |some y=>exact⟨(cell_of e).trans h.1,(cell_of e).trans h.2.1,(cell_of e).trans h.2.2.1,(cell_of e).trans h.2.2.2⟩
structure vk where
 bb:Nat
 p:Option Addr
 Ru:Nat
 c:Nat
 Rb:Nat
 rs:List aI
 NM:aI->List af
 NB:aI->Nat
 RK:af->Nat
def nB(B:vk)(fd:Option (Nat×cY))(old:Nat->Option (Nat×List V))(b:Nat):Prop :=
 b=B.bb\/b=B.Ru\/b=B.Rb\/b=1\/(∃r∈B.rs,B.NM r≠[]/\b=B.NB r)\/(∃lo F,fd=some (lo,F)/\Ay F b)\/∃s vs,s<B.rs.length/\old s=some (b,vs)
structure fL(o:aM)(w:ae)(B:vk)(fd:Option (Nat×cY))(old:Nat->Option (Nat×List V)):Prop where
 own:∀b,nB B fd old b->o b
 right:mq B.rs B.NM B.RK
 rules:lE o w B.p B.Ru B.c B.rs B.NM B.NB
 apart:B.Ru≠B.bb/\B.Rb≠B.bb/\(∀r∈B.rs,B.NM r≠[]->B.NB r≠B.bb)/\4<=B.Rb/\4<=B.bb/\B.Ru≠B.Rb/\∀r∈B.rs,B.NM r≠[]->B.NB r≠B.Rb
 blk:∃y0 y1 y2,w.heap[B.bb]?=some (KW (.slice B.p B.rs.length B.c) (.int .u32 (if fd.isSome then 1 else 0)) (.int .i32 0) (.int .u32 0) y0 y1 y2 (.slice (some ⟨B.Rb,0,none⟩) B.rs.length B.rs.length))/\∀lo F,fd=some (lo,F)->zK o w lo B.rs B.NM F (.agg #[y0,y1,y2])
 lo:∀lo F,fd=some (lo,F)->B.Rb<lo/\B.bb<lo
 fresh:fd=none->∀s,s<B.rs.length->old s=none
 runs:∃cs,w.heap[B.Rb]?=some (.cells cs 222 (0,0))/\cs.size=B.rs.length*4
 idle:∀s,s<B.rs.length->∀r,(∀lo F,fd=some (lo,F)->r=zH F.cp s)->NX B.Rb s r (old s) w
 xa:∀s b vs,s<B.rs.length->old s=some (b,vs)->eY w b vs/\vs.length<=100000/\B.Rb<b/\B.bb<b
 pow:iW w
theorem fL.keep{B:vk}{fd:Option (Nat×cY)}{old:Nat->Option (Nat×List V)}{o':aM}{w':ae}(h:fL o w B fd old)(nX:∀b,o b->o' b)(hz:w.heap.size<=w'.heap.size)(e:∀b,nB B fd old b->w'.heap[b]?=w.heap[b]?):fL o' w' B fd old where
 own b hb:=nX _ (h.own b hb)
 right:=h.right
 rules:=h.rules.keep nX (e _ (.inr (.inl rfl))) fun r hr hn=>e _ (.inr (.inr (.inr (.inr (.inl ⟨r,hr,hn,rfl⟩)))))
 apart:=h.apart
 blk:=by
  obtain⟨y0,y1,y2,h1,h2⟩:=h.blk;exact⟨y0,y1,y2,(e _ (.inl rfl)).trans h1,fun lo F hf=>(h2 lo F hf).keep (fun b hb=>nX _ ((h2 lo F hf).own b hb)) hz fun b hb=>e b (.inr (.inr (.inr (.inr (.inr (.inl ⟨lo,F,hf,hb⟩))))))⟩
 lo:=h.lo
 fresh:=h.fresh
 runs:=by
  obtain⟨cs,h1,h2⟩:=h.runs;exact⟨cs,(e _ (.inr (.inr (.inl rfl)))).trans h1,h2⟩
 idle s hs r hr:=(h.idle s hs r hr).keep (e _ (.inr (.inr (.inl rfl))))
 xa s b vs hs ho:=by
  obtain⟨h1,h2⟩:=h.xa s b vs hs ho;exact⟨h1.of_block (e b (.inr (.inr (.inr (.inr (.inr (.inr ⟨s,vs,hs,ho⟩))))))),h2⟩
 pow q hq:=(cell_of (e 1 (.inr (.inr (.inr (.inl rfl)))))).trans (h.pow q hq)
end
theorem Fw{α:Type}{lt:α->α->Prop}(ha:∀x y,lt x y->lt y x->False):∀a b:List α,a.Pairwise lt->b.Pairwise lt->(∀x,x∈a↔x∈b)->a=b
 | [],[],_,_,_=>rfl
 | [],y::b,_,_,h=>by have:=(h y).2 aj;cases this
 |x::a,[],_,_,h=>by have:=(h x).1 aj;cases this
 |x::a,y::b,h1,h2,h=>by
  rw[List.pairwise_cons] at h1 h2;have e:x=y:=by
   rcases List.mem_cons.1 ((h x).1 aj) with e|hx
   ·exact e
   ·rcases List.mem_cons.1 ((h y).2 aj) with e|hy
    ·exact e.symm
    ·exact(ha _ _ (h1.1 y hy) (h2.1 x hx)).elim
  subst e;rw[Fw ha a b h1.2 h2.2 fun z=>⟨fun hz=>?_,fun hz=>?_⟩]
  ·rcases List.mem_cons.1 ((h z).1 (by simp[hz])) with e|DF
   ·subst e;exact(ha _ _ (h1.1 z hz) (h1.1 z hz)).elim
   ·exact DF
  ·rcases List.mem_cons.1 ((h z).2 (by simp[hz])) with e|DF
   ·subst e;exact(ha _ _ (h2.1 z hz) (h2.1 z hz)).elim
   ·exact DF
theorem wo{a b:List af}(ha:lK a)(hb:lK b)(h:∀x,x∈a↔x∈b):a=b:=by
 refine Fw (lt:=fun x y=>Lib.compareBytes x.toList y.toList<0) (fun x y h1 h2=>?_) a b (List.pairwise_iff_getElem.2 fun i j hi hj E7=>ha i j hi hj E7) (List.pairwise_iff_getElem.2 fun i j hi hj E7=>hb i j hi hj E7) h;rw[r9 x.toList y.toList] at h2;omega
theorem zL{rs cp:List aI}{NM:aI->List af}(p:cp.Perm rs):fh NM cp=fh NM rs:=by
 refine wo (oO _).1 (oO _).1 fun x=>?_;show x∈fh NM cp↔x∈fh NM rs;rw[sf,sf];constructor
 ·rintro⟨r,h1,h2,h3⟩;exact⟨r,p.mem_iff.1 h1,h2,fun h=>h3 (((p.map (·.out)).mem_iff).2 h)⟩
 ·rintro⟨r,h1,h2,h3⟩;exact⟨r,p.mem_iff.2 h1,h2,fun h=>h3 (((p.map (·.out)).mem_iff).1 h)⟩
section
variable {Fin:bK} {o:aM} {w:ae}
structure bA(ex:Nat->Prop)(o:aM)(w:ae)(o':aM)(w':ae):Prop where
 aF:bM au L0 o' w'
 more:∀b,o b->o' b
 new:∀b,o' b->o b\/w.heap.size<=b
 size:w.heap.size<=w'.heap.size
 same:∀b,b<w.heap.size->¬ex b->w'.heap[b]?=w.heap[b]?
theorem bA.refl{ex:Nat->Prop}(hF:bM au L0 o w):bA ex o w o w:=⟨hF,fun _ h=>h,fun _ h=>.inl h,ag _,fun _ _ _=>rfl⟩
theorem bA.trans{ex:Nat->Prop}{o1 o2:aM}{w1 w2:ae}(h:bA ex o w o1 w1)(k:bA ex o1 w1 o2 w2):bA ex o w o2 w2 :=
 ⟨k.aF,fun b hb=>k.more b (h.more b hb),fun b hb=>(k.new b hb).elim (fun q=>h.new b q) fun q=>.inr (by have:=h.size;omega),by have:=h.size;have:=k.size;omega,fun b hb hx=>(k.same b (by have:=h.size;omega) hx).trans (h.same b hb hx)⟩
theorem bA.mono{ex ex':Nat->Prop}{o1:aM}{w1:ae}(h:bA ex o w o1 w1)(he:∀b,ex b->ex' b):bA ex' o w o1 w1:=⟨h.aF,h.more,h.new,h.size,fun b hb hx=>h.same b hb fun q=>hx (he b q)⟩
theorem bA.eJ{ex:Nat->Prop}{v:Value}{o1:aM}{w1:ae}(h:fT o w v o1 w1):bA ex o w o1 w1:=by
 refine⟨h.aF,fun b hb=>?_,fun b hb=>?_,h.size,fun b hb _=>h.old b hb⟩
 ·rw[h.own];exact .inl hb
 ·rw[h.own] at hb;exact hb.imp id fun q=>q.1
theorem ig.own{lo:Nat}{ts:List af}{v:Value}(h:ig lo ts v w):(v=.slice none 0 0/\ts=[])\/∃g cap,v=.slice (some ⟨g,0,none⟩) ts.length cap/\lo<=g/\g<w.heap.size/\fy w g 0 ts:=by
 rcases h with h|⟨g,cap,h1,h2,h3,h4,h5⟩
 ·exact .inl h
 ·exact .inr ⟨g,cap,h1,h3,h4,h5⟩
theorem fL.found{B:vk}{old:Nat->Option (Nat×List V)}{o':aM}{w':ae}(h:fL o w B none old)(hF:bM au L0 o w)(P:sO o w B.bb B.rs B.NM (fun y0 y1 y2=>KW (.slice B.p B.rs.length B.c) (.int .u32 1) (.int .i32 0) (.int .u32 0) y0 y1 y2 (.slice (some ⟨B.Rb,0,none⟩) B.rs.length B.rs.length)) o' w'):
  ∃F,fL o' w' B (some (w.heap.size,F)) old:=by
 obtain⟨cp,St,Or,cM,sv,y0,y1,y2,h1,h2,h3,h4⟩:=P.lay;have up:∀b,o b->o' b:=fun b hb=>by rw[P.own];exact .inl hb
 have nw:∀b,w.heap.size<=b->b<w'.heap.size->o' b:=fun b q1 q2=>by rw[P.own];exact .inr ⟨q1,q2⟩
 have lt:∀b,nB B none old b->b<w.heap.size:=fun b hb=>hF.lt (h.own b hb);have fq:∀b,Ay ⟨cp,St,Or,cM,sv⟩ b->o' b:=fun b hb=>by
  rcases hb with rfl|rfl|⟨s,hs,rfl⟩|⟨l,c,e⟩
  ·exact nw _ h3.st.1 h3.st.2
  ·exact nw _ h3.or.1 h3.or.2
  ·exact nw _ (h3.ib s hs) (h3.steps.lt s hs)
  ·rcases h3.src with⟨q1,-⟩|⟨g,cap,q1,q2,q3,q4,q5⟩
   ·simp only at e;rw[q1] at e;cases e
   ·simp only at e;rw[q1] at e;cases e;exact nw _ q3 q4
 have sm:∀b,nB B none old b->b≠B.bb->w'.heap[b]?=w.heap[b]?:=fun b hb hn=>P.old b (lt b hb) hn;obtain⟨a1,a2,a3,a4,a5,a6,a7⟩:=h.apart;refine⟨⟨cp,St,Or,cM,sv⟩,fun b hb=>?_,h.right,h.rules.keep up (sm _ (.inr (.inl rfl)) a1) fun r hr hn=>sm _ (.inr (.inr (.inr (.inr (.inl ⟨r,hr,hn,rfl⟩))))) (a3 r hr hn),h.apart,⟨y0,y1,y2,by simpa using h4,fun lo F hf=>?_⟩,fun lo F hf=>?_,(fun hf=>by cases hf),?_,fun s hs r hr=>?_,fun s b vs hs ho=>?_,fun q hq=>?_⟩
 ·rcases hb with hb|hb|hb|hb|hb|⟨lo,F,hf,hb⟩|hb
  ·exact up _ (h.own b (.inl hb))
  ·exact up _ (h.own b (.inr (.inl hb)))
  ·exact up _ (h.own b (.inr (.inr (.inl hb))))
  ·exact up _ (h.own b (.inr (.inr (.inr (.inl hb)))))
  ·exact up _ (h.own b (.inr (.inr (.inr (.inr (.inl hb))))))
  ·cases hf;exact fq b hb
  ·exact up _ (h.own b (.inr (.inr (.inr (.inr (.inr (.inr hb)))))))
 ·cases hf;exact⟨h3,h1,h2,fq⟩
 ·cases hf;exact⟨lt _ (.inr (.inr (.inl rfl))),lt _ (.inl rfl)⟩
 ·obtain⟨cs,q1,q2⟩:=h.runs;exact⟨cs,(sm _ (.inr (.inr (.inl rfl))) a2).trans q1,q2⟩
 ·have:=h.fresh rfl s hs;rw[this];have q:=h.idle s hs r (fun lo F hf=>by cases hf);rw[this] at q;exact q.keep (sm _ (.inr (.inr (.inl rfl))) a2)
 ·rw[h.fresh rfl s hs] at ho;cases ho
 ·exact(cell_of (a:=⟨1,q,none⟩) (sm 1 (.inr (.inr (.inr (.inl rfl)))) aa)).trans (h.pow q hq)
theorem Fx(hF:bM au L0 o w)(B:vk)(fd:Option (Nat×cY))(old:Nat->Option (Nat×List V))(h:fL o w B fd old):
  bz au (XB au Fin 0) 44 #[.pointer (some ⟨B.bb,0,none⟩)] o w fun v o' w'=>bA (·=B.bb) o w o' w'/\(∃lo F mid,fL o' w' B (some (lo,F)) old/\(fd=some (lo,F)\/fd=none/\lo=w.heap.size)/\w.heap.size<=mid/\(∀b,nB B (some (lo,F)) old b->b<mid)/\∀g,v.ownBlock=some g->mid<=g)/\Cl au L0 o' v/\ig w.heap.size (fh B.NM B.rs) v w'/\∀g l c,v=.slice (some ⟨g,0,none⟩) l c->o' g:=by
 have W:=bV (P:=au) (Fin:=Fin) (d:=0);refine bC W func44 ar ?_;walk_nrmf Tryz.f44;have uG:=h.own B.bb (.inl rfl);refine ax ?_;have hl:bz au (XB au Fin 0) 73 #[.pointer (some ⟨B.bb,0,none⟩)] o w fun v o' w'=>v=.pointer (some ⟨B.bb,4,none⟩)/\bA (·=B.bb) o w o' w'/\∃lo F,fL o' w' B (some (lo,F)) old/\(fd=some (lo,F)\/fd=none/\lo=w.heap.size):=by
  obtain⟨y0,y1,y2,hb,hp⟩:=h.blk;cases fd with
  |none =>
   refine(Mv hF B.bb B.Ru B.c B.p B.rs B.NM B.NB h.rules uG h.apart.1 h.apart.2.2.1 _ y0 y1 y2 _ (by simpa using hb)).mono ?_;rintro v o' w' ⟨rfl,P⟩;refine⟨rfl,⟨P.aF,fun b hb=>by rw[P.own];exact .inl hb,fun b hb=>by rw[P.own] at hb;exact hb.imp id fun q=>q.1,P.size,fun b hb hn=>P.old b hb hn⟩,?_⟩;obtain⟨F,hq⟩:=h.found hF P;exact⟨_,F,hq,.inr ⟨rfl,rfl⟩⟩
  |some f =>
   obtain⟨lo,F⟩:=f;refine(C3 hF B.bb uG _ _ _ y0 y1 y2 _ (by simpa using hb)).mono ?_;rintro v o' w' ⟨rfl,N⟩;have hW:bA (·=B.bb) o w o' w':=bA.eJ N;exact⟨rfl,hW,lo,F,h.keep hW.more hW.size fun b hb=>N.old b (hF.lt (h.own b hb)),.inl rfl⟩
 refine dA W rfl ar rfl func73 ah rfl aH rfl (hl.mono ?_);clear hl;rintro v1 o1 w1 ⟨rfl,W1,lo,F,h1,ah3⟩;refine ax ?_;obtain⟨y0,y1,y2,hb,hp⟩:=h1.blk;have P:=hp lo F rfl;have ah4:=W1.more _ uG;have oB:=P.lay.val;simp only[Value.agg.injEq] at oB;have hy2:y2=F.sv:=by
  have:=congrArg (fun a:Array Value=>a[2]?) oB;simpa using this
 obtain⟨-,-,-,-,-,-,c6,-,-⟩:=nR hb;rw[hy2] at c6;have PS:=P.lay.src;rw[zL P.perm] at PS;have fu:Cl au L0 o1 F.sv:=by
  rcases PS with⟨q1,-⟩|⟨g,cap,q1,-⟩
  ·rw[q1];exact iP
  ·rw[q1];exact dY (P.own g (.inr (.inr (.inr ⟨_,_,q1⟩))))
 refine lh W1.aF ah4 c6 fun _=>?_;refine ax ?_;have hC:bz au (XB au Fin 0) 51 #[F.sv] o1 w1 fun v o' w'=>fT o1 w1 v o' w'/\ig w1.heap.size (fh B.NM B.rs) v w':=by
  have hlen:(fh B.NM B.rs).length<=100000:=by
   have q1:=uF (lD (B.rs.map (·.out)) (DN B.NM B.rs) B.rs.length);have q2:=oM (B.rs.map (·.out)) (DN B.NM B.rs) B.rs.length (fun i hi=>by rw[nf hi];exact h.right.four _ (aG hi)) B.rs.length (ag _);have q3:=h.rules.gT;have:(fh B.NM B.rs).length<=(lD (B.rs.map (·.out)) (DN B.NM B.rs) B.rs.length).length:=q1;omega
  rcases PS with⟨q1,q2⟩|⟨g,cap,q1,q2,q3,q4,q5⟩
  ·exact C8 W1.aF F.sv 0 0 none _ (by rw[q1,q2];rfl) hlen (fun _=>q2) (fun dH=>absurd q2 dH) (fun k hk=>by rw[q2] at hk;simp at hk) fu
  ·exact C8 W1.aF F.sv g cap (some ⟨g,0,none⟩) _ q1 hlen (fun e=>by cases e) (fun _=>⟨rfl,P.own g (.inr (.inr (.inr ⟨_,_,q1⟩)))⟩) q5 fu
 refine dA W rfl ar rfl func51 ah rfl aH rfl (hC.mono ?_);rintro v2 o2 w2 ⟨N2,t2⟩;refine ax ?_;have W2:bA (·=B.bb) o1 w1 o2 w2:=bA.eJ N2;have W02:=W1.trans W2;refine⟨.inr trivial,trivial,_,resultsC_tmp (t:=2) ar _,W02,⟨lo,F,w1.heap.size,h1.keep W2.more W2.size fun b hb=>N2.old b (W1.aF.lt (h1.own b hb)),ah3,W1.size,fun b hb=>W1.aF.lt (h1.own b hb),fun g hg=>?_⟩,by simpa[Act.eval] using N2.cl,by simpa[Act.eval] using ll t2 W1.size (ag _) fun _ _ _=>rfl,fun g l c e=>?_⟩
 ·have e':v2.ownBlock=some g:=by simpa[Act.eval] using hg
  rcases t2 with⟨q1,-⟩|⟨g',cap,q1,q2,q3,q4,q5⟩
  ·rw[q1] at e';cases e'
  ·rw[q1] at e';cases e';exact q3
 have e':v2=.slice (some ⟨g,0,none⟩) l c:=by simpa[Act.eval] using e
 rcases t2 with⟨q1,-⟩|⟨g',cap,q1,q2,q3,q4,q5⟩
 ·rw[q1] at e';cases e'
 ·rw[q1] at e';cases e';rw[N2.own];exact .inr ⟨q3,q4⟩
end
section
open Go.ChangeShapes Go.WideShapes Go.Deep
theorem vl{ts:List TypeId}{k:IntKind}{P:Program}{w:ae}{t u:TypeId}{cs:Array Value}(YR:P.cellTypes P.depth t=some ts)(iB:∀x∈ts,P.underlying x=some (.int k))(h:Row.ok P w .any 0 t cs)(f:Rn):cs.map (val f)=cs:=by
 obtain⟨QW,e,-,hr⟩:=h;rw[YR] at e;cases e;apply ju;intro i;rw[aK];cases hi:cs[i]? with
 |none=>rfl
 |some v =>
  obtain⟨u,hu,ho⟩:=hr i v hi;have:=iB u (List.mem_of_getElem? hu);unfold Cell.ok at ho;rw[this] at ho;cases v<;>simp at ho;simp
theorem Qr{w:ae}(h:w.ShapedOpen au):bM au L0 (fun b=>b<4) w:=by
 have Q1:au.globals.size=4:=ah;have key:∀b,b<4->∃cs t,w.heap[b]?=some (.cells cs t)/\∀f:Rn,cs.map (val f)=cs:=by
  intro b hb;have nn:b=0\/b=1\/b=2\/b=3:=aa;rcases nn with rfl|rfl|rfl|rfl
  ·obtain⟨cs,e1,-,e2⟩:=h.1 0 (#[.int .i64 0]) 3 (by rw[Q1];omega) ah;exact⟨cs,_,e1,vl (ts:=[3]) (k:=.i64) (u:=0) ah (fun x hx=>by rw[List.mem_singleton.1 hx];exact underlying3) (e2 ah)⟩
  ·obtain⟨cs,e1,-,e2⟩:=h.1 1 (Array.replicate 20 (.int .u64 0)) 342 (by rw[Q1];omega) ah;exact⟨cs,_,e1,vl (ts:=List.replicate 20 212) (k:=.u64) (u:=0) ah (fun x hx=>by rw[gM hx];exact underlying212) (e2 ah)⟩
  ·obtain⟨cs,e1,-,e2⟩:=h.1 2 (Array.replicate 32 (.int .u8 0)) 347 (by rw[Q1];omega) ah;exact⟨cs,_,e1,vl (ts:=List.replicate 32 5) (k:=.u8) (u:=0) ah (fun x hx=>by rw[gM hx];exact underlying5) (e2 ah)⟩
  ·obtain⟨cs,e1,-,e2⟩:=h.1 3 (Array.replicate 64 (.int .u8 0)) 348 (by rw[Q1];omega) ah;exact⟨cs,_,e1,vl (ts:=List.replicate 64 5) (k:=.u8) (u:=0) ah (fun x hx=>by rw[gM hx];exact underlying5) (e2 ah)⟩
 refine⟨fun b hb=>?_,fun b hb=>by rw[Q1] at hb;exact hb,?_⟩
 ·obtain⟨cs,t,e1,e2⟩:=key b hb;exact⟨_,e1,rfl,fun f _=>by simp[obj,e2 f]⟩
 ·obtain⟨cs,t,e1,-⟩:=key 3 aa;have:=(Array.getElem?_eq_some_iff.1 e1).1;rw[Q1];omega
theorem ah5{q:Nat}(hq:q<20):(match (YtgjekaaknjgnmaaGreatDoor.Rows.laid_internal_strconv_uint64pow10:DataW Unit) with|.agg l=>l[q]? | _=>none)=some (.lit (.int .u64 ((10^q:Nat):Int))):=by
 have Bc:q=0\/q=1\/q=2\/q=3\/q=4\/q=5\/q=6\/q=7\/q=8\/q=9\/q=10\/q=11\/q=12\/q=13\/q=14\/q=15\/q=16\/q=17\/q=18\/q=19:=aa;rcases Bc with rfl|rfl|rfl|rfl|rfl|rfl|rfl|rfl|rfl|rfl|rfl|rfl|rfl|rfl|rfl|rfl|rfl|rfl|rfl|rfl<;>rfl
theorem Mz{w:ae}{r:List (String×DataW Unit)}(hr:r=[("math/bits.deBruijn32tab",YtgjekaaknjgnmaaGreatDoor.Rows.laid_math_bits_deBruijn32tab),("math/bits.deBruijn64tab",YtgjekaaknjgnmaaGreatDoor.Rows.laid_math_bits_deBruijn64tab),("internal/strconv.uint64pow10",YtgjekaaknjgnmaaGreatDoor.Rows.laid_internal_strconv_uint64pow10)])(h:laidMetH au r w):iW w:=by
 subst hr;rw[MakeChecks.laidMetH_plain _ _ _ ah] at h;obtain⟨ps,⟨g0,t0,cs0,f0,p0,q0,YZ,ht0,OE,DG,⟨g1,t1,tx,f1,p1,q1,KJ,ht1,HI,hd1,⟨g2,t2,cs2,f2,p2,q2,DK,ht2,KH,UM,-,-⟩,-⟩,-⟩,-,-⟩:=h;clear DG hd1 OE HI YZ KJ ht0 ht1;have e1:au.globalNamed "internal/strconv.uint64pow10" = some 1:=ah;have e2:(au.globals[1]?).map (·.type)=some 342:=ah;obtain rfl:=aQ (e1.symm.trans DK);obtain rfl:=aQ (e2.symm.trans ht2);obtain⟨xs,m,-,hx,fu,hxl,hel⟩:=DataW.trod_array underlying342 UM;have c1:au.cellsOf 212=1:=ah;intro q hq;have hp:=ah5 hq;rw[(Prod.mk.inj hx).1] at hp;simp only[List.getElem?_map] at hp;obtain⟨y,hy,e3⟩:=Option.map_eq_some_iff.1 hp;have hq2:=hel q hq;rw[hy,c1] at hq2;obtain⟨n,k1,k2,-⟩:=DataW.trod_int underlying212 hq2;rw[k2] at e3;simp only[DataW.lit.injEq,Lit.int.injEq,true_and] at e3;subst e3;have:=World.var?_cell DK KH q;rw[this];rw[Nat.mul_one] at k1;have k3:=congrArg (fun l=>l[0]?) k1;simp only[List.getElem?_take,List.getElem?_drop,Array.getElem?_toList] at k3;simpa using k3
end
theorem mr{Fin:bK}{d A:Nat}{o:aM}{w:ae}{fn:FuncId}{Q:Exit->Act->aM->ae->Prop}{x:Act}{ops:Array Oper}{i:Nat}{rest:List Nat}{e:Oper}{n0:Int}{y0:af}(n:Int)(y:af)(hF:bM au L0 o w)(oA:o A)(kA:w.heap[A]?=some (.cells #[.int .i64 n0,.string y0] 32))(k:∀w2,bM au L0 o w2->eI A w w2->w2.heap[A]?=some (.cells #[.int .i64 n,.string y] 32)->eX (XB au Fin d) fn ops rest Q (x.put none undef) o w2)(h5:ops[i]?=some e:=by rfl)(h6:Region.wanted e (yielded ops x.tmps)=true:=by rfl)(h7:∃p v,e.op=.store 32 p v/\x.eval p=.pointer (some ⟨A,0,none⟩)/\x.eval v=.agg #[.int .i64 n,.string y]:=by exact⟨_,_,rfl,rfl,rfl⟩)(h8:e.dst=none:=by rfl):eX (XB au Fin d) fn ops (i::rest) Q x o w:=by
 obtain⟨p,v,h7,h9,nA⟩:=h7;obtain⟨_,_,_,_,_,_⟩:=e;simp only at h7 h8;subst h7 h8;refine du bQ hF h5 h6 ar ?_ rfl (R:=fun wl aV=>aV=(wl.setCell ⟨A,0,none⟩ (.int .i64 n)).setCell ⟨A,1,none⟩ (.string y)) (fun wl aT=>⟨_,?_,rfl⟩) fun wl aV w2 aT hR bN=>?_
 ·intro z hz;simp[Op.operands] at hz;rcases hz with rfl|rfl
  ·rw[h9];exact bU oA
  ·rw[nA];refine fS (vs:=[_,_]) (fun x hx=>?_);simp at hx;rcases hx with rfl|rfl
   ·exact dS
   ·exact bS
 ·obtain⟨e0,e1,f0,f1⟩:=dO ((aT.heap _ oA).trans kA);generalize Act.eval x=ev at h9 nA |-;simp[go_sem,h9,nA,e0,e1,f0,f1]
 have hO:eI A wl aV:=by rw[hR];exact Aw _ _ _ _ _ _
 obtain⟨on,kA2,ey⟩:=bN.only aT oA hO;have rO:=bN.aF;rw[ey] at rO |-;rw[hR,Tt ((aT.heap _ oA).trans kA)] at kA2;exact k w2 rO on kA2
open Go.ConcR (Payload)
section
variable {Fin:bK} {o:aM} {w:ae}
def mG(B:vk)(F:cY)(file:af->V)(s:Nat):List V:=(DN B.NM F.cp s).map (valOf B.rs B.NM file)
def lu(B:vk)(F:cY)(file:af->V)(s:Nat):V:=valOf B.rs B.NM file (qH F.cp s)
def zM(B:vk)(F:cY)(file:af->V)(Vb bn Nb Mb:Nat)(ch:Nat->Nat):mV where
 n:=B.rs.length
 bn:=bn
 Lb:=B.bb
 Lo:=4
 St:=F.St
 Vb:=Vb
 Rb:=B.Rb
 Nb:=Nb
 Mb:=Mb
 jQ:=zH F.cp
 ins:=mj B.NM F.cp
 cM:=F.cM
 lC:=(fh B.NM B.rs).map file
 ch:=ch
def yD(B:vk)(F:cY)(k:Nat):Nat:=(eC (mj B.NM F.cp) F.cp.length F.cp.length).getD k 0
theorem MA{B:vk}{F:cY}(hR:mq B.rs B.NM B.RK)(hp:F.cp.Perm B.rs)(hS:lK (F.cp.map (·.out))):
  (eC (mj B.NM F.cp) F.cp.length F.cp.length).length=F.cp.length/\oK F.cp.length (eC (mj B.NM F.cp) F.cp.length F.cp.length)/\(∀s,s<F.cp.length->s∈eC (mj B.NM F.cp) F.cp.length F.cp.length)/\nQ (mj B.NM F.cp) (eC (mj B.NM F.cp) F.cp.length F.cp.length):=by
 have hR':=hR.perm hp;refine Tj (mj B.NM F.cp) F.cp.length (fun s=>B.RK (qH F.cp s)) (fun s hs=>?_) (fun s hs m hm=>?_)
 ·rw[yB hs];exact hR'.low _ (aG hs)
 ·obtain⟨h1,h2⟩:=Ws hS hs hm;refine⟨h1,?_⟩;rw[yB h1,yB hs];exact hR'.Ep _ (aG hs) _ h2 (gF (aG h1))
theorem pQ{B:vk}{F:cY}(hR:mq B.rs B.NM B.RK)(hp:F.cp.Perm B.rs)(hS:lK (F.cp.map (·.out)))(file:af->V)(Vb bn Nb Mb:Nat)(ch:Nat->Nat){s:Nat}(hs:s<B.rs.length):dT (zM B F file Vb bn Nb Mb ch) (lu B F file) s=mG B F file s:=by
 have sH:s<F.cp.length:=by rw[hp.length_eq];exact hs
 rw[Qq (hR.perm hp) hS (zM B F file Vb bn Nb Mb ch) file (lu B F file) rfl (by show(fh B.NM B.rs).map file=_;rw[zL hp]) (fun s hs=>by show valOf B.rs B.NM file _=_;rw[C9 hR hp]) sH];unfold mG;rw[nf sH];exact b9 fun x _=>C9 hR hp file x
theorem Fy{B:vk}{F:cY}(hR:mq B.rs B.NM B.RK)(hp:F.cp.Perm B.rs)(file:af->V){s:Nat}(hs:s<B.rs.length):lu B F file s=iX (zH F.cp s) (mG B F file s):=by
 have sH:s<F.cp.length:=by rw[hp.length_eq];exact hs
 unfold lu mG;rw[yB sH,NW sH,nf sH];exact Fs hR file (hp.mem_iff.1 (aG sH))
theorem si{w:ae}{a b:Nat}{x y:Obj}(ha:w.heap[a]?=some x)(hb:w.heap[b]?=some y)(h:x≠y):a≠b:=fun e=>by
 subst e;rw[ha] at hb;exact h (aQ hb)
theorem TB{B:vk}{lo:Nat}{F:cY}{old:Nat->Option (Nat×List V)}{file:af->V}{Vb bn Nb Mb nv:Nat}{ch:Nat->Nat}{o':aM}{w':ae}(hF:bM au L0 o w)(h:fL o w B (some (lo,F)) old)(py:∀x,(file x).2.size<=100)(Yg:o Vb)(hVr:Vb≠B.Rb)(hv:eY w Vb ((fh B.NM B.rs).map file))(hnv:nv=((fh B.NM B.rs).map file).length)(N:jT o w (.pointer (some ⟨B.bb,4,none⟩)) (.slice (some ⟨Vb,0,none⟩) nv nv) (.slice (some ⟨B.Rb,0,none⟩) B.rs.length B.rs.length) B.rs.length bn Nb Mb ch B.rs.length o' w'):
  n9 (zM B F file Vb bn Nb Mb ch) (yD B F) (lu B F file) old F.Or o' w':=by
 subst hnv;obtain⟨y0,y1,y2,hb,hp⟩:=h.blk;have P:=hp lo F rfl;have hlen:=P.perm.length_eq;have hS:=uI (h.right.perm P.perm).nodup P.sorted;obtain⟨k1,k2,k3,k4⟩:=MA h.right P.perm hS;have oB:=P.lay.val;simp only[Value.agg.injEq] at oB;have hy0:y0=.slice (some ⟨F.St,0,none⟩) F.cp.length F.cp.length:=by have:=congrArg (fun a:Array Value=>a[0]?) oB;simpa using this
 have hy1:y1=.slice (some ⟨F.Or,0,none⟩) (eC (mj B.NM F.cp) F.cp.length F.cp.length).length F.cp.length:=by have:=congrArg (fun a:Array Value=>a[1]?) oB;simpa using this
 rw[k1] at hy1;have ij:∀b,o b->w'.heap[b]?=w.heap[b]?:=fun b hb=>N.old b (hF.lt hb);have up:∀b,o b->o' b:=fun b hb=>by rw[N.own];exact .inl hb
 have lF:∀b,nB B (some (lo,F)) old b->o b:=h.own;have uG:=lF B.bb (.inl rfl);have Jz:=lF B.Rb (.inr (.inr (.inl rfl)));have hLf:∀b,Ay F b->o b:=P.own;have c8:=nR ((ij _ uG).trans hb);have c5:=C6 N.bn.2.2;have eG:pN w' F.St F.cp.length (qH F.cp) (zH F.cp) (mj B.NM F.cp) F.cM:=jB P.lay.steps (ij _ (hLf _ (.inl rfl))) (fun s hs=>ij _ (hLf _ (.inr (.inr (.inl ⟨s,hs,rfl⟩))))) N.size;have hRw:=hF.lt Jz;have new:∀b,w.heap.size<=b->∀c,o c->c≠b:=fun b hb c hc e=>by have:=hF.lt hc;omega
 have ah6:∀s,s<B.rs.length->ch s≠Nb:=fun s hs=>si (N.pv s hs).2.2 N.nb.2.2 aj;obtain⟨csM,hM,-,-⟩:=N.mb.2.2;have JS:∀c,o c->o' c/\c≠Nb/\∀s,s<B.rs.length->c≠ch s:=fun c hc=>⟨up c hc,new Nb N.nb.1 c hc,fun s hs=>new (ch s) (N.pv s hs).1 c hc⟩;have lsp:=(h.lo lo F rfl);have four:∀s,s<B.rs.length->(mj B.NM F.cp s).length<=4:=fun s hs=>by
  have sH:s<F.cp.length:=aa;unfold mj;rw[bP,nf sH];exact h.right.four _ (P.perm.mem_iff.1 (aG sH))
 have O3:=h.apart;refine {EZ:=⟨c5.1,c5.2.1,c5.2.2.1,c5.2.2.2.1,c5.2.2.2.2.1,?_,fun s hs=>eG.eR s (by rw[hlen];exact hs),fun s hs=>eG.A0 s (by rw[hlen];exact hs),fun s hs j hj=>eG.CH s (by rw[hlen];exact hs) j hj,(hv.of_block (ij _ Yg)).lC,fun s hs=>?_⟩,pow:=fun q hq=>(cell_of (a:=⟨1,q,none⟩) (ij 1 (lF 1 (.inr (.inr (.inr (.inl rfl))))))).trans (h.pow q hq),order:=?_,Mc:=fun k hk=>?_,still:=fun b hb=>?_,pv:=fun s hs=>⟨?_,?_,ah6 s hs,0,0,false,(N.pv s hs).2.2⟩,xP:=N.inj,CL:=up _ Jz,CM:=?_,apart:=(JS _ Jz).2.1,R0:=?_,N0:=⟨_,N.nb.2.2,by simp[size_madeCells];rfl⟩,idle:=fun s hs=>⟨?_,?_,?_,⟨_,_,N.nb.2.2⟩⟩,xa:=fun s b vs hs ho=>?_,qF:=fun i hi=>?_,ZR:=fun i j hi hj e=>?_,ZS:=fun s hs=>?_,dep:=fun i hi m hm=>?_,src:=fun s hs m hm=>?_,short:=four,gT:=by show B.rs.length<=_;have:=h.rules.gT;omega,VY:=?_,made:=fun s hs=>?_,eR:=fun s hs=>?_,size:=fun s hs=>?_}
 ·show w'.cell? ⟨B.bb,4,none⟩=some (.slice (some ⟨F.St,0,none⟩) B.rs.length B.rs.length);rw[c8.2.2.2.2.1,hy0,hlen]
 ·have sH:s<B.rs.length:=hs;have:=N.mb.2.2.cell sH;rw[if_pos sH] at this;exact this
 ·show w'.cell? ⟨B.bb,5,none⟩=some (.slice (some ⟨F.Or,0,none⟩) B.rs.length B.rs.length);rw[c8.2.2.2.2.2.1,hy1,hlen]
 ·have lP:k<F.cp.length:=by rw[hlen];exact hk
  exact(World.rowIs.of_block P.lay.ord (ij _ (hLf _ (.inr (.inl rfl))))).cell lP
 ·rcases hb with hb|rfl|rfl|rfl|hb|rfl|rfl|⟨s,hs,rfl⟩|⟨s,vs,hs,ho⟩
  ·have e:b=bn:=hb;rw[e];exact⟨by rw[N.own];exact .inr ⟨N.bn.1,N.bn.2.1⟩,fun e=>new bn N.bn.1 _ Jz e.symm,si N.bn.2.2 N.nb.2.2 aj,fun s hs=>si N.bn.2.2 (N.pv s hs).2.2 aj⟩
  ·obtain⟨q1,q2,q3⟩:=JS _ uG;exact⟨q1,fun e=>O3.2.1 e.symm,q2,q3⟩
  ·obtain⟨q1,q2,q3⟩:=JS _ (hLf F.St (.inl rfl));exact⟨q1,fun e=>by have:=P.ge (b:=F.St) (.inl rfl);have e:F.St=B.Rb:=e;omega,q2,q3⟩
  ·obtain⟨q1,q2,q3⟩:=JS _ Yg;exact⟨q1,hVr,q2,q3⟩
  ·have e:b=Mb:=hb;rw[e];exact⟨by rw[N.own];exact .inr ⟨N.mb.1,N.mb.2.1⟩,fun e=>new Mb N.mb.1 _ Jz e.symm,si hM N.nb.2.2 (by intro e;cases e),fun s hs=>si hM (N.pv s hs).2.2 aj⟩
  ·obtain⟨q1,q2,q3⟩:=JS _ (hLf F.Or (.inr (.inl rfl)));exact⟨q1,fun e=>by have:=P.ge (b:=F.Or) (.inr (.inl rfl));have e:F.Or=B.Rb:=e;omega,q2,q3⟩
  ·obtain⟨q1,q2,q3⟩:=JS _ (lF 1 (.inr (.inr (.inr (.inl rfl)))));exact⟨q1,fun e=>by have e:1=B.Rb:=e;omega,q2,q3⟩
  ·have hl:Ay F (F.cM s):=.inr (.inr (.inl ⟨s,by rw[hlen];exact hs,rfl⟩));obtain⟨q1,q2,q3⟩:=JS _ (hLf _ hl);exact⟨q1,fun e=>by have:=P.ge hl;have e:F.cM s=B.Rb:=e;omega,q2,q3⟩
  ·obtain⟨q1,q2,q3⟩:=JS _ (lF b (.inr (.inr (.inr (.inr (.inr (.inr ⟨s,vs,hs,ho⟩)))))));obtain⟨-,-,r3,-⟩:=h.xa s b vs hs ho;exact⟨q1,fun e=>by have e:b=B.Rb:=e;omega,q2,q3⟩
 ·show o' (ch s);rw[N.own];exact .inr ⟨(N.pv s hs).1,(N.pv s hs).2.1⟩
 ·exact fun e=>new (ch s) (N.pv s hs).1 _ Jz e.symm
 ·show o' Nb;rw[N.own];exact .inr ⟨N.nb.1,N.nb.2.1⟩
 ·obtain⟨cs,q1,q2⟩:=h.runs;exact⟨cs,(ij _ Jz).trans q1,q2⟩
 ·have q:=(h.idle s hs (zH F.cp s) (fun Tu F' hf=>by cases hf;rfl)).keep (ij _ Jz);cases hx:old s with
  |none=>rw[hx] at q;exact⟨q.1,q.2.1,q.2.2.1,q.2.2.2⟩
  |some x=>rw[hx] at q;exact⟨q.1,q.2.1,q.2.2.1,q.2.2.2⟩
 ·have sH:s<B.rs.length:=hs;show w'.cell? ⟨Nb,s,none⟩=some (.bool false);simp[World.cell?,N.nb.2.2,madeCells,sH,Nat.mod_one]
 ·obtain⟨cs,q1,q2⟩:=h.runs;exact⟨cs,_,(ij _ Jz).trans q1⟩
 ·obtain⟨q1,q2,-⟩:=h.xa s b vs hs ho;exact⟨(q1.of_block (ij _ (lF b (.inr (.inr (.inr (.inr (.inr (.inr ⟨s,vs,hs,ho⟩))))))))).lC,q2⟩
 ·have ma:i<(eC (mj B.NM F.cp) F.cp.length F.cp.length).length:=by rw[k1,hlen];exact hi
  show yD B F i<B.rs.length;unfold yD;rw[<- hlen];simp only[List.getD,bo ma,bq];exact k2.2 _ (aG ma)
 ·have ma:i<(eC (mj B.NM F.cp) F.cp.length F.cp.length).length:=by rw[k1,hlen];exact hi
  have r8:j<(eC (mj B.NM F.cp) F.cp.length F.cp.length).length:=by rw[k1,hlen];exact hj
  unfold yD at e;simp only[List.getD,bo ma,bo r8,bq] at e;have nd:=List.pairwise_iff_getElem.1 k2.1;rcases fW i j with q|q|q
  ·exact absurd e (nd i j ma r8 q)
  ·exact q
  ·exact absurd e.symm (nd j i r8 ma q)
 ·obtain⟨i,hi,e⟩:=bc (k3 s (by rw[hlen];exact hs));refine⟨i,by show i<B.rs.length;rw[<- hlen,<- k1];exact hi,?_⟩;unfold yD;simp only[List.getD,bo hi,bq];exact e
 ·have ma:i<(eC (mj B.NM F.cp) F.cp.length F.cp.length).length:=by rw[k1,hlen];exact hi
  have e1:yD B F i=(eC (mj B.NM F.cp) F.cp.length F.cp.length)[i]:=by
   unfold yD;simp only[List.getD,bo ma,bq]
  have hm':(true,m)∈mj B.NM F.cp (yD B F i):=hm;rw[e1] at hm';obtain⟨k,hk,Pe,e⟩:=k4 i ma m hm';refine⟨k,Pe,?_⟩;unfold yD;simp only[List.getD,bo hk,bq];exact e
 ·have sH:s<F.cp.length:=by rw[hlen];exact hs
  have:=Wt hS sH hm;rw[zL P.perm] at this;show m<((fh B.NM B.rs).map file).length;rw[bP];exact this
 ·show((fh B.NM B.rs).map file).length<=100000;rw[bP];have q1:=uF (lD (B.rs.map (·.out)) (DN B.NM B.rs) B.rs.length);have q2:=oM (B.rs.map (·.out)) (DN B.NM B.rs) B.rs.length (fun i hi=>by rw[nf hi];exact h.right.four _ (aG hi)) B.rs.length (ag _);have q3:=h.rules.gT;have:(fh B.NM B.rs).length<=(lD (B.rs.map (·.out)) (DN B.NM B.rs) B.rs.length).length:=q1;omega
 ·rw[pQ h.right P.perm hS file Vb bn Nb Mb ch hs];exact Fy h.right P.perm file hs
 ·have sH:s<F.cp.length:=by rw[hlen];exact hs
  show 1<=zH F.cp s/\zH F.cp s<=5;rw[NW sH];exact h.right.eR _ (P.perm.mem_iff.1 (aG sH))
 ·rw[pQ h.right P.perm hS file Vb bn Nb Mb ch hs];have sH:s<F.cp.length:=by rw[hlen];exact hs
  have q:∀t∈(mG B F file s).map (·.2),t.size<=100:=fun t ht=>by
   obtain⟨x,hx,rfl⟩:=List.mem_map.1 ht;obtain⟨y,-,rfl⟩:=List.mem_map.1 hx;exact Fv h.right.four py _ y
  have q2:=JQ q;have q3:((mG B F file s).map (·.2)).length<=4:=by
   rw[bP];unfold mG;rw[bP,nf sH];exact h.right.four _ (P.perm.mem_iff.1 (aG sH))
  omega
theorem Db{w w':ae}{bn Lb Lo St Rb Nb n:Nat}{out:Nat->af}{eR:Nat->Int}{ins:Nat->List (Bool×Nat)}{cM:Nat->Nat}{res:Nat->Kz.V}{jS:Nat->Bool}(h:pP w bn Lb Lo St Rb Nb n out eR ins cM res jS)(hz:w.heap.size<=w'.heap.size)(e:∀b,b=bn\/b=Lb\/b=St\/b=Rb\/b=Nb\/(∃s,s<n/\b=cM s)->w'.heap[b]?=w.heap[b]?):pP w' bn Lb Lo St Rb Nb n out eR ins cM res jS where
 b0:=(cell_of (e bn (.inl rfl))).trans h.b0
 b2:=(cell_of (e bn (.inl rfl))).trans h.b2
 b3:=(cell_of (e bn (.inl rfl))).trans h.b3
 st:=(cell_of (e Lb (.inr (.inl rfl)))).trans h.st
 steps:=jB h.steps (e St (.inr (.inr (.inl rfl)))) (fun s hs=>e _ (.inr (.inr (.inr (.inr (.inr ⟨s,hs,rfl⟩)))))) hz
 r2 s hs:=(cell_of (e Rb (.inr (.inr (.inr (.inl rfl)))))).trans (h.r2 s hs)
 r3 s hs:=(cell_of (e Rb (.inr (.inr (.inr (.inl rfl)))))).trans (h.r3 s hs)
 jS s hs:=(cell_of (e Nb (.inr (.inr (.inr (.inr (.inl rfl))))))).trans (h.jS s hs)
 lbn:=by have:=h.lbn;omega
 lLb:=by have:=h.lLb;omega
 lSt:=by have:=h.lSt;omega
 lRb:=by have:=h.lRb;omega
 lNb:=by have:=h.lNb;omega
def mH(old:Nat->Option (Nat×List V))(ins:Nat->List V)(s:Nat):Bool:=match old s with
 |none=>true
 |some (_,vs)=>!decide (vs=ins s)
theorem fL.built{B:vk}{lo:Nat}{F:cY}{old:Nat->Option (Nat×List V)}{file:af->V}{Vb bn Nb Mb:Nat}{ch:Nat->Nat}{o1 o2:aM}{w1 w2:ae}(hF:bM au L0 o w)(rO:bM au L0 o2 w2)(h:fL o w B (some (lo,F)) old)(nX:∀b,o b->o1 b)(hz:w.heap.size<=w1.heap.size)(hold:∀b,b<w.heap.size->w1.heap[b]?=w.heap[b]?)(Gh:w.heap.size<=Nb)(vC:∀s,s<B.rs.length->w.heap.size<=ch s)(Q:SW (zM B F file Vb bn Nb Mb ch) (lu B F file) old o1 w1 o2 w2):
  (∃ij,fL o2 w2 B (some (lo,F)) ij/\∀s,s<B.rs.length->∃b,ij s=some (b,mG B F file s)/\((∃vs,old s=some (b,vs))\/w.heap.size<=b))/\(∀b,b<w.heap.size->b≠B.Rb->w2.heap[b]?=w.heap[b]?) /\
   ∀s,s<B.rs.length->w2.cell? ⟨B.Rb,s*4+2,none⟩=some (.bool (lu B F file s).1)/\w2.cell? ⟨B.Rb,s*4+3,none⟩=some (.string (lu B F file s).2)/\w2.cell? ⟨Nb,s,none⟩=some (.bool (mH old (mG B F file) s)):=by
 obtain⟨y0,y1,y2,hb,hp⟩:=h.blk;have P:=hp lo F rfl;have hlen:=P.perm.length_eq;have hS:=uI (h.right.perm P.perm).nodup P.sorted;have lF:∀b,nB B (some (lo,F)) old b->o b:=h.own;have sm:∀b,b<w.heap.size->b≠B.Rb->w2.heap[b]?=w.heap[b]?:=fun b hb hn=>by
  rw[Q.same b aa hn (fun e=>by have e:b=Nb:=e;omega) (fun s hs e=>by have e:b=ch s:=e;have:=vC s hs;omega)];exact hold b hb
 have up:∀b,o b->o2 b:=fun b hb=>Q.more b (nX b hb);have lsp:=h.lo lo F rfl;obtain⟨a1,a2,a3,a4,a5,a6,a7⟩:=h.apart;have hRw:B.Rb<w.heap.size:=hF.lt (lF _ (.inr (.inr (.inl rfl))));have gw:B.bb<w.heap.size:=hF.lt (lF _ (.inl rfl));have run:∀s,∃b,s<B.rs.length->wb (zM B F file Vb bn Nb Mb ch) s w2 b (mG B F file s) (lu B F file s)/\eY w2 b (mG B F file s)/\o2 b/\B.Rb<b/\B.bb<b/\((∃vs,old s=some (b,vs))\/w.heap.size<=b):=fun s=>by
  by_cases hs:s<B.rs.length
  ·have q:=Q.runs s hs;rw[pQ h.right P.perm hS file Vb bn Nb Mb ch hs] at q;rcases q with⟨b,q1,q2,q3⟩|⟨q1,b,q2,q3,q4,q5⟩
   ·obtain⟨r1,r2,r3,r4⟩:=h.xa s b _ hs q1;have ga:=lF b (.inr (.inr (.inr (.inr (.inr (.inr ⟨s,_,hs,q1⟩))))));exact⟨b,fun _=>⟨q2,r1.of_block (sm b (hF.lt ga) aa),up b ga,r3,r4,.inl ⟨_,q1⟩⟩⟩
   ·have:=q2.2;exact⟨b,fun _=>⟨q4,q3,q2.1,aa,aa,.inr aa⟩⟩
  ·exact⟨0,fun e=>absurd e hs⟩
 obtain⟨f,hf⟩:∃f:Nat->Nat,∀s,s<B.rs.length->wb (zM B F file Vb bn Nb Mb ch) s w2 (f s) (mG B F file s) (lu B F file s)/\eY w2 (f s) (mG B F file s)/\o2 (f s)/\B.Rb<f s/\B.bb<f s/\((∃vs,old s=some (f s,vs))\/w.heap.size<=f s):=⟨fun s=>Classical.choose (run s),fun s=>Classical.choose_spec (run s)⟩;have l4:∀s,s<B.rs.length->(mG B F file s).length<=4:=fun s hs=>by
  have sH:s<F.cp.length:=aa;unfold mG;rw[bP,nf sH];exact h.right.four _ (P.perm.mem_iff.1 (aG sH))
 refine⟨⟨fun s=>some (f s,mG B F file s),⟨fun b hb=>?_,h.right,h.rules.keep up (sm _ (hF.lt (lF _ (.inr (.inl rfl)))) a6) fun r hr hn=>sm _ (hF.lt (lF _ (.inr (.inr (.inr (.inr (.inl ⟨r,hr,hn,rfl⟩))))))) (a7 r hr hn),h.apart,⟨y0,y1,y2,(sm _ gw fun e=>a2 e.symm).trans hb,fun Tu F' UB=>?_⟩,h.lo,(fun e=>by cases e),Q.R0,fun s hs r hr=>?_,fun s b vs hs ho=>?_,fun q hq=>?_⟩,fun s hs=>⟨f s,rfl,(hf s hs).2.2.2.2.2⟩⟩,sm,fun s hs=>?_⟩
 ·rcases hb with hb|hb|hb|hb|hb|hb|⟨s,vs,hs,ho⟩
  ·exact up _ (lF b (.inl hb))
  ·exact up _ (lF b (.inr (.inl hb)))
  ·exact up _ (lF b (.inr (.inr (.inl hb))))
  ·exact up _ (lF b (.inr (.inr (.inr (.inl hb)))))
  ·exact up _ (lF b (.inr (.inr (.inr (.inr (.inl hb))))))
  ·exact up _ (lF b (.inr (.inr (.inr (.inr (.inr (.inl hb)))))))
  ·cases ho;exact(hf s hs).2.2.1
 ·cases UB;exact P.keep (fun b hb=>up _ (P.own b hb)) (by have:=Q.size;omega) fun b hb=>sm b (hF.lt (P.own b hb)) (by have:=P.ge hb;omega)
 ·have UJ:=hr lo F rfl;obtain⟨q1,-⟩:=hf s hs;rw[UJ];have e:=Fy h.right P.perm file hs;refine⟨q1.c0,q1.c1,?_,?_⟩
  ·rw[<- e];exact q1.c2
  ·rw[<- e];exact q1.c3
 ·cases ho;obtain⟨-,q2,-,q4,q5,-⟩:=hf s hs;exact⟨q2,by have:=l4 s hs;omega,q4,q5⟩
 ·exact(cell_of (a:=⟨1,q,none⟩) (sm 1 (hF.lt (lF 1 (.inr (.inr (.inr (.inl rfl)))))) aa)).trans (h.pow q hq)
 ·obtain⟨q1,-⟩:=hf s hs;refine⟨q1.c2,q1.c3,?_⟩;have q:=Q.runs s hs;rw[pQ h.right P.perm hS file Vb bn Nb Mb ch hs] at q;rcases q with⟨b,q1,q2,q3⟩|⟨q1,b,q2,q3,q4,q5⟩
  ·have:mH old (mG B F file) s=false:=by simp[mH,q1]
   rw[this];exact q3
  ·have:mH old (mG B F file) s=true:=by
    unfold mH;cases ho:old s with
    |none=>rfl
    |some x =>
     obtain⟨b',vs⟩:=x;have:vs≠mG B F file s:=fun e=>q1 b' (by rw[ho,e]);simp[this]
   rw[this];exact q5
theorem NY[Payload](hF:bM au L0 o w)(B:vk)(lo:Nat)(F:cY)(old:Nat->Option (Nat×List V))(h:fL o w B (some (lo,F)) old)(file:af->V)(py:∀x,(file x).2.size<=100)(Vb nv:Nat)(Yg:o Vb)(hVr:Vb≠B.Rb)(hv:eY w Vb ((fh B.NM B.rs).map file))(hnv:nv=((fh B.NM B.rs).map file).length):
  bz au (XB au Fin 0) 42 #[.pointer (some ⟨B.bb,0,none⟩),.slice (some ⟨Vb,0,none⟩) nv nv] o w fun v o' w'=>∃R rv ij,v=.tuple #[.slice (some ⟨R,0,none⟩) B.rs.length B.rs.length,rv]/\bA (·=B.Rb) o w o' w'/\fL o' w' B (some (lo,F)) ij/\(∀s,s<B.rs.length->∃b,ij s=some (b,mG B F file s)/\((∃vs,old s=some (b,vs))\/w.heap.size<=b)) /\
   (w.heap.size<=R/\o' R/\w'.rowIs R 65 (B.rs.length*3) (gW (qH F.cp) (lu B F file) B.rs.length))/\ig w.heap.size (rG (qH F.cp) (mH old (mG B F file)) B.rs.length) rv w'/\Cl au L0 o' rv/\(∀g l c,rv=.slice (some ⟨g,0,none⟩) l c->o' g)/\∃mid,w.heap.size<=mid/\mid<=R/\(∀b,nB B (some (lo,F)) ij b->b<mid)/\∀g,rv.ownBlock=some g->mid<=g:=by
 have W:=bV (P:=au) (Fin:=Fin) (d:=0);refine bC W func42 ar ?_;walk_nrmf Tryz.f42;have ah7:=hnv.symm;clear hnv;have uG:=h.own B.bb (.inl rfl);have Jz:=h.own B.Rb (.inr (.inr (.inl rfl)));have hn8:=h.rules.gT;obtain⟨y0,y1,y2,hb,hp⟩:=h.blk;have P:=hp lo F rfl;have hb:w.heap[B.bb]?=some (KW (.slice B.p B.rs.length B.c) (.int .u32 1) (.int .i32 0) (.int .u32 0) y0 y1 y2 (.slice (some ⟨B.Rb,0,none⟩) B.rs.length B.rs.length)):=by simpa using hb
 have gw:=hF.lt uG;refine ax ?_;refine dQ mixed ah [some none,some none,some none,some (some (.pointer (some ⟨B.bb,4,none⟩))),some none,some none,some none,some none,some (some (.slice (some ⟨B.Rb,0,none⟩) B.rs.length B.rs.length)),none,some none]
  (S:=fun σ o' w'=>(σ 9=none/\bA (fun _=>False) o w o' w')\/(∃y,σ 9=some y/\∃o1 w1 bn Nb Mb ch,bA (fun _=>False) o w o1 w1/\y=.pointer (some ⟨bn,0,none⟩)/\jT o1 w1 (.pointer (some ⟨B.bb,4,none⟩)) (.slice (some ⟨Vb,0,none⟩) nv nv) (.slice (some ⟨B.Rb,0,none⟩) B.rs.length B.rs.length) B.rs.length bn Nb Mb ch B.rs.length o' w')) ?_ fun v=>?_
 ·exact .inl ⟨rfl,bA.refl hF⟩
 refine dP ?_;refine cC ?_;refine jP rfl rfl ar rfl func73 ah rfl (av:=#[.pointer (some ⟨B.bb,0,none⟩)]) aH (fun σ o' w' H hS=>?_) ?_
 ·rcases hS with⟨h9,hW⟩|⟨y,h9,-⟩
  ·refine(C3 hW.aF B.bb (hW.more _ uG) _ _ _ y0 y1 y2 _ ((hW.same _ gw id).trans hb)).mono ?_;rintro v' o2 w2 ⟨rfl,N⟩;exact⟨rfl,.inl ⟨h9,hW.trans (bA.eJ N)⟩⟩
  ·rw[H.xm 9 ah] at h9;cases h9
 refine cC ?_;refine cm bQ rfl rfl rfl ar ar (fun σ o' w' H hS=>?_) ?_
 ·rcases hS with⟨h9,hW⟩|⟨y,h9,-⟩
  ·have mf:=hW.more _ uG;refine⟨hW.aF,fun y hy=>?_,fun wl aT=>?_⟩
   ·simp[Op.operands] at hy;subst hy;simp[Act.eval];exact bU mf
   ·have c7:=(nR ((hW.same _ gw id).trans hb)).2.2.2.2.2.2.2.1;simp[go_sem,(aT.cell mf).trans c7]
  ·rw[H.xm 9 ah] at h9;cases h9
 walk_nrm;refine ve rfl rfl ar rfl func72 ah rfl (av:=#[.pointer (some ⟨B.bb,4,none⟩),.slice (some ⟨Vb,0,none⟩) nv nv,.slice (some ⟨B.Rb,0,none⟩) B.rs.length B.rs.length]) aH (fun σ o' w' H h9 hS=>?_) ?_
 ·rcases hS with⟨-,hW⟩|⟨y,h9',-⟩
  ·refine(Mw hW.aF B.bb 4 Vb nv B.Rb B.rs.length aa (hW.more _ uG) (hW.more _ Yg) (hW.more _ Jz)).mono ?_;rintro y o2 w2 ⟨bn,Nb,Mb,ch,rfl,N⟩;exact .inr ⟨_,by simp[fM],o',w',bn,Nb,Mb,ch,hW,rfl,N⟩
  ·rw[h9] at h9';cases h9'
 refine cC ?_;refine cB fun σ o2 w2 mn hS=>?_;rcases hS with⟨h9,-⟩|⟨y,h9,o1,w1,bn,Nb,Mb,ch,hW,rfl,N⟩
 ·rw[mn 9 eu rfl] at h9;cases h9
 have hv9:v 9=.pointer (some ⟨bn,0,none⟩):=by
  have:=mn 9 eu rfl;rw[h9] at this;exact(aQ this).symm
 rw[hv9];simp only[iH,dI,if_true,if_false,reduceIte,Nat.reduceEqDiff];refine ax ?_;have h1:=h.keep hW.more hW.size fun b hb=>hW.same b (hF.lt (h.own b hb)) id;have BA:=TB hW.aF h1 py (hW.more _ Yg) hVr (hv.of_block (hW.same _ (hF.lt Yg) id)) ah7.symm N;refine dA W rfl ar rfl func74 ah rfl (by simp[Act.eval];rfl) rfl ((PW N.aF BA).mono ?_);rintro v3 o3 w3 ⟨rfl,Q,px⟩;refine ax ?_;obtain⟨⟨ij,yU,pD⟩,sm,rr⟩:=h1.built hW.aF px (fun b hb=>by rw[N.own];exact .inl hb) N.size N.old N.nb.1 (fun s hs=>(N.pv s hs).1) Q;have aah:o2 bn:=by rw[N.own];exact .inr ⟨N.bn.1,N.bn.2.1⟩
 obtain⟨-,n1,n2,n3⟩:=BA.still bn (.inl rfl);have sB:w3.heap[bn]?=w2.heap[bn]?:=Q.same bn (N.aF.lt aah) n1 n2 n3;have c5:=C6 (sB.trans N.bn.2.2);obtain⟨z0,z1,z2,xn,hp3⟩:=yU.blk;have P3:=hp3 lo F rfl;have hlen:=P3.perm.length_eq;have oB:=P3.lay.val;simp only[Value.agg.injEq] at oB;have YU:z0=.slice (some ⟨F.St,0,none⟩) F.cp.length F.cp.length:=by have:=congrArg (fun a:Array Value=>a[0]?) oB;simpa using this
 have adU:=yU.own B.bb (.inl rfl);have adV:=yU.own B.Rb (.inr (.inr (.inl rfl)));have adW:o3 Nb:=Q.more _ (by rw[N.own];exact .inr ⟨N.nb.1,N.nb.2.1⟩);have TC:pP w3 bn B.bb 4 F.St B.Rb Nb B.rs.length (qH F.cp) (zH F.cp) (mj B.NM F.cp) F.cM (lu B F file) (mH old (mG B F file)) :=
  ⟨c5.1,c5.2.2.1,c5.2.2.2.1,by rw[(nR xn).2.2.2.2.1,YU,hlen],by rw[<- hlen];exact P3.lay.steps,fun s hs=>(rr s hs).1,fun s hs=>(rr s hs).2.1,fun s hs=>(rr s hs).2.2,px.lt (Q.more _ aah),px.lt adU,px.lt (P3.own _ (.inl rfl)),px.lt adV,px.lt adW⟩
 have rT:∀b,b=bn\/b=B.bb\/b=F.St\/b=B.Rb\/b=Nb\/(∃s,s<B.rs.length/\b=F.cM s)->o3 b:=by
  rintro b (rfl|rfl|rfl|rfl|rfl|⟨s,hs,rfl⟩)
  ·exact Q.more _ aah
  ·exact adU
  ·exact P3.own _ (.inl rfl)
  ·exact adV
  ·exact adW
  ·exact P3.own _ (.inr (.inr (.inl ⟨s,aa,rfl⟩)))
 refine cd func75 (Qn px bn B.bb 4 F.St B.Rb Nb B.rs.length _ _ _ _ _ _ aa TC rT) ?_;rintro v4 o4 w4 ⟨N4,rfl,z4,ah8⟩;refine ax ?_;have u4:∀b,o3 b->o4 b:=fun b hb=>by rw[N4.own];exact .inl hb
 have ah9:=Db TC N4.size fun b hb=>N4.old b (px.lt (rT b hb));refine cd func76 (Qo N4.aF bn B.bb 4 F.St B.Rb Nb B.rs.length _ _ _ _ _ _ aa ah9 (fun b hb=>u4 _ (rT b hb))) ?_;rintro v5 o5 w5 ⟨N5,t5⟩;refine ax ?_;have W4:bA (·=B.Rb) o3 w3 o4 w4:=bA.eJ N4;have W5:bA (·=B.Rb) o4 w4 o5 w5:=bA.eJ N5;have zQ:=Q.size;have zN:=N.size;have zW:=hW.size;have W3:bA (·=B.Rb) o w o3 w3:=by
  refine⟨px,fun b hb=>Q.more _ (by rw[N.own];exact .inl (hW.more _ hb)),fun b hb=>?_,aa,fun b hb hx=>?_⟩
  ·rcases Q.new b hb with q|q
   ·rw[N.own] at q;rcases q with q|q
    ·rcases hW.new b q with q|q
     ·exact .inl q
     ·exact .inr q
    ·exact .inr aa
   ·exact .inr aa
  ·rw[sm b aa hx];exact hW.same b hb id
 have W45:=W4.trans W5;refine⟨.inr trivial,trivial,_,resultsC_tmp2 (t:=4) (u:=5) ar _,w3.heap.size,v5,ij,aH,W3.trans W45,yU.keep W45.more W45.size fun b hb=>?_,fun s hs=>(pD s hs).imp fun b q=>⟨q.1,q.2.imp id fun e=>aa⟩,⟨aa,W5.more _ (by rw[N4.own];exact .inr ⟨ag _,z4⟩),World.rowIs.of_block ah8 (N5.old _ z4)⟩,ll t5 (by have:=N4.size;omega) (ag _) (fun _ _ _=>rfl),N5.cl,fun g l c e=>?_,w3.heap.size,aa,ag _,fun b hb=>px.lt (yU.own b hb),fun g hg=>?_⟩
 ·have hl:=px.lt (yU.own b hb);rw[N5.old b (by have:=N4.size;omega),N4.old b hl]
 ·rcases t5 with⟨q1,-⟩|⟨g',cap,q1,q2,q3,q4,q5⟩
  ·rw[q1] at e;cases e
  ·rw[q1] at e;cases e;rw[N5.own];exact .inr ⟨q3,q4⟩
 ·rcases t5 with⟨q1,-⟩|⟨g',cap,q1,q2,q3,q4,q5⟩
  ·rw[q1] at hg;cases hg
  ·rw[q1] at hg;have e:g'=g:=aQ hg;have:=N4.size;omega
end
def ng(w:ae)(r:Nat)(l:List (af×Value)):Prop:=∃es clock,w.heap[r]?=some (.map es clock)/\es.toList.map (fun e=>(e.key,e.val))=l.map fun p=>(Value.string p.1,p.2)
theorem ng.of_block{w w':ae}{r:Nat}{l:List (af×Value)}(h:ng w r l)(e:w'.heap[r]?=w.heap[r]?):ng w' r l:=by
 obtain⟨es,c,h1,h2⟩:=h;exact⟨es,c,e.trans h1,h2⟩
def eT{α:Type}:List (af×α)->af->Option α
 | [],_=>none
 | (k,v)::l,x=>if x=k then some v else eT l x
def gN{α:Type}:List (af×α)->af->α->List (af×α)
 | [],x,v=>[(x,v)]
 | (k,u)::l,x,v=>if x=k then(x,v)::l else(k,u)::gN l x v
def lT{α:Type}:List (af×α)->af->List (af×α)
 | [],_=>[]
 | (k,u)::l,x=>if x=k then l else(k,u)::lT l x
def sP:List (af×Value)->af->Nat->Option (Nat×Value)
 | [],_,_=>none
 | (k,v)::l,x,i=>if x=k then some (i,v) else sP l x (i+1)
theorem NZ(a b:af):(a==b)=decide (a=b):=by
 by_cases h:a=b
 ·rw[(MapKept.bytes_beq a b).2 h];simp[h]
 ·cases hb:(a==b) with
  |false=>simp[h]
  |true=>exact absurd ((MapKept.bytes_beq a b).1 hb) h
theorem rn(x:af):∀(es:List MapEntry) (l:List (af×Value)) (i:Nat),es.map (fun e=>(e.key,e.val))=l.map (fun p=>(Value.string p.1,p.2))->Instr.findNow .string (.string x) es i=some (sP l x i)
 | [],[],i,_=>rfl
 | [],_::_,i,h=>by simp at h
 |_::_,[],i,h=>by simp at h
 |e::es,(k,v)::l,i,h=>by
  simp only[aA,cv,bt] at h;obtain⟨⟨h1,h2⟩,h3⟩:=h;unfold Instr.findNow;rw[h1];simp only[Instr.sameNow,NZ];by_cases hx:x=k
  ·subst hx;simp[sP,h2]
  ·simp only[sP,if_neg hx,decide_eq_false hx];exact rn x es l (i+1) h3
theorem JU(x:af):∀(l:List (af×Value)) (i:Nat),(sP l x i).map (·.2)=eT l x
 | [],i=>rfl
 | (k,v)::l,i=>by
  by_cases hx:x=k
  ·simp[sP,eT,hx]
  ·simp only[sP,eT,if_neg hx];exact JU x l (i+1)
theorem yE{x:af}{v:Value}:∀{l:List (af×Value)} {i j:Nat} {u:Value},sP l x i=some (j,u)->i<=j/\j<i+l.length/\gN l x v=l.set (j-i) (x,v)/\(l.map (·.1))[j-i]?=some x
 | [],i,j,u,h=>by cases h
 | (k,w)::l,i,j,u,h=>by
  by_cases hx:x=k
  ·simp only[sP,if_pos hx,ay,bt] at h;obtain⟨rfl,rfl⟩:=h;simp[gN,hx]
  ·simp only[sP,if_neg hx] at h;obtain⟨h1,h2,h3,h4⟩:=yE (v:=v) h;have e:j-i=(j-(i+1))+1:=aa;refine⟨aa,dV,?_,?_⟩
   ·rw[e];simp[gN,if_neg hx,h3]
   ·rw[e];simpa using h4
theorem JV{x:af}:∀{l:List (af×Value)} {i j:Nat} {u:Value},sP l x i=some (j,u)->lT l x=l.eraseIdx (j-i)
 | [],i,j,u,h=>by cases h
 | (k,w)::l,i,j,u,h=>by
  by_cases hx:x=k
  ·simp only[sP,if_pos hx,ay,bt] at h;obtain⟨rfl,rfl⟩:=h;simp[lT,hx]
  ·simp only[sP,if_neg hx] at h;have h1:=(yE (v:=u) h).1;have e:j-i=(j-(i+1))+1:=aa;rw[e];simp only[lT,if_neg hx,List.eraseIdx_cons_succ];rw[JV h]
theorem zO{x:af}{v:Value}:∀{l:List (af×Value)} {i:Nat},sP l x i=none->gN l x v=l++[(x,v)]/\lT l x=l
 | [],i,h=>by simp[gN,lT]
 | (k,w)::l,i,h=>by
  by_cases hx:x=k
  ·simp[sP,if_pos hx] at h
  ·simp only[sP,if_neg hx] at h;obtain⟨h1,h2⟩:=zO (v:=v) h;simp[gN,lT,if_neg hx,h1,h2]
section
variable {P:Program} {w:ae} {r:Nat} {l:List (af×Value)} {x:af} {mt kt et:TypeId}
theorem Az(hm:P.underlying mt=some (.map kt et))(hk:P.underlying kt=some .string)(h:ng w r l){z:Value}(hz:(zeroValue et).run P w=.ok z w):(Instr.lookup mt (.map (some r)) (.string x) false).run P w=.ok ((eT l x).getD z) w:=by
 obtain⟨es,c,h1,h2⟩:=h;have hf:=rn x es.toList l 0 h2;have hc:∀e,(Instr.checkKey e 10000 kt (.string x)).run P w=.ok () w:=fun e=>MapKept.run_checkKey (k:=.string x) hk (by simp[MapKept.IsKey]) e 9999;rw[<- JU x l 0];cases hi:sP l x 0 with
 |none =>
  rw[hi] at hf;simp[Instr.lookup,run_underlying hm,MapKept.run_getObj_map h1,hc,MapKept.run_findKey hk hf,Result.andThen,hz]
 |some q =>
  rw[hi] at hf;simp[Instr.lookup,run_underlying hm,MapKept.run_getObj_map h1,hc,MapKept.run_findKey hk hf,Result.andThen]
def qw(w:ae)(r:Nat)(x:Obj):ae:={w with heap:=w.heap.setIfInBounds r x}
theorem oQ(hm:P.underlying mt=some (.map kt et))(hk:P.underlying kt=some .string)(h:ng w r l)(v:Value):∃X,(Instr.mapUpdate mt (.map (some r)) (.string x) v).run P w=.ok () (qw w r X)/\ng (qw w r X) r (gN l x v):=by
 obtain⟨es,c,h1,h2⟩:=h;have hf:=rn x es.toList l 0 h2;have hc:∀e,(Instr.checkKey e 10000 kt (.string x)).run P w=.ok () w:=fun e=>MapKept.run_checkKey (k:=.string x) hk (by simp[MapKept.IsKey]) e 9999;have cy:r<w.heap.size:=(Array.getElem?_eq_some_iff.1 h1).1;have pg:∀X,(qw w r X).heap[r]?=some X:=fun X=>by simp[qw,cy]
 cases hi:sP l x 0 with
 |none =>
  rw[hi] at hf;refine⟨_,by simp[Instr.mapUpdate,run_underlying hm,MapKept.run_getObj_map h1,hc,MapKept.run_findKey hk hf,MapKept.run_setObj_map _ h1,Result.andThen];rfl,_,_,pg _,?_⟩;rw[(zO (v:=v) hi).1];simp[h2]
 |some q =>
  obtain⟨j,u⟩:=q;rw[hi] at hf;obtain⟨-,hj,hp,RQ⟩:=yE (v:=v) hi;rw[Nat.sub_zero] at hp RQ;have hlen:es.size=l.length:=by simpa using congrArg List.length h2
  have r8:j<es.size:=aa;have aib:es[j].key=.string x:=by
   have:=congrArg (fun q=>q[j]?) h2;simp only[List.getElem?_map,Array.getElem?_toList,Array.getElem?_eq_getElem r8,aJ] at this;cases hl:l[j]? with
   |none=>rw[hl] at this;cases this
   |some q =>
    rw[hl] at this;rw[eE,hl] at RQ;simp at this RQ;rw[this.1,RQ]
  have XN:Instr.sameBits 10000 (.string x) (.string x)=true:=by
   unfold Instr.sameBits;rw[NZ];simp
  refine⟨_,by simp[Instr.mapUpdate,run_underlying hm,MapKept.run_getObj_map h1,hc,MapKept.run_findKey hk hf,MapKept.run_setObj_map _ h1,Result.andThen,Instr.keyThatStays,r8,aib,XN];rfl,_,_,pg _,?_⟩;rw[hp];apply fV;intro k;have RH:=congrArg (fun q=>q[k]?) h2;simp only[List.getElem?_map,Array.getElem?_toList] at RH |-;rw[aR];by_cases e:j=k
  ·subst e;simp[Array.getElem?_eq_getElem r8,show j<l.length by omega]
  ·rw[if_neg e,List.getElem?_set_ne e];exact RH
theorem JW(hm:P.underlying mt=some (.map kt et))(hk:P.underlying kt=some .string)(h:ng w r l)(ty:TypeId):∃X,(Builtin.delete_ #[mt,kt] ty #[.map (some r),.string x]).run P w=.ok (.tuple #[]) (qw w r X)/\ng (qw w r X) r (lT l x):=by
 obtain⟨es,c,h1,h2⟩:=h;have hf:=rn x es.toList l 0 h2;have hc:∀e,(Instr.checkKey e 10000 kt (.string x)).run P w=.ok () w:=fun e=>MapKept.run_checkKey (k:=.string x) hk (by simp[MapKept.IsKey]) e 9999;have cy:r<w.heap.size:=(Array.getElem?_eq_some_iff.1 h1).1;have pg:∀X,(qw w r X).heap[r]?=some X:=fun X=>by simp[qw,cy]
 cases hi:sP l x 0 with
 |none =>
  rw[hi] at hf;refine⟨_,by simp[Builtin.delete_,run_underlying hm,MapKept.run_getObj_map h1,hc,MapKept.run_findKey hk hf,MapKept.run_setObj_map _ h1,Result.andThen];rfl,_,_,pg _,?_⟩;rw[(zO (v:=.bool true) hi).2];exact h2
 |some q =>
  obtain⟨j,u⟩:=q;rw[hi] at hf;refine⟨_,by simp[Builtin.delete_,run_underlying hm,MapKept.run_getObj_map h1,hc,MapKept.run_findKey hk hf,MapKept.run_setObj_map _ h1,Result.andThen];rfl,_,_,pg _,?_⟩;have hd:=JV hi;rw[Nat.sub_zero] at hd;rw[hd];have hlen:es.size=l.length:=by simpa using congrArg List.length h2
  have r8:j<es.size:=by have:=(yE (v:=u) hi).2.1;omega
  simp only[Array.eraseIdxIfInBounds,r8,dif_pos];rw[Array.toList_eraseIdx];have em:∀{α β:Type} (f:α->β) (l:List α) (j:Nat),(l.eraseIdx j).map f=(l.map f).eraseIdx j:=fun f l j=>by
   induction l generalizing j with
   |nil=>rfl
   |cons a l ih=>cases j with
    |zero=>rfl
    |succ j=>simp[ih]
  rw[em,em,h2]
theorem Wv(h:ng w r l):∃es c,w.heap[r]?=some (.map es c)/\es.size=l.length:=by
 obtain⟨es,c,h1,h2⟩:=h;exact⟨es,c,h1,by simpa using congrArg List.length h2⟩
end
def sj{α:Type}(f:α->Value)(l:List (af×α)):List (af×Value):=l.map fun p=>(p.1,f p.2)
theorem GW{α:Type}(f:α->Value)(x:af):∀l:List (af×α),eT (sj f l) x=(eT l x).map f
 | []=>rfl
 | (k,v)::l=>by
  have:=GW f x l;simp only[sj,aA,eT] at this |-;split
  ·rfl
  ·exact this
theorem vm{α:Type}(f:α->Value)(x:af)(v:α):∀l:List (af×α),gN (sj f l) x (f v)=sj f (gN l x v)
 | []=>rfl
 | (k,u)::l=>by
  have:=vm f x v l;simp only[sj,aA,gN] at this |-;split
  ·rfl
  ·rw[this];rfl
theorem N6{α:Type}(f:α->Value)(x:af):∀l:List (af×α),lT (sj f l) x=sj f (lT l x)
 | []=>rfl
 | (k,u)::l=>by
  have:=N6 f x l;simp only[sj,aA,lT] at this |-;split
  ·rfl
  ·rw[this];rfl
theorem Ww{α:Type}(f:α->Value)(l:List (af×α)):(sj f l).length=l.length:=by simp[sj]
theorem yF{P:Program}(W:ae)(base:Nat)(t ty e:TypeId)(i:TypeInfo)(z:Value)(size bytes:Nat)(ht:P.underlying t=some (.slice e))(hi:P.info? e=some i)(hz:i.zero=some z)(qX:i.size=size)(hby:i.bytes=bytes)(v:Value)(n:Nat)(xs:List Value)(fq:W.ownsRow base e size v n xs)(a:Addr)(c:Nat)(news:List Value)(hl:news.length=1*size)(Jx:∀j u,news[j]?=some u->W.cell? (a.add j)=some u)(h1:∀u∈news,u.oneCell'=true)(h63:n<=100000)(aai:(n+1)*bytes<=140737488355328){v':Value}{W':ae}(hr:(Builtin.append_ #[t,t] ty #[v,.slice (some a) 1 c]).run P W=.ok v' W'):v'.ownBlock=v.ownBlock\/v'.ownBlock=some W.heap.size:=by
 subst qX hby;rcases fq.2 with⟨rfl,rfl⟩|⟨g,cap,cur,rfl,hbg,hg,hnc,hcm,OX,ak0⟩
 ·have h:=run_append_nil (P:=P) W t ty e i z ht hi hz a 1 c news hl Jx aa aa aa;rw[hr] at h;injection h with h _;rw[h];exact .inr rfl
 ·by_cases Yi:n+1<=cap
  ·have aic:n*i.size+news.length<=cur.size:=by rw[hl,OX,<- Nat.add_mul];exact iQ _ Yi
   have h:=run_append_room (P:=P) W t ty e i ht hi g n cap cur hg a 1 c news hl Jx h1 Yi aic;rw[hr] at h;injection h with h _;rw[h];exact .inl rfl
  ·have h:=run_append_grow (P:=P) W t ty e i z ht hi hz ⟨g,0,none⟩ n cap xs fq.1 (fq.cells (g:=g) rfl) a 1 c news hl Jx aa aa (growslice_fits aa aai);rw[hr] at h;injection h with h _;rw[h];exact .inr rfl
theorem JX{P:Program}{L:Nat->Bool}{o:aM}{w:ae}(hF:bM P L o w){g:Nat}(hg:¬o g):∃f:Rn,(mF P L o).has f/\f.b g≠g:=by
 obtain⟨g',Am,dH,hG'⟩:∃g',¬o g'/\g'≠g/\P.globals.size<=g':=⟨g+w.heap.size+P.globals.size+1,fun h=>by have:=hF.lt h;omega,aa,aa⟩;have hG:P.globals.size<=g:=de fun h=>hg (hF.kp g h);refine⟨⟨fun x=>if x=g then g' else if x=g' then g else x,id,id,id⟩,⟨fun x y h=>?_,fun r hr=>?_,fun _ _=>rfl,fun r=>?_⟩,by simp;exact dH⟩
 ·simp only at h;by_cases h1:x=g<;>by_cases h2:y=g<;>by_cases h3:x=g'<;>by_cases h4:y=g'<;>simp_all
 ·have h1:r≠g:=fun e=>hg (e▸hr);have h2:r≠g':=fun e=>Am (e▸hr);simp[h1,h2,mF]
 ·simp only[mF];by_cases h1:r=g
  ·simp[h1];omega
  ·by_cases h2:r=g'
   ·simp[h1,h2,dH];omega
   ·simp[h1,h2]
theorem GX{P:Program}{L:Nat->Bool}{o:aM}{w:ae}(hF:bM P L o w){g off l c:Nat}(h:Cl P L o (.slice (some ⟨g,off,none⟩) l c)):o g:=aZ fun hg=>by
 obtain⟨f,hf,dH⟩:=JX hF hg;have:=h f hf;simp only[val,aJ,addr,Value.slice.injEq,ay,Addr.mk.injEq] at this;exact dH this.1.1
section
variable {Fin:bK} {o:aM} {w:ae}
theorem Wx(hF:bM au L0 o w)(K off n c:Nat)(p:Option Addr)(lost:Bool)(hK:o K)(h0:w.cell? ⟨K,off,none⟩=some (.slice p n c))(h1:w.cell? ⟨K,off+1,none⟩=some (.bool lost)):
  bz au (XB au Fin 0) 103 #[.pointer (some ⟨K,off,none⟩)] o w fun v o' w'=>v=.bool (decide (0<n)||lost)/\o'=o/\w'=w:=by
 have W:=bV (P:=au) (Fin:=Fin) (d:=0);refine bC W func103 ar ?_;walk_nrmf Tryz.f103;refine ax ?_;refine lh hF hK h0 fun _=>?_;walk_nrm;rcases bg n with hn|hn
 ·subst hn;refine ax ?_;refine lh hF hK h1 fun _=>?_;refine ax ?_;exact⟨.inr trivial,trivial,_,resultsC_tmp (t:=2) ar _,aH⟩
 ·have hnI:(0:Int)<(n:Int):=aa;refine ax ?_;exact⟨.inr trivial,trivial,_,resultsC_tmp (t:=2) ar _,by simp[Act.eval,hn]⟩
theorem Wy(hF:bM au L0 o w)(K off t n:Nat)(g:Nat->Value)(hK:o K)(hr:w.rowIs K t n g)(hn:off+1<n):
  bz au (XB au Fin 0) 104 #[.pointer (some ⟨K,off,none⟩)] o w fun v o' w'=>v=.tuple #[]/\o'=o/\bM au L0 o w'/\eI K w w'/\w'.rowIs K t n (fun j=>if j=off+1 then .bool false else if j=off then .slice none 0 0 else g j):=by
 have W:=bV (P:=au) (Fin:=Fin) (d:=0);refine bC W func104 ar ?_;walk_nrmf Tryz.f104;refine ax ?_;refine du bQ hF rfl ar ar ?_ rfl (R:=fun wl aV=>aV=(wl.setCell ⟨K,off,none⟩ (.slice none 0 0)).setCell ⟨K,off+1,none⟩ (.bool false)) (fun wl aT=>⟨_,?_,rfl⟩) fun wl aV w9 aT hR bN=>?_
 ·refine iV ?_ ?_
  ·exact bU hK
  ·exact fS (vs:=[_,_]) (fun x hx=>by
    simp at hx;rcases hx with rfl|rfl
    ·exact iP
    ·exact mR)
 ·have rl:=World.rowIs.of_block hr (aT.heap K hK);have e0:=rl.cell (i:=off) aa;have e1:=rl.cell (i:=off+1) hn;have f:=rl.frozen;simp[go_sem,e0,e1,f]
 have hO:eI K wl aV:=by rw[hR];exact Aw _ _ _ _ _ _
 obtain⟨lO,oe,e9⟩:=bN.only aT hK hO;have ml:=bN.aF;rw[e9] at ml |-;refine ax ?_;refine⟨.inl trivial,trivial,.tuple #[],fun w1=>results_none ah _ _,aj,aj,ml,lO,?_⟩;rw[hR] at oe;exact World.rowIs.of_block (((World.rowIs.of_block hr (aT.heap K hK)).set off _).set (off+1) _) oe
theorem MB(hF:bM au L0 o w)(b c:Nat)(p:Option Addr)(ts:List af)(x:af)(hn:ts.length<=100000)(hq:ts≠[]->p=some ⟨b,0,none⟩/\o b)(ht:fy w b 0 ts)(hc:Cl au L0 o (.slice p ts.length c)):
  bz au (XB au Fin 0) 80 #[.slice p ts.length c,.string x] o w fun v o' w'=>v=.bool (Lib.containsS ts x)/\fT o w v o' w':=by
 refine bz.mono (eD ah hF (fun y hy=>by simp at hy;rcases hy with rfl|rfl;exact hc;exact bS) (Q:=fun wl v w'=>v=.bool (Lib.containsS ts x)) (fun wl A1 v w1 w2 e1 e2 h=>h) (fun wl hz aT=>?_)) (fun v o' w' hq=>⟨hq.2.choose_spec.choose_spec.2.2.2,hq.1⟩);by_cases dH:ts=[]
 ·subst dH;refine(Tryz.slices_Contains_string_empty p c x wl).mono fun e w' hq=>?_;obtain⟨rfl,rfl⟩:=hq;refine⟨_,rfl,ag _,fun _ _=>rfl,?_⟩;cases hx:Lib.containsS [] x with
  |false=>rfl
  |true=>have:=(Lib.containsS_iff [] x).1 hx;cases this
 ·obtain⟨rfl,hb⟩:=hq dH;refine(yy b c ts x wl hn (dc ht (aT b hb))).mono fun e w' hq=>?_;obtain⟨rfl,rfl⟩:=hq;exact⟨_,rfl,ag _,fun _ _=>rfl,rfl⟩
structure Qs(o:aM)(w:ae)(v:Value)(ts:List af):Prop where
 row:∃lo,lo<=w.heap.size/\w.ownsRow lo 9 1 v ts.length (ts.map .string)
 cl:Cl au L0 o v
theorem Qs.view{v:Value}{ts:List af}(h:Qs o w v ts)(hF:bM au L0 o w):∃p b c,v=.slice p ts.length c/\(p=none->ts=[])/\(ts≠[]->p=some ⟨b,0,none⟩/\o b)/\fy w b 0 ts/\(∀g,v.ownBlock=some g->o g):=by
 obtain⟨lo,vF,cj⟩:=h.row;have ht:=uH cj (fun _ _ _=>rfl) rfl;rcases ht with⟨q1,q2⟩|⟨g,cap,q1,q2,q3,q4,q5⟩
 ·exact⟨none,0,0,by rw[q1,q2];rfl,fun _=>q2,fun dH=>absurd q2 dH,fun k hk=>by rw[q2] at hk;simp at hk,fun g hg=>by rw[q1] at hg;cases hg⟩
 ·have hc:=h.cl;rw[q1] at hc;have hg:=GX hF hc;exact⟨_,g,cap,q1,(fun e=>by cases e),fun _=>⟨rfl,hg⟩,q5,fun g' Am=>by rw[q1] at Am;cases Am;exact hg⟩
theorem Qs.keep{v:Value}{ts:List af}{o':aM}{w':ae}(h:Qs o w v ts)(nX:∀b,o b->o' b)(hz:w.heap.size<=w'.heap.size)(e:∀g,v.ownBlock=some g->w'.heap[g]?=w.heap[g]?):Qs o' w' v ts:=by
 obtain⟨lo,vF,cj⟩:=h.row;exact⟨⟨lo,aa,dD cj fun g hg _=>e g hg.symm⟩,h.cl.up nX⟩
def jC(ts:List af)(lost:Bool)(x:af):List af×Bool:=if Lib.containsS ts x then(ts,lost) else if 4<=ts.length then(ts,true) else(ts++[x],lost)
theorem Yj(hF:bM au L0 o w)(K off t n:Nat)(g:Nat->Value)(qv:Value)(ts:List af)(lost:Bool)(x:af)(hK:o K)(hQ:Qs o w qv ts)(dH:qv.ownBlock≠some K)(hr:w.rowIs K t n g)(hn:off+1<n)(h0:g off=qv)(h1:g (off+1)=.bool lost)(hl:ts.length<=1000):
  bz au (XB au Fin 0) 48 #[.pointer (some ⟨K,off,none⟩),.string x] o w fun v o' w'=>v=.tuple #[]/\bA (fun b=>b=K\/qv.ownBlock=some b) o w o' w'/\∃qJ,Qs o' w' qJ (jC ts lost x).1/\(∀b,qJ.ownBlock=some b->b≠K/\(qv.ownBlock=some b\/w.heap.size<=b))/\w'.rowIs K t n (fun j=>if j=off+1 then .bool (jC ts lost x).2 else if j=off then qJ else g j):=by
 have W:=bV (P:=au) (Fin:=Fin) (d:=0);refine bC W func48 ar ?_;walk_nrmf Tryz.f48;obtain⟨p,b,c,rfl,v1,v2,v3,v4⟩:=hQ.view hF;have hKw:=hF.lt hK;have cell0:∀{w':ae},w'.rowIs K t n g->w'.cell? ⟨K,off,none⟩=some (.slice p ts.length c):=fun h=>by rw[h.cell aa,h0]
 refine ax ?_;refine lh (v:=.slice p ts.length c) hF hK (cell0 hr) fun _=>?_;refine ax ?_;refine cd func80 (MB hF b c p ts x aa v2 v3 hQ.cl) ?_;rintro v3' o3 w3 ⟨rfl,N3⟩;have W3:bA (fun b=>b=K\/(Value.slice p ts.length c).ownBlock=some b) o w o3 w3:=bA.eJ N3;have Wz:=W3.more _ hK;have Eg:=World.rowIs.of_block hr (N3.old K hKw);have hQ3:Qs o3 w3 (.slice p ts.length c) ts:=hQ.keep W3.more W3.size fun g hg=>N3.old g (hF.lt (v4 g hg));cases hcx:Lib.containsS ts x with
 |true =>
  refine ax ?_;have Yk:jC ts lost x=(ts,lost):=by simp[jC,hcx]
  refine⟨.inr trivial,trivial,.tuple #[],fun w1=>results_none ah _ _,aj,W3,_,by rw[Yk];exact hQ3,fun g hg=>⟨fun e=>dH (by rw[hg,e]),.inl hg⟩,?_⟩;rw[Yk];refine Eg.congr fun j _=>?_;by_cases e1:j=off+1
  ·rw[if_pos e1,e1,h1]
  ·by_cases e0:j=off
   ·rw[if_neg e1,if_pos e0,e0,h0]
   ·rw[if_neg e1,if_neg e0]
 |false =>
  refine ax ?_;refine lh (v:=.slice p ts.length c) W3.aF Wz (cell0 Eg) fun _=>?_;walk_nrm;by_cases h4:4<=ts.length
  ·have hlI:(4:Int)<=(ts.length:Int):=aa;refine ax ?_;have Yk:jC ts lost x=(ts,true):=by simp[jC,hcx,h4]
   refine du bQ W3.aF rfl ar ar ?_ rfl (R:=fun wl aV=>aV=wl.setCell ⟨K,off+1,none⟩ (.bool true)) (fun wl aT=>⟨_,?_,rfl⟩) fun wl aV w9 aT hR bN=>?_
   ·exact iV (bU Wz) mR
   ·have rl:=World.rowIs.of_block Eg (aT.heap K Wz);have e1:=rl.cell (i:=off+1) hn;rw[h1] at e1;have f:=rl.frozen;simp[go_sem,e1,f]
   have hO:eI K wl aV:=by rw[hR];exact iZ _ _ _ _
   obtain⟨lO,oe,e9⟩:=bN.only aT Wz hO;have ml:=bN.aF;rw[e9] at ml |-;refine ax ?_;have W9:bA (fun b=>b=K\/(Value.slice p ts.length c).ownBlock=some b) o3 w3 o3 w9:=⟨ml,fun _ h=>h,fun _ h=>.inl h,bG lO.1.symm,fun b _ hb=>lO.2 b fun e=>hb (.inl e)⟩;refine⟨.inr trivial,trivial,.tuple #[],fun w1=>results_none ah _ _,aj,W3.trans W9,_,by rw[Yk];exact hQ3.keep (fun _ h=>h) (bG lO.1.symm) (fun g hg=>lO.2 g fun e=>dH (by rw[hg,e])),fun g hg=>⟨fun e=>dH (by rw[hg,e]),.inl hg⟩,?_⟩;rw[hR] at oe;rw[Yk];refine World.rowIs.of_block (((World.rowIs.of_block Eg (aT.heap K Wz)).set (off+1) _).congr fun j _=>?_) oe;by_cases e1:j=off+1
   ·rw[if_pos e1,if_pos e1]
   ·by_cases e0:j=off
    ·rw[if_neg e1,if_neg e1,if_pos e0,e0,h0]
    ·rw[if_neg e1,if_neg e1,if_neg e0]
  ·have hlI:¬(4:Int)<=(ts.length:Int):=aa;refine ax ?_;have Yk:jC ts lost x=(ts++[x],lost):=by simp[jC,hcx,h4]
   refine lh (v:=.slice p ts.length c) W3.aF Wz (cell0 Eg) fun _=>?_;refine ax ?_;refine dt bQ W3.aF rfl ar ar ?_ rfl (R:=fun wl v aV=>v=.slice (some ⟨wl.heap.size,0,none⟩) 1 1/\aV=wl.alloc (.cells #[.string x] 9)) (fun wl aT=>⟨_,_,fP,rfl,rfl⟩) fun wl v5 aV w5 aT ZW bN=>?_
   ·exact mU bS
   obtain⟨rfl,ZW⟩:=ZW;obtain⟨z5,k5,MC⟩:=bN.alloc W3.aF aT ZW;have Fo:=bN.aF;rw[aT.size];clear ZW bN aT wl aV;walk_nrm;have u5:∀b,o3 b->grow o3 w3 w5 b:=fun b hb=>.inl hb;have wZ:grow o3 w3 w5 w3.heap.size:=.inr ⟨ag _,aa⟩;have hQ5:Qs (grow o3 w3 w5) w5 (.slice p ts.length c) ts:=hQ3.keep u5 aa fun g hg=>k5 g (W3.aF.lt (W3.more _ (v4 g hg)));obtain⟨lo,vF,cj⟩:=hQ5.row;refine dt bQ Fo rfl ar ar ?_ rfl (R:=fun wl v aV=>aV.ownsRow lo 9 1 v (ts++[x]).length ((ts++[x]).map .string)/\wl.grownBy aV (Value.slice p ts.length c).ownBlock/\(v.ownBlock=(Value.slice p ts.length c).ownBlock\/v.ownBlock=some wl.heap.size)) (fun wl aT=>?_) fun wl v6 aV w6 aT hR6 bN=>?_
   ·intro y hy;simp[Op.operands,Call.operands] at hy;rcases hy with rfl|rfl
    ·simp[Act.eval];exact hQ5.cl
    ·simp[Act.eval];exact dY wZ
   ·obtain⟨v',W',e1,e2,e3⟩:=qt wl lo (.slice p ts.length c) ts x w3.heap.size (dD cj fun g hg _=>aT.heap g (u5 _ (W3.more _ (v4 g hg.symm)))) aa (by rw[aT.size];exact vF) ((CZ ((aT.heap _ wZ).trans MC)).1);refine⟨v',W',jA (.tmp 23) (.tmp 25) 40 rfl aH aH e1,e2,e3,?_⟩;obtain⟨i,hi,od⟩:=Option.map_eq_some_iff.1 qo;simp only[bt] at od;refine yF wl lo 40 40 9 i _ 1 16 underlying40 hi od.1 od.2.1 od.2.2 _ ts.length (ts.map .string) (dD cj fun g hg _=>aT.heap g (u5 _ (W3.more _ (v4 g hg.symm)))) ⟨w3.heap.size,0,none⟩ 1 [.string x] rfl (fun j u hj=>?_) (by simp;rfl) aa aa e1;cases j with
    |zero=>simp at hj;subst hj;simpa[Addr.add] using(CZ ((aT.heap _ wZ).trans MC)).1
    |succ j=>simp at hj
   obtain⟨N9,D9,Yl⟩:=hR6;rw[aT.size] at Yl;have Eh:=bN.aF;have aaj:Cl au L0 (grow (grow o3 w3 w5) w5 w6) v6:=bN.val;have z6:=bN.jj;have adY:∀b,b<w5.heap.size->(Value.slice p ts.length c).ownBlock≠some b->w6.heap[b]?=w5.heap[b]?:=fun b hb UO=>by
    by_cases ho:grow o3 w3 w5 b
    ·rw[bN.same b (.inl ho),D9.block b (by rw[aT.size];exact hb) (fun e=>UO e.symm),aT.heap b ho]
    ·exact bN.rest b hb ho
   have JY:∀b,v6.ownBlock=some b->grow (grow o3 w3 w5) w5 w6 b:=fun b hb=>by
    obtain⟨-,fX⟩:=N9;rcases fX with⟨rfl,-⟩|⟨g',cap,cur,rfl,-⟩
    ·cases hb
    ·cases hb;exact GX Eh aaj
   have Jn:w6.ownsRow lo 9 1 v6 (ts++[x]).length ((ts++[x]).map .string):=dD N9 fun b hb _=>bN.same b (JY b hb.symm);have hv6:∃q l cc,v6=.slice q l cc:=by
    obtain⟨-,fX⟩:=N9;rcases fX with⟨rfl,-⟩|⟨g',cap,cur,rfl,-⟩
    ·exact⟨_,_,_,rfl⟩
    ·exact⟨_,_,_,rfl⟩
   have Ym:∀b,v6.ownBlock=some b->b≠K/\((Value.slice p ts.length c).ownBlock=some b\/w.heap.size<=b):=fun b hb=>by
    have zz:=W3.size;have hKl:=W3.aF.lt Wz;rcases Yl with e|e
    ·rw[hb] at e;exact⟨fun q=>dH (by rw[<- e,q]),.inl e.symm⟩
    ·rw[hb] at e;have e:=aQ e;exact⟨aa,.inr aa⟩
   clear D9 N9 bN aT wl aV;refine ax ?_;have hK6:grow (grow o3 w3 w5) w5 w6 K:=.inl (.inl Wz);have aie:=W3.aF.lt Wz;have PN:w6.rowIs K t n g:=World.rowIs.of_block Eg ((adY K aa dH).trans (k5 K aie));obtain⟨q6,l6,c6,rfl⟩:=hv6;refine du bQ Eh rfl ar ar ?_ rfl (R:=fun wl aV=>aV=wl.setCell ⟨K,off,none⟩ (.slice q6 l6 c6)) (fun wl aT=>⟨_,?_,rfl⟩) fun wl aV w9 aT hR bN=>?_
   ·refine iV ?_ ?_
    ·exact bU hK6
    ·exact aaj
   ·have rl:=World.rowIs.of_block PN (aT.heap K hK6);have e1:=cell0 rl;have f:=rl.frozen;simp[go_sem,e1,f]
   have hO:eI K wl aV:=by rw[hR];exact iZ _ _ _ _
   obtain⟨lO,oe,e9⟩:=bN.only aT hK6 hO;have ml:=bN.aF;rw[e9] at ml |-;refine ax ?_;have W9:bA (fun b=>b=K\/(Value.slice p ts.length c).ownBlock=some b) o3 w3 (grow (grow o3 w3 w5) w5 w6) w9:=by
    refine⟨ml,fun b hb=>.inl (.inl hb),fun b hb=>?_,by rw[lO.1];omega,fun b hb hx=>?_⟩
    ·rcases hb with(hb|hb)|hb
     ·exact .inl hb
     ·exact .inr hb.1
     ·exact .inr aa
    ·rw[lO.2 b fun e=>hx (.inl e),adY b aa fun e=>hx (.inr e),k5 b hb]
   refine⟨.inl trivial,trivial,.tuple #[],fun w1=>results_none ah _ _,aj,W3.trans W9,_,by rw[Yk];exact⟨⟨lo,by rw[lO.1];omega,dD Jn fun b hb _=>lO.2 b (Ym b hb.symm).1⟩,aaj⟩,Ym,?_⟩;rw[hR] at oe;rw[Yk];refine World.rowIs.of_block (((World.rowIs.of_block PN (aT.heap K hK6)).set off _).congr fun j _=>?_) oe;by_cases e1:j=off+1
   ·rw[if_neg aa,if_pos e1,e1,h1]
   ·by_cases e0:j=off
    ·simp[e0]
    ·simp[e0,e1]
end
section
open Go.RowKit
def small(x:af)(k:Nat):Prop:=∀j (h:j<x.size),j<k->97<=x[j].toNat/\x[j].toNat<=122
def isName(x:af):Prop:=1<=x.size/\x.size<=4/\small x x.size
structure adZ(x:af)(e:Ending):Prop where
 ex:∃b,e=.returned (.bool b)/\(b=true↔isName x)
theorem JZ(x:af)(w:ae)(hx:x.size<=1000000):Calls au 68 #[.string x] w fun e w'=>adZ x e/\w'=w:=by
 go_enter func68,ntmps68;by_cases h1:x.size<1
 ·have h1I:(x.size:Int)<1:=aa;go_wp2;go_ret;exact⟨⟨⟨false,rfl,by simp[isName];omega⟩⟩,rfl⟩
 ·have h1I:¬(x.size:Int)<1:=aa;by_cases h2:x.size>4
  ·have h2I:(4:Int)<(x.size:Int):=aa;go_wp2;go_ret;exact⟨⟨⟨false,rfl,by simp[isName];omega⟩⟩,rfl⟩
  ·have h2I:¬(4:Int)<(x.size:Int):=aa;go_wp2;go_loop [14] (fun i=>∃k:Nat,k<=x.size/\i=.int .i64 k/\small x k) (fun i=>x.size-(intOf i).toNat)
   case atStart=>exact⟨0,aU _,rfl,fun j _ hj=>aa⟩
   case round =>
    obtain⟨k,hk,rfl,hs⟩:=hrel;by_cases cy:k<x.size
    ·by_cases c1:x[k].toNat<97
     ·have c1I:(x[k].toNat:Int)<97:=aa;go_wp2;go_ret;exact⟨⟨⟨false,rfl,⟨(fun e=>by cases e),fun h=>by have:=h.2.2 k cy cy;omega⟩⟩⟩,rfl⟩
     ·have c1I:¬(x[k].toNat:Int)<97:=aa;by_cases c2:x[k].toNat>122
      ·have c2I:(122:Int)<(x[k].toNat:Int):=aa;go_wp2;go_ret;exact⟨⟨⟨false,rfl,⟨(fun e=>by cases e),fun h=>by have:=h.2.2 k cy cy;omega⟩⟩⟩,rfl⟩
      ·have c2I:¬(122:Int)<(x[k].toNat:Int):=aa;go_wp2
       go_round
       case rel=>exact⟨k+1,aa,by go_num,fun j h hj=>if e:j=k then by subst e;omega else hs j h aa⟩
       case measure=>simp[intOf];omega
    ·go_wp2;go_ret;have e:k=x.size:=aa;subst e;exact⟨⟨⟨true,rfl,by simp only[true_iff];exact⟨aa,aa,hs⟩⟩⟩,rfl⟩
theorem TD(x:af)(w:ae):Calls au 70 #[.string x] w fun e w'=>e=.returned (.bool (decide ((x.size:Int)<=12)))/\w'=w:=by
 go_enter func70,ntmps70;go_wp2;go_ret;exact⟨rfl,rfl⟩
section
variable {Fin:bK} {o:aM} {w:ae}
theorem MD(hF:bM au L0 o w)(x:af)(hx:x.size<=1000000):
  bz au (XB au Fin 0) 68 #[.string x] o w fun v o' w'=>∃b,v=.bool b/\(b=true↔isName x)/\fT o w v o' w':=by
 refine bz.mono (eD ah hF (fun y hy=>by simp at hy;subst hy;exact bS) (Q:=fun wl v w'=>∃b,v=.bool b/\(b=true↔isName x)) (fun wl A1 v w1 w2 e1 e2 h=>h) (fun wl hz aT=>?_)) (fun v o' w' hq=>?_)
 ·refine(JZ x wl hx).mono fun e w' hq=>?_;obtain⟨⟨b,rfl,hb⟩,rfl⟩:=hq;exact⟨_,rfl,ag _,fun _ _=>rfl,b,rfl,hb⟩
 ·obtain⟨hN,wl,aV,-,-,-,b,h1,h2⟩:=hq;exact⟨b,h1,h2,hN⟩
theorem TE(hF:bM au L0 o w)(x:af):
  bz au (XB au Fin 0) 70 #[.string x] o w fun v o' w'=>v=.bool (decide ((x.size:Int)<=12))/\fT o w v o' w':=by
 refine bz.mono (eD ah hF (fun y hy=>by simp at hy;subst hy;exact bS) (Q:=fun wl v w'=>v=.bool (decide ((x.size:Int)<=12))) (fun wl A1 v w1 w2 e1 e2 h=>h) (fun wl hz aT=>?_)) (fun v o' w' hq=>?_)
 ·refine(TD x wl).mono fun e w' hq=>?_;obtain⟨rfl,rfl⟩:=hq;exact⟨_,rfl,ag _,fun _ _=>rfl,rfl⟩
 ·obtain⟨hN,wl,aV,-,-,-,h1⟩:=hq;exact⟨h1,hN⟩
end
end
def GY(t:af):Value:=.agg #[.bool true,.string t]
def Dc(n:Int):Value:=.int .i64 n
structure ir(o:aM)(w:ae)(fb mT mS:Nat)(th:List (af×af))(st:List (af×Int)):Prop where
 blk:w.heap[fb]?=some (.cells #[.map (some mT),.map (some mS)] 164)
 tm:ng w mT (sj GY th)
 sm:ng w mS (sj Dc st)
 own:o fb/\o mT/\o mS
 apart:fb≠mT/\fb≠mS/\mT≠mS
def dU(th:List (af×af))(x:af):V:=match eT th x with
 |some t=>(true,t)
 |none=>V0
def cg(st:List (af×Int))(x:af):Int:=(eT st x).getD 0
section
variable {Fin:bK} {o:aM} {w:ae} {fb mT mS:Nat} {th:List (af×af)} {st:List (af×Int)}
theorem ir.keep{o':aM}{w':ae}(h:ir o w fb mT mS th st)(nX:∀b,o b->o' b)(e:∀b,b=fb\/b=mT\/b=mS->w'.heap[b]?=w.heap[b]?):ir o' w' fb mT mS th st :=
 ⟨(e fb (.inl rfl)).trans h.blk,h.tm.of_block (e mT (.inr (.inl rfl))),h.sm.of_block (e mS (.inr (.inr rfl))),⟨nX _ h.own.1,nX _ h.own.2.1,nX _ h.own.2.2⟩,h.apart⟩
theorem TF(w:ae):(zeroValue 159).run au w=.ok (.agg #[.bool false,.string aO]) w:=ah
theorem TG(w:ae):(zeroValue 3).run au w=.ok (.int .i64 0) w:=ah
theorem zP(w:ae)(x:af)(h:ng w mT (sj GY th)):(Instr.lookup 161 (.map (some mT)) (.string x) false).run au w=.ok (.agg #[.bool (dU th x).1,.string (dU th x).2]) w:=by
 rw[Az underlying161 underlying9 h (TF w),GW];unfold dU;cases eT th x<;>rfl
theorem vn(w:ae)(x:af)(h:ng w mS (sj Dc st)):(Instr.lookup 162 (.map (some mS)) (.string x) false).run au w=.ok (.int .i64 (cg st x)) w:=by
 rw[Az underlying162 underlying9 h (TG w),GW];unfold cg;cases eT st x<;>rfl
theorem nh{r:Nat}(h:o r):Cl au L0 o (.map (some r)):=fun f hf=>by simp[val,hf.at_ r h,mF]
theorem Yn(hF:bM au L0 o w)(h:ir o w fb mT mS th st)(x:af):
  bz au (XB au Fin 0) 100 #[.pointer (some ⟨fb,0,none⟩),.string x] o w fun v o' w'=>v=.agg #[.bool (dU th x).1,.string (dU th x).2,.int .i64 (cg st x)]/\fT o w v o' w':=by
 have W:=bV (P:=au) (Fin:=Fin) (d:=0);refine eA W func100 ar ?_;walk_nrmf Tryz.f100;refine ax ?_;refine dt bQ hF rfl ar ar mW rfl (R:=fun wl v aV=>v=.pointer (some ⟨wl.heap.size,0,none⟩)/\aV=wl.alloc (Obj.cells #[.bool false,.string aO,.int .i64 0] 194)) (fun wl aT=>⟨_,_,by simp[go_sem];rfl,rfl,rfl⟩) fun wl v1 aV w1 aT hR bN=>?_;obtain⟨rfl,hR⟩:=hR;obtain⟨z1,k1,tF⟩:=bN.alloc hF aT hR;have lv:=bN.aF;rw[aT.size];clear hR bN aT wl aV;walk_nrm;have hfb:=hF.lt h.own.1;have h1:ir (grow o w w1) w1 fb mT mS th st:=h.keep jk fun b hb=>by
  rcases hb with rfl|rfl|rfl
  ·exact k1 _ hfb
  ·exact k1 _ (hF.lt h.own.2.1)
  ·exact k1 _ (hF.lt h.own.2.2)
 have hA:grow o w w1 w.heap.size:=.inr ⟨ag _,aa⟩;obtain⟨c0,c1,-⟩:=dO h1.blk;obtain⟨o1,Gi⟩:∃x,x=grow o w w1:=⟨_,rfl⟩;rw[<- Gi] at h1 hA lv |-;generalize Qt:dU th x=sv;obtain⟨sb,stx⟩:=sv;generalize hss:cg st x=ss;refine ax ?_;refine dQ mixed ah [some none,some none,some none,some (some (.map (some mT))),some none,some (some (.agg #[.bool sb,.string stx])),some none,some none,some none,some (some (.map (some mS))),some none,some (some (.int .i64 ss)),some none,none]
  (S:=fun σ o' w'=>o'=o1/\(σ 13=none->w'=w1)/\∀y,σ 13=some y->bM au L0 o1 w'/\eI w.heap.size w1 w'/\w'.heap[w.heap.size]?=some (Obj.cells #[.bool sb,.string stx,.int .i64 ss] 194)) ?_ fun v=>?_
 ·exact⟨rfl,fun _=>rfl,fun y hy=>by cases hy⟩
 refine dP ?_;refine cC ?_;refine cm bQ rfl rfl rfl ar ar (fun σ o' w' H hS=>?_) ?_
 ·obtain⟨rfl,e1,-⟩:=hS;obtain rfl:=e1 (H.qE [12,5] 13 ah);exact tE lv h1.own.1 c0
 refine cC ?_;refine cm bQ rfl rfl rfl ar ar (fun σ o' w' H hS=>?_) ?_
 ·obtain⟨rfl,e1,-⟩:=hS;obtain rfl:=e1 (H.qE [12] 13 ah);refine⟨lv,fun y hy=>?_,fun wl aT=>?_⟩
  ·simp[Op.operands] at hy;rcases hy with rfl|rfl
   ·simp[Act.eval];exact nh h1.own.2.1
   ·simp[Act.eval];exact bS
  ·have:=zP wl x (h1.tm.of_block (aT.heap _ h1.own.2.1));rw[Qt] at this;simp[go_sem,this]
 refine cC ?_;refine cm bQ rfl rfl rfl ar ar (fun σ o' w' H hS=>?_) ?_
 ·obtain⟨rfl,e1,-⟩:=hS;obtain rfl:=e1 (H.qE [12,11] 13 ah);exact tE lv h1.own.1 c1
 refine cC ?_;refine cm bQ rfl rfl rfl ar ar (fun σ o' w' H hS=>?_) ?_
 ·obtain⟨rfl,e1,-⟩:=hS;obtain rfl:=e1 (H.qE [12] 13 ah);refine⟨lv,fun y hy=>?_,fun wl aT=>?_⟩
  ·simp[Op.operands] at hy;rcases hy with rfl|rfl
   ·simp[Act.eval];exact nh h1.own.2.2
   ·simp[Act.eval];exact bS
  ·have:=vn wl x (h1.sm.of_block (aT.heap _ h1.own.2.2));rw[hss] at this;simp[go_sem,this]
 refine cC ?_;refine pL bQ rfl rfl rfl ar ar (fun σ o' w' H A2 hS=>?_) ?_
 ·obtain⟨rfl,e1,-⟩:=hS;obtain rfl:=e1 A2;refine⟨lv,fun y hy=>?_,fun wl aV=>aV=((wl.setCell ⟨w.heap.size,0,none⟩ (.bool sb)).setCell ⟨w.heap.size,1,none⟩ (.string stx)).setCell ⟨w.heap.size,2,none⟩ (.int .i64 ss),fun wl aT=>⟨_,?_,rfl⟩,fun wl aV w2 aT hR bN=>?_⟩
  ·simp[Op.operands] at hy;rcases hy with rfl|rfl
   ·simp[Act.eval];exact bU hA
   ·simp[Act.eval];exact fS (vs:=[_,_,_]) (fun x hx=>by
     simp at hx;rcases hx with rfl|rfl|rfl
     ·exact mR
     ·exact bS
     ·exact dS)
  ·obtain⟨e0,e1,e2,f0,f1,f2⟩:=eO ((aT.heap _ hA).trans tF);simp[go_sem,e0,e1,e2,f0,f1,f2]
  ·have hO:eI w.heap.size wl aV:=by rw[hR];exact uE _ _ _ _ _ _ _ _
   obtain⟨on,kb,eg⟩:=bN.only aT hA hO;have rO:=bN.aF;rw[eg] at rO |-;refine⟨rfl,fun h=>by simp[fM] at h,fun y _=>⟨rO,on,?_⟩⟩;rw[kb,hR,JK ((aT.heap _ hA).trans tF)]
 walk_nrm;refine cB fun σ o' w' mn hS=>?_;obtain⟨rfl,-,e2⟩:=hS;obtain⟨rO,on,kb⟩:=e2 _ (mn 13 eu rfl);simp only[iH,dI,if_true,if_false,reduceIte,Nat.reduceEqDiff];refine ax ?_;have c9:∀n,(w'.at n).cell? ⟨w.heap.size,0,none⟩=some (.bool sb)/\(w'.at n).cell? ⟨w.heap.size,1,none⟩=some (.string stx)/\(w'.at n).cell? ⟨w.heap.size,2,none⟩=some (.int .i64 ss):=fun n=>⟨(eO kb).1,(eO kb).2.1,(eO kb).2.2.1⟩;refine⟨.inr trivial,trivial,.agg #[.bool sb,.string stx,.int .i64 ss],wS (fun n=>?_) (fun n e he=>?_),rfl,?_,rO,by rw[on.1];omega,fun b hb=>?_,?_⟩
 ·obtain⟨c0,c1,c2⟩:=c9 n;simp[results,results100,go_sem,c0,c1,c2]
 ·obtain⟨c0,c1,c2⟩:=c9 n;simp[results,results100,go_sem,c0,c1,c2] at he;rcases he with rfl|rfl|rfl;all_goals exact⟨_,_,_,rfl,hA⟩
 ·rw[Gi];exact GO on.1.symm
 ·rw[on.2 b aa];exact k1 b hb
 ·exact fS (vs:=[_,_,_]) (fun x hx=>by
   simp at hx;rcases hx with rfl|rfl|rfl
   ·exact mR
   ·exact bS
   ·exact dS)
theorem mD(w:ae)(r:Nat)(X:Obj):eI r w (qw w r X):=⟨by simp[qw],fun c hc=>by simp[qw,Ne.symm hc]⟩
theorem bA.dG{r:Nat}{ex:Nat->Prop}{w':ae}(hF:bM au L0 o w')(h:eI r w w')(hr:ex r):bA ex o w o w':=⟨hF,fun _ h=>h,fun _ h=>.inl h,bG h.1.symm,fun b _ hb=>h.2 b fun e=>hb (e▸hr)⟩
theorem zR(b:Bool)(t:af)(w:ae):(Instr.field 159 (.agg #[.bool b,.string t]) 0).events au w #[]=#[]:=ah
theorem WA(hF:bM au L0 o w)(h:ir o w fb mT mS th st)(x t:af)(hx:x.size<=1000000)(UU:th.length<=100000):
  bz au (XB au Fin 0) 47 #[.pointer (some ⟨fb,0,none⟩),.string x,.string t] o w fun v o' w'=>bA (fun b=>b=mT\/b=mS) o w o' w'/\((v=.int .i64 2/\¬isName x/\ir o' w' fb mT mS th st)\/(v=.int .i64 6/\isName x/\12<t.size/\ir o' w' fb mT mS th st)\/(v=.int .i64 1/\isName x/\t.size<=12/\eT th x=none/\12<=th.length/\ir o' w' fb mT mS th st) \/
   (v=.int .i64 0/\isName x/\t.size<=12/\¬(eT th x=none/\12<=th.length)/\ir o' w' fb mT mS (gN th x t) (gN st x (IntKind.i64.wrap (cg st x+1))))):=by
 have W:=bV (P:=au) (Fin:=Fin) (d:=0);refine bC W func47 ar ?_;walk_nrmf Tryz.f47;refine ax ?_;refine cd func68 (MD hF x hx) ?_;rintro v1 o1 w1 ⟨b1,rfl,Bo,N1⟩;have W1:bA (fun b=>b=mT\/b=mS) o w o1 w1:=bA.eJ N1;have lt3:∀b,b=fb\/b=mT\/b=mS->b<w.heap.size:=fun b hb=>by
  rcases hb with rfl|rfl|rfl
  ·exact hF.lt h.own.1
  ·exact hF.lt h.own.2.1
  ·exact hF.lt h.own.2.2
 have h1:=h.keep W1.more fun b hb=>N1.old b (lt3 b hb);cases b1 with
 |false =>
  have hn:¬isName x:=fun q=>by have:=Bo.2 q;cases this
  refine ax ?_;exact⟨.inr trivial,trivial,_,resultsC_tmp (t:=6) ar _,W1,.inl ⟨aH,hn,h1⟩⟩
 |true =>
  have hn:isName x:=Bo.1 rfl;refine ax ?_;refine cd func70 (TE N1.aF t) ?_;rintro v2 o2 w2 ⟨rfl,N2⟩;have W2:=W1.trans (bA.eJ (ex:=fun b=>b=mT\/b=mS) N2);have h2:=h1.keep (bA.eJ (ex:=fun _=>False) N2).more fun b hb=>N2.old b (by have:=lt3 b hb;have:=N1.size;omega);by_cases ht:t.size<=12
  ·have htI:(t.size:Int)<=12:=aa;rw[cU htI];refine ax ?_;obtain⟨c0,c1,-⟩:=dO h2.blk;refine lh N2.aF h2.own.1 c0 fun _=>?_;refine ax ?_;refine dB bQ N2.aF rfl ar ar ?_ rfl (v:=.agg #[.bool (dU th x).1,.string (dU th x).2]) (fun wl aT=>by simp[go_sem,zP wl x (h2.tm.of_block (aT.heap _ h2.own.2.1))]) fun _=>?_
   ·exact iV (nh h2.own.2.1) bS
   walk_nrm;cases hg:eT th x with
   |some t0 =>
    have Qt:dU th x=(true,t0):=by simp[dU,hg]
    rw[Qt];have evf:=zR;refine ax ?_;refine lh N2.aF h2.own.1 c0 fun _=>?_;refine ax ?_;refine du bQ N2.aF rfl ar ar ?_ rfl (R:=fun wl aV=>eI mT wl aV/\ng aV mT (sj GY (gN th x t))) (fun wl aT=>?_) fun wl aV w3 aT hR bN=>?_
    ·intro y hy;simp[Op.operands] at hy;rcases hy with rfl|rfl|rfl
     ·simp[Act.eval];exact nh h2.own.2.1
     ·simp[Act.eval];exact bS
     ·simp[Act.eval];exact fS (vs:=[_,_]) (fun x hx=>by
       simp at hx;rcases hx with rfl|rfl
       ·exact mR
       ·exact bS)
    ·obtain⟨X,e1,e2⟩:=oQ (P:=au) (x:=x) underlying161 underlying9 (h2.tm.of_block (aT.heap _ h2.own.2.1)) (GY t);rw[vm] at e2;unfold GY at e1;exact⟨_,by simp[go_sem,e1],mD _ _ _,e2⟩
    obtain⟨J0,sB,e3⟩:=bN.only aT h2.own.2.1 hR.1;have tm3:=hR.2.of_block sB;have px:=bN.aF;rw[e3] at px |-;clear hR bN aT sB wl aV e3;have AM:=(cell_of (a:=⟨fb,1,none⟩) (J0.2 fb h2.apart.1)).trans c1;refine ax ?_;refine lh px h2.own.1 AM fun _=>?_;refine ax ?_;have Yo:=h2.sm.of_block (J0.2 mS (fun e=>h2.apart.2.2 e.symm));refine dB bQ px rfl ar ar ?_ rfl (v:=.int .i64 (cg st x)) (fun wl aT=>by simp[go_sem,vn wl x (Yo.of_block (aT.heap _ h2.own.2.2))]) fun _=>?_
    ·exact iV (nh h2.own.2.2) bS
    refine ax ?_;refine du bQ px rfl ar ar ?_ rfl (R:=fun wl aV=>eI mS wl aV/\ng aV mS (sj Dc (gN st x (IntKind.i64.wrap (cg st x+1))))) (fun wl aT=>?_) fun wl aV w4 aT hR bN=>?_
    ·intro y hy;simp[Op.operands] at hy;rcases hy with rfl|rfl|rfl
     ·simp[Act.eval];exact nh h2.own.2.2
     ·simp[Act.eval];exact bS
     ·simp[Act.eval];exact dS
    ·obtain⟨X,e1,e2⟩:=oQ (P:=au) (x:=x) underlying162 underlying9 (Yo.of_block (aT.heap _ h2.own.2.2)) (Dc (IntKind.i64.wrap (cg st x+1)));rw[vm] at e2;unfold Dc at e1;exact⟨_,by simp[go_sem,e1],mD _ _ _,e2⟩
    obtain⟨vo,yG,e4⟩:=bN.only aT h2.own.2.2 hR.1;have sm4:=hR.2.of_block yG;have tj:=bN.aF;rw[e4] at tj |-;clear hR bN aT yG wl aV e4;refine ax ?_;have W4:=(W2.trans (bA.dG px J0 (.inl rfl))).trans (bA.dG tj vo (.inr rfl));refine⟨.inr trivial,trivial,_,resultsC_tmp (t:=6) ar _,W4,.inr (.inr (.inr ⟨aH,hn,ht,(fun q=>by cases q.1),?_⟩))⟩;exact⟨(vo.2 fb h2.apart.2.1).trans ((J0.2 fb h2.apart.1).trans h2.blk),tm3.of_block (vo.2 mT h2.apart.2.2),sm4,h2.own,h2.apart⟩
   |none =>
    have Qt:dU th x=(false,aO):=by simp[dU,hg,V0]
    rw[Qt];have evf:=zR;refine ax ?_;refine lh N2.aF h2.own.1 c0 fun _=>?_;refine ax ?_;refine dB bQ N2.aF rfl ar ar ?_ rfl (v:=.int .i64 th.length) (fun wl aT=>?_) fun _=>?_
    ·intro y hy;simp[Op.operands,Call.operands] at hy;subst hy;simp[Act.eval];exact nh h2.own.2.1
    ·obtain⟨es,cl,q1,q2⟩:=Wv (h2.tm.of_block (aT.heap _ h2.own.2.1));have:=run_len_map (P:=au) wl 161 3 mT es cl ah q1;simp[go_sem,this,q2,Ww,goInt]
    walk_nrm;by_cases pY:12<=th.length
    ·have ad2:(12:Int)<=(th.length:Int):=aa;refine ax ?_;exact⟨.inr trivial,trivial,_,resultsC_tmp (t:=6) ar _,W2,.inr (.inr (.inl ⟨aH,hn,ht,trivial,pY,h2⟩))⟩
    have ad2:¬(12:Int)<=(th.length:Int):=aa;refine ax ?_;refine lh N2.aF h2.own.1 c0 fun _=>?_;refine ax ?_;refine du bQ N2.aF rfl ar ar ?_ rfl (R:=fun wl aV=>eI mT wl aV/\ng aV mT (sj GY (gN th x t))) (fun wl aT=>?_) fun wl aV w3 aT hR bN=>?_
    ·intro y hy;simp[Op.operands] at hy;rcases hy with rfl|rfl|rfl
     ·simp[Act.eval];exact nh h2.own.2.1
     ·simp[Act.eval];exact bS
     ·simp[Act.eval];exact fS (vs:=[_,_]) (fun x hx=>by
       simp at hx;rcases hx with rfl|rfl
       ·exact mR
       ·exact bS)
    ·obtain⟨X,e1,e2⟩:=oQ (P:=au) (x:=x) underlying161 underlying9 (h2.tm.of_block (aT.heap _ h2.own.2.1)) (GY t);rw[vm] at e2;unfold GY at e1;exact⟨_,by simp[go_sem,e1],mD _ _ _,e2⟩
    obtain⟨J0,sB,e3⟩:=bN.only aT h2.own.2.1 hR.1;have tm3:=hR.2.of_block sB;have px:=bN.aF;rw[e3] at px |-;clear hR bN aT sB wl aV e3;have AM:=(cell_of (a:=⟨fb,1,none⟩) (J0.2 fb h2.apart.1)).trans c1;refine ax ?_;refine lh px h2.own.1 AM fun _=>?_;refine ax ?_;have Yo:=h2.sm.of_block (J0.2 mS (fun e=>h2.apart.2.2 e.symm));refine dB bQ px rfl ar ar ?_ rfl (v:=.int .i64 (cg st x)) (fun wl aT=>by simp[go_sem,vn wl x (Yo.of_block (aT.heap _ h2.own.2.2))]) fun _=>?_
    ·exact iV (nh h2.own.2.2) bS
    refine ax ?_;refine du bQ px rfl ar ar ?_ rfl (R:=fun wl aV=>eI mS wl aV/\ng aV mS (sj Dc (gN st x (IntKind.i64.wrap (cg st x+1))))) (fun wl aT=>?_) fun wl aV w4 aT hR bN=>?_
    ·intro y hy;simp[Op.operands] at hy;rcases hy with rfl|rfl|rfl
     ·simp[Act.eval];exact nh h2.own.2.2
     ·simp[Act.eval];exact bS
     ·simp[Act.eval];exact dS
    ·obtain⟨X,e1,e2⟩:=oQ (P:=au) (x:=x) underlying162 underlying9 (Yo.of_block (aT.heap _ h2.own.2.2)) (Dc (IntKind.i64.wrap (cg st x+1)));rw[vm] at e2;unfold Dc at e1;exact⟨_,by simp[go_sem,e1],mD _ _ _,e2⟩
    obtain⟨vo,yG,e4⟩:=bN.only aT h2.own.2.2 hR.1;have sm4:=hR.2.of_block yG;have tj:=bN.aF;rw[e4] at tj |-;clear hR bN aT yG wl aV e4;refine ax ?_;have W4:=(W2.trans (bA.dG px J0 (.inl rfl))).trans (bA.dG tj vo (.inr rfl));refine⟨.inr trivial,trivial,_,resultsC_tmp (t:=6) ar _,W4,.inr (.inr (.inr ⟨aH,hn,ht,fun q=>pY q.2,?_⟩))⟩;exact⟨(vo.2 fb h2.apart.2.1).trans ((J0.2 fb h2.apart.1).trans h2.blk),tm3.of_block (vo.2 mT h2.apart.2.2),sm4,h2.own,h2.apart⟩
  ·have htI:¬(t.size:Int)<=12:=aa;rw[dv htI];refine ax ?_;exact⟨.inr trivial,trivial,_,resultsC_tmp (t:=6) ar _,W2,.inr (.inl ⟨aH,hn,aa,h2⟩)⟩
theorem Qu(hF:bM au L0 o w)(h:ir o w fb mT mS th st)(x:af)(hx:x.size<=1000000)(UU:th.length<=100000):
  bz au (XB au Fin 0) 62 #[.pointer (some ⟨fb,0,none⟩),.string x] o w fun v o' w'=>bA (fun b=>b=mT\/b=mS) o w o' w'/\((v=.int .i64 2/\¬isName x/\ir o' w' fb mT mS th st)\/(v=.int .i64 7/\isName x/\eT th x=none/\ir o' w' fb mT mS th st) \/
   (v=.int .i64 0/\isName x/\eT th x≠none/\ir o' w' fb mT mS (lT th x) (gN st x (IntKind.i64.wrap (cg st x+1))))):=by
 have W:=bV (P:=au) (Fin:=Fin) (d:=0);refine bC W func62 ar ?_;walk_nrmf Tryz.f62;refine ax ?_;refine cd func68 (MD hF x hx) ?_;rintro v1 o1 w1 ⟨b1,rfl,Bo,N1⟩;have W1:bA (fun b=>b=mT\/b=mS) o w o1 w1:=bA.eJ N1;have lt3:∀b,b=fb\/b=mT\/b=mS->b<w.heap.size:=fun b hb=>by
  rcases hb with rfl|rfl|rfl
  ·exact hF.lt h.own.1
  ·exact hF.lt h.own.2.1
  ·exact hF.lt h.own.2.2
 have h1:=h.keep W1.more fun b hb=>N1.old b (lt3 b hb);cases b1 with
 |false =>
  have hn:¬isName x:=fun q=>by have:=Bo.2 q;cases this
  refine ax ?_;exact⟨.inr trivial,trivial,_,resultsC_tmp (t:=4) ar _,W1,.inl ⟨aH,hn,h1⟩⟩
 |true =>
  have hn:isName x:=Bo.1 rfl;refine ax ?_;obtain⟨c0,c1,-⟩:=dO h1.blk;refine lh N1.aF h1.own.1 c0 fun _=>?_;refine ax ?_;refine dB bQ N1.aF rfl ar ar ?_ rfl (v:=.agg #[.bool (dU th x).1,.string (dU th x).2]) (fun wl aT=>by simp[go_sem,zP wl x (h1.tm.of_block (aT.heap _ h1.own.2.1))]) fun _=>?_
  ·exact iV (nh h1.own.2.1) bS
  walk_nrm;have evf:=zR;cases hg:eT th x with
  |none =>
    have Qt:dU th x=(false,aO):=by simp[dU,hg,V0]
    rw[Qt];refine ax ?_;exact⟨.inr trivial,trivial,_,resultsC_tmp (t:=4) ar _,W1,.inr (.inl ⟨aH,hn,aj,h1⟩)⟩
  |some t0 =>
    have Qt:dU th x=(true,t0):=by simp[dU,hg]
    rw[Qt];refine ax ?_;refine lh N1.aF h1.own.1 c0 fun _=>?_;refine ax ?_;refine dt bQ N1.aF rfl ar ar ?_ rfl (R:=fun wl v aV=>v=.tuple #[]/\eI mT wl aV/\ng aV mT (sj GY (lT th x))) (fun wl aT=>?_) fun wl v3 aV w3 aT hR bN=>?_
    ·intro y hy;simp[Op.operands,Call.operands] at hy;rcases hy with rfl|rfl
     ·simp[Act.eval];exact nh h1.own.2.1
     ·simp[Act.eval];exact bS
    ·obtain⟨X,e1,e2⟩:=JW (P:=au) (x:=x) underlying161 underlying9 (h1.tm.of_block (aT.heap _ h1.own.2.1)) 0;rw[N6] at e2;exact⟨_,_,by simp[go_sem,e1],rfl,mD _ _ _,e2⟩
    obtain⟨rfl,hR⟩:=hR;obtain⟨J0,sB,e3⟩:=bN.only aT h1.own.2.1 hR.1;have tm3:=hR.2.of_block sB;have px:=bN.aF;rw[e3] at px |-;clear hR bN aT sB wl aV e3;have AM:=(cell_of (a:=⟨fb,1,none⟩) (J0.2 fb h1.apart.1)).trans c1;refine ax ?_;refine lh px h1.own.1 AM fun _=>?_;refine ax ?_;have Yo:=h1.sm.of_block (J0.2 mS (fun e=>h1.apart.2.2 e.symm));refine dB bQ px rfl ar ar ?_ rfl (v:=.int .i64 (cg st x)) (fun wl aT=>by simp[go_sem,vn wl x (Yo.of_block (aT.heap _ h1.own.2.2))]) fun _=>?_
    ·exact iV (nh h1.own.2.2) bS
    refine ax ?_;refine du bQ px rfl ar ar ?_ rfl (R:=fun wl aV=>eI mS wl aV/\ng aV mS (sj Dc (gN st x (IntKind.i64.wrap (cg st x+1))))) (fun wl aT=>?_) fun wl aV w4 aT hR bN=>?_
    ·intro y hy;simp[Op.operands] at hy;rcases hy with rfl|rfl|rfl
     ·simp[Act.eval];exact nh h1.own.2.2
     ·simp[Act.eval];exact bS
     ·simp[Act.eval];exact dS
    ·obtain⟨X,e1,e2⟩:=oQ (P:=au) (x:=x) underlying162 underlying9 (Yo.of_block (aT.heap _ h1.own.2.2)) (Dc (IntKind.i64.wrap (cg st x+1)));rw[vm] at e2;unfold Dc at e1;exact⟨_,by simp[go_sem,e1],mD _ _ _,e2⟩
    obtain⟨vo,yG,e4⟩:=bN.only aT h1.own.2.2 hR.1;have sm4:=hR.2.of_block yG;have tj:=bN.aF;rw[e4] at tj |-;clear hR bN aT yG wl aV e4;refine ax ?_;have W4:=(W1.trans (bA.dG px J0 (.inl rfl))).trans (bA.dG tj vo (.inr rfl));refine⟨.inr trivial,trivial,_,resultsC_tmp (t:=4) ar _,W4,.inr (.inr ⟨aH,hn,aj,?_⟩)⟩;exact⟨(vo.2 fb h1.apart.2.1).trans ((J0.2 fb h1.apart.1).trans h1.blk),tm3.of_block (vo.2 mT h1.apart.2.2),sm4,h1.own,h1.apart⟩
end
structure pz where
 B:vk
 kb:Nat
 fb:Nat
 mT:Nat
 mS:Nat
structure gQ where
 fd:Option (Nat×cY)
 old:Nat->Option (Nat×List V)
 th:List (af×af)
 st:List (af×Int)
 qv:Value
 qn:List af
 lost:Bool
 time:Nat
 phase:Nat
 since:Nat
 sv:Value
 src:List af
 rv:Value
 rd:List (V×Int)
 ck:Nat
 pb:Nat
 num:Int
 lu:Value
 res:List (af×V)
 mH:Value
 jS:List af
def sk(K:pz)(s:gQ)(lk:Int):Nat->Value
 |0=>.int .i32 lk
 |1=>.int .u32 0
 |2=>.pointer (some ⟨K.B.bb,0,none⟩)
 |3=>.pointer (some ⟨K.fb,0,none⟩)
 |4=>s.qv
 |5=>.bool s.lost
 |6=>.int .i64 s.time
 |7=>.int .i64 s.phase
 |8=>.int .i64 s.since
 |9=>s.sv
 |10=>s.rv
 |11=>.int .i64 s.ck
 |_=>.pointer (some ⟨s.pb,0,none⟩)
theorem ni{j:Nat}(h:j<13):j=0\/j=1\/j=2\/j=3\/j=4\/j=5\/j=6\/j=7\/j=8\/j=9\/j=10\/j=11\/j=12:=aa
structure Rc(o:aM)(w:ae)(v:Value)(ts:List af):Prop where
 row:∃p b c,v=.slice p ts.length c/\(p=none->ts=[])/\(ts≠[]->p=some ⟨b,0,none⟩/\o b)/\fy w b 0 ts
 cl:Cl au L0 o v
 gT:ts.length<=1000
def eZ(ss:List (V×Int)):List Value:=(ss.map fun s=>[Value.bool s.1.1,.string s.1.2,.int .i64 s.2]).flatten
structure KX(o:aM)(w:ae)(v:Value)(ss:List (V×Int)):Prop where
 row:∃lo,lo<=w.heap.size/\w.ownsRow lo 194 3 v ss.length (eZ ss)
 cl:Cl au L0 o v
 gT:ss.length<=1000
def nC(w:ae)(b:Nat)(rs:List (af×V)):Prop:=∀i (h:i<rs.length),w.cell? ⟨b,i*3,none⟩=some (.string rs[i].1)/\w.cell? ⟨b,i*3+1,none⟩=some (.string rs[i].2.2)/\w.cell? ⟨b,i*3+2,none⟩=some (.bool (!rs[i].2.1))
structure Dd(o:aM)(w:ae)(s:gQ):Prop where
 blk:w.heap[s.pb]?=some (.cells #[.int .i64 s.num,s.lu,s.mH] 59)
 own:o s.pb
 res:∃p b c,s.lu=.slice p s.res.length c/\(p=none->s.res=[])/\(s.res≠[]->p=some ⟨b,0,none⟩/\o b)/\nC w b s.res
 cl:Cl au L0 o s.lu
 gT:s.res.length<=1000
 jS:Rc o w s.mH s.jS
section
variable {Fin:bK} {o o':aM} {w w':ae}
theorem Rc.keep{v:Value}{ts:List af}(h:Rc o w v ts)(nX:∀b,o b->o' b)(e:∀g,v.ownBlock=some g->w'.heap[g]?=w.heap[g]?):Rc o' w' v ts:=by
 obtain⟨p,b,c,h1,h2,h3,h4⟩:=h.row;refine⟨⟨p,b,c,h1,h2,fun hn=>⟨(h3 hn).1,nX _ (h3 hn).2⟩,fun k hk=>?_⟩,h.cl.up nX,h.gT⟩;have hn:ts≠[]:=fun q=>by rw[q] at hk;simp at hk
 exact dc h4 (e b (by rw[h1,(h3 hn).1];rfl)) k hk
theorem KX.keep{v:Value}{ss:List (V×Int)}(h:KX o w v ss)(nX:∀b,o b->o' b)(hz:w.heap.size<=w'.heap.size)(e:∀g,v.ownBlock=some g->w'.heap[g]?=w.heap[g]?):KX o' w' v ss:=by
 obtain⟨lo,vF,cj⟩:=h.row;exact⟨⟨lo,aa,dD cj fun g hg _=>e g hg.symm⟩,h.cl.up nX,h.gT⟩
def yH(s:gQ)(b:Nat):Prop:=b=s.pb\/s.lu.ownBlock=some b\/s.mH.ownBlock=some b
theorem Dd.keep{s:gQ}(h:Dd o w s)(nX:∀b,o b->o' b)(e:∀b,yH s b->w'.heap[b]?=w.heap[b]?):Dd o' w' s:=by
 obtain⟨p,b,c,h1,h2,h3,h4⟩:=h.res;refine⟨(e _ (.inl rfl)).trans h.blk,nX _ h.own,⟨p,b,c,h1,h2,fun hn=>⟨(h3 hn).1,nX _ (h3 hn).2⟩,fun k hk=>?_⟩,h.cl.up nX,h.gT,h.jS.keep nX fun g hg=>e g (.inr (.inr hg))⟩;have hn:s.res≠[]:=fun q=>by rw[q] at hk;simp at hk
 have eb:=e b (.inr (.inl (by rw[h1,(h3 hn).1];rfl)));exact⟨(cell_of eb).trans (h4 k hk).1,(cell_of eb).trans (h4 k hk).2.1,(cell_of eb).trans (h4 k hk).2.2⟩
def ME(b:Nat):Nat:=if b=1 then 8 else 1
structure bm(o:aM)(w:ae)(K:pz)(s:gQ)(lk:Int)(lab:Nat->Nat):Prop where
 aF:bM au L0 o w
 row:w.rowIs K.kb 120 13 (sk K s lk)
 own:o K.kb
 build:fL o w K.B s.fd s.old
 files:ir o w K.fb K.mT K.mS s.th s.st
 queue:Qs o w s.qv s.qn
 cX:Rc o w s.sv s.src
 reads:KX o w s.rv s.rd
 set:Dd o w s
 l0:lab K.kb=0
 l1:∀b,nB K.B s.fd s.old b->lab b=ME b
 l2:∀b,b=K.fb\/b=K.mT\/b=K.mS->lab b=2
 l3:∀b,s.qv.ownBlock=some b->lab b=3
 l4:∀b,s.sv.ownBlock=some b->lab b=4
 l5:∀b,s.rv.ownBlock=some b->lab b=5
 l6:∀b,yH s b->lab b=6
 gT:s.qn.length<=4/\s.th.length<=12/\s.time<=100000/\s.since<=s.time/\s.ck<=s.src.length/\s.rd.length<=s.src.length
theorem gG{v:Value}(hF:bM au L0 o w)(h:Cl au L0 o v):∀b,v.ownBlock=some b->o b:=fun b hb=>aZ fun hg=>by
 cases v<;>first|(cases hb;done)|skip
 rename_i p l c;cases p with
 |none=>cases hb
 |some a =>
  have e:a.block=b:=aQ hb;subst e;obtain⟨f,hf,dH⟩:=JX hF hg;have:=h f hf;simp only[val,aJ,addr,Value.slice.injEq,ay] at this;exact dH (congrArg Addr.block this.1)
theorem bm.all{K:pz}{s:gQ}{lk:Int}{lab:Nat->Nat}(h:bm o w K s lk lab):(∀b,s.qv.ownBlock=some b->o b)/\(∀b,s.sv.ownBlock=some b->o b)/\(∀b,s.rv.ownBlock=some b->o b)/\∀b,yH s b->o b:=by
 refine⟨gG h.aF h.queue.cl,gG h.aF h.cX.cl,gG h.aF h.reads.cl,fun b hb=>?_⟩;rcases hb with rfl|hb|hb
 ·exact h.set.own
 ·exact gG h.aF h.set.cl b hb
 ·exact gG h.aF h.set.jS.cl b hb
structure aak(o:aM)(w:ae)(K:pz)(s:gQ):Prop where
 build:fL o w K.B s.fd s.old
 files:ir o w K.fb K.mT K.mS s.th s.st
 queue:Qs o w s.qv s.qn
 cX:Rc o w s.sv s.src
 reads:KX o w s.rv s.rd
 set:Dd o w s
theorem bm.other{K:pz}{s:gQ}{lk:Int}{lab:Nat->Nat}(h:bm o w K s lk lab){ex:Nat->Prop}(hW:bA ex o w o' w')(hx:∀b,ex b->lab b=0):aak o' w' K s:=by
 have ne:∀b n,lab b=n->n≠0->¬ex b:=fun b n hb hn he=>hn (by rw[<- hb];exact hx b he);obtain⟨a1,a2,a3,a4⟩:=h.all;have sm:∀b n,o b->lab b=n->n≠0->w'.heap[b]?=w.heap[b]?:=fun b n hb hl hn=>hW.same b (h.aF.lt hb) (ne b n hl hn);refine⟨h.build.keep hW.more hW.size fun b hb=>sm b (ME b) (h.build.own b hb) (h.l1 b hb) (by unfold ME;split<;>omega),h.files.keep hW.more fun b hb=>sm b 2 ?_ (h.l2 b hb) aa,h.queue.keep hW.more hW.size fun g hg=>sm g 3 (a1 g hg) (h.l3 g hg) aa,h.cX.keep hW.more fun g hg=>sm g 4 (a2 g hg) (h.l4 g hg) aa,h.reads.keep hW.more hW.size fun g hg=>sm g 5 (a3 g hg) (h.l5 g hg) aa,h.set.keep hW.more fun b hb=>sm b 6 (a4 b hb) (h.l6 b hb) aa⟩;rcases hb with rfl|rfl|rfl
 ·exact h.files.own.1
 ·exact h.files.own.2.1
 ·exact h.files.own.2.2
theorem bm.put{K:pz}{s s':gQ}{lk lk':Int}{lab:Nat->Nat}(h:bm o w K s lk lab)(hF:bM au L0 o w')(hO:eI K.kb w w')(hr:w'.rowIs K.kb 120 13 (sk K s' lk'))(he:(s'.fd,s'.old,s'.th,s'.st,s'.qv,s'.qn)=(s.fd,s.old,s.th,s.st,s.qv,s.qn))(he2:(s'.sv,s'.src,s'.rv,s'.rd,s'.pb,s'.num,s'.lu,s'.res,s'.mH,s'.jS)=(s.sv,s.src,s.rv,s.rd,s.pb,s.num,s.lu,s.res,s.mH,s.jS))(xc:s'.time<=100000/\s'.since<=s'.time/\s'.ck<=s.src.length):bm o w' K s' lk' lab:=by
 have hW:bA (·=K.kb) o w o w':=bA.dG hF hO rfl;obtain⟨q1,q2,q3,q4,q5,q6⟩:=h.other hW (fun b hb=>by rw[hb];exact h.l0);simp only[bt] at he he2;obtain⟨e1,e2,e3,e4,e5,e6⟩:=he;obtain⟨f1,f2,f3,f4,f5,f6,f7,f8,f9,f10⟩:=he2;refine⟨hF,hr,h.own,by rw[e1,e2];exact q1,by rw[e3,e4];exact q2,by rw[e5,e6];exact q3,by rw[f1,f2];exact q4,by rw[f3,f4];exact q5,⟨by rw[f5,f6,f7,f9];exact q6.blk,by rw[f5];exact q6.own,by rw[f7,f8];exact q6.res,by rw[f7];exact q6.cl,by rw[f8];exact q6.gT,by rw[f9,f10];exact q6.jS⟩,h.l0,by rw[e1,e2];exact h.l1,h.l2,by rw[e5];exact h.l3,by rw[f1];exact h.l4,by rw[f3];exact h.l5,fun b hb=>h.l6 b (by unfold yH at hb |-;rw[f5,f7,f9] at hb;exact hb),by rw[e6,e3,f2,f4];exact⟨h.gT.1,h.gT.2.1,xc.1,xc.2.1,xc.2.2,h.gT.2.2.2.2.2⟩⟩
theorem bm.lock{K:pz}{s:gQ}{lk lk':Int}{lab:Nat->Nat}(h:bm o w K s lk lab):bm o (w.setCell ⟨K.kb,0,none⟩ (.int .i32 lk')) K s lk' lab:=by
 refine h.put (Go.Conc.bM.setCell h.aF dS) (iZ _ _ _ _) ((h.row.set 0 _).congr fun j hj=>?_) rfl rfl ⟨h.gT.2.2.1,h.gT.2.2.2.1,h.gT.2.2.2.2.1⟩;rcases ni hj with rfl|rfl|rfl|rfl|rfl|rfl|rfl|rfl|rfl|rfl|rfl|rfl|rfl<;>rfl
end
section
variable {Fin:bK} {o:aM} {w:ae} {K:pz} {s:gQ} {lab:Nat->Nat}
theorem bm.unlock{f:FuncId}{Post:Value->aM->ae->Prop}(h:bm o w K s 1 lab)(tm:Array Value)(hl:∀w',bm o w' K s 0 lab->w'.heap.size=w.heap.size->(∀b,b≠K.kb->w'.heap[b]?=w.heap[b]?)->jK (XB au Fin 0) f Post ⟨tm,[]⟩ o w'):
  jK (XB au Fin 0) f Post ⟨tm,[{target:=.fn (.func 46) #[],args:=#[.pointer (some ⟨K.kb,0,none⟩)]}]⟩ o w :=
 wj K.kb 0 h.own (by rw[h.row.cell aa];rfl) (h.row.frozen 0) _ _ (hl _ h.lock (iZ w K.kb 0 (.int .i32 0)).1 (iZ w K.kb 0 (.int .i32 0)).2)
def rH(time:Nat)(n:Int):Prop:=1<=n/\n<=100/\(time:Int)+n<=100000
theorem MF(h:bm o w K s 0 lab)(n:Int):
  bz au (XB au Fin 0) 37 #[.pointer (some ⟨K.kb,0,none⟩),.int .i64 n] o w fun v o' w'=>o'=o/\w'.heap.size=w.heap.size/\(∀b,b≠K.kb->w'.heap[b]?=w.heap[b]?)/\((v=.int .i64 8/\¬rH s.time n/\bm o' w' K s 0 lab)\/(v=.int .i64 0/\rH s.time n/\bm o' w' K {s with time:=s.time+n.toNat} 0 lab)):=by
 have W:=bV (P:=au) (Fin:=Fin) (d:=0);refine oH W func37 ar ?_;walk_nrmf Tryz.f37;refine ax ?_;refine cd func45 (CO K.kb 0 h.own (by rw[h.row.cell aa];rfl) (h.row.frozen 0)) ?_;rintro v0 o0 w0 ⟨rfl,rfl,rfl⟩;have h1:=h.lock (lk':=1);have on1:=iZ w K.kb 0 (.int .i32 1);generalize w.setCell ⟨K.kb,0,none⟩ (.int .i32 1)=w1 at h1 on1 |-;refine ax ?_;refine mh W (d:={target:=.fn (.func 46) #[],args:=#[.pointer (some ⟨K.kb,0,none⟩)]}) rfl ar (fun w1=>fP) (fun w1=>fP) rfl ?_;walk_nrm;have ak3:=h.gT.2.2.1;have c6:w1.cell? ⟨K.kb,6,none⟩=some (.int .i64 s.time):=by rw[h1.row.cell aa];rfl
 have bad:¬rH s.time n->∀tm,tm.getD 4 undef=.int .i64 8->jK (XB au Fin 0) 37 (fun v o' w'=>o'=o0/\w'.heap.size=w.heap.size/\(∀b,b≠K.kb->w'.heap[b]?=w.heap[b]?)/\((v=.int .i64 8/\¬rH s.time n/\bm o' w' K s 0 lab)\/(v=.int .i64 0/\rH s.time n/\bm o' w' K {s with time:=s.time+n.toNat} 0 lab))) ⟨tm,[{target:=.fn (.func 46) #[],args:=#[.pointer (some ⟨K.kb,0,none⟩)]}]⟩ o0 w1:=fun hb tm ht =>
  h1.unlock tm fun w' hk hz hs=>mg W func37 rfl (resultsC_tmp (t:=4) ar _) ⟨rfl,hz.trans on1.1,fun b hb=>(hs b hb).trans (on1.2 b hb),.inl ⟨ht,hb,hk⟩⟩
 by_cases n1:n<1
 ·refine ax ?_;exact⟨.inr trivial,bad (fun q=>by have:=q.1;omega) _ rfl⟩
 by_cases n2:100<n
 ·refine ax ?_;exact⟨.inr trivial,bad (fun q=>by have:=q.2.1;omega) _ rfl⟩
 refine ax ?_;refine lh h1.aF h.own c6 fun _=>?_;walk_nrm;have uW:IntKind.i64.wrap ((s.time:Int)+n)=(s.time:Int)+n:=by rw[IntKind.wrap_i64]<;>omega
 by_cases n3:100000<(s.time:Int)+n
 ·refine ax ?_;exact⟨.inr trivial,bad (fun q=>by have:=q.2.2;omega) _ rfl⟩
 refine ax ?_;refine lh h1.aF h.own c6 fun _=>?_;refine ax ?_;refine du bQ h1.aF rfl ar ar ?_ rfl (R:=fun wl aV=>aV=wl.setCell ⟨K.kb,6,none⟩ (.int .i64 ((s.time:Int)+n))) (fun wl aT=>⟨_,?_,rfl⟩) fun wl aV w9 aT hR bN=>?_
 ·exact iV (bU h.own) dS
 ·have rl:=World.rowIs.of_block h1.row (aT.heap _ h.own);have e1:=(aT.cell h.own).trans c6;have f:=rl.frozen;simp[go_sem,e1,f,uW]
 have hO:eI K.kb wl aV:=by rw[hR];exact iZ _ _ _ _
 obtain⟨lO,oe,e9⟩:=bN.only aT h.own hO;have ml:=bN.aF;rw[e9] at ml |-;rw[hR] at oe;have hn:(s.time:Int)+n=((s.time+n.toNat:Nat):Int):=aa;have h9:bm o0 w9 K {s with time:=s.time+n.toNat} 1 lab:=by
  refine h1.put ml lO (World.rowIs.of_block (((World.rowIs.of_block h1.row (aT.heap _ h.own)).set 6 _).congr fun j hj=>?_) oe) rfl rfl ⟨dV,by have:=h.gT.2.2.2.1;simp;omega,h.gT.2.2.2.2.1⟩;rcases ni hj with rfl|rfl|rfl|rfl|rfl|rfl|rfl|rfl|rfl|rfl|rfl|rfl|rfl<;>simp[sk,hn]
 clear hR bN aT hO oe wl aV e9;refine ax ?_;refine⟨.inr trivial,h9.unlock _ fun w' hk hz hs=>mg W func37 rfl (resultsC_tmp (t:=4) ar _) ⟨rfl,hz.trans (lO.1.trans on1.1),fun b hb=>(hs b hb).trans ((lO.2 b hb).trans (on1.2 b hb)),.inr ⟨aH,⟨aa,aa,aa⟩,hk⟩⟩⟩
end
section
variable {Fin:bK} {o o':aM} {w w':ae} {K:pz} {s:gQ} {lk:Int} {lab:Nat->Nat}
structure cN(o:aM)(w:ae)(lab:Nat->Nat)(o':aM)(w':ae)(lab':Nat->Nat):Prop where
 br:bA (fun b=>lab b<=6) o w o' w'
 lab:∀b,b<w.heap.size->lab' b=lab b
theorem cN.trans{o2:aM}{w2:ae}{lab' fR:Nat->Nat}(h:cN o w lab o' w' lab')(k:cN o' w' lab' o2 w2 fR):cN o w lab o2 w2 fR:=by
 have hz:=h.br.size;refine⟨⟨k.br.aF,fun b hb=>k.br.more b (h.br.more b hb),fun b hb=>(k.br.new b hb).elim (fun q=>h.br.new b q) fun q=>.inr aa,by have:=k.br.size;omega,fun b hb hx=>?_⟩,fun b hb=>(k.lab b aa).trans (h.lab b hb)⟩;rw[k.br.same b aa (by rw[h.lab b hb];exact hx),h.br.same b hb hx]
theorem cN.of{ex:Nat->Prop}(h:bA ex o w o' w')(hx:∀b,ex b->lab b<=6):cN o w lab o' w' lab:=⟨h.mono hx,fun _ _=>rfl⟩
structure aal(o':aM)(w':ae)(K:pz)(s:gQ)(lk:Int)(l m:Nat):Prop where
 row:l≠0->m≠0->w'.rowIs K.kb 120 13 (sk K s lk)
 build:l≠1->m≠1->fL o' w' K.B s.fd s.old
 files:l≠2->m≠2->ir o' w' K.fb K.mT K.mS s.th s.st
 queue:l≠3->m≠3->Qs o' w' s.qv s.qn
 cX:l≠4->m≠4->Rc o' w' s.sv s.src
 reads:l≠5->m≠5->KX o' w' s.rv s.rd
 set:l≠6->m≠6->Dd o' w' s
theorem bm.parts(h:bm o w K s lk lab){ex:Nat->Prop}(hW:bA ex o w o' w')(l m:Nat)(hx:∀b,ex b->lab b=l\/lab b=m)(qA:l<=7:=by omega)(hm7:m<=7:=by omega):aal o' w' K s lk l m:=by
 obtain⟨a1,a2,a3,a4⟩:=h.all;have sm:∀b n,o b->lab b=n->l≠n->m≠n->w'.heap[b]?=w.heap[b]?:=fun b n hb hl h1 h2=>hW.same b (h.aF.lt hb) fun he=>(hx b he).elim (fun e=>h1 (by rw[<- e,hl])) fun e=>h2 (by rw[<- e,hl]);refine⟨fun h1 h2=>World.rowIs.of_block h.row (sm _ 0 h.own h.l0 h1 h2),fun h1 h2=>h.build.keep hW.more hW.size fun b hb=>sm b (ME b) (h.build.own b hb) (h.l1 b hb) (by unfold ME;split<;>omega) (by unfold ME;split<;>omega),fun h1 h2=>h.files.keep hW.more fun b hb=>sm b 2 ?_ (h.l2 b hb) h1 h2,fun h1 h2=>h.queue.keep hW.more hW.size fun g hg=>sm g 3 (a1 g hg) (h.l3 g hg) h1 h2,fun h1 h2=>h.cX.keep hW.more fun g hg=>sm g 4 (a2 g hg) (h.l4 g hg) h1 h2,fun h1 h2=>h.reads.keep hW.more hW.size fun g hg=>sm g 5 (a3 g hg) (h.l5 g hg) h1 h2,fun h1 h2=>h.set.keep hW.more fun b hb=>sm b 6 (a4 b hb) (h.l6 b hb) h1 h2⟩;rcases hb with rfl|rfl|rfl
 ·exact h.files.own.1
 ·exact h.files.own.2.1
 ·exact h.files.own.2.2
theorem Oa{α:Type}(x:af)(v:α):∀l:List (af×α),(gN l x v).length=if eT l x=none then l.length+1 else l.length
 | []=>by simp[gN,eT]
 | (k,u)::l=>by
  have:=Oa x v l;by_cases h:x=k
  ·simp[gN,eT,h]
  ·simp only[gN,eT,if_neg h,List.length_cons,this];split<;>rfl
theorem Oc{α:Type}(x:af):∀l:List (af×α),(lT l x).length<=l.length
 | []=>by simp[lT]
 | (k,u)::l=>by
  have:=Oc x l;by_cases h:x=k
  ·simp[lT,h]
  ·simp only[lT,if_neg h,List.length_cons];omega
theorem bm.Od(h:bm o w K s lk lab)(hW:bA (fun b=>b=K.mT\/b=K.mS) o w o' w'){th:List (af×af)}{st:List (af×Int)}(hf:ir o' w' K.fb K.mT K.mS th st)(hl:th.length<=12):bm o' w' K {s with th:=th,st:=st} lk lab/\cN o w lab o' w' lab:=by
 have hx:∀b,b=K.mT\/b=K.mS->lab b=2:=fun b hb=>h.l2 b (.inr hb);have P:=h.parts hW 2 2 fun b hb=>.inl (hx b hb);obtain⟨f1,f2,f3⟩:=h.gT;exact⟨⟨hW.aF,P.row aa aa,hW.more _ h.own,P.build aa aa,hf,P.queue aa aa,P.cX aa aa,P.reads aa aa,⟨(P.set aa aa).blk,(P.set aa aa).own,(P.set aa aa).res,(P.set aa aa).cl,(P.set aa aa).gT,(P.set aa aa).jS⟩,h.l0,h.l1,h.l2,h.l3,h.l4,h.l5,h.l6,f1,hl,f3⟩,.of hW fun b hb=>by rw[hx b hb];omega⟩
theorem TH(ts:List af)(lost:Bool)(x:af)(h:ts.length<=4):(jC ts lost x).1.length<=4:=by
 unfold jC;split
 ·exact h
 ·split
  ·exact h
  ·simp;omega
theorem bm.TJ(h:bm o w K s lk lab)(x:af){qJ:Value}(hW:bA (fun b=>b=K.kb\/s.qv.ownBlock=some b) o w o' w')(hq:Qs o' w' qJ (jC s.qn s.lost x).1)(hb:∀b,qJ.ownBlock=some b->b≠K.kb/\(s.qv.ownBlock=some b\/w.heap.size<=b))(hr:w'.rowIs K.kb 120 13 (fun j=>if j=4+1 then .bool (jC s.qn s.lost x).2 else if j=4 then qJ else sk K s lk j)):
  ∃lab',bm o' w' K {s with qv:=qJ,qn:=(jC s.qn s.lost x).1,lost:=(jC s.qn s.lost x).2} lk lab'/\cN o w lab o' w' lab':=by
 have hx:∀b,b=K.kb\/s.qv.ownBlock=some b->lab b=0\/lab b=3:=fun b hb=>hb.imp (fun e=>by rw[e];exact h.l0) fun e=>h.l3 b e;have P:=h.parts hW 0 3 hx;obtain⟨a1,a2,a3,a4⟩:=h.all;have lt:∀b,o b->b<w.heap.size:=fun b hb=>h.aF.lt hb;have lb:∀b,o b->(if w.heap.size<=b then 3 else lab b)=lab b:=fun b hb=>if_neg (by have:=lt b hb;omega);obtain⟨f1,f2,f3⟩:=h.gT;refine⟨fun b=>if w.heap.size<=b then 3 else lab b,⟨hW.aF,hr.congr fun j hj=>?_,hW.more _ h.own,P.build aa aa,P.files aa aa,hq,P.cX aa aa,P.reads aa aa,⟨(P.set aa aa).blk,(P.set aa aa).own,(P.set aa aa).res,(P.set aa aa).cl,(P.set aa aa).gT,(P.set aa aa).jS⟩,(lb _ h.own).trans h.l0,fun b hb=>(lb b (h.build.own b hb)).trans (h.l1 b hb),fun b hb=>(lb b ?_).trans (h.l2 b hb),fun b hq=>?_,fun b hb=>(lb b (a2 b hb)).trans (h.l4 b hb),fun b hb=>(lb b (a3 b hb)).trans (h.l5 b hb),fun b hb=>(lb b (a4 b hb)).trans (h.l6 b hb),TH _ _ _ f1,f2,f3⟩,⟨hW.mono fun b hb=>by rcases hx b hb with e|e<;>omega,fun b hb=>if_neg aa⟩⟩
 ·rcases ni hj with rfl|rfl|rfl|rfl|rfl|rfl|rfl|rfl|rfl|rfl|rfl|rfl|rfl<;>rfl
 ·rcases hb with rfl|rfl|rfl
  ·exact h.files.own.1
  ·exact h.files.own.2.1
  ·exact h.files.own.2.2
 ·rcases(hb b hq).2 with e|e
  ·exact(lb b (a1 b e)).trans (h.l3 b e)
  ·exact if_pos e
theorem bm.qne(h:bm o w K s lk lab):s.qv.ownBlock≠some K.kb:=fun e=>by
 have:=h.l3 _ e;rw[h.l0] at this;omega
theorem cN.lock(h:bm o w K s lk lab){lk':Int}:cN o w lab o (w.setCell ⟨K.kb,0,none⟩ (.int .i32 lk')) lab:=.of (bA.dG (ex:=(·=K.kb)) (h.lock (lk':=lk')).aF (iZ _ _ _ _) rfl) fun b hb=>by rw[hb,h.l0];omega
theorem TK(h:bm o w K s 0 lab)(x t:af)(hx:x.size<=1000000):
  bz au (XB au Fin 0) 21 #[.pointer (some ⟨K.kb,0,none⟩),.string x,.string t] o w fun v o' w'=>∃lab',cN o w lab o' w' lab'/\((∃e,v=.int .i64 e/\e≠0/\¬(isName x/\t.size<=12/\¬(eT s.th x=none/\12<=s.th.length))/\bm o' w' K s 0 lab') \/
   (v=.int .i64 0/\(isName x/\t.size<=12/\¬(eT s.th x=none/\12<=s.th.length))/\∃qJ,bm o' w' K {s with th:=gN s.th x t,st:=gN s.st x (IntKind.i64.wrap (cg s.st x+1)),qv:=qJ,qn:=(jC s.qn s.lost x).1,lost:=(jC s.qn s.lost x).2} 0 lab')):=by
 have W:=bV (P:=au) (Fin:=Fin) (d:=0);refine oH W func21 ar ?_;walk_nrmf Tryz.f21;refine ax ?_;refine cd func45 (CO K.kb 0 h.own (by rw[h.row.cell aa];rfl) (h.row.frozen 0)) ?_;rintro v0 o0 w0 ⟨rfl,rfl,rfl⟩;have h1:=h.lock (lk':=1);have S1:=cN.lock h (lk':=1);generalize w.setCell ⟨K.kb,0,none⟩ (.int .i32 1)=w1 at h1 S1 |-;refine ax ?_;refine mh W (d:={target:=.fn (.func 46) #[],args:=#[.pointer (some ⟨K.kb,0,none⟩)]}) rfl ar (fun w1=>fP) (fun w1=>fP) rfl ?_;refine ax ?_;have c3:w1.cell? ⟨K.kb,3,none⟩=some (.pointer (some ⟨K.fb,0,none⟩)):=by rw[h1.row.cell aa];rfl
 refine lh h1.aF h.own c3 fun _=>?_;refine ax ?_;refine cd func47 (WA h1.aF h1.files x t hx (by have:=h.gT.2.1;omega)) ?_;rintro v2 o2 w2 ⟨W2,hq⟩;have fail:∀e:Int,e≠0->ir o2 w2 K.fb K.mT K.mS s.th s.st->¬(isName x/\t.size<=12/\¬(eT s.th x=none/\12<=s.th.length))->∀tm,tm.getD 6 undef=.int .i64 e->jK (XB au Fin 0) 21 (fun v o' w'=>∃lab',cN o0 w lab o' w' lab'/\((∃e,v=.int .i64 e/\e≠0/\¬(isName x/\t.size<=12/\¬(eT s.th x=none/\12<=s.th.length))/\bm o' w' K s 0 lab') \/
   (v=.int .i64 0/\(isName x/\t.size<=12/\¬(eT s.th x=none/\12<=s.th.length))/\∃qJ,bm o' w' K {s with th:=gN s.th x t,st:=gN s.st x (IntKind.i64.wrap (cg s.st x+1)),qv:=qJ,qn:=(jC s.qn s.lost x).1,lost:=(jC s.qn s.lost x).2} 0 lab'))) ⟨tm,[{target:=.fn (.func 46) #[],args:=#[.pointer (some ⟨K.kb,0,none⟩)]}]⟩ o2 w2:=fun e he hf aam tm ht=>by
  obtain⟨k2,S2⟩:=h1.Od W2 hf h.gT.2.1;refine k2.unlock tm fun w' hk hz hs=>mg W func21 rfl (resultsC_tmp (t:=6) ar _) ⟨lab,(S1.trans S2).trans (.of (bA.dG (ex:=(·=K.kb)) hk.aF ⟨hz,hs⟩ rfl) fun b hb=>by rw[hb,h.l0];omega),.inl ⟨e,ht,he,aam,hk⟩⟩
 rcases hq with⟨rfl,q1,hf⟩|⟨rfl,q1,q2,hf⟩|⟨rfl,q1,q2,q3,q4,hf⟩|⟨rfl,q1,q2,q3,hf⟩
 ·walk_nrm;refine ax ?_;exact⟨.inr trivial,fail 2 aa hf (fun q=>q1 q.1) _ rfl⟩
 ·walk_nrm;refine ax ?_;exact⟨.inr trivial,fail 6 aa hf (fun q=>by have:=q.2.1;omega) _ rfl⟩
 ·walk_nrm;refine ax ?_;exact⟨.inr trivial,fail 1 aa hf (fun q=>q.2.2 ⟨q3,q4⟩) _ rfl⟩
 ·obtain⟨k2,S2⟩:=h1.Od W2 hf (by
   rw[Oa];have:=h.gT.2.1;split
   ·rename_i hn;have:¬12<=s.th.length:=fun q=>q3 ⟨hn,q⟩;omega
   ·omega)
  refine ax ?_;refine cd func48 (Yj k2.aF K.kb 4 120 13 _ s.qv s.qn s.lost x k2.own k2.queue h.qne k2.row aa rfl rfl (by have:=h.gT.1;omega)) ?_;rintro v3 o3 w3 ⟨rfl,W3,qJ,Bc,nn,UJ⟩;obtain⟨lab',k3,S3⟩:=k2.TJ x W3 Bc nn UJ;refine ax ?_;refine⟨.inr trivial,k3.unlock _ fun w' hk hz hs=>mg W func21 rfl (resultsC_tmp (t:=6) ar _) ⟨lab',((S1.trans S2).trans S3).trans (.of (bA.dG (ex:=(·=K.kb)) hk.aF ⟨hz,hs⟩ rfl) fun b hb=>by rw[hb,k3.l0];omega),.inr ⟨aH,⟨q1,q2,q3⟩,qJ,hk⟩⟩⟩
theorem J1(h:bm o w K s 0 lab)(x:af)(hx:x.size<=1000000):
  bz au (XB au Fin 0) 36 #[.pointer (some ⟨K.kb,0,none⟩),.string x] o w fun v o' w'=>∃lab',cN o w lab o' w' lab'/\((∃e,v=.int .i64 e/\e≠0/\(¬(isName x/\eT s.th x≠none)/\(isName x->e=7))/\bm o' w' K s 0 lab') \/
   (v=.int .i64 0/\(isName x/\eT s.th x≠none)/\∃qJ,bm o' w' K {s with th:=lT s.th x,st:=gN s.st x (IntKind.i64.wrap (cg s.st x+1)),qv:=qJ,qn:=(jC s.qn s.lost x).1,lost:=(jC s.qn s.lost x).2} 0 lab')):=by
 have W:=bV (P:=au) (Fin:=Fin) (d:=0);refine oH W func36 ar ?_;walk_nrmf Tryz.f36;refine ax ?_;refine cd func45 (CO K.kb 0 h.own (by rw[h.row.cell aa];rfl) (h.row.frozen 0)) ?_;rintro v0 o0 w0 ⟨rfl,rfl,rfl⟩;have h1:=h.lock (lk':=1);have S1:=cN.lock h (lk':=1);generalize w.setCell ⟨K.kb,0,none⟩ (.int .i32 1)=w1 at h1 S1 |-;refine ax ?_;refine mh W (d:={target:=.fn (.func 46) #[],args:=#[.pointer (some ⟨K.kb,0,none⟩)]}) rfl ar (fun w1=>fP) (fun w1=>fP) rfl ?_;refine ax ?_;have c3:w1.cell? ⟨K.kb,3,none⟩=some (.pointer (some ⟨K.fb,0,none⟩)):=by rw[h1.row.cell aa];rfl
 refine lh h1.aF h.own c3 fun _=>?_;refine ax ?_;refine cd func62 (Qu h1.aF h1.files x hx (by have:=h.gT.2.1;omega)) ?_;rintro v2 o2 w2 ⟨W2,hq⟩;have fail:∀e:Int,e≠0->ir o2 w2 K.fb K.mT K.mS s.th s.st->(¬(isName x/\eT s.th x≠none)/\(isName x->e=7))->∀tm,tm.getD 4 undef=.int .i64 e->jK (XB au Fin 0) 36 (fun v o' w'=>∃lab',cN o0 w lab o' w' lab'/\((∃e,v=.int .i64 e/\e≠0/\(¬(isName x/\eT s.th x≠none)/\(isName x->e=7))/\bm o' w' K s 0 lab') \/
   (v=.int .i64 0/\(isName x/\eT s.th x≠none)/\∃qJ,bm o' w' K {s with th:=lT s.th x,st:=gN s.st x (IntKind.i64.wrap (cg s.st x+1)),qv:=qJ,qn:=(jC s.qn s.lost x).1,lost:=(jC s.qn s.lost x).2} 0 lab'))) ⟨tm,[{target:=.fn (.func 46) #[],args:=#[.pointer (some ⟨K.kb,0,none⟩)]}]⟩ o2 w2:=fun e he hf aam tm ht=>by
  obtain⟨k2,S2⟩:=h1.Od W2 hf h.gT.2.1;refine k2.unlock tm fun w' hk hz hs=>mg W func36 rfl (resultsC_tmp (t:=4) ar _) ⟨lab,(S1.trans S2).trans (.of (bA.dG (ex:=(·=K.kb)) hk.aF ⟨hz,hs⟩ rfl) fun b hb=>by rw[hb,h.l0];omega),.inl ⟨e,ht,he,aam,hk⟩⟩
 rcases hq with⟨rfl,q1,hf⟩|⟨rfl,q1,q2,hf⟩|⟨rfl,q1,q2,hf⟩
 ·walk_nrm;refine ax ?_;exact⟨.inr trivial,fail 2 aa hf ⟨fun q=>q1 q.1,fun q=>absurd q q1⟩ _ rfl⟩
 ·walk_nrm;refine ax ?_;exact⟨.inr trivial,fail 7 aa hf ⟨fun q=>q.2 q2,fun _=>rfl⟩ _ rfl⟩
 ·obtain⟨k2,S2⟩:=h1.Od W2 hf (by have:=Oc x s.th;have:=h.gT.2.1;omega);refine ax ?_;refine cd func48 (Yj k2.aF K.kb 4 120 13 _ s.qv s.qn s.lost x k2.own k2.queue h.qne k2.row aa rfl rfl (by have:=h.gT.1;omega)) ?_;rintro v3 o3 w3 ⟨rfl,W3,qJ,Bc,nn,UJ⟩;obtain⟨lab',k3,S3⟩:=k2.TJ x W3 Bc nn UJ;refine ax ?_;refine⟨.inr trivial,k3.unlock _ fun w' hk hz hs=>mg W func36 rfl (resultsC_tmp (t:=4) ar _) ⟨lab',((S1.trans S2).trans S3).trans (.of (bA.dG (ex:=(·=K.kb)) hk.aF ⟨hz,hs⟩ rfl) fun b hb=>by rw[hb,k3.l0];omega),.inr ⟨aH,⟨q1,q2⟩,qJ,hk⟩⟩⟩
theorem WB:Rc o w (.slice none 0 0) []:=⟨⟨none,0,0,rfl,fun _=>rfl,fun h=>absurd rfl h,fun k hk=>by simp at hk⟩,iP,aj⟩
theorem Oe:KX o w (.slice none 0 0) []:=⟨⟨0,aU _,by simp[eZ],.inl ⟨rfl,rfl⟩⟩,iP,aj⟩
def gQ.stand(s:gQ)(phase since:Nat):gQ:={s with phase:=phase,since:=since,sv:=.slice none 0 0,src:=[],rv:=.slice none 0 0,rd:=[],ck:=0}
theorem bm.J2(h:bm o w K s lk lab){phase since:Nat}(hF:bM au L0 o w')(hO:eI K.kb w w')(hr:w'.rowIs K.kb 120 13 (sk K (s.stand phase since) lk))(hs:since<=s.time):bm o w' K (s.stand phase since) lk lab:=by
 have hW:bA (·=K.kb) o w o w':=bA.dG hF hO rfl;have P:=h.parts hW 0 0 fun b hb=>.inl (by rw[hb];exact h.l0);have q6:=P.set aa aa;obtain⟨f1,f2,f3,-⟩:=h.gT;exact⟨hF,hr,h.own,P.build aa aa,P.files aa aa,P.queue aa aa,WB,Oe,⟨q6.blk,q6.own,q6.res,q6.cl,q6.gT,q6.jS⟩,h.l0,h.l1,h.l2,h.l3,(fun b hb=>by cases hb),(fun b hb=>by cases hb),h.l6,f1,f2,f3,hs,aU _,aU _⟩
theorem Fz(h:w.rowIs K.kb 120 13 (sk K s lk))(phase since:Nat):(((((w.setCell ⟨K.kb,7,none⟩ (.int .i64 phase)).setCell ⟨K.kb,8,none⟩ (.int .i64 since)).setCell ⟨K.kb,9,none⟩ (.slice none 0 0)).setCell ⟨K.kb,10,none⟩ (.slice none 0 0)).setCell ⟨K.kb,11,none⟩ (.int .i64 0)).rowIs K.kb 120 13 (sk K (s.stand phase since) lk):=by
 refine(((((h.set 7 _).set 8 _).set 9 _).set 10 _).set 11 _).congr fun j hj=>?_;rcases ni hj with rfl|rfl|rfl|rfl|rfl|rfl|rfl|rfl|rfl|rfl|rfl|rfl|rfl<;>rfl
theorem TL(w:ae)(b i1 i2 i3 i4 i5:Nat)(x1 x2 x3 x4 x5:Value):eI b w (((((w.setCell ⟨b,i1,none⟩ x1).setCell ⟨b,i2,none⟩ x2).setCell ⟨b,i3,none⟩ x3).setCell ⟨b,i4,none⟩ x4).setCell ⟨b,i5,none⟩ x5):=((uE w b i1 i2 i3 x1 x2 x3).at i4 x4).at i5 x5
theorem sCl{phase since:Nat}:Cl au L0 o (.agg #[.int .i64 phase,.int .i64 since,.slice none 0 0,.slice none 0 0,.int .i64 0]):=fS (vs:=[_,_,_,_,_]) (fun x hx=>by
 simp at hx;rcases hx with rfl|rfl|rfl|rfl
 ·exact dS
 ·exact dS
 ·exact iP
 ·exact dS)
theorem TM(h:bm o w K s lk lab):
  bz au (XB au Fin 0) 102 #[.pointer (some ⟨K.kb,0,none⟩)] o w fun v o' w'=>v=.tuple #[]/\cN o w lab o' w' lab/\bm o' w' K (s.stand 1 s.time) lk lab:=by
 have W:=bV (P:=au) (Fin:=Fin) (d:=0);refine bC W func102 ar ?_;walk_nrmf Tryz.f102;have c6:w.cell? ⟨K.kb,6,none⟩=some (.int .i64 s.time):=by rw[h.row.cell aa];rfl
 refine ax ?_;refine lh h.aF h.own c6 fun _=>?_;refine ax ?_;refine du bQ h.aF rfl ar ar ?_ rfl (R:=fun wl aV=>aV=((((wl.setCell ⟨K.kb,7,none⟩ (.int .i64 (1:Nat))).setCell ⟨K.kb,8,none⟩ (.int .i64 s.time)).setCell ⟨K.kb,9,none⟩ (.slice none 0 0)).setCell ⟨K.kb,10,none⟩ (.slice none 0 0)).setCell ⟨K.kb,11,none⟩ (.int .i64 0)) (fun wl aT=>⟨_,?_,rfl⟩) fun wl aV w9 aT hR bN=>?_
 ·refine iV ?_ ?_
  ·exact bU h.own
  ·exact sCl (phase:=1)
 ·have rl:=World.rowIs.of_block h.row (aT.heap _ h.own);have e7:=rl.cell (i:=7) aa;have e8:=rl.cell (i:=8) aa;have e9:=rl.cell (i:=9) aa;have XG:=rl.cell (i:=10) aa;have Rv:=rl.cell (i:=11) aa;have f:=rl.frozen;simp[go_sem,e7,e8,e9,XG,Rv,f]
 have hO:eI K.kb wl aV:=by rw[hR];exact TL _ _ _ _ _ _ _ _ _ _ _ _
 obtain⟨lO,oe,e9⟩:=bN.only aT h.own hO;have ml:=bN.aF;rw[e9] at ml |-;rw[hR] at oe;have h9:=h.J2 ml lO (World.rowIs.of_block (Fz (World.rowIs.of_block h.row (aT.heap _ h.own)) 1 s.time) oe) (ag _);clear hR bN aT hO oe wl aV e9;refine ax ?_;exact⟨.inl trivial,trivial,.tuple #[],fun w1=>results_none ah _ _,aj,.of (bA.dG (ex:=(·=K.kb)) ml lO rfl) fun b hb=>by rw[hb,h.l0];omega,h9⟩
theorem bm.yI(h:bm o w K s lk lab)(hW:bA (fun _=>False) o w o' w'):bm o' w' K s lk lab/\cN o w lab o' w' lab:=by
 have P:=h.parts hW 7 7 fun b hb=>hb.elim;exact⟨⟨hW.aF,P.row aa aa,hW.more _ h.own,P.build aa aa,P.files aa aa,P.queue aa aa,P.cX aa aa,P.reads aa aa,P.set aa aa,h.l0,h.l1,h.l2,h.l3,h.l4,h.l5,h.l6,h.gT⟩,.of hW fun b hb=>hb.elim⟩
theorem bm.aside(h:bm o w K s lk lab){ex:Nat->Prop}(hW:bA ex o w o' w')(hx:∀b,ex b->lab b=7):bm o' w' K s lk lab:=by
 have P:=h.parts hW 7 7 fun b hb=>.inl (hx b hb);exact⟨hW.aF,P.row aa aa,hW.more _ h.own,P.build aa aa,P.files aa aa,P.queue aa aa,P.cX aa aa,P.reads aa aa,P.set aa aa,h.l0,h.l1,h.l2,h.l3,h.l4,h.l5,h.l6,h.gT⟩
theorem bm.J3(h:bm o w K s lk lab){lab':Nat->Nat}(hl:∀b,o b->lab' b=lab b):bm o w K s lk lab':=by
 obtain⟨a1,a2,a3,a4⟩:=h.all;refine⟨h.aF,h.row,h.own,h.build,h.files,h.queue,h.cX,h.reads,h.set,(hl _ h.own).trans h.l0,fun b hb=>(hl b (h.build.own b hb)).trans (h.l1 b hb),fun b hb=>(hl b ?_).trans (h.l2 b hb),fun b hb=>(hl b (a1 b hb)).trans (h.l3 b hb),fun b hb=>(hl b (a2 b hb)).trans (h.l4 b hb),fun b hb=>(hl b (a3 b hb)).trans (h.l5 b hb),fun b hb=>(hl b (a4 b hb)).trans (h.l6 b hb),h.gT⟩;rcases hb with rfl|rfl|rfl
 ·exact h.files.own.1
 ·exact h.files.own.2.1
 ·exact h.files.own.2.2
theorem bm.built(h:bm o w K s lk lab)(hW:bA (·=K.B.Rb) o w o' w'){ij:Nat->Option (Nat×List V)}(hB:fL o' w' K.B s.fd ij){mid:Nat}(hm:∀b,nB K.B s.fd ij b->b<mid)(ho:∀i,i<K.B.rs.length->∃b vs,ij i=some (b,vs)/\((∃vs',s.old i=some (b,vs'))\/w.heap.size<=b)):
  ∃lab',bm o' w' K {s with old:=ij} lk lab'/\cN o w lab o' w' lab'/\∀b,w.heap.size<=b->mid<=b->lab' b=6:=by
 have hx:∀b,b=K.B.Rb->lab b=1:=fun b hb=>(h.l1 b (.inr (.inr (.inl hb)))).trans (if_neg (by have:=h.build.apart.2.2.2.1;omega));have P:=h.parts hW 1 1 fun b hb=>.inl (hx b hb);obtain⟨a1,a2,a3,a4⟩:=h.all;have lb:∀b,o b->(if w.heap.size<=b then(if mid<=b then 6 else 1) else lab b)=lab b:=fun b hb=>if_neg (by have:=h.aF.lt hb;omega);have q6:=P.set aa aa;refine⟨fun b=>if w.heap.size<=b then(if mid<=b then 6 else 1) else lab b,⟨hW.aF,P.row aa aa,hW.more _ h.own,hB,P.files aa aa,P.queue aa aa,P.cX aa aa,P.reads aa aa,⟨q6.blk,q6.own,q6.res,q6.cl,q6.gT,q6.jS⟩,(lb _ h.own).trans h.l0,fun b hb=>?_,fun b hb=>(lb b ?_).trans (h.l2 b hb),fun b hb=>(lb b (a1 b hb)).trans (h.l3 b hb),fun b hb=>(lb b (a2 b hb)).trans (h.l4 b hb),fun b hb=>(lb b (a3 b hb)).trans (h.l5 b hb),fun b hb=>(lb b (a4 b hb)).trans (h.l6 b hb),h.gT⟩,⟨hW.mono fun b hb=>by rw[hx b hb];omega,fun b hb=>if_neg aa⟩,fun b h1 h2=>by simp[h1,h2]⟩
 ·by_cases hz:w.heap.size<=b
  ·have:=hm b hb;have h4:=h.build.apart.2.2.2.1;have cy:=h.aF.lt (h.build.own K.B.Rb (.inr (.inr (.inl rfl))));simp only[hz,if_true];exact(if_neg aa).trans (if_neg aa).symm
  ·simp only[hz,if_false];rcases hb with q|q|q|q|q|q|⟨i,vs,hi,q⟩
   ·exact h.l1 b (.inl q)
   ·exact h.l1 b (.inr (.inl q))
   ·exact h.l1 b (.inr (.inr (.inl q)))
   ·exact h.l1 b (.inr (.inr (.inr (.inl q))))
   ·exact h.l1 b (.inr (.inr (.inr (.inr (.inl q)))))
   ·exact h.l1 b (.inr (.inr (.inr (.inr (.inr (.inl q))))))
   ·obtain⟨b',vs',e1,e2⟩:=ho i hi;have q':ij i=some (b,vs):=q;rw[e1] at q';cases q';rcases e2 with⟨vs2,e2⟩|e2
    ·exact h.l1 b (.inr (.inr (.inr (.inr (.inr (.inr ⟨i,vs2,hi,e2⟩))))))
    ·exact absurd e2 hz
 ·rcases hb with rfl|rfl|rfl
  ·exact h.files.own.1
  ·exact h.files.own.2.1
  ·exact h.files.own.2.2
theorem bm.Qv(h:bm o w K s lk lab){s':gQ}(hF:bM au L0 o w')(hO:eI K.kb w w')(hr:w'.rowIs K.kb 120 13 (sk K s' lk))(aif:Dd o w s')(he:s'={s with pb:=s'.pb,num:=s'.num,lu:=s'.lu,res:=s'.res,mH:=s'.mH,jS:=s'.jS})(h6:∀b,yH s' b->lab b=6):bm o w' K s' lk lab:=by
 have hW:bA (·=K.kb) o w o w':=bA.dG hF hO rfl;have P:=h.parts hW 0 0 fun b hb=>.inl (by rw[hb];exact h.l0);have q6:=aif.keep (o':=o) (w':=w') (fun _ q=>q) fun b hb=>hO.2 b fun e=>by have:=h6 b hb;rw[e,h.l0] at this;omega
 rw[he] at hr q6 h6 |-;exact⟨hF,hr,h.own,P.build aa aa,P.files aa aa,P.queue aa aa,P.cX aa aa,P.reads aa aa,q6,h.l0,h.l1,h.l2,h.l3,h.l4,h.l5,h6,h.gT⟩
theorem J4:∀(ss:List (V×Int)) (i:Nat) (h:i<ss.length),(eZ ss)[i*3]?=some (.bool ss[i].1.1)/\(eZ ss)[i*3+1]?=some (.string ss[i].1.2)/\(eZ ss)[i*3+2]?=some (.int .i64 ss[i].2)
 | [],i,h=>by simp at h
 |a::ss,0,h=>by simp[eZ]
 |a::ss,i+1,h=>by
  have:=J4 ss i (by simpa using h);have e:eZ (a::ss)=.bool a.1.1 :: .string a.1.2 :: .int .i64 a.2::eZ ss:=by simp[eZ]
  rw[e];have e1:(i+1)*3=i*3+1+1+1:=aa;have e2:(i+1)*3+1=i*3+1+1+1+1:=aa;have e3:(i+1)*3+2=i*3+2+1+1+1:=aa;rw[e3,e2,e1];simpa using this
theorem KX.view{v:Value}{ss:List (V×Int)}(h:KX o w v ss)(hF:bM au L0 o w):∃p b c,v=.slice p ss.length c/\(ss≠[]->p=some ⟨b,0,none⟩/\o b)/\oP w b ss:=by
 obtain⟨lo,vF,cj⟩:=h.row;have hr:=cj;obtain⟨hl,hc⟩:=hr;rcases hc with⟨rfl,hn⟩|⟨g,cap,cur,rfl,h1,h2,h3,h4,h5,h6⟩
 ·have e:ss=[]:=List.length_eq_zero_iff.1 hn;subst e;exact⟨none,0,0,rfl,fun q=>absurd rfl q,fun i hi=>by simp at hi⟩
 ·refine⟨_,g,cap,rfl,fun _=>⟨rfl,GX hF h.cl⟩,fun i hi=>?_⟩;obtain⟨q1,q2,q3⟩:=J4 ss i hi;have ca:=fun j hj=>World.ownsRow.cellAt cj j hj;exact⟨(ca (i*3) aa).trans q1,(ca (i*3+1) aa).trans q2,(ca (i*3+2) aa).trans q3⟩
def nS(B:vk)(F:cY)(file:af->V):List (af×V):=(List.range B.rs.length).map fun i=>(qH F.cp i,lu B F file i)
theorem Of{B:vk}{F:cY}{file:af->V}{R:Nat}(h:w.rowIs R 65 (B.rs.length*3) (gW (qH F.cp) (lu B F file) B.rs.length)):nC w R (nS B F file):=fun i hi=>by
 have ma:i<B.rs.length:=by simpa[nS] using hi
 have h0:(i*3)%3=0:=aa;have h1:(i*3+1)%3=1:=aa;have h2:(i*3+2)%3=2:=aa;have d0:(i*3)/3=i:=aa;have d1:(i*3+1)/3=i:=aa;have d2:(i*3+2)/3=i:=aa;refine⟨?_,?_,?_⟩
 ·rw[h.cell aa];simp[gW,h0,d0,nS,show i*3<B.rs.length*3 by omega]
 ·rw[h.cell aa];simp[gW,h1,d1,nS,show i*3+1<B.rs.length*3 by omega]
 ·rw[h.cell aa];simp[gW,h2,d2,nS,show i*3+2<B.rs.length*3 by omega]
theorem uJ{lo:Nat}{ts:List af}{v:Value}(h:ig lo ts v w):∃p l c,v=.slice p l c:=by
 rcases h.own with⟨e,-⟩|⟨g,cap,e,-⟩
 ·exact⟨_,_,_,e⟩
 ·exact⟨_,_,_,e⟩
theorem Qw[Payload](h:bm o w K s lk lab)(lo:Nat)(F:cY)(DO:s.fd=some (lo,F))(file:af->V)(py:∀x,(file x).2.size<=100)(TC:s.rd.map (·.1)=(fh K.B.NM K.B.rs).map file):
  bz au (XB au Fin 0) 101 #[.pointer (some ⟨K.kb,0,none⟩)] o w fun v o' w'=>v=.agg #[.int .i64 6,.string aO]/\∃lab' ij Qx sn sr,cN o w lab o' w' lab'/\(∀i,i<K.B.rs.length->∃b,ij i=some (b,mG K.B F file i))/\bm o' w' K {s.stand 0 0 with old:=ij,pb:=Qx,num:=IntKind.i64.wrap (s.num+1),lu:=sn,res:=nS K.B F file,mH:=sr,jS:=rG (qH F.cp) (mH s.old (mG K.B F file)) K.B.rs.length} lk lab':=by
 have W:=bV (P:=au) (Fin:=Fin) (d:=0);refine eA W func101 ar ?_;walk_nrmf Tryz.f101;refine ax ?_;refine dt bQ h.aF rfl ar ar mW rfl (R:=fun wl v aV=>v=.pointer (some ⟨wl.heap.size,0,none⟩)/\aV=wl.alloc (Obj.cells #[.int .i64 0,.string aO] 32)) (fun wl aT=>⟨_,_,by simp[go_sem];rfl,rfl,rfl⟩) fun wl v1 aV w1 aT hR bN=>?_;obtain⟨rfl,hR⟩:=hR;obtain⟨z1,k1,tF⟩:=bN.alloc h.aF aT hR;have lv:=bN.aF;rw[aT.size];clear hR bN aT wl aV;have tA:bA (fun _=>False) o w (grow o w w1) w1:=⟨lv,jk,fun b hb=>hb.imp id fun q=>q.1,aa,fun b hb _=>k1 b hb⟩;obtain⟨dp,TN⟩:∃l:Nat->Nat,l=fun b=>if b=w.heap.size then 7 else lab b:=⟨_,rfl⟩
 have yJ:∀b,b<w.heap.size->dp b=lab b:=fun b hb=>by rw[TN];exact if_neg aa
 have qA:dp w.heap.size=7:=by rw[TN];exact if_pos rfl
 obtain⟨h1,S1⟩:=(h.J3 fun b hb=>yJ b (h.aF.lt hb)).yI tA;clear TN;have wR:grow o w w1 w.heap.size:=.inr ⟨ag _,aa⟩;generalize grow o w w1=o1 at *;obtain⟨p,rb,rc,KY,Yp,Cn⟩:=h1.reads.view h1.aF;have X7:s.rd.length=(fh K.B.NM K.B.rs).length:=by simpa using congrArg List.length TC
 have c2:w1.cell? ⟨K.kb,2,none⟩=some (.pointer (some ⟨K.B.bb,0,none⟩)):=by rw[h1.row.cell aa];rfl
 have c10:w1.cell? ⟨K.kb,10,none⟩=some (.slice p s.rd.length rc):=by rw[h1.row.cell aa];exact congrArg some KY
 have TO:=h1.aF.lt h1.own;refine ax ?_;have Pu:=h1.build;rw[DO] at Pu;have Vg:=h1.reads.cl;rw[KY] at Vg;refine dQ mixed ah [some none,some none,some none,some (some (.pointer (some ⟨K.B.bb,0,none⟩))),some none,some none,some none,some none,some (some (.slice p s.rd.length rc)),none,none,some none,some none,some none,some none,some none]
  (S:=fun σ o' w'=>(σ 10=none/\bA (fun _=>False) o1 w1 o' w'/\∀y,σ 9=some y->∃Vb,y=.slice (some ⟨Vb,0,none⟩) s.rd.length s.rd.length/\w1.heap.size<=Vb/\o' Vb/\eY w' Vb (s.rd.map (·.1))) \/
   (∃y,σ 10=some y/\∃o2 w2 R rv ij,bA (fun _=>False) o1 w1 o2 w2/\y=.tuple #[.slice (some ⟨R,0,none⟩) K.B.rs.length K.B.rs.length,rv]/\bA (·=K.B.Rb) o2 w2 o' w'/\fL o' w' K.B (some (lo,F)) ij/\(∀i,i<K.B.rs.length->∃b,ij i=some (b,mG K.B F file i)/\((∃vs,s.old i=some (b,vs))\/w2.heap.size<=b)) /\
    (w2.heap.size<=R/\o' R/\w'.rowIs R 65 (K.B.rs.length*3) (gW (qH F.cp) (lu K.B F file) K.B.rs.length))/\ig w2.heap.size (rG (qH F.cp) (mH s.old (mG K.B F file)) K.B.rs.length) rv w'/\Cl au L0 o' rv/\(∀g l c,rv=.slice (some ⟨g,0,none⟩) l c->o' g)/\∃mid,w2.heap.size<=mid/\mid<=R/\(∀b,nB K.B (some (lo,F)) ij b->b<mid)/\∀g,rv.ownBlock=some g->mid<=g)) ?_ fun v=>?_
 ·exact .inl ⟨rfl,bA.refl h1.aF,fun y hy=>by cases hy⟩
 refine dP ?_;refine cC ?_;refine cm bQ rfl rfl rfl ar ar (fun σ o' w' H hS=>?_) ?_
 ·rcases hS with⟨nA,hW,-⟩|⟨y,nA,-⟩
  ·have mf:=hW.more _ h1.own;exact tE hW.aF mf ((cell_of (hW.same _ TO id)).trans c2)
  ·rw[H.qE [] 10 ah] at nA;cases nA
 refine cC ?_;refine cm bQ rfl rfl rfl ar ar (fun σ o' w' H hS=>?_) ?_
 ·rcases hS with⟨nA,hW,-⟩|⟨y,nA,-⟩
  ·have mf:=hW.more _ h1.own;exact tE hW.aF mf ((cell_of (hW.same _ TO id)).trans c10)
  ·rw[H.qE [9] 10 ah] at nA;cases nA
 walk_nrm;refine ve rfl rfl ar rfl func141 ah rfl (av:=#[.slice p s.rd.length rc]) aH (fun σ o' w' H h9 hS=>?_) ?_
 ·rcases hS with⟨nA,hW,-⟩|⟨y,nA,-⟩
  ·refine(GU hW.aF rb rc p s.rd (by have:=h1.reads.gT;omega) (fun q=>⟨(Yp q).1,hW.more _ (Yp q).2⟩) (fun i hi=>?_) (Vg.up hW.more)).mono ?_
   ·have dH:s.rd≠[]:=fun q=>by rw[q] at hi;simp at hi
    exact yA Cn (hW.same _ (h1.aF.lt (Yp dH).2) id) i hi
   ·rintro y o2 w2 ⟨N,rfl,z,hv⟩;refine .inl ⟨by simpa[fM] using nA,hW.trans (bA.eJ N),fun y hy=>?_⟩;simp only[fM,if_true,ay] at hy;exact⟨w'.heap.size,hy.symm,hW.size,by rw[N.own];exact .inr ⟨ag _,z⟩,hv⟩
  ·rw[H.xm 10 ah] at nA;cases nA
 walk_nrm;refine ve rfl rfl ar rfl func42 ah rfl (av:=#[.pointer (some ⟨K.B.bb,0,none⟩),v 9]) aH (fun σ o' w' H nA hS=>?_) ?_
 ·rcases hS with⟨-,hW,h9⟩|⟨y,q,-⟩
  ·obtain⟨Vb,hy,hVz,hVo,hVr⟩:=h9 _ (H.done 9 ah rfl);have Jz:=h1.aF.lt (Pu.own K.B.Rb (.inr (.inr (.inl rfl))));rw[TC] at hVr;rw[hy];refine(NY hW.aF K.B lo F s.old (Pu.keep hW.more hW.size fun b hb=>hW.same _ (h1.aF.lt (Pu.own b hb)) id) file py Vb s.rd.length hVo aa hVr (by simp[X7])).mono ?_;rintro y o2 w2 ⟨R,rv,ij,q⟩;exact .inr ⟨y,by simp[fM],o',w',R,rv,ij,hW,q⟩
  ·rw[nA] at q;cases q
 refine cC ?_;obtain⟨ra,rb',rM⟩:∃a b,(∃a' b',v 10=.tuple #[a',b'])->v 10=.tuple #[a,b]:=by
  by_cases q:∃a' b',v 10=.tuple #[a',b']
  ·obtain⟨a,b,e⟩:=q;exact⟨a,b,fun _=>e⟩
  ·exact⟨.tuple #[],.tuple #[],fun q'=>absurd q' q⟩
 refine yh (v 10=.tuple #[ra,rb']) ra rfl rfl rfl ar (fun σ o' w' H hS=>?_) (fun hv w1=>?_) (fun hv w1=>?_) fun y18 aii=>?_
 ·have d:=H.IY [11] 10 ah rfl;rcases hS with⟨nA,-⟩|⟨y,nA,o2,w2,R,rv,ij,-,e,-⟩
  ·rw[d] at nA;cases nA
  ·rw[d] at nA;cases nA;exact rM ⟨_,_,e⟩
 ·simp[go_sem,Act.eval,hv]
 ·simp[go_sem,Act.eval,hv]
 walk_nrm;refine yh (v 10=.tuple #[ra,rb']) rb' rfl rfl rfl ar (fun σ o' w' H hS=>?_) (fun hv w1=>?_) (fun hv w1=>?_) fun y19 aij=>?_
 ·have d:=H.IY [11] 10 ah rfl;rcases hS with⟨nA,-⟩|⟨y,nA,o2,w2,R,rv,ij,-,e,-⟩
  ·rw[d] at nA;cases nA
  ·rw[d] at nA;cases nA;exact rM ⟨_,_,e⟩
 ·simp[go_sem,Act.eval,hv]
 ·simp[go_sem,Act.eval,hv]
 refine cC ?_;refine cC ?_;refine cB fun σ o3 w3 mn hS=>?_;rcases hS with⟨nA,-⟩|⟨y,nA,o2,w2,R,rv,ij,uf,e,sx,hB,hold,⟨hRz,hRo,ad4⟩,KY,ad5,aim,mid,hm1,XE,hm3,hm4⟩
 ·rw[mn 10 eu rfl] at nA;cases nA
 rw[mn 10 eu rfl] at nA;cases nA;have WC:=rM ⟨_,_,e⟩;obtain rfl:=aii WC;obtain rfl:=aij WC;rw[e] at WC;cases WC;simp only[iH,dI,if_true,if_false,reduceIte,Nat.reduceEqDiff];obtain⟨h2,S2⟩:=h1.yI uf;obtain⟨kL,h3,S3,L3⟩:=h2.built sx (by rw[DO];exact hB) (mid:=mid) (by rw[DO];exact hm3) fun i hi=>by
  obtain⟨b,e,q⟩:=hold i hi;exact⟨b,_,e,q⟩
 have c12:w3.cell? ⟨K.kb,12,none⟩=some (.pointer (some ⟨s.pb,0,none⟩)):=by rw[h3.row.cell aa];rfl
 have XN:=h3.set.blk;have Q2:=h3.set.own;have cn:w3.cell? ⟨s.pb,0,none⟩=some (.int .i64 s.num):=(eO XN).1;have hk3:=h3.own;obtain⟨rp,rl,eR,rfl⟩:=uJ KY;refine ax ?_;refine cd func49 (Fq K.kb 12 s.pb _ _ _ c12 XN) ?_;rintro v0 o0 w0 ⟨rfl,rfl,rfl⟩;refine ax ?_;refine lh h3.aF Q2 cn fun _=>?_;refine ax ?_;refine dt bQ h3.aF rfl ar ar ?_ rfl (R:=fun wl v aV=>v=.pointer (some ⟨wl.heap.size,0,none⟩)/\aV=wl.alloc (Obj.cells #[.int .i64 (IntKind.i64.wrap (s.num+1)),.slice (some ⟨R,0,none⟩) K.B.rs.length K.B.rs.length,.slice rp rl eR] 59)) (fun wl aT=>⟨_,_,fP,rfl,rfl⟩) fun wl v1 aV w4 aT hR bN=>?_
 ·refine mU ?_;exact fS (vs:=[_,_,_]) (fun x hx=>by
   simp at hx;rcases hx with rfl|rfl|rfl
   ·exact dS
   ·exact dY hRo
   ·exact ad5)
 obtain⟨rfl,hR⟩:=hR;obtain⟨z4,k4,yG⟩:=bN.alloc h3.aF aT hR;have tj:=bN.aF;rw[aT.size];clear hR bN aT wl aV;have J5:bA (fun _=>False) o0 w0 (grow o0 w0 w4) w4:=⟨tj,jk,fun b hb=>hb.imp id fun q=>q.1,aa,fun b hb _=>k4 b hb⟩;obtain⟨h4,S4⟩:=h3.yI J5;have tC:grow o0 w0 w4 w0.heap.size:=.inr ⟨ag _,aa⟩;have hRl:=h3.aF.lt hRo;have Bq:=J5.more _ hRo;generalize grow o0 w0 w4=o4 at *;walk_nrm;refine cd func61 (C2 K.kb 12 w0.heap.size _ _ _ (.pointer (some ⟨s.pb,0,none⟩)) (by rw[h4.row.cell aa];rfl) (h4.row.frozen 12) yG) ?_;rintro v0 o5 w5 ⟨rfl,rfl,rfl⟩;have h5:=h4.Qv (s':={s with old:=ij,pb:=w0.heap.size,num:=IntKind.i64.wrap (s.num+1),lu:=.slice (some ⟨R,0,none⟩) K.B.rs.length K.B.rs.length,res:=nS K.B F file,mH:=.slice rp rl eR,jS:=rG (qH F.cp) (mH s.old (mG K.B F file)) K.B.rs.length}) (Go.Conc.bM.setCell h4.aF (bU (off:=0) tC)) (iZ _ _ _ _) ((h4.row.set 12 _).congr fun j hj=>?_) ?_ rfl ?_;rotate_left
 ·rcases ni hj with rfl|rfl|rfl|rfl|rfl|rfl|rfl|rfl|rfl|rfl|rfl|rfl|rfl<;>rfl
 ·refine⟨yG,tC,⟨some ⟨R,0,none⟩,R,K.B.rs.length,by simp[nS],(fun q=>by cases q),fun _=>⟨rfl,Bq⟩,Of (World.rowIs.of_block ad4 (k4 R hRl))⟩,dY Bq,?_,⟨?_,ad5.up J5.more,?_⟩⟩
  ·have:=h.build.rules.gT;simp only[nS,List.length_map,List.length_range];omega
  ·rcases KY.own with⟨e,e2⟩|⟨g,cap,e,g1,g2,g3⟩
   ·exact⟨none,0,0,by rw[e2];exact e,fun _=>e2,fun q=>absurd e2 q,fun i hi=>by rw[e2] at hi;simp at hi⟩
   ·exact⟨_,g,cap,e,(fun q=>by cases q),fun _=>⟨rfl,J5.more _ (aim g _ _ e)⟩,dc g3 (k4 g g2)⟩
  ·have:=h.build.rules.gT;exact aW (CX _ _ _) aa
 ·rintro b (rfl|q|q)
  ·exact L3 w0.heap.size (by have:=S3.br.size;omega) aa
  ·cases q;exact L3 _ hRz XE
  ·have:=hm4 b q;exact L3 _ aa this
 have S5:cN o5 w4 kL o5 (w4.setCell ⟨K.kb,12,none⟩ (.pointer (some ⟨w0.heap.size,0,none⟩))) kL:=.of (bA.dG (ex:=(·=K.kb)) h5.aF (iZ _ _ _ _) rfl) fun b hb=>by rw[hb,h4.l0];omega
 generalize w4.setCell ⟨K.kb,12,none⟩ (.pointer (some ⟨w0.heap.size,0,none⟩))=w5 at h5 S5 |-;have S15:=(((S1.trans S2).trans S3).trans S4).trans S5;have wZ:o5 w.heap.size:=J5.more _ (sx.more _ (uf.more _ wR));have Bp:kL w.heap.size=7:=((S2.trans S3).lab _ aa).trans qA;have MC:w5.heap[w.heap.size]?=some (.cells #[.int .i64 0,.string aO] 32):=by
  rw[((((S2.trans S3).trans S4).trans S5).br).same _ aa (by rw[qA];omega)];exact tF
 clear S2 S3 S4 S5 h2 h3 h4 uf sx J5 L3 hm3 hm4;refine ax ?_;refine du bQ h5.aF rfl ar ar ?_ rfl (R:=fun wl aV=>aV=((((wl.setCell ⟨K.kb,7,none⟩ (.int .i64 (0:Nat))).setCell ⟨K.kb,8,none⟩ (.int .i64 (0:Nat))).setCell ⟨K.kb,9,none⟩ (.slice none 0 0)).setCell ⟨K.kb,10,none⟩ (.slice none 0 0)).setCell ⟨K.kb,11,none⟩ (.int .i64 0)) (fun wl aT=>⟨_,?_,rfl⟩) fun wl aV w9 aT hR bN=>?_
 ·refine iV ?_ ?_
  ·exact bU h5.own
  ·exact sCl (phase:=0) (since:=0)
 ·have rl:=World.rowIs.of_block h5.row (aT.heap _ h5.own);have e7:=rl.cell (i:=7) aa;have e8:=rl.cell (i:=8) aa;have e9:=rl.cell (i:=9) aa;have XG:=rl.cell (i:=10) aa;have Rv:=rl.cell (i:=11) aa;have f:=rl.frozen;simp[go_sem,e7,e8,e9,XG,Rv,f]
 have hO:eI K.kb wl aV:=by rw[hR];exact TL _ _ _ _ _ _ _ _ _ _ _ _
 obtain⟨lO,oe,e9⟩:=bN.only aT h5.own hO;have ml:=bN.aF;rw[e9] at ml |-;rw[hR] at oe;have h9:=h5.J2 ml lO (World.rowIs.of_block (Fz (World.rowIs.of_block h5.row (aT.heap _ h5.own)) 0 0) oe) (aU _);have S9:=S15.trans (.of (bA.dG (ex:=(·=K.kb)) ml lO rfl) fun b hb=>by rw[hb,h5.l0];omega);have dH:w.heap.size≠K.kb:=fun e=>by have:=h5.l0;rw[<- e,Bp] at this;omega
 have kbA:w9.heap[w.heap.size]?=some (.cells #[.int .i64 0,.string aO] 32):=(lO.2 _ dH).trans MC;clear hR bN aT hO oe wl aV e9 h5 S15 MC lO;refine ax ?_;refine mr 6 aO h9.aF wZ kbA fun wA AA zS sQ=>?_;have hWA:bA (·=w.heap.size) o5 w9 o5 wA:=bA.dG AA zS rfl;have hA:=h9.aside hWA fun b hb=>by rw[hb];exact Bp
 refine ax ?_;have c9:∀n,(wA.at n).cell? ⟨w.heap.size,0,none⟩=some (.int .i64 6)/\(wA.at n).cell? ⟨w.heap.size,1,none⟩=some (.string aO):=fun n=>⟨(dO sQ).1,(dO sQ).2.1⟩;refine⟨.inr trivial,trivial,.agg #[.int .i64 6,.string aO],wS (fun n=>?_) (fun n e he=>?_),rfl,kL,ij,w0.heap.size,_,_,?_,fun i hi=>?_,hA⟩
 ·obtain⟨c0,c1⟩:=c9 n;simp[results,results101,go_sem,c0,c1]
 ·obtain⟨c0,c1⟩:=c9 n;simp[results,results101,go_sem,c0,c1] at he;rcases he with rfl|rfl;all_goals exact⟨_,_,_,rfl,wZ⟩
 ·refine⟨⟨AA,S9.br.more,S9.br.new,by rw[zS.1];exact S9.br.size,fun b hb hx=>?_⟩,fun b hb=>(S9.lab b hb).trans (yJ b hb)⟩;rw[zS.2 b aa];exact S9.br.same b hb (by rw[yJ b hb];exact hx)
 ·obtain⟨b,e,-⟩:=hold i hi;exact⟨b,e⟩
end
end Go.Proofs.Kz
