import Derived.Test.YtgjekaaknjgnmaaGreatDoorAe
import Derived.Deep.SlicePairs
import Derived.MakeChecks
import Derived.MapKept
import Derived.OpenShut
import Derived.Test.YtgjekaaknjgnmaaGreatDoorRows
import Derived.WideMake
set_option linter.all false
set_option maxHeartbeats 40000000
set_option maxRecDepth 200000
namespace Go.Proofs.Kz
open Go.Proofs.Tryz
open Go.Proofs.Tryz renaming prog → ar
open _root_.ByteArray renaming empty → aN
open Go.Ren Go.Conc Go.Proofs Go.ConcN
section
variable {Fin:bH} {o:aM} {w:ae}
theorem uS.keep{lo:Nat}{NM:aL->List ah}{b5:List aL}{St Or:Nat}{cw:Nat->Nat}{sv v:Value}{w w':ae}(h:uS lo NM b5 St Or cw sv v w)(hz:w.heap.size<=w'.heap.size)(e:∀b,lo<=b->b<w.heap.size->w'.heap[b]?=w.heap[b]?):uS lo NM b5 St Or cw sv v w' where
 val:=h.val
 steps:=iW h.steps (e St h.st.1 h.st.2) (fun s hs=>e _ (h.ib s hs) (h.steps.lt s hs)) hz
 ord:=World.rowIs.of_block h.ord (e Or h.or.1 h.or.2)
 src:=kJ h.src (ag _) hz e
 st:=⟨h.st.1,by have:=h.st.2;omega⟩
 or:=⟨h.or.1,by have:=h.or.2;omega⟩
 ib:=h.ib
structure kQ(o:aM)(w:ae)(p:Option Addr)(Ru c:Nat)(rs:List aL)(NM:aL->List ah)(NB:aL->Nat):Prop where
 gT:rs.length<=8
 ptr:rs≠[]->p=some ⟨Ru,0,none⟩
 own:o Ru
 at_:dX w Ru rs
 clr:∀r∈rs,Cl ar L0 o (.slice r.sa r.sl r.sc)
 cl:Cl ar L0 o (.slice p rs.length c)
 nm:∀r∈rs,r.sl=(NM r).length/\(NM r≠[]->r.sa=some ⟨NB r,0,none⟩/\o (NB r))/\dP w (NB r) 0 (NM r)/\(NM r).length<=4
theorem kQ.keep{p:Option Addr}{Ru c:Nat}{rs:List aL}{NM:aL->List ah}{NB:aL->Nat}{o':aM}{w':ae}(h:kQ o w p Ru c rs NM NB)(mW:∀b,o b->o' b)(e0:w'.heap[Ru]?=w.heap[Ru]?)(e:∀r∈rs,NM r≠[]->w'.heap[NB r]?=w.heap[NB r]?):kQ o' w' p Ru c rs NM NB where
 gT:=h.gT
 ptr:=h.ptr
 own:=mW _ h.own
 at_:=gp h.at_ e0
 clr r hr:=(h.clr r hr).up mW
 cl:=h.cl.up mW
 nm r hr:=by
  obtain⟨h1,h2,h3,h4⟩:=h.nm r hr;refine⟨h1,fun hn=>⟨(h2 hn).1,mW _ (h2 hn).2⟩,fun k hk=>?_,h4⟩;have cV:NM r≠[]:=fun e=>by rw[e] at hk;simp at hk
  exact cI h3 (e r hr cV) k hk
def KQ(o:aM)(w:ae)(rs:List aL)(NM:aL->List ah)(v:Value)(o':aM)(w':ae):Prop :=
 fw o w v o' w'/\∃b5 St Or cw sv,b5.Perm rs/\(∀i j (hi:i<b5.length) (hj:j<b5.length),i<j->¬qx b5[j] b5[i]<0)/\uS w.heap.size NM b5 St Or cw sv v w'
theorem mP{w:ae}{b:Nat}{t:TypeId}{c0 c1 c2 c3 c4 c5 c6 c7:Value}(h:w.heap[b]?=some (.cells #[c0,c1,c2,c3,c4,c5,c6,c7] t)):w.cell? ⟨b,0,none⟩=some c0/\w.cell? ⟨b,1,none⟩=some c1/\w.cell? ⟨b,2,none⟩=some c2/\w.cell? ⟨b,3,none⟩=some c3/\w.cell? ⟨b,4,none⟩=some c4/\w.cell? ⟨b,5,none⟩=some c5/\w.cell? ⟨b,6,none⟩=some c6/\w.cell? ⟨b,7,none⟩=some c7/\∀k,w.frozen? ⟨b,k,none⟩=false:=by
 simp[World.cell?,World.frozen?,h]
abbrev Ji(c0 c1 c2 c3 c4 c5 c6 c7:Value):Obj:=.cells #[c0,c1,c2,c3,c4,c5,c6,c7] 150
theorem Uw(hF:bE ar L0 o w)(bb bx Ru c:Nat)(p:Option Addr)(rs:List aL)(NM:aL->List ah)(NB:aL->Nat)(hR:kQ o w p Ru c rs NM NB)(tt:o bb)(HQ:o bx)(c1 c2 c3 c4 c5 c6 c7:Value)(hb:w.heap[bb]?=some (Ji (.slice p rs.length c) c1 c2 c3 c4 c5 c6 c7))(hx:w.cell? ⟨bx,0,none⟩=some (.pointer (some ⟨bb,0,none⟩))):
  bp ar (XB ar Fin 0) 111 #[.pointer (some ⟨bx,0,none⟩)] o w fun v o' w'=>v=.tuple #[]/\bE ar L0 o' w'/\∃y0 y1 y2 w2,KQ o w rs NM (.agg #[y0,y1,y2]) o' w2/\cN bb w2 w'/\w'.heap[bb]?=some (Ji (.slice p rs.length c) c1 c2 c3 y0 y1 y2 c7):=by
 have W:=bJ (P:=ar) (Fin:=Fin) (d:=0);refine bA W func111 ai ?_;walk_nrmf Tryz.f111;have gv:=hF.lt tt;have hxw:=hF.lt HQ;refine dq mixed af [some (some (.pointer (some ⟨bb,0,none⟩))),some (some (.pointer (some ⟨bb,0,none⟩))),some none,some none,some (some (.slice p rs.length c)),none,some none,some none,none]
  (S:=fun σ o' w'=>(σ 8=none/\(o'=grow o w w'/\bE ar L0 o' w'/\w.heap.size<=w'.heap.size/\(∀b,b<w.heap.size->w'.heap[b]?=w.heap[b]?))/\(σ 5=none->o'=o/\w'=w)/\∀y,σ 5=some y->KQ o w rs NM y o' w') \/
   (σ 8≠none/\bE ar L0 o' w'/\∃y0 y1 y2 w2,KQ o w rs NM (.agg #[y0,y1,y2]) o' w2/\cN bb w2 w'/\w'.heap[bb]?=some (Ji (.slice p rs.length c) c1 c2 c3 y0 y1 y2 c7))) ?_ fun v=>?_
 ·exact .inl ⟨rfl,⟨(bS _ _).symm,hF,ag _,fun _ _=>rfl⟩,fun _=>⟨rfl,rfl⟩,fun y hy=>by cases hy⟩
 refine dp ?_
 iterate 2
  refine bK aX rfl rfl rfl ai ai (fun σ o' w' H hS=>?_) ?_
  ·rcases hS with⟨h8,⟨e1,e2,e3,e4⟩,-,-⟩|⟨h8,-⟩
   ·have kB:o' bx:=by rw[e1];exact .inl HQ
    refine⟨e2,cj (aH kB),fun wl aE=>?_⟩;simp[go_sem,(aE.cell kB).trans ((cell_of (e4 _ hxw)).trans hx)]
   ·exact absurd (H.sg 8 af) h8
 refine bO ?_;refine bK aX rfl rfl rfl ai ai (fun σ o' w' H hS=>?_) ?_
 ·rcases hS with⟨h8,⟨e1,e2,e3,e4⟩,-,-⟩|⟨h8,-⟩
  ·have kB:o' bb:=by rw[e1];exact .inl tt
   refine⟨e2,fun y hy=>?_,fun wl aE=>?_⟩
   ·simp[Op.operands] at hy;subst hy;simp[Act.eval];exact aH kB
   ·simp[go_sem,(aE.cell kB).trans ((cell_of (e4 _ gv)).trans (mP hb).1)]
  ·exact absurd (H.sg 8 af) h8
 walk_nrm;refine rj rfl rfl ai rfl func112 af rfl (av:=#[.slice p rs.length c]) aC (fun σ o' w' H h5 hS=>?_) ?_
 ·rcases hS with⟨h8,-,hS,-⟩|⟨h8,-⟩
  ·obtain⟨rfl,rfl⟩:=hS h5;refine(Fj hF Ru c p rs hR.gT hR.ptr hR.own hR.at_ hR.clr hR.cl NM NB hR.nm).mono fun y o2 w2 hq=>?_;refine .inl ⟨by simpa[dB] using h8,⟨hq.1.own,hq.1.ay,hq.1.size,hq.1.old⟩,fun h=>by simp[dB] at h,fun z hz=>?_⟩;simp only[dB,if_true,en] at hz;subst hz;exact hq
  ·exact absurd (H.sg 8 af) h8
 refine bO ?_;refine jg aX rfl rfl rfl ai ai (fun σ o' w' H h8 hS=>?_) ?_
 ·rcases hS with⟨-,⟨e1,e2,e3,e4⟩,-,h6⟩|⟨h8',-⟩
  ·have hq:=h6 _ (H.done 5 af rfl);have EN:=hq;obtain⟨N,b5,St,Or,cw,sv,-,-,hL⟩:=EN;have ow:=hL.val;generalize hol:(dK (lH NM b5) b5.length b5.length).length=ol at ow;have kB:o' bb:=by rw[e1];exact .inl tt
   have mo:=(e4 bb gv).trans hb;refine⟨e2,fun y hy=>?_,fun wl aI=>aI=((wl.setCell ⟨bb,4,none⟩ (.slice (some ⟨St,0,none⟩) b5.length b5.length)).setCell ⟨bb,5,none⟩ (.slice (some ⟨Or,0,none⟩) ol b5.length)).setCell ⟨bb,6,none⟩ sv,fun wl aE=>⟨_,?_,rfl⟩,fun wl aI w2 aE Yi ba=>?_⟩
   ·simp[Op.operands] at hy;rcases hy with rfl|rfl
    ·simp[Act.eval];exact aH kB
    ·simp[Act.eval];exact N.cl
   ·obtain⟨-,-,-,-,d4,d5,d6,-,f⟩:=mP ((aE.heap _ kB).trans mo);have hs:=hL.src;rcases hs with⟨rfl,-⟩|⟨g,cap,rfl,-⟩
    ·simp[go_sem,ow,d4,d5,d6,f]
    ·simp[go_sem,ow,d4,d5,d6,f]
   ·have hO:cN bb wl aI:=by rw[Yi];exact uR _ _ _ _ _ _ _ _
    obtain⟨on,kb,eg⟩:=ba.only aE kB hO;have rh:=ba.ay;rw[eg] at rh |-;refine .inr ⟨by simp[dB],rh,_,_,_,w',ow▸hq,on,?_⟩;rw[kb,Yi];simp[World.setCell,er,(aE.heap _ kB).trans mo]
  ·exact absurd h8 h8'
 walk_nrm;refine cd fun σ o' w' kP hS=>?_;rcases hS with⟨h8,-⟩|⟨-,e1,e2⟩
 ·rw[kP 8 dh rfl] at h8;cases h8
 exact⟨.inl trivial,rfl,.tuple #[],fun w1=>results_none af _ _,rfl,e1,e2⟩
theorem kQ.lock{p:Option Addr}{Ru c bb:Nat}{rs:List aL}{NM:aL->List ah}{NB:aL->Nat}{w':ae}(h:kQ o w p Ru c rs NM NB)(hO:cN bb w w')(h1:Ru≠bb)(h2:∀r∈rs,NM r≠[]->NB r≠bb):kQ o w' p Ru c rs NM NB :=
 h.keep (fun _ hb=>hb) (hO.2 _ h1) fun r hr hn=>hO.2 _ (h2 r hr hn)
theorem Yj{w:ae}{b:Nat}{t:TypeId}{c0 c1 c2 c3 c4 c5 c6 c7:Value}(h:w.heap[b]?=some (.cells #[c0,c1,c2,c3,c4,c5,c6,c7] t))(x:Value):(w.setCell ⟨b,1,none⟩ x).heap[b]?=some (.cells #[c0,x,c2,c3,c4,c5,c6,c7] t)/\(w.setCell ⟨b,2,none⟩ x).heap[b]?=some (.cells #[c0,c1,x,c3,c4,c5,c6,c7] t):=by
 simp[World.setCell,er,h]
structure rB(o:aM)(w:ae)(bb:Nat)(rs:List aL)(NM:aL->List ah)(blk:Value->Value->Value->Obj)(o':aM)(w':ae):Prop where
 ay:bE ar L0 o' w'
 own:o'=grow o w w'
 size:w.heap.size<=w'.heap.size
 old:∀b,b<w.heap.size->b≠bb->w'.heap[b]?=w.heap[b]?
 lay:∃b5 St Or cw sv y0 y1 y2,b5.Perm rs/\(∀i j (hi:i<b5.length) (hj:j<b5.length),i<j->¬qx b5[j] b5[i]<0)/\uS w.heap.size NM b5 St Or cw sv (.agg #[y0,y1,y2]) w'/\w'.heap[bb]?=some (blk y0 y1 y2)
theorem Rh(hF:bE ar L0 o w)(bb bx Ru c:Nat)(p:Option Addr)(rs:List aL)(NM:aL->List ah)(NB:aL->Nat)(hR:kQ o w p Ru c rs NM NB)(tt:o bb)(HQ:o bx)(cV:bx≠bb)(Uk:Ru≠bb)(hNn:∀r∈rs,NM r≠[]->NB r≠bb)(c3 c4 c5 c6 c7:Value)(hb:w.heap[bb]?=some (Ji (.slice p rs.length c) (.int .u32 0) (.int .i32 0) c3 c4 c5 c6 c7))(hx:w.cell? ⟨bx,0,none⟩=some (.pointer (some ⟨bb,0,none⟩))):
  bp ar (XB ar Fin 0) 143 #[.pointer (some ⟨bb,1,none⟩),.func (.func 111) #[] #[.pointer (some ⟨bx,0,none⟩)]] o w fun v o' w'=>v=.tuple #[]/\rB o w bb rs NM (fun y0 y1 y2=>Ji (.slice p rs.length c) (.int .u32 1) (.int .i32 0) c3 y0 y1 y2 c7) o' w':=by
 have W:=bJ (P:=ar) (Fin:=Fin) (d:=0);refine lO W func143 ai ?_;walk_nrmf Tryz.f143;obtain⟨-,d1,d2,-,-,-,-,-,fz⟩:=mP hb;refine aA ?_;refine aF W rfl ai rfl func45 af rfl aC rfl ((yf bb 2 tt d2 (fz 2)).mono ?_);rintro v1 o1 w1 ⟨rfl,rfl,rfl⟩;refine aA ?_;refine kH W (d:={target:=.fn (.func 46) #[],args:=#[.pointer (some ⟨bb,2,none⟩)]}) rfl ai (fun w1=>fa) (fun w1=>fa) rfl ?_;refine aA ?_;have Ag:=(Yj hb (.int .i32 1)).2;have mw:bE ar L0 o1 (w.setCell ⟨bb,2,none⟩ (.int .i32 1)):=Go.Conc.bE.setCell hF bN;have hO1:cN bb w (w.setCell ⟨bb,2,none⟩ (.int .i32 1)):=fW _ _ _ _;generalize w.setCell ⟨bb,2,none⟩ (.int .i32 1)=w1 at *;refine aF W rfl ai rfl func142 af rfl aC rfl ((vx bb 1 0 (mP Ag).2.1).mono ?_);rintro v2 o2 w2 ⟨rfl,rfl,rfl⟩;refine aA ?_;refine kH W (d:={target:=.fn (.func 183) #[],args:=#[.pointer (some ⟨bb,1,none⟩),.bool true]}) rfl ai (fun w1=>fa) (fun w1=>fa) rfl ?_;refine aA ?_;refine Kg W rfl ai rfl (cap:=#[.pointer (some ⟨bx,0,none⟩)]) aC func111 af rfl aC rfl ((Uw mw bb bx Ru c p rs NM NB (hR.lock hO1 Uk hNn) tt HQ (.int .u32 0) (.int .i32 1) c3 c4 c5 c6 c7 Ag ((cell_of (hO1.2 _ cV)).trans hx)).mono ?_);rintro v3 o3 w3 ⟨rfl,qu,y0,y1,y2,w4,⟨N,b5,St,Or,cw,sv,h1,h2,hL⟩,hO3,vE⟩;refine aA ?_;have hz:=N.size;have TT:=hO1.1;have hz3:=hO3.1;have Uf:=hF.lt tt;have afL:o3 bb:=by rw[N.own];exact .inl tt
 obtain⟨-,k1,k2,-,-,-,-,-,kf⟩:=mP vE;have hb4:=(Yj vE (.int .u32 1)).1;have hb5:=(Yj hb4 (.int .i32 0)).2;have hO5:cN bb w3 ((w3.setCell ⟨bb,1,none⟩ (.int .u32 1)).setCell ⟨bb,2,none⟩ (.int .i32 0)):=iB _ _ _ _ _ _;have SQ:bE ar L0 o3 ((w3.setCell ⟨bb,1,none⟩ (.int .u32 1)).setCell ⟨bb,2,none⟩ (.int .i32 0)):=Go.Conc.bE.setCell (Go.Conc.bE.setCell qu bN) bN;refine⟨.inl trivial,KP bb 1 0 k1 (kf 1) qu _ _ (uU bb 2 afL (mP hb4).2.2.1 ((mP hb4).2.2.2.2.2.2.2.2 2) _ _ (lF W func143 rfl (v:=.tuple #[]) (fun w1=>results_none af _ _) ⟨rfl,SQ,?_,?_,fun b mo hn=>?_,b5,St,Or,cw,sv,y0,y1,y2,h1,h2,?_,hb5⟩))⟩
 ·rw[N.own];unfold grow;rw[hO5.1,hz3,TT]
 ·rw[hO5.1];omega
 ·rw[hO5.2 b hn,hO3.2 b hn,N.old b aa,hO1.2 b hn]
 ·rw[TT] at hL;exact hL.keep (by rw[hO5.1];omega) fun b Ag pE=>by rw[hO5.2 b aa,hO3.2 b aa]
theorem afN(hF:bE ar L0 o w)(bb bx Ru c:Nat)(p:Option Addr)(rs:List aL)(NM:aL->List ah)(NB:aL->Nat)(hR:kQ o w p Ru c rs NM NB)(tt:o bb)(HQ:o bx)(cV:bx≠bb)(Uk:Ru≠bb)(hNn:∀r∈rs,NM r≠[]->NB r≠bb)(c3 c4 c5 c6 c7:Value)(hb:w.heap[bb]?=some (Ji (.slice p rs.length c) (.int .u32 0) (.int .i32 0) c3 c4 c5 c6 c7))(hx:w.cell? ⟨bx,0,none⟩=some (.pointer (some ⟨bb,0,none⟩))):
  bp ar (XB ar Fin 0) 110 #[.pointer (some ⟨bb,1,none⟩),.func (.func 111) #[] #[.pointer (some ⟨bx,0,none⟩)]] o w fun v o' w'=>v=.tuple #[]/\rB o w bb rs NM (fun y0 y1 y2=>Ji (.slice p rs.length c) (.int .u32 1) (.int .i32 0) c3 y0 y1 y2 c7) o' w':=by
 have W:=bJ (P:=ar) (Fin:=Fin) (d:=0);refine bA W func110 ai ?_;walk_nrmf Tryz.f110;refine aA ?_;refine aF W rfl ai rfl func142 af rfl aC rfl ((vx bb 1 0 (mP hb).2.1).mono ?_);rintro v2 o2 w2 ⟨rfl,rfl,rfl⟩;refine aA ?_;refine aF W rfl ai rfl func143 af rfl aC rfl ((Rh hF bb bx Ru c p rs NM NB hR tt HQ cV Uk hNn c3 c4 c5 c6 c7 hb hx).mono ?_);rintro v3 o3 w3 ⟨rfl,hP⟩;refine aA ?_;exact⟨.inl trivial,trivial,.tuple #[],fun w1=>results_none af _ _,rfl,hP⟩
theorem Ux(bb:Nat)(f c0 c2 c3 c4 c5 c6 c7:Value)(hb:w.heap[bb]?=some (Ji c0 (.int .u32 1) c2 c3 c4 c5 c6 c7)):
  bp ar (XB ar Fin 0) 110 #[.pointer (some ⟨bb,1,none⟩),f] o w fun v o' w'=>v=.tuple #[]/\o'=o/\w'=w:=by
 have W:=bJ (P:=ar) (Fin:=Fin) (d:=0);refine bA W func110 ai ?_;walk_nrmf Tryz.f110;refine aA ?_;refine aF W rfl ai rfl func142 af rfl aC rfl ((vx bb 1 1 (mP hb).2.1).mono ?_);rintro v2 o2 w2 ⟨rfl,rfl,rfl⟩;refine aA ?_;exact⟨.inl trivial,trivial,.tuple #[],fun w1=>results_none af _ _,an⟩
theorem uS.low{lo Ra:Nat}{NM:aL->List ah}{b5:List aL}{St Or:Nat}{cw:Nat->Nat}{sv v:Value}{w:ae}(h:uS lo NM b5 St Or cw sv v w)(hl:Ra<=lo):uS Ra NM b5 St Or cw sv v w where
 val:=h.val
 steps:=h.steps
 ord:=h.ord
 src:=kJ h.src hl (ag _) fun _ _ _=>rfl
 st:=⟨by have:=h.st.1;omega,h.st.2⟩
 or:=⟨by have:=h.or.1;omega,h.or.2⟩
 ib s hs:=by have:=h.ib s hs;omega
theorem rB.after{w1:ae}{bb:Nat}{rs:List aL}{NM:aL->List ah}{blk:Value->Value->Value->Obj}{o':aM}{w':ae}(h:rB (grow o w w1) w1 bb rs NM blk o' w')(hz:w.heap.size<=w1.heap.size)(hold:∀b,b<w.heap.size->w1.heap[b]?=w.heap[b]?):rB o w bb rs NM blk o' w' where
 ay:=h.ay
 own:=by rw[h.own];exact grow_grow hz rfl h.size
 size:=by have:=h.size;omega
 old b hb hn:=(h.old b aa hn).trans (hold b hb)
 lay:=by
  obtain⟨b5,St,Or,cw,sv,y0,y1,y2,h1,h2,h3,h4⟩:=h.lay;exact⟨b5,St,Or,cw,sv,y0,y1,y2,h1,h2,h3.low hz,h4⟩
theorem KR(hF:bE ar L0 o w)(bb Ru c:Nat)(p:Option Addr)(rs:List aL)(NM:aL->List ah)(NB:aL->Nat)(hR:kQ o w p Ru c rs NM NB)(tt:o bb)(Uk:Ru≠bb)(hNn:∀r∈rs,NM r≠[]->NB r≠bb)(c3 c4 c5 c6 c7:Value)(hb:w.heap[bb]?=some (Ji (.slice p rs.length c) (.int .u32 0) (.int .i32 0) c3 c4 c5 c6 c7)):
  bp ar (XB ar Fin 0) 73 #[.pointer (some ⟨bb,0,none⟩)] o w fun v o' w'=>v=.pointer (some ⟨bb,4,none⟩)/\rB o w bb rs NM (fun y0 y1 y2=>Ji (.slice p rs.length c) (.int .u32 1) (.int .i32 0) c3 y0 y1 y2 c7) o' w':=by
 have W:=bJ (P:=ar) (Fin:=Fin) (d:=0);refine bA W func73 ai ?_;walk_nrmf Tryz.f73;refine aA ?_;refine cq aX hF rfl ai ai ?_ rfl (R:=fun wl v aI=>v=.pointer (some ⟨wl.heap.size,0,none⟩)/\aI=wl.alloc (Obj.cells #[.pointer (some ⟨bb,0,none⟩)] 208)) (fun wl aE=>⟨_,_,fa,rfl,rfl⟩) fun wl v1 aI w1 aE Jh ba=>?_
 ·exact cj (aH tt)
 obtain⟨rfl,Jh⟩:=Jh;obtain⟨z1,k1,qK⟩:=ba.alloc hF aE Jh;have mw:=ba.ay;rw[aE.size];clear Jh ba aE wl aI;have gv:=hF.lt tt;have ui:grow o w w1 w.heap.size:=.inr ⟨ag _,aa⟩;refine aA ?_;have HQ:=(BP qK).1;refine rdC mw ui HQ fun _=>?_;refine aA ?_;have Yi:kQ (grow o w w1) w1 p Ru c rs NM NB:=hR.keep iK (k1 _ (hF.lt hR.own)) fun r hr hn=>k1 _ (hF.lt ((hR.nm r hr).2.1 hn).2);refine aF W rfl ai rfl func110 af rfl aC rfl ((afN mw bb w.heap.size Ru c p rs NM NB Yi (.inl tt) ui aa Uk hNn c3 c4 c5 c6 c7 ((k1 _ gv).trans hb) HQ).mono ?_);rintro v2 o2 w2 ⟨rfl,hP⟩;refine aA ?_;have Zp:o2 w.heap.size:=by rw[hP.own];exact .inl ui
 have afO:=(cell_of (a:=⟨w.heap.size,0,none⟩) (hP.old w.heap.size aa aa)).trans HQ;refine rdC hP.ay Zp afO fun _=>?_;refine aA ?_;exact⟨.inr trivial,trivial,_,resultsC_tmp (t:=2) ai _,aC,hP.after aa k1⟩
theorem BT(hF:bE ar L0 o w)(bb:Nat)(tt:o bb)(c0 c2 c3 c4 c5 c6 c7:Value)(hb:w.heap[bb]?=some (Ji c0 (.int .u32 1) c2 c3 c4 c5 c6 c7)):
  bp ar (XB ar Fin 0) 73 #[.pointer (some ⟨bb,0,none⟩)] o w fun v o' w'=>v=.pointer (some ⟨bb,4,none⟩)/\fw o w v o' w':=by
 have W:=bJ (P:=ar) (Fin:=Fin) (d:=0);refine bA W func73 ai ?_;walk_nrmf Tryz.f73;refine aA ?_;refine cq aX hF rfl ai ai ?_ rfl (R:=fun wl v aI=>v=.pointer (some ⟨wl.heap.size,0,none⟩)/\aI=wl.alloc (Obj.cells #[.pointer (some ⟨bb,0,none⟩)] 208)) (fun wl aE=>⟨_,_,fa,rfl,rfl⟩) fun wl v1 aI w1 aE Jh ba=>?_
 ·exact cj (aH tt)
 obtain⟨rfl,Jh⟩:=Jh;obtain⟨z1,k1,qK⟩:=ba.alloc hF aE Jh;have mw:=ba.ay;rw[aE.size];clear Jh ba aE wl aI;have gv:=hF.lt tt;have ui:grow o w w1 w.heap.size:=.inr ⟨ag _,aa⟩;refine aA ?_;have HQ:=(BP qK).1;refine rdC mw ui HQ fun _=>?_;refine aA ?_;refine aF W rfl ai rfl func110 af rfl aC rfl ((Ux bb (.func (.func 111) #[] #[.pointer (some ⟨w.heap.size,0,none⟩)]) c0 c2 c3 c4 c5 c6 c7 ((k1 _ gv).trans hb)).mono ?_);rintro v2 o2 w2 ⟨rfl,rfl,rfl⟩;refine aA ?_;refine rdC mw ui HQ fun _=>?_;refine aA ?_;exact⟨.inr trivial,trivial,_,resultsC_tmp (t:=2) ai _,aC,rfl,mw,aa,k1,by simp[Act.eval];exact aH (.inl tt)⟩
theorem Og:(ar.info? 4).map (fun i=>(i.zero,i.size,i.bytes))=some (some (.bool false),1,1):=af
theorem Oh:(ar.info? 207).map (fun i=>(i.zero,i.size,i.bytes))=some (some (.chan none),1,8):=af
theorem Oi:(ar.info? 100).map (fun i=>i.bytes)=some 0:=af
theorem BU(w:ae)(n:Nat)(hn:n<=100000):(Instr.makeSlice 182 (.int .i64 (n:Int)) (.int .i64 (n:Int))).run ar w=.ok (.slice (some ⟨w.heap.size,0,none⟩) n n) (w.alloc (.cells (madeCells #[.bool false] n) 4)):=by
 obtain⟨i,hi,hz⟩:=Option.map_eq_some_iff.1 Og;simp only[WS] at hz;obtain⟨hz,hs,hb⟩:=hz;have:=run_make (P:=ar) w 182 4 i _ underlying182 hi hz .i64 .i64 n n aa (fh _) (by rw[hb];omega) aa;rw[this,hs];simp[Value.cells]
theorem BV(w:ae)(n:Nat)(hn:n<=100000):(Instr.makeSlice 204 (.int .i64 (n:Int)) (.int .i64 (n:Int))).run ar w=.ok (.slice (some ⟨w.heap.size,0,none⟩) n n) (w.alloc (.cells (madeCells #[.chan none] n) 207)):=by
 obtain⟨i,hi,hz⟩:=Option.map_eq_some_iff.1 Oh;simp only[WS] at hz;obtain⟨hz,hs,hb⟩:=hz;have:=run_make (P:=ar) w 204 207 i _ underlying204 hi hz .i64 .i64 n n aa (fh _) (by rw[hb];omega) aa;rw[this,hs];simp[Value.cells]
theorem Db(w:ae):(Instr.makeChan 207 (.int .i64 0)).run ar w=.ok (.chan (some w.heap.size)) (w.alloc (.chan 0 #[] false 0 0 false)):=by
 obtain⟨i,hi,hb⟩:=Option.map_eq_some_iff.1 Oi;exact run_makeChan underlying207 hi .i64 0 aa (by rw[hb];omega)
structure jo(o:aM)(w:ae)(v0 v1 v2:Value)(n:Nat)(bn Nb Mb:Nat)(ch:Nat->Nat)(k:Nat)(o':aM)(w':ae):Prop where
 own:o'=grow o w w'
 ay:bE ar L0 o' w'
 size:w.heap.size<=w'.heap.size
 old:∀b,b<w.heap.size->w'.heap[b]?=w.heap[b]?
 bn:w.heap.size<=bn/\bn<w'.heap.size/\w'.heap[bn]?=some (.cells #[v0,v1,v2,.slice (some ⟨Nb,0,none⟩) n n,.slice (some ⟨Mb,0,none⟩) n n] 206)
 nb:w.heap.size<=Nb/\Nb<w'.heap.size/\w'.heap[Nb]?=some (.cells (madeCells #[.bool false] n) 4)
 mb:w.heap.size<=Mb/\Mb<w'.heap.size/\w'.rowIs Mb 207 n (fun j=>if j<k then .chan (some (ch j)) else .chan none)
 nZ:∀s,s<k->w.heap.size<=ch s/\ch s<w'.heap.size/\w'.heap[ch s]?=some (.chan 0 #[] false 0 0 false)
 inj:∀s t,s<k->t<k->ch s=ch t->s=t
theorem jo.more{v0 v1 v2:Value}{n bn Nb Mb k:Nat}{ch:Nat->Nat}{o':aM}{w' w2:ae}(h:jo o w v0 v1 v2 n bn Nb Mb ch k o' w')(hF:bE ar L0 (grow o' w' w2) w2)(hz:w'.heap.size<=w2.heap.size)(hold:∀b,b<w'.heap.size->w2.heap[b]?=w'.heap[b]?):jo o w v0 v1 v2 n bn Nb Mb ch k (grow o' w' w2) w2 where
 own:=by rw[h.own];exact grow_grow h.size rfl hz
 ay:=hF
 size:=by have:=h.size;omega
 old b hb:=(hold b (by have:=h.size;omega)).trans (h.old b hb)
 bn:=⟨h.bn.1,by have:=h.bn.2.1;omega,(hold _ h.bn.2.1).trans h.bn.2.2⟩
 nb:=⟨h.nb.1,by have:=h.nb.2.1;omega,(hold _ h.nb.2.1).trans h.nb.2.2⟩
 mb:=⟨h.mb.1,by have:=h.mb.2.1;omega,World.rowIs.of_block h.mb.2.2 (hold _ h.mb.2.1)⟩
 nZ s hs:=⟨(h.nZ s hs).1,by have:=(h.nZ s hs).2.1;omega,(hold _ (h.nZ s hs).2.1).trans (h.nZ s hs).2.2⟩
 inj:=h.inj
theorem jo.put{v0 v1 v2:Value}{n bn Nb Mb k c:Nat}{ch:Nat->Nat}{o':aM}{w' w2:ae}(h:jo o w v0 v1 v2 n bn Nb Mb ch k o' w')(hF:bE ar L0 o' w2)(on:cN Mb w' w2)(hM:w2.heap[Mb]?=(w'.setCell ⟨Mb,k,none⟩ (.chan (some c))).heap[Mb]?)(hc:w.heap.size<=c/\c<w'.heap.size/\w'.heap[c]?=some (.chan 0 #[] false 0 0 false))(sd:∀s,s<k->ch s≠c):jo o w v0 v1 v2 n bn Nb Mb (fun s=>if s=k then c else ch s) (k+1) o' w2:=by
 have hMb:=h.mb.2.2;obtain⟨cs,Ps,-,-⟩:=hMb;have nM:∀b x,w'.heap[b]?=some x->(∀c t z,x=.cells c t z->t≠207)->b≠Mb:=fun b x hx ht e=>by
  subst e;rw[Ps] at hx;exact ht _ _ _ (aK hx).symm rfl
 refine⟨?_,hF,by have:=h.size;rw[on.1];exact this,fun b hb=>(on.2 b (by have:=h.mb.1;omega)).trans (h.old b hb),⟨h.bn.1,by rw[on.1];exact h.bn.2.1,?_⟩,⟨h.nb.1,by rw[on.1];exact h.nb.2.1,?_⟩,⟨h.mb.1,by rw[on.1];exact h.mb.2.1,?_⟩,fun s hs=>?_,fun s t hs ht e=>?_⟩
 ·rw[h.own];unfold grow;rw[on.1]
 ·rw[on.2 _ (nM _ _ h.bn.2.2 fun c t z e=>by cases e;decide)];exact h.bn.2.2
 ·rw[on.2 _ (nM _ _ h.nb.2.2 fun c t z e=>by cases e;decide)];exact h.nb.2.2
 ·refine World.rowIs.of_block ((h.mb.2.2.set k (.chan (some c))).congr fun j hj=>?_) hM;by_cases e:j=k
  ·subst e;simp
  ·by_cases e':j<k
   ·rw[if_neg e,if_pos e',if_pos aa,if_neg e]
   ·rw[if_neg e,if_neg e',if_neg aa]
 ·by_cases e:s=k
  ·subst e;simp only[if_true];exact⟨hc.1,by rw[on.1];exact hc.2.1,by rw[on.2 _ (nM _ _ hc.2.2 fun c t z e=>by cases e)];exact hc.2.2⟩
  ·simp only[if_neg e];have q:=h.nZ s aa;exact⟨q.1,by rw[on.1];exact q.2.1,by rw[on.2 _ (nM _ _ q.2.2 fun c t z e=>by cases e)];exact q.2.2⟩
 ·by_cases e1:s=k
  ·by_cases e2:t=k
   ·omega
   ·rw[if_pos e1,if_neg e2] at e;exact absurd e.symm (sd t aa)
  ·by_cases e2:t=k
   ·rw[if_neg e1,if_pos e2] at e;exact absurd e (sd s aa)
   ·rw[if_neg e1,if_neg e2] at e;exact h.inj s t aa aa e
structure afQ(o:aM)(w:ae)(v0 v1 v2:Value)(n bn Nb Mb k:Nat)(a:Act)(o':aM)(w':ae):Prop where
 size:a.tmps.size=37
 df:a.defers=[]
 t7:a.eval (.tmp 7)=.pointer (some ⟨bn,0,none⟩)
 t24:a.eval (.tmp 24)=.int .i64 n
 t25:a.eval (.tmp 25)=.int .i64 k
 new:∃ch,jo o w v0 v1 v2 n bn Nb Mb ch k o' w'
theorem ym{w:ae}{b:Nat}{t:TypeId}{c0 c1 c2 c3 c4:Value}(h:w.heap[b]?=some (.cells #[c0,c1,c2,c3,c4] t)):w.cell? ⟨b,0,none⟩=some c0/\w.cell? ⟨b,1,none⟩=some c1/\w.cell? ⟨b,2,none⟩=some c2/\w.cell? ⟨b,3,none⟩=some c3/\w.cell? ⟨b,4,none⟩=some c4/\∀k,w.frozen? ⟨b,k,none⟩=false:=by
 simp[World.cell?,World.frozen?,h]
theorem KS(hF:bE ar L0 o w)(Lb Lo Vb nv Rb n:Nat)(hn:n<=1000)(hLb:o Lb)(V8:o Vb)(Jg:o Rb):
  bp ar (XB ar Fin 0) 72 #[.pointer (some ⟨Lb,Lo,none⟩),.slice (some ⟨Vb,0,none⟩) nv nv,.slice (some ⟨Rb,0,none⟩) n n] o w fun v o' w'=>∃bn Nb Mb ch,v=.pointer (some ⟨bn,0,none⟩)/\jo o w (.pointer (some ⟨Lb,Lo,none⟩)) (.slice (some ⟨Vb,0,none⟩) nv nv) (.slice (some ⟨Rb,0,none⟩) n n) n bn Nb Mb ch n o' w':=by
 have W:=bJ (P:=ar) (Fin:=Fin) (d:=0);refine bA W func72 ai ?_;walk_nrmf Tryz.f72;refine aA ?_;refine dq mixed af [some none,some none,some none,some none,some none,none,some none,some none,none,some none,none,some none]
  (S:=fun σ o' w'=>(o'=grow o w w'/\bE ar L0 o' w'/\w.heap.size<=w'.heap.size/\(∀b,b<w.heap.size->w'.heap[b]?=w.heap[b]?)) /\
   (∀y,σ 5=some y->∃Nb,y=.slice (some ⟨Nb,0,none⟩) n n/\w.heap.size<=Nb/\Nb<w'.heap.size/\w'.heap[Nb]?=some (.cells (madeCells #[.bool false] n) 4)) /\
   (∀y,σ 8=some y->∃Mb,y=.slice (some ⟨Mb,0,none⟩) n n/\w.heap.size<=Mb/\Mb<w'.heap.size/\w'.heap[Mb]?=some (.cells (madeCells #[.chan none] n) 207)) /\
   (∀y,σ 10=some y->∃bn y5 y8,σ 5=some y5/\σ 8=some y8/\y=.pointer (some ⟨bn,0,none⟩)/\w.heap.size<=bn/\bn<w'.heap.size/\w'.heap[bn]?=some (.cells #[.pointer (some ⟨Lb,Lo,none⟩),.slice (some ⟨Vb,0,none⟩) nv nv,.slice (some ⟨Rb,0,none⟩) n n,y5,y8] 206))) ?_ fun v=>?_
 ·exact⟨⟨(bS _ _).symm,hF,ag _,fun _ _=>rfl⟩,fun y hy=>(by cases hy),fun y hy=>(by cases hy),fun y hy=>(by cases hy)⟩
 refine dp ?_;refine bO ?_;refine mJ aX rfl rfl rfl ai ai (fun σ o' w' H hj hS=>?_) ?_
 ·obtain⟨⟨e1,e2,e3,e4⟩,s5,s8,KT⟩:=hS;refine⟨e2,fun y hy=>?_,fun wl v aI=>v=.slice (some ⟨wl.heap.size,0,none⟩) n n/\aI=wl.alloc (.cells (madeCells #[.bool false] n) 4),fun wl aE=>⟨_,_,by simp[go_sem,BU wl n aa],rfl,rfl⟩,fun wl y aI w2 aE hR ba=>?_⟩
  ·simp[Op.operands] at hy;subst hy;simp[Act.eval];exact bN
  ·obtain⟨rfl,hR⟩:=hR;obtain⟨z1,k1,qK⟩:=ba.alloc e2 aE hR;have oq:σ 10=none:=by
    cases h:σ 10 with
    |none=>rfl
    |some y=>obtain⟨_,y5,y8,q5,q8,_⟩:=KT y h;rw[hj] at q5;cases q5
   rw[aE.size];refine⟨⟨by rw[e1];exact grow_grow e3 rfl aa,ba.ay,aa,fun b hb=>(k1 b aa).trans (e4 b hb)⟩,fun y hy=>?_,fun y hy=>?_,fun y hy=>?_⟩
   ·simp only[dB,if_true,en] at hy;exact⟨w'.heap.size,hy.symm,e3,aa,qK⟩
   ·simp only[dB,show ¬(8=5) by omega,if_false] at hy;obtain⟨b,q1,q2,q3,q4⟩:=s8 y hy;exact⟨b,q1,q2,aa,(k1 b q3).trans q4⟩
   ·simp[dB,oq] at hy
 refine bO ?_;refine mJ aX rfl rfl rfl ai ai (fun σ o' w' H hj hS=>?_) ?_
 ·obtain⟨⟨e1,e2,e3,e4⟩,s5,s8,KT⟩:=hS;refine⟨e2,fun y hy=>?_,fun wl v aI=>v=.slice (some ⟨wl.heap.size,0,none⟩) n n/\aI=wl.alloc (.cells (madeCells #[.chan none] n) 207),fun wl aE=>⟨_,_,by simp[go_sem,BV wl n aa],rfl,rfl⟩,fun wl y aI w2 aE hR ba=>?_⟩
  ·simp[Op.operands] at hy;subst hy;simp[Act.eval];exact bN
  ·obtain⟨rfl,hR⟩:=hR;obtain⟨z1,k1,qK⟩:=ba.alloc e2 aE hR;have oq:σ 10=none:=by
    cases h:σ 10 with
    |none=>rfl
    |some y=>obtain⟨_,y5,y8,q5,q8,_⟩:=KT y h;rw[hj] at q8;cases q8
   rw[aE.size];refine⟨⟨by rw[e1];exact grow_grow e3 rfl aa,ba.ay,aa,fun b hb=>(k1 b aa).trans (e4 b hb)⟩,fun y hy=>?_,fun y hy=>?_,fun y hy=>?_⟩
   ·simp only[dB,show ¬(5=8) by omega,if_false] at hy;obtain⟨b,q1,q2,q3,q4⟩:=s5 y hy;exact⟨b,q1,q2,aa,(k1 b q3).trans q4⟩
   ·simp only[dB,if_true,en] at hy;exact⟨w'.heap.size,hy.symm,e3,aa,qK⟩
   ·simp[dB,oq] at hy
 walk_nrm;refine wM ((∃x,v 5=.slice x n n)/\∃x,v 8=.slice x n n) (.agg #[.pointer (some ⟨Lb,Lo,none⟩),.slice (some ⟨Vb,0,none⟩) nv nv,.slice (some ⟨Rb,0,none⟩) n n,v 5,v 8]) rfl rfl rfl ai (fun σ o' w' H hS=>?_) (fun hv w1=>?_) (fun hv w1=>?_) fun y9 hy9=>?_
 ·obtain⟨Nb,q1,-⟩:=hS.2.1 _ (H.done 5 af rfl);obtain⟨Mb,q2,-⟩:=hS.2.2.1 _ (H.done 8 af rfl);exact⟨⟨_,q1⟩,_,q2⟩
 ·obtain⟨⟨x,hx⟩,y,hy⟩:=hv;simp[go_sem,Act.eval,hx,hy]
 ·obtain⟨⟨x,hx⟩,y,hy⟩:=hv;simp[go_sem,Act.eval,hx,hy]
 walk_nrm;refine mJ aX rfl rfl rfl ai ai (fun σ o' w' H hj hS=>?_) ?_
 ·have d5:=H.sV [9] 5 af rfl;have d8:=H.sV [9] 8 af rfl;obtain⟨⟨e1,e2,e3,e4⟩,s5,s8,KT⟩:=hS;obtain⟨Nb,q1,q2,q3,q4⟩:=s5 _ d5;obtain⟨Mb,r1,r2,r3,r4⟩:=s8 _ d8;have hy:=hy9 ⟨⟨_,q1⟩,_,r1⟩;have up:∀b,o b->o' b:=fun b hb=>by rw[e1];exact .inl hb
  have Ri:o' Nb:=by rw[e1];exact .inr ⟨q2,q3⟩
  have hMb:o' Mb:=by rw[e1];exact .inr ⟨r2,r3⟩
  refine⟨e2,fun y Fo=>?_,fun wl y aI=>y=.pointer (some ⟨wl.heap.size,0,none⟩)/\aI=wl.alloc (.cells #[.pointer (some ⟨Lb,Lo,none⟩),.slice (some ⟨Vb,0,none⟩) nv nv,.slice (some ⟨Rb,0,none⟩) n n,v 5,v 8] 206),fun wl aE=>⟨_,_,by rw[q1,r1] at hy;simp[go_sem,hy,q1,r1],rfl,rfl⟩,fun wl y aI w2 aE hR ba=>?_⟩
  ·simp[Op.operands] at Fo;subst Fo;simp[Act.eval];rw[hy,q1,r1];exact cJ (vs:=[_,_,_,_,_]) (fun x hx=>by
    simp at hx;rcases hx with rfl|rfl|rfl|rfl|rfl
    ·exact aH (up _ hLb)
    ·exact di (up _ V8)
    ·exact di (up _ Jg)
    ·exact di Ri
    ·exact di hMb)
  ·obtain⟨rfl,hR⟩:=hR;obtain⟨z1,k1,qK⟩:=ba.alloc e2 aE hR;rw[aE.size];refine⟨⟨by rw[e1];exact grow_grow e3 rfl aa,ba.ay,aa,fun b hb=>(k1 b aa).trans (e4 b hb)⟩,fun y hy=>?_,fun y hy=>?_,fun y hy=>?_⟩
   ·simp only[dB,show ¬(5=10) by omega,if_false] at hy;obtain⟨b,q1,q2,q3,q4⟩:=s5 y hy;exact⟨b,q1,q2,aa,(k1 b q3).trans q4⟩
   ·simp only[dB,show ¬(8=10) by omega,if_false] at hy;obtain⟨b,q1,q2,q3,q4⟩:=s8 y hy;exact⟨b,q1,q2,aa,(k1 b q3).trans q4⟩
   ·simp only[dB,if_true,en] at hy;exact⟨w'.heap.size,v 5,v 8,by simpa[dB] using d5,by simpa[dB] using d8,hy.symm,e3,aa,qK⟩
 refine bO ?_;refine cd fun σ o1 w1 kP hS=>?_;obtain⟨⟨e1,e2,e3,e4⟩,s5,s8,KT⟩:=hS;obtain⟨bn,y5,y8,t5,t8,hbn,b1,b2,b3⟩:=KT _ (kP 10 dh rfl);obtain⟨Nb,rfl,n1,n2,n3⟩:=s5 _ t5;obtain⟨Mb,rfl,m1,m2,m3⟩:=s8 _ t8;rw[hbn];have hB:jo o w (.pointer (some ⟨Lb,Lo,none⟩)) (.slice (some ⟨Vb,0,none⟩) nv nv) (.slice (some ⟨Rb,0,none⟩) n n) n bn Nb Mb (fun _=>0) 0 o1 w1 :=
  ⟨e1,e2,e3,e4,⟨b1,b2,b3⟩,⟨n1,n2,n3⟩,⟨m1,m2,⟨_,m3,by simp[size_madeCells],fun j hj=>by simp[madeCells,hj,Nat.mod_one]⟩⟩,fun s hs=>aa,fun s t hs=>aa⟩
 clear s5 s8 KT t5 t8 kP hbn e1 e2 e3 e4 b1 b2 b3 n1 n2 n3 m1 m2 m3;have Uy:o1 bn:=by rw[hB.own];exact .inr ⟨hB.bn.1,hB.bn.2.1⟩
 simp only[gN,cZ,if_true,if_false,reduceIte,Nat.reduceEqDiff];refine aA ?_;obtain⟨-,-,-,-,c4,-⟩:=ym hB.bn.2.2;refine rdC hB.ay Uy c4 fun _=>?_;refine aA ?_;refine nu W (fun m a o' w'=>∃k,m+k=n/\afQ o w (.pointer (some ⟨Lb,Lo,none⟩)) (.slice (some ⟨Vb,0,none⟩) nv nv) (.slice (some ⟨Rb,0,none⟩) n n) n bn Nb Mb k a o' w') (N:=n) ⟨0,an,rfl,rfl,aC,aC,aC,_,hB⟩ ?_;clear hB c4 Uy hy9;rintro m a o1 w1 ⟨k,LV,ft,pF,i7,i24,i25,ch,hB⟩;obtain⟨tm,df⟩:=a;simp only at ft pF;subst pF;obtain⟨gs,rfl⟩:=fA ft;clear ft;simp only[List.range,List.range.loop,bU,oe] at i7 i24 i25 |-;simp[Act.eval] at i7 i24 i25;simp only[i7,i24,i25];clear i7 i24 i25;rcases aZ m with hm|hm
 ·have hk:k=n:=aa;subst hk;refine aA ?_;exact⟨.inr trivial,trivial,_,resultsC_tmp (t:=6) ai _,bn,Nb,Mb,ch,aC,hB⟩
 ·have hk:k<n:=aa;have Yf:(k:Int)<(n:Int):=aa;have Uy:o1 bn:=by rw[hB.own];exact .inr ⟨hB.bn.1,hB.bn.2.1⟩
  have ami:o1 Mb:=by rw[hB.own];exact .inr ⟨hB.mb.1,hB.mb.2.1⟩
  obtain⟨-,-,-,-,c4,-⟩:=ym hB.bn.2.2;refine aA ?_;generalize ME:(Value.pointer (some ⟨Lb,Lo,none⟩))=v0 at *;generalize Gd:(Value.slice (some ⟨Vb,0,none⟩) nv nv)=v1 at *;generalize I2:(Value.slice (some ⟨Rb,0,none⟩) n n)=v2 at *;refine dq mixed af [some none,some none,some none,some (some (.slice (some ⟨Mb,0,none⟩) n n)),some none,none,some none,none]
   (S:=fun σ o' w'=>(σ 7=none/\jo o w v0 v1 v2 n bn Nb Mb ch k o' w'/\∀y,σ 5=some y->∃c,y=.chan (some c)/\(w.heap.size<=c/\c<w'.heap.size/\w'.heap[c]?=some (.chan 0 #[] false 0 0 false))/\∀s,s<k->ch s≠c)\/(σ 7≠none/\∃ch',jo o w v0 v1 v2 n bn Nb Mb ch' (k+1) o' w')) ?_ fun v=>?_
  ·exact .inl ⟨rfl,hB,fun y hy=>by cases hy⟩
  refine dp ?_;refine bO ?_;refine bK aX rfl rfl rfl ai ai (fun σ o' w' H hS=>?_) ?_
  ·rcases hS with⟨h7,xA,-⟩|⟨h7,-⟩
   ·have kB:o' bn:=by rw[xA.own];exact .inr ⟨xA.bn.1,xA.bn.2.1⟩
    obtain⟨-,-,-,-,c4',-⟩:=ym xA.bn.2.2;refine⟨xA.ay,fun y hy=>?_,fun wl aE=>?_⟩
    ·simp[Op.operands] at hy;subst hy;simp[Act.eval];exact aH kB
    ·simp[go_sem,(aE.cell kB).trans c4']
   ·exact absurd (H.kF [6] 7 af) h7
  refine bO ?_;refine mJ aX rfl rfl rfl ai ai (fun σ o' w' H h5 hS=>?_) ?_
  ·rcases hS with⟨h7,xA,-⟩|⟨h7,-⟩
   ·refine⟨xA.ay,fun y hy=>?_,fun wl y aI=>y=.chan (some wl.heap.size)/\aI=wl.alloc (.chan 0 #[] false 0 0 false),fun wl aE=>⟨_,_,by simp[go_sem,Db],rfl,rfl⟩,fun wl y aI w2 aE hR ba=>?_⟩
    ·simp[Op.operands] at hy;subst hy;simp[Act.eval];exact bN
    ·obtain⟨rfl,hR⟩:=hR;obtain⟨z1,k1,qK⟩:=ba.alloc xA.ay aE hR;rw[aE.size];refine .inl ⟨by simpa[dB] using h7,xA.more ba.ay aa k1,fun y hy=>?_⟩;simp only[dB,if_true,en] at hy;exact⟨w'.heap.size,hy.symm,⟨xA.size,aa,qK⟩,fun s hs e=>by have:=(xA.nZ s hs).2.1;omega⟩
   ·exact absurd (H.sg 7 af) h7
  refine bO ?_;refine jg aX rfl rfl rfl ai ai (fun σ o' w' H h7 hS=>?_) ?_
  ·rcases hS with⟨-,xA,h6⟩|⟨h7',-⟩
   ·obtain⟨c,hc,Vq,hc3⟩:=h6 _ (H.done 5 af rfl);have Zg:o' Mb:=by rw[xA.own];exact .inr ⟨xA.mb.1,xA.mb.2.1⟩
    have GG:o' c:=by rw[xA.own];exact .inr ⟨Vq.1,Vq.2.1⟩
    refine⟨xA.ay,fun y hy=>?_,fun wl aI=>aI=wl.setCell ⟨Mb,k,none⟩ (.chan (some c)),fun wl aE=>⟨_,?_,rfl⟩,fun wl aI w2 aE hR ba=>?_⟩
    ·simp[Op.operands] at hy;rcases hy with rfl|rfl
     ·simp[Act.eval];exact aH Zg
     ·simp[Act.eval,hc];exact fun f hf=>by simp[val,hf.at_ c GG,lR]
    ·have Yh:=World.rowIs.of_block xA.mb.2.2 (aE.heap _ Zg);have q0:=Yh.cell hk;have f:=Yh.frozen;simp[go_sem,hc,q0,f]
    ·have hO:cN Mb wl aI:=by rw[hR];exact fW _ _ _ _
     obtain⟨on,kb,eg⟩:=ba.only aE Zg hO;have rh:=ba.ay;rw[eg] at rh |-;refine .inr ⟨by simp[dB],_,xA.put rh on ?_ Vq hc3⟩;rw[kb,hR];simp only[World.setCell,er,if_true,aE.heap _ Zg]
   ·exact absurd h7 h7'
  walk_nrm;refine cd fun σ o' w' kP hS=>?_;rcases hS with⟨h7,-⟩|⟨-,ch',xA⟩
  ·rw[kP 7 dh rfl] at h7;cases h7
  simp only[gN,cZ,if_true,if_false,reduceIte,Nat.reduceEqDiff];refine aA ?_;have CP:IntKind.i64.wrap ((k:Int)+1)=((k+1:Nat):Int):=by rw[IntKind.wrap_i64]<;>omega
  exact⟨m-1,aa,k+1,aa,rfl,rfl,rfl,rfl,by simp[Act.eval,CP],ch',xA⟩
end
section
open Go.RowKit
def nH(w:ae)(b:Nat)(ss:List (V×Int)):Prop:=∀i (h:i<ss.length),w.cell? ⟨b,i*3,none⟩=some (.bool ss[i].1.1)/\w.cell? ⟨b,i*3+1,none⟩=some (.string ss[i].1.2)/\w.cell? ⟨b,i*3+2,none⟩=some (.int .i64 ss[i].2)
theorem nH.below{w w':ae}{b:Nat}{ss:List (V×Int)}(h:nH w b ss)(hb:b<w.heap.size)(hw:Below w.heap.size w w'):nH w' b ss:=fun k hk=>by
 obtain⟨hc,-⟩:=uM hw;rw[hc _ _ hb,hc _ _ hb,hc _ _ hb];exact h k hk
theorem xd{w w':ae}{b:Nat}{ss:List (V×Int)}(h:nH w b ss)(e:w'.heap[b]?=w.heap[b]?):nH w' b ss:=fun i hi=>⟨(Go.Ren.cell_of e).trans (h i hi).1,(Go.Ren.cell_of e).trans (h i hi).2.1,(Go.Ren.cell_of e).trans (h i hi).2.2⟩
theorem Uz{w:ae}{B t n k:Nat}{vs:List V}(b6:w.rowIs B t (n*2) fun j=>if j<k*2 then fZ vs j else fZ [] j){b:Bool}{x:ah}(hl:vs.getD k V0=(b,x)):
  ((w.setCell ⟨B,k*2,none⟩ (.bool b)).setCell ⟨B,k*2+1,none⟩ (.string x)).rowIs B t (n*2) fun j=>if j<(k+1)*2 then fZ vs j else fZ [] j:=by
 refine((b6.set (k*2) _).set (k*2+1) _).congr fun j hj=>?_;by_cases e1:j=k*2+1
 ·subst e1;rw[if_pos rfl,if_pos aa];have h1:(k*2+1)%2=1:=aa;have h2:(k*2+1)/2=k:=aa;simp only[fZ,h1,h2,hl];rfl
 ·by_cases e2:j=k*2
  ·subst e2;rw[if_neg e1,if_pos rfl,if_pos aa];have h1:(k*2)%2=0:=aa;have h2:(k*2)/2=k:=aa;simp only[fZ,h1,h2,hl];rfl
  ·rw[if_neg e1,if_neg e2];by_cases e3:j<k*2
   ·rw[if_pos e3,if_pos aa]
   ·rw[if_neg e3,if_neg aa]
theorem BW(b c:Nat)(p:Option Addr)(ss:List (V×Int))(w:ae)(hn:ss.length<=100000)(hp:ss≠[]->p=some ⟨b,0,none⟩/\b<w.heap.size)(hv:nH w b ss):
  Calls ar 141 #[.slice p ss.length c] w fun e w'=>e=.returned (.slice (some ⟨w.heap.size,0,none⟩) ss.length ss.length)/\Below w.heap.size w w'/\w.heap.size<w'.heap.size/\eM w' w.heap.size (ss.map (·.1)):=by
 have LV:=fun w=>uP w ss.length hn;go_enter func141,ntmps141;go_wp2;go_loopw [11] (fun i w'=>∃k:Nat,k<=ss.length/\i=.int .i64 k/\Below w.heap.size w w'/\w.heap.size<w'.heap.size/\w'.rowIs w.heap.size 159 (ss.length*2) (fun j=>if j<k*2 then fZ (ss.map (·.1)) j else fZ [] j)) (fun i _=>ss.length-(intOf i).toNat)
 case atStart =>
  refine⟨0,aQ _,rfl,(Below.refl _ _).alloc (ag _) _,an,_,jR _ _,by simp[size_madeCells],fun j hj=>?_⟩;simp only[madeCells,br,Array.getElem?_range,hj,if_true,cR];rcases fL j with e|e<;>simp[e,fZ,V0]
 case round =>
  obtain⟨k,hk,rfl,gv,hz,b6⟩:=hrel;by_cases bZ:k<ss.length
  ·obtain⟨rfl,hb⟩:=hp (fun e=>by rw[e] at bZ;simp at bZ);obtain⟨c0,c1,c2⟩:=hv.below hb gv k bZ;have d0:wr.cell? ⟨w.heap.size,k*2,none⟩=some (.bool false):=by rw[b6.cell aa,if_neg aa];simp[fZ,V0]
   have d1:wr.cell? ⟨w.heap.size,k*2+1,none⟩=some (.string aN):=by rw[b6.cell aa,if_neg aa];simp[fZ,V0]
   have f0:=b6.frozen;have L9:(ss.map (·.1)).getD k V0=ss[k].1:=by simp[bZ]
   generalize ss[k]=x at *;obtain⟨⟨xb,xt⟩,xs⟩:=x;clear hv hp;go_wp2;refine⟨⟨k+1,aa,by go_num,((gv.setCell (ag _) _).setCell (ag _) _).alloc (by simp[World.setCell];omega) _,by simp[World.setCell];omega,?_⟩,by simp[intOf];omega⟩;exact(Uz b6 L9).alloc _
  ·go_wp2;go_ret;exact⟨rfl,gv,hz,by unfold eM;rw[bG];exact b6.congr fun i hi=>by rw[if_pos aa]⟩
section
variable {Fin:bH} {o:aM} {w:ae}
theorem Fq(hF:bE ar L0 o w)(b c:Nat)(p:Option Addr)(ss:List (Kz.V×Int))(hn:ss.length<=100000)(hp:ss≠[]->p=some ⟨b,0,none⟩/\o b)(hv:nH w b ss)(hc:Cl ar L0 o (.slice p ss.length c)):
  bp ar (XB ar Fin 0) 141 #[.slice p ss.length c] o w fun v o' w'=>fw o w v o' w'/\v=.slice (some ⟨w.heap.size,0,none⟩) ss.length ss.length/\w.heap.size<w'.heap.size/\eM w' w.heap.size (ss.map (·.1)):=by
 refine bp.mono (dS af hF (fun x hx=>by simp at hx;subst hx;exact hc) (Q:=fun wl v w'=>v=.slice (some ⟨wl.heap.size,0,none⟩) ss.length ss.length/\wl.heap.size<w'.heap.size/\eM w' wl.heap.size (ss.map (·.1))) (fun wl Ai v w1 w2 e1 e2 h=>?_) (fun wl hz aE=>?_)) (fun v o' w' hq=>?_)
 ·rw[e1,e2];exact⟨h.1,h.2.1,World.rowIs.of_block h.2.2 (by rw[e2])⟩
 ·refine(BW b c p ss wl hn (fun h=>⟨(hp h).1,by rw[hz];exact hF.lt (hp h).2⟩) (fun i hi=>?_)).mono fun e w' hq=>?_
  ·exact xd hv (aE b (hp (fun e=>by rw[e] at hi;simp at hi)).2) i hi
  ·obtain⟨rfl,h1,h2,h3⟩:=hq;exact⟨_,rfl,h1.size,fun b hb=>h1.block b hb,rfl,h2,h3⟩
 ·obtain⟨hN,wl,aI,z1,z2,hs,rfl,h2,h3⟩:=hq;rw[z1] at h2 h3 hN |-;exact⟨hN,rfl,aa,World.rowIs.of_block h3 (hs _ (ag _) aa)⟩
theorem uV{w w':ae}{bn Lb Lo St Rb Nb n:Nat}{out:Nat->ah}{eD:Nat->Int}{ins:Nat->List (Bool×Nat)}{cw:Nat->Nat}{res:Nat->Kz.V}{ku:Nat->Bool}(h:oG w bn Lb Lo St Rb Nb n out eD ins cw res ku)(hz:w'.heap.size=w.heap.size)(e:∀b,b=bn\/b=Lb\/b=St\/b=Rb\/b=Nb\/(∃s,s<n/\b=cw s)->w'.heap[b]?=w.heap[b]?):oG w' bn Lb Lo St Rb Nb n out eD ins cw res ku where
 b0:=(cell_of (e bn (.inl rfl))).trans h.b0
 b2:=(cell_of (e bn (.inl rfl))).trans h.b2
 b3:=(cell_of (e bn (.inl rfl))).trans h.b3
 st:=(cell_of (e Lb (.inr (.inl rfl)))).trans h.st
 steps:=iW h.steps (e St (.inr (.inr (.inl rfl)))) (fun s hs=>e _ (.inr (.inr (.inr (.inr (.inr ⟨s,hs,rfl⟩)))))) aa
 r2 s hs:=(cell_of (e Rb (.inr (.inr (.inr (.inl rfl)))))).trans (h.r2 s hs)
 r3 s hs:=(cell_of (e Rb (.inr (.inr (.inr (.inl rfl)))))).trans (h.r3 s hs)
 ku s hs:=(cell_of (e Nb (.inr (.inr (.inr (.inr (.inl rfl))))))).trans (h.ku s hs)
 lbn:=by rw[hz];exact h.lbn
 lLb:=by rw[hz];exact h.lLb
 lSt:=by rw[hz];exact h.lSt
 lRb:=by rw[hz];exact h.lRb
 lNb:=by rw[hz];exact h.lNb
theorem Oj(hF:bE ar L0 o w)(bn Lb Lo St Rb Nb n:Nat)(out:Nat->ah)(eD:Nat->Int)(ins:Nat->List (Bool×Nat))(cw:Nat->Nat)(res:Nat->Kz.V)(ku:Nat->Bool)(hn:n<=1000)(h:oG w bn Lb Lo St Rb Nb n out eD ins cw res ku)(ho:∀b,b=bn\/b=Lb\/b=St\/b=Rb\/b=Nb\/(∃s,s<n/\b=cw s)->o b):
  bp ar (XB ar Fin 0) 75 #[.pointer (some ⟨bn,0,none⟩)] o w fun v o' w'=>fw o w v o' w'/\v=.slice (some ⟨w.heap.size,0,none⟩) n n/\w.heap.size<w'.heap.size/\w'.rowIs w.heap.size 65 (n*3) (gq out res n):=by
 refine bp.mono (dS af hF (fun x hx=>by simp at hx;subst hx;exact aH (ho bn (.inl rfl))) (Q:=fun wl v w'=>v=.slice (some ⟨wl.heap.size,0,none⟩) n n/\wl.heap.size<w'.heap.size/\w'.rowIs wl.heap.size 65 (n*3) (gq out res n)) (fun wl Ai v w1 w2 e1 e2 h=>?_) (fun wl hz aE=>?_)) (fun v o' w' hq=>?_)
 ·rw[e1,e2];exact⟨h.1,h.2.1,World.rowIs.of_block h.2.2 (by rw[e2])⟩
 ·refine(H9 bn Lb Lo St Rb Nb n out eD ins cw res ku wl hn (uV h hz fun b hb=>aE b (ho b hb))).mono fun e w' hq=>?_;obtain⟨rfl,h1,h2,h3⟩:=hq;exact⟨_,rfl,h1.size,fun b hb=>h1.block b hb,rfl,h2,h3⟩
 ·obtain⟨hN,wl,aI,z1,z2,hs,rfl,h2,h3⟩:=hq;rw[z1] at h2 h3 hN |-;exact⟨hN,rfl,aa,World.rowIs.of_block h3 (hs _ (ag _) aa)⟩
theorem tu{lo:Nat}{ts:List ah}{v:Value}{w wl:ae}(h:wl.ownsRow lo 9 1 v ts.length (ts.map .string))(hs:∀b,lo<=b->b<w.heap.size->w.heap[b]?=wl.heap[b]?)(hz:wl.heap.size=w.heap.size):ga lo ts v w:=by
 obtain⟨hl,hc⟩:=h;rcases hc with⟨rfl,h2⟩|⟨g,cap,cur,rfl,h1,h2,h3,h4,h5,h6⟩
 ·exact .inl ⟨rfl,List.length_eq_zero_iff.1 h2⟩
 ·have hg:g<w.heap.size:=by rw[<- hz];exact(Array.getElem?_eq_some_iff.1 h2).1
  refine .inr ⟨g,cap,rfl,h3,h1,hg,fun k hk=>?_⟩;have hb:=(hs g h1 hg).trans h2;have:(cur.toList.take (ts.length*1))[k]?=(ts.map Value.string)[k]?:=by rw[h6]
  rw[eU aa] at this;simp[World.cell?,hb];simpa[hk] using this
theorem Ol(hF:bE ar L0 o w)(bn Lb Lo St Rb Nb n:Nat)(out:Nat->ah)(eD:Nat->Int)(ins:Nat->List (Bool×Nat))(cw:Nat->Nat)(res:Nat->Kz.V)(ku:Nat->Bool)(hn:n<=1000)(h:oG w bn Lb Lo St Rb Nb n out eD ins cw res ku)(ho:∀b,b=bn\/b=Lb\/b=St\/b=Rb\/b=Nb\/(∃s,s<n/\b=cw s)->o b):
  bp ar (XB ar Fin 0) 76 #[.pointer (some ⟨bn,0,none⟩)] o w fun v o' w'=>fw o w v o' w'/\ga w.heap.size (qA out ku n) v w':=by
 refine bp.mono (dS af hF (fun x hx=>by simp at hx;subst hx;exact aH (ho bn (.inl rfl))) (Q:=fun wl v w'=>w'.ownsRow wl.heap.size 9 1 v (qA out ku n).length ((qA out ku n).map .string)) (fun wl Ai v w1 w2 e1 e2 h=>?_) (fun wl hz aE=>?_)) (fun v o' w' hq=>?_)
 ·rw[e1];exact cQ h fun g _ _=>by rw[e2]
 ·refine(Ia bn Lb Lo St Rb Nb n out eD ins cw res ku wl hn (uV h hz fun b hb=>aE b (ho b hb))).mono fun e w' hq=>?_;obtain⟨v,rfl,h1,h2,h3⟩:=hq;exact⟨_,rfl,h1.size,fun b hb=>h1.block b hb,h3⟩
 ·obtain⟨hN,wl,aI,z1,z2,hs,h3⟩:=hq;rw[z1] at h3;exact⟨hN,tu h3 hs z2⟩
theorem xe(hF:bE ar L0 o w)(v0:Value)(b c:Nat)(p:Option Addr)(ts:List ah)(ME:v0=.slice p ts.length c)(hn:ts.length<=100000)(hp:p=none->ts=[])(hq:ts≠[]->p=some ⟨b,0,none⟩/\o b)(ht:dP w b 0 ts)(hc:Cl ar L0 o v0):
  bp ar (XB ar Fin 0) 51 #[v0] o w fun v o' w'=>fw o w v o' w'/\ga w.heap.size ts v w':=by
 refine bp.mono (dS af hF (fun x hx=>by simp at hx;subst hx;exact hc) (Q:=fun wl v w'=>w'.ownsRow wl.heap.size 9 1 v ts.length (ts.map .string)) (fun wl Ai v w1 w2 e1 e2 h=>?_) (fun wl hz aE=>?_)) (fun v o' w' hq=>?_)
 ·rw[e1];exact cQ h fun g _ _=>by rw[e2]
 ·subst ME;cases p with
  |none =>
   obtain rfl:=hp rfl;refine(Tryz.slices_Clone_string_nil _ _ wl).mono fun e w' hq=>?_;obtain⟨rfl,rfl⟩:=hq;exact⟨_,rfl,ag _,fun _ _=>rfl,an,.inl ⟨rfl,rfl⟩⟩
  |some a =>
   by_cases cV:ts=[]
   ·subst cV;refine(Tryz.slices_Clone_string_zero a _ wl).mono fun e w' hq=>?_;obtain⟨v',rfl,h1,-,h2⟩:=hq;exact⟨_,rfl,h2.size,fun b hb=>h2.block b hb,h1⟩
   ·obtain⟨e,hb⟩:=hq cV;cases e;refine(Tryz.slices_Clone_string b 0 ts.length c ts wl (ag _) aa (fun j hj=>?_)).mono fun e w' hq=>?_
    ·rw[cI ht (aE b hb) j hj];simp[hj]
    ·obtain⟨v',rfl,h1,h2⟩:=hq;rw[dz] at h1;exact⟨_,rfl,h2.2.size,fun b hb=>h2.2.block b hb,h1⟩
 ·obtain⟨hN,wl,aI,z1,z2,hs,h3⟩:=hq;rw[z1] at h3;exact⟨hN,tu h3 hs z2⟩
end
end
structure mQ(rs:List aL)(NM:aL->List ah)(RK:ah->Nat):Prop where
 nodup:(rs.map (·.out)).Nodup
 low:∀r∈rs,RK r.out<rs.length
 Ig:∀r∈rs,∀x∈NM r,x∈rs.map (·.out)->RK x<RK r.out
 eD:∀r∈rs,1<=r.eD/\r.eD<=5
 four:∀r∈rs,(NM r).length<=4
theorem mQ.perm{rs b5:List aL}{NM:aL->List ah}{RK:ah->Nat}(h:mQ rs NM RK)(p:b5.Perm rs):mQ b5 NM RK where
 nodup:=((p.map (·.out)).nodup_iff).2 h.nodup
 low r hr:=by rw[p.length_eq];exact h.low r (p.mem_iff.1 hr)
 Ig r hr x hx ho:=h.Ig r (p.mem_iff.1 hr) x hx (((p.map (·.out)).mem_iff).1 ho)
 eD r hr:=h.eD r (p.mem_iff.1 hr)
 four r hr:=h.four r (p.mem_iff.1 hr)
theorem zd{rs:List aL}(hn:(rs.map (·.out)).Nodup)(hs:∀i j (hi:i<rs.length) (hj:j<rs.length),i<j->¬qx rs[j] rs[i]<0):nY (rs.map (·.out)):=fun i j hi hj DU=>by
 have lQ:i<rs.length:=by simpa using hi
 have rY:j<rs.length:=by simpa using hj
 simp only[List.getElem_map];have h1:=hs i j lQ rY DU;unfold qx at h1;have e:∀b:ah,b.data.toList=b.toList:=fun b=>(ByteArray.toList_eq b).symm;rw[e,e] at h1;rw[qw rs[i].out.toList rs[j].out.toList] at h1;have h2:Lib.compareBytes rs[i].out.toList rs[j].out.toList≠0:=fun h=>by
  have h3:=rA _ _ h;have h4:rs[i].out=rs[j].out:=by
   have:rs[i].out.data=rs[j].out.data:=by
    apply Array.toList_inj.1;rw[e,e];exact h3
   cases hx:rs[i].out;cases hy:rs[j].out;rw[hx,hy] at this;simp at this;rw[this]
  have:=(List.pairwise_iff_getElem.1 hn i j hi hj DU);simp only[List.getElem_map] at this;exact this h4
 omega
section
variable {rs:List aL} {NM:aL->List ah} {RK:ah->Nat}
theorem Fs{xs:List ah}{x:ah}(h:r8 xs x=true):∃h:px xs x<xs.length,xs[px xs x]=x:=by
 unfold r8 at h;simp only[decide_eq_true_eq] at h;refine⟨h.1,?_⟩;have:=h.2;simpa[List.getD,h.1] using this
theorem Om{outs:List ah}{l:List ah}{x:ah}:x∈rT outs l↔x∈l/\x∉outs:=by
 unfold rT;rw[ix];constructor
 ·rintro⟨h1,h2⟩;refine⟨h1,fun h=>?_⟩;rw[(Lib.containsS_iff outs x).2 h] at h2;cases h2
 ·rintro⟨h1,h2⟩;refine⟨h1,?_⟩;cases hc:Lib.containsS outs x with
  |false=>rfl
  |true=>exact absurd ((Lib.containsS_iff outs x).1 hc) h2
theorem Ih{outs:List ah}{nm:Nat->List ah}{x:ah}:∀k,x∈ll outs nm k↔∃i,i<k/\x∈nm i/\x∉outs
 |0=>by simp[ll]
 |k+1=>by
  simp only[ll,List.mem_append,Ih k,Om];constructor
  ·rintro(⟨i,h1,h2,h3⟩|⟨h2,h3⟩)
   ·exact⟨i,aa,h2,h3⟩
   ·exact⟨k,aa,h2,h3⟩
  ·rintro⟨i,h1,h2,h3⟩;by_cases e:i=k
   ·subst e;exact .inr ⟨h2,h3⟩
   ·exact .inl ⟨i,aa,h2,h3⟩
theorem mR{i:Nat}(h:i<rs.length):Fh NM rs i=NM rs[i]:=by simp[Fh,h]
theorem xf{i:Nat}(h:i<rs.length):qC rs i=rs[i].out:=by simp[qC,h]
theorem Mc{i:Nat}(h:i<rs.length):yj rs i=rs[i].eD:=by simp[yj,h]
theorem tw{x:ah}:x∈iq NM rs↔∃r∈rs,x∈NM r/\x∉rs.map (·.out):=by
 unfold iq;rw[(pA _).2,Ih];constructor
 ·rintro⟨i,h1,h2,h3⟩;rw[mR h1] at h2;exact⟨rs[i],aD h1,h2,h3⟩
 ·rintro⟨r,h1,h2,h3⟩;obtain⟨i,hi,rfl⟩:=a8 h1;exact⟨i,hi,by rw[mR hi];exact h2,h3⟩
theorem UA(hS:nY (rs.map (·.out))){s m:Nat}(hs:s<rs.length)(h:(true,m)∈lH NM rs s):∃hm:m<rs.length,rs[m].out∈NM rs[s]:=by
 unfold lH at h;rw[mR hs] at h;obtain⟨x,hx,he⟩:=List.mem_map.1 h;unfold pS at he;have h1:r8 (rs.map (·.out)) x=true:=congrArg Prod.fst he;have h2:=congrArg Prod.snd he;simp only[h1,if_true] at h2;obtain⟨hp,kB⟩:=Fs h1;subst h2;rw[bG] at hp;exact⟨hp,by simp only[List.getElem_map] at kB;rw[kB];exact hx⟩
theorem UB(hS:nY (rs.map (·.out))){s m:Nat}(hs:s<rs.length)(h:(false,m)∈lH NM rs s):m<(iq NM rs).length:=by
 unfold lH at h;rw[mR hs] at h;obtain⟨x,hx,he⟩:=List.mem_map.1 h;unfold pS at he;have h1:r8 (rs.map (·.out)) x=false:=congrArg Prod.fst he;have h2:=congrArg Prod.snd he;simp only[h1,fl,if_false] at h2;have KJ:x∉rs.map (·.out):=fun hm=>by rw[(Ah _ hS x).2 hm] at h1;cases h1
 have hm:x∈iq NM rs:=tw.2 ⟨rs[s],aD hs,hx,KJ⟩;obtain⟨hp,-⟩:=Fs ((Ah _ (pA _).1 x).2 hm);rw[<- h2];exact hp
def yn(rs:List aL)(NM:aL->List ah)(file:ah->V):Nat->ah->V
 |0,_=>V0
 |f+1,x=>match rs.find? (fun r=>decide (r.out=x)) with
  |some r=>jC r.eD ((NM r).map (yn rs NM file f))
  |none=>file x
def valOf(rs:List aL)(NM:aL->List ah)(file:ah->V)(x:ah):V:=yn rs NM file (rs.length+1) x
theorem xg(hn:(rs.map (·.out)).Nodup){r:aL}(hr:r∈rs):rs.find? (fun q=>decide (q.out=r.out))=some r:=by
 induction rs with
 |nil=>cases hr
 |cons q l ih =>
  rw[bU,cS] at hn;rcases List.mem_cons.1 hr with rfl|h
  ·simp
  ·have cV:decide (q.out=r.out)=false:=ee fun e=>hn.1 (by rw[e];exact iE h);rw[List.find?_cons,cV];exact ih hn.2 h
theorem qD{x:ah}(h:x∉rs.map (·.out)):rs.find? (fun q=>decide (q.out=x))=none:=by
 rw[List.find?_eq_none];intro q hq;simp only[decide_eq_true_eq];intro e;exact h (e▸iE hq)
theorem Ii(h:mQ rs NM RK)(file:ah->V):∀(k f g:Nat) (x:ah),(x∈rs.map (·.out)->RK x<k)->k<f->k<g->yn rs NM file f x=yn rs NM file g x:=by
 intro k
 induction k with
 |zero =>
  intro f g x hx hf hg;obtain⟨f,rfl⟩:∃f',f=f'+1:=⟨f-1,aa⟩;obtain⟨g,rfl⟩:∃g',g=g'+1:=⟨g-1,aa⟩;have:x∉rs.map (·.out):=fun hm=>by have:=hx hm;omega
  simp only[yn,qD this]
 |succ k ih =>
  intro f g x hx hf hg;obtain⟨f,rfl⟩:∃f',f=f'+1:=⟨f-1,aa⟩;obtain⟨g,rfl⟩:∃g',g=g'+1:=⟨g-1,aa⟩;by_cases hm:x∈rs.map (·.out)
  ·obtain⟨r,hr,rfl⟩:=List.mem_map.1 hm;simp only[yn,xg h.nodup hr]
   congr 1
   refine cU fun y hy=>ih f g y (fun hym=>?_) aa aa;have:=h.Ig r hr y hy hym;have:=hx hm;omega
  ·simp only[yn,qD hm]
theorem Ec(h:mQ rs NM RK)(file:ah->V){r:aL}(hr:r∈rs):valOf rs NM file r.out=jC r.eD ((NM r).map (valOf rs NM file)):=by
 unfold valOf
 conv=>lhs;unfold yn
 simp only[xg h.nodup hr]
 congr 1
 refine cU fun y hy=>Ii h file (rs.length-1) _ _ y (fun hm=>?_) ?_ ?_
 ·have:=h.Ig r hr y hy hm;have:=h.low r hr;omega
 ·have:0<rs.length:=jS hr;omega
 ·omega
theorem Ed(file:ah->V){x:ah}(h:x∉rs.map (·.out)):valOf rs NM file x=file x:=by
 unfold valOf yn;simp only[qD h]
theorem BY{b5:List aL}(h:mQ rs NM RK)(p:b5.Perm rs)(file:ah->V)(x:ah):valOf b5 NM file x=valOf rs NM file x:=by
 unfold valOf;rw[p.length_eq];generalize rs.length+1=f
 induction f generalizing x with
 |zero=>rfl
 |succ f ih =>
  unfold yn;by_cases hm:x∈rs.map (·.out)
  ·obtain⟨r,hr,rfl⟩:=List.mem_map.1 hm;rw[xg h.nodup hr,xg (h.perm p).nodup (p.mem_iff.2 hr)];simp only
   congr 1
   exact cU fun y _=>ih y
  ·rw[qD hm,qD (fun hx=>hm (((p.map (·.out)).mem_iff).1 hx))]
theorem On(h:mQ rs NM RK)(hS:nY (rs.map (·.out)))(D:mf)(file:ah->V)(res:Nat->V)(Fl:D.ins=lH NM rs)(hv:D.lj=(iq NM rs).map file)(xQ:∀s,s<rs.length->res s=valOf rs NM file (qC rs s)){s:Nat}(hs:s<rs.length):dA D res s=(NM rs[s]).map (valOf rs NM file):=by
 unfold dA;rw[Fl];unfold lH;rw[mR hs,List.map_map];refine cU fun x hx=>?_;simp only[Function.comp,HL,pS];rcases Bool.eq_false_or_eq_true (r8 (rs.map (·.out)) x) with hh|hh
 ·obtain⟨hp,kB⟩:=Fs hh;have hp':px (rs.map (·.out)) x<rs.length:=by simpa using hp
  simp only[hh,if_true];rw[xQ _ hp',xf hp'];simp only[List.getElem_map] at kB;rw[kB]
 ·have KJ:x∉rs.map (·.out):=fun hm=>by rw[(Ah _ hS x).2 hm] at hh;cases hh
  have hm:x∈iq NM rs:=tw.2 ⟨rs[s],aD hs,hx,KJ⟩;obtain⟨hp,kB⟩:=Fs ((Ah _ (pA _).1 x).2 hm);have hp2:px (iq NM rs) x<(iq NM rs).length:=hp;have Zp:(iq NM rs)[px (iq NM rs) x]=x:=kB;simp only[hh,fl,if_false,hv];rw[Ed file KJ];simp[List.getD,hp2,Zp]
end
theorem Ij(n:Nat)(h:n<18446744073709551616):(⟨(Lib.decDigits n).toArray⟩:ah).size<=20:=by
 show(Lib.decDigits n).toArray.size<=20;rw[List.size_toArray,Lib.decDigits_length];exact Lib.nDigits_le20 n h
theorem BZ(l:List UInt8):(bytes l).size=l.length:=by
 show l.toArray.size=l.length;simp
theorem Ik{M:Nat}:∀{ts:List ah},(∀t∈ts,t.size<=M)->iM ts<=M*ts.length
 | [],_=>by simp[iM]
 |t::ts,h=>by
  have h1:=h t an;have h2:=Ik (ts:=ts) fun x hx=>h x (by simp[hx]);simp only[iM,bU,List.sum_cons,List.length_cons,Nat.mul_add] at h2 |-;omega
theorem Il{M:Nat}:∀{ts:List ah},(∀t∈ts,t.size<=M)->rm ts<=255*M*ts.length
 | [],_=>by simp[rm]
 |t::ts,h=>by
  have h1:=h t an;have h2:=Il (ts:=ts) fun x hx=>h x (by simp[hx]);have h3:=E3 t.data.toList;have h4:t.data.toList.length=t.size:=by rw[Array.length_toList];rfl
  simp only[rm,bU,List.sum_cons,List.length_cons,Nat.mul_add] at h2 |-;rw[h4] at h3;have h5:255*t.size<=255*M:=Nat.mul_le_mul_left _ h1;omega
theorem UC(x y:ah):Lib.minS x y=x\/Lib.minS x y=y:=by
 unfold Lib.minS;split
 ·exact .inl rfl
 ·exact .inr rfl
theorem Ee:∀(l:List ah) (x:ah),l.foldl Lib.minS x=x\/l.foldl Lib.minS x∈l
 | [],x=>.inl rfl
 |y::l,x=>by
  simp only[List.foldl_cons];rcases Ee l (Lib.minS x y) with h|h
  ·rw[h];rcases UC x y with e|e
   ·exact .inl e
   ·exact .inr (by rw[e];simp)
  ·exact .inr (by simp[h])
theorem Rj(l:List ah)(h:l≠[]):Lib.minOfS l∈l:=by
 unfold Lib.minOfS;cases l with
 |nil=>exact absurd rfl h
 |cons y l =>
  rcases Ee (y::l) ((y::l).headD aN) with e|e
  ·rw[e];simp
  ·exact e
theorem KU{r:Int}{vs:List V}(hl:vs.length<=4)(h:∀v∈vs,v.2.size<=100):(jC r vs).2.size<=100:=by
 have ht:∀t∈vs.map (·.2),t.size<=100:=fun t ht=>by
  obtain⟨v,hv,rfl⟩:=List.mem_map.1 ht;exact h v hv
 unfold jC;split
 ·have:=Bv vs;exact aR (Ij _ aa) aa
 ·split
  ·exact aQ _
  ·show(lh r (vs.map (·.2))).size<=100;unfold lh;split
   ·rw[BZ];simp;omega
   ·split
    ·rw[BZ];simp;omega
    ·split
     ·have:=Il ht;rw[bG] at this;exact aR (Ij _ aa) aa
     ·split
      ·unfold ya;split
       ·exact aQ _
       ·rename_i cV;exact ht _ (Rj _ cV)
      ·exact aQ _
theorem Ef{rs:List aL}{NM:aL->List ah}(h4:∀r∈rs,(NM r).length<=4){file:ah->V}(hf:∀x,(file x).2.size<=100):∀f x,(yn rs NM file f x).2.size<=100
 |0,x=>by simp[yn,V0]
 |f+1,x=>by
  unfold yn;cases hr:rs.find? (fun r=>decide (r.out=x)) with
  |none=>exact hf x
  |some r =>
   have hm:=List.mem_of_find?_eq_some hr;refine KU (by rw[bG];exact h4 r hm) fun v hv=>?_;obtain⟨y,_,rfl⟩:=List.mem_map.1 hv;exact Ef h4 hf f y
structure dm where
 b5:List aL
 St:Nat
 Or:Nat
 cw:Nat->Nat
 sv:Value
section
variable {Fin:bH} {o:aM} {w:ae}
def ze(F:dm)(b:Nat):Prop:=b=F.St\/b=F.Or\/(∃s,s<F.b5.length/\b=F.cw s)\/∃l c,F.sv=.slice (some ⟨b,0,none⟩) l c
structure yo(o:aM)(w:ae)(lo:Nat)(rs:List aL)(NM:aL->List ah)(F:dm)(y:Value):Prop where
 lay:uS lo NM F.b5 F.St F.Or F.cw F.sv y w
 perm:F.b5.Perm rs
 sorted:∀i j (hi:i<F.b5.length) (hj:j<F.b5.length),i<j->¬qx F.b5[j] F.b5[i]<0
 own:∀b,ze F b->o b
theorem yo.ge{lo:Nat}{rs:List aL}{NM:aL->List ah}{F:dm}{y:Value}(h:yo o w lo rs NM F y){b:Nat}(hb:ze F b):lo<=b:=by
 rcases hb with rfl|rfl|⟨s,hs,rfl⟩|⟨l,c,e⟩
 ·exact h.lay.st.1
 ·exact h.lay.or.1
 ·exact h.lay.ib s hs
 ·rcases h.lay.src with⟨h1,-⟩|⟨g,cap,h1,h2,h3,h4,h5⟩
  ·rw[h1] at e;cases e
  ·rw[h1] at e;cases e;exact h3
theorem yo.keep{lo:Nat}{rs:List aL}{NM:aL->List ah}{F:dm}{y:Value}{o':aM}{w':ae}(h:yo o w lo rs NM F y)(mW:∀b,ze F b->o' b)(hz:w.heap.size<=w'.heap.size)(e:∀b,ze F b->w'.heap[b]?=w.heap[b]?):yo o' w' lo rs NM F y where
 lay:={
  val:=h.lay.val
  steps:=iW h.lay.steps (e _ (.inl rfl)) (fun s hs=>e _ (.inr (.inr (.inl ⟨s,hs,rfl⟩)))) hz
  ord:=World.rowIs.of_block h.lay.ord (e _ (.inr (.inl rfl)))
  src:=by
   rcases h.lay.src with h1|⟨g,cap,h1,h2,h3,h4,h5⟩
   ·exact .inl h1
   ·exact .inr ⟨g,cap,h1,h2,h3,aa,cI h5 (e g (.inr (.inr (.inr ⟨_,_,h1⟩))))⟩
  st:=⟨h.lay.st.1,by have:=h.lay.st.2;omega⟩
  or:=⟨h.lay.or.1,by have:=h.lay.or.2;omega⟩
  ib:=h.lay.ib}
 perm:=h.perm
 sorted:=h.sorted
 own:=mW
def Md(Rb s:Nat)(r:Int)(x:Option (Nat×List V))(w:ae):Prop:=match x with
 |none=>w.cell? ⟨Rb,s*4,none⟩=some (.bool false)/\w.cell? ⟨Rb,s*4+1,none⟩=some (.slice none 0 0)/\w.cell? ⟨Rb,s*4+2,none⟩=some (.bool false)/\w.cell? ⟨Rb,s*4+3,none⟩=some (.string aN)
 |some (B,vs)=>w.cell? ⟨Rb,s*4,none⟩=some (.bool true)/\w.cell? ⟨Rb,s*4+1,none⟩=some (.slice (some ⟨B,0,none⟩) vs.length vs.length)/\w.cell? ⟨Rb,s*4+2,none⟩=some (.bool (jC r vs).1)/\w.cell? ⟨Rb,s*4+3,none⟩=some (.string (jC r vs).2)
theorem Md.keep{Rb s:Nat}{r:Int}{x:Option (Nat×List V)}{w w':ae}(h:Md Rb s r x w)(e:w'.heap[Rb]?=w.heap[Rb]?):Md Rb s r x w':=by
 cases x with
 |none=>exact⟨(cell_of e).trans h.1,(cell_of e).trans h.2.1,(cell_of e).trans h.2.2.1,(cell_of e).trans h.2.2.2⟩
 |some y=>exact⟨(cell_of e).trans h.1,(cell_of e).trans h.2.1,(cell_of e).trans h.2.2.1,(cell_of e).trans h.2.2.2⟩
structure zf where
 bb:Nat
 p:Option Addr
 Ru:Nat
 c:Nat
 Rb:Nat
 rs:List aL
 NM:aL->List ah
 NB:aL->Nat
 RK:ah->Nat
def mB(B:zf)(fd:Option (Nat×dm))(old:Nat->Option (Nat×List V))(b:Nat):Prop :=
 b=B.bb\/b=B.Ru\/b=B.Rb\/b=1\/(∃r∈B.rs,B.NM r≠[]/\b=B.NB r)\/(∃lo F,fd=some (lo,F)/\ze F b)\/∃s vs,s<B.rs.length/\old s=some (b,vs)
structure fq(o:aM)(w:ae)(B:zf)(fd:Option (Nat×dm))(old:Nat->Option (Nat×List V)):Prop where
 own:∀b,mB B fd old b->o b
 right:mQ B.rs B.NM B.RK
 rules:kQ o w B.p B.Ru B.c B.rs B.NM B.NB
 apart:B.Ru≠B.bb/\B.Rb≠B.bb/\(∀r∈B.rs,B.NM r≠[]->B.NB r≠B.bb)/\4<=B.Rb/\4<=B.bb/\B.Ru≠B.Rb/\∀r∈B.rs,B.NM r≠[]->B.NB r≠B.Rb
 blk:∃y0 y1 y2,w.heap[B.bb]?=some (Ji (.slice B.p B.rs.length B.c) (.int .u32 (if fd.isSome then 1 else 0)) (.int .i32 0) (.int .u32 0) y0 y1 y2 (.slice (some ⟨B.Rb,0,none⟩) B.rs.length B.rs.length))/\∀lo F,fd=some (lo,F)->yo o w lo B.rs B.NM F (.agg #[y0,y1,y2])
 lo:∀lo F,fd=some (lo,F)->B.Rb<lo/\B.bb<lo
 fresh:fd=none->∀s,s<B.rs.length->old s=none
 runs:∃cs,w.heap[B.Rb]?=some (.cells cs 222 (0,0))/\cs.size=B.rs.length*4
 idle:∀s,s<B.rs.length->∀r,(∀lo F,fd=some (lo,F)->r=yj F.b5 s)->Md B.Rb s r (old s) w
 vv:∀s b vs,s<B.rs.length->old s=some (b,vs)->eM w b vs/\vs.length<=100000/\B.Rb<b/\B.bb<b
 pow:jB w
theorem fq.keep{B:zf}{fd:Option (Nat×dm)}{old:Nat->Option (Nat×List V)}{o':aM}{w':ae}(h:fq o w B fd old)(mW:∀b,o b->o' b)(hz:w.heap.size<=w'.heap.size)(e:∀b,mB B fd old b->w'.heap[b]?=w.heap[b]?):fq o' w' B fd old where
 own b hb:=mW _ (h.own b hb)
 right:=h.right
 rules:=h.rules.keep mW (e _ (.inr (.inl rfl))) fun r hr hn=>e _ (.inr (.inr (.inr (.inr (.inl ⟨r,hr,hn,rfl⟩)))))
 apart:=h.apart
 blk:=by
  obtain⟨y0,y1,y2,h1,h2⟩:=h.blk;exact⟨y0,y1,y2,(e _ (.inl rfl)).trans h1,fun lo F hf=>(h2 lo F hf).keep (fun b hb=>mW _ ((h2 lo F hf).own b hb)) hz fun b hb=>e b (.inr (.inr (.inr (.inr (.inr (.inl ⟨lo,F,hf,hb⟩))))))⟩
 lo:=h.lo
 fresh:=h.fresh
 runs:=by
  obtain⟨cs,h1,h2⟩:=h.runs;exact⟨cs,(e _ (.inr (.inr (.inl rfl)))).trans h1,h2⟩
 idle s hs r hr:=(h.idle s hs r hr).keep (e _ (.inr (.inr (.inl rfl))))
 vv s b vs hs ho:=by
  obtain⟨h1,h2⟩:=h.vv s b vs hs ho;exact⟨h1.of_block (e b (.inr (.inr (.inr (.inr (.inr (.inr ⟨s,vs,hs,ho⟩))))))),h2⟩
 pow q hq:=(cell_of (e 1 (.inr (.inr (.inr (.inl rfl)))))).trans (h.pow q hq)
end
theorem Eg{α:Type}{lt:α->α->Prop}(ha:∀x y,lt x y->lt y x->False):∀a b:List α,a.Pairwise lt->b.Pairwise lt->(∀x,x∈a↔x∈b)->a=b
 | [],[],_,_,_=>rfl
 | [],y::b,_,_,h=>by have:=(h y).2 an;cases this
 |x::a,[],_,_,h=>by have:=(h x).1 an;cases this
 |x::a,y::b,h1,h2,h=>by
  rw[List.pairwise_cons] at h1 h2;have e:x=y:=by
   rcases List.mem_cons.1 ((h x).1 an) with e|hx
   ·exact e
   ·rcases List.mem_cons.1 ((h y).2 an) with e|hy
    ·exact e.symm
    ·exact(ha _ _ (h1.1 y hy) (h2.1 x hx)).elim
  subst e;rw[Eg ha a b h1.2 h2.2 fun z=>⟨fun hz=>?_,fun hz=>?_⟩]
  ·rcases List.mem_cons.1 ((h z).1 (by simp[hz])) with e|Cq
   ·subst e;exact(ha _ _ (h1.1 z hz) (h1.1 z hz)).elim
   ·exact Cq
  ·rcases List.mem_cons.1 ((h z).2 (by simp[hz])) with e|Cq
   ·subst e;exact(ha _ _ (h2.1 z hz) (h2.1 z hz)).elim
   ·exact Cq
theorem Dc{a b:List ah}(ha:nY a)(hb:nY b)(h:∀x,x∈a↔x∈b):a=b:=by
 refine Eg (lt:=fun x y=>Lib.compareBytes x.toList y.toList<0) (fun x y h1 h2=>?_) a b (List.pairwise_iff_getElem.2 fun i j hi hj DU=>ha i j hi hj DU) (List.pairwise_iff_getElem.2 fun i j hi hj DU=>hb i j hi hj DU) h;rw[qw x.toList y.toList] at h2;omega
theorem yq{rs b5:List aL}{NM:aL->List ah}(p:b5.Perm rs):iq NM b5=iq NM rs:=by
 refine Dc (pA _).1 (pA _).1 fun x=>?_;show x∈iq NM b5↔x∈iq NM rs;rw[tw,tw];constructor
 ·rintro⟨r,h1,h2,h3⟩;exact⟨r,p.mem_iff.1 h1,h2,fun h=>h3 (((p.map (·.out)).mem_iff).2 h)⟩
 ·rintro⟨r,h1,h2,h3⟩;exact⟨r,p.mem_iff.2 h1,h2,fun h=>h3 (((p.map (·.out)).mem_iff).1 h)⟩
section
variable {Fin:bH} {o:aM} {w:ae}
structure bu(ex:Nat->Prop)(o:aM)(w:ae)(o':aM)(w':ae):Prop where
 ay:bE ar L0 o' w'
 more:∀b,o b->o' b
 new:∀b,o' b->o b\/w.heap.size<=b
 size:w.heap.size<=w'.heap.size
 same:∀b,b<w.heap.size->¬ex b->w'.heap[b]?=w.heap[b]?
theorem bu.refl{ex:Nat->Prop}(hF:bE ar L0 o w):bu ex o w o w:=⟨hF,fun _ h=>h,fun _ h=>.inl h,ag _,fun _ _ _=>rfl⟩
theorem bu.trans{ex:Nat->Prop}{o1 o2:aM}{w1 w2:ae}(h:bu ex o w o1 w1)(k:bu ex o1 w1 o2 w2):bu ex o w o2 w2 :=
 ⟨k.ay,fun b hb=>k.more b (h.more b hb),fun b hb=>(k.new b hb).elim (fun q=>h.new b q) fun q=>.inr (by have:=h.size;omega),by have:=h.size;have:=k.size;omega,fun b hb hx=>(k.same b (by have:=h.size;omega) hx).trans (h.same b hb hx)⟩
theorem bu.mono{ex ex':Nat->Prop}{o1:aM}{w1:ae}(h:bu ex o w o1 w1)(he:∀b,ex b->ex' b):bu ex' o w o1 w1:=⟨h.ay,h.more,h.new,h.size,fun b hb hx=>h.same b hb fun q=>hx (he b q)⟩
theorem bu.dL{ex:Nat->Prop}{v:Value}{o1:aM}{w1:ae}(h:fw o w v o1 w1):bu ex o w o1 w1:=by
 refine⟨h.ay,fun b hb=>?_,fun b hb=>?_,h.size,fun b hb _=>h.old b hb⟩
 ·rw[h.own];exact .inl hb
 ·rw[h.own] at hb;exact hb.imp id fun q=>q.1
theorem ga.own{lo:Nat}{ts:List ah}{v:Value}(h:ga lo ts v w):(v=.slice none 0 0/\ts=[])\/∃g cap,v=.slice (some ⟨g,0,none⟩) ts.length cap/\lo<=g/\g<w.heap.size/\dP w g 0 ts:=by
 rcases h with h|⟨g,cap,h1,h2,h3,h4,h5⟩
 ·exact .inl h
 ·exact .inr ⟨g,cap,h1,h3,h4,h5⟩
theorem fq.found{B:zf}{old:Nat->Option (Nat×List V)}{o':aM}{w':ae}(h:fq o w B none old)(hF:bE ar L0 o w)(P:rB o w B.bb B.rs B.NM (fun y0 y1 y2=>Ji (.slice B.p B.rs.length B.c) (.int .u32 1) (.int .i32 0) (.int .u32 0) y0 y1 y2 (.slice (some ⟨B.Rb,0,none⟩) B.rs.length B.rs.length)) o' w'):
  ∃F,fq o' w' B (some (w.heap.size,F)) old:=by
 obtain⟨b5,St,Or,cw,sv,y0,y1,y2,h1,h2,h3,h4⟩:=P.lay;have up:∀b,o b->o' b:=fun b hb=>by rw[P.own];exact .inl hb
 have nw:∀b,w.heap.size<=b->b<w'.heap.size->o' b:=fun b q1 q2=>by rw[P.own];exact .inr ⟨q1,q2⟩
 have lt:∀b,mB B none old b->b<w.heap.size:=fun b hb=>hF.lt (h.own b hb);have eH:∀b,ze ⟨b5,St,Or,cw,sv⟩ b->o' b:=fun b hb=>by
  rcases hb with rfl|rfl|⟨s,hs,rfl⟩|⟨l,c,e⟩
  ·exact nw _ h3.st.1 h3.st.2
  ·exact nw _ h3.or.1 h3.or.2
  ·exact nw _ (h3.ib s hs) (h3.steps.lt s hs)
  ·rcases h3.src with⟨q1,-⟩|⟨g,cap,q1,q2,q3,q4,q5⟩
   ·simp only at e;rw[q1] at e;cases e
   ·simp only at e;rw[q1] at e;cases e;exact nw _ q3 q4
 have sm:∀b,mB B none old b->b≠B.bb->w'.heap[b]?=w.heap[b]?:=fun b hb hn=>P.old b (lt b hb) hn;obtain⟨a1,a2,a3,a4,a5,a6,a7⟩:=h.apart;refine⟨⟨b5,St,Or,cw,sv⟩,fun b hb=>?_,h.right,h.rules.keep up (sm _ (.inr (.inl rfl)) a1) fun r hr hn=>sm _ (.inr (.inr (.inr (.inr (.inl ⟨r,hr,hn,rfl⟩))))) (a3 r hr hn),h.apart,⟨y0,y1,y2,by simpa using h4,fun lo F hf=>?_⟩,fun lo F hf=>?_,(fun hf=>by cases hf),?_,fun s hs r hr=>?_,fun s b vs hs ho=>?_,fun q hq=>?_⟩
 ·rcases hb with hb|hb|hb|hb|hb|⟨lo,F,hf,hb⟩|hb
  ·exact up _ (h.own b (.inl hb))
  ·exact up _ (h.own b (.inr (.inl hb)))
  ·exact up _ (h.own b (.inr (.inr (.inl hb))))
  ·exact up _ (h.own b (.inr (.inr (.inr (.inl hb)))))
  ·exact up _ (h.own b (.inr (.inr (.inr (.inr (.inl hb))))))
  ·cases hf;exact eH b hb
  ·exact up _ (h.own b (.inr (.inr (.inr (.inr (.inr (.inr hb)))))))
 ·cases hf;exact⟨h3,h1,h2,eH⟩
 ·cases hf;exact⟨lt _ (.inr (.inr (.inl rfl))),lt _ (.inl rfl)⟩
 ·obtain⟨cs,q1,q2⟩:=h.runs;exact⟨cs,(sm _ (.inr (.inr (.inl rfl))) a2).trans q1,q2⟩
 ·have:=h.fresh rfl s hs;rw[this];have q:=h.idle s hs r (fun lo F hf=>by cases hf);rw[this] at q;exact q.keep (sm _ (.inr (.inr (.inl rfl))) a2)
 ·rw[h.fresh rfl s hs] at ho;cases ho
 ·exact(cell_of (a:=⟨1,q,none⟩) (sm 1 (.inr (.inr (.inr (.inl rfl)))) aa)).trans (h.pow q hq)
theorem Oo(hF:bE ar L0 o w)(B:zf)(fd:Option (Nat×dm))(old:Nat->Option (Nat×List V))(h:fq o w B fd old):
  bp ar (XB ar Fin 0) 44 #[.pointer (some ⟨B.bb,0,none⟩)] o w fun v o' w'=>bu (·=B.bb) o w o' w'/\(∃lo F mid,fq o' w' B (some (lo,F)) old/\(fd=some (lo,F)\/fd=none/\lo=w.heap.size)/\w.heap.size<=mid/\(∀b,mB B (some (lo,F)) old b->b<mid)/\∀g,v.ownBlock=some g->mid<=g)/\Cl ar L0 o' v/\ga w.heap.size (iq B.NM B.rs) v w'/\∀g l c,v=.slice (some ⟨g,0,none⟩) l c->o' g:=by
 have W:=bJ (P:=ar) (Fin:=Fin) (d:=0);refine bA W func44 ai ?_;walk_nrmf Tryz.f44;have tt:=h.own B.bb (.inl rfl);refine aA ?_;have hl:bp ar (XB ar Fin 0) 73 #[.pointer (some ⟨B.bb,0,none⟩)] o w fun v o' w'=>v=.pointer (some ⟨B.bb,4,none⟩)/\bu (·=B.bb) o w o' w'/\∃lo F,fq o' w' B (some (lo,F)) old/\(fd=some (lo,F)\/fd=none/\lo=w.heap.size):=by
  obtain⟨y0,y1,y2,hb,hp⟩:=h.blk;cases fd with
  |none =>
   refine(KR hF B.bb B.Ru B.c B.p B.rs B.NM B.NB h.rules tt h.apart.1 h.apart.2.2.1 _ y0 y1 y2 _ (by simpa using hb)).mono ?_;rintro v o' w' ⟨rfl,P⟩;refine⟨rfl,⟨P.ay,fun b hb=>by rw[P.own];exact .inl hb,fun b hb=>by rw[P.own] at hb;exact hb.imp id fun q=>q.1,P.size,fun b hb hn=>P.old b hb hn⟩,?_⟩;obtain⟨F,hq⟩:=h.found hF P;exact⟨_,F,hq,.inr ⟨rfl,rfl⟩⟩
  |some f =>
   obtain⟨lo,F⟩:=f;refine(BT hF B.bb tt _ _ _ y0 y1 y2 _ (by simpa using hb)).mono ?_;rintro v o' w' ⟨rfl,N⟩;have hW:bu (·=B.bb) o w o' w':=bu.dL N;exact⟨rfl,hW,lo,F,h.keep hW.more hW.size fun b hb=>N.old b (hF.lt (h.own b hb)),.inl rfl⟩
 refine aF W rfl ai rfl func73 af rfl aC rfl (hl.mono ?_);clear hl;rintro v1 o1 w1 ⟨rfl,W1,lo,F,h1,afS⟩;refine aA ?_;obtain⟨y0,y1,y2,hb,hp⟩:=h1.blk;have P:=hp lo F rfl;have abO:=W1.more _ tt;have ow:=P.lay.val;simp only[Value.agg.injEq] at ow;have Y6:y2=F.sv:=by
  have:=congrArg (fun a:Array Value=>a[2]?) ow;simpa using this
 obtain⟨-,-,-,-,-,-,c6,-,-⟩:=mP hb;rw[Y6] at c6;have NO:=P.lay.src;rw[yq P.perm] at NO;have eY:Cl ar L0 o1 F.sv:=by
  rcases NO with⟨q1,-⟩|⟨g,cap,q1,-⟩
  ·rw[q1];exact gS
  ·rw[q1];exact di (P.own g (.inr (.inr (.inr ⟨_,_,q1⟩))))
 refine rdC W1.ay abO c6 fun _=>?_;refine aA ?_;have hC:bp ar (XB ar Fin 0) 51 #[F.sv] o1 w1 fun v o' w'=>fw o1 w1 v o' w'/\ga w1.heap.size (iq B.NM B.rs) v w':=by
  have hlen:(iq B.NM B.rs).length<=100000:=by
   have q1:=xa (ll (B.rs.map (·.out)) (Fh B.NM B.rs) B.rs.length);have q2:=py (B.rs.map (·.out)) (Fh B.NM B.rs) B.rs.length (fun i hi=>by rw[mR hi];exact h.right.four _ (aD hi)) B.rs.length (ag _);have q3:=h.rules.gT;have:(iq B.NM B.rs).length<=(ll (B.rs.map (·.out)) (Fh B.NM B.rs) B.rs.length).length:=q1;omega
  rcases NO with⟨q1,q2⟩|⟨g,cap,q1,q2,q3,q4,q5⟩
  ·exact xe W1.ay F.sv 0 0 none _ (by rw[q1,q2];rfl) hlen (fun _=>q2) (fun cV=>absurd q2 cV) (fun k hk=>by rw[q2] at hk;simp at hk) eY
  ·exact xe W1.ay F.sv g cap (some ⟨g,0,none⟩) _ q1 hlen (fun e=>by cases e) (fun _=>⟨rfl,P.own g (.inr (.inr (.inr ⟨_,_,q1⟩)))⟩) q5 eY
 refine aF W rfl ai rfl func51 af rfl aC rfl (hC.mono ?_);rintro v2 o2 w2 ⟨N2,t2⟩;refine aA ?_;have W2:bu (·=B.bb) o1 w1 o2 w2:=bu.dL N2;have W02:=W1.trans W2;refine⟨.inr trivial,trivial,_,resultsC_tmp (t:=2) ai _,W02,⟨lo,F,w1.heap.size,h1.keep W2.more W2.size fun b hb=>N2.old b (W1.ay.lt (h1.own b hb)),afS,W1.size,fun b hb=>W1.ay.lt (h1.own b hb),fun g hg=>?_⟩,by simpa[Act.eval] using N2.cl,by simpa[Act.eval] using kJ t2 W1.size (ag _) fun _ _ _=>rfl,fun g l c e=>?_⟩
 ·have e':v2.ownBlock=some g:=by simpa[Act.eval] using hg
  rcases t2 with⟨q1,-⟩|⟨g',cap,q1,q2,q3,q4,q5⟩
  ·rw[q1] at e';cases e'
  ·rw[q1] at e';cases e';exact q3
 have e':v2=.slice (some ⟨g,0,none⟩) l c:=by simpa[Act.eval] using e
 rcases t2 with⟨q1,-⟩|⟨g',cap,q1,q2,q3,q4,q5⟩
 ·rw[q1] at e';cases e'
 ·rw[q1] at e';cases e';rw[N2.own];exact .inr ⟨q3,q4⟩
end
section
open Go.ChangeShapes Go.WideShapes Go.Deep
theorem tS{ts:List TypeId}{k:IntKind}{P:Program}{w:ae}{t u:TypeId}{cs:Array Value}(Pe:P.cellTypes P.depth t=some ts)(gY:∀x∈ts,P.underlying x=some (.int k))(h:Row.ok P w .any 0 t cs)(f:Rn):cs.map (val f)=cs:=by
 obtain⟨OV,e,-,hr⟩:=h;rw[Pe] at e;cases e;apply iR;intro i;rw[br];cases hi:cs[i]? with
 |none=>rfl
 |some v =>
  obtain⟨u,hu,ho⟩:=hr i v hi;have:=gY u (fK hu);unfold Cell.ok at ho;rw[this] at ho;cases v<;>simp at ho;simp
theorem Oq{w:ae}(h:w.ShapedOpen ar):bE ar L0 (fun b=>b<4) w:=by
 have OZ:ar.globals.size=4:=af;have key:∀b,b<4->∃cs t,w.heap[b]?=some (.cells cs t)/\∀f:Rn,cs.map (val f)=cs:=by
  intro b hb;have mo:b=0\/b=1\/b=2\/b=3:=aa;rcases mo with rfl|rfl|rfl|rfl
  ·obtain⟨cs,e1,-,e2⟩:=h.1 0 (#[.int .i64 0]) 3 (by rw[OZ];omega) af;exact⟨cs,_,e1,tS (ts:=[3]) (k:=.i64) (u:=0) af (fun x hx=>by rw[List.mem_singleton.1 hx];exact underlying3) (e2 af)⟩
  ·obtain⟨cs,e1,-,e2⟩:=h.1 1 (Array.replicate 20 (.int .u64 0)) 342 (by rw[OZ];omega) af;exact⟨cs,_,e1,tS (ts:=List.replicate 20 212) (k:=.u64) (u:=0) af (fun x hx=>by rw[gh hx];exact underlying212) (e2 af)⟩
  ·obtain⟨cs,e1,-,e2⟩:=h.1 2 (Array.replicate 32 (.int .u8 0)) 347 (by rw[OZ];omega) af;exact⟨cs,_,e1,tS (ts:=List.replicate 32 5) (k:=.u8) (u:=0) af (fun x hx=>by rw[gh hx];exact underlying5) (e2 af)⟩
  ·obtain⟨cs,e1,-,e2⟩:=h.1 3 (Array.replicate 64 (.int .u8 0)) 348 (by rw[OZ];omega) af;exact⟨cs,_,e1,tS (ts:=List.replicate 64 5) (k:=.u8) (u:=0) af (fun x hx=>by rw[gh hx];exact underlying5) (e2 af)⟩
 refine⟨fun b hb=>?_,fun b hb=>by rw[OZ] at hb;exact hb,?_⟩
 ·obtain⟨cs,t,e1,e2⟩:=key b hb;exact⟨_,e1,rfl,fun f _=>by simp[obj,e2 f]⟩
 ·obtain⟨cs,t,e1,-⟩:=key 3 aa;have:=(Array.getElem?_eq_some_iff.1 e1).1;rw[OZ];omega
theorem afT{q:Nat}(hq:q<20):(match (YtgjekaaknjgnmaaGreatDoor.Rows.laid_internal_strconv_uint64pow10:DataW Unit) with|.agg l=>l[q]? | _=>none)=some (.lit (.int .u64 ((10^q:Nat):Int))):=by
 have EN:q=0\/q=1\/q=2\/q=3\/q=4\/q=5\/q=6\/q=7\/q=8\/q=9\/q=10\/q=11\/q=12\/q=13\/q=14\/q=15\/q=16\/q=17\/q=18\/q=19:=aa;rcases EN with rfl|rfl|rfl|rfl|rfl|rfl|rfl|rfl|rfl|rfl|rfl|rfl|rfl|rfl|rfl|rfl|rfl|rfl|rfl|rfl<;>rfl
theorem KV{w:ae}{r:List (String×DataW Unit)}(hr:r=[("math/bits.deBruijn32tab",YtgjekaaknjgnmaaGreatDoor.Rows.laid_math_bits_deBruijn32tab),("math/bits.deBruijn64tab",YtgjekaaknjgnmaaGreatDoor.Rows.laid_math_bits_deBruijn64tab),("internal/strconv.uint64pow10",YtgjekaaknjgnmaaGreatDoor.Rows.laid_internal_strconv_uint64pow10)])(h:laidMetH ar r w):jB w:=by
 subst hr;rw[MakeChecks.laidMetH_plain _ _ _ af] at h;obtain⟨ps,⟨g0,t0,cs0,f0,p0,q0,WO,ht0,ME,Cr,⟨g1,t1,rW,f1,p1,q1,I3,ht1,Gd,Zd,⟨g2,t2,Zu,f2,p2,q2,Cv,ht2,I2,SN,-,-⟩,-⟩,-⟩,-,-⟩:=h;clear Cr Zd ME Gd WO I3 ht0 ht1;have e1:ar.globalNamed "internal/strconv.uint64pow10" = some 1:=af;have e2:(ar.globals[1]?).map (·.type)=some 342:=af;obtain rfl:=aK (e1.symm.trans Cv);obtain rfl:=aK (e2.symm.trans ht2);obtain⟨xs,m,-,hx,eY,Zv,hel⟩:=DataW.trod_array underlying342 SN;have c1:ar.cellsOf 212=1:=af;intro q hq;have hp:=afT hq;rw[(Prod.mk.inj hx).1] at hp;simp only[List.getElem?_map] at hp;obtain⟨y,hy,e3⟩:=Option.map_eq_some_iff.1 hp;have hq2:=hel q hq;rw[hy,c1] at hq2;obtain⟨n,k1,k2,-⟩:=DataW.trod_int underlying212 hq2;rw[k2] at e3;simp only[DataW.lit.injEq,Lit.int.injEq,true_and] at e3;subst e3;have:=World.var?_cell Cv I2 q;rw[this];rw[Nat.mul_one] at k1;have k3:=congrArg (fun l=>l[0]?) k1;simp only[List.getElem?_take,List.getElem?_drop,Array.getElem?_toList] at k3;simpa using k3
end
open Go.ConcR (Payload)
section
variable {Fin:bH} {o:aM} {w:ae}
def mi(B:zf)(F:dm)(file:ah->V)(s:Nat):List V:=(Fh B.NM F.b5 s).map (valOf B.rs B.NM file)
def kW(B:zf)(F:dm)(file:ah->V)(s:Nat):V:=valOf B.rs B.NM file (qC F.b5 s)
def yr(B:zf)(F:dm)(file:ah->V)(Vb bn Nb Mb:Nat)(ch:Nat->Nat):mf where
 n:=B.rs.length
 bn:=bn
 Lb:=B.bb
 Lo:=4
 St:=F.St
 Vb:=Vb
 Rb:=B.Rb
 Nb:=Nb
 Mb:=Mb
 jm:=yj F.b5
 ins:=lH B.NM F.b5
 cw:=F.cw
 lj:=(iq B.NM B.rs).map file
 ch:=ch
def xh(B:zf)(F:dm)(k:Nat):Nat:=(dK (lH B.NM F.b5) F.b5.length F.b5.length).getD k 0
theorem KW{B:zf}{F:dm}(hR:mQ B.rs B.NM B.RK)(hp:F.b5.Perm B.rs)(hS:nY (F.b5.map (·.out))):
  (dK (lH B.NM F.b5) F.b5.length F.b5.length).length=F.b5.length/\nF F.b5.length (dK (lH B.NM F.b5) F.b5.length F.b5.length)/\(∀s,s<F.b5.length->s∈dK (lH B.NM F.b5) F.b5.length F.b5.length)/\mO (lH B.NM F.b5) (dK (lH B.NM F.b5) F.b5.length F.b5.length):=by
 have Yi:=hR.perm hp;refine Q1 (lH B.NM F.b5) F.b5.length (fun s=>B.RK (qC F.b5 s)) (fun s hs=>?_) (fun s hs m hm=>?_)
 ·rw[xf hs];exact Yi.low _ (aD hs)
 ·obtain⟨h1,h2⟩:=UA hS hs hm;refine⟨h1,?_⟩;rw[xf h1,xf hs];exact Yi.Ig _ (aD hs) _ h2 (iE (aD h1))
theorem oH{B:zf}{F:dm}(hR:mQ B.rs B.NM B.RK)(hp:F.b5.Perm B.rs)(hS:nY (F.b5.map (·.out)))(file:ah->V)(Vb bn Nb Mb:Nat)(ch:Nat->Nat){s:Nat}(hs:s<B.rs.length):dA (yr B F file Vb bn Nb Mb ch) (kW B F file) s=mi B F file s:=by
 have rX:s<F.b5.length:=by rw[hp.length_eq];exact hs
 rw[On (hR.perm hp) hS (yr B F file Vb bn Nb Mb ch) file (kW B F file) rfl (by show(iq B.NM B.rs).map file=_;rw[yq hp]) (fun s hs=>by show valOf B.rs B.NM file _=_;rw[BY hR hp]) rX];unfold mi;rw[mR rX];exact cU fun x _=>BY hR hp file x
theorem Eh{B:zf}{F:dm}(hR:mQ B.rs B.NM B.RK)(hp:F.b5.Perm B.rs)(file:ah->V){s:Nat}(hs:s<B.rs.length):kW B F file s=jC (yj F.b5 s) (mi B F file s):=by
 have rX:s<F.b5.length:=by rw[hp.length_eq];exact hs
 unfold kW mi;rw[xf rX,Mc rX,mR rX];exact Ec hR file (hp.mem_iff.1 (aD rX))
theorem qE{w:ae}{a b:Nat}{x y:Obj}(ha:w.heap[a]?=some x)(hb:w.heap[b]?=some y)(h:x≠y):a≠b:=fun e=>by
 subst e;rw[ha] at hb;exact h (aK hb)
theorem Rk{B:zf}{lo:Nat}{F:dm}{old:Nat->Option (Nat×List V)}{file:ah->V}{Vb bn Nb Mb nv:Nat}{ch:Nat->Nat}{o':aM}{w':ae}(hF:bE ar L0 o w)(h:fq o w B (some (lo,F)) old)(pU:∀x,(file x).2.size<=100)(V8:o Vb)(Zw:Vb≠B.Rb)(hv:eM w Vb ((iq B.NM B.rs).map file))(hnv:nv=((iq B.NM B.rs).map file).length)(N:jo o w (.pointer (some ⟨B.bb,4,none⟩)) (.slice (some ⟨Vb,0,none⟩) nv nv) (.slice (some ⟨B.Rb,0,none⟩) B.rs.length B.rs.length) B.rs.length bn Nb Mb ch B.rs.length o' w'):
  mZ (yr B F file Vb bn Nb Mb ch) (xh B F) (kW B F file) old F.Or o' w':=by
 subst hnv;obtain⟨y0,y1,y2,hb,hp⟩:=h.blk;have P:=hp lo F rfl;have hlen:=P.perm.length_eq;have hS:=zd (h.right.perm P.perm).nodup P.sorted;obtain⟨k1,k2,k3,k4⟩:=KW h.right P.perm hS;have ow:=P.lay.val;simp only[Value.agg.injEq] at ow;have hy0:y0=.slice (some ⟨F.St,0,none⟩) F.b5.length F.b5.length:=by have:=congrArg (fun a:Array Value=>a[0]?) ow;simpa using this
 have hy1:y1=.slice (some ⟨F.Or,0,none⟩) (dK (lH B.NM F.b5) F.b5.length F.b5.length).length F.b5.length:=by have:=congrArg (fun a:Array Value=>a[1]?) ow;simpa using this
 rw[k1] at hy1;have ir:∀b,o b->w'.heap[b]?=w.heap[b]?:=fun b hb=>N.old b (hF.lt hb);have up:∀b,o b->o' b:=fun b hb=>by rw[N.own];exact .inl hb
 have rC:∀b,mB B (some (lo,F)) old b->o b:=h.own;have tt:=rC B.bb (.inl rfl);have Jg:=rC B.Rb (.inr (.inr (.inl rfl)));have Zx:∀b,ze F b->o b:=P.own;have c8:=mP ((ir _ tt).trans hb);have c5:=ym N.bn.2.2;have dW:oE w' F.St F.b5.length (qC F.b5) (yj F.b5) (lH B.NM F.b5) F.cw:=iW P.lay.steps (ir _ (Zx _ (.inl rfl))) (fun s hs=>ir _ (Zx _ (.inr (.inr (.inl ⟨s,hs,rfl⟩))))) N.size;have hRw:=hF.lt Jg;have new:∀b,w.heap.size<=b->∀c,o c->c≠b:=fun b hb c hc e=>by have:=hF.lt hc;omega
 have afU:∀s,s<B.rs.length->ch s≠Nb:=fun s hs=>qE (N.nZ s hs).2.2 N.nb.2.2 an;obtain⟨csM,hM,-,-⟩:=N.mb.2.2;have Im:∀c,o c->o' c/\c≠Nb/\∀s,s<B.rs.length->c≠ch s:=fun c hc=>⟨up c hc,new Nb N.nb.1 c hc,fun s hs=>new (ch s) (N.nZ s hs).1 c hc⟩;have lsp:=(h.lo lo F rfl);have four:∀s,s<B.rs.length->(lH B.NM F.b5 s).length<=4:=fun s hs=>by
  have rX:s<F.b5.length:=aa;unfold lH;rw[bG,mR rX];exact h.right.four _ (P.perm.mem_iff.1 (aD rX))
 have JO:=h.apart;refine {DI:=⟨c5.1,c5.2.1,c5.2.2.1,c5.2.2.2.1,c5.2.2.2.2.1,?_,fun s hs=>dW.eD s (by rw[hlen];exact hs),fun s hs=>dW.zJ s (by rw[hlen];exact hs),fun s hs j hj=>dW.Bw s (by rw[hlen];exact hs) j hj,(hv.of_block (ir _ V8)).lj,fun s hs=>?_⟩,pow:=fun q hq=>(cell_of (a:=⟨1,q,none⟩) (ir 1 (rC 1 (.inr (.inr (.inr (.inl rfl))))))).trans (h.pow q hq),order:=?_,Kv:=fun k hk=>?_,still:=fun b hb=>?_,nZ:=fun s hs=>⟨?_,?_,afU s hs,0,0,false,(N.nZ s hs).2.2⟩,wh:=N.inj,BC:=up _ Jg,BD:=?_,apart:=(Im _ Jg).2.1,R0:=?_,N0:=⟨_,N.nb.2.2,by simp[size_madeCells];rfl⟩,idle:=fun s hs=>⟨?_,?_,?_,⟨_,_,N.nb.2.2⟩⟩,vv:=fun s b vs hs ho=>?_,pI:=fun i hi=>?_,XU:=fun i j hi hj e=>?_,XV:=fun s hs=>?_,dep:=fun i hi m hm=>?_,src:=fun s hs m hm=>?_,short:=four,gT:=by show B.rs.length<=_;have:=h.rules.gT;omega,TV:=?_,made:=fun s hs=>?_,eD:=fun s hs=>?_,size:=fun s hs=>?_}
 ·show w'.cell? ⟨B.bb,4,none⟩=some (.slice (some ⟨F.St,0,none⟩) B.rs.length B.rs.length);rw[c8.2.2.2.2.1,hy0,hlen]
 ·have rX:s<B.rs.length:=hs;have:=N.mb.2.2.cell rX;rw[if_pos rX] at this;exact this
 ·show w'.cell? ⟨B.bb,5,none⟩=some (.slice (some ⟨F.Or,0,none⟩) B.rs.length B.rs.length);rw[c8.2.2.2.2.2.1,hy1,hlen]
 ·have kY:k<F.b5.length:=by rw[hlen];exact hk
  exact(World.rowIs.of_block P.lay.ord (ir _ (Zx _ (.inr (.inl rfl))))).cell kY
 ·rcases hb with hb|rfl|rfl|rfl|hb|rfl|rfl|⟨s,hs,rfl⟩|⟨s,vs,hs,ho⟩
  ·have e:b=bn:=hb;rw[e];exact⟨by rw[N.own];exact .inr ⟨N.bn.1,N.bn.2.1⟩,fun e=>new bn N.bn.1 _ Jg e.symm,qE N.bn.2.2 N.nb.2.2 an,fun s hs=>qE N.bn.2.2 (N.nZ s hs).2.2 an⟩
  ·obtain⟨q1,q2,q3⟩:=Im _ tt;exact⟨q1,fun e=>JO.2.1 e.symm,q2,q3⟩
  ·obtain⟨q1,q2,q3⟩:=Im _ (Zx F.St (.inl rfl));exact⟨q1,fun e=>by have:=P.ge (b:=F.St) (.inl rfl);have e:F.St=B.Rb:=e;omega,q2,q3⟩
  ·obtain⟨q1,q2,q3⟩:=Im _ V8;exact⟨q1,Zw,q2,q3⟩
  ·have e:b=Mb:=hb;rw[e];exact⟨by rw[N.own];exact .inr ⟨N.mb.1,N.mb.2.1⟩,fun e=>new Mb N.mb.1 _ Jg e.symm,qE hM N.nb.2.2 (by intro e;cases e),fun s hs=>qE hM (N.nZ s hs).2.2 an⟩
  ·obtain⟨q1,q2,q3⟩:=Im _ (Zx F.Or (.inr (.inl rfl)));exact⟨q1,fun e=>by have:=P.ge (b:=F.Or) (.inr (.inl rfl));have e:F.Or=B.Rb:=e;omega,q2,q3⟩
  ·obtain⟨q1,q2,q3⟩:=Im _ (rC 1 (.inr (.inr (.inr (.inl rfl)))));exact⟨q1,fun e=>by have e:1=B.Rb:=e;omega,q2,q3⟩
  ·have hl:ze F (F.cw s):=.inr (.inr (.inl ⟨s,by rw[hlen];exact hs,rfl⟩));obtain⟨q1,q2,q3⟩:=Im _ (Zx _ hl);exact⟨q1,fun e=>by have:=P.ge hl;have e:F.cw s=B.Rb:=e;omega,q2,q3⟩
  ·obtain⟨q1,q2,q3⟩:=Im _ (rC b (.inr (.inr (.inr (.inr (.inr (.inr ⟨s,vs,hs,ho⟩)))))));obtain⟨-,-,r3,-⟩:=h.vv s b vs hs ho;exact⟨q1,fun e=>by have e:b=B.Rb:=e;omega,q2,q3⟩
 ·show o' (ch s);rw[N.own];exact .inr ⟨(N.nZ s hs).1,(N.nZ s hs).2.1⟩
 ·exact fun e=>new (ch s) (N.nZ s hs).1 _ Jg e.symm
 ·show o' Nb;rw[N.own];exact .inr ⟨N.nb.1,N.nb.2.1⟩
 ·obtain⟨cs,q1,q2⟩:=h.runs;exact⟨cs,(ir _ Jg).trans q1,q2⟩
 ·have q:=(h.idle s hs (yj F.b5 s) (fun Ra F' hf=>by cases hf;rfl)).keep (ir _ Jg);cases hx:old s with
  |none=>rw[hx] at q;exact⟨q.1,q.2.1,q.2.2.1,q.2.2.2⟩
  |some x=>rw[hx] at q;exact⟨q.1,q.2.1,q.2.2.1,q.2.2.2⟩
 ·have rX:s<B.rs.length:=hs;show w'.cell? ⟨Nb,s,none⟩=some (.bool false);simp[World.cell?,N.nb.2.2,madeCells,rX,Nat.mod_one]
 ·obtain⟨cs,q1,q2⟩:=h.runs;exact⟨cs,_,(ir _ Jg).trans q1⟩
 ·obtain⟨q1,q2,-⟩:=h.vv s b vs hs ho;exact⟨(q1.of_block (ir _ (rC b (.inr (.inr (.inr (.inr (.inr (.inr ⟨s,vs,hs,ho⟩))))))))).lj,q2⟩
 ·have lQ:i<(dK (lH B.NM F.b5) F.b5.length F.b5.length).length:=by rw[k1,hlen];exact hi
  show xh B F i<B.rs.length;unfold xh;rw[<- hlen];simp only[List.getD,cp lQ,y7];exact k2.2 _ (aD lQ)
 ·have lQ:i<(dK (lH B.NM F.b5) F.b5.length F.b5.length).length:=by rw[k1,hlen];exact hi
  have rY:j<(dK (lH B.NM F.b5) F.b5.length F.b5.length).length:=by rw[k1,hlen];exact hj
  unfold xh at e;simp only[List.getD,cp lQ,cp rY,y7] at e;have nd:=List.pairwise_iff_getElem.1 k2.1;rcases gE i j with q|q|q
  ·exact absurd e (nd i j lQ rY q)
  ·exact q
  ·exact absurd e.symm (nd j i rY lQ q)
 ·obtain⟨i,hi,e⟩:=a8 (k3 s (by rw[hlen];exact hs));refine⟨i,by show i<B.rs.length;rw[<- hlen,<- k1];exact hi,?_⟩;unfold xh;simp only[List.getD,cp hi,y7];exact e
 ·have lQ:i<(dK (lH B.NM F.b5) F.b5.length F.b5.length).length:=by rw[k1,hlen];exact hi
  have e1:xh B F i=(dK (lH B.NM F.b5) F.b5.length F.b5.length)[i]:=by
   unfold xh;simp only[List.getD,cp lQ,y7]
  have hm':(true,m)∈lH B.NM F.b5 (xh B F i):=hm;rw[e1] at hm';obtain⟨k,hk,Na,e⟩:=k4 i lQ m hm';refine⟨k,Na,?_⟩;unfold xh;simp only[List.getD,cp hk,y7];exact e
 ·have rX:s<F.b5.length:=by rw[hlen];exact hs
  have:=UB hS rX hm;rw[yq P.perm] at this;show m<((iq B.NM B.rs).map file).length;rw[bG];exact this
 ·show((iq B.NM B.rs).map file).length<=100000;rw[bG];have q1:=xa (ll (B.rs.map (·.out)) (Fh B.NM B.rs) B.rs.length);have q2:=py (B.rs.map (·.out)) (Fh B.NM B.rs) B.rs.length (fun i hi=>by rw[mR hi];exact h.right.four _ (aD hi)) B.rs.length (ag _);have q3:=h.rules.gT;have:(iq B.NM B.rs).length<=(ll (B.rs.map (·.out)) (Fh B.NM B.rs) B.rs.length).length:=q1;omega
 ·rw[oH h.right P.perm hS file Vb bn Nb Mb ch hs];exact Eh h.right P.perm file hs
 ·have rX:s<F.b5.length:=by rw[hlen];exact hs
  show 1<=yj F.b5 s/\yj F.b5 s<=5;rw[Mc rX];exact h.right.eD _ (P.perm.mem_iff.1 (aD rX))
 ·rw[oH h.right P.perm hS file Vb bn Nb Mb ch hs];have rX:s<F.b5.length:=by rw[hlen];exact hs
  have q:∀t∈(mi B F file s).map (·.2),t.size<=100:=fun t ht=>by
   obtain⟨x,hx,rfl⟩:=List.mem_map.1 ht;obtain⟨y,-,rfl⟩:=List.mem_map.1 hx;exact Ef h.right.four pU _ y
  have q2:=Ik q;have q3:((mi B F file s).map (·.2)).length<=4:=by
   rw[bG];unfold mi;rw[bG,mR rX];exact h.right.four _ (P.perm.mem_iff.1 (aD rX))
  omega
theorem B0{w w':ae}{bn Lb Lo St Rb Nb n:Nat}{out:Nat->ah}{eD:Nat->Int}{ins:Nat->List (Bool×Nat)}{cw:Nat->Nat}{res:Nat->Kz.V}{ku:Nat->Bool}(h:oG w bn Lb Lo St Rb Nb n out eD ins cw res ku)(hz:w.heap.size<=w'.heap.size)(e:∀b,b=bn\/b=Lb\/b=St\/b=Rb\/b=Nb\/(∃s,s<n/\b=cw s)->w'.heap[b]?=w.heap[b]?):oG w' bn Lb Lo St Rb Nb n out eD ins cw res ku where
 b0:=(cell_of (e bn (.inl rfl))).trans h.b0
 b2:=(cell_of (e bn (.inl rfl))).trans h.b2
 b3:=(cell_of (e bn (.inl rfl))).trans h.b3
 st:=(cell_of (e Lb (.inr (.inl rfl)))).trans h.st
 steps:=iW h.steps (e St (.inr (.inr (.inl rfl)))) (fun s hs=>e _ (.inr (.inr (.inr (.inr (.inr ⟨s,hs,rfl⟩)))))) hz
 r2 s hs:=(cell_of (e Rb (.inr (.inr (.inr (.inl rfl)))))).trans (h.r2 s hs)
 r3 s hs:=(cell_of (e Rb (.inr (.inr (.inr (.inl rfl)))))).trans (h.r3 s hs)
 ku s hs:=(cell_of (e Nb (.inr (.inr (.inr (.inr (.inl rfl))))))).trans (h.ku s hs)
 lbn:=by have:=h.lbn;omega
 lLb:=by have:=h.lLb;omega
 lSt:=by have:=h.lSt;omega
 lRb:=by have:=h.lRb;omega
 lNb:=by have:=h.lNb;omega
def mz(old:Nat->Option (Nat×List V))(ins:Nat->List V)(s:Nat):Bool:=match old s with
 |none=>true
 |some (_,vs)=>!decide (vs=ins s)
theorem fq.built{B:zf}{lo:Nat}{F:dm}{old:Nat->Option (Nat×List V)}{file:ah->V}{Vb bn Nb Mb:Nat}{ch:Nat->Nat}{o1 o2:aM}{w1 w2:ae}(hF:bE ar L0 o w)(rh:bE ar L0 o2 w2)(h:fq o w B (some (lo,F)) old)(mW:∀b,o b->o1 b)(hz:w.heap.size<=w1.heap.size)(hold:∀b,b<w.heap.size->w1.heap[b]?=w.heap[b]?)(EK:w.heap.size<=Nb)(uh:∀s,s<B.rs.length->w.heap.size<=ch s)(Q:QP (yr B F file Vb bn Nb Mb ch) (kW B F file) old o1 w1 o2 w2):
  (∃ir,fq o2 w2 B (some (lo,F)) ir/\∀s,s<B.rs.length->∃b,ir s=some (b,mi B F file s)/\((∃vs,old s=some (b,vs))\/w.heap.size<=b))/\(∀b,b<w.heap.size->b≠B.Rb->w2.heap[b]?=w.heap[b]?) /\
   ∀s,s<B.rs.length->w2.cell? ⟨B.Rb,s*4+2,none⟩=some (.bool (kW B F file s).1)/\w2.cell? ⟨B.Rb,s*4+3,none⟩=some (.string (kW B F file s).2)/\w2.cell? ⟨Nb,s,none⟩=some (.bool (mz old (mi B F file) s)):=by
 obtain⟨y0,y1,y2,hb,hp⟩:=h.blk;have P:=hp lo F rfl;have hlen:=P.perm.length_eq;have hS:=zd (h.right.perm P.perm).nodup P.sorted;have rC:∀b,mB B (some (lo,F)) old b->o b:=h.own;have sm:∀b,b<w.heap.size->b≠B.Rb->w2.heap[b]?=w.heap[b]?:=fun b hb hn=>by
  rw[Q.same b aa hn (fun e=>by have e:b=Nb:=e;omega) (fun s hs e=>by have e:b=ch s:=e;have:=uh s hs;omega)];exact hold b hb
 have up:∀b,o b->o2 b:=fun b hb=>Q.more b (mW b hb);have lsp:=h.lo lo F rfl;obtain⟨a1,a2,a3,a4,a5,a6,a7⟩:=h.apart;have hRw:B.Rb<w.heap.size:=hF.lt (rC _ (.inr (.inr (.inl rfl))));have gv:B.bb<w.heap.size:=hF.lt (rC _ (.inl rfl));have run:∀s,∃b,s<B.rs.length->uQ (yr B F file Vb bn Nb Mb ch) s w2 b (mi B F file s) (kW B F file s)/\eM w2 b (mi B F file s)/\o2 b/\B.Rb<b/\B.bb<b/\((∃vs,old s=some (b,vs))\/w.heap.size<=b):=fun s=>by
  by_cases hs:s<B.rs.length
  ·have q:=Q.runs s hs;rw[oH h.right P.perm hS file Vb bn Nb Mb ch hs] at q;rcases q with⟨b,q1,q2,q3⟩|⟨q1,b,q2,q3,q4,q5⟩
   ·obtain⟨r1,r2,r3,r4⟩:=h.vv s b _ hs q1;have fD:=rC b (.inr (.inr (.inr (.inr (.inr (.inr ⟨s,_,hs,q1⟩))))));exact⟨b,fun _=>⟨q2,r1.of_block (sm b (hF.lt fD) aa),up b fD,r3,r4,.inl ⟨_,q1⟩⟩⟩
   ·have:=q2.2;exact⟨b,fun _=>⟨q4,q3,q2.1,aa,aa,.inr aa⟩⟩
  ·exact⟨0,fun e=>absurd e hs⟩
 obtain⟨f,hf⟩:∃f:Nat->Nat,∀s,s<B.rs.length->uQ (yr B F file Vb bn Nb Mb ch) s w2 (f s) (mi B F file s) (kW B F file s)/\eM w2 (f s) (mi B F file s)/\o2 (f s)/\B.Rb<f s/\B.bb<f s/\((∃vs,old s=some (f s,vs))\/w.heap.size<=f s):=⟨fun s=>Classical.choose (run s),fun s=>Classical.choose_spec (run s)⟩;have l4:∀s,s<B.rs.length->(mi B F file s).length<=4:=fun s hs=>by
  have rX:s<F.b5.length:=aa;unfold mi;rw[bG,mR rX];exact h.right.four _ (P.perm.mem_iff.1 (aD rX))
 refine⟨⟨fun s=>some (f s,mi B F file s),⟨fun b hb=>?_,h.right,h.rules.keep up (sm _ (hF.lt (rC _ (.inr (.inl rfl)))) a6) fun r hr hn=>sm _ (hF.lt (rC _ (.inr (.inr (.inr (.inr (.inl ⟨r,hr,hn,rfl⟩))))))) (a7 r hr hn),h.apart,⟨y0,y1,y2,(sm _ gv fun e=>a2 e.symm).trans hb,fun Ra F' hf'=>?_⟩,h.lo,(fun e=>by cases e),Q.R0,fun s hs r hr=>?_,fun s b vs hs ho=>?_,fun q hq=>?_⟩,fun s hs=>⟨f s,rfl,(hf s hs).2.2.2.2.2⟩⟩,sm,fun s hs=>?_⟩
 ·rcases hb with hb|hb|hb|hb|hb|hb|⟨s,vs,hs,ho⟩
  ·exact up _ (rC b (.inl hb))
  ·exact up _ (rC b (.inr (.inl hb)))
  ·exact up _ (rC b (.inr (.inr (.inl hb))))
  ·exact up _ (rC b (.inr (.inr (.inr (.inl hb)))))
  ·exact up _ (rC b (.inr (.inr (.inr (.inr (.inl hb))))))
  ·exact up _ (rC b (.inr (.inr (.inr (.inr (.inr (.inl hb)))))))
  ·cases ho;exact(hf s hs).2.2.1
 ·cases hf';exact P.keep (fun b hb=>up _ (P.own b hb)) (by have:=Q.size;omega) fun b hb=>sm b (hF.lt (P.own b hb)) (by have:=P.ge hb;omega)
 ·have SJ:=hr lo F rfl;obtain⟨q1,-⟩:=hf s hs;rw[SJ];have e:=Eh h.right P.perm file hs;refine⟨q1.c0,q1.c1,?_,?_⟩
  ·rw[<- e];exact q1.c2
  ·rw[<- e];exact q1.c3
 ·cases ho;obtain⟨-,q2,-,q4,q5,-⟩:=hf s hs;exact⟨q2,by have:=l4 s hs;omega,q4,q5⟩
 ·exact(cell_of (a:=⟨1,q,none⟩) (sm 1 (hF.lt (rC 1 (.inr (.inr (.inr (.inl rfl)))))) aa)).trans (h.pow q hq)
 ·obtain⟨q1,-⟩:=hf s hs;refine⟨q1.c2,q1.c3,?_⟩;have q:=Q.runs s hs;rw[oH h.right P.perm hS file Vb bn Nb Mb ch hs] at q;rcases q with⟨b,q1,q2,q3⟩|⟨q1,b,q2,q3,q4,q5⟩
  ·have:mz old (mi B F file) s=false:=by simp[mz,q1]
   rw[this];exact q3
  ·have:mz old (mi B F file) s=true:=by
    unfold mz;cases ho:old s with
    |none=>rfl
    |some x =>
     obtain⟨b',vs⟩:=x;have:vs≠mi B F file s:=fun e=>q1 b' (by rw[ho,e]);simp[this]
   rw[this];exact q5
theorem UD[Payload](hF:bE ar L0 o w)(B:zf)(lo:Nat)(F:dm)(old:Nat->Option (Nat×List V))(h:fq o w B (some (lo,F)) old)(file:ah->V)(pU:∀x,(file x).2.size<=100)(Vb nv:Nat)(V8:o Vb)(Zw:Vb≠B.Rb)(hv:eM w Vb ((iq B.NM B.rs).map file))(hnv:nv=((iq B.NM B.rs).map file).length):
  bp ar (XB ar Fin 0) 42 #[.pointer (some ⟨B.bb,0,none⟩),.slice (some ⟨Vb,0,none⟩) nv nv] o w fun v o' w'=>∃R rv ir,v=.tuple #[.slice (some ⟨R,0,none⟩) B.rs.length B.rs.length,rv]/\bu (·=B.Rb) o w o' w'/\fq o' w' B (some (lo,F)) ir/\(∀s,s<B.rs.length->∃b,ir s=some (b,mi B F file s)/\((∃vs,old s=some (b,vs))\/w.heap.size<=b)) /\
   (w.heap.size<=R/\o' R/\w'.rowIs R 65 (B.rs.length*3) (gq (qC F.b5) (kW B F file) B.rs.length))/\ga w.heap.size (qA (qC F.b5) (mz old (mi B F file)) B.rs.length) rv w'/\Cl ar L0 o' rv/\(∀g l c,rv=.slice (some ⟨g,0,none⟩) l c->o' g)/\∃mid,w.heap.size<=mid/\mid<=R/\(∀b,mB B (some (lo,F)) ir b->b<mid)/\∀g,rv.ownBlock=some g->mid<=g:=by
 have W:=bJ (P:=ar) (Fin:=Fin) (d:=0);refine bA W func42 ai ?_;walk_nrmf Tryz.f42;have afV:=hnv.symm;clear hnv;have tt:=h.own B.bb (.inl rfl);have Jg:=h.own B.Rb (.inr (.inr (.inl rfl)));have hn8:=h.rules.gT;obtain⟨y0,y1,y2,hb,hp⟩:=h.blk;have P:=hp lo F rfl;have hb:w.heap[B.bb]?=some (Ji (.slice B.p B.rs.length B.c) (.int .u32 1) (.int .i32 0) (.int .u32 0) y0 y1 y2 (.slice (some ⟨B.Rb,0,none⟩) B.rs.length B.rs.length)):=by simpa using hb
 have gv:=hF.lt tt;refine aA ?_;refine dq mixed af [some none,some none,some none,some (some (.pointer (some ⟨B.bb,4,none⟩))),some none,some none,some none,some none,some (some (.slice (some ⟨B.Rb,0,none⟩) B.rs.length B.rs.length)),none,some none]
  (S:=fun σ o' w'=>(σ 9=none/\bu (fun _=>False) o w o' w')\/(∃y,σ 9=some y/\∃o1 w1 bn Nb Mb ch,bu (fun _=>False) o w o1 w1/\y=.pointer (some ⟨bn,0,none⟩)/\jo o1 w1 (.pointer (some ⟨B.bb,4,none⟩)) (.slice (some ⟨Vb,0,none⟩) nv nv) (.slice (some ⟨B.Rb,0,none⟩) B.rs.length B.rs.length) B.rs.length bn Nb Mb ch B.rs.length o' w')) ?_ fun v=>?_
 ·exact .inl ⟨rfl,bu.refl hF⟩
 refine dp ?_;refine bO ?_;refine iL rfl rfl ai rfl func73 af rfl (av:=#[.pointer (some ⟨B.bb,0,none⟩)]) aC (fun σ o' w' H hS=>?_) ?_
 ·rcases hS with⟨h9,hW⟩|⟨y,h9,-⟩
  ·refine(BT hW.ay B.bb (hW.more _ tt) _ _ _ y0 y1 y2 _ ((hW.same _ gv id).trans hb)).mono ?_;rintro v' o2 w2 ⟨rfl,N⟩;exact⟨rfl,.inl ⟨h9,hW.trans (bu.dL N)⟩⟩
  ·rw[H.sg 9 af] at h9;cases h9
 refine bO ?_;refine bK aX rfl rfl rfl ai ai (fun σ o' w' H hS=>?_) ?_
 ·rcases hS with⟨h9,hW⟩|⟨y,h9,-⟩
  ·have kB:=hW.more _ tt;refine⟨hW.ay,fun y hy=>?_,fun wl aE=>?_⟩
   ·simp[Op.operands] at hy;subst hy;simp[Act.eval];exact aH kB
   ·have c7:=(mP ((hW.same _ gv id).trans hb)).2.2.2.2.2.2.2.1;simp[go_sem,(aE.cell kB).trans c7]
  ·rw[H.sg 9 af] at h9;cases h9
 walk_nrm;refine rj rfl rfl ai rfl func72 af rfl (av:=#[.pointer (some ⟨B.bb,4,none⟩),.slice (some ⟨Vb,0,none⟩) nv nv,.slice (some ⟨B.Rb,0,none⟩) B.rs.length B.rs.length]) aC (fun σ o' w' H h9 hS=>?_) ?_
 ·rcases hS with⟨-,hW⟩|⟨y,h9',-⟩
  ·refine(KS hW.ay B.bb 4 Vb nv B.Rb B.rs.length aa (hW.more _ tt) (hW.more _ V8) (hW.more _ Jg)).mono ?_;rintro y o2 w2 ⟨bn,Nb,Mb,ch,rfl,N⟩;exact .inr ⟨_,by simp[dB],o',w',bn,Nb,Mb,ch,hW,rfl,N⟩
  ·rw[h9] at h9';cases h9'
 refine bO ?_;refine cd fun σ o2 w2 kP hS=>?_;rcases hS with⟨h9,-⟩|⟨y,h9,o1,w1,bn,Nb,Mb,ch,hW,rfl,N⟩
 ·rw[kP 9 dh rfl] at h9;cases h9
 have hv9:v 9=.pointer (some ⟨bn,0,none⟩):=by
  have:=kP 9 dh rfl;rw[h9] at this;exact(aK this).symm
 rw[hv9];simp only[gN,cZ,if_true,if_false,reduceIte,Nat.reduceEqDiff];refine aA ?_;have h1:=h.keep hW.more hW.size fun b hb=>hW.same b (hF.lt (h.own b hb)) id;have BA:=Rk hW.ay h1 pU (hW.more _ V8) Zw (hv.of_block (hW.same _ (hF.lt V8) id)) afV.symm N;refine aF W rfl ai rfl func74 af rfl (by simp[Act.eval];rfl) rfl ((NT N.ay BA).mono ?_);rintro v3 o3 w3 ⟨rfl,Q,qu⟩;refine aA ?_;obtain⟨⟨ir,xA,mr⟩,sm,rr⟩:=h1.built hW.ay qu (fun b hb=>by rw[N.own];exact .inl hb) N.size N.old N.nb.1 (fun s hs=>(N.nZ s hs).1) Q;have Yk:o2 bn:=by rw[N.own];exact .inr ⟨N.bn.1,N.bn.2.1⟩
 obtain⟨-,n1,n2,n3⟩:=BA.still bn (.inl rfl);have vz:w3.heap[bn]?=w2.heap[bn]?:=Q.same bn (N.ay.lt Yk) n1 n2 n3;have c5:=ym (vz.trans N.bn.2.2);obtain⟨z0,z1,z2,vE,hp3⟩:=xA.blk;have P3:=hp3 lo F rfl;have hlen:=P3.perm.length_eq;have ow:=P3.lay.val;simp only[Value.agg.injEq] at ow;have WI:z0=.slice (some ⟨F.St,0,none⟩) F.b5.length F.b5.length:=by have:=congrArg (fun a:Array Value=>a[0]?) ow;simpa using this
 have abP:=xA.own B.bb (.inl rfl);have abQ:=xA.own B.Rb (.inr (.inr (.inl rfl)));have abR:o3 Nb:=Q.more _ (by rw[N.own];exact .inr ⟨N.nb.1,N.nb.2.1⟩);have UE:oG w3 bn B.bb 4 F.St B.Rb Nb B.rs.length (qC F.b5) (yj F.b5) (lH B.NM F.b5) F.cw (kW B F file) (mz old (mi B F file)) :=
  ⟨c5.1,c5.2.2.1,c5.2.2.2.1,by rw[(mP vE).2.2.2.2.1,WI,hlen],by rw[<- hlen];exact P3.lay.steps,fun s hs=>(rr s hs).1,fun s hs=>(rr s hs).2.1,fun s hs=>(rr s hs).2.2,qu.lt (Q.more _ Yk),qu.lt abP,qu.lt (P3.own _ (.inl rfl)),qu.lt abQ,qu.lt abR⟩
 have uG:∀b,b=bn\/b=B.bb\/b=F.St\/b=B.Rb\/b=Nb\/(∃s,s<B.rs.length/\b=F.cw s)->o3 b:=by
  rintro b (rfl|rfl|rfl|rfl|rfl|⟨s,hs,rfl⟩)
  ·exact Q.more _ Yk
  ·exact abP
  ·exact P3.own _ (.inl rfl)
  ·exact abQ
  ·exact abR
  ·exact P3.own _ (.inr (.inr (.inl ⟨s,aa,rfl⟩)))
 refine aF W rfl ai rfl func75 af rfl aC rfl ((Oj qu bn B.bb 4 F.St B.Rb Nb B.rs.length _ _ _ _ _ _ aa UE uG).mono ?_);rintro v4 o4 w4 ⟨N4,rfl,z4,afW⟩;refine aA ?_;have u4:∀b,o3 b->o4 b:=fun b hb=>by rw[N4.own];exact .inl hb
 have afX:=B0 UE N4.size fun b hb=>N4.old b (qu.lt (uG b hb));refine aF W rfl ai rfl func76 af rfl aC rfl ((Ol N4.ay bn B.bb 4 F.St B.Rb Nb B.rs.length _ _ _ _ _ _ aa afX (fun b hb=>u4 _ (uG b hb))).mono ?_);rintro v5 o5 w5 ⟨N5,t5⟩;refine aA ?_;have W4:bu (·=B.Rb) o3 w3 o4 w4:=bu.dL N4;have W5:bu (·=B.Rb) o4 w4 o5 w5:=bu.dL N5;have zQ:=Q.size;have zN:=N.size;have zW:=hW.size;have W3:bu (·=B.Rb) o w o3 w3:=by
  refine⟨qu,fun b hb=>Q.more _ (by rw[N.own];exact .inl (hW.more _ hb)),fun b hb=>?_,aa,fun b hb hx=>?_⟩
  ·rcases Q.new b hb with q|q
   ·rw[N.own] at q;rcases q with q|q
    ·rcases hW.new b q with q|q
     ·exact .inl q
     ·exact .inr q
    ·exact .inr aa
   ·exact .inr aa
  ·rw[sm b aa hx];exact hW.same b hb id
 have W45:=W4.trans W5;refine⟨.inr trivial,trivial,_,resultsC_tmp2 (t:=4) (u:=5) ai _,w3.heap.size,v5,ir,aC,W3.trans W45,xA.keep W45.more W45.size fun b hb=>?_,fun s hs=>(mr s hs).imp fun b q=>⟨q.1,q.2.imp id fun e=>aa⟩,⟨aa,W5.more _ (by rw[N4.own];exact .inr ⟨ag _,z4⟩),World.rowIs.of_block afW (N5.old _ z4)⟩,kJ t5 (by have:=N4.size;omega) (ag _) (fun _ _ _=>rfl),N5.cl,fun g l c e=>?_,w3.heap.size,aa,ag _,fun b hb=>qu.lt (xA.own b hb),fun g hg=>?_⟩
 ·have hl:=qu.lt (xA.own b hb);rw[N5.old b (by have:=N4.size;omega),N4.old b hl]
 ·rcases t5 with⟨q1,-⟩|⟨g',cap,q1,q2,q3,q4,q5⟩
  ·rw[q1] at e;cases e
  ·rw[q1] at e;cases e;rw[N5.own];exact .inr ⟨q3,q4⟩
 ·rcases t5 with⟨q1,-⟩|⟨g',cap,q1,q2,q3,q4,q5⟩
  ·rw[q1] at hg;cases hg
  ·rw[q1] at hg;have e:g'=g:=aK hg;have:=N4.size;omega
end
def mj(w:ae)(r:Nat)(l:List (ah×Value)):Prop:=∃es clock,w.heap[r]?=some (.map es clock)/\es.toList.map (fun e=>(e.key,e.val))=l.map fun p=>(Value.string p.1,p.2)
theorem mj.of_block{w w':ae}{r:Nat}{l:List (ah×Value)}(h:mj w r l)(e:w'.heap[r]?=w.heap[r]?):mj w' r l:=by
 obtain⟨es,c,h1,h2⟩:=h;exact⟨es,c,e.trans h1,h2⟩
def eO{α:Type}:List (ah×α)->ah->Option α
 | [],_=>none
 | (k,v)::l,x=>if x=k then some v else eO l x
def gU{α:Type}:List (ah×α)->ah->α->List (ah×α)
 | [],x,v=>[(x,v)]
 | (k,u)::l,x,v=>if x=k then(x,v)::l else(k,u)::gU l x v
def lI{α:Type}:List (ah×α)->ah->List (ah×α)
 | [],_=>[]
 | (k,u)::l,x=>if x=k then l else(k,u)::lI l x
def rD:List (ah×Value)->ah->Nat->Option (Nat×Value)
 | [],_,_=>none
 | (k,v)::l,x,i=>if x=k then some (i,v) else rD l x (i+1)
theorem Me(a b:ah):(a==b)=decide (a=b):=by
 by_cases h:a=b
 ·rw[(MapKept.bytes_beq a b).2 h];simp[h]
 ·cases hb:(a==b) with
  |false=>simp[h]
  |true=>exact absurd ((MapKept.bytes_beq a b).1 hb) h
theorem pV(x:ah):∀(es:List MapEntry) (l:List (ah×Value)) (i:Nat),es.map (fun e=>(e.key,e.val))=l.map (fun p=>(Value.string p.1,p.2))->Instr.findNow .string (.string x) es i=some (rD l x i)
 | [],[],i,_=>rfl
 | [],_::_,i,h=>by simp at h
 |_::_,[],i,h=>by simp at h
 |e::es,(k,v)::l,i,h=>by
  simp only[bU,aac,WS] at h;obtain⟨⟨h1,h2⟩,h3⟩:=h;unfold Instr.findNow;rw[h1];simp only[Instr.sameNow,Me];by_cases hx:x=k
  ·subst hx;simp[rD,h2]
  ·simp only[rD,if_neg hx,decide_eq_false hx];exact pV x es l (i+1) h3
theorem Io(x:ah):∀(l:List (ah×Value)) (i:Nat),(rD l x i).map (·.2)=eO l x
 | [],i=>rfl
 | (k,v)::l,i=>by
  by_cases hx:x=k
  ·simp[rD,eO,hx]
  ·simp only[rD,eO,if_neg hx];exact Io x l (i+1)
theorem xi{x:ah}{v:Value}:∀{l:List (ah×Value)} {i j:Nat} {u:Value},rD l x i=some (j,u)->i<=j/\j<i+l.length/\gU l x v=l.set (j-i) (x,v)/\(l.map (·.1))[j-i]?=some x
 | [],i,j,u,h=>by cases h
 | (k,w)::l,i,j,u,h=>by
  by_cases hx:x=k
  ·simp only[rD,if_pos hx,en,WS] at h;obtain⟨rfl,rfl⟩:=h;simp[gU,hx]
  ·simp only[rD,if_neg hx] at h;obtain⟨h1,h2,h3,h4⟩:=xi (v:=v) h;have e:j-i=(j-(i+1))+1:=aa;refine⟨aa,eR,?_,?_⟩
   ·rw[e];simp[gU,if_neg hx,h3]
   ·rw[e];simpa using h4
theorem Ip{x:ah}:∀{l:List (ah×Value)} {i j:Nat} {u:Value},rD l x i=some (j,u)->lI l x=l.eraseIdx (j-i)
 | [],i,j,u,h=>by cases h
 | (k,w)::l,i,j,u,h=>by
  by_cases hx:x=k
  ·simp only[rD,if_pos hx,en,WS] at h;obtain⟨rfl,rfl⟩:=h;simp[lI,hx]
  ·simp only[rD,if_neg hx] at h;have h1:=(xi (v:=u) h).1;have e:j-i=(j-(i+1))+1:=aa;rw[e];simp only[lI,if_neg hx,List.eraseIdx_cons_succ];rw[Ip h]
theorem yt{x:ah}{v:Value}:∀{l:List (ah×Value)} {i:Nat},rD l x i=none->gU l x v=l++[(x,v)]/\lI l x=l
 | [],i,h=>by simp[gU,lI]
 | (k,w)::l,i,h=>by
  by_cases hx:x=k
  ·simp[rD,if_pos hx] at h
  ·simp only[rD,if_neg hx] at h;obtain⟨h1,h2⟩:=yt (v:=v) h;simp[gU,lI,if_neg hx,h1,h2]
section
variable {P:Program} {w:ae} {r:Nat} {l:List (ah×Value)} {x:ah} {mt kt et:TypeId}
theorem zh(hm:P.underlying mt=some (.map kt et))(hk:P.underlying kt=some .string)(h:mj w r l){z:Value}(hz:(zeroValue et).run P w=.ok z w):(Instr.lookup mt (.map (some r)) (.string x) false).run P w=.ok ((eO l x).getD z) w:=by
 obtain⟨es,c,h1,h2⟩:=h;have hf:=pV x es.toList l 0 h2;have hc:∀e,(Instr.checkKey e 10000 kt (.string x)).run P w=.ok () w:=fun e=>MapKept.run_checkKey (k:=.string x) hk (by simp[MapKept.IsKey]) e 9999;rw[<- Io x l 0];cases hi:rD l x 0 with
 |none =>
  rw[hi] at hf;simp[Instr.lookup,run_underlying hm,MapKept.run_getObj_map h1,hc,MapKept.run_findKey hk hf,Result.andThen,hz]
 |some q =>
  rw[hi] at hf;simp[Instr.lookup,run_underlying hm,MapKept.run_getObj_map h1,hc,MapKept.run_findKey hk hf,Result.andThen]
def pB(w:ae)(r:Nat)(x:Obj):ae:={w with heap:=w.heap.setIfInBounds r x}
theorem nI(hm:P.underlying mt=some (.map kt et))(hk:P.underlying kt=some .string)(h:mj w r l)(v:Value):∃X,(Instr.mapUpdate mt (.map (some r)) (.string x) v).run P w=.ok () (pB w r X)/\mj (pB w r X) r (gU l x v):=by
 obtain⟨es,c,h1,h2⟩:=h;have hf:=pV x es.toList l 0 h2;have hc:∀e,(Instr.checkKey e 10000 kt (.string x)).run P w=.ok () w:=fun e=>MapKept.run_checkKey (k:=.string x) hk (by simp[MapKept.IsKey]) e 9999;have bZ:r<w.heap.size:=(Array.getElem?_eq_some_iff.1 h1).1;have nT:∀X,(pB w r X).heap[r]?=some X:=fun X=>by simp[pB,bZ]
 cases hi:rD l x 0 with
 |none =>
  rw[hi] at hf;refine⟨_,by simp[Instr.mapUpdate,run_underlying hm,MapKept.run_getObj_map h1,hc,MapKept.run_findKey hk hf,MapKept.run_setObj_map _ h1,Result.andThen];rfl,_,_,nT _,?_⟩;rw[(yt (v:=v) hi).1];simp[h2]
 |some q =>
  obtain⟨j,u⟩:=q;rw[hi] at hf;obtain⟨-,hj,hp,PK⟩:=xi (v:=v) hi;rw[Nat.sub_zero] at hp PK;have hlen:es.size=l.length:=by simpa using congrArg List.length h2
  have rY:j<es.size:=aa;have afZ:es[j].key=.string x:=by
   have:=congrArg (fun q=>q[j]?) h2;simp only[List.getElem?_map,Array.getElem?_toList,Array.getElem?_eq_getElem rY,cR] at this;cases hl:l[j]? with
   |none=>rw[hl] at this;cases this
   |some q =>
    rw[hl] at this;rw[fB,hl] at PK;simp at this PK;rw[this.1,PK]
  have VC:Instr.sameBits 10000 (.string x) (.string x)=true:=by
   unfold Instr.sameBits;rw[Me];simp
  refine⟨_,by simp[Instr.mapUpdate,run_underlying hm,MapKept.run_getObj_map h1,hc,MapKept.run_findKey hk hf,MapKept.run_setObj_map _ h1,Result.andThen,Instr.keyThatStays,rY,afZ,VC];rfl,_,_,nT _,?_⟩;rw[hp];apply List.ext_getElem?;intro k;have PD:=congrArg (fun q=>q[k]?) h2;simp only[List.getElem?_map,Array.getElem?_toList] at PD |-;rw[er];by_cases e:j=k
  ·subst e;simp[Array.getElem?_eq_getElem rY,show j<l.length by omega]
  ·rw[if_neg e,List.getElem?_set_ne e];exact PD
theorem Iq(hm:P.underlying mt=some (.map kt et))(hk:P.underlying kt=some .string)(h:mj w r l)(ty:TypeId):∃X,(Builtin.delete_ #[mt,kt] ty #[.map (some r),.string x]).run P w=.ok (.tuple #[]) (pB w r X)/\mj (pB w r X) r (lI l x):=by
 obtain⟨es,c,h1,h2⟩:=h;have hf:=pV x es.toList l 0 h2;have hc:∀e,(Instr.checkKey e 10000 kt (.string x)).run P w=.ok () w:=fun e=>MapKept.run_checkKey (k:=.string x) hk (by simp[MapKept.IsKey]) e 9999;have bZ:r<w.heap.size:=(Array.getElem?_eq_some_iff.1 h1).1;have nT:∀X,(pB w r X).heap[r]?=some X:=fun X=>by simp[pB,bZ]
 cases hi:rD l x 0 with
 |none =>
  rw[hi] at hf;refine⟨_,by simp[Builtin.delete_,run_underlying hm,MapKept.run_getObj_map h1,hc,MapKept.run_findKey hk hf,MapKept.run_setObj_map _ h1,Result.andThen];rfl,_,_,nT _,?_⟩;rw[(yt (v:=.bool true) hi).2];exact h2
 |some q =>
  obtain⟨j,u⟩:=q;rw[hi] at hf;refine⟨_,by simp[Builtin.delete_,run_underlying hm,MapKept.run_getObj_map h1,hc,MapKept.run_findKey hk hf,MapKept.run_setObj_map _ h1,Result.andThen];rfl,_,_,nT _,?_⟩;have hd:=Ip hi;rw[Nat.sub_zero] at hd;rw[hd];have hlen:es.size=l.length:=by simpa using congrArg List.length h2
  have rY:j<es.size:=by have:=(xi (v:=u) hi).2.1;omega
  simp only[Array.eraseIdxIfInBounds,rY,dif_pos];rw[Array.toList_eraseIdx];have em:∀{α β:Type} (f:α->β) (l:List α) (j:Nat),(l.eraseIdx j).map f=(l.map f).eraseIdx j:=fun f l j=>by
   induction l generalizing j with
   |nil=>rfl
   |cons a l ih=>cases j with
    |zero=>rfl
    |succ j=>simp[ih]
  rw[em,em,h2]
theorem UF(h:mj w r l):∃es c,w.heap[r]?=some (.map es c)/\es.size=l.length:=by
 obtain⟨es,c,h1,h2⟩:=h;exact⟨es,c,h1,by simpa using congrArg List.length h2⟩
end
def qF{α:Type}(f:α->Value)(l:List (ah×α)):List (ah×Value):=l.map fun p=>(p.1,f p.2)
theorem Ft{α:Type}(f:α->Value)(x:ah):∀l:List (ah×α),eO (qF f l) x=(eO l x).map f
 | []=>rfl
 | (k,v)::l=>by
  have:=Ft f x l;simp only[qF,bU,eO] at this |-;split
  ·rfl
  ·exact this
theorem tT{α:Type}(f:α->Value)(x:ah)(v:α):∀l:List (ah×α),gU (qF f l) x (f v)=qF f (gU l x v)
 | []=>rfl
 | (k,u)::l=>by
  have:=tT f x v l;simp only[qF,bU,gU] at this |-;split
  ·rfl
  ·rw[this];rfl
theorem Mf{α:Type}(f:α->Value)(x:ah):∀l:List (ah×α),lI (qF f l) x=qF f (lI l x)
 | []=>rfl
 | (k,u)::l=>by
  have:=Mf f x l;simp only[qF,bU,lI] at this |-;split
  ·rfl
  ·rw[this];rfl
theorem UG{α:Type}(f:α->Value)(l:List (ah×α)):(qF f l).length=l.length:=by simp[qF]
theorem xj{P:Program}(W:ae)(base:Nat)(t ty e:TypeId)(i:TypeInfo)(z:Value)(size bytes:Nat)(ht:P.underlying t=some (.slice e))(hi:P.info? e=some i)(hz:i.zero=some z)(pP:i.size=size)(hby:i.bytes=bytes)(v:Value)(n:Nat)(xs:List Value)(eH:W.ownsRow base e size v n xs)(a:Addr)(c:Nat)(news:List Value)(hl:news.length=1*size)(HX:∀j u,news[j]?=some u->W.cell? (a.add j)=some u)(h1:∀u∈news,u.oneCell'=true)(h63:n<=100000)(Yl:(n+1)*bytes<=140737488355328){v':Value}{W':ae}(hr:(Builtin.append_ #[t,t] ty #[v,.slice (some a) 1 c]).run P W=.ok v' W'):v'.ownBlock=v.ownBlock\/v'.ownBlock=some W.heap.size:=by
 subst pP hby;rcases eH.2 with⟨rfl,rfl⟩|⟨g,cap,cur,rfl,hbg,hg,hnc,hcm,Ps,aiE⟩
 ·have h:=run_append_nil (P:=P) W t ty e i z ht hi hz a 1 c news hl HX aa aa aa;rw[hr] at h;injection h with h _;rw[h];exact .inr rfl
 ·by_cases V9:n+1<=cap
  ·have af0:n*i.size+news.length<=cur.size:=by rw[hl,Ps,<- Nat.add_mul];exact iu _ V9
   have h:=run_append_room (P:=P) W t ty e i ht hi g n cap cur hg a 1 c news hl HX h1 V9 af0;rw[hr] at h;injection h with h _;rw[h];exact .inl rfl
  ·have h:=run_append_grow (P:=P) W t ty e i z ht hi hz ⟨g,0,none⟩ n cap xs eH.1 (eH.cells (g:=g) rfl) a 1 c news hl HX aa aa (growslice_fits aa Yl);rw[hr] at h;injection h with h _;rw[h];exact .inr rfl
theorem Ir{P:Program}{L:Nat->Bool}{o:aM}{w:ae}(hF:bE P L o w){g:Nat}(hg:¬o g):∃f:Rn,(lR P L o).has f/\f.b g≠g:=by
 obtain⟨g',Cw,cV,hG'⟩:∃g',¬o g'/\g'≠g/\P.globals.size<=g':=⟨g+w.heap.size+P.globals.size+1,fun h=>by have:=hF.lt h;omega,aa,aa⟩;have hG:P.globals.size<=g:=cL fun h=>hg (hF.jF g h);refine⟨⟨fun x=>if x=g then g' else if x=g' then g else x,id,id,id⟩,⟨fun x y h=>?_,fun r hr=>?_,fun _ _=>rfl,fun r=>?_⟩,by simp;exact cV⟩
 ·simp only at h;by_cases h1:x=g<;>by_cases h2:y=g<;>by_cases h3:x=g'<;>by_cases h4:y=g'<;>simp_all
 ·have h1:r≠g:=fun e=>hg (e▸hr);have h2:r≠g':=fun e=>Cw (e▸hr);simp[h1,h2,lR]
 ·simp only[lR];by_cases h1:r=g
  ·simp[h1];omega
  ·by_cases h2:r=g'
   ·simp[h1,h2,cV];omega
   ·simp[h1,h2]
theorem Fu{P:Program}{L:Nat->Bool}{o:aM}{w:ae}(hF:bE P L o w){g off l c:Nat}(h:Cl P L o (.slice (some ⟨g,off,none⟩) l c)):o g:=aO fun hg=>by
 obtain⟨f,hf,cV⟩:=Ir hF hg;have:=h f hf;simp only[val,cR,addr,Value.slice.injEq,en,Addr.mk.injEq] at this;exact cV this.1.1
section
variable {Fin:bH} {o:aM} {w:ae}
theorem UH(hF:bE ar L0 o w)(K off n c:Nat)(p:Option Addr)(lost:Bool)(hK:o K)(h0:w.cell? ⟨K,off,none⟩=some (.slice p n c))(h1:w.cell? ⟨K,off+1,none⟩=some (.bool lost)):
  bp ar (XB ar Fin 0) 103 #[.pointer (some ⟨K,off,none⟩)] o w fun v o' w'=>v=.bool (decide (0<n)||lost)/\o'=o/\w'=w:=by
 have W:=bJ (P:=ar) (Fin:=Fin) (d:=0);refine bA W func103 ai ?_;walk_nrmf Tryz.f103;refine aA ?_;refine rdC hF hK h0 fun _=>?_;walk_nrm;rcases aZ n with hn|hn
 ·subst hn;refine aA ?_;refine rdC hF hK h1 fun _=>?_;refine aA ?_;exact⟨.inr trivial,trivial,_,resultsC_tmp (t:=2) ai _,aC⟩
 ·have hnI:(0:Int)<(n:Int):=aa;refine aA ?_;exact⟨.inr trivial,trivial,_,resultsC_tmp (t:=2) ai _,by simp[Act.eval,hn]⟩
theorem Ym(hF:bE ar L0 o w)(K off:Nat)(lost:Bool)(hK:o K)(h1:w.cell? ⟨K,off+1,none⟩=some (.bool lost)):
  bp ar (XB ar Fin 0) 53 #[.pointer (some ⟨K,off,none⟩)] o w fun v o' w'=>v=.bool lost/\o'=o/\w'=w:=by
 have W:=bJ (P:=ar) (Fin:=Fin) (d:=0);refine bA W func53 ai ?_;walk_nrmf Tryz.f53;refine aA ?_;refine rdC hF hK h1 fun _=>?_;refine aA ?_;exact⟨.inr trivial,trivial,_,resultsC_tmp (t:=2) ai _,aC⟩
theorem Rm(hF:bE ar L0 o w)(K off b c:Nat)(p:Option Addr)(ts:List ah)(hK:o K)(h0:w.cell? ⟨K,off,none⟩=some (.slice p ts.length c))(hn:ts.length<=100000)(hp:p=none->ts=[])(hq:ts≠[]->p=some ⟨b,0,none⟩/\o b)(ht:dP w b 0 ts)(hc:Cl ar L0 o (.slice p ts.length c)):
  bp ar (XB ar Fin 0) 52 #[.pointer (some ⟨K,off,none⟩)] o w fun v o' w'=>fw o w v o' w'/\ga w.heap.size ts v w':=by
 have W:=bJ (P:=ar) (Fin:=Fin) (d:=0);refine bA W func52 ai ?_;walk_nrmf Tryz.f52;refine aA ?_;refine rdC hF hK h0 fun _=>?_;refine aA ?_;refine aF W rfl ai rfl func51 af rfl aC rfl ((xe hF _ b c p ts rfl hn hp hq ht hc).mono ?_);rintro v2 o2 w2 ⟨N2,t2⟩;refine aA ?_;exact⟨.inr trivial,trivial,_,resultsC_tmp (t:=2) ai _,by simpa[Act.eval] using⟨N2,t2⟩⟩
theorem UI(hF:bE ar L0 o w)(K off t n:Nat)(g:Nat->Value)(hK:o K)(hr:w.rowIs K t n g)(hn:off+1<n):
  bp ar (XB ar Fin 0) 104 #[.pointer (some ⟨K,off,none⟩)] o w fun v o' w'=>v=.tuple #[]/\o'=o/\bE ar L0 o w'/\cN K w w'/\w'.rowIs K t n (fun j=>if j=off+1 then .bool false else if j=off then .slice none 0 0 else g j):=by
 have W:=bJ (P:=ar) (Fin:=Fin) (d:=0);refine bA W func104 ai ?_;walk_nrmf Tryz.f104;refine aA ?_;refine bD aX hF rfl ai ai ?_ rfl (R:=fun wl aI=>aI=(wl.setCell ⟨K,off,none⟩ (.slice none 0 0)).setCell ⟨K,off+1,none⟩ (.bool false)) (fun wl aE=>⟨_,?_,rfl⟩) fun wl aI w9 aE hR ba=>?_
 ·refine dU ?_ ?_
  ·exact aH hK
  ·exact cJ (vs:=[_,_]) (fun x hx=>by
    simp at hx;rcases hx with rfl|rfl
    ·exact gS
    ·exact kn)
 ·have rl:=World.rowIs.of_block hr (aE.heap K hK);have e0:=rl.cell (i:=off) aa;have e1:=rl.cell (i:=off+1) hn;have f:=rl.frozen;simp[go_sem,e0,e1,f]
 have hO:cN K wl aI:=by rw[hR];exact iB _ _ _ _ _ _
 obtain⟨kK,kr,e9⟩:=ba.only aE hK hO;have gw:=ba.ay;rw[e9] at gw |-;refine aA ?_;refine⟨.inl trivial,trivial,.tuple #[],fun w1=>results_none af _ _,an,an,gw,kK,?_⟩;rw[hR] at kr;exact World.rowIs.of_block (((World.rowIs.of_block hr (aE.heap K hK)).set off _).set (off+1) _) kr
theorem KX(hF:bE ar L0 o w)(b c:Nat)(p:Option Addr)(ts:List ah)(x:ah)(hn:ts.length<=100000)(hq:ts≠[]->p=some ⟨b,0,none⟩/\o b)(ht:dP w b 0 ts)(hc:Cl ar L0 o (.slice p ts.length c)):
  bp ar (XB ar Fin 0) 80 #[.slice p ts.length c,.string x] o w fun v o' w'=>v=.bool (Lib.containsS ts x)/\fw o w v o' w':=by
 refine bp.mono (dS af hF (fun y hy=>by simp at hy;rcases hy with rfl|rfl;exact hc;exact bf) (Q:=fun wl v w'=>v=.bool (Lib.containsS ts x)) (fun wl Ai v w1 w2 e1 e2 h=>h) (fun wl hz aE=>?_)) (fun v o' w' hq=>⟨hq.2.choose_spec.choose_spec.2.2.2,hq.1⟩);by_cases cV:ts=[]
 ·subst cV;refine(Tryz.slices_Contains_string_empty p c x wl).mono fun e w' hq=>?_;obtain⟨rfl,rfl⟩:=hq;refine⟨_,rfl,ag _,fun _ _=>rfl,?_⟩;cases hx:Lib.containsS [] x with
  |false=>rfl
  |true=>have:=(Lib.containsS_iff [] x).1 hx;cases this
 ·obtain⟨rfl,hb⟩:=hq cV;refine(wZ b c ts x wl hn (cI ht (aE b hb))).mono fun e w' hq=>?_;obtain⟨rfl,rfl⟩:=hq;exact⟨_,rfl,ag _,fun _ _=>rfl,rfl⟩
structure Ot(o:aM)(w:ae)(v:Value)(ts:List ah):Prop where
 row:∃lo,lo<=w.heap.size/\w.ownsRow lo 9 1 v ts.length (ts.map .string)
 cl:Cl ar L0 o v
theorem Ot.view{v:Value}{ts:List ah}(h:Ot o w v ts)(hF:bE ar L0 o w):∃p b c,v=.slice p ts.length c/\(p=none->ts=[])/\(ts≠[]->p=some ⟨b,0,none⟩/\o b)/\dP w b 0 ts/\(∀g,v.ownBlock=some g->o g):=by
 obtain⟨lo,uL,b6⟩:=h.row;have ht:=tu b6 (fun _ _ _=>rfl) rfl;rcases ht with⟨q1,q2⟩|⟨g,cap,q1,q2,q3,q4,q5⟩
 ·exact⟨none,0,0,by rw[q1,q2];rfl,fun _=>q2,fun cV=>absurd q2 cV,fun k hk=>by rw[q2] at hk;simp at hk,fun g hg=>by rw[q1] at hg;cases hg⟩
 ·have hc:=h.cl;rw[q1] at hc;have hg:=Fu hF hc;exact⟨_,g,cap,q1,(fun e=>by cases e),fun _=>⟨rfl,hg⟩,q5,fun g' Cw=>by rw[q1] at Cw;cases Cw;exact hg⟩
theorem Ot.keep{v:Value}{ts:List ah}{o':aM}{w':ae}(h:Ot o w v ts)(mW:∀b,o b->o' b)(hz:w.heap.size<=w'.heap.size)(e:∀g,v.ownBlock=some g->w'.heap[g]?=w.heap[g]?):Ot o' w' v ts:=by
 obtain⟨lo,uL,b6⟩:=h.row;exact⟨⟨lo,aa,cQ b6 fun g hg _=>e g hg.symm⟩,h.cl.up mW⟩
def iX(ts:List ah)(lost:Bool)(x:ah):List ah×Bool:=if Lib.containsS ts x then(ts,lost) else if 4<=ts.length then(ts,true) else(ts++[x],lost)
theorem Wa(hF:bE ar L0 o w)(K off t n:Nat)(g:Nat->Value)(qv:Value)(ts:List ah)(lost:Bool)(x:ah)(hK:o K)(hQ:Ot o w qv ts)(cV:qv.ownBlock≠some K)(hr:w.rowIs K t n g)(hn:off+1<n)(h0:g off=qv)(h1:g (off+1)=.bool lost)(hl:ts.length<=1000):
  bp ar (XB ar Fin 0) 48 #[.pointer (some ⟨K,off,none⟩),.string x] o w fun v o' w'=>v=.tuple #[]/\bu (fun b=>b=K\/qv.ownBlock=some b) o w o' w'/\∃rE,Ot o' w' rE (iX ts lost x).1/\(∀b,rE.ownBlock=some b->b≠K/\(qv.ownBlock=some b\/w.heap.size<=b))/\w'.rowIs K t n (fun j=>if j=off+1 then .bool (iX ts lost x).2 else if j=off then rE else g j):=by
 have W:=bJ (P:=ar) (Fin:=Fin) (d:=0);refine bA W func48 ai ?_;walk_nrmf Tryz.f48;obtain⟨p,b,c,rfl,v1,v2,v3,v4⟩:=hQ.view hF;have hKw:=hF.lt hK;have cell0:∀{w':ae},w'.rowIs K t n g->w'.cell? ⟨K,off,none⟩=some (.slice p ts.length c):=fun h=>by rw[h.cell aa,h0]
 refine aA ?_;refine rdC (v:=.slice p ts.length c) hF hK (cell0 hr) fun _=>?_;refine aA ?_;refine aF W rfl ai rfl func80 af rfl aC rfl ((KX hF b c p ts x aa v2 v3 hQ.cl).mono ?_);rintro v3' o3 w3 ⟨rfl,N3⟩;have W3:bu (fun b=>b=K\/(Value.slice p ts.length c).ownBlock=some b) o w o3 w3:=bu.dL N3;have Ro:=W3.more _ hK;have C2:=World.rowIs.of_block hr (N3.old K hKw);have hQ3:Ot o3 w3 (.slice p ts.length c) ts:=hQ.keep W3.more W3.size fun g hg=>N3.old g (hF.lt (v4 g hg));cases hcx:Lib.containsS ts x with
 |true =>
  refine aA ?_;have Wb:iX ts lost x=(ts,lost):=by simp[iX,hcx]
  refine⟨.inr trivial,trivial,.tuple #[],fun w1=>results_none af _ _,an,W3,_,by rw[Wb];exact hQ3,fun g hg=>⟨fun e=>cV (by rw[hg,e]),.inl hg⟩,?_⟩;rw[Wb];refine C2.congr fun j _=>?_;by_cases e1:j=off+1
  ·rw[if_pos e1,e1,h1]
  ·by_cases e0:j=off
   ·rw[if_neg e1,if_pos e0,e0,h0]
   ·rw[if_neg e1,if_neg e0]
 |false =>
  refine aA ?_;refine rdC (v:=.slice p ts.length c) W3.ay Ro (cell0 C2) fun _=>?_;walk_nrm;by_cases h4:4<=ts.length
  ·have hlI:(4:Int)<=(ts.length:Int):=aa;refine aA ?_;have Wb:iX ts lost x=(ts,true):=by simp[iX,hcx,h4]
   refine bD aX W3.ay rfl ai ai ?_ rfl (R:=fun wl aI=>aI=wl.setCell ⟨K,off+1,none⟩ (.bool true)) (fun wl aE=>⟨_,?_,rfl⟩) fun wl aI w9 aE hR ba=>?_
   ·exact dU (aH Ro) kn
   ·have rl:=World.rowIs.of_block C2 (aE.heap K Ro);have e1:=rl.cell (i:=off+1) hn;rw[h1] at e1;have f:=rl.frozen;simp[go_sem,e1,f]
   have hO:cN K wl aI:=by rw[hR];exact fW _ _ _ _
   obtain⟨kK,kr,e9⟩:=ba.only aE Ro hO;have gw:=ba.ay;rw[e9] at gw |-;refine aA ?_;have W9:bu (fun b=>b=K\/(Value.slice p ts.length c).ownBlock=some b) o3 w3 o3 w9:=⟨gw,fun _ h=>h,fun _ h=>.inl h,bq kK.1.symm,fun b _ hb=>kK.2 b fun e=>hb (.inl e)⟩;refine⟨.inr trivial,trivial,.tuple #[],fun w1=>results_none af _ _,an,W3.trans W9,_,by rw[Wb];exact hQ3.keep (fun _ h=>h) (bq kK.1.symm) (fun g hg=>kK.2 g fun e=>cV (by rw[hg,e])),fun g hg=>⟨fun e=>cV (by rw[hg,e]),.inl hg⟩,?_⟩;rw[hR] at kr;rw[Wb];refine World.rowIs.of_block (((World.rowIs.of_block C2 (aE.heap K Ro)).set (off+1) _).congr fun j _=>?_) kr;by_cases e1:j=off+1
   ·rw[if_pos e1,if_pos e1]
   ·by_cases e0:j=off
    ·rw[if_neg e1,if_neg e1,if_pos e0,e0,h0]
    ·rw[if_neg e1,if_neg e1,if_neg e0]
  ·have hlI:¬(4:Int)<=(ts.length:Int):=aa;refine aA ?_;have Wb:iX ts lost x=(ts++[x],lost):=by simp[iX,hcx,h4]
   refine rdC (v:=.slice p ts.length c) W3.ay Ro (cell0 C2) fun _=>?_;refine aA ?_;refine cq aX W3.ay rfl ai ai ?_ rfl (R:=fun wl v aI=>v=.slice (some ⟨wl.heap.size,0,none⟩) 1 1/\aI=wl.alloc (.cells #[.string x] 9)) (fun wl aE=>⟨_,_,fa,rfl,rfl⟩) fun wl v5 aI w5 aE X0 ba=>?_
   ·exact cj bf
   obtain⟨rfl,X0⟩:=X0;obtain⟨z5,k5,Jj⟩:=ba.alloc W3.ay aE X0;have SQ:=ba.ay;rw[aE.size];clear X0 ba aE wl aI;walk_nrm;have u5:∀b,o3 b->grow o3 w3 w5 b:=fun b hb=>.inl hb;have qi:grow o3 w3 w5 w3.heap.size:=.inr ⟨ag _,aa⟩;have hQ5:Ot (grow o3 w3 w5) w5 (.slice p ts.length c) ts:=hQ3.keep u5 aa fun g hg=>k5 g (W3.ay.lt (W3.more _ (v4 g hg)));obtain⟨lo,uL,b6⟩:=hQ5.row;refine cq aX SQ rfl ai ai ?_ rfl (R:=fun wl v aI=>aI.ownsRow lo 9 1 v (ts++[x]).length ((ts++[x]).map .string)/\wl.grownBy aI (Value.slice p ts.length c).ownBlock/\(v.ownBlock=(Value.slice p ts.length c).ownBlock\/v.ownBlock=some wl.heap.size)) (fun wl aE=>?_) fun wl v6 aI w6 aE Zy ba=>?_
   ·intro y hy;simp[Op.operands,Call.operands] at hy;rcases hy with rfl|rfl
    ·simp[Act.eval];exact hQ5.cl
    ·simp[Act.eval];exact di qi
   ·obtain⟨v',W',e1,e2,e3⟩:=pz wl lo (.slice p ts.length c) ts x w3.heap.size (cQ b6 fun g hg _=>aE.heap g (u5 _ (W3.more _ (v4 g hg.symm)))) aa (by rw[aE.size];exact uL) ((BP ((aE.heap _ qi).trans Jj)).1);refine⟨v',W',gm (.tmp 23) (.tmp 25) 40 rfl aC aC e1,e2,e3,?_⟩;obtain⟨i,hi,oF⟩:=Option.map_eq_some_iff.1 pq;simp only[WS] at oF;refine xj wl lo 40 40 9 i _ 1 16 underlying40 hi oF.1 oF.2.1 oF.2.2 _ ts.length (ts.map .string) (cQ b6 fun g hg _=>aE.heap g (u5 _ (W3.more _ (v4 g hg.symm)))) ⟨w3.heap.size,0,none⟩ 1 [.string x] rfl (fun j u hj=>?_) (by simp;rfl) aa aa e1;cases j with
    |zero=>simp at hj;subst hj;simpa[Addr.add] using(BP ((aE.heap _ qi).trans Jj)).1
    |succ j=>simp at hj
   obtain⟨Mg,CS,Wc⟩:=Zy;rw[aE.size] at Wc;have C3:=ba.ay;have Yn:Cl ar L0 (grow (grow o3 w3 w5) w5 w6) v6:=ba.val;have z6:=ba.gO;have abS:∀b,b<w5.heap.size->(Value.slice p ts.length c).ownBlock≠some b->w6.heap[b]?=w5.heap[b]?:=fun b hb X3=>by
    by_cases ho:grow o3 w3 w5 b
    ·rw[ba.same b (.inl ho),CS.block b (by rw[aE.size];exact hb) (fun e=>X3 e.symm),aE.heap b ho]
    ·exact ba.rest b hb ho
   have Is:∀b,v6.ownBlock=some b->grow (grow o3 w3 w5) w5 w6 b:=fun b hb=>by
    obtain⟨-,fy⟩:=Mg;rcases fy with⟨rfl,-⟩|⟨g',cap,cur,rfl,-⟩
    ·cases hb
    ·cases hb;exact Fu C3 Yn
   have HM:w6.ownsRow lo 9 1 v6 (ts++[x]).length ((ts++[x]).map .string):=cQ Mg fun b hb _=>ba.same b (Is b hb.symm);have hv6:∃q l cc,v6=.slice q l cc:=by
    obtain⟨-,fy⟩:=Mg;rcases fy with⟨rfl,-⟩|⟨g',cap,cur,rfl,-⟩
    ·exact⟨_,_,_,rfl⟩
    ·exact⟨_,_,_,rfl⟩
   have Wd:∀b,v6.ownBlock=some b->b≠K/\((Value.slice p ts.length c).ownBlock=some b\/w.heap.size<=b):=fun b hb=>by
    have zz:=W3.size;have hKl:=W3.ay.lt Ro;rcases Wc with e|e
    ·rw[hb] at e;exact⟨fun q=>cV (by rw[<- e,q]),.inl e.symm⟩
    ·rw[hb] at e;have e:=aK e;exact⟨aa,.inr aa⟩
   clear CS Mg ba aE wl aI;refine aA ?_;have hK6:grow (grow o3 w3 w5) w5 w6 K:=.inl (.inl Ro);have af3:=W3.ay.lt Ro;have NJ:w6.rowIs K t n g:=World.rowIs.of_block C2 ((abS K aa cV).trans (k5 K af3));obtain⟨q6,l6,c6,rfl⟩:=hv6;refine bD aX C3 rfl ai ai ?_ rfl (R:=fun wl aI=>aI=wl.setCell ⟨K,off,none⟩ (.slice q6 l6 c6)) (fun wl aE=>⟨_,?_,rfl⟩) fun wl aI w9 aE hR ba=>?_
   ·refine dU ?_ ?_
    ·exact aH hK6
    ·exact Yn
   ·have rl:=World.rowIs.of_block NJ (aE.heap K hK6);have e1:=cell0 rl;have f:=rl.frozen;simp[go_sem,e1,f]
   have hO:cN K wl aI:=by rw[hR];exact fW _ _ _ _
   obtain⟨kK,kr,e9⟩:=ba.only aE hK6 hO;have gw:=ba.ay;rw[e9] at gw |-;refine aA ?_;have W9:bu (fun b=>b=K\/(Value.slice p ts.length c).ownBlock=some b) o3 w3 (grow (grow o3 w3 w5) w5 w6) w9:=by
    refine⟨gw,fun b hb=>.inl (.inl hb),fun b hb=>?_,by rw[kK.1];omega,fun b hb hx=>?_⟩
    ·rcases hb with(hb|hb)|hb
     ·exact .inl hb
     ·exact .inr hb.1
     ·exact .inr aa
    ·rw[kK.2 b fun e=>hx (.inl e),abS b aa fun e=>hx (.inr e),k5 b hb]
   refine⟨.inl trivial,trivial,.tuple #[],fun w1=>results_none af _ _,an,W3.trans W9,_,by rw[Wb];exact⟨⟨lo,by rw[kK.1];omega,cQ HM fun b hb _=>kK.2 b (Wd b hb.symm).1⟩,Yn⟩,Wd,?_⟩;rw[hR] at kr;rw[Wb];refine World.rowIs.of_block (((World.rowIs.of_block NJ (aE.heap K hK6)).set off _).congr fun j _=>?_) kr;by_cases e1:j=off+1
   ·rw[if_neg aa,if_pos e1,e1,h1]
   ·by_cases e0:j=off
    ·simp[e0]
    ·simp[e0,e1]
end
section
open Go.RowKit
def small(x:ah)(k:Nat):Prop:=∀j (h:j<x.size),j<k->97<=x[j].toNat/\x[j].toNat<=122
def isName(x:ah):Prop:=1<=x.size/\x.size<=4/\small x x.size
structure abT(x:ah)(e:Ending):Prop where
 ex:∃b,e=.returned (.bool b)/\(b=true↔isName x)
theorem It(x:ah)(w:ae)(hx:x.size<=1000000):Calls ar 68 #[.string x] w fun e w'=>abT x e/\w'=w:=by
 go_enter func68,ntmps68;by_cases h1:x.size<1
 ·have h1I:(x.size:Int)<1:=aa;go_wp2;go_ret;exact⟨⟨⟨false,rfl,by simp[isName];omega⟩⟩,rfl⟩
 ·have h1I:¬(x.size:Int)<1:=aa;by_cases h2:x.size>4
  ·have h2I:(4:Int)<(x.size:Int):=aa;go_wp2;go_ret;exact⟨⟨⟨false,rfl,by simp[isName];omega⟩⟩,rfl⟩
  ·have h2I:¬(4:Int)<(x.size:Int):=aa;go_wp2;go_loop [14] (fun i=>∃k:Nat,k<=x.size/\i=.int .i64 k/\small x k) (fun i=>x.size-(intOf i).toNat)
   case atStart=>exact⟨0,aQ _,rfl,fun j _ hj=>aa⟩
   case round =>
    obtain⟨k,hk,rfl,hs⟩:=hrel;by_cases bZ:k<x.size
    ·by_cases c1:x[k].toNat<97
     ·have c1I:(x[k].toNat:Int)<97:=aa;go_wp2;go_ret;exact⟨⟨⟨false,rfl,⟨(fun e=>by cases e),fun h=>by have:=h.2.2 k bZ bZ;omega⟩⟩⟩,rfl⟩
     ·have c1I:¬(x[k].toNat:Int)<97:=aa;by_cases c2:x[k].toNat>122
      ·have c2I:(122:Int)<(x[k].toNat:Int):=aa;go_wp2;go_ret;exact⟨⟨⟨false,rfl,⟨(fun e=>by cases e),fun h=>by have:=h.2.2 k bZ bZ;omega⟩⟩⟩,rfl⟩
      ·have c2I:¬(122:Int)<(x[k].toNat:Int):=aa;go_wp2
       go_round
       case rel=>exact⟨k+1,aa,by go_num,fun j h hj=>if e:j=k then by subst e;omega else hs j h aa⟩
       case measure=>simp[intOf];omega
    ·go_wp2;go_ret;have e:k=x.size:=aa;subst e;exact⟨⟨⟨true,rfl,by simp only[true_iff];exact⟨aa,aa,hs⟩⟩⟩,rfl⟩
theorem Rp(x:ah)(w:ae):Calls ar 70 #[.string x] w fun e w'=>e=.returned (.bool (decide ((x.size:Int)<=12)))/\w'=w:=by
 go_enter func70,ntmps70;go_wp2;go_ret;exact⟨rfl,rfl⟩
section
variable {Fin:bH} {o:aM} {w:ae}
theorem Rq(hF:bE ar L0 o w)(x:ah)(hx:x.size<=1000000):
  bp ar (XB ar Fin 0) 68 #[.string x] o w fun v o' w'=>∃b,v=.bool b/\(b=true↔isName x)/\fw o w v o' w':=by
 refine bp.mono (dS af hF (fun y hy=>by simp at hy;subst hy;exact bf) (Q:=fun wl v w'=>∃b,v=.bool b/\(b=true↔isName x)) (fun wl Ai v w1 w2 e1 e2 h=>h) (fun wl hz aE=>?_)) (fun v o' w' hq=>?_)
 ·refine(It x wl hx).mono fun e w' hq=>?_;obtain⟨⟨b,rfl,hb⟩,rfl⟩:=hq;exact⟨_,rfl,ag _,fun _ _=>rfl,b,rfl,hb⟩
 ·obtain⟨hN,wl,aI,-,-,-,b,h1,h2⟩:=hq;exact⟨b,h1,h2,hN⟩
theorem Yo(hF:bE ar L0 o w)(x:ah):
  bp ar (XB ar Fin 0) 70 #[.string x] o w fun v o' w'=>v=.bool (decide ((x.size:Int)<=12))/\fw o w v o' w':=by
 refine bp.mono (dS af hF (fun y hy=>by simp at hy;subst hy;exact bf) (Q:=fun wl v w'=>v=.bool (decide ((x.size:Int)<=12))) (fun wl Ai v w1 w2 e1 e2 h=>h) (fun wl hz aE=>?_)) (fun v o' w' hq=>?_)
 ·refine(Rp x wl).mono fun e w' hq=>?_;obtain⟨rfl,rfl⟩:=hq;exact⟨_,rfl,ag _,fun _ _=>rfl,rfl⟩
 ·obtain⟨hN,wl,aI,-,-,-,h1⟩:=hq;exact⟨h1,hN⟩
end
end
def Fv(t:ah):Value:=.agg #[.bool true,.string t]
def B1(n:Int):Value:=.int .i64 n
structure gI(o:aM)(w:ae)(fb mT mS:Nat)(th:List (ah×ah))(st:List (ah×Int)):Prop where
 blk:w.heap[fb]?=some (.cells #[.map (some mT),.map (some mS)] 164)
 tm:mj w mT (qF Fv th)
 sm:mj w mS (qF B1 st)
 own:o fb/\o mT/\o mS
 apart:fb≠mT/\fb≠mS/\mT≠mS
def jE(th:List (ah×ah))(x:ah):V:=match eO th x with
 |some t=>(true,t)
 |none=>V0
def dC(st:List (ah×Int))(x:ah):Int:=(eO st x).getD 0
section
variable {Fin:bH} {o:aM} {w:ae} {fb mT mS:Nat} {th:List (ah×ah)} {st:List (ah×Int)}
theorem gI.keep{o':aM}{w':ae}(h:gI o w fb mT mS th st)(mW:∀b,o b->o' b)(e:∀b,b=fb\/b=mT\/b=mS->w'.heap[b]?=w.heap[b]?):gI o' w' fb mT mS th st :=
 ⟨(e fb (.inl rfl)).trans h.blk,h.tm.of_block (e mT (.inr (.inl rfl))),h.sm.of_block (e mS (.inr (.inr rfl))),⟨mW _ h.own.1,mW _ h.own.2.1,mW _ h.own.2.2⟩,h.apart⟩
theorem Rr(w:ae):(zeroValue 159).run ar w=.ok (.agg #[.bool false,.string aN]) w:=af
theorem Rs(w:ae):(zeroValue 3).run ar w=.ok (.int .i64 0) w:=af
theorem yu(w:ae)(x:ah)(h:mj w mT (qF Fv th)):(Instr.lookup 161 (.map (some mT)) (.string x) false).run ar w=.ok (.agg #[.bool (jE th x).1,.string (jE th x).2]) w:=by
 rw[zh underlying161 underlying9 h (Rr w),Ft];unfold jE;cases eO th x<;>rfl
theorem tU(w:ae)(x:ah)(h:mj w mS (qF B1 st)):(Instr.lookup 162 (.map (some mS)) (.string x) false).run ar w=.ok (.int .i64 (dC st x)) w:=by
 rw[zh underlying162 underlying9 h (Rs w),Ft];unfold dC;cases eO st x<;>rfl
theorem ml{r:Nat}(h:o r):Cl ar L0 o (.map (some r)):=fun f hf=>by simp[val,hf.at_ r h,lR]
theorem We(hF:bE ar L0 o w)(h:gI o w fb mT mS th st)(x:ah):
  bp ar (XB ar Fin 0) 100 #[.pointer (some ⟨fb,0,none⟩),.string x] o w fun v o' w'=>v=.agg #[.bool (jE th x).1,.string (jE th x).2,.int .i64 (dC st x)]/\fw o w v o' w':=by
 have W:=bJ (P:=ar) (Fin:=Fin) (d:=0);refine dJ W func100 ai ?_;walk_nrmf Tryz.f100;refine aA ?_;refine cq aX hF rfl ai ai kp rfl (R:=fun wl v aI=>v=.pointer (some ⟨wl.heap.size,0,none⟩)/\aI=wl.alloc (Obj.cells #[.bool false,.string aN,.int .i64 0] 194)) (fun wl aE=>⟨_,_,by simp[go_sem];rfl,rfl,rfl⟩) fun wl v1 aI w1 aE hR ba=>?_;obtain⟨rfl,hR⟩:=hR;obtain⟨z1,k1,qK⟩:=ba.alloc hF aE hR;have mw:=ba.ay;rw[aE.size];clear hR ba aE wl aI;walk_nrm;have hfb:=hF.lt h.own.1;have h1:gI (grow o w w1) w1 fb mT mS th st:=h.keep iK fun b hb=>by
  rcases hb with rfl|rfl|rfl
  ·exact k1 _ hfb
  ·exact k1 _ (hF.lt h.own.2.1)
  ·exact k1 _ (hF.lt h.own.2.2)
 have hA:grow o w w1 w.heap.size:=.inr ⟨ag _,aa⟩;obtain⟨c0,c1,-⟩:=bT h1.blk;obtain⟨o1,EL⟩:∃x,x=grow o w w1:=⟨_,rfl⟩;rw[<- EL] at h1 hA mw |-;generalize Ou:jE th x=sv;obtain⟨sb,stx⟩:=sv;generalize hss:dC st x=ss;refine aA ?_;refine dq mixed af [some none,some none,some none,some (some (.map (some mT))),some none,some (some (.agg #[.bool sb,.string stx])),some none,some none,some none,some (some (.map (some mS))),some none,some (some (.int .i64 ss)),some none,none]
  (S:=fun σ o' w'=>o'=o1/\(σ 13=none->w'=w1)/\∀y,σ 13=some y->bE ar L0 o1 w'/\cN w.heap.size w1 w'/\w'.heap[w.heap.size]?=some (Obj.cells #[.bool sb,.string stx,.int .i64 ss] 194)) ?_ fun v=>?_
 ·exact⟨rfl,fun _=>rfl,fun y hy=>by cases hy⟩
 refine dp ?_;refine bO ?_;refine bK aX rfl rfl rfl ai ai (fun σ o' w' H hS=>?_) ?_
 ·obtain⟨rfl,e1,-⟩:=hS;obtain rfl:=e1 (H.kF [12,5] 13 af);exact rd3 mw h1.own.1 c0
 refine bO ?_;refine bK aX rfl rfl rfl ai ai (fun σ o' w' H hS=>?_) ?_
 ·obtain⟨rfl,e1,-⟩:=hS;obtain rfl:=e1 (H.kF [12] 13 af);refine⟨mw,fun y hy=>?_,fun wl aE=>?_⟩
  ·simp[Op.operands] at hy;rcases hy with rfl|rfl
   ·simp[Act.eval];exact ml h1.own.2.1
   ·simp[Act.eval];exact bf
  ·have:=yu wl x (h1.tm.of_block (aE.heap _ h1.own.2.1));rw[Ou] at this;simp[go_sem,this]
 refine bO ?_;refine bK aX rfl rfl rfl ai ai (fun σ o' w' H hS=>?_) ?_
 ·obtain⟨rfl,e1,-⟩:=hS;obtain rfl:=e1 (H.kF [12,11] 13 af);exact rd3 mw h1.own.1 c1
 refine bO ?_;refine bK aX rfl rfl rfl ai ai (fun σ o' w' H hS=>?_) ?_
 ·obtain⟨rfl,e1,-⟩:=hS;obtain rfl:=e1 (H.kF [12] 13 af);refine⟨mw,fun y hy=>?_,fun wl aE=>?_⟩
  ·simp[Op.operands] at hy;rcases hy with rfl|rfl
   ·simp[Act.eval];exact ml h1.own.2.2
   ·simp[Act.eval];exact bf
  ·have:=tU wl x (h1.sm.of_block (aE.heap _ h1.own.2.2));rw[hss] at this;simp[go_sem,this]
 refine bO ?_;refine jg aX rfl rfl rfl ai ai (fun σ o' w' H zK hS=>?_) ?_
 ·obtain⟨rfl,e1,-⟩:=hS;obtain rfl:=e1 zK;refine⟨mw,fun y hy=>?_,fun wl aI=>aI=((wl.setCell ⟨w.heap.size,0,none⟩ (.bool sb)).setCell ⟨w.heap.size,1,none⟩ (.string stx)).setCell ⟨w.heap.size,2,none⟩ (.int .i64 ss),fun wl aE=>⟨_,?_,rfl⟩,fun wl aI w2 aE hR ba=>?_⟩
  ·simp[Op.operands] at hy;rcases hy with rfl|rfl
   ·simp[Act.eval];exact aH hA
   ·simp[Act.eval];exact cJ (vs:=[_,_,_]) (fun x hx=>by
     simp at hx;rcases hx with rfl|rfl|rfl
     ·exact kn
     ·exact bf
     ·exact bN)
  ·obtain⟨e0,e1,e2,f0,f1,f2⟩:=eE ((aE.heap _ hA).trans qK);simp[go_sem,e0,e1,e2,f0,f1,f2]
  ·have hO:cN w.heap.size wl aI:=by rw[hR];exact uR _ _ _ _ _ _ _ _
   obtain⟨on,kb,eg⟩:=ba.only aE hA hO;have rh:=ba.ay;rw[eg] at rh |-;refine⟨rfl,fun h=>by simp[dB] at h,fun y _=>⟨rh,on,?_⟩⟩;rw[kb,hR,KL ((aE.heap _ hA).trans qK)]
 walk_nrm;refine cd fun σ o' w' kP hS=>?_;obtain⟨rfl,-,e2⟩:=hS;obtain⟨rh,on,kb⟩:=e2 _ (kP 13 dh rfl);simp only[gN,cZ,if_true,if_false,reduceIte,Nat.reduceEqDiff];refine aA ?_;have c9:∀n,(w'.at n).cell? ⟨w.heap.size,0,none⟩=some (.bool sb)/\(w'.at n).cell? ⟨w.heap.size,1,none⟩=some (.string stx)/\(w'.at n).cell? ⟨w.heap.size,2,none⟩=some (.int .i64 ss):=fun n=>⟨(eE kb).1,(eE kb).2.1,(eE kb).2.2.1⟩;refine⟨.inr trivial,trivial,.agg #[.bool sb,.string stx,.int .i64 ss],p7 (fun n=>?_) (fun n e he=>?_),rfl,?_,rh,by rw[on.1];omega,fun b hb=>?_,?_⟩
 ·obtain⟨c0,c1,c2⟩:=c9 n;simp[results,results100,go_sem,c0,c1,c2]
 ·obtain⟨c0,c1,c2⟩:=c9 n;simp[results,results100,go_sem,c0,c1,c2] at he;rcases he with rfl|rfl|rfl;all_goals exact⟨_,_,_,rfl,hA⟩
 ·rw[EL];exact Fi on.1.symm
 ·rw[on.2 b aa];exact k1 b hb
 ·exact cJ (vs:=[_,_,_]) (fun x hx=>by
   simp at hx;rcases hx with rfl|rfl|rfl
   ·exact kn
   ·exact bf
   ·exact bN)
theorem lP(w:ae)(r:Nat)(X:Obj):cN r w (pB w r X):=⟨by simp[pB],fun c hc=>by simp[pB,Ne.symm hc]⟩
theorem bu.db{r:Nat}{ex:Nat->Prop}{w':ae}(hF:bE ar L0 o w')(h:cN r w w')(hr:ex r):bu ex o w o w':=⟨hF,fun _ h=>h,fun _ h=>.inl h,bq h.1.symm,fun b _ hb=>h.2 b fun e=>hb (e▸hr)⟩
theorem yv(b:Bool)(t:ah)(w:ae):(Instr.field 159 (.agg #[.bool b,.string t]) 0).events ar w #[]=#[]:=af
theorem UJ(hF:bE ar L0 o w)(h:gI o w fb mT mS th st)(x t:ah)(hx:x.size<=1000000)(hth:th.length<=100000):
  bp ar (XB ar Fin 0) 47 #[.pointer (some ⟨fb,0,none⟩),.string x,.string t] o w fun v o' w'=>bu (fun b=>b=mT\/b=mS) o w o' w'/\((v=.int .i64 2/\¬isName x/\gI o' w' fb mT mS th st)\/(v=.int .i64 6/\isName x/\12<t.size/\gI o' w' fb mT mS th st)\/(v=.int .i64 1/\isName x/\t.size<=12/\eO th x=none/\12<=th.length/\gI o' w' fb mT mS th st) \/
   (v=.int .i64 0/\isName x/\t.size<=12/\¬(eO th x=none/\12<=th.length)/\gI o' w' fb mT mS (gU th x t) (gU st x (IntKind.i64.wrap (dC st x+1))))):=by
 have W:=bJ (P:=ar) (Fin:=Fin) (d:=0);refine bA W func47 ai ?_;walk_nrmf Tryz.f47;refine aA ?_;refine aF W rfl ai rfl func68 af rfl aC rfl ((Rq hF x hx).mono ?_);rintro v1 o1 w1 ⟨b1,rfl,Ag,N1⟩;have W1:bu (fun b=>b=mT\/b=mS) o w o1 w1:=bu.dL N1;have lt3:∀b,b=fb\/b=mT\/b=mS->b<w.heap.size:=fun b hb=>by
  rcases hb with rfl|rfl|rfl
  ·exact hF.lt h.own.1
  ·exact hF.lt h.own.2.1
  ·exact hF.lt h.own.2.2
 have h1:=h.keep W1.more fun b hb=>N1.old b (lt3 b hb);cases b1 with
 |false =>
  have hn:¬isName x:=fun q=>by have:=Ag.2 q;cases this
  refine aA ?_;exact⟨.inr trivial,trivial,_,resultsC_tmp (t:=6) ai _,W1,.inl ⟨aC,hn,h1⟩⟩
 |true =>
  have hn:isName x:=Ag.1 rfl;refine aA ?_;refine aF W rfl ai rfl func70 af rfl aC rfl ((Yo N1.ay t).mono ?_);rintro v2 o2 w2 ⟨rfl,N2⟩;have W2:=W1.trans (bu.dL (ex:=fun b=>b=mT\/b=mS) N2);have h2:=h1.keep (bu.dL (ex:=fun _=>False) N2).more fun b hb=>N2.old b (by have:=lt3 b hb;have:=N1.size;omega);by_cases ht:t.size<=12
  ·have htI:(t.size:Int)<=12:=aa;rw[dv htI];refine aA ?_;obtain⟨c0,c1,-⟩:=bT h2.blk;refine rdC N2.ay h2.own.1 c0 fun _=>?_;refine aA ?_;refine aP aX N2.ay rfl ai ai ?_ rfl (v:=.agg #[.bool (jE th x).1,.string (jE th x).2]) (fun wl aE=>by simp[go_sem,yu wl x (h2.tm.of_block (aE.heap _ h2.own.2.1))]) fun _=>?_
   ·exact dU (ml h2.own.2.1) bf
   walk_nrm;cases hg:eO th x with
   |some t0 =>
    have Ou:jE th x=(true,t0):=by simp[jE,hg]
    rw[Ou];have evf:=yv;refine aA ?_;refine rdC N2.ay h2.own.1 c0 fun _=>?_;refine aA ?_;refine bD aX N2.ay rfl ai ai ?_ rfl (R:=fun wl aI=>cN mT wl aI/\mj aI mT (qF Fv (gU th x t))) (fun wl aE=>?_) fun wl aI w3 aE hR ba=>?_
    ·intro y hy;simp[Op.operands] at hy;rcases hy with rfl|rfl|rfl
     ·simp[Act.eval];exact ml h2.own.2.1
     ·simp[Act.eval];exact bf
     ·simp[Act.eval];exact cJ (vs:=[_,_]) (fun x hx=>by
       simp at hx;rcases hx with rfl|rfl
       ·exact kn
       ·exact bf)
    ·obtain⟨X,e1,e2⟩:=nI (P:=ar) (x:=x) underlying161 underlying9 (h2.tm.of_block (aE.heap _ h2.own.2.1)) (Fv t);rw[tT] at e2;unfold Fv at e1;exact⟨_,by simp[go_sem,e1],lP _ _ _,e2⟩
    obtain⟨Iu,vz,e3⟩:=ba.only aE h2.own.2.1 hR.1;have tm3:=hR.2.of_block vz;have qu:=ba.ay;rw[e3] at qu |-;clear hR ba aE vz wl aI e3;have Cp:=(cell_of (a:=⟨fb,1,none⟩) (Iu.2 fb h2.apart.1)).trans c1;refine aA ?_;refine rdC qu h2.own.1 Cp fun _=>?_;refine aA ?_;have Wf:=h2.sm.of_block (Iu.2 mS (fun e=>h2.apart.2.2 e.symm));refine aP aX qu rfl ai ai ?_ rfl (v:=.int .i64 (dC st x)) (fun wl aE=>by simp[go_sem,tU wl x (Wf.of_block (aE.heap _ h2.own.2.2))]) fun _=>?_
    ·exact dU (ml h2.own.2.2) bf
    refine aA ?_;refine bD aX qu rfl ai ai ?_ rfl (R:=fun wl aI=>cN mS wl aI/\mj aI mS (qF B1 (gU st x (IntKind.i64.wrap (dC st x+1))))) (fun wl aE=>?_) fun wl aI w4 aE hR ba=>?_
    ·intro y hy;simp[Op.operands] at hy;rcases hy with rfl|rfl|rfl
     ·simp[Act.eval];exact ml h2.own.2.2
     ·simp[Act.eval];exact bf
     ·simp[Act.eval];exact bN
    ·obtain⟨X,e1,e2⟩:=nI (P:=ar) (x:=x) underlying162 underlying9 (Wf.of_block (aE.heap _ h2.own.2.2)) (B1 (IntKind.i64.wrap (dC st x+1)));rw[tT] at e2;unfold B1 at e1;exact⟨_,by simp[go_sem,e1],lP _ _ _,e2⟩
    obtain⟨FV,si,e4⟩:=ba.only aE h2.own.2.2 hR.1;have sm4:=hR.2.of_block si;have D9:=ba.ay;rw[e4] at D9 |-;clear hR ba aE si wl aI e4;refine aA ?_;have W4:=(W2.trans (bu.db qu Iu (.inl rfl))).trans (bu.db D9 FV (.inr rfl));refine⟨.inr trivial,trivial,_,resultsC_tmp (t:=6) ai _,W4,.inr (.inr (.inr ⟨aC,hn,ht,(fun q=>by cases q.1),?_⟩))⟩;exact⟨(FV.2 fb h2.apart.2.1).trans ((Iu.2 fb h2.apart.1).trans h2.blk),tm3.of_block (FV.2 mT h2.apart.2.2),sm4,h2.own,h2.apart⟩
   |none =>
    have Ou:jE th x=(false,aN):=by simp[jE,hg,V0]
    rw[Ou];have evf:=yv;refine aA ?_;refine rdC N2.ay h2.own.1 c0 fun _=>?_;refine aA ?_;refine aP aX N2.ay rfl ai ai ?_ rfl (v:=.int .i64 th.length) (fun wl aE=>?_) fun _=>?_
    ·intro y hy;simp[Op.operands,Call.operands] at hy;subst hy;simp[Act.eval];exact ml h2.own.2.1
    ·obtain⟨es,cl,q1,q2⟩:=UF (h2.tm.of_block (aE.heap _ h2.own.2.1));have:=run_len_map (P:=ar) wl 161 3 mT es cl af q1;simp[go_sem,this,q2,UG,goInt]
    walk_nrm;by_cases oa:12<=th.length
    ·have af5:(12:Int)<=(th.length:Int):=aa;refine aA ?_;exact⟨.inr trivial,trivial,_,resultsC_tmp (t:=6) ai _,W2,.inr (.inr (.inl ⟨aC,hn,ht,trivial,oa,h2⟩))⟩
    have af5:¬(12:Int)<=(th.length:Int):=aa;refine aA ?_;refine rdC N2.ay h2.own.1 c0 fun _=>?_;refine aA ?_;refine bD aX N2.ay rfl ai ai ?_ rfl (R:=fun wl aI=>cN mT wl aI/\mj aI mT (qF Fv (gU th x t))) (fun wl aE=>?_) fun wl aI w3 aE hR ba=>?_
    ·intro y hy;simp[Op.operands] at hy;rcases hy with rfl|rfl|rfl
     ·simp[Act.eval];exact ml h2.own.2.1
     ·simp[Act.eval];exact bf
     ·simp[Act.eval];exact cJ (vs:=[_,_]) (fun x hx=>by
       simp at hx;rcases hx with rfl|rfl
       ·exact kn
       ·exact bf)
    ·obtain⟨X,e1,e2⟩:=nI (P:=ar) (x:=x) underlying161 underlying9 (h2.tm.of_block (aE.heap _ h2.own.2.1)) (Fv t);rw[tT] at e2;unfold Fv at e1;exact⟨_,by simp[go_sem,e1],lP _ _ _,e2⟩
    obtain⟨Iu,vz,e3⟩:=ba.only aE h2.own.2.1 hR.1;have tm3:=hR.2.of_block vz;have qu:=ba.ay;rw[e3] at qu |-;clear hR ba aE vz wl aI e3;have Cp:=(cell_of (a:=⟨fb,1,none⟩) (Iu.2 fb h2.apart.1)).trans c1;refine aA ?_;refine rdC qu h2.own.1 Cp fun _=>?_;refine aA ?_;have Wf:=h2.sm.of_block (Iu.2 mS (fun e=>h2.apart.2.2 e.symm));refine aP aX qu rfl ai ai ?_ rfl (v:=.int .i64 (dC st x)) (fun wl aE=>by simp[go_sem,tU wl x (Wf.of_block (aE.heap _ h2.own.2.2))]) fun _=>?_
    ·exact dU (ml h2.own.2.2) bf
    refine aA ?_;refine bD aX qu rfl ai ai ?_ rfl (R:=fun wl aI=>cN mS wl aI/\mj aI mS (qF B1 (gU st x (IntKind.i64.wrap (dC st x+1))))) (fun wl aE=>?_) fun wl aI w4 aE hR ba=>?_
    ·intro y hy;simp[Op.operands] at hy;rcases hy with rfl|rfl|rfl
     ·simp[Act.eval];exact ml h2.own.2.2
     ·simp[Act.eval];exact bf
     ·simp[Act.eval];exact bN
    ·obtain⟨X,e1,e2⟩:=nI (P:=ar) (x:=x) underlying162 underlying9 (Wf.of_block (aE.heap _ h2.own.2.2)) (B1 (IntKind.i64.wrap (dC st x+1)));rw[tT] at e2;unfold B1 at e1;exact⟨_,by simp[go_sem,e1],lP _ _ _,e2⟩
    obtain⟨FV,si,e4⟩:=ba.only aE h2.own.2.2 hR.1;have sm4:=hR.2.of_block si;have D9:=ba.ay;rw[e4] at D9 |-;clear hR ba aE si wl aI e4;refine aA ?_;have W4:=(W2.trans (bu.db qu Iu (.inl rfl))).trans (bu.db D9 FV (.inr rfl));refine⟨.inr trivial,trivial,_,resultsC_tmp (t:=6) ai _,W4,.inr (.inr (.inr ⟨aC,hn,ht,fun q=>oa q.2,?_⟩))⟩;exact⟨(FV.2 fb h2.apart.2.1).trans ((Iu.2 fb h2.apart.1).trans h2.blk),tm3.of_block (FV.2 mT h2.apart.2.2),sm4,h2.own,h2.apart⟩
  ·have htI:¬(t.size:Int)<=12:=aa;rw[ee htI];refine aA ?_;exact⟨.inr trivial,trivial,_,resultsC_tmp (t:=6) ai _,W2,.inr (.inl ⟨aC,hn,aa,h2⟩)⟩
theorem Ov(hF:bE ar L0 o w)(h:gI o w fb mT mS th st)(x:ah)(hx:x.size<=1000000)(hth:th.length<=100000):
  bp ar (XB ar Fin 0) 62 #[.pointer (some ⟨fb,0,none⟩),.string x] o w fun v o' w'=>bu (fun b=>b=mT\/b=mS) o w o' w'/\((v=.int .i64 2/\¬isName x/\gI o' w' fb mT mS th st)\/(v=.int .i64 7/\isName x/\eO th x=none/\gI o' w' fb mT mS th st) \/
   (v=.int .i64 0/\isName x/\eO th x≠none/\gI o' w' fb mT mS (lI th x) (gU st x (IntKind.i64.wrap (dC st x+1))))):=by
 have W:=bJ (P:=ar) (Fin:=Fin) (d:=0);refine bA W func62 ai ?_;walk_nrmf Tryz.f62;refine aA ?_;refine aF W rfl ai rfl func68 af rfl aC rfl ((Rq hF x hx).mono ?_);rintro v1 o1 w1 ⟨b1,rfl,Ag,N1⟩;have W1:bu (fun b=>b=mT\/b=mS) o w o1 w1:=bu.dL N1;have lt3:∀b,b=fb\/b=mT\/b=mS->b<w.heap.size:=fun b hb=>by
  rcases hb with rfl|rfl|rfl
  ·exact hF.lt h.own.1
  ·exact hF.lt h.own.2.1
  ·exact hF.lt h.own.2.2
 have h1:=h.keep W1.more fun b hb=>N1.old b (lt3 b hb);cases b1 with
 |false =>
  have hn:¬isName x:=fun q=>by have:=Ag.2 q;cases this
  refine aA ?_;exact⟨.inr trivial,trivial,_,resultsC_tmp (t:=4) ai _,W1,.inl ⟨aC,hn,h1⟩⟩
 |true =>
  have hn:isName x:=Ag.1 rfl;refine aA ?_;obtain⟨c0,c1,-⟩:=bT h1.blk;refine rdC N1.ay h1.own.1 c0 fun _=>?_;refine aA ?_;refine aP aX N1.ay rfl ai ai ?_ rfl (v:=.agg #[.bool (jE th x).1,.string (jE th x).2]) (fun wl aE=>by simp[go_sem,yu wl x (h1.tm.of_block (aE.heap _ h1.own.2.1))]) fun _=>?_
  ·exact dU (ml h1.own.2.1) bf
  walk_nrm;have evf:=yv;cases hg:eO th x with
  |none =>
    have Ou:jE th x=(false,aN):=by simp[jE,hg,V0]
    rw[Ou];refine aA ?_;exact⟨.inr trivial,trivial,_,resultsC_tmp (t:=4) ai _,W1,.inr (.inl ⟨aC,hn,an,h1⟩)⟩
  |some t0 =>
    have Ou:jE th x=(true,t0):=by simp[jE,hg]
    rw[Ou];refine aA ?_;refine rdC N1.ay h1.own.1 c0 fun _=>?_;refine aA ?_;refine cq aX N1.ay rfl ai ai ?_ rfl (R:=fun wl v aI=>v=.tuple #[]/\cN mT wl aI/\mj aI mT (qF Fv (lI th x))) (fun wl aE=>?_) fun wl v3 aI w3 aE hR ba=>?_
    ·intro y hy;simp[Op.operands,Call.operands] at hy;rcases hy with rfl|rfl
     ·simp[Act.eval];exact ml h1.own.2.1
     ·simp[Act.eval];exact bf
    ·obtain⟨X,e1,e2⟩:=Iq (P:=ar) (x:=x) underlying161 underlying9 (h1.tm.of_block (aE.heap _ h1.own.2.1)) 0;rw[Mf] at e2;exact⟨_,_,by simp[go_sem,e1],rfl,lP _ _ _,e2⟩
    obtain⟨rfl,hR⟩:=hR;obtain⟨Iu,vz,e3⟩:=ba.only aE h1.own.2.1 hR.1;have tm3:=hR.2.of_block vz;have qu:=ba.ay;rw[e3] at qu |-;clear hR ba aE vz wl aI e3;have Cp:=(cell_of (a:=⟨fb,1,none⟩) (Iu.2 fb h1.apart.1)).trans c1;refine aA ?_;refine rdC qu h1.own.1 Cp fun _=>?_;refine aA ?_;have Wf:=h1.sm.of_block (Iu.2 mS (fun e=>h1.apart.2.2 e.symm));refine aP aX qu rfl ai ai ?_ rfl (v:=.int .i64 (dC st x)) (fun wl aE=>by simp[go_sem,tU wl x (Wf.of_block (aE.heap _ h1.own.2.2))]) fun _=>?_
    ·exact dU (ml h1.own.2.2) bf
    refine aA ?_;refine bD aX qu rfl ai ai ?_ rfl (R:=fun wl aI=>cN mS wl aI/\mj aI mS (qF B1 (gU st x (IntKind.i64.wrap (dC st x+1))))) (fun wl aE=>?_) fun wl aI w4 aE hR ba=>?_
    ·intro y hy;simp[Op.operands] at hy;rcases hy with rfl|rfl|rfl
     ·simp[Act.eval];exact ml h1.own.2.2
     ·simp[Act.eval];exact bf
     ·simp[Act.eval];exact bN
    ·obtain⟨X,e1,e2⟩:=nI (P:=ar) (x:=x) underlying162 underlying9 (Wf.of_block (aE.heap _ h1.own.2.2)) (B1 (IntKind.i64.wrap (dC st x+1)));rw[tT] at e2;unfold B1 at e1;exact⟨_,by simp[go_sem,e1],lP _ _ _,e2⟩
    obtain⟨FV,si,e4⟩:=ba.only aE h1.own.2.2 hR.1;have sm4:=hR.2.of_block si;have D9:=ba.ay;rw[e4] at D9 |-;clear hR ba aE si wl aI e4;refine aA ?_;have W4:=(W1.trans (bu.db qu Iu (.inl rfl))).trans (bu.db D9 FV (.inr rfl));refine⟨.inr trivial,trivial,_,resultsC_tmp (t:=4) ai _,W4,.inr (.inr ⟨aC,hn,an,?_⟩)⟩;exact⟨(FV.2 fb h1.apart.2.1).trans ((Iu.2 fb h1.apart.1).trans h1.blk),tm3.of_block (FV.2 mT h1.apart.2.2),sm4,h1.own,h1.apart⟩
end
structure sj where
 B:zf
 kb:Nat
 fb:Nat
 mT:Nat
 mS:Nat
structure kT where
 fd:Option (Nat×dm)
 old:Nat->Option (Nat×List V)
 th:List (ah×ah)
 st:List (ah×Int)
 qv:Value
 qn:List ah
 lost:Bool
 time:Nat
 phase:Nat
 since:Nat
 sv:Value
 src:List ah
 rv:Value
 rd:List (V×Int)
 ck:Nat
 pb:Nat
 num:Int
 kW:Value
 res:List (ah×V)
 mz:Value
 ku:List ah
def qG(K:sj)(s:kT)(lk:Int):Nat->Value
 |0=>.int .i32 lk
 |1=>.int .u32 0
 |2=>.pointer (some ⟨K.B.bb,0,none⟩)
 |3=>.pointer (some ⟨K.fb,0,none⟩)
 |4=>s.qv
 |5=>.bool s.lost
 |6=>.int .i64 s.time
 |7=>.int .i64 s.phase
 |8=>.int .i64 s.since
 |9=>s.sv
 |10=>s.rv
 |11=>.int .i64 s.ck
 |_=>.pointer (some ⟨s.pb,0,none⟩)
theorem mm{j:Nat}(h:j<13):j=0\/j=1\/j=2\/j=3\/j=4\/j=5\/j=6\/j=7\/j=8\/j=9\/j=10\/j=11\/j=12:=aa
structure Mh(o:aM)(w:ae)(v:Value)(ts:List ah):Prop where
 row:∃p b c,v=.slice p ts.length c/\(p=none->ts=[])/\(ts≠[]->p=some ⟨b,0,none⟩/\o b)/\dP w b 0 ts
 cl:Cl ar L0 o v
 gT:ts.length<=1000
def ef(ss:List (V×Int)):List Value:=(ss.map fun s=>[Value.bool s.1.1,.string s.1.2,.int .i64 s.2]).flatten
structure Jk(o:aM)(w:ae)(v:Value)(ss:List (V×Int)):Prop where
 row:∃lo,lo<=w.heap.size/\w.ownsRow lo 194 3 v ss.length (ef ss)
 cl:Cl ar L0 o v
 gT:ss.length<=1000
def zi(w:ae)(b:Nat)(rs:List (ah×V)):Prop:=∀i (h:i<rs.length),w.cell? ⟨b,i*3,none⟩=some (.string rs[i].1)/\w.cell? ⟨b,i*3+1,none⟩=some (.string rs[i].2.2)/\w.cell? ⟨b,i*3+2,none⟩=some (.bool (!rs[i].2.1))
structure B4(o:aM)(w:ae)(s:kT):Prop where
 blk:w.heap[s.pb]?=some (.cells #[.int .i64 s.num,s.kW,s.mz] 59)
 own:o s.pb
 res:∃p b c,s.kW=.slice p s.res.length c/\(p=none->s.res=[])/\(s.res≠[]->p=some ⟨b,0,none⟩/\o b)/\zi w b s.res
 cl:Cl ar L0 o s.kW
 gT:s.res.length<=1000
 ku:Mh o w s.mz s.ku
section
variable {Fin:bH} {o o':aM} {w w':ae}
theorem Mh.keep{v:Value}{ts:List ah}(h:Mh o w v ts)(mW:∀b,o b->o' b)(e:∀g,v.ownBlock=some g->w'.heap[g]?=w.heap[g]?):Mh o' w' v ts:=by
 obtain⟨p,b,c,h1,h2,h3,h4⟩:=h.row;refine⟨⟨p,b,c,h1,h2,fun hn=>⟨(h3 hn).1,mW _ (h3 hn).2⟩,fun k hk=>?_⟩,h.cl.up mW,h.gT⟩;have hn:ts≠[]:=fun q=>by rw[q] at hk;simp at hk
 exact cI h4 (e b (by rw[h1,(h3 hn).1];rfl)) k hk
theorem Jk.keep{v:Value}{ss:List (V×Int)}(h:Jk o w v ss)(mW:∀b,o b->o' b)(hz:w.heap.size<=w'.heap.size)(e:∀g,v.ownBlock=some g->w'.heap[g]?=w.heap[g]?):Jk o' w' v ss:=by
 obtain⟨lo,uL,b6⟩:=h.row;exact⟨⟨lo,aa,cQ b6 fun g hg _=>e g hg.symm⟩,h.cl.up mW,h.gT⟩
def xk(s:kT)(b:Nat):Prop:=b=s.pb\/s.kW.ownBlock=some b\/s.mz.ownBlock=some b
theorem B4.keep{s:kT}(h:B4 o w s)(mW:∀b,o b->o' b)(e:∀b,xk s b->w'.heap[b]?=w.heap[b]?):B4 o' w' s:=by
 obtain⟨p,b,c,h1,h2,h3,h4⟩:=h.res;refine⟨(e _ (.inl rfl)).trans h.blk,mW _ h.own,⟨p,b,c,h1,h2,fun hn=>⟨(h3 hn).1,mW _ (h3 hn).2⟩,fun k hk=>?_⟩,h.cl.up mW,h.gT,h.ku.keep mW fun g hg=>e g (.inr (.inr hg))⟩;have hn:s.res≠[]:=fun q=>by rw[q] at hk;simp at hk
 have eb:=e b (.inr (.inl (by rw[h1,(h3 hn).1];rfl)));exact⟨(cell_of eb).trans (h4 k hk).1,(cell_of eb).trans (h4 k hk).2.1,(cell_of eb).trans (h4 k hk).2.2⟩
def KY(b:Nat):Nat:=if b=1 then 8 else 1
structure bg(o:aM)(w:ae)(K:sj)(s:kT)(lk:Int)(lab:Nat->Nat):Prop where
 ay:bE ar L0 o w
 row:w.rowIs K.kb 120 13 (qG K s lk)
 own:o K.kb
 build:fq o w K.B s.fd s.old
 files:gI o w K.fb K.mT K.mS s.th s.st
 queue:Ot o w s.qv s.qn
 ju:Mh o w s.sv s.src
 reads:Jk o w s.rv s.rd
 set:B4 o w s
 l0:lab K.kb=0
 l1:∀b,mB K.B s.fd s.old b->lab b=KY b
 l2:∀b,b=K.fb\/b=K.mT\/b=K.mS->lab b=2
 l3:∀b,s.qv.ownBlock=some b->lab b=3
 l4:∀b,s.sv.ownBlock=some b->lab b=4
 l5:∀b,s.rv.ownBlock=some b->lab b=5
 l6:∀b,xk s b->lab b=6
 gT:s.qn.length<=4/\s.th.length<=12/\s.time<=100000/\s.since<=s.time/\s.ck<=s.src.length/\s.rd.length<=s.src.length
theorem fO{v:Value}(hF:bE ar L0 o w)(h:Cl ar L0 o v):∀b,v.ownBlock=some b->o b:=fun b hb=>aO fun hg=>by
 cases v<;>first|(cases hb;done)|skip
 rename_i p l c;cases p with
 |none=>cases hb
 |some a =>
  have e:a.block=b:=aK hb;subst e;obtain⟨f,hf,cV⟩:=Ir hF hg;have:=h f hf;simp only[val,cR,addr,Value.slice.injEq,en] at this;exact cV (congrArg Addr.block this.1)
theorem bg.all{K:sj}{s:kT}{lk:Int}{lab:Nat->Nat}(h:bg o w K s lk lab):(∀b,s.qv.ownBlock=some b->o b)/\(∀b,s.sv.ownBlock=some b->o b)/\(∀b,s.rv.ownBlock=some b->o b)/\∀b,xk s b->o b:=by
 refine⟨fO h.ay h.queue.cl,fO h.ay h.ju.cl,fO h.ay h.reads.cl,fun b hb=>?_⟩;rcases hb with rfl|hb|hb
 ·exact h.set.own
 ·exact fO h.ay h.set.cl b hb
 ·exact fO h.ay h.set.ku.cl b hb
structure Yp(o:aM)(w:ae)(K:sj)(s:kT):Prop where
 build:fq o w K.B s.fd s.old
 files:gI o w K.fb K.mT K.mS s.th s.st
 queue:Ot o w s.qv s.qn
 ju:Mh o w s.sv s.src
 reads:Jk o w s.rv s.rd
 set:B4 o w s
theorem bg.other{K:sj}{s:kT}{lk:Int}{lab:Nat->Nat}(h:bg o w K s lk lab){ex:Nat->Prop}(hW:bu ex o w o' w')(hx:∀b,ex b->lab b=0):Yp o' w' K s:=by
 have ne:∀b n,lab b=n->n≠0->¬ex b:=fun b n hb hn he=>hn (by rw[<- hb];exact hx b he);obtain⟨a1,a2,a3,a4⟩:=h.all;have sm:∀b n,o b->lab b=n->n≠0->w'.heap[b]?=w.heap[b]?:=fun b n hb hl hn=>hW.same b (h.ay.lt hb) (ne b n hl hn);refine⟨h.build.keep hW.more hW.size fun b hb=>sm b (KY b) (h.build.own b hb) (h.l1 b hb) (by unfold KY;split<;>omega),h.files.keep hW.more fun b hb=>sm b 2 ?_ (h.l2 b hb) aa,h.queue.keep hW.more hW.size fun g hg=>sm g 3 (a1 g hg) (h.l3 g hg) aa,h.ju.keep hW.more fun g hg=>sm g 4 (a2 g hg) (h.l4 g hg) aa,h.reads.keep hW.more hW.size fun g hg=>sm g 5 (a3 g hg) (h.l5 g hg) aa,h.set.keep hW.more fun b hb=>sm b 6 (a4 b hb) (h.l6 b hb) aa⟩;rcases hb with rfl|rfl|rfl
 ·exact h.files.own.1
 ·exact h.files.own.2.1
 ·exact h.files.own.2.2
theorem bg.put{K:sj}{s s':kT}{lk lk':Int}{lab:Nat->Nat}(h:bg o w K s lk lab)(hF:bE ar L0 o w')(hO:cN K.kb w w')(hr:w'.rowIs K.kb 120 13 (qG K s' lk'))(he:(s'.fd,s'.old,s'.th,s'.st,s'.qv,s'.qn)=(s.fd,s.old,s.th,s.st,s.qv,s.qn))(he2:(s'.sv,s'.src,s'.rv,s'.rd,s'.pb,s'.num,s'.kW,s'.res,s'.mz,s'.ku)=(s.sv,s.src,s.rv,s.rd,s.pb,s.num,s.kW,s.res,s.mz,s.ku))(E6:s'.time<=100000/\s'.since<=s'.time/\s'.ck<=s.src.length):bg o w' K s' lk' lab:=by
 have hW:bu (·=K.kb) o w o w':=bu.db hF hO rfl;obtain⟨q1,q2,q3,q4,q5,q6⟩:=h.other hW (fun b hb=>by rw[hb];exact h.l0);simp only[WS] at he he2;obtain⟨e1,e2,e3,e4,e5,e6⟩:=he;obtain⟨f1,f2,f3,f4,f5,f6,f7,f8,f9,f10⟩:=he2;refine⟨hF,hr,h.own,by rw[e1,e2];exact q1,by rw[e3,e4];exact q2,by rw[e5,e6];exact q3,by rw[f1,f2];exact q4,by rw[f3,f4];exact q5,⟨by rw[f5,f6,f7,f9];exact q6.blk,by rw[f5];exact q6.own,by rw[f7,f8];exact q6.res,by rw[f7];exact q6.cl,by rw[f8];exact q6.gT,by rw[f9,f10];exact q6.ku⟩,h.l0,by rw[e1,e2];exact h.l1,h.l2,by rw[e5];exact h.l3,by rw[f1];exact h.l4,by rw[f3];exact h.l5,fun b hb=>h.l6 b (by unfold xk at hb |-;rw[f5,f7,f9] at hb;exact hb),by rw[e6,e3,f2,f4];exact⟨h.gT.1,h.gT.2.1,E6.1,E6.2.1,E6.2.2,h.gT.2.2.2.2.2⟩⟩
theorem bg.lock{K:sj}{s:kT}{lk lk':Int}{lab:Nat->Nat}(h:bg o w K s lk lab):bg o (w.setCell ⟨K.kb,0,none⟩ (.int .i32 lk')) K s lk' lab:=by
 refine h.put (Go.Conc.bE.setCell h.ay bN) (fW _ _ _ _) ((h.row.set 0 _).congr fun j hj=>?_) rfl rfl ⟨h.gT.2.2.1,h.gT.2.2.2.1,h.gT.2.2.2.2.1⟩;rcases mm hj with rfl|rfl|rfl|rfl|rfl|rfl|rfl|rfl|rfl|rfl|rfl|rfl|rfl<;>rfl
end
section
variable {Fin:bH} {o:aM} {w:ae} {K:sj} {s:kT} {lab:Nat->Nat}
theorem bg.unlock{f:FuncId}{Post:Value->aM->ae->Prop}(h:bg o w K s 1 lab)(tm:Array Value)(hl:∀w',bg o w' K s 0 lab->w'.heap.size=w.heap.size->(∀b,b≠K.kb->w'.heap[b]?=w.heap[b]?)->jf (XB ar Fin 0) f Post ⟨tm,[]⟩ o w'):
  jf (XB ar Fin 0) f Post ⟨tm,[{target:=.fn (.func 46) #[],args:=#[.pointer (some ⟨K.kb,0,none⟩)]}]⟩ o w :=
 uU K.kb 0 h.own (by rw[h.row.cell aa];rfl) (h.row.frozen 0) _ _ (hl _ h.lock (fW w K.kb 0 (.int .i32 0)).1 (fW w K.kb 0 (.int .i32 0)).2)
def p9(time:Nat)(n:Int):Prop:=1<=n/\n<=100/\(time:Int)+n<=100000
theorem Rt(h:bg o w K s 0 lab)(n:Int):
  bp ar (XB ar Fin 0) 37 #[.pointer (some ⟨K.kb,0,none⟩),.int .i64 n] o w fun v o' w'=>o'=o/\w'.heap.size=w.heap.size/\(∀b,b≠K.kb->w'.heap[b]?=w.heap[b]?)/\((v=.int .i64 8/\¬p9 s.time n/\bg o' w' K s 0 lab)\/(v=.int .i64 0/\p9 s.time n/\bg o' w' K {s with time:=s.time+n.toNat} 0 lab)):=by
 have W:=bJ (P:=ar) (Fin:=Fin) (d:=0);refine lO W func37 ai ?_;walk_nrmf Tryz.f37;refine aA ?_;refine aF W rfl ai rfl func45 af rfl aC rfl ((yf K.kb 0 h.own (by rw[h.row.cell aa];rfl) (h.row.frozen 0)).mono ?_);rintro v0 o0 w0 ⟨rfl,rfl,rfl⟩;have h1:=h.lock (lk':=1);have on1:=fW w K.kb 0 (.int .i32 1);generalize w.setCell ⟨K.kb,0,none⟩ (.int .i32 1)=w1 at h1 on1 |-;refine aA ?_;refine kH W (d:={target:=.fn (.func 46) #[],args:=#[.pointer (some ⟨K.kb,0,none⟩)]}) rfl ai (fun w1=>fa) (fun w1=>fa) rfl ?_;walk_nrm;have aiH:=h.gT.2.2.1;have c6:w1.cell? ⟨K.kb,6,none⟩=some (.int .i64 s.time):=by rw[h1.row.cell aa];rfl
 have bad:¬p9 s.time n->∀tm,tm.getD 4 undef=.int .i64 8->jf (XB ar Fin 0) 37 (fun v o' w'=>o'=o0/\w'.heap.size=w.heap.size/\(∀b,b≠K.kb->w'.heap[b]?=w.heap[b]?)/\((v=.int .i64 8/\¬p9 s.time n/\bg o' w' K s 0 lab)\/(v=.int .i64 0/\p9 s.time n/\bg o' w' K {s with time:=s.time+n.toNat} 0 lab))) ⟨tm,[{target:=.fn (.func 46) #[],args:=#[.pointer (some ⟨K.kb,0,none⟩)]}]⟩ o0 w1:=fun hb tm ht =>
  h1.unlock tm fun w' hk hz hs=>lF W func37 rfl (resultsC_tmp (t:=4) ai _) ⟨rfl,hz.trans on1.1,fun b hb=>(hs b hb).trans (on1.2 b hb),.inl ⟨ht,hb,hk⟩⟩
 by_cases n1:n<1
 ·refine aA ?_;exact⟨.inr trivial,bad (fun q=>by have:=q.1;omega) _ rfl⟩
 by_cases n2:100<n
 ·refine aA ?_;exact⟨.inr trivial,bad (fun q=>by have:=q.2.1;omega) _ rfl⟩
 refine aA ?_;refine rdC h1.ay h.own c6 fun _=>?_;walk_nrm;have CP:IntKind.i64.wrap ((s.time:Int)+n)=(s.time:Int)+n:=by rw[IntKind.wrap_i64]<;>omega
 by_cases n3:100000<(s.time:Int)+n
 ·refine aA ?_;exact⟨.inr trivial,bad (fun q=>by have:=q.2.2;omega) _ rfl⟩
 refine aA ?_;refine rdC h1.ay h.own c6 fun _=>?_;refine aA ?_;refine bD aX h1.ay rfl ai ai ?_ rfl (R:=fun wl aI=>aI=wl.setCell ⟨K.kb,6,none⟩ (.int .i64 ((s.time:Int)+n))) (fun wl aE=>⟨_,?_,rfl⟩) fun wl aI w9 aE hR ba=>?_
 ·exact dU (aH h.own) bN
 ·have rl:=World.rowIs.of_block h1.row (aE.heap _ h.own);have e1:=(aE.cell h.own).trans c6;have f:=rl.frozen;simp[go_sem,e1,f,CP]
 have hO:cN K.kb wl aI:=by rw[hR];exact fW _ _ _ _
 obtain⟨kK,kr,e9⟩:=ba.only aE h.own hO;have gw:=ba.ay;rw[e9] at gw |-;rw[hR] at kr;have hn:(s.time:Int)+n=((s.time+n.toNat:Nat):Int):=aa;have h9:bg o0 w9 K {s with time:=s.time+n.toNat} 1 lab:=by
  refine h1.put gw kK (World.rowIs.of_block (((World.rowIs.of_block h1.row (aE.heap _ h.own)).set 6 _).congr fun j hj=>?_) kr) rfl rfl ⟨eR,by have:=h.gT.2.2.2.1;simp;omega,h.gT.2.2.2.2.1⟩;rcases mm hj with rfl|rfl|rfl|rfl|rfl|rfl|rfl|rfl|rfl|rfl|rfl|rfl|rfl<;>simp[qG,hn]
 clear hR ba aE hO kr wl aI e9;refine aA ?_;refine⟨.inr trivial,h9.unlock _ fun w' hk hz hs=>lF W func37 rfl (resultsC_tmp (t:=4) ai _) ⟨rfl,hz.trans (kK.1.trans on1.1),fun b hb=>(hs b hb).trans ((kK.2 b hb).trans (on1.2 b hb)),.inr ⟨aC,⟨aa,aa,aa⟩,hk⟩⟩⟩
end
section
variable {Fin:bH} {o o':aM} {w w':ae} {K:sj} {s:kT} {lk:Int} {lab:Nat->Nat}
structure cK(o:aM)(w:ae)(lab:Nat->Nat)(o':aM)(w':ae)(lab':Nat->Nat):Prop where
 aU:bu (fun b=>lab b<=6) o w o' w'
 lab:∀b,b<w.heap.size->lab' b=lab b
theorem cK.trans{o2:aM}{w2:ae}{lab' gP:Nat->Nat}(h:cK o w lab o' w' lab')(k:cK o' w' lab' o2 w2 gP):cK o w lab o2 w2 gP:=by
 have hz:=h.aU.size;refine⟨⟨k.aU.ay,fun b hb=>k.aU.more b (h.aU.more b hb),fun b hb=>(k.aU.new b hb).elim (fun q=>h.aU.new b q) fun q=>.inr aa,by have:=k.aU.size;omega,fun b hb hx=>?_⟩,fun b hb=>(k.lab b aa).trans (h.lab b hb)⟩;rw[k.aU.same b aa (by rw[h.lab b hb];exact hx),h.aU.same b hb hx]
theorem cK.of{ex:Nat->Prop}(h:bu ex o w o' w')(hx:∀b,ex b->lab b<=6):cK o w lab o' w' lab:=⟨h.mono hx,fun _ _=>rfl⟩
structure Yq(o':aM)(w':ae)(K:sj)(s:kT)(lk:Int)(l m:Nat):Prop where
 row:l≠0->m≠0->w'.rowIs K.kb 120 13 (qG K s lk)
 build:l≠1->m≠1->fq o' w' K.B s.fd s.old
 files:l≠2->m≠2->gI o' w' K.fb K.mT K.mS s.th s.st
 queue:l≠3->m≠3->Ot o' w' s.qv s.qn
 ju:l≠4->m≠4->Mh o' w' s.sv s.src
 reads:l≠5->m≠5->Jk o' w' s.rv s.rd
 set:l≠6->m≠6->B4 o' w' s
theorem bg.parts(h:bg o w K s lk lab){ex:Nat->Prop}(hW:bu ex o w o' w')(l m:Nat)(hx:∀b,ex b->lab b=l\/lab b=m)(od:l<=7:=by omega)(hm7:m<=7:=by omega):Yq o' w' K s lk l m:=by
 obtain⟨a1,a2,a3,a4⟩:=h.all;have sm:∀b n,o b->lab b=n->l≠n->m≠n->w'.heap[b]?=w.heap[b]?:=fun b n hb hl h1 h2=>hW.same b (h.ay.lt hb) fun he=>(hx b he).elim (fun e=>h1 (by rw[<- e,hl])) fun e=>h2 (by rw[<- e,hl]);refine⟨fun h1 h2=>World.rowIs.of_block h.row (sm _ 0 h.own h.l0 h1 h2),fun h1 h2=>h.build.keep hW.more hW.size fun b hb=>sm b (KY b) (h.build.own b hb) (h.l1 b hb) (by unfold KY;split<;>omega) (by unfold KY;split<;>omega),fun h1 h2=>h.files.keep hW.more fun b hb=>sm b 2 ?_ (h.l2 b hb) h1 h2,fun h1 h2=>h.queue.keep hW.more hW.size fun g hg=>sm g 3 (a1 g hg) (h.l3 g hg) h1 h2,fun h1 h2=>h.ju.keep hW.more fun g hg=>sm g 4 (a2 g hg) (h.l4 g hg) h1 h2,fun h1 h2=>h.reads.keep hW.more hW.size fun g hg=>sm g 5 (a3 g hg) (h.l5 g hg) h1 h2,fun h1 h2=>h.set.keep hW.more fun b hb=>sm b 6 (a4 b hb) (h.l6 b hb) h1 h2⟩;rcases hb with rfl|rfl|rfl
 ·exact h.files.own.1
 ·exact h.files.own.2.1
 ·exact h.files.own.2.2
theorem Mi{α:Type}(x:ah)(v:α):∀l:List (ah×α),(gU l x v).length=if eO l x=none then l.length+1 else l.length
 | []=>by simp[gU,eO]
 | (k,u)::l=>by
  have:=Mi x v l;by_cases h:x=k
  ·simp[gU,eO,h]
  ·simp only[gU,eO,if_neg h,List.length_cons,this];split<;>rfl
theorem Mj{α:Type}(x:ah):∀l:List (ah×α),(lI l x).length<=l.length
 | []=>by simp[lI]
 | (k,u)::l=>by
  have:=Mj x l;by_cases h:x=k
  ·simp[lI,h]
  ·simp only[lI,if_neg h,List.length_cons];omega
theorem bg.Mk(h:bg o w K s lk lab)(hW:bu (fun b=>b=K.mT\/b=K.mS) o w o' w'){th:List (ah×ah)}{st:List (ah×Int)}(hf:gI o' w' K.fb K.mT K.mS th st)(hl:th.length<=12):bg o' w' K {s with th:=th,st:=st} lk lab/\cK o w lab o' w' lab:=by
 have hx:∀b,b=K.mT\/b=K.mS->lab b=2:=fun b hb=>h.l2 b (.inr hb);have P:=h.parts hW 2 2 fun b hb=>.inl (hx b hb);obtain⟨f1,f2,f3⟩:=h.gT;exact⟨⟨hW.ay,P.row aa aa,hW.more _ h.own,P.build aa aa,hf,P.queue aa aa,P.ju aa aa,P.reads aa aa,⟨(P.set aa aa).blk,(P.set aa aa).own,(P.set aa aa).res,(P.set aa aa).cl,(P.set aa aa).gT,(P.set aa aa).ku⟩,h.l0,h.l1,h.l2,h.l3,h.l4,h.l5,h.l6,f1,hl,f3⟩,.of hW fun b hb=>by rw[hx b hb];omega⟩
theorem Rv(ts:List ah)(lost:Bool)(x:ah)(h:ts.length<=4):(iX ts lost x).1.length<=4:=by
 unfold iX;split
 ·exact h
 ·split
  ·exact h
  ·simp;omega
theorem bg.Rw(h:bg o w K s lk lab)(x:ah){rE:Value}(hW:bu (fun b=>b=K.kb\/s.qv.ownBlock=some b) o w o' w')(hq:Ot o' w' rE (iX s.qn s.lost x).1)(hb:∀b,rE.ownBlock=some b->b≠K.kb/\(s.qv.ownBlock=some b\/w.heap.size<=b))(hr:w'.rowIs K.kb 120 13 (fun j=>if j=4+1 then .bool (iX s.qn s.lost x).2 else if j=4 then rE else qG K s lk j)):
  ∃lab',bg o' w' K {s with qv:=rE,qn:=(iX s.qn s.lost x).1,lost:=(iX s.qn s.lost x).2} lk lab'/\cK o w lab o' w' lab':=by
 have hx:∀b,b=K.kb\/s.qv.ownBlock=some b->lab b=0\/lab b=3:=fun b hb=>hb.imp (fun e=>by rw[e];exact h.l0) fun e=>h.l3 b e;have P:=h.parts hW 0 3 hx;obtain⟨a1,a2,a3,a4⟩:=h.all;have lt:∀b,o b->b<w.heap.size:=fun b hb=>h.ay.lt hb;have lb:∀b,o b->(if w.heap.size<=b then 3 else lab b)=lab b:=fun b hb=>if_neg (by have:=lt b hb;omega);obtain⟨f1,f2,f3⟩:=h.gT;refine⟨fun b=>if w.heap.size<=b then 3 else lab b,⟨hW.ay,hr.congr fun j hj=>?_,hW.more _ h.own,P.build aa aa,P.files aa aa,hq,P.ju aa aa,P.reads aa aa,⟨(P.set aa aa).blk,(P.set aa aa).own,(P.set aa aa).res,(P.set aa aa).cl,(P.set aa aa).gT,(P.set aa aa).ku⟩,(lb _ h.own).trans h.l0,fun b hb=>(lb b (h.build.own b hb)).trans (h.l1 b hb),fun b hb=>(lb b ?_).trans (h.l2 b hb),fun b hq=>?_,fun b hb=>(lb b (a2 b hb)).trans (h.l4 b hb),fun b hb=>(lb b (a3 b hb)).trans (h.l5 b hb),fun b hb=>(lb b (a4 b hb)).trans (h.l6 b hb),Rv _ _ _ f1,f2,f3⟩,⟨hW.mono fun b hb=>by rcases hx b hb with e|e<;>omega,fun b hb=>if_neg aa⟩⟩
 ·rcases mm hj with rfl|rfl|rfl|rfl|rfl|rfl|rfl|rfl|rfl|rfl|rfl|rfl|rfl<;>rfl
 ·rcases hb with rfl|rfl|rfl
  ·exact h.files.own.1
  ·exact h.files.own.2.1
  ·exact h.files.own.2.2
 ·rcases(hb b hq).2 with e|e
  ·exact(lb b (a1 b e)).trans (h.l3 b e)
  ·exact if_pos e
theorem bg.qne(h:bg o w K s lk lab):s.qv.ownBlock≠some K.kb:=fun e=>by
 have:=h.l3 _ e;rw[h.l0] at this;omega
theorem cK.lock(h:bg o w K s lk lab){lk':Int}:cK o w lab o (w.setCell ⟨K.kb,0,none⟩ (.int .i32 lk')) lab:=.of (bu.db (ex:=(·=K.kb)) (h.lock (lk':=lk')).ay (fW _ _ _ _) rfl) fun b hb=>by rw[hb,h.l0];omega
theorem Rx(h:bg o w K s 0 lab)(x t:ah)(hx:x.size<=1000000):
  bp ar (XB ar Fin 0) 21 #[.pointer (some ⟨K.kb,0,none⟩),.string x,.string t] o w fun v o' w'=>∃lab',cK o w lab o' w' lab'/\((∃e,v=.int .i64 e/\e≠0/\¬(isName x/\t.size<=12/\¬(eO s.th x=none/\12<=s.th.length))/\bg o' w' K s 0 lab') \/
   (v=.int .i64 0/\(isName x/\t.size<=12/\¬(eO s.th x=none/\12<=s.th.length))/\∃rE,bg o' w' K {s with th:=gU s.th x t,st:=gU s.st x (IntKind.i64.wrap (dC s.st x+1)),qv:=rE,qn:=(iX s.qn s.lost x).1,lost:=(iX s.qn s.lost x).2} 0 lab')):=by
 have W:=bJ (P:=ar) (Fin:=Fin) (d:=0);refine lO W func21 ai ?_;walk_nrmf Tryz.f21;refine aA ?_;refine aF W rfl ai rfl func45 af rfl aC rfl ((yf K.kb 0 h.own (by rw[h.row.cell aa];rfl) (h.row.frozen 0)).mono ?_);rintro v0 o0 w0 ⟨rfl,rfl,rfl⟩;have h1:=h.lock (lk':=1);have S1:=cK.lock h (lk':=1);generalize w.setCell ⟨K.kb,0,none⟩ (.int .i32 1)=w1 at h1 S1 |-;refine aA ?_;refine kH W (d:={target:=.fn (.func 46) #[],args:=#[.pointer (some ⟨K.kb,0,none⟩)]}) rfl ai (fun w1=>fa) (fun w1=>fa) rfl ?_;refine aA ?_;have c3:w1.cell? ⟨K.kb,3,none⟩=some (.pointer (some ⟨K.fb,0,none⟩)):=by rw[h1.row.cell aa];rfl
 refine rdC h1.ay h.own c3 fun _=>?_;refine aA ?_;refine aF W rfl ai rfl func47 af rfl aC rfl ((UJ h1.ay h1.files x t hx (by have:=h.gT.2.1;omega)).mono ?_);rintro v2 o2 w2 ⟨W2,hq⟩;have fail:∀e:Int,e≠0->gI o2 w2 K.fb K.mT K.mS s.th s.st->¬(isName x/\t.size<=12/\¬(eO s.th x=none/\12<=s.th.length))->∀tm,tm.getD 6 undef=.int .i64 e->jf (XB ar Fin 0) 21 (fun v o' w'=>∃lab',cK o0 w lab o' w' lab'/\((∃e,v=.int .i64 e/\e≠0/\¬(isName x/\t.size<=12/\¬(eO s.th x=none/\12<=s.th.length))/\bg o' w' K s 0 lab') \/
   (v=.int .i64 0/\(isName x/\t.size<=12/\¬(eO s.th x=none/\12<=s.th.length))/\∃rE,bg o' w' K {s with th:=gU s.th x t,st:=gU s.st x (IntKind.i64.wrap (dC s.st x+1)),qv:=rE,qn:=(iX s.qn s.lost x).1,lost:=(iX s.qn s.lost x).2} 0 lab'))) ⟨tm,[{target:=.fn (.func 46) #[],args:=#[.pointer (some ⟨K.kb,0,none⟩)]}]⟩ o2 w2:=fun e he hf Yr tm ht=>by
  obtain⟨k2,S2⟩:=h1.Mk W2 hf h.gT.2.1;refine k2.unlock tm fun w' hk hz hs=>lF W func21 rfl (resultsC_tmp (t:=6) ai _) ⟨lab,(S1.trans S2).trans (.of (bu.db (ex:=(·=K.kb)) hk.ay ⟨hz,hs⟩ rfl) fun b hb=>by rw[hb,h.l0];omega),.inl ⟨e,ht,he,Yr,hk⟩⟩
 rcases hq with⟨rfl,q1,hf⟩|⟨rfl,q1,q2,hf⟩|⟨rfl,q1,q2,q3,q4,hf⟩|⟨rfl,q1,q2,q3,hf⟩
 ·walk_nrm;refine aA ?_;exact⟨.inr trivial,fail 2 aa hf (fun q=>q1 q.1) _ rfl⟩
 ·walk_nrm;refine aA ?_;exact⟨.inr trivial,fail 6 aa hf (fun q=>by have:=q.2.1;omega) _ rfl⟩
 ·walk_nrm;refine aA ?_;exact⟨.inr trivial,fail 1 aa hf (fun q=>q.2.2 ⟨q3,q4⟩) _ rfl⟩
 ·obtain⟨k2,S2⟩:=h1.Mk W2 hf (by
   rw[Mi];have:=h.gT.2.1;split
   ·rename_i hn;have:¬12<=s.th.length:=fun q=>q3 ⟨hn,q⟩;omega
   ·omega)
  refine aA ?_;refine aF W rfl ai rfl func48 af rfl aC rfl ((Wa k2.ay K.kb 4 120 13 _ s.qv s.qn s.lost x k2.own k2.queue h.qne k2.row aa rfl rfl (by have:=h.gT.1;omega)).mono ?_);rintro v3 o3 w3 ⟨rfl,W3,rE,EN,mo,SJ⟩;obtain⟨lab',k3,S3⟩:=k2.Rw x W3 EN mo SJ;refine aA ?_;refine⟨.inr trivial,k3.unlock _ fun w' hk hz hs=>lF W func21 rfl (resultsC_tmp (t:=6) ai _) ⟨lab',((S1.trans S2).trans S3).trans (.of (bu.db (ex:=(·=K.kb)) hk.ay ⟨hz,hs⟩ rfl) fun b hb=>by rw[hb,k3.l0];omega),.inr ⟨aC,⟨q1,q2,q3⟩,rE,hk⟩⟩⟩
theorem Iv(h:bg o w K s 0 lab)(x:ah)(hx:x.size<=1000000):
  bp ar (XB ar Fin 0) 36 #[.pointer (some ⟨K.kb,0,none⟩),.string x] o w fun v o' w'=>∃lab',cK o w lab o' w' lab'/\((∃e,v=.int .i64 e/\e≠0/\(¬(isName x/\eO s.th x≠none)/\(isName x->e=7))/\bg o' w' K s 0 lab') \/
   (v=.int .i64 0/\(isName x/\eO s.th x≠none)/\∃rE,bg o' w' K {s with th:=lI s.th x,st:=gU s.st x (IntKind.i64.wrap (dC s.st x+1)),qv:=rE,qn:=(iX s.qn s.lost x).1,lost:=(iX s.qn s.lost x).2} 0 lab')):=by
 have W:=bJ (P:=ar) (Fin:=Fin) (d:=0);refine lO W func36 ai ?_;walk_nrmf Tryz.f36;refine aA ?_;refine aF W rfl ai rfl func45 af rfl aC rfl ((yf K.kb 0 h.own (by rw[h.row.cell aa];rfl) (h.row.frozen 0)).mono ?_);rintro v0 o0 w0 ⟨rfl,rfl,rfl⟩;have h1:=h.lock (lk':=1);have S1:=cK.lock h (lk':=1);generalize w.setCell ⟨K.kb,0,none⟩ (.int .i32 1)=w1 at h1 S1 |-;refine aA ?_;refine kH W (d:={target:=.fn (.func 46) #[],args:=#[.pointer (some ⟨K.kb,0,none⟩)]}) rfl ai (fun w1=>fa) (fun w1=>fa) rfl ?_;refine aA ?_;have c3:w1.cell? ⟨K.kb,3,none⟩=some (.pointer (some ⟨K.fb,0,none⟩)):=by rw[h1.row.cell aa];rfl
 refine rdC h1.ay h.own c3 fun _=>?_;refine aA ?_;refine aF W rfl ai rfl func62 af rfl aC rfl ((Ov h1.ay h1.files x hx (by have:=h.gT.2.1;omega)).mono ?_);rintro v2 o2 w2 ⟨W2,hq⟩;have fail:∀e:Int,e≠0->gI o2 w2 K.fb K.mT K.mS s.th s.st->(¬(isName x/\eO s.th x≠none)/\(isName x->e=7))->∀tm,tm.getD 4 undef=.int .i64 e->jf (XB ar Fin 0) 36 (fun v o' w'=>∃lab',cK o0 w lab o' w' lab'/\((∃e,v=.int .i64 e/\e≠0/\(¬(isName x/\eO s.th x≠none)/\(isName x->e=7))/\bg o' w' K s 0 lab') \/
   (v=.int .i64 0/\(isName x/\eO s.th x≠none)/\∃rE,bg o' w' K {s with th:=lI s.th x,st:=gU s.st x (IntKind.i64.wrap (dC s.st x+1)),qv:=rE,qn:=(iX s.qn s.lost x).1,lost:=(iX s.qn s.lost x).2} 0 lab'))) ⟨tm,[{target:=.fn (.func 46) #[],args:=#[.pointer (some ⟨K.kb,0,none⟩)]}]⟩ o2 w2:=fun e he hf Yr tm ht=>by
  obtain⟨k2,S2⟩:=h1.Mk W2 hf h.gT.2.1;refine k2.unlock tm fun w' hk hz hs=>lF W func36 rfl (resultsC_tmp (t:=4) ai _) ⟨lab,(S1.trans S2).trans (.of (bu.db (ex:=(·=K.kb)) hk.ay ⟨hz,hs⟩ rfl) fun b hb=>by rw[hb,h.l0];omega),.inl ⟨e,ht,he,Yr,hk⟩⟩
 rcases hq with⟨rfl,q1,hf⟩|⟨rfl,q1,q2,hf⟩|⟨rfl,q1,q2,hf⟩
 ·walk_nrm;refine aA ?_;exact⟨.inr trivial,fail 2 aa hf ⟨fun q=>q1 q.1,fun q=>absurd q q1⟩ _ rfl⟩
 ·walk_nrm;refine aA ?_;exact⟨.inr trivial,fail 7 aa hf ⟨fun q=>q.2 q2,fun _=>rfl⟩ _ rfl⟩
 ·obtain⟨k2,S2⟩:=h1.Mk W2 hf (by have:=Mj x s.th;have:=h.gT.2.1;omega);refine aA ?_;refine aF W rfl ai rfl func48 af rfl aC rfl ((Wa k2.ay K.kb 4 120 13 _ s.qv s.qn s.lost x k2.own k2.queue h.qne k2.row aa rfl rfl (by have:=h.gT.1;omega)).mono ?_);rintro v3 o3 w3 ⟨rfl,W3,rE,EN,mo,SJ⟩;obtain⟨lab',k3,S3⟩:=k2.Rw x W3 EN mo SJ;refine aA ?_;refine⟨.inr trivial,k3.unlock _ fun w' hk hz hs=>lF W func36 rfl (resultsC_tmp (t:=4) ai _) ⟨lab',((S1.trans S2).trans S3).trans (.of (bu.db (ex:=(·=K.kb)) hk.ay ⟨hz,hs⟩ rfl) fun b hb=>by rw[hb,k3.l0];omega),.inr ⟨aC,⟨q1,q2⟩,rE,hk⟩⟩⟩
theorem UK:Mh o w (.slice none 0 0) []:=⟨⟨none,0,0,rfl,fun _=>rfl,fun h=>absurd rfl h,fun k hk=>by simp at hk⟩,gS,an⟩
theorem Ml:Jk o w (.slice none 0 0) []:=⟨⟨0,aQ _,by simp[ef],.inl ⟨rfl,rfl⟩⟩,gS,an⟩
def kT.stand(s:kT)(phase since:Nat):kT:={s with phase:=phase,since:=since,sv:=.slice none 0 0,src:=[],rv:=.slice none 0 0,rd:=[],ck:=0}
theorem bg.Iw(h:bg o w K s lk lab){phase since:Nat}(hF:bE ar L0 o w')(hO:cN K.kb w w')(hr:w'.rowIs K.kb 120 13 (qG K (s.stand phase since) lk))(hs:since<=s.time):bg o w' K (s.stand phase since) lk lab:=by
 have hW:bu (·=K.kb) o w o w':=bu.db hF hO rfl;have P:=h.parts hW 0 0 fun b hb=>.inl (by rw[hb];exact h.l0);have q6:=P.set aa aa;obtain⟨f1,f2,f3,-⟩:=h.gT;exact⟨hF,hr,h.own,P.build aa aa,P.files aa aa,P.queue aa aa,UK,Ml,⟨q6.blk,q6.own,q6.res,q6.cl,q6.gT,q6.ku⟩,h.l0,h.l1,h.l2,h.l3,(fun b hb=>by cases hb),(fun b hb=>by cases hb),h.l6,f1,f2,f3,hs,aQ _,aQ _⟩
theorem Ei(h:w.rowIs K.kb 120 13 (qG K s lk))(phase since:Nat):(((((w.setCell ⟨K.kb,7,none⟩ (.int .i64 phase)).setCell ⟨K.kb,8,none⟩ (.int .i64 since)).setCell ⟨K.kb,9,none⟩ (.slice none 0 0)).setCell ⟨K.kb,10,none⟩ (.slice none 0 0)).setCell ⟨K.kb,11,none⟩ (.int .i64 0)).rowIs K.kb 120 13 (qG K (s.stand phase since) lk):=by
 refine(((((h.set 7 _).set 8 _).set 9 _).set 10 _).set 11 _).congr fun j hj=>?_;rcases mm hj with rfl|rfl|rfl|rfl|rfl|rfl|rfl|rfl|rfl|rfl|rfl|rfl|rfl<;>rfl
theorem Ry(w:ae)(b i1 i2 i3 i4 i5:Nat)(x1 x2 x3 x4 x5:Value):cN b w (((((w.setCell ⟨b,i1,none⟩ x1).setCell ⟨b,i2,none⟩ x2).setCell ⟨b,i3,none⟩ x3).setCell ⟨b,i4,none⟩ x4).setCell ⟨b,i5,none⟩ x5):=((uR w b i1 i2 i3 x1 x2 x3).at i4 x4).at i5 x5
theorem sCl{phase since:Nat}:Cl ar L0 o (.agg #[.int .i64 phase,.int .i64 since,.slice none 0 0,.slice none 0 0,.int .i64 0]):=cJ (vs:=[_,_,_,_,_]) (fun x hx=>by
 simp at hx;rcases hx with rfl|rfl|rfl|rfl
 ·exact bN
 ·exact bN
 ·exact gS
 ·exact bN)
theorem Rz(h:bg o w K s lk lab):
  bp ar (XB ar Fin 0) 102 #[.pointer (some ⟨K.kb,0,none⟩)] o w fun v o' w'=>v=.tuple #[]/\cK o w lab o' w' lab/\bg o' w' K (s.stand 1 s.time) lk lab:=by
 have W:=bJ (P:=ar) (Fin:=Fin) (d:=0);refine bA W func102 ai ?_;walk_nrmf Tryz.f102;have c6:w.cell? ⟨K.kb,6,none⟩=some (.int .i64 s.time):=by rw[h.row.cell aa];rfl
 refine aA ?_;refine rdC h.ay h.own c6 fun _=>?_;refine aA ?_;refine bD aX h.ay rfl ai ai ?_ rfl (R:=fun wl aI=>aI=((((wl.setCell ⟨K.kb,7,none⟩ (.int .i64 (1:Nat))).setCell ⟨K.kb,8,none⟩ (.int .i64 s.time)).setCell ⟨K.kb,9,none⟩ (.slice none 0 0)).setCell ⟨K.kb,10,none⟩ (.slice none 0 0)).setCell ⟨K.kb,11,none⟩ (.int .i64 0)) (fun wl aE=>⟨_,?_,rfl⟩) fun wl aI w9 aE hR ba=>?_
 ·refine dU ?_ ?_
  ·exact aH h.own
  ·exact sCl (phase:=1)
 ·have rl:=World.rowIs.of_block h.row (aE.heap _ h.own);have e7:=rl.cell (i:=7) aa;have e8:=rl.cell (i:=8) aa;have e9:=rl.cell (i:=9) aa;have Vu:=rl.cell (i:=10) aa;have Pr:=rl.cell (i:=11) aa;have f:=rl.frozen;simp[go_sem,e7,e8,e9,Vu,Pr,f]
 have hO:cN K.kb wl aI:=by rw[hR];exact Ry _ _ _ _ _ _ _ _ _ _ _ _
 obtain⟨kK,kr,e9⟩:=ba.only aE h.own hO;have gw:=ba.ay;rw[e9] at gw |-;rw[hR] at kr;have h9:=h.Iw gw kK (World.rowIs.of_block (Ei (World.rowIs.of_block h.row (aE.heap _ h.own)) 1 s.time) kr) (ag _);clear hR ba aE hO kr wl aI e9;refine aA ?_;exact⟨.inl trivial,trivial,.tuple #[],fun w1=>results_none af _ _,an,.of (bu.db (ex:=(·=K.kb)) gw kK rfl) fun b hb=>by rw[hb,h.l0];omega,h9⟩
theorem bg.xl(h:bg o w K s lk lab)(hW:bu (fun _=>False) o w o' w'):bg o' w' K s lk lab/\cK o w lab o' w' lab:=by
 have P:=h.parts hW 7 7 fun b hb=>hb.elim;exact⟨⟨hW.ay,P.row aa aa,hW.more _ h.own,P.build aa aa,P.files aa aa,P.queue aa aa,P.ju aa aa,P.reads aa aa,P.set aa aa,h.l0,h.l1,h.l2,h.l3,h.l4,h.l5,h.l6,h.gT⟩,.of hW fun b hb=>hb.elim⟩
theorem bg.aside(h:bg o w K s lk lab){ex:Nat->Prop}(hW:bu ex o w o' w')(hx:∀b,ex b->lab b=7):bg o' w' K s lk lab:=by
 have P:=h.parts hW 7 7 fun b hb=>.inl (hx b hb);exact⟨hW.ay,P.row aa aa,hW.more _ h.own,P.build aa aa,P.files aa aa,P.queue aa aa,P.ju aa aa,P.reads aa aa,P.set aa aa,h.l0,h.l1,h.l2,h.l3,h.l4,h.l5,h.l6,h.gT⟩
theorem bg.Ix(h:bg o w K s lk lab){lab':Nat->Nat}(hl:∀b,o b->lab' b=lab b):bg o w K s lk lab':=by
 obtain⟨a1,a2,a3,a4⟩:=h.all;refine⟨h.ay,h.row,h.own,h.build,h.files,h.queue,h.ju,h.reads,h.set,(hl _ h.own).trans h.l0,fun b hb=>(hl b (h.build.own b hb)).trans (h.l1 b hb),fun b hb=>(hl b ?_).trans (h.l2 b hb),fun b hb=>(hl b (a1 b hb)).trans (h.l3 b hb),fun b hb=>(hl b (a2 b hb)).trans (h.l4 b hb),fun b hb=>(hl b (a3 b hb)).trans (h.l5 b hb),fun b hb=>(hl b (a4 b hb)).trans (h.l6 b hb),h.gT⟩;rcases hb with rfl|rfl|rfl
 ·exact h.files.own.1
 ·exact h.files.own.2.1
 ·exact h.files.own.2.2
theorem bg.built(h:bg o w K s lk lab)(hW:bu (·=K.B.Rb) o w o' w'){ir:Nat->Option (Nat×List V)}(hB:fq o' w' K.B s.fd ir){mid:Nat}(hm:∀b,mB K.B s.fd ir b->b<mid)(ho:∀i,i<K.B.rs.length->∃b vs,ir i=some (b,vs)/\((∃vs',s.old i=some (b,vs'))\/w.heap.size<=b)):
  ∃lab',bg o' w' K {s with old:=ir} lk lab'/\cK o w lab o' w' lab'/\∀b,w.heap.size<=b->mid<=b->lab' b=6:=by
 have hx:∀b,b=K.B.Rb->lab b=1:=fun b hb=>(h.l1 b (.inr (.inr (.inl hb)))).trans (if_neg (by have:=h.build.apart.2.2.2.1;omega));have P:=h.parts hW 1 1 fun b hb=>.inl (hx b hb);obtain⟨a1,a2,a3,a4⟩:=h.all;have lb:∀b,o b->(if w.heap.size<=b then(if mid<=b then 6 else 1) else lab b)=lab b:=fun b hb=>if_neg (by have:=h.ay.lt hb;omega);have q6:=P.set aa aa;refine⟨fun b=>if w.heap.size<=b then(if mid<=b then 6 else 1) else lab b,⟨hW.ay,P.row aa aa,hW.more _ h.own,hB,P.files aa aa,P.queue aa aa,P.ju aa aa,P.reads aa aa,⟨q6.blk,q6.own,q6.res,q6.cl,q6.gT,q6.ku⟩,(lb _ h.own).trans h.l0,fun b hb=>?_,fun b hb=>(lb b ?_).trans (h.l2 b hb),fun b hb=>(lb b (a1 b hb)).trans (h.l3 b hb),fun b hb=>(lb b (a2 b hb)).trans (h.l4 b hb),fun b hb=>(lb b (a3 b hb)).trans (h.l5 b hb),fun b hb=>(lb b (a4 b hb)).trans (h.l6 b hb),h.gT⟩,⟨hW.mono fun b hb=>by rw[hx b hb];omega,fun b hb=>if_neg aa⟩,fun b h1 h2=>by simp[h1,h2]⟩
 ·by_cases hz:w.heap.size<=b
  ·have:=hm b hb;have h4:=h.build.apart.2.2.2.1;have bZ:=h.ay.lt (h.build.own K.B.Rb (.inr (.inr (.inl rfl))));simp only[hz,if_true];exact(if_neg aa).trans (if_neg aa).symm
  ·simp only[hz,if_false];rcases hb with q|q|q|q|q|q|⟨i,vs,hi,q⟩
   ·exact h.l1 b (.inl q)
   ·exact h.l1 b (.inr (.inl q))
   ·exact h.l1 b (.inr (.inr (.inl q)))
   ·exact h.l1 b (.inr (.inr (.inr (.inl q))))
   ·exact h.l1 b (.inr (.inr (.inr (.inr (.inl q)))))
   ·exact h.l1 b (.inr (.inr (.inr (.inr (.inr (.inl q))))))
   ·obtain⟨b',vs',e1,e2⟩:=ho i hi;have q':ir i=some (b,vs):=q;rw[e1] at q';cases q';rcases e2 with⟨vs2,e2⟩|e2
    ·exact h.l1 b (.inr (.inr (.inr (.inr (.inr (.inr ⟨i,vs2,hi,e2⟩))))))
    ·exact absurd e2 hz
 ·rcases hb with rfl|rfl|rfl
  ·exact h.files.own.1
  ·exact h.files.own.2.1
  ·exact h.files.own.2.2
theorem bg.Ow(h:bg o w K s lk lab){s':kT}(hF:bE ar L0 o w')(hO:cN K.kb w w')(hr:w'.rowIs K.kb 120 13 (qG K s' lk))(af6:B4 o w s')(he:s'={s with pb:=s'.pb,num:=s'.num,kW:=s'.kW,res:=s'.res,mz:=s'.mz,ku:=s'.ku})(h6:∀b,xk s' b->lab b=6):bg o w' K s' lk lab:=by
 have hW:bu (·=K.kb) o w o w':=bu.db hF hO rfl;have P:=h.parts hW 0 0 fun b hb=>.inl (by rw[hb];exact h.l0);have q6:=af6.keep (o':=o) (w':=w') (fun _ q=>q) fun b hb=>hO.2 b fun e=>by have:=h6 b hb;rw[e,h.l0] at this;omega
 rw[he] at hr q6 h6 |-;exact⟨hF,hr,h.own,P.build aa aa,P.files aa aa,P.queue aa aa,P.ju aa aa,P.reads aa aa,q6,h.l0,h.l1,h.l2,h.l3,h.l4,h.l5,h6,h.gT⟩
theorem Iy:∀(ss:List (V×Int)) (i:Nat) (h:i<ss.length),(ef ss)[i*3]?=some (.bool ss[i].1.1)/\(ef ss)[i*3+1]?=some (.string ss[i].1.2)/\(ef ss)[i*3+2]?=some (.int .i64 ss[i].2)
 | [],i,h=>by simp at h
 |a::ss,0,h=>by simp[ef]
 |a::ss,i+1,h=>by
  have:=Iy ss i (by simpa using h);have e:ef (a::ss)=.bool a.1.1 :: .string a.1.2 :: .int .i64 a.2::ef ss:=by simp[ef]
  rw[e];have e1:(i+1)*3=i*3+1+1+1:=aa;have e2:(i+1)*3+1=i*3+1+1+1+1:=aa;have e3:(i+1)*3+2=i*3+2+1+1+1:=aa;rw[e3,e2,e1];simpa using this
theorem Jk.view{v:Value}{ss:List (V×Int)}(h:Jk o w v ss)(hF:bE ar L0 o w):∃p b c,v=.slice p ss.length c/\(ss≠[]->p=some ⟨b,0,none⟩/\o b)/\nH w b ss:=by
 obtain⟨lo,uL,b6⟩:=h.row;have hr:=b6;obtain⟨hl,hc⟩:=hr;rcases hc with⟨rfl,hn⟩|⟨g,cap,cur,rfl,h1,h2,h3,h4,h5,h6⟩
 ·have e:ss=[]:=List.length_eq_zero_iff.1 hn;subst e;exact⟨none,0,0,rfl,fun q=>absurd rfl q,fun i hi=>by simp at hi⟩
 ·refine⟨_,g,cap,rfl,fun _=>⟨rfl,Fu hF h.cl⟩,fun i hi=>?_⟩;obtain⟨q1,q2,q3⟩:=Iy ss i hi;have ca:=fun j hj=>World.ownsRow.cellAt b6 j hj;exact⟨(ca (i*3) aa).trans q1,(ca (i*3+1) aa).trans q2,(ca (i*3+2) aa).trans q3⟩
def zL(B:zf)(F:dm)(file:ah->V):List (ah×V):=(List.range B.rs.length).map fun i=>(qC F.b5 i,kW B F file i)
theorem UL{B:zf}{F:dm}{file:ah->V}{R:Nat}(h:w.rowIs R 65 (B.rs.length*3) (gq (qC F.b5) (kW B F file) B.rs.length)):zi w R (zL B F file):=fun i hi=>by
 have lQ:i<B.rs.length:=by simpa[zL] using hi
 have h0:(i*3)%3=0:=aa;have h1:(i*3+1)%3=1:=aa;have h2:(i*3+2)%3=2:=aa;have d0:(i*3)/3=i:=aa;have d1:(i*3+1)/3=i:=aa;have d2:(i*3+2)/3=i:=aa;refine⟨?_,?_,?_⟩
 ·rw[h.cell aa];simp[gq,h0,d0,zL,show i*3<B.rs.length*3 by omega]
 ·rw[h.cell aa];simp[gq,h1,d1,zL,show i*3+1<B.rs.length*3 by omega]
 ·rw[h.cell aa];simp[gq,h2,d2,zL,show i*3+2<B.rs.length*3 by omega]
theorem tx{lo:Nat}{ts:List ah}{v:Value}(h:ga lo ts v w):∃p l c,v=.slice p l c:=by
 rcases h.own with⟨e,-⟩|⟨g,cap,e,-⟩
 ·exact⟨_,_,_,e⟩
 ·exact⟨_,_,_,e⟩
theorem Ox[Payload](h:bg o w K s lk lab)(lo:Nat)(F:dm)(KZ:s.fd=some (lo,F))(file:ah->V)(pU:∀x,(file x).2.size<=100)(UE:s.rd.map (·.1)=(iq K.B.NM K.B.rs).map file):
  bp ar (XB ar Fin 0) 101 #[.pointer (some ⟨K.kb,0,none⟩)] o w fun v o' w'=>v=.agg #[.int .i64 6,.string aN]/\∃lab' ir Wh zk zm,cK o w lab o' w' lab'/\(∀i,i<K.B.rs.length->∃b,ir i=some (b,mi K.B F file i))/\bg o' w' K {s.stand 0 0 with old:=ir,pb:=Wh,num:=IntKind.i64.wrap (s.num+1),kW:=zk,res:=zL K.B F file,mz:=zm,ku:=qA (qC F.b5) (mz s.old (mi K.B F file)) K.B.rs.length} lk lab':=by
 have W:=bJ (P:=ar) (Fin:=Fin) (d:=0);refine dJ W func101 ai ?_;walk_nrmf Tryz.f101;refine aA ?_;refine cq aX h.ay rfl ai ai kp rfl (R:=fun wl v aI=>v=.pointer (some ⟨wl.heap.size,0,none⟩)/\aI=wl.alloc (Obj.cells #[.int .i64 0,.string aN] 32)) (fun wl aE=>⟨_,_,by simp[go_sem];rfl,rfl,rfl⟩) fun wl v1 aI w1 aE hR ba=>?_;obtain⟨rfl,hR⟩:=hR;obtain⟨z1,k1,qK⟩:=ba.alloc h.ay aE hR;have mw:=ba.ay;rw[aE.size];clear hR ba aE wl aI;have qX:bu (fun _=>False) o w (grow o w w1) w1:=⟨mw,iK,fun b hb=>hb.imp id fun q=>q.1,aa,fun b hb _=>k1 b hb⟩;obtain⟨eN,RA⟩:∃l:Nat->Nat,l=fun b=>if b=w.heap.size then 7 else lab b:=⟨_,rfl⟩
 have uW:∀b,b<w.heap.size->eN b=lab b:=fun b hb=>by rw[RA];exact if_neg aa
 have od:eN w.heap.size=7:=by rw[RA];exact if_pos rfl
 obtain⟨h1,S1⟩:=(h.Ix fun b hb=>uW b (h.ay.lt hb)).xl qX;clear RA;have pH:grow o w w1 w.heap.size:=.inr ⟨ag _,aa⟩;generalize grow o w w1=o1 at *;obtain⟨p,rb,rc,Jl,Wi,xU⟩:=h1.reads.view h1.ay;have VW:s.rd.length=(iq K.B.NM K.B.rs).length:=by simpa using congrArg List.length UE
 have c2:w1.cell? ⟨K.kb,2,none⟩=some (.pointer (some ⟨K.B.bb,0,none⟩)):=by rw[h1.row.cell aa];rfl
 have Ys:w1.cell? ⟨K.kb,10,none⟩=some (.slice p s.rd.length rc):=by rw[h1.row.cell aa];exact congrArg some Jl
 have RD:=h1.ay.lt h1.own;refine aA ?_;have Nt:=h1.build;rw[KZ] at Nt;have Te:=h1.reads.cl;rw[Jl] at Te;refine dq mixed af [some none,some none,some none,some (some (.pointer (some ⟨K.B.bb,0,none⟩))),some none,some none,some none,some none,some (some (.slice p s.rd.length rc)),none,none,some none,some none,some none,some none,some none]
  (S:=fun σ o' w'=>(σ 10=none/\bu (fun _=>False) o1 w1 o' w'/\∀y,σ 9=some y->∃Vb,y=.slice (some ⟨Vb,0,none⟩) s.rd.length s.rd.length/\w1.heap.size<=Vb/\o' Vb/\eM w' Vb (s.rd.map (·.1))) \/
   (∃y,σ 10=some y/\∃o2 w2 R rv ir,bu (fun _=>False) o1 w1 o2 w2/\y=.tuple #[.slice (some ⟨R,0,none⟩) K.B.rs.length K.B.rs.length,rv]/\bu (·=K.B.Rb) o2 w2 o' w'/\fq o' w' K.B (some (lo,F)) ir/\(∀i,i<K.B.rs.length->∃b,ir i=some (b,mi K.B F file i)/\((∃vs,s.old i=some (b,vs))\/w2.heap.size<=b)) /\
    (w2.heap.size<=R/\o' R/\w'.rowIs R 65 (K.B.rs.length*3) (gq (qC F.b5) (kW K.B F file) K.B.rs.length))/\ga w2.heap.size (qA (qC F.b5) (mz s.old (mi K.B F file)) K.B.rs.length) rv w'/\Cl ar L0 o' rv/\(∀g l c,rv=.slice (some ⟨g,0,none⟩) l c->o' g)/\∃mid,w2.heap.size<=mid/\mid<=R/\(∀b,mB K.B (some (lo,F)) ir b->b<mid)/\∀g,rv.ownBlock=some g->mid<=g)) ?_ fun v=>?_
 ·exact .inl ⟨rfl,bu.refl h1.ay,fun y hy=>by cases hy⟩
 refine dp ?_;refine bO ?_;refine bK aX rfl rfl rfl ai ai (fun σ o' w' H hS=>?_) ?_
 ·rcases hS with⟨oq,hW,-⟩|⟨y,oq,-⟩
  ·have kB:=hW.more _ h1.own;exact rd3 hW.ay kB ((cell_of (hW.same _ RD id)).trans c2)
  ·rw[H.kF [] 10 af] at oq;cases oq
 refine bO ?_;refine bK aX rfl rfl rfl ai ai (fun σ o' w' H hS=>?_) ?_
 ·rcases hS with⟨oq,hW,-⟩|⟨y,oq,-⟩
  ·have kB:=hW.more _ h1.own;exact rd3 hW.ay kB ((cell_of (hW.same _ RD id)).trans Ys)
  ·rw[H.kF [9] 10 af] at oq;cases oq
 walk_nrm;refine rj rfl rfl ai rfl func141 af rfl (av:=#[.slice p s.rd.length rc]) aC (fun σ o' w' H h9 hS=>?_) ?_
 ·rcases hS with⟨oq,hW,-⟩|⟨y,oq,-⟩
  ·refine(Fq hW.ay rb rc p s.rd (by have:=h1.reads.gT;omega) (fun q=>⟨(Wi q).1,hW.more _ (Wi q).2⟩) (fun i hi=>?_) (Te.up hW.more)).mono ?_
   ·have cV:s.rd≠[]:=fun q=>by rw[q] at hi;simp at hi
    exact xd xU (hW.same _ (h1.ay.lt (Wi cV).2) id) i hi
   ·rintro y o2 w2 ⟨N,rfl,z,hv⟩;refine .inl ⟨by simpa[dB] using oq,hW.trans (bu.dL N),fun y hy=>?_⟩;simp only[dB,if_true,en] at hy;exact⟨w'.heap.size,hy.symm,hW.size,by rw[N.own];exact .inr ⟨ag _,z⟩,hv⟩
  ·rw[H.sg 10 af] at oq;cases oq
 walk_nrm;refine rj rfl rfl ai rfl func42 af rfl (av:=#[.pointer (some ⟨K.B.bb,0,none⟩),v 9]) aC (fun σ o' w' H oq hS=>?_) ?_
 ·rcases hS with⟨-,hW,h9⟩|⟨y,q,-⟩
  ·obtain⟨Vb,hy,hVz,hVo,Zw⟩:=h9 _ (H.done 9 af rfl);have Jg:=h1.ay.lt (Nt.own K.B.Rb (.inr (.inr (.inl rfl))));rw[UE] at Zw;rw[hy];refine(UD hW.ay K.B lo F s.old (Nt.keep hW.more hW.size fun b hb=>hW.same _ (h1.ay.lt (Nt.own b hb)) id) file pU Vb s.rd.length hVo aa Zw (by simp[VW])).mono ?_;rintro y o2 w2 ⟨R,rv,ir,q⟩;exact .inr ⟨y,by simp[dB],o',w',R,rv,ir,hW,q⟩
  ·rw[oq] at q;cases q
 refine bO ?_;obtain⟨ra,rb',qg⟩:∃a b,(∃a' b',v 10=.tuple #[a',b'])->v 10=.tuple #[a,b]:=by
  by_cases q:∃a' b',v 10=.tuple #[a',b']
  ·obtain⟨a,b,e⟩:=q;exact⟨a,b,fun _=>e⟩
  ·exact⟨.tuple #[],.tuple #[],fun q'=>absurd q' q⟩
 refine wM (v 10=.tuple #[ra,rb']) ra rfl rfl rfl ai (fun σ o' w' H hS=>?_) (fun hv w1=>?_) (fun hv w1=>?_) fun y18 af8=>?_
 ·have d:=H.sV [11] 10 af rfl;rcases hS with⟨oq,-⟩|⟨y,oq,o2,w2,R,rv,ir,-,e,-⟩
  ·rw[d] at oq;cases oq
  ·rw[d] at oq;cases oq;exact qg ⟨_,_,e⟩
 ·simp[go_sem,Act.eval,hv]
 ·simp[go_sem,Act.eval,hv]
 walk_nrm;refine wM (v 10=.tuple #[ra,rb']) rb' rfl rfl rfl ai (fun σ o' w' H hS=>?_) (fun hv w1=>?_) (fun hv w1=>?_) fun y19 af9=>?_
 ·have d:=H.sV [11] 10 af rfl;rcases hS with⟨oq,-⟩|⟨y,oq,o2,w2,R,rv,ir,-,e,-⟩
  ·rw[d] at oq;cases oq
  ·rw[d] at oq;cases oq;exact qg ⟨_,_,e⟩
 ·simp[go_sem,Act.eval,hv]
 ·simp[go_sem,Act.eval,hv]
 refine bO ?_;refine bO ?_;refine cd fun σ o3 w3 kP hS=>?_;rcases hS with⟨oq,-⟩|⟨y,oq,o2,w2,R,rv,ir,FT,e,Tw,hB,hold,⟨hRz,hRo,abX⟩,Jl,abY,agb,mid,hm1,Y3,hm3,hm4⟩
 ·rw[kP 10 dh rfl] at oq;cases oq
 rw[kP 10 dh rfl] at oq;cases oq;have UM:=qg ⟨_,_,e⟩;obtain rfl:=af8 UM;obtain rfl:=af9 UM;rw[e] at UM;cases UM;simp only[gN,cZ,if_true,if_false,reduceIte,Nat.reduceEqDiff];obtain⟨h2,S2⟩:=h1.xl FT;obtain⟨oI,h3,S3,L3⟩:=h2.built Tw (by rw[KZ];exact hB) (mid:=mid) (by rw[KZ];exact hm3) fun i hi=>by
  obtain⟨b,e,q⟩:=hold i hi;exact⟨b,_,e,q⟩
 have c12:w3.cell? ⟨K.kb,12,none⟩=some (.pointer (some ⟨s.pb,0,none⟩)):=by rw[h3.row.cell aa];rfl
 have VC:=h3.set.blk;have JY:=h3.set.own;have cn:w3.cell? ⟨s.pb,0,none⟩=some (.int .i64 s.num):=(eE VC).1;have hk3:=h3.own;obtain⟨rp,rl,eD,rfl⟩:=tx Jl;refine aA ?_;refine aF W rfl ai rfl func49 af rfl aC rfl ((Eb K.kb 12 s.pb _ _ _ c12 VC).mono ?_);rintro v0 o0 w0 ⟨rfl,rfl,rfl⟩;refine aA ?_;refine rdC h3.ay JY cn fun _=>?_;refine aA ?_;refine cq aX h3.ay rfl ai ai ?_ rfl (R:=fun wl v aI=>v=.pointer (some ⟨wl.heap.size,0,none⟩)/\aI=wl.alloc (Obj.cells #[.int .i64 (IntKind.i64.wrap (s.num+1)),.slice (some ⟨R,0,none⟩) K.B.rs.length K.B.rs.length,.slice rp rl eD] 59)) (fun wl aE=>⟨_,_,fa,rfl,rfl⟩) fun wl v1 aI w4 aE hR ba=>?_
 ·refine cj ?_;exact cJ (vs:=[_,_,_]) (fun x hx=>by
   simp at hx;rcases hx with rfl|rfl|rfl
   ·exact bN
   ·exact di hRo
   ·exact abY)
 obtain⟨rfl,hR⟩:=hR;obtain⟨z4,k4,si⟩:=ba.alloc h3.ay aE hR;have D9:=ba.ay;rw[aE.size];clear hR ba aE wl aI;have FW:bu (fun _=>False) o0 w0 (grow o0 w0 w4) w4:=⟨D9,iK,fun b hb=>hb.imp id fun q=>q.1,aa,fun b hb _=>k4 b hb⟩;obtain⟨h4,S4⟩:=h3.xl FW;have mq:grow o0 w0 w4 w0.heap.size:=.inr ⟨ag _,aa⟩;have hRl:=h3.ay.lt hRo;have K0:=FW.more _ hRo;generalize grow o0 w0 w4=o4 at *;walk_nrm;refine aF W rfl ai rfl func61 af rfl aC rfl ((BS K.kb 12 w0.heap.size _ _ _ (.pointer (some ⟨s.pb,0,none⟩)) (by rw[h4.row.cell aa];rfl) (h4.row.frozen 12) si).mono ?_);rintro v0 o5 w5 ⟨rfl,rfl,rfl⟩;have h5:=h4.Ow (s':={s with old:=ir,pb:=w0.heap.size,num:=IntKind.i64.wrap (s.num+1),kW:=.slice (some ⟨R,0,none⟩) K.B.rs.length K.B.rs.length,res:=zL K.B F file,mz:=.slice rp rl eD,ku:=qA (qC F.b5) (mz s.old (mi K.B F file)) K.B.rs.length}) (Go.Conc.bE.setCell h4.ay (aH (off:=0) mq)) (fW _ _ _ _) ((h4.row.set 12 _).congr fun j hj=>?_) ?_ rfl ?_;rotate_left
 ·rcases mm hj with rfl|rfl|rfl|rfl|rfl|rfl|rfl|rfl|rfl|rfl|rfl|rfl|rfl<;>rfl
 ·refine⟨si,mq,⟨some ⟨R,0,none⟩,R,K.B.rs.length,by simp[zL],(fun q=>by cases q),fun _=>⟨rfl,K0⟩,UL (World.rowIs.of_block abX (k4 R hRl))⟩,di K0,?_,⟨?_,abY.up FW.more,?_⟩⟩
  ·have:=h.build.rules.gT;simp only[zL,List.length_map,List.length_range];omega
  ·rcases Jl.own with⟨e,e2⟩|⟨g,cap,e,g1,g2,g3⟩
   ·exact⟨none,0,0,by rw[e2];exact e,fun _=>e2,fun q=>absurd e2 q,fun i hi=>by rw[e2] at hi;simp at hi⟩
   ·exact⟨_,g,cap,e,(fun q=>by cases q),fun _=>⟨rfl,FW.more _ (agb g _ _ e)⟩,cI g3 (k4 g g2)⟩
  ·have:=h.build.rules.gT;exact aR (BN _ _ _) aa
 ·rintro b (rfl|q|q)
  ·exact L3 w0.heap.size (by have:=S3.aU.size;omega) aa
  ·cases q;exact L3 _ hRz Y3
  ·have:=hm4 b q;exact L3 _ aa this
 have S5:cK o5 w4 oI o5 (w4.setCell ⟨K.kb,12,none⟩ (.pointer (some ⟨w0.heap.size,0,none⟩))) oI:=.of (bu.db (ex:=(·=K.kb)) h5.ay (fW _ _ _ _) rfl) fun b hb=>by rw[hb,h4.l0];omega
 generalize w4.setCell ⟨K.kb,12,none⟩ (.pointer (some ⟨w0.heap.size,0,none⟩))=w5 at h5 S5 |-;have S15:=(((S1.trans S2).trans S3).trans S4).trans S5;have qi:o5 w.heap.size:=FW.more _ (Tw.more _ (FT.more _ pH));have Cy:oI w.heap.size=7:=((S2.trans S3).lab _ aa).trans od;have Jj:w5.heap[w.heap.size]?=some (.cells #[.int .i64 0,.string aN] 32):=by
  rw[((((S2.trans S3).trans S4).trans S5).aU).same _ aa (by rw[od];omega)];exact qK
 clear S2 S3 S4 S5 h2 h3 h4 FT Tw FW L3 hm3 hm4;refine aA ?_;refine bD aX h5.ay rfl ai ai ?_ rfl (R:=fun wl aI=>aI=((((wl.setCell ⟨K.kb,7,none⟩ (.int .i64 (0:Nat))).setCell ⟨K.kb,8,none⟩ (.int .i64 (0:Nat))).setCell ⟨K.kb,9,none⟩ (.slice none 0 0)).setCell ⟨K.kb,10,none⟩ (.slice none 0 0)).setCell ⟨K.kb,11,none⟩ (.int .i64 0)) (fun wl aE=>⟨_,?_,rfl⟩) fun wl aI w9 aE hR ba=>?_
 ·refine dU ?_ ?_
  ·exact aH h5.own
  ·exact sCl (phase:=0) (since:=0)
 ·have rl:=World.rowIs.of_block h5.row (aE.heap _ h5.own);have e7:=rl.cell (i:=7) aa;have e8:=rl.cell (i:=8) aa;have e9:=rl.cell (i:=9) aa;have Vu:=rl.cell (i:=10) aa;have Pr:=rl.cell (i:=11) aa;have f:=rl.frozen;simp[go_sem,e7,e8,e9,Vu,Pr,f]
 have hO:cN K.kb wl aI:=by rw[hR];exact Ry _ _ _ _ _ _ _ _ _ _ _ _
 obtain⟨kK,kr,e9⟩:=ba.only aE h5.own hO;have gw:=ba.ay;rw[e9] at gw |-;rw[hR] at kr;have h9:=h5.Iw gw kK (World.rowIs.of_block (Ei (World.rowIs.of_block h5.row (aE.heap _ h5.own)) 0 0) kr) (aQ _);have S9:=S15.trans (.of (bu.db (ex:=(·=K.kb)) gw kK rfl) fun b hb=>by rw[hb,h5.l0];omega);have cV:w.heap.size≠K.kb:=fun e=>by have:=h5.l0;rw[<- e,Cy] at this;omega
 have Wj:w9.heap[w.heap.size]?=some (.cells #[.int .i64 0,.string aN] 32):=(kK.2 _ cV).trans Jj;clear hR ba aE hO kr wl aI e9 h5 S15 Jj kK;refine aA ?_;refine bD aX h9.ay rfl ai ai ?_ rfl (R:=fun wl aI=>aI=(wl.setCell ⟨w.heap.size,0,none⟩ (.int .i64 6)).setCell ⟨w.heap.size,1,none⟩ (.string aN)) (fun wl aE=>⟨_,?_,rfl⟩) fun wl aI wA aE hR ba=>?_
 ·refine dU ?_ ?_
  ·exact aH qi
  ·exact cJ (vs:=[_,_]) (fun x hx=>by
    simp at hx;rcases hx with rfl|rfl
    ·exact bN
    ·exact bf)
 ·obtain⟨e0,e1,f0,f1⟩:=bT ((aE.heap _ qi).trans Wj);simp[go_sem,e0,e1,f0,f1];rfl
 have hO:cN w.heap.size wl aI:=by rw[hR];exact iB _ _ _ _ _ _
 obtain⟨yx,nL,eA⟩:=ba.only aE qi hO;have rF:=ba.ay;rw[eA] at rF |-;rw[hR,nG ((aE.heap _ qi).trans Wj)] at nL;have hWA:bu (·=w.heap.size) o5 w9 o5 wA:=bu.db rF yx rfl;have hA:=h9.aside hWA fun b hb=>by rw[hb];exact Cy
 clear hR ba aE hO wl aI eA;refine aA ?_;have c9:∀n,(wA.at n).cell? ⟨w.heap.size,0,none⟩=some (.int .i64 6)/\(wA.at n).cell? ⟨w.heap.size,1,none⟩=some (.string aN):=fun n=>⟨(bT nL).1,(bT nL).2.1⟩;refine⟨.inr trivial,trivial,.agg #[.int .i64 6,.string aN],p7 (fun n=>?_) (fun n e he=>?_),rfl,oI,ir,w0.heap.size,_,_,?_,fun i hi=>?_,hA⟩
 ·obtain⟨c0,c1⟩:=c9 n;simp[results,results101,go_sem,c0,c1]
 ·obtain⟨c0,c1⟩:=c9 n;simp[results,results101,go_sem,c0,c1] at he;rcases he with rfl|rfl;all_goals exact⟨_,_,_,rfl,qi⟩
 ·refine⟨⟨rF,S9.aU.more,S9.aU.new,by rw[yx.1];exact S9.aU.size,fun b hb hx=>?_⟩,fun b hb=>(S9.lab b hb).trans (uW b hb)⟩;rw[yx.2 b aa];exact S9.aU.same b hb (by rw[uW b hb];exact hx)
 ·obtain⟨b,e,-⟩:=hold i hi;exact⟨b,e⟩
end
end Go.Proofs.Kz
