import Derived.Test.YtgjekaaknjgnmaaGreatDoorAj
import Derived.Deep.SlicePairs
import Derived.MakeChecks
import Derived.MapKept
import Derived.OpenShut
import Derived.Test.YtgjekaaknjgnmaaGreatDoorRows
import Derived.WideMake
set_option linter.all false
set_option maxHeartbeats 40000000
set_option maxRecDepth 200000
namespace Go.Proofs.Kz
open Go.Proofs.Tryz
open Go.Proofs.Tryz renaming prog → ar
open _root_.ByteArray renaming empty → aN
open Go.Ren Go.Conc Go.Proofs Go.ConcN
section
variable {Fin:bH} {o:aM} {w:ae}
theorem kQ.lock{p:Option Addr}{Ru c bb:Nat}{rs:List aL}{NM:aL->List ah}{NB:aL->Nat}{w':ae}(h:kQ o w p Ru c rs NM NB)(hO:cN bb w w')(h1:Ru≠bb)(h2:∀r∈rs,NM r≠[]->NB r≠bb):kQ o w' p Ru c rs NM NB :=
 h.keep (fun _ hb=>hb) (hO.2 _ h1) fun r hr hn=>hO.2 _ (h2 r hr hn)
theorem Yj{w:ae}{b:Nat}{t:TypeId}{c0 c1 c2 c3 c4 c5 c6 c7:Value}(h:w.heap[b]?=some (.cells #[c0,c1,c2,c3,c4,c5,c6,c7] t))(x:Value):(w.setCell ⟨b,1,none⟩ x).heap[b]?=some (.cells #[c0,x,c2,c3,c4,c5,c6,c7] t)/\(w.setCell ⟨b,2,none⟩ x).heap[b]?=some (.cells #[c0,c1,x,c3,c4,c5,c6,c7] t):=by
 simp[World.setCell,Array.getElem?_modify,h]
structure rB(o:aM)(w:ae)(bb:Nat)(rs:List aL)(NM:aL->List ah)(blk:Value->Value->Value->Obj)(o':aM)(w':ae):Prop where
 ay:bE ar L0 o' w'
 own:o'=grow o w w'
 size:w.heap.size<=w'.heap.size
 old:∀b,b<w.heap.size->b≠bb->w'.heap[b]?=w.heap[b]?
 lay:∃b5 St Or cw sv y0 y1 y2,b5.Perm rs/\(∀i j (hi:i<b5.length) (hj:j<b5.length),i<j->¬qx b5[j] b5[i]<0)/\uS w.heap.size NM b5 St Or cw sv (.agg #[y0,y1,y2]) w'/\w'.heap[bb]?=some (blk y0 y1 y2)
theorem Rh(hF:bE ar L0 o w)(bb bx Ru c:Nat)(p:Option Addr)(rs:List aL)(NM:aL->List ah)(NB:aL->Nat)(hR:kQ o w p Ru c rs NM NB)(tt:o bb)(HQ:o bx)(cV:bx≠bb)(Uk:Ru≠bb)(hNn:∀r∈rs,NM r≠[]->NB r≠bb)(c3 c4 c5 c6 c7:Value)(hb:w.heap[bb]?=some (Ji (.slice p rs.length c) (.int .u32 0) (.int .i32 0) c3 c4 c5 c6 c7))(hx:w.cell? ⟨bx,0,none⟩=some (.pointer (some ⟨bb,0,none⟩))):
  bp ar (XB ar Fin 0) 143 #[.pointer (some ⟨bb,1,none⟩),.func (.func 111) #[] #[.pointer (some ⟨bx,0,none⟩)]] o w fun v o' w'=>v=.tuple #[]/\rB o w bb rs NM (fun y0 y1 y2=>Ji (.slice p rs.length c) (.int .u32 1) (.int .i32 0) c3 y0 y1 y2 c7) o' w':=by
 have W:=bJ (P:=ar) (Fin:=Fin) (d:=0);refine lO W func143 ai ?_;walk_nrmf Tryz.f143;obtain⟨-,d1,d2,-,-,-,-,-,fz⟩:=mP hb;refine aA ?_;refine aF W rfl ai rfl func45 af rfl aC rfl ((yf bb 2 tt d2 (fz 2)).mono ?_);rintro v1 o1 w1 ⟨rfl,rfl,rfl⟩;refine aA ?_;refine kH W (d:={target:=.fn (.func 46) #[],args:=#[.pointer (some ⟨bb,2,none⟩)]}) rfl ai (fun w1=>fa) (fun w1=>fa) rfl ?_;refine aA ?_;have Ag:=(Yj hb (.int .i32 1)).2;have mw:bE ar L0 o1 (w.setCell ⟨bb,2,none⟩ (.int .i32 1)):=Go.Conc.bE.setCell hF bN;have hO1:cN bb w (w.setCell ⟨bb,2,none⟩ (.int .i32 1)):=fW _ _ _ _;generalize w.setCell ⟨bb,2,none⟩ (.int .i32 1)=w1 at *;refine aF W rfl ai rfl func142 af rfl aC rfl ((vx bb 1 0 (mP Ag).2.1).mono ?_);rintro v2 o2 w2 ⟨rfl,rfl,rfl⟩;refine aA ?_;refine kH W (d:={target:=.fn (.func 183) #[],args:=#[.pointer (some ⟨bb,1,none⟩),.bool true]}) rfl ai (fun w1=>fa) (fun w1=>fa) rfl ?_;refine aA ?_;refine Kg W rfl ai rfl (cap:=#[.pointer (some ⟨bx,0,none⟩)]) aC func111 af rfl aC rfl ((Uw mw bb bx Ru c p rs NM NB (hR.lock hO1 Uk hNn) tt HQ (.int .u32 0) (.int .i32 1) c3 c4 c5 c6 c7 Ag ((cell_of (hO1.2 _ cV)).trans hx)).mono ?_);rintro v3 o3 w3 ⟨rfl,qu,y0,y1,y2,w4,⟨N,b5,St,Or,cw,sv,h1,h2,hL⟩,hO3,vE⟩;refine aA ?_;have hz:=N.size;have TT:=hO1.1;have hz3:=hO3.1;have Uf:=hF.lt tt;have afL:o3 bb:=by rw[N.own];exact .inl tt
 obtain⟨-,k1,k2,-,-,-,-,-,kf⟩:=mP vE;have hb4:=(Yj vE (.int .u32 1)).1;have hb5:=(Yj hb4 (.int .i32 0)).2;have hO5:cN bb w3 ((w3.setCell ⟨bb,1,none⟩ (.int .u32 1)).setCell ⟨bb,2,none⟩ (.int .i32 0)):=iB _ _ _ _ _ _;have SQ:bE ar L0 o3 ((w3.setCell ⟨bb,1,none⟩ (.int .u32 1)).setCell ⟨bb,2,none⟩ (.int .i32 0)):=Go.Conc.bE.setCell (Go.Conc.bE.setCell qu bN) bN;refine⟨.inl trivial,KP bb 1 0 k1 (kf 1) qu _ _ (uU bb 2 afL (mP hb4).2.2.1 ((mP hb4).2.2.2.2.2.2.2.2 2) _ _ (lF W func143 rfl (v:=.tuple #[]) (fun w1=>results_none af _ _) ⟨rfl,SQ,?_,?_,fun b mo hn=>?_,b5,St,Or,cw,sv,y0,y1,y2,h1,h2,?_,hb5⟩))⟩
 ·rw[N.own];unfold grow;rw[hO5.1,hz3,TT]
 ·rw[hO5.1];omega
 ·rw[hO5.2 b hn,hO3.2 b hn,N.old b aa,hO1.2 b hn]
 ·rw[TT] at hL;exact hL.keep (by rw[hO5.1];omega) fun b Ag pE=>by rw[hO5.2 b aa,hO3.2 b aa]
theorem afN(hF:bE ar L0 o w)(bb bx Ru c:Nat)(p:Option Addr)(rs:List aL)(NM:aL->List ah)(NB:aL->Nat)(hR:kQ o w p Ru c rs NM NB)(tt:o bb)(HQ:o bx)(cV:bx≠bb)(Uk:Ru≠bb)(hNn:∀r∈rs,NM r≠[]->NB r≠bb)(c3 c4 c5 c6 c7:Value)(hb:w.heap[bb]?=some (Ji (.slice p rs.length c) (.int .u32 0) (.int .i32 0) c3 c4 c5 c6 c7))(hx:w.cell? ⟨bx,0,none⟩=some (.pointer (some ⟨bb,0,none⟩))):
  bp ar (XB ar Fin 0) 110 #[.pointer (some ⟨bb,1,none⟩),.func (.func 111) #[] #[.pointer (some ⟨bx,0,none⟩)]] o w fun v o' w'=>v=.tuple #[]/\rB o w bb rs NM (fun y0 y1 y2=>Ji (.slice p rs.length c) (.int .u32 1) (.int .i32 0) c3 y0 y1 y2 c7) o' w':=by
 have W:=bJ (P:=ar) (Fin:=Fin) (d:=0);refine bA W func110 ai ?_;walk_nrmf Tryz.f110;refine aA ?_;refine aF W rfl ai rfl func142 af rfl aC rfl ((vx bb 1 0 (mP hb).2.1).mono ?_);rintro v2 o2 w2 ⟨rfl,rfl,rfl⟩;refine aA ?_;refine aF W rfl ai rfl func143 af rfl aC rfl ((Rh hF bb bx Ru c p rs NM NB hR tt HQ cV Uk hNn c3 c4 c5 c6 c7 hb hx).mono ?_);rintro v3 o3 w3 ⟨rfl,hP⟩;refine aA ?_;exact⟨.inl trivial,trivial,.tuple #[],fun w1=>results_none af _ _,rfl,hP⟩
theorem Ux(bb:Nat)(f c0 c2 c3 c4 c5 c6 c7:Value)(hb:w.heap[bb]?=some (Ji c0 (.int .u32 1) c2 c3 c4 c5 c6 c7)):
  bp ar (XB ar Fin 0) 110 #[.pointer (some ⟨bb,1,none⟩),f] o w fun v o' w'=>v=.tuple #[]/\o'=o/\w'=w:=by
 have W:=bJ (P:=ar) (Fin:=Fin) (d:=0);refine bA W func110 ai ?_;walk_nrmf Tryz.f110;refine aA ?_;refine aF W rfl ai rfl func142 af rfl aC rfl ((vx bb 1 1 (mP hb).2.1).mono ?_);rintro v2 o2 w2 ⟨rfl,rfl,rfl⟩;refine aA ?_;exact⟨.inl trivial,trivial,.tuple #[],fun w1=>results_none af _ _,an⟩
theorem uS.low{lo Ra:Nat}{NM:aL->List ah}{b5:List aL}{St Or:Nat}{cw:Nat->Nat}{sv v:Value}{w:ae}(h:uS lo NM b5 St Or cw sv v w)(hl:Ra<=lo):uS Ra NM b5 St Or cw sv v w where
 val:=h.val
 steps:=h.steps
 ord:=h.ord
 src:=kJ h.src hl (ag _) fun _ _ _=>rfl
 st:=⟨by have:=h.st.1;omega,h.st.2⟩
 or:=⟨by have:=h.or.1;omega,h.or.2⟩
 ib s hs:=by have:=h.ib s hs;omega
theorem rB.after{w1:ae}{bb:Nat}{rs:List aL}{NM:aL->List ah}{blk:Value->Value->Value->Obj}{o':aM}{w':ae}(h:rB (grow o w w1) w1 bb rs NM blk o' w')(hz:w.heap.size<=w1.heap.size)(hold:∀b,b<w.heap.size->w1.heap[b]?=w.heap[b]?):rB o w bb rs NM blk o' w' where
 ay:=h.ay
 own:=by rw[h.own];exact grow_grow hz rfl h.size
 size:=by have:=h.size;omega
 old b hb hn:=(h.old b aa hn).trans (hold b hb)
 lay:=by
  obtain⟨b5,St,Or,cw,sv,y0,y1,y2,h1,h2,h3,h4⟩:=h.lay;exact⟨b5,St,Or,cw,sv,y0,y1,y2,h1,h2,h3.low hz,h4⟩
theorem KR(hF:bE ar L0 o w)(bb Ru c:Nat)(p:Option Addr)(rs:List aL)(NM:aL->List ah)(NB:aL->Nat)(hR:kQ o w p Ru c rs NM NB)(tt:o bb)(Uk:Ru≠bb)(hNn:∀r∈rs,NM r≠[]->NB r≠bb)(c3 c4 c5 c6 c7:Value)(hb:w.heap[bb]?=some (Ji (.slice p rs.length c) (.int .u32 0) (.int .i32 0) c3 c4 c5 c6 c7)):
  bp ar (XB ar Fin 0) 73 #[.pointer (some ⟨bb,0,none⟩)] o w fun v o' w'=>v=.pointer (some ⟨bb,4,none⟩)/\rB o w bb rs NM (fun y0 y1 y2=>Ji (.slice p rs.length c) (.int .u32 1) (.int .i32 0) c3 y0 y1 y2 c7) o' w':=by
 have W:=bJ (P:=ar) (Fin:=Fin) (d:=0);refine bA W func73 ai ?_;walk_nrmf Tryz.f73;refine aA ?_;refine cq aX hF rfl ai ai ?_ rfl (R:=fun wl v aI=>v=.pointer (some ⟨wl.heap.size,0,none⟩)/\aI=wl.alloc (Obj.cells #[.pointer (some ⟨bb,0,none⟩)] 208)) (fun wl aE=>⟨_,_,fa,rfl,rfl⟩) fun wl v1 aI w1 aE Jh ba=>?_
 ·exact cj (aH tt)
 obtain⟨rfl,Jh⟩:=Jh;obtain⟨z1,k1,qK⟩:=ba.alloc hF aE Jh;have mw:=ba.ay;rw[aE.size];clear Jh ba aE wl aI;have gv:=hF.lt tt;have ui:grow o w w1 w.heap.size:=.inr ⟨ag _,aa⟩;refine aA ?_;have HQ:=(BP qK).1;refine aP aX mw rfl ai ai ?_ rfl (v:=.pointer (some ⟨bb,0,none⟩)) (gG ui HQ) fun _=>?_
 ·exact cj (aH ui)
 refine aA ?_;have Yi:kQ (grow o w w1) w1 p Ru c rs NM NB:=hR.keep iK (k1 _ (hF.lt hR.own)) fun r hr hn=>k1 _ (hF.lt ((hR.nm r hr).2.1 hn).2);refine aF W rfl ai rfl func110 af rfl aC rfl ((afN mw bb w.heap.size Ru c p rs NM NB Yi (.inl tt) ui aa Uk hNn c3 c4 c5 c6 c7 ((k1 _ gv).trans hb) HQ).mono ?_);rintro v2 o2 w2 ⟨rfl,hP⟩;refine aA ?_;have Zp:o2 w.heap.size:=by rw[hP.own];exact .inl ui
 have afO:=(cell_of (a:=⟨w.heap.size,0,none⟩) (hP.old w.heap.size aa aa)).trans HQ;refine aP aX hP.ay rfl ai ai ?_ rfl (v:=.pointer (some ⟨bb,0,none⟩)) (gG Zp afO) fun _=>?_
 ·exact cj (aH Zp)
 refine aA ?_;exact⟨.inr trivial,trivial,_,resultsC_tmp (t:=2) ai _,aC,hP.after aa k1⟩
theorem BT(hF:bE ar L0 o w)(bb:Nat)(tt:o bb)(c0 c2 c3 c4 c5 c6 c7:Value)(hb:w.heap[bb]?=some (Ji c0 (.int .u32 1) c2 c3 c4 c5 c6 c7)):
  bp ar (XB ar Fin 0) 73 #[.pointer (some ⟨bb,0,none⟩)] o w fun v o' w'=>v=.pointer (some ⟨bb,4,none⟩)/\fw o w v o' w':=by
 have W:=bJ (P:=ar) (Fin:=Fin) (d:=0);refine bA W func73 ai ?_;walk_nrmf Tryz.f73;refine aA ?_;refine cq aX hF rfl ai ai ?_ rfl (R:=fun wl v aI=>v=.pointer (some ⟨wl.heap.size,0,none⟩)/\aI=wl.alloc (Obj.cells #[.pointer (some ⟨bb,0,none⟩)] 208)) (fun wl aE=>⟨_,_,fa,rfl,rfl⟩) fun wl v1 aI w1 aE Jh ba=>?_
 ·exact cj (aH tt)
 obtain⟨rfl,Jh⟩:=Jh;obtain⟨z1,k1,qK⟩:=ba.alloc hF aE Jh;have mw:=ba.ay;rw[aE.size];clear Jh ba aE wl aI;have gv:=hF.lt tt;have ui:grow o w w1 w.heap.size:=.inr ⟨ag _,aa⟩;refine aA ?_;have HQ:=(BP qK).1;refine aP aX mw rfl ai ai ?_ rfl (v:=.pointer (some ⟨bb,0,none⟩)) (gG ui HQ) fun _=>?_
 ·exact cj (aH ui)
 refine aA ?_;refine aF W rfl ai rfl func110 af rfl aC rfl ((Ux bb (.func (.func 111) #[] #[.pointer (some ⟨w.heap.size,0,none⟩)]) c0 c2 c3 c4 c5 c6 c7 ((k1 _ gv).trans hb)).mono ?_);rintro v2 o2 w2 ⟨rfl,rfl,rfl⟩;refine aA ?_;refine aP aX mw rfl ai ai ?_ rfl (v:=.pointer (some ⟨bb,0,none⟩)) (gG ui HQ) fun _=>?_
 ·exact cj (aH ui)
 refine aA ?_;exact⟨.inr trivial,trivial,_,resultsC_tmp (t:=2) ai _,aC,rfl,mw,aa,k1,by simp[Act.eval];exact aH (.inl tt)⟩
theorem Og:(ar.info? 4).map (fun i=>(i.zero,i.size,i.bytes))=some (some (.bool false),1,1):=af
theorem Oh:(ar.info? 207).map (fun i=>(i.zero,i.size,i.bytes))=some (some (.chan none),1,8):=af
theorem Oi:(ar.info? 100).map (fun i=>i.bytes)=some 0:=af
theorem BU(w:ae)(n:Nat)(hn:n<=100000):(Instr.makeSlice 182 (.int .i64 (n:Int)) (.int .i64 (n:Int))).run ar w=.ok (.slice (some ⟨w.heap.size,0,none⟩) n n) (w.alloc (.cells (madeCells #[.bool false] n) 4)):=by
 obtain⟨i,hi,hz⟩:=Option.map_eq_some_iff.1 Og;simp only[Prod.mk.injEq] at hz;obtain⟨hz,hs,hb⟩:=hz;have:=run_make (P:=ar) w 182 4 i _ underlying182 hi hz .i64 .i64 n n aa (fh _) (by rw[hb];omega) aa;rw[this,hs];simp[Value.cells]
theorem BV(w:ae)(n:Nat)(hn:n<=100000):(Instr.makeSlice 204 (.int .i64 (n:Int)) (.int .i64 (n:Int))).run ar w=.ok (.slice (some ⟨w.heap.size,0,none⟩) n n) (w.alloc (.cells (madeCells #[.chan none] n) 207)):=by
 obtain⟨i,hi,hz⟩:=Option.map_eq_some_iff.1 Oh;simp only[Prod.mk.injEq] at hz;obtain⟨hz,hs,hb⟩:=hz;have:=run_make (P:=ar) w 204 207 i _ underlying204 hi hz .i64 .i64 n n aa (fh _) (by rw[hb];omega) aa;rw[this,hs];simp[Value.cells]
theorem Db(w:ae):(Instr.makeChan 207 (.int .i64 0)).run ar w=.ok (.chan (some w.heap.size)) (w.alloc (.chan 0 #[] false 0 0 false)):=by
 obtain⟨i,hi,hb⟩:=Option.map_eq_some_iff.1 Oi;exact run_makeChan underlying207 hi .i64 0 aa (by rw[hb];omega)
structure jo(o:aM)(w:ae)(v0 v1 v2:Value)(n:Nat)(bn Nb Mb:Nat)(ch:Nat->Nat)(k:Nat)(o':aM)(w':ae):Prop where
 own:o'=grow o w w'
 ay:bE ar L0 o' w'
 size:w.heap.size<=w'.heap.size
 old:∀b,b<w.heap.size->w'.heap[b]?=w.heap[b]?
 bn:w.heap.size<=bn/\bn<w'.heap.size/\w'.heap[bn]?=some (.cells #[v0,v1,v2,.slice (some ⟨Nb,0,none⟩) n n,.slice (some ⟨Mb,0,none⟩) n n] 206)
 nb:w.heap.size<=Nb/\Nb<w'.heap.size/\w'.heap[Nb]?=some (.cells (madeCells #[.bool false] n) 4)
 mb:w.heap.size<=Mb/\Mb<w'.heap.size/\w'.rowIs Mb 207 n (fun j=>if j<k then .chan (some (ch j)) else .chan none)
 nZ:∀s,s<k->w.heap.size<=ch s/\ch s<w'.heap.size/\w'.heap[ch s]?=some (.chan 0 #[] false 0 0 false)
 inj:∀s t,s<k->t<k->ch s=ch t->s=t
theorem jo.more{v0 v1 v2:Value}{n bn Nb Mb k:Nat}{ch:Nat->Nat}{o':aM}{w' w2:ae}(h:jo o w v0 v1 v2 n bn Nb Mb ch k o' w')(hF:bE ar L0 (grow o' w' w2) w2)(hz:w'.heap.size<=w2.heap.size)(hold:∀b,b<w'.heap.size->w2.heap[b]?=w'.heap[b]?):jo o w v0 v1 v2 n bn Nb Mb ch k (grow o' w' w2) w2 where
 own:=by rw[h.own];exact grow_grow h.size rfl hz
 ay:=hF
 size:=by have:=h.size;omega
 old b hb:=(hold b (by have:=h.size;omega)).trans (h.old b hb)
 bn:=⟨h.bn.1,by have:=h.bn.2.1;omega,(hold _ h.bn.2.1).trans h.bn.2.2⟩
 nb:=⟨h.nb.1,by have:=h.nb.2.1;omega,(hold _ h.nb.2.1).trans h.nb.2.2⟩
 mb:=⟨h.mb.1,by have:=h.mb.2.1;omega,World.rowIs.of_block h.mb.2.2 (hold _ h.mb.2.1)⟩
 nZ s hs:=⟨(h.nZ s hs).1,by have:=(h.nZ s hs).2.1;omega,(hold _ (h.nZ s hs).2.1).trans (h.nZ s hs).2.2⟩
 inj:=h.inj
theorem jo.put{v0 v1 v2:Value}{n bn Nb Mb k c:Nat}{ch:Nat->Nat}{o':aM}{w' w2:ae}(h:jo o w v0 v1 v2 n bn Nb Mb ch k o' w')(hF:bE ar L0 o' w2)(on:cN Mb w' w2)(hM:w2.heap[Mb]?=(w'.setCell ⟨Mb,k,none⟩ (.chan (some c))).heap[Mb]?)(hc:w.heap.size<=c/\c<w'.heap.size/\w'.heap[c]?=some (.chan 0 #[] false 0 0 false))(sd:∀s,s<k->ch s≠c):jo o w v0 v1 v2 n bn Nb Mb (fun s=>if s=k then c else ch s) (k+1) o' w2:=by
 have hMb:=h.mb.2.2;obtain⟨cs,Ps,-,-⟩:=hMb;have nM:∀b x,w'.heap[b]?=some x->(∀c t z,x=.cells c t z->t≠207)->b≠Mb:=fun b x hx ht e=>by
  subst e;rw[Ps] at hx;exact ht _ _ _ (aK hx).symm rfl
 refine⟨?_,hF,by have:=h.size;rw[on.1];exact this,fun b hb=>(on.2 b (by have:=h.mb.1;omega)).trans (h.old b hb),⟨h.bn.1,by rw[on.1];exact h.bn.2.1,?_⟩,⟨h.nb.1,by rw[on.1];exact h.nb.2.1,?_⟩,⟨h.mb.1,by rw[on.1];exact h.mb.2.1,?_⟩,fun s hs=>?_,fun s t hs ht e=>?_⟩
 ·rw[h.own];unfold grow;rw[on.1]
 ·rw[on.2 _ (nM _ _ h.bn.2.2 fun c t z e=>by cases e;decide)];exact h.bn.2.2
 ·rw[on.2 _ (nM _ _ h.nb.2.2 fun c t z e=>by cases e;decide)];exact h.nb.2.2
 ·refine World.rowIs.of_block ((h.mb.2.2.set k (.chan (some c))).congr fun j hj=>?_) hM;by_cases e:j=k
  ·subst e;simp
  ·by_cases e':j<k
   ·rw[if_neg e,if_pos e',if_pos aa,if_neg e]
   ·rw[if_neg e,if_neg e',if_neg aa]
 ·by_cases e:s=k
  ·subst e;simp only[if_true];exact⟨hc.1,by rw[on.1];exact hc.2.1,by rw[on.2 _ (nM _ _ hc.2.2 fun c t z e=>by cases e)];exact hc.2.2⟩
  ·simp only[if_neg e];have q:=h.nZ s aa;exact⟨q.1,by rw[on.1];exact q.2.1,by rw[on.2 _ (nM _ _ q.2.2 fun c t z e=>by cases e)];exact q.2.2⟩
 ·by_cases e1:s=k
  ·by_cases e2:t=k
   ·omega
   ·rw[if_pos e1,if_neg e2] at e;exact absurd e.symm (sd t aa)
  ·by_cases e2:t=k
   ·rw[if_neg e1,if_pos e2] at e;exact absurd e (sd s aa)
   ·rw[if_neg e1,if_neg e2] at e;exact h.inj s t aa aa e
structure afQ(o:aM)(w:ae)(v0 v1 v2:Value)(n bn Nb Mb k:Nat)(a:Act)(o':aM)(w':ae):Prop where
 size:a.tmps.size=37
 df:a.defers=[]
 t7:a.eval (.tmp 7)=.pointer (some ⟨bn,0,none⟩)
 t24:a.eval (.tmp 24)=.int .i64 n
 t25:a.eval (.tmp 25)=.int .i64 k
 new:∃ch,jo o w v0 v1 v2 n bn Nb Mb ch k o' w'
theorem ym{w:ae}{b:Nat}{t:TypeId}{c0 c1 c2 c3 c4:Value}(h:w.heap[b]?=some (.cells #[c0,c1,c2,c3,c4] t)):w.cell? ⟨b,0,none⟩=some c0/\w.cell? ⟨b,1,none⟩=some c1/\w.cell? ⟨b,2,none⟩=some c2/\w.cell? ⟨b,3,none⟩=some c3/\w.cell? ⟨b,4,none⟩=some c4/\∀k,w.frozen? ⟨b,k,none⟩=false:=by
 simp[World.cell?,World.frozen?,h]
theorem KS(hF:bE ar L0 o w)(Lb Lo Vb nv Rb n:Nat)(hn:n<=1000)(hLb:o Lb)(V8:o Vb)(Jg:o Rb):
  bp ar (XB ar Fin 0) 72 #[.pointer (some ⟨Lb,Lo,none⟩),.slice (some ⟨Vb,0,none⟩) nv nv,.slice (some ⟨Rb,0,none⟩) n n] o w fun v o' w'=>∃bn Nb Mb ch,v=.pointer (some ⟨bn,0,none⟩)/\jo o w (.pointer (some ⟨Lb,Lo,none⟩)) (.slice (some ⟨Vb,0,none⟩) nv nv) (.slice (some ⟨Rb,0,none⟩) n n) n bn Nb Mb ch n o' w':=by
 have W:=bJ (P:=ar) (Fin:=Fin) (d:=0);refine bA W func72 ai ?_;walk_nrmf Tryz.f72;refine aA ?_;refine dq mixed af [some none,some none,some none,some none,some none,none,some none,some none,none,some none,none,some none]
  (S:=fun σ o' w'=>(o'=grow o w w'/\bE ar L0 o' w'/\w.heap.size<=w'.heap.size/\(∀b,b<w.heap.size->w'.heap[b]?=w.heap[b]?)) /\
   (∀y,σ 5=some y->∃Nb,y=.slice (some ⟨Nb,0,none⟩) n n/\w.heap.size<=Nb/\Nb<w'.heap.size/\w'.heap[Nb]?=some (.cells (madeCells #[.bool false] n) 4)) /\
   (∀y,σ 8=some y->∃Mb,y=.slice (some ⟨Mb,0,none⟩) n n/\w.heap.size<=Mb/\Mb<w'.heap.size/\w'.heap[Mb]?=some (.cells (madeCells #[.chan none] n) 207)) /\
   (∀y,σ 10=some y->∃bn y5 y8,σ 5=some y5/\σ 8=some y8/\y=.pointer (some ⟨bn,0,none⟩)/\w.heap.size<=bn/\bn<w'.heap.size/\w'.heap[bn]?=some (.cells #[.pointer (some ⟨Lb,Lo,none⟩),.slice (some ⟨Vb,0,none⟩) nv nv,.slice (some ⟨Rb,0,none⟩) n n,y5,y8] 206))) ?_ fun v=>?_
 ·exact⟨⟨(bS _ _).symm,hF,ag _,fun _ _=>rfl⟩,fun y hy=>(by cases hy),fun y hy=>(by cases hy),fun y hy=>(by cases hy)⟩
 refine dp ?_;refine bO ?_;refine mJ aX rfl rfl rfl ai ai (fun σ o' w' H hj hS=>?_) ?_
 ·obtain⟨⟨e1,e2,e3,e4⟩,s5,s8,KT⟩:=hS;refine⟨e2,fun y hy=>?_,fun wl v aI=>v=.slice (some ⟨wl.heap.size,0,none⟩) n n/\aI=wl.alloc (.cells (madeCells #[.bool false] n) 4),fun wl aE=>⟨_,_,by simp[go_sem,BU wl n aa],rfl,rfl⟩,fun wl y aI w2 aE hR ba=>?_⟩
  ·simp[Op.operands] at hy;subst hy;simp[Act.eval];exact bN
  ·obtain⟨rfl,hR⟩:=hR;obtain⟨z1,k1,qK⟩:=ba.alloc e2 aE hR;have oq:σ 10=none:=by
    cases h:σ 10 with
    |none=>rfl
    |some y=>obtain⟨_,y5,y8,q5,q8,_⟩:=KT y h;rw[hj] at q5;cases q5
   rw[aE.size];refine⟨⟨by rw[e1];exact grow_grow e3 rfl aa,ba.ay,aa,fun b hb=>(k1 b aa).trans (e4 b hb)⟩,fun y hy=>?_,fun y hy=>?_,fun y hy=>?_⟩
   ·simp only[dB,if_true,Option.some.injEq] at hy;exact⟨w'.heap.size,hy.symm,e3,aa,qK⟩
   ·simp only[dB,show ¬(8=5) by omega,if_false] at hy;obtain⟨b,q1,q2,q3,q4⟩:=s8 y hy;exact⟨b,q1,q2,aa,(k1 b q3).trans q4⟩
   ·simp[dB,oq] at hy
 refine bO ?_;refine mJ aX rfl rfl rfl ai ai (fun σ o' w' H hj hS=>?_) ?_
 ·obtain⟨⟨e1,e2,e3,e4⟩,s5,s8,KT⟩:=hS;refine⟨e2,fun y hy=>?_,fun wl v aI=>v=.slice (some ⟨wl.heap.size,0,none⟩) n n/\aI=wl.alloc (.cells (madeCells #[.chan none] n) 207),fun wl aE=>⟨_,_,by simp[go_sem,BV wl n aa],rfl,rfl⟩,fun wl y aI w2 aE hR ba=>?_⟩
  ·simp[Op.operands] at hy;subst hy;simp[Act.eval];exact bN
  ·obtain⟨rfl,hR⟩:=hR;obtain⟨z1,k1,qK⟩:=ba.alloc e2 aE hR;have oq:σ 10=none:=by
    cases h:σ 10 with
    |none=>rfl
    |some y=>obtain⟨_,y5,y8,q5,q8,_⟩:=KT y h;rw[hj] at q8;cases q8
   rw[aE.size];refine⟨⟨by rw[e1];exact grow_grow e3 rfl aa,ba.ay,aa,fun b hb=>(k1 b aa).trans (e4 b hb)⟩,fun y hy=>?_,fun y hy=>?_,fun y hy=>?_⟩
   ·simp only[dB,show ¬(5=8) by omega,if_false] at hy;obtain⟨b,q1,q2,q3,q4⟩:=s5 y hy;exact⟨b,q1,q2,aa,(k1 b q3).trans q4⟩
   ·simp only[dB,if_true,Option.some.injEq] at hy;exact⟨w'.heap.size,hy.symm,e3,aa,qK⟩
   ·simp[dB,oq] at hy
 walk_nrm;refine wM ((∃x,v 5=.slice x n n)/\∃x,v 8=.slice x n n) (.agg #[.pointer (some ⟨Lb,Lo,none⟩),.slice (some ⟨Vb,0,none⟩) nv nv,.slice (some ⟨Rb,0,none⟩) n n,v 5,v 8]) rfl rfl rfl ai (fun σ o' w' H hS=>?_) (fun hv w1=>?_) (fun hv w1=>?_) fun y9 hy9=>?_
 ·obtain⟨Nb,q1,-⟩:=hS.2.1 _ (H.done 5 af rfl);obtain⟨Mb,q2,-⟩:=hS.2.2.1 _ (H.done 8 af rfl);exact⟨⟨_,q1⟩,_,q2⟩
 ·obtain⟨⟨x,hx⟩,y,hy⟩:=hv;simp[go_sem,Act.eval,hx,hy]
 ·obtain⟨⟨x,hx⟩,y,hy⟩:=hv;simp[go_sem,Act.eval,hx,hy]
 walk_nrm;refine mJ aX rfl rfl rfl ai ai (fun σ o' w' H hj hS=>?_) ?_
 ·have d5:=H.sV [9] 5 af rfl;have d8:=H.sV [9] 8 af rfl;obtain⟨⟨e1,e2,e3,e4⟩,s5,s8,KT⟩:=hS;obtain⟨Nb,q1,q2,q3,q4⟩:=s5 _ d5;obtain⟨Mb,r1,r2,r3,r4⟩:=s8 _ d8;have hy:=hy9 ⟨⟨_,q1⟩,_,r1⟩;have up:∀b,o b->o' b:=fun b hb=>by rw[e1];exact .inl hb
  have Ri:o' Nb:=by rw[e1];exact .inr ⟨q2,q3⟩
  have hMb:o' Mb:=by rw[e1];exact .inr ⟨r2,r3⟩
  refine⟨e2,fun y Fo=>?_,fun wl y aI=>y=.pointer (some ⟨wl.heap.size,0,none⟩)/\aI=wl.alloc (.cells #[.pointer (some ⟨Lb,Lo,none⟩),.slice (some ⟨Vb,0,none⟩) nv nv,.slice (some ⟨Rb,0,none⟩) n n,v 5,v 8] 206),fun wl aE=>⟨_,_,by rw[q1,r1] at hy;simp[go_sem,hy,q1,r1],rfl,rfl⟩,fun wl y aI w2 aE hR ba=>?_⟩
  ·simp[Op.operands] at Fo;subst Fo;simp[Act.eval];rw[hy,q1,r1];exact cJ (vs:=[_,_,_,_,_]) (fun x hx=>by
    simp at hx;rcases hx with rfl|rfl|rfl|rfl|rfl
    ·exact aH (up _ hLb)
    ·exact di (up _ V8)
    ·exact di (up _ Jg)
    ·exact di Ri
    ·exact di hMb)
  ·obtain⟨rfl,hR⟩:=hR;obtain⟨z1,k1,qK⟩:=ba.alloc e2 aE hR;rw[aE.size];refine⟨⟨by rw[e1];exact grow_grow e3 rfl aa,ba.ay,aa,fun b hb=>(k1 b aa).trans (e4 b hb)⟩,fun y hy=>?_,fun y hy=>?_,fun y hy=>?_⟩
   ·simp only[dB,show ¬(5=10) by omega,if_false] at hy;obtain⟨b,q1,q2,q3,q4⟩:=s5 y hy;exact⟨b,q1,q2,aa,(k1 b q3).trans q4⟩
   ·simp only[dB,show ¬(8=10) by omega,if_false] at hy;obtain⟨b,q1,q2,q3,q4⟩:=s8 y hy;exact⟨b,q1,q2,aa,(k1 b q3).trans q4⟩
   ·simp only[dB,if_true,Option.some.injEq] at hy;exact⟨w'.heap.size,v 5,v 8,by simpa[dB] using d5,by simpa[dB] using d8,hy.symm,e3,aa,qK⟩
 refine bO ?_;refine cd fun σ o1 w1 kP hS=>?_;obtain⟨⟨e1,e2,e3,e4⟩,s5,s8,KT⟩:=hS;obtain⟨bn,y5,y8,t5,t8,hbn,b1,b2,b3⟩:=KT _ (kP 10 dh rfl);obtain⟨Nb,rfl,n1,n2,n3⟩:=s5 _ t5;obtain⟨Mb,rfl,m1,m2,m3⟩:=s8 _ t8;rw[hbn];have hB:jo o w (.pointer (some ⟨Lb,Lo,none⟩)) (.slice (some ⟨Vb,0,none⟩) nv nv) (.slice (some ⟨Rb,0,none⟩) n n) n bn Nb Mb (fun _=>0) 0 o1 w1 :=
  ⟨e1,e2,e3,e4,⟨b1,b2,b3⟩,⟨n1,n2,n3⟩,⟨m1,m2,⟨_,m3,by simp[size_madeCells],fun j hj=>by simp[madeCells,hj,Nat.mod_one]⟩⟩,fun s hs=>aa,fun s t hs=>aa⟩
 clear s5 s8 KT t5 t8 kP hbn e1 e2 e3 e4 b1 b2 b3 n1 n2 n3 m1 m2 m3;have Uy:o1 bn:=by rw[hB.own];exact .inr ⟨hB.bn.1,hB.bn.2.1⟩
 simp only[gN,cZ,if_true,if_false,reduceIte,Nat.reduceEqDiff];refine aA ?_;obtain⟨-,-,-,-,c4,-⟩:=ym hB.bn.2.2;refine aP aX hB.ay rfl ai ai ?_ rfl (v:=.slice (some ⟨Mb,0,none⟩) n n) (gG Uy c4) fun _=>?_
 ·exact cj (aH Uy)
 refine aA ?_;refine nu W (fun m a o' w'=>∃k,m+k=n/\afQ o w (.pointer (some ⟨Lb,Lo,none⟩)) (.slice (some ⟨Vb,0,none⟩) nv nv) (.slice (some ⟨Rb,0,none⟩) n n) n bn Nb Mb k a o' w') (N:=n) ⟨0,an,rfl,rfl,aC,aC,aC,_,hB⟩ ?_;clear hB c4 Uy hy9;rintro m a o1 w1 ⟨k,LV,ft,pF,i7,i24,i25,ch,hB⟩;obtain⟨tm,df⟩:=a;simp only at ft pF;subst pF;obtain⟨gs,rfl⟩:=fA ft;clear ft;simp only[List.range,List.range.loop,List.map_cons,List.map_nil] at i7 i24 i25 |-;simp[Act.eval] at i7 i24 i25;simp only[i7,i24,i25];clear i7 i24 i25;rcases aZ m with hm|hm
 ·have hk:k=n:=aa;subst hk;refine aA ?_;exact⟨.inr trivial,trivial,_,resultsC_tmp (t:=6) ai _,bn,Nb,Mb,ch,aC,hB⟩
 ·have hk:k<n:=aa;have Yf:(k:Int)<(n:Int):=aa;have Uy:o1 bn:=by rw[hB.own];exact .inr ⟨hB.bn.1,hB.bn.2.1⟩
  have ami:o1 Mb:=by rw[hB.own];exact .inr ⟨hB.mb.1,hB.mb.2.1⟩
  obtain⟨-,-,-,-,c4,-⟩:=ym hB.bn.2.2;refine aA ?_;generalize ME:(Value.pointer (some ⟨Lb,Lo,none⟩))=v0 at *;generalize Gd:(Value.slice (some ⟨Vb,0,none⟩) nv nv)=v1 at *;generalize I2:(Value.slice (some ⟨Rb,0,none⟩) n n)=v2 at *;refine dq mixed af [some none,some none,some none,some (some (.slice (some ⟨Mb,0,none⟩) n n)),some none,none,some none,none]
   (S:=fun σ o' w'=>(σ 7=none/\jo o w v0 v1 v2 n bn Nb Mb ch k o' w'/\∀y,σ 5=some y->∃c,y=.chan (some c)/\(w.heap.size<=c/\c<w'.heap.size/\w'.heap[c]?=some (.chan 0 #[] false 0 0 false))/\∀s,s<k->ch s≠c)\/(σ 7≠none/\∃ch',jo o w v0 v1 v2 n bn Nb Mb ch' (k+1) o' w')) ?_ fun v=>?_
  ·exact .inl ⟨rfl,hB,fun y hy=>by cases hy⟩
  refine dp ?_;refine bO ?_;refine bK aX rfl rfl rfl ai ai (fun σ o' w' H hS=>?_) ?_
  ·rcases hS with⟨h7,xA,-⟩|⟨h7,-⟩
   ·have kB:o' bn:=by rw[xA.own];exact .inr ⟨xA.bn.1,xA.bn.2.1⟩
    obtain⟨-,-,-,-,c4',-⟩:=ym xA.bn.2.2;refine⟨xA.ay,fun y hy=>?_,fun wl aE=>?_⟩
    ·simp[Op.operands] at hy;subst hy;simp[Act.eval];exact aH kB
    ·simp[go_sem,(aE.cell kB).trans c4']
   ·exact absurd (H.kF [6] 7 af) h7
  refine bO ?_;refine mJ aX rfl rfl rfl ai ai (fun σ o' w' H h5 hS=>?_) ?_
  ·rcases hS with⟨h7,xA,-⟩|⟨h7,-⟩
   ·refine⟨xA.ay,fun y hy=>?_,fun wl y aI=>y=.chan (some wl.heap.size)/\aI=wl.alloc (.chan 0 #[] false 0 0 false),fun wl aE=>⟨_,_,by simp[go_sem,Db],rfl,rfl⟩,fun wl y aI w2 aE hR ba=>?_⟩
    ·simp[Op.operands] at hy;subst hy;simp[Act.eval];exact bN
    ·obtain⟨rfl,hR⟩:=hR;obtain⟨z1,k1,qK⟩:=ba.alloc xA.ay aE hR;rw[aE.size];refine .inl ⟨by simpa[dB] using h7,xA.more ba.ay aa k1,fun y hy=>?_⟩;simp only[dB,if_true,Option.some.injEq] at hy;exact⟨w'.heap.size,hy.symm,⟨xA.size,aa,qK⟩,fun s hs e=>by have:=(xA.nZ s hs).2.1;omega⟩
   ·exact absurd (H.sg 7 af) h7
  refine bO ?_;refine jg aX rfl rfl rfl ai ai (fun σ o' w' H h7 hS=>?_) ?_
  ·rcases hS with⟨-,xA,h6⟩|⟨h7',-⟩
   ·obtain⟨c,hc,Vq,hc3⟩:=h6 _ (H.done 5 af rfl);have Zg:o' Mb:=by rw[xA.own];exact .inr ⟨xA.mb.1,xA.mb.2.1⟩
    have GG:o' c:=by rw[xA.own];exact .inr ⟨Vq.1,Vq.2.1⟩
    refine⟨xA.ay,fun y hy=>?_,fun wl aI=>aI=wl.setCell ⟨Mb,k,none⟩ (.chan (some c)),fun wl aE=>⟨_,?_,rfl⟩,fun wl aI w2 aE hR ba=>?_⟩
    ·simp[Op.operands] at hy;rcases hy with rfl|rfl
     ·simp[Act.eval];exact aH Zg
     ·simp[Act.eval,hc];exact fun f hf=>by simp[val,hf.at_ c GG,lR]
    ·have Yh:=World.rowIs.of_block xA.mb.2.2 (aE.heap _ Zg);have q0:=Yh.cell hk;have f:=Yh.frozen;simp[go_sem,hc,q0,f]
    ·have hO:cN Mb wl aI:=by rw[hR];exact fW _ _ _ _
     obtain⟨on,kb,eg⟩:=ba.only aE Zg hO;have rh:=ba.ay;rw[eg] at rh |-;refine .inr ⟨by simp[dB],_,xA.put rh on ?_ Vq hc3⟩;rw[kb,hR];simp only[World.setCell,Array.getElem?_modify,if_true,aE.heap _ Zg]
   ·exact absurd h7 h7'
  walk_nrm;refine cd fun σ o' w' kP hS=>?_;rcases hS with⟨h7,-⟩|⟨-,ch',xA⟩
  ·rw[kP 7 dh rfl] at h7;cases h7
  simp only[gN,cZ,if_true,if_false,reduceIte,Nat.reduceEqDiff];refine aA ?_;have CP:IntKind.i64.wrap ((k:Int)+1)=((k+1:Nat):Int):=by rw[IntKind.wrap_i64]<;>omega
  exact⟨m-1,aa,k+1,aa,rfl,rfl,rfl,rfl,by simp[Act.eval,CP],ch',xA⟩
end
section
open Go.RowKit
def nH(w:ae)(b:Nat)(ss:List (V×Int)):Prop:=∀i (h:i<ss.length),w.cell? ⟨b,i*3,none⟩=some (.bool ss[i].1.1)/\w.cell? ⟨b,i*3+1,none⟩=some (.string ss[i].1.2)/\w.cell? ⟨b,i*3+2,none⟩=some (.int .i64 ss[i].2)
theorem nH.below{w w':ae}{b:Nat}{ss:List (V×Int)}(h:nH w b ss)(hb:b<w.heap.size)(hw:Below w.heap.size w w'):nH w' b ss:=fun k hk=>by
 obtain⟨hc,-⟩:=uM hw;rw[hc _ _ hb,hc _ _ hb,hc _ _ hb];exact h k hk
theorem xd{w w':ae}{b:Nat}{ss:List (V×Int)}(h:nH w b ss)(e:w'.heap[b]?=w.heap[b]?):nH w' b ss:=fun i hi=>⟨(Go.Ren.cell_of e).trans (h i hi).1,(Go.Ren.cell_of e).trans (h i hi).2.1,(Go.Ren.cell_of e).trans (h i hi).2.2⟩
theorem Uz{w:ae}{B t n k:Nat}{vs:List V}(b6:w.rowIs B t (n*2) fun j=>if j<k*2 then fZ vs j else fZ [] j){b:Bool}{x:ah}(hl:vs.getD k V0=(b,x)):
  ((w.setCell ⟨B,k*2,none⟩ (.bool b)).setCell ⟨B,k*2+1,none⟩ (.string x)).rowIs B t (n*2) fun j=>if j<(k+1)*2 then fZ vs j else fZ [] j:=by
 refine((b6.set (k*2) _).set (k*2+1) _).congr fun j hj=>?_;by_cases e1:j=k*2+1
 ·subst e1;rw[if_pos rfl,if_pos aa];have h1:(k*2+1)%2=1:=aa;have h2:(k*2+1)/2=k:=aa;simp only[fZ,h1,h2,hl];rfl
 ·by_cases e2:j=k*2
  ·subst e2;rw[if_neg e1,if_pos rfl,if_pos aa];have h1:(k*2)%2=0:=aa;have h2:(k*2)/2=k:=aa;simp only[fZ,h1,h2,hl];rfl
  ·rw[if_neg e1,if_neg e2];by_cases e3:j<k*2
   ·rw[if_pos e3,if_pos aa]
   ·rw[if_neg e3,if_neg aa]
theorem BW(b c:Nat)(p:Option Addr)(ss:List (V×Int))(w:ae)(hn:ss.length<=100000)(hp:ss≠[]->p=some ⟨b,0,none⟩/\b<w.heap.size)(hv:nH w b ss):
  Calls ar 141 #[.slice p ss.length c] w fun e w'=>e=.returned (.slice (some ⟨w.heap.size,0,none⟩) ss.length ss.length)/\Below w.heap.size w w'/\w.heap.size<w'.heap.size/\eM w' w.heap.size (ss.map (·.1)):=by
 have LV:=fun w=>uP w ss.length hn;go_enter func141,ntmps141;go_wp2;go_loopw [11] (fun i w'=>∃k:Nat,k<=ss.length/\i=.int .i64 k/\Below w.heap.size w w'/\w.heap.size<w'.heap.size/\w'.rowIs w.heap.size 159 (ss.length*2) (fun j=>if j<k*2 then fZ (ss.map (·.1)) j else fZ [] j)) (fun i _=>ss.length-(intOf i).toNat)
 case atStart =>
  refine⟨0,aQ _,rfl,(Below.refl _ _).alloc (ag _) _,an,_,jR _ _,by simp[size_madeCells],fun j hj=>?_⟩;simp only[madeCells,Array.getElem?_map,Array.getElem?_range,hj,if_true,Option.map_some];rcases fL j with e|e<;>simp[e,fZ,V0]
 case round =>
  obtain⟨k,hk,rfl,gv,hz,b6⟩:=hrel;by_cases bZ:k<ss.length
  ·obtain⟨rfl,hb⟩:=hp (fun e=>by rw[e] at bZ;simp at bZ);obtain⟨c0,c1,c2⟩:=hv.below hb gv k bZ;have d0:wr.cell? ⟨w.heap.size,k*2,none⟩=some (.bool false):=by rw[b6.cell aa,if_neg aa];simp[fZ,V0]
   have d1:wr.cell? ⟨w.heap.size,k*2+1,none⟩=some (.string aN):=by rw[b6.cell aa,if_neg aa];simp[fZ,V0]
   have f0:=b6.frozen;have L9:(ss.map (·.1)).getD k V0=ss[k].1:=by simp[bZ]
   generalize ss[k]=x at *;obtain⟨⟨xb,xt⟩,xs⟩:=x;clear hv hp;go_wp2;refine⟨⟨k+1,aa,by go_num,((gv.setCell (ag _) _).setCell (ag _) _).alloc (by simp[World.setCell];omega) _,by simp[World.setCell];omega,?_⟩,by simp[intOf];omega⟩;exact(Uz b6 L9).alloc _
  ·go_wp2;go_ret;exact⟨rfl,gv,hz,by unfold eM;rw[bG];exact b6.congr fun i hi=>by rw[if_pos aa]⟩
section
variable {Fin:bH} {o:aM} {w:ae}
theorem Fq(hF:bE ar L0 o w)(b c:Nat)(p:Option Addr)(ss:List (Kz.V×Int))(hn:ss.length<=100000)(hp:ss≠[]->p=some ⟨b,0,none⟩/\o b)(hv:nH w b ss)(hc:Cl ar L0 o (.slice p ss.length c)):
  bp ar (XB ar Fin 0) 141 #[.slice p ss.length c] o w fun v o' w'=>fw o w v o' w'/\v=.slice (some ⟨w.heap.size,0,none⟩) ss.length ss.length/\w.heap.size<w'.heap.size/\eM w' w.heap.size (ss.map (·.1)):=by
 refine bp.mono (dS af hF (fun x hx=>by simp at hx;subst hx;exact hc) (Q:=fun wl v w'=>v=.slice (some ⟨wl.heap.size,0,none⟩) ss.length ss.length/\wl.heap.size<w'.heap.size/\eM w' wl.heap.size (ss.map (·.1))) (fun wl Ai v w1 w2 e1 e2 h=>?_) (fun wl hz aE=>?_)) (fun v o' w' hq=>?_)
 ·rw[e1,e2];exact⟨h.1,h.2.1,World.rowIs.of_block h.2.2 (by rw[e2])⟩
 ·refine(BW b c p ss wl hn (fun h=>⟨(hp h).1,by rw[hz];exact hF.lt (hp h).2⟩) (fun i hi=>?_)).mono fun e w' hq=>?_
  ·exact xd hv (aE b (hp (fun e=>by rw[e] at hi;simp at hi)).2) i hi
  ·obtain⟨rfl,h1,h2,h3⟩:=hq;exact⟨_,rfl,h1.size,fun b hb=>h1.block b hb,rfl,h2,h3⟩
 ·obtain⟨hN,wl,aI,z1,z2,hs,rfl,h2,h3⟩:=hq;rw[z1] at h2 h3 hN |-;exact⟨hN,rfl,aa,World.rowIs.of_block h3 (hs _ (ag _) aa)⟩
theorem uV{w w':ae}{bn Lb Lo St Rb Nb n:Nat}{out:Nat->ah}{eD:Nat->Int}{ins:Nat->List (Bool×Nat)}{cw:Nat->Nat}{res:Nat->Kz.V}{ku:Nat->Bool}(h:oG w bn Lb Lo St Rb Nb n out eD ins cw res ku)(hz:w'.heap.size=w.heap.size)(e:∀b,b=bn\/b=Lb\/b=St\/b=Rb\/b=Nb\/(∃s,s<n/\b=cw s)->w'.heap[b]?=w.heap[b]?):oG w' bn Lb Lo St Rb Nb n out eD ins cw res ku where
 b0:=(cell_of (e bn (.inl rfl))).trans h.b0
 b2:=(cell_of (e bn (.inl rfl))).trans h.b2
 b3:=(cell_of (e bn (.inl rfl))).trans h.b3
 st:=(cell_of (e Lb (.inr (.inl rfl)))).trans h.st
 steps:=iW h.steps (e St (.inr (.inr (.inl rfl)))) (fun s hs=>e _ (.inr (.inr (.inr (.inr (.inr ⟨s,hs,rfl⟩)))))) aa
 r2 s hs:=(cell_of (e Rb (.inr (.inr (.inr (.inl rfl)))))).trans (h.r2 s hs)
 r3 s hs:=(cell_of (e Rb (.inr (.inr (.inr (.inl rfl)))))).trans (h.r3 s hs)
 ku s hs:=(cell_of (e Nb (.inr (.inr (.inr (.inr (.inl rfl))))))).trans (h.ku s hs)
 lbn:=by rw[hz];exact h.lbn
 lLb:=by rw[hz];exact h.lLb
 lSt:=by rw[hz];exact h.lSt
 lRb:=by rw[hz];exact h.lRb
 lNb:=by rw[hz];exact h.lNb
theorem Oj(hF:bE ar L0 o w)(bn Lb Lo St Rb Nb n:Nat)(out:Nat->ah)(eD:Nat->Int)(ins:Nat->List (Bool×Nat))(cw:Nat->Nat)(res:Nat->Kz.V)(ku:Nat->Bool)(hn:n<=1000)(h:oG w bn Lb Lo St Rb Nb n out eD ins cw res ku)(ho:∀b,b=bn\/b=Lb\/b=St\/b=Rb\/b=Nb\/(∃s,s<n/\b=cw s)->o b):
  bp ar (XB ar Fin 0) 75 #[.pointer (some ⟨bn,0,none⟩)] o w fun v o' w'=>fw o w v o' w'/\v=.slice (some ⟨w.heap.size,0,none⟩) n n/\w.heap.size<w'.heap.size/\w'.rowIs w.heap.size 65 (n*3) (gq out res n):=by
 refine bp.mono (dS af hF (fun x hx=>by simp at hx;subst hx;exact aH (ho bn (.inl rfl))) (Q:=fun wl v w'=>v=.slice (some ⟨wl.heap.size,0,none⟩) n n/\wl.heap.size<w'.heap.size/\w'.rowIs wl.heap.size 65 (n*3) (gq out res n)) (fun wl Ai v w1 w2 e1 e2 h=>?_) (fun wl hz aE=>?_)) (fun v o' w' hq=>?_)
 ·rw[e1,e2];exact⟨h.1,h.2.1,World.rowIs.of_block h.2.2 (by rw[e2])⟩
 ·refine(H9 bn Lb Lo St Rb Nb n out eD ins cw res ku wl hn (uV h hz fun b hb=>aE b (ho b hb))).mono fun e w' hq=>?_;obtain⟨rfl,h1,h2,h3⟩:=hq;exact⟨_,rfl,h1.size,fun b hb=>h1.block b hb,rfl,h2,h3⟩
 ·obtain⟨hN,wl,aI,z1,z2,hs,rfl,h2,h3⟩:=hq;rw[z1] at h2 h3 hN |-;exact⟨hN,rfl,aa,World.rowIs.of_block h3 (hs _ (ag _) aa)⟩
theorem tu{lo:Nat}{ts:List ah}{v:Value}{w wl:ae}(h:wl.ownsRow lo 9 1 v ts.length (ts.map .string))(hs:∀b,lo<=b->b<w.heap.size->w.heap[b]?=wl.heap[b]?)(hz:wl.heap.size=w.heap.size):ga lo ts v w:=by
 obtain⟨hl,hc⟩:=h;rcases hc with⟨rfl,h2⟩|⟨g,cap,cur,rfl,h1,h2,h3,h4,h5,h6⟩
 ·exact .inl ⟨rfl,List.length_eq_zero_iff.1 h2⟩
 ·have hg:g<w.heap.size:=by rw[<- hz];exact(Array.getElem?_eq_some_iff.1 h2).1
  refine .inr ⟨g,cap,rfl,h3,h1,hg,fun k hk=>?_⟩;have hb:=(hs g h1 hg).trans h2;have:(cur.toList.take (ts.length*1))[k]?=(ts.map Value.string)[k]?:=by rw[h6]
  rw[eU aa] at this;simp[World.cell?,hb];simpa[hk] using this
theorem Ol(hF:bE ar L0 o w)(bn Lb Lo St Rb Nb n:Nat)(out:Nat->ah)(eD:Nat->Int)(ins:Nat->List (Bool×Nat))(cw:Nat->Nat)(res:Nat->Kz.V)(ku:Nat->Bool)(hn:n<=1000)(h:oG w bn Lb Lo St Rb Nb n out eD ins cw res ku)(ho:∀b,b=bn\/b=Lb\/b=St\/b=Rb\/b=Nb\/(∃s,s<n/\b=cw s)->o b):
  bp ar (XB ar Fin 0) 76 #[.pointer (some ⟨bn,0,none⟩)] o w fun v o' w'=>fw o w v o' w'/\ga w.heap.size (qA out ku n) v w':=by
 refine bp.mono (dS af hF (fun x hx=>by simp at hx;subst hx;exact aH (ho bn (.inl rfl))) (Q:=fun wl v w'=>w'.ownsRow wl.heap.size 9 1 v (qA out ku n).length ((qA out ku n).map .string)) (fun wl Ai v w1 w2 e1 e2 h=>?_) (fun wl hz aE=>?_)) (fun v o' w' hq=>?_)
 ·rw[e1];exact cQ h fun g _ _=>by rw[e2]
 ·refine(Ia bn Lb Lo St Rb Nb n out eD ins cw res ku wl hn (uV h hz fun b hb=>aE b (ho b hb))).mono fun e w' hq=>?_;obtain⟨v,rfl,h1,h2,h3⟩:=hq;exact⟨_,rfl,h1.size,fun b hb=>h1.block b hb,h3⟩
 ·obtain⟨hN,wl,aI,z1,z2,hs,h3⟩:=hq;rw[z1] at h3;exact⟨hN,tu h3 hs z2⟩
theorem xe(hF:bE ar L0 o w)(v0:Value)(b c:Nat)(p:Option Addr)(ts:List ah)(ME:v0=.slice p ts.length c)(hn:ts.length<=100000)(hp:p=none->ts=[])(hq:ts≠[]->p=some ⟨b,0,none⟩/\o b)(ht:dP w b 0 ts)(hc:Cl ar L0 o v0):
  bp ar (XB ar Fin 0) 51 #[v0] o w fun v o' w'=>fw o w v o' w'/\ga w.heap.size ts v w':=by
 refine bp.mono (dS af hF (fun x hx=>by simp at hx;subst hx;exact hc) (Q:=fun wl v w'=>w'.ownsRow wl.heap.size 9 1 v ts.length (ts.map .string)) (fun wl Ai v w1 w2 e1 e2 h=>?_) (fun wl hz aE=>?_)) (fun v o' w' hq=>?_)
 ·rw[e1];exact cQ h fun g _ _=>by rw[e2]
 ·subst ME;cases p with
  |none =>
   obtain rfl:=hp rfl;refine(Tryz.slices_Clone_string_nil _ _ wl).mono fun e w' hq=>?_;obtain⟨rfl,rfl⟩:=hq;exact⟨_,rfl,ag _,fun _ _=>rfl,an,.inl ⟨rfl,rfl⟩⟩
  |some a =>
   by_cases cV:ts=[]
   ·subst cV;refine(Tryz.slices_Clone_string_zero a _ wl).mono fun e w' hq=>?_;obtain⟨v',rfl,h1,-,h2⟩:=hq;exact⟨_,rfl,h2.size,fun b hb=>h2.block b hb,h1⟩
   ·obtain⟨e,hb⟩:=hq cV;cases e;refine(Tryz.slices_Clone_string b 0 ts.length c ts wl (ag _) aa (fun j hj=>?_)).mono fun e w' hq=>?_
    ·rw[cI ht (aE b hb) j hj];simp[hj]
    ·obtain⟨v',rfl,h1,h2⟩:=hq;rw[dz] at h1;exact⟨_,rfl,h2.2.size,fun b hb=>h2.2.block b hb,h1⟩
 ·obtain⟨hN,wl,aI,z1,z2,hs,h3⟩:=hq;rw[z1] at h3;exact⟨hN,tu h3 hs z2⟩
end
end
structure mQ(rs:List aL)(NM:aL->List ah)(RK:ah->Nat):Prop where
 nodup:(rs.map (·.out)).Nodup
 low:∀r∈rs,RK r.out<rs.length
 Ig:∀r∈rs,∀x∈NM r,x∈rs.map (·.out)->RK x<RK r.out
 eD:∀r∈rs,1<=r.eD/\r.eD<=5
 four:∀r∈rs,(NM r).length<=4
theorem mQ.perm{rs b5:List aL}{NM:aL->List ah}{RK:ah->Nat}(h:mQ rs NM RK)(p:b5.Perm rs):mQ b5 NM RK where
 nodup:=((p.map (·.out)).nodup_iff).2 h.nodup
 low r hr:=by rw[p.length_eq];exact h.low r (p.mem_iff.1 hr)
 Ig r hr x hx ho:=h.Ig r (p.mem_iff.1 hr) x hx (((p.map (·.out)).mem_iff).1 ho)
 eD r hr:=h.eD r (p.mem_iff.1 hr)
 four r hr:=h.four r (p.mem_iff.1 hr)
theorem zd{rs:List aL}(hn:(rs.map (·.out)).Nodup)(hs:∀i j (hi:i<rs.length) (hj:j<rs.length),i<j->¬qx rs[j] rs[i]<0):nY (rs.map (·.out)):=fun i j hi hj DU=>by
 have lQ:i<rs.length:=by simpa using hi
 have rY:j<rs.length:=by simpa using hj
 simp only[List.getElem_map];have h1:=hs i j lQ rY DU;unfold qx at h1;have e:∀b:ah,b.data.toList=b.toList:=fun b=>(ByteArray.toList_eq b).symm;rw[e,e] at h1;rw[qw rs[i].out.toList rs[j].out.toList] at h1;have h2:Lib.compareBytes rs[i].out.toList rs[j].out.toList≠0:=fun h=>by
  have h3:=rA _ _ h;have h4:rs[i].out=rs[j].out:=by
   have:rs[i].out.data=rs[j].out.data:=by
    apply Array.toList_inj.1;rw[e,e];exact h3
   cases hx:rs[i].out;cases hy:rs[j].out;rw[hx,hy] at this;simp at this;rw[this]
  have:=(List.pairwise_iff_getElem.1 hn i j hi hj DU);simp only[List.getElem_map] at this;exact this h4
 omega
section
variable {rs:List aL} {NM:aL->List ah} {RK:ah->Nat}
theorem Fs{xs:List ah}{x:ah}(h:r8 xs x=true):∃h:px xs x<xs.length,xs[px xs x]=x:=by
 unfold r8 at h;simp only[decide_eq_true_eq] at h;refine⟨h.1,?_⟩;have:=h.2;simpa[List.getD,h.1] using this
theorem Om{outs:List ah}{l:List ah}{x:ah}:x∈rT outs l↔x∈l/\x∉outs:=by
 unfold rT;rw[ix];constructor
 ·rintro⟨h1,h2⟩;refine⟨h1,fun h=>?_⟩;rw[(Lib.containsS_iff outs x).2 h] at h2;cases h2
 ·rintro⟨h1,h2⟩;refine⟨h1,?_⟩;cases hc:Lib.containsS outs x with
  |false=>rfl
  |true=>exact absurd ((Lib.containsS_iff outs x).1 hc) h2
theorem Ih{outs:List ah}{nm:Nat->List ah}{x:ah}:∀k,x∈ll outs nm k↔∃i,i<k/\x∈nm i/\x∉outs
 |0=>by simp[ll]
 |k+1=>by
  simp only[ll,List.mem_append,Ih k,Om];constructor
  ·rintro(⟨i,h1,h2,h3⟩|⟨h2,h3⟩)
   ·exact⟨i,aa,h2,h3⟩
   ·exact⟨k,aa,h2,h3⟩
  ·rintro⟨i,h1,h2,h3⟩;by_cases e:i=k
   ·subst e;exact .inr ⟨h2,h3⟩
   ·exact .inl ⟨i,aa,h2,h3⟩
theorem mR{i:Nat}(h:i<rs.length):Fh NM rs i=NM rs[i]:=by simp[Fh,h]
theorem xf{i:Nat}(h:i<rs.length):qC rs i=rs[i].out:=by simp[qC,h]
theorem Mc{i:Nat}(h:i<rs.length):yj rs i=rs[i].eD:=by simp[yj,h]
theorem tw{x:ah}:x∈iq NM rs↔∃r∈rs,x∈NM r/\x∉rs.map (·.out):=by
 unfold iq;rw[(pA _).2,Ih];constructor
 ·rintro⟨i,h1,h2,h3⟩;rw[mR h1] at h2;exact⟨rs[i],aD h1,h2,h3⟩
 ·rintro⟨r,h1,h2,h3⟩;obtain⟨i,hi,rfl⟩:=a8 h1;exact⟨i,hi,by rw[mR hi];exact h2,h3⟩
theorem UA(hS:nY (rs.map (·.out))){s m:Nat}(hs:s<rs.length)(h:(true,m)∈lH NM rs s):∃hm:m<rs.length,rs[m].out∈NM rs[s]:=by
 unfold lH at h;rw[mR hs] at h;obtain⟨x,hx,he⟩:=List.mem_map.1 h;unfold pS at he;have h1:r8 (rs.map (·.out)) x=true:=congrArg Prod.fst he;have h2:=congrArg Prod.snd he;simp only[h1,if_true] at h2;obtain⟨hp,kB⟩:=Fs h1;subst h2;rw[bG] at hp;exact⟨hp,by simp only[List.getElem_map] at kB;rw[kB];exact hx⟩
theorem UB(hS:nY (rs.map (·.out))){s m:Nat}(hs:s<rs.length)(h:(false,m)∈lH NM rs s):m<(iq NM rs).length:=by
 unfold lH at h;rw[mR hs] at h;obtain⟨x,hx,he⟩:=List.mem_map.1 h;unfold pS at he;have h1:r8 (rs.map (·.out)) x=false:=congrArg Prod.fst he;have h2:=congrArg Prod.snd he;simp only[h1,Bool.false_eq_true,if_false] at h2;have KJ:x∉rs.map (·.out):=fun hm=>by rw[(Ah _ hS x).2 hm] at h1;cases h1
 have hm:x∈iq NM rs:=tw.2 ⟨rs[s],aD hs,hx,KJ⟩;obtain⟨hp,-⟩:=Fs ((Ah _ (pA _).1 x).2 hm);rw[<- h2];exact hp
def yn(rs:List aL)(NM:aL->List ah)(file:ah->V):Nat->ah->V
 |0,_=>V0
 |f+1,x=>match rs.find? (fun r=>decide (r.out=x)) with
  |some r=>jC r.eD ((NM r).map (yn rs NM file f))
  |none=>file x
def valOf(rs:List aL)(NM:aL->List ah)(file:ah->V)(x:ah):V:=yn rs NM file (rs.length+1) x
theorem xg(hn:(rs.map (·.out)).Nodup){r:aL}(hr:r∈rs):rs.find? (fun q=>decide (q.out=r.out))=some r:=by
 induction rs with
 |nil=>cases hr
 |cons q l ih =>
  rw[bU,cS] at hn;rcases List.mem_cons.1 hr with rfl|h
  ·simp
  ·have cV:decide (q.out=r.out)=false:=ee fun e=>hn.1 (by rw[e];exact iE h);rw[List.find?_cons,cV];exact ih hn.2 h
theorem qD{x:ah}(h:x∉rs.map (·.out)):rs.find? (fun q=>decide (q.out=x))=none:=by
 rw[List.find?_eq_none];intro q hq;simp only[decide_eq_true_eq];intro e;exact h (e▸iE hq)
theorem Ii(h:mQ rs NM RK)(file:ah->V):∀(k f g:Nat) (x:ah),(x∈rs.map (·.out)->RK x<k)->k<f->k<g->yn rs NM file f x=yn rs NM file g x:=by
 intro k
 induction k with
 |zero =>
  intro f g x hx hf hg;obtain⟨f,rfl⟩:∃f',f=f'+1:=⟨f-1,aa⟩;obtain⟨g,rfl⟩:∃g',g=g'+1:=⟨g-1,aa⟩;have:x∉rs.map (·.out):=fun hm=>by have:=hx hm;omega
  simp only[yn,qD this]
 |succ k ih =>
  intro f g x hx hf hg;obtain⟨f,rfl⟩:∃f',f=f'+1:=⟨f-1,aa⟩;obtain⟨g,rfl⟩:∃g',g=g'+1:=⟨g-1,aa⟩;by_cases hm:x∈rs.map (·.out)
  ·obtain⟨r,hr,rfl⟩:=List.mem_map.1 hm;simp only[yn,xg h.nodup hr]
   congr 1
   refine cU fun y hy=>ih f g y (fun hym=>?_) aa aa;have:=h.Ig r hr y hy hym;have:=hx hm;omega
  ·simp only[yn,qD hm]
theorem Ec(h:mQ rs NM RK)(file:ah->V){r:aL}(hr:r∈rs):valOf rs NM file r.out=jC r.eD ((NM r).map (valOf rs NM file)):=by
 unfold valOf
 conv=>lhs;unfold yn
 simp only[xg h.nodup hr]
 congr 1
 refine cU fun y hy=>Ii h file (rs.length-1) _ _ y (fun hm=>?_) ?_ ?_
 ·have:=h.Ig r hr y hy hm;have:=h.low r hr;omega
 ·have:0<rs.length:=jS hr;omega
 ·omega
theorem Ed(file:ah->V){x:ah}(h:x∉rs.map (·.out)):valOf rs NM file x=file x:=by
 unfold valOf yn;simp only[qD h]
theorem BY{b5:List aL}(h:mQ rs NM RK)(p:b5.Perm rs)(file:ah->V)(x:ah):valOf b5 NM file x=valOf rs NM file x:=by
 unfold valOf;rw[p.length_eq];generalize rs.length+1=f
 induction f generalizing x with
 |zero=>rfl
 |succ f ih =>
  unfold yn;by_cases hm:x∈rs.map (·.out)
  ·obtain⟨r,hr,rfl⟩:=List.mem_map.1 hm;rw[xg h.nodup hr,xg (h.perm p).nodup (p.mem_iff.2 hr)];simp only
   congr 1
   exact cU fun y _=>ih y
  ·rw[qD hm,qD (fun hx=>hm (((p.map (·.out)).mem_iff).1 hx))]
theorem On(h:mQ rs NM RK)(hS:nY (rs.map (·.out)))(D:mf)(file:ah->V)(res:Nat->V)(Fl:D.ins=lH NM rs)(hv:D.lj=(iq NM rs).map file)(xQ:∀s,s<rs.length->res s=valOf rs NM file (qC rs s)){s:Nat}(hs:s<rs.length):dA D res s=(NM rs[s]).map (valOf rs NM file):=by
 unfold dA;rw[Fl];unfold lH;rw[mR hs,List.map_map];refine cU fun x hx=>?_;simp only[Function.comp,HL,pS];rcases Bool.eq_false_or_eq_true (r8 (rs.map (·.out)) x) with hh|hh
 ·obtain⟨hp,kB⟩:=Fs hh;have hp':px (rs.map (·.out)) x<rs.length:=by simpa using hp
  simp only[hh,if_true];rw[xQ _ hp',xf hp'];simp only[List.getElem_map] at kB;rw[kB]
 ·have KJ:x∉rs.map (·.out):=fun hm=>by rw[(Ah _ hS x).2 hm] at hh;cases hh
  have hm:x∈iq NM rs:=tw.2 ⟨rs[s],aD hs,hx,KJ⟩;obtain⟨hp,kB⟩:=Fs ((Ah _ (pA _).1 x).2 hm);have hp2:px (iq NM rs) x<(iq NM rs).length:=hp;have Zp:(iq NM rs)[px (iq NM rs) x]=x:=kB;simp only[hh,Bool.false_eq_true,if_false,hv];rw[Ed file KJ];simp[List.getD,hp2,Zp]
end
theorem Ij(n:Nat)(h:n<18446744073709551616):(⟨(Lib.decDigits n).toArray⟩:ah).size<=20:=by
 show(Lib.decDigits n).toArray.size<=20;rw[List.size_toArray,Lib.decDigits_length];exact Lib.nDigits_le20 n h
theorem BZ(l:List UInt8):(bytes l).size=l.length:=by
 show l.toArray.size=l.length;simp
theorem Ik{M:Nat}:∀{ts:List ah},(∀t∈ts,t.size<=M)->iM ts<=M*ts.length
 | [],_=>by simp[iM]
 |t::ts,h=>by
  have h1:=h t an;have h2:=Ik (ts:=ts) fun x hx=>h x (by simp[hx]);simp only[iM,List.map_cons,List.sum_cons,List.length_cons,Nat.mul_add] at h2 |-;omega
theorem Il{M:Nat}:∀{ts:List ah},(∀t∈ts,t.size<=M)->rm ts<=255*M*ts.length
 | [],_=>by simp[rm]
 |t::ts,h=>by
  have h1:=h t an;have h2:=Il (ts:=ts) fun x hx=>h x (by simp[hx]);have h3:=E3 t.data.toList;have h4:t.data.toList.length=t.size:=by rw[Array.length_toList];rfl
  simp only[rm,List.map_cons,List.sum_cons,List.length_cons,Nat.mul_add] at h2 |-;rw[h4] at h3;have h5:255*t.size<=255*M:=Nat.mul_le_mul_left _ h1;omega
theorem UC(x y:ah):Lib.minS x y=x\/Lib.minS x y=y:=by
 unfold Lib.minS;split
 ·exact .inl rfl
 ·exact .inr rfl
theorem Ee:∀(l:List ah) (x:ah),l.foldl Lib.minS x=x\/l.foldl Lib.minS x∈l
 | [],x=>.inl rfl
 |y::l,x=>by
  simp only[List.foldl_cons];rcases Ee l (Lib.minS x y) with h|h
  ·rw[h];rcases UC x y with e|e
   ·exact .inl e
   ·exact .inr (by rw[e];simp)
  ·exact .inr (by simp[h])
theorem Rj(l:List ah)(h:l≠[]):Lib.minOfS l∈l:=by
 unfold Lib.minOfS;cases l with
 |nil=>exact absurd rfl h
 |cons y l =>
  rcases Ee (y::l) ((y::l).headD aN) with e|e
  ·rw[e];simp
  ·exact e
theorem KU{r:Int}{vs:List V}(hl:vs.length<=4)(h:∀v∈vs,v.2.size<=100):(jC r vs).2.size<=100:=by
 have ht:∀t∈vs.map (·.2),t.size<=100:=fun t ht=>by
  obtain⟨v,hv,rfl⟩:=List.mem_map.1 ht;exact h v hv
 unfold jC;split
 ·have:=Bv vs;exact aR (Ij _ aa) aa
 ·split
  ·exact aQ _
  ·show(lh r (vs.map (·.2))).size<=100;unfold lh;split
   ·rw[BZ];simp;omega
   ·split
    ·rw[BZ];simp;omega
    ·split
     ·have:=Il ht;rw[bG] at this;exact aR (Ij _ aa) aa
     ·split
      ·unfold ya;split
       ·exact aQ _
       ·rename_i cV;exact ht _ (Rj _ cV)
      ·exact aQ _
theorem Ef{rs:List aL}{NM:aL->List ah}(h4:∀r∈rs,(NM r).length<=4){file:ah->V}(hf:∀x,(file x).2.size<=100):∀f x,(yn rs NM file f x).2.size<=100
 |0,x=>by simp[yn,V0]
 |f+1,x=>by
  unfold yn;cases hr:rs.find? (fun r=>decide (r.out=x)) with
  |none=>exact hf x
  |some r =>
   have hm:=List.mem_of_find?_eq_some hr;refine KU (by rw[bG];exact h4 r hm) fun v hv=>?_;obtain⟨y,_,rfl⟩:=List.mem_map.1 hv;exact Ef h4 hf f y
structure dm where
 b5:List aL
 St:Nat
 Or:Nat
 cw:Nat->Nat
 sv:Value
section
variable {Fin:bH} {o:aM} {w:ae}
def ze(F:dm)(b:Nat):Prop:=b=F.St\/b=F.Or\/(∃s,s<F.b5.length/\b=F.cw s)\/∃l c,F.sv=.slice (some ⟨b,0,none⟩) l c
structure yo(o:aM)(w:ae)(lo:Nat)(rs:List aL)(NM:aL->List ah)(F:dm)(y:Value):Prop where
 lay:uS lo NM F.b5 F.St F.Or F.cw F.sv y w
 perm:F.b5.Perm rs
 sorted:∀i j (hi:i<F.b5.length) (hj:j<F.b5.length),i<j->¬qx F.b5[j] F.b5[i]<0
 own:∀b,ze F b->o b
theorem yo.ge{lo:Nat}{rs:List aL}{NM:aL->List ah}{F:dm}{y:Value}(h:yo o w lo rs NM F y){b:Nat}(hb:ze F b):lo<=b:=by
 rcases hb with rfl|rfl|⟨s,hs,rfl⟩|⟨l,c,e⟩
 ·exact h.lay.st.1
 ·exact h.lay.or.1
 ·exact h.lay.ib s hs
 ·rcases h.lay.src with⟨h1,-⟩|⟨g,cap,h1,h2,h3,h4,h5⟩
  ·rw[h1] at e;cases e
  ·rw[h1] at e;cases e;exact h3
theorem yo.keep{lo:Nat}{rs:List aL}{NM:aL->List ah}{F:dm}{y:Value}{o':aM}{w':ae}(h:yo o w lo rs NM F y)(mW:∀b,ze F b->o' b)(hz:w.heap.size<=w'.heap.size)(e:∀b,ze F b->w'.heap[b]?=w.heap[b]?):yo o' w' lo rs NM F y where
 lay:={
  val:=h.lay.val
  steps:=iW h.lay.steps (e _ (.inl rfl)) (fun s hs=>e _ (.inr (.inr (.inl ⟨s,hs,rfl⟩)))) hz
  ord:=World.rowIs.of_block h.lay.ord (e _ (.inr (.inl rfl)))
  src:=by
   rcases h.lay.src with h1|⟨g,cap,h1,h2,h3,h4,h5⟩
   ·exact .inl h1
   ·exact .inr ⟨g,cap,h1,h2,h3,aa,cI h5 (e g (.inr (.inr (.inr ⟨_,_,h1⟩))))⟩
  st:=⟨h.lay.st.1,by have:=h.lay.st.2;omega⟩
  or:=⟨h.lay.or.1,by have:=h.lay.or.2;omega⟩
  ib:=h.lay.ib}
 perm:=h.perm
 sorted:=h.sorted
 own:=mW
def Md(Rb s:Nat)(r:Int)(x:Option (Nat×List V))(w:ae):Prop:=match x with
 |none=>w.cell? ⟨Rb,s*4,none⟩=some (.bool false)/\w.cell? ⟨Rb,s*4+1,none⟩=some (.slice none 0 0)/\w.cell? ⟨Rb,s*4+2,none⟩=some (.bool false)/\w.cell? ⟨Rb,s*4+3,none⟩=some (.string aN)
 |some (B,vs)=>w.cell? ⟨Rb,s*4,none⟩=some (.bool true)/\w.cell? ⟨Rb,s*4+1,none⟩=some (.slice (some ⟨B,0,none⟩) vs.length vs.length)/\w.cell? ⟨Rb,s*4+2,none⟩=some (.bool (jC r vs).1)/\w.cell? ⟨Rb,s*4+3,none⟩=some (.string (jC r vs).2)
theorem Md.keep{Rb s:Nat}{r:Int}{x:Option (Nat×List V)}{w w':ae}(h:Md Rb s r x w)(e:w'.heap[Rb]?=w.heap[Rb]?):Md Rb s r x w':=by
 cases x with
 |none=>exact⟨(cell_of e).trans h.1,(cell_of e).trans h.2.1,(cell_of e).trans h.2.2.1,(cell_of e).trans h.2.2.2⟩
 |some y=>exact⟨(cell_of e).trans h.1,(cell_of e).trans h.2.1,(cell_of e).trans h.2.2.1,(cell_of e).trans h.2.2.2⟩
structure zf where
 bb:Nat
 p:Option Addr
 Ru:Nat
 c:Nat
 Rb:Nat
 rs:List aL
 NM:aL->List ah
 NB:aL->Nat
 RK:ah->Nat
def mB(B:zf)(fd:Option (Nat×dm))(old:Nat->Option (Nat×List V))(b:Nat):Prop :=
 b=B.bb\/b=B.Ru\/b=B.Rb\/b=1\/(∃r∈B.rs,B.NM r≠[]/\b=B.NB r)\/(∃lo F,fd=some (lo,F)/\ze F b)\/∃s vs,s<B.rs.length/\old s=some (b,vs)
structure fq(o:aM)(w:ae)(B:zf)(fd:Option (Nat×dm))(old:Nat->Option (Nat×List V)):Prop where
 own:∀b,mB B fd old b->o b
 right:mQ B.rs B.NM B.RK
 rules:kQ o w B.p B.Ru B.c B.rs B.NM B.NB
 apart:B.Ru≠B.bb/\B.Rb≠B.bb/\(∀r∈B.rs,B.NM r≠[]->B.NB r≠B.bb)/\4<=B.Rb/\4<=B.bb/\B.Ru≠B.Rb/\∀r∈B.rs,B.NM r≠[]->B.NB r≠B.Rb
 blk:∃y0 y1 y2,w.heap[B.bb]?=some (Ji (.slice B.p B.rs.length B.c) (.int .u32 (if fd.isSome then 1 else 0)) (.int .i32 0) (.int .u32 0) y0 y1 y2 (.slice (some ⟨B.Rb,0,none⟩) B.rs.length B.rs.length))/\∀lo F,fd=some (lo,F)->yo o w lo B.rs B.NM F (.agg #[y0,y1,y2])
 lo:∀lo F,fd=some (lo,F)->B.Rb<lo/\B.bb<lo
 fresh:fd=none->∀s,s<B.rs.length->old s=none
 runs:∃cs,w.heap[B.Rb]?=some (.cells cs 222 (0,0))/\cs.size=B.rs.length*4
 idle:∀s,s<B.rs.length->∀r,(∀lo F,fd=some (lo,F)->r=yj F.b5 s)->Md B.Rb s r (old s) w
 vv:∀s b vs,s<B.rs.length->old s=some (b,vs)->eM w b vs/\vs.length<=100000/\B.Rb<b/\B.bb<b
 pow:jB w
theorem fq.keep{B:zf}{fd:Option (Nat×dm)}{old:Nat->Option (Nat×List V)}{o':aM}{w':ae}(h:fq o w B fd old)(mW:∀b,o b->o' b)(hz:w.heap.size<=w'.heap.size)(e:∀b,mB B fd old b->w'.heap[b]?=w.heap[b]?):fq o' w' B fd old where
 own b hb:=mW _ (h.own b hb)
 right:=h.right
 rules:=h.rules.keep mW (e _ (.inr (.inl rfl))) fun r hr hn=>e _ (.inr (.inr (.inr (.inr (.inl ⟨r,hr,hn,rfl⟩)))))
 apart:=h.apart
 blk:=by
  obtain⟨y0,y1,y2,h1,h2⟩:=h.blk;exact⟨y0,y1,y2,(e _ (.inl rfl)).trans h1,fun lo F hf=>(h2 lo F hf).keep (fun b hb=>mW _ ((h2 lo F hf).own b hb)) hz fun b hb=>e b (.inr (.inr (.inr (.inr (.inr (.inl ⟨lo,F,hf,hb⟩))))))⟩
 lo:=h.lo
 fresh:=h.fresh
 runs:=by
  obtain⟨cs,h1,h2⟩:=h.runs;exact⟨cs,(e _ (.inr (.inr (.inl rfl)))).trans h1,h2⟩
 idle s hs r hr:=(h.idle s hs r hr).keep (e _ (.inr (.inr (.inl rfl))))
 vv s b vs hs ho:=by
  obtain⟨h1,h2⟩:=h.vv s b vs hs ho;exact⟨h1.of_block (e b (.inr (.inr (.inr (.inr (.inr (.inr ⟨s,vs,hs,ho⟩))))))),h2⟩
 pow q hq:=(cell_of (e 1 (.inr (.inr (.inr (.inl rfl)))))).trans (h.pow q hq)
end
theorem Eg{α:Type}{lt:α->α->Prop}(ha:∀x y,lt x y->lt y x->False):∀a b:List α,a.Pairwise lt->b.Pairwise lt->(∀x,x∈a↔x∈b)->a=b
 | [],[],_,_,_=>rfl
 | [],y::b,_,_,h=>by have:=(h y).2 an;cases this
 |x::a,[],_,_,h=>by have:=(h x).1 an;cases this
 |x::a,y::b,h1,h2,h=>by
  rw[List.pairwise_cons] at h1 h2;have e:x=y:=by
   rcases List.mem_cons.1 ((h x).1 an) with e|hx
   ·exact e
   ·rcases List.mem_cons.1 ((h y).2 an) with e|hy
    ·exact e.symm
    ·exact(ha _ _ (h1.1 y hy) (h2.1 x hx)).elim
  subst e;rw[Eg ha a b h1.2 h2.2 fun z=>⟨fun hz=>?_,fun hz=>?_⟩]
  ·rcases List.mem_cons.1 ((h z).1 (by simp[hz])) with e|Cq
   ·subst e;exact(ha _ _ (h1.1 z hz) (h1.1 z hz)).elim
   ·exact Cq
  ·rcases List.mem_cons.1 ((h z).2 (by simp[hz])) with e|Cq
   ·subst e;exact(ha _ _ (h2.1 z hz) (h2.1 z hz)).elim
   ·exact Cq
theorem Dc{a b:List ah}(ha:nY a)(hb:nY b)(h:∀x,x∈a↔x∈b):a=b:=by
 refine Eg (lt:=fun x y=>Lib.compareBytes x.toList y.toList<0) (fun x y h1 h2=>?_) a b (List.pairwise_iff_getElem.2 fun i j hi hj DU=>ha i j hi hj DU) (List.pairwise_iff_getElem.2 fun i j hi hj DU=>hb i j hi hj DU) h;rw[qw x.toList y.toList] at h2;omega
theorem yq{rs b5:List aL}{NM:aL->List ah}(p:b5.Perm rs):iq NM b5=iq NM rs:=by
 refine Dc (pA _).1 (pA _).1 fun x=>?_;show x∈iq NM b5↔x∈iq NM rs;rw[tw,tw];constructor
 ·rintro⟨r,h1,h2,h3⟩;exact⟨r,p.mem_iff.1 h1,h2,fun h=>h3 (((p.map (·.out)).mem_iff).2 h)⟩
 ·rintro⟨r,h1,h2,h3⟩;exact⟨r,p.mem_iff.2 h1,h2,fun h=>h3 (((p.map (·.out)).mem_iff).1 h)⟩
section
variable {Fin:bH} {o:aM} {w:ae}
structure bu(ex:Nat->Prop)(o:aM)(w:ae)(o':aM)(w':ae):Prop where
 ay:bE ar L0 o' w'
 more:∀b,o b->o' b
 new:∀b,o' b->o b\/w.heap.size<=b
 size:w.heap.size<=w'.heap.size
 same:∀b,b<w.heap.size->¬ex b->w'.heap[b]?=w.heap[b]?
theorem bu.refl{ex:Nat->Prop}(hF:bE ar L0 o w):bu ex o w o w:=⟨hF,fun _ h=>h,fun _ h=>.inl h,ag _,fun _ _ _=>rfl⟩
theorem bu.trans{ex:Nat->Prop}{o1 o2:aM}{w1 w2:ae}(h:bu ex o w o1 w1)(k:bu ex o1 w1 o2 w2):bu ex o w o2 w2 :=
 ⟨k.ay,fun b hb=>k.more b (h.more b hb),fun b hb=>(k.new b hb).elim (fun q=>h.new b q) fun q=>.inr (by have:=h.size;omega),by have:=h.size;have:=k.size;omega,fun b hb hx=>(k.same b (by have:=h.size;omega) hx).trans (h.same b hb hx)⟩
theorem bu.mono{ex ex':Nat->Prop}{o1:aM}{w1:ae}(h:bu ex o w o1 w1)(he:∀b,ex b->ex' b):bu ex' o w o1 w1:=⟨h.ay,h.more,h.new,h.size,fun b hb hx=>h.same b hb fun q=>hx (he b q)⟩
theorem bu.dL{ex:Nat->Prop}{v:Value}{o1:aM}{w1:ae}(h:fw o w v o1 w1):bu ex o w o1 w1:=by
 refine⟨h.ay,fun b hb=>?_,fun b hb=>?_,h.size,fun b hb _=>h.old b hb⟩
 ·rw[h.own];exact .inl hb
 ·rw[h.own] at hb;exact hb.imp id fun q=>q.1
theorem ga.own{lo:Nat}{ts:List ah}{v:Value}(h:ga lo ts v w):(v=.slice none 0 0/\ts=[])\/∃g cap,v=.slice (some ⟨g,0,none⟩) ts.length cap/\lo<=g/\g<w.heap.size/\dP w g 0 ts:=by
 rcases h with h|⟨g,cap,h1,h2,h3,h4,h5⟩
 ·exact .inl h
 ·exact .inr ⟨g,cap,h1,h3,h4,h5⟩
theorem fq.found{B:zf}{old:Nat->Option (Nat×List V)}{o':aM}{w':ae}(h:fq o w B none old)(hF:bE ar L0 o w)(P:rB o w B.bb B.rs B.NM (fun y0 y1 y2=>Ji (.slice B.p B.rs.length B.c) (.int .u32 1) (.int .i32 0) (.int .u32 0) y0 y1 y2 (.slice (some ⟨B.Rb,0,none⟩) B.rs.length B.rs.length)) o' w'):
  ∃F,fq o' w' B (some (w.heap.size,F)) old:=by
 obtain⟨b5,St,Or,cw,sv,y0,y1,y2,h1,h2,h3,h4⟩:=P.lay;have up:∀b,o b->o' b:=fun b hb=>by rw[P.own];exact .inl hb
 have nw:∀b,w.heap.size<=b->b<w'.heap.size->o' b:=fun b q1 q2=>by rw[P.own];exact .inr ⟨q1,q2⟩
 have lt:∀b,mB B none old b->b<w.heap.size:=fun b hb=>hF.lt (h.own b hb);have eH:∀b,ze ⟨b5,St,Or,cw,sv⟩ b->o' b:=fun b hb=>by
  rcases hb with rfl|rfl|⟨s,hs,rfl⟩|⟨l,c,e⟩
  ·exact nw _ h3.st.1 h3.st.2
  ·exact nw _ h3.or.1 h3.or.2
  ·exact nw _ (h3.ib s hs) (h3.steps.lt s hs)
  ·rcases h3.src with⟨q1,-⟩|⟨g,cap,q1,q2,q3,q4,q5⟩
   ·simp only at e;rw[q1] at e;cases e
   ·simp only at e;rw[q1] at e;cases e;exact nw _ q3 q4
 have sm:∀b,mB B none old b->b≠B.bb->w'.heap[b]?=w.heap[b]?:=fun b hb hn=>P.old b (lt b hb) hn;obtain⟨a1,a2,a3,a4,a5,a6,a7⟩:=h.apart;refine⟨⟨b5,St,Or,cw,sv⟩,fun b hb=>?_,h.right,h.rules.keep up (sm _ (.inr (.inl rfl)) a1) fun r hr hn=>sm _ (.inr (.inr (.inr (.inr (.inl ⟨r,hr,hn,rfl⟩))))) (a3 r hr hn),h.apart,⟨y0,y1,y2,by simpa using h4,fun lo F hf=>?_⟩,fun lo F hf=>?_,(fun hf=>by cases hf),?_,fun s hs r hr=>?_,fun s b vs hs ho=>?_,fun q hq=>?_⟩
 ·rcases hb with hb|hb|hb|hb|hb|⟨lo,F,hf,hb⟩|hb
  ·exact up _ (h.own b (.inl hb))
  ·exact up _ (h.own b (.inr (.inl hb)))
  ·exact up _ (h.own b (.inr (.inr (.inl hb))))
  ·exact up _ (h.own b (.inr (.inr (.inr (.inl hb)))))
  ·exact up _ (h.own b (.inr (.inr (.inr (.inr (.inl hb))))))
  ·cases hf;exact eH b hb
  ·exact up _ (h.own b (.inr (.inr (.inr (.inr (.inr (.inr hb)))))))
 ·cases hf;exact⟨h3,h1,h2,eH⟩
 ·cases hf;exact⟨lt _ (.inr (.inr (.inl rfl))),lt _ (.inl rfl)⟩
 ·obtain⟨cs,q1,q2⟩:=h.runs;exact⟨cs,(sm _ (.inr (.inr (.inl rfl))) a2).trans q1,q2⟩
 ·have:=h.fresh rfl s hs;rw[this];have q:=h.idle s hs r (fun lo F hf=>by cases hf);rw[this] at q;exact q.keep (sm _ (.inr (.inr (.inl rfl))) a2)
 ·rw[h.fresh rfl s hs] at ho;cases ho
 ·exact(cell_of (a:=⟨1,q,none⟩) (sm 1 (.inr (.inr (.inr (.inl rfl)))) aa)).trans (h.pow q hq)
theorem Oo(hF:bE ar L0 o w)(B:zf)(fd:Option (Nat×dm))(old:Nat->Option (Nat×List V))(h:fq o w B fd old):
  bp ar (XB ar Fin 0) 44 #[.pointer (some ⟨B.bb,0,none⟩)] o w fun v o' w'=>bu (·=B.bb) o w o' w'/\(∃lo F mid,fq o' w' B (some (lo,F)) old/\(fd=some (lo,F)\/fd=none/\lo=w.heap.size)/\w.heap.size<=mid/\(∀b,mB B (some (lo,F)) old b->b<mid)/\∀g,v.ownBlock=some g->mid<=g)/\Cl ar L0 o' v/\ga w.heap.size (iq B.NM B.rs) v w'/\∀g l c,v=.slice (some ⟨g,0,none⟩) l c->o' g:=by
 have W:=bJ (P:=ar) (Fin:=Fin) (d:=0);refine bA W func44 ai ?_;walk_nrmf Tryz.f44;have tt:=h.own B.bb (.inl rfl);refine aA ?_;have hl:bp ar (XB ar Fin 0) 73 #[.pointer (some ⟨B.bb,0,none⟩)] o w fun v o' w'=>v=.pointer (some ⟨B.bb,4,none⟩)/\bu (·=B.bb) o w o' w'/\∃lo F,fq o' w' B (some (lo,F)) old/\(fd=some (lo,F)\/fd=none/\lo=w.heap.size):=by
  obtain⟨y0,y1,y2,hb,hp⟩:=h.blk;cases fd with
  |none =>
   refine(KR hF B.bb B.Ru B.c B.p B.rs B.NM B.NB h.rules tt h.apart.1 h.apart.2.2.1 _ y0 y1 y2 _ (by simpa using hb)).mono ?_;rintro v o' w' ⟨rfl,P⟩;refine⟨rfl,⟨P.ay,fun b hb=>by rw[P.own];exact .inl hb,fun b hb=>by rw[P.own] at hb;exact hb.imp id fun q=>q.1,P.size,fun b hb hn=>P.old b hb hn⟩,?_⟩;obtain⟨F,hq⟩:=h.found hF P;exact⟨_,F,hq,.inr ⟨rfl,rfl⟩⟩
  |some f =>
   obtain⟨lo,F⟩:=f;refine(BT hF B.bb tt _ _ _ y0 y1 y2 _ (by simpa using hb)).mono ?_;rintro v o' w' ⟨rfl,N⟩;have hW:bu (·=B.bb) o w o' w':=bu.dL N;exact⟨rfl,hW,lo,F,h.keep hW.more hW.size fun b hb=>N.old b (hF.lt (h.own b hb)),.inl rfl⟩
 refine aF W rfl ai rfl func73 af rfl aC rfl (hl.mono ?_);clear hl;rintro v1 o1 w1 ⟨rfl,W1,lo,F,h1,afS⟩;refine aA ?_;obtain⟨y0,y1,y2,hb,hp⟩:=h1.blk;have P:=hp lo F rfl;have abO:=W1.more _ tt;have ow:=P.lay.val;simp only[Value.agg.injEq] at ow;have Y6:y2=F.sv:=by
  have:=congrArg (fun a:Array Value=>a[2]?) ow;simpa using this
 obtain⟨-,-,-,-,-,-,c6,-,-⟩:=mP hb;rw[Y6] at c6;have NO:=P.lay.src;rw[yq P.perm] at NO;have eY:Cl ar L0 o1 F.sv:=by
  rcases NO with⟨q1,-⟩|⟨g,cap,q1,-⟩
  ·rw[q1];exact gS
  ·rw[q1];exact di (P.own g (.inr (.inr (.inr ⟨_,_,q1⟩))))
 refine aP aX W1.ay rfl ai ai ?_ rfl (v:=F.sv) (gG abO c6) fun _=>?_
 ·exact cj (aH abO)
 refine aA ?_;have hC:bp ar (XB ar Fin 0) 51 #[F.sv] o1 w1 fun v o' w'=>fw o1 w1 v o' w'/\ga w1.heap.size (iq B.NM B.rs) v w':=by
  have hlen:(iq B.NM B.rs).length<=100000:=by
   have q1:=xa (ll (B.rs.map (·.out)) (Fh B.NM B.rs) B.rs.length);have q2:=py (B.rs.map (·.out)) (Fh B.NM B.rs) B.rs.length (fun i hi=>by rw[mR hi];exact h.right.four _ (aD hi)) B.rs.length (ag _);have q3:=h.rules.gT;have:(iq B.NM B.rs).length<=(ll (B.rs.map (·.out)) (Fh B.NM B.rs) B.rs.length).length:=q1;omega
  rcases NO with⟨q1,q2⟩|⟨g,cap,q1,q2,q3,q4,q5⟩
  ·exact xe W1.ay F.sv 0 0 none _ (by rw[q1,q2];rfl) hlen (fun _=>q2) (fun cV=>absurd q2 cV) (fun k hk=>by rw[q2] at hk;simp at hk) eY
  ·exact xe W1.ay F.sv g cap (some ⟨g,0,none⟩) _ q1 hlen (fun e=>by cases e) (fun _=>⟨rfl,P.own g (.inr (.inr (.inr ⟨_,_,q1⟩)))⟩) q5 eY
 refine aF W rfl ai rfl func51 af rfl aC rfl (hC.mono ?_);rintro v2 o2 w2 ⟨N2,t2⟩;refine aA ?_;have W2:bu (·=B.bb) o1 w1 o2 w2:=bu.dL N2;have W02:=W1.trans W2;refine⟨.inr trivial,trivial,_,resultsC_tmp (t:=2) ai _,W02,⟨lo,F,w1.heap.size,h1.keep W2.more W2.size fun b hb=>N2.old b (W1.ay.lt (h1.own b hb)),afS,W1.size,fun b hb=>W1.ay.lt (h1.own b hb),fun g hg=>?_⟩,by simpa[Act.eval] using N2.cl,by simpa[Act.eval] using kJ t2 W1.size (ag _) fun _ _ _=>rfl,fun g l c e=>?_⟩
 ·have e':v2.ownBlock=some g:=by simpa[Act.eval] using hg
  rcases t2 with⟨q1,-⟩|⟨g',cap,q1,q2,q3,q4,q5⟩
  ·rw[q1] at e';cases e'
  ·rw[q1] at e';cases e';exact q3
 have e':v2=.slice (some ⟨g,0,none⟩) l c:=by simpa[Act.eval] using e
 rcases t2 with⟨q1,-⟩|⟨g',cap,q1,q2,q3,q4,q5⟩
 ·rw[q1] at e';cases e'
 ·rw[q1] at e';cases e';rw[N2.own];exact .inr ⟨q3,q4⟩
end
section
open Go.ChangeShapes Go.WideShapes Go.Deep
theorem tS{ts:List TypeId}{k:IntKind}{P:Program}{w:ae}{t u:TypeId}{cs:Array Value}(Pe:P.cellTypes P.depth t=some ts)(gY:∀x∈ts,P.underlying x=some (.int k))(h:Row.ok P w .any 0 t cs)(f:Rn):cs.map (val f)=cs:=by
 obtain⟨OV,e,-,hr⟩:=h;rw[Pe] at e;cases e;apply iR;intro i;rw[br];cases hi:cs[i]? with
 |none=>rfl
 |some v =>
  obtain⟨u,hu,ho⟩:=hr i v hi;have:=gY u (fK hu);unfold Cell.ok at ho;rw[this] at ho;cases v<;>simp at ho;simp
theorem Oq{w:ae}(h:w.ShapedOpen ar):bE ar L0 (fun b=>b<4) w:=by
 have OZ:ar.globals.size=4:=af;have key:∀b,b<4->∃cs t,w.heap[b]?=some (.cells cs t)/\∀f:Rn,cs.map (val f)=cs:=by
  intro b hb;have mo:b=0\/b=1\/b=2\/b=3:=aa;rcases mo with rfl|rfl|rfl|rfl
  ·obtain⟨cs,e1,-,e2⟩:=h.1 0 (#[.int .i64 0]) 3 (by rw[OZ];omega) af;exact⟨cs,_,e1,tS (ts:=[3]) (k:=.i64) (u:=0) af (fun x hx=>by rw[List.mem_singleton.1 hx];exact underlying3) (e2 af)⟩
  ·obtain⟨cs,e1,-,e2⟩:=h.1 1 (Array.replicate 20 (.int .u64 0)) 342 (by rw[OZ];omega) af;exact⟨cs,_,e1,tS (ts:=List.replicate 20 212) (k:=.u64) (u:=0) af (fun x hx=>by rw[gh hx];exact underlying212) (e2 af)⟩
  ·obtain⟨cs,e1,-,e2⟩:=h.1 2 (Array.replicate 32 (.int .u8 0)) 347 (by rw[OZ];omega) af;exact⟨cs,_,e1,tS (ts:=List.replicate 32 5) (k:=.u8) (u:=0) af (fun x hx=>by rw[gh hx];exact underlying5) (e2 af)⟩
  ·obtain⟨cs,e1,-,e2⟩:=h.1 3 (Array.replicate 64 (.int .u8 0)) 348 (by rw[OZ];omega) af;exact⟨cs,_,e1,tS (ts:=List.replicate 64 5) (k:=.u8) (u:=0) af (fun x hx=>by rw[gh hx];exact underlying5) (e2 af)⟩
 refine⟨fun b hb=>?_,fun b hb=>by rw[OZ] at hb;exact hb,?_⟩
 ·obtain⟨cs,t,e1,e2⟩:=key b hb;exact⟨_,e1,rfl,fun f _=>by simp[obj,e2 f]⟩
 ·obtain⟨cs,t,e1,-⟩:=key 3 aa;have:=(Array.getElem?_eq_some_iff.1 e1).1;rw[OZ];omega
theorem afT{q:Nat}(hq:q<20):(match (YtgjekaaknjgnmaaGreatDoor.Rows.laid_internal_strconv_uint64pow10:DataW Unit) with|.agg l=>l[q]? | _=>none)=some (.lit (.int .u64 ((10^q:Nat):Int))):=by
 have EN:q=0\/q=1\/q=2\/q=3\/q=4\/q=5\/q=6\/q=7\/q=8\/q=9\/q=10\/q=11\/q=12\/q=13\/q=14\/q=15\/q=16\/q=17\/q=18\/q=19:=aa;rcases EN with rfl|rfl|rfl|rfl|rfl|rfl|rfl|rfl|rfl|rfl|rfl|rfl|rfl|rfl|rfl|rfl|rfl|rfl|rfl|rfl<;>rfl
theorem KV{w:ae}{r:List (String×DataW Unit)}(hr:r=[("math/bits.deBruijn32tab",YtgjekaaknjgnmaaGreatDoor.Rows.laid_math_bits_deBruijn32tab),("math/bits.deBruijn64tab",YtgjekaaknjgnmaaGreatDoor.Rows.laid_math_bits_deBruijn64tab),("internal/strconv.uint64pow10",YtgjekaaknjgnmaaGreatDoor.Rows.laid_internal_strconv_uint64pow10)])(h:laidMetH ar r w):jB w:=by
 subst hr;rw[MakeChecks.laidMetH_plain _ _ _ af] at h;obtain⟨ps,⟨g0,t0,cs0,f0,p0,q0,WO,ht0,ME,Cr,⟨g1,t1,rW,f1,p1,q1,I3,ht1,Gd,Zd,⟨g2,t2,Zu,f2,p2,q2,Cv,ht2,I2,SN,-,-⟩,-⟩,-⟩,-,-⟩:=h;clear Cr Zd ME Gd WO I3 ht0 ht1;have e1:ar.globalNamed "internal/strconv.uint64pow10" = some 1:=af;have e2:(ar.globals[1]?).map (·.type)=some 342:=af;obtain rfl:=aK (e1.symm.trans Cv);obtain rfl:=aK (e2.symm.trans ht2);obtain⟨xs,m,-,hx,eY,Zv,hel⟩:=DataW.trod_array underlying342 SN;have c1:ar.cellsOf 212=1:=af;intro q hq;have hp:=afT hq;rw[(Prod.mk.inj hx).1] at hp;simp only[List.getElem?_map] at hp;obtain⟨y,hy,e3⟩:=Option.map_eq_some_iff.1 hp;have hq2:=hel q hq;rw[hy,c1] at hq2;obtain⟨n,k1,k2,-⟩:=DataW.trod_int underlying212 hq2;rw[k2] at e3;simp only[DataW.lit.injEq,Lit.int.injEq,true_and] at e3;subst e3;have:=World.var?_cell Cv I2 q;rw[this];rw[Nat.mul_one] at k1;have k3:=congrArg (fun l=>l[0]?) k1;simp only[List.getElem?_take,List.getElem?_drop,Array.getElem?_toList] at k3;simpa using k3
end
open Go.ConcR (Payload)
section
variable {Fin:bH} {o:aM} {w:ae}
def mi(B:zf)(F:dm)(file:ah->V)(s:Nat):List V:=(Fh B.NM F.b5 s).map (valOf B.rs B.NM file)
def kW(B:zf)(F:dm)(file:ah->V)(s:Nat):V:=valOf B.rs B.NM file (qC F.b5 s)
def yr(B:zf)(F:dm)(file:ah->V)(Vb bn Nb Mb:Nat)(ch:Nat->Nat):mf where
 n:=B.rs.length
 bn:=bn
 Lb:=B.bb
 Lo:=4
 St:=F.St
 Vb:=Vb
 Rb:=B.Rb
 Nb:=Nb
 Mb:=Mb
 jm:=yj F.b5
 ins:=lH B.NM F.b5
 cw:=F.cw
 lj:=(iq B.NM B.rs).map file
 ch:=ch
def xh(B:zf)(F:dm)(k:Nat):Nat:=(dK (lH B.NM F.b5) F.b5.length F.b5.length).getD k 0
theorem KW{B:zf}{F:dm}(hR:mQ B.rs B.NM B.RK)(hp:F.b5.Perm B.rs)(hS:nY (F.b5.map (·.out))):
  (dK (lH B.NM F.b5) F.b5.length F.b5.length).length=F.b5.length/\nF F.b5.length (dK (lH B.NM F.b5) F.b5.length F.b5.length)/\(∀s,s<F.b5.length->s∈dK (lH B.NM F.b5) F.b5.length F.b5.length)/\mO (lH B.NM F.b5) (dK (lH B.NM F.b5) F.b5.length F.b5.length):=by
 have Yi:=hR.perm hp;refine Q1 (lH B.NM F.b5) F.b5.length (fun s=>B.RK (qC F.b5 s)) (fun s hs=>?_) (fun s hs m hm=>?_)
 ·rw[xf hs];exact Yi.low _ (aD hs)
 ·obtain⟨h1,h2⟩:=UA hS hs hm;refine⟨h1,?_⟩;rw[xf h1,xf hs];exact Yi.Ig _ (aD hs) _ h2 (iE (aD h1))
theorem oH{B:zf}{F:dm}(hR:mQ B.rs B.NM B.RK)(hp:F.b5.Perm B.rs)(hS:nY (F.b5.map (·.out)))(file:ah->V)(Vb bn Nb Mb:Nat)(ch:Nat->Nat){s:Nat}(hs:s<B.rs.length):dA (yr B F file Vb bn Nb Mb ch) (kW B F file) s=mi B F file s:=by
 have rX:s<F.b5.length:=by rw[hp.length_eq];exact hs
 rw[On (hR.perm hp) hS (yr B F file Vb bn Nb Mb ch) file (kW B F file) rfl (by show(iq B.NM B.rs).map file=_;rw[yq hp]) (fun s hs=>by show valOf B.rs B.NM file _=_;rw[BY hR hp]) rX];unfold mi;rw[mR rX];exact cU fun x _=>BY hR hp file x
theorem Eh{B:zf}{F:dm}(hR:mQ B.rs B.NM B.RK)(hp:F.b5.Perm B.rs)(file:ah->V){s:Nat}(hs:s<B.rs.length):kW B F file s=jC (yj F.b5 s) (mi B F file s):=by
 have rX:s<F.b5.length:=by rw[hp.length_eq];exact hs
 unfold kW mi;rw[xf rX,Mc rX,mR rX];exact Ec hR file (hp.mem_iff.1 (aD rX))
theorem qE{w:ae}{a b:Nat}{x y:Obj}(ha:w.heap[a]?=some x)(hb:w.heap[b]?=some y)(h:x≠y):a≠b:=fun e=>by
 subst e;rw[ha] at hb;exact h (aK hb)
theorem Rk{B:zf}{lo:Nat}{F:dm}{old:Nat->Option (Nat×List V)}{file:ah->V}{Vb bn Nb Mb nv:Nat}{ch:Nat->Nat}{o':aM}{w':ae}(hF:bE ar L0 o w)(h:fq o w B (some (lo,F)) old)(pU:∀x,(file x).2.size<=100)(V8:o Vb)(Zw:Vb≠B.Rb)(hv:eM w Vb ((iq B.NM B.rs).map file))(hnv:nv=((iq B.NM B.rs).map file).length)(N:jo o w (.pointer (some ⟨B.bb,4,none⟩)) (.slice (some ⟨Vb,0,none⟩) nv nv) (.slice (some ⟨B.Rb,0,none⟩) B.rs.length B.rs.length) B.rs.length bn Nb Mb ch B.rs.length o' w'):
  mZ (yr B F file Vb bn Nb Mb ch) (xh B F) (kW B F file) old F.Or o' w':=by
 subst hnv;obtain⟨y0,y1,y2,hb,hp⟩:=h.blk;have P:=hp lo F rfl;have hlen:=P.perm.length_eq;have hS:=zd (h.right.perm P.perm).nodup P.sorted;obtain⟨k1,k2,k3,k4⟩:=KW h.right P.perm hS;have ow:=P.lay.val;simp only[Value.agg.injEq] at ow;have hy0:y0=.slice (some ⟨F.St,0,none⟩) F.b5.length F.b5.length:=by have:=congrArg (fun a:Array Value=>a[0]?) ow;simpa using this
 have hy1:y1=.slice (some ⟨F.Or,0,none⟩) (dK (lH B.NM F.b5) F.b5.length F.b5.length).length F.b5.length:=by have:=congrArg (fun a:Array Value=>a[1]?) ow;simpa using this
 rw[k1] at hy1;have ir:∀b,o b->w'.heap[b]?=w.heap[b]?:=fun b hb=>N.old b (hF.lt hb);have up:∀b,o b->o' b:=fun b hb=>by rw[N.own];exact .inl hb
 have rC:∀b,mB B (some (lo,F)) old b->o b:=h.own;have tt:=rC B.bb (.inl rfl);have Jg:=rC B.Rb (.inr (.inr (.inl rfl)));have Zx:∀b,ze F b->o b:=P.own;have c8:=mP ((ir _ tt).trans hb);have c5:=ym N.bn.2.2;have dW:oE w' F.St F.b5.length (qC F.b5) (yj F.b5) (lH B.NM F.b5) F.cw:=iW P.lay.steps (ir _ (Zx _ (.inl rfl))) (fun s hs=>ir _ (Zx _ (.inr (.inr (.inl ⟨s,hs,rfl⟩))))) N.size;have hRw:=hF.lt Jg;have new:∀b,w.heap.size<=b->∀c,o c->c≠b:=fun b hb c hc e=>by have:=hF.lt hc;omega
 have afU:∀s,s<B.rs.length->ch s≠Nb:=fun s hs=>qE (N.nZ s hs).2.2 N.nb.2.2 an;obtain⟨csM,hM,-,-⟩:=N.mb.2.2;have Im:∀c,o c->o' c/\c≠Nb/\∀s,s<B.rs.length->c≠ch s:=fun c hc=>⟨up c hc,new Nb N.nb.1 c hc,fun s hs=>new (ch s) (N.nZ s hs).1 c hc⟩;have lsp:=(h.lo lo F rfl);have four:∀s,s<B.rs.length->(lH B.NM F.b5 s).length<=4:=fun s hs=>by
  have rX:s<F.b5.length:=aa;unfold lH;rw[bG,mR rX];exact h.right.four _ (P.perm.mem_iff.1 (aD rX))
 have JO:=h.apart;refine {DI:=⟨c5.1,c5.2.1,c5.2.2.1,c5.2.2.2.1,c5.2.2.2.2.1,?_,fun s hs=>dW.eD s (by rw[hlen];exact hs),fun s hs=>dW.zJ s (by rw[hlen];exact hs),fun s hs j hj=>dW.Bw s (by rw[hlen];exact hs) j hj,(hv.of_block (ir _ V8)).lj,fun s hs=>?_⟩,pow:=fun q hq=>(cell_of (a:=⟨1,q,none⟩) (ir 1 (rC 1 (.inr (.inr (.inr (.inl rfl))))))).trans (h.pow q hq),order:=?_,Kv:=fun k hk=>?_,still:=fun b hb=>?_,nZ:=fun s hs=>⟨?_,?_,afU s hs,0,0,false,(N.nZ s hs).2.2⟩,wh:=N.inj,BC:=up _ Jg,BD:=?_,apart:=(Im _ Jg).2.1,R0:=?_,N0:=⟨_,N.nb.2.2,by simp[size_madeCells];rfl⟩,idle:=fun s hs=>⟨?_,?_,?_,⟨_,_,N.nb.2.2⟩⟩,vv:=fun s b vs hs ho=>?_,pI:=fun i hi=>?_,XU:=fun i j hi hj e=>?_,XV:=fun s hs=>?_,dep:=fun i hi m hm=>?_,src:=fun s hs m hm=>?_,short:=four,gT:=by show B.rs.length<=_;have:=h.rules.gT;omega,TV:=?_,made:=fun s hs=>?_,eD:=fun s hs=>?_,size:=fun s hs=>?_}
 ·show w'.cell? ⟨B.bb,4,none⟩=some (.slice (some ⟨F.St,0,none⟩) B.rs.length B.rs.length);rw[c8.2.2.2.2.1,hy0,hlen]
 ·have rX:s<B.rs.length:=hs;have:=N.mb.2.2.cell rX;rw[if_pos rX] at this;exact this
 ·show w'.cell? ⟨B.bb,5,none⟩=some (.slice (some ⟨F.Or,0,none⟩) B.rs.length B.rs.length);rw[c8.2.2.2.2.2.1,hy1,hlen]
 ·have kY:k<F.b5.length:=by rw[hlen];exact hk
  exact(World.rowIs.of_block P.lay.ord (ir _ (Zx _ (.inr (.inl rfl))))).cell kY
 ·rcases hb with hb|rfl|rfl|rfl|hb|rfl|rfl|⟨s,hs,rfl⟩|⟨s,vs,hs,ho⟩
  ·have e:b=bn:=hb;rw[e];exact⟨by rw[N.own];exact .inr ⟨N.bn.1,N.bn.2.1⟩,fun e=>new bn N.bn.1 _ Jg e.symm,qE N.bn.2.2 N.nb.2.2 an,fun s hs=>qE N.bn.2.2 (N.nZ s hs).2.2 an⟩
  ·obtain⟨q1,q2,q3⟩:=Im _ tt;exact⟨q1,fun e=>JO.2.1 e.symm,q2,q3⟩
  ·obtain⟨q1,q2,q3⟩:=Im _ (Zx F.St (.inl rfl));exact⟨q1,fun e=>by have:=P.ge (b:=F.St) (.inl rfl);have e:F.St=B.Rb:=e;omega,q2,q3⟩
  ·obtain⟨q1,q2,q3⟩:=Im _ V8;exact⟨q1,Zw,q2,q3⟩
  ·have e:b=Mb:=hb;rw[e];exact⟨by rw[N.own];exact .inr ⟨N.mb.1,N.mb.2.1⟩,fun e=>new Mb N.mb.1 _ Jg e.symm,qE hM N.nb.2.2 (by intro e;cases e),fun s hs=>qE hM (N.nZ s hs).2.2 an⟩
  ·obtain⟨q1,q2,q3⟩:=Im _ (Zx F.Or (.inr (.inl rfl)));exact⟨q1,fun e=>by have:=P.ge (b:=F.Or) (.inr (.inl rfl));have e:F.Or=B.Rb:=e;omega,q2,q3⟩
  ·obtain⟨q1,q2,q3⟩:=Im _ (rC 1 (.inr (.inr (.inr (.inl rfl)))));exact⟨q1,fun e=>by have e:1=B.Rb:=e;omega,q2,q3⟩
  ·have hl:ze F (F.cw s):=.inr (.inr (.inl ⟨s,by rw[hlen];exact hs,rfl⟩));obtain⟨q1,q2,q3⟩:=Im _ (Zx _ hl);exact⟨q1,fun e=>by have:=P.ge hl;have e:F.cw s=B.Rb:=e;omega,q2,q3⟩
  ·obtain⟨q1,q2,q3⟩:=Im _ (rC b (.inr (.inr (.inr (.inr (.inr (.inr ⟨s,vs,hs,ho⟩)))))));obtain⟨-,-,r3,-⟩:=h.vv s b vs hs ho;exact⟨q1,fun e=>by have e:b=B.Rb:=e;omega,q2,q3⟩
 ·show o' (ch s);rw[N.own];exact .inr ⟨(N.nZ s hs).1,(N.nZ s hs).2.1⟩
 ·exact fun e=>new (ch s) (N.nZ s hs).1 _ Jg e.symm
 ·show o' Nb;rw[N.own];exact .inr ⟨N.nb.1,N.nb.2.1⟩
 ·obtain⟨cs,q1,q2⟩:=h.runs;exact⟨cs,(ir _ Jg).trans q1,q2⟩
 ·have q:=(h.idle s hs (yj F.b5 s) (fun Ra F' hf=>by cases hf;rfl)).keep (ir _ Jg);cases hx:old s with
  |none=>rw[hx] at q;exact⟨q.1,q.2.1,q.2.2.1,q.2.2.2⟩
  |some x=>rw[hx] at q;exact⟨q.1,q.2.1,q.2.2.1,q.2.2.2⟩
 ·have rX:s<B.rs.length:=hs;show w'.cell? ⟨Nb,s,none⟩=some (.bool false);simp[World.cell?,N.nb.2.2,madeCells,rX,Nat.mod_one]
 ·obtain⟨cs,q1,q2⟩:=h.runs;exact⟨cs,_,(ir _ Jg).trans q1⟩
 ·obtain⟨q1,q2,-⟩:=h.vv s b vs hs ho;exact⟨(q1.of_block (ir _ (rC b (.inr (.inr (.inr (.inr (.inr (.inr ⟨s,vs,hs,ho⟩))))))))).lj,q2⟩
 ·have lQ:i<(dK (lH B.NM F.b5) F.b5.length F.b5.length).length:=by rw[k1,hlen];exact hi
  show xh B F i<B.rs.length;unfold xh;rw[<- hlen];simp only[List.getD,List.getElem?_eq_getElem lQ,Option.getD_some];exact k2.2 _ (aD lQ)
 ·have lQ:i<(dK (lH B.NM F.b5) F.b5.length F.b5.length).length:=by rw[k1,hlen];exact hi
  have rY:j<(dK (lH B.NM F.b5) F.b5.length F.b5.length).length:=by rw[k1,hlen];exact hj
  unfold xh at e;simp only[List.getD,List.getElem?_eq_getElem lQ,List.getElem?_eq_getElem rY,Option.getD_some] at e;have nd:=List.pairwise_iff_getElem.1 k2.1;rcases gE i j with q|q|q
  ·exact absurd e (nd i j lQ rY q)
  ·exact q
  ·exact absurd e.symm (nd j i rY lQ q)
 ·obtain⟨i,hi,e⟩:=a8 (k3 s (by rw[hlen];exact hs));refine⟨i,by show i<B.rs.length;rw[<- hlen,<- k1];exact hi,?_⟩;unfold xh;simp only[List.getD,List.getElem?_eq_getElem hi,Option.getD_some];exact e
 ·have lQ:i<(dK (lH B.NM F.b5) F.b5.length F.b5.length).length:=by rw[k1,hlen];exact hi
  have e1:xh B F i=(dK (lH B.NM F.b5) F.b5.length F.b5.length)[i]:=by
   unfold xh;simp only[List.getD,List.getElem?_eq_getElem lQ,Option.getD_some]
  have hm':(true,m)∈lH B.NM F.b5 (xh B F i):=hm;rw[e1] at hm';obtain⟨k,hk,Na,e⟩:=k4 i lQ m hm';refine⟨k,Na,?_⟩;unfold xh;simp only[List.getD,List.getElem?_eq_getElem hk,Option.getD_some];exact e
 ·have rX:s<F.b5.length:=by rw[hlen];exact hs
  have:=UB hS rX hm;rw[yq P.perm] at this;show m<((iq B.NM B.rs).map file).length;rw[bG];exact this
 ·show((iq B.NM B.rs).map file).length<=100000;rw[bG];have q1:=xa (ll (B.rs.map (·.out)) (Fh B.NM B.rs) B.rs.length);have q2:=py (B.rs.map (·.out)) (Fh B.NM B.rs) B.rs.length (fun i hi=>by rw[mR hi];exact h.right.four _ (aD hi)) B.rs.length (ag _);have q3:=h.rules.gT;have:(iq B.NM B.rs).length<=(ll (B.rs.map (·.out)) (Fh B.NM B.rs) B.rs.length).length:=q1;omega
 ·rw[oH h.right P.perm hS file Vb bn Nb Mb ch hs];exact Eh h.right P.perm file hs
 ·have rX:s<F.b5.length:=by rw[hlen];exact hs
  show 1<=yj F.b5 s/\yj F.b5 s<=5;rw[Mc rX];exact h.right.eD _ (P.perm.mem_iff.1 (aD rX))
 ·rw[oH h.right P.perm hS file Vb bn Nb Mb ch hs];have rX:s<F.b5.length:=by rw[hlen];exact hs
  have q:∀t∈(mi B F file s).map (·.2),t.size<=100:=fun t ht=>by
   obtain⟨x,hx,rfl⟩:=List.mem_map.1 ht;obtain⟨y,-,rfl⟩:=List.mem_map.1 hx;exact Ef h.right.four pU _ y
  have q2:=Ik q;have q3:((mi B F file s).map (·.2)).length<=4:=by
   rw[bG];unfold mi;rw[bG,mR rX];exact h.right.four _ (P.perm.mem_iff.1 (aD rX))
  omega
theorem B0{w w':ae}{bn Lb Lo St Rb Nb n:Nat}{out:Nat->ah}{eD:Nat->Int}{ins:Nat->List (Bool×Nat)}{cw:Nat->Nat}{res:Nat->Kz.V}{ku:Nat->Bool}(h:oG w bn Lb Lo St Rb Nb n out eD ins cw res ku)(hz:w.heap.size<=w'.heap.size)(e:∀b,b=bn\/b=Lb\/b=St\/b=Rb\/b=Nb\/(∃s,s<n/\b=cw s)->w'.heap[b]?=w.heap[b]?):oG w' bn Lb Lo St Rb Nb n out eD ins cw res ku where
 b0:=(cell_of (e bn (.inl rfl))).trans h.b0
 b2:=(cell_of (e bn (.inl rfl))).trans h.b2
 b3:=(cell_of (e bn (.inl rfl))).trans h.b3
 st:=(cell_of (e Lb (.inr (.inl rfl)))).trans h.st
 steps:=iW h.steps (e St (.inr (.inr (.inl rfl)))) (fun s hs=>e _ (.inr (.inr (.inr (.inr (.inr ⟨s,hs,rfl⟩)))))) hz
 r2 s hs:=(cell_of (e Rb (.inr (.inr (.inr (.inl rfl)))))).trans (h.r2 s hs)
 r3 s hs:=(cell_of (e Rb (.inr (.inr (.inr (.inl rfl)))))).trans (h.r3 s hs)
 ku s hs:=(cell_of (e Nb (.inr (.inr (.inr (.inr (.inl rfl))))))).trans (h.ku s hs)
 lbn:=by have:=h.lbn;omega
 lLb:=by have:=h.lLb;omega
 lSt:=by have:=h.lSt;omega
 lRb:=by have:=h.lRb;omega
 lNb:=by have:=h.lNb;omega
def mz(old:Nat->Option (Nat×List V))(ins:Nat->List V)(s:Nat):Bool:=match old s with
 |none=>true
 |some (_,vs)=>!decide (vs=ins s)
theorem fq.built{B:zf}{lo:Nat}{F:dm}{old:Nat->Option (Nat×List V)}{file:ah->V}{Vb bn Nb Mb:Nat}{ch:Nat->Nat}{o1 o2:aM}{w1 w2:ae}(hF:bE ar L0 o w)(rh:bE ar L0 o2 w2)(h:fq o w B (some (lo,F)) old)(mW:∀b,o b->o1 b)(hz:w.heap.size<=w1.heap.size)(hold:∀b,b<w.heap.size->w1.heap[b]?=w.heap[b]?)(EK:w.heap.size<=Nb)(uh:∀s,s<B.rs.length->w.heap.size<=ch s)(Q:QP (yr B F file Vb bn Nb Mb ch) (kW B F file) old o1 w1 o2 w2):
  (∃ir,fq o2 w2 B (some (lo,F)) ir/\∀s,s<B.rs.length->∃b,ir s=some (b,mi B F file s)/\((∃vs,old s=some (b,vs))\/w.heap.size<=b))/\(∀b,b<w.heap.size->b≠B.Rb->w2.heap[b]?=w.heap[b]?) /\
   ∀s,s<B.rs.length->w2.cell? ⟨B.Rb,s*4+2,none⟩=some (.bool (kW B F file s).1)/\w2.cell? ⟨B.Rb,s*4+3,none⟩=some (.string (kW B F file s).2)/\w2.cell? ⟨Nb,s,none⟩=some (.bool (mz old (mi B F file) s)):=by
 obtain⟨y0,y1,y2,hb,hp⟩:=h.blk;have P:=hp lo F rfl;have hlen:=P.perm.length_eq;have hS:=zd (h.right.perm P.perm).nodup P.sorted;have rC:∀b,mB B (some (lo,F)) old b->o b:=h.own;have sm:∀b,b<w.heap.size->b≠B.Rb->w2.heap[b]?=w.heap[b]?:=fun b hb hn=>by
  rw[Q.same b aa hn (fun e=>by have e:b=Nb:=e;omega) (fun s hs e=>by have e:b=ch s:=e;have:=uh s hs;omega)];exact hold b hb
 have up:∀b,o b->o2 b:=fun b hb=>Q.more b (mW b hb);have lsp:=h.lo lo F rfl;obtain⟨a1,a2,a3,a4,a5,a6,a7⟩:=h.apart;have hRw:B.Rb<w.heap.size:=hF.lt (rC _ (.inr (.inr (.inl rfl))));have gv:B.bb<w.heap.size:=hF.lt (rC _ (.inl rfl));have run:∀s,∃b,s<B.rs.length->uQ (yr B F file Vb bn Nb Mb ch) s w2 b (mi B F file s) (kW B F file s)/\eM w2 b (mi B F file s)/\o2 b/\B.Rb<b/\B.bb<b/\((∃vs,old s=some (b,vs))\/w.heap.size<=b):=fun s=>by
  by_cases hs:s<B.rs.length
  ·have q:=Q.runs s hs;rw[oH h.right P.perm hS file Vb bn Nb Mb ch hs] at q;rcases q with⟨b,q1,q2,q3⟩|⟨q1,b,q2,q3,q4,q5⟩
   ·obtain⟨r1,r2,r3,r4⟩:=h.vv s b _ hs q1;have fD:=rC b (.inr (.inr (.inr (.inr (.inr (.inr ⟨s,_,hs,q1⟩))))));exact⟨b,fun _=>⟨q2,r1.of_block (sm b (hF.lt fD) aa),up b fD,r3,r4,.inl ⟨_,q1⟩⟩⟩
   ·have:=q2.2;exact⟨b,fun _=>⟨q4,q3,q2.1,aa,aa,.inr aa⟩⟩
  ·exact⟨0,fun e=>absurd e hs⟩
 obtain⟨f,hf⟩:∃f:Nat->Nat,∀s,s<B.rs.length->uQ (yr B F file Vb bn Nb Mb ch) s w2 (f s) (mi B F file s) (kW B F file s)/\eM w2 (f s) (mi B F file s)/\o2 (f s)/\B.Rb<f s/\B.bb<f s/\((∃vs,old s=some (f s,vs))\/w.heap.size<=f s):=⟨fun s=>Classical.choose (run s),fun s=>Classical.choose_spec (run s)⟩;have l4:∀s,s<B.rs.length->(mi B F file s).length<=4:=fun s hs=>by
  have rX:s<F.b5.length:=aa;unfold mi;rw[bG,mR rX];exact h.right.four _ (P.perm.mem_iff.1 (aD rX))
 refine⟨⟨fun s=>some (f s,mi B F file s),⟨fun b hb=>?_,h.right,h.rules.keep up (sm _ (hF.lt (rC _ (.inr (.inl rfl)))) a6) fun r hr hn=>sm _ (hF.lt (rC _ (.inr (.inr (.inr (.inr (.inl ⟨r,hr,hn,rfl⟩))))))) (a7 r hr hn),h.apart,⟨y0,y1,y2,(sm _ gv fun e=>a2 e.symm).trans hb,fun Ra F' hf'=>?_⟩,h.lo,(fun e=>by cases e),Q.R0,fun s hs r hr=>?_,fun s b vs hs ho=>?_,fun q hq=>?_⟩,fun s hs=>⟨f s,rfl,(hf s hs).2.2.2.2.2⟩⟩,sm,fun s hs=>?_⟩
 ·rcases hb with hb|hb|hb|hb|hb|hb|⟨s,vs,hs,ho⟩
  ·exact up _ (rC b (.inl hb))
  ·exact up _ (rC b (.inr (.inl hb)))
  ·exact up _ (rC b (.inr (.inr (.inl hb))))
  ·exact up _ (rC b (.inr (.inr (.inr (.inl hb)))))
  ·exact up _ (rC b (.inr (.inr (.inr (.inr (.inl hb))))))
  ·exact up _ (rC b (.inr (.inr (.inr (.inr (.inr (.inl hb)))))))
  ·cases ho;exact(hf s hs).2.2.1
 ·cases hf';exact P.keep (fun b hb=>up _ (P.own b hb)) (by have:=Q.size;omega) fun b hb=>sm b (hF.lt (P.own b hb)) (by have:=P.ge hb;omega)
 ·have SJ:=hr lo F rfl;obtain⟨q1,-⟩:=hf s hs;rw[SJ];have e:=Eh h.right P.perm file hs;refine⟨q1.c0,q1.c1,?_,?_⟩
  ·rw[<- e];exact q1.c2
  ·rw[<- e];exact q1.c3
 ·cases ho;obtain⟨-,q2,-,q4,q5,-⟩:=hf s hs;exact⟨q2,by have:=l4 s hs;omega,q4,q5⟩
 ·exact(cell_of (a:=⟨1,q,none⟩) (sm 1 (hF.lt (rC 1 (.inr (.inr (.inr (.inl rfl)))))) aa)).trans (h.pow q hq)
 ·obtain⟨q1,-⟩:=hf s hs;refine⟨q1.c2,q1.c3,?_⟩;have q:=Q.runs s hs;rw[oH h.right P.perm hS file Vb bn Nb Mb ch hs] at q;rcases q with⟨b,q1,q2,q3⟩|⟨q1,b,q2,q3,q4,q5⟩
  ·have:mz old (mi B F file) s=false:=by simp[mz,q1]
   rw[this];exact q3
  ·have:mz old (mi B F file) s=true:=by
    unfold mz;cases ho:old s with
    |none=>rfl
    |some x =>
     obtain⟨b',vs⟩:=x;have:vs≠mi B F file s:=fun e=>q1 b' (by rw[ho,e]);simp[this]
   rw[this];exact q5
theorem UD[Payload](hF:bE ar L0 o w)(B:zf)(lo:Nat)(F:dm)(old:Nat->Option (Nat×List V))(h:fq o w B (some (lo,F)) old)(file:ah->V)(pU:∀x,(file x).2.size<=100)(Vb nv:Nat)(V8:o Vb)(Zw:Vb≠B.Rb)(hv:eM w Vb ((iq B.NM B.rs).map file))(hnv:nv=((iq B.NM B.rs).map file).length):
  bp ar (XB ar Fin 0) 42 #[.pointer (some ⟨B.bb,0,none⟩),.slice (some ⟨Vb,0,none⟩) nv nv] o w fun v o' w'=>∃R rv ir,v=.tuple #[.slice (some ⟨R,0,none⟩) B.rs.length B.rs.length,rv]/\bu (·=B.Rb) o w o' w'/\fq o' w' B (some (lo,F)) ir/\(∀s,s<B.rs.length->∃b,ir s=some (b,mi B F file s)/\((∃vs,old s=some (b,vs))\/w.heap.size<=b)) /\
   (w.heap.size<=R/\o' R/\w'.rowIs R 65 (B.rs.length*3) (gq (qC F.b5) (kW B F file) B.rs.length))/\ga w.heap.size (qA (qC F.b5) (mz old (mi B F file)) B.rs.length) rv w'/\Cl ar L0 o' rv/\(∀g l c,rv=.slice (some ⟨g,0,none⟩) l c->o' g)/\∃mid,w.heap.size<=mid/\mid<=R/\(∀b,mB B (some (lo,F)) ir b->b<mid)/\∀g,rv.ownBlock=some g->mid<=g:=by
 have W:=bJ (P:=ar) (Fin:=Fin) (d:=0);refine bA W func42 ai ?_;walk_nrmf Tryz.f42;have afV:=hnv.symm;clear hnv;have tt:=h.own B.bb (.inl rfl);have Jg:=h.own B.Rb (.inr (.inr (.inl rfl)));have hn8:=h.rules.gT;obtain⟨y0,y1,y2,hb,hp⟩:=h.blk;have P:=hp lo F rfl;have hb:w.heap[B.bb]?=some (Ji (.slice B.p B.rs.length B.c) (.int .u32 1) (.int .i32 0) (.int .u32 0) y0 y1 y2 (.slice (some ⟨B.Rb,0,none⟩) B.rs.length B.rs.length)):=by simpa using hb
 have gv:=hF.lt tt;refine aA ?_;refine dq mixed af [some none,some none,some none,some (some (.pointer (some ⟨B.bb,4,none⟩))),some none,some none,some none,some none,some (some (.slice (some ⟨B.Rb,0,none⟩) B.rs.length B.rs.length)),none,some none]
  (S:=fun σ o' w'=>(σ 9=none/\bu (fun _=>False) o w o' w')\/(∃y,σ 9=some y/\∃o1 w1 bn Nb Mb ch,bu (fun _=>False) o w o1 w1/\y=.pointer (some ⟨bn,0,none⟩)/\jo o1 w1 (.pointer (some ⟨B.bb,4,none⟩)) (.slice (some ⟨Vb,0,none⟩) nv nv) (.slice (some ⟨B.Rb,0,none⟩) B.rs.length B.rs.length) B.rs.length bn Nb Mb ch B.rs.length o' w')) ?_ fun v=>?_
 ·exact .inl ⟨rfl,bu.refl hF⟩
 refine dp ?_;refine bO ?_;refine iL rfl rfl ai rfl func73 af rfl (av:=#[.pointer (some ⟨B.bb,0,none⟩)]) aC (fun σ o' w' H hS=>?_) ?_
 ·rcases hS with⟨h9,hW⟩|⟨y,h9,-⟩
  ·refine(BT hW.ay B.bb (hW.more _ tt) _ _ _ y0 y1 y2 _ ((hW.same _ gv id).trans hb)).mono ?_;rintro v' o2 w2 ⟨rfl,N⟩;exact⟨rfl,.inl ⟨h9,hW.trans (bu.dL N)⟩⟩
  ·rw[H.sg 9 af] at h9;cases h9
 refine bO ?_;refine bK aX rfl rfl rfl ai ai (fun σ o' w' H hS=>?_) ?_
 ·rcases hS with⟨h9,hW⟩|⟨y,h9,-⟩
  ·have kB:=hW.more _ tt;refine⟨hW.ay,fun y hy=>?_,fun wl aE=>?_⟩
   ·simp[Op.operands] at hy;subst hy;simp[Act.eval];exact aH kB
   ·have c7:=(mP ((hW.same _ gv id).trans hb)).2.2.2.2.2.2.2.1;simp[go_sem,(aE.cell kB).trans c7]
  ·rw[H.sg 9 af] at h9;cases h9
 walk_nrm;refine rj rfl rfl ai rfl func72 af rfl (av:=#[.pointer (some ⟨B.bb,4,none⟩),.slice (some ⟨Vb,0,none⟩) nv nv,.slice (some ⟨B.Rb,0,none⟩) B.rs.length B.rs.length]) aC (fun σ o' w' H h9 hS=>?_) ?_
 ·rcases hS with⟨-,hW⟩|⟨y,h9',-⟩
  ·refine(KS hW.ay B.bb 4 Vb nv B.Rb B.rs.length aa (hW.more _ tt) (hW.more _ V8) (hW.more _ Jg)).mono ?_;rintro y o2 w2 ⟨bn,Nb,Mb,ch,rfl,N⟩;exact .inr ⟨_,by simp[dB],o',w',bn,Nb,Mb,ch,hW,rfl,N⟩
  ·rw[h9] at h9';cases h9'
 refine bO ?_;refine cd fun σ o2 w2 kP hS=>?_;rcases hS with⟨h9,-⟩|⟨y,h9,o1,w1,bn,Nb,Mb,ch,hW,rfl,N⟩
 ·rw[kP 9 dh rfl] at h9;cases h9
 have hv9:v 9=.pointer (some ⟨bn,0,none⟩):=by
  have:=kP 9 dh rfl;rw[h9] at this;exact(aK this).symm
 rw[hv9];simp only[gN,cZ,if_true,if_false,reduceIte,Nat.reduceEqDiff];refine aA ?_;have h1:=h.keep hW.more hW.size fun b hb=>hW.same b (hF.lt (h.own b hb)) id;have BA:=Rk hW.ay h1 pU (hW.more _ V8) Zw (hv.of_block (hW.same _ (hF.lt V8) id)) afV.symm N;refine aF W rfl ai rfl func74 af rfl (by simp[Act.eval];rfl) rfl ((NT N.ay BA).mono ?_);rintro v3 o3 w3 ⟨rfl,Q,qu⟩;refine aA ?_;obtain⟨⟨ir,xA,mr⟩,sm,rr⟩:=h1.built hW.ay qu (fun b hb=>by rw[N.own];exact .inl hb) N.size N.old N.nb.1 (fun s hs=>(N.nZ s hs).1) Q;have Yk:o2 bn:=by rw[N.own];exact .inr ⟨N.bn.1,N.bn.2.1⟩
 obtain⟨-,n1,n2,n3⟩:=BA.still bn (.inl rfl);have vz:w3.heap[bn]?=w2.heap[bn]?:=Q.same bn (N.ay.lt Yk) n1 n2 n3;have c5:=ym (vz.trans N.bn.2.2);obtain⟨z0,z1,z2,vE,hp3⟩:=xA.blk;have P3:=hp3 lo F rfl;have hlen:=P3.perm.length_eq;have ow:=P3.lay.val;simp only[Value.agg.injEq] at ow;have WI:z0=.slice (some ⟨F.St,0,none⟩) F.b5.length F.b5.length:=by have:=congrArg (fun a:Array Value=>a[0]?) ow;simpa using this
 have abP:=xA.own B.bb (.inl rfl);have abQ:=xA.own B.Rb (.inr (.inr (.inl rfl)));have abR:o3 Nb:=Q.more _ (by rw[N.own];exact .inr ⟨N.nb.1,N.nb.2.1⟩);have UE:oG w3 bn B.bb 4 F.St B.Rb Nb B.rs.length (qC F.b5) (yj F.b5) (lH B.NM F.b5) F.cw (kW B F file) (mz old (mi B F file)) :=
  ⟨c5.1,c5.2.2.1,c5.2.2.2.1,by rw[(mP vE).2.2.2.2.1,WI,hlen],by rw[<- hlen];exact P3.lay.steps,fun s hs=>(rr s hs).1,fun s hs=>(rr s hs).2.1,fun s hs=>(rr s hs).2.2,qu.lt (Q.more _ Yk),qu.lt abP,qu.lt (P3.own _ (.inl rfl)),qu.lt abQ,qu.lt abR⟩
 have uG:∀b,b=bn\/b=B.bb\/b=F.St\/b=B.Rb\/b=Nb\/(∃s,s<B.rs.length/\b=F.cw s)->o3 b:=by
  rintro b (rfl|rfl|rfl|rfl|rfl|⟨s,hs,rfl⟩)
  ·exact Q.more _ Yk
  ·exact abP
  ·exact P3.own _ (.inl rfl)
  ·exact abQ
  ·exact abR
  ·exact P3.own _ (.inr (.inr (.inl ⟨s,aa,rfl⟩)))
 refine aF W rfl ai rfl func75 af rfl aC rfl ((Oj qu bn B.bb 4 F.St B.Rb Nb B.rs.length _ _ _ _ _ _ aa UE uG).mono ?_);rintro v4 o4 w4 ⟨N4,rfl,z4,afW⟩;refine aA ?_;have u4:∀b,o3 b->o4 b:=fun b hb=>by rw[N4.own];exact .inl hb
 have afX:=B0 UE N4.size fun b hb=>N4.old b (qu.lt (uG b hb));refine aF W rfl ai rfl func76 af rfl aC rfl ((Ol N4.ay bn B.bb 4 F.St B.Rb Nb B.rs.length _ _ _ _ _ _ aa afX (fun b hb=>u4 _ (uG b hb))).mono ?_);rintro v5 o5 w5 ⟨N5,t5⟩;refine aA ?_;have W4:bu (·=B.Rb) o3 w3 o4 w4:=bu.dL N4;have W5:bu (·=B.Rb) o4 w4 o5 w5:=bu.dL N5;have zQ:=Q.size;have zN:=N.size;have zW:=hW.size;have W3:bu (·=B.Rb) o w o3 w3:=by
  refine⟨qu,fun b hb=>Q.more _ (by rw[N.own];exact .inl (hW.more _ hb)),fun b hb=>?_,aa,fun b hb hx=>?_⟩
  ·rcases Q.new b hb with q|q
   ·rw[N.own] at q;rcases q with q|q
    ·rcases hW.new b q with q|q
     ·exact .inl q
     ·exact .inr q
    ·exact .inr aa
   ·exact .inr aa
  ·rw[sm b aa hx];exact hW.same b hb id
 have W45:=W4.trans W5;refine⟨.inr trivial,trivial,_,resultsC_tmp2 (t:=4) (u:=5) ai _,w3.heap.size,v5,ir,aC,W3.trans W45,xA.keep W45.more W45.size fun b hb=>?_,fun s hs=>(mr s hs).imp fun b q=>⟨q.1,q.2.imp id fun e=>aa⟩,⟨aa,W5.more _ (by rw[N4.own];exact .inr ⟨ag _,z4⟩),World.rowIs.of_block afW (N5.old _ z4)⟩,kJ t5 (by have:=N4.size;omega) (ag _) (fun _ _ _=>rfl),N5.cl,fun g l c e=>?_,w3.heap.size,aa,ag _,fun b hb=>qu.lt (xA.own b hb),fun g hg=>?_⟩
 ·have hl:=qu.lt (xA.own b hb);rw[N5.old b (by have:=N4.size;omega),N4.old b hl]
 ·rcases t5 with⟨q1,-⟩|⟨g',cap,q1,q2,q3,q4,q5⟩
  ·rw[q1] at e;cases e
  ·rw[q1] at e;cases e;rw[N5.own];exact .inr ⟨q3,q4⟩
 ·rcases t5 with⟨q1,-⟩|⟨g',cap,q1,q2,q3,q4,q5⟩
  ·rw[q1] at hg;cases hg
  ·rw[q1] at hg;have e:g'=g:=aK hg;have:=N4.size;omega
end
def mj(w:ae)(r:Nat)(l:List (ah×Value)):Prop:=∃es clock,w.heap[r]?=some (.map es clock)/\es.toList.map (fun e=>(e.key,e.val))=l.map fun p=>(Value.string p.1,p.2)
theorem mj.of_block{w w':ae}{r:Nat}{l:List (ah×Value)}(h:mj w r l)(e:w'.heap[r]?=w.heap[r]?):mj w' r l:=by
 obtain⟨es,c,h1,h2⟩:=h;exact⟨es,c,e.trans h1,h2⟩
def eO{α:Type}:List (ah×α)->ah->Option α
 | [],_=>none
 | (k,v)::l,x=>if x=k then some v else eO l x
def gU{α:Type}:List (ah×α)->ah->α->List (ah×α)
 | [],x,v=>[(x,v)]
 | (k,u)::l,x,v=>if x=k then(x,v)::l else(k,u)::gU l x v
def lI{α:Type}:List (ah×α)->ah->List (ah×α)
 | [],_=>[]
 | (k,u)::l,x=>if x=k then l else(k,u)::lI l x
def rD:List (ah×Value)->ah->Nat->Option (Nat×Value)
 | [],_,_=>none
 | (k,v)::l,x,i=>if x=k then some (i,v) else rD l x (i+1)
theorem Me(a b:ah):(a==b)=decide (a=b):=by
 by_cases h:a=b
 ·rw[(MapKept.bytes_beq a b).2 h];simp[h]
 ·cases hb:(a==b) with
  |false=>simp[h]
  |true=>exact absurd ((MapKept.bytes_beq a b).1 hb) h
theorem pV(x:ah):∀(es:List MapEntry) (l:List (ah×Value)) (i:Nat),es.map (fun e=>(e.key,e.val))=l.map (fun p=>(Value.string p.1,p.2))->Instr.findNow .string (.string x) es i=some (rD l x i)
 | [],[],i,_=>rfl
 | [],_::_,i,h=>by simp at h
 |_::_,[],i,h=>by simp at h
 |e::es,(k,v)::l,i,h=>by
  simp only[List.map_cons,List.cons.injEq,Prod.mk.injEq] at h;obtain⟨⟨h1,h2⟩,h3⟩:=h;unfold Instr.findNow;rw[h1];simp only[Instr.sameNow,Me];by_cases hx:x=k
  ·subst hx;simp[rD,h2]
  ·simp only[rD,if_neg hx,decide_eq_false hx];exact pV x es l (i+1) h3
theorem Io(x:ah):∀(l:List (ah×Value)) (i:Nat),(rD l x i).map (·.2)=eO l x
 | [],i=>rfl
 | (k,v)::l,i=>by
  by_cases hx:x=k
  ·simp[rD,eO,hx]
  ·simp only[rD,eO,if_neg hx];exact Io x l (i+1)
theorem xi{x:ah}{v:Value}:∀{l:List (ah×Value)} {i j:Nat} {u:Value},rD l x i=some (j,u)->i<=j/\j<i+l.length/\gU l x v=l.set (j-i) (x,v)/\(l.map (·.1))[j-i]?=some x
 | [],i,j,u,h=>by cases h
 | (k,w)::l,i,j,u,h=>by
  by_cases hx:x=k
  ·simp only[rD,if_pos hx,Option.some.injEq,Prod.mk.injEq] at h;obtain⟨rfl,rfl⟩:=h;simp[gU,hx]
  ·simp only[rD,if_neg hx] at h;obtain⟨h1,h2,h3,h4⟩:=xi (v:=v) h;have e:j-i=(j-(i+1))+1:=aa;refine⟨aa,eR,?_,?_⟩
   ·rw[e];simp[gU,if_neg hx,h3]
   ·rw[e];simpa using h4
theorem Ip{x:ah}:∀{l:List (ah×Value)} {i j:Nat} {u:Value},rD l x i=some (j,u)->lI l x=l.eraseIdx (j-i)
 | [],i,j,u,h=>by cases h
 | (k,w)::l,i,j,u,h=>by
  by_cases hx:x=k
  ·simp only[rD,if_pos hx,Option.some.injEq,Prod.mk.injEq] at h;obtain⟨rfl,rfl⟩:=h;simp[lI,hx]
  ·simp only[rD,if_neg hx] at h;have h1:=(xi (v:=u) h).1;have e:j-i=(j-(i+1))+1:=aa;rw[e];simp only[lI,if_neg hx,List.eraseIdx_cons_succ];rw[Ip h]
theorem yt{x:ah}{v:Value}:∀{l:List (ah×Value)} {i:Nat},rD l x i=none->gU l x v=l++[(x,v)]/\lI l x=l
 | [],i,h=>by simp[gU,lI]
 | (k,w)::l,i,h=>by
  by_cases hx:x=k
  ·simp[rD,if_pos hx] at h
  ·simp only[rD,if_neg hx] at h;obtain⟨h1,h2⟩:=yt (v:=v) h;simp[gU,lI,if_neg hx,h1,h2]
section
variable {P:Program} {w:ae} {r:Nat} {l:List (ah×Value)} {x:ah} {mt kt et:TypeId}
theorem zh(hm:P.underlying mt=some (.map kt et))(hk:P.underlying kt=some .string)(h:mj w r l){z:Value}(hz:(zeroValue et).run P w=.ok z w):(Instr.lookup mt (.map (some r)) (.string x) false).run P w=.ok ((eO l x).getD z) w:=by
 obtain⟨es,c,h1,h2⟩:=h;have hf:=pV x es.toList l 0 h2;have hc:∀e,(Instr.checkKey e 10000 kt (.string x)).run P w=.ok () w:=fun e=>MapKept.run_checkKey (k:=.string x) hk (by simp[MapKept.IsKey]) e 9999;rw[<- Io x l 0];cases hi:rD l x 0 with
 |none =>
  rw[hi] at hf;simp[Instr.lookup,run_underlying hm,MapKept.run_getObj_map h1,hc,MapKept.run_findKey hk hf,Result.andThen,hz]
 |some q =>
  rw[hi] at hf;simp[Instr.lookup,run_underlying hm,MapKept.run_getObj_map h1,hc,MapKept.run_findKey hk hf,Result.andThen]
def pB(w:ae)(r:Nat)(x:Obj):ae:={w with heap:=w.heap.setIfInBounds r x}
theorem nI(hm:P.underlying mt=some (.map kt et))(hk:P.underlying kt=some .string)(h:mj w r l)(v:Value):∃X,(Instr.mapUpdate mt (.map (some r)) (.string x) v).run P w=.ok () (pB w r X)/\mj (pB w r X) r (gU l x v):=by
 obtain⟨es,c,h1,h2⟩:=h;have hf:=pV x es.toList l 0 h2;have hc:∀e,(Instr.checkKey e 10000 kt (.string x)).run P w=.ok () w:=fun e=>MapKept.run_checkKey (k:=.string x) hk (by simp[MapKept.IsKey]) e 9999;have bZ:r<w.heap.size:=(Array.getElem?_eq_some_iff.1 h1).1;have nT:∀X,(pB w r X).heap[r]?=some X:=fun X=>by simp[pB,bZ]
 cases hi:rD l x 0 with
 |none =>
  rw[hi] at hf;refine⟨_,by simp[Instr.mapUpdate,run_underlying hm,MapKept.run_getObj_map h1,hc,MapKept.run_findKey hk hf,MapKept.run_setObj_map _ h1,Result.andThen];rfl,_,_,nT _,?_⟩;rw[(yt (v:=v) hi).1];simp[h2]
 |some q =>
  obtain⟨j,u⟩:=q;rw[hi] at hf;obtain⟨-,hj,hp,PK⟩:=xi (v:=v) hi;rw[Nat.sub_zero] at hp PK;have hlen:es.size=l.length:=by simpa using congrArg List.length h2
  have rY:j<es.size:=aa;have afZ:es[j].key=.string x:=by
   have:=congrArg (fun q=>q[j]?) h2;simp only[List.getElem?_map,Array.getElem?_toList,Array.getElem?_eq_getElem rY,Option.map_some] at this;cases hl:l[j]? with
   |none=>rw[hl] at this;cases this
   |some q =>
    rw[hl] at this;rw[fB,hl] at PK;simp at this PK;rw[this.1,PK]
  have VC:Instr.sameBits 10000 (.string x) (.string x)=true:=by
   unfold Instr.sameBits;rw[Me];simp
  refine⟨_,by simp[Instr.mapUpdate,run_underlying hm,MapKept.run_getObj_map h1,hc,MapKept.run_findKey hk hf,MapKept.run_setObj_map _ h1,Result.andThen,Instr.keyThatStays,rY,afZ,VC];rfl,_,_,nT _,?_⟩;rw[hp];apply List.ext_getElem?;intro k;have PD:=congrArg (fun q=>q[k]?) h2;simp only[List.getElem?_map,Array.getElem?_toList] at PD |-;rw[er];by_cases e:j=k
  ·subst e;simp[Array.getElem?_eq_getElem rY,show j<l.length by omega]
  ·rw[if_neg e,List.getElem?_set_ne e];exact PD
theorem Iq(hm:P.underlying mt=some (.map kt et))(hk:P.underlying kt=some .string)(h:mj w r l)(ty:TypeId):∃X,(Builtin.delete_ #[mt,kt] ty #[.map (some r),.string x]).run P w=.ok (.tuple #[]) (pB w r X)/\mj (pB w r X) r (lI l x):=by
 obtain⟨es,c,h1,h2⟩:=h;have hf:=pV x es.toList l 0 h2;have hc:∀e,(Instr.checkKey e 10000 kt (.string x)).run P w=.ok () w:=fun e=>MapKept.run_checkKey (k:=.string x) hk (by simp[MapKept.IsKey]) e 9999;have bZ:r<w.heap.size:=(Array.getElem?_eq_some_iff.1 h1).1;have nT:∀X,(pB w r X).heap[r]?=some X:=fun X=>by simp[pB,bZ]
 cases hi:rD l x 0 with
 |none =>
  rw[hi] at hf;refine⟨_,by simp[Builtin.delete_,run_underlying hm,MapKept.run_getObj_map h1,hc,MapKept.run_findKey hk hf,MapKept.run_setObj_map _ h1,Result.andThen];rfl,_,_,nT _,?_⟩;rw[(yt (v:=.bool true) hi).2];exact h2
 |some q =>
  obtain⟨j,u⟩:=q;rw[hi] at hf;refine⟨_,by simp[Builtin.delete_,run_underlying hm,MapKept.run_getObj_map h1,hc,MapKept.run_findKey hk hf,MapKept.run_setObj_map _ h1,Result.andThen];rfl,_,_,nT _,?_⟩;have hd:=Ip hi;rw[Nat.sub_zero] at hd;rw[hd];have hlen:es.size=l.length:=by simpa using congrArg List.length h2
  have rY:j<es.size:=by have:=(xi (v:=u) hi).2.1;omega
  simp only[Array.eraseIdxIfInBounds,rY,dif_pos];rw[Array.toList_eraseIdx];have em:∀{α β:Type} (f:α->β) (l:List α) (j:Nat),(l.eraseIdx j).map f=(l.map f).eraseIdx j:=fun f l j=>by
   induction l generalizing j with
   |nil=>rfl
   |cons a l ih=>cases j with
    |zero=>rfl
    |succ j=>simp[ih]
  rw[em,em,h2]
theorem UF(h:mj w r l):∃es c,w.heap[r]?=some (.map es c)/\es.size=l.length:=by
 obtain⟨es,c,h1,h2⟩:=h;exact⟨es,c,h1,by simpa using congrArg List.length h2⟩
end
def qF{α:Type}(f:α->Value)(l:List (ah×α)):List (ah×Value):=l.map fun p=>(p.1,f p.2)
theorem Ft{α:Type}(f:α->Value)(x:ah):∀l:List (ah×α),eO (qF f l) x=(eO l x).map f
 | []=>rfl
 | (k,v)::l=>by
  have:=Ft f x l;simp only[qF,List.map_cons,eO] at this |-;split
  ·rfl
  ·exact this
theorem tT{α:Type}(f:α->Value)(x:ah)(v:α):∀l:List (ah×α),gU (qF f l) x (f v)=qF f (gU l x v)
 | []=>rfl
 | (k,u)::l=>by
  have:=tT f x v l;simp only[qF,List.map_cons,gU] at this |-;split
  ·rfl
  ·rw[this];rfl
theorem Mf{α:Type}(f:α->Value)(x:ah):∀l:List (ah×α),lI (qF f l) x=qF f (lI l x)
 | []=>rfl
 | (k,u)::l=>by
  have:=Mf f x l;simp only[qF,List.map_cons,lI] at this |-;split
  ·rfl
  ·rw[this];rfl
theorem UG{α:Type}(f:α->Value)(l:List (ah×α)):(qF f l).length=l.length:=by simp[qF]
end Go.Proofs.Kz
