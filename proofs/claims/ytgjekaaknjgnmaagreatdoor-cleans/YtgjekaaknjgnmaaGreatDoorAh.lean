import Derived.Test.YtgjekaaknjgnmaaGreatDoorAg
import Derived.SliceStrings
set_option linter.all false
set_option maxHeartbeats 32000000
set_option maxRecDepth 100000
namespace Go.Proofs.Kz
open Go.Proofs.Tryz
open Go.Proofs.Tryz renaming prog → ak
open _root_.ByteArray renaming empty → bF
open _root_.Option renaming some → so,none → we
open Go.Ren Go.Conc Go.Proofs Go.ConcN
section
open Go.RowKit (Hid)
def xf:ag:=⟨#[109,105,110,101]⟩
structure si(w:ae)(A:Nat)(l:iF)(r:aN):Prop where
 out:r.out=l.out
 eT:r.eT=l.eT
 sl:r.sl=l.ins.length
 ex:l.sa=we/\l.ins=[]/\r.sa=we\/(∃a,l.sa=so a)/\∃N,r.sa=so ⟨N,0,we⟩/\r.sc=l.ins.length+1/\A<N/\N<w.heap.size/\w.rowIs N 9 (l.ins.length+1) (jQ (l.ins++[xf]))
structure DT(w0:ae)(A:Nat)(ls:List iF)(k:Nat)(cs:List aN)(w:ae):Prop where
 old:fl w0 w
 al:A=w0.heap.size/\A<w.heap.size
 row:w.rowIs A 42 ((ls.length+1)*3) (gA cs)
 len:cs.length=ls.length+1
 at_:∀i (hi:i<ls.length) (mn:i<cs.length),i<k->si w A ls[i] cs[i]
 rest:∀i,k<=i->∀r,cs[i]?=so r->r=R0
 new:∀b,A<b->b<w.heap.size->∃ts,w.rowIs b 9 (List.length ts) (jQ ts)
 apart:∀i j (hi:i<cs.length) (hj:j<cs.length),i<j->j<k->∀N M,cs[i].sa=so ⟨N,0,we⟩->cs[j].sa=so ⟨M,0,we⟩->N≠M
def si.keep{w w':ae}{A:Nat}{l:iF}{r:aN}(h:si w A l r)(hz:w.heap.size<=w'.heap.size)(hs:∀b,A<b->b<w.heap.size->w'.heap[b]?=w.heap[b]?):si w' A l r :=
 ⟨h.out,h.eT,h.sl,h.ex.imp id λ⟨h0,N,h1,h2,h3,h4,h5⟩=>⟨h0,N,h1,h2,h3,bf h4 hz,World.rowIs.of_block h5 (hs N h3 h4)⟩⟩
def DT.IT{w0 w w':ae}{A k k':Nat}{ls:List iF}{cs uI:List aN}(h:DT w0 A ls k cs w)(hz:w'.heap.size=w.heap.size)(hs:∀b,b≠A->w'.heap[b]?=w.heap[b]?)(row:w'.rowIs A 42 ((ls.length+1)*3) (gA uI))(len:uI.length=ls.length+1)(at_:∀i (hi:i<ls.length) (mn:i<uI.length),i<k'->si w' A ls[i] uI[i])(rest:∀i,k'<=i->∀r,uI[i]?=so r->r=R0)(apart:∀i j (hi:i<uI.length) (hj:j<uI.length),i<j->j<k'->∀N M,uI[i].sa=so ⟨N,0,we⟩->uI[j].sa=so ⟨M,0,we⟩->N≠M):DT w0 A ls k' uI w' :=
 ⟨⟨by rw[hz];exact h.old.size,λb hb=>(hs b (by have:=h.al.1;omega)).trans (h.old.same b hb)⟩,⟨h.al.1,by rw[hz];exact h.al.2⟩,row,len,at_,rest,λb h1 h2=>by
  obtain⟨ts,q⟩:=h.new b h1 aa;exact⟨ts,World.rowIs.of_block q (hs b aa)⟩,apart⟩
def iw{o:aL}{w w1 w2:ae}(h:w1.heap.size=w2.heap.size):Go.Ren.grow o w w1=Go.Ren.grow o w w2:=by
 funext b;simp only[Go.Ren.grow,h]
def tJ(w:ae){A b:Nat}(i j k:Nat)(x y z:Value)(h:b≠A):(((w.setCell ⟨A,i,we⟩ x).setCell ⟨A,j,we⟩ y).setCell ⟨A,k,we⟩ z).heap[b]?=w.heap[b]?:=by
 have h':A≠b:=λe=>h e.symm;simp[World.setCell,aR,h']
def ml(w:ae){A b:Nat}(i:Nat)(x:Value)(h:b≠A):(w.setCell ⟨A,i,we⟩ x).heap[b]?=w.heap[b]?:=by
 have h':A≠b:=λe=>h e.symm;simp[World.setCell,aR,h']
def setRow_other(w:ae){A b:Nat}(c:Array Value)(h:b≠A):(w.setRow A c).heap[b]?=w.heap[b]?:=by
 have h':A≠b:=λe=>h e.symm;simp[World.setRow,aR,h']
structure Xg(lo A:Nat)(ls:List iF)(cs:List aN)(w:ae):Prop where
 al:lo<=A/\A<w.heap.size
 row:w.rowIs A 42 ((ls.length+1)*3) (gA cs)
 len:cs.length=ls.length+1
 at_:∀i (hi:i<ls.length) (mn:i<cs.length),si w A ls[i] cs[i]
 last:cs[ls.length]?=so ⟨⟨#[]⟩,-7,we,0,0⟩
 apart:∀i j (hi:i<cs.length) (hj:j<cs.length),i<j->j<ls.length->∀N M,cs[i].sa=so ⟨N,0,we⟩->cs[j].sa=so ⟨M,0,we⟩->N≠M
structure NA(o:aL)(w:ae)(p:Option Addr)(ls:List iF)(v:Value)(o':aL)(w':ae):Prop where
 sx:gZ o w o' w'
 ex:(p=we/\ls=[]/\v=.slice we 0 0)\/(∃a,p=so a)/\∃A cs,v=.slice (so ⟨A,0,we⟩) ls.length (ls.length+1)/\Xg w.heap.size A ls cs w'
section
variable {Fin:br}{o o':aL}{w w':ae}{p:Option Addr}{b off c:Nat}{ls:List iF}
def aaE(hF:bJ ak L0 o w)(hR:kp Fin o w p b off ls)(Bl:p=we->c=0)(pW:∀l∈ls,l.sa=we->l.sc=0):
  bC ak (XB ak Fin 0) 82 #[.slice p ls.length c] o w λv o' w'=>NA o w p ls v o' w':=by
 have W:=bZ (P:=ak) (Fin:=Fin) (d:=0);have jE:=hR.qt.1;refine bt W func82 aG ?_;walk_nrmf Tryz.f82;cases p with
 |none =>
  have NT:ls=[]:=aX λq=>by have:=(hR.ptr q).1;cases this
  subst NT;obtain rfl:=Bl rfl;obtain⟨AE,Kw,-,-⟩:=mM (P:=ak) underlying35 we 0 0;simp only[Option.isNone_none]at AE;have dO:NA o w we ([]:List iF) (.slice we 0 0) o w:=⟨gZ.refl hF,.inl ⟨rfl,rfl,rfl⟩⟩;clear hR Bl pW;refine aD ?_;exact⟨.inr trivial,trivial,_,resultsC_tmp (t:=2) aG _,by simpa[Act.eval] using dO⟩
 |some pa =>
 clear Bl;obtain⟨AE,Kw,-,-⟩:=mM (P:=ak) underlying35 (so pa) ls.length c;simp only[Option.isNone_some]at AE;have lP:=DR (t:=35) underlying35 Rg (ls.length+1) aa aa;have hwn:IntKind.i64.wrap ((ls.length:Int)+1)=((ls.length+1:Nat):Int):=by rw[IntKind.wrap_i64]<;>omega
 have oU:=λw=>(lP w).1;have zm:=λw=>(lP w).2
 push_cast at oU zm
 clear lP;refine aD ?_;refine eu rfl aG rfl (.cells (madeCells #[.string ⟨#[]⟩,.int .i64 0,.slice we 0 0] ((ls.length+1)*3)) 42) (λn=>.slice (so ⟨n,0,we⟩) (ls.length+1) (ls.length+1)) (λw1=>by simp[go_sem,Act.eval,hwn,oU]) (λw1=>by simp[go_sem,Act.eval,hwn,zm]) ?_;have L1:DT w w.heap.size ls 0 (List.replicate (ls.length+1) R0) (w.alloc (.cells (madeCells #[.string ⟨#[]⟩,.int .i64 0,.slice we 0 0] ((ls.length+1)*3)) 42)) :=
  ⟨fl.alloc _ _,⟨rfl,aj⟩,Nz (dz _ _),aj,λi _ _ h=>aa,λi _ r hr=>(List.mem_replicate.1 (cL hr)).2,λb h1 h2=>by simp at h2;omega,λi j _ _ _ h=>aa⟩
 have e1:(λb=>o b\/b=w.heap.size)=Go.Ren.grow o w (w.alloc (.cells (madeCells #[.string ⟨#[]⟩,.int .i64 0,.slice we 0 0] ((ls.length+1)*3)) 42)):=by
  funext b;simp only[Go.Ren.grow,eq_iff_iff];exact⟨λh=>h.imp id λh=>eW,λh=>h.imp id λh=>by simp at h;omega⟩
 rw[e1];clear e1 oU zm;generalize w.alloc (.cells (madeCells #[.string ⟨#[]⟩,.int .i64 0,.slice we 0 0] ((ls.length+1)*3)) 42)=w1 at *;generalize List.replicate (ls.length+1) R0=tQ at *;refine aD ?_;refine dQ W (λm a o' w'=>∃k cs,m+k=ls.length/\a.tmps.size=75/\a.defers=[]/\a.eval (.tmp 0)=.slice (so pa) ls.length c/\a.eval (.tmp 3)=.slice (so ⟨w.heap.size,0,we⟩) (ls.length+1) (ls.length+1)/\a.eval (.tmp 4)=.int .i64 (k:Nat)/\o'=Go.Ren.grow o w w'/\DT w w.heap.size ls k cs w') (N:=ls.length) ⟨0,_,aj,rfl,rfl,ax,ax,ax,rfl,L1⟩ ?_;clear L1;rintro m a o2 w2 ⟨k,cs,lP,ew,iu,i0,i3,i4,eo,hL⟩;obtain⟨gs,rfl⟩:=eQ ew iu;clear ew iu;simp only[List.range,List.range.loop,aB,aJ]at i0 i3 i4 |-;simp[Act.eval]at i0 i3 i4;simp only[i0,i3,i4];clear i0 i3 i4;have oA:o2 w.heap.size:=by rw[eo];exact .inr ⟨af _,hL.al.2⟩
 have FI:=hR.keep (o':=o2) (by rw[eo];exact λb h=>.inl h) hL.old.size hL.old.same;generalize hA:w.heap.size=A at *;by_cases hk:k<ls.length;rotate_left
 ·have rq:¬(k:Int)<(ls.length:Int):=aa;obtain rfl:k=ls.length:=aa;have Qr:(ls.length:Int)<(ls.length:Int)+1:=aa;have hle:(ls.length:Int)<=(ls.length:Int)+1:=aa;have hcut:=λw1 es=>nf (P:=ak) w1 es 35 42 A ls.length (ls.length+1) (ls.length+1) underlying35 aa;have fG:ls.length<cs.length:=by rw[hL.len];omega
  have XK:=hL.rest ls.length (af _) _ (au fG);have uP:=Re (x:=-7) fG hL.row;rw[XK]at uP;clear pW FI;refine aD ?_;refine Rj (x:=.int .i64 (-7)) oA hL.row (show ls.length*3+1<(ls.length+1)*3 by omega) ?_;have hz9:(w2.setCell ⟨A,ls.length*3+1,we⟩ (.int .i64 (-7))).heap.size=w2.heap.size:=by simp[World.setCell]
  have H4:∀b,b≠A->(w2.setCell ⟨A,ls.length*3+1,we⟩ (.int .i64 (-7))).heap[b]?=w2.heap[b]?:=λb hb=>ml _ _ _ hb;generalize w2.setCell ⟨A,ls.length*3+1,we⟩ (.int .i64 (-7))=w9 at *;have hO9:fl w w9:=⟨by have:=hL.old.size;omega,λb hb=>(H4 b aa).trans (hL.old.same b hb)⟩;have aaH:∀i (hi:i<ls.length) (mn:i<(cs.set ls.length ⟨R0.out,-7,R0.sa,R0.sl,R0.sc⟩).length),si w9 A ls[i] (cs.set ls.length ⟨R0.out,-7,R0.sa,R0.sl,R0.sc⟩)[i]:=λi hi mn=>by
   rw[dY aa];exact(hL.at_ i hi aa hi).keep aa λb h1 h2=>H4 b aa
  have hD:Xg A A ls (cs.set ls.length ⟨R0.out,-7,R0.sa,R0.sl,R0.sc⟩) w9:=⟨⟨af _,by have:=hL.al.2;omega⟩,uP,by simp[hL.len],aaH,by simp[fG,R0],λi j hi hj wh HV N M h1 h2=>by
   rw[dY aa]at h1 h2;exact hL.apart i j (by simpa using hi) (by simpa using hj) wh HV N M h1 h2⟩
  have ego:o2=Go.Ren.grow o w w9:=by rw[eo];exact iw hz9.symm
  have FJ:bJ ak L0 (Go.Ren.grow o w w9) w9:=DS hF hO9 λb h1 h2=>by
   by_cases e:b=A
   ·subst e;refine⟨_,_,_,uP,λj hj=>?_⟩;have h3:j/3<(cs.set ls.length ⟨R0.out,-7,R0.sa,R0.sl,R0.sc⟩).length:=by simp only[List.length_set,hL.len];omega
    have hj3:j=j/3*3\/j=j/3*3+1\/j=j/3*3+2:=aa;obtain⟨c0,c1,c2⟩:=jR _ _ h3;rcases hj3 with q|q|q
    ·rw[q,c0];exact dH
    ·rw[q,c1];exact lG
    ·rw[q,c2];by_cases hl:j/3<ls.length
     ·rcases(aaH _ hl h3).ex with⟨-,-,e⟩|⟨-,N,e,-,h4,h5,-⟩
      ·rw[e];exact nR
      ·rw[e];exact eK (.inr ⟨aa,h5⟩)
     ·have e:j/3=ls.length:=by simp only[List.length_set,hL.len]at h3;omega
      simp only[e,List.getElem_set_self];exact nR
   ·obtain⟨ts,q⟩:=hL.new b aa aa;exact⟨_,_,_,World.rowIs.of_block q (H4 b e),λj hj=>dH⟩
  have dO:NA o w (so pa) ls (.slice (so ⟨A,0,we⟩) ls.length (ls.length+1)) o2 w9:=⟨by rw[ego];exact⟨⟨FJ,λb h=>.inl h,λb h=>h.imp id λq=>q.1,hO9.size,λb hb _=>hO9.same b hb⟩,λb h1 h2=>.inr ⟨h1,h2⟩⟩,.inr ⟨⟨_,rfl⟩,A,_,rfl,by rw[hA];exact hD⟩⟩;clear hD FJ aaH hO9 H4 hL uP XK ego hR;refine aD ?_;exact⟨.inr trivial,trivial,_,resultsC_tmp (t:=2) aG _,by simpa[Act.eval] using dO⟩
 have rq:(k:Int)<(ls.length:Int):=aa;have aaD:(k:Int)<((ls.length+1:Nat):Int):=aa;have anZ:(k:Int)<(ls.length:Int)+1:=aa;have om:IntKind.i64.wrap ((k:Int)+1)=((k+1:Nat):Int):=by rw[IntKind.wrap_i64]<;>omega
 obtain⟨ep,hB,ub⟩:=hR.ptr (lU hk);obtain⟨c0,c1,c2⟩:=hR.at_ k hk;obtain⟨n1,n2⟩:=hR.ins ls[k] (aA hk);have QQ:=(hR.qt.2 ls[k] (aA hk)).2.1;have pz:=pW ls[k] (aA hk);have HX:k<cs.length:=by rw[hL.len];omega
 have aaI:∀x,o x->o2 x:=by rw[eo];exact λx h=>.inl h
 have U0:=hB.up aaI;have d0:=(cell_of (hL.old.same b ub)).trans c0;have d1:=(cell_of (hL.old.same b ub)).trans c1;have d2:=(cell_of (hL.old.same b ub)).trans c2;clear pW FI hR;have Yt:∀w9 r,r.out=ls[k].out->r.eT=ls[k].eT->r.sl=ls[k].ins.length->(ls[k].sa=we/\ls[k].ins=[]/\r.sa=we\/(∃a,ls[k].sa=so a)/\∃N,r.sa=so ⟨N,0,we⟩/\r.sc=ls[k].ins.length+1/\A<N/\N<w9.heap.size/\w9.rowIs N 9 (ls[k].ins.length+1) (jQ (ls[k].ins++[xf])))->si w9 A ls[k] r:=λw9 r h1 h2 h3 h4=>⟨h1,h2,h3,h4⟩;have Xh:∀i (hi:i<ls.length) (e:i=k) w9 r,si w9 A ls[k] r->si w9 A ls[i] r:=λi hi e w9 r h=>by subst e;exact h
 generalize ls[k]=l at *;obtain⟨y,rc,ts,sa,sc,ib,io⟩:=l;simp only at c0 c1 c2 n1 n2 QQ pz d0 d1 d2 Yt;have Lt:∀(x y z:Value),(((w2.setCell ⟨A,k*3,we⟩ x).setCell ⟨A,k*3+1,we⟩ y).setCell ⟨A,k*3+2,we⟩ z).heap.size=w2.heap.size:=λx y z=>by simp[World.setCell]
 have Ma:=λb (hb:b≠A)=>tJ w2 (k*3) (k*3+1) (k*3+2) (.string y) (.int .i64 rc) (.slice sa ts.length sc) hb;have uP:=KT (r:=⟨y,rc,sa,ts.length,sc⟩) HX hL.row;have Lt:=Lt (.string y) (.int .i64 rc) (.slice sa ts.length sc);have vY:=hL.old.size;have an0:=hL.al.2;obtain rfl:=aP ep;clear ep;refine aD ?_;refine eZ U0 rfl aG rfl (v:=.agg #[.string y,.int .i64 rc,.slice sa ts.length sc]) (λwl bu=>by simp[go_sem,bu.cell.trans d0,bu.cell.trans d1,bu.cell.trans d2]) (λwl bu x hx=>?_) ?_
 ·simp[go_sem,bu.cell.trans d0,bu.cell.trans d1,bu.cell.trans d2]at hx;rcases hx with rfl|rfl|rfl<;>exact⟨_,_,_,rfl,rfl⟩
 refine aD ?_;refine OX (x:=.string y) (y:=.int .i64 rc) (z:=.slice sa ts.length sc) oA hL.row (show k*3+2<(ls.length+1)*3 by omega) ?_;have vN:fl w (((w2.setCell ⟨A,k*3,we⟩ (.string y)).setCell ⟨A,k*3+1,we⟩ (.int .i64 rc)).setCell ⟨A,k*3+2,we⟩ (.slice sa ts.length sc)):=⟨aa,λb hb=>(Ma b aa).trans (hL.old.same b hb)⟩;generalize ((w2.setCell ⟨A,k*3,we⟩ (.string y)).setCell ⟨A,k*3+1,we⟩ (.int .i64 rc)).setCell ⟨A,k*3+2,we⟩ (.slice sa ts.length sc)=w3 at *;replace Lt:=Lt.symm;have d2:=(cell_of (vN.same b ub)).trans c2;clear d0 d1;walk_nrm;obtain⟨-,-,Uk,hq4⟩:=mM (P:=ak) underlying40 sa ts.length sc;cases sa with
 |none =>
  simp only[Option.isNone_none,Bool.not_true]at Uk;have Vj:ts=[]:=aX λq=>by have:=(n1 q).1;cases this
  obtain rfl:=pz rfl;have hL3:DT w A ls (k+1) (cs.set k ⟨y,rc,we,ts.length,0⟩) w3:=hL.IT Lt.symm Ma uP (by simp[hL.len]) (λi hi mn hik=>by
   by_cases e:i=k
   ·subst e;rw[fM];exact Xh i hi rfl _ _ (Yt _ _ rfl rfl rfl (.inl ⟨rfl,Vj,rfl⟩))
   ·rw[dY aa];exact(hL.at_ i hi (by simpa using mn) aa).keep aa λb h1 h2=>Ma b aa) (λi hi r hr=>by
   rw[eO aa]at hr;exact hL.rest i aa r hr) (λi j hi hj wh hjk N M h1 h2=>by
   by_cases e:j=k
   ·subst e;rw[fM]at h2;cases h2
   ·rw[dY aa]at h1 h2;exact hL.apart i j (by simpa using hi) (by simpa using hj) wh aa N M h1 h2)
  have eo3:o2=Go.Ren.grow o w w3:=by rw[eo];exact iw Lt
  clear hL Yt Xh Ma uP vN n1 n2 Vj;refine aD ?_;refine kn U0 d2 ?_;refine aD ?_;exact⟨m-1,aa,k+1,_,aa,bQ,bQ,ax,by simp[Act.eval,hA],by simp[Act.eval,om],eo3,by first|exact hL3|(rw[hA];exact hL3)⟩
 |some sb =>
  simp only[Option.isNone_some,Bool.not_false]at Uk;have lP:=DR (t:=40) underlying40 Rh (ts.length+1) aa aa;have aeq:IntKind.i64.wrap ((ts.length:Int)+1)=((ts.length+1:Nat):Int):=by rw[IntKind.wrap_i64]<;>omega
  have oU:=λw=>(lP w).1;have zm:=λw=>(lP w).2
  push_cast at oU zm
  clear lP;have htI:(ts.length:Int)<(ts.length:Int)+1:=aa;have htE:(ts.length:Int)<=(ts.length:Int)+1:=aa;have hcut:=λw1 es=>nf (P:=ak) w1 es 40 9 w3.heap.size ts.length (ts.length+1) (ts.length+1) underlying40 aa;refine aD ?_;refine kn U0 d2 ?_;refine aD ?_;refine kn U0 d2 ?_;refine aD ?_;refine eu rfl aG rfl (.cells (madeCells #[.string ⟨#[]⟩] ((ts.length+1)*1)) 9) (λn=>.slice (so ⟨n,0,we⟩) (ts.length+1) (ts.length+1)) (λw1=>by simp[go_sem,Act.eval,aeq,oU]) (λw1=>by simp[go_sem,Act.eval,aeq,zm]) ?_;rw[Nat.mul_one];clear oU zm;have Ea:=vN.trans (fl.alloc w3 (.cells (madeCells #[.string ⟨#[]⟩] (ts.length+1)) 9));have H3:(w3.alloc (.cells (madeCells #[.string ⟨#[]⟩] (ts.length+1)) 9)).heap.size=w3.heap.size+1:=aj;have Xi:=(fl.alloc w3 (.cells (madeCells #[.string ⟨#[]⟩] (ts.length+1)) 9)).same;have kb4:(w3.alloc (.cells (madeCells #[.string ⟨#[]⟩] (ts.length+1)) 9)).heap[w3.heap.size]?=_:=dz _ _;generalize w3.alloc (.cells (madeCells #[.string ⟨#[]⟩] (ts.length+1)) 9)=w4 at *;have Xj:(λb=>o2 b\/b=w3.heap.size)=Go.Ren.grow o w w4:=by
   funext b;rw[eo];simp only[Go.Ren.grow,eq_iff_iff];exact⟨λq=>q.elim (λq=>q.imp id λq=>⟨q.1,aa⟩) λq=>.inr ⟨aa,aa⟩,λq=>q.elim (λq=>.inl (.inl q)) λq=>if e:b=w3.heap.size then .inr e else .inl (.inr ⟨q.1,aa⟩)⟩
  rw[Xj];have oN:Go.Ren.grow o w w4 w3.heap.size:=.inr ⟨aa,aa⟩;have oA4:Go.Ren.grow o w w4 A:=.inr ⟨aa,aa⟩;have aer:∀x,o x->Go.Ren.grow o w w4 x:=λx h=>.inl h;have d2:=(cell_of (Ea.same b ub)).trans c2;have Yq:=hB.up aer;clear Xj U0 oA eo;generalize Xj:Go.Ren.grow o w w4=o4 at *;refine aD ?_;refine kn Yq d2 ?_;walk_nrm;have rM:∀j v,(ts.map Value.string)[j]?=so v->w4.cell? (sb.add j)=so v:=λj v hj=>by
   rw[bM]at hj;obtain⟨x,hx,rfl⟩:=aH.1 hj;obtain⟨HV,rfl⟩:=a8.1 hx;obtain⟨e1,-,aiE⟩:=n1 (lU HV);obtain rfl:=aP e1;have:(⟨ib,io,we⟩:Addr).add j=⟨ib,io+j,we⟩:=by unfold Addr.add;split<;>simp_all
   rw[this];exact(cell_of (Ea.same ib aiE)).trans (n2 j HV)
  refine Ys (n:=ts.length) (dLen:=ts.length+1) (sz:=1) (cs:=ts.map Value.string) underlying40 ah kb4 oN (λq=>?_) (Nat.le_succ _) aj rM (by simp[size_madeCells]) (by intro v hv;obtain⟨x,-,rfl⟩:=aV.1 hv;rfl) ?_
  ·obtain⟨e1,h2,-⟩:=n1 (λe=>q (by rw[e];rfl));obtain rfl:=aP e1;exact h2.up aer
  have hz5:=size_setRow w4 w3.heap.size (ts.map Value.string++(madeCells #[.string ⟨#[]⟩] (ts.length+1)).toList.drop (ts.map Value.string).length).toArray;have Qq:=λb (hb:b≠w3.heap.size)=>setRow_other w4 (ts.map Value.string++(madeCells #[.string ⟨#[]⟩] (ts.length+1)).toList.drop (ts.map Value.string).length).toArray hb;have od:(w4.setRow w3.heap.size (ts.map Value.string++(madeCells #[.string ⟨#[]⟩] (ts.length+1)).toList.drop (ts.map Value.string).length).toArray).rowIs w3.heap.size 9 (ts.length+1) (jQ (ts++[⟨#[]⟩])):=by
   refine⟨(ts.map Value.string++(madeCells #[.string ⟨#[]⟩] (ts.length+1)).toList.drop (ts.map Value.string).length).toArray,?_,?_,λj hj=>?_⟩
   ·simp[World.setRow,aR,kb4]
   ·simp[size_madeCells]
   ·by_cases q:j<ts.length
    ·simp[jQ,List.getElem?_append,q]
    ·have e:j=ts.length:=aa;subst e;simp[jQ,List.getElem?_append,madeCells,Nat.mod_one]
  generalize w4.setRow w3.heap.size (ts.map Value.string++(madeCells #[.string ⟨#[]⟩] (ts.length+1)).toList.drop (ts.map Value.string).length).toArray=w5 at *;have EG:fl w w5:=⟨aa,λb hb=>(Qq b aa).trans (Ea.same b hb)⟩;have d2:=(cell_of (EG.same b ub)).trans c2;clear rM;refine aD ?_;refine kn Yq d2 ?_;refine aD ?_;refine Rj (x:=.string ⟨#[109,105,110,101]⟩) oN od (show ts.length<ts.length+1 by omega) ?_;have ug:=KU (x:=⟨#[109,105,110,101]⟩) (k:=ts.length) aj od;rw[show(ts++[(⟨#[]⟩:ag)]).set ts.length ⟨#[109,105,110,101]⟩=ts++[⟨#[109,105,110,101]⟩] by simp]at ug;have hz6:(w5.setCell ⟨w3.heap.size,ts.length,we⟩ (.string ⟨#[109,105,110,101]⟩)).heap.size=w5.heap.size:=by simp[World.setCell]
  have RP:=λb (hb:b≠w3.heap.size)=>ml w5 ts.length (.string ⟨#[109,105,110,101]⟩) hb;generalize w5.setCell ⟨w3.heap.size,ts.length,we⟩ (.string ⟨#[109,105,110,101]⟩)=w6 at *;have NC:fl w w6:=⟨aa,λb hb=>(RP b aa).trans (EG.same b hb)⟩;have d2:=(cell_of (NC.same b ub)).trans c2;have aet:w6.heap[A]?=w3.heap[A]?:=(RP A aa).trans ((Qq A aa).trans (Xi A aa));have Uu:=World.rowIs.of_block uP aet;clear od;refine aD ?_;refine kn Yq d2 ?_;refine aD ?_;refine Rj (x:=.slice (so ⟨w3.heap.size,0,we⟩) ts.length (ts.length+1)) oA4 Uu (show k*3+2<(ls.length+1)*3 by omega) ?_;have aaK:=Rc (sa:=so ⟨w3.heap.size,0,we⟩) (sl:=ts.length) (sc:=ts.length+1) (show k<(cs.set k ⟨y,rc,so sb,ts.length,sc⟩).length by simpa using HX) Uu;rw[List.set_set,fM]at aaK;have hz7:(w6.setCell ⟨A,k*3+2,we⟩ (.slice (so ⟨w3.heap.size,0,we⟩) ts.length (ts.length+1))).heap.size=w6.heap.size:=by simp[World.setCell]
  have hs7:=λb (hb:b≠A)=>ml w6 (k*3+2) (.slice (so ⟨w3.heap.size,0,we⟩) ts.length (ts.length+1)) hb;generalize w6.setCell ⟨A,k*3+2,we⟩ (.slice (so ⟨w3.heap.size,0,we⟩) ts.length (ts.length+1))=w7 at *;have hO7:fl w w7:=⟨aa,λb hb=>(hs7 b aa).trans (NC.same b hb)⟩;have aaL:∀b,b≠A->b<w2.heap.size->w7.heap[b]?=w2.heap[b]?:=λb h1 h2=>(hs7 b h1).trans ((RP b aa).trans ((Qq b aa).trans ((Xi b aa).trans (Ma b h1))));have Uv:=World.rowIs.of_block ug (hs7 w3.heap.size aa);have hL7:DT w A ls (k+1) (cs.set k ⟨y,rc,so ⟨w3.heap.size,0,we⟩,ts.length,ts.length+1⟩) w7:=by
   refine⟨hO7,⟨hL.al.1,aa⟩,aaK,by simp[hL.len],λi hi mn hik=>?_,λi hi r hr=>?_,λb h1 h2=>?_,λi j hi hj wh hjk N M h1 h2=>?_⟩
   ·by_cases e:i=k
    ·subst e;rw[fM];exact Xh i hi rfl _ _ (Yt _ _ rfl rfl rfl (.inr ⟨⟨_,rfl⟩,w3.heap.size,rfl,rfl,aa,aa,Uv⟩))
    ·rw[dY aa];exact(hL.at_ i hi (by simpa using mn) aa).keep aa λb h1 h2=>aaL b aa h2
   ·rw[eO aa]at hr;exact hL.rest i aa r hr
   ·by_cases e:b=w3.heap.size
    ·subst e;exact⟨ts++[⟨#[109,105,110,101]⟩],by rw[jZ];exact Uv⟩
    ·obtain⟨us,q⟩:=hL.new b h1 aa;exact⟨us,World.rowIs.of_block q (aaL b aa aa)⟩
   ·by_cases e:j=k
    ·subst e;rw[fM]at h2;rw[dY aa]at h1;simp only[ay,Addr.mk.injEq,and_true]at h2;by_cases VD:i<ls.length
     ·rcases(hL.at_ i VD (by simpa using hi) wh).ex with⟨-,-,q⟩|⟨-,N',q,-,-,q2,-⟩
      ·rw[q]at h1;cases h1
      ·rw[q]at h1;simp only[ay,Addr.mk.injEq,and_true]at h1;omega
     ·omega
    ·rw[dY aa]at h1 h2;exact hL.apart i j (by simpa using hi) (by simpa using hj) wh aa N M h1 h2
  have eo7:o4=Go.Ren.grow o w w7:=by rw[<- Xj];exact iw aa
  clear hL Yt Xh Ma Xi Qq RP hs7 aaL uP vN Ea EG NC hO7 n1 n2 ug aaK Uu Uv kb4 aet d2 c0 c1 c2 Xj;refine aD ?_;exact⟨m-1,aa,k+1,_,aa,bQ,bQ,ax,by simp[Act.eval,hA],by simp[Act.eval,om],eo7,by first|exact hL7|(rw[hA];exact hL7)⟩
end
end
section
open Go.RowKit (Hid)
def sI(fs:List (ag×ag))(x:ag×ag){j:Nat}(hj:j<fs.length*2):dV (fs++[x]) j=dV fs j:=by
 have h:j/2<fs.length:=aa;simp[dV,List.getD_eq_getElem?_getD,List.getElem?_append,h]
def pj(fs:List (ag×ag))(x:ag×ag):dV (fs++[x]) (fs.length*2)=.string x.1/\dV (fs++[x]) (fs.length*2+1)=.string x.2:=by
 have h:=pJ (fs++[x]) fs.length aj;simpa using h
def KV{P:Program}{L:Nat->Bool}{o:aL}(fs:List (ag×ag))(j:Nat):Cl P L o (dV fs j):=by
 unfold dV;split<;>exact dH
section
variable {Fin:br}{d:Nat}{fn:FuncId}{Q:Exit->Act->aL->ae->Prop}{a:Act}{ops:Array Oper}{S:(Nat->Option Value)->aL->ae->Prop}{kds:List Kd}{v:Nat->Value}{K:Act->Prop}{j:Nat}{l:List Nat}{xs:List Kd}{op:Oper}{dd:Option Tmp}
def Uw{B i:Nat}{x y:Value}(hS:∀σ o w,S σ o w->wx Fin o B/\w.cell? ⟨B,i,we⟩=so x/\w.cell? ⟨B,i+1,we⟩=so y)(h:cS ak (vG ak (XB ak Fin d) fn ops Q S kds v) ops K v l xs (a.put dd (.agg #[x,y])))(ho:ops[j]?=so op:=by rfl)(hd:op.dst=dd:=by rfl)(hn:sS op.op=true:=by rfl)(hw:Region.wanted op (yielded ops a.tmps)=true:=by rfl)(f2:∀wl:ae,wl.cell? ⟨B,i,we⟩=so x->wl.cell? ⟨B,i+1,we⟩=so y->(execOp a.eval op).run ak wl=.ok (.value (.agg #[x,y])) wl:=by
   intro wl h8 h9;simp[go_sem,Act.eval,h8,h9])(f3:∀wl:ae,wl.cell? ⟨B,i,we⟩=so x->wl.cell? ⟨B,i+1,we⟩=so y->∀e∈(execOp a.eval op).events ak wl #[],∃ad wt sy,e=⟨.cell ad,wt,sy⟩/\ad.block=B:=by
   intro wl h8 h9 e he;simp[go_sem,Act.eval,h8,h9]at he;rcases he with rfl|rfl<;>exact⟨_,_,_,rfl,rfl⟩):cS ak (vG ak (XB ak Fin d) fn ops Q S kds v) ops K v (j::l) (so (so (.agg #[x,y]))::xs) a:=by
 refine fE ho hd (λA rest σ o w h1 h2 h3 h4 hq hc=>?_) rfl h;obtain⟨hB,c,c'⟩:=hS σ o w hq;have hex:=execOp_congr op (nS hn) h1;exact eZ hB ho (h2.trans hw) rfl (λwl bu=>by rw[hex];exact f2 wl (bu.cell.trans c) (bu.cell.trans c')) (λwl bu x hx=>by rw[hex]at hx;exact f3 wl (bu.cell.trans c) (bu.cell.trans c') x hx) (hc _ o w ⟨rfl,hq⟩)
end
section
def Ux(e:Nat)(w:ae)(es:Array Event)(a b d f:ag):(Op.equalIn (e+2) 44 (.agg #[.string a,.string b]) (.agg #[.string d,.string f])).events ak w es=es:=by
 rw[Op.equalIn];simp[go_sem,Sem.events_bind,CW,xJ]
def HG(w:ae)(a b:ag):(binOp .eql 44 (.agg #[.string a,.string b]) (.agg #[.string a,.string b])).run ak w=.ok (.bool true) w:=by
 simp[go_sem]
def HH(w:ae)(es:Array Event)(a b d f:ag):(binOp .eql 44 (.agg #[.string a,.string b]) (.agg #[.string d,.string f])).events ak w es=es:=by
 simp only[binOp];simp[Op.equal,Op.maxDepth,Sem.events_bind,Ux 9998]
def DU(op:BinOp)(x y:Operand)(xs ys:Array Value)(w:ae)(es:Array Event):(eqGuard op 44 x y (.agg xs) (.agg ys)).events ak w es=es:=by
 cases op<;>simp[eqGuard,run_program,Sem.events_bind,show ak.eqGuardType ak.depth 44=false by kernel_rfl]
end
structure Uy(lo A:Nat)(fs:List (ag×ag))(w:ae):Prop where
 al:lo<=A/\A<w.heap.size
 row:w.rowIs A 44 ((fs.length+1)*2) (dV (fs++[(xf,⟨#[]⟩)]))
structure HI(o:aL)(w:ae)(p:Option Addr)(fs:List (ag×ag))(v:Value)(o':aL)(w':ae):Prop where
 sx:gZ o w o' w'
 ex:(p=we/\fs=[]/\v=.slice we 0 0)\/(∃a,p=so a)/\∃A,v=.slice (so ⟨A,0,we⟩) fs.length (fs.length+1)/\Uy w.heap.size A fs w'
section
variable {Fin:br}{o o':aL}{w w' w1:ae}{p:Option Addr}{b off c lo A:Nat}{fs:List (ag×ag)}
def KW(hF:bJ ak L0 o w)(hR:kB Fin o w p b off fs)(Bl:p=we->c=0):
  bC ak (XB ak Fin 0) 87 #[.slice p fs.length c] o w λv o' w'=>HI o w p fs v o' w':=by
 have W:=bZ (P:=ak) (Fin:=Fin) (d:=0);have jE:=hR.qt.1;refine bt W func87 aG ?_;walk_nrmf Tryz.f87;cases p with
 |none =>
  have NT:fs=[]:=aX λq=>by have:=(hR.ptr q).1;cases this
  subst NT;obtain rfl:=Bl rfl;obtain⟨AE,Kw,-,-⟩:=mM (P:=ak) underlying37 we 0 0;simp only[Option.isNone_none]at AE;have dO:HI o w we ([]:List (ag×ag)) (.slice we 0 0) o w:=⟨gZ.refl hF,.inl ⟨rfl,rfl,rfl⟩⟩;clear hR Bl;refine aD ?_;exact⟨.inr trivial,trivial,_,resultsC_tmp (t:=2) aG _,by simpa[Act.eval] using dO⟩
 |some pa =>
 clear Bl;obtain⟨AE,Kw,-,-⟩:=mM (P:=ak) underlying37 (so pa) fs.length c;simp only[Option.isNone_some]at AE;have lP:=DR (t:=37) underlying37 Rf (fs.length+1) aa aa;have hwn:IntKind.i64.wrap ((fs.length:Int)+1)=((fs.length+1:Nat):Int):=by rw[IntKind.wrap_i64]<;>omega
 have oU:=λw=>(lP w).1;have zm:=λw=>(lP w).2
 push_cast at oU zm
 clear lP;have hnI:(fs.length:Int)<(fs.length:Int)+1:=aa;have hle:(fs.length:Int)<=(fs.length:Int)+1:=aa;have hcut:=λw1 es=>nf (P:=ak) w1 es 37 44 w.heap.size fs.length (fs.length+1) (fs.length+1) underlying37 aa;refine aD ?_;refine eu rfl aG rfl (.cells (madeCells #[.string ⟨#[]⟩,.string ⟨#[]⟩] ((fs.length+1)*2)) 44) (λn=>.slice (so ⟨n,0,we⟩) (fs.length+1) (fs.length+1)) (λw1=>by simp[go_sem,Act.eval,hwn,oU]) (λw1=>by simp[go_sem,Act.eval,hwn,zm]) ?_;clear oU zm;have Ea:=fl.alloc w (.cells (madeCells #[.string ⟨#[]⟩,.string ⟨#[]⟩] ((fs.length+1)*2)) 44);have H3:(w.alloc (.cells (madeCells #[.string ⟨#[]⟩,.string ⟨#[]⟩] ((fs.length+1)*2)) 44)).heap.size=w.heap.size+1:=aj;have kb4:(w.alloc (.cells (madeCells #[.string ⟨#[]⟩,.string ⟨#[]⟩] ((fs.length+1)*2)) 44)).heap[w.heap.size]?=_:=dz _ _;generalize w.alloc (.cells (madeCells #[.string ⟨#[]⟩,.string ⟨#[]⟩] ((fs.length+1)*2)) 44)=w4 at *;have rM:∀j v,((List.range (fs.length*2)).map (dV fs))[j]?=so v->w4.cell? (pa.add j)=so v:=λj v hj=>by
  rw[bM]at hj;obtain⟨x,hx,rfl⟩:=aH.1 hj;obtain⟨HV,rfl⟩:=a8.1 hx;simp only[List.length_range]at HV;rw[List.getElem_range];obtain⟨e1,-,ub⟩:=hR.ptr (λe=>by simp[e]at HV);obtain rfl:=aP e1;have:(⟨b,off,we⟩:Addr).add j=⟨b,off+j,we⟩:=by unfold Addr.add;split<;>simp_all
  rw[this];refine(cell_of (Ea.same b ub)).trans ?_;obtain⟨q0,q1⟩:=hR.at_ (j/2) aa;obtain⟨f0,f1⟩:=pJ fs (j/2) aa;have QN:j=j/2*2\/j=j/2*2+1:=aa;rcases QN with e|e
  ·rw[e,f0];exact q0
  ·rw[e,f1,<- dG];exact q1
 have GZ:fs≠[]->wx Fin (λb=>o b\/b=w.heap.size) pa.block:=λq=>by
  obtain⟨e1,h2,-⟩:=hR.ptr q;obtain rfl:=aP e1;exact h2.up λb h=>.inl h
 have Xj:(λb=>o b\/b=w.heap.size)=Go.Ren.grow o w w4:=by
  funext b;simp only[Go.Ren.grow,eq_iff_iff];exact⟨λq=>q.imp id λq=>⟨aa,aa⟩,λq=>q.imp id λq=>aa⟩
 generalize (λb=>o b\/b=w.heap.size)=o4 at *;have oN:o4 w.heap.size:=by rw[Xj];exact .inr ⟨af _,aa⟩
 refine aD ?_;refine Ys (n:=fs.length) (dLen:=fs.length+1) (sz:=2) (cs:=(List.range (fs.length*2)).map (dV fs)) underlying37 ah kb4 oN (λq=>GZ λe=>q (by rw[e];rfl)) (Nat.le_succ _) aj rM (by simp[size_madeCells];omega) (by
  intro v hv;obtain⟨x,-,rfl⟩:=aV.1 hv;unfold dV;split<;>rfl) ?_
 have hz5:=size_setRow w4 w.heap.size ((List.range (fs.length*2)).map (dV fs)++(madeCells #[.string ⟨#[]⟩,.string ⟨#[]⟩] ((fs.length+1)*2)).toList.drop ((List.range (fs.length*2)).map (dV fs)).length).toArray;have Qq:=λb (hb:b≠w.heap.size)=>setRow_other w4 ((List.range (fs.length*2)).map (dV fs)++(madeCells #[.string ⟨#[]⟩,.string ⟨#[]⟩] ((fs.length+1)*2)).toList.drop ((List.range (fs.length*2)).map (dV fs)).length).toArray hb;have od:(w4.setRow w.heap.size ((List.range (fs.length*2)).map (dV fs)++(madeCells #[.string ⟨#[]⟩,.string ⟨#[]⟩] ((fs.length+1)*2)).toList.drop ((List.range (fs.length*2)).map (dV fs)).length).toArray).rowIs w.heap.size 44 ((fs.length+1)*2) (dV (fs++[(⟨#[]⟩,⟨#[]⟩)])):=by
  refine⟨((List.range (fs.length*2)).map (dV fs)++(madeCells #[.string ⟨#[]⟩,.string ⟨#[]⟩] ((fs.length+1)*2)).toList.drop ((List.range (fs.length*2)).map (dV fs)).length).toArray,?_,?_,λj hj=>?_⟩
  ·simp[World.setRow,aR,kb4]
  ·simp[size_madeCells];omega
  ·by_cases q:j<fs.length*2
   ·simp[List.getElem?_append,q,sI fs _ q]
   ·obtain⟨f0,f1⟩:=pj fs (⟨#[]⟩,⟨#[]⟩);have QN:j=fs.length*2\/j=fs.length*2+1:=aa;rcases QN with e|e
    ·subst e;rw[f0];simp[List.getElem?_append,madeCells,hj]
    ·subst e;rw[f1];simp[List.getElem?_append,madeCells,hj]
 generalize w4.setRow w.heap.size ((List.range (fs.length*2)).map (dV fs)++(madeCells #[.string ⟨#[]⟩,.string ⟨#[]⟩] ((fs.length+1)*2)).toList.drop ((List.range (fs.length*2)).map (dV fs)).length).toArray=w5 at *;clear rM GZ hR;refine aD ?_;refine Rj (x:=.string ⟨#[109,105,110,101]⟩) oN od (show fs.length*2<(fs.length+1)*2 by omega) ?_;have ug:(w5.setCell ⟨w.heap.size,fs.length*2,we⟩ (.string ⟨#[109,105,110,101]⟩)).rowIs w.heap.size 44 ((fs.length+1)*2) (dV (fs++[(⟨#[109,105,110,101]⟩,⟨#[]⟩)])):=by
  refine(od.set (fs.length*2) _).congr λj hj=>?_;obtain⟨f0,f1⟩:=pj fs (⟨#[109,105,110,101]⟩,⟨#[]⟩);obtain⟨g0,g1⟩:=pj fs (⟨#[]⟩,⟨#[]⟩);by_cases e:j=fs.length*2
  ·subst e;rw[if_pos rfl,f0]
  ·rw[if_neg e];by_cases q:j<fs.length*2
   ·rw[sI fs _ q,sI fs _ q]
   ·have e2:j=fs.length*2+1:=aa;subst e2;rw[f1,g1]
 have hz6:(w5.setCell ⟨w.heap.size,fs.length*2,we⟩ (.string ⟨#[109,105,110,101]⟩)).heap.size=w5.heap.size:=by simp[World.setCell]
 have RP:=λb (hb:b≠w.heap.size)=>ml w5 (fs.length*2) (.string ⟨#[109,105,110,101]⟩) hb;generalize w5.setCell ⟨w.heap.size,fs.length*2,we⟩ (.string ⟨#[109,105,110,101]⟩)=w6 at *;have NC:fl w w6:=⟨aa,λb hb=>(RP b aa).trans ((Qq b aa).trans (Ea.same b hb))⟩;have ego:o4=Go.Ren.grow o w w6:=by rw[Xj];exact iw aa
 have BG:bJ ak L0 (Go.Ren.grow o w w6) w6:=DS hF NC λb h1 h2=>by
  obtain rfl:b=w.heap.size:=aa;exact⟨_,_,_,ug,λj _=>KV _ j⟩
 have dO:HI o w (so pa) fs (.slice (so ⟨w.heap.size,0,we⟩) fs.length (fs.length+1)) o4 w6:=⟨by rw[ego];exact⟨⟨BG,λb h=>.inl h,λb h=>h.imp id λq=>q.1,NC.size,λb hb _=>NC.same b hb⟩,λb h1 h2=>.inr ⟨h1,h2⟩⟩,.inr ⟨⟨_,rfl⟩,_,rfl,⟨af _,aa⟩,ug⟩⟩;clear BG NC RP Qq Ea ug od kb4 ego Xj;refine aD ?_;exact⟨.inr trivial,trivial,_,resultsC_tmp (t:=2) aG _,by simpa[Act.eval] using dO⟩
structure Gone(lo hi:Nat)(o:aL)(w w':ae):Prop where
 bS:bJ ak L0 o w'
 size:w.heap.size<=w'.heap.size
 same:∀b,b<w.heap.size->(b<lo\/hi<=b)->w'.heap[b]?=w.heap[b]?
def Gone.refl{hi:Nat}(hF:bJ ak L0 o w):Gone lo hi o w w:=⟨hF,af _,λ_ _ _=>rfl⟩
def EU(hF:bJ ak L0 o w)(v:Value):bC ak (XB ak Fin 0) 88 #[v,.slice we 0 0] o w λv o' w'=>v=.bool true/\o'=o/\w'=w:=by
 have W:=bZ (P:=ak) (Fin:=Fin) (d:=0);obtain⟨AE,Kw,-,-⟩:=mM (P:=ak) underlying37 we 0 0;simp only[Option.isNone_none]at AE;refine bt W func88 aG ?_;walk_nrmf Tryz.f88;refine aD ?_;exact⟨.inr trivial,trivial,_,resultsC_tmp (t:=4) aG _,ax,by trivial,by trivial⟩
def KX{pa:Addr}(hF:bJ ak L0 o w)(hR:kB Fin o w (so pa) b off fs)(hD:Uy lo A fs w)(hb:fs≠[]->b<lo)(oA:o A):
  bC ak (XB ak Fin 0) 88 #[.slice (so ⟨A,0,we⟩) fs.length (fs.length+1),.slice (so pa) fs.length c] o w λv o' w'=>v=.bool true/\o'=o/\Gone A (A+1) o w w':=by
 have W:=bZ (P:=ak) (Fin:=Fin) (d:=0);have jE:=hR.qt.1;have hwn:IntKind.i64.wrap ((fs.length:Int)+1)=((fs.length+1:Nat):Int):=by rw[IntKind.wrap_i64]<;>omega
 have hnI:(fs.length:Int)<(fs.length:Int)+1:=aa;have cN:=hD.row.cell (show fs.length*2<(fs.length+1)*2 by omega);rw[(pj fs (xf,⟨#[]⟩)).1]at cN;have h0n:(0:Int)<=(fs.length:Int)+1:=aa;have hcut:=λw1 es=>nf (P:=ak) w1 es 37 44 A (fs.length+1) fs.length (fs.length+1) underlying37 aa
 push_cast at hcut
 simp only at cN;refine bt W func88 aG ?_;walk_nrmf Tryz.f88;unfold xf at cN;obtain⟨AE,Kw,-,-⟩:=mM (P:=ak) underlying37 (so pa) fs.length c;simp only[Option.isNone_some]at AE;refine aD ?_;refine kn (.inl oA) cN ?_;refine aD ?_;refine dQ W (λm a o' w'=>∃k us,m+k=fs.length/\a.tmps.size=45/\a.defers=[]/\a.eval (.tmp 1)=.slice (so pa) fs.length c/\a.eval (.tmp 5)=.slice (so ⟨A,0,we⟩) (fs.length+1) (fs.length+1)/\a.eval (.tmp 6)=.bool true/\a.eval (.tmp 7)=.int .i64 (k:Nat)/\o'=o/\Gone A (A+1) o w w'/\w'.heap.size=w.heap.size/\w'.rowIs A 44 ((fs.length+1)*2) (dV us)/\us.length=fs.length+1/\∀i,k<=i->∀(h:i<fs.length),us[i]?=so fs[i]) (N:=fs.length) ⟨0,fs++[(xf,⟨#[]⟩)],aj,rfl,rfl,ax,ax,ax,ax,rfl,Gone.refl hF,rfl,hD.row,aj,λi _ h=>by simp[List.getElem?_append,h]⟩ ?_;rintro m a o1 w1 ⟨k,us,lP,ew,iu,i1,i5,i6,i7,e1,hG,JO,row,Qp,mW⟩;subst e1;obtain⟨gs,rfl⟩:=eQ ew iu;clear ew iu;simp only[List.range,List.range.loop,aB,aJ]at i1 i5 i6 i7 |-;simp[Act.eval]at i1 i5 i6 i7;simp only[i1,i5,i6,i7];clear i1 i5 i6 i7;by_cases hk:k<fs.length;rotate_left
 ·have rq:¬(k:Int)<(fs.length:Int):=aa;clear mW hD hR cN;refine aD ?_;exact⟨.inr trivial,trivial,_,resultsC_tmp (t:=4) aG _,ax,by trivial,hG⟩
 have rq:(k:Int)<(fs.length:Int):=aa;have aaD:(k:Int)<(fs.length:Int)+1:=aa;have om:IntKind.i64.wrap ((k:Int)+1)=((k+1:Nat):Int):=by rw[IntKind.wrap_i64]<;>omega
 obtain⟨ep,hB,ub⟩:=hR.ptr (lU hk);obtain rfl:=aP ep;have aeu:=hb (lU hk);have Jp:=hD.al.1;obtain⟨c0,c1⟩:=hR.at_ k hk;have es:=hG.same b ub (.inl aa);have c0:=(cell_of es).trans c0;have c1:=(cell_of es).trans c1;have Lx:=mW k (af _) hk;obtain⟨aev,Lx⟩:=a8.1 Lx;obtain⟨f0,f1⟩:=pJ us k aev;rw[Lx]at f0 f1;have d0:=row.cell (show k*2<(fs.length+1)*2 by omega);have d1:=row.cell (show k*2+1<(fs.length+1)*2 by omega);rw[f0]at d0;rw[f1]at d1;have aaM:∀i,k+1<=i->∀(h:i<fs.length),(us.set k (⟨#[103,111,110,101]⟩,⟨#[]⟩))[i]?=so fs[i]:=λi hi h=>by
  rw[eO aa];exact mW i aa h
 have xP:=Us (x:=⟨#[103,111,110,101]⟩) (y:=⟨#[]⟩) aev row;clear mW f0 f1 Lx hR ep cN hb;generalize fs[k]=fk at *;obtain⟨fx,fy⟩:=fk;simp only at c0 c1 d0 d1;refine aD ?_;refine iy mixed ah [so we,so we,so we,so we,so we,so (so (.agg #[.string fx,.string fy])),so we,so we,so we,so (so (.agg #[.string fx,.string fy])),so we,so we,so we]
  (S:=λσ o' w'=>o1=o'/\w1=w') ⟨rfl,rfl⟩ λv9=>?_
 refine fF ?_;refine fU ?_;refine Uw (B:=A) (i:=k*2) (λσ o' w' hS=>?_) ?_
 ·obtain⟨rfl,rfl⟩:=hS;exact⟨.inl oA,d0,d1⟩
 refine fU ?_;refine Uw (B:=b) (i:=off+k*2) (λσ o' w' hS=>?_) ?_
 ·obtain⟨rfl,rfl⟩:=hS;exact⟨hB,c0,c1⟩
 walk_nrm;refine GO (y:=.bool true) rfl rfl rfl aG (λw1=>by simp[go_sem,Act.eval,HG]) (λw1=>by simp[go_sem,Act.eval,HH,DU]) ?_;refine fU ?_;refine fj λσ o9 w9 wu hS=>?_;clear wu;obtain⟨rfl,rfl⟩:=hS;simp only[nu,gL,if_true,if_false,reduceIte,Nat.reduceEqDiff];refine aD ?_;refine aeo (x:=.string ⟨#[103,111,110,101]⟩) (y:=.string ⟨#[]⟩) oA row (show k*2+1<(fs.length+1)*2 by omega) ?_;have hz9:((w1.setCell ⟨A,k*2,we⟩ (.string ⟨#[103,111,110,101]⟩)).setCell ⟨A,k*2+1,we⟩ (.string ⟨#[]⟩)).heap.size=w1.heap.size:=by simp[World.setCell]
 have hG9:Gone A (A+1) o1 w ((w1.setCell ⟨A,k*2,we⟩ (.string ⟨#[103,111,110,101]⟩)).setCell ⟨A,k*2+1,we⟩ (.string ⟨#[]⟩)):=⟨bJ.setCell (bJ.setCell hG.bS dH) dH,aa,λb hb h=>by
  rw[ml _ _ _ aa,ml _ _ _ aa];exact hG.same b hb h⟩
 generalize (w1.setCell ⟨A,k*2,we⟩ (.string ⟨#[103,111,110,101]⟩)).setCell ⟨A,k*2+1,we⟩ (.string ⟨#[]⟩)=w9 at *;clear row d0 d1 c0 c1 es hG;refine aD ?_;exact⟨m-1,aa,k+1,_,aa,bQ,bQ,ax,ax,ax,by simp[Act.eval,om],by trivial,hG9,aa,xP,by simp[Qp],aaM⟩
end
end
section
open Go.RowKit (Hid)
section
variable {Fin:br}{o o':aL}{w w' w0:ae}{p:Option Addr}{b off c lo A:Nat}{ls:List iF}{cs:List aN}
def Uz(hF:bJ ak L0 o w)(v:Value):bC ak (XB ak Fin 0) 84 #[v,.slice we 0 0] o w λv o' w'=>v=.bool true/\o'=o/\w'=w:=by
 have W:=bZ (P:=ak) (Fin:=Fin) (d:=0);refine bt W func84 aG ?_;walk_nrmf Tryz.f84;obtain⟨AE,Kw,-,-⟩:=mM (P:=ak) underlying35 we 0 0;simp only[Option.isNone_none]at AE;refine aD ?_;exact⟨.inr trivial,trivial,_,resultsC_tmp (t:=4) aG _,ax,by trivial,by trivial⟩
structure ND(lo hi A:Nat)(ls:List iF)(cs:List aN)(o:aL)(w:ae)(k:Nat)(ks:List aN)(o':aL)(w':ae):Prop where
 gone:Gone lo hi o w w'
 up:∀b,o b->o' b
 row:w'.rowIs A 42 ((ls.length+1)*3) (gA ks)
 len:ks.length=ls.length+1
 at_:∀i,k<=i->ks[i]?=cs[i]?
 ins:∀b,lo<=b->b<hi->b≠A->(∀i (h:i<cs.length),i<k->cs[i].sa≠so ⟨b,0,we⟩)->w'.heap[b]?=w.heap[b]?
def aaN{pa:Addr}(hF:bJ ak L0 o w)(hR:kp Fin o w (so pa) b off ls)(hD:Xg lo A ls cs w0)(hw0:w0.heap.size<=w.heap.size)(hs0:∀b,lo<=b->b<w0.heap.size->w.heap[b]?=w0.heap[b]?)(fo:∀b,lo<=b->b<w0.heap.size->o b)(hb:(ls≠[]->b<lo)/\∀l∈ls,l.ins≠[]->l.ib<lo)(pW:∀l∈ls,l.sa=we->l.sc=0):
  bC ak (XB ak Fin 0) 84 #[.slice (so ⟨A,0,we⟩) ls.length (ls.length+1),.slice (so pa) ls.length c] o w λv o' w'=>v=.bool true/\o'=o/\Gone lo w0.heap.size o w w':=by
 have W:=bZ (P:=ak) (Fin:=Fin) (d:=0);have jE:=hR.qt.1;have hwn:IntKind.i64.wrap ((ls.length:Int)+1)=((ls.length+1:Nat):Int):=by rw[IntKind.wrap_i64]<;>omega
 have hnI:(ls.length:Int)<(ls.length:Int)+1:=aa;have h0n:(0:Int)<=(ls.length:Int)+1:=aa;have hcut:=λw1 es=>nf (P:=ak) w1 es 35 42 A (ls.length+1) ls.length (ls.length+1) underlying35 aa
 push_cast at hcut
 obtain⟨P4,Jm⟩:=hD.al;have oA:=fo A P4 Jm;have aaO:=World.rowIs.of_block hD.row (hs0 A P4 Jm);have fG:ls.length<cs.length:=by rw[hD.len];omega
 have rV:cs[ls.length]=⟨⟨#[]⟩,-7,we,0,0⟩:=by have:=hD.last;rw[au fG]at this;exact aP this
 have cN:=aaO.cell (show ls.length*3+1<(ls.length+1)*3 by omega);rw[(jR cs ls.length fG).2.1,rV]at cN;simp only at cN;have B1:ND lo w0.heap.size A ls cs o w 0 cs o w:=⟨Gone.refl hF,λ_ h=>h,aaO,hD.len,λ_ _=>rfl,λ_ _ _ _ _=>rfl⟩;refine bC.drop ?_;refine bt W func84 aG ?_;walk_nrmf Tryz.f84;obtain⟨AE,Kw,-,-⟩:=mM (P:=ak) underlying35 (so pa) ls.length c;simp only[Option.isNone_some]at AE;refine aD ?_;refine kn (.inl oA) cN ?_;refine aD ?_;refine dQ W (λm a o' w'=>∃k ks,m+k=ls.length/\a.tmps.size=112/\a.defers=[]/\a.eval (.tmp 1)=.slice (so pa) ls.length c/\a.eval (.tmp 5)=.slice (so ⟨A,0,we⟩) (ls.length+1) (ls.length+1)/\a.eval (.tmp 6)=.bool true/\a.eval (.tmp 7)=.int .i64 (k:Nat)/\ND lo w0.heap.size A ls cs o w k ks o' w') (N:=ls.length) ⟨0,cs,aj,rfl,rfl,ax,ax,ax,ax,B1⟩ ?_;clear B1 cN rV aaO;rintro m a o1 w1 ⟨k,ks,lP,ew,iu,i1,i5,i6,i7,hK⟩;obtain⟨gs,rfl⟩:=eQ ew iu;clear ew iu;simp only[List.range,List.range.loop,aB,aJ]at i1 i5 i6 i7 |-;simp[Act.eval]at i1 i5 i6 i7;simp only[i1,i5,i6,i7];clear i1 i5 i6 i7;by_cases hk:k<ls.length;rotate_left
 ·have rq:¬(k:Int)<(ls.length:Int):=aa;have hG:=hK.gone;have pB:=hK.up;clear hK hD hR hs0 fo hb pW;refine aD ?_;exact⟨.inr trivial,trivial,_,resultsC_tmp (t:=4) aG _,o,pB,ax,rfl,hG⟩
 have rq:(k:Int)<(ls.length:Int):=aa;have aaD:(k:Int)<(ls.length:Int)+1:=aa;have om:IntKind.i64.wrap ((k:Int)+1)=((k+1:Nat):Int):=by rw[IntKind.wrap_i64]<;>omega
 obtain⟨ep,hB,ub⟩:=hR.ptr (lU hk);obtain rfl:=aP ep;have aeu:=hb.1 (lU hk);obtain⟨c0,c1,c2⟩:=hR.at_ k hk;obtain⟨n1,n2⟩:=hR.ins ls[k] (aA hk);have n3:=hb.2 ls[k] (aA hk);have QQ:=(hR.qt.2 ls[k] (aA hk)).2.1;have pz:=pW ls[k] (aA hk);have hB1:=hB.up hK.up;have es:=hK.gone.same b ub (.inl aeu);have c0:=(cell_of es).trans c0;have c1:=(cell_of es).trans c1;have c2:=(cell_of es).trans c2;have HX:k<cs.length:=aa;have Lx:ks[k]?=so cs[k]:=by rw[hK.at_ k (af _),au HX]
 obtain⟨Qp,Lx⟩:=a8.1 Lx;obtain⟨f0,f1,f2⟩:=jR ks k Qp;rw[Lx]at f0 f1 f2;have d0:=hK.row.cell (show k*3<(ls.length+1)*3 by omega);have d1:=hK.row.cell (show k*3+1<(ls.length+1)*3 by omega);have d2:=hK.row.cell (show k*3+2<(ls.length+1)*3 by omega);rw[f0]at d0;rw[f1]at d1;rw[f2]at d2;have hC:=hD.at_ k hk HX;have Vz:∀N,cs[k].sa=so ⟨N,0,we⟩->∀i (h:i<cs.length),i<k->cs[i].sa≠so ⟨N,0,we⟩:=λN hN i hi hik q=>hD.apart i k hi HX hik hk N N q hN rfl;clear f0 f1 f2 Lx;obtain⟨C1,C2,C3,C4⟩:=hC;generalize aap:cs[k]=ck at *;obtain⟨xo,xr,xa,xl,xc⟩:=ck;simp only at C1 C2 C3 C4 d0 d1 d2 Vz;subst C1 C2 C3;clear hR pW;generalize ls[k]=l at *;obtain⟨y,rc,ts,sa,sc,ib,io⟩:=l;simp only at c0 c1 c2 n1 n2 n3 QQ pz d0 d1 d2 C4;have oA1:=hK.up A oA;have hN:∀N,xa=so ⟨N,0,we⟩->A<N/\N<w0.heap.size:=λN hN=>by
  rcases C4 with⟨-,-,q⟩|⟨-,N',q,-,h1,h2,-⟩
  ·rw[q]at hN;cases hN
  ·rw[q]at hN;simp only[ay,Addr.mk.injEq,and_true]at hN;subst hN;exact⟨h1,h2⟩
 have JO:=hK.gone.size;have mV:∀w9:ae,bJ ak L0 o w9->w9.heap.size=w1.heap.size+2->(∀b,b<w1.heap.size->xa≠so ⟨b,0,we⟩->w9.heap[b]?=w1.heap[b]?)->∀o3:aL,(∀b,o1 b->o3 b)->w9.rowIs A 42 ((ls.length+1)*3) (gA ks)/\ND lo w0.heap.size A ls cs o w (k+1) (ks.set k ⟨⟨#[103,111,110,101]⟩,1,we,0,0⟩) o3 (((w9.setCell ⟨A,k*3,we⟩ (.string ⟨#[103,111,110,101]⟩)).setCell ⟨A,k*3+1,we⟩ (.int .i64 1)).setCell ⟨A,k*3+2,we⟩ (.slice we 0 0)):=by
  intro w9 FJ hz9 H4 o3 Rk;have hA9:w9.heap[A]?=w1.heap[A]?:=H4 A aa λe=>by have:=hN A e;omega
  have xP:=World.rowIs.of_block hK.row hA9;have pL:(((w9.setCell ⟨A,k*3,we⟩ (.string ⟨#[103,111,110,101]⟩)).setCell ⟨A,k*3+1,we⟩ (.int .i64 1)).setCell ⟨A,k*3+2,we⟩ (.slice we 0 0)).heap.size=w9.heap.size:=by simp[World.setCell]
  refine⟨xP,⟨bJ.setCell (bJ.setCell (bJ.setCell FJ dH) lG) nR,aa,λb hb h=>?_⟩,λb h=>Rk b (hK.up b h),KT (r:=⟨⟨#[103,111,110,101]⟩,1,we,0,0⟩) Qp xP,by simp[hK.len],λi hi=>?_,λb h1 h2 h3 h4=>?_⟩
  ·rw[tJ _ _ _ _ _ _ _ aa,H4 b aa λe=>by have:=hN b e;omega];exact hK.gone.same b hb h
  ·rw[eO aa];exact hK.at_ i aa
  ·rw[tJ _ _ _ _ _ _ _ h3,H4 b aa λe=>h4 k HX aa (by rw[aap];exact e)];exact hK.ins b h1 h2 h3 λi hi hik=>h4 i hi aa
 have UA:∀N,xa=so ⟨N,0,we⟩->w1.heap[N]?=w0.heap[N]?:=λN RN=>by
  have:=hN N RN;exact(hK.ins N aa this.2 aa (Vz N RN)).trans (hs0 N aa this.2)
 have lS:=hK.gone.bS;have aew:=hK.up;have Lj:=hK.gone.same;clear hD hs0 Vz hK hb aap;obtain⟨-,-,Uk,hq4⟩:=mM (P:=ak) underlying40 sa ts.length sc;refine aD ?_;refine eZ (.inl oA1) rfl aG rfl (v:=.agg #[.string y,.int .i64 rc,.slice xa ts.length xc]) (λwl bu=>by simp[go_sem,bu.cell.trans d0,bu.cell.trans d1,bu.cell.trans d2]) (λwl bu x hx=>?_) ?_
 ·simp[go_sem,bu.cell.trans d0,bu.cell.trans d1,bu.cell.trans d2]at hx;rcases hx with rfl|rfl|rfl<;>exact⟨_,_,_,rfl,rfl⟩
 walk_nrm;refine Dx y rc xa ts.length xc ?_;have Bj:=fl.alloc w1 (.cells #[.string y,.int .i64 rc,.slice xa ts.length xc] 42);have Da:(w1.alloc (.cells #[.string y,.int .i64 rc,.slice xa ts.length xc] 42)).heap.size=w1.heap.size+1:=aj;obtain⟨x0,x1,x2,-⟩:=ki (w:=w1.alloc (.cells #[.string y,.int .i64 rc,.slice xa ts.length xc] 42)) (b:=w1.heap.size) (dz _ _);have rK:=Bj.bS lS;have aaP:b<w1.heap.size:=aa;have c0:=(cell_of (Bj.same b aaP)).trans c0;have c1:=(cell_of (Bj.same b aaP)).trans c1;have c2:=(cell_of (Bj.same b aaP)).trans c2;have U0:wx Fin (λb=>o1 b\/b=w1.heap.size) b:=hB1.up λ_ h=>.inl h;clear d0 d1 d2;generalize ho2:(λb=>o1 b\/b=w1.heap.size)=o2 at *;have oX:o2 w1.heap.size:=by rw[<- ho2];exact .inr rfl
 have aaI:∀b,o1 b->o2 b:=λb h=>by rw[<- ho2];exact .inl h
 clear ho2;generalize w1.alloc (.cells #[.string y,.int .i64 rc,.slice xa ts.length xc] 42)=w2 at *;generalize hX:w1.heap.size=X at *;refine aD ?_;refine eZ U0 rfl aG rfl (v:=.agg #[.string y,.int .i64 rc,.slice sa ts.length sc]) (λwl bu=>by simp[go_sem,bu.cell.trans c0,bu.cell.trans c1,bu.cell.trans c2]) (λwl bu x hx=>?_) ?_
 ·simp[go_sem,bu.cell.trans c0,bu.cell.trans c1,bu.cell.trans c2]at hx;rcases hx with rfl|rfl|rfl<;>exact⟨_,_,_,rfl,rfl⟩
 walk_nrm;refine Dx y rc sa ts.length sc ?_;have vN:=fl.alloc w2 (.cells #[.string y,.int .i64 rc,.slice sa ts.length sc] 42);have Lt:(w2.alloc (.cells #[.string y,.int .i64 rc,.slice sa ts.length sc] 42)).heap.size=w2.heap.size+1:=aj;obtain⟨y0,y1,y2,-⟩:=ki (w:=w2.alloc (.cells #[.string y,.int .i64 rc,.slice sa ts.length sc] 42)) (b:=w2.heap.size) (dz _ _);have vJ:=vN.bS rK;have x0:=(cell_of (vN.same X aa)).trans x0;have x1:=(cell_of (vN.same X aa)).trans x1;have x2:=(cell_of (vN.same X aa)).trans x2;have Xk:=Bj.trans vN;have oX:wx Fin (λb=>o2 b\/b=w2.heap.size) X:=.inl (.inl oX);have oY:wx Fin (λb=>o2 b\/b=w2.heap.size) w2.heap.size:=.inl (.inr rfl);clear c0 c1 c2;generalize XZ:(λb=>o2 b\/b=w2.heap.size)=o3 at *;have Rk:∀b,o1 b->o3 b:=λb h=>by rw[<- XZ];exact .inl (aaI b h)
 clear XZ;generalize w2.alloc (.cells #[.string y,.int .i64 rc,.slice sa ts.length sc] 42)=w3 at *;generalize hY:w2.heap.size=Y at *;replace Da:=Da.symm;refine aD ?_;refine kn oX x0 ?_;refine aD ?_;refine kn oY y0 ?_;refine aD ?_;refine kn oX x1 ?_;refine aD ?_;refine kn oY y1 ?_;refine aD ?_;refine kn oX x2 ?_;refine aD ?_;refine kn oY y2 ?_;refine aD ?_;refine kn oY y2 ?_;walk_nrm;have mV:=λw9 h1 h2 h3=>mV w9 h1 h2 h3 o3 Rk;have oA3:=Rk A oA1;cases sa with
 |none =>
  simp only[Option.isNone_none,Bool.not_true]at Uk;obtain rfl:=pz rfl;have exa:xa=none:=by
   rcases C4 with⟨-,-,q⟩|⟨⟨a,q⟩,-⟩
   ·exact q
   ·cases q
  obtain⟨xP,K9⟩:=mV w3 vJ aa λb h1 _=>Xk.same b aa;clear mV C4 n1 n2 n3 hN UA x0 x1 x2 y0 y1 y2;refine aD ?_;refine OX (x:=.string ⟨#[103,111,110,101]⟩) (y:=.int .i64 1) (z:=.slice we 0 0) oA3 xP (show k*3+2<(ls.length+1)*3 by omega) ?_;refine aD ?_;exact⟨m-1,aa,k+1,_,aa,bQ,bQ,ax,ax,ax,by simp[Act.eval,om],K9⟩
 |some sb =>
 simp only[Option.isNone_some,Bool.not_false]at Uk;obtain⟨N,rfl,rfl,WX,hN2,UB⟩:∃N,xa=so ⟨N,0,we⟩/\xc=ts.length+1/\A<N/\N<w0.heap.size/\w0.rowIs N 9 (ts.length+1) (jQ (ts++[xf])):=by
  rcases C4 with⟨q,-⟩|⟨-,q⟩
  ·cases q
  ·exact q
 have UB:=World.rowIs.of_block UB ((Xk.same N aa).trans (UA N rfl));have oN:o3 N:=Rk N (aew N (fo N aa hN2));have hwt:IntKind.i64.wrap ((ts.length:Int)+1)=((ts.length+1:Nat):Int):=by rw[IntKind.wrap_i64]<;>omega
 have htI:(ts.length:Int)<(ts.length:Int)+1:=aa;have h0t:(0:Int)<=(ts.length:Int)+1:=aa;have aey:=λw1 es=>nf (P:=ak) w1 es 40 9 N (ts.length+1) ts.length (ts.length+1) underlying40 aa
 push_cast at aey
 have cM:=UB.cell (show ts.length<ts.length+1 by omega);rw[sg _ _ aj]at cM;simp only[List.getElem_append_right (Nat.le_refl _),Nat.sub_self,List.getElem_cons_zero]at cM;clear C4 UA fo;unfold xf at cM;refine aD ?_;refine kn oX x2 ?_;refine aD ?_;refine kn oY y2 ?_;refine aD ?_;refine kn oY y2 ?_;refine aD ?_;refine kn (.inl oN) cM ?_;refine aD ?_;refine dQ W (λm2 a o' w'=>∃j us,m2+j=ts.length/\a.tmps.size=112/\a.defers=[]/\a.eval (.tmp 1)=.slice (so ⟨b,off,we⟩) ls.length c/\a.eval (.tmp 5)=.slice (so ⟨A,0,we⟩) (ls.length+1) (ls.length+1)/\a.eval (.tmp 6)=.bool true/\a.eval (.tmp 7)=.int .i64 (k:Nat)/\a.eval (.tmp 9)=.pointer (so ⟨Y,0,we⟩)/\a.eval (.tmp 10)=.slice (so ⟨N,0,we⟩) (ts.length+1) (ts.length+1)/\a.eval (.tmp 11)=.int .i64 (j:Nat)/\o'=o3/\w'.heap.size=w3.heap.size/\bJ ak L0 o w'/\(∀b,b≠N->w'.heap[b]?=w3.heap[b]?)/\w'.rowIs N 9 (ts.length+1) (jQ us)/\us.length=ts.length+1/\∀i,j<=i->∀(h:i<ts.length),us[i]?=so ts[i]) (N:=ts.length) ⟨0,ts++[xf],aj,rfl,rfl,ax,ax,ax,ax,ax,ax,ax,rfl,rfl,vJ,λ_ _=>rfl,UB,aj,λi _ h=>by simp[List.getElem?_append,h]⟩ ?_;clear UB cM x0 x1 x2 y0 y1;rintro m2 a o4 w4 ⟨j,us,hmj,ew,iu,i1,i5,i6,i7,i9,i10,i11,e1,H3,BF,Xi,EI,Ui,mW⟩;subst e1;obtain⟨gs,rfl⟩:=eQ ew iu;clear ew iu;simp only[List.range,List.range.loop,aB,aJ]at i1 i5 i6 i7 i9 i10 i11 |-;simp[Act.eval]at i1 i5 i6 i7 i9 i10 i11;simp only[i1,i5,i6,i7,i9,i10,i11];clear i1 i5 i6 i7 i9 i10 i11;have y2':=(cell_of (Xi Y aa)).trans y2;by_cases hj:j<ts.length;rotate_left
 ·have Oq:¬(j:Int)<(ts.length:Int):=aa;obtain⟨xP,K9⟩:=mV w4 BF aa λb h1 h2=>(Xi b λe=>h2 (by rw[e])).trans (Xk.same b aa);clear mV n1 n2 n3 hN mW EI;refine aD ?_;refine kn oY y2' ?_;refine aD ?_;refine OX (x:=.string ⟨#[103,111,110,101]⟩) (y:=.int .i64 1) (z:=.slice we 0 0) oA3 xP (show k*3+2<(ls.length+1)*3 by omega) ?_;refine aD ?_;exact⟨m-1,aa,k+1,_,aa,bQ,bQ,ax,ax,ax,by simp[Act.eval,om],K9⟩
 have Oq:(j:Int)<(ts.length:Int):=aa;have an6:(j:Int)<(ts.length:Int)+1:=aa;have US:IntKind.i64.wrap ((j:Int)+1)=((j+1:Nat):Int):=by rw[IntKind.wrap_i64]<;>omega
 obtain⟨eI,hI,hIl⟩:=n1 (lU hj);have aiG:=n3 (lU hj);obtain rfl:=aP eI;have hI3:wx Fin o4 ib:=hI.up λb h=>Rk b (aew b h);have ci:w4.cell? ⟨ib,io+j,we⟩=so (.string ts[j]):=(cell_of (Xi ib aa)).trans ((cell_of (Xk.same ib aa)).trans ((cell_of (Lj ib hIl (.inl aiG))).trans (n2 j hj)));have huj:=mW j (af _) hj;obtain⟨aez,huj⟩:=a8.1 huj;have cu:=EI.cell (show j<ts.length+1 by omega);rw[sg us j aez,huj]at cu;have aaM:∀i,j+1<=i->∀(h:i<ts.length),(us.set j ⟨#[103,111,110,101]⟩)[i]?=so ts[i]:=λi hi h=>by
  rw[eO aa];exact mW i aa h
 have xP:=KU (x:=⟨#[103,111,110,101]⟩) aez EI;clear mW huj n1 n2 n3 eI mV;generalize ts[j]=tj at *;refine aD ?_;refine kn oY y2' ?_;refine aD ?_;refine iy mixed ah [so we,so we,so we,so we,so we,so (so (.string tj)),so we,so (so (.slice (so ⟨ib,io,we⟩) ts.length sc)),so we,so we,so (so (.string tj)),so we,so we,so we]
  (S:=λσ o' w'=>o4=o'/\w4=w') ⟨rfl,rfl⟩ λv9=>?_
 refine fF ?_;refine fU ?_;refine sH (B:=N) (i:=j) (λσ o' w' hS=>?_) ?_
 ·obtain⟨rfl,rfl⟩:=hS;exact⟨.inl oN,cu⟩
 refine fU ?_;refine sH (B:=Y) (i:=2) (λσ o' w' hS=>?_) ?_
 ·obtain⟨rfl,rfl⟩:=hS;exact⟨oY,y2'⟩
 refine fU ?_;refine sH (B:=ib) (i:=io+j) (λσ o' w' hS=>?_) ?_
 ·obtain⟨rfl,rfl⟩:=hS;exact⟨hI3,ci⟩
 refine fU ?_;refine fj λσ o9 w9 wu hS=>?_;clear wu;obtain⟨rfl,rfl⟩:=hS;simp only[nu,gL,if_true,if_false,reduceIte,Nat.reduceEqDiff];refine aD ?_;refine Rj (x:=.string ⟨#[103,111,110,101]⟩) oN EI (show j<ts.length+1 by omega) ?_;have hz9:(w4.setCell ⟨N,j,we⟩ (.string ⟨#[103,111,110,101]⟩)).heap.size=w4.heap.size:=by simp[World.setCell]
 have FJ:bJ ak L0 o (w4.setCell ⟨N,j,we⟩ (.string ⟨#[103,111,110,101]⟩)):=bJ.setCell BF dH;have H4:∀b,b≠N->(w4.setCell ⟨N,j,we⟩ (.string ⟨#[103,111,110,101]⟩)).heap[b]?=w3.heap[b]?:=λb hb=>(ml _ _ _ hb).trans (Xi b hb);generalize w4.setCell ⟨N,j,we⟩ (.string ⟨#[103,111,110,101]⟩)=w9 at *;clear EI cu ci Xi BF;refine aD ?_;exact⟨m2-1,aa,j+1,_,aa,bQ,bQ,ax,ax,ax,ax,ax,ax,by simp[Act.eval,US],by trivial,aa,FJ,H4,xP,by simp[Ui],aaM⟩
end
end
section
open Go.RowKit
def uh:Nat->Nat->ag->ag
 |0,_,s=>s
 |k+1,n,s=>uh k (n/26) ((⟨#[UInt8.ofNat (65+n%26)]⟩:ag)++s)
def KY(n:Nat)(hn:n<=4611686018427387904)(w:ae):Calls ak 59 #[.int .i64 n] w λe w'=>e=.returned (.string (uh 5 n ⟨#[]⟩))/\Below w.heap.size w w'/\w.heap.size<=w'.heap.size:=by
 go_enter func59,ntmps59;go_wp2;go_loopw [0,3,4] (λy s i w'=>∃(k m:Nat) (x:ag),k<=5/\m<=4611686018427387904/\i=.int .i64 k/\y=.int .i64 m/\s=.string x/\x.size<=k/\Hid (uh 5 n ⟨#[]⟩=uh (5-k) m x)/\Below w.heap.size w w'/\w.heap.size<=w'.heap.size) (λ_ _ i _=>5-(intOf i).toNat)
 case atStart=>exact⟨0,n,⟨#[]⟩,aa,hn,rfl,rfl,rfl,af _,rfl,Below.refl _ _,af _⟩
 case round =>
  obtain⟨k,m,x,hk,hm,rfl,rfl,rfl,hx,hl,hB,hz⟩:=hrel;by_cases cR:k<5
  ·have rq:(k:Int)<5:=aa;have hr:m%26<26:=Nat.mod_lt _ aa;have h1:(m:Int)%26=((m%26:Nat):Int):=aa;have h1':(m:Int).tmod 26=((m%26:Nat):Int):=by rw[Int.tmod_eq_emod_of_nonneg aa];omega
   have h2:(m:Int)/26=((m/26:Nat):Int):=aa;have Zl:(m:Int).tdiv 26=((m/26:Nat):Int):=by rw[gU aa];omega
   have hd:m/26<=4611686018427387904:=aa;have GY:Hid (uh 5 n ⟨#[]⟩=uh (5-(k+1)) (m/26) ((⟨#[UInt8.ofNat (65+m%26)]⟩:ag)++x)):=by
    have:uh 5 n ⟨#[]⟩=uh (5-k) m x:=hl;show uh 5 n ⟨#[]⟩=_;rw[this,show 5-k=(5-(k+1))+1 by omega,uh]
   have hu:(UInt8.ofNat (65+m%26)).toNat=65+m%26:=by rw[UInt8.toNat_ofNat'];omega
   generalize m%26=r at *;generalize m/26=m' at *;have e1:IntKind.i64.wrap (65+(r:Int))=65+(r:Int):=by rw[IntKind.wrap_i64]<;>omega
   have e2:IntKind.u8.wrap (65+(r:Int))=65+(r:Int):=by simp[IntKind.wrap,IntKind.signed,IntKind.bits];omega
   have e3:IntKind.i64.wrap (m':Int)=(m':Int):=by rw[IntKind.wrap_i64]<;>omega
   have hcv:∀W:ae,(convert 90 9 (.slice (so ⟨W.heap.size,0,we⟩) 1 1)).run ak (W.alloc (.cells #[.int .u8 (65+(r:Int))] 5))=.ok (.string ⟨#[UInt8.ofNat (65+r)]⟩) (W.alloc (.cells #[.int .u8 (65+(r:Int))] 5)):=λW=>by
    refine run_convert_bytes_back (P:=ak) (W.alloc (.cells #[.int .u8 (65+(r:Int))] 5)) 90 9 5 ⟨W.heap.size,0,we⟩ 1 [UInt8.ofNat (65+r)] underlying90 underlying5 underlying9 (λj hj=>?_);have hj0:j=0:=Nat.lt_one_iff.1 hj;subst hj0;refine(KA W _ _ 0).trans ?_;show so (Value.int .u8 (65+(r:Int)))=so (Value.int .u8 ((UInt8.ofNat (65+r)).toNat:Int));rw[hu];rfl
   have Lj:(⟨#[UInt8.ofNat (65+r)]⟩:ag).size=1:=rfl;have ain:¬9223372036854775807<(⟨#[UInt8.ofNat (65+r)]⟩:ag).size+x.size:=by rw[Lj];omega
   have xS:=λy=>hB.alloc hz y;clear hl hu hr;generalize UInt8.ofNat (65+r)=bb at *;go_wp2;exact⟨⟨k+1,m',_,aa,aa,by go_num,by go_num,rfl,by rw[ByteArray.size_append,Lj];omega,GY,xS _,eW⟩,by simp[intOf];omega⟩
  ·obtain rfl:k=5:=aa;have GY:uh 5 n ⟨#[]⟩=x:=hl;have HN:Hid (uh 5 n ⟨#[]⟩=x):=GY;clear GY hl;go_wp2;go_ret;exact⟨by rw[show uh 5 n ⟨#[]⟩=x from HN];rfl,hB,hz⟩
end
section
open Go.RowKit (Hid)
section
variable {Fin:br}{d:Nat}{o:aL}{w:ae}{fn:FuncId}{Q:Exit->Act->aL->ae->Prop}{a:Act}{ops:Array Oper}{i j:Nat}{rest:List Nat}{t1:Tmp}{dd:Option Tmp}{e1 e2:Oper}
def UC{e sz bs m:Nat}{t:TypeId}{z:Value}{us olds:List Value}{ao:Option Addr}{n cap:Nat}(hF:bJ ak L0 o w)(xe:ao=we->n=0/\cap=0)(Jp:olds.length=n*sz)(holds:∀b,ao=so b->o b.block/\b.spot=we/\∀j u,olds[j]?=so u->w.cell? (b.add j)=so u)(fG:Cl ak L0 o (.slice ao n cap))(aeA:cap<n+m)(hn:(n+m)*bs<=140737488355328)(MB:n+m<=9223372036854775807)(OQ:us.length=m*sz)(h1c:∀u∈us,u.oneCell'=true)(zj:(ak.info? e).map (λi=>(i.zero,i.size,i.bytes))=so (so z,sz,bs))(hz:z.cells.size=sz)(h0:0<sz)(hu:ak.underlying t=so (.slice e)){xvs:List Value}(Y1:∀x∈xvs,Cl ak L0 o x)(k:∀y o' w',gZ o w o' w'->(∃lo,w.heap.size<=lo/\jy o' w' lo e sz y (n+m) (olds++us))->dK (XB ak Fin d) fn ops rest Q ((a.put (so t1) (.slice (so ⟨w.heap.size,0,we⟩) m m)).put dd y) o' w')(h1:ops[i]?=so e1:=by rfl)(h2:Region.wanted e1 (yielded ops a.tmps)=true:=by rfl)(h3:oC L0 e1.op=true:=by rfl)(h4:e1.dst=so t1:=by rfl)(h5:∀wl,(execOp a.eval e1).run ak wl=.ok (.value (.slice (so ⟨wl.heap.size,0,we⟩) m m)) (wl.alloc (.cells us.toArray e)):=by intro wl;simp[go_sem,Act.eval])(hx:(∀x∈xvs,Cl ak L0 o x)->∀x∈e1.op.operands,Cl ak L0 o (a.eval x):=by
   intro h9 y hy;simp[Op.operands]at hy
   first
   |subst hy
   | (rcases hy with rfl|rfl)
   | (rcases hy with rfl|rfl|rfl)
   | (rcases hy with rfl|rfl|rfl|rfl)
   all_goals
    simp[Act.eval];apply h9;simp)(h7:ops[j]?=so e2:=by rfl)(h8:∀p,Region.wanted e2 (yielded ops (a.put (so t1) p).tmps)=true:=by intro p;rfl)(h9:oC L0 e2.op=true:=by rfl)(vx:∃s,e2.op=.call {callee:=.builtin .append,args:=#[s,.tmp t1],argTypes:=#[t,t]}/\(∀p,(a.put (so t1) p).eval s=.slice ao n cap)/\∀p,(a.put (so t1) p).eval (.tmp t1)=p:=by exact⟨_,rfl,λp=>rfl,λp=>rfl⟩)(h11:e2.dst=dd:=by rfl):dK (XB ak Fin d) fn ops (i::j::rest) Q a o w:=by
 obtain⟨s,vx,q1,q2⟩:=vx;refine jL jN hF h1 h2 h3 (hx Y1) h4 (R:=λwl v bN=>v=.slice (so ⟨wl.heap.size,0,we⟩) m m/\bN=wl.alloc (.cells us.toArray e)) (λwl bu=>⟨_,_,h5 wl,rfl,rfl⟩) λwl v1 bN w5 bu Ey fP=>?_;obtain⟨rfl,Ey⟩:=Ey;obtain⟨z5,k5,kb5⟩:=fP.alloc hF bu Ey;rw[bu.size];have Gx:=gZ.tH fP.bS aa k5;have oN:Go.Ren.grow o w w5 w.heap.size:=Gx.all _ (af _) aa;have zu:=Gx.bA.bS;have ZU:=fG.up Gx.bA.more;clear Ey fP bu wl bN k5;generalize Go.Ren.grow o w w5=o5 at *;refine jL jN zu h7 (h8 _) h9 ?_ h11 (R:=λwl y bN=>bN.ownsRow wl.heap.size e sz y (n+m) (olds++us)/\wl.grownBy bN we) (λwl bu=>?_) λwl y6 bN w6 bu hR6 fP=>?_
 ·rw[vx];intro y hy;simp[Op.operands,Call.operands]at hy;rcases hy with rfl|rfl
  ·rw[q1];exact ZU
  ·rw[q2];exact eK oN
 ·obtain⟨i0,hi,pL⟩:=aH.1 zj;simp only[bO]at pL;have ha:=(bu.heap _ oN).trans kb5;have rM:∀j u,us[j]?=so u->wl.cell? ((⟨w.heap.size,0,we⟩:Addr).add j)=so u:=λj u hj=>by
   have e:(⟨w.heap.size,0,we⟩:Addr).add j=⟨w.heap.size,j,we⟩:=by simp[Addr.add];omega
   rw[e];simp[World.cell?,ha,hj]
  cases ao with
  |some b =>
   obtain⟨ob,hbs,hb⟩:=holds b rfl;obtain⟨v',W',r1,r2,r3⟩:=run_append_arg_grows (P:=ak) wl t e2.type e i0 z sz bs hu hi pL.1 pL.2.1 pL.2.2 hz h0 b n cap olds Jp (λj u hj=>by
    obtain⟨bb,bo,bsp⟩:=b;simp only at hbs;subst hbs;have e:(⟨bb,bo,we⟩:Addr).add j=⟨bb,bo+j,we⟩:=by unfold Addr.add;split<;>simp_all
    have:=hb j u hj;rw[e]at this |-;exact(cell_of ((bu.heap bb (Gx.bA.more _ ob)).trans (Gx.bA.same bb (hF.lt ob) id))).trans this) ⟨w.heap.size,0,we⟩ m m us OQ rM aeA (by simp[maxLen];omega) hn
   exact⟨v',W',j0 s (.tmp t1) t vx (q1 _) (q2 _) r1,r2,r3⟩
  |none =>
   obtain⟨rfl,rfl⟩:=xe rfl;obtain rfl:olds=[]:=List.eq_nil_of_length_eq_zero (by simpa using Jp);obtain⟨v',W',r1,r2,r3,-,-⟩:=run_append_own_at (P:=ak) wl wl.heap.size t e2.type e i0 z sz bs hu hi pL.1 pL.2.1 pL.2.2 hz h0 (.slice we 0 0) 0 [] (World.ownsRow_nil wl _ e sz) ⟨w.heap.size,0,we⟩ m m us OQ rM h1c (by simp[maxLen];omega) hn (af _);exact⟨v',W',j0 s (.tmp t1) t vx (q1 _) (q2 _) r1,r2,r3⟩
 obtain⟨r1,r2⟩:=hR6;have BG:=fP.bS;have aeB:=fP.val;have z6:=fP.sx;have RP:∀b,b<w5.heap.size->w6.heap[b]?=w5.heap[b]?:=λb hb=>by
  by_cases ho:o5 b
  ·rw[fP.same b (.inl ho),r2.block b (by rw[bu.size];exact hb) aj,bu.heap b ho]
  ·exact fP.rest b hb ho
 have G6:gZ o5 w5 (Go.Ren.grow o5 w5 w6) w6:=gZ.tH BG z6 RP;refine k y6 _ _ (Gx.trans G6) ⟨w5.heap.size,aa,⟨by
  rw[bu.size]at r1;exact gv r1 λb hb _=>fP.same b (se BG aeB b hb.symm),aeB,z6⟩⟩
def aeC{e sz bs m:Nat}{t:TypeId}{z:Value}{us:List Value}{lo n:Nat}{v:Value}{xs:List Value}(hF:bJ ak L0 o w)(row:jy o w lo e sz v n xs)(hn:(n+m)*bs<=140737488355328)(MB:n+m<=9223372036854775807)(OQ:us.length=m*sz)(h1c:∀u∈us,u.oneCell'=true)(zj:(ak.info? e).map (λi=>(i.zero,i.size,i.bytes))=so (so z,sz,bs))(hz:z.cells.size=sz)(h0:0<sz)(hu:ak.underlying t=so (.slice e)){xvs:List Value}(Y1:∀x∈xvs,Cl ak L0 o x)(k:∀y o' w',WQ o w lo e sz v y (n+m) (xs++us) o' w'->(∀b,y.ownBlock=so b->v.ownBlock=so b\/w.heap.size<=b)->dK (XB ak Fin d) fn ops rest Q ((a.put (so t1) (.slice (so ⟨w.heap.size,0,we⟩) m m)).put dd y) o' w')(h1:ops[i]?=so e1:=by rfl)(h2:Region.wanted e1 (yielded ops a.tmps)=true:=by rfl)(h3:oC L0 e1.op=true:=by rfl)(h4:e1.dst=so t1:=by rfl)(h5:∀wl,(execOp a.eval e1).run ak wl=.ok (.value (.slice (so ⟨wl.heap.size,0,we⟩) m m)) (wl.alloc (.cells us.toArray e)):=by intro wl;simp[go_sem,Act.eval])(hx:(∀x∈xvs,Cl ak L0 o x)->∀x∈e1.op.operands,Cl ak L0 o (a.eval x):=by
   intro h9 y hy;simp[Op.operands]at hy
   first
   |subst hy
   | (rcases hy with rfl|rfl)
   | (rcases hy with rfl|rfl|rfl)
   | (rcases hy with rfl|rfl|rfl|rfl)
   all_goals
    simp[Act.eval];apply h9;simp)(h7:ops[j]?=so e2:=by rfl)(h8:∀p,Region.wanted e2 (yielded ops (a.put (so t1) p).tmps)=true:=by intro p;rfl)(h9:oC L0 e2.op=true:=by rfl)(vx:∃s,e2.op=.call {callee:=.builtin .append,args:=#[s,.tmp t1],argTypes:=#[t,t]}/\(∀p,(a.put (so t1) p).eval s=v)/\∀p,(a.put (so t1) p).eval (.tmp t1)=p:=by exact⟨_,rfl,λp=>rfl,λp=>rfl⟩)(h11:e2.dst=dd:=by rfl):dK (XB ak Fin d) fn ops (i::j::rest) Q a o w:=by
 obtain⟨s,vx,q1,q2⟩:=vx;refine jL jN hF h1 h2 h3 (hx Y1) h4 (R:=λwl v bN=>v=.slice (so ⟨wl.heap.size,0,we⟩) m m/\bN=wl.alloc (.cells us.toArray e)) (λwl bu=>⟨_,_,h5 wl,rfl,rfl⟩) λwl v1 bN w5 bu Ey fP=>?_;obtain⟨rfl,Ey⟩:=Ey;obtain⟨z5,k5,kb5⟩:=fP.alloc hF bu Ey;rw[bu.size];have Gx:=gZ.tH fP.bS aa k5;have oN:Go.Ren.grow o w w5 w.heap.size:=Gx.all _ (af _) aa;have od:=row.sx Gx;have zu:=Gx.bA.bS;have cR:=row.lt;clear Ey fP bu wl bN k5;generalize Go.Ren.grow o w w5=o5 at *;refine jL jN zu h7 (h8 _) h9 ?_ h11 (R:=λwl y bN=>bN.ownsRow lo e sz y (n+m) (xs++us)/\wl.grownBy bN v.ownBlock/\(y.ownBlock=v.ownBlock\/y.ownBlock=so wl.heap.size)) (λwl bu=>?_) λwl y6 bN w6 bu hR6 fP=>?_
 ·rw[vx];intro y hy;simp[Op.operands,Call.operands]at hy;rcases hy with rfl|rfl
  ·rw[q1];exact od.cl
  ·rw[q2];exact eK oN
 ·obtain⟨i0,hi,pL⟩:=aH.1 zj;simp only[bO]at pL;have ha:=(bu.heap _ oN).trans kb5;obtain⟨v',W',r1,r2,r3,-,r4⟩:=run_append_own_at (P:=ak) wl lo t e2.type e i0 z sz bs hu hi pL.1 pL.2.1 pL.2.2 hz h0 v n xs (gv od.row λg hg _=>bu.heap g (se zu od.cl g hg.symm)) ⟨w.heap.size,0,we⟩ m m us OQ (λj u hj=>by
   have e:(⟨w.heap.size,0,we⟩:Addr).add j=⟨w.heap.size,j,we⟩:=by simp[Addr.add];omega
   rw[e];simp[World.cell?,ha,hj]) h1c (by simp[maxLen];omega) hn (by rw[bu.size];exact od.low)
  exact⟨v',W',j0 s (.tmp t1) t vx (q1 _) (q2 _) r1,r2,r3,r4⟩
 obtain⟨r1,r2,r3⟩:=hR6;obtain⟨q1,q2,q3⟩:=jy.add zu od bu fP r1 r2 r3;have z6:=q2.size;refine k y6 _ _ ⟨q1,⟨q2.bS,λb hb=>q2.more b (Gx.bA.more b hb),λb hb=>(q2.new b hb).elim (λq=>Gx.bA.new b q) λq=>.inr aa,aa,λb hb hx=>(q2.same b aa hx).trans (Gx.bA.same b hb id)⟩,λb Ev oe=>?_⟩ λb hb=>(q3 b hb).imp id λq=>aa;by_cases q:b<w5.heap.size
 ·exact q2.more _ (Gx.all b Ev q)
 ·exact .inr ⟨aa,oe⟩
end
def DV(k:Nat):ag:=uh 5 (k/4) ⟨#[]⟩
def mN(x:ag)(j:Nat):Value:=if j%3=0 then .string x else if j%3=1 then .string ⟨#[]⟩ else .bool false
def marks(x:ag)(n:Nat):List Value:=(List.range (n*3)).map (mN x)
def lD(x:ag)(n:Nat):(marks x n).length=n*3:=by simp[marks]
def rE(x:ag)(n:Nat){j:Nat}(hj:j<n*3):(marks x n)[j]?=so (mN x j):=by simp[marks,hj]
def AU(x:ag)(k:Nat):mN x (k*3)=.string x/\mN x (k*3+1)=.string ⟨#[]⟩/\mN x (k*3+2)=.bool false:=by
 have a0:(k*3)%3=0:=aa;have a1:(k*3+1)%3=1:=aa;have a2:(k*3+2)%3=2:=aa;simp[mN,a0,a1,a2]
def Aj(x:ag)(n m:Nat):marks x n++marks x m=marks x (n+m):=by
 apply dA;intro j;rw[List.getElem?_append,lD];by_cases h:j<n*3
 ·rw[if_pos h,rE x n h,rE x (n+m) aa]
 ·rw[if_neg h];by_cases h2:j<(n+m)*3
  ·rw[rE x m aa,rE x (n+m) h2];have e:(j-n*3)%3=j%3:=aa;simp[mN,e]
  ·rw[cV (by rw[lD];omega),cV (by rw[lD];omega)]
structure zp(o:aL)(w:ae)(ex:Nat->Prop)(k:Nat)(x:Value):Prop where
 ex:∃p n c R,x=.slice p n c/\n<=11/\(0<n->p=so ⟨R,0,we⟩/\o R/\¬ex R)/\∀j,j<n*3->w.cell? ⟨R,j,we⟩=so (mN (DV k) j)
def zp.keep{o o':aL}{w w':ae}{ex ex':Nat->Prop}{k:Nat}{x:Value}(h:zp o w ex k x)(pB:∀b,o b->o' b)(hs:∀b,o b->¬ex b->w'.heap[b]?=w.heap[b]?)(hex:∀b,o b->¬ex b->¬ex' b):zp o' w' ex' k x:=by
 obtain⟨p,n,c,R,e,hn,hp,hc⟩:=h.ex;refine⟨p,n,c,R,e,hn,λh0=>⟨(hp h0).1,pB _ (hp h0).2.1,hex _ (hp h0).2.1 (hp h0).2.2⟩,λj hj=>?_⟩;obtain⟨-,h1,h2⟩:=hp aa;exact(cell_of (hs R h1 h2)).trans (hc j hj)
structure WC(o:aL)(w:ae)(wb lo:Nat)(v:Value)(vs:List Value):Prop where
 own:o wb
 low:wb<lo
 blk:w.heap[wb]?=so (.cells #[.slice we 0 0,v,.slice we 0 0] 78)
 row:jy o w lo 46 1 v vs.length vs
 at_:∀k (h:k<vs.length),zp o w (λb=>b=wb\/v.ownBlock=so b) k vs[k]
 four:vs.length%4=0
def WC.keep{o o':aL}{w w':ae}{wb lo:Nat}{v:Value}{vs:List Value}(h:WC o w wb lo v vs)(pB:∀b,o b->o' b)(hz:w.heap.size<=w'.heap.size)(hs:∀b,o b->w'.heap[b]?=w.heap[b]?)(hF:bJ ak L0 o w):WC o' w' wb lo v vs :=
 ⟨pB _ h.own,h.low,(hs wb h.own).trans h.blk,h.row.keep pB hz λg hg=>hs g (se hF h.row.cl g hg),λk hk=>(h.at_ k hk).keep pB (λb hb _=>hs b hb) λb _ q=>q,h.four⟩
def Ga{Fin:br}{o:aL}{w:ae}(hF:bJ ak L0 o w)(n:Nat)(hn:n<=4611686018427387904):
  bC ak (XB ak Fin 0) 59 #[.int .i64 n] o w λv o' w'=>v=.string (uh 5 n ⟨#[]⟩)/\iz o w v o' w':=by
 refine bC.mono (fQ ah hF (λz hz=>by simp at hz;subst hz;exact lG) (Q:=λwl v w'=>v=.string (uh 5 n ⟨#[]⟩)) (λwl D8 v w1 w2 e1 e2 h=>h) (λwl hz bu=>?_)) (λv o' w' hq=>?_)
 ·refine(KY n hn wl).mono λe w' hq=>?_;obtain⟨rfl,hB,Da⟩:=hq;exact⟨_,rfl,Da,λb hb=>hB.block b hb,rfl⟩
 ·exact⟨hq.2.choose_spec.choose_spec.2.2.2,hq.1⟩
section
variable {Fin:br}{d:Nat}{o:aL}{w:ae}{fn:FuncId}{Q:Exit->Act->aL->ae->Prop}{a:Act}{ops:Array Oper}{i j:Nat}{rest:List Nat}{t:Tmp}{e1 e2:Oper}
def KZ(P:Program)(w:ae)(es:Array Event)(a:Addr)(m:Mode)(x:Bool):(store a (.bool x) m).events P w es=storedEv P w es a (.bool x) m:=events_store P w es a _ m rfl
def OY{x0 y0 x y:ag}{q0 q:Bool}{T:Nat}(hT:T=w.heap.size)(k:dK (XB ak Fin d) fn ops rest Q (a.put we undef) (λb=>o b\/b=T) (w.alloc (.cells #[.string x,.string y,.bool q] 65)))(h5:ops[j]?=so e2:=by rfl)(h6:Region.wanted e2 (yielded ops a.tmps)=true:=by rfl)(h7:∃u v,e2.op=.store 65 u v/\a.eval u=.pointer (so ⟨T,0,we⟩)/\a.eval v=.agg #[.string x,.string y,.bool q]:=by exact⟨_,_,rfl,rfl,rfl⟩)(h8:e2.dst=none:=by rfl):dK (XB ak Fin d) fn ops (j::rest) Q a (λb=>o b\/b=T) (w.alloc (.cells #[.string x0,.string y0,.bool q0] 65)):=by
 obtain⟨u,v,h7,q9,Hs⟩:=h7;obtain⟨_,_,_,_,_,_⟩:=e2;simp only at h7 h8;subst h7 h8 hT;have hg:Go.Ren.grow (λb=>o b\/b=w.heap.size) (w.alloc (.cells #[.string x0,.string y0,.bool q0] 65)) (w.alloc (.cells #[.string x,.string y,.bool q] 65))=λb=>o b\/b=w.heap.size:=by
  funext b;simp only[Go.Ren.grow,eq_iff_iff];exact⟨λh=>h.elim id λh=>by simp at h;omega,.inl⟩
 have ji:∀m,((w.alloc (.cells #[.string x0,.string y0,.bool q0] 65)).at m).heap[w.heap.size]?=so (.cells #[.string x0,.string y0,.bool q0] 65):=λm=>dz _ _;refine rA (w':=w.alloc (.cells #[.string x,.string y,.bool q] 65)) h5 h6 rfl aj ⟨rfl,rfl⟩ (λm=>?_) (λm x hx=>?_) ?_
 ·obtain⟨e0,e1,e2,f0,f1,f2⟩:=ki (ji m);generalize Act.eval a=ev at q9 Hs |-;have:=Du (w.at m) (.string x0) (.string y0) (.bool q0) (.string x) (.string y) (.bool q) 65;simp[go_sem,q9,Hs,e0,e1,e2,f0,f1,f2];exact this
 ·obtain⟨e0,e1,e2,f0,f1,f2⟩:=ki (ji m);generalize Act.eval a=ev at q9 Hs hx;simp[go_sem,sf,KZ,q9,Hs,e0,e1,e2,f0,f1,f2]at hx;rw[hg];rcases hx with rfl|rfl|rfl<;>exact⟨_,_,_,rfl,.inl (.inr rfl)⟩
 ·rw[hg];exact k
def K0(hF:bJ ak L0 o w)(x y:ag)(q:Bool):gZ o w (λb=>o b\/b=w.heap.size) (w.alloc (.cells #[.string x,.string y,.bool q] 65)) :=
 ⟨⟨hF.alloc rfl λf hf=>by simp[obj],λb h=>.inl h,λb h=>h.imp id λe=>aa,aj,λb hb _=>RowKit.Below.heap_alloc _ _ b hb⟩,λb h1 h2=>.inr (by simp at h2;omega)⟩
end
def aaQ:(ak.info? 46).map (λi=>(i.zero,i.size,i.bytes))=so (so (.slice we 0 0),1,24):=ah
structure UD(o:aL)(w:ae)(lo:Nat)(l:Value)(n:Nat):Prop where
 ui:n<=8
 ex:n=0/\l=.slice we 0 0\/∃R f,l=.slice (so ⟨R,0,we⟩) n n/\o R/\lo<=R/\w.rowIs R 65 (n*3) f
def jy.marked{o:aL}{w:ae}{lo n k:Nat}{y:Value}{ex:Nat->Prop}(h:jy o w lo 65 3 y n (marks (DV k) n))(hF:bJ ak L0 o w)(hn:n<=11)(hex:∀b,lo<=b->¬ex b):zp o w ex k y:=by
 obtain⟨p,b,c,rfl,h1,h2,-,h3⟩:=h.at_ hF;exact⟨p,n,c,b,rfl,hn,λh0=>⟨(h2 h0).1,(h2 h0).2.1,hex b (h2 h0).2.2⟩,λj hj=>h3 j _ (rE _ _ hj)⟩
def vR(b off i:Nat):(⟨b,off,we⟩:Addr).add i=⟨b,off+i,we⟩:=by
 unfold Addr.add;split
 ·rename_i h;subst h;rfl
 ·rfl
def aaR(R j:Nat):(⟨R,0,we⟩:Addr).add j=⟨R,j,we⟩:=by
 simp[Addr.add];omega
def HJ{o:aL}(x:ag):Cl ak L0 o (.agg #[.string x,.string ⟨#[]⟩,.bool false]):=by
 refine sB (vs:=[_,_,_]) λu hu=>?_;simp at hu;rcases hu with rfl|rfl|rfl
 ·exact dH
 ·exact dH
 ·exact vE
def Xl{w:ae}{b t:Nat}{x y z:Value}(h:w.heap[b]?=so (.cells #[x,y,z] t)):w.rowIs b t 3 (λj=>if j=0 then x else if j=1 then y else z):=⟨_,h,rfl,λj hj=>by
 have:j=0\/j=1\/j=2:=aa;rcases this with rfl|rfl|rfl<;>rfl⟩
def Ak(x:ag)(n:Nat):∀u∈marks x n,u.oneCell'=true:=λu hu=>by
 obtain⟨j,-,rfl⟩:=aV.1 hu;unfold mN;split
 ·rfl
 ·split<;>rfl
section
variable {Fin:br}{o o0:aL}{w w0:ae}{wb lo n:Nat}{v l:Value}{vs:List Value}
def NF(hF:bJ ak L0 o w)(SC:bJ ak L0 o0 w0)(hW:WC o0 w0 wb lo v vs)(pB:∀b,o0 b->o b)(hz:w0.heap.size<=w.heap.size)(hs:∀b,o0 b->w.heap[b]?=w0.heap[b]?)(hl:UD o w w0.heap.size l n)(AV:(vs.length+4)*24<=140737488355328):
  bC ak (XB ak Fin 0) 91 #[.pointer (so ⟨wb,0,we⟩),l] o w λ_ o' w'=>∃v' UE,WC o' w' wb lo v' UE/\UE.length=vs.length+4/\fW (λb=>b=wb\/v.ownBlock=so b\/w0.heap.size<=b/\o b) o w o' w':=by
 have W:=bZ (P:=ak) (Fin:=Fin) (d:=0);obtain⟨p,R,Xw,xe,OZ⟩:∃p R,l=.slice p n n/\(p=we->n=0/\n=0)/\(∀b,p=so b->b=⟨R,0,we⟩/\o R/\w0.heap.size<=R/\∃f,w.rowIs R 65 (n*3) f):=by
  rcases hl.ex with⟨rfl,rfl⟩|⟨R,f,rfl,h1,h2,h3⟩
  ·exact⟨we,0,rfl,(λ_=>⟨rfl,rfl⟩),(λb q=>by cases q)⟩
  ·exact⟨_,R,rfl,(λq=>by cases q),(λb q=>by cases q;exact⟨rfl,h1,h2,f,h3⟩)⟩
 subst Xw;have hn8:=hl.ui;have hvz:(vs.length:Int).tdiv 4=((vs.length/4:Nat):Int):=by rw[gU aa];omega
 have hwz:IntKind.i64.wrap ((vs.length:Int)/4)=(vs.length:Int)/4:=by rw[IntKind.wrap_i64]<;>omega
 obtain⟨pv,lv,cv,rfl⟩:=nB hW.row.row;obtain rfl:=vP hW.row.row rfl;have ow:=pB _ hW.own;have lwb:=SC.lt hW.own;obtain⟨-,c1,-⟩:=ki ((hs wb hW.own).trans hW.blk);have vY:=hW.low;have Wf:=hW.row.lt;refine bt W func91 aG ?_;walk_nrmf Tryz.f91;refine aD ?_;refine kn (.inl ow) c1 ?_;refine aD ?_;refine dq func59 (Ga hF (vs.length/4) aa) ?_;rintro v1 o1 w1 ⟨rfl,N1⟩;have G1:=gZ.kJ N1;generalize hx:uh 5 (vs.length/4) ⟨#[]⟩=x at *;have lS:=G1.bA.bS;clear N1;refine aD ?_;refine eu rfl aG rfl (.cells #[.string ⟨#[]⟩,.string ⟨#[]⟩,.bool false] 65) (λn=>.pointer (so ⟨n,0,we⟩)) (λw1=>by first|(simp[go_sem];done)|(simp[go_sem];rfl)) (λw1=>by first|(simp[go_sem];done)|(simp[go_sem];rfl)) ?_;walk_nrm;refine OY (x:=x) (y:=⟨#[]⟩) (q:=false) rfl ?_;have G2:=K0 lS x ⟨#[]⟩ false;have Da:(w1.alloc (.cells #[.string x,.string ⟨#[]⟩,.bool false] 65)).heap.size=w1.heap.size+1:=aj;obtain⟨x0,x1,x2,-⟩:=ki (w:=w1.alloc (.cells #[.string x,.string ⟨#[]⟩,.bool false] 65)) (b:=w1.heap.size) (dz _ _);generalize (λb=>o1 b\/b=w1.heap.size)=o2 at *;generalize w1.alloc (.cells #[.string x,.string ⟨#[]⟩,.bool false] 65)=w2 at *;have oX:=G2.all w1.heap.size (af _) aa;have JO:=G1.bA.size;have GX:=G1.trans G2;have hXw:w.heap.size<=w1.heap.size:=JO;have lX:=G2.bA.bS.lt oX;clear G1 lS c1;generalize w1.heap.size=X at *;have rK:=G2.bA.bS;clear G2;have Qr:∀b,p=so b->b=⟨R,0,we⟩/\o2 R/\w0.heap.size<=R/\R<w.heap.size/\∃f,w2.rowIs R 65 (n*3) f:=λb q=>by
  obtain⟨h1,h2,h3,f,h4⟩:=OZ b q;exact⟨h1,GX.bA.more _ h2,h3,hF.lt h2,f,World.rowIs.of_block h4 (GX.bA.same R (hF.lt h2) id)⟩
 refine aD ?_;refine dQ W (λm a o' w'=>∃k,m+k=n/\a.tmps.size=55/\a.defers=[]/\a.eval (.tmp 0)=.pointer (so ⟨wb,0,we⟩)/\a.eval (.tmp 1)=.slice p n n/\a.eval (.tmp 4)=.pointer (so ⟨X,0,we⟩)/\a.eval (.tmp 5)=.int .i64 (k:Nat)/\o'=o2/\w'.heap.size=w2.heap.size/\bJ ak L0 o2 w'/\(∀b,(∀c,p=so c->b≠R)->w'.heap[b]?=w2.heap[b]?)/\∀b,p=so b->∃f,w'.rowIs R 65 (n*3) f/\∀j,j<k*3->f j=mN x j) (N:=n) ⟨0,aj,rfl,rfl,ax,ax,ax,ax,rfl,rfl,rK,λ_ _=>rfl,λb q=>⟨_,(Qr b q).2.2.2.2.choose_spec,λj hj=>aa⟩⟩ ?_;rintro m a o3 w3 ⟨k,lP,ew,iu,i0,i1,i4,i5,e1,Lt,vJ,Ma,cd⟩;subst e1;obtain⟨gs,rfl⟩:=eQ ew iu;clear ew iu;simp only[List.range,List.range.loop,aB,aJ]at i0 i1 i4 i5 |-;simp[Act.eval]at i0 i1 i4 i5;simp only[i0,i1,i4,i5];clear i0 i1 i4 i5;have hXR:∀c,p=so c->X≠R:=λc q=>by have:=(Qr c q).2.2.2.1;omega
 have eX:=Ma X hXR;have x0:=(cell_of eX).trans x0;have x1:=(cell_of eX).trans x1;have x2:=(cell_of eX).trans x2;by_cases hk:k<n
 ·have rq:(k:Int)<(n:Int):=aa;have om:IntKind.i64.wrap ((k:Int)+1)=((k+1:Nat):Int):=by rw[IntKind.wrap_i64]<;>omega
  obtain⟨pa,rfl⟩:∃pa,p=so pa:=by
   cases p with
   |none=>have:=(xe rfl).1;omega
   |some pa=>exact⟨pa,rfl⟩
  obtain⟨rfl,oR,hR0,hRw,-⟩:=Qr _ rfl;obtain⟨f,vm,hf⟩:=cd _ rfl;have FJ:bJ ak L0 o3 (((w3.setCell ⟨R,k*3,we⟩ (.string x)).setCell ⟨R,k*3+1,we⟩ (.string ⟨#[]⟩)).setCell ⟨R,k*3+2,we⟩ (.bool false)):=bJ.setCell (bJ.setCell (bJ.setCell vJ dH) dH) vE;have hz9:(((w3.setCell ⟨R,k*3,we⟩ (.string x)).setCell ⟨R,k*3+1,we⟩ (.string ⟨#[]⟩)).setCell ⟨R,k*3+2,we⟩ (.bool false)).heap.size=w3.heap.size:=by simp[World.setCell]
  have H4:=λb (hb:b≠R)=>tJ w3 (k*3) (k*3+1) (k*3+2) (.string x) (.string ⟨#[]⟩) (.bool false) hb;have xP:=((vm.set (k*3) (.string x)).set (k*3+1) (.string ⟨#[]⟩)).set (k*3+2) (.bool false);clear OZ Qr cd;refine aD ?_;refine eZ (.inl oX) rfl aG rfl (v:=.agg #[.string x,.string ⟨#[]⟩,.bool false]) (λwl bu=>by simp[go_sem,bu.cell.trans x0,bu.cell.trans x1,bu.cell.trans x2]) (λwl bu e he=>?_) ?_
  ·simp[go_sem,bu.cell.trans x0,bu.cell.trans x1,bu.cell.trans x2]at he;rcases he with rfl|rfl|rfl<;>exact⟨_,_,_,rfl,rfl⟩
  refine aD ?_;refine OX (x:=.string x) (y:=.string ⟨#[]⟩) (z:=.bool false) oR vm (show k*3+2<n*3 by omega) ?_ (f3:=by
   intro wl h4 h5 h6 h7 h8 h9 e he;simp[go_sem,sf,KZ,Act.eval,h4,h5,h6,h7,h8,h9]at he;rcases he with rfl|rfl|rfl<;>exact⟨_,_,_,rfl,rfl⟩)
  generalize ((w3.setCell ⟨R,k*3,we⟩ (.string x)).setCell ⟨R,k*3+1,we⟩ (.string ⟨#[]⟩)).setCell ⟨R,k*3+2,we⟩ (.bool false)=w9 at *;clear x0 x1 x2 eX vm;refine aD ?_;refine⟨m-1,aa,k+1,aa,bQ,bQ,ax,ax,ax,by simp[Act.eval,om],by trivial,aa,FJ,λb hb=>(H4 b (hb _ rfl)).trans (Ma b hb),λb q=>⟨_,xP,λj hj=>?_⟩⟩;obtain⟨m0,m1,m2⟩:=AU x k;by_cases e2:j=k*3+2
  ·subst e2;rw[if_pos rfl,m2]
  by_cases e1:j=k*3+1
  ·subst e1;rw[if_neg e2,if_pos rfl,m1]
  by_cases e0:j=k*3
  ·subst e0;rw[if_neg e2,if_neg e1,if_pos rfl,m0]
  rw[if_neg e2,if_neg e1,if_neg e0];exact hf j aa
 have rq:¬(k:Int)<(n:Int):=aa;have hold:∀b,p=so b->o3 b.block/\b.spot=we/\∀j u,(marks x n)[j]?=so u->w3.cell? (b.add j)=so u:=λb q=>by
  obtain⟨rfl,oR,-⟩:=Qr b q;obtain⟨f,vm,hf⟩:=cd _ q;refine⟨oR,rfl,λj u hj=>?_⟩;have hj3:j<n*3:=by have:=(a8.1 hj).1;rwa[lD]at this
  rw[rE x n hj3]at hj;have e:(⟨R,0,we⟩:Addr).add j=⟨R,j,we⟩:=aaR R j;rw[e,vm.cell hj3,hf j aa];exact hj
 have DW:Cl ak L0 o3 (.slice p n n):=by
  cases p with
  |none=>exact nR
  |some b =>
   obtain⟨rfl,oR,-⟩:=Qr b rfl;exact eK oR
 have GW:fW (λb=>b=wb\/(Value.slice pv vs.length cv).ownBlock=so b\/w0.heap.size<=b/\o b) o w o3 w3:=⟨vJ,GX.bA.more,GX.bA.new,by have:=GX.bA.size;omega,λb hb hn=>(Ma b λc q e=>by
  obtain⟨-,q1,q2,-⟩:=OZ c q;exact hn (.inr (.inr ⟨aa,e▸q1⟩))).trans (GX.bA.same b hb id)⟩
 have BF:=vJ;have sK:∀b,o0 b->w3.heap[b]?=w0.heap[b]?:=λb hb=>(Ma b λc q=>by have:=(Qr c q).2.2.1;have:=SC.lt hb;omega).trans ((GX.bA.same b (hF.lt (pB b hb)) id).trans (hs b hb));have Yu:∀b,o0 b->o3 b:=λb hb=>GX.bA.more b (pB b hb);have hml:zp o3 w3 (λb=>b<w0.heap.size) vs.length (.slice p n n):=by
  have e:DV vs.length=x:=hx;refine⟨p,n,n,R,rfl,aa,λh0=>?_,λj hj=>?_⟩
  ·cases p with
   |none=>have:=(xe rfl).1;omega
   |some b =>
    obtain⟨rfl,oR,hR0,-⟩:=Qr b rfl;exact⟨rfl,oR,Nat.not_lt_of_le hR0⟩
  ·cases p with
   |none=>have:=(xe rfl).1;omega
   |some b =>
    obtain⟨rfl,-⟩:=Qr b rfl;have:=(hold _ rfl).2.2 j _ (rE x n hj);rw[aaR]at this;rw[e];exact this
 have em:∀i,i<4->DV (vs.length+i)=x:=λi hi=>by
  have:=hW.four;unfold DV;rw[show(vs.length+i)/4=vs.length/4 by omega];exact hx
 have an9:w0.heap.size<=w3.heap.size:=by have:=GX.bA.size;omega
 replace lX:X<w3.heap.size:=aa;clear cd Ma OZ Qr eX rq lP hXR;refine aD ?_;refine eZ (.inl oX) rfl aG rfl (v:=.agg #[.string x,.string ⟨#[]⟩,.bool false]) (λwl bu=>by simp[go_sem,bu.cell.trans x0,bu.cell.trans x1,bu.cell.trans x2]) (λwl bu e he=>?_) ?_
 ·simp[go_sem,bu.cell.trans x0,bu.cell.trans x1,bu.cell.trans x2]at he;rcases he with rfl|rfl|rfl<;>exact⟨_,_,_,rfl,rfl⟩
 refine aD ?_;refine UC (e:=65) (sz:=3) (m:=1) (us:=marks x 1) (olds:=marks x n) (ao:=p) (n:=n) (cap:=n) BF xe (lD x n) hold DW aa aa aa (lD x 1) (Ak x 1) zo rfl aa underlying46 (xvs:=[.agg #[.string x,.string ⟨#[]⟩,.bool false]]) (λu hu=>by simp at hu;subst hu;exact HJ x) (λy1 o4 w4 G1 hy1=>?_) (h5:=by intro wl;simp[go_sem,Act.eval];rfl);rw[Aj]at hy1;have zu:=G1.bA.bS;have ex1:=G1.bA.same X lX id;have x0:=(cell_of ex1).trans x0;have x1:=(cell_of ex1).trans x1;have x2:=(cell_of ex1).trans x2;have oX:=G1.bA.more _ oX;have lX:=bf lX G1.bA.size;have DW:=DW.up G1.bA.more;have hold:∀b,p=so b->o4 b.block/\b.spot=we/\∀j u,(marks x n)[j]?=so u->w4.cell? (b.add j)=so u:=λb q=>by
  obtain⟨h1,h2,h3⟩:=hold b q;obtain⟨bb,bo,bs⟩:=b;simp only at h1 h2 h3;subst h2;refine⟨G1.bA.more _ h1,rfl,λj u hj=>?_⟩;have:=h3 j u hj;have e:(⟨bb,bo,we⟩:Addr).add j=⟨bb,bo+j,we⟩:=vR bb bo j;rw[e]at this |-;exact(cell_of (G1.bA.same bb (BF.lt h1) id)).trans this
 refine aD ?_;refine eZ (.inl oX) rfl aG rfl (v:=.agg #[.string x,.string ⟨#[]⟩,.bool false]) (λwl bu=>by simp[go_sem,bu.cell.trans x0,bu.cell.trans x1,bu.cell.trans x2]) (λwl bu e he=>?_) ?_
 ·simp[go_sem,bu.cell.trans x0,bu.cell.trans x1,bu.cell.trans x2]at he;rcases he with rfl|rfl|rfl<;>exact⟨_,_,_,rfl,rfl⟩
 refine aD ?_;refine eZ (.inl oX) rfl aG rfl (v:=.agg #[.string x,.string ⟨#[]⟩,.bool false]) (λwl bu=>by simp[go_sem,bu.cell.trans x0,bu.cell.trans x1,bu.cell.trans x2]) (λwl bu e he=>?_) ?_
 ·simp[go_sem,bu.cell.trans x0,bu.cell.trans x1,bu.cell.trans x2]at he;rcases he with rfl|rfl|rfl<;>exact⟨_,_,_,rfl,rfl⟩
 refine aD ?_;refine UC (e:=65) (sz:=3) (m:=2) (us:=marks x 2) (olds:=marks x n) (ao:=p) (n:=n) (cap:=n) zu xe (lD x n) hold DW aa aa aa (lD x 2) (Ak x 2) zo rfl aa underlying46 (xvs:=[.agg #[.string x,.string ⟨#[]⟩,.bool false]]) (λu hu=>by simp at hu;subst hu;exact HJ x) (λy2 o5 w5 G2 UQ=>?_) (h5:=by intro wl;simp[go_sem,Act.eval];rfl);rw[Aj]at UQ;have BG:=G2.bA.bS;have ex2:=G2.bA.same X lX id;have x0:=(cell_of ex2).trans x0;have x1:=(cell_of ex2).trans x1;have x2:=(cell_of ex2).trans x2;have oX:=G2.bA.more _ oX;have lX:=bf lX G2.bA.size;have DW:=DW.up G2.bA.more;have hold:∀b,p=so b->o5 b.block/\b.spot=we/\∀j u,(marks x n)[j]?=so u->w5.cell? (b.add j)=so u:=λb q=>by
  obtain⟨h1,h2,h3⟩:=hold b q;obtain⟨bb,bo,bs⟩:=b;simp only at h1 h2 h3;subst h2;refine⟨G2.bA.more _ h1,rfl,λj u hj=>?_⟩;have:=h3 j u hj;have e:(⟨bb,bo,we⟩:Addr).add j=⟨bb,bo+j,we⟩:=vR bb bo j;rw[e]at this |-;exact(cell_of (G2.bA.same bb (zu.lt h1) id)).trans this
 refine aD ?_;refine eZ (.inl oX) rfl aG rfl (v:=.agg #[.string x,.string ⟨#[]⟩,.bool false]) (λwl bu=>by simp[go_sem,bu.cell.trans x0,bu.cell.trans x1,bu.cell.trans x2]) (λwl bu e he=>?_) ?_
 ·simp[go_sem,bu.cell.trans x0,bu.cell.trans x1,bu.cell.trans x2]at he;rcases he with rfl|rfl|rfl<;>exact⟨_,_,_,rfl,rfl⟩
 refine aD ?_;refine eZ (.inl oX) rfl aG rfl (v:=.agg #[.string x,.string ⟨#[]⟩,.bool false]) (λwl bu=>by simp[go_sem,bu.cell.trans x0,bu.cell.trans x1,bu.cell.trans x2]) (λwl bu e he=>?_) ?_
 ·simp[go_sem,bu.cell.trans x0,bu.cell.trans x1,bu.cell.trans x2]at he;rcases he with rfl|rfl|rfl<;>exact⟨_,_,_,rfl,rfl⟩
 refine aD ?_;refine eZ (.inl oX) rfl aG rfl (v:=.agg #[.string x,.string ⟨#[]⟩,.bool false]) (λwl bu=>by simp[go_sem,bu.cell.trans x0,bu.cell.trans x1,bu.cell.trans x2]) (λwl bu e he=>?_) ?_
 ·simp[go_sem,bu.cell.trans x0,bu.cell.trans x1,bu.cell.trans x2]at he;rcases he with rfl|rfl|rfl<;>exact⟨_,_,_,rfl,rfl⟩
 refine aD ?_;refine UC (e:=65) (sz:=3) (m:=3) (us:=marks x 3) (olds:=marks x n) (ao:=p) (n:=n) (cap:=n) BG xe (lD x n) hold DW aa aa aa (lD x 3) (Ak x 3) zo rfl aa underlying46 (xvs:=[.agg #[.string x,.string ⟨#[]⟩,.bool false]]) (λu hu=>by simp at hu;subst hu;exact HJ x) (λy3 o6 w6 G3 hy3=>?_) (h5:=by intro wl;simp[go_sem,Act.eval];rfl);rw[Aj]at hy3;have Tx:=G3.bA.bS;have ex3:=G3.bA.same X lX id;have x0:=(cell_of ex3).trans x0;have x1:=(cell_of ex3).trans x1;have x2:=(cell_of ex3).trans x2;have oX:=G3.bA.more _ oX;have lX:=bf lX G3.bA.size;have DW:=DW.up G3.bA.more;have hold:∀b,p=so b->o6 b.block/\b.spot=we/\∀j u,(marks x n)[j]?=so u->w6.cell? (b.add j)=so u:=λb q=>by
  obtain⟨h1,h2,h3⟩:=hold b q;obtain⟨bb,bo,bs⟩:=b;simp only at h1 h2 h3;subst h2;refine⟨G3.bA.more _ h1,rfl,λj u hj=>?_⟩;have:=h3 j u hj;have e:(⟨bb,bo,we⟩:Addr).add j=⟨bb,bo+j,we⟩:=vR bb bo j;rw[e]at this |-;exact(cell_of (G3.bA.same bb (BG.lt h1) id)).trans this
 walk_nrm;have GA:=(G1.trans G2).trans G3;obtain⟨lo1,aoa,HA⟩:=hy1;obtain⟨lo2,aht,Ko⟩:=UQ;obtain⟨lo3,aob,vm⟩:=hy3;obtain⟨p1,l1,cc1,rfl⟩:=nB HA.row;obtain rfl:=vP HA.row rfl;obtain⟨p2,l2,Yj,rfl⟩:=nB Ko.row;obtain rfl:=vP Ko.row rfl;obtain⟨p3,l3,cc3,rfl⟩:=nB vm.row;obtain rfl:=vP vm.row rfl;have zA:=GA.bA.size;have z1:=G1.bA.size;have z2:=G2.bA.size;have z3:=G3.bA.size;have s06:∀b,o0 b->w6.heap[b]?=w0.heap[b]?:=λb hb=>(GA.bA.same b (BF.lt (Yu b hb)) id).trans (sK b hb);have up6:∀b,o0 b->o6 b:=λb hb=>GA.bA.more b (Yu b hb);have aaT:=(s06 wb hW.own).trans hW.blk;have ug:=hW.row.keep up6 aa λg hg=>s06 g (se SC hW.row.cl g hg);have ow6:=up6 _ hW.own;have m1:zp o4 w4 (λb=>b<w0.heap.size) (vs.length+1) (.slice p1 (n+1) cc1):=by
  rw[<- em 1 aa]at HA;exact HA.marked zu aa λb hb=>aa
 have m2:zp o5 w5 (λb=>b<w0.heap.size) (vs.length+2) (.slice p2 (n+2) Yj):=by
  rw[<- em 2 aa]at Ko;exact Ko.marked BG aa λb hb=>aa
 have m3:zp o6 w6 (λb=>b<w0.heap.size) (vs.length+3) (.slice p3 (n+3) cc3):=by
  rw[<- em 3 aa]at vm;exact vm.marked Tx aa λb hb=>aa
 have hc0:=DW;have Of:=(HA.cl.up G2.bA.more).up G3.bA.more;have Rv:=Ko.cl.up G3.bA.more;have hc3:=vm.cl;have c6:=(ki aaT).2.1;have k0:zp o6 w6 (λb=>b<w0.heap.size) vs.length (.slice p n n):=hml.keep GA.bA.more (λb hb _=>GA.bA.same b (BF.lt hb) id) λ_ _ q=>q;have k1:zp o6 w6 (λb=>b<w0.heap.size) (vs.length+1) (.slice p1 (n+1) cc1):=m1.keep (λb h=>G3.bA.more b (G2.bA.more b h)) (λb hb _=>(G3.bA.same b (by have:=zu.lt hb;omega) id).trans (G2.bA.same b (zu.lt hb) id)) λ_ _ q=>q;have k2:zp o6 w6 (λb=>b<w0.heap.size) (vs.length+2) (.slice p2 (n+2) Yj):=m2.keep G3.bA.more (λb hb _=>G3.bA.same b (BG.lt hb) id) λ_ _ q=>q;have Lv:=GW.trans (GA.bA.mono λb hb=>hb.elim);clear HA Ko vm m1 m2 hml hold DW x0 x1 x2 ex1 ex2 ex3 G1 G2 G3 em hx GX GW;refine aD ?_;refine kn (.inl ow6) c6 ?_;refine aD ?_;refine aeC (e:=46) (sz:=1) (m:=4) (us:=[.slice p n n,.slice p1 (n+1) cc1,.slice p2 (n+2) Yj,.slice p3 (n+3) cc3]) Tx ug AV aa rfl (by
  intro u hu;simp at hu;rcases hu with rfl|rfl|rfl|rfl<;>rfl) aaQ rfl aa underlying75 (xvs:=[.slice p n n,.slice p1 (n+1) cc1,.slice p2 (n+2) Yj,.slice p3 (n+3) cc3]) (by
  intro u hu;simp at hu;rcases hu with rfl|rfl|rfl|rfl
  ·exact hc0
  ·exact Of
  ·exact Rv
  ·exact hc3) λy8 o8 w8 hA hwh=>?_
 obtain⟨py,ly,cy,rfl⟩:=nB hA.row.row;have aiI:¬(Value.slice pv vs.length cv).ownBlock=so wb:=λq=>by have:=(Wf _ q).1;omega
 have aaU:=(hA.bA.same wb aa aiI).trans aaT;have ow8:=hA.bA.more _ ow6;have z8:=hA.bA.size;have aeF:=Xl aaU;refine aD ?_;refine Rj (x:=.slice py ly cy) ow8 aeF (show 1<3 by omega) ?_;have hz9:(w8.setCell ⟨wb,1,we⟩ (.slice py ly cy)).heap.size=w8.heap.size:=by simp[World.setCell]
 have H4:=λb (hb:b≠wb)=>ml w8 1 (.slice py ly cy) hb;have FJ:bJ ak L0 o8 (w8.setCell ⟨wb,1,we⟩ (.slice py ly cy)):=bJ.setCell hA.bA.bS hA.row.cl;have aeG:(w8.setCell ⟨wb,1,we⟩ (.slice py ly cy)).heap[wb]?=so (.cells #[.slice we 0 0,.slice py ly cy,.slice we 0 0] 78):=by
  simp[World.setCell,aR,aaU]
 generalize w8.setCell ⟨wb,1,we⟩ (.slice py ly cy)=w9 at *;have Cz:∀{k:Nat} {y:Value},zp o6 w6 (λb=>b<w0.heap.size) k y->zp o8 w9 (λb=>b=wb\/(Value.slice py ly cy).ownBlock=so b) k y:=λh=>h.keep hA.bA.more (λb hb hn=>(H4 b (λe=>hn aa)).trans (hA.bA.same b (Tx.lt hb) λq=>hn (Wf b q).2)) λb hb hn q=>by
  rcases q with q|q
  ·exact hn aa
  ·rcases hwh b q with q|q
   ·exact hn (Wf b q).2
   ·have:=Tx.lt hb;omega
 have dO:WC o8 w9 wb lo (.slice py ly cy) (vs++[.slice p n n,.slice p1 (n+1) cc1,.slice p2 (n+2) Yj,.slice p3 (n+3) cc3]):=by
  refine⟨ow8,vY,aeG,?_,λk hk=>?_,by have:=hW.four;simp;omega⟩
  ·have:=hA.row.keep (o':=o8) (w':=w9) (λ_ h=>h) aa λg hg=>H4 g λe=>by have:=(hA.row.lt g hg).1;omega
   simpa using this
  ·by_cases h:k<vs.length
   ·rw[cT h];exact(hW.at_ k h).keep (λb hb=>hA.bA.more b (up6 b hb)) (λb hb hn=>(H4 b λe=>hn (.inl e)).trans ((hA.bA.same b (Tx.lt (up6 b hb)) λq=>hn (.inr q)).trans (s06 b hb))) λb hb hn q=>by
     rcases q with q|q
     ·exact hn (.inl q)
     ·rcases hwh b q with q|q
      ·exact hn (.inr q)
      ·have:=SC.lt hb;omega
   ·rw[ky aa];simp only[List.length_append,List.length_cons,List.length_nil]at hk;have hk4:k=vs.length\/k=vs.length+1\/k=vs.length+2\/k=vs.length+3:=aa;rcases hk4 with rfl|rfl|rfl|rfl
    ·simpa using Cz k0
    ·simpa using Cz k1
    ·simpa using Cz k2
    ·simpa using Cz m3
 have hgo:fW (λb=>b=wb\/(Value.slice pv vs.length cv).ownBlock=so b\/w0.heap.size<=b/\o b) o w o8 w9:=⟨FJ,λb hb=>hA.bA.more b (Lv.more b hb),λb hb=>(hA.bA.new b hb).elim (λq=>Lv.new b q) λq=>.inr (by have:=Lv.size;omega),by have:=Lv.size;omega,λb hb hn=>(H4 b λe=>hn (.inl e)).trans ((hA.bA.same b (by have:=Lv.size;omega) λq=>hn (.inr (.inl q))).trans (Lv.same b hb hn))⟩;clear Cz hA hwh aaU aeG aeF H4 FJ k0 k1 k2 m3 hc0 Of Rv hc3 ug aaT;refine aD ?_;exact⟨.inl trivial,trivial,_,resultsC_none aG _,_,_,dO,aj,hgo⟩
end
end
open Go.ConcR (Payload)
section
open Go.RowKit (Hid)
structure RC(o:aL)(w:ae)(v:Value)(us:List Ru)(q:Option Addr)(A c:Nat)(rs:List aN)(NM:aN->List ag)(NB:aN->Nat):Prop where
 val:v=.slice q us.length c
 cap:us.length<=c
 mem:tI w q A rs NM NB
 is:rs.map (gS NM)=us
 cl:Cl ak L0 o v
 own:rs≠[]->o A
 ins:∀r∈rs,NM r≠[]->o (NB r)
 nil:q=we->rs=[]
 nmn:∀r∈rs,r.sa=we->NM r=[]
def RC.len{o:aL}{w:ae}{v:Value}{us:List Ru}{q:Option Addr}{A c:Nat}{rs:List aN}{NM:aN->List ag}{NB:aN->Nat}(h:RC o w v us q A c rs NM NB):us.length=rs.length:=by rw[<- h.is];simp
def Yv(w:ae)(r:aN):List ag:=match r.sa with
 |none=>[]
 |some a=>(List.range r.sl).map λj=>match w.cell? ⟨a.block,j,we⟩ with
  |some (.string x)=>x
  |_=>⟨#[]⟩
def NBw(r:aN):Nat:=match r.sa with
 |some a=>a.block
 |none=>0
def si.nm{w:ae}{A:Nat}{l:iF}{r:aN}(h:si w A l r):Yv w r=l.ins:=by
 rcases h.ex with⟨-,h1,h2⟩|⟨-,N,h1,-,-,-,h2⟩
 ·simp[Yv,h2,h1]
 ·simp only[Yv,h1,h.sl];apply dA;intro j;rw[bM];by_cases hj:j<l.ins.length
  ·rw[List.getElem?_range hj,aK,h2.cell (show j<l.ins.length+1 by omega),sg _ _ eW,cT hj,au hj]
  ·rw[cV eW,cV aa];rfl
def aeH{lo A:Nat}{ls:List iF}{cs:List aN}{o:aL}{w:ae}(h:Xg lo A ls cs w)(fo:∀b,lo<=b->b<w.heap.size->o b)(jE:ls.length<=2932031007317/\∀l∈ls,l.out.size<=9223372036854775807/\l.ins.length<=8796093021952/\∀x∈l.ins,x.size<=9223372036854775807):
  RC o w (.slice (so ⟨A,0,we⟩) ls.length (ls.length+1)) (ls.map iF.ru) (so ⟨A,0,we⟩) A (ls.length+1) (cs.take ls.length) (Yv w) NBw:=by
 have hlen:=h.len;have hl:(cs.take ls.length).length=ls.length:=eW;have rH:∀r∈cs.take ls.length,∃l∈ls,si w A l r:=λr hr=>by
  obtain⟨i,hi,rfl⟩:=bB hr;rw[hl]at hi;rw[eN];exact⟨ls[i],aA hi,h.at_ i hi aa⟩
 have oA:=fo A h.al.1 h.al.2;have hN:∀r l,si w A l r->Yv w r≠[]->r.sa=so ⟨NBw r,0,we⟩/\NBw r<w.heap.size/\lo<=NBw r/\gf w (NBw r) 0 (Yv w r):=λr l hc fu=>by
  have qW:=hc.nm;rcases hc.ex with⟨-,h1,-⟩|⟨-,N,h1,-,h3,h4,h2⟩
  ·exact absurd (qW.trans h1) fu
  ·have e:NBw r=N:=by simp[NBw,h1]
   rw[e,qW];refine⟨h1,h4,by have:=h.al.1;omega,λk hk=>?_⟩;rw[bD,h2.cell (show k<l.ins.length+1 by omega),sg _ _ eW,cT hk]
 refine⟨aj,aj,⟨aa,λq=>⟨rfl,h.al.2⟩,λi hi=>?_,λr hr=>?_,λr hr=>?_⟩,?_,eK oA,λ_=>oA,λr hr q=>?_,(λq=>by cases q),λr hr q=>?_⟩
 ·rw[hl]at hi;rw[eN];obtain⟨c0,c1,c2⟩:=jR cs i aa;refine⟨?_,?_,?_⟩
  ·rw[h.row.cell aa,c0]
  ·rw[h.row.cell aa,c1]
  ·rw[h.row.cell aa,c2]
 ·obtain⟨l,GY,hc⟩:=rH r hr;have qW:=hc.nm;obtain⟨b1,b2,b3⟩:=jE.2 l GY;refine⟨by rw[qW,hc.sl],λq=>⟨(hN r l hc q).1,(hN r l hc q).2.1⟩,?_,by rw[qW];omega,by rw[qW];exact b3⟩;by_cases q:Yv w r=[]
  ·rw[q];exact λk hk=>by simp at hk
  ·exact(hN r l hc q).2.2.2
 ·obtain⟨l,GY,hc⟩:=rH r hr;rw[hc.out];exact(jE.2 l GY).1
 ·apply dA;intro i;rw[bM,bM];by_cases hi:i<ls.length
  ·have hc:=h.at_ i hi aa;rw[cE hi,au aa,au hi,aK,aK];simp[gS,iF.ru,hc.out,hc.eT,hc.nm]
  ·rw[cV aa,cV aa];rfl
 ·obtain⟨l,-,hc⟩:=rH r hr;obtain⟨-,q2,q3,-⟩:=hN r l hc q;exact fo _ q3 q2
 ·simp[Yv,q]
def aaW{o:aL}{w:ae}:RC o w (.slice we 0 0) [] we 0 0 [] (λ_=>[]) (λ_=>0) :=
 ⟨rfl,af _,⟨aj,λq=>absurd rfl q,λi hi=>by simp at hi,λr hr=>by simp at hr,λr hr=>by simp at hr⟩,rfl,nR,λq=>absurd rfl q,λr hr=>by simp at hr,λ_=>rfl,λr hr=>by simp at hr⟩
section
variable {Fin:br}{o:aL}{w:ae}{v:Value}{us:List Ru}{q:Option Addr}{A c:Nat}{rs:List aN}{NM:aN->List ag}{NB:aN->Nat}{fs:List (ag×ag)}
def RC.hand(h:RC o w v us q A c rs NM NB)(hY:vl us):∃RK,Hand o w q A c rs NM NB RK/\lJ rs NM RK:=by
 obtain⟨RK,RH,vY⟩:=hY.Dk;have hlen:=h.len;have hu:∀r∈rs,gS NM r∈us:=λr hr=>by rw[<- h.is];exact aV.2 ⟨r,hr,rfl⟩
 have ho:rs.map (·.out)=us.map (·.out):=by rw[<- h.is];simp[gS,List.map_map,Function.comp_def]
 have sD:=hY.ui;have Er:=h.cap;have e4:∀r∈rs,(NM r).length<=4:=λr hr=>(hY.each _ (hu r hr)).2.1;have aeI:∀r∈rs,1<=r.eT/\r.eT<=5:=λr hr=>(hY.each _ (hu r hr)).2.2;have Yw:∀r∈rs,∀x∈NM r,x∈rs.map (·.out)->RK x<RK r.out:=λr hr x hx hm=>RH _ (hu r hr) x hx (by rw[<- ho];exact hm);have aeJ:∀r∈rs,RK r.out<rs.length:=λr hr=>by rw[<- hlen];exact vY _ (hu r hr)
 have end_:(rs.map (·.out)).Nodup:=by rw[ho];exact hY.nodup
 refine⟨RK,⟨aa,λq'=>⟨(h.mem.ptr q').1,h.own q'⟩,h.nil,h.mem.at_,by have:=h.cl;rw[h.val,hlen]at this;exact this,aa,λr hr=>?_,h.nmn,⟨λr hr=>(hY.each _ (hu r hr)).1.1,λr hr=>(hY.each _ (hu r hr)).1.2,aeI,end_,Yw⟩,aeJ⟩,⟨end_,aeJ,Yw,aeI,e4⟩⟩;obtain⟨a1,a2,a3,-,-⟩:=h.mem.nm r hr;exact⟨a1,λq'=>⟨(a2 q').1,h.ins r hr q'⟩,a3,e4 r hr⟩
def K1(hF:bJ ak L0 o w)(h:RC o w v us q A c rs NM NB):
  bC ak (XB ak Fin 0) 39 #[v] o w λr o' w'=>∃e a,r=.tuple #[.int .i64 e,.int .i64 a]/\jG us e a/\iz o w r o' w':=by
 have hlen:=h.len;have Er:=h.cap;refine bC.mono (fQ ah hF (λy hy=>by simp at hy;subst hy;exact h.cl) (Q:=λwl r w'=>∃e a,r=.tuple #[.int .i64 e,.int .i64 a]/\jG us e a) (λwl D8 v w1 w2 e1 e2 h=>h) (λwl hz bu=>?_)) (λr o' w' hq=>?_)
 ·have hM:tI wl q A rs NM NB:=by
   refine⟨h.mem.qt,λk=>⟨(h.mem.ptr k).1,by rw[hz];exact(h.mem.ptr k).2⟩,λi hi=>?_,λr hr=>?_,h.mem.outs⟩
   ·exact gG h.mem.at_ (bu A (h.own λk=>by rw[k]at hi;simp at hi)) i hi
   ·obtain⟨a1,a2,a3,a4,a5⟩:=h.mem.nm r hr;exact⟨a1,λk=>⟨(a2 k).1,by rw[hz];exact(a2 k).2⟩,λk hk=>dS a3 (bu _ (h.ins r hr λe=>by rw[e]at hk;simp at hk)) k hk,a4,a5⟩
  have:=F7 q A c rs NM NB wl hM aa;rw[h.val,hlen];refine this.mono λe w' hq=>?_;obtain⟨⟨n,a,rfl,h1⟩,h2,h3⟩:=hq;exact⟨_,rfl,h3,λb hb=>h2.block b hb,n,a,rfl,by rw[<- h.is];exact h1⟩
 ·obtain⟨hN,wl,bN,-,-,-,e,a,h1,h2⟩:=hq;exact⟨e,a,h1,h2,hN⟩
def K2(hF:bJ ak L0 o w)(h:RC o w v us q A c rs NM NB):
  bC ak (XB ak Fin 0) 83 #[v] o w λr o' w'=>∃e a,r=.tuple #[.int .i64 e,.int .i64 a]/\jG us e a/\gZ o w o' w':=by
 have W:=bZ (P:=ak) (Fin:=Fin) (d:=0);refine bt W func83 aG ?_;walk_nrmf Tryz.f83;refine aD ?_;refine dq func39 (K1 hF h) ?_;rintro v1 o1 w1 ⟨e,a,rfl,hR,N1⟩;have G1:=gZ.kJ N1;clear N1;refine aD ?_;exact⟨.inr trivial,trivial,_,resultsC_tmp2 (t:=2) (u:=3) aG _,e,a,ax,hR,G1⟩
structure FC(o:aL)(w:ae)(v:Value)(fs:List (ag×ag))(p:Option Addr)(b c:Nat):Prop where
 val:v=.slice p fs.length c
 cap:fs.length<=c
 ptr:fs≠[]->p=so ⟨b,0,we⟩/\o b
 at_:na w b fs
 cl:Cl ak L0 o v
 qt:∀f∈fs,f.1.size<=9223372036854775807/\f.2.size<=9223372036854775807
def aaX:FC o w (.slice we 0 0) [] we 0 0:=⟨rfl,af _,λq=>absurd rfl q,λi hi=>by simp at hi,nR,λf hf=>by simp at hf⟩
def aeK{lo B:Nat}(h:Uy lo B fs w)(oB:o B)(jE:∀f∈fs,f.1.size<=9223372036854775807/\f.2.size<=9223372036854775807):FC o w (.slice (so ⟨B,0,we⟩) fs.length (fs.length+1)) fs (so ⟨B,0,we⟩) B (fs.length+1) :=
 ⟨rfl,aa,λ_=>⟨rfl,oB⟩,λi hi=>by
  obtain⟨c0,c1⟩:=pJ (fs++[(xf,⟨#[]⟩)]) i eW;rw[cT hi]at c0 c1;exact⟨by rw[h.row.cell aa,c0],by rw[h.row.cell aa,c1]⟩,eK oB,jE⟩
structure DX(us:List Ru)(fs:List (ag×ag))(o:aL)(w:ae)(r:Value)(o':aL)(w':ae):Prop where
 bA:fW (λ_=>False) o w o' w'
 ex:∃e l n,r=.tuple #[l,.int .i64 e]/\DO us fs e/\UD o' w' w.heap.size l n/\(e≠0/\l=.slice we 0 0\/e=0/\n=us.length/\∃R,l=.slice (so ⟨R,0,we⟩) n n/\o' R/\tW w' R (rC (us.map (·.out)) (gF us fs us.length)))
def K3[Payload]{g:Value}{p:Option Addr}{b fc:Nat}(hF:bJ ak L0 o w)(pow:jM w)(h:RC o w v us q A c rs NM NB)(hG:FC o w g fs p b fc):
  bC ak (XB ak Fin 0) 16 #[v,g] o w λr o' w'=>DX us fs o w r o' w':=by
 have hlen:=h.len;by_cases iS:vl us/\zn fs
 ·obtain⟨hY,hfo⟩:=iS;obtain⟨RK,hH,HD⟩:=h.hand hY;have:=WZ (Fin:=Fin) hF pow hH b fc p fs hG.ptr hG.at_ (by have:=hG.cl;rw[hG.val]at this;exact this) hG.cap hfo;rw[h.val,hG.val,hlen];refine this.mono λr o' w' hq=>?_;obtain⟨⟨W1,R,B,F,rfl,hSR,hBR,Jh,aeL,hR,oR,qK⟩,R',f,e,cd⟩:=hq;simp only[Value.tuple.injEq,Array.mk.injEq,bT,Value.slice.injEq,ay,Addr.mk.injEq,and_true,true_and]at e;subst e;have aeM:Dr B F (oq fs)=rC (us.map (·.out)) (gF us fs us.length):=by
   have:=Xd HD ⟨hBR,Jh,aeL⟩ hSR fs;have ho:rs.map (·.out)=us.map (·.out):=by rw[<- h.is];simp[gS,List.map_map,Function.comp_def]
   rw[ho,h.is,<- hlen]at this;exact this.symm
  rw[aeM]at qK;have sD:=hY.ui;exact⟨W1,0,.slice (so ⟨R,0,we⟩) us.length us.length,us.length,by rw[hlen],⟨.inr ⟨⟨0,hY.right⟩,hfo.right⟩⟩,⟨sD,.inr ⟨R,f,rfl,oR,hR,by rw[hlen];exact cd⟩⟩,.inr ⟨rfl,rfl,R,rfl,oR,qK⟩⟩
 ·have W:=bZ (P:=ak) (Fin:=Fin) (d:=0);refine bt W func16 aG ?_;walk_nrmf Tryz.f16;refine aD ?_;refine dq func39 (K1 hF h) ?_;rintro v1 o1 w1 ⟨e,a,rfl,hR,N1⟩;have G1:=gZ.kJ N1;clear N1;have Bl:∀o2 w2,UD o2 w2 w.heap.size (.slice we 0 0) 0:=λo2 w2=>⟨aa,.inl ⟨rfl,rfl⟩⟩;walk_nrm;by_cases he:e=0;rotate_left
  ·have heb:(e != 0)=true:=by rw[mB];exact he
   have dO:DX us fs o w (.tuple #[.slice we 0 0,.int .i64 e]) o1 w1:=⟨G1.bA,e,_,0,rfl,⟨.inl ⟨a,hR,he⟩⟩,Bl _ _,.inl ⟨he,rfl⟩⟩;clear hR G1 iS Bl;refine aD ?_;exact⟨.inr trivial,trivial,_,resultsC_tmp2 (t:=4) (u:=5) aG _,by simpa[Act.eval] using dO⟩
  subst he;have hlb:fs≠[]->b<w.heap.size:=λk=>hF.lt (hG.ptr k).2;have hfb:=OW (Fin:=Fin) G1.bA.bS b fc p fs (λk=>⟨(hG.ptr k).1,G1.bA.more _ (hG.ptr k).2⟩) (λk hk=>n9 hG.at_ (G1.bA.same b (hlb λe=>by rw[e]at hk;simp at hk) id) k hk) (by have:=hG.cl;rw[hG.val]at this;exact this.up G1.bA.more) hG.cap hG.qt;rw[<- hG.val]at hfb;refine aD ?_;refine dq func40 (hfb) ?_;rintro v2 o2 w2 ⟨e,rfl,W8,G2⟩;have he:e≠0:=λe0=>by subst e0;exact iS ⟨hR.yes,W8.yes⟩
  have heb:(e != 0)=true:=by rw[mB];exact he
  have dO:DX us fs o w (.tuple #[.slice we 0 0,.int .i64 e]) o2 w2:=⟨(G1.trans G2).bA,e,_,0,rfl,⟨.inr ⟨⟨a,hR⟩,W8⟩⟩,Bl _ _,.inl ⟨he,rfl⟩⟩;clear hR G1 iS Bl W8 G2 hfb he;refine aD ?_;exact⟨.inr trivial,trivial,_,resultsC_tmp2 (t:=4) (u:=5) aG _,by simpa[Act.eval] using dO⟩
end
end
def Rl(b d:ag):b.toList=d.toList↔b=d:=by
 rw[ByteArray.toList_eq,ByteArray.toList_eq];constructor
 ·intro h;obtain⟨⟨x⟩⟩:=b;obtain⟨⟨y⟩⟩:=d;have h:x=y:=h;rw[h]
 ·rintro rfl;rfl
section
def Xm(e:Nat)(w:ae)(es:Array Event)(a b d f:ag)(c g:Bool):(Op.equalIn (e+2) 65 (.agg #[.string a,.string b,.bool c]) (.agg #[.string d,.string f,.bool g])).events ak w es=es:=by
 rw[Op.equalIn];simp[go_sem,Sem.events_bind,CW,xJ]
def AW(w:ae)(a b d f:ag)(c g:Bool):(binOp .neq 65 (.agg #[.string a,.string b,.bool c]) (.agg #[.string d,.string f,.bool g])).run ak w=.ok (.bool (!decide ((a,b,c)=(d,f,g)))) w:=by
 simp[go_sem,Rl];by_cases h1:a=d<;>by_cases h2:b=f<;>by_cases h3:c=g<;>simp[h1,h2,h3]
def K4(w:ae)(es:Array Event)(a b d f:ag)(c g:Bool):(binOp .neq 65 (.agg #[.string a,.string b,.bool c]) (.agg #[.string d,.string f,.bool g])).events ak w es=es:=by
 simp only[binOp];simp[Op.equal,Op.maxDepth,Sem.events_bind,Xm 9998]
def EV(op:BinOp)(x y:Operand)(xs ys:Array Value)(w:ae)(es:Array Event):(eqGuard op 65 x y (.agg xs) (.agg ys)).events ak w es=es:=by
 cases op<;>simp[eqGuard,run_program,Sem.events_bind,show ak.eqGuardType ak.depth 65=false by kernel_rfl]
end
section
variable {Fin:br}{o o':aL}{w w':ae}
end
section
open Go.RowKit (Hid)
section
variable {Fin:br}{d:Nat}{fn:FuncId}{Q:Exit->Act->aL->ae->Prop}{a:Act}{ops:Array Oper}{S:(Nat->Option Value)->aL->ae->Prop}{kds:List Kd}{v:Nat->Value}{K:Act->Prop}{j:Nat}{l:List Nat}{xs:List Kd}{op:Oper}{dd:Option Tmp}
def UF{B i:Nat}{x y z:Value}(hS:∀σ o w,S σ o w->wx Fin o B/\w.cell? ⟨B,i,we⟩=so x/\w.cell? ⟨B,i+1,we⟩=so y/\w.cell? ⟨B,i+2,we⟩=so z)(h:cS ak (vG ak (XB ak Fin d) fn ops Q S kds v) ops K v l xs (a.put dd (.agg #[x,y,z])))(ho:ops[j]?=so op:=by rfl)(hd:op.dst=dd:=by rfl)(hn:sS op.op=true:=by rfl)(hw:Region.wanted op (yielded ops a.tmps)=true:=by rfl)(f2:∀wl:ae,wl.cell? ⟨B,i,we⟩=so x->wl.cell? ⟨B,i+1,we⟩=so y->wl.cell? ⟨B,i+2,we⟩=so z->(execOp a.eval op).run ak wl=.ok (.value (.agg #[x,y,z])) wl:=by
   intro wl h7 h8 h9;simp[go_sem,Act.eval,h7,h8,h9])(f3:∀wl:ae,wl.cell? ⟨B,i,we⟩=so x->wl.cell? ⟨B,i+1,we⟩=so y->wl.cell? ⟨B,i+2,we⟩=so z->∀e∈(execOp a.eval op).events ak wl #[],∃ad wt sy,e=⟨.cell ad,wt,sy⟩/\ad.block=B:=by
   intro wl h7 h8 h9 e he;simp[go_sem,Act.eval,h7,h8,h9]at he;rcases he with rfl|rfl|rfl<;>exact⟨_,_,_,rfl,rfl⟩):cS ak (vG ak (XB ak Fin d) fn ops Q S kds v) ops K v (j::l) (so (so (.agg #[x,y,z]))::xs) a:=by
 refine fE ho hd (λA rest σ o w h1 h2 h3 h4 hq hc=>?_) rfl h;obtain⟨hB,c,c',c2⟩:=hS σ o w hq;have hex:=execOp_congr op (nS hn) h1;exact eZ hB ho (h2.trans hw) rfl (λwl bu=>by rw[hex];exact f2 wl (bu.cell.trans c) (bu.cell.trans c') (bu.cell.trans c2)) (λwl bu x hx=>by rw[hex]at hx;exact f3 wl (bu.cell.trans c) (bu.cell.trans c') (bu.cell.trans c2) x hx) (hc _ o w ⟨rfl,hq⟩)
end
section
variable {Fin:br}{o:aL}{w:ae}{wb lo:Nat}{v:Value}{vs:List Value}
def Xn(hF:bJ ak L0 o w)(hW:WC o w wb lo v vs)(AV:vs.length*24<=140737488355328):
  bC ak (XB ak Fin 0) 31 #[.pointer (so ⟨wb,0,we⟩)] o w λr o' w'=>r=.bool true/\gZ o w o' w':=by
 have W:=bZ (P:=ak) (Fin:=Fin) (d:=0);have ow:=hW.own;have lwb:=hF.lt ow;obtain⟨-,g1,g2,-⟩:=ki hW.blk;obtain⟨pv,bv,cv,rfl,hvc,hvp,-,hvr⟩:=hW.row.at_ hF;have mW:=hW.at_;refine bt W func31 aG ?_;walk_nrmf Tryz.f31;refine aD ?_;refine dQ W (λm a o' w'=>∃k,m+k=vs.length/\a.tmps.size=82/\a.defers=[]/\a.eval (.tmp 0)=.pointer (so ⟨wb,0,we⟩)/\a.eval (.tmp 3)=.int .i64 (k:Nat)/\gZ o w o' w') (N:=vs.length) ⟨0,aj,rfl,rfl,ax,ax,gZ.refl hF⟩ ?_;rintro m a o1 w1 ⟨k,lP,ew,iu,i0,i3,G⟩;obtain⟨gs,rfl⟩:=eQ ew iu;clear ew iu;simp only[List.range,List.range.loop,aB,aJ]at i0 i3 |-;simp[Act.eval]at i0 i3;simp only[i0,i3];clear i0 i3;have ow1:=G.bA.more _ ow;have c1:=(cell_of (G.bA.same wb lwb id)).trans g1;have c2:=(cell_of (G.bA.same wb lwb id)).trans g2;by_cases hk:k<vs.length;rotate_left
 ·have rq:¬(k:Int)<(vs.length:Int):=aa;clear mW hvr hvp;refine aD ?_;refine kn (.inl ow1) c1 ?_;refine aD ?_;refine dQ W (λm a o' w'=>a.tmps.size=82/\a.defers=[]/\a.eval (.tmp 0)=.pointer (so ⟨wb,0,we⟩)/\a.eval (.tmp 6)=.int .i64 0/\o'=o1/\w'=w1) (N:=0) ⟨rfl,rfl,ax,ax,rfl,rfl⟩ ?_;rintro m2 a o2 w2 ⟨ew,iu,i0,i6,e1,e2⟩;subst e1 e2;obtain⟨gs,rfl⟩:=eQ ew iu;clear ew iu;simp only[List.range,List.range.loop,aB,aJ]at i0 i6 |-;simp[Act.eval]at i0 i6;simp only[i0,i6];clear i0 i6;refine aD ?_;refine kn (.inl ow1) c2 ?_;refine aD ?_;exact⟨.inr trivial,trivial,_,resultsC_tmp (t:=2) aG _,ax,G⟩
 have rq:(k:Int)<(vs.length:Int):=aa;have om:IntKind.i64.wrap ((k:Int)+1)=((k+1:Nat):Int):=by rw[IntKind.wrap_i64]<;>omega
 have rG:(k:Int).tdiv 4=((k/4:Nat):Int):=by rw[gU aa];omega
 have hkw:IntKind.i64.wrap ((k:Int)/4)=(k:Int)/4:=by rw[IntKind.wrap_i64]<;>omega
 obtain⟨epv,obv,-⟩:=hvp aa;have RH:=hvr k vs[k] (au hk);obtain⟨p,n,c,R,ev,hn,hp,hc⟩:=(mW k hk).ex;have hmb:uh 5 (k/4) ⟨#[]⟩=DV k:=rfl;rw[ev]at RH;clear mW hvr hvp ev;subst epv;have lS:=G.bA.bS;refine aD ?_;refine kn (.inl ow1) c1 ?_;refine aD ?_;refine dq func59 (Ga lS (k/4) aa) ?_;rintro v2 o2 w2 ⟨rfl,N2⟩;have G2:=G.trans (gZ.kJ N2);rw[hmb];have rK:=G2.bA.bS;clear N2 hmb;generalize DV k=x at *;refine aD ?_;refine eu rfl aG rfl (.cells #[.string ⟨#[]⟩,.string ⟨#[]⟩,.bool false] 65) (λn=>.pointer (so ⟨n,0,we⟩)) (λw1=>by first|(simp[go_sem];done)|(simp[go_sem];rfl)) (λw1=>by first|(simp[go_sem];done)|(simp[go_sem];rfl)) ?_;walk_nrm;refine OY (x:=x) (y:=⟨#[]⟩) (q:=false) rfl ?_;have G3:=K0 rK x ⟨#[]⟩ false;have Lt:(w2.alloc (.cells #[.string x,.string ⟨#[]⟩,.bool false] 65)).heap.size=w2.heap.size+1:=aj;obtain⟨x0,x1,x2,-⟩:=ki (w:=w2.alloc (.cells #[.string x,.string ⟨#[]⟩,.bool false] 65)) (b:=w2.heap.size) (dz _ _);generalize (λb=>o2 b\/b=w2.heap.size)=o3 at *;generalize w2.alloc (.cells #[.string x,.string ⟨#[]⟩,.bool false] 65)=w3 at *;have oX:=G3.all w2.heap.size (af _) aa;have G4:=G2.trans G3;clear G3 G2 G Lt rK c1 c2;generalize w2.heap.size=X at *;have ow3:=G4.bA.more _ ow;have aaY:=G4.bA.more _ obv;have c1:=(cell_of (G4.bA.same wb lwb id)).trans g1;have crk:=(cell_of (G4.bA.same bv (hF.lt obv) id)).trans RH;refine aD ?_;refine dQ W (λm2 a o' w'=>∃i,m2+i=n/\a.tmps.size=82/\a.defers=[]/\a.eval (.tmp 0)=.pointer (so ⟨wb,0,we⟩)/\a.eval (.tmp 3)=.int .i64 (k:Nat)/\a.eval (.tmp 4)=.pointer (so ⟨X,0,we⟩)/\a.eval (.tmp 5)=.int .i64 (i:Nat)/\o'=o3/\w'=w3) (N:=n) ⟨0,aj,rfl,rfl,ax,ax,ax,ax,rfl,rfl⟩ ?_;rintro m2 a o5 w5 ⟨i,Ln,ew,iu,i0,i3,i4,i5,e1,e2⟩;subst e1 e2;obtain⟨gs,rfl⟩:=eQ ew iu;clear ew iu;simp only[List.range,List.range.loop,aB,aJ]at i0 i3 i4 i5 |-;simp[Act.eval]at i0 i3 i4 i5;simp only[i0,i3,i4,i5];clear i0 i3 i4 i5;by_cases hi:i<n;rotate_left
 ·have Yk:¬(i:Int)<(n:Int):=aa;clear hc hp;refine aD ?_;refine kn (.inl ow3) c1 ?_;refine aD ?_;refine kn (.inl aaY) crk ?_;refine aD ?_;exact⟨m-1,aa,k+1,aa,bQ,bQ,ax,by simp[Act.eval,om],G4⟩
 have Yk:(i:Int)<(n:Int):=aa;have KP:IntKind.i64.wrap ((i:Int)+1)=((i+1:Nat):Int):=by rw[IntKind.wrap_i64]<;>omega
 obtain⟨rfl,oR,-⟩:=hp aa;obtain⟨m0,m1,m2'⟩:=AU x i;have eR:=G4.bA.same R (hF.lt oR) id;have r0:=(cell_of eR).trans (hc (i*3) aa);have r1:=(cell_of eR).trans (hc (i*3+1) aa);have r2:=(cell_of eR).trans (hc (i*3+2) aa);rw[m0]at r0;rw[m1]at r1;rw[m2']at r2;have oR3:=G4.bA.more _ oR;clear hc hp m0 m1 m2' eR;refine aD ?_;refine kn (.inl ow3) c1 ?_;refine aD ?_;refine kn (.inl aaY) crk ?_;refine aD ?_;refine iy mixed ah [so we,so we,so we,so (so (.slice (so ⟨bv,0,we⟩) vs.length cv)),so we,so we,so (so (.slice (so ⟨R,0,we⟩) n c)),so we,so we,so (so (.agg #[.string x,.string ⟨#[]⟩,.bool false])),so (so (.agg #[.string x,.string ⟨#[]⟩,.bool false])),so we]
  (S:=λσ o' w'=>o5=o'/\w5=w') ⟨rfl,rfl⟩ λv9=>?_
 refine fF ?_;refine fU ?_;refine sH (B:=wb) (i:=1) (λσ o' w' hS=>?_) ?_
 ·obtain⟨rfl,rfl⟩:=hS;exact⟨.inl ow3,c1⟩
 refine fU ?_;refine sH (B:=bv) (i:=k) (λσ o' w' hS=>?_) ?_
 ·obtain⟨rfl,rfl⟩:=hS;exact⟨.inl aaY,crk⟩
 refine fU ?_;refine UF (B:=R) (i:=i*3) (λσ o' w' hS=>?_) ?_
 ·obtain⟨rfl,rfl⟩:=hS;exact⟨.inl oR3,r0,r1,r2⟩
 walk_nrm;refine UF (B:=X) (i:=0) (λσ o' w' hS=>?_) ?_
 ·obtain⟨rfl,rfl⟩:=hS;exact⟨.inl oX,x0,x1,x2⟩
 walk_nrm;refine GO (y:=.bool false) rfl rfl rfl aG (λw1=>by simp[go_sem,Act.eval,AW]) (λw1=>by simp[go_sem,Act.eval,K4,EV]) ?_;walk_nrm;refine fj λσ o9 w9 wu hS=>?_;clear wu;obtain⟨rfl,rfl⟩:=hS;simp only[nu,gL,if_true,if_false,reduceIte,Nat.reduceEqDiff];refine aD ?_;exact⟨m2-1,aa,i+1,aa,bQ,bQ,ax,ax,ax,by simp[Act.eval,KP],by trivial,by trivial⟩
end
end
section
open Go.RowKit
def Rm(p1 p2:Option Addr)(b1 b2 c1 c2:Nat)(rs:List (ag×V))(w:ae)(hn:rs.length<=100000)(Lw:rs≠[]->p1=so ⟨b1,0,we⟩)(Lu:rs≠[]->p2=so ⟨b2,0,we⟩)(h1:tW w b1 rs)(h2:tW w b2 rs):
  Calls ak 90 #[.slice p1 rs.length c1,.slice p2 rs.length c2] w λe w'=>e=.returned (.bool true)/\∃n,w'=w.drewN n:=by
 go_enter func90,ntmps90;go_wp2;go_loopw [5] (λi w'=>∃k:Nat,k<=rs.length/\i=.int .i64 k/\∃n,w'=w.drewN n) (λi _=>rs.length-(intOf i).toNat)
 case atStart=>exact⟨0,aW _,rfl,0,rfl⟩
 case round =>
  obtain⟨k,hk,rfl,n,rfl⟩:=hrel;by_cases cR:k<rs.length
  ·have rq:(k:Int)<(rs.length:Int):=aa;have om:IntKind.i64.wrap ((k:Int)+1)=((k+1:Nat):Int):=by rw[IntKind.wrap_i64]<;>omega
   obtain⟨d0,d1,d2⟩:=h1 k cR;obtain⟨g0,g1,g2⟩:=h2 k cR;have e1:=Lw (lU cR);have e2:=Lu (lU cR);subst e1 e2;clear h1 h2 Lw Lu;generalize rs[k].1=x at *;generalize rs[k].2.2=t at *;generalize (!rs[k].2.1)=q at *;have hq:=λw=>AW w x t x t q q;simp only[decide_true,Bool.not_true]at hq;go_wp2
   go_quiet (fail)
   go_wp2;exact⟨⟨k+1,aa,by go_num,⟨_,rfl⟩⟩,by simp[intOf];omega⟩
  ·clear h1 h2 Lw Lu;go_wp2;go_ret;exact⟨rfl,_,rfl⟩
end
section
open Go.RowKit (Hid)
section
variable {Fin gd:br}{o o':aL}{w w':ae}{p fp:Option Addr}{b off c fb rP fc:Nat}{ls:List iF}{fs:List (ag×ag)}
def DY{b:Nat}(h:wx Fin o b)(hl:∀b,nE Fin b->nE gd b):wx gd o b:=h.imp id (hl b)
def kp.zq(h:kp Fin o w p b off ls)(hl:∀b,nE Fin b->nE gd b):kp gd o w p b off ls :=
 ⟨λq=>⟨(h.ptr q).1,DY (h.ptr q).2.1 hl,(h.ptr q).2.2⟩,h.at_,λl GY=>⟨λq=>⟨((h.ins l GY).1 q).1,DY ((h.ins l GY).1 q).2.1 hl,((h.ins l GY).1 q).2.2⟩,(h.ins l GY).2⟩,h.qt⟩
def kB.zq(h:kB Fin o w fp fb rP fs)(hl:∀b,nE Fin b->nE gd b):kB gd o w fp fb rP fs :=
 ⟨λq=>⟨(h.ptr q).1,DY (h.ptr q).2.1 hl,(h.ptr q).2.2⟩,h.at_,h.qt⟩
def Yx(e:Int):bC ak (XB ak Fin 0) 86 #[.int .i64 e] o w λv o' w'=>v=.int .i64 e/\o'=o/\w'=w:=by
 have W:=bZ (P:=ak) (Fin:=Fin) (d:=0);refine bt W func86 aG ?_;walk_nrmf Tryz.f86;refine aD ?_;exact⟨.inr trivial,trivial,_,resultsC_tmp (t:=2) aG _,ax,by trivial,by trivial⟩
def jy.res{lo:Nat}{v:Value}{rs:List (ag×V)}(h:jy o w lo 65 3 v rs.length (ja rs))(hF:bJ ak L0 o w):∃p b c,v=.slice p rs.length c/\(rs≠[]->p=so ⟨b,0,we⟩/\o b)/\tW w b rs:=by
 obtain⟨p,b,c,rfl,h1,h2,-,h3⟩:=h.at_ hF;refine⟨p,b,c,rfl,λq=>⟨(h2 (dF.2 q)).1,(h2 (dF.2 q)).2.1⟩,λi hi=>?_⟩;obtain⟨c0,c1,c2⟩:=zf rs i hi;exact⟨h3 _ _ c0,h3 _ _ c1,h3 _ _ c2⟩
def Xo(hF:bJ ak L0 o w){p1 p2:Option Addr}{b1 b2 c1 c2:Nat}{rs:List (ag×V)}(hn:rs.length<=100000)(Lw:rs≠[]->p1=so ⟨b1,0,we⟩/\o b1)(Lu:rs≠[]->p2=so ⟨b2,0,we⟩/\o b2)(h1:tW w b1 rs)(h2:tW w b2 rs)(Of:Cl ak L0 o (.slice p1 rs.length c1))(Rv:Cl ak L0 o (.slice p2 rs.length c2)):
  bC ak (XB ak Fin 0) 90 #[.slice p1 rs.length c1,.slice p2 rs.length c2] o w λv o' w'=>v=.bool true/\iz o w v o' w':=by
 have hb:∀{b:Nat} {wl:ae} (h:tW w b rs) (e:rs≠[]->wl.heap[b]?=w.heap[b]?),tW wl b rs:=λh e i hi=>by
  have e:=e λq=>by rw[q]at hi;simp at hi
  obtain⟨q0,q1,q2⟩:=h i hi;exact⟨(cell_of e).trans q0,(cell_of e).trans q1,(cell_of e).trans q2⟩
 refine bC.mono (fQ ah hF (λz hz=>by simp at hz;rcases hz with rfl|rfl;exact Of;exact Rv) (Q:=λwl v w'=>v=.bool true) (λwl D8 v w1 w2 e1 e2 h=>h) (λwl hz bu=>?_)) (λv o' w' hq=>?_)
 ·refine(Rm p1 p2 b1 b2 c1 c2 rs wl hn (λq=>(Lw q).1) (λq=>(Lu q).1) (hb h1 λq=>bu _ (Lw q).2) (hb h2 λq=>bu _ (Lu q).2)).mono λe w' hq=>?_;obtain⟨rfl,n,rfl⟩:=hq;exact⟨_,rfl,af _,λ_ _=>rfl,rfl⟩
 ·exact⟨hq.2.choose_spec.choose_spec.2.2.2,hq.1⟩
end
structure vS where
 kind:Int
 on:Int
 n:Int
 name:ag
 text:ag
 p:Option Addr
 b:Nat
 off:Nat
 c:Nat
 ls:List iF
 fp:Option Addr
 fb:Nat
 rP:Nat
 fc:Nat
 fs:List (ag×ag)
def vS.cells(x:vS):Array Value:=#[.int .i64 x.kind,.int .i64 x.on,.int .i64 x.n,.string x.name,.string x.text,.slice x.p x.ls.length x.c,.slice x.fp x.fs.length x.fc]
structure Bm(Fin:br)(o:aL)(w:ae)(x:vS):Prop where
 rules:kp Fin o w x.p x.b x.off x.ls
 files:kB Fin o w x.fp x.fb x.rP x.fs
 nil:x.p=we->x.c=0
 aeN:x.fp=we->x.fc=0
 ins:∀l∈x.ls,l.sa=we->l.sc=0
def UG{w:ae}{B t:Nat}{a0 a1 a2 a3 a4 a5 a6:Value}(h:w.heap[B]?=so (.cells #[a0,a1,a2,a3,a4,a5,a6] t)):w.cell? ⟨B,0,we⟩=so a0/\w.cell? ⟨B,1,we⟩=so a1/\w.cell? ⟨B,2,we⟩=so a2/\w.cell? ⟨B,3,we⟩=so a3/\w.cell? ⟨B,4,we⟩=so a4/\w.cell? ⟨B,5,we⟩=so a5/\w.cell? ⟨B,6,we⟩=so a6:=by
 simp[World.cell?,h]
structure tK(wb lo:Nat)(v:Value)(vs:List Value)(o:aL)(w:ae)(o':aL)(w':ae):Prop where
 bA:fW (λb=>b=wb\/v.ownBlock=so b) o w o' w'
 ex:∃v' UE,WC o' w' wb lo v' UE/\UE.length<=vs.length+4
section
variable {Fin:br}{o:aL}{w:ae}{wb lo:Nat}{v:Value}{vs:List Value}{x:vS}
def Xp[Payload](hF:bJ ak L0 o w)(hT:nC w)(K5:jM w)(hW:WC o w wb lo v vs)(AV:(vs.length+4)*24<=140737488355328)(hx:Bm Fin o w x)(hk:x.kind=1\/x.kind=2):
  bC ak (XB ak Fin 0) 54 #[.pointer (so ⟨wb,0,we⟩),.agg x.cells] o w λr o' w'=>r=.bool true/\tK wb lo v vs o w o' w':=by
 have W:=bZ (P:=ak) (Fin:=Fin) (d:=0);obtain⟨kd,on,nn,nm,tx,p,b,off,c,ls,fp,fb,rP,fc,fs⟩:=x;obtain⟨hR,hL,UY,MB,pW⟩:=hx;simp only at hR hL UY MB pW hk;unfold vS.cells;simp only;have pM:=fl.alloc w (.cells #[.int .i64 kd,.int .i64 on,.int .i64 nn,.string nm,.string tx,.slice p ls.length c,.slice fp fs.length fc] 80);have JO:(w.alloc (.cells #[.int .i64 kd,.int .i64 on,.int .i64 nn,.string nm,.string tx,.slice p ls.length c,.slice fp fs.length fc] 80)).heap.size=w.heap.size+1:=aj;have hcx:=UG (w:=w.alloc (.cells #[.int .i64 kd,.int .i64 on,.int .i64 nn,.string nm,.string tx,.slice p ls.length c,.slice fp fs.length fc] 80)) (B:=w.heap.size) (dz _ _);obtain⟨x0,-,-,-,-,x5,x6⟩:=hcx;have lS:=pM.bS hF;have tV:=hR.keep (o':=o) (λ_ h=>h) pM.size pM.same;have FX:=hL.keep (o':=o) (λ_ h=>h) pM;have g4:ak.globals.size=4:=ah;have H3:1<w.heap.size:=by have:=hF.size;rw[g4]at this;omega
 have Yy:(ls≠[]->b<w.heap.size)/\∀l∈ls,l.ins≠[]->l.ib<w.heap.size:=⟨λq=>(hR.ptr q).2.2,λl hl q=>((hR.ins l hl).1 q).2.2⟩;have aeO:fs≠[]->fb<w.heap.size:=λq=>(hL.ptr q).2.2;refine bC.drop ?_;refine bt W func54 aG ?_;walk_nrmf Tryz.f54;refine aD ?_;refine eu rfl aG rfl (.cells #[.int .i64 kd,.int .i64 on,.int .i64 nn,.string nm,.string tx,.slice p ls.length c,.slice fp fs.length fc] 80) (λn=>.pointer (so ⟨n,0,we⟩)) (λw1=>by first|(simp[go_sem,Act.eval];done)|(simp[go_sem,Act.eval];rfl)) (λw1=>by first|(simp[go_sem,Act.eval];done)|(simp[go_sem,Act.eval];rfl)) ?_;generalize w.alloc (.cells #[.int .i64 kd,.int .i64 on,.int .i64 nn,.string nm,.string tx,.slice p ls.length c,.slice fp fs.length fc] 80)=w1 at *;have U5:w.heap.size<w1.heap.size:=aa;generalize aeP:w.heap.size=Bx at *;have Ro:∀oi:aL,wx Fin (λb=>oi b\/b=Bx) Bx:=λoi=>.inl (.inr rfl);refine aD ?_;refine kn (Ro _) x5 ?_;walk_nrm;refine dq func82 (bC.frame (λb=>b=Bx) (by rintro b rfl;omega) (λgd AX=>aaE (c:=c) lS (tV.zq λb q=>(AX b).2 (.inr q)) UY pW)) ?_;rintro h2 o2' w2 ⟨o2,rfl,hLd⟩;have G2:=hLd.sx;have Bj:fl w1 w2:=G2.olds;have up2:=G2.bA.more;have Da:=Bj.size;obtain⟨q,A,cc,rs,NM,NB,H5,fP⟩:∃q A cc rs NM NB,RC o2 w2 h2 (ls.map iF.ru) q A cc rs NM NB/\∀(gd:br) (oi:aL) (wi:ae),bJ ak L0 oi wi->kp gd oi wi p b off ls->(∀b,o2 b->oi b)->w2.heap.size<=wi.heap.size->(∀b,w1.heap.size<=b->b<w2.heap.size->wi.heap[b]?=w2.heap[b]?)->bC ak (XB ak gd 0) 84 #[h2,.slice p ls.length c] oi wi λr o' w'=>r=.bool true/\o'=oi/\Gone w1.heap.size w2.heap.size oi wi w':=by
  rcases hLd.ex with⟨rfl,rfl,rfl⟩|⟨⟨pa,rfl⟩,A,cs,rfl,hD⟩
  ·obtain rfl:=UY rfl;exact⟨_,_,_,_,_,_,aaW,λgd oi wi Ly RQ hu hz hs=>(Uz Ly _).mono λr o' w' ⟨h1,h2,h3⟩=>⟨h1,h2,by rw[h3];exact Gone.refl Ly⟩⟩
  ·exact⟨_,_,_,_,_,_,aeH hD G2.all hR.qt,λgd oi wi Ly RQ hu hz hs=>aaN Ly RQ hD hz hs (λb h1 h2=>hu b (G2.all b h1 h2)) ⟨λk=>by have:=Yy.1 k;omega,λl hl k=>by have:=Yy.2 l hl k;omega⟩ pW⟩
 clear hLd;have x0i:∀wi,fl w1 wi->wi.cell? ⟨Bx,0,we⟩=so (.int .i64 kd):=λwi h=>(cell_of (h.same Bx U5)).trans x0;have x5i:∀wi,fl w1 wi->wi.cell? ⟨Bx,5,we⟩=so (.slice p ls.length c):=λwi h=>(cell_of (h.same Bx U5)).trans x5;have x6i:∀wi,fl w1 wi->wi.cell? ⟨Bx,6,we⟩=so (.slice fp fs.length fc):=λwi h=>(cell_of (h.same Bx U5)).trans x6;have UH:∀oi wi,(∀b,o b->oi b)->fl w1 wi->WC oi wi wb lo v vs:=λoi wi hu hO=>hW.keep hu (by have:=hO.size;omega) (λb hb=>(hO.same b (by have:=hF.lt hb;omega)).trans (pM.same b (by have:=hF.lt hb;omega))) hF;have aa0:∀oi wi,bJ ak L0 oi wi->(∀b,o b->oi b)->(∀b,oi b->o b\/w1.heap.size<=b)->fl w1 wi->tK wb lo v vs o w oi wi:=λoi wi Ly hu hnw hO=>⟨⟨Ly,hu,λb hb=>(hnw b hb).imp id λk=>aa,by have:=hO.size;omega,λb hb _=>(hO.same b aa).trans (pM.same b aa)⟩,v,vs,UH oi wi hu hO,aa⟩;have RQ:∀oi wi,(∀b,o b->oi b)->fl w1 wi->kp Fin oi wi p b off ls:=λoi wi hu hO=>tV.keep hu hO.size hO.same;have hLi:∀oi wi,(∀b,o b->oi b)->fl w1 wi->kB Fin oi wi fp fb rP fs:=λoi wi hu hO=>FX.keep hu hO;have x5':=x5i w2 Bj;have x0':=x0i w2 Bj;refine aD ?_;refine kn (Ro _) x0' ?_;walk_nrm;clear x0 x5 x6 tV FX hR hL;rcases hk with rfl|rfl
 ·refine aD ?_;refine dq func83 (bC.frame (λb=>b=Bx) (by rintro b rfl;omega) (λgd AX=>K2 G2.bA.bS H5)) ?_;rintro v3 o3' w3 ⟨o3,rfl,e,a,rfl,HD,G3⟩;have vN:=Bj.trans G3.olds;have Yu:∀b,o b->o3 b:=λb h=>G3.bA.more b (up2 b h);have Lt:=G3.bA.size;have x53:=x5i w3 vN;refine aD ?_;refine kn (Ro _) x53 ?_;walk_nrm;refine dq func84 (bC.frame (λb=>b=Bx) (by rintro b rfl;omega) (λgd AX=>fP gd o3 w3 G3.bA.bS ((RQ o3 w3 Yu vN).zq λb k=>(AX b).2 (.inr k)) G3.bA.more Lt λb h1 h2=>G3.bA.same b h2 id)) ?_;rintro v4 o4' w4 ⟨o4,rfl,rfl,rfl,hG4⟩;have aiR:=hG4.size;have Ea:fl w1 w4:=⟨aa,λb hb=>(hG4.same b aa (.inl hb)).trans (vN.same b hb)⟩;have x54:=x5i w4 Ea;refine aD ?_;refine kn (Ro _) x54 ?_;walk_nrm;refine dq func85 (bC.frame (λb=>b=Bx) (by rintro b rfl;omega) (λgd AX=>OU (c:=c) ((RQ o4 w4 Yu Ea).zq λb k=>(AX b).2 (.inr k)))) ?_;rintro v5 o5' w5 ⟨o5,rfl,e',a',rfl,aeR,rfl,EG⟩;obtain⟨rfl,rfl⟩:=HD.one aeR;have aeS:=Ea.trans EG;have dO:=aa0 o5 w5 (EG.bS hG4.bS) Yu (λb hb=>(G3.bA.new b hb).elim (λk=>G2.bA.new b k) λk=>.inr aa) aeS;clear aa0 UH RQ hLi x0i x5i x6i fP H5 HD aeR hG4 G3 G2 Bj vN Ea EG aeS;refine aD ?_;refine dq func86 (Yx e) ?_;rintro v6 o6 w6 ⟨rfl,e1,e2⟩;subst e1 e2;refine aD ?_;exact⟨.inr trivial,trivial,_,resultsC_tmp (t:=4) aG _,o5,(λb h=>.inl h),ax,dO⟩
 have x6':=x6i w2 Bj;refine aD ?_;refine kn (Ro _) x6' ?_;walk_nrm;refine dq func87 (bC.frame (λb=>b=Bx) (by rintro b rfl;omega) (λgd AX=>KW (c:=fc) G2.bA.bS ((hLi o2 w2 up2 Bj).zq λb k=>(AX b).2 (.inr k)) MB)) ?_;rintro g3 o3' w3 ⟨o3,rfl,hLF⟩;have G3:=hLF.sx;have vN:=Bj.trans G3.olds;have Lt:=G3.bA.size;have Yu:∀b,o b->o3 b:=λb h=>G3.bA.more b (up2 b h);have aeT:=(hLi o2 w2 up2 Bj).qt.2;obtain⟨fq,fA,fcc,hFC,hbf⟩:∃fq fA fcc,FC o3 w3 g3 fs fq fA fcc/\∀(gd:br) (oi:aL) (wi:ae),bJ ak L0 oi wi->kB gd oi wi fp fb rP fs->(∀b,o3 b->oi b)->w3.heap.size<=wi.heap.size->(∀b,w2.heap.size<=b->b<w3.heap.size->wi.heap[b]?=w3.heap[b]?)->bC ak (XB ak gd 0) 88 #[g3,.slice fp fs.length fc] oi wi λr o' w'=>r=.bool true/\o'=oi/\Gone w2.heap.size w3.heap.size oi wi w':=by
  rcases hLF.ex with⟨rfl,rfl,rfl⟩|⟨⟨pa,rfl⟩,A',rfl,hD⟩
  ·obtain rfl:=MB rfl;exact⟨_,_,_,aaX,λgd oi wi Ly RQ hu hz hs=>(EU Ly _).mono λr o' w' ⟨h1,h2,h3⟩=>⟨h1,h2,by rw[h3];exact Gone.refl Ly⟩⟩
  ·have oA:=G3.all A' hD.al.1 hD.al.2;have P4:=hD.al.1;have Jm:=hD.al.2;exact⟨_,_,_,aeK hD oA aeT,λgd oi wi Ly RQ hu hz hs=>(KX Ly RQ (lo:=w2.heap.size) ⟨⟨P4,aa⟩,World.rowIs.of_block hD.row (hs A' P4 Jm)⟩ (λk=>by have:=aeO k;omega) (hu _ oA)).mono λr o' w' ⟨h1,h2,h3⟩=>⟨h1,h2,h3.bS,h3.size,λb hb k=>h3.same b hb aa⟩⟩
 have aeU:RC o3 w3 h2 (ls.map iF.ru) q A cc rs NM NB:=by
  refine⟨H5.val,H5.cap,⟨H5.mem.qt,λk=>⟨(H5.mem.ptr k).1,by have:=(H5.mem.ptr k).2;omega⟩,λi hi=>?_,λr hr=>?_,H5.mem.outs⟩,H5.is,H5.cl.up G3.bA.more,λk=>G3.bA.more _ (H5.own k),λr hr k=>G3.bA.more _ (H5.ins r hr k),H5.nil,H5.nmn⟩
  ·exact gG H5.mem.at_ (G3.bA.same A (H5.mem.ptr λe=>by rw[e]at hi;simp at hi).2 id) i hi
  ·obtain⟨a1,a2,a3,a4,a5⟩:=H5.mem.nm r hr;exact⟨a1,λk=>⟨(a2 k).1,by have:=(a2 k).2;omega⟩,λk hk=>dS a3 (G3.bA.same _ (a2 λe=>by rw[e]at hk;simp at hk).2 id) k hk,a4,a5⟩
 have Xa:jM w3:=λk hk=>(cell_of ((vN.same 1 aa).trans (pM.same 1 aa))).trans (K5 k hk);clear hLF;refine aD ?_;refine dq func16 (bC.frame (λb=>b=Bx) (by rintro b rfl;omega) (λgd AX=>K3 G3.bA.bS Xa aeU hFC)) ?_;rintro v4 o4' w4 ⟨o4,rfl,W4,e,l,n,rfl,Yt,hOL,qK⟩;have aiR:=W4.size;have Ea:fl w1 w4:=vN.trans ⟨W4.size,λb hb=>W4.same b hb id⟩;have up4:∀b,o b->o4 b:=λb h=>W4.more b (Yu b h);have x54:=x5i w4 Ea;refine aD ?_;refine kn (Ro _) x54 ?_;walk_nrm;refine dq func84 (bC.frame (λb=>b=Bx) (by rintro b rfl;omega) (λgd AX=>fP gd o4 w4 W4.bS ((RQ o4 w4 up4 Ea).zq λb k=>(AX b).2 (.inr k)) (λb k=>W4.more b (G3.bA.more b k)) aa λb h1 h2=>(W4.same b aa id).trans (G3.bA.same b h2 id))) ?_;rintro v5 o5' w5 ⟨o5,rfl,rfl,rfl,hG5⟩;have hz5:=hG5.size;have EG:fl w1 w5:=⟨aa,λb hb=>(hG5.same b aa (.inl hb)).trans (Ea.same b hb)⟩;have x65:=x6i w5 EG;refine aD ?_;refine kn (Ro _) x65 ?_;walk_nrm;refine dq func88 (bC.frame (λb=>b=Bx) (by rintro b rfl;omega) (λgd AX=>hbf gd o5 w5 hG5.bS ((hLi o5 w5 up4 EG).zq λb k=>(AX b).2 (.inr k)) (λb k=>W4.more b k) aa λb h1 h2=>(hG5.same b aa (.inr h1)).trans (W4.same b h2 id))) ?_;rintro v6 o6' w6 ⟨o6,rfl,rfl,rfl,hG6⟩;have hz6:=hG6.size;have NC:fl w1 w6:=⟨aa,λb hb=>(hG6.same b aa (.inl aa)).trans (EG.same b hb)⟩;have x56:=x5i w6 NC;have x66:=x6i w6 NC;have hT6:=hT.Ym ((NC.same 1 aa).trans (pM.same 1 aa));have sl:∀b,w3.heap.size<=b->b<w4.heap.size->w6.heap[b]?=w4.heap[b]?:=λb h1 h2=>(hG6.same b aa (.inr h1)).trans (hG5.same b h2 (.inr aa));refine aD ?_;refine kn (Ro _) x56 ?_;refine aD ?_;refine kn (Ro _) x66 ?_;walk_nrm;refine dq func89 (bC.frame (λb=>b=Bx) (by rintro b rfl;omega) (λgd AX=>Ny (c:=c) (fc:=fc) hG6.bS hT6 ((RQ o6 w6 up4 NC).zq λb k=>(AX b).2 (.inr k)) ((hLi o6 w6 up4 NC).zq λb k=>(AX b).2 (.inr k)))) ?_;rintro v7 o7' w7 ⟨o7,rfl,W7,m,e',rfl,aeY,UI⟩;obtain rfl:=Yt.one aeY;have hz7:=W7.size;have hO7:fl w1 w7:=NC.trans ⟨W7.size,λb hb=>W7.same b hb id⟩;have up7:∀b,o b->o7 b:=λb h=>W7.more b (up4 b h);have sl7:∀b,w3.heap.size<=b->b<w4.heap.size->w7.heap[b]?=w4.heap[b]?:=λb h1 h2=>(W7.same b aa id).trans (sl b h1 h2);obtain⟨UJ,p1,b1,c1,p2,b2,c2,el,em,hn8,Lw,Lu,mC,ME,aeZ,ae0⟩:∃(UJ:List (ag×V)) (p1:Option Addr) (b1 c1:Nat) (p2:Option Addr) (b2 c2:Nat),l=.slice p1 UJ.length c1/\m=.slice p2 UJ.length c2/\UJ.length<=100000/\(UJ≠[]->p1=so ⟨b1,0,we⟩/\o7 b1)/\(UJ≠[]->p2=so ⟨b2,0,we⟩/\o7 b2)/\tW w7 b1 UJ/\tW w7 b2 UJ/\Cl ak L0 o7 (.slice p1 UJ.length c1)/\Cl ak L0 o7 (.slice p2 UJ.length c2):=by
  rcases qK with⟨h0,rfl⟩|⟨rfl,rfl,R,rfl,oR,aiV⟩
  ·rcases UI with⟨-,rfl⟩|⟨k,-⟩
   ·exact⟨[],we,0,0,we,0,0,rfl,rfl,aj,λk=>absurd rfl k,λk=>absurd rfl k,λi hi=>by simp at hi,λi hi=>by simp at hi,nR,nR⟩
   ·exact absurd k h0
  ·rcases UI with⟨k,-⟩|⟨-,Wt,-,row⟩
   ·exact absurd rfl k
   have hlr:(rC ((ls.map iF.ru).map (·.out)) (gF (ls.map iF.ru) fs (ls.map iF.ru).length)).length=(ls.map iF.ru).length:=by rw[DN];simp
   have row:jy o7 w7 Wt 65 3 m (rC ((ls.map iF.ru).map (·.out)) (gF (ls.map iF.ru) fs (ls.map iF.ru).length)).length (ja (rC ((ls.map iF.ru).map (·.out)) (gF (ls.map iF.ru) fs (ls.map iF.ru).length))):=by rw[hlr];exact row
   obtain⟨p2,b2,c2,rfl,k1,k2⟩:=row.res W7.bS;have sD:=hOL.ui;have aeg:R<w4.heap.size:=W4.bS.lt oR;have aiW:w3.heap.size<=R:=by
    rcases hOL.ex with⟨k,e9⟩|⟨R',f,e9,-,k,-⟩
    ·cases e9
    ·simp only[Value.slice.injEq,ay,Addr.mk.injEq,and_true]at e9;omega
   refine⟨_,so ⟨R,0,we⟩,R,(ls.map iF.ru).length,p2,b2,c2,by rw[hlr],rfl,by rw[hlr];omega,λ_=>⟨rfl,W7.more _ oR⟩,k1,λi hi=>?_,k2,eK (W7.more _ oR),row.cl⟩;obtain⟨q0,q1,q2⟩:=aiV i hi;have es:=sl7 R aiW aeg;exact⟨(cell_of es).trans q0,(cell_of es).trans q1,(cell_of es).trans q2⟩
 have aa1:UD o7 w7 Bx l n:=by
  refine⟨hOL.ui,hOL.ex.imp id λ⟨R,f,k1,k2,k3,k4⟩=>⟨R,f,k1,W7.more _ k2,aa,World.rowIs.of_block k4 (sl7 R k3 (W4.bS.lt k2))⟩⟩
 subst el em;refine aD ?_;refine dq func90 (bC.frame (λb=>b=Bx) (by rintro b rfl;omega) (λgd AX=>Xo W7.bS hn8 Lw Lu mC ME aeZ ae0)) ?_;rintro v8 o8' w8 ⟨o8,rfl,rfl,N8⟩;have G8:=gZ.kJ N8;have hz8:=G8.bA.size;have hO8:=hO7.trans G8.olds;have up8:∀b,o b->o8 b:=λb h=>G8.bA.more b (up7 b h);have ae1:UD o8 w8 Bx (.slice p1 UJ.length c1) n:=by
  refine⟨aa1.ui,aa1.ex.imp id λ⟨R,f,k1,k2,k3,k4⟩=>⟨R,f,k1,G8.bA.more _ k2,k3,World.rowIs.of_block k4 (G8.bA.same R (W7.bS.lt k2) id)⟩⟩
 have hs8:∀b,o b->w8.heap[b]?=w.heap[b]?:=λb hb=>(hO8.same b (by have:=hF.lt hb;omega)).trans (pM.same b (by have:=hF.lt hb;omega));have nw8:∀b,o8 b->o b\/w1.heap.size<=b:=λb hb=>(G8.bA.new b hb).elim (λk=>(W7.new b k).elim (λk=>(W4.new b k).elim (λk=>(G3.bA.new b k).elim (λk=>G2.bA.new b k) λk=>.inr aa) λk=>.inr aa) λk=>.inr aa) λk=>.inr aa;have Yz:=λgd=>NF (Fin:=gd) G8.bA.bS hF hW up8 aa hs8 (by rw[aeP];exact ae1) AV;clear aa0 UH RQ hLi x0i x5i x6i fP hbf H5 aeU hFC hG5 hG6 G3 G2 N8 mC ME Lw Lu hOL aa1 ae1 qK UI aeZ ae0 Yt aeY sl sl7 W4 W7 Xa hT6;refine aD ?_;refine dq func91 (bC.frame (λb=>b=Bx) (by rintro b rfl;omega) (λgd AX=>Yz gd)) ?_;rintro v9 o9' w9 ⟨o9,rfl,v',UE,hWC,aiX,W9⟩;have hz9:=W9.size;have dO:tK wb lo v vs o w o9 w9:=by
  refine⟨⟨W9.bS,λb hb=>W9.more b (up8 b hb),λb hb=>(W9.new b hb).elim (λk=>(nw8 b k).imp id λk=>aa) λk=>.inr aa,aa,λb hb hn=>?_⟩,v',UE,hWC,aa⟩;refine(W9.same b aa λk=>?_).trans ((hO8.same b aa).trans (pM.same b aa));rcases k with k|k|k
  ·exact hn (.inl k)
  ·exact hn (.inr k)
  ·omega
 clear Yz hWC W9 hO8 hs8 nw8;refine aD ?_;refine dq func86 (Yx e) ?_;rintro v10 o10 w10 ⟨rfl,e1,e2⟩;subst e1 e2;refine aD ?_;exact⟨.inr trivial,trivial,_,resultsC_tmp (t:=4) aG _,o9,(λb h=>.inl h),ax,dO⟩
end
end
section
open Go.RowKit (Hid)
section
variable {P:Program}{Fin:br}{d:Nat}{o:aL}{w:ae}{fn:FuncId}{Q:Exit->Act->aL->ae->Prop}{a:Act}{ops:Array Oper}{i:Nat}{rest:List Nat}{op:Oper}{dd:Option Tmp}
def UK(ho:ops[i]?=so op)(hw:Region.wanted op (yielded ops a.tmps)=true)(hd:op.dst=dd)(h:∀n,∃v w',(execOp a.eval op).run P (w.at n)=.ok (.value v) w'/\w.heap.size<=w'.heap.size/\(w'.os=w.os/\w'.output=w.output)/\(∀x∈(execOp a.eval op).events P (w.at n) #[],(∃ad wt sy,x=⟨.cell ad,wt,sy⟩/\wx Fin (Go.Ren.grow o w w') ad.block)\/∃m,x=⟨.mark m,false,true⟩/\Neutral m)/\dK (XB P Fin d) fn ops rest Q (a.put dd v) (Go.Ren.grow o w w') w'):dK (XB P Fin d) fn ops (i::rest) Q a o w:=λb k cs nD hk hc=>by
 subst hd;refine bZ.step o _ w rfl λw1 h1=>?_;obtain⟨n,rfl⟩:=h1;obtain⟨v,w',hr,hz,Ld,jg,hx⟩:=h n;refine⟨_,_,_,dP ho hw hk hr,⟨λx hx=>?_,hz,Ld⟩,hx b k cs nD hk hc⟩;rcases jg x (mem_listed hx) with⟨ad,wt,sy,rfl,e⟩|⟨m,rfl,hm⟩
 ·exact⟨tw (o:=λb=>Go.Ren.grow o w w' b\/nE Fin b) e,aj,aj⟩
 ·exact⟨(Jn rfl).PZ,by simpa using hm.ne_disable,by simpa using hm.ne_enable⟩
end
section
variable {Fin gd:br}{o o':aL}{w w':ae}{wb lo:Nat}{v:Value}{vs:List Value}{x:vS}
def Bm.zq(h:Bm Fin o w x)(hl:∀b,nE Fin b->nE gd b):Bm gd o w x:=⟨h.rules.zq hl,h.files.zq hl,h.nil,h.aeN,h.ins⟩
def Bm.keep(h:Bm Fin o w x)(hu:∀b,o b->o' b)(hO:fl w w'):Bm Fin o' w' x:=⟨h.rules.keep hu hO.size hO.same,h.files.keep hu hO,h.nil,h.aeN,h.ins⟩
def aa2[Payload](hF:bJ ak L0 o w)(hT:nC w)(K5:jM w)(hW:WC o w wb lo v vs)(AV:(vs.length+4)*24<=140737488355328)(hx:Bm Fin o w x)(hk:x.kind<=2):
  bC ak (XB ak Fin 0) 30 #[.pointer (so ⟨wb,0,we⟩),.agg x.cells] o w λr o' w'=>r=.bool true/\tK wb lo v vs o w o' w':=by
 have W:=bZ (P:=ak) (Fin:=Fin) (d:=0);obtain⟨kd,on,nn,nm,tx,p,b,off,c,ls,fp,fb,rP,fc,fs⟩:=x;simp only at hk;have pM:=fl.alloc w (.cells #[.int .i64 kd,.int .i64 on,.int .i64 nn,.string nm,.string tx,.slice p ls.length c,.slice fp fs.length fc] 80);have JO:(w.alloc (.cells #[.int .i64 kd,.int .i64 on,.int .i64 nn,.string nm,.string tx,.slice p ls.length c,.slice fp fs.length fc] 80)).heap.size=w.heap.size+1:=aj;obtain⟨x0,x1,x2,x3,x4,x5,x6⟩:=UG (w:=w.alloc (.cells #[.int .i64 kd,.int .i64 on,.int .i64 nn,.string nm,.string tx,.slice p ls.length c,.slice fp fs.length fc] 80)) (B:=w.heap.size) (dz _ _);have lS:=pM.bS hF;have vw:=hx.keep (o':=o) (λ_ h=>h) pM;have g4:ak.globals.size=4:=ah;have H3:1<w.heap.size:=by have:=hF.size;rw[g4]at this;omega
 have hT1:=hT.Ym (pM.same 1 H3);have YA:jM (w.alloc (.cells #[.int .i64 kd,.int .i64 on,.int .i64 nn,.string nm,.string tx,.slice p ls.length c,.slice fp fs.length fc] 80)):=λk hk=>(cell_of (pM.same 1 H3)).trans (K5 k hk);have D5:=hW.keep (o':=o) (λ_ h=>h) pM.size (λb hb=>pM.same b (hF.lt hb)) hF;have tL:=λ(gd:br) (hl:∀b,nE Fin b->nE gd b) (hk:kd=1\/kd=2)=>Xp (Fin:=gd) lS hT1 YA D5 AV (vw.zq hl) hk;have ow:=D5.own;have g0:=(ki D5.blk).1;have Fq:tK wb lo v vs o w o (w.alloc (.cells #[.int .i64 kd,.int .i64 on,.int .i64 nn,.string nm,.string tx,.slice p ls.length c,.slice fp fs.length fc] 80)):=⟨⟨lS,λ_ h=>h,λ_ h=>.inl h,pM.size,λb hb _=>pM.same b hb⟩,v,vs,D5,aa⟩;refine bC.drop ?_;unfold vS.cells at tL |-;simp only at tL |-;refine bt W func30 aG ?_;walk_nrmf Tryz.f30;refine aD ?_;refine eu rfl aG rfl (.cells #[.int .i64 kd,.int .i64 on,.int .i64 nn,.string nm,.string tx,.slice p ls.length c,.slice fp fs.length fc] 80) (λn=>.pointer (so ⟨n,0,we⟩)) (λw1=>by first|(simp[go_sem,Act.eval];done)|(simp[go_sem,Act.eval];rfl)) (λw1=>by first|(simp[go_sem,Act.eval];done)|(simp[go_sem,Act.eval];rfl)) ?_;generalize w.alloc (.cells #[.int .i64 kd,.int .i64 on,.int .i64 nn,.string nm,.string tx,.slice p ls.length c,.slice fp fs.length fc] 80)=w1 at *;have U5:w.heap.size<w1.heap.size:=aa;generalize aeP:w.heap.size=Bx at *;have Ro:∀oi:aL,wx Fin (λb=>oi b\/b=Bx) Bx:=λoi=>.inl (.inr rfl);have owR:wx Fin (λb=>o b\/b=Bx) wb:=.inl (.inl ow);clear D5 vw hT1 YA hT K5 hx lS;refine aD ?_;refine kn (Ro _) x0 ?_;walk_nrm;have mV:∀(gd:br),True:=λ_=>trivial;clear mV;by_cases Wm:kd=1\/kd=2
 ·have tL:=λgd hl=>tL gd hl Wm;have hgo:∀(o9:aL) (w9:ae),tK wb lo v vs o w1 o9 w9->tK wb lo v vs o w o9 w9:=λo9 w9 h=>⟨⟨h.bA.bS,h.bA.more,λb hb=>(h.bA.new b hb).imp id λk=>aa,by have:=h.bA.size;omega,λb hb hn=>(h.bA.same b aa hn).trans (pM.same b aa)⟩,h.ex⟩;clear Fq g0 pM;rcases Wm with rfl|rfl
  ·refine aD ?_;refine eZ (Ro _) rfl aG rfl (v:=.agg #[.int .i64 1,.int .i64 on,.int .i64 nn,.string nm,.string tx,.slice p ls.length c,.slice fp fs.length fc]) (λwl bu=>by simp[go_sem,bu.cell.trans x0,bu.cell.trans x1,bu.cell.trans x2,bu.cell.trans x3,bu.cell.trans x4,bu.cell.trans x5,bu.cell.trans x6]) (λwl bu y hy=>?_) ?_
   ·simp[go_sem,bu.cell.trans x0,bu.cell.trans x1,bu.cell.trans x2,bu.cell.trans x3,bu.cell.trans x4,bu.cell.trans x5,bu.cell.trans x6]at hy;rcases hy with rfl|rfl|rfl|rfl|rfl|rfl|rfl<;>exact⟨_,_,_,rfl,rfl⟩
   walk_nrm;refine dq func54 (bC.frame (λb=>b=Bx) (by rintro b rfl;omega) (λgd AX=>tL gd λb k=>(AX b).2 (.inr k))) ?_;rintro v3 o3' w3 ⟨o3,rfl,rfl,h3⟩;have dO:=hgo o3 w3 h3;clear tL hgo h3;refine aD ?_;exact⟨.inr trivial,trivial,_,resultsC_tmp (t:=4) aG _,o3,(λb h=>.inl h),ax,dO⟩
  ·refine aD ?_;refine eZ (Ro _) rfl aG rfl (v:=.agg #[.int .i64 2,.int .i64 on,.int .i64 nn,.string nm,.string tx,.slice p ls.length c,.slice fp fs.length fc]) (λwl bu=>by simp[go_sem,bu.cell.trans x0,bu.cell.trans x1,bu.cell.trans x2,bu.cell.trans x3,bu.cell.trans x4,bu.cell.trans x5,bu.cell.trans x6]) (λwl bu y hy=>?_) ?_
   ·simp[go_sem,bu.cell.trans x0,bu.cell.trans x1,bu.cell.trans x2,bu.cell.trans x3,bu.cell.trans x4,bu.cell.trans x5,bu.cell.trans x6]at hy;rcases hy with rfl|rfl|rfl|rfl|rfl|rfl|rfl<;>exact⟨_,_,_,rfl,rfl⟩
   walk_nrm;refine dq func54 (bC.frame (λb=>b=Bx) (by rintro b rfl;omega) (λgd AX=>tL gd λb k=>(AX b).2 (.inr k))) ?_;rintro v3 o3' w3 ⟨o3,rfl,rfl,h3⟩;have dO:=hgo o3 w3 h3;clear tL hgo h3;refine aD ?_;exact⟨.inr trivial,trivial,_,resultsC_tmp (t:=4) aG _,o3,(λb h=>.inl h),ax,dO⟩
 ·have e1:(kd==1)=false:=by rw[dm];omega
  have e2:(kd==2)=false:=by rw[dm];omega
  have e3:(kd==3)=false:=by rw[dm];omega
  clear tL pM Wm;refine aD ?_;refine kn owR g0 ?_;refine aD ?_;exact⟨.inr trivial,trivial,_,resultsC_tmp (t:=4) aG _,o,(λb h=>.inl h),ax,Fq⟩
end
end
section
open Go.RowKit (Hid)
structure vT(Fin:br)(o:aL)(w:ae)(p:Option Addr)(b off c:Nat)(xs:List vS):Prop where
 ptr:xs≠[]->p=so ⟨b,off,we⟩/\nE Fin b/\b<w.heap.size
 nil:p=we->xs=[]/\c=0
 at_:∀i (h:i<xs.length) j u,xs[i].cells[j]?=so u->w.cell? ⟨b,off+(i*7+j),we⟩=so u
 ok:∀x∈xs,Bm Fin o w x
 qt:xs.length<=1353245080300
def gV(xs:List vS):List Value:=(xs.map λx=>x.cells.toList).flatten
def sj(xs:List vS):(gV xs).length=xs.length*7:=by
 induction xs with
 |nil=>rfl
 |cons x l ih =>
  have e:gV (x::l)=x.cells.toList++gV l:=rfl;rw[e,jZ,ih];simp[vS.cells];omega
def K6(xs ys:List vS):gV (xs++ys)=gV xs++gV ys:=by simp[gV]
def xQ:∀(xs:List vS) (i:Nat) (hi:i<xs.length) (j:Nat),j<7->(gV xs)[i*7+j]?=xs[i].cells[j]?
 |x::l,0,_,j,hj=>by
  have e:gV (x::l)=x.cells.toList++gV l:=rfl;have hl:x.cells.toList.length=7:=by simp[vS.cells]
  rw[e,dI aa];simp
 |x::l,i+1,hi,j,hj=>by
  have e:gV (x::l)=x.cells.toList++gV l:=rfl;have hl:x.cells.toList.length=7:=by simp[vS.cells]
  rw[e,dD aa,hl,show(i+1)*7+j-7=i*7+j by omega];exact xQ l i (by simpa using hi) j hj
def AY(xs:List vS):∀u∈gV xs,u.oneCell'=true:=λu hu=>by
 simp only[gV,List.mem_flatten,List.mem_map]at hu;obtain⟨l,⟨x,-,rfl⟩,hu⟩:=hu;simp[vS.cells]at hu;rcases hu with rfl|rfl|rfl|rfl|rfl|rfl|rfl<;>rfl
def aa3:(ak.info? 80).map (λi=>(i.zero,i.size,i.bytes))=so (so (.agg #[.int .i64 0,.int .i64 0,.int .i64 0,.string ⟨#[]⟩,.string ⟨#[]⟩,.slice we 0 0,.slice we 0 0]),7,104):=ah
def Bn{P:Program}(w:ae){t e ty:TypeId}{i:TypeInfo}(ht:P.underlying t=so (.slice e))(hi:P.info? e=so i)(a:Addr)(n cap:Nat)(hn:n<=cap)(q:Option Addr)(cq:Nat):(Builtin.append_ #[t,t] ty #[.slice (so a) n cap,.slice q 0 cq]).run P w=.ok (.slice (so a) n cap) w/\∀x∈(Builtin.append_ #[t,t] ty #[.slice (so a) n cap,.slice q 0 cq]).events P w #[],False:=by
 constructor
 ·cases q<;>simp[Builtin.append_,run_underlying ht,sizeOf,typeInfo,hi,Builtin.lenOf,hn,Builtin.firstCells,storeCells,loadCells,loadCellsFrom]
 ·intro x hx;cases q<;>simp[Builtin.append_,run_underlying ht,events_underlying,sizeOf,typeInfo,hi,Builtin.lenOf,hn,Builtin.firstCells,storeCells,loadCells,loadCellsFrom]at hx
def NG{w:ae}{A4:Nat}{ys xs:List vS}{p:Option Addr}{b off c:Nat}{ty:TypeId}(k5:w.heap[A4]?=so (.cells (gV ys).toArray 80))(hy:ys.length=4)(hz:A4<w.heap.size)(jE:xs.length<=1353245080300)(hp:xs≠[]->p=so ⟨b,off,we⟩)(rM:∀i (h:i<xs.length) j u,xs[i].cells[j]?=so u->w.cell? ⟨b,off+(i*7+j),we⟩=so u):
  ∃w6 g cap,(Builtin.append_ #[22,22] ty #[.slice (so ⟨A4,0,we⟩) 4 4,.slice p xs.length c]).run ak w=.ok (.slice (so ⟨g,0,we⟩) (4+xs.length) cap) w6/\w.heap.size<=w6.heap.size/\(w6.os=w.os/\w6.output=w.output)/\(∀k,k<A4->w6.heap[k]?=w.heap[k]?)/\A4<=g/\g<w6.heap.size/\(∀i (h:i<(ys++xs).length) j,j<7->w6.cell? ⟨g,i*7+j,we⟩=(ys++xs)[i].cells[j]?) /\
   ∀x∈(Builtin.append_ #[22,22] ty #[.slice (so ⟨A4,0,we⟩) 4 4,.slice p xs.length c]).events ak w #[],(∃ad wt sy,x=⟨.cell ad,wt,sy⟩/\(ad.block=A4\/xs≠[]/\ad.block=b))\/∃m,x=⟨.mark m,false,true⟩/\Neutral m:=by
 obtain⟨i0,hi,pL⟩:=aH.1 aa3;simp only[bO]at pL;have RI:(gV ys).length=4*7:=by rw[sj,hy]
 have nT:∀{w6:ae} {g:Nat} {l:List vS},(∀j u,(gV l)[j]?=so u->w6.cell? ⟨g,j,we⟩=so u)->∀i (h:i<l.length) j,j<7->w6.cell? ⟨g,i*7+j,we⟩=l[i].cells[j]?:=λ{w6 g l} h i mn j hj=>by
  have e:=xQ l i mn j hj;have hlen:l[i].cells.size=7:=by simp[vS.cells]
  rw[aO aa]at e |-;exact h _ _ e
 by_cases h0:xs=[]
 ·subst h0;obtain⟨r1,r2⟩:=Bn (P:=ak) w (ty:=ty) underlying22 hi ⟨A4,0,we⟩ 4 4 (af _) p c;refine⟨w,A4,4,r1,af _,⟨rfl,rfl⟩,λ_ _=>rfl,af _,hz,?_,λx hx=>(r2 x hx).elim⟩;rw[List.append_nil];refine nT λj u hj=>?_;simp[World.cell?,k5,hj]
 ·obtain rfl:=hp h0;have fo:w.ownsRow A4 80 7 (.slice (so ⟨A4,0,we⟩) 4 4) 4 (gV ys):=⟨RI,.inr ⟨A4,4,_,rfl,af _,k5,af _,by simp[maxLen],by simp[RI],by simp[<- RI]⟩⟩;have hs:∀j u,(gV xs)[j]?=so u->w.cell? ((⟨b,off,we⟩:Addr).add j)=so u:=λj u hj=>by
   have HV:=(a8.1 hj).1;rw[sj]at HV;have e:=xQ xs (j/7) aa (j%7) aa;rw[show j/7*7+j%7=j by omega,hj]at e;have:=rM (j/7) aa (j%7) u e.symm;rw[show off+(j/7*7+j%7)=off+j by omega]at this;rw[vR];exact this
  obtain⟨v',W',r1,r2,r3,-,-⟩:=run_append_own_at (P:=ak) w A4 22 ty 80 i0 _ 7 104 underlying22 hi pL.1 pL.2.1 pL.2.2 rfl aa _ 4 (gV ys) fo ⟨b,off,we⟩ xs.length c (gV xs) (sj xs) hs (AY xs) (by simp[maxLen];omega) aa aa;have jg:=events_append_where (P:=ak) w A4 22 ty 80 i0 _ 7 104 underlying22 hi pL.1 pL.2.1 pL.2.2 _ 4 (gV ys) fo ⟨b,off,we⟩ xs.length c (gV xs) (sj xs) hs (AY xs) (by simp[maxLen];omega) aa;have r2c:=r2;rcases r2.2 with⟨-,q⟩|⟨g,cap,cur,rfl,hg,hgb,-⟩
  ·omega
  refine⟨W',g,cap,r1,r3.size,⟨r3.os,r3.output⟩,λk hk=>r3.block k aa (by simp[Value.ownBlock];omega),hg,(aI.1 hgb).1,?_,λx hx=>?_⟩
  ·refine nT λj u hj=>?_;rw[K6]at hj;have:=r2c.cells (g:=g) rfl j u hj;rwa[aaR]at this
  ·rcases jg x hx with⟨ad,h2,h3⟩|h
   ·obtain⟨loc,wt,sy⟩:=x;simp only at h2;subst h2;refine .inl ⟨ad,wt,sy,rfl,?_⟩;rcases h3 with⟨-,h3⟩|h3
    ·exact .inr ⟨h0,h3⟩
    ·simp[Value.ownBlock]at h3;exact .inl h3
   ·exact .inr h
def HK{w:ae}{b t:Nat}{c:Array Value}(h:w.heap[b]?=so (.cells c t)):w.rowIs b t c.size (λj=>(c[j]?).getD undef):=⟨c,h,rfl,λj hj=>by simp[hj]⟩
def tM{o:aL}{w:ae}{b t:Nat}{c:Array Value}(h:w.heap[b]?=so (.cells c t))(hc:∀u∈c,Cl ak L0 o u):∃t n f,w.rowIs b t n f/\∀j,j<n->Cl ak L0 o (f j):=⟨t,_,_,HK h,λj hj=>by
 simp only[Array.getElem?_eq_getElem hj,bc];exact hc _ (iN hj)⟩
def UL{X:aL->aY->ae->Prop}{fn:FuncId}{ops:Array Oper}{l:List Nat}{Q:Exit->Act->aL->ae->Prop}{a:Act}{o o':aL}{w:ae}(e:o=o')(h:dK X fn ops l Q a o' w):dK X fn ops l Q a o w:=by
 subst e;exact h
def ahead(N1 Rr Fl:Nat):List vS :=
 let r:iF:=⟨⟨#[99]⟩,1,[⟨#[97]⟩,⟨#[97]⟩],so ⟨N1,0,we⟩,2,N1,0⟩
 [⟨2,0,0,⟨#[]⟩,⟨#[]⟩,so ⟨Rr,0,we⟩,Rr,0,1,[r],so ⟨Fl,0,we⟩,Fl,0,1,[(⟨#[97]⟩,⟨#[120]⟩)]⟩,
 ⟨3,0,0,⟨#[]⟩,⟨#[]⟩,so ⟨Rr,0,we⟩,Rr,0,1,[r],we,0,0,0,[]⟩,
 ⟨4,0,0,⟨#[97]⟩,⟨#[121]⟩,we,0,0,0,[],we,0,0,0,[]⟩,
 ⟨6,0,0,⟨#[]⟩,⟨#[]⟩,we,0,0,0,[],we,0,0,0,[]⟩]
section
variable {Fin:br}{o:aL}{w:ae}{p:Option Addr}{b off c:Nat}{xs:List vS}
structure ae2(Fin:br)(o:aL)(w:ae)(xs:List vS)(wb g cap:Nat)(ys:List vS)(oF:aL)(A4:Nat)(w6:ae):Prop where
 bS:bJ ak L0 oF w6
 up:∀b,o b->oF b
 olds:fl w w6
 wbe:wb=w.heap.size/\wb<A4/\A4<=g/\g<w6.heap.size
 aow:∃N1 Rr Fl,ys=ahead N1 Rr Fl++xs
 wc:WC oF w6 wb w6.heap.size (.slice we 0 0) []
 cells:∀i (h:i<ys.length) j,j<7->w6.cell? ⟨g,i*7+j,we⟩=ys[i].cells[j]?
 first:∀x,ys[0]?=so x->Bm Fin oF w6 x
def Xq[Payload](hF:bJ ak L0 o w)(hT:nC w)(K5:jM w)(hS:vT Fin o w p b off c xs):
  bC ak (XB ak Fin 0) 12 #[.slice p xs.length c,.int .i64 2] o w λr o' w'=>r=.bool true/\fl w w':=by
 have W:=bZ (P:=ak) (Fin:=Fin) (d:=0);have jE:=hS.qt;have g4:ak.globals.size=4:=ah;have H3:1<w.heap.size:=by have:=hF.size;rw[g4]at this;omega
 refine bt W func12 aG ?_;walk_nrmf Tryz.f12;refine aD ?_;refine eu rfl aG rfl (.cells #[.slice we 0 0,.slice we 0 0,.slice we 0 0] 78) (λn=>.pointer (so ⟨n,0,we⟩)) (λw1=>by first|(simp[go_sem,Act.eval];done)|(simp[go_sem,Act.eval];rfl)) (λw1=>by first|(simp[go_sem,Act.eval];done)|(simp[go_sem,Act.eval];rfl)) ?_;have z1:Hid ((w.alloc (.cells #[.slice we 0 0,.slice we 0 0,.slice we 0 0] 78)).heap.size=w.heap.size+1):=by show _=_;simp
 have O1:=fl.alloc w (.cells #[.slice we 0 0,.slice we 0 0,.slice we 0 0] 78);have k1:(w.alloc (.cells #[.slice we 0 0,.slice we 0 0,.slice we 0 0] 78)).heap[w.heap.size]?=_:=dz _ _;generalize w.alloc (.cells #[.slice we 0 0,.slice we 0 0,.slice we 0 0] 78)=w1 at *;generalize hwb:w.heap.size=wb at *;have hwb:Hid (_=_):=hwb;refine aD ?_;refine eu rfl aG rfl (.cells #[.string ⟨#[97]⟩,.string ⟨#[97]⟩] 9) (λn=>.slice (so ⟨n,0,we⟩) 2 2) (λw1=>by first|(simp[go_sem,Act.eval];done)|(simp[go_sem,Act.eval];rfl)) (λw1=>by first|(simp[go_sem,Act.eval];done)|(simp[go_sem,Act.eval];rfl)) ?_;have z2:Hid ((w1.alloc (.cells #[.string ⟨#[97]⟩,.string ⟨#[97]⟩] 9)).heap.size=w1.heap.size+1):=by show _=_;simp
 have O2:=fl.alloc w1 (.cells #[.string ⟨#[97]⟩,.string ⟨#[97]⟩] 9);have k2:(w1.alloc (.cells #[.string ⟨#[97]⟩,.string ⟨#[97]⟩] 9)).heap[w1.heap.size]?=_:=dz _ _;generalize w1.alloc (.cells #[.string ⟨#[97]⟩,.string ⟨#[97]⟩] 9)=w2 at *;generalize WX:w1.heap.size=N1 at *;have WX:Hid (_=_):=WX;refine aD ?_;refine eu rfl aG rfl (.cells #[.string ⟨#[99]⟩,.int .i64 1,.slice (so ⟨N1,0,we⟩) 2 2] 42) (λn=>.slice (so ⟨n,0,we⟩) 1 1) (λw1=>by first|(simp[go_sem,Act.eval];done)|(simp[go_sem,Act.eval];rfl)) (λw1=>by first|(simp[go_sem,Act.eval];done)|(simp[go_sem,Act.eval];rfl)) ?_;have z3:Hid ((w2.alloc (.cells #[.string ⟨#[99]⟩,.int .i64 1,.slice (so ⟨N1,0,we⟩) 2 2] 42)).heap.size=w2.heap.size+1):=by show _=_;simp
 have O3:=fl.alloc w2 (.cells #[.string ⟨#[99]⟩,.int .i64 1,.slice (so ⟨N1,0,we⟩) 2 2] 42);have k3:(w2.alloc (.cells #[.string ⟨#[99]⟩,.int .i64 1,.slice (so ⟨N1,0,we⟩) 2 2] 42)).heap[w2.heap.size]?=_:=dz _ _;generalize w2.alloc (.cells #[.string ⟨#[99]⟩,.int .i64 1,.slice (so ⟨N1,0,we⟩) 2 2] 42)=w3 at *;generalize hRr:w2.heap.size=Rr at *;have hRr:Hid (_=_):=hRr;refine aD ?_;refine eu rfl aG rfl (.cells #[.string ⟨#[97]⟩,.string ⟨#[120]⟩] 44) (λn=>.slice (so ⟨n,0,we⟩) 1 1) (λw1=>by first|(simp[go_sem,Act.eval];done)|(simp[go_sem,Act.eval];rfl)) (λw1=>by first|(simp[go_sem,Act.eval];done)|(simp[go_sem,Act.eval];rfl)) ?_;have z4:Hid ((w3.alloc (.cells #[.string ⟨#[97]⟩,.string ⟨#[120]⟩] 44)).heap.size=w3.heap.size+1):=by show _=_;simp
 have O4:=fl.alloc w3 (.cells #[.string ⟨#[97]⟩,.string ⟨#[120]⟩] 44);have k4:(w3.alloc (.cells #[.string ⟨#[97]⟩,.string ⟨#[120]⟩] 44)).heap[w3.heap.size]?=_:=dz _ _;generalize w3.alloc (.cells #[.string ⟨#[97]⟩,.string ⟨#[120]⟩] 44)=w4 at *;generalize hFl:w3.heap.size=Fl at *;have hFl:Hid (_=_):=hFl;refine aD ?_;refine eu rfl aG rfl (.cells #[.int .i64 2,.int .i64 0,.int .i64 0,.string ⟨#[]⟩,.string ⟨#[]⟩,.slice (so ⟨Rr,0,we⟩) 1 1,.slice (so ⟨Fl,0,we⟩) 1 1,.int .i64 3,.int .i64 0,.int .i64 0,.string ⟨#[]⟩,.string ⟨#[]⟩,.slice (so ⟨Rr,0,we⟩) 1 1,.slice we 0 0,.int .i64 4,.int .i64 0,.int .i64 0,.string ⟨#[97]⟩,.string ⟨#[121]⟩,.slice we 0 0,.slice we 0 0,.int .i64 6,.int .i64 0,.int .i64 0,.string ⟨#[]⟩,.string ⟨#[]⟩,.slice we 0 0,.slice we 0 0] 80) (λn=>.slice (so ⟨n,0,we⟩) 4 4) (λw1=>by first|(simp[go_sem,Act.eval];done)|(simp[go_sem,Act.eval];rfl)) (λw1=>by first|(simp[go_sem,Act.eval];done)|(simp[go_sem,Act.eval];rfl)) ?_;have z5:Hid ((w4.alloc (.cells #[.int .i64 2,.int .i64 0,.int .i64 0,.string ⟨#[]⟩,.string ⟨#[]⟩,.slice (so ⟨Rr,0,we⟩) 1 1,.slice (so ⟨Fl,0,we⟩) 1 1,.int .i64 3,.int .i64 0,.int .i64 0,.string ⟨#[]⟩,.string ⟨#[]⟩,.slice (so ⟨Rr,0,we⟩) 1 1,.slice we 0 0,.int .i64 4,.int .i64 0,.int .i64 0,.string ⟨#[97]⟩,.string ⟨#[121]⟩,.slice we 0 0,.slice we 0 0,.int .i64 6,.int .i64 0,.int .i64 0,.string ⟨#[]⟩,.string ⟨#[]⟩,.slice we 0 0,.slice we 0 0] 80)).heap.size=w4.heap.size+1):=by show _=_;simp
 have O5:=fl.alloc w4 (.cells #[.int .i64 2,.int .i64 0,.int .i64 0,.string ⟨#[]⟩,.string ⟨#[]⟩,.slice (so ⟨Rr,0,we⟩) 1 1,.slice (so ⟨Fl,0,we⟩) 1 1,.int .i64 3,.int .i64 0,.int .i64 0,.string ⟨#[]⟩,.string ⟨#[]⟩,.slice (so ⟨Rr,0,we⟩) 1 1,.slice we 0 0,.int .i64 4,.int .i64 0,.int .i64 0,.string ⟨#[97]⟩,.string ⟨#[121]⟩,.slice we 0 0,.slice we 0 0,.int .i64 6,.int .i64 0,.int .i64 0,.string ⟨#[]⟩,.string ⟨#[]⟩,.slice we 0 0,.slice we 0 0] 80);have k5:(w4.alloc (.cells #[.int .i64 2,.int .i64 0,.int .i64 0,.string ⟨#[]⟩,.string ⟨#[]⟩,.slice (so ⟨Rr,0,we⟩) 1 1,.slice (so ⟨Fl,0,we⟩) 1 1,.int .i64 3,.int .i64 0,.int .i64 0,.string ⟨#[]⟩,.string ⟨#[]⟩,.slice (so ⟨Rr,0,we⟩) 1 1,.slice we 0 0,.int .i64 4,.int .i64 0,.int .i64 0,.string ⟨#[97]⟩,.string ⟨#[121]⟩,.slice we 0 0,.slice we 0 0,.int .i64 6,.int .i64 0,.int .i64 0,.string ⟨#[]⟩,.string ⟨#[]⟩,.slice we 0 0,.slice we 0 0] 80)).heap[w4.heap.size]?=_:=dz _ _;generalize w4.alloc (.cells #[.int .i64 2,.int .i64 0,.int .i64 0,.string ⟨#[]⟩,.string ⟨#[]⟩,.slice (so ⟨Rr,0,we⟩) 1 1,.slice (so ⟨Fl,0,we⟩) 1 1,.int .i64 3,.int .i64 0,.int .i64 0,.string ⟨#[]⟩,.string ⟨#[]⟩,.slice (so ⟨Rr,0,we⟩) 1 1,.slice we 0 0,.int .i64 4,.int .i64 0,.int .i64 0,.string ⟨#[97]⟩,.string ⟨#[121]⟩,.slice we 0 0,.slice we 0 0,.int .i64 6,.int .i64 0,.int .i64 0,.string ⟨#[]⟩,.string ⟨#[]⟩,.slice we 0 0,.slice we 0 0] 80)=w5 at *;generalize U3:w4.heap.size=A4 at *;have U3:Hid (_=_):=U3;refine aD ?_;have hwb:w.heap.size=wb:=hwb;have WX:w1.heap.size=N1:=WX;have hRr:w2.heap.size=Rr:=hRr;have hFl:w3.heap.size=Fl:=hFl;have U3:w4.heap.size=A4:=U3;have z1:N1=wb+1:=z1;have z2:Rr=N1+1:=z2;have z3:Fl=Rr+1:=z3;have z4:A4=Fl+1:=z4;have z5:w5.heap.size=A4+1:=z5;have O14:fl w w4:=((O1.trans O2).trans O3).trans O4;have O15:=O14.trans O5;refine UL (o':=Go.Ren.grow o w w5) (by
  funext b;simp only[Go.Ren.grow,eq_iff_iff];constructor
  ·rintro(((((h|h)|h)|h)|h)|h)
   ·exact .inl h
   all_goals exact .inr ⟨aa,aa⟩
  ·rintro(h|⟨h1,h2⟩)
   ·exact .inl (.inl (.inl (.inl (.inl h))))
   ·have:b=wb\/b=N1\/b=Rr\/b=Fl\/b=A4:=aa;rcases this with h|h|h|h|h
    ·exact .inl (.inl (.inl (.inl (.inr h))))
    ·exact .inl (.inl (.inl (.inr h)))
    ·exact .inl (.inl (.inr h))
    ·exact .inl (.inr h)
    ·exact .inr h) ?_
 have kwb:w4.heap[wb]?=_:=(O4.same wb aa).trans ((O3.same wb aa).trans ((O2.same wb aa).trans k1));have kN1:w4.heap[N1]?=_:=(O4.same N1 aa).trans ((O3.same N1 aa).trans k2);have kRr:w4.heap[Rr]?=_:=(O4.same Rr aa).trans k3;have og:∀b,wb<=b->b<A4->Go.Ren.grow o w w4 b:=λb h1 h2=>.inr ⟨aa,aa⟩;have BF:bJ ak L0 (Go.Ren.grow o w w4) w4:=DS hF O14 λb h1 h2=>by
  have:b=wb\/b=N1\/b=Rr\/b=Fl:=aa;rcases this with rfl|rfl|rfl|rfl
  ·exact tM kwb λu hu=>by simp at hu;rw[hu];exact nR
  ·exact tM kN1 λu hu=>by simp at hu;rw[hu];exact dH
  ·refine tM kRr λu hu=>?_;simp at hu;rcases hu with rfl|rfl|rfl
   ·exact dH
   ·exact lG
   ·exact eK (og N1 aa aa)
  ·refine tM k4 λu hu=>?_;simp at hu;rcases hu with rfl|rfl<;>exact dH
 have YB:∀b,b<A4->w5.heap[b]?=w4.heap[b]?:=λb hb=>O5.same b aa;have Wo:=λn=>NG (w:=w5.at n) (ys:=ahead N1 Rr Fl) (xs:=xs) (p:=p) (b:=b) (off:=off) (c:=c) (ty:=22) k5 rfl (show A4<w5.heap.size by omega) jE (λq=>(hS.ptr q).1) (λi hi j u hu=>(cell_of (O15.same b (hS.ptr (lU hi)).2.2)).trans (hS.at_ i hi j u hu));refine UK rfl aG rfl λn=>?_;obtain⟨w6,g,cap,r1,hz6,Ld,RP,HQ,Bs,nT,jg⟩:=Wo n;refine⟨.slice (so ⟨g,0,we⟩) (4+xs.length) cap,w6,?_,hz6,Ld,λx hx=>?_,?_⟩
 ·exact j0 (.tmp 24) (.tmp 25) 22 rfl ax ax r1
 ·rw[events_append_op (P:=ak) (.tmp 24) (.tmp 25) 22 rfl (v:=.slice (so ⟨A4,0,we⟩) 4 4) (xv:=.slice p xs.length c) ax ax]at hx;rcases jg x hx with⟨ad,wt,sy,e,h⟩|h
  ·refine .inl ⟨ad,wt,sy,e,?_⟩;rcases h with h|⟨h0,h⟩
   ·rw[h];exact .inl (.inl (.inr ⟨aa,aa⟩))
   ·rw[h];exact .inr (hS.ptr h0).2.1
  ·exact .inr h
 have DZ:∀b,b<A4->w6.heap[b]?=w4.heap[b]?:=λb hb=>(RP b hb).trans (YB b hb);have aox:w5.heap.size<=w6.heap.size:=hz6;have O6:fl w w6:=⟨aa,λb hb=>(DZ b aa).trans (O14.same b hb)⟩;have O46:fl w4 w6:=⟨aa,λb hb=>DZ b aa⟩;have BG:=O46.bS BF;have ae6:=(DZ wb aa).trans kwb;have ae7:=(DZ N1 aa).trans kN1;have ae8:=(DZ Rr aa).trans kRr;have ae9:=(DZ Fl aa).trans k4;have hB:ae2 Fin o w xs wb g cap (ahead N1 Rr Fl++xs) (Go.Ren.grow o w w4) A4 w6:=by
  refine⟨BG,λb h=>.inl h,O6,⟨hwb.symm,aa,HQ,Bs⟩,⟨N1,Rr,Fl,rfl⟩,⟨og wb (af _) aa,aa,ae6,jy.nil _ _ _ _ _ (af _),λk h=>by simp at h,rfl⟩,nT,λx hx=>?_⟩;simp[ahead]at hx;subst hx;have lRr:Rr<w6.heap.size:=aa;have lFl:Fl<w6.heap.size:=aa;have lN1:N1<w6.heap.size:=aa;refine⟨⟨λ_=>⟨rfl,.inl (og Rr aa aa),lRr⟩,λi hi=>?_,λl hl=>?_,aj,λl hl=>?_⟩,⟨λ_=>⟨rfl,.inl (og Fl aa aa),lFl⟩,λi hi=>?_,aj,λf hf=>?_⟩,(λq=>by cases q),(λq=>by cases q),λl hl q=>?_⟩
  ·obtain rfl:i=0:=by simp at hi;omega
   obtain⟨c0,c1,c2,-⟩:=ki ae8;exact⟨by simpa using c0,by simpa using c1,by simpa using c2⟩
  ·simp at hl;subst hl;obtain⟨c0,c1,-⟩:=lI ae7;refine⟨λ_=>⟨rfl,.inl (og N1 aa aa),lN1⟩,λj hj=>?_⟩;simp at hj;have:j=0\/j=1:=aa;rcases this with rfl|rfl
   ·simpa using c0
   ·simpa using c1
  ·simp at hl;subst hl;exact⟨(by show(⟨#[99]⟩:ag).size<=9223372036854775807;decide),aj,λx hx=>by simp at hx;subst hx;decide⟩
  ·obtain rfl:i=0:=by simp at hi;omega
   obtain⟨c0,c1,-⟩:=lI ae9;exact⟨by simpa using c0,by simpa using c1⟩
  ·simp at hf;subst hf;exact⟨iG,iG⟩
  ·simp at hl;subst hl;cases q
 have hEo:Go.Ren.grow (Go.Ren.grow o w w5) (w5.at n) w6=λb=>Go.Ren.grow o w w4 b\/(A4<=b/\b<w6.heap.size):=by
  funext b;simp only[Go.Ren.grow,eq_iff_iff];have e5:(w5.at n).heap.size=w5.heap.size:=rfl;rw[e5];constructor
  ·rintro((h|h)|h)
   ·exact .inl (.inl h)
   ·by_cases q:b<A4
    ·exact .inl (.inr ⟨h.1,aa⟩)
    ·exact .inr ⟨aa,aa⟩
   ·exact .inr ⟨aa,h.2⟩
  ·rintro((h|h)|h)
   ·exact .inl (.inl h)
   ·exact .inl (.inr ⟨h.1,aa⟩)
   ·by_cases q:b<w5.heap.size
    ·exact .inl (.inr ⟨aa,q⟩)
    ·exact .inr ⟨aa,h.2⟩
 refine UL (by exact hEo) ?_;clear hEo jg nT RP Wo Ld r1 BF BG O46 O6 O14 O15 O1 O2 O3 O4 O5 k1 k2 k3 k4 k5 kwb kN1 kRr ae6 ae7 ae8 ae9 og YB DZ WX hRr hFl;generalize hys:ahead N1 Rr Fl++xs=ys at *;generalize Go.Ren.grow o w w4=oF at *;have hyl:ys.length=4+xs.length:=by rw[<- hys];simp[ahead];omega
 refine aD ?_;obtain⟨-,hbA,hAg,Qp⟩:=hB.wbe;refine dQ W (λm a o' wi=>∃k oi v vs,m+k=4+xs.length/\a.tmps.size=68/\a.defers=[]/\a.eval (.tmp 1)=.int .i64 2/\a.eval (.tmp 5)=.pointer (so ⟨wb,0,we⟩)/\a.eval (.tmp 7)=.slice (so ⟨g,0,we⟩) (4+xs.length) cap/\a.eval (.tmp 8)=.int .i64 (k:Nat)/\o'=(λb=>oi b\/(A4<=b/\b<w6.heap.size))/\bJ ak L0 oi wi/\(∀b,oF b->oi b)/\fl w wi/\w6.heap.size<=wi.heap.size/\wi.heap[g]?=w6.heap[g]?/\WC oi wi wb w6.heap.size v vs/\vs.length<=4*k/\(k=0->oi=oF/\wi=w6)) (N:=4+xs.length) ⟨0,oF,.slice we 0 0,[],aj,rfl,rfl,ax,ax,ax,ax,rfl,hB.bS,λ_ h=>h,hB.olds,af _,rfl,hB.wc,aj,λ_=>⟨rfl,rfl⟩⟩ ?_;rintro m a o7 w7 ⟨k,oi,v,vs,lP,ew,iu,i1,i5,i7,i8,eo,Ly,pB,Xr,hzi,NY,hW,Wf,NH⟩;subst eo;obtain⟨gs,rfl⟩:=eQ ew iu;clear ew iu;simp only[List.range,List.range.loop,aB,aJ]at i1 i5 i7 i8 |-;simp[Act.eval]at i1 i5 i7 i8;simp only[i1,i5,i7,i8];clear i1 i5 i7 i8;by_cases hk:k<4+xs.length;rotate_left
 ·have rq:¬(k:Int)<4+(xs.length:Int):=aa;clear hB hW Ly NH;refine aD ?_;exact⟨.inr trivial,trivial,_,resultsC_tmp (t:=4) aG _,ax,Xr⟩
 have rq:(k:Int)<4+(xs.length:Int):=aa;have om:IntKind.i64.wrap ((k:Int)+1)=((k+1:Nat):Int):=by rw[IntKind.wrap_i64]<;>omega
 have hky:k<ys.length:=aa;have hc:=λj hj=>(cell_of NY).trans (hB.cells k hky j hj);have rH:ys[k].kind<=2->k=0\/ys[k]∈xs:=λh=>by
  subst hys;by_cases q:k<4
  ·have:k=0\/k=1\/k=2\/k=3:=aa;rcases this with rfl|rfl|rfl|rfl
   ·exact .inl rfl
   all_goals simp[ahead]at h
  ·refine .inr ?_;rw[ky (by simp[ahead];omega)];exact aA _
 have iS:ys[k].kind<=2->Bm Fin oi w7 ys[k]:=λh=>by
  rcases rH h with rfl|q
  ·obtain⟨rfl,rfl⟩:=NH rfl;exact hB.first _ (au hky)
  ·exact(hS.ok _ q).keep (λb hb=>pB b (hB.up b hb)) Xr
 have hTi:=hT.Ym (Xr.same 1 aa);have YC:jM w7:=λq hq=>(cell_of (Xr.same 1 aa)).trans (K5 q hq);have AV:(vs.length+4)*24<=140737488355328:=aa;have iW:=λ(gd:br) (hl:∀b,nE Fin b->nE gd b) (XJ:ys[k].kind<=2)=>aa2 (Fin:=gd) Ly hTi YC hW AV ((iS XJ).zq hl) XJ;clear iS rH hTi YC NH;generalize ys[k]=y at *;obtain⟨kd,on,nn,nm,tx,rp,rb,afa,rc,rls,fp,fb,rP,fc,ffs⟩:=y;have c0:w7.cell? ⟨g,k*7,we⟩=so (.int .i64 kd):=hc 0 aa;have c1:w7.cell? ⟨g,k*7+1,we⟩=so (.int .i64 on):=hc 1 aa;have c2:w7.cell? ⟨g,k*7+2,we⟩=so (.int .i64 nn):=hc 2 aa;have c3:w7.cell? ⟨g,k*7+3,we⟩=so (.string nm):=hc 3 aa;have c4:w7.cell? ⟨g,k*7+4,we⟩=so (.string tx):=hc 4 aa;have c5:w7.cell? ⟨g,k*7+5,we⟩=so (.slice rp rls.length rc):=hc 5 aa;have c6:w7.cell? ⟨g,k*7+6,we⟩=so (.slice fp ffs.length fc):=hc 6 aa;have hRg:∀oj:aL,wx Fin (λb=>oj b\/(A4<=b/\b<w6.heap.size)) g:=λoj=>.inl (.inr ⟨hAg,Qp⟩);have hBF:=hB.up;clear hc hB;simp only at iW;by_cases rG:2<kd
 ·clear iW c1 c2 c3 c4 c5 c6;refine aD ?_;refine kn (hRg _) c0 ?_;refine aD ?_;exact⟨m-1,aa,k+1,oi,v,vs,aa,bQ,bQ,ax,ax,ax,by simp[Act.eval,om],rfl,Ly,pB,Xr,hzi,NY,hW,aa,λq=>aa⟩
 have iW:=λgd hl=>iW gd hl aa;unfold vS.cells at iW;simp only at iW;refine aD ?_;refine kn (hRg _) c0 ?_;refine aD ?_;refine eZ (hRg _) rfl aG rfl (v:=.agg #[.int .i64 kd,.int .i64 on,.int .i64 nn,.string nm,.string tx,.slice rp rls.length rc,.slice fp ffs.length fc]) (λwl bu=>by simp[go_sem,bu.cell.trans c0,bu.cell.trans c1,bu.cell.trans c2,bu.cell.trans c3,bu.cell.trans c4,bu.cell.trans c5,bu.cell.trans c6]) (λwl bu y hy=>?_) ?_
 ·simp[go_sem,bu.cell.trans c0,bu.cell.trans c1,bu.cell.trans c2,bu.cell.trans c3,bu.cell.trans c4,bu.cell.trans c5,bu.cell.trans c6]at hy;rcases hy with rfl|rfl|rfl|rfl|rfl|rfl|rfl<;>exact⟨_,_,_,rfl,rfl⟩
 walk_nrm;refine dq func30 (bC.frame (λb=>A4<=b/\b<w6.heap.size) (λb hb=>aa) (λgd AX=>iW gd λb k=>(AX b).2 (.inr k))) ?_;rintro v8 o8' w8 ⟨o8,rfl,rfl,hP⟩;obtain⟨v',UE,hW',aiX⟩:=hP.ex;have hz8:=hP.bA.size;have hvb:=hW.row.lt;have hO8:fl w w8:=⟨by have:=Xr.size;omega,λb hb=>(hP.bA.same b (by have:=Xr.size;omega) (λq=>by
  rcases q with q|q
  ·omega
  ·have:=(hvb b q).1;omega)).trans (Xr.same b hb)⟩
 have hg8:w8.heap[g]?=w6.heap[g]?:=(hP.bA.same g aa (λq=>by
  rcases q with q|q
  ·omega
  ·have:=(hvb g q).1;omega)).trans NY
 have hF8:=hP.bA.bS;have up8:∀b,oF b->o8 b:=λb hb=>hP.bA.more b (pB b hb);have ow8:wx Fin (λb=>o8 b\/(A4<=b/\b<w6.heap.size)) wb:=.inl (.inl hW'.own);have l0:=(ki hW'.blk).1;have HT:=λ(gd:br)=>Xn (Fin:=gd) hF8 hW' aa;clear iW hP c0 c1 c2 c3 c4 c5 c6 NY Xr hW Ly hvb;walk_nrm;have Ex:∀(o9:aL) (w9:ae),gZ o8 w8 o9 w9->bJ ak L0 o9 w9/\(∀b,oF b->o9 b)/\fl w w9/\w6.heap.size<=w9.heap.size/\w9.heap[g]?=w6.heap[g]?/\WC o9 w9 wb w6.heap.size v' UE:=λo9 w9 G=>⟨G.bA.bS,λb hb=>G.bA.more b (up8 b hb),hO8.trans G.olds,by have:=G.bA.size;omega,(G.bA.same g aa id).trans hg8,hW'.keep G.bA.more G.bA.size (λb hb=>G.bA.same b (hF8.lt hb) id) hF8⟩;clear hW' hO8 hg8;by_cases Lc:k=0
 ·subst Lc;refine aD ?_;refine kn ow8 l0 ?_;refine aD ?_;refine dq func31 (bC.frame (λb=>A4<=b/\b<w6.heap.size) (λb hb=>aa) (λgd AX=>HT gd)) ?_;rintro v9 o9' w9 ⟨o9,rfl,rfl,G9⟩;obtain⟨e1,e2,e3,e4,e5,e6⟩:=Ex o9 w9 G9;clear Ex HT G9;refine aD ?_;exact⟨m-1,aa,0+1,o9,v',UE,aa,bQ,bQ,ax,ax,ax,by simp[Act.eval];exact om,rfl,e1,e2,e3,e4,e5,e6,aa,λq=>aa⟩
 ·have hk1:0<k:=aa;refine aD ?_;refine kn ow8 l0 ?_;refine aD ?_;refine dq func31 (bC.frame (λb=>A4<=b/\b<w6.heap.size) (λb hb=>aa) (λgd AX=>HT gd)) ?_;rintro v9 o9' w9 ⟨o9,rfl,rfl,G9⟩;obtain⟨e1,e2,e3,e4,e5,e6⟩:=Ex o9 w9 G9;clear Ex HT G9;refine aD ?_;exact⟨m-1,aa,k+1,o9,v',UE,aa,bQ,bQ,ax,ax,ax,by simp[Act.eval,om],rfl,e1,e2,e3,e4,e5,e6,aa,λq=>aa⟩
end
end
section
open Go.ChangeShapes Go.WideShapes Go.Deep
def rF{H:Type}{P:Program}{e:TypeId}:∀{l:List (DataW H)} {d:DataW H} {x:Nat},d∈l->x∈d.weights P e->x∈DataW.weightsAll P e l
 |a::l,d,x,hd,hx=>by
  rw[DataW.weightsAll];rcases bq.1 hd with rfl|hd
  ·exact bG.2 (.inl hx)
  ·exact bG.2 (.inr (rF hd hx))
section
variable {H:Type}{enc:TypeId×Value->H}{W:ae}{Fin:br}
def mm{a:Addr}{v:Value}(h:W.cell? (a.add 0)=so v):a=⟨a.block,a.off,we⟩/\a.block<W.heap.size:=by
 have hs:=World.cell?_spot h;have hb:=World.block_lt_of_cell? W _ h;rw[block_add]at hb;obtain⟨b1,o1,s1⟩:=a;have:s1=none:=by simpa[Addr.add] using hs
 subst this;exact⟨rfl,hb⟩
def NI{fuel:Nat}{v:Value}{x:DataW H×List MemPlace}(h:DataW.trod enc ak W 0 (λ_=>true) true fuel 40 [v]=so x)(hw:∀y∈x.1.weights ak 40,y<=reachBytes):
  ∃p b off c ts,v=.slice p (List.length ts) c/\(ts≠[]->p=so ⟨b,off,we⟩/\b<W.heap.size)/\(∀j (h:j<ts.length),W.cell? ⟨b,off+j,we⟩=so (.string ts[j]))/\ts.length<=8796093021952/\(∀y∈ts,y.size<=9223372036854775807)/\(p=we->c=0):=by
 have by_:ak.bytesOf 9=16:=ah;rcases open_strings underlying40 underlying9 ah h with⟨e,-⟩|⟨a,len,cap,ss,e,-,hl,hm,hz,hx,hc,hs⟩
 ·simp only[bT,and_true]at e;exact⟨we,0,0,0,[],e,λq=>absurd rfl q,λj hj=>by simp at hj,aj,aj,λ_=>rfl⟩
 simp only[bT,and_true]at e;simp only[if_true]at hz;have hlz:(ss.take len).length=len:=eW;have jE:len*16<=reachBytes:=by
  have:=hw ((len+(cap-len))*16) (by
   rw[hx];simp only[DataW.weights,underlying40,by_,strs,List.length_map,List.length_take,List.length_drop];rw[hz,Nat.min_eq_left hl];exact iE)
  exact aS (eM _ aa) this
 simp only[reachBytes]at jE;refine⟨so a,a.block,a.off,cap,ss.take len,by rw[hlz];exact e,λq=>?_,λj hj=>?_,by rw[hlz];omega,λy hy=>by have:=hs y (List.mem_of_mem_take hy);simpa[maxLen] using this,λq=>by cases q⟩
 ·have h0:0<len:=by
   rcases bh len with h0|h0
   ·subst h0;exact absurd aj q
   ·exact h0
  obtain⟨e1,e2⟩:=mm (hc 0 aa);exact⟨by rw[<- e1],e2⟩
 ·rw[hlz]at hj;have hcj:=hc j aa;obtain⟨e1,-⟩:=mm (hc 0 aa);rw[e1,zh]at hcj;rw[hcj,eN,bm,au aa];rfl
structure afb(W:ae)(a:Addr)(i:Nat)(l:iF):Prop where
 c0:W.cell? (a.add (i*3))=so (.string l.out)
 c1:W.cell? (a.add (i*3+1))=so (.int .i64 l.eT)
 c2:W.cell? (a.add (i*3+2))=so (.slice l.sa l.ins.length l.sc)
 ptr:l.ins≠[]->l.sa=so ⟨l.ib,l.Nc,we⟩/\l.ib<W.heap.size
 ins:∀j (h:j<l.ins.length),W.cell? ⟨l.ib,l.Nc+j,we⟩=so (.string l.ins[j])
 qt:l.out.size<=9223372036854775807/\l.ins.length<=8796093021952/\∀x∈l.ins,x.size<=9223372036854775807
 nil:l.sa=we->l.sc=0
def NJ{fuel:Nat}{v:Value}{x:DataW H×List MemPlace}(h:DataW.trod enc ak W 0 (λ_=>true) true fuel 35 [v]=so x)(hw:∀y∈x.1.weights ak 35,y<=reachBytes):
  ∃p b off c ls,v=.slice p (List.length ls) c/\kp Fin (λb=>b<W.heap.size) W p b off ls/\(p=we->c=0)/\∀l∈ls,l.sa=we->l.sc=0:=by
 haveI:Inhabited iF:=⟨⟨⟨#[]⟩,0,[],we,0,0,0⟩⟩
 have ce:ak.cellsOf 42=3:=ah;have c9:ak.cellsOf 9=1:=ah;have c3:ak.cellsOf 3=1:=ah;have c40:ak.cellsOf 40=1:=ah;have by_:ak.bytesOf 42=48:=ah;rcases open_slice underlying35 h with⟨e,-⟩|⟨a,len,cap,m,n,D,Pl,e,-,hl,hm,YD,hx,eP⟩
 ·simp only[bT,and_true]at e;exact⟨we,0,0,0,[],e,⟨λq=>absurd rfl q,λi hi=>by simp at hi,λl hl=>by simp at hl,aj,λl hl=>by simp at hl⟩,λ_=>rfl,λl hl=>by simp at hl⟩
 simp only[bT,and_true]at e;simp only[if_true]at YD;subst YD;have hwx:∀i,i<len->∀y∈(D i).weights ak 42,y<=reachBytes:=λi hi y hy=>hw y (by
  rw[hx];simp only[DataW.weights,underlying35];exact bY _ (bG.2 (.inl (rF (aV.2 ⟨i,bU.2 hi,rfl⟩) hy))))
 have each:∀i,i<len->∃l,afb W a i l:=by
  intro i hi;obtain⟨uI,h1,h2⟩:=eP i aa;rw[ce]at h1;obtain⟨_,hlen,ji⟩:=World.cells?_some h1;have KP:=hwx i hi;obtain⟨ys,k,hk,R2,_,Yg,hf⟩:=DataW.trod_struct underlying42 h2;rw[(jP R2).1]at KP
  match uI,hlen with
  | [v0,v1,v2],_ =>
   have g0:=hf 0 _ rfl;have g1:=hf 1 _ rfl;have g2:=hf 2 _ rfl;have e0:=ji 0 aa;have e1:=ji 1 aa;have e2:=ji 2 aa;rw[add_add]at e0 e1 e2
   match ys,Yg with
   | [y0,y1,y2],_ =>
    simp[c3,c9,c40]at g0 g1 g2;obtain⟨n0,k0,-,w0⟩:=DataW.trod_string underlying9 g0;obtain⟨n1,k1,-,w1⟩:=DataW.trod_int underlying3 g1;obtain⟨p2,b2,ai4,Yj,ts,k2,q1,q2,q3,q4,q5⟩:=NI g2 (λy hy=>KP y (by
     simp only[DataW.weights,underlying42,aB,aJ,DataW.weightsEach];simp[hy]))
    simp only[bT,and_true]at k0 k1;subst k0 k1 k2;exact⟨⟨n0,n1,ts,p2,Yj,b2,ai4⟩,by simpa using e0,by simpa using e1,by simpa using e2,q1,q2,⟨by simpa[maxLen] using w0,q3,q4⟩,q5⟩
 obtain⟨q,hq⟩:=choose_lt each;have hlen:((List.range len).map q).length=len:=aj;have jE:len*48<=reachBytes:=by
  have:=hw ((len+(m-len))*48) (by
   rw[hx];simp only[DataW.weights,underlying35,by_,List.length_map,List.length_range];exact iE)
  exact aS (eM _ aa) this
 simp only[reachBytes]at jE;have rH:∀l∈(List.range len).map q,∃i,afb W a i l:=λl hl=>by
  obtain⟨i,hi,rfl⟩:=aV.1 hl;exact⟨i,hq i (bU.1 hi)⟩
 refine⟨so a,a.block,a.off,m,(List.range len).map q,by rw[hlen];exact e,⟨λfu=>?_,λi hi=>?_,λl hl=>?_,by rw[hlen];omega,λl hl=>?_⟩,(λq=>by cases q),λl hl=>?_⟩
 ·have h0:0<len:=by
   rcases bh len with h0|h0
   ·subst h0;exact absurd aj fu
   ·exact h0
  obtain⟨e1,e2⟩:=mm (by simpa using(hq 0 h0).c0);exact⟨by rw[<- e1],.inl e2,e2⟩
 ·rw[hlen]at hi;have Se:=hq i hi;obtain⟨e1,-⟩:=mm (by simpa using(hq 0 aa).c0);have c0:=Se.c0;have c1:=Se.c1;have c2:=Se.c2;rw[e1,zh]at c0 c1 c2;simp only[List.getElem_map,List.getElem_range];exact⟨c0,by rw[dG];exact c1,by rw[dG];exact c2⟩
 ·obtain⟨i,hi⟩:=rH l hl;exact⟨λk=>⟨(hi.ptr k).1,.inl (hi.ptr k).2,(hi.ptr k).2⟩,hi.ins⟩
 ·obtain⟨i,hi⟩:=rH l hl;exact hi.qt
 ·obtain⟨i,hi⟩:=rH l hl;exact hi.nil
def K7{fuel:Nat}{v:Value}{x:DataW H×List MemPlace}(h:DataW.trod enc ak W 0 (λ_=>true) true fuel 37 [v]=so x)(hw:∀y∈x.1.weights ak 37,y<=reachBytes):
  ∃p b off c fs,v=.slice p (List.length fs) c/\kB Fin (λb=>b<W.heap.size) W p b off fs/\(p=we->c=0):=by
 have by_:ak.bytesOf 44=32:=ah;rcases open_slice_pairs underlying37 underlying44 ah rfl rfl ah ah h with⟨e,-⟩|⟨a,len,cap,m,n,V0,V1,D0,D1,P0,P1,e,-,hl,hm,YD,hx,eP⟩
 ·simp only[bT,and_true]at e;exact⟨we,0,0,0,[],e,⟨λq=>absurd rfl q,λi hi=>by simp at hi,aj,λf hf=>by simp at hf⟩,λ_=>rfl⟩
 simp only[bT,and_true]at e;simp only[if_true]at YD;subst YD;have each:∀i,i<len->∃f:ag×ag,W.cell? (a.add (i*2))=so (.string f.1)/\W.cell? (a.add (i*2+1))=so (.string f.2)/\f.1.size<=9223372036854775807/\f.2.size<=9223372036854775807:=by
  intro i hi;obtain⟨k0,k1,t0,t1⟩:=eP i aa;obtain⟨x0,ex0,-,w0⟩:=DataW.trod_string underlying9 t0;obtain⟨x1,ex1,-,w1⟩:=DataW.trod_string underlying9 t1;simp only[bT,and_true]at ex0 ex1;rw[ex0]at k0;rw[ex1]at k1;exact⟨(x0,x1),k0,k1,by simpa[maxLen] using w0,by simpa[maxLen] using w1⟩
 obtain⟨q,hq⟩:=choose_lt each;have hlen:((List.range len).map q).length=len:=aj;have jE:len*32<=reachBytes:=by
  have:=hw ((len+(m-len))*32) (by
   rw[hx];simp only[DataW.weights,underlying37,by_,List.length_map,List.length_range];exact iE)
  exact aS (eM _ aa) this
 simp only[reachBytes]at jE;refine⟨so a,a.block,a.off,m,(List.range len).map q,by rw[hlen];exact e,⟨λfu=>?_,λi hi=>?_,by rw[hlen];omega,λf hf=>?_⟩,λq=>by cases q⟩
 ·have h0:0<len:=by
   rcases bh len with h0|h0
   ·subst h0;exact absurd aj fu
   ·exact h0
  obtain⟨e1,e2⟩:=mm (by simpa using(hq 0 h0).1);exact⟨by rw[<- e1],.inl e2,e2⟩
 ·rw[hlen]at hi;obtain⟨c0,c1,-⟩:=hq i hi;obtain⟨e1,-⟩:=mm (by simpa using(hq 0 aa).1);rw[e1,zh]at c0 c1;simp only[List.getElem_map,List.getElem_range];exact⟨c0,by rw[dG];exact c1⟩
 ·obtain⟨i,hi,rfl⟩:=aV.1 hf;exact(hq i (bU.1 hi)).2.2
structure aa6(Fin:br)(W:ae)(a:Addr)(i:Nat)(x:vS):Prop where
 at_:∀j u,x.cells[j]?=so u->W.cell? (a.add (i*7+j))=so u
 ok:Bm Fin (λb=>b<W.heap.size) W x
def UM{v:Value}{d:DataW H}{ps:List MemPlace}{base:Nat}(hv:Value.okWide ak W .any base 22 v)(h:DataW.Trod enc ak W 0 (λ_=>true) true 22 v d ps)(hw:∀x∈d.weights ak 22,x<=reachBytes)(Fin:br):
  ∃p b off c xs,v=.slice p (List.length xs) c/\(xs≠[]->p=so ⟨b,off,we⟩/\b<W.heap.size)/\(p=we->xs=[]/\c=0)/\(∀i (h:i<xs.length),aa6 Fin W ⟨b,off,we⟩ i xs[i])/\xs.length<=1353245080300:=by
 haveI:Inhabited vS:=⟨⟨0,0,0,⟨#[]⟩,⟨#[]⟩,we,0,0,0,[],we,0,0,0,[]⟩⟩
 obtain⟨a0,l0,cp0,rfl⟩:=Bg underlying22 hv;obtain⟨fuel,h⟩:=h;have hc:(Value.slice a0 l0 cp0).cells.toList=[.slice a0 l0 cp0]:=rfl;rw[hc]at h;have ce:ak.cellsOf 80=7:=ah;have c3:ak.cellsOf 3=1:=ah;have c9:ak.cellsOf 9=1:=ah;have c35:ak.cellsOf 35=1:=ah;have c37:ak.cellsOf 37=1:=ah;have by_:ak.bytesOf 80=104:=ah;rcases open_slice underlying22 h with⟨e,-⟩|⟨a,len,cap,m,n,D,Pl,e,-,hl,hm,YD,hx,eP⟩
 ·simp only[bT,Value.slice.injEq,and_true]at e;obtain⟨rfl,rfl,rfl⟩:=e;exact⟨we,0,0,0,[],rfl,λq=>absurd rfl q,λ_=>⟨rfl,rfl⟩,λi hi=>by simp at hi,aj⟩
 simp only[bT,Value.slice.injEq,and_true]at e;obtain⟨rfl,rfl,rfl⟩:=e;simp only[if_true]at YD;subst YD;have hwx:∀i,i<l0->∀y∈(D i).weights ak 80,y<=reachBytes:=λi hi y hy=>hw y (by
  rw[(jP hx).1];simp only[DataW.weights,underlying22];exact bY _ (bG.2 (.inl (rF (aV.2 ⟨i,bU.2 hi,rfl⟩) hy))))
 have each:∀i,i<l0->∃x:vS,aa6 Fin W a i x:=by
  intro i hi;obtain⟨uI,h1,h2⟩:=eP i aa;rw[ce]at h1;obtain⟨_,hlen,ji⟩:=World.cells?_some h1;have KP:=hwx i hi;obtain⟨ys,k,hk,R2,_,Yg,hf⟩:=DataW.trod_struct underlying80 h2;rw[(jP R2).1]at KP
  match uI,hlen with
  | [v0,v1,v2,v3,v4,v5,v6],_ =>
   have g0:=hf 0 _ rfl;have g1:=hf 1 _ rfl;have g2:=hf 2 _ rfl;have g3:=hf 3 _ rfl;have g4:=hf 4 _ rfl;have g5:=hf 5 _ rfl;have g6:=hf 6 _ rfl;have e0:=ji 0 aa;have e1:=ji 1 aa;have e2:=ji 2 aa;have e3:=ji 3 aa;have e4:=ji 4 aa;have e5:=ji 5 aa;have e6:=ji 6 aa;rw[add_add]at e0 e1 e2 e3 e4 e5 e6
   match ys,Yg with
   | [y0,y1,y2,y3,y4,y5,y6],_ =>
    simp[c3,c9,c35,c37]at g0 g1 g2 g3 g4 g5 g6;obtain⟨n0,k0,-,-⟩:=DataW.trod_int underlying3 g0;obtain⟨n1,k1,-,-⟩:=DataW.trod_int underlying3 g1;obtain⟨n2,k2,-,-⟩:=DataW.trod_int underlying3 g2;obtain⟨s3,k3,-,-⟩:=DataW.trod_string underlying9 g3;obtain⟨s4,k4,-,-⟩:=DataW.trod_string underlying9 g4;obtain⟨rp,rb,afa,rc,ls,k5,q1,q2,q3⟩:=NJ (Fin:=Fin) g5 (λy hy=>KP y (by
     simp only[DataW.weights,underlying80,aB,aJ,DataW.weightsEach];simp[hy]))
    obtain⟨fp,fb,rP,fc,fs,k6,q4,q5⟩:=K7 (Fin:=Fin) g6 (λy hy=>KP y (by
     simp only[DataW.weights,underlying80,aB,aJ,DataW.weightsEach];simp[hy]))
    simp only[bT,and_true]at k0 k1 k2 k3 k4;subst k0 k1 k2 k3 k4 k5 k6;refine⟨⟨n0,n1,n2,s3,s4,rp,rb,afa,rc,ls,fp,fb,rP,fc,fs⟩,λj u hj=>?_,q1,q4,q2,q5,q3⟩;have hj7:j<7:=by have:=(aI.1 hj).1;simpa[vS.cells] using this
    have:j=0\/j=1\/j=2\/j=3\/j=4\/j=5\/j=6:=aa;rcases this with rfl|rfl|rfl|rfl|rfl|rfl|rfl;all_goals
     simp[vS.cells]at hj;subst hj
     first|simpa using e0|simpa using e1|simpa using e2|simpa using e3|simpa using e4|simpa using e5|simpa using e6
 obtain⟨q,hq⟩:=choose_lt each;have hlen:((List.range l0).map q).length=l0:=aj;have jE:l0*104<=reachBytes:=by
  have:=hw ((l0+(m-l0))*104) (by
   rw[(jP hx).1];simp only[DataW.weights,underlying22,by_,List.length_map,List.length_range];exact iE)
  exact aS (eM _ aa) this
 simp only[reachBytes]at jE;have c7:∀x:vS,x.cells[0]?=so (.int .i64 x.kind):=λx=>rfl;refine⟨so a,a.block,a.off,m,(List.range l0).map q,by rw[hlen],λfu=>?_,(λq=>by cases q),λi hi=>?_,by rw[hlen];omega⟩
 ·have h0:0<l0:=by
   rcases bh l0 with h0|h0
   ·subst h0;exact absurd aj fu
   ·exact h0
  obtain⟨e1,e2⟩:=mm (by simpa using(hq 0 h0).at_ 0 _ (c7 _));exact⟨by rw[<- e1],e2⟩
 ·rw[hlen]at hi;obtain⟨e1,-⟩:=mm (by simpa using(hq 0 aa).at_ 0 _ (c7 _));rw[<- e1];simpa using hq i hi
def vT.of{o:aL}{p:Option Addr}{b off c:Nat}{xs:List vS}(hL:∀b,b<W.heap.size->nE Fin b)(h1:xs≠[]->p=so ⟨b,off,we⟩/\b<W.heap.size)(h0:p=we->xs=[]/\c=0)(h2:∀i (h:i<xs.length),aa6 Fin W ⟨b,off,we⟩ i xs[i])(h3:xs.length<=1353245080300):vT Fin o W p b off c xs:=by
 refine⟨λq=>⟨(h1 q).1,hL _ (h1 q).2,(h1 q).2⟩,h0,λi hi j u hu=>?_,λx hx=>?_,h3⟩
 ·have:=(h2 i hi).at_ j u hu;rwa[zh]at this
 ·obtain⟨i,hi,rfl⟩:=bB hx;obtain⟨r,f,n1,n2,n3⟩:=(h2 i hi).ok;exact⟨⟨λq=>⟨(r.ptr q).1,.inr (hL _ (r.ptr q).2.2),(r.ptr q).2.2⟩,r.at_,λl hl=>⟨λq=>⟨((r.ins l hl).1 q).1,.inr (hL _ ((r.ins l hl).1 q).2.2),((r.ins l hl).1 q).2.2⟩,(r.ins l hl).2⟩,r.qt⟩,⟨λq=>⟨(f.ptr q).1,.inr (hL _ (f.ptr q).2.2),(f.ptr q).2.2⟩,f.at_,f.qt⟩,n1,n2,n3⟩
end
end
section
open Go.ChangeShapes Go.WideShapes Go.Deep Go.RowKit Go.ConcM
def NK{W:ae}(hp:jM W)(tZ:W.ShapedOpen ak):nC W:=by
 have Oc:ak.globals.size=4:=ah;obtain⟨cs,e1,e2,-⟩:=tZ.1 1 (Array.replicate 20 (.int .u64 0)) 342 (by rw[Oc];omega) ah;have hz:cs.size=20:=by rw[e2];simp
 have HP:cs=(Lib.pow10Tab.map λz=>Value.int .u64 z).toArray:=by
  apply fC;intro q;by_cases hq:q<20
  ·have:=hp q hq;simp only[World.cell?,e1,Option.isSome_none,aT,if_false]at this;rw[this];simp[Lib.pow10Tab,hq]
  ·rw[bX aa,bX (by simp[Lib.pow10Tab];omega)]
 unfold nC Lib.TabIs World.var?;rw[show ak.globalNamed "internal/strconv.uint64pow10" = so 1 by kernel_rfl];simp only[Option.bind_some];rw[e1,HP]
def vq(f:FuncId)(fc:Func):Prop :=
 ∀(Fin:br) (o:aL) (w:ae),bJ ak L0 o w->jM w->nC w->∀(p:Option Addr) (b off c:Nat) (xs:List vS),vT Fin o w p b off c xs ->
  FV ak (XB ak Fin 0) f fc #[.slice p xs.length c] o w λv o' w'=>v=.bool true/\fl w w'
section
variable {H:Type}{enc:TypeId×Value->H}
def Rp{f:FuncId}{fc:Func}{s:ChangeSpec}(hf:ak.funcs[f]?=so fc)(hi:ak.inits.idxOf? f=we)(hp:fc.params=#[22])(hr:fc.resultTypes=#[4])(hv:s.vars=[])(hs:∀(H:Type) (d1:DataW H),s.fn H [d1]={results:=[.lit (.bool true)],args:=[d1]})(hb:vq f fc)(W:ae)(base:Nat)(args:Array Value)(ds gs:List (DataW H))(before:List MemPlace)(qP:∀(j:Nat) t v,fc.params[j]?=so t->args[j]?=so v->Value.okWide ak W .any base t v)(hW:DataW.Whole enc ak fc.params.toList s.vars false W args.toList ds gs before)(hwt:(DataW.weightsEach ak (fc.params.toList++s.plain.varTypes ak) (ds++gs)).all (·<=reachBytes)=true)(afc:laidMetH ak T3 W)(tZ:W.ShapedOpen ak):
  ∃M last o w' t',runNT ak (M+1) (solo (G (Frame.enter ak f args .normal) []) W) #[]=(.ended o w',t')/\runN ak M (solo (G (Frame.enter ak f args .normal) []) W)=.next last /\
   step ak last=.ended o w'/\Conc.Good ak (λv W'=>s.post enc ak fc false true false false W args v {W' with os:=W.os}/\OsLater W.os W'.os) last o w' t':=by
 have hW':=hW;obtain⟨p,q,hA,hV,rfl,hfz,kL⟩:=hW;rw[hp]at hA qP;rw[hv]at hV;obtain⟨v0,d0,rfl,rfl,h0⟩:=trodAll_one hA;obtain⟨rfl,rfl⟩:=trodVars_none hV;have hvt:s.plain.varTypes ak=[]:=by simp[ChangeSpec.plain,DataSpec.varTypes,hv]
 rw[hp,hvt]at hwt;have hw0:∀x∈d0.weights ak 22,x<=reachBytes:=λx hx=>by
  have:=fY.1 hwt x (by simp[DataW.weightsEach,hx]);simpa using this
 have pow:=M7 rfl afc;obtain⟨M,last,o,w',t',k1,k2,k3,v,ev,⟨⟨o1,w1,eh,rfl,YE⟩,eos,ai5⟩,g1,g2,g3,g4⟩:=Hp (P:=ak) (vs:=#[v0]) (o:=λb=>b<4) (W:=W) (Q:=λv o' w'=>v=.bool true/\fl W w') (λb=>b<W.heap.size) (λb hb=>hb) hf hi (λFin hL=>by
  obtain⟨sp,sb,ai6,ai7,xs,e0,s1,s0,s2,s3⟩:=UM (qP 0 _ v0 rfl rfl) h0 hw0 Fin;rw[e0];exact hb Fin _ W (QK tZ) pow (NK pow tZ) sp sb ai6 ai7 xs (vT.of hL s1 s0 s2 s3))
 refine⟨M,last,o,w',t',k1,k2,k3,_,ev,⟨?_,0,by rw[eos];rfl⟩,g1,g2,g3,g4⟩;have afd:Below W.heap.size W {W with heap:=w'.heap}:=⟨rfl,rfl,rfl,by show W.heap.size<=w'.heap.size;rw[eh];exact YE.size,λk hk=>by show w'.heap[k]?=_;rw[eh];exact YE.same k hk⟩;have cR:∀x∈p,x.block<W.heap.size:=hA.lt;have uS:DataW.TrodAll enc ak {W with heap:=w'.heap} 0 (λb=>decide (b<W.heap.size)) true [22] [v0] [d0] p :=
  trodAll_mk1 (Below.trod T5 ah (fR ah) h0 afd λx hx=>cR x hx)
 have hk:=afd.frame (λy=>y∈p++[]/\(y∈([]:List MemPlace)\/y∈p\/y∈([]:List MemPlace)));refine⟨_,_,_,[],p,[],hW',?_,?_,?_,⟨rfl,ai5,hk.2.2⟩,λh=>by cases h⟩
 ·rw[show([d0]++[]:List (DataW H))=[d0] from rfl,hs,hr];exact trodAll_mk1 (shut_bool underlying4 _)
 ·rw[show([d0]++[]:List (DataW H))=[d0] from rfl,hs,hp];exact uS.of_heap aG
 ·rw[show([d0]++[]:List (DataW H))=[d0] from rfl,hs,hv];rfl
end
end
end Go.Proofs.Kz
