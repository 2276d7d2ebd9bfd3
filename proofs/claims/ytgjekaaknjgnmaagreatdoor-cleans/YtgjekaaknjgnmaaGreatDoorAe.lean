import Derived.Test.YtgjekaaknjgnmaaGreatDoorAd
import Derived.ArgAppend
import Derived.Conc.AtomicLaws2
import Derived.Lib.Builder
import Derived.Lib.Bytealg
import Derived.Lib.JoinLaws
import Derived.Sort.Walk0
set_option linter.all false
set_option maxHeartbeats 32000000
set_option maxRecDepth 100000
namespace Go.Proofs.Kz
open Go.Proofs.Tryz
open Go.Proofs.Tryz renaming prog → ak
open _root_.ByteArray renaming empty → bF
open _root_.Option renaming some → so,none → we
open Go.Ren Go.Conc Go.Proofs Go.ConcN
section
open Go.Conc.Lib Go.ConcR.Gen Go.ConcN.Gen
open Go.ConcR (KK wgBlock WgAt stA smA rd wr mk Payload DC0)
def Still(D:nV)(Ob:Nat)(old:Nat->Option (Nat×List Kz.V))(b:Nat):Prop :=
 b=D.bn\/b=D.Lb\/b=D.St\/b=D.Vb\/b=D.Mb\/b=Ob\/b=1\/(∃s,s<D.n/\b=D.cX s)\/(∃s vs,s<D.n/\old s=so (b,vs))
structure pf(D:nV)(ord:Nat->Nat)(res:Nat->Kz.V)(old:Nat->Option (Nat×List Kz.V))(Ob:Nat)(o:aL)(w:ae):Prop where
 Ff:ma D w
 pow:jM w
 order:w.cell? ⟨D.Lb,D.Lo+1,we⟩=so (.slice (so ⟨Ob,0,we⟩) D.n D.n)
 MJ:∀k,k<D.n->w.cell? ⟨Ob,k,we⟩=so (.int .i64 (ord k))
 still:∀b,Still D Ob old b->o b/\b≠D.Rb/\b≠D.Nb/\∀s,s<D.n->b≠D.ch s
 pX:∀s,s<D.n->o (D.ch s)/\D.ch s≠D.Rb/\D.ch s≠D.Nb/\∃s' r tm,w.heap[D.ch s]?=so (.chan 0 #[] false s' r tm)
 yr:∀s t,s<D.n->t<D.n->D.ch s=D.ch t->s=t
 C0:o D.Rb
 C5:o D.Nb
 apart:D.Rb≠D.Nb
 R0:∃cs,w.heap[D.Rb]?=so (.cells cs 222 (0,0))/\cs.size=D.n*4
 N0:∃cs,w.heap[D.Nb]?=so (.cells cs 4 (0,0))/\cs.size=D.n
 idle:∀s,s<D.n->zV D s (old s) w
 olds:∀s B vs,s<D.n->old s=so (B,vs)->qZ w B 0 vs/\vs.length<=100000
 rL:∀i,i<D.n->ord i<D.n
 ZM:∀i j,i<D.n->j<D.n->ord i=ord j->i=j
 ZN:∀s,s<D.n->∃i,i<D.n/\ord i=s
 dep:∀i,i<D.n->∀m,(true,m)∈D.ins (ord i)->∃k,k<i/\ord k=m
 src:∀s,s<D.n->∀m,(false,m)∈D.ins s->m<D.mH.length
 short:∀s,s<D.n->(D.ins s).length<=4
 ui:D.n<=100000
 V2:D.mH.length<=100000
 made:∀s,s<D.n->res s=ef (D.kG s) (er D res s)
 eT:∀s,s<D.n->1<=D.kG s/\D.kG s<=5
 size:∀s,s<D.n->gy ((er D res s).map (·.2))<=1000000
def re(D:nV)(ord:Nat->Nat)(old:Nat->Option (Nat×List Kz.V))(S:Nat->Prop)(Wg H0 m0 T0:Nat):dv where
 T0:=T0
 H0:=H0
 Wg:=Wg
 m0:=m0
 n:=D.n
 ch:=λi=>D.ch (ord i)
 kM:=λi l=>i<D.n/\((∃j,j<4/\l=.cell ⟨D.Rb,ord i*4+j,we⟩)\/l=.cell ⟨D.Nb,ord i,we⟩)
 Shun:=uJ S
 Sh:=λb=>b=D.Rb\/b=D.Nb
 ty:=216
 dep:=λi k=>k<i
 Idle:=λk w=>k<D.n->zV D (ord k) (old (ord k)) w
section
variable {D:nV}{ord:Nat->Nat}{res:Nat->Kz.V}{old:Nat->Option (Nat×List Kz.V)}{Ob:Nat}{o:aL}{w:ae}{L:Nat->Bool}
def vI{w w1:ae}{B:Nat}(hs:∀cs ty fz,w.heap[B]?=so (.cells cs ty fz)->∃tQ,w1.heap[B]?=so (.cells tQ ty fz)/\tQ.size=cs.size)(h:wo w B):wo w1 B:=by
 obtain⟨c,t,h⟩:=h;obtain⟨c1,h1,_⟩:=hs c t _ h;exact⟨c1,t,h1⟩
def zV.keep{s:Nat}{x:Option (Nat×List Kz.V)}{w w1:ae}(h:zV D s x w)(hR:∀j,j<4->w1.cell? ⟨D.Rb,s*4+j,we⟩=w.cell? ⟨D.Rb,s*4+j,we⟩)(hN:w1.cell? ⟨D.Nb,s,we⟩=w.cell? ⟨D.Nb,s,we⟩)(h1:wo w1 D.Rb)(h2:wo w1 D.Nb):zV D s x w1:=by
 refine⟨?_,hN.trans h.2.1,h1,h2⟩;have k:=h.1;cases x with
 |none=>exact⟨(hR 0 aa).trans k.c0,(hR 1 aa).trans k.c1,(hR 2 aa).trans k.c2,(hR 3 aa).trans k.c3⟩
 |some y=>exact⟨(hR 0 aa).trans k.c0,(hR 1 aa).trans k.c1,(hR 2 aa).trans k.c2,(hR 3 aa).trans k.c3⟩
def oL{o:aL}{a b:Nat}(h:¬o b)(ha:o a):a≠b:=λe=>h (e▸ha)
def V6(h:pf D ord res old Ob o w){S:Nat->Prop}{Wg H0 m0 T0:Nat}(hm:0<m0)(VF:Wg<H0)(Oy:¬o Wg)(ho:∀b,o b->b<H0/\¬S b)(hS:∀b,S b->b<H0/\b≠Wg):(re D ord old S Wg H0 m0 T0).OK where
 m0:=hm
 wg:=VF
 own k l b hl hb:=by
  rcases hl.2 with⟨j,_,rfl⟩|rfl
  ·cases hb;exact⟨(ho _ h.C0).1,oL Oy h.C0⟩
  ·cases hb;exact⟨(ho _ h.C5).1,oL Oy h.C5⟩
 apart k k' l hl GY:=by
  have e:ord k=ord k':=by
   rcases hl.2 with⟨j,_,rfl⟩|rfl<;>rcases GY.2 with⟨j',_,e⟩|e
   ·simp at e;omega
   ·simp at e;exact absurd e.1 h.apart
   ·simp at e;exact absurd e.1.symm h.apart
   ·simp at e;exact e
  exact h.ZM _ _ hl.1 GY.1 e
 acf l b hl hb:=by cases l<;>first|exact hl.elim|skip;cases hb;exact hS _ hl
 Gz k l hl hs:=by
  rcases hl.2 with⟨j,_,rfl⟩|rfl
  ·exact(ho _ h.C0).2 hs
  ·exact(ho _ h.C5).2 hs
 ownSh k l hl:=by
  rcases hl.2 with⟨j,_,rfl⟩|rfl
  ·exact⟨_,rfl,.inl rfl⟩
  ·exact⟨_,rfl,.inr rfl⟩
 sh b hb:=by
  rcases hb with rfl|rfl
  ·exact⟨(ho _ h.C0).1,oL Oy h.C0,λk hk=>(h.pX _ (h.rL k hk)).2.1⟩
  ·exact⟨(ho _ h.C5).1,oL Oy h.C5,λk hk=>(h.pX _ (h.rL k hk)).2.2.1⟩
 ch k hk:=⟨(ho _ (h.pX _ (h.rL k hk)).1).1,oL Oy (h.pX _ (h.rL k hk)).1⟩
 yr k k' hk lY e:=h.ZM _ _ hk lY (h.yr _ _ (h.rL k hk) (h.rL k' lY) e)
 Sg k hk:=λe=>e
 dep i k _ e:=e
 idle k w w1 h1 h2 h3:=λhk=>(h3 hk).keep (λj hj=>h1 _ ⟨hk,.inl ⟨j,hj,rfl⟩⟩) (h1 _ ⟨hk,.inr rfl⟩) (vI (h2 _ · · · (.inl rfl)) (h3 hk).2.2.1) (vI (h2 _ · · · (.inr rfl)) (h3 hk).2.2.2)
def ML(h:pf D ord res old Ob o w){S:Nat->Prop}{Wg H0 m0 T0:Nat}(VF:Wg<H0)(Oy:¬o Wg)(ho:∀b,o b->b<H0/\¬S b){b:Nat}(hb:Still D Ob old b):Quiet (re D ord old S Wg H0 m0 T0) b:=by
 obtain⟨h1,h2,h3,h4⟩:=h.still b hb;refine⟨(ho b h1).1,oL Oy h1,λe=>e.elim h2 h3,λk hk=>h4 _ (h.rL k hk),λoff=>⟨λb' nD=>?_,λk hk=>?_,(ho b h1).2⟩⟩
 ·cases nD;exact⟨(ho b h1).1,oL Oy h1⟩
 ·rcases hk.2 with⟨j,_,e⟩|e
  ·injection e with e;injection e with e;exact h2 e
  ·injection e with e;injection e with e;exact h3 e
def C6{S:Nat->Prop}{Wg H0 m0 T0 Bb:Nat}(hB:Bb<H0)(fu:Bb≠Wg)(hS:¬S Bb)(h:pf D ord res old Ob o w)(hn:¬o Bb):Quiet (re D ord old S Wg H0 m0 T0) Bb:=by
 have To:∀a,o a->Bb≠a:=λa ha e=>hn (e▸ha);refine⟨hB,fu,λe=>e.elim (To _ h.C0) (To _ h.C5),λk hk=>To _ (h.pX _ (h.rL k hk)).1,λoff=>⟨λb' nD=>?_,λk hk=>?_,hS⟩⟩
 ·cases nD;exact⟨hB,fu⟩
 ·rcases hk.2 with⟨j,_,e⟩|e
  ·injection e with e;injection e with e;exact To _ h.C0 e
  ·injection e with e;injection e with e;exact To _ h.C5 e
def pf.keep{w1:ae}(h:pf D ord res old Ob o w)(e:∀b,o b->w1.heap[b]?=w.heap[b]?):pf D ord res old Ob o w1:=by
 have q:∀{b off},Still D Ob old b->w1.cell? ⟨b,off,we⟩=w.cell? ⟨b,off,we⟩:=λhb=>cell_of (e _ (h.still _ hb).1);have qb:∀{off},w1.cell? ⟨D.bn,off,we⟩=w.cell? ⟨D.bn,off,we⟩:=q (.inl rfl);have qL:∀{off},w1.cell? ⟨D.Lb,off,we⟩=w.cell? ⟨D.Lb,off,we⟩:=q (.inr (.inl rfl));have qS:∀{off},w1.cell? ⟨D.St,off,we⟩=w.cell? ⟨D.St,off,we⟩:=q (.inr (.inr (.inl rfl)));have qV:∀{off},w1.cell? ⟨D.Vb,off,we⟩=w.cell? ⟨D.Vb,off,we⟩:=q (.inr (.inr (.inr (.inl rfl))));have qM:∀{off},w1.cell? ⟨D.Mb,off,we⟩=w.cell? ⟨D.Mb,off,we⟩:=q (.inr (.inr (.inr (.inr (.inl rfl)))));have qO:∀{off},w1.cell? ⟨Ob,off,we⟩=w.cell? ⟨Ob,off,we⟩:=q (.inr (.inr (.inr (.inr (.inr (.inl rfl))))));have q1:∀{off},w1.cell? ⟨1,off,we⟩=w.cell? ⟨1,off,we⟩:=q (.inr (.inr (.inr (.inr (.inr (.inr (.inl rfl)))))));have qI:∀{s off},s<D.n->w1.cell? ⟨D.cX s,off,we⟩=w.cell? ⟨D.cX s,off,we⟩:=λhs=>q (.inr (.inr (.inr (.inr (.inr (.inr (.inr (.inl ⟨_,hs,rfl⟩))))))));have qR:∀{off},w1.cell? ⟨D.Rb,off,we⟩=w.cell? ⟨D.Rb,off,we⟩:=cell_of (e _ h.C0);have qN:∀{off},w1.cell? ⟨D.Nb,off,we⟩=w.cell? ⟨D.Nb,off,we⟩:=cell_of (e _ h.C5);have d:=h.Ff;exact {h with
  Ff:=⟨by rw[qb];exact d.b0,by rw[qb];exact d.b1,by rw[qb];exact d.b2,by rw[qb];exact d.b3,by rw[qb];exact d.b4,by rw[qL];exact d.steps,λs hs=>by rw[qS];exact d.eT s hs,λs hs=>by rw[qS];exact d.Be s hs,λs hs j hj=>by rw[qI hs,qI hs];exact d.CV s hs j hj,λk hk=>by rw[qV,qV];exact d.mH k hk,λs hs=>by rw[qM];exact d.made s hs⟩
  pow:=λk hk=>by rw[q1];exact h.pow k hk
  order:=by rw[qL];exact h.order
  MJ:=λk hk=>by rw[qO];exact h.MJ k hk
  pX:=λs hs=>⟨(h.pX s hs).1,(h.pX s hs).2.1,(h.pX s hs).2.2.1,by rw[e _ (h.pX s hs).1];exact(h.pX s hs).2.2.2⟩
  R0:=by rw[e _ h.C0];exact h.R0
  N0:=by rw[e _ h.C5];exact h.N0
  idle:=λs hs=>(h.idle s hs).keep (λj _=>qR) qN (vI (λcs ty fz hx=>⟨cs,by rw[e _ h.C0];exact hx,rfl⟩) (h.idle s hs).2.2.1) (vI (λcs ty fz hx=>⟨cs,by rw[e _ h.C5];exact hx,rfl⟩) (h.idle s hs).2.2.2)
  olds:=λs B vs hs ho=>⟨λk hk=>by
   have hb:Still D Ob old B:=.inr (.inr (.inr (.inr (.inr (.inr (.inr (.inr ⟨s,vs,hs,ho⟩)))))));rw[q hb,q hb];exact(h.olds s B vs hs ho).1 k hk,(h.olds s B vs hs ho).2⟩}
def MM(h:pf D ord res old Ob o w){S:Nat->Prop}{Wg Bb H0 m0 T0:Nat}(hm:0<m0)(VF:Wg<H0)(Oy:¬o Wg)(ho:∀b,o b->b<H0/\¬S b)(hS:∀b,S b->b<H0/\b≠Wg)(hB:Bb<H0)(fu:Bb≠Wg)(hSB:¬S Bb)(hnB:¬o Bb)(hg:ak.globals.size<=H0)(ZO:w.cell? ⟨Bb,0,we⟩=so (.pointer (so ⟨D.bn,0,we⟩))):Setup D (re D ord old S Wg H0 m0 T0) ord res old Bb Ob w:=by
 have Q:∀{b},Still D Ob old b->Quiet (re D ord old S Wg H0 m0 T0) b:=λhb=>ML h VF Oy ho hb;exact {
  ok:=V6 h hm VF Oy ho hS
  n:=rfl
  kz:=hg
  ty:=rfl
  q1:=Q (.inr (.inr (.inr (.inr (.inr (.inr (.inl rfl)))))))
  dk:={
   D7:=Q (.inl rfl)
   ZA:=Q (.inr (.inl rfl))
   ZB:=Q (.inr (.inr (.inl rfl)))
   qVb:=Q (.inr (.inr (.inr (.inl rfl))))
   qMb:=Q (.inr (.inr (.inr (.inr (.inl rfl)))))
   Qg:=λs hs=>Q (.inr (.inr (.inr (.inr (.inr (.inr (.inr (.inl ⟨_,hs,rfl⟩))))))))
   rL:=h.rL
   ch:=λ_ _=>rfl
   own:=λ_ _=>dj
   RF:=.inl rfl
   XY:=.inr rfl
   apart:=h.apart
   dep:=λi hi m hm=>by
    obtain⟨k,hk,e⟩:=h.dep i hi m hm;exact⟨k,by have:i<D.n:=hi;show k<D.n;omega,e,hk⟩
   src:=h.src
   short:=h.short
   ui:=h.ui
   V2:=h.V2}
  Ff:=h.Ff
  pow:=h.pow
  made:=λi hi=>h.made _ (h.rL i hi)
  eT:=λi hi=>h.eT _ (h.rL i hi)
  size:=λi hi=>h.size _ (h.rL i hi)
  qB:=C6 hB fu hSB h hnB
  box:=ZO
  qO:=Q (.inr (.inr (.inr (.inr (.inr (.inl rfl))))))
  order:=h.order
  MJ:=h.MJ
  olds:=λs B vs hs e=>⟨(h.olds s B vs hs e).1,Q (.inr (.inr (.inr (.inr (.inr (.inr (.inr (.inr ⟨s,vs,hs,e⟩)))))))),(h.olds s B vs hs e).2⟩
  idle:=λk w hk hi=>hi hk}
end
end
section
open Go.Conc.Lib Go.ConcR.Gen Go.ConcN.Gen
open Go.ConcR (KK wgBlock WgAt stA smA rd wr mk Payload DC0)
structure Tp(D:nV)(res:Nat->Kz.V)(old:Nat->Option (Nat×List Kz.V))(o:aL)(w:ae)(o':aL)(w':ae):Prop where
 more:∀b,o b->o' b
 new:∀b,o' b->o b\/w.heap.size<=b
 same:∀b,b<w.heap.size->b≠D.Rb->b≠D.Nb->(∀s,s<D.n->b≠D.ch s)->w'.heap[b]?=w.heap[b]?
 runs:∀s,s<D.n->oK D s (old s) (er D res s) (res s) (λb=>o' b/\w.heap.size<=b) w'
 R0:∃cs,w'.heap[D.Rb]?=so (.cells cs 222 (0,0))/\cs.size=D.n*4
 N0:∃cs,w'.heap[D.Nb]?=so (.cells cs 4 (0,0))/\cs.size=D.n
 pX:∀s,s<D.n->∃c s' r tm,w'.heap[D.ch s]?=so (.chan 0 #[] c s' r tm)
 size:w.heap.size<=w'.heap.size
 os:w'.os=w.os
 output:w'.output=w.output
section
variable [Payload]{D:nV}{ord:Nat->Nat}{res:Nat->Kz.V}{old:Nat->Option (Nat×List Kz.V)}{Ob:Nat}{o:aL}{w:ae}{L:Nat->Bool}{Fin:br}
theorem tz{f:Rn}{cs:Array Value}{ty:TypeId}{fz:Nat×Nat}(h:∀j (hj:j<cs.size),val f cs[j]=cs[j]):obj f (.cells cs ty fz)=.cells cs ty fz:=by
 simp only[obj]
 congr 1
 apply jH
 ·simp
 ·intro j h1 h2;simpa using h j h2
theorem J3{w:ae}{b j:Nat}{v:Value}{cs:Array Value}{ty:TypeId}{fz:Nat×Nat}(h:w.cell? ⟨b,j,we⟩=so v)(hb:w.heap[b]?=so (.cells cs ty fz)):cs[j]?=so v:=by
 simpa[World.cell?,hb] using h
theorem vc{w:ae}{b j:Nat}{v:Value}{cs:Array Value}{ty:TypeId}{fz:Nat×Nat}{f:Rn}(h:w.cell? ⟨b,j,we⟩=so v)(hb:w.heap[b]?=so (.cells cs ty fz))(hj:j<cs.size)(hv:val f v=v):val f cs[j]=cs[j]:=by
 have:=J3 h hb;rw[aO hj]at this;rw[aP this];exact hv
theorem Ql{w:ae}{b t n:Nat}{g:Nat->Value}(h:w.rowIs b t n g)(hg:∀j,j<n->∀f,val f (g j)=g j):∃x,w.heap[b]?=so x/\fN x=false/\∀f,obj f x=x:=by
 obtain⟨c,hb,hn,hc⟩:=h;refine⟨_,hb,rfl,λf=>tz λj hj=>?_⟩;have:=hc j aa;rw[aO hj]at this;rw[aP this];exact hg j aa f
theorem Tq{S:Nat->Prop}{Wg H0 m0 T0:Nat}:kX (re D ord old S Wg H0 m0 T0) (Vd D ord res) (yS D ord old res):=by
 refine⟨λk w w1 h1 h2=>?_,λk o w w1 h1 h2 h3=>?_⟩
 ·exact⟨h2.1,(h1 _ ⟨h2.1,.inl ⟨2,aa,rfl⟩⟩).trans h2.2.1,(h1 _ ⟨h2.1,.inl ⟨3,aa,rfl⟩⟩).trans h2.2.2⟩
 ·exact⟨h3.1,oK.of h3.2 (λj hj=>h1 _ ⟨h3.1,.inl ⟨j,hj,rfl⟩⟩) (h1 _ ⟨h3.1,.inr rfl⟩) λb hb=>⟨hb,h2 b hb⟩⟩
theorem Qm(hF:bJ ak L o w)(h:pf D ord res old Ob o w):bC ak (XB ak Fin 0) 74 #[.pointer (so ⟨D.bn,0,we⟩)] o w λv o' w'=>v=.tuple #[]/\Tp D res old o w o' w'/\bJ ak L o' w':=by
 intro c cs hc;have gb:Tryz.f74.body=so (.seq _ (.seq _ (.seq (.seq _ (.block 0 (.loop _))) _))):=rfl;rw[jr func74 gb];refine λZP=>(?_:XB ak Fin 0 o _ w) ZP;have W:=bZ (P:=ak) (Fin:=Fin) (d:=0);have rG:(base 74).kind≠.early:=by simp[base]
 walk_nrmf Tryz.f74;refine W.go rfl (λ_=>aE) ?_;refine W.go rfl (λ_=>bg) ?_;refine fF ?_;refine vD rfl aG rG rfl (Obj.cells #[.pointer (so ⟨D.bn,0,we⟩)] 151) (λn=>.pointer (so ⟨n,0,we⟩)) (λw1=>iY) (λw1=>iY) ?_;walk_nrm;refine W.go rfl (λ_=>ar) ?_;refine W.go rfl (λ_=>aE) ?_;refine W.go rfl (λ_=>bg) ?_;refine fF ?_;refine vD rfl aG rG rfl (Obj.cells #[.int .u64 0,.int .u32 0] 216) (λn=>.pointer (so ⟨n,0,we⟩)) (λw1=>iY) (λw1=>iY) ?_;walk_nrm;refine W.go rfl (λ_=>ar) ?_;have oe:∀b,b<w.heap.size->((w.alloc (Obj.cells #[.pointer (so ⟨D.bn,0,we⟩)] 151)).alloc (Obj.cells #[.int .u64 0,.int .u32 0] 216)).heap[b]?=w.heap[b]?:=λb hb=>by
  rw[RowKit.Below.heap_alloc _ _ b eW,RowKit.Below.heap_alloc _ _ b hb]
 have J0:((w.alloc (Obj.cells #[.pointer (so ⟨D.bn,0,we⟩)] 151)).alloc (Obj.cells #[.int .u64 0,.int .u32 0] 216)).heap[w.heap.size]?=so (Obj.cells #[.pointer (so ⟨D.bn,0,we⟩)] 151):=by
  rw[RowKit.Below.heap_alloc _ _ _ aj];show(w.heap.push _)[w.heap.size]?=_;simp
 have pS:((w.alloc (Obj.cells #[.pointer (so ⟨D.bn,0,we⟩)] 151)).alloc (Obj.cells #[.int .u64 0,.int .u32 0] 216)).heap[w.heap.size+1]?=so (Obj.cells #[.int .u64 0,.int .u32 0] 216):=by
  show((w.heap.push (Obj.cells #[.pointer (so ⟨D.bn,0,we⟩)] 151)).push _)[w.heap.size+1]?=_;rw[dX,if_pos aj]
 have HW:((w.alloc (Obj.cells #[.pointer (so ⟨D.bn,0,we⟩)] 151)).alloc (Obj.cells #[.int .u64 0,.int .u32 0] 216)).heap.size=w.heap.size+2:=aj;have Lj:(w.alloc (Obj.cells #[.pointer (so ⟨D.bn,0,we⟩)] 151)).heap.size=w.heap.size+1:=aj;have Ld:((w.alloc (Obj.cells #[.pointer (so ⟨D.bn,0,we⟩)] 151)).alloc (Obj.cells #[.int .u64 0,.int .u32 0] 216)).os=w.os/\((w.alloc (Obj.cells #[.pointer (so ⟨D.bn,0,we⟩)] 151)).alloc (Obj.cells #[.int .u64 0,.int .u32 0] 216)).output=w.output:=⟨rfl,rfl⟩;rw[Lj];generalize (w.alloc (Obj.cells #[.pointer (so ⟨D.bn,0,we⟩)] 151)).alloc (Obj.cells #[.int .u64 0,.int .u32 0] 216)=w2 at *;clear Lj;have cR:∀b,o b->b<w.heap.size:=λb hb=>hF.lt hb;have Oy:¬o (w.heap.size+1):=λhb=>by have:=cR _ hb;omega
 have hoB:¬o w.heap.size:=λhb=>by have:=cR _ hb;omega
 intro RE w3 mW;have e3:w3.heap=w2.heap:=by obtain⟨dd,rfl⟩:=mW;rfl
 have e3o:w3.os=w2.os/\w3.output=w2.output:=by obtain⟨dd,rfl⟩:=mW;exact⟨rfl,rfl⟩
 have X4:pf D ord res old Ob o w3:=h.keep λb hb=>by rw[e3];exact oe b (cR b hb)
 have V7:CE Fin (λb=>(o b\/b=w.heap.size)\/b=w.heap.size+1) w2=CE Fin o w:=by
  funext b;simp only[CE,eq_iff_iff,HW];constructor
  ·rintro⟨h1,h2,h5⟩;exact⟨fg λh3=>h2 aa,λh3=>h2 (.inl (.inl h3)),h5⟩
  ·rintro⟨h1,h2,h5⟩;exact⟨aa,λh3=>by rcases h3 with(h3|h3)|h3<;>first|exact h2 h3|omega,h5⟩
 rw[V7];have hg:ak.globals.size<=w.heap.size+2:=by have:=hF.size;omega
 have ZQ:∀m0 T0,0<m0->Setup D (re D ord old (CE Fin o w) (w.heap.size+1) (w.heap.size+2) m0 T0) ord res old w.heap.size Ob w3:=λm0 T0 hm =>
  MM X4 hm aa Oy (λb hb=>⟨by have:=cR b hb;omega,λhx=>hx.2.1 hb⟩) (λb hb=>⟨by have:=hb.1;omega,by have:=hb.1;omega⟩) aa aa (λhx=>by have:=hx.1;omega) hoB hg (by simp[World.cell?,e3,J0])
 refine BX.acS λm0 T0 hm=>⟨re D ord old (CE Fin o w) (w.heap.size+1) (w.heap.size+2) m0 T0,Vd D ord res,yS D ord old res,
  λo5 g5 w5=>∃tm wA,Fv link (re D ord old (CE Fin o w) (w.heap.size+1) (w.heap.size+2) m0 T0) wA ((base 74).at ⟨tm,[]⟩ (.inRegion #[{dst:=so 20,op:=.call {callee:=.value (.func 117),args:=#[.tmp 2],argTypes:=#[216]},type:=0,pos:= "build.go:82",after:=#[],guard:=we}] (0::[])::[])) (c::cs) o5 g5 w5,
  λo5 g5 w5=>∃tm wA,P2 ak (re D ord old (CE Fin o w) (w.heap.size+1) (w.heap.size+2) m0 T0) wA (G ((base 74).at ⟨tm,[]⟩ (.inRegion #[{dst:=so 20,op:=.call {callee:=.value (.func 117),args:=#[.tmp 2],argTypes:=#[216]},type:=0,pos:= "build.go:82",after:=#[],guard:=we}] []::[])) (c::cs)) o5 g5 w5,
  λ_=>False,rfl,rfl,(ZQ m0 T0 hm).ok,Tq,?_,rfl,?_,?_,λ_ hb=>hb.elim,?_,?_,?_,?_,?_⟩
 ·show D.n<2147483648;have:=h.ui;omega
 ·rintro o5 g5 w5 ⟨tm,wA,hA⟩;exact(Mp AG (ZQ m0 T0 hm).ok g5 w5 hA).mono λ_ _ _=>Rz.mono (λo g w x=>⟨tm,wA,x⟩) (λo g w x=>⟨_,wA,x⟩)
 ·have hS:=ZQ m0 T0 hm;have hT:=hS.ok;show jC ak _ _ _ _ D.n _ _ w3;generalize hTm:re D ord old (CE Fin o w) (w.heap.size+1) (w.heap.size+2) m0 T0=T at *;have hTn:T.n=D.n:=hS.n;have hTW:T.Wg=w.heap.size+1:=by rw[<- hTm];rfl
  have hTH:T.H0=w.heap.size+2:=by rw[<- hTm];rfl
  have hTy:T.ty=216:=hS.ty;have yT:WgLive T.ty T.Wg w3:=⟨0,0,by rw[hTy,hTW];show w3.heap[w.heap.size+1]?=_;rw[e3];exact pS⟩;obtain⟨Stop,J2⟩:∃Stop:ft,∀o5 g5 w5,du ak T Stop o5 g5 w5↔jC ak T (Vd D ord res) (yS D ord old res) (λo5 g5 w5=>∃tm wA,Fv link T wA ((base 74).at ⟨tm,[]⟩ (.inRegion #[{dst:=so 20,op:=.call {callee:=.value (.func 117),args:=#[.tmp 2],argTypes:=#[216]},type:=0,pos:= "build.go:82",after:=#[],guard:=we}] (0::[])::[])) (c::cs) o5 g5 w5) D.n o5 g5 w5:=by
   cases D.n
   ·exact⟨_,λ_ _ _=>dj⟩
   ·exact⟨_,λ_ _ _=>dj⟩
  rw[<- J2];have W4:=oH (P:=ak) (T:=T) (Stop:=Stop);refine W4.go rfl (λ_=>aE) ?_;refine W4.go rfl (λ_=>aE) ?_;refine W4.go rfl (λ_=>bg) ?_;refine fF ?_;have c0:∀w5,dU T (λ_=>False) w3 w5->w5.cell? ⟨w.heap.size,0,we⟩=so (.pointer (so ⟨D.bn,0,we⟩)):=λw5 r5=>by rw[hS.qB.cellS r5];exact hS.box
  have c1:∀w5,dU T (λ_=>False) w3 w5->w5.cell? ⟨D.bn,0,we⟩=so (.pointer (so ⟨D.Lb,D.Lo,we⟩)):=λw5 r5=>by rw[hS.dk.D7.cellS r5];exact hS.Ff.b0
  have c2:∀w5,dU T (λ_=>False) w3 w5->w5.cell? ⟨D.Lb,D.Lo+1,we⟩=so (.slice (so ⟨Ob,0,we⟩) D.n D.n):=λw5 r5=>by rw[hS.dk.ZA.cellS r5];exact hS.order
  (refine still_at W4 c0 rfl aG rG (λw9 hc=>⟨.refl _ _,λe he=>?_⟩) λw9 hc K hK=>?_;(focus (rw[cp];have he:=mem_listed he;simp[go_sem, *]at he;subst he;exact vH hS.qB));go_simp;refine hK _ ?_;clear hK K;clear hc w9;try walk_nrm)
  refine iJ ?_
  (refine still_at W4 c1 rfl aG rG (λw9 hc=>⟨.refl _ _,λe he=>?_⟩) λw9 hc K hK=>?_;(focus (rw[cp];have he:=mem_listed he;simp[go_sem, *]at he;subst he;exact vH hS.dk.D7));go_simp;refine hK _ ?_;clear hK K;clear hc w9;try walk_nrm)
  refine iJ ?_
  (refine still_at W4 c2 rfl aG rG (λw9 hc=>⟨.refl _ _,λe he=>?_⟩) λw9 hc K hK=>?_;(focus (rw[cp];have he:=mem_listed he;simp[go_sem, *]at he;subst he;exact vH hS.dk.ZA));go_simp;refine hK _ ?_;clear hK K;clear hc w9;try walk_nrm)
  refine iJ ?_;refine W4.go rfl (λ_=>ar) ?_;refine W4.go rfl (λ_=>fJ) ?_;refine W4.go rfl (λ_=>kE) ?_;rw[J2];refine J1 hS gb (base 74) [] (c::cs) rfl rG (λo5 w5 tm r5 l5 ho5 ew t2=>?_) D.n 0 hTn.symm _ w3 _ (dU.refl _) yT (λ_ hb=>hb.elim) (by rw[hTH,e3,HW];exact af _) rfl rfl (by rw[hTW];rfl) rfl rfl rfl;have W5:=oH (P:=ak) (T:=T) (Stop:=RA ak T (λo5 g5 w5=>∃tm wA,Fv link T wA ((base 74).at ⟨tm,[]⟩ (.inRegion #[{dst:=so 20,op:=.call {callee:=.value (.func 117),args:=#[.tmp 2],argTypes:=#[216]},type:=0,pos:= "build.go:82",after:=#[],guard:=we}] (0::[])::[])) (c::cs) o5 g5 w5));obtain⟨gs,rfl⟩:=l8 ew;simp only[List.range,List.range.loop,aB,aJ]at *;simp only[List.getElem?_toArray,List.getElem?_cons_succ,List.getElem?_cons_zero,ay]at t2;simp only[t2];refine W5.go rfl (λ_=>bg) ?_;refine fF ?_;refine W5.go rfl (λw1=>qU rfl aG rG rfl AG.f_wait (nm_wait link) rfl w1) ?_;rw[jr AG.f_wait rfl];simp only[List.map_toArray,aB,aJ,Act.eval];walk_nrmf waitFn;have hA:=@Mq _ link ak T o5 w5;simp only[body_wait,waitFn,bc]at hA;exact(hA AG (λb hb=>(ho5 b hb).1) w5 ⟨dU.refl w5,l5⟩).mono λ_ _ _=>RA.mono λo g w x=>⟨_,w5,x⟩
 ·show w.heap.size+2<=w3.heap.size;rw[e3,HW];exact af _
 ·show w3.heap[w.heap.size+1]?=_;rw[e3];exact pS
 ·exact λk hk=>(X4.pX _ (h.rL k hk)).2.2.2
 ·exact λk hk lY=>X4.idle _ (h.rL k hk)
 ·rintro o5 g5 w5 ⟨tm,wA,-,n5,hgo⟩ ac6 hrel fo PH IE;have amE:w.heap.size+2<=w5.heap.size:=by have:=hrel.size;rw[e3,HW]at this;exact this
  have hold:∀b,b<w.heap.size->b≠D.Rb->b≠D.Nb->(∀s,s<D.n->b≠D.ch s)->w5.heap[b]?=w.heap[b]?:=λb h1 h2 h3 h4=>by
   rw[hrel.ro b (show b<w.heap.size+2 by omega) (show b≠w.heap.size+1 by omega) (λe=>e.elim h2 h3) (λk hk=>h4 _ (h.rL k hk)),e3,oe b h1]
  have cG:∀s,s<D.n->∃oi:Nat->Prop,oK D s (old s) (er D res s) (res s) oi w5/\∀b,oi b->w.heap.size+2<=b/\b<w5.heap.size:=λs hs=>by
   obtain⟨i,hi,rfl⟩:=h.ZN s hs;obtain⟨-,oi,C,hv,ho⟩:=ac6 i hi;exact⟨_,hv.2,λb hb=>ho b hb.1⟩
  have Ey:∃cs,w5.heap[D.Rb]?=so (.cells cs 222 (0,0))/\cs.size=D.n*4:=by
   obtain⟨cs,k1,k2⟩:=X4.R0;obtain⟨c1,k3,k4⟩:=PH D.Rb cs _ _ (.inl rfl) k1;exact⟨c1,k3,aa⟩
  have hN5:∃cs,w5.heap[D.Nb]?=so (.cells cs 4 (0,0))/\cs.size=D.n:=by
   obtain⟨cs,k1,k2⟩:=X4.N0;obtain⟨c1,k3,k4⟩:=PH D.Nb cs _ _ (.inr rfl) k1;exact⟨c1,k3,aa⟩
  have ac7:∀s,s<D.n->∃c s' r tm,w5.heap[D.ch s]?=so (.chan 0 #[] c s' r tm):=λs hs=>by
   obtain⟨i,hi,rfl⟩:=h.ZN s hs;exact IE i hi
  let o':aL:=λb=>o b\/∃s,s<D.n/\w.heap.size+2<=b/\b<w5.heap.size/\(∀B,old s≠so (B,er D res s))/\gp w5 b (er D res s)/\wR D s w5 b (er D res s) (res s);have Tr:∀s,s<D.n->oK D s (old s) (er D res s) (res s) (λb=>o' b/\w.heap.size<=b) w5:=λs hs=>by
   obtain⟨oi,hr,ho⟩:=cG s hs;rcases hr with⟨B,k1,k2,k3⟩|⟨k1,A,k2,k3,k4,k5⟩
   ·exact .inl ⟨B,k1,k2,k3⟩
   ·have:=ho A k2;exact .inr ⟨k1,A,⟨.inr ⟨s,hs,this.1,this.2,k1,k3,k4⟩,aa⟩,k3,k4,k5⟩
  have ZR:Tp D res old o w o' w5:={
   more:=λb hb=>.inl hb
   new:=λb hb=>hb.imp id λ⟨s,_,h1,_⟩=>aa
   same:=hold
   runs:=Tr
   R0:=Ey
   N0:=hN5
   pX:=ac7
   size:=aa
   os:=by rw[hrel.os,e3o.1,Ld.1]
   output:=by rw[hrel.output,e3o.2,Ld.2]}
  have ac8:bJ ak L o' w5:=by
   have up:∀f,(nN ak L o').has f->(nN ak L o).has f:=λf hf=>⟨hf.inj,λr hr=>hf.at_ r (.inl hr),hf.fn,hf.kz⟩;refine⟨λb hb=>?_,λb hb=>.inl (hF.kz b hb),by have:=hF.size;omega⟩;rcases hb with hb|⟨s,hs,h1,h2,_,h3,_⟩
   ·by_cases hbR:b=D.Rb
    ·subst hbR;obtain⟨cs5,k1,k2⟩:=Ey;refine⟨_,k1,rfl,λf hf=>tz λj hj=>?_⟩;have hq:j/4<D.n:=aa;have hrw:∃B,wR D (j/4) w5 B (er D res (j/4)) (res (j/4))/\o' B:=by
      rcases Tr _ hq with⟨B,m1,m2,-⟩|⟨-,A,m1,-,m2,-⟩
      ·exact⟨B,m2,.inl (h.still B (.inr (.inr (.inr (.inr (.inr (.inr (.inr (.inr ⟨_,_,hq,m1⟩))))))))).1⟩
      ·exact⟨A,m2,m1.1⟩
     obtain⟨B,m1,m2⟩:=hrw;have iX:j=j/4*4\/j=j/4*4+1\/j=j/4*4+2\/j=j/4*4+3:=aa;have hBf:f.b B=B:=hf.at_ B m2;have key:∀v,w5.cell? ⟨D.Rb,j,we⟩=so v->val f v=v->val f cs5[j]=cs5[j]:=λv hv=>vc hv k1 hj;rcases iX with e|e|e|e
     ·exact key _ (by rw[e];exact m1.c0) aj
     ·exact key _ (by rw[e];exact m1.c1) (by simp[val,addr,hBf])
     ·exact key _ (by rw[e];exact m1.c2) aj
     ·exact key _ (by rw[e];exact m1.c3) aj
    ·by_cases hbN:b=D.Nb
     ·subst hbN;obtain⟨cs5,k1,k2⟩:=hN5;refine⟨_,k1,rfl,λf hf=>tz λj hj=>?_⟩;have hq:j<D.n:=aa;rcases Tr _ hq with⟨B,_,_,m2⟩|⟨_,A,_,_,_,m2⟩
      ·exact vc m2 k1 hj aj
      ·exact vc m2 k1 hj aj
     ·by_cases hbc:∃s,s<D.n/\b=D.ch s
      ·obtain⟨s,hs,rfl⟩:=hbc;obtain⟨c,s',r,tm,k1⟩:=ac7 s hs;exact⟨_,k1,rfl,λf _=>by simp[obj]⟩
      ·rw[hold b (cR b hb) hbR hbN λs hs e=>hbc ⟨s,hs,e⟩];obtain⟨x,k1,k2,k3⟩:=hF.shut b hb;exact⟨x,k1,k2,λf hf=>k3 f (up f hf)⟩
   ·obtain⟨x,k1,k2,k3⟩:=Ql h3 (λj _ f=>wO _ j f);exact⟨x,k1,k2,λf _=>k3 f⟩
  have hX:XB ak Fin 0 o' (G ((base 74).at ⟨tm,[]⟩ (.inRegion #[{dst:=so 20,op:=.call {callee:=.value (.func 117),args:=#[.tmp 2],argTypes:=#[216]},type:=0,pos:= "build.go:82",after:=#[],guard:=we}] []::[])) (c::cs)) w5:=by
   refine W.go rfl (λ_=>ar) ?_;refine W.go rfl (λ_=>eD) ?_;refine W.go rfl (λw6=>stepG_leave (b:=base 74) (v:=.tuple #[]) rfl rfl func74 (results_none ah _ _).1 (results_none ah _ _).2) ?_;exact hc _ o' w5 ⟨rfl,ZR,ac8⟩
  have hX':zt ak (GH Fin w2) 0 (λb=>CE Fin o w b\/b=w.heap.size+1) (G ((base 74).at ⟨tm,[]⟩ (.inRegion #[{dst:=so 20,op:=.call {callee:=.value (.func 117),args:=#[.tmp 2],argTypes:=#[216]},type:=0,pos:= "build.go:82",after:=#[],guard:=we}] []::[])) (c::cs)) w5:=λw6 h6=>by
   have hX6:=hX (ZP.up aa) w6 h6;rw[yF (w:=w2) ⟨by rw[hrel.os,e3o.1],by rw[hrel.output,e3o.2]⟩]at hX6;refine hX6.less (λb hb=>?_) λb hb hx=>?_
   ·rcases hb with hb|rfl
    ·exact⟨by have:=hb.1;omega,λhx=>hx.elim hb.2.1 λ⟨s,_,h1,_⟩=>by have:=hb.1;omega,hb.2.2⟩
    ·exact⟨aa,λhx=>hx.elim Oy λ⟨s,_,h1,_⟩=>aa,λhl=>by have:=ZP _ hl;omega⟩
   ·obtain⟨dd,rfl⟩:=h6;have h1:b<w5.heap.size:=hx.1;have h2:w5.heap.size<=b:=hb;omega
  exact(zt.jW hgo hX').bx
end
end
section
variable {Fin:br}{o:aL}{w:ae}
def C7(w:ae)(a:Addr)(v:Value):(w.setCell a v).heap.size=w.heap.size:=by simp[World.setCell]
def J4(ad:Addr):∀x∈(#[⟨.cell ad,false,true⟩,⟨.cell ad,true,true⟩]:Array Event),x.sync=true/\(∀g,x.loc≠.mark (.extern g))/\x.loc≠.mark .disable/\x.loc≠.mark .enable:=by
 intro x hx;simp at hx;rcases hx with rfl|rfl<;>simp
def J5(ad:Addr)(b:Bool):∀x∈(#[⟨.cell ad,b,true⟩]:Array Event),x.sync=true/\(∀g,x.loc≠.mark (.extern g))/\x.loc≠.mark .disable/\x.loc≠.mark .enable:=by
 intro x hx;simp at hx;subst hx;simp
def V8(K off:Nat)(X5:o K)(hc:w.cell? ⟨K,off,we⟩=so (.int .i32 0))(hz:w.frozen? ⟨K,off,we⟩=false):
  bC ak (XB ak Fin 0) 78 #[.pointer (so ⟨K,off,we⟩)] o w λv o' w'=>v=.tuple #[]/\o'=o/\w'=w.setCell ⟨K,off,we⟩ (.int .i32 1):=by
 intro c cs LD;have W0:=bZ (P:=ak) (Fin:=Fin) (d:=0);have W1:=bZ (P:=ak) (Fin:=Fin) (d:=1);have rG:(base 78).kind≠.early:=by simp[base]
 rw[jr func78 rfl];walk_nrmf Tryz.f78;refine W0.go rfl (λ_=>aE) ?_;refine W0.go rfl (λ_=>bg) ?_;refine fF ?_;refine yG .disable (.inl rfl) rfl aG rG rfl func120 ah ah ah ah rfl (d':=1) aG ?_;walk_nrm;refine W1.go rfl (λ_=>ar) ?_;refine W1.go rfl (λ_=>aE) ?_;refine W1.go rfl (λ_=>aE) ?_;refine W1.go rfl (λ_=>bg) ?_;refine fF ?_;refine iJ ?_;refine zL rfl aG rG rfl func121 ah ah ah (e:=Extern.Atomic.casT (.int .i32)) ah (v:=.bool true) (t:=λw=>w.setCell ⟨K,off,we⟩ (.int .i32 1)) (evs:=#[⟨.cell ⟨K,off,we⟩,false,true⟩,⟨.cell ⟨K,off,we⟩,true,true⟩]) rfl (λn=>rfl) (C7 _ _ _) (λn=>?_) (λn=>?_) (J4 _) ?_
 ·simp only[List.map_toArray,aB,aJ,Act.eval];walk_nrm;rw[casT_eq];exact run_cas_hit_entry hc hz
 ·simp only[List.map_toArray,aB,aJ,Act.eval];walk_nrm;rw[casT_eq,events_cas_hit_entry (w:=w.at n) hc hz];rfl
 walk_nrm;refine W1.go rfl (λ_=>ar) ?_;refine W1.go rfl (λ_=>eG (t:=true) rfl) ?_;simp only[if_true];refine W1.go rfl (λ_=>aE) ?_;refine W1.go rfl (λ_=>eG (t:=true) rfl) ?_;simp only[if_true];refine W1.go rfl (λ_=>aE) ?_;refine W1.go rfl (λ_=>bg) ?_;refine fF ?_;refine yG .enable (.inr rfl) rfl aG rG rfl func122 ah ah ah ah rfl (d':=0) aG ?_;walk_nrm;refine W0.go rfl (λ_=>ar) ?_;refine W0.go rfl (λ_=>bg) ?_;refine fF ?_;refine iJ ?_;have Of:(w.setCell ⟨K,off,we⟩ (.int .i32 1)).cell? ⟨K,off,we⟩=so (.int .i32 1):=World.cell?_setCell_same _ _ _ hc;have hcv:=λn=>run_convert_to_unsafe (P:=ak) (w:=(w.setCell ⟨K,off,we⟩ (.int .i32 1)).at n) underlying225 underlying116 ah Of;have hce:=λn es=>events_convert_to_unsafe (P:=ak) (w:=(w.setCell ⟨K,off,we⟩ (.int .i32 1)).at n) underlying225 underlying116 ah Of es;refine CK rfl aG rG (v:=.pointer (so ⟨K,off,we⟩)) rfl (λn=>by simp[go_sem,hcv n]) (λn x hx=>by simp[go_sem,hce n]at hx) ?_;walk_nrm;refine CJ .acquire (λad=>.inl ⟨ad,rfl⟩) rfl aG rG rfl func123 ah ah ah ah (ad:=⟨K,off,we⟩) ax rfl ?_;walk_nrm;refine W0.go rfl (λ_=>ar) ?_;refine W0.go rfl (λ_=>stepG_ret') ?_;refine W0.go rfl (λw6=>stepG_leave (b:=base 78) (v:=.tuple #[]) rfl rfl func78 (results_none ah _ _).1 (results_none ah _ _).2) ?_;exact LD _ o _ ⟨rfl,rfl,rfl⟩
def ZS(K off:Nat)(X5:o K)(hc:w.cell? ⟨K,off,we⟩=so (.int .i32 0))(hz:w.frozen? ⟨K,off,we⟩=false):
  bC ak (XB ak Fin 0) 45 #[.pointer (so ⟨K,off,we⟩)] o w λv o' w'=>v=.tuple #[]/\o'=o/\w'=w.setCell ⟨K,off,we⟩ (.int .i32 1):=by
 have W0:=bZ (P:=ak) (Fin:=Fin) (d:=0);refine bt W0 func45 rfl ?_;walk_nrmf Tryz.f45;refine aD ?_;refine eH W0 rfl aG rfl func78 ah rfl ax rfl ((V8 K off X5 hc hz).mono ?_);rintro v o' w' ⟨rfl,rfl,rfl⟩;refine aD ?_;exact⟨.inl trivial,trivial,.tuple #[],λw1=>results_none ah _ _,aj⟩
def Qn(K off:Nat)(X5:o K)(hc:w.cell? ⟨K,off,we⟩=so (.int .i32 1))(hz:w.frozen? ⟨K,off,we⟩=false):
  bC ak (XB ak Fin 0) 79 #[.pointer (so ⟨K,off,we⟩)] o w λv o' w'=>v=.tuple #[]/\o'=o/\w'=w.setCell ⟨K,off,we⟩ (.int .i32 0):=by
 intro c cs LD;have W0:=bZ (P:=ak) (Fin:=Fin) (d:=0);have W1:=bZ (P:=ak) (Fin:=Fin) (d:=1);have rG:(base 79).kind≠.early:=by simp[base]
 rw[jr func79 rfl];walk_nrmf Tryz.f79;have hcv:=λn=>run_convert_to_unsafe (P:=ak) (w:=w.at n) underlying225 underlying116 ah hc;have hce:=λn es=>events_convert_to_unsafe (P:=ak) (w:=w.at n) underlying225 underlying116 ah hc es;have zw:∀n,(w.at n).cell? ⟨K,off,we⟩=so (.int .i32 1):=λn=>hc;refine W0.go rfl (λ_=>aE) ?_;refine W0.go rfl (λ_=>eG (t:=true) rfl) ?_;simp only[if_true];refine W0.go rfl (λ_=>aE) ?_;refine W0.go rfl (λ_=>bg) ?_;refine fF ?_;refine iJ ?_;refine CK rfl aG rG (v:=.int .i32 1) rfl (λn=>by simp[go_sem,zw n]) (λn x hx=>by simp[go_sem,zw n]at hx;subst hx;exact⟨tw X5,aj,aj⟩) ?_;walk_nrm;refine W0.go rfl (λ_=>ar) ?_;refine W0.go rfl (λ_=>aE) ?_;refine W0.go rfl (λ_=>bg) ?_;refine fF ?_;refine iJ ?_;refine CK rfl aG rG (v:=.pointer (so ⟨K,off,we⟩)) rfl (λn=>by simp[go_sem,hcv n]) (λn x hx=>by simp[go_sem,hce n]at hx) ?_;walk_nrm;refine CJ .releaseMerge (λad=>.inr ⟨ad,rfl⟩) rfl aG rG rfl func125 ah ah ah ah (ad:=⟨K,off,we⟩) ax rfl ?_;walk_nrm;refine W0.go rfl (λ_=>ar) ?_;refine W0.go rfl (λ_=>bg) ?_;refine fF ?_;refine yG .disable (.inl rfl) rfl aG rG rfl func120 ah ah ah ah rfl (d':=1) aG ?_;walk_nrm;refine W1.go rfl (λ_=>ar) ?_;refine W1.go rfl (λ_=>aE) ?_;refine W1.go rfl (λ_=>bg) ?_;refine fF ?_;refine iJ ?_;refine zL rfl aG rG rfl func126 ah ah ah (e:=Extern.Atomic.update (Op.intArith .add) .i32 true) ah (v:=.int .i32 0) (t:=λw=>w.setCell ⟨K,off,we⟩ (.int .i32 0)) (evs:=#[⟨.cell ⟨K,off,we⟩,false,true⟩,⟨.cell ⟨K,off,we⟩,true,true⟩]) rfl (λn=>rfl) (C7 _ _ _) (λn=>?_) (λn=>?_) (J4 _) ?_
 ·simp only[List.map_toArray,aB,aJ,Act.eval];walk_nrm;exact run_add_entry (v:=1) (d:=-1) hc hz
 ·simp only[List.map_toArray,aB,aJ,Act.eval];walk_nrm;rw[events_add_entry (w:=w.at n) (v:=1) (d:=-1) hc hz];rfl
 walk_nrm;refine iJ ?_;refine W1.go rfl (λ_=>ar) ?_;refine W1.go rfl (λ_=>aE) ?_;refine W1.go rfl (λ_=>aE) ?_;refine W1.go rfl (λ_=>bg) ?_;refine fF ?_;refine iJ ?_;refine W1.go rfl (λ_=>ar) ?_;refine W1.go rfl (λ_=>eG (t:=false) ax) ?_;simp only[aT,if_false];refine W1.go rfl (λ_=>cD) ?_;refine W1.go rfl (λ_=>bg) ?_;refine fF ?_;refine yG .enable (.inr rfl) rfl aG rG rfl func122 ah ah ah ah rfl (d':=0) aG ?_;walk_nrm;refine W0.go rfl (λ_=>ar) ?_;refine W0.go rfl (λ_=>eD) ?_;refine W0.go rfl (λw6=>stepG_leave (b:=base 79) (v:=.tuple #[]) rfl rfl func79 (results_none ah _ _).1 (results_none ah _ _).2) ?_;exact LD _ o _ ⟨rfl,rfl,rfl⟩
def J6(K off:Nat)(X5:o K)(hc:w.cell? ⟨K,off,we⟩=so (.int .i32 1))(hz:w.frozen? ⟨K,off,we⟩=false)(b:Frame)(tm:Array Value)(ds:List Deferred)(todo:List Item)(cs:List Frame)(h:XB ak Fin 0 o (G {b.at ⟨tm,ds⟩ todo with mode:=.returning} cs) (w.setCell ⟨K,off,we⟩ (.int .i32 0))):
  XB ak Fin 0 o (G {b.at ⟨tm,{target:=.fn (.func 46) #[],args:=#[.pointer (so ⟨K,off,we⟩)]}::ds⟩ todo with mode:=.returning} cs) w:=by
 have W0:=bZ (P:=ak) (Fin:=Fin) (d:=0);have rG:(baseD 46).kind≠.early:=by simp[baseD]
 refine W0.go rfl (λw1=>stepG_unwind_enter rfl func46 ah rfl) ?_;walk_nrmf Tryz.f46;refine W0.go rfl (λ_=>bg) ?_;refine fF ?_;refine iJ ?_;refine W0.go rfl (λw1=>qU rfl aG rG rfl func79 ah rfl w1) ?_;simp only[List.map_toArray,aB,aJ,Act.eval];walk_nrm;refine Qn K off X5 hc hz _ _ ?_;rintro v o' w' ⟨rfl,rfl,rfl⟩;rw[eC];simp only[List.getElem?_toArray,List.getElem?_cons_succ,List.getElem?_cons_zero,Option.bind_some];walk_nrm;refine W0.go rfl (λ_=>ar) ?_;refine W0.go rfl (λ_=>eD) ?_;exact W0.go rfl (λw1=>stepG_leave_deferred rfl rfl func46 (results_none ah _ _).1 (results_none ah _ _).2 rfl) h
end
def L0(n:Nat):Bool:=[15,17,18,19,20,22,26,27,29,31,33,35,39,40,41,43,47,48,50,51,52,53,56,59,60,62,66,67,68,69,70,71,72,75,76,77,80,82,83,84,85,86,87,88,89,90,91,92,93,94,95,96,97,98,100,102,103,104,105,106,107,108,109,118,119,128,129,130,131,132,133,134,135,136,137,138,139,140,141,145,146,147,148,149,150,162,163,168,176,177,178,179,180,181,185,186,187,188,189,190,191,196,197,198,199,202,204,205,206,207,208,209,210,211,212,213,214,215,216,217,218,219,220,221,222,223,224,225,226,227,228,229,230,231,232,233,234,235,236,237,238,239,240,241,242,243,244,245,246,247,248,249,250,251,252,253,254,255,256,257,258,259,260,261,262,263].contains n
def Tt:([15,17,18,19,20,22,26,27,29,31,33,35,39,40,41,43,47,48,50,51,52,53,56,59,60,62,66,67,68,69,70,71,72,75,76,77,80,82,83,84,85,86,87,88,89,90,91,92,93,94,95,96,97,98,100,102,103,104,105,106,107,108,109,118,119,128,129,130,131,132,133,134,135,136,137,138,139,140,141,145,146,147,148,149,150,162,163,168,176,177,178,179,180,181,185,186,187,188,189,190,191,196,197,198,199,202,204,205,206,207,208,209,210,211,212,213,214,215,216,217,218,219,220,221,222,223,224,225,226,227,228,229,230,231,232,233,234,235,236,237,238,239,240,241,242,243,244,245,246,247,248,249,250,251,252,253,254,255,256,257,258,259,260,261,262,263]:List Nat).all (VJ ak L0 4 [224,262,263])=true:=ah
def V9(n:Nat)(hn:L0 n=true)(f:Rn)(hf:ov ak f)(hh:∀n,L0 n=true->f.h n=n)(args:Array Value):Rel ak f (jJ L0 f) (callFunc n args) (callFunc n (args.map (val f))):=by
 obtain⟨fn,h1,-,h2⟩:=BC Tt (dM.1 (by unfold L0 at hn;exact hn));rcases h2 with⟨h2,h3⟩|h2;rotate_left;simp only[bq,fi,or_false]at h2;rcases h2 with rfl|rfl|rfl
 rotate_right
 ·exact Fc h1 h2 h3 hn args
 ·exact px func224 rfl ah ah rfl (hh _ ah) args (IL _)
 ·exact px func262 rfl ah ah rfl (hh _ ah) args (yq _)
 ·exact px func263 rfl ah ah rfl (hh _ ah) args (uL hf _ _ _)
def ZT(hz:∀t i z,ak.info? t=so i->i.zero=so z->∀f:Rn,val f z=z):sJ ak L0 4 where
 zero:=hz
 call:=λn hn=>V9 n hn
 body:=λn hn=>by
  obtain⟨fn,h1,h2,-⟩:=BC Tt (dM.1 (by unfold L0 at hn;exact hn));exact⟨fn,h1,λc hc=>by rw[hc]at h2;exact h2⟩
def Tu:ak.globals.size=4:=ah
def jN:sJ ak L0 ak.globals.size:=by rw[Tu];exact ZT Fz
structure aN where
 out:ag
 eT:Int
 sa:Option Addr
 sl:Nat
 sc:Nat
def aN.cells(r:aN):List Value:=[.string r.out,.int .i64 r.eT,Value.slice r.sa r.sl r.sc]
def aN.agg(r:aN):Value:=.agg #[.string r.out,.int .i64 r.eT,Value.slice r.sa r.sl r.sc]
def fw(w:ae)(b:Nat)(rs:List aN):Prop:=∀i (h:i<rs.length),w.cell? ⟨b,i*3,we⟩=so (.string rs[i].out)/\w.cell? ⟨b,i*3+1,we⟩=so (.int .i64 rs[i].eT)/\w.cell? ⟨b,i*3+2,we⟩=so (.slice rs[i].sa rs[i].sl rs[i].sc)
section
variable {Fin:br}{o:aL}{w:ae}
def J7:(ak.info? 42).map (λi=>(i.zero,i.size,i.bytes))=so (so (.agg #[.string bF,.int .i64 0,.slice we 0 0]),3,48):=ah
def grow_grow{o:aL}{w w1 w3 w4:ae}(h1:w.heap.size<=w1.heap.size)(h2:w3.heap.size=w1.heap.size)(h3:w3.heap.size<=w4.heap.size):grow (grow o w w1) w3 w4=grow o w w4:=by
 funext b;simp only[grow,eq_iff_iff];constructor
 ·rintro((h|h)|h)
  ·exact .inl h
  ·exact .inr aa
  ·exact .inr aa
 ·rintro(h|h)
  ·exact .inl (.inl h)
  ·by_cases hb:b<w1.heap.size
   ·exact .inl (.inr aa)
   ·exact .inr aa
def gv{w w':ae}{lo:Nat}{e:TypeId}{sz:Nat}{v:Value}{n:Nat}{xs:List Value}(h:w.ownsRow lo e sz v n xs)(hh:∀g,so g=v.ownBlock->lo<=g->w'.heap[g]?=w.heap[g]?):w'.ownsRow lo e sz v n xs:=by
 obtain⟨h1,h2⟩:=h;refine⟨h1,h2.imp id ?_⟩;rintro⟨g,cap,cur,rfl,k1,k2,k3⟩;exact⟨g,cap,cur,rfl,k1,by rw[hh g rfl k1];exact k2,k3⟩
def j0{P:Program}{o:Oper}{a:Act}{w w':ae}{v xv v':Value}(s x:Operand)(t:TypeId)(ho:o.op=.call {callee:=.builtin .append,args:=#[s,x],argTypes:=#[t,t]})(hs:a.eval s=v)(hx:a.eval x=xv)(hr:(Builtin.append_ #[t,t] o.type #[v,xv]).run P w=.ok v' w'):(execOp a.eval o).run P w=.ok (.value v') w':=by
 unfold execOp;simp only[ho,resolve,invoke,builtin,Sem.run_bind,Sem.run_pure,Result.andThen_ok,List.map_toArray,aB,aJ,hs,hx,hr]
structure Round(w w':ae)(Bx l lo i:Nat)(v v':Value)(xs:List Value)(r:aN)(lr:Loop):Prop where
 size:w.heap.size<=w'.heap.size
 old:∀b,b<w.heap.size->b≠Bx->b≠l->so b≠v.ownBlock->w'.heap[b]?=w.heap[b]?
 box:w'.heap[Bx]?=so (.cells #[v'] 35 (0,0))
 Wa:w'.heap[l]?=so (.loop {lr with state:=.ready,pending:=we})
 row:w'.ownsRow lo 42 3 v' (i+1) (xs++r.cells)
def Wb(hF:bJ ak L0 o w)(Bx l lo i:Nat)(v:Value)(xs:List Value)(r:aN)(lr:Loop)(hi:i<8)(U5:o Bx)(hl:o l)(fu:Bx≠l)(hb:w.heap[Bx]?=so (.cells #[v] 35 (0,0)))(JX:w.heap[l]?=so (.loop lr))(fe:lr.state=.ready)(Jp:lo<=w.heap.size)(hBb:Bx<lo)(hlb:l<lo)(fo:∀b,lo<=b->b<w.heap.size->o b)(cd:w.ownsRow lo 42 3 v i xs)(fG:Cl ak L0 o (.slice r.sa r.sl r.sc)){r0 r1 tl P5 bd:Code}{x:Operand}{ps:Array Tmp}(gb:Tryz.f203.body=so (.seq r0 (.seq (.seq r1 (.block 0 (.rangeFunc x ps P5 bd))) tl)))(tm:Array Value)(ew:tm.size=13)(t2:tm[2]?=so (.pointer (so ⟨Bx,0,we⟩)))(t7:tm[7]?=so r.agg)(c:Frame)(cs:List Frame)(h:∀v' w',Round w w' Bx l lo i v v' xs r lr->bJ ak L0 (grow o w w') w'->XB ak Fin 0 (grow o w w') (G (c.finish (.bool true)) cs) w'):
  XB ak Fin 0 o (G (Frame.round l 203 tm P5 bd .normal) (c::cs)) w:=by
 have V5:=gb;simp only[Tryz.f203,ay,Code.seq.injEq,Code.block.injEq,Code.rangeFunc.injEq,true_and]at V5;obtain⟨-,⟨-,-,-,rfl,rfl⟩,-⟩:=V5;have W:=bZ (P:=ak) (Fin:=Fin) (d:=0);obtain⟨gs,rfl⟩:=l8 ew;simp only[List.range,List.range.loop,aB,aJ]at *;simp only[List.getElem?_toArray,List.getElem?_cons_succ,List.getElem?_cons_zero,ay]at t2 t7;simp only[t2,t7];rw[round_eq];have kL:∀{x:Op},(∀c,x≠.defer c)->∀c,x≠.defer c:=λh=>h;refine W.go rfl (λ_=>yH) ?_;refine fF ?_;refine Bw jN hF rfl (λw1 v w' hr=>pF rfl aG aj hr rfl) aG Oz (R:=λwl v bN=>v=.pointer (so ⟨wl.heap.size,0,we⟩)/\bN=wl.alloc (Obj.cells #[.string bF,.int .i64 0,.slice we 0 0] 42)) (λwl bu=>⟨_,_,by simp[go_sem];rfl,rfl,rfl⟩) λwl v1 bN w1 bu hR fP=>?_;obtain⟨rfl,hR⟩:=hR;obtain⟨z1,k1,k2⟩:=fP.alloc hF bu hR;have lS:=fP.bS;rw[bu.size];clear hR fP bu wl bN;walk_nrm;have Qo:grow o w w1 w.heap.size:=.inr ⟨af _,aa⟩;have Wc:Cl ak L0 (grow o w w1) r.agg:=sB (vs:=[.string r.out,.int .i64 r.eT,Value.slice r.sa r.sl r.sc]) (by
  intro y hy;simp at hy;rcases hy with rfl|rfl|rfl
  ·exact dH
  ·exact lG
  ·exact fG.up qf)
 have cR:∀b,o b->b<w.heap.size:=λb hb=>hF.lt hb;have ac9:=cR Bx U5;have ahq:=cR l hl;refine CM jN lS rfl (λw1 w' hr=>CO rfl aG aj hr rfl) aG ?_ (R:=λwl bN=>bN=((wl.setCell ⟨w.heap.size,0,we⟩ (.string r.out)).setCell ⟨w.heap.size,1,we⟩ (.int .i64 r.eT)).setCell ⟨w.heap.size,2,we⟩ (Value.slice r.sa r.sl r.sc)) (λwl bu=>?_) λwl bN w2 bu hR fP=>?_
 ·intro y hy;simp[Op.operands]at hy;rcases hy with rfl|rfl
  ·exact gE Qo
  ·simp[Act.eval];exact Wc
 ·have hx:wl.heap[w.heap.size]?=so (Obj.cells #[.string bF,.int .i64 0,.slice we 0 0] 42):=(bu.heap _ Qo).trans k2;refine⟨_,?_,rfl⟩;have c0:wl.cell? ⟨w.heap.size,0,we⟩=so (.string bF):=by simp[World.cell?,hx]
  have c1:wl.cell? ⟨w.heap.size,1,we⟩=so (.int .i64 0):=by simp[World.cell?,hx]
  have c2:wl.cell? ⟨w.heap.size,2,we⟩=so (.slice we 0 0):=by simp[World.cell?,hx]
  have f:∀j,wl.frozen? ⟨w.heap.size,j,we⟩=false:=λj=>by simp[World.frozen?,hx]
  simp[go_sem,aN.agg,c0,c1,c2,f]
 obtain⟨z2,m1,m2,e2⟩:=fP.store bu Qo (by rw[hR];simp[World.setCell]) (λb hb=>by rw[hR,RowKit.Below.heap_setCell _ _ _ b hb,RowKit.Below.heap_setCell _ _ _ b hb,RowKit.Below.heap_setCell _ _ _ b hb]);have m2':w2.heap[w.heap.size]?=so (Obj.cells #[.string r.out,.int .i64 r.eT,Value.slice r.sa r.sl r.sc] 42):=by
  have hx:wl.heap[w.heap.size]?=so (Obj.cells #[.string bF,.int .i64 0,.slice we 0 0] 42):=(bu.heap _ Qo).trans k2;rw[m2,hR];simp[World.setCell,aR,hx]
 have rK:=fP.bS;rw[e2]at rK |-;clear hR fP bu wl bN m2;walk_nrm;refine W.go rfl (λ_=>sQ) ?_;have OA:w2.heap[l]?=so (.loop lr):=by rw[m1 l aa,k1 l ahq];exact JX
 have oe:w2.heap[Bx]?=so (.cells #[v] 35 (0,0)):=by rw[m1 Bx aa,k1 Bx ac9];exact hb
 refine sR (t:=λw=>dL w l {lr with state:=.busy}) (l:=l) rfl (λn=>Js (w:=w2.at n) OA fe) (by simp[dL]) ?_;have vJ:bJ ak L0 (grow o w w1) (dL w2 l {lr with state:=.busy}):=qg rK rfl (λf=>by simp[obj]) (.inl hl);have ada:(dL w2 l {lr with state:=.busy}).heap[l]?=so (.loop {lr with state:=.busy}):=by
  simp only[dL];rw[cn aa]
 have m3:∀b,b≠l->(dL w2 l {lr with state:=.busy}).heap[b]?=w2.heap[b]?:=λb hb=>by simp only[dL];rw[aQ (bw hb)]
 have z3:(dL w2 l {lr with state:=.busy}).heap.size=w2.heap.size:=by simp[dL]
 generalize dL w2 l {lr with state:=.busy}=w3 at *;refine W.go rfl (λ_=>Jr) ?_;refine W.go rfl (λ_=>yH) ?_;refine fF ?_;have hoB:grow o w w1 Bx:=.inl U5;have FG:w3.heap[Bx]?=so (.cells #[v] 35 (0,0)):=(m3 Bx fu).trans oe;have Tn:w3.heap[w.heap.size]?=so (Obj.cells #[.string r.out,.int .i64 r.eT,.slice r.sa r.sl r.sc] 42):=(m3 _ aa).trans m2';refine zO jN vJ rfl (λw1 v w' hr=>pF rfl aG aj hr rfl) aG (v:=v) ?_ (λwl bu=>?_) λWd=>?_
 ·intro y hy;simp[Op.operands]at hy;subst hy;exact gE hoB
 ·have hx:=(bu.heap _ hoB).trans FG;have c0:wl.cell? ⟨Bx,0,we⟩=so v:=by simp[World.cell?,hx]
  simp[go_sem,c0]
 walk_nrm;refine zO jN vJ rfl (λw1 v w' hr=>pF rfl aG aj hr rfl) aG (v:=r.agg) ?_ (λwl bu=>?_) λ_=>?_
 ·intro y hy;simp[Op.operands]at hy;subst hy;exact gE Qo
 ·have hx:=(bu.heap _ Qo).trans Tn;have c0:wl.cell? ⟨w.heap.size,0,we⟩=so (.string r.out):=by simp[World.cell?,hx]
  have c1:wl.cell? ⟨w.heap.size,1,we⟩=so (.int .i64 r.eT):=by simp[World.cell?,hx]
  have c2:wl.cell? ⟨w.heap.size,2,we⟩=so (.slice r.sa r.sl r.sc):=by simp[World.cell?,hx]
  simp[go_sem,c0,c1,c2,aN.agg]
 walk_nrm;have amI:bJ ak L0 (grow o w w1) w3:=vJ;refine Bw jN vJ rfl (λw1 v w' hr=>pF rfl aG aj hr rfl) aG ?_ (R:=λwl v bN=>v=.slice (so ⟨wl.heap.size,0,we⟩) 1 1/\bN=wl.alloc (Obj.cells #[.string r.out,.int .i64 r.eT,.slice r.sa r.sl r.sc] 42)) (λwl bu=>⟨_,_,?_,rfl,rfl⟩) λwl v1 bN w4 bu hR fP=>?_
 ·intro y hy;simp[Op.operands]at hy;subst hy;simp[Act.eval];exact Wc
 ·simp[go_sem,aN.agg]
 obtain⟨rfl,hR⟩:=hR;obtain⟨z4,n1,n2⟩:=fP.alloc vJ bu hR;have BF:=fP.bS;rw[bu.size];clear hR fP bu wl bN;walk_nrm;have g4:grow (grow o w w1) w3 w4=grow o w w4:=grow_grow aa aa aa;rw[g4]at BF |-;have hw4:w.heap.size<=w4.heap.size:=aa;have Tv:∀b,b<w.heap.size->b≠l->w4.heap[b]?=w.heap[b]?:=λb hb ub=>by rw[n1 b aa,m3 b ub,m1 b aa,k1 b hb]
 have Ot:w4.ownsRow lo 42 3 v i xs:=gv cd λg hg Qp=>by
  obtain⟨hlen,iX⟩:=cd;rcases iX with⟨rfl,_⟩|⟨g',cap,cur,rfl,h1,h2,_⟩
  ·cases hg
  ·cases hg;exact Tv _ (aI.1 h2).1 aa
 have adb:Cl ak L0 (grow o w w4) v:=by rw[<- g4];exact Wd.up qf
 have hoN:grow o w w4 w3.heap.size:=.inr ⟨aa,aa⟩;have ade:∀g,so g=v.ownBlock->grow o w w4 g:=λg hg=>by
  obtain⟨hlen,iX⟩:=cd;rcases iX with⟨rfl,_⟩|⟨g',cap,cur,rfl,h1,h2,_⟩
  ·cases hg
  ·cases hg;exact .inl (fo _ h1 (aI.1 h2).1)
 obtain⟨ie,hie,We⟩:=aH.1 J7;simp only[bO]at We;refine Bw jN BF rfl (λw1 v w' hr=>pF rfl aG aj hr rfl) aG ?_ (R:=λwl v' bN=>bN.ownsRow lo 42 3 v' (i+1) (xs++r.cells)/\wl.grownBy bN v.ownBlock) (λwl bu=>?_) λwl v5 bN w5 bu hR fP=>?_
 ·intro y hy;simp[Op.operands,Call.operands]at hy;rcases hy with rfl|rfl
  ·simp[Act.eval];exact adb
  ·simp[Act.eval];exact eK hoN
 ·have hx:=(bu.heap _ hoN).trans n2;have hrl:wl.ownsRow lo 42 3 v i xs:=gv Ot λg hg _=>bu.heap g (ade g hg);have adf:∀j u,r.cells[j]?=so u->wl.cell? ((⟨w3.heap.size,0,we⟩:Addr).add j)=so u:=λj u hu=>by
   rcases(show j=0\/j=1\/j=2\/3<=j by omega)with rfl|rfl|rfl|hj
   ·simp[aN.cells]at hu;subst hu;simp[Addr.add,World.cell?,hx]
   ·simp[aN.cells]at hu;subst hu;simp[Addr.add,World.cell?,hx]
   ·simp[aN.cells]at hu;subst hu;simp[Addr.add,World.cell?,hx]
   ·rw[cV (by simp[aN.cells];omega)]at hu;cases hu
  have adg:∀u∈r.cells,u.oneCell'=true:=by
   intro u hu;simp[aN.cells]at hu;rcases hu with rfl|rfl|rfl<;>rfl
  obtain⟨v',bN,e1,e2,e3,_⟩:=run_append_own wl lo 35 35 42 ie _ 3 48 underlying35 hie We.1 We.2.1 We.2.2 rfl aa v i xs hrl ⟨w3.heap.size,0,we⟩ 1 1 r.cells rfl adf adg (by simp[maxLen];omega) aa (by rw[bu.size];omega);exact⟨v',bN,j0 (.tmp 8) (.tmp 10) 35 rfl ax ax e1,e2,e3⟩
 have g5:grow (grow o w w4) w4 w5=grow o w w5:=grow_grow hw4 rfl fP.sx;have zu:=fP.bS;have Qq:=fP.same;have HZ:=fP.rest;have z5:=fP.sx;rw[g5]at zu Qq |-;obtain⟨yQ,Lp⟩:=hR;have adh:∀b,b<w.heap.size->b≠l->so b≠v.ownBlock->w5.heap[b]?=w.heap[b]?:=λb hb ub hbv=>by
  rw[<- Tv b hb ub];by_cases ho:grow o w w4 b
  ·rw[Qq b (ho.imp id λh=>⟨h.1,aa⟩),Lp.block b (by rw[bu.size];omega) hbv,bu.heap b ho]
  ·exact HZ b aa ho
 have Wf:∀g,so g=v.ownBlock->lo<=g:=λg hg=>by
  obtain⟨hlen,iX⟩:=cd;rcases iX with⟨rfl,_⟩|⟨g',cap,cur,rfl,h1,h2,_⟩
  ·cases hg
  ·cases hg;exact h1
 have Tw:w5.ownsRow lo 42 3 v5 (i+1) (xs++r.cells):=gv yQ λg hg Qp=>Qq g (by
  obtain⟨hlen,iX⟩:=yQ;rcases iX with⟨rfl,_⟩|⟨g',cap,cur,rfl,h1,h2,_⟩
  ·cases hg
  ·have e:g=g':=aP hg;subst e;have h3:=(aI.1 h2).1;have hz:=fP.size;by_cases hgw:g<w.heap.size
   ·exact .inl (fo _ h1 hgw)
   ·exact .inr ⟨aa,aa⟩)
 have ahs:w5.heap[l]?=w3.heap[l]?:=by
  rw[Qq l (.inl hl),Lp.block l (by rw[bu.size];omega) (λe=>by have:=Wf l e;omega),bu.heap l (.inl hl),n1 l aa]
 have ZU:Cl ak L0 (grow o w w5) v5:=by have:=fP.val;rw[g5]at this;exact this
 have hb5:w5.heap[Bx]?=so (.cells #[v] 35 (0,0)):=by rw[adh Bx ac9 fu (λe=>by have:=Wf Bx e;omega)];exact hb
 clear Lp yQ bu fP wl bN Qq HZ g5 g4;walk_nrm;have Wh:grow o w w5 Bx:=.inl U5;refine CM jN zu rfl (λw1 w' hr=>CO rfl aG aj hr rfl) aG ?_ (R:=λwl bN=>bN=wl.setCell ⟨Bx,0,we⟩ v5) (λwl bu=>⟨_,?_,rfl⟩) λwl bN w6 bu hR fP=>?_
 ·intro y hy;simp[Op.operands]at hy;rcases hy with rfl|rfl
  ·exact gE Wh
  ·simp[Act.eval];exact ZU
 ·have hx:=(bu.heap _ Wh).trans hb5;have c0:wl.cell? ⟨Bx,0,we⟩=so v:=by simp[World.cell?,hx]
  have f:∀j,wl.frozen? ⟨Bx,j,we⟩=false:=λj=>by simp[World.frozen?,hx]
  obtain⟨hlen,iX⟩:=Tw;rcases iX with⟨rfl,_⟩|⟨g',cap,cur,rfl,h1,h2,_⟩
  ·simp[go_sem,c0,f]
  ·simp[go_sem,c0,f]
 obtain⟨z6,q1,q2,e6⟩:=fP.store bu Wh (by rw[hR];simp[World.setCell]) (λb hb=>by rw[hR,RowKit.Below.heap_setCell _ _ _ b hb]);have q2':w6.heap[Bx]?=so (Obj.cells #[v5] 35):=by
  have hx:=(bu.heap _ Wh).trans hb5;rw[q2,hR];simp[World.setCell,aR,hx]
 have BG:=fP.bS;rw[e6]at BG |-;clear hR fP bu wl bN q2;walk_nrm;refine W.go rfl (λ_=>sQ) ?_;refine W.go rfl (λ_=>Ep) ?_;have adj:w6.heap[l]?=so (.loop {lr with state:=.busy}):=by rw[q1 l (bw fu),ahs];exact ada
 refine sR (t:=λw=>dL w l {{lr with state:=.busy} with state:=.ready,pending:=we}) (l:=l) rfl (λn=>P6 (w:=w6.at n) adj) (by simp[dL]) ?_;have Tx:bJ ak L0 (grow o w w5) (dL w6 l {{lr with state:=.busy} with state:=.ready,pending:=we}):=qg BG rfl (λf=>by simp[obj]) (.inl hl);have g7:grow o w w5=grow o w (dL w6 l {{lr with state:=.busy} with state:=.ready,pending:=we}):=by
  have:(dL w6 l {{lr with state:=.busy} with state:=.ready,pending:=we}).heap.size=w5.heap.size:=by simp[dL];omega
  unfold grow;rw[this]
 rw[g7]at Tx |-;have q3:∀b,b≠l->(dL w6 l {{lr with state:=.busy} with state:=.ready,pending:=we}).heap[b]?=w6.heap[b]?:=λb hb=>by simp only[dL];rw[aQ (bw hb)]
 refine h v5 _ ⟨?_,λb h1 h2 h3 h4=>?_,?_,?_,?_⟩ Tx
 ·simp[dL];omega
 ·rw[q3 b h3,q1 b h2,adh b h1 h3 h4]
 ·rw[q3 Bx fu];exact q2'
 ·simp only[dL];rw[cn aa]
 ·refine gv Tw λg hg Qp=>?_;rw[q3 g aa,q1 g aa]
structure Ty(o0:aL)(w0:ae)(Bx l rd lo:Nat)(lr:Loop)(rs:List aN)(i:Nat)(o:aL)(w:ae)(v:Value):Prop where
 own:o=grow o0 w0 w
 bS:bJ ak L0 o w
 size:lo<=w.heap.size
 le:w0.heap.size<=w.heap.size
 old:∀b,b<lo->b≠Bx->b≠l->w.heap[b]?=w0.heap[b]?
 box:w.heap[Bx]?=so (.cells #[v] 35 (0,0))
 Wa:w.heap[l]?=so (.loop {lr with state:=.ready,pending:=we})
 row:w.ownsRow lo 42 3 v i ((rs.take i).flatMap aN.cells)
def J8(o0:aL)(w0:ae)(Bx l rd lo Ru c:Nat)(lr:Loop)(rs:List aN)(hn:rs.length<=8)(U5:Bx<lo)(hl:l<lo)(fu:Bx≠l)(hBl:w0.heap.size<=lo)(hBo:o0 Bx)(Jp:o0 l)(aht:lo=w0.heap.size)(AH:o0 Ru)(adk:Ru≠Bx/\Ru≠l)(HY:fw w0 Ru rs)(fG:∀r∈rs,Cl ak L0 o0 (.slice r.sa r.sl r.sc))(p:Option Addr)(hp:rs≠[]->p=so ⟨Ru,0,we⟩)(lf:lr.fn=203)(lp:lr.params=#[7])(lt:lr.tmps.size=13)(ZV:lr.tmps[2]?=so (.pointer (so ⟨Bx,0,we⟩))){r0 r1 tl:Code}{x:Operand}{ps:Array Tmp}(gb:Tryz.f203.body=so (.seq r0 (.seq (.seq r1 (.block 0 (.rangeFunc x ps lr.assign lr.body))) tl))){q0 lq:Code}(ZW:Tryz.f186.body=so (.seq q0 (.block 0 (.loop lq))))(cA:Frame)(cs:List Frame)(Ex:∀o w v (tm:Array Value),Ty o0 w0 Bx l rd lo lr rs rs.length o w v->XB ak Fin 0 o (G ((base 186).at ⟨tm,[]⟩ []) (cA::cs)) w):
  ∀r i,r+i=rs.length->∀o w v (tm:Array Value),Ty o0 w0 Bx l rd lo lr rs i o w v->tm.size=16->tm[0]?=so (.func (.yield l) #[] #[])->tm[5]?=so (.slice p rs.length c)->tm[6]?=so (.int .i64 rs.length)->tm[7]?=so (.int .i64 i) ->
   XB ak Fin 0 o (G ((base 186).at ⟨tm,[]⟩ (.code lq :: .inLoop lq :: .inBlock 0::[])) (cA::cs)) w:=by
 have hlq:=ZW;simp only[Tryz.f186,ay,Code.seq.injEq,Code.block.injEq,Code.loop.injEq,true_and]at hlq;obtain⟨-,hlq⟩:=hlq;have W:=bZ (P:=ak) (Fin:=Fin) (d:=0);have rG:(base 186).kind≠.early:=by simp[base]
 intro r
 induction r with
 |zero =>
  intro i hi o w v tm I ew t0 t5 t6 t7;have J9:¬((i:Int)<(rs.length:Int)):=aa;obtain⟨gs,rfl⟩:=l8 ew;simp only[List.range,List.range.loop,aB,aJ]at *;simp only[List.getElem?_toArray,List.getElem?_cons_succ,List.getElem?_cons_zero,ay]at t0 t5 t6 t7;simp only[t0,t5,t6,t7];rw[show(Item.code lq)=Item.code _ from congrArg Item.code hlq.symm];refine W.go rfl (λ_=>aE) ?_;refine W.go rfl (λ_=>bg) ?_;refine fF ?_;refine iJ ?_;refine W.go rfl (λ_=>ar) ?_;refine W.go rfl (λ_=>aE) ?_;refine W.go rfl (λ_=>eG (t:=false) (by simp[Act.eval,J9])) ?_;simp only[aT,if_false];refine W.go rfl (λ_=>stepG_exit rfl) ?_;exact Ex o w v _ (by rw[show rs.length=i by omega];exact I)
 |succ r ih =>
  intro i hi o w v tm I ew t0 t5 t6 t7;have cR:i<rs.length:=aa;have Qr:(i:Int)<(rs.length:Int):=aa;obtain rfl:=hp (lU cR);have sL:IntKind.wrap .i64 ((i:Int)+1)=(i:Int)+1:=by rw[IntKind.wrap_i64];omega
  obtain⟨gs,rfl⟩:=l8 ew;simp only[List.range,List.range.loop,aB,aJ]at *;simp only[List.getElem?_toArray,List.getElem?_cons_succ,List.getElem?_cons_zero,ay]at t0 t5 t6 t7;simp only[t0,t5,t6,t7];rw[show(Item.code lq)=Item.code _ from congrArg Item.code hlq.symm];refine W.go rfl (λ_=>aE) ?_;refine W.go rfl (λ_=>bg) ?_;refine fF ?_;refine iJ ?_;refine W.go rfl (λ_=>ar) ?_;refine W.go rfl (λ_=>aE) ?_;refine W.go rfl (λ_=>eG (t:=true) (by simp[Act.eval,Qr])) ?_;simp only[if_true];refine W.go rfl (λ_=>cD) ?_;refine W.go rfl (λ_=>aE) ?_;refine W.go rfl (λ_=>fJ) ?_;refine W.go rfl (λ_=>aE) ?_;refine W.go rfl (λ_=>bg) ?_;refine fF ?_;refine iJ ?_;have pB:∀b,o0 b->o b:=λb hb=>by rw[I.own];exact .inl hb
  have adm:Ru<lo:=by
   have:=(HY 0 aa).1;have h2:Ru<w0.heap.size:=by
    refine fg λhh=>?_;rw[World.cell?,bX hh]at this;cases this
   omega
  have GZ:w.heap[Ru]?=w0.heap[Ru]?:=I.old Ru adm adk.1 adk.2;have Wi:Cl ak L0 o (.slice rs[i].sa rs[i].sl rs[i].sc):=(fG _ (aA cR)).up pB;have Wc:Cl ak L0 o rs[i].agg:=sB (vs:=[.string rs[i].out,.int .i64 rs[i].eT,.slice rs[i].sa rs[i].sl rs[i].sc]) (by
   intro y hy;simp at hy;rcases hy with rfl|rfl|rfl
   ·exact dH
   ·exact lG
   ·exact Wi)
  refine nQ jN I.bS rfl aG rG aG ?_ rfl (v:=rs[i].agg) (λwl bu=>?_) λ_=>?_
  ·intro y hy;simp[Op.operands]at hy;subst hy;exact gE (pB _ AH)
  ·have hx:=(bu.heap _ (pB _ AH)).trans GZ;obtain⟨c0,c1,c2⟩:=HY i cR;have d0:wl.cell? ⟨Ru,i*3,we⟩=so (.string rs[i].out):=(cell_of hx).trans c0;have d1:wl.cell? ⟨Ru,i*3+1,we⟩=so (.int .i64 rs[i].eT):=(cell_of hx).trans c1;have d2:wl.cell? ⟨Ru,i*3+2,we⟩=so (.slice rs[i].sa rs[i].sl rs[i].sc):=(cell_of hx).trans c2;simp[go_sem,d0,d1,d2,aN.agg]
  walk_nrm;generalize hri:rs[i]=ri at *;refine CN jN I.bS rfl aG rG aG Oz rfl (R:=λwl v bN=>v=.pointer (so ⟨wl.heap.size,0,we⟩)/\bN=wl.alloc (Obj.cells #[.string bF,.int .i64 0,.slice we 0 0] 42)) (λwl bu=>⟨_,_,by simp[go_sem];rfl,rfl,rfl⟩) λwl v1 bN w1 bu hR fP=>?_;obtain⟨rfl,hR⟩:=hR;obtain⟨z1,k1,k2⟩:=fP.alloc I.bS bu hR;have lS:=fP.bS;rw[bu.size];clear hR fP bu wl bN;walk_nrm;have Qo:grow o w w1 w.heap.size:=.inr ⟨af _,aa⟩;refine AB jN lS rfl aG rG aG ?_ rfl (R:=λwl bN=>bN=((wl.setCell ⟨w.heap.size,0,we⟩ (.string ri.out)).setCell ⟨w.heap.size,1,we⟩ (.int .i64 ri.eT)).setCell ⟨w.heap.size,2,we⟩ (.slice ri.sa ri.sl ri.sc)) (λwl bu=>?_) λwl bN w2 bu hR fP=>?_
  ·intro y hy;simp[Op.operands]at hy;rcases hy with rfl|rfl
   ·exact gE Qo
   ·simp[Act.eval];exact Wc.up qf
  ·have hx:wl.heap[w.heap.size]?=so (Obj.cells #[.string bF,.int .i64 0,.slice we 0 0] 42):=(bu.heap _ Qo).trans k2;refine⟨_,?_,rfl⟩;have c0:wl.cell? ⟨w.heap.size,0,we⟩=so (.string bF):=by simp[World.cell?,hx]
   have c1:wl.cell? ⟨w.heap.size,1,we⟩=so (.int .i64 0):=by simp[World.cell?,hx]
   have c2:wl.cell? ⟨w.heap.size,2,we⟩=so (.slice we 0 0):=by simp[World.cell?,hx]
   have f:∀j,wl.frozen? ⟨w.heap.size,j,we⟩=false:=λj=>by simp[World.frozen?,hx]
   simp[go_sem,aN.agg,c0,c1,c2,f]
  obtain⟨z2,m1,m2,e2⟩:=fP.store bu Qo (by rw[hR];simp[World.setCell]) (λb hb=>by rw[hR,RowKit.Below.heap_setCell _ _ _ b hb,RowKit.Below.heap_setCell _ _ _ b hb,RowKit.Below.heap_setCell _ _ _ b hb]);have m2':w2.heap[w.heap.size]?=so (Obj.cells #[.string ri.out,.int .i64 ri.eT,.slice ri.sa ri.sl ri.sc] 42):=by
   have hx:wl.heap[w.heap.size]?=so (Obj.cells #[.string bF,.int .i64 0,.slice we 0 0] 42):=(bu.heap _ Qo).trans k2;rw[m2,hR];simp[World.setCell,aR,hx]
  have rK:=fP.bS;rw[e2]at rK |-;clear hR fP bu wl bN m2;walk_nrm;refine W.go rfl (λ_=>ar) ?_;refine W.go rfl (λ_=>aE) ?_;refine W.go rfl (λ_=>bg) ?_;refine fF ?_;refine iJ ?_;refine nQ jN rK rfl aG rG aG ?_ rfl (v:=ri.agg) (λwl bu=>?_) λ_=>?_
  ·intro y hy;simp[Op.operands]at hy;subst hy;exact gE Qo
  ·have hx:=(bu.heap _ Qo).trans m2';have c0:wl.cell? ⟨w.heap.size,0,we⟩=so (.string ri.out):=by simp[World.cell?,hx]
   have c1:wl.cell? ⟨w.heap.size,1,we⟩=so (.int .i64 ri.eT):=by simp[World.cell?,hx]
   have c2:wl.cell? ⟨w.heap.size,2,we⟩=so (.slice ri.sa ri.sl ri.sc):=by simp[World.cell?,hx]
   simp[go_sem,c0,c1,c2,aN.agg]
  walk_nrm;have hlw:l<w.heap.size:=by have:=I.size;omega
  have hBw:Bx<w.heap.size:=by have:=I.size;omega
  have OA:w2.heap[l]?=so (.loop {lr with state:=.ready,pending:=we}):=by rw[m1 l aa,k1 l hlw];exact I.Wa
  refine sR (t:=λw=>w) (l:=l) rfl (λn=>Jq (w:=w2.at n) (t:=7) rfl aG rG rfl ax rfl OA lp) rfl ?_;have amP:w2.heap.size=w.heap.size+1:=aa;simp only[lf];refine Wb rK Bx l lo i v ((rs.take i).flatMap aN.cells) ri {lr with state:=.ready,pending:=we} aa (.inl (pB _ hBo)) (.inl (pB _ Jp)) fu ?_ OA rfl (by have:=I.size;omega) U5 hl ?_ ?_ (Wi.up qf) gb _ ?_ ?_ ?_ _ _ ?_
  ·rw[m1 Bx aa,k1 Bx hBw];exact I.box
  ·intro b h1 h2;by_cases hb:b<w.heap.size
   ·refine .inl ?_;rw[I.own];exact .inr ⟨aa,hb⟩
   ·exact .inr ⟨aa,aa⟩
  ·refine gv I.row λg hg Qp=>?_;have hgw:g<w.heap.size:=by
    obtain⟨hlen,iX⟩:=I.row;rcases iX with⟨rfl,_⟩|⟨g',cap,cur,rfl,h1,h2,_⟩
    ·cases hg
    ·have e:g=g':=aP hg;subst e;exact(aI.1 h2).1
   rw[m1 g aa,k1 g hgw]
  ·simp[lt]
  ·rw[aQ aa];exact ZV
  ·rw[cn aa];simp[Act.eval]
  intro v' w' X6 hF';have eg:grow (grow o w w1) w2 w'=grow o0 w0 w':=by
   rw[grow_grow aa z2 X6.size,I.own,grow_grow I.le rfl (by have:=X6.size;omega)]
  rw[eg]at hF' |-;rw[eC];walk_nrm;refine iJ ?_;refine W.go rfl (λ_=>ar) ?_;refine W.go rfl (λ_=>eG (t:=false) ax) ?_;simp only[aT,if_false];refine W.go rfl (λ_=>cD) ?_;refine W.go rfl (λ_=>gX) ?_;refine W.go rfl (λ_=>bg) ?_;refine fF ?_;refine iJ ?_;refine W.go rfl (λ_=>ar) ?_;refine W.go rfl (λ_=>jq) ?_;refine ih (i+1) aa _ _ v' _ ⟨rfl,hF',?_,?_,?_,X6.box,X6.Wa,?_⟩ rfl rfl rfl rfl ?_
  ·have:=X6.size;have:=I.size;omega
  ·have:=X6.size;have:=I.le;omega
  ·intro b h1 h2 h3;have hv:some b≠v.ownBlock:=λe=>by
    obtain⟨hlen,iX⟩:=I.row;rcases iX with⟨rfl,_⟩|⟨g',cap,cur,rfl,h4,h5,_⟩
    ·cases e
    ·have e:b=g':=aP e;omega
   have im:b<w.heap.size:=by have:=I.size;omega
   rw[X6.old b aa h2 h3 hv,m1 b aa,k1 b im];exact I.old b h1 h2 h3
  ·rw[kH,au cR,hri];simp only[List.flatMap_append,Option.toList_some,List.flatMap_cons,List.flatMap_nil,List.append_nil];exact X6.row
  ·simp
def Ka{P:Program}{L:Nat->Bool}{o:aL}{w:ae}(h:bJ P L o w)(fn:FuncId)(tmps:Array Value)(ps:Array Tmp)(P5 bd:Code):
  bJ P L (λb=>(o b\/b=w.heap.size)\/b=w.heap.size+1) (nO w fn tmps ps P5 bd)/\(nO w fn tmps ps P5 bd).heap.size=w.heap.size+2/\(∀b,b<w.heap.size->(nO w fn tmps ps P5 bd).heap[b]?=w.heap[b]?)/\(nO w fn tmps ps P5 bd).heap[w.heap.size]?=so (.deferred (so [])) /\
   (nO w fn tmps ps P5 bd).heap[w.heap.size+1]?=so (.loop {state:=.ready,pending:=we,fn:=fn,tmps:=tmps,params:=ps,assign:=P5,body:=bd,defers:=w.heap.size}):=by
 refine⟨?_,by simp[nO],λb hb=>?_,?_,?_⟩
 ·have h1:=h.alloc (x:=.deferred (so [])) rfl (λf _=>by simp[obj]);have h2:=h1.alloc (x:=.loop {state:=.ready,pending:=we,fn:=fn,tmps:=tmps,params:=ps,assign:=P5,body:=bd,defers:=w.heap.size}) rfl (λf _=>by simp[obj]);simpa[nO] using h2
 ·simp only[nO,World.alloc];rw[dE eW,Array.getElem_push_lt aa];simp[hb]
 ·simp only[nO,World.alloc];rw[dE aj,Array.getElem_push_eq]
 ·simp only[nO,World.alloc];rw[dX,if_pos aj]
def Wj{o0:aL}{w0:ae}{n:Nat}(hF:bJ ak L0 o0 w0)(hz:w0.heap.size=n+3)(o1:o0 n)(o2:o0 (n+1))(o3:o0 (n+2))(ZO:w0.heap[n]?=so (.cells #[.slice we 0 0] 35 (0,0)))(ahu:w0.heap[n+1]?=so (.deferred (so [])))(lr:Loop)(hlr:w0.heap[n+2]?=so (.loop lr))(ls:lr.state=.ready)(lpe:lr.pending=we)(Sv Ru c:Nat)(p:Option Addr)(rs:List aN)(hn:rs.length<=8)(U6:o0 Sv)(hs:w0.cell? ⟨Sv,0,we⟩=so (.slice p rs.length c))(hp:rs≠[]->p=so ⟨Ru,0,we⟩)(AH:o0 Ru)(Wk:Ru<n)(HY:fw w0 Ru rs)(fG:∀r∈rs,Cl ak L0 o0 (.slice r.sa r.sl r.sc))(lf:lr.fn=203)(lp:lr.params=#[7])(lt:lr.tmps.size=13)(ZV:lr.tmps[2]?=so (.pointer (so ⟨n,0,we⟩))){r0 r1 tl:Code}{x:Operand}{ps:Array Tmp}(gb:Tryz.f203.body=so (.seq r0 (.seq (.seq r1 (.block 0 (.rangeFunc x ps lr.assign lr.body))) tl)))(cf:Frame)(cs:List Frame)(h:∀v w',w'.heap.size>=n+3->bJ ak L0 (grow o0 w0 w') w'->(∀b,b<n->w'.heap[b]?=w0.heap[b]?)->w'.ownsRow (n+3) 42 3 v rs.length (rs.flatMap aN.cells)->XB ak Fin 0 (grow o0 w0 w') (G (cf.finish v) cs) w'):
  XB ak Fin 0 o0 (G (Frame.enter ak 186 #[.func (.yield (n+2)) #[] #[],.pointer (so ⟨Sv,0,we⟩)] .normal) ((base 203).at ⟨lr.tmps,[{target:=.collected (n+1),args:=#[]}]⟩ [.inRangeFunc (n+2),.inBlock 0,.code tl]::cf::cs)) w0:=by
 have W:=bZ (P:=ak) (Fin:=Fin) (d:=0);have rG:(base 186).kind≠.early:=by simp[base]
 have adp:(base 203).kind≠.early:=by simp[base]
 have hs0:∃x,w0.heap[Sv]?=so x:=by obtain⟨x,k,_⟩:=hF.shut Sv U6;exact⟨x,k⟩
 rw[jr func186 rfl];walk_nrmf Tryz.f186;refine W.go rfl (λ_=>aE) ?_;refine W.go rfl (λ_=>bg) ?_;refine fF ?_;refine nQ jN hF rfl aG rG aG ?_ rfl (v:=.slice p rs.length c) (λwl bu=>?_) λ_=>?_
 ·intro y hy;simp[Op.operands]at hy;subst hy;exact gE U6
 ·obtain⟨x,hx⟩:=hs0;have c0:wl.cell? ⟨Sv,0,we⟩=so (.slice p rs.length c):=(cell_of (bu.heap _ U6)).trans hs;simp[go_sem,c0]
 walk_nrm;refine iJ ?_;refine W.go rfl (λ_=>ar) ?_;refine W.go rfl (λ_=>fJ) ?_;refine W.go rfl (λ_=>kE) ?_;have ahv:({lr with state:=.ready,pending:=we}:Loop)=lr:=by cases lr;simp only at ls lpe;subst ls;subst lpe;rfl
 refine J8 o0 w0 n (n+2) (n+1) (n+3) Ru c lr rs hn aa aa aa aa o1 o3 hz.symm AH ⟨aa,aa⟩ HY fG p hp lf lp lt ZV gb rfl _ _ ?_ rs.length 0 rfl _ _ (.slice we 0 0) _ ⟨?_,hF,aa,af _,λ_ _ _ _=>rfl,ZO,?_,?_⟩ rfl rfl rfl rfl rfl;rotate_left
 ·funext b;simp only[grow,eq_iff_iff];constructor
  ·exact .inl
  ·rintro(h1|h1)
   ·exact h1
   ·omega
 ·rw[hlr,ahv]
 ·exact⟨rfl,.inl ⟨rfl,rfl⟩⟩
 intro o' w' v tm I;refine W.go rfl (λ_=>eD) ?_;refine W.go rfl (λw1=>stepG_leave rfl rfl func186 (results_none ah _ _).1 (results_none ah _ _).2) ?_;have mV:((base 203).at ⟨lr.tmps,[{target:=.collected (n+1),args:=#[]}]⟩ [.inRangeFunc (n+2),.inBlock 0,.code tl]).finish (.tuple #[])=(base 203).at ⟨lr.tmps,[{target:=.collected (n+1),args:=#[]}]⟩ [.endRangeFunc (n+2),.inBlock 0,.code tl]:=by
  simp[Frame.finish,Frame.at]
 rw[mV];have GY:=I.Wa;refine sR (t:=λw=>dL w (n+2) {{lr with state:=.ready,pending:=we} with state:=.exhausted}) (l:=n+2) rfl (λm=>Eo (w:=w'.at m) GY rfl rfl rfl) (by simp[dL]) ?_;have pB:∀b,o0 b->o' b:=λb hb=>by rw[I.own];exact .inl hb
 have lS:bJ ak L0 o' (dL w' (n+2) {{lr with state:=.ready,pending:=we} with state:=.exhausted}):=qg I.bS rfl (λf=>by simp[obj]) (pB _ o3);have Zp:(dL w' (n+2) {{lr with state:=.ready,pending:=we} with state:=.exhausted}).heap.size=w'.heap.size:=by simp[dL]
 have hk1:∀b,b≠n+2->(dL w' (n+2) {{lr with state:=.ready,pending:=we} with state:=.exhausted}).heap[b]?=w'.heap[b]?:=λb hb=>by simp only[dL];rw[aQ (bw hb)]
 generalize dL w' (n+2) {{lr with state:=.ready,pending:=we} with state:=.exhausted}=w1 at *;have htl:=gb;simp only[Tryz.f203,ay,Code.seq.injEq,true_and]at htl;obtain⟨-,-,htl⟩:=htl;obtain⟨gs,Oc⟩:=l8 lt;rw[Oc]at ZV |-;simp only[List.range,List.range.loop,aB,aJ]at ZV |-;simp only[List.getElem?_toArray,List.getElem?_cons_succ,List.getElem?_cons_zero,ay]at ZV;simp only[ZV];rw[show(Item.code tl)=Item.code _ from congrArg Item.code htl.symm];refine W.go rfl (λ_=>gX) ?_;refine W.go rfl (λ_=>aE) ?_;refine W.go rfl (λ_=>bg) ?_;refine fF ?_;have Ev:w1.heap[n]?=so (.cells #[v] 35 (0,0)):=(hk1 n aa).trans I.box;refine nQ jN lS rfl aG adp aG ?_ rfl (v:=v) (λwl bu=>?_) λ_=>?_
 ·intro y hy;simp[Op.operands]at hy;subst hy;exact gE (pB _ o1)
 ·have hx:=(bu.heap _ (pB _ o1)).trans Ev;have c0:wl.cell? ⟨n,0,we⟩=so v:=by simp[World.cell?,hx]
  simp[go_sem,c0]
 walk_nrm;have rG:=adp;refine iJ ?_;refine W.go rfl (λ_=>ar) ?_;refine W.go rfl (λ_=>stepG_ret') ?_;have hd1:w1.heap[n+1]?=so (.deferred (so [])):=by rw[hk1 _ aa,I.old _ aa aa aa];exact ahu
 refine sR (t:=λw=>{w with heap:=w.heap.setIfInBounds (n+1) (.deferred we)}) (l:=n+1) rfl (λm=>Ba (w:=w1.at m) rfl hd1) aj ?_;have rK:bJ ak L0 o' {w1 with heap:=w1.heap.setIfInBounds (n+1) (.deferred we)}:=qg lS rfl (λf=>by simp[obj]) (pB _ o2);have ZJ:({w1 with heap:=w1.heap.setIfInBounds (n+1) (.deferred we)}:ae).heap.size=w'.heap.size:=by simp[Zp]
 have XJ:∀b,b≠n+1->b≠n+2->({w1 with heap:=w1.heap.setIfInBounds (n+1) (.deferred we)}:ae).heap[b]?=w'.heap[b]?:=λb h1 h2=>by
  rw[<- hk1 b h2];exact aQ (bw h1)
 generalize ({w1 with heap:=w1.heap.setIfInBounds (n+1) (.deferred we)}:ae)=w2 at *;refine W.go rfl (λw1=>stepG_leave rfl rfl func203 (v:=v) (by simp[results,Tryz.f203,go_sem]) (by simp[results,Tryz.f203,go_sem])) ?_;have eo:o'=grow o0 w0 w2:=by rw[I.own];unfold grow;rw[ZJ]
 rw[eo]at rK |-;have ew:=I.size;refine h v w2 aa rK (λb hb=>?_) ?_
 ·rw[XJ b aa aa];exact I.old b aa aa aa
 ·have hr:=I.row;rw[cO]at hr;exact gv hr λg hg Qp=>XJ g aa aa
def Kb(hF:bJ ak L0 o w)(Sv Ru c:Nat)(p:Option Addr)(rs:List aN)(hn:rs.length<=8)(U6:o Sv)(hs:w.cell? ⟨Sv,0,we⟩=so (.slice p rs.length c))(hp:rs≠[]->p=so ⟨Ru,0,we⟩)(AH:o Ru)(HY:fw w Ru rs)(fG:∀r∈rs,Cl ak L0 o (.slice r.sa r.sl r.sc)):
  bC ak (XB ak Fin 0) 203 #[.slice we 0 0,.func (.func 186) #[] #[.pointer (so ⟨Sv,0,we⟩)]] o w λv o' w' =>
   o'=grow o w w'/\bJ ak L0 o' w'/\(∀b,b<w.heap.size->w'.heap[b]?=w.heap[b]?)/\w'.ownsRow w.heap.size 42 3 v rs.length (rs.flatMap aN.cells):=by
 intro cf cs LD;have W:=bZ (P:=ak) (Fin:=Fin) (d:=0);have rG:(base 203).kind≠.early:=by simp[base]
 rw[jr func203 rfl];walk_nrmf Tryz.f203;refine W.go rfl (λ_=>aE) ?_;refine W.go rfl (λ_=>bg) ?_;refine fF ?_;refine vD rfl aG rG rfl (Obj.cells #[.slice we 0 0] 35) (λn=>.pointer (so ⟨n,0,we⟩)) (λw1=>iY) (λw1=>iY) ?_;walk_nrm;have lS:bJ ak L0 (λb=>o b\/b=w.heap.size) (w.alloc (Obj.cells #[.slice we 0 0] 35)):=hF.alloc rfl λf _=>by simp[obj,val]
 refine iJ ?_;refine W.go rfl (λ_=>ar) ?_;refine W.go rfl (λ_=>aE) ?_;refine W.go rfl (λ_=>aE) ?_;refine W.go rfl (λ_=>bg) ?_;refine fF ?_;refine iJ ?_;refine W.go rfl (λ_=>ar) ?_;refine W.go rfl (λ_=>fJ) ?_;refine Mt (g:=186) rfl rG rfl (by simp[Act.eval];rfl) func186 ah rfl ?_;have Lf:=Ka lS 203;have JO:(w.alloc (Obj.cells #[.slice we 0 0] 35)).heap.size=w.heap.size+1:=aj;have adr:∀b,b<w.heap.size->(w.alloc (Obj.cells #[.slice we 0 0] 35)).heap[b]?=w.heap[b]?:=λb hb=>RowKit.Below.heap_alloc w _ b hb;have ads:(w.alloc (Obj.cells #[.slice we 0 0] 35)).heap[w.heap.size]?=so (Obj.cells #[.slice we 0 0] 35):=by simp only[World.alloc];rw[dX,if_pos rfl]
 generalize w.alloc (Obj.cells #[.slice we 0 0] 35)=wa at *;rw[JO]at Lf;simp only[JO];have ho:(λb=>((o b\/b=w.heap.size)\/b=w.heap.size+1)\/b=w.heap.size+1+1)=(λb=>((o b\/b=w.heap.size)\/b=w.heap.size+1)\/b=w.heap.size+2):=rfl;have Wk:Ru<w.heap.size:=hF.lt AH;have hSn:Sv<w.heap.size:=hF.lt U6;have pB:∀{w':ae},(∀b,b<w.heap.size+1->w'.heap[b]?=wa.heap[b]?)->∀b,b<w.heap.size->w'.heap[b]?=w.heap[b]?:=λh b hb=>(h b aa).trans (adr b hb);have hru:∀w0:ae,(∀b,b<w.heap.size+1->w0.heap[b]?=wa.heap[b]?)->fw w0 Ru rs:=λw0 h0 i hi=>by
  have e:=pB h0 Ru Wk;obtain⟨c0,c1,c2⟩:=HY i hi;exact⟨(cell_of e).trans c0,(cell_of e).trans c1,(cell_of e).trans c2⟩
 have sr:∀w0:ae,w0.heap.size=w.heap.size+1+2->(∀b,b<w.heap.size+1->w0.heap[b]?=wa.heap[b]?)->∀v w',w'.heap.size>=w.heap.size+3->bJ ak L0 (grow (λb=>((o b\/b=w.heap.size)\/b=w.heap.size+1)\/b=w.heap.size+1+1) w0 w') w'->(∀b,b<w.heap.size->w'.heap[b]?=w0.heap[b]?)->w'.ownsRow (w.heap.size+3) 42 3 v rs.length (rs.flatMap aN.cells)->XB ak Fin 0 (grow (λb=>((o b\/b=w.heap.size)\/b=w.heap.size+1)\/b=w.heap.size+1+1) w0 w') (G (cf.finish v) cs) w':=by
  intro w0 h0 h00 v w' hz hF' hk hr;have e:grow (λb=>((o b\/b=w.heap.size)\/b=w.heap.size+1)\/b=w.heap.size+1+1) w0 w'=grow o w w':=by
   funext b;simp only[grow,eq_iff_iff,h0];constructor
   ·rintro((((h1|h1)|h1)|h1)|h1)
    ·exact .inl h1
    all_goals exact .inr aa
   ·rintro(h1|h1)
    ·exact .inl (.inl (.inl (.inl h1)))
    ·by_cases h2:b<w.heap.size+3
     ·by_cases h3:b=w.heap.size
      ·exact .inl (.inl (.inl (.inr h3)))
      ·by_cases h4:b=w.heap.size+1
       ·exact .inl (.inl (.inr h4))
       ·exact .inl (.inr aa)
     ·exact .inr aa
  rw[e]at hF' |-;refine LD v _ w' ⟨rfl,hF',λb hb=>(hk b hb).trans (pB h00 b hb),?_⟩;obtain⟨hlen,iX⟩:=hr;refine⟨hlen,?_⟩;rcases iX with h1|⟨g,cap,cur,h1,h2,h3⟩
  ·exact .inl h1
  ·exact .inr ⟨g,cap,cur,h1,aa,h3⟩
 refine Wj (n:=w.heap.size) (Lf _ _ _ _).1 (Lf _ _ _ _).2.1 (.inl (.inl (.inr rfl))) (.inl (.inr rfl)) (.inr rfl) (((Lf _ _ _ _).2.2.1 _ aa).trans ads) (Lf _ _ _ _).2.2.2.1 _ (Lf _ _ _ _).2.2.2.2 rfl rfl Sv Ru c p rs hn (.inl (.inl (.inl U6))) ?_ hp (.inl (.inl (.inl AH))) Wk ?_ ?_ rfl rfl rfl rfl rfl cf cs ?_
 ·exact(cell_of (pB (Lf _ _ _ _).2.2.1 Sv hSn)).trans hs
 ·exact hru _ (Lf _ _ _ _).2.2.1
 ·exact λr hr=>(fG r hr).up λb hb=>.inl (.inl (.inl hb))
 ·exact sr _ (Lf _ _ _ _).2.1 (Lf _ _ _ _).2.2.1
end
section
variable {Fin:br}{d:Nat}{o:aL}{w:ae}{fn:FuncId}{Q:Exit->Act->aL->ae->Prop}{a:Act}{ops:Array Oper}{i:Nat}{rest:List Nat}{op:Oper}{dd:Option Tmp}{v:Value}{b j:Nat}
def rdC(hF:bJ ak L0 o w)(ox:o b)(c:w.cell? ⟨b,j,we⟩=so v)(h:Cl ak L0 o v->dK (XB ak Fin d) fn ops rest Q (a.put dd v) o w)(ho:ops[i]?=so op:=by rfl)(hw:Region.wanted op (yielded ops a.tmps)=true:=by rfl)(iS:oC L0 op.op=true:=by rfl)(f1:(∀j,Cl ak L0 o (.pointer (so ⟨b,j,we⟩)))->∀x∈op.op.operands,Cl ak L0 o (a.eval x):=by
   intro h9 y hy;simp[Op.operands]at hy;subst hy;simp[Act.eval];exact h9 _)(hd:op.dst=dd:=by rfl)(f2:(∀wl,jk o w wl->wl.cell? ⟨b,j,we⟩=so v)->∀wl,jk o w wl->(execOp a.eval op).run ak wl=.ok (.value v) wl:=by
   intro h9 wl bu;simp[go_sem,h9 wl bu]):dK (XB ak Fin d) fn ops (i::rest) Q a o w :=
 xE jN hF ho hw iS (f1 λj=>gE ox) hd (f2 λwl bu=>(bu.cell ox).trans c) h
def ZX{S:(Nat->Option Value)->aL->ae->Prop}{kds:List Kd}{u:Nat->Value}{K:Act->Prop}{l:List Nat}{xs:List Kd}{y:Value}(cG:∀σ o w,yL ops kds u j σ->S σ o w->bJ ak L0 o w/\(∀x∈op.op.operands,Cl ak L0 o (a.eval x))/\∀wl,jk o w wl->(execOp a.eval op).run ak wl=.ok (.value y) wl)(h:cS ak (vG ak (XB ak Fin d) fn ops Q S kds u) ops K u l xs (a.put dd y))(ho:ops[j]?=so op:=by rfl)(hd:op.dst=dd:=by rfl)(hn:sS op.op=true:=by rfl)(hw:Region.wanted op (yielded ops a.tmps)=true:=by rfl)(iS:oC L0 op.op=true:=by rfl):cS ak (vG ak (XB ak Fin d) fn ops Q S kds u) ops K u (j::l) (so (so y)::xs) a :=
 S0 jN ho hd hn hw iS cG h
end
section
open Go.Lib
def sW:∀a:List UInt8,compareBytes a a=0
 | []=>rfl
 |x::r=>by
  have h:¬x<x:=iq x;simp[compareBytes,h,sW r]
def r9:∀a b:List UInt8,compareBytes a b=0->a=b
 | [],[],_=>rfl
 | [],_::_,h=>by simp[compareBytes]at h
 |_::_,[],h=>by simp[compareBytes]at h
 |x::r,y::s,h=>by
  simp only[compareBytes]at h;split at h
  ·cases h
  ·split at h
   ·cases h
   ·rename_i h1 h2;have e:x=y:=gz (eA.1 h2) (eA.1 h1);rw[e,r9 r s h]
def rh:∀a b:List UInt8,compareBytes b a=- compareBytes a b
 | [],[]=>rfl
 | [],_::_=>rfl
 |_::_,[]=>rfl
 |x::r,y::s=>by
  simp only[compareBytes];by_cases h1:x<y
  ·have h2:¬y<x:=UInt8.lt_asymm h1;simp[h1,h2]
  ·by_cases h2:y<x
   ·simp[h1,h2]
   ·simp[h1,h2,rh r s]
def oM:∀a b c:List UInt8,compareBytes a b<0->compareBytes b c<0->compareBytes a c<0
 | [],[],_,h,_=>by simp[compareBytes]at h
 |_::_,[],_,h,_=>by simp[compareBytes]at h
 |_,_::_,[],_,h=>by simp[compareBytes]at h
 | [],_::_,_::_,_,_=>by simp[compareBytes]
 |x::r,y::s,z::t,h1,h2=>by
  simp only[compareBytes]at h1 h2 |-;by_cases a1:x<y
  ·by_cases a2:y<z
   ·simp[UInt8.lt_trans a1 a2]
   ·by_cases a3:z<y
    ·simp[a2,a3]at h2
    ·have e:y=z:=gz (eA.1 a3) (eA.1 a2);subst e;simp[a1]
  ·by_cases a4:y<x
   ·simp[a1,a4]at h1
   ·have e:x=y:=gz (eA.1 a4) (eA.1 a1);subst e;simp only[UInt8.lt_irrefl,if_false]at h1;by_cases a2:x<z
    ·simp[a2]
    ·by_cases a3:z<x
     ·simp[a2,a3]at h2
     ·simp[a2,a3]at h2 |-;exact oM r s t h1 h2
end
end Go.Proofs.Kz
namespace Go.Proofs
open _root_.Option renaming some → so,none → we
section
open Go.Shelf
end
end Go.Proofs
namespace Go.Proofs.Kz
open Go.Proofs.Tryz
open Go.Proofs.Tryz renaming prog → ak
open _root_.ByteArray renaming empty → bF
open _root_.Option renaming some → so,none → we
open Go.Proofs
section
open Go.RowKit Go.Shelf Go.Lib Go.Sort
def rN(x y:aN):Int:=Lib.compareBytes x.out.data.toList y.out.data.toList
def Qs(x y:aN)(W:ae):Calls ak 146 #[.agg x.cells.toArray,.agg y.cells.toArray] W λe w'=>e=.returned (.int .i64 (rN x y))/\∃q os',w'=grow (W.drewN q) os':=by
 have adt:=λW'=>Tryz.strings_Compare x.out y.out W';show Calls ak _ #[.agg #[.string x.out,.int .i64 x.eT,.slice x.sa x.sl x.sc],.agg #[.string y.out,.int .i64 y.eT,.slice y.sa y.sl y.sc]] W _;unfold rN;generalize Lib.compareBytes x.out.data.toList y.out.data.toList=r at adt |-;go_enter func146,ntmps146;go_wp2_with (go_at_call 187;refine(adt _).mono ?_;rintro e w' ⟨rfl,rfl⟩);go_ret;exact⟨rfl,0,_,by rw[alloc_eq_grow,alloc_eq_grow,Go.Sort.grow_grow];rfl⟩
@[reducible] def Ez:Inhabited aN:=⟨⟨bF,0,we,0,0⟩⟩
def MN(blk off size:Nat)(w:ae):@CmpLays aN Ez ak 146 #[] aN.cells 3 rN blk off size w :=
 λ_ _ _ _ x y=>Qs x y _
def G0(n:Nat)(W:ae)(h:n<=12):Calls ak 205 #[.int .u64 n] W λe w'=>(∃l:Int,e=.returned (.int .i64 l))/\w'=W :=
 (Any.bits_Len Tryz.bitsLen n W aa aa).mono λ_ _ ⟨he,hw⟩=>⟨⟨_,he⟩,hw⟩
def Wl(d:Array aN)(i:Nat)(h:i<d.size):(@getElem! (Array aN) Nat aN _ _ Ez d i)=d[i]:=by
 letI:Inhabited aN:=Ez
 exact fh d i h
def ahw:SWO (ltOf rN):=by
 have hx:∀x y,ltOf rN x y=true↔rN x y<0:=λx y=>by simp[ltOf]
 have hn:∀x y,ltOf rN x y=false↔¬rN x y<0:=λx y=>by simp[ltOf]
 refine⟨λx=>?_,λx y z h1 h2=>?_,λx y z h1 h2=>?_⟩
 ·rw[hn];simp[rN,sW]
 ·rw[hx]at *;exact oM _ _ _ h1 h2
 ·rw[hn]at *;intro h3;unfold rN at *;rcases Int.lt_or_le 0 (compareBytes x.out.data.toList y.out.data.toList)with h4|h4
  ·have e:=rh x.out.data.toList y.out.data.toList;exact h2 (oM _ _ _ aa h3)
  ·have e:compareBytes x.out.data.toList y.out.data.toList=0:=aa;rw[r9 _ _ e]at h3;exact h2 h3
def holds_of(w:ae)(b:Nat)(rs:List aN)(h:fw w b rs)(hf:∀j,j<rs.length*3->w.frozen? ⟨b,j,we⟩=false):@HoldsK aN Ez aN.cells 3 w b 0 rs.toArray:=by
 intro j hj;have Bd:j<rs.length*3:=by simpa using hj
 have cR:j/3<rs.length:=aa;obtain⟨c0,c1,c2⟩:=h (j/3) cR;rw[bD];refine⟨?_,hf j Bd⟩;rw[@get_flatK aN Ez aN.cells 3 rs.toArray j (by simpa using Bd)];have e:(@getElem! (Array aN) Nat aN _ _ Ez rs.toArray (j/3))=rs[j/3]:=by
  rw[Wl _ _ (by simpa using cR)];rfl
 rw[e];have hm:j%3=0\/j%3=1\/j%3=2:=aa;rcases hm with hm|hm|hm
 ·rw[show w.cell? ⟨b,j,we⟩=w.cell? ⟨b,j/3*3,we⟩ from congrArg (λx=>w.cell? ⟨b,x,we⟩) aa,c0,hm];simp[aN.cells]
 ·rw[show w.cell? ⟨b,j,we⟩=w.cell? ⟨b,j/3*3+1,we⟩ from congrArg (λx=>w.cell? ⟨b,x,we⟩) aa,c1,hm];simp[aN.cells]
 ·rw[show w.cell? ⟨b,j,we⟩=w.cell? ⟨b,j/3*3+2,we⟩ from congrArg (λx=>w.cell? ⟨b,x,we⟩) aa,c2,hm];simp[aN.cells]
def MO(w:ae)(b:Nat)(d:Array aN)(h:@HoldsK aN Ez aN.cells 3 w b 0 d):fw w b d.toList:=by
 intro i hi;have mn:i<d.size:=by simpa using hi
 have key:∀c,c<3->w.cell? ⟨b,i*3+c,we⟩=so ((d.toList[i]).cells[c]!):=λc hc=>by
  have:=(h (i*3+c) eW).1;rw[bD]at this;rw[this,@get_flatK aN Ez aN.cells 3 d (i*3+c) aa];have e1:(i*3+c)/3=i:=aa;have e2:(i*3+c)%3=c:=aa;rw[e1,e2,Wl d i mn];simp
 exact⟨key 0 aa,key 1 aa,key 2 aa⟩
structure Kc(w w':ae)(blk:Nat)(rs cB:List aN):Prop where
 size:w.heap.size<=w'.heap.size
 old:∀b,b<w.heap.size->b≠blk->w'.heap[b]?=w.heap[b]?
 perm:cB.Perm rs
 sorted:∀i j (hi:i<cB.length) (hj:j<cB.length),i<j->¬rN cB[j] cB[i]<0
 at_:fw w' blk cB
def C8(blk cap:Nat)(rs:List aN)(w:ae)(hR:fw w blk rs)(hf:∀j,j<rs.length*3->w.frozen? ⟨blk,j,we⟩=false)(PS:blk<w.heap.size)(Wm:rs.length<=12):
  Calls ak 185 #[.slice (so ⟨blk,0,we⟩) rs.length cap,.func (.func 146) #[] #[]] w λe w'=>∃v,e=.returned v/\v=.tuple #[]/\∃cB,Kc w w' blk rs cB:=by
 have eg:∀args w,(callFunc 146 args).run ak w=.ok (.enter 146 args) w:=enters_of func146 ah rfl;have hH:=holds_of w blk rs hR hf;have hc:=@AnyQ.slices_SortFunc_small_sorted ak _ aN Ez Tryz.Qb 3 isAgg42 sizeOf42 aN.cells (λ_=>rfl) (λx v hv=>by simp[aN.cells]at hv;rcases hv with rfl|rfl|rfl<;>rfl) rN 146 #[] ahw blk 0 cap rs.toArray w eg (MN blk 0 rs.toArray.size w) hH PS (by simpa using Wm) G0;refine Calls.mono hc ?_;rintro e w' ⟨rfl,d',n,os,hp,hs,rfl⟩;have hz:d'.size=rs.length:=by simpa using hp.1
 have oe:blk<(@putRowK aN Ez aN.cells 3 (Go.Sort.ahead w n) blk 0 d').heap.size:=by simp[putRowK,putRow,mapBlock,Go.Sort.ahead];exact PS
 refine⟨_,rfl,rfl,d'.toList,?_,?_,?_,?_,?_⟩
 ·simp[sortWorldK,Go.Sort.grow,putRowK,putRow,mapBlock,Go.Sort.ahead]
 ·intro b hb fu;simp only[sortWorldK];rw[heap_grow_old _ _ (by simp[putRowK,putRow,mapBlock,Go.Sort.ahead];exact hb)];simp only[putRowK,putRow,mapBlock,Go.Sort.ahead];rw[aR,if_neg (λe=>fu e.symm)]
 ·have h2:=hp.2.2;rw[jB (by simp[hz]),jB aj]at h2;simpa using h2
 ·intro i j hi hj wh;have h2:=hs i j (aW _) wh (by simp at hj |-;omega);rw[Wl d' i (by simpa using hi),Wl d' j (by simpa using hj)]at h2;simp[ltOf]at h2;simp;exact h2
 ·refine MO _ blk d' ?_;refine holds_grow id _ os blk 0 _ oe ?_;exact holds_putRow id _ blk 0 _ _ hH (by simp[hz])
end
open Go.Ren Go.Conc Go.ConcN
section
variable {Fin:br}{o:aL}{w:ae}
structure Tz(o:aL)(w:ae)(rs:List aN)(v:Value)(o':aL)(w':ae):Prop where
 own:o'=grow o w w'
 bS:bJ ak L0 o' w'
 size:w.heap.size<=w'.heap.size
 old:∀b,b<w.heap.size->w'.heap[b]?=w.heap[b]?
 row:w'.ownsRow w.heap.size 42 3 v rs.length (rs.flatMap aN.cells)
def Qt(hF:bJ ak L0 o w)(Sv Ru c:Nat)(p:Option Addr)(rs:List aN)(hn:rs.length<=8)(U6:o Sv)(hs:w.cell? ⟨Sv,0,we⟩=so (.slice p rs.length c))(hp:rs≠[]->p=so ⟨Ru,0,we⟩)(AH:o Ru)(HY:fw w Ru rs)(fG:∀r∈rs,Cl ak L0 o (.slice r.sa r.sl r.sc)):
  bC ak (XB ak Fin 0) 184 #[.func (.func 186) #[] #[.pointer (so ⟨Sv,0,we⟩)]] o w (Tz o w rs):=by
 have W:=bZ (P:=ak) (Fin:=Fin) (d:=0);refine bt W func184 aG ?_;refine aD ?_;refine eH W rfl aG rfl func203 ah rfl ax rfl ((Kb hF Sv Ru c p rs hn U6 hs hp AH HY fG).mono λv o' w' hp=>?_);refine aD ?_;obtain⟨h1,h2,h3,h4⟩:=hp;refine⟨.inr trivial,trivial,v,resultsC_tmp (t:=2) aG _,h1,h2,?_,h3,h4⟩;refine dt λcR=>?_;have:=h3 _ cR;rw[bX (af _),aO cR]at this;cases this
def TA(rs:List aN):∀i (h:i<rs.length) c,c<3->(rs.flatMap aN.cells)[i*3+c]?=(rs[i].cells)[c]?:=by
 induction rs with
 |nil=>intro i h;simp at h
 |cons r t ih =>
  intro i h c hc;have hl:r.cells.length=3:=rfl;rw[List.flatMap_cons];cases i with
  |zero=>rw[dI aa];simp
  |succ i =>
   rw[dD aa,hl,show(i+1)*3+c-3=i*3+c by omega,ih i (by simpa using h) c hc];simp
def Ke{w:ae}{g cap n:Nat}{cur:Array Value}{rs:List aN}(hg:w.heap[g]?=so (.cells cur 42 (0,0)))(ht:cur.toList.take (rs.length*3)=rs.flatMap aN.cells):fw w g rs/\∀j,w.frozen? ⟨g,j,we⟩=false:=by
 have key:∀i (h:i<rs.length) c,c<3->w.cell? ⟨g,i*3+c,we⟩=(rs[i].cells)[c]?:=λi h c hc=>by
  rw[<- TA rs i h c hc,<- ht,cE aa];simp[World.cell?,hg]
 exact⟨λi h=>⟨key i h 0 aa,key i h 1 aa,key i h 2 aa⟩,λj=>by simp[World.frozen?,hg]⟩
def G7(w:ae):Calls ak 185 #[.slice we 0 0,.func (.func 146) #[] #[]] w λe w'=>∃v,e=.returned v/\v=.tuple #[]/\w'.heap=w.heap:=by
 have hl:=G0 0 w aa;have h2:∀W,Calls ak 214 #[.slice we 0 0,.int .i64 0,.int .i64 0,.func (.func 146) #[] #[]] W λe w'=>e=.returned (.tuple #[])/\w'.heap=W.heap:=λW=>by
  go_enter func214,ntmps214;go_wp2;refine wp_loop_rounds 1 ?_;rw[rounds_succ];go_wp2
  go_end0
  exact⟨rfl,rfl⟩
 have h3:∀W lim,Calls ak 204 #[.slice we 0 0,.int .i64 0,.int .i64 0,.int .i64 lim,.func (.func 146) #[] #[]] W λe w'=>e=.returned (.tuple #[])/\w'.heap=W.heap:=λW lim=>by
  go_enter func204,ntmps204;go_wp2;refine wp_loop_rounds 1 ?_;rw[rounds_succ];go_wp2_with (go_at_call 214;refine(h2 _).mono ?_;rintro e w' ⟨rfl,hw⟩)
  (try simp only[Exit.inBlock,Exit.then])
  refine bodyPost_ret (results_none ah _ _).1 rfl ?_;exact⟨rfl,hw⟩
 go_enter func185,ntmps185;go_wp2_with (first|(go_at_call 205;refine hl.mono ?_;rintro e w' ⟨⟨l,rfl⟩,rfl⟩)|(go_at_call 204;refine(h3 _ _).mono ?_;rintro e w' ⟨rfl,hw⟩))
 go_end0
 exact⟨_,rfl,rfl,hw⟩
structure vK(o:aL)(w:ae)(rs:List aN)(v:Value)(o':aL)(w':ae):Prop where
 own:o'=grow o w w'
 bS:bJ ak L0 o' w'
 size:w.heap.size<=w'.heap.size
 old:∀b,b<w.heap.size->w'.heap[b]?=w.heap[b]?
 row:(rs=[]/\v=.slice we 0 0)\/∃g cap cB,v=.slice (so ⟨g,0,we⟩) rs.length cap/\rs.length<=cap/\w.heap.size<=g/\g<w'.heap.size/\cB.Perm rs/\(∀i j (hi:i<cB.length) (hj:j<cB.length),i<j->¬rN cB[j] cB[i]<0)/\fw w' g cB
def TB{o:aL}{w w1 w2:ae}(h1:w.heap.size<=w1.heap.size)(h2:w1.heap.size<=w2.heap.size):grow (grow o w w1) w1 w2=grow o w w2:=grow_grow h1 rfl h2
def ZY{o1:aL}{w1:ae}{rs:List aN}{v:Value}(hn:rs.length<=8)(S:Tz o w rs v o1 w1):
  bC ak (XB ak Fin 0) 185 #[v,.func (.func 146) #[] #[]] o1 w1 λv' o2 w2=>v'=.tuple #[]/\vK o w rs v o2 w2:=by
 obtain⟨hlen,iX⟩:=S.row;rcases iX with⟨rfl,h0⟩|⟨g,cap,cur,rfl,h1,h2,h3,h4,h5,h6⟩
 ·refine xD jN ah S.bS ?_ (R:=λwl v bN=>v=.tuple #[]/\bN.heap=wl.heap) (λwl v w τ d h=>h) (λwl τ d v w' h=>h) (λwl hz bu=>G7 wl) ?_
  ·intro f hf;have hb:f.h 146=146:=hf.fn _ (by show L0 146=true;kernel_rfl);simp[val,um,hb]
  ·rintro wl v bN w' hz bu ⟨rfl,hh⟩ B;have ew:w'.heap.size=w1.heap.size:=by rw[B.size,hh,hz]
   have e:grow o1 w1 w'=o1:=by
    funext b;simp only[grow,eq_iff_iff,ew];exact⟨λh=>h.elim id λh=>aa,.inl⟩
   have hold:∀b,b<w1.heap.size->w'.heap[b]?=w1.heap[b]?:=λb hb=>by
    by_cases ho:o1 b
    ·rw[B.same b (.inl ho),hh,bu b ho]
    ·exact B.rest b hb ho
   have hF:=B.bS;rw[e]at hF |-;have hs:=S.size;refine⟨rfl,by rw[S.own];unfold grow;rw[ew],hF,aa,λb hb=>by rw[hold b aa];exact S.old b hb,.inl ⟨dx.1 h0,rfl⟩⟩
 ·have HQ:g<w1.heap.size:=(aI.1 h2).1;have U7:o1 g:=by rw[S.own];exact .inr ⟨h1,HQ⟩
  refine xD jN ah S.bS ?_ (R:=λwl v bN=>v=.tuple #[]/\∃cB,Kc wl bN g rs cB) (λwl v w τ d h=>?_) (λwl τ d v w' h=>?_) (λwl hz bu=>?_) ?_
  ·intro f hf;have:=eK (P:=ak) (L:=L0) (off:=0) (l:=rs.length) (c:=cap) U7 f hf;have hb:f.h 146=146:=hf.fn _ (by show L0 146=true;kernel_rfl);simp[val,um,hb]at this |-;exact this
  ·obtain⟨k1,cB,k2⟩:=h;exact⟨k1,cB,k2.size,k2.old,k2.perm,k2.sorted,k2.at_⟩
  ·obtain⟨k1,cB,k2⟩:=h;exact⟨k1,cB,k2.size,k2.old,k2.perm,k2.sorted,k2.at_⟩
  ·obtain⟨k1,k2⟩:=Ke (cap:=cap) (n:=rs.length) ((bu g U7).trans h2) h6;exact C8 g cap rs wl k1 (λj _=>k2 j) aa aa
  ·rintro wl v bN w' hz bu ⟨rfl,cB,T⟩ B;have ew:=B.sx;have hs:=S.size;have hold:∀b,b<w1.heap.size->b≠g->w'.heap[b]?=w1.heap[b]?:=λb hb fu=>by
    by_cases ho:o1 b
    ·rw[B.same b (.inl ho),T.old b aa fu,bu b ho]
    ·exact B.rest b hb ho
   have hF:=B.bS;have e:grow o1 w1 w'=grow o w w':=by rw[S.own];exact TB hs ew
   have OB:=B.same g (.inl U7);rw[e]at hF |-;refine⟨rfl,rfl,hF,aa,λb hb=>by rw[hold b aa aa];exact S.old b hb,.inr ⟨g,cap,cB,rfl,h3,h1,aa,T.perm,T.sorted,λi hi=>?_⟩⟩;obtain⟨c0,c1,c2⟩:=T.at_ i hi;exact⟨(cell_of OB).trans c0,(cell_of OB).trans c1,(cell_of OB).trans c2⟩
def Ha(hF:bJ ak L0 o w)(Sv Ru c:Nat)(p:Option Addr)(rs:List aN)(hn:rs.length<=8)(U6:o Sv)(hs:w.cell? ⟨Sv,0,we⟩=so (.slice p rs.length c))(hp:rs≠[]->p=so ⟨Ru,0,we⟩)(AH:o Ru)(HY:fw w Ru rs)(fG:∀r∈rs,Cl ak L0 o (.slice r.sa r.sl r.sc)):
  bC ak (XB ak Fin 0) 144 #[.func (.func 186) #[] #[.pointer (so ⟨Sv,0,we⟩)],.func (.func 146) #[] #[]] o w (vK o w rs):=by
 have W:=bZ (P:=ak) (Fin:=Fin) (d:=0);refine bt W func144 aG ?_;refine aD ?_;refine eH W rfl aG rfl func184 ah rfl ax rfl ((Qt hF Sv Ru c p rs hn U6 hs hp AH HY fG).mono λv o1 w1 S=>?_);refine aD ?_;refine eH W rfl aG rfl func185 ah rfl (vs:=#[v,.func (.func 146) #[] #[]]) ax rfl ((ZY hn S).mono λv' o2 w2 hq=>?_);obtain⟨rfl,hq⟩:=hq;refine aD ?_;exact⟨.inr trivial,trivial,v,resultsC_tmp (t:=4) aG _,hq⟩
end
section
open Go.RowKit
def fw.below{w w':ae}{b:Nat}{rs:List aN}(h:fw w b rs)(hb:b<w.heap.size)(hw:Below w.heap.size w w'):fw w' b rs:=λk hk=>by
 obtain⟨hc,-⟩:=yO hw;rw[hc _ _ hb,hc _ _ hb,hc _ _ hb];exact h k hk
def MP(b c:Nat)(p:Option Addr)(rs:List aN)(w:ae)(hn:rs.length<=100000)(hp:rs≠[]->p=so ⟨b,0,we⟩/\b<w.heap.size)(hv:fw w b rs):
  Calls ak 147 #[.slice p rs.length c] w λe w'=>e=.returned (.slice (so ⟨w.heap.size,0,we⟩) rs.length rs.length)/\Below w.heap.size w w'/\w.heap.size<w'.heap.size /\
   w'.rowIs w.heap.size 9 rs.length (λj=>.string ((rs.map (·.out)).getD j bF)):=by
 have lP:=run_make_row' (P:=ak) 40 9 (.string bF) 16 underlying40 xI rfl .i64 .i64 rs.length aa aa;go_enter func147,ntmps147;go_wp2;go_loopw [11] (λi w'=>∃k:Nat,k<=rs.length/\i=.int .i64 k/\Below w.heap.size w w'/\w.heap.size<w'.heap.size/\w'.rowIs w.heap.size 9 rs.length (λj=>if j<k then .string ((rs.map (·.out)).getD j bF)else .string bF)) (λi _=>rs.length-(intOf i).toNat)
 case atStart=>exact⟨0,aW _,rfl,(Below.refl _ _).alloc (af _) _,aj,by simpa using World.rowIs_made w _ _ _⟩
 case round =>
  obtain⟨k,hk,rfl,im,hz,cd⟩:=hrel;by_cases cR:k<rs.length
  ·obtain⟨rfl,hb⟩:=hp (lU cR);obtain⟨h1,h2,h3⟩:=hv.below hb im k cR;have hc:=cd.cell cR;have hf:=cd.frozen k;rw[if_neg aa]at hc;go_wp2;refine⟨⟨k+1,aa,by go_num,(im.setCell (af _) _).alloc (by simp[World.setCell];omega) _,by simp[World.setCell];omega,?_⟩,by simp[intOf];omega⟩;refine((cd.set k _).alloc _).congr λj hj=>?_;by_cases e:j=k
   ·subst e;simp[List.getD,cR]
   ·by_cases e':j<k
    ·rw[if_neg e,if_pos e',if_pos aa]
    ·rw[if_neg e,if_neg e',if_neg aa]
  ·go_wp2;go_ret;exact⟨rfl,im,hz,cd.congr λi hi=>by rw[if_pos aa]⟩
end
section
open Go.RowKit
def tT(w:ae)(b:Nat)(ins:List (Bool×Nat)):Prop:=∀j (h:j<ins.length),w.cell? ⟨b,j*2,we⟩=so (.bool ins[j].1)/\w.cell? ⟨b,j*2+1,we⟩=so (.int .i64 ins[j].2)
def tT.below{w w':ae}{b:Nat}{ins:List (Bool×Nat)}(h:tT w b ins)(hb:b<w.heap.size)(hw:Below w.heap.size w w'):tT w' b ins:=λk hk=>by
 obtain⟨hc,-⟩:=yO hw;rw[hc _ _ hb,hc _ _ hb];exact h k hk
def zX(w:ae)(b:Nat)(zs:List Nat):Prop:=∀j (h:j<zs.length),w.cell? ⟨b,j,we⟩=so (.int .i64 zs[j])
def zX.below{w w':ae}{b:Nat}{zs:List Nat}(h:zX w b zs)(hb:b<w.heap.size)(hw:Below w.heap.size w w'):zX w' b zs:=λk hk=>by
 obtain⟨hc,-⟩:=yO hw;rw[hc _ _ hb];exact h k hk
def yU(b c:Nat)(zs:List Nat)(x:Nat)(w:ae)(hn:zs.length<=100000)(h:zX w b zs):
  Calls ak 190 #[.slice (so ⟨b,0,we⟩) zs.length c,.int .i64 x] w λe w'=>e=.returned (.bool (zs.contains x))/\w'=w:=by
 have:=Tryz.slices_Contains_int b 0 zs.length c (zs.map (λn:Nat=>(n:Int))) x w aj aa (λj hj=>by
  have Bd:j<zs.length:=by simpa using hj
  rw[bD,h j Bd];simp[Bd])
 refine this.mono λe w' hq=>?_;obtain⟨rfl,rfl⟩:=hq;refine⟨?_,rfl⟩
 congr 2
 rw[bz aj];rw[jv];simp only[List.contains_iff_mem,List.mem_map];exact⟨λ⟨a,h1,h2⟩=>(show a=x by omega)▸h1,λh=>⟨x,h,rfl⟩⟩
def nW(order:List Nat)(i:Bool×Nat):Bool:=!i.1||order.contains i.2
def Hb(b c Ib ic:Nat)(order:List Nat)(ins:List (Bool×Nat))(w:ae)(hn:order.length<=100000)(hi:ins.length<=100000)(hb:b<w.heap.size)(hIb:Ib<w.heap.size)(ho:zX w b order)(hv:tT w Ib ins):
  Calls ak 191 #[.slice (so ⟨b,0,we⟩) order.length c,.slice (so ⟨Ib,0,we⟩) ins.length ic] w λe w'=>e=.returned (.bool (ins.all (nW order)))/\Below w.heap.size w w'/\w.heap.size<=w'.heap.size:=by
 go_enter func191,ntmps191;go_wp2;go_loopw [9] (λi w'=>∃k:Nat,k<=ins.length/\i=.int .i64 k/\Below w.heap.size w w'/\w.heap.size<=w'.heap.size/\(ins.take k).all (nW order)=true) (λi _=>ins.length-(intOf i).toNat)
 case atStart=>exact⟨0,aW _,rfl,Below.refl _ _,af _,aj⟩
 case round =>
  obtain⟨k,hk,rfl,im,hz,eP⟩:=hrel;by_cases cR:k<ins.length
  ·obtain⟨h1,h2⟩:=hv.below hIb im k cR;have ho2:=ho.below hb im;have qx:=take_succ ins k cR;generalize hik:ins[k]=ik at *;obtain⟨io,inn⟩:=ik;cases io
   ·go_wp2;refine⟨⟨k+1,aa,by go_num,im.alloc aa _,eW,?_⟩,by simp[intOf];omega⟩;rw[qx,List.all_append,eP];simp[nW]
   ·have zw:=yU b c order inn (wr.alloc (.cells #[.bool true,.int .i64 inn] 280)) hn (ho.below hb (im.alloc aa _));have rV:ins.all (nW order)=true->order.contains inn=true:=λh=>by
     have:=fY.1 h (true,inn) (by rw[<- hik];exact aA cR);simpa[nW] using this
    cases Qu:order.contains inn
    ·rw[Qu]at zw;go_wp2_with (go_at_call 190;refine zw.mono ?_;rintro e w' ⟨rfl,rfl⟩);go_ret;have:ins.all (nW order)=false:=by
      cases h:ins.all (nW order)
      ·rfl
      ·have:=rV h;rw[Qu]at this;cases this
     rw[this];exact⟨rfl,im.alloc aa _,eW⟩
    ·rw[Qu]at zw;go_wp2_with (go_at_call 190;refine zw.mono ?_;rintro e w' ⟨rfl,rfl⟩);refine⟨⟨k+1,aa,by go_num,im.alloc aa _,eW,?_⟩,by simp[intOf];omega⟩;rw[qx,List.all_append,eP];simp[nW];simpa using Qu
  ·go_wp2;go_ret;rw[bz aa]at eP;rw[eP];exact⟨rfl,im,hz⟩
end
section
open Go.RowKit
def rj(ins:Nat->List (Bool×Nat))(ord:List Nat)(s:Nat):List Nat:=if ord.contains s=false/\(ins s).all (nW ord)=true then ord++[s] else ord
def nX(ins:Nat->List (Bool×Nat))(ord:List Nat)(k:Nat):List Nat:=(List.range k).foldl (rj ins) ord
def eL(ins:Nat->List (Bool×Nat))(n:Nat):Nat->List Nat
 |0=>[]
 |r+1=>nX ins (eL ins n r) n
def rm(ins:Nat->List (Bool×Nat))(ord:List Nat)(k:Nat):nX ins ord (k+1)=rj ins (nX ins ord k) k:=by
 simp[nX,List.range_succ]
def vL:∀(n:Nat) (l:List Nat),l.Nodup->(∀x∈l,x<n)->l.length<=n
 |0,l,_,h=>by
  cases l with
  |nil=>simp
  |cons x r=>exact absurd (h x aj) aa
 |n+1,l,hd,h=>by
  have h1:=vL n (l.erase n) (hd.erase n) (λx hx=>by
   have h2:=(hd.mem_erase_iff).1 hx;have:=h x h2.2;have:=h2.1;omega)
  have h2:=List.length_erase (a:=n) (l:=l);split at h2<;>omega
def pI(n:Nat)(ord:List Nat):Prop:=ord.Nodup/\∀x∈ord,x<n
def pI.step{n:Nat}{ord:List Nat}(h:pI n ord)(ins:Nat->List (Bool×Nat)){s:Nat}(hs:s<n):pI n (rj ins ord s):=by
 unfold rj;split
 ·rename_i hc;have hm:s∉ord:=λhm=>by have:=hc.1;rw[dM.2 hm]at this;cases this
  refine⟨?_,λx hx=>?_⟩
  ·rw[gx];refine⟨h.1,aj,λa ha b hb=>?_⟩;simp at hb;subst hb;exact λe=>hm (e▸ha)
  ·simp at hx;rcases hx with hx|rfl
   ·exact h.2 x hx
   ·exact hs
 ·exact h
def pI.pass{n:Nat}{ord:List Nat}(h:pI n ord)(ins:Nat->List (Bool×Nat)):∀k,k<=n->pI n (nX ins ord k)
 |0,_=>by simpa[nX] using h
 |k+1,hk=>by rw[rm];exact(pI.pass h ins k aa).step ins aa
def pI.all(n:Nat)(ins:Nat->List (Bool×Nat)):∀r,pI n (eL ins n r)
 |0=>⟨by simp[eL],by simp[eL]⟩
 |r+1=>(pI.all n ins r).pass ins n (af _)
def Hc:(ak.info? 3).map (λi=>(i.zero,i.size,i.bytes))=so (so (.int .i64 0),1,8):=ah
structure qj(w:ae)(St n:Nat)(out:Nat->ag)(eT:Nat->Int)(ins:Nat->List (Bool×Nat))(cX:Nat->Nat):Prop where
 out:∀s,s<n->w.cell? ⟨St,s*3,we⟩=so (.string (out s))
 eT:∀s,s<n->w.cell? ⟨St,s*3+1,we⟩=so (.int .i64 (eT s))
 Be:∀s,s<n->w.cell? ⟨St,s*3+2,we⟩=so (.slice (so ⟨cX s,0,we⟩) (ins s).length (ins s).length)
 CV:∀s,s<n->tT w (cX s) (ins s)
 lt:∀s,s<n->cX s<w.heap.size
 short:∀s,s<n->(ins s).length<=100000
def mf(w:ae)(B n:Nat)(ord:List Nat):Prop:=w.rowIs B 3 n λj=>.int .i64 ((ord.getD j 0:Nat):Int)
def mf.nums{w:ae}{B n:Nat}{ord:List Nat}(h:mf w B n ord)(hl:ord.length<=n):zX w B ord:=λj hj=>by
 rw[h.cell aa];simp[hj]
def C9(W:ae)(B n x:Nat)(ord:List Nat)(A:Nat)(h:mf W B n ord)(cR:ord.length<n)(ha:W.cell? ⟨A,0,we⟩=so (.int .i64 x)):
  (Builtin.append_ #[130,130] 130 #[.slice (so ⟨B,0,we⟩) ord.length n,.slice (so ⟨A,0,we⟩) 1 1]).run ak W=.ok (.slice (so ⟨B,0,we⟩) (ord.length+1) n) (W.setCell ⟨B,ord.length,we⟩ (.int .i64 x)):=by
 obtain⟨i,hi,pL⟩:=aH.1 Hc;simp only[bO]at pL;have:=run_append_room_cells (P:=ak) W 130 130 3 i underlying130 hi B 0 ord.length n ⟨A,0,we⟩ 1 1 [.int .i64 x] (by simp[pL.2.1]) (λj u hj=>by
  cases j with
  |zero=>simp at hj;subst hj;simpa[Addr.add] using ha
  |succ j=>simp at hj) (by simp;rfl) aa (λj hj=>by
   simp at hj;subst hj;rw[pL.2.1];simp[h.cell cR]) (λj hj=>by
   simp at hj;subst hj;rw[pL.2.1];have:=h.frozen ord.length;simpa using this)
 rw[pL.2.1]at this;simpa[World.setCells] using this
def mf.put{w:ae}{B n:Nat}{ord:List Nat}(h:mf w B n ord)(cR:ord.length<n)(x:Nat):mf (w.setCell ⟨B,ord.length,we⟩ (.int .i64 x)) B n (ord++[x]):=by
 refine(World.rowIs.set h ord.length (.int .i64 x)).congr λj hj=>?_;by_cases e:j=ord.length
 ·subst e;simp
 ·rw[if_neg e];by_cases e':j<ord.length
  ·simp[List.getD,e',List.getElem?_append_left e']
  ·simp[List.getD,List.getElem?_eq_none (show ord.length<=j by omega),List.getElem?_eq_none (show(ord++[x]).length<=j by simp;omega)]
end
section
open Go.RowKit
def lQ{P:Program}{w w':ae}{ops:Array Oper}{rest:List Oper}{o:Oper}{a:Act}{Q:Exit->Act->ae->Prop}{v xv v':Value}(hgd:o.guard=we)(s x:Operand)(t:TypeId)(ho:o.op=.call {callee:=.builtin .append,args:=#[s,x],argTypes:=#[t,t]})(hs:a.eval s=v)(hx:a.eval x=xv)(hr:(Builtin.append_ #[t,t] o.type #[v,xv]).run P w=.ok v' w')(h:wpList P ops Q rest (a.put o.dst v') w'):wpList P ops Q (o::rest) a w :=
 wpList_plain hgd λ_ hK=>by
  unfold Oper.wp execOp;simp only[ho,resolve,invoke,builtin,Sem.run_bind,Sem.run_pure,Result.andThen_ok,List.map_toArray,aB,aJ,hs,hx,hr];exact hK _ _ h
def dz(w:ae)(x:Obj):(w.alloc x).heap[w.heap.size]?=so x:=by
 show(w.heap.push x)[w.heap.size]?=_;simp
def tA(w:ae)(cs:Array Value)(t:TypeId)(j:Nat):(w.alloc (.cells cs t)).cell? ⟨w.heap.size,j,we⟩=cs[j]?:=by
 simp only[World.cell?];rw[dz];rfl
def pI.room{n:Nat}{ord:List Nat}(h:pI n ord){s:Nat}(hs:s<n)(hc:ord.contains s=false):ord.length<n:=by
 have hm:s∉ord:=λhm=>by rw[dM.2 hm]at hc;cases hc
 have:=vL n (ord++[s]) (by
  rw[gx];refine⟨h.1,aj,λa ha b hb=>?_⟩;simp at hb;subst hb;exact λe=>hm (e▸ha)) (λx hx=>by
  simp at hx;rcases hx with hx|rfl
  ·exact h.2 x hx
  ·exact hs)
 simp at this;omega
def Kf(St n sc:Nat)(out:Nat->ag)(eT:Nat->Int)(ins:Nat->List (Bool×Nat))(cX:Nat->Nat)(w:ae)(hn:n<=1000)(ZZ:St<w.heap.size)(fe:qj w St n out eT ins cX):
  Calls ak 150 #[.slice (so ⟨St,0,we⟩) n sc] w λe w'=>e=.returned (.slice (so ⟨w.heap.size,0,we⟩) (eL ins n n).length n)/\Below w.heap.size w w'/\w.heap.size<w'.heap.size/\mf w' w.heap.size n (eL ins n n):=by
 have lP:=Go.run_make_room (P:=ak) 130 3 (.int .i64 0) 8 underlying130 Hc rfl .i64 .i64 n aa aa;go_enter func150,ntmps150;go_wp2;go_loopw [3,11] (λv i w'=>∃r:Nat,r<=n/\i=.int .i64 r/\v=.slice (so ⟨w.heap.size,0,we⟩) (eL ins n r).length n/\Below w.heap.size w w'/\w.heap.size<w'.heap.size/\mf w' w.heap.size n (eL ins n r)) (λv i _=>n-(intOf i).toNat)
 case atStart=>exact⟨0,aW _,rfl,rfl,(Below.refl _ _).alloc (af _) _,aj,by simpa[mf,eL] using World.rowIs_made w _ _ _⟩
 case round =>
  obtain⟨r,hr,rfl,rfl,im,hz,cd⟩:=hrel;by_cases cR:r<n
  ·go_wp2;go_loopw [3,15] (λv i w'=>∃k:Nat,k<=n/\i=.int .i64 k/\v=.slice (so ⟨w.heap.size,0,we⟩) (nX ins (eL ins n r) k).length n/\Below w.heap.size w w'/\w.heap.size<w'.heap.size/\mf w' w.heap.size n (nX ins (eL ins n r) k)) (λv i _=>n-(intOf i).toNat)
   case atStart=>exact⟨0,aW _,rfl,by simp[nX],im,hz,by simpa[nX] using cd⟩
   case round =>
    clear im hz cd;obtain⟨k,hk,rfl,rfl,im,hz,cd⟩:=hrel;by_cases IP:k<n
    ·have iS:pI n (nX ins (eL ins n r) k):=(pI.all n ins r).pass ins k hk;have yV:=rm ins (eL ins n r) k;have hle:=vL n _ iS.1 iS.2;generalize TC:nX ins (eL ins n r) k=ord at *;have c0:=(im.cell (p:=⟨St,k*3,we⟩) ZZ).trans (fe.out k IP);have c1:=(im.cell (p:=⟨St,k*3+1,we⟩) ZZ).trans (fe.eT k IP);have c2:=(im.cell (p:=⟨St,k*3+2,we⟩) ZZ).trans (fe.Be k IP);have X7:ord.length<=100000:=aa;generalize Z0:wr.alloc (.cells #[.string (out k),.int .i64 (eT k),.slice (so ⟨cX k,0,we⟩) (ins k).length (ins k).length] 220)=wa;have ca:wa.cell? ⟨wr.heap.size,2,we⟩=so (.slice (so ⟨cX k,0,we⟩) (ins k).length (ins k).length):=by rw[<- Z0];exact tA _ _ _ 2
     have hba:Below w.heap.size w wa:=Z0▸im.alloc aa _;have vX:wa.heap.size=wr.heap.size+1:=by rw[<- Z0];simp
     have Wn:mf wa w.heap.size n ord:=Z0▸World.rowIs.alloc cd _;have zw:=yU w.heap.size n ord k wa X7 (Wn.nums hle);have hia:tT wa (cX k) (ins k):=(fe.CV k IP).below (fe.lt k IP) hba;have VD:=fe.lt k IP;have eP:=Hb w.heap.size n (cX k) (ins k).length ord (ins k) wa X7 (fe.short k IP) aa aa (Wn.nums hle) hia;cases Qu:ord.contains k
     ·rw[Qu]at zw;have OC:ord.length<n:=iS.room IP Qu;cases tP:(ins k).all (nW ord)
      ·rw[tP]at eP;have IF:rj ins ord k=ord:=by simp only[rj];rw[if_neg];rw[tP];simp
       rw[IF]at yV;go_wp2_with (first|(go_at_call 190;(try rw[Z0]);refine zw.mono ?_;rintro e w' ⟨rfl,rfl⟩)|(go_at_call 191;refine eP.mono ?_;rintro e w2 ⟨rfl,oe,Da⟩));exact⟨⟨k+1,aa,by go_num,by rw[yV],hba.trans (oe.mono aa),aa,by rw[yV];exact World.rowIs.of_block Wn (oe.block _ aa)⟩,by simp[intOf];omega⟩
      ·rw[tP]at eP;have IF:rj ins ord k=ord++[k]:=by simp only[rj];rw[if_pos ⟨Qu,tP⟩]
       rw[IF]at yV;have Wo:∀w2:ae,mf w2 w.heap.size n ord->(Builtin.append_ #[130,130] 130 #[.slice (so ⟨w.heap.size,0,we⟩) ord.length n,.slice (so ⟨w2.heap.size,0,we⟩) 1 1]).run ak (w2.alloc (.cells #[.int .i64 k] 3))=.ok (.slice (so ⟨w.heap.size,0,we⟩) (ord.length+1) n) ((w2.alloc (.cells #[.int .i64 k] 3)).setCell ⟨w.heap.size,ord.length,we⟩ (.int .i64 k)):=λw2 h2=>C9 _ w.heap.size n k ord w2.heap.size (World.rowIs.alloc h2 _) OC (tA _ _ _ 0);go_wp2_with (first|(go_at_call 190;(try rw[Z0]);refine zw.mono ?_;rintro e w' ⟨rfl,rfl⟩)|(go_at_call 191;refine eP.mono ?_;rintro e w2 ⟨rfl,oe,Da⟩;have ME:mf w2 w.heap.size n ord:=World.rowIs.of_block Wn (oe.block _ aa);have Vz:=Wo w2 ME)|(at_builtin;refine lQ rfl _ _ 130 rfl rfl rfl Vz ?_));refine⟨⟨k+1,aa,by go_num,by rw[yV];simp,?_,by simp[World.setCell];omega,?_⟩,by simp[intOf];omega⟩
       ·exact((hba.trans (oe.mono aa)).alloc aa _).setCell (af _) _
       ·rw[yV];exact mf.put (World.rowIs.alloc ME _) OC k
     ·rw[Qu]at zw;have IF:rj ins ord k=ord:=by simp only[rj];rw[if_neg];rw[Qu];simp
      rw[IF]at yV;go_wp2_with (go_at_call 190;(try rw[Z0]);refine zw.mono ?_;rintro e w' ⟨rfl,rfl⟩);exact⟨⟨k+1,aa,by go_num,by rw[yV],hba,aa,by rw[yV];exact Wn⟩,by simp[intOf];omega⟩
    ·have e:k=n:=aa;subst e;go_wp2;exact⟨⟨r+1,aa,by go_num,rfl,im,hz,cd⟩,by simp[intOf];omega⟩
  ·go_wp2;go_ret;have e:r=n:=aa;subst e;exact⟨rfl,im,hz,cd⟩
end
section
open Go.RowKit
def oO(ins:Nat->List (Bool×Nat))(ord:List Nat):Prop:=∀i (h:i<ord.length),∀m,(true,m)∈ins ord[i]->∃k,∃hk:k<ord.length,k<i/\ord[k]=m
def Db(ins:Nat->List (Bool×Nat))(ord:List Nat)(s x:Nat)(h:x∈ord):x∈rj ins ord s:=by
 unfold rj;split
 ·simp[h]
 ·exact h
def Dc(ins:Nat->List (Bool×Nat))(ord:List Nat)(x:Nat)(h:x∈ord):∀k,x∈nX ins ord k
 |0=>by simpa[nX] using h
 |k+1=>by rw[rm];exact Db _ _ _ _ (Dc ins ord x h k)
def oO.step{ins:Nat->List (Bool×Nat)}{ord:List Nat}(h:oO ins ord)(s:Nat):oO ins (rj ins ord s):=by
 unfold rj;split
 ·rename_i hc;intro i hi m hm;have eP:=hc.2;rw[fY]at eP;by_cases cR:i<ord.length
  ·rw[cT cR]at hm;obtain⟨k,hk,h1,h2⟩:=h i cR m hm;exact⟨k,eW,h1,by rw[cT hk];exact h2⟩
  ·have e:i=ord.length:=by simp at hi;omega
   subst e;simp at hm;have:=eP _ hm;simp[nW]at this;obtain⟨k,hk,e⟩:=bB this;exact⟨k,eW,hk,by rw[cT hk];exact e⟩
 ·exact h
def oO.pass{ins:Nat->List (Bool×Nat)}{ord:List Nat}(h:oO ins ord):∀k,oO ins (nX ins ord k)
 |0=>by simpa[nX] using h
 |k+1=>by rw[rm];exact(oO.pass h k).step k
def oO.all(ins:Nat->List (Bool×Nat))(n:Nat):∀r,oO ins (eL ins n r)
 |0=>λi h=>by simp[eL]at h
 |r+1=>(oO.all ins n r).pass n
def FH(ins:Nat->List (Bool×Nat))(ord:List Nat)(s:Nat)(h:∀m,(true,m)∈ins s->m∈ord):∀k,s<k->s∈nX ins ord k
 |0,hk=>aa
 |k+1,hk=>by
  rw[rm];by_cases e:s=k
  ·subst e;unfold rj;split
   ·simp
   ·rename_i hc;have eP:(ins s).all (nW (nX ins ord s))=true:=by
     rw[fY];rintro⟨b,m⟩ hm;cases b
     ·simp[nW]
     ·have:=Dc ins ord m (h m hm) s;simp[nW,this]
    cases LD:(nX ins ord s).contains s
    ·exact absurd ⟨LD,eP⟩ hc
    ·simpa using LD
  ·exact Db _ _ _ _ (FH ins ord s h k aa)
def Dd(ins:Nat->List (Bool×Nat))(n:Nat)(rk:Nat->Nat)(RH:∀s,s<n->∀m,(true,m)∈ins s->m<n/\rk m<rk s):∀r s,s<n->rk s<r->s∈eL ins n r
 |0,s,_,h=>aa
 |r+1,s,hs,h=>by
  refine FH ins _ s (λm hm=>?_) n hs;obtain⟨h1,h2⟩:=RH s hs m hm;exact Dd ins n rk RH r m h1 aa
def MQ(n:Nat)(l:List Nat)(hd:l.Nodup)(hl:∀x∈l,x<n)(h:∀s,s<n->s∈l):l.length=n:=by
 have h1:=vL n l hd hl;have h2:∀k,k<=n->∀l:List Nat,l.Nodup->(∀s,s<k->s∈l)->k<=l.length:=by
  intro k
  induction k with
  |zero=>intro _ l _ _;exact aW _
  |succ k ih =>
   intro hk l hd h;have h3:=ih aa (l.erase k) (hd.erase k) (λs hs=>(hd.mem_erase_iff).2 ⟨aa,h s aa⟩);have h4:=List.length_erase (a:=k) (l:=l);rw[if_pos (h k aa)]at h4;have:0<l.length:=lA (h k aa);omega
 have:=h2 n (af _) l hd h;omega
def TD(ins:Nat->List (Bool×Nat))(n:Nat)(rk:Nat->Nat)(hb:∀s,s<n->rk s<n)(RH:∀s,s<n->∀m,(true,m)∈ins s->m<n/\rk m<rk s):
  (eL ins n n).length=n/\pI n (eL ins n n)/\(∀s,s<n->s∈eL ins n n)/\oO ins (eL ins n n):=by
 have h1:=pI.all n ins n;have h2:∀s,s<n->s∈eL ins n n:=λs hs=>Dd ins n rk RH n s hs (hb s hs);exact⟨MQ n _ h1.1 h1.2 h2,h1,h2,oO.all ins n n⟩
end
end Go.Proofs.Kz
namespace Go.Proofs
open _root_.Option renaming some → so,none → we
section
open Go.Shelf
end
end Go.Proofs
namespace Go.Proofs.Kz
open Go.Proofs.Tryz
open Go.Proofs.Tryz renaming prog → ak
open _root_.ByteArray renaming empty → bF
open _root_.Option renaming some → so,none → we
open Go.Proofs
section
open Go.RowKit
def vd:∀a b:List UInt8,Op.bytesLess a b=decide (Lib.compareBytes a b<0)
 | [],[]=>by simp[Op.bytesLess,Lib.compareBytes]
 | [],_::_=>by simp[Op.bytesLess,Lib.compareBytes]
 |_::_,[]=>by simp[Op.bytesLess,Lib.compareBytes]
 |x::r,y::s=>by
  simp only[Op.bytesLess,Lib.compareBytes];by_cases h1:x<y
  ·simp[h1]
  ·by_cases h2:y<x
   ·have:x≠y:=λe=>by subst e;exact iq _ h2
    simp[h1,h2,this]
   ·have e:x=y:=gz (eA.1 h2) (eA.1 h1);subst e;simp[h1,vd r s]
def Hd(less:Nat->Bool)(n:Nat)(hm:∀i j,i<=j->j<n->less j=true->less i=true):∀f lo hi,lo<=hi->hi<=n->hi-lo<=f->(∀t,t<lo->less t=true)->(∀t,hi<=t->t<n->less t=false) ->
  lo<=Lib.bsGo less f lo hi/\Lib.bsGo less f lo hi<=hi/\(∀t,t<Lib.bsGo less f lo hi->less t=true)/\∀t,Lib.bsGo less f lo hi<=t->t<n->less t=false
 |0,lo,hi,h1,h2,h3,h4,h5=>by
  have e:lo=hi:=aa;subst e;exact⟨af _,af _,h4,h5⟩
 |f+1,lo,hi,h1,h2,h3,h4,h5=>by
  simp only[Lib.bsGo];by_cases cR:lo<hi
  ·rw[if_pos cR];cases hl:less ((lo+hi)/2)
   ·simp only[aT,if_false];obtain⟨k1,k2,k3,k4⟩:=Hd less n hm f lo ((lo+hi)/2) aa aa aa h4 (λt ht htn=>by
     cases hq:less t
     ·rfl
     ·have:=hm _ t ht htn hq;rw[hl]at this;cases this)
    exact⟨k1,aa,k3,k4⟩
   ·simp only[if_true];obtain⟨k1,k2,k3,k4⟩:=Hd less n hm f ((lo+hi)/2+1) hi aa h2 aa (λt ht=>hm t _ aa aa hl) h5;exact⟨aa,k2,k3,k4⟩
  ·rw[if_neg cR];have e:lo=hi:=aa;subst e;exact⟨af _,af _,h4,h5⟩
def nY(xs:List ag)(x:ag):Nat:=Lib.bsGo (λt=>Op.bytesLess (xs.getD t bF).toList x.toList) xs.length 0 xs.length
def qk(xs:List ag)(x:ag):Bool:=decide (nY xs x<xs.length/\xs.getD (nY xs x) bF=x)
def MR(b c:Nat)(p:Option Addr)(xs:List ag)(x:ag)(w:ae)(hn:xs.length<=100000)(hp:xs≠[]->p=so ⟨b,0,we⟩)(ht:gf w b 0 xs):
  Calls ak 77 #[.slice p xs.length c,.string x] w λe w'=>e=.returned (.tuple #[.int .i64 (nY xs x:Nat),.bool (qk xs x)])/\∃q,w'=w.drewN q:=by
 by_cases h0:xs=[]
 ·subst h0;exact(Any2.slices_BinarySearch_string_empty Tryz.JI p c x w).mono λe w' hq=>by
   obtain⟨rfl,rfl⟩:=hq;exact⟨by simp[nY,qk,Lib.bsGo],0,rfl⟩
 ·obtain rfl:=hp h0;exact Any2.slices_BinarySearch_string Tryz.JI b 0 xs.length c (λj=>xs.getD j bF) x w aa λj hj=>by
   rw[ht j hj];simp[hj]
def mY(xs:List ag):Prop:=∀i j (hi:i<xs.length) (hj:j<xs.length),i<j->Lib.compareBytes xs[i].toList xs[j].toList<0
def yW(xs:List ag)(hs:mY xs)(x:ag):qk xs x=true↔x∈xs:=by
 have NX:∀i j,i<=j->j<xs.length->Op.bytesLess (xs.getD j bF).toList x.toList=true->Op.bytesLess (xs.getD i bF).toList x.toList=true:=by
  intro i j wh hj hl;by_cases e:i=j
  ·subst e;exact hl
  ·rw[vd]at *;have hi:i<xs.length:=aa;have h1:=hs i j hi hj aa;simp only[List.getD_eq_getElem?_getD,au hi,au hj,bc,decide_eq_true_eq]at *;exact oM _ _ _ h1 hl
 obtain⟨k1,k2,k3,k4⟩:=Hd _ xs.length NX xs.length 0 xs.length (aW _) (af _) aa (λt ht=>aa) (λt ht h=>aa);constructor
 ·intro h;simp only[qk,decide_eq_true_eq]at h;obtain⟨h1,h2⟩:=h;rw[<- h2];simp[h1]
 ·intro hx;obtain⟨j,hj,rfl⟩:=bB hx;have Fq:Op.bytesLess (xs.getD j bF).toList xs[j].toList=false:=by
   rw[vd];simp[hj,sW]
  have hle:nY xs xs[j]<=j:=dt λcR=>by
   have:=k3 j cR;rw[Fq]at this;cases this
  have XI:j<=nY xs xs[j]:=dt λcR=>by
   have h1:=k4 (nY xs xs[j]) (af _) aa;have hp:nY xs xs[j]<xs.length:=aa;have h2:=hs (nY xs xs[j]) j hp hj cR;rw[vd]at h1;simp only[List.getD_eq_getElem?_getD,au hp,bc]at h1;simp at h1;omega
  have e:nY xs xs[j]=j:=aa;simp only[qk,decide_eq_true_eq];rw[e];exact⟨hj,by simp[hj]⟩
end
section
open Go.RowKit
def Wp:(ak.info? 280).map (λi=>(i.zero,i.size,i.bytes))=so (so (.agg #[.bool false,.int .i64 0]),2,16):=ah
def He(w:ae)(n:Nat)(hn:n<=100000):(Instr.makeSlice 218 (.int .i64 (n:Int)) (.int .i64 (n:Int))).run ak w=.ok (.slice (so ⟨w.heap.size,0,we⟩) n n) (w.alloc (.cells (madeCells #[.bool false,.int .i64 0] (n*2)) 280)):=by
 obtain⟨i,hi,hz⟩:=aH.1 Wp;simp only[bO]at hz;obtain⟨hz,hs,hb⟩:=hz;have:=run_make (P:=ak) w 218 280 i _ underlying218 hi hz .i64 .i64 n n aa (en _) (by rw[hb];omega) aa;rw[this,hs];simp[Value.cells]
def lH(l:List (Bool×Nat))(j:Nat):Value:=if j%2=0 then .bool (l.getD (j/2) (false,0)).1 else .int .i64 ((l.getD (j/2) (false,0)).2:Nat)
def sd(outs sources:List ag)(x:ag):Bool×Nat:=(qk outs x,if qk outs x then nY outs x else nY sources x)
def ve(b c:Nat)(p:Option Addr)(xs:List ag)(x:ag)(w:ae)(hn:xs.length<=100000)(hp:xs≠[]->p=so ⟨b,0,we⟩)(ht:gf w b 0 xs):
  Calls ak 77 #[.slice p xs.length c,.string x] w λe w'=>e=.returned (.tuple #[.int .i64 (nY xs x:Nat),.bool (qk xs x)])/\w'.heap=w.heap/\∀w0 B,Below B w0 w->Below B w0 w' :=
 (MR b c p xs x w hn hp ht).mono λe w' ⟨h1,q,h2⟩=>⟨h1,by rw[h2];rfl,λw0 B hb=>by rw[h2];exact⟨hb.os,hb.tape,hb.output,hb.size,hb.block⟩⟩
def nA{w w':ae}(h:w'.heap=w.heap)(a:Addr):w'.cell? a=w.cell? a:=by simp[World.cell?,h]
def vf{w w':ae}(h:w'.heap=w.heap)(a:Addr):w'.frozen? a=w.frozen? a:=by simp[World.frozen?,h]
def TE{w:ae}{B t n k:Nat}{lk:List (Bool×Nat)}{b:Bool}{m:Nat}(cd:w.rowIs B t (n*2) λj=>if j<k*2 then lH lk j else lH [] j)(hl:lk.getD k (false,0)=(b,m)):
  ((w.setCell ⟨B,k*2,we⟩ (.bool b)).setCell ⟨B,k*2+1,we⟩ (.int .i64 m)).rowIs B t (n*2) λj=>if j<(k+1)*2 then lH lk j else lH [] j:=by
 refine((cd.set (k*2) _).set (k*2+1) _).congr λj hj=>?_;by_cases e1:j=k*2+1
 ·subst e1;rw[if_pos rfl,if_pos aa];have h1:(k*2+1)%2=1:=aa;have h2:(k*2+1)/2=k:=aa;simp only[lH,h1,h2,hl];rfl
 ·by_cases e2:j=k*2
  ·subst e2;rw[if_neg e1,if_pos rfl,if_pos aa];have h1:(k*2)%2=0:=aa;have h2:(k*2)/2=k:=aa;simp only[lH,h1,h2,hl];rfl
  ·rw[if_neg e1,if_neg e2];by_cases e3:j<k*2
   ·rw[if_pos e3,if_pos aa]
   ·rw[if_neg e3,if_neg aa]
def MT(nb nc ob oc sb sc:Nat)(np sp:Option Addr)(names outs sources:List ag)(w:ae)(h1:names.length<=100000)(h2:outs.length<=100000)(h3:sources.length<=100000)(vW:names≠[]->np=so ⟨nb,0,we⟩/\nb<w.heap.size)(xU:sources≠[]->sp=so ⟨sb,0,we⟩/\sb<w.heap.size)(gB:ob<w.heap.size)(hn:gf w nb 0 names)(ho:gf w ob 0 outs)(hs:gf w sb 0 sources):
  Calls ak 149 #[.slice np names.length nc,.slice (so ⟨ob,0,we⟩) outs.length oc,.slice sp sources.length sc] w λe w'=>e=.returned (.slice (so ⟨w.heap.size,0,we⟩) names.length names.length)/\Below w.heap.size w w'/\w.heap.size<w'.heap.size /\
   w'.rowIs w.heap.size 280 (names.length*2) (lH (names.map (sd outs sources))):=by
 have lP:=λw=>He w names.length h1;go_enter func149,ntmps149;go_wp2;go_loopw [17] (λi w'=>∃k:Nat,k<=names.length/\i=.int .i64 k/\Below w.heap.size w w'/\w.heap.size<w'.heap.size/\w'.rowIs w.heap.size 280 (names.length*2) (λj=>if j<k*2 then lH (names.map (sd outs sources)) j else lH [] j)) (λi _=>names.length-(intOf i).toNat)
 case atStart =>
  refine⟨0,aW _,rfl,(Below.refl _ _).alloc (af _) _,aj,_,dz _ _,by simp[size_madeCells],λj hj=>?_⟩;simp only[madeCells,aM,Array.getElem?_range,hj,if_true,aK];rcases fL j with e|e<;>simp[e,lH]
 case round =>
  obtain⟨k,hk,rfl,im,hz,cd⟩:=hrel;by_cases cR:k<names.length
  ·obtain⟨rfl,Gt⟩:=vW (lU cR);have c0:=hn.below Gt im k cR;rw[bD]at c0;have VX:=ve ob oc (so ⟨ob,0,we⟩) outs names[k] wr h2 (λ_=>rfl) (ho.below gB im);have hss:∀w2:ae,w2.heap=wr.heap->Calls ak 77 #[.slice sp sources.length sc,.string names[k]] w2 λe w'=>e=.returned (.tuple #[.int .i64 (nY sources names[k]:Nat),.bool (qk sources names[k])])/\w'.heap=w2.heap/\∀w0 B,Below B w0 w2->Below B w0 w':=λw2 tY =>
    ve sb sc sp sources names[k] w2 h3 (λh=>(xU h).1) (λj hj=>by
     obtain⟨_,hsb⟩:=xU (lU hj);rw[nA tY];exact hs.below hsb im j hj)
   have d0:wr.cell? ⟨w.heap.size,k*2,we⟩=so (.bool false):=by rw[cd.cell aa,if_neg aa];simp[lH]
   have d1:wr.cell? ⟨w.heap.size,k*2+1,we⟩=so (.int .i64 0):=by rw[cd.cell aa,if_neg aa];simp[lH]
   have f0:∀j,wr.frozen? ⟨w.heap.size,j,we⟩=false:=λj=>cd.frozen j;have X8:(names.map (sd outs sources)).getD k (false,0)=sd outs sources names[k]:=by simp[cR]
   generalize hx:names[k]=x at *;have HT:sd outs sources x=(qk outs x,if qk outs x then nY outs x else nY sources x):=rfl;clear hn ho hs vW;generalize qk outs x=ho at *;generalize nY outs x=po at *;generalize nY sources x=ps at *;generalize qk sources x=ts at *;generalize names.map (sd outs sources)=lk at *;generalize sd outs sources x=lx at *;cases ho
   ·go_wp2_with (first|(go_at_call 77;refine HW.mono ?_;rintro e w3 ⟨rfl,X9,FG⟩;have g0:=(nA (X9.trans tY) _).trans d0;have g1:=(nA (X9.trans tY) _).trans d1;have g2:=λj=>(vf (X9.trans tY) _).trans (f0 j))|(go_at_call 77;refine VX.mono ?_;rintro e w2 ⟨rfl,tY,oe⟩;have HW:=hss w2 tY));refine⟨⟨k+1,aa,by go_num,((FG _ _ (oe _ _ im)).setCell (af _) _).setCell (af _) _,?_,?_⟩,by simp[intOf];omega⟩
    ·simp[World.setCell,X9,tY];exact hz
    ·exact TE (cd.of_block (by rw[X9,tY])) (by rw[X8,HT];rfl)
   ·go_wp2_with (go_at_call 77;refine VX.mono ?_;rintro e w2 ⟨rfl,tY,oe⟩;have g0:=(nA tY _).trans d0;have g1:=(nA tY _).trans d1;have g2:=λj=>(vf tY _).trans (f0 j));refine⟨⟨k+1,aa,by go_num,((oe _ _ im).setCell (af _) _).setCell (af _) _,?_,?_⟩,by simp[intOf];omega⟩
    ·simp[World.setCell,tY];exact hz
    ·exact TE (cd.of_block (by rw[tY])) (by rw[X8,HT];rfl)
  ·go_wp2;go_ret;exact⟨rfl,im,hz,cd.congr λi hi=>by rw[if_pos aa]⟩
end
section
open Go.RowKit
def tU(outs:List ag)(l:List ag):List ag:=l.filter λx=>!Lib.containsS outs x
def mI(outs:List ag)(nm:Nat->List ag):Nat->List ag
 |0=>[]
 |k+1=>mI outs nm k++tU outs (nm k)
def rn(outs:List ag)(nm:Nat->List ag)(n:Nat)(h:∀i,i<n->(nm i).length<=4):∀k,k<=n->(mI outs nm k).length<=4*k
 |0,_=>by simp[mI]
 |k+1,hk=>by
  have h1:=rn outs nm n h k aa;have h2:=h k aa;have h3:(tU outs (nm k)).length<=(nm k).length:=gC _ _;simp[mI];omega
def MU(outs:List ag)(l:List ag)(j:Nat)(h:j<l.length):tU outs (l.take (j+1))=tU outs (l.take j)++(if Lib.containsS outs l[j] then[] else[l[j]]):=by
 rw[take_succ l j h];simp only[tU,List.filter_append,List.filter_cons,List.filter_nil];cases Lib.containsS outs l[j]<;>simp
structure yX(w:ae)(b:Nat)(rs:List aN)(nm:Nat->List ag)(nb:Nat->Nat):Prop where
 at_:fw w b rs
 len:∀i (h:i<rs.length),rs[i].sl=(nm i).length
 ptr:∀i (h:i<rs.length),nm i≠[]->rs[i].sa=so ⟨nb i,0,we⟩/\nb i<w.heap.size
 txt:∀i,i<rs.length->gf w (nb i) 0 (nm i)
 four:∀i,i<rs.length->(nm i).length<=4
def Hf(b c:Nat)(xs:List ag)(x:ag)(w:ae)(hn:xs.length<=100000)(ht:gf w b 0 xs):
  Calls ak 80 #[.slice (so ⟨b,0,we⟩) xs.length c,.string x] w λe w'=>e=.returned (.bool (Lib.containsS xs x))/\w'=w:=by
 have:=Tryz.slices_Contains_string b 0 xs.length c xs x w (af _) aa (λj hj=>by rw[ht j hj];simp[hj]);rw[cO]at this;exact this
def vg(W:ae)(lo:Nat)(v:Value)(xs:List ag)(x:ag)(A:Nat)(h:W.ownsRow lo 9 1 v xs.length (xs.map .string))(hn:xs.length<=100000)(Jp:lo<=W.heap.size)(ha:W.cell? ⟨A,0,we⟩=so (.string x)):
  ∃v' W',(Builtin.append_ #[40,40] 40 #[v,.slice (so ⟨A,0,we⟩) 1 1]).run ak W=.ok v' W'/\W'.ownsRow lo 9 1 v' (xs++[x]).length ((xs++[x]).map .string)/\W.grownBy W' v.ownBlock:=by
 obtain⟨i,hi,pL⟩:=aH.1 xI;simp only[bO]at pL;obtain⟨v',W',e1,e2,e3,_⟩:=run_append_own (P:=ak) W lo 40 40 9 i _ 1 16 underlying40 hi pL.1 pL.2.1 pL.2.2 rfl aa v xs.length (xs.map .string) h ⟨A,0,we⟩ 1 1 [.string x] rfl (λj u hj=>by
  cases j with
  |zero=>simp at hj;subst hj;simpa[Addr.add] using ha
  |succ j=>simp at hj) (by simp;rfl) (by simp[maxLen];omega) aa Jp
 exact⟨v',W',e1,by simpa using e2,e3⟩
def MV{w:ae}{lo e sz n:Nat}{v:Value}{xs:List Value}(h:w.ownsRow lo e sz v n xs):∀k,v.ownBlock=so k->lo<=k:=λk hk=>by
 obtain⟨_,hc⟩:=h;rcases hc with⟨rfl,_⟩|⟨g,cap,cur,rfl,h1,_⟩
 ·cases hk
 ·cases hk;exact h1
end
section
open Go.RowKit
def vM{w:ae}{lo e sz n:Nat}{v:Value}{xs:List Value}(h:w.ownsRow lo e sz v n xs)(x:Obj):(w.alloc x).ownsRow lo e sz v n xs:=gv h λg hg Qp=>by
 obtain⟨_,hc⟩:=h;rcases hc with⟨rfl,_⟩|⟨g',cap,cur,rfl,h5,h6,_⟩
 ·cases hg
 ·have e:g=g':=aP hg;subst e;exact Below.heap_alloc _ _ _ (aI.1 h6).1
def Hg(b c ob oc:Nat)(p:Option Addr)(rs:List aN)(nm:Nat->List ag)(nb:Nat->Nat)(outs:List ag)(w:ae)(h1:rs.length<=1000)(h2:outs.length<=100000)(hp:rs≠[]->p=so ⟨b,0,we⟩/\b<w.heap.size)(gB:ob<w.heap.size)(hr:yX w b rs nm nb)(ho:gf w ob 0 outs){S C:ae->Value->ae->Prop}(hso:∀W v,W.ownsRow w.heap.size 9 1 v (mI outs nm rs.length).length ((mI outs nm rs.length).map .string)->Calls ak 188 #[v] W λe w'=>e=.returned (.tuple #[])/\S W v w')(hco:∀W v W1,W.ownsRow w.heap.size 9 1 v (mI outs nm rs.length).length ((mI outs nm rs.length).map .string)->S W v W1->Calls ak 189 #[v] W1 λe w'=>∃v',e=.returned v'/\C W v' w'):
  Calls ak 148 #[.slice p rs.length c,.slice (so ⟨ob,0,we⟩) outs.length oc] w λe w'=>∃v' W,e=.returned v'/\Below w.heap.size w W/\w.heap.size<=W.heap.size/\C W v' w':=by
 go_enter func148,ntmps148;go_wp2;go_loopw [5,12] (λv i w'=>∃k:Nat,k<=rs.length/\i=.int .i64 k/\Below w.heap.size w w'/\w.heap.size<=w'.heap.size/\w'.ownsRow w.heap.size 9 1 v (mI outs nm k).length ((mI outs nm k).map .string)) (λv i _=>rs.length-(intOf i).toNat)
 case atStart=>exact⟨0,aW _,rfl,Below.refl _ _,af _,by simp[mI],.inl ⟨rfl,rfl⟩⟩
 case round =>
  obtain⟨k,hk,rfl,im,hz,cd⟩:=hrel;by_cases cR:k<rs.length
  ·obtain⟨rfl,hb⟩:=hp (lU cR);obtain⟨c0,c1,c2⟩:=hr.at_.below hb im k cR;have hlen:=hr.len k cR;have MW:=hr.ptr k cR;have Zz:=hr.txt k cR;have h4:=hr.four k cR;have hrl:=rn outs nm rs.length hr.four k hk;have Wq:mI outs nm (k+1)=mI outs nm k++tU outs (nm k):=rfl;generalize mI outs nm k=raw at *;generalize hri:rs[k]=r at *;obtain⟨out,eT,sa,sl,sc⟩:=r;simp only at c0 c1 c2 hlen MW;subst hlen;go_wp2;go_loopw [5,19] (λv i w'=>∃j:Nat,j<=(nm k).length/\i=.int .i64 j/\Below w.heap.size w w'/\w.heap.size<=w'.heap.size/\w'.ownsRow w.heap.size 9 1 v (raw++tU outs ((nm k).take j)).length ((raw++tU outs ((nm k).take j)).map .string)) (λv i _=>(nm k).length-(intOf i).toNat)
   case atStart=>exact⟨0,aW _,rfl,im.alloc aa _,eW,by simpa[tU] using vM cd _⟩
   case round =>
    clear im hz cd;obtain⟨j,hj,rfl,im,hz,cd⟩:=hrel;by_cases uM:j<(nm k).length
    ·obtain⟨rfl,Gt⟩:=MW (lU uM);have d0:=Zz.below Gt im j uM;rw[bD]at d0;have zw:=Hf ob oc outs (nm k)[j] wr h2 (ho.below gB im);have BH:=MU outs (nm k) j uM;generalize hx:(nm k)[j]=x at *;have hl3:(tU outs ((nm k).take j)).length<=j:=aS (gC _ _) eW;cases Qu:Lib.containsS outs x
     ·rw[Qu]at zw BH;simp only[aT,if_false]at BH;obtain⟨v',W',e1,e2,e3⟩:=vg (wr.alloc (.cells #[.string x] 9)) w.heap.size _ _ x wr.heap.size (vM cd _) eW eW (tA _ _ _ 0);have FG:=Below.grown (im.alloc aa _) e3 eW (MV cd);go_wp2_with (first|(go_at_call 80;refine zw.mono ?_;rintro e w' ⟨rfl,rfl⟩)|(at_builtin;refine lQ rfl _ _ 40 rfl rfl rfl e1 ?_));exact⟨⟨j+1,aa,by go_num,FG,FG.size,by rw[BH,<- List.append_assoc];exact e2⟩,by simp[intOf];omega⟩
     ·rw[Qu]at zw BH;simp only[if_true,List.append_nil]at BH;go_wp2_with (go_at_call 80;refine zw.mono ?_;rintro e w' ⟨rfl,rfl⟩);exact⟨⟨j+1,aa,by go_num,im,hz,by rw[BH];exact cd⟩,by simp[intOf];omega⟩
    ·have e:j=(nm k).length:=aa;subst e;rw[cO]at cd;go_wp2;exact⟨⟨k+1,aa,by go_num,im,hz,by rw[Wq];exact cd⟩,by simp[intOf];omega⟩
  ·have e:k=rs.length:=aa;subst e;have hs:=hso _ _ cd;go_wp2_with (first|(go_at_call 188;refine hs.mono ?_;rintro e w' ⟨rfl,hS⟩;have hc:=hco _ _ _ cd hS)|(go_at_call 189;refine hc.mono ?_;rintro e w2 ⟨v',rfl,hC⟩));go_ret;exact⟨v',wr,rfl,im,hz,hC⟩
end
section
open Go.RowKit Go.Sort Go.Lib
def bytesOf(x:ag):List UInt8:=x.data.toList
def kS(raw:List ag):List (List UInt8):=(raw.map bytesOf).mergeSort λx y=>decide (x<=y)
def dR(raw:List ag):List ag:=(Lib.compact (kS raw)).map λl=>⟨l.toArray⟩
def TF(w:ae):Calls ak 188 #[.slice we 0 0] w λe w'=>e=.returned (.tuple #[])/\w'.heap=w.heap:=by
 have hl:=G0 0 w aa;have h2:∀W,Calls ak 225 #[.slice we 0 0,.int .i64 0,.int .i64 0] W λe w'=>e=.returned (.tuple #[])/\w'.heap=W.heap:=λW=>by
  go_enter func225,ntmps225;go_wp2;refine wp_loop_rounds 1 ?_;rw[rounds_succ];go_wp2
  go_end0
  exact⟨rfl,rfl⟩
 have h3:∀W lim,Calls ak 207 #[.slice we 0 0,.int .i64 0,.int .i64 0,.int .i64 lim] W λe w'=>e=.returned (.tuple #[])/\w'.heap=W.heap:=λW lim=>by
  go_enter func207,ntmps207;go_wp2;refine wp_loop_rounds 1 ?_;rw[rounds_succ];go_wp2_with (go_at_call 225;refine(h2 _).mono ?_;rintro e w' ⟨rfl,hw⟩)
  (try simp only[Exit.inBlock,Exit.then])
  refine bodyPost_ret (results_none ah _ _).1 rfl ?_;exact⟨rfl,hw⟩
 go_enter func188,ntmps188;go_wp2_with (first|(go_at_call 205;refine hl.mono ?_;rintro e w' ⟨⟨l,rfl⟩,rfl⟩)|(go_at_call 207;refine(h3 _ _).mono ?_;rintro e w' ⟨rfl,hw⟩))
 go_end0
 exact⟨rfl,hw⟩
def TG(lo:Nat)(raw:List ag)(W:ae)(v:Value)(W1:ae):Prop :=
 (v=.slice we 0 0/\raw=[]/\W1.heap=W.heap)\/∃g cap,v=.slice (so ⟨g,0,we⟩) raw.length cap/\raw.length<=cap/\lo<=g/\g<W.heap.size/\W.heap.size<=W1.heap.size/\(∀b,b<W.heap.size->b≠g->W1.heap[b]?=W.heap[b]?)/\Holds encStr W1 g 0 (kS raw).toArray
def sX(raw:List ag):(kS raw).length=raw.length:=by simp[kS,List.length_mergeSort]
def TH(lo:Nat)(raw:List ag)(W:ae)(v:Value)(h:W.ownsRow lo 9 1 v raw.length (raw.map .string))(hn:raw.length<=100000):
  Calls ak 188 #[v] W λe w'=>e=.returned (.tuple #[])/\TG lo raw W v w':=by
 obtain⟨_,hc⟩:=h;rcases hc with⟨rfl,h0⟩|⟨g,cap,cur,rfl,h1,h2,h3,h4,h5,h6⟩
 ·exact(TF W).mono λe w' ⟨h1,h2⟩=>⟨h1,.inl ⟨rfl,dx.1 h0,h2⟩⟩
 ·have hg:g<W.heap.size:=(aI.1 h2).1;have hH:Holds encStr W g 0 (raw.map bytesOf).toArray:=λj hj=>by
   have Bd:j<raw.length:=by simpa using hj
   rw[bD];refine⟨?_,by simp[World.frozen?,h2]⟩;have e:(raw.map Value.string)[j]?=cur[j]?:=by
    rw[<- h6,cE aa,Array.getElem?_toList]
   simp only[World.cell?,h2];simp only[Option.isSome_none,aT,if_false];rw[<- e];simp[Bd,encStr,bytesOf]
  have hs:=Tryz.slices_Sort_string g 0 cap (raw.map bytesOf) W hH hg eW;rw[b6]at hs;refine hs.mono λe w' hq=>?_;obtain⟨rfl,n,os,rfl⟩:=hq;have oe:g<(putRow encStr (Go.Sort.ahead W n) g 0 (kS raw).toArray).heap.size:=by simp[putRow,mapBlock,Go.Sort.ahead];exact hg
  refine⟨rfl,.inr ⟨g,cap,rfl,h3,h1,hg,?_,λb hb fu=>?_,?_⟩⟩
  ·simp[Go.Sort.grow,putRow,mapBlock,Go.Sort.ahead]
  ·rw[heap_grow_old _ _ (by simp[putRow,mapBlock,Go.Sort.ahead];exact hb)];simp only[putRow,mapBlock,Go.Sort.ahead];rw[aR,if_neg (λe=>fu e.symm)]
  ·exact holds_grow encStr _ os g 0 _ oe (holds_putRow encStr _ g 0 _ _ hH (by simp[List.length_mergeSort]))
end
section
open Go.RowKit Go.Sort Go.Lib
def Z1(lo:Nat)(raw:List ag)(W:ae)(v:Value)(W1:ae):Prop :=
 (v=.slice we 0 0/\dR raw=[]/\W1.heap=W.heap)\/∃g cap,v=.slice (so ⟨g,0,we⟩) (dR raw).length cap/\(dR raw).length<=cap/\lo<=g/\g<W.heap.size/\W.heap.size<=W1.heap.size/\(∀b,b<W.heap.size->b≠g->W1.heap[b]?=W.heap[b]?)/\gf W1 g 0 (dR raw)
def De{α:Type}[Inhabited α][DecidableEq α](zs:List α):(Lib.compact zs).length<=zs.length:=by
 unfold Lib.compact Lib.compactUpTo;rw[b6];exact aS (gC _ _) aj
def Kg(lo:Nat)(raw:List ag)(W:ae)(v:Value)(W1:ae)(hn:raw.length<=100000)(hS:TG lo raw W v W1):
  Calls ak 189 #[v] W1 λe w'=>∃v',e=.returned v'/\Z1 lo raw W v' w':=by
 rcases hS with⟨rfl,rfl,h0⟩|⟨g,cap,rfl,h1,h2,h3,h4,h5,h6⟩
 ·refine(Tryz.slices_Compact_string_empty we 0 W1).mono λe w' hq=>?_;obtain⟨rfl,rfl⟩:=hq;exact⟨_,rfl,.inl ⟨rfl,by simp[dR,kS,Lib.compact,Lib.compactUpTo],h0⟩⟩
 ·have hc:=Tryz.slices_Compact_string g 0 cap (kS raw) W1 h6 (by rw[sX];omega) (by rw[sX];exact h1);rw[sX]at hc;refine hc.mono λe w' hq=>?_;obtain⟨rfl,q,rfl⟩:=hq;have hle:(Lib.compact (kS raw)).length<=raw.length:=by rw[<- sX raw];exact De _
  have hl:(dR raw).length=(Lib.compact (kS raw)).length:=by simp[dR]
  refine⟨_,rfl,.inr ⟨g,cap,by rw[hl],aa,h2,h3,?_,λb hb fu=>?_,λk hk=>?_⟩⟩
  ·simp[putRow,mapBlock,Go.Sort.ahead];exact h4
  ·simp only[putRow,mapBlock,Go.Sort.ahead];rw[aR,if_neg (λe=>fu e.symm)];exact h5 b hb fu
  ·have lY:k<(Lib.compact (kS raw)).length:=aa;have:=(holds_putRow encStr (Go.Sort.ahead W1 q) g 0 _ (Lib.compact (kS raw)++List.replicate (raw.length-(Lib.compact (kS raw)).length) []).toArray h6 (by simp[sX];omega) k eW).1;rw[this];rw[fh _ k eW];simp only[List.getElem_toArray];rw[cT lY];simp[dR,encStr]
def EA(b c ob oc:Nat)(p:Option Addr)(rs:List aN)(nm:Nat->List ag)(nb:Nat->Nat)(outs:List ag)(w:ae)(h1:rs.length<=1000)(h2:outs.length<=100000)(hp:rs≠[]->p=so ⟨b,0,we⟩/\b<w.heap.size)(gB:ob<w.heap.size)(hr:yX w b rs nm nb)(ho:gf w ob 0 outs):
  Calls ak 148 #[.slice p rs.length c,.slice (so ⟨ob,0,we⟩) outs.length oc] w λe w'=>∃v' W,e=.returned v'/\Go.RowKit.Below w.heap.size w W/\w.heap.size<=W.heap.size/\Z1 w.heap.size (mI outs nm rs.length) W v' w':=by
 have hl:=rn outs nm rs.length hr.four rs.length (af _);exact Hg b c ob oc p rs nm nb outs w h1 h2 hp gB hr ho (S:=TG w.heap.size (mI outs nm rs.length)) (C:=Z1 w.heap.size (mI outs nm rs.length)) (λW v h=>TH _ _ W v h aa) (λW v W1 _ hS=>Kg _ _ W v W1 aa hS)
end
section
open Go.Lib
def Z2(a b:List UInt8):a<b↔compareBytes a b<0:=by
 have h1:=vd a b;rw[bytesLess_eq]at h1;exact decide_eq_decide.1 h1
def MX(a b:List UInt8):a<=b↔compareBytes a b<=0:=by
 have h:=rh a b;rw[show a<=b↔¬b<a from dj,Z2];omega
def Hh(a b c:List UInt8)(h1:compareBytes a b<=0)(h2:compareBytes b c<=0):compareBytes a c<=0:=by
 rcases iD h1 with h3|h3
 ·rcases iD h2 with h4|h4
  ·exact Int.le_of_lt (oM a b c h3 h4)
  ·rw[<- r9 b c h4];omega
 ·rw[r9 a b h3];exact h2
def Qv(a b c:List UInt8)(h1:compareBytes a b<=0)(h2:compareBytes b c<0):compareBytes a c<0:=by
 rcases iD h1 with h3|h3
 ·exact oM a b c h3 h2
 ·rw[r9 a b h3];exact h2
def Hi(raw:List ag):(kS raw).Pairwise λx y=>compareBytes x y<=0:=by
 have h:=List.pairwise_mergeSort (le:=λx y:List UInt8=>decide (x<=y)) (λa b c h1 h2=>by
  simp only[decide_eq_true_eq,MX]at *;exact Hh a b c h1 h2) (λa b=>by
  have:=rh a b;simp only[Bool.or_eq_true,decide_eq_true_eq,MX];omega) (raw.map bytesOf)
 exact h.imp λh=>(MX _ _).1 (by simpa using h)
def vh(d:Array (List UInt8))(hs:∀i j,i<j->j<d.size->compareBytes d[i]! d[j]!<=0):∀m,m<=d.size->(compactUpTo d m).Pairwise (λx y=>compareBytes x y<0)/\(∀x,x∈compactUpTo d m↔∃j,j<m/\x=d[j]!)
 |0,_=>by simp[compactUpTo]
 |m+1,hm=>by
  obtain⟨k1,k2⟩:=vh d hs m aa;rw[compactUpTo_succ];cases hk:keeps d m
  ·simp only[keeps,decide_eq_false_iff_not,not_or]at hk;have e:d[m]! = d[m-1]!:=Classical.not_not.1 hk.2;simp only[aT,if_false,List.append_nil];refine⟨k1,λx=>⟨λh=>?_,λ⟨j,hj,hx⟩=>?_⟩⟩
   ·obtain⟨j,hj,hx⟩:=(k2 x).1 h;exact⟨j,aa,hx⟩
   ·by_cases ej:j=m
    ·subst ej;rw[e]at hx;exact(k2 x).2 ⟨j-1,aa,hx⟩
    ·exact(k2 x).2 ⟨j,aa,hx⟩
  ·simp only[if_true];refine⟨?_,λx=>⟨λh=>?_,λ⟨j,hj,hx⟩=>?_⟩⟩
   ·rw[List.pairwise_append];refine⟨k1,aj,λx hx y hy=>?_⟩;simp at hy;subst hy;obtain⟨j,hj,rfl⟩:=(k2 x).1 hx;simp only[keeps,decide_eq_true_eq]at hk;have lY:d[m]!≠d[m-1]!:=hk.resolve_left aa;have h1:compareBytes d[m-1]! d[m]!<0:=by
     have:=hs (m-1) m aa aa;rcases iD this with h|h
     ·exact h
     ·exact absurd (r9 _ _ h).symm lY
    by_cases ej:j=m-1
    ·subst ej;exact h1
    ·exact Qv _ _ _ (hs j (m-1) aa aa) h1
   ·rw[bG]at h;rcases h with h|h
    ·obtain⟨j,hj,hx⟩:=(k2 x).1 h;exact⟨j,aa,hx⟩
    ·simp at h;exact⟨m,aa,h⟩
   ·rw[bG];by_cases ej:j=m
    ·subst ej;exact .inr (by simp[hx])
    ·exact .inl ((k2 x).2 ⟨j,aa,hx⟩)
def sY(raw:List ag):mY (dR raw)/\∀x,x∈dR raw↔x∈raw:=by
 have hs:=Hi raw;obtain⟨k1,k2⟩:=vh (kS raw).toArray (λi j wh hj=>by
  have Bd:j<(kS raw).length:=by simpa using hj
  rw[fh _ i eW,fh _ j hj];exact ba.1 hs i j aa Bd wh) (kS raw).length aj
 refine⟨λi j hi hj wh=>?_,λx=>?_⟩
 ·have mn:i<(Lib.compact (kS raw)).length:=by simpa[dR] using hi
  have Bd:j<(Lib.compact (kS raw)).length:=by simpa[dR] using hj
  have:=ba.1 k1 i j mn Bd wh;simp only[dR,List.getElem_map,ByteArray.toList_mk];exact this
 ·have hb:∀l:List UInt8,l∈Lib.compact (kS raw)↔l∈raw.map bytesOf:=λl=>by
   have h1:l∈Lib.compact (kS raw)↔l∈kS raw:=by
    rw[show Lib.compact (kS raw)=compactUpTo (kS raw).toArray (kS raw).length from rfl,k2];constructor
    ·rintro⟨j,hj,rfl⟩;rw[fh _ j (by simpa using hj)];simp
    ·intro h;obtain⟨j,hj,rfl⟩:=bB h;exact⟨j,hj,by rw[fh _ j (by simpa using hj)];simp⟩
   rw[h1];simp[kS,List.mem_mergeSort]
  simp only[dR,List.mem_map];constructor
  ·rintro⟨l,hl,rfl⟩;have:=(hb l).1 hl;rw[aV]at this;obtain⟨y,hy,rfl⟩:=this;exact hy
  ·intro hx;exact⟨bytesOf x,(hb _).2 (aV.2 ⟨x,hx,rfl⟩),rfl⟩
end
open Go.Ren Go.Conc Go.ConcN
section
variable {Fin:br}{o:aL}{w:ae}
structure iz(o:aL)(w:ae)(v:Value)(o':aL)(w':ae):Prop where
 own:o'=grow o w w'
 bS:bJ ak L0 o' w'
 size:w.heap.size<=w'.heap.size
 old:∀b,b<w.heap.size->w'.heap[b]?=w.heap[b]?
 cl:Cl ak L0 o' v
def Wr{P:Program}{L:Nat->Bool}{o:aL}{vs:Array Value}(h:∀x∈vs,Cl P L o x):∀g,(nN P L o).has g->vs.map (val g)=vs:=λg hg=>by
 apply fC;intro i;rw[aM];cases e:vs[i]? with
 |none=>rfl
 |some x=>rw[aK,h x (fI e) g hg]
def fQ{f:FuncId}{vs:Array Value}(hL:L0 f=true)(hF:bJ ak L0 o w)(uS:∀x∈vs,Cl ak L0 o x){Q:ae->Value->ae->Prop}(hQ:∀wl D8 v w1 w2,D8.heap=wl.heap->w2.heap=w1.heap->Q wl v w1->Q D8 v w2)(hC:∀wl,wl.heap.size=w.heap.size->(∀b,o b->wl.heap[b]?=w.heap[b]?)->Calls ak f vs wl λe w'=>∃v,e=.returned v/\wl.heap.size<=w'.heap.size/\(∀b,b<wl.heap.size->w'.heap[b]?=wl.heap[b]?)/\Q wl v w'):
  bC ak (XB ak Fin 0) f vs o w λv o' w'=>iz o w v o' w'/\∃wl bN,wl.heap.size=w.heap.size/\bN.heap.size=w'.heap.size/\(∀b,w.heap.size<=b->b<w'.heap.size->w'.heap[b]?=bN.heap[b]?)/\Q wl v bN:=by
 refine xD jN hL hF (Wr uS) (R:=λwl v bN=>wl.heap.size<=bN.heap.size/\(∀b,b<wl.heap.size->bN.heap[b]?=wl.heap[b]?)/\Q wl v bN) (λwl v w1 τ d h=>⟨h.1,h.2.1,hQ wl wl v w1 (WT w1 τ d) rfl rfl h.2.2⟩) (λwl τ d v w' h=>⟨h.1,h.2.1,hQ (WT wl τ d) wl v w' w' rfl rfl h.2.2⟩) (λwl hz bu=>hC wl hz bu) ?_;rintro wl v bN w' hz bu ⟨h1,h2,h3⟩ B;refine⟨⟨rfl,B.bS,B.sx,λb hb=>?_,B.val⟩,wl,bN,hz,B.size.symm,λb hb nD=>B.same b (.inr ⟨hb,nD⟩),h3⟩;by_cases ho:o b
 ·rw[B.same b (.inl ho),h2 b aa,bu b ho]
 ·exact B.rest b hb ho
def gG{w w':ae}{b:Nat}{rs:List aN}(h:fw w b rs)(e:w'.heap[b]?=w.heap[b]?):fw w' b rs:=λi hi=>by
 obtain⟨c0,c1,c2⟩:=h i hi;exact⟨(cell_of e).trans c0,(cell_of e).trans c1,(cell_of e).trans c2⟩
def dS{w w':ae}{b off:Nat}{ts:List ag}(h:gf w b off ts)(e:w'.heap[b]?=w.heap[b]?):gf w' b off ts:=λi hi=>(cell_of e).trans (h i hi)
def TJ(hF:bJ ak L0 o w)(b c:Nat)(p:Option Addr)(rs:List aN)(hn:rs.length<=100000)(hp:rs≠[]->p=so ⟨b,0,we⟩/\o b)(hv:fw w b rs)(hc:Cl ak L0 o (.slice p rs.length c)):
  bC ak (XB ak Fin 0) 147 #[.slice p rs.length c] o w λv o' w'=>iz o w v o' w'/\v=.slice (so ⟨w.heap.size,0,we⟩) rs.length rs.length/\w.heap.size<w'.heap.size/\gf w' w.heap.size 0 (rs.map (·.out)):=by
 have fG:∀x∈#[Value.slice p rs.length c],Cl ak L0 o x:=λx hx=>by
  simp at hx;subst hx;exact hc
 refine bC.mono (fQ ah hF fG (Q:=λwl v w'=>v=.slice (so ⟨wl.heap.size,0,we⟩) rs.length rs.length/\wl.heap.size<w'.heap.size/\w'.rowIs wl.heap.size 9 rs.length (λj=>.string ((rs.map (·.out)).getD j bF))) (λwl D8 v w1 w2 e1 e2 h=>?_) (λwl hz bu=>?_)) (λv o' w' hq=>?_)
 ·rw[e1,e2];exact⟨h.1,h.2.1,h.2.2.of_block (by rw[e2])⟩
 ·refine(MP b c p rs wl hn (λh=>⟨(hp h).1,by rw[hz];exact hF.lt (hp h).2⟩) ?_).mono λe w' hq=>?_
  ·intro i hi;exact gG hv (bu b (hp (lU hi)).2) i hi
  ·obtain⟨rfl,h1,h2,h3⟩:=hq;exact⟨_,rfl,h1.size,λb hb=>h1.block b hb,rfl,h2,h3⟩
 ·obtain⟨hN,wl,bN,z1,z2,hs,rfl,h2,h3⟩:=hq;rw[z1]at h2 h3 hN |-;refine⟨hN,rfl,aa,λk hk=>?_⟩;have lY:k<rs.length:=by simpa using hk
  have:=(h3.of_block (hs _ (af _) aa)).cell lY;rw[bD,this];simp[lY]
def kg{w w':ae}{St n:Nat}{out:Nat->ag}{eT:Nat->Int}{ins:Nat->List (Bool×Nat)}{cX:Nat->Nat}(h:qj w St n out eT ins cX)(e:w'.heap[St]?=w.heap[St]?)(ei:∀s,s<n->w'.heap[cX s]?=w.heap[cX s]?)(hz:w.heap.size<=w'.heap.size):qj w' St n out eT ins cX where
 out s hs:=(cell_of e).trans (h.out s hs)
 eT s hs:=(cell_of e).trans (h.eT s hs)
 Be s hs:=(cell_of e).trans (h.Be s hs)
 CV s hs j hj:=⟨(cell_of (ei s hs)).trans (h.CV s hs j hj).1,(cell_of (ei s hs)).trans (h.CV s hs j hj).2⟩
 lt s hs:=bf (h.lt s hs) hz
 short:=h.short
def Qw(hF:bJ ak L0 o w)(St n sc:Nat)(out:Nat->ag)(eT:Nat->Int)(ins:Nat->List (Bool×Nat))(cX:Nat->Nat)(hn:n<=1000)(ZZ:o St)(fe:qj w St n out eT ins cX)(hio:∀s,s<n->o (cX s)):
  bC ak (XB ak Fin 0) 150 #[.slice (so ⟨St,0,we⟩) n sc] o w λv o' w'=>iz o w v o' w'/\v=.slice (so ⟨w.heap.size,0,we⟩) (eL ins n n).length n/\w.heap.size<w'.heap.size/\mf w' w.heap.size n (eL ins n n):=by
 have fG:∀x∈#[Value.slice (so ⟨St,0,we⟩) n sc],Cl ak L0 o x:=λx hx=>by
  simp at hx;subst hx;exact eK ZZ
 refine bC.mono (fQ ah hF fG (Q:=λwl v w'=>v=.slice (so ⟨wl.heap.size,0,we⟩) (eL ins n n).length n/\wl.heap.size<w'.heap.size/\mf w' wl.heap.size n (eL ins n n)) (λwl D8 v w1 w2 e1 e2 h=>?_) (λwl hz bu=>?_)) (λv o' w' hq=>?_)
 ·rw[e1,e2];exact⟨h.1,h.2.1,World.rowIs.of_block h.2.2 (by rw[e2])⟩
 ·refine(Kf St n sc out eT ins cX wl hn (by rw[hz];exact hF.lt ZZ) (kg fe (bu St ZZ) (λs hs=>bu _ (hio s hs)) aa)).mono λe w' hq=>?_;obtain⟨rfl,h1,h2,h3⟩:=hq;exact⟨_,rfl,h1.size,λb hb=>h1.block b hb,rfl,h2,h3⟩
 ·obtain⟨hN,wl,bN,z1,z2,hs,rfl,h2,h3⟩:=hq;rw[z1]at h2 h3 hN |-;exact⟨hN,rfl,aa,World.rowIs.of_block h3 (hs _ (af _) aa)⟩
def TK(hF:bJ ak L0 o w)(nb nc ob oc sb sc:Nat)(np sp:Option Addr)(names outs sources:List ag)(h1:names.length<=100000)(h2:outs.length<=100000)(h3:sources.length<=100000)(vW:names≠[]->np=so ⟨nb,0,we⟩/\o nb)(xU:sources≠[]->sp=so ⟨sb,0,we⟩/\o sb)(gB:o ob)(hn:gf w nb 0 names)(ho:gf w ob 0 outs)(hs:gf w sb 0 sources)(Of:Cl ak L0 o (.slice np names.length nc))(Rv:Cl ak L0 o (.slice sp sources.length sc)):
  bC ak (XB ak Fin 0) 149 #[.slice np names.length nc,.slice (so ⟨ob,0,we⟩) outs.length oc,.slice sp sources.length sc] o w λv o' w'=>iz o w v o' w'/\v=.slice (so ⟨w.heap.size,0,we⟩) names.length names.length/\w.heap.size<w'.heap.size /\
   w'.rowIs w.heap.size 280 (names.length*2) (lH (names.map (sd outs sources))):=by
 have fG:∀x∈#[Value.slice np names.length nc,.slice (so ⟨ob,0,we⟩) outs.length oc,.slice sp sources.length sc],Cl ak L0 o x:=λx hx=>by
  simp at hx;rcases hx with rfl|rfl|rfl
  ·exact Of
  ·exact eK gB
  ·exact Rv
 refine bC.mono (fQ ah hF fG (Q:=λwl v w'=>v=.slice (so ⟨wl.heap.size,0,we⟩) names.length names.length/\wl.heap.size<w'.heap.size/\w'.rowIs wl.heap.size 280 (names.length*2) (lH (names.map (sd outs sources)))) (λwl D8 v w1 w2 e1 e2 h=>?_) (λwl hz bu=>?_)) (λv o' w' hq=>?_)
 ·rw[e1,e2];exact⟨h.1,h.2.1,World.rowIs.of_block h.2.2 (by rw[e2])⟩
 ·refine(MT nb nc ob oc sb sc np sp names outs sources wl h1 h2 h3 (λh=>⟨(vW h).1,by rw[hz];exact hF.lt (vW h).2⟩) (λh=>⟨(xU h).1,by rw[hz];exact hF.lt (xU h).2⟩) (by rw[hz];exact hF.lt gB) ?_ (dS ho (bu _ gB)) ?_).mono λe w' hq=>?_
  ·intro i hi;exact dS hn (bu nb (vW (lU hi)).2) i hi
  ·intro i hi;exact dS hs (bu sb (xU (lU hi)).2) i hi
  obtain⟨rfl,h1,h2,h3⟩:=hq;exact⟨_,rfl,h1.size,λb hb=>h1.block b hb,rfl,h2,h3⟩
 ·obtain⟨hN,wl,bN,z1,z2,hs,rfl,h2,h3⟩:=hq;rw[z1]at h2 h3 hN |-;exact⟨hN,rfl,aa,World.rowIs.of_block h3 (hs _ (af _) aa)⟩
end
def MY(v:Value)(p:Option Addr)(n c:Nat)(w:ae):Calls ak 145 #[.slice p n c] w λe w'=>e=.returned (.func (.func 186) #[] #[.pointer (so ⟨w.heap.size,0,we⟩)])/\w'=w.alloc (.cells #[.slice p n c] 35):=by
 go_enter func145,ntmps145;go_wp2;go_ret;exact⟨rfl,rfl⟩
section
variable {Fin:br}{o:aL}{w:ae}
def TL(hF:bJ ak L0 o w)(p:Option Addr)(n c:Nat)(hc:Cl ak L0 o (.slice p n c)):
  bC ak (XB ak Fin 0) 145 #[.slice p n c] o w λv o' w'=>iz o w v o' w'/\v=.func (.func 186) #[] #[.pointer (so ⟨w.heap.size,0,we⟩)]/\w.heap.size<w'.heap.size/\w'.heap[w.heap.size]?=so (.cells #[.slice p n c] 35):=by
 have fG:∀x∈#[Value.slice p n c],Cl ak L0 o x:=λx hx=>by
  simp at hx;subst hx;exact hc
 refine bC.mono (fQ ah hF fG (Q:=λwl v w'=>v=.func (.func 186) #[] #[.pointer (so ⟨wl.heap.size,0,we⟩)]/\wl.heap.size<w'.heap.size/\w'.heap[wl.heap.size]?=so (.cells #[.slice p n c] 35)) (λwl D8 v w1 w2 e1 e2 h=>?_) (λwl hz bu=>?_)) (λv o' w' hq=>?_)
 ·rw[e1,e2];exact h
 ·refine(MY undef p n c wl).mono λe w' hq=>?_;obtain⟨rfl,rfl⟩:=hq;exact⟨_,rfl,aj,λb hb=>Go.RowKit.Below.heap_alloc _ _ b hb,rfl,aj,dz _ _⟩
 ·obtain⟨hN,wl,bN,z1,z2,hs,rfl,h2,h3⟩:=hq;rw[z1]at h2 h3 hN |-;exact⟨hN,rfl,aa,(hs _ (af _) aa).trans h3⟩
def mg(lo:Nat)(ts:List ag)(v:Value)(w':ae):Prop:=(v=.slice we 0 0/\ts=[])\/∃g cap,v=.slice (so ⟨g,0,we⟩) ts.length cap/\ts.length<=cap/\lo<=g/\g<w'.heap.size/\gf w' g 0 ts
def Kh(hF:bJ ak L0 o w)(b c ob oc:Nat)(p:Option Addr)(rs:List aN)(nm:Nat->List ag)(nb:Nat->Nat)(outs:List ag)(h1:rs.length<=1000)(h2:outs.length<=100000)(hp:rs≠[]->p=so ⟨b,0,we⟩/\o b)(gB:o ob)(hr:yX w b rs nm nb)(ua:∀i,i<rs.length->nm i≠[]->o (nb i))(ho:gf w ob 0 outs)(hc:Cl ak L0 o (.slice p rs.length c)):
  bC ak (XB ak Fin 0) 148 #[.slice p rs.length c,.slice (so ⟨ob,0,we⟩) outs.length oc] o w λv o' w'=>iz o w v o' w'/\mg w.heap.size (dR (mI outs nm rs.length)) v w':=by
 have fG:∀x∈#[Value.slice p rs.length c,.slice (so ⟨ob,0,we⟩) outs.length oc],Cl ak L0 o x:=λx hx=>by
  simp at hx;rcases hx with rfl|rfl
  ·exact hc
  ·exact eK gB
 refine bC.mono (fQ ah hF fG (Q:=λwl v w'=>mg wl.heap.size (dR (mI outs nm rs.length)) v w') (λwl D8 v w1 w2 e1 e2 h=>?_) (λwl hz bu=>?_)) (λv o' w' hq=>?_)
 ·rcases h with h|⟨g,cap,k1,k2,k3,k4,k5⟩
  ·exact .inl h
  ·exact .inr ⟨g,cap,k1,k2,by rw[e1];exact k3,by rw[e2];exact k4,dS k5 (by rw[e2])⟩
 ·have XS:yX wl b rs nm nb:=by
   refine⟨λi hi=>gG hr.at_ (bu b (hp (lU hi)).2) i hi,hr.len,λi hi fu=>⟨(hr.ptr i hi fu).1,by rw[hz];exact(hr.ptr i hi fu).2⟩,λi hi j hj=>?_,hr.four⟩;exact dS (hr.txt i hi) (bu _ (ua i hi (lU hj))) j hj
  refine(EA b c ob oc p rs nm nb outs wl h1 h2 (λh=>⟨(hp h).1,by rw[hz];exact hF.lt (hp h).2⟩) (by rw[hz];exact hF.lt gB) XS (dS ho (bu _ gB))).mono λe w' hq=>?_;obtain⟨v',W,rfl,hB,hW,hC⟩:=hq;rcases hC with⟨rfl,k1,k2⟩|⟨g,cap,k1,k2,k3,k4,k5,k6,k7⟩
  ·exact⟨_,rfl,by rw[k2];exact hW,λb hb=>by rw[k2];exact hB.block b hb,.inl ⟨rfl,k1⟩⟩
  ·exact⟨_,rfl,aa,λb hb=>(k6 b aa aa).trans (hB.block b hb),.inr ⟨g,cap,k1,k2,k3,aa,k7⟩⟩
 ·obtain⟨hN,wl,bN,z1,z2,hs,hq⟩:=hq;refine⟨hN,?_⟩;rw[z1]at hq;rcases hq with h|⟨g,cap,k1,k2,k3,k4,k5⟩
  ·exact .inl h
  ·exact .inr ⟨g,cap,k1,k2,k3,aa,dS k5 (hs g k3 aa)⟩
end
section
open Go.RowKit
def Ki:(ak.info? 65).map (λi=>(i.zero,i.size,i.bytes))=so (so (.agg #[.string bF,.string bF,.bool false]),3,40):=ah
def zY(w:ae)(n:Nat)(hn:n<=100000):(Instr.makeSlice 46 (.int .i64 (n:Int)) (.int .i64 (n:Int))).run ak w=.ok (.slice (so ⟨w.heap.size,0,we⟩) n n) (w.alloc (.cells (madeCells #[.string bF,.string bF,.bool false] (n*3)) 65)):=by
 obtain⟨i,hi,hz⟩:=aH.1 Ki;simp only[bO]at hz;obtain⟨hz,hs,hb⟩:=hz;have:=run_make (P:=ak) w 46 65 i _ underlying46 hi hz .i64 .i64 n n aa (en _) (by rw[hb];omega) aa;rw[this,hs];simp[Value.cells]
def iO(out:Nat->ag)(res:Nat->V)(k j:Nat):Value :=
 if j<k*3 then(if j%3=0 then .string (out (j/3))else if j%3=1 then .string (res (j/3)).2 else .bool (!(res (j/3)).1))
 else(if j%3=0 then .string bF else if j%3=1 then .string bF else .bool false)
def Ws{w:ae}{B t n k:Nat}{out:Nat->ag}{res:Nat->V}(h:w.rowIs B t (n*3) (iO out res k)):
  (((w.setCell ⟨B,k*3,we⟩ (.string (out k))).setCell ⟨B,k*3+1,we⟩ (.string (res k).2)).setCell ⟨B,k*3+2,we⟩ (.bool (!(res k).1))).rowIs B t (n*3) (iO out res (k+1)):=by
 refine(((h.set (k*3) _).set (k*3+1) _).set (k*3+2) _).congr λj hj=>?_;by_cases e2:j=k*3+2
 ·subst e2;have h1:(k*3+2)%3=2:=aa;have h2:(k*3+2)/3=k:=aa;simp[iO,h1,h2,show k*3+2<(k+1)*3 by omega]
 ·by_cases e1:j=k*3+1
  ·subst e1;have h1:(k*3+1)%3=1:=aa;have h2:(k*3+1)/3=k:=aa;simp[iO,h1,h2,show k*3+1<(k+1)*3 by omega]
  ·by_cases e0:j=k*3
   ·subst e0;have h1:(k*3)%3=0:=aa;have h2:(k*3)/3=k:=aa;simp[iO,h1,h2,show k*3<(k+1)*3 by omega]
   ·rw[if_neg e2,if_neg e1,if_neg e0];by_cases e3:j<k*3
    ·simp only[iO,if_pos e3,if_pos (show j<(k+1)*3 by omega)]
    ·simp only[iO,if_neg e3,if_neg (show ¬j<(k+1)*3 by omega)]
structure ql(w:ae)(bn Lb Lo St Rb Nb n:Nat)(out:Nat->ag)(eT:Nat->Int)(ins:Nat->List (Bool×Nat))(cX:Nat->Nat)(res:Nat->V)(rO:Nat->Bool):Prop where
 b0:w.cell? ⟨bn,0,we⟩=so (.pointer (so ⟨Lb,Lo,we⟩))
 b2:w.cell? ⟨bn,2,we⟩=so (.slice (so ⟨Rb,0,we⟩) n n)
 b3:w.cell? ⟨bn,3,we⟩=so (.slice (so ⟨Nb,0,we⟩) n n)
 st:w.cell? ⟨Lb,Lo,we⟩=so (.slice (so ⟨St,0,we⟩) n n)
 steps:qj w St n out eT ins cX
 r2:∀s,s<n->w.cell? ⟨Rb,s*4+2,we⟩=so (.bool (res s).1)
 r3:∀s,s<n->w.cell? ⟨Rb,s*4+3,we⟩=so (.string (res s).2)
 rO:∀s,s<n->w.cell? ⟨Nb,s,we⟩=so (.bool (rO s))
 lbn:bn<w.heap.size
 lLb:Lb<w.heap.size
 lSt:St<w.heap.size
 lRb:Rb<w.heap.size
 lNb:Nb<w.heap.size
def Kj(bn Lb Lo St Rb Nb n:Nat)(out:Nat->ag)(eT:Nat->Int)(ins:Nat->List (Bool×Nat))(cX:Nat->Nat)(res:Nat->V)(rO:Nat->Bool)(w:ae)(hn:n<=1000)(h:ql w bn Lb Lo St Rb Nb n out eT ins cX res rO):
  Calls ak 75 #[.pointer (so ⟨bn,0,we⟩)] w λe w'=>e=.returned (.slice (so ⟨w.heap.size,0,we⟩) n n)/\Below w.heap.size w w'/\w.heap.size<w'.heap.size/\w'.rowIs w.heap.size 65 (n*3) (iO out res n):=by
 have lP:=λw=>zY w n aa;obtain⟨b0,b2,b3,st,fe,r2,r3,rr,l1,l2,l3,l4,l5⟩:=h;have cA:∀(w':ae),Below w.heap.size w w'->∀b off,b<w.heap.size->w'.cell? ⟨b,off,we⟩=w.cell? ⟨b,off,we⟩:=λw' hb b off hl=>(yO hb).1 _ _ hl;have a0:∀x,(w.alloc x).cell? ⟨bn,0,we⟩=so (.pointer (so ⟨Lb,Lo,we⟩)):=λx=>by rw[cA _ ((Below.refl _ _).alloc (af _) _) _ _ l1];exact b0
 have a1:∀x,(w.alloc x).cell? ⟨Lb,Lo,we⟩=so (.slice (so ⟨St,0,we⟩) n n):=λx=>by rw[cA _ ((Below.refl _ _).alloc (af _) _) _ _ l2];exact st
 go_enter func75,ntmps75;go_wp2;go_loopw [24] (λi w'=>∃k:Nat,k<=n/\i=.int .i64 k/\Below w.heap.size w w'/\w.heap.size<w'.heap.size/\w'.rowIs w.heap.size 65 (n*3) (iO out res k)) (λi _=>n-(intOf i).toNat)
 case atStart =>
  refine⟨0,aW _,rfl,(Below.refl _ _).alloc (af _) _,aj,_,dz _ _,by simp[size_madeCells],λj hj=>?_⟩;simp only[madeCells,aM,Array.getElem?_range,hj,if_true,aK,iO,Nat.zero_mul,Nat.not_lt_zero,if_false];have hm:j%3=0\/j%3=1\/j%3=2:=aa;rcases hm with e|e|e<;>simp[e]
 case round =>
  obtain⟨k,hk,rfl,im,hz,cd⟩:=hrel;by_cases cR:k<n
  ·have c0:=(cA _ im St (k*3) l3).trans (fe.out k cR);have c1:=(cA _ im St (k*3+1) l3).trans (fe.eT k cR);have c2:=(cA _ im St (k*3+2) l3).trans (fe.Be k cR);have c3:=(cA _ im bn 2 l1).trans b2;have c4:=(cA _ im Rb (k*4+2) l4).trans (r2 k cR);have c5:=(cA _ im Rb (k*4+3) l4).trans (r3 k cR);have d0:wr.cell? ⟨w.heap.size,k*3,we⟩=so (.string bF):=by rw[cd.cell aa];simp[iO]
   have d1:wr.cell? ⟨w.heap.size,k*3+1,we⟩=so (.string bF):=by
    have h1:(k*3+1)%3=1:=aa;rw[cd.cell aa];simp[iO,h1,show ¬k*3+1<k*3 by omega]
   have d2:wr.cell? ⟨w.heap.size,k*3+2,we⟩=so (.bool false):=by
    have h1:(k*3+2)%3=2:=aa;rw[cd.cell aa];simp[iO,h1,show ¬k*3+2<k*3 by omega]
   have f0:=cd.frozen;have g1:bn<wr.heap.size:=aa;have g4:Rb<wr.heap.size:=aa;have p3:∀x y,((wr.alloc x).alloc y).cell? ⟨bn,2,we⟩=so (.slice (so ⟨Rb,0,we⟩) n n):=λx y=>by rw[cA _ ((im.alloc aa _).alloc eW _) _ _ l1];exact b2
   have q3:∀x,(wr.alloc x).cell? ⟨bn,2,we⟩=so (.slice (so ⟨Rb,0,we⟩) n n):=λx=>by rw[cA _ (im.alloc aa _) _ _ l1];exact b2
   have q4:∀x,(wr.alloc x).cell? ⟨Rb,k*4+2,we⟩=so (.bool (res k).1):=λx=>by rw[cA _ (im.alloc aa _) _ _ l4];exact r2 k cR
   have q5:∀x,(wr.alloc x).cell? ⟨Rb,k*4+3,we⟩=so (.string (res k).2):=λx=>by rw[cA _ (im.alloc aa _) _ _ l4];exact r3 k cR
   clear fe r2 r3 rr cA a0 a1;go_wp2;refine⟨⟨k+1,aa,by go_num,((((im.setCell (af _) _).setCell (af _) _).setCell (af _) _).alloc (by simp[World.setCell];omega) _).alloc (by simp[World.setCell];omega) _,by simp[World.setCell];omega,?_⟩,by simp[intOf];omega⟩;exact((Ws cd).alloc _).alloc _
  ·go_wp2;go_ret;have:k=n:=aa;subst this;exact⟨rfl,im,hz,cd⟩
def vi(out:Nat->ag)(rO:Nat->Bool):Nat->List ag
 |0=>[]
 |k+1=>vi out rO k++(if rO k then[out k] else[])
def Kk(out:Nat->ag)(rO:Nat->Bool):∀k,(vi out rO k).length<=k
 |0=>by simp[vi]
 |k+1=>by
  have:=Kk out rO k;simp only[vi,List.length_append];split<;>simp<;>omega
def Kl(bn Lb Lo St Rb Nb n:Nat)(out:Nat->ag)(eT:Nat->Int)(ins:Nat->List (Bool×Nat))(cX:Nat->Nat)(res:Nat->V)(rO:Nat->Bool)(w:ae)(hn:n<=1000)(h:ql w bn Lb Lo St Rb Nb n out eT ins cX res rO):
  Calls ak 76 #[.pointer (so ⟨bn,0,we⟩)] w λe w'=>∃v,e=.returned v/\Below w.heap.size w w'/\w.heap.size<=w'.heap.size/\w'.ownsRow w.heap.size 9 1 v (vi out rO n).length ((vi out rO n).map .string):=by
 obtain⟨b0,b2,b3,st,fe,r2,r3,rr,l1,l2,l3,l4,l5⟩:=h;have cA:∀(w':ae),Below w.heap.size w w'->∀b off,b<w.heap.size->w'.cell? ⟨b,off,we⟩=w.cell? ⟨b,off,we⟩:=λw' hb b off hl=>(yO hb).1 _ _ hl;go_enter func76,ntmps76;clear cA;go_wp2;have cA:∀(w':ae),Below w.heap.size w w'->∀b off,b<w.heap.size->w'.cell? ⟨b,off,we⟩=w.cell? ⟨b,off,we⟩:=λw' hb b off hl=>(yO hb).1 _ _ hl;go_loopw [3,14] (λv i w'=>∃k:Nat,k<=n/\i=.int .i64 k/\Below w.heap.size w w'/\w.heap.size<=w'.heap.size/\w'.ownsRow w.heap.size 9 1 v (vi out rO k).length ((vi out rO k).map .string)) (λv i _=>n-(intOf i).toNat)
 case atStart=>exact⟨0,aW _,rfl,Below.refl _ _,af _,by simp[vi],.inl ⟨rfl,rfl⟩⟩
 case round =>
  obtain⟨k,hk,rfl,im,hz,cd⟩:=hrel;by_cases cR:k<n
  ·have c0:=(cA _ im St (k*3) l3).trans (fe.out k cR);have c1:=(cA _ im St (k*3+1) l3).trans (fe.eT k cR);have c2:=(cA _ im St (k*3+2) l3).trans (fe.Be k cR);have q3:∀x,(wr.alloc x).cell? ⟨bn,3,we⟩=so (.slice (so ⟨Nb,0,we⟩) n n):=λx=>by rw[cA _ (im.alloc aa _) _ _ l1];exact b3
   have q4:∀x,(wr.alloc x).cell? ⟨Nb,k,we⟩=so (.bool (rO k)):=λx=>by rw[cA _ (im.alloc aa _) _ _ l5];exact rr k cR
   have g1:bn<wr.heap.size:=aa;have g5:Nb<wr.heap.size:=aa;have hl:=Kk out rO k;have Wq:vi out rO (k+1)=vi out rO k++(if rO k then[out k] else[]):=rfl;generalize vi out rO k=raw at *;generalize iS:out k=x at *;generalize RH:rO k=rk at *;clear fe r2 r3 rr cA;have e0:=vM cd (.cells #[.string x,.int .i64 (eT k),.slice (so ⟨cX k,0,we⟩) (ins k).length (ins k).length] 220);cases rk
   ·go_wp2;refine⟨⟨k+1,aa,by go_num,im.alloc aa _,eW,?_⟩,by simp[intOf];omega⟩;rw[Wq];simpa using e0
   ·obtain⟨v',W',e1,e2,e3⟩:=vg ((wr.alloc (.cells #[.string x,.int .i64 (eT k),.slice (so ⟨cX k,0,we⟩) (ins k).length (ins k).length] 220)).alloc (.cells #[.string x] 9)) w.heap.size _ _ x (wr.heap.size+1) (vM e0 _) aa eW aj;have FG:=Below.grown ((im.alloc aa _).alloc eW _) e3 eW (MV cd);go_wp2_with (at_builtin;refine lQ rfl _ _ 40 rfl rfl rfl e1 ?_);exact⟨⟨k+1,aa,by go_num,FG,FG.size,by rw[Wq];exact e2⟩,by simp[intOf];omega⟩
  ·go_wp2;go_ret;have:k=n:=aa;subst this;exact⟨_,rfl,im,hz,cd⟩
end
def Qx:(ak.info? 220).map (λi=>(i.zero,i.size,i.bytes))=so (so (.agg #[.string bF,.int .i64 0,.slice we 0 0]),3,48):=ah
def Df(w:ae)(n:Nat)(hn:n<=100000):(Instr.makeSlice 143 (.int .i64 (n:Int)) (.int .i64 (n:Int))).run ak w=.ok (.slice (so ⟨w.heap.size,0,we⟩) n n) (w.alloc (.cells (madeCells #[.string bF,.int .i64 0,.slice we 0 0] (n*3)) 220)):=by
 obtain⟨i,hi,hz⟩:=aH.1 Qx;simp only[bO]at hz;obtain⟨hz,hs,hb⟩:=hz;have:=run_make (P:=ak) w 143 220 i _ underlying143 hi hz .i64 .i64 n n aa (en _) (by rw[hb];omega) aa;rw[this,hs];simp[Value.cells]
def gO(out:Nat->ag)(eT:Nat->Int)(ins:Nat->List (Bool×Nat))(cX:Nat->Nat)(k j:Nat):Value :=
 if j<k*3 then(if j%3=0 then .string (out (j/3))else if j%3=1 then .int .i64 (eT (j/3))else .slice (so ⟨cX (j/3),0,we⟩) (ins (j/3)).length (ins (j/3)).length)
 else(if j%3=0 then .string bF else if j%3=1 then .int .i64 0 else .slice we 0 0)
def Qy(w:ae)(n:Nat)(out:Nat->ag)(eT:Nat->Int)(ins:Nat->List (Bool×Nat))(cX:Nat->Nat)(St:Nat)(h:w.heap[St]?=so (.cells (madeCells #[.string bF,.int .i64 0,.slice we 0 0] (n*3)) 220)):w.rowIs St 220 (n*3) (gO out eT ins cX 0):=by
 refine⟨_,h,by simp[size_madeCells],λj hj=>?_⟩;simp only[madeCells,aM,Array.getElem?_range,hj,if_true,aK,gO,Nat.zero_mul,Nat.not_lt_zero,if_false];have hm:j%3=0\/j%3=1\/j%3=2:=aa;rcases hm with e|e|e<;>simp[e]
def TM{w:ae}{St n k:Nat}{out:Nat->ag}{eT:Nat->Int}{ins:Nat->List (Bool×Nat)}{cX:Nat->Nat}(h:w.rowIs St 220 (n*3) (gO out eT ins cX k)):
  (((w.setCell ⟨St,k*3,we⟩ (.string (out k))).setCell ⟨St,k*3+1,we⟩ (.int .i64 (eT k))).setCell ⟨St,k*3+2,we⟩ (.slice (so ⟨cX k,0,we⟩) (ins k).length (ins k).length)).rowIs St 220 (n*3) (gO out eT ins cX (k+1)):=by
 refine(((h.set (k*3) _).set (k*3+1) _).set (k*3+2) _).congr λj hj=>?_;by_cases e2:j=k*3+2
 ·subst e2;have h1:(k*3+2)%3=2:=aa;have h2:(k*3+2)/3=k:=aa;simp[gO,h1,h2,show k*3+2<(k+1)*3 by omega]
 ·by_cases e1:j=k*3+1
  ·subst e1;have h1:(k*3+1)%3=1:=aa;have h2:(k*3+1)/3=k:=aa;simp[gO,h1,h2,show k*3+1<(k+1)*3 by omega]
  ·by_cases e0:j=k*3
   ·subst e0;have h1:(k*3)%3=0:=aa;have h2:(k*3)/3=k:=aa;simp[gO,h1,h2,show k*3<(k+1)*3 by omega]
   ·rw[if_neg e2,if_neg e1,if_neg e0];by_cases e3:j<k*3
    ·simp only[gO,if_pos e3,if_pos (show j<(k+1)*3 by omega)]
    ·simp only[gO,if_neg e3,if_neg (show ¬j<(k+1)*3 by omega)]
def Qz{w:ae}{b t n:Nat}{l:List (Bool×Nat)}(hn:n=l.length)(h:w.rowIs b t (n*2) (lH l)):tT w b l:=λj hj=>by
 have h0:(j*2)%2=0:=aa;have h1:(j*2+1)%2=1:=aa;have d0:(j*2)/2=j:=aa;have d1:(j*2+1)/2=j:=aa;refine⟨?_,?_⟩
 ·rw[h.cell aa];simp only[lH,h0,d0];simp[hj]
 ·rw[h.cell aa];simp only[lH,h1,d1];simp[hj]
def QA{w:ae}{St n:Nat}{out:Nat->ag}{eT:Nat->Int}{ins:Nat->List (Bool×Nat)}{cX:Nat->Nat}(h:w.rowIs St 220 (n*3) (gO out eT ins cX n))(hi:∀s,s<n->tT w (cX s) (ins s))(hl:∀s,s<n->cX s<w.heap.size)(hs:∀s,s<n->(ins s).length<=100000):qj w St n out eT ins cX where
 out s hs:=by
  have h1:(s*3)%3=0:=aa;have h2:(s*3)/3=s:=aa;rw[h.cell aa];simp[gO,h1,h2,show s*3<n*3 by omega]
 eT s hs:=by
  have h1:(s*3+1)%3=1:=aa;have h2:(s*3+1)/3=s:=aa;rw[h.cell aa];simp[gO,h1,h2,show s*3+1<n*3 by omega]
 Be s hs:=by
  have h1:(s*3+2)%3=2:=aa;have h2:(s*3+2)/3=s:=aa;rw[h.cell aa];simp[gO,h1,h2,show s*3+2<n*3 by omega]
 CV:=hi
 lt:=hl
 short:=hs
end Go.Proofs.Kz
namespace Go.Ren
open _root_.Option renaming some → so,none → we
open Go.Conc Go.ConcN
section
variable {w w':ae}{b:Nat}{t:TypeId}{x y z u v x' y' z' u' v':Value}
def TN(h:w.heap[b]?=so (.cells #[x] t)):w.cell? ⟨b,0,we⟩=so x/\w.frozen? ⟨b,0,we⟩=false:=by simp[World.cell?,World.frozen?,h]
def lI(h:w.heap[b]?=so (.cells #[x,y] t)):w.cell? ⟨b,0,we⟩=so x/\w.cell? ⟨b,1,we⟩=so y/\w.frozen? ⟨b,0,we⟩=false/\w.frozen? ⟨b,1,we⟩=false:=by simp[World.cell?,World.frozen?,h]
def ki(h:w.heap[b]?=so (.cells #[x,y,z] t)):w.cell? ⟨b,0,we⟩=so x/\w.cell? ⟨b,1,we⟩=so y/\w.cell? ⟨b,2,we⟩=so z/\w.frozen? ⟨b,0,we⟩=false/\w.frozen? ⟨b,1,we⟩=false/\w.frozen? ⟨b,2,we⟩=false:=by simp[World.cell?,World.frozen?,h]
def EB(h:w.heap[b]?=so (.cells #[x,y] t)):((w.setCell ⟨b,0,we⟩ x').setCell ⟨b,1,we⟩ y').heap[b]?=so (.cells #[x',y'] t):=by simp[World.setCell,aR,h]
def adv(h:w.heap[b]?=so (.cells #[x,y,z] t)):(((w.setCell ⟨b,0,we⟩ x').setCell ⟨b,1,we⟩ y').setCell ⟨b,2,we⟩ z').heap[b]?=so (.cells #[x',y',z'] t):=by simp[World.setCell,aR,h]
def nZ(b:Nat)(w w':ae):Prop:=w'.heap.size=w.heap.size/\∀c,c≠b->w'.heap[c]?=w.heap[c]?
def nZ.refl:nZ b w w:=⟨rfl,λ_ _=>rfl⟩
def nZ.set{a:Addr}(h:nZ b w w')(ha:a.block=b):nZ b w (w'.setCell a v):=by
 refine⟨by simp[World.setCell,h.1],λc hc=>?_⟩;rw[<- h.2 c hc];obtain⟨ab,ao,az⟩:=a;simp only at ha;subst ha;simp[World.setCell,aR];exact λe=>absurd e.symm hc
def nZ.at(h:nZ b w w')(off:Nat)(v:Value):nZ b w (w'.setCell ⟨b,off,we⟩ v):=h.set rfl
def AI(w:ae)(b i:Nat)(x:Value):nZ b w (w.setCell ⟨b,i,we⟩ x):=nZ.refl.at i x
def OD(w:ae)(b i j:Nat)(x y:Value):nZ b w ((w.setCell ⟨b,i,we⟩ x).setCell ⟨b,j,we⟩ y):=(AI w b i x).at j y
def OE(w:ae)(b i j k:Nat)(x y z:Value):nZ b w (((w.setCell ⟨b,i,we⟩ x).setCell ⟨b,j,we⟩ y).setCell ⟨b,k,we⟩ z):=(OD w b i j x y).at k z
end
section
variable {P:Program}{L:Nat->Bool}{o:aL}{w w' wl bN:ae}{v:Value}
def mG.only(h:mG P L o w w' bN v)(ha:jk o w wl){A:Nat}(hA:o A)(hs:nZ A wl bN):nZ A w w'/\w'.heap[A]?=bN.heap[A]?/\grow o w w'=o:=by
 obtain⟨h1,h2,h3,h4⟩:=h.store ha hA hs.1 hs.2;exact⟨⟨h1,h2⟩,h3,h4⟩
end
end Go.Ren
namespace Go.Proofs.Kz
open Go.Proofs.Tryz
open Go.Proofs.Tryz renaming prog → ak
open _root_.ByteArray renaming empty → bF
open _root_.Option renaming some → so,none → we
open Go.Ren Go.Conc Go.Proofs Go.ConcN
section
variable {Fin:br}{o:aL}{w:ae}
def vK.view{rs:List aN}{v:Value}{o':aL}{w':ae}(S:vK o w rs v o' w')(hF:bJ ak L0 o w)(YR:∃b,o b):∃g p cap cB,v=.slice p cB.length cap/\(cB≠[]->p=so ⟨g,0,we⟩/\w.heap.size<=g)/\o' g/\fw w' g cB/\cB.Perm rs/\(∀i j (hi:i<cB.length) (hj:j<cB.length),i<j->¬rN cB[j] cB[i]<0)/\Cl ak L0 o' (.slice p cB.length cap):=by
 rcases S.row with⟨rfl,rfl⟩|⟨g,cap,cB,h1,h2,h3,h4,h5,h6,h7⟩
 ·obtain⟨b,hb⟩:=YR;exact⟨b,we,0,[],rfl,λh=>absurd rfl h,by rw[S.own];exact .inl hb,λi hi=>by simp at hi,List.Perm.refl _,λi j hi=>by simp at hi,nR⟩
 ·have hg:o' g:=by rw[S.own];exact .inr ⟨h3,h4⟩
  exact⟨g,_,cap,cB,by rw[h1,h5.length_eq],λ_=>⟨rfl,h3⟩,hg,h7,h5,h6,eK hg⟩
def wq(rs:List aN)(i:Nat):ag:=((rs[i]?).map (·.out)).getD bF
def zZ(rs:List aN)(i:Nat):Int:=((rs[i]?).map (·.eT)).getD 0
def Hj(NM:aN->List ag)(rs:List aN)(i:Nat):List ag:=((rs[i]?).map NM).getD []
def nbF(NB:aN->Nat)(rs:List aN)(i:Nat):Nat:=((rs[i]?).map NB).getD 0
def kj(NM:aN->List ag)(rs:List aN):List ag:=dR (mI (rs.map (·.out)) (Hj NM rs) rs.length)
def mZ(NM:aN->List ag)(rs:List aN)(i:Nat):List (Bool×Nat):=(Hj NM rs i).map (sd (rs.map (·.out)) (kj NM rs))
def yY(raw:List ag):(dR raw).length<=raw.length:=by
 unfold dR;rw[b6];refine aS (De _) ?_;simp[kS]
structure wS(lo:Nat)(NM:aN->List ag)(cB:List aN)(St Or:Nat)(cX:Nat->Nat)(sv v:Value)(w':ae):Prop where
 val:v=.agg #[.slice (so ⟨St,0,we⟩) cB.length cB.length,.slice (so ⟨Or,0,we⟩) (eL (mZ NM cB) cB.length cB.length).length cB.length,sv]
 steps:qj w' St cB.length (wq cB) (zZ cB) (mZ NM cB) cX
 ord:mf w' Or cB.length (eL (mZ NM cB) cB.length cB.length)
 src:mg lo (kj NM cB) sv w'
 st:lo<=St/\St<w'.heap.size
 or:lo<=Or/\Or<w'.heap.size
 ib:∀s,s<cB.length->lo<=cX s
def AJ{w w':ae}{b:Nat}{l:List (Bool×Nat)}(h:tT w b l)(e:w'.heap[b]?=w.heap[b]?):tT w' b l:=λj hj=>⟨(cell_of e).trans (h j hj).1,(cell_of e).trans (h j hj).2⟩
def EC{out:Nat->ag}{eT:Nat->Int}{ins:Nat->List (Bool×Nat)}{cX yZ:Nat->Nat}{k:Nat}(h:∀s,s<k->cX s=yZ s)(j:Nat):gO out eT ins cX k j=gO out eT ins yZ k j:=by
 unfold gO;by_cases hj:j<k*3
 ·rw[if_pos hj,if_pos hj,h (j/3) aa]
 ·rw[if_neg hj,if_neg hj]
def OF{o:aL}{w w1 w2:ae}(h:w1.heap.size=w2.heap.size):grow o w w1=grow o w w2:=by unfold grow;rw[h]
def mh{lo Wt:Nat}{ts:List ag}{v:Value}{w w':ae}(h:mg lo ts v w)(Jp:Wt<=lo)(hz:w.heap.size<=w'.heap.size)(e:∀b,lo<=b->b<w.heap.size->w'.heap[b]?=w.heap[b]?):mg Wt ts v w':=by
 rcases h with h|⟨g,cap,h1,h2,h3,h4,h5⟩
 ·exact .inl h
 ·exact .inr ⟨g,cap,h1,h2,aa,aa,dS h5 (e g h3 h4)⟩
structure ahz(o6:aL)(w6:ae)(R St ob n:Nat)(q:Option Addr)(cap:Nat)(sv:Value)(out:Nat->ag)(eT:Nat->Int)(ins:Nat->List (Bool×Nat))(k:Nat)(a:Act)(o':aL)(w':ae):Prop where
 size:a.tmps.size=46
 df:a.defers=[]
 t2:a.eval (.tmp 2)=.pointer (so ⟨R,0,we⟩)
 t4:a.eval (.tmp 4)=.slice (so ⟨ob,0,we⟩) n n
 t5:a.eval (.tmp 5)=sv
 t6:a.eval (.tmp 6)=.slice (so ⟨St,0,we⟩) n n
 t20:a.eval (.tmp 20)=.slice q n cap
 t21:a.eval (.tmp 21)=.int .i64 n
 t22:a.eval (.tmp 22)=.int .i64 k
 own:o'=grow o6 w6 w'
 bS:bJ ak L0 o' w'
 sx:w6.heap.size<=w'.heap.size
 old:∀b,b<w6.heap.size->b≠St->w'.heap[b]?=w6.heap[b]?
 row:∃cX:Nat->Nat,w'.rowIs St 220 (n*3) (gO out eT ins cX k)/\∀s,s<k->tT w' (cX s) (ins s)/\w6.heap.size<=cX s/\cX s<w'.heap.size
def Hk(hF:bJ ak L0 o w)(Ru c:Nat)(p:Option Addr)(rs:List aN)(hn:rs.length<=8)(hp:rs≠[]->p=so ⟨Ru,0,we⟩)(AH:o Ru)(HY:fw w Ru rs)(fG:∀r∈rs,Cl ak L0 o (.slice r.sa r.sl r.sc))(hc:Cl ak L0 o (.slice p rs.length c))(NM:aN->List ag)(NB:aN->Nat)(qW:∀r∈rs,r.sl=(NM r).length/\(NM r≠[]->r.sa=so ⟨NB r,0,we⟩/\o (NB r))/\gf w (NB r) 0 (NM r)/\(NM r).length<=4):
  bC ak (XB ak Fin 0) 112 #[.slice p rs.length c] o w λv o' w'=>iz o w v o' w'/\∃cB St Or cX sv,cB.Perm rs/\(∀i j (hi:i<cB.length) (hj:j<cB.length),i<j->¬rN cB[j] cB[i]<0)/\wS w.heap.size NM cB St Or cX sv v w':=by
 have W:=bZ (P:=ak) (Fin:=Fin) (d:=0);refine kF W func112 aG ?_;refine aD ?_;refine jL jN hF rfl aG aG Oz rfl (R:=λwl v bN=>v=.pointer (so ⟨wl.heap.size,0,we⟩)/\bN=wl.alloc (Obj.cells #[.slice we 0 0,.slice we 0 0,.slice we 0 0] 145)) (λwl bu=>⟨_,_,iY,rfl,rfl⟩) λwl v1 bN w1 bu hR fP=>?_;obtain⟨rfl,hR⟩:=hR;obtain⟨z1,k1,k2⟩:=fP.alloc hF bu hR;have lS:=fP.bS;rw[bu.size];clear hR fP bu wl bN;refine aD ?_;refine eH W rfl aG rfl func145 ah rfl ax rfl ((TL lS p rs.length c (hc.up qf)).mono λv2 o2 w2 hq=>?_);obtain⟨N2,rfl,z2,kb⟩:=hq;walk_nrm;have u2:∀b,o b->o2 b:=λb hb=>by rw[N2.own];exact .inl (.inl hb)
 have adw:∀b,b<w.heap.size->w2.heap[b]?=w.heap[b]?:=λb hb=>(N2.old b aa).trans (k1 b hb);have X0:o2 w1.heap.size:=by rw[N2.own];exact .inr ⟨af _,z2⟩
 refine eH W rfl aG rfl func144 ah rfl ax rfl ((Ha N2.bS w1.heap.size Ru c p rs hn X0 (by simp[World.cell?,kb]) hp (u2 _ AH) (gG HY (adw Ru (hF.lt AH))) (λr hr=>(fG r hr).up u2)).mono λv3 o3 w3 S=>?_);refine aD ?_;obtain⟨g,q,cap,cB,rfl,hq,U7,Tn,hpm,hso,hcq⟩:=S.view N2.bS ⟨_,X0⟩;have GY:cB.length<=8:=by rw[hpm.length_eq];exact hn
 refine eH W rfl aG rfl func147 ah rfl ax rfl ((TJ S.bS g cap q cB aa (λh=>⟨(hq h).1,U7⟩) Tn hcq).mono λv4 o4 w4 hq4=>?_);obtain⟨N4,rfl,z4,t4⟩:=hq4;refine aD ?_;have zz2:=N2.size;have zz3:=S.size;have zz4:=N4.size;have u4:∀b,o2 b->o4 b:=λb hb=>by rw[N4.own,S.own];exact .inl (.inl hb)
 have u34:∀b,o3 b->o4 b:=λb hb=>by rw[N4.own];exact .inl hb
 have Tv:∀b,b<w.heap.size->w4.heap[b]?=w.heap[b]?:=λb hb=>(N4.old b aa).trans ((S.old b aa).trans (adw b hb));have ho4:o4 w3.heap.size:=by rw[N4.own];exact .inr ⟨af _,z4⟩
 have pz:∀i (h:i<cB.length),cB[i]∈rs:=λi h=>hpm.subset (aA h);obtain⟨nm,TO⟩:∃nm,Hj NM cB=nm:=⟨_,rfl⟩;obtain⟨nb,ahC⟩:∃nb,nbF NB cB=nb:=⟨_,rfl⟩;have enm:∀i (h:i<cB.length),nm i=NM cB[i]:=λi h=>by simp[<- TO,Hj,h]
 have enb:∀i (h:i<cB.length),nb i=NB cB[i]:=λi h=>by simp[<- ahC,nbF,h]
 have U8:yX w4 g cB nm nb:=by
  refine⟨gG Tn (N4.old g (S.bS.lt U7)),λi h=>?_,λi h fu=>?_,λi h=>?_,λi h=>?_⟩
  ·rw[enm i h];exact(qW _ (pz i h)).1
  ·rw[enm i h]at fu;rw[enb i h];have:=(qW _ (pz i h)).2.1 fu;exact⟨this.1,by have:=hF.lt this.2;omega⟩
  ·rw[enm i h,enb i h];intro k hk;have h3:=(qW _ (pz i h)).2.1 (lU hk);exact dS (qW _ (pz i h)).2.2.1 (Tv _ (hF.lt h3.2)) k hk
  ·rw[enm i h];exact(qW _ (pz i h)).2.2.2
 have ua:∀i,i<cB.length->nm i≠[]->o4 (nb i):=λi h fu=>by
  rw[enm i h]at fu;rw[enb i h];exact u4 _ (u2 _ ((qW _ (pz i h)).2.1 fu).2)
 have ady:=Kh (Fin:=Fin) N4.bS g cap w3.heap.size cB.length q cB nm nb (cB.map (·.out)) aa eW (λh=>⟨(hq h).1,u34 _ U7⟩) ho4 U8 ua t4 (hcq.up u34);rw[b6]at ady;refine eH W rfl aG rfl func148 ah rfl ax rfl (ady.mono λv5 o5 w5 hq5=>?_);obtain⟨N5,t5⟩:=hq5;refine aD ?_;refine jL jN N5.bS rfl aG aG ?_ rfl (R:=λwl v bN=>v=.slice (so ⟨wl.heap.size,0,we⟩) cB.length cB.length/\bN=wl.alloc (.cells (madeCells #[.string bF,.int .i64 0,.slice we 0 0] (cB.length*3)) 220)) (λwl bu=>⟨_,_,by simp[go_sem,Df wl cB.length aa],rfl,rfl⟩) λwl v6 bN w6 bu hR fP=>?_
 ·exact S4 lG
 obtain⟨rfl,hR⟩:=hR;obtain⟨z6,k6,kb6⟩:=fP.alloc N5.bS bu hR;have BG:=fP.bS;rw[bu.size];clear hR fP bu wl bN;refine aD ?_;have am3:=BG;have ho6:grow o5 w5 w6 w5.heap.size:=.inr ⟨af _,aa⟩;obtain⟨out,Ya⟩:∃f,wq cB=f:=⟨_,rfl⟩;obtain⟨eT,Yb⟩:∃f,zZ cB=f:=⟨_,rfl⟩;obtain⟨ins,Km⟩:∃f,mZ NM cB=f:=⟨_,rfl⟩;rw[<- TO,show dR (mI (cB.map (·.out)) (Hj NM cB) cB.length)=kj NM cB from rfl]at t5;have adz:(kj NM cB).length<=100000:=by
  have h1:=yY (mI (cB.map (·.out)) (Hj NM cB) cB.length);have h2:=rn (cB.map (·.out)) nm cB.length U8.four cB.length (af _);rw[<- TO]at h2;have:(kj NM cB).length<=(mI (cB.map (·.out)) (Hj NM cB) cB.length).length:=h1;omega
 obtain⟨SR,Z3⟩:∃f,kj NM cB=f:=⟨_,rfl⟩;rw[Z3]at t5 adz;have hv5:∃sp sb sc,v5=.slice sp SR.length sc/\(SR≠[]->sp=so ⟨sb,0,we⟩/\o5 sb)/\gf w5 sb 0 SR:=by
  rcases t5 with⟨h1,h2⟩|⟨g2,c2,h1,h2,h3,h4,h5⟩
  ·exact⟨we,0,0,by rw[h1,h2];rfl,λh=>absurd h2 h,λi hi=>by rw[h2]at hi;simp at hi⟩
  ·exact⟨_,g2,c2,h1,λ_=>⟨rfl,by rw[N5.own];exact .inr ⟨h3,h4⟩⟩,h5⟩
 obtain⟨sp,sb,sc,rfl,xU,adA⟩:=hv5;refine dQ W (λm a o' w'=>∃k,m+k=cB.length/\ahz (grow o5 w5 w6) w6 w.heap.size w5.heap.size w3.heap.size cB.length q cap (.slice sp SR.length sc) out eT ins k a o' w') (N:=cB.length) ⟨0,aj,?_⟩ ?_
 ·refine⟨rfl,rfl,ax,ax,ax,ax,ax,ax,ax,(cp _ _).symm,BG,af _,λ_ _ _=>rfl,λ_=>0,Qy _ _ _ _ _ _ _ kb6,λs hs=>aa⟩
 have hgw:g<w5.heap.size:=by have:=S.bS.lt U7;have:=N5.size;omega
 have u5:∀b,o4 b->o5 b:=λb hb=>by rw[N5.own];exact .inl hb
 have zz5:=N5.size;rintro m a o1 w7 ⟨k,lP,ew,iu,i2,i4,i5,i6,i20,i21,i22,rfl,Kn,Yc,adB,cX,adC,MZ⟩;obtain⟨gs,rfl⟩:=eQ ew iu;clear ew iu;simp only[List.range,List.range.loop,aB,aJ]at i2 i4 i5 i6 i20 i21 i22 |-;simp[Act.eval]at i2 i4 i5 i6 i20 i21 i22;simp only[i2,i4,i5,i6,i20,i21,i22];clear i2 i4 i5 i6 i20 i21 i22;have u7:∀b,o5 b->grow (grow o5 w5 w6) w6 w7 b:=λb hb=>.inl (.inl hb);have TP:∀b,b<w5.heap.size->w7.heap[b]?=w5.heap[b]?:=λb hb=>(adB b aa aa).trans (k6 b hb);have hr7:fw w7 g cB:=gG U8.at_ ((TP g hgw).trans (N5.old g (by have:=S.bS.lt U7;omega)));have Wu:grow (grow o5 w5 w6) w6 w7 g:=u7 _ (u5 _ (u34 _ U7));generalize ZH:grow (grow o5 w5 w6) w6 w7=o7 at *;rcases bh m with hm|hm
 ·have hk:k=cB.length:=aa;subst hk;have adD:o7 w5.heap.size:=by rw[<- ZH];exact .inl ho6
  have hio:∀s,s<cB.length->o7 (cX s):=λs hs=>by rw[<- ZH];exact .inr ⟨(MZ s hs).2.1,(MZ s hs).2.2⟩
  have adE:qj w7 w5.heap.size cB.length out eT ins cX:=QA adC (λs hs=>(MZ s hs).1) (λs hs=>(MZ s hs).2.2) (λs hs=>by
   have h4:=U8.four s hs;rw[<- Km];simp only[mZ,List.length_map,TO];omega)
  have tV:grow o w w1 w.heap.size:=.inr ⟨af _,aa⟩;have FI:o2 w.heap.size:=by rw[N2.own];exact .inl tV
  have U9:o7 w.heap.size:=u7 _ (u5 _ (u4 _ FI));have kR7:w7.heap[w.heap.size]?=so (Obj.cells #[.slice we 0 0,.slice we 0 0,.slice we 0 0] 145):=by
   rw[TP _ aa,N5.old _ aa,N4.old _ aa,S.old _ aa,N2.old _ aa];exact k2
  refine aD ?_;refine eH W rfl aG rfl func150 ah rfl ax rfl ((Qw Kn w5.heap.size cB.length cB.length out eT ins cX aa adD adE hio).mono λv8 o8 w8 hq8=>?_);obtain⟨N8,rfl,z8,TC⟩:=hq8;refine aD ?_;have u8:∀b,o7 b->o8 b:=λb hb=>by rw[N8.own];exact .inl hb
  have hOr:o8 w7.heap.size:=by rw[N8.own];exact .inr ⟨af _,z8⟩
  have kR8:=(N8.old w.heap.size (Kn.lt U9)).trans kR7;generalize RI:(eL ins cB.length cB.length).length=ol;have Wd:Cl ak L0 o8 (.agg #[.slice (so ⟨w5.heap.size,0,we⟩) cB.length cB.length,.slice (so ⟨w7.heap.size,0,we⟩) ol cB.length,.slice sp SR.length sc]):=sB (vs:=[_,_,_]) (λx hx=>by
   simp at hx;rcases hx with rfl|rfl|rfl
   ·exact eK (u8 _ adD)
   ·exact eK hOr
   ·exact N5.cl.up λb hb=>u8 _ (u7 _ hb))
  refine vF jN N8.bS rfl aG aG ?_ rfl (R:=λwl bN=>bN=((wl.setCell ⟨w.heap.size,0,we⟩ (.slice (so ⟨w5.heap.size,0,we⟩) cB.length cB.length)).setCell ⟨w.heap.size,1,we⟩ (.slice (so ⟨w7.heap.size,0,we⟩) ol cB.length)).setCell ⟨w.heap.size,2,we⟩ (.slice sp SR.length sc)) (λwl bu=>⟨_,?_,rfl⟩) λwl bN w9 bu hR fP=>?_
  ·refine XX ?_ ?_
   ·exact gE (u8 _ U9)
   ·exact Wd
  ·obtain⟨e0,e1,e2,f0,f1,f2⟩:=ki ((bu.heap _ (u8 _ U9)).trans kR8);simp[go_sem,e0,e1,e2,f0,f1,f2]
  have hO:nZ w.heap.size wl bN:=by rw[hR];exact OE _ _ _ _ _ _ _ _
  obtain⟨Wv,Z4,e9⟩:=fP.only bu (u8 _ U9) hO;rw[hR,adv ((bu.heap _ (u8 _ U9)).trans kR8)]at Z4;have FJ:=fP.bS;rw[e9]at FJ |-;clear hR fP bu hO wl bN kR8 e9;refine aD ?_;have c9:∀n,(w9.at n).cell? ⟨w.heap.size,0,we⟩=so (.slice (so ⟨w5.heap.size,0,we⟩) cB.length cB.length)/\(w9.at n).cell? ⟨w.heap.size,1,we⟩=so (.slice (so ⟨w7.heap.size,0,we⟩) ol cB.length)/\(w9.at n).cell? ⟨w.heap.size,2,we⟩=so (.slice sp SR.length sc):=λn=>⟨(ki Z4).1,(ki Z4).2.1,(ki Z4).2.2.1⟩;have zz8:=N8.size;have z9:=Wv.1;refine⟨.inr trivial,trivial,.agg #[.slice (so ⟨w5.heap.size,0,we⟩) cB.length cB.length,.slice (so ⟨w7.heap.size,0,we⟩) ol cB.length,.slice sp SR.length sc],acU (λn=>?_) (λn e he=>?_),⟨?_,FJ,aa,λb hb=>?_,Wd⟩,cB,w5.heap.size,w7.heap.size,cX,.slice sp SR.length sc,hpm,hso,?_⟩
  ·obtain⟨c0,c1,c2⟩:=c9 n;simp[results,results112,go_sem,c0,c1,c2]
  ·obtain⟨c0,c1,c2⟩:=c9 n;simp[results,results112,go_sem,c0,c1,c2]at he;rcases he with rfl|rfl|rfl;all_goals exact⟨_,_,_,rfl,u8 _ U9⟩
  ·rw[N8.own,<- ZH,grow_grow Yc rfl zz8,grow_grow (w:=w5) aa rfl aa,N5.own,grow_grow zz5 rfl aa,N4.own,grow_grow zz4 rfl aa,S.own,grow_grow zz3 rfl aa,N2.own,grow_grow zz2 rfl aa,grow_grow (w:=w) aa rfl aa];exact OF z9.symm
  ·rw[Wv.2 b aa,N8.old b aa,TP b aa,N5.old b aa];exact Tv b hb
  ·have Z5:∀b,b<w7.heap.size->b≠w.heap.size->w9.heap[b]?=w7.heap[b]?:=λb hb fu=>(Wv.2 b fu).trans (N8.old b hb);refine⟨by rw[Km,RI],?_,?_,?_,⟨aa,aa⟩,⟨aa,aa⟩,λs hs=>by have:=(MZ s hs).2.1;omega⟩
   ·rw[Ya,Yb,Km];exact kg adE (Z5 _ aa aa) (λs hs=>by obtain⟨-,h1,h2⟩:=MZ s hs;exact Z5 _ h2 aa) aa
   ·rw[Km];exact World.rowIs.of_block TC (Wv.2 _ aa)
   ·rw[Z3];exact mh t5 aa aa λb h1 h2=>(Z5 b aa aa).trans (TP b h2)
 ·have hk:k<cB.length:=aa;have rq:(k:Int)<(cB.length:Int):=aa;obtain⟨rfl,Qp⟩:=hq (lU hk);refine aD ?_;obtain⟨c0,c1,c2⟩:=hr7 k hk;generalize vu:cB[k].out=ro at c0;generalize R8:cB[k].eT=rr at c1;generalize Wn:cB[k].sa=ra at c2;generalize hrl:cB[k].sl=rl at c2;generalize PC:cB[k].sc=rc at c2;refine xE jN Kn rfl aG aG ?_ rfl (v:=.agg #[.string ro,.int .i64 rr,.slice ra rl rc]) (λwl bu=>?_) λWi=>?_
  ·exact S4 (gE Wu)
  ·simp[go_sem,(bu.cell Wu).trans c0,(bu.cell Wu).trans c1,(bu.cell Wu).trans c2]
  refine aD ?_;refine jL jN Kn rfl aG aG Oz rfl (R:=λwl v bN=>v=.pointer (so ⟨wl.heap.size,0,we⟩)/\bN=wl.alloc (Obj.cells #[.string bF,.int .i64 0,.slice we 0 0] 42)) (λwl bu=>⟨_,_,by simp[go_sem];rfl,rfl,rfl⟩) λwl v8 bN w8 bu hR fP=>?_;obtain⟨rfl,hR⟩:=hR;obtain⟨z8,k8,kb8⟩:=fP.alloc Kn bu hR;have hF8:=fP.bS;rw[bu.size];clear hR fP bu wl bN;refine aD ?_;have Ww:grow o7 w7 w8 w7.heap.size:=.inr ⟨af _,aa⟩;refine vF jN hF8 rfl aG aG ?_ rfl (R:=λwl bN=>bN=((wl.setCell ⟨w7.heap.size,0,we⟩ (.string ro)).setCell ⟨w7.heap.size,1,we⟩ (.int .i64 rr)).setCell ⟨w7.heap.size,2,we⟩ (.slice ra rl rc)) (λwl bu=>⟨_,?_,rfl⟩) λwl bN w9 bu hR fP=>?_
  ·refine XX ?_ ?_
   ·exact gE Ww
   ·exact Wi.up qf
  ·obtain⟨e0,e1,e2,f0,f1,f2⟩:=ki ((bu.heap _ Ww).trans kb8);simp[go_sem,e0,e1,e2,f0,f1,f2]
  have hO:nZ w7.heap.size wl bN:=by rw[hR];exact OE _ _ _ _ _ _ _ _
  obtain⟨Wv,Z4,e9⟩:=fP.only bu Ww hO;rw[hR,adv ((bu.heap _ Ww).trans kb8)]at Z4;have FJ:=fP.bS;rw[e9]at FJ |-;clear hR fP bu hO wl bN kb8 e9;have Wx:∀b,b<w7.heap.size->w9.heap[b]?=w7.heap[b]?:=λb hb=>(Wv.2 b aa).trans (k8 b hb);have z9:w9.heap.size=w7.heap.size+1:=by rw[Wv.1,z8]
  have e89:grow o7 w7 w8=grow o7 w7 w9:=by unfold grow;rw[Wv.1]
  rw[e89]at FJ Ww |-;clear Wv k8 z8 hF8 e89;clear w8;walk_nrm;refine yx W ?_;simp only[nu,gL,if_true,if_false,reduceIte,Nat.reduceEqDiff];have pW:ins k=(nm k).map (sd (cB.map (·.out)) SR):=by rw[<- Km,<- TO,<- Z3];rfl
  have dO:out k=ro:=by rw[<- Ya,<- vu];simp[wq,hk]
  have ahG:eT k=rr:=by rw[<- Yb,<- R8];simp[zZ,hk]
  have Z6:(nm k).length=rl:=by rw[<- hrl];exact(U8.len k hk).symm
  have TQ:∀b,b<w5.heap.size->w9.heap[b]?=w5.heap[b]?:=λb hb=>(Wx b aa).trans (TP b hb);have u9:∀b,o5 b->grow o7 w7 w9 b:=λb hb=>.inl (u7 b hb);obtain⟨a0,a1,a2,-⟩:=ki Z4;have adF:Cl ak L0 (grow o7 w7 w9) (.slice ra rl rc):=by rw[<- Wn,<- hrl,<- PC];exact(fG _ (pz k hk)).up (λb hb=>u9 b (u5 b (u4 b (u2 b hb))))
  have ahH:nm k≠[]->ra=so ⟨nb k,0,we⟩:=λh=>by rw[<- Wn];exact(U8.ptr k hk h).1
  clear vu R8 Wn hrl PC c0 c1 c2;obtain⟨o9,ho9⟩:∃x,x=grow o7 w7 w9:=⟨_,rfl⟩;rw[<- ho9]at FJ Ww u9 adF |-;have hAw:w7.heap.size<w9.heap.size:=aa;refine iy mixed ah [so we,so we,so we,so (so (.string ro)),so we,so (so (.int .i64 rr)),so we,so (so (.slice ra rl rc)),so we,so we,we,so we,so we,we]
   (S:=λσ o' w'=>(σ 13=we/\(o'=grow o9 w9 w'/\bJ ak L0 o' w'/\w9.heap.size<=w'.heap.size/\(∀b,b<w9.heap.size->w'.heap[b]?=w9.heap[b]?))/\(σ 10=we->o'=o9/\w'=w9)/\(∀y,σ 10=so y->y=.slice (so ⟨w9.heap.size,0,we⟩) rl rl/\w9.heap.size<w'.heap.size/\w'.rowIs w9.heap.size 280 (rl*2) (lH (ins k)))) \/
    (σ 13≠we/\o'=grow (grow o5 w5 w6) w6 w'/\bJ ak L0 o' w'/\w6.heap.size<=w'.heap.size/\(∀b,b<w6.heap.size->b≠w5.heap.size->w'.heap[b]?=w6.heap[b]?)/\∃cX:Nat->Nat,w'.rowIs w5.heap.size 220 (cB.length*3) (gO out eT ins cX (k+1))/\∀s,s<k+1->tT w' (cX s) (ins s)/\w6.heap.size<=cX s/\cX s<w'.heap.size)) ?_ λv=>?_
  ·exact .inl ⟨rfl,⟨(cp _ _).symm,FJ,af _,λ_ _=>rfl⟩,λ_=>⟨rfl,rfl⟩,λy hy=>by cases hy⟩
  refine fF ?_;refine fU ?_;refine ZX (λσ o' w' H hS=>?_) ?_
  ·rcases hS with⟨Hl,⟨e1,e2,e3,e4⟩,-,-⟩|⟨Hl,-⟩
   ·have Yd:o' w7.heap.size:=by rw[e1];exact .inl Ww
    refine⟨e2,λy hy=>?_,λwl bu=>?_⟩
    ·simp[Op.operands]at hy;subst hy;simp[Act.eval];exact gE Yd
    ·simp[go_sem,(bu.cell Yd).trans ((cell_of (e4 _ hAw)).trans a0)]
   ·exact absurd (H.GN 13 ah) Hl
  refine fU ?_;refine ZX (λσ o' w' H hS=>?_) ?_
  ·rcases hS with⟨Hl,⟨e1,e2,e3,e4⟩,-,-⟩|⟨Hl,-⟩
   ·have Yd:o' w7.heap.size:=by rw[e1];exact .inl Ww
    refine⟨e2,λy hy=>?_,λwl bu=>?_⟩
    ·simp[Op.operands]at hy;subst hy;simp[Act.eval];exact gE Yd
    ·simp[go_sem,(bu.cell Yd).trans ((cell_of (e4 _ hAw)).trans a1)]
   ·exact absurd (H.GN 13 ah) Hl
  refine fU ?_;refine ZX (λσ o' w' H hS=>?_) ?_
  ·rcases hS with⟨Hl,⟨e1,e2,e3,e4⟩,-,-⟩|⟨Hl,-⟩
   ·have Yd:o' w7.heap.size:=by rw[e1];exact .inl Ww
    refine⟨e2,λy hy=>?_,λwl bu=>?_⟩
    ·simp[Op.operands]at hy;subst hy;simp[Act.eval];exact gE Yd
    ·simp[go_sem,(bu.cell Yd).trans ((cell_of (e4 _ hAw)).trans a2)]
   ·exact absurd (H.GN 13 ah) Hl
  refine fU ?_;refine BB rfl rfl aG rfl func149 ah rfl (av:=#[.slice ra rl rc,.slice (so ⟨w3.heap.size,0,we⟩) cB.length cB.length,.slice sp SR.length sc]) ax (λσ o' w' H vx hS=>?_) ?_
  ·rcases hS with⟨Hl,-,h5,-⟩|⟨Hl,-⟩
   ·obtain⟨rfl,rfl⟩:=h5 vx;have adG:nm k≠[]->nb k<w4.heap.size:=λh=>(U8.ptr k hk h).2;have hL:=TK (Fin:=Fin) FJ (nb k) rc w3.heap.size cB.length sb sc ra sp (nm k) (cB.map (·.out)) SR (by have:=U8.four k hk;omega) eW adz (λh=>⟨ahH h,u9 _ (u5 _ (ua k hk h))⟩) (λh=>⟨(xU h).1,u9 _ (xU h).2⟩) (u9 _ (u5 _ ho4)) (λi hi=>?_) (dS t4 ((TQ _ aa).trans (N5.old _ aa))) (λi hi=>?_) (Z6.symm▸adF) ?_
    ·rw[b6,Z6,<- pW]at hL;refine hL.mono ?_;rintro y o2 w2 ⟨N,rfl,h1,h2⟩;refine .inl ⟨by simpa[lg] using Hl,⟨N.own,N.bS,N.size,N.old⟩,λh=>by simp[lg]at h,λy hy=>?_⟩;simp only[lg,if_true,ay]at hy;subst hy;exact⟨rfl,h1,h2⟩
    ·have fu:nm k≠[]:=λe=>by rw[e]at hi;simp at hi
     have:=adG fu;exact dS (U8.txt k hk) ((TQ _ aa).trans (N5.old _ (adG fu))) i hi
    ·have fu:SR≠[]:=λe=>by rw[e]at hi;simp at hi
     have:=N5.bS.lt (xU fu).2;exact dS adA (TQ _ this) i hi
    ·exact N5.cl.up u9
   ·exact absurd (H.GN 13 ah) Hl
  walk_nrm;refine Jv (v 10=.slice (so ⟨w9.heap.size,0,we⟩) rl rl) (.agg #[.string ro,.int .i64 rr,.slice (so ⟨w9.heap.size,0,we⟩) rl rl]) rfl rfl rfl aG (λσ o' w' H hS=>?_) (λhv w1=>?_) (λhv w1=>?_) λy38 ahK=>?_
  ·rcases hS with⟨-,-,-,h6⟩|⟨Hl,-⟩
   ·exact(h6 _ (H.done 10 ah rfl)).1
   ·exact absurd (H.GN 13 ah) Hl
  ·simp[go_sem,Act.eval,hv]
  ·simp[go_sem,Act.eval,hv]
  refine fU ?_;have hlen:(ins k).length=rl:=by rw[pW,b6,Z6]
  have ahL:w5.heap.size<w7.heap.size:=aa;have ahM:o9 w5.heap.size:=by rw[ho9,<- ZH];exact .inl (.inl ho6)
  refine GP jN rfl rfl rfl aG aG (λσ o' w' H Hl hS=>?_) ?_
  ·rcases hS with⟨-,⟨e1,e2,e3,e4⟩,-,h6⟩|⟨ahN,-⟩
   ·obtain⟨hy,hz,cd⟩:=h6 _ (H.done 10 ah rfl);have Wy:o' w5.heap.size:=by rw[e1];exact .inl ahM
    have hn':o' w9.heap.size:=by rw[e1];exact .inr ⟨af _,hz⟩
    have adH:=ahK hy;subst adH;obtain⟨yZ,Ye⟩:∃f:Nat->Nat,f=λs=>if s=k then w9.heap.size else cX s:=⟨_,rfl⟩
    have hib:yZ k=w9.heap.size:=by rw[Ye];simp
    have adI:∀s,s<k->cX s=yZ s:=λs hs=>by rw[Ye];simp[show ¬s=k by omega]
    have adJ:w'.rowIs w5.heap.size 220 (cB.length*3) (gO out eT ins yZ k):=(World.rowIs.of_block adC ((e4 _ aa).trans (Wx _ ahL))).congr λj _=>EC adI j;refine⟨e2,λy Wz=>?_,λwl bN=>bN=((wl.setCell ⟨w5.heap.size,k*3,we⟩ (.string ro)).setCell ⟨w5.heap.size,k*3+1,we⟩ (.int .i64 rr)).setCell ⟨w5.heap.size,k*3+2,we⟩ (.slice (so ⟨w9.heap.size,0,we⟩) rl rl),λwl bu=>⟨_,?_,rfl⟩,λwl bN w2 bu hR fP=>?_⟩
    ·simp[Op.operands]at Wz;rcases Wz with rfl|rfl
     ·simp[Act.eval];exact gE Wy
     ·simp[Act.eval];exact sB (vs:=[_,_,_]) (λx hx=>by
       simp at hx;rcases hx with rfl|rfl|rfl
       ·exact dH
       ·exact lG
       ·exact eK hn')
    ·have Z7:=World.rowIs.of_block adJ (bu.heap _ Wy);have q0:=Z7.cell (i:=k*3) aa;have q1:=Z7.cell (i:=k*3+1) aa;have q2:=Z7.cell (i:=k*3+2) aa;have f:=Z7.frozen;simp[go_sem,q0,q1,q2,f]
    ·have hO:nZ w5.heap.size wl bN:=by rw[hR];exact OE _ _ _ _ _ _ _ _
     obtain⟨on,kbS,eg⟩:=fP.only bu Wy hO;have rK:=fP.bS;have adK:=TM (World.rowIs.of_block adJ (bu.heap _ Wy));rw[dO,ahG,hib,hlen,<- hR]at adK;have Ko:=World.rowIs.of_block adK kbS;refine .inr ⟨by simp[lg],?_,rK,by have:=on.1;omega,λb hb fu=>?_,yZ,Ko,λs hs=>?_⟩
     ·rw[eg,e1,ho9,<- ZH,grow_grow (w:=w7) (w1:=w9) aa rfl e3,grow_grow Yc rfl aa];exact OF on.1.symm
     ·rw[on.2 b fu,e4 b aa,Wx b aa];exact adB b hb fu
     ·by_cases hsk:s=k
      ·subst hsk;rw[hib];exact⟨AJ (Qz hlen.symm cd) (on.2 _ aa),aa,by rw[on.1];exact hz⟩
      ·obtain⟨p1,p2,p3⟩:=MZ s aa;rw[<- adI s aa];exact⟨AJ p1 (by rw[on.2 _ aa,e4 _ aa,Wx _ p3]),p2,by rw[on.1];omega⟩
   ·exact absurd Hl ahN
  walk_nrm;refine fj λσ o' w' wu hS=>?_;rcases hS with⟨Hl,-⟩|⟨-,e1,e2,e3,e4,yZ,e5,e6⟩
  ·rw[wu 13 iG rfl]at Hl;cases Hl
  clear xU adA qW fG;simp only[nu,gL,if_true,if_false,reduceIte,Nat.reduceEqDiff];refine aD ?_;have Ry:IntKind.i64.wrap ((k:Int)+1)=((k+1:Nat):Int):=by rw[IntKind.wrap_i64]<;>omega
  refine⟨m-1,aa,k+1,aa,rfl,rfl,rfl,rfl,rfl,rfl,rfl,rfl,by simp[Act.eval,Ry],e1,e2,e3,e4,yZ,e5,e6⟩
end
end Go.Proofs.Kz
namespace Go.Ren
open _root_.Option renaming some → so,none → we
open Go.Conc Go.ConcN
section
variable {P:Program}{Fin:br}{d:Nat}{o:aL}{w:ae}{fn:FuncId}{Q:Exit->Act->aL->ae->Prop}{a:Act}{ops:Array Oper}{i:Nat}{rest:List Nat}{op:Oper}
def AK{f:FuncId}{fc:Func}{args:Array Operand}{tf:Array TypeId}{e:Array Value->Sem Value}(ho:ops[i]?=so op)(hw:Region.wanted op (yielded ops a.tmps)=true)(fD:op.op=.call {callee:=.value (.func f),args,argTypes:=tf})(hf:P.funcs[f]?=so fc)(iB:(fc.name == "runtime.NumGoroutine")=false)(hb:fc.body.isNone=true)(hn:Extern.findNext fc=we)(he:Extern.find fc=so e){vs:Array Value}(Mf:args.map a.eval=vs){v:Value}{t:ae->ae}{evs:Array Event}{dd:Option Tmp}(hd:op.dst=dd)(mW:∀n,t (w.at n)=(t w).at n)(ew:(t w).heap.size=w.heap.size)(cG:∀n,(e vs).run P (w.at n)=.ok v (t (w.at n)))(jg:∀n,(e vs).events P (w.at n) #[⟨.mark (.extern f),false,true⟩]=#[⟨.mark (.extern f),false,true⟩]++evs)(hs:∀x∈evs,x.sync=true/\(∀g,x.loc≠.mark (.extern g))/\x.loc≠.mark .disable/\x.loc≠.mark .enable)(h:dK (XB P Fin d) fn ops rest Q (a.put dd v) o (t w))(Sl:(t w).os=w.os/\(t w).output=w.output:=by exact⟨rfl,rfl⟩):dK (XB P Fin d) fn ops (i::rest) Q a o w:=λb k cs nD hk hc =>
 zL ho hw hk fD hf iB hb hn he hd mW ew (λn=>by rw[Mf];exact cG n) (λn=>by rw[Mf];exact jg n) hs (h b k cs nD hk hc) Sl
def M0(ho:ops[i]?=so op)(hw:Region.wanted op (yielded ops a.tmps)=true){v:Value}{dd:Option Tmp}(hd:op.dst=dd)(hr:∀n,(execOp a.eval op).run P (w.at n)=.ok (.value v) (w.at n))(jg:∀n,∀x∈(execOp a.eval op).events P (w.at n) #[],EvF Fin o x/\x.loc≠.mark .disable/\x.loc≠.mark .enable)(h:dK (XB P Fin d) fn ops rest Q (a.put dd v) o w):dK (XB P Fin d) fn ops (i::rest) Q a o w:=λb k cs nD hk hc=>Jo ho hw hk hd hr jg (h b k cs nD hk hc)
end
section
variable {P:Program}{L:Nat->Bool}{Fin:br}{d:Nat}{fn:FuncId}{Q:Exit->Act->aL->ae->Prop}{a:Act}{ops:Array Oper}{S:(Nat->Option Value)->aL->ae->Prop}{kds:List Kd}{v:Nat->Value}{K:Act->Prop}{j:Nat}{l:List Nat}{xs:List Kd}{op:Oper}{dd:Option Tmp}
def TR{f:FuncId}{fc:Func}{args:Array Operand}{tf:Array TypeId}{e:Array Value->Sem Value}(ho:ops[j]?=so op)(hd:op.dst=dd)(hw:Region.wanted op (yielded ops a.tmps)=true)(fD:op.op=.call {callee:=.value (.func f),args,argTypes:=tf})(hf:P.funcs[f]?=so fc)(iB:(fc.name == "runtime.NumGoroutine")=false)(hb:fc.body.isNone=true)(hn:Extern.findNext fc=we)(he:Extern.find fc=so e){av:Array Value}(has:args.map a.eval=av)(cG:∀σ o w,yL ops kds v j σ->σ j=we->S σ o w->∃(y:Value) (t:ae->ae) (evs:Array Event),(∀n,t (w.at n)=(t w).at n)/\((t w).heap.size=w.heap.size/\(t w).os=w.os/\(t w).output=w.output)/\(∀n,(e av).run P (w.at n)=.ok y (t (w.at n)))/\(∀n,(e av).events P (w.at n) #[⟨.mark (.extern f),false,true⟩]=#[⟨.mark (.extern f),false,true⟩]++evs)/\(∀x∈evs,x.sync=true/\(∀g,x.loc≠.mark (.extern g))/\x.loc≠.mark .disable/\x.loc≠.mark .enable)/\S (lg σ j y) o (t w))(h:cS P (vG P (XB P Fin d) fn ops Q S kds v) ops K v l xs (a.put dd (v j))):cS P (vG P (XB P Fin d) fn ops Q S kds v) ops K v (j::l) (none::xs) a:=by
 refine fE ho hd (λA rest σ o w h1 h2 h3 h4 hS hc=>?_) rfl h;obtain⟨y,t,evs,k1,k2,k3,k4,k5,k6⟩:=cG σ o w h3 (h4 rfl) hS;exact AK ho (h2.trans hw) fD hf iB hb hn he ((qe fD h1).trans has) rfl k1 k2.1 k3 k4 k5 (hc y o (t w) k6) k2.2
end
section
variable {P:Program}{w:ae}{ad:Addr}
def ED{k:IntKind}{x:Int}(hc:w.cell? ad=so (.int k x)):(Extern.Atomic.loadT (.int k) #[.pointer (so ad)]).run P w=.ok (.int k x) w:=by
 change Sem.run P (do Extern.Atomic.read (.int k) (<- asAddr (.pointer (so ad)))) w=_;simp[Extern.Atomic.read,asAddr,hc]
def z7{k:IntKind}{x:Int}(hc:w.cell? ad=so (.int k x))(es:Array Event):(Extern.Atomic.loadT (.int k) #[.pointer (so ad)]).events P w es=es.push ⟨.cell ad,false,true⟩:=by
 change Sem.events P (do Extern.Atomic.read (.int k) (<- asAddr (.pointer (so ad)))) w _=_;simp[Extern.Atomic.read,asAddr,hc,events_load]
def M1{v u:Value}(hc:w.cell? ad=so u)(hz:w.frozen? ad=false)(hv:v.oneCell'=true):(Extern.Atomic.storeT #[.pointer (so ad),v]).run P w=.ok (.tuple #[]) (w.setCell ad v):=by
 change Sem.run P (do
  store (<- asAddr (.pointer (so ad))) v .atomic
  pure Extern.Atomic.none_) w=_
 simp[asAddr,Extern.Atomic.none_,run_store P w ad v .atomic hv,hc,hz]
def EE{v u:Value}(hc:w.cell? ad=so u)(hz:w.frozen? ad=false)(hv:v.oneCell'=true)(es:Array Event):(Extern.Atomic.storeT #[.pointer (so ad),v]).events P w es=es.push ⟨.cell ad,true,true⟩:=by
 change Sem.events P (do
  store (<- asAddr (.pointer (so ad))) v .atomic
  pure Extern.Atomic.none_) w _=_
 simp[asAddr,hc,hz,events_store P w _ ad v .atomic hv]
end
section
variable {P:Program}{m:Bool}{R:aL->ae->ae->Prop}{Gu:aL->ae->ae->Array Event->Prop}{X:aL->aY->ae->Prop}{o:aL}{w:ae}{f:FuncId}{Post:Value->aL->ae->Prop}
def Hm(W:gj P m R Gu X){g:FuncId}{gc:Func}{c:Code}{args tm:Array Value}{ds:List Deferred}(hg:P.funcs[g]?=so gc)(iB:(gc.name == "runtime.NumGoroutine")=false)(gb:gc.body=so c)(h:wN X g c (λe a' o' w'=>(e=.normal\/e=.ret)/\a'.defers=[]/\(∃v,ResultsC P gc a'.tmps v)/\qh X f Post ⟨tm,ds⟩ o' w') {tmps:=args++Array.replicate (gc.ntmps-args.size) undef,defers:=[]} o w):
  qh X f Post ⟨tm,{target:=.fn (.func g) #[],args}::ds⟩ o w:=by
 intro cf cs todo hc;refine W.go rfl (λw1=>stepG_unwind_enter rfl hg iB gb) ?_;have leave:∀(a':Act) (o':aL) (w':ae) (td:List Item),a'.defers=[]->(∃v,ResultsC P gc a'.tmps v)->qh X f Post ⟨tm,ds⟩ o' w'->X o' (G {(baseD g).at a' td with mode:=.returning} ({(base f).at ⟨tm,ds⟩ todo with mode:=.returning}::cf::cs)) w':=by
  rintro a' o' w' td hd ⟨v,hr⟩ hl;exact W.go rfl (λw1=>stepG_leave_deferred (b:=baseD g) rfl hd hg (hr w1).1 (hr w1).2 rfl) (hl cf cs todo hc)
 refine h (baseD g) [] _ rfl (by simp[baseD]) λe a' o' w' q=>?_;obtain⟨he,hd,hr,hl⟩:=q;rcases he with rfl|rfl
 ·exact W.go rfl (λ_=>eD) (leave a' o' w' [] hd hr hl)
 ·exact λtd=>leave a' o' w' td hd hr hl
end
end Go.Ren
namespace Go.Proofs.Kz
open Go.Proofs.Tryz
open Go.Proofs.Tryz renaming prog → ak
open _root_.ByteArray renaming empty → bF
open _root_.Option renaming some → so,none → we
open Go.Ren Go.Conc Go.Proofs Go.ConcN
section
variable {Fin:br}{o:aL}{w:ae}
def xM(K off:Nat)(x:Int)(hc:w.cell? ⟨K,off,we⟩=so (.int .u32 x)):
  bC ak (XB ak Fin 0) 142 #[.pointer (so ⟨K,off,we⟩)] o w λv o' w'=>v=.bool (x != 0)/\o'=o/\w'=w:=by
 have W:=bZ (P:=ak) (Fin:=Fin) (d:=0);refine bt W func142 rfl ?_;walk_nrmf Tryz.f142;refine aD ?_;refine AK rfl aG rfl func182 ah ah ah (e:=Extern.Atomic.loadT (.int .u32)) ah (vs:=#[.pointer (so ⟨K,off,we⟩)]) ax (t:=id) rfl (λn=>rfl) rfl (λn=>ED hc) (λn=>by rw[z7 (w:=w.at n) hc];rfl) (J5 _ _) ?_;refine aD ?_;exact⟨.inr trivial,trivial,_,resultsC_tmp (t:=2) aG _,ax⟩
def adL:bC ak (XB ak Fin 0) 202 #[.bool true] o w λv o' w'=>v=.int .u32 1/\o'=o/\w'=w:=by
 have W:=bZ (P:=ak) (Fin:=Fin) (d:=0);refine bt W func202 rfl ?_;walk_nrmf Tryz.f202;refine aD ?_;exact⟨.inr trivial,trivial,_,resultsC_tmp (t:=2) aG _,ax⟩
def M3{f:FuncId}{Post:Value->aL->ae->Prop}(K off:Nat)(x:Int)(hc:w.cell? ⟨K,off,we⟩=so (.int .u32 x))(hz:w.frozen? ⟨K,off,we⟩=false)(hF:bJ ak L0 o w)(tm:Array Value)(ds:List Deferred)(h:qh (XB ak Fin 0) f Post ⟨tm,ds⟩ o (w.setCell ⟨K,off,we⟩ (.int .u32 1))):qh (XB ak Fin 0) f Post ⟨tm,{target:=.fn (.func 183) #[],args:=#[.pointer (so ⟨K,off,we⟩),.bool true]}::ds⟩ o w:=by
 have W:=bZ (P:=ak) (Fin:=Fin) (d:=0);refine Hm W func183 ah rfl ?_;walk_nrmf Tryz.f183;refine iy mixed ah [so we,so we,so we,so we,so (so (.int .u32 1)),we] (S:=λσ o' w'=>o'=o/\(σ 5=we->w'=w)/\∀y,σ 5=so y->w'=w.setCell ⟨K,off,we⟩ (.int .u32 1)) ⟨rfl,λ_=>rfl,λy hy=>by cases hy⟩ λv=>?_;refine fF ?_;refine fU ?_;refine CR rfl rfl aG rfl func202 ah rfl (av:=#[.bool true]) ax (λσ o' w' H hS=>adL.mono ?_) ?_
 ·rintro v o2 w2 ⟨rfl,rfl,rfl⟩;exact⟨rfl,hS⟩
 walk_nrm;refine TR rfl rfl aG rfl func201 ah ah ah (e:=Extern.Atomic.storeT) ah (av:=#[.pointer (so ⟨K,off,we⟩),.int .u32 1]) ax (λσ o' w' H h5 hS=>?_) ?_
 ·obtain⟨rfl,h1,-⟩:=hS;obtain rfl:=h1 h5;exact⟨.tuple #[],λw=>w.setCell ⟨K,off,we⟩ (.int .u32 1),#[⟨.cell ⟨K,off,we⟩,true,true⟩],λn=>rfl,⟨C7 _ _ _,rfl,rfl⟩,λn=>M1 hc hz rfl,λn=>by rw[EE (w:=World.at _ n) hc hz rfl];rfl,J5 _ _,rfl,λh=>by simp[lg]at h,λy _=>rfl⟩
 walk_nrm;refine fj λσ o' w' wu hS=>?_;obtain⟨rfl,-,h2⟩:=hS;obtain rfl:=h2 _ (wu 5 iG rfl);exact⟨.inl trivial,rfl,⟨.tuple #[],λw1=>results_none ah _ _⟩,h⟩
def EF{f:FuncId}{Post:Value->aL->ae->Prop}(K off:Nat)(X5:o K)(hc:w.cell? ⟨K,off,we⟩=so (.int .i32 1))(hz:w.frozen? ⟨K,off,we⟩=false)(tm:Array Value)(ds:List Deferred)(h:qh (XB ak Fin 0) f Post ⟨tm,ds⟩ o (w.setCell ⟨K,off,we⟩ (.int .i32 0))):qh (XB ak Fin 0) f Post ⟨tm,{target:=.fn (.func 46) #[],args:=#[.pointer (so ⟨K,off,we⟩)]}::ds⟩ o w :=
 λcf cs todo LD=>J6 K off X5 hc hz (base f) tm ds todo (cf::cs) (h cf cs todo LD)
def wS.keep{lo:Nat}{NM:aN->List ag}{cB:List aN}{St Or:Nat}{cX:Nat->Nat}{sv v:Value}{w w':ae}(h:wS lo NM cB St Or cX sv v w)(hz:w.heap.size<=w'.heap.size)(e:∀b,lo<=b->b<w.heap.size->w'.heap[b]?=w.heap[b]?):wS lo NM cB St Or cX sv v w' where
 val:=h.val
 steps:=kg h.steps (e St h.st.1 h.st.2) (λs hs=>e _ (h.ib s hs) (h.steps.lt s hs)) hz
 ord:=World.rowIs.of_block h.ord (e Or h.or.1 h.or.2)
 src:=mh h.src (af _) hz e
 st:=⟨h.st.1,by have:=h.st.2;omega⟩
 or:=⟨h.or.1,by have:=h.or.2;omega⟩
 ib:=h.ib
structure mA(o:aL)(w:ae)(p:Option Addr)(Ru c:Nat)(rs:List aN)(NM:aN->List ag)(NB:aN->Nat):Prop where
 ui:rs.length<=8
 ptr:rs≠[]->p=so ⟨Ru,0,we⟩
 own:o Ru
 at_:fw w Ru rs
 clr:∀r∈rs,Cl ak L0 o (.slice r.sa r.sl r.sc)
 cl:Cl ak L0 o (.slice p rs.length c)
 nm:∀r∈rs,r.sl=(NM r).length/\(NM r≠[]->r.sa=so ⟨NB r,0,we⟩/\o (NB r))/\gf w (NB r) 0 (NM r)/\(NM r).length<=4
def mA.keep{p:Option Addr}{Ru c:Nat}{rs:List aN}{NM:aN->List ag}{NB:aN->Nat}{o':aL}{w':ae}(h:mA o w p Ru c rs NM NB)(pB:∀b,o b->o' b)(e0:w'.heap[Ru]?=w.heap[Ru]?)(e:∀r∈rs,NM r≠[]->w'.heap[NB r]?=w.heap[NB r]?):mA o' w' p Ru c rs NM NB where
 ui:=h.ui
 ptr:=h.ptr
 own:=pB _ h.own
 at_:=gG h.at_ e0
 clr r hr:=(h.clr r hr).up pB
 cl:=h.cl.up pB
 nm r hr:=by
  obtain⟨h1,h2,h3,h4⟩:=h.nm r hr;refine⟨h1,λhn=>⟨(h2 hn).1,pB _ (h2 hn).2⟩,λk hk=>?_,h4⟩;have fu:NM r≠[]:=λe=>by rw[e]at hk;simp at hk
  exact dS h3 (e r hr fu) k hk
def M4(o:aL)(w:ae)(rs:List aN)(NM:aN->List ag)(v:Value)(o':aL)(w':ae):Prop :=
 iz o w v o' w'/\∃cB St Or cX sv,cB.Perm rs/\(∀i j (hi:i<cB.length) (hj:j<cB.length),i<j->¬rN cB[j] cB[i]<0)/\wS w.heap.size NM cB St Or cX sv v w'
def oP{w:ae}{b:Nat}{t:TypeId}{c0 c1 c2 c3 c4 c5 c6 c7:Value}(h:w.heap[b]?=so (.cells #[c0,c1,c2,c3,c4,c5,c6,c7] t)):w.cell? ⟨b,0,we⟩=so c0/\w.cell? ⟨b,1,we⟩=so c1/\w.cell? ⟨b,2,we⟩=so c2/\w.cell? ⟨b,3,we⟩=so c3/\w.cell? ⟨b,4,we⟩=so c4/\w.cell? ⟨b,5,we⟩=so c5/\w.cell? ⟨b,6,we⟩=so c6/\w.cell? ⟨b,7,we⟩=so c7/\∀k,w.frozen? ⟨b,k,we⟩=false:=by
 simp[World.cell?,World.frozen?,h]
abbrev Ls(c0 c1 c2 c3 c4 c5 c6 c7:Value):Obj:=.cells #[c0,c1,c2,c3,c4,c5,c6,c7] 150
def WA(hF:bJ ak L0 o w)(bb bx Ru c:Nat)(p:Option Addr)(rs:List aN)(NM:aN->List ag)(NB:aN->Nat)(hR:mA o w p Ru c rs NM NB)(wU:o bb)(J0:o bx)(c1 c2 c3 c4 c5 c6 c7:Value)(hb:w.heap[bb]?=so (Ls (.slice p rs.length c) c1 c2 c3 c4 c5 c6 c7))(hx:w.cell? ⟨bx,0,we⟩=so (.pointer (so ⟨bb,0,we⟩))):
  bC ak (XB ak Fin 0) 111 #[.pointer (so ⟨bx,0,we⟩)] o w λv o' w'=>v=.tuple #[]/\bJ ak L0 o' w'/\∃y0 y1 y2 w2,M4 o w rs NM (.agg #[y0,y1,y2]) o' w2/\nZ bb w2 w'/\w'.heap[bb]?=so (Ls (.slice p rs.length c) c1 c2 c3 y0 y1 y2 c7):=by
 have W:=bZ (P:=ak) (Fin:=Fin) (d:=0);refine bt W func111 aG ?_;walk_nrmf Tryz.f111;have im:=hF.lt wU;have hxw:=hF.lt J0;refine iy mixed ah [so (so (.pointer (so ⟨bb,0,we⟩))),so (so (.pointer (so ⟨bb,0,we⟩))),so we,so we,so (so (.slice p rs.length c)),we,so we,so we,we]
  (S:=λσ o' w'=>(σ 8=we/\(o'=grow o w w'/\bJ ak L0 o' w'/\w.heap.size<=w'.heap.size/\(∀b,b<w.heap.size->w'.heap[b]?=w.heap[b]?))/\(σ 5=we->o'=o/\w'=w)/\∀y,σ 5=so y->M4 o w rs NM y o' w') \/
   (σ 8≠we/\bJ ak L0 o' w'/\∃y0 y1 y2 w2,M4 o w rs NM (.agg #[y0,y1,y2]) o' w2/\nZ bb w2 w'/\w'.heap[bb]?=so (Ls (.slice p rs.length c) c1 c2 c3 y0 y1 y2 c7))) ?_ λv=>?_
 ·exact .inl ⟨rfl,⟨(cp _ _).symm,hF,af _,λ_ _=>rfl⟩,λ_=>⟨rfl,rfl⟩,λy hy=>by cases hy⟩
 refine fF ?_
 iterate 2
  refine ZX (λσ o' w' H hS=>?_) ?_
  ·rcases hS with⟨h8,⟨e1,e2,e3,e4⟩,-,-⟩|⟨h8,-⟩
   ·have p7:o' bx:=by rw[e1];exact .inl J0
    refine⟨e2,S4 (gE p7),λwl bu=>?_⟩;simp[go_sem,(bu.cell p7).trans ((cell_of (e4 _ hxw)).trans hx)]
   ·exact absurd (H.GN 8 ah) h8
 refine fU ?_;refine ZX (λσ o' w' H hS=>?_) ?_
 ·rcases hS with⟨h8,⟨e1,e2,e3,e4⟩,-,-⟩|⟨h8,-⟩
  ·have p7:o' bb:=by rw[e1];exact .inl wU
   refine⟨e2,λy hy=>?_,λwl bu=>?_⟩
   ·simp[Op.operands]at hy;subst hy;simp[Act.eval];exact gE p7
   ·simp[go_sem,(bu.cell p7).trans ((cell_of (e4 _ im)).trans (oP hb).1)]
  ·exact absurd (H.GN 8 ah) h8
 walk_nrm;refine BB rfl rfl aG rfl func112 ah rfl (av:=#[.slice p rs.length c]) ax (λσ o' w' H h5 hS=>?_) ?_
 ·rcases hS with⟨h8,-,hS,-⟩|⟨h8,-⟩
  ·obtain⟨rfl,rfl⟩:=hS h5;refine(Hk hF Ru c p rs hR.ui hR.ptr hR.own hR.at_ hR.clr hR.cl NM NB hR.nm).mono λy o2 w2 hq=>?_;refine .inl ⟨by simpa[lg] using h8,⟨hq.1.own,hq.1.bS,hq.1.size,hq.1.old⟩,λh=>by simp[lg]at h,λz hz=>?_⟩;simp only[lg,if_true,ay]at hz;subst hz;exact hq
  ·exact absurd (H.GN 8 ah) h8
 refine fU ?_;refine GP jN rfl rfl rfl aG aG (λσ o' w' H h8 hS=>?_) ?_
 ·rcases hS with⟨-,⟨e1,e2,e3,e4⟩,-,h6⟩|⟨h8',-⟩
  ·have hq:=h6 _ (H.done 5 ah rfl);have Cm:=hq;obtain⟨N,cB,St,Or,cX,sv,-,-,hL⟩:=Cm;have qP:=hL.val;generalize RI:(eL (mZ NM cB) cB.length cB.length).length=ol at qP;have p7:o' bb:=by rw[e1];exact .inl wU
   have nD:=(e4 bb im).trans hb;refine⟨e2,λy hy=>?_,λwl bN=>bN=((wl.setCell ⟨bb,4,we⟩ (.slice (so ⟨St,0,we⟩) cB.length cB.length)).setCell ⟨bb,5,we⟩ (.slice (so ⟨Or,0,we⟩) ol cB.length)).setCell ⟨bb,6,we⟩ sv,λwl bu=>⟨_,?_,rfl⟩,λwl bN w2 bu Z8 fP=>?_⟩
   ·simp[Op.operands]at hy;rcases hy with rfl|rfl
    ·simp[Act.eval];exact gE p7
    ·simp[Act.eval];exact N.cl
   ·obtain⟨-,-,-,-,d4,d5,d6,-,f⟩:=oP ((bu.heap _ p7).trans nD);have hs:=hL.src;rcases hs with⟨rfl,-⟩|⟨g,cap,rfl,-⟩
    ·simp[go_sem,qP,d4,d5,d6,f]
    ·simp[go_sem,qP,d4,d5,d6,f]
   ·have hO:nZ bb wl bN:=by rw[Z8];exact OE _ _ _ _ _ _ _ _
    obtain⟨on,kb,eg⟩:=fP.only bu p7 hO;have rK:=fP.bS;rw[eg]at rK |-;refine .inr ⟨by simp[lg],rK,_,_,_,w',qP▸hq,on,?_⟩;rw[kb,Z8];simp[World.setCell,aR,(bu.heap _ p7).trans nD]
  ·exact absurd h8 h8'
 walk_nrm;refine fj λσ o' w' wu hS=>?_;rcases hS with⟨h8,-⟩|⟨-,e1,e2⟩
 ·rw[wu 8 iG rfl]at h8;cases h8
 exact⟨.inl trivial,rfl,.tuple #[],λw1=>results_none ah _ _,rfl,e1,e2⟩
end
end Go.Proofs.Kz
