import Derived.Test.YtgjekaaknjgnmaaGreatDoorAd
import Derived.ArgAppend
import Derived.Conc.AtomicLaws2
import Derived.Lib.Builder
import Derived.Lib.Bytealg
import Derived.Lib.JoinLaws
import Derived.Sort.Walk0
set_option linter.all false
set_option maxHeartbeats 40000000
set_option maxRecDepth 200000
namespace Go.Proofs.Kz
open Go.Proofs.Tryz
open Go.Proofs.Tryz renaming prog → au
open _root_.ByteArray renaming empty → aO
open Go.Ren Go.Conc Go.Proofs Go.ConcN
section
open Go.Conc.Lib Go.ConcR.Gen Go.ConcN.Gen
open Go.ConcR (KK wgBlock WgAt stA smA rd wr mk Payload DC0)
def Still(D:mV)(Ob:Nat)(old:Nat->Option (Nat×List Kz.V))(b:Nat):Prop :=
 b=D.bn\/b=D.Lb\/b=D.St\/b=D.Vb\/b=D.Mb\/b=Ob\/b=1\/(∃s,s<D.n/\b=D.cM s)\/(∃s vs,s<D.n/\old s=some (b,vs))
structure n9(D:mV)(ord:Nat->Nat)(res:Nat->Kz.V)(old:Nat->Option (Nat×List Kz.V))(Ob:Nat)(o:aM)(w:ae):Prop where
 EZ:lg D w
 pow:iW w
 order:w.cell? ⟨D.Lb,D.Lo+1,none⟩=some (.slice (some ⟨Ob,0,none⟩) D.n D.n)
 Mc:∀k,k<D.n->w.cell? ⟨Ob,k,none⟩=some (.int .i64 (ord k))
 still:∀b,Still D Ob old b->o b/\b≠D.Rb/\b≠D.Nb/\∀s,s<D.n->b≠D.ch s
 pv:∀s,s<D.n->o (D.ch s)/\D.ch s≠D.Rb/\D.ch s≠D.Nb/\∃s' r tm,w.heap[D.ch s]?=some (.chan 0 #[] false s' r tm)
 xP:∀s t,s<D.n->t<D.n->D.ch s=D.ch t->s=t
 CL:o D.Rb
 CM:o D.Nb
 apart:D.Rb≠D.Nb
 R0:∃cs,w.heap[D.Rb]?=some (.cells cs 222 (0,0))/\cs.size=D.n*4
 N0:∃cs,w.heap[D.Nb]?=some (.cells cs 4 (0,0))/\cs.size=D.n
 idle:∀s,s<D.n->zD D s (old s) w
 xa:∀s B vs,s<D.n->old s=some (B,vs)->wW w B 0 vs/\vs.length<=100000
 qF:∀i,i<D.n->ord i<D.n
 ZR:∀i j,i<D.n->j<D.n->ord i=ord j->i=j
 ZS:∀s,s<D.n->∃i,i<D.n/\ord i=s
 dep:∀i,i<D.n->∀m,(true,m)∈D.ins (ord i)->∃k,k<i/\ord k=m
 src:∀s,s<D.n->∀m,(false,m)∈D.ins s->m<D.lC.length
 short:∀s,s<D.n->(D.ins s).length<=4
 gT:D.n<=100000
 VY:D.lC.length<=100000
 made:∀s,s<D.n->res s=iX (D.jQ s) (dT D res s)
 eR:∀s,s<D.n->1<=D.jQ s/\D.jQ s<=5
 size:∀s,s<D.n->jl ((dT D res s).map (·.2))<=1000000
def qp(D:mV)(ord:Nat->Nat)(old:Nat->Option (Nat×List Kz.V))(S:Nat->Prop)(Wg H0 m0 T0:Nat):dm where
 T0:=T0
 H0:=H0
 Wg:=Wg
 m0:=m0
 n:=D.n
 ch:=fun i=>D.ch (ord i)
 jW:=fun i l=>i<D.n/\((∃j,j<4/\l=.cell ⟨D.Rb,ord i*4+j,none⟩)\/l=.cell ⟨D.Nb,ord i,none⟩)
 Shun:=tW S
 Sh:=fun b=>b=D.Rb\/b=D.Nb
 ty:=216
 dep:=fun i k=>k<i
 Idle:=fun k w=>k<D.n->zD D (ord k) (old (ord k)) w
section
variable {D:mV} {ord:Nat->Nat} {res:Nat->Kz.V} {old:Nat->Option (Nat×List Kz.V)} {Ob:Nat} {o:aM} {w:ae} {L:Nat->Bool}
theorem vh{w w1:ae}{B:Nat}(hs:∀cs ty fz,w.heap[B]?=some (.cells cs ty fz)->∃tx,w1.heap[B]?=some (.cells tx ty fz)/\tx.size=cs.size)(h:vI w B):vI w1 B:=by
 obtain⟨c,t,h⟩:=h;obtain⟨c1,h1,_⟩:=hs c t _ h;exact⟨c1,t,h1⟩
theorem zD.keep{s:Nat}{x:Option (Nat×List Kz.V)}{w w1:ae}(h:zD D s x w)(hR:∀j,j<4->w1.cell? ⟨D.Rb,s*4+j,none⟩=w.cell? ⟨D.Rb,s*4+j,none⟩)(hN:w1.cell? ⟨D.Nb,s,none⟩=w.cell? ⟨D.Nb,s,none⟩)(h1:vI w1 D.Rb)(h2:vI w1 D.Nb):zD D s x w1:=by
 refine⟨?_,hN.trans h.2.1,h1,h2⟩;have k:=h.1;cases x with
 |none=>exact⟨(hR 0 aa).trans k.c0,(hR 1 aa).trans k.c1,(hR 2 aa).trans k.c2,(hR 3 aa).trans k.c3⟩
 |some y=>exact⟨(hR 0 aa).trans k.c0,(hR 1 aa).trans k.c1,(hR 2 aa).trans k.c2,(hR 3 aa).trans k.c3⟩
theorem nO{o:aM}{a b:Nat}(h:¬o b)(ha:o a):a≠b:=fun e=>h (e▸ha)
theorem V4(h:n9 D ord res old Ob o w){S:Nat->Prop}{Wg H0 m0 T0:Nat}(hm:0<m0)(hWg:Wg<H0)(NP:¬o Wg)(ho:∀b,o b->b<H0/\¬S b)(hS:∀b,S b->b<H0/\b≠Wg):(qp D ord old S Wg H0 m0 T0).OK where
 m0:=hm
 wg:=hWg
 own k l b hl hb:=by
  rcases hl.2 with⟨j,_,rfl⟩|rfl
  ·cases hb;exact⟨(ho _ h.CL).1,nO NP h.CL⟩
  ·cases hb;exact⟨(ho _ h.CM).1,nO NP h.CM⟩
 apart k k' l hl hl':=by
  have e:ord k=ord k':=by
   rcases hl.2 with⟨j,_,rfl⟩|rfl<;>rcases hl'.2 with⟨j',_,e⟩|e
   ·simp at e;omega
   ·simp at e;exact absurd e.1 h.apart
   ·simp at e;exact absurd e.1.symm h.apart
   ·simp at e;exact e
  exact h.ZR _ _ hl.1 hl'.1 e
 acd l b hl hb:=by cases l<;>first|exact hl.elim|skip;cases hb;exact hS _ hl
 Gn k l hl hs:=by
  rcases hl.2 with⟨j,_,rfl⟩|rfl
  ·exact(ho _ h.CL).2 hs
  ·exact(ho _ h.CM).2 hs
 ownSh k l hl:=by
  rcases hl.2 with⟨j,_,rfl⟩|rfl
  ·exact⟨_,rfl,.inl rfl⟩
  ·exact⟨_,rfl,.inr rfl⟩
 sh b hb:=by
  rcases hb with rfl|rfl
  ·exact⟨(ho _ h.CL).1,nO NP h.CL,fun k hk=>(h.pv _ (h.qF k hk)).2.1⟩
  ·exact⟨(ho _ h.CM).1,nO NP h.CM,fun k hk=>(h.pv _ (h.qF k hk)).2.2.1⟩
 ch k hk:=⟨(ho _ (h.pv _ (h.qF k hk)).1).1,nO NP (h.pv _ (h.qF k hk)).1⟩
 xP k k' hk lP e:=h.ZR _ _ hk lP (h.xP _ _ (h.qF k hk) (h.qF k' lP) e)
 Ry k hk:=fun e=>e
 dep i k _ e:=e
 idle k w w1 h1 h2 h3:=fun hk=>(h3 hk).keep (fun j hj=>h1 _ ⟨hk,.inl ⟨j,hj,rfl⟩⟩) (h1 _ ⟨hk,.inr rfl⟩) (vh (h2 _ · · · (.inl rfl)) (h3 hk).2.2.1) (vh (h2 _ · · · (.inr rfl)) (h3 hk).2.2.2)
theorem Me(h:n9 D ord res old Ob o w){S:Nat->Prop}{Wg H0 m0 T0:Nat}(hWg:Wg<H0)(NP:¬o Wg)(ho:∀b,o b->b<H0/\¬S b){b:Nat}(hb:Still D Ob old b):Quiet (qp D ord old S Wg H0 m0 T0) b:=by
 obtain⟨h1,h2,h3,h4⟩:=h.still b hb;refine⟨(ho b h1).1,nO NP h1,fun e=>e.elim h2 h3,fun k hk=>h4 _ (h.qF k hk),fun off=>⟨fun b' nn=>?_,fun k hk=>?_,(ho b h1).2⟩⟩
 ·cases nn;exact⟨(ho b h1).1,nO NP h1⟩
 ·rcases hk.2 with⟨j,_,e⟩|e
  ·injection e with e;injection e with e;exact h2 e
  ·injection e with e;injection e with e;exact h3 e
theorem CN{S:Nat->Prop}{Wg H0 m0 T0 Bb:Nat}(hB:Bb<H0)(dH:Bb≠Wg)(hS:¬S Bb)(h:n9 D ord res old Ob o w)(hn:¬o Bb):Quiet (qp D ord old S Wg H0 m0 T0) Bb:=by
 have SV:∀a,o a->Bb≠a:=fun a ha e=>hn (e▸ha);refine⟨hB,dH,fun e=>e.elim (SV _ h.CL) (SV _ h.CM),fun k hk=>SV _ (h.pv _ (h.qF k hk)).1,fun off=>⟨fun b' nn=>?_,fun k hk=>?_,hS⟩⟩
 ·cases nn;exact⟨hB,dH⟩
 ·rcases hk.2 with⟨j,_,e⟩|e
  ·injection e with e;injection e with e;exact SV _ h.CL e
  ·injection e with e;injection e with e;exact SV _ h.CM e
theorem n9.keep{w1:ae}(h:n9 D ord res old Ob o w)(e:∀b,o b->w1.heap[b]?=w.heap[b]?):n9 D ord res old Ob o w1:=by
 have q:∀{b off},Still D Ob old b->w1.cell? ⟨b,off,none⟩=w.cell? ⟨b,off,none⟩:=fun hb=>cell_of (e _ (h.still _ hb).1);have qb:∀{off},w1.cell? ⟨D.bn,off,none⟩=w.cell? ⟨D.bn,off,none⟩:=q (.inl rfl);have qL:∀{off},w1.cell? ⟨D.Lb,off,none⟩=w.cell? ⟨D.Lb,off,none⟩:=q (.inr (.inl rfl));have qS:∀{off},w1.cell? ⟨D.St,off,none⟩=w.cell? ⟨D.St,off,none⟩:=q (.inr (.inr (.inl rfl)));have qV:∀{off},w1.cell? ⟨D.Vb,off,none⟩=w.cell? ⟨D.Vb,off,none⟩:=q (.inr (.inr (.inr (.inl rfl))));have qM:∀{off},w1.cell? ⟨D.Mb,off,none⟩=w.cell? ⟨D.Mb,off,none⟩:=q (.inr (.inr (.inr (.inr (.inl rfl)))));have qO:∀{off},w1.cell? ⟨Ob,off,none⟩=w.cell? ⟨Ob,off,none⟩:=q (.inr (.inr (.inr (.inr (.inr (.inl rfl))))));have q1:∀{off},w1.cell? ⟨1,off,none⟩=w.cell? ⟨1,off,none⟩:=q (.inr (.inr (.inr (.inr (.inr (.inr (.inl rfl)))))));have qI:∀{s off},s<D.n->w1.cell? ⟨D.cM s,off,none⟩=w.cell? ⟨D.cM s,off,none⟩:=fun hs=>q (.inr (.inr (.inr (.inr (.inr (.inr (.inr (.inl ⟨_,hs,rfl⟩))))))));have qR:∀{off},w1.cell? ⟨D.Rb,off,none⟩=w.cell? ⟨D.Rb,off,none⟩:=cell_of (e _ h.CL);have qN:∀{off},w1.cell? ⟨D.Nb,off,none⟩=w.cell? ⟨D.Nb,off,none⟩:=cell_of (e _ h.CM);have d:=h.EZ;exact {h with
  EZ:=⟨by rw[qb];exact d.b0,by rw[qb];exact d.b1,by rw[qb];exact d.b2,by rw[qb];exact d.b3,by rw[qb];exact d.b4,by rw[qL];exact d.steps,fun s hs=>by rw[qS];exact d.eR s hs,fun s hs=>by rw[qS];exact d.A0 s hs,fun s hs j hj=>by rw[qI hs,qI hs];exact d.CH s hs j hj,fun k hk=>by rw[qV,qV];exact d.lC k hk,fun s hs=>by rw[qM];exact d.made s hs⟩
  pow:=fun k hk=>by rw[q1];exact h.pow k hk
  order:=by rw[qL];exact h.order
  Mc:=fun k hk=>by rw[qO];exact h.Mc k hk
  pv:=fun s hs=>⟨(h.pv s hs).1,(h.pv s hs).2.1,(h.pv s hs).2.2.1,by rw[e _ (h.pv s hs).1];exact(h.pv s hs).2.2.2⟩
  R0:=by rw[e _ h.CL];exact h.R0
  N0:=by rw[e _ h.CM];exact h.N0
  idle:=fun s hs=>(h.idle s hs).keep (fun j _=>qR) qN (vh (fun cs ty fz hx=>⟨cs,by rw[e _ h.CL];exact hx,rfl⟩) (h.idle s hs).2.2.1) (vh (fun cs ty fz hx=>⟨cs,by rw[e _ h.CM];exact hx,rfl⟩) (h.idle s hs).2.2.2)
  xa:=fun s B vs hs ho=>⟨fun k hk=>by
   have hb:Still D Ob old B:=.inr (.inr (.inr (.inr (.inr (.inr (.inr (.inr ⟨s,vs,hs,ho⟩)))))));rw[q hb,q hb];exact(h.xa s B vs hs ho).1 k hk,(h.xa s B vs hs ho).2⟩}
theorem Mf(h:n9 D ord res old Ob o w){S:Nat->Prop}{Wg Bb H0 m0 T0:Nat}(hm:0<m0)(hWg:Wg<H0)(NP:¬o Wg)(ho:∀b,o b->b<H0/\¬S b)(hS:∀b,S b->b<H0/\b≠Wg)(hB:Bb<H0)(dH:Bb≠Wg)(hSB:¬S Bb)(hnB:¬o Bb)(hg:au.globals.size<=H0)(ZT:w.cell? ⟨Bb,0,none⟩=some (.pointer (some ⟨D.bn,0,none⟩))):Setup D (qp D ord old S Wg H0 m0 T0) ord res old Bb Ob w:=by
 have Q:∀{b},Still D Ob old b->Quiet (qp D ord old S Wg H0 m0 T0) b:=fun hb=>Me h hWg NP ho hb;exact {
  ok:=V4 h hm hWg NP ho hS
  n:=rfl
  kp:=hg
  ty:=rfl
  q1:=Q (.inr (.inr (.inr (.inr (.inr (.inr (.inl rfl)))))))
  dk:={
   DL:=Q (.inl rfl)
   ZG:=Q (.inr (.inl rfl))
   ZH:=Q (.inr (.inr (.inl rfl)))
   qVb:=Q (.inr (.inr (.inr (.inl rfl))))
   qMb:=Q (.inr (.inr (.inr (.inr (.inl rfl)))))
   PO:=fun s hs=>Q (.inr (.inr (.inr (.inr (.inr (.inr (.inr (.inl ⟨_,hs,rfl⟩))))))))
   qF:=h.qF
   ch:=fun _ _=>rfl
   own:=fun _ _=>cZ
   Q7:=.inl rfl
   X3:=.inr rfl
   apart:=h.apart
   dep:=fun i hi m hm=>by
    obtain⟨k,hk,e⟩:=h.dep i hi m hm;exact⟨k,by have:i<D.n:=hi;show k<D.n;omega,e,hk⟩
   src:=h.src
   short:=h.short
   gT:=h.gT
   VY:=h.VY}
  EZ:=h.EZ
  pow:=h.pow
  made:=fun i hi=>h.made _ (h.qF i hi)
  eR:=fun i hi=>h.eR _ (h.qF i hi)
  size:=fun i hi=>h.size _ (h.qF i hi)
  qB:=CN hB dH hSB h hnB
  box:=ZT
  qO:=Q (.inr (.inr (.inr (.inr (.inr (.inl rfl))))))
  order:=h.order
  Mc:=h.Mc
  xa:=fun s B vs hs e=>⟨(h.xa s B vs hs e).1,Q (.inr (.inr (.inr (.inr (.inr (.inr (.inr (.inr ⟨s,vs,hs,e⟩)))))))),(h.xa s B vs hs e).2⟩
  idle:=fun k w hk hi=>hi hk}
end
end
section
open Go.Conc.Lib Go.ConcR.Gen Go.ConcN.Gen
open Go.ConcR (KK wgBlock WgAt stA smA rd wr mk Payload DC0)
structure SW(D:mV)(res:Nat->Kz.V)(old:Nat->Option (Nat×List Kz.V))(o:aM)(w:ae)(o':aM)(w':ae):Prop where
 more:∀b,o b->o' b
 new:∀b,o' b->o b\/w.heap.size<=b
 same:∀b,b<w.heap.size->b≠D.Rb->b≠D.Nb->(∀s,s<D.n->b≠D.ch s)->w'.heap[b]?=w.heap[b]?
 runs:∀s,s<D.n->nN D s (old s) (dT D res s) (res s) (fun b=>o' b/\w.heap.size<=b) w'
 R0:∃cs,w'.heap[D.Rb]?=some (.cells cs 222 (0,0))/\cs.size=D.n*4
 N0:∃cs,w'.heap[D.Nb]?=some (.cells cs 4 (0,0))/\cs.size=D.n
 pv:∀s,s<D.n->∃c s' r tm,w'.heap[D.ch s]?=some (.chan 0 #[] c s' r tm)
 size:w.heap.size<=w'.heap.size
 os:w'.os=w.os
 output:w'.output=w.output
section
variable [Payload] {D:mV} {ord:Nat->Nat} {res:Nat->Kz.V} {old:Nat->Option (Nat×List Kz.V)} {Ob:Nat} {o:aM} {w:ae} {L:Nat->Bool} {Fin:bK}
theorem sL{f:Rn}{cs:Array Value}{ty:TypeId}{fz:Nat×Nat}(h:∀j (hj:j<cs.size),val f cs[j]=cs[j]):obj f (.cells cs ty fz)=.cells cs ty fz:=by
 simp only[obj]
 congr 1
 apply jf
 ·simp
 ·intro j h1 h2;simpa using h j h2
theorem Ju{w:ae}{b j:Nat}{v:Value}{cs:Array Value}{ty:TypeId}{fz:Nat×Nat}(h:w.cell? ⟨b,j,none⟩=some v)(hb:w.heap[b]?=some (.cells cs ty fz)):cs[j]?=some v:=by
 simpa[World.cell?,hb] using h
theorem uz{w:ae}{b j:Nat}{v:Value}{cs:Array Value}{ty:TypeId}{fz:Nat×Nat}{f:Rn}(h:w.cell? ⟨b,j,none⟩=some v)(hb:w.heap[b]?=some (.cells cs ty fz))(hj:j<cs.size)(hv:val f v=v):val f cs[j]=cs[j]:=by
 have:=Ju h hb;rw[aN hj] at this;rw[aQ this];exact hv
theorem PV{w:ae}{b t n:Nat}{g:Nat->Value}(h:w.rowIs b t n g)(hg:∀j,j<n->∀f,val f (g j)=g j):∃x,w.heap[b]?=some x/\fi x=false/\∀f,obj f x=x:=by
 obtain⟨c,hb,hn,hc⟩:=h;refine⟨_,hb,rfl,fun f=>sL fun j hj=>?_⟩;have:=hc j aa;rw[aN hj] at this;rw[aQ this];exact hg j aa f
theorem SX{S:Nat->Prop}{Wg H0 m0 T0:Nat}:ky (qp D ord old S Wg H0 m0 T0) (Vd D ord res) (yn D ord old res):=by
 refine⟨fun k w w1 h1 h2=>?_,fun k o w w1 h1 h2 h3=>?_⟩
 ·exact⟨h2.1,(h1 _ ⟨h2.1,.inl ⟨2,aa,rfl⟩⟩).trans h2.2.1,(h1 _ ⟨h2.1,.inl ⟨3,aa,rfl⟩⟩).trans h2.2.2⟩
 ·exact⟨h3.1,nN.of h3.2 (fun j hj=>h1 _ ⟨h3.1,.inl ⟨j,hj,rfl⟩⟩) (h1 _ ⟨h3.1,.inr rfl⟩) fun b hb=>⟨hb,h2 b hb⟩⟩
theorem PW(hF:bM au L o w)(h:n9 D ord res old Ob o w):bz au (XB au Fin 0) 74 #[.pointer (some ⟨D.bn,0,none⟩)] o w fun v o' w'=>v=.tuple #[]/\SW D res old o w o' w'/\bM au L o' w':=by
 intro c cs hc;have fF:Tryz.f74.body=some (.seq _ (.seq _ (.seq (.seq _ (.block 0 (.loop _))) _))):=rfl;rw[iN func74 fF];refine fun ZU=>(?_:XB au Fin 0 o _ w) ZU;have W:=bV (P:=au) (Fin:=Fin) (d:=0);have rP:(base 74).kind≠.early:=by simp[base]
 walk_nrmf Tryz.f74;refine W.go rfl (fun _=>aD) ?_;refine W.go rfl (fun _=>bf) ?_;refine dP ?_;refine zp rfl ar rP rfl (Obj.cells #[.pointer (some ⟨D.bn,0,none⟩)] 151) (fun n=>.pointer (some ⟨n,0,none⟩)) (fun w1=>fP) (fun w1=>fP) ?_;walk_nrm;refine W.go rfl (fun _=>ak) ?_;refine W.go rfl (fun _=>aD) ?_;refine W.go rfl (fun _=>bf) ?_;refine dP ?_;refine zp rfl ar rP rfl (Obj.cells #[.int .u64 0,.int .u32 0] 216) (fun n=>.pointer (some ⟨n,0,none⟩)) (fun w1=>fP) (fun w1=>fP) ?_;walk_nrm;refine W.go rfl (fun _=>ak) ?_;have pA:∀b,b<w.heap.size->((w.alloc (Obj.cells #[.pointer (some ⟨D.bn,0,none⟩)] 151)).alloc (Obj.cells #[.int .u64 0,.int .u32 0] 216)).heap[b]?=w.heap[b]?:=fun b hb=>by
  rw[RowKit.Below.heap_alloc _ _ b dV,RowKit.Below.heap_alloc _ _ b hb]
 have Jr:((w.alloc (Obj.cells #[.pointer (some ⟨D.bn,0,none⟩)] 151)).alloc (Obj.cells #[.int .u64 0,.int .u32 0] 216)).heap[w.heap.size]?=some (Obj.cells #[.pointer (some ⟨D.bn,0,none⟩)] 151):=by
  rw[RowKit.Below.heap_alloc _ _ _ aj];show(w.heap.push _)[w.heap.size]?=_;simp
 have pj:((w.alloc (Obj.cells #[.pointer (some ⟨D.bn,0,none⟩)] 151)).alloc (Obj.cells #[.int .u64 0,.int .u32 0] 216)).heap[w.heap.size+1]?=some (Obj.cells #[.int .u64 0,.int .u32 0] 216):=by
  show((w.heap.push (Obj.cells #[.pointer (some ⟨D.bn,0,none⟩)] 151)).push _)[w.heap.size+1]?=_;rw[fG,if_pos aj]
 have uZ:((w.alloc (Obj.cells #[.pointer (some ⟨D.bn,0,none⟩)] 151)).alloc (Obj.cells #[.int .u64 0,.int .u32 0] 216)).heap.size=w.heap.size+2:=aj;have KO:(w.alloc (Obj.cells #[.pointer (some ⟨D.bn,0,none⟩)] 151)).heap.size=w.heap.size+1:=aj;have YT:((w.alloc (Obj.cells #[.pointer (some ⟨D.bn,0,none⟩)] 151)).alloc (Obj.cells #[.int .u64 0,.int .u32 0] 216)).os=w.os/\((w.alloc (Obj.cells #[.pointer (some ⟨D.bn,0,none⟩)] 151)).alloc (Obj.cells #[.int .u64 0,.int .u32 0] 216)).output=w.output:=⟨rfl,rfl⟩;rw[KO];generalize (w.alloc (Obj.cells #[.pointer (some ⟨D.bn,0,none⟩)] 151)).alloc (Obj.cells #[.int .u64 0,.int .u32 0] 216)=w2 at *;clear KO;have cy:∀b,o b->b<w.heap.size:=fun b hb=>hF.lt hb;have NP:¬o (w.heap.size+1):=fun hb=>by have:=cy _ hb;omega
 have hoB:¬o w.heap.size:=fun hb=>by have:=cy _ hb;omega
 intro Pu w3 pg;have e3:w3.heap=w2.heap:=by obtain⟨dd,rfl⟩:=pg;rfl
 have e3o:w3.os=w2.os/\w3.output=w2.output:=by obtain⟨dd,rfl⟩:=pg;exact⟨rfl,rfl⟩
 have PX:n9 D ord res old Ob o w3:=h.keep fun b hb=>by rw[e3];exact pA b (cy b hb)
 have ahr:Fa Fin (fun b=>(o b\/b=w.heap.size)\/b=w.heap.size+1) w2=Fa Fin o w:=by
  funext b;simp only[Fa,eq_iff_iff,uZ];constructor
  ·rintro⟨h1,h2,h5⟩;exact⟨fA fun h3=>h2 aa,fun h3=>h2 (.inl (.inl h3)),h5⟩
  ·rintro⟨h1,h2,h5⟩;exact⟨aa,fun h3=>by rcases h3 with(h3|h3)|h3<;>first|exact h2 h3|omega,h5⟩
 rw[ahr];have hg:au.globals.size<=w.heap.size+2:=by have:=hF.size;omega
 have ZV:∀m0 T0,0<m0->Setup D (qp D ord old (Fa Fin o w) (w.heap.size+1) (w.heap.size+2) m0 T0) ord res old w.heap.size Ob w3:=fun m0 T0 hm =>
  Mf PX hm aa NP (fun b hb=>⟨by have:=cy b hb;omega,fun hx=>hx.2.1 hb⟩) (fun b hb=>⟨by have:=hb.1;omega,by have:=hb.1;omega⟩) aa aa (fun hx=>by have:=hx.1;omega) hoB hg (by simp[World.cell?,e3,Jr])
 refine BX.acS fun m0 T0 hm=>⟨qp D ord old (Fa Fin o w) (w.heap.size+1) (w.heap.size+2) m0 T0,Vd D ord res,yn D ord old res,
  fun o5 g5 w5=>∃tm wA,Fb link (qp D ord old (Fa Fin o w) (w.heap.size+1) (w.heap.size+2) m0 T0) wA ((base 74).at ⟨tm,[]⟩ (.inRegion #[{dst:=some 20,op:=.call {callee:=.value (.func 117),args:=#[.tmp 2],argTypes:=#[216]},type:=0,pos:= "build.go:82",after:=#[],guard:=none}] (0::[])::[])) (c::cs) o5 g5 w5,
  fun o5 g5 w5=>∃tm wA,Pv au (qp D ord old (Fa Fin o w) (w.heap.size+1) (w.heap.size+2) m0 T0) wA (G ((base 74).at ⟨tm,[]⟩ (.inRegion #[{dst:=some 20,op:=.call {callee:=.value (.func 117),args:=#[.tmp 2],argTypes:=#[216]},type:=0,pos:= "build.go:82",after:=#[],guard:=none}] []::[])) (c::cs)) o5 g5 w5,
  fun _=>False,rfl,rfl,(ZV m0 T0 hm).ok,SX,?_,rfl,?_,?_,fun _ hb=>hb.elim,?_,?_,?_,?_,?_⟩
 ·show D.n<2147483648;have:=h.gT;omega
 ·rintro o5 g5 w5 ⟨tm,wA,hA⟩;exact(LM Av (ZV m0 T0 hm).ok g5 w5 hA).mono fun _ _ _=>QZ.mono (fun o g w x=>⟨tm,wA,x⟩) (fun o g w x=>⟨_,wA,x⟩)
 ·have hS:=ZV m0 T0 hm;have hT:=hS.ok;show jb au _ _ _ _ D.n _ _ w3;generalize hTm:qp D ord old (Fa Fin o w) (w.heap.size+1) (w.heap.size+2) m0 T0=T at *;have hTn:T.n=D.n:=hS.n;have hTW:T.Wg=w.heap.size+1:=by rw[<- hTm];rfl
  have hTH:T.H0=w.heap.size+2:=by rw[<- hTm];rfl
  have hTy:T.ty=216:=hS.ty;have yo:WgLive T.ty T.Wg w3:=⟨0,0,by rw[hTy,hTW];show w3.heap[w.heap.size+1]?=_;rw[e3];exact pj⟩;obtain⟨Stop,Jt⟩:∃Stop:eQ,∀o5 g5 w5,di au T Stop o5 g5 w5↔jb au T (Vd D ord res) (yn D ord old res) (fun o5 g5 w5=>∃tm wA,Fb link T wA ((base 74).at ⟨tm,[]⟩ (.inRegion #[{dst:=some 20,op:=.call {callee:=.value (.func 117),args:=#[.tmp 2],argTypes:=#[216]},type:=0,pos:= "build.go:82",after:=#[],guard:=none}] (0::[])::[])) (c::cs) o5 g5 w5) D.n o5 g5 w5:=by
   cases D.n
   ·exact⟨_,fun _ _ _=>cZ⟩
   ·exact⟨_,fun _ _ _=>cZ⟩
  rw[<- Jt];have W4:=nJ (P:=au) (T:=T) (Stop:=Stop);refine W4.go rfl (fun _=>aD) ?_;refine W4.go rfl (fun _=>aD) ?_;refine W4.go rfl (fun _=>bf) ?_;refine dP ?_;have c0:∀w5,dL T (fun _=>False) w3 w5->w5.cell? ⟨w.heap.size,0,none⟩=some (.pointer (some ⟨D.bn,0,none⟩)):=fun w5 r5=>by rw[hS.qB.cellS r5];exact hS.box
  have c1:∀w5,dL T (fun _=>False) w3 w5->w5.cell? ⟨D.bn,0,none⟩=some (.pointer (some ⟨D.Lb,D.Lo,none⟩)):=fun w5 r5=>by rw[hS.dk.DL.cellS r5];exact hS.EZ.b0
  have c2:∀w5,dL T (fun _=>False) w3 w5->w5.cell? ⟨D.Lb,D.Lo+1,none⟩=some (.slice (some ⟨Ob,0,none⟩) D.n D.n):=fun w5 r5=>by rw[hS.dk.ZG.cellS r5];exact hS.order
  (refine still_at W4 c0 rfl ar rP (fun w9 hc=>⟨.refl _ _,fun e he=>?_⟩) fun w9 hc K hK=>?_;(focus (rw[b8];have he:=mem_listed he;simp[go_sem, *] at he;subst he;exact vg hS.qB));go_simp;refine hK _ ?_;clear hK K;clear hc w9;try walk_nrm)
  refine hJ ?_
  (refine still_at W4 c1 rfl ar rP (fun w9 hc=>⟨.refl _ _,fun e he=>?_⟩) fun w9 hc K hK=>?_;(focus (rw[b8];have he:=mem_listed he;simp[go_sem, *] at he;subst he;exact vg hS.dk.DL));go_simp;refine hK _ ?_;clear hK K;clear hc w9;try walk_nrm)
  refine hJ ?_
  (refine still_at W4 c2 rfl ar rP (fun w9 hc=>⟨.refl _ _,fun e he=>?_⟩) fun w9 hc K hK=>?_;(focus (rw[b8];have he:=mem_listed he;simp[go_sem, *] at he;subst he;exact vg hS.dk.ZG));go_simp;refine hK _ ?_;clear hK K;clear hc w9;try walk_nrm)
  refine hJ ?_;refine W4.go rfl (fun _=>ak) ?_;refine W4.go rfl (fun _=>fe) ?_;refine W4.go rfl (fun _=>jM) ?_;rw[Jt];refine Js hS fF (base 74) [] (c::cs) rfl rP (fun o5 w5 tm r5 l5 ho5 fE t2=>?_) D.n 0 hTn.symm _ w3 _ (dL.refl _) yo (fun _ hb=>hb.elim) (by rw[hTH,e3,uZ];exact ag _) rfl rfl (by rw[hTW];rfl) rfl rfl rfl;have W5:=nJ (P:=au) (T:=T) (Stop:=Q0 au T (fun o5 g5 w5=>∃tm wA,Fb link T wA ((base 74).at ⟨tm,[]⟩ (.inRegion #[{dst:=some 20,op:=.call {callee:=.value (.func 117),args:=#[.tmp 2],argTypes:=#[216]},type:=0,pos:= "build.go:82",after:=#[],guard:=none}] (0::[])::[])) (c::cs) o5 g5 w5));obtain⟨gs,rfl⟩:=kZ fE;simp only[List.range,List.range.loop,aA,aP] at *;simp only[List.getElem?_toArray,List.getElem?_cons_succ,List.getElem?_cons_zero,ay] at t2;simp only[t2];refine W5.go rfl (fun _=>bf) ?_;refine dP ?_;refine W5.go rfl (fun w1=>qi rfl ar rP rfl Av.f_wait (nm_wait link) rfl w1) ?_;rw[iN Av.f_wait rfl];simp only[List.map_toArray,aA,aP,Act.eval];walk_nrmf waitFn;have hA:=@LN _ link au T o5 w5;simp only[body_wait,waitFn,bq] at hA;exact(hA Av (fun b hb=>(ho5 b hb).1) w5 ⟨dL.refl w5,l5⟩).mono fun _ _ _=>Q0.mono fun o g w x=>⟨_,w5,x⟩
 ·show w.heap.size+2<=w3.heap.size;rw[e3,uZ];exact ag _
 ·show w3.heap[w.heap.size+1]?=_;rw[e3];exact pj
 ·exact fun k hk=>(PX.pv _ (h.qF k hk)).2.2.2
 ·exact fun k hk lP=>PX.idle _ (h.qF k hk)
 ·rintro o5 g5 w5 ⟨tm,wA,-,n5,hgo⟩ ac9 hrel fq Pb vC;have an5:w.heap.size+2<=w5.heap.size:=by have:=hrel.size;rw[e3,uZ] at this;exact this
  have hold:∀b,b<w.heap.size->b≠D.Rb->b≠D.Nb->(∀s,s<D.n->b≠D.ch s)->w5.heap[b]?=w.heap[b]?:=fun b h1 h2 h3 h4=>by
   rw[hrel.ro b (show b<w.heap.size+2 by omega) (show b≠w.heap.size+1 by omega) (fun e=>e.elim h2 h3) (fun k hk=>h4 _ (h.qF k hk)),e3,pA b h1]
  have cJ:∀s,s<D.n->∃oi:Nat->Prop,nN D s (old s) (dT D res s) (res s) oi w5/\∀b,oi b->w.heap.size+2<=b/\b<w5.heap.size:=fun s hs=>by
   obtain⟨i,hi,rfl⟩:=h.ZS s hs;obtain⟨-,oi,C,hv,ho⟩:=ac9 i hi;exact⟨_,hv.2,fun b hb=>ho b hb.1⟩
  have ZW:∃cs,w5.heap[D.Rb]?=some (.cells cs 222 (0,0))/\cs.size=D.n*4:=by
   obtain⟨cs,k1,k2⟩:=PX.R0;obtain⟨c1,k3,k4⟩:=Pb D.Rb cs _ _ (.inl rfl) k1;exact⟨c1,k3,aa⟩
  have hN5:∃cs,w5.heap[D.Nb]?=some (.cells cs 4 (0,0))/\cs.size=D.n:=by
   obtain⟨cs,k1,k2⟩:=PX.N0;obtain⟨c1,k3,k4⟩:=Pb D.Nb cs _ _ (.inr rfl) k1;exact⟨c1,k3,aa⟩
  have ada:∀s,s<D.n->∃c s' r tm,w5.heap[D.ch s]?=some (.chan 0 #[] c s' r tm):=fun s hs=>by
   obtain⟨i,hi,rfl⟩:=h.ZS s hs;exact vC i hi
  let o':aM:=fun b=>o b\/∃s,s<D.n/\w.heap.size+2<=b/\b<w5.heap.size/\(∀B,old s≠some (B,dT D res s))/\eY w5 b (dT D res s)/\wb D s w5 b (dT D res s) (res s);have SY:∀s,s<D.n->nN D s (old s) (dT D res s) (res s) (fun b=>o' b/\w.heap.size<=b) w5:=fun s hs=>by
   obtain⟨oi,hr,ho⟩:=cJ s hs;rcases hr with⟨B,k1,k2,k3⟩|⟨k1,A,k2,k3,k4,k5⟩
   ·exact .inl ⟨B,k1,k2,k3⟩
   ·have:=ho A k2;exact .inr ⟨k1,A,⟨.inr ⟨s,hs,this.1,this.2,k1,k3,k4⟩,aa⟩,k3,k4,k5⟩
  have ZX:SW D res old o w o' w5:={
   more:=fun b hb=>.inl hb
   new:=fun b hb=>hb.imp id fun⟨s,_,h1,_⟩=>aa
   same:=hold
   runs:=SY
   R0:=ZW
   N0:=hN5
   pv:=ada
   size:=aa
   os:=by rw[hrel.os,e3o.1,YT.1]
   output:=by rw[hrel.output,e3o.2,YT.2]}
  have adb:bM au L o' w5:=by
   have up:∀f,(mF au L o').has f->(mF au L o).has f:=fun f hf=>⟨hf.inj,fun r hr=>hf.at_ r (.inl hr),hf.fn,hf.kp⟩;refine⟨fun b hb=>?_,fun b hb=>.inl (hF.kp b hb),by have:=hF.size;omega⟩;rcases hb with hb|⟨s,hs,h1,h2,_,h3,_⟩
   ·by_cases hbR:b=D.Rb
    ·subst hbR;obtain⟨cs5,k1,k2⟩:=ZW;refine⟨_,k1,rfl,fun f hf=>sL fun j hj=>?_⟩;have hq:j/4<D.n:=aa;have hrw:∃B,wb D (j/4) w5 B (dT D res (j/4)) (res (j/4))/\o' B:=by
      rcases SY _ hq with⟨B,m1,m2,-⟩|⟨-,A,m1,-,m2,-⟩
      ·exact⟨B,m2,.inl (h.still B (.inr (.inr (.inr (.inr (.inr (.inr (.inr (.inr ⟨_,_,hq,m1⟩))))))))).1⟩
      ·exact⟨A,m2,m1.1⟩
     obtain⟨B,m1,m2⟩:=hrw;have fX:j=j/4*4\/j=j/4*4+1\/j=j/4*4+2\/j=j/4*4+3:=aa;have hBf:f.b B=B:=hf.at_ B m2;have key:∀v,w5.cell? ⟨D.Rb,j,none⟩=some v->val f v=v->val f cs5[j]=cs5[j]:=fun v hv=>uz hv k1 hj;rcases fX with e|e|e|e
     ·exact key _ (by rw[e];exact m1.c0) aj
     ·exact key _ (by rw[e];exact m1.c1) (by simp[val,addr,hBf])
     ·exact key _ (by rw[e];exact m1.c2) aj
     ·exact key _ (by rw[e];exact m1.c3) aj
    ·by_cases hbN:b=D.Nb
     ·subst hbN;obtain⟨cs5,k1,k2⟩:=hN5;refine⟨_,k1,rfl,fun f hf=>sL fun j hj=>?_⟩;have hq:j<D.n:=aa;rcases SY _ hq with⟨B,_,_,m2⟩|⟨_,A,_,_,_,m2⟩
      ·exact uz m2 k1 hj aj
      ·exact uz m2 k1 hj aj
     ·by_cases hbc:∃s,s<D.n/\b=D.ch s
      ·obtain⟨s,hs,rfl⟩:=hbc;obtain⟨c,s',r,tm,k1⟩:=ada s hs;exact⟨_,k1,rfl,fun f _=>by simp[obj]⟩
      ·rw[hold b (cy b hb) hbR hbN fun s hs e=>hbc ⟨s,hs,e⟩];obtain⟨x,k1,k2,k3⟩:=hF.shut b hb;exact⟨x,k1,k2,fun f hf=>k3 f (up f hf)⟩
   ·obtain⟨x,k1,k2,k3⟩:=PV h3 (fun j _ f=>vY _ j f);exact⟨x,k1,k2,fun f _=>k3 f⟩
  have hX:XB au Fin 0 o' (G ((base 74).at ⟨tm,[]⟩ (.inRegion #[{dst:=some 20,op:=.call {callee:=.value (.func 117),args:=#[.tmp 2],argTypes:=#[216]},type:=0,pos:= "build.go:82",after:=#[],guard:=none}] []::[])) (c::cs)) w5:=by
   refine W.go rfl (fun _=>ak) ?_;refine W.go rfl (fun _=>ef) ?_;refine W.go rfl (fun w6=>stepG_leave (b:=base 74) (v:=.tuple #[]) rfl rfl func74 (results_none ah _ _).1 (results_none ah _ _).2) ?_;exact hc _ o' w5 ⟨rfl,ZX,adb⟩
  have hX':AU au (IL Fin w2) 0 (fun b=>Fa Fin o w b\/b=w.heap.size+1) (G ((base 74).at ⟨tm,[]⟩ (.inRegion #[{dst:=some 20,op:=.call {callee:=.value (.func 117),args:=#[.tmp 2],argTypes:=#[216]},type:=0,pos:= "build.go:82",after:=#[],guard:=none}] []::[])) (c::cs)) w5:=fun w6 h6=>by
   have hX6:=hX (ZU.up aa) w6 h6;rw[Gt (w:=w2) ⟨by rw[hrel.os,e3o.1],by rw[hrel.output,e3o.2]⟩] at hX6;refine hX6.less (fun b hb=>?_) fun b hb hx=>?_
   ·rcases hb with hb|rfl
    ·exact⟨by have:=hb.1;omega,fun hx=>hx.elim hb.2.1 fun⟨s,_,h1,_⟩=>by have:=hb.1;omega,hb.2.2⟩
    ·exact⟨aa,fun hx=>hx.elim NP fun⟨s,_,h1,_⟩=>aa,fun hl=>by have:=ZU _ hl;omega⟩
   ·obtain⟨dd,rfl⟩:=h6;have h1:b<w5.heap.size:=hx.1;have h2:w5.heap.size<=b:=hb;omega
  exact(AU.jw hgo hX').bx
end
end
section
variable {Fin:bK} {o:aM} {w:ae}
theorem yp(w:ae)(a:Addr)(v:Value):(w.setCell a v).heap.size=w.heap.size:=by simp[World.setCell]
theorem Jv(ad:Addr):∀x∈(#[⟨.cell ad,false,true⟩,⟨.cell ad,true,true⟩]:Array Event),x.sync=true/\(∀g,x.loc≠.mark (.extern g))/\x.loc≠.mark .disable/\x.loc≠.mark .enable:=by
 intro x hx;simp at hx;rcases hx with rfl|rfl<;>simp
theorem yq(ad:Addr)(b:Bool):∀x∈(#[⟨.cell ad,b,true⟩]:Array Event),x.sync=true/\(∀g,x.loc≠.mark (.extern g))/\x.loc≠.mark .disable/\x.loc≠.mark .enable:=by
 intro x hx;simp at hx;subst hx;simp
theorem V5(K off:Nat)(X6:o K)(hc:w.cell? ⟨K,off,none⟩=some (.int .i32 0))(hz:w.frozen? ⟨K,off,none⟩=false):
  bz au (XB au Fin 0) 78 #[.pointer (some ⟨K,off,none⟩)] o w fun v o' w'=>v=.tuple #[]/\o'=o/\w'=w.setCell ⟨K,off,none⟩ (.int .i32 1):=by
 intro c cs K2;have W0:=bV (P:=au) (Fin:=Fin) (d:=0);have W1:=bV (P:=au) (Fin:=Fin) (d:=1);have rP:(base 78).kind≠.early:=by simp[base]
 rw[iN func78 rfl];walk_nrmf Tryz.f78;refine W0.go rfl (fun _=>aD) ?_;refine W0.go rfl (fun _=>bf) ?_;refine dP ?_;refine x8 .disable (.inl rfl) rfl ar rP rfl func120 ah ah ah ah rfl (d':=1) ar ?_;walk_nrm;refine W1.go rfl (fun _=>ak) ?_;refine W1.go rfl (fun _=>aD) ?_;refine W1.go rfl (fun _=>aD) ?_;refine W1.go rfl (fun _=>bf) ?_;refine dP ?_;refine hJ ?_;refine zq rfl ar rP rfl func121 ah ah ah (e:=Extern.Atomic.casT (.int .i32)) ah (v:=.bool true) (t:=fun w=>w.setCell ⟨K,off,none⟩ (.int .i32 1)) (evs:=#[⟨.cell ⟨K,off,none⟩,false,true⟩,⟨.cell ⟨K,off,none⟩,true,true⟩]) rfl (fun n=>rfl) (yp _ _ _) (fun n=>?_) (fun n=>?_) (Jv _) ?_
 ·simp only[List.map_toArray,aA,aP,Act.eval];walk_nrm;rw[casT_eq];exact run_cas_hit_entry hc hz
 ·simp only[List.map_toArray,aA,aP,Act.eval];walk_nrm;rw[casT_eq,events_cas_hit_entry (w:=w.at n) hc hz];rfl
 walk_nrm;refine W1.go rfl (fun _=>ak) ?_;refine W1.go rfl (fun _=>ew (t:=true) rfl) ?_;simp only[if_true];refine W1.go rfl (fun _=>aD) ?_;refine W1.go rfl (fun _=>ew (t:=true) rfl) ?_;simp only[if_true];refine W1.go rfl (fun _=>aD) ?_;refine W1.go rfl (fun _=>bf) ?_;refine dP ?_;refine x8 .enable (.inr rfl) rfl ar rP rfl func122 ah ah ah ah rfl (d':=0) ar ?_;walk_nrm;refine W0.go rfl (fun _=>ak) ?_;refine W0.go rfl (fun _=>bf) ?_;refine dP ?_;refine hJ ?_;have Vx:(w.setCell ⟨K,off,none⟩ (.int .i32 1)).cell? ⟨K,off,none⟩=some (.int .i32 1):=World.cell?_setCell_same _ _ _ hc;have hcv:=fun n=>run_convert_to_unsafe (P:=au) (w:=(w.setCell ⟨K,off,none⟩ (.int .i32 1)).at n) underlying225 underlying116 ah Vx;have hce:=fun n es=>events_convert_to_unsafe (P:=au) (w:=(w.setCell ⟨K,off,none⟩ (.int .i32 1)).at n) underlying225 underlying116 ah Vx es;refine x9 rfl ar rP (v:=.pointer (some ⟨K,off,none⟩)) rfl (fun n=>by simp[go_sem,hcv n]) (fun n x hx=>by simp[go_sem,hce n] at hx) ?_;walk_nrm;refine Cu .acquire (fun ad=>.inl ⟨ad,rfl⟩) rfl ar rP rfl func123 ah ah ah ah (ad:=⟨K,off,none⟩) aH rfl ?_;walk_nrm;refine W0.go rfl (fun _=>ak) ?_;refine W0.go rfl (fun _=>stepG_ret') ?_;refine W0.go rfl (fun w6=>stepG_leave (b:=base 78) (v:=.tuple #[]) rfl rfl func78 (results_none ah _ _).1 (results_none ah _ _).2) ?_;exact K2 _ o _ ⟨rfl,rfl,rfl⟩
theorem CO(K off:Nat)(X6:o K)(hc:w.cell? ⟨K,off,none⟩=some (.int .i32 0))(hz:w.frozen? ⟨K,off,none⟩=false):
  bz au (XB au Fin 0) 45 #[.pointer (some ⟨K,off,none⟩)] o w fun v o' w'=>v=.tuple #[]/\o'=o/\w'=w.setCell ⟨K,off,none⟩ (.int .i32 1):=by
 have W0:=bV (P:=au) (Fin:=Fin) (d:=0);refine bC W0 func45 rfl ?_;walk_nrmf Tryz.f45;refine ax ?_;refine dA W0 rfl ar rfl func78 ah rfl aH rfl ((V5 K off X6 hc hz).mono ?_);rintro v o' w' ⟨rfl,rfl,rfl⟩;refine ax ?_;exact⟨.inl trivial,trivial,.tuple #[],fun w1=>results_none ah _ _,aj⟩
theorem PY(K off:Nat)(X6:o K)(hc:w.cell? ⟨K,off,none⟩=some (.int .i32 1))(hz:w.frozen? ⟨K,off,none⟩=false):
  bz au (XB au Fin 0) 79 #[.pointer (some ⟨K,off,none⟩)] o w fun v o' w'=>v=.tuple #[]/\o'=o/\w'=w.setCell ⟨K,off,none⟩ (.int .i32 0):=by
 intro c cs K2;have W0:=bV (P:=au) (Fin:=Fin) (d:=0);have W1:=bV (P:=au) (Fin:=Fin) (d:=1);have rP:(base 79).kind≠.early:=by simp[base]
 rw[iN func79 rfl];walk_nrmf Tryz.f79;have hcv:=fun n=>run_convert_to_unsafe (P:=au) (w:=w.at n) underlying225 underlying116 ah hc;have hce:=fun n es=>events_convert_to_unsafe (P:=au) (w:=w.at n) underlying225 underlying116 ah hc es;have vL:∀n,(w.at n).cell? ⟨K,off,none⟩=some (.int .i32 1):=fun n=>hc;refine W0.go rfl (fun _=>aD) ?_;refine W0.go rfl (fun _=>ew (t:=true) rfl) ?_;simp only[if_true];refine W0.go rfl (fun _=>aD) ?_;refine W0.go rfl (fun _=>bf) ?_;refine dP ?_;refine hJ ?_;refine x9 rfl ar rP (v:=.int .i32 1) rfl (fun n=>by simp[go_sem,vL n]) (fun n x hx=>by simp[go_sem,vL n] at hx;subst hx;exact⟨Bh X6,aj,aj⟩) ?_;walk_nrm;refine W0.go rfl (fun _=>ak) ?_;refine W0.go rfl (fun _=>aD) ?_;refine W0.go rfl (fun _=>bf) ?_;refine dP ?_;refine hJ ?_;refine x9 rfl ar rP (v:=.pointer (some ⟨K,off,none⟩)) rfl (fun n=>by simp[go_sem,hcv n]) (fun n x hx=>by simp[go_sem,hce n] at hx) ?_;walk_nrm;refine Cu .releaseMerge (fun ad=>.inr ⟨ad,rfl⟩) rfl ar rP rfl func125 ah ah ah ah (ad:=⟨K,off,none⟩) aH rfl ?_;walk_nrm;refine W0.go rfl (fun _=>ak) ?_;refine W0.go rfl (fun _=>bf) ?_;refine dP ?_;refine x8 .disable (.inl rfl) rfl ar rP rfl func120 ah ah ah ah rfl (d':=1) ar ?_;walk_nrm;refine W1.go rfl (fun _=>ak) ?_;refine W1.go rfl (fun _=>aD) ?_;refine W1.go rfl (fun _=>bf) ?_;refine dP ?_;refine hJ ?_;refine zq rfl ar rP rfl func126 ah ah ah (e:=Extern.Atomic.update (Op.intArith .add) .i32 true) ah (v:=.int .i32 0) (t:=fun w=>w.setCell ⟨K,off,none⟩ (.int .i32 0)) (evs:=#[⟨.cell ⟨K,off,none⟩,false,true⟩,⟨.cell ⟨K,off,none⟩,true,true⟩]) rfl (fun n=>rfl) (yp _ _ _) (fun n=>?_) (fun n=>?_) (Jv _) ?_
 ·simp only[List.map_toArray,aA,aP,Act.eval];walk_nrm;exact run_add_entry (v:=1) (d:=-1) hc hz
 ·simp only[List.map_toArray,aA,aP,Act.eval];walk_nrm;rw[events_add_entry (w:=w.at n) (v:=1) (d:=-1) hc hz];rfl
 walk_nrm;refine hJ ?_;refine W1.go rfl (fun _=>ak) ?_;refine W1.go rfl (fun _=>aD) ?_;refine W1.go rfl (fun _=>aD) ?_;refine W1.go rfl (fun _=>bf) ?_;refine dP ?_;refine hJ ?_;refine W1.go rfl (fun _=>ak) ?_;refine W1.go rfl (fun _=>ew (t:=false) aH) ?_;simp only[aL,if_false];refine W1.go rfl (fun _=>cx) ?_;refine W1.go rfl (fun _=>bf) ?_;refine dP ?_;refine x8 .enable (.inr rfl) rfl ar rP rfl func122 ah ah ah ah rfl (d':=0) ar ?_;walk_nrm;refine W0.go rfl (fun _=>ak) ?_;refine W0.go rfl (fun _=>ef) ?_;refine W0.go rfl (fun w6=>stepG_leave (b:=base 79) (v:=.tuple #[]) rfl rfl func79 (results_none ah _ _).1 (results_none ah _ _).2) ?_;exact K2 _ o _ ⟨rfl,rfl,rfl⟩
theorem Jw(K off:Nat)(X6:o K)(hc:w.cell? ⟨K,off,none⟩=some (.int .i32 1))(hz:w.frozen? ⟨K,off,none⟩=false)(b:Frame)(tm:Array Value)(ds:List Deferred)(todo:List Item)(cs:List Frame)(h:XB au Fin 0 o (G {b.at ⟨tm,ds⟩ todo with mode:=.returning} cs) (w.setCell ⟨K,off,none⟩ (.int .i32 0))):
  XB au Fin 0 o (G {b.at ⟨tm,{target:=.fn (.func 46) #[],args:=#[.pointer (some ⟨K,off,none⟩)]}::ds⟩ todo with mode:=.returning} cs) w:=by
 have W0:=bV (P:=au) (Fin:=Fin) (d:=0);have rP:(baseD 46).kind≠.early:=by simp[baseD]
 refine W0.go rfl (fun w1=>stepG_unwind_enter rfl func46 ah rfl) ?_;walk_nrmf Tryz.f46;refine W0.go rfl (fun _=>bf) ?_;refine dP ?_;refine hJ ?_;refine W0.go rfl (fun w1=>qi rfl ar rP rfl func79 ah rfl w1) ?_;simp only[List.map_toArray,aA,aP,Act.eval];walk_nrm;refine PY K off X6 hc hz _ _ ?_;rintro v o' w' ⟨rfl,rfl,rfl⟩;rw[ee];simp only[List.getElem?_toArray,List.getElem?_cons_succ,List.getElem?_cons_zero,Option.bind_some];walk_nrm;refine W0.go rfl (fun _=>ak) ?_;refine W0.go rfl (fun _=>ef) ?_;exact W0.go rfl (fun w1=>stepG_leave_deferred rfl rfl func46 (results_none ah _ _).1 (results_none ah _ _).2 rfl) h
end
def L0(n:Nat):Bool:=[15,17,18,19,20,22,26,27,29,31,33,35,39,40,41,43,47,48,50,51,52,53,56,59,60,62,66,67,68,69,70,71,72,75,76,77,80,82,83,84,85,86,87,88,89,90,91,92,93,94,95,96,97,98,100,102,103,104,105,106,107,108,109,118,119,128,129,130,131,132,133,134,135,136,137,138,139,140,141,145,146,147,148,149,150,162,163,168,176,177,178,179,180,181,185,186,187,188,189,190,191,196,197,198,199,202,204,205,206,207,208,209,210,211,212,213,214,215,216,217,218,219,220,221,222,223,224,225,226,227,228,229,230,231,232,233,234,235,236,237,238,239,240,241,242,243,244,245,246,247,248,249,250,251,252,253,254,255,256,257,258,259,260,261,262,263].contains n
theorem SZ:([15,17,18,19,20,22,26,27,29,31,33,35,39,40,41,43,47,48,50,51,52,53,56,59,60,62,66,67,68,69,70,71,72,75,76,77,80,82,83,84,85,86,87,88,89,90,91,92,93,94,95,96,97,98,100,102,103,104,105,106,107,108,109,118,119,128,129,130,131,132,133,134,135,136,137,138,139,140,141,145,146,147,148,149,150,162,163,168,176,177,178,179,180,181,185,186,187,188,189,190,191,196,197,198,199,202,204,205,206,207,208,209,210,211,212,213,214,215,216,217,218,219,220,221,222,223,224,225,226,227,228,229,230,231,232,233,234,235,236,237,238,239,240,241,242,243,244,245,246,247,248,249,250,251,252,253,254,255,256,257,258,259,260,261,262,263]:List Nat).all (VI au L0 4 [224,262,263])=true:=ah
theorem V6(n:Nat)(hn:L0 n=true)(f:Rn)(hf:nE au f)(hh:∀n,L0 n=true->f.h n=n)(args:Array Value):Rel au f (jh L0 f) (callFunc n args) (callFunc n (args.map (val f))):=by
 obtain⟨fn,h1,-,h2⟩:=Bn SZ (List.contains_iff_mem.1 (by unfold L0 at hn;exact hn));rcases h2 with⟨h2,h3⟩|h2;rotate_left;simp only[bJ,dh,or_false] at h2;rcases h2 with rfl|rfl|rfl
 rotate_right
 ·exact EX h1 h2 h3 hn args
 ·exact oy func224 rfl ah ah rfl (hh _ ah) args (Ik _)
 ·exact oy func262 rfl ah ah rfl (hh _ ah) args (xO _)
 ·exact oy func263 rfl ah ah rfl (hh _ ah) args (tY hf _ _ _)
theorem ZY(hz:∀t i z,au.info? t=some i->i.zero=some z->∀f:Rn,val f z=z):rL au L0 4 where
 zero:=hz
 call:=fun n hn=>V6 n hn
 body:=fun n hn=>by
  obtain⟨fn,h1,h2,-⟩:=Bn SZ (List.contains_iff_mem.1 (by unfold L0 at hn;exact hn));exact⟨fn,h1,fun c hc=>by rw[hc] at h2;exact h2⟩
theorem S0:au.globals.size=4:=ah
theorem bQ:rL au L0 au.globals.size:=by rw[S0];exact ZY Fh
structure aI where
 out:af
 eR:Int
 sa:Option Addr
 sl:Nat
 sc:Nat
def aI.cells(r:aI):List Value:=[.string r.out,.int .i64 r.eR,Value.slice r.sa r.sl r.sc]
def aI.agg(r:aI):Value:=.agg #[.string r.out,.int .i64 r.eR,Value.slice r.sa r.sl r.sc]
def eU(w:ae)(b:Nat)(rs:List aI):Prop:=∀i (h:i<rs.length),w.cell? ⟨b,i*3,none⟩=some (.string rs[i].out)/\w.cell? ⟨b,i*3+1,none⟩=some (.int .i64 rs[i].eR)/\w.cell? ⟨b,i*3+2,none⟩=some (.slice rs[i].sa rs[i].sl rs[i].sc)
section
variable {Fin:bK} {o:aM} {w:ae}
theorem CP:(au.info? 42).map (fun i=>(i.zero,i.size,i.bytes))=some (some (.agg #[.string aO,.int .i64 0,.slice none 0 0]),3,48):=ah
theorem grow_grow{o:aM}{w w1 w3 w4:ae}(h1:w.heap.size<=w1.heap.size)(h2:w3.heap.size=w1.heap.size)(h3:w3.heap.size<=w4.heap.size):grow (grow o w w1) w3 w4=grow o w w4:=by
 funext b;simp only[grow,eq_iff_iff];constructor
 ·rintro((h|h)|h)
  ·exact .inl h
  ·exact .inr aa
  ·exact .inr aa
 ·rintro(h|h)
  ·exact .inl (.inl h)
  ·by_cases hb:b<w1.heap.size
   ·exact .inl (.inr aa)
   ·exact .inr aa
theorem dD{w w':ae}{lo:Nat}{e:TypeId}{sz:Nat}{v:Value}{n:Nat}{xs:List Value}(h:w.ownsRow lo e sz v n xs)(hh:∀g,some g=v.ownBlock->lo<=g->w'.heap[g]?=w.heap[g]?):w'.ownsRow lo e sz v n xs:=by
 obtain⟨h1,h2⟩:=h;refine⟨h1,h2.imp id ?_⟩;rintro⟨g,cap,cur,rfl,k1,k2,k3⟩;exact⟨g,cap,cur,rfl,k1,by rw[hh g rfl k1];exact k2,k3⟩
theorem jA{P:Program}{o:Oper}{a:Act}{w w':ae}{v xv v':Value}(s x:Operand)(t:TypeId)(ho:o.op=.call {callee:=.builtin .append,args:=#[s,x],argTypes:=#[t,t]})(hs:a.eval s=v)(hx:a.eval x=xv)(hr:(Builtin.append_ #[t,t] o.type #[v,xv]).run P w=.ok v' w'):(execOp a.eval o).run P w=.ok (.value v') w':=by
 unfold execOp;simp only[ho,resolve,invoke,builtin,Sem.run_bind,Sem.run_pure,Result.andThen_ok,List.map_toArray,aA,aP,hs,hx,hr]
structure Round(w w':ae)(Bx l lo i:Nat)(v v':Value)(xs:List Value)(r:aI)(lr:Loop):Prop where
 size:w.heap.size<=w'.heap.size
 old:∀b,b<w.heap.size->b≠Bx->b≠l->some b≠v.ownBlock->w'.heap[b]?=w.heap[b]?
 box:w'.heap[Bx]?=some (.cells #[v'] 35 (0,0))
 V7:w'.heap[l]?=some (.loop {lr with state:=.ready,pending:=none})
 row:w'.ownsRow lo 42 3 v' (i+1) (xs++r.cells)
theorem V8(hF:bM au L0 o w)(Bx l lo i:Nat)(v:Value)(xs:List Value)(r:aI)(lr:Loop)(hi:i<8)(hBx:o Bx)(hl:o l)(dH:Bx≠l)(hb:w.heap[Bx]?=some (.cells #[v] 35 (0,0)))(SM:w.heap[l]?=some (.loop lr))(eG:lr.state=.ready)(vF:lo<=w.heap.size)(hBb:Bx<lo)(hlb:l<lo)(fq:∀b,lo<=b->b<w.heap.size->o b)(cj:w.ownsRow lo 42 3 v i xs)(fu:Cl au L0 o (.slice r.sa r.sl r.sc)){r0 r1 tl Pw bd:Code}{x:Operand}{ps:Array Tmp}(fF:Tryz.f203.body=some (.seq r0 (.seq (.seq r1 (.block 0 (.rangeFunc x ps Pw bd))) tl)))(tm:Array Value)(fE:tm.size=13)(t2:tm[2]?=some (.pointer (some ⟨Bx,0,none⟩)))(t7:tm[7]?=some r.agg)(c:Frame)(cs:List Frame)(h:∀v' w',Round w w' Bx l lo i v v' xs r lr->bM au L0 (grow o w w') w'->XB au Fin 0 (grow o w w') (G (c.finish (.bool true)) cs) w'):
  XB au Fin 0 o (G (Frame.round l 203 tm Pw bd .normal) (c::cs)) w:=by
 have V3:=fF;simp only[Tryz.f203,ay,Code.seq.injEq,Code.block.injEq,Code.rangeFunc.injEq,true_and] at V3;obtain⟨-,⟨-,-,-,rfl,rfl⟩,-⟩:=V3;have W:=bV (P:=au) (Fin:=Fin) (d:=0);obtain⟨gs,rfl⟩:=kZ fE;simp only[List.range,List.range.loop,aA,aP] at *;simp only[List.getElem?_toArray,List.getElem?_cons_succ,List.getElem?_cons_zero,ay] at t2 t7;simp only[t2,t7];rw[round_eq];have vc:∀{x:Op},(∀c,x≠.defer c)->∀c,x≠.defer c:=fun h=>h;refine W.go rfl (fun _=>ya) ?_;refine dP ?_;refine Bi bQ hF rfl (fun w1 v w' hr=>oG rfl ar aj hr rfl) ar mW (R:=fun wl v aV=>v=.pointer (some ⟨wl.heap.size,0,none⟩)/\aV=wl.alloc (Obj.cells #[.string aO,.int .i64 0,.slice none 0 0] 42)) (fun wl aT=>⟨_,_,by simp[go_sem];rfl,rfl,rfl⟩) fun wl v1 aV w1 aT hR bN=>?_;obtain⟨rfl,hR⟩:=hR;obtain⟨z1,k1,k2⟩:=bN.alloc hF aT hR;have lv:=bN.aF;rw[aT.size];clear hR bN aT wl aV;walk_nrm;have PZ:grow o w w1 w.heap.size:=.inr ⟨ag _,aa⟩;have V9:Cl au L0 (grow o w w1) r.agg:=fS (vs:=[.string r.out,.int .i64 r.eR,Value.slice r.sa r.sl r.sc]) (by
  intro y hy;simp at hy;rcases hy with rfl|rfl|rfl
  ·exact bS
  ·exact dS
  ·exact fu.up jk)
 have cy:∀b,o b->b<w.heap.size:=fun b hb=>hF.lt hb;have adf:=cy Bx hBx;have ahu:=cy l hl;refine Cw bQ lv rfl (fun w1 w' hr=>Cy rfl ar aj hr rfl) ar ?_ (R:=fun wl aV=>aV=((wl.setCell ⟨w.heap.size,0,none⟩ (.string r.out)).setCell ⟨w.heap.size,1,none⟩ (.int .i64 r.eR)).setCell ⟨w.heap.size,2,none⟩ (Value.slice r.sa r.sl r.sc)) (fun wl aT=>?_) fun wl aV w2 aT hR bN=>?_
 ·intro y hy;simp[Op.operands] at hy;rcases hy with rfl|rfl
  ·exact bU PZ
  ·simp[Act.eval];exact V9
 ·have hx:wl.heap[w.heap.size]?=some (Obj.cells #[.string aO,.int .i64 0,.slice none 0 0] 42):=(aT.heap _ PZ).trans k2;refine⟨_,?_,rfl⟩;have c0:wl.cell? ⟨w.heap.size,0,none⟩=some (.string aO):=by simp[World.cell?,hx]
  have c1:wl.cell? ⟨w.heap.size,1,none⟩=some (.int .i64 0):=by simp[World.cell?,hx]
  have c2:wl.cell? ⟨w.heap.size,2,none⟩=some (.slice none 0 0):=by simp[World.cell?,hx]
  have f:∀j,wl.frozen? ⟨w.heap.size,j,none⟩=false:=fun j=>by simp[World.frozen?,hx]
  simp[go_sem,aI.agg,c0,c1,c2,f]
 obtain⟨z2,m1,m2,e2⟩:=bN.store aT PZ (by rw[hR];simp[World.setCell]) (fun b hb=>by rw[hR,RowKit.Below.heap_setCell _ _ _ b hb,RowKit.Below.heap_setCell _ _ _ b hb,RowKit.Below.heap_setCell _ _ _ b hb]);have m2':w2.heap[w.heap.size]?=some (Obj.cells #[.string r.out,.int .i64 r.eR,Value.slice r.sa r.sl r.sc] 42):=by
  have hx:wl.heap[w.heap.size]?=some (Obj.cells #[.string aO,.int .i64 0,.slice none 0 0] 42):=(aT.heap _ PZ).trans k2;rw[m2,hR];simp[World.setCell,aR,hx]
 have rO:=bN.aF;rw[e2] at rO |-;clear hR bN aT wl aV m2;walk_nrm;refine W.go rfl (fun _=>rW) ?_;have NQ:w2.heap[l]?=some (.loop lr):=by rw[m1 l aa,k1 l ahu];exact SM
 have pA:w2.heap[Bx]?=some (.cells #[v] 35 (0,0)):=by rw[m1 Bx aa,k1 Bx adf];exact hb
 refine rX (t:=fun w=>dC w l {lr with state:=.busy}) (l:=l) rfl (fun n=>IW (w:=w2.at n) NQ eG) (by simp[dC]) ?_;have px:bM au L0 (grow o w w1) (dC w2 l {lr with state:=.busy}):=pK rO rfl (fun f=>by simp[obj]) (.inl hl);have adg:(dC w2 l {lr with state:=.busy}).heap[l]?=some (.loop {lr with state:=.busy}):=by
  simp only[dC];rw[b7 aa]
 have m3:∀b,b≠l->(dC w2 l {lr with state:=.busy}).heap[b]?=w2.heap[b]?:=fun b hb=>by simp only[dC];rw[aS (bp hb)]
 have z3:(dC w2 l {lr with state:=.busy}).heap.size=w2.heap.size:=by simp[dC]
 generalize dC w2 l {lr with state:=.busy}=w3 at *;refine W.go rfl (fun _=>IV) ?_;refine W.go rfl (fun _=>ya) ?_;refine dP ?_;have hoB:grow o w w1 Bx:=.inl hBx;have xn:w3.heap[Bx]?=some (.cells #[v] 35 (0,0)):=(m3 Bx dH).trans pA;have Eg:w3.heap[w.heap.size]?=some (Obj.cells #[.string r.out,.int .i64 r.eR,.slice r.sa r.sl r.sc] 42):=(m3 _ aa).trans m2';refine zu bQ px rfl (fun w1 v w' hr=>oG rfl ar aj hr rfl) ar (v:=v) ?_ (fun wl aT=>?_) fun Wa=>?_
 ·intro y hy;simp[Op.operands] at hy;subst hy;exact bU hoB
 ·have hx:=(aT.heap _ hoB).trans xn;have c0:wl.cell? ⟨Bx,0,none⟩=some v:=by simp[World.cell?,hx]
  simp[go_sem,c0]
 walk_nrm;refine zu bQ px rfl (fun w1 v w' hr=>oG rfl ar aj hr rfl) ar (v:=r.agg) ?_ (fun wl aT=>?_) fun _=>?_
 ·intro y hy;simp[Op.operands] at hy;subst hy;exact bU PZ
 ·have hx:=(aT.heap _ PZ).trans Eg;have c0:wl.cell? ⟨w.heap.size,0,none⟩=some (.string r.out):=by simp[World.cell?,hx]
  have c1:wl.cell? ⟨w.heap.size,1,none⟩=some (.int .i64 r.eR):=by simp[World.cell?,hx]
  have c2:wl.cell? ⟨w.heap.size,2,none⟩=some (.slice r.sa r.sl r.sc):=by simp[World.cell?,hx]
  simp[go_sem,c0,c1,c2,aI.agg]
 walk_nrm;have an9:bM au L0 (grow o w w1) w3:=px;refine Bi bQ px rfl (fun w1 v w' hr=>oG rfl ar aj hr rfl) ar ?_ (R:=fun wl v aV=>v=.slice (some ⟨wl.heap.size,0,none⟩) 1 1/\aV=wl.alloc (Obj.cells #[.string r.out,.int .i64 r.eR,.slice r.sa r.sl r.sc] 42)) (fun wl aT=>⟨_,_,?_,rfl,rfl⟩) fun wl v1 aV w4 aT hR bN=>?_
 ·intro y hy;simp[Op.operands] at hy;subst hy;simp[Act.eval];exact V9
 ·simp[go_sem,aI.agg]
 obtain⟨rfl,hR⟩:=hR;obtain⟨z4,n1,n2⟩:=bN.alloc px aT hR;have tj:=bN.aF;rw[aT.size];clear hR bN aT wl aV;walk_nrm;have g4:grow (grow o w w1) w3 w4=grow o w w4:=grow_grow aa aa aa;rw[g4] at tj |-;have hw4:w.heap.size<=w4.heap.size:=aa;have Ta:∀b,b<w.heap.size->b≠l->w4.heap[b]?=w.heap[b]?:=fun b hb UN=>by rw[n1 b aa,m3 b UN,m1 b aa,k1 b hb]
 have NJ:w4.ownsRow lo 42 3 v i xs:=dD cj fun g hg Tb=>by
  obtain⟨hlen,fX⟩:=cj;rcases fX with⟨rfl,_⟩|⟨g',cap,cur,rfl,h1,h2,_⟩
  ·cases hg
  ·cases hg;exact Ta _ (Array.getElem?_eq_some_iff.1 h2).1 aa
 have adh:Cl au L0 (grow o w w4) v:=by rw[<- g4];exact Wa.up jk
 have hoN:grow o w w4 w3.heap.size:=.inr ⟨aa,aa⟩;have adi:∀g,some g=v.ownBlock->grow o w w4 g:=fun g hg=>by
  obtain⟨hlen,fX⟩:=cj;rcases fX with⟨rfl,_⟩|⟨g',cap,cur,rfl,h1,h2,_⟩
  ·cases hg
  ·cases hg;exact .inl (fq _ h1 (Array.getElem?_eq_some_iff.1 h2).1)
 obtain⟨ie,hie,Wc⟩:=Option.map_eq_some_iff.1 CP;simp only[bt] at Wc;refine Bi bQ tj rfl (fun w1 v w' hr=>oG rfl ar aj hr rfl) ar ?_ (R:=fun wl v' aV=>aV.ownsRow lo 42 3 v' (i+1) (xs++r.cells)/\wl.grownBy aV v.ownBlock) (fun wl aT=>?_) fun wl v5 aV w5 aT hR bN=>?_
 ·intro y hy;simp[Op.operands,Call.operands] at hy;rcases hy with rfl|rfl
  ·simp[Act.eval];exact adh
  ·simp[Act.eval];exact dY hoN
 ·have hx:=(aT.heap _ hoN).trans n2;have X7:wl.ownsRow lo 42 3 v i xs:=dD NJ fun g hg _=>aT.heap g (adi g hg);have Jx:∀j u,r.cells[j]?=some u->wl.cell? ((⟨w3.heap.size,0,none⟩:Addr).add j)=some u:=fun j u hu=>by
   rcases(show j=0\/j=1\/j=2\/3<=j by omega) with rfl|rfl|rfl|hj
   ·simp[aI.cells] at hu;subst hu;simp[Addr.add,World.cell?,hx]
   ·simp[aI.cells] at hu;subst hu;simp[Addr.add,World.cell?,hx]
   ·simp[aI.cells] at hu;subst hu;simp[Addr.add,World.cell?,hx]
   ·rw[List.getElem?_eq_none (by simp[aI.cells];omega)] at hu;cases hu
  have adj:∀u∈r.cells,u.oneCell'=true:=by
   intro u hu;simp[aI.cells] at hu;rcases hu with rfl|rfl|rfl<;>rfl
  obtain⟨v',aV,e1,e2,e3,_⟩:=run_append_own wl lo 35 35 42 ie _ 3 48 underlying35 hie Wc.1 Wc.2.1 Wc.2.2 rfl aa v i xs X7 ⟨w3.heap.size,0,none⟩ 1 1 r.cells rfl Jx adj (by simp[maxLen];omega) aa (by rw[aT.size];omega);exact⟨v',aV,jA (.tmp 8) (.tmp 10) 35 rfl aH aH e1,e2,e3⟩
 have g5:grow (grow o w w4) w4 w5=grow o w w5:=grow_grow hw4 rfl bN.jj;have Fo:=bN.aF;have hs5:=bN.same;have PM:=bN.rest;have z5:=bN.jj;rw[g5] at Fo hs5 |-;obtain⟨yl,D9⟩:=hR;have adl:∀b,b<w.heap.size->b≠l->some b≠v.ownBlock->w5.heap[b]?=w.heap[b]?:=fun b hb UN UO=>by
  rw[<- Ta b hb UN];by_cases ho:grow o w w4 b
  ·rw[hs5 b (ho.imp id fun h=>⟨h.1,aa⟩),D9.block b (by rw[aT.size];omega) UO,aT.heap b ho]
  ·exact PM b aa ho
 have hvl:∀g,some g=v.ownBlock->lo<=g:=fun g hg=>by
  obtain⟨hlen,fX⟩:=cj;rcases fX with⟨rfl,_⟩|⟨g',cap,cur,rfl,h1,h2,_⟩
  ·cases hg
  ·cases hg;exact h1
 have Tc:w5.ownsRow lo 42 3 v5 (i+1) (xs++r.cells):=dD yl fun g hg Tb=>hs5 g (by
  obtain⟨hlen,fX⟩:=yl;rcases fX with⟨rfl,_⟩|⟨g',cap,cur,rfl,h1,h2,_⟩
  ·cases hg
  ·have e:g=g':=aQ hg;subst e;have h3:=(Array.getElem?_eq_some_iff.1 h2).1;have hz:=bN.size;by_cases hgw:g<w.heap.size
   ·exact .inl (fq _ h1 hgw)
   ·exact .inr ⟨aa,aa⟩)
 have ahw:w5.heap[l]?=w3.heap[l]?:=by
  rw[hs5 l (.inl hl),D9.block l (by rw[aT.size];omega) (fun e=>by have:=hvl l e;omega),aT.heap l (.inl hl),n1 l aa]
 have ahx:Cl au L0 (grow o w w5) v5:=by have:=bN.val;rw[g5] at this;exact this
 have hb5:w5.heap[Bx]?=some (.cells #[v] 35 (0,0)):=by rw[adl Bx adf dH (fun e=>by have:=hvl Bx e;omega)];exact hb
 clear D9 yl aT bN wl aV hs5 PM g5 g4;walk_nrm;have Wd:grow o w w5 Bx:=.inl hBx;refine Cw bQ Fo rfl (fun w1 w' hr=>Cy rfl ar aj hr rfl) ar ?_ (R:=fun wl aV=>aV=wl.setCell ⟨Bx,0,none⟩ v5) (fun wl aT=>⟨_,?_,rfl⟩) fun wl aV w6 aT hR bN=>?_
 ·intro y hy;simp[Op.operands] at hy;rcases hy with rfl|rfl
  ·exact bU Wd
  ·simp[Act.eval];exact ahx
 ·have hx:=(aT.heap _ Wd).trans hb5;have c0:wl.cell? ⟨Bx,0,none⟩=some v:=by simp[World.cell?,hx]
  have f:∀j,wl.frozen? ⟨Bx,j,none⟩=false:=fun j=>by simp[World.frozen?,hx]
  obtain⟨hlen,fX⟩:=Tc;rcases fX with⟨rfl,_⟩|⟨g',cap,cur,rfl,h1,h2,_⟩
  ·simp[go_sem,c0,f]
  ·simp[go_sem,c0,f]
 obtain⟨z6,q1,q2,e6⟩:=bN.store aT Wd (by rw[hR];simp[World.setCell]) (fun b hb=>by rw[hR,RowKit.Below.heap_setCell _ _ _ b hb]);have q2':w6.heap[Bx]?=some (Obj.cells #[v5] 35):=by
  have hx:=(aT.heap _ Wd).trans hb5;rw[q2,hR];simp[World.setCell,aR,hx]
 have Eh:=bN.aF;rw[e6] at Eh |-;clear hR bN aT wl aV q2;walk_nrm;refine W.go rfl (fun _=>rW) ?_;refine W.go rfl (fun _=>Eb) ?_;have adn:w6.heap[l]?=some (.loop {lr with state:=.busy}):=by rw[q1 l (bp dH),ahw];exact adg
 refine rX (t:=fun w=>dC w l {{lr with state:=.busy} with state:=.ready,pending:=none}) (l:=l) rfl (fun n=>Px (w:=w6.at n) adn) (by simp[dC]) ?_;have hF7:bM au L0 (grow o w w5) (dC w6 l {{lr with state:=.busy} with state:=.ready,pending:=none}):=pK Eh rfl (fun f=>by simp[obj]) (.inl hl);have g7:grow o w w5=grow o w (dC w6 l {{lr with state:=.busy} with state:=.ready,pending:=none}):=by
  have:(dC w6 l {{lr with state:=.busy} with state:=.ready,pending:=none}).heap.size=w5.heap.size:=by simp[dC];omega
  unfold grow;rw[this]
 rw[g7] at hF7 |-;have q3:∀b,b≠l->(dC w6 l {{lr with state:=.busy} with state:=.ready,pending:=none}).heap[b]?=w6.heap[b]?:=fun b hb=>by simp only[dC];rw[aS (bp hb)]
 refine h v5 _ ⟨?_,fun b h1 h2 h3 h4=>?_,?_,?_,?_⟩ hF7
 ·simp[dC];omega
 ·rw[q3 b h3,q1 b h2,adl b h1 h3 h4]
 ·rw[q3 Bx dH];exact q2'
 ·simp only[dC];rw[b7 aa]
 ·refine dD Tc fun g hg Tb=>?_;rw[q3 g aa,q1 g aa]
structure Td(o0:aM)(w0:ae)(Bx l rd lo:Nat)(lr:Loop)(rs:List aI)(i:Nat)(o:aM)(w:ae)(v:Value):Prop where
 own:o=grow o0 w0 w
 aF:bM au L0 o w
 size:lo<=w.heap.size
 le:w0.heap.size<=w.heap.size
 old:∀b,b<lo->b≠Bx->b≠l->w.heap[b]?=w0.heap[b]?
 box:w.heap[Bx]?=some (.cells #[v] 35 (0,0))
 V7:w.heap[l]?=some (.loop {lr with state:=.ready,pending:=none})
 row:w.ownsRow lo 42 3 v i ((rs.take i).flatMap aI.cells)
theorem Jy(o0:aM)(w0:ae)(Bx l rd lo Ru c:Nat)(lr:Loop)(rs:List aI)(hn:rs.length<=8)(hBx:Bx<lo)(hl:l<lo)(dH:Bx≠l)(hBl:w0.heap.size<=lo)(hBo:o0 Bx)(vF:o0 l)(aof:lo=w0.heap.size)(yT:o0 Ru)(ado:Ru≠Bx/\Ru≠l)(Cn:eU w0 Ru rs)(fu:∀r∈rs,Cl au L0 o0 (.slice r.sa r.sl r.sc))(p:Option Addr)(hp:rs≠[]->p=some ⟨Ru,0,none⟩)(lf:lr.fn=203)(lp:lr.params=#[7])(lt:lr.tmps.size=13)(ZZ:lr.tmps[2]?=some (.pointer (some ⟨Bx,0,none⟩))){r0 r1 tl:Code}{x:Operand}{ps:Array Tmp}(fF:Tryz.f203.body=some (.seq r0 (.seq (.seq r1 (.block 0 (.rangeFunc x ps lr.assign lr.body))) tl))){q0 lq:Code}(Z0:Tryz.f186.body=some (.seq q0 (.block 0 (.loop lq))))(cA:Frame)(cs:List Frame)(SO:∀o w v (tm:Array Value),Td o0 w0 Bx l rd lo lr rs rs.length o w v->XB au Fin 0 o (G ((base 186).at ⟨tm,[]⟩ []) (cA::cs)) w):
  ∀r i,r+i=rs.length->∀o w v (tm:Array Value),Td o0 w0 Bx l rd lo lr rs i o w v->tm.size=16->tm[0]?=some (.func (.yield l) #[] #[])->tm[5]?=some (.slice p rs.length c)->tm[6]?=some (.int .i64 rs.length)->tm[7]?=some (.int .i64 i) ->
   XB au Fin 0 o (G ((base 186).at ⟨tm,[]⟩ (.code lq :: .inLoop lq :: .inBlock 0::[])) (cA::cs)) w:=by
 have hlq:=Z0;simp only[Tryz.f186,ay,Code.seq.injEq,Code.block.injEq,Code.loop.injEq,true_and] at hlq;obtain⟨-,hlq⟩:=hlq;have W:=bV (P:=au) (Fin:=Fin) (d:=0);have rP:(base 186).kind≠.early:=by simp[base]
 intro r
 induction r with
 |zero =>
  intro i hi o w v tm I fE t0 t5 t6 t7;have hni:¬((i:Int)<(rs.length:Int)):=aa;obtain⟨gs,rfl⟩:=kZ fE;simp only[List.range,List.range.loop,aA,aP] at *;simp only[List.getElem?_toArray,List.getElem?_cons_succ,List.getElem?_cons_zero,ay] at t0 t5 t6 t7;simp only[t0,t5,t6,t7];rw[show(Item.code lq)=Item.code _ from congrArg Item.code hlq.symm];refine W.go rfl (fun _=>aD) ?_;refine W.go rfl (fun _=>bf) ?_;refine dP ?_;refine hJ ?_;refine W.go rfl (fun _=>ak) ?_;refine W.go rfl (fun _=>aD) ?_;refine W.go rfl (fun _=>ew (t:=false) (by simp[Act.eval,hni])) ?_;simp only[aL,if_false];refine W.go rfl (fun _=>stepG_exit rfl) ?_;exact SO o w v _ (by rw[show rs.length=i by omega];exact I)
 |succ r ih =>
  intro i hi o w v tm I fE t0 t5 t6 t7;have cy:i<rs.length:=aa;have hlI:(i:Int)<(rs.length:Int):=aa;obtain rfl:=hp (fun e=>by rw[e] at cy;simp at cy);have qW:IntKind.wrap .i64 ((i:Int)+1)=(i:Int)+1:=by rw[IntKind.wrap_i64];omega
  obtain⟨gs,rfl⟩:=kZ fE;simp only[List.range,List.range.loop,aA,aP] at *;simp only[List.getElem?_toArray,List.getElem?_cons_succ,List.getElem?_cons_zero,ay] at t0 t5 t6 t7;simp only[t0,t5,t6,t7];rw[show(Item.code lq)=Item.code _ from congrArg Item.code hlq.symm];refine W.go rfl (fun _=>aD) ?_;refine W.go rfl (fun _=>bf) ?_;refine dP ?_;refine hJ ?_;refine W.go rfl (fun _=>ak) ?_;refine W.go rfl (fun _=>aD) ?_;refine W.go rfl (fun _=>ew (t:=true) (by simp[Act.eval,hlI])) ?_;simp only[if_true];refine W.go rfl (fun _=>cx) ?_;refine W.go rfl (fun _=>aD) ?_;refine W.go rfl (fun _=>fe) ?_;refine W.go rfl (fun _=>aD) ?_;refine W.go rfl (fun _=>bf) ?_;refine dP ?_;refine hJ ?_;have nX:∀b,o0 b->o b:=fun b hb=>by rw[I.own];exact .inl hb
  have adq:Ru<lo:=by
   have:=(Cn 0 aa).1;have h2:Ru<w0.heap.size:=by
    refine fA fun hh=>?_;rw[World.cell?,cG hh] at this;cases this
   omega
  have Jz:w.heap[Ru]?=w0.heap[Ru]?:=I.old Ru adq ado.1 ado.2;have We:Cl au L0 o (.slice rs[i].sa rs[i].sl rs[i].sc):=(fu _ (aG cy)).up nX;have V9:Cl au L0 o rs[i].agg:=fS (vs:=[.string rs[i].out,.int .i64 rs[i].eR,.slice rs[i].sa rs[i].sl rs[i].sc]) (by
   intro y hy;simp at hy;rcases hy with rfl|rfl|rfl
   ·exact bS
   ·exact dS
   ·exact We)
  refine mQ bQ I.aF rfl ar rP ar ?_ rfl (v:=rs[i].agg) (fun wl aT=>?_) fun _=>?_
  ·intro y hy;simp[Op.operands] at hy;subst hy;exact bU (nX _ yT)
  ·have hx:=(aT.heap _ (nX _ yT)).trans Jz;obtain⟨c0,c1,c2⟩:=Cn i cy;have d0:wl.cell? ⟨Ru,i*3,none⟩=some (.string rs[i].out):=(cell_of hx).trans c0;have d1:wl.cell? ⟨Ru,i*3+1,none⟩=some (.int .i64 rs[i].eR):=(cell_of hx).trans c1;have d2:wl.cell? ⟨Ru,i*3+2,none⟩=some (.slice rs[i].sa rs[i].sl rs[i].sc):=(cell_of hx).trans c2;simp[go_sem,d0,d1,d2,aI.agg]
  walk_nrm;generalize hri:rs[i]=ri at *;refine Cx bQ I.aF rfl ar rP ar mW rfl (R:=fun wl v aV=>v=.pointer (some ⟨wl.heap.size,0,none⟩)/\aV=wl.alloc (Obj.cells #[.string aO,.int .i64 0,.slice none 0 0] 42)) (fun wl aT=>⟨_,_,by simp[go_sem];rfl,rfl,rfl⟩) fun wl v1 aV w1 aT hR bN=>?_;obtain⟨rfl,hR⟩:=hR;obtain⟨z1,k1,k2⟩:=bN.alloc I.aF aT hR;have lv:=bN.aF;rw[aT.size];clear hR bN aT wl aV;walk_nrm;have PZ:grow o w w1 w.heap.size:=.inr ⟨ag _,aa⟩;refine Aq bQ lv rfl ar rP ar ?_ rfl (R:=fun wl aV=>aV=((wl.setCell ⟨w.heap.size,0,none⟩ (.string ri.out)).setCell ⟨w.heap.size,1,none⟩ (.int .i64 ri.eR)).setCell ⟨w.heap.size,2,none⟩ (.slice ri.sa ri.sl ri.sc)) (fun wl aT=>?_) fun wl aV w2 aT hR bN=>?_
  ·intro y hy;simp[Op.operands] at hy;rcases hy with rfl|rfl
   ·exact bU PZ
   ·simp[Act.eval];exact V9.up jk
  ·have hx:wl.heap[w.heap.size]?=some (Obj.cells #[.string aO,.int .i64 0,.slice none 0 0] 42):=(aT.heap _ PZ).trans k2;refine⟨_,?_,rfl⟩;have c0:wl.cell? ⟨w.heap.size,0,none⟩=some (.string aO):=by simp[World.cell?,hx]
   have c1:wl.cell? ⟨w.heap.size,1,none⟩=some (.int .i64 0):=by simp[World.cell?,hx]
   have c2:wl.cell? ⟨w.heap.size,2,none⟩=some (.slice none 0 0):=by simp[World.cell?,hx]
   have f:∀j,wl.frozen? ⟨w.heap.size,j,none⟩=false:=fun j=>by simp[World.frozen?,hx]
   simp[go_sem,aI.agg,c0,c1,c2,f]
  obtain⟨z2,m1,m2,e2⟩:=bN.store aT PZ (by rw[hR];simp[World.setCell]) (fun b hb=>by rw[hR,RowKit.Below.heap_setCell _ _ _ b hb,RowKit.Below.heap_setCell _ _ _ b hb,RowKit.Below.heap_setCell _ _ _ b hb]);have m2':w2.heap[w.heap.size]?=some (Obj.cells #[.string ri.out,.int .i64 ri.eR,.slice ri.sa ri.sl ri.sc] 42):=by
   have hx:wl.heap[w.heap.size]?=some (Obj.cells #[.string aO,.int .i64 0,.slice none 0 0] 42):=(aT.heap _ PZ).trans k2;rw[m2,hR];simp[World.setCell,aR,hx]
  have rO:=bN.aF;rw[e2] at rO |-;clear hR bN aT wl aV m2;walk_nrm;refine W.go rfl (fun _=>ak) ?_;refine W.go rfl (fun _=>aD) ?_;refine W.go rfl (fun _=>bf) ?_;refine dP ?_;refine hJ ?_;refine mQ bQ rO rfl ar rP ar ?_ rfl (v:=ri.agg) (fun wl aT=>?_) fun _=>?_
  ·intro y hy;simp[Op.operands] at hy;subst hy;exact bU PZ
  ·have hx:=(aT.heap _ PZ).trans m2';have c0:wl.cell? ⟨w.heap.size,0,none⟩=some (.string ri.out):=by simp[World.cell?,hx]
   have c1:wl.cell? ⟨w.heap.size,1,none⟩=some (.int .i64 ri.eR):=by simp[World.cell?,hx]
   have c2:wl.cell? ⟨w.heap.size,2,none⟩=some (.slice ri.sa ri.sl ri.sc):=by simp[World.cell?,hx]
   simp[go_sem,c0,c1,c2,aI.agg]
  walk_nrm;have hlw:l<w.heap.size:=by have:=I.size;omega
  have hBw:Bx<w.heap.size:=by have:=I.size;omega
  have NQ:w2.heap[l]?=some (.loop {lr with state:=.ready,pending:=none}):=by rw[m1 l aa,k1 l hlw];exact I.V7
  refine rX (t:=fun w=>w) (l:=l) rfl (fun n=>IU (w:=w2.at n) (t:=7) rfl ar rP rfl aH rfl NQ lp) rfl ?_;have aoj:w2.heap.size=w.heap.size+1:=aa;simp only[lf];refine V8 rO Bx l lo i v ((rs.take i).flatMap aI.cells) ri {lr with state:=.ready,pending:=none} aa (.inl (nX _ hBo)) (.inl (nX _ vF)) dH ?_ NQ rfl (by have:=I.size;omega) hBx hl ?_ ?_ (We.up jk) fF _ ?_ ?_ ?_ _ _ ?_
  ·rw[m1 Bx aa,k1 Bx hBw];exact I.box
  ·intro b h1 h2;by_cases hb:b<w.heap.size
   ·refine .inl ?_;rw[I.own];exact .inr ⟨aa,hb⟩
   ·exact .inr ⟨aa,aa⟩
  ·refine dD I.row fun g hg Tb=>?_;have hgw:g<w.heap.size:=by
    obtain⟨hlen,fX⟩:=I.row;rcases fX with⟨rfl,_⟩|⟨g',cap,cur,rfl,h1,h2,_⟩
    ·cases hg
    ·have e:g=g':=aQ hg;subst e;exact(Array.getElem?_eq_some_iff.1 h2).1
   rw[m1 g aa,k1 g hgw]
  ·simp[lt]
  ·rw[aS aa];exact ZZ
  ·rw[b7 aa];simp[Act.eval]
  intro v' w' X8 hF';have eg:grow (grow o w w1) w2 w'=grow o0 w0 w':=by
   rw[grow_grow aa z2 X8.size,I.own,grow_grow I.le rfl (by have:=X8.size;omega)]
  rw[eg] at hF' |-;rw[ee];walk_nrm;refine hJ ?_;refine W.go rfl (fun _=>ak) ?_;refine W.go rfl (fun _=>ew (t:=false) aH) ?_;simp only[aL,if_false];refine W.go rfl (fun _=>cx) ?_;refine W.go rfl (fun _=>gv) ?_;refine W.go rfl (fun _=>bf) ?_;refine dP ?_;refine hJ ?_;refine W.go rfl (fun _=>ak) ?_;refine W.go rfl (fun _=>iM) ?_;refine ih (i+1) aa _ _ v' _ ⟨rfl,hF',?_,?_,?_,X8.box,X8.V7,?_⟩ rfl rfl rfl rfl ?_
  ·have:=X8.size;have:=I.size;omega
  ·have:=X8.size;have:=I.le;omega
  ·intro b h1 h2 h3;have hv:some b≠v.ownBlock:=fun e=>by
    obtain⟨hlen,fX⟩:=I.row;rcases fX with⟨rfl,_⟩|⟨g',cap,cur,rfl,h4,h5,_⟩
    ·cases e
    ·have e:b=g':=aQ e;omega
   have gw:b<w.heap.size:=by have:=I.size;omega
   rw[X8.old b aa h2 h3 hv,m1 b aa,k1 b gw];exact I.old b h1 h2 h3
  ·rw[List.take_add_one,bo cy,hri];simp only[List.flatMap_append,Option.toList_some,List.flatMap_cons,List.flatMap_nil,List.append_nil];exact X8.row
  ·simp
theorem JA{P:Program}{L:Nat->Bool}{o:aM}{w:ae}(h:bM P L o w)(fn:FuncId)(tmps:Array Value)(ps:Array Tmp)(Pw bd:Code):
  bM P L (fun b=>(o b\/b=w.heap.size)\/b=w.heap.size+1) (mO w fn tmps ps Pw bd)/\(mO w fn tmps ps Pw bd).heap.size=w.heap.size+2/\(∀b,b<w.heap.size->(mO w fn tmps ps Pw bd).heap[b]?=w.heap[b]?)/\(mO w fn tmps ps Pw bd).heap[w.heap.size]?=some (.deferred (some [])) /\
   (mO w fn tmps ps Pw bd).heap[w.heap.size+1]?=some (.loop {state:=.ready,pending:=none,fn:=fn,tmps:=tmps,params:=ps,assign:=Pw,body:=bd,defers:=w.heap.size}):=by
 refine⟨?_,by simp[mO],fun b hb=>?_,?_,?_⟩
 ·have h1:=h.alloc (x:=.deferred (some [])) rfl (fun f _=>by simp[obj]);have h2:=h1.alloc (x:=.loop {state:=.ready,pending:=none,fn:=fn,tmps:=tmps,params:=ps,assign:=Pw,body:=bd,defers:=w.heap.size}) rfl (fun f _=>by simp[obj]);simpa[mO] using h2
 ·simp only[mO,World.alloc];rw[dz dV,Array.getElem_push_lt aa];simp[hb]
 ·simp only[mO,World.alloc];rw[dz aj,Array.getElem_push_eq]
 ·simp only[mO,World.alloc];rw[fG,if_pos aj]
theorem Wf{o0:aM}{w0:ae}{n:Nat}(hF:bM au L0 o0 w0)(hz:w0.heap.size=n+3)(o1:o0 n)(o2:o0 (n+1))(o3:o0 (n+2))(ZT:w0.heap[n]?=some (.cells #[.slice none 0 0] 35 (0,0)))(Z1:w0.heap[n+1]?=some (.deferred (some [])))(lr:Loop)(hlr:w0.heap[n+2]?=some (.loop lr))(ls:lr.state=.ready)(lpe:lr.pending=none)(Sv Ru c:Nat)(p:Option Addr)(rs:List aI)(hn:rs.length<=8)(UP:o0 Sv)(hs:w0.cell? ⟨Sv,0,none⟩=some (.slice p rs.length c))(hp:rs≠[]->p=some ⟨Ru,0,none⟩)(yT:o0 Ru)(Wh:Ru<n)(Cn:eU w0 Ru rs)(fu:∀r∈rs,Cl au L0 o0 (.slice r.sa r.sl r.sc))(lf:lr.fn=203)(lp:lr.params=#[7])(lt:lr.tmps.size=13)(ZZ:lr.tmps[2]?=some (.pointer (some ⟨n,0,none⟩))){r0 r1 tl:Code}{x:Operand}{ps:Array Tmp}(fF:Tryz.f203.body=some (.seq r0 (.seq (.seq r1 (.block 0 (.rangeFunc x ps lr.assign lr.body))) tl)))(cf:Frame)(cs:List Frame)(h:∀v w',w'.heap.size>=n+3->bM au L0 (grow o0 w0 w') w'->(∀b,b<n->w'.heap[b]?=w0.heap[b]?)->w'.ownsRow (n+3) 42 3 v rs.length (rs.flatMap aI.cells)->XB au Fin 0 (grow o0 w0 w') (G (cf.finish v) cs) w'):
  XB au Fin 0 o0 (G (Frame.enter au 186 #[.func (.yield (n+2)) #[] #[],.pointer (some ⟨Sv,0,none⟩)] .normal) ((base 203).at ⟨lr.tmps,[{target:=.collected (n+1),args:=#[]}]⟩ [.inRangeFunc (n+2),.inBlock 0,.code tl]::cf::cs)) w0:=by
 have W:=bV (P:=au) (Fin:=Fin) (d:=0);have rP:(base 186).kind≠.early:=by simp[base]
 have ads:(base 203).kind≠.early:=by simp[base]
 have hs0:∃x,w0.heap[Sv]?=some x:=by obtain⟨x,k,_⟩:=hF.shut Sv UP;exact⟨x,k⟩
 rw[iN func186 rfl];walk_nrmf Tryz.f186;refine W.go rfl (fun _=>aD) ?_;refine W.go rfl (fun _=>bf) ?_;refine dP ?_;refine mQ bQ hF rfl ar rP ar ?_ rfl (v:=.slice p rs.length c) (fun wl aT=>?_) fun _=>?_
 ·intro y hy;simp[Op.operands] at hy;subst hy;exact bU UP
 ·obtain⟨x,hx⟩:=hs0;have c0:wl.cell? ⟨Sv,0,none⟩=some (.slice p rs.length c):=(cell_of (aT.heap _ UP)).trans hs;simp[go_sem,c0]
 walk_nrm;refine hJ ?_;refine W.go rfl (fun _=>ak) ?_;refine W.go rfl (fun _=>fe) ?_;refine W.go rfl (fun _=>jM) ?_;have ahy:({lr with state:=.ready,pending:=none}:Loop)=lr:=by cases lr;simp only at ls lpe;subst ls;subst lpe;rfl
 refine Jy o0 w0 n (n+2) (n+1) (n+3) Ru c lr rs hn aa aa aa aa o1 o3 hz.symm yT ⟨aa,aa⟩ Cn fu p hp lf lp lt ZZ fF rfl _ _ ?_ rs.length 0 rfl _ _ (.slice none 0 0) _ ⟨?_,hF,aa,ag _,fun _ _ _ _=>rfl,ZT,?_,?_⟩ rfl rfl rfl rfl rfl;rotate_left
 ·funext b;simp only[grow,eq_iff_iff];constructor
  ·exact .inl
  ·rintro(h1|h1)
   ·exact h1
   ·omega
 ·rw[hlr,ahy]
 ·exact⟨rfl,.inl ⟨rfl,rfl⟩⟩
 intro o' w' v tm I;refine W.go rfl (fun _=>ef) ?_;refine W.go rfl (fun w1=>stepG_leave rfl rfl func186 (results_none ah _ _).1 (results_none ah _ _).2) ?_;have BY:((base 203).at ⟨lr.tmps,[{target:=.collected (n+1),args:=#[]}]⟩ [.inRangeFunc (n+2),.inBlock 0,.code tl]).finish (.tuple #[])=(base 203).at ⟨lr.tmps,[{target:=.collected (n+1),args:=#[]}]⟩ [.endRangeFunc (n+2),.inBlock 0,.code tl]:=by
  simp[Frame.finish,Frame.at]
 rw[BY];have hl':=I.V7;refine rX (t:=fun w=>dC w (n+2) {{lr with state:=.ready,pending:=none} with state:=.exhausted}) (l:=n+2) rfl (fun m=>Ea (w:=w'.at m) hl' rfl rfl rfl) (by simp[dC]) ?_;have nX:∀b,o0 b->o' b:=fun b hb=>by rw[I.own];exact .inl hb
 have lv:bM au L0 o' (dC w' (n+2) {{lr with state:=.ready,pending:=none} with state:=.exhausted}):=pK I.aF rfl (fun f=>by simp[obj]) (nX _ o3);have Zw:(dC w' (n+2) {{lr with state:=.ready,pending:=none} with state:=.exhausted}).heap.size=w'.heap.size:=by simp[dC]
 have X9:∀b,b≠n+2->(dC w' (n+2) {{lr with state:=.ready,pending:=none} with state:=.exhausted}).heap[b]?=w'.heap[b]?:=fun b hb=>by simp only[dC];rw[aS (bp hb)]
 generalize dC w' (n+2) {{lr with state:=.ready,pending:=none} with state:=.exhausted}=w1 at *;have htl:=fF;simp only[Tryz.f203,ay,Code.seq.injEq,true_and] at htl;obtain⟨-,-,htl⟩:=htl;obtain⟨gs,Q1⟩:=kZ lt;rw[Q1] at ZZ |-;simp only[List.range,List.range.loop,aA,aP] at ZZ |-;simp only[List.getElem?_toArray,List.getElem?_cons_succ,List.getElem?_cons_zero,ay] at ZZ;simp only[ZZ];rw[show(Item.code tl)=Item.code _ from congrArg Item.code htl.symm];refine W.go rfl (fun _=>gv) ?_;refine W.go rfl (fun _=>aD) ?_;refine W.go rfl (fun _=>bf) ?_;refine dP ?_;have Bo:w1.heap[n]?=some (.cells #[v] 35 (0,0)):=(X9 n aa).trans I.box;refine mQ bQ lv rfl ar ads ar ?_ rfl (v:=v) (fun wl aT=>?_) fun _=>?_
 ·intro y hy;simp[Op.operands] at hy;subst hy;exact bU (nX _ o1)
 ·have hx:=(aT.heap _ (nX _ o1)).trans Bo;have c0:wl.cell? ⟨n,0,none⟩=some v:=by simp[World.cell?,hx]
  simp[go_sem,c0]
 walk_nrm;have rP:=ads;refine hJ ?_;refine W.go rfl (fun _=>ak) ?_;refine W.go rfl (fun _=>stepG_ret') ?_;have hd1:w1.heap[n+1]?=some (.deferred (some [])):=by rw[X9 _ aa,I.old _ aa aa aa];exact Z1
 refine rX (t:=fun w=>{w with heap:=w.heap.setIfInBounds (n+1) (.deferred none)}) (l:=n+1) rfl (fun m=>AW (w:=w1.at m) rfl hd1) aj ?_;have rO:bM au L0 o' {w1 with heap:=w1.heap.setIfInBounds (n+1) (.deferred none)}:=pK lv rfl (fun f=>by simp[obj]) (nX _ o2);have ZO:({w1 with heap:=w1.heap.setIfInBounds (n+1) (.deferred none)}:ae).heap.size=w'.heap.size:=by simp[Zw]
 have RH:∀b,b≠n+1->b≠n+2->({w1 with heap:=w1.heap.setIfInBounds (n+1) (.deferred none)}:ae).heap[b]?=w'.heap[b]?:=fun b h1 h2=>by
  rw[<- X9 b h2];exact aS (bp h1)
 generalize ({w1 with heap:=w1.heap.setIfInBounds (n+1) (.deferred none)}:ae)=w2 at *;refine W.go rfl (fun w1=>stepG_leave rfl rfl func203 (v:=v) (by simp[results,Tryz.f203,go_sem]) (by simp[results,Tryz.f203,go_sem])) ?_;have eo:o'=grow o0 w0 w2:=by rw[I.own];unfold grow;rw[ZO]
 rw[eo] at rO |-;have fE:=I.size;refine h v w2 aa rO (fun b hb=>?_) ?_
 ·rw[RH b aa aa];exact I.old b aa aa aa
 ·have hr:=I.row;rw[cS] at hr;exact dD hr fun g hg Tb=>RH g aa aa
theorem JB(hF:bM au L0 o w)(Sv Ru c:Nat)(p:Option Addr)(rs:List aI)(hn:rs.length<=8)(UP:o Sv)(hs:w.cell? ⟨Sv,0,none⟩=some (.slice p rs.length c))(hp:rs≠[]->p=some ⟨Ru,0,none⟩)(yT:o Ru)(Cn:eU w Ru rs)(fu:∀r∈rs,Cl au L0 o (.slice r.sa r.sl r.sc)):
  bz au (XB au Fin 0) 203 #[.slice none 0 0,.func (.func 186) #[] #[.pointer (some ⟨Sv,0,none⟩)]] o w fun v o' w' =>
   o'=grow o w w'/\bM au L0 o' w'/\(∀b,b<w.heap.size->w'.heap[b]?=w.heap[b]?)/\w'.ownsRow w.heap.size 42 3 v rs.length (rs.flatMap aI.cells):=by
 intro cf cs K2;have W:=bV (P:=au) (Fin:=Fin) (d:=0);have rP:(base 203).kind≠.early:=by simp[base]
 rw[iN func203 rfl];walk_nrmf Tryz.f203;refine W.go rfl (fun _=>aD) ?_;refine W.go rfl (fun _=>bf) ?_;refine dP ?_;refine zp rfl ar rP rfl (Obj.cells #[.slice none 0 0] 35) (fun n=>.pointer (some ⟨n,0,none⟩)) (fun w1=>fP) (fun w1=>fP) ?_;walk_nrm;have lv:bM au L0 (fun b=>o b\/b=w.heap.size) (w.alloc (Obj.cells #[.slice none 0 0] 35)):=hF.alloc rfl fun f _=>by simp[obj,val]
 refine hJ ?_;refine W.go rfl (fun _=>ak) ?_;refine W.go rfl (fun _=>aD) ?_;refine W.go rfl (fun _=>aD) ?_;refine W.go rfl (fun _=>bf) ?_;refine dP ?_;refine hJ ?_;refine W.go rfl (fun _=>ak) ?_;refine W.go rfl (fun _=>fe) ?_;refine LR (g:=186) rfl rP rfl (by simp[Act.eval];rfl) func186 ah rfl ?_;have Lf:=JA lv 203;have VW:(w.alloc (Obj.cells #[.slice none 0 0] 35)).heap.size=w.heap.size+1:=aj;have adt:∀b,b<w.heap.size->(w.alloc (Obj.cells #[.slice none 0 0] 35)).heap[b]?=w.heap[b]?:=fun b hb=>RowKit.Below.heap_alloc w _ b hb;have adu:(w.alloc (Obj.cells #[.slice none 0 0] 35)).heap[w.heap.size]?=some (Obj.cells #[.slice none 0 0] 35):=by simp only[World.alloc];rw[fG,if_pos rfl]
 generalize w.alloc (Obj.cells #[.slice none 0 0] 35)=wa at *;rw[VW] at Lf;simp only[VW];have ho:(fun b=>((o b\/b=w.heap.size)\/b=w.heap.size+1)\/b=w.heap.size+1+1)=(fun b=>((o b\/b=w.heap.size)\/b=w.heap.size+1)\/b=w.heap.size+2):=rfl;have Wh:Ru<w.heap.size:=hF.lt yT;have hSn:Sv<w.heap.size:=hF.lt UP;have nX:∀{w':ae},(∀b,b<w.heap.size+1->w'.heap[b]?=wa.heap[b]?)->∀b,b<w.heap.size->w'.heap[b]?=w.heap[b]?:=fun h b hb=>(h b aa).trans (adt b hb);have hru:∀w0:ae,(∀b,b<w.heap.size+1->w0.heap[b]?=wa.heap[b]?)->eU w0 Ru rs:=fun w0 h0 i hi=>by
  have e:=nX h0 Ru Wh;obtain⟨c0,c1,c2⟩:=Cn i hi;exact⟨(cell_of e).trans c0,(cell_of e).trans c1,(cell_of e).trans c2⟩
 have qC:∀w0:ae,w0.heap.size=w.heap.size+1+2->(∀b,b<w.heap.size+1->w0.heap[b]?=wa.heap[b]?)->∀v w',w'.heap.size>=w.heap.size+3->bM au L0 (grow (fun b=>((o b\/b=w.heap.size)\/b=w.heap.size+1)\/b=w.heap.size+1+1) w0 w') w'->(∀b,b<w.heap.size->w'.heap[b]?=w0.heap[b]?)->w'.ownsRow (w.heap.size+3) 42 3 v rs.length (rs.flatMap aI.cells)->XB au Fin 0 (grow (fun b=>((o b\/b=w.heap.size)\/b=w.heap.size+1)\/b=w.heap.size+1+1) w0 w') (G (cf.finish v) cs) w':=by
  intro w0 h0 h00 v w' hz hF' hk hr;have e:grow (fun b=>((o b\/b=w.heap.size)\/b=w.heap.size+1)\/b=w.heap.size+1+1) w0 w'=grow o w w':=by
   funext b;simp only[grow,eq_iff_iff,h0];constructor
   ·rintro((((h1|h1)|h1)|h1)|h1)
    ·exact .inl h1
    all_goals exact .inr aa
   ·rintro(h1|h1)
    ·exact .inl (.inl (.inl (.inl h1)))
    ·by_cases h2:b<w.heap.size+3
     ·by_cases h3:b=w.heap.size
      ·exact .inl (.inl (.inl (.inr h3)))
      ·by_cases h4:b=w.heap.size+1
       ·exact .inl (.inl (.inr h4))
       ·exact .inl (.inr aa)
     ·exact .inr aa
  rw[e] at hF' |-;refine K2 v _ w' ⟨rfl,hF',fun b hb=>(hk b hb).trans (nX h00 b hb),?_⟩;obtain⟨hlen,fX⟩:=hr;refine⟨hlen,?_⟩;rcases fX with h1|⟨g,cap,cur,h1,h2,h3⟩
  ·exact .inl h1
  ·exact .inr ⟨g,cap,cur,h1,aa,h3⟩
 refine Wf (n:=w.heap.size) (Lf _ _ _ _).1 (Lf _ _ _ _).2.1 (.inl (.inl (.inr rfl))) (.inl (.inr rfl)) (.inr rfl) (((Lf _ _ _ _).2.2.1 _ aa).trans adu) (Lf _ _ _ _).2.2.2.1 _ (Lf _ _ _ _).2.2.2.2 rfl rfl Sv Ru c p rs hn (.inl (.inl (.inl UP))) ?_ hp (.inl (.inl (.inl yT))) Wh ?_ ?_ rfl rfl rfl rfl rfl cf cs ?_
 ·exact(cell_of (nX (Lf _ _ _ _).2.2.1 Sv hSn)).trans hs
 ·exact hru _ (Lf _ _ _ _).2.2.1
 ·exact fun r hr=>(fu r hr).up fun b hb=>.inl (.inl (.inl hb))
 ·exact qC _ (Lf _ _ _ _).2.1 (Lf _ _ _ _).2.2.1
end
section
variable {Fin:bK} {d:Nat} {o:aM} {w:ae} {fn:FuncId} {Q:Exit->Act->aM->ae->Prop} {a:Act} {ops:Array Oper} {i:Nat} {rest:List Nat} {op:Oper} {dd:Option Tmp} {v:Value} {b j:Nat}
theorem lh(hF:bM au L0 o w)(ox:o b)(c:w.cell? ⟨b,j,none⟩=some v)(h:Cl au L0 o v->eX (XB au Fin d) fn ops rest Q (a.put dd v) o w)(ho:ops[i]?=some op:=by rfl)(hw:Region.wanted op (yielded ops a.tmps)=true:=by rfl)(je:tw L0 op.op=true:=by rfl)(f1:(∀j,Cl au L0 o (.pointer (some ⟨b,j,none⟩)))->∀x∈op.op.operands,Cl au L0 o (a.eval x):=by
   intro h9 y hy;simp[Op.operands] at hy;subst hy;simp[Act.eval];exact h9 _)(hd:op.dst=dd:=by rfl)(f2:(∀wl,iA o w wl->wl.cell? ⟨b,j,none⟩=some v)->∀wl,iA o w wl->(execOp a.eval op).run au wl=.ok (.value v) wl:=by
   intro h9 wl aT;simp[go_sem,h9 wl aT]):eX (XB au Fin d) fn ops (i::rest) Q a o w :=
 dB bQ hF ho hw je (f1 fun j=>bU ox) hd (f2 fun wl aT=>(aT.cell ox).trans c) h
theorem tE{B C:Prop}(hF:bM au L0 o w)(ox:o b)(c:w.cell? ⟨b,j,none⟩=some v)(f1:(∀j,Cl au L0 o (.pointer (some ⟨b,j,none⟩)))->B:=by
  intro h9 y hy;simp[Op.operands] at hy;subst hy;simp[Act.eval];exact h9 _)(f2:(∀wl,iA o w wl->wl.cell? ⟨b,j,none⟩=some v)->C:=by
   intro h9 wl aT;simp[go_sem,h9 wl aT]):bM au L0 o w/\B/\C:=⟨hF,f1 fun j=>bU ox,f2 fun wl aT=>(aT.cell ox).trans c⟩
end
section
open Go.Lib
theorem pX:∀a:List UInt8,compareBytes a a=0
 | []=>rfl
 |x::r=>by
  have h:¬x<x:=UInt8.lt_irrefl x;simp[compareBytes,h,pX r]
theorem sM:∀a b:List UInt8,compareBytes a b=0->a=b
 | [],[],_=>rfl
 | [],_::_,h=>by simp[compareBytes] at h
 |_::_,[],h=>by simp[compareBytes] at h
 |x::r,y::s,h=>by
  simp only[compareBytes] at h;split at h
  ·cases h
  ·split at h
   ·cases h
   ·rename_i h1 h2;have e:x=y:=iq (UInt8.not_lt.1 h2) (UInt8.not_lt.1 h1);rw[e,sM r s h]
theorem r9:∀a b:List UInt8,compareBytes b a=- compareBytes a b
 | [],[]=>rfl
 | [],_::_=>rfl
 |_::_,[]=>rfl
 |x::r,y::s=>by
  simp only[compareBytes];by_cases h1:x<y
  ·have h2:¬y<x:=UInt8.lt_asymm h1;simp[h1,h2]
  ·by_cases h2:y<x
   ·simp[h1,h2]
   ·simp[h1,h2,r9 r s]
theorem nP:∀a b c:List UInt8,compareBytes a b<0->compareBytes b c<0->compareBytes a c<0
 | [],[],_,h,_=>by simp[compareBytes] at h
 |_::_,[],_,h,_=>by simp[compareBytes] at h
 |_,_::_,[],_,h=>by simp[compareBytes] at h
 | [],_::_,_::_,_,_=>by simp[compareBytes]
 |x::r,y::s,z::t,h1,h2=>by
  simp only[compareBytes] at h1 h2 |-;by_cases a1:x<y
  ·by_cases a2:y<z
   ·simp[UInt8.lt_trans a1 a2]
   ·by_cases a3:z<y
    ·simp[a2,a3] at h2
    ·have e:y=z:=iq (UInt8.not_lt.1 a3) (UInt8.not_lt.1 a2);subst e;simp[a1]
  ·by_cases a4:y<x
   ·simp[a1,a4] at h1
   ·have e:x=y:=iq (UInt8.not_lt.1 a4) (UInt8.not_lt.1 a1);subst e;simp only[UInt8.lt_irrefl,if_false] at h1;by_cases a2:x<z
    ·simp[a2]
    ·by_cases a3:z<x
     ·simp[a2,a3] at h2
     ·simp[a2,a3] at h2 |-;exact nP r s t h1 h2
end
end Go.Proofs.Kz
namespace Go.Proofs
section
open Go.Shelf
end
end Go.Proofs
namespace Go.Proofs.Kz
open Go.Proofs.Tryz
open Go.Proofs.Tryz renaming prog → au
open _root_.ByteArray renaming empty → aO
open Go.Proofs
section
open Go.RowKit Go.Shelf Go.Lib Go.Sort
def qG(x y:aI):Int:=Lib.compareBytes x.out.data.toList y.out.data.toList
theorem Qa(x y:aI)(W:ae):Calls au 146 #[.agg x.cells.toArray,.agg y.cells.toArray] W fun e w'=>e=.returned (.int .i64 (qG x y))/\∃q os',w'=grow (W.drewN q) os':=by
 have adv:=fun W'=>Tryz.strings_Compare x.out y.out W';show Calls au _ #[.agg #[.string x.out,.int .i64 x.eR,.slice x.sa x.sl x.sc],.agg #[.string y.out,.int .i64 y.eR,.slice y.sa y.sl y.sc]] W _;unfold qG;generalize Lib.compareBytes x.out.data.toList y.out.data.toList=r at adv |-;go_enter func146,ntmps146;go_wp2_with (go_at_call 187;refine(adv _).mono ?_;rintro e w' ⟨rfl,rfl⟩);go_ret;exact⟨rfl,0,_,by rw[alloc_eq_grow,alloc_eq_grow,Go.Sort.grow_grow];rfl⟩
@[reducible] def Ei:Inhabited aI:=⟨⟨aO,0,none,0,0⟩⟩
theorem Mg(blk off size:Nat)(w:ae):@CmpLays aI Ei au 146 #[] aI.cells 3 qG blk off size w :=
 fun _ _ _ _ x y=>Qa x y _
theorem GF(n:Nat)(W:ae)(h:n<=12):Calls au 205 #[.int .u64 n] W fun e w'=>(∃l:Int,e=.returned (.int .i64 l))/\w'=W :=
 (Any.bits_Len Tryz.bitsLen n W aa aa).mono fun _ _ ⟨he,hw⟩=>⟨⟨_,he⟩,hw⟩
theorem Wi(d:Array aI)(i:Nat)(h:i<d.size):(@getElem! (Array aI) Nat aI _ _ Ei d i)=d[i]:=by
 letI:Inhabited aI:=Ei
 exact eN d i h
theorem ahz:SWO (ltOf qG):=by
 have hx:∀x y,ltOf qG x y=true↔qG x y<0:=fun x y=>by simp[ltOf]
 have hn:∀x y,ltOf qG x y=false↔¬qG x y<0:=fun x y=>by simp[ltOf]
 refine⟨fun x=>?_,fun x y z h1 h2=>?_,fun x y z h1 h2=>?_⟩
 ·rw[hn];simp[qG,pX]
 ·rw[hx] at *;exact nP _ _ _ h1 h2
 ·rw[hn] at *;intro h3;unfold qG at *;rcases Int.lt_or_le 0 (compareBytes x.out.data.toList y.out.data.toList) with h4|h4
  ·have e:=r9 x.out.data.toList y.out.data.toList;exact h2 (nP _ _ _ aa h3)
  ·have e:compareBytes x.out.data.toList y.out.data.toList=0:=aa;rw[sM _ _ e] at h3;exact h2 h3
theorem holds_of(w:ae)(b:Nat)(rs:List aI)(h:eU w b rs)(hf:∀j,j<rs.length*3->w.frozen? ⟨b,j,none⟩=false):@HoldsK aI Ei aI.cells 3 w b 0 rs.toArray:=by
 intro j hj;have r8:j<rs.length*3:=by simpa using hj
 have cy:j/3<rs.length:=aa;obtain⟨c0,c1,c2⟩:=h (j/3) cy;rw[bB];refine⟨?_,hf j r8⟩;rw[@get_flatK aI Ei aI.cells 3 rs.toArray j (by simpa using r8)];have e:(@getElem! (Array aI) Nat aI _ _ Ei rs.toArray (j/3))=rs[j/3]:=by
  rw[Wi _ _ (by simpa using cy)];rfl
 rw[e];have hm:j%3=0\/j%3=1\/j%3=2:=aa;rcases hm with hm|hm|hm
 ·rw[show w.cell? ⟨b,j,none⟩=w.cell? ⟨b,j/3*3,none⟩ from congrArg (fun x=>w.cell? ⟨b,x,none⟩) aa,c0,hm];simp[aI.cells]
 ·rw[show w.cell? ⟨b,j,none⟩=w.cell? ⟨b,j/3*3+1,none⟩ from congrArg (fun x=>w.cell? ⟨b,x,none⟩) aa,c1,hm];simp[aI.cells]
 ·rw[show w.cell? ⟨b,j,none⟩=w.cell? ⟨b,j/3*3+2,none⟩ from congrArg (fun x=>w.cell? ⟨b,x,none⟩) aa,c2,hm];simp[aI.cells]
theorem Mh(w:ae)(b:Nat)(d:Array aI)(h:@HoldsK aI Ei aI.cells 3 w b 0 d):eU w b d.toList:=by
 intro i hi;have ma:i<d.size:=by simpa using hi
 have key:∀c,c<3->w.cell? ⟨b,i*3+c,none⟩=some ((d.toList[i]).cells[c]!):=fun c hc=>by
  have:=(h (i*3+c) dV).1;rw[bB] at this;rw[this,@get_flatK aI Ei aI.cells 3 d (i*3+c) aa];have e1:(i*3+c)/3=i:=aa;have e2:(i*3+c)%3=c:=aa;rw[e1,e2,Wi d i ma];simp
 exact⟨key 0 aa,key 1 aa,key 2 aa⟩
structure JC(w w':ae)(blk:Nat)(rs cp:List aI):Prop where
 size:w.heap.size<=w'.heap.size
 old:∀b,b<w.heap.size->b≠blk->w'.heap[b]?=w.heap[b]?
 perm:cp.Perm rs
 sorted:∀i j (hi:i<cp.length) (hj:j<cp.length),i<j->¬qG cp[j] cp[i]<0
 at_:eU w' blk cp
theorem CQ(blk cap:Nat)(rs:List aI)(w:ae)(hR:eU w blk rs)(hf:∀j,j<rs.length*3->w.frozen? ⟨blk,j,none⟩=false)(Pn:blk<w.heap.size)(pY:rs.length<=12):
  Calls au 185 #[.slice (some ⟨blk,0,none⟩) rs.length cap,.func (.func 146) #[] #[]] w fun e w'=>∃v,e=.returned v/\v=.tuple #[]/\∃cp,JC w w' blk rs cp:=by
 have eg:∀args w,(callFunc 146 args).run au w=.ok (.enter 146 args) w:=enters_of func146 ah rfl;have hH:=holds_of w blk rs hR hf;have hc:=@AnyQ.slices_SortFunc_small_sorted au _ aI Ei Tryz.PD 3 isAgg42 sizeOf42 aI.cells (fun _=>rfl) (fun x v hv=>by simp[aI.cells] at hv;rcases hv with rfl|rfl|rfl<;>rfl) qG 146 #[] ahz blk 0 cap rs.toArray w eg (Mg blk 0 rs.toArray.size w) hH Pn (by simpa using pY) GF;refine Calls.mono hc ?_;rintro e w' ⟨rfl,d',n,os,hp,hs,rfl⟩;have hz:d'.size=rs.length:=by simpa using hp.1
 have pA:blk<(@putRowK aI Ei aI.cells 3 (Go.Sort.ahead w n) blk 0 d').heap.size:=by simp[putRowK,putRow,mapBlock,Go.Sort.ahead];exact Pn
 refine⟨_,rfl,rfl,d'.toList,?_,?_,?_,?_,?_⟩
 ·simp[sortWorldK,Go.Sort.grow,putRowK,putRow,mapBlock,Go.Sort.ahead]
 ·intro b hb dH;simp only[sortWorldK];rw[heap_grow_old _ _ (by simp[putRowK,putRow,mapBlock,Go.Sort.ahead];exact hb)];simp only[putRowK,putRow,mapBlock,Go.Sort.ahead];rw[aR,if_neg (fun e=>dH e.symm)]
 ·have h2:=hp.2.2;rw[iY (by simp[hz]),iY aj] at h2;simpa using h2
 ·intro i j hi hj E7;have h2:=hs i j (aU _) E7 (by simp at hj |-;omega);rw[Wi d' i (by simpa using hi),Wi d' j (by simpa using hj)] at h2;simp[ltOf] at h2;simp;exact h2
 ·refine Mh _ blk d' ?_;refine holds_grow id _ os blk 0 _ pA ?_;exact holds_putRow id _ blk 0 _ _ hH (by simp[hz])
end
open Go.Ren Go.Conc Go.ConcN
section
variable {Fin:bK} {o:aM} {w:ae}
structure Te(o:aM)(w:ae)(rs:List aI)(v:Value)(o':aM)(w':ae):Prop where
 own:o'=grow o w w'
 aF:bM au L0 o' w'
 size:w.heap.size<=w'.heap.size
 old:∀b,b<w.heap.size->w'.heap[b]?=w.heap[b]?
 row:w'.ownsRow w.heap.size 42 3 v rs.length (rs.flatMap aI.cells)
theorem Qb(hF:bM au L0 o w)(Sv Ru c:Nat)(p:Option Addr)(rs:List aI)(hn:rs.length<=8)(UP:o Sv)(hs:w.cell? ⟨Sv,0,none⟩=some (.slice p rs.length c))(hp:rs≠[]->p=some ⟨Ru,0,none⟩)(yT:o Ru)(Cn:eU w Ru rs)(fu:∀r∈rs,Cl au L0 o (.slice r.sa r.sl r.sc)):
  bz au (XB au Fin 0) 184 #[.func (.func 186) #[] #[.pointer (some ⟨Sv,0,none⟩)]] o w (Te o w rs):=by
 have W:=bV (P:=au) (Fin:=Fin) (d:=0);refine bC W func184 ar ?_;refine ax ?_;refine dA W rfl ar rfl func203 ah rfl aH rfl ((JB hF Sv Ru c p rs hn UP hs hp yT Cn fu).mono fun v o' w' hp=>?_);refine ax ?_;obtain⟨h1,h2,h3,h4⟩:=hp;refine⟨.inr trivial,trivial,v,resultsC_tmp (t:=2) ar _,h1,h2,?_,h3,h4⟩;refine de fun cy=>?_;have:=h3 _ cy;rw[cG (ag _),aN cy] at this;cases this
theorem Tf(rs:List aI):∀i (h:i<rs.length) c,c<3->(rs.flatMap aI.cells)[i*3+c]?=(rs[i].cells)[c]?:=by
 induction rs with
 |nil=>intro i h;simp at h
 |cons r t ih =>
  intro i h c hc;have hl:r.cells.length=3:=rfl;rw[List.flatMap_cons];cases i with
  |zero=>rw[jH aa];simp
  |succ i =>
   rw[jm aa,hl,show(i+1)*3+c-3=i*3+c by omega,ih i (by simpa using h) c hc];simp
theorem JD{w:ae}{g cap n:Nat}{cur:Array Value}{rs:List aI}(hg:w.heap[g]?=some (.cells cur 42 (0,0)))(ht:cur.toList.take (rs.length*3)=rs.flatMap aI.cells):eU w g rs/\∀j,w.frozen? ⟨g,j,none⟩=false:=by
 have key:∀i (h:i<rs.length) c,c<3->w.cell? ⟨g,i*3+c,none⟩=(rs[i].cells)[c]?:=fun i h c hc=>by
  rw[<- Tf rs i h c hc,<- ht,fD aa];simp[World.cell?,hg]
 exact⟨fun i h=>⟨key i h 0 aa,key i h 1 aa,key i h 2 aa⟩,fun j=>by simp[World.frozen?,hg]⟩
theorem GG(w:ae):Calls au 185 #[.slice none 0 0,.func (.func 146) #[] #[]] w fun e w'=>∃v,e=.returned v/\v=.tuple #[]/\w'.heap=w.heap:=by
 have hl:=GF 0 w aa;have h2:∀W,Calls au 214 #[.slice none 0 0,.int .i64 0,.int .i64 0,.func (.func 146) #[] #[]] W fun e w'=>e=.returned (.tuple #[])/\w'.heap=W.heap:=fun W=>by
  go_enter func214,ntmps214;go_wp2;refine wp_loop_rounds 1 ?_;rw[rounds_succ];go_wp2
  go_end0
  exact⟨rfl,rfl⟩
 have h3:∀W lim,Calls au 204 #[.slice none 0 0,.int .i64 0,.int .i64 0,.int .i64 lim,.func (.func 146) #[] #[]] W fun e w'=>e=.returned (.tuple #[])/\w'.heap=W.heap:=fun W lim=>by
  go_enter func204,ntmps204;go_wp2;refine wp_loop_rounds 1 ?_;rw[rounds_succ];go_wp2_with (go_at_call 214;refine(h2 _).mono ?_;rintro e w' ⟨rfl,hw⟩)
  (try simp only[Exit.inBlock,Exit.then])
  refine bodyPost_ret (results_none ah _ _).1 rfl ?_;exact⟨rfl,hw⟩
 go_enter func185,ntmps185;go_wp2_with (first|(go_at_call 205;refine hl.mono ?_;rintro e w' ⟨⟨l,rfl⟩,rfl⟩)|(go_at_call 204;refine(h3 _ _).mono ?_;rintro e w' ⟨rfl,hw⟩))
 go_end0
 exact⟨_,rfl,rfl,hw⟩
structure vi(o:aM)(w:ae)(rs:List aI)(v:Value)(o':aM)(w':ae):Prop where
 own:o'=grow o w w'
 aF:bM au L0 o' w'
 size:w.heap.size<=w'.heap.size
 old:∀b,b<w.heap.size->w'.heap[b]?=w.heap[b]?
 row:(rs=[]/\v=.slice none 0 0)\/∃g cap cp,v=.slice (some ⟨g,0,none⟩) rs.length cap/\rs.length<=cap/\w.heap.size<=g/\g<w'.heap.size/\cp.Perm rs/\(∀i j (hi:i<cp.length) (hj:j<cp.length),i<j->¬qG cp[j] cp[i]<0)/\eU w' g cp
theorem Tg{o:aM}{w w1 w2:ae}(h1:w.heap.size<=w1.heap.size)(h2:w1.heap.size<=w2.heap.size):grow (grow o w w1) w1 w2=grow o w w2:=grow_grow h1 rfl h2
theorem Z2{o1:aM}{w1:ae}{rs:List aI}{v:Value}(hn:rs.length<=8)(S:Te o w rs v o1 w1):
  bz au (XB au Fin 0) 185 #[v,.func (.func 146) #[] #[]] o1 w1 fun v' o2 w2=>v'=.tuple #[]/\vi o w rs v o2 w2:=by
 obtain⟨hlen,fX⟩:=S.row;rcases fX with⟨rfl,h0⟩|⟨g,cap,cur,rfl,h1,h2,h3,h4,h5,h6⟩
 ·refine sJ bQ ah S.aF ?_ (R:=fun wl v aV=>v=.tuple #[]/\aV.heap=wl.heap) (fun wl v w τ d h=>h) (fun wl τ d v w' h=>h) (fun wl hz aT=>GG wl) ?_
  ·intro f hf;have hb:f.h 146=146:=hf.fn _ (by show L0 146=true;kernel_rfl);simp[val,tG,hb]
  ·rintro wl v aV w' hz aT ⟨rfl,hh⟩ B;have fE:w'.heap.size=w1.heap.size:=by rw[B.size,hh,hz]
   have e:grow o1 w1 w'=o1:=by
    funext b;simp only[grow,eq_iff_iff,fE];exact⟨fun h=>h.elim id fun h=>aa,.inl⟩
   have hold:∀b,b<w1.heap.size->w'.heap[b]?=w1.heap[b]?:=fun b hb=>by
    by_cases ho:o1 b
    ·rw[B.same b (.inl ho),hh,aT b ho]
    ·exact B.rest b hb ho
   have hF:=B.aF;rw[e] at hF |-;have hs:=S.size;refine⟨rfl,by rw[S.own];unfold grow;rw[fE],hF,aa,fun b hb=>by rw[hold b aa];exact S.old b hb,.inl ⟨List.length_eq_zero_iff.1 h0,rfl⟩⟩
 ·have KJ:g<w1.heap.size:=(Array.getElem?_eq_some_iff.1 h2).1;have UQ:o1 g:=by rw[S.own];exact .inr ⟨h1,KJ⟩
  refine sJ bQ ah S.aF ?_ (R:=fun wl v aV=>v=.tuple #[]/\∃cp,JC wl aV g rs cp) (fun wl v w τ d h=>?_) (fun wl τ d v w' h=>?_) (fun wl hz aT=>?_) ?_
  ·intro f hf;have:=dY (P:=au) (L:=L0) (off:=0) (l:=rs.length) (c:=cap) UQ f hf;have hb:f.h 146=146:=hf.fn _ (by show L0 146=true;kernel_rfl);simp[val,tG,hb] at this |-;exact this
  ·obtain⟨k1,cp,k2⟩:=h;exact⟨k1,cp,k2.size,k2.old,k2.perm,k2.sorted,k2.at_⟩
  ·obtain⟨k1,cp,k2⟩:=h;exact⟨k1,cp,k2.size,k2.old,k2.perm,k2.sorted,k2.at_⟩
  ·obtain⟨k1,k2⟩:=JD (cap:=cap) (n:=rs.length) ((aT g UQ).trans h2) h6;exact CQ g cap rs wl k1 (fun j _=>k2 j) aa aa
  ·rintro wl v aV w' hz aT ⟨rfl,cp,T⟩ B;have fE:=B.jj;have hs:=S.size;have hold:∀b,b<w1.heap.size->b≠g->w'.heap[b]?=w1.heap[b]?:=fun b hb dH=>by
    by_cases ho:o1 b
    ·rw[B.same b (.inl ho),T.old b aa dH,aT b ho]
    ·exact B.rest b hb ho
   have hF:=B.aF;have e:grow o1 w1 w'=grow o w w':=by rw[S.own];exact Tg hs fE
   have hsm:=B.same g (.inl UQ);rw[e] at hF |-;refine⟨rfl,rfl,hF,aa,fun b hb=>by rw[hold b aa aa];exact S.old b hb,.inr ⟨g,cap,cp,rfl,h3,h1,aa,T.perm,T.sorted,fun i hi=>?_⟩⟩;obtain⟨c0,c1,c2⟩:=T.at_ i hi;exact⟨(cell_of hsm).trans c0,(cell_of hsm).trans c1,(cell_of hsm).trans c2⟩
theorem GH(hF:bM au L0 o w)(Sv Ru c:Nat)(p:Option Addr)(rs:List aI)(hn:rs.length<=8)(UP:o Sv)(hs:w.cell? ⟨Sv,0,none⟩=some (.slice p rs.length c))(hp:rs≠[]->p=some ⟨Ru,0,none⟩)(yT:o Ru)(Cn:eU w Ru rs)(fu:∀r∈rs,Cl au L0 o (.slice r.sa r.sl r.sc)):
  bz au (XB au Fin 0) 144 #[.func (.func 186) #[] #[.pointer (some ⟨Sv,0,none⟩)],.func (.func 146) #[] #[]] o w (vi o w rs):=by
 have W:=bV (P:=au) (Fin:=Fin) (d:=0);refine bC W func144 ar ?_;refine ax ?_;refine dA W rfl ar rfl func184 ah rfl aH rfl ((Qb hF Sv Ru c p rs hn UP hs hp yT Cn fu).mono fun v o1 w1 S=>?_);refine ax ?_;refine dA W rfl ar rfl func185 ah rfl (vs:=#[v,.func (.func 146) #[] #[]]) aH rfl ((Z2 hn S).mono fun v' o2 w2 hq=>?_);obtain⟨rfl,hq⟩:=hq;refine ax ?_;exact⟨.inr trivial,trivial,v,resultsC_tmp (t:=4) ar _,hq⟩
end
section
open Go.RowKit
theorem eU.below{w w':ae}{b:Nat}{rs:List aI}(h:eU w b rs)(hb:b<w.heap.size)(hw:Below w.heap.size w w'):eU w' b rs:=fun k hk=>by
 obtain⟨hc,-⟩:=vX hw;rw[hc _ _ hb,hc _ _ hb,hc _ _ hb];exact h k hk
theorem Mi(b c:Nat)(p:Option Addr)(rs:List aI)(w:ae)(hn:rs.length<=100000)(hp:rs≠[]->p=some ⟨b,0,none⟩/\b<w.heap.size)(hv:eU w b rs):
  Calls au 147 #[.slice p rs.length c] w fun e w'=>e=.returned (.slice (some ⟨w.heap.size,0,none⟩) rs.length rs.length)/\Below w.heap.size w w'/\w.heap.size<w'.heap.size /\
   w'.rowIs w.heap.size 9 rs.length (fun j=>.string ((rs.map (·.out)).getD j aO)):=by
 have Je:=run_make_row' (P:=au) 40 9 (.string aO) 16 underlying40 qo rfl .i64 .i64 rs.length aa aa;go_enter func147,ntmps147;go_wp2;go_loopw [11] (fun i w'=>∃k:Nat,k<=rs.length/\i=.int .i64 k/\Below w.heap.size w w'/\w.heap.size<w'.heap.size/\w'.rowIs w.heap.size 9 rs.length (fun j=>if j<k then .string ((rs.map (·.out)).getD j aO) else .string aO)) (fun i _=>rs.length-(intOf i).toNat)
 case atStart=>exact⟨0,aU _,rfl,(Below.refl _ _).alloc (ag _) _,aj,by simpa using World.rowIs_made w _ _ _⟩
 case round =>
  obtain⟨k,hk,rfl,gw,hz,cj⟩:=hrel;by_cases cy:k<rs.length
  ·obtain⟨rfl,hb⟩:=hp (fun e=>by rw[e] at cy;simp at cy);obtain⟨h1,h2,h3⟩:=hv.below hb gw k cy;have hc:=cj.cell cy;have hf:=cj.frozen k;rw[if_neg aa] at hc;go_wp2;refine⟨⟨k+1,aa,by go_num,(gw.setCell (ag _) _).alloc (by simp[World.setCell];omega) _,by simp[World.setCell];omega,?_⟩,by simp[intOf];omega⟩;refine((cj.set k _).alloc _).congr fun j hj=>?_;by_cases e:j=k
   ·subst e;simp[List.getD,cy]
   ·by_cases e':j<k
    ·rw[if_neg e,if_pos e',if_pos aa]
    ·rw[if_neg e,if_neg e',if_neg aa]
  ·go_wp2;go_ret;exact⟨rfl,gw,hz,cj.congr fun i hi=>by rw[if_pos aa]⟩
end
section
open Go.RowKit
def tn(w:ae)(b:Nat)(ins:List (Bool×Nat)):Prop:=∀j (h:j<ins.length),w.cell? ⟨b,j*2,none⟩=some (.bool ins[j].1)/\w.cell? ⟨b,j*2+1,none⟩=some (.int .i64 ins[j].2)
theorem tn.below{w w':ae}{b:Nat}{ins:List (Bool×Nat)}(h:tn w b ins)(hb:b<w.heap.size)(hw:Below w.heap.size w w'):tn w' b ins:=fun k hk=>by
 obtain⟨hc,-⟩:=vX hw;rw[hc _ _ hb,hc _ _ hb];exact h k hk
def zE(w:ae)(b:Nat)(zs:List Nat):Prop:=∀j (h:j<zs.length),w.cell? ⟨b,j,none⟩=some (.int .i64 zs[j])
theorem zE.below{w w':ae}{b:Nat}{zs:List Nat}(h:zE w b zs)(hb:b<w.heap.size)(hw:Below w.heap.size w w'):zE w' b zs:=fun k hk=>by
 obtain⟨hc,-⟩:=vX hw;rw[hc _ _ hb];exact h k hk
theorem yr(b c:Nat)(zs:List Nat)(x:Nat)(w:ae)(hn:zs.length<=100000)(h:zE w b zs):
  Calls au 190 #[.slice (some ⟨b,0,none⟩) zs.length c,.int .i64 x] w fun e w'=>e=.returned (.bool (zs.contains x))/\w'=w:=by
 have:=Tryz.slices_Contains_int b 0 zs.length c (zs.map (fun n:Nat=>(n:Int))) x w aj aa (fun j hj=>by
  have r8:j<zs.length:=by simpa using hj
  rw[bB,h j r8];simp[r8])
 refine this.mono fun e w' hq=>?_;obtain⟨rfl,rfl⟩:=hq;refine⟨?_,rfl⟩
 congr 2
 rw[cH aj];rw[dK];simp only[List.contains_iff_mem,List.mem_map];exact⟨fun⟨a,h1,h2⟩=>(show a=x by omega)▸h1,fun h=>⟨x,h,rfl⟩⟩
def mX(order:List Nat)(i:Bool×Nat):Bool:=!i.1||order.contains i.2
theorem GI(b c Ib ic:Nat)(order:List Nat)(ins:List (Bool×Nat))(w:ae)(hn:order.length<=100000)(hi:ins.length<=100000)(hb:b<w.heap.size)(hIb:Ib<w.heap.size)(ho:zE w b order)(hv:tn w Ib ins):
  Calls au 191 #[.slice (some ⟨b,0,none⟩) order.length c,.slice (some ⟨Ib,0,none⟩) ins.length ic] w fun e w'=>e=.returned (.bool (ins.all (mX order)))/\Below w.heap.size w w'/\w.heap.size<=w'.heap.size:=by
 go_enter func191,ntmps191;go_wp2;go_loopw [9] (fun i w'=>∃k:Nat,k<=ins.length/\i=.int .i64 k/\Below w.heap.size w w'/\w.heap.size<=w'.heap.size/\(ins.take k).all (mX order)=true) (fun i _=>ins.length-(intOf i).toNat)
 case atStart=>exact⟨0,aU _,rfl,Below.refl _ _,ag _,aj⟩
 case round =>
  obtain⟨k,hk,rfl,gw,hz,iB⟩:=hrel;by_cases cy:k<ins.length
  ·obtain⟨h1,h2⟩:=hv.below hIb gw k cy;have ho2:=ho.below hb gw;have tB:=take_succ ins k cy;generalize hik:ins[k]=ik at *;obtain⟨io,inn⟩:=ik;cases io
   ·go_wp2;refine⟨⟨k+1,aa,by go_num,gw.alloc aa _,dV,?_⟩,by simp[intOf];omega⟩;rw[tB,List.all_append,iB];simp[mX]
   ·have vL:=yr b c order inn (wr.alloc (.cells #[.bool true,.int .i64 inn] 280)) hn (ho.below hb (gw.alloc aa _));have ub:ins.all (mX order)=true->order.contains inn=true:=fun h=>by
     have:=List.all_eq_true.1 h (true,inn) (by rw[<- hik];exact aG cy);simpa[mX] using this
    cases Qc:order.contains inn
    ·rw[Qc] at vL;go_wp2_with (go_at_call 190;refine vL.mono ?_;rintro e w' ⟨rfl,rfl⟩);go_ret;have:ins.all (mX order)=false:=by
      cases h:ins.all (mX order)
      ·rfl
      ·have:=ub h;rw[Qc] at this;cases this
     rw[this];exact⟨rfl,gw.alloc aa _,dV⟩
    ·rw[Qc] at vL;go_wp2_with (go_at_call 190;refine vL.mono ?_;rintro e w' ⟨rfl,rfl⟩);refine⟨⟨k+1,aa,by go_num,gw.alloc aa _,dV,?_⟩,by simp[intOf];omega⟩;rw[tB,List.all_append,iB];simp[mX];simpa using Qc
  ·go_wp2;go_ret;rw[cH aa] at iB;rw[iB];exact⟨rfl,gw,hz⟩
end
section
open Go.RowKit
def qq(ins:Nat->List (Bool×Nat))(ord:List Nat)(s:Nat):List Nat:=if ord.contains s=false/\(ins s).all (mX ord)=true then ord++[s] else ord
def mY(ins:Nat->List (Bool×Nat))(ord:List Nat)(k:Nat):List Nat:=(List.range k).foldl (qq ins) ord
def eC(ins:Nat->List (Bool×Nat))(n:Nat):Nat->List Nat
 |0=>[]
 |r+1=>mY ins (eC ins n r) n
theorem qs(ins:Nat->List (Bool×Nat))(ord:List Nat)(k:Nat):mY ins ord (k+1)=qq ins (mY ins ord k) k:=by
 simp[mY,List.range_succ]
theorem vj:∀(n:Nat) (l:List Nat),l.Nodup->(∀x∈l,x<n)->l.length<=n
 |0,l,_,h=>by
  cases l with
  |nil=>simp
  |cons x r=>exact absurd (h x aj) aa
 |n+1,l,hd,h=>by
  have h1:=vj n (l.erase n) (hd.erase n) (fun x hx=>by
   have h2:=(hd.mem_erase_iff).1 hx;have:=h x h2.2;have:=h2.1;omega)
  have h2:=List.length_erase (a:=n) (l:=l);split at h2<;>omega
def oK(n:Nat)(ord:List Nat):Prop:=ord.Nodup/\∀x∈ord,x<n
theorem oK.step{n:Nat}{ord:List Nat}(h:oK n ord)(ins:Nat->List (Bool×Nat)){s:Nat}(hs:s<n):oK n (qq ins ord s):=by
 unfold qq;split
 ·rename_i hc;have hm:s∉ord:=fun hm=>by have:=hc.1;rw[List.contains_iff_mem.2 hm] at this;cases this
  refine⟨?_,fun x hx=>?_⟩
  ·rw[List.nodup_append];refine⟨h.1,aj,fun a ha b hb=>?_⟩;simp at hb;subst hb;exact fun e=>hm (e▸ha)
  ·simp at hx;rcases hx with hx|rfl
   ·exact h.2 x hx
   ·exact hs
 ·exact h
theorem oK.pass{n:Nat}{ord:List Nat}(h:oK n ord)(ins:Nat->List (Bool×Nat)):∀k,k<=n->oK n (mY ins ord k)
 |0,_=>by simpa[mY] using h
 |k+1,hk=>by rw[qs];exact(oK.pass h ins k aa).step ins aa
theorem oK.all(n:Nat)(ins:Nat->List (Bool×Nat)):∀r,oK n (eC ins n r)
 |0=>⟨by simp[eC],by simp[eC]⟩
 |r+1=>(oK.all n ins r).pass ins n (ag _)
theorem NR:(au.info? 3).map (fun i=>(i.zero,i.size,i.bytes))=some (some (.int .i64 0),1,8):=ah
structure pN(w:ae)(St n:Nat)(out:Nat->af)(eR:Nat->Int)(ins:Nat->List (Bool×Nat))(cM:Nat->Nat):Prop where
 out:∀s,s<n->w.cell? ⟨St,s*3,none⟩=some (.string (out s))
 eR:∀s,s<n->w.cell? ⟨St,s*3+1,none⟩=some (.int .i64 (eR s))
 A0:∀s,s<n->w.cell? ⟨St,s*3+2,none⟩=some (.slice (some ⟨cM s,0,none⟩) (ins s).length (ins s).length)
 CH:∀s,s<n->tn w (cM s) (ins s)
 lt:∀s,s<n->cM s<w.heap.size
 short:∀s,s<n->(ins s).length<=100000
def lj(w:ae)(B n:Nat)(ord:List Nat):Prop:=w.rowIs B 3 n fun j=>.int .i64 ((ord.getD j 0:Nat):Int)
theorem lj.nums{w:ae}{B n:Nat}{ord:List Nat}(h:lj w B n ord)(hl:ord.length<=n):zE w B ord:=fun j hj=>by
 rw[h.cell aa];simp[hj]
theorem CR(W:ae)(B n x:Nat)(ord:List Nat)(A:Nat)(h:lj W B n ord)(cy:ord.length<n)(ha:W.cell? ⟨A,0,none⟩=some (.int .i64 x)):
  (Builtin.append_ #[130,130] 130 #[.slice (some ⟨B,0,none⟩) ord.length n,.slice (some ⟨A,0,none⟩) 1 1]).run au W=.ok (.slice (some ⟨B,0,none⟩) (ord.length+1) n) (W.setCell ⟨B,ord.length,none⟩ (.int .i64 x)):=by
 obtain⟨i,hi,od⟩:=Option.map_eq_some_iff.1 NR;simp only[bt] at od;have:=run_append_room_cells (P:=au) W 130 130 3 i underlying130 hi B 0 ord.length n ⟨A,0,none⟩ 1 1 [.int .i64 x] (by simp[od.2.1]) (fun j u hj=>by
  cases j with
  |zero=>simp at hj;subst hj;simpa[Addr.add] using ha
  |succ j=>simp at hj) (by simp;rfl) aa (fun j hj=>by
   simp at hj;subst hj;rw[od.2.1];simp[h.cell cy]) (fun j hj=>by
   simp at hj;subst hj;rw[od.2.1];have:=h.frozen ord.length;simpa using this)
 rw[od.2.1] at this;simpa[World.setCells] using this
theorem lj.put{w:ae}{B n:Nat}{ord:List Nat}(h:lj w B n ord)(cy:ord.length<n)(x:Nat):lj (w.setCell ⟨B,ord.length,none⟩ (.int .i64 x)) B n (ord++[x]):=by
 refine(World.rowIs.set h ord.length (.int .i64 x)).congr fun j hj=>?_;by_cases e:j=ord.length
 ·subst e;simp
 ·rw[if_neg e];by_cases e':j<ord.length
  ·simp[List.getD,e',List.getElem?_append_left e']
  ·simp[List.getD,List.getElem?_eq_none (show ord.length<=j by omega),List.getElem?_eq_none (show(ord++[x]).length<=j by simp;omega)]
end
section
open Go.RowKit
theorem gm{P:Program}{w w':ae}{ops:Array Oper}{rest:List Oper}{o:Oper}{a:Act}{Q:Exit->Act->ae->Prop}{v xv v':Value}(hgd:o.guard=none)(s x:Operand)(t:TypeId)(ho:o.op=.call {callee:=.builtin .append,args:=#[s,x],argTypes:=#[t,t]})(hs:a.eval s=v)(hx:a.eval x=xv)(hr:(Builtin.append_ #[t,t] o.type #[v,xv]).run P w=.ok v' w')(h:wpList P ops Q rest (a.put o.dst v') w'):wpList P ops Q (o::rest) a w :=
 wpList_plain hgd fun _ hK=>by
  unfold Oper.wp execOp;simp only[ho,resolve,invoke,builtin,Sem.run_bind,Sem.run_pure,Result.andThen_ok,List.map_toArray,aA,aP,hs,hx,hr];exact hK _ _ h
theorem jR(w:ae)(x:Obj):(w.alloc x).heap[w.heap.size]?=some x:=by
 show(w.heap.push x)[w.heap.size]?=_;simp
theorem sN(w:ae)(cs:Array Value)(t:TypeId)(j:Nat):(w.alloc (.cells cs t)).cell? ⟨w.heap.size,j,none⟩=cs[j]?:=by
 simp only[World.cell?];rw[jR];rfl
theorem oK.room{n:Nat}{ord:List Nat}(h:oK n ord){s:Nat}(hs:s<n)(hc:ord.contains s=false):ord.length<n:=by
 have hm:s∉ord:=fun hm=>by rw[List.contains_iff_mem.2 hm] at hc;cases hc
 have:=vj n (ord++[s]) (by
  rw[List.nodup_append];refine⟨h.1,aj,fun a ha b hb=>?_⟩;simp at hb;subst hb;exact fun e=>hm (e▸ha)) (fun x hx=>by
  simp at hx;rcases hx with hx|rfl
  ·exact h.2 x hx
  ·exact hs)
 simp at this;omega
theorem JE(St n sc:Nat)(out:Nat->af)(eR:Nat->Int)(ins:Nat->List (Bool×Nat))(cM:Nat->Nat)(w:ae)(hn:n<=1000)(Z3:St<w.heap.size)(eG:pN w St n out eR ins cM):
  Calls au 150 #[.slice (some ⟨St,0,none⟩) n sc] w fun e w'=>e=.returned (.slice (some ⟨w.heap.size,0,none⟩) (eC ins n n).length n)/\Below w.heap.size w w'/\w.heap.size<w'.heap.size/\lj w' w.heap.size n (eC ins n n):=by
 have Je:=Go.run_make_room (P:=au) 130 3 (.int .i64 0) 8 underlying130 NR rfl .i64 .i64 n aa aa;go_enter func150,ntmps150;go_wp2;go_loopw [3,11] (fun v i w'=>∃r:Nat,r<=n/\i=.int .i64 r/\v=.slice (some ⟨w.heap.size,0,none⟩) (eC ins n r).length n/\Below w.heap.size w w'/\w.heap.size<w'.heap.size/\lj w' w.heap.size n (eC ins n r)) (fun v i _=>n-(intOf i).toNat)
 case atStart=>exact⟨0,aU _,rfl,rfl,(Below.refl _ _).alloc (ag _) _,aj,by simpa[lj,eC] using World.rowIs_made w _ _ _⟩
 case round =>
  obtain⟨r,hr,rfl,rfl,gw,hz,cj⟩:=hrel;by_cases cy:r<n
  ·go_wp2;go_loopw [3,15] (fun v i w'=>∃k:Nat,k<=n/\i=.int .i64 k/\v=.slice (some ⟨w.heap.size,0,none⟩) (mY ins (eC ins n r) k).length n/\Below w.heap.size w w'/\w.heap.size<w'.heap.size/\lj w' w.heap.size n (mY ins (eC ins n r) k)) (fun v i _=>n-(intOf i).toNat)
   case atStart=>exact⟨0,aU _,rfl,by simp[mY],gw,hz,by simpa[mY] using cj⟩
   case round =>
    clear gw hz cj;obtain⟨k,hk,rfl,rfl,gw,hz,cj⟩:=hrel;by_cases Io:k<n
    ·have je:oK n (mY ins (eC ins n r) k):=(oK.all n ins r).pass ins k hk;have yu:=qs ins (eC ins n r) k;have hle:=vj n _ je.1 je.2;generalize ady:mY ins (eC ins n r) k=ord at *;have c0:=(gw.cell (p:=⟨St,k*3,none⟩) Z3).trans (eG.out k Io);have c1:=(gw.cell (p:=⟨St,k*3+1,none⟩) Z3).trans (eG.eR k Io);have c2:=(gw.cell (p:=⟨St,k*3+2,none⟩) Z3).trans (eG.A0 k Io);have Ya:ord.length<=100000:=aa;generalize Z4:wr.alloc (.cells #[.string (out k),.int .i64 (eR k),.slice (some ⟨cM k,0,none⟩) (ins k).length (ins k).length] 220)=wa;have ca:wa.cell? ⟨wr.heap.size,2,none⟩=some (.slice (some ⟨cM k,0,none⟩) (ins k).length (ins k).length):=by rw[<- Z4];exact sN _ _ _ 2
     have Z5:Below w.heap.size w wa:=Z4▸gw.alloc aa _;have vD:wa.heap.size=wr.heap.size+1:=by rw[<- Z4];simp
     have Q9:lj wa w.heap.size n ord:=Z4▸World.rowIs.alloc cj _;have vL:=yr w.heap.size n ord k wa Ya (Q9.nums hle);have Z6:tn wa (cM k) (ins k):=(eG.CH k Io).below (eG.lt k Io) Z5;have X0:=eG.lt k Io;have iB:=GI w.heap.size n (cM k) (ins k).length ord (ins k) wa Ya (eG.short k Io) aa aa (Q9.nums hle) Z6;cases Qc:ord.contains k
     ·rw[Qc] at vL;have hll:ord.length<n:=je.room Io Qc;cases rM:(ins k).all (mX ord)
      ·rw[rM] at iB;have Ia:qq ins ord k=ord:=by simp only[qq];rw[if_neg];rw[rM];simp
       rw[Ia] at yu;go_wp2_with (first|(go_at_call 190;(try rw[Z4]);refine vL.mono ?_;rintro e w' ⟨rfl,rfl⟩)|(go_at_call 191;refine iB.mono ?_;rintro e w2 ⟨rfl,pA,Ti⟩));exact⟨⟨k+1,aa,by go_num,by rw[yu],Z5.trans (pA.mono aa),aa,by rw[yu];exact World.rowIs.of_block Q9 (pA.block _ aa)⟩,by simp[intOf];omega⟩
      ·rw[rM] at iB;have Ia:qq ins ord k=ord++[k]:=by simp only[qq];rw[if_pos ⟨Qc,rM⟩]
       rw[Ia] at yu;have ahA:∀w2:ae,lj w2 w.heap.size n ord->(Builtin.append_ #[130,130] 130 #[.slice (some ⟨w.heap.size,0,none⟩) ord.length n,.slice (some ⟨w2.heap.size,0,none⟩) 1 1]).run au (w2.alloc (.cells #[.int .i64 k] 3))=.ok (.slice (some ⟨w.heap.size,0,none⟩) (ord.length+1) n) ((w2.alloc (.cells #[.int .i64 k] 3)).setCell ⟨w.heap.size,ord.length,none⟩ (.int .i64 k)):=fun w2 h2=>CR _ w.heap.size n k ord w2.heap.size (World.rowIs.alloc h2 _) hll (sN _ _ _ 0);go_wp2_with (first|(go_at_call 190;(try rw[Z4]);refine vL.mono ?_;rintro e w' ⟨rfl,rfl⟩)|(go_at_call 191;refine iB.mono ?_;rintro e w2 ⟨rfl,pA,Ti⟩;have GC:lj w2 w.heap.size n ord:=World.rowIs.of_block Q9 (pA.block _ aa);have hap:=ahA w2 GC)|(at_builtin;refine gm rfl _ _ 130 rfl rfl rfl hap ?_));refine⟨⟨k+1,aa,by go_num,by rw[yu];simp,?_,by simp[World.setCell];omega,?_⟩,by simp[intOf];omega⟩
       ·exact((Z5.trans (pA.mono aa)).alloc aa _).setCell (ag _) _
       ·rw[yu];exact lj.put (World.rowIs.alloc GC _) hll k
     ·rw[Qc] at vL;have Ia:qq ins ord k=ord:=by simp only[qq];rw[if_neg];rw[Qc];simp
      rw[Ia] at yu;go_wp2_with (go_at_call 190;(try rw[Z4]);refine vL.mono ?_;rintro e w' ⟨rfl,rfl⟩);exact⟨⟨k+1,aa,by go_num,by rw[yu],Z5,aa,by rw[yu];exact Q9⟩,by simp[intOf];omega⟩
    ·have e:k=n:=aa;subst e;go_wp2;exact⟨⟨r+1,aa,by go_num,rfl,gw,hz,cj⟩,by simp[intOf];omega⟩
  ·go_wp2;go_ret;have e:r=n:=aa;subst e;exact⟨rfl,gw,hz,cj⟩
end
section
open Go.RowKit
def nQ(ins:Nat->List (Bool×Nat))(ord:List Nat):Prop:=∀i (h:i<ord.length),∀m,(true,m)∈ins ord[i]->∃k,∃hk:k<ord.length,k<i/\ord[k]=m
theorem CS(ins:Nat->List (Bool×Nat))(ord:List Nat)(s x:Nat)(h:x∈ord):x∈qq ins ord s:=by
 unfold qq;split
 ·simp[h]
 ·exact h
theorem CU(ins:Nat->List (Bool×Nat))(ord:List Nat)(x:Nat)(h:x∈ord):∀k,x∈mY ins ord k
 |0=>by simpa[mY] using h
 |k+1=>by rw[qs];exact CS _ _ _ _ (CU ins ord x h k)
theorem nQ.step{ins:Nat->List (Bool×Nat)}{ord:List Nat}(h:nQ ins ord)(s:Nat):nQ ins (qq ins ord s):=by
 unfold qq;split
 ·rename_i hc;intro i hi m hm;have iB:=hc.2;rw[List.all_eq_true] at iB;by_cases cy:i<ord.length
  ·rw[bT cy] at hm;obtain⟨k,hk,h1,h2⟩:=h i cy m hm;exact⟨k,dV,h1,by rw[bT hk];exact h2⟩
  ·have e:i=ord.length:=by simp at hi;omega
   subst e;simp at hm;have:=iB _ hm;simp[mX] at this;obtain⟨k,hk,e⟩:=bc this;exact⟨k,dV,hk,by rw[bT hk];exact e⟩
 ·exact h
theorem nQ.pass{ins:Nat->List (Bool×Nat)}{ord:List Nat}(h:nQ ins ord):∀k,nQ ins (mY ins ord k)
 |0=>by simpa[mY] using h
 |k+1=>by rw[qs];exact(nQ.pass h k).step k
theorem nQ.all(ins:Nat->List (Bool×Nat))(n:Nat):∀r,nQ ins (eC ins n r)
 |0=>fun i h=>by simp[eC] at h
 |r+1=>(nQ.all ins n r).pass n
theorem Fp(ins:Nat->List (Bool×Nat))(ord:List Nat)(s:Nat)(h:∀m,(true,m)∈ins s->m∈ord):∀k,s<k->s∈mY ins ord k
 |0,hk=>aa
 |k+1,hk=>by
  rw[qs];by_cases e:s=k
  ·subst e;unfold qq;split
   ·simp
   ·rename_i hc;have iB:(ins s).all (mX (mY ins ord s))=true:=by
     rw[List.all_eq_true];rintro⟨b,m⟩ hm;cases b
     ·simp[mX]
     ·have:=CU ins ord m (h m hm) s;simp[mX,this]
    cases K2:(mY ins ord s).contains s
    ·exact absurd ⟨K2,iB⟩ hc
    ·simpa using K2
  ·exact CS _ _ _ _ (Fp ins ord s h k aa)
theorem CV(ins:Nat->List (Bool×Nat))(n:Nat)(rk:Nat->Nat)(UR:∀s,s<n->∀m,(true,m)∈ins s->m<n/\rk m<rk s):∀r s,s<n->rk s<r->s∈eC ins n r
 |0,s,_,h=>aa
 |r+1,s,hs,h=>by
  refine Fp ins _ s (fun m hm=>?_) n hs;obtain⟨h1,h2⟩:=UR s hs m hm;exact CV ins n rk UR r m h1 aa
theorem Mj(n:Nat)(l:List Nat)(hd:l.Nodup)(hl:∀x∈l,x<n)(h:∀s,s<n->s∈l):l.length=n:=by
 have h1:=vj n l hd hl;have h2:∀k,k<=n->∀l:List Nat,l.Nodup->(∀s,s<k->s∈l)->k<=l.length:=by
  intro k
  induction k with
  |zero=>intro _ l _ _;exact aU _
  |succ k ih =>
   intro hk l hd h;have h3:=ih aa (l.erase k) (hd.erase k) (fun s hs=>(hd.mem_erase_iff).2 ⟨aa,h s aa⟩);have h4:=List.length_erase (a:=k) (l:=l);rw[if_pos (h k aa)] at h4;have:0<l.length:=iw (h k aa);omega
 have:=h2 n (ag _) l hd h;omega
theorem Tj(ins:Nat->List (Bool×Nat))(n:Nat)(rk:Nat->Nat)(hb:∀s,s<n->rk s<n)(UR:∀s,s<n->∀m,(true,m)∈ins s->m<n/\rk m<rk s):
  (eC ins n n).length=n/\oK n (eC ins n n)/\(∀s,s<n->s∈eC ins n n)/\nQ ins (eC ins n n):=by
 have h1:=oK.all n ins n;have h2:∀s,s<n->s∈eC ins n n:=fun s hs=>CV ins n rk UR n s hs (hb s hs);exact⟨Mj n _ h1.1 h1.2 h2,h1,h2,nQ.all ins n n⟩
end
end Go.Proofs.Kz
namespace Go.Proofs
section
open Go.Shelf
end
end Go.Proofs
namespace Go.Proofs.Kz
open Go.Proofs.Tryz
open Go.Proofs.Tryz renaming prog → au
open _root_.ByteArray renaming empty → aO
open Go.Proofs
section
open Go.RowKit
theorem uA:∀a b:List UInt8,Op.bytesLess a b=decide (Lib.compareBytes a b<0)
 | [],[]=>by simp[Op.bytesLess,Lib.compareBytes]
 | [],_::_=>by simp[Op.bytesLess,Lib.compareBytes]
 |_::_,[]=>by simp[Op.bytesLess,Lib.compareBytes]
 |x::r,y::s=>by
  simp only[Op.bytesLess,Lib.compareBytes];by_cases h1:x<y
  ·simp[h1]
  ·by_cases h2:y<x
   ·have:x≠y:=fun e=>by subst e;exact UInt8.lt_irrefl _ h2
    simp[h1,h2,this]
   ·have e:x=y:=iq (UInt8.not_lt.1 h2) (UInt8.not_lt.1 h1);subst e;simp[h1,uA r s]
theorem GJ(less:Nat->Bool)(n:Nat)(hm:∀i j,i<=j->j<n->less j=true->less i=true):∀f lo hi,lo<=hi->hi<=n->hi-lo<=f->(∀t,t<lo->less t=true)->(∀t,hi<=t->t<n->less t=false) ->
  lo<=Lib.bsGo less f lo hi/\Lib.bsGo less f lo hi<=hi/\(∀t,t<Lib.bsGo less f lo hi->less t=true)/\∀t,Lib.bsGo less f lo hi<=t->t<n->less t=false
 |0,lo,hi,h1,h2,h3,h4,h5=>by
  have e:lo=hi:=aa;subst e;exact⟨ag _,ag _,h4,h5⟩
 |f+1,lo,hi,h1,h2,h3,h4,h5=>by
  simp only[Lib.bsGo];by_cases cy:lo<hi
  ·rw[if_pos cy];cases hl:less ((lo+hi)/2)
   ·simp only[aL,if_false];obtain⟨k1,k2,k3,k4⟩:=GJ less n hm f lo ((lo+hi)/2) aa aa aa h4 (fun t ht Z7=>by
     cases hq:less t
     ·rfl
     ·have:=hm _ t ht Z7 hq;rw[hl] at this;cases this)
    exact⟨k1,aa,k3,k4⟩
   ·simp only[if_true];obtain⟨k1,k2,k3,k4⟩:=GJ less n hm f ((lo+hi)/2+1) hi aa h2 aa (fun t ht=>hm t _ aa aa hl) h5;exact⟨aa,k2,k3,k4⟩
  ·rw[if_neg cy];have e:lo=hi:=aa;subst e;exact⟨ag _,ag _,h4,h5⟩
def mZ(xs:List af)(x:af):Nat:=Lib.bsGo (fun t=>Op.bytesLess (xs.getD t aO).toList x.toList) xs.length 0 xs.length
def pO(xs:List af)(x:af):Bool:=decide (mZ xs x<xs.length/\xs.getD (mZ xs x) aO=x)
theorem Mk(b c:Nat)(p:Option Addr)(xs:List af)(x:af)(w:ae)(hn:xs.length<=100000)(hp:xs≠[]->p=some ⟨b,0,none⟩)(ht:fy w b 0 xs):
  Calls au 77 #[.slice p xs.length c,.string x] w fun e w'=>e=.returned (.tuple #[.int .i64 (mZ xs x:Nat),.bool (pO xs x)])/\∃q,w'=w.drewN q:=by
 by_cases h0:xs=[]
 ·subst h0;exact(Any2.slices_BinarySearch_string_empty Tryz.Ja p c x w).mono fun e w' hq=>by
   obtain⟨rfl,rfl⟩:=hq;exact⟨by simp[mZ,pO,Lib.bsGo],0,rfl⟩
 ·obtain rfl:=hp h0;exact Any2.slices_BinarySearch_string Tryz.Ja b 0 xs.length c (fun j=>xs.getD j aO) x w aa fun j hj=>by
   rw[ht j hj];simp[hj]
def lK(xs:List af):Prop:=∀i j (hi:i<xs.length) (hj:j<xs.length),i<j->Lib.compareBytes xs[i].toList xs[j].toList<0
theorem yv(xs:List af)(hs:lK xs)(x:af):pO xs x=true↔x∈xs:=by
 have Nn:∀i j,i<=j->j<xs.length->Op.bytesLess (xs.getD j aO).toList x.toList=true->Op.bytesLess (xs.getD i aO).toList x.toList=true:=by
  intro i j E7 hj hl;by_cases e:i=j
  ·subst e;exact hl
  ·rw[uA] at *;have hi:i<xs.length:=aa;have h1:=hs i j hi hj aa;simp only[List.getD_eq_getElem?_getD,bo hi,bo hj,bq,decide_eq_true_eq] at *;exact nP _ _ _ h1 hl
 obtain⟨k1,k2,k3,k4⟩:=GJ _ xs.length Nn xs.length 0 xs.length (aU _) (ag _) aa (fun t ht=>aa) (fun t ht h=>aa);constructor
 ·intro h;simp only[pO,decide_eq_true_eq] at h;obtain⟨h1,h2⟩:=h;rw[<- h2];simp[h1]
 ·intro hx;obtain⟨j,hj,rfl⟩:=bc hx;have R7:Op.bytesLess (xs.getD j aO).toList xs[j].toList=false:=by
   rw[uA];simp[hj,pX]
  have hle:mZ xs xs[j]<=j:=de fun cy=>by
   have:=k3 j cy;rw[R7] at this;cases this
  have Pf:j<=mZ xs xs[j]:=de fun cy=>by
   have h1:=k4 (mZ xs xs[j]) (ag _) aa;have hp:mZ xs xs[j]<xs.length:=aa;have h2:=hs (mZ xs xs[j]) j hp hj cy;rw[uA] at h1;simp only[List.getD_eq_getElem?_getD,bo hp,bq] at h1;simp at h1;omega
  have e:mZ xs xs[j]=j:=aa;simp only[pO,decide_eq_true_eq];rw[e];exact⟨hj,by simp[hj]⟩
end
section
open Go.RowKit
theorem Wj:(au.info? 280).map (fun i=>(i.zero,i.size,i.bytes))=some (some (.agg #[.bool false,.int .i64 0]),2,16):=ah
theorem GK(w:ae)(n:Nat)(hn:n<=100000):(Instr.makeSlice 218 (.int .i64 (n:Int)) (.int .i64 (n:Int))).run au w=.ok (.slice (some ⟨w.heap.size,0,none⟩) n n) (w.alloc (.cells (madeCells #[.bool false,.int .i64 0] (n*2)) 280)):=by
 obtain⟨i,hi,hz⟩:=Option.map_eq_some_iff.1 Wj;simp only[bt] at hz;obtain⟨hz,hs,hb⟩:=hz;have:=run_make (P:=au) w 218 280 i _ underlying218 hi hz .i64 .i64 n n aa (fK _) (by rw[hb];omega) aa;rw[this,hs];simp[Value.cells]
def kK(l:List (Bool×Nat))(j:Nat):Value:=if j%2=0 then .bool (l.getD (j/2) (false,0)).1 else .int .i64 ((l.getD (j/2) (false,0)).2:Nat)
def rj(outs sources:List af)(x:af):Bool×Nat:=(pO outs x,if pO outs x then mZ outs x else mZ sources x)
theorem uB(b c:Nat)(p:Option Addr)(xs:List af)(x:af)(w:ae)(hn:xs.length<=100000)(hp:xs≠[]->p=some ⟨b,0,none⟩)(ht:fy w b 0 xs):
  Calls au 77 #[.slice p xs.length c,.string x] w fun e w'=>e=.returned (.tuple #[.int .i64 (mZ xs x:Nat),.bool (pO xs x)])/\w'.heap=w.heap/\∀w0 B,Below B w0 w->Below B w0 w' :=
 (Mk b c p xs x w hn hp ht).mono fun e w' ⟨h1,q,h2⟩=>⟨h1,by rw[h2];rfl,fun w0 B hb=>by rw[h2];exact⟨hb.os,hb.tape,hb.output,hb.size,hb.block⟩⟩
theorem mC{w w':ae}(h:w'.heap=w.heap)(a:Addr):w'.cell? a=w.cell? a:=by simp[World.cell?,h]
theorem uC{w w':ae}(h:w'.heap=w.heap)(a:Addr):w'.frozen? a=w.frozen? a:=by simp[World.frozen?,h]
theorem Tk{w:ae}{B t n k:Nat}{lk:List (Bool×Nat)}{b:Bool}{m:Nat}(cj:w.rowIs B t (n*2) fun j=>if j<k*2 then kK lk j else kK [] j)(hl:lk.getD k (false,0)=(b,m)):
  ((w.setCell ⟨B,k*2,none⟩ (.bool b)).setCell ⟨B,k*2+1,none⟩ (.int .i64 m)).rowIs B t (n*2) fun j=>if j<(k+1)*2 then kK lk j else kK [] j:=by
 refine((cj.set (k*2) _).set (k*2+1) _).congr fun j hj=>?_;by_cases e1:j=k*2+1
 ·subst e1;rw[if_pos rfl,if_pos aa];have h1:(k*2+1)%2=1:=aa;have h2:(k*2+1)/2=k:=aa;simp only[kK,h1,h2,hl];rfl
 ·by_cases e2:j=k*2
  ·subst e2;rw[if_neg e1,if_pos rfl,if_pos aa];have h1:(k*2)%2=0:=aa;have h2:(k*2)/2=k:=aa;simp only[kK,h1,h2,hl];rfl
  ·rw[if_neg e1,if_neg e2];by_cases e3:j<k*2
   ·rw[if_pos e3,if_pos aa]
   ·rw[if_neg e3,if_neg aa]
theorem Ml(nb nc ob oc sb sc:Nat)(np sp:Option Addr)(names outs sources:List af)(w:ae)(h1:names.length<=100000)(h2:outs.length<=100000)(h3:sources.length<=100000)(vB:names≠[]->np=some ⟨nb,0,none⟩/\nb<w.heap.size)(vx:sources≠[]->sp=some ⟨sb,0,none⟩/\sb<w.heap.size)(ga:ob<w.heap.size)(hn:fy w nb 0 names)(ho:fy w ob 0 outs)(hs:fy w sb 0 sources):
  Calls au 149 #[.slice np names.length nc,.slice (some ⟨ob,0,none⟩) outs.length oc,.slice sp sources.length sc] w fun e w'=>e=.returned (.slice (some ⟨w.heap.size,0,none⟩) names.length names.length)/\Below w.heap.size w w'/\w.heap.size<w'.heap.size /\
   w'.rowIs w.heap.size 280 (names.length*2) (kK (names.map (rj outs sources))):=by
 have Je:=fun w=>GK w names.length h1;go_enter func149,ntmps149;go_wp2;go_loopw [17] (fun i w'=>∃k:Nat,k<=names.length/\i=.int .i64 k/\Below w.heap.size w w'/\w.heap.size<w'.heap.size/\w'.rowIs w.heap.size 280 (names.length*2) (fun j=>if j<k*2 then kK (names.map (rj outs sources)) j else kK [] j)) (fun i _=>names.length-(intOf i).toNat)
 case atStart =>
  refine⟨0,aU _,rfl,(Below.refl _ _).alloc (ag _) _,aj,_,jR _ _,by simp[size_madeCells],fun j hj=>?_⟩;simp only[madeCells,aK,Array.getElem?_range,hj,if_true,aJ];rcases fg j with e|e<;>simp[e,kK]
 case round =>
  obtain⟨k,hk,rfl,gw,hz,cj⟩:=hrel;by_cases cy:k<names.length
  ·obtain⟨rfl,Gh⟩:=vB (fun e=>by rw[e] at cy;simp at cy);have c0:=hn.below Gh gw k cy;rw[bB] at c0;have VU:=uB ob oc (some ⟨ob,0,none⟩) outs names[k] wr h2 (fun _=>rfl) (ho.below ga gw);have hss:∀w2:ae,w2.heap=wr.heap->Calls au 77 #[.slice sp sources.length sc,.string names[k]] w2 fun e w'=>e=.returned (.tuple #[.int .i64 (mZ sources names[k]:Nat),.bool (pO sources names[k])])/\w'.heap=w2.heap/\∀w0 B,Below B w0 w2->Below B w0 w':=fun w2 uS =>
    uB sb sc sp sources names[k] w2 h3 (fun h=>(vx h).1) (fun j hj=>by
     obtain⟨_,XN⟩:=vx (fun e=>by rw[e] at hj;simp at hj);rw[mC uS];exact hs.below XN gw j hj)
   have d0:wr.cell? ⟨w.heap.size,k*2,none⟩=some (.bool false):=by rw[cj.cell aa,if_neg aa];simp[kK]
   have d1:wr.cell? ⟨w.heap.size,k*2+1,none⟩=some (.int .i64 0):=by rw[cj.cell aa,if_neg aa];simp[kK]
   have f0:∀j,wr.frozen? ⟨w.heap.size,j,none⟩=false:=fun j=>cj.frozen j;have NT:(names.map (rj outs sources)).getD k (false,0)=rj outs sources names[k]:=by simp[cy]
   generalize hx:names[k]=x at *;have O0:rj outs sources x=(pO outs x,if pO outs x then mZ outs x else mZ sources x):=rfl;clear hn ho hs vB;generalize pO outs x=ho at *;generalize mZ outs x=po at *;generalize mZ sources x=ps at *;generalize pO sources x=ts at *;generalize names.map (rj outs sources)=lk at *;generalize rj outs sources x=lx at *;cases ho
   ·go_wp2_with (first|(go_at_call 77;refine uZ.mono ?_;rintro e w3 ⟨rfl,US,xn⟩;have g0:=(mC (US.trans uS) _).trans d0;have g1:=(mC (US.trans uS) _).trans d1;have g2:=fun j=>(uC (US.trans uS) _).trans (f0 j))|(go_at_call 77;refine VU.mono ?_;rintro e w2 ⟨rfl,uS,pA⟩;have uZ:=hss w2 uS));refine⟨⟨k+1,aa,by go_num,((xn _ _ (pA _ _ gw)).setCell (ag _) _).setCell (ag _) _,?_,?_⟩,by simp[intOf];omega⟩
    ·simp[World.setCell,US,uS];exact hz
    ·exact Tk (cj.of_block (by rw[US,uS])) (by rw[NT,O0];rfl)
   ·go_wp2_with (go_at_call 77;refine VU.mono ?_;rintro e w2 ⟨rfl,uS,pA⟩;have g0:=(mC uS _).trans d0;have g1:=(mC uS _).trans d1;have g2:=fun j=>(uC uS _).trans (f0 j));refine⟨⟨k+1,aa,by go_num,((pA _ _ gw).setCell (ag _) _).setCell (ag _) _,?_,?_⟩,by simp[intOf];omega⟩
    ·simp[World.setCell,uS];exact hz
    ·exact Tk (cj.of_block (by rw[uS])) (by rw[NT,O0];rfl)
  ·go_wp2;go_ret;exact⟨rfl,gw,hz,cj.congr fun i hi=>by rw[if_pos aa]⟩
end
section
open Go.RowKit
def tq(outs:List af)(l:List af):List af:=l.filter fun x=>!Lib.containsS outs x
def lD(outs:List af)(nm:Nat->List af):Nat->List af
 |0=>[]
 |k+1=>lD outs nm k++tq outs (nm k)
theorem oM(outs:List af)(nm:Nat->List af)(n:Nat)(h:∀i,i<n->(nm i).length<=4):∀k,k<=n->(lD outs nm k).length<=4*k
 |0,_=>by simp[lD]
 |k+1,hk=>by
  have h1:=oM outs nm n h k aa;have h2:=h k aa;have h3:(tq outs (nm k)).length<=(nm k).length:=ff _ _;simp[lD];omega
theorem Mm(outs:List af)(l:List af)(j:Nat)(h:j<l.length):tq outs (l.take (j+1))=tq outs (l.take j)++(if Lib.containsS outs l[j] then[] else[l[j]]):=by
 rw[take_succ l j h];simp only[tq,List.filter_append,List.filter_cons,List.filter_nil];cases Lib.containsS outs l[j]<;>simp
structure yx(w:ae)(b:Nat)(rs:List aI)(nm:Nat->List af)(nb:Nat->Nat):Prop where
 at_:eU w b rs
 len:∀i (h:i<rs.length),rs[i].sl=(nm i).length
 ptr:∀i (h:i<rs.length),nm i≠[]->rs[i].sa=some ⟨nb i,0,none⟩/\nb i<w.heap.size
 txt:∀i,i<rs.length->fy w (nb i) 0 (nm i)
 four:∀i,i<rs.length->(nm i).length<=4
theorem yy(b c:Nat)(xs:List af)(x:af)(w:ae)(hn:xs.length<=100000)(ht:fy w b 0 xs):
  Calls au 80 #[.slice (some ⟨b,0,none⟩) xs.length c,.string x] w fun e w'=>e=.returned (.bool (Lib.containsS xs x))/\w'=w:=by
 have:=Tryz.slices_Contains_string b 0 xs.length c xs x w (ag _) aa (fun j hj=>by rw[ht j hj];simp[hj]);rw[cS] at this;exact this
theorem qt(W:ae)(lo:Nat)(v:Value)(xs:List af)(x:af)(A:Nat)(h:W.ownsRow lo 9 1 v xs.length (xs.map .string))(hn:xs.length<=100000)(vF:lo<=W.heap.size)(ha:W.cell? ⟨A,0,none⟩=some (.string x)):
  ∃v' W',(Builtin.append_ #[40,40] 40 #[v,.slice (some ⟨A,0,none⟩) 1 1]).run au W=.ok v' W'/\W'.ownsRow lo 9 1 v' (xs++[x]).length ((xs++[x]).map .string)/\W.grownBy W' v.ownBlock:=by
 obtain⟨i,hi,od⟩:=Option.map_eq_some_iff.1 qo;simp only[bt] at od;obtain⟨v',W',e1,e2,e3,_⟩:=run_append_own (P:=au) W lo 40 40 9 i _ 1 16 underlying40 hi od.1 od.2.1 od.2.2 rfl aa v xs.length (xs.map .string) h ⟨A,0,none⟩ 1 1 [.string x] rfl (fun j u hj=>by
  cases j with
  |zero=>simp at hj;subst hj;simpa[Addr.add] using ha
  |succ j=>simp at hj) (by simp;rfl) (by simp[maxLen];omega) aa vF
 exact⟨v',W',e1,by simpa using e2,e3⟩
theorem zF{w:ae}{lo e sz n:Nat}{v:Value}{xs:List Value}(h:w.ownsRow lo e sz v n xs):∀k,v.ownBlock=some k->lo<=k:=fun k hk=>by
 obtain⟨_,hc⟩:=h;rcases hc with⟨rfl,_⟩|⟨g,cap,cur,rfl,h1,_⟩
 ·cases hk
 ·cases hk;exact h1
end
section
open Go.RowKit
theorem pZ{w:ae}{lo e sz n:Nat}{v:Value}{xs:List Value}(h:w.ownsRow lo e sz v n xs)(x:Obj):(w.alloc x).ownsRow lo e sz v n xs:=dD h fun g hg Tb=>by
 obtain⟨_,hc⟩:=h;rcases hc with⟨rfl,_⟩|⟨g',cap,cur,rfl,h5,h6,_⟩
 ·cases hg
 ·have e:g=g':=aQ hg;subst e;exact Below.heap_alloc _ _ _ (Array.getElem?_eq_some_iff.1 h6).1
theorem GL(b c ob oc:Nat)(p:Option Addr)(rs:List aI)(nm:Nat->List af)(nb:Nat->Nat)(outs:List af)(w:ae)(h1:rs.length<=1000)(h2:outs.length<=100000)(hp:rs≠[]->p=some ⟨b,0,none⟩/\b<w.heap.size)(ga:ob<w.heap.size)(hr:yx w b rs nm nb)(ho:fy w ob 0 outs){S C:ae->Value->ae->Prop}(Q2:∀W v,W.ownsRow w.heap.size 9 1 v (lD outs nm rs.length).length ((lD outs nm rs.length).map .string)->Calls au 188 #[v] W fun e w'=>e=.returned (.tuple #[])/\S W v w')(hco:∀W v W1,W.ownsRow w.heap.size 9 1 v (lD outs nm rs.length).length ((lD outs nm rs.length).map .string)->S W v W1->Calls au 189 #[v] W1 fun e w'=>∃v',e=.returned v'/\C W v' w'):
  Calls au 148 #[.slice p rs.length c,.slice (some ⟨ob,0,none⟩) outs.length oc] w fun e w'=>∃v' W,e=.returned v'/\Below w.heap.size w W/\w.heap.size<=W.heap.size/\C W v' w':=by
 go_enter func148,ntmps148;go_wp2;go_loopw [5,12] (fun v i w'=>∃k:Nat,k<=rs.length/\i=.int .i64 k/\Below w.heap.size w w'/\w.heap.size<=w'.heap.size/\w'.ownsRow w.heap.size 9 1 v (lD outs nm k).length ((lD outs nm k).map .string)) (fun v i _=>rs.length-(intOf i).toNat)
 case atStart=>exact⟨0,aU _,rfl,Below.refl _ _,ag _,by simp[lD],.inl ⟨rfl,rfl⟩⟩
 case round =>
  obtain⟨k,hk,rfl,gw,hz,cj⟩:=hrel;by_cases cy:k<rs.length
  ·obtain⟨rfl,hb⟩:=hp (fun e=>by rw[e] at cy;simp at cy);obtain⟨c0,c1,c2⟩:=hr.at_.below hb gw k cy;have hlen:=hr.len k cy;have adz:=hr.ptr k cy;have Q6:=hr.txt k cy;have h4:=hr.four k cy;have X7:=oM outs nm rs.length hr.four k hk;have Ej:lD outs nm (k+1)=lD outs nm k++tq outs (nm k):=rfl;generalize lD outs nm k=raw at *;generalize hri:rs[k]=r at *;obtain⟨out,eR,sa,sl,sc⟩:=r;simp only at c0 c1 c2 hlen adz;subst hlen;go_wp2;go_loopw [5,19] (fun v i w'=>∃j:Nat,j<=(nm k).length/\i=.int .i64 j/\Below w.heap.size w w'/\w.heap.size<=w'.heap.size/\w'.ownsRow w.heap.size 9 1 v (raw++tq outs ((nm k).take j)).length ((raw++tq outs ((nm k).take j)).map .string)) (fun v i _=>(nm k).length-(intOf i).toNat)
   case atStart=>exact⟨0,aU _,rfl,gw.alloc aa _,dV,by simpa[tq] using pZ cj _⟩
   case round =>
    clear gw hz cj;obtain⟨j,hj,rfl,gw,hz,cj⟩:=hrel;by_cases tD:j<(nm k).length
    ·obtain⟨rfl,Gh⟩:=adz (fun e=>by rw[e] at tD;simp at tD);have d0:=Q6.below Gh gw j tD;rw[bB] at d0;have vL:=yy ob oc outs (nm k)[j] wr h2 (ho.below ga gw);have Ra:=Mm outs (nm k) j tD;generalize hx:(nm k)[j]=x at *;have Bp:(tq outs ((nm k).take j)).length<=j:=aW (ff _ _) dV;cases Qc:Lib.containsS outs x
     ·rw[Qc] at vL Ra;simp only[aL,if_false] at Ra;obtain⟨v',W',e1,e2,e3⟩:=qt (wr.alloc (.cells #[.string x] 9)) w.heap.size _ _ x wr.heap.size (pZ cj _) dV dV (sN _ _ _ 0);have xn:=Below.grown (gw.alloc aa _) e3 dV (zF cj);go_wp2_with (first|(go_at_call 80;refine vL.mono ?_;rintro e w' ⟨rfl,rfl⟩)|(at_builtin;refine gm rfl _ _ 40 rfl rfl rfl e1 ?_));exact⟨⟨j+1,aa,by go_num,xn,xn.size,by rw[Ra,<- List.append_assoc];exact e2⟩,by simp[intOf];omega⟩
     ·rw[Qc] at vL Ra;simp only[if_true,List.append_nil] at Ra;go_wp2_with (go_at_call 80;refine vL.mono ?_;rintro e w' ⟨rfl,rfl⟩);exact⟨⟨j+1,aa,by go_num,gw,hz,by rw[Ra];exact cj⟩,by simp[intOf];omega⟩
    ·have e:j=(nm k).length:=aa;subst e;rw[cS] at cj;go_wp2;exact⟨⟨k+1,aa,by go_num,gw,hz,by rw[Ej];exact cj⟩,by simp[intOf];omega⟩
  ·have e:k=rs.length:=aa;subst e;have hs:=Q2 _ _ cj;go_wp2_with (first|(go_at_call 188;refine hs.mono ?_;rintro e w' ⟨rfl,hS⟩;have hc:=hco _ _ _ cj hS)|(go_at_call 189;refine hc.mono ?_;rintro e w2 ⟨v',rfl,hC⟩));go_ret;exact⟨v',wr,rfl,gw,hz,hC⟩
end
section
open Go.RowKit Go.Sort Go.Lib
def bytesOf(x:af):List UInt8:=x.data.toList
def kj(raw:List af):List (List UInt8):=(raw.map bytesOf).mergeSort fun x y=>decide (x<=y)
def cX(raw:List af):List af:=(Lib.compact (kj raw)).map fun l=>⟨l.toArray⟩
theorem Tl(w:ae):Calls au 188 #[.slice none 0 0] w fun e w'=>e=.returned (.tuple #[])/\w'.heap=w.heap:=by
 have hl:=GF 0 w aa;have h2:∀W,Calls au 225 #[.slice none 0 0,.int .i64 0,.int .i64 0] W fun e w'=>e=.returned (.tuple #[])/\w'.heap=W.heap:=fun W=>by
  go_enter func225,ntmps225;go_wp2;refine wp_loop_rounds 1 ?_;rw[rounds_succ];go_wp2
  go_end0
  exact⟨rfl,rfl⟩
 have h3:∀W lim,Calls au 207 #[.slice none 0 0,.int .i64 0,.int .i64 0,.int .i64 lim] W fun e w'=>e=.returned (.tuple #[])/\w'.heap=W.heap:=fun W lim=>by
  go_enter func207,ntmps207;go_wp2;refine wp_loop_rounds 1 ?_;rw[rounds_succ];go_wp2_with (go_at_call 225;refine(h2 _).mono ?_;rintro e w' ⟨rfl,hw⟩)
  (try simp only[Exit.inBlock,Exit.then])
  refine bodyPost_ret (results_none ah _ _).1 rfl ?_;exact⟨rfl,hw⟩
 go_enter func188,ntmps188;go_wp2_with (first|(go_at_call 205;refine hl.mono ?_;rintro e w' ⟨⟨l,rfl⟩,rfl⟩)|(go_at_call 207;refine(h3 _ _).mono ?_;rintro e w' ⟨rfl,hw⟩))
 go_end0
 exact⟨rfl,hw⟩
def Tm(lo:Nat)(raw:List af)(W:ae)(v:Value)(W1:ae):Prop :=
 (v=.slice none 0 0/\raw=[]/\W1.heap=W.heap)\/∃g cap,v=.slice (some ⟨g,0,none⟩) raw.length cap/\raw.length<=cap/\lo<=g/\g<W.heap.size/\W.heap.size<=W1.heap.size/\(∀b,b<W.heap.size->b≠g->W1.heap[b]?=W.heap[b]?)/\Holds encStr W1 g 0 (kj raw).toArray
theorem sd(raw:List af):(kj raw).length=raw.length:=by simp[kj,List.length_mergeSort]
theorem Tn(lo:Nat)(raw:List af)(W:ae)(v:Value)(h:W.ownsRow lo 9 1 v raw.length (raw.map .string))(hn:raw.length<=100000):
  Calls au 188 #[v] W fun e w'=>e=.returned (.tuple #[])/\Tm lo raw W v w':=by
 obtain⟨_,hc⟩:=h;rcases hc with⟨rfl,h0⟩|⟨g,cap,cur,rfl,h1,h2,h3,h4,h5,h6⟩
 ·exact(Tl W).mono fun e w' ⟨h1,h2⟩=>⟨h1,.inl ⟨rfl,List.length_eq_zero_iff.1 h0,h2⟩⟩
 ·have hg:g<W.heap.size:=(Array.getElem?_eq_some_iff.1 h2).1;have hH:Holds encStr W g 0 (raw.map bytesOf).toArray:=fun j hj=>by
   have r8:j<raw.length:=by simpa using hj
   rw[bB];refine⟨?_,by simp[World.frozen?,h2]⟩;have e:(raw.map Value.string)[j]?=cur[j]?:=by
    rw[<- h6,fD aa,Array.getElem?_toList]
   simp only[World.cell?,h2];simp only[Option.isSome_none,aL,if_false];rw[<- e];simp[r8,encStr,bytesOf]
  have hs:=Tryz.slices_Sort_string g 0 cap (raw.map bytesOf) W hH hg dV;rw[bP] at hs;refine hs.mono fun e w' hq=>?_;obtain⟨rfl,n,os,rfl⟩:=hq;have pA:g<(putRow encStr (Go.Sort.ahead W n) g 0 (kj raw).toArray).heap.size:=by simp[putRow,mapBlock,Go.Sort.ahead];exact hg
  refine⟨rfl,.inr ⟨g,cap,rfl,h3,h1,hg,?_,fun b hb dH=>?_,?_⟩⟩
  ·simp[Go.Sort.grow,putRow,mapBlock,Go.Sort.ahead]
  ·rw[heap_grow_old _ _ (by simp[putRow,mapBlock,Go.Sort.ahead];exact hb)];simp only[putRow,mapBlock,Go.Sort.ahead];rw[aR,if_neg (fun e=>dH e.symm)]
  ·exact holds_grow encStr _ os g 0 _ pA (holds_putRow encStr _ g 0 _ _ hH (by simp[List.length_mergeSort]))
end
section
open Go.RowKit Go.Sort Go.Lib
def Z8(lo:Nat)(raw:List af)(W:ae)(v:Value)(W1:ae):Prop :=
 (v=.slice none 0 0/\cX raw=[]/\W1.heap=W.heap)\/∃g cap,v=.slice (some ⟨g,0,none⟩) (cX raw).length cap/\(cX raw).length<=cap/\lo<=g/\g<W.heap.size/\W.heap.size<=W1.heap.size/\(∀b,b<W.heap.size->b≠g->W1.heap[b]?=W.heap[b]?)/\fy W1 g 0 (cX raw)
theorem CW{α:Type}[Inhabited α][DecidableEq α](zs:List α):(Lib.compact zs).length<=zs.length:=by
 unfold Lib.compact Lib.compactUpTo;rw[bP];exact aW (ff _ _) aj
theorem JF(lo:Nat)(raw:List af)(W:ae)(v:Value)(W1:ae)(hn:raw.length<=100000)(hS:Tm lo raw W v W1):
  Calls au 189 #[v] W1 fun e w'=>∃v',e=.returned v'/\Z8 lo raw W v' w':=by
 rcases hS with⟨rfl,rfl,h0⟩|⟨g,cap,rfl,h1,h2,h3,h4,h5,h6⟩
 ·refine(Tryz.slices_Compact_string_empty none 0 W1).mono fun e w' hq=>?_;obtain⟨rfl,rfl⟩:=hq;exact⟨_,rfl,.inl ⟨rfl,by simp[cX,kj,Lib.compact,Lib.compactUpTo],h0⟩⟩
 ·have hc:=Tryz.slices_Compact_string g 0 cap (kj raw) W1 h6 (by rw[sd];omega) (by rw[sd];exact h1);rw[sd] at hc;refine hc.mono fun e w' hq=>?_;obtain⟨rfl,q,rfl⟩:=hq;have hle:(Lib.compact (kj raw)).length<=raw.length:=by rw[<- sd raw];exact CW _
  have hl:(cX raw).length=(Lib.compact (kj raw)).length:=by simp[cX]
  refine⟨_,rfl,.inr ⟨g,cap,by rw[hl],aa,h2,h3,?_,fun b hb dH=>?_,fun k hk=>?_⟩⟩
  ·simp[putRow,mapBlock,Go.Sort.ahead];exact h4
  ·simp only[putRow,mapBlock,Go.Sort.ahead];rw[aR,if_neg (fun e=>dH e.symm)];exact h5 b hb dH
  ·have lP:k<(Lib.compact (kj raw)).length:=aa;have:=(holds_putRow encStr (Go.Sort.ahead W1 q) g 0 _ (Lib.compact (kj raw)++List.replicate (raw.length-(Lib.compact (kj raw)).length) []).toArray h6 (by simp[sd];omega) k dV).1;rw[this];rw[eN _ k dV];simp only[List.getElem_toArray];rw[bT lP];simp[cX,encStr]
theorem Ek(b c ob oc:Nat)(p:Option Addr)(rs:List aI)(nm:Nat->List af)(nb:Nat->Nat)(outs:List af)(w:ae)(h1:rs.length<=1000)(h2:outs.length<=100000)(hp:rs≠[]->p=some ⟨b,0,none⟩/\b<w.heap.size)(ga:ob<w.heap.size)(hr:yx w b rs nm nb)(ho:fy w ob 0 outs):
  Calls au 148 #[.slice p rs.length c,.slice (some ⟨ob,0,none⟩) outs.length oc] w fun e w'=>∃v' W,e=.returned v'/\Go.RowKit.Below w.heap.size w W/\w.heap.size<=W.heap.size/\Z8 w.heap.size (lD outs nm rs.length) W v' w':=by
 have hl:=oM outs nm rs.length hr.four rs.length (ag _);exact GL b c ob oc p rs nm nb outs w h1 h2 hp ga hr ho (S:=Tm w.heap.size (lD outs nm rs.length)) (C:=Z8 w.heap.size (lD outs nm rs.length)) (fun W v h=>Tn _ _ W v h aa) (fun W v W1 _ hS=>JF _ _ W v W1 aa hS)
end
section
open Go.Lib
theorem Z9(a b:List UInt8):a<b↔compareBytes a b<0:=by
 have h1:=uA a b;rw[bytesLess_eq] at h1;exact decide_eq_decide.1 h1
theorem Mn(a b:List UInt8):a<=b↔compareBytes a b<=0:=by
 have h:=r9 a b;rw[show a<=b↔¬b<a from cZ,Z9];omega
theorem GM(a b c:List UInt8)(h1:compareBytes a b<=0)(h2:compareBytes b c<=0):compareBytes a c<=0:=by
 rcases gU h1 with h3|h3
 ·rcases gU h2 with h4|h4
  ·exact Int.le_of_lt (nP a b c h3 h4)
  ·rw[<- sM b c h4];omega
 ·rw[sM a b h3];exact h2
theorem Qd(a b c:List UInt8)(h1:compareBytes a b<=0)(h2:compareBytes b c<0):compareBytes a c<0:=by
 rcases gU h1 with h3|h3
 ·exact nP a b c h3 h2
 ·rw[sM a b h3];exact h2
theorem GN(raw:List af):(kj raw).Pairwise fun x y=>compareBytes x y<=0:=by
 have h:=List.pairwise_mergeSort (le:=fun x y:List UInt8=>decide (x<=y)) (fun a b c h1 h2=>by
  simp only[decide_eq_true_eq,Mn] at *;exact GM a b c h1 h2) (fun a b=>by
  have:=r9 a b;simp only[Bool.or_eq_true,decide_eq_true_eq,Mn];omega) (raw.map bytesOf)
 exact h.imp fun h=>(Mn _ _).1 (by simpa using h)
theorem uD(d:Array (List UInt8))(hs:∀i j,i<j->j<d.size->compareBytes d[i]! d[j]!<=0):∀m,m<=d.size->(compactUpTo d m).Pairwise (fun x y=>compareBytes x y<0)/\(∀x,x∈compactUpTo d m↔∃j,j<m/\x=d[j]!)
 |0,_=>by simp[compactUpTo]
 |m+1,hm=>by
  obtain⟨k1,k2⟩:=uD d hs m aa;rw[compactUpTo_succ];cases hk:keeps d m
  ·simp only[keeps,decide_eq_false_iff_not,not_or] at hk;have e:d[m]! = d[m-1]!:=Classical.not_not.1 hk.2;simp only[aL,if_false,List.append_nil];refine⟨k1,fun x=>⟨fun h=>?_,fun⟨j,hj,hx⟩=>?_⟩⟩
   ·obtain⟨j,hj,hx⟩:=(k2 x).1 h;exact⟨j,aa,hx⟩
   ·by_cases ej:j=m
    ·subst ej;rw[e] at hx;exact(k2 x).2 ⟨j-1,aa,hx⟩
    ·exact(k2 x).2 ⟨j,aa,hx⟩
  ·simp only[if_true];refine⟨?_,fun x=>⟨fun h=>?_,fun⟨j,hj,hx⟩=>?_⟩⟩
   ·rw[List.pairwise_append];refine⟨k1,aj,fun x hx y hy=>?_⟩;simp at hy;subst hy;obtain⟨j,hj,rfl⟩:=(k2 x).1 hx;simp only[keeps,decide_eq_true_eq] at hk;have lP:d[m]!≠d[m-1]!:=hk.resolve_left aa;have h1:compareBytes d[m-1]! d[m]!<0:=by
     have:=hs (m-1) m aa aa;rcases gU this with h|h
     ·exact h
     ·exact absurd (sM _ _ h).symm lP
    by_cases ej:j=m-1
    ·subst ej;exact h1
    ·exact Qd _ _ _ (hs j (m-1) aa aa) h1
   ·rw[gH] at h;rcases h with h|h
    ·obtain⟨j,hj,hx⟩:=(k2 x).1 h;exact⟨j,aa,hx⟩
    ·simp at h;exact⟨m,aa,h⟩
   ·rw[gH];by_cases ej:j=m
    ·subst ej;exact .inr (by simp[hx])
    ·exact .inl ((k2 x).2 ⟨j,aa,hx⟩)
theorem oO(raw:List af):lK (cX raw)/\∀x,x∈cX raw↔x∈raw:=by
 have hs:=GN raw;obtain⟨k1,k2⟩:=uD (kj raw).toArray (fun i j E7 hj=>by
  have r8:j<(kj raw).length:=by simpa using hj
  rw[eN _ i dV,eN _ j hj];exact List.pairwise_iff_getElem.1 hs i j aa r8 E7) (kj raw).length aj
 refine⟨fun i j hi hj E7=>?_,fun x=>?_⟩
 ·have ma:i<(Lib.compact (kj raw)).length:=by simpa[cX] using hi
  have r8:j<(Lib.compact (kj raw)).length:=by simpa[cX] using hj
  have:=List.pairwise_iff_getElem.1 k1 i j ma r8 E7;simp only[cX,List.getElem_map,ByteArray.toList_mk];exact this
 ·have hb:∀l:List UInt8,l∈Lib.compact (kj raw)↔l∈raw.map bytesOf:=fun l=>by
   have h1:l∈Lib.compact (kj raw)↔l∈kj raw:=by
    rw[show Lib.compact (kj raw)=compactUpTo (kj raw).toArray (kj raw).length from rfl,k2];constructor
    ·rintro⟨j,hj,rfl⟩;rw[eN _ j (by simpa using hj)];simp
    ·intro h;obtain⟨j,hj,rfl⟩:=bc h;exact⟨j,hj,by rw[eN _ j (by simpa using hj)];simp⟩
   rw[h1];simp[kj,List.mem_mergeSort]
  simp only[cX,List.mem_map];constructor
  ·rintro⟨l,hl,rfl⟩;have:=(hb l).1 hl;rw[List.mem_map] at this;obtain⟨y,hy,rfl⟩:=this;exact hy
  ·intro hx;exact⟨bytesOf x,(hb _).2 (List.mem_map.2 ⟨x,hx,rfl⟩),rfl⟩
end
open Go.Ren Go.Conc Go.ConcN
section
variable {Fin:bK} {o:aM} {w:ae}
structure fT(o:aM)(w:ae)(v:Value)(o':aM)(w':ae):Prop where
 own:o'=grow o w w'
 aF:bM au L0 o' w'
 size:w.heap.size<=w'.heap.size
 old:∀b,b<w.heap.size->w'.heap[b]?=w.heap[b]?
 cl:Cl au L0 o' v
theorem NU{P:Program}{L:Nat->Bool}{o:aM}{vs:Array Value}(h:∀x∈vs,Cl P L o x):∀g,(mF P L o).has g->vs.map (val g)=vs:=fun g hg=>by
 apply ju;intro i;rw[aK];cases e:vs[i]? with
 |none=>rfl
 |some x=>rw[aJ,h x (dW e) g hg]
theorem eD{f:FuncId}{vs:Array Value}(hL:L0 f=true)(hF:bM au L0 o w)(uh:∀x∈vs,Cl au L0 o x){Q:ae->Value->ae->Prop}(hQ:∀wl A1 v w1 w2,A1.heap=wl.heap->w2.heap=w1.heap->Q wl v w1->Q A1 v w2)(hC:∀wl,wl.heap.size=w.heap.size->(∀b,o b->wl.heap[b]?=w.heap[b]?)->Calls au f vs wl fun e w'=>∃v,e=.returned v/\wl.heap.size<=w'.heap.size/\(∀b,b<wl.heap.size->w'.heap[b]?=wl.heap[b]?)/\Q wl v w'):
  bz au (XB au Fin 0) f vs o w fun v o' w'=>fT o w v o' w'/\∃wl aV,wl.heap.size=w.heap.size/\aV.heap.size=w'.heap.size/\(∀b,w.heap.size<=b->b<w'.heap.size->w'.heap[b]?=aV.heap[b]?)/\Q wl v aV:=by
 refine sJ bQ hL hF (NU uh) (R:=fun wl v aV=>wl.heap.size<=aV.heap.size/\(∀b,b<wl.heap.size->aV.heap[b]?=wl.heap[b]?)/\Q wl v aV) (fun wl v w1 τ d h=>⟨h.1,h.2.1,hQ wl wl v w1 (WT w1 τ d) rfl rfl h.2.2⟩) (fun wl τ d v w' h=>⟨h.1,h.2.1,hQ (WT wl τ d) wl v w' w' rfl rfl h.2.2⟩) (fun wl hz aT=>hC wl hz aT) ?_;rintro wl v aV w' hz aT ⟨h1,h2,h3⟩ B;refine⟨⟨rfl,B.aF,B.jj,fun b hb=>?_,B.val⟩,wl,aV,hz,B.size.symm,fun b hb nn=>B.same b (.inr ⟨hb,nn⟩),h3⟩;by_cases ho:o b
 ·rw[B.same b (.inl ho),h2 b aa,aT b ho]
 ·exact B.rest b hb ho
theorem gV{w w':ae}{b:Nat}{rs:List aI}(h:eU w b rs)(e:w'.heap[b]?=w.heap[b]?):eU w' b rs:=fun i hi=>by
 obtain⟨c0,c1,c2⟩:=h i hi;exact⟨(cell_of e).trans c0,(cell_of e).trans c1,(cell_of e).trans c2⟩
theorem dc{w w':ae}{b off:Nat}{ts:List af}(h:fy w b off ts)(e:w'.heap[b]?=w.heap[b]?):fy w' b off ts:=fun i hi=>(cell_of e).trans (h i hi)
theorem To(hF:bM au L0 o w)(b c:Nat)(p:Option Addr)(rs:List aI)(hn:rs.length<=100000)(hp:rs≠[]->p=some ⟨b,0,none⟩/\o b)(hv:eU w b rs)(hc:Cl au L0 o (.slice p rs.length c)):
  bz au (XB au Fin 0) 147 #[.slice p rs.length c] o w fun v o' w'=>fT o w v o' w'/\v=.slice (some ⟨w.heap.size,0,none⟩) rs.length rs.length/\w.heap.size<w'.heap.size/\fy w' w.heap.size 0 (rs.map (·.out)):=by
 have fu:∀x∈#[Value.slice p rs.length c],Cl au L0 o x:=fun x hx=>by
  simp at hx;subst hx;exact hc
 refine bz.mono (eD ah hF fu (Q:=fun wl v w'=>v=.slice (some ⟨wl.heap.size,0,none⟩) rs.length rs.length/\wl.heap.size<w'.heap.size/\w'.rowIs wl.heap.size 9 rs.length (fun j=>.string ((rs.map (·.out)).getD j aO))) (fun wl A1 v w1 w2 e1 e2 h=>?_) (fun wl hz aT=>?_)) (fun v o' w' hq=>?_)
 ·rw[e1,e2];exact⟨h.1,h.2.1,h.2.2.of_block (by rw[e2])⟩
 ·refine(Mi b c p rs wl hn (fun h=>⟨(hp h).1,by rw[hz];exact hF.lt (hp h).2⟩) ?_).mono fun e w' hq=>?_
  ·intro i hi;exact gV hv (aT b (hp (fun e=>by rw[e] at hi;simp at hi)).2) i hi
  ·obtain⟨rfl,h1,h2,h3⟩:=hq;exact⟨_,rfl,h1.size,fun b hb=>h1.block b hb,rfl,h2,h3⟩
 ·obtain⟨hN,wl,aV,z1,z2,hs,rfl,h2,h3⟩:=hq;rw[z1] at h2 h3 hN |-;refine⟨hN,rfl,aa,fun k hk=>?_⟩;have lP:k<rs.length:=by simpa using hk
  have:=(h3.of_block (hs _ (ag _) aa)).cell lP;rw[bB,this];simp[lP]
theorem jB{w w':ae}{St n:Nat}{out:Nat->af}{eR:Nat->Int}{ins:Nat->List (Bool×Nat)}{cM:Nat->Nat}(h:pN w St n out eR ins cM)(e:w'.heap[St]?=w.heap[St]?)(ei:∀s,s<n->w'.heap[cM s]?=w.heap[cM s]?)(hz:w.heap.size<=w'.heap.size):pN w' St n out eR ins cM where
 out s hs:=(cell_of e).trans (h.out s hs)
 eR s hs:=(cell_of e).trans (h.eR s hs)
 A0 s hs:=(cell_of e).trans (h.A0 s hs)
 CH s hs j hj:=⟨(cell_of (ei s hs)).trans (h.CH s hs j hj).1,(cell_of (ei s hs)).trans (h.CH s hs j hj).2⟩
 lt s hs:=bw (h.lt s hs) hz
 short:=h.short
theorem Qe(hF:bM au L0 o w)(St n sc:Nat)(out:Nat->af)(eR:Nat->Int)(ins:Nat->List (Bool×Nat))(cM:Nat->Nat)(hn:n<=1000)(Z3:o St)(eG:pN w St n out eR ins cM)(hio:∀s,s<n->o (cM s)):
  bz au (XB au Fin 0) 150 #[.slice (some ⟨St,0,none⟩) n sc] o w fun v o' w'=>fT o w v o' w'/\v=.slice (some ⟨w.heap.size,0,none⟩) (eC ins n n).length n/\w.heap.size<w'.heap.size/\lj w' w.heap.size n (eC ins n n):=by
 have fu:∀x∈#[Value.slice (some ⟨St,0,none⟩) n sc],Cl au L0 o x:=fun x hx=>by
  simp at hx;subst hx;exact dY Z3
 refine bz.mono (eD ah hF fu (Q:=fun wl v w'=>v=.slice (some ⟨wl.heap.size,0,none⟩) (eC ins n n).length n/\wl.heap.size<w'.heap.size/\lj w' wl.heap.size n (eC ins n n)) (fun wl A1 v w1 w2 e1 e2 h=>?_) (fun wl hz aT=>?_)) (fun v o' w' hq=>?_)
 ·rw[e1,e2];exact⟨h.1,h.2.1,World.rowIs.of_block h.2.2 (by rw[e2])⟩
 ·refine(JE St n sc out eR ins cM wl hn (by rw[hz];exact hF.lt Z3) (jB eG (aT St Z3) (fun s hs=>aT _ (hio s hs)) aa)).mono fun e w' hq=>?_;obtain⟨rfl,h1,h2,h3⟩:=hq;exact⟨_,rfl,h1.size,fun b hb=>h1.block b hb,rfl,h2,h3⟩
 ·obtain⟨hN,wl,aV,z1,z2,hs,rfl,h2,h3⟩:=hq;rw[z1] at h2 h3 hN |-;exact⟨hN,rfl,aa,World.rowIs.of_block h3 (hs _ (ag _) aa)⟩
theorem Tp(hF:bM au L0 o w)(nb nc ob oc sb sc:Nat)(np sp:Option Addr)(names outs sources:List af)(h1:names.length<=100000)(h2:outs.length<=100000)(h3:sources.length<=100000)(vB:names≠[]->np=some ⟨nb,0,none⟩/\o nb)(vx:sources≠[]->sp=some ⟨sb,0,none⟩/\o sb)(ga:o ob)(hn:fy w nb 0 names)(ho:fy w ob 0 outs)(hs:fy w sb 0 sources)(Vx:Cl au L0 o (.slice np names.length nc))(XA:Cl au L0 o (.slice sp sources.length sc)):
  bz au (XB au Fin 0) 149 #[.slice np names.length nc,.slice (some ⟨ob,0,none⟩) outs.length oc,.slice sp sources.length sc] o w fun v o' w'=>fT o w v o' w'/\v=.slice (some ⟨w.heap.size,0,none⟩) names.length names.length/\w.heap.size<w'.heap.size /\
   w'.rowIs w.heap.size 280 (names.length*2) (kK (names.map (rj outs sources))):=by
 have fu:∀x∈#[Value.slice np names.length nc,.slice (some ⟨ob,0,none⟩) outs.length oc,.slice sp sources.length sc],Cl au L0 o x:=fun x hx=>by
  simp at hx;rcases hx with rfl|rfl|rfl
  ·exact Vx
  ·exact dY ga
  ·exact XA
 refine bz.mono (eD ah hF fu (Q:=fun wl v w'=>v=.slice (some ⟨wl.heap.size,0,none⟩) names.length names.length/\wl.heap.size<w'.heap.size/\w'.rowIs wl.heap.size 280 (names.length*2) (kK (names.map (rj outs sources)))) (fun wl A1 v w1 w2 e1 e2 h=>?_) (fun wl hz aT=>?_)) (fun v o' w' hq=>?_)
 ·rw[e1,e2];exact⟨h.1,h.2.1,World.rowIs.of_block h.2.2 (by rw[e2])⟩
 ·refine(Ml nb nc ob oc sb sc np sp names outs sources wl h1 h2 h3 (fun h=>⟨(vB h).1,by rw[hz];exact hF.lt (vB h).2⟩) (fun h=>⟨(vx h).1,by rw[hz];exact hF.lt (vx h).2⟩) (by rw[hz];exact hF.lt ga) ?_ (dc ho (aT _ ga)) ?_).mono fun e w' hq=>?_
  ·intro i hi;exact dc hn (aT nb (vB (fun e=>by rw[e] at hi;simp at hi)).2) i hi
  ·intro i hi;exact dc hs (aT sb (vx (fun e=>by rw[e] at hi;simp at hi)).2) i hi
  obtain⟨rfl,h1,h2,h3⟩:=hq;exact⟨_,rfl,h1.size,fun b hb=>h1.block b hb,rfl,h2,h3⟩
 ·obtain⟨hN,wl,aV,z1,z2,hs,rfl,h2,h3⟩:=hq;rw[z1] at h2 h3 hN |-;exact⟨hN,rfl,aa,World.rowIs.of_block h3 (hs _ (ag _) aa)⟩
end
theorem Mo(v:Value)(p:Option Addr)(n c:Nat)(w:ae):Calls au 145 #[.slice p n c] w fun e w'=>e=.returned (.func (.func 186) #[] #[.pointer (some ⟨w.heap.size,0,none⟩)])/\w'=w.alloc (.cells #[.slice p n c] 35):=by
 go_enter func145,ntmps145;go_wp2;go_ret;exact⟨rfl,rfl⟩
section
variable {Fin:bK} {o:aM} {w:ae}
theorem Tq(hF:bM au L0 o w)(p:Option Addr)(n c:Nat)(hc:Cl au L0 o (.slice p n c)):
  bz au (XB au Fin 0) 145 #[.slice p n c] o w fun v o' w'=>fT o w v o' w'/\v=.func (.func 186) #[] #[.pointer (some ⟨w.heap.size,0,none⟩)]/\w.heap.size<w'.heap.size/\w'.heap[w.heap.size]?=some (.cells #[.slice p n c] 35):=by
 have fu:∀x∈#[Value.slice p n c],Cl au L0 o x:=fun x hx=>by
  simp at hx;subst hx;exact hc
 refine bz.mono (eD ah hF fu (Q:=fun wl v w'=>v=.func (.func 186) #[] #[.pointer (some ⟨wl.heap.size,0,none⟩)]/\wl.heap.size<w'.heap.size/\w'.heap[wl.heap.size]?=some (.cells #[.slice p n c] 35)) (fun wl A1 v w1 w2 e1 e2 h=>?_) (fun wl hz aT=>?_)) (fun v o' w' hq=>?_)
 ·rw[e1,e2];exact h
 ·refine(Mo undef p n c wl).mono fun e w' hq=>?_;obtain⟨rfl,rfl⟩:=hq;exact⟨_,rfl,aj,fun b hb=>Go.RowKit.Below.heap_alloc _ _ b hb,rfl,aj,jR _ _⟩
 ·obtain⟨hN,wl,aV,z1,z2,hs,rfl,h2,h3⟩:=hq;rw[z1] at h2 h3 hN |-;exact⟨hN,rfl,aa,(hs _ (ag _) aa).trans h3⟩
def ig(lo:Nat)(ts:List af)(v:Value)(w':ae):Prop:=(v=.slice none 0 0/\ts=[])\/∃g cap,v=.slice (some ⟨g,0,none⟩) ts.length cap/\ts.length<=cap/\lo<=g/\g<w'.heap.size/\fy w' g 0 ts
theorem JG(hF:bM au L0 o w)(b c ob oc:Nat)(p:Option Addr)(rs:List aI)(nm:Nat->List af)(nb:Nat->Nat)(outs:List af)(h1:rs.length<=1000)(h2:outs.length<=100000)(hp:rs≠[]->p=some ⟨b,0,none⟩/\o b)(ga:o ob)(hr:yx w b rs nm nb)(Mp:∀i,i<rs.length->nm i≠[]->o (nb i))(ho:fy w ob 0 outs)(hc:Cl au L0 o (.slice p rs.length c)):
  bz au (XB au Fin 0) 148 #[.slice p rs.length c,.slice (some ⟨ob,0,none⟩) outs.length oc] o w fun v o' w'=>fT o w v o' w'/\ig w.heap.size (cX (lD outs nm rs.length)) v w':=by
 have fu:∀x∈#[Value.slice p rs.length c,.slice (some ⟨ob,0,none⟩) outs.length oc],Cl au L0 o x:=fun x hx=>by
  simp at hx;rcases hx with rfl|rfl
  ·exact hc
  ·exact dY ga
 refine bz.mono (eD ah hF fu (Q:=fun wl v w'=>ig wl.heap.size (cX (lD outs nm rs.length)) v w') (fun wl A1 v w1 w2 e1 e2 h=>?_) (fun wl hz aT=>?_)) (fun v o' w' hq=>?_)
 ·rcases h with h|⟨g,cap,k1,k2,k3,k4,k5⟩
  ·exact .inl h
  ·exact .inr ⟨g,cap,k1,k2,by rw[e1];exact k3,by rw[e2];exact k4,dc k5 (by rw[e2])⟩
 ·have UJ:yx wl b rs nm nb:=by
   refine⟨fun i hi=>gV hr.at_ (aT b (hp (fun e=>by rw[e] at hi;simp at hi)).2) i hi,hr.len,fun i hi dH=>⟨(hr.ptr i hi dH).1,by rw[hz];exact(hr.ptr i hi dH).2⟩,fun i hi j hj=>?_,hr.four⟩;exact dc (hr.txt i hi) (aT _ (Mp i hi (fun e=>by rw[e] at hj;simp at hj))) j hj
  refine(Ek b c ob oc p rs nm nb outs wl h1 h2 (fun h=>⟨(hp h).1,by rw[hz];exact hF.lt (hp h).2⟩) (by rw[hz];exact hF.lt ga) UJ (dc ho (aT _ ga))).mono fun e w' hq=>?_;obtain⟨v',W,rfl,hB,hW,hC⟩:=hq;rcases hC with⟨rfl,k1,k2⟩|⟨g,cap,k1,k2,k3,k4,k5,k6,k7⟩
  ·exact⟨_,rfl,by rw[k2];exact hW,fun b hb=>by rw[k2];exact hB.block b hb,.inl ⟨rfl,k1⟩⟩
  ·exact⟨_,rfl,aa,fun b hb=>(k6 b aa aa).trans (hB.block b hb),.inr ⟨g,cap,k1,k2,k3,aa,k7⟩⟩
 ·obtain⟨hN,wl,aV,z1,z2,hs,hq⟩:=hq;refine⟨hN,?_⟩;rw[z1] at hq;rcases hq with h|⟨g,cap,k1,k2,k3,k4,k5⟩
  ·exact .inl h
  ·exact .inr ⟨g,cap,k1,k2,k3,aa,dc k5 (hs g k3 aa)⟩
end
section
open Go.RowKit
theorem JH:(au.info? 65).map (fun i=>(i.zero,i.size,i.bytes))=some (some (.agg #[.string aO,.string aO,.bool false]),3,40):=ah
theorem zG(w:ae)(n:Nat)(hn:n<=100000):(Instr.makeSlice 46 (.int .i64 (n:Int)) (.int .i64 (n:Int))).run au w=.ok (.slice (some ⟨w.heap.size,0,none⟩) n n) (w.alloc (.cells (madeCells #[.string aO,.string aO,.bool false] (n*3)) 65)):=by
 obtain⟨i,hi,hz⟩:=Option.map_eq_some_iff.1 JH;simp only[bt] at hz;obtain⟨hz,hs,hb⟩:=hz;have:=run_make (P:=au) w 46 65 i _ underlying46 hi hz .i64 .i64 n n aa (fK _) (by rw[hb];omega) aa;rw[this,hs];simp[Value.cells]
def gW(out:Nat->af)(res:Nat->V)(k j:Nat):Value :=
 if j<k*3 then(if j%3=0 then .string (out (j/3)) else if j%3=1 then .string (res (j/3)).2 else .bool (!(res (j/3)).1))
 else(if j%3=0 then .string aO else if j%3=1 then .string aO else .bool false)
theorem Wk{w:ae}{B t n k:Nat}{out:Nat->af}{res:Nat->V}(h:w.rowIs B t (n*3) (gW out res k)):
  (((w.setCell ⟨B,k*3,none⟩ (.string (out k))).setCell ⟨B,k*3+1,none⟩ (.string (res k).2)).setCell ⟨B,k*3+2,none⟩ (.bool (!(res k).1))).rowIs B t (n*3) (gW out res (k+1)):=by
 refine(((h.set (k*3) _).set (k*3+1) _).set (k*3+2) _).congr fun j hj=>?_;by_cases e2:j=k*3+2
 ·subst e2;have h1:(k*3+2)%3=2:=aa;have h2:(k*3+2)/3=k:=aa;simp[gW,h1,h2,show k*3+2<(k+1)*3 by omega]
 ·by_cases e1:j=k*3+1
  ·subst e1;have h1:(k*3+1)%3=1:=aa;have h2:(k*3+1)/3=k:=aa;simp[gW,h1,h2,show k*3+1<(k+1)*3 by omega]
  ·by_cases e0:j=k*3
   ·subst e0;have h1:(k*3)%3=0:=aa;have h2:(k*3)/3=k:=aa;simp[gW,h1,h2,show k*3<(k+1)*3 by omega]
   ·rw[if_neg e2,if_neg e1,if_neg e0];by_cases e3:j<k*3
    ·simp only[gW,if_pos e3,if_pos (show j<(k+1)*3 by omega)]
    ·simp only[gW,if_neg e3,if_neg (show ¬j<(k+1)*3 by omega)]
structure pP(w:ae)(bn Lb Lo St Rb Nb n:Nat)(out:Nat->af)(eR:Nat->Int)(ins:Nat->List (Bool×Nat))(cM:Nat->Nat)(res:Nat->V)(jS:Nat->Bool):Prop where
 b0:w.cell? ⟨bn,0,none⟩=some (.pointer (some ⟨Lb,Lo,none⟩))
 b2:w.cell? ⟨bn,2,none⟩=some (.slice (some ⟨Rb,0,none⟩) n n)
 b3:w.cell? ⟨bn,3,none⟩=some (.slice (some ⟨Nb,0,none⟩) n n)
 st:w.cell? ⟨Lb,Lo,none⟩=some (.slice (some ⟨St,0,none⟩) n n)
 steps:pN w St n out eR ins cM
 r2:∀s,s<n->w.cell? ⟨Rb,s*4+2,none⟩=some (.bool (res s).1)
 r3:∀s,s<n->w.cell? ⟨Rb,s*4+3,none⟩=some (.string (res s).2)
 jS:∀s,s<n->w.cell? ⟨Nb,s,none⟩=some (.bool (jS s))
 lbn:bn<w.heap.size
 lLb:Lb<w.heap.size
 lSt:St<w.heap.size
 lRb:Rb<w.heap.size
 lNb:Nb<w.heap.size
theorem JI(bn Lb Lo St Rb Nb n:Nat)(out:Nat->af)(eR:Nat->Int)(ins:Nat->List (Bool×Nat))(cM:Nat->Nat)(res:Nat->V)(jS:Nat->Bool)(w:ae)(hn:n<=1000)(h:pP w bn Lb Lo St Rb Nb n out eR ins cM res jS):
  Calls au 75 #[.pointer (some ⟨bn,0,none⟩)] w fun e w'=>e=.returned (.slice (some ⟨w.heap.size,0,none⟩) n n)/\Below w.heap.size w w'/\w.heap.size<w'.heap.size/\w'.rowIs w.heap.size 65 (n*3) (gW out res n):=by
 have Je:=fun w=>zG w n aa;obtain⟨b0,b2,b3,st,eG,r2,r3,rr,l1,l2,l3,l4,l5⟩:=h;have cA:∀(w':ae),Below w.heap.size w w'->∀b off,b<w.heap.size->w'.cell? ⟨b,off,none⟩=w.cell? ⟨b,off,none⟩:=fun w' hb b off hl=>(vX hb).1 _ _ hl;have a0:∀x,(w.alloc x).cell? ⟨bn,0,none⟩=some (.pointer (some ⟨Lb,Lo,none⟩)):=fun x=>by rw[cA _ ((Below.refl _ _).alloc (ag _) _) _ _ l1];exact b0
 have a1:∀x,(w.alloc x).cell? ⟨Lb,Lo,none⟩=some (.slice (some ⟨St,0,none⟩) n n):=fun x=>by rw[cA _ ((Below.refl _ _).alloc (ag _) _) _ _ l2];exact st
 go_enter func75,ntmps75;go_wp2;go_loopw [24] (fun i w'=>∃k:Nat,k<=n/\i=.int .i64 k/\Below w.heap.size w w'/\w.heap.size<w'.heap.size/\w'.rowIs w.heap.size 65 (n*3) (gW out res k)) (fun i _=>n-(intOf i).toNat)
 case atStart =>
  refine⟨0,aU _,rfl,(Below.refl _ _).alloc (ag _) _,aj,_,jR _ _,by simp[size_madeCells],fun j hj=>?_⟩;simp only[madeCells,aK,Array.getElem?_range,hj,if_true,aJ,gW,Nat.zero_mul,Nat.not_lt_zero,if_false];have hm:j%3=0\/j%3=1\/j%3=2:=aa;rcases hm with e|e|e<;>simp[e]
 case round =>
  obtain⟨k,hk,rfl,gw,hz,cj⟩:=hrel;by_cases cy:k<n
  ·have c0:=(cA _ gw St (k*3) l3).trans (eG.out k cy);have c1:=(cA _ gw St (k*3+1) l3).trans (eG.eR k cy);have c2:=(cA _ gw St (k*3+2) l3).trans (eG.A0 k cy);have c3:=(cA _ gw bn 2 l1).trans b2;have c4:=(cA _ gw Rb (k*4+2) l4).trans (r2 k cy);have c5:=(cA _ gw Rb (k*4+3) l4).trans (r3 k cy);have d0:wr.cell? ⟨w.heap.size,k*3,none⟩=some (.string aO):=by rw[cj.cell aa];simp[gW]
   have d1:wr.cell? ⟨w.heap.size,k*3+1,none⟩=some (.string aO):=by
    have h1:(k*3+1)%3=1:=aa;rw[cj.cell aa];simp[gW,h1,show ¬k*3+1<k*3 by omega]
   have d2:wr.cell? ⟨w.heap.size,k*3+2,none⟩=some (.bool false):=by
    have h1:(k*3+2)%3=2:=aa;rw[cj.cell aa];simp[gW,h1,show ¬k*3+2<k*3 by omega]
   have f0:=cj.frozen;have g1:bn<wr.heap.size:=aa;have g4:Rb<wr.heap.size:=aa;have p3:∀x y,((wr.alloc x).alloc y).cell? ⟨bn,2,none⟩=some (.slice (some ⟨Rb,0,none⟩) n n):=fun x y=>by rw[cA _ ((gw.alloc aa _).alloc dV _) _ _ l1];exact b2
   have q3:∀x,(wr.alloc x).cell? ⟨bn,2,none⟩=some (.slice (some ⟨Rb,0,none⟩) n n):=fun x=>by rw[cA _ (gw.alloc aa _) _ _ l1];exact b2
   have q4:∀x,(wr.alloc x).cell? ⟨Rb,k*4+2,none⟩=some (.bool (res k).1):=fun x=>by rw[cA _ (gw.alloc aa _) _ _ l4];exact r2 k cy
   have q5:∀x,(wr.alloc x).cell? ⟨Rb,k*4+3,none⟩=some (.string (res k).2):=fun x=>by rw[cA _ (gw.alloc aa _) _ _ l4];exact r3 k cy
   clear eG r2 r3 rr cA a0 a1;go_wp2;refine⟨⟨k+1,aa,by go_num,((((gw.setCell (ag _) _).setCell (ag _) _).setCell (ag _) _).alloc (by simp[World.setCell];omega) _).alloc (by simp[World.setCell];omega) _,by simp[World.setCell];omega,?_⟩,by simp[intOf];omega⟩;exact((Wk cj).alloc _).alloc _
  ·go_wp2;go_ret;have:k=n:=aa;subst this;exact⟨rfl,gw,hz,cj⟩
def rG(out:Nat->af)(jS:Nat->Bool):Nat->List af
 |0=>[]
 |k+1=>rG out jS k++(if jS k then[out k] else[])
theorem CX(out:Nat->af)(jS:Nat->Bool):∀k,(rG out jS k).length<=k
 |0=>by simp[rG]
 |k+1=>by
  have:=CX out jS k;simp only[rG,List.length_append];split<;>simp<;>omega
theorem JJ(bn Lb Lo St Rb Nb n:Nat)(out:Nat->af)(eR:Nat->Int)(ins:Nat->List (Bool×Nat))(cM:Nat->Nat)(res:Nat->V)(jS:Nat->Bool)(w:ae)(hn:n<=1000)(h:pP w bn Lb Lo St Rb Nb n out eR ins cM res jS):
  Calls au 76 #[.pointer (some ⟨bn,0,none⟩)] w fun e w'=>∃v,e=.returned v/\Below w.heap.size w w'/\w.heap.size<=w'.heap.size/\w'.ownsRow w.heap.size 9 1 v (rG out jS n).length ((rG out jS n).map .string):=by
 obtain⟨b0,b2,b3,st,eG,r2,r3,rr,l1,l2,l3,l4,l5⟩:=h;have cA:∀(w':ae),Below w.heap.size w w'->∀b off,b<w.heap.size->w'.cell? ⟨b,off,none⟩=w.cell? ⟨b,off,none⟩:=fun w' hb b off hl=>(vX hb).1 _ _ hl;go_enter func76,ntmps76;clear cA;go_wp2;have cA:∀(w':ae),Below w.heap.size w w'->∀b off,b<w.heap.size->w'.cell? ⟨b,off,none⟩=w.cell? ⟨b,off,none⟩:=fun w' hb b off hl=>(vX hb).1 _ _ hl;go_loopw [3,14] (fun v i w'=>∃k:Nat,k<=n/\i=.int .i64 k/\Below w.heap.size w w'/\w.heap.size<=w'.heap.size/\w'.ownsRow w.heap.size 9 1 v (rG out jS k).length ((rG out jS k).map .string)) (fun v i _=>n-(intOf i).toNat)
 case atStart=>exact⟨0,aU _,rfl,Below.refl _ _,ag _,by simp[rG],.inl ⟨rfl,rfl⟩⟩
 case round =>
  obtain⟨k,hk,rfl,gw,hz,cj⟩:=hrel;by_cases cy:k<n
  ·have c0:=(cA _ gw St (k*3) l3).trans (eG.out k cy);have c1:=(cA _ gw St (k*3+1) l3).trans (eG.eR k cy);have c2:=(cA _ gw St (k*3+2) l3).trans (eG.A0 k cy);have q3:∀x,(wr.alloc x).cell? ⟨bn,3,none⟩=some (.slice (some ⟨Nb,0,none⟩) n n):=fun x=>by rw[cA _ (gw.alloc aa _) _ _ l1];exact b3
   have q4:∀x,(wr.alloc x).cell? ⟨Nb,k,none⟩=some (.bool (jS k)):=fun x=>by rw[cA _ (gw.alloc aa _) _ _ l5];exact rr k cy
   have g1:bn<wr.heap.size:=aa;have g5:Nb<wr.heap.size:=aa;have hl:=CX out jS k;have Ej:rG out jS (k+1)=rG out jS k++(if jS k then[out k] else[]):=rfl;generalize rG out jS k=raw at *;generalize je:out k=x at *;generalize UR:jS k=rk at *;clear eG r2 r3 rr cA;have e0:=pZ cj (.cells #[.string x,.int .i64 (eR k),.slice (some ⟨cM k,0,none⟩) (ins k).length (ins k).length] 220);cases rk
   ·go_wp2;refine⟨⟨k+1,aa,by go_num,gw.alloc aa _,dV,?_⟩,by simp[intOf];omega⟩;rw[Ej];simpa using e0
   ·obtain⟨v',W',e1,e2,e3⟩:=qt ((wr.alloc (.cells #[.string x,.int .i64 (eR k),.slice (some ⟨cM k,0,none⟩) (ins k).length (ins k).length] 220)).alloc (.cells #[.string x] 9)) w.heap.size _ _ x (wr.heap.size+1) (pZ e0 _) aa dV aj;have xn:=Below.grown ((gw.alloc aa _).alloc dV _) e3 dV (zF cj);go_wp2_with (at_builtin;refine gm rfl _ _ 40 rfl rfl rfl e1 ?_);exact⟨⟨k+1,aa,by go_num,xn,xn.size,by rw[Ej];exact e2⟩,by simp[intOf];omega⟩
  ·go_wp2;go_ret;have:k=n:=aa;subst this;exact⟨_,rfl,gw,hz,cj⟩
end
theorem Qf:(au.info? 220).map (fun i=>(i.zero,i.size,i.bytes))=some (some (.agg #[.string aO,.int .i64 0,.slice none 0 0]),3,48):=ah
theorem CY(w:ae)(n:Nat)(hn:n<=100000):(Instr.makeSlice 143 (.int .i64 (n:Int)) (.int .i64 (n:Int))).run au w=.ok (.slice (some ⟨w.heap.size,0,none⟩) n n) (w.alloc (.cells (madeCells #[.string aO,.int .i64 0,.slice none 0 0] (n*3)) 220)):=by
 obtain⟨i,hi,hz⟩:=Option.map_eq_some_iff.1 Qf;simp only[bt] at hz;obtain⟨hz,hs,hb⟩:=hz;have:=run_make (P:=au) w 143 220 i _ underlying143 hi hz .i64 .i64 n n aa (fK _) (by rw[hb];omega) aa;rw[this,hs];simp[Value.cells]
def gn(out:Nat->af)(eR:Nat->Int)(ins:Nat->List (Bool×Nat))(cM:Nat->Nat)(k j:Nat):Value :=
 if j<k*3 then(if j%3=0 then .string (out (j/3)) else if j%3=1 then .int .i64 (eR (j/3)) else .slice (some ⟨cM (j/3),0,none⟩) (ins (j/3)).length (ins (j/3)).length)
 else(if j%3=0 then .string aO else if j%3=1 then .int .i64 0 else .slice none 0 0)
theorem Qg(w:ae)(n:Nat)(out:Nat->af)(eR:Nat->Int)(ins:Nat->List (Bool×Nat))(cM:Nat->Nat)(St:Nat)(h:w.heap[St]?=some (.cells (madeCells #[.string aO,.int .i64 0,.slice none 0 0] (n*3)) 220)):w.rowIs St 220 (n*3) (gn out eR ins cM 0):=by
 refine⟨_,h,by simp[size_madeCells],fun j hj=>?_⟩;simp only[madeCells,aK,Array.getElem?_range,hj,if_true,aJ,gn,Nat.zero_mul,Nat.not_lt_zero,if_false];have hm:j%3=0\/j%3=1\/j%3=2:=aa;rcases hm with e|e|e<;>simp[e]
theorem Tr{w:ae}{St n k:Nat}{out:Nat->af}{eR:Nat->Int}{ins:Nat->List (Bool×Nat)}{cM:Nat->Nat}(h:w.rowIs St 220 (n*3) (gn out eR ins cM k)):
  (((w.setCell ⟨St,k*3,none⟩ (.string (out k))).setCell ⟨St,k*3+1,none⟩ (.int .i64 (eR k))).setCell ⟨St,k*3+2,none⟩ (.slice (some ⟨cM k,0,none⟩) (ins k).length (ins k).length)).rowIs St 220 (n*3) (gn out eR ins cM (k+1)):=by
 refine(((h.set (k*3) _).set (k*3+1) _).set (k*3+2) _).congr fun j hj=>?_;by_cases e2:j=k*3+2
 ·subst e2;have h1:(k*3+2)%3=2:=aa;have h2:(k*3+2)/3=k:=aa;simp[gn,h1,h2,show k*3+2<(k+1)*3 by omega]
 ·by_cases e1:j=k*3+1
  ·subst e1;have h1:(k*3+1)%3=1:=aa;have h2:(k*3+1)/3=k:=aa;simp[gn,h1,h2,show k*3+1<(k+1)*3 by omega]
  ·by_cases e0:j=k*3
   ·subst e0;have h1:(k*3)%3=0:=aa;have h2:(k*3)/3=k:=aa;simp[gn,h1,h2,show k*3<(k+1)*3 by omega]
   ·rw[if_neg e2,if_neg e1,if_neg e0];by_cases e3:j<k*3
    ·simp only[gn,if_pos e3,if_pos (show j<(k+1)*3 by omega)]
    ·simp only[gn,if_neg e3,if_neg (show ¬j<(k+1)*3 by omega)]
theorem Qh{w:ae}{b t n:Nat}{l:List (Bool×Nat)}(hn:n=l.length)(h:w.rowIs b t (n*2) (kK l)):tn w b l:=fun j hj=>by
 have h0:(j*2)%2=0:=aa;have h1:(j*2+1)%2=1:=aa;have d0:(j*2)/2=j:=aa;have d1:(j*2+1)/2=j:=aa;refine⟨?_,?_⟩
 ·rw[h.cell aa];simp only[kK,h0,d0];simp[hj]
 ·rw[h.cell aa];simp only[kK,h1,d1];simp[hj]
theorem Qi{w:ae}{St n:Nat}{out:Nat->af}{eR:Nat->Int}{ins:Nat->List (Bool×Nat)}{cM:Nat->Nat}(h:w.rowIs St 220 (n*3) (gn out eR ins cM n))(hi:∀s,s<n->tn w (cM s) (ins s))(hl:∀s,s<n->cM s<w.heap.size)(hs:∀s,s<n->(ins s).length<=100000):pN w St n out eR ins cM where
 out s hs:=by
  have h1:(s*3)%3=0:=aa;have h2:(s*3)/3=s:=aa;rw[h.cell aa];simp[gn,h1,h2,show s*3<n*3 by omega]
 eR s hs:=by
  have h1:(s*3+1)%3=1:=aa;have h2:(s*3+1)/3=s:=aa;rw[h.cell aa];simp[gn,h1,h2,show s*3+1<n*3 by omega]
 A0 s hs:=by
  have h1:(s*3+2)%3=2:=aa;have h2:(s*3+2)/3=s:=aa;rw[h.cell aa];simp[gn,h1,h2,show s*3+2<n*3 by omega]
 CH:=hi
 lt:=hl
 short:=hs
end Go.Proofs.Kz
namespace Go.Ren
open Go.Conc Go.ConcN
section
variable {w w':ae} {b:Nat} {t:TypeId} {x y z u v x' y' z' u' v':Value}
theorem CZ(h:w.heap[b]?=some (.cells #[x] t)):w.cell? ⟨b,0,none⟩=some x/\w.frozen? ⟨b,0,none⟩=false:=by simp[World.cell?,World.frozen?,h]
theorem dO(h:w.heap[b]?=some (.cells #[x,y] t)):w.cell? ⟨b,0,none⟩=some x/\w.cell? ⟨b,1,none⟩=some y/\w.frozen? ⟨b,0,none⟩=false/\w.frozen? ⟨b,1,none⟩=false:=by simp[World.cell?,World.frozen?,h]
theorem eO(h:w.heap[b]?=some (.cells #[x,y,z] t)):w.cell? ⟨b,0,none⟩=some x/\w.cell? ⟨b,1,none⟩=some y/\w.cell? ⟨b,2,none⟩=some z/\w.frozen? ⟨b,0,none⟩=false/\w.frozen? ⟨b,1,none⟩=false/\w.frozen? ⟨b,2,none⟩=false:=by simp[World.cell?,World.frozen?,h]
theorem Tt(h:w.heap[b]?=some (.cells #[x,y] t)):((w.setCell ⟨b,0,none⟩ x').setCell ⟨b,1,none⟩ y').heap[b]?=some (.cells #[x',y'] t):=by simp[World.setCell,aR,h]
theorem JK(h:w.heap[b]?=some (.cells #[x,y,z] t)):(((w.setCell ⟨b,0,none⟩ x').setCell ⟨b,1,none⟩ y').setCell ⟨b,2,none⟩ z').heap[b]?=some (.cells #[x',y',z'] t):=by simp[World.setCell,aR,h]
def eI(b:Nat)(w w':ae):Prop:=w'.heap.size=w.heap.size/\∀c,c≠b->w'.heap[c]?=w.heap[c]?
theorem eI.refl:eI b w w:=⟨rfl,fun _ _=>rfl⟩
theorem eI.set{a:Addr}(h:eI b w w')(ha:a.block=b):eI b w (w'.setCell a v):=by
 refine⟨by simp[World.setCell,h.1],fun c hc=>?_⟩;rw[<- h.2 c hc];obtain⟨ab,ao,az⟩:=a;simp only at ha;subst ha;simp[World.setCell,aR];exact fun e=>absurd e.symm hc
theorem eI.at(h:eI b w w')(off:Nat)(v:Value):eI b w (w'.setCell ⟨b,off,none⟩ v):=h.set rfl
theorem iZ(w:ae)(b i:Nat)(x:Value):eI b w (w.setCell ⟨b,i,none⟩ x):=eI.refl.at i x
theorem Aw(w:ae)(b i j:Nat)(x y:Value):eI b w ((w.setCell ⟨b,i,none⟩ x).setCell ⟨b,j,none⟩ y):=(iZ w b i x).at j y
theorem uE(w:ae)(b i j k:Nat)(x y z:Value):eI b w (((w.setCell ⟨b,i,none⟩ x).setCell ⟨b,j,none⟩ y).setCell ⟨b,k,none⟩ z):=(Aw w b i j x y).at k z
end
section
variable {P:Program} {L:Nat->Bool} {o:aM} {w w' wl aV:ae} {v:Value}
theorem lH.only(h:lH P L o w w' aV v)(ha:iA o w wl){A:Nat}(hA:o A)(hs:eI A wl aV):eI A w w'/\w'.heap[A]?=aV.heap[A]?/\grow o w w'=o:=by
 obtain⟨h1,h2,h3,h4⟩:=h.store ha hA hs.1 hs.2;exact⟨⟨h1,h2⟩,h3,h4⟩
end
end Go.Ren
namespace Go.Proofs.Kz
open Go.Proofs.Tryz
open Go.Proofs.Tryz renaming prog → au
open _root_.ByteArray renaming empty → aO
open Go.Ren Go.Conc Go.Proofs Go.ConcN
section
variable {Fin:bK} {o:aM} {w:ae}
theorem vi.view{rs:List aI}{v:Value}{o':aM}{w':ae}(S:vi o w rs v o' w')(hF:bM au L0 o w)(YZ:∃b,o b):∃g p cap cp,v=.slice p cp.length cap/\(cp≠[]->p=some ⟨g,0,none⟩/\w.heap.size<=g)/\o' g/\eU w' g cp/\cp.Perm rs/\(∀i j (hi:i<cp.length) (hj:j<cp.length),i<j->¬qG cp[j] cp[i]<0)/\Cl au L0 o' (.slice p cp.length cap):=by
 rcases S.row with⟨rfl,rfl⟩|⟨g,cap,cp,h1,h2,h3,h4,h5,h6,h7⟩
 ·obtain⟨b,hb⟩:=YZ;exact⟨b,none,0,[],rfl,fun h=>absurd rfl h,by rw[S.own];exact .inl hb,fun i hi=>by simp at hi,List.Perm.refl _,fun i j hi=>by simp at hi,iP⟩
 ·have hg:o' g:=by rw[S.own];exact .inr ⟨h3,h4⟩
  exact⟨g,_,cap,cp,by rw[h1,h5.length_eq],fun _=>⟨rfl,h3⟩,hg,h7,h5,h6,dY hg⟩
def qH(rs:List aI)(i:Nat):af:=((rs[i]?).map (·.out)).getD aO
def zH(rs:List aI)(i:Nat):Int:=((rs[i]?).map (·.eR)).getD 0
def DN(NM:aI->List af)(rs:List aI)(i:Nat):List af:=((rs[i]?).map NM).getD []
def nbF(NB:aI->Nat)(rs:List aI)(i:Nat):Nat:=((rs[i]?).map NB).getD 0
def fh(NM:aI->List af)(rs:List aI):List af:=cX (lD (rs.map (·.out)) (DN NM rs) rs.length)
def mj(NM:aI->List af)(rs:List aI)(i:Nat):List (Bool×Nat):=(DN NM rs i).map (rj (rs.map (·.out)) (fh NM rs))
theorem uF(raw:List af):(cX raw).length<=raw.length:=by
 unfold cX;rw[bP];refine aW (CW _) ?_;simp[kj]
structure wh(lo:Nat)(NM:aI->List af)(cp:List aI)(St Or:Nat)(cM:Nat->Nat)(sv v:Value)(w':ae):Prop where
 val:v=.agg #[.slice (some ⟨St,0,none⟩) cp.length cp.length,.slice (some ⟨Or,0,none⟩) (eC (mj NM cp) cp.length cp.length).length cp.length,sv]
 steps:pN w' St cp.length (qH cp) (zH cp) (mj NM cp) cM
 ord:lj w' Or cp.length (eC (mj NM cp) cp.length cp.length)
 src:ig lo (fh NM cp) sv w'
 st:lo<=St/\St<w'.heap.size
 or:lo<=Or/\Or<w'.heap.size
 ib:∀s,s<cp.length->lo<=cM s
theorem Ax{w w':ae}{b:Nat}{l:List (Bool×Nat)}(h:tn w b l)(e:w'.heap[b]?=w.heap[b]?):tn w' b l:=fun j hj=>⟨(cell_of e).trans (h j hj).1,(cell_of e).trans (h j hj).2⟩
theorem El{out:Nat->af}{eR:Nat->Int}{ins:Nat->List (Bool×Nat)}{cM yz:Nat->Nat}{k:Nat}(h:∀s,s<k->cM s=yz s)(j:Nat):gn out eR ins cM k j=gn out eR ins yz k j:=by
 unfold gn;by_cases hj:j<k*3
 ·rw[if_pos hj,if_pos hj,h (j/3) aa]
 ·rw[if_neg hj,if_neg hj]
theorem GO{o:aM}{w w1 w2:ae}(h:w1.heap.size=w2.heap.size):grow o w w1=grow o w w2:=by unfold grow;rw[h]
theorem ll{lo Tu:Nat}{ts:List af}{v:Value}{w w':ae}(h:ig lo ts v w)(vF:Tu<=lo)(hz:w.heap.size<=w'.heap.size)(e:∀b,lo<=b->b<w.heap.size->w'.heap[b]?=w.heap[b]?):ig Tu ts v w':=by
 rcases h with h|⟨g,cap,h1,h2,h3,h4,h5⟩
 ·exact .inl h
 ·exact .inr ⟨g,cap,h1,h2,aa,aa,dc h5 (e g h3 h4)⟩
structure ahE(o6:aM)(w6:ae)(R St ob n:Nat)(q:Option Addr)(cap:Nat)(sv:Value)(out:Nat->af)(eR:Nat->Int)(ins:Nat->List (Bool×Nat))(k:Nat)(a:Act)(o':aM)(w':ae):Prop where
 size:a.tmps.size=46
 df:a.defers=[]
 t2:a.eval (.tmp 2)=.pointer (some ⟨R,0,none⟩)
 t4:a.eval (.tmp 4)=.slice (some ⟨ob,0,none⟩) n n
 t5:a.eval (.tmp 5)=sv
 t6:a.eval (.tmp 6)=.slice (some ⟨St,0,none⟩) n n
 t20:a.eval (.tmp 20)=.slice q n cap
 t21:a.eval (.tmp 21)=.int .i64 n
 t22:a.eval (.tmp 22)=.int .i64 k
 own:o'=grow o6 w6 w'
 aF:bM au L0 o' w'
 jj:w6.heap.size<=w'.heap.size
 old:∀b,b<w6.heap.size->b≠St->w'.heap[b]?=w6.heap[b]?
 row:∃cM:Nat->Nat,w'.rowIs St 220 (n*3) (gn out eR ins cM k)/\∀s,s<k->tn w' (cM s) (ins s)/\w6.heap.size<=cM s/\cM s<w'.heap.size
theorem GP(hF:bM au L0 o w)(Ru c:Nat)(p:Option Addr)(rs:List aI)(hn:rs.length<=8)(hp:rs≠[]->p=some ⟨Ru,0,none⟩)(yT:o Ru)(Cn:eU w Ru rs)(fu:∀r∈rs,Cl au L0 o (.slice r.sa r.sl r.sc))(hc:Cl au L0 o (.slice p rs.length c))(NM:aI->List af)(NB:aI->Nat)(zo:∀r∈rs,r.sl=(NM r).length/\(NM r≠[]->r.sa=some ⟨NB r,0,none⟩/\o (NB r))/\fy w (NB r) 0 (NM r)/\(NM r).length<=4):
  bz au (XB au Fin 0) 112 #[.slice p rs.length c] o w fun v o' w'=>fT o w v o' w'/\∃cp St Or cM sv,cp.Perm rs/\(∀i j (hi:i<cp.length) (hj:j<cp.length),i<j->¬qG cp[j] cp[i]<0)/\wh w.heap.size NM cp St Or cM sv v w':=by
 have W:=bV (P:=au) (Fin:=Fin) (d:=0);refine eA W func112 ar ?_;refine ax ?_;refine dt bQ hF rfl ar ar mW rfl (R:=fun wl v aV=>v=.pointer (some ⟨wl.heap.size,0,none⟩)/\aV=wl.alloc (Obj.cells #[.slice none 0 0,.slice none 0 0,.slice none 0 0] 145)) (fun wl aT=>⟨_,_,fP,rfl,rfl⟩) fun wl v1 aV w1 aT hR bN=>?_;obtain⟨rfl,hR⟩:=hR;obtain⟨z1,k1,k2⟩:=bN.alloc hF aT hR;have lv:=bN.aF;rw[aT.size];clear hR bN aT wl aV;refine ax ?_;refine dA W rfl ar rfl func145 ah rfl aH rfl ((Tq lv p rs.length c (hc.up jk)).mono fun v2 o2 w2 hq=>?_);obtain⟨N2,rfl,z2,kb⟩:=hq;walk_nrm;have u2:∀b,o b->o2 b:=fun b hb=>by rw[N2.own];exact .inl (.inl hb)
 have adA:∀b,b<w.heap.size->w2.heap[b]?=w.heap[b]?:=fun b hb=>(N2.old b aa).trans (k1 b hb);have SP:o2 w1.heap.size:=by rw[N2.own];exact .inr ⟨ag _,z2⟩
 refine dA W rfl ar rfl func144 ah rfl aH rfl ((GH N2.aF w1.heap.size Ru c p rs hn SP (by simp[World.cell?,kb]) hp (u2 _ yT) (gV Cn (adA Ru (hF.lt yT))) (fun r hr=>(fu r hr).up u2)).mono fun v3 o3 w3 S=>?_);refine ax ?_;obtain⟨g,q,cap,cp,rfl,hq,UQ,Eg,hpm,Q2,hcq⟩:=S.view N2.aF ⟨_,SP⟩;have hl':cp.length<=8:=by rw[hpm.length_eq];exact hn
 refine dA W rfl ar rfl func147 ah rfl aH rfl ((To S.aF g cap q cp aa (fun h=>⟨(hq h).1,UQ⟩) Eg hcq).mono fun v4 o4 w4 hq4=>?_);obtain⟨N4,rfl,z4,t4⟩:=hq4;refine ax ?_;have zz2:=N2.size;have zz3:=S.size;have zz4:=N4.size;have u4:∀b,o2 b->o4 b:=fun b hb=>by rw[N4.own,S.own];exact .inl (.inl hb)
 have u34:∀b,o3 b->o4 b:=fun b hb=>by rw[N4.own];exact .inl hb
 have Ta:∀b,b<w.heap.size->w4.heap[b]?=w.heap[b]?:=fun b hb=>(N4.old b aa).trans ((S.old b aa).trans (adA b hb));have ho4:o4 w3.heap.size:=by rw[N4.own];exact .inr ⟨ag _,z4⟩
 have rN:∀i (h:i<cp.length),cp[i]∈rs:=fun i h=>hpm.subset (aG h);obtain⟨nm,Tv⟩:∃nm,DN NM cp=nm:=⟨_,rfl⟩;obtain⟨nb,ahG⟩:∃nb,nbF NB cp=nb:=⟨_,rfl⟩;have enm:∀i (h:i<cp.length),nm i=NM cp[i]:=fun i h=>by simp[<- Tv,DN,h]
 have enb:∀i (h:i<cp.length),nb i=NB cp[i]:=fun i h=>by simp[<- ahG,nbF,h]
 have Mq:yx w4 g cp nm nb:=by
  refine⟨gV Eg (N4.old g (S.aF.lt UQ)),fun i h=>?_,fun i h dH=>?_,fun i h=>?_,fun i h=>?_⟩
  ·rw[enm i h];exact(zo _ (rN i h)).1
  ·rw[enm i h] at dH;rw[enb i h];have:=(zo _ (rN i h)).2.1 dH;exact⟨this.1,by have:=hF.lt this.2;omega⟩
  ·rw[enm i h,enb i h];intro k hk;have h3:=(zo _ (rN i h)).2.1 (fun e=>by rw[e] at hk;simp at hk);exact dc (zo _ (rN i h)).2.2.1 (Ta _ (hF.lt h3.2)) k hk
  ·rw[enm i h];exact(zo _ (rN i h)).2.2.2
 have Mp:∀i,i<cp.length->nm i≠[]->o4 (nb i):=fun i h dH=>by
  rw[enm i h] at dH;rw[enb i h];exact u4 _ (u2 _ ((zo _ (rN i h)).2.1 dH).2)
 have adC:=JG (Fin:=Fin) N4.aF g cap w3.heap.size cp.length q cp nm nb (cp.map (·.out)) aa dV (fun h=>⟨(hq h).1,u34 _ UQ⟩) ho4 Mq Mp t4 (hcq.up u34);rw[bP] at adC;refine dA W rfl ar rfl func148 ah rfl aH rfl (adC.mono fun v5 o5 w5 hq5=>?_);obtain⟨N5,t5⟩:=hq5;refine ax ?_;refine dt bQ N5.aF rfl ar ar ?_ rfl (R:=fun wl v aV=>v=.slice (some ⟨wl.heap.size,0,none⟩) cp.length cp.length/\aV=wl.alloc (.cells (madeCells #[.string aO,.int .i64 0,.slice none 0 0] (cp.length*3)) 220)) (fun wl aT=>⟨_,_,by simp[go_sem,CY wl cp.length aa],rfl,rfl⟩) fun wl v6 aV w6 aT hR bN=>?_
 ·exact mU dS
 obtain⟨rfl,hR⟩:=hR;obtain⟨z6,k6,kb6⟩:=bN.alloc N5.aF aT hR;have Eh:=bN.aF;rw[aT.size];clear hR bN aT wl aV;refine ax ?_;have aox:=Eh;have ho6:grow o5 w5 w6 w5.heap.size:=.inr ⟨ag _,aa⟩;obtain⟨out,Yb⟩:∃f,qH cp=f:=⟨_,rfl⟩;obtain⟨eR,Yc⟩:∃f,zH cp=f:=⟨_,rfl⟩;obtain⟨ins,JL⟩:∃f,mj NM cp=f:=⟨_,rfl⟩;rw[<- Tv,show cX (lD (cp.map (·.out)) (DN NM cp) cp.length)=fh NM cp from rfl] at t5;have adD:(fh NM cp).length<=100000:=by
  have h1:=uF (lD (cp.map (·.out)) (DN NM cp) cp.length);have h2:=oM (cp.map (·.out)) nm cp.length Mq.four cp.length (ag _);rw[<- Tv] at h2;have:(fh NM cp).length<=(lD (cp.map (·.out)) (DN NM cp) cp.length).length:=h1;omega
 obtain⟨SR,aaa⟩:∃f,fh NM cp=f:=⟨_,rfl⟩;rw[aaa] at t5 adD;have hv5:∃sp sb sc,v5=.slice sp SR.length sc/\(SR≠[]->sp=some ⟨sb,0,none⟩/\o5 sb)/\fy w5 sb 0 SR:=by
  rcases t5 with⟨h1,h2⟩|⟨g2,c2,h1,h2,h3,h4,h5⟩
  ·exact⟨none,0,0,by rw[h1,h2];rfl,fun h=>absurd h2 h,fun i hi=>by rw[h2] at hi;simp at hi⟩
  ·exact⟨_,g2,c2,h1,fun _=>⟨rfl,by rw[N5.own];exact .inr ⟨h3,h4⟩⟩,h5⟩
 obtain⟨sp,sb,sc,rfl,vx,adE⟩:=hv5;refine iL W (fun m a o' w'=>∃k,m+k=cp.length/\ahE (grow o5 w5 w6) w6 w.heap.size w5.heap.size w3.heap.size cp.length q cap (.slice sp SR.length sc) out eR ins k a o' w') (N:=cp.length) ⟨0,aj,?_⟩ ?_
 ·refine⟨rfl,rfl,aH,aH,aH,aH,aH,aH,aH,(b8 _ _).symm,Eh,ag _,fun _ _ _=>rfl,fun _=>0,Qg _ _ _ _ _ _ _ kb6,fun s hs=>aa⟩
 have hgw:g<w5.heap.size:=by have:=S.aF.lt UQ;have:=N5.size;omega
 have u5:∀b,o4 b->o5 b:=fun b hb=>by rw[N5.own];exact .inl hb
 have zz5:=N5.size;rintro m a o1 w7 ⟨k,Je,fE,kT,i2,i4,i5,i6,i20,i21,i22,rfl,JM,Yd,adF,cM,adG,Mr⟩;obtain⟨gs,rfl⟩:=iE fE kT;clear fE kT;simp only[List.range,List.range.loop,aA,aP] at i2 i4 i5 i6 i20 i21 i22 |-;simp[Act.eval] at i2 i4 i5 i6 i20 i21 i22;simp only[i2,i4,i5,i6,i20,i21,i22];clear i2 i4 i5 i6 i20 i21 i22;have u7:∀b,o5 b->grow (grow o5 w5 w6) w6 w7 b:=fun b hb=>.inl (.inl hb);have Tw:∀b,b<w5.heap.size->w7.heap[b]?=w5.heap[b]?:=fun b hb=>(adF b aa aa).trans (k6 b hb);have hr7:eU w7 g cp:=gV Mq.at_ ((Tw g hgw).trans (N5.old g (by have:=S.aF.lt UQ;omega)));have Wl:grow (grow o5 w5 w6) w6 w7 g:=u7 _ (u5 _ (u34 _ UQ));generalize ZM:grow (grow o5 w5 w6) w6 w7=o7 at *;rcases bg m with hm|hm
 ·have hk:k=cp.length:=aa;subst hk;have adH:o7 w5.heap.size:=by rw[<- ZM];exact .inl ho6
  have hio:∀s,s<cp.length->o7 (cM s):=fun s hs=>by rw[<- ZM];exact .inr ⟨(Mr s hs).2.1,(Mr s hs).2.2⟩
  have adI:pN w7 w5.heap.size cp.length out eR ins cM:=Qi adG (fun s hs=>(Mr s hs).1) (fun s hs=>(Mr s hs).2.2) (fun s hs=>by
   have h4:=Mq.four s hs;rw[<- JL];simp only[mj,List.length_map,Tv];omega)
  have KV:grow o w w1 w.heap.size:=.inr ⟨ag _,aa⟩;have hR2:o2 w.heap.size:=by rw[N2.own];exact .inl KV
  have hR7:o7 w.heap.size:=u7 _ (u5 _ (u4 _ hR2));have kR7:w7.heap[w.heap.size]?=some (Obj.cells #[.slice none 0 0,.slice none 0 0,.slice none 0 0] 145):=by
   rw[Tw _ aa,N5.old _ aa,N4.old _ aa,S.old _ aa,N2.old _ aa];exact k2
  refine ax ?_;refine dA W rfl ar rfl func150 ah rfl aH rfl ((Qe JM w5.heap.size cp.length cp.length out eR ins cM aa adH adI hio).mono fun v8 o8 w8 hq8=>?_);obtain⟨N8,rfl,z8,ady⟩:=hq8;refine ax ?_;have u8:∀b,o7 b->o8 b:=fun b hb=>by rw[N8.own];exact .inl hb
  have hOr:o8 w7.heap.size:=by rw[N8.own];exact .inr ⟨ag _,z8⟩
  have kR8:=(N8.old w.heap.size (JM.lt hR7)).trans kR7;generalize hol:(eC ins cp.length cp.length).length=ol;have Wa:Cl au L0 o8 (.agg #[.slice (some ⟨w5.heap.size,0,none⟩) cp.length cp.length,.slice (some ⟨w7.heap.size,0,none⟩) ol cp.length,.slice sp SR.length sc]):=fS (vs:=[_,_,_]) (fun x hx=>by
   simp at hx;rcases hx with rfl|rfl|rfl
   ·exact dY (u8 _ adH)
   ·exact dY hOr
   ·exact N5.cl.up fun b hb=>u8 _ (u7 _ hb))
  refine du bQ N8.aF rfl ar ar ?_ rfl (R:=fun wl aV=>aV=((wl.setCell ⟨w.heap.size,0,none⟩ (.slice (some ⟨w5.heap.size,0,none⟩) cp.length cp.length)).setCell ⟨w.heap.size,1,none⟩ (.slice (some ⟨w7.heap.size,0,none⟩) ol cp.length)).setCell ⟨w.heap.size,2,none⟩ (.slice sp SR.length sc)) (fun wl aT=>⟨_,?_,rfl⟩) fun wl aV w9 aT hR bN=>?_
  ·refine iV ?_ ?_
   ·exact bU (u8 _ hR7)
   ·exact Wa
  ·obtain⟨e0,e1,e2,f0,f1,f2⟩:=eO ((aT.heap _ (u8 _ hR7)).trans kR8);simp[go_sem,e0,e1,e2,f0,f1,f2]
  have hO:eI w.heap.size wl aV:=by rw[hR];exact uE _ _ _ _ _ _ _ _
  obtain⟨lO,oe,e9⟩:=bN.only aT (u8 _ hR7) hO;rw[hR,JK ((aT.heap _ (u8 _ hR7)).trans kR8)] at oe;have ml:=bN.aF;rw[e9] at ml |-;clear hR bN aT hO wl aV kR8 e9;refine ax ?_;have c9:∀n,(w9.at n).cell? ⟨w.heap.size,0,none⟩=some (.slice (some ⟨w5.heap.size,0,none⟩) cp.length cp.length)/\(w9.at n).cell? ⟨w.heap.size,1,none⟩=some (.slice (some ⟨w7.heap.size,0,none⟩) ol cp.length)/\(w9.at n).cell? ⟨w.heap.size,2,none⟩=some (.slice sp SR.length sc):=fun n=>⟨(eO oe).1,(eO oe).2.1,(eO oe).2.2.1⟩;have zz8:=N8.size;have z9:=lO.1;refine⟨.inr trivial,trivial,.agg #[.slice (some ⟨w5.heap.size,0,none⟩) cp.length cp.length,.slice (some ⟨w7.heap.size,0,none⟩) ol cp.length,.slice sp SR.length sc],wS (fun n=>?_) (fun n e he=>?_),⟨?_,ml,aa,fun b hb=>?_,Wa⟩,cp,w5.heap.size,w7.heap.size,cM,.slice sp SR.length sc,hpm,Q2,?_⟩
  ·obtain⟨c0,c1,c2⟩:=c9 n;simp[results,results112,go_sem,c0,c1,c2]
  ·obtain⟨c0,c1,c2⟩:=c9 n;simp[results,results112,go_sem,c0,c1,c2] at he;rcases he with rfl|rfl|rfl;all_goals exact⟨_,_,_,rfl,u8 _ hR7⟩
  ·rw[N8.own,<- ZM,grow_grow Yd rfl zz8,grow_grow (w:=w5) aa rfl aa,N5.own,grow_grow zz5 rfl aa,N4.own,grow_grow zz4 rfl aa,S.own,grow_grow zz3 rfl aa,N2.own,grow_grow zz2 rfl aa,grow_grow (w:=w) aa rfl aa];exact GO z9.symm
  ·rw[lO.2 b aa,N8.old b aa,Tw b aa,N5.old b aa];exact Ta b hb
  ·have aab:∀b,b<w7.heap.size->b≠w.heap.size->w9.heap[b]?=w7.heap[b]?:=fun b hb dH=>(lO.2 b dH).trans (N8.old b hb);refine⟨by rw[JL,hol],?_,?_,?_,⟨aa,aa⟩,⟨aa,aa⟩,fun s hs=>by have:=(Mr s hs).2.1;omega⟩
   ·rw[Yb,Yc,JL];exact jB adI (aab _ aa aa) (fun s hs=>by obtain⟨-,h1,h2⟩:=Mr s hs;exact aab _ h2 aa) aa
   ·rw[JL];exact World.rowIs.of_block ady (lO.2 _ aa)
   ·rw[aaa];exact ll t5 aa aa fun b h1 h2=>(aab b aa aa).trans (Tw b h2)
 ·have hk:k<cp.length:=aa;have UT:(k:Int)<(cp.length:Int):=aa;obtain⟨rfl,Tb⟩:=hq (fun e=>by rw[e] at hk;simp at hk);refine ax ?_;obtain⟨c0,c1,c2⟩:=hr7 k hk;generalize rT:cp[k].out=ro at c0;generalize hrr:cp[k].eR=rr at c1;generalize Q9:cp[k].sa=ra at c2;generalize X7:cp[k].sl=rl at c2;generalize Gq:cp[k].sc=rc at c2;refine dB bQ JM rfl ar ar ?_ rfl (v:=.agg #[.string ro,.int .i64 rr,.slice ra rl rc]) (fun wl aT=>?_) fun We=>?_
  ·exact mU (bU Wl)
  ·simp[go_sem,(aT.cell Wl).trans c0,(aT.cell Wl).trans c1,(aT.cell Wl).trans c2]
  refine ax ?_;refine dt bQ JM rfl ar ar mW rfl (R:=fun wl v aV=>v=.pointer (some ⟨wl.heap.size,0,none⟩)/\aV=wl.alloc (Obj.cells #[.string aO,.int .i64 0,.slice none 0 0] 42)) (fun wl aT=>⟨_,_,by simp[go_sem];rfl,rfl,rfl⟩) fun wl v8 aV w8 aT hR bN=>?_;obtain⟨rfl,hR⟩:=hR;obtain⟨z8,k8,kb8⟩:=bN.alloc JM aT hR;have se:=bN.aF;rw[aT.size];clear hR bN aT wl aV;refine ax ?_;have Qj:grow o7 w7 w8 w7.heap.size:=.inr ⟨ag _,aa⟩;refine du bQ se rfl ar ar ?_ rfl (R:=fun wl aV=>aV=((wl.setCell ⟨w7.heap.size,0,none⟩ (.string ro)).setCell ⟨w7.heap.size,1,none⟩ (.int .i64 rr)).setCell ⟨w7.heap.size,2,none⟩ (.slice ra rl rc)) (fun wl aT=>⟨_,?_,rfl⟩) fun wl aV w9 aT hR bN=>?_
  ·refine iV ?_ ?_
   ·exact bU Qj
   ·exact We.up jk
  ·obtain⟨e0,e1,e2,f0,f1,f2⟩:=eO ((aT.heap _ Qj).trans kb8);simp[go_sem,e0,e1,e2,f0,f1,f2]
  have hO:eI w7.heap.size wl aV:=by rw[hR];exact uE _ _ _ _ _ _ _ _
  obtain⟨lO,oe,e9⟩:=bN.only aT Qj hO;rw[hR,JK ((aT.heap _ Qj).trans kb8)] at oe;have ml:=bN.aF;rw[e9] at ml |-;clear hR bN aT hO wl aV kb8 e9;have Wm:∀b,b<w7.heap.size->w9.heap[b]?=w7.heap[b]?:=fun b hb=>(lO.2 b aa).trans (k8 b hb);have z9:w9.heap.size=w7.heap.size+1:=by rw[lO.1,z8]
  have e89:grow o7 w7 w8=grow o7 w7 w9:=by unfold grow;rw[lO.1]
  rw[e89] at ml Qj |-;clear lO k8 z8 se e89;clear w8;walk_nrm;refine xU W ?_;simp only[iH,dI,if_true,if_false,reduceIte,Nat.reduceEqDiff];have GQ:ins k=(nm k).map (rj (cp.map (·.out)) SR):=by rw[<- JL,<- Tv,<- aaa];rfl
  have ahJ:out k=ro:=by rw[<- Yb,<- rT];simp[qH,hk]
  have ahK:eR k=rr:=by rw[<- Yc,<- hrr];simp[zH,hk]
  have aac:(nm k).length=rl:=by rw[<- X7];exact(Mq.len k hk).symm
  have Tx:∀b,b<w5.heap.size->w9.heap[b]?=w5.heap[b]?:=fun b hb=>(Wm b aa).trans (Tw b hb);have u9:∀b,o5 b->grow o7 w7 w9 b:=fun b hb=>.inl (u7 b hb);obtain⟨a0,a1,a2,-⟩:=eO oe;have adJ:Cl au L0 (grow o7 w7 w9) (.slice ra rl rc):=by rw[<- Q9,<- X7,<- Gq];exact(fu _ (rN k hk)).up (fun b hb=>u9 b (u5 b (u4 b (u2 b hb))))
  have ahL:nm k≠[]->ra=some ⟨nb k,0,none⟩:=fun h=>by rw[<- Q9];exact(Mq.ptr k hk h).1
  clear rT hrr Q9 X7 Gq c0 c1 c2;obtain⟨o9,ho9⟩:∃x,x=grow o7 w7 w9:=⟨_,rfl⟩;rw[<- ho9] at ml Qj u9 adJ |-;have hAw:w7.heap.size<w9.heap.size:=aa;refine dQ mixed ah [some none,some none,some none,some (some (.string ro)),some none,some (some (.int .i64 rr)),some none,some (some (.slice ra rl rc)),some none,some none,none,some none,some none,none]
   (S:=fun σ o' w'=>(σ 13=none/\(o'=grow o9 w9 w'/\bM au L0 o' w'/\w9.heap.size<=w'.heap.size/\(∀b,b<w9.heap.size->w'.heap[b]?=w9.heap[b]?))/\(σ 10=none->o'=o9/\w'=w9)/\(∀y,σ 10=some y->y=.slice (some ⟨w9.heap.size,0,none⟩) rl rl/\w9.heap.size<w'.heap.size/\w'.rowIs w9.heap.size 280 (rl*2) (kK (ins k)))) \/
    (σ 13≠none/\o'=grow (grow o5 w5 w6) w6 w'/\bM au L0 o' w'/\w6.heap.size<=w'.heap.size/\(∀b,b<w6.heap.size->b≠w5.heap.size->w'.heap[b]?=w6.heap[b]?)/\∃cM:Nat->Nat,w'.rowIs w5.heap.size 220 (cp.length*3) (gn out eR ins cM (k+1))/\∀s,s<k+1->tn w' (cM s) (ins s)/\w6.heap.size<=cM s/\cM s<w'.heap.size)) ?_ fun v=>?_
  ·exact .inl ⟨rfl,⟨(b8 _ _).symm,ml,ag _,fun _ _=>rfl⟩,fun _=>⟨rfl,rfl⟩,fun y hy=>by cases hy⟩
  refine dP ?_;refine cC ?_;refine cm bQ rfl rfl rfl ar ar (fun σ o' w' H hS=>?_) ?_
  ·rcases hS with⟨A2,⟨e1,e2,e3,e4⟩,-,-⟩|⟨A2,-⟩
   ·have Ye:o' w7.heap.size:=by rw[e1];exact .inl Qj
    refine⟨e2,fun y hy=>?_,fun wl aT=>?_⟩
    ·simp[Op.operands] at hy;subst hy;simp[Act.eval];exact bU Ye
    ·simp[go_sem,(aT.cell Ye).trans ((cell_of (e4 _ hAw)).trans a0)]
   ·exact absurd (H.xm 13 ah) A2
  refine cC ?_;refine cm bQ rfl rfl rfl ar ar (fun σ o' w' H hS=>?_) ?_
  ·rcases hS with⟨A2,⟨e1,e2,e3,e4⟩,-,-⟩|⟨A2,-⟩
   ·have Ye:o' w7.heap.size:=by rw[e1];exact .inl Qj
    refine⟨e2,fun y hy=>?_,fun wl aT=>?_⟩
    ·simp[Op.operands] at hy;subst hy;simp[Act.eval];exact bU Ye
    ·simp[go_sem,(aT.cell Ye).trans ((cell_of (e4 _ hAw)).trans a1)]
   ·exact absurd (H.xm 13 ah) A2
  refine cC ?_;refine cm bQ rfl rfl rfl ar ar (fun σ o' w' H hS=>?_) ?_
  ·rcases hS with⟨A2,⟨e1,e2,e3,e4⟩,-,-⟩|⟨A2,-⟩
   ·have Ye:o' w7.heap.size:=by rw[e1];exact .inl Qj
    refine⟨e2,fun y hy=>?_,fun wl aT=>?_⟩
    ·simp[Op.operands] at hy;subst hy;simp[Act.eval];exact bU Ye
    ·simp[go_sem,(aT.cell Ye).trans ((cell_of (e4 _ hAw)).trans a2)]
   ·exact absurd (H.xm 13 ah) A2
  refine cC ?_;refine ve rfl rfl ar rfl func149 ah rfl (av:=#[.slice ra rl rc,.slice (some ⟨w3.heap.size,0,none⟩) cp.length cp.length,.slice sp SR.length sc]) aH (fun σ o' w' H nA hS=>?_) ?_
  ·rcases hS with⟨A2,-,h5,-⟩|⟨A2,-⟩
   ·obtain⟨rfl,rfl⟩:=h5 nA;have adK:nm k≠[]->nb k<w4.heap.size:=fun h=>(Mq.ptr k hk h).2;have hL:=Tp (Fin:=Fin) ml (nb k) rc w3.heap.size cp.length sb sc ra sp (nm k) (cp.map (·.out)) SR (by have:=Mq.four k hk;omega) dV adD (fun h=>⟨ahL h,u9 _ (u5 _ (Mp k hk h))⟩) (fun h=>⟨(vx h).1,u9 _ (vx h).2⟩) (u9 _ (u5 _ ho4)) (fun i hi=>?_) (dc t4 ((Tx _ aa).trans (N5.old _ aa))) (fun i hi=>?_) (aac.symm▸adJ) ?_
    ·rw[bP,aac,<- GQ] at hL;refine hL.mono ?_;rintro y o2 w2 ⟨N,rfl,h1,h2⟩;refine .inl ⟨by simpa[fM] using A2,⟨N.own,N.aF,N.size,N.old⟩,fun h=>by simp[fM] at h,fun y hy=>?_⟩;simp only[fM,if_true,ay] at hy;subst hy;exact⟨rfl,h1,h2⟩
    ·have dH:nm k≠[]:=fun e=>by rw[e] at hi;simp at hi
     have:=adK dH;exact dc (Mq.txt k hk) ((Tx _ aa).trans (N5.old _ (adK dH))) i hi
    ·have dH:SR≠[]:=fun e=>by rw[e] at hi;simp at hi
     have:=N5.aF.lt (vx dH).2;exact dc adE (Tx _ this) i hi
    ·exact N5.cl.up u9
   ·exact absurd (H.xm 13 ah) A2
  walk_nrm;refine yh (v 10=.slice (some ⟨w9.heap.size,0,none⟩) rl rl) (.agg #[.string ro,.int .i64 rr,.slice (some ⟨w9.heap.size,0,none⟩) rl rl]) rfl rfl rfl ar (fun σ o' w' H hS=>?_) (fun hv w1=>?_) (fun hv w1=>?_) fun y38 ahO=>?_
  ·rcases hS with⟨-,-,-,h6⟩|⟨A2,-⟩
   ·exact(h6 _ (H.done 10 ah rfl)).1
   ·exact absurd (H.xm 13 ah) A2
  ·simp[go_sem,Act.eval,hv]
  ·simp[go_sem,Act.eval,hv]
  refine cC ?_;have hlen:(ins k).length=rl:=by rw[GQ,bP,aac]
  have ahP:w5.heap.size<w7.heap.size:=aa;have ahQ:o9 w5.heap.size:=by rw[ho9,<- ZM];exact .inl (.inl ho6)
  refine pL bQ rfl rfl rfl ar ar (fun σ o' w' H A2 hS=>?_) ?_
  ·rcases hS with⟨-,⟨e1,e2,e3,e4⟩,-,h6⟩|⟨ahR,-⟩
   ·obtain⟨hy,hz,cj⟩:=h6 _ (H.done 10 ah rfl);have Wn:o' w5.heap.size:=by rw[e1];exact .inl ahQ
    have hn':o' w9.heap.size:=by rw[e1];exact .inr ⟨ag _,hz⟩
    have adL:=ahO hy;subst adL;obtain⟨yz,Yf⟩:∃f:Nat->Nat,f=fun s=>if s=k then w9.heap.size else cM s:=⟨_,rfl⟩
    have hib:yz k=w9.heap.size:=by rw[Yf];simp
    have adM:∀s,s<k->cM s=yz s:=fun s hs=>by rw[Yf];simp[show ¬s=k by omega]
    have adN:w'.rowIs w5.heap.size 220 (cp.length*3) (gn out eR ins yz k):=(World.rowIs.of_block adG ((e4 _ aa).trans (Wm _ ahP))).congr fun j _=>El adM j;refine⟨e2,fun y NV=>?_,fun wl aV=>aV=((wl.setCell ⟨w5.heap.size,k*3,none⟩ (.string ro)).setCell ⟨w5.heap.size,k*3+1,none⟩ (.int .i64 rr)).setCell ⟨w5.heap.size,k*3+2,none⟩ (.slice (some ⟨w9.heap.size,0,none⟩) rl rl),fun wl aT=>⟨_,?_,rfl⟩,fun wl aV w2 aT hR bN=>?_⟩
    ·simp[Op.operands] at NV;rcases NV with rfl|rfl
     ·simp[Act.eval];exact bU Wn
     ·simp[Act.eval];exact fS (vs:=[_,_,_]) (fun x hx=>by
       simp at hx;rcases hx with rfl|rfl|rfl
       ·exact bS
       ·exact dS
       ·exact dY hn')
    ·have rl':=World.rowIs.of_block adN (aT.heap _ Wn);have q0:=rl'.cell (i:=k*3) aa;have q1:=rl'.cell (i:=k*3+1) aa;have q2:=rl'.cell (i:=k*3+2) aa;have f:=rl'.frozen;simp[go_sem,q0,q1,q2,f]
    ·have hO:eI w5.heap.size wl aV:=by rw[hR];exact uE _ _ _ _ _ _ _ _
     obtain⟨on,kbS,eg⟩:=bN.only aT Wn hO;have rO:=bN.aF;have adO:=Tr (World.rowIs.of_block adN (aT.heap _ Wn));rw[ahJ,ahK,hib,hlen,<- hR] at adO;have ahS:=World.rowIs.of_block adO kbS;refine .inr ⟨by simp[fM],?_,rO,by have:=on.1;omega,fun b hb dH=>?_,yz,ahS,fun s hs=>?_⟩
     ·rw[eg,e1,ho9,<- ZM,grow_grow (w:=w7) (w1:=w9) aa rfl e3,grow_grow Yd rfl aa];exact GO on.1.symm
     ·rw[on.2 b dH,e4 b aa,Wm b aa];exact adF b hb dH
     ·by_cases hsk:s=k
      ·subst hsk;rw[hib];exact⟨Ax (Qh hlen.symm cj) (on.2 _ aa),aa,by rw[on.1];exact hz⟩
      ·obtain⟨p1,p2,p3⟩:=Mr s aa;rw[<- adM s aa];exact⟨Ax p1 (by rw[on.2 _ aa,e4 _ aa,Wm _ p3]),p2,by rw[on.1];omega⟩
   ·exact absurd A2 ahR
  walk_nrm;refine cB fun σ o' w' mn hS=>?_;rcases hS with⟨A2,-⟩|⟨-,e1,e2,e3,e4,yz,e5,e6⟩
  ·rw[mn 13 eu rfl] at A2;cases A2
  clear vx adE zo fu;simp only[iH,dI,if_true,if_false,reduceIte,Nat.reduceEqDiff];refine ax ?_;have uW:IntKind.i64.wrap ((k:Int)+1)=((k+1:Nat):Int):=by rw[IntKind.wrap_i64]<;>omega
  refine⟨m-1,aa,k+1,aa,rfl,rfl,rfl,rfl,rfl,rfl,rfl,rfl,by simp[Act.eval,uW],e1,e2,e3,e4,yz,e5,e6⟩
end
end Go.Proofs.Kz
namespace Go.Ren
open Go.Conc Go.ConcN
section
variable {P:Program} {Fin:bK} {d:Nat} {o:aM} {w:ae} {fn:FuncId} {Q:Exit->Act->aM->ae->Prop} {a:Act} {ops:Array Oper} {i:Nat} {rest:List Nat} {op:Oper}
theorem rm{f:FuncId}{fc:Func}{args:Array Operand}{sA:Array TypeId}{e:Array Value->Sem Value}(ho:ops[i]?=some op)(hw:Region.wanted op (yielded ops a.tmps)=true)(eP:op.op=.call {callee:=.value (.func f),args,argTypes:=sA})(hf:P.funcs[f]?=some fc)(gP:(fc.name == "runtime.NumGoroutine")=false)(hb:fc.body.isNone=true)(hn:Extern.findNext fc=none)(he:Extern.find fc=some e){vs:Array Value}(xT:args.map a.eval=vs){v:Value}{t:ae->ae}{evs:Array Event}{dd:Option Tmp}(hd:op.dst=dd)(pg:∀n,t (w.at n)=(t w).at n)(fE:(t w).heap.size=w.heap.size)(cJ:∀n,(e vs).run P (w.at n)=.ok v (t (w.at n)))(jg:∀n,(e vs).events P (w.at n) #[⟨.mark (.extern f),false,true⟩]=#[⟨.mark (.extern f),false,true⟩]++evs)(hs:∀x∈evs,x.sync=true/\(∀g,x.loc≠.mark (.extern g))/\x.loc≠.mark .disable/\x.loc≠.mark .enable)(h:eX (XB P Fin d) fn ops rest Q (a.put dd v) o (t w))(RE:(t w).os=w.os/\(t w).output=w.output:=by exact⟨rfl,rfl⟩):eX (XB P Fin d) fn ops (i::rest) Q a o w:=fun b k cs nn hk hc =>
 zq ho hw hk eP hf gP hb hn he hd pg fE (fun n=>by rw[xT];exact cJ n) (fun n=>by rw[xT];exact jg n) hs (h b k cs nn hk hc) RE
theorem Ms(ho:ops[i]?=some op)(hw:Region.wanted op (yielded ops a.tmps)=true){v:Value}{dd:Option Tmp}(hd:op.dst=dd)(hr:∀n,(execOp a.eval op).run P (w.at n)=.ok (.value v) (w.at n))(jg:∀n,∀x∈(execOp a.eval op).events P (w.at n) #[],Zt Fin o x/\x.loc≠.mark .disable/\x.loc≠.mark .enable)(h:eX (XB P Fin d) fn ops rest Q (a.put dd v) o w):eX (XB P Fin d) fn ops (i::rest) Q a o w:=fun b k cs nn hk hc=>IT ho hw hk hd hr jg (h b k cs nn hk hc)
theorem C0(ho:ops[i]?=some op)(hw:Region.wanted op (yielded ops a.tmps)=true){v:Value}{dd:Option Tmp}(hd:op.dst=dd)(hr:∀n,(execOp a.eval op).run P (w.at n)=.ok (.value v) (w.at n))(jg:∀n,∀x∈(execOp a.eval op).events P (w.at n) #[],VD o x/\x.loc≠.mark .disable/\x.loc≠.mark .enable)(h:eX (XB P Fin d) fn ops rest Q (a.put dd v) o w):eX (XB P Fin d) fn ops (i::rest) Q a o w:=fun b k cs nn hk hc=>x9 ho hw hk hd hr jg (h b k cs nn hk hc)
end
section
variable {P:Program} {L:Nat->Bool} {Fin:bK} {d:Nat} {fn:FuncId} {Q:Exit->Act->aM->ae->Prop} {a:Act} {ops:Array Oper} {S:(Nat->Option Value)->aM->ae->Prop} {kds:List Kd} {v:Nat->Value} {K:Act->Prop} {j:Nat} {l:List Nat} {xs:List Kd} {op:Oper} {dd:Option Tmp}
theorem Ty{f:FuncId}{fc:Func}{args:Array Operand}{sA:Array TypeId}{e:Array Value->Sem Value}(ho:ops[j]?=some op)(hd:op.dst=dd)(hw:Region.wanted op (yielded ops a.tmps)=true)(eP:op.op=.call {callee:=.value (.func f),args,argTypes:=sA})(hf:P.funcs[f]?=some fc)(gP:(fc.name == "runtime.NumGoroutine")=false)(hb:fc.body.isNone=true)(hn:Extern.findNext fc=none)(he:Extern.find fc=some e){av:Array Value}(has:args.map a.eval=av)(cJ:∀σ o w,zw ops kds v j σ->σ j=none->S σ o w->∃(y:Value) (t:ae->ae) (evs:Array Event),(∀n,t (w.at n)=(t w).at n)/\((t w).heap.size=w.heap.size/\(t w).os=w.os/\(t w).output=w.output)/\(∀n,(e av).run P (w.at n)=.ok y (t (w.at n)))/\(∀n,(e av).events P (w.at n) #[⟨.mark (.extern f),false,true⟩]=#[⟨.mark (.extern f),false,true⟩]++evs)/\(∀x∈evs,x.sync=true/\(∀g,x.loc≠.mark (.extern g))/\x.loc≠.mark .disable/\x.loc≠.mark .enable)/\S (fM σ j y) o (t w))(h:dJ P (Bl P (XB P Fin d) fn ops Q S kds v) ops K v l xs (a.put dd (v j))):dJ P (Bl P (XB P Fin d) fn ops Q S kds v) ops K v (j::l) (none::xs) a:=by
 refine gh ho hd (fun A rest σ o w h1 h2 h3 h4 hS hc=>?_) rfl h;obtain⟨y,t,evs,k1,k2,k3,k4,k5,k6⟩:=cJ σ o w h3 (h4 rfl) hS;exact rm ho (h2.trans hw) eP hf gP hb hn he ((pJ eP h1).trans has) rfl k1 k2.1 k3 k4 k5 (hc y o (t w) k6) k2.2
end
section
variable {P:Program} {w:ae} {ad:Addr}
theorem Em{k:IntKind}{x:Int}(hc:w.cell? ad=some (.int k x)):(Extern.Atomic.loadT (.int k) #[.pointer (some ad)]).run P w=.ok (.int k x) w:=by
 change Sem.run P (do Extern.Atomic.read (.int k) (<- asAddr (.pointer (some ad)))) w=_;simp[Extern.Atomic.read,asAddr,hc]
theorem zI{k:IntKind}{x:Int}(hc:w.cell? ad=some (.int k x))(es:Array Event):(Extern.Atomic.loadT (.int k) #[.pointer (some ad)]).events P w es=es.push ⟨.cell ad,false,true⟩:=by
 change Sem.events P (do Extern.Atomic.read (.int k) (<- asAddr (.pointer (some ad)))) w _=_;simp[Extern.Atomic.read,asAddr,hc,events_load]
theorem En{p:Option Addr}(hc:w.cell? ad=some (.pointer p)):(Extern.Atomic.loadT .ptr #[.pointer (some ad)]).run P w=.ok (.pointer p) w:=by
 change Sem.run P (do Extern.Atomic.read .ptr (<- asAddr (.pointer (some ad)))) w=_;simp[Extern.Atomic.read,asAddr,hc]
theorem zJ{p:Option Addr}(hc:w.cell? ad=some (.pointer p))(es:Array Event):(Extern.Atomic.loadT .ptr #[.pointer (some ad)]).events P w es=es.push ⟨.cell ad,false,true⟩:=by
 change Sem.events P (do Extern.Atomic.read .ptr (<- asAddr (.pointer (some ad)))) w _=_;simp[Extern.Atomic.read,asAddr,hc,events_load]
theorem C1{v u:Value}(hc:w.cell? ad=some u)(hz:w.frozen? ad=false)(hv:v.oneCell'=true):(Extern.Atomic.storeT #[.pointer (some ad),v]).run P w=.ok (.tuple #[]) (w.setCell ad v):=by
 change Sem.run P (do
  store (<- asAddr (.pointer (some ad))) v .atomic
  pure Extern.Atomic.none_) w=_
 simp[asAddr,Extern.Atomic.none_,run_store P w ad v .atomic hv,hc,hz]
theorem wi{v u:Value}(hc:w.cell? ad=some u)(hz:w.frozen? ad=false)(hv:v.oneCell'=true)(es:Array Event):(Extern.Atomic.storeT #[.pointer (some ad),v]).events P w es=es.push ⟨.cell ad,true,true⟩:=by
 change Sem.events P (do
  store (<- asAddr (.pointer (some ad))) v .atomic
  pure Extern.Atomic.none_) w _=_
 simp[asAddr,hc,hz,events_store P w _ ad v .atomic hv]
end
section
variable {P:Program} {m:Bool} {R:aM->ae->ae->Prop} {Gu:aM->ae->ae->Array Event->Prop} {X:aM->aX->ae->Prop} {o:aM} {w:ae} {f:FuncId} {Post:Value->aM->ae->Prop}
theorem GR(W:fH P m R Gu X){g:FuncId}{gc:Func}{c:Code}{args tm:Array Value}{ds:List Deferred}(hg:P.funcs[g]?=some gc)(gP:(gc.name == "runtime.NumGoroutine")=false)(fF:gc.body=some c)(h:vV X g c (fun e a' o' w'=>(e=.normal\/e=.ret)/\a'.defers=[]/\(∃v,ResultsC P gc a'.tmps v)/\jK X f Post ⟨tm,ds⟩ o' w') {tmps:=args++Array.replicate (gc.ntmps-args.size) undef,defers:=[]} o w):
  jK X f Post ⟨tm,{target:=.fn (.func g) #[],args}::ds⟩ o w:=by
 intro cf cs todo hc;refine W.go rfl (fun w1=>stepG_unwind_enter rfl hg gP fF) ?_;have leave:∀(a':Act) (o':aM) (w':ae) (td:List Item),a'.defers=[]->(∃v,ResultsC P gc a'.tmps v)->jK X f Post ⟨tm,ds⟩ o' w'->X o' (G {(baseD g).at a' td with mode:=.returning} ({(base f).at ⟨tm,ds⟩ todo with mode:=.returning}::cf::cs)) w':=by
  rintro a' o' w' td hd ⟨v,hr⟩ hl;exact W.go rfl (fun w1=>stepG_leave_deferred (b:=baseD g) rfl hd hg (hr w1).1 (hr w1).2 rfl) (hl cf cs todo hc)
 refine h (baseD g) [] _ rfl (by simp[baseD]) fun e a' o' w' q=>?_;obtain⟨he,hd,hr,hl⟩:=q;rcases he with rfl|rfl
 ·exact W.go rfl (fun _=>ef) (leave a' o' w' [] hd hr hl)
 ·exact fun td=>leave a' o' w' td hd hr hl
end
end Go.Ren
namespace Go.Proofs.Kz
open Go.Proofs.Tryz
open Go.Proofs.Tryz renaming prog → au
open _root_.ByteArray renaming empty → aO
open Go.Ren Go.Conc Go.Proofs Go.ConcN
section
variable {Fin:bK} {o:aM} {w:ae}
theorem xd(K off:Nat)(x:Int)(hc:w.cell? ⟨K,off,none⟩=some (.int .u32 x)):
  bz au (XB au Fin 0) 142 #[.pointer (some ⟨K,off,none⟩)] o w fun v o' w'=>v=.bool (x != 0)/\o'=o/\w'=w:=by
 have W:=bV (P:=au) (Fin:=Fin) (d:=0);refine bC W func142 rfl ?_;walk_nrmf Tryz.f142;refine ax ?_;refine rm rfl ar rfl func182 ah ah ah (e:=Extern.Atomic.loadT (.int .u32)) ah (vs:=#[.pointer (some ⟨K,off,none⟩)]) aH (t:=id) rfl (fun n=>rfl) rfl (fun n=>Em hc) (fun n=>by rw[zI (w:=w.at n) hc];rfl) (yq _ _) ?_;refine ax ?_;exact⟨.inr trivial,trivial,_,resultsC_tmp (t:=2) ar _,aH⟩
theorem adP:bz au (XB au Fin 0) 202 #[.bool true] o w fun v o' w'=>v=.int .u32 1/\o'=o/\w'=w:=by
 have W:=bV (P:=au) (Fin:=Fin) (d:=0);refine bC W func202 rfl ?_;walk_nrmf Tryz.f202;refine ax ?_;exact⟨.inr trivial,trivial,_,resultsC_tmp (t:=2) ar _,aH⟩
theorem Mt{f:FuncId}{Post:Value->aM->ae->Prop}(K off:Nat)(x:Int)(hc:w.cell? ⟨K,off,none⟩=some (.int .u32 x))(hz:w.frozen? ⟨K,off,none⟩=false)(hF:bM au L0 o w)(tm:Array Value)(ds:List Deferred)(h:jK (XB au Fin 0) f Post ⟨tm,ds⟩ o (w.setCell ⟨K,off,none⟩ (.int .u32 1))):jK (XB au Fin 0) f Post ⟨tm,{target:=.fn (.func 183) #[],args:=#[.pointer (some ⟨K,off,none⟩),.bool true]}::ds⟩ o w:=by
 have W:=bV (P:=au) (Fin:=Fin) (d:=0);refine GR W func183 ah rfl ?_;walk_nrmf Tryz.f183;refine dQ mixed ah [some none,some none,some none,some none,some (some (.int .u32 1)),none] (S:=fun σ o' w'=>o'=o/\(σ 5=none->w'=w)/\∀y,σ 5=some y->w'=w.setCell ⟨K,off,none⟩ (.int .u32 1)) ⟨rfl,fun _=>rfl,fun y hy=>by cases hy⟩ fun v=>?_;refine dP ?_;refine cC ?_;refine jP rfl rfl ar rfl func202 ah rfl (av:=#[.bool true]) aH (fun σ o' w' H hS=>adP.mono ?_) ?_
 ·rintro v o2 w2 ⟨rfl,rfl,rfl⟩;exact⟨rfl,hS⟩
 walk_nrm;refine Ty rfl rfl ar rfl func201 ah ah ah (e:=Extern.Atomic.storeT) ah (av:=#[.pointer (some ⟨K,off,none⟩),.int .u32 1]) aH (fun σ o' w' H h5 hS=>?_) ?_
 ·obtain⟨rfl,h1,-⟩:=hS;obtain rfl:=h1 h5;exact⟨.tuple #[],fun w=>w.setCell ⟨K,off,none⟩ (.int .u32 1),#[⟨.cell ⟨K,off,none⟩,true,true⟩],fun n=>rfl,⟨yp _ _ _,rfl,rfl⟩,fun n=>C1 hc hz rfl,fun n=>by rw[wi (w:=World.at _ n) hc hz rfl];rfl,yq _ _,rfl,fun h=>by simp[fM] at h,fun y _=>rfl⟩
 walk_nrm;refine cB fun σ o' w' mn hS=>?_;obtain⟨rfl,-,h2⟩:=hS;obtain rfl:=h2 _ (mn 5 eu rfl);exact⟨.inl trivial,rfl,⟨.tuple #[],fun w1=>results_none ah _ _⟩,h⟩
theorem wj{f:FuncId}{Post:Value->aM->ae->Prop}(K off:Nat)(X6:o K)(hc:w.cell? ⟨K,off,none⟩=some (.int .i32 1))(hz:w.frozen? ⟨K,off,none⟩=false)(tm:Array Value)(ds:List Deferred)(h:jK (XB au Fin 0) f Post ⟨tm,ds⟩ o (w.setCell ⟨K,off,none⟩ (.int .i32 0))):jK (XB au Fin 0) f Post ⟨tm,{target:=.fn (.func 46) #[],args:=#[.pointer (some ⟨K,off,none⟩)]}::ds⟩ o w :=
 fun cf cs todo K2=>Jw K off X6 hc hz (base f) tm ds todo (cf::cs) (h cf cs todo K2)
theorem xe{P:Program}{src dst u e:TypeId}{j:TypeInfo}{cells:Nat}(a:Addr)(hs:P.underlying src=some .unsafePointer)(hd:P.underlying dst=some (.pointer u))(hu:P.info? u=some j)(tf:w.shape? a.block=some (e,cells))(adQ:liesAt P P.depth e (cells/P.cellsOf e) a.off u 1=true)(es:Array Event):
  (convert src dst (.pointer (some a))).events P w es=es:=by
 simp[convert,run_underlying hs,run_underlying hd,Conv.unsafePointer,Conv.seenAt,viewAt,tf,variablesAt,adQ,sizeOf,typeInfo,hu,Result.evThen]
theorem setInfo:∃j,au.info? 59=some j/\j.size≠0:=by
 have:(au.info? 59).map (fun i=>decide (i.size≠0))=some true:=ah;obtain⟨j,h1,h2⟩:=Option.map_eq_some_iff.1 this;exact⟨j,h1,by simpa using h2⟩
theorem Fq(K off:Nat)(A:Nat)(x y z:Value)(hc:w.cell? ⟨K,off,none⟩=some (.pointer (some ⟨A,0,none⟩)))(hA:w.heap[A]?=some (.cells #[x,y,z] 59)):
  bz au (XB au Fin 0) 49 #[.pointer (some ⟨K,off,none⟩)] o w fun v o' w'=>v=.pointer (some ⟨A,0,none⟩)/\o'=o/\w'=w:=by
 have W:=bV (P:=au) (Fin:=Fin) (d:=0);refine bC W func49 rfl ?_;walk_nrmf Tryz.f49;refine ax ?_;refine rm rfl ar rfl func81 ah ah ah (e:=Extern.Atomic.loadT .ptr) ah (vs:=#[.pointer (some ⟨K,off,none⟩)]) aH (t:=id) rfl (fun n=>rfl) rfl (fun n=>En hc) (fun n=>by rw[zJ (w:=w.at n) hc];rfl) (yq _ _) ?_;walk_nrm;refine C0 rfl ar (v:=.pointer (some ⟨A,0,none⟩)) rfl (fun n=>?_) (fun n x hx=>?_) ?_
 ·obtain⟨j,hj,-⟩:=setInfo;have:=Lib.run_from_unsafe (P:=au) (w:=w.at n) (src:=116) (dst:=113) (e:=59) (cells:=3) ⟨A,0,none⟩ underlying116 underlying113 hj (by simp[World.shape?,World.at,hA]) ah;simp[go_sem,this]
 ·obtain⟨j,hj,-⟩:=setInfo;have:=xe (P:=au) (w:=w.at n) (src:=116) (dst:=113) (e:=59) (cells:=3) ⟨A,0,none⟩ underlying116 underlying113 hj (by simp[World.shape?,World.at,hA]) ah #[];simp[go_sem,this] at hx
 refine ax ?_;exact⟨.inr trivial,trivial,_,resultsC_tmp (t:=2) ar _,aH⟩
theorem C2(K off:Nat)(A:Nat)(x y z u:Value)(hc:w.cell? ⟨K,off,none⟩=some u)(hz:w.frozen? ⟨K,off,none⟩=false)(hA:w.heap[A]?=some (.cells #[x,y,z] 59)):
  bz au (XB au Fin 0) 61 #[.pointer (some ⟨K,off,none⟩),.pointer (some ⟨A,0,none⟩)] o w fun v o' w'=>v=.tuple #[]/\o'=o/\w'=w.setCell ⟨K,off,none⟩ (.pointer (some ⟨A,0,none⟩)):=by
 have W:=bV (P:=au) (Fin:=Fin) (d:=0);refine bC W func61 rfl ?_;walk_nrmf Tryz.f61;refine ax ?_;obtain⟨Zn,-⟩:=eO hA;have hcv:=fun n=>run_convert_to_unsafe (P:=au) (w:=w.at n) underlying113 underlying116 ah Zn;have hce:=fun n es=>events_convert_to_unsafe (P:=au) (w:=w.at n) underlying113 underlying116 ah Zn es;refine C0 rfl ar (v:=.pointer (some ⟨A,0,none⟩)) rfl (fun n=>by simp[go_sem,hcv n]) (fun n x hx=>by simp[go_sem,hce n] at hx) ?_;walk_nrm;refine rm rfl ar rfl func99 ah ah ah (e:=Extern.Atomic.storeT) ah (vs:=#[.pointer (some ⟨K,off,none⟩),.pointer (some ⟨A,0,none⟩)]) aH (t:=fun w=>w.setCell ⟨K,off,none⟩ (.pointer (some ⟨A,0,none⟩))) rfl (fun n=>rfl) (yp _ _ _) (fun n=>C1 hc hz rfl) (fun n=>by rw[wi (w:=w.at n) hc hz rfl];rfl) (yq _ _) ?_;refine ax ?_;exact⟨.inl trivial,trivial,.tuple #[],fun w1=>results_none ah _ _,aj⟩
end
end Go.Proofs.Kz
