import Derived.Test.YtgjekaaknjgnmaaGreatDoorAe
import Derived.Deep.SlicePairs
import Derived.MakeChecks
import Derived.MapKept
import Derived.OpenShut
import Derived.Test.YtgjekaaknjgnmaaGreatDoorRows
import Derived.WideMake
set_option linter.all false
set_option maxHeartbeats 40000000
set_option maxRecDepth 200000
namespace Go.Proofs.Kz
open Go.Proofs.Tryz
open Go.Proofs.Tryz renaming prog → ax
open _root_.ByteArray renaming empty → aR
open _root_.Option renaming some → so,none → we
open Go.Proofs
structure jS(rs:List aI)(NM:aI->List af)(RK:af->Nat):Prop where
 nodup:(rs.map (·.out)).Nodup
 low:∀r∈rs,RK r.out<rs.length
 Bl:∀r∈rs,∀x∈NM r,x∈rs.map (·.out)->RK x<RK r.out
 eO:∀r∈rs,1<=r.eO/\r.eO<=5
 four:∀r∈rs,(NM r).length<=4
def jS.perm{rs b7:List aI}{NM:aI->List af}{RK:af->Nat}(h:jS rs NM RK)(p:b7.Perm rs):jS b7 NM RK where
 nodup:=((p.map (·.out)).nodup_iff).2 h.nodup
 low r hr:=by rw[p.length_eq];exact h.low r (p.mem_iff.1 hr)
 Bl r hr x hx ho:=h.Bl r (p.mem_iff.1 hr) x hx (((p.map (·.out)).mem_iff).1 ho)
 eO r hr:=h.eO r (p.mem_iff.1 hr)
 four r hr:=h.four r (p.mem_iff.1 hr)
def uN{rs:List aI}(hn:(rs.map (·.out)).Nodup)(hs:∀i j (hi:i<rs.length) (hj:j<rs.length),i<j->¬qP rs[j] rs[i]<0):lO (rs.map (·.out)):=λi j hi hj Fv=>by
 have ml:i<rs.length:=by simpa using hi
 have sg:j<rs.length:=by simpa using hj
 simp only[List.getElem_map];have h1:=hs i j ml sg Fv;unfold qP at h1;have e:∀b:af,b.data.toList=b.toList:=λb=>(ByteArray.toList_eq b).symm;rw[e,e]at h1;rw[si rs[i].out.toList rs[j].out.toList]at h1;have h2:Lib.compareBytes rs[i].out.toList rs[j].out.toList≠0:=λh=>by
  have h3:=sS _ _ h;have h4:rs[i].out=rs[j].out:=by
   have:rs[i].out.data=rs[j].out.data:=by
    apply Array.toList_inj.1;rw[e,e];exact h3
   cases hx:rs[i].out;cases hy:rs[j].out;rw[hx,hy]at this;simp at this;rw[this]
  have:=(aaj.1 hn i j hi hj Fv);simp only[List.getElem_map]at this;exact this h4
 omega
section
variable {rs:List aI}{NM:aI->List af}{RK:af->Nat}
def Hg{xs:List af}{x:af}(h:pQ xs x=true):∃h:ni xs x<xs.length,xs[ni xs x]=x:=by
 unfold pQ at h;simp only[decide_eq_true_eq]at h;refine⟨h.1,?_⟩;have:=h.2;simpa[List.getD,h.1] using this
def QO{outs:List af}{l:List af}{x:af}:x∈tA outs l↔x∈l/\x∉outs:=by
 unfold tA;rw[aay];constructor
 ·rintro⟨h1,h2⟩;refine⟨h1,λh=>?_⟩;rw[(Lib.containsS_iff outs x).2 h]at h2;cases h2
 ·rintro⟨h1,h2⟩;refine⟨h1,?_⟩;cases hc:Lib.containsS outs x with
  |false=>rfl
  |true=>exact absurd ((Lib.containsS_iff outs x).1 hc) h2
def J4{outs:List af}{nm:Nat->List af}{x:af}:∀k,x∈lF outs nm k↔∃i,i<k/\x∈nm i/\x∉outs
 |0=>by simp[lF]
 |k+1=>by
  simp only[lF,List.mem_append,J4 k,QO];constructor
  ·rintro(⟨i,h1,h2,h3⟩|⟨h2,h3⟩)
   ·exact⟨i,aa,h2,h3⟩
   ·exact⟨k,aa,h2,h3⟩
  ·rintro⟨i,h1,h2,h3⟩;by_cases e:i=k
   ·subst e;exact .inr ⟨h2,h3⟩
   ·exact .inl ⟨i,aa,h2,h3⟩
def lu{i:Nat}(h:i<rs.length):D8 NM rs i=NM rs[i]:=by simp[D8,h]
def yK{i:Nat}(h:i<rs.length):lX rs i=rs[i].out:=by simp[lX,h]
def Oq{i:Nat}(h:i<rs.length):zT rs i=rs[i].eO:=by simp[zT,h]
def qx{x:af}:x∈dZ NM rs↔∃r∈rs,x∈NM r/\x∉rs.map (·.out):=by
 unfold dZ;rw[(oO _).2,J4];constructor
 ·rintro⟨i,h1,h2,h3⟩;rw[lu h1]at h2;exact⟨rs[i],aG h1,h2,h3⟩
 ·rintro⟨r,h1,h2,h3⟩;obtain⟨i,hi,rfl⟩:=a8 h1;exact⟨i,hi,by rw[lu hi];exact h2,h3⟩
def Xz(hS:lO (rs.map (·.out))){s m:Nat}(hs:s<rs.length)(h:(true,m)∈mz NM rs s):∃hm:m<rs.length,rs[m].out∈NM rs[s]:=by
 unfold mz at h;rw[lu hs]at h;obtain⟨x,hx,he⟩:=aag.1 h;unfold rq at he;have h1:pQ (rs.map (·.out)) x=true:=congrArg Prod.fst he;have h2:=congrArg Prod.snd he;simp only[h1,if_true]at h2;obtain⟨hp,mm⟩:=Hg h1;subst h2;rw[bT]at hp;exact⟨hp,by simp only[List.getElem_map]at mm;rw[mm];exact hx⟩
def XA(hS:lO (rs.map (·.out))){s m:Nat}(hs:s<rs.length)(h:(false,m)∈mz NM rs s):m<(dZ NM rs).length:=by
 unfold mz at h;rw[lu hs]at h;obtain⟨x,hx,he⟩:=aag.1 h;unfold rq at he;have h1:pQ (rs.map (·.out)) x=false:=congrArg Prod.fst he;have h2:=congrArg Prod.snd he;simp only[h1,aQ,if_false]at h2;have Ha:x∉rs.map (·.out):=λhm=>by rw[(yF _ hS x).2 hm]at h1;cases h1
 have hm:x∈dZ NM rs:=qx.2 ⟨rs[s],aG hs,hx,Ha⟩;obtain⟨hp,-⟩:=Hg ((yF _ (oO _).1 x).2 hm);rw[<- h2];exact hp
def qy(rs:List aI)(NM:aI->List af)(file:af->V):Nat->af->V
 |0,_=>V0
 |f+1,x=>match rs.find? (λr=>decide (r.out=x)) with
  |some r=>iV r.eO ((NM r).map (qy rs NM file f))
  |none=>file x
def valOf(rs:List aI)(NM:aI->List af)(file:af->V)(x:af):V:=qy rs NM file (rs.length+1) x
def sk(hn:(rs.map (·.out)).Nodup){r:aI}(hr:r∈rs):rs.find? (λq=>decide (q.out=r.out))=so r:=by
 induction rs with
 |nil=>cases hr
 |cons q l ih =>
  rw[aC,db]at hn;rcases bM.1 hr with rfl|h
  ·simp
  ·have dE:decide (q.out=r.out)=false:=dq λe=>hn.1 (by rw[e];exact gE h);rw[List.find?_cons,dE];exact ih hn.2 h
def sn{x:af}(h:x∉rs.map (·.out)):rs.find? (λq=>decide (q.out=x))=we:=by
 rw[List.find?_eq_none];intro q hq;simp only[decide_eq_true_eq];intro e;exact h (e▸gE hq)
def J5(h:jS rs NM RK)(file:af->V):∀(k f g:Nat) (x:af),(x∈rs.map (·.out)->RK x<k)->k<f->k<g->qy rs NM file f x=qy rs NM file g x:=by
 intro k
 induction k with
 |zero =>
  intro f g x hx hf hg;obtain⟨f,rfl⟩:∃f',f=f'+1:=⟨f-1,aa⟩;obtain⟨g,rfl⟩:∃g',g=g'+1:=⟨g-1,aa⟩;have:x∉rs.map (·.out):=λhm=>by have:=hx hm;omega
  simp only[qy,sn this]
 |succ k ih =>
  intro f g x hx hf hg;obtain⟨f,rfl⟩:∃f',f=f'+1:=⟨f-1,aa⟩;obtain⟨g,rfl⟩:∃g',g=g'+1:=⟨g-1,aa⟩;by_cases hm:x∈rs.map (·.out)
  ·obtain⟨r,hr,rfl⟩:=aag.1 hm;simp only[qy,sk h.nodup hr]
   congr 1
   refine bG λy hy=>ih f g y (λhym=>?_) aa aa;have:=h.Bl r hr y hy hym;have:=hx hm;omega
  ·simp only[qy,sn hm]
def p7(h:jS rs NM RK)(file:af->V){r:aI}(hr:r∈rs):valOf rs NM file r.out=iV r.eO ((NM r).map (valOf rs NM file)):=by
 unfold valOf
 conv=>lhs;unfold qy
 simp only[sk h.nodup hr]
 congr 1
 refine bG λy hy=>J5 h file (rs.length-1) _ _ y (λhm=>?_) ?_ ?_
 ·have:=h.Bl r hr y hy hm;have:=h.low r hr;omega
 ·have:0<rs.length:=iv hr;omega
 ·omega
def p8(file:af->V){x:af}(h:x∉rs.map (·.out)):valOf rs NM file x=file x:=by
 unfold valOf qy;simp only[sn h]
def Ds{b7:List aI}(h:jS rs NM RK)(p:b7.Perm rs)(file:af->V)(x:af):valOf b7 NM file x=valOf rs NM file x:=by
 unfold valOf;rw[p.length_eq];generalize rs.length+1=f
 induction f generalizing x with
 |zero=>rfl
 |succ f ih =>
  unfold qy;by_cases hm:x∈rs.map (·.out)
  ·obtain⟨r,hr,rfl⟩:=aag.1 hm;rw[sk h.nodup hr,sk (h.perm p).nodup (p.mem_iff.2 hr)];simp only
   congr 1
   exact bG λy _=>ih y
  ·rw[sn hm,sn (λhx=>hm (((p.map (·.out)).mem_iff).1 hx))]
def QP(h:jS rs NM RK)(hS:lO (rs.map (·.out)))(D:mZ)(file:af->V)(res:Nat->V)(Hd:D.ins=mz NM rs)(hv:D.lW=(dZ NM rs).map file)(tF:∀s,s<rs.length->res s=valOf rs NM file (lX rs s)){s:Nat}(hs:s<rs.length):dX D res s=(NM rs[s]).map (valOf rs NM file):=by
 unfold dX;rw[Hd];unfold mz;rw[lu hs,List.map_map];refine bG λx hx=>?_;simp only[Function.comp,JC,rq];rcases Bool.eq_false_or_eq_true (pQ (rs.map (·.out)) x)with hh|hh
 ·obtain⟨hp,mm⟩:=Hg hh;have hp':ni (rs.map (·.out)) x<rs.length:=by simpa using hp
  simp only[hh,if_true];rw[tF _ hp',yK hp'];simp only[List.getElem_map]at mm;rw[mm]
 ·have Ha:x∉rs.map (·.out):=λhm=>by rw[(yF _ hS x).2 hm]at hh;cases hh
  have hm:x∈dZ NM rs:=qx.2 ⟨rs[s],aG hs,hx,Ha⟩;obtain⟨hp,mm⟩:=Hg ((yF _ (oO _).1 x).2 hm);have hp2:ni (dZ NM rs) x<(dZ NM rs).length:=hp;have hx2:(dZ NM rs)[ni (dZ NM rs) x]=x:=mm;simp only[hh,aQ,if_false,hv];rw[p8 file Ha];simp[List.getD,hp2,hx2]
end
def J6(n:Nat)(h:n<18446744073709551616):(⟨(Lib.decDigits n).toArray⟩:af).size<=20:=by
 show(Lib.decDigits n).toArray.size<=20;rw[List.size_toArray,Lib.decDigits_length];exact Lib.nDigits_le20 n h
def Dt(l:List UInt8):(bytes l).size=l.length:=by
 show l.toArray.size=l.length;simp
def J7{M:Nat}:∀{ts:List af},(∀t∈ts,t.size<=M)->jg ts<=M*ts.length
 | [],_=>by simp[jg]
 |t::ts,h=>by
  have h1:=h t ar;have h2:=J7 (ts:=ts) λx hx=>h x (by simp[hx]);simp only[jg,aC,List.sum_cons,List.length_cons,Nat.mul_add]at h2 |-;omega
def J8{M:Nat}:∀{ts:List af},(∀t∈ts,t.size<=M)->sP ts<=255*M*ts.length
 | [],_=>by simp[sP]
 |t::ts,h=>by
  have h1:=h t ar;have h2:=J8 (ts:=ts) λx hx=>h x (by simp[hx]);have h3:=GN t.data.toList;have h4:t.data.toList.length=t.size:=by rw[Array.length_toList];rfl
  simp only[sP,aC,List.sum_cons,List.length_cons,Nat.mul_add]at h2 |-;rw[h4]at h3;have h5:255*t.size<=255*M:=Nat.mul_le_mul_left _ h1;omega
def XC(x y:af):Lib.minS x y=x\/Lib.minS x y=y:=by
 unfold Lib.minS;split
 ·exact .inl rfl
 ·exact .inr rfl
def FK:∀(l:List af) (x:af),l.foldl Lib.minS x=x\/l.foldl Lib.minS x∈l
 | [],x=>.inl rfl
 |y::l,x=>by
  simp only[List.foldl_cons];rcases FK l (Lib.minS x y)with h|h
  ·rw[h];rcases XC x y with e|e
   ·exact .inl e
   ·exact .inr (by rw[e];simp)
  ·exact .inr (by simp[h])
def Uo(l:List af)(h:l≠[]):Lib.minOfS l∈l:=by
 unfold Lib.minOfS;cases l with
 |nil=>exact absurd rfl h
 |cons y l =>
  rcases FK (y::l) ((y::l).headD aR)with e|e
  ·rw[e];simp
  ·exact e
def MM{r:Int}{vs:List V}(hl:vs.length<=4)(h:∀v∈vs,v.2.size<=100):(iV r vs).2.size<=100:=by
 have ht:∀t∈vs.map (·.2),t.size<=100:=λt ht=>by
  obtain⟨v,hv,rfl⟩:=aag.1 ht;exact h v hv
 unfold iV;split
 ·have:=CZ vs;exact aY (J6 _ aa) aa
 ·split
  ·exact aV _
  ·show(lV r (vs.map (·.2))).size<=100;unfold lV;split
   ·rw[Dt];simp;omega
   ·split
    ·rw[Dt];simp;omega
    ·split
     ·have:=J8 ht;rw[bT]at this;exact aY (J6 _ aa) aa
     ·split
      ·unfold zL;split
       ·exact aV _
       ·rename_i dE;exact ht _ (Uo _ dE)
      ·exact aV _
def FL{rs:List aI}{NM:aI->List af}(h4:∀r∈rs,(NM r).length<=4){file:af->V}(hf:∀x,(file x).2.size<=100):∀f x,(qy rs NM file f x).2.size<=100
 |0,x=>by simp[qy,V0]
 |f+1,x=>by
  unfold qy;cases hr:rs.find? (λr=>decide (r.out=x)) with
  |none=>exact hf x
  |some r =>
   have hm:=jH hr;refine MM (by rw[bT];exact h4 r hm) λv hv=>?_;obtain⟨y,_,rfl⟩:=aag.1 hv;exact FL h4 hf f y
open Go.Ren Go.Conc Go.ConcN
structure cT where
 b7:List aI
 St:Nat
 Or:Nat
 cO:Nat->Nat
 sv:Value
section
variable {Fin:bL}{o:aM}{w:ae}
def AT(F:cT)(b:Nat):Prop:=b=F.St\/b=F.Or\/(∃s,s<F.b7.length/\b=F.cO s)\/∃l c,F.sv=.slice (so ⟨b,0,we⟩) l c
structure zX(o:aM)(w:ae)(lo:Nat)(rs:List aI)(NM:aI->List af)(F:cT)(y:Value):Prop where
 lay:wD lo NM F.b7 F.St F.Or F.cO F.sv y w
 perm:F.b7.Perm rs
 sorted:∀i j (hi:i<F.b7.length) (hj:j<F.b7.length),i<j->¬qP F.b7[j] F.b7[i]<0
 own:∀b,AT F b->o b
def zX.ge{lo:Nat}{rs:List aI}{NM:aI->List af}{F:cT}{y:Value}(h:zX o w lo rs NM F y){b:Nat}(hb:AT F b):lo<=b:=by
 rcases hb with rfl|rfl|⟨s,hs,rfl⟩|⟨l,c,e⟩
 ·exact h.lay.st.1
 ·exact h.lay.or.1
 ·exact h.lay.ib s hs
 ·rcases h.lay.src with⟨h1,-⟩|⟨g,cap,h1,h2,h3,h4,h5⟩
  ·rw[h1]at e;cases e
  ·rw[h1]at e;cases e;exact h3
def zX.keep{lo:Nat}{rs:List aI}{NM:aI->List af}{F:cT}{y:Value}{o':aM}{w':ae}(h:zX o w lo rs NM F y)(nZ:∀b,AT F b->o' b)(hz:w.heap.size<=w'.heap.size)(e:∀b,AT F b->w'.heap[b]?=w.heap[b]?):zX o' w' lo rs NM F y where
 lay:={
  val:=h.lay.val
  steps:=jA h.lay.steps (e _ (.inl rfl)) (λs hs=>e _ (.inr (.inr (.inl ⟨s,hs,rfl⟩)))) hz
  ord:=World.rowIs.of_block h.lay.ord (e _ (.inr (.inl rfl)))
  src:=by
   rcases h.lay.src with h1|⟨g,cap,h1,h2,h3,h4,h5⟩
   ·exact .inl h1
   ·exact .inr ⟨g,cap,h1,h2,h3,aa,cD h5 (e g (.inr (.inr (.inr ⟨_,_,h1⟩))))⟩
  st:=⟨h.lay.st.1,by have:=h.lay.st.2;omega⟩
  or:=⟨h.lay.or.1,by have:=h.lay.or.2;omega⟩
  ib:=h.lay.ib}
 perm:=h.perm
 sorted:=h.sorted
 own:=nZ
def Ot(Rb s:Nat)(r:Int)(x:Option (Nat×List V))(w:ae):Prop:=match x with
 |none=>w.cell? ⟨Rb,s*4,we⟩=so (.bool false)/\w.cell? ⟨Rb,s*4+1,we⟩=so (.slice we 0 0)/\w.cell? ⟨Rb,s*4+2,we⟩=so (.bool false)/\w.cell? ⟨Rb,s*4+3,we⟩=so (.string aR)
 |some (B,vs)=>w.cell? ⟨Rb,s*4,we⟩=so (.bool true)/\w.cell? ⟨Rb,s*4+1,we⟩=so (.slice (so ⟨B,0,we⟩) vs.length vs.length)/\w.cell? ⟨Rb,s*4+2,we⟩=so (.bool (iV r vs).1)/\w.cell? ⟨Rb,s*4+3,we⟩=so (.string (iV r vs).2)
def Ot.keep{Rb s:Nat}{r:Int}{x:Option (Nat×List V)}{w w':ae}(h:Ot Rb s r x w)(e:w'.heap[Rb]?=w.heap[Rb]?):Ot Rb s r x w':=by
 cases x with
 |none=>exact⟨(cell_of e).trans h.1,(cell_of e).trans h.2.1,(cell_of e).trans h.2.2.1,(cell_of e).trans h.2.2.2⟩
 |some y=>exact⟨(cell_of e).trans h.1,(cell_of e).trans h.2.1,(cell_of e).trans h.2.2.1,(cell_of e).trans h.2.2.2⟩
structure uO where
 bb:Nat
 p:Option Addr
 Ru:Nat
 c:Nat
 Rb:Nat
 rs:List aI
 NM:aI->List af
 NB:aI->Nat
 RK:af->Nat
def nE(B:uO)(fd:Option (Nat×cT))(old:Nat->Option (Nat×List V))(b:Nat):Prop :=
 b=B.bb\/b=B.Ru\/b=B.Rb\/b=1\/(∃r∈B.rs,B.NM r≠[]/\b=B.NB r)\/(∃lo F,fd=so (lo,F)/\AT F b)\/∃s vs,s<B.rs.length/\old s=so (b,vs)
structure fL(o:aM)(w:ae)(B:uO)(fd:Option (Nat×cT))(old:Nat->Option (Nat×List V)):Prop where
 own:∀b,nE B fd old b->o b
 right:jS B.rs B.NM B.RK
 rules:lG o w B.p B.Ru B.c B.rs B.NM B.NB
 apart:B.Ru≠B.bb/\B.Rb≠B.bb/\(∀r∈B.rs,B.NM r≠[]->B.NB r≠B.bb)/\4<=B.Rb/\4<=B.bb/\B.Ru≠B.Rb/\∀r∈B.rs,B.NM r≠[]->B.NB r≠B.Rb
 blk:∃y0 y1 y2,w.heap[B.bb]?=so (K7 (.slice B.p B.rs.length B.c) (.int .u32 (if fd.isSome then 1 else 0)) (.int .i32 0) (.int .u32 0) y0 y1 y2 (.slice (so ⟨B.Rb,0,we⟩) B.rs.length B.rs.length))/\∀lo F,fd=so (lo,F)->zX o w lo B.rs B.NM F (.agg #[y0,y1,y2])
 lo:∀lo F,fd=so (lo,F)->B.Rb<lo/\B.bb<lo
 fresh:fd=we->∀s,s<B.rs.length->old s=we
 runs:∃cs,w.heap[B.Rb]?=so (.cells cs 222 (0,0))/\cs.size=B.rs.length*4
 idle:∀s,s<B.rs.length->∀r,(∀lo F,fd=so (lo,F)->r=zT F.b7 s)->Ot B.Rb s r (old s) w
 xk:∀s b vs,s<B.rs.length->old s=so (b,vs)->eZ w b vs/\vs.length<=100000/\B.Rb<b/\B.bb<b
 pow:jh w
def fL.keep{B:uO}{fd:Option (Nat×cT)}{old:Nat->Option (Nat×List V)}{o':aM}{w':ae}(h:fL o w B fd old)(nZ:∀b,o b->o' b)(hz:w.heap.size<=w'.heap.size)(e:∀b,nE B fd old b->w'.heap[b]?=w.heap[b]?):fL o' w' B fd old where
 own b hb:=nZ _ (h.own b hb)
 right:=h.right
 rules:=h.rules.keep nZ (e _ (.inr (.inl rfl))) λr hr hn=>e _ (.inr (.inr (.inr (.inr (.inl ⟨r,hr,hn,rfl⟩)))))
 apart:=h.apart
 blk:=by
  obtain⟨y0,y1,y2,h1,h2⟩:=h.blk;exact⟨y0,y1,y2,(e _ (.inl rfl)).trans h1,λlo F hf=>(h2 lo F hf).keep (λb hb=>nZ _ ((h2 lo F hf).own b hb)) hz λb hb=>e b (.inr (.inr (.inr (.inr (.inr (.inl ⟨lo,F,hf,hb⟩))))))⟩
 lo:=h.lo
 fresh:=h.fresh
 runs:=by
  obtain⟨cs,h1,h2⟩:=h.runs;exact⟨cs,(e _ (.inr (.inr (.inl rfl)))).trans h1,h2⟩
 idle s hs r hr:=(h.idle s hs r hr).keep (e _ (.inr (.inr (.inl rfl))))
 xk s b vs hs ho:=by
  obtain⟨h1,h2⟩:=h.xk s b vs hs ho;exact⟨h1.of_block (e b (.inr (.inr (.inr (.inr (.inr (.inr ⟨s,vs,hs,ho⟩))))))),h2⟩
 pow q hq:=(cell_of (e 1 (.inr (.inr (.inr (.inl rfl)))))).trans (h.pow q hq)
end
def FM{α:Type}{lt:α->α->Prop}(ha:∀x y,lt x y->lt y x->False):∀a b:List α,a.Pairwise lt->b.Pairwise lt->(∀x,x∈a↔x∈b)->a=b
 | [],[],_,_,_=>rfl
 | [],y::b,_,_,h=>by have:=(h y).2 ar;cases this
 |x::a,[],_,_,h=>by have:=(h x).1 ar;cases this
 |x::a,y::b,h1,h2,h=>by
  rw[List.pairwise_cons]at h1 h2;have e:x=y:=by
   rcases bM.1 ((h x).1 ar)with e|hx
   ·exact e
   ·rcases bM.1 ((h y).2 ar)with e|hy
    ·exact e.symm
    ·exact(ha _ _ (h1.1 y hy) (h2.1 x hx)).elim
  subst e;rw[FM ha a b h1.2 h2.2 λz=>⟨λhz=>?_,λhz=>?_⟩]
  ·rcases bM.1 ((h z).1 (by simp[hz]))with e|DZ
   ·subst e;exact(ha _ _ (h1.1 z hz) (h1.1 z hz)).elim
   ·exact DZ
  ·rcases bM.1 ((h z).2 (by simp[hz]))with e|DZ
   ·subst e;exact(ha _ _ (h2.1 z hz) (h2.1 z hz)).elim
   ·exact DZ
def rL{a b:List af}(ha:lO a)(hb:lO b)(h:∀x,x∈a↔x∈b):a=b:=by
 refine FM (lt:=λx y=>Lib.compareBytes x.toList y.toList<0) (λx y h1 h2=>?_) a b (aaj.2 λi j hi hj Fv=>ha i j hi hj Fv) (aaj.2 λi j hi hj Fv=>hb i j hi hj Fv) h;rw[si x.toList y.toList]at h2;omega
def zY{rs b7:List aI}{NM:aI->List af}(p:b7.Perm rs):dZ NM b7=dZ NM rs:=by
 refine rL (oO _).1 (oO _).1 λx=>?_;show x∈dZ NM b7↔x∈dZ NM rs;rw[qx,qx];constructor
 ·rintro⟨r,h1,h2,h3⟩;exact⟨r,p.mem_iff.1 h1,h2,λh=>h3 (((p.map (·.out)).mem_iff).2 h)⟩
 ·rintro⟨r,h1,h2,h3⟩;exact⟨r,p.mem_iff.2 h1,h2,λh=>h3 (((p.map (·.out)).mem_iff).1 h)⟩
section
variable {Fin:bL}{o:aM}{w:ae}
structure bC(ex:Nat->Prop)(o:aM)(w:ae)(o':aM)(w':ae):Prop where
 aH:bO ax L0 o' w'
 more:∀b,o b->o' b
 new:∀b,o' b->o b\/w.heap.size<=b
 size:w.heap.size<=w'.heap.size
 same:∀b,b<w.heap.size->¬ex b->w'.heap[b]?=w.heap[b]?
def bC.refl{ex:Nat->Prop}(hF:bO ax L0 o w):bC ex o w o w:=⟨hF,λ_ h=>h,λ_ h=>.inl h,ah _,λ_ _ _=>rfl⟩
def bC.trans{ex:Nat->Prop}{o1 o2:aM}{w1 w2:ae}(h:bC ex o w o1 w1)(k:bC ex o1 w1 o2 w2):bC ex o w o2 w2 :=
 ⟨k.aH,λb hb=>k.more b (h.more b hb),λb hb=>(k.new b hb).elim (λq=>h.new b q) λq=>.inr (by have:=h.size;omega),by have:=h.size;have:=k.size;omega,λb hb hx=>(k.same b (by have:=h.size;omega) hx).trans (h.same b hb hx)⟩
def bC.mono{ex ex':Nat->Prop}{o1:aM}{w1:ae}(h:bC ex o w o1 w1)(he:∀b,ex b->ex' b):bC ex' o w o1 w1:=⟨h.aH,h.more,h.new,h.size,λb hb hx=>h.same b hb λq=>hx (he b q)⟩
def bC.dJ{ex:Nat->Prop}{v:Value}{o1:aM}{w1:ae}(h:fT o w v o1 w1):bC ex o w o1 w1:=by
 refine⟨h.aH,λb hb=>?_,λb hb=>?_,h.size,λb hb _=>h.old b hb⟩
 ·rw[h.own];exact .inl hb
 ·rw[h.own]at hb;exact hb.imp id λq=>q.1
def gY.own{lo:Nat}{ts:List af}{v:Value}(h:gY lo ts v w):(v=.slice we 0 0/\ts=[])\/∃g cap,v=.slice (so ⟨g,0,we⟩) ts.length cap/\lo<=g/\g<w.heap.size/\eN w g 0 ts:=by
 rcases h with h|⟨g,cap,h1,h2,h3,h4,h5⟩
 ·exact .inl h
 ·exact .inr ⟨g,cap,h1,h3,h4,h5⟩
def fL.found{B:uO}{old:Nat->Option (Nat×List V)}{o':aM}{w':ae}(h:fL o w B we old)(hF:bO ax L0 o w)(P:sU o w B.bb B.rs B.NM (λy0 y1 y2=>K7 (.slice B.p B.rs.length B.c) (.int .u32 1) (.int .i32 0) (.int .u32 0) y0 y1 y2 (.slice (so ⟨B.Rb,0,we⟩) B.rs.length B.rs.length)) o' w'):
  ∃F,fL o' w' B (so (w.heap.size,F)) old:=by
 obtain⟨b7,St,Or,cO,sv,y0,y1,y2,h1,h2,h3,h4⟩:=P.lay;have up:∀b,o b->o' b:=λb hb=>by rw[P.own];exact .inl hb
 have nw:∀b,w.heap.size<=b->b<w'.heap.size->o' b:=λb q1 q2=>by rw[P.own];exact .inr ⟨q1,q2⟩
 have lt:∀b,nE B we old b->b<w.heap.size:=λb hb=>hF.lt (h.own b hb);have fq:∀b,AT ⟨b7,St,Or,cO,sv⟩ b->o' b:=λb hb=>by
  rcases hb with rfl|rfl|⟨s,hs,rfl⟩|⟨l,c,e⟩
  ·exact nw _ h3.st.1 h3.st.2
  ·exact nw _ h3.or.1 h3.or.2
  ·exact nw _ (h3.ib s hs) (h3.steps.lt s hs)
  ·rcases h3.src with⟨q1,-⟩|⟨g,cap,q1,q2,q3,q4,q5⟩
   ·simp only at e;rw[q1]at e;cases e
   ·simp only at e;rw[q1]at e;cases e;exact nw _ q3 q4
 have sm:∀b,nE B we old b->b≠B.bb->w'.heap[b]?=w.heap[b]?:=λb hb hn=>P.old b (lt b hb) hn;obtain⟨a1,a2,a3,a4,a5,a6,a7⟩:=h.apart;refine⟨⟨b7,St,Or,cO,sv⟩,λb hb=>?_,h.right,h.rules.keep up (sm _ (.inr (.inl rfl)) a1) λr hr hn=>sm _ (.inr (.inr (.inr (.inr (.inl ⟨r,hr,hn,rfl⟩))))) (a3 r hr hn),h.apart,⟨y0,y1,y2,by simpa using h4,λlo F hf=>?_⟩,λlo F hf=>?_,(λhf=>by cases hf),?_,λs hs r hr=>?_,λs b vs hs ho=>?_,λq hq=>?_⟩
 ·rcases hb with hb|hb|hb|hb|hb|⟨lo,F,hf,hb⟩|hb
  ·exact up _ (h.own b (.inl hb))
  ·exact up _ (h.own b (.inr (.inl hb)))
  ·exact up _ (h.own b (.inr (.inr (.inl hb))))
  ·exact up _ (h.own b (.inr (.inr (.inr (.inl hb)))))
  ·exact up _ (h.own b (.inr (.inr (.inr (.inr (.inl hb))))))
  ·cases hf;exact fq b hb
  ·exact up _ (h.own b (.inr (.inr (.inr (.inr (.inr (.inr hb)))))))
 ·cases hf;exact⟨h3,h1,h2,fq⟩
 ·cases hf;exact⟨lt _ (.inr (.inr (.inl rfl))),lt _ (.inl rfl)⟩
 ·obtain⟨cs,q1,q2⟩:=h.runs;exact⟨cs,(sm _ (.inr (.inr (.inl rfl))) a2).trans q1,q2⟩
 ·have:=h.fresh rfl s hs;rw[this];have q:=h.idle s hs r (λlo F hf=>by cases hf);rw[this]at q;exact q.keep (sm _ (.inr (.inr (.inl rfl))) a2)
 ·rw[h.fresh rfl s hs]at ho;cases ho
 ·exact(cell_of (a:=⟨1,q,we⟩) (sm 1 (.inr (.inr (.inr (.inl rfl)))) aa)).trans (h.pow q hq)
def FN(hF:bO ax L0 o w)(B:uO)(fd:Option (Nat×cT))(old:Nat->Option (Nat×List V))(h:fL o w B fd old):
  bA ax (XB ax Fin 0) 44 #[.pointer (so ⟨B.bb,0,we⟩)] o w λv o' w'=>bC (·=B.bb) o w o' w'/\(∃lo F mid,fL o' w' B (so (lo,F)) old/\(fd=so (lo,F)\/fd=we/\lo=w.heap.size)/\w.heap.size<=mid/\(∀b,nE B (so (lo,F)) old b->b<mid)/\∀g,v.ownBlock=so g->mid<=g)/\Cl ax L0 o' v/\gY w.heap.size (dZ B.NM B.rs) v w'/\∀g l c,v=.slice (so ⟨g,0,we⟩) l c->o' g:=by
 have W:=bY (P:=ax) (Fin:=Fin) (d:=0);refine bD W func44 ak ?_;walk_nrmf Tryz.f44;have uL:=h.own B.bb (.inl rfl);refine ay ?_;have hl:bA ax (XB ax Fin 0) 73 #[.pointer (so ⟨B.bb,0,we⟩)] o w λv o' w'=>v=.pointer (so ⟨B.bb,4,we⟩)/\bC (·=B.bb) o w o' w'/\∃lo F,fL o' w' B (so (lo,F)) old/\(fd=so (lo,F)\/fd=we/\lo=w.heap.size):=by
  obtain⟨y0,y1,y2,hb,hp⟩:=h.blk;cases fd with
  |none =>
   refine(MK hF B.bb B.Ru B.c B.p B.rs B.NM B.NB h.rules uL h.apart.1 h.apart.2.2.1 _ y0 y1 y2 _ (by simpa using hb)).mono ?_;rintro v o' w' ⟨rfl,P⟩;refine⟨rfl,⟨P.aH,λb hb=>by rw[P.own];exact .inl hb,λb hb=>by rw[P.own]at hb;exact hb.imp id λq=>q.1,P.size,λb hb hn=>P.old b hb hn⟩,?_⟩;obtain⟨F,hq⟩:=h.found hF P;exact⟨_,F,hq,.inr ⟨rfl,rfl⟩⟩
  |some f =>
   obtain⟨lo,F⟩:=f;refine(Dl hF B.bb uL _ _ _ y0 y1 y2 _ (by simpa using hb)).mono ?_;rintro v o' w' ⟨rfl,N⟩;have hW:bC (·=B.bb) o w o' w':=bC.dJ N;exact⟨rfl,hW,lo,F,h.keep hW.more hW.size λb hb=>N.old b (hF.lt (h.own b hb)),.inl rfl⟩
 refine du W rfl ak rfl func73 ai rfl aK rfl (hl.mono ?_);clear hl;rintro v1 o1 w1 ⟨rfl,W1,lo,F,h1,aja⟩;refine ay ?_;obtain⟨y0,y1,y2,hb,hp⟩:=h1.blk;have P:=hp lo F rfl;have ajb:=W1.more _ uL;have nK:=P.lay.val;simp only[Value.agg.injEq]at nK;have hy2:y2=F.sv:=by
  have:=congrArg (λa:Array Value=>a[2]?) nK;simpa using this
 obtain⟨-,-,-,-,-,-,c6,-,-⟩:=nU hb;rw[hy2]at c6;have Qq:=P.lay.src;rw[zY P.perm]at Qq;have fw:Cl ax L0 o1 F.sv:=by
  rcases Qq with⟨q1,-⟩|⟨g,cap,q1,-⟩
  ·rw[q1];exact iP
  ·rw[q1];exact dW (P.own g (.inr (.inr (.inr ⟨_,_,q1⟩))))
 refine jJ W1.aH ajb c6 λ_=>?_;refine ay ?_;have hC:bA ax (XB ax Fin 0) 51 #[F.sv] o1 w1 λv o' w'=>fT o1 w1 v o' w'/\gY w1.heap.size (dZ B.NM B.rs) v w':=by
  have hlen:(dZ B.NM B.rs).length<=100000:=by
   have q1:=uK (lF (B.rs.map (·.out)) (D8 B.NM B.rs) B.rs.length);have q2:=oM (B.rs.map (·.out)) (D8 B.NM B.rs) B.rs.length (λi hi=>by rw[lu hi];exact h.right.four _ (aG hi)) B.rs.length (ah _);have q3:=h.rules.gF;have:(dZ B.NM B.rs).length<=(lF (B.rs.map (·.out)) (D8 B.NM B.rs) B.rs.length).length:=q1;omega
  rcases Qq with⟨q1,q2⟩|⟨g,cap,q1,q2,q3,q4,q5⟩
  ·exact Dr W1.aH F.sv 0 0 we _ (by rw[q1,q2];rfl) hlen (λ_=>q2) (λdE=>absurd q2 dE) (λk hk=>by rw[q2]at hk;simp at hk) fw
  ·exact Dr W1.aH F.sv g cap (so ⟨g,0,we⟩) _ q1 hlen (λe=>by cases e) (λ_=>⟨rfl,P.own g (.inr (.inr (.inr ⟨_,_,q1⟩)))⟩) q5 fw
 refine du W rfl ak rfl func51 ai rfl aK rfl (hC.mono ?_);rintro v2 o2 w2 ⟨N2,t2⟩;refine ay ?_;have W2:bC (·=B.bb) o1 w1 o2 w2:=bC.dJ N2;have W02:=W1.trans W2;refine⟨.inr trivial,trivial,_,resultsC_tmp (t:=2) ak _,W02,⟨lo,F,w1.heap.size,h1.keep W2.more W2.size λb hb=>N2.old b (W1.aH.lt (h1.own b hb)),aja,W1.size,λb hb=>W1.aH.lt (h1.own b hb),λg hg=>?_⟩,by simpa[Act.eval] using N2.cl,by simpa[Act.eval] using ll t2 W1.size (ah _) λ_ _ _=>rfl,λg l c e=>?_⟩
 ·have e':v2.ownBlock=so g:=by simpa[Act.eval] using hg
  rcases t2 with⟨q1,-⟩|⟨g',cap,q1,q2,q3,q4,q5⟩
  ·rw[q1]at e';cases e'
  ·rw[q1]at e';cases e';exact q3
 have e':v2=.slice (so ⟨g,0,we⟩) l c:=by simpa[Act.eval] using e
 rcases t2 with⟨q1,-⟩|⟨g',cap,q1,q2,q3,q4,q5⟩
 ·rw[q1]at e';cases e'
 ·rw[q1]at e';cases e';rw[N2.own];exact .inr ⟨q3,q4⟩
end
section
open Go.ChangeShapes Go.WideShapes Go.Deep
def vz{ts:List TypeId}{k:IntKind}{P:Program}{w:ae}{t u:TypeId}{cs:Array Value}(ZL:P.cellTypes P.depth t=so ts)(iJ:∀x∈ts,P.underlying x=so (.int k))(h:Row.ok P w .any 0 t cs)(f:Rn):cs.map (val f)=cs:=by
 obtain⟨RH,e,-,hr⟩:=h;rw[ZL]at e;cases e;apply jr;intro i;rw[aL];cases hi:cs[i]? with
 |none=>rfl
 |some v =>
  obtain⟨u,hu,ho⟩:=hr i v hi;have:=iJ u (List.mem_of_getElem? hu);unfold Cell.ok at ho;rw[this]at ho;cases v<;>simp at ho;simp
def QQ{w:ae}(h:w.ShapedOpen ax):bO ax L0 (λb=>b<4) w:=by
 have RP:ax.globals.size=4:=ai;have key:∀b,b<4->∃cs t,w.heap[b]?=so (.cells cs t)/\∀f:Rn,cs.map (val f)=cs:=by
  intro b hb;have nz:b=0\/b=1\/b=2\/b=3:=aa;rcases nz with rfl|rfl|rfl|rfl
  ·obtain⟨cs,e1,-,e2⟩:=h.1 0 (#[.int .i64 0]) 3 (by rw[RP];omega) ai;exact⟨cs,_,e1,vz (ts:=[3]) (k:=.i64) (u:=0) ai (λx hx=>by rw[List.mem_singleton.1 hx];exact underlying3) (e2 ai)⟩
  ·obtain⟨cs,e1,-,e2⟩:=h.1 1 (Array.replicate 20 (.int .u64 0)) 342 (by rw[RP];omega) ai;exact⟨cs,_,e1,vz (ts:=List.replicate 20 212) (k:=.u64) (u:=0) ai (λx hx=>by rw[gJ hx];exact underlying212) (e2 ai)⟩
  ·obtain⟨cs,e1,-,e2⟩:=h.1 2 (Array.replicate 32 (.int .u8 0)) 347 (by rw[RP];omega) ai;exact⟨cs,_,e1,vz (ts:=List.replicate 32 5) (k:=.u8) (u:=0) ai (λx hx=>by rw[gJ hx];exact underlying5) (e2 ai)⟩
  ·obtain⟨cs,e1,-,e2⟩:=h.1 3 (Array.replicate 64 (.int .u8 0)) 348 (by rw[RP];omega) ai;exact⟨cs,_,e1,vz (ts:=List.replicate 64 5) (k:=.u8) (u:=0) ai (λx hx=>by rw[gJ hx];exact underlying5) (e2 ai)⟩
 refine⟨λb hb=>?_,λb hb=>by rw[RP]at hb;exact hb,?_⟩
 ·obtain⟨cs,t,e1,e2⟩:=key b hb;exact⟨_,e1,rfl,λf _=>by simp[obj,e2 f]⟩
 ·obtain⟨cs,t,e1,-⟩:=key 3 aa;have:=(aad.1 e1).1;rw[RP];omega
def ajc{q:Nat}(hq:q<20):(match (YtgjekaaknjgnmaaGreatDoor.Rows.laid_internal_strconv_uint64pow10:DataW Unit) with|.agg l=>l[q]? | _=>we)=so (.lit (.int .u64 ((10^q:Nat):Int))):=by
 have Bs:q=0\/q=1\/q=2\/q=3\/q=4\/q=5\/q=6\/q=7\/q=8\/q=9\/q=10\/q=11\/q=12\/q=13\/q=14\/q=15\/q=16\/q=17\/q=18\/q=19:=aa;rcases Bs with rfl|rfl|rfl|rfl|rfl|rfl|rfl|rfl|rfl|rfl|rfl|rfl|rfl|rfl|rfl|rfl|rfl|rfl|rfl|rfl<;>rfl
def MN{w:ae}{r:List (String×DataW Unit)}(hr:r=[("math/bits.deBruijn32tab",YtgjekaaknjgnmaaGreatDoor.Rows.laid_math_bits_deBruijn32tab),("math/bits.deBruijn64tab",YtgjekaaknjgnmaaGreatDoor.Rows.laid_math_bits_deBruijn64tab),("internal/strconv.uint64pow10",YtgjekaaknjgnmaaGreatDoor.Rows.laid_internal_strconv_uint64pow10)])(h:laidMetH ax r w):jh w:=by
 subst hr;rw[MakeChecks.laidMetH_plain _ _ _ ai]at h;obtain⟨ps,⟨g0,t0,cs0,f0,p0,q0,ZT,ht0,O4,D2,⟨g1,t1,tE,f1,p1,q1,HM,ht1,HZ,hd1,⟨g2,t2,cs2,f2,p2,q2,za,ht2,KT,VU,-,-⟩,-⟩,-⟩,-,-⟩:=h;clear D2 hd1 O4 HZ ZT HM ht0 ht1;have e1:ax.globalNamed "internal/strconv.uint64pow10" = so 1:=ai;have e2:(ax.globals[1]?).map (·.type)=so 342:=ai;obtain rfl:=aT (e1.symm.trans za);obtain rfl:=aT (e2.symm.trans ht2);obtain⟨xs,m,-,hx,fw,hxl,hel⟩:=DataW.trod_array underlying342 VU;have c1:ax.cellsOf 212=1:=ai;intro q hq;have hp:=ajc hq;rw[(Prod.mk.inj hx).1]at hp;simp only[List.getElem?_map]at hp;obtain⟨y,hy,e3⟩:=aaf.1 hp;have hq2:=hel q hq;rw[hy,c1]at hq2;obtain⟨n,k1,k2,-⟩:=DataW.trod_int underlying212 hq2;rw[k2]at e3;simp only[DataW.lit.injEq,Lit.int.injEq,true_and]at e3;subst e3;have:=World.var?_cell za KT q;rw[this];rw[Nat.mul_one]at k1;have k3:=congrArg (λl=>l[0]?) k1;simp only[List.getElem?_take,List.getElem?_drop,Array.getElem?_toList]at k3;simpa using k3
end
def mA{Fin:bL}{d A:Nat}{o:aM}{w:ae}{fn:FuncId}{Q:Exit->Act->aM->ae->Prop}{x:Act}{ops:Array Oper}{i:Nat}{rest:List Nat}{e:Oper}{n0:Int}{y0:af}(n:Int)(y:af)(hF:bO ax L0 o w)(oA:o A)(kA:w.heap[A]?=so (.cells #[.int .i64 n0,.string y0] 32))(k:∀w2,bO ax L0 o w2->eM A w w2->w2.heap[A]?=so (.cells #[.int .i64 n,.string y] 32)->eX (XB ax Fin d) fn ops rest Q (x.put we undef) o w2)(h5:ops[i]?=so e:=by rfl)(h6:Region.wanted e (yielded ops x.tmps)=true:=by rfl)(h7:∃p v,e.op=.store 32 p v/\x.eval p=.pointer (so ⟨A,0,we⟩)/\x.eval v=.agg #[.int .i64 n,.string y]:=by exact⟨_,_,rfl,rfl,rfl⟩)(h8:e.dst=we:=by rfl):eX (XB ax Fin d) fn ops (i::rest) Q x o w:=by
 obtain⟨p,v,h7,h9,nD⟩:=h7;obtain⟨_,_,_,_,_,_⟩:=e;simp only at h7 h8;subst h7 h8;refine dA bS hF h5 h6 ak ?_ rfl (R:=λwl aX=>aX=(wl.setCell ⟨A,0,we⟩ (.int .i64 n)).setCell ⟨A,1,we⟩ (.string y)) (λwl aW=>⟨_,?_,rfl⟩) λwl aX w2 aW hR bP=>?_
 ·intro z hz;simp[Op.operands]at hz;rcases hz with rfl|rfl
  ·rw[h9];exact bX oA
  ·rw[nD];refine fW (vs:=[_,_]) (λx hx=>?_);simp at hx;rcases hx with rfl|rfl
   ·exact dV
   ·exact bQ
 ·obtain⟨e0,e1,f0,f1⟩:=dY ((aW.heap _ oA).trans kA);generalize Act.eval x=ev at h9 nD |-;simp[go_sem,h9,nD,e0,e1,f0,f1]
 have hO:eM A wl aX:=by rw[hR];exact AQ _ _ _ _ _ _
 obtain⟨on,kA2,ey⟩:=bP.only aW oA hO;have rj:=bP.aH;rw[ey]at rj |-;rw[hR,Uh ((aW.heap _ oA).trans kA)]at kA2;exact k w2 rj on kA2
open Go.ConcR (Payload)
section
variable {Fin:bL}{o:aM}{w:ae}
def gZ(B:uO)(F:cT)(file:af->V)(s:Nat):List V:=(D8 B.NM F.b7 s).map (valOf B.rs B.NM file)
def lv(B:uO)(F:cT)(file:af->V)(s:Nat):V:=valOf B.rs B.NM file (lX F.b7 s)
def zZ(B:uO)(F:cT)(file:af->V)(Vb bn Nb Mb:Nat)(ch:Nat->Nat):mZ where
 n:=B.rs.length
 bn:=bn
 Lb:=B.bb
 Lo:=4
 St:=F.St
 Vb:=Vb
 Rb:=B.Rb
 Nb:=Nb
 Mb:=Mb
 jP:=zT F.b7
 ins:=mz B.NM F.b7
 cO:=F.cO
 lW:=(dZ B.NM B.rs).map file
 ch:=ch
def yL(B:uO)(F:cT)(k:Nat):Nat:=(eF (mz B.NM F.b7) F.b7.length F.b7.length).getD k 0
def MO{B:uO}{F:cT}(hR:jS B.rs B.NM B.RK)(hp:F.b7.Perm B.rs)(hS:lO (F.b7.map (·.out))):
  (eF (mz B.NM F.b7) F.b7.length F.b7.length).length=F.b7.length/\oK F.b7.length (eF (mz B.NM F.b7) F.b7.length F.b7.length)/\(∀s,s<F.b7.length->s∈eF (mz B.NM F.b7) F.b7.length F.b7.length)/\nS (mz B.NM F.b7) (eF (mz B.NM F.b7) F.b7.length F.b7.length):=by
 have hR':=hR.perm hp;refine T1 (mz B.NM F.b7) F.b7.length (λs=>B.RK (lX F.b7 s)) (λs hs=>?_) (λs hs m hm=>?_)
 ·rw[yK hs];exact hR'.low _ (aG hs)
 ·obtain⟨h1,h2⟩:=Xz hS hs hm;refine⟨h1,?_⟩;rw[yK h1,yK hs];exact hR'.Bl _ (aG hs) _ h2 (gE (aG h1))
def pS{B:uO}{F:cT}(hR:jS B.rs B.NM B.RK)(hp:F.b7.Perm B.rs)(hS:lO (F.b7.map (·.out)))(file:af->V)(Vb bn Nb Mb:Nat)(ch:Nat->Nat){s:Nat}(hs:s<B.rs.length):dX (zZ B F file Vb bn Nb Mb ch) (lv B F file) s=gZ B F file s:=by
 have sL:s<F.b7.length:=by rw[hp.length_eq];exact hs
 rw[QP (hR.perm hp) hS (zZ B F file Vb bn Nb Mb ch) file (lv B F file) rfl (by show(dZ B.NM B.rs).map file=_;rw[zY hp]) (λs hs=>by show valOf B.rs B.NM file _=_;rw[Ds hR hp]) sL];unfold gZ;rw[lu sL];exact bG λx _=>Ds hR hp file x
def FO{B:uO}{F:cT}(hR:jS B.rs B.NM B.RK)(hp:F.b7.Perm B.rs)(file:af->V){s:Nat}(hs:s<B.rs.length):lv B F file s=iV (zT F.b7 s) (gZ B F file s):=by
 have sL:s<F.b7.length:=by rw[hp.length_eq];exact hs
 unfold lv gZ;rw[yK sL,Oq sL,lu sL];exact p7 hR file (hp.mem_iff.1 (aG sL))
def sr{w:ae}{a b:Nat}{x y:Obj}(ha:w.heap[a]?=so x)(hb:w.heap[b]?=so y)(h:x≠y):a≠b:=λe=>by
 subst e;rw[ha]at hb;exact h (aT hb)
def Up{B:uO}{lo:Nat}{F:cT}{old:Nat->Option (Nat×List V)}{file:af->V}{Vb bn Nb Mb nv:Nat}{ch:Nat->Nat}{o':aM}{w':ae}(hF:bO ax L0 o w)(h:fL o w B (so (lo,F)) old)(mG:∀x,(file x).2.size<=100)(Y7:o Vb)(hVr:Vb≠B.Rb)(hv:eZ w Vb ((dZ B.NM B.rs).map file))(hnv:nv=((dZ B.NM B.rs).map file).length)(N:jR o w (.pointer (so ⟨B.bb,4,we⟩)) (.slice (so ⟨Vb,0,we⟩) nv nv) (.slice (so ⟨B.Rb,0,we⟩) B.rs.length B.rs.length) B.rs.length bn Nb Mb ch B.rs.length o' w'):
  oe (zZ B F file Vb bn Nb Mb ch) (yL B F) (lv B F file) old F.Or o' w':=by
 subst hnv;obtain⟨y0,y1,y2,hb,hp⟩:=h.blk;have P:=hp lo F rfl;have hlen:=P.perm.length_eq;have hS:=uN (h.right.perm P.perm).nodup P.sorted;obtain⟨k1,k2,k3,k4⟩:=MO h.right P.perm hS;have nK:=P.lay.val;simp only[Value.agg.injEq]at nK;have hy0:y0=.slice (so ⟨F.St,0,we⟩) F.b7.length F.b7.length:=by have:=congrArg (λa:Array Value=>a[0]?) nK;simpa using this
 have hy1:y1=.slice (so ⟨F.Or,0,we⟩) (eF (mz B.NM F.b7) F.b7.length F.b7.length).length F.b7.length:=by have:=congrArg (λa:Array Value=>a[1]?) nK;simpa using this
 rw[k1]at hy1;have gK:∀b,o b->w'.heap[b]?=w.heap[b]?:=λb hb=>N.old b (hF.lt hb);have up:∀b,o b->o' b:=λb hb=>by rw[N.own];exact .inl hb
 have pw:∀b,nE B (so (lo,F)) old b->o b:=h.own;have uL:=pw B.bb (.inl rfl);have JP:=pw B.Rb (.inr (.inr (.inl rfl)));have hLf:∀b,AT F b->o b:=P.own;have c8:=nU ((gK _ uL).trans hb);have c5:=Dp N.bn.2.2;have eH:pO w' F.St F.b7.length (lX F.b7) (zT F.b7) (mz B.NM F.b7) F.cO:=jA P.lay.steps (gK _ (hLf _ (.inl rfl))) (λs hs=>gK _ (hLf _ (.inr (.inr (.inl ⟨s,hs,rfl⟩))))) N.size;have hRw:=hF.lt JP;have new:∀b,w.heap.size<=b->∀c,o c->c≠b:=λb hb c hc e=>by have:=hF.lt hc;omega
 have ajd:∀s,s<B.rs.length->ch s≠Nb:=λs hs=>sr (N.pz s hs).2.2 N.nb.2.2 ar;obtain⟨csM,hM,-,-⟩:=N.mb.2.2;have J9:∀c,o c->o' c/\c≠Nb/\∀s,s<B.rs.length->c≠ch s:=λc hc=>⟨up c hc,new Nb N.nb.1 c hc,λs hs=>new (ch s) (N.pz s hs).1 c hc⟩;have lsp:=(h.lo lo F rfl);have four:∀s,s<B.rs.length->(mz B.NM F.b7 s).length<=4:=λs hs=>by
  have sL:s<F.b7.length:=aa;unfold mz;rw[bT,lu sL];exact h.right.four _ (P.perm.mem_iff.1 (aG sL))
 have Px:=h.apart;refine {Fj:=⟨c5.1,c5.2.1,c5.2.2.1,c5.2.2.2.1,c5.2.2.2.2.1,?_,λs hs=>eH.eO s (by rw[hlen];exact hs),λs hs=>eH.Bh s (by rw[hlen];exact hs),λs hs j hj=>eH.C0 s (by rw[hlen];exact hs) j hj,(hv.of_block (gK _ Y7)).lW,λs hs=>?_⟩,pow:=λq hq=>(cell_of (a:=⟨1,q,we⟩) (gK 1 (pw 1 (.inr (.inr (.inr (.inl rfl))))))).trans (h.pow q hq),order:=?_,Ms:=λk hk=>?_,still:=λb hb=>?_,pz:=λs hs=>⟨?_,?_,ajd s hs,0,0,false,(N.pz s hs).2.2⟩,x6:=N.inj,C4:=up _ JP,C5:=?_,apart:=(J9 _ JP).2.1,R0:=?_,N0:=⟨_,N.nb.2.2,by simp[size_madeCells];rfl⟩,idle:=λs hs=>⟨?_,?_,?_,⟨_,_,N.nb.2.2⟩⟩,xk:=λs b vs hs ho=>?_,qK:=λi hi=>?_,aaL:=λi j hi hj e=>?_,aaM:=λs hs=>?_,dep:=λi hi m hm=>?_,src:=λs hs m hm=>?_,short:=four,gF:=by show B.rs.length<=_;have:=h.rules.gF;omega,W8:=?_,made:=λs hs=>?_,eO:=λs hs=>?_,size:=λs hs=>?_}
 ·show w'.cell? ⟨B.bb,4,we⟩=so (.slice (so ⟨F.St,0,we⟩) B.rs.length B.rs.length);rw[c8.2.2.2.2.1,hy0,hlen]
 ·have sL:s<B.rs.length:=hs;have:=N.mb.2.2.cell sL;rw[if_pos sL]at this;exact this
 ·show w'.cell? ⟨B.bb,5,we⟩=so (.slice (so ⟨F.Or,0,we⟩) B.rs.length B.rs.length);rw[c8.2.2.2.2.2.1,hy1,hlen]
 ·have lD:k<F.b7.length:=by rw[hlen];exact hk
  exact(World.rowIs.of_block P.lay.ord (gK _ (hLf _ (.inr (.inl rfl))))).cell lD
 ·rcases hb with hb|rfl|rfl|rfl|hb|rfl|rfl|⟨s,hs,rfl⟩|⟨s,vs,hs,ho⟩
  ·have e:b=bn:=hb;rw[e];exact⟨by rw[N.own];exact .inr ⟨N.bn.1,N.bn.2.1⟩,λe=>new bn N.bn.1 _ JP e.symm,sr N.bn.2.2 N.nb.2.2 ar,λs hs=>sr N.bn.2.2 (N.pz s hs).2.2 ar⟩
  ·obtain⟨q1,q2,q3⟩:=J9 _ uL;exact⟨q1,λe=>Px.2.1 e.symm,q2,q3⟩
  ·obtain⟨q1,q2,q3⟩:=J9 _ (hLf F.St (.inl rfl));exact⟨q1,λe=>by have:=P.ge (b:=F.St) (.inl rfl);have e:F.St=B.Rb:=e;omega,q2,q3⟩
  ·obtain⟨q1,q2,q3⟩:=J9 _ Y7;exact⟨q1,hVr,q2,q3⟩
  ·have e:b=Mb:=hb;rw[e];exact⟨by rw[N.own];exact .inr ⟨N.mb.1,N.mb.2.1⟩,λe=>new Mb N.mb.1 _ JP e.symm,sr hM N.nb.2.2 (by intro e;cases e),λs hs=>sr hM (N.pz s hs).2.2 ar⟩
  ·obtain⟨q1,q2,q3⟩:=J9 _ (hLf F.Or (.inr (.inl rfl)));exact⟨q1,λe=>by have:=P.ge (b:=F.Or) (.inr (.inl rfl));have e:F.Or=B.Rb:=e;omega,q2,q3⟩
  ·obtain⟨q1,q2,q3⟩:=J9 _ (pw 1 (.inr (.inr (.inr (.inl rfl)))));exact⟨q1,λe=>by have e:1=B.Rb:=e;omega,q2,q3⟩
  ·have hl:AT F (F.cO s):=.inr (.inr (.inl ⟨s,by rw[hlen];exact hs,rfl⟩));obtain⟨q1,q2,q3⟩:=J9 _ (hLf _ hl);exact⟨q1,λe=>by have:=P.ge hl;have e:F.cO s=B.Rb:=e;omega,q2,q3⟩
  ·obtain⟨q1,q2,q3⟩:=J9 _ (pw b (.inr (.inr (.inr (.inr (.inr (.inr ⟨s,vs,hs,ho⟩)))))));obtain⟨-,-,r3,-⟩:=h.xk s b vs hs ho;exact⟨q1,λe=>by have e:b=B.Rb:=e;omega,q2,q3⟩
 ·show o' (ch s);rw[N.own];exact .inr ⟨(N.pz s hs).1,(N.pz s hs).2.1⟩
 ·exact λe=>new (ch s) (N.pz s hs).1 _ JP e.symm
 ·show o' Nb;rw[N.own];exact .inr ⟨N.nb.1,N.nb.2.1⟩
 ·obtain⟨cs,q1,q2⟩:=h.runs;exact⟨cs,(gK _ JP).trans q1,q2⟩
 ·have q:=(h.idle s hs (zT F.b7 s) (λUi F' hf=>by cases hf;rfl)).keep (gK _ JP);cases hx:old s with
  |none=>rw[hx]at q;exact⟨q.1,q.2.1,q.2.2.1,q.2.2.2⟩
  |some x=>rw[hx]at q;exact⟨q.1,q.2.1,q.2.2.1,q.2.2.2⟩
 ·have sL:s<B.rs.length:=hs;show w'.cell? ⟨Nb,s,we⟩=so (.bool false);simp[World.cell?,N.nb.2.2,madeCells,sL,Nat.mod_one]
 ·obtain⟨cs,q1,q2⟩:=h.runs;exact⟨cs,_,(gK _ JP).trans q1⟩
 ·obtain⟨q1,q2,-⟩:=h.xk s b vs hs ho;exact⟨(q1.of_block (gK _ (pw b (.inr (.inr (.inr (.inr (.inr (.inr ⟨s,vs,hs,ho⟩))))))))).lW,q2⟩
 ·have ml:i<(eF (mz B.NM F.b7) F.b7.length F.b7.length).length:=by rw[k1,hlen];exact hi
  show yL B F i<B.rs.length;unfold yL;rw[<- hlen];simp only[List.getD,bm ml,bu];exact k2.2 _ (aG ml)
 ·have ml:i<(eF (mz B.NM F.b7) F.b7.length F.b7.length).length:=by rw[k1,hlen];exact hi
  have sg:j<(eF (mz B.NM F.b7) F.b7.length F.b7.length).length:=by rw[k1,hlen];exact hj
  unfold yL at e;simp only[List.getD,bm ml,bm sg,bu]at e;have nd:=aaj.1 k2.1;rcases fZ i j with q|q|q
  ·exact absurd e (nd i j ml sg q)
  ·exact q
  ·exact absurd e.symm (nd j i sg ml q)
 ·obtain⟨i,hi,e⟩:=a8 (k3 s (by rw[hlen];exact hs));refine⟨i,by show i<B.rs.length;rw[<- hlen,<- k1];exact hi,?_⟩;unfold yL;simp only[List.getD,bm hi,bu];exact e
 ·have ml:i<(eF (mz B.NM F.b7) F.b7.length F.b7.length).length:=by rw[k1,hlen];exact hi
  have e1:yL B F i=(eF (mz B.NM F.b7) F.b7.length F.b7.length)[i]:=by
   unfold yL;simp only[List.getD,bm ml,bu]
  have hm':(true,m)∈mz B.NM F.b7 (yL B F i):=hm;rw[e1]at hm';obtain⟨k,hk,PK,e⟩:=k4 i ml m hm';refine⟨k,PK,?_⟩;unfold yL;simp only[List.getD,bm hk,bu];exact e
 ·have sL:s<F.b7.length:=by rw[hlen];exact hs
  have:=XA hS sL hm;rw[zY P.perm]at this;show m<((dZ B.NM B.rs).map file).length;rw[bT];exact this
 ·show((dZ B.NM B.rs).map file).length<=100000;rw[bT];have q1:=uK (lF (B.rs.map (·.out)) (D8 B.NM B.rs) B.rs.length);have q2:=oM (B.rs.map (·.out)) (D8 B.NM B.rs) B.rs.length (λi hi=>by rw[lu hi];exact h.right.four _ (aG hi)) B.rs.length (ah _);have q3:=h.rules.gF;have:(dZ B.NM B.rs).length<=(lF (B.rs.map (·.out)) (D8 B.NM B.rs) B.rs.length).length:=q1;omega
 ·rw[pS h.right P.perm hS file Vb bn Nb Mb ch hs];exact FO h.right P.perm file hs
 ·have sL:s<F.b7.length:=by rw[hlen];exact hs
  show 1<=zT F.b7 s/\zT F.b7 s<=5;rw[Oq sL];exact h.right.eO _ (P.perm.mem_iff.1 (aG sL))
 ·rw[pS h.right P.perm hS file Vb bn Nb Mb ch hs];have sL:s<F.b7.length:=by rw[hlen];exact hs
  have q:∀t∈(gZ B F file s).map (·.2),t.size<=100:=λt ht=>by
   obtain⟨x,hx,rfl⟩:=aag.1 ht;obtain⟨y,-,rfl⟩:=aag.1 hx;exact FL h.right.four mG _ y
  have q2:=J7 q;have q3:((gZ B F file s).map (·.2)).length<=4:=by
   rw[bT];unfold gZ;rw[bT,lu sL];exact h.right.four _ (P.perm.mem_iff.1 (aG sL))
  omega
def Du{w w':ae}{bn Lb Lo St Rb Nb n:Nat}{out:Nat->af}{eO:Nat->Int}{ins:Nat->List (Bool×Nat)}{cO:Nat->Nat}{res:Nat->Kz.V}{gD:Nat->Bool}(h:pR w bn Lb Lo St Rb Nb n out eO ins cO res gD)(hz:w.heap.size<=w'.heap.size)(e:∀b,b=bn\/b=Lb\/b=St\/b=Rb\/b=Nb\/(∃s,s<n/\b=cO s)->w'.heap[b]?=w.heap[b]?):pR w' bn Lb Lo St Rb Nb n out eO ins cO res gD where
 b0:=(cell_of (e bn (.inl rfl))).trans h.b0
 b2:=(cell_of (e bn (.inl rfl))).trans h.b2
 b3:=(cell_of (e bn (.inl rfl))).trans h.b3
 st:=(cell_of (e Lb (.inr (.inl rfl)))).trans h.st
 steps:=jA h.steps (e St (.inr (.inr (.inl rfl)))) (λs hs=>e _ (.inr (.inr (.inr (.inr (.inr ⟨s,hs,rfl⟩)))))) hz
 r2 s hs:=(cell_of (e Rb (.inr (.inr (.inr (.inl rfl)))))).trans (h.r2 s hs)
 r3 s hs:=(cell_of (e Rb (.inr (.inr (.inr (.inl rfl)))))).trans (h.r3 s hs)
 gD s hs:=(cell_of (e Nb (.inr (.inr (.inr (.inr (.inl rfl))))))).trans (h.gD s hs)
 lbn:=by have:=h.lbn;omega
 lLb:=by have:=h.lLb;omega
 lSt:=by have:=h.lSt;omega
 lRb:=by have:=h.lRb;omega
 lNb:=by have:=h.lNb;omega
def kD(old:Nat->Option (Nat×List V))(ins:Nat->List V)(s:Nat):Bool:=match old s with
 |none=>true
 |some (_,vs)=>!decide (vs=ins s)
def fL.built{B:uO}{lo:Nat}{F:cT}{old:Nat->Option (Nat×List V)}{file:af->V}{Vb bn Nb Mb:Nat}{ch:Nat->Nat}{o1 o2:aM}{w1 w2:ae}(hF:bO ax L0 o w)(rj:bO ax L0 o2 w2)(h:fL o w B (so (lo,F)) old)(nZ:∀b,o b->o1 b)(hz:w.heap.size<=w1.heap.size)(hold:∀b,b<w.heap.size->w1.heap[b]?=w.heap[b]?)(Gv:w.heap.size<=Nb)(vO:∀s,s<B.rs.length->w.heap.size<=ch s)(Q:TM (zZ B F file Vb bn Nb Mb ch) (lv B F file) old o1 w1 o2 w2):
  (∃gK,fL o2 w2 B (so (lo,F)) gK/\∀s,s<B.rs.length->∃b,gK s=so (b,gZ B F file s)/\((∃vs,old s=so (b,vs))\/w.heap.size<=b))/\(∀b,b<w.heap.size->b≠B.Rb->w2.heap[b]?=w.heap[b]?) /\
   ∀s,s<B.rs.length->w2.cell? ⟨B.Rb,s*4+2,we⟩=so (.bool (lv B F file s).1)/\w2.cell? ⟨B.Rb,s*4+3,we⟩=so (.string (lv B F file s).2)/\w2.cell? ⟨Nb,s,we⟩=so (.bool (kD old (gZ B F file) s)):=by
 obtain⟨y0,y1,y2,hb,hp⟩:=h.blk;have P:=hp lo F rfl;have hlen:=P.perm.length_eq;have hS:=uN (h.right.perm P.perm).nodup P.sorted;have pw:∀b,nE B (so (lo,F)) old b->o b:=h.own;have sm:∀b,b<w.heap.size->b≠B.Rb->w2.heap[b]?=w.heap[b]?:=λb hb hn=>by
  rw[Q.same b aa hn (λe=>by have e:b=Nb:=e;omega) (λs hs e=>by have e:b=ch s:=e;have:=vO s hs;omega)];exact hold b hb
 have up:∀b,o b->o2 b:=λb hb=>Q.more b (nZ b hb);have lsp:=h.lo lo F rfl;obtain⟨a1,a2,a3,a4,a5,a6,a7⟩:=h.apart;have hRw:B.Rb<w.heap.size:=hF.lt (pw _ (.inr (.inr (.inl rfl))));have gx:B.bb<w.heap.size:=hF.lt (pw _ (.inl rfl));have run:∀s,∃b,s<B.rs.length->wB (zZ B F file Vb bn Nb Mb ch) s w2 b (gZ B F file s) (lv B F file s)/\eZ w2 b (gZ B F file s)/\o2 b/\B.Rb<b/\B.bb<b/\((∃vs,old s=so (b,vs))\/w.heap.size<=b):=λs=>by
  by_cases hs:s<B.rs.length
  ·have q:=Q.runs s hs;rw[pS h.right P.perm hS file Vb bn Nb Mb ch hs]at q;rcases q with⟨b,q1,q2,q3⟩|⟨q1,b,q2,q3,q4,q5⟩
   ·obtain⟨r1,r2,r3,r4⟩:=h.xk s b _ hs q1;have gd:=pw b (.inr (.inr (.inr (.inr (.inr (.inr ⟨s,_,hs,q1⟩))))));exact⟨b,λ_=>⟨q2,r1.of_block (sm b (hF.lt gd) aa),up b gd,r3,r4,.inl ⟨_,q1⟩⟩⟩
   ·have:=q2.2;exact⟨b,λ_=>⟨q4,q3,q2.1,aa,aa,.inr aa⟩⟩
  ·exact⟨0,λe=>absurd e hs⟩
 obtain⟨f,hf⟩:∃f:Nat->Nat,∀s,s<B.rs.length->wB (zZ B F file Vb bn Nb Mb ch) s w2 (f s) (gZ B F file s) (lv B F file s)/\eZ w2 (f s) (gZ B F file s)/\o2 (f s)/\B.Rb<f s/\B.bb<f s/\((∃vs,old s=so (f s,vs))\/w.heap.size<=f s):=⟨λs=>Classical.choose (run s),λs=>Classical.choose_spec (run s)⟩;have l4:∀s,s<B.rs.length->(gZ B F file s).length<=4:=λs hs=>by
  have sL:s<F.b7.length:=aa;unfold gZ;rw[bT,lu sL];exact h.right.four _ (P.perm.mem_iff.1 (aG sL))
 refine⟨⟨λs=>so (f s,gZ B F file s),⟨λb hb=>?_,h.right,h.rules.keep up (sm _ (hF.lt (pw _ (.inr (.inl rfl)))) a6) λr hr hn=>sm _ (hF.lt (pw _ (.inr (.inr (.inr (.inr (.inl ⟨r,hr,hn,rfl⟩))))))) (a7 r hr hn),h.apart,⟨y0,y1,y2,(sm _ gx λe=>a2 e.symm).trans hb,λUi F' VG=>?_⟩,h.lo,(λe=>by cases e),Q.R0,λs hs r hr=>?_,λs b vs hs ho=>?_,λq hq=>?_⟩,λs hs=>⟨f s,rfl,(hf s hs).2.2.2.2.2⟩⟩,sm,λs hs=>?_⟩
 ·rcases hb with hb|hb|hb|hb|hb|hb|⟨s,vs,hs,ho⟩
  ·exact up _ (pw b (.inl hb))
  ·exact up _ (pw b (.inr (.inl hb)))
  ·exact up _ (pw b (.inr (.inr (.inl hb))))
  ·exact up _ (pw b (.inr (.inr (.inr (.inl hb)))))
  ·exact up _ (pw b (.inr (.inr (.inr (.inr (.inl hb))))))
  ·exact up _ (pw b (.inr (.inr (.inr (.inr (.inr (.inl hb)))))))
  ·cases ho;exact(hf s hs).2.2.1
 ·cases VG;exact P.keep (λb hb=>up _ (P.own b hb)) (by have:=Q.size;omega) λb hb=>sm b (hF.lt (P.own b hb)) (by have:=P.ge hb;omega)
 ·have VP:=hr lo F rfl;obtain⟨q1,-⟩:=hf s hs;rw[VP];have e:=FO h.right P.perm file hs;refine⟨q1.c0,q1.c1,?_,?_⟩
  ·rw[<- e];exact q1.c2
  ·rw[<- e];exact q1.c3
 ·cases ho;obtain⟨-,q2,-,q4,q5,-⟩:=hf s hs;exact⟨q2,by have:=l4 s hs;omega,q4,q5⟩
 ·exact(cell_of (a:=⟨1,q,we⟩) (sm 1 (hF.lt (pw 1 (.inr (.inr (.inr (.inl rfl)))))) aa)).trans (h.pow q hq)
 ·obtain⟨q1,-⟩:=hf s hs;refine⟨q1.c2,q1.c3,?_⟩;have q:=Q.runs s hs;rw[pS h.right P.perm hS file Vb bn Nb Mb ch hs]at q;rcases q with⟨b,q1,q2,q3⟩|⟨q1,b,q2,q3,q4,q5⟩
  ·have:kD old (gZ B F file) s=false:=by simp[kD,q1]
   rw[this];exact q3
  ·have:kD old (gZ B F file) s=true:=by
    unfold kD;cases ho:old s with
    |none=>rfl
    |some x =>
     obtain⟨b',vs⟩:=x;have:vs≠gZ B F file s:=λe=>q1 b' (by rw[ho,e]);simp[this]
   rw[this];exact q5
def Ou[Payload](hF:bO ax L0 o w)(B:uO)(lo:Nat)(F:cT)(old:Nat->Option (Nat×List V))(h:fL o w B (so (lo,F)) old)(file:af->V)(mG:∀x,(file x).2.size<=100)(Vb nv:Nat)(Y7:o Vb)(hVr:Vb≠B.Rb)(hv:eZ w Vb ((dZ B.NM B.rs).map file))(hnv:nv=((dZ B.NM B.rs).map file).length):
  bA ax (XB ax Fin 0) 42 #[.pointer (so ⟨B.bb,0,we⟩),.slice (so ⟨Vb,0,we⟩) nv nv] o w λv o' w'=>∃R rv gK,v=.tuple #[.slice (so ⟨R,0,we⟩) B.rs.length B.rs.length,rv]/\bC (·=B.Rb) o w o' w'/\fL o' w' B (so (lo,F)) gK/\(∀s,s<B.rs.length->∃b,gK s=so (b,gZ B F file s)/\((∃vs,old s=so (b,vs))\/w.heap.size<=b)) /\
   (w.heap.size<=R/\o' R/\w'.rowIs R 65 (B.rs.length*3) (gS (lX F.b7) (lv B F file) B.rs.length))/\gY w.heap.size (mw (lX F.b7) (kD old (gZ B F file)) B.rs.length) rv w'/\Cl ax L0 o' rv/\(∀g l c,rv=.slice (so ⟨g,0,we⟩) l c->o' g)/\∃mid,w.heap.size<=mid/\mid<=R/\(∀b,nE B (so (lo,F)) gK b->b<mid)/\∀g,rv.ownBlock=so g->mid<=g:=by
 have W:=bY (P:=ax) (Fin:=Fin) (d:=0);refine bD W func42 ak ?_;walk_nrmf Tryz.f42;have aje:=hnv.symm;clear hnv;have uL:=h.own B.bb (.inl rfl);have JP:=h.own B.Rb (.inr (.inr (.inl rfl)));have hn8:=h.rules.gF;obtain⟨y0,y1,y2,hb,hp⟩:=h.blk;have P:=hp lo F rfl;have hb:w.heap[B.bb]?=so (K7 (.slice B.p B.rs.length B.c) (.int .u32 1) (.int .i32 0) (.int .u32 0) y0 y1 y2 (.slice (so ⟨B.Rb,0,we⟩) B.rs.length B.rs.length)):=by simpa using hb
 have gx:=hF.lt uL;refine ay ?_;refine dH mixed ai [so we,so we,so we,so (so (.pointer (so ⟨B.bb,4,we⟩))),so we,so we,so we,so we,so (so (.slice (so ⟨B.Rb,0,we⟩) B.rs.length B.rs.length)),we,so we]
  (S:=λσ o' w'=>(σ 9=we/\bC (λ_=>False) o w o' w')\/(∃y,σ 9=so y/\∃o1 w1 bn Nb Mb ch,bC (λ_=>False) o w o1 w1/\y=.pointer (so ⟨bn,0,we⟩)/\jR o1 w1 (.pointer (so ⟨B.bb,4,we⟩)) (.slice (so ⟨Vb,0,we⟩) nv nv) (.slice (so ⟨B.Rb,0,we⟩) B.rs.length B.rs.length) B.rs.length bn Nb Mb ch B.rs.length o' w')) ?_ λv=>?_
 ·exact .inl ⟨rfl,bC.refl hF⟩
 refine dN ?_;refine cq ?_;refine jO rfl rfl ak rfl func73 ai rfl (av:=#[.pointer (so ⟨B.bb,0,we⟩)]) aK (λσ o' w' H hS=>?_) ?_
 ·rcases hS with⟨h9,hW⟩|⟨y,h9,-⟩
  ·refine(Dl hW.aH B.bb (hW.more _ uL) _ _ _ y0 y1 y2 _ ((hW.same _ gx id).trans hb)).mono ?_;rintro v' o2 w2 ⟨rfl,N⟩;exact⟨rfl,.inl ⟨h9,hW.trans (bC.dJ N)⟩⟩
  ·rw[H.xA 9 ai]at h9;cases h9
 refine cq ?_;refine dsP (λσ o' w' H hS=>?_) ?_
 ·rcases hS with⟨h9,hW⟩|⟨y,h9,-⟩
  ·have mm:=hW.more _ uL;refine⟨hW.aH,λy hy=>?_,λwl aW=>?_⟩
   ·simp[Op.operands]at hy;subst hy;simp[Act.eval];exact bX mm
   ·have c7:=(nU ((hW.same _ gx id).trans hb)).2.2.2.2.2.2.2.1;simp[go_sem,(aW.cell mm).trans c7]
  ·rw[H.xA 9 ai]at h9;cases h9
 walk_nrm;refine vt rfl rfl ak rfl func72 ai rfl (av:=#[.pointer (so ⟨B.bb,4,we⟩),.slice (so ⟨Vb,0,we⟩) nv nv,.slice (so ⟨B.Rb,0,we⟩) B.rs.length B.rs.length]) aK (λσ o' w' H h9 hS=>?_) ?_
 ·rcases hS with⟨-,hW⟩|⟨y,h9',-⟩
  ·refine(ML hW.aH B.bb 4 Vb nv B.Rb B.rs.length aa (hW.more _ uL) (hW.more _ Y7) (hW.more _ JP)).mono ?_;rintro y o2 w2 ⟨bn,Nb,Mb,ch,rfl,N⟩;exact .inr ⟨_,by simp[fM],o',w',bn,Nb,Mb,ch,hW,rfl,N⟩
  ·rw[h9]at h9';cases h9'
 refine cq ?_;refine cu λσ o2 w2 lP hS=>?_;rcases hS with⟨h9,-⟩|⟨y,h9,o1,w1,bn,Nb,Mb,ch,hW,rfl,N⟩
 ·rw[lP 9 eB rfl]at h9;cases h9
 have hv9:v 9=.pointer (so ⟨bn,0,we⟩):=by
  have:=lP 9 eB rfl;rw[h9]at this;exact(aT this).symm
 rw[hv9];simp only[ij,dz,if_true,if_false,reduceIte,Nat.reduceEqDiff];refine ay ?_;have h1:=h.keep hW.more hW.size λb hb=>hW.same b (hF.lt (h.own b hb)) id;have BA:=Up hW.aH h1 mG (hW.more _ Y7) hVr (hv.of_block (hW.same _ (hF.lt Y7) id)) aje.symm N;refine du W rfl ak rfl func74 ai rfl (by simp[Act.eval];rfl) rfl ((Qv N.aH BA).mono ?_);rintro v3 o3 w3 ⟨rfl,Q,mJ⟩;refine ay ?_;obtain⟨⟨gK,ze,pE⟩,sm,rr⟩:=h1.built hW.aH mJ (λb hb=>by rw[N.own];exact .inl hb) N.size N.old N.nb.1 (λs hs=>(N.pz s hs).1) Q;have aba:o2 bn:=by rw[N.own];exact .inr ⟨N.bn.1,N.bn.2.1⟩
 obtain⟨-,n1,n2,n3⟩:=BA.still bn (.inl rfl);have sF:w3.heap[bn]?=w2.heap[bn]?:=Q.same bn (N.aH.lt aba) n1 n2 n3;have c5:=Dp (sF.trans N.bn.2.2);obtain⟨z0,z1,z2,xB,hp3⟩:=ze.blk;have P3:=hp3 lo F rfl;have hlen:=P3.perm.length_eq;have nK:=P3.lay.val;simp only[Value.agg.injEq]at nK;have ZO:z0=.slice (so ⟨F.St,0,we⟩) F.b7.length F.b7.length:=by have:=congrArg (λa:Array Value=>a[0]?) nK;simpa using this
 have aeJ:=ze.own B.bb (.inl rfl);have aeK:=ze.own B.Rb (.inr (.inr (.inl rfl)));have aeL:o3 Nb:=Q.more _ (by rw[N.own];exact .inr ⟨N.nb.1,N.nb.2.1⟩);have R2:pR w3 bn B.bb 4 F.St B.Rb Nb B.rs.length (lX F.b7) (zT F.b7) (mz B.NM F.b7) F.cO (lv B F file) (kD old (gZ B F file)) :=
  ⟨c5.1,c5.2.2.1,c5.2.2.2.1,by rw[(nU xB).2.2.2.2.1,ZO,hlen],by rw[<- hlen];exact P3.lay.steps,λs hs=>(rr s hs).1,λs hs=>(rr s hs).2.1,λs hs=>(rr s hs).2.2,mJ.lt (Q.more _ aba),mJ.lt aeJ,mJ.lt (P3.own _ (.inl rfl)),mJ.lt aeK,mJ.lt aeL⟩
 have tu:∀b,b=bn\/b=B.bb\/b=F.St\/b=B.Rb\/b=Nb\/(∃s,s<B.rs.length/\b=F.cO s)->o3 b:=by
  rintro b (rfl|rfl|rfl|rfl|rfl|⟨s,hs,rfl⟩)
  ·exact Q.more _ aba
  ·exact aeJ
  ·exact P3.own _ (.inl rfl)
  ·exact aeK
  ·exact aeL
  ·exact P3.own _ (.inr (.inr (.inl ⟨s,aa,rfl⟩)))
 refine b5 func75 (QM mJ bn B.bb 4 F.St B.Rb Nb B.rs.length _ _ _ _ _ _ aa R2 tu) ?_;rintro v4 o4 w4 ⟨N4,rfl,z4,Uq⟩;refine ay ?_;have u4:∀b,o3 b->o4 b:=λb hb=>by rw[N4.own];exact .inl hb
 have ajf:=Du R2 N4.size λb hb=>N4.old b (mJ.lt (tu b hb));refine b5 func76 (QN N4.aH bn B.bb 4 F.St B.Rb Nb B.rs.length _ _ _ _ _ _ aa ajf (λb hb=>u4 _ (tu b hb))) ?_;rintro v5 o5 w5 ⟨N5,t5⟩;refine ay ?_;have W4:bC (·=B.Rb) o3 w3 o4 w4:=bC.dJ N4;have W5:bC (·=B.Rb) o4 w4 o5 w5:=bC.dJ N5;have zQ:=Q.size;have zN:=N.size;have zW:=hW.size;have W3:bC (·=B.Rb) o w o3 w3:=by
  refine⟨mJ,λb hb=>Q.more _ (by rw[N.own];exact .inl (hW.more _ hb)),λb hb=>?_,aa,λb hb hx=>?_⟩
  ·rcases Q.new b hb with q|q
   ·rw[N.own]at q;rcases q with q|q
    ·rcases hW.new b q with q|q
     ·exact .inl q
     ·exact .inr q
    ·exact .inr aa
   ·exact .inr aa
  ·rw[sm b aa hx];exact hW.same b hb id
 have W45:=W4.trans W5;refine⟨.inr trivial,trivial,_,resultsC_tmp2 (t:=4) (u:=5) ak _,w3.heap.size,v5,gK,aK,W3.trans W45,ze.keep W45.more W45.size λb hb=>?_,λs hs=>(pE s hs).imp λb q=>⟨q.1,q.2.imp id λe=>aa⟩,⟨aa,W5.more _ (by rw[N4.own];exact .inr ⟨ah _,z4⟩),World.rowIs.of_block Uq (N5.old _ z4)⟩,ll t5 (by have:=N4.size;omega) (ah _) (λ_ _ _=>rfl),N5.cl,λg l c e=>?_,w3.heap.size,aa,ah _,λb hb=>mJ.lt (ze.own b hb),λg hg=>?_⟩
 ·have hl:=mJ.lt (ze.own b hb);rw[N5.old b (by have:=N4.size;omega),N4.old b hl]
 ·rcases t5 with⟨q1,-⟩|⟨g',cap,q1,q2,q3,q4,q5⟩
  ·rw[q1]at e;cases e
  ·rw[q1]at e;cases e;rw[N5.own];exact .inr ⟨q3,q4⟩
 ·rcases t5 with⟨q1,-⟩|⟨g',cap,q1,q2,q3,q4,q5⟩
  ·rw[q1]at hg;cases hg
  ·rw[q1]at hg;have e:g'=g:=aT hg;have:=N4.size;omega
end
def nj(w:ae)(r:Nat)(l:List (af×Value)):Prop:=∃es clock,w.heap[r]?=so (.map es clock)/\es.toList.map (λe=>(e.key,e.val))=l.map λp=>(Value.string p.1,p.2)
def nj.of_block{w w':ae}{r:Nat}{l:List (af×Value)}(h:nj w r l)(e:w'.heap[r]?=w.heap[r]?):nj w' r l:=by
 obtain⟨es,c,h1,h2⟩:=h;exact⟨es,c,e.trans h1,h2⟩
def eR{α:Type}:List (af×α)->af->Option α
 | [],_=>we
 | (k,v)::l,x=>if x=k then so v else eR l x
def gi{α:Type}:List (af×α)->af->α->List (af×α)
 | [],x,v=>[(x,v)]
 | (k,u)::l,x,v=>if x=k then(x,v)::l else(k,u)::gi l x v
def lZ{α:Type}:List (af×α)->af->List (af×α)
 | [],_=>[]
 | (k,u)::l,x=>if x=k then l else(k,u)::lZ l x
def sW:List (af×Value)->af->Nat->Option (Nat×Value)
 | [],_,_=>we
 | (k,v)::l,x,i=>if x=k then so (i,v)else sW l x (i+1)
def Ov(a b:af):(a==b)=decide (a=b):=by
 by_cases h:a=b
 ·rw[(MapKept.bytes_beq a b).2 h];simp[h]
 ·cases hb:(a==b) with
  |false=>simp[h]
  |true=>exact absurd ((MapKept.bytes_beq a b).1 hb) h
def rB(x:af):∀(es:List MapEntry) (l:List (af×Value)) (i:Nat),es.map (λe=>(e.key,e.val))=l.map (λp=>(Value.string p.1,p.2))->Instr.findNow .string (.string x) es i=so (sW l x i)
 | [],[],i,_=>rfl
 | [],_::_,i,h=>by simp at h
 |_::_,[],i,h=>by simp at h
 |e::es,(k,v)::l,i,h=>by
  simp only[aC,cy,bB]at h;obtain⟨⟨h1,h2⟩,h3⟩:=h;unfold Instr.findNow;rw[h1];simp only[Instr.sameNow,Ov];by_cases hx:x=k
  ·subst hx;simp[sW,h2]
  ·simp only[sW,if_neg hx,decide_eq_false hx];exact rB x es l (i+1) h3
def Ka(x:af):∀(l:List (af×Value)) (i:Nat),(sW l x i).map (·.2)=eR l x
 | [],i=>rfl
 | (k,v)::l,i=>by
  by_cases hx:x=k
  ·simp[sW,eR,hx]
  ·simp only[sW,eR,if_neg hx];exact Ka x l (i+1)
def yM{x:af}{v:Value}:∀{l:List (af×Value)} {i j:Nat} {u:Value},sW l x i=so (j,u)->i<=j/\j<i+l.length/\gi l x v=l.set (j-i) (x,v)/\(l.map (·.1))[j-i]?=so x
 | [],i,j,u,h=>by cases h
 | (k,w)::l,i,j,u,h=>by
  by_cases hx:x=k
  ·simp only[sW,if_pos hx,aA,bB]at h;obtain⟨rfl,rfl⟩:=h;simp[gi,hx]
  ·simp only[sW,if_neg hx]at h;obtain⟨h1,h2,h3,h4⟩:=yM (v:=v) h;have e:j-i=(j-(i+1))+1:=aa;refine⟨aa,eP,?_,?_⟩
   ·rw[e];simp[gi,if_neg hx,h3]
   ·rw[e];simpa using h4
def Kb{x:af}:∀{l:List (af×Value)} {i j:Nat} {u:Value},sW l x i=so (j,u)->lZ l x=l.eraseIdx (j-i)
 | [],i,j,u,h=>by cases h
 | (k,w)::l,i,j,u,h=>by
  by_cases hx:x=k
  ·simp only[sW,if_pos hx,aA,bB]at h;obtain⟨rfl,rfl⟩:=h;simp[lZ,hx]
  ·simp only[sW,if_neg hx]at h;have h1:=(yM (v:=u) h).1;have e:j-i=(j-(i+1))+1:=aa;rw[e];simp only[lZ,if_neg hx,List.eraseIdx_cons_succ];rw[Kb h]
def Aa{x:af}{v:Value}:∀{l:List (af×Value)} {i:Nat},sW l x i=we->gi l x v=l++[(x,v)]/\lZ l x=l
 | [],i,h=>by simp[gi,lZ]
 | (k,w)::l,i,h=>by
  by_cases hx:x=k
  ·simp[sW,if_pos hx]at h
  ·simp only[sW,if_neg hx]at h;obtain⟨h1,h2⟩:=Aa (v:=v) h;simp[gi,lZ,if_neg hx,h1,h2]
section
variable {P:Program}{w:ae}{r:Nat}{l:List (af×Value)}{x:af}{mt kt et:TypeId}
def AU(hm:P.underlying mt=so (.map kt et))(hk:P.underlying kt=so .string)(h:nj w r l){z:Value}(hz:(zeroValue et).run P w=.ok z w):(Instr.lookup mt (.map (so r)) (.string x) false).run P w=.ok ((eR l x).getD z) w:=by
 obtain⟨es,c,h1,h2⟩:=h;have hf:=rB x es.toList l 0 h2;have hc:∀e,(Instr.checkKey e 10000 kt (.string x)).run P w=.ok () w:=λe=>MapKept.run_checkKey (k:=.string x) hk (by simp[MapKept.IsKey]) e 9999;rw[<- Ka x l 0];cases hi:sW l x 0 with
 |none =>
  rw[hi]at hf;simp[Instr.lookup,run_underlying hm,MapKept.run_getObj_map h1,hc,MapKept.run_findKey hk hf,Result.andThen,hz]
 |some q =>
  rw[hi]at hf;simp[Instr.lookup,run_underlying hm,MapKept.run_getObj_map h1,hc,MapKept.run_findKey hk hf,Result.andThen]
def qz(w:ae)(r:Nat)(x:Obj):ae:={w with heap:=w.heap.setIfInBounds r x}
def oQ(hm:P.underlying mt=so (.map kt et))(hk:P.underlying kt=so .string)(h:nj w r l)(v:Value):∃X,(Instr.mapUpdate mt (.map (so r)) (.string x) v).run P w=.ok () (qz w r X)/\nj (qz w r X) r (gi l x v):=by
 obtain⟨es,c,h1,h2⟩:=h;have hf:=rB x es.toList l 0 h2;have hc:∀e,(Instr.checkKey e 10000 kt (.string x)).run P w=.ok () w:=λe=>MapKept.run_checkKey (k:=.string x) hk (by simp[MapKept.IsKey]) e 9999;have cx:r<w.heap.size:=(aad.1 h1).1;have pj:∀X,(qz w r X).heap[r]?=so X:=λX=>by simp[qz,cx]
 cases hi:sW l x 0 with
 |none =>
  rw[hi]at hf;refine⟨_,by simp[Instr.mapUpdate,run_underlying hm,MapKept.run_getObj_map h1,hc,MapKept.run_findKey hk hf,MapKept.run_setObj_map _ h1,Result.andThen];rfl,_,_,pj _,?_⟩;rw[(Aa (v:=v) hi).1];simp[h2]
 |some q =>
  obtain⟨j,u⟩:=q;rw[hi]at hf;obtain⟨-,hj,hp,SD⟩:=yM (v:=v) hi;rw[Nat.sub_zero]at hp SD;have hlen:es.size=l.length:=by simpa using congrArg List.length h2
  have sg:j<es.size:=aa;have ajh:es[j].key=.string x:=by
   have:=congrArg (λq=>q[j]?) h2;simp only[List.getElem?_map,Array.getElem?_toList,Array.getElem?_eq_getElem sg,aJ]at this;cases hl:l[j]? with
   |none=>rw[hl]at this;cases this
   |some q =>
    rw[hl]at this;rw[dO,hl]at SD;simp at this SD;rw[this.1,SD]
  have YF:Instr.sameBits 10000 (.string x) (.string x)=true:=by
   unfold Instr.sameBits;rw[Ov];simp
  refine⟨_,by simp[Instr.mapUpdate,run_underlying hm,MapKept.run_getObj_map h1,hc,MapKept.run_findKey hk hf,MapKept.run_setObj_map _ h1,Result.andThen,Instr.keyThatStays,sg,ajh,YF];rfl,_,_,pj _,?_⟩;rw[hp];apply fY;intro k;have Sx:=congrArg (λq=>q[k]?) h2;simp only[List.getElem?_map,Array.getElem?_toList]at Sx |-;rw[aS];by_cases e:j=k
  ·subst e;simp[Array.getElem?_eq_getElem sg,show j<l.length by omega]
  ·rw[if_neg e,List.getElem?_set_ne e];exact Sx
def Kc(hm:P.underlying mt=so (.map kt et))(hk:P.underlying kt=so .string)(h:nj w r l)(ty:TypeId):∃X,(Builtin.delete_ #[mt,kt] ty #[.map (so r),.string x]).run P w=.ok (.tuple #[]) (qz w r X)/\nj (qz w r X) r (lZ l x):=by
 obtain⟨es,c,h1,h2⟩:=h;have hf:=rB x es.toList l 0 h2;have hc:∀e,(Instr.checkKey e 10000 kt (.string x)).run P w=.ok () w:=λe=>MapKept.run_checkKey (k:=.string x) hk (by simp[MapKept.IsKey]) e 9999;have cx:r<w.heap.size:=(aad.1 h1).1;have pj:∀X,(qz w r X).heap[r]?=so X:=λX=>by simp[qz,cx]
 cases hi:sW l x 0 with
 |none =>
  rw[hi]at hf;refine⟨_,by simp[Builtin.delete_,run_underlying hm,MapKept.run_getObj_map h1,hc,MapKept.run_findKey hk hf,MapKept.run_setObj_map _ h1,Result.andThen];rfl,_,_,pj _,?_⟩;rw[(Aa (v:=.bool true) hi).2];exact h2
 |some q =>
  obtain⟨j,u⟩:=q;rw[hi]at hf;refine⟨_,by simp[Builtin.delete_,run_underlying hm,MapKept.run_getObj_map h1,hc,MapKept.run_findKey hk hf,MapKept.run_setObj_map _ h1,Result.andThen];rfl,_,_,pj _,?_⟩;have hd:=Kb hi;rw[Nat.sub_zero]at hd;rw[hd];have hlen:es.size=l.length:=by simpa using congrArg List.length h2
  have sg:j<es.size:=by have:=(yM (v:=u) hi).2.1;omega
  simp only[Array.eraseIdxIfInBounds,sg,dif_pos];rw[Array.toList_eraseIdx];have em:∀{α β:Type} (f:α->β) (l:List α) (j:Nat),(l.eraseIdx j).map f=(l.map f).eraseIdx j:=λf l j=>by
   induction l generalizing j with
   |nil=>rfl
   |cons a l ih=>cases j with
    |zero=>rfl
    |succ j=>simp[ih]
  rw[em,em,h2]
def XD(h:nj w r l):∃es c,w.heap[r]?=so (.map es c)/\es.size=l.length:=by
 obtain⟨es,c,h1,h2⟩:=h;exact⟨es,c,h1,by simpa using congrArg List.length h2⟩
end
def su{α:Type}(f:α->Value)(l:List (af×α)):List (af×Value):=l.map λp=>(p.1,f p.2)
def Hh{α:Type}(f:α->Value)(x:af):∀l:List (af×α),eR (su f l) x=(eR l x).map f
 | []=>rfl
 | (k,v)::l=>by
  have:=Hh f x l;simp only[su,aC,eR]at this |-;split
  ·rfl
  ·exact this
def vA{α:Type}(f:α->Value)(x:af)(v:α):∀l:List (af×α),gi (su f l) x (f v)=su f (gi l x v)
 | []=>rfl
 | (k,u)::l=>by
  have:=vA f x v l;simp only[su,aC,gi]at this |-;split
  ·rfl
  ·rw[this];rfl
def Ow{α:Type}(f:α->Value)(x:af):∀l:List (af×α),lZ (su f l) x=su f (lZ l x)
 | []=>rfl
 | (k,u)::l=>by
  have:=Ow f x l;simp only[su,aC,lZ]at this |-;split
  ·rfl
  ·rw[this];rfl
def XE{α:Type}(f:α->Value)(l:List (af×α)):(su f l).length=l.length:=by simp[su]
def yN{P:Program}(W:ae)(base:Nat)(t ty e:TypeId)(i:TypeInfo)(z:Value)(size bytes:Nat)(ht:P.underlying t=so (.slice e))(hi:P.info? e=so i)(hz:i.zero=so z)(qZ:i.size=size)(hby:i.bytes=bytes)(v:Value)(n:Nat)(xs:List Value)(fq:W.ownsRow base e size v n xs)(a:Addr)(c:Nat)(news:List Value)(hl:news.length=1*size)(JN:∀j u,news[j]?=so u->W.cell? (a.add j)=so u)(h1:∀u∈news,u.oneCell'=true)(h63:n<=100000)(abb:(n+1)*bytes<=140737488355328){v':Value}{W':ae}(hr:(Builtin.append_ #[t,t] ty #[v,.slice (so a) 1 c]).run P W=.ok v' W'):v'.ownBlock=v.ownBlock\/v'.ownBlock=so W.heap.size:=by
 subst qZ hby;rcases fq.2 with⟨rfl,rfl⟩|⟨g,cap,cur,rfl,hbg,hg,hnc,hcm,Pr,amh⟩
 ·have h:=run_append_nil (P:=P) W t ty e i z ht hi hz a 1 c news hl JN aa aa aa;rw[hr]at h;injection h with h _;rw[h];exact .inr rfl
 ·by_cases Y8:n+1<=cap
  ·have aji:n*i.size+news.length<=cur.size:=by rw[hl,Pr,<- Nat.add_mul];exact iQ _ Y8
   have h:=run_append_room (P:=P) W t ty e i ht hi g n cap cur hg a 1 c news hl JN h1 Y8 aji;rw[hr]at h;injection h with h _;rw[h];exact .inl rfl
  ·have h:=run_append_grow (P:=P) W t ty e i z ht hi hz ⟨g,0,we⟩ n cap xs fq.1 (fq.cells (g:=g) rfl) a 1 c news hl JN aa aa (growslice_fits aa abb);rw[hr]at h;injection h with h _;rw[h];exact .inr rfl
def Ke{P:Program}{L:Nat->Bool}{o:aM}{w:ae}(hF:bO P L o w){g:Nat}(hg:¬o g):∃f:Rn,(mI P L o).has f/\f.b g≠g:=by
 obtain⟨g',D6,dE,hG'⟩:∃g',¬o g'/\g'≠g/\P.globals.size<=g':=⟨g+w.heap.size+P.globals.size+1,λh=>by have:=hF.lt h;omega,aa,aa⟩;have hG:P.globals.size<=g:=de λh=>hg (hF.kp g h);refine⟨⟨λx=>if x=g then g' else if x=g' then g else x,id,id,id⟩,⟨λx y h=>?_,λr hr=>?_,λ_ _=>rfl,λr=>?_⟩,by simp;exact dE⟩
 ·simp only at h;by_cases h1:x=g<;>by_cases h2:y=g<;>by_cases h3:x=g'<;>by_cases h4:y=g'<;>simp_all
 ·have h1:r≠g:=λe=>hg (e▸hr);have h2:r≠g':=λe=>D6 (e▸hr);simp[h1,h2,mI]
 ·simp only[mI];by_cases h1:r=g
  ·simp[h1];omega
  ·by_cases h2:r=g'
   ·simp[h1,h2,dE];omega
   ·simp[h1,h2]
def Hi{P:Program}{L:Nat->Bool}{o:aM}{w:ae}(hF:bO P L o w){g off l c:Nat}(h:Cl P L o (.slice (so ⟨g,off,we⟩) l c)):o g:=aN λhg=>by
 obtain⟨f,hf,dE⟩:=Ke hF hg;have:=h f hf;simp only[val,aJ,addr,Value.slice.injEq,aA,Addr.mk.injEq]at this;exact dE this.1.1
section
variable {Fin:bL}{o:aM}{w:ae}
def XF(hF:bO ax L0 o w)(K off n c:Nat)(p:Option Addr)(lost:Bool)(hK:o K)(h0:w.cell? ⟨K,off,we⟩=so (.slice p n c))(h1:w.cell? ⟨K,off+1,we⟩=so (.bool lost)):
  bA ax (XB ax Fin 0) 103 #[.pointer (so ⟨K,off,we⟩)] o w λv o' w'=>v=.bool (decide (0<n)||lost)/\o'=o/\w'=w:=by
 have W:=bY (P:=ax) (Fin:=Fin) (d:=0);refine bD W func103 ak ?_;walk_nrmf Tryz.f103;refine ay ?_;refine jJ hF hK h0 λ_=>?_;walk_nrm;rcases bg n with hn|hn
 ·subst hn;refine ay ?_;refine jJ hF hK h1 λ_=>?_;refine ay ?_;exact⟨.inr trivial,trivial,_,resultsC_tmp (t:=2) ak _,aK⟩
 ·have hnI:(0:Int)<(n:Int):=aa;refine ay ?_;exact⟨.inr trivial,trivial,_,resultsC_tmp (t:=2) ak _,by simp[Act.eval,hn]⟩
def XG(hF:bO ax L0 o w)(K off t n:Nat)(g:Nat->Value)(hK:o K)(hr:w.rowIs K t n g)(hn:off+1<n):
  bA ax (XB ax Fin 0) 104 #[.pointer (so ⟨K,off,we⟩)] o w λv o' w'=>v=.tuple #[]/\o'=o/\bO ax L0 o w'/\eM K w w'/\w'.rowIs K t n (λj=>if j=off+1 then .bool false else if j=off then .slice we 0 0 else g j):=by
 have W:=bY (P:=ax) (Fin:=Fin) (d:=0);refine bD W func104 ak ?_;walk_nrmf Tryz.f104;refine ay ?_;refine dA bS hF rfl ak ak ?_ rfl (R:=λwl aX=>aX=(wl.setCell ⟨K,off,we⟩ (.slice we 0 0)).setCell ⟨K,off+1,we⟩ (.bool false)) (λwl aW=>⟨_,?_,rfl⟩) λwl aX w9 aW hR bP=>?_
 ·refine jF ?_ ?_
  ·exact bX hK
  ·exact fW (vs:=[_,_]) (λx hx=>by
    simp at hx;rcases hx with rfl|rfl
    ·exact iP
    ·exact mY)
 ·have rl:=World.rowIs.of_block hr (aW.heap K hK);have e0:=rl.cell (i:=off) aa;have e1:=rl.cell (i:=off+1) hn;have f:=rl.frozen;simp[go_sem,e0,e1,f]
 have hO:eM K wl aX:=by rw[hR];exact AQ _ _ _ _ _ _
 obtain⟨lR,oh,e9⟩:=bP.only aW hK hO;have nT:=bP.aH;rw[e9]at nT |-;refine ay ?_;refine⟨.inl trivial,trivial,.tuple #[],λw1=>results_none ai _ _,ar,ar,nT,lR,?_⟩;rw[hR]at oh;exact World.rowIs.of_block (((World.rowIs.of_block hr (aW.heap K hK)).set off _).set (off+1) _) oh
def MP(hF:bO ax L0 o w)(b c:Nat)(p:Option Addr)(ts:List af)(x:af)(hn:ts.length<=100000)(hq:ts≠[]->p=so ⟨b,0,we⟩/\o b)(ht:eN w b 0 ts)(hc:Cl ax L0 o (.slice p ts.length c)):
  bA ax (XB ax Fin 0) 80 #[.slice p ts.length c,.string x] o w λv o' w'=>v=.bool (Lib.containsS ts x)/\fT o w v o' w':=by
 refine bA.mono (ek ai hF (λy hy=>by simp at hy;rcases hy with rfl|rfl;exact hc;exact bQ) (Q:=λwl v w'=>v=.bool (Lib.containsS ts x)) (λwl AP v w1 w2 e1 e2 h=>h) (λwl hz aW=>?_)) (λv o' w' hq=>⟨hq.2.choose_spec.choose_spec.2.2.2,hq.1⟩);by_cases dE:ts=[]
 ·subst dE;refine(Tryz.slices_Contains_string_empty p c x wl).mono λe w' hq=>?_;obtain⟨rfl,rfl⟩:=hq;refine⟨_,rfl,ah _,λ_ _=>rfl,?_⟩;cases hx:Lib.containsS [] x with
  |false=>rfl
  |true=>have:=(Lib.containsS_iff [] x).1 hx;cases this
 ·obtain⟨rfl,hb⟩:=hq dE;refine(yH b c ts x wl hn (cD ht (aW b hb))).mono λe w' hq=>?_;obtain⟨rfl,rfl⟩:=hq;exact⟨_,rfl,ah _,λ_ _=>rfl,rfl⟩
structure QR(o:aM)(w:ae)(v:Value)(ts:List af):Prop where
 row:∃lo,lo<=w.heap.size/\w.ownsRow lo 9 1 v ts.length (ts.map .string)
 cl:Cl ax L0 o v
def QR.view{v:Value}{ts:List af}(h:QR o w v ts)(hF:bO ax L0 o w):∃p b c,v=.slice p ts.length c/\(p=we->ts=[])/\(ts≠[]->p=so ⟨b,0,we⟩/\o b)/\eN w b 0 ts/\(∀g,v.ownBlock=so g->o g):=by
 obtain⟨lo,zb,cp⟩:=h.row;have ht:=uM cp (λ_ _ _=>rfl) rfl;rcases ht with⟨q1,q2⟩|⟨g,cap,q1,q2,q3,q4,q5⟩
 ·exact⟨we,0,0,by rw[q1,q2];rfl,λ_=>q2,λdE=>absurd q2 dE,λk hk=>by rw[q2]at hk;simp at hk,λg hg=>by rw[q1]at hg;cases hg⟩
 ·have hc:=h.cl;rw[q1]at hc;have hg:=Hi hF hc;exact⟨_,g,cap,q1,(λe=>by cases e),λ_=>⟨rfl,hg⟩,q5,λg' D6=>by rw[q1]at D6;cases D6;exact hg⟩
def QR.keep{v:Value}{ts:List af}{o':aM}{w':ae}(h:QR o w v ts)(nZ:∀b,o b->o' b)(hz:w.heap.size<=w'.heap.size)(e:∀g,v.ownBlock=so g->w'.heap[g]?=w.heap[g]?):QR o' w' v ts:=by
 obtain⟨lo,zb,cp⟩:=h.row;exact⟨⟨lo,aa,dC cp λg hg _=>e g hg.symm⟩,h.cl.up nZ⟩
def iw(ts:List af)(lost:Bool)(x:af):List af×Bool:=if Lib.containsS ts x then(ts,lost)else if 4<=ts.length then(ts,true) else(ts++[x],lost)
def Y9(hF:bO ax L0 o w)(K off t n:Nat)(g:Nat->Value)(qv:Value)(ts:List af)(lost:Bool)(x:af)(hK:o K)(hQ:QR o w qv ts)(dE:qv.ownBlock≠so K)(hr:w.rowIs K t n g)(hn:off+1<n)(h0:g off=qv)(h1:g (off+1)=.bool lost)(hl:ts.length<=1000):
  bA ax (XB ax Fin 0) 48 #[.pointer (so ⟨K,off,we⟩),.string x] o w λv o' w'=>v=.tuple #[]/\bC (λb=>b=K\/qv.ownBlock=so b) o w o' w'/\∃rM,QR o' w' rM (iw ts lost x).1/\(∀b,rM.ownBlock=so b->b≠K/\(qv.ownBlock=so b\/w.heap.size<=b))/\w'.rowIs K t n (λj=>if j=off+1 then .bool (iw ts lost x).2 else if j=off then rM else g j):=by
 have W:=bY (P:=ax) (Fin:=Fin) (d:=0);refine bD W func48 ak ?_;walk_nrmf Tryz.f48;obtain⟨p,b,c,rfl,v1,v2,v3,v4⟩:=hQ.view hF;have hKw:=hF.lt hK;have cell0:∀{w':ae},w'.rowIs K t n g->w'.cell? ⟨K,off,we⟩=so (.slice p ts.length c):=λh=>by rw[h.cell aa,h0]
 refine ay ?_;refine jJ (v:=.slice p ts.length c) hF hK (cell0 hr) λ_=>?_;refine ay ?_;refine b5 func80 (MP hF b c p ts x aa v2 v3 hQ.cl) ?_;rintro v3' o3 w3 ⟨rfl,N3⟩;have W3:bC (λb=>b=K\/(Value.slice p ts.length c).ownBlock=so b) o w o3 w3:=bC.dJ N3;have XH:=W3.more _ hK;have EE:=World.rowIs.of_block hr (N3.old K hKw);have hQ3:QR o3 w3 (.slice p ts.length c) ts:=hQ.keep W3.more W3.size λg hg=>N3.old g (hF.lt (v4 g hg));cases hcx:Lib.containsS ts x with
 |true =>
  refine ay ?_;have Za:iw ts lost x=(ts,lost):=by simp[iw,hcx]
  refine⟨.inr trivial,trivial,.tuple #[],λw1=>results_none ai _ _,ar,W3,_,by rw[Za];exact hQ3,λg hg=>⟨λe=>dE (by rw[hg,e]),.inl hg⟩,?_⟩;rw[Za];refine EE.congr λj _=>?_;by_cases e1:j=off+1
  ·rw[if_pos e1,e1,h1]
  ·by_cases e0:j=off
   ·rw[if_neg e1,if_pos e0,e0,h0]
   ·rw[if_neg e1,if_neg e0]
 |false =>
  refine ay ?_;refine jJ (v:=.slice p ts.length c) W3.aH XH (cell0 EE) λ_=>?_;walk_nrm;by_cases h4:4<=ts.length
  ·have hlI:(4:Int)<=(ts.length:Int):=aa;refine ay ?_;have Za:iw ts lost x=(ts,true):=by simp[iw,hcx,h4]
   refine dA bS W3.aH rfl ak ak ?_ rfl (R:=λwl aX=>aX=wl.setCell ⟨K,off+1,we⟩ (.bool true)) (λwl aW=>⟨_,?_,rfl⟩) λwl aX w9 aW hR bP=>?_
   ·exact jF (bX XH) mY
   ·have rl:=World.rowIs.of_block EE (aW.heap K XH);have e1:=rl.cell (i:=off+1) hn;rw[h1]at e1;have f:=rl.frozen;simp[go_sem,e1,f]
   have hO:eM K wl aX:=by rw[hR];exact iX _ _ _ _
   obtain⟨lR,oh,e9⟩:=bP.only aW XH hO;have nT:=bP.aH;rw[e9]at nT |-;refine ay ?_;have W9:bC (λb=>b=K\/(Value.slice p ts.length c).ownBlock=so b) o3 w3 o3 w9:=⟨nT,λ_ h=>h,λ_ h=>.inl h,bI lR.1.symm,λb _ hb=>lR.2 b λe=>hb (.inl e)⟩;refine⟨.inr trivial,trivial,.tuple #[],λw1=>results_none ai _ _,ar,W3.trans W9,_,by rw[Za];exact hQ3.keep (λ_ h=>h) (bI lR.1.symm) (λg hg=>lR.2 g λe=>dE (by rw[hg,e])),λg hg=>⟨λe=>dE (by rw[hg,e]),.inl hg⟩,?_⟩;rw[hR]at oh;rw[Za];refine World.rowIs.of_block (((World.rowIs.of_block EE (aW.heap K XH)).set (off+1) _).congr λj _=>?_) oh;by_cases e1:j=off+1
   ·rw[if_pos e1,if_pos e1]
   ·by_cases e0:j=off
    ·rw[if_neg e1,if_neg e1,if_pos e0,e0,h0]
    ·rw[if_neg e1,if_neg e1,if_neg e0]
  ·have hlI:¬(4:Int)<=(ts.length:Int):=aa;refine ay ?_;have Za:iw ts lost x=(ts++[x],lost):=by simp[iw,hcx,h4]
   refine jJ (v:=.slice p ts.length c) W3.aH XH (cell0 EE) λ_=>?_;refine ay ?_;refine dm bS W3.aH rfl ak ak ?_ rfl (R:=λwl v aX=>v=.slice (so ⟨wl.heap.size,0,we⟩) 1 1/\aX=wl.alloc (.cells #[.string x] 9)) (λwl aW=>⟨_,_,fS,rfl,rfl⟩) λwl v5 aX w5 aW RX bP=>?_
   ·exact mo bQ
   obtain⟨rfl,RX⟩:=RX;obtain⟨z5,k5,Kf⟩:=bP.alloc W3.aH aW RX;have K5:=bP.aH;rw[aW.size];clear RX bP aW wl aX;walk_nrm;have u5:∀b,o3 b->grow o3 w3 w5 b:=λb hb=>.inl hb;have xj:grow o3 w3 w5 w3.heap.size:=.inr ⟨ah _,aa⟩;have hQ5:QR (grow o3 w3 w5) w5 (.slice p ts.length c) ts:=hQ3.keep u5 aa λg hg=>k5 g (W3.aH.lt (W3.more _ (v4 g hg)));obtain⟨lo,zb,cp⟩:=hQ5.row;refine dm bS K5 rfl ak ak ?_ rfl (R:=λwl v aX=>aX.ownsRow lo 9 1 v (ts++[x]).length ((ts++[x]).map .string)/\wl.grownBy aX (Value.slice p ts.length c).ownBlock/\(v.ownBlock=(Value.slice p ts.length c).ownBlock\/v.ownBlock=so wl.heap.size)) (λwl aW=>?_) λwl v6 aX w6 aW hR6 bP=>?_
   ·intro y hy;simp[Op.operands,Call.operands]at hy;rcases hy with rfl|rfl
    ·simp[Act.eval];exact hQ5.cl
    ·simp[Act.eval];exact dW xj
   ·obtain⟨v',W',e1,e2,e3⟩:=qw wl lo (.slice p ts.length c) ts x w3.heap.size (dC cp λg hg _=>aW.heap g (u5 _ (W3.more _ (v4 g hg.symm)))) aa (by rw[aW.size];exact zb) ((Dh ((aW.heap _ xj).trans Kf)).1);refine⟨v',W',jz (.tmp 23) (.tmp 25) 40 rfl aK aK e1,e2,e3,?_⟩;obtain⟨i,hi,pP⟩:=aaf.1 qq;simp only[bB]at pP;refine yN wl lo 40 40 9 i _ 1 16 underlying40 hi pP.1 pP.2.1 pP.2.2 _ ts.length (ts.map .string) (dC cp λg hg _=>aW.heap g (u5 _ (W3.more _ (v4 g hg.symm)))) ⟨w3.heap.size,0,we⟩ 1 [.string x] rfl (λj u hj=>?_) (by simp;rfl) aa aa e1;cases j with
    |zero=>simp at hj;subst hj;simpa[Addr.add] using(Dh ((aW.heap _ xj).trans Kf)).1
    |succ j=>simp at hj
   obtain⟨Ox,Ew,Zb⟩:=hR6;rw[aW.size]at Zb;have EF:=bP.aH;have abc:Cl ax L0 (grow (grow o3 w3 w5) w5 w6) v6:=bP.val;have z6:=bP.iS;have aeM:∀b,b<w5.heap.size->(Value.slice p ts.length c).ownBlock≠so b->w6.heap[b]?=w5.heap[b]?:=λb hb hbv=>by
    by_cases ho:grow o3 w3 w5 b
    ·rw[bP.same b (.inl ho),Ew.block b (by rw[aW.size];exact hb) (λe=>hbv e.symm),aW.heap b ho]
    ·exact bP.rest b hb ho
   have Kg:∀b,v6.ownBlock=so b->grow (grow o3 w3 w5) w5 w6 b:=λb hb=>by
    obtain⟨-,ga⟩:=Ox;rcases ga with⟨rfl,-⟩|⟨g',cap,cur,rfl,-⟩
    ·cases hb
    ·cases hb;exact Hi EF abc
   have JD:w6.ownsRow lo 9 1 v6 (ts++[x]).length ((ts++[x]).map .string):=dC Ox λb hb _=>bP.same b (Kg b hb.symm);have hv6:∃q l cc,v6=.slice q l cc:=by
    obtain⟨-,ga⟩:=Ox;rcases ga with⟨rfl,-⟩|⟨g',cap,cur,rfl,-⟩
    ·exact⟨_,_,_,rfl⟩
    ·exact⟨_,_,_,rfl⟩
   have Zc:∀b,v6.ownBlock=so b->b≠K/\((Value.slice p ts.length c).ownBlock=so b\/w.heap.size<=b):=λb hb=>by
    have zz:=W3.size;have hKl:=W3.aH.lt XH;rcases Zb with e|e
    ·rw[hb]at e;exact⟨λq=>dE (by rw[<- e,q]),.inl e.symm⟩
    ·rw[hb]at e;have e:=aT e;exact⟨aa,.inr aa⟩
   clear Ew Ox bP aW wl aX;refine ay ?_;have hK6:grow (grow o3 w3 w5) w5 w6 K:=.inl (.inl XH);have ajm:=W3.aH.lt XH;have Qm:w6.rowIs K t n g:=World.rowIs.of_block EE ((aeM K aa dE).trans (k5 K ajm));obtain⟨q6,l6,c6,rfl⟩:=hv6;refine dA bS EF rfl ak ak ?_ rfl (R:=λwl aX=>aX=wl.setCell ⟨K,off,we⟩ (.slice q6 l6 c6)) (λwl aW=>⟨_,?_,rfl⟩) λwl aX w9 aW hR bP=>?_
   ·refine jF ?_ ?_
    ·exact bX hK6
    ·exact abc
   ·have rl:=World.rowIs.of_block Qm (aW.heap K hK6);have e1:=cell0 rl;have f:=rl.frozen;simp[go_sem,e1,f]
   have hO:eM K wl aX:=by rw[hR];exact iX _ _ _ _
   obtain⟨lR,oh,e9⟩:=bP.only aW hK6 hO;have nT:=bP.aH;rw[e9]at nT |-;refine ay ?_;have W9:bC (λb=>b=K\/(Value.slice p ts.length c).ownBlock=so b) o3 w3 (grow (grow o3 w3 w5) w5 w6) w9:=by
    refine⟨nT,λb hb=>.inl (.inl hb),λb hb=>?_,by rw[lR.1];omega,λb hb hx=>?_⟩
    ·rcases hb with(hb|hb)|hb
     ·exact .inl hb
     ·exact .inr hb.1
     ·exact .inr aa
    ·rw[lR.2 b λe=>hx (.inl e),aeM b aa λe=>hx (.inr e),k5 b hb]
   refine⟨.inl trivial,trivial,.tuple #[],λw1=>results_none ai _ _,ar,W3.trans W9,_,by rw[Za];exact⟨⟨lo,by rw[lR.1];omega,dC JD λb hb _=>lR.2 b (Zc b hb.symm).1⟩,abc⟩,Zc,?_⟩;rw[hR]at oh;rw[Za];refine World.rowIs.of_block (((World.rowIs.of_block Qm (aW.heap K hK6)).set off _).congr λj _=>?_) oh;by_cases e1:j=off+1
   ·rw[if_neg aa,if_pos e1,e1,h1]
   ·by_cases e0:j=off
    ·simp[e0]
    ·simp[e0,e1]
end
section
open Go.RowKit
def small(x:af)(k:Nat):Prop:=∀j (h:j<x.size),j<k->97<=x[j].toNat/\x[j].toNat<=122
def isName(x:af):Prop:=1<=x.size/\x.size<=4/\small x x.size
structure aeN(x:af)(e:Ending):Prop where
 ex:∃b,e=.returned (.bool b)/\(b=true↔isName x)
def Kh(x:af)(w:ae)(hx:x.size<=9223372036854775807):Calls ax 68 #[.string x] w λe w'=>aeN x e/\w'=w:=by
 go_enter func68,ntmps68;by_cases h1:x.size<1
 ·have h1I:(x.size:Int)<1:=aa;go_wp2;go_ret;exact⟨⟨⟨false,rfl,by simp[isName];omega⟩⟩,rfl⟩
 ·have h1I:¬(x.size:Int)<1:=aa;by_cases h2:x.size>4
  ·have h2I:(4:Int)<(x.size:Int):=aa;go_wp2;go_ret;exact⟨⟨⟨false,rfl,by simp[isName];omega⟩⟩,rfl⟩
  ·have h2I:¬(4:Int)<(x.size:Int):=aa;go_wp2;go_loop [14] (λi=>∃k:Nat,k<=x.size/\i=.int .i64 k/\small x k) (λi=>x.size-(intOf i).toNat)
   case atStart=>exact⟨0,aV _,rfl,λj _ hj=>aa⟩
   case round =>
    obtain⟨k,hk,rfl,hs⟩:=hrel;by_cases cx:k<x.size
    ·by_cases c1:x[k].toNat<97
     ·have c1I:(x[k].toNat:Int)<97:=aa;go_wp2;go_ret;exact⟨⟨⟨false,rfl,⟨(λe=>by cases e),λh=>by have:=h.2.2 k cx cx;omega⟩⟩⟩,rfl⟩
     ·have c1I:¬(x[k].toNat:Int)<97:=aa;by_cases c2:x[k].toNat>122
      ·have c2I:(122:Int)<(x[k].toNat:Int):=aa;go_wp2;go_ret;exact⟨⟨⟨false,rfl,⟨(λe=>by cases e),λh=>by have:=h.2.2 k cx cx;omega⟩⟩⟩,rfl⟩
      ·have c2I:¬(122:Int)<(x[k].toNat:Int):=aa;go_wp2
       go_round
       case rel=>exact⟨k+1,aa,by go_num,λj h hj=>if e:j=k then by subst e;omega else hs j h aa⟩
       case measure=>simp[intOf];omega
    ·go_wp2;go_ret;have e:k=x.size:=aa;subst e;exact⟨⟨⟨true,rfl,by simp only[true_iff];exact⟨aa,aa,hs⟩⟩⟩,rfl⟩
def Ur(x:af)(w:ae):Calls ax 70 #[.string x] w λe w'=>e=.returned (.bool (decide ((x.size:Int)<=12)))/\w'=w:=by
 go_enter func70,ntmps70;go_wp2;go_ret;exact⟨rfl,rfl⟩
section
variable {Fin:bL}{o:aM}{w:ae}
def MQ(hF:bO ax L0 o w)(x:af)(hx:x.size<=9223372036854775807):
  bA ax (XB ax Fin 0) 68 #[.string x] o w λv o' w'=>∃b,v=.bool b/\(b=true↔isName x)/\fT o w v o' w':=by
 refine bA.mono (ek ai hF (λy hy=>by simp at hy;subst hy;exact bQ) (Q:=λwl v w'=>∃b,v=.bool b/\(b=true↔isName x)) (λwl AP v w1 w2 e1 e2 h=>h) (λwl hz aW=>?_)) (λv o' w' hq=>?_)
 ·refine(Kh x wl hx).mono λe w' hq=>?_;obtain⟨⟨b,rfl,hb⟩,rfl⟩:=hq;exact⟨_,rfl,ah _,λ_ _=>rfl,b,rfl,hb⟩
 ·obtain⟨hN,wl,aX,-,-,-,b,h1,h2⟩:=hq;exact⟨b,h1,h2,hN⟩
def Us(hF:bO ax L0 o w)(x:af):
  bA ax (XB ax Fin 0) 70 #[.string x] o w λv o' w'=>v=.bool (decide ((x.size:Int)<=12))/\fT o w v o' w':=by
 refine bA.mono (ek ai hF (λy hy=>by simp at hy;subst hy;exact bQ) (Q:=λwl v w'=>v=.bool (decide ((x.size:Int)<=12))) (λwl AP v w1 w2 e1 e2 h=>h) (λwl hz aW=>?_)) (λv o' w' hq=>?_)
 ·refine(Ur x wl).mono λe w' hq=>?_;obtain⟨rfl,rfl⟩:=hq;exact⟨_,rfl,ah _,λ_ _=>rfl,rfl⟩
 ·obtain⟨hN,wl,aX,-,-,-,h1⟩:=hq;exact⟨h1,hN⟩
end
end
def Hj(t:af):Value:=.agg #[.bool true,.string t]
def Dv(n:Int):Value:=.int .i64 n
structure iq(o:aM)(w:ae)(fb mT mS:Nat)(th:List (af×af))(st:List (af×Int)):Prop where
 blk:w.heap[fb]?=so (.cells #[.map (so mT),.map (so mS)] 164)
 tm:nj w mT (su Hj th)
 sm:nj w mS (su Dv st)
 own:o fb/\o mT/\o mS
 apart:fb≠mT/\fb≠mS/\mT≠mS
def dG(th:List (af×af))(x:af):V:=match eR th x with
 |some t=>(true,t)
 |none=>V0
def cN(st:List (af×Int))(x:af):Int:=(eR st x).getD 0
section
variable {Fin:bL}{o:aM}{w:ae}{fb mT mS:Nat}{th:List (af×af)}{st:List (af×Int)}
def iq.keep{o':aM}{w':ae}(h:iq o w fb mT mS th st)(nZ:∀b,o b->o' b)(e:∀b,b=fb\/b=mT\/b=mS->w'.heap[b]?=w.heap[b]?):iq o' w' fb mT mS th st :=
 ⟨(e fb (.inl rfl)).trans h.blk,h.tm.of_block (e mT (.inr (.inl rfl))),h.sm.of_block (e mS (.inr (.inr rfl))),⟨nZ _ h.own.1,nZ _ h.own.2.1,nZ _ h.own.2.2⟩,h.apart⟩
def Ut(w:ae):(zeroValue 159).run ax w=.ok (.agg #[.bool false,.string aR]) w:=ai
def Uu(w:ae):(zeroValue 3).run ax w=.ok (.int .i64 0) w:=ai
def Ac(w:ae)(x:af)(h:nj w mT (su Hj th)):(Instr.lookup 161 (.map (so mT)) (.string x) false).run ax w=.ok (.agg #[.bool (dG th x).1,.string (dG th x).2]) w:=by
 rw[AU underlying161 underlying9 h (Ut w),Hh];unfold dG;cases eR th x<;>rfl
def vB(w:ae)(x:af)(h:nj w mS (su Dv st)):(Instr.lookup 162 (.map (so mS)) (.string x) false).run ax w=.ok (.int .i64 (cN st x)) w:=by
 rw[AU underlying162 underlying9 h (Uu w),Hh];unfold cN;cases eR st x<;>rfl
def nk{r:Nat}(h:o r):Cl ax L0 o (.map (so r)):=λf hf=>by simp[val,hf.at_ r h,mI]
def Zd(hF:bO ax L0 o w)(h:iq o w fb mT mS th st)(x:af):
  bA ax (XB ax Fin 0) 100 #[.pointer (so ⟨fb,0,we⟩),.string x] o w λv o' w'=>v=.agg #[.bool (dG th x).1,.string (dG th x).2,.int .i64 (cN st x)]/\fT o w v o' w':=by
 have W:=bY (P:=ax) (Fin:=Fin) (d:=0);refine eD W func100 ak ?_;walk_nrmf Tryz.f100;refine ay ?_;refine dm bS hF rfl ak ak nf rfl (R:=λwl v aX=>v=.pointer (so ⟨wl.heap.size,0,we⟩)/\aX=wl.alloc (Obj.cells #[.bool false,.string aR,.int .i64 0] 194)) (λwl aW=>⟨_,_,by simp[go_sem];rfl,rfl,rfl⟩) λwl v1 aX w1 aW hR bP=>?_;obtain⟨rfl,hR⟩:=hR;obtain⟨z1,k1,sV⟩:=bP.alloc hF aW hR;have lz:=bP.aH;rw[aW.size];clear hR bP aW wl aX;walk_nrm;have hfb:=hF.lt h.own.1;have h1:iq (grow o w w1) w1 fb mT mS th st:=h.keep jf λb hb=>by
  rcases hb with rfl|rfl|rfl
  ·exact k1 _ hfb
  ·exact k1 _ (hF.lt h.own.2.1)
  ·exact k1 _ (hF.lt h.own.2.2)
 have hA:grow o w w1 w.heap.size:=.inr ⟨ah _,aa⟩;obtain⟨c0,c1,-⟩:=dY h1.blk;obtain⟨o1,Gw⟩:∃x,x=grow o w w1:=⟨_,rfl⟩;rw[<- Gw]at h1 hA lz |-;generalize QS:dG th x=sv;obtain⟨sb,stx⟩:=sv;generalize hss:cN st x=ss;refine ay ?_;refine dH mixed ai [so we,so we,so we,so (so (.map (so mT))),so we,so (so (.agg #[.bool sb,.string stx])),so we,so we,so we,so (so (.map (so mS))),so we,so (so (.int .i64 ss)),so we,we]
  (S:=λσ o' w'=>o'=o1/\(σ 13=we->w'=w1)/\∀y,σ 13=so y->bO ax L0 o1 w'/\eM w.heap.size w1 w'/\w'.heap[w.heap.size]?=so (Obj.cells #[.bool sb,.string stx,.int .i64 ss] 194)) ?_ λv=>?_
 ·exact⟨rfl,λ_=>rfl,λy hy=>by cases hy⟩
 refine dN ?_;refine cq ?_;refine dsP (λσ o' w' H hS=>?_) ?_
 ·obtain⟨rfl,e1,-⟩:=hS;obtain rfl:=e1 (H.qJ [12,5] 13 ai);exact sR lz h1.own.1 c0
 refine cq ?_;refine dsP (λσ o' w' H hS=>?_) ?_
 ·obtain⟨rfl,e1,-⟩:=hS;obtain rfl:=e1 (H.qJ [12] 13 ai);refine⟨lz,λy hy=>?_,λwl aW=>?_⟩
  ·simp[Op.operands]at hy;rcases hy with rfl|rfl
   ·simp[Act.eval];exact nk h1.own.2.1
   ·simp[Act.eval];exact bQ
  ·have:=Ac wl x (h1.tm.of_block (aW.heap _ h1.own.2.1));rw[QS]at this;simp[go_sem,this]
 refine cq ?_;refine dsP (λσ o' w' H hS=>?_) ?_
 ·obtain⟨rfl,e1,-⟩:=hS;obtain rfl:=e1 (H.qJ [12,11] 13 ai);exact sR lz h1.own.1 c1
 refine cq ?_;refine dsP (λσ o' w' H hS=>?_) ?_
 ·obtain⟨rfl,e1,-⟩:=hS;obtain rfl:=e1 (H.qJ [12] 13 ai);refine⟨lz,λy hy=>?_,λwl aW=>?_⟩
  ·simp[Op.operands]at hy;rcases hy with rfl|rfl
   ·simp[Act.eval];exact nk h1.own.2.2
   ·simp[Act.eval];exact bQ
  ·have:=vB wl x (h1.sm.of_block (aW.heap _ h1.own.2.2));rw[hss]at this;simp[go_sem,this]
 refine cq ?_;refine pM bS rfl rfl rfl ak ak (λσ o' w' H Bj hS=>?_) ?_
 ·obtain⟨rfl,e1,-⟩:=hS;obtain rfl:=e1 Bj;refine⟨lz,λy hy=>?_,λwl aX=>aX=((wl.setCell ⟨w.heap.size,0,we⟩ (.bool sb)).setCell ⟨w.heap.size,1,we⟩ (.string stx)).setCell ⟨w.heap.size,2,we⟩ (.int .i64 ss),λwl aW=>⟨_,?_,rfl⟩,λwl aX w2 aW hR bP=>?_⟩
  ·simp[Op.operands]at hy;rcases hy with rfl|rfl
   ·simp[Act.eval];exact bX hA
   ·simp[Act.eval];exact fW (vs:=[_,_,_]) (λx hx=>by
     simp at hx;rcases hx with rfl|rfl|rfl
     ·exact mY
     ·exact bQ
     ·exact dV)
  ·obtain⟨e0,e1,e2,f0,f1,f2⟩:=fa ((aW.heap _ hA).trans sV);simp[go_sem,e0,e1,e2,f0,f1,f2]
  ·have hO:eM w.heap.size wl aX:=by rw[hR];exact wC _ _ _ _ _ _ _ _
   obtain⟨on,kb,eg⟩:=bP.only aW hA hO;have rj:=bP.aH;rw[eg]at rj |-;refine⟨rfl,λh=>by simp[fM]at h,λy _=>⟨rj,on,?_⟩⟩;rw[kb,hR,MF ((aW.heap _ hA).trans sV)]
 walk_nrm;refine cu λσ o' w' lP hS=>?_;obtain⟨rfl,-,e2⟩:=hS;obtain⟨rj,on,kb⟩:=e2 _ (lP 13 eB rfl);simp only[ij,dz,if_true,if_false,reduceIte,Nat.reduceEqDiff];refine ay ?_;have c9:∀n,(w'.at n).cell? ⟨w.heap.size,0,we⟩=so (.bool sb)/\(w'.at n).cell? ⟨w.heap.size,1,we⟩=so (.string stx)/\(w'.at n).cell? ⟨w.heap.size,2,we⟩=so (.int .i64 ss):=λn=>⟨(fa kb).1,(fa kb).2.1,(fa kb).2.2.1⟩;refine⟨.inr trivial,trivial,.agg #[.bool sb,.string stx,.int .i64 ss],xc (λn=>?_) (λn e he=>?_),rfl,?_,rj,by rw[on.1];omega,λb hb=>?_,?_⟩
 ·obtain⟨c0,c1,c2⟩:=c9 n;simp[results,results100,go_sem,c0,c1,c2]
 ·obtain⟨c0,c1,c2⟩:=c9 n;simp[results,results100,go_sem,c0,c1,c2]at he;rcases he with rfl|rfl|rfl;all_goals exact⟨_,_,_,rfl,hA⟩
 ·rw[Gw];exact Hb on.1.symm
 ·rw[on.2 b aa];exact k1 b hb
 ·exact fW (vs:=[_,_,_]) (λx hx=>by
   simp at hx;rcases hx with rfl|rfl|rfl
   ·exact mY
   ·exact bQ
   ·exact dV)
def mH(w:ae)(r:Nat)(X:Obj):eM r w (qz w r X):=⟨by simp[qz],λc hc=>by simp[qz,Ne.symm hc]⟩
def bC.dM{r:Nat}{ex:Nat->Prop}{w':ae}(hF:bO ax L0 o w')(h:eM r w w')(hr:ex r):bC ex o w o w':=⟨hF,λ_ h=>h,λ_ h=>.inl h,bI h.1.symm,λb _ hb=>h.2 b λe=>hb (e▸hr)⟩
def Ad(b:Bool)(t:af)(w:ae):(Instr.field 159 (.agg #[.bool b,.string t]) 0).events ax w #[]=#[]:=ai
def XI(hF:bO ax L0 o w)(h:iq o w fb mT mS th st)(x t:af)(hx:x.size<=9223372036854775807)(Ze:th.length<=100000):
  bA ax (XB ax Fin 0) 47 #[.pointer (so ⟨fb,0,we⟩),.string x,.string t] o w λv o' w'=>bC (λb=>b=mT\/b=mS) o w o' w'/\((v=.int .i64 2/\¬isName x/\iq o' w' fb mT mS th st)\/(v=.int .i64 6/\isName x/\12<t.size/\iq o' w' fb mT mS th st)\/(v=.int .i64 1/\isName x/\t.size<=12/\eR th x=we/\12<=th.length/\iq o' w' fb mT mS th st) \/
   (v=.int .i64 0/\isName x/\t.size<=12/\¬(eR th x=we/\12<=th.length)/\iq o' w' fb mT mS (gi th x t) (gi st x (IntKind.i64.wrap (cN st x+1))))):=by
 have W:=bY (P:=ax) (Fin:=Fin) (d:=0);refine bD W func47 ak ?_;walk_nrmf Tryz.f47;refine ay ?_;refine b5 func68 (MQ hF x hx) ?_;rintro v1 o1 w1 ⟨b1,rfl,BH,N1⟩;have W1:bC (λb=>b=mT\/b=mS) o w o1 w1:=bC.dJ N1;have lt3:∀b,b=fb\/b=mT\/b=mS->b<w.heap.size:=λb hb=>by
  rcases hb with rfl|rfl|rfl
  ·exact hF.lt h.own.1
  ·exact hF.lt h.own.2.1
  ·exact hF.lt h.own.2.2
 have h1:=h.keep W1.more λb hb=>N1.old b (lt3 b hb);cases b1 with
 |false =>
  have hn:¬isName x:=λq=>by have:=BH.2 q;cases this
  refine ay ?_;exact⟨.inr trivial,trivial,_,resultsC_tmp (t:=6) ak _,W1,.inl ⟨aK,hn,h1⟩⟩
 |true =>
  have hn:isName x:=BH.1 rfl;refine ay ?_;refine b5 func70 (Us N1.aH t) ?_;rintro v2 o2 w2 ⟨rfl,N2⟩;have W2:=W1.trans (bC.dJ (ex:=λb=>b=mT\/b=mS) N2);have h2:=h1.keep (bC.dJ (ex:=λ_=>False) N2).more λb hb=>N2.old b (by have:=lt3 b hb;have:=N1.size;omega);by_cases ht:t.size<=12
  ·have htI:(t.size:Int)<=12:=aa;rw[cW htI];refine ay ?_;obtain⟨c0,c1,-⟩:=dY h2.blk;refine jJ N2.aH h2.own.1 c0 λ_=>?_;refine ay ?_;refine dK bS N2.aH rfl ak ak ?_ rfl (v:=.agg #[.bool (dG th x).1,.string (dG th x).2]) (λwl aW=>by simp[go_sem,Ac wl x (h2.tm.of_block (aW.heap _ h2.own.2.1))]) λ_=>?_
   ·exact jF (nk h2.own.2.1) bQ
   walk_nrm;cases hg:eR th x with
   |some t0 =>
    have QS:dG th x=(true,t0):=by simp[dG,hg]
    rw[QS];have evf:=Ad;refine ay ?_;refine jJ N2.aH h2.own.1 c0 λ_=>?_;refine ay ?_;refine dA bS N2.aH rfl ak ak ?_ rfl (R:=λwl aX=>eM mT wl aX/\nj aX mT (su Hj (gi th x t))) (λwl aW=>?_) λwl aX w3 aW hR bP=>?_
    ·intro y hy;simp[Op.operands]at hy;rcases hy with rfl|rfl|rfl
     ·simp[Act.eval];exact nk h2.own.2.1
     ·simp[Act.eval];exact bQ
     ·simp[Act.eval];exact fW (vs:=[_,_]) (λx hx=>by
       simp at hx;rcases hx with rfl|rfl
       ·exact mY
       ·exact bQ)
    ·obtain⟨X,e1,e2⟩:=oQ (P:=ax) (x:=x) underlying161 underlying9 (h2.tm.of_block (aW.heap _ h2.own.2.1)) (Hj t);rw[vA]at e2;unfold Hj at e1;exact⟨_,by simp[go_sem,e1],mH _ _ _,e2⟩
    obtain⟨Ki,sF,e3⟩:=bP.only aW h2.own.2.1 hR.1;have tm3:=hR.2.of_block sF;have mJ:=bP.aH;rw[e3]at mJ |-;clear hR bP aW sF wl aX e3;have Eg:=(cell_of (a:=⟨fb,1,we⟩) (Ki.2 fb h2.apart.1)).trans c1;refine ay ?_;refine jJ mJ h2.own.1 Eg λ_=>?_;refine ay ?_;have Zf:=h2.sm.of_block (Ki.2 mS (λe=>h2.apart.2.2 e.symm));refine dK bS mJ rfl ak ak ?_ rfl (v:=.int .i64 (cN st x)) (λwl aW=>by simp[go_sem,vB wl x (Zf.of_block (aW.heap _ h2.own.2.2))]) λ_=>?_
    ·exact jF (nk h2.own.2.2) bQ
    refine ay ?_;refine dA bS mJ rfl ak ak ?_ rfl (R:=λwl aX=>eM mS wl aX/\nj aX mS (su Dv (gi st x (IntKind.i64.wrap (cN st x+1))))) (λwl aW=>?_) λwl aX w4 aW hR bP=>?_
    ·intro y hy;simp[Op.operands]at hy;rcases hy with rfl|rfl|rfl
     ·simp[Act.eval];exact nk h2.own.2.2
     ·simp[Act.eval];exact bQ
     ·simp[Act.eval];exact dV
    ·obtain⟨X,e1,e2⟩:=oQ (P:=ax) (x:=x) underlying162 underlying9 (Zf.of_block (aW.heap _ h2.own.2.2)) (Dv (IntKind.i64.wrap (cN st x+1)));rw[vA]at e2;unfold Dv at e1;exact⟨_,by simp[go_sem,e1],mH _ _ _,e2⟩
    obtain⟨vC,yO,e4⟩:=bP.only aW h2.own.2.2 hR.1;have sm4:=hR.2.of_block yO;have rn:=bP.aH;rw[e4]at rn |-;clear hR bP aW yO wl aX e4;refine ay ?_;have W4:=(W2.trans (bC.dM mJ Ki (.inl rfl))).trans (bC.dM rn vC (.inr rfl));refine⟨.inr trivial,trivial,_,resultsC_tmp (t:=6) ak _,W4,.inr (.inr (.inr ⟨aK,hn,ht,(λq=>by cases q.1),?_⟩))⟩;exact⟨(vC.2 fb h2.apart.2.1).trans ((Ki.2 fb h2.apart.1).trans h2.blk),tm3.of_block (vC.2 mT h2.apart.2.2),sm4,h2.own,h2.apart⟩
   |none =>
    have QS:dG th x=(false,aR):=by simp[dG,hg,V0]
    rw[QS];have evf:=Ad;refine ay ?_;refine jJ N2.aH h2.own.1 c0 λ_=>?_;refine ay ?_;refine dK bS N2.aH rfl ak ak ?_ rfl (v:=.int .i64 th.length) (λwl aW=>?_) λ_=>?_
    ·intro y hy;simp[Op.operands,Call.operands]at hy;subst hy;simp[Act.eval];exact nk h2.own.2.1
    ·obtain⟨es,cl,q1,q2⟩:=XD (h2.tm.of_block (aW.heap _ h2.own.2.1));have:=run_len_map (P:=ax) wl 161 3 mT es cl ai q1;simp[go_sem,this,q2,XE,goInt]
    walk_nrm;by_cases p5:12<=th.length
    ·have aeQ:(12:Int)<=(th.length:Int):=aa;refine ay ?_;exact⟨.inr trivial,trivial,_,resultsC_tmp (t:=6) ak _,W2,.inr (.inr (.inl ⟨aK,hn,ht,trivial,p5,h2⟩))⟩
    have aeQ:¬(12:Int)<=(th.length:Int):=aa;refine ay ?_;refine jJ N2.aH h2.own.1 c0 λ_=>?_;refine ay ?_;refine dA bS N2.aH rfl ak ak ?_ rfl (R:=λwl aX=>eM mT wl aX/\nj aX mT (su Hj (gi th x t))) (λwl aW=>?_) λwl aX w3 aW hR bP=>?_
    ·intro y hy;simp[Op.operands]at hy;rcases hy with rfl|rfl|rfl
     ·simp[Act.eval];exact nk h2.own.2.1
     ·simp[Act.eval];exact bQ
     ·simp[Act.eval];exact fW (vs:=[_,_]) (λx hx=>by
       simp at hx;rcases hx with rfl|rfl
       ·exact mY
       ·exact bQ)
    ·obtain⟨X,e1,e2⟩:=oQ (P:=ax) (x:=x) underlying161 underlying9 (h2.tm.of_block (aW.heap _ h2.own.2.1)) (Hj t);rw[vA]at e2;unfold Hj at e1;exact⟨_,by simp[go_sem,e1],mH _ _ _,e2⟩
    obtain⟨Ki,sF,e3⟩:=bP.only aW h2.own.2.1 hR.1;have tm3:=hR.2.of_block sF;have mJ:=bP.aH;rw[e3]at mJ |-;clear hR bP aW sF wl aX e3;have Eg:=(cell_of (a:=⟨fb,1,we⟩) (Ki.2 fb h2.apart.1)).trans c1;refine ay ?_;refine jJ mJ h2.own.1 Eg λ_=>?_;refine ay ?_;have Zf:=h2.sm.of_block (Ki.2 mS (λe=>h2.apart.2.2 e.symm));refine dK bS mJ rfl ak ak ?_ rfl (v:=.int .i64 (cN st x)) (λwl aW=>by simp[go_sem,vB wl x (Zf.of_block (aW.heap _ h2.own.2.2))]) λ_=>?_
    ·exact jF (nk h2.own.2.2) bQ
    refine ay ?_;refine dA bS mJ rfl ak ak ?_ rfl (R:=λwl aX=>eM mS wl aX/\nj aX mS (su Dv (gi st x (IntKind.i64.wrap (cN st x+1))))) (λwl aW=>?_) λwl aX w4 aW hR bP=>?_
    ·intro y hy;simp[Op.operands]at hy;rcases hy with rfl|rfl|rfl
     ·simp[Act.eval];exact nk h2.own.2.2
     ·simp[Act.eval];exact bQ
     ·simp[Act.eval];exact dV
    ·obtain⟨X,e1,e2⟩:=oQ (P:=ax) (x:=x) underlying162 underlying9 (Zf.of_block (aW.heap _ h2.own.2.2)) (Dv (IntKind.i64.wrap (cN st x+1)));rw[vA]at e2;unfold Dv at e1;exact⟨_,by simp[go_sem,e1],mH _ _ _,e2⟩
    obtain⟨vC,yO,e4⟩:=bP.only aW h2.own.2.2 hR.1;have sm4:=hR.2.of_block yO;have rn:=bP.aH;rw[e4]at rn |-;clear hR bP aW yO wl aX e4;refine ay ?_;have W4:=(W2.trans (bC.dM mJ Ki (.inl rfl))).trans (bC.dM rn vC (.inr rfl));refine⟨.inr trivial,trivial,_,resultsC_tmp (t:=6) ak _,W4,.inr (.inr (.inr ⟨aK,hn,ht,λq=>p5 q.2,?_⟩))⟩;exact⟨(vC.2 fb h2.apart.2.1).trans ((Ki.2 fb h2.apart.1).trans h2.blk),tm3.of_block (vC.2 mT h2.apart.2.2),sm4,h2.own,h2.apart⟩
  ·have htI:¬(t.size:Int)<=12:=aa;rw[dq htI];refine ay ?_;exact⟨.inr trivial,trivial,_,resultsC_tmp (t:=6) ak _,W2,.inr (.inl ⟨aK,hn,aa,h2⟩)⟩
def QT(hF:bO ax L0 o w)(h:iq o w fb mT mS th st)(x:af)(hx:x.size<=9223372036854775807)(Ze:th.length<=100000):
  bA ax (XB ax Fin 0) 62 #[.pointer (so ⟨fb,0,we⟩),.string x] o w λv o' w'=>bC (λb=>b=mT\/b=mS) o w o' w'/\((v=.int .i64 2/\¬isName x/\iq o' w' fb mT mS th st)\/(v=.int .i64 7/\isName x/\eR th x=we/\iq o' w' fb mT mS th st) \/
   (v=.int .i64 0/\isName x/\eR th x≠we/\iq o' w' fb mT mS (lZ th x) (gi st x (IntKind.i64.wrap (cN st x+1))))):=by
 have W:=bY (P:=ax) (Fin:=Fin) (d:=0);refine bD W func62 ak ?_;walk_nrmf Tryz.f62;refine ay ?_;refine b5 func68 (MQ hF x hx) ?_;rintro v1 o1 w1 ⟨b1,rfl,BH,N1⟩;have W1:bC (λb=>b=mT\/b=mS) o w o1 w1:=bC.dJ N1;have lt3:∀b,b=fb\/b=mT\/b=mS->b<w.heap.size:=λb hb=>by
  rcases hb with rfl|rfl|rfl
  ·exact hF.lt h.own.1
  ·exact hF.lt h.own.2.1
  ·exact hF.lt h.own.2.2
 have h1:=h.keep W1.more λb hb=>N1.old b (lt3 b hb);cases b1 with
 |false =>
  have hn:¬isName x:=λq=>by have:=BH.2 q;cases this
  refine ay ?_;exact⟨.inr trivial,trivial,_,resultsC_tmp (t:=4) ak _,W1,.inl ⟨aK,hn,h1⟩⟩
 |true =>
  have hn:isName x:=BH.1 rfl;refine ay ?_;obtain⟨c0,c1,-⟩:=dY h1.blk;refine jJ N1.aH h1.own.1 c0 λ_=>?_;refine ay ?_;refine dK bS N1.aH rfl ak ak ?_ rfl (v:=.agg #[.bool (dG th x).1,.string (dG th x).2]) (λwl aW=>by simp[go_sem,Ac wl x (h1.tm.of_block (aW.heap _ h1.own.2.1))]) λ_=>?_
  ·exact jF (nk h1.own.2.1) bQ
  walk_nrm;have evf:=Ad;cases hg:eR th x with
  |none =>
    have QS:dG th x=(false,aR):=by simp[dG,hg,V0]
    rw[QS];refine ay ?_;exact⟨.inr trivial,trivial,_,resultsC_tmp (t:=4) ak _,W1,.inr (.inl ⟨aK,hn,ar,h1⟩)⟩
  |some t0 =>
    have QS:dG th x=(true,t0):=by simp[dG,hg]
    rw[QS];refine ay ?_;refine jJ N1.aH h1.own.1 c0 λ_=>?_;refine ay ?_;refine dm bS N1.aH rfl ak ak ?_ rfl (R:=λwl v aX=>v=.tuple #[]/\eM mT wl aX/\nj aX mT (su Hj (lZ th x))) (λwl aW=>?_) λwl v3 aX w3 aW hR bP=>?_
    ·intro y hy;simp[Op.operands,Call.operands]at hy;rcases hy with rfl|rfl
     ·simp[Act.eval];exact nk h1.own.2.1
     ·simp[Act.eval];exact bQ
    ·obtain⟨X,e1,e2⟩:=Kc (P:=ax) (x:=x) underlying161 underlying9 (h1.tm.of_block (aW.heap _ h1.own.2.1)) 0;rw[Ow]at e2;exact⟨_,_,by simp[go_sem,e1],rfl,mH _ _ _,e2⟩
    obtain⟨rfl,hR⟩:=hR;obtain⟨Ki,sF,e3⟩:=bP.only aW h1.own.2.1 hR.1;have tm3:=hR.2.of_block sF;have mJ:=bP.aH;rw[e3]at mJ |-;clear hR bP aW sF wl aX e3;have Eg:=(cell_of (a:=⟨fb,1,we⟩) (Ki.2 fb h1.apart.1)).trans c1;refine ay ?_;refine jJ mJ h1.own.1 Eg λ_=>?_;refine ay ?_;have Zf:=h1.sm.of_block (Ki.2 mS (λe=>h1.apart.2.2 e.symm));refine dK bS mJ rfl ak ak ?_ rfl (v:=.int .i64 (cN st x)) (λwl aW=>by simp[go_sem,vB wl x (Zf.of_block (aW.heap _ h1.own.2.2))]) λ_=>?_
    ·exact jF (nk h1.own.2.2) bQ
    refine ay ?_;refine dA bS mJ rfl ak ak ?_ rfl (R:=λwl aX=>eM mS wl aX/\nj aX mS (su Dv (gi st x (IntKind.i64.wrap (cN st x+1))))) (λwl aW=>?_) λwl aX w4 aW hR bP=>?_
    ·intro y hy;simp[Op.operands]at hy;rcases hy with rfl|rfl|rfl
     ·simp[Act.eval];exact nk h1.own.2.2
     ·simp[Act.eval];exact bQ
     ·simp[Act.eval];exact dV
    ·obtain⟨X,e1,e2⟩:=oQ (P:=ax) (x:=x) underlying162 underlying9 (Zf.of_block (aW.heap _ h1.own.2.2)) (Dv (IntKind.i64.wrap (cN st x+1)));rw[vA]at e2;unfold Dv at e1;exact⟨_,by simp[go_sem,e1],mH _ _ _,e2⟩
    obtain⟨vC,yO,e4⟩:=bP.only aW h1.own.2.2 hR.1;have sm4:=hR.2.of_block yO;have rn:=bP.aH;rw[e4]at rn |-;clear hR bP aW yO wl aX e4;refine ay ?_;have W4:=(W1.trans (bC.dM mJ Ki (.inl rfl))).trans (bC.dM rn vC (.inr rfl));refine⟨.inr trivial,trivial,_,resultsC_tmp (t:=4) ak _,W4,.inr (.inr ⟨aK,hn,ar,?_⟩)⟩;exact⟨(vC.2 fb h1.apart.2.1).trans ((Ki.2 fb h1.apart.1).trans h1.blk),tm3.of_block (vC.2 mT h1.apart.2.2),sm4,h1.own,h1.apart⟩
end
structure mK where
 B:uO
 kb:Nat
 fb:Nat
 mT:Nat
 mS:Nat
structure fO where
 fd:Option (Nat×cT)
 old:Nat->Option (Nat×List V)
 th:List (af×af)
 st:List (af×Int)
 qv:Value
 qn:List af
 lost:Bool
 time:Nat
 phase:Nat
 since:Nat
 sv:Value
 src:List af
 rv:Value
 rd:List (V×Int)
 ck:Nat
 pb:Nat
 num:Int
 lv:Value
 res:List (af×V)
 kD:Value
 gD:List af
def sw(K:mK)(s:fO)(lk:Int):Nat->Value
 |0=>.int .i32 lk
 |1=>.int .u32 0
 |2=>.pointer (so ⟨K.B.bb,0,we⟩)
 |3=>.pointer (so ⟨K.fb,0,we⟩)
 |4=>s.qv
 |5=>.bool s.lost
 |6=>.int .i64 s.time
 |7=>.int .i64 s.phase
 |8=>.int .i64 s.since
 |9=>s.sv
 |10=>s.rv
 |11=>.int .i64 s.ck
 |_=>.pointer (so ⟨s.pb,0,we⟩)
def nn{j:Nat}(h:j<13):j=0\/j=1\/j=2\/j=3\/j=4\/j=5\/j=6\/j=7\/j=8\/j=9\/j=10\/j=11\/j=12:=aa
structure R3(o:aM)(w:ae)(v:Value)(ts:List af):Prop where
 row:∃p b c,v=.slice p ts.length c/\(p=we->ts=[])/\(ts≠[]->p=so ⟨b,0,we⟩/\o b)/\eN w b 0 ts
 cl:Cl ax L0 o v
 gF:ts.length<=1000
def fe(ss:List (V×Int)):List Value:=(ss.map λs=>[Value.bool s.1.1,.string s.1.2,.int .i64 s.2]).flatten
structure K8(o:aM)(w:ae)(v:Value)(ss:List (V×Int)):Prop where
 row:∃lo,lo<=w.heap.size/\w.ownsRow lo 194 3 v ss.length (fe ss)
 cl:Cl ax L0 o v
 gF:ss.length<=1000
def oT(w:ae)(b:Nat)(rs:List (af×V)):Prop:=∀i (h:i<rs.length),w.cell? ⟨b,i*3,we⟩=so (.string rs[i].1)/\w.cell? ⟨b,i*3+1,we⟩=so (.string rs[i].2.2)/\w.cell? ⟨b,i*3+2,we⟩=so (.bool (!rs[i].2.1))
structure Dw(o:aM)(w:ae)(s:fO):Prop where
 blk:w.heap[s.pb]?=so (.cells #[.int .i64 s.num,s.lv,s.kD] 59)
 own:o s.pb
 res:∃p b c,s.lv=.slice p s.res.length c/\(p=we->s.res=[])/\(s.res≠[]->p=so ⟨b,0,we⟩/\o b)/\oT w b s.res
 cl:Cl ax L0 o s.lv
 gF:s.res.length<=1000
 gD:R3 o w s.kD s.gD
section
variable {Fin:bL}{o o':aM}{w w':ae}
def R3.keep{v:Value}{ts:List af}(h:R3 o w v ts)(nZ:∀b,o b->o' b)(e:∀g,v.ownBlock=so g->w'.heap[g]?=w.heap[g]?):R3 o' w' v ts:=by
 obtain⟨p,b,c,h1,h2,h3,h4⟩:=h.row;refine⟨⟨p,b,c,h1,h2,λhn=>⟨(h3 hn).1,nZ _ (h3 hn).2⟩,λk hk=>?_⟩,h.cl.up nZ,h.gF⟩;have hn:ts≠[]:=λq=>by rw[q]at hk;simp at hk
 exact cD h4 (e b (by rw[h1,(h3 hn).1];rfl)) k hk
def K8.keep{v:Value}{ss:List (V×Int)}(h:K8 o w v ss)(nZ:∀b,o b->o' b)(hz:w.heap.size<=w'.heap.size)(e:∀g,v.ownBlock=so g->w'.heap[g]?=w.heap[g]?):K8 o' w' v ss:=by
 obtain⟨lo,zb,cp⟩:=h.row;exact⟨⟨lo,aa,dC cp λg hg _=>e g hg.symm⟩,h.cl.up nZ,h.gF⟩
def yP(s:fO)(b:Nat):Prop:=b=s.pb\/s.lv.ownBlock=so b\/s.kD.ownBlock=so b
def Dw.keep{s:fO}(h:Dw o w s)(nZ:∀b,o b->o' b)(e:∀b,yP s b->w'.heap[b]?=w.heap[b]?):Dw o' w' s:=by
 obtain⟨p,b,c,h1,h2,h3,h4⟩:=h.res;refine⟨(e _ (.inl rfl)).trans h.blk,nZ _ h.own,⟨p,b,c,h1,h2,λhn=>⟨(h3 hn).1,nZ _ (h3 hn).2⟩,λk hk=>?_⟩,h.cl.up nZ,h.gF,h.gD.keep nZ λg hg=>e g (.inr (.inr hg))⟩;have hn:s.res≠[]:=λq=>by rw[q]at hk;simp at hk
 have eb:=e b (.inr (.inl (by rw[h1,(h3 hn).1];rfl)));exact⟨(cell_of eb).trans (h4 k hk).1,(cell_of eb).trans (h4 k hk).2.1,(cell_of eb).trans (h4 k hk).2.2⟩
def MR(b:Nat):Nat:=if b=1 then 8 else 1
structure bp(o:aM)(w:ae)(K:mK)(s:fO)(lk:Int)(lab:Nat->Nat):Prop where
 aH:bO ax L0 o w
 row:w.rowIs K.kb 120 13 (sw K s lk)
 own:o K.kb
 build:fL o w K.B s.fd s.old
 files:iq o w K.fb K.mT K.mS s.th s.st
 queue:QR o w s.qv s.qn
 cZ:R3 o w s.sv s.src
 reads:K8 o w s.rv s.rd
 set:Dw o w s
 l0:lab K.kb=0
 l1:∀b,nE K.B s.fd s.old b->lab b=MR b
 l2:∀b,b=K.fb\/b=K.mT\/b=K.mS->lab b=2
 l3:∀b,s.qv.ownBlock=so b->lab b=3
 l4:∀b,s.sv.ownBlock=so b->lab b=4
 l5:∀b,s.rv.ownBlock=so b->lab b=5
 l6:∀b,yP s b->lab b=6
 gF:s.qn.length<=4/\s.th.length<=12/\s.time<=100000/\s.since<=s.time/\s.ck<=s.src.length/\s.rd.length<=s.src.length
def iC{v:Value}(hF:bO ax L0 o w)(h:Cl ax L0 o v):∀b,v.ownBlock=so b->o b:=λb hb=>aN λhg=>by
 cases v<;>first|(cases hb;done)|skip
 rename_i p l c;cases p with
 |none=>cases hb
 |some a =>
  have e:a.block=b:=aT hb;subst e;obtain⟨f,hf,dE⟩:=Ke hF hg;have:=h f hf;simp only[val,aJ,addr,Value.slice.injEq,aA]at this;exact dE (congrArg Addr.block this.1)
def bp.all{K:mK}{s:fO}{lk:Int}{lab:Nat->Nat}(h:bp o w K s lk lab):(∀b,s.qv.ownBlock=so b->o b)/\(∀b,s.sv.ownBlock=so b->o b)/\(∀b,s.rv.ownBlock=so b->o b)/\∀b,yP s b->o b:=by
 refine⟨iC h.aH h.queue.cl,iC h.aH h.cZ.cl,iC h.aH h.reads.cl,λb hb=>?_⟩;rcases hb with rfl|hb|hb
 ·exact h.set.own
 ·exact iC h.aH h.set.cl b hb
 ·exact iC h.aH h.set.gD.cl b hb
structure abd(o:aM)(w:ae)(K:mK)(s:fO):Prop where
 build:fL o w K.B s.fd s.old
 files:iq o w K.fb K.mT K.mS s.th s.st
 queue:QR o w s.qv s.qn
 cZ:R3 o w s.sv s.src
 reads:K8 o w s.rv s.rd
 set:Dw o w s
def bp.other{K:mK}{s:fO}{lk:Int}{lab:Nat->Nat}(h:bp o w K s lk lab){ex:Nat->Prop}(hW:bC ex o w o' w')(hx:∀b,ex b->lab b=0):abd o' w' K s:=by
 have ne:∀b n,lab b=n->n≠0->¬ex b:=λb n hb hn he=>hn (by rw[<- hb];exact hx b he);obtain⟨a1,a2,a3,a4⟩:=h.all;have sm:∀b n,o b->lab b=n->n≠0->w'.heap[b]?=w.heap[b]?:=λb n hb hl hn=>hW.same b (h.aH.lt hb) (ne b n hl hn);refine⟨h.build.keep hW.more hW.size λb hb=>sm b (MR b) (h.build.own b hb) (h.l1 b hb) (by unfold MR;split<;>omega),h.files.keep hW.more λb hb=>sm b 2 ?_ (h.l2 b hb) aa,h.queue.keep hW.more hW.size λg hg=>sm g 3 (a1 g hg) (h.l3 g hg) aa,h.cZ.keep hW.more λg hg=>sm g 4 (a2 g hg) (h.l4 g hg) aa,h.reads.keep hW.more hW.size λg hg=>sm g 5 (a3 g hg) (h.l5 g hg) aa,h.set.keep hW.more λb hb=>sm b 6 (a4 b hb) (h.l6 b hb) aa⟩;rcases hb with rfl|rfl|rfl
 ·exact h.files.own.1
 ·exact h.files.own.2.1
 ·exact h.files.own.2.2
def bp.put{K:mK}{s s':fO}{lk lk':Int}{lab:Nat->Nat}(h:bp o w K s lk lab)(hF:bO ax L0 o w')(hO:eM K.kb w w')(hr:w'.rowIs K.kb 120 13 (sw K s' lk'))(he:(s'.fd,s'.old,s'.th,s'.st,s'.qv,s'.qn)=(s.fd,s.old,s.th,s.st,s.qv,s.qn))(he2:(s'.sv,s'.src,s'.rv,s'.rd,s'.pb,s'.num,s'.lv,s'.res,s'.kD,s'.gD)=(s.sv,s.src,s.rv,s.rd,s.pb,s.num,s.lv,s.res,s.kD,s.gD))(vU:s'.time<=100000/\s'.since<=s'.time/\s'.ck<=s.src.length):bp o w' K s' lk' lab:=by
 have hW:bC (·=K.kb) o w o w':=bC.dM hF hO rfl;obtain⟨q1,q2,q3,q4,q5,q6⟩:=h.other hW (λb hb=>by rw[hb];exact h.l0);simp only[bB]at he he2;obtain⟨e1,e2,e3,e4,e5,e6⟩:=he;obtain⟨f1,f2,f3,f4,f5,f6,f7,f8,f9,f10⟩:=he2;refine⟨hF,hr,h.own,by rw[e1,e2];exact q1,by rw[e3,e4];exact q2,by rw[e5,e6];exact q3,by rw[f1,f2];exact q4,by rw[f3,f4];exact q5,⟨by rw[f5,f6,f7,f9];exact q6.blk,by rw[f5];exact q6.own,by rw[f7,f8];exact q6.res,by rw[f7];exact q6.cl,by rw[f8];exact q6.gF,by rw[f9,f10];exact q6.gD⟩,h.l0,by rw[e1,e2];exact h.l1,h.l2,by rw[e5];exact h.l3,by rw[f1];exact h.l4,by rw[f3];exact h.l5,λb hb=>h.l6 b (by unfold yP at hb |-;rw[f5,f7,f9]at hb;exact hb),by rw[e6,e3,f2,f4];exact⟨h.gF.1,h.gF.2.1,vU.1,vU.2.1,vU.2.2,h.gF.2.2.2.2.2⟩⟩
def bp.lock{K:mK}{s:fO}{lk lk':Int}{lab:Nat->Nat}(h:bp o w K s lk lab):bp o (w.setCell ⟨K.kb,0,we⟩ (.int .i32 lk')) K s lk' lab:=by
 refine h.put (Go.Conc.bO.setCell h.aH dV) (iX _ _ _ _) ((h.row.set 0 _).congr λj hj=>?_) rfl rfl ⟨h.gF.2.2.1,h.gF.2.2.2.1,h.gF.2.2.2.2.1⟩;rcases nn hj with rfl|rfl|rfl|rfl|rfl|rfl|rfl|rfl|rfl|rfl|rfl|rfl|rfl<;>rfl
end
section
variable {Fin:bL}{o:aM}{w:ae}{K:mK}{s:fO}{lab:Nat->Nat}
def bp.unlock{f:FuncId}{Post:Value->aM->ae->Prop}(h:bp o w K s 1 lab)(tm:Array Value)(hl:∀w',bp o w' K s 0 lab->w'.heap.size=w.heap.size->(∀b,b≠K.kb->w'.heap[b]?=w.heap[b]?)->jI (XB ax Fin 0) f Post ⟨tm,[]⟩ o w'):
  jI (XB ax Fin 0) f Post ⟨tm,[{target:=.fn (.func 46) #[],args:=#[.pointer (so ⟨K.kb,0,we⟩)]}]⟩ o w :=
 wF K.kb 0 h.own (by rw[h.row.cell aa];rfl) (h.row.frozen 0) _ _ (hl _ h.lock (iX w K.kb 0 (.int .i32 0)).1 (iX w K.kb 0 (.int .i32 0)).2)
def rN(time:Nat)(n:Int):Prop:=1<=n/\n<=100/\(time:Int)+n<=100000
def MS(h:bp o w K s 0 lab)(n:Int):
  bA ax (XB ax Fin 0) 37 #[.pointer (so ⟨K.kb,0,we⟩),.int .i64 n] o w λv o' w'=>o'=o/\w'.heap.size=w.heap.size/\(∀b,b≠K.kb->w'.heap[b]?=w.heap[b]?)/\((v=.int .i64 8/\¬rN s.time n/\bp o' w' K s 0 lab)\/(v=.int .i64 0/\rN s.time n/\bp o' w' K {s with time:=s.time+n.toNat} 0 lab)):=by
 have W:=bY (P:=ax) (Fin:=Fin) (d:=0);refine oH W func37 ak ?_;walk_nrmf Tryz.f37;refine ay ?_;refine b5 func45 (C7 K.kb 0 h.own (by rw[h.row.cell aa];rfl) (h.row.frozen 0)) ?_;rintro v0 o0 w0 ⟨rfl,rfl,rfl⟩;have h1:=h.lock (lk':=1);have on1:=iX w K.kb 0 (.int .i32 1);generalize w.setCell ⟨K.kb,0,we⟩ (.int .i32 1)=w1 at h1 on1 |-;refine ay ?_;refine mq W (d:={target:=.fn (.func 46) #[],args:=#[.pointer (so ⟨K.kb,0,we⟩)]}) rfl ak (λw1=>fS) (λw1=>fS) rfl ?_;walk_nrm;have aml:=h.gF.2.2.1;have c6:w1.cell? ⟨K.kb,6,we⟩=so (.int .i64 s.time):=by rw[h1.row.cell aa];rfl
 have bad:¬rN s.time n->∀tm,tm.getD 4 undef=.int .i64 8->jI (XB ax Fin 0) 37 (λv o' w'=>o'=o0/\w'.heap.size=w.heap.size/\(∀b,b≠K.kb->w'.heap[b]?=w.heap[b]?)/\((v=.int .i64 8/\¬rN s.time n/\bp o' w' K s 0 lab)\/(v=.int .i64 0/\rN s.time n/\bp o' w' K {s with time:=s.time+n.toNat} 0 lab))) ⟨tm,[{target:=.fn (.func 46) #[],args:=#[.pointer (so ⟨K.kb,0,we⟩)]}]⟩ o0 w1:=λhb tm ht =>
  h1.unlock tm λw' hk hz hs=>mn W func37 rfl (resultsC_tmp (t:=4) ak _) ⟨rfl,hz.trans on1.1,λb hb=>(hs b hb).trans (on1.2 b hb),.inl ⟨ht,hb,hk⟩⟩
 by_cases n1:n<1
 ·refine ay ?_;exact⟨.inr trivial,bad (λq=>by have:=q.1;omega) _ rfl⟩
 by_cases n2:100<n
 ·refine ay ?_;exact⟨.inr trivial,bad (λq=>by have:=q.2.1;omega) _ rfl⟩
 refine ay ?_;refine jJ h1.aH h.own c6 λ_=>?_;walk_nrm;have zy:IntKind.i64.wrap ((s.time:Int)+n)=(s.time:Int)+n:=by rw[IntKind.wrap_i64]<;>omega
 by_cases n3:100000<(s.time:Int)+n
 ·refine ay ?_;exact⟨.inr trivial,bad (λq=>by have:=q.2.2;omega) _ rfl⟩
 refine ay ?_;refine jJ h1.aH h.own c6 λ_=>?_;refine ay ?_;refine dA bS h1.aH rfl ak ak ?_ rfl (R:=λwl aX=>aX=wl.setCell ⟨K.kb,6,we⟩ (.int .i64 ((s.time:Int)+n))) (λwl aW=>⟨_,?_,rfl⟩) λwl aX w9 aW hR bP=>?_
 ·exact jF (bX h.own) dV
 ·have rl:=World.rowIs.of_block h1.row (aW.heap _ h.own);have e1:=(aW.cell h.own).trans c6;have f:=rl.frozen;simp[go_sem,e1,f,zy]
 have hO:eM K.kb wl aX:=by rw[hR];exact iX _ _ _ _
 obtain⟨lR,oh,e9⟩:=bP.only aW h.own hO;have nT:=bP.aH;rw[e9]at nT |-;rw[hR]at oh;have hn:(s.time:Int)+n=((s.time+n.toNat:Nat):Int):=aa;have h9:bp o0 w9 K {s with time:=s.time+n.toNat} 1 lab:=by
  refine h1.put nT lR (World.rowIs.of_block (((World.rowIs.of_block h1.row (aW.heap _ h.own)).set 6 _).congr λj hj=>?_) oh) rfl rfl ⟨eP,by have:=h.gF.2.2.2.1;simp;omega,h.gF.2.2.2.2.1⟩;rcases nn hj with rfl|rfl|rfl|rfl|rfl|rfl|rfl|rfl|rfl|rfl|rfl|rfl|rfl<;>simp[sw,hn]
 clear hR bP aW hO oh wl aX e9;refine ay ?_;refine⟨.inr trivial,h9.unlock _ λw' hk hz hs=>mn W func37 rfl (resultsC_tmp (t:=4) ak _) ⟨rfl,hz.trans (lR.1.trans on1.1),λb hb=>(hs b hb).trans ((lR.2 b hb).trans (on1.2 b hb)),.inr ⟨aK,⟨aa,aa,aa⟩,hk⟩⟩⟩
end
section
variable {Fin:bL}{o o':aM}{w w':ae}{K:mK}{s:fO}{lk:Int}{lab:Nat->Nat}
structure cU(o:aM)(w:ae)(lab:Nat->Nat)(o':aM)(w':ae)(lab':Nat->Nat):Prop where
 br:bC (λb=>lab b<=6) o w o' w'
 lab:∀b,b<w.heap.size->lab' b=lab b
def cU.trans{o2:aM}{w2:ae}{lab' iH:Nat->Nat}(h:cU o w lab o' w' lab')(k:cU o' w' lab' o2 w2 iH):cU o w lab o2 w2 iH:=by
 have hz:=h.br.size;refine⟨⟨k.br.aH,λb hb=>k.br.more b (h.br.more b hb),λb hb=>(k.br.new b hb).elim (λq=>h.br.new b q) λq=>.inr aa,by have:=k.br.size;omega,λb hb hx=>?_⟩,λb hb=>(k.lab b aa).trans (h.lab b hb)⟩;rw[k.br.same b aa (by rw[h.lab b hb];exact hx),h.br.same b hb hx]
def cU.of{ex:Nat->Prop}(h:bC ex o w o' w')(hx:∀b,ex b->lab b<=6):cU o w lab o' w' lab:=⟨h.mono hx,λ_ _=>rfl⟩
structure abe(o':aM)(w':ae)(K:mK)(s:fO)(lk:Int)(l m:Nat):Prop where
 row:l≠0->m≠0->w'.rowIs K.kb 120 13 (sw K s lk)
 build:l≠1->m≠1->fL o' w' K.B s.fd s.old
 files:l≠2->m≠2->iq o' w' K.fb K.mT K.mS s.th s.st
 queue:l≠3->m≠3->QR o' w' s.qv s.qn
 cZ:l≠4->m≠4->R3 o' w' s.sv s.src
 reads:l≠5->m≠5->K8 o' w' s.rv s.rd
 set:l≠6->m≠6->Dw o' w' s
def bp.parts(h:bp o w K s lk lab){ex:Nat->Prop}(hW:bC ex o w o' w')(l m:Nat)(hx:∀b,ex b->lab b=l\/lab b=m)(qG:l<=7:=by omega)(hm7:m<=7:=by omega):abe o' w' K s lk l m:=by
 obtain⟨a1,a2,a3,a4⟩:=h.all;have sm:∀b n,o b->lab b=n->l≠n->m≠n->w'.heap[b]?=w.heap[b]?:=λb n hb hl h1 h2=>hW.same b (h.aH.lt hb) λhe=>(hx b he).elim (λe=>h1 (by rw[<- e,hl])) λe=>h2 (by rw[<- e,hl]);refine⟨λh1 h2=>World.rowIs.of_block h.row (sm _ 0 h.own h.l0 h1 h2),λh1 h2=>h.build.keep hW.more hW.size λb hb=>sm b (MR b) (h.build.own b hb) (h.l1 b hb) (by unfold MR;split<;>omega) (by unfold MR;split<;>omega),λh1 h2=>h.files.keep hW.more λb hb=>sm b 2 ?_ (h.l2 b hb) h1 h2,λh1 h2=>h.queue.keep hW.more hW.size λg hg=>sm g 3 (a1 g hg) (h.l3 g hg) h1 h2,λh1 h2=>h.cZ.keep hW.more λg hg=>sm g 4 (a2 g hg) (h.l4 g hg) h1 h2,λh1 h2=>h.reads.keep hW.more hW.size λg hg=>sm g 5 (a3 g hg) (h.l5 g hg) h1 h2,λh1 h2=>h.set.keep hW.more λb hb=>sm b 6 (a4 b hb) (h.l6 b hb) h1 h2⟩;rcases hb with rfl|rfl|rfl
 ·exact h.files.own.1
 ·exact h.files.own.2.1
 ·exact h.files.own.2.2
def Oy{α:Type}(x:af)(v:α):∀l:List (af×α),(gi l x v).length=if eR l x=we then l.length+1 else l.length
 | []=>by simp[gi,eR]
 | (k,u)::l=>by
  have:=Oy x v l;by_cases h:x=k
  ·simp[gi,eR,h]
  ·simp only[gi,eR,if_neg h,List.length_cons,this];split<;>rfl
def Oz{α:Type}(x:af):∀l:List (af×α),(lZ l x).length<=l.length
 | []=>by simp[lZ]
 | (k,u)::l=>by
  have:=Oz x l;by_cases h:x=k
  ·simp[lZ,h]
  ·simp only[lZ,if_neg h,List.length_cons];omega
def bp.OA(h:bp o w K s lk lab)(hW:bC (λb=>b=K.mT\/b=K.mS) o w o' w'){th:List (af×af)}{st:List (af×Int)}(hf:iq o' w' K.fb K.mT K.mS th st)(hl:th.length<=12):bp o' w' K {s with th:=th,st:=st} lk lab/\cU o w lab o' w' lab:=by
 have hx:∀b,b=K.mT\/b=K.mS->lab b=2:=λb hb=>h.l2 b (.inr hb);have P:=h.parts hW 2 2 λb hb=>.inl (hx b hb);obtain⟨f1,f2,f3⟩:=h.gF;exact⟨⟨hW.aH,P.row aa aa,hW.more _ h.own,P.build aa aa,hf,P.queue aa aa,P.cZ aa aa,P.reads aa aa,⟨(P.set aa aa).blk,(P.set aa aa).own,(P.set aa aa).res,(P.set aa aa).cl,(P.set aa aa).gF,(P.set aa aa).gD⟩,h.l0,h.l1,h.l2,h.l3,h.l4,h.l5,h.l6,f1,hl,f3⟩,.of hW λb hb=>by rw[hx b hb];omega⟩
def Uv(ts:List af)(lost:Bool)(x:af)(h:ts.length<=4):(iw ts lost x).1.length<=4:=by
 unfold iw;split
 ·exact h
 ·split
  ·exact h
  ·simp;omega
def bp.Uw(h:bp o w K s lk lab)(x:af){rM:Value}(hW:bC (λb=>b=K.kb\/s.qv.ownBlock=so b) o w o' w')(hq:QR o' w' rM (iw s.qn s.lost x).1)(hb:∀b,rM.ownBlock=so b->b≠K.kb/\(s.qv.ownBlock=so b\/w.heap.size<=b))(hr:w'.rowIs K.kb 120 13 (λj=>if j=4+1 then .bool (iw s.qn s.lost x).2 else if j=4 then rM else sw K s lk j)):
  ∃lab',bp o' w' K {s with qv:=rM,qn:=(iw s.qn s.lost x).1,lost:=(iw s.qn s.lost x).2} lk lab'/\cU o w lab o' w' lab':=by
 have hx:∀b,b=K.kb\/s.qv.ownBlock=so b->lab b=0\/lab b=3:=λb hb=>hb.imp (λe=>by rw[e];exact h.l0) λe=>h.l3 b e;have P:=h.parts hW 0 3 hx;obtain⟨a1,a2,a3,a4⟩:=h.all;have lt:∀b,o b->b<w.heap.size:=λb hb=>h.aH.lt hb;have lb:∀b,o b->(if w.heap.size<=b then 3 else lab b)=lab b:=λb hb=>if_neg (by have:=lt b hb;omega);obtain⟨f1,f2,f3⟩:=h.gF;refine⟨λb=>if w.heap.size<=b then 3 else lab b,⟨hW.aH,hr.congr λj hj=>?_,hW.more _ h.own,P.build aa aa,P.files aa aa,hq,P.cZ aa aa,P.reads aa aa,⟨(P.set aa aa).blk,(P.set aa aa).own,(P.set aa aa).res,(P.set aa aa).cl,(P.set aa aa).gF,(P.set aa aa).gD⟩,(lb _ h.own).trans h.l0,λb hb=>(lb b (h.build.own b hb)).trans (h.l1 b hb),λb hb=>(lb b ?_).trans (h.l2 b hb),λb hq=>?_,λb hb=>(lb b (a2 b hb)).trans (h.l4 b hb),λb hb=>(lb b (a3 b hb)).trans (h.l5 b hb),λb hb=>(lb b (a4 b hb)).trans (h.l6 b hb),Uv _ _ _ f1,f2,f3⟩,⟨hW.mono λb hb=>by rcases hx b hb with e|e<;>omega,λb hb=>if_neg aa⟩⟩
 ·rcases nn hj with rfl|rfl|rfl|rfl|rfl|rfl|rfl|rfl|rfl|rfl|rfl|rfl|rfl<;>rfl
 ·rcases hb with rfl|rfl|rfl
  ·exact h.files.own.1
  ·exact h.files.own.2.1
  ·exact h.files.own.2.2
 ·rcases(hb b hq).2 with e|e
  ·exact(lb b (a1 b e)).trans (h.l3 b e)
  ·exact if_pos e
def bp.qne(h:bp o w K s lk lab):s.qv.ownBlock≠so K.kb:=λe=>by
 have:=h.l3 _ e;rw[h.l0]at this;omega
def cU.lock(h:bp o w K s lk lab){lk':Int}:cU o w lab o (w.setCell ⟨K.kb,0,we⟩ (.int .i32 lk')) lab:=.of (bC.dM (ex:=(·=K.kb)) (h.lock (lk':=lk')).aH (iX _ _ _ _) rfl) λb hb=>by rw[hb,h.l0];omega
def MT(h:bp o w K s 0 lab)(x t:af)(hx:x.size<=9223372036854775807):
  bA ax (XB ax Fin 0) 21 #[.pointer (so ⟨K.kb,0,we⟩),.string x,.string t] o w λv o' w'=>∃lab',cU o w lab o' w' lab'/\((∃e,v=.int .i64 e/\e≠0/\¬(isName x/\t.size<=12/\¬(eR s.th x=we/\12<=s.th.length))/\bp o' w' K s 0 lab') \/
   (v=.int .i64 0/\(isName x/\t.size<=12/\¬(eR s.th x=we/\12<=s.th.length))/\∃rM,bp o' w' K {s with th:=gi s.th x t,st:=gi s.st x (IntKind.i64.wrap (cN s.st x+1)),qv:=rM,qn:=(iw s.qn s.lost x).1,lost:=(iw s.qn s.lost x).2} 0 lab')):=by
 have W:=bY (P:=ax) (Fin:=Fin) (d:=0);refine oH W func21 ak ?_;walk_nrmf Tryz.f21;refine ay ?_;refine b5 func45 (C7 K.kb 0 h.own (by rw[h.row.cell aa];rfl) (h.row.frozen 0)) ?_;rintro v0 o0 w0 ⟨rfl,rfl,rfl⟩;have h1:=h.lock (lk':=1);have S1:=cU.lock h (lk':=1);generalize w.setCell ⟨K.kb,0,we⟩ (.int .i32 1)=w1 at h1 S1 |-;refine ay ?_;refine mq W (d:={target:=.fn (.func 46) #[],args:=#[.pointer (so ⟨K.kb,0,we⟩)]}) rfl ak (λw1=>fS) (λw1=>fS) rfl ?_;refine ay ?_;have c3:w1.cell? ⟨K.kb,3,we⟩=so (.pointer (so ⟨K.fb,0,we⟩)):=by rw[h1.row.cell aa];rfl
 refine jJ h1.aH h.own c3 λ_=>?_;refine ay ?_;refine b5 func47 (XI h1.aH h1.files x t hx (by have:=h.gF.2.1;omega)) ?_;rintro v2 o2 w2 ⟨W2,hq⟩;have fail:∀e:Int,e≠0->iq o2 w2 K.fb K.mT K.mS s.th s.st->¬(isName x/\t.size<=12/\¬(eR s.th x=we/\12<=s.th.length))->∀tm,tm.getD 6 undef=.int .i64 e->jI (XB ax Fin 0) 21 (λv o' w'=>∃lab',cU o0 w lab o' w' lab'/\((∃e,v=.int .i64 e/\e≠0/\¬(isName x/\t.size<=12/\¬(eR s.th x=we/\12<=s.th.length))/\bp o' w' K s 0 lab') \/
   (v=.int .i64 0/\(isName x/\t.size<=12/\¬(eR s.th x=we/\12<=s.th.length))/\∃rM,bp o' w' K {s with th:=gi s.th x t,st:=gi s.st x (IntKind.i64.wrap (cN s.st x+1)),qv:=rM,qn:=(iw s.qn s.lost x).1,lost:=(iw s.qn s.lost x).2} 0 lab'))) ⟨tm,[{target:=.fn (.func 46) #[],args:=#[.pointer (so ⟨K.kb,0,we⟩)]}]⟩ o2 w2:=λe he hf abf tm ht=>by
  obtain⟨k2,S2⟩:=h1.OA W2 hf h.gF.2.1;refine k2.unlock tm λw' hk hz hs=>mn W func21 rfl (resultsC_tmp (t:=6) ak _) ⟨lab,(S1.trans S2).trans (.of (bC.dM (ex:=(·=K.kb)) hk.aH ⟨hz,hs⟩ rfl) λb hb=>by rw[hb,h.l0];omega),.inl ⟨e,ht,he,abf,hk⟩⟩
 rcases hq with⟨rfl,q1,hf⟩|⟨rfl,q1,q2,hf⟩|⟨rfl,q1,q2,q3,q4,hf⟩|⟨rfl,q1,q2,q3,hf⟩
 ·walk_nrm;refine ay ?_;exact⟨.inr trivial,fail 2 aa hf (λq=>q1 q.1) _ rfl⟩
 ·walk_nrm;refine ay ?_;exact⟨.inr trivial,fail 6 aa hf (λq=>by have:=q.2.1;omega) _ rfl⟩
 ·walk_nrm;refine ay ?_;exact⟨.inr trivial,fail 1 aa hf (λq=>q.2.2 ⟨q3,q4⟩) _ rfl⟩
 ·obtain⟨k2,S2⟩:=h1.OA W2 hf (by
   rw[Oy];have:=h.gF.2.1;split
   ·rename_i hn;have:¬12<=s.th.length:=λq=>q3 ⟨hn,q⟩;omega
   ·omega)
  refine ay ?_;refine b5 func48 (Y9 k2.aH K.kb 4 120 13 _ s.qv s.qn s.lost x k2.own k2.queue h.qne k2.row aa rfl rfl (by have:=h.gF.1;omega)) ?_;rintro v3 o3 w3 ⟨rfl,W3,rM,Bs,nz,VP⟩;obtain⟨lab',k3,S3⟩:=k2.Uw x W3 Bs nz VP;refine ay ?_;refine⟨.inr trivial,k3.unlock _ λw' hk hz hs=>mn W func21 rfl (resultsC_tmp (t:=6) ak _) ⟨lab',((S1.trans S2).trans S3).trans (.of (bC.dM (ex:=(·=K.kb)) hk.aH ⟨hz,hs⟩ rfl) λb hb=>by rw[hb,k3.l0];omega),.inr ⟨aK,⟨q1,q2,q3⟩,rM,hk⟩⟩⟩
def Kj(h:bp o w K s 0 lab)(x:af)(hx:x.size<=9223372036854775807):
  bA ax (XB ax Fin 0) 36 #[.pointer (so ⟨K.kb,0,we⟩),.string x] o w λv o' w'=>∃lab',cU o w lab o' w' lab'/\((∃e,v=.int .i64 e/\e≠0/\(¬(isName x/\eR s.th x≠we)/\(isName x->e=7))/\bp o' w' K s 0 lab') \/
   (v=.int .i64 0/\(isName x/\eR s.th x≠we)/\∃rM,bp o' w' K {s with th:=lZ s.th x,st:=gi s.st x (IntKind.i64.wrap (cN s.st x+1)),qv:=rM,qn:=(iw s.qn s.lost x).1,lost:=(iw s.qn s.lost x).2} 0 lab')):=by
 have W:=bY (P:=ax) (Fin:=Fin) (d:=0);refine oH W func36 ak ?_;walk_nrmf Tryz.f36;refine ay ?_;refine b5 func45 (C7 K.kb 0 h.own (by rw[h.row.cell aa];rfl) (h.row.frozen 0)) ?_;rintro v0 o0 w0 ⟨rfl,rfl,rfl⟩;have h1:=h.lock (lk':=1);have S1:=cU.lock h (lk':=1);generalize w.setCell ⟨K.kb,0,we⟩ (.int .i32 1)=w1 at h1 S1 |-;refine ay ?_;refine mq W (d:={target:=.fn (.func 46) #[],args:=#[.pointer (so ⟨K.kb,0,we⟩)]}) rfl ak (λw1=>fS) (λw1=>fS) rfl ?_;refine ay ?_;have c3:w1.cell? ⟨K.kb,3,we⟩=so (.pointer (so ⟨K.fb,0,we⟩)):=by rw[h1.row.cell aa];rfl
 refine jJ h1.aH h.own c3 λ_=>?_;refine ay ?_;refine b5 func62 (QT h1.aH h1.files x hx (by have:=h.gF.2.1;omega)) ?_;rintro v2 o2 w2 ⟨W2,hq⟩;have fail:∀e:Int,e≠0->iq o2 w2 K.fb K.mT K.mS s.th s.st->(¬(isName x/\eR s.th x≠we)/\(isName x->e=7))->∀tm,tm.getD 4 undef=.int .i64 e->jI (XB ax Fin 0) 36 (λv o' w'=>∃lab',cU o0 w lab o' w' lab'/\((∃e,v=.int .i64 e/\e≠0/\(¬(isName x/\eR s.th x≠we)/\(isName x->e=7))/\bp o' w' K s 0 lab') \/
   (v=.int .i64 0/\(isName x/\eR s.th x≠we)/\∃rM,bp o' w' K {s with th:=lZ s.th x,st:=gi s.st x (IntKind.i64.wrap (cN s.st x+1)),qv:=rM,qn:=(iw s.qn s.lost x).1,lost:=(iw s.qn s.lost x).2} 0 lab'))) ⟨tm,[{target:=.fn (.func 46) #[],args:=#[.pointer (so ⟨K.kb,0,we⟩)]}]⟩ o2 w2:=λe he hf abf tm ht=>by
  obtain⟨k2,S2⟩:=h1.OA W2 hf h.gF.2.1;refine k2.unlock tm λw' hk hz hs=>mn W func36 rfl (resultsC_tmp (t:=4) ak _) ⟨lab,(S1.trans S2).trans (.of (bC.dM (ex:=(·=K.kb)) hk.aH ⟨hz,hs⟩ rfl) λb hb=>by rw[hb,h.l0];omega),.inl ⟨e,ht,he,abf,hk⟩⟩
 rcases hq with⟨rfl,q1,hf⟩|⟨rfl,q1,q2,hf⟩|⟨rfl,q1,q2,hf⟩
 ·walk_nrm;refine ay ?_;exact⟨.inr trivial,fail 2 aa hf ⟨λq=>q1 q.1,λq=>absurd q q1⟩ _ rfl⟩
 ·walk_nrm;refine ay ?_;exact⟨.inr trivial,fail 7 aa hf ⟨λq=>q.2 q2,λ_=>rfl⟩ _ rfl⟩
 ·obtain⟨k2,S2⟩:=h1.OA W2 hf (by have:=Oz x s.th;have:=h.gF.2.1;omega);refine ay ?_;refine b5 func48 (Y9 k2.aH K.kb 4 120 13 _ s.qv s.qn s.lost x k2.own k2.queue h.qne k2.row aa rfl rfl (by have:=h.gF.1;omega)) ?_;rintro v3 o3 w3 ⟨rfl,W3,rM,Bs,nz,VP⟩;obtain⟨lab',k3,S3⟩:=k2.Uw x W3 Bs nz VP;refine ay ?_;refine⟨.inr trivial,k3.unlock _ λw' hk hz hs=>mn W func36 rfl (resultsC_tmp (t:=4) ak _) ⟨lab',((S1.trans S2).trans S3).trans (.of (bC.dM (ex:=(·=K.kb)) hk.aH ⟨hz,hs⟩ rfl) λb hb=>by rw[hb,k3.l0];omega),.inr ⟨aK,⟨q1,q2⟩,rM,hk⟩⟩⟩
def XJ:R3 o w (.slice we 0 0) []:=⟨⟨we,0,0,rfl,λ_=>rfl,λh=>absurd rfl h,λk hk=>by simp at hk⟩,iP,ar⟩
def OB:K8 o w (.slice we 0 0) []:=⟨⟨0,aV _,by simp[fe],.inl ⟨rfl,rfl⟩⟩,iP,ar⟩
def fO.stand(s:fO)(phase since:Nat):fO:={s with phase:=phase,since:=since,sv:=.slice we 0 0,src:=[],rv:=.slice we 0 0,rd:=[],ck:=0}
def bp.Kk(h:bp o w K s lk lab){phase since:Nat}(hF:bO ax L0 o w')(hO:eM K.kb w w')(hr:w'.rowIs K.kb 120 13 (sw K (s.stand phase since) lk))(hs:since<=s.time):bp o w' K (s.stand phase since) lk lab:=by
 have hW:bC (·=K.kb) o w o w':=bC.dM hF hO rfl;have P:=h.parts hW 0 0 λb hb=>.inl (by rw[hb];exact h.l0);have q6:=P.set aa aa;obtain⟨f1,f2,f3,-⟩:=h.gF;exact⟨hF,hr,h.own,P.build aa aa,P.files aa aa,P.queue aa aa,XJ,OB,⟨q6.blk,q6.own,q6.res,q6.cl,q6.gF,q6.gD⟩,h.l0,h.l1,h.l2,h.l3,(λb hb=>by cases hb),(λb hb=>by cases hb),h.l6,f1,f2,f3,hs,aV _,aV _⟩
def FP(h:w.rowIs K.kb 120 13 (sw K s lk))(phase since:Nat):(((((w.setCell ⟨K.kb,7,we⟩ (.int .i64 phase)).setCell ⟨K.kb,8,we⟩ (.int .i64 since)).setCell ⟨K.kb,9,we⟩ (.slice we 0 0)).setCell ⟨K.kb,10,we⟩ (.slice we 0 0)).setCell ⟨K.kb,11,we⟩ (.int .i64 0)).rowIs K.kb 120 13 (sw K (s.stand phase since) lk):=by
 refine(((((h.set 7 _).set 8 _).set 9 _).set 10 _).set 11 _).congr λj hj=>?_;rcases nn hj with rfl|rfl|rfl|rfl|rfl|rfl|rfl|rfl|rfl|rfl|rfl|rfl|rfl<;>rfl
def Ux(w:ae)(b i1 i2 i3 i4 i5:Nat)(x1 x2 x3 x4 x5:Value):eM b w (((((w.setCell ⟨b,i1,we⟩ x1).setCell ⟨b,i2,we⟩ x2).setCell ⟨b,i3,we⟩ x3).setCell ⟨b,i4,we⟩ x4).setCell ⟨b,i5,we⟩ x5):=((wC w b i1 i2 i3 x1 x2 x3).at i4 x4).at i5 x5
def sCl{phase since:Nat}:Cl ax L0 o (.agg #[.int .i64 phase,.int .i64 since,.slice we 0 0,.slice we 0 0,.int .i64 0]):=fW (vs:=[_,_,_,_,_]) (λx hx=>by
 simp at hx;rcases hx with rfl|rfl|rfl|rfl
 ·exact dV
 ·exact dV
 ·exact iP
 ·exact dV)
def Uy(h:bp o w K s lk lab):
  bA ax (XB ax Fin 0) 102 #[.pointer (so ⟨K.kb,0,we⟩)] o w λv o' w'=>v=.tuple #[]/\cU o w lab o' w' lab/\bp o' w' K (s.stand 1 s.time) lk lab:=by
 have W:=bY (P:=ax) (Fin:=Fin) (d:=0);refine bD W func102 ak ?_;walk_nrmf Tryz.f102;have c6:w.cell? ⟨K.kb,6,we⟩=so (.int .i64 s.time):=by rw[h.row.cell aa];rfl
 refine ay ?_;refine jJ h.aH h.own c6 λ_=>?_;refine ay ?_;refine dA bS h.aH rfl ak ak ?_ rfl (R:=λwl aX=>aX=((((wl.setCell ⟨K.kb,7,we⟩ (.int .i64 (1:Nat))).setCell ⟨K.kb,8,we⟩ (.int .i64 s.time)).setCell ⟨K.kb,9,we⟩ (.slice we 0 0)).setCell ⟨K.kb,10,we⟩ (.slice we 0 0)).setCell ⟨K.kb,11,we⟩ (.int .i64 0)) (λwl aW=>⟨_,?_,rfl⟩) λwl aX w9 aW hR bP=>?_
 ·refine jF ?_ ?_
  ·exact bX h.own
  ·exact sCl (phase:=1)
 ·have rl:=World.rowIs.of_block h.row (aW.heap _ h.own);have e7:=rl.cell (i:=7) aa;have e8:=rl.cell (i:=8) aa;have e9:=rl.cell (i:=9) aa;have KU:=rl.cell (i:=10) aa;have Pp:=rl.cell (i:=11) aa;have f:=rl.frozen;simp[go_sem,e7,e8,e9,KU,Pp,f]
 have hO:eM K.kb wl aX:=by rw[hR];exact Ux _ _ _ _ _ _ _ _ _ _ _ _
 obtain⟨lR,oh,e9⟩:=bP.only aW h.own hO;have nT:=bP.aH;rw[e9]at nT |-;rw[hR]at oh;have h9:=h.Kk nT lR (World.rowIs.of_block (FP (World.rowIs.of_block h.row (aW.heap _ h.own)) 1 s.time) oh) (ah _);clear hR bP aW hO oh wl aX e9;refine ay ?_;exact⟨.inl trivial,trivial,.tuple #[],λw1=>results_none ai _ _,ar,.of (bC.dM (ex:=(·=K.kb)) nT lR rfl) λb hb=>by rw[hb,h.l0];omega,h9⟩
def bp.yQ(h:bp o w K s lk lab)(hW:bC (λ_=>False) o w o' w'):bp o' w' K s lk lab/\cU o w lab o' w' lab:=by
 have P:=h.parts hW 7 7 λb hb=>hb.elim;exact⟨⟨hW.aH,P.row aa aa,hW.more _ h.own,P.build aa aa,P.files aa aa,P.queue aa aa,P.cZ aa aa,P.reads aa aa,P.set aa aa,h.l0,h.l1,h.l2,h.l3,h.l4,h.l5,h.l6,h.gF⟩,.of hW λb hb=>hb.elim⟩
def bp.aside(h:bp o w K s lk lab){ex:Nat->Prop}(hW:bC ex o w o' w')(hx:∀b,ex b->lab b=7):bp o' w' K s lk lab:=by
 have P:=h.parts hW 7 7 λb hb=>.inl (hx b hb);exact⟨hW.aH,P.row aa aa,hW.more _ h.own,P.build aa aa,P.files aa aa,P.queue aa aa,P.cZ aa aa,P.reads aa aa,P.set aa aa,h.l0,h.l1,h.l2,h.l3,h.l4,h.l5,h.l6,h.gF⟩
def bp.OC(h:bp o w K s lk lab){lab':Nat->Nat}(hl:∀b,o b->lab' b=lab b):bp o w K s lk lab':=by
 obtain⟨a1,a2,a3,a4⟩:=h.all;refine⟨h.aH,h.row,h.own,h.build,h.files,h.queue,h.cZ,h.reads,h.set,(hl _ h.own).trans h.l0,λb hb=>(hl b (h.build.own b hb)).trans (h.l1 b hb),λb hb=>(hl b ?_).trans (h.l2 b hb),λb hb=>(hl b (a1 b hb)).trans (h.l3 b hb),λb hb=>(hl b (a2 b hb)).trans (h.l4 b hb),λb hb=>(hl b (a3 b hb)).trans (h.l5 b hb),λb hb=>(hl b (a4 b hb)).trans (h.l6 b hb),h.gF⟩;rcases hb with rfl|rfl|rfl
 ·exact h.files.own.1
 ·exact h.files.own.2.1
 ·exact h.files.own.2.2
def bp.built(h:bp o w K s lk lab)(hW:bC (·=K.B.Rb) o w o' w'){gK:Nat->Option (Nat×List V)}(hB:fL o' w' K.B s.fd gK){mid:Nat}(hm:∀b,nE K.B s.fd gK b->b<mid)(ho:∀i,i<K.B.rs.length->∃b vs,gK i=so (b,vs)/\((∃vs',s.old i=so (b,vs'))\/w.heap.size<=b)):
  ∃lab',bp o' w' K {s with old:=gK} lk lab'/\cU o w lab o' w' lab'/\∀b,w.heap.size<=b->mid<=b->lab' b=6:=by
 have hx:∀b,b=K.B.Rb->lab b=1:=λb hb=>(h.l1 b (.inr (.inr (.inl hb)))).trans (if_neg (by have:=h.build.apart.2.2.2.1;omega));have P:=h.parts hW 1 1 λb hb=>.inl (hx b hb);obtain⟨a1,a2,a3,a4⟩:=h.all;have lb:∀b,o b->(if w.heap.size<=b then(if mid<=b then 6 else 1)else lab b)=lab b:=λb hb=>if_neg (by have:=h.aH.lt hb;omega);have q6:=P.set aa aa;refine⟨λb=>if w.heap.size<=b then(if mid<=b then 6 else 1)else lab b,⟨hW.aH,P.row aa aa,hW.more _ h.own,hB,P.files aa aa,P.queue aa aa,P.cZ aa aa,P.reads aa aa,⟨q6.blk,q6.own,q6.res,q6.cl,q6.gF,q6.gD⟩,(lb _ h.own).trans h.l0,λb hb=>?_,λb hb=>(lb b ?_).trans (h.l2 b hb),λb hb=>(lb b (a1 b hb)).trans (h.l3 b hb),λb hb=>(lb b (a2 b hb)).trans (h.l4 b hb),λb hb=>(lb b (a3 b hb)).trans (h.l5 b hb),λb hb=>(lb b (a4 b hb)).trans (h.l6 b hb),h.gF⟩,⟨hW.mono λb hb=>by rw[hx b hb];omega,λb hb=>if_neg aa⟩,λb h1 h2=>by simp[h1,h2]⟩
 ·by_cases hz:w.heap.size<=b
  ·have:=hm b hb;have h4:=h.build.apart.2.2.2.1;have cx:=h.aH.lt (h.build.own K.B.Rb (.inr (.inr (.inl rfl))));simp only[hz,if_true];exact(if_neg aa).trans (if_neg aa).symm
  ·simp only[hz,if_false];rcases hb with q|q|q|q|q|q|⟨i,vs,hi,q⟩
   ·exact h.l1 b (.inl q)
   ·exact h.l1 b (.inr (.inl q))
   ·exact h.l1 b (.inr (.inr (.inl q)))
   ·exact h.l1 b (.inr (.inr (.inr (.inl q))))
   ·exact h.l1 b (.inr (.inr (.inr (.inr (.inl q)))))
   ·exact h.l1 b (.inr (.inr (.inr (.inr (.inr (.inl q))))))
   ·obtain⟨b',vs',e1,e2⟩:=ho i hi;have q':gK i=so (b,vs):=q;rw[e1]at q';cases q';rcases e2 with⟨vs2,e2⟩|e2
    ·exact h.l1 b (.inr (.inr (.inr (.inr (.inr (.inr ⟨i,vs2,hi,e2⟩))))))
    ·exact absurd e2 hz
 ·rcases hb with rfl|rfl|rfl
  ·exact h.files.own.1
  ·exact h.files.own.2.1
  ·exact h.files.own.2.2
def bp.QU(h:bp o w K s lk lab){s':fO}(hF:bO ax L0 o w')(hO:eM K.kb w w')(hr:w'.rowIs K.kb 120 13 (sw K s' lk))(ajn:Dw o w s')(he:s'={s with pb:=s'.pb,num:=s'.num,lv:=s'.lv,res:=s'.res,kD:=s'.kD,gD:=s'.gD})(h6:∀b,yP s' b->lab b=6):bp o w' K s' lk lab:=by
 have hW:bC (·=K.kb) o w o w':=bC.dM hF hO rfl;have P:=h.parts hW 0 0 λb hb=>.inl (by rw[hb];exact h.l0);have q6:=ajn.keep (o':=o) (w':=w') (λ_ q=>q) λb hb=>hO.2 b λe=>by have:=h6 b hb;rw[e,h.l0]at this;omega
 rw[he]at hr q6 h6 |-;exact⟨hF,hr,h.own,P.build aa aa,P.files aa aa,P.queue aa aa,P.cZ aa aa,P.reads aa aa,q6,h.l0,h.l1,h.l2,h.l3,h.l4,h.l5,h6,h.gF⟩
def Kl:∀(ss:List (V×Int)) (i:Nat) (h:i<ss.length),(fe ss)[i*3]?=so (.bool ss[i].1.1)/\(fe ss)[i*3+1]?=so (.string ss[i].1.2)/\(fe ss)[i*3+2]?=so (.int .i64 ss[i].2)
 | [],i,h=>by simp at h
 |a::ss,0,h=>by simp[fe]
 |a::ss,i+1,h=>by
  have:=Kl ss i (by simpa using h);have e:fe (a::ss)=.bool a.1.1 :: .string a.1.2 :: .int .i64 a.2::fe ss:=by simp[fe]
  rw[e];have e1:(i+1)*3=i*3+1+1+1:=aa;have e2:(i+1)*3+1=i*3+1+1+1+1:=aa;have e3:(i+1)*3+2=i*3+2+1+1+1:=aa;rw[e3,e2,e1];simpa using this
def K8.view{v:Value}{ss:List (V×Int)}(h:K8 o w v ss)(hF:bO ax L0 o w):∃p b c,v=.slice p ss.length c/\(ss≠[]->p=so ⟨b,0,we⟩/\o b)/\oP w b ss:=by
 obtain⟨lo,zb,cp⟩:=h.row;have hr:=cp;obtain⟨hl,hc⟩:=hr;rcases hc with⟨rfl,hn⟩|⟨g,cap,cur,rfl,h1,h2,h3,h4,h5,h6⟩
 ·have e:ss=[]:=aal.1 hn;subst e;exact⟨we,0,0,rfl,λq=>absurd rfl q,λi hi=>by simp at hi⟩
 ·refine⟨_,g,cap,rfl,λ_=>⟨rfl,Hi hF h.cl⟩,λi hi=>?_⟩;obtain⟨q1,q2,q3⟩:=Kl ss i hi;have ca:=λj hj=>World.ownsRow.cellAt cp j hj;exact⟨(ca (i*3) aa).trans q1,(ca (i*3+1) aa).trans q2,(ca (i*3+2) aa).trans q3⟩
def nB(B:uO)(F:cT)(file:af->V):List (af×V):=(List.range B.rs.length).map λi=>(lX F.b7 i,lv B F file i)
def OD{B:uO}{F:cT}{file:af->V}{R:Nat}(h:w.rowIs R 65 (B.rs.length*3) (gS (lX F.b7) (lv B F file) B.rs.length)):oT w R (nB B F file):=λi hi=>by
 have ml:i<B.rs.length:=by simpa[nB] using hi
 have h0:(i*3)%3=0:=aa;have h1:(i*3+1)%3=1:=aa;have h2:(i*3+2)%3=2:=aa;have d0:(i*3)/3=i:=aa;have d1:(i*3+1)/3=i:=aa;have d2:(i*3+2)/3=i:=aa;refine⟨?_,?_,?_⟩
 ·rw[h.cell aa];simp[gS,h0,d0,nB,show i*3<B.rs.length*3 by omega]
 ·rw[h.cell aa];simp[gS,h1,d1,nB,show i*3+1<B.rs.length*3 by omega]
 ·rw[h.cell aa];simp[gS,h2,d2,nB,show i*3+2<B.rs.length*3 by omega]
def uP{lo:Nat}{ts:List af}{v:Value}(h:gY lo ts v w):∃p l c,v=.slice p l c:=by
 rcases h.own with⟨e,-⟩|⟨g,cap,e,-⟩
 ·exact⟨_,_,_,e⟩
 ·exact⟨_,_,_,e⟩
def QV[Payload](h:bp o w K s lk lab)(lo:Nat)(F:cT)(Hk:s.fd=so (lo,F))(file:af->V)(mG:∀x,(file x).2.size<=100)(R2:s.rd.map (·.1)=(dZ K.B.NM K.B.rs).map file):
  bA ax (XB ax Fin 0) 101 #[.pointer (so ⟨K.kb,0,we⟩)] o w λv o' w'=>v=.agg #[.int .i64 6,.string aR]/\∃lab' gK MU qA qC,cU o w lab o' w' lab'/\(∀i,i<K.B.rs.length->∃b,gK i=so (b,gZ K.B F file i))/\bp o' w' K {s.stand 0 0 with old:=gK,pb:=MU,num:=IntKind.i64.wrap (s.num+1),lv:=qA,res:=nB K.B F file,kD:=qC,gD:=mw (lX F.b7) (kD s.old (gZ K.B F file)) K.B.rs.length} lk lab':=by
 have W:=bY (P:=ax) (Fin:=Fin) (d:=0);refine eD W func101 ak ?_;walk_nrmf Tryz.f101;refine ay ?_;refine dm bS h.aH rfl ak ak nf rfl (R:=λwl v aX=>v=.pointer (so ⟨wl.heap.size,0,we⟩)/\aX=wl.alloc (Obj.cells #[.int .i64 0,.string aR] 32)) (λwl aW=>⟨_,_,by simp[go_sem];rfl,rfl,rfl⟩) λwl v1 aX w1 aW hR bP=>?_;obtain⟨rfl,hR⟩:=hR;obtain⟨z1,k1,sV⟩:=bP.alloc h.aH aW hR;have lz:=bP.aH;rw[aW.size];clear hR bP aW wl aX;have tG:bC (λ_=>False) o w (grow o w w1) w1:=⟨lz,jf,λb hb=>hb.imp id λq=>q.1,aa,λb hb _=>k1 b hb⟩;obtain⟨dD,Uz⟩:∃l:Nat->Nat,l=λb=>if b=w.heap.size then 7 else lab b:=⟨_,rfl⟩
 have yR:∀b,b<w.heap.size->dD b=lab b:=λb hb=>by rw[Uz];exact if_neg aa
 have qG:dD w.heap.size=7:=by rw[Uz];exact if_pos rfl
 obtain⟨h1,S1⟩:=(h.OC λb hb=>yR b (h.aH.lt hb)).yQ tG;clear Uz;have xa:grow o w w1 w.heap.size:=.inr ⟨ah _,aa⟩;generalize grow o w w1=o1 at *;obtain⟨p,rb,rc,K9,Zg,CH⟩:=h1.reads.view h1.aH;have YX:s.rd.length=(dZ K.B.NM K.B.rs).length:=by simpa using congrArg List.length R2
 have c2:w1.cell? ⟨K.kb,2,we⟩=so (.pointer (so ⟨K.B.bb,0,we⟩)):=by rw[h1.row.cell aa];rfl
 have c10:w1.cell? ⟨K.kb,10,we⟩=so (.slice p s.rd.length rc):=by rw[h1.row.cell aa];exact congrArg so K9
 have UA:=h1.aH.lt h1.own;refine ay ?_;have PZ:=h1.build;rw[Hk]at PZ;have Wc:=h1.reads.cl;rw[K9]at Wc;refine dH mixed ai [so we,so we,so we,so (so (.pointer (so ⟨K.B.bb,0,we⟩))),so we,so we,so we,so we,so (so (.slice p s.rd.length rc)),we,we,so we,so we,so we,so we,so we]
  (S:=λσ o' w'=>(σ 10=we/\bC (λ_=>False) o1 w1 o' w'/\∀y,σ 9=so y->∃Vb,y=.slice (so ⟨Vb,0,we⟩) s.rd.length s.rd.length/\w1.heap.size<=Vb/\o' Vb/\eZ w' Vb (s.rd.map (·.1))) \/
   (∃y,σ 10=so y/\∃o2 w2 R rv gK,bC (λ_=>False) o1 w1 o2 w2/\y=.tuple #[.slice (so ⟨R,0,we⟩) K.B.rs.length K.B.rs.length,rv]/\bC (·=K.B.Rb) o2 w2 o' w'/\fL o' w' K.B (so (lo,F)) gK/\(∀i,i<K.B.rs.length->∃b,gK i=so (b,gZ K.B F file i)/\((∃vs,s.old i=so (b,vs))\/w2.heap.size<=b)) /\
    (w2.heap.size<=R/\o' R/\w'.rowIs R 65 (K.B.rs.length*3) (gS (lX F.b7) (lv K.B F file) K.B.rs.length))/\gY w2.heap.size (mw (lX F.b7) (kD s.old (gZ K.B F file)) K.B.rs.length) rv w'/\Cl ax L0 o' rv/\(∀g l c,rv=.slice (so ⟨g,0,we⟩) l c->o' g)/\∃mid,w2.heap.size<=mid/\mid<=R/\(∀b,nE K.B (so (lo,F)) gK b->b<mid)/\∀g,rv.ownBlock=so g->mid<=g)) ?_ λv=>?_
 ·exact .inl ⟨rfl,bC.refl h1.aH,λy hy=>by cases hy⟩
 refine dN ?_;refine cq ?_;refine dsP (λσ o' w' H hS=>?_) ?_
 ·rcases hS with⟨nD,hW,-⟩|⟨y,nD,-⟩
  ·have mm:=hW.more _ h1.own;exact sR hW.aH mm ((cell_of (hW.same _ UA id)).trans c2)
  ·rw[H.qJ [] 10 ai]at nD;cases nD
 refine cq ?_;refine dsP (λσ o' w' H hS=>?_) ?_
 ·rcases hS with⟨nD,hW,-⟩|⟨y,nD,-⟩
  ·have mm:=hW.more _ h1.own;exact sR hW.aH mm ((cell_of (hW.same _ UA id)).trans c10)
  ·rw[H.qJ [9] 10 ai]at nD;cases nD
 walk_nrm;refine vt rfl rfl ak rfl func141 ai rfl (av:=#[.slice p s.rd.length rc]) aK (λσ o' w' H h9 hS=>?_) ?_
 ·rcases hS with⟨nD,hW,-⟩|⟨y,nD,-⟩
  ·refine(Hf hW.aH rb rc p s.rd (by have:=h1.reads.gF;omega) (λq=>⟨(Zg q).1,hW.more _ (Zg q).2⟩) (λi hi=>?_) (Wc.up hW.more)).mono ?_
   ·have dE:s.rd≠[]:=λq=>by rw[q]at hi;simp at hi
    exact yJ CH (hW.same _ (h1.aH.lt (Zg dE).2) id) i hi
   ·rintro y o2 w2 ⟨N,rfl,z,hv⟩;refine .inl ⟨by simpa[fM] using nD,hW.trans (bC.dJ N),λy hy=>?_⟩;simp only[fM,if_true,aA]at hy;exact⟨w'.heap.size,hy.symm,hW.size,by rw[N.own];exact .inr ⟨ah _,z⟩,hv⟩
  ·rw[H.xA 10 ai]at nD;cases nD
 walk_nrm;refine vt rfl rfl ak rfl func42 ai rfl (av:=#[.pointer (so ⟨K.B.bb,0,we⟩),v 9]) aK (λσ o' w' H nD hS=>?_) ?_
 ·rcases hS with⟨-,hW,h9⟩|⟨y,q,-⟩
  ·obtain⟨Vb,hy,hVz,hVo,hVr⟩:=h9 _ (H.done 9 ai rfl);have JP:=h1.aH.lt (PZ.own K.B.Rb (.inr (.inr (.inl rfl))));rw[R2]at hVr;rw[hy];refine(Ou hW.aH K.B lo F s.old (PZ.keep hW.more hW.size λb hb=>hW.same _ (h1.aH.lt (PZ.own b hb)) id) file mG Vb s.rd.length hVo aa hVr (by simp[YX])).mono ?_;rintro y o2 w2 ⟨R,rv,gK,q⟩;exact .inr ⟨y,by simp[fM],o',w',R,rv,gK,hW,q⟩
  ·rw[nD]at q;cases q
 refine cq ?_;obtain⟨ra,rb',rU⟩:∃a b,(∃a' b',v 10=.tuple #[a',b'])->v 10=.tuple #[a,b]:=by
  by_cases q:∃a' b',v 10=.tuple #[a',b']
  ·obtain⟨a,b,e⟩:=q;exact⟨a,b,λ_=>e⟩
  ·exact⟨.tuple #[],.tuple #[],λq'=>absurd q' q⟩
 refine yq (v 10=.tuple #[ra,rb']) ra rfl rfl rfl ak (λσ o' w' H hS=>?_) (λhv w1=>?_) (λhv w1=>?_) λy18 ajp=>?_
 ·have d:=H.Jd [11] 10 ai rfl;rcases hS with⟨nD,-⟩|⟨y,nD,o2,w2,R,rv,gK,-,e,-⟩
  ·rw[d]at nD;cases nD
  ·rw[d]at nD;cases nD;exact rU ⟨_,_,e⟩
 ·simp[go_sem,Act.eval,hv]
 ·simp[go_sem,Act.eval,hv]
 walk_nrm;refine yq (v 10=.tuple #[ra,rb']) rb' rfl rfl rfl ak (λσ o' w' H hS=>?_) (λhv w1=>?_) (λhv w1=>?_) λy19 ajq=>?_
 ·have d:=H.Jd [11] 10 ai rfl;rcases hS with⟨nD,-⟩|⟨y,nD,o2,w2,R,rv,gK,-,e,-⟩
  ·rw[d]at nD;cases nD
  ·rw[d]at nD;cases nD;exact rU ⟨_,_,e⟩
 ·simp[go_sem,Act.eval,hv]
 ·simp[go_sem,Act.eval,hv]
 refine cq ?_;refine cq ?_;refine cu λσ o3 w3 lP hS=>?_;rcases hS with⟨nD,-⟩|⟨y,nD,o2,w2,R,rv,gK,Ex,e,Ev,hB,hold,⟨hRz,hRo,aeS⟩,K9,aeT,ajt,mid,hm1,VH,hm3,hm4⟩
 ·rw[lP 10 eB rfl]at nD;cases nD
 rw[lP 10 eB rfl]at nD;cases nD;have XK:=rU ⟨_,_,e⟩;obtain rfl:=ajp XK;obtain rfl:=ajq XK;rw[e]at XK;cases XK;simp only[ij,dz,if_true,if_false,reduceIte,Nat.reduceEqDiff];obtain⟨h2,S2⟩:=h1.yQ Ex;obtain⟨mB,h3,S3,L3⟩:=h2.built Ev (by rw[Hk];exact hB) (mid:=mid) (by rw[Hk];exact hm3) λi hi=>by
  obtain⟨b,e,q⟩:=hold i hi;exact⟨b,_,e,q⟩
 have c12:w3.cell? ⟨K.kb,12,we⟩=so (.pointer (so ⟨s.pb,0,we⟩)):=by rw[h3.row.cell aa];rfl
 have YF:=h3.set.blk;have RQ:=h3.set.own;have cn:w3.cell? ⟨s.pb,0,we⟩=so (.int .i64 s.num):=(fa YF).1;have hk3:=h3.own;obtain⟨rp,rl,eO,rfl⟩:=uP K9;refine ay ?_;refine b5 func49 (FJ K.kb 12 s.pb _ _ _ c12 YF) ?_;rintro v0 o0 w0 ⟨rfl,rfl,rfl⟩;refine ay ?_;refine jJ h3.aH RQ cn λ_=>?_;refine ay ?_;refine dm bS h3.aH rfl ak ak ?_ rfl (R:=λwl v aX=>v=.pointer (so ⟨wl.heap.size,0,we⟩)/\aX=wl.alloc (Obj.cells #[.int .i64 (IntKind.i64.wrap (s.num+1)),.slice (so ⟨R,0,we⟩) K.B.rs.length K.B.rs.length,.slice rp rl eO] 59)) (λwl aW=>⟨_,_,fS,rfl,rfl⟩) λwl v1 aX w4 aW hR bP=>?_
 ·refine mo ?_;exact fW (vs:=[_,_,_]) (λx hx=>by
   simp at hx;rcases hx with rfl|rfl|rfl
   ·exact dV
   ·exact dW hRo
   ·exact aeT)
 obtain⟨rfl,hR⟩:=hR;obtain⟨z4,k4,yO⟩:=bP.alloc h3.aH aW hR;have rn:=bP.aH;rw[aW.size];clear hR bP aW wl aX;have Ae:bC (λ_=>False) o0 w0 (grow o0 w0 w4) w4:=⟨rn,jf,λb hb=>hb.imp id λq=>q.1,aa,λb hb _=>k4 b hb⟩;obtain⟨h4,S4⟩:=h3.yQ Ae;have tH:grow o0 w0 w4 w0.heap.size:=.inr ⟨ah _,aa⟩;have hRl:=h3.aH.lt hRo;have BJ:=Ae.more _ hRo;generalize grow o0 w0 w4=o4 at *;walk_nrm;refine b5 func61 (Dk K.kb 12 w0.heap.size _ _ _ (.pointer (so ⟨s.pb,0,we⟩)) (by rw[h4.row.cell aa];rfl) (h4.row.frozen 12) yO) ?_;rintro v0 o5 w5 ⟨rfl,rfl,rfl⟩;have h5:=h4.QU (s':={s with old:=gK,pb:=w0.heap.size,num:=IntKind.i64.wrap (s.num+1),lv:=.slice (so ⟨R,0,we⟩) K.B.rs.length K.B.rs.length,res:=nB K.B F file,kD:=.slice rp rl eO,gD:=mw (lX F.b7) (kD s.old (gZ K.B F file)) K.B.rs.length}) (Go.Conc.bO.setCell h4.aH (bX (off:=0) tH)) (iX _ _ _ _) ((h4.row.set 12 _).congr λj hj=>?_) ?_ rfl ?_;rotate_left
 ·rcases nn hj with rfl|rfl|rfl|rfl|rfl|rfl|rfl|rfl|rfl|rfl|rfl|rfl|rfl<;>rfl
 ·refine⟨yO,tH,⟨so ⟨R,0,we⟩,R,K.B.rs.length,by simp[nB],(λq=>by cases q),λ_=>⟨rfl,BJ⟩,OD (World.rowIs.of_block aeS (k4 R hRl))⟩,dW BJ,?_,⟨?_,aeT.up Ae.more,?_⟩⟩
  ·have:=h.build.rules.gF;simp only[nB,List.length_map,List.length_range];omega
  ·rcases K9.own with⟨e,e2⟩|⟨g,cap,e,g1,g2,g3⟩
   ·exact⟨we,0,0,by rw[e2];exact e,λ_=>e2,λq=>absurd e2 q,λi hi=>by rw[e2]at hi;simp at hi⟩
   ·exact⟨_,g,cap,e,(λq=>by cases q),λ_=>⟨rfl,Ae.more _ (ajt g _ _ e)⟩,cD g3 (k4 g g2)⟩
  ·have:=h.build.rules.gF;exact aY (Df _ _ _) aa
 ·rintro b (rfl|q|q)
  ·exact L3 w0.heap.size (by have:=S3.br.size;omega) aa
  ·cases q;exact L3 _ hRz VH
  ·have:=hm4 b q;exact L3 _ aa this
 have S5:cU o5 w4 mB o5 (w4.setCell ⟨K.kb,12,we⟩ (.pointer (so ⟨w0.heap.size,0,we⟩))) mB:=.of (bC.dM (ex:=(·=K.kb)) h5.aH (iX _ _ _ _) rfl) λb hb=>by rw[hb,h4.l0];omega
 generalize w4.setCell ⟨K.kb,12,we⟩ (.pointer (so ⟨w0.heap.size,0,we⟩))=w5 at h5 S5 |-;have S15:=(((S1.trans S2).trans S3).trans S4).trans S5;have xj:o5 w.heap.size:=Ae.more _ (Ev.more _ (Ex.more _ xa));have Bi:mB w.heap.size=7:=((S2.trans S3).lab _ aa).trans qG;have Kf:w5.heap[w.heap.size]?=so (.cells #[.int .i64 0,.string aR] 32):=by
  rw[((((S2.trans S3).trans S4).trans S5).br).same _ aa (by rw[qG];omega)];exact sV
 clear S2 S3 S4 S5 h2 h3 h4 Ex Ev Ae L3 hm3 hm4;refine ay ?_;refine dA bS h5.aH rfl ak ak ?_ rfl (R:=λwl aX=>aX=((((wl.setCell ⟨K.kb,7,we⟩ (.int .i64 (0:Nat))).setCell ⟨K.kb,8,we⟩ (.int .i64 (0:Nat))).setCell ⟨K.kb,9,we⟩ (.slice we 0 0)).setCell ⟨K.kb,10,we⟩ (.slice we 0 0)).setCell ⟨K.kb,11,we⟩ (.int .i64 0)) (λwl aW=>⟨_,?_,rfl⟩) λwl aX w9 aW hR bP=>?_
 ·refine jF ?_ ?_
  ·exact bX h5.own
  ·exact sCl (phase:=0) (since:=0)
 ·have rl:=World.rowIs.of_block h5.row (aW.heap _ h5.own);have e7:=rl.cell (i:=7) aa;have e8:=rl.cell (i:=8) aa;have e9:=rl.cell (i:=9) aa;have KU:=rl.cell (i:=10) aa;have Pp:=rl.cell (i:=11) aa;have f:=rl.frozen;simp[go_sem,e7,e8,e9,KU,Pp,f]
 have hO:eM K.kb wl aX:=by rw[hR];exact Ux _ _ _ _ _ _ _ _ _ _ _ _
 obtain⟨lR,oh,e9⟩:=bP.only aW h5.own hO;have nT:=bP.aH;rw[e9]at nT |-;rw[hR]at oh;have h9:=h5.Kk nT lR (World.rowIs.of_block (FP (World.rowIs.of_block h5.row (aW.heap _ h5.own)) 0 0) oh) (aV _);have S9:=S15.trans (.of (bC.dM (ex:=(·=K.kb)) nT lR rfl) λb hb=>by rw[hb,h5.l0];omega);have dE:w.heap.size≠K.kb:=λe=>by have:=h5.l0;rw[<- e,Bi]at this;omega
 have kbA:w9.heap[w.heap.size]?=so (.cells #[.int .i64 0,.string aR] 32):=(lR.2 _ dE).trans Kf;clear hR bP aW hO oh wl aX e9 h5 S15 Kf lR;refine ay ?_;refine mA 6 aR h9.aH xj kbA λwA AV Af sX=>?_;have hWA:bC (·=w.heap.size) o5 w9 o5 wA:=bC.dM AV Af rfl;have hA:=h9.aside hWA λb hb=>by rw[hb];exact Bi
 refine ay ?_;have c9:∀n,(wA.at n).cell? ⟨w.heap.size,0,we⟩=so (.int .i64 6)/\(wA.at n).cell? ⟨w.heap.size,1,we⟩=so (.string aR):=λn=>⟨(dY sX).1,(dY sX).2.1⟩;refine⟨.inr trivial,trivial,.agg #[.int .i64 6,.string aR],xc (λn=>?_) (λn e he=>?_),rfl,mB,gK,w0.heap.size,_,_,?_,λi hi=>?_,hA⟩
 ·obtain⟨c0,c1⟩:=c9 n;simp[results,results101,go_sem,c0,c1]
 ·obtain⟨c0,c1⟩:=c9 n;simp[results,results101,go_sem,c0,c1]at he;rcases he with rfl|rfl;all_goals exact⟨_,_,_,rfl,xj⟩
 ·refine⟨⟨AV,S9.br.more,S9.br.new,by rw[Af.1];exact S9.br.size,λb hb hx=>?_⟩,λb hb=>(S9.lab b hb).trans (yR b hb)⟩;rw[Af.2 b aa];exact S9.br.same b hb (by rw[yR b hb];exact hx)
 ·obtain⟨b,e,-⟩:=hold i hi;exact⟨b,e⟩
end
section
variable {Fin:bL}{o o' o1:aM}{w w' w1:ae}{K:mK}{s:fO}{lk:Int}{lab dD:Nat->Nat}
def bp.opened(h:bp o w K s lk lab)(lz:bO ax L0 (grow o w w1) w1)(z1:w1.heap.size=w.heap.size+1)(k1:∀b,b<w.heap.size->w1.heap[b]?=w.heap[b]?):∃dD,bp (grow o w w1) w1 K s lk dD/\(∀b,b<w.heap.size->dD b=lab b)/\dD w.heap.size=7/\grow o w w1 w.heap.size/\bC (λ_=>False) o w (grow o w w1) w1:=by
 have tG:bC (λ_=>False) o w (grow o w w1) w1:=⟨lz,jf,λb hb=>hb.imp id λq=>q.1,aa,λb hb _=>k1 b hb⟩;have yR:∀b,b<w.heap.size->(if b=w.heap.size then 7 else lab b)=lab b:=λb hb=>if_neg aa;exact⟨λb=>if b=w.heap.size then 7 else lab b,((h.OC λb hb=>yR b (h.aH.lt hb)).yQ tG).1,yR,if_pos rfl,.inr ⟨ah _,aa⟩,tG⟩
def bp.did{o9:aM}{w9 wA:ae}{QW:Nat->Nat}{s':fO}(h:bp o9 w9 K s' lk QW)(tG:bC (λ_=>False) o w o1 w1)(yR:∀b,b<w.heap.size->dD b=lab b)(S:cU o1 w1 dD o9 w9 QW)(hl:QW w.heap.size=7)(hF:bO ax L0 o9 wA)(on:eM w.heap.size w9 wA):bp o9 wA K s' lk QW/\cU o w lab o9 wA QW:=by
 refine⟨h.aside (ex:=(·=w.heap.size)) (bC.dM hF on rfl) λb hb=>by rw[hb];exact hl,⟨hF,λb hb=>S.br.more b (tG.more b hb),λb hb=>(S.br.new b hb).elim (λq=>tG.new b q) λq=>.inr (by have:=tG.size;omega),by rw[on.1];exact aY tG.size S.br.size,λb hb hx=>?_⟩,λb hb=>(S.lab b (by have:=tG.size;omega)).trans (yR b hb)⟩;rw[on.2 b aa,S.br.same b (by have:=tG.size;omega) (by rw[yR b hb];exact hx),tG.same b hb id]
def Km(K:mK)(s s':fO)(F:cT)(file:af->V):Prop:=∃gK MU qA qC,(∀i,i<K.B.rs.length->∃b,gK i=so (b,gZ K.B F file i))/\s'={s.stand 0 0 with old:=gK,pb:=MU,num:=IntKind.i64.wrap (s.num+1),lv:=qA,res:=nB K.B F file,kD:=qC,gD:=mw (lX F.b7) (kD s.old (gZ K.B F file)) K.B.rs.length}
def did(n:Int)(x:af):Value:=.agg #[.int .i64 n,.string x]
def Checked(K:mK)(s s':fO)(F:cT)(file:af->V)(v:Value):Prop :=
 (s.ck=s.src.length/\v=did 6 aR/\Km K s s' F file) \/
 ∃(h:s.ck<s.src.length) (h':s.ck<s.rd.length),(cN s.st s.src[s.ck]≠s.rd[s.ck].2/\v=did 5 s.src[s.ck]/\s'=s.stand 1 s.time)\/(cN s.st s.src[s.ck]=s.rd[s.ck].2/\v=did 4 s.src[s.ck]/\s'={s with ck:=s.ck+1})
def AW[Payload](h:bp o w K s lk lab)(hlen:s.rd.length=s.src.length)(lo:Nat)(F:cT)(Hk:s.fd=so (lo,F))(file:af->V)(mG:∀x,(file x).2.size<=100)(R2:s.rd.map (·.1)=(dZ K.B.NM K.B.rs).map file):
  bA ax (XB ax Fin 0) 64 #[.pointer (so ⟨K.kb,0,we⟩)] o w λv o' w'=>∃s' lab',Checked K s s' F file v/\bp o' w' K s' lk lab'/\cU o w lab o' w' lab':=by
 have W:=bY (P:=ax) (Fin:=Fin) (d:=0);refine eD W func64 ak ?_;walk_nrmf Tryz.f64;refine ay ?_;refine dm bS h.aH rfl ak ak nf rfl (R:=λwl v aX=>v=.pointer (so ⟨wl.heap.size,0,we⟩)/\aX=wl.alloc (Obj.cells #[.int .i64 0,.string aR] 32)) (λwl aW=>⟨_,_,by simp[go_sem];rfl,rfl,rfl⟩) λwl v1 aX w1 aW hR bP=>?_;obtain⟨rfl,hR⟩:=hR;obtain⟨z1,k1,sV⟩:=bP.alloc h.aH aW hR;have lz:=bP.aH;rw[aW.size];clear hR bP aW wl aX;obtain⟨dD,h1,yR,qG,xa,tG⟩:=h.opened lz z1 k1;generalize grow o w w1=o1 at *;obtain⟨sp,sb,sc,QS,RZ,vJ,eH⟩:=h1.cZ.row;have c9:w1.cell? ⟨K.kb,9,we⟩=so (.slice sp s.src.length sc):=by rw[h1.row.cell aa];exact congrArg so QS
 have c11:w1.cell? ⟨K.kb,11,we⟩=so (.int .i64 s.ck):=by rw[h1.row.cell aa];rfl
 have UA:=h1.aH.lt h1.own;have hsf:=h1.cZ.gF;have IF:=h1.gF.2.2.2.2.1;have hW0:bC (λ_=>False) o1 w1 o1 w1:=bC.refl h1.aH;refine ay ?_;refine dH mixed ai [so we,so we,so we,so (so (.int .i64 s.ck)),so we,so we,so we,so (so (.slice sp s.src.length sc)),so we,so we]
  (S:=λσ o' w'=>o1=o'/\w1=w') ⟨rfl,rfl⟩ λv=>?_
 refine dN ?_;refine cq ?_;refine dsP (λσ o' w' H hS=>?_) ?_
 ·obtain⟨rfl,rfl⟩:=hS;exact sR h1.aH h1.own c11
 refine cq ?_;refine dsP (λσ o' w' H hS=>?_) ?_
 ·obtain⟨rfl,rfl⟩:=hS;exact sR h1.aH h1.own c9
 refine cq ?_;refine cu λσ o3 w3 lP hS=>?_;obtain⟨rfl,rfl⟩:=hS;simp only[ij,dz,if_true,if_false,reduceIte,Nat.reduceEqDiff];refine je W (t:=decide (s.ck=s.src.length)) (by simp[Act.eval];rw[en];simp;omega) ?_;by_cases hc:s.ck=s.src.length
 ·rw[if_pos (cW hc)];refine ay ?_;refine b5 func101 (QV h1 lo F Hk file mG R2) ?_;rintro v0 o4 w4 ⟨rfl,sx,gK,MU,qA,qC,S4,hold,h4⟩;have HQ:sx w.heap.size=7:=(S4.lab _ aa).trans qG;have yO:=(S4.br.same w.heap.size aa (by rw[qG];omega)).trans sV;have tH:=S4.br.more _ xa;walk_nrm;refine mA 6 aR h4.aH tH yO λwA AV Af sX=>?_;obtain⟨hA,SA⟩:=h4.did tG yR S4 HQ AV Af;refine ay ?_;have c9:∀n,(wA.at n).cell? ⟨w.heap.size,0,we⟩=so (.int .i64 6)/\(wA.at n).cell? ⟨w.heap.size,1,we⟩=so (.string aR):=λn=>⟨(dY sX).1,(dY sX).2.1⟩;refine⟨.inr trivial,trivial,.agg #[.int .i64 6,.string aR],xc (λn=>?_) (λn e he=>?_),_,sx,.inl ⟨hc,rfl,gK,MU,qA,qC,hold,rfl⟩,hA,SA⟩
  ·obtain⟨c0,c1⟩:=c9 n;simp[results,results64,go_sem,c0,c1]
  ·obtain⟨c0,c1⟩:=c9 n;simp[results,results64,go_sem,c0,c1]at he;rcases he with rfl|rfl;all_goals exact⟨_,_,_,rfl,tH⟩
 rw[if_neg (by simpa using hc)];have cx:s.ck<s.src.length:=aa;have qh:s.ck<s.rd.length:=aa;obtain⟨rfl,RQ⟩:=vJ λq=>by rw[q]at cx;simp at cx
 have hT:=eH s.ck cx;rw[bt]at hT;have zh:(s.ck:Int)<s.src.length:=aa;generalize hx:s.src[s.ck]=x at hT;refine ay ?_;refine dH mixed ai [so we,so we,so we,so (so (.slice (so ⟨sb,0,we⟩) s.src.length sc)),so we,so we,so we,so (so (.int .i64 s.ck)),so we,so (so (.string x)),so we]
  (S:=λσ o' w'=>o1=o'/\w1=w') ⟨rfl,rfl⟩ λv=>?_
 refine dN ?_;refine cq ?_;refine dsP (λσ o' w' H hS=>?_) ?_
 ·obtain⟨rfl,rfl⟩:=hS;exact sR h1.aH h1.own c9
 refine cq ?_;refine dsP (λσ o' w' H hS=>?_) ?_
 ·obtain⟨rfl,rfl⟩:=hS;exact sR h1.aH h1.own c11
 refine cq ?_;refine dsP (λσ o' w' H hS=>?_) ?_
 ·obtain⟨rfl,rfl⟩:=hS;exact sR h1.aH RQ hT
 refine cq ?_;refine cu λσ o3 w3 lP hS=>?_;obtain⟨rfl,rfl⟩:=hS;simp only[ij,dz,if_true,if_false,reduceIte,Nat.reduceEqDiff];obtain⟨rp,rb,rc,K9,Zg,CH⟩:=h1.reads.view h1.aH;obtain⟨rfl,tu⟩:=Zg λq=>by rw[q]at qh;simp at qh
 have c10:w1.cell? ⟨K.kb,10,we⟩=so (.slice (so ⟨rb,0,we⟩) s.rd.length rc):=by rw[h1.row.cell aa];exact congrArg so K9
 have c3:w1.cell? ⟨K.kb,3,we⟩=so (.pointer (so ⟨K.fb,0,we⟩)):=by rw[h1.row.cell aa];rfl
 have hR:=(CH s.ck qh).2.2;have hrw:=h1.aH.lt tu;have aqu:(s.ck:Int)<s.rd.length:=aa;generalize hy:s.rd[s.ck].2=ry at hR;generalize hz:cN s.st x=rz;generalize KY:(dG s.th x).1=s1;generalize Cx:(dG s.th x).2=s2;refine ay ?_;refine dH mixed ai [so we,so we,so we,so (so (.pointer (so ⟨K.fb,0,we⟩))),so we,so (so (.agg #[.bool s1,.string s2,.int .i64 rz])),so we,so we,so we,so we,so (so (.slice (so ⟨rb,0,we⟩) s.rd.length rc)),so we,so we,so we,so (so (.int .i64 s.ck)),so we,so we,so (so (.int .i64 ry)),so we]
  (S:=λσ o' w'=>bC (λ_=>False) o1 w1 o' w') hW0 λv=>?_
 refine dN ?_;refine cq ?_;refine dsP (λσ o' w' H hS=>?_) ?_
 ·have mm:=hS.more _ h1.own;exact sR hS.aH mm ((cell_of (hS.same _ UA id)).trans c3)
 refine cq ?_;refine jO rfl rfl ak rfl func100 ai rfl (av:=#[.pointer (so ⟨K.fb,0,we⟩),.string x]) aK (λσ o' w' H hS=>?_) ?_
 ·refine(Zd hS.aH ((h1.yQ hS).1).files x).mono ?_;rintro y o2 w2 ⟨rfl,N⟩;exact⟨by rw[KY,Cx,hz],hS.trans (bC.dJ N)⟩
 walk_nrm;have evf:∀w,(Instr.field 194 (.agg #[.bool s1,.string s2,.int .i64 rz]) 1).events ax w #[]=#[]:=λw=>ai;refine cq ?_;refine dsP (λσ o' w' H hS=>?_) ?_
 ·have mm:=hS.more _ h1.own;exact sR hS.aH mm ((cell_of (hS.same _ UA id)).trans c10)
 refine cq ?_;refine dsP (λσ o' w' H hS=>?_) ?_
 ·have mm:=hS.more _ h1.own;exact sR hS.aH mm ((cell_of (hS.same _ UA id)).trans c11)
 refine cq ?_;refine dsP (λσ o' w' H hS=>?_) ?_
 ·have mm:=hS.more _ tu;exact sR hS.aH mm ((cell_of (hS.same _ hrw id)).trans hR)
 refine cq ?_;refine cu λσ o5 w5 lP hS=>?_;simp only[ij,dz,if_true,if_false,reduceIte,Nat.reduceEqDiff];clear evf lP;obtain⟨h5,S5⟩:=h1.yQ hS;have xj:=hS.more _ xa;have Kf:=(hS.same w.heap.size aa id).trans sV;refine je W (t:=decide (rz≠ry)) (by simp[Act.eval];rw[en];simp) ?_;by_cases hd:rz≠ry
 ·rw[if_pos (cW hd)];refine ay ?_;refine b5 func102 (Uy h5) ?_;rintro v0 o4 w4 ⟨rfl,S4,h4⟩;have HQ:dD w.heap.size=7:=qG;have yO:=(S4.br.same w.heap.size (by have:=hS.size;omega) (by rw[qG];omega)).trans Kf;have tH:=S4.br.more _ xj;have S45:=S5.trans S4;refine ay ?_;refine mA 5 x h4.aH tH yO λwA AV Af sX=>?_;obtain⟨hA,SA⟩:=h4.did tG yR S45 qG AV Af;refine ay ?_;have c9:∀n,(wA.at n).cell? ⟨w.heap.size,0,we⟩=so (.int .i64 5)/\(wA.at n).cell? ⟨w.heap.size,1,we⟩=so (.string x):=λn=>⟨(dY sX).1,(dY sX).2.1⟩;refine⟨.inr trivial,trivial,.agg #[.int .i64 5,.string x],xc (λn=>?_) (λn e he=>?_),_,dD,.inr ⟨cx,qh,.inl ⟨by rw[hx,hy,hz];exact hd,by rw[hx];rfl,rfl⟩⟩,hA,SA⟩
  ·obtain⟨c0,c1⟩:=c9 n;simp[results,results64,go_sem,c0,c1]
  ·obtain⟨c0,c1⟩:=c9 n;simp[results,results64,go_sem,c0,c1]at he;rcases he with rfl|rfl;all_goals exact⟨_,_,_,rfl,tH⟩
 rw[if_neg (by simpa using hd)];have d11:w5.cell? ⟨K.kb,11,we⟩=so (.int .i64 s.ck):=by rw[h5.row.cell aa];rfl
 refine ay ?_;refine jJ h5.aH h5.own d11 λ_=>?_;walk_nrm;have zy:IntKind.i64.wrap ((s.ck:Int)+1)=((s.ck+1:Nat):Int):=by rw[IntKind.wrap_i64]<;>omega
 refine ay ?_;refine dA bS h5.aH rfl ak ak ?_ rfl (R:=λwl aX=>aX=wl.setCell ⟨K.kb,11,we⟩ (.int .i64 ((s.ck+1:Nat):Int))) (λwl aW=>⟨_,?_,rfl⟩) λwl aX w9 aW hR bP=>?_
 ·exact jF (bX h5.own) dV
 ·have rl:=World.rowIs.of_block h5.row (aW.heap _ h5.own);have e1:=(aW.cell h5.own).trans d11;have f:=rl.frozen;simp[go_sem,e1,f,zy]
 have hO:eM K.kb wl aX:=by rw[hR];exact iX _ _ _ _
 obtain⟨lR,oh,e9⟩:=bP.only aW h5.own hO;have nT:=bP.aH;rw[e9]at nT |-;rw[hR]at oh;have h9:=h5.put (s':={s with ck:=s.ck+1}) (lk':=lk) nT lR ((World.rowIs.of_block ((World.rowIs.of_block h5.row (aW.heap _ h5.own)).set 11 _) oh).congr λj hj=>by
  rcases nn hj with rfl|rfl|rfl|rfl|rfl|rfl|rfl|rfl|rfl|rfl|rfl|rfl|rfl<;>rfl) rfl rfl ⟨h5.gF.2.2.1,h5.gF.2.2.2.1,cx⟩
 have S9:=S5.trans (.of (bC.dM (ex:=(·=K.kb)) nT lR rfl) λb hb=>by rw[hb,h5.l0];omega);have dE:w.heap.size≠K.kb:=λe=>by have:=h5.l0;rw[<- e,qG]at this;omega
 have kbA:=(lR.2 _ dE).trans Kf;clear hR bP aW hO oh wl aX e9;refine ay ?_;refine mA 4 x h9.aH xj kbA λwA AV Af sX=>?_;obtain⟨hA,SA⟩:=h9.did tG yR S9 qG AV Af;refine ay ?_;have c9:∀n,(wA.at n).cell? ⟨w.heap.size,0,we⟩=so (.int .i64 4)/\(wA.at n).cell? ⟨w.heap.size,1,we⟩=so (.string x):=λn=>⟨(dY sX).1,(dY sX).2.1⟩;refine⟨.inr trivial,trivial,.agg #[.int .i64 4,.string x],xc (λn=>?_) (λn e he=>?_),_,dD,.inr ⟨cx,qh,.inr ⟨by rw[hx,hy,hz];simpa using hd,by rw[hx];rfl,rfl⟩⟩,hA,SA⟩
 ·obtain⟨c0,c1⟩:=c9 n;simp[results,results64,go_sem,c0,c1]
 ·obtain⟨c0,c1⟩:=c9 n;simp[results,results64,go_sem,c0,c1]at he;rcases he with rfl|rfl;all_goals exact⟨_,_,_,rfl,xj⟩
def QX:(ax.info? 194).map (λi=>(i.zero,i.size,i.bytes))=so (so (.agg #[.bool false,.string aR,.int .i64 0]),3,32):=ai
def Dx(ss:List (V×Int))(q:V×Int):fe (ss++[q])=fe ss++[.bool q.1.1,.string q.1.2,.int .i64 q.2]:=by simp[fe]
def Ag(W:ae)(lo:Nat)(v:Value)(ss:List (V×Int))(q:V×Int)(A:Nat)(h:W.ownsRow lo 194 3 v ss.length (fe ss))(hn:ss.length<=100000)(zb:lo<=W.heap.size)(ha:W.heap[A]?=so (.cells #[.bool q.1.1,.string q.1.2,.int .i64 q.2] 194)):
  ∃v' W',(Builtin.append_ #[110,110] 110 #[v,.slice (so ⟨A,0,we⟩) 1 1]).run ax W=.ok v' W'/\W'.ownsRow lo 194 3 v' (ss++[q]).length (fe (ss++[q]))/\W.grownBy W' v.ownBlock/\(v'.ownBlock=v.ownBlock\/v'.ownBlock=so W.heap.size):=by
 obtain⟨i,hi,pP⟩:=aaf.1 QX;simp only[bB]at pP;obtain⟨c0,c1,c2,-⟩:=fa ha;have hc:∀j u,[Value.bool q.1.1,.string q.1.2,.int .i64 q.2][j]?=so u->W.cell? ((⟨A,0,we⟩:Addr).add j)=so u:=λj u hj=>by
  match j with
  |0=>simp at hj;subst hj;simpa[Addr.add] using c0
  |1=>simp at hj;subst hj;simpa[Addr.add] using c1
  |2=>simp at hj;subst hj;simpa[Addr.add] using c2
  |j+3=>simp at hj
 obtain⟨v',W',e1,e2,e3,_⟩:=run_append_own (P:=ax) W lo 110 110 194 i _ 3 32 underlying110 hi pP.1 pP.2.1 pP.2.2 rfl aa v ss.length (fe ss) h ⟨A,0,we⟩ 1 1 _ rfl hc (by simp;exact⟨rfl,rfl,rfl⟩) (by simp[maxLen];omega) aa zb;exact⟨v',W',e1,by rw[Dx];simpa using e2,e3,yN W lo 110 110 194 i _ 3 32 underlying110 hi pP.1 pP.2.1 pP.2.2 v ss.length (fe ss) h ⟨A,0,we⟩ 1 _ rfl hc (by simp;exact⟨rfl,rfl,rfl⟩) aa aa e1⟩
def K8.add{v v':Value}{ss:List (V×Int)}{q:V×Int}{wl aX:ae}{lo:Nat}(hF:bO ax L0 o w)(h:K8 o w v ss)(hl:ss.length<1000)(aW:iz o w wl)(bP:lJ ax L0 o w w' aX v')(zb:lo<=w.heap.size)(cp:aX.ownsRow lo 194 3 v' (ss++[q]).length (fe (ss++[q])))(Ew:wl.grownBy aX v.ownBlock)(Zb:v'.ownBlock=v.ownBlock\/v'.ownBlock=so wl.heap.size):
  K8 (grow o w w') w' v' (ss++[q])/\bC (λb=>v.ownBlock=so b) o w (grow o w w') w'/\∀b,v'.ownBlock=so b->v.ownBlock=so b\/w.heap.size<=b:=by
 rw[aW.size]at Zb;have EF:=bP.aH;have fw:Cl ax L0 (grow o w w') v':=bP.val;have z6:=bP.iS;have Kg:∀b,v'.ownBlock=so b->grow o w w' b:=λb hb=>by
  obtain⟨-,ga⟩:=cp;rcases ga with⟨rfl,-⟩|⟨g',cap,cur,rfl,-⟩
  ·cases hb
  ·cases hb;exact Hi EF fw
 refine⟨⟨⟨lo,aa,dC cp λb hb _=>bP.same b (Kg b hb.symm)⟩,fw,eP⟩,⟨EF,jf,λb hb=>hb.imp id λq=>q.1,z6,λb hb hbv=>?_⟩,λb hb=>?_⟩
 ·by_cases ho:o b
  ·rw[bP.same b (.inl ho),Ew.block b (by rw[aW.size];exact hb) (λe=>hbv e.symm),aW.heap b ho]
  ·exact bP.rest b hb ho
 ·rcases Zb with e|e
  ·rw[hb]at e;exact .inl e.symm
  ·rw[hb]at e;exact .inr (bI (aT e).symm)
def Checked.shape{s':fO}{F:cT}{file:af->V}{v:Value}(h:Checked K s s' F file v):∃n x,v=did n x:=by
 rcases h with⟨-,e,-⟩|⟨_,_,⟨-,e,-⟩|⟨-,e,-⟩⟩
 ·exact⟨_,_,e⟩
 ·exact⟨_,_,e⟩
 ·exact⟨_,_,e⟩
def bp.abh(h:bp o w K s lk lab){La:Value}{rd':List (V×Int)}(hW:bC (λb=>b=K.kb\/s.rv.ownBlock=so b) o w o' w')(hq:K8 o' w' La rd')(hb:∀b,La.ownBlock=so b->s.rv.ownBlock=so b\/w.heap.size<=b)(hr:w'.rowIs K.kb 120 13 (sw K {s with rv:=La,rd:=rd'} lk))(hl:rd'.length<=s.src.length):
  ∃lab',bp o' w' K {s with rv:=La,rd:=rd'} lk lab'/\cU o w lab o' w' lab':=by
 have hx:∀b,b=K.kb\/s.rv.ownBlock=so b->lab b=0\/lab b=5:=λb hb=>hb.imp (λe=>by rw[e];exact h.l0) λe=>h.l5 b e;have P:=h.parts hW 0 5 hx;obtain⟨a1,a2,a3,a4⟩:=h.all;have lt:∀b,o b->b<w.heap.size:=λb hb=>h.aH.lt hb;have lb:∀b,o b->(if w.heap.size<=b then 5 else lab b)=lab b:=λb hb=>if_neg (by have:=lt b hb;omega);obtain⟨f1,f2,f3,f4,f5,f6⟩:=h.gF;refine⟨λb=>if w.heap.size<=b then 5 else lab b,⟨hW.aH,hr,hW.more _ h.own,P.build aa aa,P.files aa aa,P.queue aa aa,P.cZ aa aa,hq,⟨(P.set aa aa).blk,(P.set aa aa).own,(P.set aa aa).res,(P.set aa aa).cl,(P.set aa aa).gF,(P.set aa aa).gD⟩,(lb _ h.own).trans h.l0,λb hb=>(lb b (h.build.own b hb)).trans (h.l1 b hb),λb hb=>(lb b ?_).trans (h.l2 b hb),λb hb=>(lb b (a1 b hb)).trans (h.l3 b hb),λb hb=>(lb b (a2 b hb)).trans (h.l4 b hb),λb hq=>?_,λb hb=>(lb b (a4 b hb)).trans (h.l6 b hb),f1,f2,f3,f4,f5,hl⟩,⟨hW.mono λb hb=>by rcases hx b hb with e|e<;>omega,λb hb=>if_neg aa⟩⟩
 ·rcases hb with rfl|rfl|rfl
  ·exact h.files.own.1
  ·exact h.files.own.2.1
  ·exact h.files.own.2.2
 ·rcases hb b hq with e|e
  ·exact(lb b (a3 b e)).trans (h.l5 b e)
  ·exact if_pos e
def Hl(K:mK)(s s':fO)(F:cT)(file:af->V)(v:Value):Prop :=
 (s.rd.length=s.src.length/\Checked K {s with phase:=3} s' F file v) \/
 ∃h:s.rd.length<s.src.length,v=did 3 s.src[s.rd.length]/\∃La,s'={s with rv:=La,rd:=s.rd++[(dG s.th s.src[s.rd.length],cN s.st s.src[s.rd.length])]}
def MV[Payload](h:bp o w K s lk lab)(lo:Nat)(F:cT)(Hk:s.fd=so (lo,F))(file:af->V)(mG:∀x,(file x).2.size<=100)(R2:s.rd.length=s.src.length->s.rd.map (·.1)=(dZ K.B.NM K.B.rs).map file):
  bA ax (XB ax Fin 0) 63 #[.pointer (so ⟨K.kb,0,we⟩)] o w λv o' w'=>∃s' lab',Hl K s s' F file v/\bp o' w' K s' lk lab'/\cU o w lab o' w' lab':=by
 have W:=bY (P:=ax) (Fin:=Fin) (d:=0);refine eD W func63 ak ?_;walk_nrmf Tryz.f63;refine ay ?_;refine dm bS h.aH rfl ak ak nf rfl (R:=λwl v aX=>v=.pointer (so ⟨wl.heap.size,0,we⟩)/\aX=wl.alloc (Obj.cells #[.int .i64 0,.string aR] 32)) (λwl aW=>⟨_,_,by simp[go_sem];rfl,rfl,rfl⟩) λwl v1 aX w1 aW hR bP=>?_;obtain⟨rfl,hR⟩:=hR;obtain⟨z1,k1,sV⟩:=bP.alloc h.aH aW hR;have lz:=bP.aH;rw[aW.size];clear hR bP aW wl aX;obtain⟨dD,h1,yR,qG,xa,tG⟩:=h.opened lz z1 k1;generalize grow o w w1=o1 at *;obtain⟨sp,sb,sc,QS,RZ,vJ,eH⟩:=h1.cZ.row;obtain⟨rp,rb,rc,K9,Zg,CH⟩:=h1.reads.view h1.aH;have c9:w1.cell? ⟨K.kb,9,we⟩=so (.slice sp s.src.length sc):=by rw[h1.row.cell aa];exact congrArg so QS
 have c10:w1.cell? ⟨K.kb,10,we⟩=so (.slice rp s.rd.length rc):=by rw[h1.row.cell aa];exact congrArg so K9
 have c3:w1.cell? ⟨K.kb,3,we⟩=so (.pointer (so ⟨K.fb,0,we⟩)):=by rw[h1.row.cell aa];rfl
 have UA:=h1.aH.lt h1.own;have hsf:=h1.cZ.gF;have hrf:=h1.gF.2.2.2.2.2;have hW0:bC (λ_=>False) o1 w1 o1 w1:=bC.refl h1.aH;refine ay ?_;refine dH mixed ai [so we,so we,so we,so (so (.slice rp s.rd.length rc)),so we,so we,so we,so we,so (so (.slice sp s.src.length sc)),so we,so we]
  (S:=λσ o' w'=>o1=o'/\w1=w') ⟨rfl,rfl⟩ λv=>?_
 refine dN ?_;refine cq ?_;refine dsP (λσ o' w' H hS=>?_) ?_
 ·obtain⟨rfl,rfl⟩:=hS;exact sR h1.aH h1.own c10
 refine cq ?_;refine dsP (λσ o' w' H hS=>?_) ?_
 ·obtain⟨rfl,rfl⟩:=hS;exact sR h1.aH h1.own c9
 refine cq ?_;refine cu λσ o3 w3 lP hS=>?_;obtain⟨rfl,rfl⟩:=hS;clear lP;simp only[ij,dz,if_true,if_false,reduceIte,Nat.reduceEqDiff];refine je W (t:=decide (s.rd.length=s.src.length)) (by simp[Act.eval];rw[en];simp;omega) ?_;by_cases hc:s.rd.length=s.src.length
 ·rw[if_pos (cW hc)];refine ay ?_;refine dA bS h1.aH rfl ak ak ?_ rfl (R:=λwl aX=>aX=wl.setCell ⟨K.kb,7,we⟩ (.int .i64 3)) (λwl aW=>⟨_,?_,rfl⟩) λwl aX w9 aW hR bP=>?_
  ·exact jF (bX h1.own) dV
  ·have rl:=World.rowIs.of_block h1.row (aW.heap _ h1.own);have e1:=rl.cell (i:=7) aa;have f:=rl.frozen;simp[go_sem,e1,f]
  have hO:eM K.kb wl aX:=by rw[hR];exact iX _ _ _ _
  obtain⟨lR,oh,e9⟩:=bP.only aW h1.own hO;have nT:=bP.aH;rw[e9]at nT |-;rw[hR]at oh;have h9:=h1.put (s':={s with phase:=3}) (lk':=lk) nT lR ((World.rowIs.of_block ((World.rowIs.of_block h1.row (aW.heap _ h1.own)).set 7 _) oh).congr λj hj=>by
   rcases nn hj with rfl|rfl|rfl|rfl|rfl|rfl|rfl|rfl|rfl|rfl|rfl|rfl|rfl<;>rfl) rfl rfl ⟨h1.gF.2.2.1,h1.gF.2.2.2.1,h1.gF.2.2.2.2.1⟩
  have S9:cU o1 w1 dD o1 w9 dD:=.of (bC.dM (ex:=(·=K.kb)) nT lR rfl) λb hb=>by rw[hb,h1.l0];omega
  have dE:w.heap.size≠K.kb:=λe=>by have:=h1.l0;rw[<- e,qG]at this;omega
  have Kf:=(lR.2 _ dE).trans sV;clear hR bP aW hO oh wl aX e9;refine ay ?_;refine b5 func64 (AW h9 hc lo F Hk file mG (R2 hc)) ?_;rintro v0 o4 w4 ⟨s',sx,vO,h4,S4⟩;have HQ:sx w.heap.size=7:=(S4.lab _ (by rw[lR.1];omega)).trans qG;have yO:=(S4.br.same w.heap.size (by rw[lR.1];omega) (by rw[qG];omega)).trans Kf;have tH:=S4.br.more _ xa;have S94:=S9.trans S4;obtain⟨dn,dx,rfl⟩:=vO.shape;unfold did at vO |-;walk_nrm;refine mA dn dx h4.aH tH yO λwA AV Af sX=>?_;obtain⟨hA,SA⟩:=h4.did tG yR S94 HQ AV Af;refine ay ?_;have c9:∀n,(wA.at n).cell? ⟨w.heap.size,0,we⟩=so (.int .i64 dn)/\(wA.at n).cell? ⟨w.heap.size,1,we⟩=so (.string dx):=λn=>⟨(dY sX).1,(dY sX).2.1⟩;refine⟨.inr trivial,trivial,.agg #[.int .i64 dn,.string dx],xc (λn=>?_) (λn e he=>?_),s',sx,.inl ⟨hc,vO⟩,hA,SA⟩
  ·obtain⟨c0,c1⟩:=c9 n;simp[results,results63,go_sem,c0,c1]
  ·obtain⟨c0,c1⟩:=c9 n;simp[results,results63,go_sem,c0,c1]at he;rcases he with rfl|rfl;all_goals exact⟨_,_,_,rfl,tH⟩
 rw[if_neg (by simpa using hc)];have cx:s.rd.length<s.src.length:=aa;obtain⟨rfl,RQ⟩:=vJ λq=>by rw[q]at cx;simp at cx
 have hT:=eH s.rd.length cx;rw[bt]at hT;have zh:(s.rd.length:Int)<s.src.length:=aa;generalize hx:s.src[s.rd.length]=x at hT;refine ay ?_;refine dH mixed ai [so we,so we,so we,so (so (.slice (so ⟨sb,0,we⟩) s.src.length sc)),so we,so we,so we,so (so (.slice rp s.rd.length rc)),so we,so we,so (so (.string x)),so we]
  (S:=λσ o' w'=>o1=o'/\w1=w') ⟨rfl,rfl⟩ λv=>?_
 refine dN ?_;refine cq ?_;refine dsP (λσ o' w' H hS=>?_) ?_
 ·obtain⟨rfl,rfl⟩:=hS;exact sR h1.aH h1.own c9
 refine cq ?_;refine dsP (λσ o' w' H hS=>?_) ?_
 ·obtain⟨rfl,rfl⟩:=hS;exact sR h1.aH h1.own c10
 refine cq ?_;refine dsP (λσ o' w' H hS=>?_) ?_
 ·obtain⟨rfl,rfl⟩:=hS;exact sR h1.aH RQ hT
 refine cq ?_;refine cu λσ o3 w3 lP hS=>?_;obtain⟨rfl,rfl⟩:=hS;clear lP;simp only[ij,dz,if_true,if_false,reduceIte,Nat.reduceEqDiff];generalize hz:cN s.st x=rz;generalize KY:(dG s.th x).1=s1;generalize Cx:(dG s.th x).2=s2;have Wc:=h1.reads.cl;rw[K9]at Wc;refine ay ?_;refine dH mixed ai [so we,so we,so we,so we,so (so (.slice rp s.rd.length rc)),so we,so we,so we,so (so (.pointer (so ⟨K.fb,0,we⟩))),so we,so (so (.agg #[.bool s1,.string s2,.int .i64 rz])),we,we,so we,so we,we]
  (S:=λσ o' w'=>(σ 12=we/\σ 15=we/\bC (λ_=>False) o1 w1 o' w'/\∀y,σ 11=so y->∃Nb,y=.slice (so ⟨Nb,0,we⟩) 1 1/\w1.heap.size<=Nb/\o' Nb/\w'.heap[Nb]?=so (.cells #[.bool s1,.string s2,.int .i64 rz] 194)) \/
   (∃y,σ 12=so y/\σ 15=we/\(∃p l c,y=.slice p l c)/\K8 o' w' y (s.rd++[((s1,s2),rz)])/\bC (λb=>s.rv.ownBlock=so b) o1 w1 o' w'/\∀b,y.ownBlock=so b->s.rv.ownBlock=so b\/w1.heap.size<=b) \/
   (∃y,σ 12=so y/\σ 15≠we/\K8 o' w' y (s.rd++[((s1,s2),rz)])/\bC (λb=>b=K.kb\/s.rv.ownBlock=so b) o1 w1 o' w'/\(∀b,y.ownBlock=so b->s.rv.ownBlock=so b\/w1.heap.size<=b)/\w'.rowIs K.kb 120 13 (sw K {s with rv:=y,rd:=s.rd++[((s1,s2),rz)]} lk))) (.inl ⟨rfl,rfl,hW0,λy hy=>by cases hy⟩) λv=>?_
 refine dN ?_;refine cq ?_;refine dsP (λσ o' w' H hS=>?_) ?_
 ·rcases hS with⟨-,-,hW,-⟩|⟨y,p5,-⟩|⟨y,p5,-⟩
  ·have mm:=hW.more _ h1.own;exact sR hW.aH mm ((cell_of (hW.same _ UA id)).trans c10)
  ·rw[H.qJ [] 12 ai]at p5;cases p5
  ·rw[H.qJ [] 12 ai]at p5;cases p5
 refine cq ?_;refine dsP (λσ o' w' H hS=>?_) ?_
 ·rcases hS with⟨-,-,hW,-⟩|⟨y,p5,-⟩|⟨y,p5,-⟩
  ·have mm:=hW.more _ h1.own;exact sR hW.aH mm ((cell_of (hW.same _ UA id)).trans c3)
  ·rw[H.qJ [11,10] 12 ai]at p5;cases p5
  ·rw[H.qJ [11,10] 12 ai]at p5;cases p5
 refine cq ?_;refine jO rfl rfl ak rfl func100 ai rfl (av:=#[.pointer (so ⟨K.fb,0,we⟩),.string x]) aK (λσ o' w' H hS=>?_) ?_
 ·rcases hS with⟨p5,R4,hW,-⟩|⟨y,p5,-⟩|⟨y,p5,-⟩
  ·refine(Zd hW.aH ((h1.yQ hW).1).files x).mono ?_;rintro y o2 w2 ⟨rfl,N⟩;exact⟨by rw[KY,Cx,hz],.inl ⟨p5,R4,hW.trans (bC.dJ N),λy hy=>by rw[H.xA 11 ai]at hy;cases hy⟩⟩
  ·rw[H.qJ [11] 12 ai]at p5;cases p5
  ·rw[H.qJ [11] 12 ai]at p5;cases p5
 walk_nrm;refine qp bS rfl rfl rfl ak ak (λσ o' w' H h11 hS=>?_) ?_
 ·rcases hS with⟨p5,R4,hW,-⟩|⟨y,p5,-⟩|⟨y,p5,-⟩
  ·refine⟨hW.aH,λy hy=>?_,λwl v aX=>v=.slice (so ⟨wl.heap.size,0,we⟩) 1 1/\aX=wl.alloc (.cells #[.bool s1,.string s2,.int .i64 rz] 194),λwl aW=>⟨_,_,by simp[go_sem,Act.eval],rfl,rfl⟩,λwl y aX w2 aW hR bP=>?_⟩
   ·simp[Op.operands]at hy;subst hy;simp[Act.eval];exact fW (vs:=[_,_,_]) (λx hx=>by
     simp at hx;rcases hx with rfl|rfl|rfl
     ·exact mY
     ·exact bQ
     ·exact dV)
   ·obtain⟨rfl,hR⟩:=hR;obtain⟨z2,k2,VZ⟩:=bP.alloc hW.aH aW hR;refine .inl ⟨by simpa[fM] using p5,by simpa[fM] using R4,hW.trans ⟨bP.aH,jf,λb hb=>hb.imp id λq=>q.1,aa,λb hb _=>k2 b hb⟩,λy hy=>?_⟩;simp only[fM,if_true,aA]at hy;exact⟨w'.heap.size,by rw[<- hy,aW.size],hW.size,.inr ⟨ah _,aa⟩,VZ⟩
  ·rw[H.xA 12 ai]at p5;cases p5
  ·rw[H.xA 12 ai]at p5;cases p5
 walk_nrm;refine qp bS rfl rfl rfl ak ak (λσ o' w' H p5 hS=>?_) ?_
 ·rcases hS with⟨-,R4,hW,h9⟩|⟨y,q,-⟩|⟨y,q,-⟩
  ·obtain⟨Nb,hy,hNz,Zh,Xx⟩:=h9 _ (H.done 11 ai rfl);have hq:=((h1.yQ hW).1).reads;rw[K9]at hq;obtain⟨Ui,aeV,cp⟩:=hq.row;have hqo:=iC hW.aH hq.cl;refine⟨hW.aH,λy Oo=>?_,λwl v aX=>aX.ownsRow Ui 194 3 v (s.rd++[((s1,s2),rz)]).length (fe (s.rd++[((s1,s2),rz)]))/\wl.grownBy aX (Value.slice rp s.rd.length rc).ownBlock/\(v.ownBlock=(Value.slice rp s.rd.length rc).ownBlock\/v.ownBlock=so wl.heap.size),λwl aW=>?_,λwl y aX w2 aW hR bP=>?_⟩
   ·simp[Op.operands,Call.operands]at Oo;rcases Oo with rfl|rfl
    ·simp[Act.eval];exact hq.cl
    ·simp[Act.eval];rw[hy];exact dW Zh
   ·obtain⟨v',W',e1,e2,e3,e4⟩:=Ag wl Ui (.slice rp s.rd.length rc) s.rd ((s1,s2),rz) Nb (dC cp λg hg _=>aW.heap g (hqo g hg.symm)) aa (by rw[aW.size];exact aeV) ((aW.heap _ Zh).trans Xx);exact⟨v',W',jz (.tmp 39) (.tmp 46) 110 rfl aK (by simp[Act.eval];exact hy) e1,e2,e3,e4⟩
   ·obtain⟨r1,r2,r3⟩:=hR;obtain⟨q1,q2,q3⟩:=K8.add hW.aH hq aa aW bP aeV r1 r2 r3;refine .inr (.inl ⟨y,by simp[fM],by simpa[fM] using R4,?_,q1,?_,λb hb=>?_⟩)
    ·obtain⟨-,ga⟩:=r1;rcases ga with⟨rfl,-⟩|⟨g',cap,cur,rfl,-⟩
     ·exact⟨_,_,_,rfl⟩
     ·exact⟨_,_,_,rfl⟩
    ·rw[K9];exact(hW.mono λb hb=>hb.elim).trans q2
    ·rw[K9];exact(q3 b hb).imp id λq=>aY hW.size q
  ·rw[p5]at q;cases q
  ·rw[p5]at q;cases q
 refine cq ?_;refine pM bS rfl rfl rfl ak ak (λσ o' w' H R4 hS=>?_) ?_
 ·rcases hS with⟨p5,-⟩|⟨y,p5,-,⟨p,l,c,rfl⟩,q1,q2,q3⟩|⟨y,p5,q,-⟩
  ·rw[H.done 12 ai rfl]at p5;cases p5
  ·have hv:v 12=.slice p l c:=aT ((H.done 12 ai rfl).symm.trans p5);have hk:=q2.more _ h1.own;have dE:s.rv.ownBlock≠so K.kb:=λe=>by have:=h1.l5 _ e;rw[h1.l0]at this;omega
   have UB:=World.rowIs.of_block h1.row (q2.same _ UA dE);refine⟨q2.aH,λy hy=>?_,λwl aX=>aX=wl.setCell ⟨K.kb,10,we⟩ (.slice p l c),λwl aW=>⟨_,?_,rfl⟩,λwl aX w2 aW hR bP=>?_⟩
   ·simp[Op.operands]at hy;rcases hy with rfl|rfl
    ·simp[Act.eval];exact bX hk
    ·simp[Act.eval];rw[hv];exact q1.cl
   ·have rl:=World.rowIs.of_block UB (aW.heap _ hk);have e1:=rl.cell (i:=10) aa;have f:=rl.frozen;simp[go_sem,Act.eval,hv,e1,f]
   ·have hO:eM K.kb wl aX:=by rw[hR];exact iX _ _ _ _
    obtain⟨on,oh,e9⟩:=bP.only aW hk hO;have nT:=bP.aH;rw[e9]at nT |-;rw[hR]at oh;refine .inr (.inr ⟨.slice p l c,by simpa[fM] using p5,by simp[fM],q1.keep (λ_ q=>q) (bI on.1.symm) (λg hg=>on.2 g λe=>?_),(q2.mono λb hb=>.inr hb).trans (bC.dM nT on (.inl rfl)),q3,(World.rowIs.of_block ((World.rowIs.of_block UB (aW.heap _ hk)).set 10 _) oh).congr λj hj=>?_⟩)
    ·rcases q3 g hg with q|q
     ·exact dE (by rw[q,e])
     ·omega
    ·rcases nn hj with rfl|rfl|rfl|rfl|rfl|rfl|rfl|rfl|rfl|rfl|rfl|rfl|rfl<;>rfl
  ·exact absurd R4 q
 walk_nrm;refine cu λσ o5 w5 lP hS=>?_;rcases hS with⟨p5,-⟩|⟨y,p5,R4,-⟩|⟨y,-,-,q1,q2,q3,q4⟩
 ·rw[lP 12 eB rfl]at p5;cases p5
 ·rw[lP 15 eB rfl]at R4;cases R4
 clear lP;simp only[ij,dz,if_true,if_false,reduceIte,Nat.reduceEqDiff];obtain⟨nV,h5,S5⟩:=h1.abh q2 q1 q3 q4 eP;have R5:nV w.heap.size=7:=(S5.lab _ aa).trans qG;have Kf:=(S5.br.same w.heap.size aa (by rw[qG];omega)).trans sV;have xj:=S5.br.more _ xa;clear q1 q2 q3 q4;refine ay ?_;refine mA 3 x h5.aH xj Kf λwA AV Af sX=>?_;obtain⟨hA,SA⟩:=h5.did tG yR S5 R5 AV Af;refine ay ?_;have c9:∀n,(wA.at n).cell? ⟨w.heap.size,0,we⟩=so (.int .i64 3)/\(wA.at n).cell? ⟨w.heap.size,1,we⟩=so (.string x):=λn=>⟨(dY sX).1,(dY sX).2.1⟩;refine⟨.inr trivial,trivial,.agg #[.int .i64 3,.string x],xc (λn=>?_) (λn e he=>?_),_,nV,.inr ⟨cx,by rw[hx];rfl,y,by rw[hx,hz,<- KY,<- Cx]⟩,hA,SA⟩
 ·obtain⟨c0,c1⟩:=c9 n;simp[results,results63,go_sem,c0,c1]
 ·obtain⟨c0,c1⟩:=c9 n;simp[results,results63,go_sem,c0,c1]at he;rcases he with rfl|rfl;all_goals exact⟨_,_,_,rfl,xj⟩
def bp.XL(h:bp o w K s lk lab)(hF:bO ax L0 o w')(hO:eM K.kb w w')(hr:w'.rowIs K.kb 120 13 (λj=>if j=4+1 then .bool false else if j=4 then .slice we 0 0 else sw K s lk j)):
  bp o w' K {s with qv:=.slice we 0 0,qn:=[],lost:=false} lk lab:=by
 have hW:bC (·=K.kb) o w o w':=bC.dM hF hO rfl;have P:=h.parts hW 0 0 λb hb=>.inl (by rw[hb];exact h.l0);have q6:=P.set aa aa;obtain⟨f1,f2,f3⟩:=h.gF;refine⟨hF,hr.congr λj hj=>?_,h.own,P.build aa aa,P.files aa aa,⟨⟨0,aV _,ar,.inl ⟨rfl,rfl⟩⟩,iP⟩,P.cZ aa aa,P.reads aa aa,⟨q6.blk,q6.own,q6.res,q6.cl,q6.gF,q6.gD⟩,h.l0,h.l1,h.l2,(λb hb=>by cases hb),h.l4,h.l5,h.l6,ar,f2,f3⟩;rcases nn hj with rfl|rfl|rfl|rfl|rfl|rfl|rfl|rfl|rfl|rfl|rfl|rfl|rfl<;>rfl
def bp.XM(h:bp o w K s lk lab)(hW:bC (·=K.B.bb) o w o' w'){fd':Option (Nat×cT)}(hB:fL o' w' K.B fd' s.old){mid:Nat}(hm:∀b,nE K.B fd' s.old b->b<mid)(uL:K.B.bb<w.heap.size)(hx:∀b,nE K.B fd' s.old b->nE K.B s.fd s.old b\/w.heap.size<=b):
  ∃lab',bp o' w' K {s with fd:=fd'} lk lab'/\cU o w lab o' w' lab'/\∀b,w.heap.size<=b->mid<=b->lab' b=4:=by
 have xy:∀b,b=K.B.bb->lab b=1:=λb hb=>(h.l1 b (.inl hb)).trans (if_neg (by have:=h.build.apart.2.2.2.2.1;omega));have P:=h.parts hW 1 1 λb hb=>.inl (xy b hb);obtain⟨a1,a2,a3,a4⟩:=h.all;have lb:∀b,o b->(if w.heap.size<=b then(if mid<=b then 4 else 1)else lab b)=lab b:=λb hb=>if_neg (by have:=h.aH.lt hb;omega);have q6:=P.set aa aa;refine⟨λb=>if w.heap.size<=b then(if mid<=b then 4 else 1)else lab b,⟨hW.aH,P.row aa aa,hW.more _ h.own,hB,P.files aa aa,P.queue aa aa,P.cZ aa aa,P.reads aa aa,⟨q6.blk,q6.own,q6.res,q6.cl,q6.gF,q6.gD⟩,(lb _ h.own).trans h.l0,λb hb=>?_,λb hb=>(lb b ?_).trans (h.l2 b hb),λb hb=>(lb b (a1 b hb)).trans (h.l3 b hb),λb hb=>(lb b (a2 b hb)).trans (h.l4 b hb),λb hb=>(lb b (a3 b hb)).trans (h.l5 b hb),λb hb=>(lb b (a4 b hb)).trans (h.l6 b hb),h.gF⟩,⟨hW.mono λb hb=>by rw[xy b hb];omega,λb hb=>if_neg aa⟩,λb h1 h2=>by simp[h1,h2]⟩
 ·have:=hm b hb;rcases hx b hb with q|q
  ·exact(lb b (h.build.own b q)).trans (h.l1 b q)
  ·have h4:=h.build.apart.2.2.2.2.1;rw[if_pos q,if_neg aa];exact(if_neg aa).symm
 ·rcases hb with rfl|rfl|rfl
  ·exact h.files.own.1
  ·exact h.files.own.2.1
  ·exact h.files.own.2.2
def bp.started(h:bp o w K s lk lab){Kn:Value}{abk:List af}(hF:bO ax L0 o w')(hO:eM K.kb w w')(hr:w'.rowIs K.kb 120 13 (sw K {s.stand 2 0 with sv:=Kn,src:=abk} lk))(ht:R3 o w Kn abk)(hl:∀b,Kn.ownBlock=so b->lab b=4):bp o w' K {s.stand 2 0 with sv:=Kn,src:=abk} lk lab:=by
 have hW:bC (·=K.kb) o w o w':=bC.dM hF hO rfl;have P:=h.parts hW 0 0 λb hb=>.inl (by rw[hb];exact h.l0);have q6:=P.set aa aa;obtain⟨f1,f2,f3,f4,f5,f6⟩:=h.gF;exact⟨hF,hr,h.own,P.build aa aa,P.files aa aa,P.queue aa aa,ht.keep (λ_ q=>q) (λg hg=>hO.2 g λe=>by have:=hl g hg;rw[e,h.l0]at this;omega),OB,⟨q6.blk,q6.own,q6.res,q6.cl,q6.gF,q6.gD⟩,h.l0,h.l1,h.l2,h.l3,hl,(λb hb=>by cases hb),h.l6,f1,f2,f3,aV _,aV _,aV _⟩
def Ko{B:uO}{fd:Option (Nat×cT)}{old:Nat->Option (Nat×List V)}(h:fL o w B fd old):(dZ B.NM B.rs).length<=1000:=by
 have q1:=uK (lF (B.rs.map (·.out)) (D8 B.NM B.rs) B.rs.length);have q2:=oM (B.rs.map (·.out)) (D8 B.NM B.rs) B.rs.length (λi hi=>by rw[lu hi];exact h.right.four _ (aG hi)) B.rs.length (ah _);have q3:=h.rules.gF;have:(dZ B.NM B.rs).length<=(lF (B.rs.map (·.out)) (D8 B.NM B.rs) B.rs.length).length:=q1;omega
def MW{B:uO}{fd:Option (Nat×cT)}{old:Nat->Option (Nat×List V)}{lo n:Nat}{F:cT}(h:fL o w B (so (lo,F)) old)(hf:fd=so (lo,F)\/fd=we/\lo=n):∀b,nE B (so (lo,F)) old b->nE B fd old b\/n<=b:=λb hb=>by
 rcases hf with rfl|⟨rfl,rfl⟩
 ·exact .inl hb
 ·rcases hb with q|q|q|q|q|⟨Ui,F',e,q⟩|q
  ·exact .inl (.inl q)
  ·exact .inl (.inr (.inl q))
  ·exact .inl (.inr (.inr (.inl q)))
  ·exact .inl (.inr (.inr (.inr (.inl q))))
  ·exact .inl (.inr (.inr (.inr (.inr (.inl q)))))
  ·cases e;obtain⟨y0,y1,y2,-,hp⟩:=h.blk;exact .inr ((hp _ _ rfl).ge q)
  ·exact .inl (.inr (.inr (.inr (.inr (.inr (.inr q))))))
def gY.tat{lo:Nat}{ts:List af}{v:Value}(h:gY lo ts v w)(hc:Cl ax L0 o v)(hg:∀g l c,v=.slice (so ⟨g,0,we⟩) l c->o g)(hl:ts.length<=1000):R3 o w v ts:=by
 refine⟨?_,hc,hl⟩;rcases h.own with⟨e,e2⟩|⟨g,cap,e,g1,g2,g3⟩
 ·exact⟨we,0,0,by rw[e2];exact e,λ_=>e2,λq=>absurd e2 q,λi hi=>by rw[e2]at hi;simp at hi⟩
 ·exact⟨_,g,cap,e,(λq=>by cases q),λ_=>⟨rfl,hg g _ _ e⟩,g3⟩
def Hm(K:mK)(s s':fO)(v:Value):Prop :=
 ((0<s.qn.length\/s.lost=true)/\v=did 1 aR/\s'=fO.stand {s with qv:=.slice we 0 0,qn:=[],lost:=false} 1 s.time) \/
 (¬(0<s.qn.length\/s.lost=true)/\(s.phase=1/\s.since+5<=s.time)/\v=did 2 aR/\∃lo F Kn,s'={s.stand 2 0 with fd:=so (lo,F),sv:=Kn,src:=dZ K.B.NM K.B.rs}) \/
 (¬(0<s.qn.length\/s.lost=true)/\¬(s.phase=1/\s.since+5<=s.time)/\v=did 0 aR/\s'=s)
def abl(h:bp o w K s lk lab):
  bA ax (XB ax Fin 0) 65 #[.pointer (so ⟨K.kb,0,we⟩)] o w λv o' w'=>∃s' lab',Hm K s s' v/\bp o' w' K s' lk lab'/\cU o w lab o' w' lab':=by
 have W:=bY (P:=ax) (Fin:=Fin) (d:=0);refine eD W func65 ak ?_;walk_nrmf Tryz.f65;refine ay ?_;refine dm bS h.aH rfl ak ak nf rfl (R:=λwl v aX=>v=.pointer (so ⟨wl.heap.size,0,we⟩)/\aX=wl.alloc (Obj.cells #[.int .i64 0,.string aR] 32)) (λwl aW=>⟨_,_,by simp[go_sem];rfl,rfl,rfl⟩) λwl v1 aX w1 aW hR bP=>?_;obtain⟨rfl,hR⟩:=hR;obtain⟨z1,k1,sV⟩:=bP.alloc h.aH aW hR;have lz:=bP.aH;rw[aW.size];clear hR bP aW wl aX;obtain⟨dD,h1,yR,qG,xa,tG⟩:=h.opened lz z1 k1;generalize grow o w w1=o1 at *;obtain⟨p,b,c,hqv,-,-,-,-⟩:=h1.queue.view h1.aH;have c4:w1.cell? ⟨K.kb,4,we⟩=so (.slice p s.qn.length c):=by rw[h1.row.cell aa];exact congrArg so hqv
 have c5:w1.cell? ⟨K.kb,5,we⟩=so (.bool s.lost):=by rw[h1.row.cell aa];rfl
 have c6:w1.cell? ⟨K.kb,6,we⟩=so (.int .i64 s.time):=by rw[h1.row.cell aa];rfl
 have c7:w1.cell? ⟨K.kb,7,we⟩=so (.int .i64 s.phase):=by rw[h1.row.cell aa];rfl
 have c8:w1.cell? ⟨K.kb,8,we⟩=so (.int .i64 s.since):=by rw[h1.row.cell aa];rfl
 have UA:=h1.aH.lt h1.own;have S11:cU o1 w1 dD o1 w1 dD:=.of (ex:=λ_=>False) (bC.refl h1.aH) λb hb=>hb.elim;have dE:w.heap.size≠K.kb:=λe=>by have:=h1.l0;rw[<- e,qG]at this;omega
 refine ay ?_;refine b5 func103 (XF h1.aH K.kb 4 s.qn.length c p s.lost h1.own c4 c5) ?_;rintro v0 o2 w2 ⟨rfl,rfl,rfl⟩;refine ay ?_;refine je W (t:=decide (0<s.qn.length)||s.lost) aK ?_;by_cases hq:0<s.qn.length\/s.lost=true
 ·rw[if_pos (by simpa using hq)];refine ay ?_;refine b5 func104 (XG h1.aH K.kb 4 120 13 _ h1.own h1.row aa) ?_;rintro v0 o2' w3 ⟨rfl,rfl,mJ,Ki,ajw⟩;have h3:=h1.XL mJ Ki ajw;have S3:cU o2' w2 dD o2' w3 dD:=.of (bC.dM (ex:=(·=K.kb)) mJ Ki rfl) λb hb=>by rw[hb,h1.l0];omega
  refine ay ?_;refine b5 func102 (Uy h3) ?_;rintro v0 o4 w4 ⟨rfl,S4,h4⟩;have S34:=S3.trans S4;have yO:=(S34.br.same w.heap.size aa (by rw[qG];omega)).trans sV;have tH:=S34.br.more _ xa;refine ay ?_;refine mA 1 aR h4.aH tH yO λwA AV Af sX=>?_;obtain⟨hA,SA⟩:=h4.did tG yR S34 qG AV Af;refine ay ?_;have c9:∀n,(wA.at n).cell? ⟨w.heap.size,0,we⟩=so (.int .i64 1)/\(wA.at n).cell? ⟨w.heap.size,1,we⟩=so (.string aR):=λn=>⟨(dY sX).1,(dY sX).2.1⟩;refine⟨.inr trivial,trivial,.agg #[.int .i64 1,.string aR],xc (λn=>?_) (λn e he=>?_),_,dD,.inl ⟨hq,rfl,rfl⟩,hA,SA⟩
  ·obtain⟨c0,c1⟩:=c9 n;simp[results,results65,go_sem,c0,c1]
  ·obtain⟨c0,c1⟩:=c9 n;simp[results,results65,go_sem,c0,c1]at he;rcases he with rfl|rfl;all_goals exact⟨_,_,_,rfl,tH⟩
 rw[if_neg (by simpa using hq)];refine ay ?_;obtain⟨-,-,f3,f4,-⟩:=h1.gF;by_cases hp:s.phase=1
 ·have hpi:((s.phase:Int)==1)=true:=by simp[hp]
  have zy:IntKind.i64.wrap ((s.time:Int)-s.since)=(s.time:Int)-s.since:=by rw[IntKind.wrap_i64]<;>omega
  refine dH mixed ai [so we,so we,so we,so we,so (so (.int .i64 s.phase)),so we,so we,so we,so we,so we,so (so (.int .i64 s.time)),so we,so we,so we,so we,so (so (.int .i64 s.since)),so we,so we,so we]
   (S:=λσ o' w'=>o2=o'/\w2=w') ⟨rfl,rfl⟩ λv=>?_
  refine dN ?_;refine cq ?_;refine dsP (λσ o' w' H hS=>?_) ?_
  ·obtain⟨rfl,rfl⟩:=hS;exact sR h1.aH h1.own c7
  walk_nrm;refine pL (y:=.bool true) rfl rfl rfl ak (λw1=>by simp[go_sem,Act.eval,hpi]) (λw1=>by simp[go_sem,Act.eval]) ?_;refine cq ?_;refine dsP (λσ o' w' H hS=>?_) ?_
  ·obtain⟨rfl,rfl⟩:=hS;exact sR h1.aH h1.own c6
  refine cq ?_;refine dsP (λσ o' w' H hS=>?_) ?_
  ·obtain⟨rfl,rfl⟩:=hS;exact sR h1.aH h1.own c8
  refine cq ?_;refine cu λσ o3 w3 lP hS=>?_;obtain⟨rfl,rfl⟩:=hS;clear lP;simp only[ij,dz,if_true,if_false,reduceIte,Nat.reduceEqDiff];refine je W (t:=decide (s.since+5<=s.time)) (by simp[Act.eval,zy];omega) ?_;by_cases ht:s.since+5<=s.time
  ·rw[if_pos (cW ht)];have c2:w2.cell? ⟨K.kb,2,we⟩=so (.pointer (so ⟨K.B.bb,0,we⟩)):=by rw[h1.row.cell aa];rfl
   refine ay ?_;refine jJ h1.aH h1.own c2 λ_=>?_;refine ay ?_;refine b5 func44 (FN h1.aH K.B s.fd s.old h1.build) ?_;rintro v3 o3 w3 ⟨W3,⟨lo,F,mid,hB,Hk,NP,hm,hmv⟩,aeY,ht3,hg3⟩;obtain⟨mB,h3,S3,L3⟩:=h1.XM W3 hB hm (h1.aH.lt (h1.build.own _ (.inl rfl))) (MW hB Hk);obtain⟨p3,l3,c3,rfl⟩:=uP ht3;have tat:=ht3.tat aeY hg3 (Ko hB);have Bi:mB w.heap.size=7:=(S3.lab _ aa).trans qG;have sF:=(S3.br.same w.heap.size aa (by rw[qG];omega)).trans sV;have vu:=S3.br.more _ xa;refine ay ?_;refine dA bS h3.aH rfl ak ak ?_ rfl (R:=λwl aX=>aX=((((wl.setCell ⟨K.kb,7,we⟩ (.int .i64 (2:Nat))).setCell ⟨K.kb,8,we⟩ (.int .i64 (0:Nat))).setCell ⟨K.kb,9,we⟩ (.slice p3 l3 c3)).setCell ⟨K.kb,10,we⟩ (.slice we 0 0)).setCell ⟨K.kb,11,we⟩ (.int .i64 0)) (λwl aW=>⟨_,?_,rfl⟩) λwl aX w9 aW hR bP=>?_
   ·refine jF ?_ ?_
    ·exact bX h3.own
    ·exact fW (vs:=[_,_,_,_,_]) (λx hx=>by
      simp at hx;rcases hx with rfl|rfl|rfl|rfl|rfl
      ·exact dV
      ·exact dV
      ·exact aeY
      ·exact iP
      ·exact dV)
   ·have rl:=World.rowIs.of_block h3.row (aW.heap _ h3.own);have e7:=rl.cell (i:=7) aa;have e8:=rl.cell (i:=8) aa;have e9:=rl.cell (i:=9) aa;have KU:=rl.cell (i:=10) aa;have Pp:=rl.cell (i:=11) aa;have f:=rl.frozen;simp[go_sem,e7,e8,e9,KU,Pp,f]
   have hO:eM K.kb wl aX:=by rw[hR];exact Ux _ _ _ _ _ _ _ _ _ _ _ _
   obtain⟨lR,oh,e9⟩:=bP.only aW h3.own hO;have nT:=bP.aH;rw[e9]at nT |-;rw[hR]at oh;have h9:=h3.started nT lR ((World.rowIs.of_block ((((((World.rowIs.of_block h3.row (aW.heap _ h3.own)).set 7 _).set 8 _).set 9 _).set 10 _).set 11 _) oh).congr λj hj=>by
    rcases nn hj with rfl|rfl|rfl|rfl|rfl|rfl|rfl|rfl|rfl|rfl|rfl|rfl|rfl<;>rfl) tat (λb hb=>L3 b (by have:=hmv b hb;omega) (hmv b hb))
   have S9:=S3.trans (.of (bC.dM (ex:=(·=K.kb)) nT lR rfl) λb hb=>by rw[hb,h3.l0];omega);have kbA:=(lR.2 _ dE).trans sF;clear hR bP aW hO oh wl aX e9;refine ay ?_;refine mA 2 aR h9.aH vu kbA λwA AV Af sX=>?_;obtain⟨hA,SA⟩:=h9.did tG yR S9 Bi AV Af;refine ay ?_;have c9:∀n,(wA.at n).cell? ⟨w.heap.size,0,we⟩=so (.int .i64 2)/\(wA.at n).cell? ⟨w.heap.size,1,we⟩=so (.string aR):=λn=>⟨(dY sX).1,(dY sX).2.1⟩;refine⟨.inr trivial,trivial,.agg #[.int .i64 2,.string aR],xc (λn=>?_) (λn e he=>?_),_,mB,.inr (.inl ⟨hq,⟨hp,ht⟩,rfl,lo,F,_,rfl⟩),hA,SA⟩
   ·obtain⟨c0,c1⟩:=c9 n;simp[results,results65,go_sem,c0,c1]
   ·obtain⟨c0,c1⟩:=c9 n;simp[results,results65,go_sem,c0,c1]at he;rcases he with rfl|rfl;all_goals exact⟨_,_,_,rfl,vu⟩
  ·rw[if_neg (by simpa using ht)];refine ay ?_;refine mA 0 aR h1.aH xa sV λwA AV Af sX=>?_;obtain⟨hA,SA⟩:=h1.did tG yR S11 qG AV Af;refine ay ?_;have c9:∀n,(wA.at n).cell? ⟨w.heap.size,0,we⟩=so (.int .i64 0)/\(wA.at n).cell? ⟨w.heap.size,1,we⟩=so (.string aR):=λn=>⟨(dY sX).1,(dY sX).2.1⟩;refine⟨.inr trivial,trivial,.agg #[.int .i64 0,.string aR],xc (λn=>?_) (λn e he=>?_),_,dD,.inr (.inr ⟨hq,λq=>ht q.2,rfl,rfl⟩),hA,SA⟩
   ·obtain⟨c0,c1⟩:=c9 n;simp[results,results65,go_sem,c0,c1]
   ·obtain⟨c0,c1⟩:=c9 n;simp[results,results65,go_sem,c0,c1]at he;rcases he with rfl|rfl;all_goals exact⟨_,_,_,rfl,xa⟩
 ·have hpi:((s.phase:Int)==1)=false:=eP;refine dH mixed ai [so we,so we,so we,so we,so (so (.int .i64 s.phase)),so we,so we,so (so undef),so (so undef),so (so undef),so (so undef),so (so undef),so (so undef),so (so undef),so (so undef),so (so undef),so (so undef),so (so undef),so we]
   (S:=λσ o' w'=>o2=o'/\w2=w') ⟨rfl,rfl⟩ λv=>?_
  refine dN ?_;refine cq ?_;refine dsP (λσ o' w' H hS=>?_) ?_
  ·obtain⟨rfl,rfl⟩:=hS;exact sR h1.aH h1.own c7
  walk_nrm;refine pL (y:=.bool false) rfl rfl rfl ak (λw1=>by simp[go_sem,Act.eval,hpi]) (λw1=>by simp[go_sem,Act.eval]) ?_;refine cq ?_
  iterate 11 (refine pr rfl rfl ak ?_;walk_nrm)
  refine cq ?_;refine cu λσ o3 w3 lP hS=>?_;obtain⟨rfl,rfl⟩:=hS;clear lP;simp only[ij,dz,if_true,if_false,reduceIte,Nat.reduceEqDiff];refine je W (t:=false) aK ?_;refine ay ?_;refine mA 0 aR h1.aH xa sV λwA AV Af sX=>?_;obtain⟨hA,SA⟩:=h1.did tG yR S11 qG AV Af;refine ay ?_;have c9:∀n,(wA.at n).cell? ⟨w.heap.size,0,we⟩=so (.int .i64 0)/\(wA.at n).cell? ⟨w.heap.size,1,we⟩=so (.string aR):=λn=>⟨(dY sX).1,(dY sX).2.1⟩;refine⟨.inr trivial,trivial,.agg #[.int .i64 0,.string aR],xc (λn=>?_) (λn e he=>?_),_,dD,.inr (.inr ⟨hq,λq=>hp q.1,rfl,rfl⟩),hA,SA⟩
  ·obtain⟨c0,c1⟩:=c9 n;simp[results,results65,go_sem,c0,c1]
  ·obtain⟨c0,c1⟩:=c9 n;simp[results,results65,go_sem,c0,c1]at he;rcases he with rfl|rfl;all_goals exact⟨_,_,_,rfl,xa⟩
def xn{Post:Value->aM->ae->Prop}{A:Nat}{n:Int}{x:af}(h:bp o w K s 1 lab)(hb:w.heap[A]?=so (.cells #[.int .i64 n,.string x] 32))(dE:A≠K.kb)(hA:o A)(tm:Array Value)(ht:tm.getD 2 undef=.pointer (so ⟨A,0,we⟩))(hp:∀w',bp o w' K s 0 lab->eM K.kb w w'->Post (did n x) o w'):
  jI (XB ax Fin 0) 38 Post ⟨tm,[{target:=.fn (.func 46) #[],args:=#[.pointer (so ⟨K.kb,0,we⟩)]}]⟩ o w:=by
 have W:=bY (P:=ax) (Fin:=Fin) (d:=0);refine h.unlock tm λw' hk hz hs=>Me W func38 rfl (xc (λn=>?_) (λn e he=>?_)) (hp w' hk ⟨hz,hs⟩)
 ·have kb:=(hs A dE).trans hb;have c0:(w'.at n).cell? ⟨A,0,we⟩=_:=(dY kb).1;have c1:(w'.at n).cell? ⟨A,1,we⟩=_:=(dY kb).2.1;simp at ht;simp[results,results38,go_sem,ht,c0,c1,did]
 ·have kb:=(hs A dE).trans hb;have c0:(w'.at n).cell? ⟨A,0,we⟩=_:=(dY kb).1;have c1:(w'.at n).cell? ⟨A,1,we⟩=_:=(dY kb).2.1;simp at ht;simp[results,results38,go_sem,ht,c0,c1]at he;rcases he with rfl|rfl;all_goals exact⟨_,_,_,rfl,hA⟩
def Hm.shape{s':fO}{v:Value}(h:Hm K s s' v):∃n x,v=did n x:=by
 rcases h with⟨-,e,-⟩|⟨-,-,e,-⟩|⟨-,-,e,-⟩
 ·exact⟨_,_,e⟩
 ·exact⟨_,_,e⟩
 ·exact⟨_,_,e⟩
def Hl.shape{s':fO}{F:cT}{file:af->V}{v:Value}(h:Hl K s s' F file v):∃n x,v=did n x:=by
 rcases h with⟨-,e⟩|⟨_,e,-⟩
 ·exact e.shape
 ·exact⟨_,_,e⟩
def gL(K:mK)(s s':fO)(F:cT)(file:af->V)(v:Value):Prop :=
 (s.phase=2/\Hl K s s' F file v)\/(s.phase=3/\Checked K s s' F file v)\/(s.phase≠2/\s.phase≠3/\Hm K s s' v)
def abm[Payload](h:bp o w K s 0 lab)(lo:Nat)(F:cT)(file:af->V)(mG:∀x,(file x).2.size<=100)(Hk:s.phase=2\/s.phase=3->s.fd=so (lo,F))(h2r:s.phase=2->s.rd.length=s.src.length->s.rd.map (·.1)=(dZ K.B.NM K.B.rs).map file)(h3r:s.phase=3->s.rd.length=s.src.length/\s.rd.map (·.1)=(dZ K.B.NM K.B.rs).map file):
  bA ax (XB ax Fin 0) 38 #[.pointer (so ⟨K.kb,0,we⟩)] o w λv o' w'=>∃s' lab',gL K s s' F file v/\bp o' w' K s' 0 lab'/\cU o w lab o' w' lab':=by
 have W:=bY (P:=ax) (Fin:=Fin) (d:=0);refine oH W func38 ak ?_;walk_nrmf Tryz.f38;refine ay ?_;refine dm bS h.aH rfl ak ak nf rfl (R:=λwl v aX=>v=.pointer (so ⟨wl.heap.size,0,we⟩)/\aX=wl.alloc (Obj.cells #[.int .i64 0,.string aR] 32)) (λwl aW=>⟨_,_,by simp[go_sem];rfl,rfl,rfl⟩) λwl v1 aX w1 aW hR bP=>?_;obtain⟨rfl,hR⟩:=hR;obtain⟨z1,k1,sV⟩:=bP.alloc h.aH aW hR;have lz:=bP.aH;rw[aW.size];clear hR bP aW wl aX;obtain⟨dD,h1,yR,qG,xa,tG⟩:=h.opened lz z1 k1;generalize grow o w w1=o1 at *;have dE:w.heap.size≠K.kb:=λe=>by have:=h1.l0;rw[<- e,qG]at this;omega
 refine ay ?_;refine b5 func45 (C7 K.kb 0 h1.own (by rw[h1.row.cell aa];rfl) (h1.row.frozen 0)) ?_;rintro v0 o0 w0 ⟨rfl,rfl,rfl⟩;have h2:=h1.lock (lk':=1);have S2:=cU.lock h1 (lk':=1);have Zi:=iX w1 K.kb 0 (.int .i32 1);generalize w1.setCell ⟨K.kb,0,we⟩ (.int .i32 1)=w2 at h2 Zi S2 |-;have VZ:=(Zi.2 _ dE).trans sV;refine ay ?_;refine mq W (d:={target:=.fn (.func 46) #[],args:=#[.pointer (so ⟨K.kb,0,we⟩)]}) rfl ak (λw1=>fS) (λw1=>fS) rfl ?_;walk_nrm;have c7:w2.cell? ⟨K.kb,7,we⟩=so (.int .i64 s.phase):=by rw[h2.row.cell aa];rfl
 refine ay ?_;refine jJ h2.aH h2.own c7 λ_=>?_;refine ay ?_;refine je W (t:=decide (s.phase=2)) (by simp[Act.eval];rw[en];simp;omega) ?_;by_cases p2:s.phase=2
 ·rw[if_pos (cW p2)];refine ay ?_;refine b5 func63 (MV h2 lo F (Hk (.inl p2)) file mG (h2r p2)) ?_;rintro v0 o4 w4 ⟨s',sx,vO,h4,S4⟩;have HQ:sx w.heap.size=7:=(S4.lab _ (by rw[Zi.1];omega)).trans qG;have yO:=(S4.br.same w.heap.size (by rw[Zi.1];omega) (by rw[qG];omega)).trans VZ;have tH:=S4.br.more _ xa;have S94:=S2.trans S4;obtain⟨dn,dx,rfl⟩:=vO.shape;unfold did at vO |-;walk_nrm;refine mA dn dx h4.aH tH yO λwA AV Af sX=>?_;obtain⟨hA,SA⟩:=h4.did tG yR S94 HQ AV Af;refine ay ?_;exact⟨.inr trivial,xn hA sX dE tH _ rfl λw' hk on=>⟨s',_,.inl ⟨p2,vO⟩,hk,SA.trans (.of (bC.dM (ex:=(·=K.kb)) hk.aH on rfl) λb hb=>by rw[hb,hA.l0];omega)⟩⟩
 rw[if_neg (by simpa using p2)];refine ay ?_;refine je W (t:=decide (s.phase=3)) (by simp[Act.eval];rw[en];simp;omega) ?_;by_cases p3:s.phase=3
 ·rw[if_pos (cW p3)];refine ay ?_;refine b5 func64 (AW h2 (h3r p3).1 lo F (Hk (.inr p3)) file mG (h3r p3).2) ?_;rintro v0 o4 w4 ⟨s',sx,vO,h4,S4⟩;have HQ:sx w.heap.size=7:=(S4.lab _ (by rw[Zi.1];omega)).trans qG;have yO:=(S4.br.same w.heap.size (by rw[Zi.1];omega) (by rw[qG];omega)).trans VZ;have tH:=S4.br.more _ xa;have S94:=S2.trans S4;obtain⟨dn,dx,rfl⟩:=vO.shape;unfold did at vO |-;walk_nrm;refine mA dn dx h4.aH tH yO λwA AV Af sX=>?_;obtain⟨hA,SA⟩:=h4.did tG yR S94 HQ AV Af;refine ay ?_;exact⟨.inr trivial,xn hA sX dE tH _ rfl λw' hk on=>⟨s',_,.inr (.inl ⟨p3,vO⟩),hk,SA.trans (.of (bC.dM (ex:=(·=K.kb)) hk.aH on rfl) λb hb=>by rw[hb,hA.l0];omega)⟩⟩
 rw[if_neg (by simpa using p3)];refine ay ?_;refine b5 func65 (abl h2) ?_;rintro v0 o4 w4 ⟨s',sx,vO,h4,S4⟩;have HQ:sx w.heap.size=7:=(S4.lab _ (by rw[Zi.1];omega)).trans qG;have yO:=(S4.br.same w.heap.size (by rw[Zi.1];omega) (by rw[qG];omega)).trans VZ;have tH:=S4.br.more _ xa;have S94:=S2.trans S4;obtain⟨dn,dx,rfl⟩:=vO.shape;unfold did at vO |-;walk_nrm;refine mA dn dx h4.aH tH yO λwA AV Af sX=>?_;obtain⟨hA,SA⟩:=h4.did tG yR S94 HQ AV Af;refine ay ?_;exact⟨.inr trivial,xn hA sX dE tH _ rfl λw' hk on=>⟨s',_,.inr (.inr ⟨p2,p3,vO⟩),hk,SA.trans (.of (bC.dM (ex:=(·=K.kb)) hk.aH on rfl) λb hb=>by rw[hb,hA.l0];omega)⟩⟩
end
section
variable {Fin:bL}{o o' o1 o2:aM}{w w' w1 w2:ae}{K:mK}{s:fO}{lk:Int}{lab iH:Nat->Nat}
def cU.beside{A:Nat}(S:cU o w lab o2 w2 iH)(hW:bC (λb=>b=A) o2 w2 o' w')(hA:w.heap.size<=A):cU o w lab o' w' iH:=by
 have hz:=S.br.size;have TZ:=hW.size;exact⟨⟨hW.aH,λb hb=>hW.more b (S.br.more b hb),λb hb=>(hW.new b hb).elim (λq=>S.br.new b q) λq=>.inr aa,aa,λb hb hx=>(hW.same b aa aa).trans (S.br.same b hb hx)⟩,S.lab⟩
end
section
variable {Fin:bL}{o o' o2 o3:aM}{w w' w2 w3:ae}{K:mK}{s:fO}{lk:Int}{lab iH:Nat->Nat}
def cU.refl(hF:bO ax L0 o w):cU o w lab o w lab:=⟨bC.refl hF,λ_ _=>rfl⟩
def bp.grown(h:bp o2 w2 K s lk iH)(S:cU o w lab o2 w2 iH)(hW:bC (λ_=>False) o2 w2 o3 w3):∃mB,bp o3 w3 K s lk mB/\cU o w lab o3 w3 mB/\(∀b,b<w2.heap.size->mB b=iH b)/\∀b,w2.heap.size<=b->mB b=7:=by
 have hl:∀b,b<w2.heap.size->(if b<w2.heap.size then iH b else 7)=iH b:=λb hb=>if_pos hb;refine⟨λb=>if b<w2.heap.size then iH b else 7,((h.OC λb hb=>hl b (h.aH.lt hb)).yQ hW).1,S.trans ⟨hW.mono λb hb=>hb.elim,hl⟩,hl,λb hb=>if_neg aa⟩
def bp.wrote{A:Nat}(h:bp o2 w2 K s lk iH)(S:cU o w lab o2 w2 iH)(hl:iH A=7)(hA:w.heap.size<=A)(hF:bO ax L0 o2 w3)(on:eM A w2 w3):bp o2 w3 K s lk iH/\cU o w lab o2 w3 iH :=
 ⟨h.aside (ex:=λb=>b=A) (bC.dM hF on rfl) λb hb=>by rw[hb];exact hl,S.beside (bC.dM hF on rfl) hA⟩
def bC.rC(hF:bO ax L0 (grow o w w') w')(z:w'.heap.size=w.heap.size+1)(k:∀b,b<w.heap.size->w'.heap[b]?=w.heap[b]?):bC (λ_=>False) o w (grow o w w') w'/\grow o w w' w.heap.size :=
 ⟨⟨hF,jf,λb hb=>hb.imp id λq=>q.1,aa,λb hb _=>k b hb⟩,.inr ⟨ah _,aa⟩⟩
end
section
open Go.RowKit
def MX:(ax.info? 65).map (λi=>(i.zero,i.size,i.bytes))=so (so (.agg #[.string aR,.string aR,.bool false]),3,40):=ai
def Hn(b c n:Nat)(p:Option Addr)(xs:List Value)(w:ae)(hl:xs.length=n*3)(hn:n<=1000)(hp:p=we->n=0)(hq:n≠0->p=so ⟨b,0,we⟩)(hx:∀j u,xs[j]?=so u->w.cell? ⟨b,j,we⟩=so u)(h1:∀u∈xs,u.oneCell'=true):
  Calls ax 50 #[.slice p n c] w λe w'=>∃v,e=.returned v/\w'.ownsRow w.heap.size 65 3 v n xs/\Below w.heap.size w w'/\w.heap.size<=w'.heap.size:=by
 have q24:∀(w:ae) (a:Option Addr) (n c n' c':Nat),(binOp .eql 46 (.slice a n c) (.slice we n' c')).run ax w=.ok (.bool a.isNone) w:=λw a n c n' c'=>Lib.run_eql_slice_nil w _ _ a n c n' c' underlying46;go_enter func50,ntmps50;cases p with
 |none =>
  have En:=hp rfl;subst En;have HK:xs=[]:=aal.1 aa;subst HK;go_wp2;go_ret;exact⟨_,rfl,⟨ar,.inl ⟨rfl,rfl⟩⟩,Below.refl _ _,ah _⟩
 |some a =>
  obtain⟨i,hi,pP⟩:=aaf.1 MX;simp only[bB]at pP;have fq:(w.alloc (.cells #[] 65)).ownsRow w.heap.size 65 3 (.slice (so ⟨w.heap.size,0,we⟩) 0 0) 0 []:=⟨ar,.inr ⟨w.heap.size,0,#[],rfl,ah _,jQ w _,ah _,by simp[maxLen],ar,ar⟩⟩;have mm:∀j u,xs[j]?=so u->(w.alloc (.cells #[] 65)).cell? (a.add j)=so u:=λj u hu=>by
   have En:n≠0:=λe=>by
    subst e;have HK:xs=[]:=aal.1 aa;subst HK;simp at hu
   have ha:=hq En;cases ha;have hc:=hx j u hu;have hb:b<w.heap.size:=aN λq=>by
    simp[World.cell?,Array.getElem?_eq_none (Nat.le_of_not_lt q)]at hc
   have:(⟨b,0,we⟩:Addr).add j=⟨b,j,we⟩:=by simp[Addr.add];omega
   rw[this,((Below.refl w.heap.size w).alloc (ah _) _).cell (p:=⟨b,j,we⟩) hb];exact hc
  obtain⟨v',W',e1,e2,e3,_⟩:=run_append_own (P:=ax) (w.alloc (.cells #[] 65)) w.heap.size 46 46 65 i _ 3 40 underlying46 hi pP.1 pP.2.1 pP.2.2 rfl aa _ 0 [] fq a n c xs hl mm h1 (by simp[maxLen];omega) aa ar;have xB:=Below.grown ((Below.refl w.heap.size w).alloc (ah _) (.cells #[] 65)) e3 ar (λk hk=>by cases hk;exact ah _);go_wp2_with (at_builtin;refine gp rfl _ _ 46 rfl rfl rfl e1 ?_);go_ret;exact⟨_,rfl,by simpa using e2,xB,xB.size⟩
def EO(b c n:Nat)(p:Option Addr)(xs:List Value)(w:ae)(hl:xs.length=n*3)(hn:n<=1000)(hp:p=we->n=0)(hq:n≠0->p=so ⟨b,0,we⟩)(hx:∀j u,xs[j]?=so u->w.cell? ⟨b,j,we⟩=so u)(h1:∀u∈xs,u.oneCell'=true):
  Calls ax 71 #[.slice p n c] w λe w'=>∃v,e=.returned v/\w'.ownsRow w.heap.size 42 3 v n xs/\Below w.heap.size w w'/\w.heap.size<=w'.heap.size:=by
 have q24:∀(w:ae) (a:Option Addr) (n c n' c':Nat),(binOp .eql 35 (.slice a n c) (.slice we n' c')).run ax w=.ok (.bool a.isNone) w:=λw a n c n' c'=>Lib.run_eql_slice_nil w _ _ a n c n' c' underlying35;go_enter func71,ntmps71;cases p with
 |none =>
  have En:=hp rfl;subst En;have HK:xs=[]:=aal.1 aa;subst HK;go_wp2;go_ret;exact⟨_,rfl,⟨ar,.inl ⟨rfl,rfl⟩⟩,Below.refl _ _,ah _⟩
 |some a =>
  obtain⟨i,hi,pP⟩:=aaf.1 C8;simp only[bB]at pP;have fq:(w.alloc (.cells #[] 42)).ownsRow w.heap.size 42 3 (.slice (so ⟨w.heap.size,0,we⟩) 0 0) 0 []:=⟨ar,.inr ⟨w.heap.size,0,#[],rfl,ah _,jQ w _,ah _,by simp[maxLen],ar,ar⟩⟩;have mm:∀j u,xs[j]?=so u->(w.alloc (.cells #[] 42)).cell? (a.add j)=so u:=λj u hu=>by
   have En:n≠0:=λe=>by
    subst e;have HK:xs=[]:=aal.1 aa;subst HK;simp at hu
   have ha:=hq En;cases ha;have hc:=hx j u hu;have hb:b<w.heap.size:=aN λq=>by
    simp[World.cell?,Array.getElem?_eq_none (Nat.le_of_not_lt q)]at hc
   have:(⟨b,0,we⟩:Addr).add j=⟨b,j,we⟩:=by simp[Addr.add];omega
   rw[this,((Below.refl w.heap.size w).alloc (ah _) _).cell (p:=⟨b,j,we⟩) hb];exact hc
  obtain⟨v',W',e1,e2,e3,_⟩:=run_append_own (P:=ax) (w.alloc (.cells #[] 42)) w.heap.size 35 35 42 i _ 3 48 underlying35 hi pP.1 pP.2.1 pP.2.2 rfl aa _ 0 [] fq a n c xs hl mm h1 (by simp[maxLen];omega) aa ar;have xB:=Below.grown ((Below.refl w.heap.size w).alloc (ah _) (.cells #[] 42)) e3 ar (λk hk=>by cases hk;exact ah _);go_wp2_with (at_builtin;refine gp rfl _ _ 35 rfl rfl rfl e1 ?_);go_ret;exact⟨_,rfl,by simpa using e2,xB,xB.size⟩
end
end Go.Proofs.Kz
