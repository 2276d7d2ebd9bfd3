import Derived.Test.YtgjekaaknjgnmaaGreatDoorAc
import Derived.Below
import Derived.Conc.AppendEvents3
import Derived.Conc.AppendWalk
import Derived.Conc.EventLaws2
import Derived.Conc.SmallLaws
import Derived.Deep.Light
import Derived.Deep.LoopGhost
import Derived.Ground.Names2Prog
import Derived.Ground.NamesProg
import Derived.Ground.SlgnProg
import Derived.Ground.SlsfProg
import Derived.Laws.BytesString
import Derived.Laws.IdiomStrings
import Derived.Laws.Pointers
import Derived.Laws.Slices
import Derived.Laws.StructEq
import Derived.Lib.ItoaLen
import Derived.Lib.OwnBridge
import Derived.Lib.Walk
import Derived.RowKit3
import Derived.Shelf.Lay
import Derived.Shelf.LaysM
import Derived.Shelf.SlGeneric
import Derived.Shelf.SlSortCmp.SmallK
import Derived.Shelf.Slices.Cells
import Derived.Shelf.Slices.Clone
import Derived.Shelf.Slices.CompactS
import Derived.Shelf.Slices.In.SortNone
import Derived.Shelf.Slices.MinMaxS
import Derived.Shelf.Slices.Turned
import Derived.Shelf.SlicesE.Reverse
import Derived.Shelf.Small.Bits
import Derived.Shelf.Small.Strs
import Derived.Shelf.Sort.Plain
import Derived.Shelf.Spec.SearchS
import Derived.Shelf.Strconv.Itoa0
import Derived.Shelf.Strconv.Itoa1
import Derived.Shelf.Strconv.Itoa2
import Derived.Shelf.Strconv.Itoa3
import Derived.Shelf.Strings.Builder1
import Derived.Shelf.Strings.Builder2
import Derived.Shelf.Strings.OnBuilder
import Derived.StillTactics
import Derived.Test.YtgjekaaknjgnmaaGreatDoorChecked
import Derived.Test.YtgjekaaknjgnmaaGreatDoorProg
import Derived.WalkKit
import Derived.WalkSpells
set_option linter.all false
set_option maxHeartbeats 40000000
set_option maxRecDepth 200000
namespace Go.Ren
open Go.Conc Go.ConcN
def Bj(ops:Array Oper):Bool :=
 (List.range ops.size).all (fun i=>match ops[i]? with
  |none=>false
  |some op=>op.after.all (fun e=>!Region.binds .any e||decide (e.on<i))&&(match op.op with|.select ..=>false|_=>true) &&
    (List.range ops.size).all (fun j=>j==i||match gB ops j with
     |none=>true
     |some d=>gB ops i != some d&&(!(op.looksAt ops).contains d||op.after.any (fun e=>Region.binds .any e&&e.on==j))))
structure ye(ops:Array Oper):Prop where
 low:∀(i:Nat) (op:Oper),ops[i]?=some op->∀e∈op.after,Region.binds .any e=true->e.on<i
 dst:∀i j d,i≠j->gB ops i=some d->gB ops j≠some d
 sel:∀(i:Nat) (op:Oper),ops[i]?=some op->∀cs b,op.op≠.select cs b
 look:∀(i:Nat) (op:Oper),ops[i]?=some op->∀j d,j≠i->gB ops j=some d->d∈op.looksAt ops->∃e∈op.after,Region.binds .any e=true/\e.on=j
section
variable {ops:Array Oper}
theorem Gx(h:Bj ops=true):ye ops:=by
 simp only[Bj,List.all_eq_true,List.mem_range] at h;have lt:∀(i:Nat) (op:Oper),ops[i]?=some op->i<ops.size:=fun i op ho=>(Array.getElem?_eq_some_iff.1 ho).1;have all:∀(i:Nat) (op:Oper),ops[i]?=some op->(op.after.all (fun e=>!Region.binds .any e||decide (e.on<i))=true/\(match op.op with|.select ..=>false|_=>true)=true) /\
   ∀j,j<ops.size->(j=i\/(match gB ops j with|none=>true|some d=>gB ops i != some d&&(!(op.looksAt ops).contains d||op.after.any (fun e=>Region.binds .any e&&e.on==j)))=true):=by
  intro i op ho;have:=h i (lt i op ho);simp only[ho,a8,List.all_eq_true,List.mem_range,Bool.or_eq_true,beq_iff_eq] at this;exact this
 have Gy:∀{j d},gB ops j=some d->∃op,ops[j]?=some op:=fun {j d} hj=>by
  cases ho:ops[j]? with
  |none=>simp[gB,ho] at hj
  |some op=>exact⟨op,rfl⟩
 refine⟨fun i op ho e he hb=>?_,fun i j d E7 hi hj=>?_,fun i op ho cs b e=>?_,fun i op ho j d Bd hj hl=>?_⟩
 ·have:=(all i op ho).1.1;rw[jz] at this;have:=this e he;simpa[hb] using this
 ·obtain⟨op,ho⟩:=Gy hi;obtain⟨IJ,pD⟩:=Gy hj;rcases(all i op ho).2 j (lt j IJ pD) with e|e
  ·exact E7 e.symm
  ·rw[hj] at e;simp only[a8,bne_iff_ne] at e;exact e.1 hi
 ·have:=(all i op ho).1.2;rw[e] at this;cases this
 ·obtain⟨IJ,pD⟩:=Gy hj;rcases(all i op ho).2 j (lt j IJ pD) with e|e
  ·exact absurd e Bd
  ·rw[hj] at e;simp only[a8,Bool.or_eq_true,eB,List.contains_eq_mem,decide_eq_false_iff_not] at e;rcases e.2 with e|e
   ·exact absurd hl e
   ·simp only[Array.any_eq_true,a8,beq_iff_eq] at e;obtain⟨q,hq,hb,he⟩:=e;exact⟨_,jO hq,hb,he⟩
variable {v:Nat->Value} {a:Act}
theorem yf(H:ye ops){i:Nat}{op:Oper}(ho:ops[i]?=some op){done:List Nat}(vc:done.Nodup)(hi:i∉done)(x6:∀e∈op.after,Region.binds .any e=true->e.on∈done):
  ∀x,(∀d,x=.tmp d->d∈op.looksAt ops)->(cF ops v a done).eval x=(cF ops v a (List.range i)).eval x:=by
 intro x hx;let p:Nat->Bool:=fun j=>op.after.any fun e=>Region.binds .any e&&e.on==j;have drop:∀l:List Nat,i∉l->(cF ops v a l).eval x=(cF ops v a (l.filter p)).eval x:=by
  intro l X0;have hp:=(gZ p l).symm;rw[j0 H.dst hp,iI];refine pk _ _ fun k hk d hd hl=>?_;obtain⟨LI,UK⟩:=List.mem_filter.1 hk;obtain⟨e,he,hb,rfl⟩:=H.look i op ho k d (fun e=>X0 (e▸LI)) hd (hx d hl);simp only[p,eB] at UK;have:(op.after.any fun e'=>Region.binds .any e'&&e'.on==e.on)=true:=by
   rw[gR];exact⟨e,he,by simp[hb]⟩
  rw[this] at UK;cases UK
 rw[drop done hi,drop (List.range i) aj];have E9:(done.filter p).Perm ((List.range i).filter p):=by
  refine(dq (vc.filter _) (List.nodup_range.filter _)).2 fun j=>?_;simp only[List.mem_filter,List.mem_range];constructor
  ·rintro⟨h1,h2⟩;refine⟨?_,h2⟩;simp only[p,Array.any_eq_true',a8,beq_iff_eq] at h2;obtain⟨e,he,hb,rfl⟩:=h2;exact H.low i op ho e he hb
  ·rintro⟨h1,h2⟩;refine⟨?_,h2⟩;simp only[p,Array.any_eq_true',a8,beq_iff_eq] at h2;obtain⟨e,he,hb,rfl⟩:=h2;exact x6 e he hb
 rw[j0 H.dst E9]
theorem LV(H:ye ops){i:Nat}{op:Oper}(ho:ops[i]?=some op){done:List Nat}(vc:done.Nodup)(hi:i∉done)(x6:∀e∈op.after,Region.binds .any e=true->e.on∈done):
  Region.wanted op (yielded ops (cF ops v a done).tmps)=Region.wanted op (yielded ops (cF ops v a (List.range i)).tmps):=by
 cases hg:op.guard with
 |none=>rw[pI hg,pI hg]
 |some q =>
  obtain⟨g,want⟩:=q;have:yielded ops (cF ops v a done).tmps g=yielded ops (cF ops v a (List.range i)).tmps g:=by
   unfold yielded;cases hd:(ops[g]?).bind (·.dst) with
   |none=>rfl
   |some d =>
    have hl:d∈op.looksAt ops:=by simp[Oper.looksAt,hg,hd]
    have he:=yf (v:=v) (a:=a) H ho vc hi x6 (.tmp d) (fun d' e=>by cases e;exact hl);have hs:(cF ops v a done).tmps.size=(cF ops v a (List.range i)).tmps.size:=by rw[Ao,Ao]
    have:(cF ops v a done).tmps[d]?=(cF ops v a (List.range i)).tmps[d]?:=by
     simp only[Act.eval,bR] at he;by_cases h1:d<(cF ops v a done).tmps.size
     ·rw[aN h1,aN (hs▸h1)] at he |-;exact congrArg some he
     ·rw[cG (de h1),cG (de (hs▸h1))]
    simp only[Option.bind_some,this]
  simp only[Region.wanted,hg,this]
end
abbrev Kd:=Option (Option Value)
def nZ(P:Program)(op:Oper)(a:Act):Value:=match (execOp a.eval op).run P (default:ae) with
 | .ok (.value y) _=>y
 |_=>undef
def CB(P:Program)(kd:Kd)(op:Option Oper)(a:Act)(x:Value):Value:=match kd with
 |some none=>match op with|some op=>nZ P op a|none=>undef
 |some (some y)=>y
 |none=>x
def Kd.at(kds:List Kd)(j:Nat):Kd:=kds.getD j none
def vG(P:Program)(ops:Array Oper)(kds:List Kd)(v:Nat->Value)(a:Act):Nat->Act
 |0=>a
 |j+1=>(vG P ops kds v a j).put (gB ops j) (CB P (Kd.at kds j) ops[j]? (vG P ops kds v a j) (v j))
def UL(P:Program)(ops:Array Oper)(kds:List Kd)(v:Nat->Value)(a:Act)(j:Nat):Value:=CB P (Kd.at kds j) ops[j]? (vG P ops kds v a j) (v j)
section
variable {P:Program} {ops:Array Oper} {kds:List Kd} {v v':Nat->Value} {a:Act}
theorem qk:∀j,vG P ops kds v a j=cF ops (UL P ops kds v a) a (List.range j):=by
 intro j
 induction j with
 |zero=>rfl
 |succ j ih =>
  rw[List.range_succ,iI,<- ih];rfl
theorem Fe(H:ye ops){u:Nat->Value}{i:Nat}{op:Oper}(ho:ops[i]?=some op){l:List Nat}(X0:i∉l){x:Operand}(hx:∀d,x=.tmp d->d∈op.looksAt ops):(cF ops u a l).eval x=(cF ops u a (l.filter fun j=>op.after.any fun e=>Region.binds .any e&&e.on==j)).eval x:=by
 have hp:=(gZ (fun j=>op.after.any fun e=>Region.binds .any e&&e.on==j) l).symm;rw[j0 H.dst hp,iI];refine pk _ _ fun k hk d hd hl=>?_;obtain⟨LI,UK⟩:=List.mem_filter.1 hk;obtain⟨e,he,hb,rfl⟩:=H.look i op ho k d (fun e=>X0 (e▸LI)) hd (hx d hl);have:(op.after.any fun e'=>Region.binds .any e'&&e'.on==e.on)=true:=by
  rw[gR];exact⟨e,he,by simp[hb]⟩
 rw[this] at UK;cases UK
theorem LX(H:ye ops){done:List Nat}(fu:∀j∈done,∀op,ops[j]?=some op->∀e∈op.after,Region.binds .any e=true->e.on∈done)(hv:∀j∈done,v j=v' j):∀j∈done,UL P ops kds v a j=UL P ops kds v' a j:=by
 intro j
 induction j using Nat.strongRecOn with
 |ind j ih =>
  intro hj;unfold UL;rcases hk:Kd.at kds j with _|_|y
  ·exact hv j hj
  ·cases ho:ops[j]? with
   |none=>rfl
   |some op =>
    simp only[CB];unfold nZ;rw[execOp_congr op (H.sel j op ho) (ρ:=(vG P ops kds v a j).eval) (ρ':=(vG P ops kds v' a j).eval)];intro x hx;rw[qk,qk,Fe H ho aj (fun d hd=>by subst hd;exact oE hx),Fe H ho aj (fun d hd=>by subst hd;exact oE hx) (u:=UL P ops kds v' a)];rw[sI];intro k hk;obtain⟨h1,h2⟩:=List.mem_filter.1 hk;rw[gR] at h2;obtain⟨e,he,hb⟩:=h2;simp only[a8,beq_iff_eq] at hb;obtain⟨hb,rfl⟩:=hb;exact ih _ (List.mem_range.1 h1) (fu j hj op ho e he hb)
  ·rfl
end
def dJ(P:Program)(ok:Oper->Nat->Kd->Act->Prop)(ops:Array Oper)(K:Act->Prop)(v:Nat->Value):List Nat->List Kd->Act->Prop
 | [],[],a=>K a
 |j::l,x::xs,a=>(∃op,ops[j]?=some op/\ok op j x a)/\dJ P ok ops K v l xs (a.put (gB ops j) (CB P x ops[j]? a (v j)))
 |_,_,_=>False
theorem gh{P:Program}{ok:Oper->Nat->Kd->Act->Prop}{ops:Array Oper}{K:Act->Prop}{v:Nat->Value}{j:Nat}{l:List Nat}{x:Kd}{xs:List Kd}{a:Act}{op:Oper}{d:Option Tmp}(ho:ops[j]?=some op)(hd:op.dst=d)(je:ok op j x a){y:Value}(hy:CB P x (some op) a (v j)=y)(h:dJ P ok ops K v l xs (a.put d y)):dJ P ok ops K v (j::l) (x::xs) a :=
 ⟨⟨op,ho,je⟩,by subst hd hy;simpa[gB,ho] using h⟩
theorem cB{P:Program}{ok:Oper->Nat->Kd->Act->Prop}{ops:Array Oper}{K:Act->Prop}{v:Nat->Value}{a:Act}(h:K a):dJ P ok ops K v [] [] a:=h
theorem dJ.all{P:Program}{ok:Oper->Nat->Kd->Act->Prop}{ops:Array Oper}{K:Act->Prop}{kds:List Kd}{v:Nat->Value}{a:Act}:∀{m k:Nat} {xs:List Kd},dJ P ok ops K v (List.range' k m) xs (vG P ops kds v a k)->(∀j,j<m->Kd.at kds (k+j)=xs.getD j none) ->
  (∀j op,k<=j->j<k+m->ops[j]?=some op->ok op j (Kd.at kds j) (vG P ops kds v a j))/\K (vG P ops kds v a (k+m)):=by
 intro m
 induction m with
 |zero =>
  intro k xs h hg;cases xs with
  |nil=>exact⟨fun j op h1 h2=>aa,h⟩
  |cons x l=>exact h.elim
 |succ m ih =>
  intro k xs h hg;cases xs with
  |nil=>rw[iD] at h;exact h.elim
  |cons x l =>
   rw[iD] at h;obtain⟨⟨op,ho,je⟩,hr⟩:=h;have hx:Kd.at kds k=x:=by have:=hg 0 aa;simpa using this
   have AT:(vG P ops kds v a k).put (gB ops k) (CB P x ops[k]? (vG P ops kds v a k) (v k))=vG P ops kds v a (k+1):=by rw[<- hx];rfl
   rw[AT] at hr;have:=ih (k:=k+1) (xs:=l) hr (fun j hj=>by have:=hg (j+1) aa;rw[show k+(j+1)=k+1+j by omega] at this;simpa using this);refine⟨fun j IJ h1 h2 pD=>?_,by rw[show k+(m+1)=k+1+m by omega];exact this.2⟩;by_cases e:j=k
   ·subst e;rw[ho] at pD;cases pD;rw[hx];exact je
   ·exact this.1 j IJ aa aa pD
section
variable {P:Program} {m:Bool} {R:aM->ae->ae->Prop} {Gu:aM->ae->ae->Array Event->Prop} {X:aM->aX->ae->Prop} {fn:FuncId} {Q:Exit->Act->aM->ae->Prop} {a:Act} {o:aM} {w:ae}
theorem full_of{n:Nat}{l:List Nat}(h:l.Nodup)(hl:∀x∈l,x<n)(hn:n<=l.length):∀j,j<n->j∈l:=fun j hj=>aZ fun hm=>by
 have:=qh n (j::l) (List.nodup_cons.2 ⟨hm,h⟩) (fun x hx=>by rcases List.mem_cons.1 hx with rfl|hx;exact hj;exact hl x hx);simp at this;omega
theorem Py{n:Nat}{l:List Nat}(h:l.Nodup)(hl:∀x∈l,x<n)(hf:∀j,j<n->j∈l):l.Perm (List.range n) :=
 (dq h iC).2 fun j=>⟨fun hj=>List.mem_range.2 (hl j hj),fun hj=>hf j (List.mem_range.1 hj)⟩
def fM(σ:Nat->Option Value)(j:Nat)(y:Value):Nat->Option Value:=fun i=>if i=j then some y else σ i
def yg(ops:Array Oper)(k j:Nat):Bool:=match ops[k]? with
 |some op=>op.after.any fun e=>Region.binds .any e&&e.on==j
 |none=>false
def zv(ops:Array Oper)(k:Nat):List Nat->Nat->Bool
 | [],j=>yg ops k j
 |i::l,j=>yg ops k i&&zv ops i l j
structure zw(ops:Array Oper)(kds:List Kd)(v:Nat->Value)(j:Nat)(σ:Nat->Option Value):Prop where
 fits:Fits v σ
 IY:∀l i,zv ops j l i=true->Kd.at kds i=none->σ i=some (v i)
 qE:∀l k,zv ops k l j=true->σ k=none
theorem zw.done{ops:Array Oper}{kds:List Kd}{v:Nat->Value}{j:Nat}{σ:Nat->Option Value}(h:zw ops kds v j σ)(i:Nat)(hi:yg ops j i=true):Kd.at kds i=none->σ i=some (v i):=h.IY [] i hi
theorem zw.xm{ops:Array Oper}{kds:List Kd}{v:Nat->Value}{j:Nat}{σ:Nat->Option Value}(h:zw ops kds v j σ)(k:Nat)(hk:yg ops k j=true):σ k=none:=h.qE [] k hk
theorem Ff{ops:Array Oper}{done:List Nat}(fu:∀j∈done,∀op,ops[j]?=some op->∀e∈op.after,Region.binds .any e=true->e.on∈done){k j:Nat}(hk:k∈done)(h:yg ops k j=true):j∈done:=by
 cases je:ops[k]? with
 |none=>simp[yg,je] at h
 |some opk =>
  simp only[yg,je,Array.any_eq_true',a8,beq_iff_eq] at h;obtain⟨e,he,hb,rfl⟩:=h;exact fu k hk opk je e he hb
theorem wT{ops:Array Oper}{done:List Nat}(fu:∀j∈done,∀op,ops[j]?=some op->∀e∈op.after,Region.binds .any e=true->e.on∈done):∀(l:List Nat) {k j:Nat},k∈done->zv ops k l j=true->j∈done
 | [],k,j,hk,h=>Ff fu hk h
 |i::l,k,j,hk,h=>by
  simp only[zv,a8] at h;exact wT fu l (Ff fu hk h.1) h.2
def Bl(P:Program)(X:aM->aX->ae->Prop)(fn:FuncId)(ops:Array Oper)(Q:Exit->Act->aM->ae->Prop)(S:(Nat->Option Value)->aM->ae->Prop)(kds:List Kd)(v:Nat->Value)(op:Oper)(j:Nat)(x:Kd)(a:Act):Prop :=
 ∀(A:Act) (rest:List Nat) (σ:Nat->Option Value) (o:aM) (w:ae),(∀y∈op.op.operands,A.eval y=a.eval y)->Region.wanted op (yielded ops A.tmps)=Region.wanted op (yielded ops a.tmps)->zw ops kds v j σ->(x=none->σ j=none)->S σ o w ->
  (∀y o' w',(match x with|some (some z)=>y=z/\S σ o' w' | some none=>y=nZ P op a/\S σ o' w' | none=>S (fM σ j y) o' w')->eX X fn ops rest Q (A.put op.dst y) o' w')->eX X fn ops (j::rest) Q A o w
theorem Pz(W:fH P m R Gu X)(wP:P.follows .mixedOrders=true){id:Nat}{ops:Array Oper}(je:Bj ops=true)(kds:List Kd){S:(Nat->Option Value)->aM->ae->Prop}(hS:∀σ o w w1,S σ o w->R o w w1->S σ o w1)(Zp:∀σ o (w:ae),S σ o w->S σ o {w with drawn:=w.drawn+1})(Zq:∀w:ae,Gu o w {w with drawn:=w.drawn+1} #[])(h0:S (fun _=>none) o w)(wL:∀v,dJ P (Bl P X fn ops Q S kds v) ops (fun a'=>∀σ o w,(∀j,j<ops.size->Kd.at kds j=none->σ j=some (v j))->S σ o w->eX X fn ops [] Q a' o w) v (List.range ops.size) kds a):vV X fn (.region id ops true) Q a o w:=by
 have H:=Gx je;generalize hn:ops.size=n at wL;have iB:∀v,_:=fun v=>dJ.all (kds:=kds) (v:=v) (k:=0) (m:=n) (a:=a) (by have:=wL v;rw[iO] at this;exact this) (fun j _=>by simp[Kd.at]);let T:List Nat->(Nat->Value)->aM->ae->Prop:=fun dn v o w=>∃σ,Fits v σ/\(∀j,σ j≠none->j∈dn)/\(∀j∈dn,Kd.at kds j=none->σ j=some (v j))/\S σ o w;have key:∀(fuel t:Nat) (ls:Array Bool) (done:List Nat) (v:Nat->Value) (o:aM) (w:ae),T done v o w->uk ops n ls done->fuel+done.length=n ->
   eX X fn ops (Region.linearise.go .any ops fuel t ls []) Q (cF ops (UL P ops kds v a) a done) o w:=by
  intro fuel
  induction fuel with
  |zero =>
   intro t ls done v o w hw hL XU;have vc:=hL.nd;have cy:=hL.lt;simp only[Region.linearise.go,List.reverse_nil];have hp:done.Perm (List.range n):=Py vc cy (full_of vc cy aa);obtain⟨σ,hf,h1,h2,VC⟩:=hw;rw[j0 H.dst hp,<- qk];have:=(iB v).2;rw[bB] at this;exact this σ o w (fun j hj hk=>h2 j (hp.mem_iff.2 (List.mem_range.2 hj)) hk) VC
  |succ fuel ih =>
   intro t ls done v o w hw hL XU;obtain⟨i,op,t',h1,h2,ho,h3,el,hL'⟩:=hL.step hn H.low aa fuel t;rw[el];have vc:=hL.nd;have fu:=hL.cl;obtain⟨σ,hf,KO,uZ,VC⟩:=hw;have eP:=(iB v).1 i op (aU _) aa ho;have hsi:σ i=none:=aZ fun h=>h2 (KO i h);refine eP _ _ σ o w (fun y hy=>?_) ?_ ⟨hf,fun l k hk rP=>uZ _ (by
     have dir:∀k,yg ops i k=true->k∈done:=fun k hk=>by
      simp only[yg,ho,Array.any_eq_true',a8,beq_iff_eq] at hk;obtain⟨e,he,hb,rfl⟩:=hk;exact h3 e he hb
     cases l with
     |nil=>exact dir k hk
     |cons i' l =>
      simp only[zv,a8] at hk;exact wT fu l (dir i' hk.1) hk.2) rP,fun l k hk=>aZ fun hsk=>h2 (wT fu l (KO k hsk) hk)⟩ (fun _=>hsi) VC (fun x o1 w1 xk=>?_)
   ·rw[qk];exact yf H ho vc h2 h3 y (fun d hd=>by subst hd;exact oE hy)
   ·rw[qk];exact LV H ho vc h2 h3
   ·
    have xl:∀j∈done,v j=(fun j=>if j=i then x else v j) j:=fun j hj=>(if_neg (fun(e:j=i)=>h2 (e▸hj))).symm;have eG:=LX (P:=P) (kds:=kds) (a:=a) H fu xl;have hui:UL P ops kds (fun j=>if j=i then x else v j) a i=x:=by
     have ha:Kd.at kds i=some none->nZ P op (vG P ops kds (fun j=>if j=i then x else v j) a i)=nZ P op (vG P ops kds v a i):=fun _=>by
      unfold nZ;rw[execOp_congr op (H.sel i op ho) (ρ:=(vG P ops kds (fun j=>if j=i then x else v j) a i).eval) (ρ':=(vG P ops kds v a i).eval)];intro y hy;have hy':∀d,y=.tmp d->d∈op.looksAt ops:=fun d hd=>by subst hd;exact oE hy
      rw[qk,qk,<- yf H ho vc h2 h3 y hy',<- yf H ho vc h2 h3 y hy',sI done fun j hj=>(eG j hj).symm]
     unfold UL;rcases hk:Kd.at kds i with _|_|z
     ·simp[CB]
     ·simp only[hk] at xk;simp only[CB,ho];rw[ha hk];exact xk.1.symm
     ·simp only[hk] at xk;simp only[CB];exact xk.1.symm
    have e2:(cF ops (UL P ops kds v a) a done).put op.dst x=cF ops (UL P ops kds (fun j=>if j=i then x else v j) a) a (done++[i]):=by
     rw[iI,sI done fun j hj=>(eG j hj).symm];simp[cF,ho,hui]
    rw[e2];refine ih t' _ (done++[i]) _ o1 w1 ?_ hL' dV;have X2:∀j y,j≠i->σ j=some y->(if j=i then x else v j)=y:=fun j y e hy=>by rw[if_neg e];exact hf j y hy
    have rest:Kd.at kds i≠none->S σ o1 w1->T (done++[i]) (fun j=>if j=i then x else v j) o1 w1:=fun hk xk=>by
     refine⟨σ,fun j y hy=>?_,fun j hj=>List.mem_append.2 (.inl (KO j hj)),fun j hj RQ=>?_,xk⟩
     ·exact X2 j y (fun e=>by rw[e,hsi] at hy;cases hy) hy
     ·have e:j≠i:=fun e=>hk (e▸RQ);simp only[if_neg e];rcases List.mem_append.1 hj with hj|hj
      ·exact uZ j hj RQ
      ·simp at hj;exact absurd hj e
    rcases hk:Kd.at kds i with _|_|z
    ·simp only[hk] at xk;refine⟨fM σ i x,fun j y hy=>?_,fun j hj=>?_,fun j hj RQ=>?_,xk⟩
     ·by_cases e:j=i
      ·subst e;simp only[fM,if_true] at hy;simp only[if_true];exact aQ hy
      ·simp only[fM,if_neg e] at hy;exact X2 j y e hy
     ·by_cases e:j=i
      ·subst e;simp
      ·simp only[fM,if_neg e] at hj;exact List.mem_append.2 (.inl (KO j hj))
     ·by_cases e:j=i
      ·subst e;simp[fM]
      ·simp only[fM,if_neg e];rcases List.mem_append.1 hj with hj|hj
       ·exact uZ j hj RQ
       ·simp at hj;exact absurd hj e
    ·simp only[hk] at xk;exact rest (by rw[hk];simp) xk.2
    ·simp only[hk] at xk;exact rest (by rw[hk];simp) xk.2
 intro b k cs hb hk hc;refine W.step o _ w rfl fun w1 qW=>⟨_,_,_,stepG_region_draw,Zq w1,?_⟩;rw[kH o ar];have Sa:∀t,Region.schedule (P.follows .mixedOrders) ops t=Region.linearise.go .any ops n t (Array.replicate n false) []:=by
  intro t;simp[Region.schedule,wP,Region.linearise,hn]
 rw[Sa];exact key n (w1.tape w1.drawn (.order b.fn id)) (Array.replicate n false) [] (fun _=>undef) o {w1 with drawn:=w1.drawn+1} ⟨fun _=>none,(fun(j:Nat) (y:Value) hy=>by cases hy),(fun j hj=>absurd rfl hj),(fun j hj=>by cases hj),Zp _ _ _ (hS _ o w w1 h0 qW)⟩ (uk.zero ops _) aj b k cs hb hk hc
end
section
variable {P:Program} {L:Nat->Bool} {Fin:bK} {d:Nat} {fn:FuncId} {Q:Exit->Act->aM->ae->Prop} {a:Act} {o:aM} {w:ae} {ops:Array Oper}
theorem Bm{l:List Nat}{A:Act}{n:Nat}(h:eX (XB P Fin d) fn ops l Q A o w):eX (XB P Fin d) fn ops l Q A o (w.at n):=fun b k cs hb hk hc=>bV.rely _ _ _ _ (h b k cs hb hk hc) ⟨n,rfl⟩
theorem dQ(wP:P.follows .mixedOrders=true){id:Nat}(je:Bj ops=true)(kds:List Kd){S:(Nat->Option Value)->aM->ae->Prop}(h0:S (fun _=>none) o w)(wL:∀v,dJ P (Bl P (XB P Fin d) fn ops Q S kds v) ops (fun a'=>∀σ o w,(∀j,j<ops.size->Kd.at kds j=none->σ j=some (v j))->S σ o w->Q .normal a' o w) v (List.range ops.size) kds a):vV (XB P Fin d) fn (.region id ops true) Q a o w:=by
 refine Pz (R:=fun _=>AtRel) (Gu:=GuO Fin) bV wP je kds (S:=fun σ o w=>∃w0 n,w=w0.at n/\S σ o w0) (fun σ o w w1 h hr=>?_) (fun σ o w h=>?_) (fun w=>⟨aj,ag _,rfl,rfl⟩) ⟨w,w.drawn,rfl,h0⟩ fun v=>?_
 ·obtain⟨w0,n,rfl,h⟩:=h;obtain⟨k,rfl⟩:=hr;exact⟨w0,k,rfl,h⟩
 ·obtain⟨w0,n,rfl,h⟩:=h;exact⟨w0,_,rfl,h⟩
 ·have key:∀(l:List Nat) (xs:List Kd) (a:Act),dJ P (Bl P (XB P Fin d) fn ops Q S kds v) ops (fun a'=>∀σ o w,(∀j,j<ops.size->Kd.at kds j=none->σ j=some (v j))->S σ o w->Q .normal a' o w) v l xs a ->
    dJ P (Bl P (XB P Fin d) fn ops Q (fun σ o w=>∃w0 n,w=w0.at n/\S σ o w0) kds v) ops (fun a'=>∀σ o w,(∀j,j<ops.size->Kd.at kds j=none->σ j=some (v j))->(∃w0 n,w=w0.at n/\S σ o w0)->eX (XB P Fin d) fn ops [] Q a' o w) v l xs a:=by
   intro l
   induction l with
   |nil =>
    intro xs a h;cases xs with
    |nil =>
     intro σ o w hs hS;obtain⟨w0,n,rfl,hS⟩:=hS;exact Bm (xU bV (h σ o w0 hs hS))
    |cons x xs=>exact h.elim
   |cons j l ih =>
    intro xs a h;cases xs with
    |nil=>exact h.elim
    |cons x xs =>
     obtain⟨⟨op,ho,hk⟩,hr⟩:=h;refine⟨⟨op,ho,fun A rest σ o w h1 h2 h3 h4 hS hc=>?_⟩,ih xs _ hr⟩;obtain⟨w0,n,rfl,hS⟩:=hS;refine Bm (hk A rest σ o w0 h1 h2 h3 h4 hS fun y o' w' hy=>hc y o' w' ?_);rcases x with _|_|z
     ·exact⟨w',w'.drawn,rfl,hy⟩
     ·exact⟨hy.1,w',w'.drawn,rfl,hy.2⟩
     ·exact⟨hy.1,w',w'.drawn,rfl,hy.2⟩
  exact key _ _ _ (wL v)
def CC:Op->Bool
 | .select ..=>false
 |_=>true
theorem rY{op:Op}(h:CC op=true):∀cs b,op≠.select cs b:=fun cs b e=>by rw[e] at h;cases h
variable {S:(Nat->Option Value)->aM->ae->Prop} {kds:List Kd} {v:Nat->Value} {K:Act->Prop} {j:Nat} {l:List Nat} {xs:List Kd} {op:Oper} {dd:Option Tmp}
theorem re(ho:ops[j]?=some op)(hd:op.dst=dd)(hn:CC op.op=true)(hw:Region.wanted op (yielded ops a.tmps)=true){y:Value}(cJ:∀w1,(execOp a.eval op).run P w1=.ok (.value y) w1)(jg:∀w1,(execOp a.eval op).events P w1 #[]=#[])(h:dJ P (Bl P (XB P Fin d) fn ops Q S kds v) ops K v l xs (a.put dd y)):dJ P (Bl P (XB P Fin d) fn ops Q S kds v) ops K v (j::l) (some none::xs) a:=by
 refine gh ho hd (fun A rest σ o w h1 h2 h3 h4 hS hc=>?_) (y:=y) (by simp only[CB];unfold nZ;rw[cJ]) h;have hex:=execOp_congr op (rY hn) h1;refine lB bV ho (h2.trans hw) fun w1 hr K hK=>?_;rw[hex,cJ w1];simp only[uponK_value];refine hK _ _ ⟨?_,?_⟩
 ·have:listed P fn A op w1=#[]:=by unfold listed;rw[hex,jg w1];exact seen_none P _
  rw[this];exact⟨aj,ag _,rfl,rfl⟩
 ·rw[b8];obtain⟨n,rfl⟩:=hr;exact Bm (hc y o w ⟨by unfold nZ;rw[cJ],hS⟩)
theorem yh(C:Prop)(Y:Value)(ho:ops[j]?=some op)(hd:op.dst=dd)(hn:CC op.op=true)(hw:Region.wanted op (yielded ops a.tmps)=true)(hC:∀σ o w,zw ops kds v j σ->S σ o w->C)(cJ:C->∀w1,(execOp a.eval op).run P w1=.ok (.value Y) w1)(jg:C->∀w1,(execOp a.eval op).events P w1 #[]=#[])(h:∀y,(C->y=Y)->dJ P (Bl P (XB P Fin d) fn ops Q S kds v) ops K v l xs (a.put dd y)):dJ P (Bl P (XB P Fin d) fn ops Q S kds v) ops K v (j::l) (some none::xs) a:=by
 refine gh ho hd (fun A rest σ o w h1 h2 h3 h4 hS hc=>?_) rfl (h _ fun c=>by simp only[CB];unfold nZ;rw[cJ c]);have c:=hC σ o w h3 hS;have hex:=execOp_congr op (rY hn) h1;refine lB bV ho (h2.trans hw) fun w1 hr K hK=>?_;rw[hex,cJ c w1];simp only[uponK_value];refine hK _ _ ⟨?_,?_⟩
 ·have:listed P fn A op w1=#[]:=by unfold listed;rw[hex,jg c w1];exact seen_none P _
  rw[this];exact⟨aj,ag _,rfl,rfl⟩
 ·rw[b8];obtain⟨n,rfl⟩:=hr;exact Bm (hc Y o w ⟨by unfold nZ;rw[cJ c],hS⟩)
theorem Zy(ho:ops[j]?=some op)(hd:op.dst=dd)(hw:Region.wanted op (yielded ops a.tmps)=false)(h:dJ P (Bl P (XB P Fin d) fn ops Q S kds v) ops K v l xs (a.put dd undef)):dJ P (Bl P (XB P Fin d) fn ops Q S kds v) ops K v (j::l) (some (some undef)::xs) a:=by
 refine gh ho hd (fun A rest σ o w h1 h2 h3 h4 hS hc=>?_) rfl h;exact jy bV ho (h2.trans hw) (hc undef o w ⟨rfl,hS⟩)
theorem cm(db:rL P L P.globals.size)(ho:ops[j]?=some op)(hd:op.dst=dd)(hn:CC op.op=true)(hw:Region.wanted op (yielded ops a.tmps)=true)(je:tw L op.op=true){y:Value}(cJ:∀σ o w,zw ops kds v j σ->S σ o w->bM P L o w/\(∀x∈op.op.operands,Cl P L o (a.eval x))/\∀wl,iA o w wl->(execOp a.eval op).run P wl=.ok (.value y) wl)(h:dJ P (Bl P (XB P Fin d) fn ops Q S kds v) ops K v l xs (a.put dd y)):dJ P (Bl P (XB P Fin d) fn ops Q S kds v) ops K v (j::l) (some (some y)::xs) a:=by
 refine gh ho hd (fun A rest σ o w h1 h2 h3 h4 hS hc=>?_) rfl h;obtain⟨hF,fu,hr⟩:=cJ σ o w h3 hS;have hex:=execOp_congr op (rY hn) h1;exact dB db hF ho (h2.trans hw) je (fun x hx=>by rw[h1 x hx];exact fu x hx) rfl (fun wl aT=>by rw[hex];exact hr wl aT) fun _=>hc y o w ⟨rfl,hS⟩
theorem ve(ho:ops[j]?=some op)(hd:op.dst=dd)(hw:Region.wanted op (yielded ops a.tmps)=true){f:FuncId}{fc:Func}{c:Code}{args:Array Operand}{sA:Array TypeId}(eP:op.op=.call {callee:=.value (.func f),args,argTypes:=sA})(hf:P.funcs[f]?=some fc)(gP:(fc.name == "runtime.NumGoroutine")=false)(fF:fc.body=some c){av:Array Value}(has:args.map a.eval=av)(Fg:∀σ o w,zw ops kds v j σ->σ j=none->S σ o w->bz P (XB P Fin d) f av o w fun y o' w'=>S (fM σ j y) o' w')(h:dJ P (Bl P (XB P Fin d) fn ops Q S kds v) ops K v l xs (a.put dd (v j))):dJ P (Bl P (XB P Fin d) fn ops Q S kds v) ops K v (j::l) (none::xs) a:=by
 refine gh ho hd (fun A rest σ o w h1 h2 h3 h4 hS hc=>?_) rfl h;exact dA bV ho (h2.trans hw) eP hf gP fF ((pJ eP h1).trans has) rfl ((Fg σ o w h3 (h4 rfl) hS).mono fun y o' w' q=>hc y o' w' q)
theorem jP(ho:ops[j]?=some op)(hd:op.dst=dd)(hw:Region.wanted op (yielded ops a.tmps)=true){f:FuncId}{fc:Func}{c:Code}{args:Array Operand}{sA:Array TypeId}(eP:op.op=.call {callee:=.value (.func f),args,argTypes:=sA})(hf:P.funcs[f]?=some fc)(gP:(fc.name == "runtime.NumGoroutine")=false)(fF:fc.body=some c){av:Array Value}(has:args.map a.eval=av){y:Value}(Fg:∀σ o w,zw ops kds v j σ->S σ o w->bz P (XB P Fin d) f av o w fun y' o' w'=>y'=y/\S σ o' w')(h:dJ P (Bl P (XB P Fin d) fn ops Q S kds v) ops K v l xs (a.put dd y)):dJ P (Bl P (XB P Fin d) fn ops Q S kds v) ops K v (j::l) (some (some y)::xs) a:=by
 refine gh ho hd (fun A rest σ o w h1 h2 h3 h4 hS hc=>?_) rfl h;exact dA bV ho (h2.trans hw) eP hf gP fF ((pJ eP h1).trans has) rfl ((Fg σ o w h3 hS).mono fun y o' w' q=>hc y o' w' q)
theorem pL(db:rL P L P.globals.size)(ho:ops[j]?=some op)(hd:op.dst=dd)(hn:CC op.op=true)(hw:Region.wanted op (yielded ops a.tmps)=true)(je:tw L op.op=true)(cJ:∀σ o w,zw ops kds v j σ->σ j=none->S σ o w->bM P L o w/\(∀x∈op.op.operands,Cl P L o (a.eval x))/\∃R:ae->ae->Prop,(∀wl,iA o w wl->∃aV,(execOp a.eval op).run P wl=.ok .skip aV/\R wl aV)/\∀wl aV w',iA o w wl->R wl aV->lH P L o w w' aV undef->S (fM σ j undef) (grow o w w') w')(h:dJ P (Bl P (XB P Fin d) fn ops Q S kds v) ops K v l xs (a.put dd (v j))):dJ P (Bl P (XB P Fin d) fn ops Q S kds v) ops K v (j::l) (none::xs) a:=by
 refine gh ho hd (fun A rest σ o w h1 h2 h3 h4 hS hc=>?_) rfl h;obtain⟨hF,fu,R,hr,hb⟩:=cJ σ o w h3 (h4 rfl) hS;have hex:=execOp_congr op (rY hn) h1;exact du db hF ho (h2.trans hw) je (fun x hx=>by rw[h1 x hx];exact fu x hx) rfl (R:=R) (fun wl aT=>by rw[hex];exact hr wl aT) fun wl aV w' k1 k2 k3=>hc undef _ _ (hb wl aV w' k1 k2 k3)
theorem ql(db:rL P L P.globals.size)(ho:ops[j]?=some op)(hd:op.dst=dd)(hn:CC op.op=true)(hw:Region.wanted op (yielded ops a.tmps)=true)(je:tw L op.op=true)(cJ:∀σ o w,zw ops kds v j σ->σ j=none->S σ o w->bM P L o w/\(∀x∈op.op.operands,Cl P L o (a.eval x))/\∃R:ae->Value->ae->Prop,(∀wl,iA o w wl->∃y aV,(execOp a.eval op).run P wl=.ok (.value y) aV/\R wl y aV)/\∀wl y aV w',iA o w wl->R wl y aV->lH P L o w w' aV y->S (fM σ j y) (grow o w w') w')(h:dJ P (Bl P (XB P Fin d) fn ops Q S kds v) ops K v l xs (a.put dd (v j))):dJ P (Bl P (XB P Fin d) fn ops Q S kds v) ops K v (j::l) (none::xs) a:=by
 refine gh ho hd (fun A rest σ o w h1 h2 h3 h4 hS hc=>?_) rfl h;obtain⟨hF,fu,R,hr,hb⟩:=cJ σ o w h3 (h4 rfl) hS;have hex:=execOp_congr op (rY hn) h1;exact dt db hF ho (h2.trans hw) je (fun x hx=>by rw[h1 x hx];exact fu x hx) rfl (R:=R) (fun wl aT=>by rw[hex];exact hr wl aT) fun wl y aV w' k1 k2 k3=>hc y _ _ (hb wl y aV w' k1 k2 k3)
end
structure wU(p:Prop):Prop where
 out:p
theorem ax{G G':Prop}(h:G')(f:wU G'->G:=by
  intro h9;try walk_nrm
  repeat (first|(refine Cj (by assumption) ?_;simp only[List.size_toArray,List.length_cons,List.length_nil,Nat.reduceAdd,Nat.zero_add,List.range,List.range.loop])|(refine qY (by assumption) rfl rfl ?_ ?_ ?_;(focus (rfl));(focus (intro w1;first|(simp[go_sem];done)|(simp[go_sem, *];done)));intro w1 K hK;go_simp;refine hK _ ?_;clear hK K w1;try walk_nrm)|(refine jy (by assumption) rfl (by rfl) ?_;try walk_nrm)|((first|refine xU (by assumption) ?_|refine IA (by assumption) ?_|refine Nw (by assumption) ?_|refine IB (by assumption) ?_);try simp only[iH,Sc,xY,dI,if_true,if_false,reduceIte,Nat.reduceEqDiff])|(refine pH (by assumption) ?_)|(refine E2 (by assumption) ?_)|(refine gX (by assumption) rfl ?_;simp only[if_true,if_false,reduceIte,aL]))
  exact h9.out):G:=f ⟨h⟩
theorem CE{G G':Prop}(h:G')(f:wU G'->G:=by
  intro h9;try walk_nrm
  repeat (first|(refine Cj (by assumption) ?_;simp only[List.size_toArray,List.length_cons,List.length_nil,Nat.reduceAdd,Nat.zero_add,List.range,List.range.loop])|(refine qY (by assumption) rfl rfl ?_ ?_ ?_;(focus (rfl));(focus (intro w1;first|(simp[go_sem];done)|(simp[go_sem, *];done)));intro w1 K hK;go_simp;refine hK _ ?_;clear hK K w1;try walk_nrm)|(refine jy (by assumption) rfl (by rfl) ?_;try walk_nrm)|((first|refine xU (by assumption) ?_|refine IA (by assumption) ?_|refine Nw (by assumption) ?_|refine IB (by assumption) ?_);try simp only[iH,dI,if_true,if_false,reduceIte,Nat.reduceEqDiff])|(refine E2 (by assumption) ?_)|(refine gX (by assumption) rfl ?_;simp only[if_true,if_false,reduceIte,aL]))
  exact h9.out):G:=f ⟨h⟩
theorem cC{G G':Prop}(h:G')(f:wU G'->G:=by
  intro h9;try walk_nrm
  repeat (refine re (y:=?_) rfl rfl rfl (by rfl) (fun w1=>?_) (fun w1=>?_) ?_;rotate_left;(focus (first|(simp[go_sem,Act.eval];rfl)|(simp[go_sem,Act.eval, *];rfl)));(focus (first|(simp[go_sem,Act.eval];done)|(simp[go_sem,Act.eval, *];done)));try walk_nrm)
  exact h9.out):G:=f ⟨h⟩
theorem hJ{G G':Prop}(h:G')(f:wU G'->G:=by
  intro h9
  repeat (refine VF (by assumption) rfl rfl ?_ (by assumption) ?_ ?_;(focus (rfl));(focus (intro w1;first|(simp[go_sem];done)|(simp[go_sem, *];done)));intro w1 K hK;go_simp;refine hK _ ?_;clear hK K w1;try walk_nrm)
  exact h9.out):G:=f ⟨h⟩
theorem dP{G G':Prop}(h:G')(f:wU G'->G:=by
  intro h9;simp only[List.size_toArray,List.length_cons,List.length_nil,Nat.reduceAdd,Nat.zero_add,List.range,List.range.loop];exact h9.out):G:=f ⟨h⟩
theorem uo{G G':Prop}(h:G')(f:wU G'->G:=by
  intro h9;refine cK rfl rfl (kz fun o5 w5 nu=>⟨?_,?_⟩) ?_;(focus (first|(simp[go_sem];done)|(simp[go_sem, *];done)));(focus (first|(simp[go_sem];done)|(simp[go_sem, *];done)));try walk_nrm
  exact h9.out):G:=f ⟨h⟩
theorem Su{G G':Prop}(h:G')(f:wU G'->G:=by
  intro h9;refine cK rfl rfl (fun w5 nu=>⟨?_,?_⟩) ?_;(focus (first|(simp[go_sem];done)|(simp[go_sem, *];done)));(focus (first|(simp[go_sem];done)|(simp[go_sem, *];done)));try walk_nrm
  exact h9.out):G:=f ⟨h⟩
theorem mU{G T:Prop}(h:T)(f:T->G:=by
  intro h9 y hy;simp[Op.operands] at hy;subst hy;simp[Act.eval];exact h9):G:=f h
theorem iV{G T U:Prop}(h:T)(k:U)(f:T->U->G:=by
  intro h9 k9 y hy;simp[Op.operands] at hy;rcases hy with rfl|rfl
  ·simp[Act.eval];exact h9
  ·simp[Act.eval];exact k9):G:=f h k
section
variable {P:Program} {m:Bool} {R:aM->ae->ae->Prop} {Gu:aM->ae->ae->Array Event->Prop} {X:aM->aX->ae->Prop} {fn:FuncId} {Q:Exit->Act->aM->ae->Prop} {a:Act} {o:aM} {w:ae}
theorem cd{ops:Array Oper}{i:Nat}{rest:List Nat}{op:Oper}{f:FuncId}{fc:Func}{c:Code}{args:Array Operand}{sA:Array TypeId}{vs:Array Value}{d:Option Tmp}{Post:Value->aM->ae->Prop}(hf:P.funcs[f]?=some fc)(h:bz P X f vs o w Post)(k:∀v o' w',Post v o' w'->eX X fn ops rest Q (a.put d v) o' w')(W:fH P m R Gu X:=by assumption)(ho:ops[i]?=some op:=by rfl)(hw:Region.wanted op (yielded ops a.tmps)=true:=by rfl)(eP:op.op=.call {callee:=.value (.func f),args,argTypes:=sA}:=by rfl)(gP:(fc.name == "runtime.NumGoroutine")=false:=by kernel_rfl)(fF:fc.body=some c:=by rfl)(xT:args.map a.eval=vs:=by simp[Act.eval])(hd:op.dst=d:=by rfl):eX X fn ops (i::rest) Q a o w:=dA W ho hw eP hf gP fF xT hd (h.mono k)
end
section
variable {P:Program} {w:ae} {es:Array Event}
theorem yi(t e:TypeId)(n:Nat)(a:Addr)(kl kh:IntKind)(l h:Int)(ht:P.underlying t=some (.array n e))(h0:0<=l)(h1:l<=h)(h2:h<=n):
  (Instr.sliceAt t (.pointer (some a)) (some (.int kl l)) (some (.int kh h)) none).events P w es=es:=by
 have eh:(h.toNat:Int)=h:=gE aa;have el:(l.toNat:Int)=l:=gE h0;have b1:∀w es,(Instr.sliceBound (.int kh h) n .sliceAlen).events P w es=es:=fun w es=>by
  simp[Instr.sliceBound,asIntOf,Sem.events_bind,show 0<=h by omega,h2]
 have b2:∀w es,(Instr.sliceBound (.int kl l) h.toNat .sliceB).events P w es=es:=fun w es=>by
  simp[Instr.sliceBound,asIntOf,Sem.events_bind,h0,eh,h1]
 simp[Instr.sliceAt,Instr.sliceBounds,Instr.sureAddr,Sem.events_bind,run_underlying ht,run_sliceBound,b1,b2,eh,el,h0,h1,h2,show 0<=h by omega,go_sem]
end
section
variable {P:Program}
theorem wV{w:ae}(f:Value->af->Sem (ForInStep af))(hf:∀(n:Int) (r:af),(f (.int .u8 n) r).run P w=.ok (.yield (r.push (UInt8.ofNat n.toNat))) w)(he:∀(n:Int) (r:af) (es:Array Event),(f (.int .u8 n) r).events P w es=es):∀(ns:List Int) (s:af) (es:Array Event),(forIn (ns.map (Value.int .u8)) s f).events P w es=es:=by
 intro ns
 induction ns with
 |nil=>intro s es;simp[Sem.events_pure]
 |cons n ns ih =>
  intro s es;simp only[aA,List.forIn_cons,Sem.events_bind,hf,Result.evThen_ok,he];exact ih _ es
theorem cV{w:ae}{a:Addr}{u v:Value}(es:Array Event)(m:Mode)(hc:w.cell? a=some u)(hf:w.frozen? a=false)(hv:v.oneCell'=true):(store a v m).events P w es=es.push ⟨.cell a,true,m == .atomic⟩:=by
 rw[events_store P w es a v m hv,hc];simp[hf]
theorem vH(w:ae)(src dst e:TypeId)(a:Addr)(ns:List Int)(c:Nat)(es:Array Event)(hs:P.underlying src=some (.slice e))(he:P.underlying e=some (.int .u8))(hd:P.underlying dst=some .string)(hc:∀j (hj:j<ns.length),w.cell? (a.add j)=some (.int .u8 ns[j])):∀ev∈(convert src dst (.slice (some a) ns.length c)).events P w es,ev∈es\/ev.readsIn (fun b=>b=a.block):=by
 have hl:=run_loadCells_list (P:=P) w a (ns.map (Value.int .u8)) (fun j v hj=>by
  obtain⟨h1,h2⟩:=List.getElem?_eq_some_iff.1 hj;rw[hc j (by simpa using h1),<- h2];simp)
 simp only[List.length_map] at hl;intro ev h;have h':ev∈(Conv.bytesToString (.slice (some a) ns.length c)).events P w es:=by
  simpa[convert,run_underlying hs,run_underlying hd,run_underlying he,Sem.events_bind,events_underlying] using h
 simp only[Conv.bytesToString,Sem.events_bind,hl,Result.evThen_ok] at h';rw[List.forIn_toArray,run_forIn_bytes (P:=P) (w:=w) _ (fun n r=>by simp[Sem.run_pure]) ns ByteArray.empty,Result.evThen_ok,wV (P:=P) (w:=w) _ (fun n r=>by simp[Sem.run_pure]) (fun n r es=>by simp[Sem.events_pure]) ns ByteArray.empty,Sem.events_pure] at h';exact events_loadCellsFrom_at a (fun b=>b=a.block) rfl ns.length 0 #[] w es (fun j hj=>by rw[bB,hc j hj];rfl) ev h'
end
end Go.Ren
namespace Go.Proofs.Kz
open Go.Proofs.Tryz
open Go.Proofs.Tryz renaming prog → au
open _root_.ByteArray renaming empty → aO
open Go.Ren Go.Conc Go.Proofs
section
variable {m:Bool} {R:aM->ae->ae->Prop} {Gu:aM->ae->ae->Array Event->Prop} {X:aM->aX->ae->Prop} {o:aM} {w:ae}
theorem Zz(W:fH au m R Gu X)(n:Int){Post:Value->aM->ae->Prop}(h:bz au X 209 #[.int .i64 n] o w Post):bz au X 197 #[.int .i64 n] o w Post:=by
 refine bC W func197 ar ?_;refine ax ?_;refine dA W rfl ar rfl func209 ah rfl aH rfl (h.mono fun v o' w' hp=>?_);try walk_nrm
 refine ax ?_;exact⟨.inr trivial,trivial,v,resultsC_tmp (t:=2) ar _,hp⟩
end
end Go.Proofs.Kz
namespace Go.Ren
def VI(P:Program)(L:Nat->Bool)(Gm:Nat)(ex:List Nat)(n:Nat):Bool:=match P.funcs[n]? with
 |some fn=>fn.body.all (kJ Gm L)&&((fn.body.isSome&&!(fn.name == "runtime.NumGoroutine"))||ex.contains n)
 |none=>false
theorem Bn{P:Program}{L:Nat->Bool}{Gm:Nat}{ex l:List Nat}(ha:l.all (VI P L Gm ex)=true){n:Nat}(h:n∈l):∃fn,P.funcs[n]?=some fn/\fn.body.all (kJ Gm L)=true/\((fn.body.isSome=true/\(fn.name == "runtime.NumGoroutine")=false)\/n∈ex):=by
 have hm:=List.all_eq_true.1 ha n h;unfold VI at hm;cases hf:P.funcs[n]? with
 |none=>rw[hf] at hm;cases hm
 |some fn =>
  rw[hf] at hm;simp only[a8,Bool.or_eq_true,eB] at hm;exact⟨fn,rfl,hm.1,hm.2.imp id List.contains_iff_mem.1⟩
end Go.Ren
namespace Go.Proofs.Kz
open Go.Proofs.Tryz
open Go.Proofs.Tryz renaming prog → au
open _root_.ByteArray renaming empty → aO
open Go.Ren Go.Proofs
def LW(n:Nat):Bool:=[196,199,210,211,212,213,245,247,223,234,235,236,254,255,249,250,251,258,259,262,263].contains n
theorem Sw:([196,199,210,211,212,213,245,247,223,234,235,236,254,255,249,250,251,258,259,262,263]:List Nat).all (VI au LW 0 [262,263])=true:=ah
theorem VJ(n:Nat)(hn:LW n=true)(f:Rn)(hf:nE au f)(hh:∀n,LW n=true->f.h n=n)(args:Array Value):Rel au f (jh LW f) (callFunc n args) (callFunc n (args.map (val f))):=by
 obtain⟨fn,h1,-,h2⟩:=Bn Sw (List.contains_iff_mem.1 (by unfold LW at hn;exact hn));rcases h2 with⟨h2,h3⟩|h2;rotate_left;simp only[bJ,dh,or_false] at h2;rcases h2 with rfl|rfl
 rotate_right
 ·exact EX h1 h2 h3 hn args
 ·exact oy func262 rfl ah ah rfl (hh _ ah) args (xO _)
 ·exact oy func263 rfl ah ah rfl (hh _ ah) args (tY hf _ _ _)
theorem ZA(hz:∀t i z,au.info? t=some i->i.zero=some z->∀f:Rn,val f z=z):rL au LW 0 where
 zero:=hz
 call:=fun n hn=>VJ n hn
 body:=fun n hn=>by
  obtain⟨fn,h1,h2,-⟩:=Bn Sw (List.contains_iff_mem.1 (by unfold LW at hn;exact hn));exact⟨fn,h1,fun c hc=>by rw[hc] at h2;exact h2⟩
def Sx:Value->Bool
 | .tuple vs=>vs.all BR
 |v=>BR v
theorem LY{v:Value}(h:Sx v=true)(f:Rn):val f v=v:=by
 cases v
 case tuple cs =>
  have hc:cs.all BR=true:=h;rw[im] at hc;rw[bY]
  congr 1
  apply jf
  ·simp
  ·intro i h1 h2;simp only[Array.getElem_map];exact wG (hc i h2) f
 all_goals (refine wG ?_ f;exact h)
theorem LZ:(au.types.all fun i=>i.zero.all Sx)=true:=ah
theorem Fh:∀t i z,au.info? t=some i->i.zero=some z->∀f:Rn,val f z=z:=by
 refine Lq fun t i z hi hz=>?_;have h:=LZ;rw[jz] at h;have:=h i (dW hi);rw[hz] at this;exact fun f=>LY this f
theorem hZ:au.globals.size≠1:=by
 have:(au.globals.size==1)=false:=ah;intro h;rw[h] at this;cases this
end Go.Proofs.Kz
namespace Go.Proofs
section
open Go.Shelf
def Tryz.Ar:Go.Shelf.Ren:=⟨fun|156=>234|165=>249|166=>250|169=>251|240=>258|241=>259|276=>262|277=>263|n=>n,fun|31=>40|9=>9|3=>3|4=>4|0=>0|20=>20|72=>332|76=>335|70=>330|37=>90|75=>334|127=>344|164=>116|5=>5|80=>337|n=>n,fun|n=>n⟩
theorem Tryz.VK:Go.Proofs.Lays.n156 Tryz.prog Tryz.Ar:={
 mixed:=ah
 f156:=Tryz.func234.trans (congrArg some ah)
 f165:=Tryz.func249.trans (congrArg some ah)
 f166:=Tryz.func250.trans (congrArg some ah)
 f169:=Tryz.func251.trans (congrArg some ah)
 f240:=Tryz.func258.trans (congrArg some ah)
 f241:=Tryz.func259.trans (congrArg some ah)
 f276:=Tryz.func262.trans (congrArg some ah)
 f277:=Tryz.func263.trans (congrArg some ah)
 t0:=underlying0
 a0:=isAgg0
 z0:=sizeOf0
 v0:=zeroValue0
 t3:=underlying3
 a3:=isAgg3
 z3:=sizeOf3
 v3:=zeroValue3
 t4:=underlying4
 a4:=isAgg4
 z4:=sizeOf4
 v4:=zeroValue4
 t9:=underlying9
 a9:=isAgg9
 z9:=sizeOf9
 v9:=zeroValue9
 t20:=underlying20
 a20:=isAgg20
 z20:=sizeOf20
 v20:=zeroValue20
 t31:=underlying40
 a31:=isAgg40
 z31:=sizeOf40
 v31:=zeroValue40
 t37:=underlying90
 a37:=isAgg90
 z37:=sizeOf90
 v37:=zeroValue90
 t70:=underlying330
 a70:=isAgg330
 z70:=sizeOf330
 v70:=zeroValue330
 t72:=underlying332
 a72:=isAgg332
 z72:=sizeOf332
 v72:=zeroValue332
 t75:=underlying334
 a75:=isAgg334
 z75:=sizeOf334
 v75:=zeroValue334
 t76:=underlying335
 a76:=isAgg335
 z76:=sizeOf335
 v76:=zeroValue335
 t127:=underlying344
 a127:=isAgg344
 z127:=sizeOf344
 v127:=zeroValue344
 t164:=underlying116
 a164:=isAgg116
 z164:=sizeOf116
 v164:=zeroValue116}
theorem Tryz.yj:Builder.Extra Tryz.prog Tryz.Ar:={
 sizeBuilder:=ah
 liesBuilder:=ah
 t5:=underlying5
 a5:=isAgg5
 z5:=sizeOf5
 v5:=zeroValue5
 infoByte:=ah
 cellsByte:=ah
 sizeByte:=ah
 neB5:=by decide}
open Go.RowKit in
theorem Tryz.strings_Join(bk o c:Nat)(xs:List af)(sep:af)(w:ae)(qm:∀(j:Nat) x,xs[j]?=some x->w.cell? ⟨bk,o+j,none⟩=some (.string x))(bN:bk<w.heap.size)(hN:xs.length<=140737488355328)(AX:xs.length<=c)(hlen:(Lib.join (xs.map (·.data.toList)) sep.data.toList).length<=140737488355328):
  Calls Tryz.prog 234 #[.slice (some ⟨bk,o,none⟩) xs.length c,.string sep] w fun e w'=>e=.returned (.string ⟨(Lib.join (xs.map (·.data.toList)) sep.data.toList).toArray⟩)/\Below w.heap.size w w':=Any.strings_Join Tryz.VK Tryz.yj bk o c xs sep w qm bN hN AX hlen
def Tryz.IZ:Go.Shelf.Ren:=⟨fun|106=>187|213=>206|265=>224|n=>n,fun|9=>9|3=>3|n=>n,fun|n=>n⟩
theorem Tryz.VL:Go.Proofs.Lays.n106 Tryz.prog Tryz.IZ:={
 mixed:=ah
 f106:=Tryz.func187.trans (congrArg some ah)
 f213:=Tryz.func206.trans (congrArg some ah)
 f265:=Tryz.func224.trans (congrArg some ah)
 t3:=underlying3
 a3:=isAgg3
 z3:=sizeOf3
 v3:=zeroValue3
 t9:=underlying9
 a9:=isAgg9
 z9:=sizeOf9
 v9:=zeroValue9}
open Go.RowKit in
theorem Tryz.strings_Compare(a b:af)(w:ae):
  Calls Tryz.prog 187 #[.string a,.string b] w fun e w'=>e=.returned (.int .i64 (Lib.compareBytes a.data.toList b.data.toList))/\w'=w:=Any.strings_Compare Tryz.VL a b w
def Tryz.I0:Go.Shelf.Ren:=⟨fun|129=>223|n=>n,fun|53=>212|3=>3|4=>4|46=>223|5=>5|9=>9|n=>n,fun|n=>n⟩
theorem Tryz.VM:Go.Proofs.Lays.n129 Tryz.prog Tryz.I0:={
 mixed:=ah
 f129:=Tryz.func223.trans (congrArg some ah)
 t3:=underlying3
 a3:=isAgg3
 z3:=sizeOf3
 v3:=zeroValue3
 t4:=underlying4
 a4:=isAgg4
 z4:=sizeOf4
 v4:=zeroValue4
 t5:=underlying5
 a5:=isAgg5
 z5:=sizeOf5
 v5:=zeroValue5
 t9:=underlying9
 a9:=isAgg9
 z9:=sizeOf9
 v9:=zeroValue9
 t46:=underlying223
 a46:=isAgg223
 z46:=sizeOf223
 v46:=zeroValue223
 t53:=underlying212
 a53:=isAgg212
 z53:=sizeOf212
 v53:=zeroValue212}
theorem Tryz.bits_Len64(x:Int)(w:ae)(h0:0<=x)(h1:x<=18446744073709551615):
  Calls Tryz.prog 223 #[.int .u64 x] w fun e w'=>e=.returned (.int .i64 (Lib.bitLen x.toNat))/\w'=w:=Any.bits_Len64 Tryz.VM x w h0 h1
def Tryz.I1:Go.Shelf.Ren:=⟨fun|317=>254|n=>n,fun|3=>3|46=>223|n=>n,fun|n=>n⟩
theorem Tryz.VN:Go.Proofs.Lays.n317 Tryz.prog Tryz.I1:={
 mixed:=ah
 f317:=Tryz.func254.trans (congrArg some ah)
 t3:=underlying3
 a3:=isAgg3
 z3:=sizeOf3
 v3:=zeroValue3
 t46:=underlying223
 a46:=isAgg223
 z46:=sizeOf223
 v46:=zeroValue223}
open Go.Lib in
theorem Tryz.internal_strconv_log10Pow2(x:Nat)(h:x<=64)(w:ae):
  Calls Tryz.prog 254 #[.int .i64 x] w fun e w'=>e=.returned (.int .i64 (Lib.l10 x))/\w'=w:=Any.internal_strconv_log10Pow2 Tryz.VN x h w
def Tryz.I2:Go.Shelf.Ren:=⟨fun|318=>255|n=>n,fun|3=>3|4=>4|n=>n,fun|n=>n⟩
theorem Tryz.VO:Go.Proofs.Lays.n318 Tryz.prog Tryz.I2:={
 mixed:=ah
 f318:=Tryz.func255.trans (congrArg some ah)
 t3:=underlying3
 a3:=isAgg3
 z3:=sizeOf3
 v3:=zeroValue3
 t4:=underlying4
 a4:=isAgg4
 z4:=sizeOf4
 v4:=zeroValue4}
open Go.Lib in
theorem Tryz.internal_strconv_bool2_int(b:Bool)(w:ae):
  Calls Tryz.prog 255 #[.bool b] w fun e w'=>e=.returned (.int .i64 (if b then 1 else 0))/\w'=w:=Any.internal_strconv_bool2_int Tryz.VO b w
def Tryz.I3:Go.Shelf.Ren:=⟨fun|283=>245|n=>n,fun|3=>3|9=>9|4=>4|n=>n,fun|n=>n⟩
theorem Tryz.VP:Go.Proofs.Lays.n283 Tryz.prog Tryz.I3:={
 mixed:=ah
 f283:=Tryz.func245.trans (congrArg some ah)
 t3:=underlying3
 a3:=isAgg3
 z3:=sizeOf3
 v3:=zeroValue3
 t4:=underlying4
 a4:=isAgg4
 z4:=sizeOf4
 v4:=zeroValue4
 t9:=underlying9
 a9:=isAgg9
 z9:=sizeOf9
 v9:=zeroValue9}
open Go.Lib in
theorem Tryz.internal_strconv_small(i:Nat)(h:i<100)(w:ae):
  Calls Tryz.prog 245 #[.int .i64 i] w fun e w'=>e=.returned (.string ⟨(Lib.decDigits i).toArray⟩)/\w'=w:=Any.internal_strconv_small Tryz.VP i h w
def Tryz.I4:Go.Shelf.Ren:=⟨fun|285=>247|n=>n,fun|37=>90|53=>212|3=>3|4=>4|51=>102|9=>9|5=>5|0=>0|n=>n,fun|n=>n⟩
theorem Tryz.VQ:Go.Proofs.Lays.n285 Tryz.prog Tryz.I4:={
 mixed:=ah
 f285:=Tryz.func247.trans (congrArg some ah)
 t0:=underlying0
 a0:=isAgg0
 z0:=sizeOf0
 v0:=zeroValue0
 t3:=underlying3
 a3:=isAgg3
 z3:=sizeOf3
 v3:=zeroValue3
 t4:=underlying4
 a4:=isAgg4
 z4:=sizeOf4
 v4:=zeroValue4
 t5:=underlying5
 a5:=isAgg5
 z5:=sizeOf5
 v5:=zeroValue5
 t9:=underlying9
 a9:=isAgg9
 z9:=sizeOf9
 v9:=zeroValue9
 t37:=underlying90
 a37:=isAgg90
 z37:=sizeOf90
 v37:=zeroValue90
 t51:=underlying102
 a51:=isAgg102
 z51:=sizeOf102
 v51:=zeroValue102
 t53:=underlying212
 a53:=isAgg212
 z53:=sizeOf212
 v53:=zeroValue212}
open Go.RowKit Go.Sort Go.Lib in
theorem Tryz.internal_strconv_formatBase10(blk off cap:Nat)(u:Nat)(d:Array UInt8)(w:ae)(hH:Holds (fun(b:UInt8)=>Value.int .u8 (b.toNat:Int)) w blk off d)(hu:u<10^d.size)(ag9:u<18446744073709551616)(fE:d.size<4611686018427387904):
  Calls Tryz.prog 247 #[.slice (some ⟨blk,off,none⟩) d.size cap,.int .u64 u] w fun e w' =>
   e=.returned (.tuple #[])/\∃(n v':Nat) (dk:Array UInt8),w'=(putRow (fun(b:UInt8)=>Value.int .u8 (b.toNat:Int)) w blk off dk).drewN n/\FmtInv d.size u 0 v' dk:=Any.internal_strconv_formatBase10 Tryz.VQ blk off cap u d w hH hu ag9 fE
def Tryz.I5:Go.Shelf.Ren:=⟨fun|190=>188|125=>205|258=>207|128=>222|129=>223|302=>225|303=>226|304=>227|305=>228|306=>229|307=>230|308=>118|309=>231|310=>232|333=>242|329=>238|330=>239|334=>243|335=>244|336=>168|344=>253|n=>n,fun|31=>40|9=>9|3=>3|46=>223|0=>0|51=>102|53=>212|4=>4|183=>304|182=>303|131=>156|5=>5|218=>319|222=>322|228=>338|229=>170|n=>n,fun|n=>n⟩
theorem Tryz.VR:Go.Proofs.Lays.n190 Tryz.prog Tryz.I5:={
 mixed:=ah
 f125:=Tryz.func205.trans (congrArg some ah)
 f128:=Tryz.func222.trans (congrArg some ah)
 f129:=Tryz.func223.trans (congrArg some ah)
 f190:=Tryz.func188.trans (congrArg some ah)
 f258:=Tryz.func207.trans (congrArg some ah)
 f302:=Tryz.func225.trans (congrArg some ah)
 f303:=Tryz.func226.trans (congrArg some ah)
 f304:=Tryz.func227.trans (congrArg some ah)
 f305:=Tryz.func228.trans (congrArg some ah)
 f306:=Tryz.func229.trans (congrArg some ah)
 f307:=Tryz.func230.trans (congrArg some ah)
 f308:=Tryz.func118.trans (congrArg some ah)
 f309:=Tryz.func231.trans (congrArg some ah)
 f310:=Tryz.func232.trans (congrArg some ah)
 f329:=Tryz.func238.trans (congrArg some ah)
 f330:=Tryz.func239.trans (congrArg some ah)
 f333:=Tryz.func242.trans (congrArg some ah)
 f334:=Tryz.func243.trans (congrArg some ah)
 f335:=Tryz.func244.trans (congrArg some ah)
 f336:=Tryz.func168.trans (congrArg some ah)
 f344:=Tryz.func253.trans (congrArg some ah)
 t0:=underlying0
 a0:=isAgg0
 z0:=sizeOf0
 v0:=zeroValue0
 t3:=underlying3
 a3:=isAgg3
 z3:=sizeOf3
 v3:=zeroValue3
 t4:=underlying4
 a4:=isAgg4
 z4:=sizeOf4
 v4:=zeroValue4
 t5:=underlying5
 a5:=isAgg5
 z5:=sizeOf5
 v5:=zeroValue5
 t9:=underlying9
 a9:=isAgg9
 z9:=sizeOf9
 v9:=zeroValue9
 t31:=underlying40
 a31:=isAgg40
 z31:=sizeOf40
 v31:=zeroValue40
 t46:=underlying223
 a46:=isAgg223
 z46:=sizeOf223
 v46:=zeroValue223
 t51:=underlying102
 a51:=isAgg102
 z51:=sizeOf102
 v51:=zeroValue102
 t53:=underlying212
 a53:=isAgg212
 z53:=sizeOf212
 v53:=zeroValue212
 t131:=underlying156
 a131:=isAgg156
 z131:=sizeOf156
 v131:=zeroValue156
 t182:=underlying303
 a182:=isAgg303
 z182:=sizeOf303
 v182:=zeroValue303
 t183:=underlying304
 a183:=isAgg304
 z183:=sizeOf304
 v183:=zeroValue304
 t218:=underlying319
 a218:=isAgg319
 z218:=sizeOf319
 v218:=zeroValue319
 t222:=underlying322
 a222:=isAgg322
 z222:=sizeOf322
 v222:=zeroValue322
 t228:=underlying338
 a228:=isAgg338
 z228:=sizeOf338
 v228:=zeroValue338
 t229:=underlying170
 a229:=isAgg170
 z229:=sizeOf170
 v229:=zeroValue170}
open Go.Sort Go.RowKit in
theorem Tryz.slices_Sort_string(blk off cap:Nat)(ss:List (List UInt8))(w:ae)(hH:Holds encStr w blk off ss.toArray)(Pn:blk<w.heap.size)(fE:ss.length<4611686018427387904):
  Calls Tryz.prog 188 #[.slice (some ⟨blk,off,none⟩) ss.length cap] w fun e w' =>
   e=.returned (.tuple #[])/\∃n os,w'=grow (putRow encStr (Sort.ahead w n) blk off (ss.mergeSort fun x y=>decide (x<=y)).toArray) os:=Any.slices_Sort_string Tryz.VR blk off cap ss w hH Pn fE
def Tryz.I6:Go.Shelf.Ren:=⟨fun|107=>190|108=>208|n=>n,fun|28=>130|3=>3|4=>4|0=>0|n=>n,fun|n=>n⟩
theorem Tryz.VT:Go.Proofs.Lays.n107 Tryz.prog Tryz.I6:={
 mixed:=ah
 f107:=Tryz.func190.trans (congrArg some ah)
 f108:=Tryz.func208.trans (congrArg some ah)
 t0:=underlying0
 a0:=isAgg0
 z0:=sizeOf0
 v0:=zeroValue0
 t3:=underlying3
 a3:=isAgg3
 z3:=sizeOf3
 v3:=zeroValue3
 t4:=underlying4
 a4:=isAgg4
 z4:=sizeOf4
 v4:=zeroValue4
 t28:=underlying130
 a28:=isAgg130
 z28:=sizeOf130
 v28:=zeroValue130}
open Go.Lib in
theorem Tryz.slices_Contains_int(b off n c:Nat)(zs:List Int)(x:Int)(w:ae)(hz:n<=zs.length)(AY:n<=9223372036854775807)(hc:∀j,j<zs.length->w.cell? ⟨b,off+j,none⟩=some (.int .i64 (zs.getD j 0))):
  Calls Tryz.prog 190 #[.slice (some ⟨b,off,none⟩) n c,.int .i64 x] w fun e w'=>e=.returned (.bool ((zs.take n).contains x))/\w'=w:=Any.slices_Contains_int Tryz.VT b off n c zs x w hz AY hc
def Tryz.I7:Go.Shelf.Ren:=⟨fun|110=>80|109=>128|n=>n,fun|31=>40|9=>9|4=>4|3=>3|0=>0|n=>n,fun|n=>n⟩
theorem Tryz.ND:Go.Proofs.Lays.n110 Tryz.prog Tryz.I7:={
 mixed:=ah
 f109:=Tryz.func128.trans (congrArg some ah)
 f110:=Tryz.func80.trans (congrArg some ah)
 t0:=underlying0
 a0:=isAgg0
 z0:=sizeOf0
 v0:=zeroValue0
 t3:=underlying3
 a3:=isAgg3
 z3:=sizeOf3
 v3:=zeroValue3
 t4:=underlying4
 a4:=isAgg4
 z4:=sizeOf4
 v4:=zeroValue4
 t9:=underlying9
 a9:=isAgg9
 z9:=sizeOf9
 v9:=zeroValue9
 t31:=underlying40
 a31:=isAgg40
 z31:=sizeOf40
 v31:=zeroValue40}
open Go.Lib in
theorem Tryz.slices_Contains_string(b off n c:Nat)(zs:List af)(x:af)(w:ae)(hz:n<=zs.length)(AY:n<=9223372036854775807)(hc:∀j,j<zs.length->w.cell? ⟨b,off+j,none⟩=some (.string (zs.getD j ByteArray.empty))):
  Calls Tryz.prog 80 #[.slice (some ⟨b,off,none⟩) n c,.string x] w fun e w'=>e=.returned (.bool (Lib.containsS (zs.take n) x))/\w'=w:=Any.slices_Contains_string Tryz.ND b off n c zs x w hz AY hc
open Go.Lib in
theorem Tryz.slices_Contains_string_empty(a:Option Addr)(c:Nat)(x:af)(w:ae):
  Calls Tryz.prog 80 #[.slice a 0 c,.string x] w fun e w'=>e=.returned (.bool false)/\w'=w:=Any.slices_Contains_string_empty Tryz.ND a c x w
def Tryz.Ec:Go.Shelf.Ren:=⟨fun|16=>51|n=>n,fun|24=>40|9=>9|4=>4|n=>n,fun|n=>n⟩
theorem Tryz.zx:Go.Proofs.Lays2.n16 Tryz.prog Tryz.Ec:={
 mixed:=ah
 f16:=Tryz.func51.trans (congrArg some ah)
 t4:=underlying4
 a4:=isAgg4
 z4:=sizeOf4
 v4:=zeroValue4
 t9:=underlying9
 a9:=isAgg9
 z9:=sizeOf9
 v9:=zeroValue9
 t24:=underlying40
 a24:=isAgg40
 z24:=sizeOf40
 v24:=zeroValue40
 i9:=by kernel_rfl}
open Go.RowKit Go.Lib in
theorem Tryz.slices_Clone_string(b off n c:Nat)(zs:List af)(w:ae)(hz:n<=zs.length)(AY:n*16<=140737488355328)(hc:∀j,j<zs.length->w.cell? ⟨b,off+j,none⟩=some (.string (zs.getD j ByteArray.empty))):
  Calls Tryz.prog 51 #[.slice (some ⟨b,off,none⟩) n c] w fun e w'=>∃v',e=.returned v'/\w'.ownsRow w.heap.size 9 1 v' n ((zs.take n).map (Value.string))/\v'≠.slice none 0 0/\Below w.heap.size w w':=Any.slices_Clone_string Tryz.zx b off n c zs w hz AY hc
open Go.RowKit Go.Lib in
theorem Tryz.slices_Clone_string_nil(n c:Nat)(w:ae):
  Calls Tryz.prog 51 #[.slice none n c] w fun e w'=>e=.returned (.slice none 0 0)/\w'=w:=Any.slices_Clone_string_nil Tryz.zx n c w
open Go.RowKit Go.Lib in
theorem Tryz.slices_Clone_string_zero(a:Addr)(c:Nat)(w:ae):
  Calls Tryz.prog 51 #[.slice (some a) 0 c] w fun e w'=>∃v',e=.returned v'/\w'.ownsRow w.heap.size 9 1 v' 0 []/\v'≠.slice none 0 0/\Below w.heap.size w w':=Any.slices_Clone_string_zero Tryz.zx a c w
def Tryz.I8:Go.Shelf.Ren:=⟨fun|194=>189|n=>n,fun|31=>40|9=>9|3=>3|4=>4|0=>0|n=>n,fun|n=>n⟩
theorem Tryz.NF:Go.Proofs.Lays.n194 Tryz.prog Tryz.I8:={
 mixed:=ah
 f194:=Tryz.func189.trans (congrArg some ah)
 t0:=underlying0
 a0:=isAgg0
 z0:=sizeOf0
 v0:=zeroValue0
 t3:=underlying3
 a3:=isAgg3
 z3:=sizeOf3
 v3:=zeroValue3
 t4:=underlying4
 a4:=isAgg4
 z4:=sizeOf4
 v4:=zeroValue4
 t9:=underlying9
 a9:=isAgg9
 z9:=sizeOf9
 v9:=zeroValue9
 t31:=underlying40
 a31:=isAgg40
 z31:=sizeOf40
 v31:=zeroValue40}
open Go.RowKit Go.Lib Go.Sort in
theorem Tryz.slices_Compact_string(blk off cap:Nat)(zs:List (List UInt8))(w:ae)(hH:Holds encStr w blk off zs.toArray)(fE:zs.length<=9223372036854775807)(AX:zs.length<=cap):
  Calls Tryz.prog 189 #[.slice (some ⟨blk,off,none⟩) zs.length cap] w fun e w'=>e=.returned (.slice (some ⟨blk,off,none⟩) (Lib.compact zs).length cap)/\∃q,w'=putRow encStr (Sort.ahead w q) blk off (Lib.compact zs++List.replicate (zs.length-(Lib.compact zs).length) []).toArray:=Any.slices_Compact_string Tryz.NF blk off cap zs w hH fE AX
open Go.RowKit Go.Lib Go.Sort in
theorem Tryz.slices_Compact_string_empty(a:Option Addr)(cap:Nat)(w:ae):
  Calls Tryz.prog 189 #[.slice a 0 cap] w fun e w'=>e=.returned (.slice a 0 cap)/\w'=w:=Any.slices_Compact_string_empty Tryz.NF a cap w
def Tryz.Ed:Go.Shelf.Ren:=⟨fun|19=>236|n=>n,fun|24=>40|9=>9|3=>3|4=>4|20=>20|0=>0|n=>n,fun|n=>n⟩
theorem Tryz.PC:Go.Proofs.Lays2.n19 Tryz.prog Tryz.Ed:={
 mixed:=ah
 f19:=Tryz.func236.trans (congrArg some ah)
 t0:=underlying0
 a0:=isAgg0
 z0:=sizeOf0
 v0:=zeroValue0
 t3:=underlying3
 a3:=isAgg3
 z3:=sizeOf3
 v3:=zeroValue3
 t4:=underlying4
 a4:=isAgg4
 z4:=sizeOf4
 v4:=zeroValue4
 t9:=underlying9
 a9:=isAgg9
 z9:=sizeOf9
 v9:=zeroValue9
 t20:=underlying20
 a20:=isAgg20
 z20:=sizeOf20
 v20:=zeroValue20
 t24:=underlying40
 a24:=isAgg40
 z24:=sizeOf40
 v24:=zeroValue40}
open Go.RowKit Go.Lib in
theorem Tryz.slices_Min_string(b off n c:Nat)(zs:List af)(w:ae)(hn:0<n)(hz:n<=zs.length)(AY:n<=9223372036854775807)(hc:∀j,j<zs.length->w.cell? ⟨b,off+j,none⟩=some (.string (zs.getD j ByteArray.empty))):
  Calls Tryz.prog 236 #[.slice (some ⟨b,off,none⟩) n c] w fun e w'=>e=.returned (.string (Lib.minOfS (zs.take n)))/\w'=w:=Any.slices_Min_string Tryz.PC b off n c zs w hn hz AY hc
def Tryz.Ee:Go.Shelf.Ren:=⟨fun|6=>185|15=>205|14=>204|28=>222|29=>223|20=>214|21=>215|22=>216|23=>217|24=>218|25=>219|26=>220|27=>221|46=>237|47=>238|48=>239|49=>240|50=>241|57=>252|n=>n,fun|22=>35|24=>42|25=>247|3=>3|39=>223|0=>0|53=>102|55=>212|4=>4|46=>304|45=>303|50=>156|5=>5|9=>9|66=>319|70=>322|76=>338|77=>170|n=>n,fun|n=>n⟩
theorem Tryz.PD:Go.Proofs.SlLaysF0.n6 Tryz.prog Tryz.Ee:={
 mixed:=ah
 f6:=⟨Tryz.f185.name,eu,Tryz.func185.trans (congrArg some ah)⟩
 f14:=⟨Tryz.f204.name,eu,Tryz.func204.trans (congrArg some ah)⟩
 f15:=Tryz.func205.trans (congrArg some ah)
 f20:=⟨Tryz.f214.name,eu,Tryz.func214.trans (congrArg some ah)⟩
 f21:=⟨Tryz.f215.name,eu,Tryz.func215.trans (congrArg some ah)⟩
 f22:=⟨Tryz.f216.name,eu,Tryz.func216.trans (congrArg some ah)⟩
 f23:=⟨Tryz.f217.name,eu,Tryz.func217.trans (congrArg some ah)⟩
 f24:=⟨Tryz.f218.name,eu,Tryz.func218.trans (congrArg some ah)⟩
 f25:=⟨Tryz.f219.name,eu,Tryz.func219.trans (congrArg some ah)⟩
 f26:=⟨Tryz.f220.name,eu,Tryz.func220.trans (congrArg some ah)⟩
 f27:=⟨Tryz.f221.name,eu,Tryz.func221.trans (congrArg some ah)⟩
 f28:=Tryz.func222.trans (congrArg some ah)
 f29:=Tryz.func223.trans (congrArg some ah)
 f46:=⟨Tryz.f237.name,eu,Tryz.func237.trans (congrArg some ah)⟩
 f47:=Tryz.func238.trans (congrArg some ah)
 f48:=Tryz.func239.trans (congrArg some ah)
 f49:=⟨Tryz.f240.name,eu,Tryz.func240.trans (congrArg some ah)⟩
 f50:=⟨Tryz.f241.name,eu,Tryz.func241.trans (congrArg some ah)⟩
 f57:=⟨Tryz.f252.name,eu,Tryz.func252.trans (congrArg some ah)⟩
 t0:=underlying0
 a0:=isAgg0
 z0:=sizeOf0
 v0:=zeroValue0
 t3:=underlying3
 a3:=isAgg3
 z3:=sizeOf3
 v3:=zeroValue3
 t4:=underlying4
 a4:=isAgg4
 z4:=sizeOf4
 v4:=zeroValue4
 t5:=underlying5
 a5:=isAgg5
 z5:=sizeOf5
 v5:=zeroValue5
 t9:=underlying9
 a9:=isAgg9
 z9:=sizeOf9
 v9:=zeroValue9
 t22:=underlying35
 a22:=isAgg35
 z22:=sizeOf35
 v22:=zeroValue35
 t25:=underlying247
 a25:=isAgg247
 z25:=sizeOf247
 v25:=zeroValue247
 t39:=underlying223
 a39:=isAgg223
 z39:=sizeOf223
 v39:=zeroValue223
 t45:=underlying303
 a45:=isAgg303
 z45:=sizeOf303
 v45:=zeroValue303
 t46:=underlying304
 a46:=isAgg304
 z46:=sizeOf304
 v46:=zeroValue304
 t50:=underlying156
 a50:=isAgg156
 z50:=sizeOf156
 v50:=zeroValue156
 t53:=underlying102
 a53:=isAgg102
 z53:=sizeOf102
 v53:=zeroValue102
 t55:=underlying212
 a55:=isAgg212
 z55:=sizeOf212
 v55:=zeroValue212
 t66:=underlying319
 a66:=isAgg319
 z66:=sizeOf319
 v66:=zeroValue319
 t70:=underlying322
 a70:=isAgg322
 z70:=sizeOf322
 v70:=zeroValue322
 t76:=underlying338
 a76:=isAgg338
 z76:=sizeOf338
 v76:=zeroValue338
 t77:=underlying170
 a77:=isAgg170
 z77:=sizeOf170
 v77:=zeroValue170}
def Tryz.I9:Go.Shelf.Ren:=⟨fun|125=>205|128=>222|129=>223|n=>n,fun|46=>223|3=>3|51=>102|53=>212|4=>4|5=>5|9=>9|n=>n,fun|n=>n⟩
theorem Tryz.bitsLen:Go.Proofs.Lays.n125 Tryz.prog Tryz.I9:={
 mixed:=ah
 f125:=Tryz.func205.trans (congrArg some ah)
 f128:=Tryz.func222.trans (congrArg some ah)
 f129:=Tryz.func223.trans (congrArg some ah)
 t3:=underlying3
 a3:=isAgg3
 z3:=sizeOf3
 v3:=zeroValue3
 t4:=underlying4
 a4:=isAgg4
 z4:=sizeOf4
 v4:=zeroValue4
 t5:=underlying5
 a5:=isAgg5
 z5:=sizeOf5
 v5:=zeroValue5
 t9:=underlying9
 a9:=isAgg9
 z9:=sizeOf9
 v9:=zeroValue9
 t46:=underlying223
 a46:=isAgg223
 z46:=sizeOf223
 v46:=zeroValue223
 t51:=underlying102
 a51:=isAgg102
 z51:=sizeOf102
 v51:=zeroValue102
 t53:=underlying212
 a53:=isAgg212
 z53:=sizeOf212
 v53:=zeroValue212}
def Tryz.Gz:Go.Shelf.Ren:=⟨fun|26=>77|33=>118|34=>119|38=>168|n=>n,fun|24=>40|9=>9|3=>3|4=>4|40=>223|0=>0|n=>n,fun|n=>n⟩
theorem Tryz.Ja:Go.Proofs.Lays2.n26 Tryz.prog Tryz.Gz:={
 mixed:=ah
 f26:=Tryz.func77.trans (congrArg some ah)
 f33:=Tryz.func118.trans (congrArg some ah)
 f34:=Tryz.func119.trans (congrArg some ah)
 f38:=Tryz.func168.trans (congrArg some ah)
 t0:=underlying0
 a0:=isAgg0
 z0:=sizeOf0
 v0:=zeroValue0
 t3:=underlying3
 a3:=isAgg3
 z3:=sizeOf3
 v3:=zeroValue3
 t4:=underlying4
 a4:=isAgg4
 z4:=sizeOf4
 v4:=zeroValue4
 t9:=underlying9
 a9:=isAgg9
 z9:=sizeOf9
 v9:=zeroValue9
 t24:=underlying40
 a24:=isAgg40
 z24:=sizeOf40
 v24:=zeroValue40
 t40:=underlying223
 a40:=isAgg223
 z40:=sizeOf223
 v40:=zeroValue223}
def Tryz.Sy:Go.Shelf.Ren:=⟨fun|35=>235|n=>n,fun|22=>90|23=>5|3=>3|4=>4|0=>0|n=>n,fun|n=>n⟩
theorem Tryz.aha:Go.Proofs.SlLaysE.n35 Tryz.prog Tryz.Sy:={
 mixed:=ah
 f35:=⟨Tryz.f235.name,eu,Tryz.func235.trans (congrArg some ah)⟩
 t0:=underlying0
 a0:=isAgg0
 z0:=sizeOf0
 v0:=zeroValue0
 t3:=underlying3
 a3:=isAgg3
 z3:=sizeOf3
 v3:=zeroValue3
 t4:=underlying4
 a4:=isAgg4
 z4:=sizeOf4
 v4:=zeroValue4
 t22:=underlying90
 a22:=isAgg90
 z22:=sizeOf90
 v22:=zeroValue90
 a23:=isAgg5
 z23:=sizeOf5}
end
end Go.Proofs
namespace Go.Proofs.Kz
open Go.Proofs.Tryz
open Go.Proofs.Tryz renaming prog → au
open _root_.ByteArray renaming empty → aO
open Go.Ren Go.Conc Go.Proofs
structure rZ(T:dm)(i:Nat):Prop where
 ok:T.OK
 i:i<T.n
 kp:au.globals.size<=T.H0
structure Quiet(T:dm)(b:Nat):Prop where
 old:b<T.H0
 wg:b≠T.Wg
 sh:¬T.Sh b
 ch:∀k,k<T.n->b≠T.ch k
 ro:∀off,T.RO (.cell ⟨b,off,none⟩)
theorem CF:rL au LW 0:=ZA Fh
section
variable {T:dm} {i:Nat} {V:Nat->ae->Prop} {E:bK} {rc:Nat->Prop} {o:aM} {w:ae}
theorem Quiet.same{b:Nat}(h:Quiet T b){w1:ae}(hr:cW T i o rc w w1):w1.heap[b]?=w.heap[b]?:=hr.ro b h.old h.wg h.sh h.ch
theorem Quiet.cell{b off:Nat}(h:Quiet T b){w1:ae}(hr:cW T i o rc w w1):w1.cell? ⟨b,off,none⟩=w.cell? ⟨b,off,none⟩:=cell_of (h.same hr)
theorem uq{ad:Addr}{sy:Bool}(h:(∃b,o b/\Im (.cell ad) b)\/T.jW i (.cell ad)\/(∃k,rc k/\T.jW k (.cell ad))\/T.RO (.cell ad)):Np T i o rc ⟨.cell ad,false,sy⟩:=by
 refine⟨fun x hx _=>?_,aj,aj,aj⟩;simp only[MemAct.ofEvent,MemAct.touch?,ay] at hx;subst hx;rcases h with h|h|⟨k,h3,h4⟩|h
 ·exact .inl h
 ·exact .inr (.inl h)
 ·exact .inr (.inr (.inl ⟨k,h3,h4,rfl⟩))
 ·exact .inr (.inr (.inr ⟨h,rfl⟩))
theorem Jb(hW:rZ T i)(hq:Quiet T 1)(u:Nat)(h1:1<=u)(h2:u<18446744073709551616)(ga:gA T o w)(ht:w.cell? ⟨1,Lib.l10 (Lib.bitLen u),none⟩=some (.int .u64 ((10^Lib.l10 (Lib.bitLen u):Nat):Int))):
  bz au (XW au T i V E rc) 246 #[.int .u64 u] o w fun v o' w'=>v=.int .i64 (Lib.nDigits u)/\cR T i rc o w o' w':=by
 have W:=cL (P:=au) (T:=T) (i:=i) (V:=V) (E:=E) rc;obtain⟨vc,h19⟩:=Lib.numDigits_eq u h1 h2;have hL:Lib.bitLen u<=64:=Lib.bitLen_le u 64 (ag _) h2;have c1:∀o w,gA T o w->bz au (XW au T i V E rc) 223 #[.int .u64 u] o w fun v o' w'=>v=.int .i64 (Lib.bitLen u)/\cR T i rc o w o' w':=fun o w ho =>
  qf hW.ok hW.i CF hZ hW.kp ah ho (fun g=>aj) _ (fun g=>aj) fun wl=>(Tryz.bits_Len64 u wl aa aa).mono (by rintro e w' ⟨rfl,rfl⟩;exact⟨aj,.refl _ _⟩)
 have c2:∀o w,gA T o w->bz au (XW au T i V E rc) 254 #[.int .i64 (Lib.bitLen u)] o w fun v o' w'=>v=.int .i64 (Lib.l10 (Lib.bitLen u))/\cR T i rc o w o' w':=fun o w ho =>
  qf hW.ok hW.i CF hZ hW.kp ah ho (fun g=>aj) _ (fun g=>aj) fun wl=>(Tryz.internal_strconv_log10Pow2 _ hL wl).mono (by rintro e w' ⟨rfl,rfl⟩;exact⟨rfl,.refl _ _⟩)
 have c3:∀(b:Bool) o w,gA T o w->bz au (XW au T i V E rc) 255 #[.bool b] o w fun v o' w'=>v=.int .i64 (if b=true then 1 else 0)/\cR T i rc o w o' w':=fun b o w ho =>
  qf hW.ok hW.i CF hZ hW.kp ah ho (fun g=>aj) _ (fun g=>aj) fun wl=>(Tryz.internal_strconv_bool2_int b wl).mono (by rintro e w' ⟨rfl,rfl⟩;exact⟨rfl,.refl _ _⟩)
 generalize Lib.bitLen u=bl at *;generalize Lib.l10 bl=q at *;refine bC W func246 ar ?_;refine ax ?_;refine cd func223 (c1 _ _ ga) ?_;rintro v o1 w1 ⟨rfl,l1⟩;try walk_nrm
 refine cd func254 (c2 _ _ l1.ok) ?_;rintro v o2 w2 ⟨rfl,l2⟩;try walk_nrm
 refine ax ?_;have h20:(q:Int)<20:=aa;have hS:∀w3,cW T i o2 rc w2 w3->w3.cell? ⟨1,q,none⟩=some (.int .u64 ((10^q:Nat):Int)):=fun w3 hr=>by
  rw[hq.cell hr,hq.cell l2.rel,hq.cell l1.rel,ht]
 generalize hP:10^q=p at *;have jg:∀w1 es,(Instr.indexAt 342 (.pointer (some ⟨1,0,none⟩)) (.int .i64 (q:Int))).events au w1 es=es:=fun w1 es=>events_indexAt_array 342 212 20 ⟨1,0,none⟩ .i64 q underlying342 ⟨aa,aa⟩;refine qY W rfl rfl ar (fun w1=>by simp[go_sem,jg]) fun w1 K hK=>?_;go_simp;refine hK _ ?_;clear hK K w1 jg;try walk_nrm
 refine fQ W hS rfl ar (fun w1 hc=>⟨.refl _ _,?_⟩) fun w1 hc K hK=>?_
 ·co_evs (exact uq (.inr (.inr (.inr (hq.ro _)))))
 go_simp;refine hK _ ?_;clear hK K hc w1;try walk_nrm
 refine ax ?_;refine dA W rfl ar rfl func255 ah rfl (by simp[Act.eval];rfl) rfl ((c3 _ _ _ l2.ok).mono ?_);rintro v o3 w3 ⟨rfl,l3⟩;try walk_nrm
 refine ax ?_;refine⟨.inr trivial,trivial,_,resultsC_tmp (t:=2) ar _,?_,(l1.trans l2).trans l3⟩;show Value.int .i64 (IntKind.i64.wrap (↑q+if p<=u then 1 else 0))=_;rw[<- vc]
 congr 1
 rw[IntKind.wrap_i64];split<;>simp<;>omega
theorem AZ(hW:rZ T i)(n:Nat)(hn:n<100)(ga:gA T o w):
  bz au (XW au T i V E rc) 233 #[.int .i64 n,.int .i64 10] o w fun v o' w'=>v=.string ⟨(Lib.decDigits n).toArray⟩/\cR T i rc o w o' w':=by
 have W:=cL (P:=au) (T:=T) (i:=i) (V:=V) (E:=E) rc;have c1:∀o w,gA T o w->bz au (XW au T i V E rc) 245 #[.int .i64 n] o w fun v o' w'=>v=.string ⟨(Lib.decDigits n).toArray⟩/\cR T i rc o w o' w':=fun o w ho =>
  qf hW.ok hW.i CF hZ hW.kp ah ho (fun g=>aj) _ (fun g=>aj) fun wl=>(Tryz.internal_strconv_small n hn wl).mono (by rintro e w' ⟨rfl,rfl⟩;exact⟨rfl,.refl _ _⟩)
 have hi:(n:Int)<100:=aa;refine bC W func233 ar ?_;refine ax ?_;refine cd func245 (c1 _ _ ga) ?_;rintro v o1 w1 ⟨rfl,l1⟩;try walk_nrm
 refine ax ?_;exact⟨.inr trivial,trivial,_,resultsC_tmp (t:=4) ar _,rfl,l1⟩
theorem L1{wl:ae}{A d:Nat}(h:wl.heap[A]?=some (Obj.cells Lib.zeros24 326))(hd:d<=20):Sort.Holds (fun b:UInt8=>Value.int .u8 (b.toNat:Int)) wl A 1 (Array.replicate d 0):=by
 intro j hj;rw[fx] at hj;refine⟨?_,?_⟩
 ·simp only[World.cell?,h,Option.isSome_none,aL,if_false];rw[Lib.zeros24_at (1+j) aa,eN _ _ (by simpa using hj)];simp
 ·simp[World.frozen?,h]
theorem Sz(hW:rZ T i)(n A d:Nat)(hd:d<=20)(hn:n<10^d)(NG:n<=1000000000000)(ga:gA T o w)(hA:o A)(II:w.heap[A]?=some (Obj.cells Lib.zeros24 326)):
  bz au (XW au T i V E rc) 247 #[.slice (some ⟨A,1,none⟩) d 23,.int .u64 n] o w fun v o' w'=>v=.tuple #[]/\cW T i (fun b=>o b/\b≠A) rc w w'/\gA T o' w'/\(∀b,o b->o' b) /\
   ∃v' dk,Lib.FmtInv d n 0 v' dk/\∀j,j<d->w'.cell? ⟨A,1+j,none⟩=some (.int .u8 ((dk[j]!).toNat:Int)):=by
 refine wN (N:=fun b=>b==A) (R:=fun wl v w'=>v=.tuple #[]/\∃v' dk,Lib.FmtInv d n 0 v' dk/\∀j,j<d->w'.cell? ⟨A,1+j,none⟩=some (.int .u8 ((dk[j]!).toNat:Int))) hW.ok hW.i CF hZ hW.kp ah ga (fun b hb=>by simp at hb;subst hb;exact hA)
  (fun b hb=>by simp at hb;subst hb;exact⟨_,II,rfl,fun f _=>by simp[obj,Lib.zeros24]⟩) (fun g hg=>by simp[val,addr,hg A aj]) (fun wl v w' τ dr h=>h) (fun wl τ dr v w' h=>h) (fun wl h1 h2=>?_) ?_
 ·have hx:wl.heap[A]?=some (Obj.cells Lib.zeros24 326):=by rw[h1 A aj,II]
  have hH:=L1 (d:=d) hx hd;have hf:=Tryz.internal_strconv_formatBase10 A 1 23 n (Array.replicate d 0) wl hH (by rw[fx];exact hn) aa (by rw[fx];omega);rw[fx] at hf;refine hf.mono ?_;rintro e w' ⟨rfl,k,v',dk,rfl,hF⟩;refine⟨_,rfl,rfl,v',dk,hF,fun j hj=>?_⟩;rw[World.cell?_drewN];exact Sort.cell?_putRow (fun(b:UInt8)=>Value.int .u8 (b.toNat:Int)) _ A 1 _ dk hH (by rw[hF.size,fx]) j (by rw[hF.size];exact hj)
 ·rintro wl v v' F' o' aV w' h1 h2 ⟨rfl,u',dk,hF,hc⟩ hB;refine⟨hB.plain fun f=>aj,hB.rel.less fun b hb=>⟨hb.1,by simpa using hb.2⟩,⟨hB.vb,aW ga.size hB.rel.size⟩,hB.more,u',dk,hF,fun j hj=>hB.cell aj (fun f=>aj) (hc j hj)⟩
theorem Jc(hW:rZ T i)(hq:Quiet T 1)(n:Nat)(hn:¬n<100)(NG:n<=1000000000000)(ga:gA T o w)(ht:∀q,q<20->w.cell? ⟨1,q,none⟩=some (.int .u64 ((10^q:Nat):Int))):
  bz au (XW au T i V E rc) 233 #[.int .i64 n,.int .i64 10] o w fun v o' w'=>v=.string ⟨(Lib.decDigits n).toArray⟩/\cR T i rc o w o' w':=by
 have W:=cL (P:=au) (T:=T) (i:=i) (V:=V) (E:=E) rc;have hi:¬(n:Int)<100:=aa;have h0:¬(n:Int)<0:=aa;have hU:IntKind.u64.wrap (n:Int)=n:=by rw[IntKind.wrap_u64];omega
 have hd1:=Lib.nDigits_pos n;have UM:=Lib.nDigits_le20 n aa;have hI:IntKind.i64.wrap (1+(Lib.nDigits n:Int))=1+(Lib.nDigits n:Int):=by rw[IntKind.wrap_i64];omega
 refine bC W func233 ar ?_;refine ax ?_;refine nK hW.ok hW.i ga rfl ar rfl (Obj.cells Lib.zeros24 326) (fun w1=>by simp[go_sem];rfl) (fun w1=>fP) fun A o1 w1 l1 hA II Q5 Gi=>?_;try walk_nrm
 refine ax ?_;have SB:∀q,q<20->w1.cell? ⟨1,q,none⟩=some (.int .u64 ((10^q:Nat):Int)):=fun q h=>by rw[hq.cell l1.rel];exact ht q h
 have ahb:Lib.l10 (Lib.bitLen n)<20:=by have:=(Lib.numDigits_eq n aa aa).2;omega
 refine cd func246 (Jb hW hq n aa aa l1.ok (SB _ ahb)) ?_;rintro v o2 w2 ⟨rfl,l2⟩;try walk_nrm
 refine ax ?_;have O3:au.arrayLen 326=24:=by simp[Program.arrayLen,underlying326]
 have hsl:∀W,(Instr.sliceAt 326 (.pointer (some ⟨A,0,none⟩)) (some (.int .i64 1)) (some (.int .i64 (1+(Lib.nDigits n:Int)))) none).run au W=.ok (.slice (some ⟨A,1,none⟩) (Lib.nDigits n) 23) W:=fun W=>by
  rw[run_sliceAt_array_lh W 326 ⟨A,0,none⟩ (by simp[Program.arrayLen,Program.elem,underlying326]) .i64 .i64 1 (1+(Lib.nDigits n:Int)) aa aa (by rw[O3];omega)];go_simp;omega
 have VU:∀W es,(Instr.sliceAt 326 (.pointer (some ⟨A,0,none⟩)) (some (.int .i64 1)) (some (.int .i64 (1+(Lib.nDigits n:Int)))) none).events au W es=es:=fun W es =>
  yi 326 5 24 ⟨A,0,none⟩ .i64 .i64 1 (1+(Lib.nDigits n:Int)) underlying326 aa aa aa
 clear O3;refine qY W rfl rfl ar (fun w1=>by simp[go_sem,VU]) fun w1 K hK=>?_;go_simp;refine hK _ ?_;clear hK K w1;try walk_nrm
 refine ax ?_;have IS:w2.heap[A]?=some (Obj.cells Lib.zeros24 326):=by rw[l2.rel.own A hA];exact II
 refine cd func247 (Sz hW n A (Lib.nDigits n) UM (Lib.lt_pow_nDigits n) NG l2.ok (l2.more A hA) IS) ?_;rintro v o3 w3 ⟨rfl,r3,k3,m3,v',dk,hF,qm⟩;try walk_nrm
 refine ax ?_;clear VU hsl;have hS:∀w4,cW T i o3 rc w3 w4->∀j,j<Lib.nDigits n->w4.cell? ⟨A,1+j,none⟩=some (.int .u8 ((dk[j]!).toNat:Int)):=fun w4 hr j hj=>by
  rw[cell_of (a:=⟨A,1+j,none⟩) (hr.own A (m3 A (l2.more A hA)))];exact qm j hj
 have hcv:∀w4,(∀j,j<Lib.nDigits n->w4.cell? ⟨A,1+j,none⟩=some (.int .u8 ((dk[j]!).toNat:Int)))->(convert 90 9 (.slice (some ⟨A,1,none⟩) (Lib.nDigits n) 23)).run au w4=.ok (.string ⟨(Lib.decDigits n).toArray⟩) w4:=fun w4 h4=>by
  have h:=run_convert_bytes_back (P:=au) w4 90 9 5 ⟨A,1,none⟩ 23 (Lib.decDigits n) underlying90 underlying5 underlying9 (fun j hj=>by
   rw[Lib.add_plain,Lib.row_is_numeral hF j hj];exact h4 j (by rw[Lib.decDigits_length] at hj;exact hj))
  rwa[Lib.decDigits_length] at h
 have hce:∀w4,(∀j,j<Lib.nDigits n->w4.cell? ⟨A,1+j,none⟩=some (.int .u8 ((dk[j]!).toNat:Int)))->∀ev∈(convert 90 9 (.slice (some ⟨A,1,none⟩) (Lib.nDigits n) 23)).events au w4 #[],Np T i o3 rc ev:=fun w4 h4 ev he=>by
  have h:=vH (P:=au) w4 90 9 5 ⟨A,1,none⟩ ((List.range (Lib.nDigits n)).map fun j=>((dk[j]!).toNat:Int)) 23 #[] underlying90 underlying5 underlying9 (fun j hj=>by
   rw[Lib.add_plain,h4 j (by simpa using hj)];simp) ev (by simpa using he)
  rcases h with h|⟨ad,h1,h2,h3⟩
  ·simp at h
  ·obtain⟨l,wt,sy⟩:=ev;simp only at h1 h2;subst h1 h2;exact uq (.inl ⟨A,m3 A (l2.more A hA),h3⟩)
 refine fQ W hS rfl ar (fun w4 h4=>⟨.refl _ _,fun e he=>?_⟩) fun w4 h4 K hK=>?_
 ·have:=hce w4 h4 e (by have:=mem_listed he;simpa[go_sem] using this);rw[b8];exact this
 have:=hcv w4 h4;go_simp;refine hK _ ?_;clear hK K this h4 w4 hS hcv hce;try walk_nrm
 refine ax ?_;refine⟨.inr trivial,trivial,_,resultsC_tmp (t:=4) ar _,rfl,⟨(l1.trans l2).rel.trans (r3.less fun b hb=>⟨(l1.trans l2).more b hb,?_⟩),k3,fun b hb=>m3 b ((l1.trans l2).more b hb)⟩⟩;have:=(ga.vb b hb).2;omega
end
section
open Go.RowKit
theorem NH{k:IntKind}{a b:Int}(h:a=b):Ending.returned (.int k a)=.returned (.int k b):=by rw[h]
theorem vX{W w1:ae}(hb:Below W.heap.size W w1):(∀b o,b<W.heap.size->w1.cell? ⟨b,o,none⟩=W.cell? ⟨b,o,none⟩)/\(∀b o,b<W.heap.size->w1.frozen? ⟨b,o,none⟩=W.frozen? ⟨b,o,none⟩) :=
 ⟨fun b o h=>hb.cell (p:=⟨b,o,none⟩) h,fun b o h=>hb.frozen (p:=⟨b,o,none⟩) h⟩
theorem take_succ{α:Type}(l:List α)(k:Nat)(h:k<l.length):l.take (k+1)=l.take k++[l[k]]:=List.take_succ_eq_append_getElem h
abbrev V:=Bool×af
def wW(w:ae)(b off:Nat)(vs:List V):Prop:=∀k (h:k<vs.length),w.cell? ⟨b,off+k*2,none⟩=some (.bool vs[k].1)/\w.cell? ⟨b,off+k*2+1,none⟩=some (.string vs[k].2)
theorem wW.below{w w':ae}{b off:Nat}{vs:List V}(h:wW w b off vs)(hb:b<w.heap.size)(hw:Below w.heap.size w w'):wW w' b off vs:=fun k hk=>by
 obtain⟨hc,-⟩:=vX hw;rw[hc _ _ hb,hc _ _ hb];exact h k hk
def fy(w:ae)(b off:Nat)(ts:List af):Prop:=∀k (h:k<ts.length),w.cell? ⟨b,off+k,none⟩=some (.string ts[k])
theorem fy.below{w w':ae}{b off:Nat}{vs:List af}(h:fy w b off vs)(hb:b<w.heap.size)(hw:Below w.heap.size w w'):fy w' b off vs:=fun k hk=>by
 obtain⟨hc,-⟩:=vX hw;rw[hc _ _ hb];exact h k hk
end
section
open Go.RowKit
def cnt(l:List V):Nat:=(l.filter fun v=>v.1).length
theorem CG(l:List V):cnt l<=l.length:=ff _ _
theorem SC(l:List V)(k:Nat)(h:k<l.length):cnt (l.take (k+1))=cnt (l.take k)+if l[k].1 then 1 else 0:=by
 rw[take_succ l k h,cnt,List.filter_append,List.length_append];by_cases e:l[k].1<;>simp[cnt,e]
theorem PE(b off c:Nat)(vs:List V)(w:ae)(hn:vs.length<=100000)(hb:b<w.heap.size)(hv:wW w b off vs):
  Calls au 196 #[.slice (some ⟨b,off,none⟩) vs.length c] w fun e w'=>e=.returned (.int .i64 (cnt vs))/\Below w.heap.size w w':=by
 go_enter func196,ntmps196;go_wp2;go_loopw [3,8] (fun n i w'=>∃k:Nat,k<=vs.length/\i=.int .i64 k/\n=.int .i64 (cnt (vs.take k))/\Below w.heap.size w w') (fun _ i _=>vs.length-(intOf i).toNat)
 case atStart=>exact⟨0,aU _,rfl,rfl,Below.refl _ _⟩
 case round =>
  obtain⟨k,hk,rfl,rfl,gw⟩:=hrel;by_cases cy:k<vs.length
  ·obtain⟨h1,h2⟩:=hv.below hb gw k cy;have hz:=gw.size;have HS:Hid (cnt (vs.take (k+1))=cnt (vs.take k)+if vs[k].1 then 1 else 0):=SC vs k cy;have hle:(cnt (vs.take k):Int)<=100000:=by have:=CG (vs.take k);have:=jc k vs;omega
   go_wp2
   ·refine⟨⟨k+1,aa,by go_num,?_,gw.alloc hz _⟩,by simp[intOf];omega⟩;rw[HS.out,if_pos ‹_›];go_num
   ·refine⟨⟨k+1,aa,by go_num,?_,gw.alloc hz _⟩,by simp[intOf];omega⟩;rw[HS.out,if_neg (by simp[*])];go_num
  ·go_wp2;go_ret;exact⟨NH (by rw[cH aa]),gw⟩
end
section
open Go.RowKit
theorem qo:(au.info? 9).map (fun i=>(i.zero,i.size,i.bytes))=some (some (.string aO),1,16):=ah
theorem fy.ZB{w:ae}{b t:Nat}{ts:List af}{f:Nat->Value}(h:w.rowIs b t ts.length f)(hf:∀k (hk:k<ts.length),f k=.string ts[k]):fy w b 0 ts:=fun k hk=>by
 rw[bB,h.cell hk,hf k hk]
theorem Jd(b off c:Nat)(vs:List V)(w:ae)(hn:vs.length<=100000)(hb:b<w.heap.size)(hv:wW w b off vs):
  Calls au 199 #[.slice (some ⟨b,off,none⟩) vs.length c] w fun e w'=>e=.returned (.slice (some ⟨w.heap.size,0,none⟩) vs.length vs.length)/\Below w.heap.size w w'/\w.heap.size<w'.heap.size /\
   w'.rowIs w.heap.size 9 vs.length (fun j=>.string (vs.getD j (false,aO)).2):=by
 have Je:=run_make_row' (P:=au) 40 9 (.string aO) 16 underlying40 qo rfl .i64 .i64 vs.length aa aa;go_enter func199,ntmps199;go_wp2;go_loopw [11] (fun i w'=>∃k:Nat,k<=vs.length/\i=.int .i64 k/\Below w.heap.size w w'/\w.heap.size<w'.heap.size/\w'.rowIs w.heap.size 9 vs.length (fun j=>if j<k then .string (vs.getD j (false,aO)).2 else .string aO)) (fun i _=>vs.length-(intOf i).toNat)
 case atStart=>exact⟨0,aU _,rfl,(Below.refl _ _).alloc (ag _) _,aj,by simpa using World.rowIs_made w _ _ _⟩
 case round =>
  obtain⟨k,hk,rfl,gw,hz,cj⟩:=hrel;by_cases cy:k<vs.length
  ·obtain⟨h1,h2⟩:=hv.below hb gw k cy;have hc:=cj.cell cy;have hf:=cj.frozen k;rw[if_neg aa] at hc;go_wp2;refine⟨⟨k+1,aa,by go_num,(gw.setCell (ag _) _).alloc (by simp[World.setCell];omega) _,by simp[World.setCell];omega,?_⟩,by simp[intOf];omega⟩;refine((cj.set k _).alloc _).congr fun j hj=>?_;by_cases e:j=k
   ·subst e;simp[List.getD,cy]
   ·by_cases e':j<k
    ·rw[if_neg e,if_pos e',if_pos aa]
    ·rw[if_neg e,if_neg e',if_neg aa]
  ·go_wp2;go_ret;exact⟨rfl,gw,hz,cj.congr fun i hi=>by rw[if_pos aa]⟩
end
section
open Go.RowKit
def zy(l:List UInt8):Nat:=(l.map UInt8.toNat).sum
def sK(l:List af):Nat:=(l.map fun s=>zy s.data.toList).sum
def jl(l:List af):Nat:=(l.map ByteArray.size).sum
theorem GA(l:List UInt8):zy l<=255*l.length:=by
 induction l with
 |nil=>simp[zy]
 |cons c l ih=>have:=c.toNat_lt;simp[zy] at ih |-;omega
theorem PG(s:af)(k:Nat)(h:k<s.size):zy (s.data.toList.take (k+1))=zy (s.data.toList.take k)+s[k].toNat:=by
 rw[take_succ s.data.toList k (by simpa using h)];simp[zy];rfl
theorem PH(l:List af)(k:Nat)(h:k<l.length):sK (l.take (k+1))=sK (l.take k)+zy l[k].data.toList:=by
 rw[take_succ l k h,sK,gI,List.sum_append];simp[sK]
theorem NI(l:List af):sK l<=255*jl l:=by
 induction l with
 |nil=>simp[sK,jl]
 |cons s l ih=>have:=GA s.data.toList;simp[sK,jl] at ih this |-;omega
theorem L2(l:List af)(k:Nat):jl (l.take k)<=jl l:=by
 induction l generalizing k with
 |nil=>simp
 |cons s l ih=>cases k with
  |zero=>simp[jl]
  |succ k=>have:=ih k;simp[jl] at this |-;omega
theorem SD(l:List af)(k:Nat)(h:k<l.length):jl (l.take k)+l[k].size<=jl l:=by
 have:=L2 l (k+1);rw[take_succ l k h,jl,gI,List.sum_append] at this;simpa[jl] using this
theorem VV(b off c:Nat)(ts:List af)(w:ae)(hn:ts.length<=100000)(hm:jl ts<=1000000)(ht:fy w b off ts):
  Calls au 212 #[.slice (some ⟨b,off,none⟩) ts.length c] w fun e w'=>e=.returned (.int .i64 (sK ts))/\w'=w:=by
 go_enter func212,ntmps212;go_wp2;go_loop [3,9] (fun n i=>∃k:Nat,k<=ts.length/\i=.int .i64 k/\n=.int .i64 (sK (ts.take k))) (fun _ i=>ts.length-(intOf i).toNat)
 case atStart=>exact⟨0,aU _,rfl,rfl⟩
 case round =>
  obtain⟨k,hk,rfl,rfl⟩:=hrel;by_cases cy:k<ts.length
  ·have h1:=ht k cy;have hz:=SD ts k cy;have hle:sK (ts.take k)<=255*jl (ts.take k):=NI _;have hs:ts[k].size<=1000000:=aa;have HS:Hid (sK (ts.take (k+1))=sK (ts.take k)+zy ts[k].data.toList):=PH ts k cy;generalize tB:ts[k]=t at h1 hz hs HS;clear tB;go_wp2;go_loop [3,15] (fun n i=>∃j:Nat,j<=t.size/\i=.int .i64 j/\n=.int .i64 (sK (ts.take k)+zy (t.data.toList.take j):Nat)) (fun _ i=>t.size-(intOf i).toNat)
   case atStart=>exact⟨0,aU _,rfl,by simp[zy]⟩
   case round =>
    obtain⟨j,hj,rfl,rfl⟩:=hrel;by_cases hjt:j<t.size
    ·have HB:Hid (zy (t.data.toList.take (j+1))=zy (t.data.toList.take j)+t[j].toNat):=PG t j hjt;have Bo:=GA (t.data.toList.take j);have pA:(t.data.toList.take j).length<=j:=jc _ _;have hc:=t[j].toNat_lt;go_wp2
     go_round
     case rel=>exact⟨j+1,aa,by go_num,by rw[HB.out];go_num⟩
     case measure=>simp[intOf];omega
    ·go_wp2
     go_round
     case rel=>exact⟨k+1,aa,by go_num,by rw[HS.out,cH (l:=t.data.toList) dV]⟩
     case measure=>simp[intOf];omega
  ·go_wp2;go_ret;exact⟨NH (by rw[cH aa]),rfl⟩
end
section
open Go.RowKit
def flat(ts:List af):List UInt8:=(ts.map fun t=>t.data.toList).flatten
theorem As(ts:List af):(flat ts).length=jl ts:=by
 induction ts with
 |nil=>rfl
 |cons t ts ih=>simp[flat,jl] at ih |-;omega
theorem Fi(ts:List af):Lib.join (ts.map fun t=>t.data.toList) (aO).data.toList=flat ts:=by
 cases ts with
 |nil=>rfl
 |cons t r=>rw[aA,Lib.join_cons,Lib.joinTail];simp[flat];rfl
def bytes(l:List UInt8):af:=⟨l.toArray⟩
theorem ZC(f:List UInt8):(⟨f.toArray⟩:af).extract 0 (min (f.length:Int) 32).toNat=bytes (f.take 32):=by
 have e:(min (f.length:Int) 32).toNat=min f.length 32:=aa;rw[e];apply ByteArray.ext;rw[ByteArray.data_extract];simp[bytes,List.extract_toArray];omega
theorem SE(b off c:Nat)(ts:List af)(w:ae)(hn:ts.length<=100000)(AX:ts.length<=c)(hm:jl ts<=1000000)(hb:b<w.heap.size)(ht:fy w b off ts):
  Calls au 210 #[.slice (some ⟨b,off,none⟩) ts.length c] w fun e w'=>e=.returned (.string (bytes ((flat ts).take 32)))/\Below w.heap.size w w':=by
 have hj:=Tryz.strings_Join b off c ts aO w (fun j x hx=>by obtain⟨h1,rfl⟩:=List.getElem?_eq_some_iff.1 hx;exact ht j h1) hb aa AX (by rw[Fi,As];omega);rw[Fi] at hj;have hl:(flat ts).length<=1000000:=by rw[As];exact hm
 generalize flat ts=f at hj hl;clear ht;go_enter func210,ntmps210;go_wp2_with (go_at_call 234;refine hj.mono ?_;rintro e w' ⟨rfl,gw⟩);go_ret;exact⟨by rw[ZC];rfl,gw⟩
def zA(ts:List af):af:=if ts=[] then aO else Lib.minOfS ts
theorem PI(b off c:Nat)(ts:List af)(w:ae)(hn:ts.length<=100000)(ht:fy w b off ts):
  Calls au 213 #[.slice (some ⟨b,off,none⟩) ts.length c] w fun e w'=>e=.returned (.string (zA ts))/\w'=w:=by
 by_cases h0:ts=[]
 ·subst h0;go_enter func213,ntmps213;go_wp2;go_ret;exact⟨rfl,rfl⟩
 ·have hp:0<ts.length:=List.length_pos_iff.2 h0;have hj:=Tryz.slices_Min_string b off ts.length c ts w hp (ag _) aa (fun j hj=>by rw[ht j hj];simp[List.getD,hj]);rw[cS] at hj;have e:zA ts=Lib.minOfS ts:=by simp[zA,h0]
  rw[e];generalize Lib.minOfS ts=m at hj;have dH:¬(ts.length:Int)=0:=aa;go_enter func213,ntmps213;go_wp2_with (go_at_call 236;refine hj.mono ?_;rintro e w' ⟨rfl,rfl⟩);go_ret;exact⟨rfl,rfl⟩
end
end Go.Proofs.Kz
namespace Go.Proofs
section
open Go.Shelf
end
end Go.Proofs
namespace Go.Proofs.Kz
open Go.Proofs.Tryz
open Go.Proofs.Tryz renaming prog → au
open _root_.ByteArray renaming empty → aO
open Go.Proofs
section
open Go.RowKit
open Go.Sort (Holds putRow)
def Jf(b:UInt8):Value:=.int .u8 (b.toNat:Int)
theorem L4(w:ae)(t:af):∃cap w1,(convert 9 90 (.string t)).run au w=.ok (.slice (some ⟨w.heap.size,0,none⟩) t.size cap) w1/\Below w.heap.size w w1/\w1.heap.size=w.heap.size+1/\Holds Jf w1 w.heap.size 0 t.data:=by
 refine⟨_,_,run_bytes_of_string w 9 90 5 t underlying9 underlying90 underlying5,(Below.refl _ _).drew.alloc (ag _) _,aj,fun j hj=>?_⟩;have hb:∀(c:Nat),(bytesRow t c)[j]?=some (Jf t.data[j]!):=fun c=>by
  simp only[bytesRow];rw[Array.getElem?_append_left (by simpa using hj)];rw[aK,aN hj,eN t.data j hj];rfl
 generalize grownCap w t.size 0 5=c;refine⟨?_,?_⟩
 ·rw[bB];exact(World.cell?_alloc_mark w.drew _ _ _ j).trans (hb c)
 ·rw[bB];have r8:j<(bytesRow t c).size:=(Array.getElem?_eq_some_iff.1 (hb c)).1;have:(w.drew.alloc (.cells (bytesRow t c) 5 ((bytesRow t c).size,(bytesRow t c).size+1))).heap[w.heap.size]?=some (.cells (bytesRow t c) 5 ((bytesRow t c).size,(bytesRow t c).size+1)):=by
   show(w.heap.push _)[w.heap.size]?=_;simp
  unfold World.frozen?;rw[this];simp;omega
theorem SF(t:af)(w:ae)(hn:t.size<=1000000):
  Calls au 211 #[.string t] w fun e w'=>e=.returned (.string (bytes t.data.toList.reverse))/\Below w.heap.size w w':=by
 obtain⟨cap,w1,hcv,Bo,VW,hh⟩:=L4 w t;have hr:Calls au 235 #[.slice (some ⟨w.heap.size,0,none⟩) t.size cap] w1 fun e w'=>e=.returned (.tuple #[])/\∃n,w'=putRow Jf (Sort.ahead w1 n) w.heap.size 0 t.data.toList.reverse.toArray:=by
  have:=AnyE.slices_Reverse Tryz.aha Jf (fun _=>rfl) w.heap.size 0 cap t.data.toList w1 (by simpa using hh) dV;change Calls au 235 _ _ _ at this;simpa using this
 have bN:∀n,∃w2,w2=putRow Jf (Sort.ahead w1 n) w.heap.size 0 t.data.toList.reverse.toArray/\Below w.heap.size w w2/\(convert 90 9 (.slice (some ⟨w.heap.size,0,none⟩) t.size cap)).run au w2=.ok (.string (bytes t.data.toList.reverse)) w2:=fun n=>by
  refine⟨_,rfl,Lib.below_putRow Bo (ag _),?_⟩;have:=run_convert_bytes_back (P:=au) (putRow Jf (Sort.ahead w1 n) w.heap.size 0 t.data.toList.reverse.toArray) 90 9 5 ⟨w.heap.size,0,none⟩ cap t.data.toList.reverse underlying90 underlying5 underlying9 (fun j hj=>by
   have:=(Go.Sort.holds_putRow Jf (Sort.ahead w1 n) w.heap.size 0 t.data t.data.toList.reverse.toArray hh aj j (by simpa using hj)).1;rw[bB] at this;rw[show(⟨w.heap.size,0,none⟩:Addr).add j=⟨w.heap.size,j,none⟩ by unfold Addr.add;simp;omega,this];simp at hj;simp[Jf,hj])
  simpa[bytes] using this
 clear hh;go_enter func211,ntmps211;go_wp2_with (go_at_call 235;refine hr.mono ?_;rintro e w' ⟨rfl,n,uS⟩;obtain⟨w2,h2,pA,anE⟩:=bN n;rw[<- h2] at uS;clear h2;subst uS);go_ret;exact⟨rfl,pA⟩
end
open Go.Ren Go.Conc
theorem Jg{w:ae}{b t n:Nat}{f:Nat->Value}(h:w.rowIs b t n f)(hf:∀j,j<n->∀g,val g (f j)=f j):ID (fun x=>x==b) w:=by
 intro x hx;simp at hx;subst hx;obtain⟨c,hb,hn,hc⟩:=h;refine⟨_,hb,rfl,fun g _=>?_⟩;simp only[obj]
 congr 1
 apply jf
 ·simp
 ·intro j h1 h2;have e:=hc j aa;rw[aN h2,ay] at e;simp only[Array.getElem_map];rw[e];exact hf j aa g
def lV(w:ae)(b:Nat)(ts:List af):Prop:=w.rowIs b 9 ts.length fun j=>.string (ts.getD j aO)
theorem lV.texts{w:ae}{b:Nat}{ts:List af}(h:lV w b ts):fy w b 0 ts:=fy.ZB h fun k hk=>by simp[List.getD,hk]
theorem lV.shut{w:ae}{b:Nat}{ts:List af}(h:lV w b ts):ID (fun x=>x==b) w:=Jg h fun j _ g=>aj
theorem lV.of_block{w w':ae}{b:Nat}{ts:List af}(h:lV w b ts)(e:w'.heap[b]?=w.heap[b]?):lV w' b ts:=World.rowIs.of_block h e
def lS(r:Int)(ts:List af):af :=
 if r=1 then bytes ((flat ts).take 32) else if r=2 then bytes ((flat ts).take 32).reverse else if r=3 then⟨(Lib.decDigits (sK ts)).toArray⟩ else if r=4 then zA ts else aO
section
variable {T:dm} {i:Nat} {V:Nat->ae->Prop} {E:bK} {rc:Nat->Prop} {o:aM} {w:ae}
def iW(w:ae):Prop:=∀q,q<20->w.cell? ⟨1,q,none⟩=some (.int .u64 ((10^q:Nat):Int))
theorem iW.later(hq:Quiet T 1){o':aM}{w':ae}(h:iW w)(hl:cR T i rc o w o' w'):iW w':=fun q Bc=>by rw[hq.cell hl.rel];exact h q Bc
theorem SG(hW:rZ T i)(hq:Quiet T 1)(n:Nat)(NG:n<=1000000000000)(ga:gA T o w)(ht:iW w):
  bz au (XW au T i V E rc) 197 #[.int .i64 n] o w fun v o' w'=>v=.string ⟨(Lib.decDigits n).toArray⟩/\cR T i rc o w o' w':=by
 have W:=cL (P:=au) (T:=T) (i:=i) (V:=V) (E:=E) rc;have hf:bz au (XW au T i V E rc) 233 #[.int .i64 n,.int .i64 10] o w fun v o' w'=>v=.string ⟨(Lib.decDigits n).toArray⟩/\cR T i rc o w o' w':=by
  by_cases h:n<100
  ·exact AZ hW n h ga
  ·exact Jc hW hq n h NG ga ht
 refine Zz W _ ?_;refine bC W func209 ar ?_;refine ax ?_;refine dA W rfl ar rfl func233 ah rfl aH rfl (hf.mono ?_);rintro v o1 w1 ⟨rfl,l1⟩;try walk_nrm
 refine ax ?_;exact⟨.inr trivial,trivial,_,resultsC_tmp (t:=2) ar _,rfl,l1⟩
theorem SH(hW:rZ T i)(b:Nat)(ts:List af)(hn:ts.length<=100000)(hm:jl ts<=1000000)(ga:gA T o w)(hb:o b)(ht:lV w b ts):
  bz au (XW au T i V E rc) 210 #[.slice (some ⟨b,0,none⟩) ts.length ts.length] o w fun v o' w'=>v=.string (bytes ((flat ts).take 32))/\cR T i rc o w o' w' :=
 oC (N:=fun x=>x==b) hW.ok hW.i CF hZ hW.kp ah ga (fun x hx=>by simp at hx;subst hx;exact hb) ht.shut (fun g hg=>by simp[val,addr,hg b aj]) _ (fun g=>aj) fun wl h1 h2 =>
  SE b 0 ts.length ts wl hn (ag _) hm (by have:=(ga.vb b hb).2;omega) (ht.of_block (h1 b aj)).texts
theorem acU(hW:rZ T i)(b:Nat)(ts:List af)(hn:ts.length<=100000)(hm:jl ts<=1000000)(ga:gA T o w)(hb:o b)(ht:lV w b ts):
  bz au (XW au T i V E rc) 212 #[.slice (some ⟨b,0,none⟩) ts.length ts.length] o w fun v o' w'=>v=.int .i64 (sK ts)/\cR T i rc o w o' w' :=
 oC (N:=fun x=>x==b) hW.ok hW.i CF hZ hW.kp ah ga (fun x hx=>by simp at hx;subst hx;exact hb) ht.shut (fun g hg=>by simp[val,addr,hg b aj]) _ (fun g=>aj) fun wl h1 h2 =>
  (VV b 0 ts.length ts wl hn hm (ht.of_block (h1 b aj)).texts).mono (by rintro e w' ⟨rfl,rfl⟩;exact⟨rfl,.refl _ _⟩)
theorem VX(hW:rZ T i)(b:Nat)(ts:List af)(hn:ts.length<=100000)(ga:gA T o w)(hb:o b)(ht:lV w b ts):
  bz au (XW au T i V E rc) 213 #[.slice (some ⟨b,0,none⟩) ts.length ts.length] o w fun v o' w'=>v=.string (zA ts)/\cR T i rc o w o' w' :=
 oC (N:=fun x=>x==b) hW.ok hW.i CF hZ hW.kp ah ga (fun x hx=>by simp at hx;subst hx;exact hb) ht.shut (fun g hg=>by simp[val,addr,hg b aj]) _ (fun g=>aj) fun wl h1 h2 =>
  (PI b 0 ts.length ts wl hn (ht.of_block (h1 b aj)).texts).mono (by rintro e w' ⟨rfl,rfl⟩;exact⟨rfl,.refl _ _⟩)
theorem ZD(hW:rZ T i)(t:af)(hn:t.size<=1000000)(ga:gA T o w):
  bz au (XW au T i V E rc) 211 #[.string t] o w fun v o' w'=>v=.string (bytes t.data.toList.reverse)/\cR T i rc o w o' w' :=
 qf hW.ok hW.i CF hZ hW.kp ah ga (fun g=>aj) _ (fun g=>aj) fun wl=>SF t wl hn
theorem PK(hW:rZ T i)(hq:Quiet T 1)(r:Int)(hr:r=1\/r=2\/r=3\/r=4)(b:Nat)(ts:List af)(hn:ts.length<=100000)(hm:jl ts<=1000000)(ga:gA T o w)(hb:o b)(ht:lV w b ts)(hp:iW w):
  bz au (XW au T i V E rc) 198 #[.int .i64 r,.slice (some ⟨b,0,none⟩) ts.length ts.length] o w fun v o' w'=>v=.string (lS r ts)/\cR T i rc o w o' w':=by
 have W:=cL (P:=au) (T:=T) (i:=i) (V:=V) (E:=E) rc;have fE:(bytes ((flat ts).take 32)).size<=1000000:=by
  show((flat ts).take 32).toArray.size<=_;rw[List.size_toArray];have:=jc 32 (flat ts);omega
 rcases hr with rfl|rfl|rfl|rfl
 ·refine bC W func198 ar ?_;refine ax ?_;refine cd func210 (SH hW b ts hn hm ga hb ht) ?_;rintro v o1 w1 ⟨rfl,l1⟩;try walk_nrm
  refine ax ?_;exact⟨.inr trivial,trivial,_,resultsC_tmp (t:=4) ar _,rfl,l1⟩
 ·refine bC W func198 ar ?_;refine ax ?_;refine cd func210 (SH hW b ts hn hm ga hb ht) ?_;rintro v o1 w1 ⟨rfl,l1⟩;try walk_nrm
  refine ax ?_;refine cd func211 (ZD hW (bytes ((flat ts).take 32)) fE l1.ok) ?_;rintro v o2 w2 ⟨rfl,l2⟩;try walk_nrm
  refine ax ?_;exact⟨.inr trivial,trivial,_,resultsC_tmp (t:=4) ar _,by simp[lS,bytes],l1.trans l2⟩
 ·have hs:sK ts<=1000000000000:=by have:=NI ts;omega
  refine bC W func198 ar ?_;refine ax ?_;refine cd func212 (acU hW b ts hn hm ga hb ht) ?_;rintro v o1 w1 ⟨rfl,l1⟩;try walk_nrm
  refine ax ?_;refine cd func197 (SG hW hq _ hs l1.ok (hp.later hq l1)) ?_;rintro v o2 w2 ⟨rfl,l2⟩;try walk_nrm
  refine ax ?_;exact⟨.inr trivial,trivial,_,resultsC_tmp (t:=4) ar _,rfl,l1.trans l2⟩
 ·refine bC W func198 ar ?_;refine ax ?_;refine cd func213 (VX hW b ts hn ga hb ht) ?_;rintro v o1 w1 ⟨rfl,l1⟩;try walk_nrm
  refine ax ?_;exact⟨.inr trivial,trivial,_,resultsC_tmp (t:=4) ar _,rfl,l1⟩
end
abbrev V0:V:=(false,aO)
def dX(vs:List V)(j:Nat):Value:=if j%2=0 then .bool (vs.getD (j/2) V0).1 else .string (vs.getD (j/2) V0).2
def eY(w:ae)(b:Nat)(vs:List V):Prop:=w.rowIs b 159 (vs.length*2) (dX vs)
theorem vY(vs:List V)(j:Nat)(g:Rn):val g (dX vs j)=dX vs j:=by unfold dX;split<;>simp
theorem eY.lC{w:ae}{b:Nat}{vs:List V}(h:eY w b vs):wW w b 0 vs:=fun k hk=>by
 have h1:=World.rowIs.cell h (i:=k*2) aa;have h2:=World.rowIs.cell h (i:=k*2+1) aa;have e1:dX vs (k*2)=.bool vs[k].1:=by
  unfold dX;rw[if_pos aa,show k*2/2=k by omega];simp[List.getD,hk]
 have e2:dX vs (k*2+1)=.string vs[k].2:=by
  unfold dX;rw[if_neg aa,show(k*2+1)/2=k by omega];simp[List.getD,hk]
 rw[bB,h1,h2,e1,e2];exact⟨rfl,rfl⟩
theorem eY.shut{w:ae}{b:Nat}{vs:List V}(h:eY w b vs):ID (fun x=>x==b) w:=Jg h fun j _ g=>vY vs j g
theorem eY.of_block{w w':ae}{b:Nat}{vs:List V}(h:eY w b vs)(e:w'.heap[b]?=w.heap[b]?):eY w' b vs:=World.rowIs.of_block h e
section
variable {T:dm} {i:Nat} {V:Nat->ae->Prop} {E:bK} {rc:Nat->Prop} {o:aM} {w:ae}
theorem GB(hW:rZ T i)(b:Nat)(vs:List Kz.V)(hn:vs.length<=100000)(ga:gA T o w)(hb:o b)(ht:eY w b vs):
  bz au (XW au T i V E rc) 196 #[.slice (some ⟨b,0,none⟩) vs.length vs.length] o w fun v o' w'=>v=.int .i64 (cnt vs)/\cR T i rc o w o' w' :=
 oC (N:=fun x=>x==b) hW.ok hW.i CF hZ hW.kp ah ga (fun x hx=>by simp at hx;subst hx;exact hb) ht.shut (fun g hg=>by simp[val,addr,hg b aj]) _ (fun g=>aj) fun wl h1 h2 =>
  PE b 0 vs.length vs wl hn (by have:=(ga.vb b hb).2;omega) (ht.of_block (h1 b aj)).lC
theorem PL(hW:rZ T i)(b:Nat)(vs:List Kz.V)(hn:vs.length<=100000)(ga:gA T o w)(hb:o b)(ht:eY w b vs):
  bz au (XW au T i V E rc) 199 #[.slice (some ⟨b,0,none⟩) vs.length vs.length] o w fun v o' w'=>∃A,v=.slice (some ⟨A,0,none⟩) (vs.map (·.2)).length (vs.map (·.2)).length/\o' A/\lV w' A (vs.map (·.2))/\cR T i rc o w o' w':=by
 refine wN (N:=fun x=>x==b) (R:=fun wl v w'=>v=.slice (some ⟨wl.heap.size,0,none⟩) vs.length vs.length/\(∀x,x<wl.heap.size->w'.heap[x]?=wl.heap[x]?)/\w'.rowIs wl.heap.size 9 vs.length (fun j=>.string (vs.getD j (false,aO)).2)) hW.ok hW.i CF hZ hW.kp ah ga
  (fun x hx=>by simp at hx;subst hx;exact hb) ht.shut (fun g hg=>by simp[val,addr,hg b aj]) (fun wl v w' τ d h=>h) (fun wl τ d v w' h=>h) (fun wl h1 h2=>?_) ?_
 ·refine(Jd b 0 vs.length vs wl hn (by have:=(ga.vb b hb).2;omega) (ht.of_block (h1 b aj)).lC).mono ?_;rintro e w' ⟨rfl,hB,_,cj⟩;exact⟨_,rfl,rfl,hB.block,cj⟩
 ·rintro wl v v' F' o' aV w' h1 h2 ⟨rfl,eG,cj⟩ hB;obtain⟨hK,rfl,pD⟩:=hB.slice;have hrel:=hB.stays ht.shut h1 (fun x hx=>eG x (by simp at hx;subst hx;have:=(ga.vb x hb).2;omega));refine⟨F'.φ wl.heap.size,aj,pD,?_,hrel,⟨hB.vb,aW ga.size hrel.size⟩,hB.more⟩;have GC:=Zo hB.wr hK (fun j _ f=>aj) cj;show w'.rowIs _ _ (vs.map (·.2)).length _;rw[bP];refine GC.congr fun j hj=>?_;simp[List.getD,hj]
def iX(r:Int)(vs:List Kz.V):Kz.V:=if r=5 then(true,⟨(Lib.decDigits (cnt vs)).toArray⟩) else if cnt vs<vs.length then(false,aO) else(true,lS r (vs.map (·.2)))
theorem L5(hW:rZ T i)(hq:Quiet T 1)(b:Nat)(vs:List Kz.V)(hn:vs.length<=100000)(ga:gA T o w)(hb:o b)(ht:eY w b vs)(hp:iW w):
  bz au (XW au T i V E rc) 163 #[.int .i64 5,.slice (some ⟨b,0,none⟩) vs.length vs.length] o w fun v o' w'=>v=.agg #[.bool (iX 5 vs).1,.string (iX 5 vs).2]/\cR T i rc o w o' w':=by
 have W:=cL (P:=au) (T:=T) (i:=i) (V:=V) (E:=E) rc;have hc:cnt vs<=1000000000000:=by have:=CG vs;omega
 refine eA W func163 ar ?_;refine ax ?_;refine nK hW.ok hW.i ga rfl ar rfl (Obj.cells #[.bool false,.string aO] 159) (fun w1=>by simp[go_sem];rfl) (fun w1=>fP) fun A o1 w1 l1 hA II Q5 Gi=>?_;try walk_nrm
 refine ax ?_;have HI:eY w1 b vs:=ht.of_block (l1.rel.own b hb);refine cd func196 (GB hW b vs hn l1.ok (l1.more b hb) HI) ?_;rintro v o2 w2 ⟨rfl,l2⟩;try walk_nrm
 refine ax ?_;refine cd func197 (SG hW hq (cnt vs) hc l2.ok ((hp.later hq l1).later hq l2)) ?_;rintro v o3 w3 ⟨rfl,l3⟩;try walk_nrm
 refine ax ?_;have vf:w3.heap[A]?=some (Obj.cells #[.bool false,.string aO] 159):=by rw[l3.rel.own A (l2.more A hA),l2.rel.own A hA,II]
 have cellsOf:∀{w4:ae} {x s:Value},w4.heap[A]?=some (Obj.cells #[x,s] 159)->w4.cell? ⟨A,0,none⟩=some x/\w4.cell? ⟨A,1,none⟩=some s/\w4.frozen? ⟨A,0,none⟩=false/\w4.frozen? ⟨A,1,none⟩=false:=fun h=>by simp[World.cell?,World.frozen?,h]
 refine qg hW.ok hW.i l3.ok rfl ar A (l3.more A (l2.more A hA)) (f:=fun w4=>(w4.setCell ⟨A,0,none⟩ (.bool true)).setCell ⟨A,1,none⟩ (.string ⟨(Lib.decDigits (cnt vs)).toArray⟩)) (fun w4 h4=>?_) (fun w4=>(gY.set _ _ _ _).trans (gY.set _ _ _ _)) (fun w4 h4 e he=>?_) fun w4 h4 l4=>?_
 ·obtain⟨c0,c1,f0,f1⟩:=cellsOf (h4.trans vf);simp[go_sem,c0,c1,f0,f1]
 ·obtain⟨c0,c1,f0,f1⟩:=cellsOf (h4.trans vf);have AM:(w4.setCell ⟨A,0,none⟩ (.bool true)).cell? ⟨A,1,none⟩=some (.string aO):=by rw[World.cell?_setCell_other _ _ _ _ aj];exact c1
  have ZE:(w4.setCell ⟨A,0,none⟩ (.bool true)).frozen? ⟨A,1,none⟩=false:=by simpa using f1
  simp[go_sem,c0,c1,f0,f1] at he;rw[cV _ _ c0 f0 rfl,cV _ _ AM ZE rfl] at he;simp at he;rcases he with rfl|rfl;all_goals exact⟨_,_,_,rfl,rfl⟩
 try walk_nrm
 refine ax ?_;have tC:((w4.setCell ⟨A,0,none⟩ (.bool true)).setCell ⟨A,1,none⟩ (.string ⟨(Lib.decDigits (cnt vs)).toArray⟩)).heap[A]?=some (Obj.cells #[.bool true,.string ⟨(Lib.decDigits (cnt vs)).toArray⟩] 159):=by
  simp[World.setCell,aR,h4.trans vf]
 generalize (w4.setCell ⟨A,0,none⟩ (.bool true)).setCell ⟨A,1,none⟩ (.string ⟨(Lib.decDigits (cnt vs)).toArray⟩)=w5 at *;have SI:¬o A:=fun h=>by have:=(ga.vb A h).2;omega
 refine⟨.inr trivial,trivial,.agg #[.bool true,.string ⟨(Lib.decDigits (cnt vs)).toArray⟩],fun w6 h6=>?_,by simp[iX],((((l1.trans l2).trans l3).wO (A:=A)).trans l4).later SI⟩;obtain⟨c0,c1,f0,f1⟩:=cellsOf ((h6.own A (l3.more A (l2.more A hA))).trans tC);refine⟨by simp[results,results163,go_sem,c0,c1],fun es Ig=>⟨.refl _ _,fun e he=>?_⟩⟩;have:=Ig e he;simp[results,results163,go_sem,c0,c1] at this;rcases this with rfl|rfl;all_goals exact xW (.inl (l3.more A (l2.more A hA)))
theorem L6(hW:rZ T i)(hq:Quiet T 1)(r:Int)(hr:r=1\/r=2\/r=3\/r=4)(b:Nat)(vs:List Kz.V)(hn:vs.length<=100000)(hm:jl (vs.map (·.2))<=1000000)(vL:cnt vs<vs.length)(ga:gA T o w)(hb:o b)(ht:eY w b vs)(hp:iW w):
  bz au (XW au T i V E rc) 163 #[.int .i64 r,.slice (some ⟨b,0,none⟩) vs.length vs.length] o w fun v o' w'=>v=.agg #[.bool (iX r vs).1,.string (iX r vs).2]/\cR T i rc o w o' w':=by
 have W:=cL (P:=au) (T:=T) (i:=i) (V:=V) (E:=E) rc;have PM:¬r=5:=aa;have PN:(r==5)=false:=by simpa using PM
 have fu:=CG vs;have cy:(cnt vs:Int)<(vs.length:Int):=aa;refine eA W func163 ar ?_;refine ax ?_;refine nK hW.ok hW.i ga rfl ar rfl (Obj.cells #[.bool false,.string aO] 159) (fun w1=>by simp[go_sem];rfl) (fun w1=>fP) fun A o1 w1 l1 hA II Q5 Gi=>?_;try walk_nrm
 refine ax ?_;have HI:eY w1 b vs:=ht.of_block (l1.rel.own b hb);refine cd func196 (GB hW b vs hn l1.ok (l1.more b hb) HI) ?_;rintro v o2 w2 ⟨rfl,l2⟩;try walk_nrm
 refine ax ?_;have ZF:o2 A:=l2.more A hA;have lL:cR T i rc o w o2 w2:=l1.trans l2;have vf:w2.heap[A]?=some (Obj.cells #[.bool false,.string aO] 159):=by rw[l2.rel.own A hA,II]
 have cellsOf:∀{w4:ae} {x s:Value},w4.heap[A]?=some (Obj.cells #[x,s] 159)->w4.cell? ⟨A,0,none⟩=some x/\w4.cell? ⟨A,1,none⟩=some s/\w4.frozen? ⟨A,0,none⟩=false/\w4.frozen? ⟨A,1,none⟩=false:=fun h=>by simp[World.cell?,World.frozen?,h]
 refine qg hW.ok hW.i lL.ok rfl ar A ZF (f:=fun w4=>(w4.setCell ⟨A,0,none⟩ (.bool false)).setCell ⟨A,1,none⟩ (.string aO)) (fun w4 h4=>?_) (fun w4=>(gY.set _ _ _ _).trans (gY.set _ _ _ _)) (fun w4 h4 e he=>?_) fun w4 h4 l4=>?_
 ·obtain⟨c0,c1,f0,f1⟩:=cellsOf (h4.trans vf);simp[go_sem,c0,c1,f0,f1];rfl
 ·obtain⟨c0,c1,f0,f1⟩:=cellsOf (h4.trans vf);have AM:(w4.setCell ⟨A,0,none⟩ (.bool false)).cell? ⟨A,1,none⟩=some (.string aO):=by rw[World.cell?_setCell_other _ _ _ _ aj];exact c1
  have ZE:(w4.setCell ⟨A,0,none⟩ (.bool false)).frozen? ⟨A,1,none⟩=false:=by simpa using f1
  simp[go_sem,c0,c1,f0,f1] at he;rw[cV _ _ c0 f0 rfl,cV _ _ AM ZE rfl] at he;simp at he;rcases he with rfl|rfl;all_goals exact⟨_,_,_,rfl,rfl⟩
 try walk_nrm
 refine ax ?_;have tC:((w4.setCell ⟨A,0,none⟩ (.bool false)).setCell ⟨A,1,none⟩ (.string aO)).heap[A]?=some (Obj.cells #[.bool false,.string aO] 159):=by
  simp[World.setCell,aR,h4.trans vf]
 generalize (w4.setCell ⟨A,0,none⟩ (.bool false)).setCell ⟨A,1,none⟩ (.string aO)=w5 at *;have SI:¬o A:=fun h=>by have:=(ga.vb A h).2;omega
 refine⟨.inr trivial,trivial,.agg #[.bool false,.string aO],fun w6 h6=>?_,by simp[iX, *],((lL.wO (A:=A)).trans l4).later SI⟩;obtain⟨c0,c1,f0,f1⟩:=cellsOf ((h6.own A ZF).trans tC);refine⟨by simp[results,results163,go_sem,c0,c1],fun es Ig=>⟨.refl _ _,fun e he=>?_⟩⟩;have:=Ig e he;simp[results,results163,go_sem,c0,c1] at this;rcases this with rfl|rfl;all_goals exact xW (.inl ZF)
theorem SJ(hW:rZ T i)(hq:Quiet T 1)(r:Int)(hr:r=1\/r=2\/r=3\/r=4)(b:Nat)(vs:List Kz.V)(hn:vs.length<=100000)(hm:jl (vs.map (·.2))<=1000000)(vL:¬cnt vs<vs.length)(ga:gA T o w)(hb:o b)(ht:eY w b vs)(hp:iW w):
  bz au (XW au T i V E rc) 163 #[.int .i64 r,.slice (some ⟨b,0,none⟩) vs.length vs.length] o w fun v o' w'=>v=.agg #[.bool (iX r vs).1,.string (iX r vs).2]/\cR T i rc o w o' w':=by
 have W:=cL (P:=au) (T:=T) (i:=i) (V:=V) (E:=E) rc;have PM:¬r=5:=aa;have PN:(r==5)=false:=by simpa using PM
 have fu:=CG vs;have cy:¬(cnt vs:Int)<(vs.length:Int):=aa;refine eA W func163 ar ?_;refine ax ?_;refine nK hW.ok hW.i ga rfl ar rfl (Obj.cells #[.bool false,.string aO] 159) (fun w1=>by simp[go_sem];rfl) (fun w1=>fP) fun A o1 w1 l1 hA II Q5 Gi=>?_;try walk_nrm
 refine ax ?_;have HI:eY w1 b vs:=ht.of_block (l1.rel.own b hb);refine cd func196 (GB hW b vs hn l1.ok (l1.more b hb) HI) ?_;rintro v o2 w2 ⟨rfl,l2⟩;try walk_nrm
 refine ax ?_;have KH:eY w2 b vs:=HI.of_block (l2.rel.own b (l1.more b hb));refine cd func199 (PL hW b vs hn l2.ok (l2.more b (l1.more b hb)) KH) ?_;rintro v o3 w3 ⟨B,rfl,hB,Q6,l3⟩;try walk_nrm
 refine ax ?_;refine cd func198 (PK hW hq r hr B (vs.map (·.2)) (by simpa using hn) hm l3.ok hB Q6 (((hp.later hq l1).later hq l2).later hq l3)) ?_;rintro v o4 w9 ⟨rfl,l9⟩;try walk_nrm
 refine ax ?_;have ZF:o4 A:=l9.more A (l3.more A (l2.more A hA));have lL:cR T i rc o w o4 w9:=((l1.trans l2).trans l3).trans l9;have vf:w9.heap[A]?=some (Obj.cells #[.bool false,.string aO] 159):=by rw[l9.rel.own A (l3.more A (l2.more A hA)),l3.rel.own A (l2.more A hA),l2.rel.own A hA,II]
 have cellsOf:∀{w4:ae} {x s:Value},w4.heap[A]?=some (Obj.cells #[x,s] 159)->w4.cell? ⟨A,0,none⟩=some x/\w4.cell? ⟨A,1,none⟩=some s/\w4.frozen? ⟨A,0,none⟩=false/\w4.frozen? ⟨A,1,none⟩=false:=fun h=>by simp[World.cell?,World.frozen?,h]
 refine qg hW.ok hW.i lL.ok rfl ar A ZF (f:=fun w4=>(w4.setCell ⟨A,0,none⟩ (.bool true)).setCell ⟨A,1,none⟩ (.string (lS r (vs.map (·.2))))) (fun w4 h4=>?_) (fun w4=>(gY.set _ _ _ _).trans (gY.set _ _ _ _)) (fun w4 h4 e he=>?_) fun w4 h4 l4=>?_
 ·obtain⟨c0,c1,f0,f1⟩:=cellsOf (h4.trans vf);simp[go_sem,c0,c1,f0,f1]
 ·obtain⟨c0,c1,f0,f1⟩:=cellsOf (h4.trans vf);have AM:(w4.setCell ⟨A,0,none⟩ (.bool true)).cell? ⟨A,1,none⟩=some (.string aO):=by rw[World.cell?_setCell_other _ _ _ _ aj];exact c1
  have ZE:(w4.setCell ⟨A,0,none⟩ (.bool true)).frozen? ⟨A,1,none⟩=false:=by simpa using f1
  simp[go_sem,c0,c1,f0,f1] at he;rw[cV _ _ c0 f0 rfl,cV _ _ AM ZE rfl] at he;simp at he;rcases he with rfl|rfl;all_goals exact⟨_,_,_,rfl,rfl⟩
 try walk_nrm
 refine ax ?_;have tC:((w4.setCell ⟨A,0,none⟩ (.bool true)).setCell ⟨A,1,none⟩ (.string (lS r (vs.map (·.2))))).heap[A]?=some (Obj.cells #[.bool true,.string (lS r (vs.map (·.2)))] 159):=by
  simp[World.setCell,aR,h4.trans vf]
 generalize (w4.setCell ⟨A,0,none⟩ (.bool true)).setCell ⟨A,1,none⟩ (.string (lS r (vs.map (·.2))))=w5 at *;have SI:¬o A:=fun h=>by have:=(ga.vb A h).2;omega
 refine⟨.inr trivial,trivial,.agg #[.bool true,.string (lS r (vs.map (·.2)))],fun w6 h6=>?_,by simp[iX, *],((lL.wO (A:=A)).trans l4).later SI⟩;obtain⟨c0,c1,f0,f1⟩:=cellsOf ((h6.own A ZF).trans tC);refine⟨by simp[results,results163,go_sem,c0,c1],fun es Ig=>⟨.refl _ _,fun e he=>?_⟩⟩;have:=Ig e he;simp[results,results163,go_sem,c0,c1] at this;rcases this with rfl|rfl;all_goals exact xW (.inl ZF)
end
theorem mixed:au.follows .mixedOrders=true:=ah
theorem kZ{t:Array Value}{n:Nat}(h:t.size=n):∃gs:Nat->Value,t=((List.range n).map gs).toArray:=by
 refine⟨fun k=>t.getD k undef,?_⟩;subst h;apply jf
 ·simp
 ·intro i h1 h2;simp[bR,h1]
theorem iE{a:Act}{n:Nat}(h:a.tmps.size=n)(k:a.defers=[]):∃gs:Nat->Value,a=⟨((List.range n).map gs).toArray,[]⟩:=by
 obtain⟨tm,df⟩:=a;simp only at h k;obtain⟨gs,rfl⟩:=kZ h;exact⟨gs,by rw[k]⟩
structure mV where
 n:Nat
 bn:Nat
 Lb:Nat
 Lo:Nat
 St:Nat
 Vb:Nat
 Rb:Nat
 Nb:Nat
 Mb:Nat
 jQ:Nat->Int
 ins:Nat->List (Bool×Nat)
 cM:Nat->Nat
 lC:List V
 ch:Nat->Nat
structure lg(D:mV)(w:ae):Prop where
 b0:w.cell? ⟨D.bn,0,none⟩=some (.pointer (some ⟨D.Lb,D.Lo,none⟩))
 b1:w.cell? ⟨D.bn,1,none⟩=some (.slice (some ⟨D.Vb,0,none⟩) D.lC.length D.lC.length)
 b2:w.cell? ⟨D.bn,2,none⟩=some (.slice (some ⟨D.Rb,0,none⟩) D.n D.n)
 b3:w.cell? ⟨D.bn,3,none⟩=some (.slice (some ⟨D.Nb,0,none⟩) D.n D.n)
 b4:w.cell? ⟨D.bn,4,none⟩=some (.slice (some ⟨D.Mb,0,none⟩) D.n D.n)
 steps:w.cell? ⟨D.Lb,D.Lo,none⟩=some (.slice (some ⟨D.St,0,none⟩) D.n D.n)
 eR:∀s,s<D.n->w.cell? ⟨D.St,s*3+1,none⟩=some (.int .i64 (D.jQ s))
 A0:∀s,s<D.n->w.cell? ⟨D.St,s*3+2,none⟩=some (.slice (some ⟨D.cM s,0,none⟩) (D.ins s).length (D.ins s).length)
 CH:∀s,s<D.n->∀j (h:j<(D.ins s).length),w.cell? ⟨D.cM s,j*2,none⟩=some (.bool (D.ins s)[j].1)/\w.cell? ⟨D.cM s,j*2+1,none⟩=some (.int .i64 (D.ins s)[j].2)
 lC:wW w D.Vb 0 D.lC
 made:∀s,s<D.n->w.cell? ⟨D.Mb,s,none⟩=some (.chan (some (D.ch s)))
structure zC(D:mV)(T:dm)(ord:Nat->Nat):Prop where
 DL:Quiet T D.bn
 ZG:Quiet T D.Lb
 ZH:Quiet T D.St
 qVb:Quiet T D.Vb
 qMb:Quiet T D.Mb
 PO:∀s,s<D.n->Quiet T (D.cM s)
 qF:∀i,i<T.n->ord i<D.n
 ch:∀i,i<T.n->T.ch i=D.ch (ord i)
 own:∀i l,T.jW i l↔i<T.n/\((∃j,j<4/\l=.cell ⟨D.Rb,ord i*4+j,none⟩)\/l=.cell ⟨D.Nb,ord i,none⟩)
 Q7:T.Sh D.Rb
 X3:T.Sh D.Nb
 apart:D.Rb≠D.Nb
 dep:∀i,i<T.n->∀m,(true,m)∈D.ins (ord i)->∃k,k<T.n/\ord k=m/\T.dep i k
 src:∀s,s<D.n->∀m,(false,m)∈D.ins s->m<D.lC.length
 short:∀s,s<D.n->(D.ins s).length<=4
 gT:D.n<=100000
 VY:D.lC.length<=100000
section
variable {D:mV} {T:dm} {ord:Nat->Nat} {i:Nat} {o rc:Nat->Prop} {w w1:ae}
theorem lg.later(h:lg D w)(q:zC D T ord)(r:cW T i o rc w w1):lg D w1:=by
 constructor
 ·rw[q.DL.cell r];exact h.b0
 ·rw[q.DL.cell r];exact h.b1
 ·rw[q.DL.cell r];exact h.b2
 ·rw[q.DL.cell r];exact h.b3
 ·rw[q.DL.cell r];exact h.b4
 ·rw[q.ZG.cell r];exact h.steps
 ·intro s hs;rw[q.ZH.cell r];exact h.eR s hs
 ·intro s hs;rw[q.ZH.cell r];exact h.A0 s hs
 ·intro s hs j hj;rw[(q.PO s hs).cell r,(q.PO s hs).cell r];exact h.CH s hs j hj
 ·intro k hk;rw[q.qVb.cell r,q.qVb.cell r];exact h.lC k hk
 ·intro s hs;rw[q.qMb.cell r];exact h.made s hs
theorem lg.Jh(h:lg D w)(q:zC D T ord)(r:∀b,Quiet T b->w1.heap[b]?=w.heap[b]?):lg D w1:=by
 have rc:∀{b off},Quiet T b->w1.cell? ⟨b,off,none⟩=w.cell? ⟨b,off,none⟩:=fun hb=>cell_of (r _ hb);constructor
 ·rw[rc q.DL];exact h.b0
 ·rw[rc q.DL];exact h.b1
 ·rw[rc q.DL];exact h.b2
 ·rw[rc q.DL];exact h.b3
 ·rw[rc q.DL];exact h.b4
 ·rw[rc q.ZG];exact h.steps
 ·intro s hs;rw[rc q.ZH];exact h.eR s hs
 ·intro s hs;rw[rc q.ZH];exact h.A0 s hs
 ·intro s hs j hj;rw[rc (q.PO s hs),rc (q.PO s hs)];exact h.CH s hs j hj
 ·intro k hk;rw[rc q.qVb,rc q.qVb];exact h.lC k hk
 ·intro s hs;rw[rc q.qMb];exact h.made s hs
theorem cW.pq{nY:Nat->Prop}(Gq:∀k,rc k->nY k)(h:cW T i o nY w w1):cW T i o rc w w1 :=
 ⟨h.size,h.own,h.ro,h.sh,fun a ha=>h.mine a (ha.imp id fun⟨k,hk,hl⟩=>⟨k,Gq k hk,hl⟩),h.chan,h.Cb,h.wg,h.os,h.output⟩
theorem nL{o':aM}{w2:ae}(h:cR T i rc o w o' w1)(hr:cW T i o' rc w1 w2):cR T i rc o w o' w2 :=
 ⟨h.rel.trans (hr.less h.more),⟨fun b hb=>⟨(h.ok.vb b hb).1,bw (h.ok.vb b hb).2 hr.size⟩,aW h.ok.size hr.size⟩,h.more⟩
theorem fC{b off:Nat}{sy:Bool}(h:Quiet T b):Np T i o rc ⟨.cell ⟨b,off,none⟩,false,sy⟩:=uq (.inr (.inr (.inr (h.ro off))))
theorem oI{b off:Nat}{wt sy:Bool}(h:o b):Np T i o rc ⟨.cell ⟨b,off,none⟩,wt,sy⟩:=xW h
end
section
variable {P:Program} {T:dm} {i:Nat} {V:Nat->ae->Prop} {E:bK} {rc o:Nat->Prop} {w:ae}
theorem uu(hT:T.OK)(hi:i<T.n){fn:FuncId}{Q:Exit->Act->aM->ae->Prop}{a:Act}(ga:gA T o w){ops:Array Oper}{j:Nat}{rest:List Nat}{op:Oper}(ho:ops[j]?=some op)(hw:Region.wanted op (yielded ops a.tmps)=true)(A off:Nat)(hA:o A){t n:Nat}{g:Nat->Value}(hr:w.rowIs A t n g)(h0:off+1<n)(x y:Value)(hx:x.oneCell'=true)(hy:y.oneCell'=true)(cJ:∀w1,w1.cell? ⟨A,off,none⟩=some (g off)->w1.cell? ⟨A,off+1,none⟩=some (g (off+1))->(∀k,w1.frozen? ⟨A,k,none⟩=false)->(execOp a.eval op).run P w1=.ok .skip ((w1.setCell ⟨A,off,none⟩ x).setCell ⟨A,off+1,none⟩ y))(jg:∀w1,w1.cell? ⟨A,off,none⟩=some (g off)->w1.cell? ⟨A,off+1,none⟩=some (g (off+1))->(∀k,w1.frozen? ⟨A,k,none⟩=false)->∃m m',(execOp a.eval op).events P w1 #[]=(store ⟨A,off+1,none⟩ y m').events P (w1.setCell ⟨A,off,none⟩ x) ((store ⟨A,off,none⟩ x m).events P w1 #[]))(h:∀w2,rC T i rc A o w o w2->w2.rowIs A t n (fun k=>if k=off+1 then y else if k=off then x else g k)->eX (XW P T i V E rc) fn ops rest Q (a.put op.dst undef) o w2):eX (XW P T i V E rc) fn ops (j::rest) Q a o w:=by
 refine qg hT hi ga ho hw A hA (f:=fun w4=>(w4.setCell ⟨A,off,none⟩ x).setCell ⟨A,off+1,none⟩ y) (fun w1 h1=>?_) (fun w4=>(gY.set _ _ _ _).trans (gY.set _ _ _ _)) (fun w1 h1 e he=>?_) fun w1 h1 l1=>?_
 ·have ly:=hr.of_block h1;exact cJ w1 (ly.cell aa) (ly.cell h0) ly.frozen
 ·have ly:=hr.of_block h1;obtain⟨m,m',e1⟩:=jg w1 (ly.cell aa) (ly.cell h0) ly.frozen;rw[e1] at he;have AM:(w1.setCell ⟨A,off,none⟩ x).cell? ⟨A,off+1,none⟩=some (g (off+1)):=by rw[World.cell?_setCell_other _ _ _ _ aj];exact ly.cell h0
  have ZE:(w1.setCell ⟨A,off,none⟩ x).frozen? ⟨A,off+1,none⟩=false:=(ly.set off x).frozen _;rw[cV _ _ (ly.cell aa) (ly.frozen _) hx,cV _ _ AM ZE hy] at he;simp at he;rcases he with rfl|rfl;all_goals exact⟨_,_,_,rfl,rfl⟩
 ·have ly:=hr.of_block h1;exact h _ l1 ((ly.set off x).set (off+1) y)
theorem Ji(hT:T.OK)(hi:i<T.n){fn:FuncId}{Q:Exit->Act->aM->ae->Prop}{a:Act}(ga:gA T o w){ops:Array Oper}{j:Nat}{rest:List Nat}{op:Oper}(ho:ops[j]?=some op)(hw:Region.wanted op (yielded ops a.tmps)=true)(A:Nat)(hA:o A){t:Nat}{g:Nat->Value}(hr:w.rowIs A t 4 g)(x y u v:Value)(hx:x.oneCell'=true)(hy:y.oneCell'=true)(hu:u.oneCell'=true)(hv:v.oneCell'=true)(cJ:∀w1,(∀k,k<4->w1.cell? ⟨A,k,none⟩=some (g k))->(∀k,w1.frozen? ⟨A,k,none⟩=false)->(execOp a.eval op).run P w1=.ok .skip ((((w1.setCell ⟨A,0,none⟩ x).setCell ⟨A,1,none⟩ y).setCell ⟨A,2,none⟩ u).setCell ⟨A,3,none⟩ v))(jg:∀w1,(∀k,k<4->w1.cell? ⟨A,k,none⟩=some (g k))->(∀k,w1.frozen? ⟨A,k,none⟩=false)->∃m,(execOp a.eval op).events P w1 #[]=(store ⟨A,3,none⟩ v m).events P (((w1.setCell ⟨A,0,none⟩ x).setCell ⟨A,1,none⟩ y).setCell ⟨A,2,none⟩ u) ((store ⟨A,2,none⟩ u m).events P ((w1.setCell ⟨A,0,none⟩ x).setCell ⟨A,1,none⟩ y) ((store ⟨A,1,none⟩ y m).events P (w1.setCell ⟨A,0,none⟩ x) ((store ⟨A,0,none⟩ x m).events P w1 #[]))))(h:∀w2,rC T i rc A o w o w2->w2.rowIs A t 4 (fun k=>if k=3 then v else if k=2 then u else if k=1 then y else if k=0 then x else g k)->eX (XW P T i V E rc) fn ops rest Q (a.put op.dst undef) o w2):eX (XW P T i V E rc) fn ops (j::rest) Q a o w:=by
 refine qg hT hi ga ho hw A hA (f:=fun w4=>(((w4.setCell ⟨A,0,none⟩ x).setCell ⟨A,1,none⟩ y).setCell ⟨A,2,none⟩ u).setCell ⟨A,3,none⟩ v) (fun w1 h1=>?_) (fun w4=>(((gY.set _ _ _ _).trans (gY.set _ _ _ _)).trans (gY.set _ _ _ _)).trans (gY.set _ _ _ _)) (fun w1 h1 e he=>?_) fun w1 h1 l1=>?_
 ·have ly:=hr.of_block h1;exact cJ w1 (fun k hk=>ly.cell hk) ly.frozen
 ·have ly:=hr.of_block h1;obtain⟨m,e1⟩:=jg w1 (fun k hk=>ly.cell hk) ly.frozen;have r1:=ly.set 0 x;have r2:=r1.set 1 y;have r3:=r2.set 2 u;rw[e1,cV _ _ (ly.cell (i:=0) aa) (ly.frozen _) hx,cV _ _ (r1.cell (i:=1) aa) (r1.frozen _) hy,cV _ _ (r2.cell (i:=2) aa) (r2.frozen _) hu,cV _ _ (r3.cell (i:=3) aa) (r3.frozen _) hv] at he;simp at he;rcases he with rfl|rfl|rfl|rfl;all_goals exact⟨_,_,_,rfl,rfl⟩
 ·have ly:=hr.of_block h1;exact h _ l1 ((((ly.set 0 x).set 1 y).set 2 u).set 3 v)
end
theorem Jj(d:Nat)(a b:Bool)(w:ae)(es:Array Event):(Op.equalIn (d+1) 4 (.bool a) (.bool b)).events au w es=es:=by
 simp[Op.equalIn,go_sem,Sem.events_bind,events_underlying]
theorem wX(d:Nat)(a b:af)(w:ae)(es:Array Event):(Op.equalIn (d+1) 9 (.string a) (.string b)).events au w es=es:=by
 simp[Op.equalIn,go_sem,Sem.events_bind,events_underlying]
theorem PQ(e:Nat)(w:ae)(es:Array Event)(a c:Bool)(b d:af):(Op.equalIn (e+2) 159 (.agg #[.bool a,.string b]) (.agg #[.bool c,.string d])).events au w es=es:=by
 rw[Op.equalIn];simp[go_sem,Sem.events_bind,Jj,wX]
theorem rE(w:ae)(a c:Bool)(b d:af):(binOp .neq 159 (.agg #[.bool a,.string b]) (.agg #[.bool c,.string d])).run au w=.ok (.bool (!decide ((a,b)=(c,d)))) w:=by
 have e:b.toList=d.toList↔b=d:=by
  rw[ByteArray.toList_eq,ByteArray.toList_eq];constructor
  ·intro h;obtain⟨⟨x⟩⟩:=b;obtain⟨⟨y⟩⟩:=d;have h:x=y:=h;rw[h]
  ·rintro rfl;rfl
 simp[go_sem,e];by_cases h1:a=c<;>by_cases h2:b=d<;>simp[h1,h2]
theorem vZ(w:ae)(es:Array Event)(a c:Bool)(b d:af):(binOp .neq 159 (.agg #[.bool a,.string b]) (.agg #[.bool c,.string d])).events au w es=es:=by
 simp only[binOp];simp[Op.equal,Op.maxDepth,Sem.events_bind,PQ 9998]
theorem rh(op:BinOp)(x y:Operand)(xs ys:Array Value)(w:ae)(es:Array Event):(eqGuard op 159 x y (.agg xs) (.agg ys)).events au w es=es:=by
 cases op<;>simp[eqGuard,run_program,Sem.events_bind,show au.eqGuardType au.depth 159=false by kernel_rfl]
section
variable {T:dm} {i:Nat} {V:Nat->ae->Prop} {E:bK} {rc:Nat->Prop} {o:aM} {w:ae}
structure EqI(T:dm)(i:Nat)(rc:Nat->Prop)(o0:aM)(w0:ae)(B A:Nat)(xs ys:List Kz.V)(j:Nat)(a:Act)(o:aM)(w:ae):Prop where
 size:a.tmps.size=26
 df:a.defers=[]
 t0:a.eval (.tmp 0)=.slice (some ⟨B,0,none⟩) xs.length xs.length
 t1:a.eval (.tmp 1)=.slice (some ⟨A,0,none⟩) xs.length xs.length
 t12:a.eval (.tmp 12)=.int .i64 xs.length
 t13:a.eval (.tmp 13)=.int .i64 j
 eq:xs.take j=ys.take j
 lat:cR T i rc o0 w0 o w
theorem VZ(hW:rZ T i)(B A:Nat)(xs ys:List Kz.V)(hlen:xs.length<=100000)(hly:ys.length<=100000)(ga:gA T o w)(hB:Quiet T B)(hx:wW w B 0 xs)(hA:o A)(hy:wW w A 0 ys):
  bz au (XW au T i V E rc) 162 #[.slice (some ⟨B,0,none⟩) xs.length xs.length,.slice (some ⟨A,0,none⟩) ys.length ys.length] o w fun v o' w'=>v=.bool (decide (xs=ys))/\cR T i rc o w o' w':=by
 have W:=cL (P:=au) (T:=T) (i:=i) (V:=V) (E:=E) rc;refine bC W func162 ar ?_;by_cases hl:xs.length=ys.length
 case neg =>
  have dH:¬xs=ys:=fun e=>hl (by rw[e]);have ht:((xs.length:Int) != (ys.length:Int))=true:=dV;refine ax ?_;exact⟨.inr trivial,trivial,_,resultsC_tmp (t:=4) ar _,by simp[Act.eval,dH],.refl ga⟩
 have QX:ys.length=xs.length:=hl.symm;clear hl;refine ax ?_;refine iL W (fun n a o' w'=>∃j,n+j=xs.length/\EqI T i rc o w B A xs ys j a o' w') (N:=xs.length) ⟨0,aj,rfl,rfl,aH,by simp[Act.eval,QX],aH,aH,aj,.refl ga⟩ ?_;rintro n a o1 w1 ⟨j,hnj,fE,kT,t0,t1,t12,t13,heq,wY⟩;obtain⟨tm,df⟩:=a;simp only at fE kT;subst kT;obtain⟨gs,rfl⟩:=kZ fE;simp only[List.range,List.range.loop,aA,aP] at *;simp[Act.eval] at t0 t1 t12 t13;simp only[t0,t1,t12,t13];rcases bg n with hn|hn
 ·have hj:j=xs.length:=aa;subst hj;refine ax ?_;refine⟨.inr trivial,trivial,_,resultsC_tmp (t:=4) ar _,?_,wY⟩;have:xs=ys:=by rw[cS,<- QX,cS] at heq;exact heq
  simp[Act.eval,this]
 ·have hj:j<xs.length:=aa;have hjy:j<ys.length:=aa;have hjI:(j:Int)<(xs.length:Int):=aa;refine ax ?_;have wR:o1 A:=wY.more A hA;refine vd mixed (n:=8) ah [.slice (some ⟨B,0,none⟩) xs.length xs.length,.int .i64 j,.pointer (some ⟨B,j*2,none⟩),.agg #[.bool xs[j].1,.string xs[j].2],.slice (some ⟨A,0,none⟩) xs.length xs.length,.int .i64 j,.pointer (some ⟨A,j*2,none⟩),.agg #[.bool ys[j].1,.string ys[j].2]]
   (S:=fun o w=>o A/\w.cell? ⟨B,j*2,none⟩=some (.bool xs[j].1)/\w.cell? ⟨B,j*2+1,none⟩=some (.string xs[j].2)/\w.cell? ⟨A,j*2,none⟩=some (.bool ys[j].1)/\w.cell? ⟨A,j*2+1,none⟩=some (.string ys[j].2)/\cR T i rc o1 w1 o w) ?_ ?_ ?_
  ·rintro o w w' ⟨h1,h2,h3,h4,h5,h6⟩ hr;exact⟨h1,by rw[hB.cell hr];exact h2,by rw[hB.cell hr];exact h3,by rw[cell_of (hr.own A h1)];exact h4,by rw[cell_of (hr.own A h1)];exact h5,⟨h6.rel.trans (hr.less h6.more),⟨fun b hb=>⟨(h6.ok.vb b hb).1,bw (h6.ok.vb b hb).2 hr.size⟩,aW h6.ok.size hr.size⟩,h6.more⟩⟩
  ·have e1:=hx j hj;have e2:=hy j hjy;rw[bB] at e1 e2;exact⟨wR,by rw[hB.cell wY.rel];exact e1.1,by rw[hB.cell wY.rel];exact e1.2,by rw[cell_of (wY.rel.own A hA)];exact e2.1,by rw[cell_of (wY.rel.own A hA)];exact e2.2,.refl wY.ok⟩
  ·simp only[List.range,List.range.loop];refine cK rfl rfl (kz fun o2 w2 ⟨s1,s2,s3,s4,s5,s6⟩=>⟨by simp[go_sem,Act.eval],fP⟩) ?_;walk_nrm;refine cK rfl rfl (kz fun o2 w2 ⟨s1,s2,s3,s4,s5,s6⟩=>⟨by simp[go_sem,Act.eval],fP⟩) ?_;walk_nrm;refine cK rfl rfl (kz fun o2 w2 ⟨s1,s2,s3,s4,s5,s6⟩=>⟨by simp[go_sem, *],by simp[go_sem, *]⟩) ?_;walk_nrm;refine cK rfl rfl (kz fun o2 w2 ⟨s1,s2,s3,s4,s5,s6⟩=>⟨by simp[go_sem, *],fun e he=>?_⟩) ?_
   ·simp[go_sem, *] at he;rcases he with rfl|rfl<;>exact fC hB
   walk_nrm;refine cK rfl rfl (kz fun o2 w2 ⟨s1,s2,s3,s4,s5,s6⟩=>⟨by simp[go_sem,Act.eval],fP⟩) ?_;walk_nrm;refine cK rfl rfl (kz fun o2 w2 ⟨s1,s2,s3,s4,s5,s6⟩=>⟨by simp[go_sem,Act.eval],fP⟩) ?_;walk_nrm;refine cK rfl rfl (kz fun o2 w2 ⟨s1,s2,s3,s4,s5,s6⟩=>⟨by simp[go_sem, *],by simp[go_sem, *]⟩) ?_;walk_nrm;refine cK rfl rfl (kz fun o2 w2 ⟨s1,s2,s3,s4,s5,s6⟩=>⟨by simp[go_sem, *],fun e he=>?_⟩) ?_
   ·simp[go_sem, *] at he;rcases he with rfl|rfl<;>exact oI s1
   walk_nrm;refine oF fun o2 w2 ⟨s1,s2,s3,s4,s5,s6⟩=>?_;clear s2 s3 s4 s5;have Bp:cR T i rc o w o2 w2:=wY.trans s6;by_cases XC:xs[j]=ys[j]
   ·refine zn W (v:=.bool false) rfl ar (fun w3=>by simp[go_sem,rE,XC]) (fun w3=>by simp[go_sem,vZ,rh]) ?_;refine ax ?_;have uW:IntKind.i64.wrap ((j:Int)+1)=((j+1:Nat):Int):=by rw[IntKind.wrap_i64]<;>omega
    refine⟨n-1,aa,j+1,aa,rfl,rfl,rfl,rfl,rfl,by simp[Act.eval,uW],?_,Bp⟩;rw[take_succ xs j hj,take_succ ys j hjy,heq,XC]
   ·refine zn W (v:=.bool true) rfl ar (fun w3=>?_) (fun w3=>by simp[go_sem,vZ,rh]) ?_
    ·have:xs[j].1=ys[j].1->¬xs[j].2=ys[j].2:=fun h1 h2=>XC (Prod.ext h1 h2);by_cases h1:xs[j].1=ys[j].1
     ·simp[go_sem,rE,this h1]
     ·simp[go_sem,rE,h1]
    refine ax ?_;have dH:¬xs=ys:=fun e=>XC (by subst e;rfl);exact⟨.inr trivial,trivial,_,resultsC_tmp (t:=4) ar _,by simp[Act.eval,dH],Bp⟩
end
end Go.Proofs.Kz
namespace Go.Ren
open Go.Conc Go.ConcN
section
variable {P:Program} {T:dm} {i:Nat} {V:Nat->ae->Prop} {E:bK}
theorem Jk(hT:T.OK)(hi:i<T.n){rc:Nat->Prop}{fn:FuncId}{Q:Exit->Act->aM->ae->Prop}{a:Act}{o:aM}{w:ae}(ga:gA T o w){ops:Array Oper}{j:Nat}{rest:List Nat}{op:Oper}(ho:ops[j]?=some op)(hw:Region.wanted op (yielded ops a.tmps)=true){d:Option Tmp}(hd:op.dst=d)(x:Obj)(f:Nat->Value)(cJ:∀w1,(execOp a.eval op).run P w1=.ok (.value (f w1.heap.size)) (w1.alloc x))(jg:∀w1,(execOp a.eval op).events P w1 #[]=#[])(h:∀A o1 w2,cR T i rc o w o1 w2->o1 A->w2.heap[A]?=some x->w.heap.size<=A->(∀b,o1 b↔o b\/b=A)->eX (XW P T i V E rc) fn ops rest Q (a.put d (f A)) o1 w2):eX (XW P T i V E rc) fn ops (j::rest) Q a o w:=by
 subst hd;refine lB (cL rc) ho hw fun w1 ly K hK=>?_;rw[cJ w1];simp only[uponK_value];refine hK _ _ ⟨⟨E4 _ _ (aW ga.size ly.size) hT,by rw[listed_nil (jg w1)];simp⟩,h w1.heap.size _ _ (cR.alloc hT hi ga ly x) (.inr ⟨ag _,aj⟩) ?_ ly.size fun b=>?_⟩
 ·show(w1.heap.push x)[w1.heap.size]?=_;simp
 ·have:=va o w1 x;exact Iff.of_eq (congrFun this b)
end
end Go.Ren
namespace Go.Proofs.Kz
open Go.Proofs.Tryz
open Go.Proofs.Tryz renaming prog → au
open _root_.ByteArray renaming empty → aO
open Go.Ren Go.Conc Go.Proofs
theorem CI:(au.info? 159).map (fun i=>(i.zero,i.size,i.bytes))=some (some (.agg #[.bool false,.string aO]),2,24):=ah
theorem rF(w:ae)(n:Nat)(hn:n<=100000):(Instr.makeSlice 98 (.int .i64 (n:Int)) (.int .i64 (n:Int))).run au w=.ok (.slice (some ⟨w.heap.size,0,none⟩) n n) (w.alloc (.cells (madeCells #[.bool false,.string aO] (n*2)) 159)):=by
 obtain⟨i,hi,hz⟩:=Option.map_eq_some_iff.1 CI;simp only[bt] at hz;obtain⟨hz,hs,hb⟩:=hz;have:=run_make (P:=au) w 98 159 i _ underlying98 hi hz .i64 .i64 n n aa (fK _) (by rw[hb];omega) aa;rw[this,hs];simp[Value.cells]
theorem Ef(w:ae)(n:Nat)(hn:n<=100000)(es:Array Event):(Instr.makeSlice 98 (.int .i64 (n:Int)) (.int .i64 (n:Int))).events au w es=es:=by
 obtain⟨i,hi,hz⟩:=Option.map_eq_some_iff.1 CI;simp only[bt] at hz;obtain⟨hz,hs,hb⟩:=hz;exact events_make (P:=au) w 98 159 i _ underlying98 hi hz .i64 .i64 n n aa (fK _) (by rw[hb];omega) aa (by rw[hb];simp;omega) es
theorem Jl{w:ae}{A n:Nat}(h:w.heap[A]?=some (.cells (madeCells #[.bool false,.string aO] (n*2)) 159)):eY w A (List.replicate n V0):=by
 refine⟨_,h,by simp[size_madeCells],fun j hj=>?_⟩;simp only[List.length_replicate] at hj;have hV:(List.replicate n V0).getD (j/2) V0=V0:=by simp[List.getD,List.getElem?_replicate];split<;>rfl
 simp only[madeCells,aK,Array.getElem?_range,hj,if_true,aJ,dX,hV];rcases fg j with e|e<;>simp[e]
def Jm(D:mV)(res:Nat->V)(x:Bool×Nat):V:=if x.1 then res x.2 else D.lC.getD x.2 V0
def dT(D:mV)(res:Nat->V)(s:Nat):List V:=(D.ins s).map (Jm D res)
def part(l:List V)(j:Nat):List V:=l.take j++List.replicate (l.length-j) V0
theorem oJ(l:List V)(j:Nat)(h:j<=l.length):(part l j).length=l.length:=by simp[part];omega
theorem Fj(l:List V)(j m:Nat)(h:j<=l.length):(part l j).getD m V0=if m<j then l.getD m V0 else V0:=by
 unfold part;simp only[List.getD_eq_getElem?_getD];by_cases hm:m<j
 ·rw[jH dV,if_pos hm,fD hm]
 ·rw[jm dV,if_neg hm,ki];split<;>rfl
theorem CJ{w:ae}{A n:Nat}{l:List V}{j:Nat}(hj:j<l.length)(hn:n=l.length*2)(h:w.rowIs A 159 n (fun k=>if k=j*2+1 then .string l[j].2 else if k=j*2 then .bool l[j].1 else dX (part l j) k)):eY w A (part l (j+1)):=by
 subst hn;unfold eY;rw[oJ _ _ aa];refine h.congr fun k hk=>?_;simp only[dX];rw[Fj _ _ _ aa,Fj _ _ _ aa];have hl:l.getD j V0=l[j]:=by simp[List.getD_eq_getElem?_getD,hj]
 by_cases e1:k=j*2+1
 ·subst e1;rw[if_pos rfl,if_neg aa,show(j*2+1)/2=j by omega,if_pos aa,hl]
 ·rw[if_neg e1];by_cases e2:k=j*2
  ·subst e2;rw[if_pos rfl,if_pos aa,show j*2/2=j by omega,if_pos aa,hl]
  ·rw[if_neg e2];have:(k/2<j↔k/2<j+1):=aa;by_cases e3:k/2<j
   ·rw[if_pos e3,if_pos (this.1 e3)]
   ·rw[if_neg e3,if_neg (fun h=>e3 (this.2 h))]
section
variable {T:dm} {i:Nat} {V:Nat->ae->Prop} {E:bK} {rc:Nat->Prop} {o:aM} {w:ae} {D:mV} {ord:Nat->Nat}
structure WfI(D:mV)(T:dm)(i:Nat)(rc0:Nat->Prop)(o0:aM)(w0:ae)(A B len:Nat)(l:List Kz.V)(j:Nat)(a:Act)(rc:Nat->Prop)(o:aM)(w:ae):Prop where
 size:a.tmps.size=54
 df:a.defers=[]
 t0:a.eval (.tmp 0)=.pointer (some ⟨D.bn,0,none⟩)
 t5:a.eval (.tmp 5)=.slice (some ⟨A,0,none⟩) len len
 t11:a.eval (.tmp 11)=.slice (some ⟨B,0,none⟩) len len
 t12:a.eval (.tmp 12)=.int .i64 len
 t13:a.eval (.tmp 13)=.int .i64 j
 row:eY w A (part l j)
 own:o A
 anJ:lg D w
 rcs:∀k,rc0 k->rc k
 lat:cR T i rc0 o0 w0 o w
theorem PR(hW:rZ T i)(hD:zC D T ord)(res:Nat->Kz.V)(hV:∀k w,k<T.n->V k w->w.cell? ⟨D.Rb,ord k*4+2,none⟩=some (.bool (res (ord k)).1)/\w.cell? ⟨D.Rb,ord k*4+3,none⟩=some (.string (res (ord k)).2))(ga:gA T o w)(hd:lg D w):
  E6 au T i V E 161 #[.pointer (some ⟨D.bn,0,none⟩),.slice (some ⟨D.cM (ord i),0,none⟩) (D.ins (ord i)).length (D.ins (ord i)).length] rc o w fun v nY o' w'=>∃A,v=.slice (some ⟨A,0,none⟩) (D.ins (ord i)).length (D.ins (ord i)).length/\o' A/\¬o A/\eY w' A (dT D res (ord i))/\(∀k,rc k->nY k)/\cR T i rc o w o' w':=by
 have W:∀rc,fH au false (fun o=>cW T i o rc) (Iy T i rc) (fun o g w=>gO au T i V E ⟨g,o,rc,w⟩):=fun rc=>cL rc;have W1:=W rc;have hs:=hD.qF i hW.i;have ZI:=hD.short _ hs;have hlen:(dT D res (ord i)).length=(D.ins (ord i)).length:=by simp[dT]
 generalize hL:(D.ins (ord i)).length=len at *;refine Gs func161 ar ?_;refine kQ (fJ ?_);refine ax ?_;refine kQ (fJ ?_);refine ax ?_;refine Jk hW.ok hW.i ga rfl ar rfl (.cells (madeCells #[.bool false,.string aO] (len*2)) 159) (fun A=>.slice (some ⟨A,0,none⟩) len len) (fun w1=>by simp[go_sem,rF w1 len aa]) (fun w1=>by simp[go_sem,Ef w1 len aa]) fun A o1 w1 l1 hA II Q5 Gi=>?_;try walk_nrm
 refine ax ?_;refine kQ (kQ (fJ ?_));refine ax ?_;have SI:¬o A:=fun h=>by have:=(ga.vb A h).2;omega
 refine E5 (Sd (fun n a nY o' w'=>∃j,n+j=len/\WfI D T i rc o w A (D.cM (ord i)) len (dT D res (ord i)) j a nY o' w') (N:=len) ⟨0,aj,rfl,rfl,rfl,rfl,rfl,rfl,aH,by have:=Jl II;simpa[part,hlen] using this,hA,hd.later hD l1.rel,fun _ h=>h,l1⟩ ?_);rintro n a uv o2 w2 ⟨j,hnj,fE,kT,t0,t5,t11,t12,t13,cj,IS,UM,yk,wY⟩;clear II Q5 Gi hA l1 w1 o1 W1;have W1:=W uv;obtain⟨tm,df⟩:=a;simp only at fE kT;subst kT;obtain⟨gs,rfl⟩:=kZ fE;simp only[List.range,List.range.loop,aA,aP] at *;simp[Act.eval] at t0 t5 t11 t12 t13;simp only[t0,t5,t11,t12,t13];clear t0 t5 t11 t12 t13 fE;rcases bg n with hn|hn
 ·have hj:j=len:=aa;subst hj;refine kQ (fJ ?_);refine ax ?_;refine kQ (fJ ?_);refine ax ?_;refine fJ ?_;refine ax ?_;refine⟨.inr trivial,trivial,_,resultsC_tmp (t:=4) ar _,A,rfl,IS,SI,?_,yk,wY⟩;have:part (dT D res (ord i)) j=dT D res (ord i):=by simp[part,<- hlen]
  rw[<- this];exact cj
 have hj:j<(D.ins (ord i)).length:=aa;have hjI:(j:Int)<(len:Int):=aa;have UD:j<(dT D res (ord i)).length:=aa;have hv:(dT D res (ord i))[j]=Jm D res (D.ins (ord i))[j]:=by simp[dT]
 have PS:(D.ins (ord i))[j].1=false->(D.ins (ord i))[j].2<D.lC.length:=fun h=>hD.src _ hs _ (by rw[<- h];exact aG hj);have x6:(D.ins (ord i))[j].1=true->∃k,k<T.n/\ord k=(D.ins (ord i))[j].2/\T.dep i k:=fun h=>hD.dep i hW.i _ (by rw[<- h];exact aG hj);have hS:∀w3,cW T i o2 uv w2 w3->w3.cell? ⟨D.cM (ord i),j*2,none⟩=some (.bool (D.ins (ord i))[j].1)/\w3.cell? ⟨D.cM (ord i),j*2+1,none⟩=some (.int .i64 (D.ins (ord i))[j].2):=fun w3 hr=>(UM.later hD hr).CH _ hs j hj;generalize (D.ins (ord i))[j]=q at *;obtain⟨q1,q2⟩:=q;simp only at hS PS x6;refine kQ (fJ ?_);refine ax ?_;refine kQ (fJ ?_);refine ax ?_;refine kQ (E5 (kQ (fJ ?_)));refine ax ?_
 (refine fQ W1 hS rfl ar (fun w9 hc=>⟨.refl _ _,fun e he=>?_⟩) fun w9 hc K hK=>?_;(focus (rw[b8];obtain⟨c0,c1⟩:=hc;have he:=mem_listed he;simp[go_sem, *] at he;rcases he with rfl|rfl<;>exact fC (hD.PO _ hs)));obtain⟨c0,c1⟩:=hc;go_simp;refine hK _ ?_;clear hK K;clear c0 c1 w9;try walk_nrm)
 refine nK hW.ok hW.i wY.ok rfl ar rfl (Obj.cells #[.bool false,.int .i64 0] 280) (fun w1=>fP) (fun w1=>fP) fun C o3 w3 l3 hC hCx hwC ho3=>?_;try walk_nrm
 refine ax ?_;have hCr:w3.rowIs C 280 2 (fun k=>if k=0 then .bool false else .int .i64 0):=⟨_,hCx,rfl,fun k hk=>by
  rcases(show k=0\/k=1 by omega) with rfl|rfl<;>rfl⟩
 have Bp:cR T i rc o w o3 w3:=wY.trans ⟨cW.pq yk l3.rel,l3.ok,l3.more⟩;have hnC:¬o2 C:=fun h=>by have:=(wY.ok.vb C h).2;omega
 have hCA:A≠C:=fun h=>hnC (h▸IS);refine uu hW.ok hW.i l3.ok rfl ar C 0 hC hCr aa (.bool q1) (.int .i64 q2) rfl rfl (fun w1 c0 c1 f=>?_) (fun w1 c0 c1 f=>⟨.plain,.plain,?_⟩) fun w4 l4 hC4=>?_
 ·simp at c0 c1;simp[go_sem,c0,c1,f]
 ·simp at c0 c1;simp[go_sem,c0,c1,f]
 have KT:cR T i uv o2 w2 o3 w4:=(l3.wO.trans l4).later hnC;clear l4 hCr hCx l3;try walk_nrm
 refine ax ?_;refine kQ (fJ ?_);refine ax ?_;have Q8:∀w5,cW T i o3 uv w4 w5->w5.cell? ⟨C,0,none⟩=some (.bool q1):=fun w5 hr=>by rw[cell_of (hr.own C hC)];exact hC4.cell (i:=0) aa
 (refine fQ W1 Q8 rfl ar (fun w9 hc=>⟨.refl _ _,fun e he=>?_⟩) fun w9 hc K hK=>?_;(focus (rw[b8];have he:=mem_listed he;simp[go_sem, *] at he;subst he;exact oI hC));go_simp;refine hK _ ?_;clear hK K;clear hc w9;try walk_nrm)
 refine ax ?_;have vf:o3 A:=KT.more A IS;have NJ:eY w4 A (part (dT D res (ord i)) j):=cj.of_block (KT.rel.own A IS);have hd4:lg D w4:=UM.later hD KT.rel;have NK:cR T i rc o w o3 w4:=wY.trans ⟨cW.pq yk KT.rel,KT.ok,KT.more⟩;have hC1:w4.cell? ⟨C,1,none⟩=some (.int .i64 q2):=hC4.cell (i:=1) aa;clear Q8 hC4 hS cj UM wY Bp KT ho3 hwC hnC;cases q1 with
 |false =>
  refine IK rfl (fun h=>by cases h) fun _=>?_;have hq:=PS rfl;have hqI:(q2:Int)<(D.lC.length:Int):=aa;have Ve:(dT D res (ord i))[j]=D.lC[q2]:=by rw[hv];simp[Jm,List.getD_eq_getElem?_getD,hq]
  refine fJ (vd mixed (n:=11) ah [.slice (some ⟨A,0,none⟩) len len,.int .i64 j,.pointer (some ⟨D.bn,0,none⟩),.pointer (some ⟨D.bn,0,none⟩),.pointer (some ⟨D.bn,1,none⟩),.slice (some ⟨D.Vb,0,none⟩) D.lC.length D.lC.length,.pointer (some ⟨C,1,none⟩),.int .i64 q2,.pointer (some ⟨D.Vb,q2*2,none⟩),.agg #[.bool D.lC[q2].1,.string D.lC[q2].2],.pointer (some ⟨A,j*2,none⟩)]
   (S:=fun o5 w5=>o5=o3/\cR T i uv o3 w4 o5 w5) (fun o5 w5 w6 h hr=>⟨h.1,nL h.2 hr⟩) ⟨rfl,.refl NK.ok⟩ ?_)
  have F1:∀o5 w5,o5=o3/\cR T i uv o3 w4 o5 w5->w5.cell? ⟨D.bn,1,none⟩=some (.slice (some ⟨D.Vb,0,none⟩) D.lC.length D.lC.length):=fun o5 w5 h=>(hd4.later hD h.2.rel).b1;have F2:∀o5 w5,o5=o3/\cR T i uv o3 w4 o5 w5->w5.cell? ⟨C,1,none⟩=some (.int .i64 q2):=fun o5 w5 h=>by rw[cell_of (h.2.rel.own C hC)];exact hC1
  have F3:∀o5 w5,o5=o3/\cR T i uv o3 w4 o5 w5->w5.cell? ⟨D.Vb,q2*2,none⟩=some (.bool D.lC[q2].1)/\w5.cell? ⟨D.Vb,q2*2+1,none⟩=some (.string D.lC[q2].2):=fun o5 w5 h=>by have:=(hd4.later hD h.2.rel).lC q2 hq;simpa using this
  simp only[List.range,List.range.loop]
  iterate 5 refine uo ?_
  (refine cK rfl rfl (kz fun o5 w5 nu=>⟨?_,fun e he=>?_⟩) ?_;(focus (have hF:=F1 o5 w5 nu;simp[go_sem,hF];done));(focus (have hF:=F1 o5 w5 nu;simp[go_sem,hF] at he;subst he;exact fC hD.DL));try walk_nrm)
  refine uo ?_
  (refine cK rfl rfl (kz fun o5 w5 nu=>⟨?_,fun e he=>?_⟩) ?_;(focus (have hF:=F2 o5 w5 nu;simp[go_sem,hF];done));(focus (have hF:=F2 o5 w5 nu;simp[go_sem,hF] at he;subst he;exact oI (nu.1▸hC)));try walk_nrm)
  refine uo ?_
  (refine cK rfl rfl (kz fun o5 w5 nu=>⟨?_,fun e he=>?_⟩) ?_;(focus (have hF:=F3 o5 w5 nu;simp[go_sem,hF.1,hF.2];done));(focus (have hF:=F3 o5 w5 nu;simp[go_sem,hF.1,hF.2] at he;rcases he with rfl|rfl<;>exact fC hD.qVb));try walk_nrm)
  refine uo ?_;refine oF ?_;rintro o5 w5 ⟨rfl,l5⟩;have yl:=NJ.of_block (l5.rel.own A vf);refine uu hW.ok hW.i l5.ok rfl ar A (j*2) vf yl (by rw[oJ _ _ aa];omega) (.bool (dT D res (ord i))[j].1) (.string (dT D res (ord i))[j].2) rfl rfl (fun w1 c0 c1 f=>?_) (fun w1 c0 c1 f=>⟨.plain,.plain,?_⟩) fun w6 l6 PN=>?_
  ·rw[Ve];simp[go_sem,c0,c1,f]
  ·rw[Ve];simp[go_sem,c0,c1,f]
  have Jn:=CJ UD (by rw[oJ _ _ aa]) PN;have NL:cR T i rc o w o5 w6:=((NK.trans ⟨cW.pq yk l5.rel,l5.ok,l5.more⟩).wO.trans ⟨cW.pq yk l6.rel,l6.ok,l6.more⟩).later SI;have hd6:lg D w6:=(hd4.later hD l5.rel).later hD l6.rel;clear l5 l6 PN yl F1 F2 F3;try walk_nrm
  refine ax ?_;refine fJ ?_;refine ax ?_;have uW:IntKind.i64.wrap ((j:Int)+1)=((j+1:Nat):Int):=by rw[IntKind.wrap_i64]<;>omega
  exact⟨n-1,aa,j+1,aa,rfl,rfl,rfl,rfl,rfl,rfl,by simp[Act.eval,uW],Jn,vf,hd6,yk,NL⟩
 |true =>
  refine IK rfl (fun _=>?_) (fun h=>by cases h);obtain⟨k,hk,rfl,Zj⟩:=x6 rfl;have hqn:=hD.qF k hk;have hqI:(ord k:Int)<(D.n:Int):=aa;have Ve:(dT D res (ord i))[j]=res (ord k):=by rw[hv];simp[Jm]
  refine kQ ?_;refine Pt mixed (n:=8) ah [.pointer (some ⟨D.bn,0,none⟩),.pointer (some ⟨D.bn,0,none⟩),.pointer (some ⟨D.bn,4,none⟩),.slice (some ⟨D.Mb,0,none⟩) D.n D.n,.pointer (some ⟨C,1,none⟩),.int .i64 (ord k),.pointer (some ⟨D.Mb,ord k,none⟩),.chan (some (D.ch (ord k)))]
   (S:=fun w5=>cR T i uv o3 w4 o3 w5) (fun w5 w6 h hr=>nL h hr) (.refl NK.ok) ?_
  have F1:∀w5,cR T i uv o3 w4 o3 w5->w5.cell? ⟨D.bn,4,none⟩=some (.slice (some ⟨D.Mb,0,none⟩) D.n D.n):=fun w5 h=>(hd4.later hD h.rel).b4;have F2:∀w5,cR T i uv o3 w4 o3 w5->w5.cell? ⟨C,1,none⟩=some (.int .i64 (ord k)):=fun w5 h=>by rw[cell_of (h.rel.own C hC)];exact hC1
  have F3:∀w5,cR T i uv o3 w4 o3 w5->w5.cell? ⟨D.Mb,ord k,none⟩=some (.chan (some (D.ch (ord k)))):=fun w5 h=>(hd4.later hD h.rel).made _ hqn;simp only[List.range,List.range.loop]
  iterate 3 refine Su ?_
  (refine cK rfl rfl (fun w5 nu=>⟨?_,fun e he=>?_⟩) ?_;(focus (have hF:=F1 w5 nu;simp[go_sem,hF];done));(focus (have hF:=F1 w5 nu;simp[go_sem,hF] at he;subst he;exact fC hD.DL));try walk_nrm)
  refine Su ?_
  (refine cK rfl rfl (fun w5 nu=>⟨?_,fun e he=>?_⟩) ?_;(focus (have hF:=F2 w5 nu;simp[go_sem,hF];done));(focus (have hF:=F2 w5 nu;simp[go_sem,hF] at he;subst he;exact oI hC));try walk_nrm)
  refine Su ?_
  (refine cK rfl rfl (fun w5 nu=>⟨?_,fun e he=>?_⟩) ?_;(focus (have hF:=F3 w5 nu;simp[go_sem,hF];done));(focus (have hF:=F3 w5 nu;simp[go_sem,hF] at he;subst he;exact fC hD.qMb));try walk_nrm)
  refine oF fun w5 l5=>?_;refine Pr (k:=k) (z:=.agg #[]) (f:=false) rfl ar Zj (fun w1=>?_) (fun w1=>fP) rfl fun w6 PN hVk=>?_
  ·rw[hD.ch k hk];simp[go_sem,rcase]
  have l6:cR T i uv o3 w4 o3 w6:=nL l5 PN;clear l5 PN w5 F1 F2 F3;obtain⟨hV1,hV2⟩:=hV k w6 hk hVk;have SK:∀b,rc b->uv b\/b=k:=fun b hb=>.inl (yk b hb);have W3:=W (fun b=>uv b\/b=k);have hd6:lg D w6:=hd4.later hD l6.rel;have Jn:=NJ.of_block (l6.rel.own A vf);have NL:cR T i rc o w o3 w6:=NK.trans ⟨cW.pq yk l6.rel,l6.ok,l6.more⟩;have hC6:w6.cell? ⟨C,1,none⟩=some (.int .i64 (ord k)):=by rw[cell_of (l6.rel.own C hC)];exact hC1
  refine xZ ?_;refine ax ?_;refine fJ (vd mixed (n:=12) ah [.slice (some ⟨A,0,none⟩) len len,.int .i64 j,.pointer (some ⟨D.bn,0,none⟩),.pointer (some ⟨D.bn,0,none⟩),.pointer (some ⟨D.bn,2,none⟩),.slice (some ⟨D.Rb,0,none⟩) D.n D.n,.pointer (some ⟨C,1,none⟩),.int .i64 (ord k),.pointer (some ⟨D.Rb,ord k*4,none⟩),.pointer (some ⟨D.Rb,ord k*4+2,none⟩),.agg #[.bool (res (ord k)).1,.string (res (ord k)).2],.pointer (some ⟨A,j*2,none⟩)]
   (S:=fun o5 w5=>o5=o3/\cR T i (fun b=>uv b\/b=k) o3 w6 o5 w5) (fun o5 w5 w6 h hr=>⟨h.1,nL h.2 hr⟩) ⟨rfl,.refl NL.ok⟩ ?_)
  have fq:∀m,m<4->T.jW k (.cell ⟨D.Rb,ord k*4+m,none⟩):=fun m hm=>(hD.own k _).2 ⟨hk,.inl ⟨m,hm,rfl⟩⟩;have F1:∀o5 w5,o5=o3/\cR T i (fun b=>uv b\/b=k) o3 w6 o5 w5->w5.cell? ⟨D.bn,2,none⟩=some (.slice (some ⟨D.Rb,0,none⟩) D.n D.n):=fun o5 w5 h=>(hd6.later hD h.2.rel).b2;have F2:∀o5 w5,o5=o3/\cR T i (fun b=>uv b\/b=k) o3 w6 o5 w5->w5.cell? ⟨C,1,none⟩=some (.int .i64 (ord k)):=fun o5 w5 h=>by rw[cell_of (h.2.rel.own C hC)];exact hC6
  have F3:∀o5 w5,o5=o3/\cR T i (fun b=>uv b\/b=k) o3 w6 o5 w5->w5.cell? ⟨D.Rb,ord k*4+2,none⟩=some (.bool (res (ord k)).1)/\w5.cell? ⟨D.Rb,ord k*4+2+1,none⟩=some (.string (res (ord k)).2):=fun o5 w5 h =>
   ⟨by rw[h.2.rel.mine _ (.inr ⟨k,.inr rfl,fq 2 aa⟩)];exact hV1,by rw[h.2.rel.mine ⟨D.Rb,ord k*4+3,none⟩ (.inr ⟨k,.inr rfl,fq 3 aa⟩)];exact hV2⟩
  simp only[List.range,List.range.loop]
  iterate 5 refine uo ?_
  (refine cK rfl rfl (kz fun o5 w5 nu=>⟨?_,fun e he=>?_⟩) ?_;(focus (have hF:=F1 o5 w5 nu;simp[go_sem,hF];done));(focus (have hF:=F1 o5 w5 nu;simp[go_sem,hF] at he;subst he;exact fC hD.DL));try walk_nrm)
  refine uo ?_
  (refine cK rfl rfl (kz fun o5 w5 nu=>⟨?_,fun e he=>?_⟩) ?_;(focus (have hF:=F2 o5 w5 nu;simp[go_sem,hF];done));(focus (have hF:=F2 o5 w5 nu;simp[go_sem,hF] at he;subst he;exact oI (nu.1▸hC)));try walk_nrm)
  refine uo ?_;refine uo ?_
  (refine cK rfl rfl (kz fun o5 w5 nu=>⟨?_,fun e he=>?_⟩) ?_;(focus (have hF:=F3 o5 w5 nu;simp[go_sem,hF.1,hF.2];done));(focus (have hF:=F3 o5 w5 nu;simp[go_sem,hF.1,hF.2] at he;rcases he with rfl|rfl<;>(first|exact uq (.inr (.inr (.inl ⟨k,.inr rfl,fq 2 aa⟩)))|exact uq (.inr (.inr (.inl ⟨k,.inr rfl,fq 3 aa⟩))))));try walk_nrm)
  refine uo ?_;refine oF ?_;rintro o5 w5 ⟨rfl,l5⟩;have yl:=Jn.of_block (l5.rel.own A vf);refine uu hW.ok hW.i l5.ok rfl ar A (j*2) vf yl (by rw[oJ _ _ aa];omega) (.bool (dT D res (ord i))[j].1) (.string (dT D res (ord i))[j].2) rfl rfl (fun w1 c0 c1 f=>?_) (fun w1 c0 c1 f=>⟨.plain,.plain,?_⟩) fun w7 l7 hr7=>?_
  ·rw[Ve];simp[go_sem,c0,c1,f]
  ·rw[Ve];simp[go_sem,c0,c1,f]
  have SL:=CJ UD (by rw[oJ _ _ aa]) hr7;have ac0:cR T i rc o w o5 w7:=((NL.trans ⟨cW.pq SK l5.rel,l5.ok,l5.more⟩).wO.trans ⟨cW.pq SK l7.rel,l7.ok,l7.more⟩).later SI;have hd7:lg D w7:=(hd6.later hD l5.rel).later hD l7.rel;clear l5 l7 hr7 yl F1 F2 F3;try walk_nrm
  refine ax ?_;refine fJ ?_;refine ax ?_;have uW:IntKind.i64.wrap ((j:Int)+1)=((j+1:Nat):Int):=by rw[IntKind.wrap_i64]<;>omega
  exact⟨n-1,aa,j+1,aa,rfl,rfl,rfl,rfl,rfl,rfl,by simp[Act.eval,uW],SL,vf,hd7,SK,ac0⟩
end
end Go.Proofs.Kz
namespace Go.Ren
open Go.Conc Go.ConcN
section
variable {P:Program} {main:Bool} {b:Frame} {a:Act} {k:List Item} {cs:List Frame} {w:ae}
theorem ym{ops:Array Oper}{i:Nat}{rest:List Nat}{o:Oper}{d:Deferred}(ho:ops[i]?=some o)(hw:Region.wanted o (yielded ops a.tmps)=true)(hk:b.kind≠.early)(hr:(execOp a.eval o).run P w=.ok (.defer d) w)(he:(execOp a.eval o).events P w #[]=#[]):
  stepG P main (G (b.at a (.inRegion ops (i::rest)::k)) cs) w=.go (G (b.at (Act.put ⟨a.tmps,d::a.defers⟩ o.dst undef) (.inRegion ops rest::k)) cs) w #[]:=by
 have BY:(b.at ⟨a.tmps,d::a.defers⟩ (.inRegion ops (i::rest)::k)).finish undef=b.at (Act.put ⟨a.tmps,d::a.defers⟩ o.dst undef) (.inRegion ops rest::k):=by rw[ee,ho];rfl
 have lP:(b.kind==CallKind.early)=false:=by simpa using hk
 rw[stepG_oper ho hw,<- BY];simp[stepG.apply,hr,he,G,Frame.at,lP,GStep.after,seen_none]
end
section
variable {P:Program} {m:Bool} {R:aM->ae->ae->Prop} {Gu:aM->ae->ae->Array Event->Prop} {X:aM->aX->ae->Prop} {fn:FuncId} {Q:Exit->Act->aM->ae->Prop} {a:Act} {o:aM} {w:ae}
theorem mh(W:fH P m R Gu X){ops:Array Oper}{i:Nat}{rest:List Nat}{op:Oper}{d:Deferred}(ho:ops[i]?=some op)(hw:Region.wanted op (yielded ops a.tmps)=true)(hr:∀w1,(execOp a.eval op).run P w1=.ok (.defer d) w1)(he:∀w1,(execOp a.eval op).events P w1 #[]=#[]){dd:Option Tmp}(hd:op.dst=dd)(h:eX X fn ops rest Q (Act.put ⟨a.tmps,d::a.defers⟩ dd undef) o w):eX X fn ops (i::rest) Q a o w:=by
 subst hd;exact fun b k cs hb hk hc=>W.go rfl (fun w1=>ym ho hw hk (hr w1) (he w1)) (h b k cs hb hk hc)
end
section
variable {P:Program} {T:dm} {i:Nat} {V:Nat->ae->Prop} {E:bK} {rc o:Nat->Prop} {w w':ae}
structure mi(T:dm)(i B:Nat)(w w':ae):Prop where
 size:w'.heap.size=w.heap.size
 heap:∀b,b≠B->w'.heap[b]?=w.heap[b]?
 shape:∀cs ty fz,w.heap[B]?=some (.cells cs ty fz)->∃tx,w'.heap[B]?=some (.cells tx ty fz)/\tx.size=cs.size
 cells:∀a:Addr,a.block=B->¬T.jW i (.cell a)->w'.cell? a=w.cell? a
 os:w'.os=w.os
 output:w'.output=w.output
theorem mi.set(w:ae){B off:Nat}(v:Value)(h:T.jW i (.cell ⟨B,off,none⟩)):mi T i B w (w.setCell ⟨B,off,none⟩ v):=by
 refine⟨by simp[World.setCell],fun b hb=>RowKit.Below.heap_setCell w _ _ b hb,fun cs ty fz hx=>?_,fun a ha hn=>World.cell?_setCell_other _ _ _ _ fun e=>hn (e▸h),rfl,rfl⟩;refine⟨cs.setIfInBounds off v,?_,aj⟩;simp[World.setCell,aR,hx]
theorem mi.trans{B:Nat}{w1 w2:ae}(h:mi T i B w w1)(k:mi T i B w1 w2):mi T i B w w2:=by
 refine⟨k.size.trans h.size,fun b hb=>(k.heap b hb).trans (h.heap b hb),fun cs ty fz hx=>?_,fun a ha hn=>(k.cells a ha hn).trans (h.cells a ha hn),k.os.trans h.os,k.output.trans h.output⟩;obtain⟨c1,e1,e2⟩:=h.shape cs ty fz hx;obtain⟨c2,e3,e4⟩:=k.shape c1 ty fz e1;exact⟨c2,e3,e4.trans e2⟩
theorem mi.guW{B:Nat}(h:mi T i B w w')(hB:T.Sh B):Lr T i o w w':=by
 refine⟨bG h.size.symm,fun b _ _ hb=>h.heap b fun e=>hb (e▸hB),fun b cs ty fz hb hx=>?_,fun a ha hn=>?_,h.os,h.output⟩
 ·by_cases e:b=B
  ·subst e;exact h.shape cs ty fz hx
  ·exact⟨cs,by rw[h.heap b e];exact hx,rfl⟩
 ·by_cases e:a.block=B
  ·exact h.cells a e hn
  ·exact cell_of (h.heap _ e)
theorem uw{ad:Addr}{wt sy:Bool}(h:T.jW i (.cell ad)):Np T i o rc ⟨.cell ad,wt,sy⟩:=by
 refine⟨fun x hx _=>.inr (.inl ?_),aj,aj,aj⟩;simp only[MemAct.ofEvent,MemAct.touch?,ay] at hx;subst hx;exact h
theorem Au{fn:FuncId}{Q:Exit->Act->aM->ae->Prop}{a:Act}{ops:Array Oper}{j:Nat}{rest:List Nat}{op:Oper}(ho:ops[j]?=some op)(hw:Region.wanted op (yielded ops a.tmps)=true)(B:Nat)(hB:T.Sh B){f:ae->ae}(cJ:∀w1,cW T i o rc w w1->(execOp a.eval op).run P w1=.ok .skip (f w1))(hf:∀w1,mi T i B w1 (f w1))(jg:∀w1,cW T i o rc w w1->∀e∈(execOp a.eval op).events P w1 #[],∃ad wt sy,e=⟨.cell ad,wt,sy⟩/\T.jW i (.cell ad)){d:Option Tmp}(hd:op.dst=d)(h:∀w1,cW T i o rc w w1->mi T i B w1 (f w1)->eX (XW P T i V E rc) fn ops rest Q (a.put d undef) o (f w1)):eX (XW P T i V E rc) fn ops (j::rest) Q a o w:=by
 subst hd;refine lB (cL rc) ho hw fun w1 ly K hK=>?_;rw[cJ w1 ly];simp only[uponK_skip];refine hK _ _ ⟨⟨(hf w1).guW hB,fun e he=>?_⟩,?_⟩
 ·obtain⟨ad,wt,sy,rfl,e2⟩:=jg w1 ly e (mem_listed he);exact uw e2
 ·rw[kH o (hf w1).size];exact h w1 ly (hf w1)
theorem gO.close{b:Frame}{a:Act}{cs:List Frame}{todo:List Item}{ds:List Deferred}{sA:Array TypeId}{ty:TypeId}{cns:Array Bool}(hd:a.defers={target:=.builtin .close sA ty cns,args:=#[.chan (some (T.ch i))]}::ds)(hq:(P.funcs[b.fn]?).any (·.norace)=false)(h:∀w1,cW T i o rc w w1->∀s r tm,w1.heap[T.ch i]?=some (.chan 0 #[] false s r tm)->V i w1/\E o (G {b.at ⟨a.tmps,ds⟩ todo with mode:=.returning} cs) (w1.setChan (T.ch i) 0 #[] true s r tm)):
  XW P T i V E rc o (G {b.at a todo with mode:=.returning} cs) w :=
 gO.intro ⟨rfl,.inr (.inr ⟨rfl,fun w1 hr s r tm hc=>⟨_,wQ hd hc hq,rfl,(h w1 hr s r tm hc).1,(h w1 hr s r tm hc).2⟩⟩)⟩
end
section
variable {P:Program} {T:dm} {i:Nat} {V:Nat->ae->Prop} {E:bK} {fn:FuncId} {Q:xX} {a:Act} {rc:Nat->Prop} {o:aM} {w:ae}
theorem PT{ops:Array Oper}{todo:List Nat}{w1:ae}(h:vE P T i V E fn ops todo Q a rc o w)(hr:cW T i o rc w w1):vE P T i V E fn ops todo Q a rc o w1:=fun b k cs hb hk hc=>gO.rely (h b k cs hb hk hc) hr
theorem PU{ops:Array Oper}{j:Nat}{rest:List Nat}{op:Oper}(ho:ops[j]?=some op)(hw:Region.wanted op (yielded ops a.tmps)=true)(h:∀w1,cW T i o rc w w1->∀K:Act->ae->Prop,(∀a' w',Iy T i rc o w1 w' (listed P fn a op w1)/\vE P T i V E fn ops rest Q a' rc (grow o w1 w') w'->K a' w')->uponK op a K ((execOp a.eval op).run P w1)):vE P T i V E fn ops (j::rest) Q a rc o w:=by
 intro b k cs hb hk hc;refine(cL rc).step o _ w rfl fun w1 h1=>?_;have:=h w1 h1 _ fun _ _ x=>x;revert this;cases hr:(execOp a.eval op).run P w1 with
 |ok x w' =>
  cases x with
  |value v=>intro q;simp only[uponK_value] at q;exact⟨_,_,_,eH ho hw hk hr,hb▸q.1,q.2 b k cs hb hk hc⟩
  |skip=>intro q;simp only[uponK_skip] at q;exact⟨_,_,_,jN ho hw hk hr,hb▸q.1,q.2 b k cs hb hk hc⟩
  |_=>intro q;exact q.elim
 |halt _ _=>intro q;exact q.elim
theorem pM{S:ae->Prop}(hS:∀w1,cW T i o rc w w1->S w1){ops:Array Oper}{j:Nat}{rest:List Nat}{op:Oper}(ho:ops[j]?=some op)(hw:Region.wanted op (yielded ops a.tmps)=true)(hg:∀w1,S w1->Iy T i rc o w1 w1 (listed P fn a op w1))(h:∀w1,S w1->∀K:Act->ae->Prop,(∀a',vE P T i V E fn ops rest Q a' rc o w->K a' w1)->uponK op a K ((execOp a.eval op).run P w1)):vE P T i V E fn ops (j::rest) Q a rc o w :=
 PU ho hw fun w1 h1 K hK=>h w1 (hS w1 h1) K fun a' q=>hK a' w1 ⟨hg w1 (hS w1 h1),by rw[b8];exact PT q h1⟩
theorem uy{ops:Array Oper}{j:Nat}{rest:List Nat}{op:Oper}(ho:ops[j]?=some op)(_hn:Gr op.op=true)(hw:Region.wanted op (yielded ops a.tmps)=true)(hg:∀w1,(execOp a.eval op).events P w1 #[]=#[])(h:∀w1,∀K:Act->ae->Prop,(∀a',vE P T i V E fn ops rest Q a' rc o w->K a' w1)->uponK op a K ((execOp a.eval op).run P w1)):vE P T i V E fn ops (j::rest) Q a rc o w :=
 pM (S:=fun _=>True) (fun _ _=>trivial) ho hw (fun w1 _=>by rw[listed_nil (hg w1)];exact(cL (P:=P) (V:=V) (E:=E) rc).idle _ _) (fun w1 _=>h w1)
end
end Go.Ren
namespace Go.Proofs.Kz
open Go.Proofs.Tryz
open Go.Proofs.Tryz renaming prog → au
open _root_.ByteArray renaming empty → aO
open Go.Ren Go.Conc Go.Proofs
def vI(w:ae)(B:Nat):Prop:=∃c t,w.heap[B]?=some (.cells c t (0,0))
theorem vI.frozen{w:ae}{B:Nat}(h:vI w B)(off:Nat):w.frozen? ⟨B,off,none⟩=false:=by
 obtain⟨c,t,h⟩:=h;simp[World.frozen?,h]
theorem vI.later{w w1:ae}{B:Nat}{T:dm}{i:Nat}{o rc:Nat->Prop}(h:vI w B)(hB:T.Sh B)(hr:cW T i o rc w w1):vI w1 B:=by
 obtain⟨c,t,h⟩:=h;obtain⟨c1,h1,_⟩:=hr.sh B c t _ hB h;exact⟨c1,t,h1⟩
theorem Jo(w:ae)(a:Addr)(v u:Value)(h:w.cell? a=some u):(w.setCell a v).cell? a=some v:=World.cell?_setCell_same _ _ _ h
theorem ac1{P:Program}{w:ae}{B off:Nat}{x0 x1 x2 x3:Value}(v0 v1 v2 v3:Value)(h0:w.cell? ⟨B,off,none⟩=some x0)(h1:w.cell? ⟨B,off+1,none⟩=some x1)(h2:w.cell? ⟨B,off+2,none⟩=some x2)(h3:w.cell? ⟨B,off+3,none⟩=some x3)(hf:∀k,w.frozen? ⟨B,k,none⟩=false)(o0:v0.oneCell'=true)(o1:v1.oneCell'=true)(o2:v2.oneCell'=true)(o3:v3.oneCell'=true):
  ((((w.setCell ⟨B,off,none⟩ v0).setCell ⟨B,off+1,none⟩ v1).setCell ⟨B,off+2,none⟩ v2).setCell ⟨B,off+3,none⟩ v3).cell? ⟨B,off,none⟩=some v0 /\
  ((((w.setCell ⟨B,off,none⟩ v0).setCell ⟨B,off+1,none⟩ v1).setCell ⟨B,off+2,none⟩ v2).setCell ⟨B,off+3,none⟩ v3).cell? ⟨B,off+1,none⟩=some v1 /\
  ((((w.setCell ⟨B,off,none⟩ v0).setCell ⟨B,off+1,none⟩ v1).setCell ⟨B,off+2,none⟩ v2).setCell ⟨B,off+3,none⟩ v3).cell? ⟨B,off+2,none⟩=some v2 /\
  ((((w.setCell ⟨B,off,none⟩ v0).setCell ⟨B,off+1,none⟩ v1).setCell ⟨B,off+2,none⟩ v2).setCell ⟨B,off+3,none⟩ v3).cell? ⟨B,off+3,none⟩=some v3 /\
  (∀m (e:Event),e∈(store ⟨B,off+3,none⟩ v3 m).events P (((w.setCell ⟨B,off,none⟩ v0).setCell ⟨B,off+1,none⟩ v1).setCell ⟨B,off+2,none⟩ v2) ((store ⟨B,off+2,none⟩ v2 m).events P ((w.setCell ⟨B,off,none⟩ v0).setCell ⟨B,off+1,none⟩ v1) ((store ⟨B,off+1,none⟩ v1 m).events P (w.setCell ⟨B,off,none⟩ v0) ((store ⟨B,off,none⟩ v0 m).events P w #[])))->∃j wt sy,j<4/\e=⟨.cell ⟨B,off+j,none⟩,wt,sy⟩):=by
 have key:∀(w:ae) (a:Addr) (v u:Value),w.cell? a=some u->(w.setCell a v).cell? a=some v:=Jo;have Ly:∀(w:ae) (i j:Nat) (v:Value),i≠j->(w.setCell ⟨B,i,none⟩ v).cell? ⟨B,j,none⟩=w.cell? ⟨B,j,none⟩:=fun w i j v h=>World.cell?_setCell_other _ _ _ _ (by simp[h]);have fr:∀(w:ae) (i:Nat) (v:Value),(∀k,w.frozen? ⟨B,k,none⟩=false)->∀k,(w.setCell ⟨B,i,none⟩ v).frozen? ⟨B,k,none⟩=false:=fun w i v h k=>by simpa using h k
 have a1:(w.setCell ⟨B,off,none⟩ v0).cell? ⟨B,off+1,none⟩=some x1:=by rw[Ly _ _ _ _ aa];exact h1
 have a2:((w.setCell ⟨B,off,none⟩ v0).setCell ⟨B,off+1,none⟩ v1).cell? ⟨B,off+2,none⟩=some x2:=by rw[Ly _ _ _ _ aa,Ly _ _ _ _ aa];exact h2
 have a3:(((w.setCell ⟨B,off,none⟩ v0).setCell ⟨B,off+1,none⟩ v1).setCell ⟨B,off+2,none⟩ v2).cell? ⟨B,off+3,none⟩=some x3:=by rw[Ly _ _ _ _ aa,Ly _ _ _ _ aa,Ly _ _ _ _ aa];exact h3
 refine⟨?_,?_,?_,key _ _ _ _ a3,fun m e he=>?_⟩
 ·rw[Ly _ _ _ _ aa,Ly _ _ _ _ aa,Ly _ _ _ _ aa];exact key _ _ _ _ h0
 ·rw[Ly _ _ _ _ aa,Ly _ _ _ _ aa];exact key _ _ _ _ a1
 ·rw[Ly _ _ _ _ aa];exact key _ _ _ _ a2
 ·rw[cV _ _ h0 (hf _) o0,cV _ _ a1 (fr _ _ _ hf _) o1,cV _ _ a2 (fr _ _ _ (fr _ _ _ hf) _) o2,cV _ _ a3 (fr _ _ _ (fr _ _ _ (fr _ _ _ hf)) _) o3] at he;simp at he;rcases he with rfl|rfl|rfl|rfl
  ·exact⟨0,_,_,aa,rfl⟩
  ·exact⟨1,_,_,aa,rfl⟩
  ·exact⟨2,_,_,aa,rfl⟩
  ·exact⟨3,_,_,aa,rfl⟩
structure wb(D:mV)(s:Nat)(w:ae)(B:Nat)(vs:List V)(m:V):Prop where
 c0:w.cell? ⟨D.Rb,s*4,none⟩=some (.bool true)
 c1:w.cell? ⟨D.Rb,s*4+1,none⟩=some (.slice (some ⟨B,0,none⟩) vs.length vs.length)
 c2:w.cell? ⟨D.Rb,s*4+2,none⟩=some (.bool m.1)
 c3:w.cell? ⟨D.Rb,s*4+3,none⟩=some (.string m.2)
structure NN(D:mV)(s:Nat)(w:ae):Prop where
 c0:w.cell? ⟨D.Rb,s*4,none⟩=some (.bool false)
 c1:w.cell? ⟨D.Rb,s*4+1,none⟩=some (.slice none 0 0)
 c2:w.cell? ⟨D.Rb,s*4+2,none⟩=some (.bool false)
 c3:w.cell? ⟨D.Rb,s*4+3,none⟩=some (.string aO)
def GD(D:mV)(T:dm)(s:Nat)(old:Option (Nat×List V))(w:ae):Prop :=
 match old with
 |none=>NN D s w
 |some (B,vs)=>wb D s w B vs (iX (D.jQ s) vs)/\wW w B 0 vs/\Quiet T B/\vs.length<=100000
def nN(D:mV)(s:Nat)(old:Option (Nat×List V))(ins:List V)(m:V)(o:Nat->Prop)(w:ae):Prop :=
 (∃B,old=some (B,ins)/\wb D s w B ins m/\w.cell? ⟨D.Nb,s,none⟩=some (.bool false)) \/
 ((∀B,old≠some (B,ins))/\∃A,o A/\eY w A ins/\wb D s w A ins m/\w.cell? ⟨D.Nb,s,none⟩=some (.bool true))
theorem nN.made{D:mV}{s:Nat}{old:Option (Nat×List V)}{ins:List V}{m:V}{o:Nat->Prop}{w:ae}(h:nN D s old ins m o w):w.cell? ⟨D.Rb,s*4+2,none⟩=some (.bool m.1)/\w.cell? ⟨D.Rb,s*4+3,none⟩=some (.string m.2):=by
 rcases h with⟨B,_,h,_⟩|⟨_,A,_,_,h,_⟩<;>exact⟨h.c2,h.c3⟩
theorem nN.of{D:mV}{s:Nat}{old:Option (Nat×List V)}{ins:List V}{m:V}{o o':Nat->Prop}{w w':ae}(h:nN D s old ins m o w)(hR:∀j,j<4->w'.cell? ⟨D.Rb,s*4+j,none⟩=w.cell? ⟨D.Rb,s*4+j,none⟩)(hN:w'.cell? ⟨D.Nb,s,none⟩=w.cell? ⟨D.Nb,s,none⟩)(ho:∀b,o b->o' b/\w'.heap[b]?=w.heap[b]?):nN D s old ins m o' w':=by
 have hr:∀{B},wb D s w B ins m->wb D s w' B ins m:=fun h=>⟨(hR 0 aa).trans h.c0,(hR 1 aa).trans h.c1,(hR 2 aa).trans h.c2,(hR 3 aa).trans h.c3⟩;rcases h with⟨B,h1,h2,h3⟩|⟨h1,A,h2,h3,h4,h5⟩
 ·exact .inl ⟨B,h1,hr h2,hN.trans h3⟩
 ·exact .inr ⟨h1,A,(ho A h2).1,h3.of_block (ho A h2).2,hr h4,hN.trans h5⟩
theorem GD.some{D:mV}{T:dm}{s:Nat}{old:Option (Nat×List V)}{w:ae}(h:GD D T s old w):∃x0 x1 x2 x3,w.cell? ⟨D.Rb,s*4,none⟩=some x0/\w.cell? ⟨D.Rb,s*4+1,none⟩=some x1/\w.cell? ⟨D.Rb,s*4+2,none⟩=some x2/\w.cell? ⟨D.Rb,s*4+3,none⟩=some x3:=by
 cases old with
 |none=>exact⟨_,_,_,_,h.c0,h.c1,h.c2,h.c3⟩
 |some x=>exact⟨_,_,_,_,h.1.c0,h.1.c1,h.1.c2,h.1.c3⟩
section
variable {T:dm} {i:Nat} {V:Nat->ae->Prop} {E:bK} {rc:Nat->Prop} {o:aM} {w:ae}
theorem ZJ(hW:rZ T i)(hq:Quiet T 1)(r:Int)(hr:1<=r/\r<=5)(b:Nat)(vs:List Kz.V)(hn:vs.length<=100000)(hm:jl (vs.map (·.2))<=1000000)(ga:gA T o w)(hb:o b)(ht:eY w b vs)(hp:iW w):
  bz au (XW au T i V E rc) 163 #[.int .i64 r,.slice (some ⟨b,0,none⟩) vs.length vs.length] o w fun v o' w'=>v=.agg #[.bool (iX r vs).1,.string (iX r vs).2]/\cR T i rc o w o' w':=by
 by_cases h5:r=5
 ·subst h5;exact L5 hW hq b vs hn ga hb ht hp
 ·by_cases hc:cnt vs<vs.length
  ·exact L6 hW hq r aa b vs hn hm hc ga hb ht hp
  ·exact SJ hW hq r aa b vs hn hm hc ga hb ht hp
end
section
variable {T:dm} {i:Nat} {V:Nat->ae->Prop} {E:bK} {rc:Nat->Prop} {o:aM} {w:ae} {D:mV} {ord:Nat->Nat}
theorem ZK(hW:rZ T i)(SB:Quiet T 1)(hD:zC D T ord)(res:Nat->Kz.V)(hV:∀k w,k<T.n->V k w->w.cell? ⟨D.Rb,ord k*4+2,none⟩=some (.bool (res (ord k)).1)/\w.cell? ⟨D.Rb,ord k*4+3,none⟩=some (.string (res (ord k)).2))(ga:gA T o w)(hd:lg D w)(hp:iW w)(wM:res (ord i)=iX (D.jQ (ord i)) (dT D res (ord i)))(SM:1<=D.jQ (ord i)/\D.jQ (ord i)<=5)(qX:jl ((dT D res (ord i)).map (·.2))<=1000000)(old:Option (Nat×List Kz.V))(hold:GD D T (ord i) old w)(V2:w.cell? ⟨D.Nb,ord i,none⟩=some (.bool false))(SN:vI w D.Rb)(ZL:vI w D.Nb)(c:Frame)(cs:List Frame)(SO:∀nY o' w' (tm:Array Value) (todo:List Item),(∀b,o b->o' b)->(∀b,o' b->T.H0<=b)->(∀b,o b->w'.heap[b]?=w.heap[b]?)->(Go.ConcN.WgLive T.ty T.Wg w->Go.ConcN.WgLive T.ty T.Wg w')->nN D (ord i) old (dT D res (ord i)) (res (ord i)) (fun b=>o' b/\¬o b) w'->∀w1,cW T i o' nY w' w1->∀s r t,w1.heap[T.ch i]?=some (.chan 0 #[] false s r t) ->
   V i w1/\E o' (G {(base 116).at ⟨tm,[]⟩ todo with mode:=.returning} (c::cs)) (w1.setChan (T.ch i) 0 #[] true s r t)):
  XW au T i V E rc o (G (Frame.enter au 116 #[.pointer (some ⟨D.bn,0,none⟩),.int .i64 (ord i)] .normal) (c::cs)) w:=by
 have W:∀rc,fH au false (fun o=>cW T i o rc) (Iy T i rc) (fun o g w=>gO au T i V E ⟨g,o,rc,w⟩):=fun rc=>cL rc;have W1:=W rc;have hs:=hD.qF i hW.i;have hsI:(ord i:Int)<(D.n:Int):=aa;have ZI:=hD.short _ hs;have vC:=hD.ch i hW.i;have fq:∀j,j<4->T.jW i (.cell ⟨D.Rb,ord i*4+j,none⟩):=fun j hj=>(hD.own i _).2 ⟨hW.i,.inl ⟨j,hj,rfl⟩⟩;have CK:T.jW i (.cell ⟨D.Nb,ord i,none⟩):=(hD.own i _).2 ⟨hW.i,.inr rfl⟩;rw[iN func116 rfl];refine kQ (P:=au) (fn:=116) (T:=T) (i:=i) (V:=V) (E:=E) (Q:=fun e a' nY o' w'=>(e=.normal\/e=.ret)/\a'.defers=[{target:=.builtin .close #[207] 0 #[false],args:=#[.chan (some (D.ch (ord i)))]}]/\(∀b,o b->o' b)/\(∀b,o' b->T.H0<=b)/\(∀b,o b->w'.heap[b]?=w.heap[b]?)/\(Go.ConcN.WgLive T.ty T.Wg w->Go.ConcN.WgLive T.ty T.Wg w')/\nN D (ord i) old (dT D res (ord i)) (res (ord i)) (fun b=>o' b/\¬o b) w') ?_ (base 116) [] (c::cs) rfl (by simp[base]) ?_
 case refine_2 =>
  rintro e ⟨tm,df⟩ nY o' w' ⟨he,kT,h1,h5,h2,h4,h3⟩;simp only at kT;subst kT;have leave:∀todo,XW au T i V E nY o' (G {(base 116).at ⟨tm,[{target:=.builtin .close #[207] 0 #[false],args:=#[.chan (some (D.ch (ord i)))]}]⟩ todo with mode:=.returning} (c::cs)) w':=fun todo =>
   gO.close (by rw[vC]) ah fun w1 hr s r t hc=>SO nY o' w' tm todo h1 h5 h2 h4 h3 w1 hr s r t hc
  rcases he with rfl|rfl
  ·exact(W nY).go rfl (fun _=>ef) (leave [])
  ·exact leave
 refine fJ ?_;refine ax ?_;have KU:∀w3,cW T i o rc w w3->w3.cell? ⟨D.bn,4,none⟩=some (.slice (some ⟨D.Mb,0,none⟩) D.n D.n):=fun w3 hr=>(hd.later hD hr).b4;have SP:∀w3,cW T i o rc w w3->w3.cell? ⟨D.Mb,ord i,none⟩=some (.chan (some (D.ch (ord i)))):=fun w3 hr=>(hd.later hD hr).made _ hs
 (refine fQ W1 KU rfl ar (fun w9 hc=>⟨.refl _ _,fun e he=>?_⟩) fun w9 hc K hK=>?_;(focus (rw[b8];have he:=mem_listed he;simp[go_sem, *] at he;subst he;exact fC hD.DL));go_simp;refine hK _ ?_;clear hK K;clear hc w9;try walk_nrm)
 refine ax ?_
 (refine fQ W1 SP rfl ar (fun w9 hc=>⟨.refl _ _,fun e he=>?_⟩) fun w9 hc K hK=>?_;(focus (rw[b8];have he:=mem_listed he;simp[go_sem, *] at he;subst he;exact fC hD.qMb));go_simp;refine hK _ ?_;clear hK K;clear hc w9;try walk_nrm)
 refine mh W1 (d:={target:=.builtin .close #[207] 0 #[false],args:=#[.chan (some (D.ch (ord i)))]}) rfl ar (fun w1=>?_) (fun w1=>fP) rfl ?_
 ·simp[go_sem,vC]
 refine ax ?_;clear KU SP;refine kQ (LG ?_);refine dP ?_;have KU:∀w3,cW T i o rc w w3->w3.cell? ⟨D.bn,0,none⟩=some (.pointer (some ⟨D.Lb,D.Lo,none⟩)):=fun w3 hr=>(hd.later hD hr).b0;have SP:∀w3,cW T i o rc w w3->w3.cell? ⟨D.Lb,D.Lo,none⟩=some (.slice (some ⟨D.St,0,none⟩) D.n D.n):=fun w3 hr=>(hd.later hD hr).steps;have hS3:∀w3,cW T i o rc w w3->w3.cell? ⟨D.St,ord i*3+2,none⟩=some (.slice (some ⟨D.cM (ord i),0,none⟩) (D.ins (ord i)).length (D.ins (ord i)).length):=fun w3 hr=>(hd.later hD hr).A0 _ hs
 repeat (refine uy rfl rfl ?_ ?_ ?_;(focus (rfl));(focus (intro w1;first|(simp[go_sem];done)|(simp[go_sem, *];done)));intro w1 K hK;go_simp;refine hK _ ?_;clear hK K w1;try walk_nrm)
 (refine pM KU rfl ar (fun w9 hc=>⟨.refl _ _,fun e he=>?_⟩) fun w9 hc K hK=>?_;(focus (rw[b8];have he:=mem_listed he;simp[go_sem, *] at he;subst he;exact fC hD.DL));go_simp;refine hK _ ?_;clear hK K;clear hc w9;try walk_nrm)
 repeat (refine uy rfl rfl ?_ ?_ ?_;(focus (rfl));(focus (intro w1;first|(simp[go_sem];done)|(simp[go_sem, *];done)));intro w1 K hK;go_simp;refine hK _ ?_;clear hK K w1;try walk_nrm)
 (refine pM SP rfl ar (fun w9 hc=>⟨.refl _ _,fun e he=>?_⟩) fun w9 hc K hK=>?_;(focus (rw[b8];have he:=mem_listed he;simp[go_sem, *] at he;subst he;exact fC hD.ZG));go_simp;refine hK _ ?_;clear hK K;clear hc w9;try walk_nrm)
 repeat (refine uy rfl rfl ?_ ?_ ?_;(focus (rfl));(focus (intro w1;first|(simp[go_sem];done)|(simp[go_sem, *];done)));intro w1 K hK;go_simp;refine hK _ ?_;clear hK K w1;try walk_nrm)
 (refine pM hS3 rfl ar (fun w9 hc=>⟨.refl _ _,fun e he=>?_⟩) fun w9 hc K hK=>?_;(focus (rw[b8];have he:=mem_listed he;simp[go_sem, *] at he;subst he;exact fC hD.ZH));go_simp;refine hK _ ?_;clear hK K;clear hc w9;try walk_nrm)
 refine LH rfl ar rfl func161 ah rfl aH rfl ((PR hW hD res hV ga hd).mono ?_);clear KU SP hS3 W1;rintro v uv o2 w2 ⟨A,rfl,hA,SI,cj,yk,l2⟩;have W2:=W uv;walk_nrm;refine xZ ?_;refine ax ?_;refine fJ ?_;have UM:=hd.later hD l2.rel;have hlen:(dT D res (ord i)).length=(D.ins (ord i)).length:=by simp[dT]
 refine IG W2 (fun a' o' w'=>a'.tmps.size=68/\a'.defers=[{target:=.builtin .close #[207] 0 #[false],args:=#[.chan (some (D.ch (ord i)))]}]/\a'.eval (.tmp 0)=.pointer (some ⟨D.bn,0,none⟩)/\a'.eval (.tmp 1)=.int .i64 (ord i)/\a'.eval (.tmp 4)=.slice (some ⟨A,0,none⟩) (D.ins (ord i)).length (D.ins (ord i)).length/\(∀B,old≠some (B,dT D res (ord i)))/\cR T i uv o2 w2 o' w') ?_ ?_
 case refine_2 =>
  rintro⟨tm,df⟩ o3 w3 ⟨fE,kT,t0,t1,t4,zh,l3⟩;simp only at fE kT;subst kT;obtain⟨gs,rfl⟩:=kZ fE;simp only[List.range,List.range.loop,aA,aP] at *;simp[Act.eval] at t0 t1 t4;simp only[t0,t1,t4];clear t0 t1 t4 fE;have l3':cR T i rc o w o3 w3:=l2.trans ⟨cW.pq yk l3.rel,l3.ok,l3.more⟩;have hd3:=UM.later hD l3.rel;have vf:o3 A:=l3.more A hA;have X4:=cj.of_block (l3.rel.own A hA);have hp3:iW w3:=hp.later SB l3';refine pH W2 ?_;refine vd mixed (n:=21) ah [.pointer (some ⟨D.bn,0,none⟩),.pointer (some ⟨D.bn,0,none⟩),.pointer (some ⟨D.bn,2,none⟩),.slice (some ⟨D.Rb,0,none⟩) D.n D.n,.int .i64 (ord i),.slice (some ⟨A,0,none⟩) (D.ins (ord i)).length (D.ins (ord i)).length,.pointer (some ⟨D.bn,0,none⟩),.pointer (some ⟨D.bn,0,none⟩),.pointer (some ⟨D.bn,0,none⟩),.pointer (some ⟨D.Lb,D.Lo,none⟩),.pointer (some ⟨D.Lb,D.Lo,none⟩),.pointer (some ⟨D.Lb,D.Lo,none⟩),.slice (some ⟨D.St,0,none⟩) D.n D.n,.int .i64 (ord i),.pointer (some ⟨D.St,ord i*3,none⟩),.pointer (some ⟨D.St,ord i*3+1,none⟩),.int .i64 (D.jQ (ord i)),.slice (some ⟨A,0,none⟩) (D.ins (ord i)).length (D.ins (ord i)).length,.agg #[.bool (res (ord i)).1,.string (res (ord i)).2],.agg #[.bool true,.slice (some ⟨A,0,none⟩) (D.ins (ord i)).length (D.ins (ord i)).length,.bool (res (ord i)).1,.string (res (ord i)).2],.pointer (some ⟨D.Rb,ord i*4,none⟩)]
   (S:=fun o5 w5=>cR T i uv o3 w3 o5 w5) (fun o5 w5 w6 h hr=>nL h hr) (.refl l3.ok) ?_
  have F1:∀o5 w5,cR T i uv o3 w3 o5 w5->w5.cell? ⟨D.bn,2,none⟩=some (.slice (some ⟨D.Rb,0,none⟩) D.n D.n):=fun o5 w5 h=>(hd3.later hD h.rel).b2;have F2:∀o5 w5,cR T i uv o3 w3 o5 w5->w5.cell? ⟨D.bn,0,none⟩=some (.pointer (some ⟨D.Lb,D.Lo,none⟩)):=fun o5 w5 h=>(hd3.later hD h.rel).b0;have F3:∀o5 w5,cR T i uv o3 w3 o5 w5->w5.cell? ⟨D.Lb,D.Lo,none⟩=some (.slice (some ⟨D.St,0,none⟩) D.n D.n):=fun o5 w5 h=>(hd3.later hD h.rel).steps;have F4:∀o5 w5,cR T i uv o3 w3 o5 w5->w5.cell? ⟨D.St,ord i*3+1,none⟩=some (.int .i64 (D.jQ (ord i))):=fun o5 w5 h=>(hd3.later hD h.rel).eR _ hs;simp only[List.range,List.range.loop]
  iterate 3 refine uo ?_
  (refine cK rfl rfl (kz fun o5 w5 nu=>⟨?_,fun e he=>?_⟩) ?_;(focus (have hF:=F1 o5 w5 nu;simp[go_sem,hF];done));(focus (have hF:=F1 o5 w5 nu;simp[go_sem,hF] at he;subst he;exact fC hD.DL));try walk_nrm)
  iterate 5 refine uo ?_
  (refine cK rfl rfl (kz fun o5 w5 nu=>⟨?_,fun e he=>?_⟩) ?_;(focus (have hF:=F2 o5 w5 nu;simp[go_sem,hF];done));(focus (have hF:=F2 o5 w5 nu;simp[go_sem,hF] at he;subst he;exact fC hD.DL));try walk_nrm)
  refine uo ?_;refine uo ?_
  (refine cK rfl rfl (kz fun o5 w5 nu=>⟨?_,fun e he=>?_⟩) ?_;(focus (have hF:=F3 o5 w5 nu;simp[go_sem,hF];done));(focus (have hF:=F3 o5 w5 nu;simp[go_sem,hF] at he;subst he;exact fC hD.ZG));try walk_nrm)
  iterate 3 refine uo ?_
  (refine cK rfl rfl (kz fun o5 w5 nu=>⟨?_,fun e he=>?_⟩) ?_;(focus (have hF:=F4 o5 w5 nu;simp[go_sem,hF];done));(focus (have hF:=F4 o5 w5 nu;simp[go_sem,hF] at he;subst he;exact fC hD.ZH));try walk_nrm)
  refine uo ?_;refine cK rfl rfl (.inr ⟨163,_,_,_,_,rfl,func163,ah,rfl,fun o5 w5 l5=>?_⟩) ?_
  ·have h:=ZJ (V:=V) (E:=E) (rc:=uv) hW SB (D.jQ (ord i)) SM A (dT D res (ord i)) aa qX l5.ok (l5.more A vf) (X4.of_block (l5.rel.own A vf)) (hp3.later SB l5);rw[hlen,<- wM] at h;simp only[List.map_toArray,aA,aP,Act.eval];refine h.mono ?_;rintro v o6 w6 ⟨rfl,l6⟩;exact⟨rfl,l5.trans l6⟩
  walk_nrm;refine uo ?_;refine uo ?_;refine oF fun o5 w5 l5=>?_;have Hw:cR T i rc o w o5 w5:=l3'.trans ⟨cW.pq yk l5.rel,l5.ok,l5.more⟩;obtain⟨x0,x1,x2,x3,Hr,xk,hx2,hx3⟩:=hold.some;have qm:∀w6,cW T i o5 uv w5 w6->w6.cell? ⟨D.Rb,ord i*4,none⟩=some x0/\w6.cell? ⟨D.Rb,ord i*4+1,none⟩=some x1/\w6.cell? ⟨D.Rb,ord i*4+2,none⟩=some x2/\w6.cell? ⟨D.Rb,ord i*4+3,none⟩=some x3:=fun w6 hr =>
   ⟨(hr.mine _ (.inl (fq 0 aa))).trans ((Hw.rel.mine _ (.inl (fq 0 aa))).trans Hr),(hr.mine _ (.inl (fq 1 aa))).trans ((Hw.rel.mine _ (.inl (fq 1 aa))).trans xk),
    (hr.mine _ (.inl (fq 2 aa))).trans ((Hw.rel.mine _ (.inl (fq 2 aa))).trans hx2),(hr.mine _ (.inl (fq 3 aa))).trans ((Hw.rel.mine _ (.inl (fq 3 aa))).trans hx3)⟩
  have hRH:=(hW.ok.sh _ hD.Q7).1;have hNH:=(hW.ok.sh _ hD.X3).1;have wZ:o5 A:=l5.more A vf;have hAH:=(l5.ok.vb A wZ).1;refine Au rfl ar D.Rb hD.Q7 (f:=fun w6=>(((w6.setCell ⟨D.Rb,ord i*4,none⟩ (.bool true)).setCell ⟨D.Rb,ord i*4+1,none⟩ (.slice (some ⟨A,0,none⟩) (D.ins (ord i)).length (D.ins (ord i)).length)).setCell ⟨D.Rb,ord i*4+2,none⟩ (.bool (res (ord i)).1)).setCell ⟨D.Rb,ord i*4+3,none⟩ (.string (res (ord i)).2))
   (fun w6 hr=>?_) (fun w6=>(((mi.set _ _ (fq 0 aa)).trans (mi.set _ _ (fq 1 aa))).trans (mi.set _ _ (fq 2 aa))).trans (mi.set _ _ (fq 3 aa))) (fun w6 hr e he=>?_) rfl fun w6 hr eG=>?_
  ·obtain⟨c0,c1,c2,c3⟩:=qm w6 hr;have f:=((SN.later hD.Q7 Hw.rel).later hD.Q7 hr).frozen;simp[go_sem,c0,c1,c2,c3,f]
  ·obtain⟨c0,c1,c2,c3⟩:=qm w6 hr;have f:=((SN.later hD.Q7 Hw.rel).later hD.Q7 hr).frozen;simp[go_sem,c0,c1,c2,c3,f] at he;obtain⟨j,wt,sy,hj,rfl⟩:=(ac1 (.bool true) (.slice (some ⟨A,0,none⟩) (D.ins (ord i)).length (D.ins (ord i)).length) (.bool (res (ord i)).1) (.string (res (ord i)).2) c0 c1 c2 c3 f rfl rfl rfl rfl).2.2.2.2 _ e he;exact⟨_,_,_,rfl,fq j hj⟩
  obtain⟨c0,c1,c2,c3⟩:=qm w6 hr;have f:=((SN.later hD.Q7 Hw.rel).later hD.Q7 hr).frozen;obtain⟨n0,n1,n2,n3,-⟩:=ac1 (P:=au) (.bool true) (.slice (some ⟨A,0,none⟩) (D.ins (ord i)).length (D.ins (ord i)).length) (.bool (res (ord i)).1) (.string (res (ord i)).2) c0 c1 c2 c3 f rfl rfl rfl rfl;generalize (((w6.setCell ⟨D.Rb,ord i*4,none⟩ (.bool true)).setCell ⟨D.Rb,ord i*4+1,none⟩ (.slice (some ⟨A,0,none⟩) (D.ins (ord i)).length (D.ins (ord i)).length)).setCell ⟨D.Rb,ord i*4+2,none⟩ (.bool (res (ord i)).1)).setCell ⟨D.Rb,ord i*4+3,none⟩ (.string (res (ord i)).2)=w7 at *;have l6:cR T i rc o w o5 w6:=nL Hw (cW.pq yk hr);have hRN:D.Rb≠D.Nb:=hD.apart;have anP:gA T o5 w7:=⟨fun b hb=>by have:=l6.ok.vb b hb;have:=eG.size;omega,by have:=l6.ok.size;have:=eG.size;omega⟩;have hd7:lg D w7:=(hd.later hD l6.rel).Jh hD fun b hb=>eG.heap b fun e=>hb.sh (e▸hD.Q7);have hN7:w7.cell? ⟨D.Nb,ord i,none⟩=some (.bool false):=by rw[cell_of (eG.heap _ (bp hRN)),l6.rel.mine _ (.inl CK)];exact V2
  have L8:w7.heap[A]?=w3.heap[A]?:=by rw[eG.heap A aa,hr.own A wZ,l5.rel.own A vf]
  have X5:vI w7 D.Nb:=by
   obtain⟨c,t,hh⟩:=ZL.later hD.X3 l6.rel;exact⟨c,t,by rw[eG.heap _ (bp hRN)];exact hh⟩
  have ZM:∀b,o b->w7.heap[b]?=w.heap[b]?:=fun b hb=>by
   rw[eG.heap b (by have:=(ga.vb b hb).1;omega)];exact l6.rel.own b hb
  have SL:=X4.of_block L8;have ahg:Go.ConcN.WgLive T.ty T.Wg w->Go.ConcN.WgLive T.ty T.Wg w7:=fun x=>gu (eG.heap _ (bp (hW.ok.sh _ hD.Q7).2.1)) (l6.rel.wg x);clear F1 F2 F3 F4 qm eG hr f c0 c1 c2 c3;refine ax ?_;have KU:∀w3,cW T i o5 uv w7 w3->w3.cell? ⟨D.bn,3,none⟩=some (.slice (some ⟨D.Nb,0,none⟩) D.n D.n):=fun w3 hr=>(hd7.later hD hr).b3
  (refine fQ W2 KU rfl ar (fun w9 hc=>⟨.refl _ _,fun e he=>?_⟩) fun w9 hc K hK=>?_;(focus (rw[b8];have he:=mem_listed he;simp[go_sem, *] at he;subst he;exact fC hD.DL));go_simp;refine hK _ ?_;clear hK K;clear hc w9;try walk_nrm)
  refine ax ?_;refine Au rfl ar D.Nb hD.X3 (f:=fun w8=>w8.setCell ⟨D.Nb,ord i,none⟩ (.bool true)) (fun w8 hr=>?_) (fun w8=>mi.set _ _ CK) (fun w8 hr e he=>?_) rfl fun w8 hr eG=>?_
  ·have c0:=(hr.mine _ (.inl CK)).trans hN7;have f:=(X5.later hD.X3 hr).frozen;simp[go_sem,c0,f]
  ·have c0:=(hr.mine _ (.inl CK)).trans hN7;have f:=(X5.later hD.X3 hr).frozen;simp[go_sem,c0,f] at he;rw[cV _ _ c0 (f _) rfl] at he;simp at he;subst he;exact⟨_,_,_,rfl,CK⟩
  have hN8:(w8.setCell ⟨D.Nb,ord i,none⟩ (.bool true)).cell? ⟨D.Nb,ord i,none⟩=some (.bool true):=Jo _ _ _ _ ((hr.mine _ (.inl CK)).trans hN7);generalize w8.setCell ⟨D.Nb,ord i,none⟩ (.bool true)=w9 at *;have hm9:∀j,j<4->w9.cell? ⟨D.Rb,ord i*4+j,none⟩=w7.cell? ⟨D.Rb,ord i*4+j,none⟩:=fun j hj=>by rw[cell_of (eG.heap _ hRN)];exact hr.mine _ (.inl (fq j hj))
  refine ax ?_;refine⟨.inl trivial,trivial,Hw.more,fun b hb=>(Hw.ok.vb b hb).1,fun b hb=>?_,fun x=>gu (eG.heap _ (bp (hW.ok.sh _ hD.X3).2.1)) (hr.wg (ahg x)),.inr ⟨zh,A,⟨wZ,SI⟩,SL.of_block ?_,⟨(hm9 0 aa).trans n0,?_,(hm9 2 aa).trans n2,(hm9 3 aa).trans n3⟩,hN8⟩⟩
  ·rw[eG.heap b (by have:=(ga.vb b hb).1;omega),hr.own b (Hw.more b hb)];exact ZM b hb
  ·rw[eG.heap A aa];exact hr.own A wZ
  ·rw[hlen];exact(hm9 1 aa).trans n1
 have KU:∀w3,cW T i o2 uv w2 w3->w3.cell? ⟨D.bn,2,none⟩=some (.slice (some ⟨D.Rb,0,none⟩) D.n D.n):=fun w3 hr=>(UM.later hD hr).b2;refine ax ?_
 (refine fQ W2 KU rfl ar (fun w9 hc=>⟨.refl _ _,fun e he=>?_⟩) fun w9 hc K hK=>?_;(focus (rw[b8];have he:=mem_listed he;simp[go_sem, *] at he;subst he;exact fC hD.DL));go_simp;refine hK _ ?_;clear hK K;clear hc w9;try walk_nrm)
 clear KU;refine ax ?_;have hm:∀j,j<4->w2.cell? ⟨D.Rb,ord i*4+j,none⟩=w.cell? ⟨D.Rb,ord i*4+j,none⟩:=fun j hj=>l2.rel.mine _ (.inl (fq j hj));obtain⟨dn,ob,ol,mb,mt,fu,fX⟩:∃dn ob ol mb mt,(w2.cell? ⟨D.Rb,ord i*4,none⟩=some (.bool dn)/\w2.cell? ⟨D.Rb,ord i*4+1,none⟩=some (.slice ob ol ol)/\w2.cell? ⟨D.Rb,ord i*4+2,none⟩=some (.bool mb)/\w2.cell? ⟨D.Rb,ord i*4+3,none⟩=some (.string mt)) /\
   ((dn=false/\old=none)\/(dn=true/\∃B vs,old=some (B,vs)/\ob=some ⟨B,0,none⟩/\ol=vs.length/\(mb,mt)=iX (D.jQ (ord i)) vs/\wW w B 0 vs/\Quiet T B/\vs.length<=100000)):=by
  cases old with
  |none=>exact⟨_,_,_,_,_,⟨(hm 0 aa).trans hold.c0,(hm 1 aa).trans hold.c1,(hm 2 aa).trans hold.c2,(hm 3 aa).trans hold.c3⟩,.inl ⟨rfl,rfl⟩⟩
  |some x=>exact⟨_,_,_,_,_,⟨(hm 0 aa).trans hold.1.c0,(hm 1 aa).trans hold.1.c1,(hm 2 aa).trans hold.1.c2,(hm 3 aa).trans hold.1.c3⟩,.inr ⟨rfl,x.1,x.2,rfl,rfl,rfl,rfl,hold.2.1,hold.2.2.1,hold.2.2.2⟩⟩
 have KU:∀w3,cW T i o2 uv w2 w3->w3.cell? ⟨D.Rb,ord i*4,none⟩=some (.bool dn)/\w3.cell? ⟨D.Rb,ord i*4+1,none⟩=some (.slice ob ol ol)/\w3.cell? ⟨D.Rb,ord i*4+2,none⟩=some (.bool mb)/\w3.cell? ⟨D.Rb,ord i*4+3,none⟩=some (.string mt):=fun w3 hr =>
  ⟨(hr.mine _ (.inl (fq 0 aa))).trans fu.1,(hr.mine _ (.inl (fq 1 aa))).trans fu.2.1,(hr.mine _ (.inl (fq 2 aa))).trans fu.2.2.1,(hr.mine _ (.inl (fq 3 aa))).trans fu.2.2.2⟩
 (refine fQ W2 KU rfl ar (fun w9 hc=>⟨.refl _ _,fun e he=>?_⟩) fun w9 hc K hK=>?_;(focus (rw[b8];obtain⟨c0,c1,c2,c3⟩:=hc;have he:=mem_listed he;simp[go_sem, *] at he;rcases he with rfl|rfl|rfl|rfl<;>(first|exact uw (fq 0 aa)|exact uw (fq 1 aa)|exact uw (fq 2 aa)|exact uw (fq 3 aa))));obtain⟨c0,c1,c2,c3⟩:=hc;go_simp;refine hK _ ?_;clear hK K;clear c0 c1 c2 c3 w9;try walk_nrm)
 clear KU;refine nK hW.ok hW.i l2.ok rfl ar rfl (Obj.cells #[.bool false,.slice none 0 0,.bool false,.string aO] 222) (fun w1=>by simp[go_sem];rfl) (fun w1=>fP) fun C o3 w3 l3 hC hCx hwC ho3=>?_;try walk_nrm
 have hCr:w3.rowIs C 222 4 (fun k=>if k=0 then .bool false else if k=1 then .slice none 0 0 else if k=2 then .bool false else .string aO):=⟨_,hCx,rfl,fun k hk=>by
  rcases(show k=0\/k=1\/k=2\/k=3 by omega) with rfl|rfl|rfl|rfl<;>rfl⟩
 have hnC:¬o2 C:=fun h=>by have:=(l2.ok.vb C h).2;omega
 refine Ji hW.ok hW.i l3.ok rfl ar C hC hCr (.bool dn) (.slice ob ol ol) (.bool mb) (.string mt) rfl rfl rfl rfl (fun w1 c f=>?_) (fun w1 c f=>⟨.plain,?_⟩) fun w4 l4 hC4=>?_
 ·have c0:=c 0 aa;have c1:=c 1 aa;have c2:=c 2 aa;have c3:=c 3 aa;simp at c0 c1 c2 c3;clear c;simp[go_sem,c0,c1,c2,c3,f]
 ·have c0:=c 0 aa;have c1:=c 1 aa;have c2:=c 2 aa;have c3:=c 3 aa;simp at c0 c1 c2 c3;clear c;simp[go_sem,c0,c1,c2,c3,f]
 have KT:cR T i uv o2 w2 o3 w4:=(l3.wO.trans l4).later hnC;clear l4 hCr hCx l3;try walk_nrm
 refine ax ?_;have Q8:∀w5,cW T i o3 uv w4 w5->w5.cell? ⟨C,0,none⟩=some (.bool dn):=fun w5 hr=>by rw[cell_of (hr.own C hC)];exact hC4.cell (i:=0) aa
 have nu:∀w5,cW T i o3 uv w4 w5->w5.cell? ⟨C,1,none⟩=some (.slice ob ol ol):=fun w5 hr=>by rw[cell_of (hr.own C hC)];exact hC4.cell (i:=1) aa
 (refine fQ W2 Q8 rfl ar (fun w9 hc=>⟨.refl _ _,fun e he=>?_⟩) fun w9 hc K hK=>?_;(focus (rw[b8];have he:=mem_listed he;simp[go_sem, *] at he;subst he;exact oI hC));go_simp;refine hK _ ?_;clear hK K;clear hc w9;try walk_nrm)
 refine ax ?_;have l4:cR T i rc o w o3 w4:=l2.trans ⟨cW.pq yk KT.rel,KT.ok,KT.more⟩;rcases fX with⟨rfl,rfl⟩|⟨rfl,B,vs,rfl,rfl,rfl,Je,xT,hqB,ahi⟩
 ·refine jy W2 rfl ar ?_;walk_nrm;refine jy W2 rfl ar ?_;walk_nrm;refine jy W2 rfl ar ?_;walk_nrm;refine jy W2 rfl ar ?_;refine ax ?_;exact⟨rfl,trivial,rfl,rfl,rfl,aj,KT⟩
 refine ax ?_
 (refine fQ W2 nu rfl ar (fun w9 hc=>⟨.refl _ _,fun e he=>?_⟩) fun w9 hc K hK=>?_;(focus (rw[b8];have he:=mem_listed he;simp[go_sem, *] at he;subst he;exact oI hC));go_simp;refine hK _ ?_;clear hK K;clear hc w9;try walk_nrm)
 refine ax ?_;have ahj:wW w4 B 0 vs:=fun k hk=>by rw[hqB.cell l4.rel,hqB.cell l4.rel];exact xT k hk
 have vf:o3 A:=KT.more A hA;have ac5:wW w4 A 0 (dT D res (ord i)):=(cj.of_block (KT.rel.own A hA)).lC;refine dA W2 rfl ar rfl func162 ah rfl (by simp[Act.eval,<- hlen]) rfl ((VZ hW B A vs (dT D res (ord i)) ahi aa KT.ok hqB ahj vf ac5).mono ?_);rintro v o5 w5 ⟨rfl,l5⟩;walk_nrm;by_cases heq:vs=dT D res (ord i)
 ·simp only[heq,decide_true];refine ax ?_;have Hw:cR T i rc o w o5 w5:=l4.trans ⟨cW.pq yk l5.rel,l5.ok,l5.more⟩;have hm5:∀j,j<4->w5.cell? ⟨D.Rb,ord i*4+j,none⟩=w.cell? ⟨D.Rb,ord i*4+j,none⟩:=fun j hj=>Hw.rel.mine _ (.inl (fq j hj));have cJ:=hold.1;rw[heq,<- wM] at cJ;exact⟨.inr trivial,trivial,Hw.more,fun b hb=>(Hw.ok.vb b hb).1,Hw.rel.own,Hw.rel.wg,.inl ⟨B,rfl,⟨(hm5 0 aa).trans cJ.c0,(hm5 1 aa).trans cJ.c1,(hm5 2 aa).trans cJ.c2,(hm5 3 aa).trans cJ.c3⟩,(Hw.rel.mine _ (.inl CK)).trans V2⟩⟩
 ·simp only[heq,decide_false];refine ax ?_;exact⟨rfl,trivial,rfl,rfl,rfl,fun B' h=>heq (by cases h;rfl),KT.trans l5⟩
end
abbrev link:Go.Conc.Lib.WgLink:={add:=113,done:=115,wait:=117,relMerge:=125,disable:=120,enable:=122,inBubble:=151,associate:=152,fatal:=153,uOr:=154,uAdd:=155,raceRead:=156,uLoad:=157,uStore:=158,disassociate:=159,semrelease:=160,acquire:=123,isAssociated:=164,uCas:=165,raceWrite:=166,semacquire:=167,orU64:=192,addU64:=193,loadU64:=194,storeU64:=195,casU64:=200,tWgP:=251,tUP:=116,tAssoc:=252,tWg:=216,tAU:=214,tU64:=212,tUint:=223,tU32:=102,tPU32:=255,tPAU:=283,tPU64:=285,tNoCopy:=101,tANoCopy:=115,tAlign64:=211}
theorem Av:Go.Conc.Lib.WgLib au link :=
 ⟨func113,func115,func117,func125,func120,func122,func151,func152,func153,func154,func155,func156,func157,func158,func159,func160,func123,func164,func165,func166,func167,func192,func193,func194,func195,func200,underlying251,runUnderlying251,sizeOf251,isAgg251,zeroValue251,underlying116,runUnderlying116,sizeOf116,isAgg116,zeroValue116,underlying252,runUnderlying252,sizeOf252,isAgg252,zeroValue252,underlying216,runUnderlying216,sizeOf216,isAgg216,zeroValue216,underlying214,runUnderlying214,sizeOf214,isAgg214,zeroValue214,underlying212,runUnderlying212,sizeOf212,isAgg212,zeroValue212,underlying223,runUnderlying223,sizeOf223,isAgg223,zeroValue223,underlying102,runUnderlying102,sizeOf102,isAgg102,zeroValue102,underlying255,runUnderlying255,sizeOf255,isAgg255,zeroValue255,underlying283,runUnderlying283,sizeOf283,isAgg283,zeroValue283,underlying285,runUnderlying285,sizeOf285,isAgg285,zeroValue285,underlying0,runUnderlying0,sizeOf0,isAgg0,zeroValue0,underlying3,runUnderlying3,sizeOf3,isAgg3,zeroValue3,underlying4,runUnderlying4,sizeOf4,isAgg4,zeroValue4,underlying9,runUnderlying9,sizeOf9,isAgg9,zeroValue9,underlying20,runUnderlying20,sizeOf20,isAgg20,zeroValue20,underlying21,runUnderlying21,sizeOf21,isAgg21,zeroValue21,ah,ah⟩
open Go.ConcN
section
open Go.Conc.Lib Go.ConcR.Gen Go.ConcN.Gen
open Go.ConcR (KK wgBlock WgAt stA smA rd wr mk Payload DC0)
def Jp(n:Nat):Frame:={(default:Frame) with fn:=n,defers:=[],mode:=.panicking [goexitEntry]}
def Fl(Wg Bb C:Nat):Deferred:={target:=.fn (.func 114) #[.pointer (some ⟨Wg,0,none⟩),.pointer (some ⟨Bb,0,none⟩),.pointer (some ⟨C,0,none⟩)],args:=#[]}
def bW:Frame:=baseD 114
theorem L9(Wg Bb C:Nat)(w:ae):stepG au false (born au (Fl Wg Bb C)) w =
  .go (G (bW.at ⟨#[.pointer (some ⟨Wg,0,none⟩),.pointer (some ⟨Bb,0,none⟩),.pointer (some ⟨C,0,none⟩),undef,undef,undef],[]⟩ [.code (Tryz.f114.body.getD .skip)]) [Jp au.funcs.size]) w #[]:=by
 simp[born,Fl,stepG,unwind,callDeferred,invoke,callFunc,func114,Tryz.f114,seen,GStep.after,G,Frame.enter,Frame.at,bW,baseD,Jp]
theorem Ma(T:Array Value):QuitsD au 2 0 (G {bW.at ⟨T,[]⟩ [] with mode:=.returning} [Jp au.funcs.size]):=by
 refine QuitsD.ctl (g':=G (Jp au.funcs.size) []) rfl (fun w=>?_) ?_
 ·simp[G,stepG,unwind,doReturn,results,Frame.at,bW,baseD,Jp,func114,Tryz.f114,seen,GStep.after,goexitEntry]
 refine QuitsD.ctl (g':={G (Jp au.funcs.size) [] with status:=.finished}) rfl (fun w=>?_) ⟨rfl,rfl⟩;simp[G,stepG,unwind,Jp,goexitEntry,Frame.catches];rfl
theorem Jq:Tryz.f116.results=#[]:=ah
theorem results_none{P:Program}{fn:Func}(h:fn.results=#[])(tm:Array Value)(w:ae):(results fn tm).run P w=.ok (.tuple #[]) w/\(results fn tm).events P w #[]=#[]:=by
 unfold results;rw[h];exact⟨fP,fP⟩
section
variable [Payload] {T:dm} {i:Nat} {V:Nat->ae->Prop} {rc:Nat->Prop} {o:aM} {w:ae} {D:mV} {ord:Nat->Nat}
theorem tailW(Wg Bb C s:Nat)(tm tm2:Array Value)(todo:List Item)(df:Deferred)(kT:df={target:=.fn (.func 115) #[],args:=#[.pointer (some ⟨Wg,0,none⟩)]})(hK:WgLive 216 Wg w/\Has C (1-1) (.int .i64 (s:Int)) w)(ops:Array Oper)(ahk:ops[2]?=some {dst:=some 5,op:=.call {callee:=.value (.func 116),args:=#[.tmp 3,.tmp 4],argTypes:=#[151,3]},type:=0,pos:= "build.go:79",after:=#[{on:=0,ground:=.data},{on:=1,ground:=.data}],guard:=none}):
  ∃m,Goes au false (RW 216 Wg C 0 0 (1-1)) (DWs Wg qU qU C 0 1) (AtR0 au 216 Wg C 0 0 1 (.int .i64 (s:Int))) m (G {(base 116).at ⟨tm,[]⟩ todo with mode:=.returning} (bW.at ⟨tm2,[df]⟩ (.inRegion ops [2]::[])::[Jp au.funcs.size])) w:=by
 subst kT;refine⟨27,?_⟩
 u_in kn_rely hK
 rw[stepG_leave (b:=base 116) (v:=.tuple #[]) rfl rfl func116 (results_none Jq _ _).1 (results_none Jq _ _).2];simp only[goes_go];refine⟨by u_nil,?_⟩;rw[ee,ahk];simp only[Option.bind_some,Act.put]
 u_c ak kn_rely hK
 u_c ef kn_rely hK
 u_in kn_rely hK
 rw[stepG_unwind_enter rfl func115 (nm_done link) rfl];simp only[goes_go];refine⟨by u_nil,?_⟩;walk_nrmf Tryz.f115;have hA:=@doneN _ link au Av qU qU Wg C 0 0 1 (.int .i64 (s:Int));simp only[body_done,doneFn,bq] at hA;exact hA rfl (Ma _) _ hK
theorem ZN{α:Type}{a c:Prop}{G:α->Prop}(ha:a)(h:∃m,G m)(hc:c):∃m,a/\G m/\c:=let ⟨m,h⟩:=h;⟨m,ha,h,hc⟩
def Vd(D:mV)(ord:Nat->Nat)(res:Nat->Kz.V)(k:Nat)(w:ae):Prop:=k<D.n/\w.cell? ⟨D.Rb,ord k*4+2,none⟩=some (.bool (res (ord k)).1)/\w.cell? ⟨D.Rb,ord k*4+3,none⟩=some (.string (res (ord k)).2)
def yn(D:mV)(ord:Nat->Nat)(old:Nat->Option (Nat×List Kz.V))(res:Nat->Kz.V)(k:Nat)(o:Nat->Prop)(w:ae):Prop:=k<D.n/\nN D (ord k) (old (ord k)) (dT D res (ord k)) (res (ord k)) o w
theorem NO{P:Program}{m:Bool}{R:aM->ae->ae->Prop}{Gu:aM->ae->ae->Array Event->Prop}{X:aM->aX->ae->Prop}(W:fH P m R Gu X){b:Frame}{a:Act}{k:List Item}{cs:List Frame}{o:aM}{w:ae}{ops:Array Oper}{i:Nat}{rest:List Nat}{op:Oper}{v:Value}(ho:ops[i]?=some op)(hw:Region.wanted op (yielded ops a.tmps)=true)(hk:b.kind≠.early){d:Option Tmp}(hd:op.dst=d)(hr:∀w1,R o w w1->(execOp a.eval op).run P w1=.ok (.value v) w1)(hg:∀w1,R o w w1->Gu o w1 w1 (listed P b.fn a op w1))(h:X o (G (b.at (a.put d v) (.inRegion ops rest::k)) cs) w):X o (G (b.at a (.inRegion ops (i::rest)::k)) cs) w:=by
 subst hd;exact W.step _ _ _ rfl fun w1 h1=>⟨_,_,_,eH ho hw hk (hr w1 h1),hg w1 h1,by rw[b8];exact W.rely _ _ _ _ h h1⟩
theorem SQ(hW:rZ T i)(hTn:T.n=D.n)(hty:T.ty=216)(SB:Quiet T 1)(hD:zC D T ord)(res:Nat->Kz.V)(old:Nat->Option (Nat×List Kz.V))(hd:lg D w)(hp:iW w)(wM:res (ord i)=iX (D.jQ (ord i)) (dT D res (ord i)))(SM:1<=D.jQ (ord i)/\D.jQ (ord i)<=5)(qX:jl ((dT D res (ord i)).map (·.2))<=1000000)(hold:GD D T (ord i) (old (ord i)) w)(V2:w.cell? ⟨D.Nb,ord i,none⟩=some (.bool false))(SN:vI w D.Rb)(ZL:vI w D.Nb)(ga:gA T o w)(Bb C:Nat)(hBb:Quiet T Bb)(Jr:w.cell? ⟨Bb,0,none⟩=some (.pointer (some ⟨D.bn,0,none⟩)))(ho:∀b,o b↔b=C)(hC:w.cell? ⟨C,0,none⟩=some (.int .i64 (ord i)))(yo:WgLive T.ty T.Wg w):
  XW au T i (Vd D ord res) (D8 au T (yn D ord old res) i) rc o (born au (Fl T.Wg Bb C)) w:=by
 have W:=cL (P:=au) (T:=T) (i:=i) (V:=Vd D ord res) (E:=D8 au T (yn D ord old res) i) rc;have hoC:o C:=(ho C).2 rfl;refine W.go rfl (fun w1=>L9 _ _ _ w1) ?_;simp only[Tryz.f114,bq];refine W.go rfl (fun _=>aD) ?_;refine W.go rfl (fun _=>bf) ?_;refine dP ?_;refine W.go rfl (fun w1=>ym (d:={target:=.fn (.func 115) #[],args:=#[.pointer (some ⟨T.Wg,0,none⟩)]}) rfl ar eu fP fP) ?_;refine W.go rfl (fun _=>ak) ?_;refine W.go rfl (fun _=>bf) ?_;refine dP ?_;walk_nrm;have c1:∀w1,cW T i o rc w w1->w1.cell? ⟨Bb,0,none⟩=some (.pointer (some ⟨D.bn,0,none⟩)):=fun w1 h1=>by rw[hBb.cell h1];exact Jr
 have c2:∀w1,cW T i o rc w w1->w1.cell? ⟨C,0,none⟩=some (.int .i64 (ord i)):=fun w1 h1=>by rw[cell_of (h1.own C hoC)];exact hC
 refine NO W (v:=.pointer (some ⟨D.bn,0,none⟩)) rfl ar eu rfl (fun w1 h1=>by simp[go_sem,c1 w1 h1]) (fun w1 h1=>⟨.refl _ _,fun e he=>?_⟩) ?_
 ·rw[b8];have he:=mem_listed he;simp[go_sem,c1 w1 h1] at he;subst he;exact fC hBb
 walk_nrm;refine NO W (v:=.int .i64 (ord i)) rfl ar eu rfl (fun w1 h1=>by simp[go_sem,c2 w1 h1]) (fun w1 h1=>⟨.refl _ _,fun e he=>?_⟩) ?_
 ·rw[b8];have he:=mem_listed he;simp[go_sem,c2 w1 h1] at he;subst he;exact oI hoC
 walk_nrm;refine W.go rfl (fun w1=>qi rfl ar eu rfl func116 ah rfl w1) ?_;simp only[List.map_toArray,aA,aP,Act.eval];walk_nrm;refine ZK hW SB hD res (fun k w _ h=>h.2) ga hd hp wM SM qX (old (ord i)) hold V2 SN ZL _ _ fun nY o' w' tm todo h1 h5 h2 h4 h3 w1 hr s r t hc=>?_;have hmR:∀j,j<4->w1.cell? ⟨D.Rb,ord i*4+j,none⟩=w'.cell? ⟨D.Rb,ord i*4+j,none⟩:=fun j hj=>hr.mine _ (.inl ((hD.own i _).2 ⟨hW.i,.inl ⟨j,hj,rfl⟩⟩));have hmN:w1.cell? ⟨D.Nb,ord i,none⟩=w'.cell? ⟨D.Nb,ord i,none⟩:=hr.mine _ (.inl ((hD.own i _).2 ⟨hW.i,.inr rfl⟩));have hh:=pE w1 (T.ch i) s r t;have dH:∀b,T.Sh b->b≠T.ch i:=fun b hb=>bp ((hW.ok.sh b hb).2.2 i hW.i);have hCc:C≠T.ch i:=by have:=(ga.vb C hoC).1;have:=(hW.ok.ch i hW.i).1;omega
 have SU:WgLive T.ty T.Wg (w1.setChan (T.ch i) 0 #[] true s r t):=gu (hh _ (bp (hW.ok.ch i hW.i).2)) (hr.wg (h4 yo));have hC':(w1.setChan (T.ch i) 0 #[] true s r t).cell? ⟨C,0,none⟩=some (.int .i64 (ord i)):=by rw[cell_of (hh C hCc),cell_of (hr.own C (h1 C hoC)),cell_of (h2 C hoC)];exact hC
 rw[hty] at SU;have hiD:i<D.n:=hTn▸hW.i;refine⟨⟨hiD,(hmR 2 aa).trans h3.made.1,(hmR 3 aa).trans h3.made.2⟩,C,.int .i64 (ord i),?_⟩;rw[hty];refine ZN (h1 C hoC) (tailW (w:=w1.setChan (T.ch i) 0 #[] true s r t) T.Wg Bb C (ord i) tm _ todo _ rfl ⟨SU,hC'⟩ _ ar) ?_;refine⟨hiD,nN.of h3 (fun j hj=>?_) ?_ fun b hb=>⟨⟨hb.1,fun e=>hb.2 ((ho b).2 e)⟩,?_⟩⟩
 ·rw[cell_of (hh _ (dH _ hD.Q7))];exact hmR j hj
 ·rw[cell_of (hh _ (dH _ hD.X3))];exact hmN
 ·rw[hh b (by have:=h5 b hb.1;have:=(hW.ok.ch i hW.i).1;omega)];exact hr.own b hb.1
end
end
section
open Go.Conc.Lib Go.ConcR.Gen Go.ConcN.Gen
open Go.ConcR (KK wgBlock WgAt stA smA rd wr mk Payload DC0)
def zD(D:mV)(s:Nat)(old:Option (Nat×List Kz.V))(w:ae):Prop :=
 (match old with|none=>NN D s w|some (B,vs)=>wb D s w B vs (iX (D.jQ s) vs))/\w.cell? ⟨D.Nb,s,none⟩=some (.bool false)/\vI w D.Rb/\vI w D.Nb
structure Setup(D:mV)(T:dm)(ord:Nat->Nat)(res:Nat->Kz.V)(old:Nat->Option (Nat×List Kz.V))(Bb Ob:Nat)(w0:ae):Prop where
 ok:T.OK
 n:T.n=D.n
 kp:au.globals.size<=T.H0
 ty:T.ty=216
 q1:Quiet T 1
 dk:zC D T ord
 EZ:lg D w0
 pow:iW w0
 made:∀i,i<T.n->res (ord i)=iX (D.jQ (ord i)) (dT D res (ord i))
 eR:∀i,i<T.n->1<=D.jQ (ord i)/\D.jQ (ord i)<=5
 size:∀i,i<T.n->jl ((dT D res (ord i)).map (·.2))<=1000000
 qB:Quiet T Bb
 box:w0.cell? ⟨Bb,0,none⟩=some (.pointer (some ⟨D.bn,0,none⟩))
 qO:Quiet T Ob
 order:w0.cell? ⟨D.Lb,D.Lo+1,none⟩=some (.slice (some ⟨Ob,0,none⟩) D.n D.n)
 Mc:∀k,k<D.n->w0.cell? ⟨Ob,k,none⟩=some (.int .i64 (ord k))
 xa:∀s B vs,s<D.n->old s=some (B,vs)->wW w0 B 0 vs/\Quiet T B/\vs.length<=100000
 idle:∀k w,k<T.n->T.Idle k w->zD D (ord k) (old (ord k)) w
section
variable {T:dm} {o:aM} {w w0 w1:ae} {D:mV} {ord:Nat->Nat} {res:Nat->Kz.V} {old:Nat->Option (Nat×List Kz.V)} {Bb Ob:Nat}
theorem dL.less{o':aM}(h:dL T o w w1)(ho:∀b,o' b->o b):dL T o' w w1:=⟨h.size,fun b hb=>h.own b (ho b hb),h.ro,h.wg,h.os,h.output⟩
theorem Quiet.Ls{b:Nat}(q:Quiet T b)(r:dL T o w w1):w1.heap[b]?=w.heap[b]?:=r.ro b q.old q.wg q.sh q.ch
theorem Quiet.cellS{b off:Nat}(q:Quiet T b)(r:dL T o w w1):w1.cell? ⟨b,off,none⟩=w.cell? ⟨b,off,none⟩:=cell_of (q.Ls r)
theorem vg{b off:Nat}{sy:Bool}(q:Quiet T b):EvS T o ⟨.cell ⟨b,off,none⟩,false,sy⟩:=by
 refine⟨fun x hx _=>.inr (.inr ⟨?_,?_⟩),aj,aj,aj⟩;all_goals
  simp only[MemAct.ofEvent,MemAct.touch?,ay] at hx;subst hx
 ·exact q.ro off
 ·rfl
variable [Payload]
theorem Setup.child(h:Setup D T ord res old Bb Ob w0){j C:Nat}(hj:j<T.n)(hr:dL T (fun _=>False) w0 w1)(yo:WgLive T.ty T.Wg w1)(hC:w1.cell? ⟨C,0,none⟩=some (.int .i64 (ord j)))(hCH:T.H0<=C/\C<w1.heap.size)(hid:T.Idle j w1)(hH:T.H0<=w1.heap.size):
  gO au T j (Vd D ord res) (D8 au T (yn D ord old res) j) ⟨born au (Fl T.Wg Bb C),fun b=>b=C,fun _=>False,w1⟩:=by
 obtain⟨h1,h2,h3,h4⟩:=h.idle j w1 hj hid;have hq:∀b,Quiet T b->w1.heap[b]?=w0.heap[b]?:=fun b q=>q.Ls hr;refine SQ (o:=fun b=>b=C) (rc:=fun _=>False) ⟨h.ok,hj,h.kp⟩ h.n h.ty h.q1 h.dk res old (h.EZ.Jh h.dk hq) (fun q Bc=>by rw[h.q1.cellS hr];exact h.pow q Bc) (h.made j hj) (h.eR j hj) (h.size j hj) ?_ h2 h3 h4 ⟨fun b hb=>by rw[hb];exact hCH,hH⟩ Bb C h.qB (by rw[h.qB.cellS hr];exact h.box) (fun _=>cZ) hC yo;cases ho:old (ord j) with
 |none=>rw[ho] at h1;exact h1
 |some x =>
  obtain⟨B,vs⟩:=x;rw[ho] at h1;obtain⟨k1,k2,k3⟩:=h.xa _ B vs (h.dk.qF j hj) ho;exact⟨h1,fun q Bc=>by rw[k2.cellS hr,k2.cellS hr];exact k1 q Bc,k2,k3⟩
theorem Js(h:Setup D T ord res old Bb Ob w0){cO:eQ}{r0 r1 r2 lp tl:Code}(fF:Tryz.f74.body=some (.seq r0 (.seq r1 (.seq (.seq r2 (.block 0 (.loop lp))) tl))))(b:Frame)(k:List Item)(cs:List Frame)(qC:b.fn=74)(rP:b.kind≠.early)(SO:∀o w (tm:Array Value),dL T (fun _=>False) w0 w->WgLive T.ty T.Wg w->(∀b,o b->T.H0<=b/\b<w.heap.size)->tm.size=21->tm[2]?=some (.pointer (some ⟨T.Wg,0,none⟩))->di au T (Q0 au T cO) o (G (b.at ⟨tm,[]⟩ (.code tl::k)) cs) w):
  ∀r j,r+j=T.n->∀o w (tm:Array Value),dL T (fun _=>False) w0 w->WgLive T.ty T.Wg w->(∀b,o b->T.H0<=b/\b<w.heap.size)->T.H0<=w.heap.size->tm.size=21 ->
   tm[1]?=some (.pointer (some ⟨Bb,0,none⟩))->tm[2]?=some (.pointer (some ⟨T.Wg,0,none⟩))->tm[11]?=some (.slice (some ⟨Ob,0,none⟩) D.n D.n)->tm[12]?=some (.int .i64 D.n)->tm[13]?=some (.int .i64 j) ->
   jb au T (Vd D ord res) (yn D ord old res) cO r o (G (b.at ⟨tm,[]⟩ (.code lp :: .inLoop lp :: .inBlock 0 :: .code tl::k)) cs) w:=by
 have V3:=fF;simp only[Tryz.f74,ay,Code.seq.injEq,Code.block.injEq,Code.loop.injEq,true_and] at V3;obtain⟨-,-,⟨-,V3⟩,-⟩:=V3;have xc:=h.dk.gT;intro r
 induction r with
 |zero =>
  intro j hj o w tm hr yo ho hH fE t1 t2 t11 t12 t13;have tD:¬((j:Int)<(D.n:Int)):=by have:=h.n;omega
  simp only[jb];have W:=nJ (P:=au) (T:=T) (Stop:=Q0 au T cO);rw[<- V3];obtain⟨gs,rfl⟩:=kZ fE;simp only[List.range,List.range.loop,aA,aP] at *;simp only[List.getElem?_toArray,List.getElem?_cons_succ,List.getElem?_cons_zero,ay] at t1 t2 t11 t12 t13;simp only[t1,t2,t11,t12,t13];refine W.go rfl (fun _=>aD) ?_;refine W.go rfl (fun _=>bf) ?_;refine dP ?_;refine hJ ?_;refine W.go rfl (fun _=>ak) ?_;refine W.go rfl (fun _=>aD) ?_;refine W.go rfl (fun _=>ew (t:=false) (by simp[Act.eval,tD])) ?_;simp only[aL,if_false];refine W.go rfl (fun _=>stepG_exit rfl) ?_;exact SO o w _ hr yo ho rfl rfl
 |succ r ih =>
  intro j hj o w tm hr yo ho hH fE t1 t2 t11 t12 t13;have hjT:j<T.n:=aa;have hjD:j<D.n:=by have:=h.n;omega
  have hjI:(j:Int)<(D.n:Int):=aa;have hj0:T.n-(r+1)=j:=aa;have qW:IntKind.wrap .i64 ((j:Int)+1)=(j:Int)+1:=by rw[IntKind.wrap_i64];omega
  simp only[jb,hj0];have W:=nJ (P:=au) (T:=T) (Stop:=Lu au T (Vd D ord res) (yn D ord old res) j (jb au T (Vd D ord res) (yn D ord old res) cO r));have anX:=V3;obtain⟨gs,rfl⟩:=kZ fE;simp only[List.range,List.range.loop,aA,aP] at *;simp only[List.getElem?_toArray,List.getElem?_cons_succ,List.getElem?_cons_zero,ay] at t1 t2 t11 t12 t13;simp only[t1,t2,t11,t12,t13];rw[show(Item.code lp)=Item.code _ from congrArg Item.code V3.symm];refine W.go rfl (fun _=>aD) ?_;refine W.go rfl (fun _=>bf) ?_;refine dP ?_;refine hJ ?_;refine W.go rfl (fun _=>ak) ?_;refine W.go rfl (fun _=>aD) ?_;refine W.go rfl (fun _=>ew (t:=true) (by simp[Act.eval,hjI])) ?_;simp only[if_true];refine W.go rfl (fun _=>cx) ?_;refine W.go rfl (fun _=>aD) ?_;refine W.go rfl (fun _=>fe) ?_;refine W.go rfl (fun _=>aD) ?_;refine W.go rfl (fun _=>bf) ?_;refine dP ?_;refine hJ ?_;have KU:∀w3,dL T o w w3->w3.cell? ⟨Ob,j,none⟩=some (.int .i64 (ord j)):=fun w3 Eg=>by rw[h.qO.cellS Eg,h.qO.cellS hr];exact h.Mc j hjD
  (refine still_at W KU rfl ar rP (fun w9 hc=>⟨.refl _ _,fun e he=>?_⟩) fun w9 hc K hK=>?_;(focus (rw[b8];have he:=mem_listed he;simp[go_sem, *] at he;subst he;exact vg h.qO));go_simp;refine hK _ ?_;clear hK K;clear hc w9;try walk_nrm)
  clear KU;refine LO rfl ar rP rfl (Obj.cells #[.int .i64 0] 3) (fun w1=>fP) (fun w1=>fP) fun w1 ly=>?_;walk_nrm;have ahp:=hr.trans (dL.less ly (o':=fun _=>False) (fun _ x=>x.elim));have UI:T.H0<=w1.heap.size:=aW hH ly.size;have lQ:∀w2:ae,w2.heap[w1.heap.size]?=(w1.alloc (Obj.cells #[.int .i64 0] 3)).heap[w1.heap.size]?->w2.cell? ⟨w1.heap.size,0,none⟩=some (.int .i64 0)/\w2.frozen? ⟨w1.heap.size,0,none⟩=false:=fun w2 e=>by
   have:(w1.alloc (Obj.cells #[.int .i64 0] 3)).heap[w1.heap.size]?=some (Obj.cells #[.int .i64 0] 3):=by show(w1.heap.push _)[w1.heap.size]?=_;simp
   rw[this] at e;simp[World.cell?,World.frozen?,e]
  refine LP w1.heap.size (.inr rfl) rfl ar rP rfl (f:=fun w2=>w2.setCell ⟨w1.heap.size,0,none⟩ (.int .i64 (ord j))) (fun w2=>gY.set _ _ _ _) (fun w2 e=>?_) (fun w2 e ev he=>?_) fun w2 GC=>?_
  ·obtain⟨c0,f0⟩:=lQ w2 e;simp[go_sem,c0,f0]
  ·obtain⟨c0,f0⟩:=lQ w2 e;simp[go_sem,c0,f0] at he;subst he;exact⟨_,_,_,rfl,rfl⟩
  walk_nrm;generalize hC:w1.heap.size=C at *;have hCH:T.H0<=C:=UI;have hC2:(w2.setCell ⟨C,0,none⟩ (.int .i64 (ord j))).cell? ⟨C,0,none⟩=some (.int .i64 (ord j)):=World.cell?_setCell_same _ _ _ (lQ w2 (GC.own C (.inr rfl))).1;have Eg:dL T (fun b=>b≠C/\o b) w (w2.setCell ⟨C,0,none⟩ (.int .i64 (ord j))):=by
   have hO:=gY.set w2 C 0 (.int .i64 (ord j));have hA:dL T (fun b=>b≠C/\o b) w1 (w1.alloc (Obj.cells #[.int .i64 0] 3)):=⟨aj,fun b hb=>RowKit.Below.heap_alloc w1 _ b (by have:=(ho b hb.2).2;have:=ly.size;omega),fun b h1 _ _ _=>RowKit.Below.heap_alloc w1 _ b aa,gu (RowKit.Below.heap_alloc w1 _ _ (by have:=h.ok.wg;omega)),rfl,rfl⟩;refine((dL.less ly fun b hb=>hb.2).trans hA).trans ((dL.less GC fun b hb=>.inl hb.2).trans ⟨bG hO.size.symm,fun b hb=>hO.heap b hb.1,fun b h1 _ _ _=>hO.heap b aa,gu (hO.heap _ (by have:=h.ok.wg;omega)),rfl,rfl⟩)
  have ZO:C<(w2.setCell ⟨C,0,none⟩ (.int .i64 (ord j))).heap.size:=by
   have:=GC.size;simp[World.setCell] at this |-;omega
  generalize w2.setCell ⟨C,0,none⟩ (.int .i64 (ord j))=w3 at *;clear lQ GC w2 ahp ly UI hC w1;have ac6:=hr.trans (dL.less Eg (o':=fun _=>False) (fun _ x=>x.elim));have Md:=Eg.wg yo;have hH3:=aW hH Eg.size;have ho3:∀b,(o b\/b=C)->T.H0<=b/\b<w3.heap.size:=by
   rintro b (hb|rfl)
   ·have:=ho b hb;have:=Eg.size;omega
   ·exact⟨hCH,ZO⟩
  refine W.go rfl (fun _=>ak) ?_;refine W.go rfl (fun _=>aD) ?_;refine W.go rfl (fun _=>bf) ?_;refine dP ?_;refine W.go rfl (fun w1=>qi rfl ar rP rfl Av.f_add (nm_add link) rfl w1) ?_;rw[iN Av.f_add rfl];simp only[List.map_toArray,aA,aP,Act.eval];walk_nrmf addFn;have hA:=@ag1 _ link au T (Vd D ord res) (yn D ord old res) (jb au T (Vd D ord res) (yn D ord old res) cO r) (fun b=>o b\/b=C) j w3;simp only[body_add,addFn,bq] at hA;refine hA Av h.ok (fun b hb=>(ho3 b hb).1) (fun w4 hr4=>?_) w3 ⟨dL.refl w3,Md⟩;clear hA;have W2:=nJ (P:=au) (T:=T) (Stop:=SGo au T (Vd D ord res) (yn D ord old res) j (jb au T (Vd D ord res) (yn D ord old res) cO r));simp only[List.getElem?_toArray,List.getElem?_cons_succ,List.getElem?_cons_zero,Option.bind_some];walk_nrm;refine W2.go rfl (fun _=>ak) ?_;refine W2.go rfl (fun _=>bf) ?_;refine dP ?_;refine hJ ?_;refine di.stop fun w5 PM=>⟨rfl,_,born au (Fl T.Wg Bb C),fun b=>b=C,Sp rfl ar rP (by simp[go_sem,Fl]) fP rfl rfl,fun b hb=>.inr hb,fun w6 PN hid=>?_,?_⟩
  ·have e6:w6.heap[C]?=w3.heap[C]?:=by rw[PN.own C (.inr rfl),PM.own C (.inr rfl),hr4.own C (.inr rfl)]
   have ZP:=(hr4.trans PM).trans PN;have anY:=ZP.size;exact h.child hjT (ac6.trans (dL.less ZP (o':=fun _=>False) (fun _ x=>x.elim))) (ZP.wg Md) (by rw[cell_of e6];exact hC2) ⟨hCH,aa⟩ hid aa
  have ZQ:=hr4.trans PM;have anZ:=ZQ.size;obtain⟨Stop,Jt⟩:∃Stop:eQ,∀o g w,di au T Stop o g w↔jb au T (Vd D ord res) (yn D ord old res) cO r o g w:=by
   cases r
   ·exact⟨_,fun _ _ _=>cZ⟩
   ·exact⟨_,fun _ _ _=>cZ⟩
  rw[<- Jt];have W3:=nJ (P:=au) (T:=T) (Stop:=Stop);walk_nrm;refine W3.go rfl (fun _=>ak) ?_;refine W3.go rfl (fun _=>gv) ?_;refine W3.go rfl (fun _=>bf) ?_;refine dP ?_;refine hJ ?_;refine W3.go rfl (fun _=>ak) ?_;refine W3.go rfl (fun _=>iM) ?_;rw[Jt];exact ih (j+1) aa _ w5 _ (ac6.trans (dL.less ZQ (o':=fun _=>False) (fun _ x=>x.elim))) (ZQ.wg Md) (fun b hb=>by have:=ho3 b hb.1;omega) aa rfl rfl rfl rfl rfl (by simp[qW])
end
end
end Go.Proofs.Kz
