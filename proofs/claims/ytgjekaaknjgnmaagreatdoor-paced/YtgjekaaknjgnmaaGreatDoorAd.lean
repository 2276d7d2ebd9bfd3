import Derived.Test.YtgjekaaknjgnmaaGreatDoorAc
import Derived.Below
import Derived.Conc.AppendEvents3
import Derived.Conc.AppendWalk
import Derived.Conc.EventLaws2
import Derived.Conc.SmallLaws
import Derived.Deep.Light
import Derived.Deep.LoopGhost
import Derived.Ground.Names2Prog
import Derived.Ground.NamesProg
import Derived.Ground.SlgnProg
import Derived.Ground.SlsfProg
import Derived.Laws.BytesString
import Derived.Laws.IdiomStrings
import Derived.Laws.Pointers
import Derived.Laws.Slices
import Derived.Laws.StructEq
import Derived.Lib.ItoaLen
import Derived.Lib.OwnBridge
import Derived.Lib.Walk
import Derived.RowKit3
import Derived.Shelf.Lay
import Derived.Shelf.LaysM
import Derived.Shelf.SlGeneric
import Derived.Shelf.SlSortCmp.SmallK
import Derived.Shelf.Slices.Cells
import Derived.Shelf.Slices.Clone
import Derived.Shelf.Slices.CompactS
import Derived.Shelf.Slices.In.SortNone
import Derived.Shelf.Slices.MinMaxS
import Derived.Shelf.Slices.Turned
import Derived.Shelf.SlicesE.Reverse
import Derived.Shelf.Small.Bits
import Derived.Shelf.Small.Strs
import Derived.Shelf.Sort.Plain
import Derived.Shelf.Spec.SearchS
import Derived.Shelf.Strconv.Itoa0
import Derived.Shelf.Strconv.Itoa1
import Derived.Shelf.Strconv.Itoa2
import Derived.Shelf.Strconv.Itoa3
import Derived.Shelf.Strings.Builder1
import Derived.Shelf.Strings.Builder2
import Derived.Shelf.Strings.OnBuilder
import Derived.StillTactics
import Derived.Test.YtgjekaaknjgnmaaGreatDoorChecked
import Derived.Test.YtgjekaaknjgnmaaGreatDoorProg
import Derived.WalkKit
import Derived.WalkSpells
set_option linter.all false
set_option maxHeartbeats 40000000
set_option maxRecDepth 200000
namespace Go.Ren
open Go.Conc Go.ConcN
def Ac(ops:Array Oper):Bool :=
 (List.range ops.size).all (fun i=>match ops[i]? with
  |none=>false
  |some op=>op.after.all (fun e=>!Region.binds .any e||decide (e.on<i))&&(match op.op with|.select ..=>false|_=>true) &&
    (List.range ops.size).all (fun j=>j==i||match fU ops j with
     |none=>true
     |some d=>fU ops i != some d&&(!(op.looksAt ops).contains d||op.after.any (fun e=>Region.binds .any e&&e.on==j))))
structure wJ(ops:Array Oper):Prop where
 low:∀(i:Nat) (op:Oper),ops[i]?=some op->∀e∈op.after,Region.binds .any e=true->e.on<i
 dst:∀i j d,i≠j->fU ops i=some d->fU ops j≠some d
 sel:∀(i:Nat) (op:Oper),ops[i]?=some op->∀cs b,op.op≠.select cs b
 look:∀(i:Nat) (op:Oper),ops[i]?=some op->∀j d,j≠i->fU ops j=some d->d∈op.looksAt ops->∃e∈op.after,Region.binds .any e=true/\e.on=j
section
variable {ops:Array Oper}
theorem EZ(h:Ac ops=true):wJ ops:=by
 simp only[Ac,List.all_eq_true,List.mem_range] at h;have lt:∀(i:Nat) (op:Oper),ops[i]?=some op->i<ops.size:=fun i op ho=>(Array.getElem?_eq_some_iff.1 ho).1;have all:∀(i:Nat) (op:Oper),ops[i]?=some op->(op.after.all (fun e=>!Region.binds .any e||decide (e.on<i))=true/\(match op.op with|.select ..=>false|_=>true)=true) /\
   ∀j,j<ops.size->(j=i\/(match fU ops j with|none=>true|some d=>fU ops i != some d&&(!(op.looksAt ops).contains d||op.after.any (fun e=>Region.binds .any e&&e.on==j)))=true):=by
  intro i op ho;have:=h i (lt i op ho);simp only[ho,kD,List.all_eq_true,List.mem_range,Bool.or_eq_true,beq_iff_eq] at this;exact this
 have E0:∀{j d},fU ops j=some d->∃op,ops[j]?=some op:=fun {j d} hj=>by
  cases ho:ops[j]? with
  |none=>simp[fU,ho] at hj
  |some op=>exact⟨op,rfl⟩
 refine⟨fun i op ho e he hb=>?_,fun i j d DU hi hj=>?_,fun i op ho cs b e=>?_,fun i op ho j d uI hj hl=>?_⟩
 ·have:=(all i op ho).1.1;rw[iV] at this;have:=this e he;simpa[hb] using this
 ·obtain⟨op,ho⟩:=E0 hi;obtain⟨CV,mr⟩:=E0 hj;rcases(all i op ho).2 j (lt j CV mr) with e|e
  ·exact DU e.symm
  ·rw[hj] at e;simp only[kD,bne_iff_ne] at e;exact e.1 hi
 ·have:=(all i op ho).1.2;rw[e] at this;cases this
 ·obtain⟨CV,mr⟩:=E0 hj;rcases(all i op ho).2 j (lt j CV mr) with e|e
  ·exact absurd e uI
  ·rw[hj] at e;simp only[kD,Bool.or_eq_true,aae,List.contains_eq_mem,decide_eq_false_iff_not] at e;rcases e.2 with e|e
   ·exact absurd hl e
   ·simp only[Array.any_eq_true,kD,beq_iff_eq] at e;obtain⟨q,hq,hb,he⟩:=e;exact⟨_,jl hq,hb,he⟩
variable {v:Nat->Value} {a:Act}
theorem wK(H:wJ ops){i:Nat}{op:Oper}(ho:ops[i]?=some op){done:List Nat}(qZ:done.Nodup)(hi:i∉done)(wB:∀e∈op.after,Region.binds .any e=true->e.on∈done):
  ∀x,(∀d,x=.tmp d->d∈op.looksAt ops)->(b9 ops v a done).eval x=(b9 ops v a (List.range i)).eval x:=by
 intro x hx;let p:Nat->Bool:=fun j=>op.after.any fun e=>Region.binds .any e&&e.on==j;have drop:∀l:List Nat,i∉l->(b9 ops v a l).eval x=(b9 ops v a (l.filter p)).eval x:=by
  intro l VO;have hp:=(gz p l).symm;rw[jz H.dst hp,gX];refine nV _ _ fun k hk d hd hl=>?_;obtain⟨J5,SK⟩:=List.mem_filter.1 hk;obtain⟨e,he,hb,rfl⟩:=H.look i op ho k d (fun e=>VO (e▸J5)) hd (hx d hl);simp only[p,aae] at SK;have:(op.after.any fun e'=>Region.binds .any e'&&e'.on==e.on)=true:=by
   rw[gl];exact⟨e,he,by simp[hb]⟩
  rw[this] at SK;cases SK
 rw[drop done hi,drop (List.range i) an];have Qh:(done.filter p).Perm ((List.range i).filter p):=by
  refine(du (qZ.filter _) (List.nodup_range.filter _)).2 fun j=>?_;simp only[List.mem_filter,List.mem_range];constructor
  ·rintro⟨h1,h2⟩;refine⟨?_,h2⟩;simp only[p,Array.any_eq_true',kD,beq_iff_eq] at h2;obtain⟨e,he,hb,rfl⟩:=h2;exact H.low i op ho e he hb
  ·rintro⟨h1,h2⟩;refine⟨?_,h2⟩;simp only[p,Array.any_eq_true',kD,beq_iff_eq] at h2;obtain⟨e,he,hb,rfl⟩:=h2;exact wB e he hb
 rw[jz H.dst Qh]
theorem Kh(H:wJ ops){i:Nat}{op:Oper}(ho:ops[i]?=some op){done:List Nat}(qZ:done.Nodup)(hi:i∉done)(wB:∀e∈op.after,Region.binds .any e=true->e.on∈done):
  Region.wanted op (yielded ops (b9 ops v a done).tmps)=Region.wanted op (yielded ops (b9 ops v a (List.range i)).tmps):=by
 cases hg:op.guard with
 |none=>rw[oy hg,oy hg]
 |some q =>
  obtain⟨g,want⟩:=q;have:yielded ops (b9 ops v a done).tmps g=yielded ops (b9 ops v a (List.range i)).tmps g:=by
   unfold yielded;cases hd:(ops[g]?).bind (·.dst) with
   |none=>rfl
   |some d =>
    have hl:d∈op.looksAt ops:=by simp[Oper.looksAt,hg,hd]
    have he:=wK (v:=v) (a:=a) H ho qZ hi wB (.tmp d) (fun d' e=>by cases e;exact hl);have hs:(b9 ops v a done).tmps.size=(b9 ops v a (List.range i)).tmps.size:=by rw[yS,yS]
    have:(b9 ops v a done).tmps[d]?=(b9 ops v a (List.range i)).tmps[d]?:=by
     simp only[Act.eval,cO] at he;by_cases h1:d<(b9 ops v a done).tmps.size
     ·rw[aG h1,aG (hs▸h1)] at he |-;exact congrArg some he
     ·rw[cb (cL h1),cb (cL (hs▸h1))]
    simp only[Option.bind_some,this]
  simp only[Region.wanted,hg,this]
end
abbrev Kd:=Option (Option Value)
def mY(P:Program)(op:Oper)(a:Act):Value:=match (execOp a.eval op).run P (default:ae) with
 | .ok (.value y) _=>y
 |_=>undef
def Br(P:Program)(kd:Kd)(op:Option Oper)(a:Act)(x:Value):Value:=match kd with
 |some none=>match op with|some op=>mY P op a|none=>undef
 |some (some y)=>y
 |none=>x
def Kd.at(kds:List Kd)(j:Nat):Kd:=kds.getD j none
def um(P:Program)(ops:Array Oper)(kds:List Kd)(v:Nat->Value)(a:Act):Nat->Act
 |0=>a
 |j+1=>(um P ops kds v a j).put (fU ops j) (Br P (Kd.at kds j) ops[j]? (um P ops kds v a j) (v j))
def SM(P:Program)(ops:Array Oper)(kds:List Kd)(v:Nat->Value)(a:Act)(j:Nat):Value:=Br P (Kd.at kds j) ops[j]? (um P ops kds v a j) (v j)
section
variable {P:Program} {ops:Array Oper} {kds:List Kd} {v v':Nat->Value} {a:Act}
theorem pn:∀j,um P ops kds v a j=b9 ops (SM P ops kds v a) a (List.range j):=by
 intro j
 induction j with
 |zero=>rfl
 |succ j ih =>
  rw[List.range_succ,gX,<- ih];rfl
theorem DZ(H:wJ ops){u:Nat->Value}{i:Nat}{op:Oper}(ho:ops[i]?=some op){l:List Nat}(VO:i∉l){x:Operand}(hx:∀d,x=.tmp d->d∈op.looksAt ops):(b9 ops u a l).eval x=(b9 ops u a (l.filter fun j=>op.after.any fun e=>Region.binds .any e&&e.on==j)).eval x:=by
 have hp:=(gz (fun j=>op.after.any fun e=>Region.binds .any e&&e.on==j) l).symm;rw[jz H.dst hp,gX];refine nV _ _ fun k hk d hd hl=>?_;obtain⟨J5,SK⟩:=List.mem_filter.1 hk;obtain⟨e,he,hb,rfl⟩:=H.look i op ho k d (fun e=>VO (e▸J5)) hd (hx d hl);have:(op.after.any fun e'=>Region.binds .any e'&&e'.on==e.on)=true:=by
  rw[gl];exact⟨e,he,by simp[hb]⟩
 rw[this] at SK;cases SK
theorem Ki(H:wJ ops){done:List Nat}(eY:∀j∈done,∀op,ops[j]?=some op->∀e∈op.after,Region.binds .any e=true->e.on∈done)(hv:∀j∈done,v j=v' j):∀j∈done,SM P ops kds v a j=SM P ops kds v' a j:=by
 intro j
 induction j using Nat.strongRecOn with
 |ind j ih =>
  intro hj;unfold SM;rcases hk:Kd.at kds j with _|_|y
  ·exact hv j hj
  ·cases ho:ops[j]? with
   |none=>rfl
   |some op =>
    simp only[Br];unfold mY;rw[execOp_congr op (H.sel j op ho) (ρ:=(um P ops kds v a j).eval) (ρ':=(um P ops kds v' a j).eval)];intro x hx;rw[pn,pn,DZ H ho an (fun d hd=>by subst hd;exact nA hx),DZ H ho an (fun d hd=>by subst hd;exact nA hx) (u:=SM P ops kds v' a)];rw[q9];intro k hk;obtain⟨h1,h2⟩:=List.mem_filter.1 hk;rw[gl] at h2;obtain⟨e,he,hb⟩:=h2;simp only[kD,beq_iff_eq] at hb;obtain⟨hb,rfl⟩:=hb;exact ih _ (List.mem_range.1 h1) (eY j hj op ho e he hb)
  ·rfl
end
def da(P:Program)(ok:Oper->Nat->Kd->Act->Prop)(ops:Array Oper)(K:Act->Prop)(v:Nat->Value):List Nat->List Kd->Act->Prop
 | [],[],a=>K a
 |j::l,x::xs,a=>(∃op,ops[j]?=some op/\ok op j x a)/\da P ok ops K v l xs (a.put (fU ops j) (Br P x ops[j]? a (v j)))
 |_,_,_=>False
theorem fG{P:Program}{ok:Oper->Nat->Kd->Act->Prop}{ops:Array Oper}{K:Act->Prop}{v:Nat->Value}{j:Nat}{l:List Nat}{x:Kd}{xs:List Kd}{a:Act}{op:Oper}{d:Option Tmp}(ho:ops[j]?=some op)(hd:op.dst=d)(ja:ok op j x a){y:Value}(hy:Br P x (some op) a (v j)=y)(h:da P ok ops K v l xs (a.put d y)):da P ok ops K v (j::l) (x::xs) a :=
 ⟨⟨op,ho,ja⟩,by subst hd hy;simpa[fU,ho] using h⟩
theorem cd{P:Program}{ok:Oper->Nat->Kd->Act->Prop}{ops:Array Oper}{K:Act->Prop}{v:Nat->Value}{a:Act}(h:K a):da P ok ops K v [] [] a:=h
theorem da.all{P:Program}{ok:Oper->Nat->Kd->Act->Prop}{ops:Array Oper}{K:Act->Prop}{kds:List Kd}{v:Nat->Value}{a:Act}:∀{m k:Nat} {xs:List Kd},da P ok ops K v (List.range' k m) xs (um P ops kds v a k)->(∀j,j<m->Kd.at kds (k+j)=xs.getD j none) ->
  (∀j op,k<=j->j<k+m->ops[j]?=some op->ok op j (Kd.at kds j) (um P ops kds v a j))/\K (um P ops kds v a (k+m)):=by
 intro m
 induction m with
 |zero =>
  intro k xs h hg;cases xs with
  |nil=>exact⟨fun j op h1 h2=>aa,h⟩
  |cons x l=>exact h.elim
 |succ m ih =>
  intro k xs h hg;cases xs with
  |nil=>rw[gR] at h;exact h.elim
  |cons x l =>
   rw[gR] at h;obtain⟨⟨op,ho,ja⟩,hr⟩:=h;have hx:Kd.at kds k=x:=by have:=hg 0 aa;simpa using this
   have zE:(um P ops kds v a k).put (fU ops k) (Br P x ops[k]? (um P ops kds v a k) (v k))=um P ops kds v a (k+1):=by rw[<- hx];rfl
   rw[zE] at hr;have:=ih (k:=k+1) (xs:=l) hr (fun j hj=>by have:=hg (j+1) aa;rw[show k+(j+1)=k+1+j by omega] at this;simpa using this);refine⟨fun j CV h1 h2 mr=>?_,by rw[show k+(m+1)=k+1+m by omega];exact this.2⟩;by_cases e:j=k
   ·subst e;rw[ho] at mr;cases mr;rw[hx];exact ja
   ·exact this.1 j CV aa aa mr
section
variable {P:Program} {m:Bool} {R:aM->ae->ae->Prop} {Gu:aM->ae->ae->Array Event->Prop} {X:aM->aS->ae->Prop} {fn:FuncId} {Q:Exit->Act->aM->ae->Prop} {a:Act} {o:aM} {w:ae}
theorem full_of{n:Nat}{l:List Nat}(h:l.Nodup)(hl:∀x∈l,x<n)(hn:n<=l.length):∀j,j<n->j∈l:=fun j hj=>aO fun hm=>by
 have:=pg n (j::l) (List.nodup_cons.2 ⟨hm,h⟩) (fun x hx=>by rcases List.mem_cons.1 hx with rfl|hx;exact hj;exact hl x hx);simp at this;omega
theorem D2{n:Nat}{l:List Nat}(h:l.Nodup)(hl:∀x∈l,x<n)(hf:∀j,j<n->j∈l):l.Perm (List.range n) :=
 (du h jK).2 fun j=>⟨fun hj=>List.mem_range.2 (hl j hj),fun hj=>hf j (List.mem_range.1 hj)⟩
def dB(σ:Nat->Option Value)(j:Nat)(y:Value):Nat->Option Value:=fun i=>if i=j then some y else σ i
def wL(ops:Array Oper)(k j:Nat):Bool:=match ops[k]? with
 |some op=>op.after.any fun e=>Region.binds .any e&&e.on==j
 |none=>false
def x6(ops:Array Oper)(k:Nat):List Nat->Nat->Bool
 | [],j=>wL ops k j
 |i::l,j=>wL ops k i&&x6 ops i l j
structure x7(ops:Array Oper)(kds:List Kd)(v:Nat->Value)(j:Nat)(σ:Nat->Option Value):Prop where
 fits:Fits v σ
 sV:∀l i,x6 ops j l i=true->Kd.at kds i=none->σ i=some (v i)
 kF:∀l k,x6 ops k l j=true->σ k=none
theorem x7.done{ops:Array Oper}{kds:List Kd}{v:Nat->Value}{j:Nat}{σ:Nat->Option Value}(h:x7 ops kds v j σ)(i:Nat)(hi:wL ops j i=true):Kd.at kds i=none->σ i=some (v i):=h.sV [] i hi
theorem x7.sg{ops:Array Oper}{kds:List Kd}{v:Nat->Value}{j:Nat}{σ:Nat->Option Value}(h:x7 ops kds v j σ)(k:Nat)(hk:wL ops k j=true):σ k=none:=h.kF [] k hk
theorem D3{ops:Array Oper}{done:List Nat}(eY:∀j∈done,∀op,ops[j]?=some op->∀e∈op.after,Region.binds .any e=true->e.on∈done){k j:Nat}(hk:k∈done)(h:wL ops k j=true):j∈done:=by
 cases ja:ops[k]? with
 |none=>simp[wL,ja] at h
 |some opk =>
  simp only[wL,ja,Array.any_eq_true',kD,beq_iff_eq] at h;obtain⟨e,he,hb,rfl⟩:=h;exact eY k hk opk ja e he hb
theorem vq{ops:Array Oper}{done:List Nat}(eY:∀j∈done,∀op,ops[j]?=some op->∀e∈op.after,Region.binds .any e=true->e.on∈done):∀(l:List Nat) {k j:Nat},k∈done->x6 ops k l j=true->j∈done
 | [],k,j,hk,h=>D3 eY hk h
 |i::l,k,j,hk,h=>by
  simp only[x6,kD] at h;exact vq eY l (D3 eY hk h.1) h.2
def Ad(P:Program)(X:aM->aS->ae->Prop)(fn:FuncId)(ops:Array Oper)(Q:Exit->Act->aM->ae->Prop)(S:(Nat->Option Value)->aM->ae->Prop)(kds:List Kd)(v:Nat->Value)(op:Oper)(j:Nat)(x:Kd)(a:Act):Prop :=
 ∀(A:Act) (rest:List Nat) (σ:Nat->Option Value) (o:aM) (w:ae),(∀y∈op.op.operands,A.eval y=a.eval y)->Region.wanted op (yielded ops A.tmps)=Region.wanted op (yielded ops a.tmps)->x7 ops kds v j σ->(x=none->σ j=none)->S σ o w ->
  (∀y o' w',(match x with|some (some z)=>y=z/\S σ o' w' | some none=>y=mY P op a/\S σ o' w' | none=>S (dB σ j y) o' w')->fu X fn ops rest Q (A.put op.dst y) o' w')->fu X fn ops (j::rest) Q A o w
theorem Ny(W:fg P m R Gu X)(vo:P.follows .mixedOrders=true){id:Nat}{ops:Array Oper}(ja:Ac ops=true)(kds:List Kd){S:(Nat->Option Value)->aM->ae->Prop}(hS:∀σ o w w1,S σ o w->R o w w1->S σ o w1)(Xr:∀σ o (w:ae),S σ o w->S σ o {w with drawn:=w.drawn+1})(Xs:∀w:ae,Gu o w {w with drawn:=w.drawn+1} #[])(h0:S (fun _=>none) o w)(vk:∀v,da P (Ad P X fn ops Q S kds v) ops (fun a'=>∀σ o w,(∀j,j<ops.size->Kd.at kds j=none->σ j=some (v j))->S σ o w->fu X fn ops [] Q a' o w) v (List.range ops.size) kds a):uJ X fn (.region id ops true) Q a o w:=by
 have H:=EZ ja;generalize hn:ops.size=n at vk;have gY:∀v,_:=fun v=>da.all (kds:=kds) (v:=v) (k:=0) (m:=n) (a:=a) (by have:=vk v;rw[il] at this;exact this) (fun j _=>by simp[Kd.at]);let T:List Nat->(Nat->Value)->aM->ae->Prop:=fun dn v o w=>∃σ,Fits v σ/\(∀j,σ j≠none->j∈dn)/\(∀j∈dn,Kd.at kds j=none->σ j=some (v j))/\S σ o w;have key:∀(fuel t:Nat) (ls:Array Bool) (done:List Nat) (v:Nat->Value) (o:aM) (w:ae),T done v o w->ls.size=n->done.Nodup->(∀j,ls.getD j false=true↔j∈done)->(∀j∈done,j<n)->(∀j∈done,∀op,ops[j]?=some op->∀e∈op.after,Region.binds .any e=true->e.on∈done)->fuel+done.length=n ->
   fu X fn ops (Region.linearise.go .any ops fuel t ls []) Q (b9 ops (SM P ops kds v a) a done) o w:=by
  intro fuel
  induction fuel with
  |zero =>
   intro t ls done v o w hw ft qZ DQ bZ eY VI;simp only[Region.linearise.go,List.reverse_nil];have hp:done.Perm (List.range n):=D2 qZ bZ (full_of qZ bZ aa);obtain⟨σ,hf,h1,h2,SL⟩:=hw;rw[jz H.dst hp,<- pn];have:=(gY v).2;rw[bh] at this;exact this σ o w (fun j hj hk=>h2 j (hp.mem_iff.2 (List.mem_range.2 hj)) hk) SL
  |succ fuel ih =>
   intro t ls done v o w hw ft qZ DQ bZ eY VI;simp only[Region.linearise.go];generalize xU:(List.range ops.size).filter (fun i=>!ls.getD i true&&((ops[i]?).map (·.after.all fun e=>!Region.binds .any e||ls.getD e.on false)).getD false)=rs;have mem:∀i,i∈rs↔i<n/\i∉done/\∃op,ops[i]?=some op/\∀e∈op.after,Region.binds .any e=true->e.on∈done:=by
    intro i;rw[<- xU,ix,gy,hn];constructor
    ·rintro⟨h1,h2⟩;simp only[kD,aae] at h2;have lE:i<ls.size:=aa;have e1:ls.getD i true=ls.getD i false:=by simp[cO,lE]
     refine⟨h1,fun hd=>?_,?_⟩
     ·have:=(DQ i).2 hd;rw[<- e1,h2.1] at this;cases this
     ·cases ho:ops[i]? with
      |none=>rw[ho] at h2;simp at h2
      |some op =>
       rw[ho] at h2;refine⟨op,rfl,fun e he yT=>?_⟩;simp only[cR,y7,Array.all_eq_true'] at h2;have:=h2.2 e he;simp only[yT,Bool.not_true,Bool.false_or] at this;exact(DQ e.on).1 this
    ·rintro⟨h1,h2,op,ho,h3⟩;have lE:i<ls.size:=aa;have e1:ls.getD i true=ls.getD i false:=by simp[cO,lE]
     refine⟨h1,?_⟩;simp only[kD,aae];refine⟨?_,?_⟩
     ·rw[e1];cases hx:ls.getD i false with
      |false=>rfl
      |true=>exact absurd ((DQ i).1 hx) h2
     ·rw[ho];simp only[cR,y7,Array.all_eq_true'];intro e he;cases yT:Region.binds .any e with
      |false=>rfl
      |true=>simp only[Bool.not_true,Bool.false_or];exact(DQ e.on).2 (h3 e he yT)
   have cV:rs≠[]:=by
    intro e;have all:∀j,j<n->j∈done:=by
     intro j
     induction j using Nat.strongRecOn with
     |ind j ihj =>
      intro hj;refine aO fun hd=>?_;obtain⟨op,ho⟩:∃op,ops[j]?=some op:=⟨ops[j]'aa,aG aa⟩;have:j∈rs:=(mem j).2 ⟨hj,hd,op,ho,fun e he hb=>ihj _ (H.low j op ho e he hb) (by have:=H.low j op ho e he hb;omega)⟩;rw[e] at this;cases this
    have hle:=(D2 qZ bZ all).length_eq;simp at hle;omega
   have hlen:0<rs.length:=List.length_pos_iff.2 cV;obtain⟨i,hi⟩:∃i,rs[t%rs.length]?=some i:=⟨rs[t%rs.length]'(jh _ hlen),cp _⟩;simp only[hi];rw[go_acc];simp only[List.reverse_cons,List.reverse_nil,List.nil_append,List.cons_append];obtain⟨h1,h2,op,ho,h3⟩:=(mem i).1 (fK hi);obtain⟨σ,hf,I8,A4,SL⟩:=hw;have eu:=(gY v).1 i op (aQ _) aa ho;have hsi:σ i=none:=aO fun h=>h2 (I8 i h);refine eu _ _ σ o w (fun y hy=>?_) ?_ ⟨hf,fun l k hk qh=>A4 _ (by
     have dir:∀k,wL ops i k=true->k∈done:=fun k hk=>by
      simp only[wL,ho,Array.any_eq_true',kD,beq_iff_eq] at hk;obtain⟨e,he,hb,rfl⟩:=hk;exact h3 e he hb
     cases l with
     |nil=>exact dir k hk
     |cons i' l =>
      simp only[x6,kD] at hk;exact vq eY l (dir i' hk.1) hk.2) qh,fun l k hk=>aO fun hsk=>h2 (vq eY l (I8 k hsk) hk)⟩ (fun _=>hsi) SL (fun x o1 w1 ui=>?_)
   ·rw[pn];exact wK H ho qZ h2 h3 y (fun d hd=>by subst hd;exact nA hy)
   ·rw[pn];exact Kh H ho qZ h2 h3
   ·
    have vD:∀j∈done,v j=(fun j=>if j=i then x else v j) j:=fun j hj=>(if_neg (fun(e:j=i)=>h2 (e▸hj))).symm;have dW:=Ki (P:=P) (kds:=kds) (a:=a) H eY vD;have hui:SM P ops kds (fun j=>if j=i then x else v j) a i=x:=by
     have ha:Kd.at kds i=some none->mY P op (um P ops kds (fun j=>if j=i then x else v j) a i)=mY P op (um P ops kds v a i):=fun _=>by
      unfold mY;rw[execOp_congr op (H.sel i op ho) (ρ:=(um P ops kds (fun j=>if j=i then x else v j) a i).eval) (ρ':=(um P ops kds v a i).eval)];intro y hy;have Y8:∀d,y=.tmp d->d∈op.looksAt ops:=fun d hd=>by subst hd;exact nA hy
      rw[pn,pn,<- wK H ho qZ h2 h3 y Y8,<- wK H ho qZ h2 h3 y Y8,q9 done fun j hj=>(dW j hj).symm]
     unfold SM;rcases hk:Kd.at kds i with _|_|z
     ·simp[Br]
     ·simp only[hk] at ui;simp only[Br,ho];rw[ha hk];exact ui.1.symm
     ·simp only[hk] at ui;simp only[Br];exact ui.1.symm
    have e2:(b9 ops (SM P ops kds v a) a done).put op.dst x=b9 ops (SM P ops kds (fun j=>if j=i then x else v j) a) a (done++[i]):=by
     rw[gX,q9 done fun j hj=>(dW j hj).symm];simp[b9,ho,hui]
    rw[e2];refine ih (t/rs.length) (ls.setIfInBounds i true) (done++[i]) _ o1 w1 ?_ (by simp[ft]) ?_ (fun j=>?_) (fun j hj=>?_) (fun j hj CV mr e he yT=>?_) eR
    ·have VQ:∀j y,j≠i->σ j=some y->(if j=i then x else v j)=y:=fun j y e hy=>by rw[if_neg e];exact hf j y hy
     have rest:Kd.at kds i≠none->S σ o1 w1->T (done++[i]) (fun j=>if j=i then x else v j) o1 w1:=fun hk ui=>by
      refine⟨σ,fun j y hy=>?_,fun j hj=>List.mem_append.2 (.inl (I8 j hj)),fun j hj PK=>?_,ui⟩
      ·exact VQ j y (fun e=>by rw[e,hsi] at hy;cases hy) hy
      ·have e:j≠i:=fun e=>hk (e▸PK);simp only[if_neg e];rcases List.mem_append.1 hj with hj|hj
       ·exact A4 j hj PK
       ·simp at hj;exact absurd hj e
     rcases hk:Kd.at kds i with _|_|z
     ·simp only[hk] at ui;refine⟨dB σ i x,fun j y hy=>?_,fun j hj=>?_,fun j hj PK=>?_,ui⟩
      ·by_cases e:j=i
       ·subst e;simp only[dB,if_true] at hy;simp only[if_true];exact aK hy
       ·simp only[dB,if_neg e] at hy;exact VQ j y e hy
      ·by_cases e:j=i
       ·subst e;simp
       ·simp only[dB,if_neg e] at hj;exact List.mem_append.2 (.inl (I8 j hj))
      ·by_cases e:j=i
       ·subst e;simp[dB]
       ·simp only[dB,if_neg e];rcases List.mem_append.1 hj with hj|hj
        ·exact A4 j hj PK
        ·simp at hj;exact absurd hj e
     ·simp only[hk] at ui;exact rest (by rw[hk];simp) ui.2
     ·simp only[hk] at ui;exact rest (by rw[hk];simp) ui.2
    ·exact List.nodup_append.2 ⟨qZ,an,fun x hx y hy=>by simp at hy;subst hy;rintro rfl;exact h2 hx⟩
    ·rw[dZ,iU];by_cases uI:i=j
     ·subst uI;simp[cO,show i<ls.size by omega]
     ·rw[cO,aJ uI,<- cO,DQ j];exact⟨.inl,fun h=>h.elim (fun h=>h) fun h=>absurd h.symm uI⟩
    ·rcases List.mem_append.1 hj with hj|hj
     ·exact bZ j hj
     ·simp at hj;omega
    ·rcases List.mem_append.1 hj with hj|hj
     ·exact List.mem_append.2 (.inl (eY j hj CV mr e he yT))
     ·simp at hj;subst hj;rw[ho] at mr;cases mr;exact List.mem_append.2 (.inl (h3 e he yT))
 intro b k cs hb hk hc;refine W.step o _ w rfl fun w1 pO=>⟨_,_,_,stepG_region_draw,Xs w1,?_⟩;rw[jU o ai];have Qb:∀t,Region.schedule (P.follows .mixedOrders) ops t=Region.linearise.go .any ops n t (Array.replicate n false) []:=by
  intro t;simp[Region.schedule,vo,Region.linearise,hn]
 rw[Qb];have:=key n (w1.tape w1.drawn (.order b.fn id)) (Array.replicate n false) [] (fun _=>undef) o {w1 with drawn:=w1.drawn+1} ⟨fun _=>none,(fun(j:Nat) (y:Value) hy=>by cases hy),(fun j hj=>absurd rfl hj),(fun j hj=>by cases hj),Xr _ _ _ (hS _ o w w1 h0 pO)⟩ an kE (fun j=>?_) an an an
 ·exact this b k cs hb hk hc
 ·simp only[cO,aad,iff_false];by_cases hj:j<n
  ·simp[hj]
  ·simp[hj]
end
section
variable {P:Program} {L:Nat->Bool} {Fin:bH} {d:Nat} {fn:FuncId} {Q:Exit->Act->aM->ae->Prop} {a:Act} {o:aM} {w:ae} {ops:Array Oper}
theorem Ae{l:List Nat}{A:Act}{n:Nat}(h:fu (XB P Fin d) fn ops l Q A o w):fu (XB P Fin d) fn ops l Q A o (w.at n):=fun b k cs hb hk hc=>bJ.rely _ _ _ _ (h b k cs hb hk hc) ⟨n,rfl⟩
theorem dq(vo:P.follows .mixedOrders=true){id:Nat}(ja:Ac ops=true)(kds:List Kd){S:(Nat->Option Value)->aM->ae->Prop}(h0:S (fun _=>none) o w)(vk:∀v,da P (Ad P (XB P Fin d) fn ops Q S kds v) ops (fun a'=>∀σ o w,(∀j,j<ops.size->Kd.at kds j=none->σ j=some (v j))->S σ o w->Q .normal a' o w) v (List.range ops.size) kds a):uJ (XB P Fin d) fn (.region id ops true) Q a o w:=by
 refine Ny (R:=fun _=>AtRel) (Gu:=GuO Fin) bJ vo ja kds (S:=fun σ o w=>∃w0 n,w=w0.at n/\S σ o w0) (fun σ o w w1 h hr=>?_) (fun σ o w h=>?_) (fun w=>⟨an,ag _,rfl,rfl⟩) ⟨w,w.drawn,rfl,h0⟩ fun v=>?_
 ·obtain⟨w0,n,rfl,h⟩:=h;obtain⟨k,rfl⟩:=hr;exact⟨w0,k,rfl,h⟩
 ·obtain⟨w0,n,rfl,h⟩:=h;exact⟨w0,_,rfl,h⟩
 ·have key:∀(l:List Nat) (xs:List Kd) (a:Act),da P (Ad P (XB P Fin d) fn ops Q S kds v) ops (fun a'=>∀σ o w,(∀j,j<ops.size->Kd.at kds j=none->σ j=some (v j))->S σ o w->Q .normal a' o w) v l xs a ->
    da P (Ad P (XB P Fin d) fn ops Q (fun σ o w=>∃w0 n,w=w0.at n/\S σ o w0) kds v) ops (fun a'=>∀σ o w,(∀j,j<ops.size->Kd.at kds j=none->σ j=some (v j))->(∃w0 n,w=w0.at n/\S σ o w0)->fu (XB P Fin d) fn ops [] Q a' o w) v l xs a:=by
   intro l
   induction l with
   |nil =>
    intro xs a h;cases xs with
    |nil =>
     intro σ o w hs hS;obtain⟨w0,n,rfl,hS⟩:=hS;exact Ae (sR bJ (h σ o w0 hs hS))
    |cons x xs=>exact h.elim
   |cons j l ih =>
    intro xs a h;cases xs with
    |nil=>exact h.elim
    |cons x xs =>
     obtain⟨⟨op,ho,hk⟩,hr⟩:=h;refine⟨⟨op,ho,fun A rest σ o w h1 h2 h3 h4 hS hc=>?_⟩,ih xs _ hr⟩;obtain⟨w0,n,rfl,hS⟩:=hS;refine Ae (hk A rest σ o w0 h1 h2 h3 h4 hS fun y o' w' hy=>hc y o' w' ?_);rcases x with _|_|z
     ·exact⟨w',w'.drawn,rfl,hy⟩
     ·exact⟨hy.1,w',w'.drawn,rfl,hy.2⟩
     ·exact⟨hy.1,w',w'.drawn,rfl,hy.2⟩
  exact key _ _ _ (vk v)
def Bs:Op->Bool
 | .select ..=>false
 |_=>true
theorem qs{op:Op}(h:Bs op=true):∀cs b,op≠.select cs b:=fun cs b e=>by rw[e] at h;cases h
variable {S:(Nat->Option Value)->aM->ae->Prop} {kds:List Kd} {v:Nat->Value} {K:Act->Prop} {j:Nat} {l:List Nat} {xs:List Kd} {op:Oper} {dd:Option Tmp}
theorem tM(ho:ops[j]?=some op)(hd:op.dst=dd)(hn:Bs op.op=true)(hw:Region.wanted op (yielded ops a.tmps)=true){y:Value}(cm:∀w1,(execOp a.eval op).run P w1=.ok (.value y) w1)(iH:∀w1,(execOp a.eval op).events P w1 #[]=#[])(h:da P (Ad P (XB P Fin d) fn ops Q S kds v) ops K v l xs (a.put dd y)):da P (Ad P (XB P Fin d) fn ops Q S kds v) ops K v (j::l) (some none::xs) a:=by
 refine fG ho hd (fun A rest σ o w h1 h2 h3 h4 hS hc=>?_) (y:=y) (by simp only[Br];unfold mY;rw[cm]) h;have hex:=execOp_congr op (qs hn) h1;refine kO bJ ho (h2.trans hw) fun w1 hr K hK=>?_;rw[hex,cm w1];simp only[uponK_value];refine hK _ _ ⟨?_,?_⟩
 ·have:listed P fn A op w1=#[]:=by unfold listed;rw[hex,iH w1];exact seen_none P _
  rw[this];exact⟨an,ag _,rfl,rfl⟩
 ·rw[bS];obtain⟨n,rfl⟩:=hr;exact Ae (hc y o w ⟨by unfold mY;rw[cm],hS⟩)
theorem wM(C:Prop)(Y:Value)(ho:ops[j]?=some op)(hd:op.dst=dd)(hn:Bs op.op=true)(hw:Region.wanted op (yielded ops a.tmps)=true)(hC:∀σ o w,x7 ops kds v j σ->S σ o w->C)(cm:C->∀w1,(execOp a.eval op).run P w1=.ok (.value Y) w1)(iH:C->∀w1,(execOp a.eval op).events P w1 #[]=#[])(h:∀y,(C->y=Y)->da P (Ad P (XB P Fin d) fn ops Q S kds v) ops K v l xs (a.put dd y)):da P (Ad P (XB P Fin d) fn ops Q S kds v) ops K v (j::l) (some none::xs) a:=by
 refine fG ho hd (fun A rest σ o w h1 h2 h3 h4 hS hc=>?_) rfl (h _ fun c=>by simp only[Br];unfold mY;rw[cm c]);have c:=hC σ o w h3 hS;have hex:=execOp_congr op (qs hn) h1;refine kO bJ ho (h2.trans hw) fun w1 hr K hK=>?_;rw[hex,cm c w1];simp only[uponK_value];refine hK _ _ ⟨?_,?_⟩
 ·have:listed P fn A op w1=#[]:=by unfold listed;rw[hex,iH c w1];exact seen_none P _
  rw[this];exact⟨an,ag _,rfl,rfl⟩
 ·rw[bS];obtain⟨n,rfl⟩:=hr;exact Ae (hc Y o w ⟨by unfold mY;rw[cm c],hS⟩)
theorem Xz(ho:ops[j]?=some op)(hd:op.dst=dd)(hw:Region.wanted op (yielded ops a.tmps)=false)(h:da P (Ad P (XB P Fin d) fn ops Q S kds v) ops K v l xs (a.put dd undef)):da P (Ad P (XB P Fin d) fn ops Q S kds v) ops K v (j::l) (some (some undef)::xs) a:=by
 refine fG ho hd (fun A rest σ o w h1 h2 h3 h4 hS hc=>?_) rfl h;exact gW bJ ho (h2.trans hw) (hc undef o w ⟨rfl,hS⟩)
theorem bK(cH:qf P L P.globals.size)(ho:ops[j]?=some op)(hd:op.dst=dd)(hn:Bs op.op=true)(hw:Region.wanted op (yielded ops a.tmps)=true)(ja:sE L op.op=true){y:Value}(cm:∀σ o w,x7 ops kds v j σ->S σ o w->bE P L o w/\(∀x∈op.op.operands,Cl P L o (a.eval x))/\∀wl,im o w wl->(execOp a.eval op).run P wl=.ok (.value y) wl)(h:da P (Ad P (XB P Fin d) fn ops Q S kds v) ops K v l xs (a.put dd y)):da P (Ad P (XB P Fin d) fn ops Q S kds v) ops K v (j::l) (some (some y)::xs) a:=by
 refine fG ho hd (fun A rest σ o w h1 h2 h3 h4 hS hc=>?_) rfl h;obtain⟨hF,eY,hr⟩:=cm σ o w h3 hS;have hex:=execOp_congr op (qs hn) h1;exact aP cH hF ho (h2.trans hw) ja (fun x hx=>by rw[h1 x hx];exact eY x hx) rfl (fun wl aE=>by rw[hex];exact hr wl aE) fun _=>hc y o w ⟨rfl,hS⟩
theorem rj(ho:ops[j]?=some op)(hd:op.dst=dd)(hw:Region.wanted op (yielded ops a.tmps)=true){f:FuncId}{fc:Func}{c:Code}{args:Array Operand}{rR:Array TypeId}(eu:op.op=.call {callee:=.value (.func f),args,argTypes:=rR})(hf:P.funcs[f]?=some fc)(gF:(fc.name == "runtime.NumGoroutine")=false)(fo:fc.body=some c){av:Array Value}(has:args.map a.eval=av)(D4:∀σ o w,x7 ops kds v j σ->σ j=none->S σ o w->bp P (XB P Fin d) f av o w fun y o' w'=>S (dB σ j y) o' w')(h:da P (Ad P (XB P Fin d) fn ops Q S kds v) ops K v l xs (a.put dd (v j))):da P (Ad P (XB P Fin d) fn ops Q S kds v) ops K v (j::l) (none::xs) a:=by
 refine fG ho hd (fun A rest σ o w h1 h2 h3 h4 hS hc=>?_) rfl h;exact aF bJ ho (h2.trans hw) eu hf gF fo ((oz eu h1).trans has) rfl ((D4 σ o w h3 (h4 rfl) hS).mono fun y o' w' q=>hc y o' w' q)
theorem iL(ho:ops[j]?=some op)(hd:op.dst=dd)(hw:Region.wanted op (yielded ops a.tmps)=true){f:FuncId}{fc:Func}{c:Code}{args:Array Operand}{rR:Array TypeId}(eu:op.op=.call {callee:=.value (.func f),args,argTypes:=rR})(hf:P.funcs[f]?=some fc)(gF:(fc.name == "runtime.NumGoroutine")=false)(fo:fc.body=some c){av:Array Value}(has:args.map a.eval=av){y:Value}(D4:∀σ o w,x7 ops kds v j σ->S σ o w->bp P (XB P Fin d) f av o w fun y' o' w'=>y'=y/\S σ o' w')(h:da P (Ad P (XB P Fin d) fn ops Q S kds v) ops K v l xs (a.put dd y)):da P (Ad P (XB P Fin d) fn ops Q S kds v) ops K v (j::l) (some (some y)::xs) a:=by
 refine fG ho hd (fun A rest σ o w h1 h2 h3 h4 hS hc=>?_) rfl h;exact aF bJ ho (h2.trans hw) eu hf gF fo ((oz eu h1).trans has) rfl ((D4 σ o w h3 hS).mono fun y o' w' q=>hc y o' w' q)
theorem jg(cH:qf P L P.globals.size)(ho:ops[j]?=some op)(hd:op.dst=dd)(hn:Bs op.op=true)(hw:Region.wanted op (yielded ops a.tmps)=true)(ja:sE L op.op=true)(cm:∀σ o w,x7 ops kds v j σ->σ j=none->S σ o w->bE P L o w/\(∀x∈op.op.operands,Cl P L o (a.eval x))/\∃R:ae->ae->Prop,(∀wl,im o w wl->∃aI,(execOp a.eval op).run P wl=.ok .skip aI/\R wl aI)/\∀wl aI w',im o w wl->R wl aI->kS P L o w w' aI undef->S (dB σ j undef) (grow o w w') w')(h:da P (Ad P (XB P Fin d) fn ops Q S kds v) ops K v l xs (a.put dd (v j))):da P (Ad P (XB P Fin d) fn ops Q S kds v) ops K v (j::l) (none::xs) a:=by
 refine fG ho hd (fun A rest σ o w h1 h2 h3 h4 hS hc=>?_) rfl h;obtain⟨hF,eY,R,hr,hb⟩:=cm σ o w h3 (h4 rfl) hS;have hex:=execOp_congr op (qs hn) h1;exact bD cH hF ho (h2.trans hw) ja (fun x hx=>by rw[h1 x hx];exact eY x hx) rfl (R:=R) (fun wl aE=>by rw[hex];exact hr wl aE) fun wl aI w' k1 k2 k3=>hc undef _ _ (hb wl aI w' k1 k2 k3)
theorem mJ(cH:qf P L P.globals.size)(ho:ops[j]?=some op)(hd:op.dst=dd)(hn:Bs op.op=true)(hw:Region.wanted op (yielded ops a.tmps)=true)(ja:sE L op.op=true)(cm:∀σ o w,x7 ops kds v j σ->σ j=none->S σ o w->bE P L o w/\(∀x∈op.op.operands,Cl P L o (a.eval x))/\∃R:ae->Value->ae->Prop,(∀wl,im o w wl->∃y aI,(execOp a.eval op).run P wl=.ok (.value y) aI/\R wl y aI)/\∀wl y aI w',im o w wl->R wl y aI->kS P L o w w' aI y->S (dB σ j y) (grow o w w') w')(h:da P (Ad P (XB P Fin d) fn ops Q S kds v) ops K v l xs (a.put dd (v j))):da P (Ad P (XB P Fin d) fn ops Q S kds v) ops K v (j::l) (none::xs) a:=by
 refine fG ho hd (fun A rest σ o w h1 h2 h3 h4 hS hc=>?_) rfl h;obtain⟨hF,eY,R,hr,hb⟩:=cm σ o w h3 (h4 rfl) hS;have hex:=execOp_congr op (qs hn) h1;exact cq cH hF ho (h2.trans hw) ja (fun x hx=>by rw[h1 x hx];exact eY x hx) rfl (R:=R) (fun wl aE=>by rw[hex];exact hr wl aE) fun wl y aI w' k1 k2 k3=>hc y _ _ (hb wl y aI w' k1 k2 k3)
end
structure sW(p:Prop):Prop where
 out:p
theorem aA{G G':Prop}(h:G')(f:sW G'->G:=by
  intro h9;try walk_nrm
  repeat (first|(refine vl (by assumption) ?_;simp only[List.size_toArray,List.length_cons,List.length_nil,Nat.reduceAdd,Nat.zero_add,List.range,List.range.loop])|(refine ny (by assumption) rfl rfl ?_ ?_ ?_;(focus (rfl));(focus (intro w1;first|(simp[go_sem];done)|(simp[go_sem, *];done)));intro w1 K hK;go_simp;refine hK _ ?_;clear hK K w1;try walk_nrm)|(refine gW (by assumption) rfl (by rfl) ?_;try walk_nrm)|((first|refine sR (by assumption) ?_|refine A9 (by assumption) ?_|refine ET (by assumption) ?_|refine Ba (by assumption) ?_);try simp only[gN,Qc,wy,cZ,if_true,if_false,reduceIte,Nat.reduceEqDiff])|(refine qY (by assumption) ?_)|(refine xT (by assumption) ?_)|(refine hZ (by assumption) rfl ?_;simp only[if_true,if_false,reduceIte,fl]))
  exact h9.out):G:=f ⟨h⟩
theorem Kj{G G':Prop}(h:G')(f:sW G'->G:=by
  intro h9;try walk_nrm
  repeat (first|(refine vl (by assumption) ?_;simp only[List.size_toArray,List.length_cons,List.length_nil,Nat.reduceAdd,Nat.zero_add,List.range,List.range.loop])|(refine ny (by assumption) rfl rfl ?_ ?_ ?_;(focus (rfl));(focus (intro w1;first|(simp[go_sem];done)|(simp[go_sem, *];done)));intro w1 K hK;go_simp;refine hK _ ?_;clear hK K w1;try walk_nrm)|(refine gW (by assumption) rfl (by rfl) ?_;try walk_nrm)|((first|refine sR (by assumption) ?_|refine A9 (by assumption) ?_|refine ET (by assumption) ?_|refine Ba (by assumption) ?_);try simp only[gN,cZ,if_true,if_false,reduceIte,Nat.reduceEqDiff])|(refine xT (by assumption) ?_)|(refine hZ (by assumption) rfl ?_;simp only[if_true,if_false,reduceIte,fl]))
  exact h9.out):G:=f ⟨h⟩
theorem bO{G G':Prop}(h:G')(f:sW G'->G:=by
  intro h9;try walk_nrm
  repeat (refine tM (y:=?_) rfl rfl rfl (by rfl) (fun w1=>?_) (fun w1=>?_) ?_;rotate_left;(focus (first|(simp[go_sem,Act.eval];rfl)|(simp[go_sem,Act.eval, *];rfl)));(focus (first|(simp[go_sem,Act.eval];done)|(simp[go_sem,Act.eval, *];done)));try walk_nrm)
  exact h9.out):G:=f ⟨h⟩
theorem gA{G G':Prop}(h:G')(f:sW G'->G:=by
  intro h9
  repeat (refine TD (by assumption) rfl rfl ?_ (by assumption) ?_ ?_;(focus (rfl));(focus (intro w1;first|(simp[go_sem];done)|(simp[go_sem, *];done)));intro w1 K hK;go_simp;refine hK _ ?_;clear hK K w1;try walk_nrm)
  exact h9.out):G:=f ⟨h⟩
theorem dp{G G':Prop}(h:G')(f:sW G'->G:=by
  intro h9;simp only[List.size_toArray,List.length_cons,List.length_nil,Nat.reduceAdd,Nat.zero_add,List.range,List.range.loop];exact h9.out):G:=f ⟨h⟩
theorem sX{G G':Prop}(h:G')(f:sW G'->G:=by
  intro h9;refine cu rfl rfl (jL fun o5 w5 my=>⟨?_,?_⟩) ?_;(focus (first|(simp[go_sem];done)|(simp[go_sem, *];done)));(focus (first|(simp[go_sem];done)|(simp[go_sem, *];done)));try walk_nrm
  exact h9.out):G:=f ⟨h⟩
theorem Qs{G G':Prop}(h:G')(f:sW G'->G:=by
  intro h9;refine cu rfl rfl (fun w5 my=>⟨?_,?_⟩) ?_;(focus (first|(simp[go_sem];done)|(simp[go_sem, *];done)));(focus (first|(simp[go_sem];done)|(simp[go_sem, *];done)));try walk_nrm
  exact h9.out):G:=f ⟨h⟩
theorem gG{o:aM}{w:ae}{b j:Nat}{u:Value}{G:Prop}(ox:o b)(c:w.cell? ⟨b,j,none⟩=some u)(f:(∀wl,im o w wl->wl.cell? ⟨b,j,none⟩=some u)->G:=by
  intro h9 wl aE;simp[go_sem,h9 wl aE]):G:=f fun wl aE=>(aE.cell ox).trans c
theorem cj{G T:Prop}(h:T)(f:T->G:=by
  intro h9 y hy;simp[Op.operands] at hy;subst hy;simp[Act.eval];exact h9):G:=f h
theorem dU{G T U:Prop}(h:T)(k:U)(f:T->U->G:=by
  intro h9 k9 y hy;simp[Op.operands] at hy;rcases hy with rfl|rfl
  ·simp[Act.eval];exact h9
  ·simp[Act.eval];exact k9):G:=f h k
section
variable {P:Program} {w:ae} {es:Array Event}
theorem wN(t e:TypeId)(n:Nat)(a:Addr)(kl kh:IntKind)(l h:Int)(ht:P.underlying t=some (.array n e))(h0:0<=l)(h1:l<=h)(h2:h<=n):
  (Instr.sliceAt t (.pointer (some a)) (some (.int kl l)) (some (.int kh h)) none).events P w es=es:=by
 have eh:(h.toNat:Int)=h:=fY aa;have el:(l.toNat:Int)=l:=fY h0;have b1:∀w es,(Instr.sliceBound (.int kh h) n .sliceAlen).events P w es=es:=fun w es=>by
  simp[Instr.sliceBound,asIntOf,Sem.events_bind,show 0<=h by omega,h2]
 have b2:∀w es,(Instr.sliceBound (.int kl l) h.toNat .sliceB).events P w es=es:=fun w es=>by
  simp[Instr.sliceBound,asIntOf,Sem.events_bind,h0,eh,h1]
 simp[Instr.sliceAt,Instr.sliceBounds,Instr.sureAddr,Sem.events_bind,run_underlying ht,run_sliceBound,b1,b2,eh,el,h0,h1,h2,show 0<=h by omega,go_sem]
end
section
variable {P:Program}
theorem vr{w:ae}(f:Value->ah->Sem (ForInStep ah))(hf:∀(n:Int) (r:ah),(f (.int .u8 n) r).run P w=.ok (.yield (r.push (UInt8.ofNat n.toNat))) w)(he:∀(n:Int) (r:ah) (es:Array Event),(f (.int .u8 n) r).events P w es=es):∀(ns:List Int) (s:ah) (es:Array Event),(forIn (ns.map (Value.int .u8)) s f).events P w es=es:=by
 intro ns
 induction ns with
 |nil=>intro s es;simp[Sem.events_pure]
 |cons n ns ih =>
  intro s es;simp only[bU,List.forIn_cons,Sem.events_bind,hf,Result.evThen_ok,he];exact ih _ es
theorem cD{w:ae}{a:Addr}{u v:Value}(es:Array Event)(m:Mode)(hc:w.cell? a=some u)(hf:w.frozen? a=false)(hv:v.oneCell'=true):(store a v m).events P w es=es.push ⟨.cell a,true,m == .atomic⟩:=by
 rw[events_store P w es a v m hv,hc];simp[hf]
theorem uo(w:ae)(src dst e:TypeId)(a:Addr)(ns:List Int)(c:Nat)(es:Array Event)(hs:P.underlying src=some (.slice e))(he:P.underlying e=some (.int .u8))(hd:P.underlying dst=some .string)(hc:∀j (hj:j<ns.length),w.cell? (a.add j)=some (.int .u8 ns[j])):∀ev∈(convert src dst (.slice (some a) ns.length c)).events P w es,ev∈es\/ev.readsIn (fun b=>b=a.block):=by
 have hl:=run_loadCells_list (P:=P) w a (ns.map (Value.int .u8)) (fun j v hj=>by
  obtain⟨h1,h2⟩:=List.getElem?_eq_some_iff.1 hj;rw[hc j (by simpa using h1),<- h2];simp)
 simp only[List.length_map] at hl;intro ev h;have h':ev∈(Conv.bytesToString (.slice (some a) ns.length c)).events P w es:=by
  simpa[convert,run_underlying hs,run_underlying hd,run_underlying he,Sem.events_bind,events_underlying] using h
 simp only[Conv.bytesToString,Sem.events_bind,hl,Result.evThen_ok] at h';rw[List.forIn_toArray,run_forIn_bytes (P:=P) (w:=w) _ (fun n r=>by simp[Sem.run_pure]) ns ByteArray.empty,Result.evThen_ok,vr (P:=P) (w:=w) _ (fun n r=>by simp[Sem.run_pure]) (fun n r es=>by simp[Sem.events_pure]) ns ByteArray.empty,Sem.events_pure] at h';exact events_loadCellsFrom_at a (fun b=>b=a.block) rfl ns.length 0 #[] w es (fun j hj=>by rw[bh,hc j hj];rfl) ev h'
end
end Go.Ren
namespace Go.Proofs.Kz
open Go.Proofs.Tryz
open Go.Proofs.Tryz renaming prog → ar
open _root_.ByteArray renaming empty → aN
open Go.Ren Go.Conc Go.Proofs
section
variable {m:Bool} {R:aM->ae->ae->Prop} {Gu:aM->ae->ae->Array Event->Prop} {X:aM->aS->ae->Prop} {o:aM} {w:ae}
theorem XA(W:fg ar m R Gu X)(n:Int){Post:Value->aM->ae->Prop}(h:bp ar X 209 #[.int .i64 n] o w Post):bp ar X 197 #[.int .i64 n] o w Post:=by
 refine bA W func197 ai ?_;refine aA ?_;refine aF W rfl ai rfl func209 af rfl aC rfl (h.mono fun v o' w' hp=>?_);try walk_nrm
 refine aA ?_;exact⟨.inr trivial,trivial,v,resultsC_tmp (t:=2) ai _,hp⟩
end
end Go.Proofs.Kz
namespace Go.Ren
def TG(P:Program)(L:Nat->Bool)(Gm:Nat)(ex:List Nat)(n:Nat):Bool:=match P.funcs[n]? with
 |some fn=>fn.body.all (jX Gm L)&&((fn.body.isSome&&!(fn.name == "runtime.NumGoroutine"))||ex.contains n)
 |none=>false
theorem Af{P:Program}{L:Nat->Bool}{Gm:Nat}{ex l:List Nat}(ha:l.all (TG P L Gm ex)=true){n:Nat}(h:n∈l):∃fn,P.funcs[n]?=some fn/\fn.body.all (jX Gm L)=true/\((fn.body.isSome=true/\(fn.name == "runtime.NumGoroutine")=false)\/n∈ex):=by
 have hm:=List.all_eq_true.1 ha n h;unfold TG at hm;cases hf:P.funcs[n]? with
 |none=>rw[hf] at hm;cases hm
 |some fn =>
  rw[hf] at hm;simp only[kD,Bool.or_eq_true,aae] at hm;exact⟨fn,rfl,hm.1,hm.2.imp id List.contains_iff_mem.1⟩
end Go.Ren
namespace Go.Proofs.Kz
open Go.Proofs.Tryz
open Go.Proofs.Tryz renaming prog → ar
open _root_.ByteArray renaming empty → aN
open Go.Ren Go.Proofs
def LW(n:Nat):Bool:=[196,199,210,211,212,213,245,247,223,234,235,236,254,255,249,250,251,258,259,262,263].contains n
theorem Qt:([196,199,210,211,212,213,245,247,223,234,235,236,254,255,249,250,251,258,259,262,263]:List Nat).all (TG ar LW 0 [262,263])=true:=af
theorem TH(n:Nat)(hn:LW n=true)(f:Rn)(hf:mC ar f)(hh:∀n,LW n=true->f.h n=n)(args:Array Value):Rel ar f (iI LW f) (callFunc n args) (callFunc n (args.map (val f))):=by
 obtain⟨fn,h1,-,h2⟩:=Af Qt (List.contains_iff_mem.1 (by unfold LW at hn;exact hn));rcases h2 with⟨h2,h3⟩|h2;rotate_left;simp only[gQ,aad,or_false] at h2;rcases h2 with rfl|rfl
 rotate_right
 ·exact DF h1 h2 h3 hn args
 ·exact nn func262 rfl af af rfl (hh _ af) args (we _)
 ·exact nn func263 rfl af af rfl (hh _ af) args (sM hf _ _ _)
theorem XC(hz:∀t i z,ar.info? t=some i->i.zero=some z->∀f:Rn,val f z=z):qf ar LW 0 where
 zero:=hz
 call:=fun n hn=>TH n hn
 body:=fun n hn=>by
  obtain⟨fn,h1,h2,-⟩:=Af Qt (List.contains_iff_mem.1 (by unfold LW at hn;exact hn));exact⟨fn,h1,fun c hc=>by rw[hc] at h2;exact h2⟩
def Qu:Value->Bool
 | .tuple vs=>vs.all AJ
 |v=>AJ v
theorem Kk{v:Value}(h:Qu v=true)(f:Rn):val f v=v:=by
 cases v
 case tuple cs =>
  have hc:cs.all AJ=true:=h;rw[gD] at hc;rw[bL]
  congr 1
  apply iF
  ·simp
  ·intro i h1 h2;simp only[Array.getElem_map];exact vh (hc i h2) f
 all_goals (refine vh ?_ f;exact h)
theorem Kl:(ar.types.all fun i=>i.zero.all Qu)=true:=af
theorem D5:∀t i z,ar.info? t=some i->i.zero=some z->∀f:Rn,val f z=z:=by
 refine JN fun t i z hi hz=>?_;have h:=Kl;rw[iV] at h;have:=h i (ew hi);rw[hz] at this;exact fun f=>Kk this f
theorem gB:ar.globals.size≠1:=by
 have:(ar.globals.size==1)=false:=af;intro h;rw[h] at this;cases this
end Go.Proofs.Kz
namespace Go.Proofs
section
open Go.Shelf
def Tryz.yW:Go.Shelf.Ren:=⟨fun|156=>234|165=>249|166=>250|169=>251|240=>258|241=>259|276=>262|277=>263|n=>n,fun|31=>40|9=>9|3=>3|4=>4|0=>0|20=>20|72=>332|76=>335|70=>330|37=>90|75=>334|127=>344|164=>116|5=>5|80=>337|n=>n,fun|n=>n⟩
theorem Tryz.TJ:Go.Proofs.Lays.n156 Tryz.prog Tryz.yW:={
 mixed:=af
 f156:=Tryz.func234.trans (congrArg some af)
 f165:=Tryz.func249.trans (congrArg some af)
 f166:=Tryz.func250.trans (congrArg some af)
 f169:=Tryz.func251.trans (congrArg some af)
 f240:=Tryz.func258.trans (congrArg some af)
 f241:=Tryz.func259.trans (congrArg some af)
 f276:=Tryz.func262.trans (congrArg some af)
 f277:=Tryz.func263.trans (congrArg some af)
 t0:=underlying0
 a0:=isAgg0
 z0:=sizeOf0
 v0:=zeroValue0
 t3:=underlying3
 a3:=isAgg3
 z3:=sizeOf3
 v3:=zeroValue3
 t4:=underlying4
 a4:=isAgg4
 z4:=sizeOf4
 v4:=zeroValue4
 t9:=underlying9
 a9:=isAgg9
 z9:=sizeOf9
 v9:=zeroValue9
 t20:=underlying20
 a20:=isAgg20
 z20:=sizeOf20
 v20:=zeroValue20
 t31:=underlying40
 a31:=isAgg40
 z31:=sizeOf40
 v31:=zeroValue40
 t37:=underlying90
 a37:=isAgg90
 z37:=sizeOf90
 v37:=zeroValue90
 t70:=underlying330
 a70:=isAgg330
 z70:=sizeOf330
 v70:=zeroValue330
 t72:=underlying332
 a72:=isAgg332
 z72:=sizeOf332
 v72:=zeroValue332
 t75:=underlying334
 a75:=isAgg334
 z75:=sizeOf334
 v75:=zeroValue334
 t76:=underlying335
 a76:=isAgg335
 z76:=sizeOf335
 v76:=zeroValue335
 t127:=underlying344
 a127:=isAgg344
 z127:=sizeOf344
 v127:=zeroValue344
 t164:=underlying116
 a164:=isAgg116
 z164:=sizeOf116
 v164:=zeroValue116}
theorem Tryz.wO:Builder.Extra Tryz.prog Tryz.yW:={
 sizeBuilder:=af
 liesBuilder:=af
 t5:=underlying5
 a5:=isAgg5
 z5:=sizeOf5
 v5:=zeroValue5
 infoByte:=af
 cellsByte:=af
 sizeByte:=af
 neB5:=by decide}
open Go.RowKit in
theorem Tryz.strings_Join(bk o c:Nat)(xs:List ah)(sep:ah)(w:ae)(sY:∀(j:Nat) x,xs[j]?=some x->w.cell? ⟨bk,o+j,none⟩=some (.string x))(ba:bk<w.heap.size)(hN:xs.length<=140737488355328)(E1:xs.length<=c)(hlen:(Lib.join (xs.map (·.data.toList)) sep.data.toList).length<=140737488355328):
  Calls Tryz.prog 234 #[.slice (some ⟨bk,o,none⟩) xs.length c,.string sep] w fun e w'=>e=.returned (.string ⟨(Lib.join (xs.map (·.data.toList)) sep.data.toList).toArray⟩)/\Below w.heap.size w w':=Any.strings_Join Tryz.TJ Tryz.wO bk o c xs sep w sY ba hN E1 hlen
def Tryz.Ho:Go.Shelf.Ren:=⟨fun|106=>187|213=>206|265=>224|n=>n,fun|9=>9|3=>3|n=>n,fun|n=>n⟩
theorem Tryz.TK:Go.Proofs.Lays.n106 Tryz.prog Tryz.Ho:={
 mixed:=af
 f106:=Tryz.func187.trans (congrArg some af)
 f213:=Tryz.func206.trans (congrArg some af)
 f265:=Tryz.func224.trans (congrArg some af)
 t3:=underlying3
 a3:=isAgg3
 z3:=sizeOf3
 v3:=zeroValue3
 t9:=underlying9
 a9:=isAgg9
 z9:=sizeOf9
 v9:=zeroValue9}
open Go.RowKit in
theorem Tryz.strings_Compare(a b:ah)(w:ae):
  Calls Tryz.prog 187 #[.string a,.string b] w fun e w'=>e=.returned (.int .i64 (Lib.compareBytes a.data.toList b.data.toList))/\w'=w:=Any.strings_Compare Tryz.TK a b w
def Tryz.Hp:Go.Shelf.Ren:=⟨fun|129=>223|n=>n,fun|53=>212|3=>3|4=>4|46=>223|5=>5|9=>9|n=>n,fun|n=>n⟩
theorem Tryz.TL:Go.Proofs.Lays.n129 Tryz.prog Tryz.Hp:={
 mixed:=af
 f129:=Tryz.func223.trans (congrArg some af)
 t3:=underlying3
 a3:=isAgg3
 z3:=sizeOf3
 v3:=zeroValue3
 t4:=underlying4
 a4:=isAgg4
 z4:=sizeOf4
 v4:=zeroValue4
 t5:=underlying5
 a5:=isAgg5
 z5:=sizeOf5
 v5:=zeroValue5
 t9:=underlying9
 a9:=isAgg9
 z9:=sizeOf9
 v9:=zeroValue9
 t46:=underlying223
 a46:=isAgg223
 z46:=sizeOf223
 v46:=zeroValue223
 t53:=underlying212
 a53:=isAgg212
 z53:=sizeOf212
 v53:=zeroValue212}
theorem Tryz.bits_Len64(x:Int)(w:ae)(h0:0<=x)(h1:x<=18446744073709551615):
  Calls Tryz.prog 223 #[.int .u64 x] w fun e w'=>e=.returned (.int .i64 (Lib.bitLen x.toNat))/\w'=w:=Any.bits_Len64 Tryz.TL x w h0 h1
def Tryz.Hq:Go.Shelf.Ren:=⟨fun|317=>254|n=>n,fun|3=>3|46=>223|n=>n,fun|n=>n⟩
theorem Tryz.TM:Go.Proofs.Lays.n317 Tryz.prog Tryz.Hq:={
 mixed:=af
 f317:=Tryz.func254.trans (congrArg some af)
 t3:=underlying3
 a3:=isAgg3
 z3:=sizeOf3
 v3:=zeroValue3
 t46:=underlying223
 a46:=isAgg223
 z46:=sizeOf223
 v46:=zeroValue223}
open Go.Lib in
theorem Tryz.internal_strconv_log10Pow2(x:Nat)(h:x<=64)(w:ae):
  Calls Tryz.prog 254 #[.int .i64 x] w fun e w'=>e=.returned (.int .i64 (Lib.l10 x))/\w'=w:=Any.internal_strconv_log10Pow2 Tryz.TM x h w
def Tryz.Hr:Go.Shelf.Ren:=⟨fun|318=>255|n=>n,fun|3=>3|4=>4|n=>n,fun|n=>n⟩
theorem Tryz.TN:Go.Proofs.Lays.n318 Tryz.prog Tryz.Hr:={
 mixed:=af
 f318:=Tryz.func255.trans (congrArg some af)
 t3:=underlying3
 a3:=isAgg3
 z3:=sizeOf3
 v3:=zeroValue3
 t4:=underlying4
 a4:=isAgg4
 z4:=sizeOf4
 v4:=zeroValue4}
open Go.Lib in
theorem Tryz.internal_strconv_bool2_int(b:Bool)(w:ae):
  Calls Tryz.prog 255 #[.bool b] w fun e w'=>e=.returned (.int .i64 (if b then 1 else 0))/\w'=w:=Any.internal_strconv_bool2_int Tryz.TN b w
def Tryz.Hs:Go.Shelf.Ren:=⟨fun|283=>245|n=>n,fun|3=>3|9=>9|4=>4|n=>n,fun|n=>n⟩
theorem Tryz.TO:Go.Proofs.Lays.n283 Tryz.prog Tryz.Hs:={
 mixed:=af
 f283:=Tryz.func245.trans (congrArg some af)
 t3:=underlying3
 a3:=isAgg3
 z3:=sizeOf3
 v3:=zeroValue3
 t4:=underlying4
 a4:=isAgg4
 z4:=sizeOf4
 v4:=zeroValue4
 t9:=underlying9
 a9:=isAgg9
 z9:=sizeOf9
 v9:=zeroValue9}
open Go.Lib in
theorem Tryz.internal_strconv_small(i:Nat)(h:i<100)(w:ae):
  Calls Tryz.prog 245 #[.int .i64 i] w fun e w'=>e=.returned (.string ⟨(Lib.decDigits i).toArray⟩)/\w'=w:=Any.internal_strconv_small Tryz.TO i h w
def Tryz.Ht:Go.Shelf.Ren:=⟨fun|285=>247|n=>n,fun|37=>90|53=>212|3=>3|4=>4|51=>102|9=>9|5=>5|0=>0|n=>n,fun|n=>n⟩
theorem Tryz.TP:Go.Proofs.Lays.n285 Tryz.prog Tryz.Ht:={
 mixed:=af
 f285:=Tryz.func247.trans (congrArg some af)
 t0:=underlying0
 a0:=isAgg0
 z0:=sizeOf0
 v0:=zeroValue0
 t3:=underlying3
 a3:=isAgg3
 z3:=sizeOf3
 v3:=zeroValue3
 t4:=underlying4
 a4:=isAgg4
 z4:=sizeOf4
 v4:=zeroValue4
 t5:=underlying5
 a5:=isAgg5
 z5:=sizeOf5
 v5:=zeroValue5
 t9:=underlying9
 a9:=isAgg9
 z9:=sizeOf9
 v9:=zeroValue9
 t37:=underlying90
 a37:=isAgg90
 z37:=sizeOf90
 v37:=zeroValue90
 t51:=underlying102
 a51:=isAgg102
 z51:=sizeOf102
 v51:=zeroValue102
 t53:=underlying212
 a53:=isAgg212
 z53:=sizeOf212
 v53:=zeroValue212}
open Go.RowKit Go.Sort Go.Lib in
theorem Tryz.internal_strconv_formatBase10(blk off cap:Nat)(u:Nat)(d:Array UInt8)(w:ae)(hH:Holds (fun(b:UInt8)=>Value.int .u8 (b.toNat:Int)) w blk off d)(hu:u<10^d.size)(aeX:u<18446744073709551616)(ft:d.size<4611686018427387904):
  Calls Tryz.prog 247 #[.slice (some ⟨blk,off,none⟩) d.size cap,.int .u64 u] w fun e w' =>
   e=.returned (.tuple #[])/\∃(n v':Nat) (dk:Array UInt8),w'=(putRow (fun(b:UInt8)=>Value.int .u8 (b.toNat:Int)) w blk off dk).drewN n/\FmtInv d.size u 0 v' dk:=Any.internal_strconv_formatBase10 Tryz.TP blk off cap u d w hH hu aeX ft
def Tryz.Hu:Go.Shelf.Ren:=⟨fun|190=>188|125=>205|258=>207|128=>222|129=>223|302=>225|303=>226|304=>227|305=>228|306=>229|307=>230|308=>118|309=>231|310=>232|333=>242|329=>238|330=>239|334=>243|335=>244|336=>168|344=>253|n=>n,fun|31=>40|9=>9|3=>3|46=>223|0=>0|51=>102|53=>212|4=>4|183=>304|182=>303|131=>156|5=>5|218=>319|222=>322|228=>338|229=>170|n=>n,fun|n=>n⟩
theorem Tryz.TQ:Go.Proofs.Lays.n190 Tryz.prog Tryz.Hu:={
 mixed:=af
 f125:=Tryz.func205.trans (congrArg some af)
 f128:=Tryz.func222.trans (congrArg some af)
 f129:=Tryz.func223.trans (congrArg some af)
 f190:=Tryz.func188.trans (congrArg some af)
 f258:=Tryz.func207.trans (congrArg some af)
 f302:=Tryz.func225.trans (congrArg some af)
 f303:=Tryz.func226.trans (congrArg some af)
 f304:=Tryz.func227.trans (congrArg some af)
 f305:=Tryz.func228.trans (congrArg some af)
 f306:=Tryz.func229.trans (congrArg some af)
 f307:=Tryz.func230.trans (congrArg some af)
 f308:=Tryz.func118.trans (congrArg some af)
 f309:=Tryz.func231.trans (congrArg some af)
 f310:=Tryz.func232.trans (congrArg some af)
 f329:=Tryz.func238.trans (congrArg some af)
 f330:=Tryz.func239.trans (congrArg some af)
 f333:=Tryz.func242.trans (congrArg some af)
 f334:=Tryz.func243.trans (congrArg some af)
 f335:=Tryz.func244.trans (congrArg some af)
 f336:=Tryz.func168.trans (congrArg some af)
 f344:=Tryz.func253.trans (congrArg some af)
 t0:=underlying0
 a0:=isAgg0
 z0:=sizeOf0
 v0:=zeroValue0
 t3:=underlying3
 a3:=isAgg3
 z3:=sizeOf3
 v3:=zeroValue3
 t4:=underlying4
 a4:=isAgg4
 z4:=sizeOf4
 v4:=zeroValue4
 t5:=underlying5
 a5:=isAgg5
 z5:=sizeOf5
 v5:=zeroValue5
 t9:=underlying9
 a9:=isAgg9
 z9:=sizeOf9
 v9:=zeroValue9
 t31:=underlying40
 a31:=isAgg40
 z31:=sizeOf40
 v31:=zeroValue40
 t46:=underlying223
 a46:=isAgg223
 z46:=sizeOf223
 v46:=zeroValue223
 t51:=underlying102
 a51:=isAgg102
 z51:=sizeOf102
 v51:=zeroValue102
 t53:=underlying212
 a53:=isAgg212
 z53:=sizeOf212
 v53:=zeroValue212
 t131:=underlying156
 a131:=isAgg156
 z131:=sizeOf156
 v131:=zeroValue156
 t182:=underlying303
 a182:=isAgg303
 z182:=sizeOf303
 v182:=zeroValue303
 t183:=underlying304
 a183:=isAgg304
 z183:=sizeOf304
 v183:=zeroValue304
 t218:=underlying319
 a218:=isAgg319
 z218:=sizeOf319
 v218:=zeroValue319
 t222:=underlying322
 a222:=isAgg322
 z222:=sizeOf322
 v222:=zeroValue322
 t228:=underlying338
 a228:=isAgg338
 z228:=sizeOf338
 v228:=zeroValue338
 t229:=underlying170
 a229:=isAgg170
 z229:=sizeOf170
 v229:=zeroValue170}
open Go.Sort Go.RowKit in
theorem Tryz.slices_Sort_string(blk off cap:Nat)(ss:List (List UInt8))(w:ae)(hH:Holds encStr w blk off ss.toArray)(Nl:blk<w.heap.size)(ft:ss.length<4611686018427387904):
  Calls Tryz.prog 188 #[.slice (some ⟨blk,off,none⟩) ss.length cap] w fun e w' =>
   e=.returned (.tuple #[])/\∃n os,w'=grow (putRow encStr (Sort.ahead w n) blk off (ss.mergeSort fun x y=>decide (x<=y)).toArray) os:=Any.slices_Sort_string Tryz.TQ blk off cap ss w hH Nl ft
def Tryz.Hv:Go.Shelf.Ren:=⟨fun|107=>190|108=>208|n=>n,fun|28=>130|3=>3|4=>4|0=>0|n=>n,fun|n=>n⟩
theorem Tryz.TR:Go.Proofs.Lays.n107 Tryz.prog Tryz.Hv:={
 mixed:=af
 f107:=Tryz.func190.trans (congrArg some af)
 f108:=Tryz.func208.trans (congrArg some af)
 t0:=underlying0
 a0:=isAgg0
 z0:=sizeOf0
 v0:=zeroValue0
 t3:=underlying3
 a3:=isAgg3
 z3:=sizeOf3
 v3:=zeroValue3
 t4:=underlying4
 a4:=isAgg4
 z4:=sizeOf4
 v4:=zeroValue4
 t28:=underlying130
 a28:=isAgg130
 z28:=sizeOf130
 v28:=zeroValue130}
open Go.Lib in
theorem Tryz.slices_Contains_int(b off n c:Nat)(zs:List Int)(x:Int)(w:ae)(hz:n<=zs.length)(Bt:n<=9223372036854775807)(hc:∀j,j<zs.length->w.cell? ⟨b,off+j,none⟩=some (.int .i64 (zs.getD j 0))):
  Calls Tryz.prog 190 #[.slice (some ⟨b,off,none⟩) n c,.int .i64 x] w fun e w'=>e=.returned (.bool ((zs.take n).contains x))/\w'=w:=Any.slices_Contains_int Tryz.TR b off n c zs x w hz Bt hc
def Tryz.Hw:Go.Shelf.Ren:=⟨fun|110=>80|109=>128|n=>n,fun|31=>40|9=>9|4=>4|3=>3|0=>0|n=>n,fun|n=>n⟩
theorem Tryz.LR:Go.Proofs.Lays.n110 Tryz.prog Tryz.Hw:={
 mixed:=af
 f109:=Tryz.func128.trans (congrArg some af)
 f110:=Tryz.func80.trans (congrArg some af)
 t0:=underlying0
 a0:=isAgg0
 z0:=sizeOf0
 v0:=zeroValue0
 t3:=underlying3
 a3:=isAgg3
 z3:=sizeOf3
 v3:=zeroValue3
 t4:=underlying4
 a4:=isAgg4
 z4:=sizeOf4
 v4:=zeroValue4
 t9:=underlying9
 a9:=isAgg9
 z9:=sizeOf9
 v9:=zeroValue9
 t31:=underlying40
 a31:=isAgg40
 z31:=sizeOf40
 v31:=zeroValue40}
open Go.Lib in
theorem Tryz.slices_Contains_string(b off n c:Nat)(zs:List ah)(x:ah)(w:ae)(hz:n<=zs.length)(Bt:n<=9223372036854775807)(hc:∀j,j<zs.length->w.cell? ⟨b,off+j,none⟩=some (.string (zs.getD j ByteArray.empty))):
  Calls Tryz.prog 80 #[.slice (some ⟨b,off,none⟩) n c,.string x] w fun e w'=>e=.returned (.bool (Lib.containsS (zs.take n) x))/\w'=w:=Any.slices_Contains_string Tryz.LR b off n c zs x w hz Bt hc
open Go.Lib in
theorem Tryz.slices_Contains_string_empty(a:Option Addr)(c:Nat)(x:ah)(w:ae):
  Calls Tryz.prog 80 #[.slice a 0 c,.string x] w fun e w'=>e=.returned (.bool false)/\w'=w:=Any.slices_Contains_string_empty Tryz.LR a c x w
def Tryz.CY:Go.Shelf.Ren:=⟨fun|16=>51|n=>n,fun|24=>40|9=>9|4=>4|n=>n,fun|n=>n⟩
theorem Tryz.x8:Go.Proofs.Lays2.n16 Tryz.prog Tryz.CY:={
 mixed:=af
 f16:=Tryz.func51.trans (congrArg some af)
 t4:=underlying4
 a4:=isAgg4
 z4:=sizeOf4
 v4:=zeroValue4
 t9:=underlying9
 a9:=isAgg9
 z9:=sizeOf9
 v9:=zeroValue9
 t24:=underlying40
 a24:=isAgg40
 z24:=sizeOf40
 v24:=zeroValue40
 i9:=by kernel_rfl}
open Go.RowKit Go.Lib in
theorem Tryz.slices_Clone_string(b off n c:Nat)(zs:List ah)(w:ae)(hz:n<=zs.length)(Bt:n*16<=140737488355328)(hc:∀j,j<zs.length->w.cell? ⟨b,off+j,none⟩=some (.string (zs.getD j ByteArray.empty))):
  Calls Tryz.prog 51 #[.slice (some ⟨b,off,none⟩) n c] w fun e w'=>∃v',e=.returned v'/\w'.ownsRow w.heap.size 9 1 v' n ((zs.take n).map (Value.string))/\v'≠.slice none 0 0/\Below w.heap.size w w':=Any.slices_Clone_string Tryz.x8 b off n c zs w hz Bt hc
open Go.RowKit Go.Lib in
theorem Tryz.slices_Clone_string_nil(n c:Nat)(w:ae):
  Calls Tryz.prog 51 #[.slice none n c] w fun e w'=>e=.returned (.slice none 0 0)/\w'=w:=Any.slices_Clone_string_nil Tryz.x8 n c w
open Go.RowKit Go.Lib in
theorem Tryz.slices_Clone_string_zero(a:Addr)(c:Nat)(w:ae):
  Calls Tryz.prog 51 #[.slice (some a) 0 c] w fun e w'=>∃v',e=.returned v'/\w'.ownsRow w.heap.size 9 1 v' 0 []/\v'≠.slice none 0 0/\Below w.heap.size w w':=Any.slices_Clone_string_zero Tryz.x8 a c w
def Tryz.Hy:Go.Shelf.Ren:=⟨fun|194=>189|n=>n,fun|31=>40|9=>9|3=>3|4=>4|0=>0|n=>n,fun|n=>n⟩
theorem Tryz.LS:Go.Proofs.Lays.n194 Tryz.prog Tryz.Hy:={
 mixed:=af
 f194:=Tryz.func189.trans (congrArg some af)
 t0:=underlying0
 a0:=isAgg0
 z0:=sizeOf0
 v0:=zeroValue0
 t3:=underlying3
 a3:=isAgg3
 z3:=sizeOf3
 v3:=zeroValue3
 t4:=underlying4
 a4:=isAgg4
 z4:=sizeOf4
 v4:=zeroValue4
 t9:=underlying9
 a9:=isAgg9
 z9:=sizeOf9
 v9:=zeroValue9
 t31:=underlying40
 a31:=isAgg40
 z31:=sizeOf40
 v31:=zeroValue40}
open Go.RowKit Go.Lib Go.Sort in
theorem Tryz.slices_Compact_string(blk off cap:Nat)(zs:List (List UInt8))(w:ae)(hH:Holds encStr w blk off zs.toArray)(ft:zs.length<=9223372036854775807)(E1:zs.length<=cap):
  Calls Tryz.prog 189 #[.slice (some ⟨blk,off,none⟩) zs.length cap] w fun e w'=>e=.returned (.slice (some ⟨blk,off,none⟩) (Lib.compact zs).length cap)/\∃q,w'=putRow encStr (Sort.ahead w q) blk off (Lib.compact zs++List.replicate (zs.length-(Lib.compact zs).length) []).toArray:=Any.slices_Compact_string Tryz.LS blk off cap zs w hH ft E1
open Go.RowKit Go.Lib Go.Sort in
theorem Tryz.slices_Compact_string_empty(a:Option Addr)(cap:Nat)(w:ae):
  Calls Tryz.prog 189 #[.slice a 0 cap] w fun e w'=>e=.returned (.slice a 0 cap)/\w'=w:=Any.slices_Compact_string_empty Tryz.LS a cap w
def Tryz.CZ:Go.Shelf.Ren:=⟨fun|19=>236|n=>n,fun|24=>40|9=>9|3=>3|4=>4|20=>20|0=>0|n=>n,fun|n=>n⟩
theorem Tryz.Nz:Go.Proofs.Lays2.n19 Tryz.prog Tryz.CZ:={
 mixed:=af
 f19:=Tryz.func236.trans (congrArg some af)
 t0:=underlying0
 a0:=isAgg0
 z0:=sizeOf0
 v0:=zeroValue0
 t3:=underlying3
 a3:=isAgg3
 z3:=sizeOf3
 v3:=zeroValue3
 t4:=underlying4
 a4:=isAgg4
 z4:=sizeOf4
 v4:=zeroValue4
 t9:=underlying9
 a9:=isAgg9
 z9:=sizeOf9
 v9:=zeroValue9
 t20:=underlying20
 a20:=isAgg20
 z20:=sizeOf20
 v20:=zeroValue20
 t24:=underlying40
 a24:=isAgg40
 z24:=sizeOf40
 v24:=zeroValue40}
open Go.RowKit Go.Lib in
theorem Tryz.slices_Min_string(b off n c:Nat)(zs:List ah)(w:ae)(hn:0<n)(hz:n<=zs.length)(Bt:n<=9223372036854775807)(hc:∀j,j<zs.length->w.cell? ⟨b,off+j,none⟩=some (.string (zs.getD j ByteArray.empty))):
  Calls Tryz.prog 236 #[.slice (some ⟨b,off,none⟩) n c] w fun e w'=>e=.returned (.string (Lib.minOfS (zs.take n)))/\w'=w:=Any.slices_Min_string Tryz.Nz b off n c zs w hn hz Bt hc
def Tryz.C0:Go.Shelf.Ren:=⟨fun|6=>185|15=>205|14=>204|28=>222|29=>223|20=>214|21=>215|22=>216|23=>217|24=>218|25=>219|26=>220|27=>221|46=>237|47=>238|48=>239|49=>240|50=>241|57=>252|n=>n,fun|22=>35|24=>42|25=>247|3=>3|39=>223|0=>0|53=>102|55=>212|4=>4|46=>304|45=>303|50=>156|5=>5|9=>9|66=>319|70=>322|76=>338|77=>170|n=>n,fun|n=>n⟩
theorem Tryz.NA:Go.Proofs.SlLaysF0.n6 Tryz.prog Tryz.C0:={
 mixed:=af
 f6:=⟨Tryz.f185.name,dh,Tryz.func185.trans (congrArg some af)⟩
 f14:=⟨Tryz.f204.name,dh,Tryz.func204.trans (congrArg some af)⟩
 f15:=Tryz.func205.trans (congrArg some af)
 f20:=⟨Tryz.f214.name,dh,Tryz.func214.trans (congrArg some af)⟩
 f21:=⟨Tryz.f215.name,dh,Tryz.func215.trans (congrArg some af)⟩
 f22:=⟨Tryz.f216.name,dh,Tryz.func216.trans (congrArg some af)⟩
 f23:=⟨Tryz.f217.name,dh,Tryz.func217.trans (congrArg some af)⟩
 f24:=⟨Tryz.f218.name,dh,Tryz.func218.trans (congrArg some af)⟩
 f25:=⟨Tryz.f219.name,dh,Tryz.func219.trans (congrArg some af)⟩
 f26:=⟨Tryz.f220.name,dh,Tryz.func220.trans (congrArg some af)⟩
 f27:=⟨Tryz.f221.name,dh,Tryz.func221.trans (congrArg some af)⟩
 f28:=Tryz.func222.trans (congrArg some af)
 f29:=Tryz.func223.trans (congrArg some af)
 f46:=⟨Tryz.f237.name,dh,Tryz.func237.trans (congrArg some af)⟩
 f47:=Tryz.func238.trans (congrArg some af)
 f48:=Tryz.func239.trans (congrArg some af)
 f49:=⟨Tryz.f240.name,dh,Tryz.func240.trans (congrArg some af)⟩
 f50:=⟨Tryz.f241.name,dh,Tryz.func241.trans (congrArg some af)⟩
 f57:=⟨Tryz.f252.name,dh,Tryz.func252.trans (congrArg some af)⟩
 t0:=underlying0
 a0:=isAgg0
 z0:=sizeOf0
 v0:=zeroValue0
 t3:=underlying3
 a3:=isAgg3
 z3:=sizeOf3
 v3:=zeroValue3
 t4:=underlying4
 a4:=isAgg4
 z4:=sizeOf4
 v4:=zeroValue4
 t5:=underlying5
 a5:=isAgg5
 z5:=sizeOf5
 v5:=zeroValue5
 t9:=underlying9
 a9:=isAgg9
 z9:=sizeOf9
 v9:=zeroValue9
 t22:=underlying35
 a22:=isAgg35
 z22:=sizeOf35
 v22:=zeroValue35
 t25:=underlying247
 a25:=isAgg247
 z25:=sizeOf247
 v25:=zeroValue247
 t39:=underlying223
 a39:=isAgg223
 z39:=sizeOf223
 v39:=zeroValue223
 t45:=underlying303
 a45:=isAgg303
 z45:=sizeOf303
 v45:=zeroValue303
 t46:=underlying304
 a46:=isAgg304
 z46:=sizeOf304
 v46:=zeroValue304
 t50:=underlying156
 a50:=isAgg156
 z50:=sizeOf156
 v50:=zeroValue156
 t53:=underlying102
 a53:=isAgg102
 z53:=sizeOf102
 v53:=zeroValue102
 t55:=underlying212
 a55:=isAgg212
 z55:=sizeOf212
 v55:=zeroValue212
 t66:=underlying319
 a66:=isAgg319
 z66:=sizeOf319
 v66:=zeroValue319
 t70:=underlying322
 a70:=isAgg322
 z70:=sizeOf322
 v70:=zeroValue322
 t76:=underlying338
 a76:=isAgg338
 z76:=sizeOf338
 v76:=zeroValue338
 t77:=underlying170
 a77:=isAgg170
 z77:=sizeOf170
 v77:=zeroValue170}
def Tryz.Hz:Go.Shelf.Ren:=⟨fun|125=>205|128=>222|129=>223|n=>n,fun|46=>223|3=>3|51=>102|53=>212|4=>4|5=>5|9=>9|n=>n,fun|n=>n⟩
theorem Tryz.bitsLen:Go.Proofs.Lays.n125 Tryz.prog Tryz.Hz:={
 mixed:=af
 f125:=Tryz.func205.trans (congrArg some af)
 f128:=Tryz.func222.trans (congrArg some af)
 f129:=Tryz.func223.trans (congrArg some af)
 t3:=underlying3
 a3:=isAgg3
 z3:=sizeOf3
 v3:=zeroValue3
 t4:=underlying4
 a4:=isAgg4
 z4:=sizeOf4
 v4:=zeroValue4
 t5:=underlying5
 a5:=isAgg5
 z5:=sizeOf5
 v5:=zeroValue5
 t9:=underlying9
 a9:=isAgg9
 z9:=sizeOf9
 v9:=zeroValue9
 t46:=underlying223
 a46:=isAgg223
 z46:=sizeOf223
 v46:=zeroValue223
 t51:=underlying102
 a51:=isAgg102
 z51:=sizeOf102
 v51:=zeroValue102
 t53:=underlying212
 a53:=isAgg212
 z53:=sizeOf212
 v53:=zeroValue212}
def Tryz.E2:Go.Shelf.Ren:=⟨fun|26=>77|33=>118|34=>119|38=>168|n=>n,fun|24=>40|9=>9|3=>3|4=>4|40=>223|0=>0|n=>n,fun|n=>n⟩
theorem Tryz.HA:Go.Proofs.Lays2.n26 Tryz.prog Tryz.E2:={
 mixed:=af
 f26:=Tryz.func77.trans (congrArg some af)
 f33:=Tryz.func118.trans (congrArg some af)
 f34:=Tryz.func119.trans (congrArg some af)
 f38:=Tryz.func168.trans (congrArg some af)
 t0:=underlying0
 a0:=isAgg0
 z0:=sizeOf0
 v0:=zeroValue0
 t3:=underlying3
 a3:=isAgg3
 z3:=sizeOf3
 v3:=zeroValue3
 t4:=underlying4
 a4:=isAgg4
 z4:=sizeOf4
 v4:=zeroValue4
 t9:=underlying9
 a9:=isAgg9
 z9:=sizeOf9
 v9:=zeroValue9
 t24:=underlying40
 a24:=isAgg40
 z24:=sizeOf40
 v24:=zeroValue40
 t40:=underlying223
 a40:=isAgg223
 z40:=sizeOf223
 v40:=zeroValue223}
def Tryz.Qv:Go.Shelf.Ren:=⟨fun|35=>235|n=>n,fun|22=>90|23=>5|3=>3|4=>4|0=>0|n=>n,fun|n=>n⟩
theorem Tryz.aeY:Go.Proofs.SlLaysE.n35 Tryz.prog Tryz.Qv:={
 mixed:=af
 f35:=⟨Tryz.f235.name,dh,Tryz.func235.trans (congrArg some af)⟩
 t0:=underlying0
 a0:=isAgg0
 z0:=sizeOf0
 v0:=zeroValue0
 t3:=underlying3
 a3:=isAgg3
 z3:=sizeOf3
 v3:=zeroValue3
 t4:=underlying4
 a4:=isAgg4
 z4:=sizeOf4
 v4:=zeroValue4
 t22:=underlying90
 a22:=isAgg90
 z22:=sizeOf90
 v22:=zeroValue90
 a23:=isAgg5
 z23:=sizeOf5}
end
end Go.Proofs
namespace Go.Proofs.Kz
open Go.Proofs.Tryz
open Go.Proofs.Tryz renaming prog → ar
open _root_.ByteArray renaming empty → aN
open Go.Ren Go.Conc Go.Proofs
structure qt(T:cP)(i:Nat):Prop where
 ok:T.OK
 i:i<T.n
 jF:ar.globals.size<=T.H0
structure Quiet(T:cP)(b:Nat):Prop where
 old:b<T.H0
 wg:b≠T.Wg
 sh:¬T.Sh b
 ch:∀k,k<T.n->b≠T.ch k
 ro:∀off,T.RO (.cell ⟨b,off,none⟩)
theorem Bu:qf ar LW 0:=XC D5
section
variable {T:cP} {i:Nat} {V:Nat->ae->Prop} {E:bH} {rc:Nat->Prop} {o:aM} {w:ae}
theorem Quiet.same{b:Nat}(h:Quiet T b){w1:ae}(hr:cF T i o rc w w1):w1.heap[b]?=w.heap[b]?:=hr.ro b h.old h.wg h.sh h.ch
theorem Quiet.cell{b off:Nat}(h:Quiet T b){w1:ae}(hr:cF T i o rc w w1):w1.cell? ⟨b,off,none⟩=w.cell? ⟨b,off,none⟩:=cell_of (h.same hr)
theorem sZ{ad:Addr}{sy:Bool}(h:(∃b,o b/\GP (.cell ad) b)\/T.js i (.cell ad)\/(∃k,rc k/\T.js k (.cell ad))\/T.RO (.cell ad)):LF T i o rc ⟨.cell ad,false,sy⟩:=by
 refine⟨fun x hx _=>?_,an,an,an⟩;simp only[MemAct.ofEvent,MemAct.touch?,en] at hx;subst hx;rcases h with h|h|⟨k,h3,h4⟩|h
 ·exact .inl h
 ·exact .inr (.inl h)
 ·exact .inr (.inr (.inl ⟨k,h3,h4,rfl⟩))
 ·exact .inr (.inr (.inr ⟨h,rfl⟩))
theorem HC(hW:qt T i)(hq:Quiet T 1)(u:Nat)(h1:1<=u)(h2:u<18446744073709551616)(fD:fT T o w)(ht:w.cell? ⟨1,Lib.l10 (Lib.bitLen u),none⟩=some (.int .u64 ((10^Lib.l10 (Lib.bitLen u):Nat):Int))):
  bp ar (XW ar T i V E rc) 246 #[.int .u64 u] o w fun v o' w'=>v=.int .i64 (Lib.nDigits u)/\cB T i rc o w o' w':=by
 have W:=cv (P:=ar) (T:=T) (i:=i) (V:=V) (E:=E) rc;obtain⟨qZ,h19⟩:=Lib.numDigits_eq u h1 h2;have hL:Lib.bitLen u<=64:=Lib.bitLen_le u 64 (ag _) h2;have c1:∀o w,fT T o w->bp ar (XW ar T i V E rc) 223 #[.int .u64 u] o w fun v o' w'=>v=.int .i64 (Lib.bitLen u)/\cB T i rc o w o' w':=fun o w ho =>
  pe hW.ok hW.i Bu gB hW.jF af ho (fun g=>an) _ (fun g=>an) fun wl=>(Tryz.bits_Len64 u wl aa aa).mono (by rintro e w' ⟨rfl,rfl⟩;exact⟨an,.refl _ _⟩)
 have c2:∀o w,fT T o w->bp ar (XW ar T i V E rc) 254 #[.int .i64 (Lib.bitLen u)] o w fun v o' w'=>v=.int .i64 (Lib.l10 (Lib.bitLen u))/\cB T i rc o w o' w':=fun o w ho =>
  pe hW.ok hW.i Bu gB hW.jF af ho (fun g=>an) _ (fun g=>an) fun wl=>(Tryz.internal_strconv_log10Pow2 _ hL wl).mono (by rintro e w' ⟨rfl,rfl⟩;exact⟨rfl,.refl _ _⟩)
 have c3:∀(b:Bool) o w,fT T o w->bp ar (XW ar T i V E rc) 255 #[.bool b] o w fun v o' w'=>v=.int .i64 (if b=true then 1 else 0)/\cB T i rc o w o' w':=fun b o w ho =>
  pe hW.ok hW.i Bu gB hW.jF af ho (fun g=>an) _ (fun g=>an) fun wl=>(Tryz.internal_strconv_bool2_int b wl).mono (by rintro e w' ⟨rfl,rfl⟩;exact⟨rfl,.refl _ _⟩)
 generalize Lib.bitLen u=bl at *;generalize Lib.l10 bl=q at *;refine bA W func246 ai ?_;refine aA ?_;refine aF W rfl ai rfl func223 af rfl aC rfl ((c1 _ _ fD).mono ?_);rintro v o1 w1 ⟨rfl,l1⟩;try walk_nrm
 refine aF W rfl ai rfl func254 af rfl aC rfl ((c2 _ _ l1.ok).mono ?_);rintro v o2 w2 ⟨rfl,l2⟩;try walk_nrm
 refine aA ?_;have h20:(q:Int)<20:=aa;have hS:∀w3,cF T i o2 rc w2 w3->w3.cell? ⟨1,q,none⟩=some (.int .u64 ((10^q:Nat):Int)):=fun w3 hr=>by
  rw[hq.cell hr,hq.cell l2.rel,hq.cell l1.rel,ht]
 generalize hP:10^q=p at *;have iH:∀w1 es,(Instr.indexAt 342 (.pointer (some ⟨1,0,none⟩)) (.int .i64 (q:Int))).events ar w1 es=es:=fun w1 es=>events_indexAt_array 342 212 20 ⟨1,0,none⟩ .i64 q underlying342 ⟨aa,aa⟩;refine ny W rfl rfl ai (fun w1=>by simp[go_sem,iH]) fun w1 K hK=>?_;go_simp;refine hK _ ?_;clear hK K w1 iH;try walk_nrm
 refine fp W hS rfl ai (fun w1 hc=>⟨.refl _ _,?_⟩) fun w1 hc K hK=>?_
 ·co_evs (exact sZ (.inr (.inr (.inr (hq.ro _)))))
 go_simp;refine hK _ ?_;clear hK K hc w1;try walk_nrm
 refine aA ?_;refine aF W rfl ai rfl func255 af rfl (by simp[Act.eval];rfl) rfl ((c3 _ _ _ l2.ok).mono ?_);rintro v o3 w3 ⟨rfl,l3⟩;try walk_nrm
 refine aA ?_;refine⟨.inr trivial,trivial,_,resultsC_tmp (t:=2) ai _,?_,(l1.trans l2).trans l3⟩;show Value.int .i64 (IntKind.i64.wrap (↑q+if p<=u then 1 else 0))=_;rw[<- qZ]
 congr 1
 rw[IntKind.wrap_i64];split<;>simp<;>omega
theorem zI(hW:qt T i)(n:Nat)(hn:n<100)(fD:fT T o w):
  bp ar (XW ar T i V E rc) 233 #[.int .i64 n,.int .i64 10] o w fun v o' w'=>v=.string ⟨(Lib.decDigits n).toArray⟩/\cB T i rc o w o' w':=by
 have W:=cv (P:=ar) (T:=T) (i:=i) (V:=V) (E:=E) rc;have c1:∀o w,fT T o w->bp ar (XW ar T i V E rc) 245 #[.int .i64 n] o w fun v o' w'=>v=.string ⟨(Lib.decDigits n).toArray⟩/\cB T i rc o w o' w':=fun o w ho =>
  pe hW.ok hW.i Bu gB hW.jF af ho (fun g=>an) _ (fun g=>an) fun wl=>(Tryz.internal_strconv_small n hn wl).mono (by rintro e w' ⟨rfl,rfl⟩;exact⟨rfl,.refl _ _⟩)
 have hi:(n:Int)<100:=aa;refine bA W func233 ai ?_;refine aA ?_;refine aF W rfl ai rfl func245 af rfl aC rfl ((c1 _ _ fD).mono ?_);rintro v o1 w1 ⟨rfl,l1⟩;try walk_nrm
 refine aA ?_;exact⟨.inr trivial,trivial,_,resultsC_tmp (t:=4) ai _,rfl,l1⟩
theorem Km{wl:ae}{A d:Nat}(h:wl.heap[A]?=some (Obj.cells Lib.zeros24 326))(hd:d<=20):Sort.Holds (fun b:UInt8=>Value.int .u8 (b.toNat:Int)) wl A 1 (Array.replicate d 0):=by
 intro j hj;rw[eL] at hj;refine⟨?_,?_⟩
 ·simp only[World.cell?,h,Option.isSome_none,fl,if_false];rw[Lib.zeros24_at (1+j) aa,dT _ _ (by simpa using hj)];simp
 ·simp[World.frozen?,h]
theorem Qw(hW:qt T i)(n A d:Nat)(hd:d<=20)(hn:n<10^d)(O1:n<=1000000000000)(fD:fT T o w)(hA:o A)(lY:w.heap[A]?=some (Obj.cells Lib.zeros24 326)):
  bp ar (XW ar T i V E rc) 247 #[.slice (some ⟨A,1,none⟩) d 23,.int .u64 n] o w fun v o' w'=>v=.tuple #[]/\cF T i (fun b=>o b/\b≠A) rc w w'/\fT T o' w'/\(∀b,o b->o' b) /\
   ∃v' dk,Lib.FmtInv d n 0 v' dk/\∀j,j<d->w'.cell? ⟨A,1+j,none⟩=some (.int .u8 ((dk[j]!).toNat:Int)):=by
 refine vm (N:=fun b=>b==A) (R:=fun wl v w'=>v=.tuple #[]/\∃v' dk,Lib.FmtInv d n 0 v' dk/\∀j,j<d->w'.cell? ⟨A,1+j,none⟩=some (.int .u8 ((dk[j]!).toNat:Int))) hW.ok hW.i Bu gB hW.jF af fD (fun b hb=>by simp at hb;subst hb;exact hA)
  (fun b hb=>by simp at hb;subst hb;exact⟨_,lY,rfl,fun f _=>by simp[obj,Lib.zeros24]⟩) (fun g hg=>by simp[val,addr,hg A an]) (fun wl v w' τ dr h=>h) (fun wl τ dr v w' h=>h) (fun wl h1 h2=>?_) ?_
 ·have hx:wl.heap[A]?=some (Obj.cells Lib.zeros24 326):=by rw[h1 A an,lY]
  have hH:=Km (d:=d) hx hd;have hf:=Tryz.internal_strconv_formatBase10 A 1 23 n (Array.replicate d 0) wl hH (by rw[eL];exact hn) aa (by rw[eL];omega);rw[eL] at hf;refine hf.mono ?_;rintro e w' ⟨rfl,k,v',dk,rfl,hF⟩;refine⟨_,rfl,rfl,v',dk,hF,fun j hj=>?_⟩;rw[World.cell?_drewN];exact Sort.cell?_putRow (fun(b:UInt8)=>Value.int .u8 (b.toNat:Int)) _ A 1 _ dk hH (by rw[hF.size,eL]) j (by rw[hF.size];exact hj)
 ·rintro wl v v' F' o' aI w' h1 h2 ⟨rfl,u',dk,hF,hc⟩ hB;refine⟨hB.plain fun f=>an,hB.rel.less fun b hb=>⟨hb.1,by simpa using hb.2⟩,⟨hB.tK,aR fD.size hB.rel.size⟩,hB.more,u',dk,hF,fun j hj=>hB.cell an (fun f=>an) (hc j hj)⟩
theorem HD(hW:qt T i)(hq:Quiet T 1)(n:Nat)(hn:¬n<100)(O1:n<=1000000000000)(fD:fT T o w)(ht:∀q,q<20->w.cell? ⟨1,q,none⟩=some (.int .u64 ((10^q:Nat):Int))):
  bp ar (XW ar T i V E rc) 233 #[.int .i64 n,.int .i64 10] o w fun v o' w'=>v=.string ⟨(Lib.decDigits n).toArray⟩/\cB T i rc o w o' w':=by
 have W:=cv (P:=ar) (T:=T) (i:=i) (V:=V) (E:=E) rc;have hi:¬(n:Int)<100:=aa;have h0:¬(n:Int)<0:=aa;have hU:IntKind.u64.wrap (n:Int)=n:=by rw[IntKind.wrap_u64];omega
 have Zd:=Lib.nDigits_pos n;have SN:=Lib.nDigits_le20 n aa;have hI:IntKind.i64.wrap (1+(Lib.nDigits n:Int))=1+(Lib.nDigits n:Int):=by rw[IntKind.wrap_i64];omega
 refine bA W func233 ai ?_;refine aA ?_;refine mI hW.ok hW.i fD rfl ai rfl (Obj.cells Lib.zeros24 326) (fun w1=>by simp[go_sem];rfl) (fun w1=>fa) fun A o1 w1 l1 hA lY O2 EL=>?_;try walk_nrm
 refine aA ?_;have XD:∀q,q<20->w1.cell? ⟨1,q,none⟩=some (.int .u64 ((10^q:Nat):Int)):=fun q h=>by rw[hq.cell l1.rel];exact ht q h
 have aeZ:Lib.l10 (Lib.bitLen n)<20:=by have:=(Lib.numDigits_eq n aa aa).2;omega
 refine aF W rfl ai rfl func246 af rfl aC rfl ((HC hW hq n aa aa l1.ok (XD _ aeZ)).mono ?_);rintro v o2 w2 ⟨rfl,l2⟩;try walk_nrm
 refine aA ?_;have JO:ar.arrayLen 326=24:=by simp[Program.arrayLen,underlying326]
 have SO:∀W,(Instr.sliceAt 326 (.pointer (some ⟨A,0,none⟩)) (some (.int .i64 1)) (some (.int .i64 (1+(Lib.nDigits n:Int)))) none).run ar W=.ok (.slice (some ⟨A,1,none⟩) (Lib.nDigits n) 23) W:=fun W=>by
  rw[run_sliceAt_array_lh W 326 ⟨A,0,none⟩ (by simp[Program.arrayLen,Program.elem,underlying326]) .i64 .i64 1 (1+(Lib.nDigits n:Int)) aa aa (by rw[JO];omega)];go_simp;omega
 have hse:∀W es,(Instr.sliceAt 326 (.pointer (some ⟨A,0,none⟩)) (some (.int .i64 1)) (some (.int .i64 (1+(Lib.nDigits n:Int)))) none).events ar W es=es:=fun W es =>
  wN 326 5 24 ⟨A,0,none⟩ .i64 .i64 1 (1+(Lib.nDigits n:Int)) underlying326 aa aa aa
 clear JO;refine ny W rfl rfl ai (fun w1=>by simp[go_sem,hse]) fun w1 K hK=>?_;go_simp;refine hK _ ?_;clear hK K w1;try walk_nrm
 refine aA ?_;have Hi:w2.heap[A]?=some (Obj.cells Lib.zeros24 326):=by rw[l2.rel.own A hA];exact lY
 refine aF W rfl ai rfl func247 af rfl aC rfl ((Qw hW n A (Lib.nDigits n) SN (Lib.lt_pow_nDigits n) O1 l2.ok (l2.more A hA) Hi).mono ?_);rintro v o3 w3 ⟨rfl,r3,k3,m3,v',dk,hF,sY⟩;try walk_nrm
 refine aA ?_;clear hse SO;have hS:∀w4,cF T i o3 rc w3 w4->∀j,j<Lib.nDigits n->w4.cell? ⟨A,1+j,none⟩=some (.int .u8 ((dk[j]!).toNat:Int)):=fun w4 hr j hj=>by
  rw[cell_of (a:=⟨A,1+j,none⟩) (hr.own A (m3 A (l2.more A hA)))];exact sY j hj
 have hcv:∀w4,(∀j,j<Lib.nDigits n->w4.cell? ⟨A,1+j,none⟩=some (.int .u8 ((dk[j]!).toNat:Int)))->(convert 90 9 (.slice (some ⟨A,1,none⟩) (Lib.nDigits n) 23)).run ar w4=.ok (.string ⟨(Lib.decDigits n).toArray⟩) w4:=fun w4 h4=>by
  have h:=run_convert_bytes_back (P:=ar) w4 90 9 5 ⟨A,1,none⟩ 23 (Lib.decDigits n) underlying90 underlying5 underlying9 (fun j hj=>by
   rw[Lib.add_plain,Lib.row_is_numeral hF j hj];exact h4 j (by rw[Lib.decDigits_length] at hj;exact hj))
  rwa[Lib.decDigits_length] at h
 have hce:∀w4,(∀j,j<Lib.nDigits n->w4.cell? ⟨A,1+j,none⟩=some (.int .u8 ((dk[j]!).toNat:Int)))->∀ev∈(convert 90 9 (.slice (some ⟨A,1,none⟩) (Lib.nDigits n) 23)).events ar w4 #[],LF T i o3 rc ev:=fun w4 h4 ev he=>by
  have h:=uo (P:=ar) w4 90 9 5 ⟨A,1,none⟩ ((List.range (Lib.nDigits n)).map fun j=>((dk[j]!).toNat:Int)) 23 #[] underlying90 underlying5 underlying9 (fun j hj=>by
   rw[Lib.add_plain,h4 j (by simpa using hj)];simp) ev (by simpa using he)
  rcases h with h|⟨ad,h1,h2,h3⟩
  ·simp at h
  ·obtain⟨l,wt,sy⟩:=ev;simp only at h1 h2;subst h1 h2;exact sZ (.inl ⟨A,m3 A (l2.more A hA),h3⟩)
 refine fp W hS rfl ai (fun w4 h4=>⟨.refl _ _,fun e he=>?_⟩) fun w4 h4 K hK=>?_
 ·have:=hce w4 h4 e (by have:=mem_listed he;simpa[go_sem] using this);rw[bS];exact this
 have:=hcv w4 h4;go_simp;refine hK _ ?_;clear hK K this h4 w4 hS hcv hce;try walk_nrm
 refine aA ?_;refine⟨.inr trivial,trivial,_,resultsC_tmp (t:=4) ai _,rfl,⟨(l1.trans l2).rel.trans (r3.less fun b hb=>⟨(l1.trans l2).more b hb,?_⟩),k3,fun b hb=>m3 b ((l1.trans l2).more b hb)⟩⟩;have:=(fD.tK b hb).2;omega
end
section
open Go.RowKit
theorem LU{k:IntKind}{a b:Int}(h:a=b):Ending.returned (.int k a)=.returned (.int k b):=by rw[h]
theorem uM{W w1:ae}(hb:Below W.heap.size W w1):(∀b o,b<W.heap.size->w1.cell? ⟨b,o,none⟩=W.cell? ⟨b,o,none⟩)/\(∀b o,b<W.heap.size->w1.frozen? ⟨b,o,none⟩=W.frozen? ⟨b,o,none⟩) :=
 ⟨fun b o h=>hb.cell (p:=⟨b,o,none⟩) h,fun b o h=>hb.frozen (p:=⟨b,o,none⟩) h⟩
theorem take_succ{α:Type}(l:List α)(k:Nat)(h:k<l.length):l.take (k+1)=l.take k++[l[k]]:=List.take_succ_eq_append_getElem h
abbrev V:=Bool×ah
def vt(w:ae)(b off:Nat)(vs:List V):Prop:=∀k (h:k<vs.length),w.cell? ⟨b,off+k*2,none⟩=some (.bool vs[k].1)/\w.cell? ⟨b,off+k*2+1,none⟩=some (.string vs[k].2)
theorem vt.below{w w':ae}{b off:Nat}{vs:List V}(h:vt w b off vs)(hb:b<w.heap.size)(hw:Below w.heap.size w w'):vt w' b off vs:=fun k hk=>by
 obtain⟨hc,-⟩:=uM hw;rw[hc _ _ hb,hc _ _ hb];exact h k hk
def dP(w:ae)(b off:Nat)(ts:List ah):Prop:=∀k (h:k<ts.length),w.cell? ⟨b,off+k,none⟩=some (.string ts[k])
theorem dP.below{w w':ae}{b off:Nat}{vs:List ah}(h:dP w b off vs)(hb:b<w.heap.size)(hw:Below w.heap.size w w'):dP w' b off vs:=fun k hk=>by
 obtain⟨hc,-⟩:=uM hw;rw[hc _ _ hb];exact h k hk
end
section
open Go.RowKit
def cnt(l:List V):Nat:=(l.filter fun v=>v.1).length
theorem Bv(l:List V):cnt l<=l.length:=eC _ _
theorem Qx(l:List V)(k:Nat)(h:k<l.length):cnt (l.take (k+1))=cnt (l.take k)+if l[k].1 then 1 else 0:=by
 rw[take_succ l k h,cnt,aah,List.length_append];by_cases e:l[k].1<;>simp[cnt,e]
theorem NC(b off c:Nat)(vs:List V)(w:ae)(hn:vs.length<=100000)(hb:b<w.heap.size)(hv:vt w b off vs):
  Calls ar 196 #[.slice (some ⟨b,off,none⟩) vs.length c] w fun e w'=>e=.returned (.int .i64 (cnt vs))/\Below w.heap.size w w':=by
 go_enter func196,ntmps196;go_wp2;go_loopw [3,8] (fun n i w'=>∃k:Nat,k<=vs.length/\i=.int .i64 k/\n=.int .i64 (cnt (vs.take k))/\Below w.heap.size w w') (fun _ i _=>vs.length-(intOf i).toNat)
 case atStart=>exact⟨0,aQ _,rfl,rfl,Below.refl _ _⟩
 case round =>
  obtain⟨k,hk,rfl,rfl,gv⟩:=hrel;by_cases bZ:k<vs.length
  ·obtain⟨h1,h2⟩:=hv.below hb gv k bZ;have hz:=gv.size;have HS:Hid (cnt (vs.take (k+1))=cnt (vs.take k)+if vs[k].1 then 1 else 0):=Qx vs k bZ;have hle:(cnt (vs.take k):Int)<=100000:=by have:=Bv (vs.take k);have:=iD k vs;omega
   go_wp2
   ·refine⟨⟨k+1,aa,by go_num,?_,gv.alloc hz _⟩,by simp[intOf];omega⟩;rw[HS.out,if_pos ‹_›];go_num
   ·refine⟨⟨k+1,aa,by go_num,?_,gv.alloc hz _⟩,by simp[intOf];omega⟩;rw[HS.out,if_neg (by simp[*])];go_num
  ·go_wp2;go_ret;exact⟨LU (by rw[cE aa]),gv⟩
end
section
open Go.RowKit
theorem pq:(ar.info? 9).map (fun i=>(i.zero,i.size,i.bytes))=some (some (.string aN),1,16):=af
theorem dP.XE{w:ae}{b t:Nat}{ts:List ah}{f:Nat->Value}(h:w.rowIs b t ts.length f)(hf:∀k (hk:k<ts.length),f k=.string ts[k]):dP w b 0 ts:=fun k hk=>by
 rw[bh,h.cell hk,hf k hk]
theorem HE(b off c:Nat)(vs:List V)(w:ae)(hn:vs.length<=100000)(hb:b<w.heap.size)(hv:vt w b off vs):
  Calls ar 199 #[.slice (some ⟨b,off,none⟩) vs.length c] w fun e w'=>e=.returned (.slice (some ⟨w.heap.size,0,none⟩) vs.length vs.length)/\Below w.heap.size w w'/\w.heap.size<w'.heap.size /\
   w'.rowIs w.heap.size 9 vs.length (fun j=>.string (vs.getD j (false,aN)).2):=by
 have LV:=run_make_row' (P:=ar) 40 9 (.string aN) 16 underlying40 pq rfl .i64 .i64 vs.length aa aa;go_enter func199,ntmps199;go_wp2;go_loopw [11] (fun i w'=>∃k:Nat,k<=vs.length/\i=.int .i64 k/\Below w.heap.size w w'/\w.heap.size<w'.heap.size/\w'.rowIs w.heap.size 9 vs.length (fun j=>if j<k then .string (vs.getD j (false,aN)).2 else .string aN)) (fun i _=>vs.length-(intOf i).toNat)
 case atStart=>exact⟨0,aQ _,rfl,(Below.refl _ _).alloc (ag _) _,an,by simpa using World.rowIs_made w _ _ _⟩
 case round =>
  obtain⟨k,hk,rfl,gv,hz,b6⟩:=hrel;by_cases bZ:k<vs.length
  ·obtain⟨h1,h2⟩:=hv.below hb gv k bZ;have hc:=b6.cell bZ;have hf:=b6.frozen k;rw[if_neg aa] at hc;go_wp2;refine⟨⟨k+1,aa,by go_num,(gv.setCell (ag _) _).alloc (by simp[World.setCell];omega) _,by simp[World.setCell];omega,?_⟩,by simp[intOf];omega⟩;refine((b6.set k _).alloc _).congr fun j hj=>?_;by_cases e:j=k
   ·subst e;simp[List.getD,bZ]
   ·by_cases e':j<k
    ·rw[if_neg e,if_pos e',if_pos aa]
    ·rw[if_neg e,if_neg e',if_neg aa]
  ·go_wp2;go_ret;exact⟨rfl,gv,hz,b6.congr fun i hi=>by rw[if_pos aa]⟩
end
section
open Go.RowKit
def x9(l:List UInt8):Nat:=(l.map UInt8.toNat).sum
def rm(l:List ah):Nat:=(l.map fun s=>x9 s.data.toList).sum
def iM(l:List ah):Nat:=(l.map ByteArray.size).sum
theorem E3(l:List UInt8):x9 l<=255*l.length:=by
 induction l with
 |nil=>simp[x9]
 |cons c l ih=>have:=c.toNat_lt;simp[x9] at ih |-;omega
theorem ND(s:ah)(k:Nat)(h:k<s.size):x9 (s.data.toList.take (k+1))=x9 (s.data.toList.take k)+s[k].toNat:=by
 rw[take_succ s.data.toList k (by simpa using h)];simp[x9];rfl
theorem NF(l:List ah)(k:Nat)(h:k<l.length):rm (l.take (k+1))=rm (l.take k)+x9 l[k].data.toList:=by
 rw[take_succ l k h,rm,jY,List.sum_append];simp[rm]
theorem LX(l:List ah):rm l<=255*iM l:=by
 induction l with
 |nil=>simp[rm,iM]
 |cons s l ih=>have:=E3 s.data.toList;simp[rm,iM] at ih this |-;omega
theorem Kn(l:List ah)(k:Nat):iM (l.take k)<=iM l:=by
 induction l generalizing k with
 |nil=>simp
 |cons s l ih=>cases k with
  |zero=>simp[iM]
  |succ k=>have:=ih k;simp[iM] at this |-;omega
theorem Qy(l:List ah)(k:Nat)(h:k<l.length):iM (l.take k)+l[k].size<=iM l:=by
 have:=Kn l (k+1);rw[take_succ l k h,iM,jY,List.sum_append] at this;simpa[iM] using this
theorem TS(b off c:Nat)(ts:List ah)(w:ae)(hn:ts.length<=100000)(hm:iM ts<=1000000)(ht:dP w b off ts):
  Calls ar 212 #[.slice (some ⟨b,off,none⟩) ts.length c] w fun e w'=>e=.returned (.int .i64 (rm ts))/\w'=w:=by
 go_enter func212,ntmps212;go_wp2;go_loop [3,9] (fun n i=>∃k:Nat,k<=ts.length/\i=.int .i64 k/\n=.int .i64 (rm (ts.take k))) (fun _ i=>ts.length-(intOf i).toNat)
 case atStart=>exact⟨0,aQ _,rfl,rfl⟩
 case round =>
  obtain⟨k,hk,rfl,rfl⟩:=hrel;by_cases bZ:k<ts.length
  ·have h1:=ht k bZ;have hz:=Qy ts k bZ;have hle:rm (ts.take k)<=255*iM (ts.take k):=LX _;have hs:ts[k].size<=1000000:=aa;have HS:Hid (rm (ts.take (k+1))=rm (ts.take k)+x9 ts[k].data.toList):=NF ts k bZ;generalize qJ:ts[k]=t at h1 hz hs HS;clear qJ;go_wp2;go_loop [3,15] (fun n i=>∃j:Nat,j<=t.size/\i=.int .i64 j/\n=.int .i64 (rm (ts.take k)+x9 (t.data.toList.take j):Nat)) (fun _ i=>t.size-(intOf i).toNat)
   case atStart=>exact⟨0,aQ _,rfl,by simp[x9]⟩
   case round =>
    obtain⟨j,hj,rfl,rfl⟩:=hrel;by_cases hjt:j<t.size
    ·have HB:Hid (x9 (t.data.toList.take (j+1))=x9 (t.data.toList.take j)+t[j].toNat):=ND t j hjt;have Ag:=E3 (t.data.toList.take j);have pE:(t.data.toList.take j).length<=j:=iD _ _;have hc:=t[j].toNat_lt;go_wp2
     go_round
     case rel=>exact⟨j+1,aa,by go_num,by rw[HB.out];go_num⟩
     case measure=>simp[intOf];omega
    ·go_wp2
     go_round
     case rel=>exact⟨k+1,aa,by go_num,by rw[HS.out,cE (l:=t.data.toList) eR]⟩
     case measure=>simp[intOf];omega
  ·go_wp2;go_ret;exact⟨LU (by rw[cE aa]),rfl⟩
end
section
open Go.RowKit
def flat(ts:List ah):List UInt8:=(ts.map fun t=>t.data.toList).flatten
theorem yX(ts:List ah):(flat ts).length=iM ts:=by
 induction ts with
 |nil=>rfl
 |cons t ts ih=>simp[flat,iM] at ih |-;omega
theorem D6(ts:List ah):Lib.join (ts.map fun t=>t.data.toList) (aN).data.toList=flat ts:=by
 cases ts with
 |nil=>rfl
 |cons t r=>rw[bU,Lib.join_cons,Lib.joinTail];simp[flat];rfl
def bytes(l:List UInt8):ah:=⟨l.toArray⟩
theorem XF(f:List UInt8):(⟨f.toArray⟩:ah).extract 0 (min (f.length:Int) 32).toNat=bytes (f.take 32):=by
 have e:(min (f.length:Int) 32).toNat=min f.length 32:=aa;rw[e];apply ByteArray.ext;rw[ByteArray.data_extract];simp[bytes,List.extract_toArray];omega
theorem Qz(b off c:Nat)(ts:List ah)(w:ae)(hn:ts.length<=100000)(E1:ts.length<=c)(hm:iM ts<=1000000)(hb:b<w.heap.size)(ht:dP w b off ts):
  Calls ar 210 #[.slice (some ⟨b,off,none⟩) ts.length c] w fun e w'=>e=.returned (.string (bytes ((flat ts).take 32)))/\Below w.heap.size w w':=by
 have hj:=Tryz.strings_Join b off c ts aN w (fun j x hx=>by obtain⟨h1,rfl⟩:=List.getElem?_eq_some_iff.1 hx;exact ht j h1) hb aa E1 (by rw[D6,yX];omega);rw[D6] at hj;have hl:(flat ts).length<=1000000:=by rw[yX];exact hm
 generalize flat ts=f at hj hl;clear ht;go_enter func210,ntmps210;go_wp2_with (go_at_call 234;refine hj.mono ?_;rintro e w' ⟨rfl,gv⟩);go_ret;exact⟨by rw[XF];rfl,gv⟩
def ya(ts:List ah):ah:=if ts=[] then aN else Lib.minOfS ts
theorem NG(b off c:Nat)(ts:List ah)(w:ae)(hn:ts.length<=100000)(ht:dP w b off ts):
  Calls ar 213 #[.slice (some ⟨b,off,none⟩) ts.length c] w fun e w'=>e=.returned (.string (ya ts))/\w'=w:=by
 by_cases h0:ts=[]
 ·subst h0;go_enter func213,ntmps213;go_wp2;go_ret;exact⟨rfl,rfl⟩
 ·have hp:0<ts.length:=List.length_pos_iff.2 h0;have hj:=Tryz.slices_Min_string b off ts.length c ts w hp (ag _) aa (fun j hj=>by rw[ht j hj];simp[List.getD,hj]);rw[dz] at hj;have e:ya ts=Lib.minOfS ts:=by simp[ya,h0]
  rw[e];generalize Lib.minOfS ts=m at hj;have cV:¬(ts.length:Int)=0:=aa;go_enter func213,ntmps213;go_wp2_with (go_at_call 236;refine hj.mono ?_;rintro e w' ⟨rfl,rfl⟩);go_ret;exact⟨rfl,rfl⟩
end
end Go.Proofs.Kz
namespace Go.Proofs
section
open Go.Shelf
end
end Go.Proofs
namespace Go.Proofs.Kz
open Go.Proofs.Tryz
open Go.Proofs.Tryz renaming prog → ar
open _root_.ByteArray renaming empty → aN
open Go.Proofs
section
open Go.RowKit
open Go.Sort (Holds putRow)
def HF(b:UInt8):Value:=.int .u8 (b.toNat:Int)
theorem Ko(w:ae)(t:ah):∃cap w1,(convert 9 90 (.string t)).run ar w=.ok (.slice (some ⟨w.heap.size,0,none⟩) t.size cap) w1/\Below w.heap.size w w1/\w1.heap.size=w.heap.size+1/\Holds HF w1 w.heap.size 0 t.data:=by
 refine⟨_,_,run_bytes_of_string w 9 90 5 t underlying9 underlying90 underlying5,(Below.refl _ _).drew.alloc (ag _) _,an,fun j hj=>?_⟩;have hb:∀(c:Nat),(bytesRow t c)[j]?=some (HF t.data[j]!):=fun c=>by
  simp only[bytesRow];rw[Array.getElem?_append_left (by simpa using hj)];rw[br,aG hj,dT t.data j hj];rfl
 generalize grownCap w t.size 0 5=c;refine⟨?_,?_⟩
 ·rw[bh];exact(World.cell?_alloc_mark w.drew _ _ _ j).trans (hb c)
 ·rw[bh];have rY:j<(bytesRow t c).size:=(Array.getElem?_eq_some_iff.1 (hb c)).1;have:(w.drew.alloc (.cells (bytesRow t c) 5 ((bytesRow t c).size,(bytesRow t c).size+1))).heap[w.heap.size]?=some (.cells (bytesRow t c) 5 ((bytesRow t c).size,(bytesRow t c).size+1)):=by
   show(w.heap.push _)[w.heap.size]?=_;simp
  unfold World.frozen?;rw[this];simp;omega
theorem QA(t:ah)(w:ae)(hn:t.size<=1000000):
  Calls ar 211 #[.string t] w fun e w'=>e=.returned (.string (bytes t.data.toList.reverse))/\Below w.heap.size w w':=by
 obtain⟨cap,w1,hcv,Ag,TT,hh⟩:=Ko w t;have hr:Calls ar 235 #[.slice (some ⟨w.heap.size,0,none⟩) t.size cap] w1 fun e w'=>e=.returned (.tuple #[])/\∃n,w'=putRow HF (Sort.ahead w1 n) w.heap.size 0 t.data.toList.reverse.toArray:=by
  have:=AnyE.slices_Reverse Tryz.aeY HF (fun _=>rfl) w.heap.size 0 cap t.data.toList w1 (by simpa using hh) eR;change Calls ar 235 _ _ _ at this;simpa using this
 have ba:∀n,∃w2,w2=putRow HF (Sort.ahead w1 n) w.heap.size 0 t.data.toList.reverse.toArray/\Below w.heap.size w w2/\(convert 90 9 (.slice (some ⟨w.heap.size,0,none⟩) t.size cap)).run ar w2=.ok (.string (bytes t.data.toList.reverse)) w2:=fun n=>by
  refine⟨_,rfl,Lib.below_putRow Ag (ag _),?_⟩;have:=run_convert_bytes_back (P:=ar) (putRow HF (Sort.ahead w1 n) w.heap.size 0 t.data.toList.reverse.toArray) 90 9 5 ⟨w.heap.size,0,none⟩ cap t.data.toList.reverse underlying90 underlying5 underlying9 (fun j hj=>by
   have:=(Go.Sort.holds_putRow HF (Sort.ahead w1 n) w.heap.size 0 t.data t.data.toList.reverse.toArray hh an j (by simpa using hj)).1;rw[bh] at this;rw[show(⟨w.heap.size,0,none⟩:Addr).add j=⟨w.heap.size,j,none⟩ by unfold Addr.add;simp;omega,this];simp at hj;simp[HF,hj])
  simpa[bytes] using this
 clear hh;go_enter func211,ntmps211;go_wp2_with (go_at_call 235;refine hr.mono ?_;rintro e w' ⟨rfl,n,zP⟩;obtain⟨w2,h2,pE,alc⟩:=ba n;rw[<- h2] at zP;clear h2;subst zP);go_ret;exact⟨rfl,pE⟩
end
open Go.Ren Go.Conc
theorem HG{w:ae}{b t n:Nat}{f:Nat->Value}(h:w.rowIs b t n f)(hf:∀j,j<n->∀g,val g (f j)=f j):G7 (fun x=>x==b) w:=by
 intro x hx;simp at hx;subst hx;obtain⟨c,hb,hn,hc⟩:=h;refine⟨_,hb,rfl,fun g _=>?_⟩;simp only[obj]
 congr 1
 apply iF
 ·simp
 ·intro j h1 h2;have e:=hc j aa;rw[aG h2,en] at e;simp only[Array.getElem_map];rw[e];exact hf j aa g
def lz(w:ae)(b:Nat)(ts:List ah):Prop:=w.rowIs b 9 ts.length fun j=>.string (ts.getD j aN)
theorem lz.texts{w:ae}{b:Nat}{ts:List ah}(h:lz w b ts):dP w b 0 ts:=dP.XE h fun k hk=>by simp[List.getD,hk]
theorem lz.shut{w:ae}{b:Nat}{ts:List ah}(h:lz w b ts):G7 (fun x=>x==b) w:=HG h fun j _ g=>an
theorem lz.of_block{w w':ae}{b:Nat}{ts:List ah}(h:lz w b ts)(e:w'.heap[b]?=w.heap[b]?):lz w' b ts:=World.rowIs.of_block h e
def lh(r:Int)(ts:List ah):ah :=
 if r=1 then bytes ((flat ts).take 32) else if r=2 then bytes ((flat ts).take 32).reverse else if r=3 then⟨(Lib.decDigits (rm ts)).toArray⟩ else if r=4 then ya ts else aN
section
variable {T:cP} {i:Nat} {V:Nat->ae->Prop} {E:bH} {rc:Nat->Prop} {o:aM} {w:ae}
def jB(w:ae):Prop:=∀q,q<20->w.cell? ⟨1,q,none⟩=some (.int .u64 ((10^q:Nat):Int))
theorem jB.later(hq:Quiet T 1){o':aM}{w':ae}(h:jB w)(hl:cB T i rc o w o' w'):jB w':=fun q EN=>by rw[hq.cell hl.rel];exact h q EN
theorem QB(hW:qt T i)(hq:Quiet T 1)(n:Nat)(O1:n<=1000000000000)(fD:fT T o w)(ht:jB w):
  bp ar (XW ar T i V E rc) 197 #[.int .i64 n] o w fun v o' w'=>v=.string ⟨(Lib.decDigits n).toArray⟩/\cB T i rc o w o' w':=by
 have W:=cv (P:=ar) (T:=T) (i:=i) (V:=V) (E:=E) rc;have hf:bp ar (XW ar T i V E rc) 233 #[.int .i64 n,.int .i64 10] o w fun v o' w'=>v=.string ⟨(Lib.decDigits n).toArray⟩/\cB T i rc o w o' w':=by
  by_cases h:n<100
  ·exact zI hW n h fD
  ·exact HD hW hq n h O1 fD ht
 refine XA W _ ?_;refine bA W func209 ai ?_;refine aA ?_;refine aF W rfl ai rfl func233 af rfl aC rfl (hf.mono ?_);rintro v o1 w1 ⟨rfl,l1⟩;try walk_nrm
 refine aA ?_;exact⟨.inr trivial,trivial,_,resultsC_tmp (t:=2) ai _,rfl,l1⟩
theorem QC(hW:qt T i)(b:Nat)(ts:List ah)(hn:ts.length<=100000)(hm:iM ts<=1000000)(fD:fT T o w)(hb:o b)(ht:lz w b ts):
  bp ar (XW ar T i V E rc) 210 #[.slice (some ⟨b,0,none⟩) ts.length ts.length] o w fun v o' w'=>v=.string (bytes ((flat ts).take 32))/\cB T i rc o w o' w' :=
 nz (N:=fun x=>x==b) hW.ok hW.i Bu gB hW.jF af fD (fun x hx=>by simp at hx;subst hx;exact hb) ht.shut (fun g hg=>by simp[val,addr,hg b an]) _ (fun g=>an) fun wl h1 h2 =>
  Qz b 0 ts.length ts wl hn (ag _) hm (by have:=(fD.tK b hb).2;omega) (ht.of_block (h1 b an)).texts
theorem aaQ(hW:qt T i)(b:Nat)(ts:List ah)(hn:ts.length<=100000)(hm:iM ts<=1000000)(fD:fT T o w)(hb:o b)(ht:lz w b ts):
  bp ar (XW ar T i V E rc) 212 #[.slice (some ⟨b,0,none⟩) ts.length ts.length] o w fun v o' w'=>v=.int .i64 (rm ts)/\cB T i rc o w o' w' :=
 nz (N:=fun x=>x==b) hW.ok hW.i Bu gB hW.jF af fD (fun x hx=>by simp at hx;subst hx;exact hb) ht.shut (fun g hg=>by simp[val,addr,hg b an]) _ (fun g=>an) fun wl h1 h2 =>
  (TS b 0 ts.length ts wl hn hm (ht.of_block (h1 b an)).texts).mono (by rintro e w' ⟨rfl,rfl⟩;exact⟨rfl,.refl _ _⟩)
theorem TU(hW:qt T i)(b:Nat)(ts:List ah)(hn:ts.length<=100000)(fD:fT T o w)(hb:o b)(ht:lz w b ts):
  bp ar (XW ar T i V E rc) 213 #[.slice (some ⟨b,0,none⟩) ts.length ts.length] o w fun v o' w'=>v=.string (ya ts)/\cB T i rc o w o' w' :=
 nz (N:=fun x=>x==b) hW.ok hW.i Bu gB hW.jF af fD (fun x hx=>by simp at hx;subst hx;exact hb) ht.shut (fun g hg=>by simp[val,addr,hg b an]) _ (fun g=>an) fun wl h1 h2 =>
  (NG b 0 ts.length ts wl hn (ht.of_block (h1 b an)).texts).mono (by rintro e w' ⟨rfl,rfl⟩;exact⟨rfl,.refl _ _⟩)
theorem XG(hW:qt T i)(t:ah)(hn:t.size<=1000000)(fD:fT T o w):
  bp ar (XW ar T i V E rc) 211 #[.string t] o w fun v o' w'=>v=.string (bytes t.data.toList.reverse)/\cB T i rc o w o' w' :=
 pe hW.ok hW.i Bu gB hW.jF af fD (fun g=>an) _ (fun g=>an) fun wl=>QA t wl hn
theorem NH(hW:qt T i)(hq:Quiet T 1)(r:Int)(hr:r=1\/r=2\/r=3\/r=4)(b:Nat)(ts:List ah)(hn:ts.length<=100000)(hm:iM ts<=1000000)(fD:fT T o w)(hb:o b)(ht:lz w b ts)(hp:jB w):
  bp ar (XW ar T i V E rc) 198 #[.int .i64 r,.slice (some ⟨b,0,none⟩) ts.length ts.length] o w fun v o' w'=>v=.string (lh r ts)/\cB T i rc o w o' w':=by
 have W:=cv (P:=ar) (T:=T) (i:=i) (V:=V) (E:=E) rc;have ft:(bytes ((flat ts).take 32)).size<=1000000:=by
  show((flat ts).take 32).toArray.size<=_;rw[List.size_toArray];have:=iD 32 (flat ts);omega
 rcases hr with rfl|rfl|rfl|rfl
 ·refine bA W func198 ai ?_;refine aA ?_;refine aF W rfl ai rfl func210 af rfl aC rfl ((QC hW b ts hn hm fD hb ht).mono ?_);rintro v o1 w1 ⟨rfl,l1⟩;try walk_nrm
  refine aA ?_;exact⟨.inr trivial,trivial,_,resultsC_tmp (t:=4) ai _,rfl,l1⟩
 ·refine bA W func198 ai ?_;refine aA ?_;refine aF W rfl ai rfl func210 af rfl aC rfl ((QC hW b ts hn hm fD hb ht).mono ?_);rintro v o1 w1 ⟨rfl,l1⟩;try walk_nrm
  refine aA ?_;refine aF W rfl ai rfl func211 af rfl aC rfl ((XG hW (bytes ((flat ts).take 32)) ft l1.ok).mono ?_);rintro v o2 w2 ⟨rfl,l2⟩;try walk_nrm
  refine aA ?_;exact⟨.inr trivial,trivial,_,resultsC_tmp (t:=4) ai _,by simp[lh,bytes],l1.trans l2⟩
 ·have hs:rm ts<=1000000000000:=by have:=LX ts;omega
  refine bA W func198 ai ?_;refine aA ?_;refine aF W rfl ai rfl func212 af rfl aC rfl ((aaQ hW b ts hn hm fD hb ht).mono ?_);rintro v o1 w1 ⟨rfl,l1⟩;try walk_nrm
  refine aA ?_;refine aF W rfl ai rfl func197 af rfl aC rfl ((QB hW hq _ hs l1.ok (hp.later hq l1)).mono ?_);rintro v o2 w2 ⟨rfl,l2⟩;try walk_nrm
  refine aA ?_;exact⟨.inr trivial,trivial,_,resultsC_tmp (t:=4) ai _,rfl,l1.trans l2⟩
 ·refine bA W func198 ai ?_;refine aA ?_;refine aF W rfl ai rfl func213 af rfl aC rfl ((TU hW b ts hn fD hb ht).mono ?_);rintro v o1 w1 ⟨rfl,l1⟩;try walk_nrm
  refine aA ?_;exact⟨.inr trivial,trivial,_,resultsC_tmp (t:=4) ai _,rfl,l1⟩
end
abbrev V0:V:=(false,aN)
def fZ(vs:List V)(j:Nat):Value:=if j%2=0 then .bool (vs.getD (j/2) V0).1 else .string (vs.getD (j/2) V0).2
def eM(w:ae)(b:Nat)(vs:List V):Prop:=w.rowIs b 159 (vs.length*2) (fZ vs)
theorem uN(vs:List V)(j:Nat)(g:Rn):val g (fZ vs j)=fZ vs j:=by unfold fZ;split<;>simp
theorem eM.lj{w:ae}{b:Nat}{vs:List V}(h:eM w b vs):vt w b 0 vs:=fun k hk=>by
 have h1:=World.rowIs.cell h (i:=k*2) aa;have h2:=World.rowIs.cell h (i:=k*2+1) aa;have e1:fZ vs (k*2)=.bool vs[k].1:=by
  unfold fZ;rw[if_pos aa,show k*2/2=k by omega];simp[List.getD,hk]
 have e2:fZ vs (k*2+1)=.string vs[k].2:=by
  unfold fZ;rw[if_neg aa,show(k*2+1)/2=k by omega];simp[List.getD,hk]
 rw[bh,h1,h2,e1,e2];exact⟨rfl,rfl⟩
theorem eM.shut{w:ae}{b:Nat}{vs:List V}(h:eM w b vs):G7 (fun x=>x==b) w:=HG h fun j _ g=>uN vs j g
theorem eM.of_block{w w':ae}{b:Nat}{vs:List V}(h:eM w b vs)(e:w'.heap[b]?=w.heap[b]?):eM w' b vs:=World.rowIs.of_block h e
section
variable {T:cP} {i:Nat} {V:Nat->ae->Prop} {E:bH} {rc:Nat->Prop} {o:aM} {w:ae}
theorem E4(hW:qt T i)(b:Nat)(vs:List Kz.V)(hn:vs.length<=100000)(fD:fT T o w)(hb:o b)(ht:eM w b vs):
  bp ar (XW ar T i V E rc) 196 #[.slice (some ⟨b,0,none⟩) vs.length vs.length] o w fun v o' w'=>v=.int .i64 (cnt vs)/\cB T i rc o w o' w' :=
 nz (N:=fun x=>x==b) hW.ok hW.i Bu gB hW.jF af fD (fun x hx=>by simp at hx;subst hx;exact hb) ht.shut (fun g hg=>by simp[val,addr,hg b an]) _ (fun g=>an) fun wl h1 h2 =>
  NC b 0 vs.length vs wl hn (by have:=(fD.tK b hb).2;omega) (ht.of_block (h1 b an)).lj
theorem NI(hW:qt T i)(b:Nat)(vs:List Kz.V)(hn:vs.length<=100000)(fD:fT T o w)(hb:o b)(ht:eM w b vs):
  bp ar (XW ar T i V E rc) 199 #[.slice (some ⟨b,0,none⟩) vs.length vs.length] o w fun v o' w'=>∃A,v=.slice (some ⟨A,0,none⟩) (vs.map (·.2)).length (vs.map (·.2)).length/\o' A/\lz w' A (vs.map (·.2))/\cB T i rc o w o' w':=by
 refine vm (N:=fun x=>x==b) (R:=fun wl v w'=>v=.slice (some ⟨wl.heap.size,0,none⟩) vs.length vs.length/\(∀x,x<wl.heap.size->w'.heap[x]?=wl.heap[x]?)/\w'.rowIs wl.heap.size 9 vs.length (fun j=>.string (vs.getD j (false,aN)).2)) hW.ok hW.i Bu gB hW.jF af fD
  (fun x hx=>by simp at hx;subst hx;exact hb) ht.shut (fun g hg=>by simp[val,addr,hg b an]) (fun wl v w' τ d h=>h) (fun wl τ d v w' h=>h) (fun wl h1 h2=>?_) ?_
 ·refine(HE b 0 vs.length vs wl hn (by have:=(fD.tK b hb).2;omega) (ht.of_block (h1 b an)).lj).mono ?_;rintro e w' ⟨rfl,hB,_,b6⟩;exact⟨_,rfl,rfl,hB.block,b6⟩
 ·rintro wl v v' F' o' aI w' h1 h2 ⟨rfl,dW,b6⟩ hB;obtain⟨hK,rfl,mr⟩:=hB.slice;have hrel:=hB.stays ht.shut h1 (fun x hx=>dW x (by simp at hx;subst hx;have:=(fD.tK x hb).2;omega));refine⟨F'.φ wl.heap.size,an,mr,?_,hrel,⟨hB.tK,aR fD.size hrel.size⟩,hB.more⟩;have Kp:=Xq hB.wr hK (fun j _ f=>an) b6;show w'.rowIs _ _ (vs.map (·.2)).length _;rw[bG];refine Kp.congr fun j hj=>?_;simp[List.getD,hj]
def jC(r:Int)(vs:List Kz.V):Kz.V:=if r=5 then(true,⟨(Lib.decDigits (cnt vs)).toArray⟩) else if cnt vs<vs.length then(false,aN) else(true,lh r (vs.map (·.2)))
theorem Kq(hW:qt T i)(hq:Quiet T 1)(b:Nat)(vs:List Kz.V)(hn:vs.length<=100000)(fD:fT T o w)(hb:o b)(ht:eM w b vs)(hp:jB w):
  bp ar (XW ar T i V E rc) 163 #[.int .i64 5,.slice (some ⟨b,0,none⟩) vs.length vs.length] o w fun v o' w'=>v=.agg #[.bool (jC 5 vs).1,.string (jC 5 vs).2]/\cB T i rc o w o' w':=by
 have W:=cv (P:=ar) (T:=T) (i:=i) (V:=V) (E:=E) rc;have hc:cnt vs<=1000000000000:=by have:=Bv vs;omega
 refine dJ W func163 ai ?_;refine aA ?_;refine mI hW.ok hW.i fD rfl ai rfl (Obj.cells #[.bool false,.string aN] 159) (fun w1=>by simp[go_sem];rfl) (fun w1=>fa) fun A o1 w1 l1 hA lY O2 EL=>?_;try walk_nrm
 refine aA ?_;have Gd:eM w1 b vs:=ht.of_block (l1.rel.own b hb);refine aF W rfl ai rfl func196 af rfl aC rfl ((E4 hW b vs hn l1.ok (l1.more b hb) Gd).mono ?_);rintro v o2 w2 ⟨rfl,l2⟩;try walk_nrm
 refine aA ?_;refine aF W rfl ai rfl func197 af rfl aC rfl ((QB hW hq (cnt vs) hc l2.ok ((hp.later hq l1).later hq l2)).mono ?_);rintro v o3 w3 ⟨rfl,l3⟩;try walk_nrm
 refine aA ?_;have rZ:w3.heap[A]?=some (Obj.cells #[.bool false,.string aN] 159):=by rw[l3.rel.own A (l2.more A hA),l2.rel.own A hA,lY]
 have cellsOf:∀{w4:ae} {x s:Value},w4.heap[A]?=some (Obj.cells #[x,s] 159)->w4.cell? ⟨A,0,none⟩=some x/\w4.cell? ⟨A,1,none⟩=some s/\w4.frozen? ⟨A,0,none⟩=false/\w4.frozen? ⟨A,1,none⟩=false:=fun h=>by simp[World.cell?,World.frozen?,h]
 refine pf hW.ok hW.i l3.ok rfl ai A (l3.more A (l2.more A hA)) (f:=fun w4=>(w4.setCell ⟨A,0,none⟩ (.bool true)).setCell ⟨A,1,none⟩ (.string ⟨(Lib.decDigits (cnt vs)).toArray⟩)) (fun w4 h4=>?_) (fun w4=>(gx.set _ _ _ _).trans (gx.set _ _ _ _)) (fun w4 h4 e he=>?_) fun w4 h4 l4=>?_
 ·obtain⟨c0,c1,f0,f1⟩:=cellsOf (h4.trans rZ);simp[go_sem,c0,c1,f0,f1]
 ·obtain⟨c0,c1,f0,f1⟩:=cellsOf (h4.trans rZ);have Cp:(w4.setCell ⟨A,0,none⟩ (.bool true)).cell? ⟨A,1,none⟩=some (.string aN):=by rw[World.cell?_setCell_other _ _ _ _ an];exact c1
  have XH:(w4.setCell ⟨A,0,none⟩ (.bool true)).frozen? ⟨A,1,none⟩=false:=by simpa using f1
  simp[go_sem,c0,c1,f0,f1] at he;rw[cD _ _ c0 f0 rfl,cD _ _ Cp XH rfl] at he;simp at he;rcases he with rfl|rfl;all_goals exact⟨_,_,_,rfl,rfl⟩
 try walk_nrm
 refine aA ?_;have mq:((w4.setCell ⟨A,0,none⟩ (.bool true)).setCell ⟨A,1,none⟩ (.string ⟨(Lib.decDigits (cnt vs)).toArray⟩)).heap[A]?=some (Obj.cells #[.bool true,.string ⟨(Lib.decDigits (cnt vs)).toArray⟩] 159):=by
  simp[World.setCell,er,h4.trans rZ]
 generalize (w4.setCell ⟨A,0,none⟩ (.bool true)).setCell ⟨A,1,none⟩ (.string ⟨(Lib.decDigits (cnt vs)).toArray⟩)=w5 at *;have QD:¬o A:=fun h=>by have:=(fD.tK A h).2;omega
 refine⟨.inr trivial,trivial,.agg #[.bool true,.string ⟨(Lib.decDigits (cnt vs)).toArray⟩],fun w6 h6=>?_,by simp[jC],((((l1.trans l2).trans l3).vn (A:=A)).trans l4).later QD⟩;obtain⟨c0,c1,f0,f1⟩:=cellsOf ((h6.own A (l3.more A (l2.more A hA))).trans mq);refine⟨by simp[results,results163,go_sem,c0,c1],fun es GJ=>⟨.refl _ _,fun e he=>?_⟩⟩;have:=GJ e he;simp[results,results163,go_sem,c0,c1] at this;rcases this with rfl|rfl;all_goals exact wu (.inl (l3.more A (l2.more A hA)))
theorem Kr(hW:qt T i)(hq:Quiet T 1)(r:Int)(hr:r=1\/r=2\/r=3\/r=4)(b:Nat)(vs:List Kz.V)(hn:vs.length<=100000)(hm:iM (vs.map (·.2))<=1000000)(sd:cnt vs<vs.length)(fD:fT T o w)(hb:o b)(ht:eM w b vs)(hp:jB w):
  bp ar (XW ar T i V E rc) 163 #[.int .i64 r,.slice (some ⟨b,0,none⟩) vs.length vs.length] o w fun v o' w'=>v=.agg #[.bool (jC r vs).1,.string (jC r vs).2]/\cB T i rc o w o' w':=by
 have W:=cv (P:=ar) (T:=T) (i:=i) (V:=V) (E:=E) rc;have SP:¬r=5:=aa;have NJ:(r==5)=false:=by simpa using SP
 have eY:=Bv vs;have bZ:(cnt vs:Int)<(vs.length:Int):=aa;refine dJ W func163 ai ?_;refine aA ?_;refine mI hW.ok hW.i fD rfl ai rfl (Obj.cells #[.bool false,.string aN] 159) (fun w1=>by simp[go_sem];rfl) (fun w1=>fa) fun A o1 w1 l1 hA lY O2 EL=>?_;try walk_nrm
 refine aA ?_;have Gd:eM w1 b vs:=ht.of_block (l1.rel.own b hb);refine aF W rfl ai rfl func196 af rfl aC rfl ((E4 hW b vs hn l1.ok (l1.more b hb) Gd).mono ?_);rintro v o2 w2 ⟨rfl,l2⟩;try walk_nrm
 refine aA ?_;have XI:o2 A:=l2.more A hA;have lL:cB T i rc o w o2 w2:=l1.trans l2;have rZ:w2.heap[A]?=some (Obj.cells #[.bool false,.string aN] 159):=by rw[l2.rel.own A hA,lY]
 have cellsOf:∀{w4:ae} {x s:Value},w4.heap[A]?=some (Obj.cells #[x,s] 159)->w4.cell? ⟨A,0,none⟩=some x/\w4.cell? ⟨A,1,none⟩=some s/\w4.frozen? ⟨A,0,none⟩=false/\w4.frozen? ⟨A,1,none⟩=false:=fun h=>by simp[World.cell?,World.frozen?,h]
 refine pf hW.ok hW.i lL.ok rfl ai A XI (f:=fun w4=>(w4.setCell ⟨A,0,none⟩ (.bool false)).setCell ⟨A,1,none⟩ (.string aN)) (fun w4 h4=>?_) (fun w4=>(gx.set _ _ _ _).trans (gx.set _ _ _ _)) (fun w4 h4 e he=>?_) fun w4 h4 l4=>?_
 ·obtain⟨c0,c1,f0,f1⟩:=cellsOf (h4.trans rZ);simp[go_sem,c0,c1,f0,f1];rfl
 ·obtain⟨c0,c1,f0,f1⟩:=cellsOf (h4.trans rZ);have Cp:(w4.setCell ⟨A,0,none⟩ (.bool false)).cell? ⟨A,1,none⟩=some (.string aN):=by rw[World.cell?_setCell_other _ _ _ _ an];exact c1
  have XH:(w4.setCell ⟨A,0,none⟩ (.bool false)).frozen? ⟨A,1,none⟩=false:=by simpa using f1
  simp[go_sem,c0,c1,f0,f1] at he;rw[cD _ _ c0 f0 rfl,cD _ _ Cp XH rfl] at he;simp at he;rcases he with rfl|rfl;all_goals exact⟨_,_,_,rfl,rfl⟩
 try walk_nrm
 refine aA ?_;have mq:((w4.setCell ⟨A,0,none⟩ (.bool false)).setCell ⟨A,1,none⟩ (.string aN)).heap[A]?=some (Obj.cells #[.bool false,.string aN] 159):=by
  simp[World.setCell,er,h4.trans rZ]
 generalize (w4.setCell ⟨A,0,none⟩ (.bool false)).setCell ⟨A,1,none⟩ (.string aN)=w5 at *;have QD:¬o A:=fun h=>by have:=(fD.tK A h).2;omega
 refine⟨.inr trivial,trivial,.agg #[.bool false,.string aN],fun w6 h6=>?_,by simp[jC, *],((lL.vn (A:=A)).trans l4).later QD⟩;obtain⟨c0,c1,f0,f1⟩:=cellsOf ((h6.own A XI).trans mq);refine⟨by simp[results,results163,go_sem,c0,c1],fun es GJ=>⟨.refl _ _,fun e he=>?_⟩⟩;have:=GJ e he;simp[results,results163,go_sem,c0,c1] at this;rcases this with rfl|rfl;all_goals exact wu (.inl XI)
theorem QE(hW:qt T i)(hq:Quiet T 1)(r:Int)(hr:r=1\/r=2\/r=3\/r=4)(b:Nat)(vs:List Kz.V)(hn:vs.length<=100000)(hm:iM (vs.map (·.2))<=1000000)(sd:¬cnt vs<vs.length)(fD:fT T o w)(hb:o b)(ht:eM w b vs)(hp:jB w):
  bp ar (XW ar T i V E rc) 163 #[.int .i64 r,.slice (some ⟨b,0,none⟩) vs.length vs.length] o w fun v o' w'=>v=.agg #[.bool (jC r vs).1,.string (jC r vs).2]/\cB T i rc o w o' w':=by
 have W:=cv (P:=ar) (T:=T) (i:=i) (V:=V) (E:=E) rc;have SP:¬r=5:=aa;have NJ:(r==5)=false:=by simpa using SP
 have eY:=Bv vs;have bZ:¬(cnt vs:Int)<(vs.length:Int):=aa;refine dJ W func163 ai ?_;refine aA ?_;refine mI hW.ok hW.i fD rfl ai rfl (Obj.cells #[.bool false,.string aN] 159) (fun w1=>by simp[go_sem];rfl) (fun w1=>fa) fun A o1 w1 l1 hA lY O2 EL=>?_;try walk_nrm
 refine aA ?_;have Gd:eM w1 b vs:=ht.of_block (l1.rel.own b hb);refine aF W rfl ai rfl func196 af rfl aC rfl ((E4 hW b vs hn l1.ok (l1.more b hb) Gd).mono ?_);rintro v o2 w2 ⟨rfl,l2⟩;try walk_nrm
 refine aA ?_;have I2:eM w2 b vs:=Gd.of_block (l2.rel.own b (l1.more b hb));refine aF W rfl ai rfl func199 af rfl aC rfl ((NI hW b vs hn l2.ok (l2.more b (l1.more b hb)) I2).mono ?_);rintro v o3 w3 ⟨B,rfl,hB,htx,l3⟩;try walk_nrm
 refine aA ?_;refine aF W rfl ai rfl func198 af rfl aC rfl ((NH hW hq r hr B (vs.map (·.2)) (by simpa using hn) hm l3.ok hB htx (((hp.later hq l1).later hq l2).later hq l3)).mono ?_);rintro v o4 w9 ⟨rfl,l9⟩;try walk_nrm
 refine aA ?_;have XI:o4 A:=l9.more A (l3.more A (l2.more A hA));have lL:cB T i rc o w o4 w9:=((l1.trans l2).trans l3).trans l9;have rZ:w9.heap[A]?=some (Obj.cells #[.bool false,.string aN] 159):=by rw[l9.rel.own A (l3.more A (l2.more A hA)),l3.rel.own A (l2.more A hA),l2.rel.own A hA,lY]
 have cellsOf:∀{w4:ae} {x s:Value},w4.heap[A]?=some (Obj.cells #[x,s] 159)->w4.cell? ⟨A,0,none⟩=some x/\w4.cell? ⟨A,1,none⟩=some s/\w4.frozen? ⟨A,0,none⟩=false/\w4.frozen? ⟨A,1,none⟩=false:=fun h=>by simp[World.cell?,World.frozen?,h]
 refine pf hW.ok hW.i lL.ok rfl ai A XI (f:=fun w4=>(w4.setCell ⟨A,0,none⟩ (.bool true)).setCell ⟨A,1,none⟩ (.string (lh r (vs.map (·.2))))) (fun w4 h4=>?_) (fun w4=>(gx.set _ _ _ _).trans (gx.set _ _ _ _)) (fun w4 h4 e he=>?_) fun w4 h4 l4=>?_
 ·obtain⟨c0,c1,f0,f1⟩:=cellsOf (h4.trans rZ);simp[go_sem,c0,c1,f0,f1]
 ·obtain⟨c0,c1,f0,f1⟩:=cellsOf (h4.trans rZ);have Cp:(w4.setCell ⟨A,0,none⟩ (.bool true)).cell? ⟨A,1,none⟩=some (.string aN):=by rw[World.cell?_setCell_other _ _ _ _ an];exact c1
  have XH:(w4.setCell ⟨A,0,none⟩ (.bool true)).frozen? ⟨A,1,none⟩=false:=by simpa using f1
  simp[go_sem,c0,c1,f0,f1] at he;rw[cD _ _ c0 f0 rfl,cD _ _ Cp XH rfl] at he;simp at he;rcases he with rfl|rfl;all_goals exact⟨_,_,_,rfl,rfl⟩
 try walk_nrm
 refine aA ?_;have mq:((w4.setCell ⟨A,0,none⟩ (.bool true)).setCell ⟨A,1,none⟩ (.string (lh r (vs.map (·.2))))).heap[A]?=some (Obj.cells #[.bool true,.string (lh r (vs.map (·.2)))] 159):=by
  simp[World.setCell,er,h4.trans rZ]
 generalize (w4.setCell ⟨A,0,none⟩ (.bool true)).setCell ⟨A,1,none⟩ (.string (lh r (vs.map (·.2))))=w5 at *;have QD:¬o A:=fun h=>by have:=(fD.tK A h).2;omega
 refine⟨.inr trivial,trivial,.agg #[.bool true,.string (lh r (vs.map (·.2)))],fun w6 h6=>?_,by simp[jC, *],((lL.vn (A:=A)).trans l4).later QD⟩;obtain⟨c0,c1,f0,f1⟩:=cellsOf ((h6.own A XI).trans mq);refine⟨by simp[results,results163,go_sem,c0,c1],fun es GJ=>⟨.refl _ _,fun e he=>?_⟩⟩;have:=GJ e he;simp[results,results163,go_sem,c0,c1] at this;rcases this with rfl|rfl;all_goals exact wu (.inl XI)
end
theorem mixed:ar.follows .mixedOrders=true:=af
theorem fA{t:Array Value}{n:Nat}(h:t.size=n):∃gs:Nat->Value,t=((List.range n).map gs).toArray:=by
 refine⟨fun k=>t.getD k undef,?_⟩;subst h;apply iF
 ·simp
 ·intro i h1 h2;simp[cO,h1]
structure mf where
 n:Nat
 bn:Nat
 Lb:Nat
 Lo:Nat
 St:Nat
 Vb:Nat
 Rb:Nat
 Nb:Nat
 Mb:Nat
 jm:Nat->Int
 ins:Nat->List (Bool×Nat)
 cw:Nat->Nat
 lj:List V
 ch:Nat->Nat
structure kG(D:mf)(w:ae):Prop where
 b0:w.cell? ⟨D.bn,0,none⟩=some (.pointer (some ⟨D.Lb,D.Lo,none⟩))
 b1:w.cell? ⟨D.bn,1,none⟩=some (.slice (some ⟨D.Vb,0,none⟩) D.lj.length D.lj.length)
 b2:w.cell? ⟨D.bn,2,none⟩=some (.slice (some ⟨D.Rb,0,none⟩) D.n D.n)
 b3:w.cell? ⟨D.bn,3,none⟩=some (.slice (some ⟨D.Nb,0,none⟩) D.n D.n)
 b4:w.cell? ⟨D.bn,4,none⟩=some (.slice (some ⟨D.Mb,0,none⟩) D.n D.n)
 steps:w.cell? ⟨D.Lb,D.Lo,none⟩=some (.slice (some ⟨D.St,0,none⟩) D.n D.n)
 eD:∀s,s<D.n->w.cell? ⟨D.St,s*3+1,none⟩=some (.int .i64 (D.jm s))
 zJ:∀s,s<D.n->w.cell? ⟨D.St,s*3+2,none⟩=some (.slice (some ⟨D.cw s,0,none⟩) (D.ins s).length (D.ins s).length)
 Bw:∀s,s<D.n->∀j (h:j<(D.ins s).length),w.cell? ⟨D.cw s,j*2,none⟩=some (.bool (D.ins s)[j].1)/\w.cell? ⟨D.cw s,j*2+1,none⟩=some (.int .i64 (D.ins s)[j].2)
 lj:vt w D.Vb 0 D.lj
 made:∀s,s<D.n->w.cell? ⟨D.Mb,s,none⟩=some (.chan (some (D.ch s)))
structure yd(D:mf)(T:cP)(ord:Nat->Nat):Prop where
 Cx:Quiet T D.bn
 XJ:Quiet T D.Lb
 XK:Quiet T D.St
 Zm:Quiet T D.Vb
 qMb:Quiet T D.Mb
 NK:∀s,s<D.n->Quiet T (D.cw s)
 pI:∀i,i<T.n->ord i<D.n
 ch:∀i,i<T.n->T.ch i=D.ch (ord i)
 own:∀i l,T.js i l↔i<T.n/\((∃j,j<4/\l=.cell ⟨D.Rb,ord i*4+j,none⟩)\/l=.cell ⟨D.Nb,ord i,none⟩)
 O3:T.Sh D.Rb
 VR:T.Sh D.Nb
 apart:D.Rb≠D.Nb
 dep:∀i,i<T.n->∀m,(true,m)∈D.ins (ord i)->∃k,k<T.n/\ord k=m/\T.dep i k
 src:∀s,s<D.n->∀m,(false,m)∈D.ins s->m<D.lj.length
 short:∀s,s<D.n->(D.ins s).length<=4
 gT:D.n<=100000
 TV:D.lj.length<=100000
section
variable {D:mf} {T:cP} {ord:Nat->Nat} {i:Nat} {o rc:Nat->Prop} {w w1:ae}
theorem kG.later(h:kG D w)(q:yd D T ord)(r:cF T i o rc w w1):kG D w1:=by
 constructor
 ·rw[q.Cx.cell r];exact h.b0
 ·rw[q.Cx.cell r];exact h.b1
 ·rw[q.Cx.cell r];exact h.b2
 ·rw[q.Cx.cell r];exact h.b3
 ·rw[q.Cx.cell r];exact h.b4
 ·rw[q.XJ.cell r];exact h.steps
 ·intro s hs;rw[q.XK.cell r];exact h.eD s hs
 ·intro s hs;rw[q.XK.cell r];exact h.zJ s hs
 ·intro s hs j hj;rw[(q.NK s hs).cell r,(q.NK s hs).cell r];exact h.Bw s hs j hj
 ·intro k hk;rw[q.Zm.cell r,q.Zm.cell r];exact h.lj k hk
 ·intro s hs;rw[q.qMb.cell r];exact h.made s hs
theorem kG.HH(h:kG D w)(q:yd D T ord)(r:∀b,Quiet T b->w1.heap[b]?=w.heap[b]?):kG D w1:=by
 have rc:∀{b off},Quiet T b->w1.cell? ⟨b,off,none⟩=w.cell? ⟨b,off,none⟩:=fun hb=>cell_of (r _ hb);constructor
 ·rw[rc q.Cx];exact h.b0
 ·rw[rc q.Cx];exact h.b1
 ·rw[rc q.Cx];exact h.b2
 ·rw[rc q.Cx];exact h.b3
 ·rw[rc q.Cx];exact h.b4
 ·rw[rc q.XJ];exact h.steps
 ·intro s hs;rw[rc q.XK];exact h.eD s hs
 ·intro s hs;rw[rc q.XK];exact h.zJ s hs
 ·intro s hs j hj;rw[rc (q.NK s hs),rc (q.NK s hs)];exact h.Bw s hs j hj
 ·intro k hk;rw[rc q.Zm,rc q.Zm];exact h.lj k hk
 ·intro s hs;rw[rc q.qMb];exact h.made s hs
theorem cF.nX{mX:Nat->Prop}(DH:∀k,rc k->mX k)(h:cF T i o mX w w1):cF T i o rc w w1 :=
 ⟨h.size,h.own,h.ro,h.sh,fun a ha=>h.mine a (ha.imp id fun⟨k,hk,hl⟩=>⟨k,DH k hk,hl⟩),h.chan,h.A0,h.wg,h.os,h.output⟩
theorem mK{o':aM}{w2:ae}(h:cB T i rc o w o' w1)(hr:cF T i o' rc w1 w2):cB T i rc o w o' w2 :=
 ⟨h.rel.trans (hr.less h.more),⟨fun b hb=>⟨(h.ok.tK b hb).1,bm (h.ok.tK b hb).2 hr.size⟩,aR h.ok.size hr.size⟩,h.more⟩
theorem eT{b off:Nat}{sy:Bool}(h:Quiet T b):LF T i o rc ⟨.cell ⟨b,off,none⟩,false,sy⟩:=sZ (.inr (.inr (.inr (h.ro off))))
theorem nD{b off:Nat}{wt sy:Bool}(h:o b):LF T i o rc ⟨.cell ⟨b,off,none⟩,wt,sy⟩:=wu h
end
section
variable {P:Program} {T:cP} {i:Nat} {V:Nat->ae->Prop} {E:bH} {rc o:Nat->Prop} {w:ae}
theorem s9(hT:T.OK)(hi:i<T.n){fn:FuncId}{Q:Exit->Act->aM->ae->Prop}{a:Act}(fD:fT T o w){ops:Array Oper}{j:Nat}{rest:List Nat}{op:Oper}(ho:ops[j]?=some op)(hw:Region.wanted op (yielded ops a.tmps)=true)(A off:Nat)(hA:o A){t n:Nat}{g:Nat->Value}(hr:w.rowIs A t n g)(h0:off+1<n)(x y:Value)(hx:x.oneCell'=true)(hy:y.oneCell'=true)(cm:∀w1,w1.cell? ⟨A,off,none⟩=some (g off)->w1.cell? ⟨A,off+1,none⟩=some (g (off+1))->(∀k,w1.frozen? ⟨A,k,none⟩=false)->(execOp a.eval op).run P w1=.ok .skip ((w1.setCell ⟨A,off,none⟩ x).setCell ⟨A,off+1,none⟩ y))(iH:∀w1,w1.cell? ⟨A,off,none⟩=some (g off)->w1.cell? ⟨A,off+1,none⟩=some (g (off+1))->(∀k,w1.frozen? ⟨A,k,none⟩=false)->∃m m',(execOp a.eval op).events P w1 #[]=(store ⟨A,off+1,none⟩ y m').events P (w1.setCell ⟨A,off,none⟩ x) ((store ⟨A,off,none⟩ x m).events P w1 #[]))(h:∀w2,p5 T i rc A o w o w2->w2.rowIs A t n (fun k=>if k=off+1 then y else if k=off then x else g k)->fu (XW P T i V E rc) fn ops rest Q (a.put op.dst undef) o w2):fu (XW P T i V E rc) fn ops (j::rest) Q a o w:=by
 refine pf hT hi fD ho hw A hA (f:=fun w4=>(w4.setCell ⟨A,off,none⟩ x).setCell ⟨A,off+1,none⟩ y) (fun w1 h1=>?_) (fun w4=>(gx.set _ _ _ _).trans (gx.set _ _ _ _)) (fun w1 h1 e he=>?_) fun w1 h1 l1=>?_
 ·have kR:=hr.of_block h1;exact cm w1 (kR.cell aa) (kR.cell h0) kR.frozen
 ·have kR:=hr.of_block h1;obtain⟨m,m',e1⟩:=iH w1 (kR.cell aa) (kR.cell h0) kR.frozen;rw[e1] at he;have Cp:(w1.setCell ⟨A,off,none⟩ x).cell? ⟨A,off+1,none⟩=some (g (off+1)):=by rw[World.cell?_setCell_other _ _ _ _ an];exact kR.cell h0
  have XH:(w1.setCell ⟨A,off,none⟩ x).frozen? ⟨A,off+1,none⟩=false:=(kR.set off x).frozen _;rw[cD _ _ (kR.cell aa) (kR.frozen _) hx,cD _ _ Cp XH hy] at he;simp at he;rcases he with rfl|rfl;all_goals exact⟨_,_,_,rfl,rfl⟩
 ·have kR:=hr.of_block h1;exact h _ l1 ((kR.set off x).set (off+1) y)
theorem HI(hT:T.OK)(hi:i<T.n){fn:FuncId}{Q:Exit->Act->aM->ae->Prop}{a:Act}(fD:fT T o w){ops:Array Oper}{j:Nat}{rest:List Nat}{op:Oper}(ho:ops[j]?=some op)(hw:Region.wanted op (yielded ops a.tmps)=true)(A:Nat)(hA:o A){t:Nat}{g:Nat->Value}(hr:w.rowIs A t 4 g)(x y u v:Value)(hx:x.oneCell'=true)(hy:y.oneCell'=true)(hu:u.oneCell'=true)(hv:v.oneCell'=true)(cm:∀w1,(∀k,k<4->w1.cell? ⟨A,k,none⟩=some (g k))->(∀k,w1.frozen? ⟨A,k,none⟩=false)->(execOp a.eval op).run P w1=.ok .skip ((((w1.setCell ⟨A,0,none⟩ x).setCell ⟨A,1,none⟩ y).setCell ⟨A,2,none⟩ u).setCell ⟨A,3,none⟩ v))(iH:∀w1,(∀k,k<4->w1.cell? ⟨A,k,none⟩=some (g k))->(∀k,w1.frozen? ⟨A,k,none⟩=false)->∃m,(execOp a.eval op).events P w1 #[]=(store ⟨A,3,none⟩ v m).events P (((w1.setCell ⟨A,0,none⟩ x).setCell ⟨A,1,none⟩ y).setCell ⟨A,2,none⟩ u) ((store ⟨A,2,none⟩ u m).events P ((w1.setCell ⟨A,0,none⟩ x).setCell ⟨A,1,none⟩ y) ((store ⟨A,1,none⟩ y m).events P (w1.setCell ⟨A,0,none⟩ x) ((store ⟨A,0,none⟩ x m).events P w1 #[]))))(h:∀w2,p5 T i rc A o w o w2->w2.rowIs A t 4 (fun k=>if k=3 then v else if k=2 then u else if k=1 then y else if k=0 then x else g k)->fu (XW P T i V E rc) fn ops rest Q (a.put op.dst undef) o w2):fu (XW P T i V E rc) fn ops (j::rest) Q a o w:=by
 refine pf hT hi fD ho hw A hA (f:=fun w4=>(((w4.setCell ⟨A,0,none⟩ x).setCell ⟨A,1,none⟩ y).setCell ⟨A,2,none⟩ u).setCell ⟨A,3,none⟩ v) (fun w1 h1=>?_) (fun w4=>(((gx.set _ _ _ _).trans (gx.set _ _ _ _)).trans (gx.set _ _ _ _)).trans (gx.set _ _ _ _)) (fun w1 h1 e he=>?_) fun w1 h1 l1=>?_
 ·have kR:=hr.of_block h1;exact cm w1 (fun k hk=>kR.cell hk) kR.frozen
 ·have kR:=hr.of_block h1;obtain⟨m,e1⟩:=iH w1 (fun k hk=>kR.cell hk) kR.frozen;have r1:=kR.set 0 x;have r2:=r1.set 1 y;have r3:=r2.set 2 u;rw[e1,cD _ _ (kR.cell (i:=0) aa) (kR.frozen _) hx,cD _ _ (r1.cell (i:=1) aa) (r1.frozen _) hy,cD _ _ (r2.cell (i:=2) aa) (r2.frozen _) hu,cD _ _ (r3.cell (i:=3) aa) (r3.frozen _) hv] at he;simp at he;rcases he with rfl|rfl|rfl|rfl;all_goals exact⟨_,_,_,rfl,rfl⟩
 ·have kR:=hr.of_block h1;exact h _ l1 ((((kR.set 0 x).set 1 y).set 2 u).set 3 v)
end
theorem QF(d:Nat)(a b:Bool)(w:ae)(es:Array Event):(Op.equalIn (d+1) 4 (.bool a) (.bool b)).events ar w es=es:=by
 simp[Op.equalIn,go_sem,Sem.events_bind,events_underlying]
theorem Ks(d:Nat)(a b:ah)(w:ae)(es:Array Event):(Op.equalIn (d+1) 9 (.string a) (.string b)).events ar w es=es:=by
 simp[Op.equalIn,go_sem,Sem.events_bind,events_underlying]
theorem NL(e:Nat)(w:ae)(es:Array Event)(a c:Bool)(b d:ah):(Op.equalIn (e+2) 159 (.agg #[.bool a,.string b]) (.agg #[.bool c,.string d])).events ar w es=es:=by
 rw[Op.equalIn];simp[go_sem,Sem.events_bind,QF,Ks]
theorem p8(w:ae)(a c:Bool)(b d:ah):(binOp .neq 159 (.agg #[.bool a,.string b]) (.agg #[.bool c,.string d])).run ar w=.ok (.bool (!decide ((a,b)=(c,d)))) w:=by
 have e:b.toList=d.toList↔b=d:=by
  rw[ByteArray.toList_eq,ByteArray.toList_eq];constructor
  ·intro h;obtain⟨⟨x⟩⟩:=b;obtain⟨⟨y⟩⟩:=d;have h:x=y:=h;rw[h]
  ·rintro rfl;rfl
 simp[go_sem,e];by_cases h1:a=c<;>by_cases h2:b=d<;>simp[h1,h2]
theorem uO(w:ae)(es:Array Event)(a c:Bool)(b d:ah):(binOp .neq 159 (.agg #[.bool a,.string b]) (.agg #[.bool c,.string d])).events ar w es=es:=by
 simp only[binOp];simp[Op.equal,Op.maxDepth,Sem.events_bind,NL 9998]
theorem pR(op:BinOp)(x y:Operand)(xs ys:Array Value)(w:ae)(es:Array Event):(eqGuard op 159 x y (.agg xs) (.agg ys)).events ar w es=es:=by
 cases op<;>simp[eqGuard,run_program,Sem.events_bind,show ar.eqGuardType ar.depth 159=false by kernel_rfl]
section
variable {T:cP} {i:Nat} {V:Nat->ae->Prop} {E:bH} {rc:Nat->Prop} {o:aM} {w:ae}
structure EqI(T:cP)(i:Nat)(rc:Nat->Prop)(o0:aM)(w0:ae)(B A:Nat)(xs ys:List Kz.V)(j:Nat)(a:Act)(o:aM)(w:ae):Prop where
 size:a.tmps.size=26
 df:a.defers=[]
 t0:a.eval (.tmp 0)=.slice (some ⟨B,0,none⟩) xs.length xs.length
 t1:a.eval (.tmp 1)=.slice (some ⟨A,0,none⟩) xs.length xs.length
 t12:a.eval (.tmp 12)=.int .i64 xs.length
 t13:a.eval (.tmp 13)=.int .i64 j
 eq:xs.take j=ys.take j
 lat:cB T i rc o0 w0 o w
theorem TW(hW:qt T i)(B A:Nat)(xs ys:List Kz.V)(hlen:xs.length<=100000)(hly:ys.length<=100000)(fD:fT T o w)(hB:Quiet T B)(hx:vt w B 0 xs)(hA:o A)(hy:vt w A 0 ys):
  bp ar (XW ar T i V E rc) 162 #[.slice (some ⟨B,0,none⟩) xs.length xs.length,.slice (some ⟨A,0,none⟩) ys.length ys.length] o w fun v o' w'=>v=.bool (decide (xs=ys))/\cB T i rc o w o' w':=by
 have W:=cv (P:=ar) (T:=T) (i:=i) (V:=V) (E:=E) rc;refine bA W func162 ai ?_;by_cases hl:xs.length=ys.length
 case neg =>
  have cV:¬xs=ys:=fun e=>hl (by rw[e]);have ht:((xs.length:Int) != (ys.length:Int))=true:=eR;refine aA ?_;exact⟨.inr trivial,trivial,_,resultsC_tmp (t:=4) ai _,by simp[Act.eval,cV],.refl fD⟩
 have Ge:ys.length=xs.length:=hl.symm;clear hl;refine aA ?_;refine nu W (fun n a o' w'=>∃j,n+j=xs.length/\EqI T i rc o w B A xs ys j a o' w') (N:=xs.length) ⟨0,an,rfl,rfl,aC,by simp[Act.eval,Ge],aC,aC,an,.refl fD⟩ ?_;rintro n a o1 w1 ⟨j,hnj,ft,pF,t0,t1,t12,t13,heq,vu⟩;obtain⟨tm,df⟩:=a;simp only at ft pF;subst pF;obtain⟨gs,rfl⟩:=fA ft;simp only[List.range,List.range.loop,bU,oe] at *;simp[Act.eval] at t0 t1 t12 t13;simp only[t0,t1,t12,t13];rcases aZ n with hn|hn
 ·have hj:j=xs.length:=aa;subst hj;refine aA ?_;refine⟨.inr trivial,trivial,_,resultsC_tmp (t:=4) ai _,?_,vu⟩;have:xs=ys:=by rw[dz,<- Ge,dz] at heq;exact heq
  simp[Act.eval,this]
 ·have hj:j<xs.length:=aa;have hjy:j<ys.length:=aa;have hjI:(j:Int)<(xs.length:Int):=aa;refine aA ?_;have pH:o1 A:=vu.more A hA;refine tL mixed (n:=8) af [.slice (some ⟨B,0,none⟩) xs.length xs.length,.int .i64 j,.pointer (some ⟨B,j*2,none⟩),.agg #[.bool xs[j].1,.string xs[j].2],.slice (some ⟨A,0,none⟩) xs.length xs.length,.int .i64 j,.pointer (some ⟨A,j*2,none⟩),.agg #[.bool ys[j].1,.string ys[j].2]]
   (S:=fun o w=>o A/\w.cell? ⟨B,j*2,none⟩=some (.bool xs[j].1)/\w.cell? ⟨B,j*2+1,none⟩=some (.string xs[j].2)/\w.cell? ⟨A,j*2,none⟩=some (.bool ys[j].1)/\w.cell? ⟨A,j*2+1,none⟩=some (.string ys[j].2)/\cB T i rc o1 w1 o w) ?_ ?_ ?_
  ·rintro o w w' ⟨h1,h2,h3,h4,h5,h6⟩ hr;exact⟨h1,by rw[hB.cell hr];exact h2,by rw[hB.cell hr];exact h3,by rw[cell_of (hr.own A h1)];exact h4,by rw[cell_of (hr.own A h1)];exact h5,⟨h6.rel.trans (hr.less h6.more),⟨fun b hb=>⟨(h6.ok.tK b hb).1,bm (h6.ok.tK b hb).2 hr.size⟩,aR h6.ok.size hr.size⟩,h6.more⟩⟩
  ·have e1:=hx j hj;have e2:=hy j hjy;rw[bh] at e1 e2;exact⟨pH,by rw[hB.cell vu.rel];exact e1.1,by rw[hB.cell vu.rel];exact e1.2,by rw[cell_of (vu.rel.own A hA)];exact e2.1,by rw[cell_of (vu.rel.own A hA)];exact e2.2,.refl vu.ok⟩
  ·simp only[List.range,List.range.loop];refine cu rfl rfl (jL fun o2 w2 ⟨s1,s2,s3,s4,s5,s6⟩=>⟨by simp[go_sem,Act.eval],fa⟩) ?_;walk_nrm;refine cu rfl rfl (jL fun o2 w2 ⟨s1,s2,s3,s4,s5,s6⟩=>⟨by simp[go_sem,Act.eval],fa⟩) ?_;walk_nrm;refine cu rfl rfl (jL fun o2 w2 ⟨s1,s2,s3,s4,s5,s6⟩=>⟨by simp[go_sem, *],by simp[go_sem, *]⟩) ?_;walk_nrm;refine cu rfl rfl (jL fun o2 w2 ⟨s1,s2,s3,s4,s5,s6⟩=>⟨by simp[go_sem, *],fun e he=>?_⟩) ?_
   ·simp[go_sem, *] at he;rcases he with rfl|rfl<;>exact eT hB
   walk_nrm;refine cu rfl rfl (jL fun o2 w2 ⟨s1,s2,s3,s4,s5,s6⟩=>⟨by simp[go_sem,Act.eval],fa⟩) ?_;walk_nrm;refine cu rfl rfl (jL fun o2 w2 ⟨s1,s2,s3,s4,s5,s6⟩=>⟨by simp[go_sem,Act.eval],fa⟩) ?_;walk_nrm;refine cu rfl rfl (jL fun o2 w2 ⟨s1,s2,s3,s4,s5,s6⟩=>⟨by simp[go_sem, *],by simp[go_sem, *]⟩) ?_;walk_nrm;refine cu rfl rfl (jL fun o2 w2 ⟨s1,s2,s3,s4,s5,s6⟩=>⟨by simp[go_sem, *],fun e he=>?_⟩) ?_
   ·simp[go_sem, *] at he;rcases he with rfl|rfl<;>exact nD s1
   walk_nrm;refine nB fun o2 w2 ⟨s1,s2,s3,s4,s5,s6⟩=>?_;clear s2 s3 s4 s5;have Cy:cB T i rc o w o2 w2:=vu.trans s6;by_cases Vr:xs[j]=ys[j]
   ·refine DN W (v:=.bool false) rfl ai (fun w3=>by simp[go_sem,p8,Vr]) (fun w3=>by simp[go_sem,uO,pR]) ?_;refine aA ?_;have CP:IntKind.i64.wrap ((j:Int)+1)=((j+1:Nat):Int):=by rw[IntKind.wrap_i64]<;>omega
    refine⟨n-1,aa,j+1,aa,rfl,rfl,rfl,rfl,rfl,by simp[Act.eval,CP],?_,Cy⟩;rw[take_succ xs j hj,take_succ ys j hjy,heq,Vr]
   ·refine DN W (v:=.bool true) rfl ai (fun w3=>?_) (fun w3=>by simp[go_sem,uO,pR]) ?_
    ·have:xs[j].1=ys[j].1->¬xs[j].2=ys[j].2:=fun h1 h2=>Vr (Prod.ext h1 h2);by_cases h1:xs[j].1=ys[j].1
     ·simp[go_sem,p8,this h1]
     ·simp[go_sem,p8,h1]
    refine aA ?_;have cV:¬xs=ys:=fun e=>Vr (by subst e;rfl);exact⟨.inr trivial,trivial,_,resultsC_tmp (t:=4) ai _,by simp[Act.eval,cV],Cy⟩
end
end Go.Proofs.Kz
namespace Go.Ren
open Go.Conc Go.ConcN
section
variable {P:Program} {T:cP} {i:Nat} {V:Nat->ae->Prop} {E:bH}
theorem HJ(hT:T.OK)(hi:i<T.n){rc:Nat->Prop}{fn:FuncId}{Q:Exit->Act->aM->ae->Prop}{a:Act}{o:aM}{w:ae}(fD:fT T o w){ops:Array Oper}{j:Nat}{rest:List Nat}{op:Oper}(ho:ops[j]?=some op)(hw:Region.wanted op (yielded ops a.tmps)=true){d:Option Tmp}(hd:op.dst=d)(x:Obj)(f:Nat->Value)(cm:∀w1,(execOp a.eval op).run P w1=.ok (.value (f w1.heap.size)) (w1.alloc x))(iH:∀w1,(execOp a.eval op).events P w1 #[]=#[])(h:∀A o1 w2,cB T i rc o w o1 w2->o1 A->w2.heap[A]?=some x->w.heap.size<=A->(∀b,o1 b↔o b\/b=A)->fu (XW P T i V E rc) fn ops rest Q (a.put d (f A)) o1 w2):fu (XW P T i V E rc) fn ops (j::rest) Q a o w:=by
 subst hd;refine kO (cv rc) ho hw fun w1 kR K hK=>?_;rw[cm w1];simp only[uponK_value];refine hK _ _ ⟨⟨DO _ _ (aR fD.size kR.size) hT,by rw[listed_nil (iH w1)];simp⟩,h w1.heap.size _ _ (cB.alloc hT hi fD kR x) (.inr ⟨ag _,an⟩) ?_ kR.size fun b=>?_⟩
 ·show(w1.heap.push x)[w1.heap.size]?=_;simp
 ·have:=tJ o w1 x;exact Iff.of_eq (congrFun this b)
end
end Go.Ren
namespace Go.Proofs.Kz
open Go.Proofs.Tryz
open Go.Proofs.Tryz renaming prog → ar
open _root_.ByteArray renaming empty → aN
open Go.Ren Go.Conc Go.Proofs
theorem By:(ar.info? 159).map (fun i=>(i.zero,i.size,i.bytes))=some (some (.agg #[.bool false,.string aN]),2,24):=af
theorem uP(w:ae)(n:Nat)(hn:n<=100000):(Instr.makeSlice 98 (.int .i64 (n:Int)) (.int .i64 (n:Int))).run ar w=.ok (.slice (some ⟨w.heap.size,0,none⟩) n n) (w.alloc (.cells (madeCells #[.bool false,.string aN] (n*2)) 159)):=by
 obtain⟨i,hi,hz⟩:=Option.map_eq_some_iff.1 By;simp only[WS] at hz;obtain⟨hz,hs,hb⟩:=hz;have:=run_make (P:=ar) w 98 159 i _ underlying98 hi hz .i64 .i64 n n aa (fh _) (by rw[hb];omega) aa;rw[this,hs];simp[Value.cells]
theorem C1(w:ae)(n:Nat)(hn:n<=100000)(es:Array Event):(Instr.makeSlice 98 (.int .i64 (n:Int)) (.int .i64 (n:Int))).events ar w es=es:=by
 obtain⟨i,hi,hz⟩:=Option.map_eq_some_iff.1 By;simp only[WS] at hz;obtain⟨hz,hs,hb⟩:=hz;exact events_make (P:=ar) w 98 159 i _ underlying98 hi hz .i64 .i64 n n aa (fh _) (by rw[hb];omega) aa (by rw[hb];simp;omega) es
theorem HK{w:ae}{A n:Nat}(h:w.heap[A]?=some (.cells (madeCells #[.bool false,.string aN] (n*2)) 159)):eM w A (List.replicate n V0):=by
 refine⟨_,h,by simp[size_madeCells],fun j hj=>?_⟩;simp only[List.length_replicate] at hj;have hV:(List.replicate n V0).getD (j/2) V0=V0:=by simp[List.getD,List.getElem?_replicate];split<;>rfl
 simp only[madeCells,br,Array.getElem?_range,hj,if_true,cR,fZ,hV];rcases fL j with e|e<;>simp[e]
def HL(D:mf)(res:Nat->V)(x:Bool×Nat):V:=if x.1 then res x.2 else D.lj.getD x.2 V0
def dA(D:mf)(res:Nat->V)(s:Nat):List V:=(D.ins s).map (HL D res)
def part(l:List V)(j:Nat):List V:=l.take j++List.replicate (l.length-j) V0
theorem nE(l:List V)(j:Nat)(h:j<=l.length):(part l j).length=l.length:=by simp[part];omega
theorem D7(l:List V)(j m:Nat)(h:j<=l.length):(part l j).getD m V0=if m<j then l.getD m V0 else V0:=by
 unfold part;simp only[List.getD_eq_getElem?_getD];by_cases hm:m<j
 ·rw[jd eR,if_pos hm,eU hm]
 ·rw[iN eR,if_neg hm,List.getElem?_replicate];split<;>rfl
theorem Bz{w:ae}{A n:Nat}{l:List V}{j:Nat}(hj:j<l.length)(hn:n=l.length*2)(h:w.rowIs A 159 n (fun k=>if k=j*2+1 then .string l[j].2 else if k=j*2 then .bool l[j].1 else fZ (part l j) k)):eM w A (part l (j+1)):=by
 subst hn;unfold eM;rw[nE _ _ aa];refine h.congr fun k hk=>?_;simp only[fZ];rw[D7 _ _ _ aa,D7 _ _ _ aa];have hl:l.getD j V0=l[j]:=by simp[List.getD_eq_getElem?_getD,hj]
 by_cases e1:k=j*2+1
 ·subst e1;rw[if_pos rfl,if_neg aa,show(j*2+1)/2=j by omega,if_pos aa,hl]
 ·rw[if_neg e1];by_cases e2:k=j*2
  ·subst e2;rw[if_pos rfl,if_pos aa,show j*2/2=j by omega,if_pos aa,hl]
  ·rw[if_neg e2];have:(k/2<j↔k/2<j+1):=aa;by_cases e3:k/2<j
   ·rw[if_pos e3,if_pos (this.1 e3)]
   ·rw[if_neg e3,if_neg (fun h=>e3 (this.2 h))]
section
variable {T:cP} {i:Nat} {V:Nat->ae->Prop} {E:bH} {rc:Nat->Prop} {o:aM} {w:ae} {D:mf} {ord:Nat->Nat}
structure WfI(D:mf)(T:cP)(i:Nat)(rc0:Nat->Prop)(o0:aM)(w0:ae)(A B len:Nat)(l:List Kz.V)(j:Nat)(a:Act)(rc:Nat->Prop)(o:aM)(w:ae):Prop where
 size:a.tmps.size=54
 df:a.defers=[]
 t0:a.eval (.tmp 0)=.pointer (some ⟨D.bn,0,none⟩)
 t5:a.eval (.tmp 5)=.slice (some ⟨A,0,none⟩) len len
 t11:a.eval (.tmp 11)=.slice (some ⟨B,0,none⟩) len len
 t12:a.eval (.tmp 12)=.int .i64 len
 t13:a.eval (.tmp 13)=.int .i64 j
 row:eM w A (part l j)
 own:o A
 alh:kG D w
 rcs:∀k,rc0 k->rc k
 lat:cB T i rc0 o0 w0 o w
theorem NN(hW:qt T i)(hD:yd D T ord)(res:Nat->Kz.V)(hV:∀k w,k<T.n->V k w->w.cell? ⟨D.Rb,ord k*4+2,none⟩=some (.bool (res (ord k)).1)/\w.cell? ⟨D.Rb,ord k*4+3,none⟩=some (.string (res (ord k)).2))(fD:fT T o w)(hd:kG D w):
  DT ar T i V E 161 #[.pointer (some ⟨D.bn,0,none⟩),.slice (some ⟨D.cw (ord i),0,none⟩) (D.ins (ord i)).length (D.ins (ord i)).length] rc o w fun v mX o' w'=>∃A,v=.slice (some ⟨A,0,none⟩) (D.ins (ord i)).length (D.ins (ord i)).length/\o' A/\¬o A/\eM w' A (dA D res (ord i))/\(∀k,rc k->mX k)/\cB T i rc o w o' w':=by
 have W:∀rc,fg ar false (fun o=>cF T i o rc) (G1 T i rc) (fun o g w=>gj ar T i V E ⟨g,o,rc,w⟩):=fun rc=>cv rc;have W1:=W rc;have hs:=hD.pI i hW.i;have XL:=hD.short _ hs;have hlen:(dA D res (ord i)).length=(D.ins (ord i)).length:=by simp[dA]
 generalize hL:(D.ins (ord i)).length=len at *;refine EV func161 ai ?_;refine kj (ff ?_);refine aA ?_;refine kj (ff ?_);refine aA ?_;refine HJ hW.ok hW.i fD rfl ai rfl (.cells (madeCells #[.bool false,.string aN] (len*2)) 159) (fun A=>.slice (some ⟨A,0,none⟩) len len) (fun w1=>by simp[go_sem,uP w1 len aa]) (fun w1=>by simp[go_sem,C1 w1 len aa]) fun A o1 w1 l1 hA lY O2 EL=>?_;try walk_nrm
 refine aA ?_;refine kj (kj (ff ?_));refine aA ?_;have QD:¬o A:=fun h=>by have:=(fD.tK A h).2;omega
 refine DR (Qd (fun n a mX o' w'=>∃j,n+j=len/\WfI D T i rc o w A (D.cw (ord i)) len (dA D res (ord i)) j a mX o' w') (N:=len) ⟨0,an,rfl,rfl,rfl,rfl,rfl,rfl,aC,by have:=HK lY;simpa[part,hlen] using this,hA,hd.later hD l1.rel,fun _ h=>h,l1⟩ ?_);rintro n a te o2 w2 ⟨j,hnj,ft,pF,t0,t5,t11,t12,t13,b6,Hi,SN,wP,vu⟩;clear lY O2 EL hA l1 w1 o1 W1;have W1:=W te;obtain⟨tm,df⟩:=a;simp only at ft pF;subst pF;obtain⟨gs,rfl⟩:=fA ft;simp only[List.range,List.range.loop,bU,oe] at *;simp[Act.eval] at t0 t5 t11 t12 t13;simp only[t0,t5,t11,t12,t13];clear t0 t5 t11 t12 t13 ft;rcases aZ n with hn|hn
 ·have hj:j=len:=aa;subst hj;refine kj (ff ?_);refine aA ?_;refine kj (ff ?_);refine aA ?_;refine ff ?_;refine aA ?_;refine⟨.inr trivial,trivial,_,resultsC_tmp (t:=4) ai _,A,rfl,Hi,QD,?_,wP,vu⟩;have:part (dA D res (ord i)) j=dA D res (ord i):=by simp[part,<- hlen]
  rw[<- this];exact b6
 have hj:j<(D.ins (ord i)).length:=aa;have hjI:(j:Int)<(len:Int):=aa;have SE:j<(dA D res (ord i)).length:=aa;have hv:(dA D res (ord i))[j]=HL D res (D.ins (ord i))[j]:=by simp[dA]
 have NO:(D.ins (ord i))[j].1=false->(D.ins (ord i))[j].2<D.lj.length:=fun h=>hD.src _ hs _ (by rw[<- h];exact aD hj);have wB:(D.ins (ord i))[j].1=true->∃k,k<T.n/\ord k=(D.ins (ord i))[j].2/\T.dep i k:=fun h=>hD.dep i hW.i _ (by rw[<- h];exact aD hj);have hS:∀w3,cF T i o2 te w2 w3->w3.cell? ⟨D.cw (ord i),j*2,none⟩=some (.bool (D.ins (ord i))[j].1)/\w3.cell? ⟨D.cw (ord i),j*2+1,none⟩=some (.int .i64 (D.ins (ord i))[j].2):=fun w3 hr=>(SN.later hD hr).Bw _ hs j hj;generalize (D.ins (ord i))[j]=q at *;obtain⟨q1,q2⟩:=q;simp only at hS NO wB;refine kj (ff ?_);refine aA ?_;refine kj (ff ?_);refine aA ?_;refine kj (DR (kj (ff ?_)));refine aA ?_
 (refine fp W1 hS rfl ai (fun w9 hc=>⟨.refl _ _,fun e he=>?_⟩) fun w9 hc K hK=>?_;(focus (rw[bS];obtain⟨c0,c1⟩:=hc;have he:=mem_listed he;simp[go_sem, *] at he;rcases he with rfl|rfl<;>exact eT (hD.NK _ hs)));obtain⟨c0,c1⟩:=hc;go_simp;refine hK _ ?_;clear hK K;clear c0 c1 w9;try walk_nrm)
 refine mI hW.ok hW.i vu.ok rfl ai rfl (Obj.cells #[.bool false,.int .i64 0] 280) (fun w1=>fa) (fun w1=>fa) fun C o3 w3 l3 hC hCx hwC ho3=>?_;try walk_nrm
 refine aA ?_;have hCr:w3.rowIs C 280 2 (fun k=>if k=0 then .bool false else .int .i64 0):=⟨_,hCx,rfl,fun k hk=>by
  rcases(show k=0\/k=1 by omega) with rfl|rfl<;>rfl⟩
 have Cy:cB T i rc o w o3 w3:=vu.trans ⟨cF.nX wP l3.rel,l3.ok,l3.more⟩;have hnC:¬o2 C:=fun h=>by have:=(vu.ok.tK C h).2;omega
 have hCA:A≠C:=fun h=>hnC (h▸Hi);refine s9 hW.ok hW.i l3.ok rfl ai C 0 hC hCr aa (.bool q1) (.int .i64 q2) rfl rfl (fun w1 c0 c1 f=>?_) (fun w1 c0 c1 f=>⟨.plain,.plain,?_⟩) fun w4 l4 Zn=>?_
 ·simp at c0 c1;simp[go_sem,c0,c1,f]
 ·simp at c0 c1;simp[go_sem,c0,c1,f]
 have Jd:cB T i te o2 w2 o3 w4:=(l3.vn.trans l4).later hnC;clear l4 hCr hCx l3;try walk_nrm
 refine aA ?_;refine kj (ff ?_);refine aA ?_;have O4:∀w5,cF T i o3 te w4 w5->w5.cell? ⟨C,0,none⟩=some (.bool q1):=fun w5 hr=>by rw[cell_of (hr.own C hC)];exact Zn.cell (i:=0) aa
 (refine fp W1 O4 rfl ai (fun w9 hc=>⟨.refl _ _,fun e he=>?_⟩) fun w9 hc K hK=>?_;(focus (rw[bS];have he:=mem_listed he;simp[go_sem, *] at he;subst he;exact nD hC));go_simp;refine hK _ ?_;clear hK K;clear hc w9;try walk_nrm)
 refine aA ?_;have rZ:o3 A:=Jd.more A Hi;have LY:eM w4 A (part (dA D res (ord i)) j):=b6.of_block (Jd.rel.own A Hi);have Zo:kG D w4:=SN.later hD Jd.rel;have LZ:cB T i rc o w o3 w4:=vu.trans ⟨cF.nX wP Jd.rel,Jd.ok,Jd.more⟩;have Zk:w4.cell? ⟨C,1,none⟩=some (.int .i64 q2):=Zn.cell (i:=1) aa;clear O4 Zn hS b6 SN vu Cy Jd ho3 hwC hnC;cases q1 with
 |false =>
  refine Hc rfl (fun h=>by cases h) fun _=>?_;have hq:=NO rfl;have hqI:(q2:Int)<(D.lj.length:Int):=aa;have Tc:(dA D res (ord i))[j]=D.lj[q2]:=by rw[hv];simp[HL,List.getD_eq_getElem?_getD,hq]
  refine ff (tL mixed (n:=11) af [.slice (some ⟨A,0,none⟩) len len,.int .i64 j,.pointer (some ⟨D.bn,0,none⟩),.pointer (some ⟨D.bn,0,none⟩),.pointer (some ⟨D.bn,1,none⟩),.slice (some ⟨D.Vb,0,none⟩) D.lj.length D.lj.length,.pointer (some ⟨C,1,none⟩),.int .i64 q2,.pointer (some ⟨D.Vb,q2*2,none⟩),.agg #[.bool D.lj[q2].1,.string D.lj[q2].2],.pointer (some ⟨A,j*2,none⟩)]
   (S:=fun o5 w5=>o5=o3/\cB T i te o3 w4 o5 w5) (fun o5 w5 w6 h hr=>⟨h.1,mK h.2 hr⟩) ⟨rfl,.refl LZ.ok⟩ ?_)
  have F1:∀o5 w5,o5=o3/\cB T i te o3 w4 o5 w5->w5.cell? ⟨D.bn,1,none⟩=some (.slice (some ⟨D.Vb,0,none⟩) D.lj.length D.lj.length):=fun o5 w5 h=>(Zo.later hD h.2.rel).b1;have F2:∀o5 w5,o5=o3/\cB T i te o3 w4 o5 w5->w5.cell? ⟨C,1,none⟩=some (.int .i64 q2):=fun o5 w5 h=>by rw[cell_of (h.2.rel.own C hC)];exact Zk
  have F3:∀o5 w5,o5=o3/\cB T i te o3 w4 o5 w5->w5.cell? ⟨D.Vb,q2*2,none⟩=some (.bool D.lj[q2].1)/\w5.cell? ⟨D.Vb,q2*2+1,none⟩=some (.string D.lj[q2].2):=fun o5 w5 h=>by have:=(Zo.later hD h.2.rel).lj q2 hq;simpa using this
  simp only[List.range,List.range.loop]
  iterate 5 refine sX ?_
  (refine cu rfl rfl (jL fun o5 w5 my=>⟨?_,fun e he=>?_⟩) ?_;(focus (have hF:=F1 o5 w5 my;simp[go_sem,hF];done));(focus (have hF:=F1 o5 w5 my;simp[go_sem,hF] at he;subst he;exact eT hD.Cx));try walk_nrm)
  refine sX ?_
  (refine cu rfl rfl (jL fun o5 w5 my=>⟨?_,fun e he=>?_⟩) ?_;(focus (have hF:=F2 o5 w5 my;simp[go_sem,hF];done));(focus (have hF:=F2 o5 w5 my;simp[go_sem,hF] at he;subst he;exact nD (my.1▸hC)));try walk_nrm)
  refine sX ?_
  (refine cu rfl rfl (jL fun o5 w5 my=>⟨?_,fun e he=>?_⟩) ?_;(focus (have hF:=F3 o5 w5 my;simp[go_sem,hF.1,hF.2];done));(focus (have hF:=F3 o5 w5 my;simp[go_sem,hF.1,hF.2] at he;rcases he with rfl|rfl<;>exact eT hD.Zm));try walk_nrm)
  refine sX ?_;refine nB ?_;rintro o5 w5 ⟨rfl,l5⟩;have wQ:=LY.of_block (l5.rel.own A rZ);refine s9 hW.ok hW.i l5.ok rfl ai A (j*2) rZ wQ (by rw[nE _ _ aa];omega) (.bool (dA D res (ord i))[j].1) (.string (dA D res (ord i))[j].2) rfl rfl (fun w1 c0 c1 f=>?_) (fun w1 c0 c1 f=>⟨.plain,.plain,?_⟩) fun w6 l6 NJ=>?_
  ·rw[Tc];simp[go_sem,c0,c1,f]
  ·rw[Tc];simp[go_sem,c0,c1,f]
  have HM:=Bz SE (by rw[nE _ _ aa]) NJ;have L1:cB T i rc o w o5 w6:=((LZ.trans ⟨cF.nX wP l5.rel,l5.ok,l5.more⟩).vn.trans ⟨cF.nX wP l6.rel,l6.ok,l6.more⟩).later QD;have hd6:kG D w6:=(Zo.later hD l5.rel).later hD l6.rel;clear l5 l6 NJ wQ F1 F2 F3;try walk_nrm
  refine aA ?_;refine ff ?_;refine aA ?_;have CP:IntKind.i64.wrap ((j:Int)+1)=((j+1:Nat):Int):=by rw[IntKind.wrap_i64]<;>omega
  exact⟨n-1,aa,j+1,aa,rfl,rfl,rfl,rfl,rfl,rfl,by simp[Act.eval,CP],HM,rZ,hd6,wP,L1⟩
 |true =>
  refine Hc rfl (fun _=>?_) (fun h=>by cases h);obtain⟨k,hk,rfl,Xl⟩:=wB rfl;have hqn:=hD.pI k hk;have hqI:(ord k:Int)<(D.n:Int):=aa;have Tc:(dA D res (ord i))[j]=res (ord k):=by rw[hv];simp[HL]
  refine kj ?_;refine Ns mixed (n:=8) af [.pointer (some ⟨D.bn,0,none⟩),.pointer (some ⟨D.bn,0,none⟩),.pointer (some ⟨D.bn,4,none⟩),.slice (some ⟨D.Mb,0,none⟩) D.n D.n,.pointer (some ⟨C,1,none⟩),.int .i64 (ord k),.pointer (some ⟨D.Mb,ord k,none⟩),.chan (some (D.ch (ord k)))]
   (S:=fun w5=>cB T i te o3 w4 o3 w5) (fun w5 w6 h hr=>mK h hr) (.refl LZ.ok) ?_
  have F1:∀w5,cB T i te o3 w4 o3 w5->w5.cell? ⟨D.bn,4,none⟩=some (.slice (some ⟨D.Mb,0,none⟩) D.n D.n):=fun w5 h=>(Zo.later hD h.rel).b4;have F2:∀w5,cB T i te o3 w4 o3 w5->w5.cell? ⟨C,1,none⟩=some (.int .i64 (ord k)):=fun w5 h=>by rw[cell_of (h.rel.own C hC)];exact Zk
  have F3:∀w5,cB T i te o3 w4 o3 w5->w5.cell? ⟨D.Mb,ord k,none⟩=some (.chan (some (D.ch (ord k)))):=fun w5 h=>(Zo.later hD h.rel).made _ hqn;simp only[List.range,List.range.loop]
  iterate 3 refine Qs ?_
  (refine cu rfl rfl (fun w5 my=>⟨?_,fun e he=>?_⟩) ?_;(focus (have hF:=F1 w5 my;simp[go_sem,hF];done));(focus (have hF:=F1 w5 my;simp[go_sem,hF] at he;subst he;exact eT hD.Cx));try walk_nrm)
  refine Qs ?_
  (refine cu rfl rfl (fun w5 my=>⟨?_,fun e he=>?_⟩) ?_;(focus (have hF:=F2 w5 my;simp[go_sem,hF];done));(focus (have hF:=F2 w5 my;simp[go_sem,hF] at he;subst he;exact nD hC));try walk_nrm)
  refine Qs ?_
  (refine cu rfl rfl (fun w5 my=>⟨?_,fun e he=>?_⟩) ?_;(focus (have hF:=F3 w5 my;simp[go_sem,hF];done));(focus (have hF:=F3 w5 my;simp[go_sem,hF] at he;subst he;exact eT hD.qMb));try walk_nrm)
  refine nB fun w5 l5=>?_;refine Nq (k:=k) (z:=.agg #[]) (f:=false) rfl ai Xl (fun w1=>?_) (fun w1=>fa) rfl fun w6 NJ hVk=>?_
  ·rw[hD.ch k hk];simp[go_sem,rcase]
  have l6:cB T i te o3 w4 o3 w6:=mK l5 NJ;clear l5 NJ w5 F1 F2 F3;obtain⟨hV1,hV2⟩:=hV k w6 hk hVk;have QG:∀b,rc b->te b\/b=k:=fun b hb=>.inl (wP b hb);have W3:=W (fun b=>te b\/b=k);have hd6:kG D w6:=Zo.later hD l6.rel;have HM:=LY.of_block (l6.rel.own A rZ);have L1:cB T i rc o w o3 w6:=LZ.trans ⟨cF.nX wP l6.rel,l6.ok,l6.more⟩;have hC6:w6.cell? ⟨C,1,none⟩=some (.int .i64 (ord k)):=by rw[cell_of (l6.rel.own C hC)];exact Zk
  refine wz ?_;refine aA ?_;refine ff (tL mixed (n:=12) af [.slice (some ⟨A,0,none⟩) len len,.int .i64 j,.pointer (some ⟨D.bn,0,none⟩),.pointer (some ⟨D.bn,0,none⟩),.pointer (some ⟨D.bn,2,none⟩),.slice (some ⟨D.Rb,0,none⟩) D.n D.n,.pointer (some ⟨C,1,none⟩),.int .i64 (ord k),.pointer (some ⟨D.Rb,ord k*4,none⟩),.pointer (some ⟨D.Rb,ord k*4+2,none⟩),.agg #[.bool (res (ord k)).1,.string (res (ord k)).2],.pointer (some ⟨A,j*2,none⟩)]
   (S:=fun o5 w5=>o5=o3/\cB T i (fun b=>te b\/b=k) o3 w6 o5 w5) (fun o5 w5 w6 h hr=>⟨h.1,mK h.2 hr⟩) ⟨rfl,.refl L1.ok⟩ ?_)
  have eH:∀m,m<4->T.js k (.cell ⟨D.Rb,ord k*4+m,none⟩):=fun m hm=>(hD.own k _).2 ⟨hk,.inl ⟨m,hm,rfl⟩⟩;have F1:∀o5 w5,o5=o3/\cB T i (fun b=>te b\/b=k) o3 w6 o5 w5->w5.cell? ⟨D.bn,2,none⟩=some (.slice (some ⟨D.Rb,0,none⟩) D.n D.n):=fun o5 w5 h=>(hd6.later hD h.2.rel).b2;have F2:∀o5 w5,o5=o3/\cB T i (fun b=>te b\/b=k) o3 w6 o5 w5->w5.cell? ⟨C,1,none⟩=some (.int .i64 (ord k)):=fun o5 w5 h=>by rw[cell_of (h.2.rel.own C hC)];exact hC6
  have F3:∀o5 w5,o5=o3/\cB T i (fun b=>te b\/b=k) o3 w6 o5 w5->w5.cell? ⟨D.Rb,ord k*4+2,none⟩=some (.bool (res (ord k)).1)/\w5.cell? ⟨D.Rb,ord k*4+2+1,none⟩=some (.string (res (ord k)).2):=fun o5 w5 h =>
   ⟨by rw[h.2.rel.mine _ (.inr ⟨k,.inr rfl,eH 2 aa⟩)];exact hV1,by rw[h.2.rel.mine ⟨D.Rb,ord k*4+3,none⟩ (.inr ⟨k,.inr rfl,eH 3 aa⟩)];exact hV2⟩
  simp only[List.range,List.range.loop]
  iterate 5 refine sX ?_
  (refine cu rfl rfl (jL fun o5 w5 my=>⟨?_,fun e he=>?_⟩) ?_;(focus (have hF:=F1 o5 w5 my;simp[go_sem,hF];done));(focus (have hF:=F1 o5 w5 my;simp[go_sem,hF] at he;subst he;exact eT hD.Cx));try walk_nrm)
  refine sX ?_
  (refine cu rfl rfl (jL fun o5 w5 my=>⟨?_,fun e he=>?_⟩) ?_;(focus (have hF:=F2 o5 w5 my;simp[go_sem,hF];done));(focus (have hF:=F2 o5 w5 my;simp[go_sem,hF] at he;subst he;exact nD (my.1▸hC)));try walk_nrm)
  refine sX ?_;refine sX ?_
  (refine cu rfl rfl (jL fun o5 w5 my=>⟨?_,fun e he=>?_⟩) ?_;(focus (have hF:=F3 o5 w5 my;simp[go_sem,hF.1,hF.2];done));(focus (have hF:=F3 o5 w5 my;simp[go_sem,hF.1,hF.2] at he;rcases he with rfl|rfl<;>(first|exact sZ (.inr (.inr (.inl ⟨k,.inr rfl,eH 2 aa⟩)))|exact sZ (.inr (.inr (.inl ⟨k,.inr rfl,eH 3 aa⟩))))));try walk_nrm)
  refine sX ?_;refine nB ?_;rintro o5 w5 ⟨rfl,l5⟩;have wQ:=HM.of_block (l5.rel.own A rZ);refine s9 hW.ok hW.i l5.ok rfl ai A (j*2) rZ wQ (by rw[nE _ _ aa];omega) (.bool (dA D res (ord i))[j].1) (.string (dA D res (ord i))[j].2) rfl rfl (fun w1 c0 c1 f=>?_) (fun w1 c0 c1 f=>⟨.plain,.plain,?_⟩) fun w7 l7 hr7=>?_
  ·rw[Tc];simp[go_sem,c0,c1,f]
  ·rw[Tc];simp[go_sem,c0,c1,f]
  have QH:=Bz SE (by rw[nE _ _ aa]) hr7;have aaW:cB T i rc o w o5 w7:=((L1.trans ⟨cF.nX QG l5.rel,l5.ok,l5.more⟩).vn.trans ⟨cF.nX QG l7.rel,l7.ok,l7.more⟩).later QD;have hd7:kG D w7:=(hd6.later hD l5.rel).later hD l7.rel;clear l5 l7 hr7 wQ F1 F2 F3;try walk_nrm
  refine aA ?_;refine ff ?_;refine aA ?_;have CP:IntKind.i64.wrap ((j:Int)+1)=((j+1:Nat):Int):=by rw[IntKind.wrap_i64]<;>omega
  exact⟨n-1,aa,j+1,aa,rfl,rfl,rfl,rfl,rfl,rfl,by simp[Act.eval,CP],QH,rZ,hd7,QG,aaW⟩
end
end Go.Proofs.Kz
namespace Go.Ren
open Go.Conc Go.ConcN
section
variable {P:Program} {main:Bool} {b:Frame} {a:Act} {k:List Item} {cs:List Frame} {w:ae}
theorem wR{ops:Array Oper}{i:Nat}{rest:List Nat}{o:Oper}{d:Deferred}(ho:ops[i]?=some o)(hw:Region.wanted o (yielded ops a.tmps)=true)(hk:b.kind≠.early)(hr:(execOp a.eval o).run P w=.ok (.defer d) w)(he:(execOp a.eval o).events P w #[]=#[]):
  stepG P main (G (b.at a (.inRegion ops (i::rest)::k)) cs) w=.go (G (b.at (Act.put ⟨a.tmps,d::a.defers⟩ o.dst undef) (.inRegion ops rest::k)) cs) w #[]:=by
 have AP:(b.at ⟨a.tmps,d::a.defers⟩ (.inRegion ops (i::rest)::k)).finish undef=b.at (Act.put ⟨a.tmps,d::a.defers⟩ o.dst undef) (.inRegion ops rest::k):=by rw[dF,ho];rfl
 have kY:(b.kind==CallKind.early)=false:=by simpa using hk
 rw[stepG_oper ho hw,<- AP];simp[stepG.apply,hr,he,G,Frame.at,kY,GStep.after,seen_none]
end
section
variable {P:Program} {m:Bool} {R:aM->ae->ae->Prop} {Gu:aM->ae->ae->Array Event->Prop} {X:aM->aS->ae->Prop} {fn:FuncId} {Q:Exit->Act->aM->ae->Prop} {a:Act} {o:aM} {w:ae}
theorem kH(W:fg P m R Gu X){ops:Array Oper}{i:Nat}{rest:List Nat}{op:Oper}{d:Deferred}(ho:ops[i]?=some op)(hw:Region.wanted op (yielded ops a.tmps)=true)(hr:∀w1,(execOp a.eval op).run P w1=.ok (.defer d) w1)(he:∀w1,(execOp a.eval op).events P w1 #[]=#[]){dd:Option Tmp}(hd:op.dst=dd)(h:fu X fn ops rest Q (Act.put ⟨a.tmps,d::a.defers⟩ dd undef) o w):fu X fn ops (i::rest) Q a o w:=by
 subst hd;exact fun b k cs hb hk hc=>W.go rfl (fun w1=>wR ho hw hk (hr w1) (he w1)) (h b k cs hb hk hc)
end
section
variable {P:Program} {T:cP} {i:Nat} {V:Nat->ae->Prop} {E:bH} {rc o:Nat->Prop} {w w':ae}
structure lG(T:cP)(i B:Nat)(w w':ae):Prop where
 size:w'.heap.size=w.heap.size
 heap:∀b,b≠B->w'.heap[b]?=w.heap[b]?
 shape:∀cs ty fz,w.heap[B]?=some (.cells cs ty fz)->∃rW,w'.heap[B]?=some (.cells rW ty fz)/\rW.size=cs.size
 cells:∀a:Addr,a.block=B->¬T.js i (.cell a)->w'.cell? a=w.cell? a
 os:w'.os=w.os
 output:w'.output=w.output
theorem lG.set(w:ae){B off:Nat}(v:Value)(h:T.js i (.cell ⟨B,off,none⟩)):lG T i B w (w.setCell ⟨B,off,none⟩ v):=by
 refine⟨by simp[World.setCell],fun b hb=>RowKit.Below.heap_setCell w _ _ b hb,fun cs ty fz hx=>?_,fun a ha hn=>World.cell?_setCell_other _ _ _ _ fun e=>hn (e▸h),rfl,rfl⟩;refine⟨cs.setIfInBounds off v,?_,an⟩;simp[World.setCell,er,hx]
theorem lG.trans{B:Nat}{w1 w2:ae}(h:lG T i B w w1)(k:lG T i B w1 w2):lG T i B w w2:=by
 refine⟨k.size.trans h.size,fun b hb=>(k.heap b hb).trans (h.heap b hb),fun cs ty fz hx=>?_,fun a ha hn=>(k.cells a ha hn).trans (h.cells a ha hn),k.os.trans h.os,k.output.trans h.output⟩;obtain⟨c1,e1,e2⟩:=h.shape cs ty fz hx;obtain⟨c2,e3,e4⟩:=k.shape c1 ty fz e1;exact⟨c2,e3,e4.trans e2⟩
theorem lG.Zi{B:Nat}(h:lG T i B w w')(hB:T.Sh B):JP T i o w w':=by
 refine⟨bq h.size.symm,fun b _ _ hb=>h.heap b fun e=>hb (e▸hB),fun b cs ty fz hb hx=>?_,fun a ha hn=>?_,h.os,h.output⟩
 ·by_cases e:b=B
  ·subst e;exact h.shape cs ty fz hx
  ·exact⟨cs,by rw[h.heap b e];exact hx,rfl⟩
 ·by_cases e:a.block=B
  ·exact h.cells a e hn
  ·exact cell_of (h.heap _ e)
theorem tf{ad:Addr}{wt sy:Bool}(h:T.js i (.cell ad)):LF T i o rc ⟨.cell ad,wt,sy⟩:=by
 refine⟨fun x hx _=>.inr (.inl ?_),an,an,an⟩;simp only[MemAct.ofEvent,MemAct.touch?,en] at hx;subst hx;exact h
theorem yY{fn:FuncId}{Q:Exit->Act->aM->ae->Prop}{a:Act}{ops:Array Oper}{j:Nat}{rest:List Nat}{op:Oper}(ho:ops[j]?=some op)(hw:Region.wanted op (yielded ops a.tmps)=true)(B:Nat)(hB:T.Sh B){f:ae->ae}(cm:∀w1,cF T i o rc w w1->(execOp a.eval op).run P w1=.ok .skip (f w1))(hf:∀w1,lG T i B w1 (f w1))(iH:∀w1,cF T i o rc w w1->∀e∈(execOp a.eval op).events P w1 #[],∃ad wt sy,e=⟨.cell ad,wt,sy⟩/\T.js i (.cell ad)){d:Option Tmp}(hd:op.dst=d)(h:∀w1,cF T i o rc w w1->lG T i B w1 (f w1)->fu (XW P T i V E rc) fn ops rest Q (a.put d undef) o (f w1)):fu (XW P T i V E rc) fn ops (j::rest) Q a o w:=by
 subst hd;refine kO (cv rc) ho hw fun w1 kR K hK=>?_;rw[cm w1 kR];simp only[uponK_skip];refine hK _ _ ⟨⟨(hf w1).Zi hB,fun e he=>?_⟩,?_⟩
 ·obtain⟨ad,wt,sy,rfl,e2⟩:=iH w1 kR e (mem_listed he);exact tf e2
 ·rw[jU o (hf w1).size];exact h w1 kR (hf w1)
theorem gj.close{b:Frame}{a:Act}{cs:List Frame}{todo:List Item}{ds:List Deferred}{rR:Array TypeId}{ty:TypeId}{cns:Array Bool}(hd:a.defers={target:=.builtin .close rR ty cns,args:=#[.chan (some (T.ch i))]}::ds)(hq:(P.funcs[b.fn]?).any (·.norace)=false)(h:∀w1,cF T i o rc w w1->∀s r tm,w1.heap[T.ch i]?=some (.chan 0 #[] false s r tm)->V i w1/\E o (G {b.at ⟨a.tmps,ds⟩ todo with mode:=.returning} cs) (w1.setChan (T.ch i) 0 #[] true s r tm)):
  XW P T i V E rc o (G {b.at a todo with mode:=.returning} cs) w :=
 gj.intro ⟨rfl,.inr (.inr ⟨rfl,fun w1 hr s r tm hc=>⟨_,vp hd hc hq,rfl,(h w1 hr s r tm hc).1,(h w1 hr s r tm hc).2⟩⟩)⟩
end
section
variable {P:Program} {T:cP} {i:Nat} {V:Nat->ae->Prop} {E:bH} {fn:FuncId} {Q:wv} {a:Act} {rc:Nat->Prop} {o:aM} {w:ae}
theorem NP{ops:Array Oper}{todo:List Nat}{w1:ae}(h:uk P T i V E fn ops todo Q a rc o w)(hr:cF T i o rc w w1):uk P T i V E fn ops todo Q a rc o w1:=fun b k cs hb hk hc=>gj.rely (h b k cs hb hk hc) hr
theorem NQ{ops:Array Oper}{j:Nat}{rest:List Nat}{op:Oper}(ho:ops[j]?=some op)(hw:Region.wanted op (yielded ops a.tmps)=true)(h:∀w1,cF T i o rc w w1->∀K:Act->ae->Prop,(∀a' w',G1 T i rc o w1 w' (listed P fn a op w1)/\uk P T i V E fn ops rest Q a' rc (grow o w1 w') w'->K a' w')->uponK op a K ((execOp a.eval op).run P w1)):uk P T i V E fn ops (j::rest) Q a rc o w:=by
 intro b k cs hb hk hc;refine(cv rc).step o _ w rfl fun w1 h1=>?_;have:=h w1 h1 _ fun _ _ x=>x;revert this;cases hr:(execOp a.eval op).run P w1 with
 |ok x w' =>
  cases x with
  |value v=>intro q;simp only[uponK_value] at q;exact⟨_,_,_,dN ho hw hk hr,hb▸q.1,q.2 b k cs hb hk hc⟩
  |skip=>intro q;simp only[uponK_skip] at q;exact⟨_,_,_,jk ho hw hk hr,hb▸q.1,q.2 b k cs hb hk hc⟩
  |_=>intro q;exact q.elim
 |halt _ _=>intro q;exact q.elim
theorem oC{S:ae->Prop}(hS:∀w1,cF T i o rc w w1->S w1){ops:Array Oper}{j:Nat}{rest:List Nat}{op:Oper}(ho:ops[j]?=some op)(hw:Region.wanted op (yielded ops a.tmps)=true)(hg:∀w1,S w1->G1 T i rc o w1 w1 (listed P fn a op w1))(h:∀w1,S w1->∀K:Act->ae->Prop,(∀a',uk P T i V E fn ops rest Q a' rc o w->K a' w1)->uponK op a K ((execOp a.eval op).run P w1)):uk P T i V E fn ops (j::rest) Q a rc o w :=
 NQ ho hw fun w1 h1 K hK=>h w1 (hS w1 h1) K fun a' q=>hK a' w1 ⟨hg w1 (hS w1 h1),by rw[bS];exact NP q h1⟩
theorem tg{ops:Array Oper}{j:Nat}{rest:List Nat}{op:Oper}(ho:ops[j]?=some op)(_hn:EU op.op=true)(hw:Region.wanted op (yielded ops a.tmps)=true)(hg:∀w1,(execOp a.eval op).events P w1 #[]=#[])(h:∀w1,∀K:Act->ae->Prop,(∀a',uk P T i V E fn ops rest Q a' rc o w->K a' w1)->uponK op a K ((execOp a.eval op).run P w1)):uk P T i V E fn ops (j::rest) Q a rc o w :=
 oC (S:=fun _=>True) (fun _ _=>trivial) ho hw (fun w1 _=>by rw[listed_nil (hg w1)];exact(cv (P:=P) (V:=V) (E:=E) rc).idle _ _) (fun w1 _=>h w1)
end
end Go.Ren
namespace Go.Proofs.Kz
open Go.Proofs.Tryz
open Go.Proofs.Tryz renaming prog → ar
open _root_.ByteArray renaming empty → aN
open Go.Ren Go.Conc Go.Proofs
def uq(w:ae)(B:Nat):Prop:=∃c t,w.heap[B]?=some (.cells c t (0,0))
theorem uq.frozen{w:ae}{B:Nat}(h:uq w B)(off:Nat):w.frozen? ⟨B,off,none⟩=false:=by
 obtain⟨c,t,h⟩:=h;simp[World.frozen?,h]
theorem uq.later{w w1:ae}{B:Nat}{T:cP}{i:Nat}{o rc:Nat->Prop}(h:uq w B)(hB:T.Sh B)(hr:cF T i o rc w w1):uq w1 B:=by
 obtain⟨c,t,h⟩:=h;obtain⟨c1,h1,_⟩:=hr.sh B c t _ hB h;exact⟨c1,t,h1⟩
theorem HN(w:ae)(a:Addr)(v u:Value)(h:w.cell? a=some u):(w.setCell a v).cell? a=some v:=World.cell?_setCell_same _ _ _ h
theorem aaX{P:Program}{w:ae}{B off:Nat}{x0 x1 x2 x3:Value}(v0 v1 v2 v3:Value)(h0:w.cell? ⟨B,off,none⟩=some x0)(h1:w.cell? ⟨B,off+1,none⟩=some x1)(h2:w.cell? ⟨B,off+2,none⟩=some x2)(h3:w.cell? ⟨B,off+3,none⟩=some x3)(hf:∀k,w.frozen? ⟨B,k,none⟩=false)(o0:v0.oneCell'=true)(o1:v1.oneCell'=true)(o2:v2.oneCell'=true)(o3:v3.oneCell'=true):
  ((((w.setCell ⟨B,off,none⟩ v0).setCell ⟨B,off+1,none⟩ v1).setCell ⟨B,off+2,none⟩ v2).setCell ⟨B,off+3,none⟩ v3).cell? ⟨B,off,none⟩=some v0 /\
  ((((w.setCell ⟨B,off,none⟩ v0).setCell ⟨B,off+1,none⟩ v1).setCell ⟨B,off+2,none⟩ v2).setCell ⟨B,off+3,none⟩ v3).cell? ⟨B,off+1,none⟩=some v1 /\
  ((((w.setCell ⟨B,off,none⟩ v0).setCell ⟨B,off+1,none⟩ v1).setCell ⟨B,off+2,none⟩ v2).setCell ⟨B,off+3,none⟩ v3).cell? ⟨B,off+2,none⟩=some v2 /\
  ((((w.setCell ⟨B,off,none⟩ v0).setCell ⟨B,off+1,none⟩ v1).setCell ⟨B,off+2,none⟩ v2).setCell ⟨B,off+3,none⟩ v3).cell? ⟨B,off+3,none⟩=some v3 /\
  (∀m (e:Event),e∈(store ⟨B,off+3,none⟩ v3 m).events P (((w.setCell ⟨B,off,none⟩ v0).setCell ⟨B,off+1,none⟩ v1).setCell ⟨B,off+2,none⟩ v2) ((store ⟨B,off+2,none⟩ v2 m).events P ((w.setCell ⟨B,off,none⟩ v0).setCell ⟨B,off+1,none⟩ v1) ((store ⟨B,off+1,none⟩ v1 m).events P (w.setCell ⟨B,off,none⟩ v0) ((store ⟨B,off,none⟩ v0 m).events P w #[])))->∃j wt sy,j<4/\e=⟨.cell ⟨B,off+j,none⟩,wt,sy⟩):=by
 have key:∀(w:ae) (a:Addr) (v u:Value),w.cell? a=some u->(w.setCell a v).cell? a=some v:=HN;have JW:∀(w:ae) (i j:Nat) (v:Value),i≠j->(w.setCell ⟨B,i,none⟩ v).cell? ⟨B,j,none⟩=w.cell? ⟨B,j,none⟩:=fun w i j v h=>World.cell?_setCell_other _ _ _ _ (by simp[h]);have fr:∀(w:ae) (i:Nat) (v:Value),(∀k,w.frozen? ⟨B,k,none⟩=false)->∀k,(w.setCell ⟨B,i,none⟩ v).frozen? ⟨B,k,none⟩=false:=fun w i v h k=>by simpa using h k
 have a1:(w.setCell ⟨B,off,none⟩ v0).cell? ⟨B,off+1,none⟩=some x1:=by rw[JW _ _ _ _ aa];exact h1
 have a2:((w.setCell ⟨B,off,none⟩ v0).setCell ⟨B,off+1,none⟩ v1).cell? ⟨B,off+2,none⟩=some x2:=by rw[JW _ _ _ _ aa,JW _ _ _ _ aa];exact h2
 have a3:(((w.setCell ⟨B,off,none⟩ v0).setCell ⟨B,off+1,none⟩ v1).setCell ⟨B,off+2,none⟩ v2).cell? ⟨B,off+3,none⟩=some x3:=by rw[JW _ _ _ _ aa,JW _ _ _ _ aa,JW _ _ _ _ aa];exact h3
 refine⟨?_,?_,?_,key _ _ _ _ a3,fun m e he=>?_⟩
 ·rw[JW _ _ _ _ aa,JW _ _ _ _ aa,JW _ _ _ _ aa];exact key _ _ _ _ h0
 ·rw[JW _ _ _ _ aa,JW _ _ _ _ aa];exact key _ _ _ _ a1
 ·rw[JW _ _ _ _ aa];exact key _ _ _ _ a2
 ·rw[cD _ _ h0 (hf _) o0,cD _ _ a1 (fr _ _ _ hf _) o1,cD _ _ a2 (fr _ _ _ (fr _ _ _ hf) _) o2,cD _ _ a3 (fr _ _ _ (fr _ _ _ (fr _ _ _ hf)) _) o3] at he;simp at he;rcases he with rfl|rfl|rfl|rfl
  ·exact⟨0,_,_,aa,rfl⟩
  ·exact⟨1,_,_,aa,rfl⟩
  ·exact⟨2,_,_,aa,rfl⟩
  ·exact⟨3,_,_,aa,rfl⟩
structure uQ(D:mf)(s:Nat)(w:ae)(B:Nat)(vs:List V)(m:V):Prop where
 c0:w.cell? ⟨D.Rb,s*4,none⟩=some (.bool true)
 c1:w.cell? ⟨D.Rb,s*4+1,none⟩=some (.slice (some ⟨B,0,none⟩) vs.length vs.length)
 c2:w.cell? ⟨D.Rb,s*4+2,none⟩=some (.bool m.1)
 c3:w.cell? ⟨D.Rb,s*4+3,none⟩=some (.string m.2)
structure L2(D:mf)(s:Nat)(w:ae):Prop where
 c0:w.cell? ⟨D.Rb,s*4,none⟩=some (.bool false)
 c1:w.cell? ⟨D.Rb,s*4+1,none⟩=some (.slice none 0 0)
 c2:w.cell? ⟨D.Rb,s*4+2,none⟩=some (.bool false)
 c3:w.cell? ⟨D.Rb,s*4+3,none⟩=some (.string aN)
def E5(D:mf)(T:cP)(s:Nat)(old:Option (Nat×List V))(w:ae):Prop :=
 match old with
 |none=>L2 D s w
 |some (B,vs)=>uQ D s w B vs (jC (D.jm s) vs)/\vt w B 0 vs/\Quiet T B/\vs.length<=100000
def mL(D:mf)(s:Nat)(old:Option (Nat×List V))(ins:List V)(m:V)(o:Nat->Prop)(w:ae):Prop :=
 (∃B,old=some (B,ins)/\uQ D s w B ins m/\w.cell? ⟨D.Nb,s,none⟩=some (.bool false)) \/
 ((∀B,old≠some (B,ins))/\∃A,o A/\eM w A ins/\uQ D s w A ins m/\w.cell? ⟨D.Nb,s,none⟩=some (.bool true))
theorem mL.made{D:mf}{s:Nat}{old:Option (Nat×List V)}{ins:List V}{m:V}{o:Nat->Prop}{w:ae}(h:mL D s old ins m o w):w.cell? ⟨D.Rb,s*4+2,none⟩=some (.bool m.1)/\w.cell? ⟨D.Rb,s*4+3,none⟩=some (.string m.2):=by
 rcases h with⟨B,_,h,_⟩|⟨_,A,_,_,h,_⟩<;>exact⟨h.c2,h.c3⟩
theorem mL.of{D:mf}{s:Nat}{old:Option (Nat×List V)}{ins:List V}{m:V}{o o':Nat->Prop}{w w':ae}(h:mL D s old ins m o w)(hR:∀j,j<4->w'.cell? ⟨D.Rb,s*4+j,none⟩=w.cell? ⟨D.Rb,s*4+j,none⟩)(hN:w'.cell? ⟨D.Nb,s,none⟩=w.cell? ⟨D.Nb,s,none⟩)(ho:∀b,o b->o' b/\w'.heap[b]?=w.heap[b]?):mL D s old ins m o' w':=by
 have hr:∀{B},uQ D s w B ins m->uQ D s w' B ins m:=fun h=>⟨(hR 0 aa).trans h.c0,(hR 1 aa).trans h.c1,(hR 2 aa).trans h.c2,(hR 3 aa).trans h.c3⟩;rcases h with⟨B,h1,h2,h3⟩|⟨h1,A,h2,h3,h4,h5⟩
 ·exact .inl ⟨B,h1,hr h2,hN.trans h3⟩
 ·exact .inr ⟨h1,A,(ho A h2).1,h3.of_block (ho A h2).2,hr h4,hN.trans h5⟩
theorem E5.some{D:mf}{T:cP}{s:Nat}{old:Option (Nat×List V)}{w:ae}(h:E5 D T s old w):∃x0 x1 x2 x3,w.cell? ⟨D.Rb,s*4,none⟩=some x0/\w.cell? ⟨D.Rb,s*4+1,none⟩=some x1/\w.cell? ⟨D.Rb,s*4+2,none⟩=some x2/\w.cell? ⟨D.Rb,s*4+3,none⟩=some x3:=by
 cases old with
 |none=>exact⟨_,_,_,_,h.c0,h.c1,h.c2,h.c3⟩
 |some x=>exact⟨_,_,_,_,h.1.c0,h.1.c1,h.1.c2,h.1.c3⟩
section
variable {T:cP} {i:Nat} {V:Nat->ae->Prop} {E:bH} {rc:Nat->Prop} {o:aM} {w:ae}
theorem XM(hW:qt T i)(hq:Quiet T 1)(r:Int)(hr:1<=r/\r<=5)(b:Nat)(vs:List Kz.V)(hn:vs.length<=100000)(hm:iM (vs.map (·.2))<=1000000)(fD:fT T o w)(hb:o b)(ht:eM w b vs)(hp:jB w):
  bp ar (XW ar T i V E rc) 163 #[.int .i64 r,.slice (some ⟨b,0,none⟩) vs.length vs.length] o w fun v o' w'=>v=.agg #[.bool (jC r vs).1,.string (jC r vs).2]/\cB T i rc o w o' w':=by
 by_cases h5:r=5
 ·subst h5;exact Kq hW hq b vs hn fD hb ht hp
 ·by_cases hc:cnt vs<vs.length
  ·exact Kr hW hq r aa b vs hn hm hc fD hb ht hp
  ·exact QE hW hq r aa b vs hn hm hc fD hb ht hp
end
section
variable {T:cP} {i:Nat} {V:Nat->ae->Prop} {E:bH} {rc:Nat->Prop} {o:aM} {w:ae} {D:mf} {ord:Nat->Nat}
theorem XN(hW:qt T i)(XD:Quiet T 1)(hD:yd D T ord)(res:Nat->Kz.V)(hV:∀k w,k<T.n->V k w->w.cell? ⟨D.Rb,ord k*4+2,none⟩=some (.bool (res (ord k)).1)/\w.cell? ⟨D.Rb,ord k*4+3,none⟩=some (.string (res (ord k)).2))(fD:fT T o w)(hd:kG D w)(hp:jB w)(xQ:res (ord i)=jC (D.jm (ord i)) (dA D res (ord i)))(QI:1<=D.jm (ord i)/\D.jm (ord i)<=5)(pP:iM ((dA D res (ord i)).map (·.2))<=1000000)(old:Option (Nat×List Kz.V))(hold:E5 D T (ord i) old w)(TX:w.cell? ⟨D.Nb,ord i,none⟩=some (.bool false))(QJ:uq w D.Rb)(XO:uq w D.Nb)(c:Frame)(cs:List Frame)(QK:∀mX o' w' (tm:Array Value) (todo:List Item),(∀b,o b->o' b)->(∀b,o' b->T.H0<=b)->(∀b,o b->w'.heap[b]?=w.heap[b]?)->(Go.ConcN.WgLive T.ty T.Wg w->Go.ConcN.WgLive T.ty T.Wg w')->mL D (ord i) old (dA D res (ord i)) (res (ord i)) (fun b=>o' b/\¬o b) w'->∀w1,cF T i o' mX w' w1->∀s r t,w1.heap[T.ch i]?=some (.chan 0 #[] false s r t) ->
   V i w1/\E o' (G {(base 116).at ⟨tm,[]⟩ todo with mode:=.returning} (c::cs)) (w1.setChan (T.ch i) 0 #[] true s r t)):
  XW ar T i V E rc o (G (Frame.enter ar 116 #[.pointer (some ⟨D.bn,0,none⟩),.int .i64 (ord i)] .normal) (c::cs)) w:=by
 have W:∀rc,fg ar false (fun o=>cF T i o rc) (G1 T i rc) (fun o g w=>gj ar T i V E ⟨g,o,rc,w⟩):=fun rc=>cv rc;have W1:=W rc;have hs:=hD.pI i hW.i;have hsI:(ord i:Int)<(D.n:Int):=aa;have XL:=hD.short _ hs;have uh:=hD.ch i hW.i;have eH:∀j,j<4->T.js i (.cell ⟨D.Rb,ord i*4+j,none⟩):=fun j hj=>(hD.own i _).2 ⟨hW.i,.inl ⟨j,hj,rfl⟩⟩;have BB:T.js i (.cell ⟨D.Nb,ord i,none⟩):=(hD.own i _).2 ⟨hW.i,.inr rfl⟩;rw[ij func116 rfl];refine kj (P:=ar) (fn:=116) (T:=T) (i:=i) (V:=V) (E:=E) (Q:=fun e a' mX o' w'=>(e=.normal\/e=.ret)/\a'.defers=[{target:=.builtin .close #[207] 0 #[false],args:=#[.chan (some (D.ch (ord i)))]}]/\(∀b,o b->o' b)/\(∀b,o' b->T.H0<=b)/\(∀b,o b->w'.heap[b]?=w.heap[b]?)/\(Go.ConcN.WgLive T.ty T.Wg w->Go.ConcN.WgLive T.ty T.Wg w')/\mL D (ord i) old (dA D res (ord i)) (res (ord i)) (fun b=>o' b/\¬o b) w') ?_ (base 116) [] (c::cs) rfl (by simp[base]) ?_
 case refine_2 =>
  rintro e ⟨tm,df⟩ mX o' w' ⟨he,pF,h1,h5,h2,h4,h3⟩;simp only at pF;subst pF;have leave:∀todo,XW ar T i V E mX o' (G {(base 116).at ⟨tm,[{target:=.builtin .close #[207] 0 #[false],args:=#[.chan (some (D.ch (ord i)))]}]⟩ todo with mode:=.returning} (c::cs)) w':=fun todo =>
   gj.close (by rw[uh]) af fun w1 hr s r t hc=>QK mX o' w' tm todo h1 h5 h2 h4 h3 w1 hr s r t hc
  rcases he with rfl|rfl
  ·exact(W mX).go rfl (fun _=>dG) (leave [])
  ·exact leave
 refine ff ?_;refine aA ?_;have Je:∀w3,cF T i o rc w w3->w3.cell? ⟨D.bn,4,none⟩=some (.slice (some ⟨D.Mb,0,none⟩) D.n D.n):=fun w3 hr=>(hd.later hD hr).b4;have QL:∀w3,cF T i o rc w w3->w3.cell? ⟨D.Mb,ord i,none⟩=some (.chan (some (D.ch (ord i)))):=fun w3 hr=>(hd.later hD hr).made _ hs
 (refine fp W1 Je rfl ai (fun w9 hc=>⟨.refl _ _,fun e he=>?_⟩) fun w9 hc K hK=>?_;(focus (rw[bS];have he:=mem_listed he;simp[go_sem, *] at he;subst he;exact eT hD.Cx));go_simp;refine hK _ ?_;clear hK K;clear hc w9;try walk_nrm)
 refine aA ?_
 (refine fp W1 QL rfl ai (fun w9 hc=>⟨.refl _ _,fun e he=>?_⟩) fun w9 hc K hK=>?_;(focus (rw[bS];have he:=mem_listed he;simp[go_sem, *] at he;subst he;exact eT hD.qMb));go_simp;refine hK _ ?_;clear hK K;clear hc w9;try walk_nrm)
 refine kH W1 (d:={target:=.builtin .close #[207] 0 #[false],args:=#[.chan (some (D.ch (ord i)))]}) rfl ai (fun w1=>?_) (fun w1=>fa) rfl ?_
 ·simp[go_sem,uh]
 refine aA ?_;clear Je QL;refine kj (J3 ?_);refine dp ?_;have Je:∀w3,cF T i o rc w w3->w3.cell? ⟨D.bn,0,none⟩=some (.pointer (some ⟨D.Lb,D.Lo,none⟩)):=fun w3 hr=>(hd.later hD hr).b0;have QL:∀w3,cF T i o rc w w3->w3.cell? ⟨D.Lb,D.Lo,none⟩=some (.slice (some ⟨D.St,0,none⟩) D.n D.n):=fun w3 hr=>(hd.later hD hr).steps;have hS3:∀w3,cF T i o rc w w3->w3.cell? ⟨D.St,ord i*3+2,none⟩=some (.slice (some ⟨D.cw (ord i),0,none⟩) (D.ins (ord i)).length (D.ins (ord i)).length):=fun w3 hr=>(hd.later hD hr).zJ _ hs
 repeat (refine tg rfl rfl ?_ ?_ ?_;(focus (rfl));(focus (intro w1;first|(simp[go_sem];done)|(simp[go_sem, *];done)));intro w1 K hK;go_simp;refine hK _ ?_;clear hK K w1;try walk_nrm)
 (refine oC Je rfl ai (fun w9 hc=>⟨.refl _ _,fun e he=>?_⟩) fun w9 hc K hK=>?_;(focus (rw[bS];have he:=mem_listed he;simp[go_sem, *] at he;subst he;exact eT hD.Cx));go_simp;refine hK _ ?_;clear hK K;clear hc w9;try walk_nrm)
 repeat (refine tg rfl rfl ?_ ?_ ?_;(focus (rfl));(focus (intro w1;first|(simp[go_sem];done)|(simp[go_sem, *];done)));intro w1 K hK;go_simp;refine hK _ ?_;clear hK K w1;try walk_nrm)
 (refine oC QL rfl ai (fun w9 hc=>⟨.refl _ _,fun e he=>?_⟩) fun w9 hc K hK=>?_;(focus (rw[bS];have he:=mem_listed he;simp[go_sem, *] at he;subst he;exact eT hD.XJ));go_simp;refine hK _ ?_;clear hK K;clear hc w9;try walk_nrm)
 repeat (refine tg rfl rfl ?_ ?_ ?_;(focus (rfl));(focus (intro w1;first|(simp[go_sem];done)|(simp[go_sem, *];done)));intro w1 K hK;go_simp;refine hK _ ?_;clear hK K w1;try walk_nrm)
 (refine oC hS3 rfl ai (fun w9 hc=>⟨.refl _ _,fun e he=>?_⟩) fun w9 hc K hK=>?_;(focus (rw[bS];have he:=mem_listed he;simp[go_sem, *] at he;subst he;exact eT hD.XK));go_simp;refine hK _ ?_;clear hK K;clear hc w9;try walk_nrm)
 refine J4 rfl ai rfl func161 af rfl aC rfl ((NN hW hD res hV fD hd).mono ?_);clear Je QL hS3 W1;rintro v te o2 w2 ⟨A,rfl,hA,QD,b6,wP,l2⟩;have W2:=W te;walk_nrm;refine wz ?_;refine aA ?_;refine ff ?_;have SN:=hd.later hD l2.rel;have hlen:(dA D res (ord i)).length=(D.ins (ord i)).length:=by simp[dA]
 refine Ha W2 (fun a' o' w'=>a'.tmps.size=68/\a'.defers=[{target:=.builtin .close #[207] 0 #[false],args:=#[.chan (some (D.ch (ord i)))]}]/\a'.eval (.tmp 0)=.pointer (some ⟨D.bn,0,none⟩)/\a'.eval (.tmp 1)=.int .i64 (ord i)/\a'.eval (.tmp 4)=.slice (some ⟨A,0,none⟩) (D.ins (ord i)).length (D.ins (ord i)).length/\(∀B,old≠some (B,dA D res (ord i)))/\cB T i te o2 w2 o' w') ?_ ?_
 case refine_2 =>
  rintro⟨tm,df⟩ o3 w3 ⟨ft,pF,t0,t1,t4,CM,l3⟩;simp only at ft pF;subst pF;obtain⟨gs,rfl⟩:=fA ft;simp only[List.range,List.range.loop,bU,oe] at *;simp[Act.eval] at t0 t1 t4;simp only[t0,t1,t4];clear t0 t1 t4 ft;have l3':cB T i rc o w o3 w3:=l2.trans ⟨cF.nX wP l3.rel,l3.ok,l3.more⟩;have hd3:=SN.later hD l3.rel;have rZ:o3 A:=l3.more A hA;have VT:=b6.of_block (l3.rel.own A hA);have hp3:jB w3:=hp.later XD l3';refine qY W2 ?_;refine tL mixed (n:=21) af [.pointer (some ⟨D.bn,0,none⟩),.pointer (some ⟨D.bn,0,none⟩),.pointer (some ⟨D.bn,2,none⟩),.slice (some ⟨D.Rb,0,none⟩) D.n D.n,.int .i64 (ord i),.slice (some ⟨A,0,none⟩) (D.ins (ord i)).length (D.ins (ord i)).length,.pointer (some ⟨D.bn,0,none⟩),.pointer (some ⟨D.bn,0,none⟩),.pointer (some ⟨D.bn,0,none⟩),.pointer (some ⟨D.Lb,D.Lo,none⟩),.pointer (some ⟨D.Lb,D.Lo,none⟩),.pointer (some ⟨D.Lb,D.Lo,none⟩),.slice (some ⟨D.St,0,none⟩) D.n D.n,.int .i64 (ord i),.pointer (some ⟨D.St,ord i*3,none⟩),.pointer (some ⟨D.St,ord i*3+1,none⟩),.int .i64 (D.jm (ord i)),.slice (some ⟨A,0,none⟩) (D.ins (ord i)).length (D.ins (ord i)).length,.agg #[.bool (res (ord i)).1,.string (res (ord i)).2],.agg #[.bool true,.slice (some ⟨A,0,none⟩) (D.ins (ord i)).length (D.ins (ord i)).length,.bool (res (ord i)).1,.string (res (ord i)).2],.pointer (some ⟨D.Rb,ord i*4,none⟩)]
   (S:=fun o5 w5=>cB T i te o3 w3 o5 w5) (fun o5 w5 w6 h hr=>mK h hr) (.refl l3.ok) ?_
  have F1:∀o5 w5,cB T i te o3 w3 o5 w5->w5.cell? ⟨D.bn,2,none⟩=some (.slice (some ⟨D.Rb,0,none⟩) D.n D.n):=fun o5 w5 h=>(hd3.later hD h.rel).b2;have F2:∀o5 w5,cB T i te o3 w3 o5 w5->w5.cell? ⟨D.bn,0,none⟩=some (.pointer (some ⟨D.Lb,D.Lo,none⟩)):=fun o5 w5 h=>(hd3.later hD h.rel).b0;have F3:∀o5 w5,cB T i te o3 w3 o5 w5->w5.cell? ⟨D.Lb,D.Lo,none⟩=some (.slice (some ⟨D.St,0,none⟩) D.n D.n):=fun o5 w5 h=>(hd3.later hD h.rel).steps;have F4:∀o5 w5,cB T i te o3 w3 o5 w5->w5.cell? ⟨D.St,ord i*3+1,none⟩=some (.int .i64 (D.jm (ord i))):=fun o5 w5 h=>(hd3.later hD h.rel).eD _ hs;simp only[List.range,List.range.loop]
  iterate 3 refine sX ?_
  (refine cu rfl rfl (jL fun o5 w5 my=>⟨?_,fun e he=>?_⟩) ?_;(focus (have hF:=F1 o5 w5 my;simp[go_sem,hF];done));(focus (have hF:=F1 o5 w5 my;simp[go_sem,hF] at he;subst he;exact eT hD.Cx));try walk_nrm)
  iterate 5 refine sX ?_
  (refine cu rfl rfl (jL fun o5 w5 my=>⟨?_,fun e he=>?_⟩) ?_;(focus (have hF:=F2 o5 w5 my;simp[go_sem,hF];done));(focus (have hF:=F2 o5 w5 my;simp[go_sem,hF] at he;subst he;exact eT hD.Cx));try walk_nrm)
  refine sX ?_;refine sX ?_
  (refine cu rfl rfl (jL fun o5 w5 my=>⟨?_,fun e he=>?_⟩) ?_;(focus (have hF:=F3 o5 w5 my;simp[go_sem,hF];done));(focus (have hF:=F3 o5 w5 my;simp[go_sem,hF] at he;subst he;exact eT hD.XJ));try walk_nrm)
  iterate 3 refine sX ?_
  (refine cu rfl rfl (jL fun o5 w5 my=>⟨?_,fun e he=>?_⟩) ?_;(focus (have hF:=F4 o5 w5 my;simp[go_sem,hF];done));(focus (have hF:=F4 o5 w5 my;simp[go_sem,hF] at he;subst he;exact eT hD.XK));try walk_nrm)
  refine sX ?_;refine cu rfl rfl (.inr ⟨163,_,_,_,_,rfl,func163,af,rfl,fun o5 w5 l5=>?_⟩) ?_
  ·have h:=XM (V:=V) (E:=E) (rc:=te) hW XD (D.jm (ord i)) QI A (dA D res (ord i)) aa pP l5.ok (l5.more A rZ) (VT.of_block (l5.rel.own A rZ)) (hp3.later XD l5);rw[hlen,<- xQ] at h;simp only[List.map_toArray,bU,oe,Act.eval];refine h.mono ?_;rintro v o6 w6 ⟨rfl,l6⟩;exact⟨rfl,l5.trans l6⟩
  walk_nrm;refine sX ?_;refine sX ?_;refine nB fun o5 w5 l5=>?_;have FU:cB T i rc o w o5 w5:=l3'.trans ⟨cF.nX wP l5.rel,l5.ok,l5.more⟩;obtain⟨x0,x1,x2,x3,FP,ui,Zp,hx3⟩:=hold.some;have sY:∀w6,cF T i o5 te w5 w6->w6.cell? ⟨D.Rb,ord i*4,none⟩=some x0/\w6.cell? ⟨D.Rb,ord i*4+1,none⟩=some x1/\w6.cell? ⟨D.Rb,ord i*4+2,none⟩=some x2/\w6.cell? ⟨D.Rb,ord i*4+3,none⟩=some x3:=fun w6 hr =>
   ⟨(hr.mine _ (.inl (eH 0 aa))).trans ((FU.rel.mine _ (.inl (eH 0 aa))).trans FP),(hr.mine _ (.inl (eH 1 aa))).trans ((FU.rel.mine _ (.inl (eH 1 aa))).trans ui),
    (hr.mine _ (.inl (eH 2 aa))).trans ((FU.rel.mine _ (.inl (eH 2 aa))).trans Zp),(hr.mine _ (.inl (eH 3 aa))).trans ((FU.rel.mine _ (.inl (eH 3 aa))).trans hx3)⟩
  have hRH:=(hW.ok.sh _ hD.O3).1;have hNH:=(hW.ok.sh _ hD.VR).1;have qi:o5 A:=l5.more A rZ;have hAH:=(l5.ok.tK A qi).1;refine yY rfl ai D.Rb hD.O3 (f:=fun w6=>(((w6.setCell ⟨D.Rb,ord i*4,none⟩ (.bool true)).setCell ⟨D.Rb,ord i*4+1,none⟩ (.slice (some ⟨A,0,none⟩) (D.ins (ord i)).length (D.ins (ord i)).length)).setCell ⟨D.Rb,ord i*4+2,none⟩ (.bool (res (ord i)).1)).setCell ⟨D.Rb,ord i*4+3,none⟩ (.string (res (ord i)).2))
   (fun w6 hr=>?_) (fun w6=>(((lG.set _ _ (eH 0 aa)).trans (lG.set _ _ (eH 1 aa))).trans (lG.set _ _ (eH 2 aa))).trans (lG.set _ _ (eH 3 aa))) (fun w6 hr e he=>?_) rfl fun w6 hr dW=>?_
  ·obtain⟨c0,c1,c2,c3⟩:=sY w6 hr;have f:=((QJ.later hD.O3 FU.rel).later hD.O3 hr).frozen;simp[go_sem,c0,c1,c2,c3,f]
  ·obtain⟨c0,c1,c2,c3⟩:=sY w6 hr;have f:=((QJ.later hD.O3 FU.rel).later hD.O3 hr).frozen;simp[go_sem,c0,c1,c2,c3,f] at he;obtain⟨j,wt,sy,hj,rfl⟩:=(aaX (.bool true) (.slice (some ⟨A,0,none⟩) (D.ins (ord i)).length (D.ins (ord i)).length) (.bool (res (ord i)).1) (.string (res (ord i)).2) c0 c1 c2 c3 f rfl rfl rfl rfl).2.2.2.2 _ e he;exact⟨_,_,_,rfl,eH j hj⟩
  obtain⟨c0,c1,c2,c3⟩:=sY w6 hr;have f:=((QJ.later hD.O3 FU.rel).later hD.O3 hr).frozen;obtain⟨n0,n1,n2,n3,-⟩:=aaX (P:=ar) (.bool true) (.slice (some ⟨A,0,none⟩) (D.ins (ord i)).length (D.ins (ord i)).length) (.bool (res (ord i)).1) (.string (res (ord i)).2) c0 c1 c2 c3 f rfl rfl rfl rfl;generalize (((w6.setCell ⟨D.Rb,ord i*4,none⟩ (.bool true)).setCell ⟨D.Rb,ord i*4+1,none⟩ (.slice (some ⟨A,0,none⟩) (D.ins (ord i)).length (D.ins (ord i)).length)).setCell ⟨D.Rb,ord i*4+2,none⟩ (.bool (res (ord i)).1)).setCell ⟨D.Rb,ord i*4+3,none⟩ (.string (res (ord i)).2)=w7 at *;have l6:cB T i rc o w o5 w6:=mK FU (cF.nX wP hr);have hRN:D.Rb≠D.Nb:=hD.apart;have alo:fT T o5 w7:=⟨fun b hb=>by have:=l6.ok.tK b hb;have:=dW.size;omega,by have:=l6.ok.size;have:=dW.size;omega⟩;have hd7:kG D w7:=(hd.later hD l6.rel).HH hD fun b hb=>dW.heap b fun e=>hb.sh (e▸hD.O3);have hN7:w7.cell? ⟨D.Nb,ord i,none⟩=some (.bool false):=by rw[cell_of (dW.heap _ (bc hRN)),l6.rel.mine _ (.inl BB)];exact TX
  have Jf:w7.heap[A]?=w3.heap[A]?:=by rw[dW.heap A aa,hr.own A qi,l5.rel.own A rZ]
  have VU:uq w7 D.Nb:=by
   obtain⟨c,t,hh⟩:=XO.later hD.VR l6.rel;exact⟨c,t,by rw[dW.heap _ (bc hRN)];exact hh⟩
  have XP:∀b,o b->w7.heap[b]?=w.heap[b]?:=fun b hb=>by
   rw[dW.heap b (by have:=(fD.tK b hb).1;omega)];exact l6.rel.own b hb
  have QH:=VT.of_block Jf;have ae5:Go.ConcN.WgLive T.ty T.Wg w->Go.ConcN.WgLive T.ty T.Wg w7:=fun x=>fQ (dW.heap _ (bc (hW.ok.sh _ hD.O3).2.1)) (l6.rel.wg x);clear F1 F2 F3 F4 sY dW hr f c0 c1 c2 c3;refine aA ?_;have Je:∀w3,cF T i o5 te w7 w3->w3.cell? ⟨D.bn,3,none⟩=some (.slice (some ⟨D.Nb,0,none⟩) D.n D.n):=fun w3 hr=>(hd7.later hD hr).b3
  (refine fp W2 Je rfl ai (fun w9 hc=>⟨.refl _ _,fun e he=>?_⟩) fun w9 hc K hK=>?_;(focus (rw[bS];have he:=mem_listed he;simp[go_sem, *] at he;subst he;exact eT hD.Cx));go_simp;refine hK _ ?_;clear hK K;clear hc w9;try walk_nrm)
  refine aA ?_;refine yY rfl ai D.Nb hD.VR (f:=fun w8=>w8.setCell ⟨D.Nb,ord i,none⟩ (.bool true)) (fun w8 hr=>?_) (fun w8=>lG.set _ _ BB) (fun w8 hr e he=>?_) rfl fun w8 hr dW=>?_
  ·have c0:=(hr.mine _ (.inl BB)).trans hN7;have f:=(VU.later hD.VR hr).frozen;simp[go_sem,c0,f]
  ·have c0:=(hr.mine _ (.inl BB)).trans hN7;have f:=(VU.later hD.VR hr).frozen;simp[go_sem,c0,f] at he;rw[cD _ _ c0 (f _) rfl] at he;simp at he;subst he;exact⟨_,_,_,rfl,BB⟩
  have hN8:(w8.setCell ⟨D.Nb,ord i,none⟩ (.bool true)).cell? ⟨D.Nb,ord i,none⟩=some (.bool true):=HN _ _ _ _ ((hr.mine _ (.inl BB)).trans hN7);generalize w8.setCell ⟨D.Nb,ord i,none⟩ (.bool true)=w9 at *;have hm9:∀j,j<4->w9.cell? ⟨D.Rb,ord i*4+j,none⟩=w7.cell? ⟨D.Rb,ord i*4+j,none⟩:=fun j hj=>by rw[cell_of (dW.heap _ hRN)];exact hr.mine _ (.inl (eH j hj))
  refine aA ?_;refine⟨.inl trivial,trivial,FU.more,fun b hb=>(FU.ok.tK b hb).1,fun b hb=>?_,fun x=>fQ (dW.heap _ (bc (hW.ok.sh _ hD.VR).2.1)) (hr.wg (ae5 x)),.inr ⟨CM,A,⟨qi,QD⟩,QH.of_block ?_,⟨(hm9 0 aa).trans n0,?_,(hm9 2 aa).trans n2,(hm9 3 aa).trans n3⟩,hN8⟩⟩
  ·rw[dW.heap b (by have:=(fD.tK b hb).1;omega),hr.own b (FU.more b hb)];exact XP b hb
  ·rw[dW.heap A aa];exact hr.own A qi
  ·rw[hlen];exact(hm9 1 aa).trans n1
 have Je:∀w3,cF T i o2 te w2 w3->w3.cell? ⟨D.bn,2,none⟩=some (.slice (some ⟨D.Rb,0,none⟩) D.n D.n):=fun w3 hr=>(SN.later hD hr).b2;refine aA ?_
 (refine fp W2 Je rfl ai (fun w9 hc=>⟨.refl _ _,fun e he=>?_⟩) fun w9 hc K hK=>?_;(focus (rw[bS];have he:=mem_listed he;simp[go_sem, *] at he;subst he;exact eT hD.Cx));go_simp;refine hK _ ?_;clear hK K;clear hc w9;try walk_nrm)
 clear Je;refine aA ?_;have hm:∀j,j<4->w2.cell? ⟨D.Rb,ord i*4+j,none⟩=w.cell? ⟨D.Rb,ord i*4+j,none⟩:=fun j hj=>l2.rel.mine _ (.inl (eH j hj));obtain⟨dn,ob,ol,mb,mt,eY,fy⟩:∃dn ob ol mb mt,(w2.cell? ⟨D.Rb,ord i*4,none⟩=some (.bool dn)/\w2.cell? ⟨D.Rb,ord i*4+1,none⟩=some (.slice ob ol ol)/\w2.cell? ⟨D.Rb,ord i*4+2,none⟩=some (.bool mb)/\w2.cell? ⟨D.Rb,ord i*4+3,none⟩=some (.string mt)) /\
   ((dn=false/\old=none)\/(dn=true/\∃B vs,old=some (B,vs)/\ob=some ⟨B,0,none⟩/\ol=vs.length/\(mb,mt)=jC (D.jm (ord i)) vs/\vt w B 0 vs/\Quiet T B/\vs.length<=100000)):=by
  cases old with
  |none=>exact⟨_,_,_,_,_,⟨(hm 0 aa).trans hold.c0,(hm 1 aa).trans hold.c1,(hm 2 aa).trans hold.c2,(hm 3 aa).trans hold.c3⟩,.inl ⟨rfl,rfl⟩⟩
  |some x=>exact⟨_,_,_,_,_,⟨(hm 0 aa).trans hold.1.c0,(hm 1 aa).trans hold.1.c1,(hm 2 aa).trans hold.1.c2,(hm 3 aa).trans hold.1.c3⟩,.inr ⟨rfl,x.1,x.2,rfl,rfl,rfl,rfl,hold.2.1,hold.2.2.1,hold.2.2.2⟩⟩
 have Je:∀w3,cF T i o2 te w2 w3->w3.cell? ⟨D.Rb,ord i*4,none⟩=some (.bool dn)/\w3.cell? ⟨D.Rb,ord i*4+1,none⟩=some (.slice ob ol ol)/\w3.cell? ⟨D.Rb,ord i*4+2,none⟩=some (.bool mb)/\w3.cell? ⟨D.Rb,ord i*4+3,none⟩=some (.string mt):=fun w3 hr =>
  ⟨(hr.mine _ (.inl (eH 0 aa))).trans eY.1,(hr.mine _ (.inl (eH 1 aa))).trans eY.2.1,(hr.mine _ (.inl (eH 2 aa))).trans eY.2.2.1,(hr.mine _ (.inl (eH 3 aa))).trans eY.2.2.2⟩
 (refine fp W2 Je rfl ai (fun w9 hc=>⟨.refl _ _,fun e he=>?_⟩) fun w9 hc K hK=>?_;(focus (rw[bS];obtain⟨c0,c1,c2,c3⟩:=hc;have he:=mem_listed he;simp[go_sem, *] at he;rcases he with rfl|rfl|rfl|rfl<;>(first|exact tf (eH 0 aa)|exact tf (eH 1 aa)|exact tf (eH 2 aa)|exact tf (eH 3 aa))));obtain⟨c0,c1,c2,c3⟩:=hc;go_simp;refine hK _ ?_;clear hK K;clear c0 c1 c2 c3 w9;try walk_nrm)
 clear Je;refine mI hW.ok hW.i l2.ok rfl ai rfl (Obj.cells #[.bool false,.slice none 0 0,.bool false,.string aN] 222) (fun w1=>by simp[go_sem];rfl) (fun w1=>fa) fun C o3 w3 l3 hC hCx hwC ho3=>?_;try walk_nrm
 have hCr:w3.rowIs C 222 4 (fun k=>if k=0 then .bool false else if k=1 then .slice none 0 0 else if k=2 then .bool false else .string aN):=⟨_,hCx,rfl,fun k hk=>by
  rcases(show k=0\/k=1\/k=2\/k=3 by omega) with rfl|rfl|rfl|rfl<;>rfl⟩
 have hnC:¬o2 C:=fun h=>by have:=(l2.ok.tK C h).2;omega
 refine HI hW.ok hW.i l3.ok rfl ai C hC hCr (.bool dn) (.slice ob ol ol) (.bool mb) (.string mt) rfl rfl rfl rfl (fun w1 c f=>?_) (fun w1 c f=>⟨.plain,?_⟩) fun w4 l4 Zn=>?_
 ·have c0:=c 0 aa;have c1:=c 1 aa;have c2:=c 2 aa;have c3:=c 3 aa;simp at c0 c1 c2 c3;clear c;simp[go_sem,c0,c1,c2,c3,f]
 ·have c0:=c 0 aa;have c1:=c 1 aa;have c2:=c 2 aa;have c3:=c 3 aa;simp at c0 c1 c2 c3;clear c;simp[go_sem,c0,c1,c2,c3,f]
 have Jd:cB T i te o2 w2 o3 w4:=(l3.vn.trans l4).later hnC;clear l4 hCr hCx l3;try walk_nrm
 refine aA ?_;have O4:∀w5,cF T i o3 te w4 w5->w5.cell? ⟨C,0,none⟩=some (.bool dn):=fun w5 hr=>by rw[cell_of (hr.own C hC)];exact Zn.cell (i:=0) aa
 have my:∀w5,cF T i o3 te w4 w5->w5.cell? ⟨C,1,none⟩=some (.slice ob ol ol):=fun w5 hr=>by rw[cell_of (hr.own C hC)];exact Zn.cell (i:=1) aa
 (refine fp W2 O4 rfl ai (fun w9 hc=>⟨.refl _ _,fun e he=>?_⟩) fun w9 hc K hK=>?_;(focus (rw[bS];have he:=mem_listed he;simp[go_sem, *] at he;subst he;exact nD hC));go_simp;refine hK _ ?_;clear hK K;clear hc w9;try walk_nrm)
 refine aA ?_;have l4:cB T i rc o w o3 w4:=l2.trans ⟨cF.nX wP Jd.rel,Jd.ok,Jd.more⟩;rcases fy with⟨rfl,rfl⟩|⟨rfl,B,vs,rfl,rfl,rfl,LV,Nk,hqB,ae7⟩
 ·refine gW W2 rfl ai ?_;walk_nrm;refine gW W2 rfl ai ?_;walk_nrm;refine gW W2 rfl ai ?_;walk_nrm;refine gW W2 rfl ai ?_;refine aA ?_;exact⟨rfl,trivial,rfl,rfl,rfl,an,Jd⟩
 refine aA ?_
 (refine fp W2 my rfl ai (fun w9 hc=>⟨.refl _ _,fun e he=>?_⟩) fun w9 hc K hK=>?_;(focus (rw[bS];have he:=mem_listed he;simp[go_sem, *] at he;subst he;exact nD hC));go_simp;refine hK _ ?_;clear hK K;clear hc w9;try walk_nrm)
 refine aA ?_;have ae8:vt w4 B 0 vs:=fun k hk=>by rw[hqB.cell l4.rel,hqB.cell l4.rel];exact Nk k hk
 have rZ:o3 A:=Jd.more A hA;have aaZ:vt w4 A 0 (dA D res (ord i)):=(b6.of_block (Jd.rel.own A hA)).lj;refine aF W2 rfl ai rfl func162 af rfl (by simp[Act.eval,<- hlen]) rfl ((TW hW B A vs (dA D res (ord i)) ae7 aa Jd.ok hqB ae8 rZ aaZ).mono ?_);rintro v o5 w5 ⟨rfl,l5⟩;walk_nrm;by_cases heq:vs=dA D res (ord i)
 ·simp only[heq,decide_true];refine aA ?_;have FU:cB T i rc o w o5 w5:=l4.trans ⟨cF.nX wP l5.rel,l5.ok,l5.more⟩;have hm5:∀j,j<4->w5.cell? ⟨D.Rb,ord i*4+j,none⟩=w.cell? ⟨D.Rb,ord i*4+j,none⟩:=fun j hj=>FU.rel.mine _ (.inl (eH j hj));have cm:=hold.1;rw[heq,<- xQ] at cm;exact⟨.inr trivial,trivial,FU.more,fun b hb=>(FU.ok.tK b hb).1,FU.rel.own,FU.rel.wg,.inl ⟨B,rfl,⟨(hm5 0 aa).trans cm.c0,(hm5 1 aa).trans cm.c1,(hm5 2 aa).trans cm.c2,(hm5 3 aa).trans cm.c3⟩,(FU.rel.mine _ (.inl BB)).trans TX⟩⟩
 ·simp only[heq,decide_false];refine aA ?_;exact⟨rfl,trivial,rfl,rfl,rfl,fun B' h=>heq (by cases h;rfl),Jd.trans l5⟩
end
abbrev link:Go.Conc.Lib.WgLink:={add:=113,done:=115,wait:=117,relMerge:=125,disable:=120,enable:=122,inBubble:=151,associate:=152,fatal:=153,uOr:=154,uAdd:=155,raceRead:=156,uLoad:=157,uStore:=158,disassociate:=159,semrelease:=160,acquire:=123,isAssociated:=164,uCas:=165,raceWrite:=166,semacquire:=167,orU64:=192,addU64:=193,loadU64:=194,storeU64:=195,casU64:=200,tWgP:=251,tUP:=116,tAssoc:=252,tWg:=216,tAU:=214,tU64:=212,tUint:=223,tU32:=102,tPU32:=255,tPAU:=283,tPU64:=285,tNoCopy:=101,tANoCopy:=115,tAlign64:=211}
theorem yZ:Go.Conc.Lib.WgLib ar link :=
 ⟨func113,func115,func117,func125,func120,func122,func151,func152,func153,func154,func155,func156,func157,func158,func159,func160,func123,func164,func165,func166,func167,func192,func193,func194,func195,func200,underlying251,runUnderlying251,sizeOf251,isAgg251,zeroValue251,underlying116,runUnderlying116,sizeOf116,isAgg116,zeroValue116,underlying252,runUnderlying252,sizeOf252,isAgg252,zeroValue252,underlying216,runUnderlying216,sizeOf216,isAgg216,zeroValue216,underlying214,runUnderlying214,sizeOf214,isAgg214,zeroValue214,underlying212,runUnderlying212,sizeOf212,isAgg212,zeroValue212,underlying223,runUnderlying223,sizeOf223,isAgg223,zeroValue223,underlying102,runUnderlying102,sizeOf102,isAgg102,zeroValue102,underlying255,runUnderlying255,sizeOf255,isAgg255,zeroValue255,underlying283,runUnderlying283,sizeOf283,isAgg283,zeroValue283,underlying285,runUnderlying285,sizeOf285,isAgg285,zeroValue285,underlying0,runUnderlying0,sizeOf0,isAgg0,zeroValue0,underlying3,runUnderlying3,sizeOf3,isAgg3,zeroValue3,underlying4,runUnderlying4,sizeOf4,isAgg4,zeroValue4,underlying9,runUnderlying9,sizeOf9,isAgg9,zeroValue9,underlying20,runUnderlying20,sizeOf20,isAgg20,zeroValue20,underlying21,runUnderlying21,sizeOf21,isAgg21,zeroValue21,af,af⟩
open Go.ConcN
section
open Go.Conc.Lib Go.ConcR.Gen Go.ConcN.Gen
open Go.ConcR (KK wgBlock WgAt stA smA rd wr mk Payload DC0)
def HO(n:Nat):Frame:={(default:Frame) with fn:=n,defers:=[],mode:=.panicking [goexitEntry]}
def D8(Wg Bb C:Nat):Deferred:={target:=.fn (.func 114) #[.pointer (some ⟨Wg,0,none⟩),.pointer (some ⟨Bb,0,none⟩),.pointer (some ⟨C,0,none⟩)],args:=#[]}
def bW:Frame:=baseD 114
theorem Kt(Wg Bb C:Nat)(w:ae):stepG ar false (born ar (D8 Wg Bb C)) w =
  .go (G (bW.at ⟨#[.pointer (some ⟨Wg,0,none⟩),.pointer (some ⟨Bb,0,none⟩),.pointer (some ⟨C,0,none⟩),undef,undef,undef],[]⟩ [.code (Tryz.f114.body.getD .skip)]) [HO ar.funcs.size]) w #[]:=by
 simp[born,D8,stepG,unwind,callDeferred,invoke,callFunc,func114,Tryz.f114,seen,GStep.after,G,Frame.enter,Frame.at,bW,baseD,HO]
theorem Ku(T:Array Value):QuitsD ar 2 0 (G {bW.at ⟨T,[]⟩ [] with mode:=.returning} [HO ar.funcs.size]):=by
 refine QuitsD.ctl (g':=G (HO ar.funcs.size) []) rfl (fun w=>?_) ?_
 ·simp[G,stepG,unwind,doReturn,results,Frame.at,bW,baseD,HO,func114,Tryz.f114,seen,GStep.after,goexitEntry]
 refine QuitsD.ctl (g':={G (HO ar.funcs.size) [] with status:=.finished}) rfl (fun w=>?_) ⟨rfl,rfl⟩;simp[G,stepG,unwind,HO,goexitEntry,Frame.catches];rfl
theorem HP:Tryz.f116.results=#[]:=af
theorem results_none{P:Program}{fn:Func}(h:fn.results=#[])(tm:Array Value)(w:ae):(results fn tm).run P w=.ok (.tuple #[]) w/\(results fn tm).events P w #[]=#[]:=by
 unfold results;rw[h];exact⟨fa,fa⟩
section
variable [Payload] {T:cP} {i:Nat} {V:Nat->ae->Prop} {rc:Nat->Prop} {o:aM} {w:ae} {D:mf} {ord:Nat->Nat}
theorem tailW(Wg Bb C s:Nat)(tm tm2:Array Value)(todo:List Item)(df:Deferred)(pF:df={target:=.fn (.func 115) #[],args:=#[.pointer (some ⟨Wg,0,none⟩)]})(hK:WgLive 216 Wg w/\Has C (1-1) (.int .i64 (s:Int)) w)(ops:Array Oper)(ae9:ops[2]?=some {dst:=some 5,op:=.call {callee:=.value (.func 116),args:=#[.tmp 3,.tmp 4],argTypes:=#[151,3]},type:=0,pos:= "build.go:79",after:=#[{on:=0,ground:=.data},{on:=1,ground:=.data}],guard:=none}):
  ∃m,Goes ar false (RW 216 Wg C 0 0 (1-1)) (DWs Wg pN pN C 0 1) (AtR0 ar 216 Wg C 0 0 1 (.int .i64 (s:Int))) m (G {(base 116).at ⟨tm,[]⟩ todo with mode:=.returning} (bW.at ⟨tm2,[df]⟩ (.inRegion ops [2]::[])::[HO ar.funcs.size])) w:=by
 subst pF;refine⟨27,?_⟩
 u_in kn_rely hK
 rw[stepG_leave (b:=base 116) (v:=.tuple #[]) rfl rfl func116 (results_none HP _ _).1 (results_none HP _ _).2];simp only[goes_go];refine⟨by u_nil,?_⟩;rw[dF,ae9];simp only[Option.bind_some,Act.put]
 u_c ak kn_rely hK
 u_c dG kn_rely hK
 u_in kn_rely hK
 rw[stepG_unwind_enter rfl func115 (nm_done link) rfl];simp only[goes_go];refine⟨by u_nil,?_⟩;walk_nrmf Tryz.f115;have hA:=@doneN _ link ar yZ pN pN Wg C 0 0 1 (.int .i64 (s:Int));simp only[body_done,doneFn,y7] at hA;exact hA rfl (Ku _) _ hK
theorem XQ{α:Type}{a c:Prop}{G:α->Prop}(ha:a)(h:∃m,G m)(hc:c):∃m,a/\G m/\c:=let ⟨m,h⟩:=h;⟨m,ha,h,hc⟩
def Vd(D:mf)(ord:Nat->Nat)(res:Nat->Kz.V)(k:Nat)(w:ae):Prop:=k<D.n/\w.cell? ⟨D.Rb,ord k*4+2,none⟩=some (.bool (res (ord k)).1)/\w.cell? ⟨D.Rb,ord k*4+3,none⟩=some (.string (res (ord k)).2)
def wS(D:mf)(ord:Nat->Nat)(old:Nat->Option (Nat×List Kz.V))(res:Nat->Kz.V)(k:Nat)(o:Nat->Prop)(w:ae):Prop:=k<D.n/\mL D (ord k) (old (ord k)) (dA D res (ord k)) (res (ord k)) o w
theorem L4{P:Program}{m:Bool}{R:aM->ae->ae->Prop}{Gu:aM->ae->ae->Array Event->Prop}{X:aM->aS->ae->Prop}(W:fg P m R Gu X){b:Frame}{a:Act}{k:List Item}{cs:List Frame}{o:aM}{w:ae}{ops:Array Oper}{i:Nat}{rest:List Nat}{op:Oper}{v:Value}(ho:ops[i]?=some op)(hw:Region.wanted op (yielded ops a.tmps)=true)(hk:b.kind≠.early){d:Option Tmp}(hd:op.dst=d)(hr:∀w1,R o w w1->(execOp a.eval op).run P w1=.ok (.value v) w1)(hg:∀w1,R o w w1->Gu o w1 w1 (listed P b.fn a op w1))(h:X o (G (b.at (a.put d v) (.inRegion ops rest::k)) cs) w):X o (G (b.at a (.inRegion ops (i::rest)::k)) cs) w:=by
 subst hd;exact W.step _ _ _ rfl fun w1 h1=>⟨_,_,_,dN ho hw hk (hr w1 h1),hg w1 h1,by rw[bS];exact W.rely _ _ _ _ h h1⟩
theorem QM(hW:qt T i)(hTn:T.n=D.n)(hty:T.ty=216)(XD:Quiet T 1)(hD:yd D T ord)(res:Nat->Kz.V)(old:Nat->Option (Nat×List Kz.V))(hd:kG D w)(hp:jB w)(xQ:res (ord i)=jC (D.jm (ord i)) (dA D res (ord i)))(QI:1<=D.jm (ord i)/\D.jm (ord i)<=5)(pP:iM ((dA D res (ord i)).map (·.2))<=1000000)(hold:E5 D T (ord i) (old (ord i)) w)(TX:w.cell? ⟨D.Nb,ord i,none⟩=some (.bool false))(QJ:uq w D.Rb)(XO:uq w D.Nb)(fD:fT T o w)(Bb C:Nat)(hBb:Quiet T Bb)(HQ:w.cell? ⟨Bb,0,none⟩=some (.pointer (some ⟨D.bn,0,none⟩)))(ho:∀b,o b↔b=C)(hC:w.cell? ⟨C,0,none⟩=some (.int .i64 (ord i)))(wT:WgLive T.ty T.Wg w):
  XW ar T i (Vd D ord res) (CR ar T (wS D ord old res) i) rc o (born ar (D8 T.Wg Bb C)) w:=by
 have W:=cv (P:=ar) (T:=T) (i:=i) (V:=Vd D ord res) (E:=CR ar T (wS D ord old res) i) rc;have Zq:o C:=(ho C).2 rfl;refine W.go rfl (fun w1=>Kt _ _ _ w1) ?_;simp only[Tryz.f114,y7];refine W.go rfl (fun _=>ax) ?_;refine W.go rfl (fun _=>aV) ?_;refine dp ?_;refine W.go rfl (fun w1=>wR (d:={target:=.fn (.func 115) #[],args:=#[.pointer (some ⟨T.Wg,0,none⟩)]}) rfl ai dh fa fa) ?_;refine W.go rfl (fun _=>ak) ?_;refine W.go rfl (fun _=>aV) ?_;refine dp ?_;walk_nrm;have c1:∀w1,cF T i o rc w w1->w1.cell? ⟨Bb,0,none⟩=some (.pointer (some ⟨D.bn,0,none⟩)):=fun w1 h1=>by rw[hBb.cell h1];exact HQ
 have c2:∀w1,cF T i o rc w w1->w1.cell? ⟨C,0,none⟩=some (.int .i64 (ord i)):=fun w1 h1=>by rw[cell_of (h1.own C Zq)];exact hC
 refine L4 W (v:=.pointer (some ⟨D.bn,0,none⟩)) rfl ai dh rfl (fun w1 h1=>by simp[go_sem,c1 w1 h1]) (fun w1 h1=>⟨.refl _ _,fun e he=>?_⟩) ?_
 ·rw[bS];have he:=mem_listed he;simp[go_sem,c1 w1 h1] at he;subst he;exact eT hBb
 walk_nrm;refine L4 W (v:=.int .i64 (ord i)) rfl ai dh rfl (fun w1 h1=>by simp[go_sem,c2 w1 h1]) (fun w1 h1=>⟨.refl _ _,fun e he=>?_⟩) ?_
 ·rw[bS];have he:=mem_listed he;simp[go_sem,c2 w1 h1] at he;subst he;exact nD Zq
 walk_nrm;refine W.go rfl (fun w1=>pj rfl ai dh rfl func116 af rfl w1) ?_;simp only[List.map_toArray,bU,oe,Act.eval];walk_nrm;refine XN hW XD hD res (fun k w _ h=>h.2) fD hd hp xQ QI pP (old (ord i)) hold TX QJ XO _ _ fun mX o' w' tm todo h1 h5 h2 h4 h3 w1 hr s r t hc=>?_;have hmR:∀j,j<4->w1.cell? ⟨D.Rb,ord i*4+j,none⟩=w'.cell? ⟨D.Rb,ord i*4+j,none⟩:=fun j hj=>hr.mine _ (.inl ((hD.own i _).2 ⟨hW.i,.inl ⟨j,hj,rfl⟩⟩));have hmN:w1.cell? ⟨D.Nb,ord i,none⟩=w'.cell? ⟨D.Nb,ord i,none⟩:=hr.mine _ (.inl ((hD.own i _).2 ⟨hW.i,.inr rfl⟩));have hh:=oo w1 (T.ch i) s r t;have cV:∀b,T.Sh b->b≠T.ch i:=fun b hb=>bc ((hW.ok.sh b hb).2.2 i hW.i);have hCc:C≠T.ch i:=by have:=(fD.tK C Zq).1;have:=(hW.ok.ch i hW.i).1;omega
 have QN:WgLive T.ty T.Wg (w1.setChan (T.ch i) 0 #[] true s r t):=fQ (hh _ (bc (hW.ok.ch i hW.i).2)) (hr.wg (h4 wT));have hC':(w1.setChan (T.ch i) 0 #[] true s r t).cell? ⟨C,0,none⟩=some (.int .i64 (ord i)):=by rw[cell_of (hh C hCc),cell_of (hr.own C (h1 C Zq)),cell_of (h2 C Zq)];exact hC
 rw[hty] at QN;have hiD:i<D.n:=hTn▸hW.i;refine⟨⟨hiD,(hmR 2 aa).trans h3.made.1,(hmR 3 aa).trans h3.made.2⟩,C,.int .i64 (ord i),?_⟩;rw[hty];refine XQ (h1 C Zq) (tailW (w:=w1.setChan (T.ch i) 0 #[] true s r t) T.Wg Bb C (ord i) tm _ todo _ rfl ⟨QN,hC'⟩ _ ai) ?_;refine⟨hiD,mL.of h3 (fun j hj=>?_) ?_ fun b hb=>⟨⟨hb.1,fun e=>hb.2 ((ho b).2 e)⟩,?_⟩⟩
 ·rw[cell_of (hh _ (cV _ hD.O3))];exact hmR j hj
 ·rw[cell_of (hh _ (cV _ hD.VR))];exact hmN
 ·rw[hh b (by have:=h5 b hb.1;have:=(hW.ok.ch i hW.i).1;omega)];exact hr.own b hb.1
end
end
section
open Go.Conc.Lib Go.ConcR.Gen Go.ConcN.Gen
open Go.ConcR (KK wgBlock WgAt stA smA rd wr mk Payload DC0)
def ye(D:mf)(s:Nat)(old:Option (Nat×List Kz.V))(w:ae):Prop :=
 (match old with|none=>L2 D s w|some (B,vs)=>uQ D s w B vs (jC (D.jm s) vs))/\w.cell? ⟨D.Nb,s,none⟩=some (.bool false)/\uq w D.Rb/\uq w D.Nb
structure Setup(D:mf)(T:cP)(ord:Nat->Nat)(res:Nat->Kz.V)(old:Nat->Option (Nat×List Kz.V))(Bb Ob:Nat)(w0:ae):Prop where
 ok:T.OK
 n:T.n=D.n
 jF:ar.globals.size<=T.H0
 ty:T.ty=216
 q1:Quiet T 1
 dk:yd D T ord
 DI:kG D w0
 pow:jB w0
 made:∀i,i<T.n->res (ord i)=jC (D.jm (ord i)) (dA D res (ord i))
 eD:∀i,i<T.n->1<=D.jm (ord i)/\D.jm (ord i)<=5
 size:∀i,i<T.n->iM ((dA D res (ord i)).map (·.2))<=1000000
 qB:Quiet T Bb
 box:w0.cell? ⟨Bb,0,none⟩=some (.pointer (some ⟨D.bn,0,none⟩))
 qO:Quiet T Ob
 order:w0.cell? ⟨D.Lb,D.Lo+1,none⟩=some (.slice (some ⟨Ob,0,none⟩) D.n D.n)
 Kv:∀k,k<D.n->w0.cell? ⟨Ob,k,none⟩=some (.int .i64 (ord k))
 vv:∀s B vs,s<D.n->old s=some (B,vs)->vt w0 B 0 vs/\Quiet T B/\vs.length<=100000
 idle:∀k w,k<T.n->T.Idle k w->ye D (ord k) (old (ord k)) w
section
variable {T:cP} {o:aM} {w w0 w1:ae} {D:mf} {ord:Nat->Nat} {res:Nat->Kz.V} {old:Nat->Option (Nat×List Kz.V)} {Bb Ob:Nat}
theorem dc.less{o':aM}(h:dc T o w w1)(ho:∀b,o' b->o b):dc T o' w w1:=⟨h.size,fun b hb=>h.own b (ho b hb),h.ro,h.wg,h.os,h.output⟩
theorem Quiet.JQ{b:Nat}(q:Quiet T b)(r:dc T o w w1):w1.heap[b]?=w.heap[b]?:=r.ro b q.old q.wg q.sh q.ch
theorem Quiet.cellS{b off:Nat}(q:Quiet T b)(r:dc T o w w1):w1.cell? ⟨b,off,none⟩=w.cell? ⟨b,off,none⟩:=cell_of (q.JQ r)
theorem tN{b off:Nat}{sy:Bool}(q:Quiet T b):EvS T o ⟨.cell ⟨b,off,none⟩,false,sy⟩:=by
 refine⟨fun x hx _=>.inr (.inr ⟨?_,?_⟩),an,an,an⟩;all_goals
  simp only[MemAct.ofEvent,MemAct.touch?,en] at hx;subst hx
 ·exact q.ro off
 ·rfl
variable [Payload]
theorem Setup.child(h:Setup D T ord res old Bb Ob w0){j C:Nat}(hj:j<T.n)(hr:dc T (fun _=>False) w0 w1)(wT:WgLive T.ty T.Wg w1)(hC:w1.cell? ⟨C,0,none⟩=some (.int .i64 (ord j)))(Ze:T.H0<=C/\C<w1.heap.size)(hid:T.Idle j w1)(hH:T.H0<=w1.heap.size):
  gj ar T j (Vd D ord res) (CR ar T (wS D ord old res) j) ⟨born ar (D8 T.Wg Bb C),fun b=>b=C,fun _=>False,w1⟩:=by
 obtain⟨h1,h2,h3,h4⟩:=h.idle j w1 hj hid;have hq:∀b,Quiet T b->w1.heap[b]?=w0.heap[b]?:=fun b q=>q.JQ hr;refine QM (o:=fun b=>b=C) (rc:=fun _=>False) ⟨h.ok,hj,h.jF⟩ h.n h.ty h.q1 h.dk res old (h.DI.HH h.dk hq) (fun q EN=>by rw[h.q1.cellS hr];exact h.pow q EN) (h.made j hj) (h.eD j hj) (h.size j hj) ?_ h2 h3 h4 ⟨fun b hb=>by rw[hb];exact Ze,hH⟩ Bb C h.qB (by rw[h.qB.cellS hr];exact h.box) (fun _=>cG) hC wT;cases ho:old (ord j) with
 |none=>rw[ho] at h1;exact h1
 |some x =>
  obtain⟨B,vs⟩:=x;rw[ho] at h1;obtain⟨k1,k2,k3⟩:=h.vv _ B vs (h.dk.pI j hj) ho;exact⟨h1,fun q EN=>by rw[k2.cellS hr,k2.cellS hr];exact k1 q EN,k2,k3⟩
theorem HR(h:Setup D T ord res old Bb Ob w0){cx:dV}{r0 r1 r2 lp tl:Code}(fo:Tryz.f74.body=some (.seq r0 (.seq r1 (.seq (.seq r2 (.block 0 (.loop lp))) tl))))(b:Frame)(k:List Item)(cs:List Frame)(pZ:b.fn=74)(qh:b.kind≠.early)(QK:∀o w (tm:Array Value),dc T (fun _=>False) w0 w->WgLive T.ty T.Wg w->(∀b,o b->T.H0<=b/\b<w.heap.size)->tm.size=21->tm[2]?=some (.pointer (some ⟨T.Wg,0,none⟩))->cM ar T (OY ar T cx) o (G (b.at ⟨tm,[]⟩ (.code tl::k)) cs) w):
  ∀r j,r+j=T.n->∀o w (tm:Array Value),dc T (fun _=>False) w0 w->WgLive T.ty T.Wg w->(∀b,o b->T.H0<=b/\b<w.heap.size)->T.H0<=w.heap.size->tm.size=21 ->
   tm[1]?=some (.pointer (some ⟨Bb,0,none⟩))->tm[2]?=some (.pointer (some ⟨T.Wg,0,none⟩))->tm[11]?=some (.slice (some ⟨Ob,0,none⟩) D.n D.n)->tm[12]?=some (.int .i64 D.n)->tm[13]?=some (.int .i64 j) ->
   iC ar T (Vd D ord res) (wS D ord old res) cx r o (G (b.at ⟨tm,[]⟩ (.code lp :: .inLoop lp :: .inBlock 0 :: .code tl::k)) cs) w:=by
 have TY:=fo;simp only[Tryz.f74,en,Code.seq.injEq,Code.block.injEq,Code.loop.injEq,true_and] at TY;obtain⟨-,-,⟨-,TY⟩,-⟩:=TY;have E6:=h.dk.gT;intro r
 induction r with
 |zero =>
  intro j hj o w tm hr wT ho hH ft t1 t2 t11 t12 t13;have sf:¬((j:Int)<(D.n:Int)):=by have:=h.n;omega
  simp only[iC];have W:=mH (P:=ar) (T:=T) (Stop:=OY ar T cx);rw[<- TY];obtain⟨gs,rfl⟩:=fA ft;simp only[List.range,List.range.loop,bU,oe] at *;simp only[List.getElem?_toArray,List.getElem?_cons_succ,List.getElem?_cons_zero,en] at t1 t2 t11 t12 t13;simp only[t1,t2,t11,t12,t13];refine W.go rfl (fun _=>ax) ?_;refine W.go rfl (fun _=>aV) ?_;refine dp ?_;refine gA ?_;refine W.go rfl (fun _=>ak) ?_;refine W.go rfl (fun _=>ax) ?_;refine W.go rfl (fun _=>dI (t:=false) (by simp[Act.eval,sf])) ?_;simp only[fl,if_false];refine W.go rfl (fun _=>stepG_exit rfl) ?_;exact QK o w _ hr wT ho rfl rfl
 |succ r ih =>
  intro j hj o w tm hr wT ho hH ft t1 t2 t11 t12 t13;have hjT:j<T.n:=aa;have hjD:j<D.n:=by have:=h.n;omega
  have hjI:(j:Int)<(D.n:Int):=aa;have TZ:T.n-(r+1)=j:=aa;have pO:IntKind.wrap .i64 ((j:Int)+1)=(j:Int)+1:=by rw[IntKind.wrap_i64];omega
  simp only[iC,TZ];have W:=mH (P:=ar) (T:=T) (Stop:=JS ar T (Vd D ord res) (wS D ord old res) j (iC ar T (Vd D ord res) (wS D ord old res) cx r));have alx:=TY;obtain⟨gs,rfl⟩:=fA ft;simp only[List.range,List.range.loop,bU,oe] at *;simp only[List.getElem?_toArray,List.getElem?_cons_succ,List.getElem?_cons_zero,en] at t1 t2 t11 t12 t13;simp only[t1,t2,t11,t12,t13];rw[show(Item.code lp)=Item.code _ from congrArg Item.code TY.symm];refine W.go rfl (fun _=>ax) ?_;refine W.go rfl (fun _=>aV) ?_;refine dp ?_;refine gA ?_;refine W.go rfl (fun _=>ak) ?_;refine W.go rfl (fun _=>ax) ?_;refine W.go rfl (fun _=>dI (t:=true) (by simp[Act.eval,hjI])) ?_;simp only[if_true];refine W.go rfl (fun _=>bY) ?_;refine W.go rfl (fun _=>ax) ?_;refine W.go rfl (fun _=>eB) ?_;refine W.go rfl (fun _=>ax) ?_;refine W.go rfl (fun _=>aV) ?_;refine dp ?_;refine gA ?_;have Je:∀w3,dc T o w w3->w3.cell? ⟨Ob,j,none⟩=some (.int .i64 (ord j)):=fun w3 C2=>by rw[h.qO.cellS C2,h.qO.cellS hr];exact h.Kv j hjD
  (refine still_at W Je rfl ai qh (fun w9 hc=>⟨.refl _ _,fun e he=>?_⟩) fun w9 hc K hK=>?_;(focus (rw[bS];have he:=mem_listed he;simp[go_sem, *] at he;subst he;exact tN h.qO));go_simp;refine hK _ ?_;clear hK K;clear hc w9;try walk_nrm)
  clear Je;refine Kb rfl ai qh rfl (Obj.cells #[.int .i64 0] 3) (fun w1=>fa) (fun w1=>fa) fun w1 kR=>?_;walk_nrm;have afd:=hr.trans (dc.less kR (o':=fun _=>False) (fun _ x=>x.elim));have VM:T.H0<=w1.heap.size:=aR hH kR.size;have kZ:∀w2:ae,w2.heap[w1.heap.size]?=(w1.alloc (Obj.cells #[.int .i64 0] 3)).heap[w1.heap.size]?->w2.cell? ⟨w1.heap.size,0,none⟩=some (.int .i64 0)/\w2.frozen? ⟨w1.heap.size,0,none⟩=false:=fun w2 e=>by
   have:(w1.alloc (Obj.cells #[.int .i64 0] 3)).heap[w1.heap.size]?=some (Obj.cells #[.int .i64 0] 3):=by show(w1.heap.push _)[w1.heap.size]?=_;simp
   rw[this] at e;simp[World.cell?,World.frozen?,e]
  refine Kc w1.heap.size (.inr rfl) rfl ai qh rfl (f:=fun w2=>w2.setCell ⟨w1.heap.size,0,none⟩ (.int .i64 (ord j))) (fun w2=>gx.set _ _ _ _) (fun w2 e=>?_) (fun w2 e ev he=>?_) fun w2 Kp=>?_
  ·obtain⟨c0,f0⟩:=kZ w2 e;simp[go_sem,c0,f0]
  ·obtain⟨c0,f0⟩:=kZ w2 e;simp[go_sem,c0,f0] at he;subst he;exact⟨_,_,_,rfl,rfl⟩
  walk_nrm;generalize hC:w1.heap.size=C at *;have Ze:T.H0<=C:=VM;have hC2:(w2.setCell ⟨C,0,none⟩ (.int .i64 (ord j))).cell? ⟨C,0,none⟩=some (.int .i64 (ord j)):=World.cell?_setCell_same _ _ _ (kZ w2 (Kp.own C (.inr rfl))).1;have C2:dc T (fun b=>b≠C/\o b) w (w2.setCell ⟨C,0,none⟩ (.int .i64 (ord j))):=by
   have hO:=gx.set w2 C 0 (.int .i64 (ord j));have hA:dc T (fun b=>b≠C/\o b) w1 (w1.alloc (Obj.cells #[.int .i64 0] 3)):=⟨an,fun b hb=>RowKit.Below.heap_alloc w1 _ b (by have:=(ho b hb.2).2;have:=kR.size;omega),fun b h1 _ _ _=>RowKit.Below.heap_alloc w1 _ b aa,fQ (RowKit.Below.heap_alloc w1 _ _ (by have:=h.ok.wg;omega)),rfl,rfl⟩;refine((dc.less kR fun b hb=>hb.2).trans hA).trans ((dc.less Kp fun b hb=>.inl hb.2).trans ⟨bq hO.size.symm,fun b hb=>hO.heap b hb.1,fun b h1 _ _ _=>hO.heap b aa,fQ (hO.heap _ (by have:=h.ok.wg;omega)),rfl,rfl⟩)
  have XR:C<(w2.setCell ⟨C,0,none⟩ (.int .i64 (ord j))).heap.size:=by
   have:=Kp.size;simp[World.setCell] at this |-;omega
  generalize w2.setCell ⟨C,0,none⟩ (.int .i64 (ord j))=w3 at *;clear kZ Kp w2 afd kR VM hC w1;have aa0:=hr.trans (dc.less C2 (o':=fun _=>False) (fun _ x=>x.elim));have Kw:=C2.wg wT;have hH3:=aR hH C2.size;have ho3:∀b,(o b\/b=C)->T.H0<=b/\b<w3.heap.size:=by
   rintro b (hb|rfl)
   ·have:=ho b hb;have:=C2.size;omega
   ·exact⟨Ze,XR⟩
  refine W.go rfl (fun _=>ak) ?_;refine W.go rfl (fun _=>ax) ?_;refine W.go rfl (fun _=>aV) ?_;refine dp ?_;refine W.go rfl (fun w1=>pj rfl ai qh rfl yZ.f_add (nm_add link) rfl w1) ?_;rw[ij yZ.f_add rfl];simp only[List.map_toArray,bU,oe,Act.eval];walk_nrmf addFn;have hA:=@aeQ _ link ar T (Vd D ord res) (wS D ord old res) (iC ar T (Vd D ord res) (wS D ord old res) cx r) (fun b=>o b\/b=C) j w3;simp only[body_add,addFn,y7] at hA;refine hA yZ h.ok (fun b hb=>(ho3 b hb).1) (fun w4 hr4=>?_) w3 ⟨dc.refl w3,Kw⟩;clear hA;have W2:=mH (P:=ar) (T:=T) (Stop:=SGo ar T (Vd D ord res) (wS D ord old res) j (iC ar T (Vd D ord res) (wS D ord old res) cx r));simp only[List.getElem?_toArray,List.getElem?_cons_succ,List.getElem?_cons_zero,Option.bind_some];walk_nrm;refine W2.go rfl (fun _=>ak) ?_;refine W2.go rfl (fun _=>aV) ?_;refine dp ?_;refine gA ?_;refine cM.stop fun w5 SP=>⟨rfl,_,born ar (D8 T.Wg Bb C),fun b=>b=C,Qo rfl ai qh (by simp[go_sem,D8]) fa rfl rfl,fun b hb=>.inr hb,fun w6 NJ hid=>?_,?_⟩
  ·have e6:w6.heap[C]?=w3.heap[C]?:=by rw[NJ.own C (.inr rfl),SP.own C (.inr rfl),hr4.own C (.inr rfl)]
   have XS:=(hr4.trans SP).trans NJ;have aly:=XS.size;exact h.child hjT (aa0.trans (dc.less XS (o':=fun _=>False) (fun _ x=>x.elim))) (XS.wg Kw) (by rw[cell_of e6];exact hC2) ⟨Ze,aa⟩ hid aa
  have XT:=hr4.trans SP;have alz:=XT.size;obtain⟨Stop,HT⟩:∃Stop:dV,∀o g w,cM ar T Stop o g w↔iC ar T (Vd D ord res) (wS D ord old res) cx r o g w:=by
   cases r
   ·exact⟨_,fun _ _ _=>cG⟩
   ·exact⟨_,fun _ _ _=>cG⟩
  rw[<- HT];have W3:=mH (P:=ar) (T:=T) (Stop:=Stop);walk_nrm;refine W3.go rfl (fun _=>ak) ?_;refine W3.go rfl (fun _=>fR) ?_;refine W3.go rfl (fun _=>aV) ?_;refine dp ?_;refine gA ?_;refine W3.go rfl (fun _=>ak) ?_;refine W3.go rfl (fun _=>ig) ?_;rw[HT];exact ih (j+1) aa _ w5 _ (aa0.trans (dc.less XT (o':=fun _=>False) (fun _ x=>x.elim))) (XT.wg Kw) (fun b hb=>by have:=ho3 b hb.1;omega) aa rfl rfl rfl rfl rfl (by simp[pO])
end
end
end Go.Proofs.Kz
