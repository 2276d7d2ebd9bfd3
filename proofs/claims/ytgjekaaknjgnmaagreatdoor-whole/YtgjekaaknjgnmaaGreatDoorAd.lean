import Derived.Test.YtgjekaaknjgnmaaGreatDoorAc
import Derived.Below
import Derived.Conc.AppendEvents3
import Derived.Conc.AppendWalk
import Derived.Conc.EventLaws2
import Derived.Conc.SmallLaws
import Derived.Deep.Light
import Derived.Deep.LoopGhost
import Derived.Ground.Names2Prog
import Derived.Ground.NamesProg
import Derived.Ground.SlgnProg
import Derived.Ground.SlsfProg
import Derived.Laws.BytesString
import Derived.Laws.IdiomStrings
import Derived.Laws.Pointers
import Derived.Laws.Slices
import Derived.Laws.StructEq
import Derived.Lib.ItoaLen
import Derived.Lib.OwnBridge
import Derived.Lib.Walk
import Derived.RowKit3
import Derived.Shelf.Lay
import Derived.Shelf.LaysM
import Derived.Shelf.SlGeneric
import Derived.Shelf.SlSortCmp.SmallK
import Derived.Shelf.Slices.Cells
import Derived.Shelf.Slices.Clone
import Derived.Shelf.Slices.CompactS
import Derived.Shelf.Slices.In.SortNone
import Derived.Shelf.Slices.MinMaxS
import Derived.Shelf.Slices.Turned
import Derived.Shelf.SlicesE.Reverse
import Derived.Shelf.Small.Bits
import Derived.Shelf.Small.Strs
import Derived.Shelf.Sort.Plain
import Derived.Shelf.Spec.SearchS
import Derived.Shelf.Strconv.Itoa0
import Derived.Shelf.Strconv.Itoa1
import Derived.Shelf.Strconv.Itoa2
import Derived.Shelf.Strconv.Itoa3
import Derived.Shelf.Strings.Builder1
import Derived.Shelf.Strings.Builder2
import Derived.Shelf.Strings.OnBuilder
import Derived.StillTactics
import Derived.Test.YtgjekaaknjgnmaaGreatDoorChecked
import Derived.Test.YtgjekaaknjgnmaaGreatDoorProg
import Derived.WalkKit
import Derived.WalkSpells
set_option linter.all false
set_option maxHeartbeats 40000000
set_option maxRecDepth 200000
namespace Go.Ren
open Go.Conc Go.ConcN
def Bt(ops:Array Oper):Bool :=
 (List.range ops.size).all (fun i=>match ops[i]? with
  |none=>false
  |some op=>op.after.all (fun e=>!Region.binds .any e||decide (e.on<i))&&(match op.op with|.select ..=>false|_=>true) &&
    (List.range ops.size).all (fun j=>j==i||match gG ops j with
     |none=>true
     |some d=>gG ops i != some d&&(!(op.looksAt ops).contains d||op.after.any (fun e=>Region.binds .any e&&e.on==j))))
structure yn(ops:Array Oper):Prop where
 low:∀(i:Nat) (op:Oper),ops[i]?=some op->∀e∈op.after,Region.binds .any e=true->e.on<i
 dst:∀i j d,i≠j->gG ops i=some d->gG ops j≠some d
 sel:∀(i:Nat) (op:Oper),ops[i]?=some op->∀cs b,op.op≠.select cs b
 look:∀(i:Nat) (op:Oper),ops[i]?=some op->∀j d,j≠i->gG ops j=some d->d∈op.looksAt ops->∃e∈op.after,Region.binds .any e=true/\e.on=j
section
variable {ops:Array Oper}
theorem GJ(h:Bt ops=true):yn ops:=by
 simp only[Bt,List.all_eq_true,List.mem_range] at h;have lt:∀(i:Nat) (op:Oper),ops[i]?=some op->i<ops.size:=fun i op ho=>(Array.getElem?_eq_some_iff.1 ho).1;have all:∀(i:Nat) (op:Oper),ops[i]?=some op->(op.after.all (fun e=>!Region.binds .any e||decide (e.on<i))=true/\(match op.op with|.select ..=>false|_=>true)=true) /\
   ∀j,j<ops.size->(j=i\/(match gG ops j with|none=>true|some d=>gG ops i != some d&&(!(op.looksAt ops).contains d||op.after.any (fun e=>Region.binds .any e&&e.on==j)))=true):=by
  intro i op ho;have:=h i (lt i op ho);simp only[ho,bc,List.all_eq_true,List.mem_range,Bool.or_eq_true,beq_iff_eq] at this;exact this
 have GK:∀{j d},gG ops j=some d->∃op,ops[j]?=some op:=fun {j d} hj=>by
  cases ho:ops[j]? with
  |none=>simp[gG,ho] at hj
  |some op=>exact⟨op,rfl⟩
 refine⟨fun i op ho e he hb=>?_,fun i j d Fi hi hj=>?_,fun i op ho cs b e=>?_,fun i op ho j d Bn hj hl=>?_⟩
 ·have:=(all i op ho).1.1;rw[jE] at this;have:=this e he;simpa[hb] using this
 ·obtain⟨op,ho⟩:=GK hi;obtain⟨IW,pK⟩:=GK hj;rcases(all i op ho).2 j (lt j IW pK) with e|e
  ·exact Fi e.symm
  ·rw[hj] at e;simp only[bc,bne_iff_ne] at e;exact e.1 hi
 ·have:=(all i op ho).1.2;rw[e] at this;cases this
 ·obtain⟨IW,pK⟩:=GK hj;rcases(all i op ho).2 j (lt j IW pK) with e|e
  ·exact absurd e Bn
  ·rw[hj] at e;simp only[bc,Bool.or_eq_true,eD,List.contains_eq_mem,decide_eq_false_iff_not] at e;rcases e.2 with e|e
   ·exact absurd hl e
   ·simp only[Array.any_eq_true,bc,beq_iff_eq] at e;obtain⟨q,hq,hb,he⟩:=e;exact⟨_,jT hq,hb,he⟩
variable {v:Nat->Value} {a:Act}
theorem yo(H:yn ops){i:Nat}{op:Oper}(ho:ops[i]?=some op){done:List Nat}(vk:done.Nodup)(hi:i∉done)(yg:∀e∈op.after,Region.binds .any e=true->e.on∈done):
  ∀x,(∀d,x=.tmp d->d∈op.looksAt ops)->(cH ops v a done).eval x=(cH ops v a (List.range i)).eval x:=by
 intro x hx;let p:Nat->Bool:=fun j=>op.after.any fun e=>Region.binds .any e&&e.on==j;have drop:∀l:List Nat,i∉l->(cH ops v a l).eval x=(cH ops v a (l.filter p)).eval x:=by
  intro l Ye;have hp:=(il p l).symm;rw[kp H.dst hp,iN];refine py _ _ fun k hk d hd hl=>?_;obtain⟨LV,UZ⟩:=List.mem_filter.1 hk;obtain⟨e,he,hb,rfl⟩:=H.look i op ho k d (fun e=>Ye (e▸LV)) hd (hx d hl);simp only[p,eD] at UZ;have:(op.after.any fun e'=>Region.binds .any e'&&e'.on==e.on)=true:=by
   rw[gW];exact⟨e,he,by simp[hb]⟩
  rw[this] at UZ;cases UZ
 rw[drop done hi,drop (List.range i) aj];have Fl:(done.filter p).Perm ((List.range i).filter p):=by
  refine(du (vk.filter _) (List.nodup_range.filter _)).2 fun j=>?_;simp only[List.mem_filter,List.mem_range];constructor
  ·rintro⟨h1,h2⟩;refine⟨?_,h2⟩;simp only[p,Array.any_eq_true',bc,beq_iff_eq] at h2;obtain⟨e,he,hb,rfl⟩:=h2;exact H.low i op ho e he hb
  ·rintro⟨h1,h2⟩;refine⟨?_,h2⟩;simp only[p,Array.any_eq_true',bc,beq_iff_eq] at h2;obtain⟨e,he,hb,rfl⟩:=h2;exact yg e he hb
 rw[kp H.dst Fl]
theorem Me(H:yn ops){i:Nat}{op:Oper}(ho:ops[i]?=some op){done:List Nat}(vk:done.Nodup)(hi:i∉done)(yg:∀e∈op.after,Region.binds .any e=true->e.on∈done):
  Region.wanted op (yielded ops (cH ops v a done).tmps)=Region.wanted op (yielded ops (cH ops v a (List.range i)).tmps):=by
 cases hg:op.guard with
 |none=>rw[pP hg,pP hg]
 |some q =>
  obtain⟨g,want⟩:=q;have:yielded ops (cH ops v a done).tmps g=yielded ops (cH ops v a (List.range i)).tmps g:=by
   unfold yielded;cases hd:(ops[g]?).bind (·.dst) with
   |none=>rfl
   |some d =>
    have hl:d∈op.looksAt ops:=by simp[Oper.looksAt,hg,hd]
    have he:=yo (v:=v) (a:=a) H ho vk hi yg (.tmp d) (fun d' e=>by cases e;exact hl);have hs:(cH ops v a done).tmps.size=(cH ops v a (List.range i)).tmps.size:=by rw[Ay,Ay]
    have:(cH ops v a done).tmps[d]?=(cH ops v a (List.range i)).tmps[d]?:=by
     simp only[Act.eval,bT] at he;by_cases h1:d<(cH ops v a done).tmps.size
     ·rw[aO h1,aO (hs▸h1)] at he |-;exact congrArg some he
     ·rw[cI (di h1),cI (di (hs▸h1))]
    simp only[Option.bind_some,this]
  simp only[Region.wanted,hg,this]
end
abbrev Kd:=Option (Option Value)
def oq(P:Program)(op:Oper)(a:Act):Value:=match (execOp a.eval op).run P (default:ae) with
 | .ok (.value y) _=>y
 |_=>undef
def CM(P:Program)(kd:Kd)(op:Option Oper)(a:Act)(x:Value):Value:=match kd with
 |some none=>match op with|some op=>oq P op a|none=>undef
 |some (some y)=>y
 |none=>x
def Kd.at(kds:List Kd)(j:Nat):Kd:=kds.getD j none
def vP(P:Program)(ops:Array Oper)(kds:List Kd)(v:Nat->Value)(a:Act):Nat->Act
 |0=>a
 |j+1=>(vP P ops kds v a j).put (gG ops j) (CM P (Kd.at kds j) ops[j]? (vP P ops kds v a j) (v j))
def U0(P:Program)(ops:Array Oper)(kds:List Kd)(v:Nat->Value)(a:Act)(j:Nat):Value:=CM P (Kd.at kds j) ops[j]? (vP P ops kds v a j) (v j)
section
variable {P:Program} {ops:Array Oper} {kds:List Kd} {v v':Nat->Value} {a:Act}
theorem qt:∀j,vP P ops kds v a j=cH ops (U0 P ops kds v a) a (List.range j):=by
 intro j
 induction j with
 |zero=>rfl
 |succ j ih =>
  rw[List.range_succ,iN,<- ih];rfl
theorem Ft(H:yn ops){u:Nat->Value}{i:Nat}{op:Oper}(ho:ops[i]?=some op){l:List Nat}(Ye:i∉l){x:Operand}(hx:∀d,x=.tmp d->d∈op.looksAt ops):(cH ops u a l).eval x=(cH ops u a (l.filter fun j=>op.after.any fun e=>Region.binds .any e&&e.on==j)).eval x:=by
 have hp:=(il (fun j=>op.after.any fun e=>Region.binds .any e&&e.on==j) l).symm;rw[kp H.dst hp,iN];refine py _ _ fun k hk d hd hl=>?_;obtain⟨LV,UZ⟩:=List.mem_filter.1 hk;obtain⟨e,he,hb,rfl⟩:=H.look i op ho k d (fun e=>Ye (e▸LV)) hd (hx d hl);have:(op.after.any fun e'=>Region.binds .any e'&&e'.on==e.on)=true:=by
  rw[gW];exact⟨e,he,by simp[hb]⟩
 rw[this] at UZ;cases UZ
theorem Mf(H:yn ops){done:List Nat}(fB:∀j∈done,∀op,ops[j]?=some op->∀e∈op.after,Region.binds .any e=true->e.on∈done)(hv:∀j∈done,v j=v' j):∀j∈done,U0 P ops kds v a j=U0 P ops kds v' a j:=by
 intro j
 induction j using Nat.strongRecOn with
 |ind j ih =>
  intro hj;unfold U0;rcases hk:Kd.at kds j with _|_|y
  ·exact hv j hj
  ·cases ho:ops[j]? with
   |none=>rfl
   |some op =>
    simp only[CM];unfold oq;rw[execOp_congr op (H.sel j op ho) (ρ:=(vP P ops kds v a j).eval) (ρ':=(vP P ops kds v' a j).eval)];intro x hx;rw[qt,qt,Ft H ho aj (fun d hd=>by subst hd;exact oM hx),Ft H ho aj (fun d hd=>by subst hd;exact oM hx) (u:=U0 P ops kds v' a)];rw[sQ];intro k hk;obtain⟨h1,h2⟩:=List.mem_filter.1 hk;rw[gW] at h2;obtain⟨e,he,hb⟩:=h2;simp only[bc,beq_iff_eq] at hb;obtain⟨hb,rfl⟩:=hb;exact ih _ (List.mem_range.1 h1) (fB j hj op ho e he hb)
  ·rfl
end
def dL(P:Program)(ok:Oper->Nat->Kd->Act->Prop)(ops:Array Oper)(K:Act->Prop)(v:Nat->Value):List Nat->List Kd->Act->Prop
 | [],[],a=>K a
 |j::l,x::xs,a=>(∃op,ops[j]?=some op/\ok op j x a)/\dL P ok ops K v l xs (a.put (gG ops j) (CM P x ops[j]? a (v j)))
 |_,_,_=>False
theorem gn{P:Program}{ok:Oper->Nat->Kd->Act->Prop}{ops:Array Oper}{K:Act->Prop}{v:Nat->Value}{j:Nat}{l:List Nat}{x:Kd}{xs:List Kd}{a:Act}{op:Oper}{d:Option Tmp}(ho:ops[j]?=some op)(hd:op.dst=d)(jj:ok op j x a){y:Value}(hy:CM P x (some op) a (v j)=y)(h:dL P ok ops K v l xs (a.put d y)):dL P ok ops K v (j::l) (x::xs) a :=
 ⟨⟨op,ho,jj⟩,by subst hd hy;simpa[gG,ho] using h⟩
theorem cD{P:Program}{ok:Oper->Nat->Kd->Act->Prop}{ops:Array Oper}{K:Act->Prop}{v:Nat->Value}{a:Act}(h:K a):dL P ok ops K v [] [] a:=h
theorem dL.all{P:Program}{ok:Oper->Nat->Kd->Act->Prop}{ops:Array Oper}{K:Act->Prop}{kds:List Kd}{v:Nat->Value}{a:Act}:∀{m k:Nat} {xs:List Kd},dL P ok ops K v (List.range' k m) xs (vP P ops kds v a k)->(∀j,j<m->Kd.at kds (k+j)=xs.getD j none) ->
  (∀j op,k<=j->j<k+m->ops[j]?=some op->ok op j (Kd.at kds j) (vP P ops kds v a j))/\K (vP P ops kds v a (k+m)):=by
 intro m
 induction m with
 |zero =>
  intro k xs h hg;cases xs with
  |nil=>exact⟨fun j op h1 h2=>aa,h⟩
  |cons x l=>exact h.elim
 |succ m ih =>
  intro k xs h hg;cases xs with
  |nil=>rw[iI] at h;exact h.elim
  |cons x l =>
   rw[iI] at h;obtain⟨⟨op,ho,jj⟩,hr⟩:=h;have hx:Kd.at kds k=x:=by have:=hg 0 aa;simpa using this
   have A2:(vP P ops kds v a k).put (gG ops k) (CM P x ops[k]? (vP P ops kds v a k) (v k))=vP P ops kds v a (k+1):=by rw[<- hx];rfl
   rw[A2] at hr;have:=ih (k:=k+1) (xs:=l) hr (fun j hj=>by have:=hg (j+1) aa;rw[show k+(j+1)=k+1+j by omega] at this;simpa using this);refine⟨fun j IW h1 h2 pK=>?_,by rw[show k+(m+1)=k+1+m by omega];exact this.2⟩;by_cases e:j=k
   ·subst e;rw[ho] at pK;cases pK;rw[hx];exact jj
   ·exact this.1 j IW aa aa pK
section
variable {P:Program} {m:Bool} {R:aN->ae->ae->Prop} {Gu:aN->ae->ae->Array Event->Prop} {X:aN->aY->ae->Prop} {fn:FuncId} {Q:Exit->Act->aN->ae->Prop} {a:Act} {o:aN} {w:ae}
theorem full_of{n:Nat}{l:List Nat}(h:l.Nodup)(hl:∀x∈l,x<n)(hn:n<=l.length):∀j,j<n->j∈l:=fun j hj=>a8 fun hm=>by
 have:=qp n (j::l) (List.nodup_cons.2 ⟨hm,h⟩) (fun x hx=>by rcases List.mem_cons.1 hx with rfl|hx;exact hj;exact hl x hx);simp at this;omega
theorem PR{n:Nat}{l:List Nat}(h:l.Nodup)(hl:∀x∈l,x<n)(hf:∀j,j<n->j∈l):l.Perm (List.range n) :=
 (du h iH).2 fun j=>⟨fun hj=>List.mem_range.2 (hl j hj),fun hj=>hf j (List.mem_range.1 hj)⟩
def fR(σ:Nat->Option Value)(j:Nat)(y:Value):Nat->Option Value:=fun i=>if i=j then some y else σ i
def yp(ops:Array Oper)(k j:Nat):Bool:=match ops[k]? with
 |some op=>op.after.any fun e=>Region.binds .any e&&e.on==j
 |none=>false
def zG(ops:Array Oper)(k:Nat):List Nat->Nat->Bool
 | [],j=>yp ops k j
 |i::l,j=>yp ops k i&&zG ops i l j
structure zH(ops:Array Oper)(kds:List Kd)(v:Nat->Value)(j:Nat)(σ:Nat->Option Value):Prop where
 fits:Fits v σ
 Ja:∀l i,zG ops j l i=true->Kd.at kds i=none->σ i=some (v i)
 qQ:∀l k,zG ops k l j=true->σ k=none
theorem zH.done{ops:Array Oper}{kds:List Kd}{v:Nat->Value}{j:Nat}{σ:Nat->Option Value}(h:zH ops kds v j σ)(i:Nat)(hi:yp ops j i=true):Kd.at kds i=none->σ i=some (v i):=h.Ja [] i hi
theorem zH.xz{ops:Array Oper}{kds:List Kd}{v:Nat->Value}{j:Nat}{σ:Nat->Option Value}(h:zH ops kds v j σ)(k:Nat)(hk:yp ops k j=true):σ k=none:=h.qQ [] k hk
theorem Fu{ops:Array Oper}{done:List Nat}(fB:∀j∈done,∀op,ops[j]?=some op->∀e∈op.after,Region.binds .any e=true->e.on∈done){k j:Nat}(hk:k∈done)(h:yp ops k j=true):j∈done:=by
 cases jj:ops[k]? with
 |none=>simp[yp,jj] at h
 |some opk =>
  simp only[yp,jj,Array.any_eq_true',bc,beq_iff_eq] at h;obtain⟨e,he,hb,rfl⟩:=h;exact fB k hk opk jj e he hb
theorem xd{ops:Array Oper}{done:List Nat}(fB:∀j∈done,∀op,ops[j]?=some op->∀e∈op.after,Region.binds .any e=true->e.on∈done):∀(l:List Nat) {k j:Nat},k∈done->zG ops k l j=true->j∈done
 | [],k,j,hk,h=>Fu fB hk h
 |i::l,k,j,hk,h=>by
  simp only[zG,bc] at h;exact xd fB l (Fu fB hk h.1) h.2
def Bu(P:Program)(X:aN->aY->ae->Prop)(fn:FuncId)(ops:Array Oper)(Q:Exit->Act->aN->ae->Prop)(S:(Nat->Option Value)->aN->ae->Prop)(kds:List Kd)(v:Nat->Value)(op:Oper)(j:Nat)(x:Kd)(a:Act):Prop :=
 ∀(A:Act) (rest:List Nat) (σ:Nat->Option Value) (o:aN) (w:ae),(∀y∈op.op.operands,A.eval y=a.eval y)->Region.wanted op (yielded ops A.tmps)=Region.wanted op (yielded ops a.tmps)->zH ops kds v j σ->(x=none->σ j=none)->S σ o w ->
  (∀y o' w',(match x with|some (some z)=>y=z/\S σ o' w' | some none=>y=oq P op a/\S σ o' w' | none=>S (fR σ j y) o' w')->fa X fn ops rest Q (A.put op.dst y) o' w')->fa X fn ops (j::rest) Q A o w
theorem PS(W:fM P m R Gu X)(wY:P.follows .mixedOrders=true){id:Nat}{ops:Array Oper}(jj:Bt ops=true)(kds:List Kd){S:(Nat->Option Value)->aN->ae->Prop}(hS:∀σ o w w1,S σ o w->R o w w1->S σ o w1)(ZD:∀σ o (w:ae),S σ o w->S σ o {w with drawn:=w.drawn+1})(ZE:∀w:ae,Gu o w {w with drawn:=w.drawn+1} #[])(h0:S (fun _=>none) o w)(wU:∀v,dL P (Bu P X fn ops Q S kds v) ops (fun a'=>∀σ o w,(∀j,j<ops.size->Kd.at kds j=none->σ j=some (v j))->S σ o w->fa X fn ops [] Q a' o w) v (List.range ops.size) kds a):wm X fn (.region id ops true) Q a o w:=by
 have H:=GJ jj;generalize hn:ops.size=n at wU;have iG:∀v,_:=fun v=>dL.all (kds:=kds) (v:=v) (k:=0) (m:=n) (a:=a) (by have:=wU v;rw[iT] at this;exact this) (fun j _=>by simp[Kd.at]);let T:List Nat->(Nat->Value)->aN->ae->Prop:=fun dn v o w=>∃σ,Fits v σ/\(∀j,σ j≠none->j∈dn)/\(∀j∈dn,Kd.at kds j=none->σ j=some (v j))/\S σ o w;have key:∀(fuel t:Nat) (ls:Array Bool) (done:List Nat) (v:Nat->Value) (o:aN) (w:ae),T done v o w->uz ops n ls done->fuel+done.length=n ->
   fa X fn ops (Region.linearise.go .any ops fuel t ls []) Q (cH ops (U0 P ops kds v a) a done) o w:=by
  intro fuel
  induction fuel with
  |zero =>
   intro t ls done v o w hw hL X9;have vk:=hL.nd;have cB:=hL.lt;simp only[Region.linearise.go,List.reverse_nil];have hp:done.Perm (List.range n):=PR vk cB (full_of vk cB aa);obtain⟨σ,hf,h1,h2,VQ⟩:=hw;rw[kp H.dst hp,<- qt];have:=(iG v).2;rw[bC] at this;exact this σ o w (fun j hj hk=>h2 j (hp.mem_iff.2 (List.mem_range.2 hj)) hk) VQ
  |succ fuel ih =>
   intro t ls done v o w hw hL X9;obtain⟨i,op,t',h1,h2,ho,h3,el,hL'⟩:=hL.step hn H.low aa fuel t;rw[el];have vk:=hL.nd;have fB:=hL.cl;obtain⟨σ,hf,K0,vh,VQ⟩:=hw;have eR:=(iG v).1 i op (aV _) aa ho;have hsi:σ i=none:=a8 fun h=>h2 (K0 i h);refine eR _ _ σ o w (fun y hy=>?_) ?_ ⟨hf,fun l k hk rW=>vh _ (by
     have dir:∀k,yp ops i k=true->k∈done:=fun k hk=>by
      simp only[yp,ho,Array.any_eq_true',bc,beq_iff_eq] at hk;obtain⟨e,he,hb,rfl⟩:=hk;exact h3 e he hb
     cases l with
     |nil=>exact dir k hk
     |cons i' l =>
      simp only[zG,bc] at hk;exact xd fB l (dir i' hk.1) hk.2) rW,fun l k hk=>a8 fun hsk=>h2 (xd fB l (K0 k hsk) hk)⟩ (fun _=>hsi) VQ (fun x o1 w1 xx=>?_)
   ·rw[qt];exact yo H ho vk h2 h3 y (fun d hd=>by subst hd;exact oM hy)
   ·rw[qt];exact Me H ho vk h2 h3
   ·
    have xy:∀j∈done,v j=(fun j=>if j=i then x else v j) j:=fun j hj=>(if_neg (fun(e:j=i)=>h2 (e▸hj))).symm;have eI:=Mf (P:=P) (kds:=kds) (a:=a) H fB xy;have hui:U0 P ops kds (fun j=>if j=i then x else v j) a i=x:=by
     have ha:Kd.at kds i=some none->oq P op (vP P ops kds (fun j=>if j=i then x else v j) a i)=oq P op (vP P ops kds v a i):=fun _=>by
      unfold oq;rw[execOp_congr op (H.sel i op ho) (ρ:=(vP P ops kds (fun j=>if j=i then x else v j) a i).eval) (ρ':=(vP P ops kds v a i).eval)];intro y hy;have hy':∀d,y=.tmp d->d∈op.looksAt ops:=fun d hd=>by subst hd;exact oM hy
      rw[qt,qt,<- yo H ho vk h2 h3 y hy',<- yo H ho vk h2 h3 y hy',sQ done fun j hj=>(eI j hj).symm]
     unfold U0;rcases hk:Kd.at kds i with _|_|z
     ·simp[CM]
     ·simp only[hk] at xx;simp only[CM,ho];rw[ha hk];exact xx.1.symm
     ·simp only[hk] at xx;simp only[CM];exact xx.1.symm
    have e2:(cH ops (U0 P ops kds v a) a done).put op.dst x=cH ops (U0 P ops kds (fun j=>if j=i then x else v j) a) a (done++[i]):=by
     rw[iN,sQ done fun j hj=>(eI j hj).symm];simp[cH,ho,hui]
    rw[e2];refine ih t' _ (done++[i]) _ o1 w1 ?_ hL' dX;have Yg:∀j y,j≠i->σ j=some y->(if j=i then x else v j)=y:=fun j y e hy=>by rw[if_neg e];exact hf j y hy
    have rest:Kd.at kds i≠none->S σ o1 w1->T (done++[i]) (fun j=>if j=i then x else v j) o1 w1:=fun hk xx=>by
     refine⟨σ,fun j y hy=>?_,fun j hj=>List.mem_append.2 (.inl (K0 j hj)),fun j hj R7=>?_,xx⟩
     ·exact Yg j y (fun e=>by rw[e,hsi] at hy;cases hy) hy
     ·have e:j≠i:=fun e=>hk (e▸R7);simp only[if_neg e];rcases List.mem_append.1 hj with hj|hj
      ·exact vh j hj R7
      ·simp at hj;exact absurd hj e
    rcases hk:Kd.at kds i with _|_|z
    ·simp only[hk] at xx;refine⟨fR σ i x,fun j y hy=>?_,fun j hj=>?_,fun j hj R7=>?_,xx⟩
     ·by_cases e:j=i
      ·subst e;simp only[fR,if_true] at hy;simp only[if_true];exact aR hy
      ·simp only[fR,if_neg e] at hy;exact Yg j y e hy
     ·by_cases e:j=i
      ·subst e;simp
      ·simp only[fR,if_neg e] at hj;exact List.mem_append.2 (.inl (K0 j hj))
     ·by_cases e:j=i
      ·subst e;simp[fR]
      ·simp only[fR,if_neg e];rcases List.mem_append.1 hj with hj|hj
       ·exact vh j hj R7
       ·simp at hj;exact absurd hj e
    ·simp only[hk] at xx;exact rest (by rw[hk];simp) xx.2
    ·simp only[hk] at xx;exact rest (by rw[hk];simp) xx.2
 intro b k cs hb hk hc;refine W.step o _ w rfl fun w1 rm=>⟨_,_,_,stepG_region_draw,ZE w1,?_⟩;rw[kM o ar];have Sr:∀t,Region.schedule (P.follows .mixedOrders) ops t=Region.linearise.go .any ops n t (Array.replicate n false) []:=by
  intro t;simp[Region.schedule,wY,Region.linearise,hn]
 rw[Sr];exact key n (w1.tape w1.drawn (.order b.fn id)) (Array.replicate n false) [] (fun _=>undef) o {w1 with drawn:=w1.drawn+1} ⟨fun _=>none,(fun(j:Nat) (y:Value) hy=>by cases hy),(fun j hj=>absurd rfl hj),(fun j hj=>by cases hj),ZD _ _ _ (hS _ o w w1 h0 rm)⟩ (uz.zero ops _) aj b k cs hb hk hc
end
section
variable {P:Program} {L:Nat->Bool} {Fin:bL} {d:Nat} {fn:FuncId} {Q:Exit->Act->aN->ae->Prop} {a:Act} {o:aN} {w:ae} {ops:Array Oper}
theorem Bv{l:List Nat}{A:Act}{n:Nat}(h:fa (XB P Fin d) fn ops l Q A o w):fa (XB P Fin d) fn ops l Q A o (w.at n):=fun b k cs hb hk hc=>bY.rely _ _ _ _ (h b k cs hb hk hc) ⟨n,rfl⟩
theorem dS(wY:P.follows .mixedOrders=true){id:Nat}(jj:Bt ops=true)(kds:List Kd){S:(Nat->Option Value)->aN->ae->Prop}(h0:S (fun _=>none) o w)(wU:∀v,dL P (Bu P (XB P Fin d) fn ops Q S kds v) ops (fun a'=>∀σ o w,(∀j,j<ops.size->Kd.at kds j=none->σ j=some (v j))->S σ o w->Q .normal a' o w) v (List.range ops.size) kds a):wm (XB P Fin d) fn (.region id ops true) Q a o w:=by
 refine PS (R:=fun _=>AtRel) (Gu:=GuO Fin) bY wY jj kds (S:=fun σ o w=>∃w0 n,w=w0.at n/\S σ o w0) (fun σ o w w1 h hr=>?_) (fun σ o w h=>?_) (fun w=>⟨aj,ag _,rfl,rfl⟩) ⟨w,w.drawn,rfl,h0⟩ fun v=>?_
 ·obtain⟨w0,n,rfl,h⟩:=h;obtain⟨k,rfl⟩:=hr;exact⟨w0,k,rfl,h⟩
 ·obtain⟨w0,n,rfl,h⟩:=h;exact⟨w0,_,rfl,h⟩
 ·have key:∀(l:List Nat) (xs:List Kd) (a:Act),dL P (Bu P (XB P Fin d) fn ops Q S kds v) ops (fun a'=>∀σ o w,(∀j,j<ops.size->Kd.at kds j=none->σ j=some (v j))->S σ o w->Q .normal a' o w) v l xs a ->
    dL P (Bu P (XB P Fin d) fn ops Q (fun σ o w=>∃w0 n,w=w0.at n/\S σ o w0) kds v) ops (fun a'=>∀σ o w,(∀j,j<ops.size->Kd.at kds j=none->σ j=some (v j))->(∃w0 n,w=w0.at n/\S σ o w0)->fa (XB P Fin d) fn ops [] Q a' o w) v l xs a:=by
   intro l
   induction l with
   |nil =>
    intro xs a h;cases xs with
    |nil =>
     intro σ o w hs hS;obtain⟨w0,n,rfl,hS⟩:=hS;exact Bv (x9 bY (h σ o w0 hs hS))
    |cons x xs=>exact h.elim
   |cons j l ih =>
    intro xs a h;cases xs with
    |nil=>exact h.elim
    |cons x xs =>
     obtain⟨⟨op,ho,hk⟩,hr⟩:=h;refine⟨⟨op,ho,fun A rest σ o w h1 h2 h3 h4 hS hc=>?_⟩,ih xs _ hr⟩;obtain⟨w0,n,rfl,hS⟩:=hS;refine Bv (hk A rest σ o w0 h1 h2 h3 h4 hS fun y o' w' hy=>hc y o' w' ?_);rcases x with _|_|z
     ·exact⟨w',w'.drawn,rfl,hy⟩
     ·exact⟨hy.1,w',w'.drawn,rfl,hy.2⟩
     ·exact⟨hy.1,w',w'.drawn,rfl,hy.2⟩
  exact key _ _ _ (wU v)
def CN:Op->Bool
 | .select ..=>false
 |_=>true
theorem si{op:Op}(h:CN op=true):∀cs b,op≠.select cs b:=fun cs b e=>by rw[e] at h;cases h
variable {S:(Nat->Option Value)->aN->ae->Prop} {kds:List Kd} {v:Nat->Value} {K:Act->Prop} {j:Nat} {l:List Nat} {xs:List Kd} {op:Oper} {dd:Option Tmp}
theorem rB(ho:ops[j]?=some op)(hd:op.dst=dd)(hn:CN op.op=true)(hw:Region.wanted op (yielded ops a.tmps)=true){y:Value}(cL:∀w1,(execOp a.eval op).run P w1=.ok (.value y) w1)(jl:∀w1,(execOp a.eval op).events P w1 #[]=#[])(h:dL P (Bu P (XB P Fin d) fn ops Q S kds v) ops K v l xs (a.put dd y)):dL P (Bu P (XB P Fin d) fn ops Q S kds v) ops K v (j::l) (some none::xs) a:=by
 refine gn ho hd (fun A rest σ o w h1 h2 h3 h4 hS hc=>?_) (y:=y) (by simp only[CM];unfold oq;rw[cL]) h;have hex:=execOp_congr op (si hn) h1;refine lH bY ho (h2.trans hw) fun w1 hr K hK=>?_;rw[hex,cL w1];simp only[uponK_value];refine hK _ _ ⟨?_,?_⟩
 ·have:listed P fn A op w1=#[]:=by unfold listed;rw[hex,jl w1];exact seen_none P _
  rw[this];exact⟨aj,ag _,rfl,rfl⟩
 ·rw[cd];obtain⟨n,rfl⟩:=hr;exact Bv (hc y o w ⟨by unfold oq;rw[cL],hS⟩)
theorem yq(C:Prop)(Y:Value)(ho:ops[j]?=some op)(hd:op.dst=dd)(hn:CN op.op=true)(hw:Region.wanted op (yielded ops a.tmps)=true)(hC:∀σ o w,zH ops kds v j σ->S σ o w->C)(cL:C->∀w1,(execOp a.eval op).run P w1=.ok (.value Y) w1)(jl:C->∀w1,(execOp a.eval op).events P w1 #[]=#[])(h:∀y,(C->y=Y)->dL P (Bu P (XB P Fin d) fn ops Q S kds v) ops K v l xs (a.put dd y)):dL P (Bu P (XB P Fin d) fn ops Q S kds v) ops K v (j::l) (some none::xs) a:=by
 refine gn ho hd (fun A rest σ o w h1 h2 h3 h4 hS hc=>?_) rfl (h _ fun c=>by simp only[CM];unfold oq;rw[cL c]);have c:=hC σ o w h3 hS;have hex:=execOp_congr op (si hn) h1;refine lH bY ho (h2.trans hw) fun w1 hr K hK=>?_;rw[hex,cL c w1];simp only[uponK_value];refine hK _ _ ⟨?_,?_⟩
 ·have:listed P fn A op w1=#[]:=by unfold listed;rw[hex,jl c w1];exact seen_none P _
  rw[this];exact⟨aj,ag _,rfl,rfl⟩
 ·rw[cd];obtain⟨n,rfl⟩:=hr;exact Bv (hc Y o w ⟨by unfold oq;rw[cL c],hS⟩)
theorem ZM(ho:ops[j]?=some op)(hd:op.dst=dd)(hw:Region.wanted op (yielded ops a.tmps)=false)(h:dL P (Bu P (XB P Fin d) fn ops Q S kds v) ops K v l xs (a.put dd undef)):dL P (Bu P (XB P Fin d) fn ops Q S kds v) ops K v (j::l) (some (some undef)::xs) a:=by
 refine gn ho hd (fun A rest σ o w h1 h2 h3 h4 hS hc=>?_) rfl h;exact jD bY ho (h2.trans hw) (hc undef o w ⟨rfl,hS⟩)
theorem cq(de:rS P L P.globals.size)(ho:ops[j]?=some op)(hd:op.dst=dd)(hn:CN op.op=true)(hw:Region.wanted op (yielded ops a.tmps)=true)(jj:tG L op.op=true){y:Value}(cL:∀σ o w,zH ops kds v j σ->S σ o w->bN P L o w/\(∀x∈op.op.operands,Cl P L o (a.eval x))/\∀wl,iF o w wl->(execOp a.eval op).run P wl=.ok (.value y) wl)(h:dL P (Bu P (XB P Fin d) fn ops Q S kds v) ops K v l xs (a.put dd y)):dL P (Bu P (XB P Fin d) fn ops Q S kds v) ops K v (j::l) (some (some y)::xs) a:=by
 refine gn ho hd (fun A rest σ o w h1 h2 h3 h4 hS hc=>?_) rfl h;obtain⟨hF,fB,hr⟩:=cL σ o w h3 hS;have hex:=execOp_congr op (si hn) h1;exact dD de hF ho (h2.trans hw) jj (fun x hx=>by rw[h1 x hx];exact fB x hx) rfl (fun wl aU=>by rw[hex];exact hr wl aU) fun _=>hc y o w ⟨rfl,hS⟩
theorem vm(ho:ops[j]?=some op)(hd:op.dst=dd)(hw:Region.wanted op (yielded ops a.tmps)=true){f:FuncId}{fc:Func}{c:Code}{args:Array Operand}{sI:Array TypeId}(eR:op.op=.call {callee:=.value (.func f),args,argTypes:=sI})(hf:P.funcs[f]?=some fc)(gU:(fc.name == "runtime.NumGoroutine")=false)(fK:fc.body=some c){av:Array Value}(has:args.map a.eval=av)(Fv:∀σ o w,zH ops kds v j σ->σ j=none->S σ o w->bA P (XB P Fin d) f av o w fun y o' w'=>S (fR σ j y) o' w')(h:dL P (Bu P (XB P Fin d) fn ops Q S kds v) ops K v l xs (a.put dd (v j))):dL P (Bu P (XB P Fin d) fn ops Q S kds v) ops K v (j::l) (none::xs) a:=by
 refine gn ho hd (fun A rest σ o w h1 h2 h3 h4 hS hc=>?_) rfl h;exact dC bY ho (h2.trans hw) eR hf gU fK ((pQ eR h1).trans has) rfl ((Fv σ o w h3 (h4 rfl) hS).mono fun y o' w' q=>hc y o' w' q)
theorem jU(ho:ops[j]?=some op)(hd:op.dst=dd)(hw:Region.wanted op (yielded ops a.tmps)=true){f:FuncId}{fc:Func}{c:Code}{args:Array Operand}{sI:Array TypeId}(eR:op.op=.call {callee:=.value (.func f),args,argTypes:=sI})(hf:P.funcs[f]?=some fc)(gU:(fc.name == "runtime.NumGoroutine")=false)(fK:fc.body=some c){av:Array Value}(has:args.map a.eval=av){y:Value}(Fv:∀σ o w,zH ops kds v j σ->S σ o w->bA P (XB P Fin d) f av o w fun y' o' w'=>y'=y/\S σ o' w')(h:dL P (Bu P (XB P Fin d) fn ops Q S kds v) ops K v l xs (a.put dd y)):dL P (Bu P (XB P Fin d) fn ops Q S kds v) ops K v (j::l) (some (some y)::xs) a:=by
 refine gn ho hd (fun A rest σ o w h1 h2 h3 h4 hS hc=>?_) rfl h;exact dC bY ho (h2.trans hw) eR hf gU fK ((pQ eR h1).trans has) rfl ((Fv σ o w h3 hS).mono fun y o' w' q=>hc y o' w' q)
theorem pS(de:rS P L P.globals.size)(ho:ops[j]?=some op)(hd:op.dst=dd)(hn:CN op.op=true)(hw:Region.wanted op (yielded ops a.tmps)=true)(jj:tG L op.op=true)(cL:∀σ o w,zH ops kds v j σ->σ j=none->S σ o w->bN P L o w/\(∀x∈op.op.operands,Cl P L o (a.eval x))/\∃R:ae->ae->Prop,(∀wl,iF o w wl->∃aW,(execOp a.eval op).run P wl=.ok .skip aW/\R wl aW)/\∀wl aW w',iF o w wl->R wl aW->lO P L o w w' aW undef->S (fR σ j undef) (grow o w w') w')(h:dL P (Bu P (XB P Fin d) fn ops Q S kds v) ops K v l xs (a.put dd (v j))):dL P (Bu P (XB P Fin d) fn ops Q S kds v) ops K v (j::l) (none::xs) a:=by
 refine gn ho hd (fun A rest σ o w h1 h2 h3 h4 hS hc=>?_) rfl h;obtain⟨hF,fB,R,hr,hb⟩:=cL σ o w h3 (h4 rfl) hS;have hex:=execOp_congr op (si hn) h1;exact dz de hF ho (h2.trans hw) jj (fun x hx=>by rw[h1 x hx];exact fB x hx) rfl (R:=R) (fun wl aU=>by rw[hex];exact hr wl aU) fun wl aW w' k1 k2 k3=>hc undef _ _ (hb wl aW w' k1 k2 k3)
theorem qu(de:rS P L P.globals.size)(ho:ops[j]?=some op)(hd:op.dst=dd)(hn:CN op.op=true)(hw:Region.wanted op (yielded ops a.tmps)=true)(jj:tG L op.op=true)(cL:∀σ o w,zH ops kds v j σ->σ j=none->S σ o w->bN P L o w/\(∀x∈op.op.operands,Cl P L o (a.eval x))/\∃R:ae->Value->ae->Prop,(∀wl,iF o w wl->∃y aW,(execOp a.eval op).run P wl=.ok (.value y) aW/\R wl y aW)/\∀wl y aW w',iF o w wl->R wl y aW->lO P L o w w' aW y->S (fR σ j y) (grow o w w') w')(h:dL P (Bu P (XB P Fin d) fn ops Q S kds v) ops K v l xs (a.put dd (v j))):dL P (Bu P (XB P Fin d) fn ops Q S kds v) ops K v (j::l) (none::xs) a:=by
 refine gn ho hd (fun A rest σ o w h1 h2 h3 h4 hS hc=>?_) rfl h;obtain⟨hF,fB,R,hr,hb⟩:=cL σ o w h3 (h4 rfl) hS;have hex:=execOp_congr op (si hn) h1;exact dv de hF ho (h2.trans hw) jj (fun x hx=>by rw[h1 x hx];exact fB x hx) rfl (R:=R) (fun wl aU=>by rw[hex];exact hr wl aU) fun wl y aW w' k1 k2 k3=>hc y _ _ (hb wl y aW w' k1 k2 k3)
end
structure xe(p:Prop):Prop where
 out:p
theorem ax{G G':Prop}(h:G')(f:xe G'->G:=by
  intro h9;try aE
  repeat (first|(refine Ct (by assumption) ?_;simp only[List.size_toArray,List.length_cons,List.length_nil,Nat.reduceAdd,Nat.zero_add,List.range,List.range.loop])|(refine rq (by assumption) rfl rfl ?_ ?_ ?_;(focus (rfl));(focus (intro w1;first|(simp[go_sem];done)|(simp[go_sem, *];done)));intro w1 K hK;go_simp;refine hK _ ?_;clear hK K w1;try aE)|(refine jD (by assumption) rfl (by rfl) ?_;try aE)|((first|refine x9 (by assumption) ?_|refine IL (by assumption) ?_|refine NO (by assumption) ?_|refine IM (by assumption) ?_);try simp only[iM,Ss,ye,dK,if_true,if_false,reduceIte,Nat.reduceEqDiff])|(refine pO (by assumption) ?_)|(refine Fc (by assumption) ?_)|(refine ig (by assumption) rfl ?_;simp only[if_true,if_false,reduceIte,aM]))
  exact h9.out):G:=f ⟨h⟩
theorem CO{G G':Prop}(h:G')(f:xe G'->G:=by
  intro h9;try aE
  repeat (first|(refine Ct (by assumption) ?_;simp only[List.size_toArray,List.length_cons,List.length_nil,Nat.reduceAdd,Nat.zero_add,List.range,List.range.loop])|(refine rq (by assumption) rfl rfl ?_ ?_ ?_;(focus (rfl));(focus (intro w1;first|(simp[go_sem];done)|(simp[go_sem, *];done)));intro w1 K hK;go_simp;refine hK _ ?_;clear hK K w1;try aE)|(refine jD (by assumption) rfl (by rfl) ?_;try aE)|((first|refine x9 (by assumption) ?_|refine IL (by assumption) ?_|refine NO (by assumption) ?_|refine IM (by assumption) ?_);try simp only[iM,dK,if_true,if_false,reduceIte,Nat.reduceEqDiff])|(refine Fc (by assumption) ?_)|(refine ig (by assumption) rfl ?_;simp only[if_true,if_false,reduceIte,aM]))
  exact h9.out):G:=f ⟨h⟩
theorem cE{G G':Prop}(h:G')(f:xe G'->G:=by
  intro h9;try aE
  repeat (refine rB (y:=?_) rfl rfl rfl (by rfl) (fun w1=>?_) (fun w1=>?_) ?_;rotate_left;(focus (first|(simp[go_sem,Act.eval];rfl)|(simp[go_sem,Act.eval, *];rfl)));(focus (first|(simp[go_sem,Act.eval];done)|(simp[go_sem,Act.eval, *];done)));try aE)
  exact h9.out):G:=f ⟨h⟩
theorem im{G G':Prop}(h:G')(f:xe G'->G:=by
  intro h9
  repeat (refine VU (by assumption) rfl rfl ?_ (by assumption) ?_ ?_;(focus (rfl));(focus (intro w1;first|(simp[go_sem];done)|(simp[go_sem, *];done)));intro w1 K hK;go_simp;refine hK _ ?_;clear hK K w1;try aE)
  exact h9.out):G:=f ⟨h⟩
theorem dR{G G':Prop}(h:G')(f:xe G'->G:=by
  intro h9;simp only[List.size_toArray,List.length_cons,List.length_nil,Nat.reduceAdd,Nat.zero_add,List.range,List.range.loop];exact h9.out):G:=f ⟨h⟩
theorem uB{G G':Prop}(h:G')(f:xe G'->G:=by
  intro h9;refine cM rfl rfl (kF fun o5 w5 nE=>⟨?_,?_⟩) ?_;(focus (first|(simp[go_sem];done)|(simp[go_sem, *];done)));(focus (first|(simp[go_sem];done)|(simp[go_sem, *];done)));try aE
  exact h9.out):G:=f ⟨h⟩
theorem SK{G G':Prop}(h:G')(f:xe G'->G:=by
  intro h9;refine cM rfl rfl (fun w5 nE=>⟨?_,?_⟩) ?_;(focus (first|(simp[go_sem];done)|(simp[go_sem, *];done)));(focus (first|(simp[go_sem];done)|(simp[go_sem, *];done)));try aE
  exact h9.out):G:=f ⟨h⟩
theorem ng{G T:Prop}(h:T)(f:T->G:=by
  intro h9 y hy;simp[Op.operands] at hy;subst hy;simp[Act.eval];exact h9):G:=f h
theorem ja{G T U:Prop}(h:T)(k:U)(f:T->U->G:=by
  intro h9 k9 y hy;simp[Op.operands] at hy;rcases hy with rfl|rfl
  ·simp[Act.eval];exact h9
  ·simp[Act.eval];exact k9):G:=f h k
section
variable {P:Program} {m:Bool} {R:aN->ae->ae->Prop} {Gu:aN->ae->ae->Array Event->Prop} {X:aN->aY->ae->Prop} {fn:FuncId} {Q:Exit->Act->aN->ae->Prop} {a:Act} {o:aN} {w:ae}
theorem cj{ops:Array Oper}{i:Nat}{rest:List Nat}{op:Oper}{f:FuncId}{fc:Func}{c:Code}{args:Array Operand}{sI:Array TypeId}{vs:Array Value}{d:Option Tmp}{Post:Value->aN->ae->Prop}(hf:P.funcs[f]?=some fc)(h:bA P X f vs o w Post)(k:∀v o' w',Post v o' w'->fa X fn ops rest Q (a.put d v) o' w')(W:fM P m R Gu X:=by assumption)(ho:ops[i]?=some op:=by rfl)(hw:Region.wanted op (yielded ops a.tmps)=true:=by rfl)(eR:op.op=.call {callee:=.value (.func f),args,argTypes:=sI}:=by rfl)(gU:(fc.name == "runtime.NumGoroutine")=false:=by kernel_rfl)(fK:fc.body=some c:=by rfl)(x8:args.map a.eval=vs:=by simp[Act.eval])(hd:op.dst=d:=by rfl):fa X fn ops (i::rest) Q a o w:=dC W ho hw eR hf gU fK x8 hd (h.mono k)
end
section
variable {P:Program} {w:ae} {es:Array Event}
theorem yr(t e:TypeId)(n:Nat)(a:Addr)(kl kh:IntKind)(l h:Int)(ht:P.underlying t=some (.array n e))(h0:0<=l)(h1:l<=h)(h2:h<=n):
  (Instr.sliceAt t (.pointer (some a)) (some (.int kl l)) (some (.int kh h)) none).events P w es=es:=by
 have eh:(h.toNat:Int)=h:=gJ aa;have el:(l.toNat:Int)=l:=gJ h0;have b1:∀w es,(Instr.sliceBound (.int kh h) n .sliceAlen).events P w es=es:=fun w es=>by
  simp[Instr.sliceBound,asIntOf,Sem.events_bind,show 0<=h by omega,h2]
 have b2:∀w es,(Instr.sliceBound (.int kl l) h.toNat .sliceB).events P w es=es:=fun w es=>by
  simp[Instr.sliceBound,asIntOf,Sem.events_bind,h0,eh,h1]
 simp[Instr.sliceAt,Instr.sliceBounds,Instr.sureAddr,Sem.events_bind,run_underlying ht,run_sliceBound,b1,b2,eh,el,h0,h1,h2,show 0<=h by omega,go_sem]
end
section
variable {P:Program}
theorem xf{w:ae}(f:Value->af->Sem (ForInStep af))(hf:∀(n:Int) (r:af),(f (.int .u8 n) r).run P w=.ok (.yield (r.push (UInt8.ofNat n.toNat))) w)(he:∀(n:Int) (r:af) (es:Array Event),(f (.int .u8 n) r).events P w es=es):∀(ns:List Int) (s:af) (es:Array Event),(forIn (ns.map (Value.int .u8)) s f).events P w es=es:=by
 intro ns
 induction ns with
 |nil=>intro s es;simp[Sem.events_pure]
 |cons n ns ih =>
  intro s es;simp only[aA,List.forIn_cons,Sem.events_bind,hf,Result.evThen_ok,he];exact ih _ es
theorem cX{w:ae}{a:Addr}{u v:Value}(es:Array Event)(m:Mode)(hc:w.cell? a=some u)(hf:w.frozen? a=false)(hv:v.oneCell'=true):(store a v m).events P w es=es.push ⟨.cell a,true,m == .atomic⟩:=by
 rw[events_store P w es a v m hv,hc];simp[hf]
theorem vQ(w:ae)(src dst e:TypeId)(a:Addr)(ns:List Int)(c:Nat)(es:Array Event)(hs:P.underlying src=some (.slice e))(he:P.underlying e=some (.int .u8))(hd:P.underlying dst=some .string)(hc:∀j (hj:j<ns.length),w.cell? (a.add j)=some (.int .u8 ns[j])):∀ev∈(convert src dst (.slice (some a) ns.length c)).events P w es,ev∈es\/ev.readsIn (fun b=>b=a.block):=by
 have hl:=run_loadCells_list (P:=P) w a (ns.map (Value.int .u8)) (fun j v hj=>by
  obtain⟨h1,h2⟩:=List.getElem?_eq_some_iff.1 hj;rw[hc j (by simpa using h1),<- h2];simp)
 simp only[List.length_map] at hl;intro ev h;have h':ev∈(Conv.bytesToString (.slice (some a) ns.length c)).events P w es:=by
  simpa[convert,run_underlying hs,run_underlying hd,run_underlying he,Sem.events_bind,events_underlying] using h
 simp only[Conv.bytesToString,Sem.events_bind,hl,Result.evThen_ok] at h';rw[List.forIn_toArray,run_forIn_bytes (P:=P) (w:=w) _ (fun n r=>by simp[Sem.run_pure]) ns ByteArray.empty,Result.evThen_ok,xf (P:=P) (w:=w) _ (fun n r=>by simp[Sem.run_pure]) (fun n r es=>by simp[Sem.events_pure]) ns ByteArray.empty,Sem.events_pure] at h';exact events_loadCellsFrom_at a (fun b=>b=a.block) rfl ns.length 0 #[] w es (fun j hj=>by rw[bC,hc j hj];rfl) ev h'
end
end Go.Ren
namespace Go.Proofs.Kz
open Go.Proofs.Tryz
open Go.Proofs.Tryz renaming prog → au
open _root_.ByteArray renaming empty → aP
open Go.Ren Go.Conc Go.Proofs
section
variable {m:Bool} {R:aN->ae->ae->Prop} {Gu:aN->ae->ae->Array Event->Prop} {X:aN->aY->ae->Prop} {o:aN} {w:ae}
theorem ZN(W:fM au m R Gu X)(n:Int){Post:Value->aN->ae->Prop}(h:bA au X 209 #[.int .i64 n] o w Post):bA au X 197 #[.int .i64 n] o w Post:=by
 refine bD W func197 ar ?_;refine ax ?_;refine dC W rfl ar rfl func209 ah rfl aI rfl (h.mono fun v o' w' hp=>?_);try aE
 refine ax ?_;exact⟨.inr trivial,trivial,v,resultsC_tmp (t:=2) ar _,hp⟩
end
end Go.Proofs.Kz
namespace Go.Ren
def VX(P:Program)(L:Nat->Bool)(Gm:Nat)(ex:List Nat)(n:Nat):Bool:=match P.funcs[n]? with
 |some fn=>fn.body.all (kO Gm L)&&((fn.body.isSome&&!(fn.name == "runtime.NumGoroutine"))||ex.contains n)
 |none=>false
theorem Bw{P:Program}{L:Nat->Bool}{Gm:Nat}{ex l:List Nat}(ha:l.all (VX P L Gm ex)=true){n:Nat}(h:n∈l):∃fn,P.funcs[n]?=some fn/\fn.body.all (kO Gm L)=true/\((fn.body.isSome=true/\(fn.name == "runtime.NumGoroutine")=false)\/n∈ex):=by
 have hm:=List.all_eq_true.1 ha n h;unfold VX at hm;cases hf:P.funcs[n]? with
 |none=>rw[hf] at hm;cases hm
 |some fn =>
  rw[hf] at hm;simp only[bc,Bool.or_eq_true,eD] at hm;exact⟨fn,rfl,hm.1,hm.2.imp id List.contains_iff_mem.1⟩
end Go.Ren
namespace Go.Proofs.Kz
open Go.Proofs.Tryz
open Go.Proofs.Tryz renaming prog → au
open _root_.ByteArray renaming empty → aP
open Go.Ren Go.Proofs
def LW(n:Nat):Bool:=[196,199,210,211,212,213,245,247,223,234,235,236,254,255,249,250,251,258,259,262,263].contains n
theorem SL:([196,199,210,211,212,213,245,247,223,234,235,236,254,255,249,250,251,258,259,262,263]:List Nat).all (VX au LW 0 [262,263])=true:=ah
theorem VY(n:Nat)(hn:LW n=true)(f:Rn)(hf:nL au f)(hh:∀n,LW n=true->f.h n=n)(args:Array Value):Rel au f (jm LW f) (callFunc n args) (callFunc n (args.map (val f))):=by
 obtain⟨fn,h1,-,h2⟩:=Bw SL (List.contains_iff_mem.1 (by unfold LW at hn;exact hn));rcases h2 with⟨h2,h3⟩|h2;rotate_left;simp only[bK,dj,or_false] at h2;rcases h2 with rfl|rfl
 rotate_right
 ·exact E7 h1 h2 h3 hn args
 ·exact oH func262 rfl ah ah rfl (hh _ ah) args (xX _)
 ·exact oH func263 rfl ah ah rfl (hh _ ah) args (uj hf _ _ _)
theorem ZO(hz:∀t i z,au.info? t=some i->i.zero=some z->∀f:Rn,val f z=z):rS au LW 0 where
 zero:=hz
 call:=fun n hn=>VY n hn
 body:=fun n hn=>by
  obtain⟨fn,h1,h2,-⟩:=Bw SL (List.contains_iff_mem.1 (by unfold LW at hn;exact hn));exact⟨fn,h1,fun c hc=>by rw[hc] at h2;exact h2⟩
def SM:Value->Bool
 | .tuple vs=>vs.all B1
 |v=>B1 v
theorem Mg{v:Value}(h:SM v=true)(f:Rn):val f v=v:=by
 cases v
 case tuple cs =>
  have hc:cs.all B1=true:=h;rw[iw] at hc;rw[b5]
  congr 1
  apply jk
  ·simp
  ·intro i h1 h2;simp only[Array.getElem_map];exact wR (hc i h2) f
 all_goals (refine wR ?_ f;exact h)
theorem Mh:(au.types.all fun i=>i.zero.all SM)=true:=ah
theorem Fw:∀t i z,au.info? t=some i->i.zero=some z->∀f:Rn,val f z=z:=by
 refine LD fun t i z hi hz=>?_;have h:=Mh;rw[jE] at h;have:=h i (dY hi);rw[hz] at this;exact fun f=>Mg this f
theorem iq:au.globals.size≠1:=by
 have:(au.globals.size==1)=false:=ah;intro h;rw[h] at this;cases this
end Go.Proofs.Kz
namespace Go.Proofs
section
open Go.Shelf
def Tryz.AB:Go.Shelf.Ren:=⟨fun|156=>234|165=>249|166=>250|169=>251|240=>258|241=>259|276=>262|277=>263|n=>n,fun|31=>40|9=>9|3=>3|4=>4|0=>0|20=>20|72=>332|76=>335|70=>330|37=>90|75=>334|127=>344|164=>116|5=>5|80=>337|n=>n,fun|n=>n⟩
theorem Tryz.VZ:Go.Proofs.Lays.n156 Tryz.prog Tryz.AB:={
 mixed:=ah
 f156:=Tryz.func234.trans (congrArg some ah)
 f165:=Tryz.func249.trans (congrArg some ah)
 f166:=Tryz.func250.trans (congrArg some ah)
 f169:=Tryz.func251.trans (congrArg some ah)
 f240:=Tryz.func258.trans (congrArg some ah)
 f241:=Tryz.func259.trans (congrArg some ah)
 f276:=Tryz.func262.trans (congrArg some ah)
 f277:=Tryz.func263.trans (congrArg some ah)
 t0:=underlying0
 a0:=isAgg0
 z0:=sizeOf0
 v0:=zeroValue0
 t3:=underlying3
 a3:=isAgg3
 z3:=sizeOf3
 v3:=zeroValue3
 t4:=underlying4
 a4:=isAgg4
 z4:=sizeOf4
 v4:=zeroValue4
 t9:=underlying9
 a9:=isAgg9
 z9:=sizeOf9
 v9:=zeroValue9
 t20:=underlying20
 a20:=isAgg20
 z20:=sizeOf20
 v20:=zeroValue20
 t31:=underlying40
 a31:=isAgg40
 z31:=sizeOf40
 v31:=zeroValue40
 t37:=underlying90
 a37:=isAgg90
 z37:=sizeOf90
 v37:=zeroValue90
 t70:=underlying330
 a70:=isAgg330
 z70:=sizeOf330
 v70:=zeroValue330
 t72:=underlying332
 a72:=isAgg332
 z72:=sizeOf332
 v72:=zeroValue332
 t75:=underlying334
 a75:=isAgg334
 z75:=sizeOf334
 v75:=zeroValue334
 t76:=underlying335
 a76:=isAgg335
 z76:=sizeOf335
 v76:=zeroValue335
 t127:=underlying344
 a127:=isAgg344
 z127:=sizeOf344
 v127:=zeroValue344
 t164:=underlying116
 a164:=isAgg116
 z164:=sizeOf116
 v164:=zeroValue116}
theorem Tryz.yu:Builder.Extra Tryz.prog Tryz.AB:={
 sizeBuilder:=ah
 liesBuilder:=ah
 t5:=underlying5
 a5:=isAgg5
 z5:=sizeOf5
 v5:=zeroValue5
 infoByte:=ah
 cellsByte:=ah
 sizeByte:=ah
 neB5:=by decide}
open Go.RowKit in
theorem Tryz.strings_Join(bk o c:Nat)(xs:List af)(sep:af)(w:ae)(qw:∀(j:Nat) x,xs[j]?=some x->w.cell? ⟨bk,o+j,none⟩=some (.string x))(bO:bk<w.heap.size)(hN:xs.length<=140737488355328)(A6:xs.length<=c)(hlen:(Lib.join (xs.map (·.data.toList)) sep.data.toList).length<=140737488355328):
  Calls Tryz.prog 234 #[.slice (some ⟨bk,o,none⟩) xs.length c,.string sep] w fun e w'=>e=.returned (.string ⟨(Lib.join (xs.map (·.data.toList)) sep.data.toList).toArray⟩)/\Below w.heap.size w w':=Any.strings_Join Tryz.VZ Tryz.yu bk o c xs sep w qw bO hN A6 hlen
def Tryz.Jb:Go.Shelf.Ren:=⟨fun|106=>187|213=>206|265=>224|n=>n,fun|9=>9|3=>3|n=>n,fun|n=>n⟩
theorem Tryz.V2:Go.Proofs.Lays.n106 Tryz.prog Tryz.Jb:={
 mixed:=ah
 f106:=Tryz.func187.trans (congrArg some ah)
 f213:=Tryz.func206.trans (congrArg some ah)
 f265:=Tryz.func224.trans (congrArg some ah)
 t3:=underlying3
 a3:=isAgg3
 z3:=sizeOf3
 v3:=zeroValue3
 t9:=underlying9
 a9:=isAgg9
 z9:=sizeOf9
 v9:=zeroValue9}
open Go.RowKit in
theorem Tryz.strings_Compare(a b:af)(w:ae):
  Calls Tryz.prog 187 #[.string a,.string b] w fun e w'=>e=.returned (.int .i64 (Lib.compareBytes a.data.toList b.data.toList))/\w'=w:=Any.strings_Compare Tryz.V2 a b w
def Tryz.Jc:Go.Shelf.Ren:=⟨fun|129=>223|n=>n,fun|53=>212|3=>3|4=>4|46=>223|5=>5|9=>9|n=>n,fun|n=>n⟩
theorem Tryz.V3:Go.Proofs.Lays.n129 Tryz.prog Tryz.Jc:={
 mixed:=ah
 f129:=Tryz.func223.trans (congrArg some ah)
 t3:=underlying3
 a3:=isAgg3
 z3:=sizeOf3
 v3:=zeroValue3
 t4:=underlying4
 a4:=isAgg4
 z4:=sizeOf4
 v4:=zeroValue4
 t5:=underlying5
 a5:=isAgg5
 z5:=sizeOf5
 v5:=zeroValue5
 t9:=underlying9
 a9:=isAgg9
 z9:=sizeOf9
 v9:=zeroValue9
 t46:=underlying223
 a46:=isAgg223
 z46:=sizeOf223
 v46:=zeroValue223
 t53:=underlying212
 a53:=isAgg212
 z53:=sizeOf212
 v53:=zeroValue212}
theorem Tryz.bits_Len64(x:Int)(w:ae)(h0:0<=x)(h1:x<=18446744073709551615):
  Calls Tryz.prog 223 #[.int .u64 x] w fun e w'=>e=.returned (.int .i64 (Lib.bitLen x.toNat))/\w'=w:=Any.bits_Len64 Tryz.V3 x w h0 h1
def Tryz.Jd:Go.Shelf.Ren:=⟨fun|317=>254|n=>n,fun|3=>3|46=>223|n=>n,fun|n=>n⟩
theorem Tryz.V4:Go.Proofs.Lays.n317 Tryz.prog Tryz.Jd:={
 mixed:=ah
 f317:=Tryz.func254.trans (congrArg some ah)
 t3:=underlying3
 a3:=isAgg3
 z3:=sizeOf3
 v3:=zeroValue3
 t46:=underlying223
 a46:=isAgg223
 z46:=sizeOf223
 v46:=zeroValue223}
open Go.Lib in
theorem Tryz.internal_strconv_log10Pow2(x:Nat)(h:x<=64)(w:ae):
  Calls Tryz.prog 254 #[.int .i64 x] w fun e w'=>e=.returned (.int .i64 (Lib.l10 x))/\w'=w:=Any.internal_strconv_log10Pow2 Tryz.V4 x h w
def Tryz.Je:Go.Shelf.Ren:=⟨fun|318=>255|n=>n,fun|3=>3|4=>4|n=>n,fun|n=>n⟩
theorem Tryz.V5:Go.Proofs.Lays.n318 Tryz.prog Tryz.Je:={
 mixed:=ah
 f318:=Tryz.func255.trans (congrArg some ah)
 t3:=underlying3
 a3:=isAgg3
 z3:=sizeOf3
 v3:=zeroValue3
 t4:=underlying4
 a4:=isAgg4
 z4:=sizeOf4
 v4:=zeroValue4}
open Go.Lib in
theorem Tryz.internal_strconv_bool2_int(b:Bool)(w:ae):
  Calls Tryz.prog 255 #[.bool b] w fun e w'=>e=.returned (.int .i64 (if b then 1 else 0))/\w'=w:=Any.internal_strconv_bool2_int Tryz.V5 b w
def Tryz.Jf:Go.Shelf.Ren:=⟨fun|283=>245|n=>n,fun|3=>3|9=>9|4=>4|n=>n,fun|n=>n⟩
theorem Tryz.V6:Go.Proofs.Lays.n283 Tryz.prog Tryz.Jf:={
 mixed:=ah
 f283:=Tryz.func245.trans (congrArg some ah)
 t3:=underlying3
 a3:=isAgg3
 z3:=sizeOf3
 v3:=zeroValue3
 t4:=underlying4
 a4:=isAgg4
 z4:=sizeOf4
 v4:=zeroValue4
 t9:=underlying9
 a9:=isAgg9
 z9:=sizeOf9
 v9:=zeroValue9}
open Go.Lib in
theorem Tryz.internal_strconv_small(i:Nat)(h:i<100)(w:ae):
  Calls Tryz.prog 245 #[.int .i64 i] w fun e w'=>e=.returned (.string ⟨(Lib.decDigits i).toArray⟩)/\w'=w:=Any.internal_strconv_small Tryz.V6 i h w
def Tryz.Jg:Go.Shelf.Ren:=⟨fun|285=>247|n=>n,fun|37=>90|53=>212|3=>3|4=>4|51=>102|9=>9|5=>5|0=>0|n=>n,fun|n=>n⟩
theorem Tryz.V7:Go.Proofs.Lays.n285 Tryz.prog Tryz.Jg:={
 mixed:=ah
 f285:=Tryz.func247.trans (congrArg some ah)
 t0:=underlying0
 a0:=isAgg0
 z0:=sizeOf0
 v0:=zeroValue0
 t3:=underlying3
 a3:=isAgg3
 z3:=sizeOf3
 v3:=zeroValue3
 t4:=underlying4
 a4:=isAgg4
 z4:=sizeOf4
 v4:=zeroValue4
 t5:=underlying5
 a5:=isAgg5
 z5:=sizeOf5
 v5:=zeroValue5
 t9:=underlying9
 a9:=isAgg9
 z9:=sizeOf9
 v9:=zeroValue9
 t37:=underlying90
 a37:=isAgg90
 z37:=sizeOf90
 v37:=zeroValue90
 t51:=underlying102
 a51:=isAgg102
 z51:=sizeOf102
 v51:=zeroValue102
 t53:=underlying212
 a53:=isAgg212
 z53:=sizeOf212
 v53:=zeroValue212}
open Go.RowKit Go.Sort Go.Lib in
theorem Tryz.internal_strconv_formatBase10(blk off cap:Nat)(u:Nat)(d:Array UInt8)(w:ae)(hH:Holds (fun(b:UInt8)=>Value.int .u8 (b.toNat:Int)) w blk off d)(hu:u<10^d.size)(ahq:u<18446744073709551616)(fJ:d.size<4611686018427387904):
  Calls Tryz.prog 247 #[.slice (some ⟨blk,off,none⟩) d.size cap,.int .u64 u] w fun e w' =>
   e=.returned (.tuple #[])/\∃(n v':Nat) (dk:Array UInt8),w'=(putRow (fun(b:UInt8)=>Value.int .u8 (b.toNat:Int)) w blk off dk).drewN n/\FmtInv d.size u 0 v' dk:=Any.internal_strconv_formatBase10 Tryz.V7 blk off cap u d w hH hu ahq fJ
def Tryz.Jh:Go.Shelf.Ren:=⟨fun|190=>188|125=>205|258=>207|128=>222|129=>223|302=>225|303=>226|304=>227|305=>228|306=>229|307=>230|308=>118|309=>231|310=>232|333=>242|329=>238|330=>239|334=>243|335=>244|336=>168|344=>253|n=>n,fun|31=>40|9=>9|3=>3|46=>223|0=>0|51=>102|53=>212|4=>4|183=>304|182=>303|131=>156|5=>5|218=>319|222=>322|228=>338|229=>170|n=>n,fun|n=>n⟩
theorem Tryz.V8:Go.Proofs.Lays.n190 Tryz.prog Tryz.Jh:={
 mixed:=ah
 f125:=Tryz.func205.trans (congrArg some ah)
 f128:=Tryz.func222.trans (congrArg some ah)
 f129:=Tryz.func223.trans (congrArg some ah)
 f190:=Tryz.func188.trans (congrArg some ah)
 f258:=Tryz.func207.trans (congrArg some ah)
 f302:=Tryz.func225.trans (congrArg some ah)
 f303:=Tryz.func226.trans (congrArg some ah)
 f304:=Tryz.func227.trans (congrArg some ah)
 f305:=Tryz.func228.trans (congrArg some ah)
 f306:=Tryz.func229.trans (congrArg some ah)
 f307:=Tryz.func230.trans (congrArg some ah)
 f308:=Tryz.func118.trans (congrArg some ah)
 f309:=Tryz.func231.trans (congrArg some ah)
 f310:=Tryz.func232.trans (congrArg some ah)
 f329:=Tryz.func238.trans (congrArg some ah)
 f330:=Tryz.func239.trans (congrArg some ah)
 f333:=Tryz.func242.trans (congrArg some ah)
 f334:=Tryz.func243.trans (congrArg some ah)
 f335:=Tryz.func244.trans (congrArg some ah)
 f336:=Tryz.func168.trans (congrArg some ah)
 f344:=Tryz.func253.trans (congrArg some ah)
 t0:=underlying0
 a0:=isAgg0
 z0:=sizeOf0
 v0:=zeroValue0
 t3:=underlying3
 a3:=isAgg3
 z3:=sizeOf3
 v3:=zeroValue3
 t4:=underlying4
 a4:=isAgg4
 z4:=sizeOf4
 v4:=zeroValue4
 t5:=underlying5
 a5:=isAgg5
 z5:=sizeOf5
 v5:=zeroValue5
 t9:=underlying9
 a9:=isAgg9
 z9:=sizeOf9
 v9:=zeroValue9
 t31:=underlying40
 a31:=isAgg40
 z31:=sizeOf40
 v31:=zeroValue40
 t46:=underlying223
 a46:=isAgg223
 z46:=sizeOf223
 v46:=zeroValue223
 t51:=underlying102
 a51:=isAgg102
 z51:=sizeOf102
 v51:=zeroValue102
 t53:=underlying212
 a53:=isAgg212
 z53:=sizeOf212
 v53:=zeroValue212
 t131:=underlying156
 a131:=isAgg156
 z131:=sizeOf156
 v131:=zeroValue156
 t182:=underlying303
 a182:=isAgg303
 z182:=sizeOf303
 v182:=zeroValue303
 t183:=underlying304
 a183:=isAgg304
 z183:=sizeOf304
 v183:=zeroValue304
 t218:=underlying319
 a218:=isAgg319
 z218:=sizeOf319
 v218:=zeroValue319
 t222:=underlying322
 a222:=isAgg322
 z222:=sizeOf322
 v222:=zeroValue322
 t228:=underlying338
 a228:=isAgg338
 z228:=sizeOf338
 v228:=zeroValue338
 t229:=underlying170
 a229:=isAgg170
 z229:=sizeOf170
 v229:=zeroValue170}
open Go.Sort Go.RowKit in
theorem Tryz.slices_Sort_string(blk off cap:Nat)(ss:List (List UInt8))(w:ae)(hH:Holds encStr w blk off ss.toArray)(PD:blk<w.heap.size)(fJ:ss.length<4611686018427387904):
  Calls Tryz.prog 188 #[.slice (some ⟨blk,off,none⟩) ss.length cap] w fun e w' =>
   e=.returned (.tuple #[])/\∃n os,w'=grow (putRow encStr (Sort.ahead w n) blk off (ss.mergeSort fun x y=>decide (x<=y)).toArray) os:=Any.slices_Sort_string Tryz.V8 blk off cap ss w hH PD fJ
def Tryz.Ji:Go.Shelf.Ren:=⟨fun|107=>190|108=>208|n=>n,fun|28=>130|3=>3|4=>4|0=>0|n=>n,fun|n=>n⟩
theorem Tryz.V9:Go.Proofs.Lays.n107 Tryz.prog Tryz.Ji:={
 mixed:=ah
 f107:=Tryz.func190.trans (congrArg some ah)
 f108:=Tryz.func208.trans (congrArg some ah)
 t0:=underlying0
 a0:=isAgg0
 z0:=sizeOf0
 v0:=zeroValue0
 t3:=underlying3
 a3:=isAgg3
 z3:=sizeOf3
 v3:=zeroValue3
 t4:=underlying4
 a4:=isAgg4
 z4:=sizeOf4
 v4:=zeroValue4
 t28:=underlying130
 a28:=isAgg130
 z28:=sizeOf130
 v28:=zeroValue130}
open Go.Lib in
theorem Tryz.slices_Contains_int(b off n c:Nat)(zs:List Int)(x:Int)(w:ae)(hz:n<=zs.length)(A7:n<=9223372036854775807)(hc:∀j,j<zs.length->w.cell? ⟨b,off+j,none⟩=some (.int .i64 (zs.getD j 0))):
  Calls Tryz.prog 190 #[.slice (some ⟨b,off,none⟩) n c,.int .i64 x] w fun e w'=>e=.returned (.bool ((zs.take n).contains x))/\w'=w:=Any.slices_Contains_int Tryz.V9 b off n c zs x w hz A7 hc
def Tryz.Jj:Go.Shelf.Ren:=⟨fun|110=>80|109=>128|n=>n,fun|31=>40|9=>9|4=>4|3=>3|0=>0|n=>n,fun|n=>n⟩
theorem Tryz.NU:Go.Proofs.Lays.n110 Tryz.prog Tryz.Jj:={
 mixed:=ah
 f109:=Tryz.func128.trans (congrArg some ah)
 f110:=Tryz.func80.trans (congrArg some ah)
 t0:=underlying0
 a0:=isAgg0
 z0:=sizeOf0
 v0:=zeroValue0
 t3:=underlying3
 a3:=isAgg3
 z3:=sizeOf3
 v3:=zeroValue3
 t4:=underlying4
 a4:=isAgg4
 z4:=sizeOf4
 v4:=zeroValue4
 t9:=underlying9
 a9:=isAgg9
 z9:=sizeOf9
 v9:=zeroValue9
 t31:=underlying40
 a31:=isAgg40
 z31:=sizeOf40
 v31:=zeroValue40}
open Go.Lib in
theorem Tryz.slices_Contains_string(b off n c:Nat)(zs:List af)(x:af)(w:ae)(hz:n<=zs.length)(A7:n<=9223372036854775807)(hc:∀j,j<zs.length->w.cell? ⟨b,off+j,none⟩=some (.string (zs.getD j ByteArray.empty))):
  Calls Tryz.prog 80 #[.slice (some ⟨b,off,none⟩) n c,.string x] w fun e w'=>e=.returned (.bool (Lib.containsS (zs.take n) x))/\w'=w:=Any.slices_Contains_string Tryz.NU b off n c zs x w hz A7 hc
open Go.Lib in
theorem Tryz.slices_Contains_string_empty(a:Option Addr)(c:Nat)(x:af)(w:ae):
  Calls Tryz.prog 80 #[.slice a 0 c,.string x] w fun e w'=>e=.returned (.bool false)/\w'=w:=Any.slices_Contains_string_empty Tryz.NU a c x w
def Tryz.Em:Go.Shelf.Ren:=⟨fun|16=>51|n=>n,fun|24=>40|9=>9|4=>4|n=>n,fun|n=>n⟩
theorem Tryz.zI:Go.Proofs.Lays2.n16 Tryz.prog Tryz.Em:={
 mixed:=ah
 f16:=Tryz.func51.trans (congrArg some ah)
 t4:=underlying4
 a4:=isAgg4
 z4:=sizeOf4
 v4:=zeroValue4
 t9:=underlying9
 a9:=isAgg9
 z9:=sizeOf9
 v9:=zeroValue9
 t24:=underlying40
 a24:=isAgg40
 z24:=sizeOf40
 v24:=zeroValue40
 i9:=by kernel_rfl}
open Go.RowKit Go.Lib in
theorem Tryz.slices_Clone_string(b off n c:Nat)(zs:List af)(w:ae)(hz:n<=zs.length)(A7:n*16<=140737488355328)(hc:∀j,j<zs.length->w.cell? ⟨b,off+j,none⟩=some (.string (zs.getD j ByteArray.empty))):
  Calls Tryz.prog 51 #[.slice (some ⟨b,off,none⟩) n c] w fun e w'=>∃v',e=.returned v'/\w'.ownsRow w.heap.size 9 1 v' n ((zs.take n).map (Value.string))/\v'≠.slice none 0 0/\Below w.heap.size w w':=Any.slices_Clone_string Tryz.zI b off n c zs w hz A7 hc
open Go.RowKit Go.Lib in
theorem Tryz.slices_Clone_string_nil(n c:Nat)(w:ae):
  Calls Tryz.prog 51 #[.slice none n c] w fun e w'=>e=.returned (.slice none 0 0)/\w'=w:=Any.slices_Clone_string_nil Tryz.zI n c w
open Go.RowKit Go.Lib in
theorem Tryz.slices_Clone_string_zero(a:Addr)(c:Nat)(w:ae):
  Calls Tryz.prog 51 #[.slice (some a) 0 c] w fun e w'=>∃v',e=.returned v'/\w'.ownsRow w.heap.size 9 1 v' 0 []/\v'≠.slice none 0 0/\Below w.heap.size w w':=Any.slices_Clone_string_zero Tryz.zI a c w
def Tryz.Jk:Go.Shelf.Ren:=⟨fun|194=>189|n=>n,fun|31=>40|9=>9|3=>3|4=>4|0=>0|n=>n,fun|n=>n⟩
theorem Tryz.NV:Go.Proofs.Lays.n194 Tryz.prog Tryz.Jk:={
 mixed:=ah
 f194:=Tryz.func189.trans (congrArg some ah)
 t0:=underlying0
 a0:=isAgg0
 z0:=sizeOf0
 v0:=zeroValue0
 t3:=underlying3
 a3:=isAgg3
 z3:=sizeOf3
 v3:=zeroValue3
 t4:=underlying4
 a4:=isAgg4
 z4:=sizeOf4
 v4:=zeroValue4
 t9:=underlying9
 a9:=isAgg9
 z9:=sizeOf9
 v9:=zeroValue9
 t31:=underlying40
 a31:=isAgg40
 z31:=sizeOf40
 v31:=zeroValue40}
open Go.RowKit Go.Lib Go.Sort in
theorem Tryz.slices_Compact_string(blk off cap:Nat)(zs:List (List UInt8))(w:ae)(hH:Holds encStr w blk off zs.toArray)(fJ:zs.length<=9223372036854775807)(A6:zs.length<=cap):
  Calls Tryz.prog 189 #[.slice (some ⟨blk,off,none⟩) zs.length cap] w fun e w'=>e=.returned (.slice (some ⟨blk,off,none⟩) (Lib.compact zs).length cap)/\∃q,w'=putRow encStr (Sort.ahead w q) blk off (Lib.compact zs++List.replicate (zs.length-(Lib.compact zs).length) []).toArray:=Any.slices_Compact_string Tryz.NV blk off cap zs w hH fJ A6
open Go.RowKit Go.Lib Go.Sort in
theorem Tryz.slices_Compact_string_empty(a:Option Addr)(cap:Nat)(w:ae):
  Calls Tryz.prog 189 #[.slice a 0 cap] w fun e w'=>e=.returned (.slice a 0 cap)/\w'=w:=Any.slices_Compact_string_empty Tryz.NV a cap w
def Tryz.En:Go.Shelf.Ren:=⟨fun|19=>236|n=>n,fun|24=>40|9=>9|3=>3|4=>4|20=>20|0=>0|n=>n,fun|n=>n⟩
theorem Tryz.PT:Go.Proofs.Lays2.n19 Tryz.prog Tryz.En:={
 mixed:=ah
 f19:=Tryz.func236.trans (congrArg some ah)
 t0:=underlying0
 a0:=isAgg0
 z0:=sizeOf0
 v0:=zeroValue0
 t3:=underlying3
 a3:=isAgg3
 z3:=sizeOf3
 v3:=zeroValue3
 t4:=underlying4
 a4:=isAgg4
 z4:=sizeOf4
 v4:=zeroValue4
 t9:=underlying9
 a9:=isAgg9
 z9:=sizeOf9
 v9:=zeroValue9
 t20:=underlying20
 a20:=isAgg20
 z20:=sizeOf20
 v20:=zeroValue20
 t24:=underlying40
 a24:=isAgg40
 z24:=sizeOf40
 v24:=zeroValue40}
open Go.RowKit Go.Lib in
theorem Tryz.slices_Min_string(b off n c:Nat)(zs:List af)(w:ae)(hn:0<n)(hz:n<=zs.length)(A7:n<=9223372036854775807)(hc:∀j,j<zs.length->w.cell? ⟨b,off+j,none⟩=some (.string (zs.getD j ByteArray.empty))):
  Calls Tryz.prog 236 #[.slice (some ⟨b,off,none⟩) n c] w fun e w'=>e=.returned (.string (Lib.minOfS (zs.take n)))/\w'=w:=Any.slices_Min_string Tryz.PT b off n c zs w hn hz A7 hc
def Tryz.Eo:Go.Shelf.Ren:=⟨fun|6=>185|15=>205|14=>204|28=>222|29=>223|20=>214|21=>215|22=>216|23=>217|24=>218|25=>219|26=>220|27=>221|46=>237|47=>238|48=>239|49=>240|50=>241|57=>252|n=>n,fun|22=>35|24=>42|25=>247|3=>3|39=>223|0=>0|53=>102|55=>212|4=>4|46=>304|45=>303|50=>156|5=>5|9=>9|66=>319|70=>322|76=>338|77=>170|n=>n,fun|n=>n⟩
theorem Tryz.PU:Go.Proofs.SlLaysF0.n6 Tryz.prog Tryz.Eo:={
 mixed:=ah
 f6:=⟨Tryz.f185.name,eA,Tryz.func185.trans (congrArg some ah)⟩
 f14:=⟨Tryz.f204.name,eA,Tryz.func204.trans (congrArg some ah)⟩
 f15:=Tryz.func205.trans (congrArg some ah)
 f20:=⟨Tryz.f214.name,eA,Tryz.func214.trans (congrArg some ah)⟩
 f21:=⟨Tryz.f215.name,eA,Tryz.func215.trans (congrArg some ah)⟩
 f22:=⟨Tryz.f216.name,eA,Tryz.func216.trans (congrArg some ah)⟩
 f23:=⟨Tryz.f217.name,eA,Tryz.func217.trans (congrArg some ah)⟩
 f24:=⟨Tryz.f218.name,eA,Tryz.func218.trans (congrArg some ah)⟩
 f25:=⟨Tryz.f219.name,eA,Tryz.func219.trans (congrArg some ah)⟩
 f26:=⟨Tryz.f220.name,eA,Tryz.func220.trans (congrArg some ah)⟩
 f27:=⟨Tryz.f221.name,eA,Tryz.func221.trans (congrArg some ah)⟩
 f28:=Tryz.func222.trans (congrArg some ah)
 f29:=Tryz.func223.trans (congrArg some ah)
 f46:=⟨Tryz.f237.name,eA,Tryz.func237.trans (congrArg some ah)⟩
 f47:=Tryz.func238.trans (congrArg some ah)
 f48:=Tryz.func239.trans (congrArg some ah)
 f49:=⟨Tryz.f240.name,eA,Tryz.func240.trans (congrArg some ah)⟩
 f50:=⟨Tryz.f241.name,eA,Tryz.func241.trans (congrArg some ah)⟩
 f57:=⟨Tryz.f252.name,eA,Tryz.func252.trans (congrArg some ah)⟩
 t0:=underlying0
 a0:=isAgg0
 z0:=sizeOf0
 v0:=zeroValue0
 t3:=underlying3
 a3:=isAgg3
 z3:=sizeOf3
 v3:=zeroValue3
 t4:=underlying4
 a4:=isAgg4
 z4:=sizeOf4
 v4:=zeroValue4
 t5:=underlying5
 a5:=isAgg5
 z5:=sizeOf5
 v5:=zeroValue5
 t9:=underlying9
 a9:=isAgg9
 z9:=sizeOf9
 v9:=zeroValue9
 t22:=underlying35
 a22:=isAgg35
 z22:=sizeOf35
 v22:=zeroValue35
 t25:=underlying247
 a25:=isAgg247
 z25:=sizeOf247
 v25:=zeroValue247
 t39:=underlying223
 a39:=isAgg223
 z39:=sizeOf223
 v39:=zeroValue223
 t45:=underlying303
 a45:=isAgg303
 z45:=sizeOf303
 v45:=zeroValue303
 t46:=underlying304
 a46:=isAgg304
 z46:=sizeOf304
 v46:=zeroValue304
 t50:=underlying156
 a50:=isAgg156
 z50:=sizeOf156
 v50:=zeroValue156
 t53:=underlying102
 a53:=isAgg102
 z53:=sizeOf102
 v53:=zeroValue102
 t55:=underlying212
 a55:=isAgg212
 z55:=sizeOf212
 v55:=zeroValue212
 t66:=underlying319
 a66:=isAgg319
 z66:=sizeOf319
 v66:=zeroValue319
 t70:=underlying322
 a70:=isAgg322
 z70:=sizeOf322
 v70:=zeroValue322
 t76:=underlying338
 a76:=isAgg338
 z76:=sizeOf338
 v76:=zeroValue338
 t77:=underlying170
 a77:=isAgg170
 z77:=sizeOf170
 v77:=zeroValue170}
def Tryz.Jl:Go.Shelf.Ren:=⟨fun|125=>205|128=>222|129=>223|n=>n,fun|46=>223|3=>3|51=>102|53=>212|4=>4|5=>5|9=>9|n=>n,fun|n=>n⟩
theorem Tryz.bitsLen:Go.Proofs.Lays.n125 Tryz.prog Tryz.Jl:={
 mixed:=ah
 f125:=Tryz.func205.trans (congrArg some ah)
 f128:=Tryz.func222.trans (congrArg some ah)
 f129:=Tryz.func223.trans (congrArg some ah)
 t3:=underlying3
 a3:=isAgg3
 z3:=sizeOf3
 v3:=zeroValue3
 t4:=underlying4
 a4:=isAgg4
 z4:=sizeOf4
 v4:=zeroValue4
 t5:=underlying5
 a5:=isAgg5
 z5:=sizeOf5
 v5:=zeroValue5
 t9:=underlying9
 a9:=isAgg9
 z9:=sizeOf9
 v9:=zeroValue9
 t46:=underlying223
 a46:=isAgg223
 z46:=sizeOf223
 v46:=zeroValue223
 t51:=underlying102
 a51:=isAgg102
 z51:=sizeOf102
 v51:=zeroValue102
 t53:=underlying212
 a53:=isAgg212
 z53:=sizeOf212
 v53:=zeroValue212}
def Tryz.GL:Go.Shelf.Ren:=⟨fun|26=>77|33=>118|34=>119|38=>168|n=>n,fun|24=>40|9=>9|3=>3|4=>4|40=>223|0=>0|n=>n,fun|n=>n⟩
theorem Tryz.Jm:Go.Proofs.Lays2.n26 Tryz.prog Tryz.GL:={
 mixed:=ah
 f26:=Tryz.func77.trans (congrArg some ah)
 f33:=Tryz.func118.trans (congrArg some ah)
 f34:=Tryz.func119.trans (congrArg some ah)
 f38:=Tryz.func168.trans (congrArg some ah)
 t0:=underlying0
 a0:=isAgg0
 z0:=sizeOf0
 v0:=zeroValue0
 t3:=underlying3
 a3:=isAgg3
 z3:=sizeOf3
 v3:=zeroValue3
 t4:=underlying4
 a4:=isAgg4
 z4:=sizeOf4
 v4:=zeroValue4
 t9:=underlying9
 a9:=isAgg9
 z9:=sizeOf9
 v9:=zeroValue9
 t24:=underlying40
 a24:=isAgg40
 z24:=sizeOf40
 v24:=zeroValue40
 t40:=underlying223
 a40:=isAgg223
 z40:=sizeOf223
 v40:=zeroValue223}
def Tryz.SN:Go.Shelf.Ren:=⟨fun|35=>235|n=>n,fun|22=>90|23=>5|3=>3|4=>4|0=>0|n=>n,fun|n=>n⟩
theorem Tryz.ahr:Go.Proofs.SlLaysE.n35 Tryz.prog Tryz.SN:={
 mixed:=ah
 f35:=⟨Tryz.f235.name,eA,Tryz.func235.trans (congrArg some ah)⟩
 t0:=underlying0
 a0:=isAgg0
 z0:=sizeOf0
 v0:=zeroValue0
 t3:=underlying3
 a3:=isAgg3
 z3:=sizeOf3
 v3:=zeroValue3
 t4:=underlying4
 a4:=isAgg4
 z4:=sizeOf4
 v4:=zeroValue4
 t22:=underlying90
 a22:=isAgg90
 z22:=sizeOf90
 v22:=zeroValue90
 a23:=isAgg5
 z23:=sizeOf5}
end
end Go.Proofs
namespace Go.Proofs.Kz
open Go.Proofs.Tryz
open Go.Proofs.Tryz renaming prog → au
open _root_.ByteArray renaming empty → aP
open Go.Ren Go.Conc Go.Proofs
structure sj(T:dq)(i:Nat):Prop where
 ok:T.OK
 i:i<T.n
 kz:au.globals.size<=T.H0
structure Quiet(T:dq)(b:Nat):Prop where
 old:b<T.H0
 wg:b≠T.Wg
 sh:¬T.Sh b
 ch:∀k,k<T.n->b≠T.ch k
 ro:∀off,T.RO (.cell ⟨b,off,none⟩)
theorem CP:rS au LW 0:=ZO Fw
section
variable {T:dq} {i:Nat} {V:Nat->ae->Prop} {E:bL} {rc:Nat->Prop} {o:aN} {w:ae}
theorem Quiet.same{b:Nat}(h:Quiet T b){w1:ae}(hr:cY T i o rc w w1):w1.heap[b]?=w.heap[b]?:=hr.ro b h.old h.wg h.sh h.ch
theorem Quiet.cell{b off:Nat}(h:Quiet T b){w1:ae}(hr:cY T i o rc w w1):w1.cell? ⟨b,off,none⟩=w.cell? ⟨b,off,none⟩:=cell_of (h.same hr)
theorem uC{ad:Addr}{sy:Bool}(h:(∃b,o b/\Iy (.cell ad) b)\/T.kg i (.cell ad)\/(∃k,rc k/\T.kg k (.cell ad))\/T.RO (.cell ad)):NG T i o rc ⟨.cell ad,false,sy⟩:=by
 refine⟨fun x hx _=>?_,aj,aj,aj⟩;simp only[MemAct.ofEvent,MemAct.touch?,ay] at hx;subst hx;rcases h with h|h|⟨k,h3,h4⟩|h
 ·exact .inl h
 ·exact .inr (.inl h)
 ·exact .inr (.inr (.inl ⟨k,h3,h4,rfl⟩))
 ·exact .inr (.inr (.inr ⟨h,rfl⟩))
theorem Jn(hW:sj T i)(hq:Quiet T 1)(u:Nat)(h1:1<=u)(h2:u<18446744073709551616)(gj:gF T o w)(ht:w.cell? ⟨1,Lib.l10 (Lib.bitLen u),none⟩=some (.int .u64 ((10^Lib.l10 (Lib.bitLen u):Nat):Int))):
  bA au (XW au T i V E rc) 246 #[.int .u64 u] o w fun v o' w'=>v=.int .i64 (Lib.nDigits u)/\cT T i rc o w o' w':=by
 have W:=cN (P:=au) (T:=T) (i:=i) (V:=V) (E:=E) rc;obtain⟨vk,h19⟩:=Lib.numDigits_eq u h1 h2;have hL:Lib.bitLen u<=64:=Lib.bitLen_le u 64 (ag _) h2;have c1:∀o w,gF T o w->bA au (XW au T i V E rc) 223 #[.int .u64 u] o w fun v o' w'=>v=.int .i64 (Lib.bitLen u)/\cT T i rc o w o' w':=fun o w ho =>
  qm hW.ok hW.i CP iq hW.kz ah ho (fun g=>aj) _ (fun g=>aj) fun wl=>(Tryz.bits_Len64 u wl aa aa).mono (by rintro e w' ⟨rfl,rfl⟩;exact⟨aj,.refl _ _⟩)
 have c2:∀o w,gF T o w->bA au (XW au T i V E rc) 254 #[.int .i64 (Lib.bitLen u)] o w fun v o' w'=>v=.int .i64 (Lib.l10 (Lib.bitLen u))/\cT T i rc o w o' w':=fun o w ho =>
  qm hW.ok hW.i CP iq hW.kz ah ho (fun g=>aj) _ (fun g=>aj) fun wl=>(Tryz.internal_strconv_log10Pow2 _ hL wl).mono (by rintro e w' ⟨rfl,rfl⟩;exact⟨rfl,.refl _ _⟩)
 have c3:∀(b:Bool) o w,gF T o w->bA au (XW au T i V E rc) 255 #[.bool b] o w fun v o' w'=>v=.int .i64 (if b=true then 1 else 0)/\cT T i rc o w o' w':=fun b o w ho =>
  qm hW.ok hW.i CP iq hW.kz ah ho (fun g=>aj) _ (fun g=>aj) fun wl=>(Tryz.internal_strconv_bool2_int b wl).mono (by rintro e w' ⟨rfl,rfl⟩;exact⟨rfl,.refl _ _⟩)
 generalize Lib.bitLen u=bl at *;generalize Lib.l10 bl=q at *;refine bD W func246 ar ?_;refine ax ?_;refine cj func223 (c1 _ _ gj) ?_;rintro v o1 w1 ⟨rfl,l1⟩;try aE
 refine cj func254 (c2 _ _ l1.ok) ?_;rintro v o2 w2 ⟨rfl,l2⟩;try aE
 refine ax ?_;have h20:(q:Int)<20:=aa;have hS:∀w3,cY T i o2 rc w2 w3->w3.cell? ⟨1,q,none⟩=some (.int .u64 ((10^q:Nat):Int)):=fun w3 hr=>by
  rw[hq.cell hr,hq.cell l2.rel,hq.cell l1.rel,ht]
 generalize hP:10^q=p at *;have jl:∀w1 es,(Instr.indexAt 342 (.pointer (some ⟨1,0,none⟩)) (.int .i64 (q:Int))).events au w1 es=es:=fun w1 es=>events_indexAt_array 342 212 20 ⟨1,0,none⟩ .i64 q underlying342 ⟨aa,aa⟩;refine rq W rfl rfl ar (fun w1=>by simp[go_sem,jl]) fun w1 K hK=>?_;go_simp;refine hK _ ?_;clear hK K w1 jl;try aE
 refine fV W hS rfl ar (fun w1 hc=>⟨.refl _ _,?_⟩) fun w1 hc K hK=>?_
 ·ahs (exact uC (.inr (.inr (.inr (hq.ro _)))))
 go_simp;refine hK _ ?_;clear hK K hc w1;try aE
 refine ax ?_;refine dC W rfl ar rfl func255 ah rfl (by simp[Act.eval];rfl) rfl ((c3 _ _ _ l2.ok).mono ?_);rintro v o3 w3 ⟨rfl,l3⟩;try aE
 refine ax ?_;refine⟨.inr trivial,trivial,_,resultsC_tmp (t:=2) ar _,?_,(l1.trans l2).trans l3⟩;show Value.int .i64 (IntKind.i64.wrap (↑q+if p<=u then 1 else 0))=_;rw[<- vk]
 congr 1
 rw[IntKind.wrap_i64];split<;>simp<;>omega
theorem A8(hW:sj T i)(n:Nat)(hn:n<100)(gj:gF T o w):
  bA au (XW au T i V E rc) 233 #[.int .i64 n,.int .i64 10] o w fun v o' w'=>v=.string ⟨(Lib.decDigits n).toArray⟩/\cT T i rc o w o' w':=by
 have W:=cN (P:=au) (T:=T) (i:=i) (V:=V) (E:=E) rc;have c1:∀o w,gF T o w->bA au (XW au T i V E rc) 245 #[.int .i64 n] o w fun v o' w'=>v=.string ⟨(Lib.decDigits n).toArray⟩/\cT T i rc o w o' w':=fun o w ho =>
  qm hW.ok hW.i CP iq hW.kz ah ho (fun g=>aj) _ (fun g=>aj) fun wl=>(Tryz.internal_strconv_small n hn wl).mono (by rintro e w' ⟨rfl,rfl⟩;exact⟨rfl,.refl _ _⟩)
 have hi:(n:Int)<100:=aa;refine bD W func233 ar ?_;refine ax ?_;refine cj func245 (c1 _ _ gj) ?_;rintro v o1 w1 ⟨rfl,l1⟩;try aE
 refine ax ?_;exact⟨.inr trivial,trivial,_,resultsC_tmp (t:=4) ar _,rfl,l1⟩
theorem Mi{wl:ae}{A d:Nat}(h:wl.heap[A]?=some (Obj.cells Lib.zeros24 326))(hd:d<=20):Sort.Holds (fun b:UInt8=>Value.int .u8 (b.toNat:Int)) wl A 1 (Array.replicate d 0):=by
 intro j hj;rw[fD] at hj;refine⟨?_,?_⟩
 ·simp only[World.cell?,h,Option.isSome_none,aM,if_false];rw[Lib.zeros24_at (1+j) aa,eP _ _ (by simpa using hj)];simp
 ·simp[World.frozen?,h]
theorem SO(hW:sj T i)(n A d:Nat)(hd:d<=20)(hn:n<10^d)(NW:n<=1000000000000)(gj:gF T o w)(hA:o A)(IV:w.heap[A]?=some (Obj.cells Lib.zeros24 326)):
  bA au (XW au T i V E rc) 247 #[.slice (some ⟨A,1,none⟩) d 23,.int .u64 n] o w fun v o' w'=>v=.tuple #[]/\cY T i (fun b=>o b/\b≠A) rc w w'/\gF T o' w'/\(∀b,o b->o' b) /\
   ∃v' dk,Lib.FmtInv d n 0 v' dk/\∀j,j<d->w'.cell? ⟨A,1+j,none⟩=some (.int .u8 ((dk[j]!).toNat:Int)):=by
 refine wW (N:=fun b=>b==A) (R:=fun wl v w'=>v=.tuple #[]/\∃v' dk,Lib.FmtInv d n 0 v' dk/\∀j,j<d->w'.cell? ⟨A,1+j,none⟩=some (.int .u8 ((dk[j]!).toNat:Int))) hW.ok hW.i CP iq hW.kz ah gj (fun b hb=>by simp at hb;subst hb;exact hA)
  (fun b hb=>by simp at hb;subst hb;exact⟨_,IV,rfl,fun f _=>by simp[obj,Lib.zeros24]⟩) (fun g hg=>by simp[val,addr,hg A aj]) (fun wl v w' τ dr h=>h) (fun wl τ dr v w' h=>h) (fun wl h1 h2=>?_) ?_
 ·have hx:wl.heap[A]?=some (Obj.cells Lib.zeros24 326):=by rw[h1 A aj,IV]
  have hH:=Mi (d:=d) hx hd;have hf:=Tryz.internal_strconv_formatBase10 A 1 23 n (Array.replicate d 0) wl hH (by rw[fD];exact hn) aa (by rw[fD];omega);rw[fD] at hf;refine hf.mono ?_;rintro e w' ⟨rfl,k,v',dk,rfl,hF⟩;refine⟨_,rfl,rfl,v',dk,hF,fun j hj=>?_⟩;rw[World.cell?_drewN];exact Sort.cell?_putRow (fun(b:UInt8)=>Value.int .u8 (b.toNat:Int)) _ A 1 _ dk hH (by rw[hF.size,fD]) j (by rw[hF.size];exact hj)
 ·rintro wl v v' F' o' aW w' h1 h2 ⟨rfl,u',dk,hF,hc⟩ hB;refine⟨hB.plain fun f=>aj,hB.rel.less fun b hb=>⟨hb.1,by simpa using hb.2⟩,⟨hB.vj,aX gj.size hB.rel.size⟩,hB.more,u',dk,hF,fun j hj=>hB.cell aj (fun f=>aj) (hc j hj)⟩
theorem Jo(hW:sj T i)(hq:Quiet T 1)(n:Nat)(hn:¬n<100)(NW:n<=1000000000000)(gj:gF T o w)(ht:∀q,q<20->w.cell? ⟨1,q,none⟩=some (.int .u64 ((10^q:Nat):Int))):
  bA au (XW au T i V E rc) 233 #[.int .i64 n,.int .i64 10] o w fun v o' w'=>v=.string ⟨(Lib.decDigits n).toArray⟩/\cT T i rc o w o' w':=by
 have W:=cN (P:=au) (T:=T) (i:=i) (V:=V) (E:=E) rc;have hi:¬(n:Int)<100:=aa;have h0:¬(n:Int)<0:=aa;have hU:IntKind.u64.wrap (n:Int)=n:=by rw[IntKind.wrap_u64];omega
 have hd1:=Lib.nDigits_pos n;have U1:=Lib.nDigits_le20 n aa;have hI:IntKind.i64.wrap (1+(Lib.nDigits n:Int))=1+(Lib.nDigits n:Int):=by rw[IntKind.wrap_i64];omega
 refine bD W func233 ar ?_;refine ax ?_;refine nS hW.ok hW.i gj rfl ar rfl (Obj.cells Lib.zeros24 326) (fun w1=>by simp[go_sem];rfl) (fun w1=>fU) fun A o1 w1 l1 hA IV Rm Gw=>?_;try aE
 refine ax ?_;have SP:∀q,q<20->w1.cell? ⟨1,q,none⟩=some (.int .u64 ((10^q:Nat):Int)):=fun q h=>by rw[hq.cell l1.rel];exact ht q h
 have aht:Lib.l10 (Lib.bitLen n)<20:=by have:=(Lib.numDigits_eq n aa aa).2;omega
 refine cj func246 (Jn hW hq n aa aa l1.ok (SP _ aht)) ?_;rintro v o2 w2 ⟨rfl,l2⟩;try aE
 refine ax ?_;have Pk:au.arrayLen 326=24:=by simp[Program.arrayLen,underlying326]
 have hsl:∀W,(Instr.sliceAt 326 (.pointer (some ⟨A,0,none⟩)) (some (.int .i64 1)) (some (.int .i64 (1+(Lib.nDigits n:Int)))) none).run au W=.ok (.slice (some ⟨A,1,none⟩) (Lib.nDigits n) 23) W:=fun W=>by
  rw[run_sliceAt_array_lh W 326 ⟨A,0,none⟩ (by simp[Program.arrayLen,Program.elem,underlying326]) .i64 .i64 1 (1+(Lib.nDigits n:Int)) aa aa (by rw[Pk];omega)];go_simp;omega
 have Wa:∀W es,(Instr.sliceAt 326 (.pointer (some ⟨A,0,none⟩)) (some (.int .i64 1)) (some (.int .i64 (1+(Lib.nDigits n:Int)))) none).events au W es=es:=fun W es =>
  yr 326 5 24 ⟨A,0,none⟩ .i64 .i64 1 (1+(Lib.nDigits n:Int)) underlying326 aa aa aa
 clear Pk;refine rq W rfl rfl ar (fun w1=>by simp[go_sem,Wa]) fun w1 K hK=>?_;go_simp;refine hK _ ?_;clear hK K w1;try aE
 refine ax ?_;have I4:w2.heap[A]?=some (Obj.cells Lib.zeros24 326):=by rw[l2.rel.own A hA];exact IV
 refine cj func247 (SO hW n A (Lib.nDigits n) U1 (Lib.lt_pow_nDigits n) NW l2.ok (l2.more A hA) I4) ?_;rintro v o3 w3 ⟨rfl,r3,k3,m3,v',dk,hF,qw⟩;try aE
 refine ax ?_;clear Wa hsl;have hS:∀w4,cY T i o3 rc w3 w4->∀j,j<Lib.nDigits n->w4.cell? ⟨A,1+j,none⟩=some (.int .u8 ((dk[j]!).toNat:Int)):=fun w4 hr j hj=>by
  rw[cell_of (a:=⟨A,1+j,none⟩) (hr.own A (m3 A (l2.more A hA)))];exact qw j hj
 have hcv:∀w4,(∀j,j<Lib.nDigits n->w4.cell? ⟨A,1+j,none⟩=some (.int .u8 ((dk[j]!).toNat:Int)))->(convert 90 9 (.slice (some ⟨A,1,none⟩) (Lib.nDigits n) 23)).run au w4=.ok (.string ⟨(Lib.decDigits n).toArray⟩) w4:=fun w4 h4=>by
  have h:=run_convert_bytes_back (P:=au) w4 90 9 5 ⟨A,1,none⟩ 23 (Lib.decDigits n) underlying90 underlying5 underlying9 (fun j hj=>by
   rw[Lib.add_plain,Lib.row_is_numeral hF j hj];exact h4 j (by rw[Lib.decDigits_length] at hj;exact hj))
  rwa[Lib.decDigits_length] at h
 have hce:∀w4,(∀j,j<Lib.nDigits n->w4.cell? ⟨A,1+j,none⟩=some (.int .u8 ((dk[j]!).toNat:Int)))->∀ev∈(convert 90 9 (.slice (some ⟨A,1,none⟩) (Lib.nDigits n) 23)).events au w4 #[],NG T i o3 rc ev:=fun w4 h4 ev he=>by
  have h:=vQ (P:=au) w4 90 9 5 ⟨A,1,none⟩ ((List.range (Lib.nDigits n)).map fun j=>((dk[j]!).toNat:Int)) 23 #[] underlying90 underlying5 underlying9 (fun j hj=>by
   rw[Lib.add_plain,h4 j (by simpa using hj)];simp) ev (by simpa using he)
  rcases h with h|⟨ad,h1,h2,h3⟩
  ·simp at h
  ·obtain⟨l,wt,sy⟩:=ev;simp only at h1 h2;subst h1 h2;exact uC (.inl ⟨A,m3 A (l2.more A hA),h3⟩)
 refine fV W hS rfl ar (fun w4 h4=>⟨.refl _ _,fun e he=>?_⟩) fun w4 h4 K hK=>?_
 ·have:=hce w4 h4 e (by have:=mem_listed he;simpa[go_sem] using this);rw[cd];exact this
 have:=hcv w4 h4;go_simp;refine hK _ ?_;clear hK K this h4 w4 hS hcv hce;try aE
 refine ax ?_;refine⟨.inr trivial,trivial,_,resultsC_tmp (t:=4) ar _,rfl,⟨(l1.trans l2).rel.trans (r3.less fun b hb=>⟨(l1.trans l2).more b hb,?_⟩),k3,fun b hb=>m3 b ((l1.trans l2).more b hb)⟩⟩;have:=(gj.vj b hb).2;omega
end
section
open Go.RowKit
theorem NX{k:IntKind}{a b:Int}(h:a=b):Ending.returned (.int k a)=.returned (.int k b):=by rw[h]
theorem wq{W w1:ae}(hb:Below W.heap.size W w1):(∀b o,b<W.heap.size->w1.cell? ⟨b,o,none⟩=W.cell? ⟨b,o,none⟩)/\(∀b o,b<W.heap.size->w1.frozen? ⟨b,o,none⟩=W.frozen? ⟨b,o,none⟩) :=
 ⟨fun b o h=>hb.cell (p:=⟨b,o,none⟩) h,fun b o h=>hb.frozen (p:=⟨b,o,none⟩) h⟩
theorem take_succ{α:Type}(l:List α)(k:Nat)(h:k<l.length):l.take (k+1)=l.take k++[l[k]]:=List.take_succ_eq_append_getElem h
abbrev V:=Bool×af
def xg(w:ae)(b off:Nat)(vs:List V):Prop:=∀k (h:k<vs.length),w.cell? ⟨b,off+k*2,none⟩=some (.bool vs[k].1)/\w.cell? ⟨b,off+k*2+1,none⟩=some (.string vs[k].2)
theorem xg.below{w w':ae}{b off:Nat}{vs:List V}(h:xg w b off vs)(hb:b<w.heap.size)(hw:Below w.heap.size w w'):xg w' b off vs:=fun k hk=>by
 obtain⟨hc,-⟩:=wq hw;rw[hc _ _ hb,hc _ _ hb];exact h k hk
def fE(w:ae)(b off:Nat)(ts:List af):Prop:=∀k (h:k<ts.length),w.cell? ⟨b,off+k,none⟩=some (.string ts[k])
theorem fE.below{w w':ae}{b off:Nat}{vs:List af}(h:fE w b off vs)(hb:b<w.heap.size)(hw:Below w.heap.size w w'):fE w' b off vs:=fun k hk=>by
 obtain⟨hc,-⟩:=wq hw;rw[hc _ _ hb];exact h k hk
end
section
open Go.RowKit
def cnt(l:List V):Nat:=(l.filter fun v=>v.1).length
theorem CQ(l:List V):cnt l<=l.length:=fj _ _
theorem SQ(l:List V)(k:Nat)(h:k<l.length):cnt (l.take (k+1))=cnt (l.take k)+if l[k].1 then 1 else 0:=by
 rw[take_succ l k h,cnt,List.filter_append,gX];by_cases e:l[k].1<;>simp[cnt,e]
theorem PV(b off c:Nat)(vs:List V)(w:ae)(hn:vs.length<=100000)(hb:b<w.heap.size)(hv:xg w b off vs):
  Calls au 196 #[.slice (some ⟨b,off,none⟩) vs.length c] w fun e w'=>e=.returned (.int .i64 (cnt vs))/\Below w.heap.size w w':=by
 go_enter func196,ntmps196;go_wp2;go_loopw [3,8] (fun n i w'=>∃k:Nat,k<=vs.length/\i=.int .i64 k/\n=.int .i64 (cnt (vs.take k))/\Below w.heap.size w w') (fun _ i _=>vs.length-(intOf i).toNat)
 case atStart=>exact⟨0,aV _,rfl,rfl,Below.refl _ _⟩
 case round =>
  obtain⟨k,hk,rfl,rfl,gB⟩:=hrel;by_cases cB:k<vs.length
  ·obtain⟨h1,h2⟩:=hv.below hb gB k cB;have hz:=gB.size;have HS:Hid (cnt (vs.take (k+1))=cnt (vs.take k)+if vs[k].1 then 1 else 0):=SQ vs k cB;have hle:(cnt (vs.take k):Int)<=100000:=by have:=CQ (vs.take k);have:=jh k vs;omega
   go_wp2
   ·refine⟨⟨k+1,aa,by go_num,?_,gB.alloc hz _⟩,by simp[intOf];omega⟩;rw[HS.out,if_pos ‹_›];go_num
   ·refine⟨⟨k+1,aa,by go_num,?_,gB.alloc hz _⟩,by simp[intOf];omega⟩;rw[HS.out,if_neg (by simp[*])];go_num
  ·go_wp2;go_ret;exact⟨NX (by rw[cJ aa]),gB⟩
end
section
open Go.RowKit
theorem qx:(au.info? 9).map (fun i=>(i.zero,i.size,i.bytes))=some (some (.string aP),1,16):=ah
theorem fE.ZP{w:ae}{b t:Nat}{ts:List af}{f:Nat->Value}(h:w.rowIs b t ts.length f)(hf:∀k (hk:k<ts.length),f k=.string ts[k]):fE w b 0 ts:=fun k hk=>by
 rw[bC,h.cell hk,hf k hk]
theorem Jp(b off c:Nat)(vs:List V)(w:ae)(hn:vs.length<=100000)(hb:b<w.heap.size)(hv:xg w b off vs):
  Calls au 199 #[.slice (some ⟨b,off,none⟩) vs.length c] w fun e w'=>e=.returned (.slice (some ⟨w.heap.size,0,none⟩) vs.length vs.length)/\Below w.heap.size w w'/\w.heap.size<w'.heap.size /\
   w'.rowIs w.heap.size 9 vs.length (fun j=>.string (vs.getD j (false,aP)).2):=by
 have Jq:=run_make_row' (P:=au) 40 9 (.string aP) 16 underlying40 qx rfl .i64 .i64 vs.length aa aa;go_enter func199,ntmps199;go_wp2;go_loopw [11] (fun i w'=>∃k:Nat,k<=vs.length/\i=.int .i64 k/\Below w.heap.size w w'/\w.heap.size<w'.heap.size/\w'.rowIs w.heap.size 9 vs.length (fun j=>if j<k then .string (vs.getD j (false,aP)).2 else .string aP)) (fun i _=>vs.length-(intOf i).toNat)
 case atStart=>exact⟨0,aV _,rfl,(Below.refl _ _).alloc (ag _) _,aj,by simpa using World.rowIs_made w _ _ _⟩
 case round =>
  obtain⟨k,hk,rfl,gB,hz,cp⟩:=hrel;by_cases cB:k<vs.length
  ·obtain⟨h1,h2⟩:=hv.below hb gB k cB;have hc:=cp.cell cB;have hf:=cp.frozen k;rw[if_neg aa] at hc;go_wp2;refine⟨⟨k+1,aa,by go_num,(gB.setCell (ag _) _).alloc (by simp[World.setCell];omega) _,by simp[World.setCell];omega,?_⟩,by simp[intOf];omega⟩;refine((cp.set k _).alloc _).congr fun j hj=>?_;by_cases e:j=k
   ·subst e;simp[List.getD,cB]
   ·by_cases e':j<k
    ·rw[if_neg e,if_pos e',if_pos aa]
    ·rw[if_neg e,if_neg e',if_neg aa]
  ·go_wp2;go_ret;exact⟨rfl,gB,hz,cp.congr fun i hi=>by rw[if_pos aa]⟩
end
section
open Go.RowKit
def zJ(l:List UInt8):Nat:=(l.map UInt8.toNat).sum
def sS(l:List af):Nat:=(l.map fun s=>zJ s.data.toList).sum
def js(l:List af):Nat:=(l.map ByteArray.size).sum
theorem GM(l:List UInt8):zJ l<=255*l.length:=by
 induction l with
 |nil=>simp[zJ]
 |cons c l ih=>have:=c.toNat_lt;simp[zJ] at ih |-;omega
theorem PW(s:af)(k:Nat)(h:k<s.size):zJ (s.data.toList.take (k+1))=zJ (s.data.toList.take k)+s[k].toNat:=by
 rw[take_succ s.data.toList k (by simpa using h)];simp[zJ];rfl
theorem PX(l:List af)(k:Nat)(h:k<l.length):sS (l.take (k+1))=sS (l.take k)+zJ l[k].data.toList:=by
 rw[take_succ l k h,sS,gN,List.sum_append];simp[sS]
theorem NY(l:List af):sS l<=255*js l:=by
 induction l with
 |nil=>simp[sS,js]
 |cons s l ih=>have:=GM s.data.toList;simp[sS,js] at ih this |-;omega
theorem Mj(l:List af)(k:Nat):js (l.take k)<=js l:=by
 induction l generalizing k with
 |nil=>simp
 |cons s l ih=>cases k with
  |zero=>simp[js]
  |succ k=>have:=ih k;simp[js] at this |-;omega
theorem SU(l:List af)(k:Nat)(h:k<l.length):js (l.take k)+l[k].size<=js l:=by
 have:=Mj l (k+1);rw[take_succ l k h,js,gN,List.sum_append] at this;simpa[js] using this
theorem Wc(b off c:Nat)(ts:List af)(w:ae)(hn:ts.length<=100000)(hm:js ts<=1000000)(ht:fE w b off ts):
  Calls au 212 #[.slice (some ⟨b,off,none⟩) ts.length c] w fun e w'=>e=.returned (.int .i64 (sS ts))/\w'=w:=by
 go_enter func212,ntmps212;go_wp2;go_loop [3,9] (fun n i=>∃k:Nat,k<=ts.length/\i=.int .i64 k/\n=.int .i64 (sS (ts.take k))) (fun _ i=>ts.length-(intOf i).toNat)
 case atStart=>exact⟨0,aV _,rfl,rfl⟩
 case round =>
  obtain⟨k,hk,rfl,rfl⟩:=hrel;by_cases cB:k<ts.length
  ·have h1:=ht k cB;have hz:=SU ts k cB;have hle:sS (ts.take k)<=255*js (ts.take k):=NY _;have hs:ts[k].size<=1000000:=aa;have HS:Hid (sS (ts.take (k+1))=sS (ts.take k)+zJ ts[k].data.toList):=PX ts k cB;generalize tJ:ts[k]=t at h1 hz hs HS;clear tJ;go_wp2;go_loop [3,15] (fun n i=>∃j:Nat,j<=t.size/\i=.int .i64 j/\n=.int .i64 (sS (ts.take k)+zJ (t.data.toList.take j):Nat)) (fun _ i=>t.size-(intOf i).toNat)
   case atStart=>exact⟨0,aV _,rfl,by simp[zJ]⟩
   case round =>
    obtain⟨j,hj,rfl,rfl⟩:=hrel;by_cases hjt:j<t.size
    ·have HB:Hid (zJ (t.data.toList.take (j+1))=zJ (t.data.toList.take j)+t[j].toNat):=PW t j hjt;have By:=GM (t.data.toList.take j);have pH:(t.data.toList.take j).length<=j:=jh _ _;have hc:=t[j].toNat_lt;go_wp2
     go_round
     case rel=>exact⟨j+1,aa,by go_num,by rw[HB.out];go_num⟩
     case measure=>simp[intOf];omega
    ·go_wp2
     go_round
     case rel=>exact⟨k+1,aa,by go_num,by rw[HS.out,cJ (l:=t.data.toList) dX]⟩
     case measure=>simp[intOf];omega
  ·go_wp2;go_ret;exact⟨NX (by rw[cJ aa]),rfl⟩
end
section
open Go.RowKit
def flat(ts:List af):List UInt8:=(ts.map fun t=>t.data.toList).flatten
theorem AD(ts:List af):(flat ts).length=js ts:=by
 induction ts with
 |nil=>rfl
 |cons t ts ih=>simp[flat,js] at ih |-;omega
theorem Fx(ts:List af):Lib.join (ts.map fun t=>t.data.toList) (aP).data.toList=flat ts:=by
 cases ts with
 |nil=>rfl
 |cons t r=>rw[aA,Lib.join_cons,Lib.joinTail];simp[flat];rfl
def bytes(l:List UInt8):af:=⟨l.toArray⟩
theorem ZQ(f:List UInt8):(⟨f.toArray⟩:af).extract 0 (min (f.length:Int) 32).toNat=bytes (f.take 32):=by
 have e:(min (f.length:Int) 32).toNat=min f.length 32:=aa;rw[e];apply ByteArray.ext;rw[ByteArray.data_extract];simp[bytes,List.extract_toArray];omega
theorem SV(b off c:Nat)(ts:List af)(w:ae)(hn:ts.length<=100000)(A6:ts.length<=c)(hm:js ts<=1000000)(hb:b<w.heap.size)(ht:fE w b off ts):
  Calls au 210 #[.slice (some ⟨b,off,none⟩) ts.length c] w fun e w'=>e=.returned (.string (bytes ((flat ts).take 32)))/\Below w.heap.size w w':=by
 have hj:=Tryz.strings_Join b off c ts aP w (fun j x hx=>by obtain⟨h1,rfl⟩:=List.getElem?_eq_some_iff.1 hx;exact ht j h1) hb aa A6 (by rw[Fx,AD];omega);rw[Fx] at hj;have hl:(flat ts).length<=1000000:=by rw[AD];exact hm
 generalize flat ts=f at hj hl;clear ht;go_enter func210,ntmps210;go_wp2_with (go_at_call 234;refine hj.mono ?_;rintro e w' ⟨rfl,gB⟩);go_ret;exact⟨by rw[ZQ];rfl,gB⟩
def zK(ts:List af):af:=if ts=[] then aP else Lib.minOfS ts
theorem PY(b off c:Nat)(ts:List af)(w:ae)(hn:ts.length<=100000)(ht:fE w b off ts):
  Calls au 213 #[.slice (some ⟨b,off,none⟩) ts.length c] w fun e w'=>e=.returned (.string (zK ts))/\w'=w:=by
 by_cases h0:ts=[]
 ·subst h0;go_enter func213,ntmps213;go_wp2;go_ret;exact⟨rfl,rfl⟩
 ·have hp:0<ts.length:=List.length_pos_iff.2 h0;have hj:=Tryz.slices_Min_string b off ts.length c ts w hp (ag _) aa (fun j hj=>by rw[ht j hj];simp[List.getD,hj]);rw[cU] at hj;have e:zK ts=Lib.minOfS ts:=by simp[zK,h0]
  rw[e];generalize Lib.minOfS ts=m at hj;have dJ:¬(ts.length:Int)=0:=aa;go_enter func213,ntmps213;go_wp2_with (go_at_call 236;refine hj.mono ?_;rintro e w' ⟨rfl,rfl⟩);go_ret;exact⟨rfl,rfl⟩
end
end Go.Proofs.Kz
namespace Go.Proofs
section
open Go.Shelf
end
end Go.Proofs
namespace Go.Proofs.Kz
open Go.Proofs.Tryz
open Go.Proofs.Tryz renaming prog → au
open _root_.ByteArray renaming empty → aP
open Go.Proofs
section
open Go.RowKit
open Go.Sort (Holds putRow)
def Jr(b:UInt8):Value:=.int .u8 (b.toNat:Int)
theorem Mk(w:ae)(t:af):∃cap w1,(convert 9 90 (.string t)).run au w=.ok (.slice (some ⟨w.heap.size,0,none⟩) t.size cap) w1/\Below w.heap.size w w1/\w1.heap.size=w.heap.size+1/\Holds Jr w1 w.heap.size 0 t.data:=by
 refine⟨_,_,run_bytes_of_string w 9 90 5 t underlying9 underlying90 underlying5,(Below.refl _ _).drew.alloc (ag _) _,aj,fun j hj=>?_⟩;have hb:∀(c:Nat),(bytesRow t c)[j]?=some (Jr t.data[j]!):=fun c=>by
  simp only[bytesRow];rw[Array.getElem?_append_left (by simpa using hj)];rw[aL,aO hj,eP t.data j hj];rfl
 generalize grownCap w t.size 0 5=c;refine⟨?_,?_⟩
 ·rw[bC];exact(World.cell?_alloc_mark w.drew _ _ _ j).trans (hb c)
 ·rw[bC];have sk:j<(bytesRow t c).size:=(Array.getElem?_eq_some_iff.1 (hb c)).1;have:(w.drew.alloc (.cells (bytesRow t c) 5 ((bytesRow t c).size,(bytesRow t c).size+1))).heap[w.heap.size]?=some (.cells (bytesRow t c) 5 ((bytesRow t c).size,(bytesRow t c).size+1)):=by
   show(w.heap.push _)[w.heap.size]?=_;simp
  unfold World.frozen?;rw[this];simp;omega
theorem SW(t:af)(w:ae)(hn:t.size<=1000000):
  Calls au 211 #[.string t] w fun e w'=>e=.returned (.string (bytes t.data.toList.reverse))/\Below w.heap.size w w':=by
 obtain⟨cap,w1,hcv,By,Wd,hh⟩:=Mk w t;have hr:Calls au 235 #[.slice (some ⟨w.heap.size,0,none⟩) t.size cap] w1 fun e w'=>e=.returned (.tuple #[])/\∃n,w'=putRow Jr (Sort.ahead w1 n) w.heap.size 0 t.data.toList.reverse.toArray:=by
  have:=AnyE.slices_Reverse Tryz.ahr Jr (fun _=>rfl) w.heap.size 0 cap t.data.toList w1 (by simpa using hh) dX;change Calls au 235 _ _ _ at this;simpa using this
 have bO:∀n,∃w2,w2=putRow Jr (Sort.ahead w1 n) w.heap.size 0 t.data.toList.reverse.toArray/\Below w.heap.size w w2/\(convert 90 9 (.slice (some ⟨w.heap.size,0,none⟩) t.size cap)).run au w2=.ok (.string (bytes t.data.toList.reverse)) w2:=fun n=>by
  refine⟨_,rfl,Lib.below_putRow By (ag _),?_⟩;have:=run_convert_bytes_back (P:=au) (putRow Jr (Sort.ahead w1 n) w.heap.size 0 t.data.toList.reverse.toArray) 90 9 5 ⟨w.heap.size,0,none⟩ cap t.data.toList.reverse underlying90 underlying5 underlying9 (fun j hj=>by
   have:=(Go.Sort.holds_putRow Jr (Sort.ahead w1 n) w.heap.size 0 t.data t.data.toList.reverse.toArray hh aj j (by simpa using hj)).1;rw[bC] at this;rw[show(⟨w.heap.size,0,none⟩:Addr).add j=⟨w.heap.size,j,none⟩ by unfold Addr.add;simp;omega,this];simp at hj;simp[Jr,hj])
  simpa[bytes] using this
 clear hh;go_enter func211,ntmps211;go_wp2_with (go_at_call 235;refine hr.mono ?_;rintro e w' ⟨rfl,n,va⟩;obtain⟨w2,h2,pH,anY⟩:=bO n;rw[<- h2] at va;clear h2;subst va);go_ret;exact⟨rfl,pH⟩
end
open Go.Ren Go.Conc
theorem Js{w:ae}{b t n:Nat}{f:Nat->Value}(h:w.rowIs b t n f)(hf:∀j,j<n->∀g,val g (f j)=f j):IP (fun x=>x==b) w:=by
 intro x hx;simp at hx;subst hx;obtain⟨c,hb,hn,hc⟩:=h;refine⟨_,hb,rfl,fun g _=>?_⟩;simp only[obj]
 congr 1
 apply jk
 ·simp
 ·intro j h1 h2;have e:=hc j aa;rw[aO h2,ay] at e;simp only[Array.getElem_map];rw[e];exact hf j aa g
def mg(w:ae)(b:Nat)(ts:List af):Prop:=w.rowIs b 9 ts.length fun j=>.string (ts.getD j aP)
theorem mg.texts{w:ae}{b:Nat}{ts:List af}(h:mg w b ts):fE w b 0 ts:=fE.ZP h fun k hk=>by simp[List.getD,hk]
theorem mg.shut{w:ae}{b:Nat}{ts:List af}(h:mg w b ts):IP (fun x=>x==b) w:=Js h fun j _ g=>aj
theorem mg.of_block{w w':ae}{b:Nat}{ts:List af}(h:mg w b ts)(e:w'.heap[b]?=w.heap[b]?):mg w' b ts:=World.rowIs.of_block h e
def l8(r:Int)(ts:List af):af :=
 if r=1 then bytes ((flat ts).take 32) else if r=2 then bytes ((flat ts).take 32).reverse else if r=3 then⟨(Lib.decDigits (sS ts)).toArray⟩ else if r=4 then zK ts else aP
section
variable {T:dq} {i:Nat} {V:Nat->ae->Prop} {E:bL} {rc:Nat->Prop} {o:aN} {w:ae}
def jb(w:ae):Prop:=∀q,q<20->w.cell? ⟨1,q,none⟩=some (.int .u64 ((10^q:Nat):Int))
theorem jb.later(hq:Quiet T 1){o':aN}{w':ae}(h:jb w)(hl:cT T i rc o w o' w'):jb w':=fun q Bm=>by rw[hq.cell hl.rel];exact h q Bm
theorem SX(hW:sj T i)(hq:Quiet T 1)(n:Nat)(NW:n<=1000000000000)(gj:gF T o w)(ht:jb w):
  bA au (XW au T i V E rc) 197 #[.int .i64 n] o w fun v o' w'=>v=.string ⟨(Lib.decDigits n).toArray⟩/\cT T i rc o w o' w':=by
 have W:=cN (P:=au) (T:=T) (i:=i) (V:=V) (E:=E) rc;have hf:bA au (XW au T i V E rc) 233 #[.int .i64 n,.int .i64 10] o w fun v o' w'=>v=.string ⟨(Lib.decDigits n).toArray⟩/\cT T i rc o w o' w':=by
  by_cases h:n<100
  ·exact A8 hW n h gj
  ·exact Jo hW hq n h NW gj ht
 refine ZN W _ ?_;refine bD W func209 ar ?_;refine ax ?_;refine dC W rfl ar rfl func233 ah rfl aI rfl (hf.mono ?_);rintro v o1 w1 ⟨rfl,l1⟩;try aE
 refine ax ?_;exact⟨.inr trivial,trivial,_,resultsC_tmp (t:=2) ar _,rfl,l1⟩
theorem SY(hW:sj T i)(b:Nat)(ts:List af)(hn:ts.length<=100000)(hm:js ts<=1000000)(gj:gF T o w)(hb:o b)(ht:mg w b ts):
  bA au (XW au T i V E rc) 210 #[.slice (some ⟨b,0,none⟩) ts.length ts.length] o w fun v o' w'=>v=.string (bytes ((flat ts).take 32))/\cT T i rc o w o' w' :=
 oK (N:=fun x=>x==b) hW.ok hW.i CP iq hW.kz ah gj (fun x hx=>by simp at hx;subst hx;exact hb) ht.shut (fun g hg=>by simp[val,addr,hg b aj]) _ (fun g=>aj) fun wl h1 h2 =>
  SV b 0 ts.length ts wl hn (ag _) hm (by have:=(gj.vj b hb).2;omega) (ht.of_block (h1 b aj)).texts
theorem ac8(hW:sj T i)(b:Nat)(ts:List af)(hn:ts.length<=100000)(hm:js ts<=1000000)(gj:gF T o w)(hb:o b)(ht:mg w b ts):
  bA au (XW au T i V E rc) 212 #[.slice (some ⟨b,0,none⟩) ts.length ts.length] o w fun v o' w'=>v=.int .i64 (sS ts)/\cT T i rc o w o' w' :=
 oK (N:=fun x=>x==b) hW.ok hW.i CP iq hW.kz ah gj (fun x hx=>by simp at hx;subst hx;exact hb) ht.shut (fun g hg=>by simp[val,addr,hg b aj]) _ (fun g=>aj) fun wl h1 h2 =>
  (Wc b 0 ts.length ts wl hn hm (ht.of_block (h1 b aj)).texts).mono (by rintro e w' ⟨rfl,rfl⟩;exact⟨rfl,.refl _ _⟩)
theorem We(hW:sj T i)(b:Nat)(ts:List af)(hn:ts.length<=100000)(gj:gF T o w)(hb:o b)(ht:mg w b ts):
  bA au (XW au T i V E rc) 213 #[.slice (some ⟨b,0,none⟩) ts.length ts.length] o w fun v o' w'=>v=.string (zK ts)/\cT T i rc o w o' w' :=
 oK (N:=fun x=>x==b) hW.ok hW.i CP iq hW.kz ah gj (fun x hx=>by simp at hx;subst hx;exact hb) ht.shut (fun g hg=>by simp[val,addr,hg b aj]) _ (fun g=>aj) fun wl h1 h2 =>
  (PY b 0 ts.length ts wl hn (ht.of_block (h1 b aj)).texts).mono (by rintro e w' ⟨rfl,rfl⟩;exact⟨rfl,.refl _ _⟩)
theorem ZR(hW:sj T i)(t:af)(hn:t.size<=1000000)(gj:gF T o w):
  bA au (XW au T i V E rc) 211 #[.string t] o w fun v o' w'=>v=.string (bytes t.data.toList.reverse)/\cT T i rc o w o' w' :=
 qm hW.ok hW.i CP iq hW.kz ah gj (fun g=>aj) _ (fun g=>aj) fun wl=>SW t wl hn
theorem PZ(hW:sj T i)(hq:Quiet T 1)(r:Int)(hr:r=1\/r=2\/r=3\/r=4)(b:Nat)(ts:List af)(hn:ts.length<=100000)(hm:js ts<=1000000)(gj:gF T o w)(hb:o b)(ht:mg w b ts)(hp:jb w):
  bA au (XW au T i V E rc) 198 #[.int .i64 r,.slice (some ⟨b,0,none⟩) ts.length ts.length] o w fun v o' w'=>v=.string (l8 r ts)/\cT T i rc o w o' w':=by
 have W:=cN (P:=au) (T:=T) (i:=i) (V:=V) (E:=E) rc;have fJ:(bytes ((flat ts).take 32)).size<=1000000:=by
  show((flat ts).take 32).toArray.size<=_;rw[List.size_toArray];have:=jh 32 (flat ts);omega
 rcases hr with rfl|rfl|rfl|rfl
 ·refine bD W func198 ar ?_;refine ax ?_;refine cj func210 (SY hW b ts hn hm gj hb ht) ?_;rintro v o1 w1 ⟨rfl,l1⟩;try aE
  refine ax ?_;exact⟨.inr trivial,trivial,_,resultsC_tmp (t:=4) ar _,rfl,l1⟩
 ·refine bD W func198 ar ?_;refine ax ?_;refine cj func210 (SY hW b ts hn hm gj hb ht) ?_;rintro v o1 w1 ⟨rfl,l1⟩;try aE
  refine ax ?_;refine cj func211 (ZR hW (bytes ((flat ts).take 32)) fJ l1.ok) ?_;rintro v o2 w2 ⟨rfl,l2⟩;try aE
  refine ax ?_;exact⟨.inr trivial,trivial,_,resultsC_tmp (t:=4) ar _,by simp[l8,bytes],l1.trans l2⟩
 ·have hs:sS ts<=1000000000000:=by have:=NY ts;omega
  refine bD W func198 ar ?_;refine ax ?_;refine cj func212 (ac8 hW b ts hn hm gj hb ht) ?_;rintro v o1 w1 ⟨rfl,l1⟩;try aE
  refine ax ?_;refine cj func197 (SX hW hq _ hs l1.ok (hp.later hq l1)) ?_;rintro v o2 w2 ⟨rfl,l2⟩;try aE
  refine ax ?_;exact⟨.inr trivial,trivial,_,resultsC_tmp (t:=4) ar _,rfl,l1.trans l2⟩
 ·refine bD W func198 ar ?_;refine ax ?_;refine cj func213 (We hW b ts hn gj hb ht) ?_;rintro v o1 w1 ⟨rfl,l1⟩;try aE
  refine ax ?_;exact⟨.inr trivial,trivial,_,resultsC_tmp (t:=4) ar _,rfl,l1⟩
end
abbrev V0:V:=(false,aP)
def dZ(vs:List V)(j:Nat):Value:=if j%2=0 then .bool (vs.getD (j/2) V0).1 else .string (vs.getD (j/2) V0).2
def fe(w:ae)(b:Nat)(vs:List V):Prop:=w.rowIs b 159 (vs.length*2) (dZ vs)
theorem wu(vs:List V)(j:Nat)(g:Rn):val g (dZ vs j)=dZ vs j:=by unfold dZ;split<;>simp
theorem fe.lI{w:ae}{b:Nat}{vs:List V}(h:fe w b vs):xg w b 0 vs:=fun k hk=>by
 have h1:=World.rowIs.cell h (i:=k*2) aa;have h2:=World.rowIs.cell h (i:=k*2+1) aa;have e1:dZ vs (k*2)=.bool vs[k].1:=by
  unfold dZ;rw[if_pos aa,show k*2/2=k by omega];simp[List.getD,hk]
 have e2:dZ vs (k*2+1)=.string vs[k].2:=by
  unfold dZ;rw[if_neg aa,show(k*2+1)/2=k by omega];simp[List.getD,hk]
 rw[bC,h1,h2,e1,e2];exact⟨rfl,rfl⟩
theorem fe.shut{w:ae}{b:Nat}{vs:List V}(h:fe w b vs):IP (fun x=>x==b) w:=Js h fun j _ g=>wu vs j g
theorem fe.of_block{w w':ae}{b:Nat}{vs:List V}(h:fe w b vs)(e:w'.heap[b]?=w.heap[b]?):fe w' b vs:=World.rowIs.of_block h e
section
variable {T:dq} {i:Nat} {V:Nat->ae->Prop} {E:bL} {rc:Nat->Prop} {o:aN} {w:ae}
theorem GN(hW:sj T i)(b:Nat)(vs:List Kz.V)(hn:vs.length<=100000)(gj:gF T o w)(hb:o b)(ht:fe w b vs):
  bA au (XW au T i V E rc) 196 #[.slice (some ⟨b,0,none⟩) vs.length vs.length] o w fun v o' w'=>v=.int .i64 (cnt vs)/\cT T i rc o w o' w' :=
 oK (N:=fun x=>x==b) hW.ok hW.i CP iq hW.kz ah gj (fun x hx=>by simp at hx;subst hx;exact hb) ht.shut (fun g hg=>by simp[val,addr,hg b aj]) _ (fun g=>aj) fun wl h1 h2 =>
  PV b 0 vs.length vs wl hn (by have:=(gj.vj b hb).2;omega) (ht.of_block (h1 b aj)).lI
theorem Qa(hW:sj T i)(b:Nat)(vs:List Kz.V)(hn:vs.length<=100000)(gj:gF T o w)(hb:o b)(ht:fe w b vs):
  bA au (XW au T i V E rc) 199 #[.slice (some ⟨b,0,none⟩) vs.length vs.length] o w fun v o' w'=>∃A,v=.slice (some ⟨A,0,none⟩) (vs.map (·.2)).length (vs.map (·.2)).length/\o' A/\mg w' A (vs.map (·.2))/\cT T i rc o w o' w':=by
 refine wW (N:=fun x=>x==b) (R:=fun wl v w'=>v=.slice (some ⟨wl.heap.size,0,none⟩) vs.length vs.length/\(∀x,x<wl.heap.size->w'.heap[x]?=wl.heap[x]?)/\w'.rowIs wl.heap.size 9 vs.length (fun j=>.string (vs.getD j (false,aP)).2)) hW.ok hW.i CP iq hW.kz ah gj
  (fun x hx=>by simp at hx;subst hx;exact hb) ht.shut (fun g hg=>by simp[val,addr,hg b aj]) (fun wl v w' τ d h=>h) (fun wl τ d v w' h=>h) (fun wl h1 h2=>?_) ?_
 ·refine(Jp b 0 vs.length vs wl hn (by have:=(gj.vj b hb).2;omega) (ht.of_block (h1 b aj)).lI).mono ?_;rintro e w' ⟨rfl,hB,_,cp⟩;exact⟨_,rfl,rfl,hB.block,cp⟩
 ·rintro wl v v' F' o' aW w' h1 h2 ⟨rfl,eI,cp⟩ hB;obtain⟨hK,rfl,pK⟩:=hB.slice;have hrel:=hB.stays ht.shut h1 (fun x hx=>eI x (by simp at hx;subst hx;have:=(gj.vj x hb).2;omega));refine⟨F'.φ wl.heap.size,aj,pK,?_,hrel,⟨hB.vj,aX gj.size hrel.size⟩,hB.more⟩;have GO:=ZC hB.wr hK (fun j _ f=>aj) cp;show w'.rowIs _ _ (vs.map (·.2)).length _;rw[bR];refine GO.congr fun j hj=>?_;simp[List.getD,hj]
def jc(r:Int)(vs:List Kz.V):Kz.V:=if r=5 then(true,⟨(Lib.decDigits (cnt vs)).toArray⟩) else if cnt vs<vs.length then(false,aP) else(true,l8 r (vs.map (·.2)))
theorem Ml(hW:sj T i)(hq:Quiet T 1)(b:Nat)(vs:List Kz.V)(hn:vs.length<=100000)(gj:gF T o w)(hb:o b)(ht:fe w b vs)(hp:jb w):
  bA au (XW au T i V E rc) 163 #[.int .i64 5,.slice (some ⟨b,0,none⟩) vs.length vs.length] o w fun v o' w'=>v=.agg #[.bool (jc 5 vs).1,.string (jc 5 vs).2]/\cT T i rc o w o' w':=by
 have W:=cN (P:=au) (T:=T) (i:=i) (V:=V) (E:=E) rc;have hc:cnt vs<=1000000000000:=by have:=CQ vs;omega
 refine eC W func163 ar ?_;refine ax ?_;refine nS hW.ok hW.i gj rfl ar rfl (Obj.cells #[.bool false,.string aP] 159) (fun w1=>by simp[go_sem];rfl) (fun w1=>fU) fun A o1 w1 l1 hA IV Rm Gw=>?_;try aE
 refine ax ?_;have HV:fe w1 b vs:=ht.of_block (l1.rel.own b hb);refine cj func196 (GN hW b vs hn l1.ok (l1.more b hb) HV) ?_;rintro v o2 w2 ⟨rfl,l2⟩;try aE
 refine ax ?_;refine cj func197 (SX hW hq (cnt vs) hc l2.ok ((hp.later hq l1).later hq l2)) ?_;rintro v o3 w3 ⟨rfl,l3⟩;try aE
 refine ax ?_;have vn:w3.heap[A]?=some (Obj.cells #[.bool false,.string aP] 159):=by rw[l3.rel.own A (l2.more A hA),l2.rel.own A hA,IV]
 have cellsOf:∀{w4:ae} {x s:Value},w4.heap[A]?=some (Obj.cells #[x,s] 159)->w4.cell? ⟨A,0,none⟩=some x/\w4.cell? ⟨A,1,none⟩=some s/\w4.frozen? ⟨A,0,none⟩=false/\w4.frozen? ⟨A,1,none⟩=false:=fun h=>by simp[World.cell?,World.frozen?,h]
 refine qo hW.ok hW.i l3.ok rfl ar A (l3.more A (l2.more A hA)) (f:=fun w4=>(w4.setCell ⟨A,0,none⟩ (.bool true)).setCell ⟨A,1,none⟩ (.string ⟨(Lib.decDigits (cnt vs)).toArray⟩)) (fun w4 h4=>?_) (fun w4=>(ij.set _ _ _ _).trans (ij.set _ _ _ _)) (fun w4 h4 e he=>?_) fun w4 h4 l4=>?_
 ·obtain⟨c0,c1,f0,f1⟩:=cellsOf (h4.trans vn);simp[go_sem,c0,c1,f0,f1]
 ·obtain⟨c0,c1,f0,f1⟩:=cellsOf (h4.trans vn);have AW:(w4.setCell ⟨A,0,none⟩ (.bool true)).cell? ⟨A,1,none⟩=some (.string aP):=by rw[World.cell?_setCell_other _ _ _ _ aj];exact c1
  have ZS:(w4.setCell ⟨A,0,none⟩ (.bool true)).frozen? ⟨A,1,none⟩=false:=by simpa using f1
  simp[go_sem,c0,c1,f0,f1] at he;rw[cX _ _ c0 f0 rfl,cX _ _ AW ZS rfl] at he;simp at he;rcases he with rfl|rfl;all_goals exact⟨_,_,_,rfl,rfl⟩
 try aE
 refine ax ?_;have tK:((w4.setCell ⟨A,0,none⟩ (.bool true)).setCell ⟨A,1,none⟩ (.string ⟨(Lib.decDigits (cnt vs)).toArray⟩)).heap[A]?=some (Obj.cells #[.bool true,.string ⟨(Lib.decDigits (cnt vs)).toArray⟩] 159):=by
  simp[World.setCell,aS,h4.trans vn]
 generalize (w4.setCell ⟨A,0,none⟩ (.bool true)).setCell ⟨A,1,none⟩ (.string ⟨(Lib.decDigits (cnt vs)).toArray⟩)=w5 at *;have SZ:¬o A:=fun h=>by have:=(gj.vj A h).2;omega
 refine⟨.inr trivial,trivial,.agg #[.bool true,.string ⟨(Lib.decDigits (cnt vs)).toArray⟩],fun w6 h6=>?_,by simp[jc],((((l1.trans l2).trans l3).wX (A:=A)).trans l4).later SZ⟩;obtain⟨c0,c1,f0,f1⟩:=cellsOf ((h6.own A (l3.more A (l2.more A hA))).trans tK);refine⟨by simp[results,results163,go_sem,c0,c1],fun es Is=>⟨.refl _ _,fun e he=>?_⟩⟩;have:=Is e he;simp[results,results163,go_sem,c0,c1] at this;rcases this with rfl|rfl;all_goals exact yc (.inl (l3.more A (l2.more A hA)))
theorem Mm(hW:sj T i)(hq:Quiet T 1)(r:Int)(hr:r=1\/r=2\/r=3\/r=4)(b:Nat)(vs:List Kz.V)(hn:vs.length<=100000)(hm:js (vs.map (·.2))<=1000000)(vU:cnt vs<vs.length)(gj:gF T o w)(hb:o b)(ht:fe w b vs)(hp:jb w):
  bA au (XW au T i V E rc) 163 #[.int .i64 r,.slice (some ⟨b,0,none⟩) vs.length vs.length] o w fun v o' w'=>v=.agg #[.bool (jc r vs).1,.string (jc r vs).2]/\cT T i rc o w o' w':=by
 have W:=cN (P:=au) (T:=T) (i:=i) (V:=V) (E:=E) rc;have Qb:¬r=5:=aa;have Qc:(r==5)=false:=by simpa using Qb
 have fB:=CQ vs;have cB:(cnt vs:Int)<(vs.length:Int):=aa;refine eC W func163 ar ?_;refine ax ?_;refine nS hW.ok hW.i gj rfl ar rfl (Obj.cells #[.bool false,.string aP] 159) (fun w1=>by simp[go_sem];rfl) (fun w1=>fU) fun A o1 w1 l1 hA IV Rm Gw=>?_;try aE
 refine ax ?_;have HV:fe w1 b vs:=ht.of_block (l1.rel.own b hb);refine cj func196 (GN hW b vs hn l1.ok (l1.more b hb) HV) ?_;rintro v o2 w2 ⟨rfl,l2⟩;try aE
 refine ax ?_;have ZT:o2 A:=l2.more A hA;have lL:cT T i rc o w o2 w2:=l1.trans l2;have vn:w2.heap[A]?=some (Obj.cells #[.bool false,.string aP] 159):=by rw[l2.rel.own A hA,IV]
 have cellsOf:∀{w4:ae} {x s:Value},w4.heap[A]?=some (Obj.cells #[x,s] 159)->w4.cell? ⟨A,0,none⟩=some x/\w4.cell? ⟨A,1,none⟩=some s/\w4.frozen? ⟨A,0,none⟩=false/\w4.frozen? ⟨A,1,none⟩=false:=fun h=>by simp[World.cell?,World.frozen?,h]
 refine qo hW.ok hW.i lL.ok rfl ar A ZT (f:=fun w4=>(w4.setCell ⟨A,0,none⟩ (.bool false)).setCell ⟨A,1,none⟩ (.string aP)) (fun w4 h4=>?_) (fun w4=>(ij.set _ _ _ _).trans (ij.set _ _ _ _)) (fun w4 h4 e he=>?_) fun w4 h4 l4=>?_
 ·obtain⟨c0,c1,f0,f1⟩:=cellsOf (h4.trans vn);simp[go_sem,c0,c1,f0,f1];rfl
 ·obtain⟨c0,c1,f0,f1⟩:=cellsOf (h4.trans vn);have AW:(w4.setCell ⟨A,0,none⟩ (.bool false)).cell? ⟨A,1,none⟩=some (.string aP):=by rw[World.cell?_setCell_other _ _ _ _ aj];exact c1
  have ZS:(w4.setCell ⟨A,0,none⟩ (.bool false)).frozen? ⟨A,1,none⟩=false:=by simpa using f1
  simp[go_sem,c0,c1,f0,f1] at he;rw[cX _ _ c0 f0 rfl,cX _ _ AW ZS rfl] at he;simp at he;rcases he with rfl|rfl;all_goals exact⟨_,_,_,rfl,rfl⟩
 try aE
 refine ax ?_;have tK:((w4.setCell ⟨A,0,none⟩ (.bool false)).setCell ⟨A,1,none⟩ (.string aP)).heap[A]?=some (Obj.cells #[.bool false,.string aP] 159):=by
  simp[World.setCell,aS,h4.trans vn]
 generalize (w4.setCell ⟨A,0,none⟩ (.bool false)).setCell ⟨A,1,none⟩ (.string aP)=w5 at *;have SZ:¬o A:=fun h=>by have:=(gj.vj A h).2;omega
 refine⟨.inr trivial,trivial,.agg #[.bool false,.string aP],fun w6 h6=>?_,by simp[jc, *],((lL.wX (A:=A)).trans l4).later SZ⟩;obtain⟨c0,c1,f0,f1⟩:=cellsOf ((h6.own A ZT).trans tK);refine⟨by simp[results,results163,go_sem,c0,c1],fun es Is=>⟨.refl _ _,fun e he=>?_⟩⟩;have:=Is e he;simp[results,results163,go_sem,c0,c1] at this;rcases this with rfl|rfl;all_goals exact yc (.inl ZT)
theorem S0(hW:sj T i)(hq:Quiet T 1)(r:Int)(hr:r=1\/r=2\/r=3\/r=4)(b:Nat)(vs:List Kz.V)(hn:vs.length<=100000)(hm:js (vs.map (·.2))<=1000000)(vU:¬cnt vs<vs.length)(gj:gF T o w)(hb:o b)(ht:fe w b vs)(hp:jb w):
  bA au (XW au T i V E rc) 163 #[.int .i64 r,.slice (some ⟨b,0,none⟩) vs.length vs.length] o w fun v o' w'=>v=.agg #[.bool (jc r vs).1,.string (jc r vs).2]/\cT T i rc o w o' w':=by
 have W:=cN (P:=au) (T:=T) (i:=i) (V:=V) (E:=E) rc;have Qb:¬r=5:=aa;have Qc:(r==5)=false:=by simpa using Qb
 have fB:=CQ vs;have cB:¬(cnt vs:Int)<(vs.length:Int):=aa;refine eC W func163 ar ?_;refine ax ?_;refine nS hW.ok hW.i gj rfl ar rfl (Obj.cells #[.bool false,.string aP] 159) (fun w1=>by simp[go_sem];rfl) (fun w1=>fU) fun A o1 w1 l1 hA IV Rm Gw=>?_;try aE
 refine ax ?_;have HV:fe w1 b vs:=ht.of_block (l1.rel.own b hb);refine cj func196 (GN hW b vs hn l1.ok (l1.more b hb) HV) ?_;rintro v o2 w2 ⟨rfl,l2⟩;try aE
 refine ax ?_;have KU:fe w2 b vs:=HV.of_block (l2.rel.own b (l1.more b hb));refine cj func199 (Qa hW b vs hn l2.ok (l2.more b (l1.more b hb)) KU) ?_;rintro v o3 w3 ⟨B,rfl,hB,Ro,l3⟩;try aE
 refine ax ?_;refine cj func198 (PZ hW hq r hr B (vs.map (·.2)) (by simpa using hn) hm l3.ok hB Ro (((hp.later hq l1).later hq l2).later hq l3)) ?_;rintro v o4 w9 ⟨rfl,l9⟩;try aE
 refine ax ?_;have ZT:o4 A:=l9.more A (l3.more A (l2.more A hA));have lL:cT T i rc o w o4 w9:=((l1.trans l2).trans l3).trans l9;have vn:w9.heap[A]?=some (Obj.cells #[.bool false,.string aP] 159):=by rw[l9.rel.own A (l3.more A (l2.more A hA)),l3.rel.own A (l2.more A hA),l2.rel.own A hA,IV]
 have cellsOf:∀{w4:ae} {x s:Value},w4.heap[A]?=some (Obj.cells #[x,s] 159)->w4.cell? ⟨A,0,none⟩=some x/\w4.cell? ⟨A,1,none⟩=some s/\w4.frozen? ⟨A,0,none⟩=false/\w4.frozen? ⟨A,1,none⟩=false:=fun h=>by simp[World.cell?,World.frozen?,h]
 refine qo hW.ok hW.i lL.ok rfl ar A ZT (f:=fun w4=>(w4.setCell ⟨A,0,none⟩ (.bool true)).setCell ⟨A,1,none⟩ (.string (l8 r (vs.map (·.2))))) (fun w4 h4=>?_) (fun w4=>(ij.set _ _ _ _).trans (ij.set _ _ _ _)) (fun w4 h4 e he=>?_) fun w4 h4 l4=>?_
 ·obtain⟨c0,c1,f0,f1⟩:=cellsOf (h4.trans vn);simp[go_sem,c0,c1,f0,f1]
 ·obtain⟨c0,c1,f0,f1⟩:=cellsOf (h4.trans vn);have AW:(w4.setCell ⟨A,0,none⟩ (.bool true)).cell? ⟨A,1,none⟩=some (.string aP):=by rw[World.cell?_setCell_other _ _ _ _ aj];exact c1
  have ZS:(w4.setCell ⟨A,0,none⟩ (.bool true)).frozen? ⟨A,1,none⟩=false:=by simpa using f1
  simp[go_sem,c0,c1,f0,f1] at he;rw[cX _ _ c0 f0 rfl,cX _ _ AW ZS rfl] at he;simp at he;rcases he with rfl|rfl;all_goals exact⟨_,_,_,rfl,rfl⟩
 try aE
 refine ax ?_;have tK:((w4.setCell ⟨A,0,none⟩ (.bool true)).setCell ⟨A,1,none⟩ (.string (l8 r (vs.map (·.2))))).heap[A]?=some (Obj.cells #[.bool true,.string (l8 r (vs.map (·.2)))] 159):=by
  simp[World.setCell,aS,h4.trans vn]
 generalize (w4.setCell ⟨A,0,none⟩ (.bool true)).setCell ⟨A,1,none⟩ (.string (l8 r (vs.map (·.2))))=w5 at *;have SZ:¬o A:=fun h=>by have:=(gj.vj A h).2;omega
 refine⟨.inr trivial,trivial,.agg #[.bool true,.string (l8 r (vs.map (·.2)))],fun w6 h6=>?_,by simp[jc, *],((lL.wX (A:=A)).trans l4).later SZ⟩;obtain⟨c0,c1,f0,f1⟩:=cellsOf ((h6.own A ZT).trans tK);refine⟨by simp[results,results163,go_sem,c0,c1],fun es Is=>⟨.refl _ _,fun e he=>?_⟩⟩;have:=Is e he;simp[results,results163,go_sem,c0,c1] at this;rcases this with rfl|rfl;all_goals exact yc (.inl ZT)
end
theorem mixed:au.follows .mixedOrders=true:=ah
theorem lv{t:Array Value}{n:Nat}(h:t.size=n):∃gs:Nat->Value,t=((List.range n).map gs).toArray:=by
 refine⟨fun k=>t.getD k undef,?_⟩;subst h;apply jk
 ·simp
 ·intro i h1 h2;simp[bT,h1]
theorem iJ{a:Act}{n:Nat}(h:a.tmps.size=n)(k:a.defers=[]):∃gs:Nat->Value,a=⟨((List.range n).map gs).toArray,[]⟩:=by
 obtain⟨tm,df⟩:=a;simp only at h k;obtain⟨gs,rfl⟩:=lv h;exact⟨gs,by rw[k]⟩
structure nh where
 n:Nat
 bn:Nat
 Lb:Nat
 Lo:Nat
 St:Nat
 Vb:Nat
 Rb:Nat
 Nb:Nat
 Mb:Nat
 jV:Nat->Int
 ins:Nat->List (Bool×Nat)
 cO:Nat->Nat
 lI:List V
 ch:Nat->Nat
structure ly(D:nh)(w:ae):Prop where
 b0:w.cell? ⟨D.bn,0,none⟩=some (.pointer (some ⟨D.Lb,D.Lo,none⟩))
 b1:w.cell? ⟨D.bn,1,none⟩=some (.slice (some ⟨D.Vb,0,none⟩) D.lI.length D.lI.length)
 b2:w.cell? ⟨D.bn,2,none⟩=some (.slice (some ⟨D.Rb,0,none⟩) D.n D.n)
 b3:w.cell? ⟨D.bn,3,none⟩=some (.slice (some ⟨D.Nb,0,none⟩) D.n D.n)
 b4:w.cell? ⟨D.bn,4,none⟩=some (.slice (some ⟨D.Mb,0,none⟩) D.n D.n)
 steps:w.cell? ⟨D.Lb,D.Lo,none⟩=some (.slice (some ⟨D.St,0,none⟩) D.n D.n)
 eU:∀s,s<D.n->w.cell? ⟨D.St,s*3+1,none⟩=some (.int .i64 (D.jV s))
 A9:∀s,s<D.n->w.cell? ⟨D.St,s*3+2,none⟩=some (.slice (some ⟨D.cO s,0,none⟩) (D.ins s).length (D.ins s).length)
 CR:∀s,s<D.n->∀j (h:j<(D.ins s).length),w.cell? ⟨D.cO s,j*2,none⟩=some (.bool (D.ins s)[j].1)/\w.cell? ⟨D.cO s,j*2+1,none⟩=some (.int .i64 (D.ins s)[j].2)
 lI:xg w D.Vb 0 D.lI
 made:∀s,s<D.n->w.cell? ⟨D.Mb,s,none⟩=some (.chan (some (D.ch s)))
structure zL(D:nh)(T:dq)(ord:Nat->Nat):Prop where
 DY:Quiet T D.bn
 ZU:Quiet T D.Lb
 ZV:Quiet T D.St
 qVb:Quiet T D.Vb
 qMb:Quiet T D.Mb
 Qd:∀s,s<D.n->Quiet T (D.cO s)
 qT:∀i,i<T.n->ord i<D.n
 ch:∀i,i<T.n->T.ch i=D.ch (ord i)
 own:∀i l,T.kg i l↔i<T.n/\((∃j,j<4/\l=.cell ⟨D.Rb,ord i*4+j,none⟩)\/l=.cell ⟨D.Nb,ord i,none⟩)
 Rp:T.Sh D.Rb
 Yh:T.Sh D.Nb
 apart:D.Rb≠D.Nb
 dep:∀i,i<T.n->∀m,(true,m)∈D.ins (ord i)->∃k,k<T.n/\ord k=m/\T.dep i k
 src:∀s,s<D.n->∀m,(false,m)∈D.ins s->m<D.lI.length
 short:∀s,s<D.n->(D.ins s).length<=4
 gY:D.n<=100000
 Wf:D.lI.length<=100000
section
variable {D:nh} {T:dq} {ord:Nat->Nat} {i:Nat} {o rc:Nat->Prop} {w w1:ae}
theorem ly.later(h:ly D w)(q:zL D T ord)(r:cY T i o rc w w1):ly D w1:=by
 constructor
 ·rw[q.DY.cell r];exact h.b0
 ·rw[q.DY.cell r];exact h.b1
 ·rw[q.DY.cell r];exact h.b2
 ·rw[q.DY.cell r];exact h.b3
 ·rw[q.DY.cell r];exact h.b4
 ·rw[q.ZU.cell r];exact h.steps
 ·intro s hs;rw[q.ZV.cell r];exact h.eU s hs
 ·intro s hs;rw[q.ZV.cell r];exact h.A9 s hs
 ·intro s hs j hj;rw[(q.Qd s hs).cell r,(q.Qd s hs).cell r];exact h.CR s hs j hj
 ·intro k hk;rw[q.qVb.cell r,q.qVb.cell r];exact h.lI k hk
 ·intro s hs;rw[q.qMb.cell r];exact h.made s hs
theorem ly.Jt(h:ly D w)(q:zL D T ord)(r:∀b,Quiet T b->w1.heap[b]?=w.heap[b]?):ly D w1:=by
 have rc:∀{b off},Quiet T b->w1.cell? ⟨b,off,none⟩=w.cell? ⟨b,off,none⟩:=fun hb=>cell_of (r _ hb);constructor
 ·rw[rc q.DY];exact h.b0
 ·rw[rc q.DY];exact h.b1
 ·rw[rc q.DY];exact h.b2
 ·rw[rc q.DY];exact h.b3
 ·rw[rc q.DY];exact h.b4
 ·rw[rc q.ZU];exact h.steps
 ·intro s hs;rw[rc q.ZV];exact h.eU s hs
 ·intro s hs;rw[rc q.ZV];exact h.A9 s hs
 ·intro s hs j hj;rw[rc (q.Qd s hs),rc (q.Qd s hs)];exact h.CR s hs j hj
 ·intro k hk;rw[rc q.qVb,rc q.qVb];exact h.lI k hk
 ·intro s hs;rw[rc q.qMb];exact h.made s hs
theorem cY.pA{oo:Nat->Prop}(GC:∀k,rc k->oo k)(h:cY T i o oo w w1):cY T i o rc w w1 :=
 ⟨h.size,h.own,h.ro,h.sh,fun a ha=>h.mine a (ha.imp id fun⟨k,hk,hl⟩=>⟨k,GC k hk,hl⟩),h.chan,h.Ck,h.wg,h.os,h.output⟩
theorem nT{o':aN}{w2:ae}(h:cT T i rc o w o' w1)(hr:cY T i o' rc w1 w2):cT T i rc o w o' w2 :=
 ⟨h.rel.trans (hr.less h.more),⟨fun b hb=>⟨(h.ok.vj b hb).1,bz (h.ok.vj b hb).2 hr.size⟩,aX h.ok.size hr.size⟩,h.more⟩
theorem fH{b off:Nat}{sy:Bool}(h:Quiet T b):NG T i o rc ⟨.cell ⟨b,off,none⟩,false,sy⟩:=uC (.inr (.inr (.inr (h.ro off))))
theorem oT{b off:Nat}{wt sy:Bool}(h:o b):NG T i o rc ⟨.cell ⟨b,off,none⟩,wt,sy⟩:=yc h
end
section
variable {P:Program} {T:dq} {i:Nat} {V:Nat->ae->Prop} {E:bL} {rc o:Nat->Prop} {w:ae}
theorem uD(hT:T.OK)(hi:i<T.n){fn:FuncId}{Q:Exit->Act->aN->ae->Prop}{a:Act}(gj:gF T o w){ops:Array Oper}{j:Nat}{rest:List Nat}{op:Oper}(ho:ops[j]?=some op)(hw:Region.wanted op (yielded ops a.tmps)=true)(A off:Nat)(hA:o A){t n:Nat}{g:Nat->Value}(hr:w.rowIs A t n g)(h0:off+1<n)(x y:Value)(hx:x.oneCell'=true)(hy:y.oneCell'=true)(cL:∀w1,w1.cell? ⟨A,off,none⟩=some (g off)->w1.cell? ⟨A,off+1,none⟩=some (g (off+1))->(∀k,w1.frozen? ⟨A,k,none⟩=false)->(execOp a.eval op).run P w1=.ok .skip ((w1.setCell ⟨A,off,none⟩ x).setCell ⟨A,off+1,none⟩ y))(jl:∀w1,w1.cell? ⟨A,off,none⟩=some (g off)->w1.cell? ⟨A,off+1,none⟩=some (g (off+1))->(∀k,w1.frozen? ⟨A,k,none⟩=false)->∃m m',(execOp a.eval op).events P w1 #[]=(store ⟨A,off+1,none⟩ y m').events P (w1.setCell ⟨A,off,none⟩ x) ((store ⟨A,off,none⟩ x m).events P w1 #[]))(h:∀w2,rJ T i rc A o w o w2->w2.rowIs A t n (fun k=>if k=off+1 then y else if k=off then x else g k)->fa (XW P T i V E rc) fn ops rest Q (a.put op.dst undef) o w2):fa (XW P T i V E rc) fn ops (j::rest) Q a o w:=by
 refine qo hT hi gj ho hw A hA (f:=fun w4=>(w4.setCell ⟨A,off,none⟩ x).setCell ⟨A,off+1,none⟩ y) (fun w1 h1=>?_) (fun w4=>(ij.set _ _ _ _).trans (ij.set _ _ _ _)) (fun w1 h1 e he=>?_) fun w1 h1 l1=>?_
 ·have lE:=hr.of_block h1;exact cL w1 (lE.cell aa) (lE.cell h0) lE.frozen
 ·have lE:=hr.of_block h1;obtain⟨m,m',e1⟩:=jl w1 (lE.cell aa) (lE.cell h0) lE.frozen;rw[e1] at he;have AW:(w1.setCell ⟨A,off,none⟩ x).cell? ⟨A,off+1,none⟩=some (g (off+1)):=by rw[World.cell?_setCell_other _ _ _ _ aj];exact lE.cell h0
  have ZS:(w1.setCell ⟨A,off,none⟩ x).frozen? ⟨A,off+1,none⟩=false:=(lE.set off x).frozen _;rw[cX _ _ (lE.cell aa) (lE.frozen _) hx,cX _ _ AW ZS hy] at he;simp at he;rcases he with rfl|rfl;all_goals exact⟨_,_,_,rfl,rfl⟩
 ·have lE:=hr.of_block h1;exact h _ l1 ((lE.set off x).set (off+1) y)
theorem Ju(hT:T.OK)(hi:i<T.n){fn:FuncId}{Q:Exit->Act->aN->ae->Prop}{a:Act}(gj:gF T o w){ops:Array Oper}{j:Nat}{rest:List Nat}{op:Oper}(ho:ops[j]?=some op)(hw:Region.wanted op (yielded ops a.tmps)=true)(A:Nat)(hA:o A){t:Nat}{g:Nat->Value}(hr:w.rowIs A t 4 g)(x y u v:Value)(hx:x.oneCell'=true)(hy:y.oneCell'=true)(hu:u.oneCell'=true)(hv:v.oneCell'=true)(cL:∀w1,(∀k,k<4->w1.cell? ⟨A,k,none⟩=some (g k))->(∀k,w1.frozen? ⟨A,k,none⟩=false)->(execOp a.eval op).run P w1=.ok .skip ((((w1.setCell ⟨A,0,none⟩ x).setCell ⟨A,1,none⟩ y).setCell ⟨A,2,none⟩ u).setCell ⟨A,3,none⟩ v))(jl:∀w1,(∀k,k<4->w1.cell? ⟨A,k,none⟩=some (g k))->(∀k,w1.frozen? ⟨A,k,none⟩=false)->∃m,(execOp a.eval op).events P w1 #[]=(store ⟨A,3,none⟩ v m).events P (((w1.setCell ⟨A,0,none⟩ x).setCell ⟨A,1,none⟩ y).setCell ⟨A,2,none⟩ u) ((store ⟨A,2,none⟩ u m).events P ((w1.setCell ⟨A,0,none⟩ x).setCell ⟨A,1,none⟩ y) ((store ⟨A,1,none⟩ y m).events P (w1.setCell ⟨A,0,none⟩ x) ((store ⟨A,0,none⟩ x m).events P w1 #[]))))(h:∀w2,rJ T i rc A o w o w2->w2.rowIs A t 4 (fun k=>if k=3 then v else if k=2 then u else if k=1 then y else if k=0 then x else g k)->fa (XW P T i V E rc) fn ops rest Q (a.put op.dst undef) o w2):fa (XW P T i V E rc) fn ops (j::rest) Q a o w:=by
 refine qo hT hi gj ho hw A hA (f:=fun w4=>(((w4.setCell ⟨A,0,none⟩ x).setCell ⟨A,1,none⟩ y).setCell ⟨A,2,none⟩ u).setCell ⟨A,3,none⟩ v) (fun w1 h1=>?_) (fun w4=>(((ij.set _ _ _ _).trans (ij.set _ _ _ _)).trans (ij.set _ _ _ _)).trans (ij.set _ _ _ _)) (fun w1 h1 e he=>?_) fun w1 h1 l1=>?_
 ·have lE:=hr.of_block h1;exact cL w1 (fun k hk=>lE.cell hk) lE.frozen
 ·have lE:=hr.of_block h1;obtain⟨m,e1⟩:=jl w1 (fun k hk=>lE.cell hk) lE.frozen;have r1:=lE.set 0 x;have r2:=r1.set 1 y;have r3:=r2.set 2 u;rw[e1,cX _ _ (lE.cell (i:=0) aa) (lE.frozen _) hx,cX _ _ (r1.cell (i:=1) aa) (r1.frozen _) hy,cX _ _ (r2.cell (i:=2) aa) (r2.frozen _) hu,cX _ _ (r3.cell (i:=3) aa) (r3.frozen _) hv] at he;simp at he;rcases he with rfl|rfl|rfl|rfl;all_goals exact⟨_,_,_,rfl,rfl⟩
 ·have lE:=hr.of_block h1;exact h _ l1 ((((lE.set 0 x).set 1 y).set 2 u).set 3 v)
end
theorem Jv(d:Nat)(a b:Bool)(w:ae)(es:Array Event):(Op.equalIn (d+1) 4 (.bool a) (.bool b)).events au w es=es:=by
 simp[Op.equalIn,go_sem,Sem.events_bind,events_underlying]
theorem xh(d:Nat)(a b:af)(w:ae)(es:Array Event):(Op.equalIn (d+1) 9 (.string a) (.string b)).events au w es=es:=by
 simp[Op.equalIn,go_sem,Sem.events_bind,events_underlying]
theorem Qe(e:Nat)(w:ae)(es:Array Event)(a c:Bool)(b d:af):(Op.equalIn (e+2) 159 (.agg #[.bool a,.string b]) (.agg #[.bool c,.string d])).events au w es=es:=by
 rw[Op.equalIn];simp[go_sem,Sem.events_bind,Jv,xh]
theorem rL(w:ae)(a c:Bool)(b d:af):(binOp .neq 159 (.agg #[.bool a,.string b]) (.agg #[.bool c,.string d])).run au w=.ok (.bool (!decide ((a,b)=(c,d)))) w:=by
 have e:b.toList=d.toList↔b=d:=by
  rw[ByteArray.toList_eq,ByteArray.toList_eq];constructor
  ·intro h;obtain⟨⟨x⟩⟩:=b;obtain⟨⟨y⟩⟩:=d;have h:x=y:=h;rw[h]
  ·rintro rfl;rfl
 simp[go_sem,e];by_cases h1:a=c<;>by_cases h2:b=d<;>simp[h1,h2]
theorem wv(w:ae)(es:Array Event)(a c:Bool)(b d:af):(binOp .neq 159 (.agg #[.bool a,.string b]) (.agg #[.bool c,.string d])).events au w es=es:=by
 simp only[binOp];simp[Op.equal,Op.maxDepth,Sem.events_bind,Qe 9998]
theorem rC(op:BinOp)(x y:Operand)(xs ys:Array Value)(w:ae)(es:Array Event):(eqGuard op 159 x y (.agg xs) (.agg ys)).events au w es=es:=by
 cases op<;>simp[eqGuard,run_program,Sem.events_bind,show au.eqGuardType au.depth 159=false by kernel_rfl]
section
variable {T:dq} {i:Nat} {V:Nat->ae->Prop} {E:bL} {rc:Nat->Prop} {o:aN} {w:ae}
structure EqI(T:dq)(i:Nat)(rc:Nat->Prop)(o0:aN)(w0:ae)(B A:Nat)(xs ys:List Kz.V)(j:Nat)(a:Act)(o:aN)(w:ae):Prop where
 size:a.tmps.size=26
 df:a.defers=[]
 t0:a.eval (.tmp 0)=.slice (some ⟨B,0,none⟩) xs.length xs.length
 t1:a.eval (.tmp 1)=.slice (some ⟨A,0,none⟩) xs.length xs.length
 t12:a.eval (.tmp 12)=.int .i64 xs.length
 t13:a.eval (.tmp 13)=.int .i64 j
 eq:xs.take j=ys.take j
 lat:cT T i rc o0 w0 o w
theorem Wh(hW:sj T i)(B A:Nat)(xs ys:List Kz.V)(hlen:xs.length<=100000)(hly:ys.length<=100000)(gj:gF T o w)(hB:Quiet T B)(hx:xg w B 0 xs)(hA:o A)(hy:xg w A 0 ys):
  bA au (XW au T i V E rc) 162 #[.slice (some ⟨B,0,none⟩) xs.length xs.length,.slice (some ⟨A,0,none⟩) ys.length ys.length] o w fun v o' w'=>v=.bool (decide (xs=ys))/\cT T i rc o w o' w':=by
 have W:=cN (P:=au) (T:=T) (i:=i) (V:=V) (E:=E) rc;refine bD W func162 ar ?_;by_cases hl:xs.length=ys.length
 case neg =>
  have dJ:¬xs=ys:=fun e=>hl (by rw[e]);have ht:((xs.length:Int) != (ys.length:Int))=true:=dX;refine ax ?_;exact⟨.inr trivial,trivial,_,resultsC_tmp (t:=4) ar _,by simp[Act.eval,dJ],.refl gj⟩
 have Rc:ys.length=xs.length:=hl.symm;clear hl;refine ax ?_;refine iQ W (fun n a o' w'=>∃j,n+j=xs.length/\EqI T i rc o w B A xs ys j a o' w') (N:=xs.length) ⟨0,aj,rfl,rfl,aI,by simp[Act.eval,Rc],aI,aI,aj,.refl gj⟩ ?_;rintro n a o1 w1 ⟨j,hnj,fJ,kZ,t0,t1,t12,t13,heq,xi⟩;obtain⟨tm,df⟩:=a;simp only at fJ kZ;subst kZ;obtain⟨gs,rfl⟩:=lv fJ;simp only[List.range,List.range.loop,aA,aQ] at *;simp[Act.eval] at t0 t1 t12 t13;simp only[t0,t1,t12,t13];rcases bh n with hn|hn
 ·have hj:j=xs.length:=aa;subst hj;refine ax ?_;refine⟨.inr trivial,trivial,_,resultsC_tmp (t:=4) ar _,?_,xi⟩;have:xs=ys:=by rw[cU,<- Rc,cU] at heq;exact heq
  simp[Act.eval,this]
 ·have hj:j<xs.length:=aa;have hjy:j<ys.length:=aa;have hjI:(j:Int)<(xs.length:Int):=aa;refine ax ?_;have xa:o1 A:=xi.more A hA;refine vl mixed (n:=8) ah [.slice (some ⟨B,0,none⟩) xs.length xs.length,.int .i64 j,.pointer (some ⟨B,j*2,none⟩),.agg #[.bool xs[j].1,.string xs[j].2],.slice (some ⟨A,0,none⟩) xs.length xs.length,.int .i64 j,.pointer (some ⟨A,j*2,none⟩),.agg #[.bool ys[j].1,.string ys[j].2]]
   (S:=fun o w=>o A/\w.cell? ⟨B,j*2,none⟩=some (.bool xs[j].1)/\w.cell? ⟨B,j*2+1,none⟩=some (.string xs[j].2)/\w.cell? ⟨A,j*2,none⟩=some (.bool ys[j].1)/\w.cell? ⟨A,j*2+1,none⟩=some (.string ys[j].2)/\cT T i rc o1 w1 o w) ?_ ?_ ?_
  ·rintro o w w' ⟨h1,h2,h3,h4,h5,h6⟩ hr;exact⟨h1,by rw[hB.cell hr];exact h2,by rw[hB.cell hr];exact h3,by rw[cell_of (hr.own A h1)];exact h4,by rw[cell_of (hr.own A h1)];exact h5,⟨h6.rel.trans (hr.less h6.more),⟨fun b hb=>⟨(h6.ok.vj b hb).1,bz (h6.ok.vj b hb).2 hr.size⟩,aX h6.ok.size hr.size⟩,h6.more⟩⟩
  ·have e1:=hx j hj;have e2:=hy j hjy;rw[bC] at e1 e2;exact⟨xa,by rw[hB.cell xi.rel];exact e1.1,by rw[hB.cell xi.rel];exact e1.2,by rw[cell_of (xi.rel.own A hA)];exact e2.1,by rw[cell_of (xi.rel.own A hA)];exact e2.2,.refl xi.ok⟩
  ·simp only[List.range,List.range.loop];refine cM rfl rfl (kF fun o2 w2 ⟨s1,s2,s3,s4,s5,s6⟩=>⟨by simp[go_sem,Act.eval],fU⟩) ?_;aE;refine cM rfl rfl (kF fun o2 w2 ⟨s1,s2,s3,s4,s5,s6⟩=>⟨by simp[go_sem,Act.eval],fU⟩) ?_;aE;refine cM rfl rfl (kF fun o2 w2 ⟨s1,s2,s3,s4,s5,s6⟩=>⟨by simp[go_sem, *],by simp[go_sem, *]⟩) ?_;aE;refine cM rfl rfl (kF fun o2 w2 ⟨s1,s2,s3,s4,s5,s6⟩=>⟨by simp[go_sem, *],fun e he=>?_⟩) ?_
   ·simp[go_sem, *] at he;rcases he with rfl|rfl<;>exact fH hB
   aE;refine cM rfl rfl (kF fun o2 w2 ⟨s1,s2,s3,s4,s5,s6⟩=>⟨by simp[go_sem,Act.eval],fU⟩) ?_;aE;refine cM rfl rfl (kF fun o2 w2 ⟨s1,s2,s3,s4,s5,s6⟩=>⟨by simp[go_sem,Act.eval],fU⟩) ?_;aE;refine cM rfl rfl (kF fun o2 w2 ⟨s1,s2,s3,s4,s5,s6⟩=>⟨by simp[go_sem, *],by simp[go_sem, *]⟩) ?_;aE;refine cM rfl rfl (kF fun o2 w2 ⟨s1,s2,s3,s4,s5,s6⟩=>⟨by simp[go_sem, *],fun e he=>?_⟩) ?_
   ·simp[go_sem, *] at he;rcases he with rfl|rfl<;>exact oT s1
   aE;refine oO fun o2 w2 ⟨s1,s2,s3,s4,s5,s6⟩=>?_;clear s2 s3 s4 s5;have Bz:cT T i rc o w o2 w2:=xi.trans s6;by_cases XQ:xs[j]=ys[j]
   ·refine zy W (v:=.bool false) rfl ar (fun w3=>by simp[go_sem,rL,XQ]) (fun w3=>by simp[go_sem,wv,rC]) ?_;refine ax ?_;have ve:IntKind.i64.wrap ((j:Int)+1)=((j+1:Nat):Int):=by rw[IntKind.wrap_i64]<;>omega
    refine⟨n-1,aa,j+1,aa,rfl,rfl,rfl,rfl,rfl,by simp[Act.eval,ve],?_,Bz⟩;rw[take_succ xs j hj,take_succ ys j hjy,heq,XQ]
   ·refine zy W (v:=.bool true) rfl ar (fun w3=>?_) (fun w3=>by simp[go_sem,wv,rC]) ?_
    ·have:xs[j].1=ys[j].1->¬xs[j].2=ys[j].2:=fun h1 h2=>XQ (Prod.ext h1 h2);by_cases h1:xs[j].1=ys[j].1
     ·simp[go_sem,rL,this h1]
     ·simp[go_sem,rL,h1]
    refine ax ?_;have dJ:¬xs=ys:=fun e=>XQ (by subst e;rfl);exact⟨.inr trivial,trivial,_,resultsC_tmp (t:=4) ar _,by simp[Act.eval,dJ],Bz⟩
end
end Go.Proofs.Kz
namespace Go.Ren
open Go.Conc Go.ConcN
section
variable {P:Program} {T:dq} {i:Nat} {V:Nat->ae->Prop} {E:bL}
theorem Jw(hT:T.OK)(hi:i<T.n){rc:Nat->Prop}{fn:FuncId}{Q:Exit->Act->aN->ae->Prop}{a:Act}{o:aN}{w:ae}(gj:gF T o w){ops:Array Oper}{j:Nat}{rest:List Nat}{op:Oper}(ho:ops[j]?=some op)(hw:Region.wanted op (yielded ops a.tmps)=true){d:Option Tmp}(hd:op.dst=d)(x:Obj)(f:Nat->Value)(cL:∀w1,(execOp a.eval op).run P w1=.ok (.value (f w1.heap.size)) (w1.alloc x))(jl:∀w1,(execOp a.eval op).events P w1 #[]=#[])(h:∀A o1 w2,cT T i rc o w o1 w2->o1 A->w2.heap[A]?=some x->w.heap.size<=A->(∀b,o1 b↔o b\/b=A)->fa (XW P T i V E rc) fn ops rest Q (a.put d (f A)) o1 w2):fa (XW P T i V E rc) fn ops (j::rest) Q a o w:=by
 subst hd;refine lH (cN rc) ho hw fun w1 lE K hK=>?_;rw[cL w1];simp only[uponK_value];refine hK _ _ ⟨⟨Ff _ _ (aX gj.size lE.size) hT,by rw[listed_nil (jl w1)];simp⟩,h w1.heap.size _ _ (cT.alloc hT hi gj lE x) (.inr ⟨ag _,aj⟩) ?_ lE.size fun b=>?_⟩
 ·show(w1.heap.push x)[w1.heap.size]?=_;simp
 ·have:=vi o w1 x;exact Iff.of_eq (congrFun this b)
end
end Go.Ren
namespace Go.Proofs.Kz
open Go.Proofs.Tryz
open Go.Proofs.Tryz renaming prog → au
open _root_.ByteArray renaming empty → aP
open Go.Ren Go.Conc Go.Proofs
theorem CS:(au.info? 159).map (fun i=>(i.zero,i.size,i.bytes))=some (some (.agg #[.bool false,.string aP]),2,24):=ah
theorem rM(w:ae)(n:Nat)(hn:n<=100000):(Instr.makeSlice 98 (.int .i64 (n:Int)) (.int .i64 (n:Int))).run au w=.ok (.slice (some ⟨w.heap.size,0,none⟩) n n) (w.alloc (.cells (madeCells #[.bool false,.string aP] (n*2)) 159)):=by
 obtain⟨i,hi,hz⟩:=Option.map_eq_some_iff.1 CS;simp only[bu] at hz;obtain⟨hz,hs,hb⟩:=hz;have:=run_make (P:=au) w 98 159 i _ underlying98 hi hz .i64 .i64 n n aa (fP _) (by rw[hb];omega) aa;rw[this,hs];simp[Value.cells]
theorem Ep(w:ae)(n:Nat)(hn:n<=100000)(es:Array Event):(Instr.makeSlice 98 (.int .i64 (n:Int)) (.int .i64 (n:Int))).events au w es=es:=by
 obtain⟨i,hi,hz⟩:=Option.map_eq_some_iff.1 CS;simp only[bu] at hz;obtain⟨hz,hs,hb⟩:=hz;exact events_make (P:=au) w 98 159 i _ underlying98 hi hz .i64 .i64 n n aa (fP _) (by rw[hb];omega) aa (by rw[hb];simp;omega) es
theorem Jx{w:ae}{A n:Nat}(h:w.heap[A]?=some (.cells (madeCells #[.bool false,.string aP] (n*2)) 159)):fe w A (List.replicate n V0):=by
 refine⟨_,h,by simp[size_madeCells],fun j hj=>?_⟩;simp only[List.length_replicate] at hj;have hV:(List.replicate n V0).getD (j/2) V0=V0:=by simp[List.getD,List.getElem?_replicate];split<;>rfl
 simp only[madeCells,aL,Array.getElem?_range,hj,if_true,aK,dZ,hV];rcases fo j with e|e<;>simp[e]
def Jy(D:nh)(res:Nat->V)(x:Bool×Nat):V:=if x.1 then res x.2 else D.lI.getD x.2 V0
def dV(D:nh)(res:Nat->V)(s:Nat):List V:=(D.ins s).map (Jy D res)
def part(l:List V)(j:Nat):List V:=l.take j++List.replicate (l.length-j) V0
theorem oU(l:List V)(j:Nat)(h:j<=l.length):(part l j).length=l.length:=by simp[part];omega
theorem Fy(l:List V)(j m:Nat)(h:j<=l.length):(part l j).getD m V0=if m<j then l.getD m V0 else V0:=by
 unfold part;simp only[List.getD_eq_getElem?_getD];by_cases hm:m<j
 ·rw[jM dX,if_pos hm,fI hm]
 ·rw[ju dX,if_neg hm,ku];split<;>rfl
theorem CU{w:ae}{A n:Nat}{l:List V}{j:Nat}(hj:j<l.length)(hn:n=l.length*2)(h:w.rowIs A 159 n (fun k=>if k=j*2+1 then .string l[j].2 else if k=j*2 then .bool l[j].1 else dZ (part l j) k)):fe w A (part l (j+1)):=by
 subst hn;unfold fe;rw[oU _ _ aa];refine h.congr fun k hk=>?_;simp only[dZ];rw[Fy _ _ _ aa,Fy _ _ _ aa];have hl:l.getD j V0=l[j]:=by simp[List.getD_eq_getElem?_getD,hj]
 by_cases e1:k=j*2+1
 ·subst e1;rw[if_pos rfl,if_neg aa,show(j*2+1)/2=j by omega,if_pos aa,hl]
 ·rw[if_neg e1];by_cases e2:k=j*2
  ·subst e2;rw[if_pos rfl,if_pos aa,show j*2/2=j by omega,if_pos aa,hl]
  ·rw[if_neg e2];have:(k/2<j↔k/2<j+1):=aa;by_cases e3:k/2<j
   ·rw[if_pos e3,if_pos (this.1 e3)]
   ·rw[if_neg e3,if_neg (fun h=>e3 (this.2 h))]
section
variable {T:dq} {i:Nat} {V:Nat->ae->Prop} {E:bL} {rc:Nat->Prop} {o:aN} {w:ae} {D:nh} {ord:Nat->Nat}
structure WfI(D:nh)(T:dq)(i:Nat)(rc0:Nat->Prop)(o0:aN)(w0:ae)(A B len:Nat)(l:List Kz.V)(j:Nat)(a:Act)(rc:Nat->Prop)(o:aN)(w:ae):Prop where
 size:a.tmps.size=54
 df:a.defers=[]
 t0:a.eval (.tmp 0)=.pointer (some ⟨D.bn,0,none⟩)
 t5:a.eval (.tmp 5)=.slice (some ⟨A,0,none⟩) len len
 t11:a.eval (.tmp 11)=.slice (some ⟨B,0,none⟩) len len
 t12:a.eval (.tmp 12)=.int .i64 len
 t13:a.eval (.tmp 13)=.int .i64 j
 row:fe w A (part l j)
 own:o A
 an3:ly D w
 rcs:∀k,rc0 k->rc k
 lat:cT T i rc0 o0 w0 o w
theorem Qf(hW:sj T i)(hD:zL D T ord)(res:Nat->Kz.V)(hV:∀k w,k<T.n->V k w->w.cell? ⟨D.Rb,ord k*4+2,none⟩=some (.bool (res (ord k)).1)/\w.cell? ⟨D.Rb,ord k*4+3,none⟩=some (.string (res (ord k)).2))(gj:gF T o w)(hd:ly D w):
  Fh au T i V E 161 #[.pointer (some ⟨D.bn,0,none⟩),.slice (some ⟨D.cO (ord i),0,none⟩) (D.ins (ord i)).length (D.ins (ord i)).length] rc o w fun v oo o' w'=>∃A,v=.slice (some ⟨A,0,none⟩) (D.ins (ord i)).length (D.ins (ord i)).length/\o' A/\¬o A/\fe w' A (dV D res (ord i))/\(∀k,rc k->oo k)/\cT T i rc o w o' w':=by
 have W:∀rc,fM au false (fun o=>cY T i o rc) (IJ T i rc) (fun o g w=>gT au T i V E ⟨g,o,rc,w⟩):=fun rc=>cN rc;have W1:=W rc;have hs:=hD.qT i hW.i;have ZW:=hD.short _ hs;have hlen:(dV D res (ord i)).length=(D.ins (ord i)).length:=by simp[dV]
 generalize hL:(D.ins (ord i)).length=len at *;refine GF func161 ar ?_;refine kV (fO ?_);refine ax ?_;refine kV (fO ?_);refine ax ?_;refine Jw hW.ok hW.i gj rfl ar rfl (.cells (madeCells #[.bool false,.string aP] (len*2)) 159) (fun A=>.slice (some ⟨A,0,none⟩) len len) (fun w1=>by simp[go_sem,rM w1 len aa]) (fun w1=>by simp[go_sem,Ep w1 len aa]) fun A o1 w1 l1 hA IV Rm Gw=>?_;try aE
 refine ax ?_;refine kV (kV (fO ?_));refine ax ?_;have SZ:¬o A:=fun h=>by have:=(gj.vj A h).2;omega
 refine Fg (Su (fun n a oo o' w'=>∃j,n+j=len/\WfI D T i rc o w A (D.cO (ord i)) len (dV D res (ord i)) j a oo o' w') (N:=len) ⟨0,aj,rfl,rfl,rfl,rfl,rfl,rfl,aI,by have:=Jx IV;simpa[part,hlen] using this,hA,hd.later hD l1.rel,fun _ h=>h,l1⟩ ?_);rintro n a uE o2 w2 ⟨j,hnj,fJ,kZ,t0,t5,t11,t12,t13,cp,I4,U1,yv,xi⟩;clear IV Rm Gw hA l1 w1 o1 W1;have W1:=W uE;obtain⟨tm,df⟩:=a;simp only at fJ kZ;subst kZ;obtain⟨gs,rfl⟩:=lv fJ;simp only[List.range,List.range.loop,aA,aQ] at *;simp[Act.eval] at t0 t5 t11 t12 t13;simp only[t0,t5,t11,t12,t13];clear t0 t5 t11 t12 t13 fJ;rcases bh n with hn|hn
 ·have hj:j=len:=aa;subst hj;refine kV (fO ?_);refine ax ?_;refine kV (fO ?_);refine ax ?_;refine fO ?_;refine ax ?_;refine⟨.inr trivial,trivial,_,resultsC_tmp (t:=4) ar _,A,rfl,I4,SZ,?_,yv,xi⟩;have:part (dV D res (ord i)) j=dV D res (ord i):=by simp[part,<- hlen]
  rw[<- this];exact cp
 have hj:j<(D.ins (ord i)).length:=aa;have hjI:(j:Int)<(len:Int):=aa;have UR:j<(dV D res (ord i)).length:=aa;have hv:(dV D res (ord i))[j]=Jy D res (D.ins (ord i))[j]:=by simp[dV]
 have Qg:(D.ins (ord i))[j].1=false->(D.ins (ord i))[j].2<D.lI.length:=fun h=>hD.src _ hs _ (by rw[<- h];exact aH hj);have yg:(D.ins (ord i))[j].1=true->∃k,k<T.n/\ord k=(D.ins (ord i))[j].2/\T.dep i k:=fun h=>hD.dep i hW.i _ (by rw[<- h];exact aH hj);have hS:∀w3,cY T i o2 uE w2 w3->w3.cell? ⟨D.cO (ord i),j*2,none⟩=some (.bool (D.ins (ord i))[j].1)/\w3.cell? ⟨D.cO (ord i),j*2+1,none⟩=some (.int .i64 (D.ins (ord i))[j].2):=fun w3 hr=>(U1.later hD hr).CR _ hs j hj;generalize (D.ins (ord i))[j]=q at *;obtain⟨q1,q2⟩:=q;simp only at hS Qg yg;refine kV (fO ?_);refine ax ?_;refine kV (fO ?_);refine ax ?_;refine kV (Fg (kV (fO ?_)));refine ax ?_
 (refine fV W1 hS rfl ar (fun w9 hc=>⟨.refl _ _,fun e he=>?_⟩) fun w9 hc K hK=>?_;(focus (rw[cd];obtain⟨c0,c1⟩:=hc;have he:=mem_listed he;simp[go_sem, *] at he;rcases he with rfl|rfl<;>exact fH (hD.Qd _ hs)));obtain⟨c0,c1⟩:=hc;go_simp;refine hK _ ?_;clear hK K;clear c0 c1 w9;try aE)
 refine nS hW.ok hW.i xi.ok rfl ar rfl (Obj.cells #[.bool false,.int .i64 0] 280) (fun w1=>fU) (fun w1=>fU) fun C o3 w3 l3 hC hCx hwC ho3=>?_;try aE
 refine ax ?_;have hCr:w3.rowIs C 280 2 (fun k=>if k=0 then .bool false else .int .i64 0):=⟨_,hCx,rfl,fun k hk=>by
  rcases(show k=0\/k=1 by omega) with rfl|rfl<;>rfl⟩
 have Bz:cT T i rc o w o3 w3:=xi.trans ⟨cY.pA yv l3.rel,l3.ok,l3.more⟩;have hnC:¬o2 C:=fun h=>by have:=(xi.ok.vj C h).2;omega
 have hCA:A≠C:=fun h=>hnC (h▸I4);refine uD hW.ok hW.i l3.ok rfl ar C 0 hC hCr aa (.bool q1) (.int .i64 q2) rfl rfl (fun w1 c0 c1 f=>?_) (fun w1 c0 c1 f=>⟨.plain,.plain,?_⟩) fun w4 l4 hC4=>?_
 ·simp at c0 c1;simp[go_sem,c0,c1,f]
 ·simp at c0 c1;simp[go_sem,c0,c1,f]
 have K5:cT T i uE o2 w2 o3 w4:=(l3.wX.trans l4).later hnC;clear l4 hCr hCx l3;try aE
 refine ax ?_;refine kV (fO ?_);refine ax ?_;have Rq:∀w5,cY T i o3 uE w4 w5->w5.cell? ⟨C,0,none⟩=some (.bool q1):=fun w5 hr=>by rw[cell_of (hr.own C hC)];exact hC4.cell (i:=0) aa
 (refine fV W1 Rq rfl ar (fun w9 hc=>⟨.refl _ _,fun e he=>?_⟩) fun w9 hc K hK=>?_;(focus (rw[cd];have he:=mem_listed he;simp[go_sem, *] at he;subst he;exact oT hC));go_simp;refine hK _ ?_;clear hK K;clear hc w9;try aE)
 refine ax ?_;have vn:o3 A:=K5.more A I4;have NZ:fe w4 A (part (dV D res (ord i)) j):=cp.of_block (K5.rel.own A I4);have hd4:ly D w4:=U1.later hD K5.rel;have N6:cT T i rc o w o3 w4:=xi.trans ⟨cY.pA yv K5.rel,K5.ok,K5.more⟩;have hC1:w4.cell? ⟨C,1,none⟩=some (.int .i64 q2):=hC4.cell (i:=1) aa;clear Rq hC4 hS cp U1 xi Bz K5 ho3 hwC hnC;cases q1 with
 |false =>
  refine IX rfl (fun h=>by cases h) fun _=>?_;have hq:=Qg rfl;have hqI:(q2:Int)<(D.lI.length:Int):=aa;have Vs:(dV D res (ord i))[j]=D.lI[q2]:=by rw[hv];simp[Jy,List.getD_eq_getElem?_getD,hq]
  refine fO (vl mixed (n:=11) ah [.slice (some ⟨A,0,none⟩) len len,.int .i64 j,.pointer (some ⟨D.bn,0,none⟩),.pointer (some ⟨D.bn,0,none⟩),.pointer (some ⟨D.bn,1,none⟩),.slice (some ⟨D.Vb,0,none⟩) D.lI.length D.lI.length,.pointer (some ⟨C,1,none⟩),.int .i64 q2,.pointer (some ⟨D.Vb,q2*2,none⟩),.agg #[.bool D.lI[q2].1,.string D.lI[q2].2],.pointer (some ⟨A,j*2,none⟩)]
   (S:=fun o5 w5=>o5=o3/\cT T i uE o3 w4 o5 w5) (fun o5 w5 w6 h hr=>⟨h.1,nT h.2 hr⟩) ⟨rfl,.refl N6.ok⟩ ?_)
  have F1:∀o5 w5,o5=o3/\cT T i uE o3 w4 o5 w5->w5.cell? ⟨D.bn,1,none⟩=some (.slice (some ⟨D.Vb,0,none⟩) D.lI.length D.lI.length):=fun o5 w5 h=>(hd4.later hD h.2.rel).b1;have F2:∀o5 w5,o5=o3/\cT T i uE o3 w4 o5 w5->w5.cell? ⟨C,1,none⟩=some (.int .i64 q2):=fun o5 w5 h=>by rw[cell_of (h.2.rel.own C hC)];exact hC1
  have F3:∀o5 w5,o5=o3/\cT T i uE o3 w4 o5 w5->w5.cell? ⟨D.Vb,q2*2,none⟩=some (.bool D.lI[q2].1)/\w5.cell? ⟨D.Vb,q2*2+1,none⟩=some (.string D.lI[q2].2):=fun o5 w5 h=>by have:=(hd4.later hD h.2.rel).lI q2 hq;simpa using this
  simp only[List.range,List.range.loop]
  iterate 5 refine uB ?_
  (refine cM rfl rfl (kF fun o5 w5 nE=>⟨?_,fun e he=>?_⟩) ?_;(focus (have hF:=F1 o5 w5 nE;simp[go_sem,hF];done));(focus (have hF:=F1 o5 w5 nE;simp[go_sem,hF] at he;subst he;exact fH hD.DY));try aE)
  refine uB ?_
  (refine cM rfl rfl (kF fun o5 w5 nE=>⟨?_,fun e he=>?_⟩) ?_;(focus (have hF:=F2 o5 w5 nE;simp[go_sem,hF];done));(focus (have hF:=F2 o5 w5 nE;simp[go_sem,hF] at he;subst he;exact oT (nE.1▸hC)));try aE)
  refine uB ?_
  (refine cM rfl rfl (kF fun o5 w5 nE=>⟨?_,fun e he=>?_⟩) ?_;(focus (have hF:=F3 o5 w5 nE;simp[go_sem,hF.1,hF.2];done));(focus (have hF:=F3 o5 w5 nE;simp[go_sem,hF.1,hF.2] at he;rcases he with rfl|rfl<;>exact fH hD.qVb));try aE)
  refine uB ?_;refine oO ?_;rintro o5 w5 ⟨rfl,l5⟩;have yx:=NZ.of_block (l5.rel.own A vn);refine uD hW.ok hW.i l5.ok rfl ar A (j*2) vn yx (by rw[oU _ _ aa];omega) (.bool (dV D res (ord i))[j].1) (.string (dV D res (ord i))[j].2) rfl rfl (fun w1 c0 c1 f=>?_) (fun w1 c0 c1 f=>⟨.plain,.plain,?_⟩) fun w6 l6 Qc=>?_
  ·rw[Vs];simp[go_sem,c0,c1,f]
  ·rw[Vs];simp[go_sem,c0,c1,f]
  have Jz:=CU UR (by rw[oU _ _ aa]) Qc;have N9:cT T i rc o w o5 w6:=((N6.trans ⟨cY.pA yv l5.rel,l5.ok,l5.more⟩).wX.trans ⟨cY.pA yv l6.rel,l6.ok,l6.more⟩).later SZ;have hd6:ly D w6:=(hd4.later hD l5.rel).later hD l6.rel;clear l5 l6 Qc yx F1 F2 F3;try aE
  refine ax ?_;refine fO ?_;refine ax ?_;have ve:IntKind.i64.wrap ((j:Int)+1)=((j+1:Nat):Int):=by rw[IntKind.wrap_i64]<;>omega
  exact⟨n-1,aa,j+1,aa,rfl,rfl,rfl,rfl,rfl,rfl,by simp[Act.eval,ve],Jz,vn,hd6,yv,N9⟩
 |true =>
  refine IX rfl (fun _=>?_) (fun h=>by cases h);obtain⟨k,hk,rfl,Zx⟩:=yg rfl;have hqn:=hD.qT k hk;have hqI:(ord k:Int)<(D.n:Int):=aa;have Vs:(dV D res (ord i))[j]=res (ord k):=by rw[hv];simp[Jy]
  refine kV ?_;refine PL mixed (n:=8) ah [.pointer (some ⟨D.bn,0,none⟩),.pointer (some ⟨D.bn,0,none⟩),.pointer (some ⟨D.bn,4,none⟩),.slice (some ⟨D.Mb,0,none⟩) D.n D.n,.pointer (some ⟨C,1,none⟩),.int .i64 (ord k),.pointer (some ⟨D.Mb,ord k,none⟩),.chan (some (D.ch (ord k)))]
   (S:=fun w5=>cT T i uE o3 w4 o3 w5) (fun w5 w6 h hr=>nT h hr) (.refl N6.ok) ?_
  have F1:∀w5,cT T i uE o3 w4 o3 w5->w5.cell? ⟨D.bn,4,none⟩=some (.slice (some ⟨D.Mb,0,none⟩) D.n D.n):=fun w5 h=>(hd4.later hD h.rel).b4;have F2:∀w5,cT T i uE o3 w4 o3 w5->w5.cell? ⟨C,1,none⟩=some (.int .i64 (ord k)):=fun w5 h=>by rw[cell_of (h.rel.own C hC)];exact hC1
  have F3:∀w5,cT T i uE o3 w4 o3 w5->w5.cell? ⟨D.Mb,ord k,none⟩=some (.chan (some (D.ch (ord k)))):=fun w5 h=>(hd4.later hD h.rel).made _ hqn;simp only[List.range,List.range.loop]
  iterate 3 refine SK ?_
  (refine cM rfl rfl (fun w5 nE=>⟨?_,fun e he=>?_⟩) ?_;(focus (have hF:=F1 w5 nE;simp[go_sem,hF];done));(focus (have hF:=F1 w5 nE;simp[go_sem,hF] at he;subst he;exact fH hD.DY));try aE)
  refine SK ?_
  (refine cM rfl rfl (fun w5 nE=>⟨?_,fun e he=>?_⟩) ?_;(focus (have hF:=F2 w5 nE;simp[go_sem,hF];done));(focus (have hF:=F2 w5 nE;simp[go_sem,hF] at he;subst he;exact oT hC));try aE)
  refine SK ?_
  (refine cM rfl rfl (fun w5 nE=>⟨?_,fun e he=>?_⟩) ?_;(focus (have hF:=F3 w5 nE;simp[go_sem,hF];done));(focus (have hF:=F3 w5 nE;simp[go_sem,hF] at he;subst he;exact fH hD.qMb));try aE)
  refine oO fun w5 l5=>?_;refine PI (k:=k) (z:=.agg #[]) (f:=false) rfl ar Zx (fun w1=>?_) (fun w1=>fU) rfl fun w6 Qc hVk=>?_
  ·rw[hD.ch k hk];simp[go_sem,rcase]
  have l6:cT T i uE o3 w4 o3 w6:=nT l5 Qc;clear l5 Qc w5 F1 F2 F3;obtain⟨hV1,hV2⟩:=hV k w6 hk hVk;have Ta:∀b,rc b->uE b\/b=k:=fun b hb=>.inl (yv b hb);have W3:=W (fun b=>uE b\/b=k);have hd6:ly D w6:=hd4.later hD l6.rel;have Jz:=NZ.of_block (l6.rel.own A vn);have N9:cT T i rc o w o3 w6:=N6.trans ⟨cY.pA yv l6.rel,l6.ok,l6.more⟩;have hC6:w6.cell? ⟨C,1,none⟩=some (.int .i64 (ord k)):=by rw[cell_of (l6.rel.own C hC)];exact hC1
  refine yf ?_;refine ax ?_;refine fO (vl mixed (n:=12) ah [.slice (some ⟨A,0,none⟩) len len,.int .i64 j,.pointer (some ⟨D.bn,0,none⟩),.pointer (some ⟨D.bn,0,none⟩),.pointer (some ⟨D.bn,2,none⟩),.slice (some ⟨D.Rb,0,none⟩) D.n D.n,.pointer (some ⟨C,1,none⟩),.int .i64 (ord k),.pointer (some ⟨D.Rb,ord k*4,none⟩),.pointer (some ⟨D.Rb,ord k*4+2,none⟩),.agg #[.bool (res (ord k)).1,.string (res (ord k)).2],.pointer (some ⟨A,j*2,none⟩)]
   (S:=fun o5 w5=>o5=o3/\cT T i (fun b=>uE b\/b=k) o3 w6 o5 w5) (fun o5 w5 w6 h hr=>⟨h.1,nT h.2 hr⟩) ⟨rfl,.refl N9.ok⟩ ?_)
  have fy:∀m,m<4->T.kg k (.cell ⟨D.Rb,ord k*4+m,none⟩):=fun m hm=>(hD.own k _).2 ⟨hk,.inl ⟨m,hm,rfl⟩⟩;have F1:∀o5 w5,o5=o3/\cT T i (fun b=>uE b\/b=k) o3 w6 o5 w5->w5.cell? ⟨D.bn,2,none⟩=some (.slice (some ⟨D.Rb,0,none⟩) D.n D.n):=fun o5 w5 h=>(hd6.later hD h.2.rel).b2;have F2:∀o5 w5,o5=o3/\cT T i (fun b=>uE b\/b=k) o3 w6 o5 w5->w5.cell? ⟨C,1,none⟩=some (.int .i64 (ord k)):=fun o5 w5 h=>by rw[cell_of (h.2.rel.own C hC)];exact hC6
  have F3:∀o5 w5,o5=o3/\cT T i (fun b=>uE b\/b=k) o3 w6 o5 w5->w5.cell? ⟨D.Rb,ord k*4+2,none⟩=some (.bool (res (ord k)).1)/\w5.cell? ⟨D.Rb,ord k*4+2+1,none⟩=some (.string (res (ord k)).2):=fun o5 w5 h =>
   ⟨by rw[h.2.rel.mine _ (.inr ⟨k,.inr rfl,fy 2 aa⟩)];exact hV1,by rw[h.2.rel.mine ⟨D.Rb,ord k*4+3,none⟩ (.inr ⟨k,.inr rfl,fy 3 aa⟩)];exact hV2⟩
  simp only[List.range,List.range.loop]
  iterate 5 refine uB ?_
  (refine cM rfl rfl (kF fun o5 w5 nE=>⟨?_,fun e he=>?_⟩) ?_;(focus (have hF:=F1 o5 w5 nE;simp[go_sem,hF];done));(focus (have hF:=F1 o5 w5 nE;simp[go_sem,hF] at he;subst he;exact fH hD.DY));try aE)
  refine uB ?_
  (refine cM rfl rfl (kF fun o5 w5 nE=>⟨?_,fun e he=>?_⟩) ?_;(focus (have hF:=F2 o5 w5 nE;simp[go_sem,hF];done));(focus (have hF:=F2 o5 w5 nE;simp[go_sem,hF] at he;subst he;exact oT (nE.1▸hC)));try aE)
  refine uB ?_;refine uB ?_
  (refine cM rfl rfl (kF fun o5 w5 nE=>⟨?_,fun e he=>?_⟩) ?_;(focus (have hF:=F3 o5 w5 nE;simp[go_sem,hF.1,hF.2];done));(focus (have hF:=F3 o5 w5 nE;simp[go_sem,hF.1,hF.2] at he;rcases he with rfl|rfl<;>(first|exact uC (.inr (.inr (.inl ⟨k,.inr rfl,fy 2 aa⟩)))|exact uC (.inr (.inr (.inl ⟨k,.inr rfl,fy 3 aa⟩))))));try aE)
  refine uB ?_;refine oO ?_;rintro o5 w5 ⟨rfl,l5⟩;have yx:=Jz.of_block (l5.rel.own A vn);refine uD hW.ok hW.i l5.ok rfl ar A (j*2) vn yx (by rw[oU _ _ aa];omega) (.bool (dV D res (ord i))[j].1) (.string (dV D res (ord i))[j].2) rfl rfl (fun w1 c0 c1 f=>?_) (fun w1 c0 c1 f=>⟨.plain,.plain,?_⟩) fun w7 l7 hr7=>?_
  ·rw[Vs];simp[go_sem,c0,c1,f]
  ·rw[Vs];simp[go_sem,c0,c1,f]
  have Tb:=CU UR (by rw[oU _ _ aa]) hr7;have adg:cT T i rc o w o5 w7:=((N9.trans ⟨cY.pA Ta l5.rel,l5.ok,l5.more⟩).wX.trans ⟨cY.pA Ta l7.rel,l7.ok,l7.more⟩).later SZ;have hd7:ly D w7:=(hd6.later hD l5.rel).later hD l7.rel;clear l5 l7 hr7 yx F1 F2 F3;try aE
  refine ax ?_;refine fO ?_;refine ax ?_;have ve:IntKind.i64.wrap ((j:Int)+1)=((j+1:Nat):Int):=by rw[IntKind.wrap_i64]<;>omega
  exact⟨n-1,aa,j+1,aa,rfl,rfl,rfl,rfl,rfl,rfl,by simp[Act.eval,ve],Tb,vn,hd7,Ta,adg⟩
end
end Go.Proofs.Kz
namespace Go.Ren
open Go.Conc Go.ConcN
section
variable {P:Program} {main:Bool} {b:Frame} {a:Act} {k:List Item} {cs:List Frame} {w:ae}
theorem yy{ops:Array Oper}{i:Nat}{rest:List Nat}{o:Oper}{d:Deferred}(ho:ops[i]?=some o)(hw:Region.wanted o (yielded ops a.tmps)=true)(hk:b.kind≠.early)(hr:(execOp a.eval o).run P w=.ok (.defer d) w)(he:(execOp a.eval o).events P w #[]=#[]):
  stepG P main (G (b.at a (.inRegion ops (i::rest)::k)) cs) w=.go (G (b.at (Act.put ⟨a.tmps,d::a.defers⟩ o.dst undef) (.inRegion ops rest::k)) cs) w #[]:=by
 have Ca:(b.at ⟨a.tmps,d::a.defers⟩ (.inRegion ops (i::rest)::k)).finish undef=b.at (Act.put ⟨a.tmps,d::a.defers⟩ o.dst undef) (.inRegion ops rest::k):=by rw[ek,ho];rfl
 have lX:(b.kind==CallKind.early)=false:=by simpa using hk
 rw[stepG_oper ho hw,<- Ca];simp[stepG.apply,hr,he,G,Frame.at,lX,GStep.after,seen_none]
end
section
variable {P:Program} {m:Bool} {R:aN->ae->ae->Prop} {Gu:aN->ae->ae->Array Event->Prop} {X:aN->aY->ae->Prop} {fn:FuncId} {Q:Exit->Act->aN->ae->Prop} {a:Act} {o:aN} {w:ae}
theorem mw(W:fM P m R Gu X){ops:Array Oper}{i:Nat}{rest:List Nat}{op:Oper}{d:Deferred}(ho:ops[i]?=some op)(hw:Region.wanted op (yielded ops a.tmps)=true)(hr:∀w1,(execOp a.eval op).run P w1=.ok (.defer d) w1)(he:∀w1,(execOp a.eval op).events P w1 #[]=#[]){dd:Option Tmp}(hd:op.dst=dd)(h:fa X fn ops rest Q (Act.put ⟨a.tmps,d::a.defers⟩ dd undef) o w):fa X fn ops (i::rest) Q a o w:=by
 subst hd;exact fun b k cs hb hk hc=>W.go rfl (fun w1=>yy ho hw hk (hr w1) (he w1)) (h b k cs hb hk hc)
end
section
variable {P:Program} {T:dq} {i:Nat} {V:Nat->ae->Prop} {E:bL} {rc o:Nat->Prop} {w w':ae}
structure mz(T:dq)(i B:Nat)(w w':ae):Prop where
 size:w'.heap.size=w.heap.size
 heap:∀b,b≠B->w'.heap[b]?=w.heap[b]?
 shape:∀cs ty fz,w.heap[B]?=some (.cells cs ty fz)->∃tH,w'.heap[B]?=some (.cells tH ty fz)/\tH.size=cs.size
 cells:∀a:Addr,a.block=B->¬T.kg i (.cell a)->w'.cell? a=w.cell? a
 os:w'.os=w.os
 output:w'.output=w.output
theorem mz.set(w:ae){B off:Nat}(v:Value)(h:T.kg i (.cell ⟨B,off,none⟩)):mz T i B w (w.setCell ⟨B,off,none⟩ v):=by
 refine⟨by simp[World.setCell],fun b hb=>RowKit.Below.heap_setCell w _ _ b hb,fun cs ty fz hx=>?_,fun a ha hn=>World.cell?_setCell_other _ _ _ _ fun e=>hn (e▸h),rfl,rfl⟩;refine⟨cs.setIfInBounds off v,?_,aj⟩;simp[World.setCell,aS,hx]
theorem mz.trans{B:Nat}{w1 w2:ae}(h:mz T i B w w1)(k:mz T i B w1 w2):mz T i B w w2:=by
 refine⟨k.size.trans h.size,fun b hb=>(k.heap b hb).trans (h.heap b hb),fun cs ty fz hx=>?_,fun a ha hn=>(k.cells a ha hn).trans (h.cells a ha hn),k.os.trans h.os,k.output.trans h.output⟩;obtain⟨c1,e1,e2⟩:=h.shape cs ty fz hx;obtain⟨c2,e3,e4⟩:=k.shape c1 ty fz e1;exact⟨c2,e3,e4.trans e2⟩
theorem mz.guW{B:Nat}(h:mz T i B w w')(hB:T.Sh B):LF T i o w w':=by
 refine⟨bH h.size.symm,fun b _ _ hb=>h.heap b fun e=>hb (e▸hB),fun b cs ty fz hb hx=>?_,fun a ha hn=>?_,h.os,h.output⟩
 ·by_cases e:b=B
  ·subst e;exact h.shape cs ty fz hx
  ·exact⟨cs,by rw[h.heap b e];exact hx,rfl⟩
 ·by_cases e:a.block=B
  ·exact h.cells a e hn
  ·exact cell_of (h.heap _ e)
theorem uF{ad:Addr}{wt sy:Bool}(h:T.kg i (.cell ad)):NG T i o rc ⟨.cell ad,wt,sy⟩:=by
 refine⟨fun x hx _=>.inr (.inl ?_),aj,aj,aj⟩;simp only[MemAct.ofEvent,MemAct.touch?,ay] at hx;subst hx;exact h
theorem AE{fn:FuncId}{Q:Exit->Act->aN->ae->Prop}{a:Act}{ops:Array Oper}{j:Nat}{rest:List Nat}{op:Oper}(ho:ops[j]?=some op)(hw:Region.wanted op (yielded ops a.tmps)=true)(B:Nat)(hB:T.Sh B){f:ae->ae}(cL:∀w1,cY T i o rc w w1->(execOp a.eval op).run P w1=.ok .skip (f w1))(hf:∀w1,mz T i B w1 (f w1))(jl:∀w1,cY T i o rc w w1->∀e∈(execOp a.eval op).events P w1 #[],∃ad wt sy,e=⟨.cell ad,wt,sy⟩/\T.kg i (.cell ad)){d:Option Tmp}(hd:op.dst=d)(h:∀w1,cY T i o rc w w1->mz T i B w1 (f w1)->fa (XW P T i V E rc) fn ops rest Q (a.put d undef) o (f w1)):fa (XW P T i V E rc) fn ops (j::rest) Q a o w:=by
 subst hd;refine lH (cN rc) ho hw fun w1 lE K hK=>?_;rw[cL w1 lE];simp only[uponK_skip];refine hK _ _ ⟨⟨(hf w1).guW hB,fun e he=>?_⟩,?_⟩
 ·obtain⟨ad,wt,sy,rfl,e2⟩:=jl w1 lE e (mem_listed he);exact uF e2
 ·rw[kM o (hf w1).size];exact h w1 lE (hf w1)
theorem gT.close{b:Frame}{a:Act}{cs:List Frame}{todo:List Item}{ds:List Deferred}{sI:Array TypeId}{ty:TypeId}{cns:Array Bool}(hd:a.defers={target:=.builtin .close sI ty cns,args:=#[.chan (some (T.ch i))]}::ds)(hq:(P.funcs[b.fn]?).any (·.norace)=false)(h:∀w1,cY T i o rc w w1->∀s r tm,w1.heap[T.ch i]?=some (.chan 0 #[] false s r tm)->V i w1/\E o (G {b.at ⟨a.tmps,ds⟩ todo with mode:=.returning} cs) (w1.setChan (T.ch i) 0 #[] true s r tm)):
  XW P T i V E rc o (G {b.at a todo with mode:=.returning} cs) w :=
 gT.intro ⟨rfl,.inr (.inr ⟨rfl,fun w1 hr s r tm hc=>⟨_,wZ hd hc hq,rfl,(h w1 hr s r tm hc).1,(h w1 hr s r tm hc).2⟩⟩)⟩
end
section
variable {P:Program} {T:dq} {i:Nat} {V:Nat->ae->Prop} {E:bL} {fn:FuncId} {Q:yd} {a:Act} {rc:Nat->Prop} {o:aN} {w:ae}
theorem Qh{ops:Array Oper}{todo:List Nat}{w1:ae}(h:vM P T i V E fn ops todo Q a rc o w)(hr:cY T i o rc w w1):vM P T i V E fn ops todo Q a rc o w1:=fun b k cs hb hk hc=>gT.rely (h b k cs hb hk hc) hr
theorem Qi{ops:Array Oper}{j:Nat}{rest:List Nat}{op:Oper}(ho:ops[j]?=some op)(hw:Region.wanted op (yielded ops a.tmps)=true)(h:∀w1,cY T i o rc w w1->∀K:Act->ae->Prop,(∀a' w',IJ T i rc o w1 w' (listed P fn a op w1)/\vM P T i V E fn ops rest Q a' rc (grow o w1 w') w'->K a' w')->uponK op a K ((execOp a.eval op).run P w1)):vM P T i V E fn ops (j::rest) Q a rc o w:=by
 intro b k cs hb hk hc;refine(cN rc).step o _ w rfl fun w1 h1=>?_;have:=h w1 h1 _ fun _ _ x=>x;revert this;cases hr:(execOp a.eval op).run P w1 with
 |ok x w' =>
  cases x with
  |value v=>intro q;simp only[uponK_value] at q;exact⟨_,_,_,eJ ho hw hk hr,hb▸q.1,q.2 b k cs hb hk hc⟩
  |skip=>intro q;simp only[uponK_skip] at q;exact⟨_,_,_,jS ho hw hk hr,hb▸q.1,q.2 b k cs hb hk hc⟩
  |_=>intro q;exact q.elim
 |halt _ _=>intro q;exact q.elim
theorem pT{S:ae->Prop}(hS:∀w1,cY T i o rc w w1->S w1){ops:Array Oper}{j:Nat}{rest:List Nat}{op:Oper}(ho:ops[j]?=some op)(hw:Region.wanted op (yielded ops a.tmps)=true)(hg:∀w1,S w1->IJ T i rc o w1 w1 (listed P fn a op w1))(h:∀w1,S w1->∀K:Act->ae->Prop,(∀a',vM P T i V E fn ops rest Q a' rc o w->K a' w1)->uponK op a K ((execOp a.eval op).run P w1)):vM P T i V E fn ops (j::rest) Q a rc o w :=
 Qi ho hw fun w1 h1 K hK=>h w1 (hS w1 h1) K fun a' q=>hK a' w1 ⟨hg w1 (hS w1 h1),by rw[cd];exact Qh q h1⟩
theorem uG{ops:Array Oper}{j:Nat}{rest:List Nat}{op:Oper}(ho:ops[j]?=some op)(_hn:GD op.op=true)(hw:Region.wanted op (yielded ops a.tmps)=true)(hg:∀w1,(execOp a.eval op).events P w1 #[]=#[])(h:∀w1,∀K:Act->ae->Prop,(∀a',vM P T i V E fn ops rest Q a' rc o w->K a' w1)->uponK op a K ((execOp a.eval op).run P w1)):vM P T i V E fn ops (j::rest) Q a rc o w :=
 pT (S:=fun _=>True) (fun _ _=>trivial) ho hw (fun w1 _=>by rw[listed_nil (hg w1)];exact(cN (P:=P) (V:=V) (E:=E) rc).idle _ _) (fun w1 _=>h w1)
end
end Go.Ren
namespace Go.Proofs.Kz
open Go.Proofs.Tryz
open Go.Proofs.Tryz renaming prog → au
open _root_.ByteArray renaming empty → aP
open Go.Ren Go.Conc Go.Proofs
def vR(w:ae)(B:Nat):Prop:=∃c t,w.heap[B]?=some (.cells c t (0,0))
theorem vR.frozen{w:ae}{B:Nat}(h:vR w B)(off:Nat):w.frozen? ⟨B,off,none⟩=false:=by
 obtain⟨c,t,h⟩:=h;simp[World.frozen?,h]
theorem vR.later{w w1:ae}{B:Nat}{T:dq}{i:Nat}{o rc:Nat->Prop}(h:vR w B)(hB:T.Sh B)(hr:cY T i o rc w w1):vR w1 B:=by
 obtain⟨c,t,h⟩:=h;obtain⟨c1,h1,_⟩:=hr.sh B c t _ hB h;exact⟨c1,t,h1⟩
theorem JA(w:ae)(a:Addr)(v u:Value)(h:w.cell? a=some u):(w.setCell a v).cell? a=some v:=World.cell?_setCell_same _ _ _ h
theorem adh{P:Program}{w:ae}{B off:Nat}{x0 x1 x2 x3:Value}(v0 v1 v2 v3:Value)(h0:w.cell? ⟨B,off,none⟩=some x0)(h1:w.cell? ⟨B,off+1,none⟩=some x1)(h2:w.cell? ⟨B,off+2,none⟩=some x2)(h3:w.cell? ⟨B,off+3,none⟩=some x3)(hf:∀k,w.frozen? ⟨B,k,none⟩=false)(o0:v0.oneCell'=true)(o1:v1.oneCell'=true)(o2:v2.oneCell'=true)(o3:v3.oneCell'=true):
  ((((w.setCell ⟨B,off,none⟩ v0).setCell ⟨B,off+1,none⟩ v1).setCell ⟨B,off+2,none⟩ v2).setCell ⟨B,off+3,none⟩ v3).cell? ⟨B,off,none⟩=some v0 /\
  ((((w.setCell ⟨B,off,none⟩ v0).setCell ⟨B,off+1,none⟩ v1).setCell ⟨B,off+2,none⟩ v2).setCell ⟨B,off+3,none⟩ v3).cell? ⟨B,off+1,none⟩=some v1 /\
  ((((w.setCell ⟨B,off,none⟩ v0).setCell ⟨B,off+1,none⟩ v1).setCell ⟨B,off+2,none⟩ v2).setCell ⟨B,off+3,none⟩ v3).cell? ⟨B,off+2,none⟩=some v2 /\
  ((((w.setCell ⟨B,off,none⟩ v0).setCell ⟨B,off+1,none⟩ v1).setCell ⟨B,off+2,none⟩ v2).setCell ⟨B,off+3,none⟩ v3).cell? ⟨B,off+3,none⟩=some v3 /\
  (∀m (e:Event),e∈(store ⟨B,off+3,none⟩ v3 m).events P (((w.setCell ⟨B,off,none⟩ v0).setCell ⟨B,off+1,none⟩ v1).setCell ⟨B,off+2,none⟩ v2) ((store ⟨B,off+2,none⟩ v2 m).events P ((w.setCell ⟨B,off,none⟩ v0).setCell ⟨B,off+1,none⟩ v1) ((store ⟨B,off+1,none⟩ v1 m).events P (w.setCell ⟨B,off,none⟩ v0) ((store ⟨B,off,none⟩ v0 m).events P w #[])))->∃j wt sy,j<4/\e=⟨.cell ⟨B,off+j,none⟩,wt,sy⟩):=by
 have key:∀(w:ae) (a:Addr) (v u:Value),w.cell? a=some u->(w.setCell a v).cell? a=some v:=JA;have LM:∀(w:ae) (i j:Nat) (v:Value),i≠j->(w.setCell ⟨B,i,none⟩ v).cell? ⟨B,j,none⟩=w.cell? ⟨B,j,none⟩:=fun w i j v h=>World.cell?_setCell_other _ _ _ _ (by simp[h]);have fr:∀(w:ae) (i:Nat) (v:Value),(∀k,w.frozen? ⟨B,k,none⟩=false)->∀k,(w.setCell ⟨B,i,none⟩ v).frozen? ⟨B,k,none⟩=false:=fun w i v h k=>by simpa using h k
 have a1:(w.setCell ⟨B,off,none⟩ v0).cell? ⟨B,off+1,none⟩=some x1:=by rw[LM _ _ _ _ aa];exact h1
 have a2:((w.setCell ⟨B,off,none⟩ v0).setCell ⟨B,off+1,none⟩ v1).cell? ⟨B,off+2,none⟩=some x2:=by rw[LM _ _ _ _ aa,LM _ _ _ _ aa];exact h2
 have a3:(((w.setCell ⟨B,off,none⟩ v0).setCell ⟨B,off+1,none⟩ v1).setCell ⟨B,off+2,none⟩ v2).cell? ⟨B,off+3,none⟩=some x3:=by rw[LM _ _ _ _ aa,LM _ _ _ _ aa,LM _ _ _ _ aa];exact h3
 refine⟨?_,?_,?_,key _ _ _ _ a3,fun m e he=>?_⟩
 ·rw[LM _ _ _ _ aa,LM _ _ _ _ aa,LM _ _ _ _ aa];exact key _ _ _ _ h0
 ·rw[LM _ _ _ _ aa,LM _ _ _ _ aa];exact key _ _ _ _ a1
 ·rw[LM _ _ _ _ aa];exact key _ _ _ _ a2
 ·rw[cX _ _ h0 (hf _) o0,cX _ _ a1 (fr _ _ _ hf _) o1,cX _ _ a2 (fr _ _ _ (fr _ _ _ hf) _) o2,cX _ _ a3 (fr _ _ _ (fr _ _ _ (fr _ _ _ hf)) _) o3] at he;simp at he;rcases he with rfl|rfl|rfl|rfl
  ·exact⟨0,_,_,aa,rfl⟩
  ·exact⟨1,_,_,aa,rfl⟩
  ·exact⟨2,_,_,aa,rfl⟩
  ·exact⟨3,_,_,aa,rfl⟩
structure wz(D:nh)(s:Nat)(w:ae)(B:Nat)(vs:List V)(m:V):Prop where
 c0:w.cell? ⟨D.Rb,s*4,none⟩=some (.bool true)
 c1:w.cell? ⟨D.Rb,s*4+1,none⟩=some (.slice (some ⟨B,0,none⟩) vs.length vs.length)
 c2:w.cell? ⟨D.Rb,s*4+2,none⟩=some (.bool m.1)
 c3:w.cell? ⟨D.Rb,s*4+3,none⟩=some (.string m.2)
structure Oa(D:nh)(s:Nat)(w:ae):Prop where
 c0:w.cell? ⟨D.Rb,s*4,none⟩=some (.bool false)
 c1:w.cell? ⟨D.Rb,s*4+1,none⟩=some (.slice none 0 0)
 c2:w.cell? ⟨D.Rb,s*4+2,none⟩=some (.bool false)
 c3:w.cell? ⟨D.Rb,s*4+3,none⟩=some (.string aP)
def GP(D:nh)(T:dq)(s:Nat)(old:Option (Nat×List V))(w:ae):Prop :=
 match old with
 |none=>Oa D s w
 |some (B,vs)=>wz D s w B vs (jc (D.jV s) vs)/\xg w B 0 vs/\Quiet T B/\vs.length<=100000
def nU(D:nh)(s:Nat)(old:Option (Nat×List V))(ins:List V)(m:V)(o:Nat->Prop)(w:ae):Prop :=
 (∃B,old=some (B,ins)/\wz D s w B ins m/\w.cell? ⟨D.Nb,s,none⟩=some (.bool false)) \/
 ((∀B,old≠some (B,ins))/\∃A,o A/\fe w A ins/\wz D s w A ins m/\w.cell? ⟨D.Nb,s,none⟩=some (.bool true))
theorem nU.made{D:nh}{s:Nat}{old:Option (Nat×List V)}{ins:List V}{m:V}{o:Nat->Prop}{w:ae}(h:nU D s old ins m o w):w.cell? ⟨D.Rb,s*4+2,none⟩=some (.bool m.1)/\w.cell? ⟨D.Rb,s*4+3,none⟩=some (.string m.2):=by
 rcases h with⟨B,_,h,_⟩|⟨_,A,_,_,h,_⟩<;>exact⟨h.c2,h.c3⟩
theorem nU.of{D:nh}{s:Nat}{old:Option (Nat×List V)}{ins:List V}{m:V}{o o':Nat->Prop}{w w':ae}(h:nU D s old ins m o w)(hR:∀j,j<4->w'.cell? ⟨D.Rb,s*4+j,none⟩=w.cell? ⟨D.Rb,s*4+j,none⟩)(hN:w'.cell? ⟨D.Nb,s,none⟩=w.cell? ⟨D.Nb,s,none⟩)(ho:∀b,o b->o' b/\w'.heap[b]?=w.heap[b]?):nU D s old ins m o' w':=by
 have hr:∀{B},wz D s w B ins m->wz D s w' B ins m:=fun h=>⟨(hR 0 aa).trans h.c0,(hR 1 aa).trans h.c1,(hR 2 aa).trans h.c2,(hR 3 aa).trans h.c3⟩;rcases h with⟨B,h1,h2,h3⟩|⟨h1,A,h2,h3,h4,h5⟩
 ·exact .inl ⟨B,h1,hr h2,hN.trans h3⟩
 ·exact .inr ⟨h1,A,(ho A h2).1,h3.of_block (ho A h2).2,hr h4,hN.trans h5⟩
theorem GP.some{D:nh}{T:dq}{s:Nat}{old:Option (Nat×List V)}{w:ae}(h:GP D T s old w):∃x0 x1 x2 x3,w.cell? ⟨D.Rb,s*4,none⟩=some x0/\w.cell? ⟨D.Rb,s*4+1,none⟩=some x1/\w.cell? ⟨D.Rb,s*4+2,none⟩=some x2/\w.cell? ⟨D.Rb,s*4+3,none⟩=some x3:=by
 cases old with
 |none=>exact⟨_,_,_,_,h.c0,h.c1,h.c2,h.c3⟩
 |some x=>exact⟨_,_,_,_,h.1.c0,h.1.c1,h.1.c2,h.1.c3⟩
section
variable {T:dq} {i:Nat} {V:Nat->ae->Prop} {E:bL} {rc:Nat->Prop} {o:aN} {w:ae}
theorem ZX(hW:sj T i)(hq:Quiet T 1)(r:Int)(hr:1<=r/\r<=5)(b:Nat)(vs:List Kz.V)(hn:vs.length<=100000)(hm:js (vs.map (·.2))<=1000000)(gj:gF T o w)(hb:o b)(ht:fe w b vs)(hp:jb w):
  bA au (XW au T i V E rc) 163 #[.int .i64 r,.slice (some ⟨b,0,none⟩) vs.length vs.length] o w fun v o' w'=>v=.agg #[.bool (jc r vs).1,.string (jc r vs).2]/\cT T i rc o w o' w':=by
 by_cases h5:r=5
 ·subst h5;exact Ml hW hq b vs hn gj hb ht hp
 ·by_cases hc:cnt vs<vs.length
  ·exact Mm hW hq r aa b vs hn hm hc gj hb ht hp
  ·exact S0 hW hq r aa b vs hn hm hc gj hb ht hp
end
section
variable {T:dq} {i:Nat} {V:Nat->ae->Prop} {E:bL} {rc:Nat->Prop} {o:aN} {w:ae} {D:nh} {ord:Nat->Nat}
theorem ZY(hW:sj T i)(SP:Quiet T 1)(hD:zL D T ord)(res:Nat->Kz.V)(hV:∀k w,k<T.n->V k w->w.cell? ⟨D.Rb,ord k*4+2,none⟩=some (.bool (res (ord k)).1)/\w.cell? ⟨D.Rb,ord k*4+3,none⟩=some (.string (res (ord k)).2))(gj:gF T o w)(hd:ly D w)(hp:jb w)(wV:res (ord i)=jc (D.jV (ord i)) (dV D res (ord i)))(Tc:1<=D.jV (ord i)/\D.jV (ord i)<=5)(rn:js ((dV D res (ord i)).map (·.2))<=1000000)(old:Option (Nat×List Kz.V))(hold:GP D T (ord i) old w)(Wi:w.cell? ⟨D.Nb,ord i,none⟩=some (.bool false))(Td:vR w D.Rb)(ZZ:vR w D.Nb)(c:Frame)(cs:List Frame)(Te:∀oo o' w' (tm:Array Value) (todo:List Item),(∀b,o b->o' b)->(∀b,o' b->T.H0<=b)->(∀b,o b->w'.heap[b]?=w.heap[b]?)->(Go.ConcN.WgLive T.ty T.Wg w->Go.ConcN.WgLive T.ty T.Wg w')->nU D (ord i) old (dV D res (ord i)) (res (ord i)) (fun b=>o' b/\¬o b) w'->∀w1,cY T i o' oo w' w1->∀s r t,w1.heap[T.ch i]?=some (.chan 0 #[] false s r t) ->
   V i w1/\E o' (G {(base 116).at ⟨tm,[]⟩ todo with mode:=.returning} (c::cs)) (w1.setChan (T.ch i) 0 #[] true s r t)):
  XW au T i V E rc o (G (Frame.enter au 116 #[.pointer (some ⟨D.bn,0,none⟩),.int .i64 (ord i)] .normal) (c::cs)) w:=by
 have W:∀rc,fM au false (fun o=>cY T i o rc) (IJ T i rc) (fun o g w=>gT au T i V E ⟨g,o,rc,w⟩):=fun rc=>cN rc;have W1:=W rc;have hs:=hD.qT i hW.i;have hsI:(ord i:Int)<(D.n:Int):=aa;have ZW:=hD.short _ hs;have vK:=hD.ch i hW.i;have fy:∀j,j<4->T.kg i (.cell ⟨D.Rb,ord i*4+j,none⟩):=fun j hj=>(hD.own i _).2 ⟨hW.i,.inl ⟨j,hj,rfl⟩⟩;have CV:T.kg i (.cell ⟨D.Nb,ord i,none⟩):=(hD.own i _).2 ⟨hW.i,.inr rfl⟩;rw[iS func116 rfl];refine kV (P:=au) (fn:=116) (T:=T) (i:=i) (V:=V) (E:=E) (Q:=fun e a' oo o' w'=>(e=.normal\/e=.ret)/\a'.defers=[{target:=.builtin .close #[207] 0 #[false],args:=#[.chan (some (D.ch (ord i)))]}]/\(∀b,o b->o' b)/\(∀b,o' b->T.H0<=b)/\(∀b,o b->w'.heap[b]?=w.heap[b]?)/\(Go.ConcN.WgLive T.ty T.Wg w->Go.ConcN.WgLive T.ty T.Wg w')/\nU D (ord i) old (dV D res (ord i)) (res (ord i)) (fun b=>o' b/\¬o b) w') ?_ (base 116) [] (c::cs) rfl (by simp[base]) ?_
 case refine_2 =>
  rintro e ⟨tm,df⟩ oo o' w' ⟨he,kZ,h1,h5,h2,h4,h3⟩;simp only at kZ;subst kZ;have leave:∀todo,XW au T i V E oo o' (G {(base 116).at ⟨tm,[{target:=.builtin .close #[207] 0 #[false],args:=#[.chan (some (D.ch (ord i)))]}]⟩ todo with mode:=.returning} (c::cs)) w':=fun todo =>
   gT.close (by rw[vK]) ah fun w1 hr s r t hc=>Te oo o' w' tm todo h1 h5 h2 h4 h3 w1 hr s r t hc
  rcases he with rfl|rfl
  ·exact(W oo).go rfl (fun _=>eu) (leave [])
  ·exact leave
 refine fO ?_;refine ax ?_;have K6:∀w3,cY T i o rc w w3->w3.cell? ⟨D.bn,4,none⟩=some (.slice (some ⟨D.Mb,0,none⟩) D.n D.n):=fun w3 hr=>(hd.later hD hr).b4;have Tf:∀w3,cY T i o rc w w3->w3.cell? ⟨D.Mb,ord i,none⟩=some (.chan (some (D.ch (ord i)))):=fun w3 hr=>(hd.later hD hr).made _ hs
 (refine fV W1 K6 rfl ar (fun w9 hc=>⟨.refl _ _,fun e he=>?_⟩) fun w9 hc K hK=>?_;(focus (rw[cd];have he:=mem_listed he;simp[go_sem, *] at he;subst he;exact fH hD.DY));go_simp;refine hK _ ?_;clear hK K;clear hc w9;try aE)
 refine ax ?_
 (refine fV W1 Tf rfl ar (fun w9 hc=>⟨.refl _ _,fun e he=>?_⟩) fun w9 hc K hK=>?_;(focus (rw[cd];have he:=mem_listed he;simp[go_sem, *] at he;subst he;exact fH hD.qMb));go_simp;refine hK _ ?_;clear hK K;clear hc w9;try aE)
 refine mw W1 (d:={target:=.builtin .close #[207] 0 #[false],args:=#[.chan (some (D.ch (ord i)))]}) rfl ar (fun w1=>?_) (fun w1=>fU) rfl ?_
 ·simp[go_sem,vK]
 refine ax ?_;clear K6 Tf;refine kV (LS ?_);refine dR ?_;have K6:∀w3,cY T i o rc w w3->w3.cell? ⟨D.bn,0,none⟩=some (.pointer (some ⟨D.Lb,D.Lo,none⟩)):=fun w3 hr=>(hd.later hD hr).b0;have Tf:∀w3,cY T i o rc w w3->w3.cell? ⟨D.Lb,D.Lo,none⟩=some (.slice (some ⟨D.St,0,none⟩) D.n D.n):=fun w3 hr=>(hd.later hD hr).steps;have hS3:∀w3,cY T i o rc w w3->w3.cell? ⟨D.St,ord i*3+2,none⟩=some (.slice (some ⟨D.cO (ord i),0,none⟩) (D.ins (ord i)).length (D.ins (ord i)).length):=fun w3 hr=>(hd.later hD hr).A9 _ hs
 repeat (refine uG rfl rfl ?_ ?_ ?_;(focus (rfl));(focus (intro w1;first|(simp[go_sem];done)|(simp[go_sem, *];done)));intro w1 K hK;go_simp;refine hK _ ?_;clear hK K w1;try aE)
 (refine pT K6 rfl ar (fun w9 hc=>⟨.refl _ _,fun e he=>?_⟩) fun w9 hc K hK=>?_;(focus (rw[cd];have he:=mem_listed he;simp[go_sem, *] at he;subst he;exact fH hD.DY));go_simp;refine hK _ ?_;clear hK K;clear hc w9;try aE)
 repeat (refine uG rfl rfl ?_ ?_ ?_;(focus (rfl));(focus (intro w1;first|(simp[go_sem];done)|(simp[go_sem, *];done)));intro w1 K hK;go_simp;refine hK _ ?_;clear hK K w1;try aE)
 (refine pT Tf rfl ar (fun w9 hc=>⟨.refl _ _,fun e he=>?_⟩) fun w9 hc K hK=>?_;(focus (rw[cd];have he:=mem_listed he;simp[go_sem, *] at he;subst he;exact fH hD.ZU));go_simp;refine hK _ ?_;clear hK K;clear hc w9;try aE)
 repeat (refine uG rfl rfl ?_ ?_ ?_;(focus (rfl));(focus (intro w1;first|(simp[go_sem];done)|(simp[go_sem, *];done)));intro w1 K hK;go_simp;refine hK _ ?_;clear hK K w1;try aE)
 (refine pT hS3 rfl ar (fun w9 hc=>⟨.refl _ _,fun e he=>?_⟩) fun w9 hc K hK=>?_;(focus (rw[cd];have he:=mem_listed he;simp[go_sem, *] at he;subst he;exact fH hD.ZV));go_simp;refine hK _ ?_;clear hK K;clear hc w9;try aE)
 refine LU rfl ar rfl func161 ah rfl aI rfl ((Qf hW hD res hV gj hd).mono ?_);clear K6 Tf hS3 W1;rintro v uE o2 w2 ⟨A,rfl,hA,SZ,cp,yv,l2⟩;have W2:=W uE;aE;refine yf ?_;refine ax ?_;refine fO ?_;have U1:=hd.later hD l2.rel;have hlen:(dV D res (ord i)).length=(D.ins (ord i)).length:=by simp[dV]
 refine IT W2 (fun a' o' w'=>a'.tmps.size=68/\a'.defers=[{target:=.builtin .close #[207] 0 #[false],args:=#[.chan (some (D.ch (ord i)))]}]/\a'.eval (.tmp 0)=.pointer (some ⟨D.bn,0,none⟩)/\a'.eval (.tmp 1)=.int .i64 (ord i)/\a'.eval (.tmp 4)=.slice (some ⟨A,0,none⟩) (D.ins (ord i)).length (D.ins (ord i)).length/\(∀B,old≠some (B,dV D res (ord i)))/\cT T i uE o2 w2 o' w') ?_ ?_
 case refine_2 =>
  rintro⟨tm,df⟩ o3 w3 ⟨fJ,kZ,t0,t1,t4,zt,l3⟩;simp only at fJ kZ;subst kZ;obtain⟨gs,rfl⟩:=lv fJ;simp only[List.range,List.range.loop,aA,aQ] at *;simp[Act.eval] at t0 t1 t4;simp only[t0,t1,t4];clear t0 t1 t4 fJ;have l3':cT T i rc o w o3 w3:=l2.trans ⟨cY.pA yv l3.rel,l3.ok,l3.more⟩;have hd3:=U1.later hD l3.rel;have vn:o3 A:=l3.more A hA;have Yi:=cp.of_block (l3.rel.own A hA);have hp3:jb w3:=hp.later SP l3';refine pO W2 ?_;refine vl mixed (n:=21) ah [.pointer (some ⟨D.bn,0,none⟩),.pointer (some ⟨D.bn,0,none⟩),.pointer (some ⟨D.bn,2,none⟩),.slice (some ⟨D.Rb,0,none⟩) D.n D.n,.int .i64 (ord i),.slice (some ⟨A,0,none⟩) (D.ins (ord i)).length (D.ins (ord i)).length,.pointer (some ⟨D.bn,0,none⟩),.pointer (some ⟨D.bn,0,none⟩),.pointer (some ⟨D.bn,0,none⟩),.pointer (some ⟨D.Lb,D.Lo,none⟩),.pointer (some ⟨D.Lb,D.Lo,none⟩),.pointer (some ⟨D.Lb,D.Lo,none⟩),.slice (some ⟨D.St,0,none⟩) D.n D.n,.int .i64 (ord i),.pointer (some ⟨D.St,ord i*3,none⟩),.pointer (some ⟨D.St,ord i*3+1,none⟩),.int .i64 (D.jV (ord i)),.slice (some ⟨A,0,none⟩) (D.ins (ord i)).length (D.ins (ord i)).length,.agg #[.bool (res (ord i)).1,.string (res (ord i)).2],.agg #[.bool true,.slice (some ⟨A,0,none⟩) (D.ins (ord i)).length (D.ins (ord i)).length,.bool (res (ord i)).1,.string (res (ord i)).2],.pointer (some ⟨D.Rb,ord i*4,none⟩)]
   (S:=fun o5 w5=>cT T i uE o3 w3 o5 w5) (fun o5 w5 w6 h hr=>nT h hr) (.refl l3.ok) ?_
  have F1:∀o5 w5,cT T i uE o3 w3 o5 w5->w5.cell? ⟨D.bn,2,none⟩=some (.slice (some ⟨D.Rb,0,none⟩) D.n D.n):=fun o5 w5 h=>(hd3.later hD h.rel).b2;have F2:∀o5 w5,cT T i uE o3 w3 o5 w5->w5.cell? ⟨D.bn,0,none⟩=some (.pointer (some ⟨D.Lb,D.Lo,none⟩)):=fun o5 w5 h=>(hd3.later hD h.rel).b0;have F3:∀o5 w5,cT T i uE o3 w3 o5 w5->w5.cell? ⟨D.Lb,D.Lo,none⟩=some (.slice (some ⟨D.St,0,none⟩) D.n D.n):=fun o5 w5 h=>(hd3.later hD h.rel).steps;have F4:∀o5 w5,cT T i uE o3 w3 o5 w5->w5.cell? ⟨D.St,ord i*3+1,none⟩=some (.int .i64 (D.jV (ord i))):=fun o5 w5 h=>(hd3.later hD h.rel).eU _ hs;simp only[List.range,List.range.loop]
  iterate 3 refine uB ?_
  (refine cM rfl rfl (kF fun o5 w5 nE=>⟨?_,fun e he=>?_⟩) ?_;(focus (have hF:=F1 o5 w5 nE;simp[go_sem,hF];done));(focus (have hF:=F1 o5 w5 nE;simp[go_sem,hF] at he;subst he;exact fH hD.DY));try aE)
  iterate 5 refine uB ?_
  (refine cM rfl rfl (kF fun o5 w5 nE=>⟨?_,fun e he=>?_⟩) ?_;(focus (have hF:=F2 o5 w5 nE;simp[go_sem,hF];done));(focus (have hF:=F2 o5 w5 nE;simp[go_sem,hF] at he;subst he;exact fH hD.DY));try aE)
  refine uB ?_;refine uB ?_
  (refine cM rfl rfl (kF fun o5 w5 nE=>⟨?_,fun e he=>?_⟩) ?_;(focus (have hF:=F3 o5 w5 nE;simp[go_sem,hF];done));(focus (have hF:=F3 o5 w5 nE;simp[go_sem,hF] at he;subst he;exact fH hD.ZU));try aE)
  iterate 3 refine uB ?_
  (refine cM rfl rfl (kF fun o5 w5 nE=>⟨?_,fun e he=>?_⟩) ?_;(focus (have hF:=F4 o5 w5 nE;simp[go_sem,hF];done));(focus (have hF:=F4 o5 w5 nE;simp[go_sem,hF] at he;subst he;exact fH hD.ZV));try aE)
  refine uB ?_;refine cM rfl rfl (.inr ⟨163,_,_,_,_,rfl,func163,ah,rfl,fun o5 w5 l5=>?_⟩) ?_
  ·have h:=ZX (V:=V) (E:=E) (rc:=uE) hW SP (D.jV (ord i)) Tc A (dV D res (ord i)) aa rn l5.ok (l5.more A vn) (Yi.of_block (l5.rel.own A vn)) (hp3.later SP l5);rw[hlen,<- wV] at h;simp only[List.map_toArray,aA,aQ,Act.eval];refine h.mono ?_;rintro v o6 w6 ⟨rfl,l6⟩;exact⟨rfl,l5.trans l6⟩
  aE;refine uB ?_;refine uB ?_;refine oO fun o5 w5 l5=>?_;have HJ:cT T i rc o w o5 w5:=l3'.trans ⟨cY.pA yv l5.rel,l5.ok,l5.more⟩;obtain⟨x0,x1,x2,x3,HE,xx,hx2,hx3⟩:=hold.some;have qw:∀w6,cY T i o5 uE w5 w6->w6.cell? ⟨D.Rb,ord i*4,none⟩=some x0/\w6.cell? ⟨D.Rb,ord i*4+1,none⟩=some x1/\w6.cell? ⟨D.Rb,ord i*4+2,none⟩=some x2/\w6.cell? ⟨D.Rb,ord i*4+3,none⟩=some x3:=fun w6 hr =>
   ⟨(hr.mine _ (.inl (fy 0 aa))).trans ((HJ.rel.mine _ (.inl (fy 0 aa))).trans HE),(hr.mine _ (.inl (fy 1 aa))).trans ((HJ.rel.mine _ (.inl (fy 1 aa))).trans xx),
    (hr.mine _ (.inl (fy 2 aa))).trans ((HJ.rel.mine _ (.inl (fy 2 aa))).trans hx2),(hr.mine _ (.inl (fy 3 aa))).trans ((HJ.rel.mine _ (.inl (fy 3 aa))).trans hx3)⟩
  have hRH:=(hW.ok.sh _ hD.Rp).1;have hNH:=(hW.ok.sh _ hD.Yh).1;have xj:o5 A:=l5.more A vn;have hAH:=(l5.ok.vj A xj).1;refine AE rfl ar D.Rb hD.Rp (f:=fun w6=>(((w6.setCell ⟨D.Rb,ord i*4,none⟩ (.bool true)).setCell ⟨D.Rb,ord i*4+1,none⟩ (.slice (some ⟨A,0,none⟩) (D.ins (ord i)).length (D.ins (ord i)).length)).setCell ⟨D.Rb,ord i*4+2,none⟩ (.bool (res (ord i)).1)).setCell ⟨D.Rb,ord i*4+3,none⟩ (.string (res (ord i)).2))
   (fun w6 hr=>?_) (fun w6=>(((mz.set _ _ (fy 0 aa)).trans (mz.set _ _ (fy 1 aa))).trans (mz.set _ _ (fy 2 aa))).trans (mz.set _ _ (fy 3 aa))) (fun w6 hr e he=>?_) rfl fun w6 hr eI=>?_
  ·obtain⟨c0,c1,c2,c3⟩:=qw w6 hr;have f:=((Td.later hD.Rp HJ.rel).later hD.Rp hr).frozen;simp[go_sem,c0,c1,c2,c3,f]
  ·obtain⟨c0,c1,c2,c3⟩:=qw w6 hr;have f:=((Td.later hD.Rp HJ.rel).later hD.Rp hr).frozen;simp[go_sem,c0,c1,c2,c3,f] at he;obtain⟨j,wt,sy,hj,rfl⟩:=(adh (.bool true) (.slice (some ⟨A,0,none⟩) (D.ins (ord i)).length (D.ins (ord i)).length) (.bool (res (ord i)).1) (.string (res (ord i)).2) c0 c1 c2 c3 f rfl rfl rfl rfl).2.2.2.2 _ e he;exact⟨_,_,_,rfl,fy j hj⟩
  obtain⟨c0,c1,c2,c3⟩:=qw w6 hr;have f:=((Td.later hD.Rp HJ.rel).later hD.Rp hr).frozen;obtain⟨n0,n1,n2,n3,-⟩:=adh (P:=au) (.bool true) (.slice (some ⟨A,0,none⟩) (D.ins (ord i)).length (D.ins (ord i)).length) (.bool (res (ord i)).1) (.string (res (ord i)).2) c0 c1 c2 c3 f rfl rfl rfl rfl;generalize (((w6.setCell ⟨D.Rb,ord i*4,none⟩ (.bool true)).setCell ⟨D.Rb,ord i*4+1,none⟩ (.slice (some ⟨A,0,none⟩) (D.ins (ord i)).length (D.ins (ord i)).length)).setCell ⟨D.Rb,ord i*4+2,none⟩ (.bool (res (ord i)).1)).setCell ⟨D.Rb,ord i*4+3,none⟩ (.string (res (ord i)).2)=w7 at *;have l6:cT T i rc o w o5 w6:=nT HJ (cY.pA yv hr);have hRN:D.Rb≠D.Nb:=hD.apart;have an9:gF T o5 w7:=⟨fun b hb=>by have:=l6.ok.vj b hb;have:=eI.size;omega,by have:=l6.ok.size;have:=eI.size;omega⟩;have hd7:ly D w7:=(hd.later hD l6.rel).Jt hD fun b hb=>eI.heap b fun e=>hb.sh (e▸hD.Rp);have hN7:w7.cell? ⟨D.Nb,ord i,none⟩=some (.bool false):=by rw[cell_of (eI.heap _ (bq hRN)),l6.rel.mine _ (.inl CV)];exact Wi
  have Mn:w7.heap[A]?=w3.heap[A]?:=by rw[eI.heap A aa,hr.own A xj,l5.rel.own A vn]
  have Yj:vR w7 D.Nb:=by
   obtain⟨c,t,hh⟩:=ZZ.later hD.Yh l6.rel;exact⟨c,t,by rw[eI.heap _ (bq hRN)];exact hh⟩
  have Z0:∀b,o b->w7.heap[b]?=w.heap[b]?:=fun b hb=>by
   rw[eI.heap b (by have:=(gj.vj b hb).1;omega)];exact l6.rel.own b hb
  have Tb:=Yi.of_block Mn;have ahy:Go.ConcN.WgLive T.ty T.Wg w->Go.ConcN.WgLive T.ty T.Wg w7:=fun x=>gz (eI.heap _ (bq (hW.ok.sh _ hD.Rp).2.1)) (l6.rel.wg x);clear F1 F2 F3 F4 qw eI hr f c0 c1 c2 c3;refine ax ?_;have K6:∀w3,cY T i o5 uE w7 w3->w3.cell? ⟨D.bn,3,none⟩=some (.slice (some ⟨D.Nb,0,none⟩) D.n D.n):=fun w3 hr=>(hd7.later hD hr).b3
  (refine fV W2 K6 rfl ar (fun w9 hc=>⟨.refl _ _,fun e he=>?_⟩) fun w9 hc K hK=>?_;(focus (rw[cd];have he:=mem_listed he;simp[go_sem, *] at he;subst he;exact fH hD.DY));go_simp;refine hK _ ?_;clear hK K;clear hc w9;try aE)
  refine ax ?_;refine AE rfl ar D.Nb hD.Yh (f:=fun w8=>w8.setCell ⟨D.Nb,ord i,none⟩ (.bool true)) (fun w8 hr=>?_) (fun w8=>mz.set _ _ CV) (fun w8 hr e he=>?_) rfl fun w8 hr eI=>?_
  ·have c0:=(hr.mine _ (.inl CV)).trans hN7;have f:=(Yj.later hD.Yh hr).frozen;simp[go_sem,c0,f]
  ·have c0:=(hr.mine _ (.inl CV)).trans hN7;have f:=(Yj.later hD.Yh hr).frozen;simp[go_sem,c0,f] at he;rw[cX _ _ c0 (f _) rfl] at he;simp at he;subst he;exact⟨_,_,_,rfl,CV⟩
  have hN8:(w8.setCell ⟨D.Nb,ord i,none⟩ (.bool true)).cell? ⟨D.Nb,ord i,none⟩=some (.bool true):=JA _ _ _ _ ((hr.mine _ (.inl CV)).trans hN7);generalize w8.setCell ⟨D.Nb,ord i,none⟩ (.bool true)=w9 at *;have hm9:∀j,j<4->w9.cell? ⟨D.Rb,ord i*4+j,none⟩=w7.cell? ⟨D.Rb,ord i*4+j,none⟩:=fun j hj=>by rw[cell_of (eI.heap _ hRN)];exact hr.mine _ (.inl (fy j hj))
  refine ax ?_;refine⟨.inl trivial,trivial,HJ.more,fun b hb=>(HJ.ok.vj b hb).1,fun b hb=>?_,fun x=>gz (eI.heap _ (bq (hW.ok.sh _ hD.Yh).2.1)) (hr.wg (ahy x)),.inr ⟨zt,A,⟨xj,SZ⟩,Tb.of_block ?_,⟨(hm9 0 aa).trans n0,?_,(hm9 2 aa).trans n2,(hm9 3 aa).trans n3⟩,hN8⟩⟩
  ·rw[eI.heap b (by have:=(gj.vj b hb).1;omega),hr.own b (HJ.more b hb)];exact Z0 b hb
  ·rw[eI.heap A aa];exact hr.own A xj
  ·rw[hlen];exact(hm9 1 aa).trans n1
 have K6:∀w3,cY T i o2 uE w2 w3->w3.cell? ⟨D.bn,2,none⟩=some (.slice (some ⟨D.Rb,0,none⟩) D.n D.n):=fun w3 hr=>(U1.later hD hr).b2;refine ax ?_
 (refine fV W2 K6 rfl ar (fun w9 hc=>⟨.refl _ _,fun e he=>?_⟩) fun w9 hc K hK=>?_;(focus (rw[cd];have he:=mem_listed he;simp[go_sem, *] at he;subst he;exact fH hD.DY));go_simp;refine hK _ ?_;clear hK K;clear hc w9;try aE)
 clear K6;refine ax ?_;have hm:∀j,j<4->w2.cell? ⟨D.Rb,ord i*4+j,none⟩=w.cell? ⟨D.Rb,ord i*4+j,none⟩:=fun j hj=>l2.rel.mine _ (.inl (fy j hj));obtain⟨dn,ob,ol,mb,mt,fB,gf⟩:∃dn ob ol mb mt,(w2.cell? ⟨D.Rb,ord i*4,none⟩=some (.bool dn)/\w2.cell? ⟨D.Rb,ord i*4+1,none⟩=some (.slice ob ol ol)/\w2.cell? ⟨D.Rb,ord i*4+2,none⟩=some (.bool mb)/\w2.cell? ⟨D.Rb,ord i*4+3,none⟩=some (.string mt)) /\
   ((dn=false/\old=none)\/(dn=true/\∃B vs,old=some (B,vs)/\ob=some ⟨B,0,none⟩/\ol=vs.length/\(mb,mt)=jc (D.jV (ord i)) vs/\xg w B 0 vs/\Quiet T B/\vs.length<=100000)):=by
  cases old with
  |none=>exact⟨_,_,_,_,_,⟨(hm 0 aa).trans hold.c0,(hm 1 aa).trans hold.c1,(hm 2 aa).trans hold.c2,(hm 3 aa).trans hold.c3⟩,.inl ⟨rfl,rfl⟩⟩
  |some x=>exact⟨_,_,_,_,_,⟨(hm 0 aa).trans hold.1.c0,(hm 1 aa).trans hold.1.c1,(hm 2 aa).trans hold.1.c2,(hm 3 aa).trans hold.1.c3⟩,.inr ⟨rfl,x.1,x.2,rfl,rfl,rfl,rfl,hold.2.1,hold.2.2.1,hold.2.2.2⟩⟩
 have K6:∀w3,cY T i o2 uE w2 w3->w3.cell? ⟨D.Rb,ord i*4,none⟩=some (.bool dn)/\w3.cell? ⟨D.Rb,ord i*4+1,none⟩=some (.slice ob ol ol)/\w3.cell? ⟨D.Rb,ord i*4+2,none⟩=some (.bool mb)/\w3.cell? ⟨D.Rb,ord i*4+3,none⟩=some (.string mt):=fun w3 hr =>
  ⟨(hr.mine _ (.inl (fy 0 aa))).trans fB.1,(hr.mine _ (.inl (fy 1 aa))).trans fB.2.1,(hr.mine _ (.inl (fy 2 aa))).trans fB.2.2.1,(hr.mine _ (.inl (fy 3 aa))).trans fB.2.2.2⟩
 (refine fV W2 K6 rfl ar (fun w9 hc=>⟨.refl _ _,fun e he=>?_⟩) fun w9 hc K hK=>?_;(focus (rw[cd];obtain⟨c0,c1,c2,c3⟩:=hc;have he:=mem_listed he;simp[go_sem, *] at he;rcases he with rfl|rfl|rfl|rfl<;>(first|exact uF (fy 0 aa)|exact uF (fy 1 aa)|exact uF (fy 2 aa)|exact uF (fy 3 aa))));obtain⟨c0,c1,c2,c3⟩:=hc;go_simp;refine hK _ ?_;clear hK K;clear c0 c1 c2 c3 w9;try aE)
 clear K6;refine nS hW.ok hW.i l2.ok rfl ar rfl (Obj.cells #[.bool false,.slice none 0 0,.bool false,.string aP] 222) (fun w1=>by simp[go_sem];rfl) (fun w1=>fU) fun C o3 w3 l3 hC hCx hwC ho3=>?_;try aE
 have hCr:w3.rowIs C 222 4 (fun k=>if k=0 then .bool false else if k=1 then .slice none 0 0 else if k=2 then .bool false else .string aP):=⟨_,hCx,rfl,fun k hk=>by
  rcases(show k=0\/k=1\/k=2\/k=3 by omega) with rfl|rfl|rfl|rfl<;>rfl⟩
 have hnC:¬o2 C:=fun h=>by have:=(l2.ok.vj C h).2;omega
 refine Ju hW.ok hW.i l3.ok rfl ar C hC hCr (.bool dn) (.slice ob ol ol) (.bool mb) (.string mt) rfl rfl rfl rfl (fun w1 c f=>?_) (fun w1 c f=>⟨.plain,?_⟩) fun w4 l4 hC4=>?_
 ·have c0:=c 0 aa;have c1:=c 1 aa;have c2:=c 2 aa;have c3:=c 3 aa;simp at c0 c1 c2 c3;clear c;simp[go_sem,c0,c1,c2,c3,f]
 ·have c0:=c 0 aa;have c1:=c 1 aa;have c2:=c 2 aa;have c3:=c 3 aa;simp at c0 c1 c2 c3;clear c;simp[go_sem,c0,c1,c2,c3,f]
 have K5:cT T i uE o2 w2 o3 w4:=(l3.wX.trans l4).later hnC;clear l4 hCr hCx l3;try aE
 refine ax ?_;have Rq:∀w5,cY T i o3 uE w4 w5->w5.cell? ⟨C,0,none⟩=some (.bool dn):=fun w5 hr=>by rw[cell_of (hr.own C hC)];exact hC4.cell (i:=0) aa
 have nE:∀w5,cY T i o3 uE w4 w5->w5.cell? ⟨C,1,none⟩=some (.slice ob ol ol):=fun w5 hr=>by rw[cell_of (hr.own C hC)];exact hC4.cell (i:=1) aa
 (refine fV W2 Rq rfl ar (fun w9 hc=>⟨.refl _ _,fun e he=>?_⟩) fun w9 hc K hK=>?_;(focus (rw[cd];have he:=mem_listed he;simp[go_sem, *] at he;subst he;exact oT hC));go_simp;refine hK _ ?_;clear hK K;clear hc w9;try aE)
 refine ax ?_;have l4:cT T i rc o w o3 w4:=l2.trans ⟨cY.pA yv K5.rel,K5.ok,K5.more⟩;rcases gf with⟨rfl,rfl⟩|⟨rfl,B,vs,rfl,rfl,rfl,Jq,x8,hqB,ahA⟩
 ·refine jD W2 rfl ar ?_;aE;refine jD W2 rfl ar ?_;aE;refine jD W2 rfl ar ?_;aE;refine jD W2 rfl ar ?_;refine ax ?_;exact⟨rfl,trivial,rfl,rfl,rfl,aj,K5⟩
 refine ax ?_
 (refine fV W2 nE rfl ar (fun w9 hc=>⟨.refl _ _,fun e he=>?_⟩) fun w9 hc K hK=>?_;(focus (rw[cd];have he:=mem_listed he;simp[go_sem, *] at he;subst he;exact oT hC));go_simp;refine hK _ ?_;clear hK K;clear hc w9;try aE)
 refine ax ?_;have ahB:xg w4 B 0 vs:=fun k hk=>by rw[hqB.cell l4.rel,hqB.cell l4.rel];exact x8 k hk
 have vn:o3 A:=K5.more A hA;have adl:xg w4 A 0 (dV D res (ord i)):=(cp.of_block (K5.rel.own A hA)).lI;refine dC W2 rfl ar rfl func162 ah rfl (by simp[Act.eval,<- hlen]) rfl ((Wh hW B A vs (dV D res (ord i)) ahA aa K5.ok hqB ahB vn adl).mono ?_);rintro v o5 w5 ⟨rfl,l5⟩;aE;by_cases heq:vs=dV D res (ord i)
 ·simp only[heq,decide_true];refine ax ?_;have HJ:cT T i rc o w o5 w5:=l4.trans ⟨cY.pA yv l5.rel,l5.ok,l5.more⟩;have hm5:∀j,j<4->w5.cell? ⟨D.Rb,ord i*4+j,none⟩=w.cell? ⟨D.Rb,ord i*4+j,none⟩:=fun j hj=>HJ.rel.mine _ (.inl (fy j hj));have cL:=hold.1;rw[heq,<- wV] at cL;exact⟨.inr trivial,trivial,HJ.more,fun b hb=>(HJ.ok.vj b hb).1,HJ.rel.own,HJ.rel.wg,.inl ⟨B,rfl,⟨(hm5 0 aa).trans cL.c0,(hm5 1 aa).trans cL.c1,(hm5 2 aa).trans cL.c2,(hm5 3 aa).trans cL.c3⟩,(HJ.rel.mine _ (.inl CV)).trans Wi⟩⟩
 ·simp only[heq,decide_false];refine ax ?_;exact⟨rfl,trivial,rfl,rfl,rfl,fun B' h=>heq (by cases h;rfl),K5.trans l5⟩
end
abbrev link:Go.Conc.Lib.WgLink:={add:=113,done:=115,wait:=117,relMerge:=125,disable:=120,enable:=122,inBubble:=151,associate:=152,fatal:=153,uOr:=154,uAdd:=155,raceRead:=156,uLoad:=157,uStore:=158,disassociate:=159,semrelease:=160,acquire:=123,isAssociated:=164,uCas:=165,raceWrite:=166,semacquire:=167,orU64:=192,addU64:=193,loadU64:=194,storeU64:=195,casU64:=200,tWgP:=251,tUP:=116,tAssoc:=252,tWg:=216,tAU:=214,tU64:=212,tUint:=223,tU32:=102,tPU32:=255,tPAU:=283,tPU64:=285,tNoCopy:=101,tANoCopy:=115,tAlign64:=211}
theorem AF:Go.Conc.Lib.WgLib au link :=
 ⟨func113,func115,func117,func125,func120,func122,func151,func152,func153,func154,func155,func156,func157,func158,func159,func160,func123,func164,func165,func166,func167,func192,func193,func194,func195,func200,underlying251,runUnderlying251,sizeOf251,isAgg251,zeroValue251,underlying116,runUnderlying116,sizeOf116,isAgg116,zeroValue116,underlying252,runUnderlying252,sizeOf252,isAgg252,zeroValue252,underlying216,runUnderlying216,sizeOf216,isAgg216,zeroValue216,underlying214,runUnderlying214,sizeOf214,isAgg214,zeroValue214,underlying212,runUnderlying212,sizeOf212,isAgg212,zeroValue212,underlying223,runUnderlying223,sizeOf223,isAgg223,zeroValue223,underlying102,runUnderlying102,sizeOf102,isAgg102,zeroValue102,underlying255,runUnderlying255,sizeOf255,isAgg255,zeroValue255,underlying283,runUnderlying283,sizeOf283,isAgg283,zeroValue283,underlying285,runUnderlying285,sizeOf285,isAgg285,zeroValue285,underlying0,runUnderlying0,sizeOf0,isAgg0,zeroValue0,underlying3,runUnderlying3,sizeOf3,isAgg3,zeroValue3,underlying4,runUnderlying4,sizeOf4,isAgg4,zeroValue4,underlying9,runUnderlying9,sizeOf9,isAgg9,zeroValue9,underlying20,runUnderlying20,sizeOf20,isAgg20,zeroValue20,underlying21,runUnderlying21,sizeOf21,isAgg21,zeroValue21,ah,ah⟩
open Go.ConcN
section
open Go.Conc.Lib Go.ConcR.Gen Go.ConcN.Gen
open Go.ConcR (KK wgBlock WgAt stA smA rd wr mk Payload DC0)
def JB(n:Nat):Frame:={(default:Frame) with fn:=n,defers:=[],mode:=.panicking [goexitEntry]}
def Fz(Wg Bb C:Nat):Deferred:={target:=.fn (.func 114) #[.pointer (some ⟨Wg,0,none⟩),.pointer (some ⟨Bb,0,none⟩),.pointer (some ⟨C,0,none⟩)],args:=#[]}
def bW:Frame:=baseD 114
theorem Mo(Wg Bb C:Nat)(w:ae):stepG au false (born au (Fz Wg Bb C)) w =
  .go (G (bW.at ⟨#[.pointer (some ⟨Wg,0,none⟩),.pointer (some ⟨Bb,0,none⟩),.pointer (some ⟨C,0,none⟩),undef,undef,undef],[]⟩ [.code (Tryz.f114.body.getD .skip)]) [JB au.funcs.size]) w #[]:=by
 simp[born,Fz,stepG,unwind,callDeferred,invoke,callFunc,func114,Tryz.f114,seen,GStep.after,G,Frame.enter,Frame.at,bW,baseD,JB]
theorem Mp(T:Array Value):QuitsD au 2 0 (G {bW.at ⟨T,[]⟩ [] with mode:=.returning} [JB au.funcs.size]):=by
 refine QuitsD.ctl (g':=G (JB au.funcs.size) []) rfl (fun w=>?_) ?_
 ·simp[G,stepG,unwind,doReturn,results,Frame.at,bW,baseD,JB,func114,Tryz.f114,seen,GStep.after,goexitEntry]
 refine QuitsD.ctl (g':={G (JB au.funcs.size) [] with status:=.finished}) rfl (fun w=>?_) ⟨rfl,rfl⟩;simp[G,stepG,unwind,JB,goexitEntry,Frame.catches];rfl
theorem JC:Tryz.f116.results=#[]:=ah
theorem results_none{P:Program}{fn:Func}(h:fn.results=#[])(tm:Array Value)(w:ae):(results fn tm).run P w=.ok (.tuple #[]) w/\(results fn tm).events P w #[]=#[]:=by
 unfold results;rw[h];exact⟨fU,fU⟩
section
variable [Payload] {T:dq} {i:Nat} {V:Nat->ae->Prop} {rc:Nat->Prop} {o:aN} {w:ae} {D:nh} {ord:Nat->Nat}
theorem tailW(Wg Bb C s:Nat)(tm tm2:Array Value)(todo:List Item)(df:Deferred)(kZ:df={target:=.fn (.func 115) #[],args:=#[.pointer (some ⟨Wg,0,none⟩)]})(hK:WgLive 216 Wg w/\Has C (1-1) (.int .i64 (s:Int)) w)(ops:Array Oper)(ahC:ops[2]?=some {dst:=some 5,op:=.call {callee:=.value (.func 116),args:=#[.tmp 3,.tmp 4],argTypes:=#[151,3]},type:=0,pos:= "build.go:79",after:=#[{on:=0,ground:=.data},{on:=1,ground:=.data}],guard:=none}):
  ∃m,Goes au false (RW 216 Wg C 0 0 (1-1)) (DWs Wg rj rj C 0 1) (AtR0 au 216 Wg C 0 0 1 (.int .i64 (s:Int))) m (G {(base 116).at ⟨tm,[]⟩ todo with mode:=.returning} (bW.at ⟨tm2,[df]⟩ (.inRegion ops [2]::[])::[JB au.funcs.size])) w:=by
 subst kZ;refine⟨27,?_⟩
 ahD kn_rely hK
 rw[stepG_leave (b:=base 116) (v:=.tuple #[]) rfl rfl func116 (results_none JC _ _).1 (results_none JC _ _).2];simp only[goes_go];refine⟨by adm,?_⟩;rw[ek,ahC];simp only[Option.bind_some,Act.put]
 eZ ak kn_rely hK
 eZ eu kn_rely hK
 ahD kn_rely hK
 rw[stepG_unwind_enter rfl func115 (nm_done link) rfl];simp only[goes_go];refine⟨by adm,?_⟩;bP Tryz.f115;have hA:=@doneN _ link au AF rj rj Wg C 0 0 1 (.int .i64 (s:Int));simp only[body_done,doneFn,br] at hA;exact hA rfl (Mp _) _ hK
theorem Z1{α:Type}{a c:Prop}{G:α->Prop}(ha:a)(h:∃m,G m)(hc:c):∃m,a/\G m/\c:=let ⟨m,h⟩:=h;⟨m,ha,h,hc⟩
def Vd(D:nh)(ord:Nat->Nat)(res:Nat->Kz.V)(k:Nat)(w:ae):Prop:=k<D.n/\w.cell? ⟨D.Rb,ord k*4+2,none⟩=some (.bool (res (ord k)).1)/\w.cell? ⟨D.Rb,ord k*4+3,none⟩=some (.string (res (ord k)).2)
def yz(D:nh)(ord:Nat->Nat)(old:Nat->Option (Nat×List Kz.V))(res:Nat->Kz.V)(k:Nat)(o:Nat->Prop)(w:ae):Prop:=k<D.n/\nU D (ord k) (old (ord k)) (dV D res (ord k)) (res (ord k)) o w
theorem Oc{P:Program}{m:Bool}{R:aN->ae->ae->Prop}{Gu:aN->ae->ae->Array Event->Prop}{X:aN->aY->ae->Prop}(W:fM P m R Gu X){b:Frame}{a:Act}{k:List Item}{cs:List Frame}{o:aN}{w:ae}{ops:Array Oper}{i:Nat}{rest:List Nat}{op:Oper}{v:Value}(ho:ops[i]?=some op)(hw:Region.wanted op (yielded ops a.tmps)=true)(hk:b.kind≠.early){d:Option Tmp}(hd:op.dst=d)(hr:∀w1,R o w w1->(execOp a.eval op).run P w1=.ok (.value v) w1)(hg:∀w1,R o w w1->Gu o w1 w1 (listed P b.fn a op w1))(h:X o (G (b.at (a.put d v) (.inRegion ops rest::k)) cs) w):X o (G (b.at a (.inRegion ops (i::rest)::k)) cs) w:=by
 subst hd;exact W.step _ _ _ rfl fun w1 h1=>⟨_,_,_,eJ ho hw hk (hr w1 h1),hg w1 h1,by rw[cd];exact W.rely _ _ _ _ h h1⟩
theorem Tg(hW:sj T i)(hTn:T.n=D.n)(hty:T.ty=216)(SP:Quiet T 1)(hD:zL D T ord)(res:Nat->Kz.V)(old:Nat->Option (Nat×List Kz.V))(hd:ly D w)(hp:jb w)(wV:res (ord i)=jc (D.jV (ord i)) (dV D res (ord i)))(Tc:1<=D.jV (ord i)/\D.jV (ord i)<=5)(rn:js ((dV D res (ord i)).map (·.2))<=1000000)(hold:GP D T (ord i) (old (ord i)) w)(Wi:w.cell? ⟨D.Nb,ord i,none⟩=some (.bool false))(Td:vR w D.Rb)(ZZ:vR w D.Nb)(gj:gF T o w)(Bb C:Nat)(hBb:Quiet T Bb)(JD:w.cell? ⟨Bb,0,none⟩=some (.pointer (some ⟨D.bn,0,none⟩)))(ho:∀b,o b↔b=C)(hC:w.cell? ⟨C,0,none⟩=some (.int .i64 (ord i)))(yA:WgLive T.ty T.Wg w):
  XW au T i (Vd D ord res) (Ei au T (yz D ord old res) i) rc o (born au (Fz T.Wg Bb C)) w:=by
 have W:=cN (P:=au) (T:=T) (i:=i) (V:=Vd D ord res) (E:=Ei au T (yz D ord old res) i) rc;have hoC:o C:=(ho C).2 rfl;refine W.go rfl (fun w1=>Mo _ _ _ w1) ?_;simp only[Tryz.f114,br];refine W.go rfl (fun _=>aD) ?_;refine W.go rfl (fun _=>bg) ?_;refine dR ?_;refine W.go rfl (fun w1=>yy (d:={target:=.fn (.func 115) #[],args:=#[.pointer (some ⟨T.Wg,0,none⟩)]}) rfl ar eA fU fU) ?_;refine W.go rfl (fun _=>ak) ?_;refine W.go rfl (fun _=>bg) ?_;refine dR ?_;aE;have c1:∀w1,cY T i o rc w w1->w1.cell? ⟨Bb,0,none⟩=some (.pointer (some ⟨D.bn,0,none⟩)):=fun w1 h1=>by rw[hBb.cell h1];exact JD
 have c2:∀w1,cY T i o rc w w1->w1.cell? ⟨C,0,none⟩=some (.int .i64 (ord i)):=fun w1 h1=>by rw[cell_of (h1.own C hoC)];exact hC
 refine Oc W (v:=.pointer (some ⟨D.bn,0,none⟩)) rfl ar eA rfl (fun w1 h1=>by simp[go_sem,c1 w1 h1]) (fun w1 h1=>⟨.refl _ _,fun e he=>?_⟩) ?_
 ·rw[cd];have he:=mem_listed he;simp[go_sem,c1 w1 h1] at he;subst he;exact fH hBb
 aE;refine Oc W (v:=.int .i64 (ord i)) rfl ar eA rfl (fun w1 h1=>by simp[go_sem,c2 w1 h1]) (fun w1 h1=>⟨.refl _ _,fun e he=>?_⟩) ?_
 ·rw[cd];have he:=mem_listed he;simp[go_sem,c2 w1 h1] at he;subst he;exact oT hoC
 aE;refine W.go rfl (fun w1=>qq rfl ar eA rfl func116 ah rfl w1) ?_;simp only[List.map_toArray,aA,aQ,Act.eval];aE;refine ZY hW SP hD res (fun k w _ h=>h.2) gj hd hp wV Tc rn (old (ord i)) hold Wi Td ZZ _ _ fun oo o' w' tm todo h1 h5 h2 h4 h3 w1 hr s r t hc=>?_;have hmR:∀j,j<4->w1.cell? ⟨D.Rb,ord i*4+j,none⟩=w'.cell? ⟨D.Rb,ord i*4+j,none⟩:=fun j hj=>hr.mine _ (.inl ((hD.own i _).2 ⟨hW.i,.inl ⟨j,hj,rfl⟩⟩));have hmN:w1.cell? ⟨D.Nb,ord i,none⟩=w'.cell? ⟨D.Nb,ord i,none⟩:=hr.mine _ (.inl ((hD.own i _).2 ⟨hW.i,.inr rfl⟩));have hh:=pL w1 (T.ch i) s r t;have dJ:∀b,T.Sh b->b≠T.ch i:=fun b hb=>bq ((hW.ok.sh b hb).2.2 i hW.i);have hCc:C≠T.ch i:=by have:=(gj.vj C hoC).1;have:=(hW.ok.ch i hW.i).1;omega
 have Ti:WgLive T.ty T.Wg (w1.setChan (T.ch i) 0 #[] true s r t):=gz (hh _ (bq (hW.ok.ch i hW.i).2)) (hr.wg (h4 yA));have hC':(w1.setChan (T.ch i) 0 #[] true s r t).cell? ⟨C,0,none⟩=some (.int .i64 (ord i)):=by rw[cell_of (hh C hCc),cell_of (hr.own C (h1 C hoC)),cell_of (h2 C hoC)];exact hC
 rw[hty] at Ti;have hiD:i<D.n:=hTn▸hW.i;refine⟨⟨hiD,(hmR 2 aa).trans h3.made.1,(hmR 3 aa).trans h3.made.2⟩,C,.int .i64 (ord i),?_⟩;rw[hty];refine Z1 (h1 C hoC) (tailW (w:=w1.setChan (T.ch i) 0 #[] true s r t) T.Wg Bb C (ord i) tm _ todo _ rfl ⟨Ti,hC'⟩ _ ar) ?_;refine⟨hiD,nU.of h3 (fun j hj=>?_) ?_ fun b hb=>⟨⟨hb.1,fun e=>hb.2 ((ho b).2 e)⟩,?_⟩⟩
 ·rw[cell_of (hh _ (dJ _ hD.Rp))];exact hmR j hj
 ·rw[cell_of (hh _ (dJ _ hD.Yh))];exact hmN
 ·rw[hh b (by have:=h5 b hb.1;have:=(hW.ok.ch i hW.i).1;omega)];exact hr.own b hb.1
end
end
section
open Go.Conc.Lib Go.ConcR.Gen Go.ConcN.Gen
open Go.ConcR (KK wgBlock WgAt stA smA rd wr mk Payload DC0)
def zM(D:nh)(s:Nat)(old:Option (Nat×List Kz.V))(w:ae):Prop :=
 (match old with|none=>Oa D s w|some (B,vs)=>wz D s w B vs (jc (D.jV s) vs))/\w.cell? ⟨D.Nb,s,none⟩=some (.bool false)/\vR w D.Rb/\vR w D.Nb
structure Setup(D:nh)(T:dq)(ord:Nat->Nat)(res:Nat->Kz.V)(old:Nat->Option (Nat×List Kz.V))(Bb Ob:Nat)(w0:ae):Prop where
 ok:T.OK
 n:T.n=D.n
 kz:au.globals.size<=T.H0
 ty:T.ty=216
 q1:Quiet T 1
 dk:zL D T ord
 E9:ly D w0
 pow:jb w0
 made:∀i,i<T.n->res (ord i)=jc (D.jV (ord i)) (dV D res (ord i))
 eU:∀i,i<T.n->1<=D.jV (ord i)/\D.jV (ord i)<=5
 size:∀i,i<T.n->js ((dV D res (ord i)).map (·.2))<=1000000
 qB:Quiet T Bb
 box:w0.cell? ⟨Bb,0,none⟩=some (.pointer (some ⟨D.bn,0,none⟩))
 qO:Quiet T Ob
 order:w0.cell? ⟨D.Lb,D.Lo+1,none⟩=some (.slice (some ⟨Ob,0,none⟩) D.n D.n)
 Mq:∀k,k<D.n->w0.cell? ⟨Ob,k,none⟩=some (.int .i64 (ord k))
 xk:∀s B vs,s<D.n->old s=some (B,vs)->xg w0 B 0 vs/\Quiet T B/\vs.length<=100000
 idle:∀k w,k<T.n->T.Idle k w->zM D (ord k) (old (ord k)) w
section
variable {T:dq} {o:aN} {w w0 w1:ae} {D:nh} {ord:Nat->Nat} {res:Nat->Kz.V} {old:Nat->Option (Nat×List Kz.V)} {Bb Ob:Nat}
theorem dN.less{o':aN}(h:dN T o w w1)(ho:∀b,o' b->o b):dN T o' w w1:=⟨h.size,fun b hb=>h.own b (ho b hb),h.ro,h.wg,h.os,h.output⟩
theorem Quiet.LG{b:Nat}(q:Quiet T b)(r:dN T o w w1):w1.heap[b]?=w.heap[b]?:=r.ro b q.old q.wg q.sh q.ch
theorem Quiet.cellS{b off:Nat}(q:Quiet T b)(r:dN T o w w1):w1.cell? ⟨b,off,none⟩=w.cell? ⟨b,off,none⟩:=cell_of (q.LG r)
theorem vo{b off:Nat}{sy:Bool}(q:Quiet T b):EvS T o ⟨.cell ⟨b,off,none⟩,false,sy⟩:=by
 refine⟨fun x hx _=>.inr (.inr ⟨?_,?_⟩),aj,aj,aj⟩;all_goals
  simp only[MemAct.ofEvent,MemAct.touch?,ay] at hx;subst hx
 ·exact q.ro off
 ·rfl
variable [Payload]
theorem Setup.child(h:Setup D T ord res old Bb Ob w0){j C:Nat}(hj:j<T.n)(hr:dN T (fun _=>False) w0 w1)(yA:WgLive T.ty T.Wg w1)(hC:w1.cell? ⟨C,0,none⟩=some (.int .i64 (ord j)))(hCH:T.H0<=C/\C<w1.heap.size)(hid:T.Idle j w1)(hH:T.H0<=w1.heap.size):
  gT au T j (Vd D ord res) (Ei au T (yz D ord old res) j) ⟨born au (Fz T.Wg Bb C),fun b=>b=C,fun _=>False,w1⟩:=by
 obtain⟨h1,h2,h3,h4⟩:=h.idle j w1 hj hid;have hq:∀b,Quiet T b->w1.heap[b]?=w0.heap[b]?:=fun b q=>q.LG hr;refine Tg (o:=fun b=>b=C) (rc:=fun _=>False) ⟨h.ok,hj,h.kz⟩ h.n h.ty h.q1 h.dk res old (h.E9.Jt h.dk hq) (fun q Bm=>by rw[h.q1.cellS hr];exact h.pow q Bm) (h.made j hj) (h.eU j hj) (h.size j hj) ?_ h2 h3 h4 ⟨fun b hb=>by rw[hb];exact hCH,hH⟩ Bb C h.qB (by rw[h.qB.cellS hr];exact h.box) (fun _=>db) hC yA;cases ho:old (ord j) with
 |none=>rw[ho] at h1;exact h1
 |some x =>
  obtain⟨B,vs⟩:=x;rw[ho] at h1;obtain⟨k1,k2,k3⟩:=h.xk _ B vs (h.dk.qT j hj) ho;exact⟨h1,fun q Bm=>by rw[k2.cellS hr,k2.cellS hr];exact k1 q Bm,k2,k3⟩
theorem JE(h:Setup D T ord res old Bb Ob w0){cQ:eT}{r0 r1 r2 lp tl:Code}(fK:Tryz.f74.body=some (.seq r0 (.seq r1 (.seq (.seq r2 (.block 0 (.loop lp))) tl))))(b:Frame)(k:List Item)(cs:List Frame)(qK:b.fn=74)(rW:b.kind≠.early)(Te:∀o w (tm:Array Value),dN T (fun _=>False) w0 w->WgLive T.ty T.Wg w->(∀b,o b->T.H0<=b/\b<w.heap.size)->tm.size=21->tm[2]?=some (.pointer (some ⟨T.Wg,0,none⟩))->dm au T (Rg au T cQ) o (G (b.at ⟨tm,[]⟩ (.code tl::k)) cs) w):
  ∀r j,r+j=T.n->∀o w (tm:Array Value),dN T (fun _=>False) w0 w->WgLive T.ty T.Wg w->(∀b,o b->T.H0<=b/\b<w.heap.size)->T.H0<=w.heap.size->tm.size=21 ->
   tm[1]?=some (.pointer (some ⟨Bb,0,none⟩))->tm[2]?=some (.pointer (some ⟨T.Wg,0,none⟩))->tm[11]?=some (.slice (some ⟨Ob,0,none⟩) D.n D.n)->tm[12]?=some (.int .i64 D.n)->tm[13]?=some (.int .i64 j) ->
   jg au T (Vd D ord res) (yz D ord old res) cQ r o (G (b.at ⟨tm,[]⟩ (.code lp :: .inLoop lp :: .inBlock 0 :: .code tl::k)) cs) w:=by
 have Wj:=fK;simp only[Tryz.f74,ay,Code.seq.injEq,Code.block.injEq,Code.loop.injEq,true_and] at Wj;obtain⟨-,-,⟨-,Wj⟩,-⟩:=Wj;have xl:=h.dk.gY;intro r
 induction r with
 |zero =>
  intro j hj o w tm hr yA ho hH fJ t1 t2 t11 t12 t13;have tL:¬((j:Int)<(D.n:Int)):=by have:=h.n;omega
  simp only[jg];have W:=nR (P:=au) (T:=T) (Stop:=Rg au T cQ);rw[<- Wj];obtain⟨gs,rfl⟩:=lv fJ;simp only[List.range,List.range.loop,aA,aQ] at *;simp only[List.getElem?_toArray,List.getElem?_cons_succ,List.getElem?_cons_zero,ay] at t1 t2 t11 t12 t13;simp only[t1,t2,t11,t12,t13];refine W.go rfl (fun _=>aD) ?_;refine W.go rfl (fun _=>bg) ?_;refine dR ?_;refine im ?_;refine W.go rfl (fun _=>ak) ?_;refine W.go rfl (fun _=>aD) ?_;refine W.go rfl (fun _=>eB (t:=false) (by simp[Act.eval,tL])) ?_;simp only[aM,if_false];refine W.go rfl (fun _=>stepG_exit rfl) ?_;exact Te o w _ hr yA ho rfl rfl
 |succ r ih =>
  intro j hj o w tm hr yA ho hH fJ t1 t2 t11 t12 t13;have hjT:j<T.n:=aa;have hjD:j<D.n:=by have:=h.n;omega
  have hjI:(j:Int)<(D.n:Int):=aa;have hj0:T.n-(r+1)=j:=aa;have rm:IntKind.wrap .i64 ((j:Int)+1)=(j:Int)+1:=by rw[IntKind.wrap_i64];omega
  simp only[jg,hj0];have W:=nR (P:=au) (T:=T) (Stop:=LI au T (Vd D ord res) (yz D ord old res) j (jg au T (Vd D ord res) (yz D ord old res) cQ r));have aoh:=Wj;obtain⟨gs,rfl⟩:=lv fJ;simp only[List.range,List.range.loop,aA,aQ] at *;simp only[List.getElem?_toArray,List.getElem?_cons_succ,List.getElem?_cons_zero,ay] at t1 t2 t11 t12 t13;simp only[t1,t2,t11,t12,t13];rw[show(Item.code lp)=Item.code _ from congrArg Item.code Wj.symm];refine W.go rfl (fun _=>aD) ?_;refine W.go rfl (fun _=>bg) ?_;refine dR ?_;refine im ?_;refine W.go rfl (fun _=>ak) ?_;refine W.go rfl (fun _=>aD) ?_;refine W.go rfl (fun _=>eB (t:=true) (by simp[Act.eval,hjI])) ?_;simp only[if_true];refine W.go rfl (fun _=>cz) ?_;refine W.go rfl (fun _=>aD) ?_;refine W.go rfl (fun _=>fh) ?_;refine W.go rfl (fun _=>aD) ?_;refine W.go rfl (fun _=>bg) ?_;refine dR ?_;refine im ?_;have K6:∀w3,dN T o w w3->w3.cell? ⟨Ob,j,none⟩=some (.int .i64 (ord j)):=fun w3 Er=>by rw[h.qO.cellS Er,h.qO.cellS hr];exact h.Mq j hjD
  (refine still_at W K6 rfl ar rW (fun w9 hc=>⟨.refl _ _,fun e he=>?_⟩) fun w9 hc K hK=>?_;(focus (rw[cd];have he:=mem_listed he;simp[go_sem, *] at he;subst he;exact vo h.qO));go_simp;refine hK _ ?_;clear hK K;clear hc w9;try aE)
  clear K6;refine L6 rfl ar rW rfl (Obj.cells #[.int .i64 0] 3) (fun w1=>fU) (fun w1=>fU) fun w1 lE=>?_;aE;have ahI:=hr.trans (dN.less lE (o':=fun _=>False) (fun _ x=>x.elim));have UX:T.H0<=w1.heap.size:=aX hH lE.size;have lY:∀w2:ae,w2.heap[w1.heap.size]?=(w1.alloc (Obj.cells #[.int .i64 0] 3)).heap[w1.heap.size]?->w2.cell? ⟨w1.heap.size,0,none⟩=some (.int .i64 0)/\w2.frozen? ⟨w1.heap.size,0,none⟩=false:=fun w2 e=>by
   have:(w1.alloc (Obj.cells #[.int .i64 0] 3)).heap[w1.heap.size]?=some (Obj.cells #[.int .i64 0] 3):=by show(w1.heap.push _)[w1.heap.size]?=_;simp
   rw[this] at e;simp[World.cell?,World.frozen?,e]
  refine L8 w1.heap.size (.inr rfl) rfl ar rW rfl (f:=fun w2=>w2.setCell ⟨w1.heap.size,0,none⟩ (.int .i64 (ord j))) (fun w2=>ij.set _ _ _ _) (fun w2 e=>?_) (fun w2 e ev he=>?_) fun w2 GO=>?_
  ·obtain⟨c0,f0⟩:=lY w2 e;simp[go_sem,c0,f0]
  ·obtain⟨c0,f0⟩:=lY w2 e;simp[go_sem,c0,f0] at he;subst he;exact⟨_,_,_,rfl,rfl⟩
  aE;generalize hC:w1.heap.size=C at *;have hCH:T.H0<=C:=UX;have hC2:(w2.setCell ⟨C,0,none⟩ (.int .i64 (ord j))).cell? ⟨C,0,none⟩=some (.int .i64 (ord j)):=World.cell?_setCell_same _ _ _ (lY w2 (GO.own C (.inr rfl))).1;have Er:dN T (fun b=>b≠C/\o b) w (w2.setCell ⟨C,0,none⟩ (.int .i64 (ord j))):=by
   have hO:=ij.set w2 C 0 (.int .i64 (ord j));have hA:dN T (fun b=>b≠C/\o b) w1 (w1.alloc (Obj.cells #[.int .i64 0] 3)):=⟨aj,fun b hb=>RowKit.Below.heap_alloc w1 _ b (by have:=(ho b hb.2).2;have:=lE.size;omega),fun b h1 _ _ _=>RowKit.Below.heap_alloc w1 _ b aa,gz (RowKit.Below.heap_alloc w1 _ _ (by have:=h.ok.wg;omega)),rfl,rfl⟩;refine((dN.less lE fun b hb=>hb.2).trans hA).trans ((dN.less GO fun b hb=>.inl hb.2).trans ⟨bH hO.size.symm,fun b hb=>hO.heap b hb.1,fun b h1 _ _ _=>hO.heap b aa,gz (hO.heap _ (by have:=h.ok.wg;omega)),rfl,rfl⟩)
  have Z2:C<(w2.setCell ⟨C,0,none⟩ (.int .i64 (ord j))).heap.size:=by
   have:=GO.size;simp[World.setCell] at this |-;omega
  generalize w2.setCell ⟨C,0,none⟩ (.int .i64 (ord j))=w3 at *;clear lY GO w2 ahI lE UX hC w1;have adn:=hr.trans (dN.less Er (o':=fun _=>False) (fun _ x=>x.elim));have Mr:=Er.wg yA;have hH3:=aX hH Er.size;have ho3:∀b,(o b\/b=C)->T.H0<=b/\b<w3.heap.size:=by
   rintro b (hb|rfl)
   ·have:=ho b hb;have:=Er.size;omega
   ·exact⟨hCH,Z2⟩
  refine W.go rfl (fun _=>ak) ?_;refine W.go rfl (fun _=>aD) ?_;refine W.go rfl (fun _=>bg) ?_;refine dR ?_;refine W.go rfl (fun w1=>qq rfl ar rW rfl AF.f_add (nm_add link) rfl w1) ?_;rw[iS AF.f_add rfl];simp only[List.map_toArray,aA,aQ,Act.eval];bP addFn;have hA:=@ahi _ link au T (Vd D ord res) (yz D ord old res) (jg au T (Vd D ord res) (yz D ord old res) cQ r) (fun b=>o b\/b=C) j w3;simp only[body_add,addFn,br] at hA;refine hA AF h.ok (fun b hb=>(ho3 b hb).1) (fun w4 hr4=>?_) w3 ⟨dN.refl w3,Mr⟩;clear hA;have W2:=nR (P:=au) (T:=T) (Stop:=SGo au T (Vd D ord res) (yz D ord old res) j (jg au T (Vd D ord res) (yz D ord old res) cQ r));simp only[List.getElem?_toArray,List.getElem?_cons_succ,List.getElem?_cons_zero,Option.bind_some];aE;refine W2.go rfl (fun _=>ak) ?_;refine W2.go rfl (fun _=>bg) ?_;refine dR ?_;refine im ?_;refine dm.stop fun w5 Qb=>⟨rfl,_,born au (Fz T.Wg Bb C),fun b=>b=C,SG rfl ar rW (by simp[go_sem,Fz]) fU rfl rfl,fun b hb=>.inr hb,fun w6 Qc hid=>?_,?_⟩
  ·have e6:w6.heap[C]?=w3.heap[C]?:=by rw[Qc.own C (.inr rfl),Qb.own C (.inr rfl),hr4.own C (.inr rfl)]
   have Z3:=(hr4.trans Qb).trans Qc;have aoi:=Z3.size;exact h.child hjT (adn.trans (dN.less Z3 (o':=fun _=>False) (fun _ x=>x.elim))) (Z3.wg Mr) (by rw[cell_of e6];exact hC2) ⟨hCH,aa⟩ hid aa
  have Z4:=hr4.trans Qb;have aoj:=Z4.size;obtain⟨Stop,JF⟩:∃Stop:eT,∀o g w,dm au T Stop o g w↔jg au T (Vd D ord res) (yz D ord old res) cQ r o g w:=by
   cases r
   ·exact⟨_,fun _ _ _=>db⟩
   ·exact⟨_,fun _ _ _=>db⟩
  rw[<- JF];have W3:=nR (P:=au) (T:=T) (Stop:=Stop);aE;refine W3.go rfl (fun _=>ak) ?_;refine W3.go rfl (fun _=>gA) ?_;refine W3.go rfl (fun _=>bg) ?_;refine dR ?_;refine im ?_;refine W3.go rfl (fun _=>ak) ?_;refine W3.go rfl (fun _=>iR) ?_;rw[JF];exact ih (j+1) aa _ w5 _ (adn.trans (dN.less Z4 (o':=fun _=>False) (fun _ x=>x.elim))) (Z4.wg Mr) (fun b hb=>by have:=ho3 b hb.1;omega) aa rfl rfl rfl rfl rfl (by simp[rm])
end
end
end Go.Proofs.Kz
