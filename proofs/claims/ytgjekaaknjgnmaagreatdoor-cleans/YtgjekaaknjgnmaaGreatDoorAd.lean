import Derived.Test.YtgjekaaknjgnmaaGreatDoorAc
import Derived.Below
import Derived.Conc.AppendEvents3
import Derived.Conc.AppendWalk
import Derived.Conc.EventLaws2
import Derived.Conc.SmallLaws
import Derived.Deep.Light
import Derived.Deep.LoopGhost
import Derived.Ground.Names2Prog
import Derived.Ground.NamesProg
import Derived.Ground.SlgnProg
import Derived.Ground.SlsfProg
import Derived.Laws.BytesString
import Derived.Laws.IdiomStrings
import Derived.Laws.Pointers
import Derived.Laws.Slices
import Derived.Laws.StructEq
import Derived.Lib.ItoaLen
import Derived.Lib.OwnBridge
import Derived.Lib.Walk
import Derived.RowKit3
import Derived.Shelf.Lay
import Derived.Shelf.LaysM
import Derived.Shelf.SlGeneric
import Derived.Shelf.SlSortCmp.SmallK
import Derived.Shelf.Slices.Cells
import Derived.Shelf.Slices.Clone
import Derived.Shelf.Slices.CompactS
import Derived.Shelf.Slices.In.SortNone
import Derived.Shelf.Slices.MinMaxS
import Derived.Shelf.Slices.Turned
import Derived.Shelf.SlicesE.Reverse
import Derived.Shelf.Small.Bits
import Derived.Shelf.Small.Strs
import Derived.Shelf.Sort.Plain
import Derived.Shelf.Spec.SearchS
import Derived.Shelf.Strconv.Itoa0
import Derived.Shelf.Strconv.Itoa1
import Derived.Shelf.Strconv.Itoa2
import Derived.Shelf.Strconv.Itoa3
import Derived.Shelf.Strings.Builder1
import Derived.Shelf.Strings.Builder2
import Derived.Shelf.Strings.OnBuilder
import Derived.StillTactics
import Derived.Test.YtgjekaaknjgnmaaGreatDoorChecked
import Derived.Test.YtgjekaaknjgnmaaGreatDoorProg
import Derived.WalkKit
import Derived.WalkSpells
set_option linter.all false
set_option maxHeartbeats 32000000
set_option maxRecDepth 100000
namespace Go.Ren
open _root_.Option renaming some → so,none → we
open Go.Conc Go.ConcN
def rY(ops:Array Oper)(k j:Nat):Bool:=match ops[k]? with
 |some op=>op.after.any λe=>Region.binds .any e&&e.on==j
 |none=>false
def zP{ops:Array Oper}{done:List Nat}(fG:∀j∈done,∀op,ops[j]?=so op->∀e∈op.after,Region.binds .any e=true->e.on∈done){k j:Nat}(hk:k∈done)(h:rY ops k j=true):j∈done:=by
 cases iS:ops[k]? with
 |none=>simp[rY,iS]at h
 |some opk =>
  simp only[rY,iS,Array.any_eq_true',aU,beq_iff_eq]at h;obtain⟨e,he,hb,rfl⟩:=h;exact fG k hk opk iS e he hb
def By(ops:Array Oper):Bool :=
 (List.range ops.size).all (λi=>match ops[i]? with
  |none=>false
  |some op=>op.after.all (λe=>!Region.binds .any e||decide (e.on<i))&&(match op.op with|.select ..=>false|_=>true) &&
    (List.range ops.size).all (λj=>j==i||match hZ ops j with
     |none=>true
     |some d=>hZ ops i != so d&&(!(op.looksAt ops).contains d||(op.after.any (λe=>Region.binds .any e&&e.on==j)||rY ops j i))))
structure yJ(ops:Array Oper):Prop where
 low:∀(i:Nat) (op:Oper),ops[i]?=so op->∀e∈op.after,Region.binds .any e=true->e.on<i
 dst:∀i j d,i≠j->hZ ops i=so d->hZ ops j≠so d
 sel:∀(i:Nat) (op:Oper),ops[i]?=so op->∀cs b,op.op≠.select cs b
 look:∀(i:Nat) (op:Oper),ops[i]?=so op->∀j d,j≠i->hZ ops j=so d->d∈op.looksAt ops->(∃e∈op.after,Region.binds .any e=true/\e.on=j)\/rY ops j i=true
section
variable {ops:Array Oper}
def yJ.ag4(H:yJ ops){k j:Nat}(h:rY ops k j=true):j<k:=by
 cases iS:ops[k]? with
 |none=>simp[rY,iS]at h
 |some opk =>
  simp only[rY,iS,Array.any_eq_true',aU,beq_iff_eq]at h;obtain⟨e,he,hb,rfl⟩:=h;exact H.low k opk iS e he hb
def GL(h:By ops=true):yJ ops:=by
 simp only[By,List.all_eq_true,List.mem_range]at h;have lt:∀(i:Nat) (op:Oper),ops[i]?=so op->i<ops.size:=λi op ho=>(aI.1 ho).1;have all:∀(i:Nat) (op:Oper),ops[i]?=so op->(op.after.all (λe=>!Region.binds .any e||decide (e.on<i))=true/\(match op.op with|.select ..=>false|_=>true)=true) /\
   ∀j,j<ops.size->(j=i\/(match hZ ops j with|none=>true|some d=>hZ ops i != so d&&(!(op.looksAt ops).contains d||(op.after.any (λe=>Region.binds .any e&&e.on==j)||rY ops j i)))=true):=by
  intro i op ho;have:=h i (lt i op ho);simp only[ho,aU,List.all_eq_true,List.mem_range,Bool.or_eq_true,beq_iff_eq]at this;exact this
 have GM:∀{j d},hZ ops j=so d->∃op,ops[j]?=so op:=λ{j d} hj=>by
  cases ho:ops[j]? with
  |none=>simp[hZ,ho]at hj
  |some op=>exact⟨op,rfl⟩
 refine⟨λi op ho e he hb=>?_,λi j d wh hi hj=>?_,λi op ho cs b e=>?_,λi op ho j d Au hj hl=>?_⟩
 ·have:=(all i op ho).1.1;rw[jY]at this;have:=this e he;simpa[hb] using this
 ·obtain⟨op,ho⟩:=GM hi;obtain⟨Jf,p6⟩:=GM hj;rcases(all i op ho).2 j (lt j Jf p6)with e|e
  ·exact wh e.symm
  ·rw[hj]at e;simp only[aU,bne_iff_ne]at e;exact e.1 hi
 ·have:=(all i op ho).1.2;rw[e]at this;cases this
 ·obtain⟨Jf,p6⟩:=GM hj;rcases(all i op ho).2 j (lt j Jf p6)with e|e
  ·exact absurd e Au
  ·rw[hj]at e;simp only[aU,Bool.or_eq_true,eJ,List.contains_eq_mem,decide_eq_false_iff_not]at e;rcases e.2 with e|e|e
   ·exact absurd hl e
   ·simp only[Array.any_eq_true,aU,beq_iff_eq]at e;obtain⟨q,hq,hb,he⟩:=e;exact .inl ⟨_,iN hq,hb,he⟩
   ·exact .inr e
variable {v:Nat->Value}{a:Act}
def yK(H:yJ ops){i:Nat}{op:Oper}(ho:ops[i]?=so op){done:List Nat}(kL:done.Nodup)(hi:i∉done)(yE:∀e∈op.after,Region.binds .any e=true->e.on∈done)(fG:∀j∈done,∀op,ops[j]?=so op->∀e∈op.after,Region.binds .any e=true->e.on∈done):
  ∀x,(∀d,x=.tmp d->d∈op.looksAt ops)->(cK ops v a done).eval x=(cK ops v a (List.range i)).eval x:=by
 intro x hx;let p:Nat->Bool:=λj=>op.after.any λe=>Region.binds .any e&&e.on==j;have drop:∀l:List Nat,i∉l->(∀k∈l,rY ops k i=false)->(cK ops v a l).eval x=(cK ops v a (l.filter p)).eval x:=by
  intro l VD ua;have hp:=(iI p l).symm;rw[kQ H.dst hp,jj];refine pT _ _ λk hk d hd hl=>?_;obtain⟨RD,UZ⟩:=gm.1 hk;obtain⟨e,he,hb,rfl⟩:=(H.look i op ho k d (λe=>VD (e▸RD)) hd (hx d hl)).resolve_right (by rw[ua k RD];simp);simp only[p,eJ]at UZ;have:(op.after.any λe'=>Region.binds .any e'&&e'.on==e.on)=true:=by
   rw[iC];exact⟨e,he,by simp[hb]⟩
  rw[this]at UZ;cases UZ
 rw[drop done hi λk hk=>Bool.eq_false_iff.2 λq=>hi (zP fG hk q),drop (List.range i) aj λk hk=>Bool.eq_false_iff.2 λq=>by have:=H.ag4 q;have:=bU.1 hk;omega];have Jh:(done.filter p).Perm ((List.range i).filter p):=by
  refine(dC (kL.filter _) (List.nodup_range.filter _)).2 λj=>?_;simp only[List.mem_filter,List.mem_range];constructor
  ·rintro⟨h1,h2⟩;refine⟨?_,h2⟩;simp only[p,Array.any_eq_true',aU,beq_iff_eq]at h2;obtain⟨e,he,hb,rfl⟩:=h2;exact H.low i op ho e he hb
  ·rintro⟨h1,h2⟩;refine⟨?_,h2⟩;simp only[p,Array.any_eq_true',aU,beq_iff_eq]at h2;obtain⟨e,he,hb,rfl⟩:=h2;exact yE e he hb
 rw[kQ H.dst Jh]
def Mw(H:yJ ops){i:Nat}{op:Oper}(ho:ops[i]?=so op){done:List Nat}(kL:done.Nodup)(hi:i∉done)(yE:∀e∈op.after,Region.binds .any e=true->e.on∈done)(fG:∀j∈done,∀op,ops[j]?=so op->∀e∈op.after,Region.binds .any e=true->e.on∈done):
  Region.wanted op (yielded ops (cK ops v a done).tmps)=Region.wanted op (yielded ops (cK ops v a (List.range i)).tmps):=by
 cases hg:op.guard with
 |none=>rw[qd hg,qd hg]
 |some q =>
  obtain⟨g,want⟩:=q;have:yielded ops (cK ops v a done).tmps g=yielded ops (cK ops v a (List.range i)).tmps g:=by
   unfold yielded;cases hd:(ops[g]?).bind (·.dst) with
   |none=>rfl
   |some d =>
    have hl:d∈op.looksAt ops:=by simp[Oper.looksAt,hg,hd]
    have he:=yK (v:=v) (a:=a) H ho kL hi yE fG (.tmp d) (λd' e=>by cases e;exact hl);have hs:(cK ops v a done).tmps.size=(cK ops v a (List.range i)).tmps.size:=by rw[Az,Az]
    have:(cK ops v a done).tmps[d]?=(cK ops v a (List.range i)).tmps[d]?:=by
     simp only[Act.eval,bV]at he;by_cases h1:d<(cK ops v a done).tmps.size
     ·rw[aO h1,aO (hs▸h1)]at he |-;exact congrArg so he
     ·rw[bX (dt h1),bX (dt (hs▸h1))]
    simp only[Option.bind_some,this]
  simp only[Region.wanted,hg,this]
end
abbrev Kd:=Option (Option Value)
def pe(P:Program)(op:Oper)(a:Act):Value:=match (execOp a.eval op).run P (default:ae) with
 | .ok (.value y) _=>y
 |_=>undef
def CQ(P:Program)(kd:Kd)(op:Option Oper)(a:Act)(x:Value):Value:=match kd with
 |some we=>match op with|some op=>pe P op a|none=>undef
 |some (so y)=>y
 |none=>x
def Kd.at(kds:List Kd)(j:Nat):Kd:=kds.getD j we
def wj(P:Program)(ops:Array Oper)(kds:List Kd)(v:Nat->Value)(a:Act):Nat->Act
 |0=>a
 |j+1=>(wj P ops kds v a j).put (hZ ops j) (CQ P (Kd.at kds j) ops[j]? (wj P ops kds v a j) (v j))
def U1(P:Program)(ops:Array Oper)(kds:List Kd)(v:Nat->Value)(a:Act)(j:Nat):Value:=CQ P (Kd.at kds j) ops[j]? (wj P ops kds v a j) (v j)
section
variable {P:Program}{ops:Array Oper}{kds:List Kd}{v v':Nat->Value}{a:Act}
def qY:∀j,wj P ops kds v a j=cK ops (U1 P ops kds v a) a (List.range j):=by
 intro j
 induction j with
 |zero=>rfl
 |succ j ih =>
  rw[List.range_succ,jj,<- ih];rfl
def Fx(H:yJ ops){u:Nat->Value}{i:Nat}{op:Oper}(ho:ops[i]?=so op){l:List Nat}(VD:∀k∈l,k<i){x:Operand}(hx:∀d,x=.tmp d->d∈op.looksAt ops):(cK ops u a l).eval x=(cK ops u a (l.filter λj=>op.after.any λe=>Region.binds .any e&&e.on==j)).eval x:=by
 have hp:=(iI (λj=>op.after.any λe=>Region.binds .any e&&e.on==j) l).symm;rw[kQ H.dst hp,jj];refine pT _ _ λk hk d hd hl=>?_;obtain⟨RD,UZ⟩:=gm.1 hk;obtain⟨e,he,hb,rfl⟩:=(H.look i op ho k d (λe=>by have:=VD k RD;omega) hd (hx d hl)).resolve_right λq=>by have:=H.ag4 q;have:=VD k RD;omega
 have:(op.after.any λe'=>Region.binds .any e'&&e'.on==e.on)=true:=by
  rw[iC];exact⟨e,he,by simp[hb]⟩
 rw[this]at UZ;cases UZ
def Mx(H:yJ ops){done:List Nat}(fG:∀j∈done,∀op,ops[j]?=so op->∀e∈op.after,Region.binds .any e=true->e.on∈done)(hv:∀j∈done,v j=v' j):∀j∈done,U1 P ops kds v a j=U1 P ops kds v' a j:=by
 intro j
 induction j using Nat.strongRecOn with
 |ind j ih =>
  intro hj;unfold U1;rcases hk:Kd.at kds j with _|_|y
  ·exact hv j hj
  ·cases ho:ops[j]? with
   |none=>rfl
   |some op =>
    simp only[CQ];unfold pe;rw[execOp_congr op (H.sel j op ho) (ρ:=(wj P ops kds v a j).eval) (ρ':=(wj P ops kds v' a j).eval)];intro x hx;rw[qY,qY,Fx H ho (λk hk=>bU.1 hk) (λd hd=>by subst hd;exact pD hx),Fx H ho (λk hk=>bU.1 hk) (λd hd=>by subst hd;exact pD hx) (u:=U1 P ops kds v' a)];rw[tv];intro k hk;obtain⟨h1,h2⟩:=gm.1 hk;rw[iC]at h2;obtain⟨e,he,hb⟩:=h2;simp only[aU,beq_iff_eq]at hb;obtain⟨hb,rfl⟩:=hb;exact ih _ (bU.1 h1) (fG j hj op ho e he hb)
  ·rfl
end
def cS(P:Program)(ok:Oper->Nat->Kd->Act->Prop)(ops:Array Oper)(K:Act->Prop)(v:Nat->Value):List Nat->List Kd->Act->Prop
 | [],[],a=>K a
 |j::l,x::xs,a=>(∃op,ops[j]?=so op/\ok op j x a)/\cS P ok ops K v l xs (a.put (hZ ops j) (CQ P x ops[j]? a (v j)))
 |_,_,_=>False
def fE{P:Program}{ok:Oper->Nat->Kd->Act->Prop}{ops:Array Oper}{K:Act->Prop}{v:Nat->Value}{j:Nat}{l:List Nat}{x:Kd}{xs:List Kd}{a:Act}{op:Oper}{d:Option Tmp}(ho:ops[j]?=so op)(hd:op.dst=d)(iS:ok op j x a){y:Value}(hy:CQ P x (so op) a (v j)=y)(h:cS P ok ops K v l xs (a.put d y)):cS P ok ops K v (j::l) (x::xs) a :=
 ⟨⟨op,ho,iS⟩,by subst hd hy;simpa[hZ,ho] using h⟩
def fj{P:Program}{ok:Oper->Nat->Kd->Act->Prop}{ops:Array Oper}{K:Act->Prop}{v:Nat->Value}{a:Act}(h:K a):cS P ok ops K v [] [] a:=h
def cS.all{P:Program}{ok:Oper->Nat->Kd->Act->Prop}{ops:Array Oper}{K:Act->Prop}{kds:List Kd}{v:Nat->Value}{a:Act}:∀{m k:Nat} {xs:List Kd},cS P ok ops K v (List.range' k m) xs (wj P ops kds v a k)->(∀j,j<m->Kd.at kds (k+j)=xs.getD j we) ->
  (∀j op,k<=j->j<k+m->ops[j]?=so op->ok op j (Kd.at kds j) (wj P ops kds v a j))/\K (wj P ops kds v a (k+m)):=by
 intro m
 induction m with
 |zero =>
  intro k xs h hg;cases xs with
  |nil=>exact⟨λj op h1 h2=>aa,h⟩
  |cons x l=>exact h.elim
 |succ m ih =>
  intro k xs h hg;cases xs with
  |nil=>rw[je]at h;exact h.elim
  |cons x l =>
   rw[je]at h;obtain⟨⟨op,ho,iS⟩,hr⟩:=h;have hx:Kd.at kds k=x:=by have:=hg 0 aa;simpa using this
   have uP:(wj P ops kds v a k).put (hZ ops k) (CQ P x ops[k]? (wj P ops kds v a k) (v k))=wj P ops kds v a (k+1):=by rw[<- hx];rfl
   rw[uP]at hr;have:=ih (k:=k+1) (xs:=l) hr (λj hj=>by have:=hg (j+1) aa;rw[show k+(j+1)=k+1+j by omega]at this;simpa using this);refine⟨λj Jf h1 h2 p6=>?_,by rw[show k+(m+1)=k+1+m by omega];exact this.2⟩;by_cases e:j=k
   ·subst e;rw[ho]at p6;cases p6;rw[hx];exact iS
   ·exact this.1 j Jf aa aa p6
section
variable {P:Program}{m:Bool}{R:aL->ae->ae->Prop}{Gu:aL->ae->ae->Array Event->Prop}{X:aL->aY->ae->Prop}{fn:FuncId}{Q:Exit->Act->aL->ae->Prop}{a:Act}{o:aL}{w:ae}
def full_of{n:Nat}{l:List Nat}(h:l.Nodup)(hl:∀x∈l,x<n)(hn:n<=l.length):∀j,j<n->j∈l:=λj hj=>aX λhm=>by
 have:=uT n (j::l) (il.2 ⟨hm,h⟩) (λx hx=>by rcases bq.1 hx with rfl|hx;exact hj;exact hl x hx);simp at this;omega
def P7{n:Nat}{l:List Nat}(h:l.Nodup)(hl:∀x∈l,x<n)(hf:∀j,j<n->j∈l):l.Perm (List.range n) :=
 (dC h jd).2 λj=>⟨λhj=>bU.2 (hl j hj),λhj=>hf j (bU.1 hj)⟩
def lg(σ:Nat->Option Value)(j:Nat)(y:Value):Nat->Option Value:=λi=>if i=j then so y else σ i
def zR(ops:Array Oper)(k:Nat):List Nat->Nat->Bool
 | [],j=>rY ops k j
 |i::l,j=>rY ops k i&&zR ops i l j
structure yL(ops:Array Oper)(kds:List Kd)(v:Nat->Value)(j:Nat)(σ:Nat->Option Value):Prop where
 fits:Fits v σ
 SZ:∀l i,zR ops j l i=true->Kd.at kds i=we->σ i=so (v i)
 P8:∀l k,zR ops k l j=true->σ k=we
def yL.done{ops:Array Oper}{kds:List Kd}{v:Nat->Value}{j:Nat}{σ:Nat->Option Value}(h:yL ops kds v j σ)(i:Nat)(hi:rY ops j i=true):Kd.at kds i=we->σ i=so (v i):=h.SZ [] i hi
def yL.GN{ops:Array Oper}{kds:List Kd}{v:Nat->Value}{j:Nat}{σ:Nat->Option Value}(h:yL ops kds v j σ)(k:Nat)(hk:rY ops k j=true):σ k=none:=h.P8 [] k hk
def xF{ops:Array Oper}{done:List Nat}(fG:∀j∈done,∀op,ops[j]?=so op->∀e∈op.after,Region.binds .any e=true->e.on∈done):∀(l:List Nat) {k j:Nat},k∈done->zR ops k l j=true->j∈done
 | [],k,j,hk,h=>zP fG hk h
 |i::l,k,j,hk,h=>by
  simp only[zR,aU]at h;exact xF fG l (zP fG hk h.1) h.2
def vG(P:Program)(X:aL->aY->ae->Prop)(fn:FuncId)(ops:Array Oper)(Q:Exit->Act->aL->ae->Prop)(S:(Nat->Option Value)->aL->ae->Prop)(kds:List Kd)(v:Nat->Value)(op:Oper)(j:Nat)(x:Kd)(a:Act):Prop :=
 ∀(A:Act) (rest:List Nat) (σ:Nat->Option Value) (o:aL) (w:ae),(∀y∈op.op.operands,A.eval y=a.eval y)->Region.wanted op (yielded ops A.tmps)=Region.wanted op (yielded ops a.tmps)->yL ops kds v j σ->(x=we->σ j=we)->S σ o w ->
  (∀y o' w',(match x with|some (so z)=>y=z/\S σ o' w' | some we=>y=pe P op a/\S σ o' w' | none=>S (lg σ j y) o' w')->dK X fn ops rest Q (A.put op.dst y) o' w')->dK X fn ops (j::rest) Q A o w
def P9(W:gj P m R Gu X)(xB:P.follows .mixedOrders=true){id:Nat}{ops:Array Oper}(iS:By ops=true)(kds:List Kd){S:(Nat->Option Value)->aL->ae->Prop}(hS:∀σ o w w1,S σ o w->R o w w1->S σ o w1)(Zi:∀σ o (w:ae),S σ o w->S σ o {w with drawn:=w.drawn+1})(Zj:∀w:ae,Gu o w {w with drawn:=w.drawn+1} #[])(h0:S (λ_=>we) o w)(xy:∀v,cS P (vG P X fn ops Q S kds v) ops (λa'=>∀σ o w,(∀j,j<ops.size->Kd.at kds j=we->σ j=so (v j))->S σ o w->dK X fn ops [] Q a' o w) v (List.range ops.size) kds a):wN X fn (.region id ops true) Q a o w:=by
 have H:=GL iS;generalize hn:ops.size=n at xy;have eP:∀v,_:=λv=>cS.all (kds:=kds) (v:=v) (k:=0) (m:=n) (a:=a) (by have:=xy v;rw[js]at this;exact this) (λj _=>by simp[Kd.at]);let T:List Nat->(Nat->Value)->aL->ae->Prop:=λdn v o w=>∃σ,Fits v σ/\(∀j,σ j≠we->j∈dn)/\(∀j∈dn,Kd.at kds j=we->σ j=so (v j))/\S σ o w;have key:∀(fuel t:Nat) (ls:Array Bool) (done:List Nat) (v:Nat->Value) (o:aL) (w:ae),T done v o w->uU ops n ls done->fuel+done.length=n ->
   dK X fn ops (Region.linearise.go .any ops fuel t ls []) Q (cK ops (U1 P ops kds v a) a done) o w:=by
  intro fuel
  induction fuel with
  |zero =>
   intro t ls done v o w hw hL XL;have kL:=hL.nd;have cR:=hL.lt;simp only[Region.linearise.go,List.reverse_nil];have hp:done.Perm (List.range n):=P7 kL cR (full_of kL cR aa);obtain⟨σ,hf,h1,h2,Zm⟩:=hw;rw[kQ H.dst hp,<- qY];have:=(eP v).2;rw[bD]at this;exact this σ o w (λj hj hk=>h2 j (hp.mem_iff.2 (bU.2 hj)) hk) Zm
  |succ fuel ih =>
   intro t ls done v o w hw hL XL;obtain⟨i,op,t',h1,h2,ho,h3,el,hL'⟩:=hL.step hn H.low aa fuel t;rw[el];have kL:=hL.nd;have fG:=hL.cl;obtain⟨σ,hf,Lj,HW,Zm⟩:=hw;have fD:=(eP v).1 i op (aW _) aa ho;have hsi:σ i=none:=aX λh=>h2 (Lj i h);refine fD _ _ σ o w (λy hy=>?_) ?_ ⟨hf,λl k hk rG=>HW _ (by
     have dir:∀k,rY ops i k=true->k∈done:=λk hk=>by
      simp only[rY,ho,Array.any_eq_true',aU,beq_iff_eq]at hk;obtain⟨e,he,hb,rfl⟩:=hk;exact h3 e he hb
     cases l with
     |nil=>exact dir k hk
     |cons i' l =>
      simp only[zR,aU]at hk;exact xF fG l (dir i' hk.1) hk.2) rG,λl k hk=>aX λhsk=>h2 (xF fG l (Lj k hsk) hk)⟩ (λ_=>hsi) Zm (λx o1 w1 vw=>?_)
   ·rw[qY];exact yK H ho kL h2 h3 fG y (λd hd=>by subst hd;exact pD hy)
   ·rw[qY];exact Mw H ho kL h2 h3 fG
   ·
    have wM:∀j∈done,v j=(λj=>if j=i then x else v j) j:=λj hj=>(if_neg (λ(e:j=i)=>h2 (e▸hj))).symm;have fe:=Mx (P:=P) (kds:=kds) (a:=a) H fG wM;have hui:U1 P ops kds (λj=>if j=i then x else v j) a i=x:=by
     have ha:Kd.at kds i=so we->pe P op (wj P ops kds (λj=>if j=i then x else v j) a i)=pe P op (wj P ops kds v a i):=λ_=>by
      unfold pe;rw[execOp_congr op (H.sel i op ho) (ρ:=(wj P ops kds (λj=>if j=i then x else v j) a i).eval) (ρ':=(wj P ops kds v a i).eval)];intro y hy;have hy':∀d,y=.tmp d->d∈op.looksAt ops:=λd hd=>by subst hd;exact pD hy
      rw[qY,qY,<- yK H ho kL h2 h3 fG y hy',<- yK H ho kL h2 h3 fG y hy',tv done λj hj=>(fe j hj).symm]
     unfold U1;rcases hk:Kd.at kds i with _|_|z
     ·simp[CQ]
     ·simp only[hk]at vw;simp only[CQ,ho];rw[ha hk];exact vw.1.symm
     ·simp only[hk]at vw;simp only[CQ];exact vw.1.symm
    have e2:(cK ops (U1 P ops kds v a) a done).put op.dst x=cK ops (U1 P ops kds (λj=>if j=i then x else v j) a) a (done++[i]):=by
     rw[jj,tv done λj hj=>(fe j hj).symm];simp[cK,ho,hui]
    rw[e2];refine ih t' _ (done++[i]) _ o1 w1 ?_ hL' eW;have XV:∀j y,j≠i->σ j=so y->(if j=i then x else v j)=y:=λj y e hy=>by rw[if_neg e];exact hf j y hy
    have rest:Kd.at kds i≠we->S σ o1 w1->T (done++[i]) (λj=>if j=i then x else v j) o1 w1:=λhk vw=>by
     refine⟨σ,λj y hy=>?_,λj hj=>bG.2 (.inl (Lj j hj)),λj hj hkj=>?_,vw⟩
     ·exact XV j y (λe=>by rw[e,hsi]at hy;cases hy) hy
     ·have e:j≠i:=λe=>hk (e▸hkj);simp only[if_neg e];rcases bG.1 hj with hj|hj
      ·exact HW j hj hkj
      ·simp at hj;exact absurd hj e
    rcases hk:Kd.at kds i with _|_|z
    ·simp only[hk]at vw;refine⟨lg σ i x,λj y hy=>?_,λj hj=>?_,λj hj hkj=>?_,vw⟩
     ·by_cases e:j=i
      ·subst e;simp only[lg,if_true]at hy;simp only[if_true];exact aP hy
      ·simp only[lg,if_neg e]at hy;exact XV j y e hy
     ·by_cases e:j=i
      ·subst e;simp
      ·simp only[lg,if_neg e]at hj;exact bG.2 (.inl (Lj j hj))
     ·by_cases e:j=i
      ·subst e;simp[lg]
      ·simp only[lg,if_neg e];rcases bG.1 hj with hj|hj
       ·exact HW j hj hkj
       ·simp at hj;exact absurd hj e
    ·simp only[hk]at vw;exact rest (by rw[hk];simp) vw.2
    ·simp only[hk]at vw;exact rest (by rw[hk];simp) vw.2
 intro b k cs hb hk hc;refine W.step o _ w rfl λw1 sL=>⟨_,_,_,stepG_region_draw,Zj w1,?_⟩;rw[iw o aG];have SJ:∀t,Region.schedule (P.follows .mixedOrders) ops t=Region.linearise.go .any ops n t (Array.replicate n false) []:=by
  intro t;simp[Region.schedule,xB,Region.linearise,hn]
 rw[SJ];exact key n (w1.tape w1.drawn (.order b.fn id)) (Array.replicate n false) [] (λ_=>undef) o {w1 with drawn:=w1.drawn+1} ⟨λ_=>we,(λ(j:Nat) (y:Value) hy=>by cases hy),(λj hj=>absurd rfl hj),(λj hj=>by cases hj),Zi _ _ _ (hS _ o w w1 h0 sL)⟩ (uU.zero ops _) aj b k cs hb hk hc
end
section
variable {P:Program}{L:Nat->Bool}{Fin:br}{d:Nat}{fn:FuncId}{Q:Exit->Act->aL->ae->Prop}{a:Act}{o:aL}{w:ae}{ops:Array Oper}
def Bz{l:List Nat}{A:Act}{n:Nat}(h:dK (XB P Fin d) fn ops l Q A o w):dK (XB P Fin d) fn ops l Q A o (w.at n):=λb k cs hb hk hc=>bZ.rely _ _ _ _ (h b k cs hb hk hc) ⟨n,rfl⟩
def iy(xB:P.follows .mixedOrders=true){id:Nat}(iS:By ops=true)(kds:List Kd){S:(Nat->Option Value)->aL->ae->Prop}(h0:S (λ_=>we) o w)(xy:∀v,cS P (vG P (XB P Fin d) fn ops Q S kds v) ops (λa'=>∀σ o w,(∀j,j<ops.size->Kd.at kds j=we->σ j=so (v j))->S σ o w->Q .normal a' o w) v (List.range ops.size) kds a):wN (XB P Fin d) fn (.region id ops true) Q a o w:=by
 refine P9 (R:=λ_=>AtRel) (Gu:=GuO Fin) bZ xB iS kds (S:=λσ o w=>∃w0 n,w=w0.at n/\S σ o w0) (λσ o w w1 h hr=>?_) (λσ o w h=>?_) (λw=>⟨aj,af _,rfl,rfl⟩) ⟨w,w.drawn,rfl,h0⟩ λv=>?_
 ·obtain⟨w0,n,rfl,h⟩:=h;obtain⟨k,rfl⟩:=hr;exact⟨w0,k,rfl,h⟩
 ·obtain⟨w0,n,rfl,h⟩:=h;exact⟨w0,_,rfl,h⟩
 ·have key:∀(l:List Nat) (xs:List Kd) (a:Act),cS P (vG P (XB P Fin d) fn ops Q S kds v) ops (λa'=>∀σ o w,(∀j,j<ops.size->Kd.at kds j=we->σ j=so (v j))->S σ o w->Q .normal a' o w) v l xs a ->
    cS P (vG P (XB P Fin d) fn ops Q (λσ o w=>∃w0 n,w=w0.at n/\S σ o w0) kds v) ops (λa'=>∀σ o w,(∀j,j<ops.size->Kd.at kds j=we->σ j=so (v j))->(∃w0 n,w=w0.at n/\S σ o w0)->dK (XB P Fin d) fn ops [] Q a' o w) v l xs a:=by
   intro l
   induction l with
   |nil =>
    intro xs a h;cases xs with
    |nil =>
     intro σ o w hs hS;obtain⟨w0,n,rfl,hS⟩:=hS;exact Bz (yx bZ (h σ o w0 hs hS))
    |cons x xs=>exact h.elim
   |cons j l ih =>
    intro xs a h;cases xs with
    |nil=>exact h.elim
    |cons x xs =>
     obtain⟨⟨op,ho,hk⟩,hr⟩:=h;refine⟨⟨op,ho,λA rest σ o w h1 h2 h3 h4 hS hc=>?_⟩,ih xs _ hr⟩;obtain⟨w0,n,rfl,hS⟩:=hS;refine Bz (hk A rest σ o w0 h1 h2 h3 h4 hS λy o' w' hy=>hc y o' w' ?_);rcases x with _|_|z
     ·exact⟨w',w'.drawn,rfl,hy⟩
     ·exact⟨hy.1,w',w'.drawn,rfl,hy.2⟩
     ·exact⟨hy.1,w',w'.drawn,rfl,hy.2⟩
  exact key _ _ _ (xy v)
def sS:Op->Bool
 | .select ..=>false
 |_=>true
def nS{op:Op}(h:sS op=true):∀cs b,op≠.select cs b:=λcs b e=>by rw[e]at h;cases h
variable {S:(Nat->Option Value)->aL->ae->Prop}{kds:List Kd}{v:Nat->Value}{K:Act->Prop}{j:Nat}{l:List Nat}{xs:List Kd}{op:Oper}{dd:Option Tmp}
def GO(ho:ops[j]?=so op)(hd:op.dst=dd)(hn:sS op.op=true)(hw:Region.wanted op (yielded ops a.tmps)=true){y:Value}(cG:∀w1,(execOp a.eval op).run P w1=.ok (.value y) w1)(jg:∀w1,(execOp a.eval op).events P w1 #[]=#[])(h:cS P (vG P (XB P Fin d) fn ops Q S kds v) ops K v l xs (a.put dd y)):cS P (vG P (XB P Fin d) fn ops Q S kds v) ops K v (j::l) (so none::xs) a:=by
 refine fE ho hd (λA rest σ o w h1 h2 h3 h4 hS hc=>?_) (y:=y) (by simp only[CQ];unfold pe;rw[cG]) h;have hex:=execOp_congr op (nS hn) h1;refine mz bZ ho (h2.trans hw) λw1 hr K hK=>?_;rw[hex,cG w1];simp only[uponK_value];refine hK _ _ ⟨?_,?_⟩
 ·have:listed P fn A op w1=#[]:=by unfold listed;rw[hex,jg w1];exact seen_none P _
  rw[this];exact⟨aj,af _,rfl,rfl⟩
 ·rw[cp];obtain⟨n,rfl⟩:=hr;exact Bz (hc y o w ⟨by unfold pe;rw[cG],hS⟩)
def Jv(C:Prop)(Y:Value)(ho:ops[j]?=so op)(hd:op.dst=dd)(hn:sS op.op=true)(hw:Region.wanted op (yielded ops a.tmps)=true)(hC:∀σ o w,yL ops kds v j σ->S σ o w->C)(cG:C->∀w1,(execOp a.eval op).run P w1=.ok (.value Y) w1)(jg:C->∀w1,(execOp a.eval op).events P w1 #[]=#[])(h:∀y,(C->y=Y)->cS P (vG P (XB P Fin d) fn ops Q S kds v) ops K v l xs (a.put dd y)):cS P (vG P (XB P Fin d) fn ops Q S kds v) ops K v (j::l) (so none::xs) a:=by
 refine fE ho hd (λA rest σ o w h1 h2 h3 h4 hS hc=>?_) rfl (h _ λc=>by simp only[CQ];unfold pe;rw[cG c]);have c:=hC σ o w h3 hS;have hex:=execOp_congr op (nS hn) h1;refine mz bZ ho (h2.trans hw) λw1 hr K hK=>?_;rw[hex,cG c w1];simp only[uponK_value];refine hK _ _ ⟨?_,?_⟩
 ·have:listed P fn A op w1=#[]:=by unfold listed;rw[hex,jg c w1];exact seen_none P _
  rw[this];exact⟨aj,af _,rfl,rfl⟩
 ·rw[cp];obtain⟨n,rfl⟩:=hr;exact Bz (hc Y o w ⟨by unfold pe;rw[cG c],hS⟩)
def jD(ho:ops[j]?=so op)(hd:op.dst=dd)(hw:Region.wanted op (yielded ops a.tmps)=false)(h:cS P (vG P (XB P Fin d) fn ops Q S kds v) ops K v l xs (a.put dd undef)):cS P (vG P (XB P Fin d) fn ops Q S kds v) ops K v (j::l) (so (so undef)::xs) a:=by
 refine fE ho hd (λA rest σ o w h1 h2 h3 h4 hS hc=>?_) rfl h;exact jX bZ ho (h2.trans hw) (hc undef o w ⟨rfl,hS⟩)
def S0(dp:sJ P L P.globals.size)(ho:ops[j]?=so op)(hd:op.dst=dd)(hn:sS op.op=true)(hw:Region.wanted op (yielded ops a.tmps)=true)(iS:oC L op.op=true){y:Value}(cG:∀σ o w,yL ops kds v j σ->S σ o w->bJ P L o w/\(∀x∈op.op.operands,Cl P L o (a.eval x))/\∀wl,jk o w wl->(execOp a.eval op).run P wl=.ok (.value y) wl)(h:cS P (vG P (XB P Fin d) fn ops Q S kds v) ops K v l xs (a.put dd y)):cS P (vG P (XB P Fin d) fn ops Q S kds v) ops K v (j::l) (so (so y)::xs) a:=by
 refine fE ho hd (λA rest σ o w h1 h2 h3 h4 hS hc=>?_) rfl h;obtain⟨hF,fG,hr⟩:=cG σ o w h3 hS;have hex:=execOp_congr op (nS hn) h1;exact xE dp hF ho (h2.trans hw) iS (λx hx=>by rw[h1 x hx];exact fG x hx) rfl (λwl bu=>by rw[hex];exact hr wl bu) λ_=>hc y o w ⟨rfl,hS⟩
def BB(ho:ops[j]?=so op)(hd:op.dst=dd)(hw:Region.wanted op (yielded ops a.tmps)=true){f:FuncId}{fc:Func}{c:Code}{args:Array Operand}{tf:Array TypeId}(fD:op.op=.call {callee:=.value (.func f),args,argTypes:=tf})(hf:P.funcs[f]?=so fc)(iB:(fc.name == "runtime.NumGoroutine")=false)(gb:fc.body=so c){av:Array Value}(has:args.map a.eval=av)(Fy:∀σ o w,yL ops kds v j σ->σ j=we->S σ o w->bC P (XB P Fin d) f av o w λy o' w'=>S (lg σ j y) o' w')(h:cS P (vG P (XB P Fin d) fn ops Q S kds v) ops K v l xs (a.put dd (v j))):cS P (vG P (XB P Fin d) fn ops Q S kds v) ops K v (j::l) (none::xs) a:=by
 refine fE ho hd (λA rest σ o w h1 h2 h3 h4 hS hc=>?_) rfl h;exact eH bZ ho (h2.trans hw) fD hf iB gb ((qe fD h1).trans has) rfl ((Fy σ o w h3 (h4 rfl) hS).mono λy o' w' q=>hc y o' w' q)
def CR(ho:ops[j]?=so op)(hd:op.dst=dd)(hw:Region.wanted op (yielded ops a.tmps)=true){f:FuncId}{fc:Func}{c:Code}{args:Array Operand}{tf:Array TypeId}(fD:op.op=.call {callee:=.value (.func f),args,argTypes:=tf})(hf:P.funcs[f]?=so fc)(iB:(fc.name == "runtime.NumGoroutine")=false)(gb:fc.body=so c){av:Array Value}(has:args.map a.eval=av){y:Value}(Fy:∀σ o w,yL ops kds v j σ->S σ o w->bC P (XB P Fin d) f av o w λy' o' w'=>y'=y/\S σ o' w')(h:cS P (vG P (XB P Fin d) fn ops Q S kds v) ops K v l xs (a.put dd y)):cS P (vG P (XB P Fin d) fn ops Q S kds v) ops K v (j::l) (so (so y)::xs) a:=by
 refine fE ho hd (λA rest σ o w h1 h2 h3 h4 hS hc=>?_) rfl h;exact eH bZ ho (h2.trans hw) fD hf iB gb ((qe fD h1).trans has) rfl ((Fy σ o w h3 hS).mono λy o' w' q=>hc y o' w' q)
def GP(dp:sJ P L P.globals.size)(ho:ops[j]?=so op)(hd:op.dst=dd)(hn:sS op.op=true)(hw:Region.wanted op (yielded ops a.tmps)=true)(iS:oC L op.op=true)(cG:∀σ o w,yL ops kds v j σ->σ j=we->S σ o w->bJ P L o w/\(∀x∈op.op.operands,Cl P L o (a.eval x))/\∃R:ae->ae->Prop,(∀wl,jk o w wl->∃bN,(execOp a.eval op).run P wl=.ok .skip bN/\R wl bN)/\∀wl bN w',jk o w wl->R wl bN->mG P L o w w' bN undef->S (lg σ j undef) (grow o w w') w')(h:cS P (vG P (XB P Fin d) fn ops Q S kds v) ops K v l xs (a.put dd (v j))):cS P (vG P (XB P Fin d) fn ops Q S kds v) ops K v (j::l) (none::xs) a:=by
 refine fE ho hd (λA rest σ o w h1 h2 h3 h4 hS hc=>?_) rfl h;obtain⟨hF,fG,R,hr,hb⟩:=cG σ o w h3 (h4 rfl) hS;have hex:=execOp_congr op (nS hn) h1;exact vF dp hF ho (h2.trans hw) iS (λx hx=>by rw[h1 x hx];exact fG x hx) rfl (R:=R) (λwl bu=>by rw[hex];exact hr wl bu) λwl bN w' k1 k2 k3=>hc undef _ _ (hb wl bN w' k1 k2 k3)
def zS(dp:sJ P L P.globals.size)(ho:ops[j]?=so op)(hd:op.dst=dd)(hn:sS op.op=true)(hw:Region.wanted op (yielded ops a.tmps)=true)(iS:oC L op.op=true)(cG:∀σ o w,yL ops kds v j σ->σ j=we->S σ o w->bJ P L o w/\(∀x∈op.op.operands,Cl P L o (a.eval x))/\∃R:ae->Value->ae->Prop,(∀wl,jk o w wl->∃y bN,(execOp a.eval op).run P wl=.ok (.value y) bN/\R wl y bN)/\∀wl y bN w',jk o w wl->R wl y bN->mG P L o w w' bN y->S (lg σ j y) (grow o w w') w')(h:cS P (vG P (XB P Fin d) fn ops Q S kds v) ops K v l xs (a.put dd (v j))):cS P (vG P (XB P Fin d) fn ops Q S kds v) ops K v (j::l) (none::xs) a:=by
 refine fE ho hd (λA rest σ o w h1 h2 h3 h4 hS hc=>?_) rfl h;obtain⟨hF,fG,R,hr,hb⟩:=cG σ o w h3 (h4 rfl) hS;have hex:=execOp_congr op (nS hn) h1;exact jL dp hF ho (h2.trans hw) iS (λx hx=>by rw[h1 x hx];exact fG x hx) rfl (R:=R) (λwl bu=>by rw[hex];exact hr wl bu) λwl y bN w' k1 k2 k3=>hc y _ _ (hb wl y bN w' k1 k2 k3)
end
structure xG(p:Prop):Prop where
 out:p
theorem aD{G G':Prop}(h:G')(f:xG G'->G:=by
  intro h9;try walk_nrm
  repeat (first|(refine Cx (by assumption) ?_;simp only[List.size_toArray,List.length_cons,List.length_nil,Nat.reduceAdd,Nat.zero_add,List.range,List.range.loop])|(refine rW (by assumption) rfl rfl ?_ ?_ ?_;(focus (rfl));(focus (intro w1;first|(simp[go_sem];done)|(simp[go_sem, *];done)));intro w1 K hK;go_simp;refine hK _ ?_;clear hK K w1;try walk_nrm)|(refine jX (by assumption) rfl (by rfl) ?_;try walk_nrm)|((first|refine yx (by assumption) ?_|refine I4 (by assumption) ?_|refine Oh (by assumption) ?_|refine I5 (by assumption) ?_);try simp only[nu,SK,yC,gL,if_true,if_false,reduceIte,Nat.reduceEqDiff])|(refine Bt (by assumption) ?_)|(refine Fi (by assumption) ?_)|(refine I6 (by assumption) rfl ?_;simp only[if_true,if_false,reduceIte,aT]))
  exact h9.out):G:=f ⟨h⟩
theorem Zr{G G':Prop}(h:G')(f:xG G'->G:=by
  intro h9;try walk_nrm
  repeat (first|(refine Cx (by assumption) ?_;simp only[List.size_toArray,List.length_cons,List.length_nil,Nat.reduceAdd,Nat.zero_add,List.range,List.range.loop])|(refine rW (by assumption) rfl rfl ?_ ?_ ?_;(focus (rfl));(focus (intro w1;first|(simp[go_sem];done)|(simp[go_sem, *];done)));intro w1 K hK;go_simp;refine hK _ ?_;clear hK K w1;try walk_nrm)|(refine jX (by assumption) rfl (by rfl) ?_;try walk_nrm)|((first|refine yx (by assumption) ?_|refine I4 (by assumption) ?_|refine Oh (by assumption) ?_|refine I5 (by assumption) ?_);try simp only[nu,gL,if_true,if_false,reduceIte,Nat.reduceEqDiff])|(refine Fi (by assumption) ?_)|(refine I6 (by assumption) rfl ?_;simp only[if_true,if_false,reduceIte,aT]))
  exact h9.out):G:=f ⟨h⟩
theorem fU{G G':Prop}(h:G')(f:xG G'->G:=by
  intro h9;try walk_nrm
  repeat (refine GO (y:=?_) rfl rfl rfl (by rfl) (fun w1=>?_) (fun w1=>?_) ?_;rotate_left;(focus (first|(simp[go_sem,Act.eval];rfl)|(simp[go_sem,Act.eval, *];rfl)));(focus (first|(simp[go_sem,Act.eval];done)|(simp[go_sem,Act.eval, *];done)));try walk_nrm)
  exact h9.out):G:=f ⟨h⟩
theorem iJ{G G':Prop}(h:G')(f:xG G'->G:=by
  intro h9
  repeat (refine VG (by assumption) rfl rfl ?_ (by assumption) ?_ ?_;(focus (rfl));(focus (intro w1;first|(simp[go_sem];done)|(simp[go_sem, *];done)));intro w1 K hK;go_simp;refine hK _ ?_;clear hK K w1;try walk_nrm)
  exact h9.out):G:=f ⟨h⟩
theorem fF{G G':Prop}(h:G')(f:xG G'->G:=by
  intro h9;simp only[List.size_toArray,List.length_cons,List.length_nil,Nat.reduceAdd,Nat.zero_add,List.range,List.range.loop];exact h9.out):G:=f ⟨h⟩
theorem uW{G G':Prop}(h:G')(f:xG G'->G:=by
  intro h9;refine cU rfl rfl (kY fun o5 w5 rZ=>⟨?_,?_⟩) ?_;(focus (first|(simp[go_sem];done)|(simp[go_sem, *];done)));(focus (first|(simp[go_sem];done)|(simp[go_sem, *];done)));try walk_nrm
  exact h9.out):G:=f ⟨h⟩
theorem S1{G G':Prop}(h:G')(f:xG G'->G:=by
  intro h9;refine cU rfl rfl (fun w5 rZ=>⟨?_,?_⟩) ?_;(focus (first|(simp[go_sem];done)|(simp[go_sem, *];done)));(focus (first|(simp[go_sem];done)|(simp[go_sem, *];done)));try walk_nrm
  exact h9.out):G:=f ⟨h⟩
theorem S4{G T:Prop}(h:T)(f:T->G:=by
  intro h9 y hy;simp[Op.operands] at hy;subst hy;simp[Act.eval];exact h9):G:=f h
theorem XX{G T U:Prop}(h:T)(k:U)(f:T->U->G:=by
  intro h9 k9 y hy;simp[Op.operands] at hy;rcases hy with rfl|rfl
  ·simp[Act.eval];exact h9
  ·simp[Act.eval];exact k9):G:=f h k
section
variable {P:Program} {m:Bool} {R:aL->ae->ae->Prop} {Gu:aL->ae->ae->Array Event->Prop} {X:aL->aY->ae->Prop} {fn:FuncId} {Q:Exit->Act->aL->ae->Prop} {a:Act} {o:aL} {w:ae}
theorem dq{ops:Array Oper}{i:Nat}{rest:List Nat}{op:Oper}{f:FuncId}{fc:Func}{c:Code}{args:Array Operand}{tf:Array TypeId}{vs:Array Value}{d:Option Tmp}{Post:Value->aL->ae->Prop}(hf:P.funcs[f]?=some fc)(h:bC P X f vs o w Post)(k:∀v o' w',Post v o' w'->dK X fn ops rest Q (a.put d v) o' w')(W:gj P m R Gu X:=by assumption)(ho:ops[i]?=some op:=by rfl)(hw:Region.wanted op (yielded ops a.tmps)=true:=by rfl)(fD:op.op=.call {callee:=.value (.func f),args,argTypes:=tf}:=by rfl)(iB:(fc.name == "runtime.NumGoroutine")=false:=by kernel_rfl)(gb:fc.body=some c:=by rfl)(Mf:args.map a.eval=vs:=by simp[Act.eval])(hd:op.dst=d:=by rfl):dK X fn ops (i::rest) Q a o w:=eH W ho hw fD hf iB gb Mf hd (h.mono k)
end
section
variable {P:Program}{w:ae}{es:Array Event}
def yM(t e:TypeId)(n:Nat)(a:Addr)(kl kh:IntKind)(l h:Int)(ht:P.underlying t=so (.array n e))(h0:0<=l)(h1:l<=h)(h2:h<=n):
  (Instr.sliceAt t (.pointer (so a)) (so (.int kl l)) (so (.int kh h)) we).events P w es=es:=by
 have eh:(h.toNat:Int)=h:=ig aa;have el:(l.toNat:Int)=l:=ig h0;have b1:∀w es,(Instr.sliceBound (.int kh h) n .sliceAlen).events P w es=es:=λw es=>by
  simp[Instr.sliceBound,asIntOf,Sem.events_bind,show 0<=h by omega,h2]
 have b2:∀w es,(Instr.sliceBound (.int kl l) h.toNat .sliceB).events P w es=es:=λw es=>by
  simp[Instr.sliceBound,asIntOf,Sem.events_bind,h0,eh,h1]
 simp[Instr.sliceAt,Instr.sliceBounds,Instr.sureAddr,Sem.events_bind,run_underlying ht,run_sliceBound,b1,b2,eh,el,h0,h1,h2,show 0<=h by omega,go_sem]
end
section
variable {P:Program}
def xH{w:ae}(f:Value->ag->Sem (ForInStep ag))(hf:∀(n:Int) (r:ag),(f (.int .u8 n) r).run P w=.ok (.yield (r.push (UInt8.ofNat n.toNat))) w)(he:∀(n:Int) (r:ag) (es:Array Event),(f (.int .u8 n) r).events P w es=es):∀(ns:List Int) (s:ag) (es:Array Event),(forIn (ns.map (Value.int .u8)) s f).events P w es=es:=by
 intro ns
 induction ns with
 |nil=>intro s es;simp[Sem.events_pure]
 |cons n ns ih =>
  intro s es;simp only[aB,List.forIn_cons,Sem.events_bind,hf,Result.evThen_ok,he];exact ih _ es
def dh{w:ae}{a:Addr}{u v:Value}(es:Array Event)(m:Mode)(hc:w.cell? a=so u)(hf:w.frozen? a=false)(hv:v.oneCell'=true):(store a v m).events P w es=es.push ⟨.cell a,true,m == .atomic⟩:=by
 rw[events_store P w es a v m hv,hc];simp[hf]
def wm(w:ae)(src dst e:TypeId)(a:Addr)(ns:List Int)(c:Nat)(es:Array Event)(hs:P.underlying src=so (.slice e))(he:P.underlying e=so (.int .u8))(hd:P.underlying dst=so .string)(hc:∀j (hj:j<ns.length),w.cell? (a.add j)=so (.int .u8 ns[j])):∀ev∈(convert src dst (.slice (so a) ns.length c)).events P w es,ev∈es\/ev.readsIn (λb=>b=a.block):=by
 have hl:=run_loadCells_list (P:=P) w a (ns.map (Value.int .u8)) (λj v hj=>by
  obtain⟨h1,h2⟩:=a8.1 hj;rw[hc j (by simpa using h1),<- h2];simp)
 simp only[List.length_map]at hl;intro ev h;have h':ev∈(Conv.bytesToString (.slice (so a) ns.length c)).events P w es:=by
  simpa[convert,run_underlying hs,run_underlying hd,run_underlying he,Sem.events_bind,events_underlying] using h
 simp only[Conv.bytesToString,Sem.events_bind,hl,Result.evThen_ok]at h';rw[List.forIn_toArray,run_forIn_bytes (P:=P) (w:=w) _ (λn r=>by simp[Sem.run_pure]) ns ByteArray.empty,Result.evThen_ok,xH (P:=P) (w:=w) _ (λn r=>by simp[Sem.run_pure]) (λn r es=>by simp[Sem.events_pure]) ns ByteArray.empty,Sem.events_pure]at h';exact events_loadCellsFrom_at a (λb=>b=a.block) rfl ns.length 0 #[] w es (λj hj=>by rw[bD,hc j hj];rfl) ev h'
end
end Go.Ren
namespace Go.Proofs.Kz
open Go.Proofs.Tryz
open Go.Proofs.Tryz renaming prog → ak
open _root_.ByteArray renaming empty → bF
open _root_.Option renaming some → so,none → we
open Go.Ren Go.Conc Go.Proofs
section
variable {m:Bool}{R:aL->ae->ae->Prop}{Gu:aL->ae->ae->Array Event->Prop}{X:aL->aY->ae->Prop}{o:aL}{w:ae}
def Zs(W:gj ak m R Gu X)(n:Int){Post:Value->aL->ae->Prop}(h:bC ak X 209 #[.int .i64 n] o w Post):bC ak X 197 #[.int .i64 n] o w Post:=by
 refine bt W func197 aG ?_;refine aD ?_;refine eH W rfl aG rfl func209 ah rfl ax rfl (h.mono λv o' w' hp=>?_);try walk_nrm
 refine aD ?_;exact⟨.inr trivial,trivial,v,resultsC_tmp (t:=2) aG _,hp⟩
end
end Go.Proofs.Kz
namespace Go.Ren
open _root_.Option renaming some → so,none → we
def VJ(P:Program)(L:Nat->Bool)(Gm:Nat)(ex:List Nat)(n:Nat):Bool:=match P.funcs[n]? with
 |some fn=>fn.body.all (lF Gm L)&&((fn.body.isSome&&!(fn.name == "runtime.NumGoroutine"))||ex.contains n)
 |none=>false
def BC{P:Program}{L:Nat->Bool}{Gm:Nat}{ex l:List Nat}(ha:l.all (VJ P L Gm ex)=true){n:Nat}(h:n∈l):∃fn,P.funcs[n]?=so fn/\fn.body.all (lF Gm L)=true/\((fn.body.isSome=true/\(fn.name == "runtime.NumGoroutine")=false)\/n∈ex):=by
 have hm:=fY.1 ha n h;unfold VJ at hm;cases hf:P.funcs[n]? with
 |none=>rw[hf]at hm;cases hm
 |some fn =>
  rw[hf]at hm;simp only[aU,Bool.or_eq_true,eJ]at hm;exact⟨fn,rfl,hm.1,hm.2.imp id dM.1⟩
end Go.Ren
namespace Go.Proofs.Kz
open Go.Proofs.Tryz
open Go.Proofs.Tryz renaming prog → ak
open _root_.ByteArray renaming empty → bF
open _root_.Option renaming some → so,none → we
open Go.Ren Go.Proofs
def LW(n:Nat):Bool:=[196,199,210,211,212,213,245,247,223,234,235,236,254,255,249,250,251,258,259,262,263].contains n
def S5:([196,199,210,211,212,213,245,247,223,234,235,236,254,255,249,250,251,258,259,262,263]:List Nat).all (VJ ak LW 0 [262,263])=true:=ah
def VK(n:Nat)(hn:LW n=true)(f:Rn)(hf:ov ak f)(hh:∀n,LW n=true->f.h n=n)(args:Array Value):Rel ak f (jJ LW f) (callFunc n args) (callFunc n (args.map (val f))):=by
 obtain⟨fn,h1,-,h2⟩:=BC S5 (dM.1 (by unfold LW at hn;exact hn));rcases h2 with⟨h2,h3⟩|h2;rotate_left;simp only[bq,fi,or_false]at h2;rcases h2 with rfl|rfl
 rotate_right
 ·exact Fc h1 h2 h3 hn args
 ·exact px func262 rfl ah ah rfl (hh _ ah) args (yq _)
 ·exact px func263 rfl ah ah rfl (hh _ ah) args (uL hf _ _ _)
def Zt(hz:∀t i z,ak.info? t=so i->i.zero=so z->∀f:Rn,val f z=z):sJ ak LW 0 where
 zero:=hz
 call:=λn hn=>VK n hn
 body:=λn hn=>by
  obtain⟨fn,h1,h2,-⟩:=BC S5 (dM.1 (by unfold LW at hn;exact hn));exact⟨fn,h1,λc hc=>by rw[hc]at h2;exact h2⟩
def S6:Value->Bool
 | .tuple vs=>vs.all B8
 |v=>B8 v
def My{v:Value}(h:S6 v=true)(f:Rn):val f v=v:=by
 cases v
 case tuple cs =>
  have hc:cs.all B8=true:=h;rw[iM]at hc;rw[b8]
  congr 1
  apply jH
  ·simp
  ·intro i h1 h2;simp only[Array.getElem_map];exact xq (hc i h2) f
 all_goals (refine xq ?_ f;exact h)
def Mz:(ak.types.all λi=>i.zero.all S6)=true:=ah
def Fz:∀t i z,ak.info? t=so i->i.zero=so z->∀f:Rn,val f z=z:=by
 refine L2 λt i z hi hz=>?_;have h:=Mz;rw[jY]at h;have:=h i (fI hi);rw[hz]at this;exact λf=>My this f
def iK:ak.globals.size≠1:=by
 have:(ak.globals.size==1)=false:=ah;intro h;rw[h]at this;cases this
end Go.Proofs.Kz
namespace Go.Proofs
open _root_.Option renaming some → so,none → we
section
open Go.Shelf
def Tryz.AD:Go.Shelf.Ren:=⟨λ|156=>234|165=>249|166=>250|169=>251|240=>258|241=>259|276=>262|277=>263|n=>n,λ|31=>40|9=>9|3=>3|4=>4|0=>0|20=>20|72=>332|76=>335|70=>330|37=>90|75=>334|127=>344|164=>116|5=>5|80=>337|n=>n,λ|n=>n⟩
def Tryz.VL:Go.Proofs.Lays.n156 Tryz.prog Tryz.AD:={
 mixed:=ah
 f156:=Tryz.func234.trans (congrArg so ah)
 f165:=Tryz.func249.trans (congrArg so ah)
 f166:=Tryz.func250.trans (congrArg so ah)
 f169:=Tryz.func251.trans (congrArg so ah)
 f240:=Tryz.func258.trans (congrArg so ah)
 f241:=Tryz.func259.trans (congrArg so ah)
 f276:=Tryz.func262.trans (congrArg so ah)
 f277:=Tryz.func263.trans (congrArg so ah)
 t0:=underlying0
 a0:=isAgg0
 z0:=sizeOf0
 v0:=zeroValue0
 t3:=underlying3
 a3:=isAgg3
 z3:=sizeOf3
 v3:=zeroValue3
 t4:=underlying4
 a4:=isAgg4
 z4:=sizeOf4
 v4:=zeroValue4
 t9:=underlying9
 a9:=isAgg9
 z9:=sizeOf9
 v9:=zeroValue9
 t20:=underlying20
 a20:=isAgg20
 z20:=sizeOf20
 v20:=zeroValue20
 t31:=underlying40
 a31:=isAgg40
 z31:=sizeOf40
 v31:=zeroValue40
 t37:=underlying90
 a37:=isAgg90
 z37:=sizeOf90
 v37:=zeroValue90
 t70:=underlying330
 a70:=isAgg330
 z70:=sizeOf330
 v70:=zeroValue330
 t72:=underlying332
 a72:=isAgg332
 z72:=sizeOf332
 v72:=zeroValue332
 t75:=underlying334
 a75:=isAgg334
 z75:=sizeOf334
 v75:=zeroValue334
 t76:=underlying335
 a76:=isAgg335
 z76:=sizeOf335
 v76:=zeroValue335
 t127:=underlying344
 a127:=isAgg344
 z127:=sizeOf344
 v127:=zeroValue344
 t164:=underlying116
 a164:=isAgg116
 z164:=sizeOf116
 v164:=zeroValue116}
def Tryz.yN:Builder.Extra Tryz.prog Tryz.AD:={
 sizeBuilder:=ah
 liesBuilder:=ah
 t5:=underlying5
 a5:=isAgg5
 z5:=sizeOf5
 v5:=zeroValue5
 infoByte:=ah
 cellsByte:=ah
 sizeByte:=ah
 neB5:=by decide}
open Go.RowKit in
theorem Tryz.strings_Join(bk o c:Nat)(xs:List ag)(sep:ag)(w:ae)(nT:∀(j:Nat) x,xs[j]?=so x->w.cell? ⟨bk,o+j,we⟩=so (.string x))(fP:bk<w.heap.size)(hN:xs.length<=140737488355328)(Er:xs.length<=c)(hlen:(Lib.join (xs.map (·.data.toList)) sep.data.toList).length<=140737488355328):
  Calls Tryz.prog 234 #[.slice (so ⟨bk,o,we⟩) xs.length c,.string sep] w λe w'=>e=.returned (.string ⟨(Lib.join (xs.map (·.data.toList)) sep.data.toList).toArray⟩)/\Below w.heap.size w w':=Any.strings_Join Tryz.VL Tryz.yN bk o c xs sep w nT fP hN Er hlen
def Tryz.Jw:Go.Shelf.Ren:=⟨λ|106=>187|213=>206|265=>224|n=>n,λ|9=>9|3=>3|n=>n,λ|n=>n⟩
def Tryz.VM:Go.Proofs.Lays.n106 Tryz.prog Tryz.Jw:={
 mixed:=ah
 f106:=Tryz.func187.trans (congrArg so ah)
 f213:=Tryz.func206.trans (congrArg so ah)
 f265:=Tryz.func224.trans (congrArg so ah)
 t3:=underlying3
 a3:=isAgg3
 z3:=sizeOf3
 v3:=zeroValue3
 t9:=underlying9
 a9:=isAgg9
 z9:=sizeOf9
 v9:=zeroValue9}
open Go.RowKit in
theorem Tryz.strings_Compare(a b:ag)(w:ae):
  Calls Tryz.prog 187 #[.string a,.string b] w λe w'=>e=.returned (.int .i64 (Lib.compareBytes a.data.toList b.data.toList))/\w'=w:=Any.strings_Compare Tryz.VM a b w
def Tryz.Jx:Go.Shelf.Ren:=⟨λ|129=>223|n=>n,λ|53=>212|3=>3|4=>4|46=>223|5=>5|9=>9|n=>n,λ|n=>n⟩
def Tryz.VN:Go.Proofs.Lays.n129 Tryz.prog Tryz.Jx:={
 mixed:=ah
 f129:=Tryz.func223.trans (congrArg so ah)
 t3:=underlying3
 a3:=isAgg3
 z3:=sizeOf3
 v3:=zeroValue3
 t4:=underlying4
 a4:=isAgg4
 z4:=sizeOf4
 v4:=zeroValue4
 t5:=underlying5
 a5:=isAgg5
 z5:=sizeOf5
 v5:=zeroValue5
 t9:=underlying9
 a9:=isAgg9
 z9:=sizeOf9
 v9:=zeroValue9
 t46:=underlying223
 a46:=isAgg223
 z46:=sizeOf223
 v46:=zeroValue223
 t53:=underlying212
 a53:=isAgg212
 z53:=sizeOf212
 v53:=zeroValue212}
def Tryz.bits_Len64(x:Int)(w:ae)(h0:0<=x)(h1:x<=18446744073709551615):
  Calls Tryz.prog 223 #[.int .u64 x] w λe w'=>e=.returned (.int .i64 (Lib.bitLen x.toNat))/\w'=w:=Any.bits_Len64 Tryz.VN x w h0 h1
def Tryz.Jy:Go.Shelf.Ren:=⟨λ|317=>254|n=>n,λ|3=>3|46=>223|n=>n,λ|n=>n⟩
def Tryz.VO:Go.Proofs.Lays.n317 Tryz.prog Tryz.Jy:={
 mixed:=ah
 f317:=Tryz.func254.trans (congrArg so ah)
 t3:=underlying3
 a3:=isAgg3
 z3:=sizeOf3
 v3:=zeroValue3
 t46:=underlying223
 a46:=isAgg223
 z46:=sizeOf223
 v46:=zeroValue223}
open Go.Lib in
theorem Tryz.internal_strconv_log10Pow2(x:Nat)(h:x<=64)(w:ae):
  Calls Tryz.prog 254 #[.int .i64 x] w λe w'=>e=.returned (.int .i64 (Lib.l10 x))/\w'=w:=Any.internal_strconv_log10Pow2 Tryz.VO x h w
def Tryz.Jz:Go.Shelf.Ren:=⟨λ|318=>255|n=>n,λ|3=>3|4=>4|n=>n,λ|n=>n⟩
def Tryz.VP:Go.Proofs.Lays.n318 Tryz.prog Tryz.Jz:={
 mixed:=ah
 f318:=Tryz.func255.trans (congrArg so ah)
 t3:=underlying3
 a3:=isAgg3
 z3:=sizeOf3
 v3:=zeroValue3
 t4:=underlying4
 a4:=isAgg4
 z4:=sizeOf4
 v4:=zeroValue4}
open Go.Lib in
theorem Tryz.internal_strconv_bool2_int(b:Bool)(w:ae):
  Calls Tryz.prog 255 #[.bool b] w λe w'=>e=.returned (.int .i64 (if b then 1 else 0))/\w'=w:=Any.internal_strconv_bool2_int Tryz.VP b w
def Tryz.JA:Go.Shelf.Ren:=⟨λ|283=>245|n=>n,λ|3=>3|9=>9|4=>4|n=>n,λ|n=>n⟩
def Tryz.VQ:Go.Proofs.Lays.n283 Tryz.prog Tryz.JA:={
 mixed:=ah
 f283:=Tryz.func245.trans (congrArg so ah)
 t3:=underlying3
 a3:=isAgg3
 z3:=sizeOf3
 v3:=zeroValue3
 t4:=underlying4
 a4:=isAgg4
 z4:=sizeOf4
 v4:=zeroValue4
 t9:=underlying9
 a9:=isAgg9
 z9:=sizeOf9
 v9:=zeroValue9}
open Go.Lib in
theorem Tryz.internal_strconv_small(i:Nat)(h:i<100)(w:ae):
  Calls Tryz.prog 245 #[.int .i64 i] w λe w'=>e=.returned (.string ⟨(Lib.decDigits i).toArray⟩)/\w'=w:=Any.internal_strconv_small Tryz.VQ i h w
def Tryz.JB:Go.Shelf.Ren:=⟨λ|285=>247|n=>n,λ|37=>90|53=>212|3=>3|4=>4|51=>102|9=>9|5=>5|0=>0|n=>n,λ|n=>n⟩
def Tryz.VR:Go.Proofs.Lays.n285 Tryz.prog Tryz.JB:={
 mixed:=ah
 f285:=Tryz.func247.trans (congrArg so ah)
 t0:=underlying0
 a0:=isAgg0
 z0:=sizeOf0
 v0:=zeroValue0
 t3:=underlying3
 a3:=isAgg3
 z3:=sizeOf3
 v3:=zeroValue3
 t4:=underlying4
 a4:=isAgg4
 z4:=sizeOf4
 v4:=zeroValue4
 t5:=underlying5
 a5:=isAgg5
 z5:=sizeOf5
 v5:=zeroValue5
 t9:=underlying9
 a9:=isAgg9
 z9:=sizeOf9
 v9:=zeroValue9
 t37:=underlying90
 a37:=isAgg90
 z37:=sizeOf90
 v37:=zeroValue90
 t51:=underlying102
 a51:=isAgg102
 z51:=sizeOf102
 v51:=zeroValue102
 t53:=underlying212
 a53:=isAgg212
 z53:=sizeOf212
 v53:=zeroValue212}
open Go.RowKit Go.Sort Go.Lib in
theorem Tryz.internal_strconv_formatBase10(blk off cap:Nat)(u:Nat)(d:Array UInt8)(w:ae)(hH:Holds (λ(b:UInt8)=>Value.int .u8 (b.toNat:Int)) w blk off d)(hu:u<10^d.size)(ag6:u<18446744073709551616)(ew:d.size<4611686018427387904):
  Calls Tryz.prog 247 #[.slice (so ⟨blk,off,we⟩) d.size cap,.int .u64 u] w λe w' =>
   e=.returned (.tuple #[])/\∃(n v':Nat) (dk:Array UInt8),w'=(putRow (λ(b:UInt8)=>Value.int .u8 (b.toNat:Int)) w blk off dk).drewN n/\FmtInv d.size u 0 v' dk:=Any.internal_strconv_formatBase10 Tryz.VR blk off cap u d w hH hu ag6 ew
def Tryz.GQ:Go.Shelf.Ren:=⟨λ|171=>197|243=>209|246=>233|283=>245|284=>246|285=>247|286=>248|129=>223|317=>254|318=>255|319=>256|320=>257|337=>260|338=>261|n=>n,λ|3=>3|9=>9|2=>2|4=>4|171=>326|0=>0|53=>212|37=>90|5=>5|173=>328|212=>342|51=>102|20=>20|213=>343|46=>223|232=>347|233=>348|n=>n,λ|17=>1|18=>2|19=>3|n=>n⟩
def Tryz.S7:Go.Proofs.LaysM.n171 Tryz.prog Tryz.GQ:={
 mixed:=ah
 f129:=Tryz.func223.trans (congrArg so ah)
 f171:=Tryz.func197.trans (congrArg so ah)
 f243:=Tryz.func209.trans (congrArg so ah)
 f246:=Tryz.func233.trans (congrArg so ah)
 f283:=Tryz.func245.trans (congrArg so ah)
 f284:=Tryz.func246.trans (congrArg so ah)
 f285:=Tryz.func247.trans (congrArg so ah)
 f286:=Tryz.func248.trans (congrArg so ah)
 f317:=Tryz.func254.trans (congrArg so ah)
 f318:=Tryz.func255.trans (congrArg so ah)
 f319:=Tryz.func256.trans (congrArg so ah)
 f320:=Tryz.func257.trans (congrArg so ah)
 f337:=Tryz.func260.trans (congrArg so ah)
 f338:=Tryz.func261.trans (congrArg so ah)
 t0:=underlying0
 a0:=isAgg0
 z0:=sizeOf0
 v0:=zeroValue0
 t2:=underlying2
 a2:=isAgg2
 z2:=sizeOf2
 v2:=zeroValue2
 t3:=underlying3
 a3:=isAgg3
 z3:=sizeOf3
 v3:=zeroValue3
 t4:=underlying4
 a4:=isAgg4
 z4:=sizeOf4
 v4:=zeroValue4
 t5:=underlying5
 a5:=isAgg5
 z5:=sizeOf5
 v5:=zeroValue5
 t9:=underlying9
 a9:=isAgg9
 z9:=sizeOf9
 v9:=zeroValue9
 t20:=underlying20
 a20:=isAgg20
 z20:=sizeOf20
 v20:=zeroValue20
 t37:=underlying90
 a37:=isAgg90
 z37:=sizeOf90
 v37:=zeroValue90
 t46:=underlying223
 a46:=isAgg223
 z46:=sizeOf223
 v46:=zeroValue223
 t51:=underlying102
 a51:=isAgg102
 z51:=sizeOf102
 v51:=zeroValue102
 t53:=underlying212
 a53:=isAgg212
 z53:=sizeOf212
 v53:=zeroValue212
 t171:=underlying326
 a171:=isAgg326
 z171:=sizeOf326
 v171:=zeroValue326
 t173:=underlying328
 a173:=isAgg328
 z173:=sizeOf328
 v173:=zeroValue328
 t212:=underlying342
 a212:=isAgg342
 z212:=sizeOf342
 v212:=zeroValue342
 t213:=underlying343
 a213:=isAgg343
 z213:=sizeOf343
 t232:=underlying347
 a232:=isAgg347
 z232:=sizeOf347
 v232:=zeroValue347
 t233:=underlying348
 a233:=isAgg348
 z233:=sizeOf348
 v233:=zeroValue348
 g17:=ah
 g18:=ah
 g19:=ah
 i0:=ah
 i2:=ah
 i3:=ah
 i4:=ah
 i5:=ah
 i9:=ah
 i20:=ah
 i37:=ah
 i46:=ah
 i51:=ah
 i53:=ah
 i171:=ah
 i173:=ah
 i212:=ah
 i232:=ah
 i233:=ah
 m17:=ah
 m18:=ah
 m19:=by kernel_rfl}
open Go.RowKit Go.Sort Go.Lib in
theorem Tryz.strconv_Itoa(n:Int)(h0:-9223372036854775808<=n)(h1:n<=9223372036854775807)(w:ae)(ag7:Lib.TabIs Tryz.prog w "internal/strconv.uint64pow10" .u64 Lib.pow10Tab):
  Calls Tryz.prog 197 #[.int .i64 n] w λe w'=>e=.returned (.string ⟨(Lib.itoa n).toArray⟩)/\∃k os,w'=grow (w.drewN k) os:=Any.strconv_Itoa Tryz.S7 n h0 h1 w ag7
def Tryz.JC:Go.Shelf.Ren:=⟨λ|171=>197|243=>209|246=>233|283=>245|284=>246|285=>247|286=>248|129=>223|317=>254|318=>255|319=>256|320=>257|337=>260|338=>261|n=>n,λ|3=>3|9=>9|2=>2|4=>4|171=>326|0=>0|53=>212|37=>90|5=>5|173=>328|212=>342|51=>102|20=>20|213=>343|46=>223|232=>347|233=>348|n=>n,λ|17=>1|18=>2|19=>3|n=>n⟩
def Tryz.VT:Go.Proofs.Lays.n171 Tryz.prog Tryz.JC:={
 mixed:=ah
 f129:=Tryz.func223.trans (congrArg so ah)
 f171:=Tryz.func197.trans (congrArg so ah)
 f243:=Tryz.func209.trans (congrArg so ah)
 f246:=Tryz.func233.trans (congrArg so ah)
 f283:=Tryz.func245.trans (congrArg so ah)
 f284:=Tryz.func246.trans (congrArg so ah)
 f285:=Tryz.func247.trans (congrArg so ah)
 f286:=Tryz.func248.trans (congrArg so ah)
 f317:=Tryz.func254.trans (congrArg so ah)
 f318:=Tryz.func255.trans (congrArg so ah)
 f319:=Tryz.func256.trans (congrArg so ah)
 f320:=Tryz.func257.trans (congrArg so ah)
 f337:=Tryz.func260.trans (congrArg so ah)
 f338:=Tryz.func261.trans (congrArg so ah)
 t0:=underlying0
 a0:=isAgg0
 z0:=sizeOf0
 v0:=zeroValue0
 t2:=underlying2
 a2:=isAgg2
 z2:=sizeOf2
 v2:=zeroValue2
 t3:=underlying3
 a3:=isAgg3
 z3:=sizeOf3
 v3:=zeroValue3
 t4:=underlying4
 a4:=isAgg4
 z4:=sizeOf4
 v4:=zeroValue4
 t5:=underlying5
 a5:=isAgg5
 z5:=sizeOf5
 v5:=zeroValue5
 t9:=underlying9
 a9:=isAgg9
 z9:=sizeOf9
 v9:=zeroValue9
 t20:=underlying20
 a20:=isAgg20
 z20:=sizeOf20
 v20:=zeroValue20
 t37:=underlying90
 a37:=isAgg90
 z37:=sizeOf90
 v37:=zeroValue90
 t46:=underlying223
 a46:=isAgg223
 z46:=sizeOf223
 v46:=zeroValue223
 t51:=underlying102
 a51:=isAgg102
 z51:=sizeOf102
 v51:=zeroValue102
 t53:=underlying212
 a53:=isAgg212
 z53:=sizeOf212
 v53:=zeroValue212
 t171:=underlying326
 a171:=isAgg326
 z171:=sizeOf326
 v171:=zeroValue326
 t173:=underlying328
 a173:=isAgg328
 z173:=sizeOf328
 v173:=zeroValue328
 t212:=underlying342
 a212:=isAgg342
 z212:=sizeOf342
 v212:=zeroValue342
 t213:=underlying343
 a213:=isAgg343
 z213:=sizeOf343
 t232:=underlying347
 a232:=isAgg347
 z232:=sizeOf347
 v232:=zeroValue347
 t233:=underlying348
 a233:=isAgg348
 z233:=sizeOf348
 v233:=zeroValue348
 g17:=ah
 g18:=ah
 g19:=by kernel_rfl}
open Go.RowKit Go.Sort Go.Lib in
theorem Tryz.strconv_Itoa_small(i:Nat)(hi:i<100)(w:ae):
  Calls Tryz.prog 197 #[.int .i64 i] w λe w'=>e=.returned (.string ⟨(Lib.decDigits i).toArray⟩)/\w'=w:=Any.strconv_Itoa_small Tryz.VT i hi w
def Tryz.JD:Go.Shelf.Ren:=⟨λ|190=>188|125=>205|258=>207|128=>222|129=>223|302=>225|303=>226|304=>227|305=>228|306=>229|307=>230|308=>118|309=>231|310=>232|333=>242|329=>238|330=>239|334=>243|335=>244|336=>168|344=>253|n=>n,λ|31=>40|9=>9|3=>3|46=>223|0=>0|51=>102|53=>212|4=>4|183=>304|182=>303|131=>156|5=>5|218=>319|222=>322|228=>338|229=>170|n=>n,λ|n=>n⟩
def Tryz.VU:Go.Proofs.Lays.n190 Tryz.prog Tryz.JD:={
 mixed:=ah
 f125:=Tryz.func205.trans (congrArg so ah)
 f128:=Tryz.func222.trans (congrArg so ah)
 f129:=Tryz.func223.trans (congrArg so ah)
 f190:=Tryz.func188.trans (congrArg so ah)
 f258:=Tryz.func207.trans (congrArg so ah)
 f302:=Tryz.func225.trans (congrArg so ah)
 f303:=Tryz.func226.trans (congrArg so ah)
 f304:=Tryz.func227.trans (congrArg so ah)
 f305:=Tryz.func228.trans (congrArg so ah)
 f306:=Tryz.func229.trans (congrArg so ah)
 f307:=Tryz.func230.trans (congrArg so ah)
 f308:=Tryz.func118.trans (congrArg so ah)
 f309:=Tryz.func231.trans (congrArg so ah)
 f310:=Tryz.func232.trans (congrArg so ah)
 f329:=Tryz.func238.trans (congrArg so ah)
 f330:=Tryz.func239.trans (congrArg so ah)
 f333:=Tryz.func242.trans (congrArg so ah)
 f334:=Tryz.func243.trans (congrArg so ah)
 f335:=Tryz.func244.trans (congrArg so ah)
 f336:=Tryz.func168.trans (congrArg so ah)
 f344:=Tryz.func253.trans (congrArg so ah)
 t0:=underlying0
 a0:=isAgg0
 z0:=sizeOf0
 v0:=zeroValue0
 t3:=underlying3
 a3:=isAgg3
 z3:=sizeOf3
 v3:=zeroValue3
 t4:=underlying4
 a4:=isAgg4
 z4:=sizeOf4
 v4:=zeroValue4
 t5:=underlying5
 a5:=isAgg5
 z5:=sizeOf5
 v5:=zeroValue5
 t9:=underlying9
 a9:=isAgg9
 z9:=sizeOf9
 v9:=zeroValue9
 t31:=underlying40
 a31:=isAgg40
 z31:=sizeOf40
 v31:=zeroValue40
 t46:=underlying223
 a46:=isAgg223
 z46:=sizeOf223
 v46:=zeroValue223
 t51:=underlying102
 a51:=isAgg102
 z51:=sizeOf102
 v51:=zeroValue102
 t53:=underlying212
 a53:=isAgg212
 z53:=sizeOf212
 v53:=zeroValue212
 t131:=underlying156
 a131:=isAgg156
 z131:=sizeOf156
 v131:=zeroValue156
 t182:=underlying303
 a182:=isAgg303
 z182:=sizeOf303
 v182:=zeroValue303
 t183:=underlying304
 a183:=isAgg304
 z183:=sizeOf304
 v183:=zeroValue304
 t218:=underlying319
 a218:=isAgg319
 z218:=sizeOf319
 v218:=zeroValue319
 t222:=underlying322
 a222:=isAgg322
 z222:=sizeOf322
 v222:=zeroValue322
 t228:=underlying338
 a228:=isAgg338
 z228:=sizeOf338
 v228:=zeroValue338
 t229:=underlying170
 a229:=isAgg170
 z229:=sizeOf170
 v229:=zeroValue170}
open Go.Sort Go.RowKit in
theorem Tryz.slices_Sort_string(blk off cap:Nat)(ss:List (List UInt8))(w:ae)(hH:Holds encStr w blk off ss.toArray)(PS:blk<w.heap.size)(ew:ss.length<4611686018427387904):
  Calls Tryz.prog 188 #[.slice (so ⟨blk,off,we⟩) ss.length cap] w λe w' =>
   e=.returned (.tuple #[])/\∃n os,w'=grow (putRow encStr (Sort.ahead w n) blk off (ss.mergeSort λx y=>decide (x<=y)).toArray) os:=Any.slices_Sort_string Tryz.VU blk off cap ss w hH PS ew
def Tryz.JE:Go.Shelf.Ren:=⟨λ|107=>190|108=>208|n=>n,λ|28=>130|3=>3|4=>4|0=>0|n=>n,λ|n=>n⟩
def Tryz.VV:Go.Proofs.Lays.n107 Tryz.prog Tryz.JE:={
 mixed:=ah
 f107:=Tryz.func190.trans (congrArg so ah)
 f108:=Tryz.func208.trans (congrArg so ah)
 t0:=underlying0
 a0:=isAgg0
 z0:=sizeOf0
 v0:=zeroValue0
 t3:=underlying3
 a3:=isAgg3
 z3:=sizeOf3
 v3:=zeroValue3
 t4:=underlying4
 a4:=isAgg4
 z4:=sizeOf4
 v4:=zeroValue4
 t28:=underlying130
 a28:=isAgg130
 z28:=sizeOf130
 v28:=zeroValue130}
open Go.Lib in
theorem Tryz.slices_Contains_int(b off n c:Nat)(zs:List Int)(x:Int)(w:ae)(hz:n<=zs.length)(jE:n<=9223372036854775807)(hc:∀j,j<zs.length->w.cell? ⟨b,off+j,we⟩=so (.int .i64 (zs.getD j 0))):
  Calls Tryz.prog 190 #[.slice (so ⟨b,off,we⟩) n c,.int .i64 x] w λe w'=>e=.returned (.bool ((zs.take n).contains x))/\w'=w:=Any.slices_Contains_int Tryz.VV b off n c zs x w hz jE hc
def Tryz.JF:Go.Shelf.Ren:=⟨λ|110=>80|109=>128|n=>n,λ|31=>40|9=>9|4=>4|3=>3|0=>0|n=>n,λ|n=>n⟩
def Tryz.VW:Go.Proofs.Lays.n110 Tryz.prog Tryz.JF:={
 mixed:=ah
 f109:=Tryz.func128.trans (congrArg so ah)
 f110:=Tryz.func80.trans (congrArg so ah)
 t0:=underlying0
 a0:=isAgg0
 z0:=sizeOf0
 v0:=zeroValue0
 t3:=underlying3
 a3:=isAgg3
 z3:=sizeOf3
 v3:=zeroValue3
 t4:=underlying4
 a4:=isAgg4
 z4:=sizeOf4
 v4:=zeroValue4
 t9:=underlying9
 a9:=isAgg9
 z9:=sizeOf9
 v9:=zeroValue9
 t31:=underlying40
 a31:=isAgg40
 z31:=sizeOf40
 v31:=zeroValue40}
open Go.Lib in
theorem Tryz.slices_Contains_string(b off n c:Nat)(zs:List ag)(x:ag)(w:ae)(hz:n<=zs.length)(jE:n<=9223372036854775807)(hc:∀j,j<zs.length->w.cell? ⟨b,off+j,we⟩=so (.string (zs.getD j ByteArray.empty))):
  Calls Tryz.prog 80 #[.slice (so ⟨b,off,we⟩) n c,.string x] w λe w'=>e=.returned (.bool (Lib.containsS (zs.take n) x))/\w'=w:=Any.slices_Contains_string Tryz.VW b off n c zs x w hz jE hc
def Tryz.Es:Go.Shelf.Ren:=⟨λ|16=>51|n=>n,λ|24=>40|9=>9|4=>4|n=>n,λ|n=>n⟩
def Tryz.zT:Go.Proofs.Lays2.n16 Tryz.prog Tryz.Es:={
 mixed:=ah
 f16:=Tryz.func51.trans (congrArg so ah)
 t4:=underlying4
 a4:=isAgg4
 z4:=sizeOf4
 v4:=zeroValue4
 t9:=underlying9
 a9:=isAgg9
 z9:=sizeOf9
 v9:=zeroValue9
 t24:=underlying40
 a24:=isAgg40
 z24:=sizeOf40
 v24:=zeroValue40
 i9:=by kernel_rfl}
open Go.RowKit Go.Lib in
theorem Tryz.slices_Clone_string(b off n c:Nat)(zs:List ag)(w:ae)(hz:n<=zs.length)(jE:n*16<=140737488355328)(hc:∀j,j<zs.length->w.cell? ⟨b,off+j,we⟩=so (.string (zs.getD j ByteArray.empty))):
  Calls Tryz.prog 51 #[.slice (so ⟨b,off,we⟩) n c] w λe w'=>∃v',e=.returned v'/\w'.ownsRow w.heap.size 9 1 v' n ((zs.take n).map (Value.string))/\v'≠.slice we 0 0/\Below w.heap.size w w':=Any.slices_Clone_string Tryz.zT b off n c zs w hz jE hc
open Go.RowKit Go.Lib in
theorem Tryz.slices_Clone_string_nil(n c:Nat)(w:ae):
  Calls Tryz.prog 51 #[.slice we n c] w λe w'=>e=.returned (.slice we 0 0)/\w'=w:=Any.slices_Clone_string_nil Tryz.zT n c w
open Go.RowKit Go.Lib in
theorem Tryz.slices_Clone_string_zero(a:Addr)(c:Nat)(w:ae):
  Calls Tryz.prog 51 #[.slice (so a) 0 c] w λe w'=>∃v',e=.returned v'/\w'.ownsRow w.heap.size 9 1 v' 0 []/\v'≠.slice we 0 0/\Below w.heap.size w w':=Any.slices_Clone_string_zero Tryz.zT a c w
def Tryz.JG:Go.Shelf.Ren:=⟨λ|194=>189|n=>n,λ|31=>40|9=>9|3=>3|4=>4|0=>0|n=>n,λ|n=>n⟩
def Tryz.On:Go.Proofs.Lays.n194 Tryz.prog Tryz.JG:={
 mixed:=ah
 f194:=Tryz.func189.trans (congrArg so ah)
 t0:=underlying0
 a0:=isAgg0
 z0:=sizeOf0
 v0:=zeroValue0
 t3:=underlying3
 a3:=isAgg3
 z3:=sizeOf3
 v3:=zeroValue3
 t4:=underlying4
 a4:=isAgg4
 z4:=sizeOf4
 v4:=zeroValue4
 t9:=underlying9
 a9:=isAgg9
 z9:=sizeOf9
 v9:=zeroValue9
 t31:=underlying40
 a31:=isAgg40
 z31:=sizeOf40
 v31:=zeroValue40}
open Go.RowKit Go.Lib Go.Sort in
theorem Tryz.slices_Compact_string(blk off cap:Nat)(zs:List (List UInt8))(w:ae)(hH:Holds encStr w blk off zs.toArray)(ew:zs.length<=9223372036854775807)(Er:zs.length<=cap):
  Calls Tryz.prog 189 #[.slice (so ⟨blk,off,we⟩) zs.length cap] w λe w'=>e=.returned (.slice (so ⟨blk,off,we⟩) (Lib.compact zs).length cap)/\∃q,w'=putRow encStr (Sort.ahead w q) blk off (Lib.compact zs++List.replicate (zs.length-(Lib.compact zs).length) []).toArray:=Any.slices_Compact_string Tryz.On blk off cap zs w hH ew Er
open Go.RowKit Go.Lib Go.Sort in
theorem Tryz.slices_Compact_string_empty(a:Option Addr)(cap:Nat)(w:ae):
  Calls Tryz.prog 189 #[.slice a 0 cap] w λe w'=>e=.returned (.slice a 0 cap)/\w'=w:=Any.slices_Compact_string_empty Tryz.On a cap w
def Tryz.Et:Go.Shelf.Ren:=⟨λ|19=>236|n=>n,λ|24=>40|9=>9|3=>3|4=>4|20=>20|0=>0|n=>n,λ|n=>n⟩
def Tryz.Qa:Go.Proofs.Lays2.n19 Tryz.prog Tryz.Et:={
 mixed:=ah
 f19:=Tryz.func236.trans (congrArg so ah)
 t0:=underlying0
 a0:=isAgg0
 z0:=sizeOf0
 v0:=zeroValue0
 t3:=underlying3
 a3:=isAgg3
 z3:=sizeOf3
 v3:=zeroValue3
 t4:=underlying4
 a4:=isAgg4
 z4:=sizeOf4
 v4:=zeroValue4
 t9:=underlying9
 a9:=isAgg9
 z9:=sizeOf9
 v9:=zeroValue9
 t20:=underlying20
 a20:=isAgg20
 z20:=sizeOf20
 v20:=zeroValue20
 t24:=underlying40
 a24:=isAgg40
 z24:=sizeOf40
 v24:=zeroValue40}
open Go.RowKit Go.Lib in
theorem Tryz.slices_Min_string(b off n c:Nat)(zs:List ag)(w:ae)(hn:0<n)(hz:n<=zs.length)(jE:n<=9223372036854775807)(hc:∀j,j<zs.length->w.cell? ⟨b,off+j,we⟩=so (.string (zs.getD j ByteArray.empty))):
  Calls Tryz.prog 236 #[.slice (so ⟨b,off,we⟩) n c] w λe w'=>e=.returned (.string (Lib.minOfS (zs.take n)))/\w'=w:=Any.slices_Min_string Tryz.Qa b off n c zs w hn hz jE hc
def Tryz.Eu:Go.Shelf.Ren:=⟨λ|6=>185|15=>205|14=>204|28=>222|29=>223|20=>214|21=>215|22=>216|23=>217|24=>218|25=>219|26=>220|27=>221|46=>237|47=>238|48=>239|49=>240|50=>241|57=>252|n=>n,λ|22=>35|24=>42|25=>247|3=>3|39=>223|0=>0|53=>102|55=>212|4=>4|46=>304|45=>303|50=>156|5=>5|9=>9|66=>319|70=>322|76=>338|77=>170|n=>n,λ|n=>n⟩
def Tryz.Qb:Go.Proofs.SlLaysF0.n6 Tryz.prog Tryz.Eu:={
 mixed:=ah
 f6:=⟨Tryz.f185.name,iG,Tryz.func185.trans (congrArg so ah)⟩
 f14:=⟨Tryz.f204.name,iG,Tryz.func204.trans (congrArg so ah)⟩
 f15:=Tryz.func205.trans (congrArg so ah)
 f20:=⟨Tryz.f214.name,iG,Tryz.func214.trans (congrArg so ah)⟩
 f21:=⟨Tryz.f215.name,iG,Tryz.func215.trans (congrArg so ah)⟩
 f22:=⟨Tryz.f216.name,iG,Tryz.func216.trans (congrArg so ah)⟩
 f23:=⟨Tryz.f217.name,iG,Tryz.func217.trans (congrArg so ah)⟩
 f24:=⟨Tryz.f218.name,iG,Tryz.func218.trans (congrArg so ah)⟩
 f25:=⟨Tryz.f219.name,iG,Tryz.func219.trans (congrArg so ah)⟩
 f26:=⟨Tryz.f220.name,iG,Tryz.func220.trans (congrArg so ah)⟩
 f27:=⟨Tryz.f221.name,iG,Tryz.func221.trans (congrArg so ah)⟩
 f28:=Tryz.func222.trans (congrArg so ah)
 f29:=Tryz.func223.trans (congrArg so ah)
 f46:=⟨Tryz.f237.name,iG,Tryz.func237.trans (congrArg so ah)⟩
 f47:=Tryz.func238.trans (congrArg so ah)
 f48:=Tryz.func239.trans (congrArg so ah)
 f49:=⟨Tryz.f240.name,iG,Tryz.func240.trans (congrArg so ah)⟩
 f50:=⟨Tryz.f241.name,iG,Tryz.func241.trans (congrArg so ah)⟩
 f57:=⟨Tryz.f252.name,iG,Tryz.func252.trans (congrArg so ah)⟩
 t0:=underlying0
 a0:=isAgg0
 z0:=sizeOf0
 v0:=zeroValue0
 t3:=underlying3
 a3:=isAgg3
 z3:=sizeOf3
 v3:=zeroValue3
 t4:=underlying4
 a4:=isAgg4
 z4:=sizeOf4
 v4:=zeroValue4
 t5:=underlying5
 a5:=isAgg5
 z5:=sizeOf5
 v5:=zeroValue5
 t9:=underlying9
 a9:=isAgg9
 z9:=sizeOf9
 v9:=zeroValue9
 t22:=underlying35
 a22:=isAgg35
 z22:=sizeOf35
 v22:=zeroValue35
 t25:=underlying247
 a25:=isAgg247
 z25:=sizeOf247
 v25:=zeroValue247
 t39:=underlying223
 a39:=isAgg223
 z39:=sizeOf223
 v39:=zeroValue223
 t45:=underlying303
 a45:=isAgg303
 z45:=sizeOf303
 v45:=zeroValue303
 t46:=underlying304
 a46:=isAgg304
 z46:=sizeOf304
 v46:=zeroValue304
 t50:=underlying156
 a50:=isAgg156
 z50:=sizeOf156
 v50:=zeroValue156
 t53:=underlying102
 a53:=isAgg102
 z53:=sizeOf102
 v53:=zeroValue102
 t55:=underlying212
 a55:=isAgg212
 z55:=sizeOf212
 v55:=zeroValue212
 t66:=underlying319
 a66:=isAgg319
 z66:=sizeOf319
 v66:=zeroValue319
 t70:=underlying322
 a70:=isAgg322
 z70:=sizeOf322
 v70:=zeroValue322
 t76:=underlying338
 a76:=isAgg338
 z76:=sizeOf338
 v76:=zeroValue338
 t77:=underlying170
 a77:=isAgg170
 z77:=sizeOf170
 v77:=zeroValue170}
def Tryz.JH:Go.Shelf.Ren:=⟨λ|125=>205|128=>222|129=>223|n=>n,λ|46=>223|3=>3|51=>102|53=>212|4=>4|5=>5|9=>9|n=>n,λ|n=>n⟩
def Tryz.bitsLen:Go.Proofs.Lays.n125 Tryz.prog Tryz.JH:={
 mixed:=ah
 f125:=Tryz.func205.trans (congrArg so ah)
 f128:=Tryz.func222.trans (congrArg so ah)
 f129:=Tryz.func223.trans (congrArg so ah)
 t3:=underlying3
 a3:=isAgg3
 z3:=sizeOf3
 v3:=zeroValue3
 t4:=underlying4
 a4:=isAgg4
 z4:=sizeOf4
 v4:=zeroValue4
 t5:=underlying5
 a5:=isAgg5
 z5:=sizeOf5
 v5:=zeroValue5
 t9:=underlying9
 a9:=isAgg9
 z9:=sizeOf9
 v9:=zeroValue9
 t46:=underlying223
 a46:=isAgg223
 z46:=sizeOf223
 v46:=zeroValue223
 t51:=underlying102
 a51:=isAgg102
 z51:=sizeOf102
 v51:=zeroValue102
 t53:=underlying212
 a53:=isAgg212
 z53:=sizeOf212
 v53:=zeroValue212}
def Tryz.GR:Go.Shelf.Ren:=⟨λ|26=>77|33=>118|34=>119|38=>168|n=>n,λ|24=>40|9=>9|3=>3|4=>4|40=>223|0=>0|n=>n,λ|n=>n⟩
def Tryz.JI:Go.Proofs.Lays2.n26 Tryz.prog Tryz.GR:={
 mixed:=ah
 f26:=Tryz.func77.trans (congrArg so ah)
 f33:=Tryz.func118.trans (congrArg so ah)
 f34:=Tryz.func119.trans (congrArg so ah)
 f38:=Tryz.func168.trans (congrArg so ah)
 t0:=underlying0
 a0:=isAgg0
 z0:=sizeOf0
 v0:=zeroValue0
 t3:=underlying3
 a3:=isAgg3
 z3:=sizeOf3
 v3:=zeroValue3
 t4:=underlying4
 a4:=isAgg4
 z4:=sizeOf4
 v4:=zeroValue4
 t9:=underlying9
 a9:=isAgg9
 z9:=sizeOf9
 v9:=zeroValue9
 t24:=underlying40
 a24:=isAgg40
 z24:=sizeOf40
 v24:=zeroValue40
 t40:=underlying223
 a40:=isAgg223
 z40:=sizeOf223
 v40:=zeroValue223}
def Tryz.S8:Go.Shelf.Ren:=⟨λ|35=>235|n=>n,λ|22=>90|23=>5|3=>3|4=>4|0=>0|n=>n,λ|n=>n⟩
def Tryz.ag8:Go.Proofs.SlLaysE.n35 Tryz.prog Tryz.S8:={
 mixed:=ah
 f35:=⟨Tryz.f235.name,iG,Tryz.func235.trans (congrArg so ah)⟩
 t0:=underlying0
 a0:=isAgg0
 z0:=sizeOf0
 v0:=zeroValue0
 t3:=underlying3
 a3:=isAgg3
 z3:=sizeOf3
 v3:=zeroValue3
 t4:=underlying4
 a4:=isAgg4
 z4:=sizeOf4
 v4:=zeroValue4
 t22:=underlying90
 a22:=isAgg90
 z22:=sizeOf90
 v22:=zeroValue90
 a23:=isAgg5
 z23:=sizeOf5}
end
end Go.Proofs
namespace Go.Proofs.Kz
open Go.Proofs.Tryz
open Go.Proofs.Tryz renaming prog → ak
open _root_.ByteArray renaming empty → bF
open _root_.Option renaming some → so,none → we
open Go.Ren Go.Conc Go.Proofs
structure sU(T:dv)(i:Nat):Prop where
 ok:T.OK
 i:i<T.n
 kz:ak.globals.size<=T.H0
structure Quiet(T:dv)(b:Nat):Prop where
 old:b<T.H0
 wg:b≠T.Wg
 sh:¬T.Sh b
 ch:∀k,k<T.n->b≠T.ch k
 ro:∀off,T.RO (.cell ⟨b,off,we⟩)
def CS:sJ ak LW 0:=Zt Fz
section
variable {T:dv}{i:Nat}{V:Nat->ae->Prop}{E:br}{rc:Nat->Prop}{o:aL}{w:ae}
def Quiet.same{b:Nat}(h:Quiet T b){w1:ae}(hr:di T i o rc w w1):w1.heap[b]?=w.heap[b]?:=hr.ro b h.old h.wg h.sh h.ch
def Quiet.cell{b off:Nat}(h:Quiet T b){w1:ae}(hr:di T i o rc w w1):w1.cell? ⟨b,off,we⟩=w.cell? ⟨b,off,we⟩:=cell_of (h.same hr)
def uX{ad:Addr}{sy:Bool}(h:(∃b,o b/\IN (.cell ad) b)\/T.kM i (.cell ad)\/(∃k,rc k/\T.kM k (.cell ad))\/T.RO (.cell ad)):NZ T i o rc ⟨.cell ad,false,sy⟩:=by
 refine⟨λx hx _=>?_,aj,aj,aj⟩;simp only[MemAct.ofEvent,MemAct.touch?,ay]at hx;subst hx;rcases h with h|h|⟨k,h3,h4⟩|h
 ·exact .inl h
 ·exact .inr (.inl h)
 ·exact .inr (.inr (.inl ⟨k,h3,h4,rfl⟩))
 ·exact .inr (.inr (.inr ⟨h,rfl⟩))
def JJ(hW:sU T i)(hq:Quiet T 1)(u:Nat)(h1:1<=u)(h2:u<18446744073709551616)(gB:hJ T o w)(ht:w.cell? ⟨1,Lib.l10 (Lib.bitLen u),we⟩=so (.int .u64 ((10^Lib.l10 (Lib.bitLen u):Nat):Int))):
  bC ak (XW ak T i V E rc) 246 #[.int .u64 u] o w λv o' w'=>v=.int .i64 (Lib.nDigits u)/\dc T i rc o w o' w':=by
 have W:=cW (P:=ak) (T:=T) (i:=i) (V:=V) (E:=E) rc;obtain⟨kL,h19⟩:=Lib.numDigits_eq u h1 h2;have hL:Lib.bitLen u<=64:=Lib.bitLen_le u 64 (af _) h2;have c1:∀o w,hJ T o w->bC ak (XW ak T i V E rc) 223 #[.int .u64 u] o w λv o' w'=>v=.int .i64 (Lib.bitLen u)/\dc T i rc o w o' w':=λo w ho =>
  qQ hW.ok hW.i CS iK hW.kz ah ho (λg=>aj) _ (λg=>aj) λwl=>(Tryz.bits_Len64 u wl aa aa).mono (by rintro e w' ⟨rfl,rfl⟩;exact⟨aj,.refl _ _⟩)
 have c2:∀o w,hJ T o w->bC ak (XW ak T i V E rc) 254 #[.int .i64 (Lib.bitLen u)] o w λv o' w'=>v=.int .i64 (Lib.l10 (Lib.bitLen u))/\dc T i rc o w o' w':=λo w ho =>
  qQ hW.ok hW.i CS iK hW.kz ah ho (λg=>aj) _ (λg=>aj) λwl=>(Tryz.internal_strconv_log10Pow2 _ hL wl).mono (by rintro e w' ⟨rfl,rfl⟩;exact⟨rfl,.refl _ _⟩)
 have c3:∀(b:Bool) o w,hJ T o w->bC ak (XW ak T i V E rc) 255 #[.bool b] o w λv o' w'=>v=.int .i64 (if b=true then 1 else 0)/\dc T i rc o w o' w':=λb o w ho =>
  qQ hW.ok hW.i CS iK hW.kz ah ho (λg=>aj) _ (λg=>aj) λwl=>(Tryz.internal_strconv_bool2_int b wl).mono (by rintro e w' ⟨rfl,rfl⟩;exact⟨rfl,.refl _ _⟩)
 generalize Lib.bitLen u=bl at *;generalize Lib.l10 bl=q at *;refine bt W func246 aG ?_;refine aD ?_;refine dq func223 (c1 _ _ gB) ?_;rintro v o1 w1 ⟨rfl,l1⟩;try walk_nrm
 refine dq func254 (c2 _ _ l1.ok) ?_;rintro v o2 w2 ⟨rfl,l2⟩;try walk_nrm
 refine aD ?_;have h20:(q:Int)<20:=aa;have hS:∀w3,di T i o2 rc w2 w3->w3.cell? ⟨1,q,we⟩=so (.int .u64 ((10^q:Nat):Int)):=λw3 hr=>by
  rw[hq.cell hr,hq.cell l2.rel,hq.cell l1.rel,ht]
 generalize hP:10^q=p at *;have jg:∀w1 es,(Instr.indexAt 342 (.pointer (so ⟨1,0,we⟩)) (.int .i64 (q:Int))).events ak w1 es=es:=λw1 es=>events_indexAt_array 342 212 20 ⟨1,0,we⟩ .i64 q underlying342 ⟨aa,aa⟩;refine rW W rfl rfl aG (λw1=>by simp[go_sem,jg]) λw1 K hK=>?_;go_simp;refine hK _ ?_;clear hK K w1 jg;try walk_nrm
 refine gq W hS rfl aG (λw1 hc=>⟨.refl _ _,?_⟩) λw1 hc K hK=>?_
 ·co_evs (exact uX (.inr (.inr (.inr (hq.ro _)))))
 go_simp;refine hK _ ?_;clear hK K hc w1;try walk_nrm
 refine aD ?_;refine eH W rfl aG rfl func255 ah rfl (by simp[Act.eval];rfl) rfl ((c3 _ _ _ l2.ok).mono ?_);rintro v o3 w3 ⟨rfl,l3⟩;try walk_nrm
 refine aD ?_;refine⟨.inr trivial,trivial,_,resultsC_tmp (t:=2) aG _,?_,(l1.trans l2).trans l3⟩;show Value.int .i64 (IntKind.i64.wrap (↑q+if p<=u then 1 else 0))=_;rw[<- kL]
 congr 1
 rw[IntKind.wrap_i64];split<;>simp<;>omega
def Bc(hW:sU T i)(n:Nat)(hn:n<100)(gB:hJ T o w):
  bC ak (XW ak T i V E rc) 233 #[.int .i64 n,.int .i64 10] o w λv o' w'=>v=.string ⟨(Lib.decDigits n).toArray⟩/\dc T i rc o w o' w':=by
 have W:=cW (P:=ak) (T:=T) (i:=i) (V:=V) (E:=E) rc;have c1:∀o w,hJ T o w->bC ak (XW ak T i V E rc) 245 #[.int .i64 n] o w λv o' w'=>v=.string ⟨(Lib.decDigits n).toArray⟩/\dc T i rc o w o' w':=λo w ho =>
  qQ hW.ok hW.i CS iK hW.kz ah ho (λg=>aj) _ (λg=>aj) λwl=>(Tryz.internal_strconv_small n hn wl).mono (by rintro e w' ⟨rfl,rfl⟩;exact⟨rfl,.refl _ _⟩)
 have hi:(n:Int)<100:=aa;refine bt W func233 aG ?_;refine aD ?_;refine dq func245 (c1 _ _ gB) ?_;rintro v o1 w1 ⟨rfl,l1⟩;try walk_nrm
 refine aD ?_;exact⟨.inr trivial,trivial,_,resultsC_tmp (t:=4) aG _,rfl,l1⟩
def MA{wl:ae}{A d:Nat}(h:wl.heap[A]?=so (Obj.cells Lib.zeros24 326))(hd:d<=20):Sort.Holds (λb:UInt8=>Value.int .u8 (b.toNat:Int)) wl A 1 (Array.replicate d 0):=by
 intro j hj;rw[fV]at hj;refine⟨?_,?_⟩
 ·simp only[World.cell?,h,Option.isSome_none,aT,if_false];rw[Lib.zeros24_at (1+j) aa,fh _ _ (by simpa using hj)];simp
 ·simp[World.frozen?,h]
def S9(hW:sU T i)(n A d:Nat)(hd:d<=20)(hn:n<10^d)(MB:n<=1000000000000)(gB:hJ T o w)(hA:o A)(Je:w.heap[A]?=so (Obj.cells Lib.zeros24 326)):
  bC ak (XW ak T i V E rc) 247 #[.slice (so ⟨A,1,we⟩) d 23,.int .u64 n] o w λv o' w'=>v=.tuple #[]/\di T i (λb=>o b/\b≠A) rc w w'/\hJ T o' w'/\(∀b,o b->o' b) /\
   ∃v' dk,Lib.FmtInv d n 0 v' dk/\∀j,j<d->w'.cell? ⟨A,1+j,we⟩=so (.int .u8 ((dk[j]!).toNat:Int)):=by
 refine xz (N:=λb=>b==A) (R:=λwl v w'=>v=.tuple #[]/\∃v' dk,Lib.FmtInv d n 0 v' dk/\∀j,j<d->w'.cell? ⟨A,1+j,we⟩=so (.int .u8 ((dk[j]!).toNat:Int))) hW.ok hW.i CS iK hW.kz ah gB (λb hb=>by simp at hb;subst hb;exact hA)
  (λb hb=>by simp at hb;subst hb;exact⟨_,Je,rfl,λf _=>by simp[obj,Lib.zeros24]⟩) (λg hg=>by simp[val,addr,hg A aj]) (λwl v w' τ dr h=>h) (λwl τ dr v w' h=>h) (λwl h1 h2=>?_) ?_
 ·have hx:wl.heap[A]?=so (Obj.cells Lib.zeros24 326):=by rw[h1 A aj,Je]
  have hH:=MA (d:=d) hx hd;have hf:=Tryz.internal_strconv_formatBase10 A 1 23 n (Array.replicate d 0) wl hH (by rw[fV];exact hn) aa (by rw[fV];omega);rw[fV]at hf;refine hf.mono ?_;rintro e w' ⟨rfl,k,v',dk,rfl,hF⟩;refine⟨_,rfl,rfl,v',dk,hF,λj hj=>?_⟩;rw[World.cell?_drewN];exact Sort.cell?_putRow (λ(b:UInt8)=>Value.int .u8 (b.toNat:Int)) _ A 1 _ dk hH (by rw[hF.size,fV]) j (by rw[hF.size];exact hj)
 ·rintro wl v v' F' o' bN w' h1 h2 ⟨rfl,u',dk,hF,hc⟩ hB;refine⟨hB.plain λf=>aj,hB.rel.less λb hb=>⟨hb.1,by simpa using hb.2⟩,⟨hB.vB,aS gB.size hB.rel.size⟩,hB.more,u',dk,hF,λj hj=>hB.cell aj (λf=>aj) (hc j hj)⟩
def JK(hW:sU T i)(hq:Quiet T 1)(n:Nat)(hn:¬n<100)(MB:n<=1000000000000)(gB:hJ T o w)(ht:∀q,q<20->w.cell? ⟨1,q,we⟩=so (.int .u64 ((10^q:Nat):Int))):
  bC ak (XW ak T i V E rc) 233 #[.int .i64 n,.int .i64 10] o w λv o' w'=>v=.string ⟨(Lib.decDigits n).toArray⟩/\dc T i rc o w o' w':=by
 have W:=cW (P:=ak) (T:=T) (i:=i) (V:=V) (E:=E) rc;have hi:¬(n:Int)<100:=aa;have h0:¬(n:Int)<0:=aa;have hU:IntKind.u64.wrap (n:Int)=n:=by rw[IntKind.wrap_u64];omega
 have hd1:=Lib.nDigits_pos n;have U2:=Lib.nDigits_le20 n aa;have hI:IntKind.i64.wrap (1+(Lib.nDigits n:Int))=1+(Lib.nDigits n:Int):=by rw[IntKind.wrap_i64];omega
 refine bt W func233 aG ?_;refine aD ?_;refine oI hW.ok hW.i gB rfl aG rfl (Obj.cells Lib.zeros24 326) (λw1=>by simp[go_sem];rfl) (λw1=>iY) λA o1 w1 l1 hA Je hwA Le=>?_;try walk_nrm
 refine aD ?_;have AE:∀q,q<20->w1.cell? ⟨1,q,we⟩=so (.int .u64 ((10^q:Nat):Int)):=λq h=>by rw[hq.cell l1.rel];exact ht q h
 have ag9:Lib.l10 (Lib.bitLen n)<20:=by have:=(Lib.numDigits_eq n aa aa).2;omega
 refine dq func246 (JJ hW hq n aa aa l1.ok (AE _ ag9)) ?_;rintro v o2 w2 ⟨rfl,l2⟩;try walk_nrm
 refine aD ?_;have Vr:ak.arrayLen 326=24:=by simp[Program.arrayLen,underlying326]
 have hsl:∀W,(Instr.sliceAt 326 (.pointer (so ⟨A,0,we⟩)) (so (.int .i64 1)) (so (.int .i64 (1+(Lib.nDigits n:Int)))) we).run ak W=.ok (.slice (so ⟨A,1,we⟩) (Lib.nDigits n) 23) W:=λW=>by
  rw[run_sliceAt_array_lh W 326 ⟨A,0,we⟩ (by simp[Program.arrayLen,Program.elem,underlying326]) .i64 .i64 1 (1+(Lib.nDigits n:Int)) aa aa (by rw[Vr];omega)];go_simp;omega
 have VX:∀W es,(Instr.sliceAt 326 (.pointer (so ⟨A,0,we⟩)) (so (.int .i64 1)) (so (.int .i64 (1+(Lib.nDigits n:Int)))) we).events ak W es=es:=λW es =>
  yM 326 5 24 ⟨A,0,we⟩ .i64 .i64 1 (1+(Lib.nDigits n:Int)) underlying326 aa aa aa
 clear Vr;refine rW W rfl rfl aG (λw1=>by simp[go_sem,VX]) λw1 K hK=>?_;go_simp;refine hK _ ?_;clear hK K w1;try walk_nrm
 refine aD ?_;have Jm:w2.heap[A]?=so (Obj.cells Lib.zeros24 326):=by rw[l2.rel.own A hA];exact Je
 refine dq func247 (S9 hW n A (Lib.nDigits n) U2 (Lib.lt_pow_nDigits n) MB l2.ok (l2.more A hA) Jm) ?_;rintro v o3 w3 ⟨rfl,r3,k3,m3,v',dk,hF,nT⟩;try walk_nrm
 refine aD ?_;clear VX hsl;have hS:∀w4,di T i o3 rc w3 w4->∀j,j<Lib.nDigits n->w4.cell? ⟨A,1+j,we⟩=so (.int .u8 ((dk[j]!).toNat:Int)):=λw4 hr j hj=>by
  rw[cell_of (a:=⟨A,1+j,we⟩) (hr.own A (m3 A (l2.more A hA)))];exact nT j hj
 have hcv:∀w4,(∀j,j<Lib.nDigits n->w4.cell? ⟨A,1+j,we⟩=so (.int .u8 ((dk[j]!).toNat:Int)))->(convert 90 9 (.slice (so ⟨A,1,we⟩) (Lib.nDigits n) 23)).run ak w4=.ok (.string ⟨(Lib.decDigits n).toArray⟩) w4:=λw4 h4=>by
  have h:=run_convert_bytes_back (P:=ak) w4 90 9 5 ⟨A,1,we⟩ 23 (Lib.decDigits n) underlying90 underlying5 underlying9 (λj hj=>by
   rw[Lib.add_plain,Lib.row_is_numeral hF j hj];exact h4 j (by rw[Lib.decDigits_length]at hj;exact hj))
  rwa[Lib.decDigits_length]at h
 have hce:∀w4,(∀j,j<Lib.nDigits n->w4.cell? ⟨A,1+j,we⟩=so (.int .u8 ((dk[j]!).toNat:Int)))->∀ev∈(convert 90 9 (.slice (so ⟨A,1,we⟩) (Lib.nDigits n) 23)).events ak w4 #[],NZ T i o3 rc ev:=λw4 h4 ev he=>by
  have h:=wm (P:=ak) w4 90 9 5 ⟨A,1,we⟩ ((List.range (Lib.nDigits n)).map λj=>((dk[j]!).toNat:Int)) 23 #[] underlying90 underlying5 underlying9 (λj hj=>by
   rw[Lib.add_plain,h4 j (by simpa using hj)];simp) ev (by simpa using he)
  rcases h with h|⟨ad,h1,h2,h3⟩
  ·simp at h
  ·obtain⟨l,wt,sy⟩:=ev;simp only at h1 h2;subst h1 h2;exact uX (.inl ⟨A,m3 A (l2.more A hA),h3⟩)
 refine gq W hS rfl aG (λw4 h4=>⟨.refl _ _,λe he=>?_⟩) λw4 h4 K hK=>?_
 ·have:=hce w4 h4 e (by have:=mem_listed he;simpa[go_sem] using this);rw[cp];exact this
 have:=hcv w4 h4;go_simp;refine hK _ ?_;clear hK K this h4 w4 hS hcv hce;try walk_nrm
 refine aD ?_;refine⟨.inr trivial,trivial,_,resultsC_tmp (t:=4) aG _,rfl,⟨(l1.trans l2).rel.trans (r3.less λb hb=>⟨(l1.trans l2).more b hb,?_⟩),k3,λb hb=>m3 b ((l1.trans l2).more b hb)⟩⟩;have:=(gB.vB b hb).2;omega
end
section
open Go.RowKit
def Oo{k:IntKind}{a b:Int}(h:a=b):Ending.returned (.int k a)=.returned (.int k b):=by rw[h]
def yO{W w1:ae}(hb:Below W.heap.size W w1):(∀b o,b<W.heap.size->w1.cell? ⟨b,o,we⟩=W.cell? ⟨b,o,we⟩)/\(∀b o,b<W.heap.size->w1.frozen? ⟨b,o,we⟩=W.frozen? ⟨b,o,we⟩) :=
 ⟨λb o h=>hb.cell (p:=⟨b,o,we⟩) h,λb o h=>hb.frozen (p:=⟨b,o,we⟩) h⟩
def take_succ{α:Type}(l:List α)(k:Nat)(h:k<l.length):l.take (k+1)=l.take k++[l[k]]:=List.take_succ_eq_append_getElem h
abbrev V:=Bool×ag
def qZ(w:ae)(b off:Nat)(vs:List V):Prop:=∀k (h:k<vs.length),w.cell? ⟨b,off+k*2,we⟩=so (.bool vs[k].1)/\w.cell? ⟨b,off+k*2+1,we⟩=so (.string vs[k].2)
def qZ.below{w w':ae}{b off:Nat}{vs:List V}(h:qZ w b off vs)(hb:b<w.heap.size)(hw:Below w.heap.size w w'):qZ w' b off vs:=λk hk=>by
 obtain⟨hc,-⟩:=yO hw;rw[hc _ _ hb,hc _ _ hb];exact h k hk
def gf(w:ae)(b off:Nat)(ts:List ag):Prop:=∀k (h:k<ts.length),w.cell? ⟨b,off+k,we⟩=so (.string ts[k])
def gf.below{w w':ae}{b off:Nat}{vs:List ag}(h:gf w b off vs)(hb:b<w.heap.size)(hw:Below w.heap.size w w'):gf w' b off vs:=λk hk=>by
 obtain⟨hc,-⟩:=yO hw;rw[hc _ _ hb];exact h k hk
def lU{α:Type}{l:List α}{k:Nat}(h:k<l.length):l≠[]:=λe=>by rw[e]at h;simp at h
end
section
open Go.RowKit
def cnt(l:List V):Nat:=(l.filter λv=>v.1).length
def q7(l:List V):cnt l<=l.length:=gC _ _
def JL(l:List V)(k:Nat)(h:k<l.length):cnt (l.take (k+1))=cnt (l.take k)+if l[k].1 then 1 else 0:=by
 rw[take_succ l k h,cnt,List.filter_append,jZ];by_cases e:l[k].1<;>simp[cnt,e]
def Qc(b off c:Nat)(vs:List V)(w:ae)(hn:vs.length<=100000)(hb:b<w.heap.size)(hv:qZ w b off vs):
  Calls ak 196 #[.slice (so ⟨b,off,we⟩) vs.length c] w λe w'=>e=.returned (.int .i64 (cnt vs))/\Below w.heap.size w w':=by
 go_enter func196,ntmps196;go_wp2;go_loopw [3,8] (λn i w'=>∃k:Nat,k<=vs.length/\i=.int .i64 k/\n=.int .i64 (cnt (vs.take k))/\Below w.heap.size w w') (λ_ i _=>vs.length-(intOf i).toNat)
 case atStart=>exact⟨0,aW _,rfl,rfl,Below.refl _ _⟩
 case round =>
  obtain⟨k,hk,rfl,rfl,im⟩:=hrel;by_cases cR:k<vs.length
  ·obtain⟨h1,h2⟩:=hv.below hb im k cR;have hz:=im.size;have HS:Hid (cnt (vs.take (k+1))=cnt (vs.take k)+if vs[k].1 then 1 else 0):=JL vs k cR;have hle:(cnt (vs.take k):Int)<=100000:=by have:=q7 (vs.take k);have:=ff k vs;omega
   go_wp2
   ·refine⟨⟨k+1,aa,by go_num,?_,im.alloc hz _⟩,by simp[intOf];omega⟩;rw[HS.out,if_pos ‹_›];go_num
   ·refine⟨⟨k+1,aa,by go_num,?_,im.alloc hz _⟩,by simp[intOf];omega⟩;rw[HS.out,if_neg (by simp[*])];go_num
  ·go_wp2;go_ret;exact⟨Oo (by rw[bz aa]),im⟩
end
section
open Go.RowKit
def xI:(ak.info? 9).map (λi=>(i.zero,i.size,i.bytes))=so (so (.string bF),1,16):=ah
def gf.Zu{w:ae}{b t:Nat}{ts:List ag}{f:Nat->Value}(h:w.rowIs b t ts.length f)(hf:∀k (hk:k<ts.length),f k=.string ts[k]):gf w b 0 ts:=λk hk=>by
 rw[bD,h.cell hk,hf k hk]
def JM(b off c:Nat)(vs:List V)(w:ae)(hn:vs.length<=100000)(hb:b<w.heap.size)(hv:qZ w b off vs):
  Calls ak 199 #[.slice (so ⟨b,off,we⟩) vs.length c] w λe w'=>e=.returned (.slice (so ⟨w.heap.size,0,we⟩) vs.length vs.length)/\Below w.heap.size w w'/\w.heap.size<w'.heap.size /\
   w'.rowIs w.heap.size 9 vs.length (λj=>.string (vs.getD j (false,bF)).2):=by
 have lP:=run_make_row' (P:=ak) 40 9 (.string bF) 16 underlying40 xI rfl .i64 .i64 vs.length aa aa;go_enter func199,ntmps199;go_wp2;go_loopw [11] (λi w'=>∃k:Nat,k<=vs.length/\i=.int .i64 k/\Below w.heap.size w w'/\w.heap.size<w'.heap.size/\w'.rowIs w.heap.size 9 vs.length (λj=>if j<k then .string (vs.getD j (false,bF)).2 else .string bF)) (λi _=>vs.length-(intOf i).toNat)
 case atStart=>exact⟨0,aW _,rfl,(Below.refl _ _).alloc (af _) _,aj,by simpa using World.rowIs_made w _ _ _⟩
 case round =>
  obtain⟨k,hk,rfl,im,hz,cd⟩:=hrel;by_cases cR:k<vs.length
  ·obtain⟨h1,h2⟩:=hv.below hb im k cR;have hc:=cd.cell cR;have hf:=cd.frozen k;rw[if_neg aa]at hc;go_wp2;refine⟨⟨k+1,aa,by go_num,(im.setCell (af _) _).alloc (by simp[World.setCell];omega) _,by simp[World.setCell];omega,?_⟩,by simp[intOf];omega⟩;refine((cd.set k _).alloc _).congr λj hj=>?_;by_cases e:j=k
   ·subst e;simp[List.getD,cR]
   ·by_cases e':j<k
    ·rw[if_neg e,if_pos e',if_pos aa]
    ·rw[if_neg e,if_neg e',if_neg aa]
  ·go_wp2;go_ret;exact⟨rfl,im,hz,cd.congr λi hi=>by rw[if_pos aa]⟩
end
section
open Go.RowKit
def sV(l:List UInt8):Nat:=(l.map UInt8.toNat).sum
def nU(l:List ag):Nat:=(l.map λs=>sV s.data.toList).sum
def gy(l:List ag):Nat:=(l.map ByteArray.size).sum
def BD(l:List UInt8):sV l<=255*l.length:=by
 induction l with
 |nil=>simp[sV]
 |cons c l ih=>have:=c.toNat_lt;simp[sV]at ih |-;omega
def FA(s:ag)(k:Nat)(h:k<s.size):sV (s.data.toList.take (k+1))=sV (s.data.toList.take k)+s[k].toNat:=by
 rw[take_succ s.data.toList k (by simpa using h)];simp[sV];rfl
def FB(l:List ag)(k:Nat)(h:k<l.length):nU (l.take (k+1))=nU (l.take k)+sV l[k].data.toList:=by
 rw[take_succ l k h,nU,jw,List.sum_append];simp[nU]
def BE(l:List ag):nU l<=255*gy l:=by
 induction l with
 |nil=>simp[nU,gy]
 |cons s l ih=>have:=BD s.data.toList;simp[nU,gy]at ih this |-;omega
def MC(l:List ag)(k:Nat):gy (l.take k)<=gy l:=by
 induction l generalizing k with
 |nil=>simp
 |cons s l ih=>cases k with
  |zero=>simp[gy]
  |succ k=>have:=ih k;simp[gy]at this |-;omega
def CU(l:List ag)(k:Nat)(h:k<l.length):gy (l.take k)+l[k].size<=gy l:=by
 have:=MC l (k+1);rw[take_succ l k h,gy,jw,List.sum_append]at this;simpa[gy] using this
def VY(b off c:Nat)(ts:List ag)(w:ae)(hn:ts.length<=100000)(hm:gy ts<=1000000)(ht:gf w b off ts):
  Calls ak 212 #[.slice (so ⟨b,off,we⟩) ts.length c] w λe w'=>e=.returned (.int .i64 (nU ts))/\w'=w:=by
 go_enter func212,ntmps212;go_wp2;go_loop [3,9] (λn i=>∃k:Nat,k<=ts.length/\i=.int .i64 k/\n=.int .i64 (nU (ts.take k))) (λ_ i=>ts.length-(intOf i).toNat)
 case atStart=>exact⟨0,aW _,rfl,rfl⟩
 case round =>
  obtain⟨k,hk,rfl,rfl⟩:=hrel;by_cases cR:k<ts.length
  ·have h1:=ht k cR;have hz:=CU ts k cR;have hle:nU (ts.take k)<=255*gy (ts.take k):=BE _;have hs:ts[k].size<=1000000:=aa;have HS:Hid (nU (ts.take (k+1))=nU (ts.take k)+sV ts[k].data.toList):=FB ts k cR;generalize qx:ts[k]=t at h1 hz hs HS;clear qx;go_wp2;go_loop [3,15] (λn i=>∃j:Nat,j<=t.size/\i=.int .i64 j/\n=.int .i64 (nU (ts.take k)+sV (t.data.toList.take j):Nat)) (λ_ i=>t.size-(intOf i).toNat)
   case atStart=>exact⟨0,aW _,rfl,by simp[sV]⟩
   case round =>
    obtain⟨j,hj,rfl,rfl⟩:=hrel;by_cases hjt:j<t.size
    ·have HB:Hid (sV (t.data.toList.take (j+1))=sV (t.data.toList.take j)+t[j].toNat):=FA t j hjt;have Ev:=BD (t.data.toList.take j);have oe:(t.data.toList.take j).length<=j:=ff _ _;have hc:=t[j].toNat_lt;go_wp2
     go_round
     case rel=>exact⟨j+1,aa,by go_num,by rw[HB.out];go_num⟩
     case measure=>simp[intOf];omega
    ·go_wp2
     go_round
     case rel=>exact⟨k+1,aa,by go_num,by rw[HS.out,bz (l:=t.data.toList) eW]⟩
     case measure=>simp[intOf];omega
  ·go_wp2;go_ret;exact⟨Oo (by rw[bz aa]),rfl⟩
end
section
open Go.RowKit
def flat(ts:List ag):List UInt8:=(ts.map λt=>t.data.toList).flatten
def pG(ts:List ag):(flat ts).length=gy ts:=by
 induction ts with
 |nil=>rfl
 |cons t ts ih=>simp[flat,gy]at ih |-;omega
def FD(ts:List ag):Lib.join (ts.map λt=>t.data.toList) (bF).data.toList=flat ts:=by
 cases ts with
 |nil=>rfl
 |cons t r=>rw[aB,Lib.join_cons,Lib.joinTail];simp[flat];rfl
def bytes(l:List UInt8):ag:=⟨l.toArray⟩
def Zv(f:List UInt8):(⟨f.toArray⟩:ag).extract 0 (min (f.length:Int) 32).toNat=bytes (f.take 32):=by
 have e:(min (f.length:Int) 32).toNat=min f.length 32:=aa;rw[e];apply iZ;rw[iT];simp[bytes,List.extract_toArray];omega
def Ta(b off c:Nat)(ts:List ag)(w:ae)(hn:ts.length<=100000)(Er:ts.length<=c)(hm:gy ts<=1000000)(hb:b<w.heap.size)(ht:gf w b off ts):
  Calls ak 210 #[.slice (so ⟨b,off,we⟩) ts.length c] w λe w'=>e=.returned (.string (bytes ((flat ts).take 32)))/\Below w.heap.size w w':=by
 have hj:=Tryz.strings_Join b off c ts bF w (λj x hx=>by obtain⟨h1,rfl⟩:=a8.1 hx;exact ht j h1) hb aa Er (by rw[FD,pG];omega);rw[FD]at hj;have hl:(flat ts).length<=1000000:=by rw[pG];exact hm
 generalize flat ts=f at hj hl;clear ht;go_enter func210,ntmps210;go_wp2_with (go_at_call 234;refine hj.mono ?_;rintro e w' ⟨rfl,im⟩);go_ret;exact⟨by rw[Zv];rfl,im⟩
def ju(ts:List ag):ag:=if ts=[] then bF else Lib.minOfS ts
def Qd(b off c:Nat)(ts:List ag)(w:ae)(hn:ts.length<=100000)(ht:gf w b off ts):
  Calls ak 213 #[.slice (so ⟨b,off,we⟩) ts.length c] w λe w'=>e=.returned (.string (ju ts))/\w'=w:=by
 by_cases h0:ts=[]
 ·subst h0;go_enter func213,ntmps213;go_wp2;go_ret;exact⟨rfl,rfl⟩
 ·have hp:0<ts.length:=dF.2 h0;have hj:=Tryz.slices_Min_string b off ts.length c ts w hp (af _) aa (λj hj=>by rw[ht j hj];simp[List.getD,hj]);rw[cO]at hj;have e:ju ts=Lib.minOfS ts:=by simp[ju,h0]
  rw[e];generalize Lib.minOfS ts=m at hj;have fu:¬(ts.length:Int)=0:=aa;go_enter func213,ntmps213;go_wp2_with (go_at_call 236;refine hj.mono ?_;rintro e w' ⟨rfl,rfl⟩);go_ret;exact⟨rfl,rfl⟩
end
end Go.Proofs.Kz
namespace Go.Proofs
open _root_.Option renaming some → so,none → we
section
open Go.Shelf
end
end Go.Proofs
namespace Go.Proofs.Kz
open Go.Proofs.Tryz
open Go.Proofs.Tryz renaming prog → ak
open _root_.ByteArray renaming empty → bF
open _root_.Option renaming some → so,none → we
open Go.Proofs
section
open Go.RowKit
open Go.Sort (Holds putRow)
def JN(b:UInt8):Value:=.int .u8 (b.toNat:Int)
def MD(w:ae)(t:ag):∃cap w1,(convert 9 90 (.string t)).run ak w=.ok (.slice (so ⟨w.heap.size,0,we⟩) t.size cap) w1/\Below w.heap.size w w1/\w1.heap.size=w.heap.size+1/\Holds JN w1 w.heap.size 0 t.data:=by
 refine⟨_,_,run_bytes_of_string w 9 90 5 t underlying9 underlying90 underlying5,(Below.refl _ _).drew.alloc (af _) _,aj,λj hj=>?_⟩;have hb:∀(c:Nat),(bytesRow t c)[j]?=so (JN t.data[j]!):=λc=>by
  simp only[bytesRow];rw[gM (by simpa using hj)];rw[aM,aO hj,fh t.data j hj];rfl
 generalize grownCap w t.size 0 5=c;refine⟨?_,?_⟩
 ·rw[bD];exact(World.cell?_alloc_mark w.drew _ _ _ j).trans (hb c)
 ·rw[bD];have Bd:j<(bytesRow t c).size:=(aI.1 (hb c)).1;have:(w.drew.alloc (.cells (bytesRow t c) 5 ((bytesRow t c).size,(bytesRow t c).size+1))).heap[w.heap.size]?=so (.cells (bytesRow t c) 5 ((bytesRow t c).size,(bytesRow t c).size+1)):=by
   show(w.heap.push _)[w.heap.size]?=_;simp
  unfold World.frozen?;rw[this];simp;omega
def Tb(t:ag)(w:ae)(hn:t.size<=1000000):
  Calls ak 211 #[.string t] w λe w'=>e=.returned (.string (bytes t.data.toList.reverse))/\Below w.heap.size w w':=by
 obtain⟨cap,w1,hcv,Ev,JO,hh⟩:=MD w t;have hr:Calls ak 235 #[.slice (so ⟨w.heap.size,0,we⟩) t.size cap] w1 λe w'=>e=.returned (.tuple #[])/\∃n,w'=putRow JN (Sort.ahead w1 n) w.heap.size 0 t.data.toList.reverse.toArray:=by
  have:=AnyE.slices_Reverse Tryz.ag8 JN (λ_=>rfl) w.heap.size 0 cap t.data.toList w1 (by simpa using hh) eW;change Calls ak 235 _ _ _ at this;simpa using this
 have fP:∀n,∃w2,w2=putRow JN (Sort.ahead w1 n) w.heap.size 0 t.data.toList.reverse.toArray/\Below w.heap.size w w2/\(convert 90 9 (.slice (so ⟨w.heap.size,0,we⟩) t.size cap)).run ak w2=.ok (.string (bytes t.data.toList.reverse)) w2:=λn=>by
  refine⟨_,rfl,Lib.below_putRow Ev (af _),?_⟩;have:=run_convert_bytes_back (P:=ak) (putRow JN (Sort.ahead w1 n) w.heap.size 0 t.data.toList.reverse.toArray) 90 9 5 ⟨w.heap.size,0,we⟩ cap t.data.toList.reverse underlying90 underlying5 underlying9 (λj hj=>by
   have:=(Go.Sort.holds_putRow JN (Sort.ahead w1 n) w.heap.size 0 t.data t.data.toList.reverse.toArray hh aj j (by simpa using hj)).1;rw[bD]at this;rw[show(⟨w.heap.size,0,we⟩:Addr).add j=⟨w.heap.size,j,we⟩ by unfold Addr.add;simp;omega,this];simp at hj;simp[JN,hj])
  simpa[bytes] using this
 clear hh;go_enter func211,ntmps211;go_wp2_with (go_at_call 235;refine hr.mono ?_;rintro e w' ⟨rfl,n,tY⟩;obtain⟨w2,h2,oe,ame⟩:=fP n;rw[<- h2]at tY;clear h2;subst tY);go_ret;exact⟨rfl,oe⟩
end
open Go.Ren Go.Conc
def JP{w:ae}{b t n:Nat}{f:Nat->Value}(h:w.rowIs b t n f)(hf:∀j,j<n->∀g,val g (f j)=f j):I8 (λx=>x==b) w:=by
 intro x hx;simp at hx;subst hx;obtain⟨c,hb,hn,hc⟩:=h;refine⟨_,hb,rfl,λg _=>?_⟩;simp only[obj]
 congr 1
 apply jH
 ·simp
 ·intro j h1 h2;have e:=hc j aa;rw[aO h2,ay]at e;simp only[Array.getElem_map];rw[e];exact hf j aa g
def mP(w:ae)(b:Nat)(ts:List ag):Prop:=w.rowIs b 9 ts.length λj=>.string (ts.getD j bF)
def mP.texts{w:ae}{b:Nat}{ts:List ag}(h:mP w b ts):gf w b 0 ts:=gf.Zu h λk hk=>by simp[List.getD,hk]
def mP.shut{w:ae}{b:Nat}{ts:List ag}(h:mP w b ts):I8 (λx=>x==b) w:=JP h λj _ g=>aj
def mP.of_block{w w':ae}{b:Nat}{ts:List ag}(h:mP w b ts)(e:w'.heap[b]?=w.heap[b]?):mP w' b ts:=World.rowIs.of_block h e
def gN(r:Int)(ts:List ag):ag :=
 if r=1 then bytes ((flat ts).take 32)else if r=2 then bytes ((flat ts).take 32).reverse else if r=3 then⟨(Lib.decDigits (nU ts)).toArray⟩ else if r=4 then ju ts else bF
section
variable {T:dv}{i:Nat}{V:Nat->ae->Prop}{E:br}{rc:Nat->Prop}{o:aL}{w:ae}
def jM(w:ae):Prop:=∀q,q<20->w.cell? ⟨1,q,we⟩=so (.int .u64 ((10^q:Nat):Int))
def jM.later(hq:Quiet T 1){o':aL}{w':ae}(h:jM w)(hl:dc T i rc o w o' w'):jM w':=λq Cm=>by rw[hq.cell hl.rel];exact h q Cm
def Tc(hW:sU T i)(hq:Quiet T 1)(n:Nat)(MB:n<=1000000000000)(gB:hJ T o w)(ht:jM w):
  bC ak (XW ak T i V E rc) 197 #[.int .i64 n] o w λv o' w'=>v=.string ⟨(Lib.decDigits n).toArray⟩/\dc T i rc o w o' w':=by
 have W:=cW (P:=ak) (T:=T) (i:=i) (V:=V) (E:=E) rc;have hf:bC ak (XW ak T i V E rc) 233 #[.int .i64 n,.int .i64 10] o w λv o' w'=>v=.string ⟨(Lib.decDigits n).toArray⟩/\dc T i rc o w o' w':=by
  by_cases h:n<100
  ·exact Bc hW n h gB
  ·exact JK hW hq n h MB gB ht
 refine Zs W _ ?_;refine bt W func209 aG ?_;refine aD ?_;refine eH W rfl aG rfl func233 ah rfl ax rfl (hf.mono ?_);rintro v o1 w1 ⟨rfl,l1⟩;try walk_nrm
 refine aD ?_;exact⟨.inr trivial,trivial,_,resultsC_tmp (t:=2) aG _,rfl,l1⟩
def Td(hW:sU T i)(b:Nat)(ts:List ag)(hn:ts.length<=100000)(hm:gy ts<=1000000)(gB:hJ T o w)(hb:o b)(ht:mP w b ts):
  bC ak (XW ak T i V E rc) 210 #[.slice (so ⟨b,0,we⟩) ts.length ts.length] o w λv o' w'=>v=.string (bytes ((flat ts).take 32))/\dc T i rc o w o' w' :=
 pC (N:=λx=>x==b) hW.ok hW.i CS iK hW.kz ah gB (λx hx=>by simp at hx;subst hx;exact hb) ht.shut (λg hg=>by simp[val,addr,hg b aj]) _ (λg=>aj) λwl h1 h2 =>
  Ta b 0 ts.length ts wl hn (af _) hm (by have:=(gB.vB b hb).2;omega) (ht.of_block (h1 b aj)).texts
def acW(hW:sU T i)(b:Nat)(ts:List ag)(hn:ts.length<=100000)(hm:gy ts<=1000000)(gB:hJ T o w)(hb:o b)(ht:mP w b ts):
  bC ak (XW ak T i V E rc) 212 #[.slice (so ⟨b,0,we⟩) ts.length ts.length] o w λv o' w'=>v=.int .i64 (nU ts)/\dc T i rc o w o' w' :=
 pC (N:=λx=>x==b) hW.ok hW.i CS iK hW.kz ah gB (λx hx=>by simp at hx;subst hx;exact hb) ht.shut (λg hg=>by simp[val,addr,hg b aj]) _ (λg=>aj) λwl h1 h2 =>
  (VY b 0 ts.length ts wl hn hm (ht.of_block (h1 b aj)).texts).mono (by rintro e w' ⟨rfl,rfl⟩;exact⟨rfl,.refl _ _⟩)
def VZ(hW:sU T i)(b:Nat)(ts:List ag)(hn:ts.length<=100000)(gB:hJ T o w)(hb:o b)(ht:mP w b ts):
  bC ak (XW ak T i V E rc) 213 #[.slice (so ⟨b,0,we⟩) ts.length ts.length] o w λv o' w'=>v=.string (ju ts)/\dc T i rc o w o' w' :=
 pC (N:=λx=>x==b) hW.ok hW.i CS iK hW.kz ah gB (λx hx=>by simp at hx;subst hx;exact hb) ht.shut (λg hg=>by simp[val,addr,hg b aj]) _ (λg=>aj) λwl h1 h2 =>
  (Qd b 0 ts.length ts wl hn (ht.of_block (h1 b aj)).texts).mono (by rintro e w' ⟨rfl,rfl⟩;exact⟨rfl,.refl _ _⟩)
def Zw(hW:sU T i)(t:ag)(hn:t.size<=1000000)(gB:hJ T o w):
  bC ak (XW ak T i V E rc) 211 #[.string t] o w λv o' w'=>v=.string (bytes t.data.toList.reverse)/\dc T i rc o w o' w' :=
 qQ hW.ok hW.i CS iK hW.kz ah gB (λg=>aj) _ (λg=>aj) λwl=>Tb t wl hn
def Qe(hW:sU T i)(hq:Quiet T 1)(r:Int)(hr:r=1\/r=2\/r=3\/r=4)(b:Nat)(ts:List ag)(hn:ts.length<=100000)(hm:gy ts<=1000000)(gB:hJ T o w)(hb:o b)(ht:mP w b ts)(hp:jM w):
  bC ak (XW ak T i V E rc) 198 #[.int .i64 r,.slice (so ⟨b,0,we⟩) ts.length ts.length] o w λv o' w'=>v=.string (gN r ts)/\dc T i rc o w o' w':=by
 have W:=cW (P:=ak) (T:=T) (i:=i) (V:=V) (E:=E) rc;have ew:(bytes ((flat ts).take 32)).size<=1000000:=by
  show((flat ts).take 32).toArray.size<=_;rw[List.size_toArray];have:=ff 32 (flat ts);omega
 rcases hr with rfl|rfl|rfl|rfl
 ·refine bt W func198 aG ?_;refine aD ?_;refine dq func210 (Td hW b ts hn hm gB hb ht) ?_;rintro v o1 w1 ⟨rfl,l1⟩;try walk_nrm
  refine aD ?_;exact⟨.inr trivial,trivial,_,resultsC_tmp (t:=4) aG _,rfl,l1⟩
 ·refine bt W func198 aG ?_;refine aD ?_;refine dq func210 (Td hW b ts hn hm gB hb ht) ?_;rintro v o1 w1 ⟨rfl,l1⟩;try walk_nrm
  refine aD ?_;refine dq func211 (Zw hW (bytes ((flat ts).take 32)) ew l1.ok) ?_;rintro v o2 w2 ⟨rfl,l2⟩;try walk_nrm
  refine aD ?_;exact⟨.inr trivial,trivial,_,resultsC_tmp (t:=4) aG _,by simp[gN,bytes],l1.trans l2⟩
 ·have hs:nU ts<=1000000000000:=by have:=BE ts;omega
  refine bt W func198 aG ?_;refine aD ?_;refine dq func212 (acW hW b ts hn hm gB hb ht) ?_;rintro v o1 w1 ⟨rfl,l1⟩;try walk_nrm
  refine aD ?_;refine dq func197 (Tc hW hq _ hs l1.ok (hp.later hq l1)) ?_;rintro v o2 w2 ⟨rfl,l2⟩;try walk_nrm
  refine aD ?_;exact⟨.inr trivial,trivial,_,resultsC_tmp (t:=4) aG _,rfl,l1.trans l2⟩
 ·refine bt W func198 aG ?_;refine aD ?_;refine dq func213 (VZ hW b ts hn gB hb ht) ?_;rintro v o1 w1 ⟨rfl,l1⟩;try walk_nrm
  refine aD ?_;exact⟨.inr trivial,trivial,_,resultsC_tmp (t:=4) aG _,rfl,l1⟩
end
abbrev V0:V:=(false,bF)
def fK(vs:List V)(j:Nat):Value:=if j%2=0 then .bool (vs.getD (j/2) V0).1 else .string (vs.getD (j/2) V0).2
def gp(w:ae)(b:Nat)(vs:List V):Prop:=w.rowIs b 159 (vs.length*2) (fK vs)
def wO(vs:List V)(j:Nat)(g:Rn):val g (fK vs j)=fK vs j:=by unfold fK;split<;>simp
def gp.mH{w:ae}{b:Nat}{vs:List V}(h:gp w b vs):qZ w b 0 vs:=λk hk=>by
 have h1:=World.rowIs.cell h (i:=k*2) aa;have h2:=World.rowIs.cell h (i:=k*2+1) aa;have e1:fK vs (k*2)=.bool vs[k].1:=by
  unfold fK;rw[if_pos aa,show k*2/2=k by omega];simp[List.getD,hk]
 have e2:fK vs (k*2+1)=.string vs[k].2:=by
  unfold fK;rw[if_neg aa,show(k*2+1)/2=k by omega];simp[List.getD,hk]
 rw[bD,h1,h2,e1,e2];exact⟨rfl,rfl⟩
def gp.shut{w:ae}{b:Nat}{vs:List V}(h:gp w b vs):I8 (λx=>x==b) w:=JP h λj _ g=>wO vs j g
def gp.of_block{w w':ae}{b:Nat}{vs:List V}(h:gp w b vs)(e:w'.heap[b]?=w.heap[b]?):gp w' b vs:=World.rowIs.of_block h e
section
variable {T:dv}{i:Nat}{V:Nat->ae->Prop}{E:br}{rc:Nat->Prop}{o:aL}{w:ae}
def GU(hW:sU T i)(b:Nat)(vs:List Kz.V)(hn:vs.length<=100000)(gB:hJ T o w)(hb:o b)(ht:gp w b vs):
  bC ak (XW ak T i V E rc) 196 #[.slice (so ⟨b,0,we⟩) vs.length vs.length] o w λv o' w'=>v=.int .i64 (cnt vs)/\dc T i rc o w o' w' :=
 pC (N:=λx=>x==b) hW.ok hW.i CS iK hW.kz ah gB (λx hx=>by simp at hx;subst hx;exact hb) ht.shut (λg hg=>by simp[val,addr,hg b aj]) _ (λg=>aj) λwl h1 h2 =>
  Qc b 0 vs.length vs wl hn (by have:=(gB.vB b hb).2;omega) (ht.of_block (h1 b aj)).mH
def Qf(hW:sU T i)(b:Nat)(vs:List Kz.V)(hn:vs.length<=100000)(gB:hJ T o w)(hb:o b)(ht:gp w b vs):
  bC ak (XW ak T i V E rc) 199 #[.slice (so ⟨b,0,we⟩) vs.length vs.length] o w λv o' w'=>∃A,v=.slice (so ⟨A,0,we⟩) (vs.map (·.2)).length (vs.map (·.2)).length/\o' A/\mP w' A (vs.map (·.2))/\dc T i rc o w o' w':=by
 refine xz (N:=λx=>x==b) (R:=λwl v w'=>v=.slice (so ⟨wl.heap.size,0,we⟩) vs.length vs.length/\(∀x,x<wl.heap.size->w'.heap[x]?=wl.heap[x]?)/\w'.rowIs wl.heap.size 9 vs.length (λj=>.string (vs.getD j (false,bF)).2)) hW.ok hW.i CS iK hW.kz ah gB
  (λx hx=>by simp at hx;subst hx;exact hb) ht.shut (λg hg=>by simp[val,addr,hg b aj]) (λwl v w' τ d h=>h) (λwl τ d v w' h=>h) (λwl h1 h2=>?_) ?_
 ·refine(JM b 0 vs.length vs wl hn (by have:=(gB.vB b hb).2;omega) (ht.of_block (h1 b aj)).mH).mono ?_;rintro e w' ⟨rfl,hB,_,cd⟩;exact⟨_,rfl,rfl,hB.block,cd⟩
 ·rintro wl v v' F' o' bN w' h1 h2 ⟨rfl,fe,cd⟩ hB;obtain⟨hK,rfl,p6⟩:=hB.slice;have hrel:=hB.stays ht.shut h1 (λx hx=>fe x (by simp at hx;subst hx;have:=(gB.vB x hb).2;omega));refine⟨F'.φ wl.heap.size,aj,p6,?_,hrel,⟨hB.vB,aS gB.size hrel.size⟩,hB.more⟩;have ME:=Zg hB.wr hK (λj _ f=>aj) cd;show w'.rowIs _ _ (vs.map (·.2)).length _;rw[b6];refine ME.congr λj hj=>?_;simp[List.getD,hj]
def ef(r:Int)(vs:List Kz.V):Kz.V:=if r=5 then(true,⟨(Lib.decDigits (cnt vs)).toArray⟩)else if cnt vs<vs.length then(false,bF) else(true,gN r (vs.map (·.2)))
def MF(hW:sU T i)(hq:Quiet T 1)(b:Nat)(vs:List Kz.V)(hn:vs.length<=100000)(gB:hJ T o w)(hb:o b)(ht:gp w b vs)(hp:jM w):
  bC ak (XW ak T i V E rc) 163 #[.int .i64 5,.slice (so ⟨b,0,we⟩) vs.length vs.length] o w λv o' w'=>v=.agg #[.bool (ef 5 vs).1,.string (ef 5 vs).2]/\dc T i rc o w o' w':=by
 have W:=cW (P:=ak) (T:=T) (i:=i) (V:=V) (E:=E) rc;have hc:cnt vs<=1000000000000:=by have:=q7 vs;omega
 refine kF W func163 aG ?_;refine aD ?_;refine oI hW.ok hW.i gB rfl aG rfl (Obj.cells #[.bool false,.string bF] 159) (λw1=>by simp[go_sem];rfl) (λw1=>iY) λA o1 w1 l1 hA Je hwA Le=>?_;try walk_nrm
 refine aD ?_;have Ie:gp w1 b vs:=ht.of_block (l1.rel.own b hb);refine dq func196 (GU hW b vs hn l1.ok (l1.more b hb) Ie) ?_;rintro v o2 w2 ⟨rfl,l2⟩;try walk_nrm
 refine aD ?_;refine dq func197 (Tc hW hq (cnt vs) hc l2.ok ((hp.later hq l1).later hq l2)) ?_;rintro v o3 w3 ⟨rfl,l3⟩;try walk_nrm
 refine aD ?_;have xR:w3.heap[A]?=so (Obj.cells #[.bool false,.string bF] 159):=by rw[l3.rel.own A (l2.more A hA),l2.rel.own A hA,Je]
 have cellsOf:∀{w4:ae} {x s:Value},w4.heap[A]?=so (Obj.cells #[x,s] 159)->w4.cell? ⟨A,0,we⟩=so x/\w4.cell? ⟨A,1,we⟩=so s/\w4.frozen? ⟨A,0,we⟩=false/\w4.frozen? ⟨A,1,we⟩=false:=λh=>by simp[World.cell?,World.frozen?,h]
 refine qT hW.ok hW.i l3.ok rfl aG A (l3.more A (l2.more A hA)) (f:=λw4=>(w4.setCell ⟨A,0,we⟩ (.bool true)).setCell ⟨A,1,we⟩ (.string ⟨(Lib.decDigits (cnt vs)).toArray⟩)) (λw4 h4=>?_) (λw4=>(iH.set _ _ _ _).trans (iH.set _ _ _ _)) (λw4 h4 e he=>?_) λw4 h4 l4=>?_
 ·obtain⟨c0,c1,f0,f1⟩:=cellsOf (h4.trans xR);simp[go_sem,c0,c1,f0,f1]
 ·obtain⟨c0,c1,f0,f1⟩:=cellsOf (h4.trans xR);have UP:(w4.setCell ⟨A,0,we⟩ (.bool true)).cell? ⟨A,1,we⟩=so (.string bF):=by rw[World.cell?_setCell_other _ _ _ _ aj];exact c1
  have Zx:(w4.setCell ⟨A,0,we⟩ (.bool true)).frozen? ⟨A,1,we⟩=false:=by simpa using f1
  simp[go_sem,c0,c1,f0,f1]at he;rw[dh _ _ c0 f0 rfl,dh _ _ UP Zx rfl]at he;simp at he;rcases he with rfl|rfl;all_goals exact⟨_,_,_,rfl,rfl⟩
 try walk_nrm
 refine aD ?_;have U3:((w4.setCell ⟨A,0,we⟩ (.bool true)).setCell ⟨A,1,we⟩ (.string ⟨(Lib.decDigits (cnt vs)).toArray⟩)).heap[A]?=so (Obj.cells #[.bool true,.string ⟨(Lib.decDigits (cnt vs)).toArray⟩] 159):=by
  simp[World.setCell,aR,h4.trans xR]
 generalize (w4.setCell ⟨A,0,we⟩ (.bool true)).setCell ⟨A,1,we⟩ (.string ⟨(Lib.decDigits (cnt vs)).toArray⟩)=w5 at *;have Te:¬o A:=λh=>by have:=(gB.vB A h).2;omega
 refine⟨.inr trivial,trivial,.agg #[.bool true,.string ⟨(Lib.decDigits (cnt vs)).toArray⟩],λw6 h6=>?_,by simp[ef],((((l1.trans l2).trans l3).xA (A:=A)).trans l4).later Te⟩;obtain⟨c0,c1,f0,f1⟩:=cellsOf ((h6.own A (l3.more A (l2.more A hA))).trans U3);refine⟨by simp[results,results163,go_sem,c0,c1],λes IH=>⟨.refl _ _,λe he=>?_⟩⟩;have:=IH e he;simp[results,results163,go_sem,c0,c1]at this;rcases this with rfl|rfl;all_goals exact yA (.inl (l3.more A (l2.more A hA)))
def MG(hW:sU T i)(hq:Quiet T 1)(r:Int)(hr:r=1\/r=2\/r=3\/r=4)(b:Nat)(vs:List Kz.V)(hn:vs.length<=100000)(hm:gy (vs.map (·.2))<=1000000)(zw:cnt vs<vs.length)(gB:hJ T o w)(hb:o b)(ht:gp w b vs)(hp:jM w):
  bC ak (XW ak T i V E rc) 163 #[.int .i64 r,.slice (so ⟨b,0,we⟩) vs.length vs.length] o w λv o' w'=>v=.agg #[.bool (ef r vs).1,.string (ef r vs).2]/\dc T i rc o w o' w':=by
 have W:=cW (P:=ak) (T:=T) (i:=i) (V:=V) (E:=E) rc;have HZ:¬r=5:=aa;have U4:(r==5)=false:=by simpa using HZ
 have fG:=q7 vs;have cR:(cnt vs:Int)<(vs.length:Int):=aa;refine kF W func163 aG ?_;refine aD ?_;refine oI hW.ok hW.i gB rfl aG rfl (Obj.cells #[.bool false,.string bF] 159) (λw1=>by simp[go_sem];rfl) (λw1=>iY) λA o1 w1 l1 hA Je hwA Le=>?_;try walk_nrm
 refine aD ?_;have Ie:gp w1 b vs:=ht.of_block (l1.rel.own b hb);refine dq func196 (GU hW b vs hn l1.ok (l1.more b hb) Ie) ?_;rintro v o2 w2 ⟨rfl,l2⟩;try walk_nrm
 refine aD ?_;have Zy:o2 A:=l2.more A hA;have lL:dc T i rc o w o2 w2:=l1.trans l2;have xR:w2.heap[A]?=so (Obj.cells #[.bool false,.string bF] 159):=by rw[l2.rel.own A hA,Je]
 have cellsOf:∀{w4:ae} {x s:Value},w4.heap[A]?=so (Obj.cells #[x,s] 159)->w4.cell? ⟨A,0,we⟩=so x/\w4.cell? ⟨A,1,we⟩=so s/\w4.frozen? ⟨A,0,we⟩=false/\w4.frozen? ⟨A,1,we⟩=false:=λh=>by simp[World.cell?,World.frozen?,h]
 refine qT hW.ok hW.i lL.ok rfl aG A Zy (f:=λw4=>(w4.setCell ⟨A,0,we⟩ (.bool false)).setCell ⟨A,1,we⟩ (.string bF)) (λw4 h4=>?_) (λw4=>(iH.set _ _ _ _).trans (iH.set _ _ _ _)) (λw4 h4 e he=>?_) λw4 h4 l4=>?_
 ·obtain⟨c0,c1,f0,f1⟩:=cellsOf (h4.trans xR);simp[go_sem,c0,c1,f0,f1];rfl
 ·obtain⟨c0,c1,f0,f1⟩:=cellsOf (h4.trans xR);have UP:(w4.setCell ⟨A,0,we⟩ (.bool false)).cell? ⟨A,1,we⟩=so (.string bF):=by rw[World.cell?_setCell_other _ _ _ _ aj];exact c1
  have Zx:(w4.setCell ⟨A,0,we⟩ (.bool false)).frozen? ⟨A,1,we⟩=false:=by simpa using f1
  simp[go_sem,c0,c1,f0,f1]at he;rw[dh _ _ c0 f0 rfl,dh _ _ UP Zx rfl]at he;simp at he;rcases he with rfl|rfl;all_goals exact⟨_,_,_,rfl,rfl⟩
 try walk_nrm
 refine aD ?_;have U3:((w4.setCell ⟨A,0,we⟩ (.bool false)).setCell ⟨A,1,we⟩ (.string bF)).heap[A]?=so (Obj.cells #[.bool false,.string bF] 159):=by
  simp[World.setCell,aR,h4.trans xR]
 generalize (w4.setCell ⟨A,0,we⟩ (.bool false)).setCell ⟨A,1,we⟩ (.string bF)=w5 at *;have Te:¬o A:=λh=>by have:=(gB.vB A h).2;omega
 refine⟨.inr trivial,trivial,.agg #[.bool false,.string bF],λw6 h6=>?_,by simp[ef, *],((lL.xA (A:=A)).trans l4).later Te⟩;obtain⟨c0,c1,f0,f1⟩:=cellsOf ((h6.own A Zy).trans U3);refine⟨by simp[results,results163,go_sem,c0,c1],λes IH=>⟨.refl _ _,λe he=>?_⟩⟩;have:=IH e he;simp[results,results163,go_sem,c0,c1]at this;rcases this with rfl|rfl;all_goals exact yA (.inl Zy)
def Tf(hW:sU T i)(hq:Quiet T 1)(r:Int)(hr:r=1\/r=2\/r=3\/r=4)(b:Nat)(vs:List Kz.V)(hn:vs.length<=100000)(hm:gy (vs.map (·.2))<=1000000)(zw:¬cnt vs<vs.length)(gB:hJ T o w)(hb:o b)(ht:gp w b vs)(hp:jM w):
  bC ak (XW ak T i V E rc) 163 #[.int .i64 r,.slice (so ⟨b,0,we⟩) vs.length vs.length] o w λv o' w'=>v=.agg #[.bool (ef r vs).1,.string (ef r vs).2]/\dc T i rc o w o' w':=by
 have W:=cW (P:=ak) (T:=T) (i:=i) (V:=V) (E:=E) rc;have HZ:¬r=5:=aa;have U4:(r==5)=false:=by simpa using HZ
 have fG:=q7 vs;have cR:¬(cnt vs:Int)<(vs.length:Int):=aa;refine kF W func163 aG ?_;refine aD ?_;refine oI hW.ok hW.i gB rfl aG rfl (Obj.cells #[.bool false,.string bF] 159) (λw1=>by simp[go_sem];rfl) (λw1=>iY) λA o1 w1 l1 hA Je hwA Le=>?_;try walk_nrm
 refine aD ?_;have Ie:gp w1 b vs:=ht.of_block (l1.rel.own b hb);refine dq func196 (GU hW b vs hn l1.ok (l1.more b hb) Ie) ?_;rintro v o2 w2 ⟨rfl,l2⟩;try walk_nrm
 refine aD ?_;have NN:gp w2 b vs:=Ie.of_block (l2.rel.own b (l1.more b hb));refine dq func199 (Qf hW b vs hn l2.ok (l2.more b (l1.more b hb)) NN) ?_;rintro v o3 w3 ⟨B,rfl,hB,Zz,l3⟩;try walk_nrm
 refine aD ?_;refine dq func198 (Qe hW hq r hr B (vs.map (·.2)) (by simpa using hn) hm l3.ok hB Zz (((hp.later hq l1).later hq l2).later hq l3)) ?_;rintro v o4 w9 ⟨rfl,l9⟩;try walk_nrm
 refine aD ?_;have Zy:o4 A:=l9.more A (l3.more A (l2.more A hA));have lL:dc T i rc o w o4 w9:=((l1.trans l2).trans l3).trans l9;have xR:w9.heap[A]?=so (Obj.cells #[.bool false,.string bF] 159):=by rw[l9.rel.own A (l3.more A (l2.more A hA)),l3.rel.own A (l2.more A hA),l2.rel.own A hA,Je]
 have cellsOf:∀{w4:ae} {x s:Value},w4.heap[A]?=so (Obj.cells #[x,s] 159)->w4.cell? ⟨A,0,we⟩=so x/\w4.cell? ⟨A,1,we⟩=so s/\w4.frozen? ⟨A,0,we⟩=false/\w4.frozen? ⟨A,1,we⟩=false:=λh=>by simp[World.cell?,World.frozen?,h]
 refine qT hW.ok hW.i lL.ok rfl aG A Zy (f:=λw4=>(w4.setCell ⟨A,0,we⟩ (.bool true)).setCell ⟨A,1,we⟩ (.string (gN r (vs.map (·.2))))) (λw4 h4=>?_) (λw4=>(iH.set _ _ _ _).trans (iH.set _ _ _ _)) (λw4 h4 e he=>?_) λw4 h4 l4=>?_
 ·obtain⟨c0,c1,f0,f1⟩:=cellsOf (h4.trans xR);simp[go_sem,c0,c1,f0,f1]
 ·obtain⟨c0,c1,f0,f1⟩:=cellsOf (h4.trans xR);have UP:(w4.setCell ⟨A,0,we⟩ (.bool true)).cell? ⟨A,1,we⟩=so (.string bF):=by rw[World.cell?_setCell_other _ _ _ _ aj];exact c1
  have Zx:(w4.setCell ⟨A,0,we⟩ (.bool true)).frozen? ⟨A,1,we⟩=false:=by simpa using f1
  simp[go_sem,c0,c1,f0,f1]at he;rw[dh _ _ c0 f0 rfl,dh _ _ UP Zx rfl]at he;simp at he;rcases he with rfl|rfl;all_goals exact⟨_,_,_,rfl,rfl⟩
 try walk_nrm
 refine aD ?_;have U3:((w4.setCell ⟨A,0,we⟩ (.bool true)).setCell ⟨A,1,we⟩ (.string (gN r (vs.map (·.2))))).heap[A]?=so (Obj.cells #[.bool true,.string (gN r (vs.map (·.2)))] 159):=by
  simp[World.setCell,aR,h4.trans xR]
 generalize (w4.setCell ⟨A,0,we⟩ (.bool true)).setCell ⟨A,1,we⟩ (.string (gN r (vs.map (·.2))))=w5 at *;have Te:¬o A:=λh=>by have:=(gB.vB A h).2;omega
 refine⟨.inr trivial,trivial,.agg #[.bool true,.string (gN r (vs.map (·.2)))],λw6 h6=>?_,by simp[ef, *],((lL.xA (A:=A)).trans l4).later Te⟩;obtain⟨c0,c1,f0,f1⟩:=cellsOf ((h6.own A Zy).trans U3);refine⟨by simp[results,results163,go_sem,c0,c1],λes IH=>⟨.refl _ _,λe he=>?_⟩⟩;have:=IH e he;simp[results,results163,go_sem,c0,c1]at this;rcases this with rfl|rfl;all_goals exact yA (.inl Zy)
end
def mixed:ak.follows .mixedOrders=true:=ah
def l8{t:Array Value}{n:Nat}(h:t.size=n):∃gs:Nat->Value,t=((List.range n).map gs).toArray:=by
 refine⟨λk=>t.getD k undef,?_⟩;subst h;apply jH
 ·simp
 ·intro i h1 h2;simp[bV,h1]
def eQ{a:Act}{n:Nat}(h:a.tmps.size=n)(k:a.defers=[]):∃gs:Nat->Value,a=⟨((List.range n).map gs).toArray,[]⟩:=by
 obtain⟨tm,df⟩:=a;simp only at h k;obtain⟨gs,rfl⟩:=l8 h;exact⟨gs,by rw[k]⟩
structure nV where
 n:Nat
 bn:Nat
 Lb:Nat
 Lo:Nat
 St:Nat
 Vb:Nat
 Rb:Nat
 Nb:Nat
 Mb:Nat
 kG:Nat->Int
 ins:Nat->List (Bool×Nat)
 cX:Nat->Nat
 mH:List V
 ch:Nat->Nat
structure ma(D:nV)(w:ae):Prop where
 b0:w.cell? ⟨D.bn,0,we⟩=so (.pointer (so ⟨D.Lb,D.Lo,we⟩))
 b1:w.cell? ⟨D.bn,1,we⟩=so (.slice (so ⟨D.Vb,0,we⟩) D.mH.length D.mH.length)
 b2:w.cell? ⟨D.bn,2,we⟩=so (.slice (so ⟨D.Rb,0,we⟩) D.n D.n)
 b3:w.cell? ⟨D.bn,3,we⟩=so (.slice (so ⟨D.Nb,0,we⟩) D.n D.n)
 b4:w.cell? ⟨D.bn,4,we⟩=so (.slice (so ⟨D.Mb,0,we⟩) D.n D.n)
 steps:w.cell? ⟨D.Lb,D.Lo,we⟩=so (.slice (so ⟨D.St,0,we⟩) D.n D.n)
 eT:∀s,s<D.n->w.cell? ⟨D.St,s*3+1,we⟩=so (.int .i64 (D.kG s))
 Be:∀s,s<D.n->w.cell? ⟨D.St,s*3+2,we⟩=so (.slice (so ⟨D.cX s,0,we⟩) (D.ins s).length (D.ins s).length)
 CV:∀s,s<D.n->∀j (h:j<(D.ins s).length),w.cell? ⟨D.cX s,j*2,we⟩=so (.bool (D.ins s)[j].1)/\w.cell? ⟨D.cX s,j*2+1,we⟩=so (.int .i64 (D.ins s)[j].2)
 mH:qZ w D.Vb 0 D.mH
 made:∀s,s<D.n->w.cell? ⟨D.Mb,s,we⟩=so (.chan (so (D.ch s)))
structure zU(D:nV)(T:dv)(ord:Nat->Nat):Prop where
 D7:Quiet T D.bn
 ZA:Quiet T D.Lb
 ZB:Quiet T D.St
 qVb:Quiet T D.Vb
 qMb:Quiet T D.Mb
 Qg:∀s,s<D.n->Quiet T (D.cX s)
 rL:∀i,i<T.n->ord i<D.n
 ch:∀i,i<T.n->T.ch i=D.ch (ord i)
 own:∀i l,T.kM i l↔i<T.n/\((∃j,j<4/\l=.cell ⟨D.Rb,ord i*4+j,we⟩)\/l=.cell ⟨D.Nb,ord i,we⟩)
 RF:T.Sh D.Rb
 XY:T.Sh D.Nb
 apart:D.Rb≠D.Nb
 dep:∀i,i<T.n->∀m,(true,m)∈D.ins (ord i)->∃k,k<T.n/\ord k=m/\T.dep i k
 src:∀s,s<D.n->∀m,(false,m)∈D.ins s->m<D.mH.length
 short:∀s,s<D.n->(D.ins s).length<=4
 ui:D.n<=100000
 V2:D.mH.length<=100000
section
variable {D:nV}{T:dv}{ord:Nat->Nat}{i:Nat}{o rc:Nat->Prop}{w w1:ae}
def ma.later(h:ma D w)(q:zU D T ord)(r:di T i o rc w w1):ma D w1:=by
 constructor
 ·rw[q.D7.cell r];exact h.b0
 ·rw[q.D7.cell r];exact h.b1
 ·rw[q.D7.cell r];exact h.b2
 ·rw[q.D7.cell r];exact h.b3
 ·rw[q.D7.cell r];exact h.b4
 ·rw[q.ZA.cell r];exact h.steps
 ·intro s hs;rw[q.ZB.cell r];exact h.eT s hs
 ·intro s hs;rw[q.ZB.cell r];exact h.Be s hs
 ·intro s hs j hj;rw[(q.Qg s hs).cell r,(q.Qg s hs).cell r];exact h.CV s hs j hj
 ·intro k hk;rw[q.qVb.cell r,q.qVb.cell r];exact h.mH k hk
 ·intro s hs;rw[q.qMb.cell r];exact h.made s hs
def ma.JQ(h:ma D w)(q:zU D T ord)(r:∀b,Quiet T b->w1.heap[b]?=w.heap[b]?):ma D w1:=by
 have rc:∀{b off},Quiet T b->w1.cell? ⟨b,off,we⟩=w.cell? ⟨b,off,we⟩:=λhb=>cell_of (r _ hb);constructor
 ·rw[rc q.D7];exact h.b0
 ·rw[rc q.D7];exact h.b1
 ·rw[rc q.D7];exact h.b2
 ·rw[rc q.D7];exact h.b3
 ·rw[rc q.D7];exact h.b4
 ·rw[rc q.ZA];exact h.steps
 ·intro s hs;rw[rc q.ZB];exact h.eT s hs
 ·intro s hs;rw[rc q.ZB];exact h.Be s hs
 ·intro s hs j hj;rw[rc (q.Qg s hs),rc (q.Qg s hs)];exact h.CV s hs j hj
 ·intro k hk;rw[rc q.qVb,rc q.qVb];exact h.mH k hk
 ·intro s hs;rw[rc q.qMb];exact h.made s hs
def di.pV{pd:Nat->Prop}(PC:∀k,rc k->pd k)(h:di T i o pd w w1):di T i o rc w w1 :=
 ⟨h.size,h.own,h.ro,h.sh,λa ha=>h.mine a (ha.imp id λ⟨k,hk,hl⟩=>⟨k,PC k hk,hl⟩),h.chan,h.Cp,h.wg,h.os,h.output⟩
def oJ{o':aL}{w2:ae}(h:dc T i rc o w o' w1)(hr:di T i o' rc w1 w2):dc T i rc o w o' w2 :=
 ⟨h.rel.trans (hr.less h.more),⟨λb hb=>⟨(h.ok.vB b hb).1,bf (h.ok.vB b hb).2 hr.size⟩,aS h.ok.size hr.size⟩,h.more⟩
def fZ{b off:Nat}{sy:Bool}(h:Quiet T b):NZ T i o rc ⟨.cell ⟨b,off,we⟩,false,sy⟩:=uX (.inr (.inr (.inr (h.ro off))))
def pH{b off:Nat}{wt sy:Bool}(h:o b):NZ T i o rc ⟨.cell ⟨b,off,we⟩,wt,sy⟩:=yA h
end
section
variable {P:Program}{T:dv}{i:Nat}{V:Nat->ae->Prop}{E:br}{rc o:Nat->Prop}{w:ae}
def uY(hT:T.OK)(hi:i<T.n){fn:FuncId}{Q:Exit->Act->aL->ae->Prop}{a:Act}(gB:hJ T o w){ops:Array Oper}{j:Nat}{rest:List Nat}{op:Oper}(ho:ops[j]?=so op)(hw:Region.wanted op (yielded ops a.tmps)=true)(A off:Nat)(hA:o A){t n:Nat}{g:Nat->Value}(hr:w.rowIs A t n g)(h0:off+1<n)(x y:Value)(hx:x.oneCell'=true)(hy:y.oneCell'=true)(cG:∀w1,w1.cell? ⟨A,off,we⟩=so (g off)->w1.cell? ⟨A,off+1,we⟩=so (g (off+1))->(∀k,w1.frozen? ⟨A,k,we⟩=false)->(execOp a.eval op).run P w1=.ok .skip ((w1.setCell ⟨A,off,we⟩ x).setCell ⟨A,off+1,we⟩ y))(jg:∀w1,w1.cell? ⟨A,off,we⟩=so (g off)->w1.cell? ⟨A,off+1,we⟩=so (g (off+1))->(∀k,w1.frozen? ⟨A,k,we⟩=false)->∃m m',(execOp a.eval op).events P w1 #[]=(store ⟨A,off+1,we⟩ y m').events P (w1.setCell ⟨A,off,we⟩ x) ((store ⟨A,off,we⟩ x m).events P w1 #[]))(h:∀w2,sw T i rc A o w o w2->w2.rowIs A t n (λk=>if k=off+1 then y else if k=off then x else g k)->dK (XW P T i V E rc) fn ops rest Q (a.put op.dst undef) o w2):dK (XW P T i V E rc) fn ops (j::rest) Q a o w:=by
 refine qT hT hi gB ho hw A hA (f:=λw4=>(w4.setCell ⟨A,off,we⟩ x).setCell ⟨A,off+1,we⟩ y) (λw1 h1=>?_) (λw4=>(iH.set _ _ _ _).trans (iH.set _ _ _ _)) (λw1 h1 e he=>?_) λw1 h1 l1=>?_
 ·have mC:=hr.of_block h1;exact cG w1 (mC.cell aa) (mC.cell h0) mC.frozen
 ·have mC:=hr.of_block h1;obtain⟨m,m',e1⟩:=jg w1 (mC.cell aa) (mC.cell h0) mC.frozen;rw[e1]at he;have UP:(w1.setCell ⟨A,off,we⟩ x).cell? ⟨A,off+1,we⟩=so (g (off+1)):=by rw[World.cell?_setCell_other _ _ _ _ aj];exact mC.cell h0
  have Zx:(w1.setCell ⟨A,off,we⟩ x).frozen? ⟨A,off+1,we⟩=false:=(mC.set off x).frozen _;rw[dh _ _ (mC.cell aa) (mC.frozen _) hx,dh _ _ UP Zx hy]at he;simp at he;rcases he with rfl|rfl;all_goals exact⟨_,_,_,rfl,rfl⟩
 ·have mC:=hr.of_block h1;exact h _ l1 ((mC.set off x).set (off+1) y)
def JR(hT:T.OK)(hi:i<T.n){fn:FuncId}{Q:Exit->Act->aL->ae->Prop}{a:Act}(gB:hJ T o w){ops:Array Oper}{j:Nat}{rest:List Nat}{op:Oper}(ho:ops[j]?=so op)(hw:Region.wanted op (yielded ops a.tmps)=true)(A:Nat)(hA:o A){t:Nat}{g:Nat->Value}(hr:w.rowIs A t 4 g)(x y u v:Value)(hx:x.oneCell'=true)(hy:y.oneCell'=true)(hu:u.oneCell'=true)(hv:v.oneCell'=true)(cG:∀w1,(∀k,k<4->w1.cell? ⟨A,k,we⟩=so (g k))->(∀k,w1.frozen? ⟨A,k,we⟩=false)->(execOp a.eval op).run P w1=.ok .skip ((((w1.setCell ⟨A,0,we⟩ x).setCell ⟨A,1,we⟩ y).setCell ⟨A,2,we⟩ u).setCell ⟨A,3,we⟩ v))(jg:∀w1,(∀k,k<4->w1.cell? ⟨A,k,we⟩=so (g k))->(∀k,w1.frozen? ⟨A,k,we⟩=false)->∃m,(execOp a.eval op).events P w1 #[]=(store ⟨A,3,we⟩ v m).events P (((w1.setCell ⟨A,0,we⟩ x).setCell ⟨A,1,we⟩ y).setCell ⟨A,2,we⟩ u) ((store ⟨A,2,we⟩ u m).events P ((w1.setCell ⟨A,0,we⟩ x).setCell ⟨A,1,we⟩ y) ((store ⟨A,1,we⟩ y m).events P (w1.setCell ⟨A,0,we⟩ x) ((store ⟨A,0,we⟩ x m).events P w1 #[]))))(h:∀w2,sw T i rc A o w o w2->w2.rowIs A t 4 (λk=>if k=3 then v else if k=2 then u else if k=1 then y else if k=0 then x else g k)->dK (XW P T i V E rc) fn ops rest Q (a.put op.dst undef) o w2):dK (XW P T i V E rc) fn ops (j::rest) Q a o w:=by
 refine qT hT hi gB ho hw A hA (f:=λw4=>(((w4.setCell ⟨A,0,we⟩ x).setCell ⟨A,1,we⟩ y).setCell ⟨A,2,we⟩ u).setCell ⟨A,3,we⟩ v) (λw1 h1=>?_) (λw4=>(((iH.set _ _ _ _).trans (iH.set _ _ _ _)).trans (iH.set _ _ _ _)).trans (iH.set _ _ _ _)) (λw1 h1 e he=>?_) λw1 h1 l1=>?_
 ·have mC:=hr.of_block h1;exact cG w1 (λk hk=>mC.cell hk) mC.frozen
 ·have mC:=hr.of_block h1;obtain⟨m,e1⟩:=jg w1 (λk hk=>mC.cell hk) mC.frozen;have r1:=mC.set 0 x;have r2:=r1.set 1 y;have r3:=r2.set 2 u;rw[e1,dh _ _ (mC.cell (i:=0) aa) (mC.frozen _) hx,dh _ _ (r1.cell (i:=1) aa) (r1.frozen _) hy,dh _ _ (r2.cell (i:=2) aa) (r2.frozen _) hu,dh _ _ (r3.cell (i:=3) aa) (r3.frozen _) hv]at he;simp at he;rcases he with rfl|rfl|rfl|rfl;all_goals exact⟨_,_,_,rfl,rfl⟩
 ·have mC:=hr.of_block h1;exact h _ l1 ((((mC.set 0 x).set 1 y).set 2 u).set 3 v)
end
def CW(d:Nat)(a b:Bool)(w:ae)(es:Array Event):(Op.equalIn (d+1) 4 (.bool a) (.bool b)).events ak w es=es:=by
 simp[Op.equalIn,go_sem,Sem.events_bind,events_underlying]
def xJ(d:Nat)(a b:ag)(w:ae)(es:Array Event):(Op.equalIn (d+1) 9 (.string a) (.string b)).events ak w es=es:=by
 simp[Op.equalIn,go_sem,Sem.events_bind,events_underlying]
def Qh(e:Nat)(w:ae)(es:Array Event)(a c:Bool)(b d:ag):(Op.equalIn (e+2) 159 (.agg #[.bool a,.string b]) (.agg #[.bool c,.string d])).events ak w es=es:=by
 rw[Op.equalIn];simp[go_sem,Sem.events_bind,CW,xJ]
def sC(w:ae)(a c:Bool)(b d:ag):(binOp .neq 159 (.agg #[.bool a,.string b]) (.agg #[.bool c,.string d])).run ak w=.ok (.bool (!decide ((a,b)=(c,d)))) w:=by
 have e:b.toList=d.toList↔b=d:=by
  rw[ByteArray.toList_eq,ByteArray.toList_eq];constructor
  ·intro h;obtain⟨⟨x⟩⟩:=b;obtain⟨⟨y⟩⟩:=d;have h:x=y:=h;rw[h]
  ·rintro rfl;rfl
 simp[go_sem,e];by_cases h1:a=c<;>by_cases h2:b=d<;>simp[h1,h2]
def wP(w:ae)(es:Array Event)(a c:Bool)(b d:ag):(binOp .neq 159 (.agg #[.bool a,.string b]) (.agg #[.bool c,.string d])).events ak w es=es:=by
 simp only[binOp];simp[Op.equal,Op.maxDepth,Sem.events_bind,Qh 9998]
def r8(op:BinOp)(x y:Operand)(xs ys:Array Value)(w:ae)(es:Array Event):(eqGuard op 159 x y (.agg xs) (.agg ys)).events ak w es=es:=by
 cases op<;>simp[eqGuard,run_program,Sem.events_bind,show ak.eqGuardType ak.depth 159=false by kernel_rfl]
section
variable {T:dv}{i:Nat}{V:Nat->ae->Prop}{E:br}{rc:Nat->Prop}{o:aL}{w:ae}
structure EqI(T:dv)(i:Nat)(rc:Nat->Prop)(o0:aL)(w0:ae)(B A:Nat)(xs ys:List Kz.V)(j:Nat)(a:Act)(o:aL)(w:ae):Prop where
 size:a.tmps.size=26
 df:a.defers=[]
 t0:a.eval (.tmp 0)=.slice (so ⟨B,0,we⟩) xs.length xs.length
 t1:a.eval (.tmp 1)=.slice (so ⟨A,0,we⟩) xs.length xs.length
 t12:a.eval (.tmp 12)=.int .i64 xs.length
 t13:a.eval (.tmp 13)=.int .i64 j
 eq:xs.take j=ys.take j
 lat:dc T i rc o0 w0 o w
def V3(hW:sU T i)(B A:Nat)(xs ys:List Kz.V)(hlen:xs.length<=100000)(hly:ys.length<=100000)(gB:hJ T o w)(hB:Quiet T B)(hx:qZ w B 0 xs)(hA:o A)(hy:qZ w A 0 ys):
  bC ak (XW ak T i V E rc) 162 #[.slice (so ⟨B,0,we⟩) xs.length xs.length,.slice (so ⟨A,0,we⟩) ys.length ys.length] o w λv o' w'=>v=.bool (decide (xs=ys))/\dc T i rc o w o' w':=by
 have W:=cW (P:=ak) (T:=T) (i:=i) (V:=V) (E:=E) rc;refine bt W func162 aG ?_;by_cases hl:xs.length=ys.length
 case neg =>
  have fu:¬xs=ys:=λe=>hl (by rw[e]);have ht:((xs.length:Int) != (ys.length:Int))=true:=eW;refine aD ?_;exact⟨.inr trivial,trivial,_,resultsC_tmp (t:=4) aG _,by simp[Act.eval,fu],.refl gB⟩
 have HN:ys.length=xs.length:=hl.symm;clear hl;refine aD ?_;refine dQ W (λn a o' w'=>∃j,n+j=xs.length/\EqI T i rc o w B A xs ys j a o' w') (N:=xs.length) ⟨0,aj,rfl,rfl,ax,by simp[Act.eval,HN],ax,ax,aj,.refl gB⟩ ?_;rintro n a o1 w1 ⟨j,hnj,ew,iu,t0,t1,t12,t13,heq,xK⟩;obtain⟨tm,df⟩:=a;simp only at ew iu;subst iu;obtain⟨gs,rfl⟩:=l8 ew;simp only[List.range,List.range.loop,aB,aJ]at *;simp[Act.eval]at t0 t1 t12 t13;simp only[t0,t1,t12,t13];rcases bh n with hn|hn
 ·have hj:j=xs.length:=aa;subst hj;refine aD ?_;refine⟨.inr trivial,trivial,_,resultsC_tmp (t:=4) aG _,?_,xK⟩;have:xs=ys:=by rw[cO,<- HN,cO]at heq;exact heq
  simp[Act.eval,this]
 ·have hj:j<xs.length:=aa;have hjy:j<ys.length:=aa;have Oq:(j:Int)<(xs.length:Int):=aa;refine aD ?_;have P4:o1 A:=xK.more A hA;refine vC mixed (n:=8) ah [.slice (so ⟨B,0,we⟩) xs.length xs.length,.int .i64 j,.pointer (so ⟨B,j*2,we⟩),.agg #[.bool xs[j].1,.string xs[j].2],.slice (so ⟨A,0,we⟩) xs.length xs.length,.int .i64 j,.pointer (so ⟨A,j*2,we⟩),.agg #[.bool ys[j].1,.string ys[j].2]]
   (S:=λo w=>o A/\w.cell? ⟨B,j*2,we⟩=so (.bool xs[j].1)/\w.cell? ⟨B,j*2+1,we⟩=so (.string xs[j].2)/\w.cell? ⟨A,j*2,we⟩=so (.bool ys[j].1)/\w.cell? ⟨A,j*2+1,we⟩=so (.string ys[j].2)/\dc T i rc o1 w1 o w) ?_ ?_ ?_
  ·rintro o w w' ⟨h1,h2,h3,h4,h5,h6⟩ hr;exact⟨h1,by rw[hB.cell hr];exact h2,by rw[hB.cell hr];exact h3,by rw[cell_of (hr.own A h1)];exact h4,by rw[cell_of (hr.own A h1)];exact h5,⟨h6.rel.trans (hr.less h6.more),⟨λb hb=>⟨(h6.ok.vB b hb).1,bf (h6.ok.vB b hb).2 hr.size⟩,aS h6.ok.size hr.size⟩,h6.more⟩⟩
  ·have e1:=hx j hj;have e2:=hy j hjy;rw[bD]at e1 e2;exact⟨P4,by rw[hB.cell xK.rel];exact e1.1,by rw[hB.cell xK.rel];exact e1.2,by rw[cell_of (xK.rel.own A hA)];exact e2.1,by rw[cell_of (xK.rel.own A hA)];exact e2.2,.refl xK.ok⟩
  ·simp only[List.range,List.range.loop];refine cU rfl rfl (kY λo2 w2 ⟨s1,s2,s3,s4,s5,s6⟩=>⟨by simp[go_sem,Act.eval],iY⟩) ?_;walk_nrm;refine cU rfl rfl (kY λo2 w2 ⟨s1,s2,s3,s4,s5,s6⟩=>⟨by simp[go_sem,Act.eval],iY⟩) ?_;walk_nrm;refine cU rfl rfl (kY λo2 w2 ⟨s1,s2,s3,s4,s5,s6⟩=>⟨by simp[go_sem, *],by simp[go_sem, *]⟩) ?_;walk_nrm;refine cU rfl rfl (kY λo2 w2 ⟨s1,s2,s3,s4,s5,s6⟩=>⟨by simp[go_sem, *],λe he=>?_⟩) ?_
   ·simp[go_sem, *]at he;rcases he with rfl|rfl<;>exact fZ hB
   walk_nrm;refine cU rfl rfl (kY λo2 w2 ⟨s1,s2,s3,s4,s5,s6⟩=>⟨by simp[go_sem,Act.eval],iY⟩) ?_;walk_nrm;refine cU rfl rfl (kY λo2 w2 ⟨s1,s2,s3,s4,s5,s6⟩=>⟨by simp[go_sem,Act.eval],iY⟩) ?_;walk_nrm;refine cU rfl rfl (kY λo2 w2 ⟨s1,s2,s3,s4,s5,s6⟩=>⟨by simp[go_sem, *],by simp[go_sem, *]⟩) ?_;walk_nrm;refine cU rfl rfl (kY λo2 w2 ⟨s1,s2,s3,s4,s5,s6⟩=>⟨by simp[go_sem, *],λe he=>?_⟩) ?_
   ·simp[go_sem, *]at he;rcases he with rfl|rfl<;>exact pH s1
   walk_nrm;refine pE λo2 w2 ⟨s1,s2,s3,s4,s5,s6⟩=>?_;clear s2 s3 s4 s5;have hl3:dc T i rc o w o2 w2:=xK.trans s6;by_cases R2:xs[j]=ys[j]
   ·refine Fo W (v:=.bool false) rfl aG (λw3=>by simp[go_sem,sC,R2]) (λw3=>by simp[go_sem,wP,r8]) ?_;refine aD ?_;have Ry:IntKind.i64.wrap ((j:Int)+1)=((j+1:Nat):Int):=by rw[IntKind.wrap_i64]<;>omega
    refine⟨n-1,aa,j+1,aa,rfl,rfl,rfl,rfl,rfl,by simp[Act.eval,Ry],?_,hl3⟩;rw[take_succ xs j hj,take_succ ys j hjy,heq,R2]
   ·refine Fo W (v:=.bool true) rfl aG (λw3=>?_) (λw3=>by simp[go_sem,wP,r8]) ?_
    ·have:xs[j].1=ys[j].1->¬xs[j].2=ys[j].2:=λh1 h2=>R2 (Prod.ext h1 h2);by_cases h1:xs[j].1=ys[j].1
     ·simp[go_sem,sC,this h1]
     ·simp[go_sem,sC,h1]
    refine aD ?_;have fu:¬xs=ys:=λe=>R2 (by subst e;rfl);exact⟨.inr trivial,trivial,_,resultsC_tmp (t:=4) aG _,by simp[Act.eval,fu],hl3⟩
end
end Go.Proofs.Kz
namespace Go.Ren
open _root_.Option renaming some → so,none → we
open Go.Conc Go.ConcN
section
variable {P:Program}{T:dv}{i:Nat}{V:Nat->ae->Prop}{E:br}
def JS(hT:T.OK)(hi:i<T.n){rc:Nat->Prop}{fn:FuncId}{Q:Exit->Act->aL->ae->Prop}{a:Act}{o:aL}{w:ae}(gB:hJ T o w){ops:Array Oper}{j:Nat}{rest:List Nat}{op:Oper}(ho:ops[j]?=so op)(hw:Region.wanted op (yielded ops a.tmps)=true){d:Option Tmp}(hd:op.dst=d)(x:Obj)(f:Nat->Value)(cG:∀w1,(execOp a.eval op).run P w1=.ok (.value (f w1.heap.size)) (w1.alloc x))(jg:∀w1,(execOp a.eval op).events P w1 #[]=#[])(h:∀A o1 w2,dc T i rc o w o1 w2->o1 A->w2.heap[A]?=so x->w.heap.size<=A->(∀b,o1 b↔o b\/b=A)->dK (XW P T i V E rc) fn ops rest Q (a.put d (f A)) o1 w2):dK (XW P T i V E rc) fn ops (j::rest) Q a o w:=by
 subst hd;refine mz (cW rc) ho hw λw1 mC K hK=>?_;rw[cG w1];simp only[uponK_value];refine hK _ _ ⟨⟨Fp _ _ (aS gB.size mC.size) hT,by rw[listed_nil (jg w1)];simp⟩,h w1.heap.size _ _ (dc.alloc hT hi gB mC x) (.inr ⟨af _,aj⟩) ?_ mC.size λb=>?_⟩
 ·show(w1.heap.push x)[w1.heap.size]?=_;simp
 ·have:=vA o w1 x;exact Iff.of_eq (congrFun this b)
end
end Go.Ren
namespace Go.Proofs.Kz
open Go.Proofs.Tryz
open Go.Proofs.Tryz renaming prog → ak
open _root_.ByteArray renaming empty → bF
open _root_.Option renaming some → so,none → we
open Go.Ren Go.Conc Go.Proofs
def CX:(ak.info? 159).map (λi=>(i.zero,i.size,i.bytes))=so (so (.agg #[.bool false,.string bF]),2,24):=ah
def wQ(w:ae)(n:Nat)(hn:n<=100000):(Instr.makeSlice 98 (.int .i64 (n:Int)) (.int .i64 (n:Int))).run ak w=.ok (.slice (so ⟨w.heap.size,0,we⟩) n n) (w.alloc (.cells (madeCells #[.bool false,.string bF] (n*2)) 159)):=by
 obtain⟨i,hi,hz⟩:=aH.1 CX;simp only[bO]at hz;obtain⟨hz,hs,hb⟩:=hz;have:=run_make (P:=ak) w 98 159 i _ underlying98 hi hz .i64 .i64 n n aa (en _) (by rw[hb];omega) aa;rw[this,hs];simp[Value.cells]
def Ew(w:ae)(n:Nat)(hn:n<=100000)(es:Array Event):(Instr.makeSlice 98 (.int .i64 (n:Int)) (.int .i64 (n:Int))).events ak w es=es:=by
 obtain⟨i,hi,hz⟩:=aH.1 CX;simp only[bO]at hz;obtain⟨hz,hs,hb⟩:=hz;exact events_make (P:=ak) w 98 159 i _ underlying98 hi hz .i64 .i64 n n aa (en _) (by rw[hb];omega) aa (by rw[hb];simp;omega) es
def JU{w:ae}{A n:Nat}(h:w.heap[A]?=so (.cells (madeCells #[.bool false,.string bF] (n*2)) 159)):gp w A (List.replicate n V0):=by
 refine⟨_,h,by simp[size_madeCells],λj hj=>?_⟩;simp only[List.length_replicate]at hj;have hV:(List.replicate n V0).getD (j/2) V0=V0:=by simp[List.getD,List.getElem?_replicate];split<;>rfl
 simp only[madeCells,aM,Array.getElem?_range,hj,if_true,aK,fK,hV];rcases fL j with e|e<;>simp[e]
def JV(D:nV)(res:Nat->V)(x:Bool×Nat):V:=if x.1 then res x.2 else D.mH.getD x.2 V0
def er(D:nV)(res:Nat->V)(s:Nat):List V:=(D.ins s).map (JV D res)
def part(l:List V)(j:Nat):List V:=l.take j++List.replicate (l.length-j) V0
def nz(l:List V)(j:Nat)(h:j<=l.length):(part l j).length=l.length:=by simp[part];omega
def FE(l:List V)(j m:Nat)(h:j<=l.length):(part l j).getD m V0=if m<j then l.getD m V0 else V0:=by
 unfold part;simp only[List.getD_eq_getElem?_getD];by_cases hm:m<j
 ·rw[dI eW,if_pos hm,cE hm]
 ·rw[dD eW,if_neg hm,gl];split<;>rfl
def CY{w:ae}{A n:Nat}{l:List V}{j:Nat}(hj:j<l.length)(hn:n=l.length*2)(h:w.rowIs A 159 n (λk=>if k=j*2+1 then .string l[j].2 else if k=j*2 then .bool l[j].1 else fK (part l j) k)):gp w A (part l (j+1)):=by
 subst hn;unfold gp;rw[nz _ _ aa];refine h.congr λk hk=>?_;simp only[fK];rw[FE _ _ _ aa,FE _ _ _ aa];have hl:l.getD j V0=l[j]:=by simp[List.getD_eq_getElem?_getD,hj]
 by_cases e1:k=j*2+1
 ·subst e1;rw[if_pos rfl,if_neg aa,show(j*2+1)/2=j by omega,if_pos aa,hl]
 ·rw[if_neg e1];by_cases e2:k=j*2
  ·subst e2;rw[if_pos rfl,if_pos aa,show j*2/2=j by omega,if_pos aa,hl]
  ·rw[if_neg e2];have:(k/2<j↔k/2<j+1):=aa;by_cases e3:k/2<j
   ·rw[if_pos e3,if_pos (this.1 e3)]
   ·rw[if_neg e3,if_neg (λh=>e3 (this.2 h))]
section
variable {T:dv}{i:Nat}{V:Nat->ae->Prop}{E:br}{rc:Nat->Prop}{o:aL}{w:ae}{D:nV}{ord:Nat->Nat}
structure WfI(D:nV)(T:dv)(i:Nat)(rc0:Nat->Prop)(o0:aL)(w0:ae)(A B len:Nat)(l:List Kz.V)(j:Nat)(a:Act)(rc:Nat->Prop)(o:aL)(w:ae):Prop where
 size:a.tmps.size=54
 df:a.defers=[]
 t0:a.eval (.tmp 0)=.pointer (so ⟨D.bn,0,we⟩)
 t5:a.eval (.tmp 5)=.slice (so ⟨A,0,we⟩) len len
 t11:a.eval (.tmp 11)=.slice (so ⟨B,0,we⟩) len len
 t12:a.eval (.tmp 12)=.int .i64 len
 t13:a.eval (.tmp 13)=.int .i64 j
 row:gp w A (part l j)
 own:o A
 amj:ma D w
 rcs:∀k,rc0 k->rc k
 lat:dc T i rc0 o0 w0 o w
def Qi(hW:sU T i)(hD:zU D T ord)(res:Nat->Kz.V)(hV:∀k w,k<T.n->V k w->w.cell? ⟨D.Rb,ord k*4+2,we⟩=so (.bool (res (ord k)).1)/\w.cell? ⟨D.Rb,ord k*4+3,we⟩=so (.string (res (ord k)).2))(gB:hJ T o w)(hd:ma D w):
  Ft ak T i V E 161 #[.pointer (so ⟨D.bn,0,we⟩),.slice (so ⟨D.cX (ord i),0,we⟩) (D.ins (ord i)).length (D.ins (ord i)).length] rc o w λv pd o' w'=>∃A,v=.slice (so ⟨A,0,we⟩) (D.ins (ord i)).length (D.ins (ord i)).length/\o' A/\¬o A/\gp w' A (er D res (ord i))/\(∀k,rc k->pd k)/\dc T i rc o w o' w':=by
 have W:∀rc,gj ak false (λo=>di T i o rc) (I2 T i rc) (λo g w=>iA ak T i V E ⟨g,o,rc,w⟩):=λrc=>cW rc;have W1:=W rc;have hs:=hD.rL i hW.i;have ZC:=hD.short _ hs;have hlen:(er D res (ord i)).length=(D.ins (ord i)).length:=by simp[er]
 generalize hL:(D.ins (ord i)).length=len at *;refine GG func161 aG ?_;refine lO (gi ?_);refine aD ?_;refine lO (gi ?_);refine aD ?_;refine JS hW.ok hW.i gB rfl aG rfl (.cells (madeCells #[.bool false,.string bF] (len*2)) 159) (λA=>.slice (so ⟨A,0,we⟩) len len) (λw1=>by simp[go_sem,wQ w1 len aa]) (λw1=>by simp[go_sem,Ew w1 len aa]) λA o1 w1 l1 hA Je hwA Le=>?_;try walk_nrm
 refine aD ?_;refine lO (lO (gi ?_));refine aD ?_;have Te:¬o A:=λh=>by have:=(gB.vB A h).2;omega
 refine Fs (SL (λn a pd o' w'=>∃j,n+j=len/\WfI D T i rc o w A (D.cX (ord i)) len (er D res (ord i)) j a pd o' w') (N:=len) ⟨0,aj,rfl,rfl,rfl,rfl,rfl,rfl,ax,by have:=JU Je;simpa[part,hlen] using this,hA,hd.later hD l1.rel,λ_ h=>h,l1⟩ ?_);rintro n a uZ o2 w2 ⟨j,hnj,ew,iu,t0,t5,t11,t12,t13,cd,Jm,U2,yP,xK⟩;clear Je hwA Le hA l1 w1 o1 W1;have W1:=W uZ;obtain⟨tm,df⟩:=a;simp only at ew iu;subst iu;obtain⟨gs,rfl⟩:=l8 ew;simp only[List.range,List.range.loop,aB,aJ]at *;simp[Act.eval]at t0 t5 t11 t12 t13;simp only[t0,t5,t11,t12,t13];clear t0 t5 t11 t12 t13 ew;rcases bh n with hn|hn
 ·have hj:j=len:=aa;subst hj;refine lO (gi ?_);refine aD ?_;refine lO (gi ?_);refine aD ?_;refine gi ?_;refine aD ?_;refine⟨.inr trivial,trivial,_,resultsC_tmp (t:=4) aG _,A,rfl,Jm,Te,?_,yP,xK⟩;have:part (er D res (ord i)) j=er D res (ord i):=by simp[part,<- hlen]
  rw[<- this];exact cd
 have hj:j<(D.ins (ord i)).length:=aa;have Oq:(j:Int)<(len:Int):=aa;have HV:j<(er D res (ord i)).length:=aa;have hv:(er D res (ord i))[j]=JV D res (D.ins (ord i))[j]:=by simp[er]
 have rM:(D.ins (ord i))[j].1=false->(D.ins (ord i))[j].2<D.mH.length:=λh=>hD.src _ hs _ (by rw[<- h];exact aA hj);have yE:(D.ins (ord i))[j].1=true->∃k,k<T.n/\ord k=(D.ins (ord i))[j].2/\T.dep i k:=λh=>hD.dep i hW.i _ (by rw[<- h];exact aA hj);have hS:∀w3,di T i o2 uZ w2 w3->w3.cell? ⟨D.cX (ord i),j*2,we⟩=so (.bool (D.ins (ord i))[j].1)/\w3.cell? ⟨D.cX (ord i),j*2+1,we⟩=so (.int .i64 (D.ins (ord i))[j].2):=λw3 hr=>(U2.later hD hr).CV _ hs j hj;generalize (D.ins (ord i))[j]=q at *;obtain⟨q1,q2⟩:=q;simp only at hS rM yE;refine lO (gi ?_);refine aD ?_;refine lO (gi ?_);refine aD ?_;refine lO (Fs (lO (gi ?_)));refine aD ?_
 (refine gq W1 hS rfl aG (λw9 hc=>⟨.refl _ _,λe he=>?_⟩) λw9 hc K hK=>?_;(focus (rw[cp];obtain⟨c0,c1⟩:=hc;have he:=mem_listed he;simp[go_sem, *]at he;rcases he with rfl|rfl<;>exact fZ (hD.Qg _ hs)));obtain⟨c0,c1⟩:=hc;go_simp;refine hK _ ?_;clear hK K;clear c0 c1 w9;try walk_nrm)
 refine oI hW.ok hW.i xK.ok rfl aG rfl (Obj.cells #[.bool false,.int .i64 0] 280) (λw1=>iY) (λw1=>iY) λC o3 w3 l3 hC hCx hwC XZ=>?_;try walk_nrm
 refine aD ?_;have hCr:w3.rowIs C 280 2 (λk=>if k=0 then .bool false else .int .i64 0):=⟨_,hCx,rfl,λk hk=>by
  rcases(show k=0\/k=1 by omega)with rfl|rfl<;>rfl⟩
 have hl3:dc T i rc o w o3 w3:=xK.trans ⟨di.pV yP l3.rel,l3.ok,l3.more⟩;have hnC:¬o2 C:=λh=>by have:=(xK.ok.vB C h).2;omega
 have hCA:A≠C:=λh=>hnC (h▸Jm);refine uY hW.ok hW.i l3.ok rfl aG C 0 hC hCr aa (.bool q1) (.int .i64 q2) rfl rfl (λw1 c0 c1 f=>?_) (λw1 c0 c1 f=>⟨.plain,.plain,?_⟩) λw4 l4 hC4=>?_
 ·simp at c0 c1;simp[go_sem,c0,c1,f]
 ·simp at c0 c1;simp[go_sem,c0,c1,f]
 have Lq:dc T i uZ o2 w2 o3 w4:=(l3.xA.trans l4).later hnC;clear l4 hCr hCx l3;try walk_nrm
 refine aD ?_;refine lO (gi ?_);refine aD ?_;have hS4:∀w5,di T i o3 uZ w4 w5->w5.cell? ⟨C,0,we⟩=so (.bool q1):=λw5 hr=>by rw[cell_of (hr.own C hC)];exact hC4.cell (i:=0) aa
 (refine gq W1 hS4 rfl aG (λw9 hc=>⟨.refl _ _,λe he=>?_⟩) λw9 hc K hK=>?_;(focus (rw[cp];have he:=mem_listed he;simp[go_sem, *]at he;subst he;exact pH hC));go_simp;refine hK _ ?_;clear hK K;clear hc w9;try walk_nrm)
 refine aD ?_;have xR:o3 A:=Lq.more A Jm;have Ot:gp w4 A (part (er D res (ord i)) j):=cd.of_block (Lq.rel.own A Jm);have hd4:ma D w4:=U2.later hD Lq.rel;have Ou:dc T i rc o w o3 w4:=xK.trans ⟨di.pV yP Lq.rel,Lq.ok,Lq.more⟩;have hC1:w4.cell? ⟨C,1,we⟩=so (.int .i64 q2):=hC4.cell (i:=1) aa;clear hS4 hC4 hS cd U2 xK hl3 Lq XZ hwC hnC;cases q1 with
 |false =>
  refine Jg rfl (λh=>by cases h) λ_=>?_;have hq:=rM rfl;have hqI:(q2:Int)<(D.mH.length:Int):=aa;have Vi:(er D res (ord i))[j]=D.mH[q2]:=by rw[hv];simp[JV,List.getD_eq_getElem?_getD,hq]
  refine gi (vC mixed (n:=11) ah [.slice (so ⟨A,0,we⟩) len len,.int .i64 j,.pointer (so ⟨D.bn,0,we⟩),.pointer (so ⟨D.bn,0,we⟩),.pointer (so ⟨D.bn,1,we⟩),.slice (so ⟨D.Vb,0,we⟩) D.mH.length D.mH.length,.pointer (so ⟨C,1,we⟩),.int .i64 q2,.pointer (so ⟨D.Vb,q2*2,we⟩),.agg #[.bool D.mH[q2].1,.string D.mH[q2].2],.pointer (so ⟨A,j*2,we⟩)]
   (S:=λo5 w5=>o5=o3/\dc T i uZ o3 w4 o5 w5) (λo5 w5 w6 h hr=>⟨h.1,oJ h.2 hr⟩) ⟨rfl,.refl Ou.ok⟩ ?_)
  have F1:∀o5 w5,o5=o3/\dc T i uZ o3 w4 o5 w5->w5.cell? ⟨D.bn,1,we⟩=so (.slice (so ⟨D.Vb,0,we⟩) D.mH.length D.mH.length):=λo5 w5 h=>(hd4.later hD h.2.rel).b1;have F2:∀o5 w5,o5=o3/\dc T i uZ o3 w4 o5 w5->w5.cell? ⟨C,1,we⟩=so (.int .i64 q2):=λo5 w5 h=>by rw[cell_of (h.2.rel.own C hC)];exact hC1
  have F3:∀o5 w5,o5=o3/\dc T i uZ o3 w4 o5 w5->w5.cell? ⟨D.Vb,q2*2,we⟩=so (.bool D.mH[q2].1)/\w5.cell? ⟨D.Vb,q2*2+1,we⟩=so (.string D.mH[q2].2):=λo5 w5 h=>by have:=(hd4.later hD h.2.rel).mH q2 hq;simpa using this
  simp only[List.range,List.range.loop]
  iterate 5 refine uW ?_
  (refine cU rfl rfl (kY λo5 w5 rZ=>⟨?_,λe he=>?_⟩) ?_;(focus (have hF:=F1 o5 w5 rZ;simp[go_sem,hF];done));(focus (have hF:=F1 o5 w5 rZ;simp[go_sem,hF]at he;subst he;exact fZ hD.D7));try walk_nrm)
  refine uW ?_
  (refine cU rfl rfl (kY λo5 w5 rZ=>⟨?_,λe he=>?_⟩) ?_;(focus (have hF:=F2 o5 w5 rZ;simp[go_sem,hF];done));(focus (have hF:=F2 o5 w5 rZ;simp[go_sem,hF]at he;subst he;exact pH (rZ.1▸hC)));try walk_nrm)
  refine uW ?_
  (refine cU rfl rfl (kY λo5 w5 rZ=>⟨?_,λe he=>?_⟩) ?_;(focus (have hF:=F3 o5 w5 rZ;simp[go_sem,hF.1,hF.2];done));(focus (have hF:=F3 o5 w5 rZ;simp[go_sem,hF.1,hF.2]at he;rcases he with rfl|rfl<;>exact fZ hD.qVb));try walk_nrm)
  refine uW ?_;refine pE ?_;rintro o5 w5 ⟨rfl,l5⟩;have yQ:=Ot.of_block (l5.rel.own A xR);refine uY hW.ok hW.i l5.ok rfl aG A (j*2) xR yQ (by rw[nz _ _ aa];omega) (.bool (er D res (ord i))[j].1) (.string (er D res (ord i))[j].2) rfl rfl (λw1 c0 c1 f=>?_) (λw1 c0 c1 f=>⟨.plain,.plain,?_⟩) λw6 l6 U4=>?_
  ·rw[Vi];simp[go_sem,c0,c1,f]
  ·rw[Vi];simp[go_sem,c0,c1,f]
  have Tg:=CY HV (by rw[nz _ _ aa]) U4;have Ov:dc T i rc o w o5 w6:=((Ou.trans ⟨di.pV yP l5.rel,l5.ok,l5.more⟩).xA.trans ⟨di.pV yP l6.rel,l6.ok,l6.more⟩).later Te;have hd6:ma D w6:=(hd4.later hD l5.rel).later hD l6.rel;clear l5 l6 U4 yQ F1 F2 F3;try walk_nrm
  refine aD ?_;refine gi ?_;refine aD ?_;have Ry:IntKind.i64.wrap ((j:Int)+1)=((j+1:Nat):Int):=by rw[IntKind.wrap_i64]<;>omega
  exact⟨n-1,aa,j+1,aa,rfl,rfl,rfl,rfl,rfl,rfl,by simp[Act.eval,Ry],Tg,xR,hd6,yP,Ov⟩
 |true =>
  refine Jg rfl (λ_=>?_) (λh=>by cases h);obtain⟨k,hk,rfl,Zb⟩:=yE rfl;have hqn:=hD.rL k hk;have hqI:(ord k:Int)<(D.n:Int):=aa;have Vi:(er D res (ord i))[j]=res (ord k):=by rw[hv];simp[JV]
  refine lO ?_;refine PY mixed (n:=8) ah [.pointer (so ⟨D.bn,0,we⟩),.pointer (so ⟨D.bn,0,we⟩),.pointer (so ⟨D.bn,4,we⟩),.slice (so ⟨D.Mb,0,we⟩) D.n D.n,.pointer (so ⟨C,1,we⟩),.int .i64 (ord k),.pointer (so ⟨D.Mb,ord k,we⟩),.chan (so (D.ch (ord k)))]
   (S:=λw5=>dc T i uZ o3 w4 o3 w5) (λw5 w6 h hr=>oJ h hr) (.refl Ou.ok) ?_
  have F1:∀w5,dc T i uZ o3 w4 o3 w5->w5.cell? ⟨D.bn,4,we⟩=so (.slice (so ⟨D.Mb,0,we⟩) D.n D.n):=λw5 h=>(hd4.later hD h.rel).b4;have F2:∀w5,dc T i uZ o3 w4 o3 w5->w5.cell? ⟨C,1,we⟩=so (.int .i64 (ord k)):=λw5 h=>by rw[cell_of (h.rel.own C hC)];exact hC1
  have F3:∀w5,dc T i uZ o3 w4 o3 w5->w5.cell? ⟨D.Mb,ord k,we⟩=so (.chan (so (D.ch (ord k)))):=λw5 h=>(hd4.later hD h.rel).made _ hqn;simp only[List.range,List.range.loop]
  iterate 3 refine S1 ?_
  (refine cU rfl rfl (λw5 rZ=>⟨?_,λe he=>?_⟩) ?_;(focus (have hF:=F1 w5 rZ;simp[go_sem,hF];done));(focus (have hF:=F1 w5 rZ;simp[go_sem,hF]at he;subst he;exact fZ hD.D7));try walk_nrm)
  refine S1 ?_
  (refine cU rfl rfl (λw5 rZ=>⟨?_,λe he=>?_⟩) ?_;(focus (have hF:=F2 w5 rZ;simp[go_sem,hF];done));(focus (have hF:=F2 w5 rZ;simp[go_sem,hF]at he;subst he;exact pH hC));try walk_nrm)
  refine S1 ?_
  (refine cU rfl rfl (λw5 rZ=>⟨?_,λe he=>?_⟩) ?_;(focus (have hF:=F3 w5 rZ;simp[go_sem,hF];done));(focus (have hF:=F3 w5 rZ;simp[go_sem,hF]at he;subst he;exact fZ hD.qMb));try walk_nrm)
  refine pE λw5 l5=>?_;refine PW (k:=k) (z:=.agg #[]) (f:=false) rfl aG Zb (λw1=>?_) (λw1=>iY) rfl λw6 U4 hVk=>?_
  ·rw[hD.ch k hk];simp[go_sem,rcase]
  have l6:dc T i uZ o3 w4 o3 w6:=oJ l5 U4;clear l5 U4 w5 F1 F2 F3;obtain⟨XM,hV2⟩:=hV k w6 hk hVk;have Ti:∀b,rc b->uZ b\/b=k:=λb hb=>.inl (yP b hb);have W3:=W (λb=>uZ b\/b=k);have hd6:ma D w6:=hd4.later hD l6.rel;have Tg:=Ot.of_block (l6.rel.own A xR);have Ov:dc T i rc o w o3 w6:=Ou.trans ⟨di.pV yP l6.rel,l6.ok,l6.more⟩;have hC6:w6.cell? ⟨C,1,we⟩=so (.int .i64 (ord k)):=by rw[cell_of (l6.rel.own C hC)];exact hC1
  refine yD ?_;refine aD ?_;refine gi (vC mixed (n:=12) ah [.slice (so ⟨A,0,we⟩) len len,.int .i64 j,.pointer (so ⟨D.bn,0,we⟩),.pointer (so ⟨D.bn,0,we⟩),.pointer (so ⟨D.bn,2,we⟩),.slice (so ⟨D.Rb,0,we⟩) D.n D.n,.pointer (so ⟨C,1,we⟩),.int .i64 (ord k),.pointer (so ⟨D.Rb,ord k*4,we⟩),.pointer (so ⟨D.Rb,ord k*4+2,we⟩),.agg #[.bool (res (ord k)).1,.string (res (ord k)).2],.pointer (so ⟨A,j*2,we⟩)]
   (S:=λo5 w5=>o5=o3/\dc T i (λb=>uZ b\/b=k) o3 w6 o5 w5) (λo5 w5 w6 h hr=>⟨h.1,oJ h.2 hr⟩) ⟨rfl,.refl Ov.ok⟩ ?_)
  have fo:∀m,m<4->T.kM k (.cell ⟨D.Rb,ord k*4+m,we⟩):=λm hm=>(hD.own k _).2 ⟨hk,.inl ⟨m,hm,rfl⟩⟩;have F1:∀o5 w5,o5=o3/\dc T i (λb=>uZ b\/b=k) o3 w6 o5 w5->w5.cell? ⟨D.bn,2,we⟩=so (.slice (so ⟨D.Rb,0,we⟩) D.n D.n):=λo5 w5 h=>(hd6.later hD h.2.rel).b2;have F2:∀o5 w5,o5=o3/\dc T i (λb=>uZ b\/b=k) o3 w6 o5 w5->w5.cell? ⟨C,1,we⟩=so (.int .i64 (ord k)):=λo5 w5 h=>by rw[cell_of (h.2.rel.own C hC)];exact hC6
  have F3:∀o5 w5,o5=o3/\dc T i (λb=>uZ b\/b=k) o3 w6 o5 w5->w5.cell? ⟨D.Rb,ord k*4+2,we⟩=so (.bool (res (ord k)).1)/\w5.cell? ⟨D.Rb,ord k*4+2+1,we⟩=so (.string (res (ord k)).2):=λo5 w5 h =>
   ⟨by rw[h.2.rel.mine _ (.inr ⟨k,.inr rfl,fo 2 aa⟩)];exact XM,by rw[h.2.rel.mine ⟨D.Rb,ord k*4+3,we⟩ (.inr ⟨k,.inr rfl,fo 3 aa⟩)];exact hV2⟩
  simp only[List.range,List.range.loop]
  iterate 5 refine uW ?_
  (refine cU rfl rfl (kY λo5 w5 rZ=>⟨?_,λe he=>?_⟩) ?_;(focus (have hF:=F1 o5 w5 rZ;simp[go_sem,hF];done));(focus (have hF:=F1 o5 w5 rZ;simp[go_sem,hF]at he;subst he;exact fZ hD.D7));try walk_nrm)
  refine uW ?_
  (refine cU rfl rfl (kY λo5 w5 rZ=>⟨?_,λe he=>?_⟩) ?_;(focus (have hF:=F2 o5 w5 rZ;simp[go_sem,hF];done));(focus (have hF:=F2 o5 w5 rZ;simp[go_sem,hF]at he;subst he;exact pH (rZ.1▸hC)));try walk_nrm)
  refine uW ?_;refine uW ?_
  (refine cU rfl rfl (kY λo5 w5 rZ=>⟨?_,λe he=>?_⟩) ?_;(focus (have hF:=F3 o5 w5 rZ;simp[go_sem,hF.1,hF.2];done));(focus (have hF:=F3 o5 w5 rZ;simp[go_sem,hF.1,hF.2]at he;rcases he with rfl|rfl<;>(first|exact uX (.inr (.inr (.inl ⟨k,.inr rfl,fo 2 aa⟩)))|exact uX (.inr (.inr (.inl ⟨k,.inr rfl,fo 3 aa⟩))))));try walk_nrm)
  refine uW ?_;refine pE ?_;rintro o5 w5 ⟨rfl,l5⟩;have yQ:=Tg.of_block (l5.rel.own A xR);refine uY hW.ok hW.i l5.ok rfl aG A (j*2) xR yQ (by rw[nz _ _ aa];omega) (.bool (er D res (ord i))[j].1) (.string (er D res (ord i))[j].2) rfl rfl (λw1 c0 c1 f=>?_) (λw1 c0 c1 f=>⟨.plain,.plain,?_⟩) λw7 l7 hr7=>?_
  ·rw[Vi];simp[go_sem,c0,c1,f]
  ·rw[Vi];simp[go_sem,c0,c1,f]
  have Tj:=CY HV (by rw[nz _ _ aa]) hr7;have ac2:dc T i rc o w o5 w7:=((Ov.trans ⟨di.pV Ti l5.rel,l5.ok,l5.more⟩).xA.trans ⟨di.pV Ti l7.rel,l7.ok,l7.more⟩).later Te;have hd7:ma D w7:=(hd6.later hD l5.rel).later hD l7.rel;clear l5 l7 hr7 yQ F1 F2 F3;try walk_nrm
  refine aD ?_;refine gi ?_;refine aD ?_;have Ry:IntKind.i64.wrap ((j:Int)+1)=((j+1:Nat):Int):=by rw[IntKind.wrap_i64]<;>omega
  exact⟨n-1,aa,j+1,aa,rfl,rfl,rfl,rfl,rfl,rfl,by simp[Act.eval,Ry],Tj,xR,hd7,Ti,ac2⟩
end
end Go.Proofs.Kz
namespace Go.Ren
open _root_.Option renaming some → so,none → we
open Go.Conc Go.ConcN
section
variable {P:Program}{main:Bool}{b:Frame}{a:Act}{k:List Item}{cs:List Frame}{w:ae}
def yR{ops:Array Oper}{i:Nat}{rest:List Nat}{o:Oper}{d:Deferred}(ho:ops[i]?=so o)(hw:Region.wanted o (yielded ops a.tmps)=true)(hk:b.kind≠.early)(hr:(execOp a.eval o).run P w=.ok (.defer d) w)(he:(execOp a.eval o).events P w #[]=#[]):
  stepG P main (G (b.at a (.inRegion ops (i::rest)::k)) cs) w=.go (G (b.at (Act.put ⟨a.tmps,d::a.defers⟩ o.dst undef) (.inRegion ops rest::k)) cs) w #[]:=by
 have mV:(b.at ⟨a.tmps,d::a.defers⟩ (.inRegion ops (i::rest)::k)).finish undef=b.at (Act.put ⟨a.tmps,d::a.defers⟩ o.dst undef) (.inRegion ops rest::k):=by rw[eC,ho];rfl
 have lY:(b.kind==CallKind.early)=false:=by simpa using hk
 rw[stepG_oper ho hw,<- mV];simp[stepG.apply,hr,he,G,Frame.at,lY,GStep.after,seen_none]
end
section
variable {P:Program}{m:Bool}{R:aL->ae->ae->Prop}{Gu:aL->ae->ae->Array Event->Prop}{X:aL->aY->ae->Prop}{fn:FuncId}{Q:Exit->Act->aL->ae->Prop}{a:Act}{o:aL}{w:ae}
def xL(W:gj P m R Gu X){ops:Array Oper}{i:Nat}{rest:List Nat}{op:Oper}{d:Deferred}(ho:ops[i]?=so op)(hw:Region.wanted op (yielded ops a.tmps)=true)(hr:∀w1,(execOp a.eval op).run P w1=.ok (.defer d) w1)(he:∀w1,(execOp a.eval op).events P w1 #[]=#[]){dd:Option Tmp}(hd:op.dst=dd)(h:dK X fn ops rest Q (Act.put ⟨a.tmps,d::a.defers⟩ dd undef) o w):dK X fn ops (i::rest) Q a o w:=by
 subst hd;exact λb k cs hb hk hc=>W.go rfl (λw1=>yR ho hw hk (hr w1) (he w1)) (h b k cs hb hk hc)
end
section
variable {P:Program}{T:dv}{i:Nat}{V:Nat->ae->Prop}{E:br}{rc o:Nat->Prop}{w w':ae}
structure mX(T:dv)(i B:Nat)(w w':ae):Prop where
 size:w'.heap.size=w.heap.size
 heap:∀b,b≠B->w'.heap[b]?=w.heap[b]?
 shape:∀cs ty fz,w.heap[B]?=so (.cells cs ty fz)->∃tQ,w'.heap[B]?=so (.cells tQ ty fz)/\tQ.size=cs.size
 cells:∀a:Addr,a.block=B->¬T.kM i (.cell a)->w'.cell? a=w.cell? a
 os:w'.os=w.os
 output:w'.output=w.output
def mX.set(w:ae){B off:Nat}(v:Value)(h:T.kM i (.cell ⟨B,off,we⟩)):mX T i B w (w.setCell ⟨B,off,we⟩ v):=by
 refine⟨by simp[World.setCell],λb hb=>RowKit.Below.heap_setCell w _ _ b hb,λcs ty fz hx=>?_,λa ha hn=>World.cell?_setCell_other _ _ _ _ λe=>hn (e▸h),rfl,rfl⟩;refine⟨cs.setIfInBounds off v,?_,aj⟩;simp[World.setCell,aR,hx]
def mX.trans{B:Nat}{w1 w2:ae}(h:mX T i B w w1)(k:mX T i B w1 w2):mX T i B w w2:=by
 refine⟨k.size.trans h.size,λb hb=>(k.heap b hb).trans (h.heap b hb),λcs ty fz hx=>?_,λa ha hn=>(k.cells a ha hn).trans (h.cells a ha hn),k.os.trans h.os,k.output.trans h.output⟩;obtain⟨c1,e1,e2⟩:=h.shape cs ty fz hx;obtain⟨c2,e3,e4⟩:=k.shape c1 ty fz e1;exact⟨c2,e3,e4.trans e2⟩
def mX.guW{B:Nat}(h:mX T i B w w')(hB:T.Sh B):L3 T i o w w':=by
 refine⟨cF h.size.symm,λb _ _ hb=>h.heap b λe=>hb (e▸hB),λb cs ty fz hb hx=>?_,λa ha hn=>?_,h.os,h.output⟩
 ·by_cases e:b=B
  ·subst e;exact h.shape cs ty fz hx
  ·exact⟨cs,by rw[h.heap b e];exact hx,rfl⟩
 ·by_cases e:a.block=B
  ·exact h.cells a e hn
  ·exact cell_of (h.heap _ e)
def va{ad:Addr}{wt sy:Bool}(h:T.kM i (.cell ad)):NZ T i o rc ⟨.cell ad,wt,sy⟩:=by
 refine⟨λx hx _=>.inr (.inl ?_),aj,aj,aj⟩;simp only[MemAct.ofEvent,MemAct.touch?,ay]at hx;subst hx;exact h
def AF{fn:FuncId}{Q:Exit->Act->aL->ae->Prop}{a:Act}{ops:Array Oper}{j:Nat}{rest:List Nat}{op:Oper}(ho:ops[j]?=so op)(hw:Region.wanted op (yielded ops a.tmps)=true)(B:Nat)(hB:T.Sh B){f:ae->ae}(cG:∀w1,di T i o rc w w1->(execOp a.eval op).run P w1=.ok .skip (f w1))(hf:∀w1,mX T i B w1 (f w1))(jg:∀w1,di T i o rc w w1->∀e∈(execOp a.eval op).events P w1 #[],∃ad wt sy,e=⟨.cell ad,wt,sy⟩/\T.kM i (.cell ad)){d:Option Tmp}(hd:op.dst=d)(h:∀w1,di T i o rc w w1->mX T i B w1 (f w1)->dK (XW P T i V E rc) fn ops rest Q (a.put d undef) o (f w1)):dK (XW P T i V E rc) fn ops (j::rest) Q a o w:=by
 subst hd;refine mz (cW rc) ho hw λw1 mC K hK=>?_;rw[cG w1 mC];simp only[uponK_skip];refine hK _ _ ⟨⟨(hf w1).guW hB,λe he=>?_⟩,?_⟩
 ·obtain⟨ad,wt,sy,rfl,e2⟩:=jg w1 mC e (mem_listed he);exact va e2
 ·rw[iw o (hf w1).size];exact h w1 mC (hf w1)
def iA.close{b:Frame}{a:Act}{cs:List Frame}{todo:List Item}{ds:List Deferred}{tf:Array TypeId}{ty:TypeId}{cns:Array Bool}(hd:a.defers={target:=.builtin .close tf ty cns,args:=#[.chan (so (T.ch i))]}::ds)(hq:(P.funcs[b.fn]?).any (·.norace)=false)(h:∀w1,di T i o rc w w1->∀s r tm,w1.heap[T.ch i]?=so (.chan 0 #[] false s r tm)->V i w1/\E o (G {b.at ⟨a.tmps,ds⟩ todo with mode:=.returning} cs) (w1.setChan (T.ch i) 0 #[] true s r tm)):
  XW P T i V E rc o (G {b.at a todo with mode:=.returning} cs) w :=
 iA.intro ⟨rfl,.inr (.inr ⟨rfl,λw1 hr s r tm hc=>⟨_,xC hd hc hq,rfl,(h w1 hr s r tm hc).1,(h w1 hr s r tm hc).2⟩⟩)⟩
end
section
variable {P:Program}{T:dv}{i:Nat}{V:Nat->ae->Prop}{E:br}{fn:FuncId}{Q:yB}{a:Act}{rc:Nat->Prop}{o:aL}{w:ae}
def Qj{ops:Array Oper}{todo:List Nat}{w1:ae}(h:vZ P T i V E fn ops todo Q a rc o w)(hr:di T i o rc w w1):vZ P T i V E fn ops todo Q a rc o w1:=λb k cs hb hk hc=>iA.rely (h b k cs hb hk hc) hr
def Qk{ops:Array Oper}{j:Nat}{rest:List Nat}{op:Oper}(ho:ops[j]?=so op)(hw:Region.wanted op (yielded ops a.tmps)=true)(h:∀w1,di T i o rc w w1->∀K:Act->ae->Prop,(∀a' w',I2 T i rc o w1 w' (listed P fn a op w1)/\vZ P T i V E fn ops rest Q a' rc (grow o w1 w') w'->K a' w')->uponK op a K ((execOp a.eval op).run P w1)):vZ P T i V E fn ops (j::rest) Q a rc o w:=by
 intro b k cs hb hk hc;refine(cW rc).step o _ w rfl λw1 h1=>?_;have:=h w1 h1 _ λ_ _ x=>x;revert this;cases hr:(execOp a.eval op).run P w1 with
 |ok x w' =>
  cases x with
  |value v=>intro q;simp only[uponK_value]at q;exact⟨_,_,_,dP ho hw hk hr,hb▸q.1,q.2 b k cs hb hk hc⟩
  |skip=>intro q;simp only[uponK_skip]at q;exact⟨_,_,_,jl ho hw hk hr,hb▸q.1,q.2 b k cs hb hk hc⟩
  |_=>intro q;exact q.elim
 |halt _ _=>intro q;exact q.elim
def qi{S:ae->Prop}(hS:∀w1,di T i o rc w w1->S w1){ops:Array Oper}{j:Nat}{rest:List Nat}{op:Oper}(ho:ops[j]?=so op)(hw:Region.wanted op (yielded ops a.tmps)=true)(hg:∀w1,S w1->I2 T i rc o w1 w1 (listed P fn a op w1))(h:∀w1,S w1->∀K:Act->ae->Prop,(∀a',vZ P T i V E fn ops rest Q a' rc o w->K a' w1)->uponK op a K ((execOp a.eval op).run P w1)):vZ P T i V E fn ops (j::rest) Q a rc o w :=
 Qk ho hw λw1 h1 K hK=>h w1 (hS w1 h1) K λa' q=>hK a' w1 ⟨hg w1 (hS w1 h1),by rw[cp];exact Qj q h1⟩
def vb{ops:Array Oper}{j:Nat}{rest:List Nat}{op:Oper}(ho:ops[j]?=so op)(_hn:GF op.op=true)(hw:Region.wanted op (yielded ops a.tmps)=true)(hg:∀w1,(execOp a.eval op).events P w1 #[]=#[])(h:∀w1,∀K:Act->ae->Prop,(∀a',vZ P T i V E fn ops rest Q a' rc o w->K a' w1)->uponK op a K ((execOp a.eval op).run P w1)):vZ P T i V E fn ops (j::rest) Q a rc o w :=
 qi (S:=λ_=>True) (λ_ _=>trivial) ho hw (λw1 _=>by rw[listed_nil (hg w1)];exact(cW (P:=P) (V:=V) (E:=E) rc).idle _ _) (λw1 _=>h w1)
end
end Go.Ren
namespace Go.Proofs.Kz
open Go.Proofs.Tryz
open Go.Proofs.Tryz renaming prog → ak
open _root_.ByteArray renaming empty → bF
open _root_.Option renaming some → so,none → we
open Go.Ren Go.Conc Go.Proofs
def wo(w:ae)(B:Nat):Prop:=∃c t,w.heap[B]?=so (.cells c t (0,0))
def wo.frozen{w:ae}{B:Nat}(h:wo w B)(off:Nat):w.frozen? ⟨B,off,we⟩=false:=by
 obtain⟨c,t,h⟩:=h;simp[World.frozen?,h]
def wo.later{w w1:ae}{B:Nat}{T:dv}{i:Nat}{o rc:Nat->Prop}(h:wo w B)(hB:T.Sh B)(hr:di T i o rc w w1):wo w1 B:=by
 obtain⟨c,t,h⟩:=h;obtain⟨c1,h1,_⟩:=hr.sh B c t _ hB h;exact⟨c1,t,h1⟩
def JW(w:ae)(a:Addr)(v u:Value)(h:w.cell? a=so u):(w.setCell a v).cell? a=so v:=World.cell?_setCell_same _ _ _ h
def ac3{P:Program}{w:ae}{B off:Nat}{x0 x1 x2 x3:Value}(v0 v1 v2 v3:Value)(h0:w.cell? ⟨B,off,we⟩=so x0)(h1:w.cell? ⟨B,off+1,we⟩=so x1)(h2:w.cell? ⟨B,off+2,we⟩=so x2)(h3:w.cell? ⟨B,off+3,we⟩=so x3)(hf:∀k,w.frozen? ⟨B,k,we⟩=false)(o0:v0.oneCell'=true)(o1:v1.oneCell'=true)(o2:v2.oneCell'=true)(o3:v3.oneCell'=true):
  ((((w.setCell ⟨B,off,we⟩ v0).setCell ⟨B,off+1,we⟩ v1).setCell ⟨B,off+2,we⟩ v2).setCell ⟨B,off+3,we⟩ v3).cell? ⟨B,off,we⟩=so v0 /\
  ((((w.setCell ⟨B,off,we⟩ v0).setCell ⟨B,off+1,we⟩ v1).setCell ⟨B,off+2,we⟩ v2).setCell ⟨B,off+3,we⟩ v3).cell? ⟨B,off+1,we⟩=so v1 /\
  ((((w.setCell ⟨B,off,we⟩ v0).setCell ⟨B,off+1,we⟩ v1).setCell ⟨B,off+2,we⟩ v2).setCell ⟨B,off+3,we⟩ v3).cell? ⟨B,off+2,we⟩=so v2 /\
  ((((w.setCell ⟨B,off,we⟩ v0).setCell ⟨B,off+1,we⟩ v1).setCell ⟨B,off+2,we⟩ v2).setCell ⟨B,off+3,we⟩ v3).cell? ⟨B,off+3,we⟩=so v3 /\
  (∀m (e:Event),e∈(store ⟨B,off+3,we⟩ v3 m).events P (((w.setCell ⟨B,off,we⟩ v0).setCell ⟨B,off+1,we⟩ v1).setCell ⟨B,off+2,we⟩ v2) ((store ⟨B,off+2,we⟩ v2 m).events P ((w.setCell ⟨B,off,we⟩ v0).setCell ⟨B,off+1,we⟩ v1) ((store ⟨B,off+1,we⟩ v1 m).events P (w.setCell ⟨B,off,we⟩ v0) ((store ⟨B,off,we⟩ v0 m).events P w #[])))->∃j wt sy,j<4/\e=⟨.cell ⟨B,off+j,we⟩,wt,sy⟩):=by
 have key:∀(w:ae) (a:Addr) (v u:Value),w.cell? a=so u->(w.setCell a v).cell? a=so v:=JW;have Mc:∀(w:ae) (i j:Nat) (v:Value),i≠j->(w.setCell ⟨B,i,we⟩ v).cell? ⟨B,j,we⟩=w.cell? ⟨B,j,we⟩:=λw i j v h=>World.cell?_setCell_other _ _ _ _ (by simp[h]);have fr:∀(w:ae) (i:Nat) (v:Value),(∀k,w.frozen? ⟨B,k,we⟩=false)->∀k,(w.setCell ⟨B,i,we⟩ v).frozen? ⟨B,k,we⟩=false:=λw i v h k=>by simpa using h k
 have a1:(w.setCell ⟨B,off,we⟩ v0).cell? ⟨B,off+1,we⟩=so x1:=by rw[Mc _ _ _ _ aa];exact h1
 have a2:((w.setCell ⟨B,off,we⟩ v0).setCell ⟨B,off+1,we⟩ v1).cell? ⟨B,off+2,we⟩=so x2:=by rw[Mc _ _ _ _ aa,Mc _ _ _ _ aa];exact h2
 have a3:(((w.setCell ⟨B,off,we⟩ v0).setCell ⟨B,off+1,we⟩ v1).setCell ⟨B,off+2,we⟩ v2).cell? ⟨B,off+3,we⟩=so x3:=by rw[Mc _ _ _ _ aa,Mc _ _ _ _ aa,Mc _ _ _ _ aa];exact h3
 refine⟨?_,?_,?_,key _ _ _ _ a3,λm e he=>?_⟩
 ·rw[Mc _ _ _ _ aa,Mc _ _ _ _ aa,Mc _ _ _ _ aa];exact key _ _ _ _ h0
 ·rw[Mc _ _ _ _ aa,Mc _ _ _ _ aa];exact key _ _ _ _ a1
 ·rw[Mc _ _ _ _ aa];exact key _ _ _ _ a2
 ·rw[dh _ _ h0 (hf _) o0,dh _ _ a1 (fr _ _ _ hf _) o1,dh _ _ a2 (fr _ _ _ (fr _ _ _ hf) _) o2,dh _ _ a3 (fr _ _ _ (fr _ _ _ (fr _ _ _ hf)) _) o3]at he;simp at he;rcases he with rfl|rfl|rfl|rfl
  ·exact⟨0,_,_,aa,rfl⟩
  ·exact⟨1,_,_,aa,rfl⟩
  ·exact⟨2,_,_,aa,rfl⟩
  ·exact⟨3,_,_,aa,rfl⟩
structure wR(D:nV)(s:Nat)(w:ae)(B:Nat)(vs:List V)(m:V):Prop where
 c0:w.cell? ⟨D.Rb,s*4,we⟩=so (.bool true)
 c1:w.cell? ⟨D.Rb,s*4+1,we⟩=so (.slice (so ⟨B,0,we⟩) vs.length vs.length)
 c2:w.cell? ⟨D.Rb,s*4+2,we⟩=so (.bool m.1)
 c3:w.cell? ⟨D.Rb,s*4+3,we⟩=so (.string m.2)
structure Ow(D:nV)(s:Nat)(w:ae):Prop where
 c0:w.cell? ⟨D.Rb,s*4,we⟩=so (.bool false)
 c1:w.cell? ⟨D.Rb,s*4+1,we⟩=so (.slice we 0 0)
 c2:w.cell? ⟨D.Rb,s*4+2,we⟩=so (.bool false)
 c3:w.cell? ⟨D.Rb,s*4+3,we⟩=so (.string bF)
def GV(D:nV)(T:dv)(s:Nat)(old:Option (Nat×List V))(w:ae):Prop :=
 match old with
 |none=>Ow D s w
 |some (B,vs)=>wR D s w B vs (ef (D.kG s) vs)/\qZ w B 0 vs/\Quiet T B/\vs.length<=100000
def oK(D:nV)(s:Nat)(old:Option (Nat×List V))(ins:List V)(m:V)(o:Nat->Prop)(w:ae):Prop :=
 (∃B,old=so (B,ins)/\wR D s w B ins m/\w.cell? ⟨D.Nb,s,we⟩=so (.bool false)) \/
 ((∀B,old≠so (B,ins))/\∃A,o A/\gp w A ins/\wR D s w A ins m/\w.cell? ⟨D.Nb,s,we⟩=so (.bool true))
def oK.made{D:nV}{s:Nat}{old:Option (Nat×List V)}{ins:List V}{m:V}{o:Nat->Prop}{w:ae}(h:oK D s old ins m o w):w.cell? ⟨D.Rb,s*4+2,we⟩=so (.bool m.1)/\w.cell? ⟨D.Rb,s*4+3,we⟩=so (.string m.2):=by
 rcases h with⟨B,_,h,_⟩|⟨_,A,_,_,h,_⟩<;>exact⟨h.c2,h.c3⟩
def oK.of{D:nV}{s:Nat}{old:Option (Nat×List V)}{ins:List V}{m:V}{o o':Nat->Prop}{w w':ae}(h:oK D s old ins m o w)(hR:∀j,j<4->w'.cell? ⟨D.Rb,s*4+j,we⟩=w.cell? ⟨D.Rb,s*4+j,we⟩)(hN:w'.cell? ⟨D.Nb,s,we⟩=w.cell? ⟨D.Nb,s,we⟩)(ho:∀b,o b->o' b/\w'.heap[b]?=w.heap[b]?):oK D s old ins m o' w':=by
 have hr:∀{B},wR D s w B ins m->wR D s w' B ins m:=λh=>⟨(hR 0 aa).trans h.c0,(hR 1 aa).trans h.c1,(hR 2 aa).trans h.c2,(hR 3 aa).trans h.c3⟩;rcases h with⟨B,h1,h2,h3⟩|⟨h1,A,h2,h3,h4,h5⟩
 ·exact .inl ⟨B,h1,hr h2,hN.trans h3⟩
 ·exact .inr ⟨h1,A,(ho A h2).1,h3.of_block (ho A h2).2,hr h4,hN.trans h5⟩
def GV.some{D:nV}{T:dv}{s:Nat}{old:Option (Nat×List V)}{w:ae}(h:GV D T s old w):∃x0 x1 x2 x3,w.cell? ⟨D.Rb,s*4,we⟩=so x0/\w.cell? ⟨D.Rb,s*4+1,we⟩=so x1/\w.cell? ⟨D.Rb,s*4+2,we⟩=so x2/\w.cell? ⟨D.Rb,s*4+3,we⟩=so x3:=by
 cases old with
 |none=>exact⟨_,_,_,_,h.c0,h.c1,h.c2,h.c3⟩
 |some x=>exact⟨_,_,_,_,h.1.c0,h.1.c1,h.1.c2,h.1.c3⟩
section
variable {T:dv}{i:Nat}{V:Nat->ae->Prop}{E:br}{rc:Nat->Prop}{o:aL}{w:ae}
def ZD(hW:sU T i)(hq:Quiet T 1)(r:Int)(hr:1<=r/\r<=5)(b:Nat)(vs:List Kz.V)(hn:vs.length<=100000)(hm:gy (vs.map (·.2))<=1000000)(gB:hJ T o w)(hb:o b)(ht:gp w b vs)(hp:jM w):
  bC ak (XW ak T i V E rc) 163 #[.int .i64 r,.slice (so ⟨b,0,we⟩) vs.length vs.length] o w λv o' w'=>v=.agg #[.bool (ef r vs).1,.string (ef r vs).2]/\dc T i rc o w o' w':=by
 by_cases h5:r=5
 ·subst h5;exact MF hW hq b vs hn gB hb ht hp
 ·by_cases hc:cnt vs<vs.length
  ·exact MG hW hq r aa b vs hn hm hc gB hb ht hp
  ·exact Tf hW hq r aa b vs hn hm hc gB hb ht hp
end
section
variable {T:dv}{i:Nat}{V:Nat->ae->Prop}{E:br}{rc:Nat->Prop}{o:aL}{w:ae}{D:nV}{ord:Nat->Nat}
def ZE(hW:sU T i)(AE:Quiet T 1)(hD:zU D T ord)(res:Nat->Kz.V)(hV:∀k w,k<T.n->V k w->w.cell? ⟨D.Rb,ord k*4+2,we⟩=so (.bool (res (ord k)).1)/\w.cell? ⟨D.Rb,ord k*4+3,we⟩=so (.string (res (ord k)).2))(gB:hJ T o w)(hd:ma D w)(hp:jM w)(qK:res (ord i)=ef (D.kG (ord i)) (er D res (ord i)))(JX:1<=D.kG (ord i)/\D.kG (ord i)<=5)(tS:gy ((er D res (ord i)).map (·.2))<=1000000)(old:Option (Nat×List Kz.V))(hold:GV D T (ord i) old w)(V4:w.cell? ⟨D.Nb,ord i,we⟩=so (.bool false))(Tk:wo w D.Rb)(ZF:wo w D.Nb)(c:Frame)(cs:List Frame)(Ex:∀pd o' w' (tm:Array Value) (todo:List Item),(∀b,o b->o' b)->(∀b,o' b->T.H0<=b)->(∀b,o b->w'.heap[b]?=w.heap[b]?)->(Go.ConcN.WgLive T.ty T.Wg w->Go.ConcN.WgLive T.ty T.Wg w')->oK D (ord i) old (er D res (ord i)) (res (ord i)) (λb=>o' b/\¬o b) w'->∀w1,di T i o' pd w' w1->∀s r t,w1.heap[T.ch i]?=so (.chan 0 #[] false s r t) ->
   V i w1/\E o' (G {(base 116).at ⟨tm,[]⟩ todo with mode:=.returning} (c::cs)) (w1.setChan (T.ch i) 0 #[] true s r t)):
  XW ak T i V E rc o (G (Frame.enter ak 116 #[.pointer (so ⟨D.bn,0,we⟩),.int .i64 (ord i)] .normal) (c::cs)) w:=by
 have W:∀rc,gj ak false (λo=>di T i o rc) (I2 T i rc) (λo g w=>iA ak T i V E ⟨g,o,rc,w⟩):=λrc=>cW rc;have W1:=W rc;have hs:=hD.rL i hW.i;have hsI:(ord i:Int)<(D.n:Int):=aa;have ZC:=hD.short _ hs;have IE:=hD.ch i hW.i;have fo:∀j,j<4->T.kM i (.cell ⟨D.Rb,ord i*4+j,we⟩):=λj hj=>(hD.own i _).2 ⟨hW.i,.inl ⟨j,hj,rfl⟩⟩;have CZ:T.kM i (.cell ⟨D.Nb,ord i,we⟩):=(hD.own i _).2 ⟨hW.i,.inr rfl⟩;rw[jr func116 rfl];refine lO (P:=ak) (fn:=116) (T:=T) (i:=i) (V:=V) (E:=E) (Q:=λe a' pd o' w'=>(e=.normal\/e=.ret)/\a'.defers=[{target:=.builtin .close #[207] 0 #[false],args:=#[.chan (so (D.ch (ord i)))]}]/\(∀b,o b->o' b)/\(∀b,o' b->T.H0<=b)/\(∀b,o b->w'.heap[b]?=w.heap[b]?)/\(Go.ConcN.WgLive T.ty T.Wg w->Go.ConcN.WgLive T.ty T.Wg w')/\oK D (ord i) old (er D res (ord i)) (res (ord i)) (λb=>o' b/\¬o b) w') ?_ (base 116) [] (c::cs) rfl (by simp[base]) ?_
 case refine_2 =>
  rintro e ⟨tm,df⟩ pd o' w' ⟨he,iu,h1,h5,h2,h4,h3⟩;simp only at iu;subst iu;have leave:∀todo,XW ak T i V E pd o' (G {(base 116).at ⟨tm,[{target:=.builtin .close #[207] 0 #[false],args:=#[.chan (so (D.ch (ord i)))]}]⟩ todo with mode:=.returning} (c::cs)) w':=λtodo =>
   iA.close (by rw[IE]) ah λw1 hr s r t hc=>Ex pd o' w' tm todo h1 h5 h2 h4 h3 w1 hr s r t hc
  rcases he with rfl|rfl
  ·exact(W pd).go rfl (λ_=>eD) (leave [])
  ·exact leave
 refine gi ?_;refine aD ?_;have Lr:∀w3,di T i o rc w w3->w3.cell? ⟨D.bn,4,we⟩=so (.slice (so ⟨D.Mb,0,we⟩) D.n D.n):=λw3 hr=>(hd.later hD hr).b4;have X0:∀w3,di T i o rc w w3->w3.cell? ⟨D.Mb,ord i,we⟩=so (.chan (so (D.ch (ord i)))):=λw3 hr=>(hd.later hD hr).made _ hs
 (refine gq W1 Lr rfl aG (λw9 hc=>⟨.refl _ _,λe he=>?_⟩) λw9 hc K hK=>?_;(focus (rw[cp];have he:=mem_listed he;simp[go_sem, *]at he;subst he;exact fZ hD.D7));go_simp;refine hK _ ?_;clear hK K;clear hc w9;try walk_nrm)
 refine aD ?_
 (refine gq W1 X0 rfl aG (λw9 hc=>⟨.refl _ _,λe he=>?_⟩) λw9 hc K hK=>?_;(focus (rw[cp];have he:=mem_listed he;simp[go_sem, *]at he;subst he;exact fZ hD.qMb));go_simp;refine hK _ ?_;clear hK K;clear hc w9;try walk_nrm)
 refine xL W1 (d:={target:=.builtin .close #[207] 0 #[false],args:=#[.chan (so (D.ch (ord i)))]}) rfl aG (λw1=>?_) (λw1=>iY) rfl ?_
 ·simp[go_sem,IE]
 refine aD ?_;clear Lr X0;refine lO (Mj ?_);refine fF ?_;have Lr:∀w3,di T i o rc w w3->w3.cell? ⟨D.bn,0,we⟩=so (.pointer (so ⟨D.Lb,D.Lo,we⟩)):=λw3 hr=>(hd.later hD hr).b0;have X0:∀w3,di T i o rc w w3->w3.cell? ⟨D.Lb,D.Lo,we⟩=so (.slice (so ⟨D.St,0,we⟩) D.n D.n):=λw3 hr=>(hd.later hD hr).steps;have hS3:∀w3,di T i o rc w w3->w3.cell? ⟨D.St,ord i*3+2,we⟩=so (.slice (so ⟨D.cX (ord i),0,we⟩) (D.ins (ord i)).length (D.ins (ord i)).length):=λw3 hr=>(hd.later hD hr).Be _ hs
 repeat (refine vb rfl rfl ?_ ?_ ?_;(focus (rfl));(focus (intro w1;first|(simp[go_sem];done)|(simp[go_sem, *];done)));intro w1 K hK;go_simp;refine hK _ ?_;clear hK K w1;try walk_nrm)
 (refine qi Lr rfl aG (λw9 hc=>⟨.refl _ _,λe he=>?_⟩) λw9 hc K hK=>?_;(focus (rw[cp];have he:=mem_listed he;simp[go_sem, *]at he;subst he;exact fZ hD.D7));go_simp;refine hK _ ?_;clear hK K;clear hc w9;try walk_nrm)
 repeat (refine vb rfl rfl ?_ ?_ ?_;(focus (rfl));(focus (intro w1;first|(simp[go_sem];done)|(simp[go_sem, *];done)));intro w1 K hK;go_simp;refine hK _ ?_;clear hK K w1;try walk_nrm)
 (refine qi X0 rfl aG (λw9 hc=>⟨.refl _ _,λe he=>?_⟩) λw9 hc K hK=>?_;(focus (rw[cp];have he:=mem_listed he;simp[go_sem, *]at he;subst he;exact fZ hD.ZA));go_simp;refine hK _ ?_;clear hK K;clear hc w9;try walk_nrm)
 repeat (refine vb rfl rfl ?_ ?_ ?_;(focus (rfl));(focus (intro w1;first|(simp[go_sem];done)|(simp[go_sem, *];done)));intro w1 K hK;go_simp;refine hK _ ?_;clear hK K w1;try walk_nrm)
 (refine qi hS3 rfl aG (λw9 hc=>⟨.refl _ _,λe he=>?_⟩) λw9 hc K hK=>?_;(focus (rw[cp];have he:=mem_listed he;simp[go_sem, *]at he;subst he;exact fZ hD.ZB));go_simp;refine hK _ ?_;clear hK K;clear hc w9;try walk_nrm)
 refine Mk rfl aG rfl func161 ah rfl ax rfl ((Qi hW hD res hV gB hd).mono ?_);clear Lr X0 hS3 W1;rintro v uZ o2 w2 ⟨A,rfl,hA,Te,cd,yP,l2⟩;have W2:=W uZ;walk_nrm;refine yD ?_;refine aD ?_;refine gi ?_;have U2:=hd.later hD l2.rel;have hlen:(er D res (ord i)).length=(D.ins (ord i)).length:=by simp[er]
 refine Jb W2 (λa' o' w'=>a'.tmps.size=68/\a'.defers=[{target:=.builtin .close #[207] 0 #[false],args:=#[.chan (so (D.ch (ord i)))]}]/\a'.eval (.tmp 0)=.pointer (so ⟨D.bn,0,we⟩)/\a'.eval (.tmp 1)=.int .i64 (ord i)/\a'.eval (.tmp 4)=.slice (so ⟨A,0,we⟩) (D.ins (ord i)).length (D.ins (ord i)).length/\(∀B,old≠so (B,er D res (ord i)))/\dc T i uZ o2 w2 o' w') ?_ ?_
 case refine_2 =>
  rintro⟨tm,df⟩ o3 w3 ⟨ew,iu,t0,t1,t4,A6,l3⟩;simp only at ew iu;subst iu;obtain⟨gs,rfl⟩:=l8 ew;simp only[List.range,List.range.loop,aB,aJ]at *;simp[Act.eval]at t0 t1 t4;simp only[t0,t1,t4];clear t0 t1 t4 ew;have l3':dc T i rc o w o3 w3:=l2.trans ⟨di.pV yP l3.rel,l3.ok,l3.more⟩;have hd3:=U2.later hD l3.rel;have xR:o3 A:=l3.more A hA;have X1:=cd.of_block (l3.rel.own A hA);have X2:jM w3:=hp.later AE l3';refine Bt W2 ?_;refine vC mixed (n:=21) ah [.pointer (so ⟨D.bn,0,we⟩),.pointer (so ⟨D.bn,0,we⟩),.pointer (so ⟨D.bn,2,we⟩),.slice (so ⟨D.Rb,0,we⟩) D.n D.n,.int .i64 (ord i),.slice (so ⟨A,0,we⟩) (D.ins (ord i)).length (D.ins (ord i)).length,.pointer (so ⟨D.bn,0,we⟩),.pointer (so ⟨D.bn,0,we⟩),.pointer (so ⟨D.bn,0,we⟩),.pointer (so ⟨D.Lb,D.Lo,we⟩),.pointer (so ⟨D.Lb,D.Lo,we⟩),.pointer (so ⟨D.Lb,D.Lo,we⟩),.slice (so ⟨D.St,0,we⟩) D.n D.n,.int .i64 (ord i),.pointer (so ⟨D.St,ord i*3,we⟩),.pointer (so ⟨D.St,ord i*3+1,we⟩),.int .i64 (D.kG (ord i)),.slice (so ⟨A,0,we⟩) (D.ins (ord i)).length (D.ins (ord i)).length,.agg #[.bool (res (ord i)).1,.string (res (ord i)).2],.agg #[.bool true,.slice (so ⟨A,0,we⟩) (D.ins (ord i)).length (D.ins (ord i)).length,.bool (res (ord i)).1,.string (res (ord i)).2],.pointer (so ⟨D.Rb,ord i*4,we⟩)]
   (S:=λo5 w5=>dc T i uZ o3 w3 o5 w5) (λo5 w5 w6 h hr=>oJ h hr) (.refl l3.ok) ?_
  have F1:∀o5 w5,dc T i uZ o3 w3 o5 w5->w5.cell? ⟨D.bn,2,we⟩=so (.slice (so ⟨D.Rb,0,we⟩) D.n D.n):=λo5 w5 h=>(hd3.later hD h.rel).b2;have F2:∀o5 w5,dc T i uZ o3 w3 o5 w5->w5.cell? ⟨D.bn,0,we⟩=so (.pointer (so ⟨D.Lb,D.Lo,we⟩)):=λo5 w5 h=>(hd3.later hD h.rel).b0;have F3:∀o5 w5,dc T i uZ o3 w3 o5 w5->w5.cell? ⟨D.Lb,D.Lo,we⟩=so (.slice (so ⟨D.St,0,we⟩) D.n D.n):=λo5 w5 h=>(hd3.later hD h.rel).steps;have F4:∀o5 w5,dc T i uZ o3 w3 o5 w5->w5.cell? ⟨D.St,ord i*3+1,we⟩=so (.int .i64 (D.kG (ord i))):=λo5 w5 h=>(hd3.later hD h.rel).eT _ hs;simp only[List.range,List.range.loop]
  iterate 3 refine uW ?_
  (refine cU rfl rfl (kY λo5 w5 rZ=>⟨?_,λe he=>?_⟩) ?_;(focus (have hF:=F1 o5 w5 rZ;simp[go_sem,hF];done));(focus (have hF:=F1 o5 w5 rZ;simp[go_sem,hF]at he;subst he;exact fZ hD.D7));try walk_nrm)
  iterate 5 refine uW ?_
  (refine cU rfl rfl (kY λo5 w5 rZ=>⟨?_,λe he=>?_⟩) ?_;(focus (have hF:=F2 o5 w5 rZ;simp[go_sem,hF];done));(focus (have hF:=F2 o5 w5 rZ;simp[go_sem,hF]at he;subst he;exact fZ hD.D7));try walk_nrm)
  refine uW ?_;refine uW ?_
  (refine cU rfl rfl (kY λo5 w5 rZ=>⟨?_,λe he=>?_⟩) ?_;(focus (have hF:=F3 o5 w5 rZ;simp[go_sem,hF];done));(focus (have hF:=F3 o5 w5 rZ;simp[go_sem,hF]at he;subst he;exact fZ hD.ZA));try walk_nrm)
  iterate 3 refine uW ?_
  (refine cU rfl rfl (kY λo5 w5 rZ=>⟨?_,λe he=>?_⟩) ?_;(focus (have hF:=F4 o5 w5 rZ;simp[go_sem,hF];done));(focus (have hF:=F4 o5 w5 rZ;simp[go_sem,hF]at he;subst he;exact fZ hD.ZB));try walk_nrm)
  refine uW ?_;refine cU rfl rfl (.inr ⟨163,_,_,_,_,rfl,func163,ah,rfl,λo5 w5 l5=>?_⟩) ?_
  ·have h:=ZD (V:=V) (E:=E) (rc:=uZ) hW AE (D.kG (ord i)) JX A (er D res (ord i)) aa tS l5.ok (l5.more A xR) (X1.of_block (l5.rel.own A xR)) (X2.later AE l5);rw[hlen,<- qK]at h;simp only[List.map_toArray,aB,aJ,Act.eval];refine h.mono ?_;rintro v o6 w6 ⟨rfl,l6⟩;exact⟨rfl,l5.trans l6⟩
  walk_nrm;refine uW ?_;refine uW ?_;refine pE λo5 w5 l5=>?_;have H2:dc T i rc o w o5 w5:=l3'.trans ⟨di.pV yP l5.rel,l5.ok,l5.more⟩;obtain⟨x0,x1,x2,x3,RU,vw,ZG,hx3⟩:=hold.some;have nT:∀w6,di T i o5 uZ w5 w6->w6.cell? ⟨D.Rb,ord i*4,we⟩=so x0/\w6.cell? ⟨D.Rb,ord i*4+1,we⟩=so x1/\w6.cell? ⟨D.Rb,ord i*4+2,we⟩=so x2/\w6.cell? ⟨D.Rb,ord i*4+3,we⟩=so x3:=λw6 hr =>
   ⟨(hr.mine _ (.inl (fo 0 aa))).trans ((H2.rel.mine _ (.inl (fo 0 aa))).trans RU),(hr.mine _ (.inl (fo 1 aa))).trans ((H2.rel.mine _ (.inl (fo 1 aa))).trans vw),
    (hr.mine _ (.inl (fo 2 aa))).trans ((H2.rel.mine _ (.inl (fo 2 aa))).trans ZG),(hr.mine _ (.inl (fo 3 aa))).trans ((H2.rel.mine _ (.inl (fo 3 aa))).trans hx3)⟩
  have hRH:=(hW.ok.sh _ hD.RF).1;have hNH:=(hW.ok.sh _ hD.XY).1;have RG:o5 A:=l5.more A xR;have hAH:=(l5.ok.vB A RG).1;refine AF rfl aG D.Rb hD.RF (f:=λw6=>(((w6.setCell ⟨D.Rb,ord i*4,we⟩ (.bool true)).setCell ⟨D.Rb,ord i*4+1,we⟩ (.slice (so ⟨A,0,we⟩) (D.ins (ord i)).length (D.ins (ord i)).length)).setCell ⟨D.Rb,ord i*4+2,we⟩ (.bool (res (ord i)).1)).setCell ⟨D.Rb,ord i*4+3,we⟩ (.string (res (ord i)).2))
   (λw6 hr=>?_) (λw6=>(((mX.set _ _ (fo 0 aa)).trans (mX.set _ _ (fo 1 aa))).trans (mX.set _ _ (fo 2 aa))).trans (mX.set _ _ (fo 3 aa))) (λw6 hr e he=>?_) rfl λw6 hr fe=>?_
  ·obtain⟨c0,c1,c2,c3⟩:=nT w6 hr;have f:=((Tk.later hD.RF H2.rel).later hD.RF hr).frozen;simp[go_sem,c0,c1,c2,c3,f]
  ·obtain⟨c0,c1,c2,c3⟩:=nT w6 hr;have f:=((Tk.later hD.RF H2.rel).later hD.RF hr).frozen;simp[go_sem,c0,c1,c2,c3,f]at he;obtain⟨j,wt,sy,hj,rfl⟩:=(ac3 (.bool true) (.slice (so ⟨A,0,we⟩) (D.ins (ord i)).length (D.ins (ord i)).length) (.bool (res (ord i)).1) (.string (res (ord i)).2) c0 c1 c2 c3 f rfl rfl rfl rfl).2.2.2.2 _ e he;exact⟨_,_,_,rfl,fo j hj⟩
  obtain⟨c0,c1,c2,c3⟩:=nT w6 hr;have f:=((Tk.later hD.RF H2.rel).later hD.RF hr).frozen;obtain⟨n0,n1,n2,n3,-⟩:=ac3 (P:=ak) (.bool true) (.slice (so ⟨A,0,we⟩) (D.ins (ord i)).length (D.ins (ord i)).length) (.bool (res (ord i)).1) (.string (res (ord i)).2) c0 c1 c2 c3 f rfl rfl rfl rfl;generalize (((w6.setCell ⟨D.Rb,ord i*4,we⟩ (.bool true)).setCell ⟨D.Rb,ord i*4+1,we⟩ (.slice (so ⟨A,0,we⟩) (D.ins (ord i)).length (D.ins (ord i)).length)).setCell ⟨D.Rb,ord i*4+2,we⟩ (.bool (res (ord i)).1)).setCell ⟨D.Rb,ord i*4+3,we⟩ (.string (res (ord i)).2)=w7 at *;have l6:dc T i rc o w o5 w6:=oJ H2 (di.pV yP hr);have hRN:D.Rb≠D.Nb:=hD.apart;have amo:hJ T o5 w7:=⟨λb hb=>by have:=l6.ok.vB b hb;have:=fe.size;omega,by have:=l6.ok.size;have:=fe.size;omega⟩;have hd7:ma D w7:=(hd.later hD l6.rel).JQ hD λb hb=>fe.heap b λe=>hb.sh (e▸hD.RF);have hN7:w7.cell? ⟨D.Nb,ord i,we⟩=so (.bool false):=by rw[cell_of (fe.heap _ (bw hRN)),l6.rel.mine _ (.inl CZ)];exact V4
  have hA7:w7.heap[A]?=w3.heap[A]?:=by rw[fe.heap A aa,hr.own A RG,l5.rel.own A xR]
  have X3:wo w7 D.Nb:=by
   obtain⟨c,t,hh⟩:=ZF.later hD.XY l6.rel;exact⟨c,t,by rw[fe.heap _ (bw hRN)];exact hh⟩
  have ZH:∀b,o b->w7.heap[b]?=w.heap[b]?:=λb hb=>by
   rw[fe.heap b (by have:=(gB.vB b hb).1;omega)];exact l6.rel.own b hb
  have Tj:=X1.of_block hA7;have ahe:Go.ConcN.WgLive T.ty T.Wg w->Go.ConcN.WgLive T.ty T.Wg w7:=λx=>gW (fe.heap _ (bw (hW.ok.sh _ hD.RF).2.1)) (l6.rel.wg x);clear F1 F2 F3 F4 nT fe hr f c0 c1 c2 c3;refine aD ?_;have Lr:∀w3,di T i o5 uZ w7 w3->w3.cell? ⟨D.bn,3,we⟩=so (.slice (so ⟨D.Nb,0,we⟩) D.n D.n):=λw3 hr=>(hd7.later hD hr).b3
  (refine gq W2 Lr rfl aG (λw9 hc=>⟨.refl _ _,λe he=>?_⟩) λw9 hc K hK=>?_;(focus (rw[cp];have he:=mem_listed he;simp[go_sem, *]at he;subst he;exact fZ hD.D7));go_simp;refine hK _ ?_;clear hK K;clear hc w9;try walk_nrm)
  refine aD ?_;refine AF rfl aG D.Nb hD.XY (f:=λw8=>w8.setCell ⟨D.Nb,ord i,we⟩ (.bool true)) (λw8 hr=>?_) (λw8=>mX.set _ _ CZ) (λw8 hr e he=>?_) rfl λw8 hr fe=>?_
  ·have c0:=(hr.mine _ (.inl CZ)).trans hN7;have f:=(X3.later hD.XY hr).frozen;simp[go_sem,c0,f]
  ·have c0:=(hr.mine _ (.inl CZ)).trans hN7;have f:=(X3.later hD.XY hr).frozen;simp[go_sem,c0,f]at he;rw[dh _ _ c0 (f _) rfl]at he;simp at he;subst he;exact⟨_,_,_,rfl,CZ⟩
  have hN8:(w8.setCell ⟨D.Nb,ord i,we⟩ (.bool true)).cell? ⟨D.Nb,ord i,we⟩=so (.bool true):=JW _ _ _ _ ((hr.mine _ (.inl CZ)).trans hN7);generalize w8.setCell ⟨D.Nb,ord i,we⟩ (.bool true)=w9 at *;have hm9:∀j,j<4->w9.cell? ⟨D.Rb,ord i*4+j,we⟩=w7.cell? ⟨D.Rb,ord i*4+j,we⟩:=λj hj=>by rw[cell_of (fe.heap _ hRN)];exact hr.mine _ (.inl (fo j hj))
  refine aD ?_;refine⟨.inl trivial,trivial,H2.more,λb hb=>(H2.ok.vB b hb).1,λb hb=>?_,λx=>gW (fe.heap _ (bw (hW.ok.sh _ hD.XY).2.1)) (hr.wg (ahe x)),.inr ⟨A6,A,⟨RG,Te⟩,Tj.of_block ?_,⟨(hm9 0 aa).trans n0,?_,(hm9 2 aa).trans n2,(hm9 3 aa).trans n3⟩,hN8⟩⟩
  ·rw[fe.heap b (by have:=(gB.vB b hb).1;omega),hr.own b (H2.more b hb)];exact ZH b hb
  ·rw[fe.heap A aa];exact hr.own A RG
  ·rw[hlen];exact(hm9 1 aa).trans n1
 have Lr:∀w3,di T i o2 uZ w2 w3->w3.cell? ⟨D.bn,2,we⟩=so (.slice (so ⟨D.Rb,0,we⟩) D.n D.n):=λw3 hr=>(U2.later hD hr).b2;refine aD ?_
 (refine gq W2 Lr rfl aG (λw9 hc=>⟨.refl _ _,λe he=>?_⟩) λw9 hc K hK=>?_;(focus (rw[cp];have he:=mem_listed he;simp[go_sem, *]at he;subst he;exact fZ hD.D7));go_simp;refine hK _ ?_;clear hK K;clear hc w9;try walk_nrm)
 clear Lr;refine aD ?_;have hm:∀j,j<4->w2.cell? ⟨D.Rb,ord i*4+j,we⟩=w.cell? ⟨D.Rb,ord i*4+j,we⟩:=λj hj=>l2.rel.mine _ (.inl (fo j hj));obtain⟨dn,ob,ol,mb,mt,fG,iX⟩:∃dn ob ol mb mt,(w2.cell? ⟨D.Rb,ord i*4,we⟩=so (.bool dn)/\w2.cell? ⟨D.Rb,ord i*4+1,we⟩=so (.slice ob ol ol)/\w2.cell? ⟨D.Rb,ord i*4+2,we⟩=so (.bool mb)/\w2.cell? ⟨D.Rb,ord i*4+3,we⟩=so (.string mt)) /\
   ((dn=false/\old=we)\/(dn=true/\∃B vs,old=so (B,vs)/\ob=so ⟨B,0,we⟩/\ol=vs.length/\(mb,mt)=ef (D.kG (ord i)) vs/\qZ w B 0 vs/\Quiet T B/\vs.length<=100000)):=by
  cases old with
  |none=>exact⟨_,_,_,_,_,⟨(hm 0 aa).trans hold.c0,(hm 1 aa).trans hold.c1,(hm 2 aa).trans hold.c2,(hm 3 aa).trans hold.c3⟩,.inl ⟨rfl,rfl⟩⟩
  |some x=>exact⟨_,_,_,_,_,⟨(hm 0 aa).trans hold.1.c0,(hm 1 aa).trans hold.1.c1,(hm 2 aa).trans hold.1.c2,(hm 3 aa).trans hold.1.c3⟩,.inr ⟨rfl,x.1,x.2,rfl,rfl,rfl,rfl,hold.2.1,hold.2.2.1,hold.2.2.2⟩⟩
 have Lr:∀w3,di T i o2 uZ w2 w3->w3.cell? ⟨D.Rb,ord i*4,we⟩=so (.bool dn)/\w3.cell? ⟨D.Rb,ord i*4+1,we⟩=so (.slice ob ol ol)/\w3.cell? ⟨D.Rb,ord i*4+2,we⟩=so (.bool mb)/\w3.cell? ⟨D.Rb,ord i*4+3,we⟩=so (.string mt):=λw3 hr =>
  ⟨(hr.mine _ (.inl (fo 0 aa))).trans fG.1,(hr.mine _ (.inl (fo 1 aa))).trans fG.2.1,(hr.mine _ (.inl (fo 2 aa))).trans fG.2.2.1,(hr.mine _ (.inl (fo 3 aa))).trans fG.2.2.2⟩
 (refine gq W2 Lr rfl aG (λw9 hc=>⟨.refl _ _,λe he=>?_⟩) λw9 hc K hK=>?_;(focus (rw[cp];obtain⟨c0,c1,c2,c3⟩:=hc;have he:=mem_listed he;simp[go_sem, *]at he;rcases he with rfl|rfl|rfl|rfl<;>(first|exact va (fo 0 aa)|exact va (fo 1 aa)|exact va (fo 2 aa)|exact va (fo 3 aa))));obtain⟨c0,c1,c2,c3⟩:=hc;go_simp;refine hK _ ?_;clear hK K;clear c0 c1 c2 c3 w9;try walk_nrm)
 clear Lr;refine oI hW.ok hW.i l2.ok rfl aG rfl (Obj.cells #[.bool false,.slice we 0 0,.bool false,.string bF] 222) (λw1=>by simp[go_sem];rfl) (λw1=>iY) λC o3 w3 l3 hC hCx hwC XZ=>?_;try walk_nrm
 have hCr:w3.rowIs C 222 4 (λk=>if k=0 then .bool false else if k=1 then .slice we 0 0 else if k=2 then .bool false else .string bF):=⟨_,hCx,rfl,λk hk=>by
  rcases(show k=0\/k=1\/k=2\/k=3 by omega)with rfl|rfl|rfl|rfl<;>rfl⟩
 have hnC:¬o2 C:=λh=>by have:=(l2.ok.vB C h).2;omega
 refine JR hW.ok hW.i l3.ok rfl aG C hC hCr (.bool dn) (.slice ob ol ol) (.bool mb) (.string mt) rfl rfl rfl rfl (λw1 c f=>?_) (λw1 c f=>⟨.plain,?_⟩) λw4 l4 hC4=>?_
 ·have c0:=c 0 aa;have c1:=c 1 aa;have c2:=c 2 aa;have c3:=c 3 aa;simp at c0 c1 c2 c3;clear c;simp[go_sem,c0,c1,c2,c3,f]
 ·have c0:=c 0 aa;have c1:=c 1 aa;have c2:=c 2 aa;have c3:=c 3 aa;simp at c0 c1 c2 c3;clear c;simp[go_sem,c0,c1,c2,c3,f]
 have Lq:dc T i uZ o2 w2 o3 w4:=(l3.xA.trans l4).later hnC;clear l4 hCr hCx l3;try walk_nrm
 refine aD ?_;have hS4:∀w5,di T i o3 uZ w4 w5->w5.cell? ⟨C,0,we⟩=so (.bool dn):=λw5 hr=>by rw[cell_of (hr.own C hC)];exact hC4.cell (i:=0) aa
 have rZ:∀w5,di T i o3 uZ w4 w5->w5.cell? ⟨C,1,we⟩=so (.slice ob ol ol):=λw5 hr=>by rw[cell_of (hr.own C hC)];exact hC4.cell (i:=1) aa
 (refine gq W2 hS4 rfl aG (λw9 hc=>⟨.refl _ _,λe he=>?_⟩) λw9 hc K hK=>?_;(focus (rw[cp];have he:=mem_listed he;simp[go_sem, *]at he;subst he;exact pH hC));go_simp;refine hK _ ?_;clear hK K;clear hc w9;try walk_nrm)
 refine aD ?_;have l4:dc T i rc o w o3 w4:=l2.trans ⟨di.pV yP Lq.rel,Lq.ok,Lq.more⟩;rcases iX with⟨rfl,rfl⟩|⟨rfl,B,vs,rfl,rfl,rfl,lP,Mf,hqB,ahg⟩
 ·refine jX W2 rfl aG ?_;walk_nrm;refine jX W2 rfl aG ?_;walk_nrm;refine jX W2 rfl aG ?_;walk_nrm;refine jX W2 rfl aG ?_;refine aD ?_;exact⟨rfl,trivial,rfl,rfl,rfl,aj,Lq⟩
 refine aD ?_
 (refine gq W2 rZ rfl aG (λw9 hc=>⟨.refl _ _,λe he=>?_⟩) λw9 hc K hK=>?_;(focus (rw[cp];have he:=mem_listed he;simp[go_sem, *]at he;subst he;exact pH hC));go_simp;refine hK _ ?_;clear hK K;clear hc w9;try walk_nrm)
 refine aD ?_;have ahh:qZ w4 B 0 vs:=λk hk=>by rw[hqB.cell l4.rel,hqB.cell l4.rel];exact Mf k hk
 have xR:o3 A:=Lq.more A hA;have ac4:qZ w4 A 0 (er D res (ord i)):=(cd.of_block (Lq.rel.own A hA)).mH;refine eH W2 rfl aG rfl func162 ah rfl (by simp[Act.eval,<- hlen]) rfl ((V3 hW B A vs (er D res (ord i)) ahg aa Lq.ok hqB ahh xR ac4).mono ?_);rintro v o5 w5 ⟨rfl,l5⟩;walk_nrm;by_cases heq:vs=er D res (ord i)
 ·simp only[heq,decide_true];refine aD ?_;have H2:dc T i rc o w o5 w5:=l4.trans ⟨di.pV yP l5.rel,l5.ok,l5.more⟩;have hm5:∀j,j<4->w5.cell? ⟨D.Rb,ord i*4+j,we⟩=w.cell? ⟨D.Rb,ord i*4+j,we⟩:=λj hj=>H2.rel.mine _ (.inl (fo j hj));have cG:=hold.1;rw[heq,<- qK]at cG;exact⟨.inr trivial,trivial,H2.more,λb hb=>(H2.ok.vB b hb).1,H2.rel.own,H2.rel.wg,.inl ⟨B,rfl,⟨(hm5 0 aa).trans cG.c0,(hm5 1 aa).trans cG.c1,(hm5 2 aa).trans cG.c2,(hm5 3 aa).trans cG.c3⟩,(H2.rel.mine _ (.inl CZ)).trans V4⟩⟩
 ·simp only[heq,decide_false];refine aD ?_;exact⟨rfl,trivial,rfl,rfl,rfl,λB' h=>heq (by cases h;rfl),Lq.trans l5⟩
end
abbrev link:Go.Conc.Lib.WgLink:={add:=113,done:=115,wait:=117,relMerge:=125,disable:=120,enable:=122,inBubble:=151,associate:=152,fatal:=153,uOr:=154,uAdd:=155,raceRead:=156,uLoad:=157,uStore:=158,disassociate:=159,semrelease:=160,acquire:=123,isAssociated:=164,uCas:=165,raceWrite:=166,semacquire:=167,orU64:=192,addU64:=193,loadU64:=194,storeU64:=195,casU64:=200,tWgP:=251,tUP:=116,tAssoc:=252,tWg:=216,tAU:=214,tU64:=212,tUint:=223,tU32:=102,tPU32:=255,tPAU:=283,tPU64:=285,tNoCopy:=101,tANoCopy:=115,tAlign64:=211}
def AG:Go.Conc.Lib.WgLib ak link :=
 ⟨func113,func115,func117,func125,func120,func122,func151,func152,func153,func154,func155,func156,func157,func158,func159,func160,func123,func164,func165,func166,func167,func192,func193,func194,func195,func200,underlying251,runUnderlying251,sizeOf251,isAgg251,zeroValue251,underlying116,runUnderlying116,sizeOf116,isAgg116,zeroValue116,underlying252,runUnderlying252,sizeOf252,isAgg252,zeroValue252,underlying216,runUnderlying216,sizeOf216,isAgg216,zeroValue216,underlying214,runUnderlying214,sizeOf214,isAgg214,zeroValue214,underlying212,runUnderlying212,sizeOf212,isAgg212,zeroValue212,underlying223,runUnderlying223,sizeOf223,isAgg223,zeroValue223,underlying102,runUnderlying102,sizeOf102,isAgg102,zeroValue102,underlying255,runUnderlying255,sizeOf255,isAgg255,zeroValue255,underlying283,runUnderlying283,sizeOf283,isAgg283,zeroValue283,underlying285,runUnderlying285,sizeOf285,isAgg285,zeroValue285,underlying0,runUnderlying0,sizeOf0,isAgg0,zeroValue0,underlying3,runUnderlying3,sizeOf3,isAgg3,zeroValue3,underlying4,runUnderlying4,sizeOf4,isAgg4,zeroValue4,underlying9,runUnderlying9,sizeOf9,isAgg9,zeroValue9,underlying20,runUnderlying20,sizeOf20,isAgg20,zeroValue20,underlying21,runUnderlying21,sizeOf21,isAgg21,zeroValue21,ah,ah⟩
open Go.ConcN
section
open Go.Conc.Lib Go.ConcR.Gen Go.ConcN.Gen
open Go.ConcR (KK wgBlock WgAt stA smA rd wr mk Payload DC0)
def JY(n:Nat):Frame:={(default:Frame)with fn:=n,defers:=[],mode:=.panicking [goexitEntry]}
def FF(Wg Bb C:Nat):Deferred:={target:=.fn (.func 114) #[.pointer (so ⟨Wg,0,we⟩),.pointer (so ⟨Bb,0,we⟩),.pointer (so ⟨C,0,we⟩)],args:=#[]}
def bW:Frame:=baseD 114
theorem MH(Wg Bb C:Nat)(w:ae):stepG ak false (born ak (FF Wg Bb C)) w =
  .go (G (bW.at ⟨#[.pointer (so ⟨Wg,0,we⟩),.pointer (so ⟨Bb,0,we⟩),.pointer (so ⟨C,0,we⟩),undef,undef,undef],[]⟩ [.code (Tryz.f114.body.getD .skip)]) [JY ak.funcs.size]) w #[]:=by
 simp[born,FF,stepG,unwind,callDeferred,invoke,callFunc,func114,Tryz.f114,seen,GStep.after,G,Frame.enter,Frame.at,bW,baseD,JY]
theorem MI(T:Array Value):QuitsD ak 2 0 (G {bW.at ⟨T,[]⟩ []with mode:=.returning} [JY ak.funcs.size]):=by
 refine QuitsD.ctl (g':=G (JY ak.funcs.size) []) rfl (λw=>?_) ?_
 ·simp[G,stepG,unwind,doReturn,results,Frame.at,bW,baseD,JY,func114,Tryz.f114,seen,GStep.after,goexitEntry]
 refine QuitsD.ctl (g':={G (JY ak.funcs.size) []with status:=.finished}) rfl (λw=>?_) ⟨rfl,rfl⟩;simp[G,stepG,unwind,JY,goexitEntry,Frame.catches];rfl
theorem JZ:Tryz.f116.results=#[]:=ah
theorem results_none{P:Program}{fn:Func}(h:fn.results=#[])(tm:Array Value)(w:ae):(results fn tm).run P w=.ok (.tuple #[]) w/\(results fn tm).events P w #[]=#[]:=by
 unfold results;rw[h];exact⟨iY,iY⟩
section
variable [Payload]{T:dv}{i:Nat}{V:Nat->ae->Prop}{rc:Nat->Prop}{o:aL}{w:ae}{D:nV}{ord:Nat->Nat}
theorem tailW(Wg Bb C s:Nat)(tm tm2:Array Value)(todo:List Item)(df:Deferred)(iu:df={target:=.fn (.func 115) #[],args:=#[.pointer (so ⟨Wg,0,we⟩)]})(hK:WgLive 216 Wg w/\Has C (1-1) (.int .i64 (s:Int)) w)(ops:Array Oper)(ahi:ops[2]?=so {dst:=so 5,op:=.call {callee:=.value (.func 116),args:=#[.tmp 3,.tmp 4],argTypes:=#[151,3]},type:=0,pos:= "build.go:79",after:=#[{on:=0,ground:=.data},{on:=1,ground:=.data}],guard:=we}):
  ∃m,Goes ak false (RW 216 Wg C 0 0 (1-1)) (DWs Wg rU rU C 0 1) (AtR0 ak 216 Wg C 0 0 1 (.int .i64 (s:Int))) m (G {(base 116).at ⟨tm,[]⟩ todo with mode:=.returning} (bW.at ⟨tm2,[df]⟩ (.inRegion ops [2]::[])::[JY ak.funcs.size])) w:=by
 subst iu;refine⟨27,?_⟩
 u_in kn_rely hK
 rw[stepG_leave (b:=base 116) (v:=.tuple #[]) rfl rfl func116 (results_none JZ _ _).1 (results_none JZ _ _).2];simp only[goes_go];refine⟨by u_nil,?_⟩;rw[eC,ahi];simp only[Option.bind_some,Act.put]
 u_c ar kn_rely hK
 u_c eD kn_rely hK
 u_in kn_rely hK
 rw[stepG_unwind_enter rfl func115 (nm_done link) rfl];simp only[goes_go];refine⟨by u_nil,?_⟩;walk_nrmf Tryz.f115;have hA:=@doneN _ link ak AG rU rU Wg C 0 0 1 (.int .i64 (s:Int));simp only[body_done,doneFn,bc]at hA;exact hA rfl (MI _) _ hK
theorem ZI{α:Type}{a c:Prop}{G:α->Prop}(ha:a)(h:∃m,G m)(hc:c):∃m,a/\G m/\c:=let ⟨m,h⟩:=h;⟨m,ha,h,hc⟩
def Vd(D:nV)(ord:Nat->Nat)(res:Nat->Kz.V)(k:Nat)(w:ae):Prop:=k<D.n/\w.cell? ⟨D.Rb,ord k*4+2,we⟩=so (.bool (res (ord k)).1)/\w.cell? ⟨D.Rb,ord k*4+3,we⟩=so (.string (res (ord k)).2)
def yS(D:nV)(ord:Nat->Nat)(old:Nat->Option (Nat×List Kz.V))(res:Nat->Kz.V)(k:Nat)(o:Nat->Prop)(w:ae):Prop:=k<D.n/\oK D (ord k) (old (ord k)) (er D res (ord k)) (res (ord k)) o w
theorem Ox{P:Program}{m:Bool}{R:aL->ae->ae->Prop}{Gu:aL->ae->ae->Array Event->Prop}{X:aL->aY->ae->Prop}(W:gj P m R Gu X){b:Frame}{a:Act}{k:List Item}{cs:List Frame}{o:aL}{w:ae}{ops:Array Oper}{i:Nat}{rest:List Nat}{op:Oper}{v:Value}(ho:ops[i]?=so op)(hw:Region.wanted op (yielded ops a.tmps)=true)(hk:b.kind≠.early){d:Option Tmp}(hd:op.dst=d)(hr:∀w1,R o w w1->(execOp a.eval op).run P w1=.ok (.value v) w1)(hg:∀w1,R o w w1->Gu o w1 w1 (listed P b.fn a op w1))(h:X o (G (b.at (a.put d v) (.inRegion ops rest::k)) cs) w):X o (G (b.at a (.inRegion ops (i::rest)::k)) cs) w:=by
 subst hd;exact W.step _ _ _ rfl λw1 h1=>⟨_,_,_,dP ho hw hk (hr w1 h1),hg w1 h1,by rw[cp];exact W.rely _ _ _ _ h h1⟩
theorem Tl(hW:sU T i)(hTn:T.n=D.n)(hty:T.ty=216)(AE:Quiet T 1)(hD:zU D T ord)(res:Nat->Kz.V)(old:Nat->Option (Nat×List Kz.V))(hd:ma D w)(hp:jM w)(qK:res (ord i)=ef (D.kG (ord i)) (er D res (ord i)))(JX:1<=D.kG (ord i)/\D.kG (ord i)<=5)(tS:gy ((er D res (ord i)).map (·.2))<=1000000)(hold:GV D T (ord i) (old (ord i)) w)(V4:w.cell? ⟨D.Nb,ord i,we⟩=so (.bool false))(Tk:wo w D.Rb)(ZF:wo w D.Nb)(gB:hJ T o w)(Bb C:Nat)(hBb:Quiet T Bb)(J0:w.cell? ⟨Bb,0,we⟩=so (.pointer (so ⟨D.bn,0,we⟩)))(ho:∀b,o b↔b=C)(hC:w.cell? ⟨C,0,we⟩=so (.int .i64 (ord i)))(yT:WgLive T.ty T.Wg w):
  XW ak T i (Vd D ord res) (En ak T (yS D ord old res) i) rc o (born ak (FF T.Wg Bb C)) w:=by
 have W:=cW (P:=ak) (T:=T) (i:=i) (V:=Vd D ord res) (E:=En ak T (yS D ord old res) i) rc;have hoC:o C:=(ho C).2 rfl;refine W.go rfl (λw1=>MH _ _ _ w1) ?_;simp only[Tryz.f114,bc];refine W.go rfl (λ_=>aE) ?_;refine W.go rfl (λ_=>bg) ?_;refine fF ?_;refine W.go rfl (λw1=>yR (d:={target:=.fn (.func 115) #[],args:=#[.pointer (so ⟨T.Wg,0,we⟩)]}) rfl aG iG iY iY) ?_;refine W.go rfl (λ_=>ar) ?_;refine W.go rfl (λ_=>bg) ?_;refine fF ?_;walk_nrm;have c1:∀w1,di T i o rc w w1->w1.cell? ⟨Bb,0,we⟩=so (.pointer (so ⟨D.bn,0,we⟩)):=λw1 h1=>by rw[hBb.cell h1];exact J0
 have c2:∀w1,di T i o rc w w1->w1.cell? ⟨C,0,we⟩=so (.int .i64 (ord i)):=λw1 h1=>by rw[cell_of (h1.own C hoC)];exact hC
 refine Ox W (v:=.pointer (so ⟨D.bn,0,we⟩)) rfl aG iG rfl (λw1 h1=>by simp[go_sem,c1 w1 h1]) (λw1 h1=>⟨.refl _ _,λe he=>?_⟩) ?_
 ·rw[cp];have he:=mem_listed he;simp[go_sem,c1 w1 h1]at he;subst he;exact fZ hBb
 walk_nrm;refine Ox W (v:=.int .i64 (ord i)) rfl aG iG rfl (λw1 h1=>by simp[go_sem,c2 w1 h1]) (λw1 h1=>⟨.refl _ _,λe he=>?_⟩) ?_
 ·rw[cp];have he:=mem_listed he;simp[go_sem,c2 w1 h1]at he;subst he;exact pH hoC
 walk_nrm;refine W.go rfl (λw1=>qU rfl aG iG rfl func116 ah rfl w1) ?_;simp only[List.map_toArray,aB,aJ,Act.eval];walk_nrm;refine ZE hW AE hD res (λk w _ h=>h.2) gB hd hp qK JX tS (old (ord i)) hold V4 Tk ZF _ _ λpd o' w' tm todo h1 h5 h2 h4 h3 w1 hr s r t hc=>?_;have hmR:∀j,j<4->w1.cell? ⟨D.Rb,ord i*4+j,we⟩=w'.cell? ⟨D.Rb,ord i*4+j,we⟩:=λj hj=>hr.mine _ (.inl ((hD.own i _).2 ⟨hW.i,.inl ⟨j,hj,rfl⟩⟩));have hmN:w1.cell? ⟨D.Nb,ord i,we⟩=w'.cell? ⟨D.Nb,ord i,we⟩:=hr.mine _ (.inl ((hD.own i _).2 ⟨hW.i,.inr rfl⟩));have hh:=p8 w1 (T.ch i) s r t;have fu:∀b,T.Sh b->b≠T.ch i:=λb hb=>bw ((hW.ok.sh b hb).2.2 i hW.i);have hCc:C≠T.ch i:=by have:=(gB.vB C hoC).1;have:=(hW.ok.ch i hW.i).1;omega
 have Tm:WgLive T.ty T.Wg (w1.setChan (T.ch i) 0 #[] true s r t):=gW (hh _ (bw (hW.ok.ch i hW.i).2)) (hr.wg (h4 yT));have hC':(w1.setChan (T.ch i) 0 #[] true s r t).cell? ⟨C,0,we⟩=so (.int .i64 (ord i)):=by rw[cell_of (hh C hCc),cell_of (hr.own C (h1 C hoC)),cell_of (h2 C hoC)];exact hC
 rw[hty]at Tm;have hiD:i<D.n:=hTn▸hW.i;refine⟨⟨hiD,(hmR 2 aa).trans h3.made.1,(hmR 3 aa).trans h3.made.2⟩,C,.int .i64 (ord i),?_⟩;rw[hty];refine ZI (h1 C hoC) (tailW (w:=w1.setChan (T.ch i) 0 #[] true s r t) T.Wg Bb C (ord i) tm _ todo _ rfl ⟨Tm,hC'⟩ _ aG) ?_;refine⟨hiD,oK.of h3 (λj hj=>?_) ?_ λb hb=>⟨⟨hb.1,λe=>hb.2 ((ho b).2 e)⟩,?_⟩⟩
 ·rw[cell_of (hh _ (fu _ hD.RF))];exact hmR j hj
 ·rw[cell_of (hh _ (fu _ hD.XY))];exact hmN
 ·rw[hh b (by have:=h5 b hb.1;have:=(hW.ok.ch i hW.i).1;omega)];exact hr.own b hb.1
end
end
section
open Go.Conc.Lib Go.ConcR.Gen Go.ConcN.Gen
open Go.ConcR (KK wgBlock WgAt stA smA rd wr mk Payload DC0)
def zV(D:nV)(s:Nat)(old:Option (Nat×List Kz.V))(w:ae):Prop :=
 (match old with|none=>Ow D s w|some (B,vs)=>wR D s w B vs (ef (D.kG s) vs))/\w.cell? ⟨D.Nb,s,we⟩=so (.bool false)/\wo w D.Rb/\wo w D.Nb
structure Setup(D:nV)(T:dv)(ord:Nat->Nat)(res:Nat->Kz.V)(old:Nat->Option (Nat×List Kz.V))(Bb Ob:Nat)(w0:ae):Prop where
 ok:T.OK
 n:T.n=D.n
 kz:ak.globals.size<=T.H0
 ty:T.ty=216
 q1:Quiet T 1
 dk:zU D T ord
 Ff:ma D w0
 pow:jM w0
 made:∀i,i<T.n->res (ord i)=ef (D.kG (ord i)) (er D res (ord i))
 eT:∀i,i<T.n->1<=D.kG (ord i)/\D.kG (ord i)<=5
 size:∀i,i<T.n->gy ((er D res (ord i)).map (·.2))<=1000000
 qB:Quiet T Bb
 box:w0.cell? ⟨Bb,0,we⟩=so (.pointer (so ⟨D.bn,0,we⟩))
 qO:Quiet T Ob
 order:w0.cell? ⟨D.Lb,D.Lo+1,we⟩=so (.slice (so ⟨Ob,0,we⟩) D.n D.n)
 MJ:∀k,k<D.n->w0.cell? ⟨Ob,k,we⟩=so (.int .i64 (ord k))
 olds:∀s B vs,s<D.n->old s=so (B,vs)->qZ w0 B 0 vs/\Quiet T B/\vs.length<=100000
 idle:∀k w,k<T.n->T.Idle k w->zV D (ord k) (old (ord k)) w
section
variable {T:dv}{o:aL}{w w0 w1:ae}{D:nV}{ord:Nat->Nat}{res:Nat->Kz.V}{old:Nat->Option (Nat×List Kz.V)}{Bb Ob:Nat}
theorem dU.less{o':aL}(h:dU T o w w1)(ho:∀b,o' b->o b):dU T o' w w1:=⟨h.size,λb hb=>h.own b (ho b hb),h.ro,h.wg,h.os,h.output⟩
theorem Quiet.L4{b:Nat}(q:Quiet T b)(r:dU T o w w1):w1.heap[b]?=w.heap[b]?:=r.ro b q.old q.wg q.sh q.ch
theorem Quiet.cellS{b off:Nat}(q:Quiet T b)(r:dU T o w w1):w1.cell? ⟨b,off,we⟩=w.cell? ⟨b,off,we⟩:=cell_of (q.L4 r)
theorem vH{b off:Nat}{sy:Bool}(q:Quiet T b):EvS T o ⟨.cell ⟨b,off,we⟩,false,sy⟩:=by
 refine⟨λx hx _=>.inr (.inr ⟨?_,?_⟩),aj,aj,aj⟩;all_goals
  simp only[MemAct.ofEvent,MemAct.touch?,ay]at hx;subst hx
 ·exact q.ro off
 ·rfl
variable [Payload]
theorem Setup.child(h:Setup D T ord res old Bb Ob w0){j C:Nat}(hj:j<T.n)(hr:dU T (λ_=>False) w0 w1)(yT:WgLive T.ty T.Wg w1)(hC:w1.cell? ⟨C,0,we⟩=so (.int .i64 (ord j)))(hCH:T.H0<=C/\C<w1.heap.size)(hid:T.Idle j w1)(hH:T.H0<=w1.heap.size):
  iA ak T j (Vd D ord res) (En ak T (yS D ord old res) j) ⟨born ak (FF T.Wg Bb C),λb=>b=C,λ_=>False,w1⟩:=by
 obtain⟨h1,h2,h3,h4⟩:=h.idle j w1 hj hid;have hq:∀b,Quiet T b->w1.heap[b]?=w0.heap[b]?:=λb q=>q.L4 hr;refine Tl (o:=λb=>b=C) (rc:=λ_=>False) ⟨h.ok,hj,h.kz⟩ h.n h.ty h.q1 h.dk res old (h.Ff.JQ h.dk hq) (λq Cm=>by rw[h.q1.cellS hr];exact h.pow q Cm) (h.made j hj) (h.eT j hj) (h.size j hj) ?_ h2 h3 h4 ⟨λb hb=>by rw[hb];exact hCH,hH⟩ Bb C h.qB (by rw[h.qB.cellS hr];exact h.box) (λ_=>dj) hC yT;cases ho:old (ord j) with
 |none=>rw[ho]at h1;exact h1
 |some x =>
  obtain⟨B,vs⟩:=x;rw[ho]at h1;obtain⟨k1,k2,k3⟩:=h.olds _ B vs (h.dk.rL j hj) ho;exact⟨h1,λq Cm=>by rw[k2.cellS hr,k2.cellS hr];exact k1 q Cm,k2,k3⟩
theorem J1(h:Setup D T ord res old Bb Ob w0){cZ:ft}{r0 r1 r2 lp tl:Code}(gb:Tryz.f74.body=so (.seq r0 (.seq r1 (.seq (.seq r2 (.block 0 (.loop lp))) tl))))(b:Frame)(k:List Item)(cs:List Frame)(sr:b.fn=74)(rG:b.kind≠.early)(Ex:∀o w (tm:Array Value),dU T (λ_=>False) w0 w->WgLive T.ty T.Wg w->(∀b,o b->T.H0<=b/\b<w.heap.size)->tm.size=21->tm[2]?=so (.pointer (so ⟨T.Wg,0,we⟩))->du ak T (RA ak T cZ) o (G (b.at ⟨tm,[]⟩ (.code tl::k)) cs) w):
  ∀r j,r+j=T.n->∀o w (tm:Array Value),dU T (λ_=>False) w0 w->WgLive T.ty T.Wg w->(∀b,o b->T.H0<=b/\b<w.heap.size)->T.H0<=w.heap.size->tm.size=21 ->
   tm[1]?=so (.pointer (so ⟨Bb,0,we⟩))->tm[2]?=so (.pointer (so ⟨T.Wg,0,we⟩))->tm[11]?=so (.slice (so ⟨Ob,0,we⟩) D.n D.n)->tm[12]?=so (.int .i64 D.n)->tm[13]?=so (.int .i64 j) ->
   jC ak T (Vd D ord res) (yS D ord old res) cZ r o (G (b.at ⟨tm,[]⟩ (.code lp :: .inLoop lp :: .inBlock 0 :: .code tl::k)) cs) w:=by
 have V5:=gb;simp only[Tryz.f74,ay,Code.seq.injEq,Code.block.injEq,Code.loop.injEq,true_and]at V5;obtain⟨-,-,⟨-,V5⟩,-⟩:=V5;have sD:=h.dk.ui;intro r
 induction r with
 |zero =>
  intro j hj o w tm hr yT ho hH ew t1 t2 t11 t12 t13;have uM:¬((j:Int)<(D.n:Int)):=by have:=h.n;omega
  simp only[jC];have W:=oH (P:=ak) (T:=T) (Stop:=RA ak T cZ);rw[<- V5];obtain⟨gs,rfl⟩:=l8 ew;simp only[List.range,List.range.loop,aB,aJ]at *;simp only[List.getElem?_toArray,List.getElem?_cons_succ,List.getElem?_cons_zero,ay]at t1 t2 t11 t12 t13;simp only[t1,t2,t11,t12,t13];refine W.go rfl (λ_=>aE) ?_;refine W.go rfl (λ_=>bg) ?_;refine fF ?_;refine iJ ?_;refine W.go rfl (λ_=>ar) ?_;refine W.go rfl (λ_=>aE) ?_;refine W.go rfl (λ_=>eG (t:=false) (by simp[Act.eval,uM])) ?_;simp only[aT,if_false];refine W.go rfl (λ_=>stepG_exit rfl) ?_;exact Ex o w _ hr yT ho rfl rfl
 |succ r ih =>
  intro j hj o w tm hr yT ho hH ew t1 t2 t11 t12 t13;have hjT:j<T.n:=aa;have hjD:j<D.n:=by have:=h.n;omega
  have Oq:(j:Int)<(D.n:Int):=aa;have hj0:T.n-(r+1)=j:=aa;have sL:IntKind.wrap .i64 ((j:Int)+1)=(j:Int)+1:=by rw[IntKind.wrap_i64];omega
  simp only[jC,hj0];have W:=oH (P:=ak) (T:=T) (Stop:=L6 ak T (Vd D ord res) (yS D ord old res) j (jC ak T (Vd D ord res) (yS D ord old res) cZ r));have amw:=V5;obtain⟨gs,rfl⟩:=l8 ew;simp only[List.range,List.range.loop,aB,aJ]at *;simp only[List.getElem?_toArray,List.getElem?_cons_succ,List.getElem?_cons_zero,ay]at t1 t2 t11 t12 t13;simp only[t1,t2,t11,t12,t13];rw[show(Item.code lp)=Item.code _ from congrArg Item.code V5.symm];refine W.go rfl (λ_=>aE) ?_;refine W.go rfl (λ_=>bg) ?_;refine fF ?_;refine iJ ?_;refine W.go rfl (λ_=>ar) ?_;refine W.go rfl (λ_=>aE) ?_;refine W.go rfl (λ_=>eG (t:=true) (by simp[Act.eval,Oq])) ?_;simp only[if_true];refine W.go rfl (λ_=>cD) ?_;refine W.go rfl (λ_=>aE) ?_;refine W.go rfl (λ_=>fJ) ?_;refine W.go rfl (λ_=>aE) ?_;refine W.go rfl (λ_=>bg) ?_;refine fF ?_;refine iJ ?_;have Lr:∀w3,dU T o w w3->w3.cell? ⟨Ob,j,we⟩=so (.int .i64 (ord j)):=λw3 Tn=>by rw[h.qO.cellS Tn,h.qO.cellS hr];exact h.MJ j hjD
  (refine still_at W Lr rfl aG rG (λw9 hc=>⟨.refl _ _,λe he=>?_⟩) λw9 hc K hK=>?_;(focus (rw[cp];have he:=mem_listed he;simp[go_sem, *]at he;subst he;exact vH h.qO));go_simp;refine hK _ ?_;clear hK K;clear hc w9;try walk_nrm)
  clear Lr;refine Mr rfl aG rG rfl (Obj.cells #[.int .i64 0] 3) (λw1=>iY) (λw1=>iY) λw1 mC=>?_;walk_nrm;have ahn:=hr.trans (dU.less mC (o':=λ_=>False) (λ_ x=>x.elim));have XQ:T.H0<=w1.heap.size:=aS hH mC.size;have ji:∀w2:ae,w2.heap[w1.heap.size]?=(w1.alloc (Obj.cells #[.int .i64 0] 3)).heap[w1.heap.size]?->w2.cell? ⟨w1.heap.size,0,we⟩=so (.int .i64 0)/\w2.frozen? ⟨w1.heap.size,0,we⟩=false:=λw2 e=>by
   have:(w1.alloc (Obj.cells #[.int .i64 0] 3)).heap[w1.heap.size]?=so (Obj.cells #[.int .i64 0] 3):=by show(w1.heap.push _)[w1.heap.size]?=_;simp
   rw[this]at e;simp[World.cell?,World.frozen?,e]
  refine Ms w1.heap.size (.inr rfl) rfl aG rG rfl (f:=λw2=>w2.setCell ⟨w1.heap.size,0,we⟩ (.int .i64 (ord j))) (λw2=>iH.set _ _ _ _) (λw2 e=>?_) (λw2 e ev he=>?_) λw2 ME=>?_
  ·obtain⟨c0,f0⟩:=ji w2 e;simp[go_sem,c0,f0]
  ·obtain⟨c0,f0⟩:=ji w2 e;simp[go_sem,c0,f0]at he;subst he;exact⟨_,_,_,rfl,rfl⟩
  walk_nrm;generalize hC:w1.heap.size=C at *;have hCH:T.H0<=C:=XQ;have hC2:(w2.setCell ⟨C,0,we⟩ (.int .i64 (ord j))).cell? ⟨C,0,we⟩=so (.int .i64 (ord j)):=World.cell?_setCell_same _ _ _ (ji w2 (ME.own C (.inr rfl))).1;have Tn:dU T (λb=>b≠C/\o b) w (w2.setCell ⟨C,0,we⟩ (.int .i64 (ord j))):=by
   have hO:=iH.set w2 C 0 (.int .i64 (ord j));have hA:dU T (λb=>b≠C/\o b) w1 (w1.alloc (Obj.cells #[.int .i64 0] 3)):=⟨aj,λb hb=>RowKit.Below.heap_alloc w1 _ b (by have:=(ho b hb.2).2;have:=mC.size;omega),λb h1 _ _ _=>RowKit.Below.heap_alloc w1 _ b aa,gW (RowKit.Below.heap_alloc w1 _ _ (by have:=h.ok.wg;omega)),rfl,rfl⟩;refine((dU.less mC λb hb=>hb.2).trans hA).trans ((dU.less ME λb hb=>.inl hb.2).trans ⟨cF hO.size.symm,λb hb=>hO.heap b hb.1,λb h1 _ _ _=>hO.heap b aa,gW (hO.heap _ (by have:=h.ok.wg;omega)),rfl,rfl⟩)
  have ZJ:C<(w2.setCell ⟨C,0,we⟩ (.int .i64 (ord j))).heap.size:=by
   have:=ME.size;simp[World.setCell]at this |-;omega
  generalize w2.setCell ⟨C,0,we⟩ (.int .i64 (ord j))=w3 at *;clear ji ME w2 ahn mC XQ hC w1;have ac5:=hr.trans (dU.less Tn (o':=λ_=>False) (λ_ x=>x.elim));have MK:=Tn.wg yT;have hH3:=aS hH Tn.size;have XZ:∀b,(o b\/b=C)->T.H0<=b/\b<w3.heap.size:=by
   rintro b (hb|rfl)
   ·have:=ho b hb;have:=Tn.size;omega
   ·exact⟨hCH,ZJ⟩
  refine W.go rfl (λ_=>ar) ?_;refine W.go rfl (λ_=>aE) ?_;refine W.go rfl (λ_=>bg) ?_;refine fF ?_;refine W.go rfl (λw1=>qU rfl aG rG rfl AG.f_add (nm_add link) rfl w1) ?_;rw[jr AG.f_add rfl];simp only[List.map_toArray,aB,aJ,Act.eval];walk_nrmf addFn;have hA:=@agY _ link ak T (Vd D ord res) (yS D ord old res) (jC ak T (Vd D ord res) (yS D ord old res) cZ r) (λb=>o b\/b=C) j w3;simp only[body_add,addFn,bc]at hA;refine hA AG h.ok (λb hb=>(XZ b hb).1) (λw4 hr4=>?_) w3 ⟨dU.refl w3,MK⟩;clear hA;have W2:=oH (P:=ak) (T:=T) (Stop:=SGo ak T (Vd D ord res) (yS D ord old res) j (jC ak T (Vd D ord res) (yS D ord old res) cZ r));simp only[List.getElem?_toArray,List.getElem?_cons_succ,List.getElem?_cons_zero,Option.bind_some];walk_nrm;refine W2.go rfl (λ_=>ar) ?_;refine W2.go rfl (λ_=>bg) ?_;refine fF ?_;refine iJ ?_;refine du.stop λw5 HZ=>⟨rfl,_,born ak (FF T.Wg Bb C),λb=>b=C,SW rfl aG rG (by simp[go_sem,FF]) iY rfl rfl,λb hb=>.inr hb,λw6 U4 hid=>?_,?_⟩
  ·have e6:w6.heap[C]?=w3.heap[C]?:=by rw[U4.own C (.inr rfl),HZ.own C (.inr rfl),hr4.own C (.inr rfl)]
   have ZK:=(hr4.trans HZ).trans U4;have amx:=ZK.size;exact h.child hjT (ac5.trans (dU.less ZK (o':=λ_=>False) (λ_ x=>x.elim))) (ZK.wg MK) (by rw[cell_of e6];exact hC2) ⟨hCH,aa⟩ hid aa
  have ZL:=hr4.trans HZ;have amy:=ZL.size;obtain⟨Stop,J2⟩:∃Stop:ft,∀o g w,du ak T Stop o g w↔jC ak T (Vd D ord res) (yS D ord old res) cZ r o g w:=by
   cases r
   ·exact⟨_,λ_ _ _=>dj⟩
   ·exact⟨_,λ_ _ _=>dj⟩
  rw[<- J2];have W3:=oH (P:=ak) (T:=T) (Stop:=Stop);walk_nrm;refine W3.go rfl (λ_=>ar) ?_;refine W3.go rfl (λ_=>gX) ?_;refine W3.go rfl (λ_=>bg) ?_;refine fF ?_;refine iJ ?_;refine W3.go rfl (λ_=>ar) ?_;refine W3.go rfl (λ_=>jq) ?_;rw[J2];exact ih (j+1) aa _ w5 _ (ac5.trans (dU.less ZL (o':=λ_=>False) (λ_ x=>x.elim))) (ZL.wg MK) (λb hb=>by have:=XZ b hb.1;omega) aa rfl rfl rfl rfl rfl (by simp[sL])
end
end
end Go.Proofs.Kz
