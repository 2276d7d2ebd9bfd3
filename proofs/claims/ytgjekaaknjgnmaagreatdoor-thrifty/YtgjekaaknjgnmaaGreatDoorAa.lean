/- Proved: whatever raw rules, whatever script, whatever two numbers and whatever bool are handed in, kilnkeep.Thrifty answers true, whichever way the goroutines are scheduled: an edit to what was there lets nothing be run, another lets run only what hangs on it, and what is not run is as it was. Conditions: those of the given card, Rows.ThriftyCardSaid; none besides. (Shortened by program; readable in wip.) -/
import Derived.Conc.Own
import Derived.KernelRfl
import Derived.Laws.Sem
set_option linter.all false
set_option maxHeartbeats 40000000
set_option maxRecDepth 200000
abbrev bL:=(Nat->Prop)->Go.Goroutine->Go.World->Prop
abbrev ae:=Go.World
abbrev af:=ByteArray
abbrev aZ:=Go.Goroutine
open Go in
theorem aa{p:Prop}(h:p:=by omega):p:=h
open Go in
theorem ak{p:Prop}(h:p:=by rfl):p:=h
open Go in
theorem ai{p:Prop}(h:p:=by kernel_rfl):p:=h
open Go in
theorem ar{p:Prop}(h:p:=by simp):p:=h
open Go in
theorem aK{p:Prop}(h:p:=by simp[Act.eval]):p:=h
open Go in
theorem eP{p:Prop}(h:p:=by simp;omega):p:=h
open Go in
theorem dR{p:Prop}(h:p:=by first|rfl|trivial):p:=h
open Go in
theorem eB{p:Prop}(h:p:=by decide):p:=h
open Go in
theorem anZ{p:Prop}(h:p:=by assumption):p:=h
open Go in
theorem nf{p:Prop}(h:p:=by simp[Op.operands]):p:=h
open Go in
theorem fS{p:Prop}(h:p:=by simp[go_sem]):p:=h
abbrev ig:=@Array.all_eq_true
abbrev jw:=@Array.all_eq_true'
abbrev gP:=@Array.any_eq_true'
abbrev dF:=@Array.append_assoc
abbrev cv:=@Array.append_empty
abbrev ja:=@Array.ext
abbrev jr:=@Array.ext_getElem?
abbrev iW:=@Array.extract_eq_self_of_le
abbrev jq:=@Array.foldl_toList
abbrev fR:=@Array.forIn_toList
abbrev bU:=@Array.getD_eq_getD_getElem?
abbrev gh:=@Array.getElem?_append_right
abbrev aO:=@Array.getElem?_eq_getElem
abbrev cH:=@Array.getElem?_eq_none
abbrev aad:=@Array.getElem?_eq_some_iff
abbrev aL:=@Array.getElem?_map
abbrev aS:=@Array.getElem?_modify
abbrev fG:=@Array.getElem?_push
abbrev dt:=@Array.getElem?_push_lt
abbrev gG:=@Array.getElem?_push_size
abbrev aU:=@Array.getElem?_setIfInBounds_ne
abbrev cj:=@Array.getElem?_setIfInBounds_self_of_lt
abbrev jN:=@Array.getElem_mem
abbrev ft:=@Array.mapM_eq_mapM_toList
abbrev gl:=@Array.map_append
abbrev eA:=@Array.map_congr_left
abbrev ix:=@Array.map_map
abbrev jW:=@Array.map_setIfInBounds
abbrev aaT:=@Array.mem_append
abbrev aaS:=@Array.mem_iff_getElem
abbrev fg:=@Array.mem_of_getElem?
abbrev fx:=@Array.size_replicate
abbrev cz:=@Array.toList_map
abbrev bf:=@Bool.and_eq_true
abbrev en:=@Bool.eq_iff_iff
abbrev aQ:=@Bool.false_eq_true
abbrev eE:=@Bool.not_eq_true'
abbrev eI:=@Classical.axiomOfChoice
abbrev aN:=@Classical.byContradiction
abbrev eu:=@Go.Frame.finish_at
abbrev cw:=@Go.Conc.Goes.stop
abbrev da:=@Iff.rfl
abbrev fK:=@Int.le_refl
abbrev gQ:=@Int.lt_or_eq_of_le
abbrev gC:=@Int.toNat_of_nonneg
abbrev aaA:=@List.all_eq_true
abbrev cy:=@List.cons.injEq
abbrev aan:=@List.contains_iff_mem
abbrev gJ:=@List.eq_of_mem_replicate
abbrev fY:=@List.ext_getElem?
abbrev gV:=@List.filter_append_perm
abbrev jk:=@List.getD_eq_getElem?_getD
abbrev jG:=@List.getElem?_append_left
abbrev ji:=@List.getElem?_append_right
abbrev bm:=@List.getElem?_eq_getElem
abbrev aao:=@List.getElem?_eq_some_iff
abbrev dO:=@List.getElem?_map
abbrev kg:=@List.getElem?_replicate
abbrev fD:=@List.getElem?_take_of_lt
abbrev iE:=@List.getElem?_toArray
abbrev dI:=@List.getElem_append_left
abbrev aG:=@List.getElem_mem
abbrev a8:=@List.getElem_of_mem
abbrev gb:=@List.getElem_take
abbrev jy:=@List.length_append
abbrev aal:=@List.length_eq_zero_iff
abbrev fi:=@List.length_filter_le
abbrev bT:=@List.length_map
abbrev aaG:=@List.length_pos_iff
abbrev iv:=@List.length_pos_of_mem
abbrev kV:=@List.length_singleton
abbrev iZ:=@List.length_take_le
abbrev eY:=@List.map_append
abbrev bG:=@List.map_congr_left
abbrev aC:=@List.map_cons
abbrev aP:=@List.map_nil
abbrev fN:=@List.mem_append
abbrev bM:=@List.mem_cons
abbrev bE:=@List.mem_cons_of_mem
abbrev jB:=@List.mem_cons_self
abbrev aay:=@List.mem_filter
abbrev aag:=@List.mem_map
abbrev gE:=@List.mem_map_of_mem
abbrev jH:=@List.mem_of_find?_eq_some
abbrev kZ:=@List.mem_range
abbrev aaB:=@List.nodup_append
abbrev db:=@List.nodup_cons
abbrev iA:=@List.nodup_range
abbrev dh:=@List.not_mem_nil
abbrev aaj:=@List.pairwise_iff_getElem
abbrev dp:=@List.perm_ext_iff_of_nodup
abbrev iB:=@List.range'_succ
abbrev iO:=@List.range_eq_range'
abbrev cC:=@List.take_length
abbrev bV:=@List.take_of_length_le
abbrev dS:=@Nat.add_assoc
abbrev bg:=@Nat.eq_zero_or_pos
abbrev bI:=@Nat.le_of_eq
abbrev kF:=@Nat.le_of_lt
abbrev de:=@Nat.le_of_not_lt
abbrev ah:=@Nat.le_refl
abbrev aY:=@Nat.le_trans
abbrev bz:=@Nat.lt_of_lt_of_le
abbrev fA:=@Nat.lt_of_not_le
abbrev cd:=@Nat.lt_or_ge
abbrev bJ:=@Nat.lt_succ_self
abbrev kE:=@Nat.lt_trans
abbrev fZ:=@Nat.lt_trichotomy
abbrev fj:=@Nat.mod_two_eq_zero_or_one
abbrev iQ:=@Nat.mul_le_mul_right
abbrev er:=@Nat.not_lt_zero
abbrev bt:=@Nat.zero_add
abbrev aV:=@Nat.zero_le
abbrev bq:=@Ne.symm
abbrev aam:=@Option.bind_eq_some_iff
abbrev bu:=@Option.getD_some
abbrev aaf:=@Option.map_eq_some_iff
abbrev aJ:=@Option.map_some
abbrev aT:=@Option.some.inj
abbrev aA:=@Option.some.injEq
abbrev bB:=@Prod.mk.injEq
abbrev fX:=@Std.Legacy.Range.forIn_eq_forIn_range'
abbrev im:=@UInt8.le_antisymm
abbrev aaz:=@UInt8.not_lt
abbrev dq:=@decide_eq_false
abbrev cW:=@decide_eq_true
abbrev eL:=@getElem!_pos
abbrev dP:=@of_decide_eq_true
abbrev fh:=@Go.Conc.stepG_block
abbrev eC:=@Go.Conc.stepG_cond
abbrev ew:=@Go.Conc.stepG_end
abbrev gw:=@Go.Conc.stepG_inBlock
abbrev iM:=@Go.Conc.stepG_inLoop
abbrev jL:=@Go.Conc.stepG_loop
abbrev jM:=@Go.Conc.stepG_none
abbrev bh:=@Go.Conc.stepG_region
abbrev au:=@Go.Conc.stepG_region_end
abbrev aE:=@Go.Conc.stepG_seq
abbrev cB:=@Go.Conc.stepG_skip
abbrev eG:=@Go.Conc.stepG_value
namespace Go.Ren
open _root_.Option renaming some → so,none → we
structure Rn where
 b:Nat->Nat
 h:Nat->Nat
 ty:Nat->Nat
 m:String->String
def addr(f:Rn)(a:Addr):Addr:={a with block:=f.b a.block}
def tL(f:Rn):Fn->Fn
 | .func n=>.func (f.h n)
 | .via t path n p=>.via (f.ty t) path n p
 | .method s=>.method (f.m s)
 | .methodOf t s=>.methodOf t (f.m s)
 | .yield l=>.yield (f.ty l)
def val(f:Rn):Value->Value
 | .bool b=>.bool b
 | .int k n=>.int k n
 | .float k b=>.float k b
 | .complex k x y=>.complex k x y
 | .string s=>.string s
 | .pointer a=>.pointer (a.map (addr f))
 | .slice a l c=>.slice (a.map (addr f)) l c
 | .map r=>.map (r.map f.b)
 | .chan r=>.chan (r.map f.b)
 | .func fn first captured=>.func (tL f fn) (first.map (val f)) (captured.map (val f))
 | .nilFunc=>.nilFunc
 | .iface t v=>.iface t (val f v)
 | .nilIface=>.nilIface
 | .agg cs=>.agg (cs.map (val f))
 | .tuple vs=>.tuple (vs.map (val f))
section
variable (f:Rn)
@[simp] theorem cI(b:Bool):val f (.bool b)=.bool b:=by simp[val]
@[simp] theorem cQ(k:IntKind)(n:Int):val f (.int k n)=.int k n:=by simp[val]
@[simp] theorem cg(k:FloatKind)(n:Nat):val f (.float k n)=.float k n:=by simp[val]
@[simp] theorem bH(k:FloatKind)(n m:Nat):val f (.complex k n m)=.complex k n m:=by simp[val]
@[simp] theorem bN(s:af):val f (.string s)=.string s:=by simp[val]
@[simp] theorem bj(a:Option Addr):val f (.pointer a)=.pointer (a.map (addr f)):=by simp[val]
@[simp] theorem bF(a:Option Addr)(l c:Nat):val f (.slice a l c)=.slice (a.map (addr f)) l c:=by simp[val]
@[simp] theorem cV(r:Option Nat):val f (.map r)=.map (r.map f.b):=by simp[val]
@[simp] theorem cE(r:Option Nat):val f (.chan r)=.chan (r.map f.b):=by simp[val]
@[simp] theorem cF(g:Fn)(a b:Array Value):val f (.func g a b)=.func (tL f g) (a.map (val f)) (b.map (val f)):=by simp[val]
@[simp] theorem bK:val f .nilFunc=.nilFunc:=by simp[val]
@[simp] theorem b6(t:TypeId)(v:Value):val f (.iface t v)=.iface t (val f v):=by simp[val]
@[simp] theorem bw:val f .nilIface=.nilIface:=by simp[val]
@[simp] theorem cR(cs:Array Value):val f (.agg cs)=.agg (cs.map (val f)):=by simp[val]
@[simp] theorem b8(cs:Array Value):val f (.tuple cs)=.tuple (cs.map (val f)):=by simp[val]
@[simp] theorem V7(b o:Nat)(s:Option Nat):addr f ⟨b,o,s⟩=⟨f.b b,o,s⟩:=rfl
@[simp] theorem wL(a:Addr):(addr f a).block=f.b a.block:=rfl
@[simp] theorem BM(a:Addr):(addr f a).off=a.off:=rfl
@[simp] theorem O1(a:Addr):(addr f a).spot=a.spot:=rfl
def kG(a:Addr)(n:Nat):addr f (a.add n)=(addr f a).add n:=by
 unfold Addr.add addr;split<;>rfl
def kI(v:Value):(val f v).cells=v.cells.map (val f):=by
 cases v<;>simp[Value.cells]
def lB:val f undef=undef:=by simp[undef]
end
def entry(f:Rn)(e:MapEntry):MapEntry:={e with key:=val f e.key,val:=val f e.val}
def obj(f:Rn):Obj->Obj
 | .cells c e z=>.cells (c.map (val f)) e z
 | .pending c e=>.pending (c.map (val f)) e
 | .view a t=>.view (addr f a) t
 | .number a l=>.number (addr f a) l
 | .map es c=>.map (es.map (entry f)) c
 | .chan cap buf cl s r t=>.chan cap (buf.map (val f)) cl s r t
 | .stringIter s p=>.stringIter s p
 | .mapIter m s x n=>.mapIter (m.map f.b) s x n
 |o=>o
def target(f:Rn):Target->Target
 | .fn fn captured=>.fn (tL f fn) (captured.map (val f))
 |t=>t
def deferred(f:Rn)(d:Deferred):Deferred:={target:=target f d.target,args:=d.args.map (val f)}
def Le(f:Rn):Mark->Mark
 | .acquire a=>.acquire (addr f a)
 | .release a=>.release (addr f a)
 | .releaseMerge a=>.releaseMerge (addr f a)
 | .read a=>.read (addr f a)
 | .write a=>.write (addr f a)
 | .extern n=>.extern (f.h n)
 |m=>m
def Lg:Mark->Bool
 | .extern _|.noRoom=>true
 |_=>false
def fl:Obj->Bool
 | .pending ..=>true
 |_=>false
def acO:Sys->Bool
 | .env=>true
 |_=>false
def oY:Halt->Bool
 | .unsupported (.initOrder _)=>false
 | .unsupported _=>true
 | .stuck _=>true
 |_=>false
def Rel(P:Program)(f:Rn){α β:Type}(A:α->β->Prop):Sem α->Sem β->Prop
 | .pure a,.pure a'=>A a a'
 | .load m x k,.load m' x' k'=>m'=m/\x'=addr f x/\∀v,Rel P f A (k v) (k' (val f v))
 | .store m x v k,.store m' x' v' k'=>m'=m/\x'=addr f x/\v'=val f v/\Rel P f A k k'
 | .new o k,.new o' k'=>o'=obj f o/\fl o=false/\∀r,Rel P f A (k r) (k' (f.b r))
 | .shape r k,.shape r' k'=>r'=f.b r/\∀x,Rel P f A (k x) (k' x)
 | .freeze a n k,.freeze a' n' k'=>a'=addr f a/\n'=n/\Rel P f A k k'
 | .frozen a k,.frozen a' k'=>a'=addr f a/\∀b,Rel P f A (k b) (k' b)
 | .getObj r k,.getObj r' k'=>r'=f.b r/\∀o,Rel P f A (k o) (k' (obj f o))
 | .setObj r o k,.setObj r' o' k'=>r'=f.b r/\o'=obj f o/\fl o=false/\Rel P f A k k'
 | .choose q k,.choose q' k'=>q'=q/\∀n,Rel P f A (k n) (k' n)
 | .sys c k,.sys c' k'=>c'=c/\acO c=true/\∀r,Rel P f A (k r) (k' r)
 | .program k,.program k'=>Rel P f A (k P) (k' P)
 | .mark m k,.mark m' k'=>m'=Le f m/\Lg m=true/\Rel P f A k k'
 | .halt (.panic _),_=>True
 | .halt h,_=>oY h=true
 |_,_=>False
section
variable {P:Program}{f:Rn}{α β γ δ:Type}{A:α->β->Prop}{B:γ->δ->Prop}
def aD{a:α}{b:β}(h:A a b):Rel P f A (.pure a) (.pure b):=h
def tM{h:Halt}{s:Sem β}(hn:oY h=true):Rel P f A (.halt h) s:=by
 cases h<;>first|exact Bool.noConfusion hn|(cases s<;>exact hn)
def aF{ZG:String}{s:Sem β}:Rel P f A (stuck ZG) s:=tM rfl
def bc{u:Unsupported}{s:Sem β}(h:oY (.unsupported u)=true:=by rfl):Rel P f A (unsupported u) s:=tM h
def tN{v:Value}:Rel P f A (goPanic v) (goPanic (val f v)):=by simp[goPanic,Rel]
def aj:∀{s:Sem α} {s':Sem β} {k:α->Sem γ} {k':β->Sem δ},Rel P f A s s'->(∀a b,A a b->Rel P f B (k a) (k' b))->Rel P f B (s.bind k) (s'.bind k'):=by
 intro s
 induction s with
 |pure a=>intro s' k k' h hk;cases s'<;>simp only[Rel]at h;exact hk _ _ h
 |load m x rW ih=>intro s' k k' h hk;cases s'<;>simp only[Rel]at h;exact⟨h.1,h.2.1,λv=>ih v (h.2.2 v) hk⟩
 |store m x v rW ih=>intro s' k k' h hk;cases s'<;>simp only[Rel]at h;exact⟨h.1,h.2.1,h.2.2.1,ih h.2.2.2 hk⟩
 |new o rW ih=>intro s' k k' h hk;cases s'<;>simp only[Rel]at h;exact⟨h.1,h.2.1,λv=>ih v (h.2.2 v) hk⟩
 |shape r rW ih=>intro s' k k' h hk;cases s'<;>simp only[Rel]at h;exact⟨h.1,λv=>ih v (h.2 v) hk⟩
 |freeze a n rW ih=>intro s' k k' h hk;cases s'<;>simp only[Rel]at h;exact⟨h.1,h.2.1,ih h.2.2 hk⟩
 |frozen a rW ih=>intro s' k k' h hk;cases s'<;>simp only[Rel]at h;exact⟨h.1,λv=>ih v (h.2 v) hk⟩
 |getObj r rW ih=>intro s' k k' h hk;cases s'<;>simp only[Rel]at h;exact⟨h.1,λv=>ih v (h.2 v) hk⟩
 |setObj r o rW ih=>intro s' k k' h hk;cases s'<;>simp only[Rel]at h;exact⟨h.1,h.2.1,h.2.2.1,ih h.2.2.2 hk⟩
 |choose q rW ih=>intro s' k k' h hk;cases s'<;>simp only[Rel]at h;exact⟨h.1,λv=>ih v (h.2 v) hk⟩
 |sys c rW ih=>intro s' k k' h hk;cases s'<;>simp only[Rel]at h;exact⟨h.1,h.2.1,λv=>ih v (h.2.2 v) hk⟩
 |program rW ih=>intro s' k k' h hk;cases s'<;>simp only[Rel]at h;exact ih P h hk
 |mark m rW ih=>intro s' k k' h hk;cases s'<;>simp only[Rel]at h;exact⟨h.1,h.2.1,ih h.2.2 hk⟩
 |halt ahA =>
  intro s' k k' h hk;cases ahA with
  |panic v=>simp only[Sem.bind];cases s'.bind k'<;>simp only[Rel]
  |_=>exact tM (by cases s'<;>exact h)
def HR{A':α->β->Prop}:∀{s:Sem α} {s':Sem β},Rel P f A s s'->(∀a b,A a b->A' a b)->Rel P f A' s s':=by
 intro s s' h hA;have:=aj (B:=A') (k:=.pure) (k':=.pure) h (λa b h=>hA a b h);have e1:∀{α:Type} (s:Sem α),s.bind .pure=s:=by
  intro α s
  induction s with
  |frozen a k ih=>simp only[Sem.bind];congr 1;funext b;exact ih b
  |_=>simp_all[Sem.bind]
 rwa[e1,e1]at this
end
structure jC where
 K:Nat->Prop
 φ:Nat->Nat
 L:Nat->Prop
 G:Nat
structure E1(F:jC):Prop where
 high:∀r,F.K r->F.G<=r->F.G<=F.φ r
 vars:(∀r,r<F.G->F.K r/\F.φ r=r)\/((∀r,r<F.G->¬F.K r)/\F.G≠1)
structure jC.has(F:jC)(f:Rn):Prop where
 inj:∀x y,f.b x=f.b y->x=y
 at_:∀r,F.K r->f.b r=F.φ r
 fn:∀n,F.L n->f.h n=n
 kp:∀r,f.b r<F.G↔r<F.G
structure WR(F:jC)(wl wr:ae):Prop where
 here:∀r,F.K r->r<wl.heap.size
 there:∀r,F.K r->F.φ r<wr.heap.size
 inj:∀r s,F.K r->F.K s->F.φ r=F.φ s->r=s
 tO:∀r,F.K r->∀f,F.has f->wr.heap[F.φ r]?=(wl.heap[r]?).map (obj f)
 RF:∀r,F.K r->∀o,wl.heap[r]?=so o->fl o=false
 os:wr.os=wl.os
 output:wr.output=wl.output
 tape:wr.tape=wl.tape
 drawn:wr.drawn=wl.drawn
 A3:E1 F
 Gc:F.G<=wr.heap.size
 Ed:F.G<=wl.heap.size
section
variable {F:jC}{wl wr:ae}
def WR.two(W:WR F wl wr):∃f g:Rn,F.has f/\F.has g/\(∀r,¬F.K r->f.b r≠g.b r)/\(∀n,¬F.L n->f.h n≠g.h n)/\(∀t,f.ty t≠g.ty t)/\(∀s,f.m s≠g.m s):=by
 classical
 have hG:=W.Gc;have low:∀x,F.K x->x<F.G->F.φ x=x:=λx hx cx=>W.A3.vars.elim (λh=>(h x cx).2) (λh=>absurd hx (h.1 x cx));have up:=W.A3.high;have we:∀x,¬F.K x->x<F.G->(∀y,F.K y->F.G<=y)/\F.G≠1:=λx hx cx=>W.A3.vars.elim (λh=>absurd (h x cx).1 hx) (λh=>⟨λy hy=>de λhl=>h.1 y hl hy,h.2⟩);refine⟨⟨λx=>if F.K x then F.φ x else if x<F.G then x else wr.heap.size+x,λn=>n,λn=>n,λs=>s⟩,⟨λx=>if F.K x then F.φ x else if x<F.G then(if x+1=F.G then 0 else x+1)else wr.heap.size+1+x,λn=>if F.L n then n else n+1,λn=>n+1,λs=>s ++ "x"⟩,⟨?_,?_,?_,?_⟩,⟨?_,?_,?_,?_⟩,?_,?_,?_,?_⟩
 ·intro x y h;by_cases hx:F.K x<;>by_cases hy:F.K y<;>simp only[hx,hy,if_true,if_false]at h
  ·exact W.inj _ _ hx hy h
  ·have:=W.there _ hx;split at h
   ·have h1:=(we y hy ‹_›).1 x hx;have:=up x hx h1;omega
   ·omega
  ·have:=W.there _ hy;split at h
   ·have h1:=(we x hx ‹_›).1 y hy;have:=up y hy h1;omega
   ·omega
  ·split at h<;>split at h<;>omega
 ·intro r h;simp[h]
 ·intro n h;rfl
 ·intro r;by_cases hr:F.K r
  ·simp only[hr,if_true];constructor
   ·intro h;exact fA λhle=>by have:=up r hr hle;omega
   ·intro h;rw[low r hr h];exact h
  ·simp only[hr,if_false];split<;>omega
 ·intro x y h;by_cases hx:F.K x<;>by_cases hy:F.K y<;>simp only[hx,hy,if_true,if_false]at h
  ·exact W.inj _ _ hx hy h
  ·have:=W.there _ hx;split at h
   ·have h1:=(we y hy ‹_›).1 x hx;have:=up x hx h1;split at h<;>omega
   ·omega
  ·have:=W.there _ hy;split at h
   ·have h1:=(we x hx ‹_›).1 y hy;have:=up y hy h1;split at h<;>omega
   ·omega
  ·split at h<;>split at h<;>(try split at h)<;>(try split at h)<;>omega
 ·intro r h;simp[h]
 ·intro n h;simp[h]
 ·intro r;by_cases hr:F.K r
  ·simp only[hr,if_true];constructor
   ·intro h;exact fA λhle=>by have:=up r hr hle;omega
   ·intro h;rw[low r hr h];exact h
  ·simp only[hr,if_false];split
   ·split<;>omega
   ·omega
 ·intro r h;simp only[h,if_false];split
  ·have:=(we r h ‹_›).2;split<;>omega
  ·omega
 ·intro n h;simp only[h,if_false];omega
 ·intro t;simp only[];omega
 ·intro s h;have:=congrArg String.length h;simp at this
def WR.acP(W:WR F wl wr){r r':Nat}(h:∀f,F.has f->r'=f.b r):F.K r/\r'=F.φ r:=by
 have⟨f,g,hf,hg,hb,_,_⟩:=W.two;have hK:F.K r:=aN λhn=>hb r hn ((h f hf).symm.trans (h g hg));exact⟨hK,(h f hf).trans (hf.at_ r hK)⟩
def WR.some(W:WR F wl wr):∃f,F.has f:=let ⟨f,_,hf,_⟩:=W.two;⟨f,hf⟩
def WR.put(W:WR F wl wr){b:Nat}{o o':Obj}{aX p9:ae}(hb:F.K b)(ho:∀f,F.has f->o'=obj f o)(hp:fl o=false)(zl:aX.heap.size=wl.heap.size)(l1:aX.heap[b]?=.some o)(l2:∀r,r≠b->aX.heap[r]?=wl.heap[r]?)(zr:p9.heap.size=wr.heap.size)(r1:p9.heap[F.φ b]?=.some o')(r2:∀r,r≠F.φ b->p9.heap[r]?=wr.heap[r]?)(os:p9.os=aX.os)(ou:p9.output=aX.output)(ta:p9.tape=aX.tape)(dr:p9.drawn=aX.drawn):WR F aX p9 where
 here r h:=by rw[zl];exact W.here r h
 there r h:=by rw[zr];exact W.there r h
 inj:=W.inj
 tO r h f hf:=by
  by_cases e:r=b
  ·subst e;rw[r1,l1,ho f hf];rfl
  ·rw[l2 r e,r2 _ (λh'=>e (W.inj _ _ h hb h'))];exact W.tO r h f hf
 RF r h x hx:=by
  by_cases e:r=b
  ·subst e;rw[l1]at hx;cases hx;exact hp
  ·rw[l2 r e]at hx;exact W.RF r h x hx
 os:=os
 output:=ou
 tape:=ta
 drawn:=dr
 A3:=W.A3
 Gc:=by rw[zr];exact W.Gc
 Ed:=by rw[zl];exact W.Ed
end
def jC.add(F:jC)(n n':Nat):jC:={F with K:=λr=>F.K r\/r=n,φ:=λr=>if r=n then n' else F.φ r}
def jC.Gd{F:jC}{n n':Nat}(hn:¬F.K n){f:Rn}(h:(F.add n n').has f):F.has f :=
 ⟨h.inj,λr hr=>by
  have:=h.at_ r (.inl hr);simp only[jC.add]at this;rwa[if_neg (by rintro rfl;exact hn hr)]at this,h.fn,h.kp⟩
def jC.V8{F:jC}{n n':Nat}{f:Rn}(h:(F.add n n').has f):f.b n=n':=by
 have:=h.at_ n (.inr rfl);simpa[jC.add] using this
def WR.alloc{F:jC}{wl wr:ae}(W:WR F wl wr){o o':Obj}(ho:∀f,F.has f->o'=obj f o)(hp:fl o=false):
  WR (F.add wl.heap.size wr.heap.size) {wl with heap:=wl.heap.push o} {wr with heap:=wr.heap.push o'} where
 here r h:=by
  rcases h with h|rfl
  ·have:=W.here r h;simp;omega
  ·simp
 there r h:=by
  simp only[jC.add];rcases h with h|rfl
  ·have:=W.here r h;have:=W.there r h;simp;split<;>omega
  ·simp
 inj r s h k e:=by
  simp only[jC.add]at e;rcases h with h|rfl<;>rcases k with k|rfl
  ·have h1:=W.here r h;have h2:=W.here s k;rw[if_neg aa,if_neg aa]at e;exact W.inj _ _ h k e
  ·have h1:=W.here r h;have h2:=W.there r h;rw[if_neg aa,if_pos rfl]at e;omega
  ·have h1:=W.here s k;have h2:=W.there s k;rw[if_pos rfl,if_neg aa]at e;omega
  ·rfl
 tO r h f hf:=by
  have hK:¬F.K wl.heap.size:=λh=>by have:=W.here _ h;omega
  have VG:=jC.Gd hK hf;rcases h with h|rfl
  ·have h1:=W.here r h;have h2:=W.there r h;have e:=W.tO r h f VG;simp only[jC.add];rw[if_neg aa,dt h2,dt h1];rw[aO h2,aO h1]at e;exact e
  ·simp only[jC.add,if_true];rw[gG,gG,ho f VG];rfl
 RF r h x hx:=by
  rcases h with h|rfl
  ·have h1:=W.here r h;rw[dt h1]at hx;exact W.RF r h x (by rw[aO h1];exact hx)
  ·rw[gG]at hx;cases hx;exact hp
 os:=W.os
 output:=W.output
 tape:=W.tape
 drawn:=W.drawn
 A3:=by
  have h1:=W.Ed;refine⟨λr hr cx=>?_,?_⟩
  ·simp only[jC.add]at cx |-;split
   ·exact W.Gc
   ·rcases hr with hr|hr
    ·exact W.A3.high r hr cx
    ·exact absurd hr ‹_›
  ·rcases W.A3.vars with h|h
   ·left;intro r hr;have:=h r hr;refine⟨.inl this.1,?_⟩;simp only[jC.add]at hr |-;rw[if_neg aa];exact this.2
   ·right;refine⟨λr hr hk=>?_,h.2⟩;rcases hk with hk|hk
    ·exact h.1 r hr hk
    ·simp only[jC.add]at hr;omega
 Gc:=by have:=W.Gc;simp[jC.add];omega
 Ed:=by have:=W.Ed;simp[jC.add];omega
structure fu(F F':jC)(wl wr aX p9:ae):Prop where
 K:∀r,F.K r->F'.K r
 φ:∀r,F.K r->F'.φ r=F.φ r
 L:F'.L=F.L
 wM:∀r,F'.K r->F.K r\/(wl.heap.size<=r/\wr.heap.size<=F'.φ r)
 BN:wl.heap.size<=aX.heap.size
 size:wr.heap.size<=p9.heap.size
 mine:∀b,wr.heap.size<=b->b<p9.heap.size->∃r,F'.K r/\F'.φ r=b
 rest:∀b,(∀r,F'.K r->F'.φ r≠b)->p9.heap[b]?=wr.heap[b]?
 G:F'.G=F.G
 A3:E1 F->E1 F'
 R7:aX.os=wl.os
 BO:aX.output=wl.output
 same:wl.heap.size=wr.heap.size->aX.heap.size=p9.heap.size/\∀r,F'.K r->F.K r\/F'.φ r=r
def fu.refl(F:jC)(wl wr:ae):fu F F wl wr wl wr :=
 ⟨λ_ h=>h,λ_ _=>rfl,rfl,λ_ h=>.inl h,ah _,ah _,λ_ h k=>aa,λ_ _=>rfl,rfl,id,rfl,rfl,λh=>⟨h,λ_ k=>.inl k⟩⟩
def fu.trans{F F₁ acQ:jC}{wl wr wl₁ wr₁ Yt Yu:ae}(h:fu F F₁ wl wr wl₁ wr₁)(k:fu F₁ acQ wl₁ wr₁ Yt Yu):fu F acQ wl wr Yt Yu where
 K r x:=k.K r (h.K r x)
 φ r x:=(k.φ r (h.K r x)).trans (h.φ r x)
 L:=k.L.trans h.L
 wM r x:=by
  rcases k.wM r x with y|⟨y,z⟩
  ·rcases h.wM r y with a|⟨a,b⟩
   ·exact .inl a
   ·exact .inr ⟨a,by rw[k.φ r y];exact b⟩
  ·have:=h.BN;have:=h.size;exact .inr ⟨aa,aa⟩
 BN:=aY h.BN k.BN
 size:=aY h.size k.size
 mine b x y:=by
  by_cases hb:b<wr₁.heap.size
  ·have⟨r,a,c⟩:=h.mine b x hb;exact⟨r,k.K r a,by rw[k.φ r a];exact c⟩
  ·exact k.mine b aa y
 rest b x:=by
  rw[k.rest b x];exact h.rest b λr hr=>by
   have:=x r (k.K r hr);rwa[k.φ r hr]at this
 G:=k.G.trans h.G
 A3 x:=k.A3 (h.A3 x)
 R7:=k.R7.trans h.R7
 BO:=k.BO.trans h.BO
 same e:=⟨(k.same (h.same e).1).1,λr hr=>by
  rcases(k.same (h.same e).1).2 r hr with x|x
  ·rcases(h.same e).2 r x with y|y
   ·exact .inl y
   ·exact .inr ((k.φ r x).trans y)
  ·exact .inr x⟩
def xD(F:jC)(e:Event):Prop :=
 match e.loc with
 | .cell a=>∃r,F.K r/\F.φ r=a.block
 | .obj b=>∃r,F.K r/\F.φ r=b
 | .mark m=>Lg m=true
 |_=>True
def RG(F:jC)(es mh:Array Event):Prop:=∃new:Array Event,mh=es++new/\∀e∈new,xD F e
def RG.refl(F:jC)(es:Array Event):RG F es es:=⟨#[],ar,ar⟩
def RG.push{F:jC}{es mh:Array Event}{e:Event}(h:RG F (es.push e) mh)(he:xD F e):RG F es mh:=by
 obtain⟨n,rfl,hn⟩:=h;refine⟨#[e]++n,by rw[<- dF,Array.append_singleton],?_⟩;intro x hx;rcases aaT.1 hx with hx|hx
 ·simp at hx;subst hx;exact he
 ·exact hn x hx
def RG.app{F:jC}{es mh m:Array Event}(h:RG F (es++m) mh)(he:∀e∈m,xD F e):RG F es mh:=by
 obtain⟨n,rfl,hn⟩:=h;refine⟨m++n,by simp[Array.append_assoc],?_⟩;intro x hx;rcases aaT.1 hx with hx|hx
 ·exact he x hx
 ·exact hn x hx
section
variable (f:Rn)
def E2(v:Value):(val f v).bytes?=v.bytes?:=by cases v<;>simp[Value.bytes?]
def HT(v:Value)(bs:List UInt8):(val f v).ofBytes bs=v.ofBytes bs:=by cases v<;>simp[Value.ofBytes]
def vW{BP v:Value}{bs:List UInt8}(h:BP.ofBytes bs=so v):val f v=v:=by
 cases BP<;>simp only[Value.ofBytes]at h
 case bool=>split at h<;>first|(cases h;simp;done)|cases h
 case int=>split at h<;>first|(cases h;simp;done)|cases h
 case float=>split at h<;>first|(cases h;simp;done)|cases h
 case complex=>split at h<;>first|(cases h;simp;done)|cases h
 all_goals cases h
def Ee(p:Program)(c:Array Value)(e:TypeId):∀fuel x stop,seenCells p (c.map (val f)) e fuel x stop=seenCells p c e fuel x stop:=by
 intro fuel
 induction fuel with
 |zero=>intro x stop;rfl
 |succ n ih =>
  intro x stop;simp only[seenCells,aL];split
  ·rfl
  ·split
   ·rfl
   ·split
    ·rfl
    ·rename_i i s _;cases hc:c[i]? with
     |none=>simp
     |some v =>
      simp only[aJ,E2];cases hb:v.bytes? with
      |none=>rfl
      |some bs=>cases bs<;>simp[ih]
end
section
variable {f:Rn}{wl wr:ae}{p:Program}
def HU{at_ at' k k':Addr}{u:TypeId}{atomic:Bool}(hh:wr.heap[at'.block]?=(wl.heap[at_.block]?).map (obj f))(ho:at'.off=at_.off)(hs:at'.spot=at_.spot)(ko:k'.off=k.off)(ks:k'.spot=k.spot):
  wr.seen p at' u k' atomic=(wl.seen p at_ u k atomic).map (λx=>(x.1.map (val f),x.2)):=by
 unfold World.seen;rw[hh,ho,hs,ko,ks];by_cases h1:(k.spot.isSome||at_.spot.isSome)=true
 ·simp only[h1,if_true];rfl
 ·simp only[h1,if_false];cases hl:plainCell p p.depth u k.off with
  |none=>rfl
  |some lk =>
   cases hb:Option.map (λx=>x.length) lk.bytes? with
   |none=>simp[hb];rfl
   |some sz =>
    cases ZH:byteOfCell p p.depth u k.off with
    |none=>simp[hb,ZH];rfl
    |some β =>
     cases ho:wl.heap[at_.block]? with
     |none=>simp[hb,ZH];rfl
     |some o =>
      cases o<;>simp[hb,ZH,obj]<;>try rfl
      simp only[Ee];rename_i c e z;by_cases h0:p.cellsOf e=0
      ·simp only[h0,if_true];rfl
      ·simp only[h0,if_false];cases hbc:byteOfCell p p.depth e (at_.off%p.cellsOf e) with
       |none=>rfl
       |some b0 =>
        simp only[];cases hsc:seenCells p c e (sz+1) (at_.off/p.cellsOf e*p.bytesOf e+b0+β) (at_.off/p.cellsOf e*p.bytesOf e+b0+β+sz) with
        |error=>rfl
        |ok cells =>
         cases atomic with
         |false=>rfl
         |true =>
          rcases cells with _|⟨⟨a,s,bs⟩,_|_⟩
          ·rfl
          ·simp only[bind,Except.bind];simp only[if_true];split<;>rfl
          ·rfl
def seen_cells{at_ k:Addr}{u:TypeId}{atomic:Bool}{c:Array Value}{e:TypeId}{z:Nat×Nat}{x:Nat×Value×List (Nat×Nat×List UInt8)}(h:wl.seen p at_ u k atomic=.ok (c,e,z,x)):wl.heap[at_.block]?=so (.cells c e z):=by
 unfold World.seen at h;by_cases h1:(k.spot.isSome||at_.spot.isSome)=true
 ·simp only[h1,if_true]at h;cases h
 ·simp only[h1,if_false]at h;cases hl:plainCell p p.depth u k.off with
  |none=>simp[hl]at h
  |some lk =>
   cases hb:Option.map (λx=>x.length) lk.bytes? with
   |none=>simp[hl,hb]at h
   |some sz =>
    cases ZH:byteOfCell p p.depth u k.off with
    |none=>simp[hl,hb,ZH]at h
    |some β =>
     cases ho:wl.heap[at_.block]? with
     |none=>simp[hl,hb,ZH,ho]at h
     |some o =>
      cases o<;>simp[hl,hb,ZH,ho]at h<;>try (cases h;done)
      rename_i c e z;by_cases h0:p.cellsOf e=0
      ·simp only[h0,if_true]at h;cases h
      ·simp only[h0,if_false]at h;cases hbc:byteOfCell p p.depth e (at_.off%p.cellsOf e) with
       |none=>simp only[hbc]at h;cases h
       |some b0 =>
        simp only[hbc]at h;cases hsc:seenCells p c e (sz+1) (at_.off/p.cellsOf e*p.bytesOf e+b0+β) (at_.off/p.cellsOf e*p.bytesOf e+b0+β+sz) with
        |error=>simp only[hsc]at h;cases h
        |ok cells =>
         simp only[hsc]at h;cases atomic with
         |false=>cases h;rfl
         |true =>
          rcases cells with _|⟨⟨a,s,bs⟩,_|_⟩
          ·cases h
          ·simp only[bind,Except.bind]at h;simp only[if_true]at h;split at h<;>first|(cases h;rfl;done)|cases h
          ·cases h
def Ge{at_ at' k k':Addr}{u:TypeId}{atomic:Bool}{v:Value}{ts:List Addr}(hh:wr.heap[at'.block]?=(wl.heap[at_.block]?).map (obj f))(ho:at'.off=at_.off)(hs:at'.spot=at_.spot)(ko:k'.off=k.off)(ks:k'.spot=k.spot)(h:wl.viewLoad p at_ u k atomic=.ok (v,ts)):
  (∀g:Rn,val g v=v)/\∃RH,wr.viewLoad p at' u k' atomic=.ok (v,RH)/\∀a∈RH,a.block=at'.block:=by
 unfold World.viewLoad at *;rw[HU (f:=f) hh ho hs ko ks];cases hc:wl.seen p at_ u k atomic with
 |error=>rw[hc]at h;cases h
 |ok x =>
  obtain⟨c,e,z,first,BP,cells⟩:=x;rw[hc]at h;simp only[Except.map,bind,Except.bind]at h |-;split at h
  ·rename_i v' hv;cases h;refine⟨λg=>vW g hv,cells.map λx=>{block:=at'.block,off:=x.1},?_,?_⟩
   ·rfl
   ·intro a ha;obtain⟨x,_,rfl⟩:=aag.1 ha;rfl
  ·cases h
def Ef{g:Array Value->Nat×Nat×List UInt8->Except String (Array Value)}(hg:∀c x c1,g c x=.ok c1->g (c.map (val f)) x=.ok (c1.map (val f))):
  ∀(cells:List (Nat×Nat×List UInt8)) (c c2:Array Value),cells.foldlM (init:=c) g=.ok c2->cells.foldlM (init:=c.map (val f)) g=.ok (c2.map (val f)):=by
 intro cells
 induction cells with
 |nil=>intro c c2 h;cases h;rfl
 |cons x xs ih =>
  intro c c2 h;simp only[List.foldlM_cons]at h |-;cases hx:g c x with
  |error=>rw[hx]at h;cases h
  |ok c1 =>
   rw[hx]at h;rw[hg _ _ _ hx];exact ih c1 c2 h
def Nw{α β:Type}{x:Except String α}{k:α->Except String β}{y:β}(h:(x>>=k)=.ok y):∃v,x=.ok v/\k v=.ok y:=by
 cases x with
 |error=>cases h
 |ok v=>exact⟨v,rfl,h⟩
def rE{at_ at' k k':Addr}{u:TypeId}{atomic:Bool}{v:Value}{aX:ae}{ts:List Addr}(hh:wr.heap[at'.block]?=(wl.heap[at_.block]?).map (obj f))(ho:at'.off=at_.off)(hs:at'.spot=at_.spot)(ko:k'.off=k.off)(ks:k'.spot=k.spot)(h:wl.viewStore p at_ u k v atomic=.ok (aX,ts)):
  ∃c e z RH,at_.block<wl.heap.size/\aX={wl with heap:=wl.heap.setIfInBounds at_.block (.cells c e z)} /\
   wr.viewStore p at' u k' (val f v) atomic=.ok ({wr with heap:=wr.heap.setIfInBounds at'.block (.cells (c.map (val f)) e z)},RH)/\∀a∈RH,a.block=at'.block:=by
 unfold World.viewStore at *;rw[HU (f:=f) hh ho hs ko ks,E2];by_cases ht:(!tight p p.depth u)=true
 ·simp only[ht,if_true]at h;cases h
 ·simp only[ht,if_false]at h |-;have⟨x,hc,h⟩:=Nw h;obtain⟨c,e,z,first,BP,cells⟩:=x;have hsc:=seen_cells hc;rw[hc];simp only[]at h;cases hb:v.bytes? with
  |none=>rw[hb]at h;cases h
  |some bytes =>
   rw[hb]at h;simp only[]at h |-;by_cases hl:(so bytes.length≠BP.bytes?.map (·.length))
   ·rw[if_pos hl]at h;cases h
   ·rw[if_neg hl]at h;have⟨c2,Yv,h⟩:=Nw h;cases h;have:=Ef (f:=f) (λc (x:Nat×Nat×List UInt8) c1 hx=>by
       simp only[aL]at hx |-;by_cases h1:(decide (x.2.1<first)||decide (x.2.1+x.2.2.length>first+bytes.length))=true
       ·simp only[h1,if_true]at hx;cases hx
       ·by_cases h2:(decide (z.1<=x.1)&&decide (x.1<z.2))=true
        ·simp only[h1,h2,if_true,if_false]at hx;cases hx
        ·simp only[h1,h2,if_false]at hx |-;cases ho:c[x.1]? with
         |none=>simp only[ho]at hx;cases hx
         |some old =>
          simp only[ho,aJ,HT]at hx |-;cases hn:old.ofBytes ((bytes.drop (x.2.1-first)).take x.2.2.length) with
          |none=>simp only[hn]at hx;cases hx
          |some new =>
           simp only[hn]at hx |-;cases hx;have:=vW f hn;show Except.ok _=Except.ok _;rw[jW,this]) cells c c2 Yv
    refine⟨c2,e,z,cells.map λx=>{block:=at'.block,off:=x.1},(aad.1 hsc).1,rfl,?_,?_⟩
    ·simp only[Except.map,bind,Except.bind];rw[if_neg hl];simp only[bind,Except.bind]at this;rw[this];rfl
    ·intro a ha;obtain⟨x,_,rfl⟩:=aag.1 ha;rfl
end
def R8{α:Type}:∀(q:Ask α) (wl wr:ae),wr.tape=wl.tape->wr.drawn=wl.drawn ->
  (wr.ask q).1=(wl.ask q).1/\(wl.ask q).2={wl with drawn:=(wl.ask q).2.drawn}/\(wr.ask q).2={wr with drawn:=(wl.ask q).2.drawn}:=by
 intro q
 induction q with
 |done a=>intro wl wr _ hd;exact⟨rfl,rfl,by simp[World.ask,<- hd]⟩
 |ask what range k ih =>
  intro wl wr ht hd;obtain⟨hp,tp,dw,o,ou⟩:=wr;simp only at ht hd;subst ht hd;simp only[World.ask];split
  ·exact ih 0 wl ⟨hp,wl.tape,wl.drawn,o,ou⟩ rfl rfl
  ·have⟨h1,h2,h3⟩:=ih ((Question.extern what range).cut (wl.tape wl.drawn (Question.extern what range))) {wl with drawn:=wl.drawn+1} ⟨hp,wl.tape,wl.drawn+1,o,ou⟩ rfl rfl;exact⟨h1,by rw[h2],by rw[h3]⟩
def HV(c:Sys){wl wr:ae}(ht:wr.tape=wl.tape)(hd:wr.drawn=wl.drawn)(ho:wr.os=wl.os):
  (wr.sys c).1=(wl.sys c).1/\∃d o,(wl.sys c).2={wl with drawn:=d,os:=o}/\(wr.sys c).2={wr with drawn:=d,os:=o}:=by
 unfold World.sys;rw[ho];have⟨h1,h2,h3⟩:=R8 (Kernel.perform c wl.os) wl wr ht hd;generalize hl:wl.ask (Kernel.perform c wl.os)=x at *;generalize hr:wr.ask (Kernel.perform c wl.os)=y at *;obtain⟨⟨a,b⟩,xw⟩:=x;obtain⟨⟨a',b'⟩,yw⟩:=y;simp only[bB]at h1 h2 h3;obtain⟨rfl,rfl⟩:=h1;cases a'
 case wouldBlock=>exact⟨rfl,wl.drawn,wl.os,rfl,by simp[<- hd,<- ho]⟩
 all_goals exact⟨rfl,xw.drawn,b',by simp only[];rw[h2],by simp only[];rw[h3]⟩
section
variable {F:jC}{wl wr:ae}
def WR.env(W:WR F wl wr){aX p9:ae}(hl:aX.heap=wl.heap)(hr:p9.heap=wr.heap)(os:p9.os=aX.os)(ou:p9.output=aX.output)(ta:p9.tape=aX.tape)(dr:p9.drawn=aX.drawn):WR F aX p9 where
 here r h:=by rw[hl];exact W.here r h
 there r h:=by rw[hr];exact W.there r h
 inj:=W.inj
 tO r h f hf:=by rw[hl,hr];exact W.tO r h f hf
 RF r h o ho:=W.RF r h o (by rw[<- hl];exact ho)
 os:=os
 output:=ou
 tape:=ta
 drawn:=dr
 A3:=W.A3
 Gc:=by rw[hr];exact W.Gc
 Ed:=by rw[hl];exact W.Ed
def fu.env{aX p9:ae}(hl:aX.heap=wl.heap)(hr:p9.heap=wr.heap)(ho:aX.os=wl.os)(hu:aX.output=wl.output):fu F F wl wr aX p9 :=
 ⟨λ_ h=>h,λ_ _=>rfl,rfl,λ_ h=>.inl h,by rw[hl];exact ah _,by rw[hr];exact ah _,λ_ h k=>by rw[hr]at k;omega,λ_ _=>by rw[hr],rfl,id,ho,hu,λe=>⟨by rw[hl,hr];exact e,λ_ k=>.inl k⟩⟩
def fu.put{b:Nat}{aX p9:ae}(hb:F.K b)(zl:aX.heap.size=wl.heap.size)(zr:p9.heap.size=wr.heap.size)(r2:∀r,r≠F.φ b->p9.heap[r]?=wr.heap[r]?)(ho:aX.os=wl.os)(hu:aX.output=wl.output):fu F F wl wr aX p9 :=
 ⟨λ_ h=>h,λ_ _=>rfl,rfl,λ_ h=>.inl h,by rw[zl];exact ah _,by rw[zr];exact ah _,λ_ h k=>by rw[zr]at k;omega,λc hc=>r2 c (λe=>hc b hb e.symm),rfl,id,ho,hu,λe=>⟨by rw[zl,zr];exact e,λ_ k=>.inl k⟩⟩
def fu.alloc(W:WR F wl wr){o o':Obj}:fu F (F.add wl.heap.size wr.heap.size) wl wr {wl with heap:=wl.heap.push o} {wr with heap:=wr.heap.push o'} where
 K r h:=.inl h
 φ r h:=by have:=W.here r h;simp only[jC.add];rw[if_neg aa]
 L:=rfl
 wM r h:=by
  rcases h with h|rfl
  ·exact .inl h
  ·exact .inr ⟨ah _,by simp[jC.add]⟩
 BN:=ar
 size:=ar
 mine b h k:=⟨wl.heap.size,.inr rfl,by simp[jC.add]at k |-;omega⟩
 rest b h:=by
  have:b≠wr.heap.size:=λe=>h wl.heap.size (.inr rfl) (by simp[jC.add,e]);simp only[Array.getElem?_push];rw[if_neg this]
 G:=rfl
 R7:=rfl
 BO:=rfl
 same e:=⟨by simpa using e,λr hr=>by
  rcases hr with h|rfl
  ·exact .inl h
  ·exact .inr (by simp[jC.add,e])⟩
 A3 _:=(W.alloc (o:=.cells #[] 0) (o':=.cells #[] 0) (λf _=>by simp[obj]) rfl).A3
def WR.block(W:WR F wl wr){r r':Nat}(h:∀f,F.has f->r'=f.b r):F.K r/\r'=F.φ r/\∀f,F.has f->wr.heap[r']?=(wl.heap[r]?).map (obj f):=by
 obtain⟨hK,rfl⟩:=W.acP h;exact⟨hK,rfl,λf hf=>W.tO r hK f hf⟩
end
def jm(P:Program)(F:jC){α β:Type}(A:Rn->α->β->Prop)(wl wr:ae)(mh:Array Event)(s':Sem β)(x:Result α):Prop :=
 match x with
 | .ok a aX=>∃F' b p9 ZI,s'.runT P wr mh=(.ok b p9,ZI)/\(∀f,F'.has f->A f a b)/\WR F' aX p9/\fu F F' wl wr aX p9/\RG F' mh ZI/\∀f,F'.has f->F.has f
 | .halt _ _=>True
def jm.step{P:Program}{F F₁:jC}{α β:Type}{A:Rn->α->β->Prop}{wl wr wl₁ wr₁:ae}{mh es₁:Array Event}{s' s₁:Sem β}{x:Result α}(hr:s'.runT P wr mh=s₁.runT P wr₁ es₁)(hm:fu F F₁ wl wr wl₁ wr₁)(he:∀el,∀F':jC,(∀r,F₁.K r->F'.K r)->(∀r,F₁.K r->F'.φ r=F₁.φ r)->RG F' es₁ el->RG F' mh el)(hF:∀f,F₁.has f->F.has f)(h:jm P F₁ A wl₁ wr₁ es₁ s₁ x):jm P F A wl wr mh s' x:=by
 cases x with
 |ok a aX =>
  obtain⟨F',b,p9,ZI,h1,h2,h3,h4,h5,h6⟩:=h;exact⟨F',b,p9,ZI,hr.trans h1,h2,h3,hm.trans h4,he ZI F' h4.K h4.φ h5,λf hf=>hF f (h6 f hf)⟩
 |halt hh aX=>trivial
def E3{w:ae}{x:Addr}{v:Value}(h:w.cell? x=so v):∃c e z,w.heap[x.block]?=so (.cells c e z)/\x.spot=we/\c[x.off]?=so v:=by
 unfold World.cell? at h;split at h
 ·rename_i c e z hc;by_cases hs:x.spot.isSome=true
  ·rw[if_pos hs]at h;cases h
  ·rw[if_neg hs]at h;exact⟨c,e,z,hc,by simpa using hs,h⟩
 ·cases h
def HW{f:Rn}{wl wr:ae}{x x':Addr}{v:Value}(hh:wr.heap[x'.block]?=(wl.heap[x.block]?).map (obj f))(ho:x'.off=x.off)(hs:x'.spot=x.spot)(h:wl.cell? x=so v):wr.cell? x'=so (val f v):=by
 have⟨c,e,z,h1,h2,h3⟩:=E3 h;unfold World.cell?;rw[hh,h1,hs,h2,ho];simp[obj,h3]
def E4{f:Rn}{wl wr:ae}{x x':Addr}(hh:wr.heap[x'.block]?=(wl.heap[x.block]?).map (obj f))(ho:x'.off=x.off)(hs:x'.spot=x.spot)(h:wl.cell? x=we):wr.cell? x'=we:=by
 unfold World.cell? at *;rw[hh,hs,ho];cases hc:wl.heap[x.block]? with
 |none=>rfl
 |some o =>
  rw[hc]at h;cases o<;>simp only[obj,aJ]at h |-;split<;>rename_i vJ
  ·rfl
  ·rw[if_neg vJ]at h;simp[h]
def BQ{f:Rn}{wl wr:ae}{x x':Addr}(hh:wr.heap[x'.block]?=(wl.heap[x.block]?).map (obj f))(ho:x'.off=x.off):wr.frozen? x'=wl.frozen? x:=by
 unfold World.frozen?;rw[hh,ho];cases hc:wl.heap[x.block]? with
 |none=>rfl
 |some o=>cases o<;>rfl
def O2{f:Rn}{wl wr:ae}{r r':Nat}(hh:wr.heap[r']?=(wl.heap[r]?).map (obj f)):wr.shape? r'=wl.shape? r:=by
 unfold World.shape?;rw[hh];cases hc:wl.heap[r]? with
 |none=>rfl
 |some o=>cases o<;>simp[obj]
def E5{w:ae}{a:Addr}{what:String}{v:Value}:w.noCell a what≠.panic v:=by
 unfold World.noCell;split<;>simp
def HX{p:Program}{w:ae}{a:Addr}{at_:Bool}{h:Halt}(hh:w.farLoad p a at_=.error h)(v:Value):h≠.panic v:=by
 unfold World.farLoad at hh;split at hh
 ·split at hh
  ·cases hh
  ·cases hh;simp
 ·cases hh;exact E5
def Lh{p:Program}{w:ae}{a:Addr}{at_:Bool}{x:Value×List Addr}(hh:w.farLoad p a at_=.ok x):∃b u,w.heap[a.block]?=so (.view b u)/\w.viewLoad p b u a at_=.ok x:=by
 unfold World.farLoad at hh;split at hh
 ·rename_i b u hb;split at hh
  ·rename_i r hr;cases hh;exact⟨b,u,hb,hr⟩
  ·cases hh
 ·cases hh
def Gf{p:Program}{w:ae}{a:Addr}{y:Value}{at_:Bool}{h:Halt}(hh:w.farStore p a y at_=.error h)(v:Value):h≠.panic v:=by
 unfold World.farStore at hh;split at hh
 ·split at hh
  ·cases hh
  ·cases hh;simp
 ·cases hh;exact E5
def tP{p:Program}{w:ae}{a:Addr}{y:Value}{at_:Bool}{x:ae×List Addr}(hh:w.farStore p a y at_=.ok x):∃b u,w.heap[a.block]?=so (.view b u)/\w.viewStore p b u a y at_=.ok x:=by
 unfold World.farStore at hh;split at hh
 ·rename_i b u hb;split at hh
  ·rename_i r hr;cases hh;exact⟨b,u,hb,hr⟩
  ·cases hh
 ·cases hh
def kW{P:Program}{F:jC}{α β:Type}{A:Rn->α->β->Prop}{wl wr w:ae}{mh:Array Event}{s':Sem β}{h:Halt}(_hn:∀v,h≠.panic v):jm P F A wl wr mh s' (.halt h w):=by
 trivial
def getElem?_modify{α:Type}(xs:Array α)(i j:Nat)(g:α->α):(xs.modify i g)[j]?=if i=j then xs[j]?.map g else xs[j]?:=by
 rw[aS]
def ir{α:Type}{P:Program}{m:Mode}{a:Addr}{v:Value}{k:Sem α}{w:ae}{es:Array Event}(h1:∀c,v≠.agg c)(h2:∀c,v≠.tuple c):
  (Sem.store m a v k).runT P w es=match w.cell? a with
   |some _=>if w.frozen? a then(.halt (.unsupported (.unsafePointer "a write to bytes that a string shares")) w,es)else k.runT P (w.setCell a v) (es.push ⟨.cell a,true,m == .atomic⟩)
   |none=>match w.farStore P a v (m == .atomic) with
    | .ok (w,V9)=>k.runT P w (es++V9.toArray.map (⟨.cell ·,true,m == .atomic⟩))
    | .error h=>(.halt h w,es):=by
 cases v<;>first|exact absurd rfl (h1 _)|exact absurd rfl (h2 _)|rfl
def BR{α:Type}{P:Program}{m:Mode}{a:Addr}{c:Array Value}{k:Sem α}{w:ae}{es:Array Event}:
  ∃ZG,((Sem.store m a (.agg c) k).runT P w es).1=.halt (.stuck ZG) w:=⟨_,rfl⟩
def zf{α:Type}{P:Program}{m:Mode}{a:Addr}{c:Array Value}{k:Sem α}{w:ae}{es:Array Event}:
  ∃ZG,((Sem.store m a (.tuple c) k).runT P w es).1=.halt (.stuck ZG) w:=⟨_,rfl⟩
def xE(w:ae)(a:Addr)(v:Value){c:Array Value}{e:TypeId}{z:Nat×Nat}(h:w.heap[a.block]?=so (.cells c e z))(hs:a.spot=we):
  (w.setCell a v).heap.size=w.heap.size/\(w.setCell a v).heap[a.block]?=so (.cells (c.setIfInBounds a.off v) e z)/\∀r,r≠a.block->(w.setCell a v).heap[r]?=w.heap[r]?:=by
 unfold World.setCell;refine⟨ar,?_,λr hr=>?_⟩
 ·simp only[getElem?_modify,if_true,h,aJ,hs];simp
 ·simp only[getElem?_modify];rw[if_neg (bq hr)]
def qa(h:Array Obj)(b:Nat)(o:Obj)(hb:b<h.size):(h.setIfInBounds b o).size=h.size/\(h.setIfInBounds b o)[b]?=so o/\∀r,r≠b->(h.setIfInBounds b o)[r]?=h[r]?:=by
 refine⟨ar,by simp[hb],λr hr=>?_⟩;rw[aU (bq hr)]
def qQ(off n:Nat):Obj->Obj
 | .cells c e (lo,hi)=>.cells c e (if lo==hi then(off,off+n) else(min lo off,max hi (off+n)))
 |o=>o
def oq(w:ae)(a:Addr)(n:Nat)(hn:n≠0):(w.freeze a n)={w with heap:=w.heap.modify a.block (qQ a.off n)}:=by
 unfold World.freeze;rw[if_neg hn]
 congr 1
def O3(f:Rn)(off n:Nat)(o:Obj):obj f (qQ off n o)=qQ off n (obj f o):=by
 cases o<;>simp[obj,qQ]
def BS(off n:Nat)(o:Obj):fl (qQ off n o)=fl o:=by
 cases o<;>simp[fl,qQ]
def xF{P:Program}{α β:Type}(A:Rn->α->β->Prop):∀(s:Sem α) (s':Sem β) (F:jC) (wl wr:ae) (es mh:Array Event),
  (∀f,F.has f->Rel P f (A f) s s')->WR F wl wr->jm P F A wl wr mh s' (s.runT P wl es).1:=by
 intro s
 induction s with
 |pure a =>
  intro s' F wl wr es mh h W;have⟨f0,kL⟩:=W.some;have h0:=h f0 kL;cases s'<;>simp only[Rel]at h0;exact⟨F,_,wr,mh,rfl,λf hf=>h f hf,W,fu.refl _ _ _,RG.refl _ _,λ_ h=>h⟩
 |load m x k ih =>
  intro s' F wl wr es mh h W;have⟨f0,kL⟩:=W.some;have h0:=h f0 kL;cases s'<;>simp only[Rel]at h0;rename_i m' x' k';obtain⟨rfl,HK,HY⟩:=h0;have hh:∀f,F.has f->x'=addr f x/\∀v,Rel P f (A f) (k v) (k' (val f v)):=λf hf=>⟨(h f hf).2.1,(h f hf).2.2⟩;have⟨hK,hb,gd⟩:=W.block (r:=x.block) (r':=x'.block) (λf hf=>by rw[(hh f hf).1];rfl);have ho:x'.off=x.off:=by rw[HK];rfl
  have hs:x'.spot=x.spot:=by rw[HK];rfl
  have jb:∀(F':jC),(∀r,F.K r->F'.K r)->(∀r,F.K r->F'.φ r=F.φ r)->∀(y:Addr) (wt sy:Bool),y.block=x'.block->xD F' ⟨.cell y,wt,sy⟩:=λF' h1 h2 y wt sy hy=>⟨x.block,h1 _ hK,by rw[h2 _ hK,hy,hb]⟩;simp only[Sem.runT];cases hc:wl.cell? x with
  |some v =>
   have hv:∀f,F.has f->wr.cell? x'=so (val f v):=λf hf=>HW (gd f hf) ho hs hc;have Wa:∀f,F.has f->val f v=val f0 v:=λf hf=>aT ((hv f hf).symm.trans (hv f0 kL));exact jm.step (F₁:=F) (wl₁:=wl) (wr₁:=wr) (s₁:=k' (val f0 v)) (es₁:=mh.push ⟨.cell x',false,m' == .atomic⟩) (by simp only[Sem.runT,hv f0 kL]) (fu.refl _ _ _) (λel F' h1 h2 he=>he.push (jb F' h1 h2 _ _ _ rfl)) (λ_ h=>h)
    (ih v (k' (val f0 v)) F wl wr _ _ (λf hf=>by have:=(hh f hf).2 v;rwa[Wa f hf]at this) W)
  |none =>
   have tQ:=E4 (gd f0 kL) ho hs hc;cases hf:wl.farLoad P x (m' == .atomic) with
   |error cx=>exact kW (HX hf)
   |ok y =>
    obtain⟨v,ts⟩:=y;have⟨at_,u,HZ,KT⟩:=Lh hf;have ZJ:∀f,F.has f->wr.heap[x'.block]?=so (.view (addr f at_) u):=λf hf=>by rw[gd f hf,HZ];rfl
    have⟨Wb,pB,ZK⟩:=W.block (r:=at_.block) (r':=(addr f0 at_).block) (λf hf=>by
     have:=(ZJ f0 kL).symm.trans (ZJ f hf);simp only[aA,Obj.view.injEq,and_true]at this;rw[this];rfl)
    have⟨Bo,RH,hl,ZL⟩:=Ge (f:=f0) (p:=P) (at':=addr f0 at_) (k':=x') (ZK f0 kL) rfl rfl ho hs KT;have ZM:∀(F':jC),(∀r,F.K r->F'.K r)->(∀r,F.K r->F'.φ r=F.φ r)->∀e∈RH.toArray.map (λy=>(⟨.cell y,false,m' == .atomic⟩:Event)),xD F' e:=by
     intro F' h1 h2 e he;simp only[Array.mem_map,List.mem_toArray]at he;obtain⟨y,hy,rfl⟩:=he;exact⟨at_.block,h1 _ Wb,by rw[h2 _ Wb,ZL y hy,pB]⟩
    refine jm.step (F₁:=F) (wl₁:=wl) (wr₁:=wr) (s₁:=k' v) (es₁:=mh++RH.toArray.map (λy=>⟨.cell y,false,m' == .atomic⟩)) ?_ (fu.refl _ _ _) (λel F' h1 h2 he=>he.app (ZM F' h1 h2)) (λ_ h=>h)
     (ih v (k' v) F wl wr _ _ (λf hf=>by have:=(hh f hf).2 v;rwa[Bo f]at this) W)
    simp only[Sem.runT,tQ,World.farLoad,ZJ f0 kL,hl]
 |store m x v k ih =>
  intro s' F wl wr es mh h W;have⟨f0,kL⟩:=W.some;have h0:=h f0 kL;cases s'<;>simp only[Rel]at h0;rename_i m' x' v' k';obtain⟨rfl,HK,O4,HY⟩:=h0;have hh:∀f,F.has f->x'=addr f x/\v'=val f v/\Rel P f (A f) k k':=λf hf=>⟨(h f hf).2.1,(h f hf).2.2.1,(h f hf).2.2.2⟩;have⟨hK,hb,gd⟩:=W.block (r:=x.block) (r':=x'.block) (λf hf=>by rw[(hh f hf).1];rfl);have ho:x'.off=x.off:=by rw[HK];rfl
  have hs:x'.spot=x.spot:=by rw[HK];rfl
  have jb:∀(F':jC),(∀r,F.K r->F'.K r)->(∀r,F.K r->F'.φ r=F.φ r)->∀(wt sy:Bool),xD F' ⟨.cell x',wt,sy⟩:=λF' h1 h2 wt sy=>⟨x.block,h1 _ hK,by rw[h2 _ hK,hb]⟩;by_cases cp:(∃c,v=.agg c)\/∃c,v=.tuple c
  ·rcases cp with⟨c,rfl⟩|⟨c,rfl⟩
   ·have⟨ZG,hw⟩:=BR (P:=P) (m:=m') (a:=x) (c:=c) (k:=k) (w:=wl) (es:=es);rw[hw];exact kW ar
   ·have⟨ZG,hw⟩:=zf (P:=P) (m:=m') (a:=x) (c:=c) (k:=k) (w:=wl) (es:=es);rw[hw];exact kW ar
  ·have n1:∀c,v≠.agg c:=λc e=>cp (.inl ⟨c,e⟩);have n2:∀c,v≠.tuple c:=λc e=>cp (.inr ⟨c,e⟩);have n1':∀c,v'≠.agg c:=λc e=>by rw[O4]at e;cases v<;>simp at e;exact n1 _ rfl
   have n2':∀c,v'≠.tuple c:=λc e=>by rw[O4]at e;cases v<;>simp at e;exact n2 _ rfl
   rw[ir n1 n2];cases hc:wl.cell? x with
   |some old =>
    have Wc:=HW (gd f0 kL) ho hs hc;have hfz:=BQ (gd f0 kL) ho;simp only[];by_cases hz:wl.frozen? x=true
    ·rw[if_pos hz];exact kW ar
    ·rw[if_neg hz];have⟨c,e,z,c1,c2,c3⟩:=E3 hc;have⟨l0,l1,l2⟩:=xE wl x v c1 c2;have Eg:wr.heap[x'.block]?=so (.cells (c.map (val f0)) e z):=by rw[gd f0 kL,c1];rfl
     have⟨r0,r1,r2⟩:=xE wr x' v' Eg (hs.trans c2);rw[hb]at r1 r2;refine jm.step (F₁:=F) (wl₁:=wl.setCell x v) (wr₁:=wr.setCell x' v') (s₁:=k') (es₁:=mh.push ⟨.cell x',true,m' == .atomic⟩) ?_ (fu.put hK l0 r0 r2 rfl rfl) (λel F' h1 h2 he=>he.push (jb F' h1 h2 _ _)) (λ_ h=>h)
      (ih k' F _ _ _ _ (λf hf=>(hh f hf).2.2) (W.put hK (o:=.cells (c.setIfInBounds x.off v) e z) (λf hf=>by
       have e1:some (Obj.cells (c.map (val f0)) e z)=so (Obj.cells (c.map (val f)) e z):=Eg.symm.trans ((gd f hf).trans (by rw[c1];rfl));simp only[aA,Obj.cells.injEq,and_true]at e1;simp only[obj,Array.map_setIfInBounds];rw[<- e1,<- (hh f hf).2.1,ho]) rfl l0 l1 l2 r0 r1 r2 W.os W.output W.tape W.drawn))
     rw[ir n1' n2',Wc];simp only[hfz,hz,if_false];rfl
   |none =>
    have tQ:=E4 (gd f0 kL) ho hs hc;simp only[];cases hf:wl.farStore P x v (m' == .atomic) with
    |error cx=>exact kW (Gf hf)
    |ok y =>
     obtain⟨aX,ts⟩:=y;have⟨at_,u,HZ,KT⟩:=tP hf;have ZJ:∀f,F.has f->wr.heap[x'.block]?=so (.view (addr f at_) u):=λf hf=>by rw[gd f hf,HZ];rfl
     have⟨Wb,pB,ZK⟩:=W.block (r:=at_.block) (r':=(addr f0 at_).block) (λf hf=>by
      have:=(ZJ f0 kL).symm.trans (ZJ f hf);simp only[aA,Obj.view.injEq,and_true]at this;rw[this];rfl)
     have iJ:∀f,F.has f->_:=λf hf=>rE (f:=f) (p:=P) (at':=addr f0 at_) (k':=x') (ZK f hf) rfl rfl ho hs KT;obtain⟨c,e,z,RH,cx,rfl,hl,ZL⟩:=iJ f0 kL;have Li:∀f,F.has f->c.map (val f)=c.map (val f0):=by
      intro f hf;have⟨c',e',z',ts2,_,vh,Ny,_⟩:=iJ f hf;simp only[World.mk.injEq,and_true]at vh;have q1:=congrArg (λh:Array Obj=>h[at_.block]?) vh;simp only[Array.getElem?_setIfInBounds_self_of_lt cx,aA,Obj.cells.injEq]at q1;obtain⟨rfl,rfl,rfl⟩:=q1;rw[<- (hh f hf).2.1]at Ny;rw[<- O4]at hl;have q2:=Ny.symm.trans hl;simp only[Except.ok.injEq,bB,World.mk.injEq,and_true]at q2;have q3:=congrArg (λh:Array Obj=>h[(addr f0 at_).block]?) q2.1;have zh:(addr f0 at_).block<wr.heap.size:=by rw[pB];exact W.there _ Wb
      simp only[Array.getElem?_setIfInBounds_self_of_lt zh,aA,Obj.cells.injEq]at q3;exact q3.1
     have zh:(addr f0 at_).block<wr.heap.size:=by rw[pB];exact W.there _ Wb
     have⟨l0,l1,l2⟩:=qa wl.heap at_.block (.cells c e z) cx;have⟨r0,r1,r2⟩:=qa wr.heap (addr f0 at_).block (.cells (c.map (val f0)) e z) zh;rw[pB]at r0 r1 r2;have ZM:∀(F':jC),(∀r,F.K r->F'.K r)->(∀r,F.K r->F'.φ r=F.φ r)->∀e∈RH.toArray.map (λy=>(⟨.cell y,true,m' == .atomic⟩:Event)),xD F' e:=by
      intro F' h1 h2 e he;simp only[Array.mem_map,List.mem_toArray]at he;obtain⟨y,hy,rfl⟩:=he;exact⟨at_.block,h1 _ Wb,by rw[h2 _ Wb,ZL y hy,pB]⟩
     refine jm.step (F₁:=F) (wr₁:={wr with heap:=wr.heap.setIfInBounds (F.φ at_.block) (.cells (c.map (val f0)) e z)}) (s₁:=k') (es₁:=mh++RH.toArray.map (λy=>⟨.cell y,true,m' == .atomic⟩)) ?_
      (fu.put Wb l0 r0 r2 ak ak) (λel F' h1 h2 he=>he.app (ZM F' h1 h2)) (λ_ h=>h)
      (ih k' F _ _ _ _ (λf hf=>(hh f hf).2.2) (W.put Wb (o:=.cells c e z) (λf hf=>by simp only[obj];rw[Li f hf]) rfl l0 l1 l2 r0 r1 r2 W.os W.output W.tape W.drawn))
     rw[ir n1' n2',tQ];rw[<- O4,pB]at hl;simp only[World.farStore,ZJ f0 kL,hl]
 |new o k ih =>
  intro s' F wl wr es mh h W;have⟨f0,kL⟩:=W.some;have h0:=h f0 kL;cases s'<;>simp only[Rel]at h0;rename_i o' k';have hn:¬F.K wl.heap.size:=λhk=>by have:=W.here _ hk;omega
  have W':=W.alloc (o:=o) (o':=o') (λf hf=>(h f hf).1) h0.2.1;exact jm.step (F₁:=F.add wl.heap.size wr.heap.size) (wl₁:={wl with heap:=wl.heap.push o}) (wr₁:={wr with heap:=wr.heap.push o'}) (s₁:=k' wr.heap.size) (es₁:=mh) rfl (fu.alloc W) (λ_ _ _ _ he=>he) (λf hf=>jC.Gd hn hf)
   (ih wl.heap.size (k' wr.heap.size) _ _ _ _ _ (λf hf=>by have:=(h f (jC.Gd hn hf)).2.2 wl.heap.size;rwa[jC.V8 hf]at this) W')
 |shape r k ih =>
  intro s' F wl wr es mh h W;have⟨f0,kL⟩:=W.some;have h0:=h f0 kL;cases s'<;>simp only[Rel]at h0;rename_i r' k';have⟨hK,hb,gd⟩:=W.block (r:=r) (r':=r') (λf hf=>(h f hf).1);exact jm.step (F₁:=F) (wl₁:=wl) (wr₁:=wr) (s₁:=k' (wl.shape? r)) (es₁:=mh) (by simp only[Sem.runT,O2 (gd f0 kL)]) (fu.refl _ _ _) (λ_ _ _ _ he=>he) (λ_ h=>h)
   (ih _ _ F wl wr _ _ (λf hf=>(h f hf).2 _) W)
 |freeze a n k ih =>
  intro s' F wl wr es mh h W;have⟨f0,kL⟩:=W.some;have h0:=h f0 kL;cases s'<;>simp only[Rel]at h0;rename_i a' n' k';obtain⟨ha0,rfl,HY⟩:=h0;have⟨hK,hb,gd⟩:=W.block (r:=a.block) (r':=a'.block) (λf hf=>by rw[(h f hf).1];rfl);have hk:∀f,F.has f->Rel P f (A f) k k':=λf hf=>(h f hf).2.2;by_cases hn:n'=0
  ·subst hn;exact jm.step (F₁:=F) (wl₁:=wl) (wr₁:=wr) (s₁:=k') (es₁:=mh) (by simp[Sem.runT,World.freeze]) (fu.refl _ _ _) (λ_ _ _ _ he=>he) (λ_ h=>h)
    (by simp only[Sem.runT,World.freeze,if_true];exact ih _ F wl wr _ _ hk W)
  ·obtain⟨o,ho⟩:∃o,wl.heap[a.block]?=so o:=⟨_,aO (W.here _ hK)⟩;have Wd:a'.off=a.off:=by rw[ha0];rfl
   have hr:∀f,F.has f->wr.heap[a'.block]?=so (obj f o):=λf hf=>by rw[gd f hf,ho];rfl
   have r1:(wr.heap.modify a'.block (qQ a'.off n'))[F.φ a.block]?=so (qQ a.off n' (obj f0 o)):=by
    rw[getElem?_modify,<- hb,if_pos rfl,hr f0 kL,Wd];rfl
   have r2:∀r,r≠F.φ a.block->(wr.heap.modify a'.block (qQ a'.off n'))[r]?=wr.heap[r]?:=λr dE=>by rw[getElem?_modify,hb,if_neg (bq dE)]
   have l1:(wl.heap.modify a.block (qQ a.off n'))[a.block]?=so (qQ a.off n' o):=by rw[getElem?_modify,if_pos rfl,ho];rfl
   have l2:∀r,r≠a.block->(wl.heap.modify a.block (qQ a.off n'))[r]?=wl.heap[r]?:=λr dE=>by rw[getElem?_modify,if_neg (bq dE)]
   refine jm.step (F₁:=F) (wl₁:=wl.freeze a n') (wr₁:=wr.freeze a' n') (s₁:=k') (es₁:=mh) rfl ?_ (λ_ _ _ _ he=>he) (λ_ h=>h) (ih _ F _ _ _ _ hk ?_)
   ·rw[oq _ _ _ hn,oq _ _ _ hn];exact fu.put hK ar ar r2 ar ar
   ·rw[oq _ _ _ hn,oq _ _ _ hn];exact W.put hK (o:=qQ a.off n' o) (o':=qQ a.off n' (obj f0 o)) (λf hf=>by
     have e:=aT ((hr f0 kL).symm.trans (hr f hf));rw[O3,e]) (by rw[BS];exact W.RF _ hK _ ho) ar l1 l2 ar r1 r2 W.os W.output W.tape W.drawn
 |frozen a k ih =>
  intro s' F wl wr es mh h W;have⟨f0,kL⟩:=W.some;have h0:=h f0 kL;cases s'<;>simp only[Rel]at h0;rename_i a' k';have⟨hK,hb,gd⟩:=W.block (r:=a.block) (r':=a'.block) (λf hf=>by rw[(h f hf).1];rfl);have Wd:a'.off=a.off:=by rw[h0.1];rfl
  exact jm.step (F₁:=F) (wl₁:=wl) (wr₁:=wr) (s₁:=k' (wl.frozen? a)) (es₁:=mh) (by simp only[Sem.runT,BQ (gd f0 kL) Wd]) (fu.refl _ _ _) (λ_ _ _ _ he=>he) (λ_ h=>h)
   (ih _ _ F wl wr _ _ (λf hf=>(h f hf).2 _) W)
 |getObj r k ih =>
  intro s' F wl wr es mh h W;have⟨f0,kL⟩:=W.some;have h0:=h f0 kL;cases s'<;>simp only[Rel]at h0;rename_i r' k';have⟨hK,hb,gd⟩:=W.block (r:=r) (r':=r') (λf hf=>(h f hf).1);obtain⟨o,ho⟩:∃o,wl.heap[r]?=so o:=⟨_,aO (W.here _ hK)⟩;have hr:∀f,F.has f->wr.heap[r']?=so (obj f o):=λf hf=>by rw[gd f hf,ho];rfl
  have Wa:∀f,F.has f->obj f o=obj f0 o:=λf hf=>aT ((hr f hf).symm.trans (hr f0 kL));by_cases hc:∃c e z,o=.cells c e z
  ·obtain⟨c,e,z,rfl⟩:=hc;simp only[Sem.runT,ho];exact kW ar
  ·have e1:(Sem.getObj r k).runT P wl es=(k o).runT P wl (es.push ⟨.obj r,false,o.isChan⟩):=by
    simp only[Sem.runT,ho];cases o<;>first|rfl|exact absurd ⟨_,_,_,rfl⟩ hc
   have e2:(Sem.getObj r' k').runT P wr mh=(k' (obj f0 o)).runT P wr (mh.push ⟨.obj r',false,o.isChan⟩):=by
    simp only[Sem.runT,hr f0 kL];cases o<;>first|rfl|exact absurd ⟨_,_,_,rfl⟩ hc
   rw[e1];exact jm.step (F₁:=F) (wl₁:=wl) (wr₁:=wr) e2 (fu.refl _ _ _) (λel F' h1 h2 he=>he.push ⟨r,h1 _ hK,by rw[h2 _ hK,hb]⟩) (λ_ h=>h)
    (ih o (k' (obj f0 o)) F wl wr _ _ (λf hf=>by have:=(h f hf).2 o;rwa[Wa f hf]at this) W)
 |setObj r o k ih =>
  intro s' F wl wr es mh h W;have⟨f0,kL⟩:=W.some;have h0:=h f0 kL;cases s'<;>simp only[Rel]at h0;rename_i r' o' k';have⟨hK,hb,gd⟩:=W.block (r:=r) (r':=r') (λf hf=>(h f hf).1);obtain⟨x,hx⟩:∃o,wl.heap[r]?=so o:=⟨_,aO (W.here _ hK)⟩;have hr:wr.heap[r']?=so (obj f0 x):=by rw[gd f0 kL,hx];rfl
  have hic:o'.isChan=o.isChan:=by rw[h0.2.1];cases o<;>rfl
  by_cases hc:∃c e z,x=.cells c e z
  ·obtain⟨c,e,z,rfl⟩:=hc;simp only[Sem.runT,hx];exact kW ar
  ·have e1:(Sem.setObj r o k).runT P wl es=k.runT P {wl with heap:=wl.heap.setIfInBounds r o} (es.push ⟨.obj r,true,o.isChan⟩):=by
    simp only[Sem.runT,hx];cases x<;>first|rfl|exact absurd ⟨_,_,_,rfl⟩ hc
   have e2:(Sem.setObj r' o' k').runT P wr mh=k'.runT P {wr with heap:=wr.heap.setIfInBounds r' o'} (mh.push ⟨.obj r',true,o.isChan⟩):=by
    simp only[Sem.runT,hr,hic];cases x<;>first|rfl|exact absurd ⟨_,_,_,rfl⟩ hc
   have⟨l0,l1,l2⟩:=qa wl.heap r o (W.here _ hK);have⟨r0,r1,r2⟩:=qa wr.heap (F.φ r) o' (W.there _ hK);rw[e1];rw[hb]at e2;rw[hb];exact jm.step (F₁:=F) (wl₁:={wl with heap:=wl.heap.setIfInBounds r o}) (wr₁:={wr with heap:=wr.heap.setIfInBounds (F.φ r) o'}) e2 (fu.put hK l0 r0 r2 rfl rfl) (λel F' h1 h2 he=>he.push ⟨r,h1 _ hK,by rw[h2 _ hK]⟩) (λ_ h=>h)
    (ih k' F _ _ _ _ (λf hf=>(h f hf).2.2.2) (W.put hK (o:=o) (λf hf=>(h f hf).2.1) h0.2.2.1 l0 l1 l2 r0 r1 r2 W.os W.output W.tape W.drawn))
 |choose q k ih =>
  intro s' F wl wr es mh h W;have⟨f0,kL⟩:=W.some;have h0:=h f0 kL;cases s'<;>simp only[Rel]at h0;rename_i q' k';obtain⟨rfl,HY⟩:=h0;have hk:∀n f,F.has f->Rel P f (A f) (k n) (k' n):=λn f hf=>(h f hf).2 n;simp only[Sem.runT];by_cases hq:q'.forced=true
  ·simp only[hq,if_true];exact jm.step (F₁:=F) (wl₁:=wl) (wr₁:=wr) (s₁:=k' 0) (es₁:=mh) (by simp only[Sem.runT,hq,if_true]) (fu.refl _ _ _) (λ_ _ _ _ he=>he) (λ_ h=>h) (ih 0 (k' 0) F wl wr _ _ (hk 0) W)
  ·simp only[hq,if_false];exact jm.step (F₁:=F) (wl₁:={wl with drawn:=wl.drawn+1}) (wr₁:={wr with drawn:=wr.drawn+1}) (s₁:=k' (q'.cut (wl.tape wl.drawn q'))) (es₁:=mh) (by simp[Sem.runT,hq,W.tape,W.drawn]) (fu.env rfl rfl rfl rfl) (λ_ _ _ _ he=>he) (λ_ h=>h)
    (ih _ _ F _ _ _ _ (hk _) (W.env rfl rfl W.os W.output W.tape (by simp[W.drawn])))
 |sys c k ih =>
  intro s' F wl wr es mh h W;have⟨f0,kL⟩:=W.some;have h0:=h f0 kL;cases s'<;>simp only[Rel]at h0;rename_i c' k';obtain⟨rfl,ahB,HY⟩:=h0;have ZN:(wl.sys c').2.os=wl.os:=by cases c'<;>first|exact Bool.noConfusion ahB|rfl
  have⟨e1,d,o,e2,e3⟩:=HV c' W.tape W.drawn W.os;simp only[Sem.runT];exact jm.step (F₁:=F) (wl₁:=(wl.sys c').2) (wr₁:=(wr.sys c').2) (s₁:=k' (wl.sys c').1) (es₁:=mh.push ⟨.output,true,false⟩) (by simp only[Sem.runT,e1]) (by rw[e2]at ZN;rw[e2,e3];exact fu.env rfl rfl ZN rfl) (λ_ _ _ _ he=>he.push trivial) (λ_ h=>h)
   (ih _ _ F _ _ _ _ (λf hf=>(h f hf).2.2 _) (by rw[e2,e3];exact W.env rfl rfl rfl W.output W.tape rfl))
 |program k ih =>
  intro s' F wl wr es mh h W;have⟨f0,kL⟩:=W.some;have h0:=h f0 kL;cases s'<;>simp only[Rel]at h0;rename_i k';exact jm.step (F₁:=F) (wl₁:=wl) (wr₁:=wr) (s₁:=k' P) (es₁:=mh) rfl (fu.refl _ _ _) (λ_ _ _ _ he=>he) (λ_ h=>h) (ih P (k' P) F wl wr _ _ (λf hf=>h f hf) W)
 |mark m k ih =>
  intro s' F wl wr es mh h W;have⟨f0,kL⟩:=W.some;have h0:=h f0 kL;cases s'<;>simp only[Rel]at h0;rename_i m' k';refine jm.step (F₁:=F) (wl₁:=wl) (wr₁:=wr) (s₁:=k') (es₁:=mh.push ⟨.mark m',false,true⟩) rfl (fu.refl _ _ _) (λ_ F' _ _ he=>he.push ?_) (λ_ h=>h) (ih k' F wl wr _ _ (λf hf=>(h f hf).2.2) W);show Lg m'=true;rw[h0.1];have:=h0.2.1;cases m<;>first|rfl|cases this
 |halt hh =>
  intro s' F wl wr es mh h W;have⟨f0,kL⟩:=W.some;have h0:=h f0 kL;cases hh with
  |_=>trivial
structure nF(P:Program)(f:Rn):Prop where
 inj:∀x y,f.b x=f.b y->x=y
 kp:∀r,f.b r<P.globals.size↔r<P.globals.size
 zero:∀t i z,P.info? t=so i->i.zero=so z->val f z=z
abbrev V(f:Rn):Value->Value->Prop:=λa b=>b=val f a
abbrev VS(f:Rn):Array Value->Array Value->Prop:=λa b=>b=a.map (val f)
abbrev AR(f:Rn):Addr->Addr->Prop:=λa b=>b=addr f a
section
variable {P:Program}{f:Rn}{α β γ δ:Type}{A:α->β->Prop}{B:γ->δ->Prop}
def xG(a:Addr)(m:Mode:=.plain):Rel P f (V f) (load a m) (load (addr f a) m):=⟨rfl,rfl,λ_=>rfl⟩
def O5(a:Addr)(v:Value)(m:Mode:=.plain):Rel P f (λ_ _=>True) (store a v m) (store (addr f a) (val f v) m):=⟨rfl,rfl,rfl,trivial⟩
def mi{o o':Obj}(ho:o'=obj f o)(hp:fl o=false):Rel P f (λr r'=>r'=f.b r) (newObj o) (newObj o'):=⟨ho,hp,λ_=>rfl⟩
def hZ(r:Nat):Rel P f Eq (shape r) (shape (f.b r)):=⟨rfl,λ_=>rfl⟩
def qc(a:Addr):Rel P f Eq (frozen a) (frozen (addr f a)):=⟨rfl,λ_=>rfl⟩
def BT(a:Addr)(n:Nat):Rel P f (λ_ _=>True) (freeze a n) (freeze (addr f a) n):=⟨rfl,rfl,trivial⟩
def jo(r:Nat):Rel P f (λo o'=>o'=obj f o) (getObj r) (getObj (f.b r)):=⟨rfl,λ_=>rfl⟩
def qd(r:Nat){o o':Obj}(ho:o'=obj f o)(hp:fl o=false):Rel P f (λ_ _=>True) (setObj r o) (setObj (f.b r) o'):=⟨rfl,ho,hp,trivial⟩
def iK(q:Question):Rel P f Eq (choose q) (choose q):=⟨rfl,λ_=>rfl⟩
def We:Rel P f Eq (sys .env) (sys .env):=⟨rfl,rfl,λ_=>rfl⟩
def dU:Rel P f (λa b=>P=a/\P=b) program program:=by simp[program,Rel]
def R9{m:Mark}(h:Lg m=true):Rel P f (λ_ _=>True) (mark m) (mark (Le f m)):=⟨rfl,h,trivial⟩
def BU:Rel P f (λ_ _=>True) (mark .noRoom) (mark .noRoom):=⟨rfl,rfl,trivial⟩
def xH{s s':Sem Unit}(h:Rel P f (λ_ _=>True) s s'){k k':Sem γ}{B:γ->γ->Prop}(hk:Rel P f B k k'):Rel P f B (s>>=λ_=>k) (s'>>=λ_=>k'):=aj h (λ_ _ _=>hk)
def tR(n:Nat):Rel P f (λ_ _=>True) (askRoom n) (askRoom n):=by
 unfold askRoom;split
 ·exact BU
 ·exact aD trivial
def fB(t:TypeId):Rel P f (λa b=>a=b/\P.info? t=so a) (typeInfo t) (typeInfo t):=by
 refine aj dU ?_;rintro a b ⟨rfl,rfl⟩;split<;>rename_i h
 ·exact aD ⟨rfl,h⟩
 ·exact aF
def bo(t:TypeId):Rel P f (λa b=>a=b/\P.underlying t=so a) (underlying t) (underlying t):=by
 refine aj dU ?_;rintro a b ⟨rfl,rfl⟩;split<;>rename_i h
 ·exact aD ⟨rfl,h⟩
 ·exact aF
def dT(t:TypeId):Rel P f Eq (sizeOf t) (sizeOf t):=by
 refine aj (fB t) ?_;rintro a b ⟨rfl,_⟩;exact aD rfl
def E6(t:TypeId):Rel P f Eq (isAgg t) (isAgg t):=by
 refine aj (bo t) ?_;rintro a b ⟨rfl,_⟩;split<;>exact aD rfl
def Av(t:TypeId):Rel P f Eq (typeStr t) (typeStr t):=by
 refine aj (fB t) ?_;rintro a b ⟨rfl,_⟩;dsimp only;split
 ·exact bc
 ·exact aD rfl
def wN(t:TypeId):Rel P f Eq (elemOf t) (elemOf t):=by
 refine aj (bo t) ?_;rintro a b ⟨rfl,_⟩;split
 ·exact aD rfl
 ·exact aF
def iF(hf:nF P f)(t:TypeId):Rel P f (λa b=>a=b/\val f a=a) (zeroValue t) (zeroValue t):=by
 refine aj (fB t) ?_;rintro a b ⟨rfl,h⟩;split<;>rename_i hz
 ·exact aD ⟨rfl,hf.zero _ _ _ h hz⟩
 ·exact bc
def xI(a:Addr):∀(n i:Nat) (acc:Array Value),Rel P f (VS f) (loadCellsFrom a i n acc) (loadCellsFrom (addr f a) i n (acc.map (val f))):=by
 intro n
 induction n with
 |zero=>intro i acc;exact aD rfl
 |succ n ih =>
  intro i acc;unfold loadCellsFrom;refine aj (A:=V f) (by rw[<- kG];exact xG _) ?_;rintro v _ rfl;have:=ih (i+1) (acc.push v);rwa[Array.map_push]at this
def nX(a:Addr)(n:Nat):Rel P f (VS f) (loadCells a n) (loadCells (addr f a) n):=by
 have:=xI (P:=P) (f:=f) a n 0 #[];unfold loadCells;simpa using this
def kX(a:Addr):∀(vs:List Value) (i:Nat),Rel P f (λ_ _=>True) (storeCells a vs i) (storeCells (addr f a) (vs.map (val f)) i):=by
 intro vs
 induction vs with
 |nil=>intro i;exact aD trivial
 |cons v vs ih =>
  intro i;simp only[aC];unfold storeCells;exact xH (by rw[<- kG];exact O5 _ _) (ih _)
def Aw(t:TypeId)(a:Addr):Rel P f (V f) (loadVar t a) (loadVar t (addr f a)):=by
 refine aj (E6 t) ?_;rintro b _ rfl;cases b
 ·exact xG a
 ·refine aj (dT t) ?_;rintro n _ rfl;refine aj (nX a n) ?_;rintro cs _ rfl;exact aD (by simp[V])
def Gg(t:TypeId)(a:Addr)(v:Value):Rel P f (λ_ _=>True) (storeVar t a v) (storeVar t (addr f a) (val f v)):=by
 refine aj (dT t) ?_;rintro n _ rfl;rw[kI];simp only[Array.size_map];split
 ·exact xH aF (by rw[cz];exact kX a _ 0)
 ·rw[cz];exact kX a _ 0
def kr(e:TypeId){c c':Array Value}(h:c'=c.map (val f)):Rel P f (AR f) (newRow e c) (newRow e c'):=by
 subst h;refine aj (mi (o:=.cells c e) (o':=.cells (c.map (val f)) e) rfl rfl) ?_;rintro r _ rfl;exact aD rfl
def wO(t:TypeId)(v:Value):Rel P f (AR f) (newVar t v) (newVar t (val f v)):=kr t (by rw[kI])
def H2(t:TypeId)(v:Value)(h:val f v=v):Rel P f (AR f) (newVar t v) (newVar t v):=by
 have:=wO (P:=P) (f:=f) t v;rwa[h]at this
def kH(t:TypeId)(cs:Array Value)(off:Nat):Rel P f (V f) (part t cs off) (part t (cs.map (val f)) off):=by
 refine aj (E6 t) ?_;rintro b _ rfl;cases b
 ·simp only[aL,aQ,if_false];cases cs[off]? with
  |none=>exact aF
  |some v=>exact aD rfl
 ·refine aj (dT t) ?_;rintro n _ rfl;exact aD (by simp[V,Array.map_extract])
def sG:RuntimeError->Bool
 | .typeAssertion ..=>false
 |_=>true
def b9(hf:nF P f)(e:RuntimeError)(he:sG e=true:=by rfl):Rel P f A (runtimePanic e) (runtimePanic e):=by
 refine aj dU ?_;rintro a b ⟨rfl,rfl⟩;cases e<;>dsimp only
 case typeAssertion i c a m =>
  exact Bool.noConfusion he
 case panicNil =>
  refine aj (wN _) ?_;rintro t _ rfl;refine aj (A:=AR f) (by have:=wO (P:=P) (f:=f) t (.agg #[]);simpa using this) ?_;rintro r _ rfl;have:=tN (P:=P) (f:=f) (A:=A) (v:=.iface P.rt.panicNilError (.pointer (so r)));simpa using this
 all_goals (simp[goPanic,Rel,strVal])
def iu(hf:nF P f)(k:IntKind)(x y:Int)(c:BoundsCode):Rel P f A (boundsPanic k x y c) (boundsPanic k x y c):=by
 unfold boundsPanic;dsimp only;split
 ·refine aj (A:=Eq) (aj (iK _) (by rintro a _ rfl;exact aD rfl)) ?_;rintro a _ rfl;exact b9 hf _
 ·exact aj (A:=Eq) (aD rfl) (by rintro a _ rfl;exact b9 hf _)
def qT(v:Value):Rel P f Eq (asIntOf v) (asIntOf (val f v)):=by
 cases v<;>simp only[cI,cQ,cg,bH,bN,bj,bF,cV,cE,cF,bK,b6,bw,cR,b8,asIntOf]
 case int=>exact aD rfl
 case pointer a=>cases a<;>first|exact bc|exact aF
 all_goals exact aF
def nG(v:Value):Rel P f Eq (asInt v) (asInt (val f v)):=aj (qT v) (by rintro a _ rfl;exact aD rfl)
def BV(v:Value):Rel P f Eq (asBool v) (asBool (val f v)):=by
 cases v<;>simp only[cI,cQ,cg,bH,bN,bj,bF,cV,cE,cF,bK,b6,bw,cR,b8,asBool]
 case bool=>exact aD rfl
 all_goals exact aF
def O6(v:Value):Rel P f (VS f) (asAgg v) (asAgg (val f v)):=by
 cases v<;>simp only[cI,cQ,cg,bH,bN,bj,bF,cV,cE,cF,bK,b6,bw,cR,b8,asAgg]
 case agg=>exact aD rfl
 all_goals exact aF
def BW(hf:nF P f)(v:Value):Rel P f (AR f) (asAddr v) (asAddr (val f v)):=by
 cases v<;>simp only[cI,cQ,cg,bH,bN,bj,bF,cV,cE,cF,bK,b6,bw,cR,b8,asAddr]
 case pointer a =>
  cases a
  ·exact b9 hf _
  ·exact aD rfl
 all_goals exact aF
def mM(v:Value):Rel P f (AR f) (Instr.sureAddr v) (Instr.sureAddr (val f v)):=by
 cases v<;>simp only[cI,cQ,cg,bH,bN,bj,bF,cV,cE,cF,bK,b6,bw,cR,b8,Instr.sureAddr]
 case pointer a =>
  cases a
  ·exact aF
  ·exact aD rfl
 all_goals exact aF
def Nz{s:Sem α}{s':Sem β}{g:α->γ}{g':β->δ}(h:Rel P f A s s')(hg:∀a b,A a b->B (g a) (g' b)):Rel P f B (Functor.map g s) (Functor.map g' s'):=by
 rw[map_eq_pure_bind,map_eq_pure_bind];exact aj h (λa b h=>aD (hg a b h))
def Eh{g g':α->Sem β}:∀(l:List α),(∀x∈l,Rel P f Eq (g x) (g' x))->Rel P f Eq (l.mapM g) (l.mapM g'):=by
 intro l
 induction l with
 |nil=>intro _;simp only[List.mapM_nil];exact aD rfl
 |cons x l ih =>
  intro h;simp only[List.mapM_cons];refine aj (h x ar) ?_;rintro a _ rfl;refine aj (ih λy hy=>h y (by simp[hy])) ?_;rintro b _ rfl;exact aD rfl
def Sa{g g':α->Sem β}(xs:Array α)(h:∀x∈xs,Rel P f Eq (g x) (g' x)):Rel P f Eq (xs.mapM g) (xs.mapM g'):=by
 rw[ft,ft];exact Nz (Eh _ (λx hx=>h x (by simpa using hx))) (by rintro a _ rfl;rfl)
def tS{g g':α->β->Sem (ForInStep β)}:∀(l:List α) (init:β),(∀x∈l,∀a,Rel P f Eq (g x a) (g' x a))->Rel P f Eq (forIn l init g) (forIn l init g'):=by
 intro l
 induction l with
 |nil=>intro _ _;simp only[List.forIn_nil];exact aD rfl
 |cons x l ih =>
  intro init h;simp only[List.forIn_cons];refine aj (h x ar init) ?_;rintro a _ rfl;cases a
  ·exact aD rfl
  ·exact ih _ λy hy=>h y (by simp[hy])
def zi{g g':α->β->Sem (ForInStep β)}(xs:Array α)(init:β)(h:∀x∈xs,∀a,Rel P f Eq (g x a) (g' x a)):Rel P f Eq (forIn xs init g) (forIn xs init g'):=by
 rw[<- fR,<- fR];exact tS _ _ (λx hx=>h x (by simpa using hx))
def oZ{g g':Nat->β->Sem (ForInStep β)}(r:Std.Legacy.Range)(init:β)(h:∀x a,Rel P f Eq (g x a) (g' x a)):Rel P f Eq (forIn r init g) (forIn r init g'):=by
 rw[fX,fX];exact tS _ _ (λx _ a=>h x a)
def O7(hf:nF P f)(e:TypeId):Rel P f (V f) (Instr.alloc e true (.tuple #[])) (Instr.alloc e true (.tuple #[])):=by
 refine aj (iF hf e) ?_;rintro z _ ⟨rfl,hz⟩;refine aj (H2 e z hz) ?_;rintro a _ rfl;exact aD (by simp[V])
def Wf(e:TypeId)(v:Value):Rel P f (V f) (Instr.box e v) (Instr.box e (val f v)):=by
 refine aj (wO e v) ?_;rintro a _ rfl;exact aD (by simp[V])
def xJ(place:Nat->Option (Nat×Nat)):∀(l:List (Nat×Value)) (cells:Array Value),
  Instr.fill place (cells.map (val f)) (l.map λx=>(x.1,val f x.2))=(Instr.fill place cells l).map λc=>c.map (val f):=by
 intro l
 induction l with
 |nil=>intro cells;rfl
 |cons x l ih =>
  intro cells;obtain⟨i,v⟩:=x;simp only[aC,Instr.fill];cases hp:place i with
  |none=>rfl
  |some y =>
   obtain⟨off,size⟩:=y;simp only[kI,Array.size_map];split
   ·rfl
   ·rw[<- ih]
    congr 1
    have:∀(l:List (Value×Nat)) (cs:Array Value),(l.map λy=>(val f y.1,y.2)).foldl (λcs (x:Value×Nat)=>cs.setIfInBounds (off+x.2) x.1) (cs.map (val f))=(l.foldl (λcs (x:Value×Nat)=>cs.setIfInBounds (off+x.2) x.1) cs).map (val f):=by
     intro l
     induction l with
     |nil=>intro cs;rfl
     |cons y l ih2=>intro cs;simp only[aC,List.foldl_cons,<- ih2,Array.map_setIfInBounds]
    have e2:=this v.cells.zipIdx.toList cells;rw[<- jq,<- jq,<- e2]
    congr 1
    apply fY;intro j;simp[List.getElem?_map,Array.getElem?_toList,Array.getElem?_zipIdx];cases v.cells[j]?<;>simp
def O8(hf:nF P f)(t:TypeId)(ps:Array (Nat×Value)):Rel P f (V f) (Instr.build t ps) (Instr.build t (ps.map λx=>(x.1,val f x.2))):=by
 refine aj (iF hf t) ?_;rintro z _ ⟨rfl,hz⟩;refine aj (bo t) ?_;rintro d _ ⟨rfl,_⟩;have hzc:z.cells=z.cells.map (val f):=by rw[<- kI,hz]
 split
 ·rename_i fields;refine aj (A:=Eq) (Sa _ λx _=>?_) ?_
  ·exact aj (dT _) (by rintro n _ rfl;exact aD rfl)
  ·rintro places _ rfl;have e:=xJ (f:=f) (places[·]?) ps.toList z.cells;rw[<- hzc]at e;simp only[Array.toList_map]at e |-;rw[e];cases Instr.fill (places[·]?) z.cells ps.toList with
   |none=>exact aF
   |some c=>exact aD (by simp[V])
 ·refine aj (dT _) ?_;rintro n _ rfl;have e:=xJ (f:=f) (λi=>so (i*n,n)) ps.toList z.cells;rw[<- hzc]at e;simp only[Array.toList_map]at e |-;rw[e];cases Instr.fill (λi=>so (i*n,n)) z.cells ps.toList with
  |none=>exact aF
  |some c=>exact aD (by simp[V])
 ·exact aF
def rX{z:Array Value}(hz:z.map (val f)=z)(n:Nat):((Array.range n).map (z[· % z.size]!)).map (val f)=(Array.range n).map (z[· % z.size]!):=by
 rw[ix];apply eA;intro i _;simp only[Function.comp];by_cases hs:0<z.size
 ·have cx:i%z.size<z.size:=Nat.mod_lt _ hs;rw[eL z _ cx];have:=congrArg (λa:Array Value=>a[i%z.size]?) hz;simp only[aL,Array.getElem?_eq_getElem cx,aJ,aA]at this;exact this
 ·have h0:z=#[]:=Array.eq_empty_of_size_eq_zero aa;subst h0;show val f default=default;simp[default,instInhabitedValue]
  first|rfl|simp[instInhabitedValue.default]
def fo{c:Prop}[Decidable c]{s:Sem PUnit}{k:Sem γ}{k':Sem δ}(hs:Rel P f (λ_ _=>True) s s)(hk:Rel P f B k k'):Rel P f B (if c then(s>>=λ_=>k)else k) (if c then(s>>=λ_=>k')else k'):=by
 split
 ·exact aj hs (λ_ _ _=>hk)
 ·exact hk
def BY(hf:nF P f)(t:TypeId)(len:Nat)(ps:Array (Nat×Value)):Rel P f (V f) (Instr.buildSlice t len ps) (Instr.buildSlice t len (ps.map λx=>(x.1,val f x.2))):=by
 refine aj (bo t) ?_;rintro d _ ⟨rfl,_⟩;split
 ·refine aj (dT _) ?_;rintro size _ rfl;dsimp only;refine fo bc ?_;split
  ·refine aj (A:=λ(a b:Array Value)=>a=b/\a.map (val f)=a) (aD ⟨rfl,ar⟩) ?_;rintro z _ ⟨rfl,hz⟩;have e:=xJ (f:=f) (λi=>so (i*size,size)) ps.toList ((Array.range (len*size)).map (z[· % z.size]!));rw[rX hz]at e;rw[cz,e];cases Instr.fill (λi=>so (i*size,size)) ((Array.range (len*size)).map (z[· % z.size]!)) ps.toList with
   |none=>exact aF
   |some c=>exact aj (kr _ rfl) (by rintro a _ rfl;exact aD (by simp[V]))
  ·refine aj (iF hf _) ?_;rintro z0 _ ⟨rfl,ZO⟩;refine aj (A:=λ(a b:Array Value)=>a=b/\a.map (val f)=a) (aD ⟨rfl,by rw[<- kI,ZO]⟩) ?_;rintro z _ ⟨rfl,hz⟩;have e:=xJ (f:=f) (λi=>so (i*size,size)) ps.toList ((Array.range (len*size)).map (z[· % z.size]!));rw[rX hz]at e;rw[cz,e];cases Instr.fill (λi=>so (i*size,size)) ((Array.range (len*size)).map (z[· % z.size]!)) ps.toList with
   |none=>exact aF
   |some c=>exact aj (kr _ rfl) (by rintro a _ rfl;exact aD (by simp[V]))
 ·exact aF
def sH(r:Nat):Rel P f (λa b=>b=a.map λx=>(addr f x.1,x.2)) (viewAt r) (viewAt (f.b r)):=by
 refine aj (hZ r) ?_;rintro x _ rfl;split
 ·exact aD rfl
 ·refine aj (jo r) ?_;rintro o _ rfl;cases o<;>exact aD rfl
def xK(r:Nat):Rel P f (λa b=>b=a.map λx=>(addr f x.1,x.2)) (numberAt r) (numberAt (f.b r)):=by
 refine aj (hZ r) ?_;rintro x _ rfl;split
 ·exact aD rfl
 ·refine aj (jo r) ?_;rintro o _ rfl;cases o<;>exact aD rfl
def wP(a:Addr):Rel P f (λ_ _=>True) (noView a) (noView (addr f a)):=by
 refine aj (sH a.block) ?_;rintro x _ rfl;simp only[Option.isSome_map];split
 ·exact bc
 ·exact aD trivial
def Lj(t:TypeId)(v:Value):Rel P f (V f) (Instr.loadAt t v) (Instr.loadAt t (val f v)) :=
 aj (mM v) (by rintro a _ rfl;exact Aw t a)
def H3(t:TypeId)(v x:Value):Rel P f (λ_ _=>True) (Instr.storeAt t v x) (Instr.storeAt t (val f v) (val f x)) :=
 aj (mM v) (by rintro a _ rfl;exact Gg t a x)
def mj(a:Addr):Rel P f Eq (byteOf a) (byteOf (addr f a)):=by
 unfold byteOf;simp only[O1,BM,wL];split
 ·exact aD rfl
 ·refine aj dU ?_;rintro _ _ ⟨rfl,rfl⟩;refine aj (wP a) ?_;rintro _ _ _;refine aj (hZ _) ?_;rintro x _ rfl;split
  ·split
   ·exact aD rfl
   ·split
    ·exact aD rfl
    ·exact aF
  ·exact aF
def BZ(a:Addr)(g:Field):Rel P f (AR f) (fieldPlace a g) (fieldPlace (addr f a) g):=by
 refine aj (dT _) ?_;rintro n _ rfl;split
 ·unfold partAt;refine aj (mj a) ?_;rintro b _ rfl;refine aj (A:=Eq) (mj _) ?_;rintro c _ rfl;refine aD ?_;simp only[AR];split<;>rfl
 ·exact aD (by simp only[AR];rw[kG])
def H4(s:TypeId)(v:Value)(i:Nat):Rel P f (V f) (Instr.fieldAt s v i) (Instr.fieldAt s (val f v) i):=by
 refine aj (bo s) ?_;rintro d _ ⟨rfl,_⟩;split
 ·split
  ·refine aj (mM v) ?_;rintro a _ rfl;refine aj (BZ a _) ?_;rintro b _ rfl;exact aD (by simp[V])
  ·exact aF
 ·exact aF
def H5(hf:nF P f)(t:TypeId)(x i:Value):Rel P f (V f) (Instr.indexAt t x i) (Instr.indexAt t (val f x) (val f i)):=by
 refine aj (qT i) ?_;rintro⟨k,n⟩ _ rfl;dsimp only;refine aj (bo t) ?_;rintro d _ ⟨rfl,_⟩;cases d with
 |array len elem =>
  simp only[];refine aj (mM x) ?_;rintro a _ rfl;refine aj (A:=λ(a b:Option Addr×Nat×TypeId)=>b=(a.1.map (addr f),a.2)) (aD rfl) ?_;rintro⟨base,len,elem⟩ _ rfl;refine aj (bo t) ?_;rintro d2 _ ⟨rfl,_⟩;cases base with
  |none=>exact iu hf _ _ _ _
  |some a =>
   simp only[aJ];split
   ·refine aj (dT elem) ?_;rintro m _ rfl;exact aD (by simp[V,kG])
   ·repeat' (first|exact bc|exact iu hf _ _ _ _|split)
 |slice elem =>
  cases x with
  |slice base len cap =>
   simp only[bF];refine aj (A:=λ(a b:Option Addr×Nat×TypeId)=>b=(a.1.map (addr f),a.2)) (aD rfl) ?_;rintro⟨base,len,elem⟩ _ rfl;refine aj (bo t) ?_;rintro d2 _ ⟨rfl,_⟩;cases base with
   |none=>exact iu hf _ _ _ _
   |some a =>
    simp only[aJ];split
    ·refine aj (dT elem) ?_;rintro m _ rfl;exact aD (by simp[V,kG])
    ·repeat' (first|exact bc|exact iu hf _ _ _ _|split)
  |_=>exact aF
 |_=>exact aF
def B0(hf:nF P f)(x:Value)(y:Nat)(c:BoundsCode):Rel P f Eq (Instr.sliceBound x y c) (Instr.sliceBound (val f x) y c):=by
 refine aj (qT x) ?_;rintro⟨k,i⟩ _ rfl;dsimp only;split
 ·exact aD rfl
 ·exact iu hf _ _ _ _
def l8(hf:nF P f)(b:Bool)(len cap:Nat)(lo hi mx:Option Value):
  Rel P f Eq (Instr.sliceBounds b len cap lo hi mx) (Instr.sliceBounds b len cap (lo.map (val f)) (hi.map (val f)) (mx.map (val f))):=by
 unfold Instr.sliceBounds;cases mx<;>cases hi<;>cases lo<;>simp only[aJ,Option.map_none,Option.isSome_some,Option.isSome_none,pure_bind];all_goals
  repeat (first|exact aF|exact aD rfl|(refine aj (A:=Eq) (B0 hf _ _ _) ?_;rintro _ _ rfl)|(refine aj (A:=Eq) aF ?_;rintro _ _ rfl))
def O9(hf:nF P f)(t:TypeId)(x:Value)(lo hi mx:Option Value):
  Rel P f (V f) (Instr.slice t x lo hi mx) (Instr.slice t (val f x) (lo.map (val f)) (hi.map (val f)) (mx.map (val f))):=by
 refine aj (bo t) ?_;rintro d _ ⟨rfl,_⟩;cases d with
 |string =>
  cases x with
  |string s =>
   simp only[bN,Option.isSome_map];refine fo aF ?_;refine aj (A:=Eq) (l8 hf false s.size s.size lo hi we) ?_;rintro⟨l,h,m⟩ _ rfl;exact aD (by simp[V])
  |_=>exact aF
 |slice elem =>
  cases x with
  |slice a len cap =>
   simp only[bF];refine aj (A:=Eq) (l8 hf true len cap lo hi mx) ?_;rintro⟨l,h,m⟩ _ rfl;refine aj (dT _) ?_;rintro n _ rfl;refine aD ?_;simp only[V,bF];split
   ·rfl
   ·cases a<;>simp[kG]
  |_=>exact aF
 |pointer arr =>
  simp only[];refine aj (BW hf x) ?_;rintro a _ rfl;refine aj (bo arr) ?_;rintro d _ ⟨rfl,_⟩;split
  ·refine aj (A:=Eq) (l8 hf false _ _ lo hi mx) ?_;rintro⟨l,h,m⟩ _ rfl;refine aj (dT _) ?_;rintro n _ rfl;refine aD ?_;simp only[V,bF,aJ];split
   ·rfl
   ·rw[kG]
  ·exact aF
 |_=>exact aF
def H6(hf:nF P f)(t:TypeId)(x:Value)(lo hi mx:Option Value):
  Rel P f (V f) (Instr.sliceAt t x lo hi mx) (Instr.sliceAt t (val f x) (lo.map (val f)) (hi.map (val f)) (mx.map (val f))):=by
 refine aj (bo t) ?_;rintro d _ ⟨rfl,_⟩;split
 ·refine aj (mM x) ?_;rintro a _ rfl;refine aj (A:=Eq) (l8 hf false _ _ lo hi mx) ?_;rintro⟨l,h,m⟩ _ rfl;refine aj (dT _) ?_;rintro n _ rfl;refine aD ?_;simp only[V,bF,aJ];split
  ·rfl
  ·rw[kG]
 ·exact O9 hf t x lo hi mx
def xL(t:TypeId)(x:Value):Rel P f (V f) (Instr.makeInterface t x) (Instr.makeInterface t (val f x)):=by
 refine aj (bo t) ?_;rintro d _ ⟨rfl,_⟩;split
 ·exact aF
 ·exact aD (by simp[V])
def H7(t:TypeId)(r:Option Value):Rel P f (V f) (Instr.makeMap t r) (Instr.makeMap t (r.map (val f))):=by
 have tail:Rel P f (V f) (do pure (.map (so (<- newObj (.map #[] 0))))) (do pure (.map (so (<- newObj (.map #[] 0))))) :=
  aj (mi (o:=.map #[] 0) (by simp[obj]) rfl) (by rintro a _ rfl;exact aD (by simp[V]))
 unfold Instr.makeMap;cases r with
 |none=>exact tail
 |some h =>
  simp only[aJ];refine aj (bo t) ?_;rintro d _ ⟨rfl,_⟩;split
  ·refine aj (nG h) ?_;rintro n _ rfl;exact tail
  ·exact aF
def Gh(hf:nF P f)(t:TypeId)(x:Value):Rel P f (V f) (Instr.makeChan t x) (Instr.makeChan t (val f x)):=by
 refine aj (nG x) ?_;rintro n _ rfl;refine aj (bo t) ?_;rintro d _ ⟨rfl,_⟩;split
 ·refine aj (fB _) ?_;rintro i _ ⟨rfl,_⟩;dsimp only;refine fo (b9 hf _) ?_;exact aj (mi (o:=.chan n.toNat #[] false 0 0 false) (by simp[obj]) rfl) (by rintro a _ rfl;exact aD (by simp[V]))
 ·exact aF
def Ei(hf:nF P f)(t:TypeId)(l c:Value):Rel P f (V f) (Instr.makeSlice t l c) (Instr.makeSlice t (val f l) (val f c)):=by
 refine aj (bo t) ?_;rintro d _ ⟨rfl,_⟩;split
 ·refine aj (nG l) ?_;rintro n _ rfl;refine aj (nG c) ?_;rintro m _ rfl;refine aj (fB _) ?_;rintro i _ ⟨rfl,_⟩;dsimp only;have pan:∀(e:RuntimeError) (k k':PUnit->Sem Value),sG e=true->Rel P f (V f) (runtimePanic e>>=k) (runtimePanic e>>=k'):=λe k k' he=>aj (A:=λ_ _=>False) (b9 hf e he) (λ_ _ h=>h.elim);split
  ·split
   ·exact pan _ _ _ rfl
   ·split
    ·exact pan _ _ _ rfl
    ·refine aj (iK _) ?_;rintro x _ rfl;exact pan _ _ _ rfl
  ·refine aj (tR _) ?_;rintro _ _ _;refine aj (dT _) ?_;rintro sz _ rfl;split
   ·refine aj (A:=λ(a b:Array Value)=>a=b/\a.map (val f)=a) (aD ⟨rfl,ar⟩) ?_;rintro z _ ⟨rfl,hz⟩;refine aj (A:=AR f) (kr _ (rX hz _).symm) ?_;rintro a _ rfl;exact aD (by simp[V])
   ·refine aj (iF hf _) ?_;rintro z0 _ ⟨rfl,ZO⟩;refine aj (A:=λ(a b:Array Value)=>a=b/\a.map (val f)=a) (aD ⟨rfl,by rw[<- kI,ZO]⟩) ?_;rintro z _ ⟨rfl,hz⟩;refine aj (A:=AR f) (kr _ (rX hz _).symm) ?_;rintro a _ rfl;exact aD (by simp[V])
 ·exact aF
def Pb(t:TypeId)(x:Value)(i:Nat):Rel P f (V f) (Instr.field t x i) (Instr.field t (val f x) i):=by
 refine aj (bo t) ?_;rintro d _ ⟨rfl,_⟩;split
 ·split
  ·refine aj (O6 x) ?_;rintro cs _ rfl;exact kH _ _ _
  ·exact aF
 ·exact aF
def Pd(hf:nF P f)(t:TypeId)(x i:Value):Rel P f (V f) (Instr.index t x i) (Instr.index t (val f x) (val f i)):=by
 refine aj (qT i) ?_;rintro⟨k,n⟩ _ rfl;dsimp only;refine aj (bo t) ?_;rintro d _ ⟨rfl,_⟩;cases d with
 |array len elem =>
  cases x with
  |agg cs =>
   simp only[cR];split
   ·refine aj (dT _) ?_;rintro m _ rfl;exact kH _ _ _
   ·exact iu hf _ _ _ _
  |_=>exact aF
 |string =>
  cases x with
  |string s =>
   simp only[bN];split
   ·exact aD (by simp[V])
   ·exact iu hf _ _ _ _
  |_=>exact aF
 |_=>exact aF
def H8(x:Value)(i:Nat):Rel P f (V f) (Instr.extract x i) (Instr.extract (val f x) i):=by
 cases x with
 |tuple vs =>
  simp only[b8,Instr.extract,aL];cases vs[i]? with
  |none=>exact aF
  |some v=>exact aD rfl
 |_=>exact aF
def Gi:Rel P f Eq Instr.panicnil Instr.panicnil:=by
 refine aj We ?_;rintro r _ rfl;split
 ·dsimp only;refine aj dU ?_;rintro _ _ ⟨rfl,rfl⟩;exact aD rfl
 ·exact aF
def Pe(hf:nF P f)(x:Value):Rel P f (V f) (Instr.panic x) (Instr.panic (val f x)):=by
 cases x with
 |iface t v=>simp only[b6,Instr.panic];have:=tN (P:=P) (f:=f) (A:=V f) (v:=.iface t v);simpa using this
 |nilIface =>
  simp only[bw,Instr.panic];refine aj Gi ?_;rintro n _ rfl;split
  ·have:=tN (P:=P) (f:=f) (A:=V f) (v:=.nilIface);simpa using this
  ·exact b9 hf _
 |_=>exact aF
def eU(a:Addr):Rel P f (λx y=>y=(addr f x.1,x.2)) (behindNumber a) (behindNumber (addr f a)):=by
 refine aj (xK a.block) ?_;rintro x _ rfl;cases x<;>exact aD rfl
def vX(a:Addr):Rel P f Eq (stringish a) (stringish (addr f a)):=by
 refine aj (qc a) ?_;rintro b _ rfl;cases b
 ·refine aj (A:=Eq) (hZ a.block) ?_;rintro x _ rfl;rcases x with _|⟨e,n⟩
  ·exact aD rfl
  ·exact qc ⟨a.block,n,we⟩
 ·exact aD rfl
def Gj(a b:Addr):Rel P f Eq (mayBeOne a b) (mayBeOne (addr f a) (addr f b)):=by
 unfold mayBeOne;refine aj (vX a) ?_;rintro x _ rfl;refine aj (vX b) ?_;rintro y _ rfl;dsimp only;refine aj (A:=Eq) (aj (hZ a.block) (by rintro u _ rfl;exact aD rfl)) ?_;rintro u _ rfl;refine aj (A:=Eq) (aj (hZ b.block) (by rintro u _ rfl;exact aD rfl)) ?_;rintro w _ rfl;exact aD rfl
def Sc(hf:nF P f)(a b:Addr):(addr f a=addr f b)=(a=b):=by
 obtain⟨x,o,s⟩:=a;obtain⟨y,p,t⟩:=b;simp only[addr,Addr.mk.injEq,eq_iff_iff];exact⟨λ⟨h,k⟩=>⟨hf.inj _ _ h,k⟩,λ⟨h,k⟩=>⟨by rw[h],k⟩⟩
def xM(hf:nF P f)(a b:Addr):(addr f a==addr f b)=(a==b):=by
 rw[en];simp only[beq_iff_eq,Sc hf]
def E7(hf:nF P f)(x y:Nat):(f.b x==f.b y)=(x==y):=by
 rw[en];simp only[beq_iff_eq];exact⟨hf.inj _ _,λh=>by rw[h]⟩
def xN(hf:nF P f)(a b:Addr):Rel P f Eq (sameAddr a b) (sameAddr (addr f a) (addr f b)):=by
 unfold sameAddr;simp only[wL,E7 hf,xM hf];split
 ·exact aD rfl
 ·refine aj (qc a) ?_;rintro x _ rfl;refine aj (qc b) ?_;rintro y _ rfl;refine fo bc ?_;refine aj (wP a) ?_;rintro _ _ _;refine aj (wP b) ?_;rintro _ _ _;refine aj (Gj a b) ?_;rintro z _ rfl;cases z
  ·exact aD rfl
  ·refine aj (iK _) ?_;rintro n _ rfl;exact aD rfl
def A4(hf:nF P f)(a b:Option Addr):Rel P f Eq (samePointer a b) (samePointer (a.map (addr f)) (b.map (addr f))):=by
 cases a<;>cases b
 case some.some a b=>exact xN hf a b
 all_goals exact aD rfl
def Sd(hf:nF P f)(r:Nat):(f.b r<P.globals.size)=(r<P.globals.size):=propext (hf.kp r)
def H9(hf:nF P f):∀(d:Nat) (t:TypeId) (x y x' y':Value),x'=val f x->y'=val f y->Rel P f Eq (Op.equalIn d t x y) (Op.equalIn d t x' y'):=by
 intro d
 induction d with
 |zero=>intro t x y x' y' _ _;exact bc
 |succ d ih =>
  intro t x y x' y' hx hy;unfold Op.equalIn;refine aj (bo t) ?_;rintro u _ ⟨rfl,_⟩;cases u
  case bool =>
   cases x<;>first|exact aF|skip
   cases y<;>first|exact aF|skip
   rw[cI]at hx hy;subst hx hy;exact aD rfl
  case string =>
   cases x<;>first|exact aF|skip
   cases y<;>first|exact aF|skip
   rw[bN]at hx hy;subst hx hy;exact aD rfl
  case unsafePointer =>
   cases x<;>first|exact aF|skip
   cases y<;>first|exact aF|skip
   rw[bj]at hx hy;subst hx hy;exact A4 hf _ _
  case chan =>
   cases x<;>first|exact aF|skip
   cases y<;>first|exact aF|skip
   rename_i a b;rw[cE]at hx hy;subst hx hy;refine aD ?_;cases a<;>cases b<;>first|rfl|skip
   rename_i a b;have:=E7 hf a b;simpa using this.symm
  case map =>
   cases x<;>first|exact aF|skip
   rename_i a;cases a<;>cases y<;>first|exact aF|skip
   all_goals (rename_i b;rw[cV]at hx hy;cases b<;>(subst hx hy;first|exact aF|exact aD rfl))
  case slice =>
   cases x<;>first|exact aF|skip
   rename_i a _ _;cases a<;>cases y<;>first|exact aF|skip
   all_goals (rename_i b _ _;rw[bF]at hx hy;cases b<;>(subst hx hy;first|exact aF|exact aD rfl))
  case func =>
   cases x<;>first|exact aF|skip
   all_goals (cases y<;>first|exact aF|skip)
   all_goals (simp only[cF,bK]at hx hy;subst hx hy;exact aD rfl)
  case float =>
   cases x<;>first|exact aF|skip
   cases y<;>first|exact aF|skip
   rw[cg]at hx hy;subst hx hy;dsimp only;split
   ·exact aD rfl
   ·exact aF
  case complex =>
   cases x<;>first|exact aF|skip
   cases y<;>first|exact aF|skip
   rw[bH]at hx hy;subst hx hy;dsimp only;split
   ·exact aD rfl
   ·exact aF
  case pointer =>
   cases x<;>first|exact aF|skip
   rename_i a;cases a<;>cases y<;>first|exact aF|skip
   all_goals (rename_i b;rw[bj]at hx hy;cases b<;>(subst hx hy;first|exact aD rfl|skip))
   rename_i a b;dsimp only[Option.map_some];refine aj (dT _) ?_;rintro n _ rfl;split
   ·exact xN hf a b
   ·rw[xM hf];split
    ·exact aD rfl
    ·refine aj (iK _) ?_;rintro n _ rfl;exact aD rfl
  case interface =>
   cases x<;>first|exact aF|skip
   all_goals (cases y<;>first|exact aF|skip)
   all_goals (simp only[b6,bw]at hx hy;subst hx hy;first|exact aD rfl|skip)
   dsimp only;split
   ·exact aD rfl
   ·refine aj (fB _) ?_;rintro i _ ⟨rfl,_⟩;split
    ·refine aj dU ?_;rintro _ _ ⟨rfl,rfl⟩;refine aj dU ?_;rintro _ _ ⟨rfl,rfl⟩;refine fo bc ?_;refine aj (Av _) ?_;rintro s _ rfl;exact b9 hf _
    ·exact ih _ _ _ _ _ rfl rfl
  case struct =>
   cases x<;>first|exact aF|skip
   cases y<;>first|exact aF|skip
   rw[cR]at hx hy;subst hx hy;dsimp only;refine aj dU ?_;rintro _ _ ⟨rfl,rfl⟩;refine fo bc ?_;refine aj (A:=Eq) (zi _ _ λg _ acc=>?_) ?_
   ·split
    ·refine aj (kH _ _ _) ?_;rintro a _ rfl;refine aj (kH _ _ _) ?_;rintro b _ rfl;refine aj (ih _ _ _ _ _ rfl rfl) ?_;rintro c _ rfl;cases c<;>exact aD rfl
    ·exact aD rfl
   ·rintro r _ rfl;try dsimp only
    split<;>exact aD rfl
  case array =>
   cases x<;>first|exact aF|skip
   cases y<;>first|exact aF|skip
   rw[cR]at hx hy;subst hx hy;dsimp only;refine aj (dT _) ?_;rintro m _ rfl;refine aj (A:=Eq) (oZ _ _ λg acc=>?_) ?_
   ·refine aj (kH _ _ _) ?_;rintro a _ rfl;refine aj (kH _ _ _) ?_;rintro b _ rfl;refine aj (ih _ _ _ _ _ rfl rfl) ?_;rintro c _ rfl;cases c<;>exact aD rfl
   ·rintro r _ rfl;try dsimp only
    split<;>exact aD rfl
  case int =>
   cases x
   case int k a =>
    cases y
    case int k' b =>
     rw[cQ]at hx hy;subst hx hy;dsimp only;split
     ·exact aD rfl
     ·exact aF
    case pointer pb =>
     rw[cQ]at hx;rw[bj]at hy;subst hx hy;cases pb
     ·exact bc
     ·rcases a with(_|_)|_
      ·exact aD rfl
      ·exact bc
      ·exact bc
    all_goals exact aF
   case pointer pa =>
    rw[bj]at hx;subst hx;cases pa
    ·cases y<;>exact bc
    ·rename_i pa;cases y
     case int k b =>
      rw[cQ]at hy;subst hy;rcases b with(_|_)|_
      ·exact aD rfl
      ·exact bc
      ·exact bc
     case pointer pb =>
      rw[bj]at hy;subst hy;cases pb
      ·exact bc
      ·rename_i pb;dsimp only[Option.map_some];refine aj (eU pa) ?_;rintro⟨a,la⟩ _ rfl;refine aj (eU pb) ?_;rintro⟨b,lb⟩ _ rfl;dsimp only;refine aj dU ?_;rintro _ _ ⟨rfl,rfl⟩;simp only[wL,E7 hf,Sd hf,xM hf];split
       ·refine aj (mj a) ?_;rintro u _ rfl;refine aj (mj b) ?_;rintro w _ rfl;exact aD rfl
       ·refine aj (fB _) ?_;rintro i _ ⟨rfl,_⟩;split
        ·split
         ·exact aD rfl
         ·exact bc
        ·exact bc
     all_goals exact bc
   all_goals (cases y<;>first|exact aF|exact bc)
  all_goals exact aF
def zj(hf:nF P f)(t:TypeId)(x y:Value):Rel P f Eq (Op.equal t x y) (Op.equal t (val f x) (val f y)):=H9 hf _ t x y _ _ rfl rfl
def vY:∀(d:Nat) (t:TypeId) (x y:Value),Rel P f Eq (Op.eqGuardIn d t x y) (Op.eqGuardIn d t (val f x) (val f y)):=by
 intro d
 induction d with
 |zero=>intro t x y;exact bc
 |succ d ih =>
  intro t x y;unfold Op.eqGuardIn;refine aj (bo t) ?_;rintro u _ ⟨rfl,_⟩;cases u
  case interface =>
   cases x<;>cases y<;>simp only[cI,cQ,cg,bH,bN,bj,bF,cV,cE,cF,bK,b6,bw,cR,b8]<;>exact aD rfl
  case struct =>
   cases x<;>cases y<;>simp only[cI,cQ,cg,bH,bN,bj,bF,cV,cE,cF,bK,b6,bw,cR,b8]<;>first|exact aD rfl|skip
   refine aj (A:=Eq) (zi _ _ λg _ acc=>?_) ?_
   ·split
    ·refine aj (kH _ _ _) ?_;rintro a _ rfl;refine aj (kH _ _ _) ?_;rintro b _ rfl;refine aj (ih _ _ _) ?_;rintro c _ rfl;cases c<;>exact aD rfl
    ·exact aD rfl
   ·rintro r _ rfl;try dsimp only
    split<;>exact aD rfl
  case array =>
   cases x<;>cases y<;>simp only[cI,cQ,cg,bH,bN,bj,bF,cV,cE,cF,bK,b6,bw,cR,b8]<;>first|exact aD rfl|skip
   refine aj (dT _) ?_;rintro m _ rfl;refine aj (A:=Eq) (oZ _ _ λg acc=>?_) ?_
   ·refine aj (kH _ _ _) ?_;rintro a _ rfl;refine aj (kH _ _ _) ?_;rintro b _ rfl;refine aj (ih _ _ _) ?_;rintro c _ rfl;cases c<;>exact aD rfl
   ·rintro r _ rfl;try dsimp only
    split<;>exact aD rfl
  all_goals exact aD rfl
def Ia(op:BinOp)(t:TypeId)(x y:Operand)(a b:Value):Rel P f (λ_ _=>True) (eqGuard op t x y a b) (eqGuard op t x y (val f a) (val f b)):=by
 unfold eqGuard;generalize hc:(!(op matches .eql|.neq))=c;cases c
 case true=>exact aD trivial
 case false =>
  simp only[aQ,if_false];cases a<;>cases b<;>simp only[cI,cQ,cg,bH,bN,bj,bF,cV,cE,cF,bK,b6,bw,cR,b8]<;>first|exact aD trivial|skip
  ·generalize Yw:((x matches .const _)||(y matches .const _))=c2;cases c2
   case true=>exact aD trivial
   case false =>
    simp only[aQ,if_false];refine aj (A:=Eq) (by have:=vY (P:=P) (f:=f) Op.maxDepth t .nilIface .nilIface;simpa using this) ?_;rintro c _ rfl;cases c
    ·exact aD trivial
    ·exact bc
  ·rename_i xs ys;refine aj dU ?_;rintro _ _ ⟨rfl,rfl⟩;refine aj dU ?_;rintro _ _ ⟨rfl,rfl⟩;split
   ·exact aD trivial
   ·refine aj (A:=Eq) (by have:=vY (P:=P) (f:=f) Op.maxDepth t (.agg xs) (.agg ys);simpa using this) ?_;rintro c _ rfl;cases c
    ·exact aD trivial
    ·exact bc
def Pf(op:UnOp)(x:Value):Rel P f (V f) (Op.unary op x) (Op.unary op (val f x)):=by
 cases x<;>simp only[cI,cQ,cg,bH,bN,bj,bF,cV,cE,cF,bK,b6,bw,cR,b8]<;>cases op<;>simp only[Op.unary,Op.intArith,Op.intBits]<;>first|exact aF|exact aD (by simp[V])|skip
 all_goals (rename_i a;cases a<;>first|exact bc|exact aF)
def xO(op:BinOp)(x y:af):Rel P f (V f) (Op.stringOp op x y) (Op.stringOp op x y):=by
 cases op<;>simp only[Op.stringOp]<;>first|exact aF|exact aD (by simp[V])|skip
 split
 ·exact bc
 ·exact aD (by simp[V])
def Pg(hf:nF P f)(op:BinOp)(t:TypeId)(k k':IntKind)(a b:Int):Rel P f (V f) (binOp op t (.int k a) (.int k' b)) (binOp op t (.int k a) (.int k' b)):=by
 cases op<;>simp only[binOp,Op.shift,Op.intArith,Op.intDiv,Op.intBits,Op.intCmp];all_goals repeat' (first|exact aF|exact b9 hf _|exact aD (by simp[V])|split)
def nY(t:TypeId)(p n:Value):Rel P f (V f) (Builtin.unsafeAdd_ #[] t #[p,n]) (Builtin.unsafeAdd_ #[] t #[val f p,val f n]):=by
 cases p<;>first|exact aF|skip
 rename_i a;rw[bj];refine aj (nG n) ?_;rintro m _ rfl;cases a with
 |none =>
  dsimp only[Option.map_none];split
  ·exact bc
  ·refine fo bc bc
 |some a =>
  dsimp only[Option.map_some];split
  ·refine aj (sH a.block) ?_;rintro x _ rfl;rw[Option.isSome_map];cases x.isSome
   ·exact aD (by simp[V])
   ·exact bc
  ·refine fo bc ?_;refine aj (A:=Eq) (hZ a.block) ?_;rintro x _ rfl;split
   ·refine aj dU ?_;rintro _ _ ⟨rfl,rfl⟩;rw[BM];split
    ·exact aD (by simp[V,addr])
    ·exact bc
   ·exact bc
def xP(a:Addr)(l:Bool):Rel P f (V f) (asNumber a l) (asNumber (addr f a) l) :=
 aj (mi (o:=.number a l) (by simp[obj]) rfl) (by rintro r _ rfl;exact aD (by simp[V]))
def pd(t:TypeId)(x y:Value):Rel P f (V f) (movedNumber t x y) (movedNumber t (val f x) (val f y)):=by
 unfold movedNumber;refine aj (bo t) ?_;rintro d _ ⟨rfl,_⟩;try dsimp only
 refine fo bc ?_;cases x
 case pointer a =>
  cases a with
  |none=>simp only[bj,Option.map_none];have:=nY (P:=P) (f:=f) t (.pointer we) y;simpa using this
  |some a =>
   simp only[bj,aJ];refine aj (eU a) ?_;rintro⟨b,l⟩ _ rfl;refine aj (A:=V f) (by have:=nY (P:=P) (f:=f) t (.pointer (so b)) y;simpa using this) ?_;rintro v _ rfl;cases v<;>simp only[cI,cQ,cg,bH,bN,bj,bF,cV,cE,cF,bK,b6,bw,cR,b8]<;>first|exact aD (by simp[V])|skip
   rename_i c;cases c
   ·exact aD (by simp[V])
   ·exact xP _ _
 all_goals simp only[cI,cQ,cg,bH,bN,bj,bF,cV,cE,cF,bK,b6,bw,cR,b8]
 all_goals exact aF
def zk(t:TypeId)(x y:Value):Rel P f (V f) (movedPointer t x y) (movedPointer t (val f x) (val f y)):=by
 unfold movedPointer;cases x
 case pointer a =>
  cases a with
  |none=>simp only[bj,Option.map_none];have:=nY (P:=P) (f:=f) t (.pointer we) y;simpa using this
  |some a =>
   simp only[bj,aJ];refine aj (xK a.block) ?_;rintro x _ rfl;simp only[Option.isSome_map];refine fo bc ?_;have:=nY (P:=P) (f:=f) t (.pointer (so a)) y;simpa using this
 all_goals simp only[cI,cQ,cg,bH,bN,bj,bF,cV,cE,cF,bK,b6,bw,cR,b8]
 all_goals exact aF
def vZ(hf:nF P f)(a b:Addr):Rel P f Eq (Op.twoPlaces a b) (Op.twoPlaces (addr f a) (addr f b)):=by
 unfold Op.twoPlaces;refine aj dU ?_;rintro _ _ ⟨rfl,rfl⟩;have e:((addr f a).block != (addr f b).block||decide ((addr f a).block>=P.globals.size))=(a.block != b.block||decide (a.block>=P.globals.size)):=by
  have h1:=E7 hf a.block b.block;have h2:=Sd hf a.block;have h3:decide (f.b a.block>=P.globals.size)=decide (a.block>=P.globals.size):=by
   rw[decide_eq_decide];simp only[eq_iff_iff]at h2;omega
  show(!(f.b a.block==f.b b.block)||decide (f.b a.block>=P.globals.size))=(!(a.block==b.block)||decide (a.block>=P.globals.size));rw[h1,h3]
 rw[e];try dsimp only
 refine fo bc ?_;refine aj (mj a) ?_;rintro x _ rfl;refine aj (mj b) ?_;rintro y _ rfl;exact aD rfl
def tT(k:IntKind)(a:Addr)(n:Int):Rel P f (V f) (Op.addrMod k a n) (Op.addrMod k (addr f a) n):=by
 unfold Op.addrMod;refine aj (A:=Eq) (hZ a.block) ?_;rintro x _ rfl;split
 ·refine aj (fB _) ?_;rintro i _ ⟨rfl,_⟩;try dsimp only
  refine fo bc ?_;refine aj (mj a) ?_;rintro x _ rfl;exact aD (by simp[V])
 ·exact bc
def Calm(P:Program){α:Type}(Q:α->Prop):Sem α->Prop
 | .pure a=>Q a
 | .choose _ k=>∀n,Calm P Q (k n)
 | .program k=>Calm P Q (k P)
 | .halt h=>oY h=true
 |_=>False
def Se{Q:α->Prop}:∀{s:Sem α},Calm P Q s->Rel P f (λa b=>a=b/\Q a) s s:=by
 intro s
 induction s with
 |pure a=>intro h;exact⟨rfl,h⟩
 |choose q k ih=>intro h;exact⟨rfl,λn=>ih n (h n)⟩
 |program k ih=>intro h;exact ih P h
 |halt hh=>intro h;exact tM h
 |_=>intro h;exact h.elim
def eJ{Q:α->Prop}{R:γ->Prop}:∀{s:Sem α} {k:α->Sem γ},Calm P Q s->(∀a,Q a->Calm P R (k a))->Calm P R (s>>=k):=by
 intro s
 induction s with
 |pure a=>intro k h hk;exact hk a h
 |choose q k ih=>intro k' h hk;exact λn=>ih n (h n) hk
 |program k ih=>intro k' h hk;exact ih P h hk
 |halt hh=>intro k h hk;exact h
 |_=>intro k h hk;exact h.elim
def Plain(v:Value):Prop:=∀f:Rn,val f v=v
def pY{s:Sem Value}(h:Calm P Plain s):Rel P f (V f) s s:=HR (Se h) (by rintro a _ ⟨rfl,h⟩;exact(h f).symm)
def B1{R:γ->Prop}{a:α}{k:α->Sem γ}(h:Calm P R (k a)):Calm P R (pure a>>=k):=h
def tq(op:BinOp)(k:FloatKind)(x y:Nat):Calm P (λv=>∃k r,v=.float k r) (Op.floatArith op k x y):=by
 have tail:∀r:Option Nat,Calm P (λv=>∃k r,v=.float k r) (match r with|some r=>(pure (.float k r):Sem Value)|none=>do pure (.float k (<- choose (.nanBits k x y)))):=by
  intro r;cases r
  ·exact λn=>⟨_,_,rfl⟩
  ·exact⟨_,_,rfl⟩
 cases op<;>first|exact tail _|trivial
def wb(op:BinOp)(k:FloatKind)(x y:Nat):Calm P (λv=>∃b,v=.bool b) (Op.floatCmp op k x y):=by
 cases op<;>simp only[Op.floatCmp]<;>first|trivial|exact⟨_,rfl⟩
def kQ(k:FloatKind)(x:Nat)(d:FloatKind):Calm P (λv=>∃k r,v=.float k r) (Conv.floatToFloat k x d):=by
 unfold Conv.floatToFloat;split
 ·exact⟨_,_,rfl⟩
 ·split
  ·exact λn=>⟨_,_,rfl⟩
  ·exact⟨_,_,rfl⟩
  ·dsimp only;split
   ·exact λn=>⟨_,_,rfl⟩
   ·exact⟨_,_,rfl⟩
def nH(op:BinOp)(k:FloatKind)(x y:Nat):Calm P (λ_=>True) (Op.Complex.arith op k x y) :=
 eJ (tq op k x y) (by rintro _ ⟨k,r,rfl⟩;trivial)
def xQ(op:BinOp)(k:FloatKind)(x y:Nat):Calm P (λ_=>True) (Op.Complex.cmp op k x y) :=
 eJ (wb op k x y) (by rintro _ ⟨b,rfl⟩;trivial)
def vi(k:FloatKind)(x:Nat)(d:FloatKind):Calm P (λ_=>True) (Op.Complex.conv k x d):=by
 unfold Op.Complex.conv
 split
 ·trivial
 ·exact eJ (kQ k x d) (by rintro _ ⟨k,r,rfl⟩;trivial)
def Gk(a b c d:Nat):Calm P (λ_=>True) (Op.Complex.product a b c d):=by
 unfold Op.Complex.product
 repeat' (first|(refine eJ (nH _ _ _ _) ?_;intro _ _)|trivial)
def tU(s a b c d:Nat):Calm P (λ_=>True) (Op.Complex.corrected s a b c d):=by
 unfold Op.Complex.corrected
 repeat' (first|(refine eJ (nH _ _ _ _) ?_;intro _ _)|trivial)
def Ej(a b c d:Nat):Calm P (λ_=>True) (Op.Complex.quotient a b c d):=by
 unfold Op.Complex.quotient;dsimp only;refine eJ (xQ _ _ _ _) ?_;intro x _;cases x;all_goals simp only[aQ,if_false,if_true]
 all_goals
  iterate 9 (refine eJ (nH _ _ _ _) ?_;intro _ _)
  refine B1 ?_
  iterate 2 (refine eJ (xQ _ _ _ _) ?_;intro _ _)
  split
  ·exact True.intro
  ·split
   ·iterate 2 (refine eJ (nH _ _ _ _) ?_;intro _ _)
    exact True.intro
   ·split
    ·exact tU _ _ _ _ _
    ·split
     ·exact tU _ _ _ _ _
     ·exact True.intro
def B4(op:BinOp)(k:FloatKind)(a b c d:Nat):Calm P Plain (Op.complexOp op k a b c d):=by
 cases op<;>simp only[Op.complexOp]<;>first|trivial|skip
 ·iterate 2 (refine eJ (nH _ _ _ _) ?_;intro _ _)
  exact λg=>ar
 ·iterate 2 (refine eJ (nH _ _ _ _) ?_;intro _ _)
  exact λg=>ar
 ·iterate 4 (refine eJ (vi _ _ _) ?_;intro _ _)
  refine eJ (Gk _ _ _ _) ?_;intro _ _
  iterate 2 (refine eJ (vi _ _ _) ?_;intro _ _)
  exact λg=>ar
 ·iterate 4 (refine eJ (vi _ _ _) ?_;intro _ _)
  refine eJ (Ej _ _ _ _) ?_;intro _ _
  iterate 2 (refine eJ (vi _ _ _) ?_;intro _ _)
  exact λg=>ar
 ·iterate 2 (refine eJ (xQ _ _ _ _) ?_;intro _ _)
  exact λg=>ar
 ·iterate 2 (refine eJ (xQ _ _ _ _) ?_;intro _ _)
  exact λg=>ar
def Ll:Value->Value->Bool
 | .int ..,.int .. | .float ..,.float .. | .complex ..,.complex .. | .string ..,.string ..=>true
 |_,_=>false
def binOp_eql(t:TypeId)(x y:Value)(h:Ll x y=false):binOp .eql t x y=(do pure (.bool (<- Op.equal t x y))):=by
 cases x<;>cases y<;>first|rfl|exact Bool.noConfusion h
def binOp_neq(t:TypeId)(x y:Value)(h:Ll x y=false):binOp .neq t x y=(do pure (.bool (!(<- Op.equal t x y)))):=by
 cases x<;>cases y<;>first|rfl|exact Bool.noConfusion h
def Ic(x y:Value):Ll (val f x) (val f y)=Ll x y:=by
 cases x<;>simp only[cI,cQ,cg,bH,bN,bj,bF,cV,cE,cF,bK,b6,bw,cR,b8]<;>cases y<;>simp only[cI,cQ,cg,bH,bN,bj,bF,cV,cE,cF,bK,b6,bw,cR,b8]<;>rfl
def Gl{α:Type}:Sem α->Bool
 | .halt h=>oY h
 |_=>false
def NA{α:Type}(s:Sem α):Prop:=Gl s=true
def zm{s:Sem α}{s':Sem β}(h:NA s):Rel P f A s s':=by
 cases s with
 |halt hh=>exact tM h
 |_=>exact Bool.noConfusion h
def E8:Value->Bool
 | .pointer _=>true
 |_=>false
def Ie(op:BinOp)(t:TypeId)(x y:Value)(hb:Ll x y=false)(hp:E8 x=false)(hq:E8 y=false)(h1:op≠.eql)(h2:op≠.neq):NA (binOp op t x y):=by
 cases op<;>first|exact absurd rfl h1|exact absurd rfl h2|skip
 all_goals (cases x<;>first|exact Bool.noConfusion hp|skip)
 all_goals (cases y<;>first|(show Gl _=true;rfl)|exact Bool.noConfusion hb|exact Bool.noConfusion hq)
def zn{Q R:α->Prop}{s:Sem α}(h:Calm P Q s)(hq:∀a,Q a->R a):Calm P R s:=by
 have:=eJ (R:=R) (k:=λa=>Sem.pure a) h (λa ha=>hq a ha);have e:(s>>=λa=>Sem.pure a)=s:=bind_pure s;rwa[e]at this
def B5(op:BinOp)(t:TypeId)(a:Option Addr)(y:Value)(hq:E8 y=false)(hi:∀k n,y≠.int k n)(h1:op≠.eql)(h2:op≠.neq):NA (binOp op t (.pointer a) y)/\NA (binOp op t y (.pointer a)):=by
 cases op<;>first|exact absurd rfl h1|exact absurd rfl h2|skip
 all_goals (cases a<;>cases y<;>first|exact Bool.noConfusion hq|exact absurd rfl (hi _ _)|exact⟨by show Gl _=true;rfl,by show Gl _=true;rfl⟩)
def Lm(hf:nF P f)(op:BinOp)(t:TypeId)(a:Option Addr)(k:IntKind)(n:Int)(h1:op≠.eql)(h2:op≠.neq):Rel P f (V f) (binOp op t (.pointer a) (.int k n)) (binOp op t (.pointer (a.map (addr f))) (.int k n)):=by
 cases op<;>first|exact absurd rfl h1|exact absurd rfl h2|exact bc|skip
 ·refine aj (bo t) ?_;rintro d _ ⟨rfl,_⟩;split
  ·have:=zk (P:=P) (f:=f) t (.pointer a) (.int k n);simpa using this
  ·have:=pd (P:=P) (f:=f) t (.pointer a) (.int k n);simpa using this
 ·show Rel P f (V f) (movedNumber t (.pointer a) (.int k (-n))) (movedNumber t (.pointer (a.map (addr f))) (.int k (-n)));have:=pd (P:=P) (f:=f) t (.pointer a) (.int k (-n));simpa using this
 ·cases a with
  |none=>exact bc
  |some a =>
   refine aj (eU a) ?_;rintro⟨c,l⟩ _ rfl;exact tT _ _ _
 ·cases a with
  |none=>exact bc
  |some a =>
   refine aj (eU a) ?_;rintro⟨c,l⟩ _ rfl;exact tT _ _ _
 all_goals (cases a<;>exact bc)
def Ln(hf:nF P f)(op:BinOp)(t:TypeId)(a:Option Addr)(k:IntKind)(n:Int)(h1:op≠.eql)(h2:op≠.neq):Rel P f (V f) (binOp op t (.int k n) (.pointer a)) (binOp op t (.int k n) (.pointer (a.map (addr f)))):=by
 cases op<;>first|exact absurd rfl h1|exact absurd rfl h2|exact bc|skip
 ·show Rel P f (V f) (movedNumber t (.pointer a) (.int k n)) (movedNumber t (.pointer (a.map (addr f))) (.int k n));have:=pd (P:=P) (f:=f) t (.pointer a) (.int k n);simpa using this
 ·cases a with
  |none=>exact bc
  |some a =>
   refine aj (eU a) ?_;rintro⟨c,l⟩ _ rfl;exact tT _ _ _
def Ig(hf:nF P f)(op:BinOp)(a b:Addr):Rel P f (V f) (Op.addrCmp op a b) (Op.addrCmp op (addr f a) (addr f b)):=by
 refine aj (vZ hf a b) ?_;rintro⟨x,y⟩ _ rfl;cases op<;>first|exact bc|exact aD (by simp[V])
def Lp(hf:nF P f)(op:BinOp)(t:TypeId)(a b:Option Addr)(h1:op≠.eql)(h2:op≠.neq):Rel P f (V f) (binOp op t (.pointer a) (.pointer b)) (binOp op t (.pointer (a.map (addr f))) (.pointer (b.map (addr f)))):=by
 cases a with
 |none=>cases b<;>cases op<;>first|exact absurd rfl h1|exact absurd rfl h2|exact bc
 |some a =>
  cases b with
  |none=>cases op<;>first|exact absurd rfl h1|exact absurd rfl h2|exact bc
  |some b =>
   cases op<;>first|exact absurd rfl h1|exact absurd rfl h2|exact bc|skip
   ·refine aj (eU a) ?_;rintro⟨c,l⟩ _ rfl;refine aj (eU b) ?_;rintro⟨d,m⟩ _ rfl;refine aj (vZ hf c d) ?_;rintro⟨x,y⟩ _ rfl;exact aD (by simp[V])
   all_goals
    refine aj (eU a) ?_;rintro⟨c,l⟩ _ rfl;refine aj (eU b) ?_;rintro⟨d,m⟩ _ rfl;exact Ig hf _ _ _
def Ph(hf:nF P f)(op:BinOp)(t:TypeId)(x y:Value):Rel P f (V f) (binOp op t x y) (binOp op t (val f x) (val f y)):=by
 by_cases hb:Ll x y=true
 ·cases x<;>cases y<;>first|exact Bool.noConfusion hb|skip
  ·simp only[cQ];exact Pg hf _ _ _ _ _ _
  ·rename_i k a k' b;simp only[cg];refine pY ?_;have q1:∀op,Calm P Plain (Op.floatArith op k a b):=λop=>zn (tq op k a b) (by rintro _ ⟨k,r,rfl⟩ g;simp);have q2:∀op,Calm P Plain (Op.floatCmp op k a b):=λop=>zn (wb op k a b) (by rintro _ ⟨r,rfl⟩ g;simp);by_cases hk:k=k'
   ·subst hk;cases op<;>simp only[binOp,ne_eq,not_true_eq_false,if_false]<;>first|exact q1 _|exact q2 _
   ·cases op<;>simp only[binOp,ne_eq,hk,not_false_eq_true,if_true]<;>trivial
  ·rename_i k a b k' c d;simp only[bH];refine pY ?_;by_cases hk:k=k'
   ·subst hk;cases op<;>simp only[binOp,ne_eq,not_true_eq_false,if_false]<;>exact B4 _ _ _ _ _ _
   ·cases op<;>simp only[binOp,ne_eq,hk,not_false_eq_true,if_true]<;>trivial
  ·rename_i a b;simp only[bN];have e:binOp op t (.string a) (.string b)=Op.stringOp op a b:=by cases op<;>rfl
   rw[e];exact xO _ _ _
 ·have hb:Ll x y=false:=by simpa using hb
  by_cases h1:op=.eql
  ·subst h1;rw[binOp_eql _ _ _ hb,binOp_eql _ _ _ (by rw[Ic];exact hb)];exact aj (zj hf t x y) (by rintro b _ rfl;exact aD (by simp[V]))
  ·by_cases h2:op=.neq
   ·subst h2;rw[binOp_neq _ _ _ hb,binOp_neq _ _ _ (by rw[Ic];exact hb)];exact aj (zj hf t x y) (by rintro b _ rfl;exact aD (by simp[V]))
   ·by_cases hp:E8 x=true
    ·cases x<;>first|exact Bool.noConfusion hp|skip
     rw[bj];by_cases hi:∃k n,y=.int k n
     ·obtain⟨k,n,rfl⟩:=hi;rw[cQ];exact Lm hf op t _ k n h1 h2
     ·by_cases hq:E8 y=true
      ·cases y<;>first|exact Bool.noConfusion hq|skip
       rw[bj];exact Lp hf op t _ _ h1 h2
      ·exact zm (B5 op t _ y (by simpa using hq) (λk n e=>hi ⟨k,n,e⟩) h1 h2).1
    ·by_cases hq:E8 y=true
     ·cases y<;>first|exact Bool.noConfusion hq|skip
      rw[bj];by_cases hi:∃k n,x=.int k n
      ·obtain⟨k,n,rfl⟩:=hi;rw[cQ];exact Ln hf op t _ k n h1 h2
      ·exact zm (B5 op t _ x (by simpa using hp) (λk n e=>hi ⟨k,n,e⟩) h1 h2).2
     ·exact zm (Ie op t x y hb (by simpa using hp) (by simpa using hq) h1 h2)
def pC(hf:nF P f)(e:Bool):∀(n:Nat) (t:TypeId) (v:Value),Rel P f Eq (Instr.checkKey e n t v) (Instr.checkKey e n t (val f v)):=by
 intro n
 induction n with
 |zero=>intro t v;exact bc
 |succ n ih =>
  intro t v;obtain⟨v',hv⟩:∃v',v'=val f v:=⟨_,rfl⟩;rw[<- hv];unfold Instr.checkKey;refine aj (bo t) ?_;rintro u _ ⟨rfl,_⟩;cases u
  case interface =>
   cases v<;>first|exact aF|skip
   ·rename_i d x;rw[b6]at hv;subst hv;dsimp only;refine aj (fB d) ?_;rintro i _ ⟨rfl,_⟩;have pan:∀(x:RuntimeError) (k k':PUnit->Sem PUnit),sG x=true->Rel P f Eq (runtimePanic x>>=k) (runtimePanic x>>=k'):=λx k k' he=>aj (A:=λ_ _=>False) (b9 hf x he) (λ_ _ h=>h.elim);split
    ·split
     ·exact pan _ _ _ rfl
     ·refine aj (Av _) ?_;rintro s _ rfl;exact pan _ _ _ rfl
    ·exact ih d x
   ·rw[bw]at hv;subst hv;exact aD rfl
  case array =>
   cases v<;>first|exact aF|skip
   rw[cR]at hv;subst hv;refine aj (A:=Eq) (oZ _ _ λi a=>?_) (by rintro _ _ rfl;exact aD rfl);refine aj (dT _) ?_;rintro m _ rfl;refine aj (kH _ _ _) ?_;rintro x _ rfl;refine aj (ih _ _) ?_;rintro _ _ rfl;exact aD rfl
  case struct =>
   cases v<;>first|exact aF|skip
   rw[cR]at hv;subst hv;refine aj (A:=Eq) (zi _ _ λi _ a=>?_) (by rintro _ _ rfl;exact aD rfl);split
   ·refine aj (kH _ _ _) ?_;rintro x _ rfl;refine aj (ih _ _) ?_;rintro _ _ rfl;exact aD rfl
   ·exact aD rfl
  all_goals exact aD rfl
abbrev found(f:Rn):Option (Nat×Value)->Option (Nat×Value)->Prop:=λa b=>b=a.map λx=>(x.1,val f x.2)
def B7(hf:nF P f)(t:TypeId)(k:Value):∀(es:List MapEntry) (i:Nat),Rel P f (found f) (Instr.findAsking t k es i) (Instr.findAsking t (val f k) (es.map (entry f)) i):=by
 intro es
 induction es with
 |nil=>intro i;exact aD rfl
 |cons e es ih =>
  intro i;simp only[aC,Instr.findAsking];refine aj (zj hf t k e.key) ?_;rintro b _ rfl;cases b
  ·exact ih _
  ·exact aD rfl
def Ih(d:TypeDesc)(x y:Value):Instr.sameNow d (val f x) (val f y)=Instr.sameNow d x y:=by
 cases d<;>first|rfl|skip
 all_goals (cases x<;>simp only[cI,cQ,cg,bH,bN,bj,bF,cV,cE,cF,bK,b6,bw,cR,b8]<;>first|rfl|skip)
 all_goals (cases y<;>simp only[cI,cQ,cg,bH,bN,bj,bF,cV,cE,cF,bK,b6,bw,cR,b8]<;>rfl)
def Ii(d:TypeDesc)(k:Value):∀(es:List MapEntry) (i:Nat),Instr.findNow d (val f k) (es.map (entry f)) i=(Instr.findNow d k es i).map λr=>r.map λx=>(x.1,val f x.2):=by
 intro es
 induction es with
 |nil=>intro i;rfl
 |cons e es ih =>
  intro i;simp only[aC,Instr.findNow];have:Instr.sameNow d (val f k) (entry f e).key=Instr.sameNow d k e.key:=Ih d k e.key;rw[this];cases Instr.sameNow d k e.key with
  |none=>rfl
  |some b =>
   cases b
   ·exact ih _
   ·rfl
def tV(hf:nF P f)(t:TypeId)(k:Value)(es:List MapEntry):Rel P f (found f) (Instr.findKey t k es) (Instr.findKey t (val f k) (es.map (entry f))):=by
 refine aj (bo t) ?_;rintro d _ ⟨rfl,_⟩;rw[Ii];cases Instr.findNow d k es 0 with
 |none=>exact B7 hf t k es 0
 |some r=>exact aD rfl
def Lq(hf:nF P f)(t:TypeId)(x i:Value)(ok:Bool):Rel P f (V f) (Instr.lookup t x i ok) (Instr.lookup t (val f x) (val f i) ok):=by
 refine aj (bo t) ?_;rintro d _ ⟨rfl,_⟩;cases d<;>first|exact aF|skip
 rename_i key elem _;have tail:∀es:Array MapEntry,Rel P f (V f) (do
   Instr.checkKey es.isEmpty 10000 key i
   let (v,ok') <- match <- Instr.findKey key i es.toList with
    |some (_,v)=>pure (v,true)
    |none=>pure (<- zeroValue elem,false)
   pure (if ok then .tuple #[v,.bool ok'] else v)) (do
   Instr.checkKey (es.map (entry f)).isEmpty 10000 key (val f i)
   let (v,ok') <- match <- Instr.findKey key (val f i) (es.map (entry f)).toList with
    |some (_,v)=>pure (v,true)
    |none=>pure (<- zeroValue elem,false)
   pure (if ok then .tuple #[v,.bool ok'] else v)):=by
  intro es;have e1:(es.map (entry f)).isEmpty=es.isEmpty:=by simp[Array.isEmpty]
  rw[e1];refine aj (pC hf _ _ _ _) ?_;rintro _ _ rfl;rw[cz];refine aj (tV hf key i es.toList) ?_;rintro r _ rfl;cases r with
  |some y =>
   refine aD ?_;cases ok<;>simp[V]
  |none =>
   refine aj (iF hf elem) ?_;rintro z _ ⟨rfl,hz⟩;refine aD ?_;cases ok<;>simp[V,hz]
 cases x<;>first|exact aF|skip
 rename_i r;rw[cV];cases r with
 |none =>
  have h:=tail #[];rw[show(#[]:Array MapEntry).map (entry f)=#[] by simp]at h;exact h
 |some r =>
  refine aj (jo r) ?_;rintro o _ rfl;cases o<;>first|exact aF|skip
  exact tail _
def Ax(hf:nF P f)(a b:Option Addr):(a.map (addr f)==b.map (addr f))=(a==b):=by
 cases a<;>cases b<;>first|rfl|skip
 rename_i a b;have:=xM hf a b;simpa using this
def B8(hf:nF P f)(a b:Option Nat):(a.map f.b==b.map f.b)=(a==b):=by
 cases a<;>cases b<;>first|rfl|skip
 rename_i a b;have:=E7 hf a b;simpa using this
def Gn(hf:nF P f):∀(n:Nat) (x y:Value),Instr.sameBits n (val f x) (val f y)=Instr.sameBits n x y:=by
 intro n
 induction n with
 |zero =>
  intro x y;cases x<;>simp only[cI,cQ,cg,bH,bN,bj,bF,cV,cE,cF,bK,b6,bw,cR,b8]<;>cases y<;>simp only[cI,cQ,cg,bH,bN,bj,bF,cV,cE,cF,bK,b6,bw,cR,b8,Instr.sameBits]
  ·rename_i a b;exact Ax hf a b
  ·rename_i a b;exact B8 hf a b
 |succ n ih =>
  intro x y;cases x<;>simp only[cI,cQ,cg,bH,bN,bj,bF,cV,cE,cF,bK,b6,bw,cR,b8]<;>cases y<;>simp only[cI,cQ,cg,bH,bN,bj,bF,cV,cE,cF,bK,b6,bw,cR,b8,Instr.sameBits,ih]
  ·rename_i a b;exact Ax hf a b
  ·rename_i a b;exact B8 hf a b
  ·rename_i a b;simp only[Array.size_map,Array.toList_map]
   congr 1
   generalize a.toList=l;generalize b.toList=m
   induction l generalizing m with
   |nil=>rfl
   |cons x l ih2 =>
    cases m with
    |nil=>rfl
    |cons y m=>simp only[aC,List.zip_cons_cons,List.all_cons,ih,ih2]
def zo(hf:nF P f)(a b:Value):Rel P f (V f) (Instr.keyThatStays a b) (Instr.keyThatStays (val f a) (val f b)):=by
 unfold Instr.keyThatStays;rw[Gn hf];split
 ·exact aD rfl
 ·refine aj (iK _) ?_;rintro n _ rfl;refine aD ?_;simp only[V];split<;>rfl
def wh(hf:nF P f)(t:TypeId)(m k v:Value):Rel P f (λ_ _=>True) (Instr.mapUpdate t m k v) (Instr.mapUpdate t (val f m) (val f k) (val f v)):=by
 refine aj (bo t) ?_;rintro d _ ⟨rfl,_⟩;cases d<;>first|exact aF|skip
 cases m<;>first|exact aF|skip
 rename_i r;rw[cV];cases r with
 |none=>exact b9 hf _
 |some r =>
  refine aj (jo r) ?_;rintro o _ rfl;cases o<;>first|exact aF|skip
  rename_i es clock;refine aj (pC hf _ _ _ _) ?_;rintro _ _ rfl;rw[cz];refine aj (tV hf _ k es.toList) ?_;rintro x _ rfl;cases x with
  |some y =>
   obtain⟨i,w⟩:=y;dsimp only[Option.map_some];refine aj (A:=V f) (by
    have:=zo (P:=P) hf (((es[i]?).map (·.key)).getD k) k;rw[show val f (((es[i]?).map (·.key)).getD k)=((((es.map (entry f))[i]?).map (·.key)).getD (val f k)) by
     simp only[aL];cases es[i]?<;>rfl]at this
    exact this) ?_
   rintro k2 _ rfl;refine qd r ?_ rfl;simp only[obj]
   congr 1
   apply jr;intro j;simp only[aS,aL];split<;>cases es[j]?<;>rfl
  |none =>
   refine qd r ?_ rfl;simp only[obj,Array.map_push];rfl
def lC{c c':Prop}[Decidable c][Decidable c']{a b:Sem α}{a' b':Sem β}(hc:c↔c')(h1:c->Rel P f A a a')(h2:¬c->Rel P f A b b'):Rel P f A (if c then a else b) (if c' then a' else b'):=by
 by_cases h:c
 ·rw[if_pos h,if_pos (hc.1 h)];exact h1 h
 ·rw[if_neg h,if_neg (λk=>h (hc.2 k))];exact h2 h
def wi{g g':Value->β->Sem (ForInStep β)}(xs:Array Value)(init:β)(h:∀x a,Rel P f Eq (g x a) (g' (val f x) a)):Rel P f Eq (forIn xs init g) (forIn (xs.map (val f)) init g'):=by
 rw[<- fR,<- fR,cz];generalize xs.toList=l
 induction l generalizing init with
 |nil=>simp only[aP,List.forIn_nil];exact aD rfl
 |cons x l ih =>
  simp only[aC,List.forIn_cons];refine aj (h x init) ?_;rintro a _ rfl;cases a
  ·exact aD rfl
  ·exact ih _
def qU(a:Addr):Rel P f (λ_ _=>True) (markStringish a) (markStringish (addr f a)):=by
 refine aj (A:=Eq) (hZ a.block) ?_;rintro x _ rfl;split
 ·exact BT _ _
 ·exact aD trivial
def xR(e:TypeId)(s:af):Rel P f (V f) (Conv.stringToBytes e s) (Conv.stringToBytes e s):=by
 refine aj (iK _) ?_;rintro c _ rfl;dsimp only;refine aj (A:=AR f) (kr _ (by simp[Function.comp_def])) ?_;rintro a _ rfl;refine aj (qU a) ?_;rintro _ _ _;exact aD (by simp[V])
def Ek(s:af):∀(n i:Nat) (acc:Array Value),acc.map (val f)=acc->(Conv.runesFrom s n i acc).map (val f)=Conv.runesFrom s n i acc:=by
 intro n
 induction n with
 |zero=>intro i acc h;exact h
 |succ n ih =>
  intro i acc h;unfold Conv.runesFrom;split
  ·exact ih _ _ (by simp[Array.map_push,h])
  ·exact h
def xS(e:TypeId)(s:af):Rel P f (V f) (Conv.stringToRunes e s) (Conv.stringToRunes e s):=by
 unfold Conv.stringToRunes;dsimp only;refine aj (iK _) ?_;rintro c _ rfl;have h:=Ek (f:=f) s s.size 0 #[] ar;refine aj (A:=AR f) (kr _ (by rw[gl,h];simp)) ?_;rintro a _ rfl;exact aD (by simp[V])
def xT(x:Value):Rel P f (V f) (Conv.bytesToString x) (Conv.bytesToString (val f x)):=by
 cases x<;>first|exact aF|skip
 rename_i a len cap;rw[bF];cases a with
 |none=>exact aD (by simp[V])
 |some a =>
  unfold Conv.bytesToString;dsimp only[Option.map_some];refine aj (nX a len) ?_;rintro cs _ rfl;refine aj (A:=Eq) (wi _ _ λc acc=>?_) ?_
  ·cases c<;>simp only[cI,cQ,cg,bH,bN,bj,bF,cV,cE,cF,bK,b6,bw,cR,b8]<;>first|exact aF|skip
   rename_i k n;cases k<;>first|exact aF|exact aD rfl
  ·rintro s _ rfl;exact aD (by simp[V])
def xU(x:Value):Rel P f (V f) (Conv.runesToString x) (Conv.runesToString (val f x)):=by
 cases x<;>first|exact aF|skip
 rename_i a len cap;rw[bF];cases a with
 |none=>exact aD (by simp[V])
 |some a =>
  unfold Conv.runesToString;dsimp only[Option.map_some];refine aj (nX a len) ?_;rintro cs _ rfl;refine aj (A:=Eq) (wi _ _ λc acc=>?_) ?_
  ·cases c<;>simp only[cI,cQ,cg,bH,bN,bj,bF,cV,cE,cF,bK,b6,bw,cR,b8]<;>first|exact aF|skip
   rename_i k n;cases k<;>first|exact aF|exact aD rfl
  ·rintro s _ rfl;exact aD (by simp[V])
def Ij(r:Nat):Rel P f Eq (cellsIn r) (cellsIn (f.b r)):=by
 refine aj (hZ r) ?_;rintro x _ rfl;split
 ·exact aD rfl
 ·refine aj (jo r) ?_;rintro o _ rfl;cases o<;>exact aD (by simp[obj])
def tt(a:Addr)(u:TypeId)(n:Nat):Rel P f Eq (variablesAt a u n) (variablesAt (addr f a) u n):=by
 refine aj dU ?_;rintro _ _ ⟨rfl,rfl⟩;refine aj (A:=Eq) (hZ a.block) ?_;rintro x _ rfl;split<;>exact aD rfl
def B9(a:Addr):Rel P f (AR f) (Conv.seenAt a) (Conv.seenAt (addr f a)):=by
 refine aj (sH a.block) ?_;rintro x _ rfl;cases x with
 |none=>exact aD rfl
 |some y =>
  obtain⟨s,u⟩:=y;dsimp only[Option.map_some];refine lC da (λ_=>aD rfl) (λ_=>?_);refine fo bc ?_;refine aj dU ?_;rintro _ _ ⟨rfl,rfl⟩;dsimp only[BM];cases byteOfCell P P.depth u a.off with
  |none=>exact bc
  |some β =>
   refine aj (A:=Eq) (hZ s.block) ?_;rintro z _ rfl;rcases z with _|⟨e,cells⟩
   ·exact bc
   ·refine fo bc ?_;cases cellAtBytes P P.depth e (cells/P.cellsOf e) s.off β with
    |none=>exact bc
    |some c=>exact aD rfl
def Ca(src dst:TypeId)(x:Value):Rel P f (V f) (Conv.unsafePointer src dst x) (Conv.unsafePointer src dst (val f x)):=by
 refine aj (bo src) ?_;rintro u _ ⟨rfl,_⟩;refine aj (bo dst) ?_;rintro w _ ⟨rfl,_⟩;obtain⟨x',hx⟩:∃x',x'=val f x:=⟨_,rfl⟩;rw[<- hx];cases u<;>first|exact aF|skip
 case pointer t =>
  cases w<;>first|exact aF|skip
  cases x<;>first|exact aF|skip
  rename_i a;rw[bj]at hx;subst hx;cases a with
  |none=>exact aD (by simp[V])
  |some a =>
   dsimp only[Option.map_some];refine aj (B9 a) ?_;rintro s _ rfl;refine aj (Ij s.block) ?_;rintro c _ rfl;refine aj (dT _) ?_;rintro n _ rfl;refine lC da (λ_=>?_) (λ_=>aD (by simp[V]));refine aj (A:=λr r'=>r'=f.b r) (mi rfl rfl) ?_;rintro r _ rfl;exact aD (by simp[V])
 case unsafePointer =>
  cases w<;>first|exact aF|skip
  case pointer t =>
   cases x<;>first|exact aF|skip
   rename_i a;rw[bj]at hx;subst hx;cases a with
   |none=>exact aD (by simp[V])
   |some a =>
    dsimp only[Option.map_some];refine aj (B9 a) ?_;rintro s _ rfl;refine aj (dT _) ?_;rintro n _ rfl;refine aj (tt s _ 1) ?_;rintro b _ rfl;refine lC da (λ_=>aD (by simp[V])) (λ_=>?_);refine aj (A:=Eq) (hZ s.block) ?_;rintro z _ rfl;rcases z with _|⟨e,cells⟩
    ·exact bc
    ·dsimp only;refine aj dU ?_;rintro _ _ ⟨rfl,rfl⟩;refine aj dU ?_;rintro _ _ ⟨rfl,rfl⟩;refine fo bc ?_;refine aj (A:=λr r'=>r'=f.b r) (mi rfl rfl) ?_;rintro r _ rfl;exact aD (by simp[V])
  case unsafePointer =>
   cases x<;>first|exact aF|skip
   rw[bj]at hx;subst hx;exact aD (by simp[V])
  case int k =>
   cases x<;>first|exact aF|skip
   rename_i a;rw[bj]at hx;subst hx;cases a with
   |none=>exact aD (by simp[V])
   |some a=>exact xP a false
 case int =>
  cases w<;>first|exact aF|skip
  cases x<;>first|exact aF|skip
  ·rename_i k n;rcases n with(_|_)|_<;>exact bc
  ·rename_i a;cases a<;>first|exact aF|exact bc
def A5(k:FloatKind)(b:Nat)(d:IntKind):Calm P Plain (Conv.floatToInt k b d):=by
 unfold Conv.floatToInt;dsimp only;split
 ·split
  ·exact λg=>ar
  ·exact λn g=>ar
 ·exact λn g=>ar
def Sf(k:FloatKind)(a b:Nat)(d:FloatKind):Calm P Plain (Conv.complexToComplex k a b d):=by
 refine eJ (kQ _ _ _) ?_;rintro _ ⟨k,r,rfl⟩;refine eJ (kQ _ _ _) ?_;rintro _ ⟨k,r,rfl⟩;exact λg=>ar
def Ik(hf:nF P f)(src dst:TypeId)(x:Value):Rel P f (V f) (convert src dst x) (convert src dst (val f x)):=by
 obtain⟨x',hx⟩:∃x',x'=val f x:=⟨_,rfl⟩;rw[<- hx];unfold convert;refine aj (bo src) ?_;rintro u _ ⟨rfl,_⟩;refine aj (bo dst) ?_;rintro w _ ⟨rfl,_⟩;have conv:Rel P f (V f) (Conv.unsafePointer src dst x) (Conv.unsafePointer src dst x'):=by rw[hx];exact Ca src dst x
 have hb:Rel P f (V f) (Conv.bytesToString x) (Conv.bytesToString x'):=by rw[hx];exact xT x
 have hr:Rel P f (V f) (Conv.runesToString x) (Conv.runesToString x'):=by rw[hx];exact xU x
 cases w
 case unsafePointer=>cases u<;>exact conv
 case int =>
  cases x<;>(simp only[cI,cQ,cg,bH,bN,bj,bF,cV,cE,cF,bK,b6,bw,cR,b8]at hx;subst hx)
  case int=>exact aD (by simp[V])
  case float=>exact pY (A5 _ _ _)
  case pointer a=>cases a<;>cases u<;>first|exact bc|exact conv
  all_goals (cases u<;>first|exact bc|exact conv)
 case float =>
  cases x<;>(simp only[cI,cQ,cg,bH,bN,bj,bF,cV,cE,cF,bK,b6,bw,cR,b8]at hx;subst hx)
  case int=>exact aD (by simp[V])
  case float=>exact pY (zn (kQ _ _ _) (by rintro _ ⟨k,r,rfl⟩ g;simp))
  case pointer a=>cases a<;>cases u<;>first|exact bc|exact conv
  all_goals (cases u<;>first|exact bc|exact conv)
 case complex =>
  cases x<;>(simp only[cI,cQ,cg,bH,bN,bj,bF,cV,cE,cF,bK,b6,bw,cR,b8]at hx;subst hx)
  case complex=>exact pY (Sf _ _ _ _)
  case pointer a=>cases a<;>cases u<;>first|exact bc|exact conv
  all_goals (cases u<;>first|exact bc|exact conv)
 case string =>
  cases x<;>(simp only[cI,cQ,cg,bH,bN,bj,bF,cV,cE,cF,bK,b6,bw,cR,b8]at hx;subst hx)
  case int=>exact aD (by simp[V])
  case string=>exact aD (by simp[V])
  case pointer a =>
   cases a<;>cases u<;>first|exact bc|exact conv|skip
   all_goals
    refine aj (bo _) ?_;rintro d _ ⟨rfl,_⟩;cases d<;>first|exact aF|skip
    rename_i k _;cases k<;>first|exact aF|exact hb|exact hr
  all_goals
   cases u<;>first|exact bc|exact conv|skip
   refine aj (bo _) ?_;rintro d _ ⟨rfl,_⟩;cases d<;>first|exact aF|skip
   rename_i k _;cases k<;>first|exact aF|exact hb|exact hr
 case slice e =>
  cases x<;>(simp only[cI,cQ,cg,bH,bN,bj,bF,cV,cE,cF,bK,b6,bw,cR,b8]at hx;subst hx)
  case string s =>
   refine aj (bo _) ?_;rintro d _ ⟨rfl,_⟩;cases d<;>first|exact aF|skip
   rename_i k _;cases k<;>first|exact aF|exact xR _ s|exact xS _ s
  case slice a len cap =>
   cases a with
   |none=>cases u<;>first|exact bc|exact conv
   |some a =>
    cases u<;>first|exact bc|exact conv|skip
    refine aj (bo _) ?_;rintro d _ ⟨rfl,_⟩;cases hsd:src==dst
    ·exact bc
    ·cases d<;>first|exact bc|skip
     rename_i k _;cases k<;>first|exact bc|skip
     refine aj (qU a) ?_;rintro _ _ _;exact aD (by simp[V])
  case pointer a=>cases a<;>cases u<;>first|exact bc|exact conv
  all_goals (cases u<;>first|exact bc|exact conv)
 all_goals
  cases x<;>(simp only[cI,cQ,cg,bH,bN,bj,bF,cV,cE,cF,bK,b6,bw,cR,b8]at hx;subst hx)
  case pointer a=>cases a<;>cases u<;>first|exact bc|exact conv
  all_goals (cases u<;>first|exact bc|exact conv)
def Wh(ts:Array TypeId)(t:TypeId)(args:Array Value):Rel P f (V f) (Builtin.len_ ts t args) (Builtin.len_ ts t (args.map (val f))):=by
 unfold Builtin.len_;rw[aL];cases ts[0]? with
 |none=>exact aF
 |some u =>
  cases args[0]? with
  |none=>exact aF
  |some x =>
   obtain⟨x',hx⟩:∃x',x'=val f x:=⟨_,rfl⟩;dsimp only[Option.map_some];rw[<- hx];refine aj (bo u) ?_;rintro d _ ⟨rfl,_⟩;cases d<;>first|exact aF|skip
   case string =>
    cases x<;>first|exact aF|skip
    rw[bN]at hx;subst hx;exact aD (by simp[V,goInt])
   case array=>exact aD (by simp[V,goInt])
   case pointer =>
    refine aj (bo _) ?_;rintro d _ ⟨rfl,_⟩;cases d<;>first|exact aF|exact aD (by simp[V,goInt])
   case slice =>
    cases x<;>first|exact aF|skip
    rw[bF]at hx;subst hx;exact aD (by simp[V,goInt])
   case map =>
    cases x<;>first|exact aF|skip
    rename_i r;rw[cV]at hx;subst hx;cases r with
    |none=>exact aD (by simp[V,goInt])
    |some r =>
     refine aj (jo r) ?_;rintro o _ rfl;cases o<;>first|exact aF|exact aD (by simp[V,goInt])
   case chan =>
    cases x<;>first|exact aF|skip
    rename_i r;rw[cE]at hx;subst hx;cases r with
    |none=>exact aD (by simp[V,goInt])
    |some r =>
     refine aj (jo r) ?_;rintro o _ rfl;cases o<;>first|exact aF|exact aD (by simp[V,goInt])
def Wi(ts:Array TypeId)(t:TypeId)(args:Array Value):Rel P f (V f) (Builtin.cap_ ts t args) (Builtin.cap_ ts t (args.map (val f))):=by
 unfold Builtin.cap_;rw[aL];cases ts[0]? with
 |none=>exact aF
 |some u =>
  cases args[0]? with
  |none=>exact aF
  |some x =>
   obtain⟨x',hx⟩:∃x',x'=val f x:=⟨_,rfl⟩;dsimp only[Option.map_some];rw[<- hx];refine aj (bo u) ?_;rintro d _ ⟨rfl,_⟩;cases d<;>first|exact aF|skip
   case array=>exact aD (by simp[V,goInt])
   case pointer =>
    refine aj (bo _) ?_;rintro d _ ⟨rfl,_⟩;cases d<;>first|exact aF|exact aD (by simp[V,goInt])
   case slice =>
    cases x<;>first|exact aF|skip
    rw[bF]at hx;subst hx;exact aD (by simp[V,goInt])
   case chan =>
    cases x<;>first|exact aF|skip
    rename_i r;rw[cE]at hx;subst hx;cases r with
    |none=>exact aD (by simp[V,goInt])
    |some r =>
     refine aj (jo r) ?_;rintro o _ rfl;cases o<;>first|exact aF|exact aD (by simp[V,goInt])
def E9(x:Value):Rel P f Eq (Builtin.lenOf x) (Builtin.lenOf (val f x)):=by
 cases x<;>simp only[cI,cQ,cg,bH,bN,bj,bF,cV,cE,cF,bK,b6,bw,cR,b8]<;>first|exact aF|exact aD rfl
def qe(s n:Nat)(x:Value):Rel P f (VS f) (Builtin.firstCells s n x) (Builtin.firstCells s n (val f x)):=by
 cases x<;>simp only[cI,cQ,cg,bH,bN,bj,bF,cV,cE,cF,bK,b6,bw,cR,b8]<;>first|exact aF|skip
 ·exact aD (by simp[VS,Function.comp_def])
 ·rename_i a _ _;cases a with
  |none=>exact aD (by simp[VS])
  |some a=>exact nX _ _
def Sg(ts:Array TypeId)(t:TypeId)(args:Array Value):Rel P f (V f) (Builtin.copy_ ts t args) (Builtin.copy_ ts t (args.map (val f))):=by
 unfold Builtin.copy_;rw[aL,aL];cases ts[0]? with
 |none=>exact aF
 |some u =>
  cases args[0]? with
  |none=>exact aF
  |some x =>
   cases args[1]? with
   |none=>exact aF
   |some y =>
    dsimp only[Option.map_some];refine aj (bo u) ?_;rintro d _ ⟨rfl,_⟩;cases d<;>first|exact aF|skip
    cases x<;>first|exact aF|skip
    rename_i a dl _;rw[bF];refine aj (E9 y) ?_;rintro n _ rfl;refine aj (dT _) ?_;rintro m _ rfl;refine aj (qe _ _ y) ?_;rintro cs _ rfl;cases a with
    |none=>exact aD (by simp[V,goInt])
    |some a =>
     dsimp only[Option.map_some];rw[cz];refine aj (kX a _ 0) ?_;rintro _ _ _;exact aD (by simp[V,goInt])
def tW(a:Addr)(n:Nat):Rel P f Eq (Builtin.holdsCells a n) (Builtin.holdsCells (addr f a) n):=by
 refine aj (A:=Eq) (hZ a.block) ?_;rintro x _ rfl;split<;>exact aD rfl
def rF{z:Array Value}(hz:z.map (val f)=z)(n:Nat):(Builtin.zeroCells z n).map (val f)=Builtin.zeroCells z n:=rX hz _
def Gp(hf:nF P f)(s l n:Nat)(b:Option Addr)(x:Value):Rel P f Eq (Builtin.mayShare s l n b x) (Builtin.mayShare s l n (b.map (addr f)) (val f x)):=by
 have tail:∀t:Bool,Rel P f Eq (do
   if !t then return true
   match x with
   | .slice (so c) _ _=>do pure (!(<- Builtin.holdsCells c (n*s))||b.any (·.block==c.block))
   |_=>pure false) (do
   if !t then return true
   match val f x with
   | .slice (so c) _ _=>do pure (!(<- Builtin.holdsCells c (n*s))||(b.map (addr f)).any (·.block==c.block))
   |_=>pure false):=by
  intro t;cases t
  ·exact aD rfl
  ·cases x<;>simp only[cI,cQ,cg,bH,bN,bj,bF,cV,cE,cF,bK,b6,bw,cR,b8]<;>first|exact aD rfl|skip
   rename_i c _ _;cases c with
   |none=>exact aD rfl
   |some c =>
    refine aj (tW c _) ?_;rintro h _ rfl;refine aD ?_;cases b with
    |none=>rfl
    |some b=>simp[E7 hf]
 unfold Builtin.mayShare;cases b with
 |none=>exact tail true
 |some a =>
  dsimp only[Option.map_some];refine aj (tW a _) ?_;rintro h _ rfl;rw[<- kG];refine aj (qc _) ?_;rintro z _ rfl;exact tail _
def Bp(e1:RuntimeError)(u:String)(elem:TypeId)(base:Option Addr)(lM ot size:Nat)(s x:Value)(mN:Bool)(n:Nat):Sem Value:=do
 let Il:Sem (Array Value) :=
  if !mN then Builtin.firstCells size n x
  else if n*size=0 then pure #[]
  else do pure (Builtin.zeroCells (<- zeroValue elem).cells n)
 let vK:=lM+n
 if vK<=ot then
  let new <- Il
  if let so a:=base then storeCells (a.add (lM*size)) new.toList
  pure (.slice base vK ot)
 else
  if (vK:Int)>IntKind.i64.max/\(mN\/(<- typeInfo elem).bytes=0)then runtimePanic e1
  if Builtin.nextslicecap vK ot*(<- typeInfo elem).bytes>2^48 then(if mN then runtimePanic e1 else do
   if !(<- Builtin.mayShare size lM n base x)then mark .noRoom
   unsupported (.resourceLimit u))
  let qf <- choose (.appendCap vK ot elem)
  askRoom (qf*(<- typeInfo elem).bytes)
  let old <- Builtin.firstCells size lM s;let new <- Il;let rest:=Builtin.zeroCells (<- zeroValue elem).cells (qf-vK)
  pure (.slice (so (<- newRow elem (old++new++rest))) vK qf)
def Gq(e0 e1:RuntimeError)(q:Question)(e2:Nat->RuntimeError)(u:String)(elem:TypeId)(base:Option Addr)(lM ot size:Nat)(s x:Value)(mN:Bool):Sem Value:=do
 let n <- if mN then do
   let l:=IntKind.i64.wrap (<- asInt x)
   if l<0 then runtimePanic e0
   if l*(<- typeInfo elem).bytes>2^48 then
    let made <- choose q
    runtimePanic (e2 made)
   pure l.toNat
  else Builtin.lenOf x
 Bp e1 u elem base lM ot size s x mN n
def Ay(hf:nF P f)(e1:RuntimeError)(h1:sG e1=true)(u:String)(elem:TypeId)(base:Option Addr)(lM ot size:Nat)(x:Value)(mN:Bool)(n:Nat):
  Rel P f (V f) (Bp e1 u elem base lM ot size (.slice base lM ot) x mN n) (Bp e1 u elem (base.map (addr f)) lM ot size (.slice (base.map (addr f)) lM ot) (val f x) mN n):=by
 have app:Rel P f (VS f) (if !mN then Builtin.firstCells size n x else if n*size=0 then pure #[] else do pure (Builtin.zeroCells (<- zeroValue elem).cells n))
   (if !mN then Builtin.firstCells size n (val f x)else if n*size=0 then pure #[] else do pure (Builtin.zeroCells (<- zeroValue elem).cells n)):=by
  cases mN
  ·exact qe _ _ _
  ·refine lC da (λh=>(by cases h)) (λ_=>?_);refine lC da (λ_=>aD (by simp[VS])) (λ_=>?_);refine aj (iF hf _) ?_;rintro z _ ⟨rfl,hz⟩;exact aD (by simp only[VS];rw[rF (by rw[<- kI,hz])])
 unfold Bp;dsimp only;refine lC da (λ_=>?_) (λ_=>?_)
 ·refine aj app ?_;rintro new _ rfl;cases base with
  |none=>exact aD (by simp[V])
  |some a =>
   dsimp only[Option.map_some];rw[cz,<- kG];refine aj (kX _ _ 0) ?_;rintro _ _ _;exact aD (by simp[V])
 ·refine aj (fB _) ?_;rintro i _ ⟨rfl,_⟩;refine fo (b9 hf _ h1) ?_;refine aj (fB _) ?_;rintro i2 _ ⟨rfl,_⟩;have rest:Rel P f (V f) (do
    let qf <- choose (.appendCap (lM+n) ot elem)
    askRoom (qf*(<- typeInfo elem).bytes)
    let old <- Builtin.firstCells size lM (.slice base lM ot);let new <- (if !mN then Builtin.firstCells size n x else if n*size=0 then pure #[] else do pure (Builtin.zeroCells (<- zeroValue elem).cells n));let rest:=Builtin.zeroCells (<- zeroValue elem).cells (qf-(lM+n))
    pure (.slice (so (<- newRow elem (old++new++rest))) (lM+n) qf)) (do
    let qf <- choose (.appendCap (lM+n) ot elem)
    askRoom (qf*(<- typeInfo elem).bytes)
    let old <- Builtin.firstCells size lM (.slice (base.map (addr f)) lM ot);let new <- (if !mN then Builtin.firstCells size n (val f x)else if n*size=0 then pure #[] else do pure (Builtin.zeroCells (<- zeroValue elem).cells n));let rest:=Builtin.zeroCells (<- zeroValue elem).cells (qf-(lM+n))
    pure (.slice (so (<- newRow elem (old++new++rest))) (lM+n) qf)):=by
   refine aj (iK _) ?_;rintro c _ rfl;refine aj (fB _) ?_;rintro i _ ⟨rfl,_⟩;refine aj (tR _) ?_;rintro _ _ _;refine aj (A:=VS f) (by have:=qe (P:=P) (f:=f) size lM (.slice base lM ot);rwa[bF]at this) ?_;rintro old _ rfl;refine aj app ?_;rintro new _ rfl;refine aj (iF hf _) ?_;rintro z _ ⟨rfl,hz⟩;refine aj (A:=AR f) (kr _ (by rw[gl,gl,rF (by rw[<- kI,hz])])) ?_;rintro a _ rfl;exact aD (by simp[V])
  refine lC da (λ_=>?_) (λ_=>rest);cases mN
  ·refine aj (A:=λ_ _=>False) ?_ (λ_ _ h=>h.elim);refine aj (Gp hf _ _ _ _ _) ?_;rintro b _ rfl;cases b
   ·exact xH BU bc
   ·exact bc
  ·exact aj (A:=λ_ _=>False) (b9 hf _ h1) (λ_ _ h=>h.elim)
def Az(hf:nF P f)(e0 e1:RuntimeError)(q:Question)(e2:Nat->RuntimeError)(h0:sG e0=true)(h1:sG e1=true)(h2:∀n,sG (e2 n)=true)(u:String)(elem:TypeId)(base:Option Addr)(lM ot size:Nat)(x:Value)(mN:Bool):
  Rel P f (V f) (Gq e0 e1 q e2 u elem base lM ot size (.slice base lM ot) x mN) (Gq e0 e1 q e2 u elem (base.map (addr f)) lM ot size (.slice (base.map (addr f)) lM ot) (val f x) mN):=by
 unfold Gq;cases mN
 ·refine aj (E9 x) ?_;rintro n _ rfl;exact Ay hf _ h1 _ _ _ _ _ _ _ _ _
 ·dsimp only;refine lC da (λ_=>?_) (λh=>absurd rfl h);refine aj (nG x) ?_;rintro n _ rfl;refine fo (b9 hf _ h0) ?_;refine aj (fB _) ?_;rintro i _ ⟨rfl,_⟩;refine lC da (λ_=>?_) (λ_=>?_)
  ·refine aj (iK _) ?_;rintro m _ rfl;exact aj (A:=λ_ _=>False) (b9 hf _ (h2 _)) (λ_ _ h=>h.elim)
  ·exact Ay hf _ h1 _ _ _ _ _ _ _ _ _
def Lr(hf:nF P f)(ts:Array TypeId)(t:TypeId)(args:Array Value):Rel P f (V f) (Builtin.append_ ts t args) (Builtin.append_ ts t (args.map (val f))):=by
 unfold Builtin.append_;rw[aL,aL];cases ts[0]? with
 |none=>exact aF
 |some u =>
  cases args[0]? with
  |none=>exact aF
  |some s =>
   cases args[1]? with
   |none=>exact aF
   |some x =>
    refine aj (bo u) ?_;rintro d _ ⟨rfl,_⟩;cases d<;>first|exact aF|skip
    cases s<;>first|exact aF|skip
    rename_i elem _ base lM ot;show Rel P f (V f) _ (match val f (.slice base lM ot) with|.slice base lM ot=>_|_=>_);rw[bF];refine aj (dT _) ?_;rintro size _ rfl;cases ts[1]? with
    |none=>exact Az hf .nilDeref _ .zeroSizeEq (λ_=>.nilDeref) rfl rfl (λ_=>rfl) _ elem base lM ot size x false
    |some xt =>
     refine aj (bo xt) ?_;rintro d _ ⟨rfl,_⟩;refine aj (A:=Eq) (aD rfl) ?_;rintro z _ rfl;exact Az hf _ _ _ _ rfl rfl (λ_=>rfl) _ elem base lM ot size x z
def Si(x y:Value):Rel P f (V f) (Builtin.min2 x y) (Builtin.min2 (val f x) (val f y)):=by
 cases x
 case int =>
  cases y<;>simp only[cI,cQ,cg,bH,bN,bj,bF,cV,cE,cF,bK,b6,bw,cR,b8]<;>first|exact aF|exact aD (by simp[V])|skip
  rename_i a;cases a<;>first|exact aF|exact bc
 case float =>
  cases y<;>simp only[cI,cQ,cg,bH,bN,bj,bF,cV,cE,cF,bK,b6,bw,cR,b8]<;>first|exact aF|skip
  ·refine pY ?_;unfold Builtin.min2;rename_i k a k' b;dsimp only;generalize k.format.order a b=o;rcases o with _|(_|_|_)
   ·exact λn g=>ar
   all_goals exact λg=>ar
  ·rename_i a;cases a<;>first|exact aF|exact bc
 case string =>
  cases y<;>simp only[cI,cQ,cg,bH,bN,bj,bF,cV,cE,cF,bK,b6,bw,cR,b8]<;>first|exact aF|skip
  ·refine aj (xO _ _ _) ?_;rintro v _ rfl;refine aj (BV v) ?_;rintro b _ rfl;exact aD (by simp[V])
  ·rename_i a;cases a<;>first|exact aF|exact bc
 case pointer a =>
  rw[bj];cases a with
  |none =>
   cases y<;>first|exact aF|skip
   rename_i b;cases b<;>first|exact aF|exact bc
  |some a=>cases y<;>exact bc
 all_goals
  cases y<;>first|exact aF|skip
  rename_i b;cases b<;>first|exact aF|exact bc
def Wj(ts:Array TypeId)(t:TypeId)(args:Array Value):Rel P f (V f) (Builtin.min_ ts t args) (Builtin.min_ ts t (args.map (val f))):=by
 unfold Builtin.min_;rw[cz];cases args.toList with
 |nil=>exact aF
 |cons x l =>
  simp only[aC]
  induction l generalizing x with
  |nil=>exact aD rfl
  |cons y l ih =>
   simp only[aC,List.foldlM_cons];refine aj (Si x y) ?_;rintro z _ rfl;exact ih z
def El:∀(n:Nat) (a:Addr) (acc:af),Rel P f Eq (loadBytes a acc n) (loadBytes (addr f a) acc n):=by
 intro n
 induction n with
 |zero=>intro a acc;exact aD rfl
 |succ n ih =>
  intro a acc;unfold loadBytes;refine aj (xG a) ?_;rintro v _ rfl;cases v<;>simp only[cI,cQ,cg,bH,bN,bj,bF,cV,cE,cF,bK,b6,bw,cR,b8]<;>first|exact aF|skip
  rename_i k b;cases k<;>first|exact aF|skip
  rw[<- kG];exact ih _ _
def vL(ts:Array TypeId)(t:TypeId)(x:Value):Rel P f (V f) (Builtin.unsafeSliceData_ ts t #[x]) (Builtin.unsafeSliceData_ ts t #[val f x]):=by
 cases x<;>first|exact aF|skip
 rename_i a len c;rw[bF];cases a with
 |none=>exact aD (by simp[V])
 |some a =>
  show Rel P f (V f) (if c≠0 then _ else _) (if c≠0 then _ else _);refine lC da (λ_=>aD (by simp[V])) (λ_=>?_);refine aj (sH a.block) ?_;rintro v _ rfl;refine lC ar (λ_=>aD (by simp[V])) (λ_=>?_);refine aj (wN t) ?_;rintro e _ rfl;refine aj (A:=λr r'=>r'=f.b r) (mi rfl rfl) ?_;rintro r _ rfl;exact aD (by simp[V])
def zp(hf:nF P f)(ts:Array TypeId)(t:TypeId)(x y:Value):Rel P f (V f) (Builtin.unsafeString_ ts t #[x,y]) (Builtin.unsafeString_ ts t #[val f x,val f y]):=by
 cases x<;>first|exact aF|skip
 rename_i a;rw[bj];refine aj (nG y) ?_;rintro n _ rfl;cases ts[0]? with
 |none=>exact aF
 |some pt =>
  refine fo (b9 hf _) ?_;refine fo bc ?_;cases a with
  |none=>exact lC da (λ_=>aD (by simp[V])) (λ_=>b9 hf _)
  |some a =>
   refine lC da (λ_=>aD (by simp[V])) (λ_=>?_);refine aj (wN pt) ?_;rintro e _ rfl;refine aj (tt a e _) ?_;rintro b _ rfl;cases b
   ·exact bc
   ·refine aj (El _ a _) ?_;rintro s _ rfl;refine aj (BT a _) ?_;rintro _ _ _;exact aD (by simp[V])
end
def jc(L:Nat->Bool)(f:Rn):Next->Next->Prop
 | .value v,.value v'=>v'=val f v
 | .skip,.skip=>True
 | .enter g args,.enter g' Yx=>g'=g/\L g=true/\Yx=args.map (val f)
 |_,_=>False
def zq(c:Call):Builtin->Bool
 | .append|.cap|.clear|.copy|.delete|.len|.min=>true
 | .unsafeString=>c.args.size==2
 | .unsafeSliceData=>c.args.size==1
 |_=>false
def Ls(c:Call):Bool :=
 match c.callee with
 | .builtin b=>zq c b
 | .value _=>true
 | .invoke ..=>false
def tD(L:Nat->Bool):Op->Bool
 | .move _|.assign _|.pick .. | .alloc _|.box .. | .build .. | .buildSlice .. | .load .. | .store .. | .nilCheck _|.binOp .. | .unOp .. | .convert .. | .makeInterface .. | .makeMap .. | .makeChan .. | .makeSlice .. | .slice .. | .fieldAddr .. | .field .. | .indexAddr .. | .index .. | .lookup .. | .mapUpdate .. | .insert .. | .extract .. | .panic ..=>true
 | .makeFunc (.func n) _ _=>L n
 | .call c=>Ls c
 |_=>false
section
variable {P:Program}{f:Rn}
def tX{s s':Sem Unit}(h:Rel P f (λ_ _=>True) s s'):Rel P f (V f) (do s;pure (.tuple #[])) (do s';pure (.tuple #[])):=aj h (λ_ _ _=>aD (by simp[V]))
def Lt(hf:nF P f)(ts:Array TypeId)(t:TypeId)(args:Array Value):Rel P f (V f) (Builtin.delete_ ts t args) (Builtin.delete_ ts t (args.map (val f))):=by
 unfold Builtin.delete_;simp only[aL];cases h0:ts[0]? with
 |none=>exact aF
 |some mt =>
  cases h1:args[0]? with
  |none=>exact aF
  |some m =>
   cases h2:args[1]? with
   |none=>exact aF
   |some k =>
    simp only[aJ];refine aj (bo mt) ?_;rintro d _ ⟨rfl,_⟩;cases d<;>first|exact aF|skip
    cases m<;>first|exact aF|skip
    rename_i r;rw[cV];cases r with
    |none=>exact tX (HR (pC hf _ _ _ _) (λ_ _ _=>trivial))
    |some r =>
     refine aj (jo r) ?_;rintro o _ rfl;cases o<;>first|exact aF|skip
     rename_i es clock;simp only[obj];rw[show(Array.map (entry f) es).isEmpty=es.isEmpty by simp[Array.isEmpty]];refine aj (pC hf _ _ _ _) ?_;rintro _ _ rfl;rw[cz];refine aj (tV hf _ k es.toList) ?_;rintro x _ rfl;cases x with
     |some y =>
      obtain⟨i,w⟩:=y;dsimp only[Option.map_some];refine tX (qd r ?_ rfl);simp only[obj]
      congr 1
      unfold Array.eraseIdxIfInBounds;simp only[Array.size_map];split
      ·rename_i hi;apply Array.ext';simp only[Array.toList_eraseIdx,Array.toList_map];clear hi;generalize es.toList=l
       induction l generalizing i with
       |nil=>rfl
       |cons x l ih=>cases i with
        |zero=>rfl
        |succ i=>simp only[aC,List.eraseIdx_cons_succ,ih]
      ·rfl
     |none =>
      refine tX (qd r ?_ rfl);rfl
def Pj(hf:nF P f)(ts:Array TypeId)(t:TypeId)(args:Array Value):Rel P f (V f) (Builtin.clear_ ts t args) (Builtin.clear_ ts t (args.map (val f))):=by
 unfold Builtin.clear_;simp only[aL];cases h0:ts[0]? with
 |none=>exact aF
 |some mt =>
  cases h1:args[0]? with
  |none=>exact aF
  |some m =>
   simp only[aJ];refine aj (bo mt) ?_;rintro d _ ⟨rfl,_⟩;cases m<;>first|(cases d<;>exact aF)|skip
   ·rename_i a n c;rw[bF];cases a with
    |none=>cases d<;>exact aD (by simp[V])
    |some a =>
     cases n with
     |zero=>cases d<;>exact aD (by simp[V])
     |succ n =>
      cases d<;>first|exact aF|skip
      simp only[aJ];refine aj (iF hf _) ?_;rintro z _ ⟨rfl,hz⟩;have:=kX (P:=P) (f:=f) a (Builtin.zeroCells z.cells (n+1)).toList 0;rw[<- cz,rF (by rw[<- kI,hz])]at this;exact tX this
   ·rename_i r;rw[cV];cases r with
    |none=>cases d<;>exact aD (by simp[V])
    |some r =>
     cases d;all_goals
      refine aj (jo r) ?_;rintro o _ rfl;cases o<;>first|exact aF|skip
      exact tX (qd r (by simp[obj]) rfl)
end
section
variable {P:Program}{f:Rn}{L:Nat->Bool}{ρ ρ':Operand->Value}
def iL{s s':Sem Value}(h:Rel P f (V f) s s'):Rel P f (jc L f) (do pure (.value (<- s))) (do pure (.value (<- s'))):=aj h (by rintro v _ rfl;exact aD rfl)
def Sj{s s':Sem Unit}(h:Rel P f (λ_ _=>True) s s'):Rel P f (jc L f) (do s;pure .skip) (do s';pure .skip):=aj h (λ_ _ _=>aD trivial)
def Cb(hf:nF P f)(hL:∀n,L n=true->f.h n=n)(hC:∀n,L n=true->∀args,Rel P f (jc L f) (callFunc n args) (callFunc n (args.map (val f))))(o:Oper)(jl:tD L o.op=true)(pD:∀x∈o.op.operands,ρ' x=val f (ρ x))(rG:∀x∈o.op.operands,∀g a b,ρ x=.func g a b->∃n,g=.func n/\L n=true):
  Rel P f (jc L f) (execOp ρ o) (execOp ρ' o):=by
 obtain⟨dst,op,ty,pos,after,guard⟩:=o;cases op<;>first|exact Bool.noConfusion jl|skip
 all_goals simp only[Op.operands,Array.mem_append,List.mem_toArray,bM,dh,or_false,Option.mem_toArray,forall_eq_or_imp,forall_eq]at pD rG
 case move x=>simp only[execOp];exact aD (by simp only[jc];exact pD)
 case assign x=>simp only[execOp];exact aD (by simp only[jc];exact pD)
 case pick c a b =>
  simp only[execOp,pD.1,pD.2.1,pD.2.2];refine aj (BV _) ?_;rintro t _ rfl;exact aD (by simp only[jc];split<;>rfl)
 case alloc e=>exact iL (O7 hf e)
 case box e x=>simp only[execOp,pD];exact iL (Wf e _)
 case load t a=>simp only[execOp,pD];exact iL (Lj t _)
 case store t a x=>simp only[execOp,pD.1,pD.2];exact Sj (H3 t _ _)
 case binOp op t x y g =>
  simp only[execOp,pD.1,pD.2];refine iL ?_;exact xH (Ia _ _ _ _ _ _) (Ph hf _ _ _ _)
 case unOp op t x=>simp only[execOp,pD];exact iL (Pf _ _)
 case convert s d x=>simp only[execOp,pD];exact iL (Ik hf _ _ _)
 case makeInterface t x=>simp only[execOp,pD];exact iL (xL _ _)
 case makeChan t x=>simp only[execOp,pD];exact iL (Gh hf _ _)
 case makeSlice t l c=>simp only[execOp,pD.1,pD.2];exact iL (Ei hf _ _ _)
 case fieldAddr s x i=>simp only[execOp,pD];exact iL (H4 _ _ _)
 case field s x i=>simp only[execOp,pD];exact iL (Pb _ _ _)
 case indexAddr t x i=>simp only[execOp,pD.1,pD.2];exact iL (H5 hf _ _ _)
 case index t x i=>simp only[execOp,pD.1,pD.2];exact iL (Pd hf _ _ _)
 case lookup t x i ok=>simp only[execOp,pD.1,pD.2];exact iL (Lq hf _ _ _ _)
 case mapUpdate t m k v=>simp only[execOp,pD.1,pD.2.1,pD.2.2];exact Sj (wh hf _ _ _ _)
 case insert t m k v=>simp only[execOp,pD.1,pD.2.1,pD.2.2];exact Sj (wh hf _ _ _ _)
 case extract t i=>simp only[execOp,pD];exact iL (H8 _ _)
 case panic x=>simp only[execOp,pD];exact iL (Pe hf _)
 case makeMap t r =>
  simp only[execOp];refine iL ?_;have e:r.map ρ'=(r.map ρ).map (val f):=by
   cases r with
   |none=>rfl
   |some x=>simp at pD |-;exact pD
  rw[e];exact H7 _ _
 case build t ps =>
  simp only[execOp];refine iL ?_;have e:(ps.map λx=>(x.1,ρ' x.2))=(ps.map λx=>(x.1,ρ x.2)).map λx=>(x.1,val f x.2):=by
   rw[ix];apply eA;intro x hx;simp only[Function.comp,pD x.2 (List.mem_map.2 ⟨x,by simpa using hx,rfl⟩)]
  rw[e];exact O8 hf _ _
 case buildSlice t n ps =>
  simp only[execOp];refine iL ?_;have e:(ps.map λx=>(x.1,ρ' x.2))=(ps.map λx=>(x.1,ρ x.2)).map λx=>(x.1,val f x.2):=by
   rw[ix];apply eA;intro x hx;simp only[Function.comp,pD x.2 (List.mem_map.2 ⟨x,by simpa using hx,rfl⟩)]
  rw[e];exact BY hf _ _ _
 case slice t x lo hi mx =>
  simp only[execOp];refine iL ?_;have e:∀r:Option Operand,(∀y,y∈r->ρ' y=val f (ρ y))->r.map ρ'=(r.map ρ).map (val f):=by
   intro r h;cases r with
   |none=>rfl
   |some x=>simp[h x rfl]
  rw[e lo (λy hy=>pD y (.inl (.inl (.inr hy)))),e hi (λy hy=>pD y (.inl (.inr hy))),e mx (λy hy=>pD y (.inr hy)),pD x (.inl (.inl (.inl rfl)))];exact H6 hf _ _ _ _ _
 case nilCheck x =>
  simp only[execOp];rw[pD];cases hx:ρ x<;>simp only[cI,cQ,cg,bH,bN,bj,bF,cV,cE,cF,bK,b6,bw,cR,b8]
  case pointer a =>
   cases a
   ·exact b9 hf _
   ·exact aD (by simp[jc])
  case func g a b =>
   obtain⟨n,rfl,hn⟩:=rG g a b hx;exact aD (by simp[jc])
  case nilIface=>exact b9 hf _
  case nilFunc=>exact b9 hf _
  all_goals exact aD (by simp[jc])
 case makeFunc g first captured =>
  cases g<;>first|exact Bool.noConfusion jl|skip
  rename_i n;have hn:L n=true:=jl;simp only[execOp];refine iL ?_;have e:∀r:Array Operand,(∀y,y∈r->ρ' y=val f (ρ y))->r.map ρ'=(r.map ρ).map (val f):=by
   intro r h;rw[ix];apply eA;intro y hy;exact h y hy
  rw[e first (λy hy=>pD y (by simp[hy])),e captured (λy hy=>pD y (by simp[hy]))];exact aD (by simp[V,tL,hL n hn])
 case call c =>
  have e:∀r:Array Operand,(∀y,y∈r->ρ' y=val f (ρ y))->r.map ρ'=(r.map ρ).map (val f):=by
   intro r h;rw[ix];apply eA;intro y hy;exact h y hy
  obtain⟨callee,args,tys⟩:=c;simp only[Call.operands]at pD rG;simp only[execOp,resolve];cases callee with
  |invoke r m=>exact Bool.noConfusion jl
  |builtin b =>
   have ea:=e args (λy hy=>pD y (by simpa using hy));have h:∀s s':Sem Value,Rel P f (V f) s s'->Rel P f (jc L f) (do pure (.value (<- s))) (do pure (.value (<- s'))):=λ_ _ h=>iL h;show Rel P f (jc L f) (builtin b tys ty _ (args.map ρ)) (builtin b tys ty _ (args.map ρ'));rw[ea];cases b<;>first|exact Bool.noConfusion jl|skip
   ·exact iL (Lr hf _ _ _)
   ·exact iL (Wi _ _ _)
   ·exact iL (Pj hf _ _ _)
   ·exact iL (Sg _ _ _)
   ·exact iL (Lt hf _ _ _)
   ·exact iL (Wh _ _ _)
   ·exact iL (Wj _ _ _)
   ·have fy:args.size=1:=by simpa[tD,Ls,zq] using jl
    obtain⟨x,hx⟩:∃x,args.map ρ=#[x]:=by
     match args,fy with
     | ⟨[x]⟩,_=>exact⟨ρ x,ar⟩
    rw[hx];have:=vL (P:=P) (f:=f) tys ty x;exact iL (by simpa using this)
   ·have fy:args.size=2:=by simpa[tD,Ls,zq] using jl
    obtain⟨x,y,Yw⟩:∃x y,args.map ρ=#[x,y]:=by
     match args,fy with
     | ⟨[x,y]⟩,_=>exact⟨ρ x,ρ y,ar⟩
    rw[Yw];have:=zp (P:=P) hf tys ty x y;exact iL (by simpa using this)
  |value x =>
   have ea:=e args (λy hy=>pD y (by simp[hy]));have ex:=pD x ar;show Rel P f (jc L f) (Deferred.ofValue (ρ x) (args.map ρ)>>=λd=>invoke d.target d.args) (Deferred.ofValue (ρ' x) (args.map ρ')>>=λd=>invoke d.target d.args);rw[ea,ex];cases hx:ρ x<;>simp only[cI,cQ,cg,bH,bN,bj,bF,cV,cE,cF,bK,b6,bw,cR,b8]<;>first|exact aF|skip
   ·rename_i g a b;obtain⟨n,rfl,hn⟩:=rG x ar g a b hx;show Rel P f (jc L f) (callFunc n ((a++args.map ρ)++b)) (callFunc (f.h n) ((a.map (val f)++(args.map ρ).map (val f))++b.map (val f)));rw[hL n hn,<- gl,<- gl];exact hC n hn _
   ·show Rel P f (jc L f) (runtimePanic .nilDeref) (runtimePanic .nilDeref);exact b9 hf _
end
def wQ:Value->Bool
 | .bool _|.int .. | .float .. | .complex .. | .string _|.pointer we|.slice we _ _|.map we|.chan we|.nilFunc|.nilIface=>true
 |_=>false
def Cc:Value->Bool
 | .agg cs=>cs.all wQ
 | .tuple vs=>vs.all wQ
 | .iface _ v=>wQ v
 |v=>wQ v
def wR{v:Value}(h:wQ v=true)(f:Rn):val f v=v:=by
 cases v<;>first|exact Bool.noConfusion h|skip
 case slice a _ _=>cases a<;>first|exact Bool.noConfusion h|simp
 case pointer a=>cases a<;>first|exact Bool.noConfusion h|simp
 case map a=>cases a<;>first|exact Bool.noConfusion h|simp
 case chan a=>cases a<;>first|exact Bool.noConfusion h|simp
 all_goals simp
def wS{v:Value}(h:Cc v=true)(f:Rn):val f v=v:=by
 have arr:∀cs:Array Value,cs.all wQ=true->cs.map (val f)=cs:=by
  intro cs hc;rw[ig]at hc;apply ja
  ·simp
  ·intro i h1 h2;simp only[Array.getElem_map];exact wR (hc i h2) f
 cases v
 case iface t v=>rw[b6,wR (show wQ v=true from h) f]
 case agg cs=>rw[cR,arr _ h]
 case tuple cs=>rw[b8,arr _ h]
 all_goals (refine wR ?_ f;exact h)
def vj(G:Nat)(L:Nat->Bool):Operand->Bool
 | .tmp _=>true
 | .const v=>Cc v
 | .global g=>decide (g<G)
 | .func n=>L n
def tY(G:Nat)(L:Nat->Bool)(o:Oper):Bool:=tD L o.op&&o.op.operands.all (vj G L)
def kM(G:Nat)(L:Nat->Bool):Code->Bool
 | .skip|.label _|.exit _|.goto _|.ret|.refuse _=>true
 | .region _ ops _=>ops.all (tY G L)
 | .seq a b=>kM G L a&&kM G L b
 | .cond c a b=>vj G L c&&kM G L a&&kM G L b
 | .block _ c|.loop c|.scope c=>kM G L c
 | .rangeFunc ..=>false
def nI(G:Nat)(L:Nat->Bool):Item->Bool
 | .code c|.inLoop c|.inScope c=>kM G L c
 | .inBlock _=>true
 | .inRegion ops _=>ops.all (tY G L)
 |_=>false
structure vM(G:Nat)(L:Nat->Bool)(fr:Frame):Prop where
 defers:fr.defers=[]
 round:fr.roundOf=we
 kind:fr.kind=.normal
 fn:L fr.fn=true
 todo:∀i∈fr.todo,nI G L i=true
 mode:fr.mode=.run\/fr.mode=.returning
def frame(f:Rn)(fr:Frame):Frame:={fr with tmps:=fr.tmps.map (val f)}
section
variable {G:Nat}{L:Nat->Bool}
def Pk{id:Nat}:∀{k k':List Item},exitTo id k=so k'->∀i∈k',i∈k:=by
 intro k
 induction k with
 |nil=>intro k' h;cases h
 |cons x k ih =>
  intro k' h i hi;cases x<;>simp only[exitTo]at h
  case inBlock j =>
   split at h
   ·cases h;exact bE _ hi
   ·exact bE _ (ih h i hi)
  all_goals exact bE _ (ih h i hi)
def Gr:∀{c c':Code} {l:Nat},findLabel c l=so c'->kM G L c=true->kM G L c'=true:=by
 intro c
 induction c with
 |seq a b iha ihb =>
  intro c' l h jl;simp only[kM,bf]at jl;simp only[findLabel]at h;split at h
  ·rename_i r hr;cases h;simp only[kM,bf];exact⟨iha hr jl.1,jl.2⟩
  ·exact ihb h jl.2
 |label m =>
  intro c' l h jl;simp only[findLabel]at h;split at h
  ·cases h;rfl
  ·cases h
 |_=>intro c' l h jl;simp only[findLabel]at h;cases h
def Pm{l:Nat}:∀{k k':List Item},gotoIn l k=so k'->(∀i∈k,nI G L i=true)->∀i∈k',nI G L i=true:=by
 intro k
 induction k with
 |nil=>intro k' h;cases h
 |cons x k ih =>
  intro k' h jl i hi;have hk:∀i∈k,nI G L i=true:=λi hi=>jl i (bE _ hi);cases x<;>simp only[gotoIn]at h
  case inScope body =>
   have hb:kM G L body=true:=jl (.inScope body) ar;split at h
   ·rename_i rest hr;cases h;simp only[bM]at hi;rcases hi with rfl|rfl|hi
    ·exact Gr hr hb
    ·exact hb
    ·exact hk i hi
   ·exact ih h hk i hi
  all_goals exact ih h hk i hi
def Cd(P:Program)(fn:FuncId)(es:Array Event):∀e∈seen P fn es,e∈es:=by
 have key:∀(g:Bool×Array Event->Event->Bool×Array Event),(∀st a,∀e∈(g st a).2,e∈st.2\/e=a)->∀(l:List Event) (st:Bool×Array Event),(∀e∈st.2,e∈es)->(∀e∈l,e∈es)->∀e∈(l.foldl g st).2,e∈es:=by
  intro g hg l
  induction l with
  |nil=>intro st h _ e he;exact h e he
  |cons a l ih =>
   intro st h hl e he;simp only[List.foldl_cons]at he;refine ih _ ?_ (λe he=>hl e (bE _ he)) e he;intro e he;rcases hg st a e he with he|rfl
   ·exact h e he
   ·exact hl _ ar
 unfold seen;dsimp only;rw[<- jq];refine key _ ?_ es.toList _ ar (λe he=>by simpa using he);rintro⟨q,kept⟩ a e he;dsimp only at he;split at he
 ·exact .inl he
 ·dsimp only at he;split at he
  ·exact .inl he
  ·rcases Array.mem_push.1 he with he|rfl
   ·exact .inl he
   ·exact .inr rfl
end
structure PF(P:Program)(L:Nat->Bool)(Gm:Nat)(F:jC):Prop where
 low:∀r,r<Gm->F.K r/\F.φ r=r
 L:F.L=λn=>L n=true
 G:F.G=P.globals.size
 A3:E1 F
structure rT(P:Program)(L:Nat->Bool)(Gm:Nat):Prop where
 zero:∀t i z,P.info? t=so i->i.zero=so z->∀f:Rn,val f z=z
 call:∀n,L n=true->∀f,nF P f->(∀n,L n=true->f.h n=n)->∀args,Rel P f (jc L f) (callFunc n args) (callFunc n (args.map (val f)))
 body:∀n,L n=true->∃fn,P.funcs[n]?=so fn/\∀c,fn.body=so c->kM Gm L c=true
section
variable {P:Program}{L:Nat->Bool}{Gm:Nat}{F:jC}{wl wr:ae}{f:Rn}
def PF.ok(h:PF P L Gm F)(hP:rT P L Gm)(hf:F.has f):nF P f :=
 ⟨hf.inj,by rw[<- h.G];exact hf.kp,λt i z h1 h2=>hP.zero t i z h1 h2 f⟩
def PF.fn(h:PF P L Gm F)(hf:F.has f):∀n,L n=true->f.h n=n:=λn hn=>hf.fn n (by rw[h.L];exact hn)
def PF.NC{F':jC}{aX p9:ae}(h:PF P L Gm F)(m:fu F F' wl wr aX p9):PF P L Gm F' :=
 ⟨λr hr=>⟨m.K r (h.low r hr).1,(m.φ r (h.low r hr).1).trans (h.low r hr).2⟩,m.L.trans h.L,m.G.trans h.G,m.A3 h.A3⟩
def Ce(h:PF P L Gm F)(hP:rT P L Gm)(hf:F.has f)(fr:Frame)(x:Operand)(hx:vj Gm L x=true):(frame f fr).eval x=val f (fr.eval x):=by
 cases x with
 |tmp t =>
  simp only[Frame.eval,frame,bU,aL];cases fr.tmps[t]? with
  |none=>simp[lB]
  |some v=>rfl
 |const v=>simp only[Frame.eval];exact(wS hx f).symm
 |global g =>
  have hg:g<Gm:=by simpa[vj] using hx
  simp only[Frame.eval,bj,aJ,V7];rw[hf.at_ g (h.low g hg).1,(h.low g hg).2]
 |func n =>
  simp only[Frame.eval,cF,tL];rw[PF.fn h hf n hx];simp
def Im(ops:Array Oper)(tmps:Array Value):yielded ops (tmps.map (val f))=yielded ops tmps:=by
 funext j;unfold yielded;cases hb:(ops[j]?).bind (·.dst) with
 |none=>rfl
 |some d =>
  simp only[Option.bind_some,aL];cases tmps[d]? with
  |none=>rfl
  |some v=>cases v<;>simp
def Cf(W:WR F wl wr)(h:PF P L Gm F){v v':Value}(hv:∀f,F.has f->v'=val f v):∀g a b,v=.func g a b->∃n,g=.func n/\L n=true:=by
 intro g a b e;subst e;have⟨f1,f2,h1,h2,_,hh,ht,hm⟩:=W.two;have e:=(hv f1 h1).symm.trans (hv f2 h2);simp only[cF,Value.func.injEq]at e;cases g with
 |func n =>
  refine⟨n,rfl,?_⟩;refine aN λhn=>?_;refine hh n (by rw[h.L];exact hn) ?_;have:=e.1;simp only[tL,Fn.func.injEq]at this;exact this
 |method s=>exact absurd (by have:=e.1;simpa[tL] using this) (hm s)
 |methodOf t s=>exact absurd (by have:=e.1;simpa[tL] using this) (hm s)
 |via t p n q=>exact absurd (by have:=e.1;simpa[tL] using this) (ht t)
 |yield l=>exact absurd (by have:=e.1;simpa[tL] using this) (ht l)
def Cg{G:Nat}(fr:Frame)(v:Value)(h:∀i∈fr.todo,nI G L i=true):(frame f fr).finish (val f v)=frame f (fr.finish v):=by
 cases ht:fr.todo with
 |nil=>simp[Frame.finish,frame,ht]
 |cons i k =>
  have hi:=h i (by simp[ht]);cases i<;>first|exact Bool.noConfusion hi|(simp[Frame.finish,frame,ht];done)|skip
  rename_i ops todo;cases todo with
  |nil=>simp[Frame.finish,frame,ht]
  |cons j rest =>
   simp only[Frame.finish,frame,ht];cases (ops[j]?).bind (·.dst) with
   |none=>rfl
   |some d=>simp[Array.map_setIfInBounds]
def zt{G:Nat}{fr:Frame}(h:vM G L fr)(v:Value):vM G L (fr.finish v):=by
 obtain⟨h1,h2,h3,h4,h5,h6⟩:=h;cases ht:fr.todo with
 |nil =>
  have e:fr.finish v=fr:=by simp[Frame.finish,ht]
  rw[e];exact⟨h1,h2,h3,h4,h5,h6⟩
 |cons i k =>
  have hi:=h5 i (by simp[ht]);have hk:∀i∈k,nI G L i=true:=λi hi=>h5 i (by simp[ht,hi]);by_cases hr:∃ops j rest,i=.inRegion ops (j::rest)
  ·obtain⟨ops,j,rest,rfl⟩:=hr;refine⟨?_,?_,?_,?_,?_,?_⟩<;>simp only[Frame.finish,ht]
   ·exact h1
   ·exact h2
   ·exact h3
   ·exact h4
   ·intro x hx;simp only[bM]at hx;rcases hx with rfl|hx
    ·exact hi
    ·exact hk x hx
   ·exact h6
  ·have e:fr.finish v=fr:=by
    cases i<;>first|exact Bool.noConfusion hi|(simp[Frame.finish,ht];done)|skip
    rename_i ops todo;cases todo with
    |nil=>simp[Frame.finish,ht]
    |cons j rest=>exact absurd ⟨_,_,_,rfl⟩ hr
   rw[e];exact⟨h1,h2,h3,h4,h5,h6⟩
end
def fI(w:ae):Prop:=∀(r:Nat) (o:Obj),w.heap[r]?=so o->fl o=false
def ZP{α:Type}:Result α->Prop
 | .ok _ w=>fI w
 | .halt h _=>oY h=true\/∃v,h=.panic v
def wj{w:ae}(hw:fI w){a:Addr}{what:String}:oY (w.noCell a what)=true:=by
 unfold World.noCell;split
 ·rename_i c e hc;have:=hw _ _ hc;cases this
 ·rfl
 ·rfl
def Ch{p:Program}{w:ae}(hw:fI w){a:Addr}{at_:Bool}{h:Halt}(hh:w.farLoad p a at_=.error h):oY h=true:=by
 unfold World.farLoad at hh;split at hh
 ·split at hh
  ·cases hh
  ·cases hh;rfl
 ·cases hh;exact wj hw
def A6{p:Program}{w:ae}(hw:fI w){a:Addr}{v:Value}{at_:Bool}{h:Halt}(hh:w.farStore p a v at_=.error h):oY h=true:=by
 unfold World.farStore at hh;split at hh
 ·split at hh
  ·cases hh
  ·cases hh;rfl
 ·cases hh;exact wj hw
def fI.modify{w:ae}(hw:fI w)(b:Nat)(g:Obj->Obj)(hg:∀o,fl (g o)=fl o):fI {w with heap:=w.heap.modify b g}:=by
 intro r o ho;simp only[getElem?_modify]at ho;split at ho
 ·cases hx:w.heap[r]? with
  |none=>rw[hx]at ho;cases ho
  |some x=>rw[hx]at ho;cases ho;rw[hg];exact hw r x hx
 ·exact hw r o ho
def fI.set{w:ae}(hw:fI w)(b:Nat)(x:Obj)(hx:fl x=false):fI {w with heap:=w.heap.setIfInBounds b x}:=by
 intro r o ho;by_cases hb:b<w.heap.size
 ·have⟨_,h1,h2⟩:=qa w.heap b x hb;by_cases e:r=b
  ·subst e;simp only[h1]at ho;cases ho;exact hx
  ·simp only[h2 r e]at ho;exact hw r o ho
 ·rw[show w.heap.setIfInBounds b x=w.heap from Array.setIfInBounds_eq_of_size_le aa]at ho;exact hw r o ho
def fI.push{w:ae}(hw:fI w)(x:Obj)(hx:fl x=false):fI {w with heap:=w.heap.push x}:=by
 intro r o ho;simp only[Array.getElem?_push]at ho;split at ho
 ·cases ho;exact hx
 ·exact hw r o ho
def fI.heap{w w':ae}(hw:fI w)(h:w'.heap=w.heap):fI w':=λr o ho=>hw r o (by rw[<- h];exact ho)
def Gs(w:ae)(hw:fI w)(a:Addr)(v:Value):fI (w.setCell a v):=by
 unfold World.setCell;exact fI.modify hw _ _ (λo=>by cases o<;>rfl)
def sI{P:Program}{f:Rn}{α β:Type}{A:α->β->Prop}:∀(s:Sem α) (s':Sem β) (w:ae) (es:Array Event),Rel P f A s s'->fI w->ZP (s.runT P w es).1:=by
 intro s
 induction s with
 |pure a=>intro s' w es h hw;exact hw
 |load m x k ih =>
  intro s' w es h hw;cases s'<;>simp only[Rel]at h;simp only[Sem.runT];split
  ·exact ih _ _ w _ (h.2.2 _) hw
  ·split
   ·exact ih _ _ w _ (h.2.2 _) hw
   ·rename_i hh;exact .inl (Ch hw hh)
 |store m x v k ih =>
  intro s' w es h hw;cases s'<;>simp only[Rel]at h;by_cases cp:(∃c,v=.agg c)\/∃c,v=.tuple c
  ·rcases cp with⟨c,rfl⟩|⟨c,rfl⟩
   ·exact .inl rfl
   ·exact .inl rfl
  ·rw[ir (λc e=>cp (.inl ⟨c,e⟩)) (λc e=>cp (.inr ⟨c,e⟩))];split
   ·split
    ·exact .inl rfl
    ·exact ih _ _ _ h.2.2.2 (Gs w hw _ _)
   ·split
    ·rename_i w1 ts hfs;have⟨b,u,h1,h2⟩:=tP hfs;refine ih _ _ _ h.2.2.2 ?_;obtain⟨c,e,z,_,_,rfl,_⟩:=rE (f:=⟨λx=>x,λx=>x,λx=>x,λx=>x⟩) (wr:={w with heap:=w.heap.map (obj ⟨λx=>x,λx=>x,λx=>x,λx=>x⟩)}) (at':=b) (k':=x) ar rfl rfl rfl rfl h2;exact hw.set _ _ rfl
    ·rename_i hh;exact .inl (A6 hw hh)
 |new o k ih =>
  intro s' w es h hw;cases s'<;>simp only[Rel]at h;exact ih _ _ _ _ (h.2.2 _) (hw.push _ h.2.1)
 |shape r k ih =>
  intro s' w es h hw;cases s'<;>simp only[Rel]at h;exact ih _ _ w _ (h.2 _) hw
 |freeze a n k ih =>
  intro s' w es h hw;cases s'<;>simp only[Rel]at h;refine ih _ _ _ h.2.2 ?_;by_cases hn:n=0
  ·subst hn;simpa[World.freeze] using hw
  ·rw[oq _ _ _ hn];exact hw.modify _ _ (λo=>BS _ _ o)
 |frozen a k ih =>
  intro s' w es h hw;cases s'<;>simp only[Rel]at h;exact ih _ _ w _ (h.2 _) hw
 |getObj r k ih =>
  intro s' w es h hw;cases s'<;>simp only[Rel]at h;simp only[Sem.runT];split
  ·exact .inl rfl
  ·exact ih _ _ w _ (h.2 _) hw
  ·exact .inl rfl
 |setObj r o k ih =>
  intro s' w es h hw;cases s'<;>simp only[Rel]at h;simp only[Sem.runT];split
  ·exact .inl rfl
  ·exact ih _ _ _ h.2.2.2 (hw.set _ _ h.2.2.1)
  ·exact .inl rfl
 |choose q k ih =>
  intro s' w es h hw;cases s'<;>simp only[Rel]at h;simp only[Sem.runT];split
  ·exact ih _ _ w _ (h.2 _) hw
  ·exact ih _ _ _ _ (h.2 _) (fI.heap hw rfl)
 |sys c k ih =>
  intro s' w es h hw;cases s'<;>simp only[Rel]at h;simp only[Sem.runT];have⟨_,d,o,e2,_⟩:=HV c (wl:=w) (wr:=w) rfl rfl rfl;exact ih _ _ _ _ (h.2.2 _) (fI.heap hw (by rw[e2]))
 |program k ih =>
  intro s' w es h hw;cases s'<;>simp only[Rel]at h;exact ih _ _ w _ h hw
 |mark m k ih =>
  intro s' w es h hw;cases s'<;>simp only[Rel]at h;exact ih _ _ _ h.2.2 hw
 |halt hh =>
  intro s' w es h hw;cases hh with
  |panic v=>exact .inr ⟨v,rfl⟩
  |_=>exact .inl (by cases s'<;>exact h)
section
open Go.Conc (G)
section
variable {P:Program}{L:Nat->Bool}{Gm:Nat}{F:jC}{wl wr:ae}{f:Rn}
def Lu{α:Type}{g g':α->Sem Value}:∀(l:List α),(∀x∈l,Rel P f (V f) (g x) (g' x))->Rel P f (λ(a b:List Value)=>b=a.map (val f)) (l.mapM g) (l.mapM g'):=by
 intro l
 induction l with
 |nil=>intro _;simp only[List.mapM_nil];exact aD rfl
 |cons x l ih =>
  intro h;simp only[List.mapM_cons];refine aj (h x ar) ?_;rintro a _ rfl;refine aj (ih λy hy=>h y (by simp[hy])) ?_;rintro b _ rfl;exact aD ar
def qW(hf:nF P f)(fn:Func)(tmps:Array Value):Rel P f (V f) (results fn tmps) (results fn (tmps.map (val f))):=by
 unfold results;have hg:∀t,(tmps.map (val f)).getD t undef=val f (tmps.getD t undef):=by
  intro t;simp only[bU,aL];cases tmps[t]? with
  |none=>simp[lB]
  |some v=>rfl
 refine aj (A:=VS f) ?_ ?_
 ·rw[ft,ft];refine Nz (Lu _ λx _=>?_) ?_
  ·cases x with
   |tmp t=>simp only[hg];exact aD rfl
   |cell a t =>
    simp only[hg];refine aj (BW hf _) ?_;rintro x _ rfl;exact Aw t x
  ·rintro a _ rfl;simp[VS]
 ·rintro vs _ rfl;refine aD ?_;simp only[V];by_cases h:vs.size=1
  ·rw[dif_pos h,dif_pos (by simpa using h)];simp
  ·rw[dif_neg h,dif_neg (by simpa using h)];simp
def Out(P:Program)(L:Nat->Bool)(Gm:Nat)(m':Bool)(ov csr:List Frame)(F:jC)(wl wr:ae)(wT:Frame)(abr:List Frame)(g':aZ)(aX:ae):Prop :=
 ∃F' ND ZQ Lv Lw p9 mh,g'=G ND (ZQ++ov)/\vM Gm L ND/\(∀c∈ZQ,vM Gm L c) /\
  stepG P m' (G wT (abr++csr)) wr=.go (G Lv (Lw++csr)) p9 mh/\(∀f,F'.has f->Lv=frame f ND/\Lw=ZQ.map (frame f)) /\
  WR F' aX p9/\fu F F' wl wr aX p9/\(∀e∈mh,xD F' e)/\PF P L Gm F'/\(∀f,F'.has f->F.has f)/\fI aX
section
variable {fr:Frame}{cs:List Frame}{s:Sem Next}{w w':ae}{el:Array Event}
def ow{v:Value}(hk:fr.kind=.normal)(h:s.runT P w #[]=(.ok (.value v) w',el)):stepG.apply P true fr cs we s w=.go (G (fr.finish v) cs) w' (seen P fr.fn el):=by
 simp only[stepG.apply,if_true,h,hk,GStep.after,G,cv];rfl
def qg(hk:fr.kind=.normal)(h:s.runT P w #[]=(.ok .skip w',el)):stepG.apply P true fr cs we s w=.go (G (fr.finish undef) cs) w' (seen P fr.fn el):=by
 simp only[stepG.apply,if_true,h,hk,GStep.after,G,cv];rfl
def oy{g:FuncId}{args:Array Value}(hk:fr.kind=.normal)(ht:∃ops td k,fr.todo=.inRegion ops td::k)(h:s.runT P w #[]=(.ok (.enter g args) w',el)):stepG.apply P true fr cs we s w=.go (G (Frame.enter P g args .normal) (fr::cs)) w' (seen P fr.fn el):=by
 obtain⟨ops,td,k,ht⟩:=ht;simp only[stepG.apply,if_true,h,hk,GStep.after,G,ht,cv];rfl
def Lx{h:Halt}(hh:oY h=true)(hr:(s.runT P w #[]).1=.halt h w'){g':aZ}{w2:ae}{es:Array Event}(hg:stepG.apply P true fr cs we s w=.go g' w2 es):False:=by
 rcases hx:s.runT P w #[] with⟨r,el⟩;rw[hx]at hr;subst hr;cases h<;>first|exact Bool.noConfusion hh|skip
 ·rename_i u;cases u<;>first|exact Bool.noConfusion hh|(simp only[stepG.apply,if_true,hx,GStep.after]at hg;cases hg)
 ·simp only[stepG.apply,if_true,hx,GStep.after]at hg;cases hg
def Io{v:Value}(hr:(s.runT P w #[]).1=.halt (.panic v) w'){g':aZ}{w2:ae}{es:Array Event}(hg:stepG.apply P true fr cs we s w=.go g' w2 es):∃chain,g'.frame.mode=.panicking chain:=by
 rcases hx:s.runT P w #[] with⟨r,el⟩;rw[hx]at hr;subst hr;simp only[stepG.apply,if_true,hx,GStep.after]at hg;cases hg;simp only[Frame.raise];split<;>exact⟨_,rfl⟩
end
abbrev Fr(fn:FuncId)(tmps:Array Value)(todo:List Item)(mode:FrameMode):Frame:={fn,tmps,todo,defers:=[],mode,kind:=.normal,roundOf:=we}
def iy{m':Bool}{ov csr ab abr:List Frame}{fn:FuncId}{tmps tr:Array Value}{todo NF:List Item}{mode Ip:FrameMode}(hP:PF P L Gm F)(W:WR F wl wr)(vN:fI wl)(rU:∀c∈ab,vM Gm L c)(nJ:∀f,F.has f->abr=ab.map (frame f))(wm:∀f,F.has f->tr=tmps.map (val f))(rG:L fn=true)(ht2:∀i∈NF,nI Gm L i=true)(VH:Ip=.run\/Ip=.returning)(h3:stepG P m' (G (Fr fn tr todo mode) (abr++csr)) wr=.go (G (Fr fn tr NF Ip) (abr++csr)) wr #[]):
  Out P L Gm m' ov csr F wl wr (Fr fn tr todo mode) abr (G (Fr fn tmps NF Ip) (ab++ov)) wl :=
 ⟨F,Fr fn tmps NF Ip,ab,_,abr,wr,#[],rfl,⟨rfl,rfl,rfl,rG,ht2,VH⟩,rU,h3,λf hf=>⟨by rw[wm f hf];rfl,nJ f hf⟩,W,fu.refl _ _ _,ar,hP,λ_ h=>h,vN⟩
def tZ(dc:rT P L Gm){g:FuncId}(hg:L g=true)(args:Array Value):vM Gm L (Frame.enter P g args .normal):=by
 have⟨AA,rY,fF⟩:=dc.body g hg;refine⟨rfl,rfl,rfl,hg,?_,.inl rfl⟩;intro i hi;simp only[Frame.enter,rY,Option.bind_some,List.mem_singleton]at hi;subst hi;cases hb:AA.body with
 |none=>rfl
 |some c=>exact fF c hb
def Pn(g:FuncId)(args:Array Value):Frame.enter P g (args.map (val f)) .normal=frame f (Frame.enter P g args .normal):=by
 simp only[Frame.enter,frame,Array.map_append,Array.size_map,Array.map_replicate,lB]
def Iq(dc:rT P L Gm)(hP:PF P L Gm F)(W:WR F wl wr)(vN:fI wl){m m':Bool}{ov csr ab abr:List Frame}{fr wT:Frame}(Yy:vM Gm L fr)(rU:∀c∈ab,vM Gm L c)(hr:∀f,F.has f->wT=frame f fr/\abr=ab.map (frame f)){g':aZ}{aX:ae}{es:Array Event}(hgo:stepG P m (G fr (ab++ov)) wl=.go g' aX es)(cJ:g'.status=.running)(hdy:g'.dying=we)(jX:g'.frame.mode=.run\/g'.frame.mode=.returning)(Wk:ab≠[]\/fr.mode=.run):Out P L Gm m' ov csr F wl wr wT abr g' aX:=by
 have⟨f0,kL⟩:=W.some;obtain⟨hd,tu,hk,rG,Ir,Is⟩:=Yy;obtain⟨fn,tmps,todo,defers,mode,kind,ro⟩:=fr;simp only at hd tu hk rG Ir Is Wk;subst hd tu hk;obtain⟨tr,Em,wm⟩:∃tr,wT=Fr fn tr todo mode/\∀f,F.has f->tr=tmps.map (val f):=by
  refine⟨tmps.map (val f0),(hr f0 kL).1,λf hf=>?_⟩;have:=(hr f0 kL).1.symm.trans (hr f hf).1;simp only[frame,Frame.mk.injEq]at this;exact this.2.1
 subst Em;have nJ:∀f,F.has f->abr=ab.map (frame f):=λf hf=>(hr f hf).2;rcases Is with Is|Is
 ·
  subst Is;cases todo with
  |nil =>
   simp only[G,stepG,stepG.exec]at hgo;cases hgo;exact iy hP W vN rU nJ wm rG Ir (.inr rfl) (by simp only[G,stepG,stepG.exec,if_true])
  |cons i k =>
   have hi:=Ir i ar;have lD:∀i∈k,nI Gm L i=true:=λi hi=>Ir i (by simp[hi]);have two:∀{a b:Item},nI Gm L a=true->nI Gm L b=true->∀i∈a::b::k,nI Gm L i=true:=by
    intro a b ha hb i hi;simp only[bM]at hi;rcases hi with rfl|rfl|hi
    ·exact ha
    ·exact hb
    ·exact lD i hi
   have one:∀{a:Item},nI Gm L a=true->∀i∈a::k,nI Gm L i=true:=by
    intro a ha i hi;simp only[bM]at hi;rcases hi with rfl|hi
    ·exact ha
    ·exact lD i hi
   cases i<;>first|exact Bool.noConfusion hi|skip
   case inBlock id =>
    simp only[G,stepG,stepG.exec]at hgo;cases hgo;exact iy hP W vN rU nJ wm rG lD (.inl rfl) (by simp only[G,stepG,stepG.exec,if_true])
   case inScope c =>
    simp only[G,stepG,stepG.exec]at hgo;cases hgo;exact iy hP W vN rU nJ wm rG lD (.inl rfl) (by simp only[G,stepG,stepG.exec,if_true])
   case inLoop c =>
    simp only[G,stepG,stepG.exec]at hgo;cases hgo;exact iy hP W vN rU nJ wm rG (two hi hi) (.inl rfl) (by simp only[G,stepG,stepG.exec,if_true])
   case code c =>
    have ml:kM Gm L c=true:=hi;cases c<;>first|exact Bool.noConfusion hi|skip
    case skip =>
     simp only[G,stepG,stepG.exec]at hgo;cases hgo;exact iy hP W vN rU nJ wm rG lD (.inl rfl) (by simp only[G,stepG,stepG.exec,if_true])
    case label l =>
     simp only[G,stepG,stepG.exec]at hgo;cases hgo;exact iy hP W vN rU nJ wm rG lD (.inl rfl) (by simp only[G,stepG,stepG.exec,if_true])
    case ret =>
     simp only[G,stepG,stepG.exec]at hgo;cases hgo;exact iy hP W vN rU nJ wm rG Ir (.inr rfl) (by simp only[G,stepG,stepG.exec,if_true])
    case seq a b =>
     simp only[kM,bf]at ml;simp only[G,stepG,stepG.exec]at hgo;cases hgo;exact iy hP W vN rU nJ wm rG (two ml.1 ml.2) (.inl rfl) (by simp only[G,stepG,stepG.exec,if_true])
    case block id c =>
     simp only[G,stepG,stepG.exec]at hgo;cases hgo;exact iy hP W vN rU nJ wm rG (two hi rfl) (.inl rfl) (by simp only[G,stepG,stepG.exec,if_true])
    case loop c =>
     simp only[G,stepG,stepG.exec]at hgo;cases hgo;exact iy hP W vN rU nJ wm rG (two hi hi) (.inl rfl) (by simp only[G,stepG,stepG.exec,if_true])
    case scope c =>
     simp only[G,stepG,stepG.exec]at hgo;cases hgo;exact iy hP W vN rU nJ wm rG (two hi hi) (.inl rfl) (by simp only[G,stepG,stepG.exec,if_true])
    case refuse w =>
     simp only[G,stepG,stepG.exec]at hgo;cases hgo
    case cond c a b =>
     simp only[kM,bf]at ml;have jb:=Ce hP dc kL (Fr fn tmps (.code (.cond c a b)::k) .run) c ml.1.1;rw[show frame f0 (Fr fn tmps (.code (.cond c a b)::k) .run)=Fr fn tr (.code (.cond c a b)::k) .run by rw[wm f0 kL];rfl]at jb;simp only[G,stepG,stepG.exec]at hgo;cases hb:Frame.eval (Fr fn tmps (.code (.cond c a b)::k) .run) c<;>simp only[hb]at hgo<;>first|cases hgo|skip
     rename_i t;rw[hb,cI]at jb;refine iy hP W vN rU nJ wm rG (one (by cases t;exact ml.2;exact ml.1.2)) (.inl rfl) ?_;simp only[G,stepG,stepG.exec,jb]
    case exit id =>
     simp only[G,stepG,stepG.exec]at hgo;cases hx:exitTo id k with
     |none=>simp only[hx,Option.elim_none]at hgo;simp at hgo
     |some k2 =>
      simp only[hx,Option.elim_some]at hgo;cases hgo;refine iy hP W vN rU nJ wm rG (λi hi=>lD i (Pk hx i hi)) (.inl rfl) ?_;simp only[G,stepG,stepG.exec,hx,Option.elim_some]
    case goto l =>
     simp only[G,stepG,stepG.exec]at hgo;cases hx:gotoIn l k with
     |none=>simp only[hx,Option.elim_none]at hgo;simp at hgo
     |some k2 =>
      simp only[hx,Option.elim_some]at hgo;cases hgo;refine iy hP W vN rU nJ wm rG (Pm hx lD) (.inl rfl) ?_;simp only[G,stepG,stepG.exec,hx,Option.elim_some]
    case region id ops draw =>
     cases draw
     ·simp only[G,stepG,stepG.exec]at hgo;simp only[Bool.not_false,if_true]at hgo;cases hgo;refine iy hP W vN rU nJ wm rG (one hi) (.inl rfl) ?_;simp only[G,stepG,stepG.exec,Bool.not_false,if_true]
     ·simp only[G,stepG,stepG.exec,choose,Sem.run,Question.forced,Bool.not_true,aQ,if_false]at hgo;cases hgo;refine⟨F,Fr fn tmps (.inRegion ops (Region.schedule (P.follows .mixedOrders) ops (Question.cut (.order fn id) (wl.tape wl.drawn (.order fn id))))::k) .run,ab,Fr fn tr (.inRegion ops (Region.schedule (P.follows .mixedOrders) ops (Question.cut (.order fn id) (wl.tape wl.drawn (.order fn id))))::k) .run,abr,{wr with drawn:=wr.drawn+1},#[],rfl,⟨rfl,rfl,rfl,rG,one hi,.inl rfl⟩,rU,?_,λf hf=>⟨by rw[wm f hf];rfl,nJ f hf⟩,W.env rfl rfl W.os W.output W.tape (by simp[W.drawn]),fu.env rfl rfl rfl rfl,ar,hP,λ_ h=>h,fI.heap vN rfl⟩;simp only[G,stepG,stepG.exec,choose,Sem.run,Question.forced,Bool.not_true,aQ,if_false,W.tape,W.drawn]
   case inRegion ops todo =>
    cases todo with
    |nil =>
     simp only[G,stepG,stepG.exec]at hgo;cases hgo;exact iy hP W vN rU nJ wm rG lD (.inl rfl) (by simp only[G,stepG,stepG.exec])
    |cons i rest =>
     have hy:yielded ops tr=yielded ops tmps:=by rw[wm f0 kL];exact Im ops tmps
     have Ci:∀(v v':Value) (F':jC),(∀f,F'.has f->F.has f)->(∀f,F'.has f->v'=val f v)->∀f,F'.has f->(Fr fn tr (.inRegion ops (i::rest)::k) .run).finish v'=frame f ((Fr fn tmps (.inRegion ops (i::rest)::k) .run).finish v):=by
      intro v v' F' h1 h2 f hf;rw[h2 f hf,wm f (h1 f hf)];exact Cg (G:=Gm) (L:=L) (Fr fn tmps (.inRegion ops (i::rest)::k) .run) v Ir
     have ZR:∀v,vM Gm L ((Fr fn tmps (.inRegion ops (i::rest)::k) .run).finish v):=λv=>zt ⟨rfl,rfl,rfl,rG,Ir,.inl rfl⟩ v;by_cases hw:((ops[i]?).map (Region.wanted · (yielded ops tmps))).getD false=true
     ·obtain⟨o,ho⟩:∃o,ops[i]?=so o:=by
       cases ho:ops[i]? with
       |none=>rw[ho]at hw;cases hw
       |some o=>exact⟨o,rfl⟩
      have NG:tY Gm L o=true:=by
       have iJ:ops.all (tY Gm L)=true:=hi;rw[ig]at iJ;obtain⟨cx,he⟩:=aad.1 ho;rw[<- he];exact iJ i cx
      simp only[tY,bf,Array.all_eq_true']at NG;have hrel:∀f,F.has f->Rel P f (jc L f) (execOp (Fr fn tmps (.inRegion ops (i::rest)::k) .run).eval o) (execOp (Fr fn tr (.inRegion ops (i::rest)::k) .run).eval o):=by
       intro f hf;have jb:∀g,F.has g->∀x∈o.op.operands,(Fr fn tr (.inRegion ops (i::rest)::k) .run).eval x=val g ((Fr fn tmps (.inRegion ops (i::rest)::k) .run).eval x):=by
        intro g hg x hx;have:=Ce hP dc hg (Fr fn tmps (.inRegion ops (i::rest)::k) .run) x (NG.2 x hx);rw[show frame g (Fr fn tmps (.inRegion ops (i::rest)::k) .run)=Fr fn tr (.inRegion ops (i::rest)::k) .run by rw[wm g hg];rfl]at this;exact this
       exact Cb (PF.ok hP dc hf) (PF.fn hP hf) (λn hn args=>dc.call n hn f (PF.ok hP dc hf) (PF.fn hP hf) args) o NG.1 (jb f hf) (λx hx=>Cf W hP (λg hg=>jb g hg x hx))
      have hC:=xF (λf=>jc L f) _ _ F wl wr #[] #[] hrel W;have hN:=sI _ _ wl #[] (hrel f0 kL) vN;have hl:stepG P m (G (Fr fn tmps (.inRegion ops (i::rest)::k) .run) (ab++ov)) wl=stepG.apply P true (Fr fn tmps (.inRegion ops (i::rest)::k) .run) (ab++ov) we (execOp (Fr fn tmps (.inRegion ops (i::rest)::k) .run).eval o) wl:=by
       simp only[G,stepG,stepG.exec];refine(if_pos hw).trans ?_;simp only[stepG.oper,Frame.oper?,ho]
      have hrr:stepG P m' (G (Fr fn tr (.inRegion ops (i::rest)::k) .run) (abr++csr)) wr=stepG.apply P true (Fr fn tr (.inRegion ops (i::rest)::k) .run) (abr++csr) we (execOp (Fr fn tr (.inRegion ops (i::rest)::k) .run).eval o) wr:=by
       simp only[G,stepG,stepG.exec,hy];refine(if_pos hw).trans ?_;simp only[stepG.oper,Frame.oper?,ho]
      have It:stepG.apply P true (Fr fn tmps (.inRegion ops (i::rest)::k) .run) (ab++ov) we (execOp (Fr fn tmps (.inRegion ops (i::rest)::k) .run).eval o) wl=.go g' aX es:=hl.symm.trans hgo;rcases hx:(execOp (Fr fn tmps (.inRegion ops (i::rest)::k) .run).eval o).runT P wl #[] with⟨r,el⟩;rw[hx]at hC hN;cases r with
      |halt h w1 =>
       exfalso;rcases hN with hN|⟨v,rfl⟩
       ·exact Lx hN (by rw[hx]) It
       ·have⟨ch,vO⟩:=Io (by rw[hx]) It;rw[vO]at jX;rcases jX with h|h<;>cases h
      |ok n w1 =>
       obtain⟨F',b,oz,ZS,c1,c2,c3,c4,c5,c6⟩:=hC;have⟨g0,ZT⟩:=c3.some;have En:=c2 g0 ZT;have Ly:∀e∈seen P fn ZS,xD F' e:=by
        intro e he;obtain⟨new,rfl,zu⟩:=c5;have:=Cd P fn _ e he;exact zu e (by simpa using this)
       cases n<;>cases b<;>simp only[jc]at En
       ·rename_i v v';rw[ow rfl hx]at It;cases It;exact⟨F',_,ab,_,abr,oz,_,rfl,ZR v,rU,hrr.trans (ow rfl c1),λf hf=>⟨Ci v v' F' c6 (λf hf=>c2 f hf) f hf,nJ f (c6 f hf)⟩,c3,c4,Ly,hP.NC c4,c6,hN⟩
       ·rw[qg rfl hx]at It;cases It;exact⟨F',_,ab,_,abr,oz,_,rfl,ZR undef,rU,hrr.trans (qg rfl c1),λf hf=>⟨Ci undef undef F' c6 (λf _=>(lB f).symm) f hf,nJ f (c6 f hf)⟩,c3,c4,Ly,hP.NC c4,c6,hN⟩
       ·rename_i gg args gg' Yx;obtain⟨rfl,hLg,_⟩:=En;rw[oy rfl ⟨_,_,_,rfl⟩ hx]at It;cases It;refine⟨F',_,Fr fn tmps (.inRegion ops (i::rest)::k) .run::ab,_,Fr fn tr (.inRegion ops (i::rest)::k) .run::abr,oz,_,rfl,tZ dc hLg args,?_,hrr.trans (oy rfl ⟨_,_,_,rfl⟩ c1),λf hf=>⟨?_,?_⟩,c3,c4,Ly,hP.NC c4,c6,hN⟩
        ·intro c hc;simp only[bM]at hc;rcases hc with rfl|hc
         ·exact⟨rfl,rfl,rfl,rG,Ir,.inl rfl⟩
         ·exact rU c hc
        ·have:=c2 f hf;simp only[jc]at this;rw[this.2.2,Pn]
        ·rw[aC,nJ f (c6 f hf),wm f (c6 f hf)];rfl
     ·simp only[G,stepG,stepG.exec,hw]at hgo;simp only[aQ,if_false]at hgo;cases hgo;refine⟨F,_,ab,(Fr fn tr (.inRegion ops (i::rest)::k) .run).finish undef,abr,wr,#[],rfl,ZR _,rU,?_,λf hf=>⟨Ci undef undef F (λ_ h=>h) (λf _=>(lB f).symm) f hf,nJ f hf⟩,W,fu.refl _ _ _,ar,hP,λ_ h=>h,vN⟩;simp only[G,stepG,stepG.exec,hy,hw,aQ,if_false]
 ·
  subst Is;have dE:ab≠[]:=Wk.elim id (λh=>by cases h);cases ab with
  |nil=>exact absurd rfl dE
  |cons c ab2 =>
   obtain⟨Wl,cr,rfl⟩:∃Wl cr,abr=cr::Wl:=by
    rw[nJ f0 kL];exact⟨_,_,rfl⟩
   have Wc:∀f,F.has f->cr=frame f c/\Wl=ab2.map (frame f):=by
    intro f hf;have:=nJ f hf;simp only[aC,cy]at this;exact this
   have⟨AA,rY,_⟩:=dc.body fn rG;have hrel:∀f,F.has f->Rel P f (V f) (results AA tmps) (results AA tr):=by
    intro f hf;rw[wm f hf];exact qW (PF.ok hP dc hf) AA tmps
   have hC:=xF (λf=>V f) _ _ F wl wr #[] #[] hrel W;have hN:=sI _ _ wl #[] (hrel f0 kL) vN;rcases hx:(results AA tmps).runT P wl #[] with⟨r,el⟩;rw[hx]at hC hN;simp only[G,stepG,unwind,rY,hx,List.cons_append]at hgo;cases r with
   |halt h w1 =>
    exfalso;cases h<;>simp only[GStep.after]at hgo<;>cases hgo
   |ok v w1 =>
    obtain⟨F',v',oz,ZS,c1,c2,c3,c4,c5,c6⟩:=hC;have Ly:∀e∈seen P fn ZS,xD F' e:=by
     intro e he;obtain⟨new,rfl,zu⟩:=c5;have:=Cd P fn _ e he;exact zu e (by simpa using this)
    simp only[GStep.after,doReturn]at hgo;cases hgo;have acT:=rU c ar;refine⟨F',c.finish v,ab2,cr.finish v',Wl,oz,seen P fn ZS,rfl,zt acT v,λx hx=>rU x (by simp[hx]),?_,λf hf=>⟨?_,(Wc f (c6 f hf)).2⟩,c3,c4,Ly,hP.NC c4,c6,hN⟩
    ·simp only[G,stepG,unwind,rY,c1,List.cons_append,GStep.after,doReturn,cv]
    ·rw[(Wc f (c6 f hf)).1,c2 f hf];exact Cg (G:=Gm) (L:=L) c v acT.todo
end
end
abbrev Tape:=Nat->Question->Nat
def WT(w:ae)(τ:Tape)(d:Nat):ae:={w with tape:=τ,drawn:=d}
def gf(w:ae)(c:Nat)(τ:Tape)(d:Nat):Prop:=∀j,j<c->∀q,τ (d+j) q=w.tape (w.drawn+j) q
def gf.le{w:ae}{c c':Nat}{τ:Tape}{d:Nat}(h:gf w c τ d)(hc:c'<=c):gf w c' τ d:=λj hj q=>h j aa q
def gf.tail{w w':ae}{c c':Nat}{τ:Tape}{d:Nat}(h:gf w (c+c') τ d)(ht:w'.tape=w.tape)(hd:w'.drawn=w.drawn+c):gf w' c' τ (d+c):=by
 intro j hj q;rw[ht,hd,dS,dS];exact h (c+j) aa q
def ZU{α:Type}(τ:Tape)(d:Nat):Result α->Result α
 | .ok a w=>.ok a (WT w τ d)
 | .halt h w=>.halt h (WT w τ d)
def Cj{α:Type}:Result α->ae
 | .ok _ w=>w
 | .halt _ w=>w
def Ck{α:Type}(P:Program)(s:Sem α)(w:ae)(es:Array Event)(c:Nat):Prop :=
 (Cj (s.runT P w es).1).tape=w.tape/\(Cj (s.runT P w es).1).drawn=w.drawn+c /\
 ∀τ d,gf w c τ d->s.runT P (WT w τ d) es=(ZU τ (d+c) (s.runT P w es).1,(s.runT P w es).2)
theorem NH(w:ae):w.sys .env=(.strings w.os.env,w):=rfl
def Cm{α:Type}{P:Program}{s:Sem α}{w:ae}{es:Array Event}{s₁:Sem α}{w₁:ae}{es₁:Array Event}{c₀ c:Nat}(h:s.runT P w es=s₁.runT P w₁ es₁)(ht:w₁.tape=w.tape)(hd:w₁.drawn=w.drawn+c₀)(hw:∀τ d,gf w c₀ τ d->s.runT P (WT w τ d) es=s₁.runT P (WT w₁ τ (d+c₀)) es₁)(Po:Ck P s₁ w₁ es₁ c):Ck P s w es (c₀+c):=by
 obtain⟨a,b,e⟩:=Po;refine⟨by rw[h,a,ht],by rw[h,b,hd,dS],λτ d hA=>?_⟩;rw[hw τ d (hA.le aa),e τ (d+c₀) (hA.tail ht hd),h,dS]
def gm{α:Type}{P:Program}{s:Sem α}{w:ae}{es:Array Event}{s₁:Sem α}{w₁:ae}{es₁:Array Event}{c:Nat}(h:s.runT P w es=s₁.runT P w₁ es₁)(ht:w₁.tape=w.tape)(hd:w₁.drawn=w.drawn)(hw:∀τ d,s.runT P (WT w τ d) es=s₁.runT P (WT w₁ τ d) es₁)(Po:Ck P s₁ w₁ es₁ c):Ck P s w es c:=by
 have:=Cm (c₀:=0) h ht hd (λτ d _=>hw τ d) Po;rwa[bt]at this
def js{α:Type}{P:Program}{s:Sem α}{w:ae}{es:Array Event}{h:Halt}(e:s.runT P w es=(.halt h w,es))(hw:∀τ d,s.runT P (WT w τ d) es=(.halt h (WT w τ d),es)):Ck P s w es 0:=by
 refine⟨by rw[e];rfl,by rw[e];rfl,λτ d _=>?_⟩;rw[hw,e];rfl
theorem Cn(p:Program)(w:ae)(τ:Tape)(d:Nat)(a:Addr)(at_:Bool):(WT w τ d).farLoad p a at_=w.farLoad p a at_:=rfl
def bind_map{α β γ:Type}{x:Except String α}{k:α->Except String β}{k':α->Except String γ}{g:β->γ}(h:∀a,k' a=(k a).map g):(x>>=k')=(x>>=k).map g:=by
 cases x with
 |error=>rfl
 |ok a=>exact h a
def Gt{p:Program}{w:ae}{τ:Tape}{d:Nat}{b:Addr}{u:TypeId}{a:Addr}{v:Value}{at_:Bool}:
  (WT w τ d).viewStore p b u a v at_=(w.viewStore p b u a v at_).map (λx=>(WT x.1 τ d,x.2)):=by
 unfold World.viewStore;by_cases ht:(!tight p p.depth u)=true
 ·simp only[ht,if_true];rfl
 ·simp only[ht,if_false];have e:(WT w τ d).seen p b u a at_=w.seen p b u a at_:=rfl;rw[e];refine bind_map (λx=>?_);obtain⟨c,e,z,first,BP,cells⟩:=x;cases v.bytes? with
  |none=>rfl
  |some bytes =>
   simp only[];by_cases hl:(so bytes.length≠BP.bytes?.map (·.length))
   ·rw[if_pos hl,if_pos hl];rfl
   ·rw[if_neg hl,if_neg hl];exact bind_map (λc2=>rfl)
def AB{p:Program}{w:ae}{τ:Tape}{d:Nat}{a:Addr}{v:Value}{at_:Bool}:
  (WT w τ d).farStore p a v at_=(w.farStore p a v at_).map (λx=>(WT x.1 τ d,x.2)):=by
 unfold World.farStore;show(match w.heap[a.block]? with|some (.view an3 u)=>_|_=>_)=_;cases hh:w.heap[a.block]? with
 |none=>simp only[World.noCell,WT,hh];rfl
 |some o =>
  cases o<;>simp only[World.noCell,WT,hh]<;>first|rfl|skip
  rename_i b u;have:=Gt (p:=p) (w:=w) (τ:=τ) (d:=d) (b:=b) (u:=u) (a:=a) (v:=v) (at_:=at_);simp only[WT]at this;rw[this];cases w.viewStore p b u a v at_<;>rfl
def Eo{p:Program}{w:ae}{b:Addr}{u:TypeId}{a:Addr}{v:Value}{at_:Bool}{x:ae×List Addr}(h:w.viewStore p b u a v at_=.ok x):x.1.tape=w.tape/\x.1.drawn=w.drawn:=by
 obtain⟨w1,ts⟩:=x;obtain⟨c,e,z,_,_,rfl,_⟩:=rE (f:=⟨λx=>x,λx=>x,λx=>x,λx=>x⟩) (wr:={w with heap:=w.heap.map (obj ⟨λx=>x,λx=>x,λx=>x,λx=>x⟩)}) (at':=b) (k':=a) ar rfl rfl rfl rfl h;exact⟨rfl,rfl⟩
def wU{P:Program}{f:Rn}{α β:Type}{A:α->β->Prop}:∀(s:Sem α) (s':Sem β) (w:ae) (es:Array Event),Rel P f A s s'->∃c,Ck P s w es c:=by
 intro s
 induction s with
 |pure a=>intro s' w es h;exact⟨0,rfl,rfl,λτ d _=>rfl⟩
 |load m x k ih =>
  intro s' w es h;cases s'<;>simp only[Rel]at h;cases hc:w.cell? x with
  |some v =>
   have⟨c,hd⟩:=ih v _ w (es.push ⟨.cell x,false,m == .atomic⟩) (h.2.2 v);refine⟨c,gm (w₁:=w) (by simp only[Sem.runT,hc]) rfl rfl (λτ d=>?_) hd⟩;have Fa:(WT w τ d).cell? x=so v:=hc;simp only[Sem.runT,Fa]
  |none =>
   have Fa:∀τ d,(WT w τ d).cell? x=we:=λτ d=>hc;cases hf:w.farLoad P x (m == .atomic) with
   |error hh =>
    refine⟨0,js (h:=hh) (by simp only[Sem.runT,hc,hf]) (λτ d=>?_)⟩;simp only[Sem.runT,Fa τ d,Cn,hf]
   |ok y =>
    obtain⟨v,ts⟩:=y;have⟨c,hd⟩:=ih v _ w (es++ts.toArray.map (⟨.cell ·,false,m == .atomic⟩)) (h.2.2 v);refine⟨c,gm (w₁:=w) (by simp only[Sem.runT,hc,hf]) rfl rfl (λτ d=>?_) hd⟩;simp only[Sem.runT,Fa τ d,Cn,hf]
 |store m x v k ih =>
  intro s' w es h;cases s'<;>simp only[Rel]at h;by_cases cp:(∃c,v=.agg c)\/∃c,v=.tuple c
  ·rcases cp with⟨c,rfl⟩|⟨c,rfl⟩
   ·exact⟨0,js rfl (λτ d=>rfl)⟩
   ·exact⟨0,js rfl (λτ d=>rfl)⟩
  ·have n1:∀c,v≠.agg c:=λc e=>cp (.inl ⟨c,e⟩);have n2:∀c,v≠.tuple c:=λc e=>cp (.inr ⟨c,e⟩);cases hc:w.cell? x with
   |some old =>
    have Fa:∀τ d,(WT w τ d).cell? x=so old:=λτ d=>hc;by_cases hz:w.frozen? x=true
    ·have DZ:∀τ d,(WT w τ d).frozen? x=true:=λτ d=>hz;exact⟨0,js (by rw[ir n1 n2,hc];simp only[hz,if_true];rfl) (λτ d=>by rw[ir n1 n2,Fa];simp only[DZ,if_true])⟩
    ·have DZ:∀τ d,¬(WT w τ d).frozen? x=true:=λτ d=>hz;have⟨c,hd⟩:=ih _ (w.setCell x v) (es.push ⟨.cell x,true,m == .atomic⟩) h.2.2.2;refine⟨c,gm (w₁:=w.setCell x v) (by rw[ir n1 n2,hc];simp only[hz,if_false];rfl) rfl rfl (λτ d=>?_) hd⟩;rw[ir n1 n2,Fa];simp only[DZ,if_false];rfl
   |none =>
    have Fa:∀τ d,(WT w τ d).cell? x=we:=λτ d=>hc;cases hf:w.farStore P x v (m == .atomic) with
    |error hh =>
     refine⟨0,js (h:=hh) (by rw[ir n1 n2,hc];simp only[hf]) (λτ d=>?_)⟩;rw[ir n1 n2,Fa];simp only[AB,hf,Except.map]
    |ok y =>
     obtain⟨w1,ts⟩:=y;have⟨b,u,HZ,KT⟩:=tP hf;have⟨ht,D2⟩:=Eo KT;have⟨c,hd⟩:=ih _ w1 (es++ts.toArray.map (⟨.cell ·,true,m == .atomic⟩)) h.2.2.2;refine⟨c,gm (w₁:=w1) (by rw[ir n1 n2,hc];simp only[hf]) ht D2 (λτ d=>?_) hd⟩;rw[ir n1 n2,Fa];simp only[AB,hf,Except.map]
 |new o k ih =>
  intro s' w es h;cases s'<;>simp only[Rel]at h;have⟨c,hd⟩:=ih w.heap.size _ {w with heap:=w.heap.push o} es (h.2.2 _);exact⟨c,gm (w₁:={w with heap:=w.heap.push o}) rfl rfl rfl (λτ d=>rfl) hd⟩
 |shape r k ih =>
  intro s' w es h;cases s'<;>simp only[Rel]at h;have⟨c,hd⟩:=ih (w.shape? r) _ w es (h.2 _);exact⟨c,gm (w₁:=w) rfl rfl rfl (λτ d=>rfl) hd⟩
 |freeze a n k ih =>
  intro s' w es h;cases s'<;>simp only[Rel]at h;have⟨c,hd⟩:=ih _ (w.freeze a n) es h.2.2;have e:∀τ d,(WT w τ d).freeze a n=WT (w.freeze a n) τ d:=by
   intro τ d;unfold World.freeze;split<;>rfl
  refine⟨c,gm (w₁:=w.freeze a n) rfl (by unfold World.freeze;split<;>rfl) (by unfold World.freeze;split<;>rfl) (λτ d=>?_) hd⟩;simp only[Sem.runT,e]
 |frozen a k ih =>
  intro s' w es h;cases s'<;>simp only[Rel]at h;have⟨c,hd⟩:=ih (w.frozen? a) _ w es (h.2 _);exact⟨c,gm (w₁:=w) rfl rfl rfl (λτ d=>rfl) hd⟩
 |getObj r k ih =>
  intro s' w es h;cases s'<;>simp only[Rel]at h;cases ho:w.heap[r]? with
  |none =>
   have pE:∀τ d,(WT w τ d).heap[r]?=we:=λτ d=>ho;exact⟨0,js (by simp only[Sem.runT,ho];rfl) (λτ d=>by simp only[Sem.runT,pE])⟩
  |some o =>
   have pE:∀τ d,(WT w τ d).heap[r]?=so o:=λτ d=>ho;by_cases hc:∃c e z,o=.cells c e z
   ·obtain⟨c,e,z,rfl⟩:=hc;exact⟨0,js (by simp only[Sem.runT,ho];rfl) (λτ d=>by simp only[Sem.runT,pE])⟩
   ·have⟨c,hd⟩:=ih o _ w (es.push ⟨.obj r,false,o.isChan⟩) (h.2 _);have e1:∀w:ae,w.heap[r]?=so o->(Sem.getObj r k).runT P w es=(k o).runT P w (es.push ⟨.obj r,false,o.isChan⟩):=by
     intro w hw;simp only[Sem.runT,hw];cases o<;>first|rfl|exact absurd ⟨_,_,_,rfl⟩ hc
    exact⟨c,gm (w₁:=w) (e1 w ho) rfl rfl (λτ d=>e1 _ (pE τ d)) hd⟩
 |setObj r o k ih =>
  intro s' w es h;cases s'<;>simp only[Rel]at h;cases ho:w.heap[r]? with
  |none =>
   have pE:∀τ d,(WT w τ d).heap[r]?=we:=λτ d=>ho;exact⟨0,js (by simp only[Sem.runT,ho];rfl) (λτ d=>by simp only[Sem.runT,pE])⟩
  |some x =>
   have pE:∀τ d,(WT w τ d).heap[r]?=so x:=λτ d=>ho;by_cases hc:∃c e z,x=.cells c e z
   ·obtain⟨c,e,z,rfl⟩:=hc;exact⟨0,js (by simp only[Sem.runT,ho];rfl) (λτ d=>by simp only[Sem.runT,pE])⟩
   ·have⟨c,hd⟩:=ih _ {w with heap:=w.heap.setIfInBounds r o} (es.push ⟨.obj r,true,o.isChan⟩) h.2.2.2;have e1:∀w:ae,w.heap[r]?=so x->(Sem.setObj r o k).runT P w es=k.runT P {w with heap:=w.heap.setIfInBounds r o} (es.push ⟨.obj r,true,o.isChan⟩):=by
     intro w hw;simp only[Sem.runT,hw];cases x<;>first|rfl|exact absurd ⟨_,_,_,rfl⟩ hc
    exact⟨c,gm (w₁:={w with heap:=w.heap.setIfInBounds r o}) (e1 w ho) rfl rfl (λτ d=>e1 _ (pE τ d)) hd⟩
 |choose q k ih =>
  intro s' w es h;cases s'<;>simp only[Rel]at h;by_cases hq:q.forced=true
  ·obtain⟨c,hd⟩:=ih 0 _ w es (h.2 _);exact⟨c,gm (w₁:=w) (by simp only[Sem.runT,hq,if_true]) rfl rfl (λτ d=>by simp only[Sem.runT,hq,if_true]) hd⟩
  ·have⟨c,hd⟩:=ih (q.cut (w.tape w.drawn q)) _ {w with drawn:=w.drawn+1} es (h.2 _);refine⟨1+c,Cm (c₀:=1) (w₁:={w with drawn:=w.drawn+1}) (by simp[Sem.runT,hq]) rfl rfl (λτ d hA=>?_) hd⟩;have h0:=hA 0 aa q;simp only[Nat.add_zero]at h0;simp[Sem.runT,hq,WT,h0]
 |sys c k ih =>
  intro s' w es h;cases s'<;>simp only[Rel]at h;have he:c=.env:=by
   have:=h.2.1;cases c<;>first|rfl|exact Bool.noConfusion this
  subst he;have⟨c,hd⟩:=ih (.strings w.os.env) _ w (es.push ⟨.output,true,false⟩) (h.2.2 _);exact⟨c,gm (w₁:=w) (by simp only[Sem.runT,NH]) rfl rfl (λτ d=>by simp only[Sem.runT,NH];rfl) hd⟩
 |program k ih =>
  intro s' w es h;cases s'<;>simp only[Rel]at h;have⟨c,hd⟩:=ih P _ w es h;exact⟨c,gm (w₁:=w) rfl rfl rfl (λτ d=>rfl) hd⟩
 |mark m k ih =>
  intro s' w es h;cases s'<;>simp only[Rel]at h;have⟨c,hd⟩:=ih _ w (es.push ⟨.mark m,false,true⟩) h.2.2;exact⟨c,gm (w₁:=w) rfl rfl rfl (λτ d=>rfl) hd⟩
 |halt hh=>intro s' w es h;exact⟨0,js rfl (λτ d=>rfl)⟩
end Go.Ren
