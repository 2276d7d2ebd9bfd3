/- Proved: whatever raw rules, whatever script and whatever text are handed in, kilnkeep.Ordered answers true, whichever way the goroutines are scheduled: the order of rules and files is of no matter to Clean, nor is a file that no rule names. Conditions: those of the given card, Rows.OrderedCardSaid; none besides. (Shortened by program; readable in wip.) -/
import Derived.Conc.Own
import Derived.KernelRfl
import Derived.Laws.Sem
set_option linter.all false
set_option maxHeartbeats 40000000
set_option maxRecDepth 200000
abbrev bK:=(Nat->Prop)->Go.Goroutine->Go.World->Prop
abbrev ae:=Go.World
abbrev af:=ByteArray
abbrev aX:=Go.Goroutine
open Go in
theorem aa{p:Prop}(h:p:=by omega):p:=h
open Go in
theorem ar{p:Prop}(h:p:=by rfl):p:=h
open Go in
theorem ah{p:Prop}(h:p:=by kernel_rfl):p:=h
open Go in
theorem aj{p:Prop}(h:p:=by simp):p:=h
open Go in
theorem aH{p:Prop}(h:p:=by simp[Act.eval]):p:=h
open Go in
theorem dV{p:Prop}(h:p:=by simp;omega):p:=h
open Go in
theorem dj{p:Prop}(h:p:=by first|rfl|trivial):p:=h
open Go in
theorem eu{p:Prop}(h:p:=by decide):p:=h
open Go in
theorem amD{p:Prop}(h:p:=by assumption):p:=h
open Go in
theorem mW{p:Prop}(h:p:=by simp[Op.operands]):p:=h
open Go in
theorem fP{p:Prop}(h:p:=by simp[go_sem]):p:=h
abbrev im:=@Array.all_eq_true
abbrev jz:=@Array.all_eq_true'
abbrev gR:=@Array.any_eq_true'
abbrev dE:=@Array.append_assoc
abbrev cq:=@Array.append_empty
abbrev jf:=@Array.ext
abbrev ju:=@Array.ext_getElem?
abbrev iY:=@Array.extract_eq_self_of_le
abbrev js:=@Array.foldl_toList
abbrev fO:=@Array.forIn_toList
abbrev bR:=@Array.getD_eq_getD_getElem?
abbrev gf:=@Array.getElem?_append_right
abbrev aN:=@Array.getElem?_eq_getElem
abbrev cG:=@Array.getElem?_eq_none
abbrev aK:=@Array.getElem?_map
abbrev aR:=@Array.getElem?_modify
abbrev fG:=@Array.getElem?_push
abbrev dz:=@Array.getElem?_push_lt
abbrev gJ:=@Array.getElem?_push_size
abbrev aS:=@Array.getElem?_setIfInBounds_ne
abbrev b7:=@Array.getElem?_setIfInBounds_self_of_lt
abbrev jO:=@Array.getElem_mem
abbrev ft:=@Array.mapM_eq_mapM_toList
abbrev gi:=@Array.map_append
abbrev ek:=@Array.map_congr_left
abbrev iy:=@Array.map_map
abbrev jX:=@Array.map_setIfInBounds
abbrev dW:=@Array.mem_of_getElem?
abbrev fx:=@Array.size_replicate
abbrev cw:=@Array.toList_map
abbrev a8:=@Bool.and_eq_true
abbrev dK:=@Bool.eq_iff_iff
abbrev aL:=@Bool.false_eq_true
abbrev eB:=@Bool.not_eq_true'
abbrev eK:=@Classical.axiomOfChoice
abbrev aZ:=@Classical.byContradiction
abbrev ee:=@Go.Frame.finish_at
abbrev cu:=@Go.Conc.Goes.stop
abbrev cZ:=@Iff.rfl
abbrev fK:=@Int.le_refl
abbrev gU:=@Int.lt_or_eq_of_le
abbrev gE:=@Int.toNat_of_nonneg
abbrev cv:=@List.cons.injEq
abbrev gM:=@List.eq_of_mem_replicate
abbrev fV:=@List.ext_getElem?
abbrev gZ:=@List.filter_append_perm
abbrev jo:=@List.getD_eq_getElem?_getD
abbrev jH:=@List.getElem?_append_left
abbrev jm:=@List.getElem?_append_right
abbrev bo:=@List.getElem?_eq_getElem
abbrev eE:=@List.getElem?_map
abbrev ki:=@List.getElem?_replicate
abbrev fD:=@List.getElem?_take_of_lt
abbrev kS:=@List.getElem?_toArray
abbrev bT:=@List.getElem_append_left
abbrev aG:=@List.getElem_mem
abbrev bc:=@List.getElem_of_mem
abbrev fY:=@List.getElem_take
abbrev ff:=@List.length_filter_le
abbrev bP:=@List.length_map
abbrev iw:=@List.length_pos_of_mem
abbrev jc:=@List.length_take_le
abbrev gI:=@List.map_append
abbrev b9:=@List.map_congr_left
abbrev aA:=@List.map_cons
abbrev aP:=@List.map_nil
abbrev er:=@List.map_reverse
abbrev gH:=@List.mem_append
abbrev bJ:=@List.mem_cons
abbrev bD:=@List.mem_cons_of_mem
abbrev jD:=@List.mem_cons_self
abbrev gF:=@List.mem_map_of_mem
abbrev jI:=@List.mem_of_find?_eq_some
abbrev kY:=@List.mem_range
abbrev da:=@List.nodup_cons
abbrev iC:=@List.nodup_range
abbrev dh:=@List.not_mem_nil
abbrev dq:=@List.perm_ext_iff_of_nodup
abbrev iD:=@List.range'_succ
abbrev iO:=@List.range_eq_range'
abbrev en:=@List.reverse_perm
abbrev cS:=@List.take_length
abbrev cH:=@List.take_of_length_le
abbrev dM:=@Nat.add_assoc
abbrev bg:=@Nat.eq_zero_or_pos
abbrev bG:=@Nat.le_of_eq
abbrev kD:=@Nat.le_of_lt
abbrev de:=@Nat.le_of_not_lt
abbrev ag:=@Nat.le_refl
abbrev aW:=@Nat.le_trans
abbrev bw:=@Nat.lt_of_lt_of_le
abbrev fA:=@Nat.lt_of_not_le
abbrev b5:=@Nat.lt_or_ge
abbrev bH:=@Nat.lt_succ_self
abbrev kC:=@Nat.lt_trans
abbrev fW:=@Nat.lt_trichotomy
abbrev fg:=@Nat.mod_two_eq_zero_or_one
abbrev iQ:=@Nat.mul_le_mul_right
abbrev dZ:=@Nat.not_lt_zero
abbrev bB:=@Nat.zero_add
abbrev aU:=@Nat.zero_le
abbrev bp:=@Ne.symm
abbrev bq:=@Option.getD_some
abbrev aJ:=@Option.map_some
abbrev aQ:=@Option.some.inj
abbrev ay:=@Option.some.injEq
abbrev bt:=@Prod.mk.injEq
abbrev fU:=@Std.Legacy.Range.forIn_eq_forIn_range'
abbrev iq:=@UInt8.le_antisymm
abbrev dv:=@decide_eq_false
abbrev cU:=@decide_eq_true
abbrev eN:=@getElem!_pos
abbrev fo:=@of_decide_eq_true
abbrev fe:=@Go.Conc.stepG_block
abbrev ew:=@Go.Conc.stepG_cond
abbrev ef:=@Go.Conc.stepG_end
abbrev gv:=@Go.Conc.stepG_inBlock
abbrev iM:=@Go.Conc.stepG_inLoop
abbrev jM:=@Go.Conc.stepG_loop
abbrev jN:=@Go.Conc.stepG_none
abbrev bf:=@Go.Conc.stepG_region
abbrev ak:=@Go.Conc.stepG_region_end
abbrev aD:=@Go.Conc.stepG_seq
abbrev cx:=@Go.Conc.stepG_skip
abbrev eH:=@Go.Conc.stepG_value
namespace Go.Ren
structure Rn where
 b:Nat->Nat
 h:Nat->Nat
 ty:Nat->Nat
 m:String->String
def addr(f:Rn)(a:Addr):Addr:={a with block:=f.b a.block}
def tG(f:Rn):Fn->Fn
 | .func n=>.func (f.h n)
 | .via t path n p=>.via (f.ty t) path n p
 | .method s=>.method (f.m s)
 | .methodOf t s=>.methodOf t (f.m s)
 | .yield l=>.yield (f.ty l)
def val(f:Rn):Value->Value
 | .bool b=>.bool b
 | .int k n=>.int k n
 | .float k b=>.float k b
 | .complex k x y=>.complex k x y
 | .string s=>.string s
 | .pointer a=>.pointer (a.map (addr f))
 | .slice a l c=>.slice (a.map (addr f)) l c
 | .map r=>.map (r.map f.b)
 | .chan r=>.chan (r.map f.b)
 | .func fn first captured=>.func (tG f fn) (first.map (val f)) (captured.map (val f))
 | .nilFunc=>.nilFunc
 | .iface t v=>.iface t (val f v)
 | .nilIface=>.nilIface
 | .agg cs=>.agg (cs.map (val f))
 | .tuple vs=>.tuple (vs.map (val f))
section
variable (f:Rn)
@[simp] theorem cI(b:Bool):val f (.bool b)=.bool b:=by simp[val]
@[simp] theorem cP(k:IntKind)(n:Int):val f (.int k n)=.int k n:=by simp[val]
@[simp] theorem b6(k:FloatKind)(n:Nat):val f (.float k n)=.float k n:=by simp[val]
@[simp] theorem bF(k:FloatKind)(n m:Nat):val f (.complex k n m)=.complex k n m:=by simp[val]
@[simp] theorem bL(s:af):val f (.string s)=.string s:=by simp[val]
@[simp] theorem bh(a:Option Addr):val f (.pointer a)=.pointer (a.map (addr f)):=by simp[val]
@[simp] theorem bE(a:Option Addr)(l c:Nat):val f (.slice a l c)=.slice (a.map (addr f)) l c:=by simp[val]
@[simp] theorem cT(r:Option Nat):val f (.map r)=.map (r.map f.b):=by simp[val]
@[simp] theorem cD(r:Option Nat):val f (.chan r)=.chan (r.map f.b):=by simp[val]
@[simp] theorem cE(g:Fn)(a b:Array Value):val f (.func g a b)=.func (tG f g) (a.map (val f)) (b.map (val f)):=by simp[val]
@[simp] theorem bI:val f .nilFunc=.nilFunc:=by simp[val]
@[simp] theorem bX(t:TypeId)(v:Value):val f (.iface t v)=.iface t (val f v):=by simp[val]
@[simp] theorem bu:val f .nilIface=.nilIface:=by simp[val]
@[simp] theorem cQ(cs:Array Value):val f (.agg cs)=.agg (cs.map (val f)):=by simp[val]
@[simp] theorem bY(cs:Array Value):val f (.tuple cs)=.tuple (cs.map (val f)):=by simp[val]
@[simp] theorem U0(b o:Nat)(s:Option Nat):addr f ⟨b,o,s⟩=⟨f.b b,o,s⟩:=rfl
@[simp] theorem wv(a:Addr):(addr f a).block=f.b a.block:=rfl
@[simp] theorem Bt(a:Addr):(addr f a).off=a.off:=rfl
@[simp] theorem OB(a:Addr):(addr f a).spot=a.spot:=rfl
theorem kE(a:Addr)(n:Nat):addr f (a.add n)=(addr f a).add n:=by
 unfold Addr.add addr;split<;>rfl
theorem kG(v:Value):(val f v).cells=v.cells.map (val f):=by
 cases v<;>simp[Value.cells]
theorem lz:val f undef=undef:=by simp[undef]
end
def entry(f:Rn)(e:MapEntry):MapEntry:={e with key:=val f e.key,val:=val f e.val}
def obj(f:Rn):Obj->Obj
 | .cells c e z=>.cells (c.map (val f)) e z
 | .pending c e=>.pending (c.map (val f)) e
 | .view a t=>.view (addr f a) t
 | .number a l=>.number (addr f a) l
 | .map es c=>.map (es.map (entry f)) c
 | .chan cap buf cl s r t=>.chan cap (buf.map (val f)) cl s r t
 | .stringIter s p=>.stringIter s p
 | .mapIter m s x n=>.mapIter (m.map f.b) s x n
 |o=>o
def target(f:Rn):Target->Target
 | .fn fn captured=>.fn (tG f fn) (captured.map (val f))
 |t=>t
def deferred(f:Rn)(d:Deferred):Deferred:={target:=target f d.target,args:=d.args.map (val f)}
def KZ(f:Rn):Mark->Mark
 | .acquire a=>.acquire (addr f a)
 | .release a=>.release (addr f a)
 | .releaseMerge a=>.releaseMerge (addr f a)
 | .read a=>.read (addr f a)
 | .write a=>.write (addr f a)
 | .extern n=>.extern (f.h n)
 |m=>m
def K0:Mark->Bool
 | .extern _|.noRoom=>true
 |_=>false
def fi:Obj->Bool
 | .pending ..=>true
 |_=>false
def abS:Sys->Bool
 | .env=>true
 |_=>false
def oY:Halt->Bool
 | .unsupported (.initOrder _)=>false
 | .unsupported _=>true
 | .stuck _=>true
 |_=>false
def Rel(P:Program)(f:Rn){α β:Type}(A:α->β->Prop):Sem α->Sem β->Prop
 | .pure a,.pure a'=>A a a'
 | .load m x k,.load m' x' k'=>m'=m/\x'=addr f x/\∀v,Rel P f A (k v) (k' (val f v))
 | .store m x v k,.store m' x' v' k'=>m'=m/\x'=addr f x/\v'=val f v/\Rel P f A k k'
 | .new o k,.new o' k'=>o'=obj f o/\fi o=false/\∀r,Rel P f A (k r) (k' (f.b r))
 | .shape r k,.shape r' k'=>r'=f.b r/\∀x,Rel P f A (k x) (k' x)
 | .freeze a n k,.freeze a' n' k'=>a'=addr f a/\n'=n/\Rel P f A k k'
 | .frozen a k,.frozen a' k'=>a'=addr f a/\∀b,Rel P f A (k b) (k' b)
 | .getObj r k,.getObj r' k'=>r'=f.b r/\∀o,Rel P f A (k o) (k' (obj f o))
 | .setObj r o k,.setObj r' o' k'=>r'=f.b r/\o'=obj f o/\fi o=false/\Rel P f A k k'
 | .choose q k,.choose q' k'=>q'=q/\∀n,Rel P f A (k n) (k' n)
 | .sys c k,.sys c' k'=>c'=c/\abS c=true/\∀r,Rel P f A (k r) (k' r)
 | .program k,.program k'=>Rel P f A (k P) (k' P)
 | .mark m k,.mark m' k'=>m'=KZ f m/\K0 m=true/\Rel P f A k k'
 | .halt (.panic _),_=>True
 | .halt h,_=>oY h=true
 |_,_=>False
section
variable {P:Program} {f:Rn} {α β γ δ:Type} {A:α->β->Prop} {B:γ->δ->Prop}
theorem aC{a:α}{b:β}(h:A a b):Rel P f A (.pure a) (.pure b):=h
theorem tH{h:Halt}{s:Sem β}(hn:oY h=true):Rel P f A (.halt h) s:=by
 cases h<;>first|exact Bool.noConfusion hn|(cases s<;>exact hn)
theorem aE{YM:String}{s:Sem β}:Rel P f A (stuck YM) s:=tH rfl
theorem aY{u:Unsupported}{s:Sem β}(h:oY (.unsupported u)=true:=by rfl):Rel P f A (unsupported u) s:=tH h
theorem tI{v:Value}:Rel P f A (goPanic v) (goPanic (val f v)):=by simp[goPanic,Rel]
theorem ai:∀{s:Sem α} {s':Sem β} {k:α->Sem γ} {k':β->Sem δ},Rel P f A s s'->(∀a b,A a b->Rel P f B (k a) (k' b))->Rel P f B (s.bind k) (s'.bind k'):=by
 intro s
 induction s with
 |pure a=>intro s' k k' h hk;cases s'<;>simp only[Rel] at h;exact hk _ _ h
 |load m x rQ ih=>intro s' k k' h hk;cases s'<;>simp only[Rel] at h;exact⟨h.1,h.2.1,fun v=>ih v (h.2.2 v) hk⟩
 |store m x v rQ ih=>intro s' k k' h hk;cases s'<;>simp only[Rel] at h;exact⟨h.1,h.2.1,h.2.2.1,ih h.2.2.2 hk⟩
 |new o rQ ih=>intro s' k k' h hk;cases s'<;>simp only[Rel] at h;exact⟨h.1,h.2.1,fun v=>ih v (h.2.2 v) hk⟩
 |shape r rQ ih=>intro s' k k' h hk;cases s'<;>simp only[Rel] at h;exact⟨h.1,fun v=>ih v (h.2 v) hk⟩
 |freeze a n rQ ih=>intro s' k k' h hk;cases s'<;>simp only[Rel] at h;exact⟨h.1,h.2.1,ih h.2.2 hk⟩
 |frozen a rQ ih=>intro s' k k' h hk;cases s'<;>simp only[Rel] at h;exact⟨h.1,fun v=>ih v (h.2 v) hk⟩
 |getObj r rQ ih=>intro s' k k' h hk;cases s'<;>simp only[Rel] at h;exact⟨h.1,fun v=>ih v (h.2 v) hk⟩
 |setObj r o rQ ih=>intro s' k k' h hk;cases s'<;>simp only[Rel] at h;exact⟨h.1,h.2.1,h.2.2.1,ih h.2.2.2 hk⟩
 |choose q rQ ih=>intro s' k k' h hk;cases s'<;>simp only[Rel] at h;exact⟨h.1,fun v=>ih v (h.2 v) hk⟩
 |sys c rQ ih=>intro s' k k' h hk;cases s'<;>simp only[Rel] at h;exact⟨h.1,h.2.1,fun v=>ih v (h.2.2 v) hk⟩
 |program rQ ih=>intro s' k k' h hk;cases s'<;>simp only[Rel] at h;exact ih P h hk
 |mark m rQ ih=>intro s' k k' h hk;cases s'<;>simp only[Rel] at h;exact⟨h.1,h.2.1,ih h.2.2 hk⟩
 |halt agt =>
  intro s' k k' h hk;cases agt with
  |panic v=>simp only[Sem.bind];cases s'.bind k'<;>simp only[Rel]
  |_=>exact tH (by cases s'<;>exact h)
theorem HA{A':α->β->Prop}:∀{s:Sem α} {s':Sem β},Rel P f A s s'->(∀a b,A a b->A' a b)->Rel P f A' s s':=by
 intro s s' h hA;have:=ai (B:=A') (k:=.pure) (k':=.pure) h (fun a b h=>hA a b h);have e1:∀{α:Type} (s:Sem α),s.bind .pure=s:=by
  intro α s
  induction s with
  |frozen a k ih=>simp only[Sem.bind];congr 1;funext b;exact ih b
  |_=>simp_all[Sem.bind]
 rwa[e1,e1] at this
end
structure jE where
 K:Nat->Prop
 φ:Nat->Nat
 L:Nat->Prop
 G:Nat
structure EH(F:jE):Prop where
 high:∀r,F.K r->F.G<=r->F.G<=F.φ r
 vars:(∀r,r<F.G->F.K r/\F.φ r=r)\/((∀r,r<F.G->¬F.K r)/\F.G≠1)
structure jE.has(F:jE)(f:Rn):Prop where
 inj:∀x y,f.b x=f.b y->x=y
 at_:∀r,F.K r->f.b r=F.φ r
 fn:∀n,F.L n->f.h n=n
 kp:∀r,f.b r<F.G↔r<F.G
structure WR(F:jE)(wl wr:ae):Prop where
 here:∀r,F.K r->r<wl.heap.size
 there:∀r,F.K r->F.φ r<wr.heap.size
 inj:∀r s,F.K r->F.K s->F.φ r=F.φ s->r=s
 tJ:∀r,F.K r->∀f,F.has f->wr.heap[F.φ r]?=(wl.heap[r]?).map (obj f)
 QU:∀r,F.K r->∀o,wl.heap[r]?=some o->fi o=false
 os:wr.os=wl.os
 output:wr.output=wl.output
 tape:wr.tape=wl.tape
 drawn:wr.drawn=wl.drawn
 AL:EH F
 EI:F.G<=wr.heap.size
 DT:F.G<=wl.heap.size
section
variable {F:jE} {wl wr:ae}
theorem WR.two(W:WR F wl wr):∃f g:Rn,F.has f/\F.has g/\(∀r,¬F.K r->f.b r≠g.b r)/\(∀n,¬F.L n->f.h n≠g.h n)/\(∀t,f.ty t≠g.ty t)/\(∀s,f.m s≠g.m s):=by
 classical
 have hG:=W.EI;have low:∀x,F.K x->x<F.G->F.φ x=x:=fun x hx cy=>W.AL.vars.elim (fun h=>(h x cy).2) (fun h=>absurd hx (h.1 x cy));have up:=W.AL.high;have none:∀x,¬F.K x->x<F.G->(∀y,F.K y->F.G<=y)/\F.G≠1:=fun x hx cy=>W.AL.vars.elim (fun h=>absurd (h x cy).1 hx) (fun h=>⟨fun y hy=>de fun hl=>h.1 y hl hy,h.2⟩);refine⟨⟨fun x=>if F.K x then F.φ x else if x<F.G then x else wr.heap.size+x,fun n=>n,fun n=>n,fun s=>s⟩,⟨fun x=>if F.K x then F.φ x else if x<F.G then(if x+1=F.G then 0 else x+1) else wr.heap.size+1+x,fun n=>if F.L n then n else n+1,fun n=>n+1,fun s=>s ++ "x"⟩,⟨?_,?_,?_,?_⟩,⟨?_,?_,?_,?_⟩,?_,?_,?_,?_⟩
 ·intro x y h;by_cases hx:F.K x<;>by_cases hy:F.K y<;>simp only[hx,hy,if_true,if_false] at h
  ·exact W.inj _ _ hx hy h
  ·have:=W.there _ hx;split at h
   ·have h1:=(none y hy ‹_›).1 x hx;have:=up x hx h1;omega
   ·omega
  ·have:=W.there _ hy;split at h
   ·have h1:=(none x hx ‹_›).1 y hy;have:=up y hy h1;omega
   ·omega
  ·split at h<;>split at h<;>omega
 ·intro r h;simp[h]
 ·intro n h;rfl
 ·intro r;by_cases hr:F.K r
  ·simp only[hr,if_true];constructor
   ·intro h;exact fA fun hle=>by have:=up r hr hle;omega
   ·intro h;rw[low r hr h];exact h
  ·simp only[hr,if_false];split<;>omega
 ·intro x y h;by_cases hx:F.K x<;>by_cases hy:F.K y<;>simp only[hx,hy,if_true,if_false] at h
  ·exact W.inj _ _ hx hy h
  ·have:=W.there _ hx;split at h
   ·have h1:=(none y hy ‹_›).1 x hx;have:=up x hx h1;split at h<;>omega
   ·omega
  ·have:=W.there _ hy;split at h
   ·have h1:=(none x hx ‹_›).1 y hy;have:=up y hy h1;split at h<;>omega
   ·omega
  ·split at h<;>split at h<;>(try split at h)<;>(try split at h)<;>omega
 ·intro r h;simp[h]
 ·intro n h;simp[h]
 ·intro r;by_cases hr:F.K r
  ·simp only[hr,if_true];constructor
   ·intro h;exact fA fun hle=>by have:=up r hr hle;omega
   ·intro h;rw[low r hr h];exact h
  ·simp only[hr,if_false];split
   ·split<;>omega
   ·omega
 ·intro r h;simp only[h,if_false];split
  ·have:=(none r h ‹_›).2;split<;>omega
  ·omega
 ·intro n h;simp only[h,if_false];omega
 ·intro t;simp only[];omega
 ·intro s h;have:=congrArg String.length h;simp at this
theorem WR.abT(W:WR F wl wr){r r':Nat}(h:∀f,F.has f->r'=f.b r):F.K r/\r'=F.φ r:=by
 obtain⟨f,g,hf,hg,hb,_,_⟩:=W.two;have hK:F.K r:=aZ fun hn=>hb r hn ((h f hf).symm.trans (h g hg));exact⟨hK,(h f hf).trans (hf.at_ r hK)⟩
theorem WR.some(W:WR F wl wr):∃f,F.has f:=let ⟨f,_,hf,_⟩:=W.two;⟨f,hf⟩
theorem WR.put(W:WR F wl wr){b:Nat}{o o':Obj}{aV p6:ae}(hb:F.K b)(ho:∀f,F.has f->o'=obj f o)(hp:fi o=false)(zl:aV.heap.size=wl.heap.size)(l1:aV.heap[b]?=.some o)(l2:∀r,r≠b->aV.heap[r]?=wl.heap[r]?)(zr:p6.heap.size=wr.heap.size)(r1:p6.heap[F.φ b]?=.some o')(r2:∀r,r≠F.φ b->p6.heap[r]?=wr.heap[r]?)(os:p6.os=aV.os)(ou:p6.output=aV.output)(ta:p6.tape=aV.tape)(dr:p6.drawn=aV.drawn):WR F aV p6 where
 here r h:=by rw[zl];exact W.here r h
 there r h:=by rw[zr];exact W.there r h
 inj:=W.inj
 tJ r h f hf:=by
  by_cases e:r=b
  ·subst e;rw[r1,l1,ho f hf];rfl
  ·rw[l2 r e,r2 _ (fun h'=>e (W.inj _ _ h hb h'))];exact W.tJ r h f hf
 QU r h x hx:=by
  by_cases e:r=b
  ·subst e;rw[l1] at hx;cases hx;exact hp
  ·rw[l2 r e] at hx;exact W.QU r h x hx
 os:=os
 output:=ou
 tape:=ta
 drawn:=dr
 AL:=W.AL
 EI:=by rw[zr];exact W.EI
 DT:=by rw[zl];exact W.DT
end
def jE.add(F:jE)(n n':Nat):jE:={F with K:=fun r=>F.K r\/r=n,φ:=fun r=>if r=n then n' else F.φ r}
theorem jE.FU{F:jE}{n n':Nat}(hn:¬F.K n){f:Rn}(h:(F.add n n').has f):F.has f :=
 ⟨h.inj,fun r hr=>by
  have:=h.at_ r (.inl hr);simp only[jE.add] at this;rwa[if_neg (by rintro rfl;exact hn hr)] at this,h.fn,h.kp⟩
theorem jE.U1{F:jE}{n n':Nat}{f:Rn}(h:(F.add n n').has f):f.b n=n':=by
 have:=h.at_ n (.inr rfl);simpa[jE.add] using this
theorem WR.alloc{F:jE}{wl wr:ae}(W:WR F wl wr){o o':Obj}(ho:∀f,F.has f->o'=obj f o)(hp:fi o=false):
  WR (F.add wl.heap.size wr.heap.size) {wl with heap:=wl.heap.push o} {wr with heap:=wr.heap.push o'} where
 here r h:=by
  rcases h with h|rfl
  ·have:=W.here r h;simp;omega
  ·simp
 there r h:=by
  simp only[jE.add];rcases h with h|rfl
  ·have:=W.here r h;have:=W.there r h;simp;split<;>omega
  ·simp
 inj r s h k e:=by
  simp only[jE.add] at e;rcases h with h|rfl<;>rcases k with k|rfl
  ·have h1:=W.here r h;have h2:=W.here s k;rw[if_neg aa,if_neg aa] at e;exact W.inj _ _ h k e
  ·have h1:=W.here r h;have h2:=W.there r h;rw[if_neg aa,if_pos rfl] at e;omega
  ·have h1:=W.here s k;have h2:=W.there s k;rw[if_pos rfl,if_neg aa] at e;omega
  ·rfl
 tJ r h f hf:=by
  have hK:¬F.K wl.heap.size:=fun h=>by have:=W.here _ h;omega
  have UB:=jE.FU hK hf;rcases h with h|rfl
  ·have h1:=W.here r h;have h2:=W.there r h;have e:=W.tJ r h f UB;simp only[jE.add];rw[if_neg aa,dz h2,dz h1];rw[aN h2,aN h1] at e;exact e
  ·simp only[jE.add,if_true];rw[gJ,gJ,ho f UB];rfl
 QU r h x hx:=by
  rcases h with h|rfl
  ·have h1:=W.here r h;rw[dz h1] at hx;exact W.QU r h x (by rw[aN h1];exact hx)
  ·rw[gJ] at hx;cases hx;exact hp
 os:=W.os
 output:=W.output
 tape:=W.tape
 drawn:=W.drawn
 AL:=by
  have h1:=W.DT;refine⟨fun r hr cy=>?_,?_⟩
  ·simp only[jE.add] at cy |-;split
   ·exact W.EI
   ·rcases hr with hr|hr
    ·exact W.AL.high r hr cy
    ·exact absurd hr ‹_›
  ·rcases W.AL.vars with h|h
   ·left;intro r hr;have:=h r hr;refine⟨.inl this.1,?_⟩;simp only[jE.add] at hr |-;rw[if_neg aa];exact this.2
   ·right;refine⟨fun r hr hk=>?_,h.2⟩;rcases hk with hk|hk
    ·exact h.1 r hr hk
    ·simp only[jE.add] at hr;omega
 EI:=by have:=W.EI;simp[jE.add];omega
 DT:=by have:=W.DT;simp[jE.add];omega
structure fw(F F':jE)(wl wr aV p6:ae):Prop where
 K:∀r,F.K r->F'.K r
 φ:∀r,F.K r->F'.φ r=F.φ r
 L:F'.L=F.L
 wz:∀r,F'.K r->F.K r\/(wl.heap.size<=r/\wr.heap.size<=F'.φ r)
 Bu:wl.heap.size<=aV.heap.size
 size:wr.heap.size<=p6.heap.size
 mine:∀b,wr.heap.size<=b->b<p6.heap.size->∃r,F'.K r/\F'.φ r=b
 rest:∀b,(∀r,F'.K r->F'.φ r≠b)->p6.heap[b]?=wr.heap[b]?
 G:F'.G=F.G
 AL:EH F->EH F'
 Rg:aV.os=wl.os
 Bv:aV.output=wl.output
 same:wl.heap.size=wr.heap.size->aV.heap.size=p6.heap.size/\∀r,F'.K r->F.K r\/F'.φ r=r
theorem fw.refl(F:jE)(wl wr:ae):fw F F wl wr wl wr :=
 ⟨fun _ h=>h,fun _ _=>rfl,rfl,fun _ h=>.inl h,ag _,ag _,fun _ h k=>aa,fun _ _=>rfl,rfl,id,rfl,rfl,fun h=>⟨h,fun _ k=>.inl k⟩⟩
theorem fw.trans{F F₁ abU:jE}{wl wr wl₁ wr₁ Xy Xz:ae}(h:fw F F₁ wl wr wl₁ wr₁)(k:fw F₁ abU wl₁ wr₁ Xy Xz):fw F abU wl wr Xy Xz where
 K r x:=k.K r (h.K r x)
 φ r x:=(k.φ r (h.K r x)).trans (h.φ r x)
 L:=k.L.trans h.L
 wz r x:=by
  rcases k.wz r x with y|⟨y,z⟩
  ·rcases h.wz r y with a|⟨a,b⟩
   ·exact .inl a
   ·exact .inr ⟨a,by rw[k.φ r y];exact b⟩
  ·have:=h.Bu;have:=h.size;exact .inr ⟨aa,aa⟩
 Bu:=aW h.Bu k.Bu
 size:=aW h.size k.size
 mine b x y:=by
  by_cases hb:b<wr₁.heap.size
  ·obtain⟨r,a,c⟩:=h.mine b x hb;exact⟨r,k.K r a,by rw[k.φ r a];exact c⟩
  ·exact k.mine b aa y
 rest b x:=by
  rw[k.rest b x];exact h.rest b fun r hr=>by
   have:=x r (k.K r hr);rwa[k.φ r hr] at this
 G:=k.G.trans h.G
 AL x:=k.AL (h.AL x)
 Rg:=k.Rg.trans h.Rg
 Bv:=k.Bv.trans h.Bv
 same e:=⟨(k.same (h.same e).1).1,fun r hr=>by
  rcases(k.same (h.same e).1).2 r hr with x|x
  ·rcases(h.same e).2 r x with y|y
   ·exact .inl y
   ·exact .inr ((k.φ r x).trans y)
  ·exact .inr x⟩
def xo(F:jE)(e:Event):Prop :=
 match e.loc with
 | .cell a=>∃r,F.K r/\F.φ r=a.block
 | .obj b=>∃r,F.K r/\F.φ r=b
 | .mark m=>K0 m=true
 |_=>True
def QV(F:jE)(es lY:Array Event):Prop:=∃new:Array Event,lY=es++new/\∀e∈new,xo F e
theorem QV.refl(F:jE)(es:Array Event):QV F es es:=⟨#[],aj,aj⟩
theorem QV.push{F:jE}{es lY:Array Event}{e:Event}(h:QV F (es.push e) lY)(he:xo F e):QV F es lY:=by
 obtain⟨n,rfl,hn⟩:=h;refine⟨#[e]++n,by rw[<- dE,Array.append_singleton],?_⟩;intro x hx;rcases Array.mem_append.1 hx with hx|hx
 ·simp at hx;subst hx;exact he
 ·exact hn x hx
theorem QV.app{F:jE}{es lY m:Array Event}(h:QV F (es++m) lY)(he:∀e∈m,xo F e):QV F es lY:=by
 obtain⟨n,rfl,hn⟩:=h;refine⟨m++n,by simp[Array.append_assoc],?_⟩;intro x hx;rcases Array.mem_append.1 hx with hx|hx
 ·exact he x hx
 ·exact hn x hx
section
variable (f:Rn)
theorem EJ(v:Value):(val f v).bytes?=v.bytes?:=by cases v<;>simp[Value.bytes?]
theorem HC(v:Value)(bs:List UInt8):(val f v).ofBytes bs=v.ofBytes bs:=by cases v<;>simp[Value.ofBytes]
theorem vK{DU v:Value}{bs:List UInt8}(h:DU.ofBytes bs=some v):val f v=v:=by
 cases DU<;>simp only[Value.ofBytes] at h
 case bool=>split at h<;>first|(cases h;simp;done)|cases h
 case int=>split at h<;>first|(cases h;simp;done)|cases h
 case float=>split at h<;>first|(cases h;simp;done)|cases h
 case complex=>split at h<;>first|(cases h;simp;done)|cases h
 all_goals cases h
theorem DV(p:Program)(c:Array Value)(e:TypeId):∀fuel x stop,seenCells p (c.map (val f)) e fuel x stop=seenCells p c e fuel x stop:=by
 intro fuel
 induction fuel with
 |zero=>intro x stop;rfl
 |succ n ih =>
  intro x stop;simp only[seenCells,aK];split
  ·rfl
  ·split
   ·rfl
   ·split
    ·rfl
    ·rename_i i s _;cases hc:c[i]? with
     |none=>simp
     |some v =>
      simp only[aJ,EJ];cases hb:v.bytes? with
      |none=>rfl
      |some bs=>cases bs<;>simp[ih]
end
section
variable {f:Rn} {wl wr:ae} {p:Program}
theorem HD{at_ at' k k':Addr}{u:TypeId}{atomic:Bool}(hh:wr.heap[at'.block]?=(wl.heap[at_.block]?).map (obj f))(ho:at'.off=at_.off)(hs:at'.spot=at_.spot)(ko:k'.off=k.off)(ks:k'.spot=k.spot):
  wr.seen p at' u k' atomic=(wl.seen p at_ u k atomic).map (fun x=>(x.1.map (val f),x.2)):=by
 unfold World.seen;rw[hh,ho,hs,ko,ks];by_cases h1:(k.spot.isSome||at_.spot.isSome)=true
 ·simp only[h1,if_true];rfl
 ·simp only[h1,if_false];cases hl:plainCell p p.depth u k.off with
  |none=>rfl
  |some lk =>
   cases hb:Option.map (fun x=>x.length) lk.bytes? with
   |none=>simp[hb];rfl
   |some sz =>
    cases YN:byteOfCell p p.depth u k.off with
    |none=>simp[hb,YN];rfl
    |some β =>
     cases ho:wl.heap[at_.block]? with
     |none=>simp[hb,YN];rfl
     |some o =>
      cases o<;>simp[hb,YN,obj]<;>try rfl
      simp only[DV];rename_i c e z;by_cases h0:p.cellsOf e=0
      ·simp only[h0,if_true];rfl
      ·simp only[h0,if_false];cases hbc:byteOfCell p p.depth e (at_.off%p.cellsOf e) with
       |none=>rfl
       |some b0 =>
        simp only[];cases hsc:seenCells p c e (sz+1) (at_.off/p.cellsOf e*p.bytesOf e+b0+β) (at_.off/p.cellsOf e*p.bytesOf e+b0+β+sz) with
        |error=>rfl
        |ok cells =>
         cases atomic with
         |false=>rfl
         |true =>
          rcases cells with _|⟨⟨a,s,bs⟩,_|_⟩
          ·rfl
          ·simp only[bind,Except.bind];simp only[if_true];split<;>rfl
          ·rfl
theorem seen_cells{at_ k:Addr}{u:TypeId}{atomic:Bool}{c:Array Value}{e:TypeId}{z:Nat×Nat}{x:Nat×Value×List (Nat×Nat×List UInt8)}(h:wl.seen p at_ u k atomic=.ok (c,e,z,x)):wl.heap[at_.block]?=some (.cells c e z):=by
 unfold World.seen at h;by_cases h1:(k.spot.isSome||at_.spot.isSome)=true
 ·simp only[h1,if_true] at h;cases h
 ·simp only[h1,if_false] at h;cases hl:plainCell p p.depth u k.off with
  |none=>simp[hl] at h
  |some lk =>
   cases hb:Option.map (fun x=>x.length) lk.bytes? with
   |none=>simp[hl,hb] at h
   |some sz =>
    cases YN:byteOfCell p p.depth u k.off with
    |none=>simp[hl,hb,YN] at h
    |some β =>
     cases ho:wl.heap[at_.block]? with
     |none=>simp[hl,hb,YN,ho] at h
     |some o =>
      cases o<;>simp[hl,hb,YN,ho] at h<;>try (cases h;done)
      rename_i c e z;by_cases h0:p.cellsOf e=0
      ·simp only[h0,if_true] at h;cases h
      ·simp only[h0,if_false] at h;cases hbc:byteOfCell p p.depth e (at_.off%p.cellsOf e) with
       |none=>simp only[hbc] at h;cases h
       |some b0 =>
        simp only[hbc] at h;cases hsc:seenCells p c e (sz+1) (at_.off/p.cellsOf e*p.bytesOf e+b0+β) (at_.off/p.cellsOf e*p.bytesOf e+b0+β+sz) with
        |error=>simp only[hsc] at h;cases h
        |ok cells =>
         simp only[hsc] at h;cases atomic with
         |false=>cases h;rfl
         |true =>
          rcases cells with _|⟨⟨a,s,bs⟩,_|_⟩
          ·cases h
          ·simp only[bind,Except.bind] at h;simp only[if_true] at h;split at h<;>first|(cases h;rfl;done)|cases h
          ·cases h
theorem FV{at_ at' k k':Addr}{u:TypeId}{atomic:Bool}{v:Value}{ts:List Addr}(hh:wr.heap[at'.block]?=(wl.heap[at_.block]?).map (obj f))(ho:at'.off=at_.off)(hs:at'.spot=at_.spot)(ko:k'.off=k.off)(ks:k'.spot=k.spot)(h:wl.viewLoad p at_ u k atomic=.ok (v,ts)):
  (∀g:Rn,val g v=v)/\∃QW,wr.viewLoad p at' u k' atomic=.ok (v,QW)/\∀a∈QW,a.block=at'.block:=by
 unfold World.viewLoad at *;rw[HD (f:=f) hh ho hs ko ks];cases hc:wl.seen p at_ u k atomic with
 |error=>rw[hc] at h;cases h
 |ok x =>
  obtain⟨c,e,z,first,DU,cells⟩:=x;rw[hc] at h;simp only[Except.map,bind,Except.bind] at h |-;split at h
  ·rename_i v' hv;cases h;refine⟨fun g=>vK g hv,cells.map fun x=>{block:=at'.block,off:=x.1},?_,?_⟩
   ·rfl
   ·intro a ha;obtain⟨x,_,rfl⟩:=List.mem_map.1 ha;rfl
  ·cases h
theorem DW{g:Array Value->Nat×Nat×List UInt8->Except String (Array Value)}(hg:∀c x c1,g c x=.ok c1->g (c.map (val f)) x=.ok (c1.map (val f))):
  ∀(cells:List (Nat×Nat×List UInt8)) (c c2:Array Value),cells.foldlM (init:=c) g=.ok c2->cells.foldlM (init:=c.map (val f)) g=.ok (c2.map (val f)):=by
 intro cells
 induction cells with
 |nil=>intro c c2 h;cases h;rfl
 |cons x xs ih =>
  intro c c2 h;simp only[List.foldlM_cons] at h |-;cases hx:g c x with
  |error=>rw[hx] at h;cases h
  |ok c1 =>
   rw[hx] at h;rw[hg _ _ _ hx];exact ih c1 c2 h
theorem M9{α β:Type}{x:Except String α}{k:α->Except String β}{y:β}(h:(x>>=k)=.ok y):∃v,x=.ok v/\k v=.ok y:=by
 cases x with
 |error=>cases h
 |ok v=>exact⟨v,rfl,h⟩
theorem rA{at_ at' k k':Addr}{u:TypeId}{atomic:Bool}{v:Value}{aV:ae}{ts:List Addr}(hh:wr.heap[at'.block]?=(wl.heap[at_.block]?).map (obj f))(ho:at'.off=at_.off)(hs:at'.spot=at_.spot)(ko:k'.off=k.off)(ks:k'.spot=k.spot)(h:wl.viewStore p at_ u k v atomic=.ok (aV,ts)):
  ∃c e z QW,at_.block<wl.heap.size/\aV={wl with heap:=wl.heap.setIfInBounds at_.block (.cells c e z)} /\
   wr.viewStore p at' u k' (val f v) atomic=.ok ({wr with heap:=wr.heap.setIfInBounds at'.block (.cells (c.map (val f)) e z)},QW)/\∀a∈QW,a.block=at'.block:=by
 unfold World.viewStore at *;rw[HD (f:=f) hh ho hs ko ks,EJ];by_cases ht:(!tight p p.depth u)=true
 ·simp only[ht,if_true] at h;cases h
 ·simp only[ht,if_false] at h |-;obtain⟨x,hc,h⟩:=M9 h;obtain⟨c,e,z,first,DU,cells⟩:=x;have hsc:=seen_cells hc;rw[hc];simp only[] at h;cases hb:v.bytes? with
  |none=>rw[hb] at h;cases h
  |some bytes =>
   rw[hb] at h;simp only[] at h |-;by_cases hl:(some bytes.length≠DU.bytes?.map (·.length))
   ·rw[if_pos hl] at h;cases h
   ·rw[if_neg hl] at h;obtain⟨c2,XA,h⟩:=M9 h;cases h;have:=DW (f:=f) (fun c (x:Nat×Nat×List UInt8) c1 hx=>by
       simp only[aK] at hx |-;by_cases h1:(decide (x.2.1<first)||decide (x.2.1+x.2.2.length>first+bytes.length))=true
       ·simp only[h1,if_true] at hx;cases hx
       ·by_cases h2:(decide (z.1<=x.1)&&decide (x.1<z.2))=true
        ·simp only[h1,h2,if_true,if_false] at hx;cases hx
        ·simp only[h1,h2,if_false] at hx |-;cases ho:c[x.1]? with
         |none=>simp only[ho] at hx;cases hx
         |some old =>
          simp only[ho,aJ,HC] at hx |-;cases hn:old.ofBytes ((bytes.drop (x.2.1-first)).take x.2.2.length) with
          |none=>simp only[hn] at hx;cases hx
          |some new =>
           simp only[hn] at hx |-;cases hx;have:=vK f hn;show Except.ok _=Except.ok _;rw[jX,this]) cells c c2 XA
    refine⟨c2,e,z,cells.map fun x=>{block:=at'.block,off:=x.1},(Array.getElem?_eq_some_iff.1 hsc).1,rfl,?_,?_⟩
    ·simp only[Except.map,bind,Except.bind];rw[if_neg hl];simp only[bind,Except.bind] at this;rw[this];rfl
    ·intro a ha;obtain⟨x,_,rfl⟩:=List.mem_map.1 ha;rfl
end
theorem Rh{α:Type}:∀(q:Ask α) (wl wr:ae),wr.tape=wl.tape->wr.drawn=wl.drawn ->
  (wr.ask q).1=(wl.ask q).1/\(wl.ask q).2={wl with drawn:=(wl.ask q).2.drawn}/\(wr.ask q).2={wr with drawn:=(wl.ask q).2.drawn}:=by
 intro q
 induction q with
 |done a=>intro wl wr _ hd;exact⟨rfl,rfl,by simp[World.ask,<- hd]⟩
 |ask what range k ih =>
  intro wl wr ht hd;obtain⟨hp,tp,dw,o,ou⟩:=wr;simp only at ht hd;subst ht hd;simp only[World.ask];split
  ·exact ih 0 wl ⟨hp,wl.tape,wl.drawn,o,ou⟩ rfl rfl
  ·obtain⟨h1,h2,h3⟩:=ih ((Question.extern what range).cut (wl.tape wl.drawn (Question.extern what range))) {wl with drawn:=wl.drawn+1} ⟨hp,wl.tape,wl.drawn+1,o,ou⟩ rfl rfl;exact⟨h1,by rw[h2],by rw[h3]⟩
theorem HE(c:Sys){wl wr:ae}(ht:wr.tape=wl.tape)(hd:wr.drawn=wl.drawn)(ho:wr.os=wl.os):
  (wr.sys c).1=(wl.sys c).1/\∃d o,(wl.sys c).2={wl with drawn:=d,os:=o}/\(wr.sys c).2={wr with drawn:=d,os:=o}:=by
 unfold World.sys;rw[ho];obtain⟨h1,h2,h3⟩:=Rh (Kernel.perform c wl.os) wl wr ht hd;generalize hl:wl.ask (Kernel.perform c wl.os)=x at *;generalize hr:wr.ask (Kernel.perform c wl.os)=y at *;obtain⟨⟨a,b⟩,xw⟩:=x;obtain⟨⟨a',b'⟩,yw⟩:=y;simp only[bt] at h1 h2 h3;obtain⟨rfl,rfl⟩:=h1;cases a'
 case wouldBlock=>exact⟨rfl,wl.drawn,wl.os,rfl,by simp[<- hd,<- ho]⟩
 all_goals exact⟨rfl,xw.drawn,b',by simp only[];rw[h2],by simp only[];rw[h3]⟩
section
variable {F:jE} {wl wr:ae}
theorem WR.env(W:WR F wl wr){aV p6:ae}(hl:aV.heap=wl.heap)(hr:p6.heap=wr.heap)(os:p6.os=aV.os)(ou:p6.output=aV.output)(ta:p6.tape=aV.tape)(dr:p6.drawn=aV.drawn):WR F aV p6 where
 here r h:=by rw[hl];exact W.here r h
 there r h:=by rw[hr];exact W.there r h
 inj:=W.inj
 tJ r h f hf:=by rw[hl,hr];exact W.tJ r h f hf
 QU r h o ho:=W.QU r h o (by rw[<- hl];exact ho)
 os:=os
 output:=ou
 tape:=ta
 drawn:=dr
 AL:=W.AL
 EI:=by rw[hr];exact W.EI
 DT:=by rw[hl];exact W.DT
theorem fw.env{aV p6:ae}(hl:aV.heap=wl.heap)(hr:p6.heap=wr.heap)(ho:aV.os=wl.os)(hu:aV.output=wl.output):fw F F wl wr aV p6 :=
 ⟨fun _ h=>h,fun _ _=>rfl,rfl,fun _ h=>.inl h,by rw[hl];exact ag _,by rw[hr];exact ag _,fun _ h k=>by rw[hr] at k;omega,fun _ _=>by rw[hr],rfl,id,ho,hu,fun e=>⟨by rw[hl,hr];exact e,fun _ k=>.inl k⟩⟩
theorem fw.put{b:Nat}{aV p6:ae}(hb:F.K b)(zl:aV.heap.size=wl.heap.size)(zr:p6.heap.size=wr.heap.size)(r2:∀r,r≠F.φ b->p6.heap[r]?=wr.heap[r]?)(ho:aV.os=wl.os)(hu:aV.output=wl.output):fw F F wl wr aV p6 :=
 ⟨fun _ h=>h,fun _ _=>rfl,rfl,fun _ h=>.inl h,by rw[zl];exact ag _,by rw[zr];exact ag _,fun _ h k=>by rw[zr] at k;omega,fun c hc=>r2 c (fun e=>hc b hb e.symm),rfl,id,ho,hu,fun e=>⟨by rw[zl,zr];exact e,fun _ k=>.inl k⟩⟩
theorem fw.alloc(W:WR F wl wr){o o':Obj}:fw F (F.add wl.heap.size wr.heap.size) wl wr {wl with heap:=wl.heap.push o} {wr with heap:=wr.heap.push o'} where
 K r h:=.inl h
 φ r h:=by have:=W.here r h;simp only[jE.add];rw[if_neg aa]
 L:=rfl
 wz r h:=by
  rcases h with h|rfl
  ·exact .inl h
  ·exact .inr ⟨ag _,by simp[jE.add]⟩
 Bu:=aj
 size:=aj
 mine b h k:=⟨wl.heap.size,.inr rfl,by simp[jE.add] at k |-;omega⟩
 rest b h:=by
  have:b≠wr.heap.size:=fun e=>h wl.heap.size (.inr rfl) (by simp[jE.add,e]);simp only[Array.getElem?_push];rw[if_neg this]
 G:=rfl
 Rg:=rfl
 Bv:=rfl
 same e:=⟨by simpa using e,fun r hr=>by
  rcases hr with h|rfl
  ·exact .inl h
  ·exact .inr (by simp[jE.add,e])⟩
 AL _:=(W.alloc (o:=.cells #[] 0) (o':=.cells #[] 0) (fun f _=>by simp[obj]) rfl).AL
theorem WR.block(W:WR F wl wr){r r':Nat}(h:∀f,F.has f->r'=f.b r):F.K r/\r'=F.φ r/\∀f,F.has f->wr.heap[r']?=(wl.heap[r]?).map (obj f):=by
 obtain⟨hK,rfl⟩:=W.abT h;exact⟨hK,rfl,fun f hf=>W.tJ r hK f hf⟩
end
def jq(P:Program)(F:jE){α β:Type}(A:Rn->α->β->Prop)(wl wr:ae)(lY:Array Event)(s':Sem β)(x:Result α):Prop :=
 match x with
 | .ok a aV=>∃F' b p6 YO,s'.runT P wr lY=(.ok b p6,YO)/\(∀f,F'.has f->A f a b)/\WR F' aV p6/\fw F F' wl wr aV p6/\QV F' lY YO/\∀f,F'.has f->F.has f
 | .halt _ _=>True
theorem jq.step{P:Program}{F F₁:jE}{α β:Type}{A:Rn->α->β->Prop}{wl wr wl₁ wr₁:ae}{lY es₁:Array Event}{s' s₁:Sem β}{x:Result α}(hr:s'.runT P wr lY=s₁.runT P wr₁ es₁)(hm:fw F F₁ wl wr wl₁ wr₁)(he:∀el,∀F':jE,(∀r,F₁.K r->F'.K r)->(∀r,F₁.K r->F'.φ r=F₁.φ r)->QV F' es₁ el->QV F' lY el)(hF:∀f,F₁.has f->F.has f)(h:jq P F₁ A wl₁ wr₁ es₁ s₁ x):jq P F A wl wr lY s' x:=by
 cases x with
 |ok a aV =>
  obtain⟨F',b,p6,YO,h1,h2,h3,h4,h5,h6⟩:=h;exact⟨F',b,p6,YO,hr.trans h1,h2,h3,hm.trans h4,he YO F' h4.K h4.φ h5,fun f hf=>hF f (h6 f hf)⟩
 |halt hh aV=>trivial
theorem EK{w:ae}{x:Addr}{v:Value}(h:w.cell? x=some v):∃c e z,w.heap[x.block]?=some (.cells c e z)/\x.spot=none/\c[x.off]?=some v:=by
 unfold World.cell? at h;split at h
 ·rename_i c e z hc;by_cases hs:x.spot.isSome=true
  ·rw[if_pos hs] at h;cases h
  ·rw[if_neg hs] at h;exact⟨c,e,z,hc,by simpa using hs,h⟩
 ·cases h
theorem HF{f:Rn}{wl wr:ae}{x x':Addr}{v:Value}(hh:wr.heap[x'.block]?=(wl.heap[x.block]?).map (obj f))(ho:x'.off=x.off)(hs:x'.spot=x.spot)(h:wl.cell? x=some v):wr.cell? x'=some (val f v):=by
 obtain⟨c,e,z,h1,h2,h3⟩:=EK h;unfold World.cell?;rw[hh,h1,hs,h2,ho];simp[obj,h3]
theorem EL{f:Rn}{wl wr:ae}{x x':Addr}(hh:wr.heap[x'.block]?=(wl.heap[x.block]?).map (obj f))(ho:x'.off=x.off)(hs:x'.spot=x.spot)(h:wl.cell? x=none):wr.cell? x'=none:=by
 unfold World.cell? at *;rw[hh,hs,ho];cases hc:wl.heap[x.block]? with
 |none=>rfl
 |some o =>
  rw[hc] at h;cases o<;>simp only[obj,aJ] at h |-;split<;>rename_i vx
  ·rfl
  ·rw[if_neg vx] at h;simp[h]
theorem Bw{f:Rn}{wl wr:ae}{x x':Addr}(hh:wr.heap[x'.block]?=(wl.heap[x.block]?).map (obj f))(ho:x'.off=x.off):wr.frozen? x'=wl.frozen? x:=by
 unfold World.frozen?;rw[hh,ho];cases hc:wl.heap[x.block]? with
 |none=>rfl
 |some o=>cases o<;>rfl
theorem OC{f:Rn}{wl wr:ae}{r r':Nat}(hh:wr.heap[r']?=(wl.heap[r]?).map (obj f)):wr.shape? r'=wl.shape? r:=by
 unfold World.shape?;rw[hh];cases hc:wl.heap[r]? with
 |none=>rfl
 |some o=>cases o<;>simp[obj]
theorem EM{w:ae}{a:Addr}{what:String}{v:Value}:w.noCell a what≠.panic v:=by
 unfold World.noCell;split<;>simp
theorem HG{p:Program}{w:ae}{a:Addr}{at_:Bool}{h:Halt}(hh:w.farLoad p a at_=.error h)(v:Value):h≠.panic v:=by
 unfold World.farLoad at hh;split at hh
 ·split at hh
  ·cases hh
  ·cases hh;simp
 ·cases hh;exact EM
theorem K1{p:Program}{w:ae}{a:Addr}{at_:Bool}{x:Value×List Addr}(hh:w.farLoad p a at_=.ok x):∃b u,w.heap[a.block]?=some (.view b u)/\w.viewLoad p b u a at_=.ok x:=by
 unfold World.farLoad at hh;split at hh
 ·rename_i b u hb;split at hh
  ·rename_i r hr;cases hh;exact⟨b,u,hb,hr⟩
  ·cases hh
 ·cases hh
theorem FW{p:Program}{w:ae}{a:Addr}{y:Value}{at_:Bool}{h:Halt}(hh:w.farStore p a y at_=.error h)(v:Value):h≠.panic v:=by
 unfold World.farStore at hh;split at hh
 ·split at hh
  ·cases hh
  ·cases hh;simp
 ·cases hh;exact EM
theorem tK{p:Program}{w:ae}{a:Addr}{y:Value}{at_:Bool}{x:ae×List Addr}(hh:w.farStore p a y at_=.ok x):∃b u,w.heap[a.block]?=some (.view b u)/\w.viewStore p b u a y at_=.ok x:=by
 unfold World.farStore at hh;split at hh
 ·rename_i b u hb;split at hh
  ·rename_i r hr;cases hh;exact⟨b,u,hb,hr⟩
  ·cases hh
 ·cases hh
theorem kU{P:Program}{F:jE}{α β:Type}{A:Rn->α->β->Prop}{wl wr w:ae}{lY:Array Event}{s':Sem β}{h:Halt}(_hn:∀v,h≠.panic v):jq P F A wl wr lY s' (.halt h w):=by
 trivial
theorem getElem?_modify{α:Type}(xs:Array α)(i j:Nat)(g:α->α):(xs.modify i g)[j]?=if i=j then xs[j]?.map g else xs[j]?:=by
 rw[aR]
theorem iu{α:Type}{P:Program}{m:Mode}{a:Addr}{v:Value}{k:Sem α}{w:ae}{es:Array Event}(h1:∀c,v≠.agg c)(h2:∀c,v≠.tuple c):
  (Sem.store m a v k).runT P w es=match w.cell? a with
   |some _=>if w.frozen? a then(.halt (.unsupported (.unsafePointer "a write to bytes that a string shares")) w,es) else k.runT P (w.setCell a v) (es.push ⟨.cell a,true,m == .atomic⟩)
   |none=>match w.farStore P a v (m == .atomic) with
    | .ok (w,Va)=>k.runT P w (es++Va.toArray.map (⟨.cell ·,true,m == .atomic⟩))
    | .error h=>(.halt h w,es):=by
 cases v<;>first|exact absurd rfl (h1 _)|exact absurd rfl (h2 _)|rfl
theorem By{α:Type}{P:Program}{m:Mode}{a:Addr}{c:Array Value}{k:Sem α}{w:ae}{es:Array Event}:
  ∃YM,((Sem.store m a (.agg c) k).runT P w es).1=.halt (.stuck YM) w:=⟨_,rfl⟩
theorem yW{α:Type}{P:Program}{m:Mode}{a:Addr}{c:Array Value}{k:Sem α}{w:ae}{es:Array Event}:
  ∃YM,((Sem.store m a (.tuple c) k).runT P w es).1=.halt (.stuck YM) w:=⟨_,rfl⟩
theorem xp(w:ae)(a:Addr)(v:Value){c:Array Value}{e:TypeId}{z:Nat×Nat}(h:w.heap[a.block]?=some (.cells c e z))(hs:a.spot=none):
  (w.setCell a v).heap.size=w.heap.size/\(w.setCell a v).heap[a.block]?=some (.cells (c.setIfInBounds a.off v) e z)/\∀r,r≠a.block->(w.setCell a v).heap[r]?=w.heap[r]?:=by
 unfold World.setCell;refine⟨aj,?_,fun r hr=>?_⟩
 ·simp only[getElem?_modify,if_true,h,aJ,hs];simp
 ·simp only[getElem?_modify];rw[if_neg (bp hr)]
theorem p7(h:Array Obj)(b:Nat)(o:Obj)(hb:b<h.size):(h.setIfInBounds b o).size=h.size/\(h.setIfInBounds b o)[b]?=some o/\∀r,r≠b->(h.setIfInBounds b o)[r]?=h[r]?:=by
 refine⟨aj,by simp[hb],fun r hr=>?_⟩;rw[aS (bp hr)]
def qK(off n:Nat):Obj->Obj
 | .cells c e (lo,hi)=>.cells c e (if lo==hi then(off,off+n) else(min lo off,max hi (off+n)))
 |o=>o
theorem om(w:ae)(a:Addr)(n:Nat)(hn:n≠0):(w.freeze a n)={w with heap:=w.heap.modify a.block (qK a.off n)}:=by
 unfold World.freeze;rw[if_neg hn]
 congr 1
theorem OD(f:Rn)(off n:Nat)(o:Obj):obj f (qK off n o)=qK off n (obj f o):=by
 cases o<;>simp[obj,qK]
theorem Bz(off n:Nat)(o:Obj):fi (qK off n o)=fi o:=by
 cases o<;>simp[fi,qK]
theorem xq{P:Program}{α β:Type}(A:Rn->α->β->Prop):∀(s:Sem α) (s':Sem β) (F:jE) (wl wr:ae) (es lY:Array Event),
  (∀f,F.has f->Rel P f (A f) s s')->WR F wl wr->jq P F A wl wr lY s' (s.runT P wl es).1:=by
 intro s
 induction s with
 |pure a =>
  intro s' F wl wr es lY h W;obtain⟨f0,kI⟩:=W.some;have h0:=h f0 kI;cases s'<;>simp only[Rel] at h0;exact⟨F,_,wr,lY,rfl,fun f hf=>h f hf,W,fw.refl _ _ _,QV.refl _ _,fun _ h=>h⟩
 |load m x k ih =>
  intro s' F wl wr es lY h W;obtain⟨f0,kI⟩:=W.some;have h0:=h f0 kI;cases s'<;>simp only[Rel] at h0;rename_i m' x' k';obtain⟨rfl,Hr,HH⟩:=h0;have hh:∀f,F.has f->x'=addr f x/\∀v,Rel P f (A f) (k v) (k' (val f v)):=fun f hf=>⟨(h f hf).2.1,(h f hf).2.2⟩;obtain⟨hK,hb,ga⟩:=W.block (r:=x.block) (r':=x'.block) (fun f hf=>by rw[(hh f hf).1];rfl);have ho:x'.off=x.off:=by rw[Hr];rfl
  have hs:x'.spot=x.spot:=by rw[Hr];rfl
  have jg:∀(F':jE),(∀r,F.K r->F'.K r)->(∀r,F.K r->F'.φ r=F.φ r)->∀(y:Addr) (wt sy:Bool),y.block=x'.block->xo F' ⟨.cell y,wt,sy⟩:=fun F' h1 h2 y wt sy hy=>⟨x.block,h1 _ hK,by rw[h2 _ hK,hy,hb]⟩;simp only[Sem.runT];cases hc:wl.cell? x with
  |some v =>
   have hv:∀f,F.has f->wr.cell? x'=some (val f v):=fun f hf=>HF (ga f hf) ho hs hc;have Ve:∀f,F.has f->val f v=val f0 v:=fun f hf=>aQ ((hv f hf).symm.trans (hv f0 kI));exact jq.step (F₁:=F) (wl₁:=wl) (wr₁:=wr) (s₁:=k' (val f0 v)) (es₁:=lY.push ⟨.cell x',false,m' == .atomic⟩) (by simp only[Sem.runT,hv f0 kI]) (fw.refl _ _ _) (fun el F' h1 h2 he=>he.push (jg F' h1 h2 _ _ _ rfl)) (fun _ h=>h)
    (ih v (k' (val f0 v)) F wl wr _ _ (fun f hf=>by have:=(hh f hf).2 v;rwa[Ve f hf] at this) W)
  |none =>
   have vL:=EL (ga f0 kI) ho hs hc;cases hf:wl.farLoad P x (m' == .atomic) with
   |error cy=>exact kU (HG hf)
   |ok y =>
    obtain⟨v,ts⟩:=y;obtain⟨at_,u,HI,KH⟩:=K1 hf;have YP:∀f,F.has f->wr.heap[x'.block]?=some (.view (addr f at_) u):=fun f hf=>by rw[ga f hf,HI];rfl
    obtain⟨Vf,pA,YQ⟩:=W.block (r:=at_.block) (r':=(addr f0 at_).block) (fun f hf=>by
     have:=(YP f0 kI).symm.trans (YP f hf);simp only[ay,Obj.view.injEq,and_true] at this;rw[this];rfl)
    obtain⟨Na,QW,hl,YR⟩:=FV (f:=f0) (p:=P) (at':=addr f0 at_) (k':=x') (YQ f0 kI) rfl rfl ho hs KH;have YS:∀(F':jE),(∀r,F.K r->F'.K r)->(∀r,F.K r->F'.φ r=F.φ r)->∀e∈QW.toArray.map (fun y=>(⟨.cell y,false,m' == .atomic⟩:Event)),xo F' e:=by
     intro F' h1 h2 e he;simp only[Array.mem_map,List.mem_toArray] at he;obtain⟨y,hy,rfl⟩:=he;exact⟨at_.block,h1 _ Vf,by rw[h2 _ Vf,YR y hy,pA]⟩
    refine jq.step (F₁:=F) (wl₁:=wl) (wr₁:=wr) (s₁:=k' v) (es₁:=lY++QW.toArray.map (fun y=>⟨.cell y,false,m' == .atomic⟩)) ?_ (fw.refl _ _ _) (fun el F' h1 h2 he=>he.app (YS F' h1 h2)) (fun _ h=>h)
     (ih v (k' v) F wl wr _ _ (fun f hf=>by have:=(hh f hf).2 v;rwa[Na f] at this) W)
    simp only[Sem.runT,vL,World.farLoad,YP f0 kI,hl]
 |store m x v k ih =>
  intro s' F wl wr es lY h W;obtain⟨f0,kI⟩:=W.some;have h0:=h f0 kI;cases s'<;>simp only[Rel] at h0;rename_i m' x' v' k';obtain⟨rfl,Hr,OE,HH⟩:=h0;have hh:∀f,F.has f->x'=addr f x/\v'=val f v/\Rel P f (A f) k k':=fun f hf=>⟨(h f hf).2.1,(h f hf).2.2.1,(h f hf).2.2.2⟩;obtain⟨hK,hb,ga⟩:=W.block (r:=x.block) (r':=x'.block) (fun f hf=>by rw[(hh f hf).1];rfl);have ho:x'.off=x.off:=by rw[Hr];rfl
  have hs:x'.spot=x.spot:=by rw[Hr];rfl
  have jg:∀(F':jE),(∀r,F.K r->F'.K r)->(∀r,F.K r->F'.φ r=F.φ r)->∀(wt sy:Bool),xo F' ⟨.cell x',wt,sy⟩:=fun F' h1 h2 wt sy=>⟨x.block,h1 _ hK,by rw[h2 _ hK,hb]⟩;by_cases cj:(∃c,v=.agg c)\/∃c,v=.tuple c
  ·rcases cj with⟨c,rfl⟩|⟨c,rfl⟩
   ·obtain⟨YM,hw⟩:=By (P:=P) (m:=m') (a:=x) (c:=c) (k:=k) (w:=wl) (es:=es);rw[hw];exact kU aj
   ·obtain⟨YM,hw⟩:=yW (P:=P) (m:=m') (a:=x) (c:=c) (k:=k) (w:=wl) (es:=es);rw[hw];exact kU aj
  ·have n1:∀c,v≠.agg c:=fun c e=>cj (.inl ⟨c,e⟩);have n2:∀c,v≠.tuple c:=fun c e=>cj (.inr ⟨c,e⟩);have n1':∀c,v'≠.agg c:=fun c e=>by rw[OE] at e;cases v<;>simp at e;exact n1 _ rfl
   have n2':∀c,v'≠.tuple c:=fun c e=>by rw[OE] at e;cases v<;>simp at e;exact n2 _ rfl
   rw[iu n1 n2];cases hc:wl.cell? x with
   |some old =>
    have Vg:=HF (ga f0 kI) ho hs hc;have hfz:=Bw (ga f0 kI) ho;simp only[];by_cases hz:wl.frozen? x=true
    ·rw[if_pos hz];exact kU aj
    ·rw[if_neg hz];obtain⟨c,e,z,c1,c2,c3⟩:=EK hc;obtain⟨l0,l1,l2⟩:=xp wl x v c1 c2;have AM:wr.heap[x'.block]?=some (.cells (c.map (val f0)) e z):=by rw[ga f0 kI,c1];rfl
     obtain⟨r0,r1,r2⟩:=xp wr x' v' AM (hs.trans c2);rw[hb] at r1 r2;refine jq.step (F₁:=F) (wl₁:=wl.setCell x v) (wr₁:=wr.setCell x' v') (s₁:=k') (es₁:=lY.push ⟨.cell x',true,m' == .atomic⟩) ?_ (fw.put hK l0 r0 r2 rfl rfl) (fun el F' h1 h2 he=>he.push (jg F' h1 h2 _ _)) (fun _ h=>h)
      (ih k' F _ _ _ _ (fun f hf=>(hh f hf).2.2) (W.put hK (o:=.cells (c.setIfInBounds x.off v) e z) (fun f hf=>by
       have e1:some (Obj.cells (c.map (val f0)) e z)=some (Obj.cells (c.map (val f)) e z):=AM.symm.trans ((ga f hf).trans (by rw[c1];rfl));simp only[ay,Obj.cells.injEq,and_true] at e1;simp only[obj,Array.map_setIfInBounds];rw[<- e1,<- (hh f hf).2.1,ho]) rfl l0 l1 l2 r0 r1 r2 W.os W.output W.tape W.drawn))
     rw[iu n1' n2',Vg];simp only[hfz,hz,if_false];rfl
   |none =>
    have vL:=EL (ga f0 kI) ho hs hc;simp only[];cases hf:wl.farStore P x v (m' == .atomic) with
    |error cy=>exact kU (FW hf)
    |ok y =>
     obtain⟨aV,ts⟩:=y;obtain⟨at_,u,HI,KH⟩:=tK hf;have YP:∀f,F.has f->wr.heap[x'.block]?=some (.view (addr f at_) u):=fun f hf=>by rw[ga f hf,HI];rfl
     obtain⟨Vf,pA,YQ⟩:=W.block (r:=at_.block) (r':=(addr f0 at_).block) (fun f hf=>by
      have:=(YP f0 kI).symm.trans (YP f hf);simp only[ay,Obj.view.injEq,and_true] at this;rw[this];rfl)
     have iB:∀f,F.has f->_:=fun f hf=>rA (f:=f) (p:=P) (at':=addr f0 at_) (k':=x') (YQ f hf) rfl rfl ho hs KH;obtain⟨c,e,z,QW,cy,rfl,hl,YR⟩:=iB f0 kI;have K2:∀f,F.has f->c.map (val f)=c.map (val f0):=by
      intro f hf;obtain⟨c',e',z',ts2,_,uS,QX,_⟩:=iB f hf;simp only[World.mk.injEq,and_true] at uS;have q1:=congrArg (fun h:Array Obj=>h[at_.block]?) uS;simp only[Array.getElem?_setIfInBounds_self_of_lt cy,ay,Obj.cells.injEq] at q1;obtain⟨rfl,rfl,rfl⟩:=q1;rw[<- (hh f hf).2.1] at QX;rw[<- OE] at hl;have q2:=QX.symm.trans hl;simp only[Except.ok.injEq,bt,World.mk.injEq,and_true] at q2;have q3:=congrArg (fun h:Array Obj=>h[(addr f0 at_).block]?) q2.1;have yX:(addr f0 at_).block<wr.heap.size:=by rw[pA];exact W.there _ Vf
      simp only[Array.getElem?_setIfInBounds_self_of_lt yX,ay,Obj.cells.injEq] at q3;exact q3.1
     have yX:(addr f0 at_).block<wr.heap.size:=by rw[pA];exact W.there _ Vf
     obtain⟨l0,l1,l2⟩:=p7 wl.heap at_.block (.cells c e z) cy;obtain⟨r0,r1,r2⟩:=p7 wr.heap (addr f0 at_).block (.cells (c.map (val f0)) e z) yX;rw[pA] at r0 r1 r2;have YS:∀(F':jE),(∀r,F.K r->F'.K r)->(∀r,F.K r->F'.φ r=F.φ r)->∀e∈QW.toArray.map (fun y=>(⟨.cell y,true,m' == .atomic⟩:Event)),xo F' e:=by
      intro F' h1 h2 e he;simp only[Array.mem_map,List.mem_toArray] at he;obtain⟨y,hy,rfl⟩:=he;exact⟨at_.block,h1 _ Vf,by rw[h2 _ Vf,YR y hy,pA]⟩
     refine jq.step (F₁:=F) (wr₁:={wr with heap:=wr.heap.setIfInBounds (F.φ at_.block) (.cells (c.map (val f0)) e z)}) (s₁:=k') (es₁:=lY++QW.toArray.map (fun y=>⟨.cell y,true,m' == .atomic⟩)) ?_
      (fw.put Vf l0 r0 r2 ar ar) (fun el F' h1 h2 he=>he.app (YS F' h1 h2)) (fun _ h=>h)
      (ih k' F _ _ _ _ (fun f hf=>(hh f hf).2.2) (W.put Vf (o:=.cells c e z) (fun f hf=>by simp only[obj];rw[K2 f hf]) rfl l0 l1 l2 r0 r1 r2 W.os W.output W.tape W.drawn))
     rw[iu n1' n2',vL];rw[<- OE,pA] at hl;simp only[World.farStore,YP f0 kI,hl]
 |new o k ih =>
  intro s' F wl wr es lY h W;obtain⟨f0,kI⟩:=W.some;have h0:=h f0 kI;cases s'<;>simp only[Rel] at h0;rename_i o' k';have hn:¬F.K wl.heap.size:=fun hk=>by have:=W.here _ hk;omega
  have W':=W.alloc (o:=o) (o':=o') (fun f hf=>(h f hf).1) h0.2.1;exact jq.step (F₁:=F.add wl.heap.size wr.heap.size) (wl₁:={wl with heap:=wl.heap.push o}) (wr₁:={wr with heap:=wr.heap.push o'}) (s₁:=k' wr.heap.size) (es₁:=lY) rfl (fw.alloc W) (fun _ _ _ _ he=>he) (fun f hf=>jE.FU hn hf)
   (ih wl.heap.size (k' wr.heap.size) _ _ _ _ _ (fun f hf=>by have:=(h f (jE.FU hn hf)).2.2 wl.heap.size;rwa[jE.U1 hf] at this) W')
 |shape r k ih =>
  intro s' F wl wr es lY h W;obtain⟨f0,kI⟩:=W.some;have h0:=h f0 kI;cases s'<;>simp only[Rel] at h0;rename_i r' k';obtain⟨hK,hb,ga⟩:=W.block (r:=r) (r':=r') (fun f hf=>(h f hf).1);exact jq.step (F₁:=F) (wl₁:=wl) (wr₁:=wr) (s₁:=k' (wl.shape? r)) (es₁:=lY) (by simp only[Sem.runT,OC (ga f0 kI)]) (fw.refl _ _ _) (fun _ _ _ _ he=>he) (fun _ h=>h)
   (ih _ _ F wl wr _ _ (fun f hf=>(h f hf).2 _) W)
 |freeze a n k ih =>
  intro s' F wl wr es lY h W;obtain⟨f0,kI⟩:=W.some;have h0:=h f0 kI;cases s'<;>simp only[Rel] at h0;rename_i a' n' k';obtain⟨ha0,rfl,HH⟩:=h0;obtain⟨hK,hb,ga⟩:=W.block (r:=a.block) (r':=a'.block) (fun f hf=>by rw[(h f hf).1];rfl);have hk:∀f,F.has f->Rel P f (A f) k k':=fun f hf=>(h f hf).2.2;by_cases hn:n'=0
  ·subst hn;exact jq.step (F₁:=F) (wl₁:=wl) (wr₁:=wr) (s₁:=k') (es₁:=lY) (by simp[Sem.runT,World.freeze]) (fw.refl _ _ _) (fun _ _ _ _ he=>he) (fun _ h=>h)
    (by simp only[Sem.runT,World.freeze,if_true];exact ih _ F wl wr _ _ hk W)
  ·obtain⟨o,ho⟩:∃o,wl.heap[a.block]?=some o:=⟨_,aN (W.here _ hK)⟩;have Vh:a'.off=a.off:=by rw[ha0];rfl
   have hr:∀f,F.has f->wr.heap[a'.block]?=some (obj f o):=fun f hf=>by rw[ga f hf,ho];rfl
   have r1:(wr.heap.modify a'.block (qK a'.off n'))[F.φ a.block]?=some (qK a.off n' (obj f0 o)):=by
    rw[getElem?_modify,<- hb,if_pos rfl,hr f0 kI,Vh];rfl
   have r2:∀r,r≠F.φ a.block->(wr.heap.modify a'.block (qK a'.off n'))[r]?=wr.heap[r]?:=fun r dH=>by rw[getElem?_modify,hb,if_neg (bp dH)]
   have l1:(wl.heap.modify a.block (qK a.off n'))[a.block]?=some (qK a.off n' o):=by rw[getElem?_modify,if_pos rfl,ho];rfl
   have l2:∀r,r≠a.block->(wl.heap.modify a.block (qK a.off n'))[r]?=wl.heap[r]?:=fun r dH=>by rw[getElem?_modify,if_neg (bp dH)]
   refine jq.step (F₁:=F) (wl₁:=wl.freeze a n') (wr₁:=wr.freeze a' n') (s₁:=k') (es₁:=lY) rfl ?_ (fun _ _ _ _ he=>he) (fun _ h=>h) (ih _ F _ _ _ _ hk ?_)
   ·rw[om _ _ _ hn,om _ _ _ hn];exact fw.put hK aj aj r2 aj aj
   ·rw[om _ _ _ hn,om _ _ _ hn];exact W.put hK (o:=qK a.off n' o) (o':=qK a.off n' (obj f0 o)) (fun f hf=>by
     have e:=aQ ((hr f0 kI).symm.trans (hr f hf));rw[OD,e]) (by rw[Bz];exact W.QU _ hK _ ho) aj l1 l2 aj r1 r2 W.os W.output W.tape W.drawn
 |frozen a k ih =>
  intro s' F wl wr es lY h W;obtain⟨f0,kI⟩:=W.some;have h0:=h f0 kI;cases s'<;>simp only[Rel] at h0;rename_i a' k';obtain⟨hK,hb,ga⟩:=W.block (r:=a.block) (r':=a'.block) (fun f hf=>by rw[(h f hf).1];rfl);have Vh:a'.off=a.off:=by rw[h0.1];rfl
  exact jq.step (F₁:=F) (wl₁:=wl) (wr₁:=wr) (s₁:=k' (wl.frozen? a)) (es₁:=lY) (by simp only[Sem.runT,Bw (ga f0 kI) Vh]) (fw.refl _ _ _) (fun _ _ _ _ he=>he) (fun _ h=>h)
   (ih _ _ F wl wr _ _ (fun f hf=>(h f hf).2 _) W)
 |getObj r k ih =>
  intro s' F wl wr es lY h W;obtain⟨f0,kI⟩:=W.some;have h0:=h f0 kI;cases s'<;>simp only[Rel] at h0;rename_i r' k';obtain⟨hK,hb,ga⟩:=W.block (r:=r) (r':=r') (fun f hf=>(h f hf).1);obtain⟨o,ho⟩:∃o,wl.heap[r]?=some o:=⟨_,aN (W.here _ hK)⟩;have hr:∀f,F.has f->wr.heap[r']?=some (obj f o):=fun f hf=>by rw[ga f hf,ho];rfl
  have Ve:∀f,F.has f->obj f o=obj f0 o:=fun f hf=>aQ ((hr f hf).symm.trans (hr f0 kI));by_cases hc:∃c e z,o=.cells c e z
  ·obtain⟨c,e,z,rfl⟩:=hc;simp only[Sem.runT,ho];exact kU aj
  ·have e1:(Sem.getObj r k).runT P wl es=(k o).runT P wl (es.push ⟨.obj r,false,o.isChan⟩):=by
    simp only[Sem.runT,ho];cases o<;>first|rfl|exact absurd ⟨_,_,_,rfl⟩ hc
   have e2:(Sem.getObj r' k').runT P wr lY=(k' (obj f0 o)).runT P wr (lY.push ⟨.obj r',false,o.isChan⟩):=by
    simp only[Sem.runT,hr f0 kI];cases o<;>first|rfl|exact absurd ⟨_,_,_,rfl⟩ hc
   rw[e1];exact jq.step (F₁:=F) (wl₁:=wl) (wr₁:=wr) e2 (fw.refl _ _ _) (fun el F' h1 h2 he=>he.push ⟨r,h1 _ hK,by rw[h2 _ hK,hb]⟩) (fun _ h=>h)
    (ih o (k' (obj f0 o)) F wl wr _ _ (fun f hf=>by have:=(h f hf).2 o;rwa[Ve f hf] at this) W)
 |setObj r o k ih =>
  intro s' F wl wr es lY h W;obtain⟨f0,kI⟩:=W.some;have h0:=h f0 kI;cases s'<;>simp only[Rel] at h0;rename_i r' o' k';obtain⟨hK,hb,ga⟩:=W.block (r:=r) (r':=r') (fun f hf=>(h f hf).1);obtain⟨x,hx⟩:∃o,wl.heap[r]?=some o:=⟨_,aN (W.here _ hK)⟩;have hr:wr.heap[r']?=some (obj f0 x):=by rw[ga f0 kI,hx];rfl
  have hic:o'.isChan=o.isChan:=by rw[h0.2.1];cases o<;>rfl
  by_cases hc:∃c e z,x=.cells c e z
  ·obtain⟨c,e,z,rfl⟩:=hc;simp only[Sem.runT,hx];exact kU aj
  ·have e1:(Sem.setObj r o k).runT P wl es=k.runT P {wl with heap:=wl.heap.setIfInBounds r o} (es.push ⟨.obj r,true,o.isChan⟩):=by
    simp only[Sem.runT,hx];cases x<;>first|rfl|exact absurd ⟨_,_,_,rfl⟩ hc
   have e2:(Sem.setObj r' o' k').runT P wr lY=k'.runT P {wr with heap:=wr.heap.setIfInBounds r' o'} (lY.push ⟨.obj r',true,o.isChan⟩):=by
    simp only[Sem.runT,hr,hic];cases x<;>first|rfl|exact absurd ⟨_,_,_,rfl⟩ hc
   obtain⟨l0,l1,l2⟩:=p7 wl.heap r o (W.here _ hK);obtain⟨r0,r1,r2⟩:=p7 wr.heap (F.φ r) o' (W.there _ hK);rw[e1];rw[hb] at e2;rw[hb];exact jq.step (F₁:=F) (wl₁:={wl with heap:=wl.heap.setIfInBounds r o}) (wr₁:={wr with heap:=wr.heap.setIfInBounds (F.φ r) o'}) e2 (fw.put hK l0 r0 r2 rfl rfl) (fun el F' h1 h2 he=>he.push ⟨r,h1 _ hK,by rw[h2 _ hK]⟩) (fun _ h=>h)
    (ih k' F _ _ _ _ (fun f hf=>(h f hf).2.2.2) (W.put hK (o:=o) (fun f hf=>(h f hf).2.1) h0.2.2.1 l0 l1 l2 r0 r1 r2 W.os W.output W.tape W.drawn))
 |choose q k ih =>
  intro s' F wl wr es lY h W;obtain⟨f0,kI⟩:=W.some;have h0:=h f0 kI;cases s'<;>simp only[Rel] at h0;rename_i q' k';obtain⟨rfl,HH⟩:=h0;have hk:∀n f,F.has f->Rel P f (A f) (k n) (k' n):=fun n f hf=>(h f hf).2 n;simp only[Sem.runT];by_cases hq:q'.forced=true
  ·simp only[hq,if_true];exact jq.step (F₁:=F) (wl₁:=wl) (wr₁:=wr) (s₁:=k' 0) (es₁:=lY) (by simp only[Sem.runT,hq,if_true]) (fw.refl _ _ _) (fun _ _ _ _ he=>he) (fun _ h=>h) (ih 0 (k' 0) F wl wr _ _ (hk 0) W)
  ·simp only[hq,if_false];exact jq.step (F₁:=F) (wl₁:={wl with drawn:=wl.drawn+1}) (wr₁:={wr with drawn:=wr.drawn+1}) (s₁:=k' (q'.cut (wl.tape wl.drawn q'))) (es₁:=lY) (by simp[Sem.runT,hq,W.tape,W.drawn]) (fw.env rfl rfl rfl rfl) (fun _ _ _ _ he=>he) (fun _ h=>h)
    (ih _ _ F _ _ _ _ (hk _) (W.env rfl rfl W.os W.output W.tape (by simp[W.drawn])))
 |sys c k ih =>
  intro s' F wl wr es lY h W;obtain⟨f0,kI⟩:=W.some;have h0:=h f0 kI;cases s'<;>simp only[Rel] at h0;rename_i c' k';obtain⟨rfl,agu,HH⟩:=h0;have YT:(wl.sys c').2.os=wl.os:=by cases c'<;>first|exact Bool.noConfusion agu|rfl
  obtain⟨e1,d,o,e2,e3⟩:=HE c' W.tape W.drawn W.os;simp only[Sem.runT];exact jq.step (F₁:=F) (wl₁:=(wl.sys c').2) (wr₁:=(wr.sys c').2) (s₁:=k' (wl.sys c').1) (es₁:=lY.push ⟨.output,true,false⟩) (by simp only[Sem.runT,e1]) (by rw[e2] at YT;rw[e2,e3];exact fw.env rfl rfl YT rfl) (fun _ _ _ _ he=>he.push trivial) (fun _ h=>h)
   (ih _ _ F _ _ _ _ (fun f hf=>(h f hf).2.2 _) (by rw[e2,e3];exact W.env rfl rfl rfl W.output W.tape rfl))
 |program k ih =>
  intro s' F wl wr es lY h W;obtain⟨f0,kI⟩:=W.some;have h0:=h f0 kI;cases s'<;>simp only[Rel] at h0;rename_i k';exact jq.step (F₁:=F) (wl₁:=wl) (wr₁:=wr) (s₁:=k' P) (es₁:=lY) rfl (fw.refl _ _ _) (fun _ _ _ _ he=>he) (fun _ h=>h) (ih P (k' P) F wl wr _ _ (fun f hf=>h f hf) W)
 |mark m k ih =>
  intro s' F wl wr es lY h W;obtain⟨f0,kI⟩:=W.some;have h0:=h f0 kI;cases s'<;>simp only[Rel] at h0;rename_i m' k';refine jq.step (F₁:=F) (wl₁:=wl) (wr₁:=wr) (s₁:=k') (es₁:=lY.push ⟨.mark m',false,true⟩) rfl (fw.refl _ _ _) (fun _ F' _ _ he=>he.push ?_) (fun _ h=>h) (ih k' F wl wr _ _ (fun f hf=>(h f hf).2.2) W);show K0 m'=true;rw[h0.1];have:=h0.2.1;cases m<;>first|rfl|cases this
 |halt hh =>
  intro s' F wl wr es lY h W;obtain⟨f0,kI⟩:=W.some;have h0:=h f0 kI;cases hh with
  |_=>trivial
structure nE(P:Program)(f:Rn):Prop where
 inj:∀x y,f.b x=f.b y->x=y
 kp:∀r,f.b r<P.globals.size↔r<P.globals.size
 zero:∀t i z,P.info? t=some i->i.zero=some z->val f z=z
abbrev V(f:Rn):Value->Value->Prop:=fun a b=>b=val f a
abbrev VS(f:Rn):Array Value->Array Value->Prop:=fun a b=>b=a.map (val f)
abbrev AR(f:Rn):Addr->Addr->Prop:=fun a b=>b=addr f a
section
variable {P:Program} {f:Rn} {α β γ δ:Type} {A:α->β->Prop} {B:γ->δ->Prop}
theorem xr(a:Addr)(m:Mode:=.plain):Rel P f (V f) (load a m) (load (addr f a) m):=⟨rfl,rfl,fun _=>rfl⟩
theorem OF(a:Addr)(v:Value)(m:Mode:=.plain):Rel P f (fun _ _=>True) (store a v m) (store (addr f a) (val f v) m):=⟨rfl,rfl,rfl,trivial⟩
theorem lZ{o o':Obj}(ho:o'=obj f o)(hp:fi o=false):Rel P f (fun r r'=>r'=f.b r) (newObj o) (newObj o'):=⟨ho,hp,fun _=>rfl⟩
theorem il(r:Nat):Rel P f Eq (shape r) (shape (f.b r)):=⟨rfl,fun _=>rfl⟩
theorem p8(a:Addr):Rel P f Eq (frozen a) (frozen (addr f a)):=⟨rfl,fun _=>rfl⟩
theorem BB(a:Addr)(n:Nat):Rel P f (fun _ _=>True) (freeze a n) (freeze (addr f a) n):=⟨rfl,rfl,trivial⟩
theorem jr(r:Nat):Rel P f (fun o o'=>o'=obj f o) (getObj r) (getObj (f.b r)):=⟨rfl,fun _=>rfl⟩
theorem p9(r:Nat){o o':Obj}(ho:o'=obj f o)(hp:fi o=false):Rel P f (fun _ _=>True) (setObj r o) (setObj (f.b r) o'):=⟨rfl,ho,hp,trivial⟩
theorem iJ(q:Question):Rel P f Eq (choose q) (choose q):=⟨rfl,fun _=>rfl⟩
theorem Vi:Rel P f Eq (sys .env) (sys .env):=⟨rfl,rfl,fun _=>rfl⟩
theorem dR:Rel P f (fun a b=>P=a/\P=b) program program:=by simp[program,Rel]
theorem Ri{m:Mark}(h:K0 m=true):Rel P f (fun _ _=>True) (mark m) (mark (KZ f m)):=⟨rfl,h,trivial⟩
theorem BC:Rel P f (fun _ _=>True) (mark .noRoom) (mark .noRoom):=⟨rfl,rfl,trivial⟩
theorem xu{s s':Sem Unit}(h:Rel P f (fun _ _=>True) s s'){k k':Sem γ}{B:γ->γ->Prop}(hk:Rel P f B k k'):Rel P f B (s>>=fun _=>k) (s'>>=fun _=>k'):=ai h (fun _ _ _=>hk)
theorem tL(n:Nat):Rel P f (fun _ _=>True) (askRoom n) (askRoom n):=by
 unfold askRoom;split
 ·exact BC
 ·exact aC trivial
theorem fB(t:TypeId):Rel P f (fun a b=>a=b/\P.info? t=some a) (typeInfo t) (typeInfo t):=by
 refine ai dR ?_;rintro a b ⟨rfl,rfl⟩;split<;>rename_i h
 ·exact aC ⟨rfl,h⟩
 ·exact aE
theorem bj(t:TypeId):Rel P f (fun a b=>a=b/\P.underlying t=some a) (underlying t) (underlying t):=by
 refine ai dR ?_;rintro a b ⟨rfl,rfl⟩;split<;>rename_i h
 ·exact aC ⟨rfl,h⟩
 ·exact aE
theorem dN(t:TypeId):Rel P f Eq (sizeOf t) (sizeOf t):=by
 refine ai (fB t) ?_;rintro a b ⟨rfl,_⟩;exact aC rfl
theorem EN(t:TypeId):Rel P f Eq (isAgg t) (isAgg t):=by
 refine ai (bj t) ?_;rintro a b ⟨rfl,_⟩;split<;>exact aC rfl
theorem Aa(t:TypeId):Rel P f Eq (typeStr t) (typeStr t):=by
 refine ai (fB t) ?_;rintro a b ⟨rfl,_⟩;dsimp only;split
 ·exact aY
 ·exact aC rfl
theorem wB(t:TypeId):Rel P f Eq (elemOf t) (elemOf t):=by
 refine ai (bj t) ?_;rintro a b ⟨rfl,_⟩;split
 ·exact aC rfl
 ·exact aE
theorem iG(hf:nE P f)(t:TypeId):Rel P f (fun a b=>a=b/\val f a=a) (zeroValue t) (zeroValue t):=by
 refine ai (fB t) ?_;rintro a b ⟨rfl,h⟩;split<;>rename_i hz
 ·exact aC ⟨rfl,hf.zero _ _ _ h hz⟩
 ·exact aY
theorem xx(a:Addr):∀(n i:Nat) (acc:Array Value),Rel P f (VS f) (loadCellsFrom a i n acc) (loadCellsFrom (addr f a) i n (acc.map (val f))):=by
 intro n
 induction n with
 |zero=>intro i acc;exact aC rfl
 |succ n ih =>
  intro i acc;unfold loadCellsFrom;refine ai (A:=V f) (by rw[<- kE];exact xr _) ?_;rintro v _ rfl;have:=ih (i+1) (acc.push v);rwa[Array.map_push] at this
theorem nV(a:Addr)(n:Nat):Rel P f (VS f) (loadCells a n) (loadCells (addr f a) n):=by
 have:=xx (P:=P) (f:=f) a n 0 #[];unfold loadCells;simpa using this
theorem kV(a:Addr):∀(vs:List Value) (i:Nat),Rel P f (fun _ _=>True) (storeCells a vs i) (storeCells (addr f a) (vs.map (val f)) i):=by
 intro vs
 induction vs with
 |nil=>intro i;exact aC trivial
 |cons v vs ih =>
  intro i;simp only[aA];unfold storeCells;exact xu (by rw[<- kE];exact OF _ _) (ih _)
theorem Ac(t:TypeId)(a:Addr):Rel P f (V f) (loadVar t a) (loadVar t (addr f a)):=by
 refine ai (EN t) ?_;rintro b _ rfl;cases b
 ·exact xr a
 ·refine ai (dN t) ?_;rintro n _ rfl;refine ai (nV a n) ?_;rintro cs _ rfl;exact aC (by simp[V])
theorem FX(t:TypeId)(a:Addr)(v:Value):Rel P f (fun _ _=>True) (storeVar t a v) (storeVar t (addr f a) (val f v)):=by
 refine ai (dN t) ?_;rintro n _ rfl;rw[kG];simp only[Array.size_map];split
 ·exact xu aE (by rw[cw];exact kV a _ 0)
 ·rw[cw];exact kV a _ 0
theorem kr(e:TypeId){c c':Array Value}(h:c'=c.map (val f)):Rel P f (AR f) (newRow e c) (newRow e c'):=by
 subst h;refine ai (lZ (o:=.cells c e) (o':=.cells (c.map (val f)) e) rfl rfl) ?_;rintro r _ rfl;exact aC rfl
theorem wC(t:TypeId)(v:Value):Rel P f (AR f) (newVar t v) (newVar t (val f v)):=kr t (by rw[kG])
theorem HJ(t:TypeId)(v:Value)(h:val f v=v):Rel P f (AR f) (newVar t v) (newVar t v):=by
 have:=wC (P:=P) (f:=f) t v;rwa[h] at this
theorem kF(t:TypeId)(cs:Array Value)(off:Nat):Rel P f (V f) (part t cs off) (part t (cs.map (val f)) off):=by
 refine ai (EN t) ?_;rintro b _ rfl;cases b
 ·simp only[aK,aL,if_false];cases cs[off]? with
  |none=>exact aE
  |some v=>exact aC rfl
 ·refine ai (dN t) ?_;rintro n _ rfl;exact aC (by simp[V,Array.map_extract])
def sC:RuntimeError->Bool
 | .typeAssertion ..=>false
 |_=>true
theorem bZ(hf:nE P f)(e:RuntimeError)(he:sC e=true:=by rfl):Rel P f A (runtimePanic e) (runtimePanic e):=by
 refine ai dR ?_;rintro a b ⟨rfl,rfl⟩;cases e<;>dsimp only
 case typeAssertion i c a m =>
  exact Bool.noConfusion he
 case panicNil =>
  refine ai (wB _) ?_;rintro t _ rfl;refine ai (A:=AR f) (by have:=wC (P:=P) (f:=f) t (.agg #[]);simpa using this) ?_;rintro r _ rfl;have:=tI (P:=P) (f:=f) (A:=A) (v:=.iface P.rt.panicNilError (.pointer (some r)));simpa using this
 all_goals (simp[goPanic,Rel,strVal])
theorem iv(hf:nE P f)(k:IntKind)(x y:Int)(c:BoundsCode):Rel P f A (boundsPanic k x y c) (boundsPanic k x y c):=by
 unfold boundsPanic;dsimp only;split
 ·refine ai (A:=Eq) (ai (iJ _) (by rintro a _ rfl;exact aC rfl)) ?_;rintro a _ rfl;exact bZ hf _
 ·exact ai (A:=Eq) (aC rfl) (by rintro a _ rfl;exact bZ hf _)
theorem qP(v:Value):Rel P f Eq (asIntOf v) (asIntOf (val f v)):=by
 cases v<;>simp only[cI,cP,b6,bF,bL,bh,bE,cT,cD,cE,bI,bX,bu,cQ,bY,asIntOf]
 case int=>exact aC rfl
 case pointer a=>cases a<;>first|exact aY|exact aE
 all_goals exact aE
theorem nF(v:Value):Rel P f Eq (asInt v) (asInt (val f v)):=ai (qP v) (by rintro a _ rfl;exact aC rfl)
theorem BD(v:Value):Rel P f Eq (asBool v) (asBool (val f v)):=by
 cases v<;>simp only[cI,cP,b6,bF,bL,bh,bE,cT,cD,cE,bI,bX,bu,cQ,bY,asBool]
 case bool=>exact aC rfl
 all_goals exact aE
theorem OG(v:Value):Rel P f (VS f) (asAgg v) (asAgg (val f v)):=by
 cases v<;>simp only[cI,cP,b6,bF,bL,bh,bE,cT,cD,cE,bI,bX,bu,cQ,bY,asAgg]
 case agg=>exact aC rfl
 all_goals exact aE
theorem BE(hf:nE P f)(v:Value):Rel P f (AR f) (asAddr v) (asAddr (val f v)):=by
 cases v<;>simp only[cI,cP,b6,bF,bL,bh,bE,cT,cD,cE,bI,bX,bu,cQ,bY,asAddr]
 case pointer a =>
  cases a
  ·exact bZ hf _
  ·exact aC rfl
 all_goals exact aE
theorem mI(v:Value):Rel P f (AR f) (Instr.sureAddr v) (Instr.sureAddr (val f v)):=by
 cases v<;>simp only[cI,cP,b6,bF,bL,bh,bE,cT,cD,cE,bI,bX,bu,cQ,bY,Instr.sureAddr]
 case pointer a =>
  cases a
  ·exact aE
  ·exact aC rfl
 all_goals exact aE
theorem Nc{s:Sem α}{s':Sem β}{g:α->γ}{g':β->δ}(h:Rel P f A s s')(hg:∀a b,A a b->B (g a) (g' b)):Rel P f B (Functor.map g s) (Functor.map g' s'):=by
 rw[map_eq_pure_bind,map_eq_pure_bind];exact ai h (fun a b h=>aC (hg a b h))
theorem DX{g g':α->Sem β}:∀(l:List α),(∀x∈l,Rel P f Eq (g x) (g' x))->Rel P f Eq (l.mapM g) (l.mapM g'):=by
 intro l
 induction l with
 |nil=>intro _;simp only[List.mapM_nil];exact aC rfl
 |cons x l ih =>
  intro h;simp only[List.mapM_cons];refine ai (h x aj) ?_;rintro a _ rfl;refine ai (ih fun y hy=>h y (by simp[hy])) ?_;rintro b _ rfl;exact aC rfl
theorem Rj{g g':α->Sem β}(xs:Array α)(h:∀x∈xs,Rel P f Eq (g x) (g' x)):Rel P f Eq (xs.mapM g) (xs.mapM g'):=by
 rw[ft,ft];exact Nc (DX _ (fun x hx=>h x (by simpa using hx))) (by rintro a _ rfl;rfl)
theorem tM{g g':α->β->Sem (ForInStep β)}:∀(l:List α) (init:β),(∀x∈l,∀a,Rel P f Eq (g x a) (g' x a))->Rel P f Eq (forIn l init g) (forIn l init g'):=by
 intro l
 induction l with
 |nil=>intro _ _;simp only[List.forIn_nil];exact aC rfl
 |cons x l ih =>
  intro init h;simp only[List.forIn_cons];refine ai (h x aj init) ?_;rintro a _ rfl;cases a
  ·exact aC rfl
  ·exact ih _ fun y hy=>h y (by simp[hy])
theorem yY{g g':α->β->Sem (ForInStep β)}(xs:Array α)(init:β)(h:∀x∈xs,∀a,Rel P f Eq (g x a) (g' x a)):Rel P f Eq (forIn xs init g) (forIn xs init g'):=by
 rw[<- fO,<- fO];exact tM _ _ (fun x hx=>h x (by simpa using hx))
theorem oZ{g g':Nat->β->Sem (ForInStep β)}(r:Std.Legacy.Range)(init:β)(h:∀x a,Rel P f Eq (g x a) (g' x a)):Rel P f Eq (forIn r init g) (forIn r init g'):=by
 rw[fU,fU];exact tM _ _ (fun x _ a=>h x a)
theorem OH(hf:nE P f)(e:TypeId):Rel P f (V f) (Instr.alloc e true (.tuple #[])) (Instr.alloc e true (.tuple #[])):=by
 refine ai (iG hf e) ?_;rintro z _ ⟨rfl,hz⟩;refine ai (HJ e z hz) ?_;rintro a _ rfl;exact aC (by simp[V])
theorem Vj(e:TypeId)(v:Value):Rel P f (V f) (Instr.box e v) (Instr.box e (val f v)):=by
 refine ai (wC e v) ?_;rintro a _ rfl;exact aC (by simp[V])
theorem xy(place:Nat->Option (Nat×Nat)):∀(l:List (Nat×Value)) (cells:Array Value),
  Instr.fill place (cells.map (val f)) (l.map fun x=>(x.1,val f x.2))=(Instr.fill place cells l).map fun c=>c.map (val f):=by
 intro l
 induction l with
 |nil=>intro cells;rfl
 |cons x l ih =>
  intro cells;obtain⟨i,v⟩:=x;simp only[aA,Instr.fill];cases hp:place i with
  |none=>rfl
  |some y =>
   obtain⟨off,size⟩:=y;simp only[kG,Array.size_map];split
   ·rfl
   ·rw[<- ih]
    congr 1
    have:∀(l:List (Value×Nat)) (cs:Array Value),(l.map fun y=>(val f y.1,y.2)).foldl (fun cs (x:Value×Nat)=>cs.setIfInBounds (off+x.2) x.1) (cs.map (val f))=(l.foldl (fun cs (x:Value×Nat)=>cs.setIfInBounds (off+x.2) x.1) cs).map (val f):=by
     intro l
     induction l with
     |nil=>intro cs;rfl
     |cons y l ih2=>intro cs;simp only[aA,List.foldl_cons,<- ih2,Array.map_setIfInBounds]
    have e2:=this v.cells.zipIdx.toList cells;rw[<- js,<- js,<- e2]
    congr 1
    apply fV;intro j;simp[List.getElem?_map,Array.getElem?_toList,Array.getElem?_zipIdx];cases v.cells[j]?<;>simp
theorem OI(hf:nE P f)(t:TypeId)(ps:Array (Nat×Value)):Rel P f (V f) (Instr.build t ps) (Instr.build t (ps.map fun x=>(x.1,val f x.2))):=by
 refine ai (iG hf t) ?_;rintro z _ ⟨rfl,hz⟩;refine ai (bj t) ?_;rintro d _ ⟨rfl,_⟩;have hzc:z.cells=z.cells.map (val f):=by rw[<- kG,hz]
 split
 ·rename_i fields;refine ai (A:=Eq) (Rj _ fun x _=>?_) ?_
  ·exact ai (dN _) (by rintro n _ rfl;exact aC rfl)
  ·rintro places _ rfl;have e:=xy (f:=f) (places[·]?) ps.toList z.cells;rw[<- hzc] at e;simp only[Array.toList_map] at e |-;rw[e];cases Instr.fill (places[·]?) z.cells ps.toList with
   |none=>exact aE
   |some c=>exact aC (by simp[V])
 ·refine ai (dN _) ?_;rintro n _ rfl;have e:=xy (f:=f) (fun i=>some (i*n,n)) ps.toList z.cells;rw[<- hzc] at e;simp only[Array.toList_map] at e |-;rw[e];cases Instr.fill (fun i=>some (i*n,n)) z.cells ps.toList with
  |none=>exact aE
  |some c=>exact aC (by simp[V])
 ·exact aE
theorem rR{z:Array Value}(hz:z.map (val f)=z)(n:Nat):((Array.range n).map (z[· % z.size]!)).map (val f)=(Array.range n).map (z[· % z.size]!):=by
 rw[iy];apply ek;intro i _;simp only[Function.comp];by_cases hs:0<z.size
 ·have cy:i%z.size<z.size:=Nat.mod_lt _ hs;rw[eN z _ cy];have:=congrArg (fun a:Array Value=>a[i%z.size]?) hz;simp only[aK,Array.getElem?_eq_getElem cy,aJ,ay] at this;exact this
 ·have h0:z=#[]:=Array.eq_empty_of_size_eq_zero aa;subst h0;show val f default=default;simp[default,instInhabitedValue]
  first|rfl|simp[instInhabitedValue.default]
theorem fj{c:Prop}[Decidable c]{s:Sem PUnit}{k:Sem γ}{k':Sem δ}(hs:Rel P f (fun _ _=>True) s s)(hk:Rel P f B k k'):Rel P f B (if c then(s>>=fun _=>k) else k) (if c then(s>>=fun _=>k') else k'):=by
 split
 ·exact ai hs (fun _ _ _=>hk)
 ·exact hk
theorem BF(hf:nE P f)(t:TypeId)(len:Nat)(ps:Array (Nat×Value)):Rel P f (V f) (Instr.buildSlice t len ps) (Instr.buildSlice t len (ps.map fun x=>(x.1,val f x.2))):=by
 refine ai (bj t) ?_;rintro d _ ⟨rfl,_⟩;split
 ·refine ai (dN _) ?_;rintro size _ rfl;dsimp only;refine fj aY ?_;split
  ·refine ai (A:=fun(a b:Array Value)=>a=b/\a.map (val f)=a) (aC ⟨rfl,aj⟩) ?_;rintro z _ ⟨rfl,hz⟩;have e:=xy (f:=f) (fun i=>some (i*size,size)) ps.toList ((Array.range (len*size)).map (z[· % z.size]!));rw[rR hz] at e;rw[cw,e];cases Instr.fill (fun i=>some (i*size,size)) ((Array.range (len*size)).map (z[· % z.size]!)) ps.toList with
   |none=>exact aE
   |some c=>exact ai (kr _ rfl) (by rintro a _ rfl;exact aC (by simp[V]))
  ·refine ai (iG hf _) ?_;rintro z0 _ ⟨rfl,YU⟩;refine ai (A:=fun(a b:Array Value)=>a=b/\a.map (val f)=a) (aC ⟨rfl,by rw[<- kG,YU]⟩) ?_;rintro z _ ⟨rfl,hz⟩;have e:=xy (f:=f) (fun i=>some (i*size,size)) ps.toList ((Array.range (len*size)).map (z[· % z.size]!));rw[rR hz] at e;rw[cw,e];cases Instr.fill (fun i=>some (i*size,size)) ((Array.range (len*size)).map (z[· % z.size]!)) ps.toList with
   |none=>exact aE
   |some c=>exact ai (kr _ rfl) (by rintro a _ rfl;exact aC (by simp[V]))
 ·exact aE
theorem sD(r:Nat):Rel P f (fun a b=>b=a.map fun x=>(addr f x.1,x.2)) (viewAt r) (viewAt (f.b r)):=by
 refine ai (il r) ?_;rintro x _ rfl;split
 ·exact aC rfl
 ·refine ai (jr r) ?_;rintro o _ rfl;cases o<;>exact aC rfl
theorem xz(r:Nat):Rel P f (fun a b=>b=a.map fun x=>(addr f x.1,x.2)) (numberAt r) (numberAt (f.b r)):=by
 refine ai (il r) ?_;rintro x _ rfl;split
 ·exact aC rfl
 ·refine ai (jr r) ?_;rintro o _ rfl;cases o<;>exact aC rfl
theorem wD(a:Addr):Rel P f (fun _ _=>True) (noView a) (noView (addr f a)):=by
 refine ai (sD a.block) ?_;rintro x _ rfl;simp only[Option.isSome_map];split
 ·exact aY
 ·exact aC trivial
theorem K3(t:TypeId)(v:Value):Rel P f (V f) (Instr.loadAt t v) (Instr.loadAt t (val f v)) :=
 ai (mI v) (by rintro a _ rfl;exact Ac t a)
theorem HK(t:TypeId)(v x:Value):Rel P f (fun _ _=>True) (Instr.storeAt t v x) (Instr.storeAt t (val f v) (val f x)) :=
 ai (mI v) (by rintro a _ rfl;exact FX t a x)
theorem l8(a:Addr):Rel P f Eq (byteOf a) (byteOf (addr f a)):=by
 unfold byteOf;simp only[OB,Bt,wv];split
 ·exact aC rfl
 ·refine ai dR ?_;rintro _ _ ⟨rfl,rfl⟩;refine ai (wD a) ?_;rintro _ _ _;refine ai (il _) ?_;rintro x _ rfl;split
  ·split
   ·exact aC rfl
   ·split
    ·exact aC rfl
    ·exact aE
  ·exact aE
theorem BG(a:Addr)(g:Field):Rel P f (AR f) (fieldPlace a g) (fieldPlace (addr f a) g):=by
 refine ai (dN _) ?_;rintro n _ rfl;split
 ·unfold partAt;refine ai (l8 a) ?_;rintro b _ rfl;refine ai (A:=Eq) (l8 _) ?_;rintro c _ rfl;refine aC ?_;simp only[AR];split<;>rfl
 ·exact aC (by simp only[AR];rw[kE])
theorem HL(s:TypeId)(v:Value)(i:Nat):Rel P f (V f) (Instr.fieldAt s v i) (Instr.fieldAt s (val f v) i):=by
 refine ai (bj s) ?_;rintro d _ ⟨rfl,_⟩;split
 ·split
  ·refine ai (mI v) ?_;rintro a _ rfl;refine ai (BG a _) ?_;rintro b _ rfl;exact aC (by simp[V])
  ·exact aE
 ·exact aE
theorem HM(hf:nE P f)(t:TypeId)(x i:Value):Rel P f (V f) (Instr.indexAt t x i) (Instr.indexAt t (val f x) (val f i)):=by
 refine ai (qP i) ?_;rintro⟨k,n⟩ _ rfl;dsimp only;refine ai (bj t) ?_;rintro d _ ⟨rfl,_⟩;cases d with
 |array len elem =>
  simp only[];refine ai (mI x) ?_;rintro a _ rfl;refine ai (A:=fun(a b:Option Addr×Nat×TypeId)=>b=(a.1.map (addr f),a.2)) (aC rfl) ?_;rintro⟨base,len,elem⟩ _ rfl;refine ai (bj t) ?_;rintro d2 _ ⟨rfl,_⟩;cases base with
  |none=>exact iv hf _ _ _ _
  |some a =>
   simp only[aJ];split
   ·refine ai (dN elem) ?_;rintro m _ rfl;exact aC (by simp[V,kE])
   ·repeat' (first|exact aY|exact iv hf _ _ _ _|split)
 |slice elem =>
  cases x with
  |slice base len cap =>
   simp only[bE];refine ai (A:=fun(a b:Option Addr×Nat×TypeId)=>b=(a.1.map (addr f),a.2)) (aC rfl) ?_;rintro⟨base,len,elem⟩ _ rfl;refine ai (bj t) ?_;rintro d2 _ ⟨rfl,_⟩;cases base with
   |none=>exact iv hf _ _ _ _
   |some a =>
    simp only[aJ];split
    ·refine ai (dN elem) ?_;rintro m _ rfl;exact aC (by simp[V,kE])
    ·repeat' (first|exact aY|exact iv hf _ _ _ _|split)
  |_=>exact aE
 |_=>exact aE
theorem BH(hf:nE P f)(x:Value)(y:Nat)(c:BoundsCode):Rel P f Eq (Instr.sliceBound x y c) (Instr.sliceBound (val f x) y c):=by
 refine ai (qP x) ?_;rintro⟨k,i⟩ _ rfl;dsimp only;split
 ·exact aC rfl
 ·exact iv hf _ _ _ _
theorem lU(hf:nE P f)(b:Bool)(len cap:Nat)(lo hi mx:Option Value):
  Rel P f Eq (Instr.sliceBounds b len cap lo hi mx) (Instr.sliceBounds b len cap (lo.map (val f)) (hi.map (val f)) (mx.map (val f))):=by
 unfold Instr.sliceBounds;cases mx<;>cases hi<;>cases lo<;>simp only[aJ,Option.map_none,Option.isSome_some,Option.isSome_none,pure_bind];all_goals
  repeat (first|exact aE|exact aC rfl|(refine ai (A:=Eq) (BH hf _ _ _) ?_;rintro _ _ rfl)|(refine ai (A:=Eq) aE ?_;rintro _ _ rfl))
theorem OJ(hf:nE P f)(t:TypeId)(x:Value)(lo hi mx:Option Value):
  Rel P f (V f) (Instr.slice t x lo hi mx) (Instr.slice t (val f x) (lo.map (val f)) (hi.map (val f)) (mx.map (val f))):=by
 refine ai (bj t) ?_;rintro d _ ⟨rfl,_⟩;cases d with
 |string =>
  cases x with
  |string s =>
   simp only[bL,Option.isSome_map];refine fj aE ?_;refine ai (A:=Eq) (lU hf false s.size s.size lo hi none) ?_;rintro⟨l,h,m⟩ _ rfl;exact aC (by simp[V])
  |_=>exact aE
 |slice elem =>
  cases x with
  |slice a len cap =>
   simp only[bE];refine ai (A:=Eq) (lU hf true len cap lo hi mx) ?_;rintro⟨l,h,m⟩ _ rfl;refine ai (dN _) ?_;rintro n _ rfl;refine aC ?_;simp only[V,bE];split
   ·rfl
   ·cases a<;>simp[kE]
  |_=>exact aE
 |pointer arr =>
  simp only[];refine ai (BE hf x) ?_;rintro a _ rfl;refine ai (bj arr) ?_;rintro d _ ⟨rfl,_⟩;split
  ·refine ai (A:=Eq) (lU hf false _ _ lo hi mx) ?_;rintro⟨l,h,m⟩ _ rfl;refine ai (dN _) ?_;rintro n _ rfl;refine aC ?_;simp only[V,bE,aJ];split
   ·rfl
   ·rw[kE]
  ·exact aE
 |_=>exact aE
theorem HN(hf:nE P f)(t:TypeId)(x:Value)(lo hi mx:Option Value):
  Rel P f (V f) (Instr.sliceAt t x lo hi mx) (Instr.sliceAt t (val f x) (lo.map (val f)) (hi.map (val f)) (mx.map (val f))):=by
 refine ai (bj t) ?_;rintro d _ ⟨rfl,_⟩;split
 ·refine ai (mI x) ?_;rintro a _ rfl;refine ai (A:=Eq) (lU hf false _ _ lo hi mx) ?_;rintro⟨l,h,m⟩ _ rfl;refine ai (dN _) ?_;rintro n _ rfl;refine aC ?_;simp only[V,bE,aJ];split
  ·rfl
  ·rw[kE]
 ·exact OJ hf t x lo hi mx
theorem xA(t:TypeId)(x:Value):Rel P f (V f) (Instr.makeInterface t x) (Instr.makeInterface t (val f x)):=by
 refine ai (bj t) ?_;rintro d _ ⟨rfl,_⟩;split
 ·exact aE
 ·exact aC (by simp[V])
theorem HO(t:TypeId)(r:Option Value):Rel P f (V f) (Instr.makeMap t r) (Instr.makeMap t (r.map (val f))):=by
 have tail:Rel P f (V f) (do pure (.map (some (<- newObj (.map #[] 0))))) (do pure (.map (some (<- newObj (.map #[] 0))))) :=
  ai (lZ (o:=.map #[] 0) (by simp[obj]) rfl) (by rintro a _ rfl;exact aC (by simp[V]))
 unfold Instr.makeMap;cases r with
 |none=>exact tail
 |some h =>
  simp only[aJ];refine ai (bj t) ?_;rintro d _ ⟨rfl,_⟩;split
  ·refine ai (nF h) ?_;rintro n _ rfl;exact tail
  ·exact aE
theorem FY(hf:nE P f)(t:TypeId)(x:Value):Rel P f (V f) (Instr.makeChan t x) (Instr.makeChan t (val f x)):=by
 refine ai (nF x) ?_;rintro n _ rfl;refine ai (bj t) ?_;rintro d _ ⟨rfl,_⟩;split
 ·refine ai (fB _) ?_;rintro i _ ⟨rfl,_⟩;dsimp only;refine fj (bZ hf _) ?_;exact ai (lZ (o:=.chan n.toNat #[] false 0 0 false) (by simp[obj]) rfl) (by rintro a _ rfl;exact aC (by simp[V]))
 ·exact aE
theorem DY(hf:nE P f)(t:TypeId)(l c:Value):Rel P f (V f) (Instr.makeSlice t l c) (Instr.makeSlice t (val f l) (val f c)):=by
 refine ai (bj t) ?_;rintro d _ ⟨rfl,_⟩;split
 ·refine ai (nF l) ?_;rintro n _ rfl;refine ai (nF c) ?_;rintro m _ rfl;refine ai (fB _) ?_;rintro i _ ⟨rfl,_⟩;dsimp only;have pan:∀(e:RuntimeError) (k k':PUnit->Sem Value),sC e=true->Rel P f (V f) (runtimePanic e>>=k) (runtimePanic e>>=k'):=fun e k k' he=>ai (A:=fun _ _=>False) (bZ hf e he) (fun _ _ h=>h.elim);split
  ·split
   ·exact pan _ _ _ rfl
   ·split
    ·exact pan _ _ _ rfl
    ·refine ai (iJ _) ?_;rintro x _ rfl;exact pan _ _ _ rfl
  ·refine ai (tL _) ?_;rintro _ _ _;refine ai (dN _) ?_;rintro sz _ rfl;split
   ·refine ai (A:=fun(a b:Array Value)=>a=b/\a.map (val f)=a) (aC ⟨rfl,aj⟩) ?_;rintro z _ ⟨rfl,hz⟩;refine ai (A:=AR f) (kr _ (rR hz _).symm) ?_;rintro a _ rfl;exact aC (by simp[V])
   ·refine ai (iG hf _) ?_;rintro z0 _ ⟨rfl,YU⟩;refine ai (A:=fun(a b:Array Value)=>a=b/\a.map (val f)=a) (aC ⟨rfl,by rw[<- kG,YU]⟩) ?_;rintro z _ ⟨rfl,hz⟩;refine ai (A:=AR f) (kr _ (rR hz _).symm) ?_;rintro a _ rfl;exact aC (by simp[V])
 ·exact aE
theorem OL(t:TypeId)(x:Value)(i:Nat):Rel P f (V f) (Instr.field t x i) (Instr.field t (val f x) i):=by
 refine ai (bj t) ?_;rintro d _ ⟨rfl,_⟩;split
 ·split
  ·refine ai (OG x) ?_;rintro cs _ rfl;exact kF _ _ _
  ·exact aE
 ·exact aE
theorem OM(hf:nE P f)(t:TypeId)(x i:Value):Rel P f (V f) (Instr.index t x i) (Instr.index t (val f x) (val f i)):=by
 refine ai (qP i) ?_;rintro⟨k,n⟩ _ rfl;dsimp only;refine ai (bj t) ?_;rintro d _ ⟨rfl,_⟩;cases d with
 |array len elem =>
  cases x with
  |agg cs =>
   simp only[cQ];split
   ·refine ai (dN _) ?_;rintro m _ rfl;exact kF _ _ _
   ·exact iv hf _ _ _ _
  |_=>exact aE
 |string =>
  cases x with
  |string s =>
   simp only[bL];split
   ·exact aC (by simp[V])
   ·exact iv hf _ _ _ _
  |_=>exact aE
 |_=>exact aE
theorem HQ(x:Value)(i:Nat):Rel P f (V f) (Instr.extract x i) (Instr.extract (val f x) i):=by
 cases x with
 |tuple vs =>
  simp only[bY,Instr.extract,aK];cases vs[i]? with
  |none=>exact aE
  |some v=>exact aC rfl
 |_=>exact aE
theorem FZ:Rel P f Eq Instr.panicnil Instr.panicnil:=by
 refine ai Vi ?_;rintro r _ rfl;split
 ·dsimp only;refine ai dR ?_;rintro _ _ ⟨rfl,rfl⟩;exact aC rfl
 ·exact aE
theorem ON(hf:nE P f)(x:Value):Rel P f (V f) (Instr.panic x) (Instr.panic (val f x)):=by
 cases x with
 |iface t v=>simp only[bX,Instr.panic];have:=tI (P:=P) (f:=f) (A:=V f) (v:=.iface t v);simpa using this
 |nilIface =>
  simp only[bu,Instr.panic];refine ai FZ ?_;rintro n _ rfl;split
  ·have:=tI (P:=P) (f:=f) (A:=V f) (v:=.nilIface);simpa using this
  ·exact bZ hf _
 |_=>exact aE
theorem eW(a:Addr):Rel P f (fun x y=>y=(addr f x.1,x.2)) (behindNumber a) (behindNumber (addr f a)):=by
 refine ai (xz a.block) ?_;rintro x _ rfl;cases x<;>exact aC rfl
theorem vM(a:Addr):Rel P f Eq (stringish a) (stringish (addr f a)):=by
 refine ai (p8 a) ?_;rintro b _ rfl;cases b
 ·refine ai (A:=Eq) (il a.block) ?_;rintro x _ rfl;rcases x with _|⟨e,n⟩
  ·exact aC rfl
  ·exact p8 ⟨a.block,n,none⟩
 ·exact aC rfl
theorem F6(a b:Addr):Rel P f Eq (mayBeOne a b) (mayBeOne (addr f a) (addr f b)):=by
 unfold mayBeOne;refine ai (vM a) ?_;rintro x _ rfl;refine ai (vM b) ?_;rintro y _ rfl;dsimp only;refine ai (A:=Eq) (ai (il a.block) (by rintro u _ rfl;exact aC rfl)) ?_;rintro u _ rfl;refine ai (A:=Eq) (ai (il b.block) (by rintro u _ rfl;exact aC rfl)) ?_;rintro w _ rfl;exact aC rfl
theorem Rk(hf:nE P f)(a b:Addr):(addr f a=addr f b)=(a=b):=by
 obtain⟨x,o,s⟩:=a;obtain⟨y,p,t⟩:=b;simp only[addr,Addr.mk.injEq,eq_iff_iff];exact⟨fun⟨h,k⟩=>⟨hf.inj _ _ h,k⟩,fun⟨h,k⟩=>⟨by rw[h],k⟩⟩
theorem xB(hf:nE P f)(a b:Addr):(addr f a==addr f b)=(a==b):=by
 rw[dK];simp only[beq_iff_eq,Rk hf]
theorem EO(hf:nE P f)(x y:Nat):(f.b x==f.b y)=(x==y):=by
 rw[dK];simp only[beq_iff_eq];exact⟨hf.inj _ _,fun h=>by rw[h]⟩
theorem xC(hf:nE P f)(a b:Addr):Rel P f Eq (sameAddr a b) (sameAddr (addr f a) (addr f b)):=by
 unfold sameAddr;simp only[wv,EO hf,xB hf];split
 ·exact aC rfl
 ·refine ai (p8 a) ?_;rintro x _ rfl;refine ai (p8 b) ?_;rintro y _ rfl;refine fj aY ?_;refine ai (wD a) ?_;rintro _ _ _;refine ai (wD b) ?_;rintro _ _ _;refine ai (F6 a b) ?_;rintro z _ rfl;cases z
  ·exact aC rfl
  ·refine ai (iJ _) ?_;rintro n _ rfl;exact aC rfl
theorem AN(hf:nE P f)(a b:Option Addr):Rel P f Eq (samePointer a b) (samePointer (a.map (addr f)) (b.map (addr f))):=by
 cases a<;>cases b
 case some.some a b=>exact xC hf a b
 all_goals exact aC rfl
theorem Rm(hf:nE P f)(r:Nat):(f.b r<P.globals.size)=(r<P.globals.size):=propext (hf.kp r)
theorem HR(hf:nE P f):∀(d:Nat) (t:TypeId) (x y x' y':Value),x'=val f x->y'=val f y->Rel P f Eq (Op.equalIn d t x y) (Op.equalIn d t x' y'):=by
 intro d
 induction d with
 |zero=>intro t x y x' y' _ _;exact aY
 |succ d ih =>
  intro t x y x' y' hx hy;unfold Op.equalIn;refine ai (bj t) ?_;rintro u _ ⟨rfl,_⟩;cases u
  case bool =>
   cases x<;>first|exact aE|skip
   cases y<;>first|exact aE|skip
   rw[cI] at hx hy;subst hx hy;exact aC rfl
  case string =>
   cases x<;>first|exact aE|skip
   cases y<;>first|exact aE|skip
   rw[bL] at hx hy;subst hx hy;exact aC rfl
  case unsafePointer =>
   cases x<;>first|exact aE|skip
   cases y<;>first|exact aE|skip
   rw[bh] at hx hy;subst hx hy;exact AN hf _ _
  case chan =>
   cases x<;>first|exact aE|skip
   cases y<;>first|exact aE|skip
   rename_i a b;rw[cD] at hx hy;subst hx hy;refine aC ?_;cases a<;>cases b<;>first|rfl|skip
   rename_i a b;have:=EO hf a b;simpa using this.symm
  case map =>
   cases x<;>first|exact aE|skip
   rename_i a;cases a<;>cases y<;>first|exact aE|skip
   all_goals (rename_i b;rw[cT] at hx hy;cases b<;>(subst hx hy;first|exact aE|exact aC rfl))
  case slice =>
   cases x<;>first|exact aE|skip
   rename_i a _ _;cases a<;>cases y<;>first|exact aE|skip
   all_goals (rename_i b _ _;rw[bE] at hx hy;cases b<;>(subst hx hy;first|exact aE|exact aC rfl))
  case func =>
   cases x<;>first|exact aE|skip
   all_goals (cases y<;>first|exact aE|skip)
   all_goals (simp only[cE,bI] at hx hy;subst hx hy;exact aC rfl)
  case float =>
   cases x<;>first|exact aE|skip
   cases y<;>first|exact aE|skip
   rw[b6] at hx hy;subst hx hy;dsimp only;split
   ·exact aC rfl
   ·exact aE
  case complex =>
   cases x<;>first|exact aE|skip
   cases y<;>first|exact aE|skip
   rw[bF] at hx hy;subst hx hy;dsimp only;split
   ·exact aC rfl
   ·exact aE
  case pointer =>
   cases x<;>first|exact aE|skip
   rename_i a;cases a<;>cases y<;>first|exact aE|skip
   all_goals (rename_i b;rw[bh] at hx hy;cases b<;>(subst hx hy;first|exact aC rfl|skip))
   rename_i a b;dsimp only[Option.map_some];refine ai (dN _) ?_;rintro n _ rfl;split
   ·exact xC hf a b
   ·rw[xB hf];split
    ·exact aC rfl
    ·refine ai (iJ _) ?_;rintro n _ rfl;exact aC rfl
  case interface =>
   cases x<;>first|exact aE|skip
   all_goals (cases y<;>first|exact aE|skip)
   all_goals (simp only[bX,bu] at hx hy;subst hx hy;first|exact aC rfl|skip)
   dsimp only;split
   ·exact aC rfl
   ·refine ai (fB _) ?_;rintro i _ ⟨rfl,_⟩;split
    ·refine ai dR ?_;rintro _ _ ⟨rfl,rfl⟩;refine ai dR ?_;rintro _ _ ⟨rfl,rfl⟩;refine fj aY ?_;refine ai (Aa _) ?_;rintro s _ rfl;exact bZ hf _
    ·exact ih _ _ _ _ _ rfl rfl
  case struct =>
   cases x<;>first|exact aE|skip
   cases y<;>first|exact aE|skip
   rw[cQ] at hx hy;subst hx hy;dsimp only;refine ai dR ?_;rintro _ _ ⟨rfl,rfl⟩;refine fj aY ?_;refine ai (A:=Eq) (yY _ _ fun g _ acc=>?_) ?_
   ·split
    ·refine ai (kF _ _ _) ?_;rintro a _ rfl;refine ai (kF _ _ _) ?_;rintro b _ rfl;refine ai (ih _ _ _ _ _ rfl rfl) ?_;rintro c _ rfl;cases c<;>exact aC rfl
    ·exact aC rfl
   ·rintro r _ rfl;try dsimp only
    split<;>exact aC rfl
  case array =>
   cases x<;>first|exact aE|skip
   cases y<;>first|exact aE|skip
   rw[cQ] at hx hy;subst hx hy;dsimp only;refine ai (dN _) ?_;rintro m _ rfl;refine ai (A:=Eq) (oZ _ _ fun g acc=>?_) ?_
   ·refine ai (kF _ _ _) ?_;rintro a _ rfl;refine ai (kF _ _ _) ?_;rintro b _ rfl;refine ai (ih _ _ _ _ _ rfl rfl) ?_;rintro c _ rfl;cases c<;>exact aC rfl
   ·rintro r _ rfl;try dsimp only
    split<;>exact aC rfl
  case int =>
   cases x
   case int k a =>
    cases y
    case int k' b =>
     rw[cP] at hx hy;subst hx hy;dsimp only;split
     ·exact aC rfl
     ·exact aE
    case pointer pb =>
     rw[cP] at hx;rw[bh] at hy;subst hx hy;cases pb
     ·exact aY
     ·rcases a with(_|_)|_
      ·exact aC rfl
      ·exact aY
      ·exact aY
    all_goals exact aE
   case pointer pa =>
    rw[bh] at hx;subst hx;cases pa
    ·cases y<;>exact aY
    ·rename_i pa;cases y
     case int k b =>
      rw[cP] at hy;subst hy;rcases b with(_|_)|_
      ·exact aC rfl
      ·exact aY
      ·exact aY
     case pointer pb =>
      rw[bh] at hy;subst hy;cases pb
      ·exact aY
      ·rename_i pb;dsimp only[Option.map_some];refine ai (eW pa) ?_;rintro⟨a,la⟩ _ rfl;refine ai (eW pb) ?_;rintro⟨b,lb⟩ _ rfl;dsimp only;refine ai dR ?_;rintro _ _ ⟨rfl,rfl⟩;simp only[wv,EO hf,Rm hf,xB hf];split
       ·refine ai (l8 a) ?_;rintro u _ rfl;refine ai (l8 b) ?_;rintro w _ rfl;exact aC rfl
       ·refine ai (fB _) ?_;rintro i _ ⟨rfl,_⟩;split
        ·split
         ·exact aC rfl
         ·exact aY
        ·exact aY
     all_goals exact aY
   all_goals (cases y<;>first|exact aE|exact aY)
  all_goals exact aE
theorem yZ(hf:nE P f)(t:TypeId)(x y:Value):Rel P f Eq (Op.equal t x y) (Op.equal t (val f x) (val f y)):=HR hf _ t x y _ _ rfl rfl
theorem vN:∀(d:Nat) (t:TypeId) (x y:Value),Rel P f Eq (Op.eqGuardIn d t x y) (Op.eqGuardIn d t (val f x) (val f y)):=by
 intro d
 induction d with
 |zero=>intro t x y;exact aY
 |succ d ih =>
  intro t x y;unfold Op.eqGuardIn;refine ai (bj t) ?_;rintro u _ ⟨rfl,_⟩;cases u
  case interface =>
   cases x<;>cases y<;>simp only[cI,cP,b6,bF,bL,bh,bE,cT,cD,cE,bI,bX,bu,cQ,bY]<;>exact aC rfl
  case struct =>
   cases x<;>cases y<;>simp only[cI,cP,b6,bF,bL,bh,bE,cT,cD,cE,bI,bX,bu,cQ,bY]<;>first|exact aC rfl|skip
   refine ai (A:=Eq) (yY _ _ fun g _ acc=>?_) ?_
   ·split
    ·refine ai (kF _ _ _) ?_;rintro a _ rfl;refine ai (kF _ _ _) ?_;rintro b _ rfl;refine ai (ih _ _ _) ?_;rintro c _ rfl;cases c<;>exact aC rfl
    ·exact aC rfl
   ·rintro r _ rfl;try dsimp only
    split<;>exact aC rfl
  case array =>
   cases x<;>cases y<;>simp only[cI,cP,b6,bF,bL,bh,bE,cT,cD,cE,bI,bX,bu,cQ,bY]<;>first|exact aC rfl|skip
   refine ai (dN _) ?_;rintro m _ rfl;refine ai (A:=Eq) (oZ _ _ fun g acc=>?_) ?_
   ·refine ai (kF _ _ _) ?_;rintro a _ rfl;refine ai (kF _ _ _) ?_;rintro b _ rfl;refine ai (ih _ _ _) ?_;rintro c _ rfl;cases c<;>exact aC rfl
   ·rintro r _ rfl;try dsimp only
    split<;>exact aC rfl
  all_goals exact aC rfl
theorem HT(op:BinOp)(t:TypeId)(x y:Operand)(a b:Value):Rel P f (fun _ _=>True) (eqGuard op t x y a b) (eqGuard op t x y (val f a) (val f b)):=by
 unfold eqGuard;generalize hc:(!(op matches .eql|.neq))=c;cases c
 case true=>exact aC trivial
 case false =>
  simp only[aL,if_false];cases a<;>cases b<;>simp only[cI,cP,b6,bF,bL,bh,bE,cT,cD,cE,bI,bX,bu,cQ,bY]<;>first|exact aC trivial|skip
  ·generalize XC:((x matches .const _)||(y matches .const _))=c2;cases c2
   case true=>exact aC trivial
   case false =>
    simp only[aL,if_false];refine ai (A:=Eq) (by have:=vN (P:=P) (f:=f) Op.maxDepth t .nilIface .nilIface;simpa using this) ?_;rintro c _ rfl;cases c
    ·exact aC trivial
    ·exact aY
  ·rename_i xs ys;refine ai dR ?_;rintro _ _ ⟨rfl,rfl⟩;refine ai dR ?_;rintro _ _ ⟨rfl,rfl⟩;split
   ·exact aC trivial
   ·refine ai (A:=Eq) (by have:=vN (P:=P) (f:=f) Op.maxDepth t (.agg xs) (.agg ys);simpa using this) ?_;rintro c _ rfl;cases c
    ·exact aC trivial
    ·exact aY
theorem OO(op:UnOp)(x:Value):Rel P f (V f) (Op.unary op x) (Op.unary op (val f x)):=by
 cases x<;>simp only[cI,cP,b6,bF,bL,bh,bE,cT,cD,cE,bI,bX,bu,cQ,bY]<;>cases op<;>simp only[Op.unary,Op.intArith,Op.intBits]<;>first|exact aE|exact aC (by simp[V])|skip
 all_goals (rename_i a;cases a<;>first|exact aY|exact aE)
theorem xD(op:BinOp)(x y:af):Rel P f (V f) (Op.stringOp op x y) (Op.stringOp op x y):=by
 cases op<;>simp only[Op.stringOp]<;>first|exact aE|exact aC (by simp[V])|skip
 split
 ·exact aY
 ·exact aC (by simp[V])
theorem OP(hf:nE P f)(op:BinOp)(t:TypeId)(k k':IntKind)(a b:Int):Rel P f (V f) (binOp op t (.int k a) (.int k' b)) (binOp op t (.int k a) (.int k' b)):=by
 cases op<;>simp only[binOp,Op.shift,Op.intArith,Op.intDiv,Op.intBits,Op.intCmp];all_goals repeat' (first|exact aE|exact bZ hf _|exact aC (by simp[V])|split)
theorem nW(t:TypeId)(p n:Value):Rel P f (V f) (Builtin.unsafeAdd_ #[] t #[p,n]) (Builtin.unsafeAdd_ #[] t #[val f p,val f n]):=by
 cases p<;>first|exact aE|skip
 rename_i a;rw[bh];refine ai (nF n) ?_;rintro m _ rfl;cases a with
 |none =>
  dsimp only[Option.map_none];split
  ·exact aY
  ·refine fj aY aY
 |some a =>
  dsimp only[Option.map_some];split
  ·refine ai (sD a.block) ?_;rintro x _ rfl;rw[Option.isSome_map];cases x.isSome
   ·exact aC (by simp[V])
   ·exact aY
  ·refine fj aY ?_;refine ai (A:=Eq) (il a.block) ?_;rintro x _ rfl;split
   ·refine ai dR ?_;rintro _ _ ⟨rfl,rfl⟩;rw[Bt];split
    ·exact aC (by simp[V,addr])
    ·exact aY
   ·exact aY
theorem xE(a:Addr)(l:Bool):Rel P f (V f) (asNumber a l) (asNumber (addr f a) l) :=
 ai (lZ (o:=.number a l) (by simp[obj]) rfl) (by rintro r _ rfl;exact aC (by simp[V]))
theorem pd(t:TypeId)(x y:Value):Rel P f (V f) (movedNumber t x y) (movedNumber t (val f x) (val f y)):=by
 unfold movedNumber;refine ai (bj t) ?_;rintro d _ ⟨rfl,_⟩;try dsimp only
 refine fj aY ?_;cases x
 case pointer a =>
  cases a with
  |none=>simp only[bh,Option.map_none];have:=nW (P:=P) (f:=f) t (.pointer none) y;simpa using this
  |some a =>
   simp only[bh,aJ];refine ai (eW a) ?_;rintro⟨b,l⟩ _ rfl;refine ai (A:=V f) (by have:=nW (P:=P) (f:=f) t (.pointer (some b)) y;simpa using this) ?_;rintro v _ rfl;cases v<;>simp only[cI,cP,b6,bF,bL,bh,bE,cT,cD,cE,bI,bX,bu,cQ,bY]<;>first|exact aC (by simp[V])|skip
   rename_i c;cases c
   ·exact aC (by simp[V])
   ·exact xE _ _
 all_goals simp only[cI,cP,b6,bF,bL,bh,bE,cT,cD,cE,bI,bX,bu,cQ,bY]
 all_goals exact aE
theorem y6(t:TypeId)(x y:Value):Rel P f (V f) (movedPointer t x y) (movedPointer t (val f x) (val f y)):=by
 unfold movedPointer;cases x
 case pointer a =>
  cases a with
  |none=>simp only[bh,Option.map_none];have:=nW (P:=P) (f:=f) t (.pointer none) y;simpa using this
  |some a =>
   simp only[bh,aJ];refine ai (xz a.block) ?_;rintro x _ rfl;simp only[Option.isSome_map];refine fj aY ?_;have:=nW (P:=P) (f:=f) t (.pointer (some a)) y;simpa using this
 all_goals simp only[cI,cP,b6,bF,bL,bh,bE,cT,cD,cE,bI,bX,bu,cQ,bY]
 all_goals exact aE
theorem vO(hf:nE P f)(a b:Addr):Rel P f Eq (Op.twoPlaces a b) (Op.twoPlaces (addr f a) (addr f b)):=by
 unfold Op.twoPlaces;refine ai dR ?_;rintro _ _ ⟨rfl,rfl⟩;have e:((addr f a).block != (addr f b).block||decide ((addr f a).block>=P.globals.size))=(a.block != b.block||decide (a.block>=P.globals.size)):=by
  have h1:=EO hf a.block b.block;have h2:=Rm hf a.block;have h3:decide (f.b a.block>=P.globals.size)=decide (a.block>=P.globals.size):=by
   rw[decide_eq_decide];simp only[eq_iff_iff] at h2;omega
  show(!(f.b a.block==f.b b.block)||decide (f.b a.block>=P.globals.size))=(!(a.block==b.block)||decide (a.block>=P.globals.size));rw[h1,h3]
 rw[e];try dsimp only
 refine fj aY ?_;refine ai (l8 a) ?_;rintro x _ rfl;refine ai (l8 b) ?_;rintro y _ rfl;exact aC rfl
theorem tN(k:IntKind)(a:Addr)(n:Int):Rel P f (V f) (Op.addrMod k a n) (Op.addrMod k (addr f a) n):=by
 unfold Op.addrMod;refine ai (A:=Eq) (il a.block) ?_;rintro x _ rfl;split
 ·refine ai (fB _) ?_;rintro i _ ⟨rfl,_⟩;try dsimp only
  refine fj aY ?_;refine ai (l8 a) ?_;rintro x _ rfl;exact aC (by simp[V])
 ·exact aY
def Calm(P:Program){α:Type}(Q:α->Prop):Sem α->Prop
 | .pure a=>Q a
 | .choose _ k=>∀n,Calm P Q (k n)
 | .program k=>Calm P Q (k P)
 | .halt h=>oY h=true
 |_=>False
theorem Ro{Q:α->Prop}:∀{s:Sem α},Calm P Q s->Rel P f (fun a b=>a=b/\Q a) s s:=by
 intro s
 induction s with
 |pure a=>intro h;exact⟨rfl,h⟩
 |choose q k ih=>intro h;exact⟨rfl,fun n=>ih n (h n)⟩
 |program k ih=>intro h;exact ih P h
 |halt hh=>intro h;exact tH h
 |_=>intro h;exact h.elim
theorem eL{Q:α->Prop}{R:γ->Prop}:∀{s:Sem α} {k:α->Sem γ},Calm P Q s->(∀a,Q a->Calm P R (k a))->Calm P R (s>>=k):=by
 intro s
 induction s with
 |pure a=>intro k h hk;exact hk a h
 |choose q k ih=>intro k' h hk;exact fun n=>ih n (h n) hk
 |program k ih=>intro k' h hk;exact ih P h hk
 |halt hh=>intro k h hk;exact h
 |_=>intro k h hk;exact h.elim
def Plain(v:Value):Prop:=∀f:Rn,val f v=v
theorem pW{s:Sem Value}(h:Calm P Plain s):Rel P f (V f) s s:=HA (Ro h) (by rintro a _ ⟨rfl,h⟩;exact(h f).symm)
theorem BJ{R:γ->Prop}{a:α}{k:α->Sem γ}(h:Calm P R (k a)):Calm P R (pure a>>=k):=h
theorem s9(op:BinOp)(k:FloatKind)(x y:Nat):Calm P (fun v=>∃k r,v=.float k r) (Op.floatArith op k x y):=by
 have tail:∀r:Option Nat,Calm P (fun v=>∃k r,v=.float k r) (match r with|some r=>(pure (.float k r):Sem Value)|none=>do pure (.float k (<- choose (.nanBits k x y)))):=by
  intro r;cases r
  ·exact fun n=>⟨_,_,rfl⟩
  ·exact⟨_,_,rfl⟩
 cases op<;>first|exact tail _|trivial
theorem vP(op:BinOp)(k:FloatKind)(x y:Nat):Calm P (fun v=>∃b,v=.bool b) (Op.floatCmp op k x y):=by
 cases op<;>simp only[Op.floatCmp]<;>first|trivial|exact⟨_,rfl⟩
theorem kN(k:FloatKind)(x:Nat)(d:FloatKind):Calm P (fun v=>∃k r,v=.float k r) (Conv.floatToFloat k x d):=by
 unfold Conv.floatToFloat;split
 ·exact⟨_,_,rfl⟩
 ·split
  ·exact fun n=>⟨_,_,rfl⟩
  ·exact⟨_,_,rfl⟩
  ·dsimp only;split
   ·exact fun n=>⟨_,_,rfl⟩
   ·exact⟨_,_,rfl⟩
theorem nG(op:BinOp)(k:FloatKind)(x y:Nat):Calm P (fun _=>True) (Op.Complex.arith op k x y) :=
 eL (s9 op k x y) (by rintro _ ⟨k,r,rfl⟩;trivial)
theorem xF(op:BinOp)(k:FloatKind)(x y:Nat):Calm P (fun _=>True) (Op.Complex.cmp op k x y) :=
 eL (vP op k x y) (by rintro _ ⟨b,rfl⟩;trivial)
theorem uT(k:FloatKind)(x:Nat)(d:FloatKind):Calm P (fun _=>True) (Op.Complex.conv k x d):=by
 unfold Op.Complex.conv
 split
 ·trivial
 ·exact eL (kN k x d) (by rintro _ ⟨k,r,rfl⟩;trivial)
theorem F7(a b c d:Nat):Calm P (fun _=>True) (Op.Complex.product a b c d):=by
 unfold Op.Complex.product
 repeat' (first|(refine eL (nG _ _ _ _) ?_;intro _ _)|trivial)
theorem tO(s a b c d:Nat):Calm P (fun _=>True) (Op.Complex.corrected s a b c d):=by
 unfold Op.Complex.corrected
 repeat' (first|(refine eL (nG _ _ _ _) ?_;intro _ _)|trivial)
theorem DZ(a b c d:Nat):Calm P (fun _=>True) (Op.Complex.quotient a b c d):=by
 unfold Op.Complex.quotient;dsimp only;refine eL (xF _ _ _ _) ?_;intro x _;cases x;all_goals simp only[aL,if_false,if_true]
 all_goals
  iterate 9 (refine eL (nG _ _ _ _) ?_;intro _ _)
  refine BJ ?_
  iterate 2 (refine eL (xF _ _ _ _) ?_;intro _ _)
  split
  ·exact True.intro
  ·split
   ·iterate 2 (refine eL (nG _ _ _ _) ?_;intro _ _)
    exact True.intro
   ·split
    ·exact tO _ _ _ _ _
    ·split
     ·exact tO _ _ _ _ _
     ·exact True.intro
theorem BK(op:BinOp)(k:FloatKind)(a b c d:Nat):Calm P Plain (Op.complexOp op k a b c d):=by
 cases op<;>simp only[Op.complexOp]<;>first|trivial|skip
 ·iterate 2 (refine eL (nG _ _ _ _) ?_;intro _ _)
  exact fun g=>aj
 ·iterate 2 (refine eL (nG _ _ _ _) ?_;intro _ _)
  exact fun g=>aj
 ·iterate 4 (refine eL (uT _ _ _) ?_;intro _ _)
  refine eL (F7 _ _ _ _) ?_;intro _ _
  iterate 2 (refine eL (uT _ _ _) ?_;intro _ _)
  exact fun g=>aj
 ·iterate 4 (refine eL (uT _ _ _) ?_;intro _ _)
  refine eL (DZ _ _ _ _) ?_;intro _ _
  iterate 2 (refine eL (uT _ _ _) ?_;intro _ _)
  exact fun g=>aj
 ·iterate 2 (refine eL (xF _ _ _ _) ?_;intro _ _)
  exact fun g=>aj
 ·iterate 2 (refine eL (xF _ _ _ _) ?_;intro _ _)
  exact fun g=>aj
def K4:Value->Value->Bool
 | .int ..,.int .. | .float ..,.float .. | .complex ..,.complex .. | .string ..,.string ..=>true
 |_,_=>false
theorem binOp_eql(t:TypeId)(x y:Value)(h:K4 x y=false):binOp .eql t x y=(do pure (.bool (<- Op.equal t x y))):=by
 cases x<;>cases y<;>first|rfl|exact Bool.noConfusion h
theorem binOp_neq(t:TypeId)(x y:Value)(h:K4 x y=false):binOp .neq t x y=(do pure (.bool (!(<- Op.equal t x y)))):=by
 cases x<;>cases y<;>first|rfl|exact Bool.noConfusion h
theorem HU(x y:Value):K4 (val f x) (val f y)=K4 x y:=by
 cases x<;>simp only[cI,cP,b6,bF,bL,bh,bE,cT,cD,cE,bI,bX,bu,cQ,bY]<;>cases y<;>simp only[cI,cP,b6,bF,bL,bh,bE,cT,cD,cE,bI,bX,bu,cQ,bY]<;>rfl
def F9{α:Type}:Sem α->Bool
 | .halt h=>oY h
 |_=>false
def Nd{α:Type}(s:Sem α):Prop:=F9 s=true
theorem y7{s:Sem α}{s':Sem β}(h:Nd s):Rel P f A s s':=by
 cases s with
 |halt hh=>exact tH h
 |_=>exact Bool.noConfusion h
def EP:Value->Bool
 | .pointer _=>true
 |_=>false
theorem HV(op:BinOp)(t:TypeId)(x y:Value)(hb:K4 x y=false)(hp:EP x=false)(hq:EP y=false)(h1:op≠.eql)(h2:op≠.neq):Nd (binOp op t x y):=by
 cases op<;>first|exact absurd rfl h1|exact absurd rfl h2|skip
 all_goals (cases x<;>first|exact Bool.noConfusion hp|skip)
 all_goals (cases y<;>first|(show F9 _=true;rfl)|exact Bool.noConfusion hb|exact Bool.noConfusion hq)
theorem za{Q R:α->Prop}{s:Sem α}(h:Calm P Q s)(hq:∀a,Q a->R a):Calm P R s:=by
 have:=eL (R:=R) (k:=fun a=>Sem.pure a) h (fun a ha=>hq a ha);have e:(s>>=fun a=>Sem.pure a)=s:=bind_pure s;rwa[e] at this
theorem BL(op:BinOp)(t:TypeId)(a:Option Addr)(y:Value)(hq:EP y=false)(hi:∀k n,y≠.int k n)(h1:op≠.eql)(h2:op≠.neq):Nd (binOp op t (.pointer a) y)/\Nd (binOp op t y (.pointer a)):=by
 cases op<;>first|exact absurd rfl h1|exact absurd rfl h2|skip
 all_goals (cases a<;>cases y<;>first|exact Bool.noConfusion hq|exact absurd rfl (hi _ _)|exact⟨by show F9 _=true;rfl,by show F9 _=true;rfl⟩)
theorem K5(hf:nE P f)(op:BinOp)(t:TypeId)(a:Option Addr)(k:IntKind)(n:Int)(h1:op≠.eql)(h2:op≠.neq):Rel P f (V f) (binOp op t (.pointer a) (.int k n)) (binOp op t (.pointer (a.map (addr f))) (.int k n)):=by
 cases op<;>first|exact absurd rfl h1|exact absurd rfl h2|exact aY|skip
 ·refine ai (bj t) ?_;rintro d _ ⟨rfl,_⟩;split
  ·have:=y6 (P:=P) (f:=f) t (.pointer a) (.int k n);simpa using this
  ·have:=pd (P:=P) (f:=f) t (.pointer a) (.int k n);simpa using this
 ·show Rel P f (V f) (movedNumber t (.pointer a) (.int k (-n))) (movedNumber t (.pointer (a.map (addr f))) (.int k (-n)));have:=pd (P:=P) (f:=f) t (.pointer a) (.int k (-n));simpa using this
 ·cases a with
  |none=>exact aY
  |some a =>
   refine ai (eW a) ?_;rintro⟨c,l⟩ _ rfl;exact tN _ _ _
 ·cases a with
  |none=>exact aY
  |some a =>
   refine ai (eW a) ?_;rintro⟨c,l⟩ _ rfl;exact tN _ _ _
 all_goals (cases a<;>exact aY)
theorem K6(hf:nE P f)(op:BinOp)(t:TypeId)(a:Option Addr)(k:IntKind)(n:Int)(h1:op≠.eql)(h2:op≠.neq):Rel P f (V f) (binOp op t (.int k n) (.pointer a)) (binOp op t (.int k n) (.pointer (a.map (addr f)))):=by
 cases op<;>first|exact absurd rfl h1|exact absurd rfl h2|exact aY|skip
 ·show Rel P f (V f) (movedNumber t (.pointer a) (.int k n)) (movedNumber t (.pointer (a.map (addr f))) (.int k n));have:=pd (P:=P) (f:=f) t (.pointer a) (.int k n);simpa using this
 ·cases a with
  |none=>exact aY
  |some a =>
   refine ai (eW a) ?_;rintro⟨c,l⟩ _ rfl;exact tN _ _ _
theorem HW(hf:nE P f)(op:BinOp)(a b:Addr):Rel P f (V f) (Op.addrCmp op a b) (Op.addrCmp op (addr f a) (addr f b)):=by
 refine ai (vO hf a b) ?_;rintro⟨x,y⟩ _ rfl;cases op<;>first|exact aY|exact aC (by simp[V])
theorem K7(hf:nE P f)(op:BinOp)(t:TypeId)(a b:Option Addr)(h1:op≠.eql)(h2:op≠.neq):Rel P f (V f) (binOp op t (.pointer a) (.pointer b)) (binOp op t (.pointer (a.map (addr f))) (.pointer (b.map (addr f)))):=by
 cases a with
 |none=>cases b<;>cases op<;>first|exact absurd rfl h1|exact absurd rfl h2|exact aY
 |some a =>
  cases b with
  |none=>cases op<;>first|exact absurd rfl h1|exact absurd rfl h2|exact aY
  |some b =>
   cases op<;>first|exact absurd rfl h1|exact absurd rfl h2|exact aY|skip
   ·refine ai (eW a) ?_;rintro⟨c,l⟩ _ rfl;refine ai (eW b) ?_;rintro⟨d,m⟩ _ rfl;refine ai (vO hf c d) ?_;rintro⟨x,y⟩ _ rfl;exact aC (by simp[V])
   all_goals
    refine ai (eW a) ?_;rintro⟨c,l⟩ _ rfl;refine ai (eW b) ?_;rintro⟨d,m⟩ _ rfl;exact HW hf _ _ _
theorem OQ(hf:nE P f)(op:BinOp)(t:TypeId)(x y:Value):Rel P f (V f) (binOp op t x y) (binOp op t (val f x) (val f y)):=by
 by_cases hb:K4 x y=true
 ·cases x<;>cases y<;>first|exact Bool.noConfusion hb|skip
  ·simp only[cP];exact OP hf _ _ _ _ _ _
  ·rename_i k a k' b;simp only[b6];refine pW ?_;have q1:∀op,Calm P Plain (Op.floatArith op k a b):=fun op=>za (s9 op k a b) (by rintro _ ⟨k,r,rfl⟩ g;simp);have q2:∀op,Calm P Plain (Op.floatCmp op k a b):=fun op=>za (vP op k a b) (by rintro _ ⟨r,rfl⟩ g;simp);by_cases hk:k=k'
   ·subst hk;cases op<;>simp only[binOp,ne_eq,not_true_eq_false,if_false]<;>first|exact q1 _|exact q2 _
   ·cases op<;>simp only[binOp,ne_eq,hk,not_false_eq_true,if_true]<;>trivial
  ·rename_i k a b k' c d;simp only[bF];refine pW ?_;by_cases hk:k=k'
   ·subst hk;cases op<;>simp only[binOp,ne_eq,not_true_eq_false,if_false]<;>exact BK _ _ _ _ _ _
   ·cases op<;>simp only[binOp,ne_eq,hk,not_false_eq_true,if_true]<;>trivial
  ·rename_i a b;simp only[bL];have e:binOp op t (.string a) (.string b)=Op.stringOp op a b:=by cases op<;>rfl
   rw[e];exact xD _ _ _
 ·have hb:K4 x y=false:=by simpa using hb
  by_cases h1:op=.eql
  ·subst h1;rw[binOp_eql _ _ _ hb,binOp_eql _ _ _ (by rw[HU];exact hb)];exact ai (yZ hf t x y) (by rintro b _ rfl;exact aC (by simp[V]))
  ·by_cases h2:op=.neq
   ·subst h2;rw[binOp_neq _ _ _ hb,binOp_neq _ _ _ (by rw[HU];exact hb)];exact ai (yZ hf t x y) (by rintro b _ rfl;exact aC (by simp[V]))
   ·by_cases hp:EP x=true
    ·cases x<;>first|exact Bool.noConfusion hp|skip
     rw[bh];by_cases hi:∃k n,y=.int k n
     ·obtain⟨k,n,rfl⟩:=hi;rw[cP];exact K5 hf op t _ k n h1 h2
     ·by_cases hq:EP y=true
      ·cases y<;>first|exact Bool.noConfusion hq|skip
       rw[bh];exact K7 hf op t _ _ h1 h2
      ·exact y7 (BL op t _ y (by simpa using hq) (fun k n e=>hi ⟨k,n,e⟩) h1 h2).1
    ·by_cases hq:EP y=true
     ·cases y<;>first|exact Bool.noConfusion hq|skip
      rw[bh];by_cases hi:∃k n,x=.int k n
      ·obtain⟨k,n,rfl⟩:=hi;rw[cP];exact K6 hf op t _ k n h1 h2
      ·exact y7 (BL op t _ x (by simpa using hp) (fun k n e=>hi ⟨k,n,e⟩) h1 h2).2
     ·exact y7 (HV op t x y hb (by simpa using hp) (by simpa using hq) h1 h2)
theorem pB(hf:nE P f)(e:Bool):∀(n:Nat) (t:TypeId) (v:Value),Rel P f Eq (Instr.checkKey e n t v) (Instr.checkKey e n t (val f v)):=by
 intro n
 induction n with
 |zero=>intro t v;exact aY
 |succ n ih =>
  intro t v;obtain⟨v',hv⟩:∃v',v'=val f v:=⟨_,rfl⟩;rw[<- hv];unfold Instr.checkKey;refine ai (bj t) ?_;rintro u _ ⟨rfl,_⟩;cases u
  case interface =>
   cases v<;>first|exact aE|skip
   ·rename_i d x;rw[bX] at hv;subst hv;dsimp only;refine ai (fB d) ?_;rintro i _ ⟨rfl,_⟩;have pan:∀(x:RuntimeError) (k k':PUnit->Sem PUnit),sC x=true->Rel P f Eq (runtimePanic x>>=k) (runtimePanic x>>=k'):=fun x k k' he=>ai (A:=fun _ _=>False) (bZ hf x he) (fun _ _ h=>h.elim);split
    ·split
     ·exact pan _ _ _ rfl
     ·refine ai (Aa _) ?_;rintro s _ rfl;exact pan _ _ _ rfl
    ·exact ih d x
   ·rw[bu] at hv;subst hv;exact aC rfl
  case array =>
   cases v<;>first|exact aE|skip
   rw[cQ] at hv;subst hv;refine ai (A:=Eq) (oZ _ _ fun i a=>?_) (by rintro _ _ rfl;exact aC rfl);refine ai (dN _) ?_;rintro m _ rfl;refine ai (kF _ _ _) ?_;rintro x _ rfl;refine ai (ih _ _) ?_;rintro _ _ rfl;exact aC rfl
  case struct =>
   cases v<;>first|exact aE|skip
   rw[cQ] at hv;subst hv;refine ai (A:=Eq) (yY _ _ fun i _ a=>?_) (by rintro _ _ rfl;exact aC rfl);split
   ·refine ai (kF _ _ _) ?_;rintro x _ rfl;refine ai (ih _ _) ?_;rintro _ _ rfl;exact aC rfl
   ·exact aC rfl
  all_goals exact aC rfl
abbrev found(f:Rn):Option (Nat×Value)->Option (Nat×Value)->Prop:=fun a b=>b=a.map fun x=>(x.1,val f x.2)
theorem BM(hf:nE P f)(t:TypeId)(k:Value):∀(es:List MapEntry) (i:Nat),Rel P f (found f) (Instr.findAsking t k es i) (Instr.findAsking t (val f k) (es.map (entry f)) i):=by
 intro es
 induction es with
 |nil=>intro i;exact aC rfl
 |cons e es ih =>
  intro i;simp only[aA,Instr.findAsking];refine ai (yZ hf t k e.key) ?_;rintro b _ rfl;cases b
  ·exact ih _
  ·exact aC rfl
theorem HX(d:TypeDesc)(x y:Value):Instr.sameNow d (val f x) (val f y)=Instr.sameNow d x y:=by
 cases d<;>first|rfl|skip
 all_goals (cases x<;>simp only[cI,cP,b6,bF,bL,bh,bE,cT,cD,cE,bI,bX,bu,cQ,bY]<;>first|rfl|skip)
 all_goals (cases y<;>simp only[cI,cP,b6,bF,bL,bh,bE,cT,cD,cE,bI,bX,bu,cQ,bY]<;>rfl)
theorem HY(d:TypeDesc)(k:Value):∀(es:List MapEntry) (i:Nat),Instr.findNow d (val f k) (es.map (entry f)) i=(Instr.findNow d k es i).map fun r=>r.map fun x=>(x.1,val f x.2):=by
 intro es
 induction es with
 |nil=>intro i;rfl
 |cons e es ih =>
  intro i;simp only[aA,Instr.findNow];have:Instr.sameNow d (val f k) (entry f e).key=Instr.sameNow d k e.key:=HX d k e.key;rw[this];cases Instr.sameNow d k e.key with
  |none=>rfl
  |some b =>
   cases b
   ·exact ih _
   ·rfl
theorem tP(hf:nE P f)(t:TypeId)(k:Value)(es:List MapEntry):Rel P f (found f) (Instr.findKey t k es) (Instr.findKey t (val f k) (es.map (entry f))):=by
 refine ai (bj t) ?_;rintro d _ ⟨rfl,_⟩;rw[HY];cases Instr.findNow d k es 0 with
 |none=>exact BM hf t k es 0
 |some r=>exact aC rfl
theorem K8(hf:nE P f)(t:TypeId)(x i:Value)(ok:Bool):Rel P f (V f) (Instr.lookup t x i ok) (Instr.lookup t (val f x) (val f i) ok):=by
 refine ai (bj t) ?_;rintro d _ ⟨rfl,_⟩;cases d<;>first|exact aE|skip
 rename_i key elem _;have tail:∀es:Array MapEntry,Rel P f (V f) (do
   Instr.checkKey es.isEmpty 10000 key i
   let (v,ok') <- match <- Instr.findKey key i es.toList with
    |some (_,v)=>pure (v,true)
    |none=>pure (<- zeroValue elem,false)
   pure (if ok then .tuple #[v,.bool ok'] else v)) (do
   Instr.checkKey (es.map (entry f)).isEmpty 10000 key (val f i)
   let (v,ok') <- match <- Instr.findKey key (val f i) (es.map (entry f)).toList with
    |some (_,v)=>pure (v,true)
    |none=>pure (<- zeroValue elem,false)
   pure (if ok then .tuple #[v,.bool ok'] else v)):=by
  intro es;have e1:(es.map (entry f)).isEmpty=es.isEmpty:=by simp[Array.isEmpty]
  rw[e1];refine ai (pB hf _ _ _ _) ?_;rintro _ _ rfl;rw[cw];refine ai (tP hf key i es.toList) ?_;rintro r _ rfl;cases r with
  |some y =>
   refine aC ?_;cases ok<;>simp[V]
  |none =>
   refine ai (iG hf elem) ?_;rintro z _ ⟨rfl,hz⟩;refine aC ?_;cases ok<;>simp[V,hz]
 cases x<;>first|exact aE|skip
 rename_i r;rw[cT];cases r with
 |none =>
  have h:=tail #[];rw[show(#[]:Array MapEntry).map (entry f)=#[] by simp] at h;exact h
 |some r =>
  refine ai (jr r) ?_;rintro o _ rfl;cases o<;>first|exact aE|skip
  exact tail _
theorem Ad(hf:nE P f)(a b:Option Addr):(a.map (addr f)==b.map (addr f))=(a==b):=by
 cases a<;>cases b<;>first|rfl|skip
 rename_i a b;have:=xB hf a b;simpa using this
theorem BN(hf:nE P f)(a b:Option Nat):(a.map f.b==b.map f.b)=(a==b):=by
 cases a<;>cases b<;>first|rfl|skip
 rename_i a b;have:=EO hf a b;simpa using this
theorem Ga(hf:nE P f):∀(n:Nat) (x y:Value),Instr.sameBits n (val f x) (val f y)=Instr.sameBits n x y:=by
 intro n
 induction n with
 |zero =>
  intro x y;cases x<;>simp only[cI,cP,b6,bF,bL,bh,bE,cT,cD,cE,bI,bX,bu,cQ,bY]<;>cases y<;>simp only[cI,cP,b6,bF,bL,bh,bE,cT,cD,cE,bI,bX,bu,cQ,bY,Instr.sameBits]
  ·rename_i a b;exact Ad hf a b
  ·rename_i a b;exact BN hf a b
 |succ n ih =>
  intro x y;cases x<;>simp only[cI,cP,b6,bF,bL,bh,bE,cT,cD,cE,bI,bX,bu,cQ,bY]<;>cases y<;>simp only[cI,cP,b6,bF,bL,bh,bE,cT,cD,cE,bI,bX,bu,cQ,bY,Instr.sameBits,ih]
  ·rename_i a b;exact Ad hf a b
  ·rename_i a b;exact BN hf a b
  ·rename_i a b;simp only[Array.size_map,Array.toList_map]
   congr 1
   generalize a.toList=l;generalize b.toList=m
   induction l generalizing m with
   |nil=>rfl
   |cons x l ih2 =>
    cases m with
    |nil=>rfl
    |cons y m=>simp only[aA,List.zip_cons_cons,List.all_cons,ih,ih2]
theorem zb(hf:nE P f)(a b:Value):Rel P f (V f) (Instr.keyThatStays a b) (Instr.keyThatStays (val f a) (val f b)):=by
 unfold Instr.keyThatStays;rw[Ga hf];split
 ·exact aC rfl
 ·refine ai (iJ _) ?_;rintro n _ rfl;refine aC ?_;simp only[V];split<;>rfl
theorem vQ(hf:nE P f)(t:TypeId)(m k v:Value):Rel P f (fun _ _=>True) (Instr.mapUpdate t m k v) (Instr.mapUpdate t (val f m) (val f k) (val f v)):=by
 refine ai (bj t) ?_;rintro d _ ⟨rfl,_⟩;cases d<;>first|exact aE|skip
 cases m<;>first|exact aE|skip
 rename_i r;rw[cT];cases r with
 |none=>exact bZ hf _
 |some r =>
  refine ai (jr r) ?_;rintro o _ rfl;cases o<;>first|exact aE|skip
  rename_i es clock;refine ai (pB hf _ _ _ _) ?_;rintro _ _ rfl;rw[cw];refine ai (tP hf _ k es.toList) ?_;rintro x _ rfl;cases x with
  |some y =>
   obtain⟨i,w⟩:=y;dsimp only[Option.map_some];refine ai (A:=V f) (by
    have:=zb (P:=P) hf (((es[i]?).map (·.key)).getD k) k;rw[show val f (((es[i]?).map (·.key)).getD k)=((((es.map (entry f))[i]?).map (·.key)).getD (val f k)) by
     simp only[aK];cases es[i]?<;>rfl] at this
    exact this) ?_
   rintro k2 _ rfl;refine p9 r ?_ rfl;simp only[obj]
   congr 1
   apply ju;intro j;simp only[aR,aK];split<;>cases es[j]?<;>rfl
  |none =>
   refine p9 r ?_ rfl;simp only[obj,Array.map_push];rfl
theorem lA{c c':Prop}[Decidable c][Decidable c']{a b:Sem α}{a' b':Sem β}(hc:c↔c')(h1:c->Rel P f A a a')(h2:¬c->Rel P f A b b'):Rel P f A (if c then a else b) (if c' then a' else b'):=by
 by_cases h:c
 ·rw[if_pos h,if_pos (hc.1 h)];exact h1 h
 ·rw[if_neg h,if_neg (fun k=>h (hc.2 k))];exact h2 h
theorem vR{g g':Value->β->Sem (ForInStep β)}(xs:Array Value)(init:β)(h:∀x a,Rel P f Eq (g x a) (g' (val f x) a)):Rel P f Eq (forIn xs init g) (forIn (xs.map (val f)) init g'):=by
 rw[<- fO,<- fO,cw];generalize xs.toList=l
 induction l generalizing init with
 |nil=>simp only[aP,List.forIn_nil];exact aC rfl
 |cons x l ih =>
  simp only[aA,List.forIn_cons];refine ai (h x init) ?_;rintro a _ rfl;cases a
  ·exact aC rfl
  ·exact ih _
theorem qQ(a:Addr):Rel P f (fun _ _=>True) (markStringish a) (markStringish (addr f a)):=by
 refine ai (A:=Eq) (il a.block) ?_;rintro x _ rfl;split
 ·exact BB _ _
 ·exact aC trivial
theorem xG(e:TypeId)(s:af):Rel P f (V f) (Conv.stringToBytes e s) (Conv.stringToBytes e s):=by
 refine ai (iJ _) ?_;rintro c _ rfl;dsimp only;refine ai (A:=AR f) (kr _ (by simp[Function.comp_def])) ?_;rintro a _ rfl;refine ai (qQ a) ?_;rintro _ _ _;exact aC (by simp[V])
theorem D2(s:af):∀(n i:Nat) (acc:Array Value),acc.map (val f)=acc->(Conv.runesFrom s n i acc).map (val f)=Conv.runesFrom s n i acc:=by
 intro n
 induction n with
 |zero=>intro i acc h;exact h
 |succ n ih =>
  intro i acc h;unfold Conv.runesFrom;split
  ·exact ih _ _ (by simp[Array.map_push,h])
  ·exact h
theorem xH(e:TypeId)(s:af):Rel P f (V f) (Conv.stringToRunes e s) (Conv.stringToRunes e s):=by
 unfold Conv.stringToRunes;dsimp only;refine ai (iJ _) ?_;rintro c _ rfl;have h:=D2 (f:=f) s s.size 0 #[] aj;refine ai (A:=AR f) (kr _ (by rw[gi,h];simp)) ?_;rintro a _ rfl;exact aC (by simp[V])
theorem xI(x:Value):Rel P f (V f) (Conv.bytesToString x) (Conv.bytesToString (val f x)):=by
 cases x<;>first|exact aE|skip
 rename_i a len cap;rw[bE];cases a with
 |none=>exact aC (by simp[V])
 |some a =>
  unfold Conv.bytesToString;dsimp only[Option.map_some];refine ai (nV a len) ?_;rintro cs _ rfl;refine ai (A:=Eq) (vR _ _ fun c acc=>?_) ?_
  ·cases c<;>simp only[cI,cP,b6,bF,bL,bh,bE,cT,cD,cE,bI,bX,bu,cQ,bY]<;>first|exact aE|skip
   rename_i k n;cases k<;>first|exact aE|exact aC rfl
  ·rintro s _ rfl;exact aC (by simp[V])
theorem xJ(x:Value):Rel P f (V f) (Conv.runesToString x) (Conv.runesToString (val f x)):=by
 cases x<;>first|exact aE|skip
 rename_i a len cap;rw[bE];cases a with
 |none=>exact aC (by simp[V])
 |some a =>
  unfold Conv.runesToString;dsimp only[Option.map_some];refine ai (nV a len) ?_;rintro cs _ rfl;refine ai (A:=Eq) (vR _ _ fun c acc=>?_) ?_
  ·cases c<;>simp only[cI,cP,b6,bF,bL,bh,bE,cT,cD,cE,bI,bX,bu,cQ,bY]<;>first|exact aE|skip
   rename_i k n;cases k<;>first|exact aE|exact aC rfl
  ·rintro s _ rfl;exact aC (by simp[V])
theorem HZ(r:Nat):Rel P f Eq (cellsIn r) (cellsIn (f.b r)):=by
 refine ai (il r) ?_;rintro x _ rfl;split
 ·exact aC rfl
 ·refine ai (jr r) ?_;rintro o _ rfl;cases o<;>exact aC (by simp[obj])
theorem te(a:Addr)(u:TypeId)(n:Nat):Rel P f Eq (variablesAt a u n) (variablesAt (addr f a) u n):=by
 refine ai dR ?_;rintro _ _ ⟨rfl,rfl⟩;refine ai (A:=Eq) (il a.block) ?_;rintro x _ rfl;split<;>exact aC rfl
theorem BO(a:Addr):Rel P f (AR f) (Conv.seenAt a) (Conv.seenAt (addr f a)):=by
 refine ai (sD a.block) ?_;rintro x _ rfl;cases x with
 |none=>exact aC rfl
 |some y =>
  obtain⟨s,u⟩:=y;dsimp only[Option.map_some];refine lA cZ (fun _=>aC rfl) (fun _=>?_);refine fj aY ?_;refine ai dR ?_;rintro _ _ ⟨rfl,rfl⟩;dsimp only[Bt];cases byteOfCell P P.depth u a.off with
  |none=>exact aY
  |some β =>
   refine ai (A:=Eq) (il s.block) ?_;rintro z _ rfl;rcases z with _|⟨e,cells⟩
   ·exact aY
   ·refine fj aY ?_;cases cellAtBytes P P.depth e (cells/P.cellsOf e) s.off β with
    |none=>exact aY
    |some c=>exact aC rfl
theorem BP(src dst:TypeId)(x:Value):Rel P f (V f) (Conv.unsafePointer src dst x) (Conv.unsafePointer src dst (val f x)):=by
 refine ai (bj src) ?_;rintro u _ ⟨rfl,_⟩;refine ai (bj dst) ?_;rintro w _ ⟨rfl,_⟩;obtain⟨x',hx⟩:∃x',x'=val f x:=⟨_,rfl⟩;rw[<- hx];cases u<;>first|exact aE|skip
 case pointer t =>
  cases w<;>first|exact aE|skip
  cases x<;>first|exact aE|skip
  rename_i a;rw[bh] at hx;subst hx;cases a with
  |none=>exact aC (by simp[V])
  |some a =>
   dsimp only[Option.map_some];refine ai (BO a) ?_;rintro s _ rfl;refine ai (HZ s.block) ?_;rintro c _ rfl;refine ai (dN _) ?_;rintro n _ rfl;refine lA cZ (fun _=>?_) (fun _=>aC (by simp[V]));refine ai (A:=fun r r'=>r'=f.b r) (lZ rfl rfl) ?_;rintro r _ rfl;exact aC (by simp[V])
 case unsafePointer =>
  cases w<;>first|exact aE|skip
  case pointer t =>
   cases x<;>first|exact aE|skip
   rename_i a;rw[bh] at hx;subst hx;cases a with
   |none=>exact aC (by simp[V])
   |some a =>
    dsimp only[Option.map_some];refine ai (BO a) ?_;rintro s _ rfl;refine ai (dN _) ?_;rintro n _ rfl;refine ai (te s _ 1) ?_;rintro b _ rfl;refine lA cZ (fun _=>aC (by simp[V])) (fun _=>?_);refine ai (A:=Eq) (il s.block) ?_;rintro z _ rfl;rcases z with _|⟨e,cells⟩
    ·exact aY
    ·dsimp only;refine ai dR ?_;rintro _ _ ⟨rfl,rfl⟩;refine ai dR ?_;rintro _ _ ⟨rfl,rfl⟩;refine fj aY ?_;refine ai (A:=fun r r'=>r'=f.b r) (lZ rfl rfl) ?_;rintro r _ rfl;exact aC (by simp[V])
  case unsafePointer =>
   cases x<;>first|exact aE|skip
   rw[bh] at hx;subst hx;exact aC (by simp[V])
  case int k =>
   cases x<;>first|exact aE|skip
   rename_i a;rw[bh] at hx;subst hx;cases a with
   |none=>exact aC (by simp[V])
   |some a=>exact xE a false
 case int =>
  cases w<;>first|exact aE|skip
  cases x<;>first|exact aE|skip
  ·rename_i k n;rcases n with(_|_)|_<;>exact aY
  ·rename_i a;cases a<;>first|exact aE|exact aY
theorem AO(k:FloatKind)(b:Nat)(d:IntKind):Calm P Plain (Conv.floatToInt k b d):=by
 unfold Conv.floatToInt;dsimp only;split
 ·split
  ·exact fun g=>aj
  ·exact fun n g=>aj
 ·exact fun n g=>aj
theorem Rp(k:FloatKind)(a b:Nat)(d:FloatKind):Calm P Plain (Conv.complexToComplex k a b d):=by
 refine eL (kN _ _ _) ?_;rintro _ ⟨k,r,rfl⟩;refine eL (kN _ _ _) ?_;rintro _ ⟨k,r,rfl⟩;exact fun g=>aj
theorem H2(hf:nE P f)(src dst:TypeId)(x:Value):Rel P f (V f) (convert src dst x) (convert src dst (val f x)):=by
 obtain⟨x',hx⟩:∃x',x'=val f x:=⟨_,rfl⟩;rw[<- hx];unfold convert;refine ai (bj src) ?_;rintro u _ ⟨rfl,_⟩;refine ai (bj dst) ?_;rintro w _ ⟨rfl,_⟩;have conv:Rel P f (V f) (Conv.unsafePointer src dst x) (Conv.unsafePointer src dst x'):=by rw[hx];exact BP src dst x
 have hb:Rel P f (V f) (Conv.bytesToString x) (Conv.bytesToString x'):=by rw[hx];exact xI x
 have hr:Rel P f (V f) (Conv.runesToString x) (Conv.runesToString x'):=by rw[hx];exact xJ x
 cases w
 case unsafePointer=>cases u<;>exact conv
 case int =>
  cases x<;>(simp only[cI,cP,b6,bF,bL,bh,bE,cT,cD,cE,bI,bX,bu,cQ,bY] at hx;subst hx)
  case int=>exact aC (by simp[V])
  case float=>exact pW (AO _ _ _)
  case pointer a=>cases a<;>cases u<;>first|exact aY|exact conv
  all_goals (cases u<;>first|exact aY|exact conv)
 case float =>
  cases x<;>(simp only[cI,cP,b6,bF,bL,bh,bE,cT,cD,cE,bI,bX,bu,cQ,bY] at hx;subst hx)
  case int=>exact aC (by simp[V])
  case float=>exact pW (za (kN _ _ _) (by rintro _ ⟨k,r,rfl⟩ g;simp))
  case pointer a=>cases a<;>cases u<;>first|exact aY|exact conv
  all_goals (cases u<;>first|exact aY|exact conv)
 case complex =>
  cases x<;>(simp only[cI,cP,b6,bF,bL,bh,bE,cT,cD,cE,bI,bX,bu,cQ,bY] at hx;subst hx)
  case complex=>exact pW (Rp _ _ _ _)
  case pointer a=>cases a<;>cases u<;>first|exact aY|exact conv
  all_goals (cases u<;>first|exact aY|exact conv)
 case string =>
  cases x<;>(simp only[cI,cP,b6,bF,bL,bh,bE,cT,cD,cE,bI,bX,bu,cQ,bY] at hx;subst hx)
  case int=>exact aC (by simp[V])
  case string=>exact aC (by simp[V])
  case pointer a =>
   cases a<;>cases u<;>first|exact aY|exact conv|skip
   all_goals
    refine ai (bj _) ?_;rintro d _ ⟨rfl,_⟩;cases d<;>first|exact aE|skip
    rename_i k _;cases k<;>first|exact aE|exact hb|exact hr
  all_goals
   cases u<;>first|exact aY|exact conv|skip
   refine ai (bj _) ?_;rintro d _ ⟨rfl,_⟩;cases d<;>first|exact aE|skip
   rename_i k _;cases k<;>first|exact aE|exact hb|exact hr
 case slice e =>
  cases x<;>(simp only[cI,cP,b6,bF,bL,bh,bE,cT,cD,cE,bI,bX,bu,cQ,bY] at hx;subst hx)
  case string s =>
   refine ai (bj _) ?_;rintro d _ ⟨rfl,_⟩;cases d<;>first|exact aE|skip
   rename_i k _;cases k<;>first|exact aE|exact xG _ s|exact xH _ s
  case slice a len cap =>
   cases a with
   |none=>cases u<;>first|exact aY|exact conv
   |some a =>
    cases u<;>first|exact aY|exact conv|skip
    refine ai (bj _) ?_;rintro d _ ⟨rfl,_⟩;cases hsd:src==dst
    ·exact aY
    ·cases d<;>first|exact aY|skip
     rename_i k _;cases k<;>first|exact aY|skip
     refine ai (qQ a) ?_;rintro _ _ _;exact aC (by simp[V])
  case pointer a=>cases a<;>cases u<;>first|exact aY|exact conv
  all_goals (cases u<;>first|exact aY|exact conv)
 all_goals
  cases x<;>(simp only[cI,cP,b6,bF,bL,bh,bE,cT,cD,cE,bI,bX,bu,cQ,bY] at hx;subst hx)
  case pointer a=>cases a<;>cases u<;>first|exact aY|exact conv
  all_goals (cases u<;>first|exact aY|exact conv)
theorem Vk(ts:Array TypeId)(t:TypeId)(args:Array Value):Rel P f (V f) (Builtin.len_ ts t args) (Builtin.len_ ts t (args.map (val f))):=by
 unfold Builtin.len_;rw[aK];cases ts[0]? with
 |none=>exact aE
 |some u =>
  cases args[0]? with
  |none=>exact aE
  |some x =>
   obtain⟨x',hx⟩:∃x',x'=val f x:=⟨_,rfl⟩;dsimp only[Option.map_some];rw[<- hx];refine ai (bj u) ?_;rintro d _ ⟨rfl,_⟩;cases d<;>first|exact aE|skip
   case string =>
    cases x<;>first|exact aE|skip
    rw[bL] at hx;subst hx;exact aC (by simp[V,goInt])
   case array=>exact aC (by simp[V,goInt])
   case pointer =>
    refine ai (bj _) ?_;rintro d _ ⟨rfl,_⟩;cases d<;>first|exact aE|exact aC (by simp[V,goInt])
   case slice =>
    cases x<;>first|exact aE|skip
    rw[bE] at hx;subst hx;exact aC (by simp[V,goInt])
   case map =>
    cases x<;>first|exact aE|skip
    rename_i r;rw[cT] at hx;subst hx;cases r with
    |none=>exact aC (by simp[V,goInt])
    |some r =>
     refine ai (jr r) ?_;rintro o _ rfl;cases o<;>first|exact aE|exact aC (by simp[V,goInt])
   case chan =>
    cases x<;>first|exact aE|skip
    rename_i r;rw[cD] at hx;subst hx;cases r with
    |none=>exact aC (by simp[V,goInt])
    |some r =>
     refine ai (jr r) ?_;rintro o _ rfl;cases o<;>first|exact aE|exact aC (by simp[V,goInt])
theorem Vl(ts:Array TypeId)(t:TypeId)(args:Array Value):Rel P f (V f) (Builtin.cap_ ts t args) (Builtin.cap_ ts t (args.map (val f))):=by
 unfold Builtin.cap_;rw[aK];cases ts[0]? with
 |none=>exact aE
 |some u =>
  cases args[0]? with
  |none=>exact aE
  |some x =>
   obtain⟨x',hx⟩:∃x',x'=val f x:=⟨_,rfl⟩;dsimp only[Option.map_some];rw[<- hx];refine ai (bj u) ?_;rintro d _ ⟨rfl,_⟩;cases d<;>first|exact aE|skip
   case array=>exact aC (by simp[V,goInt])
   case pointer =>
    refine ai (bj _) ?_;rintro d _ ⟨rfl,_⟩;cases d<;>first|exact aE|exact aC (by simp[V,goInt])
   case slice =>
    cases x<;>first|exact aE|skip
    rw[bE] at hx;subst hx;exact aC (by simp[V,goInt])
   case chan =>
    cases x<;>first|exact aE|skip
    rename_i r;rw[cD] at hx;subst hx;cases r with
    |none=>exact aC (by simp[V,goInt])
    |some r =>
     refine ai (jr r) ?_;rintro o _ rfl;cases o<;>first|exact aE|exact aC (by simp[V,goInt])
theorem ER(x:Value):Rel P f Eq (Builtin.lenOf x) (Builtin.lenOf (val f x)):=by
 cases x<;>simp only[cI,cP,b6,bF,bL,bh,bE,cT,cD,cE,bI,bX,bu,cQ,bY]<;>first|exact aE|exact aC rfl
theorem qa(s n:Nat)(x:Value):Rel P f (VS f) (Builtin.firstCells s n x) (Builtin.firstCells s n (val f x)):=by
 cases x<;>simp only[cI,cP,b6,bF,bL,bh,bE,cT,cD,cE,bI,bX,bu,cQ,bY]<;>first|exact aE|skip
 ·exact aC (by simp[VS,Function.comp_def])
 ·rename_i a _ _;cases a with
  |none=>exact aC (by simp[VS])
  |some a=>exact nV _ _
theorem Rq(ts:Array TypeId)(t:TypeId)(args:Array Value):Rel P f (V f) (Builtin.copy_ ts t args) (Builtin.copy_ ts t (args.map (val f))):=by
 unfold Builtin.copy_;rw[aK,aK];cases ts[0]? with
 |none=>exact aE
 |some u =>
  cases args[0]? with
  |none=>exact aE
  |some x =>
   cases args[1]? with
   |none=>exact aE
   |some y =>
    dsimp only[Option.map_some];refine ai (bj u) ?_;rintro d _ ⟨rfl,_⟩;cases d<;>first|exact aE|skip
    cases x<;>first|exact aE|skip
    rename_i a dl _;rw[bE];refine ai (ER y) ?_;rintro n _ rfl;refine ai (dN _) ?_;rintro m _ rfl;refine ai (qa _ _ y) ?_;rintro cs _ rfl;cases a with
    |none=>exact aC (by simp[V,goInt])
    |some a =>
     dsimp only[Option.map_some];rw[cw];refine ai (kV a _ 0) ?_;rintro _ _ _;exact aC (by simp[V,goInt])
theorem tQ(a:Addr)(n:Nat):Rel P f Eq (Builtin.holdsCells a n) (Builtin.holdsCells (addr f a) n):=by
 refine ai (A:=Eq) (il a.block) ?_;rintro x _ rfl;split<;>exact aC rfl
theorem rB{z:Array Value}(hz:z.map (val f)=z)(n:Nat):(Builtin.zeroCells z n).map (val f)=Builtin.zeroCells z n:=rR hz _
theorem Gb(hf:nE P f)(s l n:Nat)(b:Option Addr)(x:Value):Rel P f Eq (Builtin.mayShare s l n b x) (Builtin.mayShare s l n (b.map (addr f)) (val f x)):=by
 have tail:∀t:Bool,Rel P f Eq (do
   if !t then return true
   match x with
   | .slice (some c) _ _=>do pure (!(<- Builtin.holdsCells c (n*s))||b.any (·.block==c.block))
   |_=>pure false) (do
   if !t then return true
   match val f x with
   | .slice (some c) _ _=>do pure (!(<- Builtin.holdsCells c (n*s))||(b.map (addr f)).any (·.block==c.block))
   |_=>pure false):=by
  intro t;cases t
  ·exact aC rfl
  ·cases x<;>simp only[cI,cP,b6,bF,bL,bh,bE,cT,cD,cE,bI,bX,bu,cQ,bY]<;>first|exact aC rfl|skip
   rename_i c _ _;cases c with
   |none=>exact aC rfl
   |some c =>
    refine ai (tQ c _) ?_;rintro h _ rfl;refine aC ?_;cases b with
    |none=>rfl
    |some b=>simp[EO hf]
 unfold Builtin.mayShare;cases b with
 |none=>exact tail true
 |some a =>
  dsimp only[Option.map_some];refine ai (tQ a _) ?_;rintro h _ rfl;rw[<- kE];refine ai (p8 _) ?_;rintro z _ rfl;exact tail _
def A8(e1:RuntimeError)(u:String)(elem:TypeId)(base:Option Addr)(lI oo size:Nat)(s x:Value)(mJ:Bool)(n:Nat):Sem Value:=do
 let H3:Sem (Array Value) :=
  if !mJ then Builtin.firstCells size n x
  else if n*size=0 then pure #[]
  else do pure (Builtin.zeroCells (<- zeroValue elem).cells n)
 let vy:=lI+n
 if vy<=oo then
  let new <- H3
  if let some a:=base then storeCells (a.add (lI*size)) new.toList
  pure (.slice base vy oo)
 else
  if (vy:Int)>IntKind.i64.max/\(mJ\/(<- typeInfo elem).bytes=0) then runtimePanic e1
  if Builtin.nextslicecap vy oo*(<- typeInfo elem).bytes>2^48 then(if mJ then runtimePanic e1 else do
   if !(<- Builtin.mayShare size lI n base x) then mark .noRoom
   unsupported (.resourceLimit u))
  let qc <- choose (.appendCap vy oo elem)
  askRoom (qc*(<- typeInfo elem).bytes)
  let old <- Builtin.firstCells size lI s;let new <- H3;let rest:=Builtin.zeroCells (<- zeroValue elem).cells (qc-vy)
  pure (.slice (some (<- newRow elem (old++new++rest))) vy qc)
def Gc(e0 e1:RuntimeError)(q:Question)(e2:Nat->RuntimeError)(u:String)(elem:TypeId)(base:Option Addr)(lI oo size:Nat)(s x:Value)(mJ:Bool):Sem Value:=do
 let n <- if mJ then do
   let l:=IntKind.i64.wrap (<- asInt x)
   if l<0 then runtimePanic e0
   if l*(<- typeInfo elem).bytes>2^48 then
    let made <- choose q
    runtimePanic (e2 made)
   pure l.toNat
  else Builtin.lenOf x
 A8 e1 u elem base lI oo size s x mJ n
theorem Ae(hf:nE P f)(e1:RuntimeError)(h1:sC e1=true)(u:String)(elem:TypeId)(base:Option Addr)(lI oo size:Nat)(x:Value)(mJ:Bool)(n:Nat):
  Rel P f (V f) (A8 e1 u elem base lI oo size (.slice base lI oo) x mJ n) (A8 e1 u elem (base.map (addr f)) lI oo size (.slice (base.map (addr f)) lI oo) (val f x) mJ n):=by
 have app:Rel P f (VS f) (if !mJ then Builtin.firstCells size n x else if n*size=0 then pure #[] else do pure (Builtin.zeroCells (<- zeroValue elem).cells n))
   (if !mJ then Builtin.firstCells size n (val f x) else if n*size=0 then pure #[] else do pure (Builtin.zeroCells (<- zeroValue elem).cells n)):=by
  cases mJ
  ·exact qa _ _ _
  ·refine lA cZ (fun h=>(by cases h)) (fun _=>?_);refine lA cZ (fun _=>aC (by simp[VS])) (fun _=>?_);refine ai (iG hf _) ?_;rintro z _ ⟨rfl,hz⟩;exact aC (by simp only[VS];rw[rB (by rw[<- kG,hz])])
 unfold A8;dsimp only;refine lA cZ (fun _=>?_) (fun _=>?_)
 ·refine ai app ?_;rintro new _ rfl;cases base with
  |none=>exact aC (by simp[V])
  |some a =>
   dsimp only[Option.map_some];rw[cw,<- kE];refine ai (kV _ _ 0) ?_;rintro _ _ _;exact aC (by simp[V])
 ·refine ai (fB _) ?_;rintro i _ ⟨rfl,_⟩;refine fj (bZ hf _ h1) ?_;refine ai (fB _) ?_;rintro i2 _ ⟨rfl,_⟩;have rest:Rel P f (V f) (do
    let qc <- choose (.appendCap (lI+n) oo elem)
    askRoom (qc*(<- typeInfo elem).bytes)
    let old <- Builtin.firstCells size lI (.slice base lI oo);let new <- (if !mJ then Builtin.firstCells size n x else if n*size=0 then pure #[] else do pure (Builtin.zeroCells (<- zeroValue elem).cells n));let rest:=Builtin.zeroCells (<- zeroValue elem).cells (qc-(lI+n))
    pure (.slice (some (<- newRow elem (old++new++rest))) (lI+n) qc)) (do
    let qc <- choose (.appendCap (lI+n) oo elem)
    askRoom (qc*(<- typeInfo elem).bytes)
    let old <- Builtin.firstCells size lI (.slice (base.map (addr f)) lI oo);let new <- (if !mJ then Builtin.firstCells size n (val f x) else if n*size=0 then pure #[] else do pure (Builtin.zeroCells (<- zeroValue elem).cells n));let rest:=Builtin.zeroCells (<- zeroValue elem).cells (qc-(lI+n))
    pure (.slice (some (<- newRow elem (old++new++rest))) (lI+n) qc)):=by
   refine ai (iJ _) ?_;rintro c _ rfl;refine ai (fB _) ?_;rintro i _ ⟨rfl,_⟩;refine ai (tL _) ?_;rintro _ _ _;refine ai (A:=VS f) (by have:=qa (P:=P) (f:=f) size lI (.slice base lI oo);rwa[bE] at this) ?_;rintro old _ rfl;refine ai app ?_;rintro new _ rfl;refine ai (iG hf _) ?_;rintro z _ ⟨rfl,hz⟩;refine ai (A:=AR f) (kr _ (by rw[gi,gi,rB (by rw[<- kG,hz])])) ?_;rintro a _ rfl;exact aC (by simp[V])
  refine lA cZ (fun _=>?_) (fun _=>rest);cases mJ
  ·refine ai (A:=fun _ _=>False) ?_ (fun _ _ h=>h.elim);refine ai (Gb hf _ _ _ _ _) ?_;rintro b _ rfl;cases b
   ·exact xu BC aY
   ·exact aY
  ·exact ai (A:=fun _ _=>False) (bZ hf _ h1) (fun _ _ h=>h.elim)
theorem Af(hf:nE P f)(e0 e1:RuntimeError)(q:Question)(e2:Nat->RuntimeError)(h0:sC e0=true)(h1:sC e1=true)(h2:∀n,sC (e2 n)=true)(u:String)(elem:TypeId)(base:Option Addr)(lI oo size:Nat)(x:Value)(mJ:Bool):
  Rel P f (V f) (Gc e0 e1 q e2 u elem base lI oo size (.slice base lI oo) x mJ) (Gc e0 e1 q e2 u elem (base.map (addr f)) lI oo size (.slice (base.map (addr f)) lI oo) (val f x) mJ):=by
 unfold Gc;cases mJ
 ·refine ai (ER x) ?_;rintro n _ rfl;exact Ae hf _ h1 _ _ _ _ _ _ _ _ _
 ·dsimp only;refine lA cZ (fun _=>?_) (fun h=>absurd rfl h);refine ai (nF x) ?_;rintro n _ rfl;refine fj (bZ hf _ h0) ?_;refine ai (fB _) ?_;rintro i _ ⟨rfl,_⟩;refine lA cZ (fun _=>?_) (fun _=>?_)
  ·refine ai (iJ _) ?_;rintro m _ rfl;exact ai (A:=fun _ _=>False) (bZ hf _ (h2 _)) (fun _ _ h=>h.elim)
  ·exact Ae hf _ h1 _ _ _ _ _ _ _ _ _
theorem K9(hf:nE P f)(ts:Array TypeId)(t:TypeId)(args:Array Value):Rel P f (V f) (Builtin.append_ ts t args) (Builtin.append_ ts t (args.map (val f))):=by
 unfold Builtin.append_;rw[aK,aK];cases ts[0]? with
 |none=>exact aE
 |some u =>
  cases args[0]? with
  |none=>exact aE
  |some s =>
   cases args[1]? with
   |none=>exact aE
   |some x =>
    refine ai (bj u) ?_;rintro d _ ⟨rfl,_⟩;cases d<;>first|exact aE|skip
    cases s<;>first|exact aE|skip
    rename_i elem _ base lI oo;show Rel P f (V f) _ (match val f (.slice base lI oo) with|.slice base lI oo=>_|_=>_);rw[bE];refine ai (dN _) ?_;rintro size _ rfl;cases ts[1]? with
    |none=>exact Af hf .nilDeref _ .zeroSizeEq (fun _=>.nilDeref) rfl rfl (fun _=>rfl) _ elem base lI oo size x false
    |some xt =>
     refine ai (bj xt) ?_;rintro d _ ⟨rfl,_⟩;refine ai (A:=Eq) (aC rfl) ?_;rintro z _ rfl;exact Af hf _ _ _ _ rfl rfl (fun _=>rfl) _ elem base lI oo size x z
theorem Rr(x y:Value):Rel P f (V f) (Builtin.min2 x y) (Builtin.min2 (val f x) (val f y)):=by
 cases x
 case int =>
  cases y<;>simp only[cI,cP,b6,bF,bL,bh,bE,cT,cD,cE,bI,bX,bu,cQ,bY]<;>first|exact aE|exact aC (by simp[V])|skip
  rename_i a;cases a<;>first|exact aE|exact aY
 case float =>
  cases y<;>simp only[cI,cP,b6,bF,bL,bh,bE,cT,cD,cE,bI,bX,bu,cQ,bY]<;>first|exact aE|skip
  ·refine pW ?_;unfold Builtin.min2;rename_i k a k' b;dsimp only;generalize k.format.order a b=o;rcases o with _|(_|_|_)
   ·exact fun n g=>aj
   all_goals exact fun g=>aj
  ·rename_i a;cases a<;>first|exact aE|exact aY
 case string =>
  cases y<;>simp only[cI,cP,b6,bF,bL,bh,bE,cT,cD,cE,bI,bX,bu,cQ,bY]<;>first|exact aE|skip
  ·refine ai (xD _ _ _) ?_;rintro v _ rfl;refine ai (BD v) ?_;rintro b _ rfl;exact aC (by simp[V])
  ·rename_i a;cases a<;>first|exact aE|exact aY
 case pointer a =>
  rw[bh];cases a with
  |none =>
   cases y<;>first|exact aE|skip
   rename_i b;cases b<;>first|exact aE|exact aY
  |some a=>cases y<;>exact aY
 all_goals
  cases y<;>first|exact aE|skip
  rename_i b;cases b<;>first|exact aE|exact aY
theorem Vm(ts:Array TypeId)(t:TypeId)(args:Array Value):Rel P f (V f) (Builtin.min_ ts t args) (Builtin.min_ ts t (args.map (val f))):=by
 unfold Builtin.min_;rw[cw];cases args.toList with
 |nil=>exact aE
 |cons x l =>
  simp only[aA]
  induction l generalizing x with
  |nil=>exact aC rfl
  |cons y l ih =>
   simp only[aA,List.foldlM_cons];refine ai (Rr x y) ?_;rintro z _ rfl;exact ih z
theorem D3:∀(n:Nat) (a:Addr) (acc:af),Rel P f Eq (loadBytes a acc n) (loadBytes (addr f a) acc n):=by
 intro n
 induction n with
 |zero=>intro a acc;exact aC rfl
 |succ n ih =>
  intro a acc;unfold loadBytes;refine ai (xr a) ?_;rintro v _ rfl;cases v<;>simp only[cI,cP,b6,bF,bL,bh,bE,cT,cD,cE,bI,bX,bu,cQ,bY]<;>first|exact aE|skip
  rename_i k b;cases k<;>first|exact aE|skip
  rw[<- kE];exact ih _ _
theorem vz(ts:Array TypeId)(t:TypeId)(x:Value):Rel P f (V f) (Builtin.unsafeSliceData_ ts t #[x]) (Builtin.unsafeSliceData_ ts t #[val f x]):=by
 cases x<;>first|exact aE|skip
 rename_i a len c;rw[bE];cases a with
 |none=>exact aC (by simp[V])
 |some a =>
  show Rel P f (V f) (if c≠0 then _ else _) (if c≠0 then _ else _);refine lA cZ (fun _=>aC (by simp[V])) (fun _=>?_);refine ai (sD a.block) ?_;rintro v _ rfl;refine lA aj (fun _=>aC (by simp[V])) (fun _=>?_);refine ai (wB t) ?_;rintro e _ rfl;refine ai (A:=fun r r'=>r'=f.b r) (lZ rfl rfl) ?_;rintro r _ rfl;exact aC (by simp[V])
theorem zd(hf:nE P f)(ts:Array TypeId)(t:TypeId)(x y:Value):Rel P f (V f) (Builtin.unsafeString_ ts t #[x,y]) (Builtin.unsafeString_ ts t #[val f x,val f y]):=by
 cases x<;>first|exact aE|skip
 rename_i a;rw[bh];refine ai (nF y) ?_;rintro n _ rfl;cases ts[0]? with
 |none=>exact aE
 |some pt =>
  refine fj (bZ hf _) ?_;refine fj aY ?_;cases a with
  |none=>exact lA cZ (fun _=>aC (by simp[V])) (fun _=>bZ hf _)
  |some a =>
   refine lA cZ (fun _=>aC (by simp[V])) (fun _=>?_);refine ai (wB pt) ?_;rintro e _ rfl;refine ai (te a e _) ?_;rintro b _ rfl;cases b
   ·exact aY
   ·refine ai (D3 _ a _) ?_;rintro s _ rfl;refine ai (BB a _) ?_;rintro _ _ _;exact aC (by simp[V])
end
def jh(L:Nat->Bool)(f:Rn):Next->Next->Prop
 | .value v,.value v'=>v'=val f v
 | .skip,.skip=>True
 | .enter g args,.enter g' XD=>g'=g/\L g=true/\XD=args.map (val f)
 |_,_=>False
def ze(c:Call):Builtin->Bool
 | .append|.cap|.clear|.copy|.delete|.len|.min=>true
 | .unsafeString=>c.args.size==2
 | .unsafeSliceData=>c.args.size==1
 |_=>false
def La(c:Call):Bool :=
 match c.callee with
 | .builtin b=>ze c b
 | .value _=>true
 | .invoke ..=>false
def tw(L:Nat->Bool):Op->Bool
 | .move _|.assign _|.pick .. | .alloc _|.box .. | .build .. | .buildSlice .. | .load .. | .store .. | .nilCheck _|.binOp .. | .unOp .. | .convert .. | .makeInterface .. | .makeMap .. | .makeChan .. | .makeSlice .. | .slice .. | .fieldAddr .. | .field .. | .indexAddr .. | .index .. | .lookup .. | .mapUpdate .. | .insert .. | .extract .. | .panic ..=>true
 | .makeFunc (.func n) _ _=>L n
 | .call c=>La c
 |_=>false
section
variable {P:Program} {f:Rn}
theorem tR{s s':Sem Unit}(h:Rel P f (fun _ _=>True) s s'):Rel P f (V f) (do s;pure (.tuple #[])) (do s';pure (.tuple #[])):=ai h (fun _ _ _=>aC (by simp[V]))
theorem Lc(hf:nE P f)(ts:Array TypeId)(t:TypeId)(args:Array Value):Rel P f (V f) (Builtin.delete_ ts t args) (Builtin.delete_ ts t (args.map (val f))):=by
 unfold Builtin.delete_;simp only[aK];cases h0:ts[0]? with
 |none=>exact aE
 |some mt =>
  cases h1:args[0]? with
  |none=>exact aE
  |some m =>
   cases h2:args[1]? with
   |none=>exact aE
   |some k =>
    simp only[aJ];refine ai (bj mt) ?_;rintro d _ ⟨rfl,_⟩;cases d<;>first|exact aE|skip
    cases m<;>first|exact aE|skip
    rename_i r;rw[cT];cases r with
    |none=>exact tR (HA (pB hf _ _ _ _) (fun _ _ _=>trivial))
    |some r =>
     refine ai (jr r) ?_;rintro o _ rfl;cases o<;>first|exact aE|skip
     rename_i es clock;simp only[obj];rw[show(Array.map (entry f) es).isEmpty=es.isEmpty by simp[Array.isEmpty]];refine ai (pB hf _ _ _ _) ?_;rintro _ _ rfl;rw[cw];refine ai (tP hf _ k es.toList) ?_;rintro x _ rfl;cases x with
     |some y =>
      obtain⟨i,w⟩:=y;dsimp only[Option.map_some];refine tR (p9 r ?_ rfl);simp only[obj]
      congr 1
      unfold Array.eraseIdxIfInBounds;simp only[Array.size_map];split
      ·rename_i hi;apply Array.ext';simp only[Array.toList_eraseIdx,Array.toList_map];clear hi;generalize es.toList=l
       induction l generalizing i with
       |nil=>rfl
       |cons x l ih=>cases i with
        |zero=>rfl
        |succ i=>simp only[aA,List.eraseIdx_cons_succ,ih]
      ·rfl
     |none =>
      refine tR (p9 r ?_ rfl);rfl
theorem OR(hf:nE P f)(ts:Array TypeId)(t:TypeId)(args:Array Value):Rel P f (V f) (Builtin.clear_ ts t args) (Builtin.clear_ ts t (args.map (val f))):=by
 unfold Builtin.clear_;simp only[aK];cases h0:ts[0]? with
 |none=>exact aE
 |some mt =>
  cases h1:args[0]? with
  |none=>exact aE
  |some m =>
   simp only[aJ];refine ai (bj mt) ?_;rintro d _ ⟨rfl,_⟩;cases m<;>first|(cases d<;>exact aE)|skip
   ·rename_i a n c;rw[bE];cases a with
    |none=>cases d<;>exact aC (by simp[V])
    |some a =>
     cases n with
     |zero=>cases d<;>exact aC (by simp[V])
     |succ n =>
      cases d<;>first|exact aE|skip
      simp only[aJ];refine ai (iG hf _) ?_;rintro z _ ⟨rfl,hz⟩;have:=kV (P:=P) (f:=f) a (Builtin.zeroCells z.cells (n+1)).toList 0;rw[<- cw,rB (by rw[<- kG,hz])] at this;exact tR this
   ·rename_i r;rw[cT];cases r with
    |none=>cases d<;>exact aC (by simp[V])
    |some r =>
     cases d;all_goals
      refine ai (jr r) ?_;rintro o _ rfl;cases o<;>first|exact aE|skip
      exact tR (p9 r (by simp[obj]) rfl)
end
section
variable {P:Program} {f:Rn} {L:Nat->Bool} {ρ ρ':Operand->Value}
theorem iK{s s':Sem Value}(h:Rel P f (V f) s s'):Rel P f (jh L f) (do pure (.value (<- s))) (do pure (.value (<- s'))):=ai h (by rintro v _ rfl;exact aC rfl)
theorem Rs{s s':Sem Unit}(h:Rel P f (fun _ _=>True) s s'):Rel P f (jh L f) (do s;pure .skip) (do s';pure .skip):=ai h (fun _ _ _=>aC trivial)
theorem BQ(hf:nE P f)(hL:∀n,L n=true->f.h n=n)(hC:∀n,L n=true->∀args,Rel P f (jh L f) (callFunc n args) (callFunc n (args.map (val f))))(o:Oper)(je:tw L o.op=true)(pC:∀x∈o.op.operands,ρ' x=val f (ρ x))(qC:∀x∈o.op.operands,∀g a b,ρ x=.func g a b->∃n,g=.func n/\L n=true):
  Rel P f (jh L f) (execOp ρ o) (execOp ρ' o):=by
 obtain⟨dst,op,ty,pos,after,guard⟩:=o;cases op<;>first|exact Bool.noConfusion je|skip
 all_goals simp only[Op.operands,Array.mem_append,List.mem_toArray,bJ,dh,or_false,Option.mem_toArray,forall_eq_or_imp,forall_eq] at pC qC
 case move x=>simp only[execOp];exact aC (by simp only[jh];exact pC)
 case assign x=>simp only[execOp];exact aC (by simp only[jh];exact pC)
 case pick c a b =>
  simp only[execOp,pC.1,pC.2.1,pC.2.2];refine ai (BD _) ?_;rintro t _ rfl;exact aC (by simp only[jh];split<;>rfl)
 case alloc e=>exact iK (OH hf e)
 case box e x=>simp only[execOp,pC];exact iK (Vj e _)
 case load t a=>simp only[execOp,pC];exact iK (K3 t _)
 case store t a x=>simp only[execOp,pC.1,pC.2];exact Rs (HK t _ _)
 case binOp op t x y g =>
  simp only[execOp,pC.1,pC.2];refine iK ?_;exact xu (HT _ _ _ _ _ _) (OQ hf _ _ _ _)
 case unOp op t x=>simp only[execOp,pC];exact iK (OO _ _)
 case convert s d x=>simp only[execOp,pC];exact iK (H2 hf _ _ _)
 case makeInterface t x=>simp only[execOp,pC];exact iK (xA _ _)
 case makeChan t x=>simp only[execOp,pC];exact iK (FY hf _ _)
 case makeSlice t l c=>simp only[execOp,pC.1,pC.2];exact iK (DY hf _ _ _)
 case fieldAddr s x i=>simp only[execOp,pC];exact iK (HL _ _ _)
 case field s x i=>simp only[execOp,pC];exact iK (OL _ _ _)
 case indexAddr t x i=>simp only[execOp,pC.1,pC.2];exact iK (HM hf _ _ _)
 case index t x i=>simp only[execOp,pC.1,pC.2];exact iK (OM hf _ _ _)
 case lookup t x i ok=>simp only[execOp,pC.1,pC.2];exact iK (K8 hf _ _ _ _)
 case mapUpdate t m k v=>simp only[execOp,pC.1,pC.2.1,pC.2.2];exact Rs (vQ hf _ _ _ _)
 case insert t m k v=>simp only[execOp,pC.1,pC.2.1,pC.2.2];exact Rs (vQ hf _ _ _ _)
 case extract t i=>simp only[execOp,pC];exact iK (HQ _ _)
 case panic x=>simp only[execOp,pC];exact iK (ON hf _)
 case makeMap t r =>
  simp only[execOp];refine iK ?_;have e:r.map ρ'=(r.map ρ).map (val f):=by
   cases r with
   |none=>rfl
   |some x=>simp at pC |-;exact pC
  rw[e];exact HO _ _
 case build t ps =>
  simp only[execOp];refine iK ?_;have e:(ps.map fun x=>(x.1,ρ' x.2))=(ps.map fun x=>(x.1,ρ x.2)).map fun x=>(x.1,val f x.2):=by
   rw[iy];apply ek;intro x hx;simp only[Function.comp,pC x.2 (List.mem_map.2 ⟨x,by simpa using hx,rfl⟩)]
  rw[e];exact OI hf _ _
 case buildSlice t n ps =>
  simp only[execOp];refine iK ?_;have e:(ps.map fun x=>(x.1,ρ' x.2))=(ps.map fun x=>(x.1,ρ x.2)).map fun x=>(x.1,val f x.2):=by
   rw[iy];apply ek;intro x hx;simp only[Function.comp,pC x.2 (List.mem_map.2 ⟨x,by simpa using hx,rfl⟩)]
  rw[e];exact BF hf _ _ _
 case slice t x lo hi mx =>
  simp only[execOp];refine iK ?_;have e:∀r:Option Operand,(∀y,y∈r->ρ' y=val f (ρ y))->r.map ρ'=(r.map ρ).map (val f):=by
   intro r h;cases r with
   |none=>rfl
   |some x=>simp[h x rfl]
  rw[e lo (fun y hy=>pC y (.inl (.inl (.inr hy)))),e hi (fun y hy=>pC y (.inl (.inr hy))),e mx (fun y hy=>pC y (.inr hy)),pC x (.inl (.inl (.inl rfl)))];exact HN hf _ _ _ _ _
 case nilCheck x =>
  simp only[execOp];rw[pC];cases hx:ρ x<;>simp only[cI,cP,b6,bF,bL,bh,bE,cT,cD,cE,bI,bX,bu,cQ,bY]
  case pointer a =>
   cases a
   ·exact bZ hf _
   ·exact aC (by simp[jh])
  case func g a b =>
   obtain⟨n,rfl,hn⟩:=qC g a b hx;exact aC (by simp[jh])
  case nilIface=>exact bZ hf _
  case nilFunc=>exact bZ hf _
  all_goals exact aC (by simp[jh])
 case makeFunc g first captured =>
  cases g<;>first|exact Bool.noConfusion je|skip
  rename_i n;have hn:L n=true:=je;simp only[execOp];refine iK ?_;have e:∀r:Array Operand,(∀y,y∈r->ρ' y=val f (ρ y))->r.map ρ'=(r.map ρ).map (val f):=by
   intro r h;rw[iy];apply ek;intro y hy;exact h y hy
  rw[e first (fun y hy=>pC y (by simp[hy])),e captured (fun y hy=>pC y (by simp[hy]))];exact aC (by simp[V,tG,hL n hn])
 case call c =>
  have e:∀r:Array Operand,(∀y,y∈r->ρ' y=val f (ρ y))->r.map ρ'=(r.map ρ).map (val f):=by
   intro r h;rw[iy];apply ek;intro y hy;exact h y hy
  obtain⟨callee,args,tys⟩:=c;simp only[Call.operands] at pC qC;simp only[execOp,resolve];cases callee with
  |invoke r m=>exact Bool.noConfusion je
  |builtin b =>
   have ea:=e args (fun y hy=>pC y (by simpa using hy));have h:∀s s':Sem Value,Rel P f (V f) s s'->Rel P f (jh L f) (do pure (.value (<- s))) (do pure (.value (<- s'))):=fun _ _ h=>iK h;show Rel P f (jh L f) (builtin b tys ty _ (args.map ρ)) (builtin b tys ty _ (args.map ρ'));rw[ea];cases b<;>first|exact Bool.noConfusion je|skip
   ·exact iK (K9 hf _ _ _)
   ·exact iK (Vl _ _ _)
   ·exact iK (OR hf _ _ _)
   ·exact iK (Rq _ _ _)
   ·exact iK (Lc hf _ _ _)
   ·exact iK (Vk _ _ _)
   ·exact iK (Vm _ _ _)
   ·have fE:args.size=1:=by simpa[tw,La,ze] using je
    obtain⟨x,hx⟩:∃x,args.map ρ=#[x]:=by
     match args,fE with
     | ⟨[x]⟩,_=>exact⟨ρ x,aj⟩
    rw[hx];have:=vz (P:=P) (f:=f) tys ty x;exact iK (by simpa using this)
   ·have fE:args.size=2:=by simpa[tw,La,ze] using je
    obtain⟨x,y,XC⟩:∃x y,args.map ρ=#[x,y]:=by
     match args,fE with
     | ⟨[x,y]⟩,_=>exact⟨ρ x,ρ y,aj⟩
    rw[XC];have:=zd (P:=P) hf tys ty x y;exact iK (by simpa using this)
  |value x =>
   have ea:=e args (fun y hy=>pC y (by simp[hy]));have ex:=pC x aj;show Rel P f (jh L f) (Deferred.ofValue (ρ x) (args.map ρ)>>=fun d=>invoke d.target d.args) (Deferred.ofValue (ρ' x) (args.map ρ')>>=fun d=>invoke d.target d.args);rw[ea,ex];cases hx:ρ x<;>simp only[cI,cP,b6,bF,bL,bh,bE,cT,cD,cE,bI,bX,bu,cQ,bY]<;>first|exact aE|skip
   ·rename_i g a b;obtain⟨n,rfl,hn⟩:=qC x aj g a b hx;show Rel P f (jh L f) (callFunc n ((a++args.map ρ)++b)) (callFunc (f.h n) ((a.map (val f)++(args.map ρ).map (val f))++b.map (val f)));rw[hL n hn,<- gi,<- gi];exact hC n hn _
   ·show Rel P f (jh L f) (runtimePanic .nilDeref) (runtimePanic .nilDeref);exact bZ hf _
end
def wE:Value->Bool
 | .bool _|.int .. | .float .. | .complex .. | .string _|.pointer none|.slice none _ _|.map none|.chan none|.nilFunc|.nilIface=>true
 |_=>false
def BR:Value->Bool
 | .agg cs=>cs.all wE
 | .tuple vs=>vs.all wE
 | .iface _ v=>wE v
 |v=>wE v
theorem wF{v:Value}(h:wE v=true)(f:Rn):val f v=v:=by
 cases v<;>first|exact Bool.noConfusion h|skip
 case slice a _ _=>cases a<;>first|exact Bool.noConfusion h|simp
 case pointer a=>cases a<;>first|exact Bool.noConfusion h|simp
 case map a=>cases a<;>first|exact Bool.noConfusion h|simp
 case chan a=>cases a<;>first|exact Bool.noConfusion h|simp
 all_goals simp
theorem wG{v:Value}(h:BR v=true)(f:Rn):val f v=v:=by
 have arr:∀cs:Array Value,cs.all wE=true->cs.map (val f)=cs:=by
  intro cs hc;rw[im] at hc;apply jf
  ·simp
  ·intro i h1 h2;simp only[Array.getElem_map];exact wF (hc i h2) f
 cases v
 case iface t v=>rw[bX,wF (show wE v=true from h) f]
 case agg cs=>rw[cQ,arr _ h]
 case tuple cs=>rw[bY,arr _ h]
 all_goals (refine wF ?_ f;exact h)
def uU(G:Nat)(L:Nat->Bool):Operand->Bool
 | .tmp _=>true
 | .const v=>BR v
 | .global g=>decide (g<G)
 | .func n=>L n
def tS(G:Nat)(L:Nat->Bool)(o:Oper):Bool:=tw L o.op&&o.op.operands.all (uU G L)
def kJ(G:Nat)(L:Nat->Bool):Code->Bool
 | .skip|.label _|.exit _|.goto _|.ret|.refuse _=>true
 | .region _ ops _=>ops.all (tS G L)
 | .seq a b=>kJ G L a&&kJ G L b
 | .cond c a b=>uU G L c&&kJ G L a&&kJ G L b
 | .block _ c|.loop c|.scope c=>kJ G L c
 | .rangeFunc ..=>false
def nH(G:Nat)(L:Nat->Bool):Item->Bool
 | .code c|.inLoop c|.inScope c=>kJ G L c
 | .inBlock _=>true
 | .inRegion ops _=>ops.all (tS G L)
 |_=>false
structure vA(G:Nat)(L:Nat->Bool)(fr:Frame):Prop where
 defers:fr.defers=[]
 round:fr.roundOf=none
 kind:fr.kind=.normal
 fn:L fr.fn=true
 todo:∀i∈fr.todo,nH G L i=true
 mode:fr.mode=.run\/fr.mode=.returning
def frame(f:Rn)(fr:Frame):Frame:={fr with tmps:=fr.tmps.map (val f)}
section
variable {G:Nat} {L:Nat->Bool}
theorem OS{id:Nat}:∀{k k':List Item},exitTo id k=some k'->∀i∈k',i∈k:=by
 intro k
 induction k with
 |nil=>intro k' h;cases h
 |cons x k ih =>
  intro k' h i hi;cases x<;>simp only[exitTo] at h
  case inBlock j =>
   split at h
   ·cases h;exact bD _ hi
   ·exact bD _ (ih h i hi)
  all_goals exact bD _ (ih h i hi)
theorem Gd:∀{c c':Code} {l:Nat},findLabel c l=some c'->kJ G L c=true->kJ G L c'=true:=by
 intro c
 induction c with
 |seq a b iha ihb =>
  intro c' l h je;simp only[kJ,a8] at je;simp only[findLabel] at h;split at h
  ·rename_i r hr;cases h;simp only[kJ,a8];exact⟨iha hr je.1,je.2⟩
  ·exact ihb h je.2
 |label m =>
  intro c' l h je;simp only[findLabel] at h;split at h
  ·cases h;rfl
  ·cases h
 |_=>intro c' l h je;simp only[findLabel] at h;cases h
theorem OT{l:Nat}:∀{k k':List Item},gotoIn l k=some k'->(∀i∈k,nH G L i=true)->∀i∈k',nH G L i=true:=by
 intro k
 induction k with
 |nil=>intro k' h;cases h
 |cons x k ih =>
  intro k' h je i hi;have hk:∀i∈k,nH G L i=true:=fun i hi=>je i (bD _ hi);cases x<;>simp only[gotoIn] at h
  case inScope body =>
   have hb:kJ G L body=true:=je (.inScope body) aj;split at h
   ·rename_i rest hr;cases h;simp only[bJ] at hi;rcases hi with rfl|rfl|hi
    ·exact Gd hr hb
    ·exact hb
    ·exact hk i hi
   ·exact ih h hk i hi
  all_goals exact ih h hk i hi
theorem BS(P:Program)(fn:FuncId)(es:Array Event):∀e∈seen P fn es,e∈es:=by
 have key:∀(g:Bool×Array Event->Event->Bool×Array Event),(∀st a,∀e∈(g st a).2,e∈st.2\/e=a)->∀(l:List Event) (st:Bool×Array Event),(∀e∈st.2,e∈es)->(∀e∈l,e∈es)->∀e∈(l.foldl g st).2,e∈es:=by
  intro g hg l
  induction l with
  |nil=>intro st h _ e he;exact h e he
  |cons a l ih =>
   intro st h hl e he;simp only[List.foldl_cons] at he;refine ih _ ?_ (fun e he=>hl e (bD _ he)) e he;intro e he;rcases hg st a e he with he|rfl
   ·exact h e he
   ·exact hl _ aj
 unfold seen;dsimp only;rw[<- js];refine key _ ?_ es.toList _ aj (fun e he=>by simpa using he);rintro⟨q,kept⟩ a e he;dsimp only at he;split at he
 ·exact .inl he
 ·dsimp only at he;split at he
  ·exact .inl he
  ·rcases Array.mem_push.1 he with he|rfl
   ·exact .inl he
   ·exact .inr rfl
end
structure PF(P:Program)(L:Nat->Bool)(Gm:Nat)(F:jE):Prop where
 low:∀r,r<Gm->F.K r/\F.φ r=r
 L:F.L=fun n=>L n=true
 G:F.G=P.globals.size
 AL:EH F
structure rL(P:Program)(L:Nat->Bool)(Gm:Nat):Prop where
 zero:∀t i z,P.info? t=some i->i.zero=some z->∀f:Rn,val f z=z
 call:∀n,L n=true->∀f,nE P f->(∀n,L n=true->f.h n=n)->∀args,Rel P f (jh L f) (callFunc n args) (callFunc n (args.map (val f)))
 body:∀n,L n=true->∃fn,P.funcs[n]?=some fn/\∀c,fn.body=some c->kJ Gm L c=true
section
variable {P:Program} {L:Nat->Bool} {Gm:Nat} {F:jE} {wl wr:ae} {f:Rn}
theorem PF.ok(h:PF P L Gm F)(hP:rL P L Gm)(hf:F.has f):nE P f :=
 ⟨hf.inj,by rw[<- h.G];exact hf.kp,fun t i z h1 h2=>hP.zero t i z h1 h2 f⟩
theorem PF.fn(h:PF P L Gm F)(hf:F.has f):∀n,L n=true->f.h n=n:=fun n hn=>hf.fn n (by rw[h.L];exact hn)
theorem PF.Nf{F':jE}{aV p6:ae}(h:PF P L Gm F)(m:fw F F' wl wr aV p6):PF P L Gm F' :=
 ⟨fun r hr=>⟨m.K r (h.low r hr).1,(m.φ r (h.low r hr).1).trans (h.low r hr).2⟩,m.L.trans h.L,m.G.trans h.G,m.AL h.AL⟩
theorem BT(h:PF P L Gm F)(hP:rL P L Gm)(hf:F.has f)(fr:Frame)(x:Operand)(hx:uU Gm L x=true):(frame f fr).eval x=val f (fr.eval x):=by
 cases x with
 |tmp t =>
  simp only[Frame.eval,frame,bR,aK];cases fr.tmps[t]? with
  |none=>simp[lz]
  |some v=>rfl
 |const v=>simp only[Frame.eval];exact(wG hx f).symm
 |global g =>
  have hg:g<Gm:=by simpa[uU] using hx
  simp only[Frame.eval,bh,aJ,U0];rw[hf.at_ g (h.low g hg).1,(h.low g hg).2]
 |func n =>
  simp only[Frame.eval,cE,tG];rw[PF.fn h hf n hx];simp
theorem H4(ops:Array Oper)(tmps:Array Value):yielded ops (tmps.map (val f))=yielded ops tmps:=by
 funext j;unfold yielded;cases hb:(ops[j]?).bind (·.dst) with
 |none=>rfl
 |some d =>
  simp only[Option.bind_some,aK];cases tmps[d]? with
  |none=>rfl
  |some v=>cases v<;>simp
theorem BU(W:WR F wl wr)(h:PF P L Gm F){v v':Value}(hv:∀f,F.has f->v'=val f v):∀g a b,v=.func g a b->∃n,g=.func n/\L n=true:=by
 intro g a b e;subst e;obtain⟨f1,f2,h1,h2,_,hh,ht,hm⟩:=W.two;have e:=(hv f1 h1).symm.trans (hv f2 h2);simp only[cE,Value.func.injEq] at e;cases g with
 |func n =>
  refine⟨n,rfl,?_⟩;refine aZ fun hn=>?_;refine hh n (by rw[h.L];exact hn) ?_;have:=e.1;simp only[tG,Fn.func.injEq] at this;exact this
 |method s=>exact absurd (by have:=e.1;simpa[tG] using this) (hm s)
 |methodOf t s=>exact absurd (by have:=e.1;simpa[tG] using this) (hm s)
 |via t p n q=>exact absurd (by have:=e.1;simpa[tG] using this) (ht t)
 |yield l=>exact absurd (by have:=e.1;simpa[tG] using this) (ht l)
theorem BV{G:Nat}(fr:Frame)(v:Value)(h:∀i∈fr.todo,nH G L i=true):(frame f fr).finish (val f v)=frame f (fr.finish v):=by
 cases ht:fr.todo with
 |nil=>simp[Frame.finish,frame,ht]
 |cons i k =>
  have hi:=h i (by simp[ht]);cases i<;>first|exact Bool.noConfusion hi|(simp[Frame.finish,frame,ht];done)|skip
  rename_i ops todo;cases todo with
  |nil=>simp[Frame.finish,frame,ht]
  |cons j rest =>
   simp only[Frame.finish,frame,ht];cases (ops[j]?).bind (·.dst) with
   |none=>rfl
   |some d=>simp[Array.map_setIfInBounds]
theorem zf{G:Nat}{fr:Frame}(h:vA G L fr)(v:Value):vA G L (fr.finish v):=by
 obtain⟨h1,h2,h3,h4,h5,h6⟩:=h;cases ht:fr.todo with
 |nil =>
  have e:fr.finish v=fr:=by simp[Frame.finish,ht]
  rw[e];exact⟨h1,h2,h3,h4,h5,h6⟩
 |cons i k =>
  have hi:=h5 i (by simp[ht]);have hk:∀i∈k,nH G L i=true:=fun i hi=>h5 i (by simp[ht,hi]);by_cases hr:∃ops j rest,i=.inRegion ops (j::rest)
  ·obtain⟨ops,j,rest,rfl⟩:=hr;refine⟨?_,?_,?_,?_,?_,?_⟩<;>simp only[Frame.finish,ht]
   ·exact h1
   ·exact h2
   ·exact h3
   ·exact h4
   ·intro x hx;simp only[bJ] at hx;rcases hx with rfl|hx
    ·exact hi
    ·exact hk x hx
   ·exact h6
  ·have e:fr.finish v=fr:=by
    cases i<;>first|exact Bool.noConfusion hi|(simp[Frame.finish,ht];done)|skip
    rename_i ops todo;cases todo with
    |nil=>simp[Frame.finish,ht]
    |cons j rest=>exact absurd ⟨_,_,_,rfl⟩ hr
   rw[e];exact⟨h1,h2,h3,h4,h5,h6⟩
end
def fI(w:ae):Prop:=∀(r:Nat) (o:Obj),w.heap[r]?=some o->fi o=false
def YV{α:Type}:Result α->Prop
 | .ok _ w=>fI w
 | .halt h _=>oY h=true\/∃v,h=.panic v
theorem vS{w:ae}(hw:fI w){a:Addr}{what:String}:oY (w.noCell a what)=true:=by
 unfold World.noCell;split
 ·rename_i c e hc;have:=hw _ _ hc;cases this
 ·rfl
 ·rfl
theorem BW{p:Program}{w:ae}(hw:fI w){a:Addr}{at_:Bool}{h:Halt}(hh:w.farLoad p a at_=.error h):oY h=true:=by
 unfold World.farLoad at hh;split at hh
 ·split at hh
  ·cases hh
  ·cases hh;rfl
 ·cases hh;exact vS hw
theorem AP{p:Program}{w:ae}(hw:fI w){a:Addr}{v:Value}{at_:Bool}{h:Halt}(hh:w.farStore p a v at_=.error h):oY h=true:=by
 unfold World.farStore at hh;split at hh
 ·split at hh
  ·cases hh
  ·cases hh;rfl
 ·cases hh;exact vS hw
theorem fI.modify{w:ae}(hw:fI w)(b:Nat)(g:Obj->Obj)(hg:∀o,fi (g o)=fi o):fI {w with heap:=w.heap.modify b g}:=by
 intro r o ho;simp only[getElem?_modify] at ho;split at ho
 ·cases hx:w.heap[r]? with
  |none=>rw[hx] at ho;cases ho
  |some x=>rw[hx] at ho;cases ho;rw[hg];exact hw r x hx
 ·exact hw r o ho
theorem fI.set{w:ae}(hw:fI w)(b:Nat)(x:Obj)(hx:fi x=false):fI {w with heap:=w.heap.setIfInBounds b x}:=by
 intro r o ho;by_cases hb:b<w.heap.size
 ·obtain⟨_,h1,h2⟩:=p7 w.heap b x hb;by_cases e:r=b
  ·subst e;simp only[h1] at ho;cases ho;exact hx
  ·simp only[h2 r e] at ho;exact hw r o ho
 ·rw[show w.heap.setIfInBounds b x=w.heap from Array.setIfInBounds_eq_of_size_le aa] at ho;exact hw r o ho
theorem fI.push{w:ae}(hw:fI w)(x:Obj)(hx:fi x=false):fI {w with heap:=w.heap.push x}:=by
 intro r o ho;simp only[Array.getElem?_push] at ho;split at ho
 ·cases ho;exact hx
 ·exact hw r o ho
theorem fI.heap{w w':ae}(hw:fI w)(h:w'.heap=w.heap):fI w':=fun r o ho=>hw r o (by rw[<- h];exact ho)
theorem Ge(w:ae)(hw:fI w)(a:Addr)(v:Value):fI (w.setCell a v):=by
 unfold World.setCell;exact fI.modify hw _ _ (fun o=>by cases o<;>rfl)
theorem sE{P:Program}{f:Rn}{α β:Type}{A:α->β->Prop}:∀(s:Sem α) (s':Sem β) (w:ae) (es:Array Event),Rel P f A s s'->fI w->YV (s.runT P w es).1:=by
 intro s
 induction s with
 |pure a=>intro s' w es h hw;exact hw
 |load m x k ih =>
  intro s' w es h hw;cases s'<;>simp only[Rel] at h;simp only[Sem.runT];split
  ·exact ih _ _ w _ (h.2.2 _) hw
  ·split
   ·exact ih _ _ w _ (h.2.2 _) hw
   ·rename_i hh;exact .inl (BW hw hh)
 |store m x v k ih =>
  intro s' w es h hw;cases s'<;>simp only[Rel] at h;by_cases cj:(∃c,v=.agg c)\/∃c,v=.tuple c
  ·rcases cj with⟨c,rfl⟩|⟨c,rfl⟩
   ·exact .inl rfl
   ·exact .inl rfl
  ·rw[iu (fun c e=>cj (.inl ⟨c,e⟩)) (fun c e=>cj (.inr ⟨c,e⟩))];split
   ·split
    ·exact .inl rfl
    ·exact ih _ _ _ h.2.2.2 (Ge w hw _ _)
   ·split
    ·rename_i w1 ts hfs;obtain⟨b,u,h1,h2⟩:=tK hfs;refine ih _ _ _ h.2.2.2 ?_;obtain⟨c,e,z,_,_,rfl,_⟩:=rA (f:=⟨fun x=>x,fun x=>x,fun x=>x,fun x=>x⟩) (wr:={w with heap:=w.heap.map (obj ⟨fun x=>x,fun x=>x,fun x=>x,fun x=>x⟩)}) (at':=b) (k':=x) aj rfl rfl rfl rfl h2;exact hw.set _ _ rfl
    ·rename_i hh;exact .inl (AP hw hh)
 |new o k ih =>
  intro s' w es h hw;cases s'<;>simp only[Rel] at h;exact ih _ _ _ _ (h.2.2 _) (hw.push _ h.2.1)
 |shape r k ih =>
  intro s' w es h hw;cases s'<;>simp only[Rel] at h;exact ih _ _ w _ (h.2 _) hw
 |freeze a n k ih =>
  intro s' w es h hw;cases s'<;>simp only[Rel] at h;refine ih _ _ _ h.2.2 ?_;by_cases hn:n=0
  ·subst hn;simpa[World.freeze] using hw
  ·rw[om _ _ _ hn];exact hw.modify _ _ (fun o=>Bz _ _ o)
 |frozen a k ih =>
  intro s' w es h hw;cases s'<;>simp only[Rel] at h;exact ih _ _ w _ (h.2 _) hw
 |getObj r k ih =>
  intro s' w es h hw;cases s'<;>simp only[Rel] at h;simp only[Sem.runT];split
  ·exact .inl rfl
  ·exact ih _ _ w _ (h.2 _) hw
  ·exact .inl rfl
 |setObj r o k ih =>
  intro s' w es h hw;cases s'<;>simp only[Rel] at h;simp only[Sem.runT];split
  ·exact .inl rfl
  ·exact ih _ _ _ h.2.2.2 (hw.set _ _ h.2.2.1)
  ·exact .inl rfl
 |choose q k ih =>
  intro s' w es h hw;cases s'<;>simp only[Rel] at h;simp only[Sem.runT];split
  ·exact ih _ _ w _ (h.2 _) hw
  ·exact ih _ _ _ _ (h.2 _) (fI.heap hw rfl)
 |sys c k ih =>
  intro s' w es h hw;cases s'<;>simp only[Rel] at h;simp only[Sem.runT];obtain⟨_,d,o,e2,_⟩:=HE c (wl:=w) (wr:=w) rfl rfl rfl;exact ih _ _ _ _ (h.2.2 _) (fI.heap hw (by rw[e2]))
 |program k ih =>
  intro s' w es h hw;cases s'<;>simp only[Rel] at h;exact ih _ _ w _ h hw
 |mark m k ih =>
  intro s' w es h hw;cases s'<;>simp only[Rel] at h;exact ih _ _ _ h.2.2 hw
 |halt hh =>
  intro s' w es h hw;cases hh with
  |panic v=>exact .inr ⟨v,rfl⟩
  |_=>exact .inl (by cases s'<;>exact h)
section
open Go.Conc (G)
section
variable {P:Program} {L:Nat->Bool} {Gm:Nat} {F:jE} {wl wr:ae} {f:Rn}
theorem Ld{α:Type}{g g':α->Sem Value}:∀(l:List α),(∀x∈l,Rel P f (V f) (g x) (g' x))->Rel P f (fun(a b:List Value)=>b=a.map (val f)) (l.mapM g) (l.mapM g'):=by
 intro l
 induction l with
 |nil=>intro _;simp only[List.mapM_nil];exact aC rfl
 |cons x l ih =>
  intro h;simp only[List.mapM_cons];refine ai (h x aj) ?_;rintro a _ rfl;refine ai (ih fun y hy=>h y (by simp[hy])) ?_;rintro b _ rfl;exact aC aj
theorem qT(hf:nE P f)(fn:Func)(tmps:Array Value):Rel P f (V f) (results fn tmps) (results fn (tmps.map (val f))):=by
 unfold results;have hg:∀t,(tmps.map (val f)).getD t undef=val f (tmps.getD t undef):=by
  intro t;simp only[bR,aK];cases tmps[t]? with
  |none=>simp[lz]
  |some v=>rfl
 refine ai (A:=VS f) ?_ ?_
 ·rw[ft,ft];refine Nc (Ld _ fun x _=>?_) ?_
  ·cases x with
   |tmp t=>simp only[hg];exact aC rfl
   |cell a t =>
    simp only[hg];refine ai (BE hf _) ?_;rintro x _ rfl;exact Ac t x
  ·rintro a _ rfl;simp[VS]
 ·rintro vs _ rfl;refine aC ?_;simp only[V];by_cases h:vs.size=1
  ·rw[dif_pos h,dif_pos (by simpa using h)];simp
  ·rw[dif_neg h,dif_neg (by simpa using h)];simp
def Out(P:Program)(L:Nat->Bool)(Gm:Nat)(m':Bool)(oq csr:List Frame)(F:jE)(wl wr:ae)(wJ:Frame)(abr:List Frame)(g':aX)(aV:ae):Prop :=
 ∃F' Ng YW Le Lg p6 lY,g'=G Ng (YW++oq)/\vA Gm L Ng/\(∀c∈YW,vA Gm L c) /\
  stepG P m' (G wJ (abr++csr)) wr=.go (G Le (Lg++csr)) p6 lY/\(∀f,F'.has f->Le=frame f Ng/\Lg=YW.map (frame f)) /\
  WR F' aV p6/\fw F F' wl wr aV p6/\(∀e∈lY,xo F' e)/\PF P L Gm F'/\(∀f,F'.has f->F.has f)/\fI aV
section
variable {fr:Frame} {cs:List Frame} {s:Sem Next} {w w':ae} {el:Array Event}
theorem ot{v:Value}(hk:fr.kind=.normal)(h:s.runT P w #[]=(.ok (.value v) w',el)):stepG.apply P true fr cs none s w=.go (G (fr.finish v) cs) w' (seen P fr.fn el):=by
 simp only[stepG.apply,if_true,h,hk,GStep.after,G,cq];rfl
theorem qd(hk:fr.kind=.normal)(h:s.runT P w #[]=(.ok .skip w',el)):stepG.apply P true fr cs none s w=.go (G (fr.finish undef) cs) w' (seen P fr.fn el):=by
 simp only[stepG.apply,if_true,h,hk,GStep.after,G,cq];rfl
theorem ov{g:FuncId}{args:Array Value}(hk:fr.kind=.normal)(ht:∃ops td k,fr.todo=.inRegion ops td::k)(h:s.runT P w #[]=(.ok (.enter g args) w',el)):stepG.apply P true fr cs none s w=.go (G (Frame.enter P g args .normal) (fr::cs)) w' (seen P fr.fn el):=by
 obtain⟨ops,td,k,ht⟩:=ht;simp only[stepG.apply,if_true,h,hk,GStep.after,G,ht,cq];rfl
theorem Lh{h:Halt}(hh:oY h=true)(hr:(s.runT P w #[]).1=.halt h w'){g':aX}{w2:ae}{es:Array Event}(hg:stepG.apply P true fr cs none s w=.go g' w2 es):False:=by
 rcases hx:s.runT P w #[] with⟨r,el⟩;rw[hx] at hr;subst hr;cases h<;>first|exact Bool.noConfusion hh|skip
 ·rename_i u;cases u<;>first|exact Bool.noConfusion hh|(simp only[stepG.apply,if_true,hx,GStep.after] at hg;cases hg)
 ·simp only[stepG.apply,if_true,hx,GStep.after] at hg;cases hg
theorem H5{v:Value}(hr:(s.runT P w #[]).1=.halt (.panic v) w'){g':aX}{w2:ae}{es:Array Event}(hg:stepG.apply P true fr cs none s w=.go g' w2 es):∃chain,g'.frame.mode=.panicking chain:=by
 rcases hx:s.runT P w #[] with⟨r,el⟩;rw[hx] at hr;subst hr;simp only[stepG.apply,if_true,hx,GStep.after] at hg;cases hg;simp only[Frame.raise];split<;>exact⟨_,rfl⟩
end
abbrev Fr(fn:FuncId)(tmps:Array Value)(todo:List Item)(mode:FrameMode):Frame:={fn,tmps,todo,defers:=[],mode,kind:=.normal,roundOf:=none}
theorem iz{m':Bool}{oq csr ab abr:List Frame}{fn:FuncId}{tmps tr:Array Value}{todo Nh:List Item}{mode H6:FrameMode}(hP:PF P L Gm F)(W:WR F wl wr)(vB:fI wl)(rM:∀c∈ab,vA Gm L c)(nI:∀f,F.has f->abr=ab.map (frame f))(vT:∀f,F.has f->tr=tmps.map (val f))(qC:L fn=true)(ht2:∀i∈Nh,nH Gm L i=true)(XE:H6=.run\/H6=.returning)(h3:stepG P m' (G (Fr fn tr todo mode) (abr++csr)) wr=.go (G (Fr fn tr Nh H6) (abr++csr)) wr #[]):
  Out P L Gm m' oq csr F wl wr (Fr fn tr todo mode) abr (G (Fr fn tmps Nh H6) (ab++oq)) wl :=
 ⟨F,Fr fn tmps Nh H6,ab,_,abr,wr,#[],rfl,⟨rfl,rfl,rfl,qC,ht2,XE⟩,rM,h3,fun f hf=>⟨by rw[vT f hf];rfl,nI f hf⟩,W,fw.refl _ _ _,aj,hP,fun _ h=>h,vB⟩
theorem tT(db:rL P L Gm){g:FuncId}(hg:L g=true)(args:Array Value):vA Gm L (Frame.enter P g args .normal):=by
 obtain⟨Ag,rS,fF⟩:=db.body g hg;refine⟨rfl,rfl,rfl,hg,?_,.inl rfl⟩;intro i hi;simp only[Frame.enter,rS,Option.bind_some,List.mem_singleton] at hi;subst hi;cases hb:Ag.body with
 |none=>rfl
 |some c=>exact fF c hb
theorem OU(g:FuncId)(args:Array Value):Frame.enter P g (args.map (val f)) .normal=frame f (Frame.enter P g args .normal):=by
 simp only[Frame.enter,frame,Array.map_append,Array.size_map,Array.map_replicate,lz]
theorem H7(db:rL P L Gm)(hP:PF P L Gm F)(W:WR F wl wr)(vB:fI wl){m m':Bool}{oq csr ab abr:List Frame}{fr wJ:Frame}(XF:vA Gm L fr)(rM:∀c∈ab,vA Gm L c)(hr:∀f,F.has f->wJ=frame f fr/\abr=ab.map (frame f)){g':aX}{aV:ae}{es:Array Event}(hgo:stepG P m (G fr (ab++oq)) wl=.go g' aV es)(cJ:g'.status=.running)(hdy:g'.dying=none)(jY:g'.frame.mode=.run\/g'.frame.mode=.returning)(Vn:ab≠[]\/fr.mode=.run):Out P L Gm m' oq csr F wl wr wJ abr g' aV:=by
 obtain⟨f0,kI⟩:=W.some;obtain⟨hd,rT,hk,qC,Ni,Gf⟩:=XF;obtain⟨fn,tmps,todo,defers,mode,kind,ro⟩:=fr;simp only at hd rT hk qC Ni Gf Vn;subst hd rT hk;obtain⟨tr,D4,vT⟩:∃tr,wJ=Fr fn tr todo mode/\∀f,F.has f->tr=tmps.map (val f):=by
  refine⟨tmps.map (val f0),(hr f0 kI).1,fun f hf=>?_⟩;have:=(hr f0 kI).1.symm.trans (hr f hf).1;simp only[frame,Frame.mk.injEq] at this;exact this.2.1
 subst D4;have nI:∀f,F.has f->abr=ab.map (frame f):=fun f hf=>(hr f hf).2;rcases Gf with Gf|Gf
 ·
  subst Gf;cases todo with
  |nil =>
   simp only[G,stepG,stepG.exec] at hgo;cases hgo;exact iz hP W vB rM nI vT qC Ni (.inr rfl) (by simp only[G,stepG,stepG.exec,if_true])
  |cons i k =>
   have hi:=Ni i aj;have lP:∀i∈k,nH Gm L i=true:=fun i hi=>Ni i (by simp[hi]);have two:∀{a b:Item},nH Gm L a=true->nH Gm L b=true->∀i∈a::b::k,nH Gm L i=true:=by
    intro a b ha hb i hi;simp only[bJ] at hi;rcases hi with rfl|rfl|hi
    ·exact ha
    ·exact hb
    ·exact lP i hi
   have one:∀{a:Item},nH Gm L a=true->∀i∈a::k,nH Gm L i=true:=by
    intro a ha i hi;simp only[bJ] at hi;rcases hi with rfl|hi
    ·exact ha
    ·exact lP i hi
   cases i<;>first|exact Bool.noConfusion hi|skip
   case inBlock id =>
    simp only[G,stepG,stepG.exec] at hgo;cases hgo;exact iz hP W vB rM nI vT qC lP (.inl rfl) (by simp only[G,stepG,stepG.exec,if_true])
   case inScope c =>
    simp only[G,stepG,stepG.exec] at hgo;cases hgo;exact iz hP W vB rM nI vT qC lP (.inl rfl) (by simp only[G,stepG,stepG.exec,if_true])
   case inLoop c =>
    simp only[G,stepG,stepG.exec] at hgo;cases hgo;exact iz hP W vB rM nI vT qC (two hi hi) (.inl rfl) (by simp only[G,stepG,stepG.exec,if_true])
   case code c =>
    have ma:kJ Gm L c=true:=hi;cases c<;>first|exact Bool.noConfusion hi|skip
    case skip =>
     simp only[G,stepG,stepG.exec] at hgo;cases hgo;exact iz hP W vB rM nI vT qC lP (.inl rfl) (by simp only[G,stepG,stepG.exec,if_true])
    case label l =>
     simp only[G,stepG,stepG.exec] at hgo;cases hgo;exact iz hP W vB rM nI vT qC lP (.inl rfl) (by simp only[G,stepG,stepG.exec,if_true])
    case ret =>
     simp only[G,stepG,stepG.exec] at hgo;cases hgo;exact iz hP W vB rM nI vT qC Ni (.inr rfl) (by simp only[G,stepG,stepG.exec,if_true])
    case seq a b =>
     simp only[kJ,a8] at ma;simp only[G,stepG,stepG.exec] at hgo;cases hgo;exact iz hP W vB rM nI vT qC (two ma.1 ma.2) (.inl rfl) (by simp only[G,stepG,stepG.exec,if_true])
    case block id c =>
     simp only[G,stepG,stepG.exec] at hgo;cases hgo;exact iz hP W vB rM nI vT qC (two hi rfl) (.inl rfl) (by simp only[G,stepG,stepG.exec,if_true])
    case loop c =>
     simp only[G,stepG,stepG.exec] at hgo;cases hgo;exact iz hP W vB rM nI vT qC (two hi hi) (.inl rfl) (by simp only[G,stepG,stepG.exec,if_true])
    case scope c =>
     simp only[G,stepG,stepG.exec] at hgo;cases hgo;exact iz hP W vB rM nI vT qC (two hi hi) (.inl rfl) (by simp only[G,stepG,stepG.exec,if_true])
    case refuse w =>
     simp only[G,stepG,stepG.exec] at hgo;cases hgo
    case cond c a b =>
     simp only[kJ,a8] at ma;have jg:=BT hP db kI (Fr fn tmps (.code (.cond c a b)::k) .run) c ma.1.1;rw[show frame f0 (Fr fn tmps (.code (.cond c a b)::k) .run)=Fr fn tr (.code (.cond c a b)::k) .run by rw[vT f0 kI];rfl] at jg;simp only[G,stepG,stepG.exec] at hgo;cases hb:Frame.eval (Fr fn tmps (.code (.cond c a b)::k) .run) c<;>simp only[hb] at hgo<;>first|cases hgo|skip
     rename_i t;rw[hb,cI] at jg;refine iz hP W vB rM nI vT qC (one (by cases t;exact ma.2;exact ma.1.2)) (.inl rfl) ?_;simp only[G,stepG,stepG.exec,jg]
    case exit id =>
     simp only[G,stepG,stepG.exec] at hgo;cases hx:exitTo id k with
     |none=>simp only[hx,Option.elim_none] at hgo;simp at hgo
     |some k2 =>
      simp only[hx,Option.elim_some] at hgo;cases hgo;refine iz hP W vB rM nI vT qC (fun i hi=>lP i (OS hx i hi)) (.inl rfl) ?_;simp only[G,stepG,stepG.exec,hx,Option.elim_some]
    case goto l =>
     simp only[G,stepG,stepG.exec] at hgo;cases hx:gotoIn l k with
     |none=>simp only[hx,Option.elim_none] at hgo;simp at hgo
     |some k2 =>
      simp only[hx,Option.elim_some] at hgo;cases hgo;refine iz hP W vB rM nI vT qC (OT hx lP) (.inl rfl) ?_;simp only[G,stepG,stepG.exec,hx,Option.elim_some]
    case region id ops draw =>
     cases draw
     ·simp only[G,stepG,stepG.exec] at hgo;simp only[Bool.not_false,if_true] at hgo;cases hgo;refine iz hP W vB rM nI vT qC (one hi) (.inl rfl) ?_;simp only[G,stepG,stepG.exec,Bool.not_false,if_true]
     ·simp only[G,stepG,stepG.exec,choose,Sem.run,Question.forced,Bool.not_true,aL,if_false] at hgo;cases hgo;refine⟨F,Fr fn tmps (.inRegion ops (Region.schedule (P.follows .mixedOrders) ops (Question.cut (.order fn id) (wl.tape wl.drawn (.order fn id))))::k) .run,ab,Fr fn tr (.inRegion ops (Region.schedule (P.follows .mixedOrders) ops (Question.cut (.order fn id) (wl.tape wl.drawn (.order fn id))))::k) .run,abr,{wr with drawn:=wr.drawn+1},#[],rfl,⟨rfl,rfl,rfl,qC,one hi,.inl rfl⟩,rM,?_,fun f hf=>⟨by rw[vT f hf];rfl,nI f hf⟩,W.env rfl rfl W.os W.output W.tape (by simp[W.drawn]),fw.env rfl rfl rfl rfl,aj,hP,fun _ h=>h,fI.heap vB rfl⟩;simp only[G,stepG,stepG.exec,choose,Sem.run,Question.forced,Bool.not_true,aL,if_false,W.tape,W.drawn]
   case inRegion ops todo =>
    cases todo with
    |nil =>
     simp only[G,stepG,stepG.exec] at hgo;cases hgo;exact iz hP W vB rM nI vT qC lP (.inl rfl) (by simp only[G,stepG,stepG.exec])
    |cons i rest =>
     have hy:yielded ops tr=yielded ops tmps:=by rw[vT f0 kI];exact H4 ops tmps
     have BY:∀(v v':Value) (F':jE),(∀f,F'.has f->F.has f)->(∀f,F'.has f->v'=val f v)->∀f,F'.has f->(Fr fn tr (.inRegion ops (i::rest)::k) .run).finish v'=frame f ((Fr fn tmps (.inRegion ops (i::rest)::k) .run).finish v):=by
      intro v v' F' h1 h2 f hf;rw[h2 f hf,vT f (h1 f hf)];exact BV (G:=Gm) (L:=L) (Fr fn tmps (.inRegion ops (i::rest)::k) .run) v Ni
     have YX:∀v,vA Gm L ((Fr fn tmps (.inRegion ops (i::rest)::k) .run).finish v):=fun v=>zf ⟨rfl,rfl,rfl,qC,Ni,.inl rfl⟩ v;by_cases hw:((ops[i]?).map (Region.wanted · (yielded ops tmps))).getD false=true
     ·obtain⟨o,ho⟩:∃o,ops[i]?=some o:=by
       cases ho:ops[i]? with
       |none=>rw[ho] at hw;cases hw
       |some o=>exact⟨o,rfl⟩
      have Nj:tS Gm L o=true:=by
       have iB:ops.all (tS Gm L)=true:=hi;rw[im] at iB;obtain⟨cy,he⟩:=Array.getElem?_eq_some_iff.1 ho;rw[<- he];exact iB i cy
      simp only[tS,a8,Array.all_eq_true'] at Nj;have hrel:∀f,F.has f->Rel P f (jh L f) (execOp (Fr fn tmps (.inRegion ops (i::rest)::k) .run).eval o) (execOp (Fr fn tr (.inRegion ops (i::rest)::k) .run).eval o):=by
       intro f hf;have jg:∀g,F.has g->∀x∈o.op.operands,(Fr fn tr (.inRegion ops (i::rest)::k) .run).eval x=val g ((Fr fn tmps (.inRegion ops (i::rest)::k) .run).eval x):=by
        intro g hg x hx;have:=BT hP db hg (Fr fn tmps (.inRegion ops (i::rest)::k) .run) x (Nj.2 x hx);rw[show frame g (Fr fn tmps (.inRegion ops (i::rest)::k) .run)=Fr fn tr (.inRegion ops (i::rest)::k) .run by rw[vT g hg];rfl] at this;exact this
       exact BQ (PF.ok hP db hf) (PF.fn hP hf) (fun n hn args=>db.call n hn f (PF.ok hP db hf) (PF.fn hP hf) args) o Nj.1 (jg f hf) (fun x hx=>BU W hP (fun g hg=>jg g hg x hx))
      have hC:=xq (fun f=>jh L f) _ _ F wl wr #[] #[] hrel W;have hN:=sE _ _ wl #[] (hrel f0 kI) vB;have hl:stepG P m (G (Fr fn tmps (.inRegion ops (i::rest)::k) .run) (ab++oq)) wl=stepG.apply P true (Fr fn tmps (.inRegion ops (i::rest)::k) .run) (ab++oq) none (execOp (Fr fn tmps (.inRegion ops (i::rest)::k) .run).eval o) wl:=by
       simp only[G,stepG,stepG.exec];refine(if_pos hw).trans ?_;simp only[stepG.oper,Frame.oper?,ho]
      have hrr:stepG P m' (G (Fr fn tr (.inRegion ops (i::rest)::k) .run) (abr++csr)) wr=stepG.apply P true (Fr fn tr (.inRegion ops (i::rest)::k) .run) (abr++csr) none (execOp (Fr fn tr (.inRegion ops (i::rest)::k) .run).eval o) wr:=by
       simp only[G,stepG,stepG.exec,hy];refine(if_pos hw).trans ?_;simp only[stepG.oper,Frame.oper?,ho]
      have H8:stepG.apply P true (Fr fn tmps (.inRegion ops (i::rest)::k) .run) (ab++oq) none (execOp (Fr fn tmps (.inRegion ops (i::rest)::k) .run).eval o) wl=.go g' aV es:=hl.symm.trans hgo;rcases hx:(execOp (Fr fn tmps (.inRegion ops (i::rest)::k) .run).eval o).runT P wl #[] with⟨r,el⟩;rw[hx] at hC hN;cases r with
      |halt h w1 =>
       exfalso;rcases hN with hN|⟨v,rfl⟩
       ·exact Lh hN (by rw[hx]) H8
       ·obtain⟨ch,vC⟩:=H5 (by rw[hx]) H8;rw[vC] at jY;rcases jY with h|h<;>cases h
      |ok n w1 =>
       obtain⟨F',b,ow,YY,c1,c2,c3,c4,c5,c6⟩:=hC;obtain⟨g0,YZ⟩:=c3.some;have KI:=c2 g0 YZ;have Li:∀e∈seen P fn YY,xo F' e:=by
        intro e he;obtain⟨new,rfl,zh⟩:=c5;have:=BS P fn _ e he;exact zh e (by simpa using this)
       cases n<;>cases b<;>simp only[jh] at KI
       ·rename_i v v';rw[ot rfl hx] at H8;cases H8;exact⟨F',_,ab,_,abr,ow,_,rfl,YX v,rM,hrr.trans (ot rfl c1),fun f hf=>⟨BY v v' F' c6 (fun f hf=>c2 f hf) f hf,nI f (c6 f hf)⟩,c3,c4,Li,hP.Nf c4,c6,hN⟩
       ·rw[qd rfl hx] at H8;cases H8;exact⟨F',_,ab,_,abr,ow,_,rfl,YX undef,rM,hrr.trans (qd rfl c1),fun f hf=>⟨BY undef undef F' c6 (fun f _=>(lz f).symm) f hf,nI f (c6 f hf)⟩,c3,c4,Li,hP.Nf c4,c6,hN⟩
       ·rename_i gg args gg' XD;obtain⟨rfl,hLg,_⟩:=KI;rw[ov rfl ⟨_,_,_,rfl⟩ hx] at H8;cases H8;refine⟨F',_,Fr fn tmps (.inRegion ops (i::rest)::k) .run::ab,_,Fr fn tr (.inRegion ops (i::rest)::k) .run::abr,ow,_,rfl,tT db hLg args,?_,hrr.trans (ov rfl ⟨_,_,_,rfl⟩ c1),fun f hf=>⟨?_,?_⟩,c3,c4,Li,hP.Nf c4,c6,hN⟩
        ·intro c hc;simp only[bJ] at hc;rcases hc with rfl|hc
         ·exact⟨rfl,rfl,rfl,qC,Ni,.inl rfl⟩
         ·exact rM c hc
        ·have:=c2 f hf;simp only[jh] at this;rw[this.2.2,OU]
        ·rw[aA,nI f (c6 f hf),vT f (c6 f hf)];rfl
     ·simp only[G,stepG,stepG.exec,hw] at hgo;simp only[aL,if_false] at hgo;cases hgo;refine⟨F,_,ab,(Fr fn tr (.inRegion ops (i::rest)::k) .run).finish undef,abr,wr,#[],rfl,YX _,rM,?_,fun f hf=>⟨BY undef undef F (fun _ h=>h) (fun f _=>(lz f).symm) f hf,nI f hf⟩,W,fw.refl _ _ _,aj,hP,fun _ h=>h,vB⟩;simp only[G,stepG,stepG.exec,hy,hw,aL,if_false]
 ·
  subst Gf;have dH:ab≠[]:=Vn.elim id (fun h=>by cases h);cases ab with
  |nil=>exact absurd rfl dH
  |cons c ab2 =>
   obtain⟨Vo,cr,rfl⟩:∃Vo cr,abr=cr::Vo:=by
    rw[nI f0 kI];exact⟨_,_,rfl⟩
   have Vg:∀f,F.has f->cr=frame f c/\Vo=ab2.map (frame f):=by
    intro f hf;have:=nI f hf;simp only[aA,cv] at this;exact this
   obtain⟨Ag,rS,_⟩:=db.body fn qC;have hrel:∀f,F.has f->Rel P f (V f) (results Ag tmps) (results Ag tr):=by
    intro f hf;rw[vT f hf];exact qT (PF.ok hP db hf) Ag tmps
   have hC:=xq (fun f=>V f) _ _ F wl wr #[] #[] hrel W;have hN:=sE _ _ wl #[] (hrel f0 kI) vB;rcases hx:(results Ag tmps).runT P wl #[] with⟨r,el⟩;rw[hx] at hC hN;simp only[G,stepG,unwind,rS,hx,List.cons_append] at hgo;cases r with
   |halt h w1 =>
    exfalso;cases h<;>simp only[GStep.after] at hgo<;>cases hgo
   |ok v w1 =>
    obtain⟨F',v',ow,YY,c1,c2,c3,c4,c5,c6⟩:=hC;have Li:∀e∈seen P fn YY,xo F' e:=by
     intro e he;obtain⟨new,rfl,zh⟩:=c5;have:=BS P fn _ e he;exact zh e (by simpa using this)
    simp only[GStep.after,doReturn] at hgo;cases hgo;have abX:=rM c aj;refine⟨F',c.finish v,ab2,cr.finish v',Vo,ow,seen P fn YY,rfl,zf abX v,fun x hx=>rM x (by simp[hx]),?_,fun f hf=>⟨?_,(Vg f (c6 f hf)).2⟩,c3,c4,Li,hP.Nf c4,c6,hN⟩
    ·simp only[G,stepG,unwind,rS,c1,List.cons_append,GStep.after,doReturn,cq]
    ·rw[(Vg f (c6 f hf)).1,c2 f hf];exact BV (G:=Gm) (L:=L) c v abX.todo
end
end
abbrev Tape:=Nat->Question->Nat
def WT(w:ae)(τ:Tape)(d:Nat):ae:={w with tape:=τ,drawn:=d}
def gd(w:ae)(c:Nat)(τ:Tape)(d:Nat):Prop:=∀j,j<c->∀q,τ (d+j) q=w.tape (w.drawn+j) q
theorem gd.le{w:ae}{c c':Nat}{τ:Tape}{d:Nat}(h:gd w c τ d)(hc:c'<=c):gd w c' τ d:=fun j hj q=>h j aa q
theorem gd.tail{w w':ae}{c c':Nat}{τ:Tape}{d:Nat}(h:gd w (c+c') τ d)(ht:w'.tape=w.tape)(hd:w'.drawn=w.drawn+c):gd w' c' τ (d+c):=by
 intro j hj q;rw[ht,hd,dM,dM];exact h (c+j) aa q
def Y0{α:Type}(τ:Tape)(d:Nat):Result α->Result α
 | .ok a w=>.ok a (WT w τ d)
 | .halt h w=>.halt h (WT w τ d)
def BZ{α:Type}:Result α->ae
 | .ok _ w=>w
 | .halt _ w=>w
def B0{α:Type}(P:Program)(s:Sem α)(w:ae)(es:Array Event)(c:Nat):Prop :=
 (BZ (s.runT P w es).1).tape=w.tape/\(BZ (s.runT P w es).1).drawn=w.drawn+c /\
 ∀τ d,gd w c τ d->s.runT P (WT w τ d) es=(Y0 τ (d+c) (s.runT P w es).1,(s.runT P w es).2)
theorem Nk(w:ae):w.sys .env=(.strings w.os.env,w):=rfl
theorem B1{α:Type}{P:Program}{s:Sem α}{w:ae}{es:Array Event}{s₁:Sem α}{w₁:ae}{es₁:Array Event}{c₀ c:Nat}(h:s.runT P w es=s₁.runT P w₁ es₁)(ht:w₁.tape=w.tape)(hd:w₁.drawn=w.drawn+c₀)(hw:∀τ d,gd w c₀ τ d->s.runT P (WT w τ d) es=s₁.runT P (WT w₁ τ (d+c₀)) es₁)(OV:B0 P s₁ w₁ es₁ c):B0 P s w es (c₀+c):=by
 obtain⟨a,b,e⟩:=OV;refine⟨by rw[h,a,ht],by rw[h,b,hd,dM],fun τ d hA=>?_⟩;rw[hw τ d (hA.le aa),e τ (d+c₀) (hA.tail ht hd),h,dM]
theorem gj{α:Type}{P:Program}{s:Sem α}{w:ae}{es:Array Event}{s₁:Sem α}{w₁:ae}{es₁:Array Event}{c:Nat}(h:s.runT P w es=s₁.runT P w₁ es₁)(ht:w₁.tape=w.tape)(hd:w₁.drawn=w.drawn)(hw:∀τ d,s.runT P (WT w τ d) es=s₁.runT P (WT w₁ τ d) es₁)(OV:B0 P s₁ w₁ es₁ c):B0 P s w es c:=by
 have:=B1 (c₀:=0) h ht hd (fun τ d _=>hw τ d) OV;rwa[bB] at this
theorem jv{α:Type}{P:Program}{s:Sem α}{w:ae}{es:Array Event}{h:Halt}(e:s.runT P w es=(.halt h w,es))(hw:∀τ d,s.runT P (WT w τ d) es=(.halt h (WT w τ d),es)):B0 P s w es 0:=by
 refine⟨by rw[e];rfl,by rw[e];rfl,fun τ d _=>?_⟩;rw[hw,e];rfl
theorem B4(p:Program)(w:ae)(τ:Tape)(d:Nat)(a:Addr)(at_:Bool):(WT w τ d).farLoad p a at_=w.farLoad p a at_:=rfl
theorem bind_map{α β γ:Type}{x:Except String α}{k:α->Except String β}{k':α->Except String γ}{g:β->γ}(h:∀a,k' a=(k a).map g):(x>>=k')=(x>>=k).map g:=by
 cases x with
 |error=>rfl
 |ok a=>exact h a
theorem Gg{p:Program}{w:ae}{τ:Tape}{d:Nat}{b:Addr}{u:TypeId}{a:Addr}{v:Value}{at_:Bool}:
  (WT w τ d).viewStore p b u a v at_=(w.viewStore p b u a v at_).map (fun x=>(WT x.1 τ d,x.2)):=by
 unfold World.viewStore;by_cases ht:(!tight p p.depth u)=true
 ·simp only[ht,if_true];rfl
 ·simp only[ht,if_false];have e:(WT w τ d).seen p b u a at_=w.seen p b u a at_:=rfl;rw[e];refine bind_map (fun x=>?_);obtain⟨c,e,z,first,DU,cells⟩:=x;cases v.bytes? with
  |none=>rfl
  |some bytes =>
   simp only[];by_cases hl:(some bytes.length≠DU.bytes?.map (·.length))
   ·rw[if_pos hl,if_pos hl];rfl
   ·rw[if_neg hl,if_neg hl];exact bind_map (fun c2=>rfl)
theorem Ah{p:Program}{w:ae}{τ:Tape}{d:Nat}{a:Addr}{v:Value}{at_:Bool}:
  (WT w τ d).farStore p a v at_=(w.farStore p a v at_).map (fun x=>(WT x.1 τ d,x.2)):=by
 unfold World.farStore;show(match w.heap[a.block]? with|some (.view amH u)=>_|_=>_)=_;cases hh:w.heap[a.block]? with
 |none=>simp only[World.noCell,WT,hh];rfl
 |some o =>
  cases o<;>simp only[World.noCell,WT,hh]<;>first|rfl|skip
  rename_i b u;have:=Gg (p:=p) (w:=w) (τ:=τ) (d:=d) (b:=b) (u:=u) (a:=a) (v:=v) (at_:=at_);simp only[WT] at this;rw[this];cases w.viewStore p b u a v at_<;>rfl
theorem D5{p:Program}{w:ae}{b:Addr}{u:TypeId}{a:Addr}{v:Value}{at_:Bool}{x:ae×List Addr}(h:w.viewStore p b u a v at_=.ok x):x.1.tape=w.tape/\x.1.drawn=w.drawn:=by
 obtain⟨w1,ts⟩:=x;obtain⟨c,e,z,_,_,rfl,_⟩:=rA (f:=⟨fun x=>x,fun x=>x,fun x=>x,fun x=>x⟩) (wr:={w with heap:=w.heap.map (obj ⟨fun x=>x,fun x=>x,fun x=>x,fun x=>x⟩)}) (at':=b) (k':=a) aj rfl rfl rfl rfl h;exact⟨rfl,rfl⟩
theorem wK{P:Program}{f:Rn}{α β:Type}{A:α->β->Prop}:∀(s:Sem α) (s':Sem β) (w:ae) (es:Array Event),Rel P f A s s'->∃c,B0 P s w es c:=by
 intro s
 induction s with
 |pure a=>intro s' w es h;exact⟨0,rfl,rfl,fun τ d _=>rfl⟩
 |load m x k ih =>
  intro s' w es h;cases s'<;>simp only[Rel] at h;cases hc:w.cell? x with
  |some v =>
   obtain⟨c,hd⟩:=ih v _ w (es.push ⟨.cell x,false,m == .atomic⟩) (h.2.2 v);refine⟨c,gj (w₁:=w) (by simp only[Sem.runT,hc]) rfl rfl (fun τ d=>?_) hd⟩;have H9:(WT w τ d).cell? x=some v:=hc;simp only[Sem.runT,H9]
  |none =>
   have H9:∀τ d,(WT w τ d).cell? x=none:=fun τ d=>hc;cases hf:w.farLoad P x (m == .atomic) with
   |error hh =>
    refine⟨0,jv (h:=hh) (by simp only[Sem.runT,hc,hf]) (fun τ d=>?_)⟩;simp only[Sem.runT,H9 τ d,B4,hf]
   |ok y =>
    obtain⟨v,ts⟩:=y;obtain⟨c,hd⟩:=ih v _ w (es++ts.toArray.map (⟨.cell ·,false,m == .atomic⟩)) (h.2.2 v);refine⟨c,gj (w₁:=w) (by simp only[Sem.runT,hc,hf]) rfl rfl (fun τ d=>?_) hd⟩;simp only[Sem.runT,H9 τ d,B4,hf]
 |store m x v k ih =>
  intro s' w es h;cases s'<;>simp only[Rel] at h;by_cases cj:(∃c,v=.agg c)\/∃c,v=.tuple c
  ·rcases cj with⟨c,rfl⟩|⟨c,rfl⟩
   ·exact⟨0,jv rfl (fun τ d=>rfl)⟩
   ·exact⟨0,jv rfl (fun τ d=>rfl)⟩
  ·have n1:∀c,v≠.agg c:=fun c e=>cj (.inl ⟨c,e⟩);have n2:∀c,v≠.tuple c:=fun c e=>cj (.inr ⟨c,e⟩);cases hc:w.cell? x with
   |some old =>
    have H9:∀τ d,(WT w τ d).cell? x=some old:=fun τ d=>hc;by_cases hz:w.frozen? x=true
    ·have DF:∀τ d,(WT w τ d).frozen? x=true:=fun τ d=>hz;exact⟨0,jv (by rw[iu n1 n2,hc];simp only[hz,if_true];rfl) (fun τ d=>by rw[iu n1 n2,H9];simp only[DF,if_true])⟩
    ·have DF:∀τ d,¬(WT w τ d).frozen? x=true:=fun τ d=>hz;obtain⟨c,hd⟩:=ih _ (w.setCell x v) (es.push ⟨.cell x,true,m == .atomic⟩) h.2.2.2;refine⟨c,gj (w₁:=w.setCell x v) (by rw[iu n1 n2,hc];simp only[hz,if_false];rfl) rfl rfl (fun τ d=>?_) hd⟩;rw[iu n1 n2,H9];simp only[DF,if_false];rfl
   |none =>
    have H9:∀τ d,(WT w τ d).cell? x=none:=fun τ d=>hc;cases hf:w.farStore P x v (m == .atomic) with
    |error hh =>
     refine⟨0,jv (h:=hh) (by rw[iu n1 n2,hc];simp only[hf]) (fun τ d=>?_)⟩;rw[iu n1 n2,H9];simp only[Ah,hf,Except.map]
    |ok y =>
     obtain⟨w1,ts⟩:=y;obtain⟨b,u,HI,KH⟩:=tK hf;obtain⟨ht,DG⟩:=D5 KH;obtain⟨c,hd⟩:=ih _ w1 (es++ts.toArray.map (⟨.cell ·,true,m == .atomic⟩)) h.2.2.2;refine⟨c,gj (w₁:=w1) (by rw[iu n1 n2,hc];simp only[hf]) ht DG (fun τ d=>?_) hd⟩;rw[iu n1 n2,H9];simp only[Ah,hf,Except.map]
 |new o k ih =>
  intro s' w es h;cases s'<;>simp only[Rel] at h;obtain⟨c,hd⟩:=ih w.heap.size _ {w with heap:=w.heap.push o} es (h.2.2 _);exact⟨c,gj (w₁:={w with heap:=w.heap.push o}) rfl rfl rfl (fun τ d=>rfl) hd⟩
 |shape r k ih =>
  intro s' w es h;cases s'<;>simp only[Rel] at h;obtain⟨c,hd⟩:=ih (w.shape? r) _ w es (h.2 _);exact⟨c,gj (w₁:=w) rfl rfl rfl (fun τ d=>rfl) hd⟩
 |freeze a n k ih =>
  intro s' w es h;cases s'<;>simp only[Rel] at h;obtain⟨c,hd⟩:=ih _ (w.freeze a n) es h.2.2;have e:∀τ d,(WT w τ d).freeze a n=WT (w.freeze a n) τ d:=by
   intro τ d;unfold World.freeze;split<;>rfl
  refine⟨c,gj (w₁:=w.freeze a n) rfl (by unfold World.freeze;split<;>rfl) (by unfold World.freeze;split<;>rfl) (fun τ d=>?_) hd⟩;simp only[Sem.runT,e]
 |frozen a k ih =>
  intro s' w es h;cases s'<;>simp only[Rel] at h;obtain⟨c,hd⟩:=ih (w.frozen? a) _ w es (h.2 _);exact⟨c,gj (w₁:=w) rfl rfl rfl (fun τ d=>rfl) hd⟩
 |getObj r k ih =>
  intro s' w es h;cases s'<;>simp only[Rel] at h;cases ho:w.heap[r]? with
  |none =>
   have pD:∀τ d,(WT w τ d).heap[r]?=none:=fun τ d=>ho;exact⟨0,jv (by simp only[Sem.runT,ho];rfl) (fun τ d=>by simp only[Sem.runT,pD])⟩
  |some o =>
   have pD:∀τ d,(WT w τ d).heap[r]?=some o:=fun τ d=>ho;by_cases hc:∃c e z,o=.cells c e z
   ·obtain⟨c,e,z,rfl⟩:=hc;exact⟨0,jv (by simp only[Sem.runT,ho];rfl) (fun τ d=>by simp only[Sem.runT,pD])⟩
   ·obtain⟨c,hd⟩:=ih o _ w (es.push ⟨.obj r,false,o.isChan⟩) (h.2 _);have e1:∀w:ae,w.heap[r]?=some o->(Sem.getObj r k).runT P w es=(k o).runT P w (es.push ⟨.obj r,false,o.isChan⟩):=by
     intro w hw;simp only[Sem.runT,hw];cases o<;>first|rfl|exact absurd ⟨_,_,_,rfl⟩ hc
    exact⟨c,gj (w₁:=w) (e1 w ho) rfl rfl (fun τ d=>e1 _ (pD τ d)) hd⟩
 |setObj r o k ih =>
  intro s' w es h;cases s'<;>simp only[Rel] at h;cases ho:w.heap[r]? with
  |none =>
   have pD:∀τ d,(WT w τ d).heap[r]?=none:=fun τ d=>ho;exact⟨0,jv (by simp only[Sem.runT,ho];rfl) (fun τ d=>by simp only[Sem.runT,pD])⟩
  |some x =>
   have pD:∀τ d,(WT w τ d).heap[r]?=some x:=fun τ d=>ho;by_cases hc:∃c e z,x=.cells c e z
   ·obtain⟨c,e,z,rfl⟩:=hc;exact⟨0,jv (by simp only[Sem.runT,ho];rfl) (fun τ d=>by simp only[Sem.runT,pD])⟩
   ·obtain⟨c,hd⟩:=ih _ {w with heap:=w.heap.setIfInBounds r o} (es.push ⟨.obj r,true,o.isChan⟩) h.2.2.2;have e1:∀w:ae,w.heap[r]?=some x->(Sem.setObj r o k).runT P w es=k.runT P {w with heap:=w.heap.setIfInBounds r o} (es.push ⟨.obj r,true,o.isChan⟩):=by
     intro w hw;simp only[Sem.runT,hw];cases x<;>first|rfl|exact absurd ⟨_,_,_,rfl⟩ hc
    exact⟨c,gj (w₁:={w with heap:=w.heap.setIfInBounds r o}) (e1 w ho) rfl rfl (fun τ d=>e1 _ (pD τ d)) hd⟩
 |choose q k ih =>
  intro s' w es h;cases s'<;>simp only[Rel] at h;by_cases hq:q.forced=true
  ·obtain⟨c,hd⟩:=ih 0 _ w es (h.2 _);exact⟨c,gj (w₁:=w) (by simp only[Sem.runT,hq,if_true]) rfl rfl (fun τ d=>by simp only[Sem.runT,hq,if_true]) hd⟩
  ·obtain⟨c,hd⟩:=ih (q.cut (w.tape w.drawn q)) _ {w with drawn:=w.drawn+1} es (h.2 _);refine⟨1+c,B1 (c₀:=1) (w₁:={w with drawn:=w.drawn+1}) (by simp[Sem.runT,hq]) rfl rfl (fun τ d hA=>?_) hd⟩;have h0:=hA 0 aa q;simp only[Nat.add_zero] at h0;simp[Sem.runT,hq,WT,h0]
 |sys c k ih =>
  intro s' w es h;cases s'<;>simp only[Rel] at h;have he:c=.env:=by
   have:=h.2.1;cases c<;>first|rfl|exact Bool.noConfusion this
  subst he;obtain⟨c,hd⟩:=ih (.strings w.os.env) _ w (es.push ⟨.output,true,false⟩) (h.2.2 _);exact⟨c,gj (w₁:=w) (by simp only[Sem.runT,Nk]) rfl rfl (fun τ d=>by simp only[Sem.runT,Nk];rfl) hd⟩
 |program k ih =>
  intro s' w es h;cases s'<;>simp only[Rel] at h;obtain⟨c,hd⟩:=ih P _ w es h;exact⟨c,gj (w₁:=w) rfl rfl rfl (fun τ d=>rfl) hd⟩
 |mark m k ih =>
  intro s' w es h;cases s'<;>simp only[Rel] at h;obtain⟨c,hd⟩:=ih _ w (es.push ⟨.mark m,false,true⟩) h.2.2;exact⟨c,gj (w₁:=w) rfl rfl rfl (fun τ d=>rfl) hd⟩
 |halt hh=>intro s' w es h;exact⟨0,jv rfl (fun τ d=>rfl)⟩
end Go.Ren
