import PyProof.Rows.All
import Wide.All
import OpenK.AllK
import Wide.FinOn
import PyProof.EqAt
import PyProof.EqKinds
import PyProof.TupleCall
import KE.BitLaws
import Open.SpecLaws
import KE.OsHead
import KE.OsGo
import PySem.Challenge.RW_packedframes_s01_answers
set_option Elab.async false
set_option linter.all false
set_option compiler.extract_closed false
set_option bootstrap.genMatcherCode false
set_option maxRecDepth 100000
abbrev aA := PySem.W.Frag
abbrev aB := Vbfaae.State
theorem aC {p : Prop} [Decidable p] : (decide p = true) = p := decide_eq_true_eq
theorem aD {c : Prop} {h : Decidable c} (hc : c) {α : Sort _} {t e : α} : ite c t e = t := if_pos hc
theorem aF {c : Prop} {h : Decidable c} (hc : ¬c) {α : Sort _} {t e : α} : ite c t e = e := if_neg hc
theorem aG {α : Type _} {β : Type _} {f : α → β} {l : List α} : (l.map f).length = l.length := List.length_map _
theorem aH {n : Nat} : (n : Int).toNat = n := Int.toNat_natCast n
section
namespace L2
open PySem PySem.Spec PyProof.Rows
abbrev Key:=Sum Int Str
def aBg:Key->Value->Bool
 | .inl k,v=>Value.isInt k v
 | .inr x,v=>Value.isStrOf x v
def bQs (w:World):Key->Int
 | .inl k=>hashInt k
 | .inr x=>hashStr w x
theorem fD: ∀{k:Key} {v:Value},aBg k v=true->(∃i t,k=Sum.inl i/\v=Value.int i t)\/(∃x t,k=Sum.inr x/\v=Value.str x t)
 | .inl i,v,h=>by
  obtain⟨t,e⟩:=Value.isInt_shape (k:=i) (v:=v) h
  exact .inl ⟨i,t,rfl,e⟩
 | .inr x,v,h=>by
  obtain⟨t,e⟩:=Value.isStrOf_shape (x:=x) (v:=v) h
  exact .inr ⟨x,t,rfl,e⟩
theorem aTp (i:Int) (t:Tok):aBg (.inl i) (.int i t)=true:=by simp [aBg,Value.isInt]
theorem bGd (x:Str) (t:Tok):aBg (.inr x) (.str x t)=true:=by simp [aBg,Value.isStrOf]
theorem bOm (a b:Int):decide ((Sum.inl a:Key)=Sum.inl b)=(a==b):=by
 by_cases e:a=b
 . subst e;simp
 . have h: ¬(Sum.inl a:Key)=Sum.inl b:=fun q=>e (Sum.inl.inj q)
   rw [decide_eq_false h]
   exact(beq_eq_false_iff_ne.mpr e).symm
theorem bOp (a b:Str):decide ((Sum.inr a:Key)=Sum.inr b)=decide (a=b):=by
 by_cases e:a=b
 . subst e;simp
 . have h: ¬(Sum.inr a:Key)=Sum.inr b:=fun q=>e (Sum.inr.inj q)
   rw [decide_eq_false h,decide_eq_false e]
theorem bOn (a:Int) (b:Str):decide ((Sum.inl a:Key)=Sum.inr b)=false:=decide_eq_false (fun q=>nomatch q)
theorem bOo (a:Str) (b:Int):decide ((Sum.inr a:Key)=Sum.inl b)=false:=decide_eq_false (fun q=>nomatch q)
def eQ (prog:Program) (w:World):PySem.KeyKind prog w Key where
 is:=aBg
 hash:=bQs w
 inj:=fun v a b ha hb=>by
  rcases fD ha with⟨i,t,rfl,rfl⟩|⟨x,t,rfl,rfl⟩
  . rcases fD hb with⟨j,u,rfl,e⟩|⟨y,u,rfl,e⟩
    . injection e with e1 _;rw [e1]
    . exact nomatch e
  . rcases fD hb with⟨j,u,rfl,e⟩|⟨y,u,rfl,e⟩
    . exact nomatch e
    . injection e with e1 _;rw [e1]
 byValue:=fun k v h=>by
  rcases fD h with⟨i,t,rfl,rfl⟩|⟨x,t,rfl,rfl⟩<;>rfl
 pyHash:=fun hv h=>by
  rcases fD hv with⟨i,t,rfl,rfl⟩|⟨x,t,rfl,rfl⟩
  . exact wpAny_pyHash_int h
  . exact wpAny_pyHash_str h
 eqBool:=fun hu hv h=>by
  rcases fD hu with⟨i,t,rfl,rfl⟩|⟨x,t,rfl,rfl⟩
  . rcases fD hv with⟨j,u,rfl,rfl⟩|⟨y,u,rfl,rfl⟩
    . rw [bOm] at h;exact wpAny_eqBool_int h
    . rw [bOn] at h;exact SeqAt.EqAt.int_str i t y u _ _ _ _ h
  . rcases fD hv with⟨j,u,rfl,rfl⟩|⟨y,u,rfl,rfl⟩
    . rw [bOo] at h;exact SeqAt.EqAt.str_int x t j u _ _ _ _ h
    . rw [bOp] at h;exact wpAny_eqBool_str h
 «strs»:=fun k x t v h=>by
  rcases fD h with⟨i,u,rfl,e⟩|⟨y,u,rfl,e⟩
  . exact nomatch e
  . injection e with e1 _
    subst e1
    cases v<;>rfl
theorem aZt (prog:Program) (w:World) (i:Int) (t:Tok):(eQ prog w).is (.inl i) (.int i t)=true:=aTp i t
theorem aZu (prog:Program) (w:World) (x:Str) (t:Tok):(eQ prog w).is (.inr x) (.str x t)=true:=bGd x t
end L2
namespace L2
open PySem PySem.Spec PyProof.Rows
inductive V where
 |non|bl (b:Bool)|int (i:Int)|str (x:Str)|byt (b:Array UInt8)|flt (b:UInt64)|ref (a:Addr)|ty (n:String)
 deriving DecidableEq
def RelV:V->Value->Prop
 | .non,u=>u=Value.none
 | .bl b,u=>u=Value.bool b
 | .int i,u=> ∃t,u=Value.int i t
 | .str x,u=> ∃t,u=Value.str x t
 | .byt b,u=> ∃t,u=Value.bytes b t
 | .flt b,u=> ∃t,u=Value.float b t
 | .ref a,u=>u=Value.ref a
 | .ty n,u=>u=Value.type n
abbrev Vals:List V->List Value->Prop:=Paired RelV
theorem Vals.length {xs:List V} {us:List Value} (r:Vals xs us):xs.length=us.length:=Paired.length r
theorem Vals.get: ∀{xs:List V} {us:List Value} {i:Nat} {x:V},Vals xs us->xs[i]? =some x-> ∃u,us[i]? =some u/\RelV x u
 |_,_,_,_,.nil,e=>by simp at e
 |_,_,0,_,.cons r _,e=>by simp at e;subst e;exact⟨_,rfl,r⟩
 |_,_,i+1,x,.cons _ t,e=>by
  obtain⟨u,h1,h2⟩:=Vals.get (i:=i) (x:=x) t (by simpa using e)
  exact⟨u,by simpa using h1,h2⟩
theorem Vals.set {x:V} {u:Value} (r:RelV x u): ∀{xs:List V} {us:List Value} (i:Nat),Vals xs us->Vals (xs.set i x) (us.set i u)
 |_,_,_,.nil=> .nil
 |_,_,0,.cons _ t=> .cons r t
 |_,_,i+1,.cons q t=> .cons q (Vals.set r i t)
theorem Vals.append: ∀{xs ys:List V} {us ws:List Value},Vals xs us->Vals ys ws->Vals (xs++ys) (us++ws)
 |_,_,_,_,.nil,s=>s
 |_,_,_,_,.cons r t,s=> .cons r (Vals.append t s)
theorem Vals.take: ∀{xs:List V} {us:List Value} (n:Nat),Vals xs us->Vals (xs.take n) (us.take n)
 |_,_,0,_=> .nil
 |_,_,_+1,.nil=> .nil
 |_,_,n+1,.cons r t=> .cons r (Vals.take n t)
theorem Vals.drop: ∀{xs:List V} {us:List Value} (n:Nat),Vals xs us->Vals (xs.drop n) (us.drop n)
 |_,_,0,r=>r
 |_,_,_+1,.nil=> .nil
 |_,_,n+1,.cons _ t=>Vals.drop n t
def sO:Option V->Option Value->Prop
 |some v,some u=>RelV v u
 |none,none=>True
 |_,_=>False
def KV {κ:Type}:List (κ×V)->List (κ×Value)->Prop:=Paired fun(p:κ×V) (q:κ×Value)=>p.1=q.1/\RelV p.2 q.2
def kV:Key->V
 | .inl i=> .int i
 | .inr x=> .str x
inductive HO where
 /-- a list -/
 |lst (xs:List V)
 /-- a tuple (never changes) -/
 |tup (xs:List V)
 /-- a dict whose keys are ints and texts;one whose keys are tuples of ints and texts (the empty one is both) -/
 |dK (kvs:List (Key×V))|dT (kvs:List (List Key×V))
 /-- a set of ints:its members,its size -/
 |set (S:Int->Bool) (n:Nat)
 /-- an instance of the class at C,its dict at dx,its attributes -/
 |ins (C dx:Addr) (fs:List (Str×V))
 /-- the dict of the instance at x -/
 |own (x:Addr)
 /-- the dict of an exception -/
 |xd (fs:List (Str×V))
 /-- a bound method,f of x -/
 |met (f x:Addr)
 /-- a range object lo,lo+1,.. below hi -/
 |rng (lo hi:Int)
 /-- a thing that is known to the object (the script;a dict while a loop walks it):read,never written while it is so -/
 |frz (o:Obj) (u:HO)
 /-- a code object's table -/
 |tbl (ps:Array Value)
 /-- any other thing,by what is true of its one object (a def of one's own:SetO a S n:=HO.ext fun h=> ..) -/
 |ext (φ:Heap->Prop)
abbrev Hp:=Addr->Option HO
def upd (H:Hp) (a:Addr) (o:HO):Hp:=fun b=>if b=a then some o else H b
theorem aO {H:Hp} {a:Addr} {o:HO}:upd H a o a=some o:=by unfold upd;rw [aD rfl]
theorem aR {H:Hp} {a b:Addr} {o:HO} (h:b≠a):upd H a o b=H b:=by unfold upd;rw [aF h]
theorem aAh {H:Hp} {a:Addr} {o u:HO}:upd (upd H a o) a u=upd H a u:=by
 funext b;unfold upd;split<;>rfl
theorem qY {H:Hp} {a b:Addr} {o u:HO} (h:H a=some o) (h':H b=some u) (d:o≠u):a≠b:=by
 intro e;subst e;rw [h] at h';exact d (Option.some.inj h')
theorem cQ {H:Hp} {a b:Addr} {o:HO} (h:H a=some o) (h':H b=none):a≠b:=by
 intro e;subst e;rw [h] at h';cases h'
section
variable (P:Program) (w:World)
def gK (H:Hp) (h:Heap) (a:Addr):HO->Prop
 | .lst xs=>xs.length<=sizeLine/\ ∃(its:List Value) (n:Nat),Vals xs its/\h.get? a=some {cls:= .type "list",data:= .seq its.toArray n}
 | .tup xs=>xs.length<=sizeLine/\ ∃its:List Value,Vals xs its/\IsTup h a its.toArray
 | .dK kvs=>kvs.length<=sizeLine/\(a==sysModules)=false/\ ∃vs,KV kvs vs/\h.DictOf (eQ P w) a vs
 | .dT kvs=>kvs.length<=sizeLine/\(a==sysModules)=false/\ ∃xs:List (List Key×Addr×Value),
  Paired (fun(p:List Key×V) (q:List Key×Addr×Value)=>p.1=q.1/\H q.2.1=some (.tup (p.1.map kV))/\RelV p.2 q.2.2) kvs xs/\
  ∃o es ep,h.get? a=some o/\o.ExactDict/\o.data= .dict es ep/\es.toList=xs.map (entryOfKey (tupleKind (eQ P w)))/\(xs.map (·.1)).Nodup
 | .set S n=>h.SetOf (intKind P w) a S n
 | .ins C dx fs=>H dx=some (.own a)/\fs.length<=1000/\dx≠a/\h.get? a=some (PySem.W.instObj C dx)/\
  ∃mA,h.Ns1 dx mA/\(∀f,sO (fs.lookup f) (mA f))/\PySem.Within mA (fs.map (·.1))
 | .own _=> ∃o,h.get? a=some o
 | .xd fs=> ∃mA,h.Ns1 a mA/\ ∀f,sO (fs.lookup f) (mA f)
 | .rng lo hi=> ∃t u v,h.get? a=some {cls:= .type "range",data:= .fields #[.int lo t,.int hi u,.int 1 v]}
 | .frz o u=>h.get? a=some o/\gK H h a u
 | .tbl ps=>h.get? a=some {cls:= .none,data:= .fields ps}
 | .met f x=>h.get? a=some (PySem.W.methodObj (.ref f) (.ref x))
 | .ext φ=>φ h/\(∃o,h.get? a=some o)/\ ∀h1 h2:Heap,φ h1->(∀o,h1.get? a=some o->h2.get? a=some o)->φ h2
def HOk (H:Hp) (h:Heap):Prop:= ∀a o,H a=some o->gK P w H h a o
end
section
variable {P:Program} {w:World} {H H':Hp} {h h':Heap} {a:Addr} {o:HO}
theorem gK.lt (x:gK P w H h a o):a<h.objs.size:=by
 cases o with
 |lst xs=>obtain⟨_,_,_,_,e⟩:=x;exact Heap.lt_size e
 |tup xs=>obtain⟨_,_,_,p⟩:=x;exact p.lt
 |dK kvs=>obtain⟨_,_,_,_,o,_,_,e,_⟩:=x;exact Heap.lt_size e
 |dT kvs=>obtain⟨_,_,_,_,o,_,_,e,_⟩:=x;exact Heap.lt_size e
 |set S n=>obtain⟨o,_,_,_,e,_⟩:=x;exact Heap.lt_size e
 |ins C dx fs=>obtain⟨_,_,_,e,_⟩:=x;exact Heap.lt_size e
 |own y=>obtain⟨_,e⟩:=x;exact Heap.lt_size e
 |xd fs=>obtain⟨_,⟨_,_,_,e,_⟩,_⟩:=x;exact Heap.lt_size e
 |rng lo hi=>obtain⟨_,_,_,e⟩:=x;exact Heap.lt_size e
 |frz ob u=>obtain⟨e,_⟩:=x;exact Heap.lt_size e
 |tbl ps=>exact Heap.lt_size (show h.get? a=some _ from x)
 |met f y=>exact Heap.lt_size (show h.get? a=some _ from x)
 |ext φ=>obtain⟨_,⟨_,e⟩,_⟩:=x;exact Heap.lt_size e
theorem Paired.bOu {α β:Type} {F G:α->β->Prop}: ∀{l₁:List α} {l₂:List β},Paired F l₁ l₂->(∀a b,F a b->G a b)->Paired G l₁ l₂
 |_,_,.nil,_=> .nil
 |_,_,.cons r t,f=> .cons (f _ _ r) (Paired.bOu t f)
theorem gK.stay (x:gK P w H h a o) (k: ∀b u,(b=a\/H b=some (.own a))->h.get? b=some u->h'.get? b=some u)
 (ho: ∀b,H b=some (.own a)->H' b=some (.own a)) (ht: ∀b xs,H b=some (.tup xs)->H' b=some (.tup xs)):gK P w H' h' a o:=by
 induction o with
 |lst xs=>obtain⟨z,its,n,r,e⟩:=x;exact⟨z,its,n,r,k _ _ (.inl rfl) e⟩
 |tup xs=>obtain⟨z,its,r,ob,e,c⟩:=x;exact⟨z,its,r,ob,k _ _ (.inl rfl) e,c⟩
 |dK kvs=>obtain⟨z,y,vs,r,ob,es,ep,e,c⟩:=x;exact⟨z,y,vs,r,ob,es,ep,k _ _ (.inl rfl) e,c⟩
 |dT kvs=>
  obtain⟨z,y,xs,r,ob,es,ep,e,c⟩:=x
  exact⟨z,y,xs,Paired.bOu r fun p q z=>⟨z.1,ht _ _ z.2.1,z.2.2⟩,ob,es,ep,k _ _ (.inl rfl) e,c⟩
 |set S n=>obtain⟨ob,es,ep,t,e,c⟩:=x;exact⟨ob,es,ep,t,k _ _ (.inl rfl) e,c⟩
 |ins C dx fs=>
  obtain⟨d,z,ne,e,mA,⟨od,es,ep,e2,c⟩,r⟩:=x
  exact⟨ho _ d,z,ne,k _ _ (.inl rfl) e,mA,⟨od,es,ep,k _ _ (.inr d) e2,c⟩,r⟩
 |own y=>obtain⟨ob,e⟩:=x;exact⟨ob,k _ _ (.inl rfl) e⟩
 |xd fs=>obtain⟨mA,⟨od,es,ep,e,c⟩,r⟩:=x;exact⟨mA,⟨od,es,ep,k _ _ (.inl rfl) e,c⟩,r⟩
 |rng lo hi=>obtain⟨t,u,v,e⟩:=x;exact⟨t,u,v,k _ _ (.inl rfl) e⟩
 |frz ob u ih=>obtain⟨e,q⟩:=x;exact⟨k _ _ (.inl rfl) e,ih q⟩
 |tbl ps=>
  have e:h.get? a=some {cls:= .none,data:= .fields ps}:=x
  show h'.get? a=some {cls:= .none,data:= .fields ps}
  exact k a _ (.inl rfl) e
 |met f y=>
  have e:h.get? a=some (PySem.W.methodObj (.ref f) (.ref y)):=x
  show h'.get? a=some (PySem.W.methodObj (.ref f) (.ref y))
  exact k a _ (.inl rfl) e
 |ext φ=>obtain⟨p,⟨o,e⟩,st⟩:=x;exact⟨st _ _ p fun o q=>k _ _ (.inl rfl) q,⟨o,k _ _ (.inl rfl) e⟩,st⟩
theorem HOk.lt (x:HOk P w H h) (e:H a=some o):a<h.objs.size:=(x a o e).lt
theorem HOk.fresh (x:HOk P w H h) (e:h.objs.size<=a):H a=none:=by
 cases q:H a with
 |none=>rfl
 |some u=>exact absurd (Nat.lt_of_lt_of_le (x.lt q) e) (Nat.lt_irrefl _)
theorem HOk.kept (x:HOk P w H h) (k: ∀b u,h.get? b=some u->h'.get? b=some u):HOk P w H h':=fun a o e=>
 (x a o e).stay (fun b u _ q=>k b u q) (fun _ q=>q) fun _ _ q=>q
theorem HOk.laid (x:HOk P w H h) (k: ∀b u,h.get? b=some u->h'.get? b=some u) (hp:h.objs.size<=a) (new:gK P w (upd H a o) h' a o):HOk P w (upd H a o) h':=fun b u e=>by
 have hn:=x.fresh hp
 by_cases hb:b=a
 . subst hb;rw [aO] at e;cases e;exact new
 . rw [aR hb] at e
   exact(x b u e).stay (fun c v _ q=>k c v q) (fun c q=>by rw [aR (cQ q hn)];exact q) fun c xs q=>by rw [aR (cQ q hn)];exact q
end
def Rd (H:Hp) (a:Addr) (u:HO):Prop:=H a=some u\/ ∃o,H a=some (.frz o u)
theorem Rd.ok {P:Program} {w:World} {H:Hp} {h:Heap} {a:Addr} {u:HO} (r:Rd H a u) (x:HOk P w H h):gK P w H h a u:=by
 rcases r with r|⟨o,r⟩
 . exact x a u r
 . obtain⟨_,q⟩:=x a _ r
   exact q
def Mut:Option HO->Prop
 |some (.lst _)=>True
 |some (.dK _)=>True
 |some (.dT _)=>True
 |some (.set _ _)=>True
 |some (.ins _ _ _)=>True
 |some (.ext _)=>True
 |_=>False
section
variable {P:Program} {w:World} {H:Hp} {h h':Heap} {x e:Addr} {o':HO}
theorem HOk.write (ok:HOk P w H h) (mu:Mut (H x)) (he:e=x\/H e=some (.own x)) (k: ∀b u,b≠e->h.get? b=some u->h'.get? b=some u) (heo: ∃u,h'.get? e=some u)
 (new:gK P w (upd H x o') h' x o'):HOk P w (upd H x o') h':=fun b u q=>by
 have nown: ∀c y,H c=some (.own y)->c≠x:=fun c y r z=>by subst z;rw [r] at mu;exact mu
 have ntup: ∀c xs,H c=some (.tup xs)->c≠x:=fun c xs r z=>by subst z;rw [r] at mu;exact mu
 by_cases hb:b=x
 . subst hb;rw [aO] at q;cases q;exact new
 . rw [aR hb] at q
   by_cases hbe:b=e
   . have q':H b=some (.own x):=by
      rcases he with z|z
      . exact absurd (hbe.trans z) hb
      . rw [hbe];exact z
     rw [q] at q';cases q'
     obtain⟨v,hv⟩:=heo
     exact⟨v,by rw [hbe];exact hv⟩
   . refine(ok b u q).stay (fun c v hc r=>k c v ?_ r) (fun c r=>by rw [aR (nown c b r)];exact r) fun c xs r=>by rw [aR (ntup c xs r)];exact r
     rcases hc with rfl|hc
     . exact hbe
     . rintro rfl
       rcases he with z|z
       . exact nown c b hc z
       . rw [hc] at z;cases z;exact hb rfl
end
structure Un (fs ex:List Addr) (H H':Hp) (h h':Heap):Prop where
 keep: ∀b o,h.get? b=some o->H b=none->b∉fs->b∉ex->h'.get? b=some o
 slot: ∀b o,h.get? b=some o->H b=none->b∈fs->b∉ex-> ∃sl,h'.get? b=some {o with slots:=sl}
 free: ∀b o,h.get? b=some o->H b=none->b∉ex->H' b=none
 there: ∀b o,h.get? b=some o->b∉ex-> ∃o',h'.get? b=some o'
 tups: ∀b xs,H b=some (.tup xs)->H' b=some (.tup xs)
 frzs: ∀b o u,H b=some (.frz o u)->H' b=some (.frz o u)
 tbls: ∀b ps,H b=some (.tbl ps)-> ∃more,H' b=some (.tbl (ps++more))
section
variable {fs fs' ex ex':List Addr} {H H1 H2:Hp} {h h1 h2 h':Heap} {a x e:Addr} {o:HO}
theorem Un.any (u:Un fs ex H H1 h h1) {b:Addr} {ob:Obj} (q:h.get? b=some ob) (n:H b=none) (hx:b∉ex): ∃sl,h1.get? b=some {ob with slots:=sl}:=by
 by_cases hb:b∈fs
 . exact u.slot b ob q n hb hx
 . exact⟨ob.slots,u.keep b ob q n hb hx⟩
theorem Un.kept (k: ∀b u,h.get? b=some u->h'.get? b=some u):Un fs ex H H h h':=
 ⟨fun b ob q _ _ _=>k b ob q,fun b ob q _ _ _=>⟨ob.slots,k b ob q⟩,fun _ _ _ n _=>n,fun b ob q _=>⟨ob,k b ob q⟩,fun _ _ q=>q,fun _ _ _ q=>q,fun _ ps q=>⟨#[],by rw [q];simp⟩⟩
theorem Un.refl:Un fs ex H H h h:=Un.kept fun _ _ q=>q
theorem Un.laid (k: ∀b u,h.get? b=some u->h'.get? b=some u) (hp:h.objs.size<=a) (hn:H a=none):Un fs ex H (upd H a o) h h' where
 keep:=fun b u q _ _ _=>k b u q
 slot:=fun b u q _ _ _=>⟨u.slots,k b u q⟩
 free:=fun b u q n _=>by rw [aR (Nat.ne_of_lt (Nat.lt_of_lt_of_le (Heap.lt_size q) hp))];exact n
 there:=fun b u q _=>⟨u,k b u q⟩
 tups:=fun b xs q=>by rw [aR (cQ q hn)];exact q
 frzs:=fun b u xs q=>by rw [aR (cQ q hn)];exact q
 tbls:=fun b ps q=>⟨#[],by rw [aR (cQ q hn),q];simp⟩
theorem Un.write (mu:Mut (H x)) (he:e=x\/H e=some (.own x)) (k: ∀b u,b≠e->h.get? b=some u->h'.get? b=some u) (heo: ∃u,h'.get? e=some u):Un fs ex H (upd H x o) h h':=by
 have hx: ∀b,H b=none->b≠x:=fun b n z=>by subst z;rw [n] at mu;exact mu
 have hb: ∀b,H b=none->b≠e:=fun b n z=>by
  subst z
  rcases he with r|r
  . exact hx b n r
  . rw [n] at r;cases r
 have hm: ∀b u,H b=some u-> ¬Mut (some u)->b≠x:=fun b u q nm z=>by subst z;rw [q] at mu;exact nm mu
 refine⟨fun b u q n _ _=>k b u (hb b n) q,fun b u q n _ _=>⟨u.slots,k b u (hb b n) q⟩,fun b u q n _=>by rw [aR (hx b n)];exact n,fun b u q _=> ?_,
  fun b xs q=>by rw [aR (hm b _ q fun z=>z)];exact q,fun b u xs q=>by rw [aR (hm b _ q fun z=>z)];exact q,fun b ps q=>⟨#[],by rw [aR (hm b _ q fun z=>z),q];simp⟩⟩
 by_cases hbe:b=e
 . subst hbe;exact heo
 . exact⟨u,k b u hbe q⟩
end
def trk (h:Heap) (H:Hp):List Addr:=(List.range h.objs.size).filter fun a=>(H a).isSome
def aVv (h:Heap) (H:Hp):Heap:=PySem.W.hideAll h (trk h H)
theorem bGb (h:Heap) (H:Hp):(aVv h H).objs.size=h.objs.size:=PySem.W.hideAll_size _ _
theorem bIi {h:Heap} {H:Hp} {b:Addr} {o:Obj} (e:h.get? b=some o) (n:H b=none):(aVv h H).get? b=some o:=
 PySem.W.hideAll_get _ e fun hm=>by
  have q:(H b).isSome=true:=(List.mem_filter.mp hm).2
  rw [n] at q;simp at q
theorem bLv {h:Heap} {H:Hp} {b:Addr} {o:Obj} (e:(aVv h H).get? b=some o):h.get? b=some o/\H b=none:=by
 have e':h.get? b=some o:=PySem.W.of_hideAll (trk h H) e
 refine⟨e',?_⟩
 cases q:H b with
 |none=>rfl
 |some x=>
  have hm:b∈trk h H:=List.mem_filter.mpr ⟨List.mem_range.mpr (Heap.lt_size e'),by simp [q]⟩
  have z:(aVv h H).get? b=none:=PySem.W.hideAll_none (trk h H) hm
  rw [z] at e;cases e
end L2
namespace L2
open PySem PySem.Spec PyProof.Rows
structure Mod (K:aA) (mg:Str->Option Value) (base:Heap):Prop where
 kin:K.In base
 glob:base.Ns mainGlobals mg
 blt: ∃mb,base.Ns builtinsNs mb/\ ∀x:Str,x≠"__name__"->mb x=bootBuiltins x
 nolimit:base.NoLimit
structure Cx where
 prog:Program
 w:World
 K:aA
 mg:Str->Option Value
 base:Heap
 A:Around
 N:List Str
 s_0:Shared
 H_0:Hp
 env:Env
 outer:List Env
 stack:List Env
 ex:List Addr
 fn:Str->Bool
 calm:Bool
 pn:List (Addr×Obj)
 xe:Value->Shared->Prop
def frs (l:List Env):List Addr:=l.filterMap (·.frame)
abbrev Cx.fs (X:Cx):List Addr:=frs X.outer
def Vis (sc:Scope) (x:Str):Prop:=sc.names.lookup x=some .local\/sc.names.lookup x=some .cell\/sc.names.lookup x=some .free
def Loc (sc:Scope) (x:Str):Prop:=sc.names.lookup x=some .local\/sc.names.lookup x=some .cell
def Look (env:Env) (h:Heap) (m:Str->Option Value) (x:Str) (u:Value):Prop:=
 (env.kindOf x=some .local/\m x=some u)\/((env.kindOf x=some .cell\/env.kindOf x=some .free)/\ ∃c,env.cells.lookup x=some c/\h.IsCell c (some u))
structure Cx.Ok (X:Cx):Prop where
 mod:Mod X.K X.mg X.base
 kind:X.env.scope.kind= .function
 glob:X.env.globals=mainGlobals
 blt:X.env.builtins=builtinsNs
 above:X.s_0.heap.objs.size<=X.env.locals
 inj: ∀x y c,X.env.cells.lookup x=some c->X.env.cells.lookup y=some c->x=y
 has: ∀x,(X.env.kindOf x=some .cell\/X.env.kindOf x=some .free)-> ∃c,X.env.cells.lookup x=some c
 cab: ∀x c,X.fn x=true->X.env.cells.lookup x=some c->X.s_0.heap.objs.size<=c
 hd:X.calm=true->X.A.handled=none
 frames:X.A.frames=some X.stack
 stk:X.stack=X.outer\/(X.stack=X.env::X.outer/\X.env.frame=some X.env.locals)
 exf: ∀b∈X.ex,b≠X.env.locals/\ ∀x c,X.env.cells.lookup x=some c->c≠b
 bs: ∀b o,X.base.get? b=some o->X.s_0.heap.get? b=some o/\X.H_0 b=none
 bsz:X.base.objs.size<=X.s_0.heap.objs.size
 noex: ∀b o,X.base.get? b=some o->b∉X.ex
 exfs: ∀b∈X.ex,b∉X.fs
 aLa:X.s_0.heap.FunFrames X.base X.outer
 frf: ∀b∈X.fs,X.H_0 b=none
structure Inv (X:Cx) (pins:List (Addr×Obj)) (σ:List (Option V)) (H:Hp) (s:Shared):Prop where
 ok:X.Ok
 os:s.os=X.s_0.os
 bare:AllBare s.gens
 base:Un X.fs X.ex X.H_0 H X.s_0.heap s.heap
 loc: ∃m,s.heap.Ns X.env.locals m/\ ∀(i:Nat) (x:Str) (v:V),X.N[i]? =some x->σ[i]? =some (some v)->Vis X.env.scope x-> ∃u,RelV v u/\Look X.env s.heap m x u
 cell: ∀x c,X.env.cells.lookup x=some c-> ∃v,s.heap.IsCell c v
 free:H X.env.locals=none
 freeC: ∀x c,X.env.cells.lookup x=some c->H c=none
 pin: ∀p∈X.pn++pins,s.heap.get? p.1=some p.2/\H p.1=none/\p.1≠X.env.locals/\p.1∉X.fs/\ ∀v,p.2.data≠ .cell v
 hok:HOk X.prog X.w H s.heap
 len:σ.length=X.N.length
section
variable {X:Cx} {pins:List (Addr×Obj)} {σ:List (Option V)} {H H':Hp} {s:Shared} {h':Heap}
theorem Cx.Ok.bSn (ok:X.Ok) {b:Addr} {o:Obj} (e:X.base.get? b=some o):b∉X.fs:=fun hb=>by
 have:=(ok.aLa.mem hb).1
 rw [e] at this;cases this
theorem Inv.bs (I:Inv X pins σ H s): ∀b o,X.base.get? b=some o->s.heap.get? b=some o/\H b=none:=fun b o e=>
 ⟨I.base.keep b o (I.ok.bs b o e).1 (I.ok.bs b o e).2 (I.ok.bSn e) (I.ok.noex b o e),I.base.free b o (I.ok.bs b o e).1 (I.ok.bs b o e).2 (I.ok.noex b o e)⟩
theorem Inv.bk (I:Inv X pins σ H s): ∀b o,X.base.get? b=some o->s.heap.get? b=some o:=fun b o e=>(I.bs b o e).1
theorem Inv.mod (I:Inv X pins σ H s):Mod X.K X.mg X.base:=I.ok.mod
theorem Inv.kIn (I:Inv X pins σ H s):X.K.In s.heap:=I.ok.mod.kin.keeps I.bk
theorem Inv.fr (I:Inv X pins σ H s): ∃m,Fr X.base X.env.locals s.heap m:=
 let⟨m,hn,_⟩:=I.loc
 ⟨m,hn,I.bk,Nat.le_trans I.ok.bsz I.ok.above⟩
theorem Inv.lt (I:Inv X pins σ H s):X.env.locals<s.heap.objs.size:=let⟨_,hn,_⟩:=I.loc;hn.lt
theorem Inv.sz (I:Inv X pins σ H s):X.s_0.heap.objs.size<=s.heap.objs.size:=Nat.le_trans I.ok.above (Nat.le_of_lt I.lt)
theorem Inv.bSo (I:Inv X pins σ H s) {a:Addr} (h:s.heap.objs.size<=a):a∉X.fs:=fun hb=>by
 obtain⟨_,o,ho,_⟩:=I.ok.aLa.mem hb
 exact absurd (Nat.lt_of_lt_of_le (Heap.lt_size ho) (Nat.le_trans I.sz h)) (Nat.lt_irrefl _)
theorem Inv.cne (I:Inv X pins σ H s): ∀x c,X.env.cells.lookup x=some c->c≠X.env.locals:=fun x c e z=>by
 obtain⟨v,o,ho,hd⟩:=I.cell x c e
 obtain⟨m,⟨o',es,ep,ho',hd',_⟩,_⟩:=I.loc
 rw [z,ho'] at ho;cases ho;rw [hd'] at hd;cases hd
theorem Inv.aLa (I:Inv X pins σ H s):s.heap.FunFrames X.base X.outer:=by
 have all: ∀(l:List Env),(∀b∈frs l,b∈X.fs)->X.s_0.heap.FunFrames X.base l->s.heap.FunFrames X.base l:=by
  intro l
  induction l with
  |nil=>intro _ _;trivial
  |cons env r ih=>
   intro hs hl
   obtain⟨hk,⟨L,o,hf,hn,ho,hd⟩,hr⟩:=hl
   have hL:L∈X.fs:=hs L (by unfold frs;rw [List.filterMap_cons,hf];exact List.mem_cons_self)
   obtain⟨sl,e⟩:=I.base.slot L o ho (I.ok.frf L hL) hL fun z=>I.ok.exfs L z hL
   exact⟨hk,⟨L,_,hf,hn,e,hd⟩,ih (fun b hb=>hs b (by unfold frs;rw [List.filterMap_cons,hf];exact List.mem_cons_of_mem _ hb)) hr⟩
 exact all X.outer (fun _ hb=>hb) I.ok.aLa
theorem Inv.stack (I:Inv X pins σ H s):s.heap.FunFrames X.base X.stack:=by
 rcases I.ok.stk with e|⟨e,hf⟩
 . rw [e];exact I.aLa
 . rw [e]
   obtain⟨m,hn,_⟩:=I.loc
   refine .cons (by rw [I.ok.kind];decide) hf hn ?_ I.aLa
   exact Heap.get?_none_of_le (Nat.le_trans I.ok.bsz I.ok.above)
theorem Inv.bDq (I:Inv X pins σ H s): ∀b∈frs X.stack,b∈X.env.locals::X.fs:=fun b hb=>by
 rcases I.ok.stk with e|⟨e,hf⟩
 . rw [e] at hb;exact List.mem_cons_of_mem _ hb
 . rw [e] at hb
   unfold frs at hb
   rw [List.filterMap_cons,hf] at hb
   exact hb
theorem Inv.bFh (I:Inv X pins σ H s): ∀b∈frs X.stack,H b=none:=fun b hb=>by
 rcases List.mem_cons.mp (I.bDq b hb) with e|hb
 . rw [e];exact I.free
 . obtain⟨_,o,ho,_⟩:=I.ok.aLa.mem hb
   exact I.base.free b o ho (I.ok.frf b hb) fun z=>I.ok.exfs b z hb
theorem Inv.step {g':Array GenState} {t':Nat} {d':Drawn} {ch:List Addr} (I:Inv X pins σ H s)
 (hch: ∀b∈ch,(b∈X.ex\/X.s_0.heap.objs.size<=b)/\b≠X.env.locals/\(∀x c,X.env.cells.lookup x=some c->c≠b)/\ ∀p∈X.pn++pins,p.1≠b)
 (keep: ∀b o,b≠X.env.locals->b∉X.fs->b∉ch->s.heap.get? b=some o->H b=none->h'.get? b=some o)
 (slot: ∀b o,b≠X.env.locals->b∈X.fs->b∉ch->s.heap.get? b=some o->H b=none-> ∃sl,h'.get? b=some {o with slots:=sl}) (free: ∀b o,b∉ch->s.heap.get? b=some o->H b=none->H' b=none)
 (there: ∀b o,b∉ch->s.heap.get? b=some o-> ∃o',h'.get? b=some o')
 (tups: ∀b xs,H b=some (.tup xs)->H' b=some (.tup xs)) (frzs: ∀b o u,H b=some (.frz o u)->H' b=some (.frz o u)) (tbls: ∀b ps,H b=some (.tbl ps)-> ∃more,H' b=some (.tbl (ps++more)))
 (ns: ∀m,s.heap.Ns X.env.locals m->h'.Ns X.env.locals m) (hok:HOk X.prog X.w H' h') (hg:AllBare g'):
 Inv X pins σ H' {s with heap:=h',gens:=g',drawn:=d',toks:=t'}:=by
 have neL: ∀b o,X.s_0.heap.get? b=some o->b≠X.env.locals:=fun b o e=>Nat.ne_of_lt (Nat.lt_of_lt_of_le (Heap.lt_size e) I.ok.above)
 have neC: ∀b o,X.s_0.heap.get? b=some o->b∉X.ex->b∉ch:=fun b o e hx hb=>by
  rcases(hch b hb).1 with z|z
  . exact hx z
  . exact absurd (Nat.lt_of_lt_of_le (Heap.lt_size e) z) (Nat.lt_irrefl _)
 have cellK: ∀x c,X.env.cells.lookup x=some c-> ∀v,s.heap.IsCell c v->h'.IsCell c v:=fun x c e v ⟨o,ho,hd⟩=>by
  have nch:c∉ch:=fun z=>(hch c z).2.2.1 x c e rfl
  by_cases hc:c∈X.fs
  . obtain⟨sl,q⟩:=slot c o (I.cne x c e) hc nch ho (I.freeC x c e)
    exact⟨_,q,hd⟩
  . exact⟨o,keep c o (I.cne x c e) hc nch ho (I.freeC x c e),hd⟩
 refine⟨I.ok,I.os,hg,⟨fun b o e n hb hx=> ?_,fun b o e n hb hx=> ?_,fun b o e n hx=> ?_,fun b o e hx=> ?_,fun b xs e=>tups b xs (I.base.tups b xs e),fun b o xs e=>frzs b o xs (I.base.frzs b o xs e),fun b ps e=> ?_⟩,?_,fun x c e=> ?_,?_,fun x c e=> ?_,fun p hp=> ?_,hok,I.len⟩
 . exact keep b o (neL b o e) hb (neC b o e hx) (I.base.keep b o e n hb hx) (I.base.free b o e n hx)
 . obtain⟨sl,e1⟩:=I.base.slot b o e n hb hx
   obtain⟨sl',e2⟩:=slot b _ (neL b o e) hb (neC b o e hx) e1 (I.base.free b o e n hx)
   exact⟨sl',e2⟩
 . obtain⟨o',e1⟩:=I.base.there b o e hx
   exact free b o' (neC b o e hx) e1 (I.base.free b o e n hx)
 . obtain⟨o',e1⟩:=I.base.there b o e hx
   exact there b o' (neC b o e hx) e1
 . obtain⟨m1,e1⟩:=I.base.tbls b ps e
   obtain⟨m2,e2⟩:=tbls b _ e1
   exact⟨m1++m2,by rw [e2,Array.append_assoc]⟩
 . obtain⟨m,hn,hl⟩:=I.loc
   refine⟨m,ns m hn,fun i x v e1 e2 e3=> ?_⟩
   obtain⟨u,r,l⟩:=hl i x v e1 e2 e3
   refine⟨u,r,?_⟩
   rcases l with l|⟨k,c,e,z⟩
   . exact .inl l
   . exact .inr ⟨k,c,e,cellK x c e _ z⟩
 . obtain⟨v,z⟩:=I.cell x c e
   exact⟨v,cellK x c e v z⟩
 . obtain⟨m,⟨o,_,_,ho,_⟩,_⟩:=I.loc
   exact free _ o (fun z=>(hch _ z).2.1 rfl) ho I.free
 . obtain⟨v,o,ho,hd⟩:=I.cell x c e
   exact free c o (fun z=>(hch c z).2.2.1 x c e rfl) ho (I.freeC x c e)
 . obtain⟨e,n,ne,nf,d⟩:=I.pin p hp
   have nch:p.1∉ch:=fun z=>(hch p.1 z).2.2.2 p hp rfl
   exact⟨keep p.1 p.2 ne nf nch e n,free p.1 p.2 nch e n,ne,nf,d⟩
theorem Inv.un {t':Nat} (I:Inv X pins σ H s) (u:Un X.fs [] H H' s.heap h') (hok:HOk X.prog X.w H' h'):Inv X pins σ H' {s with heap:=h',toks:=t'}:=by
 obtain⟨m,⟨o,es,ep,ho,r⟩,_⟩:=id I.loc
 obtain⟨sl,hL⟩:=u.any ho I.free (by simp)
 exact I.step (g':=s.gens) (d':=s.drawn) (ch:=[]) (fun _ z=>nomatch z) (fun b o _ hb _ e n=>u.keep b o e n hb (by simp)) (fun b o _ hb _ e n=>u.slot b o e n hb (by simp)) (fun b o _ e n=>u.free b o e n (by simp)) (fun b o _ e=>u.there b o e (by simp)) u.tups u.frzs u.tbls (fun m' hm=>by
  obtain⟨o',es',ep',ho',r'⟩:=hm
  rw [ho] at ho';cases ho'
  exact⟨_,es',ep',hL,r'⟩) hok I.bare
theorem Inv.call {g':Array GenState} {t':Nat} {d':Drawn} {ch:List Addr} (I:Inv X pins σ H s) (u:Un (frs X.stack) ch H H' s.heap h') (hok:HOk X.prog X.w H' h') (hg:AllBare g')
 (hch: ∀b∈ch,(b∈X.ex\/X.s_0.heap.objs.size<=b)/\b≠X.env.locals/\(∀x c,X.env.cells.lookup x=some c->c≠b)/\ ∀p∈X.pn++pins,p.1≠b):
 Inv X pins σ H' {s with heap:=h',gens:=g',drawn:=d',toks:=t'}:=by
 obtain⟨m,⟨o,es,ep,ho,r⟩,_⟩:=id I.loc
 obtain⟨sl,hL⟩:=u.any ho I.free fun z=>(hch _ z).2.1 rfl
 exact I.step (ch:=ch) hch (fun b o hL hb hc e n=>u.keep b o e n (fun z=>(List.mem_cons.mp (I.bDq b z)).elim hL hb) hc) (fun b o _ _ hc e n=>u.any e n hc) (fun b o hc e n=>u.free b o e n hc) (fun b o hc e=>u.there b o e hc) u.tups u.frzs u.tbls (fun m' hm=>by
  obtain⟨o',es',ep',ho',r'⟩:=hm
  rw [ho] at ho';cases ho'
  exact⟨_,es',ep',hL,r'⟩) hok hg
theorem Inv.turned {t':Nat} {it:Addr} (I:Inv X pins σ H s) (k: ∀b o,b≠it->s.heap.get? b=some o->h'.get? b=some o) (hn:H it=none) (hL:it≠X.env.locals)
 (h1:it∈X.ex\/X.s_0.heap.objs.size<=it) (h2: ∀x c,X.env.cells.lookup x=some c->c≠it) (h3: ∀p∈X.pn++pins,p.1≠it):Inv X pins σ H {s with heap:=h',toks:=t'}:=by
 have nit: ∀b u,H b=some u->b≠it:=fun b u e z=>by rw [z,hn] at e;cases e
 refine I.step (g':=s.gens) (d':=s.drawn) (ch:=[it]) (fun b hb=> ?_) (fun b o _ _ hc e _=>k b o (fun z=>hc (by simp [z])) e) (fun b o _ _ hc e _=>⟨o.slots,k b o (fun z=>hc (by simp [z])) e⟩) (fun _ _ _ _ n=>n)
  (fun b o hc e=>⟨o,k b o (fun z=>hc (by simp [z])) e⟩) (fun _ _ e=>e) (fun _ _ _ e=>e) (fun b ps e=>⟨#[],by rw [e];simp⟩) (fun m hm=> ?_) (fun b u e=> ?_) I.bare
 . have e:b=it:=by simpa using hb
   subst e
   exact⟨h1,hL,h2,h3⟩
 . obtain⟨o,es,ep,ho,r⟩:=hm
   exact⟨o,es,ep,k _ o (Ne.symm hL) ho,r⟩
 . refine(I.hok b u e).stay (fun c v hc q=>k c v ?_ q) (fun _ q=>q) fun _ _ q=>q
   rcases hc with z|z
   . rw [z];exact nit b u e
   . exact nit c _ z
theorem Inv.tok (I:Inv X pins σ H s) (t:Nat):Inv X pins σ H {s with toks:=t}:=I.un (h':=s.heap) (t':=t) Un.refl I.hok
theorem Inv.kept {t':Nat} (I:Inv X pins σ H s) (k: ∀b u,s.heap.get? b=some u->h'.get? b=some u):Inv X pins σ H {s with heap:=h',toks:=t'}:=I.un (Un.kept k) (I.hok.kept k)
theorem Inv.laid {a:Addr} {o:HO} {t':Nat} (I:Inv X pins σ H s) (k: ∀b u,s.heap.get? b=some u->h'.get? b=some u) (hp:s.heap.objs.size<=a) (new:gK X.prog X.w (upd H a o) h' a o):
 Inv X pins σ (upd H a o) {s with heap:=h',toks:=t'}:=I.un (Un.laid k hp (I.hok.fresh hp)) (I.hok.laid k hp new)
theorem Inv.write {x e:Addr} {o:HO} {t':Nat} (I:Inv X pins σ H s) (mu:Mut (H x)) (he:e=x\/H e=some (.own x)) (k: ∀b u,b≠e->s.heap.get? b=some u->h'.get? b=some u) (heo: ∃u,h'.get? e=some u)
 (new:gK X.prog X.w (upd H x o) h' x o):Inv X pins σ (upd H x o) {s with heap:=h',toks:=t'}:=I.un (Un.write mu he k heo) (I.hok.write mu he k heo new)
theorem Inv.weak {σ':List (Option V)} (I:Inv X pins σ H s) (hl:σ'.length=σ.length) (w: ∀(i:Nat) v,σ'[i]? =some (some v)->σ[i]? =some (some v)):Inv X pins σ' H s:=
 ⟨I.ok,I.os,I.bare,I.base,let⟨m,hn,hl'⟩:=I.loc;⟨m,hn,fun i x v e1 e2 e3=>hl' i x v e1 (w i v e2) e3⟩,I.cell,I.free,I.freeC,I.pin,I.hok,hl.trans I.len⟩
theorem Inv.bFb {pins':List (Addr×Obj)} (I:Inv X pins σ H s) (h: ∀p∈pins',s.heap.get? p.1=some p.2/\H p.1=none/\p.1≠X.env.locals/\p.1∉X.fs/\ ∀v,p.2.data≠ .cell v):Inv X pins' σ H s:=
 ⟨I.ok,I.os,I.bare,I.base,I.loc,I.cell,I.free,I.freeC,fun p hp=>(List.mem_append.mp hp).elim (fun z=>I.pin p (List.mem_append_left _ z)) (h p),I.hok,I.len⟩
theorem aPc {N:List Str} (hN:N.Nodup) {i j:Nat} {x:Str} (a:N[i]? =some x) (b:N[j]? =some x):i=j:=by
 obtain⟨h1,e1⟩:=List.getElem?_eq_some_iff.mp a
 obtain⟨h2,e2⟩:=List.getElem?_eq_some_iff.mp b
 exact(List.getElem_inj hN).mp (e1.trans e2.symm)
theorem aUn {M:Model} {A:Around} {E:Value->Shared->Prop} {i:Nat} {x:Str} {v:V} {u:Value} {Q:Unit->Shared->Prop} (I:Inv X pins σ H s) (hN:X.N.Nodup) (hi:X.N[i]? =some x) (hx:Loc X.env.scope x) (r:RelV v u)
 (h: ∀s',Inv X pins (σ.set i (some v)) H s'->(∃a,Heap.SameBut a s.heap s'.heap/\(a=X.env.locals\/X.env.cells.lookup x=some a))->Q () s') (hf:X.fn x=true\/X.env.scope.names.lookup x=some .local:=by first|exact .inl rfl|exact .inr rfl|assumption):wpAny M A (storeName X.env x u) Q E s:=by
 obtain⟨m,hn,hl⟩:=id I.loc
 have hcls:(X.env.scope.kind== .class||(X.env.scope.kind== .module&&X.env.locals !=X.env.globals))=false:=by rw [I.ok.kind];rfl
 have hiσ:i<σ.length:=by rw [I.len];exact(List.getElem?_eq_some_iff.mp hi).1
 have cne:=I.cne
 have tracked: ∀{a:Addr} {h':Heap},(∃o,s.heap.get? a=some o/\H a=none)->Heap.SameBut a s.heap h'->HOk X.prog X.w H h':=fun {a h'} ha hs b ob e=>by
  obtain⟨_,_,hfree⟩:=ha
  refine(I.hok b ob e).stay (fun c w' hc q=>(hs.2 c ?_).trans q) (fun _ q=>q) fun _ _ q=>q
  rintro rfl
  rcases hc with rfl|hc
  . rw [hfree] at e;cases e
  . rw [hfree] at hc;cases hc
 rcases hx with hk|hk
 . refine wpAny_storeName_local hk hn (fun h' hn' hs=> ?_) hcls
   obtain⟨oL,_,_,hoL,_⟩:=id hn
   refine h _ ⟨I.ok,I.os,I.bare,⟨fun b o e n hb hx=> ?_,fun b o e n hb hx=> ?_,I.base.free,fun b o e hx=> ?_,I.base.tups,I.base.frzs,I.base.tbls⟩,⟨_,hn',fun j y v' e1 e2 e3=> ?_⟩,fun y c e=> ?_,I.free,I.freeC,fun p hp=> ?_,tracked ⟨oL,hoL,I.free⟩ hs,by simpa using I.len⟩ ⟨_,hs,.inl rfl⟩
   . exact(hs.2 b (Nat.ne_of_lt (Nat.lt_of_lt_of_le (Heap.lt_size e) I.ok.above))).trans (I.base.keep b o e n hb hx)
   . obtain⟨sl,e1⟩:=I.base.slot b o e n hb hx
     exact⟨sl,(hs.2 b (Nat.ne_of_lt (Nat.lt_of_lt_of_le (Heap.lt_size e) I.ok.above))).trans e1⟩
   . obtain⟨o',e1⟩:=I.base.there b o e hx
     exact⟨o',(hs.2 b (Nat.ne_of_lt (Nat.lt_of_lt_of_le (Heap.lt_size e) I.ok.above))).trans e1⟩
   . by_cases hj:j=i
     . subst hj
       rw [hi] at e1;cases e1
       rw [List.getElem?_set_self hiσ] at e2
       cases e2
       exact⟨u,r,.inl ⟨hk,by simp⟩⟩
     . rw [List.getElem?_set_ne (Ne.symm hj)] at e2
       obtain⟨u',r',q⟩:=hl j y v' e1 e2 e3
       refine⟨u',r',?_⟩
       rcases q with⟨k,e⟩|⟨k,c,e,z⟩
       . refine .inl ⟨k,?_⟩
         have:y≠x:=fun e=>hj (aPc hN e1 (e ▸ hi))
         simp [this,e]
       . exact .inr ⟨k,c,e,z.sameBut hs (cne y c e)⟩
   . obtain⟨w',z⟩:=I.cell y c e
     exact⟨w',z.sameBut hs (cne y c e)⟩
   . obtain⟨e,n,ne,nf,d⟩:=I.pin p hp
     exact⟨(hs.2 p.1 ne).trans e,n,ne,nf,d⟩
 . have hfn:X.fn x=true:=by
    rcases hf with z|z
    . exact z
    . rw [z] at hk;cases hk
   obtain⟨c,hc⟩:=I.ok.has x (.inl hk)
   obtain⟨w',z⟩:=I.cell x c hc
   refine wpAny_storeName_cell I.ok.kind hk hc z (fun h' hc' hs=> ?_)
   obtain⟨oc,hoc,hocd⟩:=id z
   refine h {s with heap:=h'} ⟨I.ok,I.os,I.bare,⟨fun b o e n hb hx=> ?_,fun b o e n hb hx=> ?_,I.base.free,fun b o e hx=> ?_,I.base.tups,I.base.frzs,I.base.tbls⟩,⟨m,hn.sameBut hs (Ne.symm (cne x c hc)),fun j y v' e1 e2 e3=> ?_⟩,fun y c' e=> ?_,I.free,I.freeC,fun p hp=> ?_,tracked ⟨oc,hoc,I.freeC x c hc⟩ hs,by simpa using I.len⟩ ⟨c,hs,.inr hc⟩
   . exact(hs.2 b (Nat.ne_of_lt (Nat.lt_of_lt_of_le (Heap.lt_size e) (I.ok.cab x c hfn hc)))).trans (I.base.keep b o e n hb hx)
   . obtain⟨sl,e1⟩:=I.base.slot b o e n hb hx
     exact⟨sl,(hs.2 b (Nat.ne_of_lt (Nat.lt_of_lt_of_le (Heap.lt_size e) (I.ok.cab x c hfn hc)))).trans e1⟩
   . obtain⟨o',e1⟩:=I.base.there b o e hx
     exact⟨o',(hs.2 b (Nat.ne_of_lt (Nat.lt_of_lt_of_le (Heap.lt_size e) (I.ok.cab x c hfn hc)))).trans e1⟩
   . by_cases hj:j=i
     . subst hj
       rw [hi] at e1;cases e1
       rw [List.getElem?_set_self hiσ] at e2
       cases e2
       exact⟨u,r,.inr ⟨.inl hk,c,hc,hc'⟩⟩
     . rw [List.getElem?_set_ne (Ne.symm hj)] at e2
       obtain⟨u',r',q⟩:=hl j y v' e1 e2 e3
       refine⟨u',r',?_⟩
       rcases q with q|⟨k,c',e,z'⟩
       . exact .inl q
       . refine .inr ⟨k,c',e,z'.sameBut hs ?_⟩
         rintro rfl
         exact hj (aPc hN e1 (I.ok.inj _ _ _ e hc ▸ hi))
   . by_cases hcc:c'=c
     . subst hcc;exact⟨_,hc'⟩
     . obtain⟨w2,z2⟩:=I.cell y c' e
       exact⟨w2,z2.sameBut hs hcc⟩
   . obtain⟨e,n,ne,nf,d⟩:=I.pin p hp
     refine⟨(hs.2 p.1 ?_).trans e,n,ne,nf,d⟩
     intro q
     rw [q,hoc] at e
     have q':oc=p.2:=Option.some.inj e
     exact d w' (by rw [<-q'];exact hocd)
theorem aQu {M:Model} {A:Around} {E:Value->Shared->Prop} {i:Nat} {x:Str} {v:V} {u:Value} {Q:Unit->Shared->Prop} (I:Inv X pins σ H s) (hN:X.N.Nodup) (hi:X.N[i]? =some x) (hx:Loc X.env.scope x) (r:RelV v u)
 (h: ∀s',Inv X pins (σ.set i (some v)) H s'->Q () s') (hf:X.fn x=true\/X.env.scope.names.lookup x=some .local:=by first|exact .inl rfl|exact .inr rfl|assumption):wpAny M A (storeName X.env x u) Q E s:=
 aUn I hN hi hx r (fun s' I' _=>h s' I') hf
theorem Inv.call' {s':Shared} {ch:List Addr} (I:Inv X pins σ H s) (ho:s'.os=s.os) (u:Un (frs X.stack) ch H H' s.heap s'.heap) (hok:HOk X.prog X.w H' s'.heap) (hg:AllBare s'.gens)
 (hch: ∀b∈ch,(b∈X.ex\/X.s_0.heap.objs.size<=b)/\b≠X.env.locals/\(∀x c,X.env.cells.lookup x=some c->c≠b)/\ ∀p∈X.pn++pins,p.1≠b):Inv X pins σ H' s':=by
 obtain⟨h',g',d',t',o'⟩:=s'
 have e:o'=s.os:=ho
 subst e
 exact I.call (g':=g') (t':=t') (d':=d') u hok hg hch
end
abbrev XK:=Value->Option Addr->Hp->Prop
abbrev St:=List (Option V)
abbrev VK:=V->Hp->Prop
abbrev TE:=St->Hp->VK->Prop
abbrev TT:=St->Hp->(Bool->Hp->Prop)->Prop
abbrev TA:=St->Hp->(List V->Hp->Prop)->Prop
structure Ends where
 nx:St->Hp->Prop
 rt:VK
 bk:St->Hp->Prop:=fun _ _=>False
 ct:St->Hp->Prop:=fun _ _=>False
abbrev TS:=Ends->St->Hp->Prop
def EP (X:Cx) (pins:List (Addr×Obj)) (σ:St) (Q:VK) (u:Value) (s':Shared):Prop:= ∃v H',Inv X pins σ H' s'/\RelV v u/\Q v H'
def TP (X:Cx) (pins:List (Addr×Obj)) (σ:St) (Q:Bool->Hp->Prop) (b:Bool) (s':Shared):Prop:= ∃H',Inv X pins σ H' s'/\Q b H'
def AP (X:Cx) (pins:List (Addr×Obj)) (σ:St) (Q:List V->Hp->Prop) (us:List Value) (s':Shared):Prop:= ∃vs H',Inv X pins σ H' s'/\Vals vs us/\Q vs H'
def SP (X:Cx) (pins:List (Addr×Obj)) (D:Ends) (f:Flow) (s':Shared):Prop:=
 match f with
 | .next=> ∃σ' H',Inv X pins σ' H' s'/\D.nx σ' H'
 | .brk=> ∃σ' H',Inv X pins σ' H' s'/\D.bk σ' H'
 | .cont=> ∃σ' H',Inv X pins σ' H' s'/\D.ct σ' H'
 | .ret u=> ∃v σ' H',Inv X pins σ' H' s'/\RelV v u/\D.rt v H'
def PE (X:Cx) (e:Expr) (t:TE):Prop:=
 ∀(pins:List (Addr×Obj)) (s:Shared) (σ:St) (H:Hp) (Q:VK),Inv X pins σ H s->t σ H Q->wpAny (model X.prog X.w) X.A (eval e X.env) (EP X pins σ Q) X.xe s
def PT (X:Cx) (e:Expr) (t:TT):Prop:=
 ∀(pins:List (Addr×Obj)) (s:Shared) (σ:St) (H:Hp) (Q:Bool->Hp->Prop),Inv X pins σ H s->t σ H Q->wpAny (model X.prog X.w) X.A (isTrue e X.env (eval e X.env)) (TP X pins σ Q) X.xe s
def PW (X:Cx) (e:Expr) (t:TT):Prop:=
 ∀(whole:Sem Value) (pins:List (Addr×Obj)) (s:Shared) (σ:St) (H:Hp) (Q:Bool->Hp->Prop),Inv X pins σ H s->t σ H Q->wpAny (model X.prog X.w) X.A (isTrue e X.env whole) (TP X pins σ Q) X.xe s
theorem PW.pt {X:Cx} {e:Expr} {t:TT} (h:PW X e t):PT X e t:=h _
def PA (X:Cx) (es:List Expr) (t:TA):Prop:=
 ∀(pos:Pos) (pins:List (Addr×Obj)) (s:Shared) (σ:St) (H:Hp) (Q:List V->Hp->Prop),Inv X pins σ H s->t σ H Q->wpAny (model X.prog X.w) X.A (spliced (backTo pos (starEach es X.env))) (AP X pins σ Q) X.xe s
def PS (X:Cx) (st:Stmt) (t:TS):Prop:=
 ∀(pins:List (Addr×Obj)) (s:Shared) (σ:St) (H:Hp) (D:Ends),Inv X pins σ H s->t D σ H->wpAny (model X.prog X.w) X.A (exec st X.env) (SP X pins D) X.xe s
def PSs (X:Cx) (st:List Stmt) (t:TS):Prop:=
 ∀(pins:List (Addr×Obj)) (s:Shared) (σ:St) (H:Hp) (D:Ends),Inv X pins σ H s->t D σ H->wpAny (model X.prog X.w) X.A (execs st X.env) (SP X pins D) X.xe s
theorem thn {α:Type} {t:Sem α} {Q Q':α->Shared->Prop} {M:Model} {A:Around} {E:Value->Shared->Prop} {s:Shared} (h:wpAny M A t Q E s) (hQ: ∀a s,Q a s->Q' a s):wpAny M A t Q' E s:=wpAny_mono h hQ fun _ _ x=>x
end L2
namespace L2
open PySem PySem.Spec PyProof.Rows
section
variable {X:Cx}
theorem bin {a b:Expr} {ta tb:TE} (ha:PE X a ta) (hb:PE X b tb) {pins:List (Addr×Obj)} {s:Shared} {σ:St} {H:Hp} {R:V->V->Hp->Prop} (I:Inv X pins σ H s) (h:ta σ H fun x H1=>tb σ H1 fun y H2=>R x y H2)
 {α:Type} {Q:α->Shared->Prop} {f:Value->Value->Sem α}
 (hf: ∀v u s2 x y H2,Inv X pins σ H2 s2->RelV x v->RelV y u->R x y H2->wpAny (model X.prog X.w) X.A (f v u) Q X.xe s2):
 wpAny (model X.prog X.w) X.A (eval a X.env) (fun v s₁=>wpAny (model X.prog X.w) X.A (eval b X.env) (fun u s₂=>wpAny (model X.prog X.w) X.A (f v u) Q X.xe s₂) X.xe s₁) X.xe s:=by
 refine thn (ha pins s σ H _ I h) fun v s1 ⟨x,H1,I1,r1,q1⟩=> ?_
 refine thn (hb pins s1 σ H1 _ I1 q1) fun u s2 ⟨y,H2,I2,r2,q2⟩=> ?_
 exact hf v u s2 x y H2 I2 r1 r2 q2
inductive bNp (i:Nat) (σ:St) (H:Hp) (Q:VK):Prop|mk (v:V) (z0:σ[i]? =some (some v)) (z1:Q v H) theorem bMw {i:Nat} {σ:St} {H:Hp} {Q:VK}:bNp i σ H Q↔ ∃v,σ[i]? =some (some v)/\Q v H:=⟨fun⟨v,z0,z1⟩=>⟨v,z0,z1⟩,fun⟨v,z0,z1⟩=>⟨v,z0,z1⟩⟩ def bMv (i:Nat):TE:=fun σ H Q=>bNp i σ H Q
def tC (v:V):TE:=fun _ H Q=>Q v H
theorem bPa {i:Nat} {x:Str} {pos:Pos} (hN:X.N[i]? =some x) (hv:Vis X.env.scope x) (hd:(x==("__debug__":Str))=false:=by decide) (hcd:(x==("__classdict__":Str))=false:=by decide):PE X (.Name x pos) (bMv i):=by
 intro pins s σ H Q I h
 obtain⟨v,e,h⟩:=h
 obtain⟨m,hn,hl⟩:=I.loc
 obtain⟨u,r,l⟩:=hl i x v hN e hv
 have fin:EP X pins σ Q u s:=⟨v,H,I,r,h⟩
 rcases l with⟨hk,hm⟩|⟨hk,c,hc,hcell⟩
 . exact wpAny_Name (wpAny_loadName_local I.ok.kind hk hn hm fin) hd
 . rcases hk with hk|hk
   . exact wpAny_Name (wpAny_loadName_cell I.ok.kind hk hc hcell fin) hd
   . exact wpAny_Name (wpAny_loadName_free I.ok.kind hk hc hcell fin hcd) hd
theorem aN {i j pos}:PE X (.Constant (.int i) j pos) (tC (.int i)):=fun _ _ _ H _ I h=>wpAny_Constant_int ⟨.int i,H,I.tok _,⟨_,rfl⟩,h⟩
theorem bJf {b j pos}:PE X (.Constant (.bool b) j pos) (tC (.bl b)):=fun _ _ _ H _ I h=>Constant_bool ⟨.bl b,H,I,rfl,h⟩
theorem bOz {j pos}:PE X (.Constant .none j pos) (tC .non):=fun _ _ _ H _ I h=>Constant_none ⟨.non,H,I,rfl,h⟩
def Gl (X:Cx) (x:Str):Prop:=X.env.kindOf x=some .globalImplicit
theorem uG {E:Value->Shared->Prop} {pins:List (Addr×Obj)} {s:Shared} {σ:St} {H:Hp} {x:Str} {u:Value} {pos:Pos} {Q:Value->Shared->Prop} (I:Inv X pins σ H s) (hg:Gl X x) (hm:X.mg x=some u) (h:Q u s)
 (hd:(x==("__debug__":Str))=false:=by decide):wpAny (model X.prog X.w) X.A (eval (.Name x pos) X.env) Q E s:=
 Calls.Name_function_global I.ok.kind hg (Calls.loadGlobal_global (by rw [I.ok.glob];exact I.mod.glob.keeps I.bk) hm h) hd
theorem rR {E:Value->Shared->Prop} {pins:List (Addr×Obj)} {s:Shared} {σ:St} {H:Hp} {x:Str} {u:Value} {pos:Pos} {Q:Value->Shared->Prop} (I:Inv X pins σ H s) (hg:Gl X x) (hm:X.mg x=none) (hv:bootBuiltins x=some u) (h:Q u s)
 (hn:x≠"__name__":=by decide) (hd:(x==("__debug__":Str))=false:=by decide):wpAny (model X.prog X.w) X.A (eval (.Name x pos) X.env) Q E s:=by
 obtain⟨mb,h1,h2⟩:=I.mod.blt
 exact Calls.Name_function_global I.ok.kind hg (Calls.loadGlobal_builtin (by rw [I.ok.glob];exact I.mod.glob.keeps I.bk) hm (by rw [I.ok.blt];exact h1.keeps I.bk) ((h2 x hn).trans hv) h) hd
theorem bMc {x:Str} {v:V} {u:Value} {pos:Pos} (hg:Gl X x) (hm:X.mg x=some u) (r:RelV v u) (hd:(x==("__debug__":Str))=false:=by decide):PE X (.Name x pos) (tC v):=
 fun _ _ _ H _ I h=>uG I hg hm ⟨v,H,I,r,h⟩ hd
variable {a b:Expr} {ta tb:TE} {pos:Pos}
def PC (X:Cx) (op:CmpOp) (a b:Expr) (t:TE):Prop:=
 ∀(pins:List (Addr×Obj)) (s:Shared) (σ:St) (H:Hp) (Q:VK),Inv X pins σ H s->t σ H Q->
  wpAny (model X.prog X.w) X.A (eval a X.env) (fun v s₁=>wpAny (model X.prog X.w) X.A (eval b X.env) (fun u s₂=>wpAny (model X.prog X.w) X.A (compareOp op v u) (EP X pins σ Q) X.xe s₂) X.xe s₁) X.xe s
theorem aZx (b:Expr) {op:CmpOp} (h:op≠ .In) (h2:op≠ .NotIn):behindInMarks op b=false:=by
 have e1:(op==CmpOp.In)=false:=by cases op<;>first|rfl|exact absurd rfl h
 have e2:(op==CmpOp.NotIn)=false:=by cases op<;>first|rfl|exact absurd rfl h2
 cases b<;>simp [behindInMarks,e1,e2]
def bTb (ta:TE):TE:=fun σ H Q=>ta σ H fun x H1=>Q (.bl (decide (x= .non))) H1
def bRx (ta:TE):TE:=fun σ H Q=>ta σ H fun x H1=>Q (.bl (!decide (x= .non))) H1
theorem RelV.aZy {x:V} {v:Value} (r:RelV x v):(v==Value.none)=decide (x= .non):=by
 cases x with
 |non=>cases r;rfl
 |bl _=>cases r;rfl
 |int _=>obtain⟨t,rfl⟩:=r;rfl
 |str _=>obtain⟨t,rfl⟩:=r;rfl
 |byt _=>obtain⟨t,rfl⟩:=r;rfl
 |flt _=>obtain⟨t,rfl⟩:=r;rfl
 |ref _=>cases r;rfl
 |ty _=>cases r;rfl
theorem bJe {j pos'} (ha:PE X a ta):PC X .Is a (.Constant .none j pos') (bTb ta):=by
 intro pins s σ H Q I h
 refine thn (ha pins s σ H _ I h) fun v s1 ⟨x,H1,I1,r1,q1⟩=> ?_
 exact Constant_none (is_none_gen ⟨.bl _,H1,I1,by rw [r1.aZy];rfl,q1⟩)
theorem bFa {j pos'} (ha:PE X a ta):PC X .IsNot a (.Constant .none j pos') (bRx ta):=by
 intro pins s σ H Q I h
 refine thn (ha pins s σ H _ I h) fun v s1 ⟨x,H1,I1,r1,q1⟩=> ?_
 exact Constant_none (isnot_none_gen ⟨.bl _,H1,I1,by rw [r1.aZy];rfl,q1⟩)
inductive tBP (x:V) (H1:Hp) (Q:Bool->Hp->Prop):Prop|mk (c:Bool) (z0:x= .bl c) (z1:Q c H1) theorem bRp {x:V} {H1:Hp} {Q:Bool->Hp->Prop}:tBP x H1 Q↔ ∃c,x= .bl c/\Q c H1:=⟨fun⟨c,z0,z1⟩=>⟨c,z0,z1⟩,fun⟨c,z0,z1⟩=>⟨c,z0,z1⟩⟩ def tB (t:TE):TT:=fun σ H Q=>t σ H fun x H1=>tBP x H1 Q
theorem aPt {op:CmpOp} {t:TE} (h:PC X op a b t) (h1:behindInMarks op b=false:=by first|exact aZx _ (by decide) (by decide)|rfl):PE X (.Compare a [op] [b] pos) t:=fun pins s σ H Q I hw=>wpAny_Compare1 (h pins s σ H Q I hw) h1
theorem aDc {op:CmpOp} {t:TE} (h:PC X op a b t) (h1:behindInMarks op b=false:=by first|exact aZx _ (by decide) (by decide)|rfl):PT X (.Compare a [op] [b] pos) (tB t):=by
 intro pins s σ H Q I hw
 refine wpAny_isTrue_Compare1 (thn (h pins s σ H _ I hw) fun v s1 h1=>thn h1 fun u s2 h2=>thn h2 fun c s3 ⟨x,H1,I1,r1,q1⟩=> ?_) h1
 obtain⟨d,rfl,q⟩:=q1
 cases r1
 exact wpAny_truthy_bool ⟨H1,I1,q⟩
theorem cT {e:Expr} {t:TE} (h:PE X e t) (he: ∀whole,isTrue e X.env whole=(do let v<-whole;standAt e.pos;holding [v] (truthy v)):=by intro _;rfl):PT X e (tB t):=by
 intro pins s σ H Q I hw
 refine isTrue_plain (thn (h pins s σ H _ I hw) fun v s1 ⟨x,H1,I1,r1,q1⟩=> ?_) (he _)
 obtain⟨d,rfl,q⟩:=q1
 cases r1
 exact wpAny_truthy_bool ⟨H1,I1,q⟩
variable {tA tB':TT} {rest:List Expr}
def bRn (t u:TT):TT:=fun σ H Q=>t σ H fun c H1=>if c=true then u σ H1 Q else Q false H1
def tOr (t u:TT):TT:=fun σ H Q=>t σ H fun c H1=>if c=true then Q true H1 else u σ H1 Q
def bRw (t:TT):TT:=fun σ H Q=>t σ H fun c H1=>Q (!c) H1
theorem pB (ha:PT X a tA):PW X (.BoolOp .And [a] pos) tA:=by
 intro wh pins s σ H Q I h
 refine isTrue_and (thn (ha pins s σ H Q I h) fun c s1 e=> ?_)
 cases c with
 |true=>exact isTrue_and_nil e
 |false=>exact e
theorem iK (ha:PT X a tA):PW X (.BoolOp .Or [a] pos) tA:=by
 intro wh pins s σ H Q I h
 refine isTrue_or (thn (ha pins s σ H Q I h) fun c s1 e=> ?_)
 cases c with
 |false=>exact isTrue_or_nil e
 |true=>exact e
theorem rY (ha:PT X a tA) (hb:PW X (.BoolOp .And (b::rest) pos) tB'):PW X (.BoolOp .And (a::b::rest) pos) (bRn tA tB'):=by
 intro wh pins s σ H Q I h
 refine isTrue_and (thn (ha pins s σ H _ I h) fun c s1 ⟨H1,I1,q1⟩=> ?_)
 cases c with
 |true=>exact hb wh pins s1 σ H1 Q I1 q1
 |false=>exact⟨H1,I1,q1⟩
theorem kY (ha:PT X a tA) (hb:PW X (.BoolOp .Or (b::rest) pos) tB'):PW X (.BoolOp .Or (a::b::rest) pos) (tOr tA tB'):=by
 intro wh pins s σ H Q I h
 refine isTrue_or (thn (ha pins s σ H _ I h) fun c s1 ⟨H1,I1,q1⟩=> ?_)
 cases c with
 |true=>exact⟨H1,I1,q1⟩
 |false=>exact hb wh pins s1 σ H1 Q I1 q1
theorem eU (ha:PT X a tA):PT X (.UnaryOp .Not a pos) (bRw tA):=by
 intro pins s σ H Q I h
 exact isTrue_not (ha pins s σ H (fun c H1=>Q (!c) H1) I h)
def bNj (ta tb:TE):TE:=fun σ H Q=>ta σ H fun x H1=> ∃c,x= .bl c/\if c=true then tb σ H1 Q else Q (.bl false) H1
def bTd (ta tb:TE):TE:=fun σ H Q=>ta σ H fun x H1=> ∃c,x= .bl c/\if c=true then Q (.bl true) H1 else tb σ H1 Q
def bRy (ta:TE):TE:=fun σ H Q=>ta σ H fun x H1=> ∃c,x= .bl c/\Q (.bl (!c)) H1
theorem bDa {op} {t:TE} (h:PE X a t):PE X (.BoolOp op [a] pos) t:=fun pins s σ H Q I hw=>BoolOp_one (h pins s σ H Q I hw)
theorem bCy (ha:PE X a ta) (hb:PE X (.BoolOp .And (b::rest) pos) tb):PE X (.BoolOp .And (a::b::rest) pos) (bNj ta tb):=by
 intro pins s σ H Q I h
 refine BoolOp_and (thn (ha pins s σ H _ I h) fun v s1 ⟨x,H1,I1,r1,q1⟩=> ?_)
 obtain⟨c,rfl,q1⟩:=q1
 cases r1
 refine wpAny_truthy_bool ?_
 cases c with
 |true=>exact hb pins s1 σ H1 Q I1 q1
 |false=>exact⟨.bl false,H1,I1,rfl,q1⟩
def tIf (t:TT) (ta tb:TE):TE:=fun σ H Q=>t σ H fun c H1=>if c=true then ta σ H1 Q else tb σ H1 Q
theorem tH {c:Expr} (hc:PT X c tA) (ha:PE X a ta) (hb:PE X b tb):PE X (.IfExp c a b pos) (tIf tA ta tb):=by
 intro pins s σ H Q I h
 refine wpAny_IfExp (thn (hc pins s σ H _ I h) fun d s1 ⟨H1,I1,q1⟩=> ?_)
 cases d with
 |true=>exact ha pins s1 σ H1 Q I1 q1
 |false=>exact hb pins s1 σ H1 Q I1 q1
end
end L2
namespace L2
open PySem PySem.Spec PyProof.Rows
def SqL (K:aA) (H:Hp) (a:Addr) (xs:List V):Prop:=
 Rd H a (.lst xs)\/
  ∃(o:Obj) (its:Array Value) (n:Nat),K.lookup a=some o/\o.cls= .type "list"/\o.dict=none/\o.data= .seq its n/\its.size<=sizeLine/\Vals xs its.toList
def SqT (K:aA) (H:Hp) (a:Addr) (xs:List V):Prop:=
 Rd H a (.tup xs)\/
  ∃(o:Obj) (its:Array Value) (n:Nat),K.lookup a=some o/\o.cls= .type "tuple"/\o.data= .seq its n/\its.size<=sizeLine/\Vals xs its.toList
def bSd:Value->Option V
 | .none=>some .non
 | .bool b=>some (.bl b)
 | .int i _=>some (.int i)
 | .str x _=>some (.str x)
 | .bytes b _=>some (.byt b)
 | .float b _=>some (.flt b)
 | .ref a=>some (.ref a)
 | .type n=>some (.ty n)
 |_=>none
theorem RelV.abs {x:V} {u:Value} (r:RelV x u):bSd u=some x:=by
 cases x with
 |non=>cases r;rfl
 |bl _=>cases r;rfl
 |int _=>obtain⟨t,rfl⟩:=r;rfl
 |str _=>obtain⟨t,rfl⟩:=r;rfl
 |byt _=>obtain⟨t,rfl⟩:=r;rfl
 |flt _=>obtain⟨t,rfl⟩:=r;rfl
 |ref _=>cases r;rfl
 |ty _=>cases r;rfl
theorem RelV.inj {x y:V} {u:Value} (r:RelV x u) (q:RelV y u):x=y:=Option.some.inj (r.abs.symm.trans q.abs)
theorem Vals.inj: ∀{xs ys:List V} {us:List Value},Vals xs us->Vals ys us->xs=ys
 |_,_,_,.nil,.nil=>rfl
 |_,_,_,.cons r t,.cons r' t'=>by rw [r.inj r',Vals.inj t t']
section
variable {X:Cx} {pins:List (Addr×Obj)} {σ:St} {H:Hp} {s:Shared} {a:Addr} {xs ys:List V}
theorem SqL.of {K:aA} (h:H a=some (.lst xs)):SqL K H a xs:= .inl (.inl h)
theorem SqT.of {K:aA} (h:H a=some (.tup xs)):SqT K H a xs:= .inl (.inl h)
theorem Inv.list (I:Inv X pins σ H s) (h:SqL X.K H a xs): ∃its:List Value,Vals xs its/\PlainL s.heap a its.toArray/\xs.length<=sizeLine:=by
 rcases h with h|⟨o,its,n,hk,hc,hd,hs,hz,r⟩
 . obtain⟨z,its,n,r,e⟩:=h.ok I.hok
   exact⟨its,r,⟨_,n,e,rfl,rfl,rfl⟩,z⟩
 . refine⟨its.toList,r,⟨o,n,I.kIn a o hk,hc,hd,by simpa using hs⟩,?_⟩
   have e:=r.length
   simp only [Array.length_toList] at e
   omega
theorem Inv.tuple (I:Inv X pins σ H s) (h:SqT X.K H a xs): ∃its:List Value,Vals xs its/\IsTup s.heap a its.toArray/\xs.length<=sizeLine:=by
 rcases h with h|⟨o,its,n,hk,hc,hs,hz,r⟩
 . obtain⟨z,its,r,p⟩:=h.ok I.hok
   exact⟨its,r,p,z⟩
 . refine⟨its.toList,r,⟨o,I.kIn a o hk,hc,n,by simpa using hs⟩,?_⟩
   have e:=r.length
   simp only [Array.length_toList] at e
   omega
theorem Inv.xV (I:Inv X pins σ H s) (h:SqL X.K H a xs) (h':SqL X.K H a ys):xs=ys:=by
 obtain⟨its,r,⟨o,n,e,_,_,d⟩,_⟩:=I.list h
 obtain⟨its',r',⟨o',n',e',_,_,d'⟩,_⟩:=I.list h'
 rw [e] at e';cases e'
 rw [d] at d'
 injection d' with d1 _
 have:its=its':=by simpa using congrArg Array.toList d1
 subst this
 exact r.inj r'
end
abbrev Cx.wish (X:Cx) (E:Value->Shared->Prop):Cx:={X with xe:=E}
abbrev Cx.nox (X:Cx):Cx:=X.wish fun _ _=>False
theorem Cx.Ok.wish {X:Cx} (ok:X.Ok) (E:Value->Shared->Prop):(X.wish E).Ok:=
 ⟨ok.mod,ok.kind,ok.glob,ok.blt,ok.above,ok.inj,ok.has,ok.cab,ok.hd,ok.frames,ok.stk,ok.exf,ok.bs,ok.bsz,ok.noex,ok.exfs,ok.aLa,ok.frf⟩
theorem Cx.Ok.zQ {X:Cx} {E:Value->Shared->Prop} (ok:(X.wish E).Ok):X.Ok:=
 ⟨ok.mod,ok.kind,ok.glob,ok.blt,ok.above,ok.inj,ok.has,ok.cab,ok.hd,ok.frames,ok.stk,ok.exf,ok.bs,ok.bsz,ok.noex,ok.exfs,ok.aLa,ok.frf⟩
section
variable {X:Cx} {pins:List (Addr×Obj)} {σ:St} {H:Hp} {s:Shared} {E:Value->Shared->Prop}
theorem Inv.wish (I:Inv X pins σ H s) (E:Value->Shared->Prop):Inv (X.wish E) pins σ H s:=⟨I.ok.wish E,I.os,I.bare,I.base,I.loc,I.cell,I.free,I.freeC,I.pin,I.hok,I.len⟩
theorem Inv.zQ (I:Inv (X.wish E) pins σ H s):Inv X pins σ H s:=⟨I.ok.zQ,I.os,I.bare,I.base,I.loc,I.cell,I.free,I.freeC,I.pin,I.hok,I.len⟩
theorem SP.zQ {D:Ends} {f:Flow} {s':Shared} (h:SP (X.wish E) pins D f s'):SP X pins D f s':=by
 cases f with
 |next=>obtain⟨σ',H',I,q⟩:=h;exact⟨σ',H',I.zQ,q⟩
 |brk=>obtain⟨σ',H',I,q⟩:=h;exact⟨σ',H',I.zQ,q⟩
 |cont=>obtain⟨σ',H',I,q⟩:=h;exact⟨σ',H',I.zQ,q⟩
 |ret u=>obtain⟨v,σ',H',I,r,q⟩:=h;exact⟨v,σ',H',I.zQ,r,q⟩
theorem PSs.nox {st:List Stmt} {t:TS} (h:PSs X.nox st t):PSs X st t:=fun pins s σ H D I hw=>
 wpAny_mono (h pins s σ H D (I.wish _) hw) (fun _ _ q=>q.zQ) fun _ _ z=>False.elim z
end
section
variable {X:Cx} {st:Stmt} {rest:List Stmt} {t u:TS} {e:Expr} {te:TE} {pos:Pos}
def bNn:TS:=fun D σ H=>D.nx σ H
def bKl (t u:TS):TS:=fun D σ H=>t {D with nx:=u D} σ H
theorem bB:PSs X [] bNn:=fun _ _ σ H _ I h=>wpAny_execs_nil ⟨σ,H,I,h⟩
theorem aK (h1:PS X st t) (h2:PSs X rest u):PSs X (st::rest) (bKl t u):=by
 intro pins s σ H D I h
 refine wpAny_execs_cons (thn (h1 pins s σ H {D with nx:=u D} I h) fun f s1 q=> ?_)
 cases f with
 |next=>
  obtain⟨σ',H',I',q⟩:=q
  exact h2 pins s1 σ' H' D I' q
 |ret v=>exact q
 |brk=>exact q
 |cont=>exact q
theorem aM (h1:PS X st t):PSs X [st] t:=by
 intro pins s σ H D I h
 refine wpAny_execs_cons (thn (h1 pins s σ H D I h) fun f s1 q=> ?_)
 cases f with
 |next=>exact wpAny_execs_nil q
 |ret v=>exact q
 |brk=>exact q
 |cont=>exact q
theorem Inv.quiet {pins:List (Addr×Obj)} {σ:St} {H:Hp} {s:Shared} (I:Inv X pins σ H s):interactive X.env=false:=by simp [interactive,I.ok.kind]
def bNl (te:TE):TS:=fun D σ H=>te σ H fun _ H1=>D.nx σ H1
theorem fB (he:PE X e te) (hs:swapsWith e none pos.line X.env=pure false:=by rfl):PS X (.Expr e pos) (bNl te):=by
 intro pins s σ H D I h
 exact wpAny_Expr_any (thn (he pins s σ H _ I h) fun v s1 ⟨x,H1,I1,r1,q1⟩=>⟨σ,H1,I1,q1⟩) I.quiet hs
def bRz (te:TE):TS:=fun D σ H=>te σ H D.rt
theorem aU (he:PE X e te):PS X (.Return (some e) pos) (bRz te):=by
 intro pins s σ H D I h
 exact wpAny_Return_some (thn (he pins s σ H _ I h) fun v s1 ⟨x,H1,I1,r1,q1⟩=>⟨x,σ,H1,I1,r1,q1⟩)
def bRu (c:TT) (t u:TS):TS:=fun D σ H=>c σ H fun b H1=>if b=true then t D σ H1 else u D σ H1
theorem bR {c:Expr} {a b:List Stmt} {tc:TT} (hc:PT X c tc) (ha:PSs X a t) (hb:PSs X b u):PS X (.If c a b pos) (bRu tc t u):=by
 intro pins s σ H D I h
 refine wpAny_If (thn (hc pins s σ H _ I h) fun d s1 ⟨H1,I1,q1⟩=> ?_)
 cases d with
 |true=>exact ha pins s1 σ H1 D I1 q1
 |false=>exact hb pins s1 σ H1 D I1 q1
end
abbrev TG:=V->St->Hp->(St->Hp->Prop)->Prop
abbrev TGs:=List V->St->Hp->(St->Hp->Prop)->Prop
def PG (X:Cx) (target:Expr) (t:TG):Prop:=
 ∀(pins:List (Addr×Obj)) (s:Shared) (σ:St) (H:Hp) (v:V) (u:Value) (Q:St->Hp->Prop),Inv X pins σ H s->RelV v u->t v σ H Q->
  wpAny (model X.prog X.w) X.A (assign target X.env u) (fun _ s'=> ∃σ' H',Inv X pins σ' H' s'/\Q σ' H') X.xe s
def PGs (X:Cx) (ts:List Expr) (t:TGs):Prop:=
 ∀(pins:List (Addr×Obj)) (s:Shared) (σ:St) (H:Hp) (vs:List V) (us:List Value) (Q:St->Hp->Prop),Inv X pins σ H s->Vals vs us->t vs σ H Q->
  wpAny (model X.prog X.w) X.A (assignInOrder ((assignEach ts X.env).map (·.2)) us) (fun _ s'=> ∃σ' H',Inv X pins σ' H' s'/\Q σ' H') X.xe s
abbrev bNw:=V->V->V->Hp->(Hp->Prop)->Prop
def bPz (X:Cx) (t:bNw):Prop:=
 ∀(pins:List (Addr×Obj)) (s:Shared) (σ:St) (H:Hp) (o i v:V) (ov iv u:Value) (Q:Hp->Prop),Inv X pins σ H s->RelV o ov->RelV i iv->RelV v u->t o i v H Q->
  wpAny (model X.prog X.w) X.A (setItem ov iv u) (fun _ s'=> ∃H',Inv X pins σ H' s'/\Q H') X.xe s
abbrev TIp:=V->V->Hp->VK->Prop
def PIp (X:Cx) (op:Operator) (t:TIp):Prop:=
 ∀(pins:List (Addr×Obj)) (s:Shared) (σ:St) (H:Hp) (x y:V) (v u:Value) (Q:VK),Inv X pins σ H s->RelV x v->RelV y u->t x y H Q->
  wpAny (model X.prog X.w) X.A (inplaceOp op v u) (EP X pins σ Q) X.xe s
section
variable {X:Cx} {pos:Pos}
def aJw (i:Nat):TG:=fun v σ H Q=>Q (σ.set i (some v)) H
theorem cM {i:Nat} {x:Str} (hN:X.N.Nodup) (hi:X.N[i]? =some x) (hx:Loc X.env.scope x) (hf:X.fn x=true\/X.env.scope.names.lookup x=some .local:=by first|exact .inl rfl|exact .inr rfl|assumption):PG X (.Name x pos) (aJw i):=by
 intro pins s σ H v u Q I r h
 exact wpAny_assign_Name (aQu I hN hi hx r (fun s' I'=>⟨_,H,I',h⟩) hf)
def bSh:TGs:=fun vs σ H Q=>vs=[]/\Q σ H
def bQi (t:TG) (u:TGs):TGs:=fun vs σ H Q=> ∃v r,vs=v::r/\t v σ H fun σ' H'=>u r σ' H' Q
theorem aAe:PGs X [] bSh:=by
 intro pins s σ H vs us Q I r h
 obtain⟨e,h⟩:=h
 subst e
 cases r
 exact assignInOrder_nil ⟨σ,H,I,h⟩
theorem gW {e:Expr} {es:List Expr} {t:TG} {u:TGs} (h1:PG X e t) (h2:PGs X es u)
 (hs:(assignEach (e::es) X.env).map (·.2)=assign e X.env::(assignEach es X.env).map (·.2):=by rfl):PGs X (e::es) (bQi t u):=by
 intro pins s σ H vs us Q I r h
 obtain⟨v,vr,e1,h⟩:=h
 subst e1
 cases r with
 |cons r rr=>
  rw [hs]
  refine assignInOrder_cons (thn (h1 pins s σ H _ _ _ I r h) fun _ s1 ⟨σ1,H1,I1,q1⟩=> ?_)
  exact h2 pins s1 σ1 H1 _ _ Q I1 rr q1
def bQj (K:aA) (n:Nat) (t:TGs):TG:=fun v σ H Q=> ∃a xs,v= .ref a/\SqT K H a xs/\xs.length=n/\t xs σ H Q
theorem aWr {es:List Expr} {k:Nat} {t:TGs} {n:Nat} (hc:X.calm=true) (h:PGs X es t)
 (hn:(assignEach es X.env).length=n:=by rfl) (hst:(assignEach es X.env).findIdx? (·.1)=none:=by rfl):PG X (.Tuple es k pos) (bQj X.K n t):=by
 intro pins s σ H v u Q I r hw
 obtain⟨a,xs,e1,hq,hl,hw⟩:=hw
 subst e1
 cases r
 obtain⟨its,rv,ht,hz⟩:=I.tuple hq
 refine assign_Tuple_tuple (I.ok.hd hc) ht (by simp [hn,<-hl,rv.length]) hst fun h' hx=> ?_
 have I1:Inv X pins σ H {s with heap:=h'}:=I.kept (t':=s.toks) fun b o e=>hx b o (Nat.ne_of_lt (Heap.lt_size e)) e
 exact h pins _ σ H xs _ Q I1 (by simpa using rv) hw
def bHd (te:TE) (g:TG):TS:=fun D σ H=>te σ H fun x H1=>g x σ H1 D.nx
theorem aZ {i:Nat} {x:Str} {e:Expr} {te:TE} {pos':Pos} (hN:X.N.Nodup) (hi:X.N[i]? =some x) (hx:Loc X.env.scope x) (he:PE X e te) (hs:swapsWith e (some (.Name x pos')) pos.line X.env=pure false:=by rfl) (hf:X.fn x=true\/X.env.scope.names.lookup x=some .local:=by first|exact .inl rfl|exact .inr rfl|assumption):
 PS X (.Assign [.Name x pos'] e pos) (bHd te (aJw i)):=by
 intro pins s σ H D I h
 refine wpAny_Assign_Name (thn (he pins s σ H _ I h) fun v s1 ⟨y,H1,I1,r1,q1⟩=> ?_) hs
 exact aQu I1 hN hi hx r1 (fun s2 I2=>⟨_,H1,I2,q1⟩) hf
def bSy (i:Nat) (te:TE) (ti:TIp):TS:=fun D σ H=> ∃x,σ[i]? =some (some x)/\te σ H fun y H1=>ti x y H1 fun z H2=>D.nx (σ.set i (some z)) H2
theorem aWu {i:Nat} {x:Str} {e:Expr} {te:TE} {op:Operator} {ti:TIp} {pos':Pos} (hN:X.N.Nodup) (hi:X.N[i]? =some x) (hx:Loc X.env.scope x) (he:PE X e te) (ho:PIp X op ti) (hf:X.fn x=true\/X.env.scope.names.lookup x=some .local:=by first|exact .inl rfl|exact .inr rfl|assumption):
 PS X (.AugAssign (.Name x pos') op e pos) (bSy i te ti):=by
 intro pins s σ H D I h
 obtain⟨v,e1,h⟩:=h
 obtain⟨m,hn,hl⟩:=I.loc
 have vis:Vis X.env.scope x:=by rcases hx with k|k;exact .inl k;exact .inr (.inl k)
 obtain⟨u,r,l⟩:=hl i x v hi e1 vis
 refine wpAny_AugAssign_Name ?_
 have go:wpAny (model X.prog X.w) X.A (eval e X.env) (fun w s₂=>wpAny (model X.prog X.w) X.A (inplaceOp op u w) (fun r s₃=>wpAny (model X.prog X.w) X.A (storeName X.env x r) (fun _=>SP X pins D .next) X.xe s₃) X.xe s₂) X.xe s:=by
  refine thn (he pins s σ H _ I h) fun w s1 ⟨y,H1,I1,r1,q1⟩=> ?_
  refine thn (ho pins s1 σ H1 v y u w _ I1 r r1 q1) fun z s2 ⟨zv,H2,I2,r2,q2⟩=> ?_
  exact aQu I2 hN hi hx r2 (fun s3 I3=>⟨_,H2,I3,q2⟩) hf
 rcases l with⟨hk,hm⟩|⟨hk,c,hc,hcell⟩
 . exact wpAny_loadName_local I.ok.kind hk hn hm go
 . rcases hk with hk|hk
   . exact wpAny_loadName_cell I.ok.kind hk hc hcell go
   . rcases hx with k|k
     . have:X.env.scope.names.lookup x=some .free:=hk
       rw [k] at this;cases this
     . have:X.env.scope.names.lookup x=some .free:=hk
       rw [k] at this;cases this
def bRo (to ti te:TE) (tget:V->V->Hp->VK->Prop) (tip:TIp) (tset:bNw):TS:=fun D σ H=>to σ H fun o H1=>ti σ H1 fun i H2=>tget o i H2 fun x H3=>te σ H3 fun y H4=>tip x y H4 fun z H5=>tset o i z H5 fun H6=>D.nx σ H6
def bPy (X:Cx) (t:V->V->Hp->VK->Prop):Prop:=
 ∀(pins:List (Addr×Obj)) (s:Shared) (σ:St) (H:Hp) (o i:V) (ov iv:Value) (Q:VK),Inv X pins σ H s->RelV o ov->RelV i iv->t o i H Q->
  wpAny (model X.prog X.w) X.A (getItem ov iv) (EP X pins σ Q) X.xe s
theorem aFi {o i e:Expr} {to ti te:TE} {tget:V->V->Hp->VK->Prop} {tip:TIp} {tset:bNw} {op:Operator} {tpos:Pos} (ho:PE X o to) (hi:PE X i ti) (hg:bPy X tget) (he:PE X e te) (hp:PIp X op tip) (hs:bPz X tset)
 (ha: ∀ov iv new,augStore i ov iv new=(do holding [new,ov,iv] (setItem ov iv new);release [new,ov,iv] [];pure .next):=by intros;rfl):PS X (.AugAssign (.Subscript o i tpos) op e pos) (bRo to ti te tget tip tset):=by
 intro pins s σ H D I h
 refine wpAny_AugAssign_SubscriptAny (thn (ho pins s σ H _ I h) fun ov s1 ⟨x1,H1,I1,r1,q1⟩=> ?_) ha
 refine thn (hi pins s1 σ H1 _ I1 q1) fun iv s2 ⟨x2,H2,I2,r2,q2⟩=> ?_
 refine thn (hg pins s2 σ H2 x1 x2 ov iv _ I2 r1 r2 q2) fun old s3 ⟨x3,H3,I3,r3,q3⟩=> ?_
 refine thn (he pins s3 σ H3 _ I3 q3) fun v s4 ⟨x4,H4,I4,r4,q4⟩=> ?_
 refine thn (hp pins s4 σ H4 x3 x4 old v _ I4 r3 r4 q4) fun new s5 ⟨x5,H5,I5,r5,q5⟩=> ?_
 exact thn (hs pins s5 σ H5 x1 x2 x5 ov iv new _ I5 r1 r2 r5 q5) fun _ s6 ⟨H6,I6,q6⟩=>⟨σ,H6,I6,q6⟩
end
section
variable {X:Cx} {pos:Pos}
def bDs (c:TT) (tb:TS):TS:=fun D σ H=> ∃W:Nat->St->Hp->Prop,(∃m,W m σ H)/\ ∀m σ H,W m σ H->
 c σ H fun b H1=>if b=true then∃N:St->Hp->Prop,(∀σ' H',N σ' H'-> ∃m',m'<m/\W m' σ' H')/\tb {D with nx:=N,ct:=N,bk:=D.nx} σ H1 else D.nx σ H1
theorem tL {c:Expr} {body:List Stmt} {tc:TT} {tb:TS} (hp:PassesOwn (model X.prog X.w) X.A X.env X.xe) (hc:PT X c tc) (hb:PSs X body tb):PS X (.While c body [] pos) (bDs tc tb):=by
 intro pins s σ H D I h
 obtain⟨W,⟨m0,w0⟩,turn⟩:=h
 refine wpAny_While (codeAny_whileLoop (fun n s'=> ∃σ' H',Inv X pins σ' H' s'/\W n σ' H') ?_ m0 ⟨σ,H,I,w0⟩)
 rintro n s1 ⟨σ1,H1,I1,w1⟩
 refine wpAny_passesOwn hp (thn (hc pins s1 σ1 H1 _ I1 (turn n σ1 H1 w1)) fun b s2 ⟨H2,I2,q2⟩=> ?_)
 cases b with
 |true=>
  obtain⟨N,hN,q2⟩:=q2
  rw [aD rfl]
  refine wpAny_passesOwn hp (thn (hb pins s2 σ1 H2 _ I2 q2) fun f s3 q3=> ?_)
  cases f with
  |next=>
   obtain⟨σ3,H3,I3,n3⟩:=q3
   obtain⟨m',hm,w3⟩:=hN σ3 H3 n3
   exact⟨m',hm,σ3,H3,I3,w3⟩
  |cont=>
   obtain⟨σ3,H3,I3,n3⟩:=q3
   obtain⟨m',hm,w3⟩:=hN σ3 H3 n3
   exact⟨m',hm,σ3,H3,I3,w3⟩
  |brk=>exact q3
  |ret v=>exact q3
 |false=>
  rw [aF Bool.false_ne_true]
  exact wpAny_execs_nil ⟨σ1,H2,I2,q2⟩
end
structure It where
 go:Nat->Hp->Prop
 yld:Nat->Hp->V->Hp->Prop
 stop:Nat->Hp->Prop
def aKu (X:Cx) (pins:List (Addr×Obj)) (H:Hp) (b:Addr):Prop:=
 H b=none/\b≠X.env.locals/\b∉X.fs/\(b∈X.ex\/X.s_0.heap.objs.size<=b)/\(∀x c,X.env.cells.lookup x=some c->c≠b)/\ ∀p∈X.pn++pins,p.1≠b
theorem Inv.bFz {X:Cx} {pins:List (Addr×Obj)} {σ:St} {H H':Hp} {s:Shared} {b:Addr} (I:Inv X pins σ H s) (hb:s.heap.objs.size<=b) (hn:H' b=none):aKu X pins H' b:=by
 refine⟨hn,Nat.ne_of_gt (Nat.lt_of_lt_of_le I.lt hb),I.bSo hb,.inr (Nat.le_trans I.sz hb),fun x c e z=> ?_,fun p hp z=> ?_⟩
 . obtain⟨v,q⟩:=I.cell x c e
   exact absurd (Nat.lt_of_lt_of_le q.lt (by rw [z];exact hb)) (Nat.lt_irrefl _)
 . exact absurd (Nat.lt_of_lt_of_le (Heap.lt_size (I.pin p hp).1) (by rw [z];exact hb)) (Nat.lt_irrefl _)
structure Turn (P:Program) (w:World) (K:aA) (tg:Expr) (J:It) (fp:List Addr) (it:Addr) (tn:Nat->Heap->Prop):Prop where
 mem:it∈fp
 obj: ∀i h,tn i h-> ∀b∈fp,∃o,h.get? b=some o/\ ∀v,o.data≠ .cell v
 keep: ∀i h h',tn i h->(∀b∈fp,∀o,h.get? b=some o->h'.get? b=some o)->tn i h'
 item: ∀(X:Cx),X.prog=P->X.w=w->X.K=K->X.calm=true-> ∀(i:Nat) (pins:List (Addr×Obj)) (s:Shared) (σ:St) (H:Hp) (E:Value->Shared->Prop),Inv X pins σ H s->(∀b∈fp,aKu X pins H b)->tn i s.heap->J.go i H->
  wpAny (model P w) X.A (pyNext (.ref it)) (fun r s1=> ∃u,r=some u/\
   wpAny (model P w) X.A (letOwnedTupleGo tg (.ref it) u) (fun _ s2=> ∃x H',Inv X pins σ H' s2/\RelV x u/\J.yld i H x H'/\tn (i+1) s2.heap/\ ∀b∈fp,H' b=none) E s1) E s
 done: ∀(X:Cx),X.prog=P->X.w=w->X.K=K->X.calm=true-> ∀(i:Nat) (pins:List (Addr×Obj)) (s:Shared) (σ:St) (H:Hp) (E:Value->Shared->Prop),Inv X pins σ H s->(∀b∈fp,aKu X pins H b)->tn i s.heap->J.stop i H->
  wpAny (model P w) X.A (pyNext (.ref it)) (fun r s1=>r=none/\Inv X pins σ H s1) E s
 self: ∀(A:Around) (i:Nat) (s:Shared) (Q:Value->Shared->Prop) (E:Value->Shared->Prop),tn i s.heap->Q (.ref it) s->wpAny (model P w) A (pyIter (.ref it)) Q E s
abbrev TI:=St->Hp->(It->Hp->Prop)->Prop
def PIE (X:Cx) (pins:List (Addr×Obj)) (σ:St) (tg:Expr) (R:It->Hp->Prop) (itv:Value) (s2:Shared):Prop:=
 ∃(it:Addr) (fp:List Addr) (tn:Nat->Heap->Prop) (J:It) (H':Hp),itv= .ref it/\Inv X pins σ H' s2/\Turn X.prog X.w X.K tg J fp it tn/\tn 0 s2.heap/\(∀b∈fp,aKu X pins H' b)/\R J H'
def PI (X:Cx) (tg iter:Expr) (wi:TI):Prop:=
 ∀(pins:List (Addr×Obj)) (s:Shared) (σ:St) (H:Hp) (R:It->Hp->Prop),Inv X pins σ H s->wi σ H R->
  wpAny (model X.prog X.w) X.A (eval iter X.env) (fun v s1=>wpAny (model X.prog X.w) X.A (pyIter v) (PIE X pins σ tg R) X.xe s1) X.xe s
theorem bEm {M:Model} {A:Around} {E:Value->Shared->Prop} {s:Shared} {tg:Expr} {it:Addr} {u:Value} {o:Obj} {n:String} {vs:Array Value} {Q:Unit->Shared->Prop} (ho:s.heap.get? it=some o) (hc:o.cls= .type n) (hd:o.data= .fields vs)
 (hn:["enumerate","zip","dict_itemiterator","dict_reverseitemiterator","odict_iterator","itertools.zip_longest","itertools.pairwise"].contains n=false) (hQ:Q () s):wpAny M A (letOwnedTupleGo tg (.ref it) u) Q E s:=by
 unfold letOwnedTupleGo
 cases tg<;>first
  |exact wpAny_pure hQ
  | (cases u<;>first
      |exact wpAny_pure hQ
      | (refine wpAny_bind (wpAny_load ho ?_)
         rw [hc,hd]
         show wpAny M A (if(["enumerate","zip","dict_itemiterator","dict_reverseitemiterator","odict_iterator","itertools.zip_longest","itertools.pairwise"].contains n&&vs[0]? ==some (rawInt _))=true then _ else _) Q E s
         rw [aF (by intro h;rw [hn,Bool.false_and] at h;cases h)]
         exact wpAny_pure hQ))
def Itl (K:aA) (a:Addr):It:=
 ⟨fun i H=> ∃xs x,SqL K H a xs/\xs[i]? =some x,fun i H x H'=>H'=H/\ ∀xs,SqL K H a xs->xs[i]? =some x,fun i H=> ∃xs,SqL K H a xs/\xs.length<=i⟩
def Itr (lo:Int) (n:Nat):It:=⟨fun i _=>i<n,fun i H x H'=>H'=H/\x= .int (lo+i),fun i _=>n<=i⟩
theorem bHh {P:Program} {w:World} {K:aA} {tg:Expr} (a it:Addr):Turn P w K tg (Itl K a) [it] it (fun i h=>h.IsListIter it a i) where
 mem:=by simp
 obj:=fun i h st b hb=>by
  have e:b=it:=by simpa using hb
  subst e
  obtain⟨o,e,c,d⟩:=st
  exact⟨o,e,fun v z=>by rw [d] at z;cases z⟩
 keep:=fun i h h' st k=>st.at fun o e=>k it (by simp) o e
 item:=by
  intro X hP hw hK hc i pins s σ H E I hf st hg
  subst hP hw hK
  obtain⟨xs,x,hq,hx⟩:=hg
  obtain⟨its,rv,p,hz⟩:=I.list hq
  obtain⟨u,hu,ru⟩:=rv.get hx
  obtain⟨f0,f1,f2,f3,f4,f5⟩:=hf it (by simp)
  refine wpAny_pyNext_list_item st p.isList (x:=u) (by simpa using hu) fun h' st' sb=> ?_
  have I1:Inv X pins σ H {s with heap:=h'}:=I.turned (t':=s.toks) (fun b o hb e=>(sb.2 b hb).trans e) f0 f1 f3 f4 f5
  obtain⟨o,e,c,d⟩:=id st'
  exact⟨u,rfl,bEm (s:={s with heap:=h'}) e c d (by decide) ⟨x,H,I1,ru,⟨rfl,fun ys hy=>by rw [I.xV hy hq];exact hx⟩,st',fun b hb=>(hf b hb).1⟩⟩
 done:=by
  intro X hP hw hK hc i pins s σ H E I hf st hg
  subst hP hw hK
  obtain⟨xs,hq,hx⟩:=hg
  obtain⟨its,rv,p,hz⟩:=I.list hq
  obtain⟨f0,f1,f2,f3,f4,f5⟩:=hf it (by simp)
  have hl:=rv.length
  exact wpAny_pyNext_list_end (I.ok.hd hc) st p.isList (by simp;omega) fun h' eb=>⟨rfl,I.turned (t':=s.toks) (fun b o hb e=>eb b o hb e) f0 f1 f3 f4 f5⟩
 self:=fun _ _ _ _ _ st h=>wpAny_pyIter_listiter st h
theorem bDt {P:Program} {w:World} {K:aA} {tg:Expr} (it:Addr) (lo:Int) (n:Nat):Turn P w K tg (Itr lo n) [it] it (fun i h=>IsRangeIter h it (lo+(i:Nat)*1) ((n:Int)-(i:Nat)) 1) where
 mem:=by simp
 obj:=fun i h st b hb=>by
  have e:b=it:=by simpa using hb
  subst e
  exact⟨_,st,fun v z=>by
   have z':Data.fields _=Data.cell v:=z
   cases z'⟩
 keep:=fun i h h' st k=>k it (by simp) _ st
 item:=by
  intro X hP hw hK hc i pins s σ H E I hf st hg
  subst hP hw hK
  obtain⟨f0,f1,f2,f3,f4,f5⟩:=hf it (by simp)
  have W:=Walks.range (prog:=X.prog) (w:=X.w) (I.ok.hd hc) it lo 1 n
  refine W.item i s _ _ hg st fun v h' tk hv st' kk=> ?_
  obtain⟨t,rfl⟩:=hv
  have I1:Inv X pins σ H {s with heap:=h',toks:=tk}:=I.turned (fun b o hb e=>kk b o (by simpa using hb) e) f0 f1 f3 f4 f5
  refine⟨_,rfl,bEm (s:={s with heap:=h',toks:=tk}) (n:="range_iterator") st' rfl rfl (by decide) ⟨.int (lo+i),H,I1,⟨t,?_⟩,⟨rfl,rfl⟩,st',fun b hb=>(hf b hb).1⟩⟩
  rw [Int.mul_one]
 done:=by
  intro X hP hw hK hc i pins s σ H E I hf st hg
  subst hP hw hK
  obtain⟨f0,f1,f2,f3,f4,f5⟩:=hf it (by simp)
  exact wpAny_pyNext_range_end (I.ok.hd hc) st (by have:n<=i:=hg;omega) fun h' eb=>⟨rfl,I.turned (t':=s.toks) (fun b o hb e=>eb b o hb e) f0 f1 f3 f4 f5⟩
 self:=fun _ _ _ _ _ st h=>wpAny_pyIter_rangeiter st h
end L2
namespace L2
open PySem PySem.Spec PyProof.Rows
section
variable {X:Cx} {tg:Expr}
def bQo (K:aA) (tl:TE):TI:=fun σ H R=>tl σ H fun x H1=> ∃a,x= .ref a/\(∃xs,SqL K H1 a xs)/\R (Itl K a) H1
theorem lJ {l:Expr} {tl:TE} (hl:PE X l tl):PI X tg l (bQo X.K tl):=by
 intro pins s σ H R I h
 refine thn (hl pins s σ H _ I h) fun v s1 ⟨x,H1,I1,r1,q1⟩=> ?_
 obtain⟨a,e,⟨xs,hq⟩,q⟩:=q1
 subst e
 cases r1
 obtain⟨its,rv,p,hz⟩:=I1.list hq
 refine wpAny_pyIter_list p.isList ?_
 refine⟨s1.heap.objs.size,[s1.heap.objs.size],_,_,H1,rfl,I1.kept (t':=s1.toks) fun b o e=>Heap.get?_push_of_some _ e,bHh a _,⟨_,Heap.get?_push_size _ rfl,rfl,rfl⟩,fun b hb=> ?_,q⟩
 have e:b=s1.heap.objs.size:=by simpa using hb
 subst e
 exact I1.bFz (Nat.le_refl _) (I1.hok.fresh (Nat.le_refl _))
theorem bAj {pins:List (Addr×Obj)} {σ:St} {H:Hp} {s:Shared} {R:It->Hp->Prop} {E:Value->Shared->Prop} {lo hi:Int} {t u v:Tok} {tk:Nat} (I:Inv X pins σ H s) (h1: -(2 ^ 62)<=lo) (h2:lo<2 ^ 62) (h3: -(2 ^ 62)<=hi) (h4:hi<2 ^ 62)
 (q:R (Itr lo (hi-lo).toNat) H):wpAny (model X.prog X.w) X.A (pyIter (.ref s.heap.objs.size)) (PIE X pins σ tg R) E {s with heap:=s.heap.push {cls:= .type "range",data:= .fields #[.int lo t,.int hi u,.int 1 v]},toks:=tk}:=by
 refine wpAny_pyIter_range (IsRange.new ..) (small_one h1 h2 h3 h4) ?_
 have I1:Inv X pins σ H {s with heap:=s.heap.push {cls:= .type "range",data:= .fields #[.int lo t,.int hi u,.int 1 v]},toks:=tk}:=I.kept fun b o e=>Heap.get?_push_of_some _ e
 refine⟨(s.heap.push {cls:= .type "range",data:= .fields #[.int lo t,.int hi u,.int 1 v]}).objs.size,[(s.heap.push {cls:= .type "range",data:= .fields #[.int lo t,.int hi u,.int 1 v]}).objs.size],_,_,H,rfl,
  I1.kept (t':=tk) fun b o e=>Heap.get?_push_of_some _ e,bDt _ lo (hi-lo).toNat,?_,fun b hb=> ?_,q⟩
 . have e1:lo+((0:Nat):Int)*1=lo:=by simp
   have e2:(((hi-lo).toNat:Nat):Int)-((0:Nat):Int)=Builtin.Range.rangeSize lo hi 1:=by rw [rangeSize_one];split<;>omega
   show IsRangeIter _ _ (lo+((0:Nat):Int)*1) ((((hi-lo).toNat:Nat):Int)-((0:Nat):Int)) 1
   rw [e1,e2]
   exact Heap.get?_push_size _ rfl
 . have e:b=(s.heap.push {cls:= .type "range",data:= .fields #[.int lo t,.int hi u,.int 1 v]}).objs.size:=by simpa using hb
   subst e
   exact I1.bFz (Nat.le_refl _) (I1.hok.fresh (Nat.le_refl _))
def bQp (ta:TA):TI:=fun σ H R=>ta σ H fun vs H1=> ∃j:Int,vs=[.int j]/\ -(2 ^ 62)<=j/\j<2 ^ 62/\R (Itr 0 j.toNat) H1
def bQq (ta:TA):TI:=fun σ H R=>ta σ H fun vs H1=> ∃i j:Int,vs=[.int i,.int j]/\(-(2 ^ 62)<=i/\i<2 ^ 62/\ -(2 ^ 62)<=j/\j<2 ^ 62)/\R (Itr i (j-i).toNat) H1
theorem jF {a:Expr} {ta:TA} {p pos:Pos} (hg:Gl X "range") (hm:X.mg "range"=none) (ha:PA X [a] ta) (hs:starEach [a] X.env=[(false,eval a X.env)]:=by rfl):PI X tg (.Call (.Name "range" p) [a] [] pos) (bQp ta):=by
 intro pins s σ H R I h
 refine Call_ (rR I hg hm boot_range (PyProof.Rows.callWith_type1 (thn (ha pos pins s σ H _ I h) fun us s1 ⟨vs,H1,I1,r1,q1⟩=> ?_) hs rfl))
 obtain⟨j,e,q1,q2,q⟩:=q1
 subst e
 cases r1 with
 |cons r rr=>
  cases rr
  obtain⟨t,rfl⟩:=r
  exact call_range_1 (bAj I1 (by omega) (by omega) q1 q2 (by simpa using q))
theorem aUa {a b:Expr} {ta:TA} {p pos:Pos} (hg:Gl X "range") (hm:X.mg "range"=none) (ha:PA X [a,b] ta) (hs:starEach [a,b] X.env=[(false,eval a X.env),(false,eval b X.env)]:=by rfl) (hs2:starEach [b] X.env=[(false,eval b X.env)]:=by rfl):
 PI X tg (.Call (.Name "range" p) [a,b] [] pos) (bQq ta):=by
 intro pins s σ H R I h
 refine Call_ (rR I hg hm boot_range (PyProof.Rows.callWith_type1 (thn (ha pos pins s σ H _ I h) fun us s1 ⟨vs,H1,I1,r1,q1⟩=> ?_) (by rw [hs,hs2]) (by rw [hs2];rfl)))
 obtain⟨i,j,e,⟨q1,q2,q3,q4⟩,q⟩:=q1
 subst e
 cases r1 with
 |cons r rr=>
  cases rr with
  |cons r' rr=>
   cases rr
   obtain⟨t,rfl⟩:=r
   obtain⟨t',rfl⟩:=r'
   exact call_range_2 (bAj I1 q1 q2 q3 q4 q)
def bTa (wi:TI) (g:TG) (tb:TS):TS:=fun D σ H=>wi σ H fun J H1=> ∃W:Nat->Nat->St->Hp->Prop,(∃m,W 0 m σ H1)/\ ∀i m σ H,W i m σ H->
 (J.stop i H/\D.nx σ H)\/(J.go i H/\ ∃N:St->Hp->Prop,(∀σ' H',N σ' H'-> ∃m',m'<m/\W (i+1) m' σ' H')/\ ∀x H',J.yld i H x H'->g x σ H' fun σ2 H2=>tb {D with nx:=N,ct:=N,bk:=D.nx} σ2 H2)
def aPu (fp:List Addr) (h:Heap):List (Addr×Obj):=fp.filterMap fun b=>(h.get? b).map fun o=>(b,o)
theorem aCu {fp:List Addr} {h:Heap} {b:Addr} {o:Obj} (hb:b∈fp) (e:h.get? b=some o):(b,o)∈aPu fp h:=List.mem_filterMap.mpr ⟨b,hb,by rw [e];rfl⟩
theorem bGi {fp:List Addr} {h:Heap} {p:Addr×Obj} (hp:p∈aPu fp h):p.1∈fp/\h.get? p.1=some p.2:=by
 obtain⟨b,hb,e⟩:=List.mem_filterMap.mp hp
 cases q:h.get? b with
 |none=>rw [q] at e;cases e
 |some o=>
  rw [q] at e
  have e':(b,o)=p:=Option.some.inj e
  subst e'
  exact⟨hb,q⟩
theorem Inv.pinned {pins:List (Addr×Obj)} {σ:St} {H:Hp} {s:Shared} {fp:List Addr} (I:Inv X pins σ H s) (hf: ∀b∈fp,aKu X pins H b) (ho: ∀b∈fp,∃o,s.heap.get? b=some o/\ ∀v,o.data≠ .cell v):Inv X (pins++aPu fp s.heap) σ H s:=
 I.bFb fun p hp=>(List.mem_append.mp hp).elim (fun z=>I.pin p (List.mem_append_right _ z)) fun z=>by
  obtain⟨hb,e⟩:=bGi z
  obtain⟨f0,f1,f2,_⟩:=hf p.1 hb
  obtain⟨o,e',d⟩:=ho p.1 hb
  rw [e] at e';cases e'
  exact⟨e,f0,f1,f2,d⟩
theorem Inv.aHi {pins pl:List (Addr×Obj)} {σ:St} {H:Hp} {s:Shared} (I:Inv X (pins++pl) σ H s):Inv X pins σ H s:=I.bFb fun p hp=>I.pin p (List.mem_append_right _ (List.mem_append_left _ hp))
theorem lK {iter:Expr} {body:List Stmt} {wi:TI} {g:TG} {tb:TS} {pos:Pos} (hp:PassesOwn (model X.prog X.w) X.A X.env X.xe) (hc:X.calm=true) (hi:PI X tg iter wi) (hg:PG X tg g) (hb:PSs X body tb)
 (hs: ∀x,foldedSetIterable iter X.env x=pure x:=by intro _;rfl):PS X (.For tg iter body [] pos) (bTa wi g tb):=by
 intro pins s σ H D I h
 refine wpAny_For (thn (hi pins s σ H _ I h) fun v s1 h1=>thn h1 fun itv s2 h2=> ?_) hs
 obtain⟨it,fp,tn,J,H2,e,I2,T,st2,f2,W,⟨m0,w0⟩,turn⟩:=h2
 subst e
 have stat: ∀{H':Hp},(∀b∈fp,H' b=none)-> ∀b∈fp,aKu X pins H' b:=fun hn b hb=>⟨hn b hb,(f2 b hb).2⟩
 refine codeAny_forLoop_any (fun n s'=> ∃i σ' H',Inv X pins σ' H' s'/\tn i s'.heap/\(∀b∈fp,H' b=none)/\W i n σ' H') ?_ m0 ⟨0,σ,H2,I2,st2,fun b hb=>(f2 b hb).1,w0⟩
 rintro n s3 ⟨i,σ3,H3,I3,st3,fr3,w3⟩
 rcases turn i n σ3 H3 w3 with⟨stop,qn⟩|⟨go,N,hN,step⟩
 . refine wpAny_passesOwn hp (thn (T.done X rfl rfl rfl hc i pins s3 σ3 H3 X.xe I3 (stat fr3) st3 stop) fun r s4 ⟨hr,I4⟩=> ?_)
   subst hr
   exact wpAny_execs_nil ⟨σ3,H3,I4,qn⟩
 . refine wpAny_passesOwn hp (thn (T.item X rfl rfl rfl hc i pins s3 σ3 H3 X.xe I3 (stat fr3) st3 go) fun r s4 ⟨u,hr,h4⟩=> ?_)
   subst hr
   refine wpAny_passesOwn hp (thn h4 fun _ s5 ⟨x,H5,I5,r5,y5,st5,fr5⟩=> ?_)
   have I5':=I5.pinned (stat fr5) (T.obj _ _ st5)
   refine wpAny_passesOwn hp (thn (hg _ s5 σ3 H5 x u _ I5' r5 (step x H5 y5)) fun _ s6 ⟨σ6,H6,I6,q6⟩=> ?_)
   refine wpAny_passesOwn hp (thn (hb _ s6 σ6 H6 _ I6 q6) fun f s7 q7=> ?_)
   have again: ∀{σ7:St} {H7:Hp},Inv X (pins++aPu fp s5.heap) σ7 H7 s7->N σ7 H7-> ∃m,m<n/\ ∃i σ' H',Inv X pins σ' H' s7/\tn i s7.heap/\(∀b∈fp,H' b=none)/\W i m σ' H':=fun {σ7 H7} I7 n7=>by
    obtain⟨m',hm,w7⟩:=hN σ7 H7 n7
    refine⟨m',hm,i+1,σ7,H7,I7.aHi,T.keep _ _ _ st5 fun b hb o e=>(I7.pin (b,o) (List.mem_append_right _ (List.mem_append_right _ (aCu hb e)))).1,fun b hb=> ?_,w7⟩
    obtain⟨o,e,d⟩:=T.obj _ _ st5 b hb
    exact(I7.pin (b,o) (List.mem_append_right _ (List.mem_append_right _ (aCu hb e)))).2.1
   cases f with
   |next=>obtain⟨σ7,H7,I7,n7⟩:=q7;exact again I7 n7
   |cont=>obtain⟨σ7,H7,I7,n7⟩:=q7;exact again I7 n7
   |brk=>obtain⟨σ7,H7,I7,q7⟩:=q7;exact⟨σ7,H7,I7.aHi,q7⟩
   |ret v=>obtain⟨x7,σ7,H7,I7,r7,q7⟩:=q7;exact⟨x7,σ7,H7,I7.aHi,r7,q7⟩
end
theorem aOm {K:aA} {a:Addr} {xs:List V} {g:TG} {tb:TS} {D:Ends} {σ:St} {H:Hp} (Pv:Nat->St->Hp->Prop) (h0:Pv 0 σ H) (hl: ∀i σ H,i<=xs.length->Pv i σ H->SqL K H a xs)
 (hs: ∀i x σ H,xs[i]? =some x->Pv i σ H->g x σ H fun σ2 H2=>tb {D with nx:=Pv (i+1),ct:=Pv (i+1),bk:=D.nx} σ2 H2) (hd: ∀σ H,Pv xs.length σ H->D.nx σ H):
 ∃W:Nat->Nat->St->Hp->Prop,(∃m,W 0 m σ H)/\ ∀i m σ H,W i m σ H->
  ((Itl K a).stop i H/\D.nx σ H)\/((Itl K a).go i H/\ ∃N:St->Hp->Prop,(∀σ' H',N σ' H'-> ∃m',m'<m/\W (i+1) m' σ' H')/\ ∀x H',(Itl K a).yld i H x H'->g x σ H' fun σ2 H2=>tb {D with nx:=N,ct:=N,bk:=D.nx} σ2 H2):=by
 refine⟨fun i m σ H=>m=xs.length-i/\i<=xs.length/\Pv i σ H,⟨xs.length,by simp,Nat.zero_le _,h0⟩,?_⟩
 rintro i m σ H ⟨rfl,hi,p⟩
 have q:=hl i σ H hi p
 by_cases hlt:i<xs.length
 . refine .inr ⟨⟨xs,xs[i],q,by simp [hlt]⟩,Pv (i+1),fun σ' H' p'=>⟨xs.length-(i+1),by omega,rfl,hlt,p'⟩,fun x H' y=> ?_⟩
   obtain⟨e,y⟩:=y
   subst e
   exact hs i x σ _ (y xs q) p
 . have e:i=xs.length:=by omega
   subst e
   exact .inl ⟨⟨xs,q,Nat.le_refl _⟩,hd σ H p⟩
theorem mH {lo:Int} {n:Nat} {g:TG} {tb:TS} {D:Ends} {σ:St} {H:Hp} (Pv:Nat->St->Hp->Prop) (h0:Pv 0 σ H)
 (hs: ∀i σ H,i<n->Pv i σ H->g (.int (lo+i)) σ H fun σ2 H2=>tb {D with nx:=Pv (i+1),ct:=Pv (i+1),bk:=D.nx} σ2 H2) (hd: ∀σ H,Pv n σ H->D.nx σ H):
 ∃W:Nat->Nat->St->Hp->Prop,(∃m,W 0 m σ H)/\ ∀i m σ H,W i m σ H->
  ((Itr lo n).stop i H/\D.nx σ H)\/((Itr lo n).go i H/\ ∃N:St->Hp->Prop,(∀σ' H',N σ' H'-> ∃m',m'<m/\W (i+1) m' σ' H')/\ ∀x H',(Itr lo n).yld i H x H'->g x σ H' fun σ2 H2=>tb {D with nx:=N,ct:=N,bk:=D.nx} σ2 H2):=by
 refine⟨fun i m σ H=>m=n-i/\i<=n/\Pv i σ H,⟨n,by simp,Nat.zero_le _,h0⟩,?_⟩
 rintro i m σ H ⟨rfl,hi,p⟩
 by_cases hlt:i<n
 . refine .inr ⟨hlt,Pv (i+1),fun σ' H' p'=>⟨n-(i+1),by omega,rfl,hlt,p'⟩,fun x H' y=> ?_⟩
   obtain⟨e,y⟩:=y
   subst e y
   exact hs i σ _ hlt p
 . have e:i=n:=by omega
   subst e
   exact .inl ⟨Nat.le_refl _,hd σ H p⟩
end L2
namespace L2
open PySem PySem.Spec PyProof.Rows
abbrev R2:=V->V->Hp->VK->Prop
def OpR (X:Cx) (f:Value->Value->Sem Value) (r:R2):Prop:=
 ∀(pins:List (Addr×Obj)) (s:Shared) (σ:St) (H:Hp) (x y:V) (v u:Value) (Q:VK),Inv X pins σ H s->RelV x v->RelV y u->r x y H Q->
  wpAny (model X.prog X.w) X.A (f v u) (EP X pins σ Q) X.xe s
def UnR (X:Cx) (f:Value->Sem Value) (r:V->Hp->VK->Prop):Prop:=
 ∀(pins:List (Addr×Obj)) (s:Shared) (σ:St) (H:Hp) (x:V) (v:Value) (Q:VK),Inv X pins σ H s->RelV x v->r x H Q->
  wpAny (model X.prog X.w) X.A (f v) (EP X pins σ Q) X.xe s
def sH (X:Cx) (f:Value) (r:List V->Hp->VK->Prop):Prop:=
 ∀(pins:List (Addr×Obj)) (s:Shared) (σ:St) (H:Hp) (xs:List V) (us:List Value) (Q:VK),Inv X pins σ H s->Vals xs us->r xs H Q->
  wpAny (model X.prog X.w) X.A (call f us) (EP X pins σ Q) X.xe s
def tOp (r:R2) (ta tb:TE):TE:=fun σ H Q=>ta σ H fun x H1=>tb σ H1 fun y H2=>r x y H2 Q
def tUn (r:V->Hp->VK->Prop) (ta:TE):TE:=fun σ H Q=>ta σ H fun x H1=>r x H1 Q
inductive rIP (C:Int->Int->Prop) (g:Int->Int->V) (x y:V) (H:Hp) (Q:VK):Prop|mk (i j:Int) (z0:x= .int i) (z1:y= .int j) (z2:C i j) (z3:Q (g i j) H) theorem bRf {C:Int->Int->Prop} {g:Int->Int->V} {x y:V} {H:Hp} {Q:VK}:rIP C g x y H Q↔ ∃i j,x= .int i/\y= .int j/\C i j/\Q (g i j) H:=⟨fun⟨i,j,z0,z1,z2,z3⟩=>⟨i,j,z0,z1,z2,z3⟩,fun⟨i,j,z0,z1,z2,z3⟩=>⟨i,j,z0,z1,z2,z3⟩⟩ def rI (C:Int->Int->Prop) (g:Int->Int->V):R2:=fun x y H Q=>rIP C g x y H Q
inductive bRe (g:Int->Int->V) (x y:V) (H:Hp) (Q:VK):Prop|mk (i j:Int) (z0:x= .int i) (z1:y= .int j) (z2:Q (g i j) H) theorem bPd {g:Int->Int->V} {x y:V} {H:Hp} {Q:VK}:bRe g x y H Q↔ ∃i j,x= .int i/\y= .int j/\Q (g i j) H:=⟨fun⟨i,j,z0,z1,z2⟩=>⟨i,j,z0,z1,z2⟩,fun⟨i,j,z0,z1,z2⟩=>⟨i,j,z0,z1,z2⟩⟩ def rI0 (g:Int->Int->V):R2:=fun x y H Q=>bRe g x y H Q
inductive rUP (g:Int->V) (x:V) (H:Hp) (Q:VK):Prop|mk (i:Int) (z0:x= .int i) (z1:Q (g i) H) theorem bRl {g:Int->V} {x:V} {H:Hp} {Q:VK}:rUP g x H Q↔ ∃i,x= .int i/\Q (g i) H:=⟨fun⟨i,z0,z1⟩=>⟨i,z0,z1⟩,fun⟨i,z0,z1⟩=>⟨i,z0,z1⟩⟩ def rU (g:Int->V):V->Hp->VK->Prop:=fun x H Q=>rUP g x H Q
section
variable {X:Cx} {a b c:Expr} {ta tb tc:TE} {pos:Pos}
theorem bOa (ha:PE X a ta) (hb:PE X b tb) {pins:List (Addr×Obj)} {s:Shared} {σ:St} {H:Hp} {R:V->V->Hp->Prop} (I:Inv X pins σ H s)
 (h:ta σ H fun x H1=>tb σ H1 fun y H2=>R x y H2) {Q:Value->Shared->Prop} {f:Value->Value->Sem Value}
 (hf: ∀v u s2 x y H2,Inv X pins σ H2 s2->RelV x v->RelV y u->R x y H2->wpAny (model X.prog X.w) X.A (f v u) Q X.xe s2):
 wpAny (model X.prog X.w) X.A (eval a X.env) (fun v s₁=>wpAny (model X.prog X.w) X.A (eval b X.env) (fun u s₂=>wpAny (model X.prog X.w) X.A (f v u) Q X.xe s₂) X.xe s₁) X.xe s:=by
 refine thn (ha pins s σ H _ I h) fun v s1 ⟨x,H1,I1,r1,q1⟩=> ?_
 refine thn (hb pins s1 σ H1 _ I1 q1) fun u s2 ⟨y,H2,I2,r2,q2⟩=> ?_
 exact hf v u s2 x y H2 I2 r1 r2 q2
theorem bG {op:Operator} {r:R2} (ho:OpR X (binaryOp op) r) (ha:PE X a ta) (hb:PE X b tb):PE X (.BinOp a op b pos) (tOp r ta tb):=by
 intro pins s σ H Q I h
 exact wpAny_BinOp (bOa ha hb I h fun v u s2 x y H2 I2 rx ry q=>ho pins s2 σ H2 x y v u Q I2 rx ry q)
theorem yE {op:UnaryOp} {r:V->Hp->VK->Prop} (ho:UnR X (unaryOp op) r) (ha:PE X a ta):PE X (.UnaryOp op a pos) (tUn r ta):=by
 intro pins s σ H Q I h
 exact UnaryOp_ (thn (ha pins s σ H _ I h) fun v s1 ⟨x,H1,I1,r1,q1⟩=>ho pins s1 σ H1 x v Q I1 r1 q1)
theorem opI {f:Value->Value->Sem Value} {C:Int->Int->Prop} {g:Int->Int->Int}
 (rule: ∀(i j:Int) (t u:Tok) (s:Shared) (Q:Value->Shared->Prop) (E:Value->Shared->Prop),C i j->Q (.int (g i j) s.toks) {s with toks:=s.toks+1}->wpAny (model X.prog X.w) X.A (f (.int i t) (.int j u)) Q E s):
 OpR X f (rI C fun i j=> .int (g i j)):=by
 intro pins s σ H x y v u Q I rx ry h
 obtain⟨i,j,rfl,rfl,hc,q⟩:=h
 obtain⟨t,rfl⟩:=rx
 obtain⟨t',rfl⟩:=ry
 exact rule i j t t' s _ _ hc ⟨.int (g i j),H,I.tok _,⟨_,rfl⟩,q⟩
theorem bGm {f:Value->Value->Sem Value} {g:Int->Int->Int}
 (rule: ∀(i j:Int) (t u:Tok) (s:Shared) (Q:Value->Shared->Prop) (E:Value->Shared->Prop),Q (.int (g i j) s.toks) {s with toks:=s.toks+1}->wpAny (model X.prog X.w) X.A (f (.int i t) (.int j u)) Q E s):
 OpR X f (rI0 fun i j=> .int (g i j)):=by
 intro pins s σ H x y v u Q I rx ry h
 obtain⟨i,j,rfl,rfl,q⟩:=h
 obtain⟨t,rfl⟩:=rx
 obtain⟨t',rfl⟩:=ry
 exact rule i j t t' s _ _ ⟨.int (g i j),H,I.tok _,⟨_,rfl⟩,q⟩
theorem bMa {f:Value->Value->Sem Value} {g:Int->Int->Bool}
 (rule: ∀(i j:Int) (t u:Tok) (s:Shared) (Q:Value->Shared->Prop) (E:Value->Shared->Prop),Q (.bool (g i j)) s->wpAny (model X.prog X.w) X.A (f (.int i t) (.int j u)) Q E s):
 OpR X f (rI0 fun i j=> .bl (g i j)):=by
 intro pins s σ H x y v u Q I rx ry h
 obtain⟨i,j,rfl,rfl,q⟩:=h
 obtain⟨t,rfl⟩:=rx
 obtain⟨t',rfl⟩:=ry
 exact rule i j t t' s _ _ ⟨.bl (g i j),H,I,rfl,q⟩
def bPx (i j:Int):Prop:=0<j/\j<1073741824
def bSb (i j:Int):Prop:=0<=j/\j<=1000000/\i.natAbs<2 ^ 64
def bNs (i j:Int):Prop:=(-(2 ^ 64)<i/\i<2 ^ 64)\/(-(2 ^ 64)<j/\j<2 ^ 64)
theorem bNs.ok {i j:Int} (h:bNs i j):IntMulOk i j:=by
 rcases h with⟨h1,h2⟩|⟨h1,h2⟩
 . exact .of_left (intBits_le_64 h1 h2)
 . exact .of_right (intBits_le_64 h1 h2)
theorem bDu (k:Nat):(0:Int)<=2 ^ k:=by
 rw [two_pow_cast]
 exact Int.natCast_nonneg _
theorem cR:OpR X (binaryOp .Add) (rI0 fun i j=> .int (i+j)):=bGm fun _ _ _ _ _ _ _ q=>add_int q
theorem dN:OpR X (binaryOp .Sub) (rI0 fun i j=> .int (i-j)):=bGm fun _ _ _ _ _ _ _ q=>sub_int q
theorem lH:OpR X (binaryOp .Mult) (rI bNs fun i j=> .int (i*j)):=opI fun _ _ _ _ _ _ _ hc q=>mul_int q hc.ok
theorem aAd:OpR X (binaryOp .FloorDiv) (rI bPx fun i j=> .int (i/j)):=opI fun i j _ _ _ _ _ hc q=>by
 have h1:(0:Int)<j:=hc.1
 have h2:j<1073741824:=hc.2
 exact floordiv_int (by omega) (by rw [Int.fdiv_eq_ediv_of_nonneg i (by omega)];exact q) (.inl (PyProof.noPylong_small (by omega)))
theorem rW:OpR X (binaryOp .Mod) (rI (fun _ j=>0<j) fun i j=> .int (i%j)):=opI fun i j _ _ _ _ _ hc q=>by
 have h1:(0:Int)<j:=hc
 exact mod_int' (by omega) (by rw [Int.fmod_eq_emod_of_nonneg i (by omega)];exact q)
theorem bJb:OpR X (binaryOp .LShift) (rI bSb fun i j=> .int (i*2 ^ j.toNat)):=opI fun _ _ _ _ _ _ _ hc q=>lshift_int_small hc.1 hc.2.1 hc.2.2 q
theorem uL:OpR X (binaryOp .RShift) (rI (fun _ j=>0<=j) fun i j=> .int (i/2 ^ j.toNat)):=opI fun i j _ _ _ _ _ hc q=>
 rshift_int hc (by rw [Int.fdiv_eq_ediv_of_nonneg i (bDu _)];exact q)
theorem aWo:OpR X (binaryOp .BitAnd) (rI0 fun i j=> .int (Builtin.bitAnd i j)):=bGm fun _ _ _ _ _ _ _ q=>and_int q
theorem bJc:OpR X (binaryOp .BitXor) (rI0 fun i j=> .int (Builtin.bitXor i j)):=bGm fun _ _ _ _ _ _ _ q=>xor_int q
theorem qW:OpR X (inplaceOp .Add) (rI0 fun i j=> .int (i+j)):=bGm fun _ _ _ _ _ _ _ q=>iadd_int q
theorem aZo:OpR X (inplaceOp .FloorDiv) (rI bPx fun i j=> .int (i/j)):=opI fun i j _ _ _ _ _ hc q=>by
 have h1:(0:Int)<j:=hc.1
 have h2:j<1073741824:=hc.2
 exact ifloordiv_int (by omega) (by rw [Int.fdiv_eq_ediv_of_nonneg i (by omega)];exact q) (.inl (PyProof.noPylong_small (by omega)))
theorem bLk:OpR X (inplaceOp .BitXor) (rI0 fun i j=> .int (Builtin.bitXor i j)):=bGm fun _ _ _ _ _ _ _ q=>ixor_int q
theorem unI {f:Value->Sem Value} {g:Int->Int}
 (rule: ∀(i:Int) (t:Tok) (s:Shared) (Q:Value->Shared->Prop) (E:Value->Shared->Prop),Q (.int (g i) s.toks) {s with toks:=s.toks+1}->wpAny (model X.prog X.w) X.A (f (.int i t)) Q E s):
 UnR X f (rU fun i=> .int (g i)):=by
 intro pins s σ H x v Q I rx h
 obtain⟨i,rfl,q⟩:=h
 obtain⟨t,rfl⟩:=rx
 exact rule i t s _ _ ⟨.int (g i),H,I.tok _,⟨_,rfl⟩,q⟩
theorem qP:UnR X (unaryOp .USub) (rU fun i=> .int (-i)):=unI fun _ _ _ _ _ q=>neg_int q
end
def bPh:V->V->Bool
 | .non,.non=>true| .non,.int _=>true| .int _,.non=>true| .non,.bl _=>true| .bl _,.non=>true| .non,.str _=>true| .str _,.non=>true
 | .int _,.int _=>true| .bl _,.bl _=>true| .str _,.str _=>true| .byt _,.byt _=>true
 | .int _,.str _=>true| .str _,.int _=>true| .bl _,.str _=>true| .str _,.bl _=>true
 |_,_=>false
def rEq:R2:=fun x y H Q=>bPh x y=true/\Q (.bl (decide (x=y))) H
def rNe:R2:=fun x y H Q=>bPh x y=true/\Q (.bl (!decide (x=y))) H
theorem dR {i j:Int}:decide (V.int i=V.int j)=(i==j):=by
 rw [Bool.eq_iff_iff]
 simp
theorem bHw {i j:Bool}:decide (V.bl i=V.bl j)=(i==j):=by
 rw [Bool.eq_iff_iff]
 simp
theorem bEf {i j:Str}:decide (V.str i=V.str j)=(i==j):=by
 rw [Bool.eq_iff_iff]
 simp
theorem bEe {i j:Array UInt8}:decide (V.byt i=V.byt j)=(i.toList==j.toList):=by
 rw [Bool.eq_iff_iff]
 cases i
 cases j
 simp
section
variable {X:Cx} {a b c:Expr} {ta tb tc:TE} {pos:Pos}
theorem dM {pins:List (Addr×Obj)} {σ:St} {H:Hp} {s:Shared} {Q:VK} {k k':Bool} (I:Inv X pins σ H s) (q:Q (.bl k) H) (e:k=k'):EP X pins σ Q (.bool k') s:=by
 subst e
 exact⟨.bl k,H,I,rfl,q⟩
theorem nG:OpR X (compareOp .Eq) rEq:=by
 intro pins s σ H x y v u Q I rx ry h
 obtain⟨hs,q⟩:=h
 cases x with
 |non=>
  cases rx
  cases y with
  |non=>cases ry;exact PySem.EqNone.eq_none_none (dM I q (by simp))
  |bl j=>cases ry;exact PySem.EqNone.eq_none_bool (dM I q (by simp))
  |int j=>obtain⟨t',rfl⟩:=ry;exact PySem.EqNone.eq_none_int (dM I q (by simp))
  |str j=>obtain⟨t',rfl⟩:=ry;exact PySem.EqNone.eq_none_str (dM I q (by simp))
  |_=>exact absurd (show false=true from hs) Bool.false_ne_true
 |bl i=>
  cases rx
  cases y with
  |non=>cases ry;exact PySem.EqNone.eq_bool_none (dM I q (by simp))
  |bl j=>cases ry;exact eq_bool (dM I q bHw)
  |str j=>obtain⟨t',rfl⟩:=ry;exact PySem.EqMixed.eq_bool_str (dM I q (by simp))
  |_=>exact absurd (show false=true from hs) Bool.false_ne_true
 |int i=>
  obtain⟨t,rfl⟩:=rx
  cases y with
  |non=>cases ry;exact PySem.EqNone.eq_int_none (dM I q (by simp))
  |int j=>obtain⟨t',rfl⟩:=ry;exact eq_int (dM I q dR)
  |str j=>obtain⟨t',rfl⟩:=ry;exact PySem.EqMixed.eq_int_str (dM I q (by simp))
  |_=>exact absurd (show false=true from hs) Bool.false_ne_true
 |str i=>
  obtain⟨t,rfl⟩:=rx
  cases y with
  |non=>cases ry;exact PySem.EqNone.eq_str_none (dM I q (by simp))
  |bl j=>cases ry;exact PySem.EqMixed.eq_str_bool (dM I q (by simp))
  |int j=>obtain⟨t',rfl⟩:=ry;exact PySem.EqMixed.eq_str_int (dM I q (by simp))
  |str j=>obtain⟨t',rfl⟩:=ry;exact eq_str (dM I q bEf)
  |_=>exact absurd (show false=true from hs) Bool.false_ne_true
 |byt i=>
  obtain⟨t,rfl⟩:=rx
  cases y with
  |byt j=>obtain⟨t',rfl⟩:=ry;exact PySem.W.eq_bytes (dM I q bEe)
  |_=>exact absurd (show false=true from hs) Bool.false_ne_true
 |_=>cases y<;>exact absurd (show false=true from hs) Bool.false_ne_true
theorem yC:OpR X (compareOp .NotEq) rNe:=by
 intro pins s σ H x y v u Q I rx ry h
 obtain⟨hs,q⟩:=h
 cases x with
 |non=>
  cases rx
  cases y with
  |non=>cases ry;exact PySem.EqNone.ne_none_none (dM I q (by simp))
  |bl j=>cases ry;exact PySem.EqNone.ne_none_bool (dM I q (by simp))
  |int j=>obtain⟨t',rfl⟩:=ry;exact PySem.EqNone.ne_none_int (dM I q (by simp))
  |str j=>obtain⟨t',rfl⟩:=ry;exact PySem.EqNone.ne_none_str (dM I q (by simp))
  |_=>exact absurd (show false=true from hs) Bool.false_ne_true
 |bl i=>
  cases rx
  cases y with
  |non=>cases ry;exact PySem.EqNone.ne_bool_none (dM I q (by simp))
  |bl j=>cases ry;exact ne_bool (dM I q (congrArg not bHw))
  |str j=>obtain⟨t',rfl⟩:=ry;exact PySem.EqMixed.ne_bool_str (dM I q (by simp))
  |_=>exact absurd (show false=true from hs) Bool.false_ne_true
 |int i=>
  obtain⟨t,rfl⟩:=rx
  cases y with
  |non=>cases ry;exact PySem.EqNone.ne_int_none (dM I q (by simp))
  |int j=>obtain⟨t',rfl⟩:=ry;exact ne_int (dM I q (congrArg not dR))
  |str j=>obtain⟨t',rfl⟩:=ry;exact PySem.EqMixed.ne_int_str (dM I q (by simp))
  |_=>exact absurd (show false=true from hs) Bool.false_ne_true
 |str i=>
  obtain⟨t,rfl⟩:=rx
  cases y with
  |non=>cases ry;exact PySem.EqNone.ne_str_none (dM I q (by simp))
  |bl j=>cases ry;exact PySem.EqMixed.ne_str_bool (dM I q (by simp))
  |int j=>obtain⟨t',rfl⟩:=ry;exact PySem.EqMixed.ne_str_int (dM I q (by simp))
  |str j=>obtain⟨t',rfl⟩:=ry;exact ne_str (dM I q (congrArg not bEf))
  |_=>exact absurd (show false=true from hs) Bool.false_ne_true
 |byt i=>
  obtain⟨t,rfl⟩:=rx
  cases y with
  |byt j=>obtain⟨t',rfl⟩:=ry;exact PySem.W.ne_bytes (dM I q (congrArg not bEe))
  |_=>exact absurd (show false=true from hs) Bool.false_ne_true
 |_=>cases y<;>exact absurd (show false=true from hs) Bool.false_ne_true
theorem dI:OpR X (compareOp .Lt) (rI0 fun i j=> .bl (decide (i<j))):=bMa fun _ _ _ _ _ _ _ q=>lt_int q
theorem aKh:OpR X (compareOp .LtE) (rI0 fun i j=> .bl (decide (i<=j))):=bMa fun _ _ _ _ _ _ _ q=>le_int q
theorem oM:OpR X (compareOp .Gt) (rI0 fun i j=> .bl (decide (j<i))):=bMa fun _ _ _ _ _ _ _ q=>gt_int q
theorem pY:OpR X (compareOp .GtE) (rI0 fun i j=> .bl (decide (j<=i))):=bMa fun _ _ _ _ _ _ _ q=>ge_int q
theorem bF (b:Expr) {op:CmpOp} (h:op≠ .In:=by decide) (h2:op≠ .NotIn:=by decide):behindInMarks op b=false:=by
 have e1:(op==CmpOp.In)=false:=by cases op<;>first|rfl|exact absurd rfl h
 have e2:(op==CmpOp.NotIn)=false:=by cases op<;>first|rfl|exact absurd rfl h2
 cases b<;>simp [behindInMarks,e1,e2]
theorem rC {op:CmpOp} {r:R2} (ho:OpR X (compareOp op) r) (ha:PE X a ta) (hb:PE X b tb) (hm:behindInMarks op b=false):PE X (.Compare a [op] [b] pos) (tOp r ta tb):=by
 intro pins s σ H Q I h
 exact wpAny_Compare1 (bOa ha hb I h fun v u s2 x y H2 I2 rx ry q=>ho pins s2 σ H2 x y v u Q I2 rx ry q) hm
inductive bKn (x:V) (H':Hp) (Q:Bool->Hp->Prop):Prop|mk (k:Bool) (z0:x= .bl k) (z1:Q k H') theorem bKo {x:V} {H':Hp} {Q:Bool->Hp->Prop}:bKn x H' Q↔ ∃k,x= .bl k/\Q k H':=⟨fun⟨k,z0,z1⟩=>⟨k,z0,z1⟩,fun⟨k,z0,z1⟩=>⟨k,z0,z1⟩⟩ def bKm (t:TE):TT:=fun σ H Q=>t σ H fun x H'=>bKn x H' Q
theorem bC {op:CmpOp} {r:R2} (ho:OpR X (compareOp op) r) (ha:PE X a ta) (hb:PE X b tb) (hm:behindInMarks op b=false):PT X (.Compare a [op] [b] pos) (bKm (tOp r ta tb)):=by
 intro pins s σ H Q I h
 refine wpAny_isTrue_Compare1 (thn (ha pins s σ H _ I h) fun v s1 ⟨x,H1,I1,r1,q1⟩=>thn (hb pins s1 σ H1 _ I1 q1) fun u s2 ⟨y,H2,I2,r2,q2⟩=>
  thn (ho pins s2 σ H2 x y v u _ I2 r1 r2 q2) fun c s3 ⟨z,H3,I3,r3,k,e,q3⟩=> ?_) hm
 subst e
 cases r3
 exact wpAny_truthy_bool ⟨H3,I3,q3⟩
def bDr (r r':R2) (ta tb tc:TE):TE:=fun σ H Q=>ta σ H fun x H1=>tb σ H1 fun y H2=>r x y H2 fun z H3=> ∃k,z= .bl k/\
 (if k=true then tc σ H3 fun w' H4=>r' y w' H4 Q else Q (.bl false) H3)
theorem bJg {op op':CmpOp} {r r':R2} (ho:OpR X (compareOp op) r) (ho':OpR X (compareOp op') r') (ha:PE X a ta) (hb:PE X b tb) (hc:PE X c tc)
 (hm:lastMarks [op,op'] [b,c]=false:=by with_unfolding_all rfl):PE X (.Compare a [op,op'] [b,c] pos) (bDr r r' ta tb tc):=by
 intro pins s σ H Q I h
 refine Compare_chain (thn (ha pins s σ H _ I h) fun v s1 ⟨x,H1,I1,r1,q1⟩=>chain_link (thn (hb pins s1 σ H1 _ I1 q1) fun u s2 ⟨y,H2,I2,r2,q2⟩=>
  thn (ho pins s2 σ H2 x y v u _ I2 r1 r2 q2) fun d s3 ⟨z,H3,I3,r3,k,e,q3⟩=> ?_)) hm
 subst e
 cases r3
 refine wpAny_truthy_bool ?_
 cases k with
 |false=>exact ite_ff ⟨.bl false,H3,I3,rfl,q3⟩
 |true=>exact ite_tt (chain_last (thn (hc pins s3 σ H3 _ I3 q3) fun w' s4 ⟨z',H4,I4,r4,q4⟩=>ho' pins s4 σ H4 y z' u w' Q I4 r2 r4 q4))
theorem bJm {op op':CmpOp} {r r':R2} (ho:OpR X (compareOp op) r) (ho':OpR X (compareOp op') r') (ha:PE X a ta) (hb:PE X b tb) (hc:PE X c tc)
 (hm:lastMarks [op,op'] [b,c]=false:=by with_unfolding_all rfl):PT X (.Compare a [op,op'] [b,c] pos) (bKm (bDr r r' ta tb tc)):=by
 intro pins s σ H Q I h
 refine isTrue_chain (thn (ha pins s σ H _ I h) fun v s1 ⟨x,H1,I1,r1,q1⟩=>test_link (thn (hb pins s1 σ H1 _ I1 q1) fun u s2 ⟨y,H2,I2,r2,q2⟩=>
  thn (ho pins s2 σ H2 x y v u _ I2 r1 r2 q2) fun d s3 ⟨z,H3,I3,r3,k,e,q3⟩=> ?_)) hm
 subst e
 cases r3
 refine wpAny_truthy_bool ?_
 cases k with
 |false=>
  obtain⟨k',e',q'⟩:=q3
  cases e'
  exact ite_ff ⟨H3,I3,q'⟩
 |true=>
  refine ite_tt (test_last (thn (hc pins s3 σ H3 _ I3 q3) fun w' s4 ⟨z',H4,I4,r4,q4⟩=>thn (ho' pins s4 σ H4 y z' u w' _ I4 r2 r4 q4) fun d' s5 ⟨z2,H5,I5,r5,k2,e2,q5⟩=> ?_))
  subst e2
  cases r5
  exact wpAny_truthy_bool ⟨H5,I5,q5⟩
theorem aOu:(sizeLine:Nat)<2 ^ 63:=by rw [sizeLine_eq];decide
theorem vals1 {x:V} {us:List Value} (r:Vals [x] us): ∃u,us=[u]/\RelV x u:=by
 cases r with
 |cons r1 r2=>cases r2;exact⟨_,rfl,r1⟩
theorem vals2 {x y:V} {us:List Value} (r:Vals [x,y] us): ∃u w',us=[u,w']/\RelV x u/\RelV y w':=by
 cases r with
 |cons r1 r2=>
  cases r2 with
  |cons r3 r4=>cases r4;exact⟨_,_,rfl,r1,r3⟩
theorem aNk:sH X (.builtin "abs") (fun xs H Q=> ∃i,xs=[.int i]/\Q (.int (if i<0 then-i else i)) H):=by
 intro pins s σ H xs us Q I r h
 obtain⟨i,rfl,q⟩:=h
 obtain⟨u,rfl,t,rfl⟩:=vals1 r
 exact call_abs_int fun u tk=>⟨.int (if i<0 then-i else i),H,I.tok _,⟨_,rfl⟩,q⟩
theorem aHn (hc:X.calm=true):sH X (.builtin "max") (fun xs H Q=> ∃i j,xs=[.int i,.int j]/\Q (.int (if j>i then j else i)) H):=by
 intro pins s σ H xs us Q I r h
 obtain⟨i,j,rfl,q⟩:=h
 obtain⟨u,w',rfl,⟨t,rfl⟩,⟨t',rfl⟩⟩:=vals2 r
 refine max_two_ints (I.ok.hd hc) fun h' tk k=>⟨_,H,I.kept k,?_,q⟩
 by_cases hj:j>i
 . rw [aD hj,aD hj];exact⟨_,rfl⟩
 . rw [aF hj,aF hj];exact⟨_,rfl⟩
theorem aHo (hc:X.calm=true):sH X (.builtin "min") (fun xs H Q=> ∃i j,xs=[.int i,.int j]/\Q (.int (if j<i then j else i)) H):=by
 intro pins s σ H xs us Q I r h
 obtain⟨i,j,rfl,q⟩:=h
 obtain⟨u,w',rfl,⟨t,rfl⟩,⟨t',rfl⟩⟩:=vals2 r
 refine min_two_ints (I.ok.hd hc) fun h' tk k=>⟨_,H,I.kept k,?_,q⟩
 by_cases hj:j<i
 . rw [aD hj,aD hj];exact⟨_,rfl⟩
 . rw [aF hj,aF hj];exact⟨_,rfl⟩
end
end L2
namespace L2
open PySem PySem.Spec PyProof.Rows
structure bBq (h:Heap) (x dx C:Addr) (mA:Str->Option Value):Prop where
 obj:h.get? x=some (PySem.W.instObj C dx)
 ns:h.Ns1 dx mA
 ne:dx≠x
theorem bGe {h:Heap} {dx:Addr} {mA:Str->Option Value} (n:h.Ns1 dx mA): ∃od,h.get? dx=some od/\ ∀name,PySem.W.lookIn name od=some (mA name):=by
 obtain⟨o,es,ep,ho,hd,hk,_,hm⟩:=n
 refine⟨o,ho,fun name=> ?_⟩
 have e:=hm name
 unfold nsFind findBy at e
 rw [<-Array.find?_toList] at e
 unfold PySem.W.lookIn
 rw [hd]
 dsimp only
 split
 . rename_i y q
   rw [q] at e
   exact congrArg some e
 . rename_i q
   rw [q] at e
   have a:es.toList.any (·.refKey)=false:=by
    rw [List.any_eq_false]
    intro y hy
    obtain⟨z,t,hkey⟩:=hk y (Array.mem_toList_iff.mp hy)
    simp [DictEntry.refKey,hkey]
   have a': ¬es.toList.any (·.refKey)=true:=by rw [a];exact Bool.false_ne_true
   rw [aF a']
   exact congrArg some e
theorem bBq.look {h:Heap} {x dx C:Addr} {mA:Str->Option Value} (I:bBq h x dx C mA): ∃od,PySem.W.InstAt h x (PySem.W.instObj C dx) C (some od)/\ ∀name,PySem.W.lookIn name od=some (mA name):=
 let⟨od,ho,hl⟩:=bGe I.ns
 ⟨od,⟨I.obj,rfl,rfl,ho⟩,hl⟩
section
variable {prog:Program} {w:World} {A:Around} {E:Value->Shared->Prop} {s:Shared} {K:aA} {x dx C f:Addr} {mA:Str->Option Value} {name:Str} {v:Value}
theorem bLh {expr:Bool} {Q:Value->Shared->Prop} (X:K.In s.heap) (I:bBq s.heap x dx C mA) (hg:PySem.W.plainGet K C name=true) (hh:PySem.W.hasDictIn K C=true)
 (ha:PySem.W.findIn K (.ref C) name=some none) (hv:mA name=some v) (hv':PySem.W.handedIn v=true) (h:Q v {s with toks:=s.toks+1}):
 wpAny (model prog w) A (getAttr (.ref x) name expr) Q E s:=by
 obtain⟨od,J,hl⟩:=I.look
 exact PySem.W.get_value X J (PySem.W.plainGet_of hg).1 (PySem.W.findObj_own hh ha rfl (by rw [hl,hv])) hv' h
theorem bIh {pl:Sem Bool} {Q:Value×List Value->Shared->Prop} (X:K.In s.heap) (I:bBq s.heap x dx C mA) (hg:PySem.W.plainGet K C name=true)
 (hf:PySem.W.findIn K (.ref C) name=some (some (.ref f))) (ht:PySem.W.isFn K (.ref f)=true) (hv:mA name=none) (h:Q (.ref f,[.ref x]) s):
 wpAny (model prog w) A (getMethod (.ref x) name pl) Q E s:=by
 obtain⟨od,J,hl⟩:=I.look
 exact PySem.W.method_fn X J (PySem.W.plainGet_of hg).1 (PySem.W.plainGet_of hg).2 hf (beq_iff_eq.mp ht) (by show (PySem.W.lookIn name od).map (·.isSome)=some false;rw [hl,hv];rfl) h
theorem bMl {ns:List Str} {Q:Unit->Shared->Prop} (X:K.In s.heap) (I:bBq s.heap x dx C mA)
 (hs:PySem.W.findIn K (.ref C) "__setattr__"=some (some (.builtin "object.__setattr__"))) (hp:PySem.W.plainOver K C=true) (ht:PySem.W.takerIn K C name=some none) (hh:PySem.W.hasDictIn K C=true)
 (hw:PySem.Within mA ns) (hsz:ns.length<=sizeLine)
 (h: ∀h',bBq h' x dx C (fun y=>if y=name then some v else mA y)->Heap.SameBut dx s.heap h'->Q () {s with heap:=h',toks:=s.toks+2}):
 wpAny (model prog w) A (setAttr (.ref x) name v) Q E s:=by
 obtain⟨od,J,hl⟩:=I.look
 refine PySem.W.set_plain X J hs (PySem.W.osa_open (s:={s with toks:=s.toks+1}) (r:=none) X J hp ht fun b=> ?_)
 obtain⟨cd,hc,hd'⟩:=PySem.W.any_some hh
 have hx:s.heap.get? x=some ⟨.ref C,some dx,.plain,#[]⟩:=I.obj
 refine wpAny_bind (wpAny_pure (wpAny_bind (wpAny_bind (wpAny_loadPart hx (wpAny_bind (PySem.W.Looks.here (s:={s with toks:=s.toks+1}) (PySem.W.looks_clsIn X hc) ?_))))))
 rw [hd']
 refine wpAny_pure (a:=some dx) (wpAny_bind (wpAny_pure (wpAny_bind ?_)))
 refine wpAny_nsSet1 (s:={s with toks:=s.toks+1}) I.ns fun h' hn2 hs2=> ?_
 obtain⟨oD,esD,epD,hoD,hdD,hcD⟩:=hn2.count (PySem.Within.cons name v hw)
 refine wpAny_bind (wpAny_lookBehind hoD (by rw [hdD];exact pastItsLine_dict (Nat.le_trans hcD (by rw [List.length_cons];omega))) ?_)
 exact wpAny_pure (h _ ⟨(hs2.2 _ (Ne.symm I.ne)).trans I.obj,hn2,I.ne⟩ hs2)
theorem bIq {R:Result->Shared->Prop} {vs:List Value} {kw:List (Str×Value)} (X:K.In s.heap) (hm:PySem.W.makesIn K C=true)
 (hi:PySem.W.findIn K (.ref C) "__init__"=some (some (.ref f))) (hf:PySem.W.typeIn K (.ref f)=some (.type "function"))
 (h:codeAny (model prog w) (A.under (.builtin "type.__call__" ⟨.ref C::vs,kw⟩)) (.call (.ref f) ⟨.ref (s.heap.objs.size+1)::vs,kw⟩) (PySem.W.InitBack (s.heap.objs.size+1) R)
   {s with heap:=(s.heap.push PySem.W.emptyDict).push (PySem.W.instObj C s.heap.objs.size)}):
 codeAny (model prog w) A (.call (.ref C) ⟨vs,kw⟩) R s:=by
 obtain⟨hh,g,d,t,os⟩:=s
 exact PySem.W.make_core (PySem.W.makes_of X hm) (PySem.W.looks_findIn X hi) (fun self=>PySem.W.bind_fn X self hf) (.inl rfl) h
end
def fJ (f:Str) (v:V):List (Str×V)->List (Str×V)
 |[]=>[(f,v)]
 |(g,x)::r=>if g=f then(g,v)::r else(g,x)::fJ f v r
theorem aKc (f g:Str) (v:V): ∀fs:List (Str×V),(fJ f v fs).lookup g=if g=f then some v else fs.lookup g
 |[]=>by
  show List.lookup g [(f,v)]=_
  by_cases h:g=f
  . have hb:(g==f)=true:=beq_iff_eq.mpr h
    simp only [List.lookup,hb,aD h]
  . have hb:(g==f)=false:=beq_eq_false_iff_ne.mpr h
    simp only [List.lookup,hb,aF h]
 |(k,x)::r=>by
  have ih:=aKc f g v r
  rw [show fJ f v ((k,x)::r)=(if k=f then(k,v)::r else(k,x)::fJ f v r) from rfl]
  by_cases hk:k=f
  . rw [aD hk]
    by_cases h:g=k
    . have hb:(g==k)=true:=beq_iff_eq.mpr h
      simp only [List.lookup,hb,aD (h.trans hk)]
    . have hb:(g==k)=false:=beq_eq_false_iff_ne.mpr h
      simp only [List.lookup,hb,aF (fun e:g=f=>h (e.trans hk.symm))]
  . rw [aF hk]
    by_cases h:g=k
    . have hb:(g==k)=true:=beq_iff_eq.mpr h
      simp only [List.lookup,hb,aF (fun e:g=f=>hk (h.symm.trans e))]
    . have hb:(g==k)=false:=beq_eq_false_iff_ne.mpr h
      simp only [List.lookup,hb]
      exact ih
theorem aHz (f:Str) (v:V): ∀fs:List (Str×V),f∈(fJ f v fs).map (·.1)/\ ∀g,g∈fs.map (·.1)->g∈(fJ f v fs).map (·.1)
 |[]=>⟨by simp [fJ],fun g h=>by simp at h⟩
 |(k,x)::r=>by
  obtain⟨i1,i2⟩:=aHz f v r
  rw [show fJ f v ((k,x)::r)=(if k=f then(k,v)::r else(k,x)::fJ f v r) from rfl]
  by_cases hk:k=f
  . rw [aD hk]
    subst hk
    exact⟨by simp,fun g h=>by simpa using h⟩
  . rw [aF hk]
    refine⟨?_,fun g h=> ?_⟩
    . rw [List.map_cons]
      exact List.mem_cons_of_mem _ i1
    . rw [List.map_cons] at h ⊢
      rcases List.mem_cons.mp h with e|e
      . exact List.mem_cons.mpr (.inl e)
      . exact List.mem_cons_of_mem _ (i2 g e)
theorem aKa (f:Str) (v:V): ∀fs:List (Str×V),(fJ f v fs).length<=fs.length+1
 |[]=>by simp [fJ]
 |(k,x)::r=>by
  have ih:=aKa f v r
  rw [show fJ f v ((k,x)::r)=(if k=f then(k,v)::r else(k,x)::fJ f v r) from rfl]
  by_cases hk:k=f
  . rw [aD hk,List.length_cons,List.length_cons];omega
  . rw [aF hk,List.length_cons,List.length_cons];omega
theorem sO.some_of {v:V} {o:Option Value} (r:sO (some v) o): ∃u,o=some u/\RelV v u:=by
 cases o with
 |none=>exact(show False from r).elim
 |some u=>exact⟨u,rfl,r⟩
theorem sO.none_of {o:Option Value} (r:sO none o):o=none:=by
 cases o with
 |none=>rfl
 |some u=>exact(show False from r).elim
theorem bGa {v:V} {u:Value} (r:RelV v u):PySem.W.handedIn u=true:=by
 cases v with
 |non=>cases (show u=Value.none from r);rfl
 |bl b=>cases (show u=Value.bool b from r);rfl
 |int i=>obtain⟨t,e⟩:=(show∃t,u=Value.int i t from r);cases e;rfl
 |str x=>obtain⟨t,e⟩:=(show∃t,u=Value.str x t from r);cases e;rfl
 |byt b=>obtain⟨t,e⟩:=(show∃t,u=Value.bytes b t from r);cases e;rfl
 |flt b=>obtain⟨t,e⟩:=(show∃t,u=Value.float b t from r);cases e;rfl
 |ref a=>cases (show u=Value.ref a from r);rfl
 |ty n=>cases (show u=Value.type n from r);rfl
section
variable {P:Program} {w:World} {H H':Hp} {h h':Heap} {a C dx:Addr} {fs fs':List (Str×V)}
theorem aVw (hok:HOk P w H h) (e:H a=some (.ins C dx fs)): ∃mA,bBq h a dx C mA/\(∀f,sO (fs.lookup f) (mA f))/\PySem.Within mA (fs.map (·.1))/\fs.length<=1000/\H dx=some (.own a):=by
 obtain⟨d,z,ne,ob,mA,n,r,q⟩:=(show gK P w H h a (.ins C dx fs) from hok a _ e)
 exact⟨mA,⟨ob,n,ne⟩,r,q,z,d⟩
end
structure Cls (K:aA) (C:Addr):Prop where
 pg:PySem.W.plainGet K C Str.empty=true
 hd:PySem.W.hasDictIn K C=true
 po:PySem.W.plainOver K C=true
 sa:PySem.W.findIn K (.ref C) "__setattr__"=some (some (.builtin "object.__setattr__"))
theorem Cls.get {K:aA} {C:Addr} (c:Cls K C) (f:Str):PySem.W.plainGet K C f=true:=c.pg
def pK (K:aA) (C:Addr) (f:Str):Prop:=PySem.W.findIn K (.ref C) f=some none
theorem pK.taker {K:aA} {C:Addr} {f:Str} (n:pK K C f):PySem.W.takerIn K C f=some none:=by
 unfold PySem.W.takerIn
 rw [show PySem.W.findIn K (.ref C) f=some none from n]
 rfl
structure Meth (K:aA) (C:Addr) (m:Str) (f:Addr):Prop where
 at_:PySem.W.findIn K (.ref C) m=some (some (.ref f))
 fn:PySem.W.isFn K (.ref f)=true
 kp:PySem.W.keepIn K (.ref f)=true
section
variable {X:Cx} {pins:List (Addr×Obj)} {σ:St} {H:Hp} {s:Shared} {a C dx:Addr} {fs:List (Str×V)} {f:Str} {v:V} {A:Around} {E:Value->Shared->Prop}
theorem aOp {b:Bool} {Q:Value->Shared->Prop} (I:Inv X pins σ H s) (e:H a=some (.ins C dx fs)) (c:Cls X.K C) (n:pK X.K C f) (l:fs.lookup f=some v)
 (h: ∀u s',Inv X pins σ H s'->RelV v u->Q u s'):wpAny (model X.prog X.w) A (getAttr (.ref a) f b) Q E s:=by
 obtain⟨mA,O,r,_,_,_⟩:=aVw I.hok e
 obtain⟨u,hu,ru⟩:=sO.some_of (v:=v) (o:=mA f) (by rw [<-l];exact r f)
 exact bLh I.kIn O (c.get f) c.hd n hu (bGa ru) (h u _ (I.tok _) ru)
theorem aOq {m:Str} {g:Addr} {pl:Sem Bool} {Q:Value×List Value->Shared->Prop} (I:Inv X pins σ H s) (e:H a=some (.ins C dx fs)) (c:Cls X.K C) (k:Meth X.K C m g) (l:fs.lookup m=none)
 (h:Q (.ref g,[.ref a]) s):wpAny (model X.prog X.w) A (getMethod (.ref a) m pl) Q E s:=by
 obtain⟨mA,O,r,_,_,_⟩:=aVw I.hok e
 have hn:mA m=none:=sO.none_of (by rw [<-l];exact r m)
 exact bIh I.kIn O (c.get m) k.at_ k.fn hn h
theorem aPz {y:V} {u:Value} {Q:Unit->Shared->Prop} (I:Inv X pins σ H s) (e:H a=some (.ins C dx fs)) (c:Cls X.K C) (n:pK X.K C f) (hl:fs.length<1000) (ry:RelV y u)
 (h: ∀s',Inv X pins σ (upd H a (.ins C dx (fJ f y fs))) s'->Q () s'):wpAny (model X.prog X.w) A (setAttr (.ref a) f u) Q E s:=by
 obtain⟨mA,O,r,wi,_,ho⟩:=aVw I.hok e
 have hz:(fs.map (·.1)).length<=sizeLine:=by rw [aG,sizeLine_eq];omega
 refine bMl I.kIn O c.sa c.po n.taker c.hd wi hz fun h' O' sb=>h _ ?_
 have hd: ∃o,h'.get? dx=some o:=let⟨o,_,_,e',_⟩:=O'.ns;⟨o,e'⟩
 refine I.write (x:=a) (e:=dx) (by rw [e];exact True.intro) (.inr ho) (fun b q hb z=>(sb.2 b hb).trans z) hd ?_
 refine⟨by rw [aR O.ne];exact ho,?_,O.ne,O'.obj,_,O'.ns,fun g=> ?_,fun g hg=> ?_⟩
 . have:=aKa f y fs;omega
 . show sO ((fJ f y fs).lookup g) (if g=f then some u else mA g)
   rw [aKc]
   by_cases q:g=f
   . rw [aD q,aD q];exact ry
   . rw [aF q,aF q];exact r g
 . by_cases q:g=f
   . rw [q];exact(aHz f y fs).1
   . refine(aHz f y fs).2 g (wi g fun z=>hg ?_)
     show (if g=f then some u else mA g)=none
     rw [aF q];exact z
theorem Inv.made (I:Inv X pins σ H s):Inv X pins σ (upd (upd H s.heap.objs.size (.own (s.heap.objs.size+1))) (s.heap.objs.size+1) (.ins C s.heap.objs.size []))
 {s with heap:=(s.heap.push PySem.W.emptyDict).push (PySem.W.instObj C s.heap.objs.size)}:=by
 have e1:(s.heap.push PySem.W.emptyDict).get? s.heap.objs.size=some PySem.W.emptyDict:=Heap.get?_push_size s.heap rfl
 have e2:((s.heap.push PySem.W.emptyDict).push (PySem.W.instObj C s.heap.objs.size)).get? (s.heap.objs.size+1)=some (PySem.W.instObj C s.heap.objs.size):=by
  have:=Heap.get?_push_size (s.heap.push PySem.W.emptyDict) (o:=PySem.W.instObj C s.heap.objs.size) rfl
  rwa [Heap.size_push] at this
 have e3:(s.heap.push PySem.W.emptyDict).Ns s.heap.objs.size (fun _=>none):=⟨PySem.W.emptyDict,#[],_,e1,rfl,(fun e he=>absurd he (by simp)),fun _=>rfl⟩
 have I1:=I.laid (a:=s.heap.objs.size) (o:= .own (s.heap.objs.size+1)) (h':=s.heap.push PySem.W.emptyDict) (t':=s.toks) (fun b u q=>Heap.get?_push_of_some _ q) (Nat.le_refl _) ⟨_,e1⟩
 refine I1.laid (a:=s.heap.objs.size+1) (o:= .ins C s.heap.objs.size []) (t':=s.toks) (fun b u q=>Heap.get?_push_of_some _ q) (Nat.le_of_eq (Heap.size_push _ _)) ?_
 have ne:s.heap.objs.size≠s.heap.objs.size+1:=Nat.ne_of_lt (Nat.lt_succ_self _)
 refine⟨by rw [aR ne,aO],Nat.zero_le _,ne,e2,fun _=>none,(Heap.Ns1.of_empty e3).at fun o q=>Heap.get?_push_of_some _ q,fun _=>True.intro,fun y hy=>absurd rfl hy⟩
theorem bKx {prog:Program} {w:World} {env:Env} {e:Expr} {f:Str} {pos:Pos} {s:Shared} {Q:Value->Shared->Prop} (hb:attributeBase e f env (eval e env)=eval e env)
 (h:wpAny (model prog w) A (eval e env) (fun o s₁=>wpAny (model prog w) A (getAttr o f true) Q E s₁) E s):wpAny (model prog w) A (eval (.Attribute e f pos) env) Q E s:=
 Attribute_any_ h (by rw [arm_eval_Attribute,hb])
end
inductive bRs (K:aA) (f:Str) (x:V) (H1:Hp) (Q:VK):Prop|mk (a C dx:Addr) (fs:List (Str×V)) (v:V) (z0:x= .ref a) (z1:H1 a=some (.ins C dx fs)) (z2:Cls K C) (z3:pK K C f) (z4:fs.lookup f=some v) (z5:Q v H1) def bPq (K:aA) (ta:TE) (f:Str):TE:=fun σ H Q=>ta σ H fun x H1=>bRs K f x H1 Q
def bSx (K:aA) (ta tv:TE) (f:Str):TS:=fun D σ H=>tv σ H fun y H1=>ta σ H1 fun x H2=> ∃a C dx fs,x= .ref a/\H2 a=some (.ins C dx fs)/\Cls K C/\pK K C f/\fs.length<1000/\
 D.nx σ (upd H2 a (.ins C dx (fJ f y fs)))
def bSc (X:Cx) (op:Operator) (rd:V->V->Hp->VK->Prop):Prop:=
 ∀(pins:List (Addr×Obj)) (s:Shared) (σ:St) (H:Hp) (x y:V) (u v:Value) (Q:VK),Inv X pins σ H s->RelV x u->RelV y v->rd x y H Q->wpAny (model X.prog X.w) X.A (inplaceOp op u v) (EP X pins σ Q) X.xe s
def bMj (K:aA) (ta tv:TE) (rd:V->V->Hp->VK->Prop) (f:Str):TS:=fun D σ H=>ta σ H fun x H1=> ∃a C dx fs v,x= .ref a/\H1 a=some (.ins C dx fs)/\Cls K C/\pK K C f/\fs.lookup f=some v/\
 tv σ H1 fun y H2=>rd v y H2 fun z H3=> ∃dx' fs',H3 a=some (.ins C dx' fs')/\fs'.length<1000/\D.nx σ (upd H3 a (.ins C dx' (fJ f z fs')))
section
variable {X:Cx} {o e value:Expr} {f:Str} {pos pos' tpos:Pos} {ta tv:TE}
theorem aX (he:PE X e ta) (hb:attributeBase e f X.env (eval e X.env)=eval e X.env):PE X (.Attribute e f pos) (bPq X.K ta f):=by
 intro pins s σ H Q I h
 refine bKx hb (thn (he pins s σ H _ I h) fun u s1 ⟨x,H1,I1,rx,a,C,dx,fs,v,ex,ea,c,n,l,q⟩=> ?_)
 subst ex
 obtain rfl:u=Value.ref a:=rx
 exact aOp I1 ea c n l fun u' s2 I2 ru=>⟨v,H1,I2,ru,q⟩
theorem fC (ha:PE X o ta) (hv:PE X value tv) (hs:swapsWith value (some (.Attribute o f pos')) pos.line X.env=pure false):PS X (.Assign [.Attribute o f pos'] value pos) (bSx X.K ta tv f):=by
 intro pins s σ H D I h
 refine plainObj_wpAny_Assign_Attribute (thn (hv pins s σ H _ I h) fun u s1 ⟨y,H1,I1,ry,q⟩=>thn (ha pins s1 σ H1 _ I1 q) fun ov s2 ⟨x,H2,I2,rx,a,C,dx,fs,ex,ea,c,n,l,q2⟩=> ?_) hs
 subst ex
 obtain rfl:ov=Value.ref a:=rx
 exact aPz I2 ea c n l ry fun s3 I3=>⟨σ,_,I3,q2⟩
theorem aUc {op:Operator} {rd:V->V->Hp->VK->Prop} (ha:PE X o ta) (hv:PE X value tv) (hop:bSc X op rd):PS X (.AugAssign (.Attribute o f tpos) op value pos) (bMj X.K ta tv rd f):=by
 intro pins s σ H D I h
 refine wpAny_AugAssign_AttributeAny (thn (ha pins s σ H _ I h) fun ov s1 ⟨x,H1,I1,rx,a,C,dx,fs,v,ex,ea,c,n,l,q⟩=> ?_)
 subst ex
 obtain rfl:ov=Value.ref a:=rx
 refine aOp I1 ea c n l fun u s2 I2 ru=>thn (hv pins s2 σ H1 _ I2 q) fun w3 s3 ⟨y,H2,I3,ry,q3⟩=>thn (hop pins s3 σ H2 v y u w3 _ I3 ru ry q3) fun w4 s4 ⟨z,H3,I4,rz,dx',fs',ea',l',q4⟩=> ?_
 exact aPz I4 ea' c n l' rz fun s5 I5=>⟨σ,_,I5,q4⟩
theorem bNe {pl:Sem Bool} {m:Str} {apos:Pos} {args:List Expr} {pins:List (Addr×Obj)} {s:Shared} {σ:St} {H:Hp} {Q:Value->Shared->Prop} {te:TE} (he:PE X e te) (I:Inv X pins σ H s)
 (h:te σ H fun x H1=> ∃a C dx fs g,x= .ref a/\H1 a=some (.ins C dx fs)/\Cls X.K C/\Meth X.K C m g/\fs.lookup m=none/\
   ∀s1,Inv X pins σ H1 s1->wpAny (model X.prog X.w) X.A (callWith pos (.ref g) [.ref a] (backTo pos (starEach args X.env)) (backToKw pos (keywordEach [] X.env))) Q X.xe s1)
 (ht:eval (.Call (.Attribute e m apos) args [] pos) X.env=(do
   let ov<-eval e X.env
   standAt apos.atName
   let(f,first)<-holding [ov] (getMethod ov m pl)
   callWith pos f first (backTo pos (starEach args X.env)) (backToKw pos (keywordEach [] X.env)))):
 wpAny (model X.prog X.w) X.A (eval (.Call (.Attribute e m apos) args [] pos) X.env) Q X.xe s:=by
 refine PySem.W.methodCall_KW (pl:=pl) (thn (he pins s σ H _ I h) fun u s1 ⟨x,H1,I1,rx,a,C,dx,fs,g,ex,ea,c,k,l,q⟩=> ?_) ht
 subst ex
 obtain rfl:u=Value.ref a:=rx
 exact aOq I1 ea c k l (q s1 I1)
end
section
variable {X:Cx} {pins:List (Addr×Obj)} {σ:St} {H:Hp} {s:Shared} {A:Around} {E:Value->Shared->Prop} {Q:Value->Shared->Prop} {c:Value} {b:Bool}
end
end L2
namespace L2
open PySem PySem.Spec PyProof.Rows
structure jB (k:Nat) (A:Around):Prop where
 hd:A.handled=none
 dp:A.depth+3*k+5<recursionLimit
 un:A.units+16*k+200<cLine
theorem jB.mono {j k:Nat} {A:Around} (r:jB k A) (h:j<=k):jB j A:=⟨r.hd,by have:=r.dp;omega,by have:=r.un;omega⟩
theorem jB.deeper {k:Nat} {A:Around} (r:jB (k+1) A) (env:Env):jB k (A.deeper env):=
 ⟨r.hd,by have:=r.dp;show A.depth+1+3*k+5<_;omega,by have:=r.un;show A.units+3+16*k+200<_;omega⟩
theorem bCq {A:Around} {C:Addr} {us:List Value} {kw:List (Str×Value)}:(A.under (.builtin "type.__call__" ⟨.ref C::us,kw⟩)).depth=A.depth+1:=by
 first|rfl|simp [Around.under,Code.weight,Code.isCreation,Code.isGuard,Code.isCaller,Code.frames,Code.isFrame,guardIds]
theorem bCr {A:Around} {C:Addr} {us:List Value} {kw:List (Str×Value)}:(A.under (.builtin "type.__call__" ⟨.ref C::us,kw⟩)).units=A.units+1:=by
 first|rfl|simp [Around.under,Code.cUnits,Code.frames,Code.isFrame]
theorem jB.make {k:Nat} {A:Around} (r:jB (k+1) A) (C:Addr) (us:List Value) (kw:List (Str×Value)):jB k (A.under (.builtin "type.__call__" ⟨.ref C::us,kw⟩)):=
 ⟨r.hd,by have:=r.dp;rw [bCq];omega,by have:=r.un;rw [bCr];omega⟩
theorem jB.depth {k:Nat} {A:Around} (r:jB k A):A.depth<recursionLimit:=by have:=r.dp;omega
theorem jB.units {k:Nat} {A:Around} (r:jB k A):A.units+64<cLine:=by have:=r.un;omega
def bPt:TA:=fun _ H Q=>Q [] H
def bNk (ta:TE) (tr:TA):TA:=fun σ H Q=>ta σ H fun x H1=>tr σ H1 fun xs H2=>Q (x::xs) H2
section
variable {X:Cx} {e:Expr} {es:List Expr} {te:TE} {t:TA} {pos:Pos}
theorem aL:PA X [] bPt:=fun _ _ _ _ H Q I h=>Calls.spliced_nil ⟨[],H,I,.nil,h⟩
theorem aJ (ha:PE X e te) (hr:PA X es t) (hs:starEach (e::es) X.env=(false,eval e X.env)::starEach es X.env:=by rfl):PA X (e::es) (bNk te t):=by
 intro pos pins s σ H Q I h
 rw [hs]
 show wpAny _ _ (spliced ((false,eval e X.env)::backTo pos (starEach es X.env))) _ _ s
 refine Calls.spliced_cons (thn (ha pins s σ H _ I h) fun u s1 ⟨x,H1,I1,r1,q1⟩=> ?_)
 exact thn (hr pos pins s1 σ H1 _ I1 q1) fun us s2 ⟨xs,H2,I2,r2,q2⟩=>⟨x::xs,H2,I2,.cons r1 r2,q2⟩
def bTc (t:TA):TE:=fun σ H Q=>t σ H fun xs H1=>xs.length<=sizeLine/\ ∀p,H1 p=none->Q (.ref p) (upd H1 p (.lst xs))
theorem bU (h:PA X es t):PE X (.List es pos) (bTc t):=by
 intro pins s σ H Q I hq
 refine wpAny_List_spliced (thn (h pos pins s σ H _ I hq) fun us s1 ⟨xs,H1,I1,r,z,q⟩=>⟨by rw [<-r.length];exact z,?_⟩)
 have hf:H1 s1.heap.objs.size=none:=I1.hok.fresh (Nat.le_refl _)
 refine⟨.ref s1.heap.objs.size,upd H1 s1.heap.objs.size (.lst xs),I1.laid (t':=s1.toks) (fun b u e=>Heap.get?_push_of_some _ e) (Nat.le_refl _) ?_,rfl,q _ hf⟩
 exact⟨z,us,0,r,Heap.get?_push_size _ rfl⟩
end
abbrev Sp:=List V->Hp->VK->XK->Prop
abbrev CXT:=List Env->Hp->Shared->XK->Value->Shared->Prop
structure bBp (P:Program) (w:World) (K:aA) (mg:Str->Option Value) (base:Heap) (A:Around) (outer:List Env) (s:Shared) (H:Hp):Prop where
 frames:A.frames=some outer
 mod:Mod K mg base
 bs: ∀b o,base.get? b=some o->s.heap.get? b=some o/\H b=none
 bsz:base.objs.size<=s.heap.objs.size
 aLa:s.heap.FunFrames base outer
 frf: ∀b∈frs outer,H b=none
 hok:HOk P w H s.heap
 bare:AllBare s.gens
def CE (outer:List Env) (P:Program) (w:World) (H:Hp) (s:Shared) (Q:VK) (u:Value) (s':Shared):Prop:=
 ∃v H',s'.os=s.os/\AllBare s'.gens/\Un (frs outer) [] H H' s.heap s'.heap/\HOk P w H' s'.heap/\RelV v u/\Q v H'
def CR (CX:CXT) (outer:List Env) (P:Program) (w:World) (H:Hp) (s:Shared) (Q:VK) (E:XK) (r:Result) (s':Shared):Prop:=
 match r with
 | .ok (.ret u)=>CE outer P w H s Q u s'
 | .ok _=>False
 | .error e=>CX outer H s E e s'
structure aAi (P:Program) (w:World) (K:aA) (mg:Str->Option Value) (base:Heap) (CX:CXT) (k:Nat) (f:Addr) (fd:FuncData) (ps:List Str) (sp:Sp):Prop where
 len: ∀vs H Q E,sp vs H Q E->vs.length=ps.length
 run: ∀(A:Around) (outer:List Env) (s:Shared) (H:Hp) (args:Args) (us:List Value) (vs:List V) (Q:VK) (E:XK),jB k A->bBp P w K mg base A outer s H->BindsTo s fd args (ps.zip us)->Vals vs us->sp vs H Q E->
  codeAny (model P w) A (.call (.ref f) args) (CR CX outer P w H s Q E) s
theorem bBp.make {P:Program} {w:World} {K:aA} {mg:Str->Option Value} {base:Heap} {A:Around} {outer:List Env} {s:Shared} {H:Hp} (e:bBp P w K mg base A outer s H) (C:Addr) (us:List Value) (kw:List (Str×Value)):
 bBp P w K mg base (A.under (.builtin "type.__call__" ⟨.ref C::us,kw⟩)) outer s H:=⟨by first|exact e.frames|(simpa [Around.under,Code.envs,Code.isFrame,pushEnvs] using e.frames),e.mod,e.bs,e.bsz,e.aLa,e.frf,e.hok,e.bare⟩
section
variable {X:Cx} {pins:List (Addr×Obj)} {σ:St} {H:Hp} {s s':Shared}
theorem Inv.env0 (I:Inv X pins σ H s):bBp X.prog X.w X.K X.mg X.base X.A X.stack s H:=
 ⟨I.ok.frames,I.ok.mod,I.bs,Nat.le_trans I.ok.bsz I.sz,I.stack,I.bFh,I.hok,I.bare⟩
theorem Inv.after {Q:VK} {u:Value} (I:Inv X pins σ H s) (h:CE X.stack X.prog X.w H s Q u s'):EP X pins σ Q u s':=by
 obtain⟨v,H',os,bare,un,hok,r,q⟩:=h
 obtain⟨hh,g,d,t,os'⟩:=s'
 obtain rfl:os'=s.os:=os
 exact⟨v,H',I.call (h':=hh) (g':=g) (d':=d) (t':=t) (ch:=[]) un hok bare (fun b z=>absurd z (by simp)),r,q⟩
end
def bRq (sp:Sp) (dvs:List V) (E:XK) (t:TA):TE:=fun σ H Q=>t σ H fun vs H1=>sp (vs++dvs) H1 Q E
def bRv (C:Addr) (m:Str) (sp:Sp) (dvs:List V) (E:XK) (ta:TE) (t:TA):TE:=fun σ H Q=>ta σ H fun x H1=> ∃a dx fs,x= .ref a/\H1 a=some (.ins C dx fs)/\fs.lookup m=none/\
 t σ H1 fun vs H2=>sp (x::(vs++dvs)) H2 Q E
def bNm (C:Addr) (sp:Sp) (dvs:List V) (E:XK) (t:TA):TE:=fun σ H Q=>t σ H fun vs H1=> ∀x dx,H1 x=none->H1 dx=none->dx≠x->
 sp (.ref x::(vs++dvs)) (upd (upd H1 dx (.own x)) x (.ins C dx [])) (fun v H2=>v= .non/\Q (.ref x) H2) E
def Binds (K:aA) (fd:FuncData) (ps:List Str) (ds:List Value):Prop:=
 ∀(s:Shared) (us:List Value),K.In s.heap->(us++ds).length=ps.length->BindsTo s fd ⟨us,[]⟩ (ps.zip (us++ds))
theorem Binds.all {K:aA} {fd:FuncData} {ps:List Str} (h: ∀us:List Value,us.length=ps.length->bindArgs fd ⟨us,[]⟩=pure (ps.zip us)):Binds K fd ps []:=fun s us _ hl=>by
 rw [List.append_nil] at hl ⊢
 exact .of_eq (h us hl)
def aCk (CX:CXT) (X:Cx) (E:XK):Prop:= ∀(pins:List (Addr×Obj)) (σ:St) (H:Hp) (s:Shared) (e:Value) (s':Shared),Inv X pins σ H s->CX X.stack H s E e s'->X.xe e s'
section
variable {X:Cx} {CX:CXT} {k:Nat} {f C:Addr} {fd:FuncData} {ps:List Str} {sp:Sp} {dvs:List V} {ds:List Value} {E:XK} {x m:Str} {p pos apos:Pos} {e o:Expr} {es:List Expr} {ta:TE} {t:TA}
theorem bDd {pins:List (Addr×Obj)} {σ:St} {H:Hp} {s:Shared} {Q:VK} {us:List Value} {vs:List V} (F:aAi X.prog X.w X.K X.mg X.base CX k f fd ps sp) (hr:jB k X.A) (hb:Binds X.K fd ps ds) (hd:Vals dvs ds) (hx:aCk CX X E)
 (I:Inv X pins σ H s) (r:Vals vs us) (h:sp (vs++dvs) H Q E):wpAny (model X.prog X.w) X.A (call (.ref f) us) (EP X pins σ Q) X.xe s:=by
 have r2:Vals (vs++dvs) (us++ds):=r.append hd
 have hl:(us++ds).length=ps.length:=by rw [<-r2.length];exact F.len _ _ _ _ h
 refine wpAny_call (codeAny_mono (F.run X.A X.stack s H ⟨us,[]⟩ (us++ds) (vs++dvs) Q E hr I.env0 (hb s us I.kIn hl) r2 h) fun r s' hq=> ?_)
 cases r with
 |error e=>exact hx pins σ H s e s' I hq
 |ok fl=>
  cases fl with
  |ret u=>exact I.after hq
  |next=>exact False.elim hq
  |brk=>exact False.elim hq
  |cont=>exact False.elim hq
theorem bMb (F:aAi X.prog X.w X.K X.mg X.base CX k f fd ps sp) (hr:jB k X.A) (hg:Gl X x) (hm:X.mg x=some (.ref f)) (hk:PySem.W.keepIn X.K (.ref f)=true) (hb:Binds X.K fd ps ds) (hd:Vals dvs ds) (hx:aCk CX X E)
 (ha:PA X (e::es) t) (hdb:(x==("__debug__":Str))=false:=by decide) (he:starEach (e::es) X.env=(false,eval e X.env)::starEach es X.env:=by rfl) (hpl:(backTo pos (starEach es X.env)).any (·.1)=false:=by rfl):
 PE X (.Call (.Name x p) (e::es) [] pos) (bRq sp dvs E t):=by
 intro pins s σ H Q I h
 refine wpAny_Call_Name_kw (uG I hg hm ?_ hdb)
 refine PySem.W.callWith_K (h₀:=X.base) I.ok.mod.kin hk (thn (ha pos pins s σ H _ I h) fun us s1 ⟨vs,H1,I1,r,q⟩=>⟨I1.kIn,?_⟩) he hpl
 exact bDd F hr hb hd hx I1 r q
theorem bMe {pl:Sem Bool} (he:PE X o ta) (c:Cls X.K C) (hm:Meth X.K C m f) (F:aAi X.prog X.w X.K X.mg X.base CX k f fd ps sp) (hr:jB k X.A) (hb:Binds X.K fd ps ds) (hd:Vals dvs ds) (hx:aCk CX X E) (ha:PA X (e::es) t)
 (hst:starEach (e::es) X.env=(false,eval e X.env)::starEach es X.env:=by rfl) (hpl:(backTo pos (starEach es X.env)).any (·.1)=false:=by rfl)
 (ht:eval (.Call (.Attribute o m apos) (e::es) [] pos) X.env=(do
   let ov<-eval o X.env
   standAt apos.atName
   let(f,first)<-holding [ov] (getMethod ov m pl)
   callWith pos f first (backTo pos (starEach (e::es) X.env)) (backToKw pos (keywordEach [] X.env))):=by rfl):
 PE X (.Call (.Attribute o m apos) (e::es) [] pos) (bRv C m sp dvs E ta t):=by
 intro pins s σ H Q I h
 refine PySem.W.methodCall_KW (pl:=pl) (thn (he pins s σ H _ I h) fun u s1 ⟨x,H1,I1,rx,a,dx,fs,ex,ea,l,q⟩=> ?_) ht
 subst ex
 obtain rfl:u=Value.ref a:=rx
 refine aOq I1 ea c hm l ?_
 refine PySem.W.callWith_K (first:=[.ref a]) (h₀:=X.base) I.ok.mod.kin hm.kp (thn (ha pos pins s1 σ H1 _ I1 q) fun us s2 ⟨vs,H2,I2,r,q2⟩=>⟨I2.kIn,?_⟩) hst hpl
 exact bDd (us:= .ref a::us) (vs:= .ref a::vs) F hr hb hd hx I2 (.cons rfl r) q2
structure Mk (K:aA) (C f:Addr):Prop where
 makes:PySem.W.makesIn K C=true
 init:PySem.W.findIn K (.ref C) "__init__"=some (some (.ref f))
 fn:PySem.W.isFn K (.ref f)=true
 kp:PySem.W.keepIn K (.ref C)=true
theorem bAm {pins:List (Addr×Obj)} {σ:St} {H:Hp} {s:Shared} {Q:VK} {us:List Value} {vs:List V} (M:Mk X.K C f) (F:aAi X.prog X.w X.K X.mg X.base CX k f fd ps sp) (hr:jB (k+1) X.A) (hb:Binds X.K fd ps ds) (hd:Vals dvs ds)
 (hx:aCk CX X E) (I:Inv X pins σ H s) (r:Vals vs us)
 (h: ∀x dx,H x=none->H dx=none->dx≠x->sp (.ref x::(vs++dvs)) (upd (upd H dx (.own x)) x (.ins C dx [])) (fun v H2=>v= .non/\Q (.ref x) H2) E):
 wpAny (model X.prog X.w) X.A (call (.ref C) us) (EP X pins σ Q) X.xe s:=by
 have hq:=h (s.heap.objs.size+1) s.heap.objs.size (I.hok.fresh (Nat.le_succ _)) (I.hok.fresh (Nat.le_refl _)) (Nat.ne_of_lt (Nat.lt_succ_self _))
 have I2:=Inv.made (C:=C) I
 have r2:Vals (V.ref (s.heap.objs.size+1)::(vs++dvs)) (Value.ref (s.heap.objs.size+1)::(us++ds)):= .cons rfl (r.append hd)
 have hl:(Value.ref (s.heap.objs.size+1)::us++ds).length=ps.length:=by
  have e:=r2.length
  rw [F.len _ _ _ _ hq] at e
  exact e.symm
 refine wpAny_call (bIq (f:=f) I.kIn M.makes M.init (beq_iff_eq.mp M.fn) (codeAny_mono (F.run _ X.stack _ _ ⟨Value.ref (s.heap.objs.size+1)::us,[]⟩ (Value.ref (s.heap.objs.size+1)::(us++ds)) _ _ E (hr.make C us [])
  (I2.env0.make C us []) (hb _ (Value.ref (s.heap.objs.size+1)::us) I2.kIn hl) r2 hq) fun r s' hq'=> ?_))
 cases r with
 |error e=>exact hx pins σ _ _ e s' I2 hq'
 |ok fl=>
  cases fl with
  |ret u=>
   obtain⟨v,H',I3,rv,ev,q3⟩:=I2.after hq'
   subst ev
   exact⟨rv,⟨V.ref (s.heap.objs.size+1),H',I3,rfl,q3⟩⟩
  |next=>exact False.elim hq'
  |brk=>exact False.elim hq'
  |cont=>exact False.elim hq'
theorem bMd (M:Mk X.K C f) (F:aAi X.prog X.w X.K X.mg X.base CX k f fd ps sp) (hr:jB (k+1) X.A) (hg:Gl X x) (hm:X.mg x=some (.ref C)) (hb:Binds X.K fd ps ds) (hd:Vals dvs ds) (hx:aCk CX X E)
 (ha:PA X (e::es) t) (hdb:(x==("__debug__":Str))=false:=by decide) (he:starEach (e::es) X.env=(false,eval e X.env)::starEach es X.env:=by rfl) (hpl:(backTo pos (starEach es X.env)).any (·.1)=false:=by rfl):
 PE X (.Call (.Name x p) (e::es) [] pos) (bNm C sp dvs E t):=by
 intro pins s σ H Q I h
 refine wpAny_Call_Name_kw (uG I hg hm ?_ hdb)
 refine PySem.W.callWith_K (h₀:=X.base) I.ok.mod.kin M.kp (thn (ha pos pins s σ H _ I h) fun us s1 ⟨vs,H1,I1,r,q⟩=>⟨I1.kIn,?_⟩) he hpl
 exact bAm M F hr hb hd hx I1 r q
theorem bJj (M:Mk X.K C f) (F:aAi X.prog X.w X.K X.mg X.base CX k f fd ps sp) (hr:jB (k+1) X.A) (hg:Gl X x) (hm:X.mg x=some (.ref C)) (hb:Binds X.K fd ps ds) (hd:Vals dvs ds) (hx:aCk CX X E)
 (hdb:(x==("__debug__":Str))=false:=by decide):PE X (.Call (.Name x p) [] [] pos) (bNm C sp dvs E bPt):=by
 intro pins s σ H Q I h
 refine wpAny_Call_Name_kw (uG I hg hm ?_ hdb)
 exact PySem.W.callWith_K0 I.kIn M.kp (bAm (us:=[]) M F hr hb hd hx I .nil h)
end
section
variable {X:Cx} {CX:CXT} {k:Nat} {f C:Addr} {fd:FuncData} {ps ks:List Str} {sp:Sp} {E:XK} {x m:Str} {p pos apos kpos:Pos} {e o:Expr} {es:List Expr} {kws:List Keyword} {te ta:TE} {t tk:TA} {nm:Option Str}
variable {g:List Value->List Value->List Value} {gV:List V->List V->List V}
end
structure bA (N P:List Str) (sc:Scope):Prop where
 kind:sc.kind= .function
 co:sc.isCoroutine=false
 gen:sc.isGenerator=false
 nd:N.Nodup
 pre:N.take P.length=P
 par: ∀x∈P,sc.names.lookup x=some .local\/sc.names.lookup x=some .cell
 nofree: ∀y∈sc.names,y.2≠ .free
theorem aTd {kindOf:Str->Option NameKind} {x:Str}: ∀{binds:List (Str×Value)} {m:Str->Option Value},(∀v,(x,v)∉binds)->bindL kindOf binds m x=m x
 |[],_,_=>rfl
 |(n,v)::r,m,h=>by
  unfold bindL
  rw [aTd fun w hw=>h w (List.mem_cons_of_mem _ hw)]
  split
  . have:x≠n:=by rintro rfl;exact h v List.mem_cons_self
    simp [this]
  . rfl
theorem aTb {kindOf:Str->Option NameKind} {x:Str}: ∀{binds:List (Str×Value)} {m:Str->Option Value},(∀v,(x,v)∉binds)->bindC kindOf binds m x=m x
 |[],_,_=>rfl
 |(n,v)::r,m,h=>by
  unfold bindC
  rw [aTb fun w hw=>h w (List.mem_cons_of_mem _ hw)]
  split
  . rfl
  . have:x≠n:=by rintro rfl;exact h v List.mem_cons_self
    simp [this]
theorem aTc {kindOf:Str->Option NameKind} {x:Str} {v:Value}: ∀{P:List Str} {vs:List Value} {i:Nat} {m:Str->Option Value},P.Nodup->P[i]? =some x->vs[i]? =some v->kindOf x=some .local->
 bindL kindOf (P.zip vs) m x=some v
 |[],_,_,_,_,h,_,_=>by simp at h
 |_::_,[],_,_,_,_,h,_=>by simp at h
 |p::P,w::vs,0,m,nd,h1,h2,hk=>by
  simp at h1 h2;subst h1;subst h2
  show bindL kindOf ((p,w)::P.zip vs) m p=_
  unfold bindL
  rw [aTd fun v hv=>(List.nodup_cons.mp nd).1 (List.of_mem_zip hv).1,aD hk]
  simp
 |p::P,w::vs,i+1,m,nd,h1,h2,hk=>by
  show bindL kindOf ((p,w)::P.zip vs) m x=_
  unfold bindL
  exact aTc (i:=i) (List.nodup_cons.mp nd).2 (by simpa using h1) (by simpa using h2) hk
theorem aTa {kindOf:Str->Option NameKind} {x:Str} {v:Value}: ∀{P:List Str} {vs:List Value} {i:Nat} {m:Str->Option Value},P.Nodup->P[i]? =some x->vs[i]? =some v->kindOf x≠some .local->
 bindC kindOf (P.zip vs) m x=some v
 |[],_,_,_,_,h,_,_=>by simp at h
 |_::_,[],_,_,_,_,h,_=>by simp at h
 |p::P,w::vs,0,m,nd,h1,h2,hk=>by
  simp at h1 h2;subst h1;subst h2
  show bindC kindOf ((p,w)::P.zip vs) m p=_
  unfold bindC
  rw [aTb fun v hv=>(List.nodup_cons.mp nd).1 (List.of_mem_zip hv).1,aF hk]
  simp
 |p::P,w::vs,i+1,m,nd,h1,h2,hk=>by
  show bindC kindOf ((p,w)::P.zip vs) m x=_
  unfold bindC
  exact aTa (i:=i) (List.nodup_cons.mp nd).2 (by simpa using h1) (by simpa using h2) hk
def start (N:List Str) (vs:List V):St:=vs.map some++List.replicate (N.length-vs.length) none
def aVc (CX:CXT) (P:Program) (w:World) (K:aA) (mg:Str->Option Value) (base:Heap) (N:List Str) (qual:Str) (scope:Scope) (f:Addr) (cd:Value) (A:Around) (outer:List Env) (s:Shared) (H:Hp) (E:XK):Cx where
 prog:=P
 w:=w
 K:=K
 mg:=mg
 base:=base
 A:=A.deeper (envOfC qual scope s.heap.objs.size f cd)
 N:=N
 s_0:=s
 H_0:=H
 env:=envOfC qual scope s.heap.objs.size f cd
 outer:=outer
 stack:=envOfC qual scope s.heap.objs.size f cd::outer
 ex:=[]
 calm:=true
 fn:=fun _=>true
 pn:=[]
 xe:=fun e s'=>wpAny (model P w) (A.deeper (envOfC qual scope s.heap.objs.size f cd)) (leaving (envOfC qual scope s.heap.objs.size f cd) e) (fun _ s''=>CX outer H s E e s'') (fun e' s''=>CX outer H s E e' s'') s'
theorem aYf {sc:Scope} {n:Nat} {x:Str} (h:sc.names.lookup x=some .cell): ∃c,(cellsFrom n sc.names []).lookup x=some c:=by
 have q:=PySem.W.cellsFrom_some sc.names n [] (.inl h)
 exact Option.isSome_iff_exists.mp q
theorem bGc {CX:CXT} {P:Program} {w:World} {K:aA} {mg:Str->Option Value} {base:Heap} {N ps:List Str} {qual:Str} {scope:Scope} {f:Addr} {cd:Value} {A:Around} {outer:List Env} {s s1:Shared} {H:Hp} {E:XK} {us:List Value} {vs:List V}
 (S:bA N ps scope) (hd:A.handled=none) (e0:bBp P w K mg base A outer s H) (hl:vs.length=ps.length) (r:Vals vs us)
 (x:InCallC s s.heap.objs.size (bindL (envOfC qual scope s.heap.objs.size f cd).kindOf (ps.zip us) fun _=>none) (cellsFrom (s.heap.objs.size+1) scope.names []) (bindC (envOfC qual scope s.heap.objs.size f cd).kindOf (ps.zip us) fun _=>none) s1):
 Inv (aVc CX P w K mg base N qual scope f cd A outer s H E) [] (start N vs) H s1:=by
 have hpl:ps.length<=N.length:=by have:=congrArg List.length S.pre;rw [List.length_take] at this;omega
 obtain⟨h1,tk,rfl,hk⟩:=x.done
 have noA: ∀b:Addr,b∉(aVc CX P w K mg base N qual scope f cd A outer s H E).ex:=fun b z=>absurd (show b∈([]:List Addr) from z) (by simp)
 refine⟨⟨e0.mod,S.kind,rfl,rfl,Nat.le_refl _,fun y z c h1 h2=> ?_,fun y hy=> ?_,fun y c _ h=> ?_,fun _=>hd,Around.frames_deeper e0.frames,.inr ⟨rfl,rfl⟩,fun b z=>absurd z (noA b),e0.bs,e0.bsz,fun b _ _=>noA b,fun b z=>absurd z (noA b),e0.aLa,e0.frf⟩,
  rfl,e0.bare,Un.kept hk,⟨_,x.toInCall.ns,fun i y v h1 h2 h3=> ?_⟩,fun y c h=>⟨_,x.cell y c h⟩,e0.hok.fresh (Nat.le_refl _),fun y c h=> ?_,fun p hp=>absurd (show p∈([]:List (Addr×Obj)) from hp) (by simp),e0.hok.kept hk,?_⟩
 . exact name_of_addr x.apart (PySem.mem_of_lookup h1) (PySem.mem_of_lookup h2)
 . have hy:scope.names.lookup y=some .cell\/scope.names.lookup y=some .free:=hy
   rcases hy with hy|hy
   . exact aYf hy
   . exact absurd rfl (S.nofree _ (PySem.mem_of_lookup hy))
 . exact Nat.le_of_lt (x.above y c (PySem.mem_of_lookup h))
 . have hi:i<vs.length:=by
    unfold start at h2
    by_cases hi:i<vs.length
    . exact hi
    . rw [List.getElem?_append_right (by simpa using hi)] at h2
      rw [List.getElem?_replicate] at h2
      split at h2<;>cases h2
   have ha:vs[i]? =some v:=by
    unfold start at h2
    rw [List.getElem?_append_left (by simpa using hi),List.getElem?_map] at h2
    cases e:vs[i]? with
    |none=>rw [e] at h2;cases h2
    |some a=>rw [e] at h2;cases h2;rfl
   obtain⟨u,hu,rv⟩:=r.get ha
   have hp:ps[i]? =some y:=by
    rw [<-S.pre,List.getElem?_take_of_lt (by omega)];exact h1
   have ndP:ps.Nodup:=by rw [<-S.pre];exact S.nd.sublist (List.take_sublist _ _)
   refine⟨u,rv,?_⟩
   rcases S.par y (List.mem_of_getElem? hp) with k|k
   . exact .inl ⟨k,aTc ndP hp hu k⟩
   . obtain⟨c,e⟩:=aYf (n:=s.heap.objs.size+1) k
     refine .inr ⟨.inl k,c,e,?_⟩
     have q:=x.cell y c e
     rw [aTa ndP hp hu (by show scope.names.lookup y≠_;rw [k];decide)] at q
     exact q
 . exact e0.hok.fresh (Nat.le_of_lt (x.above y c (PySem.mem_of_lookup h)))
 . unfold start
   show _=N.length
   rw [List.length_append,aG,List.length_replicate]
   omega
theorem bQh {CX:CXT} {P:Program} {w:World} {K:aA} {mg:Str->Option Value} {base:Heap} {k:Nat} {f:Addr} {name qual:Str} {params:Arguments} {body:List Stmt} {scope:Scope} {dV kV doc pm cdv ct oc:Value} {an od:Option Addr}
 {osl:Array (Option Value)} {N ps:List Str} {sp:Sp} (lk:K.lookup f=some ⟨oc,od,.func (PySem.W.fnOf name qual params body scope dV kV doc pm an cdv ct),osl⟩) (hcd:PySem.W.codeIn K cdv qual=true) (S:bA N ps scope)
 (len: ∀vs H Q E,sp vs H Q E->vs.length=ps.length)
 (hbody: ∀(A:Around) (outer:List Env) (s:Shared) (H:Hp) (vs:List V) (Q:VK) (E:XK),jB k (A.deeper (envOfC qual scope s.heap.objs.size f cdv))->sp vs H Q E->
   ∃t,PSs (aVc CX P w K mg base N qual scope f cdv A outer s H E) body t/\t {nx:=fun _ H'=>Q .non H',rt:=Q} (start N vs) H):
 aAi P w K mg base CX (k+1) f (PySem.W.fnOf name qual params body scope dV kV doc pm an cdv ct) ps sp:=by
 refine⟨len,fun A outer s H args us vs Q E hr e0 hb r hsp=> ?_⟩
 have hl:=len _ _ _ _ hsp
 have KX:K.In s.heap:=e0.mod.kin.keeps fun b o e=>(e0.bs b o e).1
 have lim:s.heap.NoLimit:=e0.mod.nolimit.keeps fun b o e=>(e0.bs b o e).1
 have hkind: ∀y∈ps.zip us,scope.names.lookup y.1=some .local\/(scope.names.lookup y.1=some .cell/\((cellsFrom (s.heap.objs.size+1) scope.names []).lookup y.1).isSome=true):=fun⟨n,v⟩ hy=>by
  rcases S.par n (List.of_mem_zip hy).1 with q|q
  . exact .inl q
  . exact .inr ⟨q,PySem.W.cellsFrom_some _ _ _ (.inl q)⟩
 refine codeAny_call_function hr.depth (KX _ _ lk) rfl S.co S.gen rfl (PySem.W.codeRec_of KX hcd) (hb _ _ _ _ ?_)
 refine wpAny_newFunctionEnv_cells S.kind hkind fun env he s1 x=> ?_
 subst he
 refine⟨lim.keeps x.toInCall.keep,codeAny_func ?_⟩
 obtain⟨t,ht,hq⟩:=hbody A outer s H vs Q E (hr.deeper _) hsp
 have I:Inv (aVc CX P w K mg base N qual scope f cdv A outer s H E) [] (start N vs) H s1:=bGc S hr.hd e0 hl r x
 refine wpAny_mono (ht [] s1 (start N vs) H _ I hq) (fun fl s' hs=> ?_) fun e s' hs=>hs
 have fin: ∀{σ':St} {H':Hp} {v:V} {u:Value},Inv (aVc CX P w K mg base N qual scope f cdv A outer s H E) [] σ' H' s'->RelV v u->Q v H'->CE outer P w H s Q u s':=
  fun {σ' H' v u} J rv q=>⟨v,H',J.os,J.bare,J.base,J.hok,rv,q⟩
 cases fl with
 |ret u=>
  obtain⟨v,σ',H',J,rv,q⟩:=hs
  exact fin J rv q
 |next=>
  obtain⟨σ',H',J,q⟩:=hs
  exact fin (v:=V.non) (u:=Value.none) J rfl q
 |brk=>
  obtain⟨_,_,_,q⟩:=hs
  exact False.elim q
 |cont=>
  obtain⟨_,_,_,q⟩:=hs
  exact False.elim q
end L2
namespace L2
open PySem PySem.Spec PyProof.Rows
section
variable {X:Cx} {x:Str} {p pos:Pos} {e:Expr} {es:List Expr} {t:TA} {id T:String} {r:List V->Hp->VK->Prop}
def tCB (r:List V->Hp->VK->Prop) (t:TA):TE:=fun σ H Q=>t σ H fun vs H1=>r vs H1 Q
theorem bL (hc:sH X (.builtin id) r) (hg:Gl X x) (hm:X.mg x=none) (hv:bootBuiltins x=some (.builtin id)) (ha:PA X (e::es) t) (hn:x≠"__name__":=by decide) (hdb:(x==("__debug__":Str))=false:=by decide)
 (he:starEach (e::es) X.env=(false,eval e X.env)::starEach es X.env:=by rfl) (hpl:(backTo pos (starEach es X.env)).any (·.1)=false:=by rfl):PE X (.Call (.Name x p) (e::es) [] pos) (tCB r t):=by
 intro pins s σ H Q I h
 refine wpAny_Call_Name_kw (rR I hg hm hv ?_ hn hdb)
 exact PyProof.Rows.callWith_builtin1 (thn (ha pos pins s σ H _ I h) fun us s1 ⟨vs,H1,I1,r1,q1⟩=>hc pins s1 σ H1 vs us Q I1 r1 q1) he hpl
theorem aTz (hc:sH X (.type T) r) (hg:Gl X x) (hm:X.mg x=none) (hv:bootBuiltins x=some (.type T)) (ha:PA X (e::es) t) (hn:x≠"__name__":=by decide) (hdb:(x==("__debug__":Str))=false:=by decide)
 (he:starEach (e::es) X.env=(false,eval e X.env)::starEach es X.env:=by rfl) (hpl:(backTo pos (starEach es X.env)).any (·.1)=false:=by rfl):PE X (.Call (.Name x p) (e::es) [] pos) (tCB r t):=by
 intro pins s σ H Q I h
 refine wpAny_Call_Name_kw (rR I hg hm hv ?_ hn hdb)
 exact PyProof.Rows.callWith_type1 (thn (ha pos pins s σ H _ I h) fun us s1 ⟨vs,H1,I1,r1,q1⟩=>hc pins s1 σ H1 vs us Q I1 r1 q1) he hpl
end
end L2
namespace HT
open PySem PyProof.Rows
section
open PySem.SeqAt
open PySem.AutoSeq1 (wpAny_loadPart')
open PySem.MeetsSeq PySem.MeetsSeq2 PySem.MeetsSeq3
end
section
variable {prog:Program} {w:World} {A:Around} {E:Value->Shared->Prop} {s:Shared}
def sIx (n d:Nat):Option Int->Nat
 |none=>d
 |some v=>if v<0 then(v+(n:Int)).toNat else min v.toNat n
theorem bAn (n d:Nat):sIx n d none=d:=rfl
theorem aNg (n d k:Nat):sIx n d (some (k:Int))=min k n:=by
 show (if(k:Int)<0 then((k:Int)+(n:Int)).toNat else min (k:Int).toNat n)=min k n
 rw [aF (by omega),aH]
end
end HT
namespace L2
open PySem PySem.Spec PyProof.Rows
abbrev TO:=St->Hp->(Option Int->Hp->Prop)->Prop
def PO (X:Cx) (e:Option Expr) (t:TO):Prop:=
 ∀(pins:List (Addr×Obj)) (s:Shared) (σ:St) (H:Hp) (Q:Option Int->Hp->Prop),Inv X pins σ H s->t σ H Q->
  wpAny (model X.prog X.w) X.A (evalPart e X.env) (fun u s'=> ∃o H',Inv X pins σ H' s'/\IsPart u o/\Q o H') X.xe s
def bFk:TO:=fun _ H Q=>Q none H
inductive bKj (x:V) (H1:Hp) (Q:Option Int->Hp->Prop):Prop|mk (i:Int) (z0:x= .int i) (z1:Q (some i) H1) theorem bKk {x:V} {H1:Hp} {Q:Option Int->Hp->Prop}:bKj x H1 Q↔ ∃i,x= .int i/\Q (some i) H1:=⟨fun⟨i,z0,z1⟩=>⟨i,z0,z1⟩,fun⟨i,z0,z1⟩=>⟨i,z0,z1⟩⟩ def bNo (t:TE):TO:=fun σ H Q=>t σ H fun x H1=>bKj x H1 Q
section
variable {X:Cx} {e:Expr} {te:TE} {lo hi:Option Expr} {tl th:TO} {pos p2:Pos}
theorem aAf:PO X none bFk:=by
 intro pins s σ H Q I h
 rw [evalPart_none]
 exact wpAny_pure ⟨none,H,I,.none,h⟩
theorem gH (h:PE X e te):PO X (some e) (bNo te):=by
 intro pins s σ H Q I hw
 rw [evalPart_some]
 refine thn (h pins s σ H _ I hw) fun u s1 ⟨x,H1,I1,r1,q1⟩=> ?_
 obtain⟨i,rfl,q⟩:=q1
 obtain⟨t,rfl⟩:=r1
 exact⟨some i,H1,I1,.int i t,q⟩
def SlR (X:Cx) (r:V->Option Int->Option Int->Hp->VK->Prop):Prop:=
 ∀(pins:List (Addr×Obj)) (s:Shared) (σ:St) (H:Hp) (x:V) (v vl vu:Value) (lo hi:Option Int) (sl:Addr) (Q:VK),Inv X pins σ H s->RelV x v->s.heap.IsSliceOf sl vl vu .none->IsPart vl lo->IsPart vu hi->r x lo hi H Q->
  ∃T id,typeLookup (.type T) "__getitem__"=pure (some (.builtin id))/\s.TypeIs v T/\wpAny (model X.prog X.w) X.A (getItem v (.ref sl)) (EP X pins σ Q) X.xe s
def tSl (r:V->Option Int->Option Int->Hp->VK->Prop) (te:TE) (tl th:TO):TE:=fun σ H Q=>te σ H fun x H1=>tl σ H1 fun l H2=>th σ H2 fun u H3=>r x l u H3 Q
theorem iU {r:V->Option Int->Option Int->Hp->VK->Prop} (hr:SlR X r) (he:PE X e te) (hl:PO X lo tl) (hu:PO X hi th):PE X (.Subscript e (.Slice lo hi none p2) pos) (tSl r te tl th):=by
 intro pins s σ H Q I h
 refine Subscript_ (thn (he pins s σ H _ I h) fun v s1 ⟨x,H1,I1,r1,q1⟩=> ?_)
 refine wpAny_Slice (thn (hl pins s1 σ H1 _ I1 q1) fun vl s2 ⟨l,H2,I2,pl,q2⟩=>thn (hu pins s2 σ H2 _ I2 q2) fun vu s3 ⟨u,H3,I3,pu,q3⟩=> ?_)
 rw [evalPart_none]
 refine wpAny_pure ?_
 have I4:Inv X pins σ H3 {s3 with heap:=s3.heap.push {cls:= .type "slice",data:= .fields #[vl,vu,.none]}}:=I3.kept (t':=s3.toks) fun b ob q=>Heap.get?_push_of_some _ q
 obtain⟨T,id,hT,ht,hg⟩:=hr pins {s3 with heap:=s3.heap.push {cls:= .type "slice",data:= .fields #[vl,vu,.none]}} σ H3 x v vl vu l u s3.heap.objs.size Q I4 r1 (Heap.IsSliceOf.new ..) pl pu q3
 show wpAny (model X.prog X.w) X.A (subscriptTail e (.Slice lo hi none p2) v (.ref s3.heap.objs.size)) (EP X pins σ Q) X.xe {s3 with heap:=s3.heap.push {cls:= .type "slice",data:= .fields #[vl,vu,.none]}}
 exact tail_any (ops:=[.ref s3.heap.objs.size,v]) ht hT hg (by with_unfolding_all rfl)
def oV (xs:List V) (lo hi:Option Int):List V:=(xs.drop (HT.sIx xs.length 0 lo)).take (HT.sIx xs.length xs.length hi-HT.sIx xs.length 0 lo)
theorem aYi (xs:List V) (lo hi:Option Int):(oV xs lo hi).length<=xs.length:=by
 unfold oV
 rw [List.length_take,List.length_drop]
 omega
end
end L2
namespace L2
open PySem PySem.Spec PyProof.Rows
def ixN (n:Nat) (i:Int):Option Nat:=if 0<=i then(if i<n then some i.toNat else none) else if-(n:Int)<=i then some (i+n).toNat else none
def atI {α:Type} (xs:List α) (i:Int):Option α:=(ixN xs.length i).bind fun j=>xs[j]?
theorem bEq {n:Nat} {i:Int} {j:Nat} (h:ixN n i=some j):seqIndex? i n=some j/\j<n/\ -(n:Int)<=i/\i<n:=by
 unfold ixN at h
 by_cases h0:0<=i
 . rw [aD h0] at h
   by_cases h1:i<n
   . rw [aD h1] at h
     have e:i.toNat=j:=Option.some.inj h
     exact⟨by rw [seqIndex_of h0 h1,e],by omega,by omega,h1⟩
   . rw [aF h1] at h;cases h
 . rw [aF h0] at h
   by_cases h1: -(n:Int)<=i
   . rw [aD h1] at h
     have e:(i+n).toNat=j:=Option.some.inj h
     exact⟨by rw [seqIndex_neg (by omega) h1,e],by omega,h1,by omega⟩
   . rw [aF h1] at h;cases h
theorem aUz {α:Type} {xs:List α} {i:Int} {v:α} (h:atI xs i=some v): ∃j,seqIndex? i xs.length=some j/\xs[j]? =some v/\j<xs.length/\ -(xs.length:Int)<=i/\i<xs.length:=by
 unfold atI at h
 cases e:ixN xs.length i with
 |none=>rw [e] at h;cases h
 |some j=>
  rw [e] at h
  obtain⟨h1,h2,h3,h4⟩:=bEq e
  exact⟨j,h1,h,h2,h3,h4⟩
theorem bKw {α:Type} {xs:List α} {j:Nat} {v:α} (h:xs[j]? =some v):atI xs (j:Int)=some v:=by
 have hj:j<xs.length:=(List.getElem?_eq_some_iff.mp h).1
 have e:ixN xs.length (j:Int)=some j:=by
  unfold ixN
  rw [aD (by omega),aD (by omega)];simp
 unfold atI;rw [e];exact h
def bKs (b:Expr):Prop:= ∀o i,subscripted b false o i=operate [o,i] (getItem o i)
def IxR (X:Cx) (r:R2):Prop:=
 ∀(value slice:Expr) (pins:List (Addr×Obj)) (s:Shared) (σ:St) (H:Hp) (x y:V) (v u:Value) (Q:VK),Inv X pins σ H s->RelV x v->RelV y u->r x y H Q->
  subscripted slice false v u=operate [v,u] (getItem v u)->wpAny (model X.prog X.w) X.A (subscriptTail value slice v u) (EP X pins σ Q) X.xe s
def MtR (X:Cx) (id:String) (r:V->List V->Hp->VK->Prop):Prop:=
 ∀(pins:List (Addr×Obj)) (s:Shared) (σ:St) (H:Hp) (x:V) (xs:List V) (v:Value) (us:List Value) (Q:VK),Inv X pins σ H s->RelV x v->Vals xs us->r x xs H Q->
  wpAny (model X.prog X.w) X.A (call (.builtin id) (v::us)) (EP X pins σ Q) X.xe s
section
variable {X:Cx} {a b:Expr} {ta tb:TE} {pos:Pos}
theorem bZ {r:R2} (hr:IxR X r) (ha:PE X a ta) (hb:PE X b tb) (hs:bKs b):PE X (.Subscript a b pos) (tOp r ta tb):=by
 intro pins s σ H Q I h
 exact Subscript_ (bOa ha hb I h fun v u s2 x y H2 I2 rx ry q=>hr a b pins s2 σ H2 x y v u Q I2 rx ry q (hs _ _))
inductive bRh (K:aA) (x y:V) (H:Hp) (Q:VK):Prop|mk (p:Addr) (xs:List V) (i:Int) (v:V) (z0:x= .ref p) (z1:y= .int i) (z2:SqL K H p xs) (z3:atI xs i=some v) (z4:Q v H) def bRg (K:aA):R2:=fun x y H Q=>bRh K x y H Q
inductive bRi (K:aA) (x y:V) (H:Hp) (Q:VK):Prop|mk (p:Addr) (xs:List V) (i:Int) (v:V) (z0:x= .ref p) (z1:y= .int i) (z2:SqT K H p xs) (z3:atI xs i=some v) (z4:Q v H) def bSs (K:aA):R2:=fun x y H Q=>bRi K x y H Q
theorem bD:IxR X (bRg X.K):=by
 intro value slice pins s σ H x y v u Q I rx ry h hs
 obtain⟨p,xs,i,z,rfl,rfl,hq,he,q⟩:=h
 cases rx
 obtain⟨t,rfl⟩:=ry
 obtain⟨its,r,pl,hz⟩:=I.list hq
 obtain⟨j,h1,h2,h3,h4,h5⟩:=aUz he
 obtain⟨w,ew,rw'⟩:=r.get h2
 have hl:=r.length
 have hn:=aOu
 have fin:EP X pins σ Q w s:=⟨z,H,I,rw',q⟩
 by_cases h0:0<=i
 . have hj:i.toNat=j:=by
    rw [seqIndex_of h0 h5] at h1
    exact Option.some.inj h1
   exact item_listR pl.isList h0 (by omega) (by rw [hj];simpa using ew) fin hs
 . have hj:(i+(its.toArray.size:Int)).toNat=j:=by
    rw [seqIndex_neg (by omega) h4] at h1
    rw [List.size_toArray,<-hl]
    exact Option.some.inj h1
   exact subscriptTail_builtinR (x:=w) pl.isList.typeIs slot_list_getitem.lookup
    (wpAny_getItem_list_neg (Q:=fun r s'=>r=w/\EP X pins σ Q r s') pl.isList (by omega) (by rw [List.size_toArray]<;>omega) (by omega) (by rw [hj];simpa using ew) ⟨rfl,fin⟩) hs
theorem bOl:IxR X (bSs X.K):=by
 intro value slice pins s σ H x y v u Q I rx ry h hs
 obtain⟨p,xs,i,z,rfl,rfl,hq,he,q⟩:=h
 cases rx
 obtain⟨t,rfl⟩:=ry
 obtain⟨its,r,pl,hz⟩:=I.tuple hq
 obtain⟨j,h1,h2,h3,h4,h5⟩:=aUz he
 obtain⟨w,ew,rw'⟩:=r.get h2
 have hl:=r.length
 have hn:=aOu
 have fin:EP X pins σ Q w s:=⟨z,H,I,rw',q⟩
 exact subscriptTail_builtinR (x:=w) pl.typeIs slot_tuple_getitem.lookup
  (getItem_tuple (j:=j) (Q:=fun r s'=>r=w/\EP X pins σ Q r s') pl (by omega) (by omega) (by rw [List.size_toArray,<-hl];exact h1) (by simpa using ew) ⟨rfl,fin⟩) hs
theorem bCs (its:List Value) (n j:Nat) (u:Value):Obj.mapSeq (·.setIfInBounds j u) {cls:= .type "list",data:= .seq its.toArray n}={cls:= .type "list",data:= .seq (its.set j u).toArray n}:=by
 simp [Obj.mapSeq]
theorem Inv.lst {pins:List (Addr×Obj)} {σ:St} {H:Hp} {s:Shared} {p:Addr} {xs:List V} (I:Inv X pins σ H s) (h:H p=some (.lst xs)):
 ∃(its:List Value) (n:Nat),Vals xs its/\s.heap.get? p=some {cls:= .type "list",data:= .seq its.toArray n}/\xs.length<=sizeLine:=by
 obtain⟨z,its,n,r,e⟩:=I.hok p _ h
 exact⟨its,n,r,e,z⟩
theorem Inv.bOt {pins:List (Addr×Obj)} {σ:St} {H:Hp} {s:Shared} {p:Addr} {xs ys:List V} {its its':List Value} {n n':Nat} {f:Obj->Obj} (I:Inv X pins σ H s) (h:H p=some (.lst xs))
 (ho:s.heap.get? p=some {cls:= .type "list",data:= .seq its.toArray n}) (hf:f {cls:= .type "list",data:= .seq its.toArray n}={cls:= .type "list",data:= .seq its'.toArray n'}) (r:Vals ys its') (hz:ys.length<=sizeLine) (t:Nat):
 Inv X pins σ (upd H p (.lst ys)) {s with heap:=s.heap.update p f,toks:=t}:=by
 have e:(s.heap.update p f).get? p=some {cls:= .type "list",data:= .seq its'.toArray n'}:=by
  rw [Heap.get?_update_self f ho (by rw [hf]<;>rfl),hf]
 refine I.write (x:=p) (e:=p) (by rw [h];trivial) (.inl rfl) (fun b u hb q=>(Heap.get?_update_other _ _ (Ne.symm hb)).trans q) ⟨_,e⟩ ?_
 exact⟨hz,its',n',r,e⟩
inductive bPf (o i v:V) (H:Hp) (Q:Hp->Prop):Prop|mk (p:Addr) (xs:List V) (k:Int) (j:Nat) (z0:o= .ref p) (z1:i= .int k) (z2:H p=some (.lst xs)) (z3:ixN xs.length k=some j) (z4:Q (upd H p (.lst (xs.set j v)))) def bRk:V->V->V->Hp->(Hp->Prop)->Prop:=fun o i v H Q=>bPf o i v H Q
theorem set_list:bPz X bRk:=by
 intro pins s σ H o i v ov iv u Q I ro ri rv h
 obtain⟨p,xs,k,j,rfl,rfl,hp,hj,q⟩:=h
 cases ro
 obtain⟨t,rfl⟩:=ri
 obtain⟨its,n,r,ho,hz⟩:=I.lst hp
 obtain⟨h1,h2,h3,h4⟩:=bEq hj
 have hl:=r.length
 have hn:=aOu
 have I':Inv X pins σ (upd H p (.lst (xs.set j v))) {s with heap:=s.heap.update p (Obj.mapSeq (·.setIfInBounds j u))}:=
  I.bOt hp ho (bCs its n j u) (r.set rv j) (by rw [List.length_set];exact hz) s.toks
 by_cases h0:0<=k
 . have hk:k.toNat=j:=by
    rw [seqIndex_of h0 h4] at h1
    exact Option.some.inj h1
   exact PySem.W.ki_setAt ho h0 (by omega) (by rw [List.size_toArray,<-hl];exact h4) (by rw [hk];exact⟨_,I',q⟩)
 . have hk:(k+(its.toArray.size:Int)).toNat=j:=by
    rw [seqIndex_neg (by omega) h3] at h1
    rw [List.size_toArray,<-hl]
    exact Option.some.inj h1
   exact PySem.W.ki_setBack ho (by omega) (by rw [List.size_toArray,<-hl];exact h3) (by omega) (by rw [hk];exact⟨_,I',q⟩)
theorem aXc (lo hi:Option Int) (n:Nat):(sliceBounds lo hi none n).1=((HT.sIx n 0 lo:Nat):Int)/\(sliceBounds lo hi none n).2.1=((HT.sIx n n hi:Nat):Int)/\(sliceBounds lo hi none n).2.2=1:=by
 refine⟨?_,?_,rfl⟩
 . cases lo with
   |none=>simp [sliceBounds,HT.sIx]
   |some i=>
    simp only [sliceBounds,HT.sIx,Option.getD_none,show (1:Int)>0 by decide,if_true]
    by_cases h:i<0
    . simp only [h,if_true]<;>omega
    . simp only [h,if_false]<;>omega
 . cases hi with
   |none=>simp [sliceBounds,HT.sIx]
   |some i=>
    simp only [sliceBounds,HT.sIx,Option.getD_none,show (1:Int)>0 by decide,if_true]
    by_cases h:i<0
    . simp only [h,if_true]<;>omega
    . simp only [h,if_false]<;>omega
theorem aSe (its:List Value) (lo hi:Option Int):slicePick its.toArray lo hi none=((its.drop (HT.sIx its.length 0 lo)).take (HT.sIx its.length its.length hi-HT.sIx its.length 0 lo)).toArray:=by
 obtain⟨h1,h2,h3⟩:=aXc lo hi its.toArray.size
 unfold slicePick
 rw [h1,h2,h3]
 simp only [sliceRange_one,pick_run,List.size_toArray]<;>rfl
def bSv (K:aA):V->Option Int->Option Int->Hp->VK->Prop:=fun x lo hi H Q=> ∃a xs,x= .ref a/\SqL K H a xs/\ ∀p,H p=none->Q (.ref p) (upd H p (.lst (oV xs lo hi)))
theorem lV:SlR X (bSv X.K):=by
 intro pins s σ H x v vl vu lo hi sl Q I rx hs pl pu h
 obtain⟨a,xs,rfl,hx,q⟩:=h
 cases rx
 obtain⟨its,r,ht,hz⟩:=I.list hx
 have hlen:=r.length
 refine⟨"list",_,slot_list_getitem.lookup,ht.isList.typeIs,?_⟩
 refine wpAny_getItem_list_slice ht.isList hs pl pu .none (by simp) ?_ (by rw [List.size_toArray]<;>omega)
 rw [aSe,<-hlen]
 refine⟨.ref s.heap.objs.size,_,I.laid (t':=s.toks) (o:= .lst (oV xs lo hi)) (fun b ob q=>Heap.get?_push_of_some _ q) (Nat.le_refl _) ?_,rfl,q _ (I.hok.fresh (Nat.le_refl _))⟩
 exact⟨Nat.le_trans (aYi xs lo hi) hz,_,0,(r.drop (HT.sIx xs.length 0 lo)).take (HT.sIx xs.length xs.length hi-HT.sIx xs.length 0 lo),Heap.get?_push_size _ rfl⟩
def aBe:V->Bool
 | .non=>true
 | .bl _=>true
 | .int _=>true
 | .str _=>true
 |_=>false
def eqV:V->V->Bool
 | .non,.non=>true
 | .bl a,.bl b=>a==b
 | .bl a,.int b=>(if a then 1 else 0)==b
 | .int a,.bl b=>a==(if b then 1 else 0)
 | .int a,.int b=>a==b
 | .str a,.str b=>a==b
 |_,_=>false
theorem bOi {A:Around} {s:Shared} {y x:V} {u v:Value} (ry:RelV y u) (rx:RelV x v) (fy:aBe y=true) (fx:aBe x=true):SeqAt.EqAt A s u v (eqV y x):=by
 cases y with
 |non=>
  cases ry
  cases x with
  |non=>cases rx;exact SeqAt.EqAt.same _
  |bl b=>cases rx;exact SeqAt.EqAt.none_bool b
  |int b=>obtain⟨t,rfl⟩:=rx;exact SeqAt.EqAt.none_int b t
  |str b=>obtain⟨t,rfl⟩:=rx;exact SeqAt.EqAt.none_str b t
  |_=>exact absurd (show false=true from fx) Bool.false_ne_true
 |bl a=>
  cases ry
  cases x with
  |non=>cases rx;exact SeqAt.EqAt.bool_none a
  |bl b=>cases rx;exact SeqAt.EqAt.bool_bool a b
  |int b=>obtain⟨t,rfl⟩:=rx;exact SeqAt.EqAt.bool_int a b t
  |str b=>obtain⟨t,rfl⟩:=rx;exact SeqAt.EqAt.bool_str a b t
  |_=>exact absurd (show false=true from fx) Bool.false_ne_true
 |int a=>
  obtain⟨t',rfl⟩:=ry
  cases x with
  |non=>cases rx;exact SeqAt.EqAt.int_none a t'
  |bl b=>cases rx;exact SeqAt.EqAt.int_bool a t' b
  |int b=>obtain⟨t,rfl⟩:=rx;exact SeqAt.EqAt.int_int a t' b t
  |str b=>obtain⟨t,rfl⟩:=rx;exact SeqAt.EqAt.int_str a t' b t
  |_=>exact absurd (show false=true from fx) Bool.false_ne_true
 |str a=>
  obtain⟨t',rfl⟩:=ry
  cases x with
  |non=>cases rx;exact SeqAt.EqAt.str_none a t'
  |bl b=>cases rx;exact SeqAt.EqAt.str_bool a t' b
  |int b=>obtain⟨t,rfl⟩:=rx;exact SeqAt.EqAt.str_int a t' b t
  |str b=>obtain⟨t,rfl⟩:=rx;exact SeqAt.EqAt.str_str a t' b t
  |_=>exact absurd (show false=true from fx) Bool.false_ne_true
 |_=>exact absurd (show false=true from fy) Bool.false_ne_true
def eqU (x:V) (u:Value):Bool:=match u with
 | .none=>eqV .non x
 | .bool b=>eqV (.bl b) x
 | .int i _=>eqV (.int i) x
 | .str z _=>eqV (.str z) x
 |_=>false
theorem bIb {x y:V} {u:Value} (r:RelV y u) (f:aBe y=true):eqU x u=eqV y x:=by
 cases y with
 |non=>cases r;rfl
 |bl b=>cases r;rfl
 |int i=>obtain⟨t,rfl⟩:=r;rfl
 |str z=>obtain⟨t,rfl⟩:=r;rfl
 |_=>exact absurd (show false=true from f) Bool.false_ne_true
theorem aUy {x:V}: ∀{xs:List V} {us:List Value},Vals xs us->xs.all aBe=true->us.any (eqU x)=xs.any fun y=>eqV y x
 |_,_,.nil,_=>rfl
 |y::xs,u::us,.cons r t,f=>by
  rw [List.all_cons,Bool.and_eq_true] at f
  rw [List.any_cons,List.any_cons,bIb r f.1,aUy t f.2]
theorem aOv {A:Around} {s:Shared} {x:V} {v:Value} (rx:RelV x v) (fx:aBe x=true): ∀{xs:List V} {us:List Value},Vals xs us->xs.all aBe=true-> ∀u∈us,SeqAt.EqAt A s u v (eqU x u)
 |_,_,.nil,_=>fun u hu=>by cases hu
 |y::xs,u::us,.cons r t,f=>fun u' hu=>by
  rw [List.all_cons,Bool.and_eq_true] at f
  rcases List.mem_cons.mp hu with rfl|hu
  . rw [bIb r f.1];exact bOi r rx f.1 fx
  . exact aOv rx fx t f.2 u' hu
def inV (x:V) (xs:List V):Bool:=xs.any fun y=>eqV y x
def rIn (K:aA) (neg:Bool):R2:=fun x y H Q=> ∃p xs,y= .ref p/\(SqL K H p xs\/SqT K H p xs)/\aBe x=true/\xs.all aBe=true/\Q (.bl (if neg then !inV x xs else inV x xs)) H
theorem aIt:OpR X (compareOp .In) (rIn X.K false):=by
 intro pins s σ H x y v u Q I rx ry h
 obtain⟨p,xs,rfl,hq,fx,fs,q⟩:=h
 cases ry
 rcases hq with hq|hq
 . obtain⟨its,r,pl,hz⟩:=I.list hq
   refine SeqAt.in_listAt (eqU x) pl.isList (fun w hw=>aOv rx fx r fs w (by simpa using hw)) ⟨.bl _,H,I,rfl,?_⟩
   rw [show its.toArray.any (eqU x)=its.any (eqU x) by simp,aUy r fs]
   exact q
 . obtain⟨its,r,pl,hz⟩:=I.tuple hq
   refine SeqAt.in_tupleAt (eqU x) pl (fun w hw=>aOv rx fx r fs w (by simpa using hw)) ⟨.bl _,H,I,rfl,?_⟩
   rw [show its.toArray.any (eqU x)=its.any (eqU x) by simp,aUy r fs]
   exact q
theorem bH:sH X (.builtin "len") (fun xs H Q=> ∃p ys,xs=[.ref p]/\(SqL X.K H p ys\/SqT X.K H p ys)/\Q (.int ys.length) H):=by
 intro pins s σ H xs us Q I r h
 obtain⟨p,ys,rfl,hq,q⟩:=h
 obtain⟨u,rfl,rx⟩:=vals1 r
 cases rx
 have hn:=aOu
 rcases hq with hq|hq
 . obtain⟨its,r',pl,hz⟩:=I.list hq
   have hlen:=r'.length
   exact Calls.call_len_list pl.isList (by simp only [List.size_toArray]<;>omega) ⟨.int ys.length,H,I.tok _,⟨s.toks+1,by rw [List.size_toArray,hlen]⟩,q⟩
 . obtain⟨its,r',pl,hz⟩:=I.tuple hq
   have hlen:=r'.length
   exact len_tuple pl (by simp only [List.size_toArray]<;>omega) ⟨.int ys.length,H,I.tok _,⟨s.toks+1,by rw [List.size_toArray,hlen]⟩,q⟩
theorem aEd:sH X (.type "list") (fun xs H Q=> ∃p ys,xs=[.ref p]/\(SqL X.K H p ys\/SqT X.K H p ys)/\ ∀l,H l=none->Q (.ref l) (upd H l (.lst ys))):=by
 intro pins s σ H xs us Q I r h
 obtain⟨p,ys,rfl,hq,q⟩:=h
 obtain⟨u,rfl,rx⟩:=vals1 r
 cases rx
 have fin: ∀(its:List Value),Vals ys its->ys.length<=sizeLine-> ∀(h':Heap) (c':Nat),(∀b o',s.heap.get? b=some o'->h'.get? b=some o')->
  h'.get? s.heap.objs.size=some {cls:= .type "list",dict:=none,data:= .seq its.toArray c',slots:= #[]}->EP X pins σ Q (.ref s.heap.objs.size) {s with heap:=h'}:=fun its r' hz h' c' kp e=>
  ⟨.ref s.heap.objs.size,_,I.laid (t':=s.toks) kp (Nat.le_refl _) (show gK X.prog X.w _ h' _ (.lst ys) from ⟨hz,its,c',r',e⟩),rfl,q _ (I.hok.fresh (Nat.le_refl _))⟩
 rcases hq with hq|hq
 . obtain⟨its,r',pl,hz⟩:=I.list hq
   have hlen:=r'.length
   obtain⟨o,ho,hc,n,hd⟩:=pl.isList
   exact call_list_seq p (.inl rfl) ho hc hd (fun h' c' kp e=>fin its r' hz h' c' kp e) (by simp only [List.size_toArray]<;>omega)
 . obtain⟨its,r',pl,hz⟩:=I.tuple hq
   have hlen:=r'.length
   obtain⟨o,ho,hc,n,hd⟩:=pl
   exact call_list_seq p (.inr rfl) ho hc hd (fun h' c' kp e=>fin its r' hz h' c' kp e) (by simp only [List.size_toArray]<;>omega)
def tyV (K:aA) (T:String) (x:V) (H:Hp):Prop:=match x with
 | .str _=>T="str"
 | .int _=>T="int"
 | .ref p=>(T="list"/\ ∃xs,SqL K H p xs)\/(T="tuple"/\ ∃o,K.lookup p=some o/\o.cls= .type "tuple"/\o.dict=none)\/
  (T="dict"/\((∃kvs,H p=some (.dK kvs))\/ ∃kvs,H p=some (.dT kvs)))\/(T="set"/\ ∃S n,H p=some (.set S n))
 |_=>False
theorem bPu {pins:List (Addr×Obj)} {σ:St} {H:Hp} {s:Shared} {T:String} {x:V} {v:Value} (I:Inv X pins σ H s) (r:RelV x v) (ty:tyV X.K T x H):
 s.TypeIs v T/\ ∀a,v= .ref a-> ∃ob,s.heap.get? a=some ob/\ob.dict=none:=by
 cases x with
 |str z=>
  obtain⟨t,rfl⟩:=r
  cases (show T="str" from ty)
  exact⟨typeIs_str s z t,fun _ e=>nomatch e⟩
 |int i=>
  obtain⟨t,rfl⟩:=r
  cases (show T="int" from ty)
  exact⟨typeIs_int s i t,fun _ e=>nomatch e⟩
 |ref p=>
  cases r
  rcases ty with⟨rfl,xs,hq⟩|⟨rfl,o,hk,hc,hd⟩|⟨rfl,hk⟩|⟨rfl,S,n,hk⟩
  . obtain⟨its,_,pl,_⟩:=I.list hq
    refine⟨pl.isList.typeIs,fun a e=> ?_⟩
    cases e
    obtain⟨o,n,e,c,hd,_⟩:=pl
    exact⟨o,e,hd⟩
  . refine⟨⟨o,I.kIn p o hk,hc⟩,fun a e=> ?_⟩
    cases e
    exact⟨o,I.kIn _ o hk,hd⟩
  . have z: ∃o,s.heap.get? p=some o/\o.ExactDict:=by
     rcases hk with⟨kvs,hk⟩|⟨kvs,hk⟩
     . obtain⟨_,_,_,_,o,_,_,e,ex,_⟩:=I.hok p _ hk
       exact⟨o,e,ex⟩
     . obtain⟨_,_,_,_,o,_,_,e,ex,_⟩:=I.hok p _ hk
       exact⟨o,e,ex⟩
    obtain⟨o,e,ex⟩:=z
    refine⟨⟨o,e,ex.1⟩,fun a e2=> ?_⟩
    cases e2
    exact⟨o,e,ex.2.1⟩
  . obtain⟨o,_,_,_,e,ex,_⟩:=I.hok p _ hk
    refine⟨⟨o,e,ex.1⟩,fun a e2=> ?_⟩
    cases e2
    exact⟨o,e,ex.2.1⟩
 |_=>exact False.elim ty
def tBM (K:aA) (T:String) (r:V->List V->Hp->VK->Prop) (to:TE) (t:TA):TE:=fun σ H Q=>to σ H fun x H1=>tyV K T x H1/\t σ H1 fun xs H2=>r x xs H2 Q
variable {o e:Expr} {es:List Expr} {to:TE} {t:TA} {name:Str} {apos cpos:Pos} {T id:String} {r:V->List V->Hp->VK->Prop}
theorem rB (pa:PlainAttrs T) (slot:Slot T name id) (hty:typeOf (.builtin id)=pure (.type "method_descriptor")) (hm:MtR X id r) (ho:PE X o to) (ha:PA X (e::es) t)
 (hbase:attributeBase o name X.env (eval o X.env)=eval o X.env:=by rfl)
 (hfew:((backTo cpos (starEach (e::es) X.env)).all (fun x=>!x.1)&&(backToKw cpos (keywordEach [] X.env)).all (fun x=>x.1.isSome)
   &&decide ((e::es).length+([]:List Keyword).length+(if([]:List Keyword).isEmpty then 0 else 1)<30))=true:=by rfl)
 (hline:(apos.endLine==cpos.line)=true:=by rfl) (hs:starEach (e::es) X.env=(false,eval e X.env)::starEach es X.env:=by rfl) (hplain:(backTo cpos (starEach es X.env)).any (·.1)=false:=by rfl):
 PE X (.Call (.Attribute o name apos) (e::es) [] cpos) (tBM X.K T r to t):=by
 intro pins s σ H Q I h
 refine wpAny_Call_method_late hbase hfew hline rfl (thn (ho pins s σ H _ I h) fun v s1 ⟨x,H1,I1,r1,ty,q1⟩=> ?_)
 obtain⟨h1,h2⟩:=bPu I1 r1 ty
 refine⟨T,id,pa,slot,hty,h1,h2,?_⟩
 have hA:=ha cpos pins s1 σ H1 _ I1 q1
 rw [hs] at hA ⊢
 refine Calls.callWith_builtin (by show (false||(backTo cpos (starEach es X.env)).any (·.1))=false;rw [hplain]<;>rfl) (Calls.evalArgs_plain ?_)
 exact thn hA fun us s2 ⟨vs,H2,I2,r2,q2⟩=>hm pins s2 σ H2 x vs v us Q I2 r1 r2 q2
end
end L2
namespace L2
open PySem PySem.Spec PyProof.Rows
def MtM (X:Cx) (id:String) (r:V->List V->Hp->VK->Prop):Prop:=
 ∀(pins:List (Addr×Obj)) (s:Shared) (σ:St) (H:Hp) (x:V) (xs:List V) (v:Value) (us:List Value) (Q:VK),Inv X pins σ H s->RelV x v->Vals xs us->r x xs H Q->
  wpAny (model X.prog X.w) X.A (call (.builtin id) (v::us)) (EP X pins σ Q) X.xe s
theorem Vals.one: ∀{x:V} {us:List Value},Vals [x] us-> ∃u,us=[u]/\RelV x u
 |_,_,.cons r .nil=>⟨_,rfl,r⟩
theorem Vals.eraseIdx: ∀{xs:List V} {us:List Value} (i:Nat),Vals xs us->Vals (xs.eraseIdx i) (us.eraseIdx i)
 |_,_,_,.nil=> .nil
 |_,_,0,.cons _ t=>t
 |_,_,i+1,.cons r t=> .cons r (Vals.eraseIdx i t)
theorem Vals.rep {xs:List V} {us:List Value} (h:Vals xs us): ∀k:Nat,Vals (List.replicate k xs).flatten (List.replicate k us).flatten
 |0=> .nil
 |k+1=>by
  rw [List.replicate_succ,List.replicate_succ,List.flatten_cons,List.flatten_cons]
  exact Vals.append h (Vals.rep h k)
theorem aTr {α:Type}: ∀(l:List α) (i:Nat),(l.eraseIdx i).length<=l.length
 |[],_=>Nat.le_refl _
 |_::_,0=>Nat.le_succ _
 |_::r,i+1=>Nat.succ_le_succ (aTr r i)
theorem foldl_rep (its:List Value): ∀(k:Nat) (acc:List Value),
 List.foldl (fun x1 x2=>x1++x2) acc.toArray (List.replicate k its.toArray)=(acc++(List.replicate k its).flatten).toArray
 |0,acc=>by simp
 |k+1,acc=>by
  have e:acc.toArray++its.toArray=(acc++its).toArray:=by simp
  have e2:(acc++its)++(List.replicate k its).flatten=acc++(List.replicate (k+1) its).flatten:=by
   rw [List.replicate_succ,List.flatten_cons,List.append_assoc]
  rw [<-e2,<-foldl_rep its k (acc++its),<-e,List.replicate_succ,List.foldl_cons]
section
variable {X:Cx} {pins:List (Addr×Obj)} {σ:St} {H:Hp} {s:Shared} {l b:Addr} {xs ys zs:List V}
theorem Inv.bOs {its its':List Value} {n:Nat} {f:Array Value->Array Value} {t':Nat} (I:Inv X pins σ H s) (hH:H l=some (.lst xs))
 (e:s.heap.get? l=some {cls:= .type "list",data:= .seq its.toArray n}) (hf:f its.toArray=its'.toArray) (hv:Vals ys its') (hz:ys.length<=sizeLine):
 Inv X pins σ (upd H l (.lst ys)) {s with heap:=s.heap.update l (Obj.mapSeq f),toks:=t'}:=by
 have q:=PySem.IsL.update e f
 rw [hf] at q
 refine I.write (x:=l) (e:=l) (by rw [hH];exact trivial) (.inl rfl) (fun b' u hb hu=>(Heap.get?_update_other s.heap (Obj.mapSeq f) (Ne.symm hb)).trans hu) ⟨_,q⟩ ?_
 exact⟨hz,its',_,hv,q⟩
theorem Inv.bQw {its:List Value} {t':Nat} (I:Inv X pins σ H s) (hv:Vals ys its) (hz:ys.length<=sizeLine):
 Inv X pins σ (upd H s.heap.objs.size (.lst ys)) {s with heap:=s.heap.push {cls:= .type "list",data:= .seq its.toArray},toks:=t'}:=
 I.laid (fun _ _ q=>Heap.get?_push_of_some _ q) (Nat.le_refl _) ⟨hz,its,0,hv,Heap.get?_push_size _ rfl⟩
theorem Inv.fresh (I:Inv X pins σ H s):H s.heap.objs.size=none:=I.hok.fresh (Nat.le_refl _)
theorem Inv.bCp (I:Inv X pins σ H s) (hH:H l=some (.lst xs)):xs.length<=sizeLine/\ ∃(its:List Value) (n:Nat),Vals xs its/\xs.length=its.length/\s.heap.get? l=some {cls:= .type "list",data:= .seq its.toArray n}:=by
 obtain⟨z,its,n,r,e⟩:=I.hok l _ hH
 exact⟨z,its,n,r,r.length,e⟩
theorem aZz {n:Nat} (h:n<=sizeLine):Builtin.List.listTooLong n=false:=by
 unfold Builtin.List.listTooLong
 exact decide_eq_false (by omega)
end
section
variable {X:Cx}
inductive bJn (x:V) (vs:List V) (H:Hp) (Q:VK):Prop|mk (l:Addr) (xs:List V) (y:V) (z0:x= .ref l) (z1:vs=[y]) (z2:H l=some (.lst xs)) (z3:xs.length<sizeLine) (z4:Q .non (upd H l (.lst (xs++[y])))) def bMf:V->List V->Hp->VK->Prop:=fun x vs H Q=>bJn x vs H Q
theorem mK:MtM X "list.append" bMf:=by
 intro pins s σ H x vs v us Q I rx rv h
 obtain⟨l,xs,y,rfl,rfl,hH,hz,q⟩:=h
 cases rx
 obtain⟨u,rfl,ru⟩:=rv.one
 obtain⟨z,its,n,r,hl,e⟩:=I.bCp hH
 refine call_meets F.slot_list_append ⟨_,e,rfl⟩ F.entry_list_append (F.args_list_append_2 _ _) (PySem.list_append l its.toArray n u (by rw [List.size_toArray];omega)) ⟨e,?_⟩
 refine⟨.non,_,I.bOs (its':=its++[u]) hH e (by simp) (r.append (.cons ru .nil)) ?_,rfl,q⟩
 rw [List.length_append,List.length_singleton]
 omega
def bMg:V->List V->Hp->VK->Prop:=fun x vs H Q=> ∃l b xs zs,x= .ref l/\vs=[.ref b]/\H l=some (.lst xs)/\H b=some (.lst zs)/\xs.length+zs.length<=sizeLine/\Q .non (upd H l (.lst (xs++zs)))
theorem tD:MtM X "list.extend" bMg:=by
 intro pins s σ H x vs v us Q I rx rv h
 obtain⟨l,b,xs,zs,rfl,rfl,hH,hB,hz,q⟩:=h
 cases rx
 obtain⟨u,rfl,ru⟩:=rv.one
 cases ru
 obtain⟨z,its,n,r,hl,e⟩:=I.bCp hH
 obtain⟨z2,its2,n2,r2,hl2,e2⟩:=I.bCp hB
 have hsz:its.toArray.size+its2.toArray.size<=sizeLine:=by rw [List.size_toArray,List.size_toArray];omega
 have hlong: ¬(!its.toArray.isEmpty&&Builtin.List.listTooLong (its.toArray.size+its2.toArray.size))=true:=by
  rw [aZz hsz,Bool.and_false]
  exact Bool.false_ne_true
 refine call_meets F.slot_list_extend ⟨_,e,rfl⟩ F.entry_list_extend (F.args_list_extend_2 _ _)
  (AutoSeq1.list_extend_list_list_0 l its.toArray n b its2.toArray n2 hlong (by rw [List.size_toArray];omega) (by omega)) ⟨e,e2,?_⟩
 refine⟨.non,_,I.bOs (its':=its++its2) hH e (by simp) (r.append r2) ?_,rfl,q⟩
 rw [List.length_append]
 omega
def bPe:V->List V->Hp->VK->Prop:=fun x vs H Q=> ∃l xs i k y,x= .ref l/\vs=[.int i]/\H l=some (.lst xs)/\ -(2 ^ 63)<=i/\i<2 ^ 63/\seqIndex? i xs.length=some k/\xs[k]? =some y/\Q y (upd H l (.lst (xs.eraseIdx k)))
theorem bIu:MtM X "list.pop" bPe:=by
 intro pins s σ H x vs v us Q I rx rv h
 obtain⟨l,xs,i,k,y,rfl,rfl,hH,h1,h2,hk,hy,q⟩:=h
 cases rx
 obtain⟨u,rfl,ru⟩:=rv.one
 obtain⟨t,rfl⟩:=ru
 obtain⟨z,its,n,r,hl,e⟩:=I.bCp hH
 obtain⟨w,hw,rw'⟩:=r.get hy
 refine call_meets F.slot_list_pop ⟨_,e,rfl⟩ F.entry_list_pop (F.args_list_pop_2 _ _)
  (MeetsSeq.list_pop_at l its.toArray n i t k w (fitsIndex_both h1 h2) (by rw [List.size_toArray,<-hl];exact hk) (by rw [<-Array.getElem?_toList];exact hw) (by rw [List.size_toArray];omega)) ⟨e,?_⟩
 refine⟨y,_,I.bOs (its':=its.eraseIdx k) hH e ?_ (r.eraseIdx k) ?_,rw',q⟩
 . show its.toArray.eraseIdxIfInBounds k=(its.eraseIdx k).toArray
   rw [List.eraseIdxIfInBounds_toArray]
 . have:=aTr xs k
   omega
def bSr:R2:=fun x y H Q=> ∃l b xs zs,x= .ref l/\y= .ref b/\H l=some (.lst xs)/\H b=some (.lst zs)/\xs.length+zs.length<=sizeLine/\ ∀p,H p=none->Q (.ref p) (upd H p (.lst (xs++zs)))
theorem iJ:OpR X (binaryOp .Add) bSr:=by
 intro pins s σ H x y v u Q I rx ry h
 obtain⟨l,b,xs,zs,rfl,rfl,hH,hB,hz,q⟩:=h
 cases rx
 cases ry
 obtain⟨z,its,n,r,hl,e⟩:=I.bCp hH
 obtain⟨z2,its2,n2,r2,hl2,e2⟩:=I.bCp hB
 refine PySem.P.add_list e e2 ?_ (by rw [List.size_toArray,List.size_toArray];omega)
 have ea:its.toArray++its2.toArray=(its++its2).toArray:=by simp
 rw [ea]
 exact⟨.ref _,_,I.bQw (t':=s.toks) (r.append r2) (by rw [List.length_append];omega),rfl,q _ I.fresh⟩
def bSu:R2:=fun x y H Q=> ∃l k xs,x= .ref l/\y= .int k/\H l=some (.lst xs)/\ -(2 ^ 63)<=k/\k<2 ^ 63/\xs.length*k.toNat<=sizeLine/\
 ∀p,H p=none->Q (.ref p) (upd H p (.lst (List.replicate k.toNat xs).flatten))
theorem len_rep {α:Type} (xs:List α) (k:Nat):(List.replicate k xs).flatten.length=k*xs.length:=by
 induction k with
 |zero=>simp
 |succ k ih=>rw [List.replicate_succ,List.flatten_cons,List.length_append,ih,Nat.succ_mul,Nat.add_comm]
theorem aWp:OpR X (binaryOp .Mult) bSu:=by
 intro pins s σ H x y v u Q I rx ry h
 obtain⟨l,k,xs,rfl,rfl,hH,h1,h2,hz,q⟩:=h
 cases rx
 obtain⟨t,rfl⟩:=ry
 obtain⟨z,its,n,r,hl,e⟩:=I.bCp hH
 have hlen:its.toArray.size*k.toNat<=sizeLine:=by rw [List.size_toArray,<-hl];exact hz
 have hcap: ¬its.toArray.size*k.toNat>(2 ^ 63-1)/8:=by
  have:(sizeLine:Nat)<=(2 ^ 63-1)/8:=by decide
  omega
 have hfit: ¬(!Builtin.List.listFitsIndex k)=true:=by
  rw [fitsIndex_both h1 h2]
  exact Bool.false_ne_true
 have hlong: ¬Builtin.List.listTooLong (its.toArray.size*k.toNat)=true:=by
  rw [aZz hlen]
  exact Bool.false_ne_true
 have hnew:List.foldl (fun x1 x2=>x1++x2) #[] (List.replicate (if its.toArray.isEmpty=true then 0 else k.toNat) its.toArray)=(List.replicate k.toNat its).flatten.toArray:=by
  have f0: ∀m:Nat,List.foldl (fun x1 x2=>x1++x2) #[] (List.replicate m its.toArray)=(List.replicate m its).flatten.toArray:=fun m=>by
   have:=foldl_rep its m []
   rw [List.nil_append] at this
   exact this
  rw [f0]
  cases its with
  |nil=>simp
  |cons a r'=>rw [aF (by simp)]
 refine wpAny_binaryOp_repeat_ref (T:="list") (U:="int") (by decide) ⟨_,e,rfl⟩ (fun s'=>typeIs_int s' k t) noFill_list_mul F.fills_int_mul F.slot_int_rmul repeat_list F.slot_int_index.lookup
  (call_meets F.slot_int_rmul (typeIs_int s k t) F.entry_int_rmul (F.args_int_rmul_2 _ _) (int___rmul___int_list k t l its.toArray n)
    ⟨e,rfl,⟨_,e,rfl⟩,call_meets F.slot_list_mul ⟨_,e,rfl⟩ F.entry_list_mul (F.args_list_mul_2 _ _) (AutoListH.list___mul___list_int_3 l its.toArray n k t hfit hcap hlong) ⟨e,?_⟩⟩)
 rw [hnew]
 exact⟨.ref _,_,I.bQw (t':=s.toks) (r.rep k.toNat) (by rw [len_rep,Nat.mul_comm];exact hz),rfl,q _ I.fresh⟩
end
section
variable {prog:Program} {w:World} {A:Around} {E:Value->Shared->Prop} {s:Shared}
end
section
variable {X:Cx}
end
end L2
namespace L2
open PySem PySem.Spec PyProof.Rows
theorem Vals.ints: ∀{ns:List Int} {us:List Value},Vals (ns.map V.int) us->IntsAre us ns
 |[],us,h=>by
  rw [List.map_nil] at h
  cases h
  exact IntsAre.nil
 |n::ns,us,h=>by
  rw [List.map_cons] at h
  cases h with
  |cons r t=>
   obtain⟨k,rfl⟩:=r
   exact IntsAre.cons n k (Vals.ints t)
theorem aHj: ∀{us:List Value} {ns:List Int},IntsAre us ns->Vals (ns.map V.int) us
 |_,_,.nil=>by rw [List.map_nil];exact Paired.nil
 |_,_,.cons n t h=>by rw [List.map_cons];exact Paired.cons (show RelV (V.int n) (Value.int n t) from ⟨t,rfl⟩) (aHj h)
theorem Vals.bls: ∀{bs:List Bool} {us:List Value},Vals (bs.map V.bl) us->us=bs.map Value.bool
 |[],us,h=>by
  rw [List.map_nil] at h
  cases h
  rfl
 |b::bs,us,h=>by
  rw [List.map_cons] at h
  cases h with
  |cons r t=>
   cases r
   rw [Vals.bls t,List.map_cons]
theorem Vals.bMi {a:Addr} {us:List Value} (r:Vals [V.ref a] us):us=[Value.ref a]:=by
 cases r with
 |cons r t=>
  cases t
  cases r
  rfl
section
variable {prog:Program} {w:World} {A:Around} {E:Value->Shared->Prop} {s:Shared} {l:Addr} {its:List Value} {ns:List Int} {Q:Value->Shared->Prop}
theorem bLs (hh:A.handled=none) (hl:s.heap.IsList l its.toArray) (hi:IntsAre its ns) (hne:0<ns.length)
 (h: ∀h' tk M t',(∀b o,s.heap.get? b=some o->h'.get? b=some o)->M∈ns->(∀a,a∈ns->a<=M)->Q (.int M t') {s with heap:=h',toks:=tk}):wpAny (model prog w) A (call (.builtin "max") [.ref l]) Q E s:=by
 obtain⟨xs,e⟩:=hi.allInts.items
 have hn:numsOf (intItems xs).toList=ns:=by rw [<-e];exact hi.numsOf
 rw [nums_intItems] at hn
 subst hn
 rw [e] at hl
 have hsz:0<xs.size:=by simpa using hne
 refine PySem.max_intList hh hl hsz fun v h' tk hv hk=> ?_
 obtain⟨t,rfl⟩:=intItems_at hv
 obtain⟨h1,h2⟩:=argBest_gt (numAt xs) (xs.size-1)
 refine h h' tk _ t hk ?_ fun a ha=> ?_
 . rw [numAt_eq];exact PySem.getD_mem (by rw [aG,Array.length_toList];omega)
 . obtain⟨j,hj,rfl⟩:=mem_getD ha
   rw [aG,Array.length_toList] at hj
   rw [<-numAt_eq];exact h2 j (by omega)
end
section
variable {X:Cx}
def bSt (K:aA):List V->Hp->VK->Prop:=fun vs H Q=> ∃(a:Addr) (ns:List Int),vs=[V.ref a]/\SqL K H a (ns.map V.int)/\0<ns.length/\ ∀m,m∈ns->(∀y,y∈ns->y<=m)->Q (.int m) H
theorem bOc (hc:X.calm=true):sH X (.builtin "max") (bSt X.K):=by
 intro pins s σ H vs us Q I r h
 obtain⟨a,ns,rfl,hs,hne,q⟩:=h
 obtain⟨its,rv,hl,_⟩:=I.list hs
 rw [Vals.bMi r]
 exact bLs (I.ok.hd hc) hl.isList rv.ints hne fun h' tk m t' hk h1 h2=>⟨.int _,H,I.kept hk,⟨_,rfl⟩,q m h1 h2⟩
theorem aXd {n:Nat} (h:n<64):n<=sizeLine:=by rw [sizeLine_eq];omega
end
section
variable {X:Cx}
end
section
variable {X:Cx}
end
theorem aZp {prog:Program} {w:World} {A:Around} {E:Value->Shared->Prop} {s:Shared} {l:Addr} {items:Array Value} {Q:Value->Shared->Prop} (hl:s.heap.IsList l items)
 (h: ∀s₂:Shared,s₂={s with heap:=s.heap.push {cls:= .type "list_iterator",data:= .fields #[.ref l,.int 0 0]}}->
   (s₂.heap.IsListIter s.heap.objs.size l 0/\s₂.heap.IsList l items)->l≠s.heap.objs.size->Q (.ref s.heap.objs.size) s₂):wpAny (model prog w) A (pyIter (.ref l)) Q E s:=by
 have hlt:l<s.heap.objs.size:=by obtain⟨_,e,_⟩:=hl;exact Heap.lt_size e
 exact wpAny_pyIter_list hl (h _ rfl ⟨⟨_,Heap.get?_push_size _ rfl,rfl,rfl⟩,hl.push _⟩ (Nat.ne_of_lt hlt))
theorem aKs {prog:Program} {w:World} {A:Around} {bs:List Bool} {its:List Value} (e:its=bs.map Value.bool):
 TruthOf prog w A (fun i v=>its.toArray[i]? =some v) (fun i=>bs.getD i false):=fun i v s Q E hv hq=>by
 have hv':its[i]? =some v:=by simpa using hv
 rw [e,List.getElem?_map] at hv'
 obtain⟨b,hb,rfl⟩:=Option.map_eq_some_iff.mp hv'
 have hg:bs.getD i false=b:=by rw [List.getD_eq_getElem?_getD,hb]<;>rfl
 have hq':Q (bs.getD i false) s:=hq
 rw [hg] at hq'
 exact wpAny_truthy_bool hq'
theorem any_range: ∀bs:List Bool,(List.range bs.length).any (fun i=>bs.getD i false)=bs.any id
 |[]=>rfl
 |b::bs=>by
  rw [List.length_cons,List.range_succ_eq_map,List.any_cons,List.any_map,List.any_cons,<-any_range bs]
  all_goals rfl
theorem all_range: ∀bs:List Bool,(List.range bs.length).all (fun i=>bs.getD i false)=bs.all id
 |[]=>rfl
 |b::bs=>by
  rw [List.length_cons,List.range_succ_eq_map,List.all_cons,List.all_map,List.all_cons,<-all_range bs]
  all_goals rfl
section
variable {X:Cx}
def bSq (K:aA):List V->Hp->VK->Prop:=fun vs H Q=> ∃(a:Addr) (bs:List Bool),vs=[V.ref a]/\SqL K H a (bs.map V.bl)/\Q (.bl (bs.any id)) H
def bSp (K:aA):List V->Hp->VK->Prop:=fun vs H Q=> ∃(a:Addr) (bs:List Bool),vs=[V.ref a]/\SqL K H a (bs.map V.bl)/\Q (.bl (bs.all id)) H
theorem bOb (hc:X.calm=true):sH X (.builtin "any") (bSq X.K):=by
 intro pins s σ H vs us Q I r h
 obtain⟨a,bs,rfl,hs,q⟩:=h
 obtain⟨its,rv,hl,_⟩:=I.list hs
 rw [Vals.bMi r]
 have hb:=rv.bls
 refine call_any_walk (aZp hl.isList fun s₂ e2 st hne=> ?_)
 subst e2
 refine⟨_,_,_,_,_,_,_,rfl,Walks.list (A:=X.A.in1) (I.ok.hd hc) _ a hne its.toArray,st,aKs hb,fun h' tk hk=> ?_⟩
 refine⟨.bl _,H,I.kept fun b o eo=>hk b o (fun hmem=> ?_) (Heap.get?_push_of_some _ eo),?_,q⟩
 . rcases List.mem_cons.mp hmem with e1|hmem
   . exact absurd (e1 ▸ Heap.lt_size eo) (Nat.lt_irrefl _)
   . cases hmem
 . show Value.bool _=Value.bool _
   rw [<-any_range,hb,List.size_toArray,aG]
theorem bBx (hc:X.calm=true):sH X (.builtin "all") (bSp X.K):=by
 intro pins s σ H vs us Q I r h
 obtain⟨a,bs,rfl,hs,q⟩:=h
 obtain⟨its,rv,hl,_⟩:=I.list hs
 rw [Vals.bMi r]
 have hb:=rv.bls
 refine call_all_walk (aZp hl.isList fun s₂ e2 st hne=> ?_)
 subst e2
 refine⟨_,_,_,_,_,_,_,rfl,Walks.list (A:=X.A.in1) (I.ok.hd hc) _ a hne its.toArray,st,aKs hb,fun h' tk hk=> ?_⟩
 refine⟨.bl _,H,I.kept fun b o eo=>hk b o (fun hmem=> ?_) (Heap.get?_push_of_some _ eo),?_,q⟩
 . rcases List.mem_cons.mp hmem with e1|hmem
   . exact absurd (e1 ▸ Heap.lt_size eo) (Nat.lt_irrefl _)
   . cases hmem
 . show Value.bool _=Value.bool _
   rw [<-all_range,hb,List.size_toArray,aG]
end
mutual
inductive Dp (K:aA) (H:Hp):V->PyData->Prop
 |non:Dp K H .non .none
 |bl (b:Bool):Dp K H (.bl b) (.bool b)
 |int (i:Int):Dp K H (.int i) (.int i)
 |str (x:Str):Dp K H (.str x) (.str x)
 |lst {a:Addr} {xs:List V} {ds:List PyData}:SqL K H a xs->aNi K H xs ds->Dp K H (.ref a) (.list ds)
 |tup {a:Addr} {xs:List V} {ds:List PyData}:SqT K H a xs->aNi K H xs ds->Dp K H (.ref a) (.tuple ds)
inductive aNi (K:aA) (H:Hp):List V->List PyData->Prop
 |nil:aNi K H [] []
 |cons {v:V} {vs:List V} {d:PyData} {ds:List PyData}:Dp K H v d->aNi K H vs ds->aNi K H (v::vs) (d::ds)
end
section
variable {X:Cx} {pins:List (Addr×Obj)} {σ:St} {H:Hp} {s:Shared}
mutual
theorem Dp.reads (I:Inv X pins σ H s): ∀(d:PyData) (v:V) (u:Value),Dp X.K H v d->RelV v u-> ∃as,Reads s.heap u d as
 | .none,_,_,h,r=>by
  cases h
  cases r
  exact⟨_,Reads.none⟩
 | .bool b,_,_,h,r=>by
  cases h
  cases r
  exact⟨_,Reads.bool b⟩
 | .int i,_,_,h,r=>by
  cases h
  obtain⟨t,rfl⟩:=r
  exact⟨_,Reads.int i t⟩
 | .str x,_,_,h,r=>by
  cases h
  obtain⟨t,rfl⟩:=r
  exact⟨_,Reads.str x t⟩
 | .list ds,_,_,h,r=>by
  cases h with
  |lst hs ha=>
   cases r
   obtain⟨its,rv,⟨o,n,ho,hc,_,hd⟩,_⟩:=I.list hs
   obtain⟨as,hr⟩:=Dp.readsAll I ds _ its ha rv
   exact⟨_,Reads.list ho hc hd hr⟩
 | .tuple ds,_,_,h,r=>by
  cases h with
  |tup hs ha=>
   cases r
   obtain⟨its,rv,⟨o,ho,hc,n,hd⟩,_⟩:=I.tuple hs
   obtain⟨as,hr⟩:=Dp.readsAll I ds _ its ha rv
   exact⟨_,Reads.tuple ho hc hd hr⟩
 | .dict _,_,_,h,_=>by cases h
theorem Dp.readsAll (I:Inv X pins σ H s): ∀(ds:List PyData) (vs:List V) (us:List Value),aNi X.K H vs ds->Vals vs us-> ∃as,ReadsAll s.heap us ds as
 |[],_,_,h,r=>by
  cases h
  cases r
  exact⟨_,ReadsAll.nil⟩
 |d::ds,_,_,h,r=>by
  cases h with
  |cons h1 h2=>
   cases r with
   |cons r1 r2=>
    obtain⟨as,q1⟩:=Dp.reads I d _ _ h1 r1
    obtain⟨bs,q2⟩:=Dp.readsAll I ds _ _ h2 r2
    exact⟨_,ReadsAll.cons q1 q2⟩
end
end
section
variable {X:Cx}
def bRd (K:aA):R2:=fun x y H Q=> ∃d e,Dp K H x d/\Dp K H y e/\SeqAt.shaped d=true/\SeqAt.shaped e=true/\Q (.bl (PyData.eqv d e)) H
def bRj (K:aA):R2:=fun x y H Q=> ∃d e,Dp K H x d/\Dp K H y e/\SeqAt.shaped d=true/\SeqAt.shaped e=true/\Q (.bl (!PyData.eqv d e)) H
theorem bOx (hu:X.A.units+64<cLine):OpR X (compareOp .Eq) (bRd X.K):=by
 intro pins s σ H x y v u Q I rx ry h
 obtain⟨d,e,hd,he,sd,se,q⟩:=h
 obtain⟨as,r1⟩:=Dp.reads I d x v hd rx
 obtain⟨bs,r2⟩:=Dp.reads I e y u he ry
 exact SeqAt.compareEq_shaped r1 r2 sd se hu ⟨.bl _,H,I,rfl,q⟩
theorem bOy (hu:X.A.units+64<cLine):OpR X (compareOp .NotEq) (bRj X.K):=by
 intro pins s σ H x y v u Q I rx ry h
 obtain⟨d,e,hd,he,sd,se,q⟩:=h
 obtain⟨as,r1⟩:=Dp.reads I d x v hd rx
 obtain⟨bs,r2⟩:=Dp.reads I e y u he ry
 exact SeqAt.compareNe_shaped r1 r2 sd se hu ⟨.bl _,H,I,rfl,q⟩
end
end L2
namespace L2
open PySem PySem.Spec PyProof.Rows
abbrev bHj (h:Heap) (c:Addr) (v:Option Value):Prop:=h.IsCell c v
def bSw (scope sc:Scope):Scope:=
 {scope with names:=scope.names.map fun(n,k)=>if(k== .free&&sc.kind== .function&&sc.names.lookup n==some .cell) then(n,.cell) else(n,k)}
def eO (cells:List (Str×Addr)):List (Str×NameKind)->List (Str×Addr)->List (Str×Addr)
 |[],acc=>acc
 |(n,k)::r,acc=>if k== .free then eO cells r ((n,(cells.lookup n).getD 0)::acc) else eO cells r acc
theorem aEe (env:Env) (f:Str×NameKind->List (Str×Addr)->Sem (ForInStep (List (Str×Addr))))
 (hf: ∀n k c,f (n,k) c=if k== .free then(do let a<-cellOf env n;pure (.yield ((n,a)::c))) else pure (.yield c)):
 ∀(names:List (Str×NameKind)) (acc:List (Str×Addr)),(∀y∈names,y.2= .free-> ∃c,env.cells.lookup y.1=some c)->forIn names acc f=pure (eO env.cells names acc)
 |[],acc,_=>by rw [List.forIn_nil];rfl
 |(n,k)::r,acc,h=>by
  rw [List.forIn_cons,hf]
  have ih:=fun acc=>aEe env f hf r acc fun y hy=>h y (List.mem_cons_of_mem _ hy)
  unfold eO
  by_cases hk:(k==NameKind.free)=true
  . rw [aD hk,aD hk]
    obtain⟨c,hc⟩:=h (n,k) List.mem_cons_self (by simpa using hk)
    have e:cellOf env n=pure c:=by unfold cellOf;rw [hc]
    rw [e]
    have e2:(env.cells.lookup n).getD 0=c:=by rw [hc];rfl
    rw [e2]
    exact ih _
  . rw [aF hk,aF hk]
    exact ih _
theorem bBw {scope:Scope} {env:Env} (h: ∀y∈scope.names,y.2= .free-> ∃c,env.cells.lookup y.1=some c):closureFor scope env=pure (eO env.cells scope.names []):=by
 simp only [closureFor]
 rw [aEe env _ (fun n k c=>rfl) scope.names [] h]
 rfl
theorem mem_lookup {α:Type}: ∀{l:List (Str×α)} {n:Str} {c:α},(n,c)∈l-> ∃c',l.lookup n=some c'
 |(k,v)::r,n,c,h=>by
  rw [List.lookup_cons]
  cases hb:n==k with
  |true=>exact⟨_,rfl⟩
  |false=>
   rcases List.mem_cons.mp h with e|h
   . cases e;simp at hb
   . exact mem_lookup h
theorem qU {cells:List (Str×Addr)}: ∀{names:List (Str×NameKind)} {acc:List (Str×Addr)} {n:Str} {c:Addr},(n,c)∈eO cells names acc->(n,c)∈acc\/((n,.free)∈names/\c=(cells.lookup n).getD 0)
 |[],_,_,_,h=> .inl h
 |(m,k)::r,acc,n,c,h=>by
  unfold eO at h
  split at h
  . rename_i hk
    have hk:k= .free:=by simpa using hk
    rcases qU h with h|⟨h1,h2⟩
    . rcases List.mem_cons.mp h with e|h
      . cases e;exact .inr ⟨hk ▸ List.mem_cons_self,rfl⟩
      . exact .inl h
    . exact .inr ⟨List.mem_cons_of_mem _ h1,h2⟩
  . rcases qU h with h|⟨h1,h2⟩
    . exact .inl h
    . exact .inr ⟨List.mem_cons_of_mem _ h1,h2⟩
theorem xK {cells:List (Str×Addr)}: ∀{names:List (Str×NameKind)} {acc:List (Str×Addr)} {p:Str×Addr},p∈acc->p∈eO cells names acc
 |[],_,_,h=>h
 |(m,k)::r,acc,p,h=>by
  unfold eO
  split
  . exact xK (List.mem_cons_of_mem _ h)
  . exact xK h
theorem xM {cells:List (Str×Addr)}: ∀{names:List (Str×NameKind)} {acc:List (Str×Addr)} {n:Str},(n,.free)∈names->(n,(cells.lookup n).getD 0)∈eO cells names acc
 |(m,k)::r,acc,n,h=>by
  unfold eO
  rcases List.mem_cons.mp h with e|h
  . cases e
    exact xK List.mem_cons_self
  . split
    . exact xM h
    . exact xM h
theorem sV: ∀{names:List (Str×NameKind)} {h:Heap} {acc:List (Str×Addr)} {x:Str} {c:Addr},(x,c)∈cellsFrom h.objs.size names acc->
 (x,c)∈acc\/((x,.cell)∈names/\h.objs.size<=c/\bHj (pushCells h names) c none)
 |[],_,_,_,_,h=> .inl h
 |(n,k)::r,h,acc,x,c,hm=>by
  unfold cellsFrom at hm
  unfold pushCells
  split at hm
  . rename_i hk
    rw [aD hk]
    have hk:k= .cell:=by simpa using hk
    rw [<-Heap.size_push h {cls:= .type "cell",data:= .cell none}] at hm
    rcases sV hm with hm|⟨h1,h2,h3⟩
    . rcases List.mem_cons.mp hm with e|hm
      . cases e
        exact .inr ⟨hk ▸ List.mem_cons_self,Nat.le_refl _,_,pushCells_keeps r _ _ _ (Heap.get?_push_size _ rfl),rfl⟩
      . exact .inl hm
    . rw [Heap.size_push] at h2
      exact .inr ⟨List.mem_cons_of_mem _ h1,Nat.le_of_succ_le h2,h3⟩
  . rename_i hk
    rw [aF hk]
    rcases sV hm with hm|⟨h1,h2,h3⟩
    . exact .inl hm
    . exact .inr ⟨List.mem_cons_of_mem _ h1,h2,h3⟩
theorem zX: ∀{names:List (Str×NameKind)} {n:Nat} {acc:List (Str×Addr)} {p:Str×Addr},p∈acc->p∈cellsFrom n names acc
 |[],_,_,_,h=>h
 |(m,k)::r,n,acc,p,h=>by
  unfold cellsFrom
  split
  . exact zX (List.mem_cons_of_mem _ h)
  . exact zX h
theorem aHp: ∀{names:List (Str×NameKind)} {n:Nat} {acc:List (Str×Addr)} {x:Str},(x,.cell)∈names-> ∃c,(x,c)∈cellsFrom n names acc
 |(m,k)::r,n,acc,x,h=>by
  unfold cellsFrom
  rcases List.mem_cons.mp h with e|h
  . cases e
    exact⟨n,zX List.mem_cons_self⟩
  . split
    . exact aHp h
    . exact aHp h
theorem aHq: ∀{names:List (Str×NameKind)} {h:Heap} {acc:List (Str×Addr)} {x y:Str} {c:Addr},(∀p∈acc,p.2<h.objs.size)->(∀x y c,(x,c)∈acc->(y,c)∈acc->x=y)->
 (x,c)∈cellsFrom h.objs.size names acc->(y,c)∈cellsFrom h.objs.size names acc->x=y
 |[],_,_,_,_,_,_,hi,h1,h2=>hi _ _ _ h1 h2
 |(n,k)::r,h,acc,x,y,c,hl,hi,h1,h2=>by
  unfold cellsFrom at h1 h2
  split at h1
  . rename_i hk
    rw [aD hk] at h2
    rw [<-Heap.size_push h {cls:= .type "cell",data:= .cell none}] at h1 h2
    refine aHq (h:=h.push _) (fun p hp=> ?_) (fun x y c a b=> ?_) h1 h2
    . rw [Heap.size_push]
      rcases List.mem_cons.mp hp with rfl|hp
      . exact Nat.lt_succ_self _
      . exact Nat.lt_succ_of_lt (hl p hp)
    . rcases List.mem_cons.mp a with e|a<;>rcases List.mem_cons.mp b with e'|b
      . cases e;cases e';rfl
      . cases e;exact absurd (hl _ b) (Nat.lt_irrefl _)
      . cases e';exact absurd (hl _ a) (Nat.lt_irrefl _)
      . exact hi _ _ _ a b
  . rename_i hk
    rw [aF hk] at h2
    exact aHq hl hi h1 h2
theorem aZw {M:Model} {A:Around} {E:Value->Shared->Prop} {s:Shared} {scope:Scope} {globals:Addr} {closure:List (Str×Addr)} {qual:Str} {func:Option Addr} {code:Value} {around:Env} {builtins:Addr} {Q:Env->Shared->Prop}
 (h:Q (newEnv scope s.heap.objs.size globals (cellsFrom (s.heap.objs.size+1) scope.names closure) qual func code (some around) builtins)
   {s with heap:=pushCells (s.heap.push {cls:= .type "dict",data:= .dict #[]}) scope.names}):
 wpAny M A (newFunctionEnv scope globals closure [] qual func code (some around) builtins) Q E s:=by
 simp only [newFunctionEnv,Option.isSome_some,if_true]
 refine wpAny_bind (wpAny_alloc ?_)
 refine wpAny_bind (wpAny_layCells _ (fun n k c=>rfl) scope.names closure _ _ ?_)
 rw [show ({s with heap:=s.heap.push {cls:= .type "dict",data:= .dict #[]}}:Shared).heap.objs.size=s.heap.objs.size+1 from Heap.size_push ..]
 rw [List.forIn_nil]
 exact wpAny_bind (wpAny_pure (wpAny_pure h))
theorem xW {sc:Scope}: ∀{names:List (Str×NameKind)} {x:Str} {k:NameKind},
 (names.map fun(n,k)=>if(k==NameKind.free&&sc.kind== .function&&sc.names.lookup n==some .cell) then(n,NameKind.cell) else(n,k)).lookup x=some k->
 ∃k',names.lookup x=some k'/\(k=k'\/(k'= .free/\k= .cell))
 |[],_,_,h=>by simp at h
 |(n,k₀)::r,x,k,h=>by
  have ih:= @xW sc r x k
  have h':List.lookup x ((if(k₀==NameKind.free&&sc.kind== .function&&sc.names.lookup n==some .cell)=true then(n,NameKind.cell) else(n,k₀))::(r.map _))=some k:=h
  cases hx:x==n with
  |true=>
   simp only [List.lookup_cons,hx]
   by_cases hc:(k₀==NameKind.free&&sc.kind== .function&&sc.names.lookup n==some .cell)=true
   . rw [aD hc] at h'
     simp only [List.lookup_cons,hx] at h'
     cases h'
     simp only [Bool.and_eq_true,beq_iff_eq] at hc
     exact⟨k₀,rfl,.inr ⟨hc.1.1,rfl⟩⟩
   . rw [aF hc] at h'
     simp only [List.lookup_cons,hx] at h'
     cases h'
     exact⟨_,rfl,.inl rfl⟩
  |false=>
   simp only [List.lookup_cons,hx]
   by_cases hc:(k₀==NameKind.free&&sc.kind== .function&&sc.names.lookup n==some .cell)=true
   . rw [aD hc] at h'
     simp only [List.lookup_cons,hx] at h'
     exact ih h'
   . rw [aF hc] at h'
     simp only [List.lookup_cons,hx] at h'
     exact ih h'
structure aXz (N:List Str) (sc scope:Scope) (own:List (Str×Nat)):Prop where
 kind:scope.kind= .function
 uniq: ∀y∈scope.names,scope.names.lookup y.1=some y.2
 ix: ∀p∈own,N[p.2]? =some p.1
 free: ∀y∈scope.names,y.2= .free->sc.names.lookup y.1=some .cell\/sc.names.lookup y.1=some .free
 own: ∀y∈scope.names,y.2= .local\/y.2= .cell->y.1∈own.map (·.1)\/y.1∉N
def wipe (σ:St):List Nat->St
 |[]=>σ
 |v::vs=>(wipe σ vs).set v none
theorem zR (σ:St): ∀vs:List Nat,(wipe σ vs).length=σ.length
 |[]=>rfl
 |v::vs=>by unfold wipe;rw [List.length_set,zR σ vs]
theorem aJt {σ:St} {i:Nat} {x:V}: ∀{vs:List Nat},(wipe σ vs)[i]? =some (some x)->σ[i]? =some (some x)/\i∉vs
 |[],h=>⟨h,by simp⟩
 |v::vs,h=>by
  unfold wipe at h
  by_cases hi:v=i
  . subst hi
    by_cases hv:v<(wipe σ vs).length
    . rw [List.getElem?_set_self hv] at h;cases h
    . rw [List.getElem?_eq_none (by simpa using hv)] at h;cases h
  . rw [List.getElem?_set_ne hi] at h
    obtain⟨h1,h2⟩:=aJt h
    exact⟨h1,by simp only [List.mem_cons,not_or];exact⟨fun e=>hi e.symm,h2⟩⟩
abbrev Cx.blk (X:Cx) (s:Shared) (H:Hp) (scope:Scope) (cenv:Env) (fp:List Addr):Cx:={X with s_0:=s,H_0:=H,env:=cenv,outer:=X.stack,ex:=fp,fn:=fun x=>scope.names.lookup x==some .cell,pn:=[],xe:=fun _ _=>False}
section
variable {X:Cx} {pins:List (Addr×Obj)} {σ:St} {H:Hp} {s:Shared}
theorem aYd {scope:Scope} {own:List (Str×Nat)} {fp:List Addr} (I:Inv X pins σ H s) (ok:aXz X.N X.env.scope scope own) (hN:X.N.Nodup) (hfp: ∀b∈fp,aKu X pins H b/\b<s.heap.objs.size):
 Inv (X.blk s H scope (compEnvC scope (cellsFrom (s.heap.objs.size+1) scope.names (eO X.env.cells scope.names [])) s.heap.objs.size X.env) fp) [] (wipe σ (own.map (·.2))) H {s with heap:=pushCells (s.heap.push {cls:= .type "dict",data:= .dict #[]}) scope.names}:=by
 have hfree: ∀y∈scope.names,y.2= .free-> ∃c,X.env.cells.lookup y.1=some c:=fun y hy e=>by
  rcases ok.free y hy e with k|k
  . exact I.ok.has _ (.inl k)
  . exact I.ok.has _ (.inr k)
 generalize hcenv:compEnvC scope (cellsFrom (s.heap.objs.size+1) scope.names (eO X.env.cells scope.names [])) s.heap.objs.size X.env=cenv
 have kp: ∀b o,s.heap.get? b=some o->(pushCells (s.heap.push {cls:= .type "dict",data:= .dict #[]}) scope.names).get? b=some o:=fun b o e=>pushCells_keeps _ _ _ _ (Heap.get?_push_of_some _ e)
 have hL:cenv.locals=s.heap.objs.size:=by rw [<-hcenv];rfl
 have hcl:cenv.cells=cellsFrom (s.heap.objs.size+1) scope.names (eO X.env.cells scope.names []):=by rw [<-hcenv];rfl
 have hsc:cenv.scope=bSw scope X.env.scope:=by rw [<-hcenv];rfl
 rw [<-Heap.size_push s.heap {cls:= .type "dict",data:= .dict #[]}] at hcl
 have cm: ∀{y c},(y,c)∈eO X.env.cells scope.names []->X.env.cells.lookup y=some c/\c<s.heap.objs.size:=fun {y c} hm=>by
  rcases qU hm with hm|⟨h1,rfl⟩
  . cases hm
  . obtain⟨c,hc⟩:=hfree _ h1 rfl
    rw [hc]
    obtain⟨w,z⟩:=I.cell _ _ hc
    exact⟨rfl,z.lt⟩
 have mem: ∀{y c},cenv.cells.lookup y=some c->(X.env.cells.lookup y=some c/\c<s.heap.objs.size)\/(s.heap.objs.size+1<=c/\bHj (pushCells (s.heap.push {cls:= .type "dict",data:= .dict #[]}) scope.names) c none):=fun {y c} e=>by
  rw [hcl] at e
  rcases sV (PySem.mem_of_lookup e) with hm|⟨_,h2,h3⟩
  . exact .inl (cm hm)
  . rw [Heap.size_push] at h2;exact .inr ⟨h2,h3⟩
 have look: ∀{y},scope.names.lookup y=some .free-> ∃c,cenv.cells.lookup y=some c/\X.env.cells.lookup y=some c:=fun {y} hl=>by
  have hy:(y,NameKind.free)∈scope.names:=PySem.mem_of_lookup hl
  obtain⟨c',e'⟩:=mem_lookup (zX (names:=scope.names) (n:=(s.heap.push {cls:= .type "dict",data:= .dict #[]}).objs.size) (xM (cells:=X.env.cells) (acc:=[]) hy))
  rw [<-hcl] at e'
  refine⟨c',e',?_⟩
  rw [hcl] at e'
  rcases sV (PySem.mem_of_lookup e') with hm|⟨h1,_,_⟩
  . exact(cm hm).1
  . have:=ok.uniq _ h1
    rw [hl] at this;cases this
 have okB:(X.blk s H scope cenv fp).Ok:=by
  refine⟨I.ok.mod,by show cenv.scope.kind=_;rw [hsc];exact ok.kind,by show cenv.globals=_;rw [<-hcenv];exact I.ok.glob,by show cenv.builtins=_;rw [<-hcenv];exact I.ok.blt,by show s.heap.objs.size<=cenv.locals;rw [hL];exact Nat.le_refl _,
   fun y z c e1 e2=> ?_,fun y hy=> ?_,fun y c z e=> ?_,I.ok.hd,I.ok.frames,.inl rfl,fun b hb=>⟨?_,fun y c e z=> ?_⟩,I.bs,Nat.le_trans I.ok.bsz I.sz,fun b o e hb=> ?_,fun b hb z=> ?_,I.stack,I.bFh⟩
  . have e1:cenv.cells.lookup y=some c:=e1
    have e2:cenv.cells.lookup z=some c:=e2
    rw [hcl] at e1 e2
    refine aHq (fun p hp=> ?_) (fun y z c a b=>I.ok.inj y z c (cm a).1 (cm b).1) (PySem.mem_of_lookup e1) (PySem.mem_of_lookup e2)
    rw [Heap.size_push]
    exact Nat.lt_succ_of_lt (cm (y:=p.1) (c:=p.2) hp).2
  . show∃c,cenv.cells.lookup y=some c
    have key: ∀k,cenv.kindOf y=some k->(k= .cell\/k= .free)-> ∃c,cenv.cells.lookup y=some c:=fun k hk hk'=>by
     unfold Env.kindOf at hk
     rw [hsc] at hk
     obtain⟨k',e,r⟩:=xW hk
     have:k'= .cell\/k'= .free:=by
      rcases r with rfl|⟨rfl,_⟩
      . exact hk'
      . exact .inr rfl
     rcases this with rfl|rfl
     . obtain⟨c,hm⟩:=aHp (n:=(s.heap.push {cls:= .type "dict",data:= .dict #[]}).objs.size) (acc:=eO X.env.cells scope.names []) (PySem.mem_of_lookup e)
       obtain⟨c',e'⟩:=mem_lookup hm
       exact⟨c',by rw [hcl];exact e'⟩
     . obtain⟨c,h1,_⟩:=look e
       exact⟨c,h1⟩
    rcases hy with hy|hy
    . exact key _ hy (.inl rfl)
    . exact key _ hy (.inr rfl)
  . have z:(scope.names.lookup y==some NameKind.cell)=true:=z
    have z:scope.names.lookup y=some .cell:=by simpa using z
    have e:cenv.cells.lookup y=some c:=e
    rw [hcl] at e
    rcases sV (PySem.mem_of_lookup e) with hm|⟨_,h2,_⟩
    . rcases qU hm with hm|⟨h1,_⟩
      . cases hm
      . have q:=ok.uniq _ h1
        rw [z] at q;cases q
    . rw [Heap.size_push] at h2
      exact Nat.le_of_succ_le h2
  . show b≠cenv.locals
    rw [hL];exact Nat.ne_of_lt (hfp b hb).2
  . have e:cenv.cells.lookup y=some c:=e
    rcases mem e with⟨h1,_⟩|⟨h1,_⟩
    . exact(hfp b hb).1.2.2.2.2.1 y c h1 z
    . have h2:s.heap.objs.size+1<=b:=by rw [<-z];exact h1
      exact absurd (Nat.lt_of_lt_of_le (hfp b hb).2 (Nat.le_of_succ_le h2)) (Nat.lt_irrefl _)
  . rcases(hfp b hb).1.2.2.2.1 with z|z
    . exact I.ok.noex b o e z
    . exact absurd (Nat.lt_of_lt_of_le (Heap.lt_size e) (Nat.le_trans I.ok.bsz z)) (Nat.lt_irrefl _)
  . rcases List.mem_cons.mp (I.bDq b z) with z|z
    . exact(hfp b hb).1.2.1 z
    . exact(hfp b hb).1.2.2.1 z
 refine⟨okB,rfl,I.bare,Un.kept kp,⟨fun _=>none,?_,fun i y av e1 e2 e3=> ?_⟩,fun y c e=> ?_,?_,fun y c e=> ?_,fun p hp=> ?_,I.hok.kept kp,by rw [zR];exact I.len⟩
 . show Heap.Ns _ cenv.locals _
   rw [hL]
   exact Heap.Ns.keeps (Heap.Ns.new ..) fun b o e=>pushCells_keeps _ _ _ _ e
 . obtain⟨e2,hne⟩:=aJt e2
   have hfr:scope.names.lookup y=some .free/\(cenv.kindOf y=some .cell\/cenv.kindOf y=some .free):=by
    have key: ∀k,cenv.scope.names.lookup y=some k->k= .local\/k= .cell\/k= .free->scope.names.lookup y=some .free/\(cenv.kindOf y=some .cell\/cenv.kindOf y=some .free):=fun k hk hk'=>by
     have hk0:=hk
     rw [hsc] at hk
     obtain⟨k',e,r⟩:=xW hk
     have no: ¬(k'= .local\/k'= .cell):=fun hh=>by
      rcases ok.own _ (PySem.mem_of_lookup e) hh with e'|e'
      . obtain⟨p,hp,hpy⟩:=List.mem_map.mp e'
        have e3:=ok.ix p hp
        have:p.1=y:=hpy
        rw [this] at e3
        exact hne (List.mem_map.mpr ⟨p,hp,aPc hN e3 e1⟩)
      . exact e' (List.mem_of_getElem? e1)
     rcases r with rfl|⟨rfl,rfl⟩
     . rcases hk' with rfl|rfl|rfl
       . exact absurd (.inl rfl) no
       . exact absurd (.inr rfl) no
       . exact⟨e,.inr hk0⟩
     . exact⟨e,.inl hk0⟩
    have e3:Vis cenv.scope y:=e3
    rcases e3 with e3|e3|e3
    . exact key _ e3 (.inl rfl)
    . exact key _ e3 (.inr (.inl rfl))
    . exact key _ e3 (.inr (.inr rfl))
   obtain⟨m,hn,hl⟩:=I.loc
   have hvis:Vis X.env.scope y:=(ok.free _ (PySem.mem_of_lookup hfr.1) rfl).elim (fun k=> .inr (.inl k)) (fun k=> .inr (.inr k))
   obtain⟨w,r,q⟩:=hl i y av e1 e2 hvis
   refine⟨w,r,.inr ⟨hfr.2,?_⟩⟩
   obtain⟨c,h1,h2⟩:=look hfr.1
   rcases q with⟨k,_⟩|⟨_,c',e',z⟩
   . have k:X.env.scope.names.lookup y=some .local:=k
     rcases ok.free _ (PySem.mem_of_lookup hfr.1) rfl with k'|k'<;>rw [show X.env.scope.names.lookup y=_ from k'] at k<;>cases k
   . rw [h2] at e';cases e'
     exact⟨c,h1,z.keeps kp⟩
 . have e:cenv.cells.lookup y=some c:=e
   rcases mem e with⟨h1,_⟩|⟨_,z⟩
   . obtain⟨w,z⟩:=I.cell y c h1
     exact⟨w,z.keeps kp⟩
   . exact⟨_,z⟩
 . show H cenv.locals=none
   rw [hL];exact I.hok.fresh (Nat.le_refl _)
 . have e:cenv.cells.lookup y=some c:=e
   rcases mem e with⟨h1,_⟩|⟨h1,_⟩
   . exact I.freeC y c h1
   . exact I.hok.fresh (Nat.le_of_succ_le h1)
 . exact absurd (show p∈([]:List (Addr×Obj))++[] from hp) (by simp)
theorem bNz {E:Value->Shared->Prop} {D:Addr} {xs:List V} {y:V} {v:Value} {Q:Value->Shared->Prop} (I:Inv X pins σ H s) (hD:H D=some (.lst xs)) (hz:xs.length<sizeLine) (r:RelV y v)
 (h: ∀s',Inv X pins σ (upd H D (.lst (xs++[y]))) s'->Q .none s'):wpAny (model X.prog X.w) X.A (call (.builtin "list.append") [.ref D,v]) Q E s:=by
 obtain⟨hz',its,n,ri,e⟩:=I.hok D _ hD
 have hl:=ri.length
 refine append_at (hsz:=by rw [List.size_toArray];omega) e fun h' sb ho'=> ?_
 refine h {s with heap:=h'} (I.write (t':=s.toks) (by rw [hD];trivial) (.inl rfl) (fun b u hb q=>(sb.2 b hb).trans q) ⟨_,ho'⟩ ⟨by rw [List.length_append];exact hz,its++[v],n+1,ri.append (.cons r .nil),?_⟩)
 rw [ho']
 simp
def PTs (X:Cx) (ifs:List Expr) (t:TT):Prop:=
 ∀(pins:List (Addr×Obj)) (s:Shared) (σ:St) (H:Hp) (Q:Bool->Hp->Prop),Inv X pins σ H s->t σ H Q->
  wpAny (model X.prog X.w) X.A (forIn ifs true fun c r=>if r=true then do let ok<-isTrue c X.env (eval c X.env);pure (ForInStep.yield ok) else pure (ForInStep.yield r)) (TP X pins σ Q) X.xe s
def bSa:TT:=fun _ H Q=>Q true H
theorem iQ:PTs X [] bSa:=fun _ _ _ H _ I h=>wpAny_tests_nil ⟨H,I,h⟩
theorem bFc {c:Expr} {t:TT} (h:PT X c t):PTs X [c] t:=fun pins s σ H Q I hw=>wpAny_tests_one (h pins s σ H Q I hw)
end
theorem bHe {α:Type} {t:Sem α} {Q Q':α->Shared->Prop} {M:Model} {A:Around} {E:Value->Shared->Prop} {s:Shared} (h:wpAny M A t Q (fun _ _=>False) s) (hQ: ∀a s,Q a s->Q' a s):wpAny M A t Q' E s:=wpAny_mono h hQ fun _ _ z=>False.elim z
theorem aVa {prog:Program} {w:World} {A:Around} {R:Result->Shared->Prop} {s:Shared} {elt target iter:Expr} {ifs:List Expr} {scope:Scope} {pos:Pos} {it acc:Value} {env:Env} (I:Nat->Shared->Prop)
 (turn: ∀n s,I n s->wpAny (model prog w) A (pyNext it) (fun r s₁=>match r with
   |none=>R (.ok .next) s₁
   |some v=>wpAny (model prog w) A (letOwnedTupleGo target it v) (fun _ s₁'=>wpAny (model prog w) A (assign target env v) (fun _ s₂=>
    wpAny (model prog w) A (forIn ifs true fun c r=>if r=true then do let ok<-isTrue c env (eval c env);pure (ForInStep.yield ok) else pure (ForInStep.yield r)) (fun ok s₃=>
     if ok=true then wpAny (model prog w) A (eval elt env) (fun x s₄=>
      wpAny (model prog w) A (call (.builtin "list.append") [acc,x]) (fun _ s₅=> ∃m,m<n/\I m s₅) (notedBy (model prog w) A env fun e s'=>R (.error e) s') s₄) (notedBy (model prog w) A env fun e s'=>R (.error e) s') s₃
     else∃m,m<n/\I m s₃) (notedBy (model prog w) A env fun e s'=>R (.error e) s') s₂) (notedBy (model prog w) A env fun e s'=>R (.error e) s') s₁') (notedBy (model prog w) A env fun e s'=>R (.error e) s') s₁) (notedBy (model prog w) A env fun e s'=>R (.error e) s') s)
 (n:Nat) (h:I n s):
 codeAny (model prog w) A (.compLoop (.ListComp elt [⟨target,iter,ifs,0⟩] scope pos) 0 it acc env) R s:=by
 refine codeAny_loop rfl I (fun n s hI=> ?_) n h
 show wpAny _ A ((compTurn (.ListComp elt [⟨target,iter,ifs,0⟩] scope pos) 0 it acc env).onRaise (fun x=>do noteFrame x env;theTreesLotGoes x)) _ _ s
 refine wpAny_noted ?_
 rw [compTurn_list]
 refine wpAny_bind (wpAny_standAt (wpAny_bind (wpAny_mono (turn n s hI) (fun r s₁ h₁=> ?_) fun _ _ h'=>h')))
 cases r with
 |none=>exact wpAny_pure h₁
 |some v=>
  refine wpAny_bind (wpAny_mono h₁ (fun _ s₁' h₁'=> ?_) fun _ _ h'=>h')
  refine wpAny_bind (wpAny_mono h₁' (fun _ s₂ h₂=>wpAny_bind (wpAny_mono h₂ (fun ok s₃ h₃=> ?_) fun _ _ h'=>h')) fun _ _ h'=>h')
  cases ok with
  |false=>exact wpAny_pure ⟨rfl,h₃⟩
  |true=>
   exact wpAny_bind (wpAny_bind (wpAny_mono h₃ (fun x s₄ h₄=>wpAny_bind (wpAny_mono h₄ (fun _ s₅ h₅=>wpAny_pure (wpAny_pure ⟨rfl,h₅⟩)) fun _ _ h'=>h')) fun _ _ h'=>h'))
section
variable {X:Cx}
def tLc (wi:TI) (g:TG) (tt:TT) (te:TE) (vs:List Nat):TE:=fun σ H Q=>wi σ H fun J H1=> ∀D,H1 D=none-> ∃W:Nat->Nat->Hp->Prop,(∃m,W 0 m (upd H1 D (.lst [])))/\ ∀i m H,W i m H->
 (J.stop i H/\Q (.ref D) H)\/(J.go i H/\ ∃Nx:Hp->Prop,(∀H',Nx H'-> ∃m',m'<m/\W (i+1) m' H')/\ ∀x H',J.yld i H x H'->g x (wipe σ vs) H' fun σ2 H2=>wipe σ2 vs=wipe σ vs/\tt σ2 H2 fun b H3=>
  if b=true then te σ2 H3 fun y H4=> ∃acc,H4 D=some (.lst acc)/\acc.length<sizeLine/\Nx (upd H4 D (.lst (acc++[y]))) else Nx H3)
theorem bEt {pins:List (Addr×Obj)} {s:Shared} {σ:St} {H:Hp} {Q:VK} {elt tg iter:Expr} {ifs:List Expr} {scope:Scope} {own:List (Str×Nat)} {pos pos':Pos} {wi:TI} {g:TG} {tt:TT} {te:TE} {use:Option (Value->Sem Unit)} {Qf:Value->Shared->Prop}
 (hc:X.calm=true) (hN:X.N.Nodup) (I:Inv X pins σ H s) (hi:PI X tg iter wi) (ok:aXz X.N X.env.scope scope own)
 (hg: ∀(s:Shared) (H:Hp) (C:Addr) (cl:List (Str×Addr)) (fp:List Addr),PG (X.blk s H scope (compEnvC scope cl C X.env) fp) tg g) (ht: ∀(s:Shared) (H:Hp) (C:Addr) (cl:List (Str×Addr)) (fp:List Addr),PTs (X.blk s H scope (compEnvC scope cl C X.env) fp) ifs tt)
 (he: ∀(s:Shared) (H:Hp) (C:Addr) (cl:List (Str×Addr)) (fp:List Addr),PE (X.blk s H scope (compEnvC scope cl C X.env) fp) elt te) (hs: ∀x,foldedSetIterable iter X.env x=pure x)
 (h:tLc wi g tt te (own.map (·.2)) σ H Q)
 (hRR: ∀D C s' m H',Inv X pins σ H' s'->Q (.ref D) H'->s'.heap.Ns C m->aKu X pins H' C->compPost (model X.prog X.w) X.A X.xe use Qf (.ref D) C (.ok .next) s'):
 wpAny (model X.prog X.w) X.A (comprehension (.ListComp elt [⟨tg,iter,ifs,0⟩] scope pos) scope X.env pos' (newList []) false (eval iter X.env) use) Qf X.xe s:=by
 have hfree: ∀y∈scope.names,y.2= .free-> ∃c,X.env.cells.lookup y.1=some c:=fun y hy e=>by
  rcases ok.free y hy e with k|k
  . exact I.ok.has _ (.inl k)
  . exact I.ok.has _ (.inr k)
 refine wpAny_comprehension_free (use:=use) rfl hs (bBw hfree) ok.kind (fun y hy e=>by rw [ok.uniq y hy,e])
  (thn (hi pins s σ H _ I h) fun xv s1 hx=>thn hx fun itv s2 h2=> ?_)
 obtain⟨it,fp,tn,J,H2,e,I2,T,st2,f2,q⟩:=h2
 subst e
 refine wpAny_newObj_type (aZw ?_) (by show 0<=sizeLine;decide)
 generalize hD:s2.heap.objs.size=D
 have hDn:H2 D=none:=I2.hok.fresh (Nat.le_of_eq hD)
 obtain⟨W,⟨m0,w0⟩,turn⟩:=q D hDn
 generalize hs3:({s2 with heap:=s2.heap.push {cls:= .type "list",data:= .seq ([]:List Value).toArray}}:Shared)=s3
 have I3:Inv X pins σ (upd H2 D (.lst [])) s3:=by
  rw [<-hs3]
  refine I2.laid (t':=s2.toks) (fun b o e=>Heap.get?_push_of_some _ e) (Nat.le_of_eq hD) ⟨Nat.zero_le _,[],0,.nil,?_⟩
  rw [<-hD]
  exact Heap.get?_push_size _ rfl
 have h3:s3.heap=s2.heap.push {cls:= .type "list",data:= .seq ([]:List Value).toArray}:=by rw [<-hs3]
 have sz: ∀b∈fp,b<s2.heap.objs.size:=fun b hb=>by
  obtain⟨o,e,_⟩:=T.obj _ _ st2 b hb
  exact Heap.lt_size e
 have f3: ∀b∈fp,aKu X pins (upd H2 D (.lst [])) b/\b<s3.heap.objs.size:=fun b hb=>by
  have hlt:=sz b hb
  refine⟨⟨?_,(f2 b hb).2⟩,by rw [h3,Heap.size_push];exact Nat.lt_succ_of_lt hlt⟩
  rw [aR (by rw [<-hD];exact Nat.ne_of_lt hlt)]
  exact(f2 b hb).1
 have st3:tn 0 s3.heap:=T.keep _ _ _ st2 fun b _ o e=>by rw [h3];exact Heap.get?_push_of_some _ e
 have I4:=aYd I3 ok hN f3
 have pg:=hg s3 (upd H2 D (.lst [])) s3.heap.objs.size (cellsFrom (s3.heap.objs.size+1) scope.names (eO X.env.cells scope.names [])) fp
 have pt:=ht s3 (upd H2 D (.lst [])) s3.heap.objs.size (cellsFrom (s3.heap.objs.size+1) scope.names (eO X.env.cells scope.names [])) fp
 have pe:=he s3 (upd H2 D (.lst [])) s3.heap.objs.size (cellsFrom (s3.heap.objs.size+1) scope.names (eO X.env.cells scope.names [])) fp
 show codeAny _ _ (.compStart (.ListComp elt [⟨tg,iter,ifs,0⟩] scope pos) 0 (.ref it) (.ref D) (compEnvC scope (cellsFrom (s3.heap.objs.size+1) scope.names (eO X.env.cells scope.names [])) s3.heap.objs.size X.env)) (compPost (model X.prog X.w) X.A X.xe use Qf (.ref D) s3.heap.objs.size) {s3 with heap:=pushCells (s3.heap.push {cls:= .type "dict",data:= .dict #[]}) scope.names}
 have nfp: ∀b∈fp,(upd H2 D (.lst [])) b=none:=fun b hb=>(f3 b hb).1.1
 generalize hce:compEnvC scope (cellsFrom (s3.heap.objs.size+1) scope.names (eO X.env.cells scope.names [])) s3.heap.objs.size X.env=ce at I4 pg pt pe ⊢
 have cL:ce.locals=s3.heap.objs.size:=by subst hce;rfl
 generalize hH3:upd H2 D (.lst [])=H3 at I3 I4 pg pt pe w0 nfp f3
 generalize hs4:({s3 with heap:=pushCells (s3.heap.push {cls:= .type "dict",data:= .dict #[]}) scope.names}:Shared)=s4 at I4 ⊢
 have st4:tn 0 s4.heap:=T.keep _ _ _ st3 fun b _ o e=>by rw [<-hs4];exact pushCells_keeps _ _ _ _ (Heap.get?_push_of_some _ e)
 have stat: ∀{σ':St} {H':Hp} {s':Shared},Inv (X.blk s3 H3 scope ce fp) [] σ' H' s'->(∀b∈fp,H' b=none)-> ∀b∈fp,aKu (X.blk s3 H3 scope ce fp) [] H' b:=fun {σ' H' s'} I' hn b hb=>
  ⟨hn b hb,(I'.ok.exf b hb).1,I'.ok.exfs b hb,.inl hb,fun x c e=>(I'.ok.exf b hb).2 x c e,fun p hp=>absurd (show p∈([]:List (Addr×Obj))++[] from hp) (by simp)⟩
 have loop:codeAny (model X.prog X.w) X.A (.compLoop (.ListComp elt [⟨tg,iter,ifs,0⟩] scope pos) 0 (.ref it) (.ref D) ce) (compPost (model X.prog X.w) X.A X.xe use Qf (.ref D) s3.heap.objs.size) s4:=by
  refine aVa (fun n s'=> ∃i H',Inv (X.blk s3 H3 scope ce fp) [] (wipe σ (own.map (·.2))) H' s'/\tn i s'.heap/\(∀b∈fp,H' b=none)/\W i n H') ?_ m0 ⟨0,H3,I4,st4,nfp,w0⟩
  rintro n s5 ⟨i,H5,I5,st5,n5,w5⟩
  rcases turn i n H5 w5 with⟨stop,qq⟩|⟨go,Nx,hNx,step⟩
  . have td:=T.done (X.blk s3 H3 scope ce fp) rfl rfl rfl hc i [] s5 _ H5 (fun _ _=>False) I5 (stat I5 n5) st5 stop
    refine bHe td fun r s6 ⟨hr,I6⟩=> ?_
    subst hr
    have I7:Inv X pins σ H5 s6:=I3.call' (ch:=fp) I6.os I6.base I6.hok I6.bare fun b hb=>⟨(f3 b hb).1.2.2.2.1,(f3 b hb).1.2.1,(f3 b hb).1.2.2.2.2.1,(f3 b hb).1.2.2.2.2.2⟩
    have nC:H5 s3.heap.objs.size=none:=by
     have z:H5 ce.locals=none:=I6.free
     rw [cL] at z
     exact z
    obtain⟨m,hn,_⟩:=I6.loc
    have hn:s6.heap.Ns ce.locals m:=hn
    rw [cL] at hn
    exact hRR D s3.heap.objs.size s6 m H5 I7 qq hn (I3.bFz (Nat.le_refl _) nC)
  . have ti:=T.item (X.blk s3 H3 scope ce fp) rfl rfl rfl hc i [] s5 _ H5 (fun _ _=>False) I5 (stat I5 n5) st5 go
    refine bHe ti fun r s6 ⟨u,hr,h6⟩=> ?_
    subst hr
    refine bHe h6 fun _ s7 ⟨x,H7,I7,r7,y7,st7,n7⟩=> ?_
    have I7':=I7.pinned (stat I7 n7) (T.obj _ _ st7)
    refine bHe (pg _ s7 _ H7 x u _ I7' r7 (step x H7 y7)) fun _ s8 ⟨σ8,H8,I8,hw8,q8⟩=> ?_
    refine bHe (pt _ s8 σ8 H8 _ I8 q8) fun b s9 ⟨H9,I9,q9⟩=> ?_
    have fin: ∀{s':Shared} {H':Hp},Inv (X.blk s3 H3 scope ce fp) ([]++aPu fp s7.heap) σ8 H' s'->Nx H'-> ∃m,m<n/\ ∃i H',Inv (X.blk s3 H3 scope ce fp) [] (wipe σ (own.map (·.2))) H' s'/\tn i s'.heap/\(∀b∈fp,H' b=none)/\W i m H':=fun {s' H'} I' nx=>by
     obtain⟨m',hm,w'⟩:=hNx H' nx
     have pin': ∀b∈fp,∀o,s7.heap.get? b=some o->s'.heap.get? b=some o/\H' b=none:=fun b hb o e=>
      let z:=I'.pin (b,o) (List.mem_append_right _ (List.mem_append_right _ (aCu hb e)))
      ⟨z.1,z.2.1⟩
     have hl:(wipe σ (own.map (·.2))).length=σ8.length:=by rw [<-hw8,zR]
     refine⟨m',hm,i+1,H',(I'.aHi (pins:=[])).weak hl (fun j v e=> ?_),T.keep _ _ _ st7 fun b hb o e=>(pin' b hb o e).1,fun b hb=> ?_,w'⟩
     . rw [<-hw8] at e
       exact(aJt e).1
     . obtain⟨o,e,_⟩:=T.obj _ _ st7 b hb
       exact(pin' b hb o e).2
    cases b with
    |false=>
     simp only [Bool.false_eq_true,if_false] at q9 ⊢
     exact fin I9 q9
    |true=>
     simp only [if_true] at q9 ⊢
     refine bHe (pe _ s9 σ8 H9 _ I9 q9) fun z s10 ⟨yv,H10,I10,r10,acc,hD10,hz10,nx⟩=> ?_
     exact bNz (X:=X.blk s3 H3 scope ce fp) I10 hD10 hz10 r10 fun s11 I11=>fin I11 nx
 exact codeAny_compStart_list loop (T.self X.A 0 _ _ _ st4 loop)
theorem tK {elt tg iter:Expr} {ifs:List Expr} {scope:Scope} {own:List (Str×Nat)} {pos:Pos} {wi:TI} {g:TG} {tt:TT} {te:TE} (hc:X.calm=true) (hN:X.N.Nodup) (hi:PI X tg iter wi) (ok:aXz X.N X.env.scope scope own)
 (hg: ∀(s:Shared) (H:Hp) (C:Addr) (cl:List (Str×Addr)) (fp:List Addr),PG (X.blk s H scope (compEnvC scope cl C X.env) fp) tg g) (ht: ∀(s:Shared) (H:Hp) (C:Addr) (cl:List (Str×Addr)) (fp:List Addr),PTs (X.blk s H scope (compEnvC scope cl C X.env) fp) ifs tt)
 (he: ∀(s:Shared) (H:Hp) (C:Addr) (cl:List (Str×Addr)) (fp:List Addr),PE (X.blk s H scope (compEnvC scope cl C X.env) fp) elt te) (hs: ∀x,foldedSetIterable iter X.env x=pure x:=by intro _;rfl):
 PE X (.ListComp elt [⟨tg,iter,ifs,0⟩] scope pos) (tLc wi g tt te (own.map (·.2))):=by
 intro pins s σ H Q I h
 rw [eval_ListComp]
 refine bEt hc hN I hi ok hg ht he hs h fun D C s' m H' I' q hn f=>⟨m,hn,fun h'' sb=> ?_⟩
 obtain⟨f0,f1,f2,f3,f4,f5⟩:=f
 exact⟨.ref D,H',I'.turned (t':=s'.toks) (fun b o hb e=>(sb.2 b hb).trans e) f0 f1 f3 f4 f5,rfl,q⟩
theorem aPv {i:Nat} {y:Str} {py:Pos} {elt tg iter:Expr} {ifs:List Expr} {scope:Scope} {own:List (Str×Nat)} {pos spos:Pos} {wi:TI} {g:TG} {tt:TT} {te:TE} (hc:X.calm=true) (hN:X.N.Nodup) (hy:X.N[i]? =some y) (hyl:X.env.scope.names.lookup y=some .local)
 (hsw:swapsWith (.ListComp elt [⟨tg,iter,ifs,0⟩] scope pos) (some (.Name y py)) spos.line X.env=pure true) (hi:PI X tg iter wi) (ok:aXz X.N X.env.scope scope own)
 (hg: ∀(s:Shared) (H:Hp) (C:Addr) (cl:List (Str×Addr)) (fp:List Addr),PG (X.blk s H scope (compEnvC scope cl C X.env) fp) tg g) (ht: ∀(s:Shared) (H:Hp) (C:Addr) (cl:List (Str×Addr)) (fp:List Addr),PTs (X.blk s H scope (compEnvC scope cl C X.env) fp) ifs tt)
 (he: ∀(s:Shared) (H:Hp) (C:Addr) (cl:List (Str×Addr)) (fp:List Addr),PE (X.blk s H scope (compEnvC scope cl C X.env) fp) elt te) (hs: ∀x,foldedSetIterable iter X.env x=pure x:=by intro _;rfl):
 PS X (.Assign [.Name y py] (.ListComp elt [⟨tg,iter,ifs,0⟩] scope pos) spos) (bHd (tLc wi g tt te (own.map (·.2))) (aJw i)):=by
 intro pins s σ H D I h
 rw [exec_Assign_Name_used _ _ _ _ hsw]
 refine wpAny_bind (wpAny_standAt (wpAny_bind ?_))
 show wpAny _ X.A (do let _<-comprehension (.ListComp elt [⟨tg,iter,ifs,0⟩] scope pos) scope X.env (firstIterPos [⟨tg,iter,ifs,0⟩] pos) (newList []) false (eval iter X.env) (some (assign (.Name y py) X.env))) _ _ s
 have h:tLc wi g tt te (own.map (·.2)) σ H (fun x H1=>aJw i x σ H1 D.nx):=h
 refine wpAny_bind (thn (bEt (Qf:=fun _ s'=>SP X pins D .next s') hc hN I hi ok hg ht he hs h fun L C s' m H' I' q hn f=> ?_) fun _ s' hq=>wpAny_pure (wpAny_pure hq))
 show wpAny _ _ (assign (.Name y py) X.env (.ref L)) _ _ _
 refine wpAny_assign_Name (aUn (v:=V.ref L) I' hN hy (.inl hyl) rfl (fun s2 I2 ⟨a,sb,ha⟩=> ?_) (.inr hyl))
 obtain⟨f0,f1,f2,f3,f4,f5⟩:=f
 have haC:C≠a:=by
  rcases ha with z|z
  . rw [z];exact f1
  . exact fun e=>f4 y a z e.symm
 refine⟨m,hn.sameBut sb haC,fun h3 sb3=> ?_⟩
 exact⟨_,H',I2.turned (t':=s2.toks) (fun b o hb e=>(sb3.2 b hb).trans e) f0 f1 f3 f4 f5,q⟩
theorem aXx {elt:Expr} {gs:List Comprehension} {scope:Scope} {pos py:Pos} {y:Str} {l:Nat} {env:Env} (hk:env.scope.kind= .function) (hy:env.scope.names.lookup y=some .local) (hl:(py.line==pos.line)=true)
 (ha:(scope.names.any fun(n,k)=>n==y&&(k== .local||k== .cell))=false):swapsWith (.ListComp elt gs scope pos) (some (.Name y py)) l env=pure true:=by
 have ky:env.kindOf y=some .local:=hy
 have hb:env.blockKind= .function:=by unfold Env.blockKind;rw [hk];rfl
 unfold swapsWith
 simp only [hb,ky,ha,Expr.pos,hl]
 rfl
end
theorem aZr {lo:Int} {n:Nat} {g:TG} {tt:TT} {te:TE} {vs:List Nat} {σ:St} {H1:Hp} {D:Addr} {Qd:Hp->Prop} (Pv:Nat->Hp->Prop) (h0:Pv 0 (upd H1 D (.lst [])))
 (hs: ∀i H,i<n->Pv i H->g (.int (lo+i)) (wipe σ vs) H fun σ2 H2=>wipe σ2 vs=wipe σ vs/\tt σ2 H2 fun b H3=>
   if b=true then te σ2 H3 fun y H4=> ∃acc,H4 D=some (.lst acc)/\acc.length<sizeLine/\Pv (i+1) (upd H4 D (.lst (acc++[y]))) else Pv (i+1) H3) (hd: ∀H,Pv n H->Qd H):
 ∃W:Nat->Nat->Hp->Prop,(∃m,W 0 m (upd H1 D (.lst [])))/\ ∀i m H,W i m H->
  ((Itr lo n).stop i H/\Qd H)\/((Itr lo n).go i H/\ ∃Nx:Hp->Prop,(∀H',Nx H'-> ∃m',m'<m/\W (i+1) m' H')/\ ∀x H',(Itr lo n).yld i H x H'->g x (wipe σ vs) H' fun σ2 H2=>wipe σ2 vs=wipe σ vs/\tt σ2 H2 fun b H3=>
   if b=true then te σ2 H3 fun y H4=> ∃acc,H4 D=some (.lst acc)/\acc.length<sizeLine/\Nx (upd H4 D (.lst (acc++[y]))) else Nx H3):=by
 refine⟨fun i m H=>m=n-i/\i<=n/\Pv i H,⟨n,by simp,Nat.zero_le _,h0⟩,?_⟩
 rintro i m H ⟨rfl,hi,p⟩
 by_cases hlt:i<n
 . refine .inr ⟨hlt,Pv (i+1),fun H' p'=>⟨n-(i+1),by omega,rfl,hlt,p'⟩,fun x H' y=> ?_⟩
   obtain⟨e,y⟩:=y
   subst e y
   exact hs i _ hlt p
 . have e:i=n:=by omega
   subst e
   exact .inl ⟨Nat.le_refl _,hd H p⟩
theorem aVz {K:aA} {a:Addr} {xs:List V} {g:TG} {tt:TT} {te:TE} {vs:List Nat} {σ:St} {H1:Hp} {D:Addr} {Qd:Hp->Prop} (Pv:Nat->Hp->Prop) (h0:Pv 0 (upd H1 D (.lst []))) (hl: ∀i H,i<=xs.length->Pv i H->SqL K H a xs)
 (hs: ∀i x H,xs[i]? =some x->Pv i H->g x (wipe σ vs) H fun σ2 H2=>wipe σ2 vs=wipe σ vs/\tt σ2 H2 fun b H3=>
   if b=true then te σ2 H3 fun y H4=> ∃acc,H4 D=some (.lst acc)/\acc.length<sizeLine/\Pv (i+1) (upd H4 D (.lst (acc++[y]))) else Pv (i+1) H3) (hd: ∀H,Pv xs.length H->Qd H):
 ∃W:Nat->Nat->Hp->Prop,(∃m,W 0 m (upd H1 D (.lst [])))/\ ∀i m H,W i m H->
  ((Itl K a).stop i H/\Qd H)\/((Itl K a).go i H/\ ∃Nx:Hp->Prop,(∀H',Nx H'-> ∃m',m'<m/\W (i+1) m' H')/\ ∀x H',(Itl K a).yld i H x H'->g x (wipe σ vs) H' fun σ2 H2=>wipe σ2 vs=wipe σ vs/\tt σ2 H2 fun b H3=>
   if b=true then te σ2 H3 fun y H4=> ∃acc,H4 D=some (.lst acc)/\acc.length<sizeLine/\Nx (upd H4 D (.lst (acc++[y]))) else Nx H3):=by
 refine⟨fun i m H=>m=xs.length-i/\i<=xs.length/\Pv i H,⟨xs.length,by simp,Nat.zero_le _,h0⟩,?_⟩
 rintro i m H ⟨rfl,hi,p⟩
 have q:=hl i H hi p
 by_cases hlt:i<xs.length
 . refine .inr ⟨⟨xs,xs[i],q,by simp [hlt]⟩,Pv (i+1),fun H' p'=>⟨xs.length-(i+1),by omega,rfl,hlt,p'⟩,fun x H' y=> ?_⟩
   obtain⟨e,y⟩:=y
   subst e
   exact hs i x _ (y xs q) p
 . have e:i=xs.length:=by omega
   subst e
   exact .inl ⟨⟨xs,q,Nat.le_refl _⟩,hd H p⟩
def bQb (N:List Str) (sc scope:Scope) (own:List (Str×Nat)):Bool:=
 (match scope.kind with| .function=>true|_=>false)&&(scope.names.all fun y=>decide (scope.names.lookup y.1=some y.2))&&(own.all fun p=>decide (N[p.2]? =some p.1))&&
  (scope.names.all fun y=>match y.2 with
    | .free=>(match sc.names.lookup y.1 with|some .cell=>true|some .free=>true|_=>false)
    | .local=>decide (y.1∈own.map (·.1))||decide (y.1∉N)
    | .cell=>decide (y.1∈own.map (·.1))||decide (y.1∉N)
    |_=>true)
theorem eZ {N:List Str} {sc scope:Scope} {own:List (Str×Nat)} (h:bQb N sc scope own=true):aXz N sc scope own:=by
 unfold bQb at h
 simp only [Bool.and_eq_true,List.all_eq_true,aC] at h
 obtain⟨⟨⟨h1,h2⟩,h3⟩,h4⟩:=h
 refine⟨?_,h2,h3,fun y hy e=> ?_,fun y hy e=> ?_⟩
 . split at h1
   . assumption
   . cases h1
 . have q:=h4 y hy
   simp only [e] at q
   split at q<;>first|exact .inl (by assumption)|exact .inr (by assumption)|cases q
 . have q:=h4 y hy
   rcases e with e|e<;>(simp only [e,Bool.or_eq_true,aC] at q;exact q)
end L2
namespace L2
open PySem PySem.Spec PyProof.Rows
section
variable {prog:Program} {w:World} {A:Around} {R:Result->Shared->Prop} {s:Shared} {elt t0 i0 t1 i1:Expr} {ifs0 ifs1:List Expr} {scope:Scope} {pos:Pos} {it acc:Value} {env:Env}
end
section
variable {X:Cx}
end
end L2
namespace L2
open PySem PySem.Spec PyProof.Rows
section
variable {κ:Type} [DecidableEq κ]
def dO (kvs:List (κ×V)) (k:κ):Option V:=(kvs.find? fun kv=>decide (kv.1=k)).map (·.2)
def putK (kvs:List (κ×V)) (k:κ) (v:V):List (κ×V):=
 if(kvs.any fun kv=>decide (kv.1=k))=true then kvs.map (fun kv=>if kv.1=k then(kv.1,v) else kv) else kvs++[(k,v)]
def lX (kvs:List (κ×V)) (k:κ):List (κ×V):=kvs.filter fun kv=>decide (kv.1≠k)
theorem jA {p:κ×V} {r:List (κ×V)} {k:κ} (e:p.1=k):dO (p::r) k=some p.2:=by simp [dO,List.find?_cons,e]
theorem iZ {p:κ×V} {r:List (κ×V)} {k:κ} (e: ¬p.1=k):dO (p::r) k=dO r k:=by simp [dO,List.find?_cons,e]
theorem qQ (k:κ): ∀kvs:List (κ×V),(kvs.any fun kv=>decide (kv.1=k))=(dO kvs k).isSome
 |[]=>rfl
 |p::r=>by
  rw [List.any_cons]
  by_cases e:p.1=k
  . simp only [jA e,decide_eq_true e,Bool.true_or,Option.isSome_some]
  . rw [iZ e,decide_eq_false e,Bool.false_or];exact qQ k r
theorem bBi (k j:κ) (y:V): ∀kvs:List (κ×V),dO (kvs.map fun kv=>if kv.1=k then(kv.1,y) else kv) j=(dO kvs j).map fun x=>if j=k then y else x
 |[]=>rfl
 |p::r=>by
  have ih:=bBi k j y r
  rw [List.map_cons]
  by_cases h:p.1=k
  . rw [aD h]
    by_cases e:p.1=j
    . rw [jA (p:=(p.1,y)) e,jA e,Option.map_some,aD (e.symm.trans h)]
    . rw [iZ (p:=(p.1,y)) e,iZ e,ih]
  . rw [aF h]
    by_cases e:p.1=j
    . rw [jA (p:=p) e,jA e,Option.map_some,aF (fun z=>h (e.trans z))]
    . rw [iZ (p:=p) e,iZ e,ih]
theorem aUq (k j:κ) (y:V): ∀kvs:List (κ×V),dO kvs k=none->dO (kvs++[(k,y)]) j=if j=k then some y else dO kvs j
 |[],_=>by
  by_cases e:k=j
  . rw [aD e.symm];exact jA (p:=(k,y)) e
  . rw [aF (fun z=>e z.symm)];exact iZ (p:=(k,y)) e
 |p::r,hn=>by
  rw [List.cons_append]
  have hk: ¬p.1=k:=fun z=>by rw [jA z] at hn;cases hn
  rw [iZ hk] at hn
  have ih:=aUq k j y r hn
  by_cases e:p.1=j
  . rw [jA e,jA e,aF (fun z=>hk (e.trans z))]
  . rw [iZ e,iZ e,ih]
theorem bBj (kvs:List (κ×V)) (k j:κ) (y:V):dO (putK kvs k y) j=if j=k then some y else dO kvs j:=by
 unfold putK
 by_cases a:(kvs.any fun kv=>decide (kv.1=k))=true
 . rw [aD a,bBi]
   rw [qQ] at a
   by_cases e:j=k
   . obtain⟨x,hx⟩:=Option.isSome_iff_exists.mp a
     rw [aD e,e,hx,Option.map_some,aD rfl]
   . rw [aF e]
     cases dO kvs j with
     |none=>rfl
     |some x=>rw [Option.map_some,aF e]
 . rw [aF a]
   refine aUq k j y kvs ?_
   rw [qQ] at a
   cases q:dO kvs k with
   |none=>rfl
   |some x=>rw [q] at a;exact(a rfl).elim
theorem aKb (kvs:List (κ×V)) (k:κ) (v:V):(putK kvs k v).length<=kvs.length+1:=by
 unfold putK
 split
 . rw [aG];omega
 . rw [List.length_append,List.length_cons,List.length_nil];omega
theorem sO.mJ {o:Option V} {u:Option Value} (r:sO o u):o.isSome=u.isSome:=by
 cases o with
 |none=>cases u with
  |none=>rfl
  |some _=>exact(show False from r).elim
 |some _=>cases u with
  |none=>exact(show False from r).elim
  |some _=>rfl
theorem sO.getD {o:Option V} {u:Option Value} {d:V} {d':Value} (r:sO o u) (rd:RelV d d'):RelV (o.getD d) (u.getD d'):=by
 cases o with
 |none=>cases u with
  |none=>exact rd
  |some _=>exact(show False from r).elim
 |some _=>cases u with
  |none=>exact(show False from r).elim
  |some _=>exact r
theorem KV.val {kvs:List (κ×V)} {vs:List (κ×Value)} (r:KV kvs vs) (k:κ):sO (dO kvs k) (valueAt vs k):=by
 unfold KV at r
 induction r with
 |nil=>exact True.intro
 | @cons p q ps qs h t ih=>
  obtain⟨h1,h2⟩:=h
  by_cases e:p.1=k
  . have e':q.1=k:=h1.symm.trans e
    have b:valueAt (q::qs) k=some q.2:=by simp [valueAt,List.find?_cons,e']
    rw [jA e,b];exact h2
  . have e': ¬q.1=k:=fun z=>e (h1.trans z)
    have b:valueAt (q::qs) k=valueAt qs k:=by simp [valueAt,List.find?_cons,e']
    rw [iZ e,b];exact ih
theorem KV.any {kvs:List (κ×V)} {vs:List (κ×Value)} (r:KV kvs vs) (k:κ):(kvs.any fun kv=>decide (kv.1=k))=vs.any fun kv=>decide (kv.1=k):=by
 unfold KV at r
 induction r with
 |nil=>rfl
 |cons h t ih=>rw [List.any_cons,List.any_cons,ih,h.1]
theorem KV.repl {kvs:List (κ×V)} {vs:List (κ×Value)} (r:KV kvs vs) (k:κ) {y:V} {u:Value} (ry:RelV y u):
 KV (kvs.map fun kv=>if kv.1=k then(kv.1,y) else kv) (vs.map fun kv=>if kv.1=k then(kv.1,u) else kv):=by
 unfold KV at r ⊢
 induction r with
 |nil=>exact .nil
 | @cons p q ps qs h t ih=>
  rw [List.map_cons,List.map_cons]
  refine .cons ?_ ih
  obtain⟨h1,h2⟩:=h
  by_cases e:p.1=k
  . rw [aD e,aD (h1.symm.trans e)];exact⟨h1,ry⟩
  . rw [aF e,aF (fun z=>e (h1.trans z))];exact⟨h1,h2⟩
theorem KV.put {kvs:List (κ×V)} {vs:List (κ×Value)} (r:KV kvs vs) (k:κ) {y:V} {u:Value} (ry:RelV y u):KV (putK kvs k y) (stored vs k u):=by
 unfold putK stored
 rw [r.any k]
 by_cases e:(vs.any fun kv=>decide (kv.1=k))=true
 . rw [aD e,aD e];exact r.repl k ry
 . rw [aF e,aF e];exact Paired.snoc r ⟨rfl,ry⟩
theorem KV.drop {kvs:List (κ×V)} {vs:List (κ×Value)} (r:KV kvs vs) (k:κ):KV (lX kvs k) (without vs k):=by
 unfold KV at r ⊢
 unfold lX without
 induction r with
 |nil=>exact .nil
 | @cons p q ps qs h t ih=>
  obtain⟨h1,h2⟩:=h
  rw [List.filter_cons,List.filter_cons]
  by_cases e:p.1=k
  . have a: ¬decide (p.1≠k)=true:=by simp [e]
    have b: ¬decide (q.1≠k)=true:=by simp [h1.symm.trans e]
    rw [aF a,aF b];exact ih
  . have e': ¬q.1=k:=fun z=>e (h1.trans z)
    have a:decide (p.1≠k)=true:=by simp [e]
    have b:decide (q.1≠k)=true:=by simp [e']
    rw [aD a,aD b];exact .cons ⟨h1,h2⟩ ih
theorem KV.length {kvs:List (κ×V)} {vs:List (κ×Value)} (r:KV kvs vs):kvs.length=vs.length:=Paired.length r
theorem aZe (kvs:List (κ×V)) (k:κ):(lX kvs k).length<=kvs.length:=List.length_filter_le _ _
end
theorem aBf {P:Program} {w:World} {k:Key} {u:Value} (r:RelV (kV k) u):(eQ P w).is k u=true:=by
 cases k with
 |inl i=>obtain⟨t,e⟩:=(show∃t,u=Value.int i t from r);subst e;exact aZt P w i t
 |inr x=>obtain⟨t,e⟩:=(show∃t,u=Value.str x t from r);subst e;exact aZu P w x t
theorem aTn {P:Program} {w:World}: ∀{ks:List Key} {us:List Value},Vals (ks.map kV) us->ItemsAre (eQ P w) ks us
 |[],_,r=>by rw [List.map_nil] at r;cases r;exact .nil
 |k::ks,_,r=>by
  rw [List.map_cons] at r
  cases r with
  |cons h t=>exact .cons (aBf h) (aTn t)
abbrev KT (H:Hp):List (List Key×V)->List (List Key×Addr×Value)->Prop:=Paired fun p q=>p.1=q.1/\H q.2.1=some (.tup (p.1.map kV))/\RelV p.2 q.2.2
theorem KT.val {H:Hp} {kvs:List (List Key×V)} {xs:List (List Key×Addr×Value)} (r:KT H kvs xs) (k:List Key):sO (dO kvs k) ((atKey xs k).map (·.2)):=by
 induction r with
 |nil=>exact True.intro
 | @cons p q ps qs h t ih=>
  obtain⟨h1,_,h2⟩:=h
  by_cases e:p.1=k
  . have e':q.1=k:=h1.symm.trans e
    have b:atKey (q::qs) k=some q.2:=by simp [atKey,List.find?_cons,e']
    rw [jA e,b];exact h2
  . have e': ¬q.1=k:=fun z=>e (h1.trans z)
    have b:atKey (q::qs) k=atKey qs k:=by simp [atKey,List.find?_cons,e']
    rw [iZ e,b];exact ih
theorem KT.repl {H:Hp} {kvs:List (List Key×V)} {xs:List (List Key×Addr×Value)} (r:KT H kvs xs) (k:List Key) {y:V} {u:Value} (ry:RelV y u):
 KT H (kvs.map fun kv=>if kv.1=k then(kv.1,y) else kv) (xs.map (putAt k u)):=by
 induction r with
 |nil=>exact .nil
 | @cons p q ps qs h t ih=>
  rw [List.map_cons,List.map_cons]
  refine .cons ?_ ih
  obtain⟨h1,h2,h3⟩:=h
  unfold putAt
  by_cases e:p.1=k
  . rw [aD e,aD (h1.symm.trans e)];exact⟨h1,h2,ry⟩
  . rw [aF e,aF (fun z=>e (h1.trans z))];exact⟨h1,h2,h3⟩
theorem KT.put {H:Hp} {kvs:List (List Key×V)} {xs:List (List Key×Addr×Value)} (r:KT H kvs xs) (k:List Key) {b:Addr} {y:V} {u:Value} (hb:H b=some (.tup (k.map kV))) (ry:RelV y u):
 KT H (putK kvs k y) (storedH xs k b u):=by
 have e:(kvs.any fun kv=>decide (kv.1=k))=(atKey xs k).isSome:=by
  rw [qQ,(r.val k).mJ,Option.isSome_map]
 unfold putK storedH
 rw [e]
 by_cases q:(atKey xs k).isSome=true
 . rw [aD q,aD q];exact r.repl k ry
 . rw [aF q,aF q];exact Paired.snoc r ⟨rfl,hb,ry⟩
theorem KT.keeps {H H':Hp} {kvs:List (List Key×V)} {xs:List (List Key×Addr×Value)} (r:KT H kvs xs) (ht: ∀b ys,H b=some (.tup ys)->H' b=some (.tup ys)):KT H' kvs xs:=
 Paired.bOu r fun _ _ z=>⟨z.1,ht _ _ z.2.1,z.2.2⟩
section
variable {P:Program} {w:World} {H:Hp} {h:Heap} {a:Addr}
theorem bNg {u:HO} (ok:HOk P w H h) (e:Rd H a u):gK P w H h a u:=e.ok ok
theorem aEi {kvs:List (Key×V)} (ok:HOk P w H h) (e:Rd H a (.dK kvs)):kvs.length<=sizeLine/\(a==sysModules)=false/\ ∃vs,KV kvs vs/\h.DictOf (eQ P w) a vs:=
 show gK P w H h a (.dK kvs) from bNg ok e
theorem bHy {kvs:List (Key×V)} (ok:HOk P w H h) (e:H a=some (.dK kvs)):kvs.length<=sizeLine/\(a==sysModules)=false/\ ∃vs,KV kvs vs/\h.DictOf (eQ P w) a vs:=aEi ok (.inl e)
theorem aHy {ks:List Key} (ok:HOk P w H h) (e:H a=some (.tup (ks.map kV))):(tupleKind (eQ P w)).is h ks a:=by
 obtain⟨_,its,r,o,h1,h2,n,h3⟩:=(show gK P w H h a (.tup (ks.map kV)) from ok a _ e)
 exact⟨o,its.toArray,n,h1,h2,h3,by simpa using aTn r⟩
theorem aOi {kvs:List (List Key×V)} (ok:HOk P w H h) (e:Rd H a (.dT kvs)):kvs.length<=sizeLine/\(a==sysModules)=false/\
 ∃xs,KT H kvs xs/\h.DictOfH (tupleKind (eQ P w)) a xs:=by
 obtain⟨z,y,xs,r,o,es,ep,h1,h2,h3,h4,h5⟩:=(show gK P w H h a (.dT kvs) from bNg ok e)
 refine⟨z,y,xs,r,o,es,ep,h1,h2,h3,h4,fun x hx=> ?_,h5⟩
 have all: ∀{l:List (List Key×V)} {m:List (List Key×Addr×Value)},KT H l m-> ∀x∈m,(tupleKind (eQ P w)).is h x.1 x.2.1:=by
  intro l m q
  induction q with
  |nil=>intro x hx;exact nomatch hx
  | @cons p q ps qs hq t ih=>
   intro x hx
   rcases List.mem_cons.mp hx with e|hx
   . subst e
     exact aHy ok (by rw [<-hq.1];exact hq.2.1)
   . exact ih x hx
 exact all r x hx
theorem bQg {kvs:List (List Key×V)} (ok:HOk P w H h) (e:H a=some (.dT kvs)):kvs.length<=sizeLine/\(a==sysModules)=false/\
 ∃xs,KT H kvs xs/\h.DictOfH (tupleKind (eQ P w)) a xs:=aOi ok (.inl e)
end
def wN (H:Hp) (a:Addr) (y:V) (r:Option V):Prop:=
 (∃kvs k,Rd H a (.dK kvs)/\y=kV k/\r=dO kvs k)\/ ∃kvs k b,Rd H a (.dT kvs)/\y= .ref b/\H b=some (.tup (k.map kV))/\r=dO kvs k
def aUt (H:Hp) (a:Addr) (y v:V) (H':Hp):Prop:=
 (∃kvs k,H a=some (.dK kvs)/\y=kV k/\kvs.length<sizeLine/\H'=upd H a (.dK (putK kvs k v)))\/
 ∃kvs k b,H a=some (.dT kvs)/\y= .ref b/\H b=some (.tup (k.map kV))/\kvs.length<sizeLine/\H'=upd H a (.dT (putK kvs k v))
theorem wN.k {H:Hp} {a:Addr} {kvs:List (Key×V)} {k:Key} (e:H a=some (.dK kvs)):wN H a (kV k) (dO kvs k):= .inl ⟨kvs,k,.inl e,rfl,rfl⟩
theorem aUt.k {H:Hp} {a:Addr} {kvs:List (Key×V)} {k:Key} {v:V} (e:H a=some (.dK kvs)) (hl:kvs.length<sizeLine):aUt H a (kV k) v (upd H a (.dK (putK kvs k v))):= .inl ⟨kvs,k,e,rfl,hl,rfl⟩
section
variable {X:Cx} {pins:List (Addr×Obj)} {σ:St} {H:Hp} {s:Shared} {a:Addr} {y v:V} {u r:Value} {o:Option V} {A:Around} {E:Value->Shared->Prop}
theorem Inv.big (I:Inv X pins σ H s):sysModules<s.heap.objs.size:=by
 have h:mainGlobals<s.heap.objs.size:=(I.mod.glob.keeps I.bk).lt
 exact Nat.lt_trans (by decide) h
theorem bFs {Q:Value->Shared->Prop} (hu:A.units+1<cLine) (I:Inv X pins σ H s) (g:wN H a y (some v)) (ry:RelV y u) (h: ∀w' s',Inv X pins σ H s'->RelV v w'->Q w' s'):
 wpAny (model X.prog X.w) A (getItem (.ref a) u) Q E s:=by
 rcases g with⟨kvs,k,e,ey,l⟩|⟨kvs,k,b,e,ey,eb,l⟩
 . subst ey
   obtain⟨z,hd,vs,rel,dd⟩:=aEi I.hok e
   obtain⟨w',hw,rw'⟩:=sO.some_of (v:=v) (o:=valueAt vs k) (by rw [l];exact rel.val k)
   exact wpAny_getItem_of (aBf ry) dd.mapOf hw (h w' _ (I.tok _) rw')
 . subst ey
   cases (show u=Value.ref b from ry)
   obtain⟨z,hd,xs,rel,dd⟩:=aOi I.hok e
   obtain⟨w',hw,rw'⟩:=sO.some_of (v:=v) (o:=(atKey xs k).map (·.2)) (by rw [l];exact rel.val k)
   obtain⟨p,hp,hp2⟩:=Option.map_eq_some_iff.mp hw
   refine wpAny_getItem_heap (tupleKind_room_in1 hu) (aHy I.hok eb) dd hp ?_
   rw [hp2]
   exact h w' _ (I.tok _) rw'
theorem bSg {Q:Value->Shared->Prop} (hu:A.units+1<cLine) (I:Inv X pins σ H s) (g:wN H a y o) (ry:RelV y u) (h: ∀s',Inv X pins σ H s'->Q (.bool o.isSome) s'):
 wpAny (model X.prog X.w) A (compareOp .In u (.ref a)) Q E s:=by
 rcases g with⟨kvs,k,e,ey,l⟩|⟨kvs,k,b,e,ey,eb,l⟩
 . subst ey
   obtain⟨z,hd,vs,rel,dd⟩:=aEi I.hok e
   refine wpAny_in_of (aBf ry) hd dd.mapOf ?_
   rw [<-(rel.val k).mJ,<-l]
   exact h _ (I.tok _)
 . subst ey
   cases (show u=Value.ref b from ry)
   obtain⟨z,hd,xs,rel,dd⟩:=aOi I.hok e
   refine wpAny_in_heap (tupleKind_room_in1 hu) (aHy I.hok eb) hd dd ?_
   have q:=(rel.val k).mJ
   rw [Option.isSome_map] at q
   rw [<-q,<-l]
   exact h _ (I.tok _)
theorem bLb {Q:Value->Shared->Prop} (hu:A.units+1<cLine) (I:Inv X pins σ H s) (g:wN H a y o) (ry:RelV y u) (h: ∀s',Inv X pins σ H s'->Q (.bool (!o.isSome)) s'):
 wpAny (model X.prog X.w) A (compareOp .NotIn u (.ref a)) Q E s:=by
 rcases g with⟨kvs,k,e,ey,l⟩|⟨kvs,k,b,e,ey,eb,l⟩
 . subst ey
   obtain⟨z,hd,vs,rel,dd⟩:=aEi I.hok e
   refine wpAny_notIn_of (aBf ry) hd dd.mapOf ?_
   rw [<-(rel.val k).mJ,<-l]
   exact h _ (I.tok _)
 . subst ey
   cases (show u=Value.ref b from ry)
   obtain⟨z,hd,xs,rel,dd⟩:=aOi I.hok e
   refine wpAny_notIn_heap (tupleKind_room_in1 hu) (aHy I.hok eb) hd dd ?_
   have q:=(rel.val k).mJ
   rw [Option.isSome_map] at q
   rw [<-q,<-l]
   exact h _ (I.tok _)
theorem aNa {h':Heap} {t':Nat} {ob:HO} (I:Inv X pins σ H s) (mu:Mut (H a)) (hs:Heap.SameBut a s.heap h') (he: ∃q,h'.get? a=some q) (new:gK X.prog X.w (upd H a ob) h' a ob):
 Inv X pins σ (upd H a ob) {s with heap:=h',toks:=t'}:=
 I.write (x:=a) (e:=a) mu (.inl rfl) (fun b q hb z=>(hs.2 b hb).trans z) he new
theorem bCf {P:Program} {w:World} {H':Hp} {h':Heap} {kvs:List (Key×V)} {vs:List (Key×Value)} (z:kvs.length<=sizeLine) (hd:(a==sysModules)=false) (rel:KV kvs vs) (dd:h'.DictOf (eQ P w) a vs):
 gK P w H' h' a (.dK kvs):=⟨z,hd,vs,rel,dd⟩
theorem bFv {H':Hp} {Q:Unit->Shared->Prop} (hu:A.units+1<cLine) (I:Inv X pins σ H s) (g:aUt H a y v H') (ry:RelV y u) (rv:RelV v r) (h: ∀s',Inv X pins σ H' s'->Q () s'):
 wpAny (model X.prog X.w) A (setItem (.ref a) u r) Q E s:=by
 rcases g with⟨kvs,k,e,ey,l,eH⟩|⟨kvs,k,b,e,ey,eb,l,eH⟩
 . subst ey eH
   obtain⟨z,hd,vs,rel,dd⟩:=bHy I.hok e
   have hz:vs.length<=sizeLine:=by rw [<-rel.length];exact z
   have hl:(putK kvs k v).length<=sizeLine:=by have:=aKb kvs k v;omega
   refine wpAny_setItem_pairs (hsz:=hz) (aBf ry) dd fun h' dd' hs=>h _ ?_
   have he: ∃q,h'.get? a=some q:=let⟨q,_,_,hq,_⟩:=dd';⟨q,hq⟩
   exact aNa I (by rw [e];exact True.intro) hs he (bCf hl hd (rel.put k rv) dd')
 . subst ey eH
   cases (show u=Value.ref b from ry)
   obtain⟨z,hd,xs,rel,dd⟩:=bQg I.hok e
   have hz:xs.length<=sizeLine:=by rw [<-Paired.length rel];exact z
   have hl:(putK kvs k v).length<=sizeLine:=by have:=aKb kvs k v;omega
   refine wpAny_setItem_heap (hsz:=hz) (tupleKind_room_in1 hu) (aHy I.hok eb) dd fun h' dd' hs=>h _ ?_
   obtain⟨q,es,ep,hq,h2,h3,h4,_,h5⟩:=dd'
   refine aNa I (by rw [e];exact True.intro) hs ⟨q,hq⟩ ⟨hl,hd,_,(rel.put k eb rv).keeps fun c ys ec=> ?_,q,es,ep,hq,h2,h3,h4,h5⟩
   rw [aR (qY ec e (fun z=>nomatch z))]
   exact ec
end
section
variable {X:Cx} {pins:List (Addr×Obj)} {σ:St} {H:Hp} {s:Shared} {a:Addr} {kvs:List (Key×V)} {k:Key} {u:Value} {A:Around} {E:Value->Shared->Prop}
theorem bPw {Q:Unit->Shared->Prop} (I:Inv X pins σ H s) (e:H a=some (.dK kvs)) (ry:RelV (kV k) u) (l:(dO kvs k).isSome=true) (h: ∀s',Inv X pins σ (upd H a (.dK (lX kvs k))) s'->Q () s'):
 wpAny (model X.prog X.w) A (delItem (.ref a) u) Q E s:=by
 obtain⟨z,hd,vs,rel,dd⟩:=bHy I.hok e
 refine wpAny_delItem_slot dd.typeIs (by decide) PySem.F.slot_dict_delitem
  (call_meetsIn PySem.F.slot_dict_delitem dd.typeIs PySem.F.entry_dict_delitem (PySem.F.args_dict_delitem_2 _ _) (meets_dict_delitem_pairs (eQ X.prog X.w) a (aBf ry)) ⟨vs,dd,by rw [<-rel.length];exact z,by rw [<-(rel.val k).mJ];exact l,fun h' dd' hs=>h _ ?_⟩)
 have he: ∃q,h'.get? a=some q:=let⟨q,_,_,hq,_⟩:=dd';⟨q,hq⟩
 exact aNa I (by rw [e];exact True.intro) hs he (bCf (Nat.le_trans (aZe kvs k) z) hd (rel.drop k) dd')
theorem bQe {v:V} {more:List Value} {Q:Value->Shared->Prop} (I:Inv X pins σ H s) (e:H a=some (.dK kvs)) (ry:RelV (kV k) u) (l:dO kvs k=some v) (hm:more=[]\/ ∃x,more=[x])
 (h: ∀w' s',Inv X pins σ (upd H a (.dK (lX kvs k))) s'->RelV v w'->Q w' s'):wpAny (model X.prog X.w) A (call (.builtin "dict.pop") (.ref a::u::more)) Q E s:=by
 obtain⟨z,hd,vs,rel,dd⟩:=bHy I.hok e
 obtain⟨w',hw,rw'⟩:=sO.some_of (v:=v) (o:=valueAt vs k) (by rw [<-l];exact rel.val k)
 have hp:(keyPart u).isSome=true:=by
  cases k with
  |inl i=>obtain⟨t,q⟩:=(show∃t,u=Value.int i t from ry);subst q;rfl
  |inr x=>obtain⟨t,q⟩:=(show∃t,u=Value.str x t from ry);subst q;rfl
 have ha:argsOk "dict.pop" ⟨.ref a::u::more,[]⟩:=by
  rcases hm with q|⟨x,q⟩
  . subst q;exact PySem.F.args_dict_pop_2 _ _
  . subst q;exact PySem.F.args_dict_pop_3 _ _ _
 refine call_meetsIn PySem.F.slot_dict_pop dd.typeIs PySem.F.entry_dict_pop ha (meets_dict_pop_there (eQ X.prog X.w) a (aBf ry) more hm hp)
  ⟨vs,w',dd,by rw [<-rel.length];exact z,hw,fun h' dd' hs=>h w' _ ?_ rw'⟩
 have he: ∃q,h'.get? a=some q:=let⟨q,_,_,hq,_⟩:=dd';⟨q,hq⟩
 exact aNa I (by rw [e];exact True.intro) hs he (bCf (Nat.le_trans (aZe kvs k) z) hd (rel.drop k) dd')
theorem bQd {Q:Value->Shared->Prop} (I:Inv X pins σ H s) (e:Rd H a (.dK kvs)) (h: ∀t s',Inv X pins σ H s'->Q (.int kvs.length t) s'):wpAny (model X.prog X.w) A (call (.builtin "len") [.ref a]) Q E s:=by
 obtain⟨z,hd,vs,rel,dd⟩:=aEi I.hok e
 refine call_len_dict hd dd (by rw [<-rel.length];rw [sizeLine_eq] at z;omega) ?_
 rw [<-rel.length]
 exact h _ _ (I.tok _)
end
def bNt (i:Expr):Prop:= ∀ov iv,subscripted i false ov iv=operate [ov,iv] (getItem ov iv)
theorem bFi {prog:Program} {w:World} {A:Around} {E:Value->Shared->Prop} {s:Shared} {env:Env} {value slice:Expr} {pos:Pos} {T id:String} {Q:Value->Shared->Prop}
 (hl:typeLookup (.type T) "__getitem__"=pure (some (.builtin id))) (hs:bNt slice)
 (h:wpAny (model prog w) A (eval value env) (fun o s₁=>wpAny (model prog w) A (eval slice env) (fun i s₂=>s₂.TypeIs o T/\wpAny (model prog w) A (getItem o i) Q E s₂) E s₁) E s):
 wpAny (model prog w) A (eval (.Subscript value slice pos) env) Q E s:=by
 refine Subscript_ (wpAny_mono h (fun o s₁ h₁=>wpAny_mono h₁ (fun i s₂ h₂=> ?_) fun _ _ x=>x) fun _ _ x=>x)
 obtain⟨hT,h₂⟩:=h₂
 unfold subscriptTail
 refine wpAny_bind ?_
 rw [getitemInPython_of_ne hT.not_modules]
 refine wpAny_bind (wpAny_specialOf hT hl ?_)
 have fin:wpAny (model prog w) A (subscripted slice false o i) (fun r s₃=>wpAny (model prog w) A (letTemporaryGo value o r >>= fun _=>pure r) Q E s₃) E s₂:=by
  rw [hs o i]
  exact wpAny_operating (wpAny_mono h₂ (fun r s₃ h₃=>wpAny_bind (wpAny_letTemporaryGo (wpAny_pure h₃))) fun _ _ x=>x)
 first
  |exact wpAny_pure (wpAny_bind fin)
  |exact wpAny_bind (wpAny_pure (wpAny_bind fin))
  |exact wpAny_bind fin
theorem aZd {X:Cx} {pins:List (Addr×Obj)} {σ:St} {H:Hp} {s:Shared} {a:Addr} {y:V} {o:Option V} (I:Inv X pins σ H s) (g:wN H a y o):s.TypeIs (.ref a) "dict":=by
 rcases g with⟨kvs,k,e,_,_⟩|⟨kvs,k,b,e,_,_,_⟩
 . obtain⟨_,_,vs,_,dd⟩:=aEi I.hok e
   exact dd.typeIs
 . obtain⟨_,_,xs,_,dd⟩:=aOi I.hok e
   exact dd.typeIs
def bRr (td ty:TE):TE:=fun σ H Q=>td σ H fun x H1=>ty σ H1 fun y H2=> ∃a v,x= .ref a/\wN H2 a y (some v)/\Q v H2
def bSz (ty td:TE):TE:=fun σ H Q=>ty σ H fun y H1=>td σ H1 fun x H2=> ∃a o,x= .ref a/\wN H2 a y o/\Q (.bl o.isSome) H2
def bMt (ty td:TE):TE:=fun σ H Q=>ty σ H fun y H1=>td σ H1 fun x H2=> ∃a o,x= .ref a/\wN H2 a y o/\Q (.bl (!o.isSome)) H2
def bRm (td ty tv:TE):TS:=fun D σ H=>tv σ H fun v H1=>td σ H1 fun x H2=>ty σ H2 fun y H3=> ∃a H4,x= .ref a/\aUt H3 a y v H4/\D.nx σ H4
section
variable {X:Cx} {o i e value:Expr} {pos pos' tpos:Pos} {td ty tv:TE}
theorem cY (hu:X.A.units+1<cLine) (ho:PE X o td) (hi:PE X i ty) (hs:bNt i):PE X (.Subscript o i pos) (bRr td ty):=by
 intro pins s σ H Q I h
 refine bFi PySem.F.slot_dict_getitem.lookup hs (thn (ho pins s σ H _ I h) fun u s1 ⟨x,H1,I1,rx,q1⟩=>thn (hi pins s1 σ H1 _ I1 q1) fun iv s2 ⟨y,H2,I2,ry,a,v,ex,g,q2⟩=> ?_)
 subst ex
 obtain rfl:u=Value.ref a:=rx
 exact⟨aZd I2 g,bFs hu I2 g ry fun w' s3 I3 rw'=>⟨v,H2,I3,rw',q2⟩⟩
theorem bJd (hu:X.A.units+1<cLine) (hi:PE X i ty) (ho:PE X o td):PC X .In i o (bSz ty td):=by
 intro pins s σ H Q I h
 refine thn (hi pins s σ H _ I h) fun iv s1 ⟨y,H1,I1,ry,q1⟩=>thn (ho pins s1 σ H1 _ I1 q1) fun u s2 ⟨x,H2,I2,rx,a,ov,ex,g,q2⟩=> ?_
 subst ex
 obtain rfl:u=Value.ref a:=rx
 exact bSg hu I2 g ry fun s3 I3=>⟨.bl ov.isSome,H2,I3,rfl,q2⟩
theorem aIu (hu:X.A.units+1<cLine) (hi:PE X i ty) (ho:PE X o td):PC X .NotIn i o (bMt ty td):=by
 intro pins s σ H Q I h
 refine thn (hi pins s σ H _ I h) fun iv s1 ⟨y,H1,I1,ry,q1⟩=>thn (ho pins s1 σ H1 _ I1 q1) fun u s2 ⟨x,H2,I2,rx,a,ov,ex,g,q2⟩=> ?_
 subst ex
 obtain rfl:u=Value.ref a:=rx
 exact bLb hu I2 g ry fun s3 I3=>⟨.bl (!ov.isSome),H2,I3,rfl,q2⟩
theorem aNf (hu:X.A.units+1<cLine) (ho:PE X o td) (hi:PE X i ty) (hv:PE X value tv) (hs:swapsWith value (some (.Subscript o i pos')) pos.line X.env=pure false):
 PS X (.Assign [.Subscript o i pos'] value pos) (bRm td ty tv):=by
 intro pins s σ H D I h
 refine wpAny_Assign_Subscript (thn (hv pins s σ H _ I h) fun r s1 ⟨v,H1,I1,rv,q1⟩=>thn (ho pins s1 σ H1 _ I1 q1) fun u s2 ⟨x,H2,I2,rx,q2⟩=>thn (hi pins s2 σ H2 _ I2 q2) fun iv s3 ⟨y,H3,I3,ry,a,H4,ex,g,q3⟩=> ?_) hs
 subst ex
 obtain rfl:u=Value.ref a:=rx
 exact bFv hu I3 g ry rv fun s4 I4=>⟨σ,H4,I4,q3⟩
end
theorem bHx {P:Program} {w:World} {H:Hp} (h:Heap) (hb:sysModules<h.objs.size):gK P w H (h.push {cls:= .type "dict",data:= .dict #[]}) h.objs.size (.dK []):=
 ⟨Nat.zero_le _,beq_eq_false_iff_ne.mpr (Ne.symm (Nat.ne_of_lt hb)),[],.nil,Heap.DictOf.new h⟩
def bPo:TE:=fun _ H Q=> ∀p,H p=none->Q (.ref p) (upd H p (.dK []))
section
variable {X:Cx} {pos:Pos}
theorem bAf:PE X (.Dict [] [] pos) bPo:=fun pins s σ H Q I h=>
 wpAny_Dict_empty ⟨.ref s.heap.objs.size,_,I.laid (a:=s.heap.objs.size) (o:= .dK []) (t':=s.toks) (fun _ _ q=>Heap.get?_push_of_some _ q) (Nat.le_refl _) (bHx s.heap I.big),rfl,h _ (I.hok.fresh (Nat.le_refl _))⟩
end
structure M1 (X:Cx) (o:Expr) (m:Str) (apos:Pos) (e:Expr) (cpos:Pos):Prop where
 base:attributeBase o m X.env (eval o X.env)=eval o X.env
 few:((backTo cpos (starEach [e] X.env)).all (fun x=>!x.1)&&(backToKw cpos (keywordEach [] X.env)).all (fun x=>x.1.isSome)
  &&decide (([e]:List Expr).length+([]:List Keyword).length+(if([]:List Keyword).isEmpty then 0 else 1)<30))=true
 line:(apos.endLine==cpos.line)=true
 trees:backTo cpos (starEach [e] X.env)=[(false,eval e X.env)]
def IsD (H:Hp) (a:Addr):Prop:=(∃kvs,Rd H a (.dK kvs))\/ ∃kvs,Rd H a (.dT kvs)
theorem bIl {X:Cx} {pins:List (Addr×Obj)} {σ:St} {H:Hp} {s:Shared} {a:Addr} (I:Inv X pins σ H s) (d:IsD H a):
 s.TypeIs (.ref a) "dict"/\(∀b,Value.ref a= .ref b-> ∃ob,s.heap.get? b=some ob/\ob.dict=none)/\(a==sysModules)=false:=by
 rcases d with⟨kvs,e⟩|⟨kvs,e⟩
 . obtain⟨_,hd,vs,_,dd⟩:=aEi I.hok e
   refine⟨dd.typeIs,fun b q=> ?_,hd⟩
   cases q
   obtain⟨ob,_,_,h1,h2,_⟩:=dd
   exact⟨ob,h1,h2.2.1⟩
 . obtain⟨_,hd,xs,_,dd⟩:=aOi I.hok e
   refine⟨dd.typeIs,fun b q=> ?_,hd⟩
   cases q
   obtain⟨ob,_,_,h1,h2,_⟩:=dd
   exact⟨ob,h1,h2.2.1⟩
section
variable {X:Cx} {pins:List (Addr×Obj)} {σ:St} {H:Hp} {s:Shared} {a:Addr} {y d:V} {u r:Value} {o:Option V} {A:Around} {E:Value->Shared->Prop}
theorem bOf {Q:Value->Shared->Prop} (hu:A.units+1<cLine) (I:Inv X pins σ H s) (g:wN H a y o) (ry:RelV y u) (h: ∀w' s',Inv X pins σ H s'->RelV (o.getD .non) w'->Q w' s'):
 wpAny (model X.prog X.w) A (call (.builtin "dict.get") [.ref a,u]) Q E s:=by
 rcases g with⟨kvs,k,e,ey,l⟩|⟨kvs,k,b,e,ey,eb,l⟩
 . subst ey
   obtain⟨z,hd,vs,rel,dd⟩:=aEi I.hok e
   refine call_meetsIn PySem.F.slot_dict_get dd.typeIs PySem.F.entry_dict_get (PySem.F.args_dict_get_2 _ _) (meets_dict_get (eQ X.prog X.w) a (aBf ry) hd) ⟨_,dd.mapOf,h _ _ (I.tok _) ?_⟩
   rw [l]
   exact(rel.val k).getD rfl
 . subst ey
   cases (show u=Value.ref b from ry)
   obtain⟨z,hd,xs,rel,dd⟩:=aOi I.hok e
   refine call_meetsIn PySem.F.slot_dict_get dd.typeIs PySem.F.entry_dict_get (PySem.F.args_dict_get_2 _ _) (meetsH_dict_get (tupleKind (eQ X.prog X.w)) a b hd) ⟨tupleKind_room_in1 hu,k,xs,aHy I.hok eb,dd,h _ _ (I.tok _) ?_⟩
   rw [l]
   exact(rel.val k).getD rfl
end
def bPn (td ty:TE):TE:=fun σ H Q=>td σ H fun x H1=> ∃a,x= .ref a/\IsD H1 a/\ty σ H1 fun y H2=> ∃o,wN H2 a y o/\Q (o.getD .non) H2
def bPp (td ty:TE):TE:=fun σ H Q=>td σ H fun x H1=> ∃a,x= .ref a/\IsD H1 a/\ty σ H1 fun y H2=> ∃kvs k v,H2 a=some (.dK kvs)/\y=kV k/\dO kvs k=some v/\Q v (upd H2 a (.dK (lX kvs k)))
section
variable {X:Cx} {o e f:Expr} {apos cpos:Pos} {td ty tx:TE}
theorem bAe (hu:X.A.units+1<cLine) (ho:PE X o td) (he:PE X e ty) (m:M1 X o "get" apos e cpos):PE X (.Call (.Attribute o "get" apos) [e] [] cpos) (bPn td ty):=by
 intro pins s σ H Q I h
 refine wpAny_Call_method m.base m.few m.line PySem.F.plainAttrs_dict PySem.F.slot_dict_get PySem.F.type_dict_get (thn (ho pins s σ H _ I h) fun u s1 ⟨x,H1,I1,rx,a,ex,d,q1⟩=> ?_)
 subst ex
 obtain rfl:u=Value.ref a:=rx
 obtain⟨t1,t2,_⟩:=bIl I1 d
 refine⟨t1,t2,?_⟩
 rw [m.trees]
 refine Calls.callWith_builtin rfl (Calls.evalArgs_plain (Calls.spliced_cons (thn (he pins s1 σ H1 _ I1 q1) fun iv s2 ⟨y,H2,I2,ry,ov,g,q2⟩=>Calls.spliced_nil ?_)))
 exact bOf hu I2 g ry fun w' s3 I3 rw'=>⟨_,H2,I3,rw',q2⟩
theorem bJh (ho:PE X o td) (he:PE X e ty) (m:M1 X o "pop" apos e cpos):PE X (.Call (.Attribute o "pop" apos) [e] [] cpos) (bPp td ty):=by
 intro pins s σ H Q I h
 refine wpAny_Call_method m.base m.few m.line PySem.F.plainAttrs_dict PySem.F.slot_dict_pop PySem.F.type_dict_pop (thn (ho pins s σ H _ I h) fun u s1 ⟨x,H1,I1,rx,a,ex,d,q1⟩=> ?_)
 subst ex
 obtain rfl:u=Value.ref a:=rx
 obtain⟨t1,t2,_⟩:=bIl I1 d
 refine⟨t1,t2,?_⟩
 rw [m.trees]
 refine Calls.callWith_builtin rfl (Calls.evalArgs_plain (Calls.spliced_cons (thn (he pins s1 σ H1 _ I1 q1) fun iv s2 ⟨y,H2,I2,ry,kvs,k,v,ea,ey,l,q2⟩=>Calls.spliced_nil ?_)))
 subst ey
 exact bQe I2 ea ry l (.inl rfl) fun w' s3 I3 rw'=>⟨v,_,I3,rw',q2⟩
end
section
variable {X:Cx} {pins:List (Addr×Obj)} {σ:St} {H:Hp} {s:Shared} {a:Addr} {kvs:List (Key×V)} {A:Around} {E:Value->Shared->Prop}
end
section
variable {X:Cx} {pins:List (Addr×Obj)} {σ:St} {H:Hp} {s:Shared} {a:Addr} {y:V} {u:Value} {A:Around} {E:Value->Shared->Prop}
end
end L2
namespace L2
open PySem PySem.Spec PyProof.Rows
section
variable {prog:Program} {w:World} {A:Around} {E:Value->Shared->Prop}
end
section
variable {X:Cx}
end
end L2
namespace L2
open PySem PySem.Spec PyProof.Rows
theorem xJ:bootBuiltins "reversed"=some (.type "reversed"):=by decide+kernel
section
variable {X:Cx} {pins:List (Addr×Obj)} {σ:St} {H:Hp} {s:Shared} {h':Heap}
theorem Inv.bMz {t':Nat} {ch:List Addr} (I:Inv X pins σ H s) (k: ∀b o,b∉ch->s.heap.get? b=some o->h'.get? b=some o) (hf: ∀b∈ch,aKu X pins H b):Inv X pins σ H {s with heap:=h',toks:=t'}:=by
 have nit: ∀b u,H b=some u->b∉ch:=fun b u e z=>by
  have q:=(hf b z).1
  rw [q] at e;cases e
 refine I.step (g':=s.gens) (d':=s.drawn) (ch:=ch) (fun b hb=>⟨(hf b hb).2.2.2.1,(hf b hb).2.1,(hf b hb).2.2.2.2.1,(hf b hb).2.2.2.2.2⟩) (fun b o _ _ hc e _=>k b o hc e) (fun b o _ _ hc e _=>⟨o.slots,k b o hc e⟩)
  (fun _ _ _ _ n=>n) (fun b o hc e=>⟨o,k b o hc e⟩) (fun _ _ e=>e) (fun _ _ _ e=>e) (fun b ps e=>⟨#[],by rw [e];simp⟩) (fun m hm=> ?_) (fun b u e=> ?_) I.bare
 . obtain⟨o,es,ep,ho,r⟩:=hm
   exact⟨o,es,ep,k _ o (fun z=>(hf _ z).2.1 rfl) ho,r⟩
 . refine(I.hok b u e).stay (fun c v hc q=>k c v ?_ q) (fun _ q=>q) fun _ _ q=>q
   rcases hc with z|z
   . rw [z];exact nit b u e
   . exact nit c _ z
theorem Inv.aUp {t':Nat} {ch:List Addr} {T:Addr} {ob:HO} (I:Inv X pins σ H s) (k: ∀b o,b∉ch->s.heap.get? b=some o->h'.get? b=some o) (hf: ∀b∈ch,aKu X pins H b) (hT:s.heap.objs.size<=T)
 (new:gK X.prog X.w (upd H T ob) h' T ob):Inv X pins σ (upd H T ob) {s with heap:=h',toks:=t'}:=by
 have hn:H T=none:=I.hok.fresh hT
 have nit: ∀b u,H b=some u->b∉ch:=fun b u e z=>by
  have q:=(hf b z).1
  rw [q] at e;cases e
 refine I.step (g':=s.gens) (d':=s.drawn) (ch:=ch) (fun b hb=>⟨(hf b hb).2.2.2.1,(hf b hb).2.1,(hf b hb).2.2.2.2.1,(hf b hb).2.2.2.2.2⟩) (fun b o _ _ hc e _=>k b o hc e) (fun b o _ _ hc e _=>⟨o.slots,k b o hc e⟩)
  (fun b o _ e n=> ?_) (fun b o hc e=>⟨o,k b o hc e⟩) (fun b xs e=> ?_) (fun b o u e=> ?_) (fun b ps e=>⟨#[],?_⟩) (fun m hm=> ?_) (fun b u e=> ?_) I.bare
 . rw [aR (Nat.ne_of_lt (Nat.lt_of_lt_of_le (Heap.lt_size e) hT))];exact n
 . rw [aR (cQ e hn)];exact e
 . rw [aR (cQ e hn)];exact e
 . rw [aR (cQ e hn),e];simp
 . obtain⟨o,es,ep,ho,r⟩:=hm
   exact⟨o,es,ep,k _ o (fun z=>(hf _ z).2.1 rfl) ho,r⟩
 . by_cases hb:b=T
   . subst hb
     rw [aO] at e
     cases e
     exact new
   . rw [aR hb] at e
     refine(I.hok b u e).stay (fun c v hc q=>k c v ?_ q) (fun c q=>by rw [aR (cQ q hn)];exact q) fun c xs q=>by rw [aR (cQ q hn)];exact q
     rcases hc with z|z
     . rw [z];exact nit b u e
     . exact nit c _ z
end
section
variable {X:Cx}
theorem bJk {tg:Expr} {pins:List (Addr×Obj)} {σ:St} {H:Hp} {s:Shared} {R:It->Hp->Prop} {J:It} {tn:Nat->Heap->Prop} {tk:Nat} (I:Inv X pins σ H s) (o:Obj)
 (T:Turn X.prog X.w X.K tg J [s.heap.objs.size] s.heap.objs.size tn) (st:tn 0 (s.heap.push o)) (q:R J H):PIE X pins σ tg R (.ref s.heap.objs.size) {s with heap:=s.heap.push o,toks:=tk}:=by
 refine⟨s.heap.objs.size,[s.heap.objs.size],tn,J,H,rfl,I.kept fun b ob e=>Heap.get?_push_of_some _ e,T,st,fun b hb=> ?_,q⟩
 have e:b=s.heap.objs.size:=by simpa using hb
 subst e
 exact I.bFz (Nat.le_refl _) (I.hok.fresh (Nat.le_refl _))
end
def Itc (lo c:Int) (n:Nat):It:=⟨fun i _=>i<n,fun i H x H'=>H'=H/\x= .int (lo+(i:Nat)*c),fun i _=>n<=i⟩
theorem bBe {P:Program} {w:World} {K:aA} {tg:Expr} (it:Addr) (lo c:Int) (n:Nat):Turn P w K tg (Itc lo c n) [it] it (fun i h=>IsRangeIter h it (lo+(i:Nat)*c) ((n:Int)-(i:Nat)) c) where
 mem:=by simp
 obj:=fun i h st b hb=>by
  have e:b=it:=by simpa using hb
  subst e
  exact⟨_,st,fun v z=>nomatch z⟩
 keep:=fun i h h' st k=>k it (by simp) _ st
 item:=by
  intro X hP hw hK hc i pins s σ H E I hf st hg
  subst hP hw hK
  obtain⟨f0,f1,f2,f3,f4,f5⟩:=hf it (by simp)
  have W:=Walks.range (prog:=X.prog) (w:=X.w) (I.ok.hd hc) it lo c n
  refine W.item i s _ _ hg st fun v h' tk hv st' kk=> ?_
  obtain⟨t,rfl⟩:=hv
  have I1:Inv X pins σ H {s with heap:=h',toks:=tk}:=I.turned (fun b o hb e=>kk b o (by simpa using hb) e) f0 f1 f3 f4 f5
  exact⟨_,rfl,bEm (s:={s with heap:=h',toks:=tk}) (n:="range_iterator") st' rfl rfl (by decide) ⟨.int (lo+(i:Nat)*c),H,I1,⟨t,rfl⟩,⟨rfl,rfl⟩,st',fun b hb=>(hf b hb).1⟩⟩
 done:=by
  intro X hP hw hK hc i pins s σ H E I hf st hg
  subst hP hw hK
  obtain⟨f0,f1,f2,f3,f4,f5⟩:=hf it (by simp)
  exact wpAny_pyNext_range_end (I.ok.hd hc) st (by have:n<=i:=hg;omega) fun h' eb=>⟨rfl,I.turned (t':=s.toks) (fun b o hb e=>eb b o hb e) f0 f1 f3 f4 f5⟩
 self:=fun A i s Q E st h=>wpAny_pyIter_rangeiter st h
def RgC (i j c:Int) (n:Nat):Prop:=c≠0/\c.natAbs<1073741824/\Builtin.Range.small i j c=true/\Builtin.Range.rangeSize i j c=n
def bQr (ta:TA):TI:=fun σ H R=>ta σ H fun vs H1=> ∃(i j c:Int) (n:Nat),vs=[.int i,.int j,.int c]/\RgC i j c n/\R (Itc i c n) H1
section
variable {X:Cx} {tg:Expr}
theorem bGn {a b c:Expr} {ta:TA} {p pos:Pos} (hg:Gl X "range") (hm:X.mg "range"=none) (ha:PA X [a,b,c] ta)
 (hs:starEach [a,b,c] X.env=(false,eval a X.env)::starEach [b,c] X.env:=by rfl) (hpl:(backTo pos (starEach [b,c] X.env)).any (·.1)=false:=by rfl):
 PI X tg (.Call (.Name "range" p) [a,b,c] [] pos) (bQr ta):=by
 intro pins s σ H R I h
 refine Call_ (rR I hg hm boot_range (PyProof.Rows.callWith_type1 (thn (ha pos pins s σ H _ I h) fun us s1 ⟨vs,H1,I1,r1,q1⟩=> ?_) hs hpl))
 obtain⟨i,j,k,n,e,⟨c0,c1,c2,c3⟩,q⟩:=q1
 subst e
 cases r1 with
 |cons r rr=>
  cases rr with
  |cons r' rr=>
   cases rr with
   |cons r'' rr=>
    cases rr
    obtain⟨t,rfl⟩:=r
    obtain⟨t',rfl⟩:=r'
    obtain⟨t'',rfl⟩:=r''
    refine call_range_3 c0 ?_ (.inl (PyProof.noPylong_small c1))
    refine wpAny_pyIter_range (IsRange.new ..) c2 ?_
    have I2:Inv X pins σ H1 {s1 with heap:=s1.heap.push {cls:= .type "range",data:= .fields #[.int i t,.int j t',.int k t'']}}:=I1.kept (t':=s1.toks) fun b o e=>Heap.get?_push_of_some _ e
    refine bJk (tk:=s1.toks) I2 _ (bBe _ i k n) ?_ q
    have e1:i+((0:Nat):Int)*k=i:=by simp
    have e2:(n:Int)-((0:Nat):Int)=Builtin.Range.rangeSize i j k:=by rw [c3];simp
    show IsRangeIter _ _ (i+((0:Nat):Int)*k) ((n:Int)-((0:Nat):Int)) k
    rw [e1,e2]
    exact Heap.get?_push_size _ rfl
end
def Itv (K:aA) (a:Addr) (n:Nat):It:=
 ⟨fun i H=>i<n/\ ∃(xs:List V) (x:V),SqL K H a xs/\xs[n-1-i]? =some x,fun i H x H'=>H'=H/\ ∀xs,SqL K H a xs->xs[n-1-i]? =some x,fun i _=>n<=i⟩
theorem bKq {P:Program} {w:World} {K:aA} {tg:Expr} (a it:Addr) (n:Nat):Turn P w K tg (Itv K a n) [it] it (fun i h=>i<=n/\h.IsRevIter it a ((n:Int)-1-(i:Nat))) where
 mem:=by simp
 obj:=fun i h st b hb=>by
  have e:b=it:=by simpa using hb
  subst e
  obtain⟨_,o,e,c,d⟩:=st
  exact⟨o,e,fun v z=>by rw [d] at z;cases z⟩
 keep:=fun i h h' st k=>⟨st.1,st.2.at fun o e=>k it (by simp) o e⟩
 item:=by
  intro X hP hw hK hc i pins s σ H E I hf st hg
  subst hP hw hK
  obtain⟨hin,xs,x,hq,hx⟩:=hg
  obtain⟨its,rv,p,hz⟩:=I.list hq
  obtain⟨u,hu,ru⟩:=rv.get hx
  obtain⟨f0,f1,f2,f3,f4,f5⟩:=hf it (by simp)
  obtain⟨_,hit⟩:=st
  have e1:(n:Int)-1-((i:Nat):Int)=((n-1-i:Nat):Int):=by omega
  rw [e1] at hit
  refine wpAny_pyNext_rev_item hit p.isList (x:=u) (by simpa using hu) fun h' st' sb=> ?_
  have e2:((n-1-i:Nat):Int)-1=(n:Int)-1-((i+1:Nat):Int):=by omega
  rw [e2] at st'
  have I1:Inv X pins σ H {s with heap:=h'}:=I.turned (t':=s.toks) (fun b o hb e=>(sb.2 b hb).trans e) f0 f1 f3 f4 f5
  obtain⟨o,e,c,d⟩:=id st'
  exact⟨u,rfl,bEm (s:={s with heap:=h'}) e c d (by decide) ⟨x,H,I1,ru,⟨rfl,fun ys hy=>by rw [I.xV hy hq];exact hx⟩,⟨hin,st'⟩,fun b hb=>(hf b hb).1⟩⟩
 done:=by
  intro X hP hw hK hc i pins s σ H E I hf st hg
  subst hP hw hK
  obtain⟨f0,f1,f2,f3,f4,f5⟩:=hf it (by simp)
  obtain⟨hin,hit⟩:=st
  have hge:n<=i:=hg
  have e1:(n:Int)-1-((i:Nat):Int)= -1:=by omega
  rw [e1] at hit
  exact wpAny_pyNext_rev_end (I.ok.hd hc) hit fun h' eb=>⟨rfl,I.turned (t':=s.toks) (fun b o hb e=>eb b o hb e) f0 f1 f3 f4 f5⟩
 self:=fun A i s Q E st h=>wpAny_pyIter_revIter st.2 h
def bSj (K:aA) (ta:TA):TI:=fun σ H R=>ta σ H fun vs H1=> ∃(a:Addr) (xs:List V),vs=[.ref a]/\SqL K H1 a xs/\R (Itv K a xs.length) H1
section
variable {X:Cx} {tg:Expr}
theorem bAh {e:Expr} {ta:TA} {p pos:Pos} (hg:Gl X "reversed") (hm:X.mg "reversed"=none) (ha:PA X [e] ta) (hs:starEach [e] X.env=[(false,eval e X.env)]:=by rfl):PI X tg (.Call (.Name "reversed" p) [e] [] pos) (bSj X.K ta):=by
 intro pins s σ H R I h
 refine Call_ (rR I hg hm xJ (PyProof.Rows.callWith_type1 (thn (ha pos pins s σ H _ I h) fun us s1 ⟨vs,H1,I1,r1,q1⟩=> ?_) hs rfl))
 obtain⟨a,xs,e,hq,q⟩:=q1
 subst e
 cases r1 with
 |cons r rr=>
  cases rr
  cases r
  obtain⟨its,rv,p',hz⟩:=I1.list hq
  have hl:=rv.length
  have e1:((its.toArray.size:Nat):Int)-1=(xs.length:Int)-1-((0:Nat):Int):=by simp only [List.size_toArray];omega
  refine call_reversed_list p'.isList (wpAny_pyIter_revIter (l:=a) (i:=((its.toArray.size:Nat):Int)-1) ⟨_,Heap.get?_push_size _ rfl,rfl,rfl⟩ ?_)
  refine bJk (tk:=s1.toks) I1 _ (bKq a _ xs.length) ⟨Nat.zero_le _,?_⟩ q
  rw [<-e1]
  exact⟨_,Heap.get?_push_size _ rfl,rfl,rfl⟩
end
section
variable {prog:Program} {w:World} {A:Around} {E:Value->Shared->Prop} {s:Shared}
end
theorem bJs {k:Key} {u:Value} (h:aBg k u=true):RelV (kV k) u:=by
 rcases fD h with⟨i,t,rfl,rfl⟩|⟨x,t,rfl,rfl⟩
 . exact⟨t,rfl⟩
 . exact⟨t,rfl⟩
section
variable {X:Cx} {pins:List (Addr×Obj)} {σ:St} {H:Hp} {s:Shared} {d:Addr} {o:Obj}
end
section
variable {P:Program} {w:World} {K:aA} {tg:Expr} {d:Addr} {o:Obj} {es:Array DictEntry} {ep:Nat}
end
section
variable {X:Cx} {tg e:Expr} {td:TE} {apos cpos:Pos}
end
def Ite (K:aA) (a:Addr):It:=
 ⟨fun i H=> ∃(xs:List V) (x:V),SqL K H a xs/\xs[i]? =some x,fun i H v H'=> ∃T x,v= .ref T/\H T=none/\H'=upd H T (.tup [.int (i:Nat),x])/\ ∀xs,SqL K H a xs->xs[i]? =some x,fun i H=> ∃xs:List V,SqL K H a xs/\xs.length<=i⟩
theorem bHg {P:Program} {w:World} {K:aA} {elts:List Expr} {kk:Nat} {tpos:Pos} (a e it:Addr):
 Turn P w K (.Tuple elts kk tpos) (Ite K a) [e,it] e (fun i h=>(∃old,IsEnum h e it ((i:Nat):Int) old)/\h.IsListIter it a i/\e≠it) where
 mem:=by simp
 obj:=fun i h st b hb=>by
  obtain⟨⟨old,he⟩,⟨o,ho,hc,hd⟩,_⟩:=st
  have e':b=e\/b=it:=by simpa using hb
  rcases e' with z|z
  . rw [z];exact⟨_,he,fun v q=>nomatch q⟩
  . rw [z];exact⟨o,ho,fun v q=>by rw [hd] at q;cases q⟩
 keep:=fun i h h' st k=>let⟨⟨old,he⟩,hi,hne⟩:=st;⟨⟨old,k e (by simp) _ he⟩,hi.at fun o q=>k it (by simp) o q,hne⟩
 item:=by
  intro X hP hw hK hc i pins s σ H E I hf st hg
  subst hP hw hK
  obtain⟨⟨old,he⟩,hit,hne⟩:=st
  obtain⟨xs,x,hq,hx⟩:=hg
  obtain⟨its,rv,p,hz⟩:=I.list hq
  obtain⟨u,hu,ru⟩:=rv.get hx
  have hel:e<s.heap.objs.size:=Heap.lt_size he
  have hil:it<s.heap.objs.size:=by obtain⟨_,q,_⟩:=hit;exact Heap.lt_size q
  refine wpAny_pyNext_enum_item he hit p.isList (x:=u) (by simpa using hu) hne fun h' ho hit' hT hsz hk=> ?_
  refine⟨_,rfl,wpAny_letOwnedTupleGo_enum (s:={s with heap:=h',toks:=s.toks+1}) ho fun h'' he' sb=> ?_⟩
  have hT2:h''.get? s.heap.objs.size=some {cls:= .type "tuple",data:= .seq #[.int i s.toks,u]}:=(sb.2 _ (Nat.ne_of_gt hel)).trans hT
  have new:gK X.prog X.w (upd H s.heap.objs.size (.tup [.int (i:Nat),x])) h'' s.heap.objs.size (.tup [.int (i:Nat),x]):=
   ⟨by show 2<=sizeLine;decide,[.int i s.toks,u],.cons ⟨_,rfl⟩ (.cons ru .nil),⟨_,hT2,rfl,_,rfl⟩⟩
  have I1:Inv X pins σ (upd H s.heap.objs.size (.tup [.int (i:Nat),x])) {s with heap:=h'',toks:=s.toks+1}:=
   I.aUp (ch:=[e,it]) (fun b ob hb q=>(sb.2 b (fun z=>hb (by simp [z]))).trans (hk b ob (fun z=>hb (by simp [z])) (fun z=>hb (by simp [z])) q)) hf (Nat.le_refl _) new
  refine⟨.ref s.heap.objs.size,_,I1,rfl,⟨_,x,rfl,I.hok.fresh (Nat.le_refl _),rfl,fun ys hy=>by rw [I.xV hy hq];exact hx⟩,⟨⟨u,?_⟩,hit'.at fun o q=>(sb.2 it (Ne.symm hne)).trans q,hne⟩,fun b hb=> ?_⟩
  . have e1:((i+1:Nat):Int)=(i:Int)+1:=by omega
    rw [e1];exact he'
  . have hb':b<s.heap.objs.size:=by
     have e':b=e\/b=it:=by simpa using hb
     rcases e' with z|z
     . rw [z];exact hel
     . rw [z];exact hil
    rw [aR (Nat.ne_of_lt hb')]
    exact(hf b hb).1
 done:=by
  intro X hP hw hK hc i pins s σ H E I hf st hg
  subst hP hw hK
  obtain⟨⟨old,he⟩,hit,hne⟩:=st
  obtain⟨xs,hq,hx⟩:=hg
  obtain⟨its,rv,p,hz⟩:=I.list hq
  obtain⟨f0,f1,f2,f3,f4,f5⟩:=hf it (by simp)
  have hl:=rv.length
  exact wpAny_pyNext_enum_end (I.ok.hd hc) he hit p.isList (by simp;omega) fun h' eb=>⟨rfl,I.turned (t':=s.toks) (fun b o hb q=>eb b o hb q) f0 f1 f3 f4 f5⟩
 self:=fun A i s Q E st h=>let⟨⟨_,he⟩,_⟩:=st;wpAny_pyIter_enum he h
def bQn (K:aA) (ta:TA):TI:=fun σ H R=>ta σ H fun vs H1=> ∃a xs,vs=[.ref a]/\SqL K H1 a xs/\R (Ite K a) H1
theorem aNe {X:Cx} {e:Expr} {ta:TA} {p pos tpos:Pos} {elts:List Expr} {kk:Nat} (hg:Gl X "enumerate") (hm:X.mg "enumerate"=none) (ha:PA X [e] ta) (hs:starEach [e] X.env=[(false,eval e X.env)]:=by rfl):
 PI X (.Tuple elts kk tpos) (.Call (.Name "enumerate" p) [e] [] pos) (bQn X.K ta):=by
 intro pins s σ H R I h
 refine Call_ (rR I hg hm boot_enumerate (PyProof.Rows.callWith_type1 (thn (ha pos pins s σ H _ I h) fun us s1 ⟨vs,H1,I1,r1,q1⟩=> ?_) hs rfl))
 obtain⟨a,xs,ex,hq,q⟩:=q1
 subst ex
 cases r1 with
 |cons r rr=>
  cases rr
  cases r
  obtain⟨its,rv,p',hz⟩:=I1.list hq
  refine call_enumerate_list p'.isList fun h' he hit hsz hk=>wpAny_pyIter_enum he ?_
  have I2:Inv X pins σ H1 {s1 with heap:=h'}:=I1.kept (t':=s1.toks) hk
  refine⟨s1.heap.objs.size+1,[s1.heap.objs.size+1,s1.heap.objs.size],_,_,H1,rfl,I2,bHg a (s1.heap.objs.size+1) s1.heap.objs.size,⟨⟨.none,he⟩,hit,Nat.succ_ne_self _⟩,fun b hb=> ?_,q⟩
  have e':b=s1.heap.objs.size+1\/b=s1.heap.objs.size:=by simpa using hb
  have hle:s1.heap.objs.size<=b:=by
   rcases e' with z|z
   . rw [z];exact Nat.le_add_right _ _
   . rw [z];exact Nat.le_refl _
  exact I1.bFz hle (I1.hok.fresh hle)
theorem bFp:bootBuiltins "zip"=some (.type "zip"):=by decide+kernel
def Itz (K:aA) (a b:Addr):It:=
 ⟨fun i H=> ∃(xs ys:List V) (x y:V),SqL K H a xs/\SqL K H b ys/\xs[i]? =some x/\ys[i]? =some y,
  fun i H v H'=> ∃T x y,v= .ref T/\H T=none/\H'=upd H T (.tup [x,y])/\(∀xs,SqL K H a xs->xs[i]? =some x)/\ ∀ys,SqL K H b ys->ys[i]? =some y,
  fun i H=> ∃xs ys:List V,SqL K H a xs/\SqL K H b ys/\(xs.length<=i\/ys.length<=i)⟩
theorem bKr {P:Program} {w:World} {K:aA} {elts:List Expr} {kk:Nat} {tpos:Pos} {a b z TI TO i1 i2:Addr} (D:ZipApart z TI TO i1 i2 a b):
 Turn P w K (.Tuple elts kk tpos) (Itz K a b) [z,TI,TO,i1,i2] z (fun i h=>IsZip h z TI TO .none/\IsPair h TI (.ref i1) (.ref i2)/\(∃x y,IsPair h TO x y)/\h.IsListIter i1 a i/\h.IsListIter i2 b i) where
 mem:=by simp
 obj:=fun i h st c hc=>by
  obtain⟨hz,hTI,⟨x,y,hTO⟩,⟨o1,e1,_,d1⟩,⟨o2,e2,_,d2⟩⟩:=st
  have e':c=z\/c=TI\/c=TO\/c=i1\/c=i2:=by simpa using hc
  rcases e' with q|q|q|q|q
  . rw [q];exact⟨_,hz,fun v q=>nomatch q⟩
  . rw [q];exact⟨_,hTI,fun v q=>nomatch q⟩
  . rw [q];exact⟨_,hTO,fun v q=>nomatch q⟩
  . rw [q];exact⟨o1,e1,fun v q=>by rw [d1] at q;cases q⟩
  . rw [q];exact⟨o2,e2,fun v q=>by rw [d2] at q;cases q⟩
 keep:=fun i h h' st k=>by
  obtain⟨hz,hTI,⟨x,y,hTO⟩,h1,h2⟩:=st
  exact⟨k z (by simp) _ hz,k TI (by simp) _ hTI,⟨x,y,k TO (by simp) _ hTO⟩,h1.at fun o q=>k i1 (by simp) o q,h2.at fun o q=>k i2 (by simp) o q⟩
 item:=by
  intro X hP hw hK hc i pins s σ H E I hf st hg
  subst hP hw hK
  obtain⟨hz,hTI,⟨x0,y0,hTO⟩,h1,h2⟩:=st
  obtain⟨xs,ys,x,y,hqx,hqy,hx,hy⟩:=hg
  obtain⟨its,rv,p,_⟩:=I.list hqx
  obtain⟨its2,rv2,p2,_⟩:=I.list hqy
  obtain⟨u,hu,ru⟩:=rv.get hx
  obtain⟨u2,hu2,ru2⟩:=rv2.get hy
  have hzl:z<s.heap.objs.size:=Heap.lt_size hz
  refine wpAny_pyNext_zip_item D hz hTI hTO h1 h2 p.isList p2.isList (x:=u) (y:=u2) (by simpa using hu) (by simpa using hu2) fun h' z' TO' h1' h2' hT hsz hk=> ?_
  refine⟨_,rfl,wpAny_letOwnedTupleGo_zip (s:={s with heap:=h'}) z' fun h'' z'' sb=> ?_⟩
  have hT2:h''.get? s.heap.objs.size=some {cls:= .type "tuple",data:= .seq #[u,u2]}:=(sb.2 _ (Nat.ne_of_gt hzl)).trans hT
  have new:gK X.prog X.w (upd H s.heap.objs.size (.tup [x,y])) h'' s.heap.objs.size (.tup [x,y]):=
   ⟨by show 2<=sizeLine;decide,[u,u2],.cons ru (.cons ru2 .nil),⟨_,hT2,rfl,_,rfl⟩⟩
  have I1:Inv X pins σ (upd H s.heap.objs.size (.tup [x,y])) {s with heap:=h''}:=
   I.aUp (t':=s.toks) (ch:=[z,TI,TO,i1,i2]) (fun c o hb q=>(sb.2 c (fun q'=>hb (by simp [q']))).trans (hk c o (fun q'=>hb (by simp [q'])) (fun q'=>hb (by simp [q'])) (fun q'=>hb (by simp [q'])) (fun q'=>hb (by simp [q'])) q)) hf (Nat.le_refl _) new
  refine⟨.ref s.heap.objs.size,_,I1,rfl,⟨_,x,y,rfl,I.hok.fresh (Nat.le_refl _),rfl,fun l hl=>by rw [I.xV hl hqx];exact hx,fun l hl=>by rw [I.xV hl hqy];exact hy⟩,⟨z'',?_,⟨u,u2,?_⟩,?_,?_⟩,fun c hcm=> ?_⟩
  . exact(sb.2 _ D.TIz).trans (hk _ _ D.TIz D.TITO D.TIi1 D.TIi2 hTI)
  . exact(sb.2 _ D.TOz).trans TO'
  . exact h1'.at fun o q=>(sb.2 _ D.i1z).trans q
  . exact h2'.at fun o q=>(sb.2 _ D.i2z).trans q
  . have hlt:c<s.heap.objs.size:=by
     have e':c=z\/c=TI\/c=TO\/c=i1\/c=i2:=by simpa using hcm
     rcases e' with q|q|q|q|q
     . rw [q];exact hzl
     . rw [q];exact Heap.lt_size hTI
     . rw [q];exact Heap.lt_size hTO
     . rw [q];obtain⟨_,e1,_⟩:=h1;exact Heap.lt_size e1
     . rw [q];obtain⟨_,e2,_⟩:=h2;exact Heap.lt_size e2
    rw [aR (Nat.ne_of_lt hlt)]
    exact(hf c hcm).1
 done:=by
  intro X hP hw hK hc i pins s σ H E I hf st hg
  subst hP hw hK
  obtain⟨hz,hTI,⟨x0,y0,hTO⟩,h1,h2⟩:=st
  obtain⟨xs,ys,hqx,hqy,hend⟩:=hg
  obtain⟨its,rv,p,_⟩:=I.list hqx
  obtain⟨its2,rv2,p2,_⟩:=I.list hqy
  have l1:=rv.length
  have l2:=rv2.length
  have he:its.toArray[i]? =none\/its2.toArray[i]? =none:=by
   rcases hend with q|q
   . exact .inl (by simp;omega)
   . exact .inr (by simp;omega)
  exact wpAny_pyNext_zip_end (I.ok.hd hc) D hz hTI hTO h1 h2 p.isList p2.isList he fun h' hk=>⟨rfl,I.bMz (t':=s.toks) (ch:=[z,TI,TO,i1,i2]) (fun c o hb q=>
   hk c o (fun q'=>hb (by simp [q'])) (fun q'=>hb (by simp [q'])) (fun q'=>hb (by simp [q'])) (fun q'=>hb (by simp [q'])) q) hf⟩
 self:=fun A i s Q E st h=>wpAny_pyIter_zip st.1 h
def bSk (K:aA) (ta:TA):TI:=fun σ H R=>ta σ H fun vs H1=> ∃a b xs ys,vs=[.ref a,.ref b]/\SqL K H1 a xs/\SqL K H1 b ys/\R (Itz K a b) H1
theorem bJl {X:Cx} {e e2:Expr} {ta:TA} {p pos tpos:Pos} {elts:List Expr} {kk:Nat} (hg:Gl X "zip") (hm:X.mg "zip"=none) (ha:PA X [e,e2] ta)
 (hs:starEach [e,e2] X.env=(false,eval e X.env)::starEach [e2] X.env:=by rfl) (hpl:(backTo pos (starEach [e2] X.env)).any (·.1)=false:=by rfl):
 PI X (.Tuple elts kk tpos) (.Call (.Name "zip" p) [e,e2] [] pos) (bSk X.K ta):=by
 intro pins s σ H R I h
 refine Call_ (rR I hg hm bFp (PyProof.Rows.callWith_type1 (thn (ha pos pins s σ H _ I h) fun us s1 ⟨vs,H1,I1,r1,q1⟩=> ?_) hs hpl))
 obtain⟨a,b,xs,ys,ex,hqx,hqy,q⟩:=q1
 subst ex
 cases r1 with
 |cons r rr=>
  cases rr with
  |cons r' rr=>
   cases rr
   cases r
   cases r'
   obtain⟨its,rv,p1,_⟩:=I1.list hqx
   obtain⟨its2,rv2,p2,_⟩:=I1.list hqy
   have la:a<s1.heap.objs.size:=p1.lt
   have lb:b<s1.heap.objs.size:=p2.lt
   refine call_zip_2 p1.isList p2.isList fun h' hz hTI hTO h1 h2 hsz hk=>wpAny_pyIter_zip hz ?_
   have I2:Inv X pins σ H1 {s1 with heap:=h'}:=I1.kept (t':=s1.toks) hk
   refine⟨s1.heap.objs.size+4,[s1.heap.objs.size+4,s1.heap.objs.size+2,s1.heap.objs.size+3,s1.heap.objs.size,s1.heap.objs.size+1],_,_,H1,rfl,I2,bKr (PySem.W.ktu_apart s1.heap.objs.size a b la lb),⟨hz,hTI,⟨_,_,hTO⟩,h1,h2⟩,fun c hcm=> ?_,q⟩
   have e':c=s1.heap.objs.size+4\/c=s1.heap.objs.size+2\/c=s1.heap.objs.size+3\/c=s1.heap.objs.size\/c=s1.heap.objs.size+1:=by simpa using hcm
   have hle:s1.heap.objs.size<=c:=by
    rcases e' with z|z|z|z|z
    . rw [z];exact Nat.le_add_right _ _
    . rw [z];exact Nat.le_add_right _ _
    . rw [z];exact Nat.le_add_right _ _
    . rw [z];exact Nat.le_refl _
    . rw [z];exact Nat.le_add_right _ _
   exact I1.bFz hle (I1.hok.fresh hle)
end L2
section
namespace Bits
open PySem PyProof.Rows
theorem aLb (m:Nat): ∀n:Nat,(m^^^n)+2*(m &&& n)=m+n:=by
 induction m using Nat.strongRecOn with
 |_ m ih=>
  intro n
  by_cases h0:m=0
  . subst h0
    simp
  . have ih':=ih (m/2) (by omega) (n/2)
    rw [<-Nat.xor_div_two,<-Nat.and_div_two] at ih'
    have o1:= @Nat.xor_mod_two_eq_one m n
    have a1:= @Nat.and_mod_two_eq_one m n
    omega
theorem bFo {x y:Int} (hx:0<=x) (hy:0<=y):Builtin.bitXor x y=((x.toNat^^^y.toNat:Nat):Int):=by
 have e:=aLb x.toNat y.toNat
 rw [bitXor_and,bitAnd_pp hx hy]
 omega
end Bits
end
section
namespace TL
open PySem PySem.Builtin PySem.Builtin.Str PySem.StrLaws
end TL
end
namespace L2
open PySem PySem.Spec PyProof.Rows
section
variable {X:Cx} {pins:List (Addr×Obj)} {σ:St} {H:Hp} {s:Shared} {Q:VK}
end
section
variable {X:Cx}
end
section
variable {X:Cx} {o e:Expr} {to te:TE}
end
end L2
namespace L2
open PySem PySem.Spec PyProof.Rows
section
variable {X:Cx}
end
end L2
namespace Att
open PySem PySem.W PySem.Calls PyProof.Rows
section
variable {prog:Program} {w:World} {A:Around} {E:Value->Shared->Prop} {s:Shared} {K:Frag}
end
end Att
namespace L2
open PySem PySem.Spec PyProof.Rows
end L2
namespace L2
open PySem PySem.Spec PyProof.Rows
end L2
namespace L2
open PySem PySem.Spec PyProof.Rows
def inClass (s:Stmt) (j:Nat):Stmt:=match s with
 | .ClassDef _ _ _ body _ _ _ _ _ _ _=>body.getD j (.Pass ⟨0,0,0,0⟩)
 |_=> .Pass ⟨0,0,0,0⟩
def oW (s:Stmt):Arguments:=match s with
 | .FunctionDef _ a _ _ _ _ _ _ _ _=>a
 |_=>{posonlyargs:=[],args:=[],vararg:=none,kwonlyargs:=[],kw_defaults:=[],kwarg:=none,defaults:=[]}
def jQ (s:Stmt):List Stmt:=match s with
 | .FunctionDef _ _ b _ _ _ _ _ _ _=>b
 |_=>[]
def aV (s:Stmt):Scope:=match s with
 | .FunctionDef _ _ _ _ _ _ sc _ _ _=>sc
 |_=>{kind:= .function,names:=[],isGenerator:=false,isCoroutine:=false}
abbrev CX0:CXT:=fun _ _ _ _ _ _=>False
abbrev E0:XK:=fun _ _ _=>False
theorem bAd {X:Cx}:aCk CX0 X E0:=fun _ _ _ _ _ _ _ h=>h.elim
structure Fun (K:aA) (x qual:Str) (st:Stmt) (f:Addr) (fd:FuncData):Prop where
 ex: ∃(oc:Value) (od:Option Addr) (kV doc pm:Value) (an:Option Addr) (cdv ct:Value) (osl:Array (Option Value)),
  fd=PySem.W.fnOf x qual (oW st) (jQ st) (aV st) .none kV doc pm an cdv ct/\K.lookup f=some ⟨oc,od,.func fd,osl⟩/\PySem.W.codeIn K cdv qual=true
 kp:PySem.W.keepIn K (.ref f)=true
section
variable {P:Program} {w:World} {K:aA} {mg:Str->Option Value} {base:Heap}
theorem Fun.ok {x qual:Str} {st:Stmt} {f:Addr} {fd:FuncData} {N ps:List Str} {k:Nat} {sp:Sp} (F:Fun K x qual st f fd) (S:bA N ps (aV st)) (len: ∀vs H Q E,sp vs H Q E->vs.length=ps.length)
 (hbody: ∀(cdv:Value) (A:Around) (outer:List Env) (s:Shared) (H:Hp) (vs:List V) (Q:VK) (E:XK),jB k (A.deeper (envOfC qual (aV st) s.heap.objs.size f cdv))->sp vs H Q E->
   ∃t,PSs (aVc CX0 P w K mg base N qual (aV st) f cdv A outer s H E).nox (jQ st) t/\t {nx:=fun _ H'=>Q .non H',rt:=Q} (start N vs) H):aAi P w K mg base CX0 (k+1) f fd ps sp:=by
 obtain⟨oc,od,kV,doc,pm,an,cdv,ct,osl,rfl,lk,hcd⟩:=F.ex
 refine bQh lk hcd S len fun A outer s H vs Q E hr hsp=> ?_
 obtain⟨t,h,q⟩:=hbody cdv A outer s H vs Q E hr hsp
 exact⟨t,h.nox,q⟩
theorem Fun.binds {x qual:Str} {st:Stmt} {f:Addr} {fd:FuncData} {ps:List Str} (F:Fun K x qual st f fd)
 (h: ∀(kV doc pm:Value) (an:Option Addr) (cdv ct:Value) (us:List Value),us.length=ps.length->bindArgs (PySem.W.fnOf x qual (oW st) (jQ st) (aV st) .none kV doc pm an cdv ct) ⟨us,[]⟩=pure (ps.zip us)):Binds K fd ps []:=by
 obtain⟨oc,od,kV,doc,pm,an,cdv,ct,osl,rfl,lk,hcd⟩:=F.ex
 exact .all (h kV doc pm an cdv ct)
theorem aOo {x qual:Str} {st:Stmt} {f:Addr} {oc:Value} {od an:Option Addr} {osl:Array (Option Value)} {kV doc pm cdv ct:Value} (l:K.lookup f=some ⟨oc,od,.func (PySem.W.fnOf x qual (oW st) (jQ st) (aV st) .none kV doc pm an cdv ct),osl⟩)
 (c:PySem.W.codeIn K cdv qual=true) (k:PySem.W.keepIn K (.ref f)=true):Fun K x qual st f (PySem.W.fnOf x qual (oW st) (jQ st) (aV st) .none kV doc pm an cdv ct):=⟨⟨oc,od,kV,doc,pm,an,cdv,ct,osl,rfl,l,c⟩,k⟩
end
theorem fO {A:Around} {k:Nat} (hr:jB k A):A.units+1<cLine:=Nat.lt_of_le_of_lt (Nat.add_le_add_left (by decide:1<=64) _) hr.units
section
variable {X:Cx}
theorem pv (i:Nat) {x:Str} {pos:Pos} (hN:X.N[i]? =some x:=by rfl) (hv:Vis X.env.scope x:=by first|exact Or.inl rfl|exact Or.inr (Or.inl rfl)|exact Or.inr (Or.inr rfl)) (hd:(x==("__debug__":Str))=false:=by decide)
 (hcd:(x==("__classdict__":Str))=false:=by decide):PE X (.Name x pos) (bMv i):=bPa hN hv hd hcd
theorem aTe:sH X (.builtin "len") (fun xs H Q=> ∃a kvs,xs=[V.ref a]/\H a=some (.dK kvs)/\Q (.int kvs.length) H):=by
 intro pins s σ H xs us Q I r h
 obtain⟨a,kvs,rfl,ha,q⟩:=h
 obtain⟨u,rfl,ru⟩:=vals1 r
 cases ru
 exact bQd I (.inl ha) fun t s' I'=>⟨.int kvs.length,H,I',⟨t,rfl⟩,q⟩
end
def bJ (H H':Hp):Prop:= ∀b o,H b=some o->H' b=some o
theorem bJ.refl (H:Hp):bJ H H:=fun _ _ h=>h
theorem bJ.trans {H H1 H2:Hp} (a:bJ H H1) (b:bJ H1 H2):bJ H H2:=fun c o h=>b c o (a c o h)
theorem bJ.free {H H':Hp} (e:bJ H H') {l:Addr} (h:H' l=Option.none):H l=Option.none:=by
 cases q:H l with
 |none=>rfl
 |some o=>
  rw [e l o q] at h
  cases h
theorem bJ.seq {K:aA} {H H':Hp} {a:Addr} {xs:List V} (e:bJ H H') (h:SqL K H a xs):SqL K H' a xs:=by
 rcases h with(h|⟨o,h⟩)|h
 . exact .inl (.inl (e _ _ h))
 . exact .inl (.inr ⟨o,e _ _ h⟩)
 . exact .inr h
section
variable {κ:Type} [DecidableEq κ]
theorem bFw {p:κ×V} {r:List (κ×V)} {k:κ} (e:p.1=k):lX (p::r) k=lX r k:=by
 unfold lX
 rw [List.filter_cons,aF (by simp [e])]
theorem aTh {p:κ×V} {r:List (κ×V)} {k:κ} (e: ¬p.1=k):lX (p::r) k=p::lX r k:=by
 unfold lX
 rw [List.filter_cons,aD (by simp [e])]
theorem aZf: ∀{kvs:List (κ×V)} {k:κ},¬k∈kvs.map (·.1)->lX kvs k=kvs
 |[],_,_=>rfl
 |p::r,k,h=>by
  have h': ¬k∈r.map (·.1):=fun m=>by
   obtain⟨q,hq,e⟩:=List.mem_map.mp m
   exact h (List.mem_map.mpr ⟨q,List.mem_cons.mpr (Or.inr hq),e⟩)
  rw [aTh fun e=>h (List.mem_map.mpr ⟨p,List.mem_cons.mpr (Or.inl rfl),e⟩),aZf h']
theorem aTg: ∀{kvs:List (κ×V)} {k:κ},(kvs.map (·.1)).Nodup->k∈kvs.map (·.1)->(lX kvs k).length+1=kvs.length
 |[],_,_,m=>by simp at m
 |p::r,k,h,m=>by
  have h:(p.1::r.map (·.1)).Nodup:=h
  have m:k=p.1\/k∈r.map (·.1):=List.mem_cons.mp m
  obtain⟨h1,h2⟩:=List.nodup_cons.mp h
  by_cases e:p.1=k
  . subst e
    rw [bFw rfl,aZf h1]
    all_goals rfl
  . have m':k∈r.map (·.1):=m.resolve_left fun z=>e z.symm
    have q:=aTg h2 m'
    rw [aTh e,List.length_cons,List.length_cons]
    omega
end
theorem at_of {xs:List V} {z:Int} {j:Nat} {v:V} (e:z=(j:Int)) (h:xs[j]? =some v):atI xs z=some v:=by
 rw [e]
 exact bKw h
theorem bJ.made {H H1:Hp} {x dx C:Addr} (nx:H x=Option.none) (nd:H dx=Option.none) (k: ∀b o,(upd (upd H dx (.own x)) x (.ins C dx [])) b=some o->b≠x->H1 b=some o):bJ H H1:=fun b o e=>
 k b o (by rw [aR (cQ e nx),aR (cQ e nd)];exact e) (cQ e nx)
end L2
end
section
section
set_option maxHeartbeats 2000000
namespace L2
open PySem PySem.Spec PyProof.Rows
open PySem.W (WData Codec OpenSpec Well WellAll ReadsW ReadsAllW)
mutual
/-- x stands for the datum d,lists and tuples all the way -/
inductive Dw (K:aA) (H:Hp):V->WData->Prop
 |non:Dw K H .non .none
 |bl (b:Bool):Dw K H (.bl b) (.bool b)
 |int (i:Int):Dw K H (.int i) (.int i)
 |str (x:Str):Dw K H (.str x) (.str x)
 |byt (b:Array UInt8):Dw K H (.byt b) (.bytes b.toList)
 |lst {a:Addr} {xs:List V} {ds:List WData}:SqL K H a xs->uY K H xs ds->Dw K H (.ref a) (.list ds)
 |tup {a:Addr} {xs:List V} {ds:List WData}:SqT K H a xs->uY K H xs ds->Dw K H (.ref a) (.tuple ds)
inductive uY (K:aA) (H:Hp):List V->List WData->Prop
 |nil:uY K H [] []
 |cons {v:V} {vs:List V} {d:WData} {ds:List WData}:Dw K H v d->uY K H vs ds->uY K H (v::vs) (d::ds)
end
theorem bEi {K:aA} {H:Hp}: ∀ns:List Int,uY K H (ns.map V.int) (ns.map WData.int)
 |[]=> .nil
 |n::r=> .cons (.int n) (bEi r)
theorem bEp {K:aA} {H:Hp}: ∀(ns:List Int) (xs:List V),uY K H xs (ns.map WData.int)->xs=ns.map V.int
 |[],xs,h=>by
  cases h
  rfl
 |n::r,xs,h=>by
  cases h with
  |cons h1 h2=>
   cases h1
   rw [bEp r _ h2]<;>rfl
section
variable {P:Program} {w:World} {K:aA} {H:Hp} {h:Heap} {R:PySem.W.WRecords} {cl:Str->Option Addr}
theorem bPk {a:Addr} {xs:List V} (hok:HOk P w H h) (KX:K.In h) (q:SqL K H a xs): ∃(its:List Value) (o:Obj) (n:Nat),Vals xs its/\h.get? a=some o/\o.cls= .type "list"/\o.data= .seq its.toArray n:=by
 rcases q with q|⟨o,its,n,e,hc,_,hd,_,hv⟩
 . obtain⟨_,its,n,hv,e⟩:=(show gK P w H h a (.lst xs) from q.ok hok)
   exact⟨its,_,n,hv,e,rfl,rfl⟩
 . exact⟨its.toList,o,n,hv,KX _ _ e,hc,by simp [hd]⟩
theorem bPl {a:Addr} {xs:List V} (hok:HOk P w H h) (KX:K.In h) (q:SqT K H a xs): ∃(its:List Value) (o:Obj) (n:Nat),Vals xs its/\h.get? a=some o/\o.cls= .type "tuple"/\o.data= .seq its.toArray n:=by
 rcases q with q|⟨o,its,n,e,hc,hd,_,hv⟩
 . obtain⟨_,its,hv,o,e,hc,n,hd⟩:=(show gK P w H h a (.tup xs) from q.ok hok)
   exact⟨its,o,n,hv,e,hc,hd⟩
 . exact⟨its.toList,o,n,hv,KX _ _ e,hc,by simp [hd]⟩
mutual
theorem Dw.reads (hok:HOk P w H h) (KX:K.In h): ∀(d:WData) (v:V) (u:Value),Dw K H v d->RelV v u-> ∃as,ReadsW R cl h u d as
 | .none,_,_,x,r=>by
  cases x
  cases r
  exact⟨_,ReadsW.none⟩
 | .bool b,_,_,x,r=>by
  cases x
  cases r
  exact⟨_,ReadsW.bool b⟩
 | .int i,_,_,x,r=>by
  cases x
  obtain⟨t,rfl⟩:=r
  exact⟨_,ReadsW.int i t⟩
 | .str s,_,_,x,r=>by
  cases x
  obtain⟨t,rfl⟩:=r
  exact⟨_,ReadsW.str s t⟩
 | .bytes b,_,_,x,r=>by
  cases x
  obtain⟨t,rfl⟩:=r
  exact⟨_,ReadsW.bytes _ t⟩
 | .list ds,_,_,x,r=>by
  cases x with
  |lst hs ha=>
   cases r
   obtain⟨its,o,n,rv,ho,hc,hd⟩:=bPk hok KX hs
   obtain⟨as,hr⟩:=Dw.readsAll hok KX ds _ its ha rv
   exact⟨_,ReadsW.list ho hc hd hr⟩
 | .tuple ds,_,_,x,r=>by
  cases x with
  |tup hs ha=>
   cases r
   obtain⟨its,o,n,rv,ho,hc,hd⟩:=bPl hok KX hs
   obtain⟨as,hr⟩:=Dw.readsAll hok KX ds _ its ha rv
   exact⟨_,ReadsW.tuple ho hc hd hr⟩
 | .float _,_,_,x,_=>by cases x
 | .dict _,_,_,x,_=>by cases x
 | .bytearray _,_,_,x,_=>by cases x
 | .set _,_,_,x,_=>by cases x
 | .frozenset _,_,_,x,_=>by cases x
 | .obj _ _,_,_,x,_=>by cases x
theorem Dw.readsAll (hok:HOk P w H h) (KX:K.In h): ∀(ds:List WData) (vs:List V) (us:List Value),uY K H vs ds->Vals vs us-> ∃as,ReadsAllW R cl h us ds as
 |[],_,_,x,r=>by
  cases x
  cases r
  exact⟨_,ReadsAllW.nil⟩
 |d::ds,_,_,x,r=>by
  cases x with
  |cons h1 h2=>
   cases r with
   |cons r1 r2=>
    obtain⟨as,q1⟩:=Dw.reads hok KX d _ _ h1 r1
    obtain⟨bs,q2⟩:=Dw.readsAll hok KX ds _ _ h2 r2
    exact⟨_,ReadsAllW.cons q1 q2⟩
end
end
mutual
/-- data that a codec tells -/
def plW:WData->Bool
 | .none=>true
 | .bool _=>true
 | .int _=>true
 | .str _=>true
 | .bytes _=>true
 | .list xs=>aLu xs
 | .tuple xs=>aLu xs
 |_=>false
def aLu:List WData->Bool
 |[]=>true
 |x::r=>plW x&&aLu r
end
theorem bAi {α:Type} {f:α->WData} (h: ∀a,plW (f a)=true): ∀l:List α,aLu (l.map f)=true
 |[]=>rfl
 |x::r=>by
  show (plW (f x)&&aLu (r.map f))=true
  rw [h x,bAi h r]<;>rfl
theorem yF: ∀(c:Codec) (a:c.denote),plW (c.enc a)=true
 | .unit,_=>rfl
 | .bool,_=>rfl
 | .int _ _,_=>rfl
 | .nat _ _,_=>rfl
 | .u8,_=>rfl
 | .bytes _ _,_=>rfl
 | .text _ _ _ _,_=>rfl
 | .list _ _ c,a=>bAi (fun x=>yF c x) a
 | .pair c d,a=>by
  show (plW (c.enc a.1)&&(plW (d.enc a.2)&&true))=true
  rw [yF c a.1,yF d a.2]<;>rfl
 | .triple c d e,a=>by
  show (plW (c.enc a.1)&&(plW (d.enc a.2.1)&&(plW (e.enc a.2.2)&&true)))=true
  rw [yF c a.1,yF d a.2.1,yF e a.2.2]<;>rfl
 | .option c,none=>rfl
 | .option c,some x=>yF c x
theorem aUb: ∀(cs:List Codec) (a:Codec.denoteAll cs),aLu (Codec.encAll cs a)=true
 |[],_=>rfl
 |c::cs,a=>by
  show (plW (c.enc a.1)&&aLu (Codec.encAll cs a.2))=true
  rw [yF c a.1,aUb cs a.2]<;>rfl
theorem aDy: ∀{xs:List WData} {d:WData},d∈xs->d.weight<=WData.weightAll xs
 |[],d,h=>absurd h (by simp)
 |x::r,d,h=>by
  show d.weight<=x.weight+1+WData.weightAll r
  rcases List.mem_cons.mp h with e|m
  . rw [e]
    omega
  . have z:=aDy m
    omega
def toV:Value->V
 | .none=> .non
 | .bool b=> .bl b
 | .int i _=> .int i
 | .str x _=> .str x
 | .bytes b _=> .byt b
 | .ref a=> .ref a
 |_=> .non
def OkU (A:List Addr):Value->Prop
 | .none=>True
 | .bool _=>True
 | .int _ _=>True
 | .str _ _=>True
 | .bytes _ _=>True
 | .ref a=>a∈A
 |_=>False
theorem OkU.mono {A B:List Addr} (h: ∀a∈A,a∈B): ∀{u:Value},OkU A u->OkU B u:=fun {u} x=>by
 cases u with
 |ref a=>exact h a x
 |none=>trivial
 |bool b=>trivial
 |int i t=>trivial
 |str s t=>trivial
 |bytes b t=>trivial
 |_=>exact False.elim x
theorem bJt {A:List Addr} {u:Value} (x:OkU A u):RelV (toV u) u:=by
 cases u with
 |ref a=>rfl
 |none=>rfl
 |bool b=>rfl
 |int i t=>exact⟨t,rfl⟩
 |str s t=>exact⟨t,rfl⟩
 |bytes b t=>exact⟨t,rfl⟩
 |_=>exact False.elim x
theorem tZ {A:List Addr}: ∀{vs:List Value},(∀u∈vs,OkU A u)->Vals (vs.map toV) vs
 |[],_=> .nil
 |u::r,h=> .cons (bJt (h u (List.mem_cons_self ..))) (tZ fun x hx=>h x (List.mem_cons_of_mem _ hx))
def uX (h:Heap) (A:List Addr) (a:Addr):Prop:= ∃vs:List Value,vs.length<=sizeLine/\(∀u∈vs,OkU A u)/\
 (h.get? a=some {cls:= .type "list",data:= .seq vs.toArray}\/h.get? a=some {cls:= .type "tuple",data:= .seq vs.toArray})
theorem uX.mono {h:Heap} {A B:List Addr} {a:Addr} (k: ∀a∈A,a∈B) (x:uX h A a):uX h B a:=by
 obtain⟨vs,h1,h2,h3⟩:=x
 exact⟨vs,h1,fun u hu=>(h2 u hu).mono k,h3⟩
theorem rN {P:Params} {h:Heap}: ∀{vs:List Value} {ds:List WData},WellAll P h vs ds->vs.length=ds.length
 |_,_,.nil=>rfl
 |_,_,.cons _ b=>by
  show _+1=_+1
  rw [rN b]
theorem aUs {P:Params} {h:Heap} {v:Value} {ds:List WData} (x:Well P h v (.list ds)): ∃(a:Addr) (vs:List Value),v= .ref a/\h.get? a=some {cls:= .type "list",data:= .seq vs.toArray}/\WellAll P h vs ds:=by
 cases x with
 |list ho hall=>exact⟨_,_,rfl,ho,hall⟩
theorem aQw {P:Params} {h:Heap} {v:Value} {ds:List WData} (x:Well P h v (.tuple ds)): ∃(a:Addr) (vs:List Value),v= .ref a/\h.get? a=some {cls:= .type "tuple",data:= .seq vs.toArray}/\WellAll P h vs ds:=by
 cases x with
 |tuple ho hall=>exact⟨_,_,rfl,ho,hall⟩
theorem aUr {P:Params} {h:Heap} {us:List Value} {d:WData} {ds:List WData} (x:WellAll P h us (d::ds)): ∃(v:Value) (vs:List Value),us=v::vs/\Well P h v d/\WellAll P h vs ds:=by
 cases x with
 |cons a b=>exact⟨_,_,rfl,a,b⟩
theorem bEv {n:Nat} (h:n<=1048576):n<=sizeLine:=Nat.le_trans h (by decide)
section
variable {P:Params} {h:Heap}
mutual
theorem bHm: ∀(d:WData) (v:Value),Well P h v d->plW d=true->d.weight<=1048576-> ∃A:List Addr,OkU A v/\ ∀a∈A,uX h A a
 | .none,_,x,_,_=>by
  cases x
  exact⟨[],trivial,fun a m=>absurd m (by simp)⟩
 | .bool b,_,x,_,_=>by
  cases x
  exact⟨[],trivial,fun a m=>absurd m (by simp)⟩
 | .int i,_,x,_,_=>by
  cases x
  exact⟨[],trivial,fun a m=>absurd m (by simp)⟩
 | .str s,_,x,_,_=>by
  cases x
  exact⟨[],trivial,fun a m=>absurd m (by simp)⟩
 | .bytes b,_,x,_,_=>by
  cases x
  exact⟨[],trivial,fun a m=>absurd m (by simp)⟩
 | .list ds,_,x,p,z=>by
  obtain⟨a,vs,rfl,ho,hall⟩:=aUs x
  have z2:WData.weightAll ds<=1048576:=z
  obtain⟨A,h1,h2⟩:=aEa ds _ hall p fun d hd=>Nat.le_trans (aDy hd) z2
  have k: ∀b∈A,b∈a::A:=fun b hb=>List.mem_cons_of_mem _ hb
  refine⟨a::A,List.mem_cons_self ..,fun b hb=> ?_⟩
  rcases List.mem_cons.mp hb with e|m
  . rw [e]
    exact⟨vs,bEv (by rw [rN hall];exact Nat.le_trans (PySem.W.length_le_weightAllW ds) z2),fun u hu=>(h1 u hu).mono k,.inl ho⟩
  . exact(h2 b m).mono k
 | .tuple ds,_,x,p,z=>by
  obtain⟨a,vs,rfl,ho,hall⟩:=aQw x
  have z2:WData.weightAll ds<=1048576:=z
  obtain⟨A,h1,h2⟩:=aEa ds _ hall p fun d hd=>Nat.le_trans (aDy hd) z2
  have k: ∀b∈A,b∈a::A:=fun b hb=>List.mem_cons_of_mem _ hb
  refine⟨a::A,List.mem_cons_self ..,fun b hb=> ?_⟩
  rcases List.mem_cons.mp hb with e|m
  . rw [e]
    exact⟨vs,bEv (by rw [rN hall];exact Nat.le_trans (PySem.W.length_le_weightAllW ds) z2),fun u hu=>(h1 u hu).mono k,.inr ho⟩
  . exact(h2 b m).mono k
 | .float _,_,_,p,_=>Bool.noConfusion (show false=true from p)
 | .dict _,_,_,p,_=>Bool.noConfusion (show false=true from p)
 | .bytearray _,_,_,p,_=>Bool.noConfusion (show false=true from p)
 | .set _,_,_,p,_=>Bool.noConfusion (show false=true from p)
 | .frozenset _,_,_,p,_=>Bool.noConfusion (show false=true from p)
 | .obj _ _,_,_,p,_=>Bool.noConfusion (show false=true from p)
theorem aEa: ∀(ds:List WData) (vs:List Value),WellAll P h vs ds->aLu ds=true->(∀d∈ds,d.weight<=1048576)-> ∃A:List Addr,(∀u∈vs,OkU A u)/\ ∀a∈A,uX h A a
 |[],_,x,_,_=>by
  cases x
  exact⟨[],fun u m=>absurd m (by simp),fun a m=>absurd m (by simp)⟩
 |d::ds,_,x,p,z=>by
  obtain⟨v,vs,rfl,x1,x2⟩:=aUr x
  have q:plW d=true/\aLu ds=true:=Bool.and_eq_true_iff.mp p
  obtain⟨A,a1,a2⟩:=bHm d v x1 q.1 (z d (List.mem_cons_self ..))
  obtain⟨B,b1,b2⟩:=aEa ds vs x2 q.2 fun e he=>z e (List.mem_cons_of_mem _ he)
  have kA: ∀b∈A,b∈A++B:=fun b hb=>List.mem_append.mpr (.inl hb)
  have kB: ∀b∈B,b∈A++B:=fun b hb=>List.mem_append.mpr (.inr hb)
  refine⟨A++B,fun u hu=> ?_,fun b hb=> ?_⟩
  . rcases List.mem_cons.mp hu with e|m
    . rw [e]
      exact a1.mono kA
    . exact(b1 u m).mono kB
  . rcases List.mem_append.mp hb with m|m
    . exact(a2 b m).mono kA
    . exact(b2 b m).mono kB
end
end
def bLj (o:Obj):Option HO:=match o.data with
 | .seq vs _=>if(o.cls==Value.type "list")=true then some (.frz o (.lst (vs.toList.map toV))) else some (.frz o (.tup (vs.toList.map toV)))
 |_=>none
def uA (K:aA) (h:Heap) (A:List Addr):Hp:=fun b=>if b∈A then(if(K.lookup b).isNone=true then(h.get? b).bind bLj else none) else none
def aYa (H:Hp):Prop:= ∀b,H b=none\/ ∃o u,H b=some (.frz o u)
theorem aZm (vs:List Value):bLj {cls:= .type "list",data:= .seq vs.toArray}=some (.frz {cls:= .type "list",data:= .seq vs.toArray} (.lst (vs.map toV))):=by
 show (if(Value.type "list"==Value.type "list")=true then some (HO.frz {cls:= .type "list",data:= .seq vs.toArray} (.lst (vs.toArray.toList.map toV))) else some (HO.frz {cls:= .type "list",data:= .seq vs.toArray} (.tup (vs.toArray.toList.map toV))))=_
 rw [aD (beq_self_eq_true _)]
theorem aZn (vs:List Value):bLj {cls:= .type "tuple",data:= .seq vs.toArray}=some (.frz {cls:= .type "tuple",data:= .seq vs.toArray} (.tup (vs.map toV))):=by
 show (if(Value.type "tuple"==Value.type "list")=true then some (HO.frz {cls:= .type "tuple",data:= .seq vs.toArray} (.lst (vs.toArray.toList.map toV))) else some (HO.frz {cls:= .type "tuple",data:= .seq vs.toArray} (.tup (vs.toArray.toList.map toV))))=_
 rw [aF (by decide)]
section
variable {P:Program} {w:World} {K:aA} {h:Heap} {A:List Addr}
theorem aMy {b:Addr} {o:Obj} (hb:b∈A) (hk:K.lookup b=none) (e:h.get? b=some o):uA K h A b=bLj o:=by
 unfold uA
 rw [aD hb,hk,aD (show (none:Option Obj).isNone=true from rfl),e]<;>rfl
theorem bLu {b:Addr} {u:HO} (q:uA K h A b=some u):b∈A/\K.lookup b=none:=by
 unfold uA at q
 by_cases hb:b∈A
 . rw [aD hb] at q
   cases hk:K.lookup b with
   |none=>exact⟨hb,rfl⟩
   |some o=>
    rw [hk,aF (by simp)] at q
    cases q
 . rw [aF hb] at q
   cases q
theorem aMz (ar: ∀a∈A,uX h A a) {b:Addr} {u:HO} (q:uA K h A b=some u):K.lookup b=none/\ ∃vs:List Value,vs.length<=sizeLine/\(∀u∈vs,OkU A u)/\
 ((h.get? b=some {cls:= .type "list",data:= .seq vs.toArray}/\u= .frz {cls:= .type "list",data:= .seq vs.toArray} (.lst (vs.map toV)))\/
  (h.get? b=some {cls:= .type "tuple",data:= .seq vs.toArray}/\u= .frz {cls:= .type "tuple",data:= .seq vs.toArray} (.tup (vs.map toV)))):=by
 obtain⟨hb,hk⟩:=bLu q
 obtain⟨vs,h1,h2,h3⟩:=ar b hb
 refine⟨hk,vs,h1,h2,?_⟩
 rcases h3 with e|e
 . rw [aMy hb hk e,aZm] at q
   exact .inl ⟨e,(Option.some.inj q).symm⟩
 . rw [aMy hb hk e,aZn] at q
   exact .inr ⟨e,(Option.some.inj q).symm⟩
theorem bFm (ar: ∀a∈A,uX h A a):aYa (uA K h A):=fun b=>by
 cases q:uA K h A b with
 |none=>exact .inl rfl
 |some u=>
  obtain⟨_,vs,_,_,⟨_,e⟩|⟨_,e⟩⟩:=aMz ar q
  . exact .inr ⟨_,_,by rw [e]⟩
  . exact .inr ⟨_,_,by rw [e]⟩
theorem bKu (ar: ∀a∈A,uX h A a):HOk P w (uA K h A) h:=fun b u q=>by
 obtain⟨_,vs,h1,h2,⟨e,rfl⟩|⟨e,rfl⟩⟩:=aMz ar q
 . exact⟨e,by rw [aG];exact h1,vs,_,tZ h2,e⟩
 . exact⟨e,by rw [aG];exact h1,vs,tZ h2,_,e,rfl,_,rfl⟩
theorem aNh {c c':Value} {vs us:List Value} (e:(some {cls:=c,data:= .seq vs.toArray}:Option Obj)=some {cls:=c',data:= .seq us.toArray}):c=c'/\vs=us:=by
 have e1:=Option.some.inj e
 have e2:c=c':=congrArg Obj.cls e1
 have e3:Data.seq vs.toArray=Data.seq us.toArray:=congrArg Obj.data e1
 injection e3 with e4
 refine⟨e2,?_⟩
 have e5:=congrArg Array.toList e4
 simpa using e5
theorem bSe (KX:K.In h) (ar: ∀a∈A,uX h A a) {a:Addr} {vs:List Value} (ha:a∈A) (e:h.get? a=some {cls:= .type "list",data:= .seq vs.toArray}):(∀u∈vs,OkU A u)/\SqL K (uA K h A) a (vs.map toV):=by
 obtain⟨us,h1,h2,h3⟩:=ar a ha
 have hu:us=vs:=by
  rcases h3 with q|q
  . rw [e] at q
    exact(aNh q).2.symm
  . rw [e] at q
    exact absurd (Value.type.inj (aNh q).1) (by decide)
 subst hu
 refine⟨h2,?_⟩
 cases hk:K.lookup a with
 |none=>exact .inl (.inr ⟨_,by rw [aMy ha hk e,aZm]⟩)
 |some o=>
  have e2:=KX a o hk
  rw [e] at e2
  obtain rfl:=Option.some.inj e2
  exact .inr ⟨_,us.toArray,_,hk,rfl,rfl,rfl,by rw [List.size_toArray];exact h1,by simpa using tZ h2⟩
theorem bSf (KX:K.In h) (ar: ∀a∈A,uX h A a) {a:Addr} {vs:List Value} (ha:a∈A) (e:h.get? a=some {cls:= .type "tuple",data:= .seq vs.toArray}):(∀u∈vs,OkU A u)/\SqT K (uA K h A) a (vs.map toV):=by
 obtain⟨us,h1,h2,h3⟩:=ar a ha
 have hu:us=vs:=by
  rcases h3 with q|q
  . rw [e] at q
    exact absurd (Value.type.inj (aNh q).1) (by decide)
  . rw [e] at q
    exact(aNh q).2.symm
 subst hu
 refine⟨h2,?_⟩
 cases hk:K.lookup a with
 |none=>exact .inl (.inr ⟨_,by rw [aMy ha hk e,aZn]⟩)
 |some o=>
  have e2:=KX a o hk
  rw [e] at e2
  obtain rfl:=Option.some.inj e2
  exact .inr ⟨_,us.toArray,_,hk,rfl,rfl,by rw [List.size_toArray];exact h1,by simpa using tZ h2⟩
mutual
theorem bOg {Pm:Params} (KX:K.In h) (ar: ∀a∈A,uX h A a): ∀(d:WData) (v:Value),Well Pm h v d->plW d=true->OkU A v->Dw K (uA K h A) (toV v) d
 | .none,_,x,_,_=>by
  cases x
  exact .non
 | .bool b,_,x,_,_=>by
  cases x
  exact .bl b
 | .int i,_,x,_,_=>by
  cases x
  exact .int i
 | .str s,_,x,_,_=>by
  cases x
  exact .str s
 | .bytes b,_,x,_,_=>by
  cases x
  have z:=Dw.byt (K:=K) (H:=uA K h A) b.toArray
  exact z
 | .list ds,_,x,p,hu=>by
  obtain⟨a,vs,rfl,ho,hall⟩:=aUs x
  obtain⟨h2,hs⟩:=bSe KX ar hu ho
  exact .lst hs (aVs KX ar ds _ hall p h2)
 | .tuple ds,_,x,p,hu=>by
  obtain⟨a,vs,rfl,ho,hall⟩:=aQw x
  obtain⟨h2,hs⟩:=bSf KX ar hu ho
  exact .tup hs (aVs KX ar ds _ hall p h2)
 | .float _,_,_,p,_=>Bool.noConfusion (show false=true from p)
 | .dict _,_,_,p,_=>Bool.noConfusion (show false=true from p)
 | .bytearray _,_,_,p,_=>Bool.noConfusion (show false=true from p)
 | .set _,_,_,p,_=>Bool.noConfusion (show false=true from p)
 | .frozenset _,_,_,p,_=>Bool.noConfusion (show false=true from p)
 | .obj _ _,_,_,p,_=>Bool.noConfusion (show false=true from p)
theorem aVs {Pm:Params} (KX:K.In h) (ar: ∀a∈A,uX h A a): ∀(ds:List WData) (vs:List Value),WellAll Pm h vs ds->aLu ds=true->(∀u∈vs,OkU A u)->uY K (uA K h A) (vs.map toV) ds
 |[],_,x,_,_=>by
  cases x
  exact .nil
 |d::ds,_,x,p,hu=>by
  obtain⟨v,vs,rfl,x1,x2⟩:=aUr x
  have q:plW d=true/\aLu ds=true:=Bool.and_eq_true_iff.mp p
  exact .cons (bOg KX ar d v x1 q.1 (hu _ (List.mem_cons_self ..))) (aVs KX ar ds vs x2 q.2 fun u m=>hu u (List.mem_cons_of_mem _ m))
end
end
theorem bGz {P:Program} {w:World} {K:aA} {mg mb:Str->Option Value} {CX:CXT} {k:Nat} {fa:Addr} {fd:FuncData} {ps:List Str} {sp:Sp} {s₁:Shared} {vals:List Value} {ds:List WData} {R:PySem.W.WRecords} {cl:Str->Option Addr} {d0:WData}
 (KX:K.In s₁.heap) (hns:s₁.heap.Ns mainGlobals mg) (hb:s₁.heap.Ns builtinsNs mb) (hbb: ∀x:Str,x≠"__name__"->mb x=bootBuiltins x) (hlim:s₁.heap.NoLimit) (hg:s₁.gens= #[])
 (hwl:WellAll w.params s₁.heap vals ds) (hpl:aLu ds=true) (hwt: ∀d∈ds,d.weight<=1048576) (hr:jB k callerA)
 (F: ∀base:Heap,K.In base->base.Ns mainGlobals mg->aAi P w K mg base CX k fa fd ps sp) (hbind: ∀(s:Shared) (us:List Value),us.length=ps.length->BindsTo s fd ⟨us,[]⟩ (ps.zip us)) (hlen:ds.length=ps.length)
 (hsp: ∀(H:Hp) (xs:List V),aYa H->uY K H xs ds->sp xs H (fun v H'=>Dw K H' v d0) fun _ _ _=>False)
 (hCX: ∀H e s',CX [] H s₁ (fun _ _ _=>False) e s'->False):
 codeAny (model P w) callerA (.call (.ref fa) ⟨vals,[]⟩) (fun r s'=> ∃u as,r= .ok (.ret u)/\ReadsW R cl s'.heap u d0 as/\OldK s₁.heap s'.heap/\s'.os=s₁.os/\AllBare s'.gens) s₁:=by
 obtain⟨A,ho,ar⟩:=aEa ds vals hwl hpl hwt
 have hO:aYa (uA K s₁.heap A):=bFm ar
 have hok:HOk P w (uA K s₁.heap A) s₁.heap:=bKu ar
 have hS:=aVs KX ar ds vals hwl hpl ho
 have hV:=tZ ho
 have hK: ∀b u,uA K s₁.heap A b=some u->K.lookup b=none:=fun b u q=>(aMz ar q).1
 have noA: ∀{b:Addr} {o:Obj} {es:Array DictEntry} {ep:Nat},s₁.heap.get? b=some o->o.data= .dict es ep->uA K s₁.heap A b=none:=fun {b o es ep} e d=>by
  cases q:uA K s₁.heap A b with
  |none=>rfl
  |some u=>
   obtain⟨_,vs,_,_,⟨e2,_⟩|⟨e2,_⟩⟩:=aMz ar q
   . rw [e2] at e
     cases e
     have d':Data.seq vs.toArray _=Data.dict es ep:=d
     cases d'
   . rw [e2] at e
     cases e
     have d':Data.seq vs.toArray _=Data.dict es ep:=d
     cases d'
 generalize uA K s₁.heap A=H at hO hok hS hK noA
 have base_of: ∀{b:Addr} {o:Obj},s₁.heap.get? b=some o->H b=none->(aVv s₁.heap H).get? b=some o:=fun e n=>bIi e n
 have nsK: ∀{b:Addr} {m:Str->Option Value},s₁.heap.Ns b m->(aVv s₁.heap H).Ns b m:=fun {b m} ⟨o,es,ep,e,d,r⟩=>⟨o,es,ep,base_of e (noA e d),d,r⟩
 have nK: ∀b o,K.lookup b=some o->H b=none:=fun b o e=>by
  cases q:H b with
  |none=>rfl
  |some u=>
   rw [hK b u q] at e
   cases e
 have hKb:K.In (aVv s₁.heap H):=fun b o e=>base_of (KX b o e) (nK b o e)
 have hM:Mod K mg (aVv s₁.heap H):=⟨hKb,nsK hns,⟨mb,nsK hb,hbb⟩,let⟨mc,h1,h2⟩:=hlim;⟨mc,nsK h1,h2⟩⟩
 have e0:bBp P w K mg (aVv s₁.heap H) callerA [] s₁ H:=⟨rfl,hM,fun b o e=>bLv e,Nat.le_of_eq (bGb _ _),trivial,fun b hb=>absurd (show b∈([]:List Addr) from hb) (by simp),hok,.of_eq hg⟩
 have hl:vals.length=ps.length:=by rw [rN hwl];exact hlen
 refine codeAny_mono ((F _ hKb (nsK hns)).run callerA [] s₁ H ⟨vals,[]⟩ vals (vals.map toV) _ _ hr e0 (hbind s₁ vals hl) hV (hsp H _ hO hS)) fun r s' x=> ?_
 cases r with
 |error e=>exact(hCX H e s' x).elim
 |ok fl=>
  cases fl with
  |next=>exact False.elim x
  |brk=>exact False.elim x
  |cont=>exact False.elim x
  |ret u=>
   obtain⟨v,H',os,bare,un,hok',r',q⟩:=x
   have kept: ∀b o,s₁.heap.get? b=some o->s'.heap.get? b=some o:=fun b o e=>by
    cases q2:H b with
    |none=>exact un.keep b o e q2 (by intro z;exact absurd (show b∈([]:List Addr) from z) (by simp)) (by simp)
    |some u2=>
     rcases hO b with z|⟨ob,u3,z⟩
     . rw [q2] at z
       cases z
     . have z2:=un.frzs b ob _ z
       obtain⟨e1,_⟩:=hok b _ z
       obtain⟨e2,_⟩:=hok' b _ z2
       rw [e] at e1
       cases e1
       exact e2
   have KX':K.In s'.heap:=fun b o e=>kept b o (KX b o e)
   obtain⟨as,hrd⟩:=Dw.reads (R:=R) (cl:=cl) hok' KX' d0 v u q r'
   exact⟨u,as,rfl,hrd,OldK.of_keep kept,os,bare⟩
theorem aOt {ds:List WData} (h:WData.layableAll ds=true): ∀d∈ds,d.weight<=1048576:=fun d hd=>
 (PySem.W.layableW_iff.mp (List.all_eq_true.mp h d hd)).2.2
theorem aOj: ∀(cs:List Codec) (a:Codec.denoteAll cs),(Codec.encAll cs a).length=cs.length
 |[],_=>rfl
 |c::cs,a=>by
  show (Codec.encAll cs a.2).length+1=cs.length+1
  rw [aOj cs a.2]
theorem bHi {r:OpenSpec} {k:Nat} {q:Program} {loose:List Str} {XP:(Str->Option Value)->Heap->Prop} {YP:World->Heap->Prop} {d:DefRec} {K:Params->aA} {CX:World->CXT} {ps:List Str} {sp:World->Sp}
 (hwell:r.wellSaid=true) (hdf:d.params.defaults=[]) (hlen:r.args.length=ps.length) (hr:jB k callerA)
 (hY: ∀(w:World) (h:Heap),YP w h->(K w.params).In h)
 (F: ∀(w:World) (mg:Str->Option Value) (fa:Addr) (h:Heap),YP w h->(K w.params).In h->h.Ns mainGlobals mg->mg d.name=some (.ref fa)->
  ∃fd:FuncData,(∀(s:Shared) (us:List Value),us.length=ps.length->BindsTo s fd ⟨us,[]⟩ (ps.zip us))/\
   ∀base:Heap,(K w.params).In base->base.Ns mainGlobals mg->aAi r.prog w (K w.params) mg base (CX w) k fa fd ps (sp w))
 (hsp: ∀(w:World) (H:Hp) (xs:List V) (a:Codec.denoteAll r.args),aYa H->Codec.withinAll r.args a=true->Codec.app r.args r.asked a=true->uY (K w.params) H xs (Codec.encAll r.args a)->
   sp w xs H (fun v H'=>Dw (K w.params) H' v (r.ret.enc (Codec.app r.args r.f a))) fun _ _ _=>False)
 (hCX: ∀(w:World) (H:Hp) (s:Shared) (e:Value) (s':Shared),CX w [] H s (fun _ _ _=>False) e s'->False):
 PySem.W.WalkOS q loose XP YP r d [] (fun f vs=>PySem.call f vs):=by
 intro w s_0 s₁ mg mb G Y fa o pm cd doc dV kV ho hd hcd hD hmg hg args vals as hpre hlay hrd hwl hlo
 obtain⟨a,e1,e2⟩:=PySem.W.os_pre_some hpre
 obtain⟨e3,hwi⟩:=Codec.encAll_of_decAll r.args args a e1
 subst e3
 have KX:=hY w _ Y
 obtain⟨fd,hb,hF⟩:=F w mg fa _ Y KX G.T.g hmg
 refine PySem.W.enter_call (codeAny_mono (bGz (R:=[]) (cl:=classAt s_0.heap) (d0:=r.ret.enc (Codec.app r.args r.f a)) KX G.T.g G.T.b G.T.builtins G.T.nolimit hg hwl (aUb _ _) (aOt hlay) hr hF hb (by rw [aOj];exact hlen)
  (fun H xs hO hS=>hsp w H xs a hO hwi e2 hS) fun H e s'=>hCX w H s₁ e s') fun r' s' hq=> ?_)
 obtain⟨u,as',rfl,h1,h2,h3,h4⟩:=hq
 exact⟨.inl ⟨u,_,as',rfl,fun _=>rfl,h1,(OpenSpec.post_iff hwell hwi _ _).mpr rfl,fun z=>Bool.noConfusion (show false=true from z)⟩,h2,h3,h4⟩
theorem bDw {r:OpenSpec} {k:Nat} {q:Program} {loose:List Str} {XP:(Str->Option Value)->Heap->Prop} {YP:World->Heap->Prop} {d:DefRec} {K:Params->aA} {CX:CXT} {ps:List Str} {sp:aA->Sp}
 (hwell:r.wellSaid=true) (hdf:d.params.defaults=[]) (hlen:r.args.length=ps.length) (hr:jB k callerA)
 (hY: ∀(w:World) (h:Heap),YP w h->(K w.params).In h)
 (F: ∀(w:World) (mg:Str->Option Value) (fa:Addr) (h:Heap),YP w h->(K w.params).In h->h.Ns mainGlobals mg->mg d.name=some (.ref fa)->
  ∃fd:FuncData,(∀(s:Shared) (us:List Value),us.length=ps.length->BindsTo s fd ⟨us,[]⟩ (ps.zip us))/\
   ∀base:Heap,(K w.params).In base->base.Ns mainGlobals mg->aAi r.prog w (K w.params) mg base CX k fa fd ps (sp (K w.params)))
 (hsp: ∀(K:aA) (H:Hp) (xs:List V) (a:Codec.denoteAll r.args),aYa H->Codec.withinAll r.args a=true->Codec.app r.args r.asked a=true->uY K H xs (Codec.encAll r.args a)->
   sp K xs H (fun v H'=>Dw K H' v (r.ret.enc (Codec.app r.args r.f a))) fun _ _ _=>False)
 (hCX: ∀(H:Hp) (s:Shared) (e:Value) (s':Shared),CX [] H s (fun _ _ _=>False) e s'->False):
 PySem.W.WalkOS q loose XP YP r d [] (fun f vs=>PySem.call f vs):=
 bHi (K:=K) (CX:=fun _=>CX) (sp:=fun w=>sp (K w.params)) hwell hdf hlen hr hY F (fun w H xs a h1 h2 h3 h4=>hsp (K w.params) H xs a h1 h2 h3 h4) fun _ H s e s'=>hCX H s e s'
end L2
end
end
section
namespace F
open PySem PySem.Spec PyProof.Rows L2
def GI (mg:Str->Option Value) (x:Str) (i:Int):Prop:= ∃t,mg x=some (Value.int i t)
structure GT (K:aA) (mg:Str->Option Value) (x:Str) (xs:List V):Prop where
 ex: ∃a,mg x=some (.ref a)/\ ∀H:Hp,SqT K H a xs
structure GD (P:Program) (w:World) (K:aA) (mg:Str->Option Value) (x:Str) (kvs:List (Key×V)):Prop where
 ex: ∃d,mg x=some (.ref d)/\(d==sysModules)=false/\ ∀h:Heap,K.In h-> ∃vs,KV kvs vs/\h.DictOf (eQ P w) d vs
section
variable {X:Cx}
theorem cA {x:Str} {i:Int} {pos:Pos} (hg:Gl X x) (h:GI X.mg x i) (hd:(x==("__debug__":Str))=false:=by decide):PE X (.Name x pos) (tC (.int i)):=by
 obtain⟨t,h⟩:=h
 exact bMc hg h ⟨t,rfl⟩ hd
def tGT (K:aA) (xs:List V):TE:=fun _ H Q=> ∀a,(∀H:Hp,SqT K H a xs)->Q (.ref a) H
theorem bJi {x:Str} {xs:List V} {pos:Pos} (hg:Gl X x) (h:GT X.K X.mg x xs) (hd:(x==("__debug__":Str))=false:=by decide):PE X (.Name x pos) (tGT X.K xs):=by
 obtain⟨a,h1,h2⟩:=h.ex
 intro pins s σ H Q I q
 exact uG I hg h1 ⟨.ref a,H,I,rfl,q a h2⟩ hd
inductive bMu (kvs:List (Key×V)) (y:V) (H1:Hp) (Q:VK):Prop|mk (k:Key) (v:V) (z0:y=kV k) (z1:dO kvs k=some v) (z2:Q v H1) def bPr (kvs:List (Key×V)) (ti:TE):TE:=fun σ H Q=>ti σ H fun y H1=>bMu kvs y H1 Q
theorem yD {x:Str} {kvs:List (Key×V)} {i:Expr} {ti:TE} {p pos:Pos} (hi:PE X i ti) (hg:Gl X x) (h:GD X.prog X.w X.K X.mg x kvs) (hs:bNt i:=by exact fun _ _=>rfl) (hd:(x==("__debug__":Str))=false:=by decide):
 PE X (.Subscript (.Name x p) i pos) (bPr kvs ti):=by
 obtain⟨d,h1,h2,h3⟩:=h.ex
 intro pins s σ H Q I q
 refine bFi (T:="dict") (id:="dict.__getitem__") (by exact slot_dict_getitem.lookup) hs (uG I hg h1 ?_ hd)
 refine thn (hi pins s σ H _ I q) fun u s2 ⟨y,H2,I2,ry,k,v,ey,ev,q2⟩=> ?_
 subst ey
 obtain⟨vs,rel,dd⟩:=h3 s2.heap I2.kIn
 obtain⟨w',hw,rw'⟩:=sO.some_of (v:=v) (o:=valueAt vs k) (by rw [<-ev];exact rel.val k)
 exact⟨dd.mapOf.typeIs,wpAny_getItem_of (aBf ry) dd.mapOf hw ⟨v,H2,I2.tok _,rw',q2⟩⟩
def bRt (kvs:List (Key×V)) (ti:TE):TE:=fun σ H Q=>ti σ H fun y H1=> ∃k,y=kV k/\Q (.bl (dO kvs k).isSome) H1
theorem aWq {x:Str} {kvs:List (Key×V)} {i:Expr} {ti:TE} {p:Pos} (hi:PE X i ti) (hg:Gl X x) (h:GD X.prog X.w X.K X.mg x kvs) (hd:(x==("__debug__":Str))=false:=by decide):PC X .In i (.Name x p) (bRt kvs ti):=by
 obtain⟨d,h1,h2,h3⟩:=h.ex
 intro pins s σ H Q I q
 refine thn (hi pins s σ H _ I q) fun u s2 ⟨y,H2,I2,ry,k,ey,q2⟩=> ?_
 subst ey
 refine uG I2 hg h1 ?_ hd
 obtain⟨vs,rel,dd⟩:=h3 s2.heap I2.kIn
 refine wpAny_in_of (aBf ry) h2 dd.mapOf ?_
 exact⟨.bl _,H2,I2.tok _,by rw [<-(rel.val k).mJ];rfl,q2⟩
theorem xR:bPy X (bRg X.K):=by
 intro pins s σ H x y v u Q I rx ry h
 obtain⟨p,xs,i,z,rfl,rfl,hq,he,q⟩:=h
 cases rx
 obtain⟨t,rfl⟩:=ry
 obtain⟨its,r,pl,hz⟩:=I.list hq
 obtain⟨j,h1,h2,h3,h4,h5⟩:=aUz he
 obtain⟨w,ew,rw'⟩:=r.get h2
 have hl:=r.length
 have hn:=aOu
 have fin:EP X pins σ Q w s:=⟨z,H,I,rw',q⟩
 by_cases h0:0<=i
 . have hj:i.toNat=j:=by
    rw [seqIndex_of h0 h5] at h1
    exact Option.some.inj h1
   exact getItem_listL pl.isList h0 (by omega) (by rw [hj];exact ew) fin
 . have hj:(i+(its.toArray.size:Int)).toNat=j:=by
    rw [seqIndex_neg (by omega) h4] at h1
    rw [List.size_toArray,<-hl]
    exact Option.some.inj h1
   exact wpAny_getItem_list_neg pl.isList (by omega) (by rw [List.size_toArray]<;>omega) (by omega) (by rw [hj];simpa using ew) fin
end
structure Df (K:aA) (mg:Str->Option Value) (x:Str) (st:Stmt) (ps:List Str):Prop where
 ex: ∃f fd,mg x=some (.ref f)/\Fun K x x st f fd/\Binds K fd ps []
def Ok (P:Program) (w:World) (K:aA) (mg:Str->Option Value) (base:Heap) (k:Nat) (x:Str) (ps:List Str) (sp:Sp):Prop:=
 ∃f fd,mg x=some (.ref f)/\PySem.W.keepIn K (.ref f)=true/\Binds K fd ps []/\aAi P w K mg base CX0 k f fd ps sp
section
variable {P:Program} {w:World} {K:aA} {mg:Str->Option Value} {base:Heap}
theorem Df.ok {x:Str} {st:Stmt} {N ps:List Str} {k:Nat} {sp:Sp} (D:Df K mg x st ps) (S:bA N ps (aV st)) (len: ∀vs H Q E,sp vs H Q E->vs.length=ps.length)
 (hbody: ∀(f:Addr) (cdv:Value) (A:Around) (outer:List Env) (s:Shared) (H:Hp) (vs:List V) (Q:VK) (E:XK),jB k (A.deeper (envOfC x (aV st) s.heap.objs.size f cdv))->sp vs H Q E->
   ∃t,PSs (aVc CX0 P w K mg base N x (aV st) f cdv A outer s H E).nox (jQ st) t/\t {nx:=fun _ H'=>Q .non H',rt:=Q} (start N vs) H):Ok P w K mg base (k+1) x ps sp:=by
 obtain⟨f,fd,h1,h2,h3⟩:=D.ex
 exact⟨f,fd,h1,h2.kp,h3,h2.ok S len fun cdv A outer s H vs Q E hr h=>hbody f cdv A outer s H vs Q E hr h⟩
end
section
variable {X:Cx}
def bKg (sp:Sp) (t:TA):TE:=fun σ H Q=>t σ H fun vs H1=>sp vs H1 Q E0
theorem aP {k k':Nat} {x:Str} {ps:List Str} {sp:Sp} {e:Expr} {es:List Expr} {t:TA} {p pos:Pos} (O:Ok X.prog X.w X.K X.mg X.base k x ps sp) (hr:jB k' X.A) (hk:k<=k') (hg:Gl X x) (ha:PA X (e::es) t)
 (hdb:(x==("__debug__":Str))=false:=by decide) (he:starEach (e::es) X.env=(false,eval e X.env)::starEach es X.env:=by rfl) (hpl:(backTo pos (starEach es X.env)).any (·.1)=false:=by rfl):
 PE X (.Call (.Name x p) (e::es) [] pos) (bKg sp t):=by
 obtain⟨f,fd,h1,h2,h3,h4⟩:=O
 have q:=bMb (x:=x) (p:=p) (pos:=pos) h4 (hr.mono hk) hg h1 h2 h3 .nil (bAd (X:=X)) ha hdb he hpl
 intro pins s σ H Q I h
 refine q pins s σ H Q I ?_
 show t σ H fun vs H1=>sp (vs++[]) H1 Q E0
 have h:t σ H fun vs H1=>sp vs H1 Q E0:=h
 simpa using h
end
structure Ca (K:aA) (mg:Str->Option Value) (x:Str) (C:Addr) (fs:List Str):Prop where
 cl:Cls K C
 at_:mg x=some (.ref C)
 no: ∀f∈fs,pK K C f
 mks:PySem.W.makesIn K C=true
 kc:PySem.W.keepIn K (.ref C)=true
structure Me (K:aA) (C:Addr) (m q:Str) (st:Stmt) (ps:List Str):Prop where
 ex: ∃f fd,Meth K C m f/\Fun K m q st f fd/\Binds K fd ps []
def OkM (P:Program) (w:World) (K:aA) (mg:Str->Option Value) (base:Heap) (k:Nat) (C:Addr) (m:Str) (ps:List Str) (sp:Sp):Prop:=
 ∃f fd,Meth K C m f/\Binds K fd ps []/\aAi P w K mg base CX0 k f fd ps sp
section
variable {P:Program} {w:World} {K:aA} {mg:Str->Option Value} {base:Heap}
theorem Me.ok {C:Addr} {m q:Str} {st:Stmt} {N ps:List Str} {k:Nat} {sp:Sp} (D:Me K C m q st ps) (S:bA N ps (aV st)) (len: ∀vs H Q E,sp vs H Q E->vs.length=ps.length)
 (hbody: ∀(f:Addr) (cdv:Value) (A:Around) (outer:List Env) (s:Shared) (H:Hp) (vs:List V) (Q:VK) (E:XK),jB k (A.deeper (envOfC q (aV st) s.heap.objs.size f cdv))->sp vs H Q E->
   ∃t,PSs (aVc CX0 P w K mg base N q (aV st) f cdv A outer s H E).nox (jQ st) t/\t {nx:=fun _ H'=>Q .non H',rt:=Q} (start N vs) H):OkM P w K mg base (k+1) C m ps sp:=by
 obtain⟨f,fd,h1,h2,h3⟩:=D.ex
 exact⟨f,fd,h1,h3,h2.ok S len fun cdv A outer s H vs Q E hr h=>hbody f cdv A outer s H vs Q E hr h⟩
end
section
variable {X:Cx}
def bKi (C:Addr) (m:Str) (sp:Sp) (ta:TE) (t:TA):TE:=fun σ H Q=>ta σ H fun x H1=> ∃a dx fs,x= .ref a/\H1 a=some (.ins C dx fs)/\fs.lookup m=none/\t σ H1 fun vs H2=>sp (x::vs) H2 Q E0
theorem aFg {pl:Sem Bool} {k k':Nat} {C:Addr} {m x:Str} {ps fs:List Str} {sp:Sp} {o e:Expr} {es:List Expr} {ta:TE} {t:TA} {apos pos:Pos} (he:PE X o ta) (c:Ca X.K X.mg x C fs) (O:OkM X.prog X.w X.K X.mg X.base k C m ps sp) (hr:jB k' X.A) (hk:k<=k') (ha:PA X (e::es) t)
 (hst:starEach (e::es) X.env=(false,eval e X.env)::starEach es X.env:=by rfl) (hpl:(backTo pos (starEach es X.env)).any (·.1)=false:=by rfl)
 (ht:eval (.Call (.Attribute o m apos) (e::es) [] pos) X.env=(do
   let ov<-eval o X.env
   standAt apos.atName
   let(f,first)<-holding [ov] (getMethod ov m pl)
   callWith pos f first (backTo pos (starEach (e::es) X.env)) (backToKw pos (keywordEach [] X.env))):=by rfl):
 PE X (.Call (.Attribute o m apos) (e::es) [] pos) (bKi C m sp ta t):=by
 obtain⟨f,fd,h1,h3,h4⟩:=O
 have q:=bMe (pl:=pl) (apos:=apos) (pos:=pos) he c.cl h1 h4 (hr.mono hk) h3 .nil (bAd (X:=X)) ha hst hpl ht
 intro pins s σ H Q I h
 refine q pins s σ H Q I ?_
 show ta σ H fun x H1=> ∃a dx fs,x= .ref a/\H1 a=some (.ins C dx fs)/\fs.lookup m=none/\t σ H1 fun vs H2=>sp (x::(vs++[])) H2 Q E0
 have h:ta σ H fun x H1=> ∃a dx fs,x= .ref a/\H1 a=some (.ins C dx fs)/\fs.lookup m=none/\t σ H1 fun vs H2=>sp (x::vs) H2 Q E0:=h
 simpa using h
def bPs (C:Addr) (sp:Sp) (t:TA):TE:=fun σ H Q=>t σ H fun vs H1=> ∀x dx,H1 x=none->H1 dx=none->dx≠x->sp (.ref x::vs) (upd (upd H1 dx (.own x)) x (.ins C dx [])) (fun v H2=>v= .non/\Q (.ref x) H2) E0
theorem gU {k k':Nat} {C:Addr} {x:Str} {ps fs:List Str} {sp:Sp} {e:Expr} {es:List Expr} {t:TA} {p pos:Pos} (c:Ca X.K X.mg x C fs) (O:OkM X.prog X.w X.K X.mg X.base k C "__init__" ps sp) (hr:jB k' X.A) (hk:k+1<=k') (hg:Gl X x) (ha:PA X (e::es) t)
 (hdb:(x==("__debug__":Str))=false:=by decide) (he:starEach (e::es) X.env=(false,eval e X.env)::starEach es X.env:=by rfl) (hpl:(backTo pos (starEach es X.env)).any (·.1)=false:=by rfl):
 PE X (.Call (.Name x p) (e::es) [] pos) (bPs C sp t):=by
 obtain⟨f,fd,h1,h3,h4⟩:=O
 have q:=bMd (x:=x) (p:=p) (pos:=pos) ⟨c.mks,h1.at_,h1.fn,c.kc⟩ h4 (hr.mono hk) hg c.at_ h3 .nil (bAd (X:=X)) ha hdb he hpl
 intro pins s σ H Q I h
 refine q pins s σ H Q I ?_
 show t σ H fun vs H1=> ∀x dx,H1 x=none->H1 dx=none->dx≠x->sp (.ref x::(vs++[])) (upd (upd H1 dx (.own x)) x (.ins C dx [])) (fun v H2=>v= .non/\Q (.ref x) H2) E0
 have h:t σ H fun vs H1=> ∀x dx,H1 x=none->H1 dx=none->dx≠x->sp (.ref x::vs) (upd (upd H1 dx (.own x)) x (.ins C dx [])) (fun v H2=>v= .non/\Q (.ref x) H2) E0:=h
 simpa using h
def bFj (C:Addr) (sp:Sp):TE:=fun _ H1 Q=> ∀x dx,H1 x=none->H1 dx=none->dx≠x->sp [.ref x] (upd (upd H1 dx (.own x)) x (.ins C dx [])) (fun v H2=>v= .non/\Q (.ref x) H2) E0
theorem aIv {k k':Nat} {C:Addr} {x:Str} {ps fs:List Str} {sp:Sp} {p pos:Pos} (c:Ca X.K X.mg x C fs) (O:OkM X.prog X.w X.K X.mg X.base k C "__init__" ps sp) (hr:jB k' X.A) (hk:k+1<=k') (hg:Gl X x)
 (hdb:(x==("__debug__":Str))=false:=by decide):
 PE X (.Call (.Name x p) [] [] pos) (bFj C sp):=by
 obtain⟨f,fd,h1,h3,h4⟩:=O
 exact bJj (x:=x) (p:=p) (pos:=pos) ⟨c.mks,h1.at_,h1.fn,c.kc⟩ h4 (hr.mono hk) hg c.at_ h3 .nil (bAd (X:=X)) hdb
def FnV (X:Cx) (f:Addr) (sp:Sp):Prop:= ∃fd ps k,jB k X.A/\PySem.W.keepIn X.K (.ref f)=true/\Binds X.K fd ps []/\aAi X.prog X.w X.K X.mg X.base CX0 k f fd ps sp
theorem Ok.val {k k':Nat} {x:Str} {ps:List Str} {sp:Sp} {f:Addr} (O:Ok X.prog X.w X.K X.mg X.base k x ps sp) (hr:jB k' X.A) (hk:k<=k') (hm:X.mg x=some (.ref f)):FnV X f sp:=by
 obtain⟨g,fd,h1,h2,h3,h4⟩:=O
 rw [hm] at h1
 cases h1
 exact⟨fd,ps,k,hr.mono hk,h2,h3,h4⟩
inductive bMs (X:Cx) (t:TA) (x:V) (σ:L2.St) (H1:Hp) (Q:VK):Prop|mk (f:Addr) (sp:Sp) (z0:x= .ref f) (z1:FnV X f sp) (z2:t σ H1 fun vs H2=>sp vs H2 Q E0) def bPm (X:Cx) (tf:TE) (t:TA):TE:=fun σ H Q=>tf σ H fun x H1=>bMs X t x σ H1 Q
theorem aFf {func e:Expr} {es:List Expr} {tf:TE} {t:TA} {pos:Pos} (hf:PE X func tf) (ha:PA X (e::es) t)
 (hev:eval (.Call func (e::es) [] pos) X.env=(do callWith pos (<-eval func X.env) [] (backTo pos (starEach (e::es) X.env)) (backToKw pos (keywordEach [] X.env))):=by rfl)
 (he:starEach (e::es) X.env=(false,eval e X.env)::starEach es X.env:=by rfl) (hpl:(backTo pos (starEach es X.env)).any (·.1)=false:=by rfl):
 PE X (.Call func (e::es) [] pos) (bPm X tf t):=by
 intro pins s σ H Q I h
 refine Call_ (thn (hf pins s σ H _ I h) fun v s1 ⟨x,H1,I1,rx,f,sp,ex,⟨fd,ps,k,hr,hk,hb,F⟩,q⟩=> ?_) hev
 subst ex
 cases rx
 refine PySem.W.callWith_K (h₀:=X.base) I.ok.mod.kin hk (thn (ha pos pins s1 σ H1 _ I1 q) fun us s2 ⟨vs,H2,I2,r,q2⟩=>⟨I2.kIn,?_⟩) he hpl
 exact bDd F hr hb (.nil) (bAd (X:=X)) I2 r (by simpa using q2)
end
theorem bMk {i j:Int}:bPh (.int i) (.int j)=true:=rfl
theorem cI {H:Hp} {a b:Addr} {o x:HO} (hn:H a=none) (h:H b=some x):upd H a o b=some x:=by
 rw [aR (cQ h hn)];exact h
theorem bY {H:Hp} {a:Addr} {o:HO} (hn:H a=none):bJ H (upd H a o):=fun _ _ h=>cI hn h
theorem gY {H H':Hp} {D:Addr} {o:HO} (hn:H D=none) (h:bJ H H'):bJ H (upd H' D o):=fun b x e=>by
 rw [aR (cQ e hn)];exact h b x e
section
variable {K:aA} {g:TG} {tt:TT} {te:TE} {vs:List Nat} {σ:L2.St} {H1:Hp} {D:Addr} {Qd:Hp->Prop}
def Item (g:TG) (tt:TT) (te:TE) (vs:List Nat) (σ:L2.St) (H1:Hp) (x y:V):Prop:=
 ∀(H:Hp) (Kt:V->Hp->Prop) (Al:Hp->Prop),bJ H1 H->(∀H4,bJ H H4->Kt y H4)->g x (wipe σ vs) H fun σ2 H2=>wipe σ2 vs=wipe σ vs/\tt σ2 H2 fun b H3=>if b=true then te σ2 H3 Kt else Al H3
theorem aNc {ys:List V} {i:Nat} {y:V} {H:Hp} (hn:H1 D=none) (hz:ys.length<=sizeLine) (hy:ys[i]? =some y) (hS:bJ H1 H) (hD:H D=some (.lst (ys.take i))):
 ∀H4,bJ H H4-> ∃acc,H4 D=some (.lst acc)/\acc.length<sizeLine/\bJ H1 (upd H4 D (.lst (acc++[y])))/\upd H4 D (.lst (acc++[y])) D=some (.lst (ys.take (i+1))):=fun H4 h4=>by
 have hi:=(List.getElem?_eq_some_iff.mp hy).1
 refine⟨ys.take i,h4 _ _ hD,by rw [List.length_take];omega,gY hn (hS.trans h4),?_⟩
 rw [aO,List.take_add_one,hy];rfl
theorem sZ {a:Addr} {xs ys:List V} (hl:SqL K H1 a xs) (hn:H1 D=none) (hz:ys.length<=sizeLine) (len:ys.length=xs.length)
 (hs: ∀(i:Nat) (x y:V),xs[i]? =some x->ys[i]? =some y->Item g tt te vs σ H1 x y) (hd: ∀H,bJ H1 H->H D=some (.lst ys)->Qd H):
 ∃W:Nat->Nat->Hp->Prop,(∃m,W 0 m (upd H1 D (.lst [])))/\ ∀i m H,W i m H->
  ((Itl K a).stop i H/\Qd H)\/((Itl K a).go i H/\ ∃Nx:Hp->Prop,(∀H',Nx H'-> ∃m',m'<m/\W (i+1) m' H')/\ ∀x H',(Itl K a).yld i H x H'->g x (wipe σ vs) H' fun σ2 H2=>wipe σ2 vs=wipe σ vs/\tt σ2 H2 fun b H3=>
   if b=true then te σ2 H3 fun y H4=> ∃acc,H4 D=some (.lst acc)/\acc.length<sizeLine/\Nx (upd H4 D (.lst (acc++[y]))) else Nx H3):=by
 refine aVz (xs:=xs) (fun i H=>bJ H1 H/\H D=some (.lst (ys.take i))) ⟨bY hn,by rw [aO];rfl⟩ (fun i H _ h=>h.1.seq hl) (fun i x H hx h=> ?_) (fun H h=>hd H h.1 (by rw [<-len,List.take_length] at h;exact h.2))
 have hi:i<ys.length:=by rw [len];exact(List.getElem?_eq_some_iff.mp hx).1
 obtain⟨y,hy⟩: ∃y,ys[i]? =some y:=⟨_,List.getElem?_eq_getElem hi⟩
 exact hs i x y hx hy H _ _ h.1 fun H4 h4=>by
  obtain⟨acc,a1,a2,a3,a4⟩:=aNc hn hz hy h.1 h.2 H4 h4
  exact⟨acc,a1,a2,a3,a4⟩
theorem aIa {lo:Int} {n:Nat} {ys:List V} (hn:H1 D=none) (hz:ys.length<=sizeLine) (len:ys.length=n)
 (hs: ∀(i:Nat) (y:V),i<n->ys[i]? =some y->Item g tt te vs σ H1 (.int (lo+i)) y) (hd: ∀H,bJ H1 H->H D=some (.lst ys)->Qd H):
 ∃W:Nat->Nat->Hp->Prop,(∃m,W 0 m (upd H1 D (.lst [])))/\ ∀i m H,W i m H->
  ((Itr lo n).stop i H/\Qd H)\/((Itr lo n).go i H/\ ∃Nx:Hp->Prop,(∀H',Nx H'-> ∃m',m'<m/\W (i+1) m' H')/\ ∀x H',(Itr lo n).yld i H x H'->g x (wipe σ vs) H' fun σ2 H2=>wipe σ2 vs=wipe σ vs/\tt σ2 H2 fun b H3=>
   if b=true then te σ2 H3 fun y H4=> ∃acc,H4 D=some (.lst acc)/\acc.length<sizeLine/\Nx (upd H4 D (.lst (acc++[y]))) else Nx H3):=by
 refine aZr (fun i H=>bJ H1 H/\H D=some (.lst (ys.take i))) ⟨bY hn,by rw [aO];rfl⟩ (fun i H hi h=> ?_) (fun H h=>hd H h.1 (by rw [<-len,List.take_length] at h;exact h.2))
 obtain⟨y,hy⟩: ∃y,ys[i]? =some y:=⟨_,List.getElem?_eq_getElem (by rw [len];exact hi)⟩
 exact hs i y hi hy H _ _ h.1 fun H4 h4=>by
  obtain⟨acc,a1,a2,a3,a4⟩:=aNc hn hz hy h.1 h.2 H4 h4
  exact⟨acc,a1,a2,a3,a4⟩
theorem bCl {lo c:Int} {n:Nat} {ys:List V} (hn:H1 D=none) (hz:ys.length<=sizeLine) (len:ys.length=n)
 (hs: ∀(i:Nat) (y:V),i<n->ys[i]? =some y->Item g tt te vs σ H1 (.int (lo+(i:Nat)*c)) y) (hd: ∀H,bJ H1 H->H D=some (.lst ys)->Qd H):
 ∃W:Nat->Nat->Hp->Prop,(∃m,W 0 m (upd H1 D (.lst [])))/\ ∀i m H,W i m H->
  ((Itc lo c n).stop i H/\Qd H)\/((Itc lo c n).go i H/\ ∃Nx:Hp->Prop,(∀H',Nx H'-> ∃m',m'<m/\W (i+1) m' H')/\ ∀x H',(Itc lo c n).yld i H x H'->g x (wipe σ vs) H' fun σ2 H2=>wipe σ2 vs=wipe σ vs/\tt σ2 H2 fun b H3=>
   if b=true then te σ2 H3 fun y H4=> ∃acc,H4 D=some (.lst acc)/\acc.length<sizeLine/\Nx (upd H4 D (.lst (acc++[y]))) else Nx H3):=by
 refine⟨fun i m H=>m=n-i/\i<=n/\bJ H1 H/\H D=some (.lst (ys.take i)),⟨n,by simp,Nat.zero_le _,bY hn,by rw [aO];rfl⟩,?_⟩
 rintro i m H ⟨rfl,hi,p⟩
 by_cases hlt:i<n
 . refine .inr ⟨hlt,fun H=>bJ H1 H/\H D=some (.lst (ys.take (i+1))),fun H' p'=>⟨n-(i+1),by omega,rfl,hlt,p'⟩,fun x H' q=> ?_⟩
   obtain⟨e,e2⟩:=q
   subst e e2
   obtain⟨y,hy⟩: ∃y,ys[i]? =some y:=⟨_,List.getElem?_eq_getElem (by rw [len];exact hlt)⟩
   exact hs i y hlt hy _ _ _ p.1 fun H4 h4=>by
    obtain⟨acc,a1,a2,a3,a4⟩:=aNc hn hz hy p.1 p.2 H4 h4
    exact⟨acc,a1,a2,a3,a4⟩
 . have e:i=n:=by omega
   subst e
   exact .inl ⟨Nat.le_refl _,hd H p.1 (by rw [<-len,List.take_length] at p;exact p.2)⟩
end
abbrev ni (l:List Nat):List V:=l.map fun(n:Nat)=>V.int (n:Int)
abbrev iv (l:List Int):List V:=l.map V.int
theorem bJa {l:List Nat} {i n:Nat} (h:l[i]? =some n):(ni l)[i]? =some (V.int n):=by
 rw [List.getElem?_map,h];rfl
theorem jO {l:List Nat} {z:Int} {i n:Nat} (e:z=(i:Int)) (h:l[i]? =some n):atI (ni l) z=some (V.int n):=at_of e (bJa h)
theorem cxK {CX:CXT} {P:Program} {w:World} {K:aA} {mg:Str->Option Value} {base:Heap} {N:List Str} {qual:Str} {scope:Scope} {f:Addr} {cd:Value} {A:Around} {outer:List Env} {s:Shared} {H:Hp} {E:XK}:(aVc CX P w K mg base N qual scope f cd A outer s H E).K=K:=rfl
noncomputable instance dFS {N P:List Str} {sc:Scope}:Decidable (bA N P sc):=decidable_of_iff (sc.kind= .function/\sc.isCoroutine=false/\sc.isGenerator=false/\N.Nodup/\N.take P.length=P/\(∀x∈P,sc.names.lookup x=some .local\/sc.names.lookup x=some .cell)/\ ∀y∈sc.names,y.2≠ .free) ⟨fun⟨a,b,c,d,e,f,g⟩=>⟨a,b,c,d,e,f,g⟩,fun⟨a,b,c,d,e,f,g⟩=>⟨a,b,c,d,e,f,g⟩⟩
end F
end
section
set_option maxHeartbeats 4000000
namespace PySem
open PySem.Spec PyProof.Rows
theorem bIo:typeLookup (.type "list_reverseiterator") "__len__"=pure none:=by rw [typeLookup_type,builtinLookup_eq_fast];kernel_rfl
theorem bLp:typeLookup (.type "list_reverseiterator") "__length_hint__"=pure (some (.builtin "list_reverseiterator.__length_hint__")):=by rw [typeLookup_type,builtinLookup_eq_fast];kernel_rfl
section
variable {prog:Program} {w:World} {A:Around} {s:Shared} {R:Result->Shared->Prop}
variable {I:Addr} {fp wr:List Addr} {G:Array GenState->Array GenState->Prop} {n:Nat} {P:Nat->Value->Prop} {St:Nat->Shared->Prop}
theorem bGf (W:WalksS prog w A.in1 I fp wr G n P St) (hT: ∀i s,St i s->s.TypeIs (.ref I) "list_reverseiterator") (S:Addr) (res:Value) (c₀:Nat) (hst:St 0 s) (hSf:S∉fp) (hI:I∈fp)
 (hS:s.heap.get? S=some {cls:= .type "list",data:= .seq #[] c₀})
 (hR: ∀s' acc' c',Moved (S::wr) G s s'->s'.heap.get? S=some {cls:= .type "list",dict:=none,data:= .seq acc' c',slots:= #[]}->ItemsOf P acc' n->R (.ok (.ret res)) s') (hn:n<=sizeLine):
 wpAny (model prog w) A.in1 (Builtin.List.listExtendWith (.ref S) (.ref I) res)
  (fun fin s'=>match fin with| .done f=>R (.ok f) s'| .again c'=>c'.quiet=true/\codeAny (model prog w) A c' R s') (fun e s'=>R (.error e) s') s:=by
 have hSI:S≠I:=fun e=>hSf (e ▸ hI)
 have h1:Builtin.List.listSameRef (.ref S) (.ref I)=false:=by simp [Builtin.List.listSameRef,hSI]
 unfold Builtin.List.listExtendWith
 refine wpAny_bind (wpAny_typeOf (hT 0 _ hst) ?_)
 rw [aF (by rw [h1];decide)]
 refine wpAny_bind (W.self 0 _ _ _ hst ?_)
 refine wpAny_bind (wpAny_holding ?_)
 unfold Builtin.List.listLengthHint
 refine wpAny_bind (wpAny_specialOf (hT 0 _ hst) bIo ?_)
 show wpAny _ A.in1 (specialOf (Value.ref I) (Str.ofString "__length_hint__") >>= _) _ _ _
 refine wpAny_bind (wpAny_specialOf (hT 0 _ hst) bLp ?_)
 generalize hid:("list_reverseiterator.__length_hint__":String)=id0
 wp_delta
 rw [show splitId id0=some ("list_reverseiterator","__length_hint__") from by subst hid;decide+kernel]
 subst hid
 refine wpAny_bind (wpAny_isInstance (b:=true) (hT 0 _ hst) (by rw [isSubtype_type];kernel_rfl) ?_)
 refine wpAny_pure ?_
 rw [aF (by decide)]
 exact wpAny_pure ⟨plainId_quiet F.plain_extend_loop _,codeAny_extend_loopS W hn _ hSf _ n 0 _ _ _ rfl (Nat.zero_le _) hst hS (ItemsOf.nil P) hR⟩
theorem bLq (W:WalksS prog w A.in1 I fp wr G n P St) (hT: ∀i s,St i s->s.TypeIs (.ref I) "list_reverseiterator") (S:Addr) (hst:St 0 s) (hSf:S∉fp) (hI:I∈fp)
 (hS:s.heap.get? S=some {cls:= .type "list",data:= .seq #[]})
 (hR: ∀s' acc' c',Moved (S::wr) G s s'->s'.heap.get? S=some {cls:= .type "list",dict:=none,data:= .seq acc' c',slots:= #[]}->ItemsOf P acc' n->R (.ok (.ret .none)) s') (hn:n<=sizeLine):
 wpAny (model prog w) A.in1 (Builtin.«list.__init__» ⟨[.ref S,.ref I],[]⟩)
  (fun fin s'=>match fin with| .done f=>R (.ok f) s'| .again c'=>c'.quiet=true/\codeAny (model prog w) A c' R s') (fun e s'=>R (.error e) s') s:=by
 show wpAny _ A.in1 (do let old<-Builtin.List.listItems (.ref S);Builtin.List.listUpdate (.ref S) (fun _=> #[]);letGo old.toList.reverse;Builtin.List.listExtendWith (.ref S) (.ref I) .none) _ _ s
 refine wpAny_bind ?_
 unfold Builtin.List.listItems
 refine wpAny_bind (wpAny_seqItems hS rfl (wpAny_pure ?_))
 show wpAny _ A.in1 (updateSeq S (fun _=> #[]) >>= fun _=>letGo (#[]:Array Value).toList.reverse >>= fun _=>Builtin.List.listExtendWith (.ref S) (.ref I) .none) _ _ s
 refine wpAny_bind (wpAny_updateSeq hS rfl ?_)
 have hS₂:=Heap.get?_update_self (Obj.mapSeq (fun _=>(#[]:Array Value))) hS rfl
 have oth: ∀b o,b≠S->s.heap.get? b=some o->(s.heap.update S (Obj.mapSeq (fun _=>(#[]:Array Value)))).get? b=some o:=
  fun b o hb e=>(Heap.get?_update_other _ _ (Ne.symm hb)).trans e
 refine wpAny_bind (wpAny_letGo ?_)
 refine bGf (hn:=hn) W hT S .none _ (W.frame 0 s _ s.toks hst (Nat.le_refl _) fun b hb o e=>oth b o (fun h=>hSf (h ▸ hb)) e) hSf hI hS₂ fun s' acc' c' hm hS' hacc=> ?_
 exact hR s' acc' c' (Moved.trans W.gtrans ((Moved.refl W.grefl).then_heap (Nat.le_refl _) fun b o hb e=>oth b o (fun h=>hb (h ▸ List.mem_cons_self)) e) hm) hS' hacc
theorem bLr {E:Value->Shared->Prop} {Q:Value->Shared->Prop} (W:WalksS prog w A.in1.in1 I fp wr G n P St) (hT: ∀i s,St i s->s.TypeIs (.ref I) "list_reverseiterator") (hst:St 0 s) (hfp: ∀b∈fp,b<s.heap.objs.size) (hI:I∈fp)
 (hQ: ∀s' acc' c',Moved (s.heap.objs.size::wr) G {s with heap:=s.heap.push {cls:= .type "list",data:= .seq #[]}} s'->
   s'.heap.get? s.heap.objs.size=some {cls:= .type "list",dict:=none,data:= .seq acc' c',slots:= #[]}->ItemsOf P acc' n->Q (.ref s.heap.objs.size) s') (hn:n<=sizeLine):
 wpAny (model prog w) A (call (.type "list") [.ref I]) Q E s:=by
 have hSf:s.heap.objs.size∉fp:=fun hm=>Nat.lt_irrefl _ (hfp _ hm)
 refine callType_codes (Q₁:=fun obj s₁=>obj= .ref s.heap.objs.size/\s₁={s with heap:=s.heap.push {cls:= .type "list",data:= .seq #[]}}) F.called_list (F.typeCall_list_1 _) F.entry_list_init
  (code_list_new _ ⟨rfl,rfl⟩) fun obj s₁ h₁=> ?_
 obtain⟨rfl,rfl⟩:=h₁
 have hS:(s.heap.push {cls:= .type "list",data:= .seq #[]}).get? s.heap.objs.size=some {cls:= .type "list",data:= .seq #[]}:=Heap.get?_push_size _ rfl
 refine⟨⟨_,hS,rfl⟩,F.args_list_init_2 _ _,bLq (hn:=hn) W hT _ (W.frame 0 s _ s.toks hst (Nat.le_refl _) fun b _ o e=>Heap.get?_push_of_some _ e) hSf hI hS fun s' acc' c' hm hS' hacc=> ?_⟩
 exact⟨rfl,hQ s' acc' c' hm hS' hacc⟩
end
end PySem
namespace F
open PySem PySem.Spec PyProof.Rows L2
theorem bBk: ∀{xs:List V} {us:List Value},Vals xs us->Vals xs.reverse us.reverse
 |[],_,h=>by cases h;exact .nil
 |x::xs,_,h=>by
  cases h with
  |cons r rr=>
   rw [List.reverse_cons,List.reverse_cons]
   exact(bBk rr).append (.cons r .nil)
theorem bBt:bootBuiltins "list"=some (.type "list"):=by decide+kernel
variable {X:Cx}
def bKh (K:aA) (te:TE):TE:=fun σ H Q=>te σ H fun x H1=> ∃a xs,x= .ref a/\SqL K H1 a xs/\ ∀l,H1 l=none->Q (.ref l) (upd H1 l (.lst xs.reverse))
theorem bCz {e:Expr} {te:TE} {p p2 pos pos2:Pos} (hc:X.calm=true) (hm:X.mg "list"=none) (hm2:X.mg "reversed"=none) (ha:PE X e te) (hg:Gl X "list":=by rfl) (hg2:Gl X "reversed":=by rfl)
 (hs:starEach [Expr.Call (.Name "reversed" p2) [e] [] pos2] X.env=[(false,eval (.Call (.Name "reversed" p2) [e] [] pos2) X.env)]:=by rfl) (hs2:starEach [e] X.env=[(false,eval e X.env)]:=by rfl):
 PE X (.Call (.Name "list" p) [.Call (.Name "reversed" p2) [e] [] pos2] [] pos) (bKh X.K te):=by
 intro pins s σ H Q I h
 refine Call_ (rR I hg hm bBt (PyProof.Rows.callWith_type1 ?_ hs rfl))
 rw [hs]
 show wpAny _ _ (spliced [(false,eval _ X.env)]) _ _ s
 refine Calls.spliced_cons ?_
 refine Call_ (rR I hg2 hm2 xJ (PyProof.Rows.callWith_type1 ?_ hs2 rfl))
 rw [hs2]
 show wpAny _ _ (spliced [(false,eval _ X.env)]) _ _ s
 refine Calls.spliced_cons (thn (ha pins s σ H _ I h) fun u s1 ⟨x,H1,I1,r1,a,xs,ex,hq,q⟩=>Calls.spliced_nil ?_)
 subst ex
 cases r1
 obtain⟨its,rv,p',hz⟩:=I1.list hq
 have hl:=rv.length
 refine call_reversed_list p'.isList (Calls.spliced_nil ?_)
 have hal:a<s1.heap.objs.size:=let⟨o,ho,_⟩:=p'.isList;Heap.lt_size ho
 have hsz:(s1.heap.push (revObj a ((its.toArray.size:Int)-1))).objs.size=s1.heap.objs.size+1:=Array.size_push _
 have W:=(Walks.listRev (prog:=X.prog) (w:=X.w) (A:=X.A.in1.in1) (I1.ok.hd hc) s1.heap.objs.size a (Nat.ne_of_lt hal) its.toArray).toS
 refine bLr W (fun i s st=>st.2.1.typeIs) ⟨Nat.zero_le _,?_,p'.isList.at fun o e=>Heap.get?_push_of_some _ e⟩ (fun b hb=> ?_) (by simp) (fun s' acc' c' hm hS' hacc=> ?_) (by simp only [List.size_toArray];omega)
 . have e1:((its.toArray.size:Nat):Int)-1=((its.toArray.size:Nat):Int)-1-((0:Nat):Int):=by omega
   rw [<-e1]
   exact⟨_,Heap.get?_push_size _ rfl,rfl,rfl⟩
 . show b<(s1.heap.push _).objs.size
   rw [hsz]
   simp at hb
   rcases hb with e|e
   . rw [e];exact Nat.lt_succ_self _
   . rw [e];exact Nat.lt_succ_of_lt hal
 . have eacc:acc'=its.reverse.toArray:=by
    obtain⟨h1,h2⟩:=hacc
    refine Array.ext (by rw [h1];simp) fun i hi1 hi2=> ?_
    have h3:=h2 i acc'[i] (Array.getElem?_eq_getElem hi1)
    have hi:i<its.length:=by rw [h1] at hi1;simpa using hi1
    simp only [List.getElem?_toArray,List.size_toArray] at h3
    have h4:=List.getElem?_reverse (l:=its) (i:=i) hi
    rw [h3,List.getElem?_eq_getElem (by simpa using hi)] at h4
    simp at h4 ⊢
    exact h4.symm
   rw [Moved.eq_with hm]
   refine⟨.ref (s1.heap.push (revObj a ((its.toArray.size:Int)-1))).objs.size,_,I1.laid (t':=s'.toks) (h':=s'.heap) (a:=(s1.heap.push (revObj a ((its.toArray.size:Int)-1))).objs.size) (o:= .lst xs.reverse) (fun b u e=> ?_) (by rw [hsz];omega) ⟨by simpa using hz,its.reverse,c',bBk rv,by rw [<-eacc];exact hS'⟩,rfl,q _ (I1.hok.fresh (by rw [hsz];omega))⟩
   have hb:=Heap.lt_size e
   refine hm.heap b u ?_ (Heap.get?_push_of_some _ (Heap.get?_push_of_some _ e))
   intro hmem
   rcases List.mem_cons.mp hmem with e'|hmem
   . have e':b=(s1.heap.push (revObj a ((its.toArray.size:Int)-1))).objs.size:=e'
     rw [hsz] at e'
     rw [e'] at hb
     exact Nat.lt_irrefl _ (Nat.lt_of_succ_lt hb)
   . simp at hmem
     rw [hmem] at hb
     exact Nat.lt_irrefl _ hb
end F
end
section
set_option maxHeartbeats 4000000
namespace F
open PySem PySem.Spec PyProof.Rows L2
theorem bEo: ∀{vs:List Value} {ns:List Int},vs.length=ns.length->(∀(j:Nat) (v:Value),vs[j]? =some v-> ∃n t,ns[j]? =some n/\v=Value.int n t)->IntsAre vs ns
 |[],[],_,_=> .nil
 |[],n::ns,h,_=>by simp at h
 |v::vs,[],h,_=>by simp at h
 |v::vs,n::ns,h,k=>by
  obtain⟨n',t,e1,e2⟩:=k 0 v rfl
  have e1:n=n':=by simpa using e1
  subst e1 e2
  exact .cons n t (bEo (by simpa using h) fun j u hj=>by simpa using k (j+1) u (by simpa using hj))
section
variable {prog:Program} {w:World} {A:Around} {E:Value->Shared->Prop} {s:Shared} {Q:Value->Shared->Prop}
theorem bAr {d:Addr} {kvs:List (Key×Value)} {ep:Nat} {ns:List Int} (lo:(d==sysModules)=false) (hh:A.handled=none) (hm:s.heap.DictAt (eQ prog w) d kvs ep) (hk:kvs.map (·.1)=ns.map Sum.inl) (h64:ns.length<64)
 (h: ∀(h1 h':Heap) (tk:Nat) (out:Array Value) (ns':List Int) (e:Nat),(∀b o,s.heap.get? b=some o->h1.get? b=some o)->(∀b o,h1.get? b=some o->h'.get? b=some o)->h'.get? h1.objs.size=some (seqObj "list" out e)->IntsAre out.toList ns'->ns'.Perm ns->ns'.Pairwise (· <= ·)->Q (.ref h1.objs.size) {s with heap:=h',toks:=tk}):
 wpAny (model prog w) A (call (.builtin "sorted") [.ref d]) Q E s:=by
 have hlen:kvs.length=ns.length:=by rw [<-List.length_map (f:=(·.1)),hk,aG]
 refine Calls.call_function_entry kind_sorted plain_sorted entry_sorted (args_sorted1 _) ?_
 unfold Builtin.«sorted»
 refine wpAny_bind (m:=checkCount "sorted" 1 1 _) (wpAny_pure ?_)
 refine wpAny_bind (PySem.W.kdu_collect (A:=A.in1) (PySem.W.kdl_dict (knd:=eQ prog w) (kvs:=kvs) (ep:=ep) lo) hh hm (by rw [hlen];exact aXd h64) fun h' tk acc hkp hacc=> ?_)
 have hl:acc.toList.length=ns.length:=by rw [Array.length_toList,hacc.1,hlen]
 have hI:IntsAre acc.toList ns:=bEo hl fun j v hj=>by
  obtain⟨k,x,hx,hkk⟩:=hacc.2 j v (by rw [<-Array.getElem?_toList];exact hj)
  have hj':(kvs.map (·.1))[j]? =some k:=by rw [List.getElem?_map,hx];rfl
  rw [hk,List.getElem?_map] at hj'
  cases hn:ns[j]? with
  |none=>rw [hn] at hj';simp at hj'
  |some n=>
   rw [hn] at hj'
   have e:k=Sum.inl n:=by simpa using hj'.symm
   subst e
   obtain⟨t,e⟩:=(show∃t,v=Value.int n t from bJs (show aBg (Sum.inl n) v=true from hkk))
   exact⟨n,t,rfl,e⟩
 refine wpAny_bind (wpAny_newList ?_ (by rw [hl];exact aXd h64))
 have hoL:(h'.push (seqObj "list" acc.toList.toArray 0)).get? h'.objs.size=some (seqObj "list" acc.toList.toArray 0):=Heap.get?_push_size _ rfl
 show wpAny _ _ _ _ _ {s with heap:=h'.push (seqObj "list" acc.toList.toArray 0),toks:=tk}
 refine wpAny_bind (wpAny_holding (wpAny_call_entry slot_list_sort ⟨_,hoL,rfl⟩ entry_list_sort (list_sort_tree hoL hI (by rw [hl];exact h64) fun out ns' a1 a2 a3=>⟨_,rfl,?_⟩) (args_list_sort _)))
 obtain⟨e,he⟩:=sortedHeap_at (vs:=acc.toList) (out:=out) hoL
 refine wpAny_pure ⟨_,rfl,h h' _ tk out ns' e hkp (fun b o hb'=> ?_) he a1 a2 a3⟩
 have hlt:=Heap.lt_size hb'
 rw [sortedHeap_old (Nat.ne_of_lt hlt) (by rw [size_push'];exact Nat.lt_succ_of_lt hlt)]
 exact Heap.get?_push_of_some _ hb'
end
theorem bLn {kvs:List (Key×V)} {vs:List (Key×Value)} (h:KV kvs vs):vs.map (·.1)=kvs.map (·.1):=by
 unfold KV at h
 induction h with
 |nil=>rfl
 |cons r t ih=>rw [List.map_cons,List.map_cons,ih,r.1]
variable {X:Cx}
def bJo:List V->Hp->VK->Prop:=fun vs H Q=> ∃(a:Addr) (kvs:List (Key×V)) (ns:List Int),vs=[V.ref a]/\H a=some (.dK kvs)/\kvs.map (·.1)=ns.map Sum.inl/\ns.length<64/\
 ∀(ns':List Int) (p:Addr),ns'.Perm ns->ns'.Pairwise (· <= ·)->H p=none->Q (.ref p) (upd H p (.lst (ns'.map V.int)))
theorem bBy (hc:X.calm=true):sH X (.builtin "sorted") bJo:=by
 intro pins s σ H vs us Q I r h
 obtain⟨a,kvs,ns,rfl,ha,hk,h64,q⟩:=h
 rw [Vals.bMi r]
 obtain⟨z,hd,es,rel,dd⟩:=aEi I.hok (.inl ha)
 obtain⟨ep,hat⟩:=dd.dictAt
 refine bAr hd (I.ok.hd hc) hat (ns:=ns) (by rw [<-hk];exact bLn rel) h64 fun h0 h' tk out ns' e hk0 hk1 hD h1 h2 h3=> ?_
 have hlen:(ns'.map V.int).length<=sizeLine:=by rw [aG,h2.length_eq];exact aXd h64
 have I0:=I.kept (t':=s.toks) hk0
 exact⟨.ref _,upd H h0.objs.size (.lst (ns'.map V.int)),I0.laid (t':=tk) hk1 (Nat.le_refl _) ⟨hlen,out.toList,e,aHj h1,hD⟩,rfl,q ns' _ h2 h3 (I0.hok.fresh (Nat.le_refl _))⟩
def bPc (K:aA):V->List V->Hp->VK->Prop:=fun x xs H Q=> ∃(a:Addr) (ns:List Int) (k:Int),x=V.ref a/\xs=[.int k]/\SqL K H a (ns.map V.int)/\Q (.int (ns.count k:Nat)) H
theorem bGg:MtR X "list.count" (bPc X.K):=by
 intro pins s σ H x xs v us Q I rx rxs h
 obtain⟨a,ns,k,rfl,rfl,hs,q⟩:=h
 cases rx
 cases rxs with
 |cons ry rt=>
  cases rt
  obtain⟨t,rfl⟩:=ry
  obtain⟨its,rv,hl,hlen⟩:=I.list hs
  exact count_list_ints hl.isList rv.ints ⟨.int _,H,I.tok _,⟨_,rfl⟩,q⟩
end F
end
section
namespace M
open Vbfaae
theorem dD: ∀(k n:Nat),(bitsOf k n).length=k
 |0,_=>rfl
 |k+1,n=>by simp [bitsOf,dD k n]
theorem zW: ∀(k n:Nat),bitsOf k n=(List.range k).map fun i=>n/2 ^ (k-1-i)%2
 |0,_=>rfl
 |k+1,n=>by
  rw [List.range_succ_eq_map,List.map_cons,List.map_map]
  show n/2 ^ k%2::bitsOf k n=_
  rw [zW k n]
  congr 1
  apply List.map_congr_left
  intro i hi
  have:i<k:=List.mem_range.mp hi
  show n/2 ^ (k-1-i)%2=n/2 ^ (k+1-1-(i+1))%2
  congr 3
  omega
theorem sU: ∀(k n:Nat),∀b∈bitsOf k n,b<2
 |0,_,_,h=>by simp [bitsOf] at h
 |k+1,n,b,h=>by
  simp only [bitsOf,List.mem_cons] at h
  rcases h with h|h
  . omega
  . exact sU k n b h
theorem bBs (k u:Nat):bitsOf k (u%2 ^ k)=bitsOf k u:=by
 rw [zW,zW]
 apply List.map_congr_left
 intro i hi
 have hi:i<k:=List.mem_range.mp hi
 have e:2 ^ k=2 ^ (k-1-i)*2 ^ (i+1):=by
  rw [<-Nat.pow_add];congr 1;omega
 rw [e,Nat.mod_mul_right_div_self]
 rw [Nat.pow_succ,Nat.mul_comm,Nat.mod_mul_right_mod]
theorem aRq (l:Bits) (b:Nat):numberOf (l++[b])=2*numberOf l+b:=by
 simp [numberOf,List.foldl_append]
theorem bFy (l:Bits): ∀a,l.foldl (fun n b=>2*n+b) a=a*2 ^ l.length+numberOf l:=by
 induction l with
 |nil=>intro a;simp [numberOf]
 |cons b l ih=>
  intro a
  have h1:=ih (2*a+b)
  have h2:=ih b
  simp only [List.foldl_cons,numberOf,List.length_cons] at*
  simp only [Nat.mul_zero,Nat.zero_add]
  rw [h1,h2,Nat.pow_succ,Nat.add_mul]
  have:2*a*2 ^ l.length=a*(2 ^ l.length*2):=by
   rw [Nat.mul_comm 2 a,Nat.mul_assoc,Nat.mul_comm 2]
  omega
theorem aRp (b:Nat) (l:Bits):numberOf (b::l)=b*2 ^ l.length+numberOf l:=by
 have:=bFy l b
 simpa [numberOf] using this
theorem mZ: ∀(l:Bits),(∀b∈l,b<2)->numberOf l<2 ^ l.length
 |[],_=>by simp [numberOf]
 |b::l,h=>by
  rw [aRp,List.length_cons,Nat.pow_succ]
  have h1:=mZ l (fun c hc=>h c (List.mem_cons_of_mem _ hc))
  have h2:=h b List.mem_cons_self
  have h3:b*2 ^ l.length<=1*2 ^ l.length:=Nat.mul_le_mul_right _ (by omega)
  omega
def g (r:Nat):Nat:=(2*r%WORD)^^^(if r/2147483648%2=1 then POLY else 0)
theorem bBf (x y:Nat):2*(x^^^y)%WORD=(2*x%WORD)^^^(2*y%WORD):=by
 have e: ∀z:Nat,2*z=z <<< 1:=fun z=>by rw [Nat.shiftLeft_eq];omega
 have w:WORD=2 ^ 32:=by decide
 rw [e,e,e,w,Nat.shiftLeft_xor_distrib,Nat.xor_mod_two_pow]
theorem bMy (x y:Nat):(x^^^y)/2147483648%2=(x/2147483648%2+y/2147483648%2)%2:=by
 have e:(2147483648:Nat)=2 ^ 31:=by decide
 rw [e,Nat.xor_div_two_pow]
 have q:=Nat.xor_mod_two_pow (a:=x/2 ^ 31) (b:=y/2 ^ 31) (n:=1)
 rw [Nat.pow_one] at q
 rw [q]
 have hx:x/2 ^ 31%2=0\/x/2 ^ 31%2=1:=by omega
 have hy:y/2 ^ 31%2=0\/y/2 ^ 31%2=1:=by omega
 rcases hx with hx|hx<;>rcases hy with hy|hy<;>rw [hx,hy]<;>decide
theorem aZl (x y:Nat):g (x^^^y)=g x^^^g y:=by
 unfold g
 rw [bBf,bMy]
 have hx:x/2147483648%2=0\/x/2147483648%2=1:=by omega
 have hy:y/2147483648%2=0\/y/2147483648%2=1:=by omega
 have p2: ∀a b p:Nat,(a^^^p)^^^(b^^^p)=a^^^b:=fun a b p=>by
  rw [Nat.xor_assoc,<-Nat.xor_assoc p b p,Nat.xor_comm p b,Nat.xor_assoc b p p,Nat.xor_self,Nat.xor_zero]
 rcases hx with hx|hx<;>rcases hy with hy|hy<;>simp [hx,hy]
 . rw [Nat.xor_assoc]
 . rw [Nat.xor_assoc,Nat.xor_assoc];congr 1;exact Nat.xor_comm _ _
 . rw [p2]
theorem sW {r b:Nat} (hr:r<WORD) (hb:b<2):crcBit r b=g (r^^^b*2147483648):=by
 have hw:WORD=4294967296:=rfl
 rw [aZl]
 have h0:g 0=0:=by decide
 have h1:g 2147483648=POLY:=by decide
 have:b=0\/b=1:=by omega
 unfold crcBit
 rcases this with rfl|rfl
 . simp only [Nat.zero_mul,h0,Nat.xor_zero,Nat.add_zero]
   unfold g
   split<;>simp
 . simp only [Nat.one_mul,h1]
   unfold g
   have hx:r/2147483648=0\/r/2147483648=1:=by omega
   rcases hx with hx|hx<;>simp [hx]
   rw [Nat.xor_assoc,Nat.xor_self,Nat.xor_zero]
theorem bSi (r:Nat):g r<WORD:=by
 unfold g
 have w:WORD=2 ^ 32:=by decide
 rw [w]
 refine Nat.xor_lt_two_pow (Nat.mod_lt _ (by decide)) ?_
 split<;>decide
theorem zY {r b:Nat} (hr:r<WORD) (hb:b<2):crcBit r b<WORD:=by
 rw [sW hr hb];exact bSi _
def g4 (r:Nat) (a b c d:Nat):Nat:=g (g (g (g (r^^^a*2147483648)^^^b*2147483648)^^^c*2147483648)^^^d*2147483648)
theorem bIe (x y a b c d:Nat):g4 (x^^^y) a b c d=g4 x a b c d^^^g4 y 0 0 0 0:=by
 have sw: ∀p q z:Nat,(p^^^q)^^^z=(p^^^z)^^^q:=fun p q z=>by rw [Nat.xor_assoc,Nat.xor_comm q z,<-Nat.xor_assoc]
 unfold g4
 simp only [Nat.zero_mul,Nat.xor_zero]
 rw [sw x y,aZl (x^^^_) y,sw (g (x^^^a*2147483648)) (g y),aZl (g (x^^^_)^^^_) (g y),sw (g _) (g (g y)),aZl (g _^^^_) (g (g y)),sw (g _) (g (g (g y))),aZl (g _^^^_) (g (g (g y)))]
theorem aNb {l:Nat} (h:l<2147483648):g l=2*l:=by
 unfold g
 have hw:WORD=4294967296:=rfl
 rw [aF (by omega),Nat.xor_zero,hw,Nat.mod_eq_of_lt (by omega)]
theorem bOk {l:Nat} (h:l<268435456):g4 l 0 0 0 0=16*l:=by
 unfold g4
 simp only [Nat.zero_mul,Nat.xor_zero]
 rw [aNb (l:=l) (by omega),aNb (l:=2*l) (by omega),aNb (l:=2*(2*l)) (by omega),aNb (l:=2*(2*(2*l))) (by omega)]
 omega
theorem bMq (r:Nat):(r/268435456*268435456)^^^(r%268435456)=r:=by
 have h1:(268435456:Nat)=2 ^ 28:=by decide
 rw [h1]
 apply Nat.eq_of_testBit_eq
 intro i
 rw [Nat.testBit_xor,Nat.mul_comm,Nat.testBit_two_pow_mul,Nat.testBit_mod_two_pow,Nat.testBit_div_two_pow]
 by_cases h:i<28
 . have h': ¬28<=i:=by omega
   simp [h,h']
 . have h':28<=i:=by omega
   have e:i-28+28=i:=by omega
   simp [h,h',e]
def STEPS:List Nat:=[0,517762881,1035525762,593801667,2071051524,1705890373,1187603334,1477774535,4142103048,3896448329,3411780746,3582446539,2375206668,2471405645,2955549070,2935387855]
theorem bLf: ∀h∈List.range 16,∀n∈List.range 16,g4 (h*268435456) (n/8%2) (n/4%2) (n/2%2) (n%2)=STEPS.getD (h^^^n) 0:=by decide+kernel
theorem nib {r n:Nat} (hr:r<WORD) (hn:n<16):(bitsOf 4 n).foldl crcBit r=(r*16%WORD)^^^STEPS.getD ((r/268435456)^^^n) 0:=by
 have hw:WORD=4294967296:=rfl
 have e:bitsOf 4 n=[n/8%2,n/4%2,n/2%2,n%2]:=by
  show [n/2 ^ 3%2,n/2 ^ 2%2,n/2 ^ 1%2,n/2 ^ 0%2]=_
  simp
 rw [e]
 simp only [List.foldl_cons,List.foldl_nil]
 have l1:=zY hr (show n/8%2<2 by omega)
 have l2:=zY l1 (show n/4%2<2 by omega)
 have l3:=zY l2 (show n/2%2<2 by omega)
 rw [sW l3 (by omega),sW l2 (by omega),sW l1 (by omega),sW hr (by omega)]
 show g4 r (n/8%2) (n/4%2) (n/2%2) (n%2)=_
 have er:=(bMq r).symm
 have hh:r/268435456<16:=by omega
 have key:=bLf (r/268435456) (List.mem_range.mpr hh) n (List.mem_range.mpr hn)
 have er2:g4 r (n/8%2) (n/4%2) (n/2%2) (n%2)=g4 ((r/268435456*268435456)^^^(r%268435456)) (n/8%2) (n/4%2) (n/2%2) (n%2):=congrArg (fun z=>g4 z (n/8%2) (n/4%2) (n/2%2) (n%2)) er
 rw [er2,bIe,key,bOk (Nat.mod_lt _ (by decide)),Nat.xor_comm]
 have e16:16*(r%268435456)=r*16%WORD:=by rw [hw];omega
 rw [e16]
theorem bQa (n:Nat):bitsOf 8 n=bitsOf 4 (n/16)++bitsOf 4 (n%16):=by
 show [n/2 ^ 7%2,n/2 ^ 6%2,n/2 ^ 5%2,n/2 ^ 4%2,n/2 ^ 3%2,n/2 ^ 2%2,n/2 ^ 1%2,n/2 ^ 0%2]=[n/16/2 ^ 3%2,n/16/2 ^ 2%2,n/16/2 ^ 1%2,n/16/2 ^ 0%2,n%16/2 ^ 3%2,n%16/2 ^ 2%2,n%16/2 ^ 1%2,n%16/2 ^ 0%2]
 simp only [Nat.reducePow,List.cons.injEq,and_true]
 refine⟨?_,?_,?_,?_,?_,?_,?_,?_⟩<;>omega
def aQt (r n:Nat):Nat:=(r*16%WORD)^^^STEPS.getD ((r/268435456)^^^n) 0
theorem aHh {r n:Nat} (hr:r<WORD) (hn:n<16):aQt r n<WORD:=by
 have h:=nib hr hn
 unfold aQt
 rw [<-h]
 have: ∀(l:Bits) (r:Nat),r<WORD->(∀b∈l,b<2)->l.foldl crcBit r<WORD:=by
  intro l
  induction l with
  |nil=>intro r hr _;exact hr
  |cons b l ih=>intro r hr hb;exact ih _ (zY hr (hb b List.mem_cons_self)) fun c hc=>hb c (List.mem_cons_of_mem _ hc)
 exact this _ _ hr (sU 4 n)
def aKr (r o:Nat):Nat:=aQt (aQt r (o/16)) (o%16)
theorem bKf {r o:Nat} (hr:r<WORD) (ho:o<256):aKr r o<WORD:=aHh (aHh hr (by omega)) (by omega)
theorem bKe {r o:Nat} (hr:r<WORD) (ho:o<256):(bitsOf 8 o).foldl crcBit r=aKr r o:=by
 rw [bQa,List.foldl_append,nib hr (by omega)]
 exact nib (aHh hr (by omega)) (by omega)
theorem aNn: ∀(l:Bytes) (r:Nat),r<WORD->(∀b∈l,b<256)->(allBits l).foldl crcBit r=l.foldl aKr r/\l.foldl aKr r<WORD
 |[],r,hr,_=>⟨rfl,hr⟩
 |o::l,r,hr,h=>by
  have ho:=h o List.mem_cons_self
  have ih:=aNn l (aKr r o) (bKf hr ho) fun b hb=>h b (List.mem_cons_of_mem _ hb)
  refine⟨?_,ih.2⟩
  show (bitsOf 8 o++allBits l).foldl crcBit r=_
  rw [List.foldl_append,bKe hr ho,ih.1]
  rfl
theorem bOd (l:Bytes) (h: ∀b∈l,b<256):crc l=l.foldl aKr 4294967295:=(aNn l _ (by decide) h).1
end M
end
section
namespace M
open Vbfaae
theorem aDz (o:Nat) (l:Bytes):allBits (o::l)=bitsOf 8 o++allBits l:=rfl
theorem pL: ∀l:Bytes,(allBits l).length=8*l.length
 |[]=>rfl
 |o::l=>by rw [aDz,List.length_append,dD,pL l,List.length_cons];omega
theorem aNj: ∀(l:Bytes),∀b∈allBits l,b<2
 |[],_,h=>by simp [allBits] at h
 |o::l,b,h=>by
  rw [aDz,List.mem_append] at h
  exact h.elim (sU 8 o b) (aNj l b)
theorem aUw (l:Bytes) (o:Nat):allBits (l++[o])=allBits l++bitsOf 8 o:=by
 simp [allBits]
theorem aCp: ∀(n a:Nat) (p:Nat->Bool),((List.range' a n).find? p).getD (a+n)<=a+n/\
 (∀j,a<=j->j<((List.range' a n).find? p).getD (a+n)->p j=false)/\(((List.range' a n).find? p).getD (a+n)<a+n->p (((List.range' a n).find? p).getD (a+n))=true)
 |0,a,p=>by
  refine⟨by simp,fun j h1 h2=> ?_,fun h=> ?_⟩
  . simp at h2;omega
  . simp at h
 |n+1,a,p=>by
  rw [List.range'_succ,List.find?_cons]
  cases h:p a with
  |true=>simp [h];intro j h1 h2;omega
  |false=>
   have e:a+(n+1)=a+1+n:=by omega
   simp only [e]
   obtain⟨h1,h2,h3⟩:=aCp n (a+1) p
   refine⟨h1,fun j q1 q2=> ?_,h3⟩
   by_cases hj:j=a
   . subst hj;exact h
   . exact h2 j (by omega) q2
theorem aOr {x:Nat×Nat} {k:Nat} (h1:k<=10) (h2: ∀j,j<k->x.2*2 ^ j<x.1) (h3:k=10\/x.1<=x.2*2 ^ k):kOf x=k:=by
 obtain⟨a,b,c⟩:=aCp 10 0 fun k=>decide (x.1<=x.2*2 ^ k)
 have e:kOf x=((List.range' 0 10).find? fun k=>decide (x.1<=x.2*2 ^ k)).getD (0+10):=by
  unfold kOf;rw [List.range_eq_range']
 rw [<-e] at a b c
 rcases Nat.lt_trichotomy (kOf x) k with h|h|h
 . have p:=h2 _ h
   have q:=c (by omega)
   simp at q;omega
 . exact h
 . have q:=b k (Nat.zero_le _) h
   simp at q;omega
theorem bCk (x:Nat×Nat):kOf x<=10:=by
 obtain⟨a,_,_⟩:=aCp 10 0 fun k=>decide (x.1<=x.2*2 ^ k)
 have e:kOf x=((List.range' 0 10).find? fun k=>decide (x.1<=x.2*2 ^ k)).getD (0+10):=by
  unfold kOf;rw [List.range_eq_range']
 rw [e];exact a
theorem iC (k u:Nat):(codeOf k u).length=if u/2 ^ k<12 then u/2 ^ k+1+k else 22:=by
 unfold codeOf
 have:ONES=12:=rfl
 rw [this]
 split
 . simp [dD];omega
 . simp [dD]
theorem aTf (k u:Nat): ∀b∈codeOf k u,b<2:=by
 intro b h
 unfold codeOf at h
 split at h
 . rw [List.mem_append,List.mem_cons] at h
   rcases h with h|h|h
   . have:=(List.mem_replicate.mp h).2;omega
   . omega
   . exact sU _ _ _ h
 . rw [List.mem_append] at h
   rcases h with h|h
   . have:=(List.mem_replicate.mp h).2;omega
   . exact sU _ _ _ h
def dF (l:Bits):Nat:=((l.take 12).takeWhile fun b=>b==1).length
theorem aCj {α:Type} (p:α->Bool): ∀l:List α,(l.takeWhile p).length<=l.length
 |[]=>Nat.le_refl _
 |a::l=>by
  rw [List.takeWhile_cons]
  split
  . simp [aCj p l]
  . simp
theorem aIs (l:Bits):dF l<=12/\dF l<=l.length:=by
 have h:=aCj (fun b:Nat=>b==1) (l.take 12)
 rw [List.length_take] at h
 unfold dF
 omega
def aWv (l:Bits) (k:Nat):Option Nat:=
 if dF l=12 then
  (if l.length<22 then none else if numberOf ((l.drop 12).take 10)/2 ^ k<12 then none else some (numberOf ((l.drop 12).take 10)))
 else
  (if l.length<dF l+1+k then none else if 1024<=dF l*2 ^ k+numberOf ((l.drop (dF l+1)).take k) then none else some (dF l*2 ^ k+numberOf ((l.drop (dF l+1)).take k)))
theorem bAk (l:Bits) (k:Nat) (hb: ∀b∈l,b<2):readCode k l=(aWv l k).map fun u=>(u,l.drop (codeOf k u).length):=by
 have hl:=aIs l
 have e1:ONES=12:=rfl
 have e2:TOP=1024:=rfl
 unfold readCode aWv
 simp only [e1,e2]
 rw [show ((l.take 12).takeWhile fun b=>b==1).length=dF l from rfl]
 by_cases h:dF l=12
 . rw [aD h,aD h,List.length_drop]
   by_cases h1:l.length<22
   . rw [aD h1,aD (by omega)];rfl
   . rw [aF h1,aF (by omega)]
     by_cases h2:numberOf ((l.drop 12).take 10)/2 ^ k<12
     . rw [aD h2,aD h2];rfl
     . rw [aF h2,aF h2]
       simp only [Option.map_some,iC,aF h2,List.drop_drop]
 . rw [aF h,aF h,List.length_drop]
   by_cases h1:l.length<dF l+1+k
   . rw [aD h1,aD (by omega)];rfl
   . rw [aF h1,aF (by omega)]
     by_cases h2:1024<=dF l*2 ^ k+numberOf ((l.drop (dF l+1)).take k)
     . rw [aD h2,aD h2];rfl
     . rw [aF h2,aF h2]
       have hn:numberOf ((l.drop (dF l+1)).take k)<2 ^ k:=by
        have q:=mZ ((l.drop (dF l+1)).take k) (fun b hb'=>hb b (List.mem_of_mem_drop (List.mem_of_mem_take hb')))
        rw [List.length_take,List.length_drop,Nat.min_eq_left (by omega)] at q
        exact q
       have hq:(dF l*2 ^ k+numberOf ((l.drop (dF l+1)).take k))/2 ^ k=dF l:=by
        rw [Nat.mul_comm,Nat.mul_add_div (Nat.pow_pos (by decide)),Nat.div_eq_of_lt hn];omega
       simp only [Option.map_some,iC,hq,List.drop_drop]
       rw [aD (by omega)]
theorem bMh {l:Bits} {k u:Nat} (hb: ∀b∈l,b<2) (h:aWv l k=some u):u<1024/\(codeOf k u).length<=l.length:=by
 have hl:=aIs l
 unfold aWv at h
 by_cases h0:dF l=12
 . rw [aD h0] at h
   by_cases h1:l.length<22
   . rw [aD h1] at h;cases h
   . rw [aF h1] at h
     by_cases h2:numberOf ((l.drop 12).take 10)/2 ^ k<12
     . rw [aD h2] at h;cases h
     . rw [aF h2] at h
       cases h
       have q:=mZ ((l.drop 12).take 10) (fun b hb'=>hb b (List.mem_of_mem_drop (List.mem_of_mem_take hb')))
       rw [List.length_take,List.length_drop,Nat.min_eq_left (by omega)] at q
       rw [iC,aF h2]
       exact⟨q,by omega⟩
 . rw [aF h0] at h
   by_cases h1:l.length<dF l+1+k
   . rw [aD h1] at h;cases h
   . rw [aF h1] at h
     by_cases h2:1024<=dF l*2 ^ k+numberOf ((l.drop (dF l+1)).take k)
     . rw [aD h2] at h;cases h
     . rw [aF h2] at h
       cases h
       have hn:numberOf ((l.drop (dF l+1)).take k)<2 ^ k:=by
        have q:=mZ ((l.drop (dF l+1)).take k) (fun b hb'=>hb b (List.mem_of_mem_drop (List.mem_of_mem_take hb')))
        rw [List.length_take,List.length_drop,Nat.min_eq_left (by omega)] at q
        exact q
       have hq:(dF l*2 ^ k+numberOf ((l.drop (dF l+1)).take k))/2 ^ k=dF l:=by
        rw [Nat.mul_comm,Nat.mul_add_div (Nat.pow_pos (by decide)),Nat.div_eq_of_lt hn];omega
       rw [iC,hq,aD (by omega)]
       exact⟨by omega,by omega⟩
theorem aEc: ∀(f:Nat) (l:Bits) (m:Nat),l.length<=f->8*((l.length+7)/8)<=l.length+m->
 bytesFrom f l=(List.range ((l.length+7)/8)).map fun i=>numberOf (((l++List.replicate m 0).drop (8*i)).take 8)
 |0,l,m,h,_=>by
  have e:l=[]:=List.eq_nil_of_length_eq_zero (by omega)
  subst e;rfl
 |f+1,l,m,h,hm=>by
  unfold bytesFrom
  cases l with
  |nil=>rfl
  |cons a r=>
   rw [aF (by simp)]
   generalize hl:a::r=l at*
   have hp:0<l.length:=by rw [<-hl];simp
   have ec:(l.length+7)/8=((l.drop 8).length+7)/8+1:=by rw [List.length_drop];omega
   rw [ec,List.range_succ_eq_map,List.map_cons,List.map_map]
   have e8:(l++List.replicate m 0).drop 8=l.drop 8++List.replicate (m-(8-l.length)) 0:=by
    rw [List.drop_append,List.drop_replicate]
   congr 1
   . show numberOf ((l++List.replicate 8 0).take 8)=numberOf (((l++List.replicate m 0).drop (8*0)).take 8)
     rw [Nat.mul_zero,List.drop_zero,List.take_append,List.take_append,List.take_replicate,List.take_replicate]
     congr 3
     omega
   . rw [aEc f (l.drop 8) (m-(8-l.length)) (by rw [List.length_drop];omega) (by rw [List.length_drop];omega)]
     apply List.map_congr_left
     intro i _
     show _=numberOf (((l++List.replicate m 0).drop (8*(i+1))).take 8)
     have e9:8*(i+1)=8+8*i:=by omega
     rw [<-e8,List.drop_drop,e9]
theorem aCl (l:Bits) (m:Nat) (hm:8*((l.length+7)/8)<=l.length+m):
 bytesOf l=(List.range ((l.length+7)/8)).map fun i=>numberOf (((l++List.replicate m 0).drop (8*i)).take 8):=aEc _ _ _ (Nat.le_refl _) hm
theorem pM (l:Bits):(bytesOf l).length=(l.length+7)/8:=by
 rw [aCl l 8 (by omega),aG,List.length_range]
theorem bBu (l:Bits) (hb: ∀b∈l,b<2): ∀o∈bytesOf l,o<256:=by
 intro o ho
 rw [aCl l 8 (by omega)] at ho
 obtain⟨i,hi,rfl⟩:=List.mem_map.mp ho
 have hi:=List.mem_range.mp hi
 have q:=mZ (((l++List.replicate 8 0).drop (8*i)).take 8) (fun b hb'=>by
  have:=List.mem_of_mem_drop (List.mem_of_mem_take hb')
  rw [List.mem_append] at this
  rcases this with h|h
  . exact hb b h
  . have:=(List.mem_replicate.mp h).2;omega)
 rw [List.length_take,List.length_drop,List.length_append,List.length_replicate,Nat.min_eq_left (by omega)] at q
 exact q
theorem aQv {α:Type} {l:List α} {n j:Nat} (h:j<n):(l.take n)[j]? =l[j]? :=by
 rw [List.getElem?_take];simp [h]
def dB (w:Nat) (l:List Nat) (n:Nat):Near:=
 ⟨if 0<n%w then l[n-1]? else none,if w<=n then l[n-w]? else none,if 0<n%w/\w<=n then l[n-w-1]? else none⟩
theorem aTv {w n:Nat} {l:List Nat} (hw:0<w):nearOf w (l.take n) n=dB w l n:=by
 unfold nearOf dB
 simp only [Bool.and_eq_true,aC]
 have h1:0<n%w->(l.take n)[n-1]? =l[n-1]? :=fun h=>aQv (by
  have:n≠0:=by intro e;subst e;simp at h
  omega)
 have h2:w<=n->(l.take n)[n-w]? =l[n-w]? :=fun h=>aQv (by omega)
 have h3:0<n%w/\w<=n->(l.take n)[n-w-1]? =l[n-w-1]? :=fun h=>aQv (by omega)
 congr 1
 . by_cases h:0<n%w
   . rw [aD h,aD h,h1 h]
   . rw [aF h,aF h]
 . by_cases h:w<=n
   . rw [aD h,aD h,h2 h]
   . rw [aF h,aF h]
 . by_cases h:0<n%w/\w<=n
   . rw [aD h,aD h,h3 h]
   . rw [aF h,aF h]
end M
end
section
namespace M
open Vbfaae
theorem bEd (z:Int):(clip z:Int)=max 0 (min 1023 z):=by
 unfold clip
 have:(TOP:Int)=1024:=rfl
 have h2:TOP-1=1023:=rfl
 rw [h2]
 split
 . omega
 . split<;>omega
theorem bKy (z:Int):clip z<1024:=by
 have:=bEd z;omega
theorem bEx {w n:Nat} {l:List Nat} (hl: ∀v∈l,v<1024):
 (∀a,(dB w l n).left=some a->a<1024)/\(∀a,(dB w l n).up=some a->a<1024)/\(∀a,(dB w l n).corner=some a->a<1024):=by
 unfold dB
 refine⟨fun a h=> ?_,fun a h=> ?_,fun a h=> ?_⟩
 all_goals
  simp only at h
  split at h
  . exact hl a (List.mem_of_getElem? h)
  . cases h
theorem aFh {mode ref:Nat} {n:Near} (h1: ∀a,n.left=some a->a<1024) (h2: ∀a,n.up=some a->a<1024) (h3: ∀a,n.corner=some a->a<1024) (hr:ref<1024):predicted mode n ref<1024:=by
 unfold predicted
 have hm:MIDDLE=512:=rfl
 rw [hm]
 split
 . omega
 . split
   . exact hr
   . split
     . rename_i a b c e1 e2 e3
       have a1:=h1 a e1
       have a2:=h2 b e2
       have a3:=h3 c e3
       split
       . exact a1
       . split
         . exact a2
         . split
           . exact bKy _
           . split
             . omega
             . split<;>omega
     . exact h1 _ ‹_›
     . exact h2 _ ‹_›
     . omega
theorem bFx {v p:Nat} (hv:v<1024) (hp:p<1024):folded v p<1024:=by
 unfold folded
 have h1:TOP=1024:=rfl
 have h2:MIDDLE=512:=rfl
 rw [h1,h2]
 dsimp only
 split<;>omega
theorem aKt (u p:Nat):unfolded u p<1024:=Nat.mod_lt _ (by decide)
theorem aVr {α:Type} {l:List α} {i:Nat} {x:α} (h:l[i]? =some x):l.drop i=x::l.drop (i+1):=by
 obtain⟨hi,e⟩:=List.getElem?_eq_some_iff.mp h
 rw [List.drop_eq_getElem_cons hi,e]
theorem dX {α:Type} {l:List α} {i:Nat} {x:α} (h:l[i]? =some x):l.take (i+1)=l.take i++[x]:=by
 rw [List.take_add_one,h];rfl
theorem aZg {mode w i v r:Nat} {vs rs:List Nat} {s:Stats} (hw:0<w) (hv:vs[i]? =some v) (hr:rs[i]? =some r):
 encodeFrom mode w (vs.take i) ((vs.zip rs).drop i) s=
  codeOf (kOf (statOf s (context (dB w vs i)))) (folded v (predicted mode (dB w vs i) r))++
   encodeFrom mode w (vs.take (i+1)) ((vs.zip rs).drop (i+1)) (learnt s (context (dB w vs i)) (folded v (predicted mode (dB w vs i) r))):=by
 have hi:i<vs.length:=(List.getElem?_eq_some_iff.mp hv).1
 have hz:(vs.zip rs)[i]? =some (v,r):=by rw [List.getElem?_zip_eq_some];exact⟨hv,hr⟩
 rw [aVr hz,encodeFrom,List.length_take,Nat.min_eq_left (by omega),aTv hw,dX hv]
theorem bCg {mode w:Nat} {vs rs:List Nat} {s:Stats} {d:List Nat} (h:vs.length<=rs.length):encodeFrom mode w d ((vs.zip rs).drop vs.length) s=[]:=by
 rw [List.drop_eq_nil_of_le (by rw [List.length_zip];omega)]
 rfl
theorem aZc {mode w r:Nat} {done rs:List Nat} {s:Stats} {l:Bits} (hw:0<w) (hb: ∀b∈l,b<2) (hr:rs[done.length]? =some r):
 decodeFrom mode w done (rs.drop done.length) s l=match aWv l (kOf (statOf s (context (dB w done done.length)))) with
  |none=>none
  |some u=>decodeFrom mode w (done++[unfolded u (predicted mode (dB w done done.length) r)]) (rs.drop (done++[unfolded u (predicted mode (dB w done done.length) r)]).length)
   (learnt s (context (dB w done done.length)) u) (l.drop (codeOf (kOf (statOf s (context (dB w done done.length)))) u).length):=by
 have e:nearOf w done done.length=dB w done done.length:=by
  have:=aTv (w:=w) (n:=done.length) (l:=done) hw
  rwa [List.take_length] at this
 rw [aVr hr,decodeFrom,e,bAk _ _ hb]
 cases h:aWv l (kOf (statOf s (context (dB w done done.length)))) with
 |none=>rfl
 |some u=>
  simp only [Option.map_some,List.length_append,List.length_cons,List.length_nil]
theorem bCe {mode w:Nat} {done rs:List Nat} {s:Stats} {l:Bits} (h:rs.length<=done.length):decodeFrom mode w done (rs.drop done.length) s l=some (done,l):=by
 rw [List.drop_eq_nil_of_le h];rfl
structure aUu (s:Stats):Prop where
 len:s.length=3
 cnt: ∀x∈s,x.2<32
theorem aZj:aUu fresh:=⟨rfl,by decide⟩
theorem aNl (n:Near):context n<3:=by
 unfold context
 split
 . simp only;split
   . omega
   . split<;>omega
 . omega
theorem aDx {s:Stats} {c:Nat} (h:aUu s) (hc:c<3):s[c]? =some (statOf s c):=by
 have hl:c<s.length:=by rw [h.len];exact hc
 unfold statOf
 rw [List.getD_eq_getElem?_getD,List.getElem?_eq_getElem hl]
 rfl
theorem aUm {s:Stats} {c:Nat} (h:aUu s) (hc:c<3):(statOf s c).2<32:=h.cnt _ (List.mem_of_getElem? (aDx h hc))
theorem aTq {s:Stats} {c u:Nat} (h:aUu s) (hc:c<3):aUu (learnt s c u):=by
 refine⟨?_,fun x hx=> ?_⟩
 . unfold learnt;rw [List.length_set];exact h.len
 . unfold learnt at hx
   have h1:=aUm h hc
   rcases List.mem_or_eq_of_mem_set hx with hx|hx
   . exact h.cnt x hx
   . subst hx
     split
     . simp;omega
     . simp at *; omega
theorem bGh {v p:Nat} (hv:v<1024) (hp:p<1024):(folded v p:Int)=if 0<=((v:Int)-p+512)%1024-512 then 2*(((v:Int)-p+512)%1024-512) else-2*(((v:Int)-p+512)%1024-512)-1:=by
 unfold folded
 have h1:TOP=1024:=rfl
 have h2:MIDDLE=512:=rfl
 rw [h1,h2]
 dsimp only
 split<;>split<;>omega
theorem value_eq {u p:Nat} (hu:u<1024) (hp:p<1024):(unfolded u p:Int)=if u%2=0 then((p:Int)+(u:Int)/2)%1024 else((p:Int)-((u:Int)+1)/2)%1024:=by
 unfold unfolded
 have h1:TOP=1024:=rfl
 rw [h1]
 split<;>omega
end M
end
section
namespace M
open Vbfaae
theorem aRx {mode r r':Nat} {n:Near} (h:mode≠5):predicted mode n r=predicted mode n r':=by
 unfold predicted
 by_cases h0:mode=0
 . rw [aD h0,aD h0]
 . rw [aF h0,aF h0,aF h,aF h]
theorem aTi {mode w:Nat}: ∀(l:List (Nat×Nat)) (d:List Nat) (s:Stats),∀b∈encodeFrom mode w d l s,b<2
 |[],_,_,b,h=>by simp [encodeFrom] at h
 |x::l,d,s,b,h=>by
  unfold encodeFrom at h
  rw [List.mem_append] at h
  exact h.elim (aTf _ _ b) (aTi l _ _ b)
theorem aYg {k u:Nat} (hk:k<=10):(codeOf k u).length<=22:=by
 rw [iC]
 split<;>omega
theorem aOk {mode w:Nat}: ∀(l:List (Nat×Nat)) (d:List Nat) (s:Stats),(encodeFrom mode w d l s).length<=22*l.length
 |[],_,_=>by simp [encodeFrom]
 |x::l,d,s=>by
  unfold encodeFrom
  simp only [List.length_append,List.length_cons]
  have h1:=aOk (mode:=mode) (w:=w) l (d++[x.1])
  have h2:= @aYg (kOf (statOf s (context (nearOf w d d.length)))) (folded x.1 (predicted mode (nearOf w d d.length) x.2)) (bCk _)
  have h3:=h1 (learnt s (context (nearOf w d d.length)) (folded x.1 (predicted mode (nearOf w d d.length) x.2)))
  omega
theorem xP {mode w:Nat} {vs rs:List Nat}:(encoded mode w vs rs).length<=3*vs.length:=by
 unfold encoded
 rw [pM]
 have h:=aOk (mode:=mode) (w:=w) (vs.zip rs) [] fresh
 rw [List.length_zip] at h
 omega
theorem aCo {mode w:Nat} {vs rs:List Nat}: ∀o∈encoded mode w vs rs,o<256:=bBu _ (aTi _ _ _)
theorem bId (n:Nat):(four n).length=4:=rfl
theorem xT (s:Stream) (i m:Nat):(headOf s i m).length=10:=rfl
theorem uM (s:Stream) (i m:Nat) (r:List Nat):(packetOf s i m r).length=(encoded m s.w (cutOut s.w s.h s.slices i s.was) r).length+14:=by
 unfold packetOf sealed_
 rw [List.length_append,List.length_append,xT,bId];omega
def gB (len:Nat->Nat):Nat->Nat
 |0=>0
 |n+1=>if len (n+1)<len (gB len n) then n+1 else gB len n
theorem aJv (s:Stream) (i:Nat) (r:List Nat):bestMode s i r=gB (fun m=>(encoded m s.w (cutOut s.w s.h s.slices i s.was) r).length) (if s.ref=0 then 4 else 5):=by
 have e: ∀a b:Nat,((packetOf s i a r).length<(packetOf s i b r).length)=((encoded a s.w (cutOut s.w s.h s.slices i s.was) r).length<(encoded b s.w (cutOut s.w s.h s.slices i s.was) r).length):=fun a b=>by
  rw [uM,uM,Nat.add_lt_add_iff_right]
 unfold bestMode modesOf
 simp only [e]
 split
 . simp [gB]
 . simp [gB]
theorem zV (len:Nat->Nat): ∀n,gB len n<=n
 |0=>Nat.le_refl _
 |n+1=>by
  unfold gB
  have:=zV len n
  split<;>omega
def decOf (x:Stream) (i:Nat) (rr:Option (List Nat)) (p:Bytes):Option (Except Nat (List Nat)):=(modeIn x i p).map fun m=>
 if m=5 then(match rr with
  |none=> .error 1
  |some r=>match decoded 5 x.w r (payload p) with
   |some l=> .ok l
   |none=> .error 0)
 else(match decoded m x.w (List.replicate (countIn x i) 0) (payload p) with
  |some l=>Except.ok l
  |none=> .error 0)
def cU (x:Stream) (i:Nat) (rr:Option (List Nat)):List (Bytes×Nat×Bool)->Nat->Except Nat (List Nat)
 |[],w=> .error w
 |p::l,w=>match decOf x i rr p.1 with
  |none=>cU x i rr l w
  |some (.ok v)=> .ok v
  |some (.error 1)=>cU x i rr l 1
  |some (.error _)=>cU x i rr l w
def aPf (r:Except Nat (List Nat)):Option (List Nat):=match r with
 | .ok l=>some l
 | .error _=>none
def jW (s:State) (f:Nat) (x:Stream) (i:Nat):Option (List Nat):=match streamAt s x.ref with
 |none=>none
 |some y=>if y.stamp≠x.refStamp then none else aPf (readSlice s f y i)
theorem pC (s:State) (f:Nat) (x:Stream) (i:Nat):readSlice s (f+1) x i=cU x i (jW s f x i) x.packets 0:=by
 unfold readSlice
 simp only
 have gen: ∀(rr:Option (List Nat)) (F:(Bytes×Nat×Bool)->Option (Except Nat (List Nat))) (hF: ∀p,F p=decOf x i rr p.1) (l:List (Bytes×Nat×Bool)) (w:Nat),w=0\/w=1->(match (l.filterMap F).find? fun r=>match r with
  | .ok _=>true
  | .error _=>false with
  |some r=>r
  |none=>if(decide (w=1)||((l.filterMap F).any fun r=>match r with
   | .error 1=>true
   |_=>false))=true then .error 1 else .error 0)=cU x i rr l w:=by
  intro rr F hF l
  induction l with
  |nil=>
   intro w hw
   rcases hw with rfl|rfl<;>simp [cU]
  |cons p l ih=>
   intro w hw
   unfold cU
   rw [List.filterMap_cons,hF]
   cases h:decOf x i rr p.1 with
   |none=>simp only;exact ih w hw
   |some r=>
    simp only
    cases r with
    |ok v=>simp
    |error e=>
     rw [List.find?_cons]
     simp only [List.any_cons]
     by_cases he:e=1
     . subst he
       rw [<-ih 1 (.inr rfl)]
       simp
     . have hh:(match (Except.error e:Except Nat (List Nat)) with
        | .error 1=>true
        |_=>false)=false:=by
        split
        . rename_i h1;cases h1;exact absurd rfl he
        . rfl
       have hg:(match (some (Except.error e:Except Nat (List Nat))) with
        |none=>cU x i rr l w
        |some (.ok v)=> .ok v
        |some (.error 1)=>cU x i rr l 1
        |some (.error _)=>cU x i rr l w)=cU x i rr l w:=by
        split
        . rename_i h1;cases h1
        . rename_i h1;cases h1
        . rename_i h1;cases h1;exact absurd rfl he
        . rfl
       refine Eq.trans ?_ ((ih w hw).trans hg.symm)
       simp only [hh,Bool.false_or]
 refine gen (jW s f x i) _ (fun p=> ?_) x.packets 0 (.inl rfl)
 unfold decOf jW
 cases modeIn x i p.1 with
 |none=>rfl
 |some m=>
  simp only [Option.map_some,Option.some.injEq]
  by_cases hm:m=5
  . rw [aD hm,aD hm]
    cases streamAt s x.ref with
    |none=>rfl
    |some y=>
     simp only
     by_cases hy:y.stamp≠x.refStamp
     . rw [aD hy,aD hy]
     . rw [aF hy,aF hy]
       cases readSlice s f y i with
       |error _=>rfl
       |ok r=>rfl
  . rw [aF hm,aF hm]
    cases decoded m x.w (List.replicate (countIn x i) 0) (payload p.fst) with
    |none=>rfl
    |some l=>rfl
end M
end
section
namespace M
open Vbfaae
section
variable {α:Type} (key:α->Nat)
def aFj (p:α):List α->List α
 |[]=>[p]
 |x::l=>if key p<key x then p::x::l else if key p=key x then p::l else x::aFj p l
def aHm (l:List α):Prop:=l.Pairwise fun a b=>key a<key b
variable {key}
theorem aHm.inj {l:List α} (h:aHm key l) {a b:α} (ha:a∈l) (hb:b∈l) (e:key a=key b):a=b:=by
 induction l with
 |nil=>cases ha
 |cons x l ih=>
  have hp:=List.pairwise_cons.mp h
  rcases List.mem_cons.mp ha with ea|ha'<;>rcases List.mem_cons.mp hb with eb|hb'
  . rw [ea,eb]
  . subst ea;have:=hp.1 b hb';omega
  . subst eb;have:=hp.1 a ha';omega
  . exact ih hp.2 ha' hb'
theorem pR {p y:α}: ∀{l:List α},aHm key l->(y∈aFj key p l↔y=p\/(y∈l/\key y≠key p))
 |[],_=>by simp [aFj]
 |x::l,h=>by
  have hp:=List.pairwise_cons.mp h
  unfold aFj
  by_cases h1:key p<key x
  . rw [aD h1,List.mem_cons]
    constructor
    . rintro (e|e)
      . exact .inl e
      . refine .inr ⟨e,?_⟩
        rcases List.mem_cons.mp e with rfl|e
        . omega
        . have:=hp.1 y e;omega
    . rintro (e|e)
      . exact .inl e
      . exact .inr e.1
  . rw [aF h1]
    by_cases h2:key p=key x
    . rw [aD h2,List.mem_cons]
      constructor
      . rintro (e|e)
        . exact .inl e
        . refine .inr ⟨List.mem_cons_of_mem _ e,?_⟩
          have:=hp.1 y e;omega
      . rintro (e|⟨e,ne⟩)
        . exact .inl e
        . rcases List.mem_cons.mp e with rfl|e
          . exact absurd h2.symm ne
          . exact .inr e
    . rw [aF h2,List.mem_cons,pR hp.2]
      constructor
      . rintro (e|e|e)
        . subst e;exact .inr ⟨List.mem_cons_self,fun q=>h2 q.symm⟩
        . exact .inl e
        . exact .inr ⟨List.mem_cons_of_mem _ e.1,e.2⟩
      . rintro (e|⟨e,ne⟩)
        . exact .inr (.inl e)
        . rcases List.mem_cons.mp e with rfl|e
          . exact .inl rfl
          . exact .inr (.inr ⟨e,ne⟩)
theorem pI {p:α}: ∀{l:List α},aHm key l->aHm key (aFj key p l)
 |[],_=>List.pairwise_singleton _ _
 |x::l,h=>by
  have hp:=List.pairwise_cons.mp h
  unfold aFj
  by_cases h1:key p<key x
  . rw [aD h1]
    refine List.pairwise_cons.mpr ⟨fun y hy=> ?_,h⟩
    rcases List.mem_cons.mp hy with rfl|hy
    . exact h1
    . have:=hp.1 y hy;omega
  . rw [aF h1]
    by_cases h2:key p=key x
    . rw [aD h2]
      exact List.pairwise_cons.mpr ⟨fun y hy=>by have:=hp.1 y hy;omega,hp.2⟩
    . rw [aF h2]
      refine List.pairwise_cons.mpr ⟨fun y hy=> ?_,pI hp.2⟩
      rcases(pR hp.2).mp hy with rfl|⟨hy,_⟩
      . omega
      . exact hp.1 y hy
theorem aEn {p:α}: ∀{l:List α},aHm key l->(aFj key p l).length=if(l.any fun y=>key y==key p)=true then l.length else l.length+1
 |[],_=>by simp [aFj]
 |x::l,h=>by
  have hp:=List.pairwise_cons.mp h
  unfold aFj
  by_cases h1:key p<key x
  . rw [aD h1,aF]
    . rfl
    . simp only [List.any_cons,Bool.or_eq_true,beq_iff_eq,List.any_eq_true,not_or,not_exists,not_and]
      exact⟨by omega,fun y hy=>by have:=hp.1 y hy;omega⟩
  . rw [aF h1]
    by_cases h2:key p=key x
    . rw [aD h2,aD (by simp [h2])];rfl
    . rw [aF h2,List.length_cons,aEn hp.2,List.any_cons]
      have h3:(key x==key p)=false:=by simp;omega
      rw [h3,Bool.false_or]
      split<;>simp
def atG (l:List α) (k:Nat):Option α:=l.find? fun p=>key p==k
theorem xH {l:List α} (h:aHm key l) {k:Nat} {x:α}:atG (key:=key) l k=some x↔x∈l/\key x=k:=by
 unfold atG
 constructor
 . intro e
   exact⟨List.mem_of_find?_eq_some e,by simpa using List.find?_some e⟩
 . rintro ⟨hx,e⟩
   cases q:l.find? fun p=>key p==k with
   |none=>have:=List.find?_eq_none.mp q x hx;simp [e] at this
   |some y=>
    have h1:=List.mem_of_find?_eq_some q
    have h2:key y=k:=by simpa using List.find?_some q
    rw [h.inj h1 hx (h2.trans e.symm)]
theorem bHo {l:List α} {k:Nat}:atG (key:=key) l k=none↔ ∀x∈l,key x≠k:=by
 unfold atG
 rw [List.find?_eq_none]
 simp
theorem bEc {l:List α} (h:aHm key l) {p:α} {k:Nat}:atG (key:=key) (aFj key p l) k=if k=key p then some p else atG (key:=key) l k:=by
 by_cases e:k=key p
 . rw [aD e]
   exact(xH (pI h)).mpr ⟨(pR h).mpr (.inl rfl),e.symm⟩
 . rw [aF e]
   cases q:atG (key:=key) l k with
   |none=>
    rw [bHo] at q ⊢
    intro y hy
    rcases(pR h).mp hy with rfl|⟨hy,_⟩
    . exact fun z=>e z.symm
    . exact q y hy
   |some y=>
    rw [xH h] at q
    rw [xH (pI h)]
    exact⟨(pR h).mpr (.inr ⟨q.1,by rw [q.2];exact e⟩),q.2⟩
theorem aUx {l:List α} {k:Nat}:(l.any fun y=>key y==k)=(atG (key:=key) l k).isSome:=by
 unfold atG
 rw [Bool.eq_iff_iff,List.any_eq_true,List.find?_isSome]
end
theorem iH (p:Picture): ∀l,putPicture p l=aFj Picture.key p l
 |[]=>rfl
 |x::l=>by unfold putPicture aFj;rw [iH p l]
theorem jG (p:Stream): ∀l,putStream p l=aFj Stream.key p l
 |[]=>rfl
 |x::l=>by unfold putStream aFj;rw [jG p l]
theorem aWt (s:State) (k:Nat):pictureAt s k=atG (key:=Picture.key) s.pictures k:=rfl
structure bDy (p:Picture):Prop where
 key:1<=p.key/\p.key<=99
 w:1<=p.w/\p.w<=24
 h:1<=p.h/\p.h<=24
 len:p.values.length=p.w*p.h
 val: ∀v∈p.values,v<1024
def bDz (p:Bytes×Nat×Bool):Prop:=p.1.length<=1742/\(∀b∈p.1,b<256)/\p.2.1<=3
structure lC (x:Stream):Prop where
 key:1<=x.key/\x.key<=99
 w:1<=x.w/\x.w<=24
 h:1<=x.h/\x.h<=24
 sl:1<=x.slices/\x.slices<=8/\x.slices<=x.h
 ref:x.ref<=99
 len:x.was.length=x.w*x.h
 val: ∀v∈x.was,v<1024
 few:x.packets.length<=20
 pkt: ∀p∈x.packets,bDz p
def Alike (x y:Stream):Prop:=x.w=y.w/\x.h=y.h/\x.slices=y.slices
structure bO (s:State):Prop where
 rp:aHm Picture.key s.pictures
 np:s.pictures.length<=6
 pics: ∀p∈s.pictures,bDy p
 rs:aHm Stream.key s.streams
 ns:s.streams.length<=6
 sOk: ∀x∈s.streams,lC x
 stamp: ∀x∈s.streams,x.stamp<s.next/\(x.ref≠0->x.refStamp<s.next)
 there: ∀x∈s.streams,x.ref≠0-> ∃y,streamAt s x.ref=some y
 rank: ∃ρ:Nat->Nat,∀x∈s.streams,x.ref≠0->ρ x.ref<ρ x.key
 same: ∀x∈s.streams,∀y∈s.streams,x.stamp=y.stamp->Alike x y
 refs: ∀x∈s.streams,∀y∈s.streams,x.ref≠0->y.stamp=x.refStamp->Alike x y
theorem bKd:bO start where
 rp:=List.Pairwise.nil
 np:=by decide
 pics:=by intro p h;cases h
 rs:=List.Pairwise.nil
 ns:=by decide
 sOk:=by intro p h;cases h
 stamp:=by intro p h;cases h
 there:=by intro p h;cases h
 rank:=⟨fun _=>0,by intro p h;cases h⟩
 same:=by intro p h;cases h
 refs:=by intro p h;cases h
section
variable {s:State} (ok:bO s)
include ok
theorem bO.at_ {k:Nat} {x:Stream}:streamAt s k=some x↔x∈s.streams/\x.key=k:=xH ok.rs
theorem bO.pat {k:Nat} {x:Picture}:pictureAt s k=some x↔x∈s.pictures/\x.key=k:=xH ok.rp
theorem bO.aOw {x y:Stream}:y∈(withStream s x).streams↔y=x\/(y∈s.streams/\y.key≠x.key):=by
 show y∈putStream x s.streams↔_
 rw [jG]
 exact pR ok.rs
theorem bO.zU {x:Stream} {k:Nat}:streamAt (withStream s x) k=if k=x.key then some x else streamAt s k:=by
 show atG (key:=Stream.key) (putStream x s.streams) k=_
 rw [jG]
 exact bEc ok.rs
theorem bO.aEo {x:Stream}:(withStream s x).streams.length=if(streamAt s x.key).isSome=true then s.streams.length else s.streams.length+1:=by
 show (putStream x s.streams).length=_
 rw [jG,aEn ok.rs,aUx]
 rfl
theorem bO.aPw {p:Picture} (hp:bDy p) (hn: ¬(6<=s.pictures.length/\(pictureAt s p.key).isNone=true)):bO {s with pictures:=putPicture p s.pictures} where
 rp:=by rw [iH];exact pI ok.rp
 np:=by
  show (putPicture p s.pictures).length<=6
  rw [iH,aEn ok.rp,aUx]
  have h:=ok.np
  rw [aWt] at hn
  split
  . exact h
  . rename_i q
    have:(atG (key:=Picture.key) s.pictures p.key).isNone=true:=by
     cases e:atG (key:=Picture.key) s.pictures p.key with
     |none=>rfl
     |some z=>rw [e] at q;simp at q
    have: ¬6<=s.pictures.length:=fun z=>hn ⟨z,this⟩
    omega
 pics:=by
  intro q hq
  have hq:q∈putPicture p s.pictures:=hq
  rw [iH,pR ok.rp] at hq
  rcases hq with rfl|hq
  . exact hp
  . exact ok.pics q hq.1
 rs:=ok.rs
 ns:=ok.ns
 sOk:=ok.sOk
 stamp:=ok.stamp
 there:=ok.there
 rank:=ok.rank
 same:=ok.same
 refs:=ok.refs
theorem bO.aVq (k:Nat):bO {s with pictures:=s.pictures.filter fun x=>x.key !=k} where
 rp:=List.Pairwise.filter _ ok.rp
 np:=Nat.le_trans (List.length_filter_le _ _) ok.np
 pics:=fun p hp=>ok.pics p (List.mem_filter.mp hp).1
 rs:=ok.rs
 ns:=ok.ns
 sOk:=ok.sOk
 stamp:=ok.stamp
 there:=ok.there
 rank:=ok.rank
 same:=ok.same
 refs:=ok.refs
theorem bO.aDd {x:Stream} {k:Nat} (hx:streamAt s k=some x) {ps:List (Bytes×Nat×Bool)} (h1:ps.length<=20) (h2: ∀p∈ps,bDz p):bO (withStream s {x with packets:=ps}):=by
 obtain⟨hm,hk⟩:=ok.at_.mp hx
 have sx:=ok.sOk x hm
 have mem: ∀y,y∈(withStream s {x with packets:=ps}).streams-> ∃z∈s.streams,y.key=z.key/\y.stamp=z.stamp/\y.ref=z.ref/\y.refStamp=z.refStamp/\Alike y z:=fun y hy=>by
  rcases ok.aOw.mp hy with rfl|hy
  . exact⟨x,hm,rfl,rfl,rfl,rfl,rfl,rfl,rfl⟩
  . exact⟨y,hy.1,rfl,rfl,rfl,rfl,rfl,rfl,rfl⟩
 refine⟨ok.rp,ok.np,ok.pics,?_,?_,?_,?_,?_,?_,?_,?_⟩
 . show aHm Stream.key (putStream _ s.streams)
   rw [jG];exact pI ok.rs
 . rw [ok.aEo]
   have e:streamAt s ({x with packets:=ps}:Stream).key=some x:=by
    show streamAt s x.key=some x
    rw [hk];exact hx
   rw [e,aD (show (some x).isSome=true from rfl)];exact ok.ns
 . intro y hy
   rcases ok.aOw.mp hy with rfl|hy
   . exact⟨sx.key,sx.w,sx.h,sx.sl,sx.ref,sx.len,sx.val,h1,h2⟩
   . exact ok.sOk y hy.1
 . intro y hy
   obtain⟨z,hz,_,e2,e3,e4,_⟩:=mem y hy
   rw [e2,e3,e4];exact ok.stamp z hz
 . intro y hy hr
   obtain⟨z,hz,_,_,e3,_,_⟩:=mem y hy
   rw [e3] at hr ⊢
   rw [ok.zU]
   split
   . exact⟨_,rfl⟩
   . exact ok.there z hz hr
 . obtain⟨ρ,hρ⟩:=ok.rank
   refine⟨ρ,fun y hy hr=> ?_⟩
   obtain⟨z,hz,e1,_,e3,_,_⟩:=mem y hy
   rw [e3] at hr ⊢
   rw [e1];exact hρ z hz hr
 . intro y hy y' hy' e
   obtain⟨z,hz,_,e2,_,_,a⟩:=mem y hy
   obtain⟨z',hz',_,e2',_,_,a'⟩:=mem y' hy'
   have:=ok.same z hz z' hz' (by rw [<-e2,<-e2'];exact e)
   exact⟨a.1.trans (this.1.trans a'.1.symm),a.2.1.trans (this.2.1.trans a'.2.1.symm),a.2.2.trans (this.2.2.trans a'.2.2.symm)⟩
 . intro y hy y' hy' hr e
   obtain⟨z,hz,_,_,e3,e4,a⟩:=mem y hy
   obtain⟨z',hz',_,e2',_,_,a'⟩:=mem y' hy'
   have:=ok.refs z hz z' hz' (by rw [<-e3];exact hr) (by rw [<-e2',<-e4];exact e)
   exact⟨a.1.trans (this.1.trans a'.1.symm),a.2.1.trans (this.2.1.trans a'.2.1.symm),a.2.2.trans (this.2.2.trans a'.2.2.symm)⟩
end
inductive mW (s:State) (goal:Nat):Nat->Prop
 |here:mW s goal goal
 |step {k:Nat} {x:Stream}:streamAt s k=some x->x.ref≠0->mW s goal x.ref->mW s goal k
def below (s:State) (ρ:Nat->Nat) (k:Nat):Nat:=(s.streams.filter fun y=>decide (ρ y.key<ρ k)).length
theorem aHw {α:Type} {p q:α->Bool}: ∀{l:List α} {x:α},(∀y∈l,p y=true->q y=true)->x∈l->p x=false->q x=true->(l.filter p).length<(l.filter q).length
 |[],x,_,h,_,_=>by cases h
 |a::l,x,hpq,h,hp,hq=>by
  have hle:(l.filter p).length<=(l.filter q).length:=by
   have: ∀m:List α,(∀y∈m,p y=true->q y=true)->(m.filter p).length<=(m.filter q).length:=by
    intro m
    induction m with
    |nil=>intro _;simp
    |cons b m ih=>
     intro hm
     have h1:=ih fun y hy=>hm y (List.mem_cons_of_mem _ hy)
     have h2:=hm b List.mem_cons_self
     rw [List.filter_cons,List.filter_cons]
     cases hb:p b with
     |true=>rw [h2 hb];simp;exact h1
     |false=>
      simp only [Bool.false_eq_true,if_false]
      split
      . simp only [List.length_cons];omega
      . exact h1
   exact this l fun y hy=>hpq y (List.mem_cons_of_mem _ hy)
  rcases List.mem_cons.mp h with rfl|h
  . rw [List.filter_cons,List.filter_cons,hp,hq];simp;omega
  . have ih:=aHw (fun y hy=>hpq y (List.mem_cons_of_mem _ hy)) h hp hq
    have h2:=hpq a List.mem_cons_self
    rw [List.filter_cons,List.filter_cons]
    cases hb:p a with
    |true=>rw [h2 hb];simp;exact ih
    |false=>
     simp only [Bool.false_eq_true,if_false]
     split
     . simp only [List.length_cons];omega
     . exact ih
section
variable {s:State} (ok:bO s) {ρ:Nat->Nat} (hρ: ∀x∈s.streams,x.ref≠0->ρ x.ref<ρ x.key)
include ok hρ
theorem sS {k:Nat} {x:Stream} (hx:streamAt s k=some x) (hr:x.ref≠0):below s ρ x.ref<below s ρ k:=by
 obtain⟨hm,hk⟩:=ok.at_.mp hx
 obtain⟨y,hy⟩:=ok.there x hm hr
 obtain⟨hym,hyk⟩:=ok.at_.mp hy
 have hl:=hρ x hm hr
 unfold below
 refine aHw (x:=y) (fun z _ h=> ?_) hym ?_ ?_
 . simp only [aC] at h ⊢; rw [<-hk];omega
 . rw [hyk];simp
 . rw [hyk,<-hk];simpa using hl
theorem aEb {k:Nat} {x:Stream} (hx:streamAt s k=some x):below s ρ k+1<=s.streams.length:=by
 obtain⟨hm,hk⟩:=ok.at_.mp hx
 have h:=aHw (p:=fun y:Stream=>decide (ρ y.key<ρ k)) (q:=fun _=>true) (l:=s.streams) (x:=x) (fun _ _ _=>rfl) hm (by rw [hk];simp) rfl
 rw [List.filter_eq_self.mpr (fun _ _=>rfl)] at h
 exact h
theorem yH {goal:Nat}: ∀(f k:Nat),below s ρ k<f->(reaches s goal f k=true↔mW s goal k)
 |0,k,h=>by omega
 |f+1,k,h=>by
  unfold reaches
  constructor
  . intro e
    rw [Bool.or_eq_true] at e
    rcases e with e|e
    . have:k=goal:=by simpa using e
      rw [this];exact .here
    . cases hx:streamAt s k with
      |none=>rw [hx] at e;cases e
      |some x=>
       rw [hx] at e
       simp only [Bool.and_eq_true,bne_iff_ne,ne_eq] at e
       have:=sS ok hρ hx e.1
       exact .step hx e.1 ((yH f x.ref (by omega)).mp e.2)
  . intro e
    cases e with
    |here=>simp
    |step hx hr hl=>
     rename_i x
     rw [hx]
     have:=sS ok hρ hx hr
     simp only [Bool.or_eq_true,Bool.and_eq_true,bne_iff_ne,ne_eq]
     exact .inr ⟨hr,(yH f x.ref (by omega)).mpr hl⟩
end
theorem bO.reaches {s:State} (ok:bO s) {k goal:Nat} {x:Stream} (hx:streamAt s k=some x):Vbfaae.reaches s goal 7 k=true↔mW s goal k:=by
 obtain⟨ρ,hρ⟩:=ok.rank
 have h1:=aEb ok hρ hx
 have h2:=ok.ns
 exact yH ok hρ 7 k (by omega)
end M
end
section
namespace M
open Vbfaae
theorem Alike.symm {x y:Stream} (h:Alike x y):Alike y x:=⟨h.1.symm,h.2.1.symm,h.2.2.symm⟩
theorem Alike.trans {x y z:Stream} (h:Alike x y) (k:Alike y z):Alike x z:=⟨h.1.trans k.1,h.2.1.trans k.2.1,h.2.2.trans k.2.2⟩
open Classical in
theorem bO.aIw {s:State} (ok:bO s) {y:Stream} {n:Nat} (hy:lC y) (room: ¬(6<=s.streams.length/\(streamAt s y.key).isNone=true)) (hn:s.next<=n)
 (h1:y.stamp<n) (h2:y.ref≠0->y.refStamp<n) (h3:y.ref≠0-> ∃r,streamAt s y.ref=some r) (h4:y.ref≠0-> ¬mW s y.key y.ref)
 (h5: ∀z∈s.streams,z.stamp=y.stamp->Alike z y) (h6: ∀z∈s.streams,z.ref≠0->z.refStamp=y.stamp->Alike z y) (h7:y.ref≠0-> ∀z∈s.streams,z.stamp=y.refStamp->Alike y z):
 bO (withStream {s with next:=n} y):=by
 have mem: ∀z,z∈(withStream {s with next:=n} y).streams↔z=y\/(z∈s.streams/\z.key≠y.key):=fun z=>ok.aOw (x:=y) (y:=z)
 have at_: ∀k,streamAt (withStream {s with next:=n} y) k=if k=y.key then some y else streamAt s k:=fun k=>ok.zU (x:=y) (k:=k)
 refine⟨ok.rp,ok.np,ok.pics,?_,?_,?_,?_,?_,?_,?_,?_⟩
 . show aHm Stream.key (putStream _ s.streams)
   rw [jG];exact pI ok.rs
 . have e:=ok.aEo (x:=y)
   have h:=ok.ns
   show (putStream y s.streams).length<=6
   have e:(putStream y s.streams).length=_:=e
   rw [e]
   split
   . exact h
   . rename_i q
     have:(streamAt s y.key).isNone=true:=by
      cases e:streamAt s y.key with
      |none=>rfl
      |some z=>rw [e] at q;simp at q
     have: ¬6<=s.streams.length:=fun z=>room ⟨z,this⟩
     omega
 . intro z hz
   rcases(mem z).mp hz with rfl|hz
   . exact hy
   . exact ok.sOk z hz.1
 . intro z hz
   show z.stamp<n/\(z.ref≠0->z.refStamp<n)
   rcases(mem z).mp hz with rfl|hz
   . exact⟨h1,h2⟩
   . have:=ok.stamp z hz.1
     exact⟨by omega,fun q=>by have:=this.2 q;omega⟩
 . intro z hz hr
   rw [at_]
   split
   . exact⟨_,rfl⟩
   . rcases(mem z).mp hz with rfl|hz
     . exact h3 hr
     . exact ok.there z hz.1 hr
 . obtain⟨ρ,hρ⟩:=ok.rank
   refine⟨fun j=>if mW s y.key j then ρ j+ρ y.ref+1 else ρ j,fun z hz hr=> ?_⟩
   simp only
   rcases(mem z).mp hz with rfl|hz
   . rw [aF (h4 hr),aD .here];omega
   . have hz1:streamAt s z.key=some z:=ok.at_.mpr ⟨hz.1,rfl⟩
     have hl:=hρ z hz.1 hr
     by_cases q:mW s y.key z.ref
     . rw [aD q,aD (.step hz1 hr q)];omega
     . rw [aF q]
       split<;>omega
 . intro a ha b hb e
   rcases(mem a).mp ha with rfl|ha<;>rcases(mem b).mp hb with rfl|hb
   . exact⟨rfl,rfl,rfl⟩
   . exact(h5 b hb.1 e.symm).symm
   . exact h5 a ha.1 e
   . exact ok.same a ha.1 b hb.1 e
 . intro a ha b hb hr e
   rcases(mem a).mp ha with rfl|ha<;>rcases(mem b).mp hb with rfl|hb
   . exact⟨rfl,rfl,rfl⟩
   . exact h7 hr b hb.1 e
   . exact h6 a ha.1 hr e.symm
   . exact ok.refs a ha.1 b hb.1 hr e
theorem aUe {s:State} (ok:bO s) {ρ:Nat->Nat} (hρ: ∀x∈s.streams,x.ref≠0->ρ x.ref<ρ x.key) (i:Nat):
 ∀(f g:Nat) (x:Stream),x∈s.streams->below s ρ x.key<f->below s ρ x.key<g->readSlice s f x i=readSlice s g x i
 |0,_,_,_,h,_=>by omega
 |f+1,0,_,_,_,h=>by omega
 |f+1,g+1,x,hx,hf,hg=>by
  have ih:=aUe ok hρ i f g
  rw [pC,pC]
  have e:jW s f x i=jW s g x i:=by
   unfold jW
   cases hy:streamAt s x.ref with
   |none=>rfl
   |some y=>
    obtain⟨hm,hk⟩:=ok.at_.mp hy
    have hr:x.ref≠0:=by
     have:=(ok.sOk y hm).key;omega
    have hb:=sS ok hρ (ok.at_.mpr ⟨hx,rfl⟩) hr
    simp only
    rw [ih y hm (by rw [hk];omega) (by rw [hk];omega)]
  rw [e]
def refOf (s:State) (x:Stream) (i:Nat):Option (List Nat):=jW s 7 x i
theorem aWw {s:State} (ok:bO s) {x:Stream} (hx:x∈s.streams) (i:Nat):readSlice s 7 x i=cU x i (refOf s x i) x.packets 0:=by
 obtain⟨ρ,hρ⟩:=ok.rank
 rw [pC]
 have e:jW s 6 x i=refOf s x i:=by
  unfold refOf jW
  cases hy:streamAt s x.ref with
  |none=>rfl
  |some y=>
   obtain⟨hm,hk⟩:=ok.at_.mp hy
   have h1:=aEb ok hρ (ok.at_.mpr ⟨hm,rfl⟩)
   have h2:=ok.ns
   have hr:x.ref≠0:=by
    have:=(ok.sOk y hm).key;omega
   have hb:=sS ok hρ (ok.at_.mpr ⟨hx,rfl⟩) hr
   have h3:=aEb ok hρ (ok.at_.mpr ⟨hx,rfl⟩)
   simp only
   rw [aUe ok hρ i 6 7 y hm (by rw [hk];omega) (by rw [hk];omega)]
 rw [e]
theorem aBd {mode w:Nat}: ∀(rs d:List Nat) (s:Stats) (l:Bits) (out:List Nat×Bits),decodeFrom mode w d rs s l=some out->(∀v∈d,v<1024)->out.1.length=d.length+rs.length/\ ∀v∈out.1,v<1024
 |[],d,s,l,out,h,hd=>by
  unfold decodeFrom at h
  cases h
  exact⟨rfl,hd⟩
 |r::rs,d,s,l,out,h,hd=>by
  unfold decodeFrom at h
  simp only at h
  cases hx:readCode (kOf (statOf s (context (nearOf w d d.length)))) l with
  |none=>rw [hx] at h;cases h
  |some x=>
   rw [hx] at h
   have:=aBd rs _ _ _ out h (fun v hv=>by
    rcases List.mem_append.mp hv with hv|hv
    . exact hd v hv
    . rw [List.mem_singleton.mp hv];exact aKt _ _)
   refine⟨?_,this.2⟩
   rw [this.1];simp;omega
theorem uB {mode w:Nat} {rs:List Nat} {b:Bytes} {l:List Nat} (h:decoded mode w rs b=some l):l.length=rs.length/\ ∀v∈l,v<1024:=by
 unfold decoded at h
 cases hx:decodeFrom mode w [] rs fresh (allBits b) with
 |none=>rw [hx] at h;cases h
 |some out=>
  rw [hx] at h
  have:=aBd rs [] _ _ out hx (by intro v hv;cases hv)
  simp only at h
  split at h
  . cases h
    simpa using this
  . cases h
theorem oZ {x:Stream} {i:Nat} {rr:Option (List Nat)} (hrr: ∀r,rr=some r->r.length=countIn x i): ∀(l:List (Bytes×Nat×Bool)) (w:Nat) (v:List Nat),cU x i rr l w= .ok v->v.length=countIn x i/\ ∀z∈v,z<1024
 |[],w,v,h=>by cases h
 |p::l,w,v,h=>by
  unfold cU at h
  cases hd:decOf x i rr p.1 with
  |none=>rw [hd] at h;exact oZ hrr l w v h
  |some r=>
   rw [hd] at h
   cases r with
   |ok u=>
    simp only at h
    cases h
    unfold decOf at hd
    cases hm:modeIn x i p.1 with
    |none=>rw [hm] at hd;cases hd
    |some m=>
     rw [hm] at hd
     simp only [Option.map_some,Option.some.injEq] at hd
     by_cases h5:m=5
     . rw [aD h5] at hd
       cases rr with
       |none=>cases hd
       |some r=>
        simp only at hd
        cases hq:decoded 5 x.w r (payload p.1) with
        |none=>rw [hq] at hd;cases hd
        |some l'=>
         rw [hq] at hd
         cases hd
         have:=uB hq
         rw [hrr r rfl] at this
         exact this
     . rw [aF h5] at hd
       cases hq:decoded m x.w (List.replicate (countIn x i) 0) (payload p.1) with
       |none=>rw [hq] at hd;cases hd
       |some l'=>
        rw [hq] at hd
        cases hd
        have:=uB hq
        rw [List.length_replicate] at this
        exact this
   |error e=>
    by_cases he:e=1
    . subst he;exact oZ hrr l 1 v h
    . have:cU x i rr l w= .ok v:=by
       revert h
       simp only
       exact id
      exact oZ hrr l w v this
theorem aBb {x y:Stream} (h:Alike x y) (i:Nat):countIn x i=countIn y i:=by
 unfold countIn;rw [h.1,h.2.1,h.2.2]
theorem aWx {s:State} (ok:bO s) (i:Nat): ∀(f:Nat) (x:Stream),x∈s.streams-> ∀v,readSlice s f x i= .ok v->v.length=countIn x i/\ ∀z∈v,z<1024
 |0,x,_,v,h=>by unfold readSlice at h;cases h
 |f+1,x,hx,v,h=>by
  rw [pC] at h
  refine oZ (fun r hr=> ?_) _ _ _ h
  unfold jW at hr
  cases hy:streamAt s x.ref with
  |none=>rw [hy] at hr;cases hr
  |some y=>
   rw [hy] at hr
   simp only at hr
   obtain⟨hm,hk⟩:=ok.at_.mp hy
   by_cases hst:y.stamp≠x.refStamp
   . rw [aD hst] at hr;cases hr
   . rw [aF hst] at hr
     cases hq:readSlice s f y i with
     |error _=>rw [hq] at hr;cases hr
     |ok r'=>
      rw [hq] at hr
      cases hr
      have h1:=(aWx ok i f y hm _ hq).1
      have hr:x.ref≠0:=by
       have:=(ok.sOk y hm).key;omega
      rw [h1]
      exact aBb (ok.refs x hx y hm hr (by simpa using hst)).symm i
theorem bJr {s:State} (ok:bO s) {x:Stream} (hx:x∈s.streams) {i:Nat} {r:List Nat} (h:refOf s x i=some r):r.length=countIn x i/\ ∀z∈r,z<1024:=by
 unfold refOf jW at h
 cases hy:streamAt s x.ref with
 |none=>rw [hy] at h;cases h
 |some y=>
  rw [hy] at h
  simp only at h
  obtain⟨hm,hk⟩:=ok.at_.mp hy
  by_cases hst:y.stamp≠x.refStamp
  . rw [aD hst] at h;cases h
  . rw [aF hst] at h
    cases hq:readSlice s 7 y i with
    |error _=>rw [hq] at h;cases h
    |ok r'=>
     rw [hq] at h
     cases h
     have h1:=aWx ok i 7 y hm _ hq
     have hr:x.ref≠0:=by
      have:=(ok.sOk y hm).key;omega
     exact⟨h1.1.trans (aBb (ok.refs x hx y hm hr (by simpa using hst)).symm i),h1.2⟩
theorem mL {h S i j:Nat} (hij:i<=j):rowOf h S i<=rowOf h S j:=Nat.div_le_div_right (Nat.mul_le_mul_right _ hij)
theorem aDe {h S:Nat} (hS:1<=S):rowOf h S S=h:=by
 unfold rowOf
 rw [Nat.mul_comm];exact Nat.mul_div_cancel _ (by omega)
theorem bJu {h S i:Nat} (hS:1<=S) (hSh:S<=h):rowOf h S i<rowOf h S (i+1):=by
 unfold rowOf
 rw [Nat.add_mul,Nat.one_mul]
 have:(i*h+S)/S=i*h/S+1:=Nat.add_div_right _ (by omega)
 have h2:(i*h+S)/S<=(i*h+h)/S:=Nat.div_le_div_right (by omega)
 omega
end M
end
section
namespace M
open Vbfaae
def rowsOf (x:Stream) (i:Nat) (r:Except Nat (List Nat)):List (Option (List Nat)):=match r with
 | .ok l=>(List.range (rowOf x.h x.slices (i+1)-rowOf x.h x.slices i)).map fun j=>some ((l.drop (j*x.w)).take x.w)
 | .error _=>List.replicate (rowOf x.h x.slices (i+1)-rowOf x.h x.slices i) none
theorem zip_map_self {α β:Type} (g:α->β): ∀l:List α,l.zip (l.map g)=l.map fun a=>(a,g a)
 |[]=>rfl
 |a::l=>by simp [zip_map_self g l]
theorem aKj (s:State) (x:Stream):rowsRead s x=(List.range x.slices).flatMap fun i=>rowsOf x i (readSlice s 7 x i):=by
 unfold rowsRead slicesRead
 rw [zip_map_self,List.flatMap_map]
 rfl
theorem aBp (x:Stream) (i:Nat) (r:Except Nat (List Nat)):(rowsOf x i r).length=rowOf x.h x.slices (i+1)-rowOf x.h x.slices i:=by
 unfold rowsOf
 cases r<;>simp
theorem yI (x:Stream) (g:Nat->Except Nat (List Nat)): ∀m,((List.range m).flatMap fun i=>rowsOf x i (g i)).length=rowOf x.h x.slices m
 |0=>by simp [rowOf]
 |m+1=>by
  rw [List.range_succ,List.flatMap_append,List.length_append,yI x g m]
  simp only [List.flatMap_cons,List.flatMap_nil,List.append_nil,aBp]
  have:= @mL x.h x.slices m (m+1) (by omega)
  omega
def aSz (w:Nat) (r:List Nat):Prop:=r.length=w/\ ∀v∈r,v<1024
theorem aKk {s:State} (ok:bO s) {x:Stream} (hx:x∈s.streams):(rowsRead s x).length=x.h/\ ∀r,some r∈rowsRead s x->aSz x.w r:=by
 have sx:=ok.sOk x hx
 rw [aKj]
 refine⟨by rw [yI,aDe sx.sl.1],fun r hr=> ?_⟩
 obtain⟨i,hi,hr⟩:=List.mem_flatMap.mp hr
 unfold rowsOf at hr
 cases hq:readSlice s 7 x i with
 |error _=>
  rw [hq] at hr
  have:=(List.mem_replicate.mp hr).2
  cases this
 |ok l=>
  rw [hq] at hr
  simp only at hr
  obtain⟨j,hj,e⟩:=List.mem_map.mp hr
  cases e
  have hl:=aWx ok i 7 x hx l hq
  have hj:=List.mem_range.mp hj
  refine⟨?_,fun v hv=>hl.2 v (List.mem_of_mem_drop (List.mem_of_mem_take hv))⟩
  rw [List.length_take,List.length_drop,hl.1]
  unfold countIn
  have:(j+1)*x.w<=(rowOf x.h x.slices (i+1)-rowOf x.h x.slices i)*x.w:=Nat.mul_le_mul_right _ (by omega)
  rw [Nat.mul_comm x.w,Nat.min_eq_left]
  rw [Nat.add_mul] at this
  omega
theorem uN {l:List (Option (List Nat))}: ∀{j:Nat} {r:List Nat},rowAbove l j=some r->some r∈l
 |0,r,h=>by cases h
 |j+1,r,h=>by
  unfold rowAbove at h
  cases hq:l.getD j none with
  |none=>rw [hq] at h;exact uN h
  |some r'=>
   rw [hq] at h
   cases h
   rw [List.getD_eq_getElem?_getD] at hq
   cases hg:l[j]? with
   |none=>rw [hg] at hq;cases hq
   |some z=>
    rw [hg] at hq
    simp only [Option.getD_some] at hq
    subst hq
    exact List.mem_of_getElem? hg
theorem uO {l:List (Option (List Nat))} {j:Nat} {r:List Nat} (h:rowBelow l j=some r):some r∈l:=by
 unfold rowBelow at h
 cases hq:(l.drop (j+1)).find? fun r=>r.isSome with
 |none=>rw [hq] at h;cases h
 |some z=>
  rw [hq] at h
  have:z=some r:=h
  subst this
  exact List.mem_of_mem_drop (List.mem_of_find?_eq_some hq)
theorem aFs {w:Nat} {l:List (Option (List Nat))} (h: ∀r,some r∈l->aSz w r):(shownRows w l).length=l.length/\ ∀r∈shownRows w l,aSz w r:=by
 unfold shownRows
 refine⟨by simp,fun r hr=> ?_⟩
 obtain⟨j,hj,e⟩:=List.mem_map.mp hr
 subst e
 have hm:MIDDLE=512:=rfl
 cases hq:l.getD j none with
 |some r'=>
  simp only
  rw [List.getD_eq_getElem?_getD] at hq
  cases hg:l[j]? with
  |none=>rw [hg] at hq;cases hq
  |some z=>
   rw [hg] at hq
   simp only [Option.getD_some] at hq
   subst hq
   exact h _ (List.mem_of_getElem? hg)
 |none=>
  simp only
  cases ha:rowAbove l j with
  |some a=>
   have h1:=h a (uN ha)
   cases hb:rowBelow l j with
   |some b=>
    have h2:=h b (uO hb)
    simp only
    refine⟨by rw [aG,List.length_zip,h1.1,h2.1];omega,fun v hv=> ?_⟩
    obtain⟨p,hp,e⟩:=List.mem_map.mp hv
    have q1:=h1.2 p.1 (List.of_mem_zip (a:=p.1) (b:=p.2) hp).1
    have q2:=h2.2 p.2 (List.of_mem_zip (a:=p.1) (b:=p.2) hp).2
    omega
   |none=>exact h1
  |none=>
   cases hb:rowBelow l j with
   |some b=>exact h b (uO hb)
   |none=>
    refine⟨by simp,fun v hv=> ?_⟩
    have:=(List.mem_replicate.mp hv).2
    omega
theorem pP {w:Nat}: ∀{l:List (List Nat)},(∀r∈l,r.length=w)->l.flatten.length=l.length*w
 |[],_=>by simp
 |r::l,h=>by
  rw [List.flatten_cons,List.length_append,h r List.mem_cons_self,pP (l:=l) fun q hq=>h q (List.mem_cons_of_mem _ hq),List.length_cons,Nat.add_mul]
  omega
theorem zP {s:State} (ok:bO s) {x:Stream} (hx:x∈s.streams):(unpacked s x).length=x.w*x.h/\ ∀v∈unpacked s x,v<1024:=by
 have h1:=aKk ok hx
 have h2:=aFs h1.2
 unfold unpacked
 refine⟨?_,fun v hv=> ?_⟩
 . rw [pP fun r hr=>(h2.2 r hr).1,h2.1,h1.1,Nat.mul_comm]
 . obtain⟨r,hr,hv⟩:=List.mem_flatten.mp hv
   exact(h2.2 r hr).2 v hv
theorem tY {p:Bytes} {i:Nat} (h: ∀b∈p,b<256):(turned p i).length=p.length/\ ∀b∈turned p i,b<256:=by
 unfold turned
 refine⟨by simp,fun b hb=> ?_⟩
 rcases List.mem_or_eq_of_mem_set hb with hb|hb
 . exact h b hb
 . subst hb
   have e:(256:Nat)=2 ^ 8:=by decide
   rw [e]
   refine Nat.xor_lt_two_pow ?_ (Nat.pow_lt_pow_right (by decide) (by omega))
   rw [List.getD_eq_getElem?_getD]
   cases hg:p[i/8]? with
   |none=>simp
   |some z=>simpa using h z (List.mem_of_getElem? hg)
theorem bIj {p:Bytes} {bit pattern:Nat} (h: ∀b∈p,b<256):(hitBy p bit pattern).length=p.length/\ ∀b∈hitBy p bit pattern,b<256:=by
 unfold hitBy
 have: ∀(l:List Nat) (q:Bytes),q.length=p.length->(∀b∈q,b<256)->(l.foldl (fun q j=>if pattern.testBit j=true/\bit+j<8*p.length then turned q (bit+j) else q) q).length=p.length/\
  ∀b∈l.foldl (fun q j=>if pattern.testBit j=true/\bit+j<8*p.length then turned q (bit+j) else q) q,b<256:=by
  intro l
  induction l with
  |nil=>intro q h1 h2;exact⟨h1,h2⟩
  |cons j l ih=>
   intro q h1 h2
   rw [List.foldl_cons]
   apply ih
   . split
     . rw [(tY h2).1];exact h1
     . exact h1
   . split
     . exact(tY h2).2
     . exact h2
 exact this _ p rfl h
theorem aXy (n:Nat): ∀b∈two n,b<256:=by
 intro b hb
 simp [two] at hb
 omega
theorem bLe (n:Nat): ∀b∈four n,b<256:=by
 intro b hb
 simp [four] at hb
 omega
theorem rP (w h S i:Nat) (l:List Nat):(cutOut w h S i l).length<=l.length:=by
 unfold cutOut
 rw [List.length_take,List.length_drop];omega
theorem aBc {w h S i:Nat} {l:List Nat} (hl:l.length=w*h) (hS:1<=S) (hi:i<S):(cutOut w h S i l).length=w*(rowOf h S (i+1)-rowOf h S i):=by
 unfold cutOut
 rw [List.length_take,List.length_drop,hl]
 have h1:rowOf h S (i+1)<=h:=by
  have:= @mL h S (i+1) S (by omega)
  rw [aDe hS] at this;exact this
 have h2:= @mL h S i (i+1) (by omega)
 rw [<-Nat.mul_sub,Nat.min_eq_left]
 exact Nat.mul_le_mul_left _ (by omega)
theorem zZ {w h S i:Nat} {l:List Nat} (hl: ∀v∈l,v<1024): ∀v∈cutOut w h S i l,v<1024:=fun v hv=>hl v (List.mem_of_mem_drop (List.mem_of_mem_take hv))
theorem bAc {x:Stream} (hk:x.w<=24/\x.h<=24/\x.slices<=8/\x.ref<=99) (hl:x.was.length<=576) {i m:Nat} (hi:i<256) (hm:m<=5) (r:List Nat):(packetOf x i m r).length<=1742/\ ∀b∈packetOf x i m r,b<256:=by
 refine⟨?_,fun b hb=> ?_⟩
 . rw [uM]
   have h1:= @xP m x.w (cutOut x.w x.h x.slices i x.was) r
   have h2:=rP x.w x.h x.slices i x.was
   omega
 . unfold packetOf sealed_ at hb
   rcases List.mem_append.mp hb with hb|hb
   . rcases List.mem_append.mp hb with hb|hb
     . unfold headOf at hb
       rcases List.mem_append.mp hb with hb|hb
       . exact aXy _ b hb
       . rcases List.mem_append.mp hb with hb|hb
         . simp at hb;omega
         . exact aXy _ b hb
     . exact aCo b hb
   . exact bLe _ b hb
theorem aTy {x:Stream} (hk:x.w<=24/\x.h<=24/\x.slices<=8/\x.ref<=99) (hl:x.was.length<=576) (ref:List Nat):(packed x ref).packets.length=x.slices/\ ∀p∈(packed x ref).packets,bDz p:=by
 unfold packed
 refine⟨by simp,fun p hp=> ?_⟩
 obtain⟨i,hi,e⟩:=List.mem_map.mp hp
 subst e
 have hi:=List.mem_range.mp hi
 have hb:bestMode x i (cutOut x.w x.h x.slices i ref)<=5:=by
  rw [aJv]
  have:=zV (fun m=>(encoded m x.w (cutOut x.w x.h x.slices i x.was) (cutOut x.w x.h x.slices i ref)).length) (if x.ref=0 then 4 else 5)
  have h5:(if x.ref=0 then 4 else 5)<=5:=by split<;>omega
  exact Nat.le_trans this h5
 have:=bAc hk hl (i:=i) (by omega) hb (cutOut x.w x.h x.slices i ref)
 exact⟨this.1,this.2,by simp⟩
end M
end
section
namespace M
open Vbfaae
theorem cB {z lo hi:Int}:within z lo hi=true↔lo<=z/\z<=hi:=by
 unfold within;simp
theorem cP {z:Int}:keyed z=true↔1<=z/\z<=99:=by
 unfold keyed
 rw [cB]
 show 1<=z/\z<=((99:Nat):Int)↔_
 exact Iff.rfl
theorem aOz {l:List Int} {hi:Int} (h:(l.all fun z=>within z 0 hi)=true) {n:Nat} (hn:n∈nats l):(n:Int)<=hi:=by
 unfold nats at hn
 obtain⟨z,hz,e⟩:=List.mem_map.mp hn
 have:=List.all_eq_true.mp h z hz
 rw [cB] at this
 omega
theorem not_false {b:Bool} (h: ¬b=false):b=true:=by cases b<;>simp_all
theorem bMr {s:State} (ok:bO s) (c:Call):bO (step s c).1:=by
 have onS: ∀(k:Int) (f:Stream->State×List Int),(∀x,streamAt s k.toNat=some x->keyed k=true->bO (f x).1)->bO (onStream s k f).1:=fun k f h=>by
  unfold onStream
  split
  . exact ok
  . rename_i hk
    split
    . exact ok
    . exact h _ ‹_› (not_false hk)
 have onP: ∀(k:Int) (f:Picture->State×List Int),(∀x,pictureAt s k.toNat=some x->keyed k=true->bO (f x).1)->bO (onPicture s k f).1:=fun k f h=>by
  unfold onPicture
  split
  . exact ok
  . rename_i hk
    split
    . exact ok
    . exact h _ ‹_› (not_false hk)
 have onK: ∀(k i:Int) (f:Stream->Bytes×Nat×Bool->State×List Int),(∀x p,streamAt s k.toNat=some x->x.packets[i.toNat]? =some p->bO (f x p).1)->bO (onPacket s k i f).1:=fun k i f h=>by
  unfold onPacket
  split
  . exact ok
  . refine onS k _ fun x hx _=> ?_
    split
    . exact ok
    . exact h x _ hx ‹_›
 have pk: ∀{x:Stream} {k:Nat},streamAt s k=some x->x.packets.length<=20/\ ∀p∈x.packets,bDz p:=fun hx=>
  ⟨(ok.sOk _ (ok.at_.mp hx).1).few,(ok.sOk _ (ok.at_.mp hx).1).pkt⟩
 have e6:PICTURES=6:=rfl
 have e6':STREAMS=6:=rfl
 have e20:PACKETS=20:=rfl
 cases c with
 |picture k w h l=>
  simp only [step]
  split
  . exact ok
  . rename_i hc
    have hc:=not_false hc
    simp only [Bool.and_eq_true,aC] at hc
    obtain⟨h1,h2,h3,h4,h5⟩:=hc
    rw [cP] at h1
    rw [cB] at h2 h3
    have h2':1<=w/\w<=24:=h2
    have h3':1<=h/\h<=24:=h3
    split
    . exact ok
    . rename_i hr
      refine ok.aPw ⟨?_,?_,?_,?_,?_⟩ hr
      . show 1<=k.toNat/\k.toNat<=99;omega
      . show 1<=w.toNat/\w.toNat<=24;omega
      . show 1<=h.toNat/\h.toNat<=24;omega
      . show (nats l).length=w.toNat*h.toNat
        unfold nats
        rw [aG]
        obtain⟨a,rfl⟩:=Int.eq_ofNat_of_zero_le (show 0<=w by omega)
        obtain⟨b,rfl⟩:=Int.eq_ofNat_of_zero_le (show 0<=h by omega)
        show l.length=a*b
        exact_mod_cast h4
      . intro v hv
        have:=aOz h5 hv
        omega
 |values k=>exact onP k _ fun x _ _=>ok
 |pack k slices ref=>
  simp only [step]
  split
  . exact ok
  . rename_i hc
    have hc:=not_false hc
    simp only [Bool.and_eq_true] at hc
    rw [cB,cB] at hc
    have hs:1<=slices/\slices<=8:=hc.1
    have hr0:0<=ref/\ref<=99:=hc.2
    refine onP k _ fun p hp hk=> ?_
    obtain⟨hm,hkk⟩:=ok.pat.mp hp
    have po:=ok.pics p hm
    split
    . exact ok
    . rename_i hh
      split
      . exact ok
      . rename_i room
        have hlen:p.values.length<=576:=by
         rw [po.len]
         exact Nat.le_trans (Nat.mul_le_mul po.w.2 po.h.2) (by decide)
        have fresh_stamp: ∀z∈s.streams,z.stamp≠s.next:=fun z hz e=>by have:=(ok.stamp z hz).1;omega
        have put: ∀(rs:Nat) (rl:List Nat),(ref.toNat≠0->rs<s.next+1)->(ref.toNat≠0-> ∃r,streamAt s ref.toNat=some r)->(ref.toNat≠0-> ¬mW s p.key ref.toNat)->
         (ref.toNat≠0-> ∀z∈s.streams,z.stamp=rs->p.w=z.w/\p.h=z.h/\slices.toNat=z.slices)->
         bO (withStream {s with next:=s.next+1} (packed ⟨p.key,s.next,p.w,p.h,slices.toNat,ref.toNat,rs,p.values,[]⟩ rl)):=fun rs rl a1 a2 a3 a4=>by
         have pko:=aTy (x:=⟨p.key,s.next,p.w,p.h,slices.toNat,ref.toNat,rs,p.values,[]⟩) ⟨po.w.2,po.h.2,by show slices.toNat<=8;omega,by show ref.toNat<=99;omega⟩ hlen rl
         refine ok.aIw (y:=packed ⟨p.key,s.next,p.w,p.h,slices.toNat,ref.toNat,rs,p.values,[]⟩ rl) (n:=s.next+1) ⟨po.key,po.w,po.h,?_,?_,po.len,po.val,?_,pko.2⟩ room (by omega) (by show s.next<s.next+1;omega) a1 a2 a3 ?_ ?_ ?_
         . show 1<=slices.toNat/\slices.toNat<=8/\slices.toNat<=p.h
           omega
         . show ref.toNat<=99;omega
         . rw [pko.1];show slices.toNat<=20;omega
         . intro z hz e
           exact absurd e (fresh_stamp z hz)
         . intro z hz hzr e
           have:=(ok.stamp z hz).2 hzr
           have e:z.refStamp=s.next:=e
           omega
         . intro hr z hz e
           exact a4 hr z hz e
        split
        . rename_i e0
          have e0':ref.toNat=0:=by rw [e0];rfl
          exact put 0 _ (fun h=>absurd e0' h) (fun h=>absurd e0' h) (fun h=>absurd e0' h) (fun h=>absurd e0' h)
        . split
          . exact ok
          . rename_i r hr
            obtain⟨rm,rk⟩:=ok.at_.mp hr
            split
            . exact ok
            . rename_i al
              simp only [Bool.or_eq_true,bne_iff_ne,ne_eq,not_or,Decidable.not_not] at al
              split
              . exact ok
              . rename_i nr
                rw [rk] at nr
                refine put r.stamp _ (fun _=>by have:=(ok.stamp r rm).1;omega) (fun _=>⟨r,hr⟩) (fun _ hl=>nr ((ok.reaches hr).mpr hl)) fun _ z hz e=> ?_
                have:=ok.same z hz r rm e
                exact⟨al.1.symm.trans this.1.symm,al.2.1.symm.trans this.2.1.symm,al.2.2.symm.trans this.2.2.symm⟩
 |packet k i=>exact onK k i _ fun x p _ _=>ok
 |packets k=>exact onS k _ fun x _ _=>ok
 |flip k i byte bit=>
  simp only [step]
  split
  . exact ok
  . refine onK k i _ fun x p hx hp=> ?_
    split
    . exact ok
    . split
      . exact ok
      . rename_i hh
        have h0:=pk hx
        have hpp:=h0.2 p (List.mem_of_getElem? hp)
        refine ok.aDd hx (by rw [List.length_set];exact h0.1) fun q hq=> ?_
        rcases List.mem_or_eq_of_mem_set hq with hq|hq
        . exact h0.2 q hq
        . subst hq
          have ht:= @tY p.1 (8*byte.toNat+(7-bit.toNat)) hpp.2.1
          exact⟨by show (turned _ _).length<=1742;rw [ht.1];exact hpp.1,ht.2,by show p.2.1+1<=3;omega⟩
 |burst k i bit pattern=>
  simp only [step]
  split
  . exact ok
  . refine onK k i _ fun x p hx hp=> ?_
    split
    . exact ok
    . split
      . exact ok
      . have h0:=pk hx
        have hpp:=h0.2 p (List.mem_of_getElem? hp)
        refine ok.aDd hx (by rw [List.length_set];exact h0.1) fun q hq=> ?_
        rcases List.mem_or_eq_of_mem_set hq with hq|hq
        . exact h0.2 q hq
        . subst hq
          have ht:= @bIj p.1 bit.toNat pattern.toNat hpp.2.1
          exact⟨by show (hitBy _ _ _).length<=1742;rw [ht.1];exact hpp.1,ht.2,by show 1<=3;omega⟩
 |lose k i=>
  refine onK k i _ fun x p hx hp=> ?_
  have h0:=pk hx
  refine ok.aDd hx ?_ fun q hq=> ?_
  . have h1:=h0.1
    rw [List.length_append,List.length_take,List.length_drop];omega
  . rcases List.mem_append.mp hq with hq|hq
    . exact h0.2 q (List.mem_of_mem_take hq)
    . exact h0.2 q (List.mem_of_mem_drop hq)
 |twice k i=>
  refine onK k i _ fun x p hx hp=> ?_
  have h0:=pk hx
  split
  . exact ok
  . refine ok.aDd hx ?_ fun q hq=> ?_
    . rw [List.length_append];simp;omega
    . rcases List.mem_append.mp hq with hq|hq
      . exact h0.2 q hq
      . rw [List.mem_singleton.mp hq];exact h0.2 p (List.mem_of_getElem? hp)
 |turn k=>
  refine onS k _ fun x hx _=> ?_
  have h0:=pk hx
  exact ok.aDd hx (by rw [List.length_reverse];exact h0.1) fun q hq=>h0.2 q (List.mem_reverse.mp hq)
 |give k l=>
  simp only [step]
  split
  . exact ok
  . rename_i hc
    have hc:=not_false hc
    simp only [Bool.and_eq_true,aC] at hc
    refine onS k _ fun x hx _=> ?_
    have h0:=pk hx
    split
    . exact ok
    . refine ok.aDd hx ?_ fun q hq=> ?_
      . rw [List.length_append];simp;omega
      . rcases List.mem_append.mp hq with hq|hq
        . exact h0.2 q hq
        . rw [List.mem_singleton.mp hq]
          refine⟨by show (nats l).length<=1742;unfold nats;rw [aG];omega,fun b hb=> ?_,by show 0<=3;omega⟩
          have:=aOz hc.2 hb
          omega
 |slices k=>exact onS k _ fun x _ _=>ok
 |unpack k=>exact onS k _ fun x _ _=>ok
 |errors k=>exact onS k _ fun x _ _=>ok
 |sizes k slices mode=>
  simp only [step]
  split
  . exact ok
  . refine onP k _ fun x _ _=> ?_
    split<;>exact ok
 |copy k new=>
  simp only [step]
  split
  . exact ok
  . rename_i hn
    have hn:=cP.mp (not_false hn)
    refine onS k _ fun x hx _=> ?_
    obtain⟨hm,hk⟩:=ok.at_.mp hx
    have sx:=ok.sOk x hm
    split
    . exact ok
    . rename_i room
      split
      . exact ok
      . rename_i nr
        refine ok.aIw (y:={x with key:=new.toNat}) (n:=s.next) ⟨?_,sx.w,sx.h,sx.sl,sx.ref,sx.len,sx.val,sx.few,sx.pkt⟩ room (Nat.le_refl _) (ok.stamp x hm).1 (ok.stamp x hm).2 (ok.there x hm) (fun hr hl=>nr ⟨hr,?_⟩) ?_ ?_ ?_
        . show 1<=new.toNat/\new.toNat<=99;omega
        . obtain⟨y,hy⟩:=ok.there x hm hr
          exact(ok.reaches hy).mpr hl
        . exact fun z hz e=>ok.same z hz x hm e
        . exact fun z hz hr e=>ok.refs z hz x hm hr e.symm
        . exact fun hr z hz e=>ok.refs x hm z hz hr e
 |merge a b=>
  simp only [step]
  split
  . exact ok
  . refine onS a _ fun x hx _=>onS b _ fun y hy _=> ?_
    have h0:=pk hx
    have h1:=pk hy
    split
    . exact ok
    . rename_i hl
      refine ok.aDd hx (by rw [List.length_append];omega) fun q hq=> ?_
      rcases List.mem_append.mp hq with hq|hq
      . exact h0.2 q hq
      . exact h1.2 q (List.mem_filter.mp hq).1
 |keep k new=>
  simp only [step]
  split
  . exact ok
  . rename_i hn
    have hn:=cP.mp (not_false hn)
    refine onS k _ fun x hx _=> ?_
    obtain⟨hm,hk⟩:=ok.at_.mp hx
    have sx:=ok.sOk x hm
    have hu:=zP ok hm
    split
    . exact ok
    . rename_i room
      exact ok.aPw ⟨by show 1<=new.toNat/\new.toNat<=99;omega,sx.w,sx.h,hu.1,hu.2⟩ room
 |drop k=>exact onP k _ fun x _ _=>ok.aVq x.key
 |same a b=>
  simp only [step]
  split
  . exact ok
  . refine onP a _ fun x _ _=>onP b _ fun y _ _=> ?_
    split
    . exact ok
    . split<;>exact ok
 |check l=>
  simp only [step]
  split<;>exact ok
 |code k u=>
  simp only [step]
  split<;>exact ok
 |predict m a b c=>
  simp only [step]
  split<;>exact ok
 |pictures=>exact ok
 |streams=>exact ok
end M
end
section
namespace M
open Vbfaae
theorem bEz: ∀(t:Nat) (m:Bits) (n:Nat),n<=t->(∀j,j<n->m[j]? =some 1)->(n=t\/m[n]? ≠some 1)->((m.take t).takeWhile fun b=>b==1).length=n
 |0,m,n,h,_,_=>by
  have:n=0:=by omega
  subst this;simp
 |t+1,[],n,h,h1,h2=>by
  cases n with
  |zero=>simp
  |succ n=>have:=h1 0 (by omega);simp at this
 |t+1,b::m,n,h,h1,h2=>by
  rw [List.take_succ_cons,List.takeWhile_cons]
  cases n with
  |zero=>
   have:b≠1:=by
    rcases h2 with h2|h2
    . omega
    . intro e;subst e;simp at h2
   simp [this]
  |succ n=>
   have hb:b=1:=by have:=h1 0 (by omega);simpa using this
   subst hb
   simp only [beq_self_eq_true,if_true,List.length_cons]
   have ih:=bEz t m n (by omega) (fun j hj=>by have:=h1 (j+1) (by omega);simpa using this) (by
    rcases h2 with h2|h2
    . exact .inl (by omega)
    . exact .inr (by simpa using h2))
   omega
theorem bGl {m:Bits} {n:Nat} (h:n<=12) (h1: ∀j,j<n->m[j]? =some 1) (h2:n=12\/m[n]? ≠some 1):dF m=n:=bEz 12 m n h h1 h2
end M
end
section
namespace M
open Vbfaae
theorem aTm {x:Stream} (hk:lC x) {i m:Nat} (hi:i<256) (hm:m<256): ∀b∈headOf x i m,b<256:=by
 intro b hb
 unfold headOf at hb
 have h1:=hk.w
 have h2:=hk.h
 have h3:=hk.sl
 have h4:=hk.ref
 rcases List.mem_append.mp hb with hb|hb
 . exact aXy _ b hb
 . rcases List.mem_append.mp hb with hb|hb
   . simp at hb;omega
   . exact aXy _ b hb
theorem bDx {x:Stream} (hk:lC x):x.was.length<=576:=by
 rw [hk.len]
 exact Nat.le_trans (Nat.mul_le_mul hk.w.2 hk.h.2) (by decide)
theorem aUg {x:Stream} (hk:lC x) {i:Nat}:0<countIn x i:=by
 unfold countIn
 have:= @bJu x.h x.slices i hk.sl.1 hk.sl.2.2
 exact Nat.mul_pos (by have:=hk.w;omega) (by omega)
theorem aNm {x:Stream} (hk:lC x) {i:Nat} (hi:i<x.slices):countIn x i<=576:=by
 have:=aBc (i:=i) hk.len hk.sl.1 hi
 have h2:=rP x.w x.h x.slices i x.was
 have h3:=bDx hk
 unfold countIn
 omega
theorem aAb {x:Stream} (hk:lC x) {i:Nat} (hi:i<x.slices) {l:List Nat} (hl:l.length=x.w*x.h):(cutOut x.w x.h x.slices i l).length=countIn x i:=
 aBc hl hk.sl.1 hi
end M
end
section
namespace M
open Vbfaae
theorem aKd (x:Stream) (m:Nat):(modesOf x).contains m=true↔ ¬(5<m\/(m=5/\x.ref=0)):=by
 unfold modesOf
 split
 . simp;omega
 . simp;omega
theorem aTt (x:Stream) (i:Nat) (l:Bytes):modeIn x i l=if l.length<14 then none else if 5<l.getD 4 9\/(l.getD 4 9=5/\x.ref=0) then none else if l.take 10≠headOf x i (l.getD 4 9) then none else if isSealed l=false then none else some (l.getD 4 9):=by
 unfold modeIn
 have e:HEAD=10:=rfl
 rw [e]
 by_cases h1:l.length<14
 . rw [aD h1,aF (fun h=>by omega)]
 . rw [aF h1]
   by_cases h2:5<l.getD 4 9\/(l.getD 4 9=5/\x.ref=0)
   . rw [aD h2,aF (fun h=>(aKd x _).mp h.2.2.1 h2)]
   . rw [aF h2]
     by_cases h3:l.take 10≠headOf x i (l.getD 4 9)
     . rw [aD h3,aF (fun h=>h3 h.2.2.2)]
     . rw [aF h3]
       by_cases h4:isSealed l=false
       . rw [aD h4,aF (fun h=>by rw [h4] at h;cases h.1)]
       . rw [aF h4,aD]
         exact⟨by cases h:isSealed l<;>simp_all,by omega,(aKd x _).mpr h2,by simpa using h3⟩
theorem aZv {x:Stream} {i m:Nat} {l:Bytes} (h:modeIn x i l=some m):m<=5/\14<=l.length/\(m=5->x.ref≠0):=by
 rw [aTt] at h
 split at h
 . cases h
 . split at h
   . cases h
   . split at h
     . cases h
     . split at h
       . cases h
       . cases h
         rename_i h1 h2 _ _
         exact⟨by omega,by omega,fun e r=>h2 (.inr ⟨e,r⟩)⟩
def stOf (r:Except Nat (List Nat)):Nat:=match r with
 | .ok _=>2
 | .error e=>e
def aYb (r:Except Nat (List Nat)):Prop:= ∀e,r= .error e->e<2
theorem jN {x:Stream} {i:Nat} {rr:Option (List Nat)}: ∀(l:List (Bytes×Nat×Bool)) (w:Nat),w<2->aYb (cU x i rr l w)
 |[],w,hw=>fun e h=>by unfold cU at h;cases h;exact hw
 |p::l,w,hw=>by
  unfold cU
  cases decOf x i rr p.1 with
  |none=>exact jN l w hw
  |some r=>
   cases r with
   |ok v=>intro e h;cases h
   |error e=>
    by_cases he:e=1
    . subst he;exact jN l 1 (by omega)
    . simp only
      exact jN l w hw
def nextOf (s:State) (x:Stream):Option Stream:=match streamAt s x.ref with
 |none=>none
 |some y=>if y.stamp≠x.refStamp then none else some y
theorem bJq (s:State) (x:Stream) (i:Nat):refOf s x i=(nextOf s x).bind fun y=>aPf (readSlice s 7 y i):=by
 unfold refOf jW nextOf
 cases streamAt s x.ref with
 |none=>rfl
 |some y=>
  simp only
  split<;>rfl
inductive iM (s:State):Stream->List Stream->Prop
 |last {x:Stream}:nextOf s x=none->iM s x [x]
 |cons {x y:Stream} {l:List Stream}:nextOf s x=some y->iM s y l->iM s x (x::l)
theorem bCv {s:State} (ok:bO s) {x y:Stream} (hx:x∈s.streams) (h:nextOf s x=some y):y∈s.streams/\streamAt s x.ref=some y/\y.key=x.ref/\x.ref≠0/\y.stamp=x.refStamp/\Alike x y:=by
 unfold nextOf at h
 cases hy:streamAt s x.ref with
 |none=>rw [hy] at h;cases h
 |some z=>
  rw [hy] at h
  simp only at h
  by_cases hs:z.stamp≠x.refStamp
  . rw [aD hs] at h;cases h
  . rw [aF hs] at h
    cases h
    obtain⟨hm,hk⟩:=ok.at_.mp hy
    have hr:x.ref≠0:=by have:=(ok.sOk y hm).key;omega
    have hst:y.stamp=x.refStamp:=by simpa using hs
    exact⟨hm,rfl,hk,hr,hst,ok.refs x hx y hm hr hst⟩
theorem iM.mem {s:State} (ok:bO s): ∀{x:Stream} {l:List Stream},iM s x l->x∈s.streams-> ∀y∈l,y∈s.streams/\Alike x y
 |_,_,.last _,hx,y,hy=>by rw [List.mem_singleton.mp hy];exact⟨hx,rfl,rfl,rfl⟩
 |_,_,.cons h c,hx,y,hy=>by
  rcases List.mem_cons.mp hy with rfl|hy
  . exact⟨hx,rfl,rfl,rfl⟩
  . have n:=bCv ok hx h
    have:=c.mem ok n.1 y hy
    exact⟨this.1,n.2.2.2.2.2.trans this.2⟩
theorem iM.head {s:State} {x:Stream} {l:List Stream} (h:iM s x l):l.head? =some x:=by cases h<;>rfl
theorem iM.get {s:State}: ∀{x:Stream} {l:List Stream},iM s x l-> ∀(j:Nat) (y:Stream),l[j]? =some y->(l[j+1]? =none->nextOf s y=none)/\ ∀z,l[j+1]? =some z->nextOf s y=some z
 |_,_,.last h,j,y,hj=>by
  cases j with
  |zero=>simp at hj;subst hj;exact⟨fun _=>h,fun z hz=>by simp at hz⟩
  |succ j=>simp at hj
 |_,_,.cons h c,j,y,hj=>by
  cases j with
  |zero=>
   simp at hj;subst hj
   cases c with
   |last _=>exact⟨fun e=>by simp at e,fun z hz=>by simp at hz;subst hz;exact h⟩
   |cons _ _=>exact⟨fun e=>by simp at e,fun z hz=>by simp at hz;subst hz;exact h⟩
  |succ j=>
   have:=c.get j y (by simpa using hj)
   simpa using this
end M
end
section
namespace M
open Vbfaae
theorem bDc {x:Stream} {i j:Nat} {res:Except Nat (List Nat)} (hj:j<rowOf x.h x.slices (i+1)-rowOf x.h x.slices i): ∃row,(rowsOf x i res)[j]? =some row/\row.getD []=(((aPf res).getD []).drop (j*x.w)).take x.w:=by
 unfold rowsOf
 cases res with
 |ok l=>exact⟨_,by simp only [List.getElem?_map,List.getElem?_range hj];rfl,rfl⟩
 |error e=>exact⟨none,by simp [hj],by simp [aPf]⟩
theorem bBr {rows:List (Option (List Nat))} {j:Nat} (h:rows.getD j none=none):(rows.drop j).find? (fun r=>r.isSome)=(rows.drop (j+1)).find? (fun r=>r.isSome):=by
 by_cases hj:j<rows.length
 . rw [List.drop_eq_getElem_cons hj,List.find?_cons]
   rw [List.getD_eq_getElem?_getD,List.getElem?_eq_getElem hj] at h
   simp only [Option.getD_some] at h
   rw [h];rfl
 . rw [List.drop_eq_nil_of_le (by omega),List.drop_eq_nil_of_le (by omega)]
theorem bFn {rows:List (Option (List Nat))} {j:Nat} {r:List Nat} (h:rows[j]? =some (some r)):(rows.drop j).find? (fun r=>r.isSome)=some (some r):=by
 obtain⟨hj,e⟩:=List.getElem?_eq_some_iff.mp h
 rw [List.drop_eq_getElem_cons hj,List.find?_cons,e];rfl
def shown (w:Nat) (l:List (Option (List Nat))) (j:Nat):List Nat:=match l.getD j none with
 |some r=>r
 |none=>match rowAbove l j,rowBelow l j with
  |some a,some b=>(a.zip b).map fun p=>(p.1+p.2)/2
  |some a,none=>a
  |none,some b=>b
  |none,none=>List.replicate w MIDDLE
theorem aXb (w:Nat) (l:List (Option (List Nat))):shownRows w l=(List.range l.length).map (shown w l):=rfl
theorem aEj (w:Nat) (l:List (Option (List Nat))) (j:Nat) (hj:j<l.length):((List.range l.length).map (shown w l)).take (j+1)=((List.range l.length).map (shown w l)).take j++[shown w l j]:=by
 apply dX
 simp [hj]
end M
end
section
set_option maxHeartbeats 2000000
namespace M
open Vbfaae
def bIs (n:Int) (ns:List Int):Option Call:=
 if n=0 then(match ns with|k::w::h::l=>some (.picture k w h l)|_=>none)
 else if n=1 then(match ns with|[k]=>some (.values k)|_=>none)
 else if n=14 then(match ns with|[k,s,m]=>some (.sizes k s m)|_=>none)
 else if n=18 then(match ns with|[k]=>some (.drop k)|_=>none)
 else if n=19 then(match ns with|[k,y]=>some (.same k y)|_=>none)
 else if n=23 then(match ns with|[]=>some .pictures|_=>none)
 else none
def mkStr (n:Int) (ns:List Int):Option Call:=
 if n=2 then(match ns with|[k,s,r]=>some (.pack k s r)|_=>none)
 else if n=4 then(match ns with|[k]=>some (.packets k)|_=>none)
 else if n=9 then(match ns with|[k]=>some (.turn k)|_=>none)
 else if n=11 then(match ns with|[k]=>some (.slices k)|_=>none)
 else if n=12 then(match ns with|[k]=>some (.unpack k)|_=>none)
 else if n=13 then(match ns with|[k]=>some (.errors k)|_=>none)
 else if n=15 then(match ns with|[k,n]=>some (.copy k n)|_=>none)
 else if n=16 then(match ns with|[k,y]=>some (.merge k y)|_=>none)
 else if n=17 then(match ns with|[k,n]=>some (.keep k n)|_=>none)
 else if n=24 then(match ns with|[]=>some .streams|_=>none)
 else none
def bCt (n:Int) (ns:List Int):Option Call:=
 if n=20 then some (.check ns)
 else if n=21 then(match ns with|[k,u]=>some (.code k u)|_=>none)
 else if n=22 then(match ns with|[m,a,b,c]=>some (.predict m a b c)|_=>none)
 else none
def bIt (n:Int) (ns:List Int):Option Call:=
 if n=3 then(match ns with|[k,i]=>some (.packet k i)|_=>none)
 else if n=5 then(match ns with|[k,i,y,b]=>some (.flip k i y b)|_=>none)
 else if n=6 then(match ns with|[k,i,b,p]=>some (.burst k i b p)|_=>none)
 else if n=7 then(match ns with|[k,i]=>some (.lose k i)|_=>none)
 else if n=8 then(match ns with|[k,i]=>some (.twice k i)|_=>none)
 else if n=10 then(match ns with|k::l=>some (.give k l)|_=>none)
 else none
def bIm (n:Int):Bool:=[(0:Int),1,14,18,19,23].contains n
def isStr (n:Int):Bool:=[(2:Int),4,9,11,12,13,15,16,17,24].contains n
def bCj (n:Int):Bool:=[(20:Int),21,22].contains n
def aOx (n:Int) (ns:List Int):Option Call:=if bIm n=true then bIs n ns else if isStr n=true then mkStr n ns else if bCj n=true then bCt n ns else bIt n ns
structure aMx (l:List Int) (i:Nat) (p:Int) (n k:Nat) (xs row:List Int) (j:Nat):Prop where
 at_:l[i]? =some p
 sh:PyVbfaae.shape p=some (n,k)
 eq:xs=(l.drop (i+1)).take n
 len:xs.length=n
 row:(k=0/\row=[]/\j=i+1+n)\/(k=1/\ ∃m:Nat,l[i+1+n]? =some (m:Int)/\row=(l.drop (i+1+n+1)).take m/\row.length=m/\j=i+1+n+1+m)
 le:j<=l.length
def bNh:List (Nat×Nat):=[(3,1),(1,0),(3,0),(2,0),(1,0),(4,0),(4,0),(2,0),(2,0),(1,0),(1,1),(1,0),(1,0),(1,0),(3,0),(2,0),(2,0),(2,0),(1,0),(2,0),(0,1),(2,0),(4,0),(0,0),(0,0)]
def shp (p:Int):Nat->List (Nat×Nat)->Option (Nat×Nat)
 |_,[]=>none
 |i,a::r=>if p=(i:Int) then some a else shp p (i+1) r
def bJy (C:Int->Nat->Nat->Prop):Nat->List (Nat×Nat)->Prop
 |_,[]=>True
 |i,a::r=>C (i:Int) a.1 a.2/\bJy C (i+1) r
theorem aUf {C:Int->Nat->Nat->Prop} {p:Int} {n k:Nat}: ∀{l:List (Nat×Nat)} {i:Nat},shp p i l=some (n,k)->bJy C i l->C p n k
 |[],_,h,_=>by cases h
 |a::r,i,h,c=>by
  unfold shp at h
  by_cases e:p=(i:Int)
  . rw [aD e] at h
    cases h
    rw [e]
    exact c.1
  . rw [aF e] at h
    exact aUf h c.2
theorem lA {p:Int} {n k:Nat} {C:Int->Nat->Nat->Prop} (h:PyVbfaae.shape p=some (n,k)) (c:bJy C 0 bNh):C p n k:=
 aUf (l:=bNh) (i:=0) h c
theorem bMm {p:Int} {n k:Nat} (h:PyVbfaae.shape p=some (n,k)):k=0\/k=1:=by
 refine lA (C:=fun _ _ k=>k=0\/k=1) h ⟨?_,?_,?_,?_,?_,?_,?_,?_,?_,?_,?_,?_,?_,?_,?_,?_,?_,?_,?_,?_,?_,?_,?_,?_,?_,trivial⟩<;>first|exact .inl rfl|exact .inr rfl
theorem call_one {l:List Int} {i:Nat} {c:List (List Int)} {t:List Int} (h:PyFlat.call PyVbfaae.shape (l.drop i)=some (c,t)): ∃p n k xs row j,aMx l i p n k xs row j/\t=l.drop j/\i<j/\((k=0/\row=[]/\c=[p::xs])\/(k=1/\c=[p::xs,row])):=by
 cases hd:l.drop i with
 |nil=>rw [hd] at h;cases h
 |cons p r=>
  rw [hd] at h
  have hp:l[i]? =some p:=by
   have:=congrArg (fun z=>z[0]?) hd
   simpa using this
  have hr:r=l.drop (i+1):=by
   have:=congrArg List.tail hd
   simpa using this.symm
  have hil:=(List.getElem?_eq_some_iff.mp hp).1
  have hrl:r.length=l.length-(i+1):=by rw [hr];simp
  unfold PyFlat.call at h
  dsimp only at h
  cases hs:PyVbfaae.shape p with
  |none=>rw [hs] at h;cases h
  |some nk=>
   obtain⟨n,k⟩:=nk
   rw [hs] at h
   dsimp only at h
   by_cases hn:r.length<n
   . rw [aD hn] at h;cases h
   . rw [aF hn] at h
     have hk:k=0\/k=1:=bMm hs
     rcases hk with rfl|rfl
     . simp only [PyFlat.rows] at h
       injection h with h
       injection h with h1 h2
       refine⟨p,n,0,r.take n,[],i+1+n,⟨hp,hs,by rw [hr],by rw [List.length_take];omega,.inl ⟨rfl,rfl,rfl⟩,by omega⟩,?_,by omega,.inl ⟨rfl,rfl,h1.symm⟩⟩
       rw [<-h2,hr,List.drop_drop]
     . simp only [PyFlat.rows] at h
       cases hw:PyFlat.row (r.drop n) with
       |none=>rw [hw] at h;cases h
       |some xt=>
        obtain⟨x,u⟩:=xt
        rw [hw] at h
        dsimp only at h
        injection h with h
        injection h with h1 h2
        cases hd2:r.drop n with
        |nil=>rw [hd2] at hw;cases hw
        |cons m q=>
         rw [hd2] at hw
         unfold PyFlat.row at hw
         dsimp only at hw
         have hq:q=l.drop (i+1+n+1):=by
          have:=congrArg List.tail hd2
          rw [hr] at this
          simpa [Nat.add_assoc] using this.symm
         have hm:l[i+1+n]? =some m:=by
          have:=congrArg (fun z=>z[0]?) hd2
          rw [hr] at this
          simpa [Nat.add_assoc] using this
         have hml:=(List.getElem?_eq_some_iff.mp hm).1
         have hql:q.length=l.length-(i+1+n+1):=by rw [hq];simp
         by_cases hc:0<=m/\m.toNat<=q.length
         . rw [aD hc] at hw
           injection hw with hw
           injection hw with w1 w2
           refine⟨p,n,1,r.take n,x,i+1+n+1+m.toNat,⟨hp,hs,by rw [hr],by rw [List.length_take];omega,.inr ⟨rfl,m.toNat,?_,by rw [<-w1,hq],by rw [<-w1,List.length_take];omega,rfl⟩,by omega⟩,?_,by omega,.inr ⟨rfl,h1.symm⟩⟩
           . rw [hm,Int.toNat_of_nonneg hc.1]
           . rw [<-h2,<-w2,hq,List.drop_drop]
         . rw [aF hc] at hw;cases hw
theorem bQu {l:List Int} (h:l.length=1): ∃a,l=[a]:=by
 match l,h with
 |[a],_=>exact⟨a,rfl⟩
theorem bSl {l:List Int} (h:l.length=2): ∃a b,l=[a,b]:=by
 match l,h with
 |[a,b],_=>exact⟨a,b,rfl⟩
theorem bQv {l:List Int} (h:l.length=3): ∃a b c,l=[a,b,c]:=by
 match l,h with
 |[a,b,c],_=>exact⟨a,b,c,rfl⟩
theorem bSm {l:List Int} (h:l.length=4): ∃a b c d,l=[a,b,c,d]:=by
 match l,h with
 |[a,b,c,d],_=>exact⟨a,b,c,d,rfl⟩
theorem bOw {p:Int} {n k:Nat} {xs row:List Int} (hs:PyVbfaae.shape p=some (n,k)) (hl:xs.length=n):(k=0-> ∃c,VbfaaeNeutral.callOf (PyVbfaae.whole [p::xs])=some c/\aOx p xs=some c)/\(k=1-> ∃c,VbfaaeNeutral.callOf (PyVbfaae.whole [p::xs,row])=some c/\aOx p (xs++row)=some c):=by
 refine lA (C:=fun p n k=>xs.length=n->(k=0-> ∃c,VbfaaeNeutral.callOf (PyVbfaae.whole [p::xs])=some c/\aOx p xs=some c)/\(k=1-> ∃c,VbfaaeNeutral.callOf (PyVbfaae.whole [p::xs,row])=some c/\aOx p (xs++row)=some c)) hs ⟨?_,?_,?_,?_,?_,?_,?_,?_,?_,?_,?_,?_,?_,?_,?_,?_,?_,?_,?_,?_,?_,?_,?_,?_,?_,trivial⟩ hl<;>intro hl
 all_goals first
  |(obtain rfl:=List.eq_nil_of_length_eq_zero hl;exact⟨fun _=>⟨_,rfl,rfl⟩,fun h=>(by cases h)⟩)
  |(obtain rfl:=List.eq_nil_of_length_eq_zero hl;exact⟨fun h=>(by cases h),fun _=>⟨_,rfl,rfl⟩⟩)
  |(obtain⟨a,rfl⟩:=bQu hl;exact⟨fun _=>⟨_,rfl,rfl⟩,fun h=>(by cases h)⟩)
  |(obtain⟨a,rfl⟩:=bQu hl;exact⟨fun h=>(by cases h),fun _=>⟨_,rfl,rfl⟩⟩)
  |(obtain⟨a,b,rfl⟩:=bSl hl;exact⟨fun _=>⟨_,rfl,rfl⟩,fun h=>(by cases h)⟩)
  |(obtain⟨a,b,c,rfl⟩:=bQv hl;exact⟨fun _=>⟨_,rfl,rfl⟩,fun h=>(by cases h)⟩)
  |(obtain⟨a,b,c,rfl⟩:=bQv hl;exact⟨fun h=>(by cases h),fun _=>⟨_,rfl,rfl⟩⟩)
  |(obtain⟨a,b,c,d,rfl⟩:=bSm hl;exact⟨fun _=>⟨_,rfl,rfl⟩,fun h=>(by cases h)⟩)
end M
end
section
set_option maxHeartbeats 2000000
namespace M
open Vbfaae
theorem bPg {p:Int} {n:Nat} {xs row:List Int} (hs:PyVbfaae.shape p=some (n,1)) (h:PyInside.call PyVbfaae.bound [p::xs,row]=true):row.length<=1700:=by
 have key: ∀q:Int×Int×Nat×Nat,q.2.2.2=1700->PyInside.lists [q] [row]=true->row.length<=1700:=fun q e hq=>by
  obtain⟨lo,hi,le,mo⟩:=q
  simp only [PyInside.lists,Bool.and_eq_true,aC] at hq
  have e:mo=1700:=e
  omega
 unfold PyInside.call at h
 dsimp only at h
 rw [Bool.and_eq_true] at h
 have h2:=h.2
 refine lA (C:=fun p _ k=>k=1->PyInside.lists (PyVbfaae.bound p).2 [row]=true->row.length<=1700) hs ⟨?_,?_,?_,?_,?_,?_,?_,?_,?_,?_,?_,?_,?_,?_,?_,?_,?_,?_,?_,?_,?_,?_,?_,?_,?_,trivial⟩ rfl h2
 all_goals first
  |(intro h;cases h;done)
  |exact fun _ h=>key _ rfl h
theorem bFe {p:Int} {n k:Nat} (h:PyVbfaae.shape p=some (n,k)):n<=4:=by
 refine lA (C:=fun _ n _=>n<=4) h ⟨?_,?_,?_,?_,?_,?_,?_,?_,?_,?_,?_,?_,?_,?_,?_,?_,?_,?_,?_,?_,?_,?_,?_,?_,?_,trivial⟩<;>decide
theorem bBv {l:List Int} {f i:Nat} {cs:List (List (List Int))} (h:PyFlat.calls PyVbfaae.shape f (l.drop i)=some cs) (hi:i<l.length) (hb:PyInside.calls PyVbfaae.bound cs=true):
 ∃(p:Int) (n k:Nat) (xs row:List Int) (j:Nat) (c:List (List Int)) (cs':List (List (List Int))) (f':Nat) (kc:Call),aMx l i p n k xs row j/\i<j/\cs=c::cs'/\PyFlat.calls PyVbfaae.shape f' (l.drop j)=some cs'/\
  PyInside.calls PyVbfaae.bound cs'=true/\VbfaaeNeutral.callOf (PyVbfaae.whole c)=some kc/\aOx p (xs++row)=some kc/\(xs++row).length<=2000:=by
 cases hd:l.drop i with
 |nil=>
  have:=congrArg List.length hd
  simp at this
  omega
 |cons p0 r0=>
  rw [hd] at h
  cases f with
  |zero=>cases h
  |succ f=>
   unfold PyFlat.calls at h
   cases hc:PyFlat.call PyVbfaae.shape (p0::r0) with
   |none=>rw [hc] at h;cases h
   |some ct=>
    obtain⟨c,t⟩:=ct
    rw [hc] at h
    dsimp only at h
    cases hr:PyFlat.calls PyVbfaae.shape f t with
    |none=>rw [hr] at h;cases h
    |some cs'=>
     rw [hr] at h
     injection h with h
     rw [<-hd] at hc
     obtain⟨p,n,k,xs,row,j,oc,ht,hij,hcc⟩:=call_one hc
     subst h
     have hb':PyInside.call PyVbfaae.bound c=true/\PyInside.calls PyVbfaae.bound cs'=true:=by
      unfold PyInside.calls at hb ⊢
      rw [List.all_cons,Bool.and_eq_true] at hb
      exact hb
     have hn:=bFe oc.sh
     have hxl:=oc.len
     rw [ht] at hr
     obtain⟨m0,m1⟩:=bOw (row:=row) oc.sh oc.len
     rcases hcc with⟨rfl,rfl,rfl⟩|⟨rfl,rfl⟩
     . obtain⟨kc,h1,h2⟩:=m0 rfl
       exact⟨p,n,0,xs,[],j,_,cs',f,kc,oc,hij,rfl,hr,hb'.2,h1,by rw [List.append_nil];exact h2,by simp;omega⟩
     . obtain⟨kc,h1,h2⟩:=m1 rfl
       have:=bPg oc.sh hb'.1
       exact⟨p,n,1,xs,row,j,_,cs',f,kc,oc,hij,rfl,hr,hb'.2,h1,h2,by rw [List.length_append];omega⟩
theorem bFq {l:List Int} {f i:Nat} {cs:List (List (List Int))} (h:PyFlat.calls PyVbfaae.shape f (l.drop i)=some cs) (hi:l.length<=i):cs=[]:=by
 rw [List.drop_eq_nil_of_le hi] at h
 cases f<;>(injection h with h;exact h.symm)
def tX (st:State) (cs:List (List (List Int))):List Int:=PyFlat.told (PyFlat.played VbfaaeNeutral.step st (cs.map PyVbfaae.whole))
theorem bKp (st:State):tX st []=[]:=rfl
theorem bHf (st:State) {c:List (List Int)} {kc:Call} (cs:List (List (List Int))) (h:VbfaaeNeutral.callOf (PyVbfaae.whole c)=some kc):
 tX st (c::cs)=(((step st kc).2.length:Int)::(step st kc).2)++tX (step st kc).1 cs:=by
 have e:VbfaaeNeutral.step st (PyVbfaae.whole c)=step st kc:=by
  unfold VbfaaeNeutral.step
  rw [h]
 unfold tX
 rw [List.map_cons]
 simp only [PyFlat.played,PyFlat.told,List.flatMap_cons,e]
theorem bHn {l:List Int} (h:PyVbfaae.answers_asked l=true): ∃cs,PyFlat.calls PyVbfaae.shape l.length l=some cs/\PyInside.calls PyVbfaae.bound cs=true/\PyVbfaae.answers l=tX start cs/\(PyVbfaae.answers l).length<=10000000:=by
 unfold PyVbfaae.answers_asked at h
 cases hc:PyFlat.calls PyVbfaae.shape l.length l with
 |none=>rw [hc] at h;cases h
 |some cs=>
  rw [hc] at h
  simp only [Bool.and_eq_true] at h
  refine⟨cs,rfl,h.1.1.2,?_,?_⟩
  . unfold PyVbfaae.answers PyVbfaae.calls
    rw [hc]
    rfl
  . have:=h.2
    unfold PyFlat.short at this
    exact of_decide_eq_true this
end M
end
section
set_option maxHeartbeats 4000000
namespace F
open PySem PySem.Spec PyProof.Rows L2
def GN (mg:Str->Option Value):List (Int×Str)->List (Key×V)->Prop
 |[],[]=>True
 |(k,n)::r,(k',v)::r'=>k'=Sum.inl k/\(∃f,mg n=some (.ref f)/\v= .ref f)/\GN mg r r'
 |_,_=>False
def top (i:Nat):Stmt:=PySem.Challenge.pw_packedframes_s01_answers.main.body.getD i (.Pass ⟨0,0,0,0⟩)
abbrev bBb:Stmt:=(top 4)
abbrev aCd:Stmt:=(top 5)
abbrev oU:Stmt:=(top 6)
abbrev aUk:Stmt:=(top 7)
abbrev aGz:Stmt:=(top 8)
abbrev rG:Stmt:=(top 9)
abbrev aHa:Stmt:=(top 10)
abbrev rH:Stmt:=(top 11)
abbrev rK:Stmt:=(top 12)
abbrev aQs:Stmt:=(top 18)
abbrev wK:Stmt:=(top 19)
abbrev aHc:Stmt:=(top 20)
abbrev aCf:Stmt:=(top 21)
abbrev aCe:Stmt:=(top 22)
abbrev aHb:Stmt:=(top 23)
abbrev aKq:Stmt:=(top 24)
abbrev bFg:Stmt:=(top 30)
abbrev zG:Stmt:=(top 31)
abbrev aCg:Stmt:=(top 32)
abbrev aHd:Stmt:=(top 33)
abbrev bBc:Stmt:=(top 34)
abbrev aQq:Stmt:=(top 35)
abbrev aUl:Stmt:=(top 45)
abbrev aBx:Stmt:=(top 46)
abbrev aBw:Stmt:=(top 47)
abbrev aUj:Stmt:=(top 48)
abbrev aBz:Stmt:=(top 50)
abbrev aGo:Stmt:=(top 51)
abbrev vV:Stmt:=(top 52)
abbrev wC:Stmt:=(top 54)
abbrev oR:Stmt:=(top 55)
abbrev wF:Stmt:=(top 59)
abbrev zL:Stmt:=(top 60)
abbrev aQr:Stmt:=(top 61)
abbrev aHg:Stmt:=(top 62)
abbrev aGy:Stmt:=(top 70)
abbrev aCi:Stmt:=(top 71)
abbrev wI:Stmt:=(top 72)
abbrev aUi:Stmt:=(top 73)
abbrev zN:Stmt:=(top 74)
abbrev wG:Stmt:=(top 75)
abbrev tU:Stmt:=(top 76)
abbrev zH:Stmt:=(top 77)
abbrev zJ:Stmt:=(top 78)
abbrev rM:Stmt:=(top 81)
abbrev zA:Stmt:=(top 82)
abbrev aKo:Stmt:=(top 83)
abbrev wA:Stmt:=(top 84)
abbrev aGr:Stmt:=(top 85)
abbrev tQ:Stmt:=(top 86)
abbrev aBy:Stmt:=(top 87)
abbrev aGu:Stmt:=(top 88)
abbrev aCc:Stmt:=(top 89)
abbrev wB:Stmt:=(top 90)
abbrev aGs:Stmt:=(top 91)
abbrev lY:Stmt:=(top 93)
abbrev qN:Stmt:=(top 95)
abbrev vU:Stmt:=(top 96)
abbrev zF:Stmt:=(top 97)
abbrev tV:Stmt:=(top 98)
abbrev aCb:Stmt:=(top 99)
abbrev aGq:Stmt:=(top 100)
abbrev vY:Stmt:=(top 101)
abbrev aGw:Stmt:=(top 102)
abbrev tR:Stmt:=(top 103)
abbrev qM:Stmt:=(top 105)
abbrev lW:Stmt:=(top 106)
abbrev vZ:Stmt:=(top 113)
abbrev wL:Stmt:=(top 114)
abbrev qO:Stmt:=(top 115)
abbrev aCh:Stmt:=(top 116)
abbrev wM:Stmt:=(top 117)
abbrev tW:Stmt:=(top 118)
abbrev zK:Stmt:=(top 119)
abbrev aHe:Stmt:=(top 120)
abbrev zO:Stmt:=(top 121)
abbrev zM:Stmt:=(top 122)
abbrev aKp:Stmt:=(top 123)
abbrev aKn:Stmt:=(top 125)
abbrev nR:Stmt:=(top 126)
abbrev wH:Stmt:=(top 127)
abbrev wJ:Stmt:=(top 128)
abbrev aGv:Stmt:=(top 129)
abbrev vR:Stmt:=(top 130)
abbrev aGx:Stmt:=(top 131)
abbrev zB:Stmt:=(top 132)
abbrev zE:Stmt:=(top 133)
abbrev yZ:Stmt:=(top 134)
abbrev vX:Stmt:=(top 135)
abbrev aGp:Stmt:=(top 136)
abbrev aCa:Stmt:=(top 137)
abbrev wD:Stmt:=(top 138)
abbrev aGt:Stmt:=(top 139)
abbrev vW:Stmt:=(top 140)
abbrev rJ:Stmt:=(top 142)
abbrev lZ:Stmt:=(top 143)
abbrev aHf:Stmt:=(top 148)
abbrev vQ:Stmt:=(top 149)
abbrev aKm:Stmt:=(top 150)
abbrev aUh:Stmt:=(top 151)
abbrev kO:Stmt:=(top 152)
abbrev nQ:Stmt:=(inClass (top 29) 0)
abbrev qJ:Stmt:=(inClass (top 29) 1)
abbrev rE:Stmt:=(inClass (top 29) 2)
abbrev oN:Stmt:=(inClass (top 67) 0)
abbrev qK:Stmt:=(inClass (top 68) 0)
abbrev qL:Stmt:=(inClass (top 69) 0)
abbrev oO:Stmt:=(inClass (top 112) 0)
abbrev rF:Stmt:=(inClass (top 147) 0)
structure Adr where
 cContexts:Addr
 cPicture:Addr
 cPacket:Addr
 cStream:Addr
 cReading:Addr
 cHouse:Addr
structure Txt (P:Program) (w:World) (K:aA) (mg:Str->Option Value) (a:Adr):Prop where
 bKz:Df K mg "check" bBb ["octets"]
 aVk:Df K mg "check_step" aCd ["r","four"]
 aCn:Df K mg "octets_of_number" oU ["number","size"]
 bHu:Df K mg "sealed" aUk ["octets"]
 aYu:Df K mg "is_sealed" aGz ["octets"]
 aHr:Df K mg "bits_of_number" rG ["number","size"]
 aYv:Df K mg "number_at" aHa ["bits","at","size"]
 aHs:Df K mg "bits_of_octets" rH ["octets"]
 aHu:Df K mg "octets_of_bits" rK ["bits"]
 bFu:Df K mg "predict" aQs ["mode","a","b","c"]
 aOf:Df K mg "predict_edge" wK ["a","b","c"]
 aYx:Df K mg "predicted" aHc ["greys","n","width","mode","reference"]
 aVm:Df K mg "context_of" aCf ["a","b","c"]
 aVl:Df K mg "context_at" aCe ["greys","n","width"]
 aYw:Df K mg "number_of" aHb ["grey","expected"]
 bCd:Df K mg "value_of" aKq ["number","expected"]
 bOe:Df K mg "code" bFg ["number","k"]
 aRe:Df K mg "code_length" zG ["number","k"]
 aVn:Df K mg "count_ones" aCg ["bits","at"]
 aYy:Df K mg "read_code" aHd ["bits","at","k"]
 bLa:Df K mg "coded" bBc ["greys","width","mode","reference"]
 bFr:Df K mg "decoded" aQq ["octets","size","width","mode","reference"]
 bHv:Df K mg "within" aUl ["number","least","greatest"]
 aVe:Df K mg "all_within" aBx ["numbers","least","greatest"]
 aVd:Df K mg "all_octets" aBw ["numbers"]
 bHt:Df K mg "is_key" aUj ["number"]
 aVg:Df K mg "call_check" aBz ["numbers"]
 aYj:Df K mg "call_code" aGo ["numbers"]
 aNr:Df K mg "call_predict" vV ["numbers"]
 aNy:Df K mg "is_lone_call" wC ["number"]
 aCm:Df K mg "answer_lone_call" oR ["number","numbers"]
 aOa:Df K mg "keys_refusal" wF ["shelf","keys"]
 aRi:Df K mg "key_refusal" zL ["shelf","key"]
 bFt:Df K mg "is_full" aQr ["shelf","key","most"]
 aZb:Df K mg "told_keys" aHg ["shelf"]
 aYt:Df K mg "first_row" aGy ["stream","i"]
 aVp:Df K mg "slice_size" aCi ["stream","i"]
 aOd:Df K mg "packed_slice" wI ["stream","i"]
 bHs:Df K mg "header" aUi ["stream","i","mode"]
 aRk:Df K mg "make_packet" zN ["stream","i","reference_slice"]
 aOb:Df K mg "make_packets" wG ["stream","reference_stream"]
 aKx:Df K mg "sizes_by_mode" tU ["picture","slices","mode"]
 aRf:Df K mg "copy_packet" zH ["packet"]
 aRg:Df K mg "copy_stream" zJ ["stream"]
 aHv:Df K mg "packet_refusal" rM ["house","key","i"]
 aRa:Df K mg "call_packet" zA ["house","numbers"]
 bCb:Df K mg "turn_bit" aKo ["packet","place"]
 aNw:Df K mg "flip_refusal" wA ["house","key","i","place","bit"]
 aYm:Df K mg "call_flip" aGr ["house","numbers"]
 aKv:Df K mg "burst_refusal" tQ ["house","key","i","bit","pattern"]
 aVf:Df K mg "call_burst" aBy ["house","numbers"]
 aYp:Df K mg "call_lose" aGu ["house","numbers"]
 aVj:Df K mg "call_twice" aCc ["house","numbers"]
 aNx:Df K mg "give_refusal" wB ["house","key","octets"]
 aYn:Df K mg "call_give" aGs ["house","numbers"]
 xN:Df K mg "answer_packet_call" lY ["house","number","numbers"]
 aEg:Df K mg "picture_refusal" qN ["house","key","width","height","greys"]
 aNq:Df K mg "call_picture" vU ["house","numbers"]
 aRd:Df K mg "call_values" zF ["house","numbers"]
 aKy:Df K mg "sizes_refusal" tV ["house","key","slices","mode"]
 aVi:Df K mg "call_sizes" aCb ["house","numbers"]
 aYl:Df K mg "call_drop" aGq ["house","numbers"]
 aNu:Df K mg "first_unlike" vY ["one","other"]
 aYr:Df K mg "call_same" aGw ["house","numbers"]
 aKw:Df K mg "call_pictures" tR ["house","numbers"]
 aEf:Df K mg "is_picture_call" qM ["number"]
 wO:Df K mg "answer_picture_call" lW ["house","number","numbers"]
 aNv:Df K mg "fitting_mode" vZ ["stream","i","octets"]
 aOg:Df K mg "read_packets" wL ["stream","i","reference_reading"]
 aEh:Df K mg "reference_chain" qO ["streams","stream"]
 aVo:Df K mg "read_slice" aCh ["streams","stream","i"]
 aOh:Df K mg "slice_states" wM ["streams","stream"]
 aKz:Df K mg "unread_slices" tW ["streams","stream"]
 aRh:Df K mg "fits_one_of" zK ["stream","numbers","octets"]
 aYz:Df K mg "read_rows" aHe ["streams","stream"]
 aRl:Df K mg "nearest_row" zO ["rows","y","step"]
 aRj:Df K mg "made_up_row" zM ["rows","y","width"]
 bCc:Df K mg "unpacked" aKp ["streams","stream"]
 bCa:Df K mg "leads_to" aKn ["house","start","key"]
 aAj:Df K mg "reference_refusal" nR ["house","key","picture","slices","reference"]
 aOc:Df K mg "pack_refusal" wH ["house","key","slices","reference"]
 aOe:Df K mg "packet_sizes" wJ ["stream"]
 aYq:Df K mg "call_pack" aGv ["house","numbers"]
 aNp:Df K mg "call_packets" vR ["house","numbers"]
 aYs:Df K mg "call_turn" aGx ["house","numbers"]
 aRb:Df K mg "call_slices" zB ["house","numbers"]
 aRc:Df K mg "call_unpack" zE ["house","numbers"]
 aQz:Df K mg "call_errors" yZ ["house","numbers"]
 aNt:Df K mg "copy_refusal" vX ["house","key","new"]
 aYk:Df K mg "call_copy" aGp ["house","numbers"]
 aVh:Df K mg "call_merge" aCa ["house","numbers"]
 aNz:Df K mg "keep_refusal" wD ["house","key","picture_key"]
 aYo:Df K mg "call_keep" aGt ["house","numbers"]
 aNs:Df K mg "call_streams" vW ["house","numbers"]
 aHt:Df K mg "is_stream_call" rJ ["number"]
 xO:Df K mg "answer_stream_call" lZ ["house","number","numbers"]
 aZa:Df K mg "row_place" aHf ["calls","at"]
 aNo:Df K mg "call_numbers" vQ ["calls","at"]
 bBz:Df K mg "call_end" aKm ["calls","at"]
 bHr:Df K mg "answer" aUh ["house","number","numbers"]
 bPv:Df K mg "answers" kO ["calls"]
 aRn:GI mg "CHECK_START" (4294967295)
 aRm:GI mg "CHECK_LIMIT" (4294967296)
 aSy:GT K mg "CHECK_STEPS" (iv [0,517762881,1035525762,593801667,2071051524,1705890373,1187603334,1477774535,4142103048,3896448329,3411780746,3582446539,2375206668,2471405645,2955549070,2935387855])
 aEm:GI mg "MIDDLE" (512)
 uE:GI mg "GREATEST" (1023)
 jU:GI mg "CONSTANT_MODE" (0)
 fH:GI mg "REFERENCE_MODE" (5)
 gC:GI mg "ESCAPE_ONES" (12)
 rQ:GI mg "ESCAPE_BITS" (10)
 aEk:GI mg "GREATEST_K" (10)
 cO:GI mg "OUT_OF_RANGE" (-1)
 oY:GI mg "BEHIND_END" (-3)
 aHx:GI mg "MISSING" (-4)
 aZk:GI mg "UNLIKE" (-5)
 bIf:GI mg "RING" (-7)
 vA:GI mg "HIT_TOO_OFTEN" (-8)
 aCq:GI mg "FULL" (-9)
 aRo:GI mg "MOST_OCTETS" (1600)
 qR: ∃kvs,GD P w K mg "CALLS_lone_calls" kvs/\GN mg [(20,"call_check"),(21,"call_code"),(22,"call_predict")] kvs
 vB:GI mg "MOST_PICTURES" (6)
 xQ:GI mg "MOST_STREAMS" (6)
 mR:GI mg "HEADER_SIZE" (10)
 uD:GI mg "CHECK_SIZE" (4)
 pQ:GI mg "MOST_PACKETS" (20)
 aVu:GI mg "MOST_FLIPS" (3)
 zT: ∃kvs,GD P w K mg "CALLS_packet_calls" kvs/\GN mg [(3,"call_packet"),(5,"call_flip"),(6,"call_burst"),(7,"call_lose"),(8,"call_twice"),(10,"call_give")] kvs
 mC: ∃kvs,GD P w K mg "CALLS_picture_calls" kvs/\GN mg [(0,"call_picture"),(1,"call_values"),(14,"call_sizes"),(18,"call_drop"),(19,"call_same"),(23,"call_pictures")] kvs
 aJx:GI mg "NOT_THERE" (0)
 bLg:GI mg "WAITS" (1)
 bCi:GI mg "READ" (2)
 aVt:GI mg "MODE_PLACE" (4)
 nT: ∃kvs,GD P w K mg "CALLS_stream_calls" kvs/\GN mg [(2,"call_pack"),(4,"call_packets"),(9,"call_turn"),(11,"call_slices"),(12,"call_unpack"),(13,"call_errors"),(15,"call_copy"),(16,"call_merge"),(17,"call_keep"),(24,"call_streams")] kvs
 bBo:GD P w K mg "ARGUMENTS" [(Sum.inl 0,V.int 3),(Sum.inl 1,V.int 1),(Sum.inl 2,V.int 3),(Sum.inl 3,V.int 2),(Sum.inl 4,V.int 1),(Sum.inl 5,V.int 4),(Sum.inl 6,V.int 4),(Sum.inl 7,V.int 2),(Sum.inl 8,V.int 2),(Sum.inl 9,V.int 1),(Sum.inl 10,V.int 1),(Sum.inl 11,V.int 1),(Sum.inl 12,V.int 1),(Sum.inl 13,V.int 1),(Sum.inl 14,V.int 3),(Sum.inl 15,V.int 2),(Sum.inl 16,V.int 2),(Sum.inl 17,V.int 2),(Sum.inl 18,V.int 1),(Sum.inl 19,V.int 2),(Sum.inl 20,V.int 0),(Sum.inl 21,V.int 2),(Sum.inl 22,V.int 4),(Sum.inl 23,V.int 0),(Sum.inl 24,V.int 0)]
 aQy:GT K mg "WITH_ROW" (iv [0,10,20])
 bIv:mg "abs"=none
 bIw:mg "all"=none
 bQy:mg "any"=none
 qX:mg "enumerate"=none
 dC:mg "len"=none
 bCu:mg "list"=none
 bEw:mg "max"=none
 bIx:mg "min"=none
 jV:mg "range"=none
 aOy:mg "reversed"=none
 bIy:mg "sorted"=none
 bNf:mg "zip"=none
 cN:Ca K mg "Contexts" a.cContexts ["sums","counts"]
 aAk:Me K a.cContexts "__init__" "Contexts.__init__" nQ ["self"]
 aEr:Me K a.cContexts "find_k" "Contexts.find_k" qJ ["self","context"]
 aIb:Me K a.cContexts "learn" "Contexts.learn" rE ["self","context","number"]
 bV:Ca K mg "Picture" a.cPicture ["width","height","greys"]
 aCs:Me K a.cPicture "__init__" "Picture.__init__" oN ["self","width","height","greys"]
 bT:Ca K mg "Packet" a.cPacket ["octets","flips","is_burst"]
 aEs:Me K a.cPacket "__init__" "Packet.__init__" qK ["self","octets","flips","is_burst"]
 aQ:Ca K mg "Stream" a.cStream ["stamp","width","height","slices","reference","reference_stamp","packed","packets"]
 aEt:Me K a.cStream "__init__" "Stream.__init__" qL ["self","stamp","picture","slices","reference","reference_stamp"]
 eE:Ca K mg "Reading" a.cReading ["state","greys"]
 aCt:Me K a.cReading "__init__" "Reading.__init__" oO ["self","state","greys"]
 aW:Ca K mg "House" a.cHouse ["pictures","streams","stamp"]
 aIc:Me K a.cHouse "__init__" "House.__init__" rF ["self"]
end F
end
section
set_option maxHeartbeats 4000000
namespace F
open PySem PySem.Spec PyProof.Rows L2
theorem jJ {f:Str} {v:V}: ∀{fs:List (Str×V)} {keys:List Str} (i:Nat),fs.map (·.1)=keys->fs[i]? =some (f,v)->keys.Nodup->fs.lookup f=some v
 |[],_,i,_,h,_=>by simp at h
 |(g,x)::r,_,0,rfl,h,_=>by
  simp at h
  obtain⟨rfl,rfl⟩:=h
  simp
 |(g,x)::r,_,i+1,rfl,h,nd=>by
  simp only [List.map_cons,List.nodup_cons] at nd
  have h2:r[i]? =some (f,v):=by simpa using h
  have hm:f∈r.map (·.1):=List.mem_map.mpr ⟨_,List.mem_of_getElem? h2,rfl⟩
  have hne:f≠g:=fun e=>nd.1 (e ▸ hm)
  have ih:=jJ i rfl h2 nd.2
  rw [List.lookup_cons,ih]
  have:(f==g)=false:=by simpa using hne
  rw [this]
theorem bIn {f:Str}: ∀{fs:List (Str×V)} {keys:List Str},fs.map (·.1)=keys->f∉keys->fs.lookup f=none
 |[],_,_,_=>rfl
 |(g,x)::r,_,rfl,h=>by
  simp only [List.map_cons,List.mem_cons,not_or] at h
  rw [List.lookup_cons,bIn rfl h.2]
  have:(f==g)=false:=by simpa using h.1
  rw [this]
theorem gD {f:Str} {v:V}: ∀{fs:List (Str×V)} {keys:List Str},fs.map (·.1)=keys->f∉keys->fJ f v fs=fs++[(f,v)]
 |[],_,_,_=>rfl
 |(g,x)::r,_,rfl,h=>by
  simp only [List.map_cons,List.mem_cons,not_or] at h
  unfold fJ
  rw [aF (fun e=>h.1 e.symm),gD rfl h.2]
  rfl
theorem bAg {f:Str} {v y:V}: ∀{fs:List (Str×V)} {keys:List Str} (i:Nat),fs.map (·.1)=keys->fs[i]? =some (f,y)->keys.Nodup->fJ f v fs=fs.set i (f,v)
 |[],_,i,_,h,_=>by simp at h
 |(g,x)::r,_,0,rfl,h,_=>by
  simp at h
  obtain⟨rfl,rfl⟩:=h
  unfold fJ
  rw [aD rfl];rfl
 |(g,x)::r,_,i+1,rfl,h,nd=>by
  simp only [List.map_cons,List.nodup_cons] at nd
  have h2:r[i]? =some (f,y):=by simpa using h
  have hm:f∈r.map (·.1):=List.mem_map.mpr ⟨_,List.mem_of_getElem? h2,rfl⟩
  have hne:g≠f:=fun e=>nd.1 (e ▸ hm)
  unfold fJ
  rw [aF hne,bAg i rfl h2 nd.2]
  rfl
abbrev mX:List Str:=["sums","counts"]
theorem aKe:mX.Nodup:=by decide+kernel
abbrev kW (v0 v1:V):List (Str×V):=[("sums",v0),("counts",v1)]
theorem mD {v0 v1:V}:(kW v0 v1).lookup ("sums":Str)=some v0:=jJ (keys:=mX) 0 rfl rfl aKe
theorem pU {v0 v1:V}:(kW v0 v1).lookup ("find_k":Str)=none:=bIn (keys:=mX) rfl (by decide+kernel)
theorem qZ {v0 v1:V}:(kW v0 v1).lookup ("learn":Str)=none:=bIn (keys:=mX) rfl (by decide+kernel)
theorem gP {v0 v1:V}:(kW v0 v1).lookup ("counts":Str)=some v1:=jJ (keys:=mX) 1 rfl rfl aKe
theorem aCw {v0 v1:V}:fJ ("counts":Str) v1 ([("sums",v0)]:List (Str×V))=([("sums",v0),("counts",v1)]:List (Str×V)):=gD (keys:=["sums"]) rfl (by decide+kernel)
abbrev uF:List Str:=["width","height","greys"]
theorem aCv:uF.Nodup:=by decide+kernel
abbrev pO (v0 v1 v2:V):List (Str×V):=[("width",v0),("height",v1),("greys",v2)]
theorem eF {v0 v1 v2:V}:(pO v0 v1 v2).lookup ("width":Str)=some v0:=jJ (keys:=uF) 0 rfl rfl aCv
theorem aIh {v0:V}:fJ ("width":Str) v0 ([]:List (Str×V))=([("width",v0)]:List (Str×V)):=gD (keys:=[]) rfl (by decide+kernel)
theorem dU {v0 v1 v2:V}:(pO v0 v1 v2).lookup ("height":Str)=some v1:=jJ (keys:=uF) 1 rfl rfl aCv
theorem aEw {v0 v1:V}:fJ ("height":Str) v1 ([("width",v0)]:List (Str×V))=([("width",v0),("height",v1)]:List (Str×V)):=gD (keys:=["width"]) rfl (by decide+kernel)
theorem jC {v0 v1 v2:V}:(pO v0 v1 v2).lookup ("greys":Str)=some v2:=jJ (keys:=uF) 2 rfl rfl aCv
theorem aIg {v0 v1 v2:V}:fJ ("greys":Str) v2 ([("width",v0),("height",v1)]:List (Str×V))=([("width",v0),("height",v1),("greys",v2)]:List (Str×V)):=gD (keys:=["width","height"]) rfl (by decide+kernel)
abbrev pH:List Str:=["octets","flips","is_burst"]
theorem tE:pH.Nodup:=by decide+kernel
abbrev iD (v0 v1 v2:V):List (Str×V):=[("octets",v0),("flips",v1),("is_burst",v2)]
theorem cJ {v0 v1 v2:V}:(iD v0 v1 v2).lookup ("octets":Str)=some v0:=jJ (keys:=pH) 0 rfl rfl tE
theorem aIf {v0:V}:fJ ("octets":Str) v0 ([]:List (Str×V))=([("octets",v0)]:List (Str×V)):=gD (keys:=[]) rfl (by decide+kernel)
theorem jR {v0 v1 v2:V}:(iD v0 v1 v2).lookup ("flips":Str)=some v1:=jJ (keys:=pH) 1 rfl rfl tE
theorem aLv {v0 v1 v2 z:V}:fJ ("flips":Str) z (iD v0 v1 v2)=iD v0 z v2:=bAg (keys:=pH) 1 rfl rfl tE
theorem aLc {v0 v1:V}:fJ ("flips":Str) v1 ([("octets",v0)]:List (Str×V))=([("octets",v0),("flips",v1)]:List (Str×V)):=gD (keys:=["octets"]) rfl (by decide+kernel)
theorem fM {v0 v1 v2:V}:(iD v0 v1 v2).lookup ("is_burst":Str)=some v2:=jJ (keys:=pH) 2 rfl rfl tE
theorem aDb {v0 v1 v2 z:V}:fJ ("is_burst":Str) z (iD v0 v1 v2)=iD v0 v1 z:=bAg (keys:=pH) 2 rfl rfl tE
theorem aCx {v0 v1 v2:V}:fJ ("is_burst":Str) v2 ([("octets",v0),("flips",v1)]:List (Str×V))=([("octets",v0),("flips",v1),("is_burst",v2)]:List (Str×V)):=gD (keys:=["octets","flips"]) rfl (by decide+kernel)
abbrev iG:List Str:=["stamp","width","height","slices","reference","reference_stamp","packed","packets"]
theorem jD:iG.Nodup:=by decide+kernel
abbrev eG (v0 v1 v2 v3 v4 v5 v6 v7:V):List (Str×V):=[("stamp",v0),("width",v1),("height",v2),("slices",v3),("reference",v4),("reference_stamp",v5),("packed",v6),("packets",v7)]
theorem jT {v0 v1 v2 v3 v4 v5 v6 v7:V}:(eG v0 v1 v2 v3 v4 v5 v6 v7).lookup ("stamp":Str)=some v0:=jJ (keys:=iG) 0 rfl rfl jD
theorem aLd {v0:V}:fJ ("stamp":Str) v0 ([]:List (Str×V))=([("stamp",v0)]:List (Str×V)):=gD (keys:=[]) rfl (by decide+kernel)
theorem cD {v0 v1 v2 v3 v4 v5 v6 v7:V}:(eG v0 v1 v2 v3 v4 v5 v6 v7).lookup ("width":Str)=some v1:=jJ (keys:=iG) 1 rfl rfl jD
theorem aLe {v0 v1:V}:fJ ("width":Str) v1 ([("stamp",v0)]:List (Str×V))=([("stamp",v0),("width",v1)]:List (Str×V)):=gD (keys:=["stamp"]) rfl (by decide+kernel)
theorem fG {v0 v1 v2 v3 v4 v5 v6 v7:V}:(eG v0 v1 v2 v3 v4 v5 v6 v7).lookup ("height":Str)=some v2:=jJ (keys:=iG) 2 rfl rfl jD
theorem aIk {v0 v1 v2:V}:fJ ("height":Str) v2 ([("stamp",v0),("width",v1)]:List (Str×V))=([("stamp",v0),("width",v1),("height",v2)]:List (Str×V)):=gD (keys:=["stamp","width"]) rfl (by decide+kernel)
theorem dG {v0 v1 v2 v3 v4 v5 v6 v7:V}:(eG v0 v1 v2 v3 v4 v5 v6 v7).lookup ("slices":Str)=some v3:=jJ (keys:=iG) 3 rfl rfl jD
theorem aIm {v0 v1 v2 v3:V}:fJ ("slices":Str) v3 ([("stamp",v0),("width",v1),("height",v2)]:List (Str×V))=([("stamp",v0),("width",v1),("height",v2),("slices",v3)]:List (Str×V)):=gD (keys:=["stamp","width","height"]) rfl (by decide+kernel)
theorem dY {v0 v1 v2 v3 v4 v5 v6 v7:V}:(eG v0 v1 v2 v3 v4 v5 v6 v7).lookup ("reference":Str)=some v4:=jJ (keys:=iG) 4 rfl rfl jD
theorem aAl {v0 v1 v2 v3 v4:V}:fJ ("reference":Str) v4 ([("stamp",v0),("width",v1),("height",v2),("slices",v3)]:List (Str×V))=([("stamp",v0),("width",v1),("height",v2),("slices",v3),("reference",v4)]:List (Str×V)):=gD (keys:=["stamp","width","height","slices"]) rfl (by decide+kernel)
theorem fV {v0 v1 v2 v3 v4 v5 v6 v7:V}:(eG v0 v1 v2 v3 v4 v5 v6 v7).lookup ("reference_stamp":Str)=some v5:=jJ (keys:=iG) 5 rfl rfl jD
theorem qT {v0 v1 v2 v3 v4 v5:V}:fJ ("reference_stamp":Str) v5 ([("stamp",v0),("width",v1),("height",v2),("slices",v3),("reference",v4)]:List (Str×V))=([("stamp",v0),("width",v1),("height",v2),("slices",v3),("reference",v4),("reference_stamp",v5)]:List (Str×V)):=gD (keys:=["stamp","width","height","slices","reference"]) rfl (by decide+kernel)
theorem mG {v0 v1 v2 v3 v4 v5 v6 v7:V}:(eG v0 v1 v2 v3 v4 v5 v6 v7).lookup ("packed":Str)=some v6:=jJ (keys:=iG) 6 rfl rfl jD
theorem aIl {v0 v1 v2 v3 v4 v5 v6:V}:fJ ("packed":Str) v6 ([("stamp",v0),("width",v1),("height",v2),("slices",v3),("reference",v4),("reference_stamp",v5)]:List (Str×V))=([("stamp",v0),("width",v1),("height",v2),("slices",v3),("reference",v4),("reference_stamp",v5),("packed",v6)]:List (Str×V)):=gD (keys:=["stamp","width","height","slices","reference","reference_stamp"]) rfl (by decide+kernel)
theorem bN {v0 v1 v2 v3 v4 v5 v6 v7:V}:(eG v0 v1 v2 v3 v4 v5 v6 v7).lookup ("packets":Str)=some v7:=jJ (keys:=iG) 7 rfl rfl jD
theorem rD {v0 v1 v2 v3 v4 v5 v6 v7 z:V}:fJ ("packets":Str) z (eG v0 v1 v2 v3 v4 v5 v6 v7)=eG v0 v1 v2 v3 v4 v5 v6 z:=bAg (keys:=iG) 7 rfl rfl jD
theorem aEx {v0 v1 v2 v3 v4 v5 v6 v7:V}:fJ ("packets":Str) v7 ([("stamp",v0),("width",v1),("height",v2),("slices",v3),("reference",v4),("reference_stamp",v5),("packed",v6)]:List (Str×V))=([("stamp",v0),("width",v1),("height",v2),("slices",v3),("reference",v4),("reference_stamp",v5),("packed",v6),("packets",v7)]:List (Str×V)):=gD (keys:=["stamp","width","height","slices","reference","reference_stamp","packed"]) rfl (by decide+kernel)
abbrev aCr:List Str:=["state","greys"]
theorem aPa:aCr.Nodup:=by decide+kernel
abbrev uC (v0 v1:V):List (Str×V):=[("state",v0),("greys",v1)]
theorem sY {v0 v1:V}:(uC v0 v1).lookup ("state":Str)=some v0:=jJ (keys:=aCr) 0 rfl rfl aPa
theorem aIj {v0:V}:fJ ("state":Str) v0 ([]:List (Str×V))=([("state",v0)]:List (Str×V)):=gD (keys:=[]) rfl (by decide+kernel)
theorem mF {v0 v1:V}:(uC v0 v1).lookup ("greys":Str)=some v1:=jJ (keys:=aCr) 1 rfl rfl aPa
theorem aIi {v0 v1:V}:fJ ("greys":Str) v1 ([("state",v0)]:List (Str×V))=([("state",v0),("greys",v1)]:List (Str×V)):=gD (keys:=["state"]) rfl (by decide+kernel)
abbrev xU:List Str:=["pictures","streams","stamp"]
theorem aEu:xU.Nodup:=by decide+kernel
abbrev fL (v0 v1 v2:V):List (Str×V):=[("pictures",v0),("streams",v1),("stamp",v2)]
theorem bW {v0 v1 v2:V}:(fL v0 v1 v2).lookup ("pictures":Str)=some v0:=jJ (keys:=xU) 0 rfl rfl aEu
theorem aEv {v0:V}:fJ ("pictures":Str) v0 ([]:List (Str×V))=([("pictures",v0)]:List (Str×V)):=gD (keys:=[]) rfl (by decide+kernel)
theorem aY {v0 v1 v2:V}:(fL v0 v1 v2).lookup ("streams":Str)=some v1:=jJ (keys:=xU) 1 rfl rfl aEu
theorem aIe {v0 v1:V}:fJ ("streams":Str) v1 ([("pictures",v0)]:List (Str×V))=([("pictures",v0),("streams",v1)]:List (Str×V)):=gD (keys:=["pictures"]) rfl (by decide+kernel)
theorem lD {v0 v1 v2:V}:(fL v0 v1 v2).lookup ("stamp":Str)=some v2:=jJ (keys:=xU) 2 rfl rfl aEu
theorem yG {v0 v1 v2 z:V}:fJ ("stamp":Str) z (fL v0 v1 v2)=fL v0 v1 z:=bAg (keys:=xU) 2 rfl rfl aEu
theorem aPe {v0 v1 v2:V}:fJ ("stamp":Str) v2 ([("pictures",v0),("streams",v1)]:List (Str×V))=([("pictures",v0),("streams",v1),("stamp",v2)]:List (Str×V)):=gD (keys:=["pictures","streams"]) rfl (by decide+kernel)
end F
end
section
set_option maxHeartbeats 4000000
namespace F
open PySem PySem.Spec PyProof.Rows L2
section
variable {P:Program} {w:World} {K:aA} {mg:Str->Option Value} {base:Heap} {a:Adr}
local macro_rules | `(tactic| and_intros) => `(tactic| ((try simp only [bRz, bKl, bSa, bRu, bHd, aJw, bNn, bNl, bMv, bMw, tC, tOp, tUn, bKm, bKo, tB, bRp, bRn, tOr, bRw, bNj, bTd, bRy, tIf, bDr, rI, bRf, rI0, bPd, rU, bRl, bPt, bNk, tCB, bKg, bKi, tSl, bFk, bNo, bKk]); simp [wipe, rEq, rNe, bMk, L2.start, List.replicate, and_assoc])) local macro_rules | `(tactic| symm) => `(tactic| try dsimp only [cxK])
theorem bI {c A B:Prop} [Decidable c] (hc:c) (h:A):if c then A else B:=by rw [aD hc];exact h
theorem bK {c A B:Prop} [Decidable c] (hc: ¬c) (h:B):if c then A else B:=by rw [aF hc];exact h
theorem bx {x y:Nat}:Builtin.bitXor (x:Int) (y:Int)=((x^^^y:Nat):Int):=by
 rw [Bits.bFo (Int.natCast_nonneg _) (Int.natCast_nonneg _)];simp
theorem cF {n:Nat} (h:n<=1000000):n<=sizeLine:=Nat.le_trans h (by decide)
inductive bDn (vs:List V) (H:Hp) (Q:VK):Prop|mk (z lo hi:Int) (z0:vs=[.int z,.int lo,.int hi]) (z1:Q (.bl (Vbfaae.within z lo hi)) H) def bGy (K:aA) (a:Adr):L2.Sp:=fun vs H Q _=>bDn vs H Q
theorem bGr:bA ["number","least","greatest"] ["number","least","greatest"] (aV aUl):=by decide+kernel
theorem dZ (T:Txt P w K mg a):Ok P w K mg base 1 "within" ["number","least","greatest"] (bGy K a):=by
 refine T.bHv.ok bGr (fun vs H Q E h=> ?_) (fun f cdv A outer s H vs Q E hr h=> ?_)
 . obtain⟨z,lo,hi,rfl,_⟩:=h
   rfl
 . obtain⟨z,lo,hi,rfl,k⟩:=h
   refine⟨_,(aM (aU (bJg aKh aKh (pv 1) (pv 0) (pv 2)))),?_⟩;symm
   and_intros
   unfold Vbfaae.within at k
   split<;>simp_all
inductive aQb (vs:List V) (H:Hp) (Q:VK):Prop|mk (p:Addr) (l:List Int) (lo hi:Int) (z0:vs=[.ref p,.int lo,.int hi]) (z1:H p=some (.lst (iv l))) (z2:l.length<=sizeLine) (z3: ∀H',bJ H H'->Q (.bl (l.all fun z=>Vbfaae.within z lo hi)) H') def aSg (K:aA) (a:Adr):L2.Sp:=fun vs H Q _=>aQb vs H Q
theorem rZ:bA ["numbers","least","greatest","number"] ["numbers","least","greatest"] (aV aBx):=by decide+kernel
theorem rT (T:Txt P w K mg a):Ok P w K mg base 2 "all_within" ["numbers","least","greatest"] (aSg K a):=by
 refine T.aVe.ok rZ (fun vs H Q E h=> ?_) (fun f cdv A outer s H vs Q E hr h=> ?_)
 . obtain⟨p,l,lo,hi,rfl,_⟩:=h
   rfl
 . obtain⟨p,l,lo,hi,rfl,hp,hz,k⟩:=h
   refine⟨_,(aM (aU (bL (bBx rfl) (by rfl) T.bIw (by rfl) (aJ (tK (own:=[("number",3)]) rfl rZ.nd (lJ (pv 0)) (eZ (by rfl)) (fun _ _ _ _ _=>(cM (i:=3) rZ.nd rfl (Or.inl rfl))) (fun _ _ _ _ _=>iQ) (fun _ _ _ _ _=>(aP (dZ T) hr (by decide) rfl (aJ (pv 3) (aJ (pv 1) (aJ (pv 2) aL)))))) aL)))),?_⟩;symm
   refine⟨_,rfl,p,rfl,⟨_,SqL.of hp⟩,fun D hD=> ?_⟩
   refine sZ (K:=K) (xs:=iv l) (ys:=l.map fun z=>V.bl (Vbfaae.within z lo hi)) (SqL.of hp) hD (by simpa using hz) (by simp) (fun i x y hx hy H2 Kt Al hs hk=> ?_) (fun H2 hs h2=> ?_)
   . simp at hx hy
     obtain⟨z,hz,rfl⟩:=hx
     obtain⟨z',hz',rfl⟩:=hy
     rw [hz] at hz'
     cases hz'
     and_intros
     exact⟨_,_,_,rfl,hk _ (bJ.refl _)⟩
   . refine⟨D,l.map fun z=>Vbfaae.within z lo hi,rfl,SqL.of (by rw [h2];simp),?_⟩
     have:=k H2 hs
     simpa [List.all_map] using this
inductive bDk (vs:List V) (H:Hp) (Q:VK):Prop|mk (z:Int) (z0:vs=[.int z]) (z1:Q (.bl (Vbfaae.keyed z)) H) def bGw (K:aA) (a:Adr):L2.Sp:=fun vs H Q _=>bDk vs H Q
theorem bGp:bA ["number"] ["number"] (aV aUj):=by decide+kernel
theorem tG (T:Txt P w K mg a):Ok P w K mg base 2 "is_key" ["number"] (bGw K a):=by
 refine T.bHt.ok bGp (fun vs H Q E h=> ?_) (fun f cdv A outer s H vs Q E hr h=> ?_)
 . obtain⟨z,rfl,_⟩:=h
   rfl
 . obtain⟨z,rfl,k⟩:=h
   refine⟨_,(aM (aU (aP (dZ T) hr (by decide) rfl (aJ (pv 0) (aJ aN (aJ aN aL)))))),?_⟩;symm
   and_intros
   exact⟨_,_,_,rfl,k⟩
inductive aQa (vs:List V) (H:Hp) (Q:VK):Prop|mk (p:Addr) (l:List Int) (z0:vs=[.ref p]) (z1:H p=some (.lst (iv l))) (z2:l.length<=sizeLine) (z3: ∀H',bJ H H'->Q (.bl (decide (l.length<=1600)&&l.all fun z=>Vbfaae.within z 0 255)) H') def aSf (K:aA) (a:Adr):L2.Sp:=fun vs H Q _=>aQa vs H Q
theorem aRy:bA ["numbers"] ["numbers"] (aV aBw):=by decide+kernel
theorem aBi (T:Txt P w K mg a):Ok P w K mg base 3 "all_octets" ["numbers"] (aSf K a):=by
 refine T.aVd.ok aRy (fun vs H Q E h=> ?_) (fun f cdv A outer s H vs Q E hr h=> ?_)
 . obtain⟨p,l,rfl,_⟩:=h
   rfl
 . obtain⟨p,l,rfl,hp,hz,k⟩:=h
   refine⟨_,(aM (aU (bCy (rC aKh (bL bH (by rfl) T.dC PySem.boot_len (aJ (pv 0) aL)) (cA rfl T.aRo) (bF _)) (bDa (aP (rT T) hr (by decide) rfl (aJ (pv 0) (aJ aN (aJ aN aL)))))))),?_⟩;symm
   refine⟨_,rfl,p,_,rfl,.inl (SqL.of hp),_,_,rfl,rfl,_,rfl,?_⟩
   by_cases h:l.length<=1600
   . refine bI (by rw [aC,aG];omega) ?_
     refine⟨_,rfl,p,l,0,255,rfl,hp,hz,fun H' s=> ?_⟩
     have:=k H' s
     rw [decide_eq_true h,Bool.true_and] at this
     exact this
   . refine bK (by rw [aC,aG];omega) ?_
     have:=k H (bJ.refl _)
     rw [decide_eq_false h,Bool.false_and] at this
     exact this
inductive aQc (vs:List V) (H:Hp) (Q:VK):Prop|mk (r n:Nat) (z0:vs=[.int r,.int n]) (z1:r<Vbfaae.WORD) (z2:n<16) (z3:Q (.int (M.aQt r n:Nat)) H) def aSh (K:aA) (a:Adr):L2.Sp:=fun vs H Q _=>aQc vs H Q
theorem aSa:bA ["r","four"] ["r","four"] (aV aCd):=by decide+kernel
theorem aBj (T:Txt P w K mg a):Ok P w K mg base 1 "check_step" ["r","four"] (aSh K a):=by
 refine T.aVk.ok aSa (fun vs H Q E h=> ?_) (fun f cdv A outer s H vs Q E hr h=> ?_)
 . obtain⟨r,n,rfl,_⟩:=h
   rfl
 . obtain⟨r,n,rfl,h1,h2,k⟩:=h
   refine⟨_,(aM (aU (bG bJc (bG rW (bG lH (pv 0) aN) (cA rfl T.aRm)) (bZ bOl (bJi rfl T.aSy) (bG bJc (bG uL (pv 0) aN) (pv 1)) (fun _ _=>rfl))))),?_⟩;symm
   and_intros
   have hw:Vbfaae.WORD=4294967296:=rfl
   refine⟨.inr (by omega),fun q hq=> ?_⟩
   have e1:Builtin.bitXor ((r:Int)/268435456) n=((r/268435456^^^n:Nat):Int):=by rw [<-bx];simp
   have hx:r/268435456^^^n<16:=by
    have e:(16:Nat)=2 ^ 4:=by decide
    rw [e];exact Nat.xor_lt_two_pow (by omega) (by omega)
   have e2:M.STEPS[r/268435456^^^n]? =some (M.STEPS.getD (r/268435456^^^n) 0):=by
    have hl:r/268435456^^^n<M.STEPS.length:=hx
    rw [List.getD_eq_getElem?_getD,List.getElem?_eq_getElem hl];rfl
   refine⟨q,_,_,_,rfl,rfl,hq _,at_of (j:=r/268435456^^^n) e1 (v:=V.int (M.STEPS.getD (r/268435456^^^n) 0:Nat)) ?_,_,rfl,?_⟩
   . exact bJa (l:=M.STEPS) e2
   . have e3:Builtin.bitXor ((r:Int)*16%4294967296) (M.STEPS.getD (r/268435456^^^n) 0:Nat)=(M.aQt r n:Nat):=by
      unfold M.aQt
      rw [hw,<-bx];simp
     rw [e3];exact k
inductive aJi (vs:List V) (H:Hp) (Q:VK):Prop|mk (p q:Addr) (kvs:List (Key×V)) (l:List Int) (z0:vs=[.ref p,.ref q]) (z1:H p=some (.dK kvs)) (z2:H q=some (.lst (iv l))) (z3:l.length<=sizeLine) (z4: ∀H',bJ H H'->Q (.int (if(l.all fun z=>Vbfaae.keyed z)=false then-1 else if(l.all fun z=>(dO kvs (Sum.inl z)).isSome)=false then-4 else 0)) H') def aMm (K:aA) (a:Adr):L2.Sp:=fun vs H Q _=>aJi vs H Q
theorem iB:bA ["shelf","keys","key"] ["shelf","keys"] (aV wF):=by decide+kernel
theorem nY (T:Txt P w K mg a):Ok P w K mg base 3 "keys_refusal" ["shelf","keys"] (aMm K a):=by
 refine T.aOa.ok iB (fun vs H Q E h=> ?_) (fun f cdv A outer s H vs Q E hr h=> ?_)
 . obtain⟨p,q,kvs,l,rfl,_⟩:=h
   rfl
 . obtain⟨p,q,kvs,l,rfl,hp,hq,hz,k⟩:=h
   have hu:=fO hr
   refine⟨_,(aK (bR (eU (cT (bL (bBx rfl) (by rfl) T.bIw (by rfl) (aJ (tK (own:=[("key",2)]) rfl iB.nd (lJ (pv 1)) (eZ (by rfl)) (fun _ _ _ _ _=>(cM (i:=2) iB.nd rfl (Or.inl rfl))) (fun _ _ _ _ _=>iQ) (fun _ _ _ _ _=>(aP (tG T) hr (by decide) rfl (aJ (pv 2) aL)))) aL)))) (aM (aU (cA rfl T.cO))) bB) (aK (bR (eU (cT (bL (bBx rfl) (by rfl) T.bIw (by rfl) (aJ (tK (own:=[("key",2)]) rfl iB.nd (lJ (pv 1)) (eZ (by rfl)) (fun _ _ _ _ _=>(cM (i:=2) iB.nd rfl (Or.inl rfl))) (fun _ _ _ _ _=>iQ) (fun _ _ _ _ _=>(aPt (bJd hu (pv 2) (pv 0))))) aL)))) (aM (aU (cA rfl T.aHx))) bB) (aM (aU aN)))),?_⟩;symm
   refine⟨_,rfl,q,rfl,⟨_,SqL.of hq⟩,fun D hD=> ?_⟩
   refine sZ (K:=K) (xs:=iv l) (ys:=l.map fun z=>V.bl (Vbfaae.keyed z)) (SqL.of hq) hD (by simpa using hz) (by simp) (fun i x y hx hy H2 Kt Al hs hk=> ?_) (fun H2 hs h2=> ?_)
   . simp at hx hy
     obtain⟨z,hz,rfl⟩:=hx
     obtain⟨z',hz',rfl⟩:=hy
     rw [hz] at hz'
     cases hz'
     and_intros
     exact⟨_,rfl,hk _ (bJ.refl _)⟩
   . refine⟨D,l.map fun z=>Vbfaae.keyed z,rfl,SqL.of (by rw [h2];simp),?_⟩
     have k:=fun H' (s:bJ H2 H')=>k H' (hs.trans s)
     replace hp:=hs _ _ hp
     replace hq:=hs _ _ hq
     have e:(l.map fun z=>Vbfaae.keyed z).all id=l.all fun z=>Vbfaae.keyed z:=by simp [List.all_map]
     rw [e]
     refine⟨_,rfl,?_⟩
     cases hk:(l.all fun z=>Vbfaae.keyed z) with
     |false=>
      rw [hk] at k
      exact bI rfl (k _ (bJ.refl _))
     |true=>
      rw [hk] at k
      refine bK (by decide) ?_
      refine⟨_,rfl,q,rfl,⟨_,SqL.of hq⟩,fun D2 hD2=> ?_⟩
      refine sZ (K:=K) (xs:=iv l) (ys:=l.map fun z=>V.bl (dO kvs (Sum.inl z)).isSome) (SqL.of hq) hD2 (by simpa using hz) (by simp) (fun i x y hx hy H3 Kt Al hs3 hk3=> ?_) (fun H3 hs3 h3=> ?_)
      . simp at hx hy
        obtain⟨z,hz,rfl⟩:=hx
        obtain⟨z',hz',rfl⟩:=hy
        rw [hz] at hz'
        cases hz'
        refine⟨rfl,_,rfl,_,rfl,p,_,rfl,wN.k (k:=Sum.inl z) (hs3 _ _ hp),hk3 _ (bJ.refl _)⟩
      . refine⟨D2,l.map fun z=>(dO kvs (Sum.inl z)).isSome,rfl,SqL.of (by rw [h3];simp),?_⟩
        have e2:(l.map fun z=>(dO kvs (Sum.inl z)).isSome).all id=l.all fun z=>(dO kvs (Sum.inl z)).isSome:=by simp [List.all_map]
        rw [e2]
        refine⟨_,rfl,?_⟩
        have k:=k H3 hs3
        cases hk4:(l.all fun z=>(dO kvs (Sum.inl z)).isSome) with
        |false=>
         rw [hk4] at k
         exact bI rfl k
        |true=>
         rw [hk4] at k
         exact bK (by decide) k
inductive aMl (vs:List V) (H:Hp) (Q:VK):Prop|mk (p:Addr) (kvs:List (Key×V)) (z:Int) (z0:vs=[.ref p,.int z]) (z1:H p=some (.dK kvs)) (z2: ∀H',bJ H H'->Q (.int (if Vbfaae.keyed z=false then-1 else if dO kvs (Sum.inl z)=none then-4 else 0)) H') def aQk (K:aA) (a:Adr):L2.Sp:=fun vs H Q _=>aMl vs H Q
theorem aPy:bA ["shelf","key"] ["shelf","key"] (aV zL):=by decide+kernel
theorem cV (T:Txt P w K mg a):Ok P w K mg base 4 "key_refusal" ["shelf","key"] (aQk K a):=by
 refine T.aRi.ok aPy (fun vs H Q E h=> ?_) (fun f cdv A outer s H vs Q E hr h=> ?_)
 . obtain⟨p,kvs,z,rfl,_⟩:=h
   rfl
 . obtain⟨p,kvs,z,rfl,hp,k⟩:=h
   refine⟨_,(aM (aU (aP (nY T) hr (by decide) rfl (aJ (pv 0) (aJ (bU (aJ (pv 1) aL)) aL))))),?_⟩;symm
   refine⟨_,rfl,_,rfl,(by show 1<=sizeLine;decide),fun q hq=> ?_⟩
   refine⟨p,q,kvs,[z],rfl,cI hq hp,aO,(by show 1<=sizeLine;decide),fun H' s=> ?_⟩
   have k:=k H' ((bY hq).trans s)
   have e1:([z].all fun z=>Vbfaae.keyed z)=Vbfaae.keyed z:=by simp
   have e2:(([z].all fun z=>(dO kvs (Sum.inl z)).isSome)=false)=(dO kvs (Sum.inl z)=none):=by simp
   simp only [e1,e2]
   exact k
inductive bAv (vs:List V) (H:Hp) (Q:VK):Prop|mk (p:Addr) (kvs:List (Key×V)) (z m:Int) (z0:vs=[.ref p,.int z,.int m]) (z1:H p=some (.dK kvs)) (z2:Q (.bl ((dO kvs (Sum.inl z)).isNone&&decide (m<=(kvs.length:Int)))) H) def bDj (K:aA) (a:Adr):L2.Sp:=fun vs H Q _=>bAv vs H Q
theorem bDe:bA ["shelf","key","most"] ["shelf","key","most"] (aV aQr):=by decide+kernel
theorem uJ (T:Txt P w K mg a):Ok P w K mg base 1 "is_full" ["shelf","key","most"] (bDj K a):=by
 refine T.bFt.ok bDe (fun vs H Q E h=> ?_) (fun f cdv A outer s H vs Q E hr h=> ?_)
 . obtain⟨p,kvs,z,m,rfl,_⟩:=h
   rfl
 . obtain⟨p,kvs,z,m,rfl,hp,k⟩:=h
   have hu:=fO hr
   refine⟨_,(aM (aU (bCy (aPt (aIu hu (pv 1) (pv 0))) (bDa (rC pY (bL aTe (by rfl) T.dC PySem.boot_len (aJ (pv 0) aL)) (pv 2) (bF _)))))),?_⟩;symm
   refine⟨_,rfl,_,rfl,p,_,rfl,wN.k (k:=Sum.inl z) hp,_,rfl,?_⟩
   cases hv:dO kvs (Sum.inl z) with
   |some v=>rw [hv] at k;exact bK (by simp) k
   |none=>
    rw [hv] at k
    refine bI rfl ?_
    refine⟨_,rfl,p,kvs,rfl,hp,_,rfl,_,_,rfl,rfl,?_⟩
    simpa using k
def sI (H:Hp) (Q:VK) (xs:List V):Prop:= ∀H' p,bJ H H'->H p=none->H' p=some (.lst xs)->Q (.ref p) H'
theorem nW {l:List Nat} {i:Nat} {y:V} (h:(ni l)[i]? =some y): ∃n,l[i]? =some n/\y=V.int n:=by
 rw [List.getElem?_map] at h
 cases e:l[i]? with
 |none=>rw [e] at h;cases h
 |some n=>rw [e] at h;exact⟨n,rfl,(Option.some.inj h).symm⟩
inductive bGt (K:aA) (vs:List V) (H:Hp) (Q:VK):Prop|mk (p:Addr) (l:List Nat) (z0:vs=[.ref p]) (z1:SqL K H p (ni l)) (z2:(∀b∈l,b<256)) (z3:Q (.int (Vbfaae.crc l:Nat)) H) def bJz (K:aA) (a:Adr):L2.Sp:=fun vs H Q _=>bGt K vs H Q
theorem yK:bA ["octets","r","octet"] ["octets"] (aV bBb):=by decide+kernel
theorem aPl (T:Txt P w K mg a):Ok P w K mg base 2 "check" ["octets"] (bJz K a):=by
 refine T.bKz.ok yK (fun vs H Q E h=> ?_) (fun f cdv A outer s H vs Q E hr h=> ?_)
 . obtain⟨p,l,rfl,_⟩:=h
   rfl
 . obtain⟨p,l,rfl,hp,hb,k⟩:=h
   refine⟨_,(aK (aZ (i:=1) yK.nd rfl (Or.inl rfl) (cA rfl T.aRn)) (aK (lK PassesOwn.never rfl (lJ (pv 0)) (cM (i:=2) yK.nd rfl (Or.inl rfl)) (aK (aZ (i:=1) yK.nd rfl (Or.inl rfl) (aP (aBj T) hr (by decide) rfl (aJ (pv 1) (aJ (bG uL (pv 2) aN) aL)))) (aM (aZ (i:=1) yK.nd rfl (Or.inl rfl) (aP (aBj T) hr (by decide) rfl (aJ (pv 1) (aJ (bG aWo (pv 2) aN) aL))))))) (aM (aU (pv 1))))),?_⟩;symm
   refine⟨_,rfl,p,rfl,⟨_,hp⟩,aOm (K:=K) (a:=p) (xs:=ni l) (fun i σ H'=>H'=H/\ ∃v,σ=[some (.ref p),some (.int ((l.take i).foldl M.aKr 4294967295:Nat)),v]) ⟨rfl,_,rfl⟩ (fun i σ H' _ h=>by rw [h.1];exact hp) ?_ ?_⟩
   . rintro i y σ H' hi ⟨rfl,v,rfl⟩
     obtain⟨o,ho,rfl⟩:=nW hi
     have hob:=hb o (List.mem_of_getElem? ho)
     have hlt:=(M.aNn (l.take i) 4294967295 (by decide) fun b h=>hb b (List.mem_of_mem_take h)).2
     and_intros
     refine⟨_,o/16,rfl,hlt,by omega,?_⟩
     rw [PyProof.Rows.bitAnd_m4]
     refine⟨_,o%16,rfl,M.aHh hlt (by omega),by omega,?_⟩
     rw [M.dX ho,List.foldl_append]
     simp [M.aKr]
   . rintro σ H' ⟨rfl,v,rfl⟩
     and_intros
     rw [<-M.bOd l hb]
     exact k
inductive yW (vs:List V) (H:Hp) (Q:VK):Prop|mk (n k:Nat) (z0:vs=[.int n,.int k]) (z1:k<=4) (z2:sI H Q (ni ((List.range k).map fun i=>n/2 ^ (8*(k-1-i))%256))) def aAx (K:aA) (a:Adr):L2.Sp:=fun vs H Q _=>yW vs H Q
theorem jM:bA ["number","size","place"] ["number","size"] (aV oU):=by decide+kernel
theorem gG (T:Txt P w K mg a):Ok P w K mg base 1 "octets_of_number" ["number","size"] (aAx K a):=by
 refine T.aCn.ok jM (fun vs H Q E h=> ?_) (fun f cdv A outer s H vs Q E hr h=> ?_)
 . obtain⟨n,k,rfl,_⟩:=h
   rfl
 . obtain⟨n,k,rfl,hk,kk⟩:=h
   refine⟨_,(aM (aU (tK (own:=[("place",2)]) rfl jM.nd (jF rfl T.jV (aJ (pv 1) aL)) (eZ (by rfl)) (fun _ _ _ _ _=>(cM (i:=2) jM.nd rfl (Or.inl rfl))) (fun _ _ _ _ _=>iQ) (fun _ _ _ _ _=>(bG aWo (bG uL (pv 0) (bG lH aN (bG dN (bG dN (pv 1) aN) (pv 2)))) aN))))),?_⟩;symm
   refine⟨_,rfl,k,rfl,by omega,by omega,fun D hD=> ?_⟩
   refine aIa (lo:=0) (n:=k) (ys:=ni ((List.range k).map fun i=>n/2 ^ (8*(k-1-i))%256)) hD (by simp;exact cF (by omega)) (by simp) (fun i y hi hy H2 Kt Al hs hk=> ?_) (fun H2 hs h2=>kk _ _ hs hD h2)
   . simp [hi] at hy
     subst hy
     and_intros
     have e:(8:Int)*((k:Int)-1-i)=((8*(k-1-i):Nat):Int):=by omega
     refine⟨.inl (by omega),by rw [e];omega,?_⟩
     rw [e,PyProof.Rows.bitAnd_m8,aH]
     have e2:(n:Int)/2 ^ (8*(k-1-i))%256=((n/2 ^ (8*(k-1-i))%256:Nat):Int):=by simp
     rw [e2]
     exact hk _ (bJ.refl _)
theorem bRb (n:Nat):(List.range 4).map (fun i=>n/2 ^ (8*(4-1-i))%256)=Vbfaae.four n:=by
 simp [List.range,List.range.loop,Vbfaae.four]
theorem bRa (n:Nat):(List.range 2).map (fun i=>n/2 ^ (8*(2-1-i))%256)=Vbfaae.two n:=by
 simp [List.range,List.range.loop,Vbfaae.two]
theorem sI.put {H H1:Hp} {Q:VK} {xs ys:List V} {r:Addr} (k:sI H Q xs) (s1:bJ H H1) (hr:H1 r=none) (e:ys=xs):Q (.ref r) (upd H1 r (.lst ys)):=
 k _ r (s1.trans (bY hr)) (s1.free hr) (by rw [aO,e])
theorem sI.at {H H1 H2:Hp} {Q:VK} {xs ys:List V} {r:Addr} (k:sI H Q xs) (s1:bJ H H1) (hr:H1 r=none) (s2:bJ H1 H2) (h2:H2 r=some (.lst ys)) (e:ys=xs):Q (.ref r) H2:=
 k _ r (s1.trans s2) (s1.free hr) (by rw [h2,e])
theorem bEg {K:aA} {H:Hp}: ∀l:List Int,aNi K H (iv l) (l.map PyData.int)
 |[]=> .nil
 |x::l=> .cons (.int x) (bEg l)
theorem bQz (l:List Nat):ni l=iv (l.map fun(n:Nat)=>(n:Int)):=by simp [ni,iv]
theorem bEh {K:aA} {H:Hp} {p:Addr} {l:List Nat} (h:SqL K H p (ni l)):Dp K H (.ref p) (.list ((l.map fun(n:Nat)=>(n:Int)).map PyData.int)):= .lst h (by rw [bQz];exact bEg _)
theorem aZh (l m:List Int):PyData.eqv (.list (l.map PyData.int)) (.list (m.map PyData.int))=decide (l=m):=by
 show PyData.eqvAll _ _=_
 exact PySem.W.ked_eqvAll l m
theorem shaped_ints (l:List Int):SeqAt.shaped (.list (l.map PyData.int))=true:=by
 simp [SeqAt.shaped,PyData.canLay0,PyData.canLayAll0,PyData.depth,PyData.depthAll,PySem.W.ke_canLayAll0,PySem.W.ke_depthAll]
theorem aYe {l m:List Nat}:l.map (fun(n:Nat)=>(n:Int))=m.map (fun(n:Nat)=>(n:Int))↔l=m:=by
 exact List.map_inj_right fun x y h=>by exact_mod_cast h
theorem bOj {K:aA} {H:Hp} {Q:VK} {p q:Addr} {l m:List Nat} (h1:SqL K H p (ni l)) (h2:SqL K H q (ni m)) (k:Q (.bl (decide (l=m))) H):bRd K (.ref p) (.ref q) H Q:=
 ⟨_,_,bEh h1,bEh h2,shaped_ints _,shaped_ints _,by rw [aZh];simpa only [aYe] using k⟩
theorem bIz {K:aA} {H:Hp} {Q:VK} {p q:Addr} {l m:List Nat} (h1:SqL K H p (ni l)) (h2:SqL K H q (ni m)) (k:Q (.bl (!decide (l=m))) H):bRj K (.ref p) (.ref q) H Q:=
 ⟨_,_,bEh h1,bEh h2,shaped_ints _,shaped_ints _,by rw [aZh];simpa only [aYe] using k⟩
theorem aAa (xs:List V) (k:Nat):oV xs (some (k:Int)) none=xs.drop k:=by
 unfold oV
 rw [HT.aNg,HT.bAn]
 by_cases h:k<=xs.length
 . rw [Nat.min_eq_left h,List.take_of_length_le (by rw [List.length_drop];exact Nat.le_refl _)]
 . rw [Nat.min_eq_right (by omega),List.drop_eq_nil_of_le (Nat.le_refl _),List.drop_eq_nil_of_le (by omega)];simp
theorem aVb (xs:List V) (k:Nat):oV xs none (some (k:Int))=xs.take k:=by
 unfold oV
 rw [HT.aNg,HT.bAn,List.drop_zero,Nat.sub_zero]
 by_cases h:k<=xs.length
 . rw [Nat.min_eq_left h]
 . rw [Nat.min_eq_right (by omega),List.take_of_length_le (Nat.le_refl _),List.take_of_length_le (by omega)]
theorem sX (xs:List V) (i j:Nat):oV xs (some (i:Int)) (some (j:Int))=(xs.drop i).take (j-i):=by
 unfold oV
 rw [HT.aNg,HT.aNg]
 by_cases h:i<=xs.length
 . rw [Nat.min_eq_left h]
   by_cases h2:j<=xs.length
   . rw [Nat.min_eq_left h2]
   . rw [Nat.min_eq_right (by omega),List.take_of_length_le (by rw [List.length_drop];exact Nat.le_refl _),List.take_of_length_le (by rw [List.length_drop];omega)]
 . rw [show min i xs.length=xs.length by omega,List.drop_eq_nil_of_le (Nat.le_refl _),List.drop_eq_nil_of_le (show xs.length<=i by omega)];simp
inductive bDm (vs:List V) (H:Hp) (Q:VK):Prop|mk (p:Addr) (l:List Nat) (z0:vs=[.ref p]) (z1:H p=some (.lst (ni l))) (z2:(∀b∈l,b<256)) (z3:l.length<=100000) (z4:sI H Q (ni (Vbfaae.sealed_ l))) def bGx (K:aA) (a:Adr):L2.Sp:=fun vs H Q _=>bDm vs H Q
theorem bGq:bA ["octets"] ["octets"] (aV aUk):=by decide+kernel
theorem bGk (T:Txt P w K mg a):Ok P w K mg base 3 "sealed" ["octets"] (bGx K a):=by
 refine T.bHu.ok bGq (fun vs H Q E h=> ?_) (fun f cdv A outer s H vs Q E hr h=> ?_)
 . obtain⟨p,l,rfl,_⟩:=h
   rfl
 . obtain⟨p,l,rfl,hp,hb,hl,k⟩:=h
   refine⟨_,(aM (aU (bG iJ (pv 0) (aP (gG T) hr (by decide) rfl (aJ (aP (aPl T) hr (by decide) rfl (aJ (pv 0) aL)) (aJ aN aL)))))),?_⟩;symm
   refine⟨_,rfl,_,rfl,p,l,rfl,SqL.of hp,hb,?_⟩
   refine⟨_,4,rfl,by decide,fun H1 q s1 n1 h1=> ?_⟩
   refine⟨p,q,_,_,rfl,rfl,s1 _ _ hp,h1,cF (by simp;omega),fun r hr=>k.put s1 hr ?_⟩
   rw [bRb]
   unfold Vbfaae.sealed_
   rw [ni,ni,ni,List.map_append]
inductive aSm (vs:List V) (H:Hp) (Q:VK):Prop|mk (p:Addr) (l:List Nat) (z0:vs=[.ref p]) (z1:H p=some (.lst (ni l))) (z2:(∀b∈l,b<256)) (z3:l.length<=100000) (z4: ∀H',bJ H H'->Q (.bl (Vbfaae.isSealed l)) H') def aXg (K:aA) (a:Adr):L2.Sp:=fun vs H Q _=>aSm vs H Q
theorem aFo:bA ["octets","end"] ["octets"] (aV aGz):=by decide+kernel
theorem aWk (T:Txt P w K mg a):Ok P w K mg base 3 "is_sealed" ["octets"] (aXg K a):=by
 refine T.aYu.ok aFo (fun vs H Q E h=> ?_) (fun f cdv A outer s H vs Q E hr h=> ?_)
 . obtain⟨p,l,rfl,_⟩:=h
   rfl
 . obtain⟨p,l,rfl,hp,hb,hl,k⟩:=h
   have hu64:=hr.units
   refine⟨_,(aK (aZ (i:=1) aFo.nd rfl (Or.inl rfl) (bG dN (bL bH (by rfl) T.dC PySem.boot_len (aJ (pv 0) aL)) aN)) (aM (aU (bCy (rC pY (pv 1) aN (bF _)) (bDa (rC (bOx hu64) (iU lV (pv 0) (gH (pv 1)) aAf) (aP (gG T) hr (by decide) rfl (aJ (aP (aPl T) hr (by decide) rfl (aJ (iU lV (pv 0) aAf (gH (pv 1))) aL)) (aJ aN aL))) (bF _))))))),?_⟩;symm
   refine⟨_,rfl,p,_,rfl,.inl (SqL.of hp),_,_,rfl,rfl,?_⟩
   and_intros
   by_cases h4:4<=l.length
   . rw [aD (by omega)]
     have e4:(l.length:Int)-4=((l.length-4:Nat):Int):=by omega
     rw [e4]
     refine⟨p,_,rfl,SqL.of hp,fun q hq=> ?_⟩
     refine⟨p,_,rfl,SqL.of (cI hq hp),fun r hr=> ?_⟩
     refine⟨r,l.take (l.length-4),rfl,SqL.of (by rw [aO,aVb];simp),fun b h=>hb b (List.mem_of_mem_take h),?_⟩
     refine⟨_,4,rfl,by decide,fun H1 t s1 n1 h1=> ?_⟩
     refine bOj (l:=l.drop (l.length-4)) (SqL.of (s1 _ _ (cI hr (by rw [aO,aAa];simp)))) (SqL.of h1) ?_
     have:=k H1 (((bY hq).trans (bY hr)).trans s1)
     unfold Vbfaae.isSealed at this
     rw [bRb]
     simpa [h4,Bool.beq_eq_decide_eq] using this
   . rw [aF (by omega)]
     have:=k H (bJ.refl _)
     unfold Vbfaae.isSealed at this
     simpa [h4] using this
inductive aDp (vs:List V) (H:Hp) (Q:VK):Prop|mk (n k:Nat) (z0:vs=[.int n,.int k]) (z1:k<=100) (z2:sI H Q (ni (Vbfaae.bitsOf k n))) def aFv (K:aA) (a:Adr):L2.Sp:=fun vs H Q _=>aDp vs H Q
theorem lL:bA ["number","size","place"] ["number","size"] (aV rG):=by decide+kernel
theorem lF (T:Txt P w K mg a):Ok P w K mg base 1 "bits_of_number" ["number","size"] (aFv K a):=by
 refine T.aHr.ok lL (fun vs H Q E h=> ?_) (fun f cdv A outer s H vs Q E hr h=> ?_)
 . obtain⟨n,k,rfl,_⟩:=h
   rfl
 . obtain⟨n,k,rfl,hk,kk⟩:=h
   refine⟨_,(aM (aU (tK (own:=[("place",2)]) rfl lL.nd (jF rfl T.jV (aJ (pv 1) aL)) (eZ (by rfl)) (fun _ _ _ _ _=>(cM (i:=2) lL.nd rfl (Or.inl rfl))) (fun _ _ _ _ _=>iQ) (fun _ _ _ _ _=>(bG aWo (bG uL (pv 0) (bG dN (bG dN (pv 1) aN) (pv 2))) aN))))),?_⟩;symm
   refine⟨_,rfl,k,rfl,by omega,by omega,fun D hD=> ?_⟩
   refine aIa (lo:=0) (n:=k) (ys:=ni (Vbfaae.bitsOf k n)) hD (by simp [M.dD];exact cF (by omega)) (by simp [M.dD]) (fun i y hi hy H2 Kt Al hs hk=> ?_) (fun H2 hs h2=>kk _ _ hs hD h2)
   . rw [M.zW] at hy
     simp [hi] at hy
     subst hy
     and_intros
     have e:(k:Int)-1-i=((k-1-i:Nat):Int):=by omega
     refine⟨by omega,?_⟩
     rw [PyProof.Rows.bitAnd_m1]
     exact hk _ (bJ.refl _)
inductive aSn (K:aA) (vs:List V) (H:Hp) (Q:VK):Prop|mk (p:Addr) (l:List Nat) (i k:Nat) (z0:vs=[.ref p,.int i,.int k]) (z1:SqL K H p (ni l)) (z2:l.length<=1000000) (z3:Q (.int (if l.length<i+k then-1 else(Vbfaae.numberOf ((l.drop i).take k):Nat))) H) def aXi (K:aA) (a:Adr):L2.Sp:=fun vs H Q _=>aSn K vs H Q
theorem pG:bA ["bits","at","size","number","place"] ["bits","at","size"] (aV aHa):=by decide+kernel
theorem uK (T:Txt P w K mg a):Ok P w K mg base 1 "number_at" ["bits","at","size"] (aXi K a):=by
 refine T.aYv.ok pG (fun vs H Q E h=> ?_) (fun f cdv A outer s H vs Q E hr h=> ?_)
 . obtain⟨p,l,i,k,rfl,_⟩:=h
   rfl
 . obtain⟨p,l,i,k,rfl,hp,hl,kk⟩:=h
   refine⟨_,(aK (bR (bC oM (bG cR (pv 1) (pv 2)) (bL bH (by rfl) T.dC PySem.boot_len (aJ (pv 0) aL)) (bF _)) (aM (aU (yE qP aN))) bB) (aK (aZ (i:=3) pG.nd rfl (Or.inl rfl) aN) (aK (lK PassesOwn.never rfl (aUa rfl T.jV (aJ (pv 1) (aJ (bG cR (pv 1) (pv 2)) aL))) (cM (i:=4) pG.nd rfl (Or.inl rfl)) (aM (aZ (i:=3) pG.nd rfl (Or.inl rfl) (bG cR (bG lH aN (pv 3)) (bZ bD (pv 0) (pv 4) (fun _ _=>rfl)))))) (aM (aU (pv 3)))))),?_⟩;symm
   refine⟨_,rfl,_,rfl,_,_,rfl,rfl,_,rfl,p,_,rfl,.inl hp,_,_,rfl,rfl,_,rfl,?_⟩
   simp only [aC,aG]
   by_cases h:l.length<i+k
   . rw [aD (by omega)]
     rw [aD h] at kk
     exact⟨_,rfl,kk⟩
   . rw [aF (by omega)]
     rw [aF h] at kk
     refine⟨_,rfl,_,rfl,_,rfl,_,_,rfl,rfl,_,_,rfl,⟨by omega,by omega,by omega,by omega⟩,?_⟩
     have e:(((i:Int)+k)-i).toNat=k:=by omega
     rw [e]
     refine mH (fun j σ H'=>H'=H/\ ∃v,σ=[some (.ref p),some (.int i),some (.int k),some (.int (Vbfaae.numberOf ((l.drop i).take j):Nat)),v]) ⟨rfl,_,rfl⟩ ?_ ?_
     . rintro j σ H' hj ⟨rfl,v,rfl⟩
       obtain⟨b,hb⟩: ∃b,l[i+j]? =some b:=⟨_,List.getElem?_eq_getElem (by omega)⟩
       refine⟨_,rfl,_,_,rfl,rfl,.inl ⟨by decide,by decide⟩,_,rfl,_,rfl,p,_,_,_,rfl,rfl,hp,jO (i:=i+j) (by omega) hb,_,_,rfl,rfl,rfl,some (.int ((i:Int)+j)),?_⟩
       have e2:(l.drop i)[j]? =some b:=by rw [List.getElem?_drop];exact hb
       rw [M.dX e2,M.aRq]
       simp
     . rintro σ H' ⟨rfl,v,rfl⟩
       exact⟨_,rfl,kk⟩
inductive aDq (K:aA) (vs:List V) (H:Hp) (Q:VK):Prop|mk (p:Addr) (l:List Nat) (z0:vs=[.ref p]) (z1:SqL K H p (ni l)) (z2:l.length<=100000) (z3:sI H Q (ni (Vbfaae.allBits l))) def aFw (K:aA) (a:Adr):L2.Sp:=fun vs H Q _=>aDq K vs H Q
theorem lM:bA ["octets","bits","octet"] ["octets"] (aV rH):=by decide+kernel
theorem aEz (T:Txt P w K mg a):Ok P w K mg base 2 "bits_of_octets" ["octets"] (aFw K a):=by
 refine T.aHs.ok lM (fun vs H Q E h=> ?_) (fun f cdv A outer s H vs Q E hr h=> ?_)
 . obtain⟨p,l,rfl,_⟩:=h
   rfl
 . obtain⟨p,l,rfl,hp,hl,k⟩:=h
   refine⟨_,(aK (aZ (i:=1) lM.nd rfl (Or.inl rfl) (bU aL)) (aK (lK PassesOwn.never rfl (lJ (pv 0)) (cM (i:=2) lM.nd rfl (Or.inl rfl)) (aM (fB (rB PySem.F.plainAttrs_list PySem.F.slot_list_extend PySem.F.type_list_extend tD (pv 1) (aJ (aP (lF T) hr (by decide) rfl (aJ (pv 2) (aJ aN aL))) aL))))) (aM (aU (pv 1))))),?_⟩;symm
   refine⟨Nat.zero_le _,fun q hq=> ?_⟩
   refine⟨_,rfl,p,rfl,⟨_,(bY hq).seq hp⟩,aOm (K:=K) (a:=p) (xs:=ni l) (fun i σ H'=>bJ H H'/\H' q=some (.lst (ni (Vbfaae.allBits (l.take i))))/\ ∃v,σ=[some (.ref p),some (.ref q),v]) ⟨bY hq,by rw [aO];rfl,_,rfl⟩ (fun i σ H' _ h=>h.1.seq hp) ?_ ?_⟩
   . rintro i y σ H' hi ⟨hs,hq',v,rfl⟩
     obtain⟨o,ho,rfl⟩:=nW hi
     have hil:=(List.getElem?_eq_some_iff.mp ho).1
     refine⟨_,rfl,.inl ⟨rfl,_,SqL.of hq'⟩,_,rfl,_,8,rfl,by decide,fun H1 r s1 n1 h1=> ?_⟩
     refine⟨q,r,_,_,rfl,rfl,s1 _ _ hq',h1,cF (by simp [M.pL,M.dD];omega),gY hq (hs.trans s1),?_,_,rfl⟩
     rw [aO,M.dX ho,M.aUw,ni,ni,ni,List.map_append]
   . rintro σ H' ⟨hs,hq',v,rfl⟩
     rw [aG,List.take_length] at hq'
     exact⟨_,rfl,k _ _ hs hq hq'⟩
theorem rg8 (n:Nat):Builtin.Range.rangeSize 0 (n:Int) 8=((n+7)/8:Nat):=by
 unfold Builtin.Range.rangeSize
 rw [aD (by decide)]
 split<;>omega
theorem fl {z:Int} (h: -(1000000000)<=z/\z<=1000000000):Builtin.Range.rangeFitsLong z=true:=by
 unfold Builtin.Range.rangeFitsLong
 rw [Bool.and_eq_true]
 constructor
 . apply decide_eq_true;omega
 . apply decide_eq_true;omega
theorem bPi (n:Nat) (h:n<=1000000):Builtin.Range.small 0 (n:Int) 8=true:=by
 unfold Builtin.Range.small
 rw [rg8,fl (by omega),fl (by omega),fl (by omega),fl (by omega),aD (by decide),fl (by omega)]
 simp
inductive aDt (vs:List V) (H:Hp) (Q:VK):Prop|mk (p:Addr) (l:List Nat) (z0:vs=[.ref p]) (z1:H p=some (.lst (ni l))) (z2:l.length<=100000) (z3:sI H Q (ni (Vbfaae.bytesOf l))) def aGj (K:aA) (a:Adr):L2.Sp:=fun vs H Q _=>aDt vs H Q
theorem iR:bA ["bits","filled","at"] ["bits"] (aV rK):=by decide+kernel
theorem aFb (T:Txt P w K mg a):Ok P w K mg base 2 "octets_of_bits" ["bits"] (aGj K a):=by
 refine T.aHu.ok iR (fun vs H Q E h=> ?_) (fun f cdv A outer s H vs Q E hr h=> ?_)
 . obtain⟨p,l,rfl,_⟩:=h
   rfl
 . obtain⟨p,l,rfl,hp,hl,k⟩:=h
   refine⟨_,(aK (aZ (i:=1) iR.nd rfl (Or.inr rfl) (bG iJ (pv 0) (bG aWp (bU (aJ aN aL)) (bG rW (yE qP (bL bH (by rfl) T.dC PySem.boot_len (aJ (pv 0) aL))) aN)))) (aM (aU (tK (own:=[("at",2)]) rfl iR.nd (bGn rfl T.jV (aJ aN (aJ (bL bH (by rfl) T.dC PySem.boot_len (aJ (pv 1) aL)) (aJ aN aL)))) (eZ (by rfl)) (fun _ _ _ _ _=>(cM (i:=2) iR.nd rfl (Or.inl rfl))) (fun _ _ _ _ _=>iQ) (fun _ _ _ _ _=>(aP (uK T) hr (by decide) rfl (aJ (pv 1) (aJ (pv 2) (aJ aN aL))))))))),?_⟩;symm
   refine⟨_,rfl,(by show 1<=sizeLine;decide),fun q hq=> ?_⟩
   refine⟨_,rfl,p,_,rfl,.inl (SqL.of (cI hq hp)),_,rfl,_,_,rfl,rfl,(by show (0:Int)<8;decide),?_⟩
   have em:(-((ni l).length:Int))%8=(((8-l.length%8)%8:Nat):Int):=by rw [aG];omega
   dsimp only
   rw [em]
   refine⟨q,_,_,rfl,rfl,aO,by omega,by omega,cF (by simp;omega),fun r hr=> ?_⟩
   have hqp:q≠p:=fun e=>by rw [e,hp] at hq;cases hq
   refine⟨p,r,_,_,rfl,rfl,cI hr (cI hq hp),aO,cF (by simp;omega),fun t ht=> ?_⟩
   have ef:ni l++(List.replicate ((8-l.length%8)%8:Nat) [V.int 0]).flatten=ni (l++List.replicate ((8-l.length%8)%8) 0):=by simp [ni]
   rw [aH] at ht ⊢
   rw [ef]
   generalize hm:(8-l.length%8)%8=m at*
   refine⟨_,rfl,t,_,rfl,.inl (SqL.of aO),?_⟩
   have el:(ni (l++List.replicate m 0)).length=l.length+m:=by simp
   rw [el]
   refine⟨0,_,8,(l.length+7)/8,rfl,⟨by decide,by decide,bPi _ (by omega),(rg8 _).trans (by omega)⟩,fun D hD=> ?_⟩
   have st:bJ H (upd (upd (upd H q (HO.lst [V.int 0])) r (HO.lst (List.replicate m [V.int 0]).flatten)) t (HO.lst (ni (l++List.replicate m 0)))):=((bY hq).trans (bY hr)).trans (bY ht)
   refine bCl (ys:=ni (Vbfaae.bytesOf l)) hD (by simp [M.pM];exact cF (by omega)) (by simp [M.pM]) (fun i y hi hy H2 Kt Al hs hk=> ?_) (fun H2 hs h2=>k.at st hD hs h2 rfl)
   rw [M.aCl l m (by omega)] at hy
   simp [hi] at hy
   subst hy
   refine⟨rfl,?_⟩
   refine⟨_,rfl,_,rfl,t,l++List.replicate m 0,8*i,8,by simp;omega,SqL.of (hs _ _ aO),by simp;omega,?_⟩
   rw [aF (by simp;omega)]
   exact hk _ (bJ.refl _)
abbrev nr3 (x y z:Nat):Vbfaae.Near:=⟨some x,some y,some z⟩
theorem qi {Q:VK} {H:Hp} {z z':Int} (k:Q (.int z) H) (e:z=z'):Q (.int z') H:=e ▸ k
theorem bRc (x y z r:Nat):Vbfaae.predicted 4 (nr3 x y z) r=if max x y<=z then min x y else if z<=min x y then max x y else x+y-z:=by
 simp [Vbfaae.predicted]
theorem bHq (x y z:Nat):Vbfaae.context (nr3 x y z)=if Vbfaae.gap x z+Vbfaae.gap z y<=2 then 0 else if Vbfaae.gap x z+Vbfaae.gap z y<=15 then 1 else 2:=rfl
inductive aJn (vs:List V) (H:Hp) (Q:VK):Prop|mk (x y z:Nat) (z0:vs=[.int x,.int y,.int z]) (z1:Q (.int (Vbfaae.predicted 4 (nr3 x y z) 0:Nat)) H) def aMu (K:aA) (a:Adr):L2.Sp:=fun vs H Q _=>aJn vs H Q
theorem aLy:bA ["a","b","c"] ["a","b","c"] (aV wK):=by decide+kernel
theorem aLs (T:Txt P w K mg a):Ok P w K mg base 1 "predict_edge" ["a","b","c"] (aMu K a):=by
 refine T.aOf.ok aLy (fun vs H Q E h=> ?_) (fun f cdv A outer s H vs Q E hr h=> ?_)
 . obtain⟨x,y,z,rfl,_⟩:=h
   rfl
 . obtain⟨x,y,z,rfl,k⟩:=h
   refine⟨_,(aK (bR (bC pY (pv 2) (bL (aHn rfl) (by rfl) T.bEw (by rfl) (aJ (pv 0) (aJ (pv 1) aL))) (bF _)) (aM (aU (bL (aHo rfl) (by rfl) T.bIx (by rfl) (aJ (pv 0) (aJ (pv 1) aL))))) bB) (aK (bR (bC aKh (pv 2) (bL (aHo rfl) (by rfl) T.bIx (by rfl) (aJ (pv 0) (aJ (pv 1) aL))) (bF _)) (aM (aU (bL (aHn rfl) (by rfl) T.bEw (by rfl) (aJ (pv 0) (aJ (pv 1) aL))))) bB) (aM (aU (bG dN (bG cR (pv 0) (pv 1)) (pv 2)))))),?_⟩;symm
   refine⟨_,rfl,_,rfl,_,rfl,_,_,rfl,_,_,rfl,rfl,_,rfl,?_⟩;rw [bRc] at k
   by_cases h1:max x y<=z;exact bI (decide_eq_true (by split<;>omega)) ⟨_,rfl,_,rfl,_,_,rfl,qi k (by rw [aD h1];split<;>omega)⟩
   refine bK (by rw [aC];split<;>omega) ⟨_,rfl,_,rfl,_,rfl,_,_,rfl,_,_,rfl,rfl,_,rfl,?_⟩;rw [aF h1] at k
   by_cases h2:z<=min x y;exact bI (decide_eq_true (by split<;>omega)) ⟨_,rfl,_,rfl,_,_,rfl,qi k (by rw [aD h2];split<;>omega)⟩;exact bK (by rw [aC];split<;>omega) ⟨_,rfl,_,rfl,_,_,rfl,rfl,_,rfl,_,_,rfl,rfl,qi k (by rw [aF h2];omega)⟩
inductive bAx (vs:List V) (H:Hp) (Q:VK):Prop|mk (m x y z:Nat) (z0:vs=[.int m,.int x,.int y,.int z]) (z1:m<=4) (z2:Q (.int (Vbfaae.predicted m (nr3 x y z) 0:Nat)) H) def bDl (K:aA) (a:Adr):L2.Sp:=fun vs H Q _=>bAx vs H Q
theorem bDf:bA ["mode","a","b","c"] ["mode","a","b","c"] (aV aQs):=by decide+kernel
theorem aPs (T:Txt P w K mg a):Ok P w K mg base 2 "predict" ["mode","a","b","c"] (bDl K a):=by
 refine T.bFu.ok bDf (fun vs H Q E h=> ?_) (fun f cdv A outer s H vs Q E hr h=> ?_)
 . obtain⟨m,x,y,z,rfl,_⟩:=h
   rfl
 . obtain⟨m,x,y,z,rfl,hm,k⟩:=h
   refine⟨_,(aK (bR (bC nG (pv 0) (cA rfl T.jU) (bF _)) (aM (aU (cA rfl T.aEm))) bB) (aK (bR (bC nG (pv 0) aN (bF _)) (aM (aU (pv 1))) bB) (aK (bR (bC nG (pv 0) aN (bF _)) (aM (aU (pv 2))) bB) (aK (bR (bC nG (pv 0) aN (bF _)) (aM (aU (bL (aHn rfl) (by rfl) T.bEw (by rfl) (aJ aN (aJ (bL (aHo rfl) (by rfl) T.bIx (by rfl) (aJ (cA rfl T.uE) (aJ (bG dN (bG cR (pv 1) (pv 2)) (pv 3)) aL))) aL))))) bB) (aM (aU (aP (aLs T) hr (by decide) rfl (aJ (pv 1) (aJ (pv 2) (aJ (pv 3) aL)))))))))),?_⟩;symm
   refine⟨_,rfl,rfl,_,rfl,?_⟩
   have c:m=0\/m=1\/m=2\/m=3\/m=4:=by omega
   rcases c with rfl|rfl|rfl|rfl|rfl
   . exact bI rfl k
   . exact bK (by decide) ⟨_,rfl,rfl,_,rfl,bI rfl ⟨_,rfl,k⟩⟩
   . exact bK (by decide) ⟨_,rfl,rfl,_,rfl,bK (by decide) ⟨_,rfl,rfl,_,rfl,bI rfl ⟨_,rfl,k⟩⟩⟩
   . refine bK (by decide) ⟨_,rfl,rfl,_,rfl,bK (by decide) ⟨_,rfl,rfl,_,rfl,bK (by decide) ⟨_,rfl,rfl,_,rfl,bI rfl ?_⟩⟩⟩
     and_intros
     have e:Vbfaae.predicted 3 (nr3 x y z) 0=Vbfaae.clip ((x:Int)+y-z):=rfl
     rw [e,M.bEd] at k
     exact qi k (by split<;>(try split)<;>omega)
   . exact bK (by decide) ⟨_,rfl,rfl,_,rfl,bK (by decide) ⟨_,rfl,rfl,_,rfl,bK (by decide) ⟨_,rfl,rfl,_,rfl,bK (by decide) ⟨_,rfl,_,rfl,_,rfl,x,y,z,rfl,k⟩⟩⟩⟩
inductive aSp (K:aA) (vs:List V) (H:Hp) (Q:VK):Prop|mk (p:Addr) (l:List Nat) (n v m:Nat) (q:Addr) (rs:List Nat) (r:Nat) (z0:vs=[.ref p,.int n,.int v,.int m,.ref q]) (z1:SqL K H p (ni l)) (z2:n<=l.length) (z3:0<v) (z4:m<=5) (z5:(m=5->SqL K H q (ni rs)/\rs[n]? =some r)) (z6:Q (.int (Vbfaae.predicted m (M.dB v l n) r:Nat)) H) def aXk (K:aA) (a:Adr):L2.Sp:=fun vs H Q _=>aSp K vs H Q
theorem uU:bA ["greys","n","width","mode","reference","has_left","has_above"] ["greys","n","width","mode","reference"] (aV aHc):=by decide+kernel
theorem aFc (T:Txt P w K mg a):Ok P w K mg base 3 "predicted" ["greys","n","width","mode","reference"] (aXk K a):=by
 refine T.aYx.ok uU (fun vs H Q E h=> ?_) (fun f cdv A outer s H vs Q E hr h=> ?_)
 . obtain⟨p,l,n,v,m,q,rs,r,rfl,_⟩:=h
   rfl
 . obtain⟨p,l,n,v,m,q,rs,r,rfl,hp,hn,hv,hm,hq,k⟩:=h
   refine⟨_,(aK (bR (bC nG (pv 3) (cA rfl T.jU) (bF _)) (aM (aU (cA rfl T.aEm))) bB) (aK (bR (bC nG (pv 3) (cA rfl T.fH) (bF _)) (aM (aU (bZ bD (pv 4) (pv 1) (fun _ _=>rfl)))) bB) (aK (aZ (i:=5) uU.nd rfl (Or.inl rfl) (rC oM (bG rW (pv 1) (pv 2)) aN (bF _))) (aK (aZ (i:=6) uU.nd rfl (Or.inl rfl) (rC pY (pv 1) (pv 2) (bF _))) (aK (bR (PW.pt (rY (cT (pv 5)) (pB (cT (pv 6))))) (aM (aU (aP (aPs T) hr (by decide) rfl (aJ (pv 3) (aJ (bZ bD (pv 0) (bG dN (pv 1) aN) (fun _ _=>rfl)) (aJ (bZ bD (pv 0) (bG dN (pv 1) (pv 2)) (fun _ _=>rfl)) (aJ (bZ bD (pv 0) (bG dN (bG dN (pv 1) (pv 2)) aN) (fun _ _=>rfl)) aL))))))) bB) (aK (bR (cT (pv 5)) (aM (aU (bZ bD (pv 0) (bG dN (pv 1) aN) (fun _ _=>rfl)))) bB) (aK (bR (cT (pv 6)) (aM (aU (bZ bD (pv 0) (bG dN (pv 1) (pv 2)) (fun _ _=>rfl)))) bB) (aM (aU (cA rfl T.aEm)))))))))),?_⟩;symm
   refine⟨_,rfl,rfl,_,rfl,?_⟩
   by_cases h0:m=0
   . subst h0;exact bI rfl k
   refine bK (by simp;omega) ?_
   refine⟨_,rfl,rfl,_,rfl,?_⟩
   by_cases h5:m=5
   . subst h5
     obtain⟨h1,h2⟩:=hq rfl
     exact bI rfl ⟨_,rfl,_,rfl,q,_,_,_,rfl,rfl,h1,jO rfl h2,k⟩
   refine bK (by simp;omega) ?_
   have ek: ∀{nb:Vbfaae.Near},M.dB v l n=nb->Q (.int (Vbfaae.predicted m nb 0:Nat)) H:=fun {nb} e=>by
    rw [<-e,M.aRx (r:=0) (r':=r) h5];exact k
   have at_: ∀j:Nat,j<n-> ∃x,l[j]? =some x:=fun j hj=>⟨_,List.getElem?_eq_getElem (by omega)⟩
   have em:(n:Int)%v=((n%v:Nat):Int):=rfl
   refine⟨_,rfl,_,rfl,_,_,rfl,rfl,by omega,_,_,rfl,rfl,_,rfl,_,rfl,_,_,rfl,rfl,_,rfl,_,rfl,?_⟩
   by_cases hl:0<n%v
   . have hn0:0<n:=by
      rcases Nat.eq_zero_or_pos n with e|e
      . subst e;simp at hl
      . exact e
     have hl2:decide ((n:Int)%v>0)=true:=by rw [aC,em];omega
     obtain⟨x,hx⟩:=at_ (n-1) (by omega)
     refine bI hl2 ⟨_,rfl,_,rfl,?_⟩
     by_cases ha:v<=n
     . have hnv:v<n:=by
        rcases Nat.lt_or_ge v n with e|e
        . exact e
        . have:n=v:=by omega
          subst this;simp at hl
       obtain⟨y,hy⟩:=at_ (n-v) (by omega)
       obtain⟨z,hz⟩:=at_ (n-v-1) (by omega)
       refine bI (by rw [aC];omega) ⟨_,rfl,_,rfl,_,rfl,_,_,rfl,rfl,p,_,_,_,rfl,rfl,hp,jO (i:=n-1) (by omega) hx,_,rfl,_,rfl,_,rfl,_,_,rfl,rfl,p,_,_,_,rfl,rfl,hp,jO (i:=n-v) (by omega) hy,_,rfl,_,rfl,_,rfl,_,_,rfl,rfl,_,_,rfl,rfl,p,_,_,_,rfl,rfl,hp,jO (i:=n-v-1) (by omega) hz,?_⟩
       exact⟨m,x,y,z,rfl,by omega,ek (by unfold M.dB;rw [aD hl,aD ha,aD ⟨hl,ha⟩,hx,hy,hz])⟩
     . refine bK (by rw [aC];omega) ⟨_,rfl,_,rfl,bI hl2 ⟨_,rfl,_,rfl,_,_,rfl,rfl,p,_,_,_,rfl,rfl,hp,jO (i:=n-1) (by omega) hx,?_⟩⟩
       have:=ek (nb:=⟨some x,none,none⟩) (by unfold M.dB;rw [aD hl,aF ha,aF (fun q=>ha q.2),hx])
       simpa [Vbfaae.predicted,h0,h5] using this
   . have hl2: ¬decide ((n:Int)%v>0)=true:=by rw [aC,em];omega
     refine bK hl2 (bK Bool.false_ne_true ⟨_,rfl,_,rfl,bK hl2 ⟨_,rfl,_,rfl,?_⟩⟩)
     by_cases ha:v<=n
     . obtain⟨y,hy⟩:=at_ (n-v) (by omega)
       refine bI (by rw [aC];omega) ⟨_,rfl,_,rfl,_,rfl,_,_,rfl,rfl,p,_,_,_,rfl,rfl,hp,jO (i:=n-v) (by omega) hy,?_⟩
       have:=ek (nb:=⟨none,some y,none⟩) (by unfold M.dB;rw [aF hl,aD ha,aF (fun q=>hl q.1),hy])
       simpa [Vbfaae.predicted,h0,h5] using this
     . refine bK (by rw [aC];omega) ?_
       show Q (.int 512) H
       have:=ek (nb:=⟨none,none,none⟩) (by unfold M.dB;rw [aF hl,aF ha,aF (fun q=>hl q.1)])
       simpa [Vbfaae.predicted,h0,h5,Vbfaae.MIDDLE] using this
inductive aQf (vs:List V) (H:Hp) (Q:VK):Prop|mk (x y z:Nat) (z0:vs=[.int x,.int y,.int z]) (z1:Q (.int (Vbfaae.context (nr3 x y z):Nat)) H) def aSj (K:aA) (a:Adr):L2.Sp:=fun vs H Q _=>aQf vs H Q
theorem aBq:bA ["a","b","c","distance"] ["a","b","c"] (aV aCf):=by decide+kernel
theorem aBl (T:Txt P w K mg a):Ok P w K mg base 1 "context_of" ["a","b","c"] (aSj K a):=by
 refine T.aVm.ok aBq (fun vs H Q E h=> ?_) (fun f cdv A outer s H vs Q E hr h=> ?_)
 . obtain⟨x,y,z,rfl,_⟩:=h
   rfl
 . obtain⟨x,y,z,rfl,k⟩:=h
   refine⟨_,(aK (aZ (i:=3) aBq.nd rfl (Or.inl rfl) (bG cR (bL aNk (by rfl) T.bIv (by rfl) (aJ (bG dN (pv 0) (pv 2)) aL)) (bL aNk (by rfl) T.bIv (by rfl) (aJ (bG dN (pv 2) (pv 1)) aL)))) (aK (bR (bC aKh (pv 3) aN (bF _)) (aM (aU aN)) bB) (aK (bR (bC aKh (pv 3) aN (bF _)) (aM (aU aN)) bB) (aM (aU aN))))),?_⟩;symm
   refine⟨_,rfl,_,rfl,_,_,rfl,rfl,_,rfl,_,rfl,_,rfl,_,_,rfl,rfl,_,rfl,_,_,rfl,rfl,_,rfl,_,_,rfl,rfl,_,rfl,?_⟩
   have g: ∀a b:Nat,(if(a:Int)-b<0 then-((a:Int)-b) else a-b)=(Vbfaae.gap a b:Int):=fun a b=>by unfold Vbfaae.gap;split<;>omega
   rw [bHq] at k;by_cases h1:Vbfaae.gap x z+Vbfaae.gap z y<=2;exact bI (decide_eq_true (by rw [g,g];omega)) (qi k (by rw [aD h1];rfl))
   refine bK (by rw [aC,g,g];omega) ⟨_,rfl,_,_,rfl,rfl,_,rfl,?_⟩;rw [aF h1] at k
   by_cases h2:Vbfaae.gap x z+Vbfaae.gap z y<=15;exact bI (decide_eq_true (by rw [g,g];omega)) (qi k (by rw [aD h2];rfl));exact bK (by rw [aC,g,g];omega) (qi k (by rw [aF h2];rfl))
inductive aSo (vs:List V) (H:Hp) (Q:VK):Prop|mk (v p:Nat) (z0:vs=[.int v,.int p]) (z1:v<1024) (z2:p<1024) (z3:Q (.int (Vbfaae.folded v p:Nat)) H) def aXj (K:aA) (a:Adr):L2.Sp:=fun vs H Q _=>aSo vs H Q
theorem aFq:bA ["grey","expected","difference"] ["grey","expected"] (aV aHb):=by decide+kernel
theorem aWl (T:Txt P w K mg a):Ok P w K mg base 1 "number_of" ["grey","expected"] (aXj K a):=by
 refine T.aYw.ok aFq (fun vs H Q E h=> ?_) (fun f cdv A outer s H vs Q E hr h=> ?_)
 . obtain⟨v,p,rfl,_⟩:=h
   rfl
 . obtain⟨v,p,rfl,hv,hp,k⟩:=h
   refine⟨_,(aK (aZ (i:=2) aFq.nd rfl (Or.inl rfl) (bG dN (bG rW (bG cR (bG dN (pv 0) (pv 1)) aN) aN) aN)) (aK (bR (bC pY (pv 2) aN (bF _)) (aM (aU (bG lH aN (pv 2)))) bB) (aM (aU (bG dN (bG lH (yE qP aN) (pv 2)) aN))))),?_⟩;symm
   rw [M.bGh hv hp] at k
   refine⟨_,rfl,_,rfl,_,_,rfl,rfl,_,_,rfl,rfl,_,_,rfl,rfl,by decide,_,_,rfl,rfl,_,rfl,_,_,rfl,rfl,_,rfl,?_⟩
   by_cases h:0<=((v:Int)-p+512)%1024-512
   . exact bI (decide_eq_true h) ⟨_,rfl,_,_,rfl,rfl,.inl ⟨by decide,by decide⟩,qi k (aD h)⟩
   . exact bK (fun e=>h (of_decide_eq_true e)) ⟨_,rfl,_,rfl,_,_,rfl,rfl,.inl ⟨by decide,by decide⟩,_,_,rfl,rfl,qi k (aF h)⟩
inductive aXr (vs:List V) (H:Hp) (Q:VK):Prop|mk (u p:Nat) (z0:vs=[.int u,.int p]) (z1:u<1024) (z2:p<1024) (z3:Q (.int (Vbfaae.unfolded u p:Nat)) H) def bBa (K:aA) (a:Adr):L2.Sp:=fun vs H Q _=>aXr vs H Q
theorem bAq:bA ["number","expected"] ["number","expected"] (aV aKq):=by decide+kernel
theorem bAb (T:Txt P w K mg a):Ok P w K mg base 1 "value_of" ["number","expected"] (bBa K a):=by
 refine T.bCd.ok bAq (fun vs H Q E h=> ?_) (fun f cdv A outer s H vs Q E hr h=> ?_)
 . obtain⟨u,p,rfl,_⟩:=h
   rfl
 . obtain⟨u,p,rfl,hu,hp,k⟩:=h
   refine⟨_,(aK (bR (bC nG (bG rW (pv 0) aN) aN (bF _)) (aM (aU (bG rW (bG cR (pv 1) (bG aAd (pv 0) aN)) aN))) bB) (aM (aU (bG rW (bG dN (pv 1) (bG aAd (bG cR (pv 0) aN) aN)) aN)))),?_⟩;symm
   rw [M.value_eq hu hp] at k
   refine⟨_,rfl,_,_,rfl,rfl,by decide,rfl,_,rfl,?_⟩
   by_cases h:u%2=0
   . exact bI (decide_eq_true (congrArg V.int (by omega))) ⟨_,rfl,_,rfl,_,_,rfl,rfl,⟨by decide,by decide⟩,_,_,rfl,rfl,_,_,rfl,rfl,by decide,qi k (aD h)⟩
   . exact bK (fun e=>h (by have:=V.int.inj (of_decide_eq_true e);omega)) ⟨_,rfl,_,rfl,_,_,rfl,rfl,_,_,rfl,rfl,⟨by decide,by decide⟩,_,_,rfl,rfl,_,_,rfl,rfl,by decide,qi k (aF h)⟩
inductive aQe (K:aA) (vs:List V) (H:Hp) (Q:VK):Prop|mk (p:Addr) (l:List Nat) (n v:Nat) (z0:vs=[.ref p,.int n,.int v]) (z1:SqL K H p (ni l)) (z2:n<=l.length) (z3:0<v) (z4:Q (.int (Vbfaae.context (M.dB v l n):Nat)) H) def aSi (K:aA) (a:Adr):L2.Sp:=fun vs H Q _=>aQe K vs H Q
theorem aSb:bA ["greys","n","width"] ["greys","n","width"] (aV aCe):=by decide+kernel
theorem aBk (T:Txt P w K mg a):Ok P w K mg base 2 "context_at" ["greys","n","width"] (aSi K a):=by
 refine T.aVl.ok aSb (fun vs H Q E h=> ?_) (fun f cdv A outer s H vs Q E hr h=> ?_)
 . obtain⟨p,l,n,v,rfl,_⟩:=h
   rfl
 . obtain⟨p,l,n,v,rfl,hp,hn,hv,k⟩:=h
   refine⟨_,(aK (bR (PW.pt (kY (bC nG (bG rW (pv 1) (pv 2)) aN (bF _)) (iK (bC dI (pv 1) (pv 2) (bF _))))) (aM (aU aN)) bB) (aM (aU (aP (aBl T) hr (by decide) rfl (aJ (bZ bD (pv 0) (bG dN (pv 1) aN) (fun _ _=>rfl)) (aJ (bZ bD (pv 0) (bG dN (pv 1) (pv 2)) (fun _ _=>rfl)) (aJ (bZ bD (pv 0) (bG dN (bG dN (pv 1) (pv 2)) aN) (fun _ _=>rfl)) aL))))))),?_⟩;symm
   refine⟨_,rfl,_,rfl,_,_,rfl,rfl,by omega,rfl,_,rfl,?_⟩
   have em:(n:Int)%v=((n%v:Nat):Int):=rfl
   have at_: ∀j:Nat,j<n-> ∃x,l[j]? =some x:=fun j hj=>⟨_,List.getElem?_eq_getElem (by omega)⟩
   have ek: ∀{nb:Vbfaae.Near},M.dB v l n=nb->Q (.int (Vbfaae.context nb:Nat)) H:=fun {nb} e=>by rw [<-e];exact k
   by_cases hl:0<n%v
   . refine bK (fun e=>by have:=V.int.inj (of_decide_eq_true e);rw [em] at this;omega) ⟨_,rfl,_,rfl,_,_,rfl,rfl,_,rfl,?_⟩
     by_cases ha:v<=n
     . have hnv:v<n:=by
        rcases Nat.lt_or_ge v n with e|e
        . exact e
        . have:n=v:=by omega
          subst this;simp at hl
       obtain⟨x,hx⟩:=at_ (n-1) (by omega)
       obtain⟨y,hy⟩:=at_ (n-v) (by omega)
       obtain⟨z,hz⟩:=at_ (n-v-1) (by omega)
       refine bK (by rw [aC];omega) ⟨_,rfl,_,rfl,_,_,rfl,rfl,p,_,_,_,rfl,rfl,hp,jO (i:=n-1) (by omega) hx,_,rfl,_,rfl,_,rfl,_,_,rfl,rfl,p,_,_,_,rfl,rfl,hp,jO (i:=n-v) (by omega) hy,_,rfl,_,rfl,_,rfl,_,_,rfl,rfl,_,_,rfl,rfl,p,_,_,_,rfl,rfl,hp,jO (i:=n-v-1) (by omega) hz,?_⟩
       exact⟨x,y,z,rfl,ek (by unfold M.dB;rw [aD hl,aD ha,aD ⟨hl,ha⟩,hx,hy,hz])⟩
     . refine bI (by rw [aC];omega) ?_
       have:= @ek ⟨if 0<n%v then l[n-1]? else none,none,none⟩ (by simp [M.dB,ha])
       unfold Vbfaae.context at this
       revert this
       cases (if 0<n%v then l[n-1]? else none)<;>exact fun h=>h
   . refine bI (decide_eq_true (by rw [em];exact congrArg V.int (by omega))) (bI rfl ?_)
     have:= @ek ⟨none,if v<=n then l[n-v]? else none,none⟩ (by simp [M.dB,hl])
     unfold Vbfaae.context at this
     exact this
theorem bJp {K:aA} {mg:Str->Option Value} {i:Nat} {f x:Str} {σ:L2.St} {H:Hp} {Q:VK} {o C dx:Addr} {fs:List (Str×V)} {ks:List Str} {v:V} (hσ:σ[i]? =some (some (.ref o))) (ho:H o=some (.ins C dx fs)) (c:Ca K mg x C ks) (hl:fs.lookup f=some v) (k:Q v H) (hf:f∈ks:=by simp):bPq K (bMv i) f σ H Q:=
 ⟨_,hσ,o,C,dx,fs,v,rfl,ho,c.cl,c.no f hf,hl,k⟩
structure pJ (a:Adr) (H:Hp) (o x y:Addr) (s:Vbfaae.Stats):Prop where
 ob: ∃dx,H o=some (.ins a.cContexts dx (kW (.ref x) (.ref y)))
 sm:H x=some (.lst (ni (s.map (·.1))))
 ct:H y=some (.lst (ni (s.map (·.2))))
 ne:x≠y
theorem pJ.same {a:Adr} {H H':Hp} {o x y:Addr} {s:Vbfaae.Stats} (h:pJ a H o x y s) (e:bJ H H'):pJ a H' o x y s:=by
 obtain⟨⟨dx,h1⟩,h2,h3,h4⟩:=h
 exact⟨⟨dx,e _ _ h1⟩,e _ _ h2,e _ _ h3,h4⟩
theorem pJ.nex {a:Adr} {H:Hp} {o x y:Addr} {s:Vbfaae.Stats} (h:pJ a H o x y s):o≠x:=by
 obtain⟨⟨dx,h1⟩,h2,h3,h4⟩:=h
 exact qY h1 h2 (by intro e;cases e)
theorem pJ.ney {a:Adr} {H:Hp} {o x y:Addr} {s:Vbfaae.Stats} (h:pJ a H o x y s):o≠y:=by
 obtain⟨⟨dx,h1⟩,h2,h3,h4⟩:=h
 exact qY h1 h3 (by intro e;cases e)
inductive wW (a:Adr) (vs:List V) (H:Hp) (Q:VK):Prop|mk (o dx:Addr) (z0:vs=[.ref o]) (z1:H o=some (.ins a.cContexts dx [])) (z2: ∀(H':Hp) (x y:Addr),pJ a H' o x y Vbfaae.fresh->H x=none->H y=none->(∀b ob,H b=some ob->b≠o->H' b=some ob)->Q .non H') def nP (K:aA) (a:Adr):L2.Sp:=fun vs H Q _=>wW a vs H Q
theorem yJ:bA ["self"] ["self"] (aV nQ):=by decide+kernel
theorem nA (T:Txt P w K mg a):OkM P w K mg base 1 a.cContexts "__init__" ["self"] (nP K a):=by
 refine T.aAk.ok yJ (fun vs H Q E h=> ?_) (fun f cdv A outer s H vs Q E hr h=> ?_)
 . obtain⟨o,dx,rfl,_⟩:=h
   rfl
 . obtain⟨o,dx,rfl,ho,k⟩:=h
   refine⟨_,(aK (fC (pv 0) (bU (aJ aN (aJ aN (aJ aN aL)))) rfl) (aM (fC (pv 0) (bU (aJ aN (aJ aN (aJ aN aL)))) rfl))),?_⟩;symm
   refine⟨(by show 3<=sizeLine;decide),fun x hx=> ?_⟩
   refine⟨_,rfl,o,_,dx,_,rfl,cI hx ho,T.cN.cl,T.cN.no _ (by simp),(by show 0<1000;decide),?_⟩
   have hxo:x≠o:=fun e=>by rw [e,ho] at hx;cases hx
   refine⟨(by show 3<=sizeLine;decide),fun y hy=> ?_⟩
   have hyo:y≠o:=fun e=>by rw [e,aO] at hy;cases hy
   have hyx:y≠x:=fun e=>by rw [e,aR hxo,aO] at hy;cases hy
   refine⟨_,rfl,o,_,dx,_,rfl,by rw [aR hyo.symm,aO],T.cN.cl,T.cN.no _ (by simp),(by show 1<1000;decide),?_⟩
   refine k _ x y ⟨⟨dx,?_⟩,?_,?_,hyx.symm⟩ hx ?_ ?_
   . rw [aO]
     exact congrArg (fun z=>some (HO.ins a.cContexts dx z)) (aCw (v0:= .ref x) (v1:= .ref y))
   . rw [aR hxo,aR hyx.symm,aR hxo,aO];rfl
   . rw [aR hyo,aO];rfl
   . rw [aR hyo,aR hyx] at hy;exact hy
   . intro b ob hb hbo
     have hbx:b≠x:=cQ hb hx
     have hby:b≠y:=fun e=>by rw [<-e,aR hbo,aR hbx,hb] at hy;cases hy
     rw [aR hbo,aR hby,aR hbo,aR hbx];exact hb
def WN (Pv:L2.St->Hp->Prop) (μ:L2.St->Nat) (σ:L2.St):L2.St->Hp->Prop:=fun σ' H'=>Pv σ' H'/\μ σ'<μ σ
theorem bBl {c:TT} {tb:TS} {D:Ends} {σ:L2.St} {H:Hp} (Pv:L2.St->Hp->Prop) (μ:L2.St->Nat) (h0:Pv σ H)
 (hs: ∀σ H,Pv σ H->c σ H fun b H1=>if b=true then∃N:L2.St->Hp->Prop,(∀σ' H',N σ' H'-> ∃m',m'<μ σ/\m'=μ σ'/\Pv σ' H')/\tb {D with nx:=N,ct:=N,bk:=D.nx} σ H1 else D.nx σ H1):bDs c tb D σ H:=by
 refine⟨fun m σ H=>m=μ σ/\Pv σ H,⟨_,rfl,h0⟩,?_⟩
 rintro m σ H ⟨rfl,p⟩
 exact hs σ H p
theorem WN.ok {Pv:L2.St->Hp->Prop} {μ:L2.St->Nat} {σ:L2.St}: ∀σ' H',WN Pv μ σ σ' H'-> ∃m',m'<μ σ/\m'=μ σ'/\Pv σ' H':=fun _ _ h=>⟨_,h.2,rfl,h.1⟩
def aUd (H:Hp) (o:Addr) (c:Nat) (xx:Nat×Nat):L2.St->Hp->Prop:=fun σ H'=>H'=H/\ ∃k:Nat,σ=[some (.ref o),some (.int c),some (.int k)]/\k<=10/\ ∀j,j<k->xx.2*2 ^ j<xx.1
def aTu:L2.St->Nat:=fun σ=>match σ with|[_,_,some (.int k)]=>(10-k).toNat|_=>0
inductive aAq (a:Adr) (vs:List V) (H:Hp) (Q:VK):Prop|mk (o x y:Addr) (st:Vbfaae.Stats) (c:Nat) (z0:vs=[.ref o,.int c]) (z1:pJ a H o x y st) (z2:M.aUu st) (z3:c<3) (z4:Q (.int (Vbfaae.kOf (Vbfaae.statOf st c):Nat)) H) def aDj (K:aA) (a:Adr):L2.Sp:=fun vs H Q _=>aAq a vs H Q
theorem kJ:bA ["self","context","k"] ["self","context"] (aV qJ):=by decide+kernel
theorem pW (T:Txt P w K mg a):OkM P w K mg base 1 a.cContexts "find_k" ["self","context"] (aDj K a):=by
 refine T.aEr.ok kJ (fun vs H Q E h=> ?_) (fun f cdv A outer s H vs Q E hr h=> ?_)
 . obtain⟨o,x,y,st,c,rfl,_⟩:=h
   rfl
 . obtain⟨o,x,y,st,c,rfl,hc,hs,h3,k⟩:=h
   refine⟨_,(aK (aZ (i:=2) kJ.nd rfl (Or.inl rfl) aN) (aK (tL PassesOwn.never (PW.pt (rY (bC dI (pv 2) (cA rfl T.aEk) (bF _)) (pB (bC oM (bZ bD (aX (pv 0) rfl) (pv 1) (fun _ _=>rfl)) (bG bJb (bZ bD (aX (pv 0) rfl) (pv 1) (fun _ _=>rfl)) (pv 2)) (bF _))))) (aM (aWu (i:=2) kJ.nd rfl (Or.inl rfl) aN qW))) (aM (aU (pv 2))))),?_⟩;symm
   obtain⟨⟨dx,h1⟩,hx,hy,hne⟩:=id hc
   have hg:=M.aDx hs h3
   have hlt:=M.aUm hs h3
   generalize Vbfaae.statOf st c=xx at*
   have hxx:(st.map (·.1))[c]? =some xx.1:=by rw [List.getElem?_map,hg];rfl
   have hyy:(st.map (·.2))[c]? =some xx.2:=by rw [List.getElem?_map,hg];rfl
   dsimp only [bKl,bHd,tC,aJw]
   refine bBl (aUd H o c xx) aTu ⟨rfl,0,rfl,by omega,fun j hj=>by omega⟩ ?_
   rintro σ H' ⟨rfl,n,rfl,hk,hj⟩
   and_intros
   by_cases h10:n<10
   . rw [aD (by omega)]
     refine bJp rfl h1 T.cN mD ?_
     refine⟨x,_,_,_,rfl,rfl,SqL.of hx,jO rfl hxx,?_⟩
     refine bJp rfl h1 T.cN gP ?_
     refine⟨y,_,_,_,rfl,rfl,SqL.of hy,jO rfl hyy,?_⟩
     refine⟨_,rfl,⟨by omega,by omega,by omega⟩,_,rfl,?_⟩
     have e:((xx.2:Int)*2 ^ n<xx.1)↔xx.2*2 ^ n<xx.1:=by exact_mod_cast Iff.rfl
     simp only [e]
     by_cases hq:xx.2*2 ^ n<xx.1
     . rw [aD hq]
       refine⟨WN (aUd _ o c xx) aTu [some (.ref o),some (.int c),some (.int n)],WN.ok,?_⟩
       refine⟨_,rfl,_,_,rfl,rfl,⟨rfl,n+1,rfl,by omega,fun j hj'=> ?_⟩,?_⟩
       . rcases Nat.lt_or_ge j n with q|q
         . exact hj j q
         . have:j=n:=by omega
           subst this;exact hq
       . show (10-((n:Int)+1)).toNat<(10-(n:Int)).toNat
         omega
     . rw [aF hq]
       rw [<-M.aOr hk hj (.inr (by omega))]
       exact k
   . rw [aF (by omega)]
     rw [M.aOr (k:=n) hk hj (.inl (by omega))] at k
     exact k
theorem aPb {l:List Nat} {i n:Nat}:(ni l).set i (V.int (n:Int))=ni (l.set i n):=by
 rw [ni,ni,List.map_set]
inductive aDk (a:Adr) (vs:List V) (H:Hp) (Q:VK):Prop|mk (o x y:Addr) (st:Vbfaae.Stats) (c u:Nat) (z0:vs=[.ref o,.int c,.int u]) (z1:pJ a H o x y st) (z2:M.aUu st) (z3:c<3) (z4: ∀H',pJ a H' o x y (Vbfaae.learnt st c u)->(∀b ob,H b=some ob->b≠x->b≠y->H' b=some ob)->Q .non H') def aFt (K:aA) (a:Adr):L2.Sp:=fun vs H Q _=>aDk a vs H Q
theorem aFk:bA ["self","context","number"] ["self","context","number"] (aV rE):=by decide+kernel
theorem rA (T:Txt P w K mg a):OkM P w K mg base 1 a.cContexts "learn" ["self","context","number"] (aFt K a):=by
 refine T.aIb.ok aFk (fun vs H Q E h=> ?_) (fun f cdv A outer s H vs Q E hr h=> ?_)
 . obtain⟨o,x,y,st,c,u,rfl,_⟩:=h
   rfl
 . obtain⟨o,x,y,st,c,u,rfl,hc,hs,h3,k⟩:=h
   refine⟨_,(aK (aFi (aX (pv 0) rfl) (pv 1) xR (pv 2) qW set_list) (aK (aFi (aX (pv 0) rfl) (pv 1) xR aN qW set_list) (aM (bR (bC nG (bZ bD (aX (pv 0) rfl) (pv 1) (fun _ _=>rfl)) aN (bF _)) (aK (aFi (aX (pv 0) rfl) (pv 1) xR aN aZo set_list) (aM (aFi (aX (pv 0) rfl) (pv 1) xR aN aZo set_list))) bB)))),?_⟩;symm
   obtain⟨⟨dx,h1⟩,hx,hy,hne⟩:=id hc
   have hox:=hc.nex
   have hoy:=hc.ney
   have hg:=M.aDx hs h3
   have hxx:(st.map (·.1))[c]? =some (Vbfaae.statOf st c).1:=by rw [List.getElem?_map,hg];rfl
   have hyy:(st.map (·.2))[c]? =some (Vbfaae.statOf st c).2:=by rw [List.getElem?_map,hg];rfl
   generalize hxe:Vbfaae.statOf st c=xx at*
   have hix: ∀l:List Nat,l.length=3->ixN (ni l).length (c:Int)=some c:=fun l hl=>by
    unfold ixN
    rw [aG,hl,aD (by omega),aD (by omega),aH]
   have hl1:(st.map (·.1)).length=3:=by rw [aG];exact hs.len
   have hl2:(st.map (·.2)).length=3:=by rw [aG];exact hs.len
   refine⟨_,rfl,o,_,dx,_,_,rfl,h1,T.cN.cl,T.cN.no _ (by simp),mD,_,rfl,x,_,_,_,rfl,rfl,SqL.of hx,jO rfl hxx,_,rfl,_,_,rfl,rfl,x,_,_,c,rfl,rfl,hx,hix _ hl1,?_⟩
   refine⟨_,rfl,o,_,dx,_,_,rfl,by rw [aR hox];exact h1,T.cN.cl,T.cN.no _ (by simp),gP,_,rfl,y,_,_,_,rfl,rfl,SqL.of (by rw [aR hne.symm];exact hy),jO rfl hyy,_,_,rfl,rfl,y,_,_,c,rfl,rfl,by rw [aR hne.symm];exact hy,hix _ hl2,?_⟩
   have e1:(ni (st.map (·.1))).set c (V.int ((xx.1:Int)+u))=ni ((st.map (·.1)).set c (xx.1+u)):=by rw [<-aPb];simp
   have e2:(ni (st.map (·.2))).set c (V.int ((xx.2:Int)+1))=ni ((st.map (·.2)).set c (xx.2+1)):=by rw [<-aPb];simp
   rw [e1,e2]
   generalize hH2:upd (upd H x (.lst (ni ((st.map (·.1)).set c (xx.1+u))))) y (.lst (ni ((st.map (·.2)).set c (xx.2+1))))=H2
   have f1:H2 o=some (.ins a.cContexts dx (kW (.ref x) (.ref y))):=by rw [<-hH2,aR hoy,aR hox];exact h1
   have f2:H2 x=some (.lst (ni ((st.map (·.1)).set c (xx.1+u)))):=by rw [<-hH2,aR hne,aO]
   have f3:H2 y=some (.lst (ni ((st.map (·.2)).set c (xx.2+1)))):=by rw [<-hH2,aO]
   have f4: ∀b ob,H b=some ob->b≠x->b≠y->H2 b=some ob:=fun b ob hb b1 b2=>by rw [<-hH2,aR b2,aR b1];exact hb
   have g1:((st.map (·.1)).set c (xx.1+u))[c]? =some (xx.1+u):=List.getElem?_set_self (by omega)
   have g2:((st.map (·.2)).set c (xx.2+1))[c]? =some (xx.2+1):=List.getElem?_set_self (by omega)
   have hl3:((st.map (·.1)).set c (xx.1+u)).length=3:=by rw [List.length_set];exact hl1
   have hl4:((st.map (·.2)).set c (xx.2+1)).length=3:=by rw [List.length_set];exact hl2
   have le: ∀z:Nat×Nat,(if(xx.1+u,xx.2+1).2=32 then((xx.1+u,xx.2+1).1/2,(xx.1+u,xx.2+1).2/2) else(xx.1+u,xx.2+1))=z->Vbfaae.learnt st c u=st.set c z:=fun z hz=>by
    unfold Vbfaae.learnt
    simp only [hxe]
    rw [<-hz]
   refine⟨_,rfl,o,_,dx,_,_,rfl,f1,T.cN.cl,T.cN.no _ (by simp),gP,_,rfl,y,_,_,_,rfl,rfl,SqL.of f3,jO rfl g2,rfl,_,rfl,?_⟩
   simp only [aC,V.int.injEq]
   by_cases h32:xx.2+1=32
   . rw [aD (by omega)]
     refine⟨_,rfl,o,_,dx,_,_,rfl,f1,T.cN.cl,T.cN.no _ (by simp),mD,_,rfl,x,_,_,_,rfl,rfl,SqL.of f2,jO rfl g1,_,_,rfl,rfl,⟨by decide,by decide⟩,x,_,_,c,rfl,rfl,f2,hix _ hl3,?_⟩
     refine⟨_,rfl,o,_,dx,_,_,rfl,by rw [aR hox];exact f1,T.cN.cl,T.cN.no _ (by simp),gP,_,rfl,y,_,_,_,rfl,rfl,SqL.of (by rw [aR hne.symm];exact f3),jO rfl g2,_,_,rfl,rfl,⟨by decide,by decide⟩,y,_,_,c,rfl,rfl,by rw [aR hne.symm];exact f3,hix _ hl4,?_⟩
     have e3:(ni ((st.map (·.1)).set c (xx.1+u))).set c (V.int (((xx.1+u:Nat):Int)/2))=ni ((st.map (·.1)).set c ((xx.1+u)/2)):=by
      have:((xx.1+u:Nat):Int)/2=(((xx.1+u)/2:Nat):Int):=by omega
      rw [this,aPb,List.set_set]
     have e4:(ni ((st.map (·.2)).set c (xx.2+1))).set c (V.int (((xx.2+1:Nat):Int)/2))=ni ((st.map (·.2)).set c ((xx.2+1)/2)):=by
      have:((xx.2+1:Nat):Int)/2=(((xx.2+1)/2:Nat):Int):=by omega
      rw [this,aPb,List.set_set]
     rw [e3,e4]
     have lz:=le ((xx.1+u)/2,(xx.2+1)/2) (aD h32)
     refine k _ ⟨⟨dx,by rw [aR hoy,aR hox];exact f1⟩,?_,?_,hne⟩ fun b ob hb b1 b2=>by rw [aR b2,aR b1];exact f4 b ob hb b1 b2
     . rw [aR hne,aO,lz,List.map_set]
     . rw [aO,lz,List.map_set]
   . rw [aF (by omega)]
     have lz:=le (xx.1+u,xx.2+1) (aF h32)
     refine k _ ⟨⟨dx,f1⟩,?_,?_,hne⟩ f4
     . rw [f2,lz,List.map_set]
     . rw [f3,lz,List.map_set]
inductive bKa (vs:List V) (H:Hp) (Q:VK):Prop|mk (u k:Nat) (z0:vs=[.int u,.int k]) (z1:k<=10) (z2:sI H Q (ni (Vbfaae.codeOf k u))) def bMp (K:aA) (a:Adr):L2.Sp:=fun vs H Q _=>bKa vs H Q
theorem bFd:bA ["number","k","ones"] ["number","k"] (aV bFg):=by decide+kernel
theorem bEy (T:Txt P w K mg a):Ok P w K mg base 2 "code" ["number","k"] (bMp K a):=by
 refine T.bOe.ok bFd (fun vs H Q E h=> ?_) (fun f cdv A outer s H vs Q E hr h=> ?_)
 . obtain⟨u,k,rfl,_⟩:=h
   rfl
 . obtain⟨u,k,rfl,hk,kk⟩:=h
   refine⟨_,(aK (aZ (i:=2) bFd.nd rfl (Or.inl rfl) (bG uL (pv 0) (pv 1))) (aK (bR (bC dI (pv 2) (cA rfl T.gC) (bF _)) (aM (aU (bG iJ (bG iJ (bG aWp (bU (aJ aN aL)) (pv 2)) (bU (aJ aN aL))) (aP (lF T) hr (by decide) rfl (aJ (pv 0) (aJ (pv 1) aL)))))) bB) (aM (aU (bG iJ (bG aWp (bU (aJ aN aL)) (cA rfl T.gC)) (aP (lF T) hr (by decide) rfl (aJ (pv 0) (aJ (cA rfl T.rQ) aL)))))))),?_⟩;symm
   have e12:Vbfaae.ONES=12:=rfl
   unfold Vbfaae.codeOf at kk
   rw [e12] at kk
   refine⟨_,rfl,_,rfl,_,_,rfl,rfl,by omega,?_⟩
   have eu:(u:Int)/2 ^ (k:Int).toNat=((u/2 ^ k:Nat):Int):=by simp
   dsimp only
   rw [eu]
   generalize u/2 ^ k=qq at*
   refine⟨_,rfl,_,_,rfl,rfl,_,rfl,?_⟩
   simp only [aC]
   by_cases h:qq<12
   . rw [aD (by omega)]
     rw [aD h] at kk
     refine⟨(by show 1<=sizeLine;decide),fun p hp=> ?_⟩
     refine⟨_,rfl,p,_,_,rfl,rfl,aO,by omega,by omega,cF (by simp;omega),fun q hq=> ?_⟩
     refine⟨(by show 1<=sizeLine;decide),fun r hr=> ?_⟩
     refine⟨q,r,_,_,rfl,rfl,cI hr aO,aO,cF (by simp;omega),fun t ht=> ?_⟩
     refine⟨_,rfl,_,rfl,u,k,rfl,by omega,fun H1 v s1 n1 h1=> ?_⟩
     refine⟨t,v,_,_,rfl,rfl,s1 _ _ aO,h1,cF (by simp [M.dD];omega),fun z hz=> ?_⟩
     refine kk.put ((((bY hp).trans (bY hq)).trans (bY hr)).trans ((bY ht).trans s1)) hz ?_
     rw [M.bBs]
     simp [ni]
   . rw [aF (by omega)]
     rw [aF h] at kk
     refine⟨(by show 1<=sizeLine;decide),fun p hp=> ?_⟩
     refine⟨p,_,_,rfl,rfl,aO,by omega,by omega,(by show 1*12<=sizeLine;decide),fun q hq=> ?_⟩
     refine⟨_,rfl,u,10,rfl,by omega,fun H1 v s1 n1 h1=> ?_⟩
     refine⟨q,v,_,_,rfl,rfl,s1 _ _ aO,h1,cF (by simp [M.dD]),fun z hz=> ?_⟩
     refine kk.put (((bY hp).trans (bY hq)).trans s1) hz ?_
     simp [ni]
inductive aMa (vs:List V) (H:Hp) (Q:VK):Prop|mk (u k:Nat) (z0:vs=[.int u,.int k]) (z1:Q (.int ((Vbfaae.codeOf k u).length:Nat)) H) def aQd (K:aA) (a:Adr):L2.Sp:=fun vs H Q _=>aMa vs H Q
theorem yL:bA ["number","k","ones"] ["number","k"] (aV zG):=by decide+kernel
theorem aPm (T:Txt P w K mg a):Ok P w K mg base 1 "code_length" ["number","k"] (aQd K a):=by
 refine T.aRe.ok yL (fun vs H Q E h=> ?_) (fun f cdv A outer s H vs Q E hr h=> ?_)
 . obtain⟨u,k,rfl,_⟩:=h
   rfl
 . obtain⟨u,k,rfl,kk⟩:=h
   refine⟨_,(aK (aZ (i:=2) yL.nd rfl (Or.inl rfl) (bG uL (pv 0) (pv 1))) (aK (bR (bC dI (pv 2) (cA rfl T.gC) (bF _)) (aM (aU (bG cR (bG cR (pv 2) aN) (pv 1)))) bB) (aM (aU (bG cR (cA rfl T.gC) (cA rfl T.rQ)))))),?_⟩;symm
   refine⟨_,rfl,_,rfl,_,_,rfl,rfl,by omega,?_⟩
   have eu:(u:Int)/2 ^ (k:Int).toNat=((u/2 ^ k:Nat):Int):=by simp
   dsimp only
   rw [eu]
   rw [M.iC] at kk
   generalize u/2 ^ k=qq at*
   and_intros
   by_cases h:qq<12
   . rw [aD h] at kk
     rw [aD (by omega)]
     exact qi kk (by simp)
   . rw [aF h] at kk
     rw [aF (by omega)]
     exact kk
def aBo (H:Hp) (p:Addr) (i:Nat) (l:List Nat):L2.St->Hp->Prop:=fun σ H'=>H'=H/\ ∃n:Nat,σ=[some (.ref p),some (.int i),some (.int n)]/\n<=12/\ ∀j,j<n->l[i+j]? =some 1
def aBh:L2.St->Nat:=fun σ=>match σ with|[_,_,some (.int k)]=>(12-k).toNat|_=>0
inductive aQi (K:aA) (vs:List V) (H:Hp) (Q:VK):Prop|mk (p:Addr) (l:List Nat) (i:Nat) (z0:vs=[.ref p,.int i]) (z1:SqL K H p (ni l)) (z2:Q (.int (M.dF (l.drop i):Nat)) H) def aSk (K:aA) (a:Adr):L2.Sp:=fun vs H Q _=>aQi K vs H Q
theorem sG:bA ["bits","at","ones"] ["bits","at"] (aV aCg):=by decide+kernel
theorem aRw (T:Txt P w K mg a):Ok P w K mg base 1 "count_ones" ["bits","at"] (aSk K a):=by
 refine T.aVn.ok sG (fun vs H Q E h=> ?_) (fun f cdv A outer s H vs Q E hr h=> ?_)
 . obtain⟨p,l,i,rfl,_⟩:=h
   rfl
 . obtain⟨p,l,i,rfl,hp,k⟩:=h
   refine⟨_,(aK (aZ (i:=2) sG.nd rfl (Or.inl rfl) aN) (aK (tL PassesOwn.never (PW.pt (rY (bC dI (pv 2) (cA rfl T.gC) (bF _)) (rY (bC dI (bG cR (pv 1) (pv 2)) (bL bH (by rfl) T.dC PySem.boot_len (aJ (pv 0) aL)) (bF _)) (pB (bC nG (bZ bD (pv 0) (bG cR (pv 1) (pv 2)) (fun _ _=>rfl)) aN (bF _)))))) (aM (aWu (i:=2) sG.nd rfl (Or.inl rfl) aN qW))) (aM (aU (pv 2))))),?_⟩;symm
   dsimp only [bKl,bHd,tC,aJw]
   refine bBl (aBo H p i l) aBh ⟨rfl,0,rfl,by omega,fun j hj=>by omega⟩ ?_
   rintro σ H' ⟨rfl,n,rfl,hn,hj⟩
   have fin:(n=12\/l[i+n]? ≠some 1)->Q (.int (n:Nat)) H':=fun h=>by
    rw [M.bGl (m:=l.drop i) hn (fun j h'=>by rw [List.getElem?_drop];exact hj j h') (by rw [List.getElem?_drop];exact h)] at k
    exact k
   and_intros
   by_cases h12:n<12
   . rw [aD (by omega)]
     refine⟨_,.inl hp,?_⟩
     by_cases hl:i+n<l.length
     . rw [aD (by rw [aG];omega)]
       obtain⟨b,hb⟩: ∃b,l[i+n]? =some b:=⟨_,List.getElem?_eq_getElem hl⟩
       refine⟨p,_,_,_,rfl,rfl,hp,jO (i:=i+n) (by omega) hb,?_⟩
       refine⟨rfl,?_⟩
       by_cases h1:b=1
       . subst h1
         rw [aD (show V.int ((1:Nat):Int)=V.int 1 from rfl)]
         refine⟨WN (aBo _ p i l) aBh [some (.ref p),some (.int i),some (.int n)],WN.ok,?_⟩
         refine⟨_,rfl,_,_,rfl,rfl,⟨rfl,n+1,rfl,by omega,fun j hj'=> ?_⟩,?_⟩
         . rcases Nat.lt_or_ge j n with q|q
           . exact hj j q
           . have:j=n:=by omega
             subst this;exact hb
         . show (12-((n:Int)+1)).toNat<(12-(n:Int)).toNat
           omega
       . rw [aF (by intro e;injection e with e;omega)]
         exact fin (.inr (by rw [hb];simp;exact h1))
     . rw [aF (by rw [aG];omega)]
       exact fin (.inr (by rw [List.getElem?_eq_none (by omega)];simp))
   . rw [aF (by omega)]
     exact fin (.inl (by omega))
inductive aSq (K:aA) (vs:List V) (H:Hp) (Q:VK):Prop|mk (p:Addr) (l:List Nat) (i k:Nat) (z0:vs=[.ref p,.int i,.int k]) (z1:SqL K H p (ni l)) (z2:l.length<=1000000) (z3:k<=10) (z4:i<=l.length) (z5:Q (.int (match M.aWv (l.drop i) k with|none=> -1|some u=>(u:Nat))) H) def aXl (K:aA) (a:Adr):L2.Sp:=fun vs H Q _=>aSq K vs H Q
theorem lR:bA ["bits","at","k","ones","number","low"] ["bits","at","k"] (aV aHd):=by decide+kernel
theorem aWm (T:Txt P w K mg a):Ok P w K mg base 2 "read_code" ["bits","at","k"] (aXl K a):=by
 refine T.aYy.ok lR (fun vs H Q E h=> ?_) (fun f cdv A outer s H vs Q E hr h=> ?_)
 . obtain⟨p,l,i,k,rfl,_⟩:=h
   rfl
 . obtain⟨p,l,i,k,rfl,hp,hl,hk,hi,kk⟩:=h
   refine⟨_,(aK (aZ (i:=3) lR.nd rfl (Or.inl rfl) (aP (aRw T) hr (by decide) rfl (aJ (pv 0) (aJ (pv 1) aL)))) (aK (bR (bC nG (pv 3) (cA rfl T.gC) (bF _)) (aK (aZ (i:=4) lR.nd rfl (Or.inl rfl) (aP (uK T) hr (by decide) rfl (aJ (pv 0) (aJ (bG cR (pv 1) (pv 3)) (aJ (cA rfl T.rQ) aL))))) (aM (aU (tH (bC pY (bG uL (pv 4) (pv 2)) (cA rfl T.gC) (bF _)) (pv 4) (yE qP aN))))) bB) (aK (aZ (i:=5) lR.nd rfl (Or.inl rfl) (aP (uK T) hr (by decide) rfl (aJ (pv 0) (aJ (bG cR (bG cR (pv 1) (pv 3)) aN) (aJ (pv 2) aL))))) (aK (bR (bC dI (pv 5) aN (bF _)) (aM (aU (yE qP aN))) bB) (aK (aZ (i:=4) lR.nd rfl (Or.inl rfl) (bG cR (bG bJb (pv 3) (pv 2)) (pv 5))) (aM (aU (tH (bC aKh (pv 4) (cA rfl T.uE) (bF _)) (pv 4) (yE qP aN))))))))),?_⟩;symm
   have ho:=M.aIs (l.drop i)
   rw [List.length_drop] at ho
   refine⟨_,rfl,_,rfl,p,l,i,rfl,hp,?_⟩
   unfold M.aWv at kk
   generalize M.dF (l.drop i)=n at*
   refine⟨_,rfl,rfl,_,rfl,?_⟩
   simp only [aC,V.int.injEq,List.length_drop,List.drop_drop] at kk ⊢
   by_cases h12:n=12
   . rw [aD (by omega)]
     rw [aD h12] at kk
     subst h12
     refine⟨_,rfl,_,rfl,_,rfl,_,_,rfl,rfl,p,l,i+12,10,rfl,hp,hl,?_⟩
     generalize Vbfaae.numberOf ((l.drop (i+12)).take 10)=u at*
     by_cases h22:l.length-i<22
     . rw [aD h22] at kk
       rw [aD (by omega)]
       refine⟨_,rfl,_,rfl,_,_,rfl,rfl,by omega,_,_,rfl,rfl,_,rfl,?_⟩
       dsimp only
       rw [aF (by
        rw [aC]
        have:(-1:Int)/2 ^ (k:Int).toNat<0:=Int.ediv_neg_of_neg_of_pos (by decide) (Int.pow_pos (by decide))
        omega)]
       exact⟨_,rfl,kk⟩
     . rw [aF h22] at kk
       rw [aF (by omega)]
       refine⟨_,rfl,_,rfl,_,_,rfl,rfl,by omega,_,_,rfl,rfl,_,rfl,?_⟩
       have eu:(u:Int)/2 ^ (k:Int).toNat=((u/2 ^ k:Nat):Int):=by simp
       dsimp only
       rw [eu]
       simp only [aC]
       by_cases hu:u/2 ^ k<12
       . rw [aD hu] at kk
         rw [aF (by omega)]
         exact⟨_,rfl,kk⟩
       . rw [aF hu] at kk
         rw [aD (by omega)]
         exact⟨_,rfl,kk⟩
   . rw [aF (by omega)]
     rw [aF h12] at kk
     refine⟨_,rfl,_,rfl,_,rfl,_,_,rfl,rfl,_,_,rfl,rfl,_,rfl,p,l,i+n+1,k,rfl,hp,hl,?_⟩
     have e3:i+(n+1)=i+n+1:=by omega
     rw [e3] at kk
     generalize Vbfaae.numberOf ((l.drop (i+n+1)).take k)=u at*
     by_cases hq:l.length-i<n+1+k
     . rw [aD hq] at kk
       rw [aD (by omega)]
       refine⟨_,rfl,_,_,rfl,rfl,_,rfl,?_⟩
       dsimp only
       rw [aD (by decide)]
       exact⟨_,rfl,kk⟩
     . rw [aF hq] at kk
       rw [aF (by omega)]
       refine⟨_,rfl,_,_,rfl,rfl,_,rfl,?_⟩
       simp only [aC]
       rw [aF (by omega)]
       refine⟨_,rfl,_,rfl,_,_,rfl,rfl,⟨by omega,by omega,by omega⟩,_,rfl,_,_,rfl,rfl,_,rfl,_,_,rfl,rfl,_,rfl,?_⟩
       have en:(n:Int)*2 ^ (k:Int).toNat+u=((n*2 ^ k+u:Nat):Int):=by simp
       dsimp only
       rw [en]
       simp only [aC]
       by_cases hz:1024<=n*2 ^ k+u
       . rw [aD hz] at kk
         rw [aF (by omega)]
         exact⟨_,rfl,kk⟩
       . rw [aF hz] at kk
         rw [aD (by omega)]
         exact⟨_,rfl,kk⟩
theorem aOl {K:aA} {q:Addr} {xs:List V} {g:TG} {tb:TS} {D:Ends} {σ:L2.St} {H:Hp} (Pv:Nat->L2.St->Hp->Prop) (h0:Pv 0 σ H) (hl: ∀i σ H,i<=xs.length->Pv i σ H->SqL K H q xs)
 (hs: ∀(i:Nat) x σ H t,xs[i]? =some x->Pv i σ H->H t=none->g (.ref t) σ (upd H t (.tup [.int (i:Nat),x])) fun σ2 H2=>tb {D with nx:=Pv (i+1),ct:=Pv (i+1),bk:=D.nx} σ2 H2) (hd: ∀σ H,Pv xs.length σ H->D.nx σ H):
 ∃W:Nat->Nat->L2.St->Hp->Prop,(∃m,W 0 m σ H)/\ ∀i m σ H,W i m σ H->
  ((Ite K q).stop i H/\D.nx σ H)\/((Ite K q).go i H/\ ∃N:L2.St->Hp->Prop,(∀σ' H',N σ' H'-> ∃m',m'<m/\W (i+1) m' σ' H')/\ ∀x H',(Ite K q).yld i H x H'->g x σ H' fun σ2 H2=>tb {D with nx:=N,ct:=N,bk:=D.nx} σ2 H2):=by
 refine⟨fun i m σ H=>m=xs.length-i/\i<=xs.length/\Pv i σ H,⟨xs.length,by simp,Nat.zero_le _,h0⟩,?_⟩
 rintro i m σ H ⟨rfl,hi,p⟩
 have q':=hl i σ H hi p
 by_cases hlt:i<xs.length
 . refine .inr ⟨⟨xs,xs[i],q',by simp [hlt]⟩,Pv (i+1),fun σ' H' p'=>⟨xs.length-(i+1),by omega,rfl,hlt,p'⟩,fun x H' y=> ?_⟩
   obtain⟨t,z,rfl,ht,rfl,hz⟩:=y
   exact hs i z σ H t (hz xs q') p ht
 . have e:i=xs.length:=by omega
   subst e
   exact .inl ⟨⟨xs,q',Nat.le_refl _⟩,hd σ H p⟩
theorem bAo {H H1 H2:Hp} {x y:Addr} (hs:bJ H H1) (hx:H x=none) (hy:H y=none) (h: ∀b ob,H1 b=some ob->b≠x->b≠y->H2 b=some ob):bJ H H2:=fun b ob hb=>
 h b ob (hs b ob hb) (cQ hb hx) (cQ hb hy)
theorem cG {H:Hp} {q b:Addr} {o:HO} (h:upd H q o b=none):H b=none:=by
 by_cases e:b=q
 . subst e;rw [aO] at h;cases h
 . rw [aR e] at h;exact h
theorem sqA {te:TE} {i:Nat} {u:TS} {D:Ends} {σ:L2.St} {H:Hp} (h:te σ H fun x H1=>u D (σ.set i (some x)) H1):bKl (bHd te (aJw i)) u D σ H:=h
theorem aKi {K:aA} {a:Adr} {σ:L2.St} {H:Hp} {Q:VK} (k: ∀o x y H1,bJ H H1->H o=none->H x=none->H y=none->pJ a H1 o x y Vbfaae.fresh->Q (.ref o) H1):bFj a.cContexts (nP K a) σ H Q:=by
 intro o dx ho hdx hne
 exact⟨o,dx,rfl,aO,fun H1 x y c1 hx hy kp=>⟨rfl,k o x y H1 (bJ.made ho hdx kp) ho (cG (cG hx)) (cG (cG hy)) c1⟩⟩
inductive bGu (K:aA) (vs:List V) (H:Hp) (Q:VK):Prop|mk (p:Addr) (l:List Nat) (v m:Nat) (q:Addr) (rs:List Nat) (z0:vs=[.ref p,.int v,.int m,.ref q]) (z1:SqL K H p (ni l)) (z2:(∀z∈l,z<1024)) (z3:l.length<=576) (z4:0<v) (z5:m<=5) (z6:(m=5->SqL K H q (ni rs))) (z7:rs.length=l.length) (z8:(∀z∈rs,z<1024)) (z9:sI H Q (ni (Vbfaae.encoded m v l rs))) def bKb (K:aA) (a:Adr):L2.Sp:=fun vs H Q _=>bGu K vs H Q
theorem qG:bA ["greys","width","mode","reference","contexts","bits","n","grey","context","number"] ["greys","width","mode","reference"] (aV bBc):=by decide+kernel
theorem aPn (T:Txt P w K mg a):Ok P w K mg base 4 "coded" ["greys","width","mode","reference"] (bKb K a):=by
 refine T.bLa.ok qG (fun vs H Q E h=> ?_) (fun f cdv A outer s H vs Q E hr h=> ?_)
 . obtain⟨p,l,v,m,q,rs,rfl,_⟩:=h
   rfl
 . obtain⟨p,l,v,m,q,rs,rfl,hp,hl,hz,hv,hm,hq,hrl,hr5,k⟩:=h
   refine⟨_,(aK (aZ (i:=4) qG.nd rfl (Or.inl rfl) (aIv T.cN (nA T) hr (by decide) rfl)) (aK (aZ (i:=5) qG.nd rfl (Or.inl rfl) (bU aL)) (aK (lK PassesOwn.never rfl (aNe rfl T.qX (aJ (pv 0) aL)) (aWr rfl (gW (cM (i:=6) qG.nd rfl (Or.inl rfl)) (gW (cM (i:=7) qG.nd rfl (Or.inl rfl)) aAe))) (aK (aZ (i:=8) qG.nd rfl (Or.inl rfl) (aP (aBk T) hr (by decide) rfl (aJ (pv 0) (aJ (pv 6) (aJ (pv 1) aL))))) (aK (aZ (i:=9) qG.nd rfl (Or.inl rfl) (aP (aWl T) hr (by decide) rfl (aJ (pv 7) (aJ (aP (aFc T) hr (by decide) rfl (aJ (pv 0) (aJ (pv 6) (aJ (pv 1) (aJ (pv 2) (aJ (pv 3) aL)))))) aL)))) (aK (fB (rB PySem.F.plainAttrs_list PySem.F.slot_list_extend PySem.F.type_list_extend tD (pv 5) (aJ (aP (bEy T) hr (by decide) rfl (aJ (pv 9) (aJ (aFg (pv 4) T.cN (pW T) hr (by decide) (aJ (pv 8) aL)) aL))) aL))) (aM (fB (aFg (pv 4) T.cN (rA T) hr (by decide) (aJ (pv 8) (aJ (pv 9) aL))))))))) (aM (aU (aP (aFb T) hr (by decide) rfl (aJ (pv 5) aL))))))),?_⟩;symm
   refine sqA (aKi fun o x y H1 s1 ho hx hy c1=> ?_)
   refine⟨Nat.zero_le _,fun bl hbl=> ?_⟩
   have hblH:H bl=none:=s1.free hbl
   have nbx:bl≠x:=fun e=>by rw [e,c1.sm] at hbl;cases hbl
   have nby:bl≠y:=fun e=>by rw [e,c1.ct] at hbl;cases hbl
   have nbo:bl≠o:=fun e=>by obtain⟨dx,h⟩:=c1.ob;rw [e,h] at hbl;cases hbl
   refine⟨_,rfl,p,_,rfl,((s1.trans (bY hbl)).seq hp),aOl (K:=K) (q:=p) (xs:=ni l) (fun i σ H'=>bJ H H'/\ ∃(st:Vbfaae.Stats) (bits:List Nat),pJ a H' o x y st/\M.aUu st/\H' bl=some (.lst (ni bits))/\bits.length<=22*i/\(∀b∈bits,b<2)/\
    Vbfaae.encodeFrom m v [] (l.zip rs) Vbfaae.fresh=bits++Vbfaae.encodeFrom m v (l.take i) ((l.zip rs).drop i) st/\ ∃v6 v7 v8 v9,σ=[some (.ref p),some (.int v),some (.int m),some (.ref q),some (.ref o),some (.ref bl),v6,v7,v8,v9])
    ⟨s1.trans (bY hbl),Vbfaae.fresh,[],c1.same (bY hbl),M.aZj,aO,by simp,by simp,rfl,_,_,_,_,rfl⟩ (fun i σ H' _ h=>h.1.seq hp) ?_ ?_⟩
   . rintro i yy σ H' t hi ⟨hs,st,bits,c2,so,hb,hbl2,hb2,he,v6,v7,v8,v9,rfl⟩ ht
     obtain⟨g,hg,rfl⟩:=nW hi
     have hil:=(List.getElem?_eq_some_iff.mp hg).1
     obtain⟨r,hr⟩: ∃r,rs[i]? =some r:=⟨_,List.getElem?_eq_getElem (by omega)⟩
     have ht2:bJ H' (upd H' t (.tup [.int (i:Nat),.int g])):=bY ht
     have hs3:=hs.trans ht2
     refine⟨t,_,rfl,SqT.of aO,rfl,_,_,rfl,_,_,rfl,rfl,?_⟩
     have c3:=c2.same ht2
     have hb3:=ht2 _ _ hb
     generalize upd H' t (.tup [.int (i:Nat),.int g])=H3 at*
     have nl:=M.bEx (w:=v) (n:=i) hl
     have hpl:=M.aFh (mode:=m) (ref:=r) nl.1 nl.2.1 nl.2.2 (hr5 r (List.mem_of_getElem? hr))
     have hg1:=hl g (List.mem_of_getElem? hg)
     have hul:=M.bFx hg1 hpl
     refine⟨_,rfl,_,rfl,_,rfl,p,l,i,v,rfl,hs3.seq hp,by omega,hv,?_⟩
     refine⟨_,rfl,_,rfl,_,rfl,_,rfl,_,rfl,_,rfl,p,l,i,v,m,q,rs,r,rfl,hs3.seq hp,by omega,hv,hm,fun h5=>⟨hs3.seq (hq h5),hr⟩,g,_,rfl,hg1,hpl,?_⟩
     rw [M.aZg hv hg hr] at he
     have hcl:=M.aNl (M.dB v l i)
     generalize Vbfaae.folded g (Vbfaae.predicted m (M.dB v l i) r)=u at*
     generalize Vbfaae.context (M.dB v l i)=c at*
     have hkl:=M.bCk (Vbfaae.statOf st c)
     obtain⟨dxo,hob⟩:=c3.ob
     refine⟨_,rfl,.inl ⟨rfl,_,SqL.of hb3⟩,_,rfl,_,rfl,o,_,_,rfl,hob,pU,_,rfl,o,x,y,st,c,rfl,c3,so,hcl,u,_,rfl,hkl,fun H4 z s4 n4 h4=> ?_⟩
     generalize Vbfaae.kOf (Vbfaae.statOf st c)=kk at*
     have hclen:= @M.aYg kk u hkl
     refine⟨bl,z,_,_,rfl,rfl,s4 _ _ hb3,h4,cF (by simp;omega),?_⟩
     have c5:pJ a (upd H4 bl (.lst (ni bits++ni (Vbfaae.codeOf kk u)))) o x y st:=by
      obtain⟨⟨d,e1⟩,e2,e3,e4⟩:=c3.same s4
      exact⟨⟨d,by rw [aR nbo.symm];exact e1⟩,by rw [aR nbx.symm];exact e2,by rw [aR nby.symm];exact e3,e4⟩
     obtain⟨dxo5,hob5⟩:=c5.ob
     refine⟨_,rfl,o,_,_,rfl,hob5,qZ,_,rfl,_,rfl,o,x,y,st,c,u,rfl,c5,so,hcl,fun H6 c6 kp6=> ?_⟩
     refine⟨bAo (gY hblH (hs3.trans s4)) hx hy kp6,_,bits++Vbfaae.codeOf kk u,c6,M.aTq so hcl,?_,?_,?_,by rw [he,List.append_assoc],_,_,_,_,rfl⟩
     . have:=kp6 bl _ aO nbx nby
       rw [this];simp [ni]
     . rw [List.length_append];omega
     . intro b hbm
       rcases List.mem_append.mp hbm with h|h
       . exact hb2 b h
       . exact M.aTf _ _ b h
   . rintro σ H' ⟨hs,st,bits,c2,so,hb,hbl2,hb2,he,v6,v7,v8,v9,rfl⟩
     rw [aG] at he hbl2
     rw [M.bCg (by omega),List.append_nil] at he
     refine⟨_,rfl,bl,bits,rfl,hb,by omega,fun H5 r5 s5 n5 h5=> ?_⟩
     refine k.at hs n5 s5 h5 ?_
     unfold Vbfaae.encoded
     rw [he]
theorem bEl: ∀l:List Nat,(ni l).all aBe=true
 |[]=>rfl
 |x::l=>by simp only [ni,List.map_cons,List.all_cons,aBe,Bool.true_and];exact bEl l
theorem bIk (n:Nat): ∀l:List Nat,inV (.int (n:Int)) (ni l)=l.any fun b=>b==n
 |[]=>rfl
 |x::l=>by
  have ih:=bIk n l
  unfold inV at ih ⊢
  simp only [ni,List.map_cons,List.any_cons] at ih ⊢
  rw [ih]
  congr 1
  show ((x:Int)==(n:Int))=(x==n)
  rw [Bool.eq_iff_iff,beq_iff_eq,beq_iff_eq];omega
theorem bKt {l:List Nat} (h: ∀b∈l,b<2):(l.any fun b=>b==1)=!(l.all fun b=>b==0):=by
 induction l with
 |nil=>rfl
 |cons b l ih=>
  rw [List.any_cons,List.all_cons,ih fun c hc=>h c (List.mem_cons_of_mem _ hc)]
  have:b=0\/b=1:=by have:=h b List.mem_cons_self;omega
  rcases this with rfl|rfl<;>simp
inductive bAu (K:aA) (vs:List V) (H:Hp) (Q:VK):Prop|mk (p:Addr) (bs:List Nat) (n v m:Nat) (q:Addr) (rs:List Nat) (z0:vs=[.ref p,.int n,.int v,.int m,.ref q]) (z1:SqL K H p (ni bs)) (z2:bs.length<=2000) (z3:rs.length=n) (z4:n<=576) (z5:0<v) (z6:m<=5) (z7:(m=5->SqL K H q (ni rs))) (z8:(∀z∈rs,z<1024)) (z9:sI H Q (ni ((Vbfaae.decoded m v rs bs).getD []))) def bDh (K:aA) (a:Adr):L2.Sp:=fun vs H Q _=>bAu K vs H Q
theorem fQ:bA ["octets","size","width","mode","reference","bits","contexts","greys","at","n","context","k","number","rest"] ["octets","size","width","mode","reference"] (aV aQq):=by decide+kernel
theorem bCw (T:Txt P w K mg a):Ok P w K mg base 4 "decoded" ["octets","size","width","mode","reference"] (bDh K a):=by
 refine T.bFr.ok fQ (fun vs H Q E h=> ?_) (fun f cdv A outer s H vs Q E hr h=> ?_)
 . obtain⟨p,bs,n,v,m,q,rs,rfl,_⟩:=h
   rfl
 . obtain⟨p,bs,n,v,m,q,rs,rfl,hp,hbs,hn,hn2,hv,hm,hq,hr5,k⟩:=h
   refine⟨_,(aK (aZ (i:=5) fQ.nd rfl (Or.inl rfl) (aP (aEz T) hr (by decide) rfl (aJ (pv 0) aL))) (aK (aZ (i:=6) fQ.nd rfl (Or.inl rfl) (aIv T.cN (nA T) hr (by decide) rfl)) (aK (aZ (i:=7) fQ.nd rfl (Or.inl rfl) (bU aL)) (aK (aZ (i:=8) fQ.nd rfl (Or.inl rfl) aN) (aK (lK PassesOwn.never rfl (jF rfl T.jV (aJ (pv 1) aL)) (cM (i:=9) fQ.nd rfl (Or.inl rfl)) (aK (aZ (i:=10) fQ.nd rfl (Or.inl rfl) (aP (aBk T) hr (by decide) rfl (aJ (pv 7) (aJ (pv 9) (aJ (pv 2) aL))))) (aK (aZ (i:=11) fQ.nd rfl (Or.inl rfl) (aFg (pv 6) T.cN (pW T) hr (by decide) (aJ (pv 10) aL))) (aK (aZ (i:=12) fQ.nd rfl (Or.inl rfl) (aP (aWm T) hr (by decide) rfl (aJ (pv 5) (aJ (pv 8) (aJ (pv 11) aL))))) (aK (bR (bC dI (pv 12) aN (bF _)) (aM (aU (bU aL))) bB) (aK (aWu (i:=8) fQ.nd rfl (Or.inl rfl) (aP (aPm T) hr (by decide) rfl (aJ (pv 12) (aJ (pv 11) aL))) qW) (aK (fB (aFg (pv 6) T.cN (rA T) hr (by decide) (aJ (pv 10) (aJ (pv 12) aL)))) (aM (fB (rB PySem.F.plainAttrs_list PySem.F.slot_list_append PySem.F.type_list_append mK (pv 7) (aJ (aP (bAb T) hr (by decide) rfl (aJ (pv 12) (aJ (aP (aFc T) hr (by decide) rfl (aJ (pv 7) (aJ (pv 9) (aJ (pv 2) (aJ (pv 3) (aJ (pv 4) aL)))))) aL))) aL))))))))))) (aK (aZ (i:=13) fQ.nd rfl (Or.inl rfl) (iU lV (pv 5) (gH (pv 8)) aAf)) (aK (bR (PW.pt (kY (bC pY (bL bH (by rfl) T.dC PySem.boot_len (aJ (pv 13) aL)) aN (bF _)) (iK (bC aIt aN (pv 13) (by with_unfolding_all rfl))))) (aM (aU (bU aL))) bB) (aM (aU (pv 7)))))))))),?_⟩;symm
   refine⟨_,rfl,p,bs,rfl,hp,by omega,fun H1 bl s1 n1 h1=> ?_⟩
   refine sqA (aKi fun o x y H2 s2 ho hx hy c2=> ?_)
   refine⟨Nat.zero_le _,fun gl hgl=> ?_⟩
   have hBl:=M.pL bs
   have hB2:=M.aNj bs
   have dn: ∀z,Vbfaae.decodeFrom m v [] rs Vbfaae.fresh (Vbfaae.allBits bs)=z->Vbfaae.decoded m v rs bs=(match z with|some x=>if(decide (x.2.length<8)&&x.2.all fun z=>z==0)=true then some x.1 else none|none=>none):=fun z h=>by
    unfold Vbfaae.decoded
    rw [h]
    cases z<;>rfl
   generalize Vbfaae.decoded m v rs bs=dec at*
   generalize Vbfaae.allBits bs=B at*
   have h12:bJ H H2:=s1.trans s2
   have hgH:H gl=none:=h12.free hgl
   have ngx:gl≠x:=fun e=>by rw [e,c2.sm] at hgl;cases hgl
   have ngy:gl≠y:=fun e=>by rw [e,c2.ct] at hgl;cases hgl
   have ngo:gl≠o:=fun e=>by obtain⟨dx,h⟩:=c2.ob;rw [e,h] at hgl;cases hgl
   have h2b:=s2 _ _ h1
   have ngb:gl≠bl:=fun e=>by rw [e,h2b] at hgl;cases hgl
   have nbx:bl≠x:=fun e=>by rw [e] at h1;rw [h1] at hx;cases hx
   have nby:bl≠y:=fun e=>by rw [e] at h1;rw [h1] at hy;cases hy
   have hxH:=s1.free hx
   have hyH:=s1.free hy
   have fin0: ∀(H':Hp),bJ H H'->dec=none-> ∀r,H' r=none->Q (.ref r) (upd H' r (.lst [])):=fun H' hs e r hr=>by
    rw [e] at k
    exact k.put hs hr rfl
   refine⟨_,rfl,n,rfl,by omega,by omega,mH (n:=n) (fun i σ H'=>bJ H H'/\ ∃(st:Vbfaae.Stats) (done:List Nat) (at_:Nat),pJ a H' o x y st/\M.aUu st/\H' gl=some (.lst (ni done))/\done.length=i/\(∀z∈done,z<1024)/\at_<=B.length/\H' bl=some (.lst (ni B))/\
    Vbfaae.decodeFrom m v [] rs Vbfaae.fresh B=Vbfaae.decodeFrom m v done (rs.drop done.length) st (B.drop at_)/\ ∃v9 v10 v11 v12 v13,σ=[some (.ref p),some (.int n),some (.int v),some (.int m),some (.ref q),some (.ref bl),some (.ref o),some (.ref gl),some (.int at_),v9,v10,v11,v12,v13])
    ⟨h12.trans (bY hgl),Vbfaae.fresh,[],0,c2.same (bY hgl),M.aZj,aO,rfl,by simp,by omega,by rw [aR ngb.symm];exact h2b,rfl,_,_,_,_,_,rfl⟩ ?_ ?_⟩
   . rintro i σ H' hi ⟨hs,st,done,at_,c3,so,hg,hdl,hdv,hat,hb,he,v9,v10,v11,v12,v13,rfl⟩
     rw [Int.zero_add]
     obtain⟨r,hr⟩: ∃r,rs[done.length]? =some r:=⟨_,List.getElem?_eq_getElem (by omega)⟩
     have hBd: ∀b∈B.drop at_,b<2:=fun b h=>hB2 b (List.mem_of_mem_drop h)
     have nl:=M.bEx (w:=v) (n:=done.length) hdv
     have hpl:=M.aFh (mode:=m) (ref:=r) nl.1 nl.2.1 nl.2.2 (hr5 r (List.mem_of_getElem? hr))
     have hcl:=M.aNl (M.dB v done done.length)
     rw [M.aZc hv hBd hr] at he
     subst hdl
     refine⟨_,rfl,_,rfl,_,rfl,gl,done,done.length,v,rfl,SqL.of hg,by omega,hv,?_⟩
     generalize Vbfaae.context (M.dB v done done.length)=c at*
     have hkl:=M.bCk (Vbfaae.statOf st c)
     obtain⟨dxo,hob⟩:=c3.ob
     refine⟨_,rfl,o,_,_,rfl,hob,pU,_,rfl,o,x,y,st,c,rfl,c3,so,hcl,?_⟩
     generalize Vbfaae.kOf (Vbfaae.statOf st c)=kk at*
     refine⟨_,rfl,_,rfl,_,rfl,bl,B,at_,kk,rfl,SqL.of hb,by omega,hkl,hat,?_⟩
     cases hrc:M.aWv (B.drop at_) kk with
     |none=>
      rw [hrc] at he
      refine⟨_,rfl,_,_,rfl,rfl,_,rfl,?_⟩
      dsimp only
      rw [aD (by decide)]
      exact⟨Nat.zero_le _,fun r hr=>fin0 H' hs (dn _ he) r hr⟩
     |some u=>
      rw [hrc] at he
      have hu:=M.bMh hBd hrc
      rw [List.length_drop] at hu
      refine⟨_,rfl,_,_,rfl,rfl,_,rfl,?_⟩
      dsimp only
      rw [aF (by rw [aC];omega)]
      refine⟨_,rfl,_,rfl,_,rfl,u,kk,rfl,_,_,rfl,rfl,?_⟩
      refine⟨_,rfl,o,_,_,rfl,hob,qZ,_,rfl,_,rfl,o,x,y,st,c,u,rfl,c3,so,hcl,fun H6 c6 kp6=> ?_⟩
      have hs6:=bAo hs hxH hyH kp6
      have hg6:=kp6 _ _ hg ngx ngy
      have hb6:=kp6 _ _ hb nbx nby
      refine⟨_,rfl,.inl ⟨rfl,_,SqL.of hg6⟩,_,rfl,_,rfl,_,rfl,_,rfl,_,rfl,_,rfl,gl,done,done.length,v,m,q,rs,r,rfl,SqL.of hg6,by omega,hv,hm,fun h5=>⟨hs6.seq (hq h5),hr⟩,u,_,rfl,hu.1,hpl,gl,_,_,rfl,rfl,hg6,Nat.lt_of_lt_of_le (by rw [aG];omega) (by decide:1000<=sizeLine),?_⟩
      refine⟨gY hgH hs6,Vbfaae.learnt st c u,done++[Vbfaae.unfolded u (Vbfaae.predicted m (M.dB v done done.length) r)],at_+(Vbfaae.codeOf kk u).length,?_,M.aTq so hcl,?_,by simp,?_,by omega,by rw [aR ngb.symm];exact hb6,?_,_,_,_,_,_,rfl⟩
      . obtain⟨⟨d,e1⟩,e2,e3,e4⟩:=c6
        exact⟨⟨d,by rw [aR ngo.symm];exact e1⟩,by rw [aR ngx.symm];exact e2,by rw [aR ngy.symm];exact e3,e4⟩
      . rw [aO];simp [ni]
      . intro z hz
        rcases List.mem_append.mp hz with h|h
        . exact hdv z h
        . rw [List.mem_singleton.mp h];exact M.aKt _ _
      . rw [he]
        simp only [List.drop_drop]
   . rintro σ H' ⟨hs,st,done,at_,c3,so,hg,hdl,hdv,hat,hb,he,v9,v10,v11,v12,v13,rfl⟩
     rw [M.bCe (by omega)] at he
     have hBd: ∀b∈B.drop at_,b<2:=fun b h=>hB2 b (List.mem_of_mem_drop h)
     refine⟨_,rfl,_,rfl,_,rfl,bl,_,rfl,SqL.of hb,fun re hre=> ?_⟩
     have er:oV (ni B) (some (at_:Int)) none=ni (B.drop at_):=by rw [aAa];simp [ni]
     rw [er]
     refine⟨_,rfl,re,_,rfl,.inl (SqL.of aO),_,_,rfl,rfl,_,rfl,?_⟩
     dsimp only
     have hdn:=dn _ he
     simp only at hdn
     simp only [aC,aG]
     by_cases h8:8<=(B.drop at_).length
     . rw [aD (by omega),aD trivial]
       refine⟨Nat.zero_le _,fun r hr=>fin0 _ (hs.trans (bY hre)) ?_ r hr⟩
       rw [hdn,aF]
       simp only [Bool.and_eq_true,aC,not_and]
       intro h;omega
     . rw [aF (by omega)]
       refine⟨_,rfl,re,_,rfl,.inl (SqL.of aO),rfl,bEl _,_,rfl,?_⟩
       rw [show inV (V.int 1) (ni (B.drop at_))=_ from bIk 1 (B.drop at_),bKt hBd]
       cases hz:(B.drop at_).all fun b=>b==0 with
       |true=>
        rw [hz] at hdn
        rw [aF (by simp)]
        refine⟨_,rfl,k _ gl (hs.trans (bY hre)) hgH ?_⟩
        rw [cI hre hg,hdn,aD (by simp;simpa using h8)]
        rfl
       |false=>
        rw [hz] at hdn
        rw [aD (by simp)]
        refine⟨Nat.zero_le _,fun r hr=>fin0 _ (hs.trans (bY hre)) ?_ r hr⟩
        rw [hdn,aF (by simp)]
theorem put {K:aA} {mg:Str->Option Value} {f x:Str} {H:Hp} {R:Hp->Prop} {o C dx:Addr} {fs fs':List (Str×V)} {ks:List Str} {y:V} (c:Ca K mg x C ks) (ho:H o=some (.ins C dx fs)) (hz:fs.length<1000) (e:fJ f y fs=fs') (k:R (upd H o (.ins C dx fs'))) (hf:f∈ks:=by simp):
 ∃a' C' dx' fs',V.ref o= .ref a'/\H a'=some (.ins C' dx' fs')/\Cls K C'/\pK K C' f/\fs'.length<1000/\R (upd H a' (.ins C' dx' (fJ f y fs'))):=
 ⟨o,C,dx,fs,rfl,ho,c.cl,c.no f hf,hz,by rw [e];exact k⟩
inductive yN (a:Adr) (vs:List V) (H:Hp) (Q:VK):Prop|mk (o dx:Addr) (v0 v1 v2:V) (z0:vs=[.ref o,v0,v1,v2]) (z1:H o=some (.ins a.cPicture dx [])) (z2: ∀H',H' o=some (.ins a.cPicture dx (pO v0 v1 v2))->(∀b ob,H b=some ob->b≠o->H' b=some ob)->Q .non H') def aAs (K:aA) (a:Adr):L2.Sp:=fun vs H Q _=>yN a vs H Q
theorem aAn:bA ["self","width","height","greys"] ["self","width","height","greys"] (aV oN):=by decide+kernel
theorem jK (T:Txt P w K mg a):OkM P w K mg base 1 a.cPicture "__init__" ["self","width","height","greys"] (aAs K a):=by
 refine T.aCs.ok aAn (fun vs H Q E h=> ?_) (fun f cdv A outer s H vs Q E hr h=> ?_)
 . obtain⟨o,dx,v0,v1,v2,rfl,_⟩:=h
   rfl
 . obtain⟨o,dx,v0,v1,v2,rfl,ho,k⟩:=h
   refine⟨_,(aK (fC (pv 0) (pv 1) rfl) (aK (fC (pv 0) (pv 2) rfl) (aM (fC (pv 0) (pv 3) rfl)))),?_⟩;symm
   refine⟨_,rfl,_,rfl,put T.bV ho (by simp) aIh ?_⟩
   refine⟨_,rfl,_,rfl,put T.bV aO (by simp) aEw ?_⟩
   refine⟨_,rfl,_,rfl,put T.bV aO (by simp) aIg ?_⟩
   exact k _ aO fun b ob hb hne=>by rw [aR hne,aR hne,aR hne];exact hb
inductive aAr (a:Adr) (vs:List V) (H:Hp) (Q:VK):Prop|mk (o dx:Addr) (v0 v1 v2:V) (z0:vs=[.ref o,v0,v1,v2]) (z1:H o=some (.ins a.cPacket dx [])) (z2: ∀H',H' o=some (.ins a.cPacket dx (iD v0 v1 v2))->(∀b ob,H b=some ob->b≠o->H' b=some ob)->Q .non H') def aDm (K:aA) (a:Adr):L2.Sp:=fun vs H Q _=>aAr a vs H Q
theorem aDf:bA ["self","octets","flips","is_burst"] ["self","octets","flips","is_burst"] (aV qK):=by decide+kernel
theorem jY (T:Txt P w K mg a):OkM P w K mg base 1 a.cPacket "__init__" ["self","octets","flips","is_burst"] (aDm K a):=by
 refine T.aEs.ok aDf (fun vs H Q E h=> ?_) (fun f cdv A outer s H vs Q E hr h=> ?_)
 . obtain⟨o,dx,v0,v1,v2,rfl,_⟩:=h
   rfl
 . obtain⟨o,dx,v0,v1,v2,rfl,ho,k⟩:=h
   refine⟨_,(aK (fC (pv 0) (pv 1) rfl) (aK (fC (pv 0) (pv 2) rfl) (aM (fC (pv 0) (pv 3) rfl)))),?_⟩;symm
   refine⟨_,rfl,_,rfl,put T.bT ho (by simp) aIf ?_⟩
   refine⟨_,rfl,_,rfl,put T.bT aO (by simp) aLc ?_⟩
   refine⟨_,rfl,_,rfl,put T.bT aO (by simp) aCx ?_⟩
   exact k _ aO fun b ob hb hne=>by rw [aR hne,aR hne,aR hne];exact hb
structure xG (a:Adr) (H:Hp) (pa gl:Addr) (p:Vbfaae.Picture):Prop where
 ob: ∃dx,H pa=some (.ins a.cPicture dx (pO (.int p.w) (.int p.h) (.ref gl)))
 gr:H gl=some (.lst (ni p.values))
theorem xG.same {a:Adr} {H H':Hp} {pa gl:Addr} {p:Vbfaae.Picture} (h:xG a H pa gl p) (e:bJ H H'):xG a H' pa gl p:=by
 obtain⟨⟨dx,h1⟩,h2⟩:=h
 exact⟨⟨dx,e _ _ h1⟩,e _ _ h2⟩
structure sJ (a:Adr) (H:Hp) (q o:Addr) (p:Vbfaae.Bytes×Nat×Bool):Prop where
 ob: ∃dx f,H q=some (.ins a.cPacket dx (iD (.ref o) (.int f) (.bl p.2.2)))/\(p.2.2=false->f=(p.2.1:Int))
 oc:H o=some (.lst (ni p.1))
theorem sJ.same {a:Adr} {H H':Hp} {q o:Addr} {p:Vbfaae.Bytes×Nat×Bool} (h:sJ a H q o p) (e:bJ H H'):sJ a H' q o p:=by
 obtain⟨⟨dx,f,h1,h3⟩,h2⟩:=h
 exact⟨⟨dx,f,e _ _ h1,h3⟩,e _ _ h2⟩
def bHl (a:Adr) (H:Hp) (Q:VK) (p:Vbfaae.Bytes×Nat×Bool):Prop:= ∀H' q o,bJ H H'->H q=none->H o=none->sJ a H' q o p->Q (.ref q) H'
structure GS where
 s:Addr
 pk:Addr
 pl:Addr
 qs:List (Addr×Addr)
structure cZ (a:Adr) (H:Hp) (g:GS) (x:Vbfaae.Stream):Prop where
 ob: ∃dx,H g.s=some (.ins a.cStream dx (eG (.int x.stamp) (.int x.w) (.int x.h) (.int x.slices) (.int x.ref) (.int x.refStamp) (.ref g.pk) (.ref g.pl)))
 pk:H g.pk=some (.lst (ni x.was))
 pl:H g.pl=some (.lst (g.qs.map fun q=>V.ref q.1))
 len:g.qs.length=x.packets.length
 ps: ∀(i:Nat) (q:Addr×Addr) (p:Vbfaae.Bytes×Nat×Bool),g.qs[i]? =some q->x.packets[i]? =some p->sJ a H q.1 q.2 p
theorem cZ.same {a:Adr} {H H':Hp} {g:GS} {x:Vbfaae.Stream} (h:cZ a H g x) (e:bJ H H'):cZ a H' g x:=by
 obtain⟨⟨dx,h1⟩,h2,h3,h4,h5⟩:=h
 exact⟨⟨dx,e _ _ h1⟩,e _ _ h2,e _ _ h3,h4,fun i q p hq hp=>(h5 i q p hq hp).same e⟩
inductive aAu (a:Adr) (vs:List V) (H:Hp) (Q:VK):Prop|mk (o dx:Addr) (v0:V) (pa gl:Addr) (p:Vbfaae.Picture) (v3 v4 v5:V) (z0:vs=[.ref o,v0,.ref pa,v3,v4,v5]) (z1:H o=some (.ins a.cStream dx [])) (z2:xG a H pa gl p) (z3: ∀H' pk pl,H' o=some (.ins a.cStream dx (eG v0 (.int p.w) (.int p.h) v3 v4 v5 (.ref pk) (.ref pl)))->H' pk=some (.lst (ni p.values))->H' pl=some (.lst [])->H pk=none->H pl=none->pk≠pl->(∀b ob,H b=some ob->b≠o->H' b=some ob)->Q .non H') def aDn (K:aA) (a:Adr):L2.Sp:=fun vs H Q _=>aAu a vs H Q
theorem aDg:bA ["self","stamp","picture","slices","reference","reference_stamp"] ["self","stamp","picture","slices","reference","reference_stamp"] (aV qL):=by decide+kernel
theorem jZ (T:Txt P w K mg a):OkM P w K mg base 1 a.cStream "__init__" ["self","stamp","picture","slices","reference","reference_stamp"] (aDn K a):=by
 refine T.aEt.ok aDg (fun vs H Q E h=> ?_) (fun f cdv A outer s H vs Q E hr h=> ?_)
 . obtain⟨o,dx,v0,pa,gl,p,v3,v4,v5,rfl,_⟩:=h
   rfl
 . obtain⟨o,dx,v0,pa,gl,p,v3,v4,v5,rfl,ho,hp,k⟩:=h
   refine⟨_,(aK (fC (pv 0) (pv 1) rfl) (aK (fC (pv 0) (aX (pv 2) rfl) rfl) (aK (fC (pv 0) (aX (pv 2) rfl) rfl) (aK (fC (pv 0) (pv 3) rfl) (aK (fC (pv 0) (pv 4) rfl) (aK (fC (pv 0) (pv 5) rfl) (aK (fC (pv 0) (aTz aEd (by rfl) T.bCu (by rfl) (aJ (aX (pv 2) rfl) aL)) rfl) (aM (fC (pv 0) (bU aL) rfl))))))))),?_⟩;symm
   obtain⟨⟨dxp,hpa⟩,hgl⟩:=hp
   have npo:pa≠o:=qY hpa ho (by intro e;injection e with e1 e2 e3;cases e3)
   have ngo:gl≠o:=qY hgl ho (by intro e;cases e)
   refine⟨_,rfl,_,rfl,put T.aQ ho (by simp) aLd ?_⟩
   refine⟨_,rfl,_,_,_,_,_,rfl,(by rw [aR npo];exact hpa),T.bV.cl,T.bV.no _ (by simp),eF,_,rfl,put T.aQ aO (by simp) aLe ?_⟩
   rw [aAh]
   refine⟨_,rfl,_,_,_,_,_,rfl,(by rw [aR npo];exact hpa),T.bV.cl,T.bV.no _ (by simp),dU,_,rfl,put T.aQ aO (by simp) aIk ?_⟩
   rw [aAh]
   refine⟨_,rfl,_,rfl,put T.aQ aO (by simp) aIm ?_⟩
   refine⟨_,rfl,_,rfl,put T.aQ aO (by simp) aAl ?_⟩
   refine⟨_,rfl,_,rfl,put T.aQ aO (by simp) qT ?_⟩
   rw [aAh,aAh,aAh]
   refine⟨_,rfl,_,_,_,_,_,rfl,(by rw [aR npo];exact hpa),T.bV.cl,T.bV.no _ (by simp),jC,gl,_,rfl,.inl (SqL.of (by rw [aR ngo];exact hgl)),fun pk hpk=> ?_⟩
   have hpkH:=cG hpk
   have npk:pk≠o:=fun e=>by rw [e,aO] at hpk;cases hpk
   refine⟨_,rfl,put T.aQ (by rw [aR npk.symm,aO]) (by simp) aIl ?_⟩
   refine⟨Nat.zero_le _,fun pl hpl=> ?_⟩
   have npl:pl≠o:=fun e=>by rw [e,aO] at hpl;cases hpl
   have nkl:pl≠pk:=fun e=>by rw [e,aR npk,aO] at hpl;cases hpl
   refine⟨_,rfl,put T.aQ (by rw [aR npl.symm,aO]) (by simp) aEx ?_⟩
   refine k _ pk pl aO ?_ ?_ hpkH (cG (cG (cG hpl))) nkl.symm ?_
   . rw [aR npk,aR nkl.symm,aR npk,aO]
   . rw [aR npl,aO]
   . intro b ob hb hbo
     rw [aR hbo,aR (cQ hb (cG (cG (cG hpl)))),aR hbo,aR (cQ hb hpkH),aR hbo]
     exact hb
inductive aSl (a:Adr) (vs:List V) (H:Hp) (Q:VK):Prop|mk (g:GS) (x:Vbfaae.Stream) (i:Nat) (z0:vs=[.ref g.s,.int i]) (z1:cZ a H g x) (z2:1<=x.slices) (z3:x.slices<=8) (z4:i<=1000) (z5:Q (.int (Vbfaae.rowOf x.h x.slices i:Nat)) H) def aXf (K:aA) (a:Adr):L2.Sp:=fun vs H Q _=>aSl a vs H Q
theorem aWy:bA ["stream","i"] ["stream","i"] (aV aGy):=by decide+kernel
theorem lG (T:Txt P w K mg a):Ok P w K mg base 1 "first_row" ["stream","i"] (aXf K a):=by
 refine T.aYt.ok aWy (fun vs H Q E h=> ?_) (fun f cdv A outer s H vs Q E hr h=> ?_)
 . obtain⟨g,x,i,rfl,_⟩:=h
   rfl
 . obtain⟨g,x,i,rfl,hx,h1,h2,hi,k⟩:=h
   refine⟨_,(aM (aU (bG aAd (bG lH (pv 1) (aX (pv 0) rfl)) (aX (pv 0) rfl)))),?_⟩;symm
   obtain⟨dx,ho⟩:=hx.ob
   refine⟨_,rfl,_,rfl,_,_,_,_,_,rfl,ho,T.aQ.cl,T.aQ.no _ (by simp),fG,_,_,rfl,rfl,.inl ⟨by omega,by omega⟩,_,rfl,_,_,_,_,_,rfl,ho,T.aQ.cl,T.aQ.no _ (by simp),dG,_,_,rfl,rfl,⟨by omega,by omega⟩,qi k ?_⟩
   unfold Vbfaae.rowOf
   simp
inductive aQp (a:Adr) (vs:List V) (H:Hp) (Q:VK):Prop|mk (g:GS) (x:Vbfaae.Stream) (i:Nat) (z0:vs=[.ref g.s,.int i]) (z1:cZ a H g x) (z2:M.lC x) (z3:i<8) (z4:Q (.int (Vbfaae.countIn x i:Nat)) H) def aSu (K:aA) (a:Adr):L2.Sp:=fun vs H Q _=>aQp a vs H Q
theorem aSc:bA ["stream","i"] ["stream","i"] (aV aCi):=by decide+kernel
theorem aBn (T:Txt P w K mg a):Ok P w K mg base 2 "slice_size" ["stream","i"] (aSu K a):=by
 refine T.aVp.ok aSc (fun vs H Q E h=> ?_) (fun f cdv A outer s H vs Q E hr h=> ?_)
 . obtain⟨g,x,i,rfl,_⟩:=h
   rfl
 . obtain⟨g,x,i,rfl,hx,hk,hi,k⟩:=h
   refine⟨_,(aM (aU (bG lH (bG dN (aP (lG T) hr (by decide) rfl (aJ (pv 0) (aJ (bG cR (pv 1) aN) aL))) (aP (lG T) hr (by decide) rfl (aJ (pv 0) (aJ (pv 1) aL)))) (aX (pv 0) rfl)))),?_⟩;symm
   obtain⟨dx,ho⟩:=hx.ob
   have hm:= @M.mL x.h x.slices i (i+1) (by omega)
   refine⟨_,rfl,_,rfl,_,_,rfl,rfl,g,x,i+1,rfl,hx,hk.sl.1,hk.sl.2.1,by omega,?_⟩
   refine⟨_,rfl,_,rfl,g,x,i,rfl,hx,hk.sl.1,hk.sl.2.1,by omega,?_⟩
   refine⟨_,_,rfl,rfl,_,rfl,_,_,_,_,_,rfl,ho,T.aQ.cl,T.aQ.no _ (by simp),cD,_,_,rfl,rfl,.inr ⟨by have:=hk.w;omega,by have:=hk.w;omega⟩,qi k ?_⟩
   unfold Vbfaae.countIn
   rw [Nat.mul_comm,Int.natCast_mul,Int.natCast_sub hm]
inductive aJl (a:Adr) (vs:List V) (H:Hp) (Q:VK):Prop|mk (g:GS) (x:Vbfaae.Stream) (i:Nat) (z0:vs=[.ref g.s,.int i]) (z1:cZ a H g x) (z2:M.lC x) (z3:i<8) (z4:sI H Q (ni (Vbfaae.cutOut x.w x.h x.slices i x.was))) def aMs (K:aA) (a:Adr):L2.Sp:=fun vs H Q _=>aJl a vs H Q
theorem vL:bA ["stream","i","start"] ["stream","i"] (aV wI):=by decide+kernel
theorem nZ (T:Txt P w K mg a):Ok P w K mg base 3 "packed_slice" ["stream","i"] (aMs K a):=by
 refine T.aOd.ok vL (fun vs H Q E h=> ?_) (fun f cdv A outer s H vs Q E hr h=> ?_)
 . obtain⟨g,x,i,rfl,_⟩:=h
   rfl
 . obtain⟨g,x,i,rfl,hx,hk,hi,k⟩:=h
   refine⟨_,(aK (aZ (i:=2) vL.nd rfl (Or.inl rfl) (bG lH (aP (lG T) hr (by decide) rfl (aJ (pv 0) (aJ (pv 1) aL))) (aX (pv 0) rfl))) (aM (aU (iU lV (aX (pv 0) rfl) (gH (pv 2)) (gH (bG cR (pv 2) (aP (aBn T) hr (by decide) rfl (aJ (pv 0) (aJ (pv 1) aL))))))))),?_⟩;symm
   obtain⟨dx,ho⟩:=hx.ob
   have hw:=hk.w
   refine⟨_,rfl,_,rfl,g,x,i,rfl,hx,hk.sl.1,hk.sl.2.1,by omega,?_⟩
   refine⟨_,rfl,_,_,_,_,_,rfl,ho,T.aQ.cl,T.aQ.no _ (by simp),cD,_,_,rfl,rfl,.inr ⟨by omega,by omega⟩,?_⟩
   refine⟨_,rfl,_,_,_,_,_,rfl,ho,T.aQ.cl,T.aQ.no _ (by simp),mG,_,rfl,_,rfl,_,rfl,_,rfl,_,rfl,g,x,i,rfl,hx,hk,hi,_,_,rfl,rfl,_,rfl,g.pk,_,rfl,SqL.of hx.pk,fun p hp=> ?_⟩
   refine k.put (bJ.refl _) hp ?_
   have e1:((Vbfaae.rowOf x.h x.slices i:Nat):Int)*(x.w:Int)=((x.w*Vbfaae.rowOf x.h x.slices i:Nat):Int):=by rw [Nat.mul_comm];simp
   have e2:((Vbfaae.rowOf x.h x.slices i:Nat):Int)*(x.w:Int)+(Vbfaae.countIn x i:Nat)=((x.w*Vbfaae.rowOf x.h x.slices i+Vbfaae.countIn x i:Nat):Int):=by rw [e1];simp
   rw [e2,e1,sX,Nat.add_sub_cancel_left]
   unfold Vbfaae.cutOut Vbfaae.countIn
   rw [ni,ni,List.map_take,List.map_drop]
inductive bDi (a:Adr) (vs:List V) (H:Hp) (Q:VK):Prop|mk (g:GS) (x:Vbfaae.Stream) (i m:Nat) (z0:vs=[.ref g.s,.int i,.int m]) (z1:cZ a H g x) (z2:sI H Q (ni (Vbfaae.headOf x i m))) def bGv (K:aA) (a:Adr):L2.Sp:=fun vs H Q _=>bDi a vs H Q
theorem aIy:bA ["stream","i","mode","sides","told"] ["stream","i","mode"] (aV aUi):=by decide+kernel
theorem aTw (T:Txt P w K mg a):Ok P w K mg base 2 "header" ["stream","i","mode"] (bGv K a):=by
 refine T.bHs.ok aIy (fun vs H Q E h=> ?_) (fun f cdv A outer s H vs Q E hr h=> ?_)
 . obtain⟨g,x,i,m,rfl,_⟩:=h
   rfl
 . obtain⟨g,x,i,m,rfl,hx,k⟩:=h
   refine⟨_,(aK (aZ (i:=3) aIy.nd rfl (Or.inl rfl) (bU (aJ (aX (pv 0) rfl) (aJ (aX (pv 0) rfl) aL)))) (aK (aZ (i:=4) aIy.nd rfl (Or.inl rfl) (bG iJ (bG iJ (aP (gG T) hr (by decide) rfl (aJ (aX (pv 0) rfl) (aJ aN aL))) (bU (aJ (pv 1) (aJ (aX (pv 0) rfl) (aJ (pv 2) aL))))) (pv 3))) (aM (aU (bG iJ (bG iJ (pv 4) (bU (aJ (aX (pv 0) rfl) aL))) (aP (gG T) hr (by decide) rfl (aJ (aX (pv 0) rfl) (aJ aN aL)))))))),?_⟩;symm
   obtain⟨dx,ho⟩:=hx.ob
   refine⟨_,rfl,_,_,_,_,_,rfl,ho,T.aQ.cl,T.aQ.no _ (by simp),cD,_,rfl,_,_,_,_,_,rfl,ho,T.aQ.cl,T.aQ.no _ (by simp),fG,(by show 2<=sizeLine;decide),fun sd hsd=> ?_⟩
   have S1:bJ H (upd H sd (.lst [.int x.w,.int x.h])):=bY hsd
   have hsd1:upd H sd (.lst [.int x.w,.int x.h]) sd=some (.lst [.int x.w,.int x.h]):=aO
   generalize upd H sd (.lst [.int x.w,.int x.h])=H1 at*
   have ho1:=S1 _ _ ho
   refine⟨_,rfl,_,_,_,_,_,rfl,ho1,T.aQ.cl,T.aQ.no _ (by simp),jT,x.stamp,2,rfl,by decide,fun H2 t1 s2 n2 h2=> ?_⟩
   rw [bRa] at h2
   have ho2:=s2 _ _ ho1
   refine⟨_,rfl,_,rfl,_,_,_,_,_,rfl,ho2,T.aQ.cl,T.aQ.no _ (by simp),dG,_,rfl,(by show 3<=sizeLine;decide),fun t2 ht2=> ?_⟩
   refine⟨t1,t2,_,_,rfl,rfl,cI ht2 h2,aO,(by show 5<=sizeLine;decide),fun t3 ht3=> ?_⟩
   refine⟨_,rfl,t3,sd,_,_,rfl,rfl,aO,cI ht3 (cI ht2 (s2 _ _ hsd1)),(by show 7<=sizeLine;decide),fun t4 ht4=> ?_⟩
   have S4:bJ H (upd (upd (upd H2 t2 (.lst [.int i,.int x.slices,.int m])) t3 (.lst (ni (Vbfaae.two x.stamp)++[.int i,.int x.slices,.int m]))) t4 (.lst (ni (Vbfaae.two x.stamp)++[.int i,.int x.slices,.int m]++[.int x.w,.int x.h]))):=((S1.trans s2).trans (bY ht2)).trans ((bY ht3).trans (bY ht4))
   have h4:= @aO (upd (upd H2 t2 (.lst [.int i,.int x.slices,.int m])) t3 (.lst (ni (Vbfaae.two x.stamp)++[.int i,.int x.slices,.int m]))) t4 (.lst (ni (Vbfaae.two x.stamp)++[.int i,.int x.slices,.int m]++[.int x.w,.int x.h]))
   generalize upd (upd (upd H2 t2 (.lst [.int i,.int x.slices,.int m])) t3 (.lst (ni (Vbfaae.two x.stamp)++[.int i,.int x.slices,.int m]))) t4 (.lst (ni (Vbfaae.two x.stamp)++[.int i,.int x.slices,.int m]++[.int x.w,.int x.h]))=H4 at*
   have ho4:=S4 _ _ ho
   refine⟨_,rfl,_,rfl,_,_,_,_,_,rfl,ho4,T.aQ.cl,T.aQ.no _ (by simp),dY,(by show 1<=sizeLine;decide),fun t5 ht5=> ?_⟩
   refine⟨t4,t5,_,_,rfl,rfl,cI ht5 h4,aO,(by show 8<=sizeLine;decide),fun t6 ht6=> ?_⟩
   refine⟨_,rfl,_,_,_,_,_,rfl,(cI ht6 (cI ht5 ho4)),T.aQ.cl,T.aQ.no _ (by simp),fV,x.refStamp,2,rfl,by decide,fun H7 t7 s7 n7 h7=> ?_⟩
   rw [bRa] at h7
   refine⟨t6,t7,_,_,rfl,rfl,s7 _ _ aO,h7,(by show 10<=sizeLine;decide),fun t8 ht8=> ?_⟩
   refine k.put (S4.trans ((bY ht5).trans ((bY ht6).trans s7))) ht8 ?_
   unfold Vbfaae.headOf
   simp [ni]
inductive aMb (a:Adr) (vs:List V) (H:Hp) (Q:VK):Prop|mk (q o:Addr) (p:Vbfaae.Bytes×Nat×Bool) (z0:vs=[.ref q]) (z1:sJ a H q o p) (z2:bHl a H Q p) def aQg (K:aA) (a:Adr):L2.Sp:=fun vs H Q _=>aMb a vs H Q
theorem aPx:bA ["packet"] ["packet"] (aV zH):=by decide+kernel
theorem pX (T:Txt P w K mg a):Ok P w K mg base 3 "copy_packet" ["packet"] (aQg K a):=by
 refine T.aRf.ok aPx (fun vs H Q E h=> ?_) (fun f cdv A outer s H vs Q E hr h=> ?_)
 . obtain⟨q,o,p,rfl,_⟩:=h
   rfl
 . obtain⟨q,o,p,rfl,hp,k⟩:=h
   refine⟨_,(aM (aU (gU T.bT (jY T) hr (by decide) rfl (aJ (aTz aEd (by rfl) T.bCu (by rfl) (aJ (aX (pv 0) rfl) aL)) (aJ (aX (pv 0) rfl) (aJ (aX (pv 0) rfl) aL)))))),?_⟩;symm
   obtain⟨⟨dx,f,ho,hf⟩,hc⟩:=hp
   refine⟨_,rfl,_,_,_,_,_,rfl,ho,T.bT.cl,T.bT.no _ (by simp),cJ,o,_,rfl,.inl (SqL.of hc),fun l hl=> ?_⟩
   refine⟨_,rfl,_,_,_,_,_,rfl,(cI hl ho),T.bT.cl,T.bT.no _ (by simp),jR,_,rfl,_,_,_,_,_,rfl,(cI hl ho),T.bT.cl,T.bT.no _ (by simp),fM,fun n dn hn hdn hne=> ?_⟩
   refine⟨n,dn,_,_,_,rfl,aO,fun H2 h2 kp=>⟨rfl,?_⟩⟩
   have s2:=bJ.made hn hdn kp
   exact k H2 n l ((bY hl).trans s2) (cG hn) hl ⟨⟨dn,f,h2,hf⟩,s2 _ _ aO⟩
theorem bM {H:Hp} {q:Addr} (o:HO) (hn:H q=none):bJ H (upd H q o):=bY hn
inductive aMo (a:Adr) (vs:List V) (H:Hp) (Q:VK):Prop|mk (g:GS) (x:Vbfaae.Stream) (i:Nat) (q:Addr) (r0 rs:List Nat) (z0:vs=[.ref g.s,.int i,.ref q]) (z1:cZ a H g x) (z2:M.lC x) (z3:i<x.slices) (z4:H q=some (.lst (ni r0))) (z5:rs.length=Vbfaae.countIn x i) (z6:(∀z∈rs,z<1024)) (z7:((x.ref=0/\r0=[])\/(x.ref≠0/\r0=rs))) (z8:bHl a H Q (Vbfaae.packetOf x i (Vbfaae.bestMode x i rs) rs,0,false)) def aQm (K:aA) (a:Adr):L2.Sp:=fun vs H Q _=>aMo a vs H Q
theorem dW:bA ["stream","i","reference_slice","greys","best_mode","best","last_mode","mode","octets"] ["stream","i","reference_slice"] (aV zN):=by decide+kernel
theorem aPr (T:Txt P w K mg a):Ok P w K mg base 5 "make_packet" ["stream","i","reference_slice"] (aQm K a):=by
 refine T.aRk.ok dW (fun vs H Q E h=> ?_) (fun f cdv A outer s H vs Q E hr h=> ?_)
 . obtain⟨g,x,i,q,r0,rs,rfl,_⟩:=h
   rfl
 . obtain⟨g,x,i,q,r0,rs,rfl,hx,hk,hi,hq,hrl,hr5,hc,k⟩:=h
   refine⟨_,(aK (aZ (i:=3) dW.nd rfl (Or.inl rfl) (aP (nZ T) hr (by decide) rfl (aJ (pv 0) (aJ (pv 1) aL)))) (aK (aZ (i:=4) dW.nd rfl (Or.inl rfl) (cA rfl T.jU)) (aK (aZ (i:=5) dW.nd rfl (Or.inl rfl) (aP (aPn T) hr (by decide) rfl (aJ (pv 3) (aJ (aX (pv 0) rfl) (aJ (pv 4) (aJ (pv 2) aL)))))) (aK (aZ (i:=6) dW.nd rfl (Or.inl rfl) (tH (bC oM (bL bH (by rfl) T.dC PySem.boot_len (aJ (pv 2) aL)) aN (bF _)) (cA rfl T.fH) (bG dN (cA rfl T.fH) aN))) (aK (lK PassesOwn.never rfl (aUa rfl T.jV (aJ (bG cR (cA rfl T.jU) aN) (aJ (bG cR (pv 6) aN) aL))) (cM (i:=7) dW.nd rfl (Or.inl rfl)) (aK (aZ (i:=8) dW.nd rfl (Or.inl rfl) (aP (aPn T) hr (by decide) rfl (aJ (pv 3) (aJ (aX (pv 0) rfl) (aJ (pv 7) (aJ (pv 2) aL)))))) (aM (bR (bC dI (bL bH (by rfl) T.dC PySem.boot_len (aJ (pv 8) aL)) (bL bH (by rfl) T.dC PySem.boot_len (aJ (pv 5) aL)) (bF _)) (aK (aZ (i:=4) dW.nd rfl (Or.inl rfl) (pv 7)) (aM (aZ (i:=5) dW.nd rfl (Or.inl rfl) (pv 8)))) bB)))) (aM (aU (gU T.bT (jY T) hr (by decide) rfl (aJ (aP (bGk T) hr (by decide) rfl (aJ (bG iJ (aP (aTw T) hr (by decide) rfl (aJ (pv 0) (aJ (pv 1) (aJ (pv 4) aL)))) (pv 5)) aL)) (aJ aN (aJ bJf aL))))))))))),?_⟩;symm
   obtain⟨dx,ho⟩:=hx.ob
   have hw:=hk.w
   have hsl:=hk.sl
   have hcl:=M.aAb hk hi hk.len
   have hcv:= @M.zZ x.w x.h x.slices i x.was hk.val
   have hcn:=M.aNm hk hi
   have hcp:= @M.aUg x hk i
   rw [M.aJv] at k
   refine⟨_,rfl,_,rfl,g,x,i,rfl,hx,hk,by omega,fun H1 gl s1 n1 h1=> ?_⟩
   generalize hcut:Vbfaae.cutOut x.w x.h x.slices i x.was=cut at*
   obtain⟨len,hlen⟩: ∃len:Nat->Nat,len=fun m=>(Vbfaae.encoded m x.w cut rs).length:=⟨_,rfl⟩
   refine⟨_,rfl,_,rfl,_,_,_,_,_,rfl,(s1 _ _ ho),T.aQ.cl,T.aQ.no _ (by simp),cD,_,rfl,_,rfl,gl,cut,x.w,0,q,rs,rfl,SqL.of h1,hcv,by omega,by omega,by omega,fun h=>absurd h (by decide),by omega,hr5,fun H2 bl s2 n2 h2=> ?_⟩
   have S2:=s1.trans s2
   refine⟨_,rfl,q,_,rfl,.inl (SqL.of (S2 _ _ hq)),_,_,rfl,rfl,_,rfl,?_⟩
   dsimp only
   rcases hc with⟨h0,rfl⟩|⟨h0,hrr⟩
   . rw [aF (by decide)]
     rw [aD h0] at k
     refine⟨_,_,rfl,rfl,?_⟩
     have hq5: ∀m:Nat,m<=4->m=5->SqL K H q (ni rs):=fun m h1 h2=>by omega
     refine⟨_,_,rfl,rfl,_,rfl,_,_,rfl,rfl,_,_,rfl,⟨by decide,by decide,by decide,by decide⟩,mH (n:=4) (fun j σ H'=>bJ H H'/\ ∃(b:Addr) (v7 v8:Option V),H' b=some (.lst (ni (Vbfaae.encoded (M.gB len j) x.w cut rs)))/\H' gl=some (.lst (ni cut))/\σ=[some (.ref g.s),some (.int i),some (.ref q),some (.ref gl),some (.int (M.gB len j:Nat)),some (.ref b),some (.int 4),v7,v8])
      ⟨S2,bl,_,_,h2,s2 _ _ h1,rfl⟩ ?_ ?_⟩
     . rintro j σ H' hj ⟨hs,b,v7,v8,hb,hgl,rfl⟩
       have em:(0+1+(j:Int))=((j+1:Nat):Int):=by omega
       rw [em]
       refine⟨_,rfl,_,rfl,_,_,_,_,_,rfl,(hs _ _ ho),T.aQ.cl,T.aQ.no _ (by simp),cD,_,rfl,_,rfl,gl,cut,x.w,j+1,q,rs,rfl,SqL.of hgl,hcv,by omega,by omega,by omega,fun h=>hs.seq (hq5 (j+1) (by omega) h),by omega,hr5,fun H3 oc s3 n3 h3=> ?_⟩
       refine⟨_,rfl,oc,_,rfl,.inl (SqL.of h3),_,rfl,b,_,rfl,.inl (SqL.of (s3 _ _ hb)),_,_,rfl,rfl,_,rfl,?_⟩
       dsimp only
       simp only [aC,aG]
       have el: ∀m,(Vbfaae.encoded m x.w cut rs).length=len m:=fun m=>by rw [hlen]
       rw [el,el]
       by_cases hb2:len (j+1)<len (M.gB len j)
       . rw [aD (by omega)]
         have eb:M.gB len (j+1)=j+1:=aD hb2
         refine⟨_,rfl,_,rfl,hs.trans s3,oc,some (.int ((j+1:Nat):Int)),some (.ref oc),?_,s3 _ _ hgl,?_⟩
         . rw [eb];exact h3
         . rw [eb];rfl
       . rw [aF (by omega)]
         have eb:M.gB len (j+1)=M.gB len j:=aF hb2
         refine⟨hs.trans s3,b,some (.int ((j+1:Nat):Int)),some (.ref oc),?_,s3 _ _ hgl,?_⟩
         . rw [eb];exact s3 _ _ hb
         . rw [eb];rfl
     . rintro σ H' ⟨hs,b,v7,v8,hb,hgl,rfl⟩
       have hbl:=M.zV len 4
       rw [<-hlen] at k
       generalize M.gB len 4=bm at*
       have henc:= @M.xP bm x.w cut rs
       refine⟨_,rfl,_,rfl,_,rfl,g,x,i,bm,rfl,hx.same hs,fun H3 hd s3 n3 h3=> ?_⟩
       refine⟨_,rfl,hd,b,_,_,rfl,rfl,h3,s3 _ _ hb,cF (by simp [M.xT];omega),fun cc hcc=> ?_⟩
       refine⟨cc,Vbfaae.headOf x i bm++Vbfaae.encoded bm x.w cut rs,rfl,by rw [aO];simp [ni],?_,by simp [M.xT];omega,fun H4 sl s4 n4 h4=> ?_⟩
       . intro z hz
         rcases List.mem_append.mp hz with h|h
         . exact M.aTm hk (by omega) (by omega) z h
         . exact M.aCo z h
       . intro n dn hn hdn hne
         refine⟨n,dn,_,_,_,rfl,aO,fun H5 h5 kp=>⟨rfl,?_⟩⟩
         have s5:=bJ.made hn hdn kp
         have SS:=((hs.trans s3).trans (bM _ hcc)).trans s4
         refine k H5 n sl (SS.trans s5) (SS.free hn) (((hs.trans s3).trans (bM _ hcc)).free n4) ⟨⟨dn,0,h5,fun _=>rfl⟩,?_⟩
         rw [s5 _ _ h4]
         unfold Vbfaae.packetOf
         rw [hcut]
   . have hrr:=hrr.symm
     subst hrr
     rw [aD (by rw [aC,aG];omega)]
     rw [aF h0] at k
     have hq5: ∀m:Nat,m<=5->m=5->SqL K H q (ni rs):=fun _ _ _=>SqL.of hq
     refine⟨_,_,rfl,rfl,_,rfl,_,_,rfl,rfl,_,_,rfl,⟨by decide,by decide,by decide,by decide⟩,mH (n:=5) (fun j σ H'=>bJ H H'/\ ∃(b:Addr) (v7 v8:Option V),H' b=some (.lst (ni (Vbfaae.encoded (M.gB len j) x.w cut rs)))/\H' gl=some (.lst (ni cut))/\σ=[some (.ref g.s),some (.int i),some (.ref q),some (.ref gl),some (.int (M.gB len j:Nat)),some (.ref b),some (.int 5),v7,v8])
      ⟨S2,bl,_,_,h2,s2 _ _ h1,rfl⟩ ?_ ?_⟩
     . rintro j σ H' hj ⟨hs,b,v7,v8,hb,hgl,rfl⟩
       have em:(0+1+(j:Int))=((j+1:Nat):Int):=by omega
       rw [em]
       refine⟨_,rfl,_,rfl,_,_,_,_,_,rfl,(hs _ _ ho),T.aQ.cl,T.aQ.no _ (by simp),cD,_,rfl,_,rfl,gl,cut,x.w,j+1,q,rs,rfl,SqL.of hgl,hcv,by omega,by omega,by omega,fun h=>hs.seq (hq5 (j+1) (by omega) h),by omega,hr5,fun H3 oc s3 n3 h3=> ?_⟩
       refine⟨_,rfl,oc,_,rfl,.inl (SqL.of h3),_,rfl,b,_,rfl,.inl (SqL.of (s3 _ _ hb)),_,_,rfl,rfl,_,rfl,?_⟩
       dsimp only
       simp only [aC,aG]
       have el: ∀m,(Vbfaae.encoded m x.w cut rs).length=len m:=fun m=>by rw [hlen]
       rw [el,el]
       by_cases hb2:len (j+1)<len (M.gB len j)
       . rw [aD (by omega)]
         have eb:M.gB len (j+1)=j+1:=aD hb2
         refine⟨_,rfl,_,rfl,hs.trans s3,oc,some (.int ((j+1:Nat):Int)),some (.ref oc),?_,s3 _ _ hgl,?_⟩
         . rw [eb];exact h3
         . rw [eb];rfl
       . rw [aF (by omega)]
         have eb:M.gB len (j+1)=M.gB len j:=aF hb2
         refine⟨hs.trans s3,b,some (.int ((j+1:Nat):Int)),some (.ref oc),?_,s3 _ _ hgl,?_⟩
         . rw [eb];exact s3 _ _ hb
         . rw [eb];rfl
     . rintro σ H' ⟨hs,b,v7,v8,hb,hgl,rfl⟩
       have hbl:=M.zV len 5
       rw [<-hlen] at k
       generalize M.gB len 5=bm at*
       have henc:= @M.xP bm x.w cut rs
       refine⟨_,rfl,_,rfl,_,rfl,g,x,i,bm,rfl,hx.same hs,fun H3 hd s3 n3 h3=> ?_⟩
       refine⟨_,rfl,hd,b,_,_,rfl,rfl,h3,s3 _ _ hb,cF (by simp [M.xT];omega),fun cc hcc=> ?_⟩
       refine⟨cc,Vbfaae.headOf x i bm++Vbfaae.encoded bm x.w cut rs,rfl,by rw [aO];simp [ni],?_,by simp [M.xT];omega,fun H4 sl s4 n4 h4=> ?_⟩
       . intro z hz
         rcases List.mem_append.mp hz with h|h
         . exact M.aTm hk (by omega) (by omega) z h
         . exact M.aCo z h
       . intro n dn hn hdn hne
         refine⟨n,dn,_,_,_,rfl,aO,fun H5 h5 kp=>⟨rfl,?_⟩⟩
         have s5:=bJ.made hn hdn kp
         have SS:=((hs.trans s3).trans (bM _ hcc)).trans s4
         refine k H5 n sl (SS.trans s5) (SS.free hn) (((hs.trans s3).trans (bM _ hcc)).free n4) ⟨⟨dn,0,h5,fun _=>rfl⟩,?_⟩
         rw [s5 _ _ h4]
         unfold Vbfaae.packetOf
         rw [hcut]
inductive aJj (a:Adr) (vs:List V) (H:Hp) (Q:VK):Prop|mk (g:GS) (x:Vbfaae.Stream) (v:V) (ref:List Nat) (z0:vs=[.ref g.s,v]) (z1:cZ a H g x) (z2:x.packets=[]) (z3:M.lC x) (z4:g.pk≠g.pl) (z5:ref.length=x.w*x.h) (z6:(∀z∈ref,z<1024)) (z7:((v= .non/\x.ref=0)\/(x.ref≠0/\ ∃(g2:GS) (y:Vbfaae.Stream),v= .ref g2.s/\M.lC y/\M.Alike x y/\y.was=ref/\ ∀H',(∀b ob,H b=some ob->b≠g.pl->H' b=some ob)->cZ a H' g2 y))) (z8: ∀H' qs,(∀b ob,H b=some ob->b≠g.pl->H' b=some ob)->cZ a H' {g with qs:=qs} (Vbfaae.packed x ref)->(∀q∈qs,H q.1=none/\H q.2=none)->(qs.flatMap fun q=>[q.1,q.2]).Nodup->Q .non H') def aMp (K:aA) (a:Adr):L2.Sp:=fun vs H Q _=>aJj a vs H Q
theorem oG:bA ["stream","reference_stream","i","reference_slice"] ["stream","reference_stream"] (aV wG):=by decide+kernel
theorem aLq (T:Txt P w K mg a):Ok P w K mg base 6 "make_packets" ["stream","reference_stream"] (aMp K a):=by
 refine T.aOb.ok oG (fun vs H Q E h=> ?_) (fun f cdv A outer s H vs Q E hr h=> ?_)
 . obtain⟨g,x,v,ref,rfl,_⟩:=h
   rfl
 . obtain⟨g,x,v,ref,rfl,hx,hx0,hk,npk,hrl,hr5,hc,k⟩:=h
   refine⟨_,(aM (lK PassesOwn.never rfl (jF rfl T.jV (aJ (aX (pv 0) rfl) aL)) (cM (i:=2) oG.nd rfl (Or.inl rfl)) (aK (aZ (i:=3) oG.nd rfl (Or.inl rfl) (tH (aDc (bJe (pv 1))) (bU aL) (aP (nZ T) hr (by decide) rfl (aJ (pv 1) (aJ (pv 2) aL))))) (aM (fB (rB PySem.F.plainAttrs_list PySem.F.slot_list_append PySem.F.type_list_append mK (aX (pv 0) rfl) (aJ (aP (aPr T) hr (by decide) rfl (aJ (pv 0) (aJ (pv 2) (aJ (pv 3) aL)))) aL))))))),?_⟩;symm
   obtain⟨dx,ho⟩:=hx.ob
   have hsl:=hk.sl
   have hpk:=M.aTy (x:=x) ⟨hk.w.2,hk.h.2,hk.sl.2.1,hk.ref⟩ (M.bDx hk) ref
   have hg0:g.qs=[]:=List.eq_nil_of_length_eq_zero (by rw [hx.len,hx0];rfl)
   refine⟨_,rfl,_,_,_,_,_,rfl,ho,T.aQ.cl,T.aQ.no _ (by simp),dG,x.slices,rfl,by omega,by omega,mH (n:=x.slices) (fun j σ H'=>(∀b ob,H b=some ob->b≠g.pl->H' b=some ob)/\ ∃qs:List (Addr×Addr),cZ a H' {g with qs:=qs} {x with packets:=(Vbfaae.packed x ref).packets.take j}/\(∀q∈qs,H q.1=none/\H q.2=none)/\(qs.flatMap fun q=>[q.1,q.2]).Nodup/\ ∃v2 v3,σ=[some (.ref g.s),some v,v2,v3])
    ⟨fun b ob hb _=>hb,[],⟨⟨dx,ho⟩,hx.pk,by rw [hx.pl,hg0],rfl,fun i q p hq=>by simp at hq⟩,by simp,by simp,_,_,rfl⟩ ?_ ?_⟩
   . rintro j σ H' hj ⟨hs,qs,hX,hfr,hnd,v2,v3,rfl⟩
     rw [Int.zero_add]
     refine⟨_,rfl,_,rfl,?_⟩
     rcases hc with⟨rfl,h0⟩|⟨h0,g2,y,rfl,hyk,hal,hyw,hy⟩
     . rw [aD (by decide)]
       refine⟨Nat.zero_le _,fun rl hrl0=> ?_⟩
       have s1:bJ H' (upd H' rl (.lst [])):=bY hrl0
       have h1:upd H' rl (.lst []) rl=some (.lst (ni [])):=aO
       generalize upd H' rl (.lst [])=H1 at*
       obtain⟨r0,hr0⟩: ∃r0:List Nat,r0=[]:=⟨_,rfl⟩
       rw [<-hr0] at h1
       have hc0:(x.ref=0/\r0=[])\/(x.ref≠0/\r0=Vbfaae.cutOut x.w x.h x.slices j ref):= .inl ⟨h0,hr0⟩
       have xo:M.lC {x with packets:=(Vbfaae.packed x ref).packets.take j}:=⟨hk.key,hk.w,hk.h,hk.sl,hk.ref,hk.len,hk.val,by show (List.take j _).length<=20;rw [List.length_take];omega,fun p hp=>hpk.2 p (List.mem_of_mem_take hp)⟩
       have hX1:=hX.same s1
       obtain⟨dx1,ho1⟩:=hX1.ob
       have hpl1:=hX1.pl
       refine⟨_,rfl,_,_,_,_,_,rfl,ho1,T.aQ.cl,T.aQ.no _ (by simp),bN,.inl ⟨rfl,_,SqL.of hpl1⟩,_,rfl,_,rfl,_,rfl,{g with qs:=qs},_,j,rl,r0,Vbfaae.cutOut x.w x.h x.slices j ref,rfl,hX1,xo,hj,h1,M.aAb hk hj hrl,M.zZ hr5,hc0,fun H2 n o s2 hn hno hp2=> ?_⟩
       have hpl2:=s2 _ _ hpl1
       have nn:n≠g.pl:=fun e=>by rw [e,hpl1] at hn;cases hn
       have no_:o≠g.pl:=fun e=>by rw [e,hpl1] at hno;cases hno
       refine⟨g.pl,_,_,rfl,rfl,hpl2,Nat.lt_of_lt_of_le (by rw [aG,hX.len];show (List.take j _).length<1000;rw [List.length_take];omega) (by decide:1000<=sizeLine),?_⟩
       have hjp:(Vbfaae.packed x ref).packets[j]? =some (Vbfaae.packetOf x j (Vbfaae.bestMode x j (Vbfaae.cutOut x.w x.h x.slices j ref)) (Vbfaae.cutOut x.w x.h x.slices j ref),0,false):=by
        unfold Vbfaae.packed
        simp [hj]
       have hX2:=hX1.same s2
       have hlq:qs.length=j:=by
        have:=hX.len
        have e:(List.take j (Vbfaae.packed x ref).packets).length=j:=by rw [List.length_take];omega
        exact this.trans e
       refine⟨fun b ob hb hbn=> ?_,qs++[(n,o)],⟨?_,?_,?_,?_,?_⟩,?_,?_,_,_,rfl⟩
       . rw [aR hbn];exact s2 _ _ (s1 _ _ (hs b ob hb hbn))
       . obtain⟨d,e⟩:=hX2.ob
         refine⟨d,?_⟩
         rw [aR (qY e hX2.pl (by intro z;cases z))];exact e
       . rw [aR (fun e=>by have h1:=hX2.pk;have h2:=hX2.pl;exact npk e)];exact hX2.pk
       . rw [aO,List.map_append];rfl
       . rw [M.dX hjp,List.length_append,List.length_append];simp [hlq];omega
       . intro i q p hq hp
         rw [M.dX hjp] at hp
         have hjl:(List.take j (Vbfaae.packed x ref).packets).length=j:=by rw [List.length_take];omega
         by_cases hij:i<j
         . rw [List.getElem?_append_left (by omega)] at hq
           rw [List.getElem?_append_left (by omega)] at hp
           obtain⟨⟨d,f',e1,e3⟩,e2⟩:=hX2.ps i q p hq hp
           have m1:=hfr q (List.mem_of_getElem? hq)
           refine⟨⟨d,f',?_,e3⟩,?_⟩
           . rw [aR (qY e1 hX2.pl (by intro z;cases z))];exact e1
           . rw [aR (fun e=>by rw [e,hx.pl] at m1;cases m1.2)];exact e2
         . have hil:=(List.getElem?_eq_some_iff.mp hq).1
           rw [List.length_append] at hil
           simp only [List.length_cons,List.length_nil] at hil
           have hie:i=j:=by omega
           subst hie
           rw [List.getElem?_append_right (by omega)] at hq
           rw [List.getElem?_append_right (by omega)] at hp
           simp [hlq] at hq
           rw [hjl] at hp
           simp at hp
           subst hq hp
           exact⟨by
            obtain⟨d,f',e1,e3⟩:=hp2.ob
            exact⟨d,f',by rw [aR nn];exact e1,e3⟩,by rw [aR no_];exact hp2.oc⟩
       . intro q hq
         rcases List.mem_append.mp hq with h|h
         . exact hfr q h
         . rw [List.mem_singleton.mp h]
           have fr: ∀z,H1 z=none->z≠g.pl->H z=none:=fun z hz hne=>by
            cases e:H z with
            |none=>rfl
            |some ob=>
             have:=s1 _ _ (hs z ob e hne)
             rw [this] at hz;cases hz
           exact⟨fr n hn nn,fr o hno no_⟩
       . rw [List.flatMap_append]
         refine List.nodup_append.mpr ⟨hnd,?_,?_⟩
         . simp
           exact qY hp2.ob.choose_spec.choose_spec.1 hp2.oc (by intro z;cases z)
         . intro u hu w' hw' e
           subst e
           obtain⟨q,hq,hu⟩:=List.mem_flatMap.mp hu
           obtain⟨i,hi⟩:=List.getElem?_of_mem hq
           have hil:=(List.getElem?_eq_some_iff.mp hi).1
           obtain⟨p,hp⟩: ∃p,(List.take j (Vbfaae.packed x ref).packets)[i]? =some p:=⟨_,List.getElem?_eq_getElem (by rw [List.length_take];omega)⟩
           have hpk1:=hX1.ps i q p hi hp
           obtain⟨d,f',e1,e3⟩:=hpk1.ob
           have e2:=hpk1.oc
           simp at hu hw'
           rcases hu with rfl|rfl<;>rcases hw' with rfl|rfl
           . rw [e1] at hn;cases hn
           . rw [e1] at hno;cases hno
           . rw [e2] at hn;cases hn
           . rw [e2] at hno;cases hno
     . rw [aF (by simp)]
       refine⟨_,rfl,_,rfl,g2,y,j,rfl,hy H' hs,hyk,by omega,fun H1 rl s1 n1 h1=> ?_⟩
       obtain⟨r0,hr0⟩: ∃r0:List Nat,r0=Vbfaae.cutOut x.w x.h x.slices j ref:=⟨_,rfl⟩
       rw [<-hal.1,<-hal.2.1,<-hal.2.2,hyw,<-hr0] at h1
       have hc0:(x.ref=0/\r0=[])\/(x.ref≠0/\r0=Vbfaae.cutOut x.w x.h x.slices j ref):= .inr ⟨h0,hr0⟩
       have xo:M.lC {x with packets:=(Vbfaae.packed x ref).packets.take j}:=⟨hk.key,hk.w,hk.h,hk.sl,hk.ref,hk.len,hk.val,by show (List.take j _).length<=20;rw [List.length_take];omega,fun p hp=>hpk.2 p (List.mem_of_mem_take hp)⟩
       have hX1:=hX.same s1
       obtain⟨dx1,ho1⟩:=hX1.ob
       have hpl1:=hX1.pl
       refine⟨_,rfl,_,_,_,_,_,rfl,ho1,T.aQ.cl,T.aQ.no _ (by simp),bN,.inl ⟨rfl,_,SqL.of hpl1⟩,_,rfl,_,rfl,_,rfl,{g with qs:=qs},_,j,rl,r0,Vbfaae.cutOut x.w x.h x.slices j ref,rfl,hX1,xo,hj,h1,M.aAb hk hj hrl,M.zZ hr5,hc0,fun H2 n o s2 hn hno hp2=> ?_⟩
       have hpl2:=s2 _ _ hpl1
       have nn:n≠g.pl:=fun e=>by rw [e,hpl1] at hn;cases hn
       have no_:o≠g.pl:=fun e=>by rw [e,hpl1] at hno;cases hno
       refine⟨g.pl,_,_,rfl,rfl,hpl2,Nat.lt_of_lt_of_le (by rw [aG,hX.len];show (List.take j _).length<1000;rw [List.length_take];omega) (by decide:1000<=sizeLine),?_⟩
       have hjp:(Vbfaae.packed x ref).packets[j]? =some (Vbfaae.packetOf x j (Vbfaae.bestMode x j (Vbfaae.cutOut x.w x.h x.slices j ref)) (Vbfaae.cutOut x.w x.h x.slices j ref),0,false):=by
        unfold Vbfaae.packed
        simp [hj]
       have hX2:=hX1.same s2
       have hlq:qs.length=j:=by
        have:=hX.len
        have e:(List.take j (Vbfaae.packed x ref).packets).length=j:=by rw [List.length_take];omega
        exact this.trans e
       refine⟨fun b ob hb hbn=> ?_,qs++[(n,o)],⟨?_,?_,?_,?_,?_⟩,?_,?_,_,_,rfl⟩
       . rw [aR hbn];exact s2 _ _ (s1 _ _ (hs b ob hb hbn))
       . obtain⟨d,e⟩:=hX2.ob
         refine⟨d,?_⟩
         rw [aR (qY e hX2.pl (by intro z;cases z))];exact e
       . rw [aR (fun e=>by have h1:=hX2.pk;have h2:=hX2.pl;exact npk e)];exact hX2.pk
       . rw [aO,List.map_append];rfl
       . rw [M.dX hjp,List.length_append,List.length_append];simp [hlq];omega
       . intro i q p hq hp
         rw [M.dX hjp] at hp
         have hjl:(List.take j (Vbfaae.packed x ref).packets).length=j:=by rw [List.length_take];omega
         by_cases hij:i<j
         . rw [List.getElem?_append_left (by omega)] at hq
           rw [List.getElem?_append_left (by omega)] at hp
           obtain⟨⟨d,f',e1,e3⟩,e2⟩:=hX2.ps i q p hq hp
           have m1:=hfr q (List.mem_of_getElem? hq)
           refine⟨⟨d,f',?_,e3⟩,?_⟩
           . rw [aR (qY e1 hX2.pl (by intro z;cases z))];exact e1
           . rw [aR (fun e=>by rw [e,hx.pl] at m1;cases m1.2)];exact e2
         . have hil:=(List.getElem?_eq_some_iff.mp hq).1
           rw [List.length_append] at hil
           simp only [List.length_cons,List.length_nil] at hil
           have hie:i=j:=by omega
           subst hie
           rw [List.getElem?_append_right (by omega)] at hq
           rw [List.getElem?_append_right (by omega)] at hp
           simp [hlq] at hq
           rw [hjl] at hp
           simp at hp
           subst hq hp
           exact⟨by
            obtain⟨d,f',e1,e3⟩:=hp2.ob
            exact⟨d,f',by rw [aR nn];exact e1,e3⟩,by rw [aR no_];exact hp2.oc⟩
       . intro q hq
         rcases List.mem_append.mp hq with h|h
         . exact hfr q h
         . rw [List.mem_singleton.mp h]
           have fr: ∀z,H1 z=none->z≠g.pl->H z=none:=fun z hz hne=>by
            cases e:H z with
            |none=>rfl
            |some ob=>
             have:=s1 _ _ (hs z ob e hne)
             rw [this] at hz;cases hz
           exact⟨fr n hn nn,fr o hno no_⟩
       . rw [List.flatMap_append]
         refine List.nodup_append.mpr ⟨hnd,?_,?_⟩
         . simp
           exact qY hp2.ob.choose_spec.choose_spec.1 hp2.oc (by intro z;cases z)
         . intro u hu w' hw' e
           subst e
           obtain⟨q,hq,hu⟩:=List.mem_flatMap.mp hu
           obtain⟨i,hi⟩:=List.getElem?_of_mem hq
           have hil:=(List.getElem?_eq_some_iff.mp hi).1
           obtain⟨p,hp⟩: ∃p,(List.take j (Vbfaae.packed x ref).packets)[i]? =some p:=⟨_,List.getElem?_eq_getElem (by rw [List.length_take];omega)⟩
           have hpk1:=hX1.ps i q p hi hp
           obtain⟨d,f',e1,e3⟩:=hpk1.ob
           have e2:=hpk1.oc
           simp at hu hw'
           rcases hu with rfl|rfl<;>rcases hw' with rfl|rfl
           . rw [e1] at hn;cases hn
           . rw [e1] at hno;cases hno
           . rw [e2] at hn;cases hn
           . rw [e2] at hno;cases hno
   . rintro σ H' ⟨hs,qs,hX,hfr,hnd,v2,v3,rfl⟩
     rw [List.take_of_length_le (by rw [hpk.1];exact Nat.le_refl _)] at hX
     exact k H' qs hs hX hfr hnd
inductive yO (a:Adr) (vs:List V) (H:Hp) (Q:VK):Prop|mk (o dx:Addr) (v0 v1:V) (z0:vs=[.ref o,v0,v1]) (z1:H o=some (.ins a.cReading dx [])) (z2: ∀H',H' o=some (.ins a.cReading dx (uC v0 v1))->(∀b ob,H b=some ob->b≠o->H' b=some ob)->Q .non H') def aAt (K:aA) (a:Adr):L2.Sp:=fun vs H Q _=>yO a vs H Q
theorem aAo:bA ["self","state","greys"] ["self","state","greys"] (aV oO):=by decide+kernel
theorem jL (T:Txt P w K mg a):OkM P w K mg base 1 a.cReading "__init__" ["self","state","greys"] (aAt K a):=by
 refine T.aCt.ok aAo (fun vs H Q E h=> ?_) (fun f cdv A outer s H vs Q E hr h=> ?_)
 . obtain⟨o,dx,v0,v1,rfl,_⟩:=h
   rfl
 . obtain⟨o,dx,v0,v1,rfl,ho,k⟩:=h
   refine⟨_,(aK (fC (pv 0) (pv 1) rfl) (aM (fC (pv 0) (pv 2) rfl))),?_⟩;symm
   refine⟨_,rfl,_,rfl,put T.eE ho (by simp) aIj ?_⟩
   refine⟨_,rfl,_,rfl,put T.eE aO (by simp) aIi ?_⟩
   exact k _ aO fun b ob hb hne=>by rw [aR hne,aR hne];exact hb
structure bNv (a:Adr) (H:Hp) (r rl:Addr) (res:Except Nat (List Nat)):Prop where
 ob: ∃dx,H r=some (.ins a.cReading dx (uC (.int (M.stOf res:Nat)) (.ref rl)))
 gr:H rl=some (.lst (ni ((M.aPf res).getD [])))
def bNa (a:Adr) (H:Hp) (Q:VK) (res:Except Nat (List Nat)):Prop:= ∀H' r rl,bJ H H'->H rl=none->bNv a H' r rl res->Q (.ref r) H'
inductive aJd (a:Adr) (vs:List V) (H:Hp) (Q:VK):Prop|mk (g:GS) (x:Vbfaae.Stream) (i:Nat) (o:Addr) (l:List Nat) (z0:vs=[.ref g.s,.int i,.ref o]) (z1:cZ a H g x) (z2:H o=some (.lst (ni l))) (z3:(∀b∈l,b<256)) (z4:l.length<=2000) (z5: ∀H',bJ H H'->Q (.int (match Vbfaae.modeIn x i l with|none=> -1|some m=>(m:Nat))) H') def aMg (K:aA) (a:Adr):L2.Sp:=fun vs H Q _=>aJd a vs H Q
theorem vI:bA ["stream","i","octets","mode"] ["stream","i","octets"] (aV vZ):=by decide+kernel
theorem vC (T:Txt P w K mg a):Ok P w K mg base 4 "fitting_mode" ["stream","i","octets"] (aMg K a):=by
 refine T.aNv.ok vI (fun vs H Q E h=> ?_) (fun f cdv A outer s H vs Q E hr h=> ?_)
 . obtain⟨g,x,i,o,l,rfl,_⟩:=h
   rfl
 . obtain⟨g,x,i,o,l,rfl,hx,ho,hb,hl,k⟩:=h
   have hu64:=hr.units
   refine⟨_,(aK (bR (bC dI (bL bH (by rfl) T.dC PySem.boot_len (aJ (pv 2) aL)) (bG cR (cA rfl T.mR) (cA rfl T.uD)) (bF _)) (aM (aU (yE qP aN))) bB) (aK (aZ (i:=3) vI.nd rfl (Or.inl rfl) (bZ bD (pv 2) (cA rfl T.aVt) (fun _ _=>rfl))) (aK (bR (PW.pt (kY (bC oM (pv 3) (cA rfl T.fH) (bF _)) (iK (PW.pt (rY (bC nG (pv 3) (cA rfl T.fH) (bF _)) (pB (bC nG (aX (pv 0) rfl) aN (bF _)))))))) (aM (aU (yE qP aN))) bB) (aK (bR (PW.pt (kY (bC (bOy hu64) (iU lV (pv 2) aAf (gH (cA rfl T.mR))) (aP (aTw T) hr (by decide) rfl (aJ (pv 0) (aJ (pv 1) (aJ (pv 3) aL)))) (bF _)) (iK (eU (cT (aP (aWk T) hr (by decide) rfl (aJ (pv 2) aL))))))) (aM (aU (yE qP aN))) bB) (aM (aU (pv 3))))))),?_⟩;symm
   obtain⟨dx,hs⟩:=hx.ob
   rw [M.aTt] at k
   refine⟨_,rfl,o,_,rfl,.inl (SqL.of ho),_,_,rfl,rfl,_,_,rfl,rfl,_,rfl,?_⟩
   dsimp only
   simp only [aC,aG]
   by_cases h1:l.length<14
   . rw [aD (by omega)]
     rw [aD h1] at k
     exact⟨_,rfl,k H (bJ.refl _)⟩
   . rw [aF (by omega)]
     rw [aF h1] at k
     have hm:l[4]? =some (l.getD 4 9):=by
      rw [List.getD_eq_getElem?_getD,List.getElem?_eq_getElem (by omega)];rfl
     generalize l.getD 4 9=m at*
     refine⟨_,rfl,o,_,_,_,rfl,rfl,SqL.of ho,jO (i:=4) rfl hm,?_⟩
     refine⟨_,rfl,_,_,rfl,rfl,_,rfl,?_⟩
     dsimp only
     simp only [aC]
     by_cases h2:5<m
     . rw [aD (by omega),aD trivial]
       rw [aD (.inl h2)] at k
       exact⟨_,rfl,k H (bJ.refl _)⟩
     . rw [aF (by omega)]
       refine⟨_,rfl,rfl,_,rfl,?_⟩
       simp only [aC,V.int.injEq]
       by_cases h5:m=5
       . rw [aD (by omega)]
         refine⟨_,rfl,_,_,_,_,_,rfl,hs,T.aQ.cl,T.aQ.no _ (by simp),dY,rfl,_,rfl,?_⟩
         simp only [aC,V.int.injEq]
         by_cases h0:x.ref=0
         . rw [aD (by omega)]
           rw [aD (.inr ⟨h5,h0⟩)] at k
           exact⟨_,rfl,k H (bJ.refl _)⟩
         . rw [aF (by omega)]
           rw [aF (by omega)] at k
           refine⟨_,rfl,_,rfl,o,_,rfl,SqL.of ho,fun c hc=> ?_⟩
           refine⟨_,rfl,_,rfl,_,rfl,g,x,i,m,rfl,hx.same (bY hc),fun H2 hd s2 n2 h2'=> ?_⟩
           have ec:oV (ni l) none (some ((10:Nat):Int))=ni (l.take 10):=by rw [aVb];simp [ni]
           refine bIz (l:=l.take 10) (SqL.of (s2 _ _ (by rw [aO];exact congrArg (fun z=>some (HO.lst z)) ec))) (SqL.of h2') ⟨_,rfl,?_⟩
           dsimp only
           have S2:=(bM (.lst (oV (ni l) none (some ((10:Nat):Int)))) hc).trans s2
           by_cases h3:l.take 10≠Vbfaae.headOf x i m
           . rw [aD h3] at k
             rw [aD (by simp [h3]),aD rfl]
             exact⟨_,rfl,k H2 S2⟩
           . rw [aF h3] at k
             rw [aF (by simp only [ne_eq,Decidable.not_not] at h3;simp [h3])]
             refine⟨_,rfl,o,l,rfl,S2 _ _ ho,hb,by omega,fun H4 s4=>⟨_,rfl,?_⟩⟩
             cases hz:Vbfaae.isSealed l with
             |false=>
              rw [aD hz] at k
              rw [aD (by rfl)]
              exact⟨_,rfl,k H4 (S2.trans s4)⟩
             |true=>
              rw [aF (by simp [hz])] at k
              rw [aF (by decide)]
              exact⟨_,rfl,k H4 (S2.trans s4)⟩
       . rw [aF (by omega),aF (by decide)]
         rw [aF (by omega)] at k
         refine⟨_,rfl,_,rfl,o,_,rfl,SqL.of ho,fun c hc=> ?_⟩
         refine⟨_,rfl,_,rfl,_,rfl,g,x,i,m,rfl,hx.same (bY hc),fun H2 hd s2 n2 h2'=> ?_⟩
         have ec:oV (ni l) none (some ((10:Nat):Int))=ni (l.take 10):=by rw [aVb];simp [ni]
         refine bIz (l:=l.take 10) (SqL.of (s2 _ _ (by rw [aO];exact congrArg (fun z=>some (HO.lst z)) ec))) (SqL.of h2') ⟨_,rfl,?_⟩
         dsimp only
         have S2:=(bM (.lst (oV (ni l) none (some ((10:Nat):Int)))) hc).trans s2
         by_cases h3:l.take 10≠Vbfaae.headOf x i m
         . rw [aD h3] at k
           rw [aD (by simp [h3]),aD rfl]
           exact⟨_,rfl,k H2 S2⟩
         . rw [aF h3] at k
           rw [aF (by simp only [ne_eq,Decidable.not_not] at h3;simp [h3])]
           refine⟨_,rfl,o,l,rfl,S2 _ _ ho,hb,by omega,fun H4 s4=>⟨_,rfl,?_⟩⟩
           cases hz:Vbfaae.isSealed l with
           |false=>
            rw [aD hz] at k
            rw [aD (by rfl)]
            exact⟨_,rfl,k H4 (S2.trans s4)⟩
           |true=>
            rw [aF (by simp [hz])] at k
            rw [aF (by decide)]
            exact⟨_,rfl,k H4 (S2.trans s4)⟩
theorem uH {α:Type} {f:α->V} {l:List α} {i:Nat} {y:V} (h:(l.map f)[i]? =some y): ∃n,l[i]? =some n/\y=f n:=by
 rw [List.getElem?_map] at h
 cases e:l[i]? with
 |none=>rw [e] at h;cases h
 |some n=>rw [e] at h;exact⟨n,rfl,(Option.some.inj h).symm⟩
inductive aJo (a:Adr) (vs:List V) (H:Hp) (Q:VK):Prop|mk (g:GS) (x:Vbfaae.Stream) (i:Nat) (r rl:Addr) (res:Except Nat (List Nat)) (z0:vs=[.ref g.s,.int i,.ref r]) (z1:cZ a H g x) (z2:M.lC x) (z3:i<x.slices) (z4:bNv a H r rl res) (z5:M.aYb res) (z6:(∀l,M.aPf res=some l->l.length=Vbfaae.countIn x i/\ ∀z∈l,z<1024)) (z7:bNa a H Q (M.cU x i (M.aPf res) x.packets 0)) def aMv (K:aA) (a:Adr):L2.Sp:=fun vs H Q _=>aJo a vs H Q
theorem eY:bA ["stream","i","reference_reading","state","packet","mode","octets","greys"] ["stream","i","reference_reading"] (aV wL):=by decide+kernel
theorem aLt (T:Txt P w K mg a):Ok P w K mg base 5 "read_packets" ["stream","i","reference_reading"] (aMv K a):=by
 refine T.aOg.ok eY (fun vs H Q E h=> ?_) (fun f cdv A outer s H vs Q E hr h=> ?_)
 . obtain⟨g,x,i,r,rl,res,rfl,_⟩:=h
   rfl
 . obtain⟨g,x,i,r,rl,res,rfl,hx,hk,hi,hrd,hro,hrl,k⟩:=h
   refine⟨_,(aK (aZ (i:=3) eY.nd rfl (Or.inl rfl) (cA rfl T.aJx)) (aK (lK PassesOwn.never rfl (lJ (aX (pv 0) rfl)) (cM (i:=4) eY.nd rfl (Or.inl rfl)) (aK (aZ (i:=5) eY.nd rfl (Or.inl rfl) (aP (vC T) hr (by decide) rfl (aJ (pv 0) (aJ (pv 1) (aJ (aX (pv 4) rfl) aL))))) (aM (bR (PW.pt (rY (bC nG (pv 5) (cA rfl T.fH) (bF _)) (pB (bC yC (aX (pv 2) rfl) (cA rfl T.bCi) (bF _))))) (aM (aZ (i:=3) eY.nd rfl (Or.inl rfl) (cA rfl T.bLg))) (aM (bR (bC pY (pv 5) aN (bF _)) (aK (aZ (i:=6) eY.nd rfl (Or.inl rfl) (iU lV (aX (pv 4) rfl) (gH (cA rfl T.mR)) (gH (bG dN (bL bH (by rfl) T.dC PySem.boot_len (aJ (aX (pv 4) rfl) aL)) (cA rfl T.uD))))) (aK (aZ (i:=7) eY.nd rfl (Or.inl rfl) (aP (bCw T) hr (by decide) rfl (aJ (pv 6) (aJ (aP (aBn T) hr (by decide) rfl (aJ (pv 0) (aJ (pv 1) aL))) (aJ (aX (pv 0) rfl) (aJ (pv 5) (aJ (aX (pv 2) rfl) aL))))))) (aM (bR (bC oM (bL bH (by rfl) T.dC PySem.boot_len (aJ (pv 7) aL)) aN (bF _)) (aM (aU (gU T.eE (jL T) hr (by decide) rfl (aJ (cA rfl T.bCi) (aJ (pv 7) aL))))) bB)))) bB)))))) (aM (aU (gU T.eE (jL T) hr (by decide) rfl (aJ (pv 3) (aJ (bU aL) aL))))))),?_⟩;symm
   obtain⟨dx,ho⟩:=hx.ob
   obtain⟨dr,hr1⟩:=hrd.ob
   have hsl:=hk.sl
   have hw:=hk.w
   have hcp:= @M.aUg x hk i
   have hcn:=M.aNm hk hi
   have hst:M.stOf res=2↔ ∃l,M.aPf res=some l:=by
    cases res with
    |ok l=>exact⟨fun _=>⟨l,rfl⟩,fun _=>rfl⟩
    |error e=>
     have:=hro e rfl
     exact⟨fun h=>by have:e=2:=h;omega,fun⟨l,h⟩=>by cases h⟩
   have hgr:=hrd.gr
   generalize M.aPf res=rr at*
   generalize M.stOf res=stt at*
   refine⟨_,rfl,_,_,_,_,_,rfl,ho,T.aQ.cl,T.aQ.no _ (by simp),bN,g.pl,rfl,⟨_,SqL.of hx.pl⟩,aOm (K:=K) (a:=g.pl) (xs:=g.qs.map fun q=>V.ref q.1) (fun j σ H'=>bJ H H'/\ ∃wt:Nat,wt<2/\M.cU x i rr x.packets 0=M.cU x i rr (x.packets.drop j) wt/\ ∃v4 v5 v6 v7,σ=[some (.ref g.s),some (.int i),some (.ref r),some (.int wt),v4,v5,v6,v7])
    ⟨bJ.refl _,0,by omega,rfl,_,_,_,_,rfl⟩ (fun j σ H' _ h=>SqL.of (h.1 _ _ hx.pl)) ?_ ?_⟩
   . rintro j y σ H' hj ⟨hs,wt,hwt,he,v4,v5,v6,v7,rfl⟩
     obtain⟨q,hq,rfl⟩:=uH hj
     have hjl:=(List.getElem?_eq_some_iff.mp hq).1
     obtain⟨p,hp⟩: ∃p,x.packets[j]? =some p:=⟨_,List.getElem?_eq_getElem (by rw [<-hx.len];exact hjl)⟩
     have hpk:=(hx.ps j q p hq hp).same hs
     obtain⟨dq,fq,hq1,_⟩:=hpk.ob
     have hoc:=hpk.oc
     have hpo:=hk.pkt p (List.mem_of_getElem? hp)
     rw [M.aVr hp,M.cU] at he
     refine⟨_,rfl,_,rfl,_,rfl,_,_,_,_,_,rfl,hq1,T.bT.cl,T.bT.no _ (by simp),cJ,g,x,i,q.2,p.1,rfl,hx.same hs,hoc,hpo.2.1,by have:=hpo.1;omega,fun H1 s1=> ?_⟩
     have S1:=hs.trans s1
     cases hmd:Vbfaae.modeIn x i p.1 with
     |none=>
      have hdc:M.decOf x i rr p.1=none:=by unfold M.decOf;rw [hmd];rfl
      rw [hdc] at he
      refine⟨_,rfl,rfl,_,rfl,?_⟩
      try dsimp only
      rw [aF (by decide),aF (by decide)]
      refine⟨_,rfl,_,_,rfl,rfl,_,rfl,?_⟩
      try dsimp only
      rw [aF (by decide)]
      exact⟨S1,wt,hwt,he,_,_,_,_,rfl⟩
     |some m=>
      have hmm:=M.aZv hmd
      refine⟨_,rfl,rfl,_,rfl,?_⟩
      simp only [aC,V.int.injEq]
      by_cases hm5:m=5
      . rw [aD (by omega)]
        refine⟨_,rfl,_,_,_,_,_,rfl,(S1 _ _ hr1),T.eE.cl,T.eE.no _ (by simp),sY,rfl,_,rfl,?_⟩
        try dsimp only
        cases rr with
        |none=>
         have h2: ¬stt=2:=fun e=>by obtain⟨l,h⟩:=hst.mp e;cases h
         rw [aD (by simp;omega)]
         have hdc:M.decOf x i none p.1=some (.error 1):=by
          unfold M.decOf;rw [hmd];simp [hm5]
         rw [hdc] at he
         exact⟨S1,1,by omega,he,_,_,_,_,rfl⟩
        |some r0=>
         have h2:stt=2:=hst.mpr ⟨r0,rfl⟩
         rw [aF (by simp;omega)]
         have hr0:=hrl r0 rfl
         obtain⟨rs,hrs1,hrs2,hrs3,hrs4⟩: ∃rs:List Nat,rs.length=Vbfaae.countIn x i/\(∀z∈rs,z<1024)/\(m=5->SqL K H rl (ni rs))/\M.decOf x i (some r0) p.1=some (match Vbfaae.decoded m x.w rs (Vbfaae.payload p.1) with|some l=> .ok l|none=> .error 0):=
          ⟨r0,hr0.1,hr0.2,fun _=>SqL.of hgr,by unfold M.decOf;rw [hmd];simp only [Option.map_some,aD hm5];subst hm5;rfl⟩
         refine⟨_,rfl,_,_,rfl,rfl,_,rfl,?_⟩
         try dsimp only
         rw [aD (by rw [aC];omega)]
         have hq2:=s1 _ _ hq1
         have hoc2:=s1 _ _ hoc
         refine⟨_,rfl,_,_,_,_,_,rfl,hq2,T.bT.cl,T.bT.no _ (by simp),cJ,_,rfl,_,rfl,_,_,_,_,_,rfl,hq2,T.bT.cl,T.bT.no _ (by simp),cJ,q.2,_,rfl,.inl (SqL.of hoc2),_,_,rfl,rfl,_,rfl,q.2,_,rfl,SqL.of hoc2,fun oc hnoc=> ?_⟩
         have epay:oV (ni p.1) (some ((10:Nat):Int)) (some (((ni p.1).length:Int)-4))=ni (Vbfaae.payload p.1):=by
          have e1:((ni p.1).length:Int)-4=((p.1.length-4:Nat):Int):=by rw [aG];omega
          rw [e1,sX]
          unfold Vbfaae.payload
          rw [ni,ni,List.map_take,List.map_drop]
          have e2:p.1.length-4-10=p.1.length-Vbfaae.HEAD-4:=by show _=p.1.length-10-4;omega
          rw [e2];rfl
         have S2:bJ H (upd H1 oc (.lst (ni (Vbfaae.payload p.1)))):=S1.trans (bM _ hnoc)
         have hocn:upd H1 oc (.lst (ni (Vbfaae.payload p.1))) oc=some (.lst (ni (Vbfaae.payload p.1))):=aO
         have hplen:(Vbfaae.payload p.1).length<=2000:=by
          unfold Vbfaae.payload
          rw [List.length_take,List.length_drop]
          have:=hpo.1
          omega
         rw [show oV (ni p.1) (some 10) (some (((ni p.1).length:Int)-4))=ni (Vbfaae.payload p.1) from epay]
         generalize upd H1 oc (.lst (ni (Vbfaae.payload p.1)))=H2 at*
         refine⟨_,rfl,_,rfl,_,rfl,g,x,i,rfl,hx.same S2,hk,by omega,_,rfl,_,_,_,_,_,rfl,(S2 _ _ ho),T.aQ.cl,T.aQ.no _ (by simp),cD,_,rfl,_,rfl,_,_,_,_,_,rfl,(S2 _ _ hr1),T.eE.cl,T.eE.no _ (by simp),mF,oc,Vbfaae.payload p.1,Vbfaae.countIn x i,x.w,m,rl,rs,rfl,SqL.of hocn,hplen,hrs1,hcn,by omega,hmm.1,fun h5=>S2.seq (hrs3 h5),hrs2,fun H3 gl s3 n3 h3=> ?_⟩
         have S3:=S2.trans s3
         refine⟨_,rfl,gl,_,rfl,.inl (SqL.of h3),_,_,rfl,rfl,_,rfl,?_⟩
         try dsimp only
         simp only [aC,aG]
         cases hdd:Vbfaae.decoded m x.w rs (Vbfaae.payload p.1) with
         |none=>
          rw [hdd] at hrs4
          rw [hrs4] at he
          rw [aF (by simp)]
          exact⟨S3,wt,hwt,he,_,_,_,_,rfl⟩
         |some l=>
          rw [hdd] at hrs4 h3
          rw [hrs4] at he
          have hll:=(M.uB hdd).1
          rw [aD (by show (0:Int)<((Option.getD (some l) []).length:Nat);simp;omega)]
          refine⟨_,rfl,fun n dn hn hdn hne=> ?_⟩
          refine⟨n,dn,_,_,rfl,aO,fun H5 h5 kp=>⟨rfl,?_⟩⟩
          have s5:=bJ.made hn hdn kp
          rw [he] at k
          exact k H5 n gl (S3.trans s5) (S2.free n3) ⟨⟨dn,h5⟩,s5 _ _ h3⟩
      . rw [aF (by omega),aF (by decide)]
        obtain⟨rs,hrs1,hrs2,hrs3,hrs4⟩: ∃rs:List Nat,rs.length=Vbfaae.countIn x i/\(∀z∈rs,z<1024)/\(m=5->SqL K H rl (ni rs))/\M.decOf x i rr p.1=some (match Vbfaae.decoded m x.w rs (Vbfaae.payload p.1) with|some l=> .ok l|none=> .error 0):=
         ⟨List.replicate (Vbfaae.countIn x i) 0,by simp,fun z hz=>by rw [(List.mem_replicate.mp hz).2];omega,fun h=>absurd h hm5,by unfold M.decOf;rw [hmd];simp only [Option.map_some,aF hm5];try rfl⟩
        refine⟨_,rfl,_,_,rfl,rfl,_,rfl,?_⟩
        try dsimp only
        rw [aD (by rw [aC];omega)]
        have hq2:=s1 _ _ hq1
        have hoc2:=s1 _ _ hoc
        refine⟨_,rfl,_,_,_,_,_,rfl,hq2,T.bT.cl,T.bT.no _ (by simp),cJ,_,rfl,_,rfl,_,_,_,_,_,rfl,hq2,T.bT.cl,T.bT.no _ (by simp),cJ,q.2,_,rfl,.inl (SqL.of hoc2),_,_,rfl,rfl,_,rfl,q.2,_,rfl,SqL.of hoc2,fun oc hnoc=> ?_⟩
        have epay:oV (ni p.1) (some ((10:Nat):Int)) (some (((ni p.1).length:Int)-4))=ni (Vbfaae.payload p.1):=by
         have e1:((ni p.1).length:Int)-4=((p.1.length-4:Nat):Int):=by rw [aG];omega
         rw [e1,sX]
         unfold Vbfaae.payload
         rw [ni,ni,List.map_take,List.map_drop]
         have e2:p.1.length-4-10=p.1.length-Vbfaae.HEAD-4:=by show _=p.1.length-10-4;omega
         rw [e2];rfl
        have S2:bJ H (upd H1 oc (.lst (ni (Vbfaae.payload p.1)))):=S1.trans (bM _ hnoc)
        have hocn:upd H1 oc (.lst (ni (Vbfaae.payload p.1))) oc=some (.lst (ni (Vbfaae.payload p.1))):=aO
        have hplen:(Vbfaae.payload p.1).length<=2000:=by
         unfold Vbfaae.payload
         rw [List.length_take,List.length_drop]
         have:=hpo.1
         omega
        rw [show oV (ni p.1) (some 10) (some (((ni p.1).length:Int)-4))=ni (Vbfaae.payload p.1) from epay]
        generalize upd H1 oc (.lst (ni (Vbfaae.payload p.1)))=H2 at*
        refine⟨_,rfl,_,rfl,_,rfl,g,x,i,rfl,hx.same S2,hk,by omega,_,rfl,_,_,_,_,_,rfl,(S2 _ _ ho),T.aQ.cl,T.aQ.no _ (by simp),cD,_,rfl,_,rfl,_,_,_,_,_,rfl,(S2 _ _ hr1),T.eE.cl,T.eE.no _ (by simp),mF,oc,Vbfaae.payload p.1,Vbfaae.countIn x i,x.w,m,rl,rs,rfl,SqL.of hocn,hplen,hrs1,hcn,by omega,hmm.1,fun h5=>S2.seq (hrs3 h5),hrs2,fun H3 gl s3 n3 h3=> ?_⟩
        have S3:=S2.trans s3
        refine⟨_,rfl,gl,_,rfl,.inl (SqL.of h3),_,_,rfl,rfl,_,rfl,?_⟩
        try dsimp only
        simp only [aC,aG]
        cases hdd:Vbfaae.decoded m x.w rs (Vbfaae.payload p.1) with
        |none=>
         rw [hdd] at hrs4
         rw [hrs4] at he
         rw [aF (by simp)]
         exact⟨S3,wt,hwt,he,_,_,_,_,rfl⟩
        |some l=>
         rw [hdd] at hrs4 h3
         rw [hrs4] at he
         have hll:=(M.uB hdd).1
         rw [aD (by show (0:Int)<((Option.getD (some l) []).length:Nat);simp;omega)]
         refine⟨_,rfl,fun n dn hn hdn hne=> ?_⟩
         refine⟨n,dn,_,_,rfl,aO,fun H5 h5 kp=>⟨rfl,?_⟩⟩
         have s5:=bJ.made hn hdn kp
         rw [he] at k
         exact k H5 n gl (S3.trans s5) (S2.free n3) ⟨⟨dn,h5⟩,s5 _ _ h3⟩
   . rintro σ H' ⟨hs,wt,hwt,he,v4,v5,v6,v7,rfl⟩
     rw [aG,hx.len,List.drop_length] at he
     refine⟨_,rfl,Nat.zero_le _,fun gl hgl=> ?_⟩
     intro n dn hn hdn hne
     refine⟨n,dn,_,_,rfl,aO,fun H5 h5 kp=>⟨rfl,?_⟩⟩
     have s5:=bJ.made hn hdn kp
     rw [he] at k
     exact k H5 n gl ((hs.trans (bM _ hgl)).trans s5) (hs.free hgl) ⟨⟨dn,h5⟩,s5 _ _ aO⟩
theorem aNd {X:Cx} {K:aA} {e:Expr} {f:Str} {pos:Pos} {ta:TE} (hK:X.K=K) (he:PE X e ta) (hb:attributeBase e f X.env (eval e X.env)=eval e X.env):PE X (.Attribute e f pos) (bPq K ta f):=hK ▸ aX he hb
theorem aBa {X:Cx} {K:aA} (hK:X.K=K):sH X (.builtin "len") (fun xs H Q=> ∃p ys,xs=[.ref p]/\(SqL K H p ys\/SqT K H p ys)/\Q (.int ys.length) H):=hK ▸ bH
structure nU (a:Adr) (H:Hp) (ds:Addr) (gs:Nat->GS) (st:aB):Prop where
 di: ∃kvs,H ds=some (.dK kvs)/\kvs.length=st.streams.length/\ ∀k:Nat,dO kvs (Sum.inl (k:Int))=(Vbfaae.streamAt st k).map fun _=>V.ref (gs k).s
 at_: ∀k x,Vbfaae.streamAt st k=some x->cZ a H (gs k) x
theorem nU.same {a:Adr} {H H':Hp} {ds:Addr} {gs:Nat->GS} {st:aB} (h:nU a H ds gs st) (e:bJ H H'):nU a H' ds gs st:=by
 obtain⟨⟨kvs,h1,h2⟩,h3⟩:=h
 exact⟨⟨kvs,e _ _ h1,h2⟩,fun k x hx=>(h3 k x hx).same e⟩
theorem aHk {c:TT} {tb:TS} {D:Ends} {σ:L2.St} {H:Hp} (W:Nat->L2.St->Hp->Prop) (m:Nat) (h0:W m σ H)
 (hs: ∀m σ H,W m σ H->c σ H fun b H1=>if b=true then∃N:L2.St->Hp->Prop,(∀σ' H',N σ' H'-> ∃m',m'<m/\W m' σ' H')/\tb {D with nx:=N,ct:=N,bk:=D.nx} σ H1 else D.nx σ H1):bDs c tb D σ H:=
 ⟨W,⟨m,h0⟩,hs⟩
def bBm (a:Adr) (H:Hp) (ds:Addr) (gs:Nat->GS) (st:aB) (ρ:Nat->Nat) (x:Vbfaae.Stream) (cl:Addr):Nat->L2.St->Hp->Prop:=fun m σ H'=>
 bJ H H'/\ ∃(d:List Vbfaae.Stream) (link:V) (v4:Option V),H' cl=some (.lst (d.map fun y=>V.ref (gs y.key).s))/\d.length+m<=7/\σ=[some (.ref ds),some (.ref (gs x.key).s),some (.ref cl),some link,v4]/\
  ((∃y,y∈st.streams/\link= .ref (gs y.key).s/\m=M.below st ρ y.key+1/\ ∀l,M.iM st y l->M.iM st x (d++l))\/(link= .non/\M.iM st x d))
inductive aAz (a:Adr) (vs:List V) (H:Hp) (Q:VK):Prop|mk (ds:Addr) (gs:Nat->GS) (st:aB) (x:Vbfaae.Stream) (z0:vs=[.ref ds,.ref (gs x.key).s]) (z1:nU a H ds gs st) (z2:M.bO st) (z3:x∈st.streams) (z4: ∀H' p l,bJ H H'->M.iM st x l->l.length<=7->H' p=some (.lst (l.map fun y=>V.ref (gs y.key).s))->Q (.ref p) H') def aDw (K:aA) (a:Adr):L2.Sp:=fun vs H Q _=>aAz a vs H Q
theorem eN:bA ["streams","stream","chain","link","following"] ["streams","stream"] (aV qO):=by decide+kernel
theorem aDa (T:Txt P w K mg a):Ok P w K mg base 1 "reference_chain" ["streams","stream"] (aDw K a):=by
 refine T.aEh.ok eN (fun vs H Q E h=> ?_) (fun f cdv A outer s H vs Q E hr h=> ?_)
 . obtain⟨ds,gs,st,x,rfl,_⟩:=h
   rfl
 . obtain⟨ds,gs,st,x,rfl,hS,ok,hx,k⟩:=h
   have hu:=fO hr
   refine⟨_,(aK (aZ (i:=2) eN.nd rfl (Or.inl rfl) (bU aL)) (aK (aZ (i:=3) eN.nd rfl (Or.inl rfl) (pv 1)) (aK (tL PassesOwn.never (aDc (bFa (pv 3))) (aK (fB (rB PySem.F.plainAttrs_list PySem.F.slot_list_append PySem.F.type_list_append mK (pv 2) (aJ (pv 3) aL))) (aK (aZ (i:=4) eN.nd rfl (Or.inl rfl) (bAe hu (pv 0) (aX (pv 3) rfl) ⟨rfl,rfl,rfl,rfl⟩)) (aK (bR (PW.pt (rY (aDc (bFa (pv 4))) (pB (bC yC (aX (pv 4) rfl) (aX (pv 3) rfl) (bF _))))) (aM (aZ (i:=4) eN.nd rfl (Or.inl rfl) bOz)) bB) (aM (aZ (i:=3) eN.nd rfl (Or.inl rfl) (pv 4))))))) (aM (aU (pv 2)))))),?_⟩;symm
   obtain⟨ρ,hρ⟩:=ok.rank
   have hxa:Vbfaae.streamAt st x.key=some x:=ok.at_.mpr ⟨hx,rfl⟩
   refine⟨Nat.zero_le _,fun cl hcl=> ?_⟩
   refine⟨_,rfl,?_⟩
   refine aHk (bBm a H ds gs st ρ x cl) (M.below st ρ x.key+1) ⟨bY hcl,[],_,_,aO,?_,rfl,.inl ⟨x,hx,rfl,rfl,fun l h=>h⟩⟩ ?_
   . have h1:=M.aEb ok hρ hxa
     have h2:=ok.ns
     simp;omega
   rintro m σ H' ⟨hs,d,link,v4,hd,hdm,rfl,hc⟩
   refine⟨_,rfl,_,rfl,?_⟩
   rcases hc with⟨y,hy,rfl,rfl,hch⟩|⟨rfl,hch⟩
   . rw [aD (by simp)]
     have hya:Vbfaae.streamAt st y.key=some y:=ok.at_.mpr ⟨hy,rfl⟩
     have hYs:=(hS.at_ _ _ hya).same hs
     obtain⟨dy,hyo⟩:=hYs.ob
     obtain⟨kvs,hds,hkl,hkv⟩:=hS.di
     have hds':=hs _ _ hds
     refine⟨fun σ' H1=> ∃m',m'<M.below st ρ y.key+1/\bBm a H ds gs st ρ x cl m' σ' H1,fun σ' H1 h=>h,?_⟩
     refine⟨_,rfl,.inl ⟨rfl,_,SqL.of hd⟩,_,rfl,cl,_,_,rfl,rfl,hd,Nat.lt_of_lt_of_le (by rw [aG];omega) (by decide:1000<=sizeLine),?_⟩
     have hnc: ∀b ob,H' b=some ob->(∀z,ob≠ .lst z)->b≠cl:=fun b ob hb hz e=>by rw [e,hd] at hb;cases hb;exact hz _ rfl
     have S2:bJ H (upd H' cl (.lst ((d.map fun y=>V.ref (gs y.key).s)++[.ref (gs y.key).s]))):=gY hcl hs
     have hd2:upd H' cl (.lst ((d.map fun y=>V.ref (gs y.key).s)++[.ref (gs y.key).s])) cl=some (.lst ((d++[y]).map fun y=>V.ref (gs y.key).s)):=by rw [aO];simp
     generalize upd H' cl (.lst ((d.map fun y=>V.ref (gs y.key).s)++[.ref (gs y.key).s]))=H2 at*
     have hds2:=S2 _ _ hds
     have hy2:=(hS.at_ _ _ hya).same S2
     obtain⟨dy2,hyo2⟩:=hy2.ob
     refine⟨_,rfl,ds,rfl,.inl ⟨_,.inl hds2⟩,_,rfl,_,_,_,_,_,rfl,hyo2,T.aQ.cl,T.aQ.no _ (by simp),dY,_,wN.k (k:=Sum.inl (y.ref:Int)) hds2,?_⟩
     rw [hkv y.ref]
     have stop:M.nextOf st y=none->M.iM st x (d++[y]):=fun h=>hch _ (.last h)
     cases hz:Vbfaae.streamAt st y.ref with
     |none=>
      refine⟨_,rfl,_,rfl,?_⟩
      try dsimp only [Option.map,Option.getD]
      rw [aF (by simp),aF (by decide)]
      refine⟨_,rfl,0,by omega,S2,d++[y],_,_,hd2,by simp;omega,rfl,.inr ⟨rfl,stop (by unfold M.nextOf;rw [hz])⟩⟩
     |some z=>
      have hz2:=(hS.at_ _ _ hz).same S2
      obtain⟨dz,hzo⟩:=hz2.ob
      obtain⟨hzm,hzk⟩:=ok.at_.mp hz
      refine⟨_,rfl,_,rfl,?_⟩
      try dsimp only [Option.map,Option.getD]
      rw [aD (by simp)]
      refine⟨_,rfl,_,_,_,_,_,rfl,hzo,T.aQ.cl,T.aQ.no _ (by simp),jT,_,rfl,_,_,_,_,_,rfl,hyo2,T.aQ.cl,T.aQ.no _ (by simp),fV,rfl,_,rfl,?_⟩
      try dsimp only
      by_cases hst:z.stamp≠y.refStamp
      . rw [aD (by simp;exact_mod_cast hst)]
        refine⟨_,rfl,0,by omega,S2,d++[y],_,_,hd2,by simp;omega,rfl,.inr ⟨rfl,stop (by unfold M.nextOf;rw [hz];simp [hst])⟩⟩
      . have hst':z.stamp=y.refStamp:=by simpa using hst
        rw [aF (by simp [hst'])]
        have hr:y.ref≠0:=by have:=(ok.sOk z hzm).key;omega
        have hb:=M.sS ok hρ hya hr
        have hnx:M.nextOf st y=some z:=by unfold M.nextOf;rw [hz];simp [hst']
        refine⟨_,rfl,M.below st ρ z.key+1,by rw [hzk];omega,S2,d++[y],_,_,hd2,by rw [hzk];simp;omega,rfl,.inl ⟨z,hzm,by rw [hzk],rfl,fun l hl=> ?_⟩⟩
        rw [List.append_assoc]
        exact hch _ (.cons hnx hl)
   . rw [aF (by simp)]
     exact⟨_,rfl,k H' cl d hs hch (by omega) hd⟩
theorem bLd {K:aA} {q:Addr} {xs:List V} {g:TG} {tb:TS} {D:Ends} {σ:L2.St} {H:Hp} (Pv:Nat->L2.St->Hp->Prop) (h0:Pv 0 σ H) (hl: ∀i σ H,i<=xs.length->Pv i σ H->SqL K H q xs)
 (hs: ∀(i:Nat) x σ H,i<xs.length->xs[xs.length-1-i]? =some x->Pv i σ H->g x σ H fun σ2 H2=>tb {D with nx:=Pv (i+1),ct:=Pv (i+1),bk:=D.nx} σ2 H2) (hd: ∀σ H,Pv xs.length σ H->D.nx σ H):
 ∃W:Nat->Nat->L2.St->Hp->Prop,(∃m,W 0 m σ H)/\ ∀i m σ H,W i m σ H->
  ((Itv K q xs.length).stop i H/\D.nx σ H)\/((Itv K q xs.length).go i H/\ ∃N:L2.St->Hp->Prop,(∀σ' H',N σ' H'-> ∃m',m'<m/\W (i+1) m' σ' H')/\ ∀x H',(Itv K q xs.length).yld i H x H'->g x σ H' fun σ2 H2=>tb {D with nx:=N,ct:=N,bk:=D.nx} σ2 H2):=by
 refine⟨fun i m σ H=>m=xs.length-i/\i<=xs.length/\Pv i σ H,⟨xs.length,by simp,Nat.zero_le _,h0⟩,?_⟩
 rintro i m σ H ⟨rfl,hi,p⟩
 have q':=hl i σ H hi p
 by_cases hlt:i<xs.length
 . refine .inr ⟨⟨hlt,xs,xs[xs.length-1-i],q',List.getElem?_eq_getElem (by omega)⟩,Pv (i+1),fun σ' H' p'=>⟨xs.length-(i+1),by omega,rfl,hlt,p'⟩,fun x H' y=> ?_⟩
   obtain⟨rfl,hz⟩:=y
   exact hs i x σ _ hlt (hz xs q') p
 . have e:i=xs.length:=by omega
   subst e
   exact .inl ⟨Nat.le_refl _,hd σ H p⟩
inductive aQo (a:Adr) (vs:List V) (H:Hp) (Q:VK):Prop|mk (ds:Addr) (gs:Nat->GS) (st:aB) (x:Vbfaae.Stream) (i:Nat) (z0:vs=[.ref ds,.ref (gs x.key).s,.int i]) (z1:nU a H ds gs st) (z2:M.bO st) (z3:x∈st.streams) (z4:i<x.slices) (z5:bNa a H Q (Vbfaae.readSlice st 7 x i)) def aSs (K:aA) (a:Adr):L2.Sp:=fun vs H Q _=>aQo a vs H Q
theorem mV:bA ["streams","stream","i","reading","link"] ["streams","stream","i"] (aV aCh):=by decide+kernel
theorem aBm (T:Txt P w K mg a):Ok P w K mg base 6 "read_slice" ["streams","stream","i"] (aSs K a):=by
 refine T.aVo.ok mV (fun vs H Q E h=> ?_) (fun f cdv A outer s H vs Q E hr h=> ?_)
 . obtain⟨ds,gs,st,x,i,rfl,_⟩:=h
   rfl
 . obtain⟨ds,gs,st,x,i,rfl,hS,ok,hx,hi,k⟩:=h
   refine⟨_,(aK (aZ (i:=3) mV.nd rfl (Or.inl rfl) (gU T.eE (jL T) hr (by decide) rfl (aJ (cA rfl T.aJx) (aJ (bU aL) aL)))) (aK (lK PassesOwn.never rfl (bAh rfl T.aOy (aJ (aP (aDa T) hr (by decide) rfl (aJ (pv 0) (aJ (pv 1) aL))) aL)) (cM (i:=4) mV.nd rfl (Or.inl rfl)) (aM (aZ (i:=3) mV.nd rfl (Or.inl rfl) (aP (aLt T) hr (by decide) rfl (aJ (pv 4) (aJ (pv 2) (aJ (pv 3) aL))))))) (aM (aU (pv 3))))),?_⟩;symm
   refine⟨Nat.zero_le _,fun el hel=> ?_⟩
   intro n dn hn hdn hne
   refine⟨n,dn,_,_,rfl,aO,fun H1 h1 kp=>⟨rfl,?_⟩⟩
   have s1:=bJ.made hn hdn kp
   have S1:=(bM (.lst []) hel).trans s1
   have hel1:=s1 _ _ (@aO H el (.lst []))
   refine⟨_,rfl,_,rfl,ds,gs,st,x,rfl,hS.same S1,ok,hx,fun H2 p l s2 hc hl h2=> ?_⟩
   have S2:=S1.trans s2
   refine⟨p,_,rfl,SqL.of h2,bLd (K:=K) (q:=p) (xs:=l.map fun(y:Vbfaae.Stream)=>V.ref (gs y.key).s) (fun j σ H'=>bJ H2 H'/\ ∃(r rl:Addr) (res:Except Nat (List Nat)),H rl=none/\bNv a H' r rl res/\M.aYb res/\(j=0->res= .error 0)/\(∀y,l[l.length-j]? =some y->res=Vbfaae.readSlice st 7 y i)/\ ∃v4,σ=[some (.ref ds),some (.ref (gs x.key).s),some (.int i),some (.ref r),v4])
    ⟨bJ.refl _,n,el,.error 0,hel,⟨⟨dn,s2 _ _ h1⟩,s2 _ _ hel1⟩,fun e h=>by cases h;omega,fun _=>rfl,fun y hy=>by simp at hy,_,rfl⟩ (fun j σ H' _ h=>SqL.of (h.1 _ _ h2)) ?_ ?_⟩
   . rintro j yv σ H' hjl hj ⟨hs,r,rl,res,hrln,hrd,hro,hj0,hjy,v4,rfl⟩
     rw [aG] at hjl hj
     obtain⟨y,hy,rfl⟩:=uH hj
     have hym:=hc.mem ok hx y (List.mem_of_getElem? hy)
     have hya:Vbfaae.streamAt st y.key=some y:=ok.at_.mpr ⟨hym.1,rfl⟩
     have SS:=S2.trans hs
     have hg:=hc.get _ y hy
     have ej:l.length-1-j+1=l.length-j:=by omega
     rw [ej] at hg
     have href:M.aPf res=M.refOf st y i:=by
      rw [M.bJq]
      cases hz:l[l.length-j]? with
      |none=>
       rw [hg.1 hz]
       have:j=0:=by
        rcases Nat.eq_zero_or_pos j with e|e
        . exact e
        . rw [List.getElem?_eq_getElem (by omega)] at hz;cases hz
       rw [hj0 this];rfl
      |some z=>
       rw [hg.2 z hz,hjy z hz];rfl
     have hsl:y.slices=x.slices:=hym.2.2.2.symm
     refine⟨_,rfl,_,rfl,_,rfl,gs y.key,y,i,r,rl,res,rfl,(hS.at_ _ _ hya).same SS,ok.sOk y hym.1,by omega,hrd,hro,fun l' hl'=> ?_,fun H3 r3 rl3 s3 nrl3 hrd3=> ?_⟩
     . rw [href] at hl'
       exact M.bJr ok hym.1 hl'
     . rw [href,<-M.aWw ok hym.1] at hrd3
       refine⟨hs.trans s3,r3,rl3,_,SS.free nrl3,hrd3,?_,fun h=>by omega,fun z hz=> ?_,_,rfl⟩
       . rw [M.aWw ok hym.1];exact M.jN _ _ (by omega)
       . have:l.length-(j+1)=l.length-1-j:=by omega
         rw [this,hy] at hz
         cases hz;rfl
   . rintro σ H' ⟨hs,r,rl,res,hrln,hrd,hro,hj0,hjy,v4,rfl⟩
     rw [aG,Nat.sub_self] at hjy
     have h0:l[0]? =some x:=by
      have:=hc.head
      rw [List.head?_eq_getElem?] at this
      exact this
     rw [hjy x h0] at hrd
     exact⟨_,rfl,k H' r rl (S2.trans hs) hrln hrd⟩
inductive aJr (a:Adr) (vs:List V) (H:Hp) (Q:VK):Prop|mk (ds:Addr) (gs:Nat->GS) (st:aB) (x:Vbfaae.Stream) (z0:vs=[.ref ds,.ref (gs x.key).s]) (z1:nU a H ds gs st) (z2:M.bO st) (z3:x∈st.streams) (z4:sI H Q (ni ((Vbfaae.slicesRead st x).map M.stOf))) def aMw (K:aA) (a:Adr):L2.Sp:=fun vs H Q _=>aJr a vs H Q
theorem oK:bA ["streams","stream","i"] ["streams","stream"] (aV wM):=by decide+kernel
theorem vG (T:Txt P w K mg a):Ok P w K mg base 7 "slice_states" ["streams","stream"] (aMw K a):=by
 refine T.aOh.ok oK (fun vs H Q E h=> ?_) (fun f cdv A outer s H vs Q E hr h=> ?_)
 . obtain⟨ds,gs,st,x,rfl,_⟩:=h
   rfl
 . obtain⟨ds,gs,st,x,rfl,hS,ok,hx,k⟩:=h
   refine⟨_,(aM (aU (tK (own:=[("i",2)]) rfl oK.nd (jF rfl T.jV (aJ (aX (pv 1) rfl) aL)) (eZ (by rfl)) (fun _ _ _ _ _=>(cM (i:=2) oK.nd rfl (Or.inl rfl))) (fun _ _ _ _ _=>iQ) (fun _ _ _ _ _=>(aNd (K:=K) rfl (aP (aBm T) hr (by decide) rfl (aJ (pv 0) (aJ (pv 1) (aJ (pv 2) aL)))) rfl))))),?_⟩;symm
   have hxa:Vbfaae.streamAt st x.key=some x:=ok.at_.mpr ⟨hx,rfl⟩
   obtain⟨dx,ho⟩:=(hS.at_ _ _ hxa).ob
   have hsl:=(ok.sOk x hx).sl
   refine⟨_,rfl,_,_,_,_,_,rfl,ho,T.aQ.cl,T.aQ.no _ (by simp),dG,x.slices,rfl,by omega,by omega,fun D hD=> ?_⟩
   refine aIa (lo:=0) (n:=x.slices) (ys:=ni ((Vbfaae.slicesRead st x).map M.stOf)) hD (by simp [Vbfaae.slicesRead];exact cF (by omega)) (by simp [Vbfaae.slicesRead]) (fun i y hi hy H2 Kt Al hs hk=> ?_) (fun H2 hs h2=>k _ _ hs hD h2)
   unfold Vbfaae.slicesRead at hy
   simp [hi] at hy
   subst hy
   rw [Int.zero_add]
   refine⟨rfl,?_⟩
   refine⟨_,rfl,_,rfl,_,rfl,ds,gs,st,x,i,rfl,hS.same hs,ok,hx,hi,fun H4 r rl s4 _ hrd=> ?_⟩
   obtain⟨dr,hr⟩:=hrd.ob
   exact⟨_,_,_,_,_,rfl,hr,T.eE.cl,T.eE.no _ (by simp),sY,hk _ s4⟩
theorem aWs {X:Cx} {K:aA} {es:List Expr} {k:Nat} {t:TGs} {n:Nat} {pos:Pos} (hK:X.K=K) (hc:X.calm=true) (h:PGs X es t)
 (hn:(assignEach es X.env).length=n:=by rfl) (hst:(assignEach es X.env).findIdx? (·.1)=none:=by rfl):PG X (.Tuple es k pos) (bQj K n t):=hK ▸ aWr hc h hn hst
structure rO (H:Hp) (r:Addr) (as:List Addr) (rows:List (Option (List Nat))):Prop where
 li:H r=some (.lst (as.map V.ref))
 len:as.length=rows.length
 at_: ∀(j:Nat) ad row,as[j]? =some ad->rows[j]? =some row->H ad=some (.lst (ni (row.getD [])))
theorem rO.same {H H':Hp} {r:Addr} {as:List Addr} {rows:List (Option (List Nat))} (h:rO H r as rows) (e:bJ H H'):rO H' r as rows:=⟨e _ _ h.li,h.len,fun j ad row h1 h2=>e _ _ (h.at_ j ad row h1 h2)⟩
theorem rO.get {H:Hp} {r:Addr} {as:List Addr} {rows:List (Option (List Nat))} (h:rO H r as rows) {j:Nat} {row:Option (List Nat)} (hj:rows[j]? =some row): ∃ad,as[j]? =some ad/\(as.map V.ref)[j]? =some (.ref ad)/\H ad=some (.lst (ni (row.getD []))):=by
 have hl:=(List.getElem?_eq_some_iff.mp hj).1
 have:j<as.length:=by rw [h.len];exact hl
 refine⟨as[j],List.getElem?_eq_getElem this,by rw [List.getElem?_map,List.getElem?_eq_getElem this];rfl,h.at_ j _ row (List.getElem?_eq_getElem this) hj⟩
theorem aOn {lo:Int} {n n':Nat} {g:TG} {tb:TS} {D:Ends} {σ:L2.St} {H:Hp} (hn:n'=n) (Pv:Nat->L2.St->Hp->Prop) (h0:Pv 0 σ H)
 (hs: ∀i σ H,i<n->Pv i σ H->g (.int (lo+i)) σ H fun σ2 H2=>tb {D with nx:=Pv (i+1),ct:=Pv (i+1),bk:=D.nx} σ2 H2) (hd: ∀σ H,Pv n σ H->D.nx σ H):
 ∃W:Nat->Nat->L2.St->Hp->Prop,(∃m,W 0 m σ H)/\ ∀i m σ H,W i m σ H->
  ((Itr lo n').stop i H/\D.nx σ H)\/((Itr lo n').go i H/\ ∃N:L2.St->Hp->Prop,(∀σ' H',N σ' H'-> ∃m',m'<m/\W (i+1) m' σ' H')/\ ∀x H',(Itr lo n').yld i H x H'->g x σ H' fun σ2 H2=>tb {D with nx:=N,ct:=N,bk:=D.nx} σ2 H2):=by
 subst hn
 exact mH Pv h0 hs hd
inductive aSr (a:Adr) (vs:List V) (H:Hp) (Q:VK):Prop|mk (ds:Addr) (gs:Nat->GS) (st:aB) (x:Vbfaae.Stream) (z0:vs=[.ref ds,.ref (gs x.key).s]) (z1:nU a H ds gs st) (z2:M.bO st) (z3:x∈st.streams) (z4: ∀H' r as,bJ H H'->rO H' r as (Vbfaae.rowsRead st x)->Q (.ref r) H') def aXm (K:aA) (a:Adr):L2.Sp:=fun vs H Q _=>aSr a vs H Q
theorem lU:bA ["streams","stream","rows","i","greys","y"] ["streams","stream"] (aV aHe):=by decide+kernel
theorem aWn (T:Txt P w K mg a):Ok P w K mg base 7 "read_rows" ["streams","stream"] (aXm K a):=by
 refine T.aYz.ok lU (fun vs H Q E h=> ?_) (fun f cdv A outer s H vs Q E hr h=> ?_)
 . obtain⟨ds,gs,st,x,rfl,_⟩:=h
   rfl
 . obtain⟨ds,gs,st,x,rfl,hS,ok,hx,k⟩:=h
   refine⟨_,(aK (aZ (i:=2) lU.nd rfl (Or.inl rfl) (bU aL)) (aK (lK PassesOwn.never rfl (jF rfl T.jV (aJ (aX (pv 1) rfl) aL)) (cM (i:=3) lU.nd rfl (Or.inl rfl)) (aK (aZ (i:=4) lU.nd rfl (Or.inl rfl) (aX (aP (aBm T) hr (by decide) rfl (aJ (pv 0) (aJ (pv 1) (aJ (pv 3) aL)))) rfl)) (aM (lK PassesOwn.never rfl (jF rfl T.jV (aJ (bG dN (aP (lG T) hr (by decide) rfl (aJ (pv 1) (aJ (bG cR (pv 3) aN) aL))) (aP (lG T) hr (by decide) rfl (aJ (pv 1) (aJ (pv 3) aL)))) aL)) (cM (i:=5) lU.nd rfl (Or.inl rfl)) (aM (fB (rB PySem.F.plainAttrs_list PySem.F.slot_list_append PySem.F.type_list_append mK (pv 2) (aJ (iU lV (pv 4) (gH (bG lH (pv 5) (aX (pv 1) rfl))) (gH (bG lH (bG cR (pv 5) aN) (aX (pv 1) rfl)))) aL)))))))) (aM (aU (pv 2))))),?_⟩;symm
   have hxa:Vbfaae.streamAt st x.key=some x:=ok.at_.mpr ⟨hx,rfl⟩
   have hk:=ok.sOk x hx
   have hsl:=hk.sl
   have hw:=hk.w
   obtain⟨dx,ho⟩:=(hS.at_ _ _ hxa).ob
   rw [M.aKj] at k
   refine⟨Nat.zero_le _,fun r hr=> ?_⟩
   refine⟨_,rfl,_,_,_,_,_,rfl,(cI hr ho),T.aQ.cl,T.aQ.no _ (by simp),dG,x.slices,rfl,by omega,by omega,mH (n:=x.slices) (fun i σ H'=>bJ H H'/\ ∃as,rO H' r as ((List.range i).flatMap fun i=>M.rowsOf x i (Vbfaae.readSlice st 7 x i))/\(∀ad∈as,ad≠r)/\ ∃v3 v4 v5,σ=[some (.ref ds),some (.ref (gs x.key).s),some (.ref r),v3,v4,v5])
    ⟨bY hr,[],⟨aO,rfl,fun j ad row h=>by simp at h⟩,by simp,_,_,_,rfl⟩ ?_ ?_⟩
   . rintro i σ H' hi ⟨hs,as,hR,hna,v3,v4,v5,rfl⟩
     rw [Int.zero_add]
     refine⟨_,rfl,_,rfl,_,rfl,ds,gs,st,x,i,rfl,hS.same hs,ok,hx,hi,fun H1 rd rl s1 nrl hrd=> ?_⟩
     obtain⟨dr,hrd1⟩:=hrd.ob
     refine⟨_,_,_,_,_,rfl,hrd1,T.eE.cl,T.eE.no _ (by simp),mF,?_⟩
     have S1:=hs.trans s1
     have hx1:=(hS.at_ _ _ hxa).same S1
     have hm:= @M.mL x.h x.slices i (i+1) (by omega)
     refine⟨_,rfl,_,rfl,_,_,rfl,rfl,gs x.key,x,i+1,rfl,hx1,hsl.1,hsl.2.1,by omega,?_⟩
     refine⟨_,rfl,_,rfl,gs x.key,x,i,rfl,hx1,hsl.1,hsl.2.1,by omega,?_⟩
     have hle:= @M.mL x.h x.slices (i+1) x.slices (by omega)
     rw [M.aDe hsl.1] at hle
     have hh:=hk.h
     have en:((Vbfaae.rowOf x.h x.slices (i+1):Nat):Int)-(Vbfaae.rowOf x.h x.slices i:Nat)=((Vbfaae.rowOf x.h x.slices (i+1)-Vbfaae.rowOf x.h x.slices i:Nat):Int):=by omega
     have hRl:=M.yI x (fun i=>Vbfaae.readSlice st 7 x i) i
     have hol:= @M.aBp x i (Vbfaae.readSlice st 7 x i)
     have hgr:=hrd.gr
     have hget:=fun j (hj:j<Vbfaae.rowOf x.h x.slices (i+1)-Vbfaae.rowOf x.h x.slices i)=> @M.bDc x i j (Vbfaae.readSlice st 7 x i) hj
     have efl:(List.range (i+1)).flatMap (fun i=>M.rowsOf x i (Vbfaae.readSlice st 7 x i))=(List.range i).flatMap (fun i=>M.rowsOf x i (Vbfaae.readSlice st 7 x i))++M.rowsOf x i (Vbfaae.readSlice st 7 x i):=by
      rw [List.range_succ,List.flatMap_append];simp
     generalize (List.range i).flatMap (fun i=>M.rowsOf x i (Vbfaae.readSlice st 7 x i))=R0 at hR hRl efl
     generalize M.rowsOf x i (Vbfaae.readSlice st 7 x i)=R1 at hol hget efl
     generalize (M.aPf (Vbfaae.readSlice st 7 x i)).getD []=gv at hgr hget
     obtain⟨nn,hnn⟩: ∃nn,nn=Vbfaae.rowOf x.h x.slices (i+1)-Vbfaae.rowOf x.h x.slices i:=⟨_,rfl⟩
     rw [<-hnn] at hol hget
     have hrl1:rl≠r:=fun e=>by rw [e,hR.li] at nrl;cases nrl
     refine⟨_,_,rfl,rfl,_,rfl,by omega,by omega,aOn (n:=nn) (by omega) (fun j σ H'=>bJ H H'/\H' rl=some (.lst (ni gv))/\ ∃as,rO H' r as (R0++R1.take j)/\(∀ad∈as,ad≠r)/\ ∃v5,σ=[some (.ref ds),some (.ref (gs x.key).s),some (.ref r),some (.int i),some (.ref rl),v5])
      ⟨S1,hgr,as,by rw [List.take_zero,List.append_nil];exact hR.same s1,hna,_,rfl⟩ ?_ ?_⟩
     . rintro j σ H3 hj ⟨hs3,hgr3,as3,hR3,hna3,v5,rfl⟩
       rw [Int.zero_add]
       obtain⟨row,hrow,erow⟩:=hget j hj
       have hx3:=(hS.at_ _ _ hxa).same hs3
       obtain⟨dx3,ho3⟩:=hx3.ob
       refine⟨_,rfl,.inl ⟨rfl,_,SqL.of hR3.li⟩,_,rfl,_,rfl,_,rfl,_,_,_,_,_,rfl,ho3,T.aQ.cl,T.aQ.no _ (by simp),cD,_,_,rfl,rfl,.inl ⟨by omega,by omega⟩,_,rfl,_,rfl,_,_,rfl,rfl,_,rfl,_,_,_,_,_,rfl,ho3,T.aQ.cl,T.aQ.no _ (by simp),cD,_,_,rfl,rfl,.inl ⟨by omega,by omega⟩,_,rfl,rl,_,rfl,SqL.of hgr3,fun c hc=> ?_⟩
       have hlen3:=hR3.len
       rw [List.length_append,List.length_take] at hlen3
       refine⟨r,_,_,rfl,rfl,cI hc hR3.li,Nat.lt_of_lt_of_le (by rw [aG];omega) (by decide:1000<=sizeLine),?_⟩
       have ecut:oV (ni gv) (some ((j:Int)*(x.w:Int))) (some (((j:Int)+1)*(x.w:Int)))=ni (row.getD []):=by
        have e1:(j:Int)*(x.w:Int)=((j*x.w:Nat):Int):=by simp
        have e2:((j:Int)+1)*(x.w:Int)=(((j+1)*x.w:Nat):Int):=by simp
        rw [e1,e2,sX,erow,Nat.add_mul,Nat.one_mul,Nat.add_sub_cancel_left]
        rw [ni,ni,List.map_take,List.map_drop]
       have hcr:c≠r:=fun e=>by rw [e,hR3.li] at hc;cases hc
       have hrH:H r=none:=hr
       refine⟨gY hrH (hs3.trans (bM _ hc)),?_,as3++[c],⟨?_,?_,?_⟩,fun ad had=>(List.mem_append.mp had).elim (hna3 ad) fun h=>by rw [List.mem_singleton.mp h];exact hcr,_,rfl⟩
       . rw [aR hrl1];exact cI hc hgr3
       . rw [aO];simp
       . rw [M.dX hrow,List.length_append,List.length_append,List.length_append,List.length_take];simp;omega
       . intro i2 ad row2 h1 h2
         rw [M.dX hrow,<-List.append_assoc] at h2
         have hl2:(R0++R1.take j).length=as3.length:=hR3.len.symm
         by_cases hi2:i2<as3.length
         . rw [List.getElem?_append_left hi2] at h1
           rw [List.getElem?_append_left (by omega)] at h2
           rw [aR (hna3 ad (List.mem_of_getElem? h1))]
           exact cI hc (hR3.at_ i2 ad row2 h1 h2)
         . have hil:=(List.getElem?_eq_some_iff.mp h1).1
           rw [List.length_append] at hil
           simp only [List.length_cons,List.length_nil] at hil
           have:i2=as3.length:=by omega
           subst this
           rw [List.getElem?_append_right (Nat.le_refl _),Nat.sub_self] at h1
           rw [List.getElem?_append_right (by omega),hl2,Nat.sub_self] at h2
           simp at h1 h2
           subst h1 h2
           rw [aR hcr,aO]
           exact congrArg (fun z=>some (HO.lst z)) ecut
     . rintro σ H3 ⟨hs3,hgr3,as3,hR3,hna3,v5,rfl⟩
       rw [List.take_of_length_le (by rw [hol];exact Nat.le_refl _),<-efl] at hR3
       exact⟨hs3,as3,hR3,hna3,_,_,_,rfl⟩
   . rintro σ H' ⟨hs,as,hR,hna,v3,v4,v5,rfl⟩
     exact⟨_,rfl,k H' r as hs hR⟩
def bHk (w:Nat) (rows:List (Option (List Nat))):Prop:=0<w/\ ∀r,some r∈rows->M.aSz w r
theorem bHk.pos {w:Nat} {rows:List (Option (List Nat))} (h:bHk w rows) {j:Nat} {r:List Nat} (hj:rows[j]? =some (some r)):0<r.length:=by
 rw [(h.2 r (List.mem_of_getElem? hj)).1];exact h.1
def bNr (H:Hp) (r:Addr) (rows:List (Option (List Nat))) (y:Nat):Nat->L2.St->Hp->Prop:=fun m σ H'=>H'=H/\m<=y/\σ=[some (.ref r),some (.int y),some (.int (-1)),some (.int ((m:Int)-1))]/\Vbfaae.rowAbove rows m=Vbfaae.rowAbove rows y
def bNq (H:Hp) (r:Addr) (rows:List (Option (List Nat))) (y:Nat):Nat->L2.St->Hp->Prop:=fun m σ H'=>H'=H/\ ∃j:Nat,m+j=rows.length/\y<j/\σ=[some (.ref r),some (.int y),some (.int 1),some (.int (j:Int))]/\((rows.drop j).find? (fun r=>r.isSome)).bind id=Vbfaae.rowBelow rows y
inductive aMq (vs:List V) (H:Hp) (Q:VK):Prop|mk (r:Addr) (as:List Addr) (rows:List (Option (List Nat))) (y v:Nat) (stp:Int) (z0:vs=[.ref r,.int y,.int stp]) (z1:rO H r as rows) (z2:bHk v rows) (z3:y<rows.length) (z4:rows.length<=1000) (z5:((stp= -1/\ ∀H' p,bJ H H'->H' p=some (.lst (ni ((Vbfaae.rowAbove rows y).getD [])))->Q (.ref p) H')\/(stp=1/\ ∀H' p,bJ H H'->H' p=some (.lst (ni ((Vbfaae.rowBelow rows y).getD [])))->Q (.ref p) H'))) def aQn (K:aA) (a:Adr):L2.Sp:=fun vs H Q _=>aMq vs H Q
theorem qI:bA ["rows","y","step","place"] ["rows","y","step"] (aV zO):=by decide+kernel
theorem xX (T:Txt P w K mg a):Ok P w K mg base 1 "nearest_row" ["rows","y","step"] (aQn K a):=by
 refine T.aRl.ok qI (fun vs H Q E h=> ?_) (fun f cdv A outer s H vs Q E hr h=> ?_)
 . obtain⟨r,as,rows,y,v,stp,rfl,_⟩:=h
   rfl
 . obtain⟨r,as,rows,y,v,stp,rfl,hR,hF,hy,hl,hc⟩:=h
   refine⟨_,(aK (aZ (i:=3) qI.nd rfl (Or.inl rfl) (bG cR (pv 1) (pv 2))) (aK (tL PassesOwn.never (bJm aKh dI aN (pv 3) (bL bH (by rfl) T.dC PySem.boot_len (aJ (pv 0) aL))) (aK (bR (bC oM (bL bH (by rfl) T.dC PySem.boot_len (aJ (bZ bD (pv 0) (pv 3) (fun _ _=>rfl)) aL)) aN (bF _)) (aM (aU (bZ bD (pv 0) (pv 3) (fun _ _=>rfl)))) bB) (aM (aWu (i:=3) qI.nd rfl (Or.inl rfl) (pv 2) qW)))) (aM (aU (bU aL))))),?_⟩;symm
   rcases hc with⟨rfl,k⟩|⟨rfl,k⟩
   . refine⟨_,rfl,_,rfl,_,_,rfl,rfl,?_⟩
     refine aHk (bNr H r rows y) y ⟨rfl,Nat.le_refl _,rfl,rfl⟩ ?_
     rintro m σ H' ⟨rfl,hm,rfl,hab⟩
     refine⟨_,rfl,_,_,rfl,rfl,_,rfl,?_⟩
     try dsimp only
     cases m with
     |zero=>
      rw [aF (by decide)]
      refine⟨_,rfl,?_⟩
      rw [aF (by decide)]
      refine⟨Nat.zero_le _,fun p hp=>k _ p (bY hp) ?_⟩
      rw [aO,<-hab];rfl
     |succ j=>
      rw [aD (by rw [aC];omega)]
      obtain⟨row,hrow⟩: ∃row,rows[j]? =some row:=⟨_,List.getElem?_eq_getElem (by omega)⟩
      obtain⟨ad,had,hra,hrad⟩:=hR.get hrow
      refine⟨_,rfl,r,_,rfl,.inl (SqL.of hR.li),_,_,rfl,rfl,_,rfl,?_⟩
      try dsimp only
      rw [aD (by rw [aC,aG,hR.len];omega)]
      refine⟨fun σ' H1=> ∃m',m'<j+1/\bNr _ r rows y m' σ' H1,fun σ' H1 h=>h,?_⟩
      refine⟨_,rfl,_,rfl,r,_,_,_,rfl,rfl,SqL.of hR.li,at_of (j:=j) (by omega) hra,ad,_,rfl,.inl (SqL.of hrad),_,_,rfl,rfl,_,rfl,?_⟩
      try dsimp only
      cases row with
      |some rw'=>
       have hp:=hF.pos hrow
       rw [aD (by rw [aC,aG];show (0:Int)<(rw'.length:Nat);omega)]
       refine⟨_,rfl,_,rfl,r,_,_,_,rfl,rfl,SqL.of hR.li,at_of (j:=j) (by omega) hra,k _ ad (bJ.refl _) ?_⟩
       rw [hrad,<-hab]
       unfold Vbfaae.rowAbove
       rw [List.getD_eq_getElem?_getD,hrow];rfl
      |none=>
       rw [aF (by simp)]
       refine⟨_,rfl,_,rfl,_,_,rfl,rfl,j,by omega,rfl,by omega,?_,?_⟩
       . have:((j+1:Nat):Int)-1+ -1=(j:Int)-1:=by omega
         simp only [this];rfl
       . rw [<-hab]
         conv=>rhs;unfold Vbfaae.rowAbove
         rw [List.getD_eq_getElem?_getD,hrow];rfl
   . refine⟨_,rfl,_,rfl,_,_,rfl,rfl,?_⟩
     refine aHk (bNq H r rows y) (rows.length-(y+1)) ⟨rfl,y+1,by omega,by omega,rfl,rfl⟩ ?_
     rintro m σ H' ⟨rfl,j,hmj,hyj,rfl,hab⟩
     refine⟨_,rfl,_,_,rfl,rfl,_,rfl,?_⟩
     try dsimp only
     rw [aD (by rw [aC];omega)]
     refine⟨_,rfl,r,_,rfl,.inl (SqL.of hR.li),_,_,rfl,rfl,_,rfl,?_⟩
     try dsimp only
     by_cases hjl:j<rows.length
     . rw [aD (by rw [aC,aG,hR.len];omega)]
       obtain⟨row,hrow⟩: ∃row,rows[j]? =some row:=⟨_,List.getElem?_eq_getElem hjl⟩
       obtain⟨ad,had,hra,hrad⟩:=hR.get hrow
       refine⟨fun σ' H1=> ∃m',m'<m/\bNq _ r rows y m' σ' H1,fun σ' H1 h=>h,?_⟩
       refine⟨_,rfl,_,rfl,r,_,_,_,rfl,rfl,SqL.of hR.li,at_of (j:=j) rfl hra,ad,_,rfl,.inl (SqL.of hrad),_,_,rfl,rfl,_,rfl,?_⟩
       try dsimp only
       cases row with
       |some rw'=>
        have hp:=hF.pos hrow
        rw [aD (by rw [aC,aG];show (0:Int)<(rw'.length:Nat);omega)]
        refine⟨_,rfl,_,rfl,r,_,_,_,rfl,rfl,SqL.of hR.li,at_of (j:=j) rfl hra,k _ ad (bJ.refl _) ?_⟩
        rw [hrad,<-hab,M.bFn hrow];rfl
       |none=>
        rw [aF (by simp)]
        refine⟨_,rfl,_,rfl,_,_,rfl,rfl,m-1,by omega,rfl,j+1,by omega,by omega,rfl,?_⟩
        rw [<-hab,M.bBr (j:=j) (by rw [List.getD_eq_getElem?_getD,hrow];rfl)]
     . rw [aF (by rw [aC,aG,hR.len];omega)]
       refine⟨Nat.zero_le _,fun p hp=>k _ p (bY hp) ?_⟩
       rw [aO,<-hab,List.drop_eq_nil_of_le (by omega)];rfl
theorem bEu {K:aA} {g:TG} {tt:TT} {te:TE} {vs:List Nat} {σ:L2.St} {H1:Hp} {D:Addr} {Qd:Hp->Prop} {a1 b1:Addr} {xs zs ys:List V} (hl:SqL K H1 a1 xs) (hl2:SqL K H1 b1 zs) (hn:H1 D=none) (hz:ys.length<=sizeLine) (len:ys.length=min xs.length zs.length)
 (hs: ∀(i:Nat) (x z y:V),xs[i]? =some x->zs[i]? =some z->ys[i]? =some y-> ∀(H:Hp) (t:Addr) (Kt:V->Hp->Prop) (Al:Hp->Prop),bJ H1 H->H t=none->(∀H4,bJ H H4->Kt y H4)->g (.ref t) (wipe σ vs) (upd H t (.tup [x,z])) fun σ2 H2=>wipe σ2 vs=wipe σ vs/\tt σ2 H2 fun b H3=>if b=true then te σ2 H3 Kt else Al H3)
 (hd: ∀H,bJ H1 H->H D=some (.lst ys)->Qd H):
 ∃W:Nat->Nat->Hp->Prop,(∃m,W 0 m (upd H1 D (.lst [])))/\ ∀i m H,W i m H->
  ((Itz K a1 b1).stop i H/\Qd H)\/((Itz K a1 b1).go i H/\ ∃Nx:Hp->Prop,(∀H',Nx H'-> ∃m',m'<m/\W (i+1) m' H')/\ ∀x H',(Itz K a1 b1).yld i H x H'->g x (wipe σ vs) H' fun σ2 H2=>wipe σ2 vs=wipe σ vs/\tt σ2 H2 fun b H3=>
   if b=true then te σ2 H3 fun y H4=> ∃acc,H4 D=some (.lst acc)/\acc.length<sizeLine/\Nx (upd H4 D (.lst (acc++[y]))) else Nx H3):=by
 refine⟨fun i m H=>m=ys.length-i/\i<=ys.length/\bJ H1 H/\H D=some (.lst (ys.take i)),⟨ys.length,by simp,Nat.zero_le _,bY hn,by rw [aO];rfl⟩,?_⟩
 rintro i m H ⟨rfl,hi,p1,p2⟩
 by_cases hlt:i<ys.length
 . have hx:i<xs.length:=by omega
   have hzl:i<zs.length:=by omega
   refine .inr ⟨⟨xs,zs,xs[i],zs[i],p1.seq hl,p1.seq hl2,List.getElem?_eq_getElem hx,List.getElem?_eq_getElem hzl⟩,fun H=>bJ H1 H/\H D=some (.lst (ys.take (i+1))),fun H' p'=>⟨ys.length-(i+1),by omega,rfl,hlt,p'⟩,fun v H' q=> ?_⟩
   obtain⟨t,x,z,rfl,ht,rfl,q1,q2⟩:=q
   refine hs i x z ys[i] (q1 xs (p1.seq hl)) (q2 zs (p1.seq hl2)) (List.getElem?_eq_getElem hlt) H t _ _ p1 ht fun H4 h4=> ?_
   obtain⟨acc,a1,a2,a3,a4⟩:=aNc hn hz (List.getElem?_eq_getElem hlt) p1 p2 H4 h4
   exact⟨acc,a1,a2,a3,a4⟩
 . have e:i=ys.length:=by omega
   subst e
   refine .inl ⟨⟨xs,zs,p1.seq hl,p1.seq hl2,by omega⟩,hd H p1 (by rw [List.take_length] at p2;exact p2)⟩
inductive aMn (vs:List V) (H:Hp) (Q:VK):Prop|mk (r:Addr) (as:List Addr) (rows:List (Option (List Nat))) (y v:Nat) (z0:vs=[.ref r,.int y,.int v]) (z1:rO H r as rows) (z2:bHk v rows) (z3:y<rows.length) (z4:rows.length<=1000) (z5:v<=1000) (z6:rows.getD y none=none) (z7: ∀H' p,bJ H H'->H' p=some (.lst (ni (M.shown v rows y)))->Q (.ref p) H') def aQl (K:aA) (a:Adr):L2.Sp:=fun vs H Q _=>aMn vs H Q
theorem gJ:bA ["rows","y","width","above","below","one","other"] ["rows","y","width"] (aV zM):=by decide+kernel
theorem aPq (T:Txt P w K mg a):Ok P w K mg base 2 "made_up_row" ["rows","y","width"] (aQl K a):=by
 refine T.aRj.ok gJ (fun vs H Q E h=> ?_) (fun f cdv A outer s H vs Q E hr h=> ?_)
 . obtain⟨r,as,rows,y,v,rfl,_⟩:=h
   rfl
 . obtain⟨r,as,rows,y,v,rfl,hR,hF,hy,hl,hv,hn,k⟩:=h
   refine⟨_,(aK (aZ (i:=3) gJ.nd rfl (Or.inl rfl) (aP (xX T) hr (by decide) rfl (aJ (pv 0) (aJ (pv 1) (aJ (yE qP aN) aL))))) (aK (aZ (i:=4) gJ.nd rfl (Or.inl rfl) (aP (xX T) hr (by decide) rfl (aJ (pv 0) (aJ (pv 1) (aJ aN aL))))) (aK (bR (PW.pt (rY (bC oM (bL bH (by rfl) T.dC PySem.boot_len (aJ (pv 3) aL)) aN (bF _)) (pB (bC oM (bL bH (by rfl) T.dC PySem.boot_len (aJ (pv 4) aL)) aN (bF _))))) (aM (aU (tK (own:=[("one",5),("other",6)]) rfl gJ.nd (bJl rfl T.bNf (aJ (pv 3) (aJ (pv 4) aL))) (eZ (by rfl)) (fun _ _ _ _ _=>(aWs (K:=K) (n:=2) rfl rfl (gW (cM (i:=5) gJ.nd rfl (Or.inl rfl)) (gW (cM (i:=6) gJ.nd rfl (Or.inl rfl)) aAe)))) (fun _ _ _ _ _=>iQ) (fun _ _ _ _ _=>(bG aAd (bG cR (pv 5) (pv 6)) aN))))) bB) (aK (bR (bC oM (bL bH (by rfl) T.dC PySem.boot_len (aJ (pv 3) aL)) aN (bF _)) (aM (aU (pv 3))) bB) (aK (bR (bC oM (bL bH (by rfl) T.dC PySem.boot_len (aJ (pv 4) aL)) aN (bF _)) (aM (aU (pv 4))) bB) (aM (aU (bG aWp (bU (aJ (cA rfl T.aEm) aL)) (pv 2))))))))),?_⟩;symm
   have hup: ∀r',Vbfaae.rowAbove rows y=some r'->M.aSz v r':=fun r' h=>hF.2 r' (M.uN h)
   have hdn: ∀r',Vbfaae.rowBelow rows y=some r'->M.aSz v r':=fun r' h=>hF.2 r' (M.uO h)
   unfold M.shown at k
   rw [hn] at k
   refine⟨_,rfl,_,rfl,_,rfl,r,as,rows,y,v,-1,rfl,hR,hF,hy,hl,.inl ⟨rfl,fun H1 p1 s1 h1=> ?_⟩⟩
   refine⟨_,rfl,_,rfl,r,as,rows,y,v,1,rfl,hR.same s1,hF,hy,hl,.inr ⟨rfl,fun H2 p2 s2 h2=> ?_⟩⟩
   have h12:=s2 _ _ h1
   have S2:=s1.trans s2
   refine⟨_,rfl,p1,_,rfl,.inl (SqL.of h12),_,_,rfl,rfl,_,rfl,?_⟩
   try dsimp only
   cases ha:Vbfaae.rowAbove rows y with
   |some up=>
    rw [ha] at k h12
    have hu:=hup up ha
    have hu1:=hu.1
    have hF1:=hF.1
    rw [aD (by rw [aC,aG];show (0:Int)<(up.length:Nat);omega)]
    refine⟨_,rfl,p2,_,rfl,.inl (SqL.of h2),_,_,rfl,rfl,_,rfl,?_⟩
    try dsimp only
    cases hb:Vbfaae.rowBelow rows y with
    |some dn=>
     rw [hb] at k h2
     have hd:=hdn dn hb
     have hd1:=hd.1
     rw [aD (by rw [aC,aG];show (0:Int)<(dn.length:Nat);omega)]
     refine⟨_,rfl,_,rfl,p1,p2,_,_,rfl,SqL.of h12,SqL.of h2,fun D hD=> ?_⟩
     refine bEu (K:=K) (xs:=ni up) (zs:=ni dn) (ys:=ni ((up.zip dn).map fun p=>(p.1+p.2)/2)) (SqL.of h12) (SqL.of h2) hD (by simp;exact cF (by omega)) (by simp) (fun i xx zz yy hx hz hyy H' t Kt Al hs ht hk=> ?_) (fun H' hs h3=>k H' D (S2.trans hs) h3)
     obtain⟨o1,ho1,rfl⟩:=nW hx
     obtain⟨o2,ho2,rfl⟩:=nW hz
     obtain⟨o3,ho3,rfl⟩:=nW hyy
     have e3:o3=(o1+o2)/2:=by
      rw [List.getElem?_map] at ho3
      have:(up.zip dn)[i]? =some (o1,o2):=by rw [List.getElem?_zip_eq_some];exact⟨ho1,ho2⟩
      rw [this] at ho3
      exact(Option.some.inj ho3).symm
     subst e3
     refine⟨t,_,rfl,SqT.of aO,rfl,_,_,rfl,_,_,rfl,rfl,rfl,?_⟩
     refine⟨_,rfl,_,rfl,_,_,rfl,rfl,_,_,rfl,rfl,⟨by decide,by decide⟩,?_⟩
     have:=hk _ (bM (.tup [.int o1,.int o2]) ht)
     exact qi (Q:=Kt) this (by omega)
    |none=>
     rw [hb] at k h2
     rw [aF (by simp)]
     refine⟨_,rfl,p1,_,rfl,.inl (SqL.of h12),_,_,rfl,rfl,_,rfl,?_⟩
     try dsimp only
     rw [aD (by rw [aC,aG];show (0:Int)<(up.length:Nat);omega)]
     exact⟨_,rfl,k H2 p1 S2 h12⟩
   |none=>
    rw [ha] at k h12
    rw [aF (by simp),aF (by decide)]
    refine⟨_,rfl,p1,_,rfl,.inl (SqL.of h12),_,_,rfl,rfl,_,rfl,?_⟩
    try dsimp only
    rw [aF (by simp)]
    refine⟨_,rfl,p2,_,rfl,.inl (SqL.of h2),_,_,rfl,rfl,_,rfl,?_⟩
    try dsimp only
    cases hb:Vbfaae.rowBelow rows y with
    |some dn=>
     rw [hb] at k h2
     have hd1:=(hdn dn hb).1
     have hF1:=hF.1
     rw [aD (by rw [aC,aG];show (0:Int)<(dn.length:Nat);omega)]
     exact⟨_,rfl,k H2 p2 S2 h2⟩
    |none=>
     rw [hb] at k h2
     rw [aF (by simp)]
     refine⟨(by show 1<=sizeLine;decide),fun q hq=> ?_⟩
     refine⟨_,rfl,q,_,_,rfl,rfl,aO,by omega,by omega,cF (by simp;omega),fun t ht=> ?_⟩
     refine k _ t ((S2.trans (bM _ hq)).trans (bM _ ht)) ?_
     rw [aO]
     simp [ni,Vbfaae.MIDDLE]
inductive aXq (a:Adr) (vs:List V) (H:Hp) (Q:VK):Prop|mk (ds:Addr) (gs:Nat->GS) (st:aB) (x:Vbfaae.Stream) (z0:vs=[.ref ds,.ref (gs x.key).s]) (z1:nU a H ds gs st) (z2:M.bO st) (z3:x∈st.streams) (z4:sI H Q (ni (Vbfaae.unpacked st x))) def bAz (K:aA) (a:Adr):L2.Sp:=fun vs H Q _=>aXq a vs H Q
theorem nO:bA ["streams","stream","rows","greys","y","row"] ["streams","stream"] (aV aKp):=by decide+kernel
theorem xZ (T:Txt P w K mg a):Ok P w K mg base 8 "unpacked" ["streams","stream"] (bAz K a):=by
 refine T.bCc.ok nO (fun vs H Q E h=> ?_) (fun f cdv A outer s H vs Q E hr h=> ?_)
 . obtain⟨ds,gs,st,x,rfl,_⟩:=h
   rfl
 . obtain⟨ds,gs,st,x,rfl,hS,ok,hx,k⟩:=h
   refine⟨_,(aK (aZ (i:=2) nO.nd rfl (Or.inl rfl) (aP (aWn T) hr (by decide) rfl (aJ (pv 0) (aJ (pv 1) aL)))) (aK (aZ (i:=3) nO.nd rfl (Or.inl rfl) (bU aL)) (aK (lK PassesOwn.never rfl (aNe rfl T.qX (aJ (pv 2) aL)) (aWr rfl (gW (cM (i:=4) nO.nd rfl (Or.inl rfl)) (gW (cM (i:=5) nO.nd rfl (Or.inl rfl)) aAe))) (aM (fB (rB PySem.F.plainAttrs_list PySem.F.slot_list_extend PySem.F.type_list_extend tD (pv 3) (aJ (tH (bC oM (bL bH (by rfl) T.dC PySem.boot_len (aJ (pv 5) aL)) aN (bF _)) (pv 5) (aP (aPq T) hr (by decide) rfl (aJ (pv 2) (aJ (pv 4) (aJ (aX (pv 1) rfl) aL))))) aL))))) (aM (aU (pv 3)))))),?_⟩;symm
   have hxa:Vbfaae.streamAt st x.key=some x:=ok.at_.mpr ⟨hx,rfl⟩
   have hk:=ok.sOk x hx
   have hw:=hk.w
   have hh:=hk.h
   have hrr:=M.aKk ok hx
   have hF:bHk x.w (Vbfaae.rowsRead st x):=⟨by omega,hrr.2⟩
   have hsr:=M.aFs hrr.2
   unfold Vbfaae.unpacked at k
   rw [M.aXb] at k hsr
   refine⟨_,rfl,_,rfl,ds,gs,st,x,rfl,hS,ok,hx,fun H1 r as s1 hR=> ?_⟩
   have hlen:=hrr.1
   generalize Vbfaae.rowsRead st x=rows at*
   refine⟨Nat.zero_le _,fun gl hgl=> ?_⟩
   have hglH:=s1.free hgl
   have hx1:=(hS.at_ _ _ hxa).same s1
   obtain⟨dx,ho⟩:=hx1.ob
   have hng: ∀(j:Nat) ad row,as[j]? =some ad->rows[j]? =some row->ad≠gl:=fun j ad row h1 h2 e=>by
    have:=hR.at_ j ad row h1 h2
    rw [e,hgl] at this;cases this
   have hngr:r≠gl:=fun e=>by have:=hR.li;rw [e,hgl] at this;cases this
   refine⟨_,rfl,r,_,rfl,SqL.of (cI hgl hR.li),aOl (K:=K) (q:=r) (xs:=as.map V.ref) (fun j σ H'=>bJ H1 H'/\H' gl=some (.lst (ni (((List.range rows.length).map (M.shown x.w rows)).take j).flatten))/\ ∃v4 v5,σ=[some (.ref ds),some (.ref (gs x.key).s),some (.ref r),some (.ref gl),v4,v5])
    ⟨bY hgl,by rw [aO];rfl,_,_,rfl⟩ (fun j σ H' _ h=>SqL.of (h.1 _ _ hR.li)) ?_ ?_⟩
   . rintro j yv σ H' t hj ⟨hs,hg,v4,v5,rfl⟩ ht
     obtain⟨ad,had,rfl⟩:=uH hj
     have hjl:j<rows.length:=by rw [<-hR.len];exact(List.getElem?_eq_some_iff.mp had).1
     obtain⟨row,hrow⟩: ∃row,rows[j]? =some row:=⟨_,List.getElem?_eq_getElem hjl⟩
     have hrad:=hR.at_ j ad row had hrow
     refine⟨t,_,rfl,SqT.of aO,rfl,_,_,rfl,_,_,rfl,rfl,?_⟩
     have hs3:bJ H1 (upd H' t (.tup [.int (j:Nat),.ref ad])):=hs.trans (bM _ ht)
     have hg3:upd H' t (.tup [.int (j:Nat),.ref ad]) gl=some (.lst (ni (((List.range rows.length).map (M.shown x.w rows)).take j).flatten)):=cI ht hg
     generalize upd H' t (.tup [.int (j:Nat),.ref ad])=H3 at*
     have hshl: ∀i,i<rows.length->(M.shown x.w rows i).length=x.w:=fun i hi=>(hsr.2 _ (List.mem_map.mpr ⟨i,List.mem_range.mpr hi,rfl⟩)).1
     have hfl:(((List.range rows.length).map (M.shown x.w rows)).take j).flatten.length<=576:=by
      rw [M.pP (w:=x.w) (fun r' hr'=>(hsr.2 r' (List.mem_of_mem_take hr')).1),List.length_take]
      have:min j ((List.range rows.length).map (M.shown x.w rows)).length<=24:=by simp;omega
      exact Nat.le_trans (Nat.mul_le_mul this hw.2) (by decide)
     refine⟨_,rfl,.inl ⟨rfl,_,SqL.of hg3⟩,_,rfl,ad,_,rfl,.inl (SqL.of (hs3 _ _ hrad)),_,_,rfl,rfl,_,rfl,?_⟩
     try dsimp only
     cases row with
     |some rw'=>
      have hpos:=hF.pos hrow
      rw [aD (by rw [aC,aG];show (0:Int)<(rw'.length:Nat);omega)]
      have esh:M.shown x.w rows j=rw':=by unfold M.shown;rw [List.getD_eq_getElem?_getD,hrow];rfl
      have h1l:=hshl j hjl
      rw [esh] at h1l
      refine⟨_,rfl,gl,ad,_,_,rfl,rfl,hg3,hs3 _ _ hrad,cF (by rw [aG,aG];show _+(rw'.length)<=1000000;omega),gY hgl hs3,?_,_,_,rfl⟩
      rw [aO,M.aEj _ _ _ hjl,List.flatten_append,esh]
      simp [ni]
     |none=>
      rw [aF (by simp)]
      refine⟨_,rfl,_,rfl,_,rfl,_,_,_,_,_,rfl,(hs3 _ _ ho),T.aQ.cl,T.aQ.no _ (by simp),cD,r,as,rows,j,x.w,rfl,hR.same hs3,hF,hjl,by omega,by omega,by rw [List.getD_eq_getElem?_getD,hrow];rfl,fun H4 p s4 h4=> ?_⟩
      have h1l:=hshl j hjl
      refine⟨gl,p,_,_,rfl,rfl,s4 _ _ hg3,h4,cF (by rw [aG,aG];omega),gY hgl (hs3.trans s4),?_,_,_,rfl⟩
      rw [aO,M.aEj _ _ _ hjl,List.flatten_append]
      simp [ni]
   . rintro σ H' ⟨hs,hg,v4,v5,rfl⟩
     rw [aG,hR.len,List.take_of_length_le (by simp)] at hg
     exact⟨_,rfl,k H' gl (s1.trans hs) hglH hg⟩
structure GP where
 pa:Addr
 gl:Addr
structure Lay where
 dp:Addr
 ds:Addr
 gp:Nat->GP
 gs:Nat->GS
def adP (g:GP):List Addr:=[g.pa,g.gl]
def adS (g:GS):List Addr:=g.s::g.pk::g.pl::g.qs.flatMap fun q=>[q.1,q.2]
structure bQ (a:Adr) (H:Hp) (ho:Addr) (L:Lay) (st:aB):Prop where
 ob: ∃dx,H ho=some (.ins a.cHouse dx (fL (.ref L.dp) (.ref L.ds) (.int st.next)))
 pd: ∃kvs,H L.dp=some (.dK kvs)/\kvs.length=st.pictures.length/\ ∀k:Nat,dO kvs (Sum.inl (k:Int))=(Vbfaae.pictureAt st k).map fun _=>V.ref (L.gp k).pa
 pics: ∀k p,Vbfaae.pictureAt st k=some p->xG a H (L.gp k).pa (L.gp k).gl p
 srs:nU a H L.ds L.gs st
 nds:L.dp≠L.ds
 nd: ∀k x,Vbfaae.streamAt st k=some x->(adS (L.gs k)).Nodup
 ndS: ∀k x k' x',Vbfaae.streamAt st k=some x->Vbfaae.streamAt st k'=some x'->k≠k'-> ∀b∈adS (L.gs k),b∉adS (L.gs k')
 ndP: ∀k p k' x',Vbfaae.pictureAt st k=some p->Vbfaae.streamAt st k'=some x'-> ∀b∈adP (L.gp k),b∉adS (L.gs k')
 ndH: ∀k x,Vbfaae.streamAt st k=some x->ho∉adS (L.gs k)
 ndHP: ∀k p,Vbfaae.pictureAt st k=some p->ho∉adP (L.gp k)
theorem bQ.same {a:Adr} {H H':Hp} {ho:Addr} {L:Lay} {st:aB} (h:bQ a H ho L st) (e:bJ H H'):bQ a H' ho L st:=by
 obtain⟨⟨dx,h1⟩,⟨kvs,h2,h3⟩,h4,h5,h6,h7,h8,h9,h10,h11⟩:=h
 exact⟨⟨dx,e _ _ h1⟩,⟨kvs,e _ _ h2,h3⟩,fun k p hp=>(h4 k p hp).same e,h5.same e,h6,h7,h8,h9,h10,h11⟩
theorem cZ.some_ {a:Adr} {H:Hp} {g:GS} {x:Vbfaae.Stream} (h:cZ a H g x): ∀b∈adS g,∃ob,H b=some ob/\((∃z,ob= .lst z)\/ ∃C dx fs,ob= .ins C dx fs):=by
 intro b hb
 unfold adS at hb
 rcases List.mem_cons.mp hb with rfl|hb
 . obtain⟨dx,e⟩:=h.ob;exact⟨_,e,.inr ⟨_,_,_,rfl⟩⟩
 . rcases List.mem_cons.mp hb with rfl|hb
   . exact⟨_,h.pk,.inl ⟨_,rfl⟩⟩
   . rcases List.mem_cons.mp hb with rfl|hb
     . exact⟨_,h.pl,.inl ⟨_,rfl⟩⟩
     . obtain⟨q,hq,hb⟩:=List.mem_flatMap.mp hb
       obtain⟨i,hi⟩:=List.getElem?_of_mem hq
       have hil:=(List.getElem?_eq_some_iff.mp hi).1
       obtain⟨p,hp⟩: ∃p,x.packets[i]? =some p:=⟨_,List.getElem?_eq_getElem (by rw [<-h.len];exact hil)⟩
       have hk:=h.ps i q p hi hp
       simp at hb
       rcases hb with rfl|rfl
       . obtain⟨d,f,e,_⟩:=hk.ob;exact⟨_,e,.inr ⟨_,_,_,rfl⟩⟩
       . exact⟨_,hk.oc,.inl ⟨_,rfl⟩⟩
theorem cZ.keep {a:Adr} {H H':Hp} {g:GS} {x:Vbfaae.Stream} (h:cZ a H g x) (e: ∀b∈adS g,∀ob,H b=some ob->H' b=some ob):cZ a H' g x:=by
 have m1:g.s∈adS g:=by simp [adS]
 have m2:g.pk∈adS g:=by simp [adS]
 have m3:g.pl∈adS g:=by simp [adS]
 have m4: ∀q∈g.qs,q.1∈adS g/\q.2∈adS g:=fun q hq=>by
  constructor
  . exact List.mem_cons_of_mem _ (List.mem_cons_of_mem _ (List.mem_cons_of_mem _ (List.mem_flatMap.mpr ⟨q,hq,by simp⟩)))
  . exact List.mem_cons_of_mem _ (List.mem_cons_of_mem _ (List.mem_cons_of_mem _ (List.mem_flatMap.mpr ⟨q,hq,by simp⟩)))
 obtain⟨⟨dx,h1⟩,h2,h3,h4,h5⟩:=h
 refine⟨⟨dx,e _ m1 _ h1⟩,e _ m2 _ h2,e _ m3 _ h3,h4,fun i q p hq hp=> ?_⟩
 have mq:=m4 q (List.mem_of_getElem? hq)
 obtain⟨⟨d,f,e1,e3⟩,e2⟩:=h5 i q p hq hp
 exact⟨⟨d,f,e _ mq.1 _ e1,e3⟩,e _ mq.2 _ e2⟩
theorem bQ.up {a:Adr} {H H':Hp} {ho:Addr} {L:Lay} {st:aB} (h:bQ a H ho L st) (ok:M.bO st) {k:Nat} {x:Vbfaae.Stream} (hx:Vbfaae.streamAt st k=some x) {g':GS} {ps:List (Vbfaae.Bytes×Nat×Bool)}
 (fr: ∀b ob,H b=some ob->b∉adS (L.gs k)->H' b=some ob) (hs:cZ a H' g' {x with packets:=ps}) (hg:g'.s=(L.gs k).s) (nd':(adS g').Nodup) (nw: ∀b∈adS g',b∈adS (L.gs k)\/H b=none):
 bQ a H' ho {L with gs:=fun j=>if j=k then g' else L.gs j} (Vbfaae.withStream st {x with packets:=ps}):=by
 have hk:x.key=k:=(ok.at_.mp hx).2
 have at': ∀j,Vbfaae.streamAt (Vbfaae.withStream st {x with packets:=ps}) j=if j=k then some {x with packets:=ps} else Vbfaae.streamAt st j:=fun j=>by
  rw [ok.zU]
  show (if j=x.key then _ else _)=_
  rw [hk]
 have hX:=h.srs.at_ k x hx
 have notin: ∀b ob,H b=some ob->(∀z,ob≠ .lst z)->(∀C dx fs,ob≠ .ins C dx fs)->b∉adS (L.gs k):=fun b ob hb n1 n2 hm=>by
  obtain⟨ob',e,q⟩:=hX.some_ b hm
  rw [hb] at e
  cases e
  rcases q with⟨z,q⟩|⟨C,dx,fs,q⟩
  . exact n1 z q
  . exact n2 C dx fs q
 have ns: ∀j y b,Vbfaae.streamAt st j=some y->j≠k->b∈adS (L.gs j)->b∉adS g':=fun j y b hj hne hb hb'=>by
  rcases nw b hb' with q|q
  . exact h.ndS j y k x hj hx hne b hb q
  . obtain⟨ob,e,_⟩:=(h.srs.at_ j y hj).some_ b hb
    rw [e] at q;cases q
 have np: ∀j p b,Vbfaae.pictureAt st j=some p->b∈adP (L.gp j)->b∉adS g':=fun j p b hj hb hb'=>by
  rcases nw b hb' with q|q
  . exact h.ndP j p k x hj hx b hb q
  . have hp:=h.pics j p hj
    simp [adP] at hb
    rcases hb with rfl|rfl
    . obtain⟨dx,e⟩:=hp.ob;rw [e] at q;cases q
    . rw [hp.gr] at q;cases q
 refine⟨?_,?_,?_,⟨?_,?_⟩,h.nds,?_,?_,?_,?_,h.ndHP⟩
 . obtain⟨dx,e⟩:=h.ob
   exact⟨dx,fr _ _ e (h.ndH k x hx)⟩
 . obtain⟨kvs,e,r⟩:=h.pd
   exact⟨kvs,fr _ _ e (notin _ _ e (fun z q=>by cases q) (fun C dx fs q=>by cases q)),r⟩
 . intro j p hj
   obtain⟨⟨dx,e1⟩,e2⟩:=h.pics j p hj
   exact⟨⟨dx,fr _ _ e1 (h.ndP j p k x hj hx _ (by simp [adP]))⟩,fr _ _ e2 (h.ndP j p k x hj hx _ (by simp [adP]))⟩
 . obtain⟨kvs,e,e2,e3⟩:=h.srs.di
   refine⟨kvs,fr _ _ e (notin _ _ e (fun z q=>by cases q) (fun C dx fs q=>by cases q)),?_,fun j=> ?_⟩
   . rw [ok.aEo]
     show _=if(Vbfaae.streamAt st x.key).isSome=true then _ else _
     rw [hk,hx,aD (show (some x).isSome=true from rfl)];exact e2
   . rw [e3 j,at']
     by_cases hj:j=k
     . rw [aD hj,hj,hx]
       simp [hg]
     . rw [aF hj];simp [hj]
 . intro j y hy
   rw [at'] at hy
   by_cases hj:j=k
   . rw [aD hj] at hy
     cases hy
     show cZ a H' (if j=k then g' else L.gs j) _
     rw [aD hj];exact hs
   . rw [aF hj] at hy
     show cZ a H' (if j=k then g' else L.gs j) _
     rw [aF hj]
     exact(h.srs.at_ j y hy).keep fun b hb ob e=>fr b ob e (h.ndS j y k x hy hx hj b hb)
 . intro j y hy
   rw [at'] at hy
   show (adS (if j=k then g' else L.gs j)).Nodup
   by_cases hj:j=k
   . rw [aD hj];exact nd'
   . rw [aF hj] at hy ⊢; exact h.nd j y hy
 . intro j y j' y' hy hy' hne b hb
   rw [at'] at hy hy'
   show b∉adS (if j'=k then g' else L.gs j')
   have hb:b∈adS (if j=k then g' else L.gs j):=hb
   by_cases hj:j=k<;>by_cases hj':j'=k
   . omega
   . rw [aD hj] at hb
     rw [aF hj'] at hy' ⊢
     exact fun q=>ns j' y' b hy' hj' q hb
   . rw [aF hj] at hb hy
     rw [aD hj']
     exact ns j y b hy hj hb
   . rw [aF hj] at hb hy
     rw [aF hj'] at hy' ⊢
     exact h.ndS j y j' y' hy hy' hne b hb
 . intro j p j' y' hp hy' b hb
   rw [at'] at hy'
   show b∉adS (if j'=k then g' else L.gs j')
   by_cases hj':j'=k
   . rw [aD hj'];exact np j p b hp hb
   . rw [aF hj'] at hy' ⊢
     exact h.ndP j p j' y' hp hy' b hb
 . intro j y hy
   rw [at'] at hy
   show ho∉adS (if j=k then g' else L.gs j)
   by_cases hj:j=k
   . rw [aD hj]
     intro q
     rcases nw ho q with q|q
     . exact h.ndH k x hx q
     . obtain⟨dx,e⟩:=h.ob;rw [e] at q;cases q
   . rw [aF hj] at hy ⊢; exact h.ndH j y hy
def Own (ho:Addr) (L:Lay) (st:aB) (b:Addr):Prop:=b=ho\/b=L.dp\/b=L.ds\/ ∃k x,Vbfaae.streamAt st k=some x/\b∈adS (L.gs k)
def aHl (L:Lay) (st:aB) (b:Addr):Prop:= ∃k p,Vbfaae.pictureAt st k=some p/\b∈adP (L.gp k)
structure Kept (H H':Hp) (ho:Addr) (L L':Lay) (st st':aB):Prop where
 fr: ∀b ob,H b=some ob-> ¬Own ho L st b->H' b=some ob
 nw: ∀b,Own ho L' st' b->Own ho L st b\/H b=none
 pw: ∀b,aHl L' st' b->aHl L st b\/H b=none
theorem Kept.refl {H H':Hp} {ho:Addr} {L:Lay} {st:aB} (e:bJ H H'):Kept H H' ho L L st st:=⟨fun b ob h _=>e b ob h,fun b h=> .inl h,fun b h=> .inl h⟩
theorem Kept.pre {H H1 H':Hp} {ho:Addr} {L L':Lay} {st st':aB} (h:Kept H1 H' ho L L' st st') (e:bJ H H1):Kept H H' ho L L' st st':=⟨fun b ob hb no=>h.fr b ob (e b ob hb) no,fun b hb=>(h.nw b hb).imp id fun q=>e.free q,fun b hb=>(h.pw b hb).imp id fun q=>e.free q⟩
theorem bQ.pN {a:Adr} {H:Hp} {ho:Addr} {L:Lay} {st:aB} (h:bQ a H ho L st) (k:Nat):wN H L.ds (.int (k:Int)) ((Vbfaae.streamAt st k).map fun _=>V.ref (L.gs k).s):=by
 obtain⟨kvs,e,_,e3⟩:=h.srs.di
 rw [<-e3 k]
 exact wN.k (k:=Sum.inl (k:Int)) e
theorem bQ.full {a:Adr} {H:Hp} {ho:Addr} {L:Lay} {st:aB} (h:bQ a H ho L st) (n:Nat): ∃kvs,H L.ds=some (.dK kvs)/\((dO kvs (Sum.inl (n:Int))).isNone&&decide ((6:Int)<=(kvs.length:Int)))=decide (6<=st.streams.length/\(Vbfaae.streamAt st n).isNone=true):=by
 obtain⟨kvs,e,e2,e3⟩:=h.srs.di
 refine⟨kvs,e,?_⟩
 rw [e3 n,e2,Bool.eq_iff_iff,Bool.and_eq_true,aC,aC]
 cases Vbfaae.streamAt st n<;>simp<;>omega
theorem bQ.bNb {a:Adr} {H:Hp} {ho:Addr} {L:Lay} {st:aB} (h:bQ a H ho L st) (n:Nat): ∃kvs,H L.dp=some (.dK kvs)/\((dO kvs (Sum.inl (n:Int))).isNone&&decide ((6:Int)<=(kvs.length:Int)))=decide (6<=st.pictures.length/\(Vbfaae.pictureAt st n).isNone=true):=by
 obtain⟨kvs,e,e2,e3⟩:=h.pd
 refine⟨kvs,e,?_⟩
 rw [e3 n,e2,Bool.eq_iff_iff,Bool.and_eq_true,aC,aC]
 cases Vbfaae.pictureAt st n<;>simp<;>omega
theorem bQ.bDb {a:Adr} {H:Hp} {ho:Addr} {L:Lay} {st:aB} (h:bQ a H ho L st) (k:Nat):wN H L.dp (.int (k:Int)) ((Vbfaae.pictureAt st k).map fun _=>V.ref (L.gp k).pa):=by
 obtain⟨kvs,e,_,e3⟩:=h.pd
 rw [<-e3 k]
 exact wN.k (k:=Sum.inl (k:Int)) e
def cC (st:aB) (z i:Int):Int:=if(Vbfaae.keyed z&&Vbfaae.within i 0 99)=false then-1 else match Vbfaae.streamAt st z.toNat with
 |none=> -4
 |some x=>if x.packets.length<=i.toNat then-4 else 0
inductive aDu (a:Adr) (vs:List V) (H:Hp) (Q:VK):Prop|mk (ho:Addr) (L:Lay) (st:aB) (z i:Int) (z0:vs=[.ref ho,.int z,.int i]) (z1:bQ a H ho L st) (z2:Q (.int (cC st z i)) H) def aGk (K:aA) (a:Adr):L2.Sp:=fun vs H Q _=>aDu a vs H Q
theorem aFr:bA ["house","key","i"] ["house","key","i"] (aV rM):=by decide+kernel
theorem fY (T:Txt P w K mg a):Ok P w K mg base 3 "packet_refusal" ["house","key","i"] (aGk K a):=by
 refine T.aHv.ok aFr (fun vs H Q E h=> ?_) (fun f cdv A outer s H vs Q E hr h=> ?_)
 . obtain⟨ho,L,st,z,i,rfl,_⟩:=h
   rfl
 . obtain⟨ho,L,st,z,i,rfl,hh,k⟩:=h
   have hu:=fO hr
   refine⟨_,(aK (bR (PW.pt (kY (eU (cT (aP (tG T) hr (by decide) rfl (aJ (pv 1) aL)))) (iK (eU (cT (aP (dZ T) hr (by decide) rfl (aJ (pv 2) (aJ aN (aJ aN aL))))))))) (aM (aU (cA rfl T.cO))) bB) (aK (bR (PW.pt (kY (aDc (aIu hu (pv 1) (aX (pv 0) rfl))) (iK (bC pY (pv 2) (bL bH (by rfl) T.dC PySem.boot_len (aJ (aX (cY hu (aX (pv 0) rfl) (pv 1) (fun _ _=>rfl)) rfl) aL)) (bF _))))) (aM (aU (cA rfl T.aHx))) bB) (aM (aU aN)))),?_⟩;symm
   obtain⟨dh,hho⟩:=hh.ob
   unfold cC at k
   refine⟨_,rfl,z,rfl,_,rfl,?_⟩
   cases hz:Vbfaae.keyed z with
   |false=>
    rw [hz] at k
    exact bI rfl (bI rfl k)
   |true=>
    rw [hz] at k
    rw [aF (by decide)]
    refine⟨_,rfl,i,0,99,rfl,_,rfl,?_⟩
    cases hi:Vbfaae.within i 0 99 with
    |false=>
     rw [hi] at k
     exact bI rfl k
    |true=>
     rw [hi] at k
     rw [aF (by decide)]
     rw [aF (by decide)] at k
     have hz1:=M.cP.mp hz
     have hi1:=M.cB.mp hi
     obtain⟨zn,rfl⟩: ∃zn:Nat,z=(zn:Int):=⟨z.toNat,by omega⟩
     obtain⟨inn,rfl⟩: ∃n:Nat,i=(n:Int):=⟨i.toNat,by omega⟩
     rw [aH,aH] at k
     have hd:=hh.pN zn
     refine⟨_,rfl,_,rfl,_,_,_,_,_,rfl,hho,T.aW.cl,T.aW.no _ (by simp),aY,L.ds,_,rfl,hd,_,rfl,?_⟩
     cases hx:Vbfaae.streamAt st zn with
     |none=>
      rw [hx] at k
      exact bI rfl (bI rfl k)
     |some x=>
      rw [hx] at k hd
      have hX:=hh.srs.at_ _ _ hx
      obtain⟨dx,ho1⟩:=hX.ob
      rw [aF (by simp)]
      refine⟨_,rfl,_,rfl,_,_,_,_,_,rfl,hho,T.aW.cl,T.aW.no _ (by simp),aY,_,rfl,L.ds,_,rfl,hd,_,_,_,_,_,rfl,ho1,T.aQ.cl,T.aQ.no _ (by simp),bN,(L.gs zn).pl,_,rfl,.inl (SqL.of hX.pl),_,_,rfl,rfl,_,rfl,?_⟩
      try dsimp only
      by_cases hl:x.packets.length<=inn
      . simp only [aD hl] at k
        rw [aD (by rw [aC,aG,hX.len];omega)]
        exact k
      . simp only [aF hl] at k
        rw [aF (by rw [aC,aG,hX.len];omega)]
        exact k
inductive aXp (a:Adr) (vs:List V) (H:Hp) (Q:VK):Prop|mk (q o:Addr) (p:Vbfaae.Bytes×Nat×Bool) (i:Nat) (z0:vs=[.ref q,.int i]) (z1:sJ a H q o p) (z2:(∀b∈p.1,b<256)) (z3:i<8*p.1.length) (z4:Q .non (upd H o (.lst (ni (Vbfaae.turned p.1 i))))) def bAy (K:aA) (a:Adr):L2.Sp:=fun vs H Q _=>aXp a vs H Q
theorem bAp:bA ["packet","place"] ["packet","place"] (aV aKo):=by decide+kernel
theorem aKg (T:Txt P w K mg a):Ok P w K mg base 1 "turn_bit" ["packet","place"] (bAy K a):=by
 refine T.bCb.ok bAp (fun vs H Q E h=> ?_) (fun f cdv A outer s H vs Q E hr h=> ?_)
 . obtain⟨q,o,p,i,rfl,_⟩:=h
   rfl
 . obtain⟨q,o,p,i,rfl,hp,hb,hi,k⟩:=h
   refine⟨_,(aM (aFi (aX (pv 0) rfl) (bG aAd (pv 1) aN) xR (bG uL aN (bG rW (pv 1) aN)) bLk set_list)),?_⟩;symm
   obtain⟨dq,f,hq,_⟩:=hp.ob
   obtain⟨b,hbx⟩: ∃b,p.1[i/8]? =some b:=⟨_,List.getElem?_eq_getElem (by omega)⟩
   have ei:((i:Int)/8)=((i/8:Nat):Int):=by omega
   refine⟨_,rfl,_,_,_,_,_,rfl,hq,T.bT.cl,T.bT.no _ (by simp),cJ,_,rfl,_,_,rfl,rfl,⟨by decide,by decide⟩,o,_,_,_,rfl,rfl,SqL.of hp.oc,jO (i:=i/8) ei hbx,_,rfl,_,_,rfl,rfl,(by show (0:Int)<8;decide),_,_,rfl,rfl,(by show (0:Int)<=(i:Int)%8;omega),_,_,rfl,rfl,o,_,_,i/8,rfl,rfl,hp.oc,?_,?_⟩
   . unfold ixN
     rw [ei,aG,aD (by omega),aD (by omega),aH]
   . have e:Builtin.bitXor (b:Int) (128/2 ^ ((i:Int)%8).toNat)=((b^^^2 ^ (7-i%8):Nat):Int):=by
      have e1:((i:Int)%8).toNat=i%8:=by omega
      have e2:(128:Int)/2 ^ (i%8)=((2 ^ (7-i%8):Nat):Int):=by
       have hlt:i%8<8:=by omega
       generalize i%8=j at hlt
       have:j=0\/j=1\/j=2\/j=3\/j=4\/j=5\/j=6\/j=7:=by omega
       rcases this with rfl|rfl|rfl|rfl|rfl|rfl|rfl|rfl<;>decide
      rw [e1,e2,bx]
     dsimp only
     rw [e,aPb]
     unfold Vbfaae.turned at k
     rw [List.getD_eq_getElem?_getD,hbx] at k
     exact k
theorem nF {st:aB} {z i:Int} (h:cC st z i<0) (f:Vbfaae.Stream->Vbfaae.Bytes×Nat×Bool->aB×List Int):Vbfaae.onPacket st z i f=(st,[cC st z i]):=by
 unfold cC at h ⊢
 unfold Vbfaae.onPacket Vbfaae.onStream
 cases hz:Vbfaae.keyed z<;>cases hi:Vbfaae.within i 0 99<;>simp only [hz,hi] at h ⊢ <;>try rfl
 simp only [Bool.and_self,Bool.true_eq_false,if_false] at h ⊢
 cases hx:Vbfaae.streamAt st z.toNat with
 |none=>rfl
 |some x=>
  rw [hx] at h
  simp only at h ⊢
  by_cases hl:x.packets.length<=i.toNat
  . rw [List.getElem?_eq_none hl];simp only [aD hl]
  . simp only [aF hl] at h;omega
theorem fZ {st:aB} {z i:Int} (h: ¬cC st z i<0): ∃(zn n:Nat) (x:Vbfaae.Stream) (p:Vbfaae.Bytes×Nat×Bool),z=(zn:Int)/\i=(n:Int)/\Vbfaae.streamAt st zn=some x/\x.packets[n]? =some p/\
 ∀f:Vbfaae.Stream->Vbfaae.Bytes×Nat×Bool->aB×List Int,Vbfaae.onPacket st z i f=f x p:=by
 unfold cC at h
 by_cases hzi:(Vbfaae.keyed z&&Vbfaae.within i 0 99)=false
 . rw [aD hzi] at h;exact absurd (by decide) h
 rw [aF hzi] at h
 have hzi:=M.not_false hzi
 rw [Bool.and_eq_true] at hzi
 obtain⟨hz,hi⟩:=hzi
 have hz1:=M.cP.mp hz
 have hi1:=M.cB.mp hi
 cases hx:Vbfaae.streamAt st z.toNat with
 |none=>rw [hx] at h;simp at h
 |some x=>
  rw [hx] at h
  simp only at h
  by_cases hl:x.packets.length<=i.toNat
  . simp only [aD hl] at h;omega
  . refine⟨z.toNat,i.toNat,x,_,by omega,by omega,hx,List.getElem?_eq_getElem (by omega),fun f=> ?_⟩
    unfold Vbfaae.onPacket Vbfaae.onStream
    simp only [hz,hi,hx,Bool.and_self,Bool.true_eq_false,if_false]
    rw [List.getElem?_eq_getElem (by omega)]
theorem bQ.pkt {a:Adr} {H:Hp} {ho:Addr} {L:Lay} {st:aB} (h:bQ a H ho L st) {k n:Nat} {x:Vbfaae.Stream} {p:Vbfaae.Bytes×Nat×Bool} (hx:Vbfaae.streamAt st k=some x) (hp:x.packets[n]? =some p):
 ∃q,(L.gs k).qs[n]? =some q/\((L.gs k).qs.map fun q=>V.ref q.1)[n]? =some (.ref q.1)/\sJ a H q.1 q.2 p:=by
 have hX:=h.srs.at_ k x hx
 have hn:n<(L.gs k).qs.length:=by rw [hX.len];exact(List.getElem?_eq_some_iff.mp hp).1
 refine⟨_,List.getElem?_eq_getElem hn,by rw [List.getElem?_map,List.getElem?_eq_getElem hn];rfl,hX.ps n _ p (List.getElem?_eq_getElem hn) hp⟩
inductive bMo (mk:List Int->Option Vbfaae.Call) (a:Adr) (vs:List V) (H:Hp) (Q:VK):Prop|mk (ho:Addr) (L:Lay) (st:aB) (q:Addr) (ns:List Int) (c:Vbfaae.Call) (z0:vs=[.ref ho,.ref q]) (z1:H q=some (.lst (iv ns))) (z2:ns.length<=2000) (z3:mk ns=some c) (z4:bQ a H ho L st) (z5:M.bO st) (z6: ¬Own ho L st q) (z7: ∀H' L' r,Kept H H' ho L L' st (Vbfaae.step st c).1->bQ a H' ho L' (Vbfaae.step st c).1->(H r=none\/Own ho L st r)->H' r=some (.lst (iv (Vbfaae.step st c).2))->Q (.ref r) H') def fW (mk:List Int->Option Vbfaae.Call) (a:Adr):Sp:=fun vs H Q _=>bMo mk a vs H Q
theorem step_same {a:Adr} {H H1:Hp} {ho:Addr} {L:Lay} {st:aB} {c:Vbfaae.Call} {Q:VK} {xs:List V} {ans:List Int} (k: ∀H' L' r,Kept H H' ho L L' st (Vbfaae.step st c).1->bQ a H' ho L' (Vbfaae.step st c).1->(H r=none\/Own ho L st r)->H' r=some (.lst (iv (Vbfaae.step st c).2))->Q (.ref r) H')
 (hh:bQ a H ho L st) (s1:bJ H H1) (e:Vbfaae.step st c=(st,ans)) (ex:xs=iv ans) {r:Addr} (hr:H1 r=none):Q (.ref r) (upd H1 r (.lst xs)):=by
 have S:=s1.trans (bM (.lst xs) hr)
 rw [e] at k
 exact k _ L r (Kept.refl S) (hh.same S) (.inl (s1.free hr)) (by rw [aO,ex])
def yR (K:aA) (a:Adr):L2.Sp:=fW (fun ns=>match ns with|[k,i]=>some (.packet k i)|_=>none) a
theorem qC:bA ["house","numbers","refusal","octets"] ["house","numbers"] (aV zA):=by decide+kernel
theorem aPh (T:Txt P w K mg a):Ok P w K mg base 4 "call_packet" ["house","numbers"] (yR K a):=by
 refine T.aRa.ok qC (fun vs H Q E h=> ?_) (fun f cdv A outer s H vs Q E hr h=> ?_)
 . obtain⟨ho,L,st,q,ns,c,rfl,_⟩:=h
   rfl
 . obtain⟨ho,L,st,q,ns,c,rfl,hq,hnl,hm,hh,ok,hno,k⟩:=h
   have hu:=fO hr
   refine⟨_,(aK (aZ (i:=2) qC.nd rfl (Or.inl rfl) (aP (fY T) hr (by decide) rfl (aJ (pv 0) (aJ (bZ bD (pv 1) aN (fun _ _=>rfl)) (aJ (bZ bD (pv 1) aN (fun _ _=>rfl)) aL))))) (aK (bR (bC dI (pv 2) aN (bF _)) (aM (aU (bU (aJ (pv 2) aL)))) bB) (aK (aZ (i:=3) qC.nd rfl (Or.inl rfl) (aX (bZ bD (aX (cY hu (aX (pv 0) rfl) (bZ bD (pv 1) aN (fun _ _=>rfl)) (fun _ _=>rfl)) rfl) (bZ bD (pv 1) aN (fun _ _=>rfl)) (fun _ _=>rfl)) rfl)) (aM (aU (bG iJ (bU (aJ (bL bH (by rfl) T.dC PySem.boot_len (aJ (pv 3) aL)) aL)) (pv 3))))))),?_⟩;symm
   obtain⟨z,i,rfl,rfl⟩: ∃z i,ns=[z,i]/\c= .packet z i:=by
    match ns,hm with
    |[z,i],hm=>exact⟨z,i,rfl,(Option.some.inj hm).symm⟩
   obtain⟨dh,hho⟩:=hh.ob
   have hs:Vbfaae.step st (.packet z i)=Vbfaae.onPacket st z i fun _ p=>(st,Vbfaae.counted p.1):=rfl
   refine⟨_,rfl,_,rfl,q,_,_,_,rfl,rfl,SqL.of hq,rfl,_,rfl,q,_,_,_,rfl,rfl,SqL.of hq,rfl,ho,L,st,z,i,rfl,hh,?_⟩
   refine⟨_,rfl,_,_,rfl,rfl,_,rfl,?_⟩
   try dsimp only
   by_cases hr:cC st z i<0
   . refine bI (by rw [aC];exact hr) ?_
     rw [nF hr] at hs
     exact⟨_,rfl,(by show 1<=sizeLine;decide),fun r hrn=>step_same k hh (bJ.refl _) hs rfl hrn⟩
   . refine bK (by rw [aC];exact hr) ?_
     obtain⟨zn,n,x,p,rfl,rfl,hx,hp,hf⟩:=fZ hr
     rw [hf] at hs
     have hd:=hh.pN zn
     rw [hx] at hd
     have hX:=hh.srs.at_ _ _ hx
     obtain⟨dx,ho1⟩:=hX.ob
     obtain⟨g,hg,hg2,hpk⟩:=hh.pkt hx hp
     obtain⟨dq,f',hq1,_⟩:=hpk.ob
     refine⟨_,rfl,_,_,_,_,_,rfl,hho,T.aW.cl,T.aW.no _ (by simp),aY,_,rfl,q,_,_,_,rfl,rfl,SqL.of hq,rfl,L.ds,_,rfl,hd,_,_,_,_,_,rfl,ho1,T.aQ.cl,T.aQ.no _ (by simp),bN,_,rfl,q,_,_,_,rfl,rfl,SqL.of hq,rfl,(L.gs zn).pl,_,_,_,rfl,rfl,SqL.of hX.pl,at_of (j:=n) rfl hg2,_,_,_,_,_,rfl,hq1,T.bT.cl,T.bT.no _ (by simp),cJ,?_⟩
     have hpo:=(ok.sOk x (ok.at_.mp hx).1).pkt p (List.mem_of_getElem? hp)
     have hl:=hpo.1
     refine⟨_,rfl,g.2,_,rfl,.inl (SqL.of hpk.oc),(by show 1<=sizeLine;decide),fun t ht=> ?_⟩
     refine⟨_,rfl,t,g.2,_,_,rfl,rfl,aO,cI ht hpk.oc,cF (by simp;omega),fun r hrn=>step_same k hh (bM _ ht) hs ?_ hrn⟩
     simp [Vbfaae.counted,Vbfaae.ints,iv,ni]
theorem iT {qs:List (Addr×Addr)} {q:Addr×Addr} (h:q∈qs):q.1∈(qs.flatMap fun q=>[q.1,q.2])/\q.2∈(qs.flatMap fun q=>[q.1,q.2]):=
 ⟨List.mem_flatMap.mpr ⟨q,h,by simp⟩,List.mem_flatMap.mpr ⟨q,h,by simp⟩⟩
theorem bEk: ∀{qs:List (Addr×Addr)} {i j:Nat} {q q':Addr×Addr},(qs.flatMap fun q=>[q.1,q.2]).Nodup->qs[i]? =some q->qs[j]? =some q'->i≠j->q.1≠q'.1/\q.1≠q'.2/\q.2≠q'.1/\q.2≠q'.2
 |[],_,_,_,_,_,h,_,_=>by simp at h
 |p::qs,0,0,_,_,_,_,_,h=>by omega
 |p::qs,0,j+1,q,q',nd,h1,h2,_=>by
  simp at h1
  subst h1
  have h2:qs[j]? =some q':=by simpa using h2
  rw [List.flatMap_cons] at nd
  have d:=(List.nodup_append.mp nd).2.2
  have m:=iT (List.mem_of_getElem? h2)
  exact⟨d _ (by simp) _ m.1,d _ (by simp) _ m.2,d _ (by simp) _ m.1,d _ (by simp) _ m.2⟩
 |p::qs,i+1,0,q,q',nd,h1,h2,_=>by
  simp at h2
  subst h2
  have h1:qs[i]? =some q:=by simpa using h1
  rw [List.flatMap_cons] at nd
  have d:=(List.nodup_append.mp nd).2.2
  have m:=iT (List.mem_of_getElem? h1)
  exact⟨(d _ (by simp) _ m.1).symm,(d _ (by simp) _ m.1).symm,(d _ (by simp) _ m.2).symm,(d _ (by simp) _ m.2).symm⟩
 |p::qs,i+1,j+1,q,q',nd,h1,h2,h=>by
  rw [List.flatMap_cons] at nd
  exact bEk (List.nodup_append.mp nd).2.1 (by simpa using h1) (by simpa using h2) (by omega)
theorem bNx {g:GS} (nd:(adS g).Nodup) {q:Addr×Addr} (hq:q∈g.qs):g.s≠q.1/\g.s≠q.2/\g.pk≠q.1/\g.pk≠q.2/\g.pl≠q.1/\g.pl≠q.2/\(g.qs.flatMap fun q=>[q.1,q.2]).Nodup:=by
 unfold adS at nd
 simp only [List.nodup_cons,List.mem_cons,not_or] at nd
 obtain⟨⟨_,_,n1⟩,⟨_,n2⟩,n3,n4⟩:=nd
 have m:=iT hq
 exact⟨fun e=>n1 (e ▸ m.1),fun e=>n1 (e ▸ m.2),fun e=>n2 (e ▸ m.1),fun e=>n2 (e ▸ m.2),fun e=>n3 (e ▸ m.1),fun e=>n3 (e ▸ m.2),n4⟩
theorem aUv {g:GS} {q:Addr×Addr} (hq:q∈g.qs):q.1∈adS g/\q.2∈adS g:=by
 have m:=iT hq
 exact⟨List.mem_cons_of_mem _ (List.mem_cons_of_mem _ (List.mem_cons_of_mem _ m.1)),List.mem_cons_of_mem _ (List.mem_cons_of_mem _ (List.mem_cons_of_mem _ m.2))⟩
theorem cZ.bJx {a:Adr} {H H':Hp} {g:GS} {x:Vbfaae.Stream} {n:Nat} {q:Addr×Addr} {p p':Vbfaae.Bytes×Nat×Bool} (h:cZ a H g x) (nd:(adS g).Nodup) (hq:g.qs[n]? =some q) (hp:x.packets[n]? =some p)
 (fr: ∀b ob,H b=some ob->b≠q.1->b≠q.2->H' b=some ob) (hk:sJ a H' q.1 q.2 p'):cZ a H' g {x with packets:=x.packets.set n p'}:=by
 obtain⟨n1,n2,n3,n4,n5,n6,n7⟩:=bNx nd (List.mem_of_getElem? hq)
 obtain⟨⟨dx,h1⟩,h2,h3,h4,h5⟩:=h
 refine⟨⟨dx,fr _ _ h1 n1 n2⟩,fr _ _ h2 n3 n4,fr _ _ h3 n5 n6,by rw [List.length_set];exact h4,fun i q' p'' hi hpi=> ?_⟩
 by_cases hin:i=n
 . subst hin
   rw [hq] at hi
   cases hi
   rw [List.getElem?_set_self (List.getElem?_eq_some_iff.mp hp).1] at hpi
   cases hpi
   exact hk
 . rw [List.getElem?_set_ne (fun e=>hin e.symm)] at hpi
   obtain⟨⟨d,f,e1,e3⟩,e2⟩:=h5 i q' p'' hi hpi
   obtain⟨m1,m2,m3,m4⟩:=bEk n7 hi hq hin
   exact⟨⟨d,f,fr _ _ e1 m1 m2,e3⟩,fr _ _ e2 m3 m4⟩
theorem bLm {H H':Hp} {ho:Addr} {L:Lay} {st:aB} {k:Nat} {x:Vbfaae.Stream} (ok:M.bO st) (hx:Vbfaae.streamAt st k=some x) {g':GS} {ps:List (Vbfaae.Bytes×Nat×Bool)}
 (fr: ∀b ob,H b=some ob->b∉adS (L.gs k)->H' b=some ob) (nw: ∀b∈adS g',b∈adS (L.gs k)\/H b=none):
 Kept H H' ho L {L with gs:=fun j=>if j=k then g' else L.gs j} st (Vbfaae.withStream st {x with packets:=ps}):=by
 have hk:x.key=k:=(ok.at_.mp hx).2
 refine⟨fun b ob hb hno=>fr b ob hb fun hm=>hno (.inr (.inr (.inr ⟨k,x,hx,hm⟩))),fun b hb=> ?_,fun b hb=> .inl hb⟩
 rcases hb with rfl|rfl|rfl|⟨j,y,hy,hb⟩
 . exact .inl (.inl rfl)
 . exact .inl (.inr (.inl rfl))
 . exact .inl (.inr (.inr (.inl rfl)))
 . rw [ok.zU] at hy
   have hy:(if j=x.key then _ else _)=some y:=hy
   rw [hk] at hy
   have hb:b∈adS (if j=k then g' else L.gs j):=hb
   by_cases hj:j=k
   . rw [aD hj] at hb
     rcases nw b hb with q|q
     . exact .inl (.inr (.inr (.inr ⟨k,x,hx,q⟩)))
     . exact .inr q
   . rw [aF hj] at hb hy
     exact .inl (.inr (.inr (.inr ⟨j,y,hy,hb⟩)))
theorem uW {a:Adr} {H H1:Hp} {ho:Addr} {L:Lay} {st:aB} {c:Vbfaae.Call} {Q:VK} {xs:List V} {ans:List Int} (k: ∀H' L' r,Kept H H' ho L L' st (Vbfaae.step st c).1->bQ a H' ho L' (Vbfaae.step st c).1->(H r=none\/Own ho L st r)->H' r=some (.lst (iv (Vbfaae.step st c).2))->Q (.ref r) H')
 (hh:bQ a H ho L st) (ok:M.bO st) {kn:Nat} {x:Vbfaae.Stream} (hx:Vbfaae.streamAt st kn=some x) {g':GS} {ps:List (Vbfaae.Bytes×Nat×Bool)} (e:Vbfaae.step st c=(Vbfaae.withStream st {x with packets:=ps},ans)) (ex:xs=iv ans)
 (fr: ∀b ob,H b=some ob->b∉adS (L.gs kn)->H1 b=some ob) (hs:cZ a H1 g' {x with packets:=ps}) (hg:g'.s=(L.gs kn).s) (nd':(adS g').Nodup) (nw: ∀b∈adS g',b∈adS (L.gs kn)\/H b=none) {r:Addr} (hr:H1 r=none):Q (.ref r) (upd H1 r (.lst xs)):=by
 rw [e] at k
 have S:=bM (.lst xs) hr
 have hown:H r=none\/Own ho L st r:=by
  by_cases hm:r∈adS (L.gs kn)
  . exact .inr (.inr (.inr (.inr ⟨kn,x,hx,hm⟩)))
  . cases hz:H r with
    |none=>exact .inl rfl
    |some ob=>rw [fr r ob hz hm] at hr;cases hr
 have fr2: ∀b ob,H b=some ob->b∉adS (L.gs kn)->upd H1 r (.lst xs) b=some ob:=fun b ob hb hn=>S _ _ (fr b ob hb hn)
 exact k _ {L with gs:=fun j=>if j=kn then g' else L.gs j} r (bLm ok hx fr2 nw) (hh.up ok hx fr2 (hs.same S) hg nd' nw) hown (by rw [aO,ex])
def eV (st:aB) (z i y b:Int):Int:=if(Vbfaae.within y 0 9999&&Vbfaae.within b 0 7)=false then-1 else if cC st z i<0 then cC st z i else
 match (Vbfaae.streamAt st z.toNat).bind fun x=>x.packets[i.toNat]? with
 |none=>0
 |some p=>if p.1.length<=y.toNat then-3 else if 3<=p.2.1\/p.2.2=true then-8 else 0
inductive aJe (a:Adr) (vs:List V) (H:Hp) (Q:VK):Prop|mk (ho:Addr) (L:Lay) (st:aB) (z i y b:Int) (z0:vs=[.ref ho,.int z,.int i,.int y,.int b]) (z1:bQ a H ho L st) (z2:Q (.int (eV st z i y b)) H) def aMh (K:aA) (a:Adr):L2.Sp:=fun vs H Q _=>aJe a vs H Q
theorem oF:bA ["house","key","i","place","bit","refusal","packet"] ["house","key","i","place","bit"] (aV wA):=by decide+kernel
theorem aLm (T:Txt P w K mg a):Ok P w K mg base 4 "flip_refusal" ["house","key","i","place","bit"] (aMh K a):=by
 refine T.aNw.ok oF (fun vs H Q E h=> ?_) (fun f cdv A outer s H vs Q E hr h=> ?_)
 . obtain⟨ho,L,st,z,i,y,b,rfl,_⟩:=h
   rfl
 . obtain⟨ho,L,st,z,i,y,b,rfl,hh,k⟩:=h
   have hu:=fO hr
   refine⟨_,(aK (bR (PW.pt (kY (eU (cT (aP (dZ T) hr (by decide) rfl (aJ (pv 3) (aJ aN (aJ aN aL)))))) (iK (eU (cT (aP (dZ T) hr (by decide) rfl (aJ (pv 4) (aJ aN (aJ aN aL))))))))) (aM (aU (cA rfl T.cO))) bB) (aK (aZ (i:=5) oF.nd rfl (Or.inl rfl) (aP (fY T) hr (by decide) rfl (aJ (pv 0) (aJ (pv 1) (aJ (pv 2) aL))))) (aK (bR (bC dI (pv 5) aN (bF _)) (aM (aU (pv 5))) bB) (aK (aZ (i:=6) oF.nd rfl (Or.inl rfl) (bZ bD (aX (cY hu (aX (pv 0) rfl) (pv 1) (fun _ _=>rfl)) rfl) (pv 2) (fun _ _=>rfl))) (aK (bR (bC pY (pv 3) (bL bH (by rfl) T.dC PySem.boot_len (aJ (aX (pv 6) rfl) aL)) (bF _)) (aM (aU (cA rfl T.oY))) bB) (aK (bR (PW.pt (kY (bC pY (aX (pv 6) rfl) (cA rfl T.aVu) (bF _)) (iK (cT (aX (pv 6) rfl))))) (aM (aU (cA rfl T.vA))) bB) (aM (aU aN)))))))),?_⟩;symm
   obtain⟨dh,hho⟩:=hh.ob
   unfold eV at k
   refine⟨_,rfl,y,0,9999,rfl,_,rfl,?_⟩
   cases hy:Vbfaae.within y 0 9999 with
   |false=>rw [hy] at k;exact bI rfl (bI rfl k)
   |true=>
    rw [hy] at k
    refine bK (by decide) ⟨_,rfl,b,0,7,rfl,_,rfl,?_⟩
    cases hb:Vbfaae.within b 0 7 with
    |false=>rw [hb] at k;exact bI rfl k
    |true=>
     rw [hb] at k
     rw [aF (by decide)] at k
     refine bK (by decide) ?_
     refine⟨_,rfl,_,rfl,_,rfl,ho,L,st,z,i,rfl,hh,?_⟩
     refine⟨_,rfl,_,_,rfl,rfl,_,rfl,?_⟩
     by_cases hr:cC st z i<0
     . rw [aD hr] at k
       exact bI (by rw [aC];exact hr) ⟨_,rfl,k⟩
     . rw [aF hr] at k
       refine bK (by rw [aC];exact hr) ?_
       obtain⟨zn,n,x,p,rfl,rfl,hx,hp,hf⟩:=fZ hr
       have hy1:=M.cB.mp hy
       rw [aH,aH,hx] at k
       simp only [Option.bind_some,hp] at k
       have hd:=hh.pN zn
       rw [hx] at hd
       have hX:=hh.srs.at_ _ _ hx
       obtain⟨dx,ho1⟩:=hX.ob
       obtain⟨g,hg,hg2,hpk⟩:=hh.pkt hx hp
       obtain⟨dq,f',hq1,hf'⟩:=hpk.ob
       refine⟨_,rfl,_,_,_,_,_,rfl,hho,T.aW.cl,T.aW.no _ (by simp),aY,_,rfl,L.ds,_,rfl,hd,_,_,_,_,_,rfl,ho1,T.aQ.cl,T.aQ.no _ (by simp),bN,_,rfl,(L.gs zn).pl,_,_,_,rfl,rfl,SqL.of hX.pl,at_of (j:=n) rfl hg2,?_⟩
       refine⟨_,rfl,_,rfl,_,_,_,_,_,rfl,hq1,T.bT.cl,T.bT.no _ (by simp),cJ,g.2,_,rfl,.inl (SqL.of hpk.oc),_,_,rfl,rfl,_,rfl,?_⟩
       by_cases hl:p.1.length<=y.toNat
       . rw [aD hl] at k
         exact bI (by rw [aC,aG];omega) k
       . rw [aF hl] at k
         refine bK (by rw [aC,aG];omega) ?_
         refine⟨_,rfl,_,_,_,_,_,rfl,hq1,T.bT.cl,T.bT.no _ (by simp),jR,_,_,rfl,rfl,_,rfl,?_⟩
         cases hbu:p.2.2 with
         |true=>
          rw [aD (.inr hbu)] at k
          by_cases h3:(3:Int)<=f'
          . exact bI (by rw [aC];exact h3) (bI rfl k)
          . refine bK (by rw [aC];exact h3) ?_
            refine⟨_,rfl,_,_,_,_,_,rfl,hq1,T.bT.cl,T.bT.no _ (by simp),fM,_,rfl,?_⟩
            rw [hbu]
            exact bI rfl k
         |false=>
          have hfe:=hf' hbu
          by_cases h3:3<=p.2.1
          . rw [aD (.inl h3)] at k
            exact bI (by rw [aC];omega) (bI rfl k)
          . rw [aF (by simp [hbu];omega)] at k
            refine bK (by rw [aC];omega) ?_
            refine⟨_,rfl,_,_,_,_,_,rfl,hq1,T.bT.cl,T.bT.no _ (by simp),fM,_,rfl,?_⟩
            rw [hbu]
            exact bK (by decide) k
theorem bHa (st:aB) (z i y b:Int):Vbfaae.step st (.flip z i y b)=if eV st z i y b<0 then(st,[eV st z i y b]) else Vbfaae.onPacket st z i fun x p=>(Vbfaae.withStream st (Vbfaae.setPacket x i.toNat (Vbfaae.turned p.1 (8*y.toNat+(7-b.toNat)),p.2.1+1,false)),[0]):=by
 by_cases h1:(Vbfaae.within y 0 9999&&Vbfaae.within b 0 7)=false
 . have e:eV st z i y b= -1:=aD h1
   rw [e,aD (by decide)]
   simp only [Vbfaae.step]
   rw [aD h1]
 . by_cases h2:cC st z i<0
   . have e:eV st z i y b=cC st z i:=by unfold eV;rw [aF h1,aD h2]
     rw [e,aD h2]
     simp only [Vbfaae.step]
     rw [aF h1,nF h2]
   . obtain⟨zn,n,x,p,rfl,rfl,hx,hp,hf⟩:=fZ h2
     have e:eV st zn n y b=if p.1.length<=y.toNat then-3 else if 3<=p.2.1\/p.2.2=true then-8 else 0:=by
      unfold eV
      rw [aF h1,aF h2,aH,aH,hx]
      simp only [Option.bind_some,hp]
     rw [e]
     simp only [Vbfaae.step]
     rw [aF h1,hf,hf]
     by_cases h3:p.1.length<=y.toNat
     . simp only [aD h3];rfl
     . simp only [aF h3]
       by_cases h4:3<=p.2.1\/p.2.2=true
       . simp only [aD h4];rfl
       . simp only [aF h4];rfl
theorem bLc {st:aB} {z i y b:Int} (h: ¬eV st z i y b<0): ¬cC st z i<0/\(0<=y/\y<=9999)/\(0<=b/\b<=7)/\ ∀x p,Vbfaae.streamAt st z.toNat=some x->x.packets[i.toNat]? =some p->y.toNat<p.1.length/\p.2.1<3/\p.2.2=false:=by
 unfold eV at h
 by_cases h1:(Vbfaae.within y 0 9999&&Vbfaae.within b 0 7)=false
 . rw [aD h1] at h;exact absurd (by decide) h
 . rw [aF h1] at h
   have h1:=M.not_false h1
   rw [Bool.and_eq_true,M.cB,M.cB] at h1
   by_cases h2:cC st z i<0
   . rw [aD h2] at h;exact absurd h2 h
   . rw [aF h2] at h
     refine⟨h2,h1.1,h1.2,fun x p hx hp=> ?_⟩
     rw [hx] at h
     simp only [Option.bind_some,hp] at h
     by_cases h3:p.1.length<=y.toNat
     . rw [aD h3] at h;exact absurd (by decide) h
     . rw [aF h3] at h
       by_cases h4:3<=p.2.1\/p.2.2=true
       . rw [aD h4] at h;exact absurd (by decide) h
       . simp only [not_or] at h4
         exact⟨by omega,by omega,by cases e:p.2.2<;>simp_all⟩
def aGb (K:aA) (a:Adr):L2.Sp:=fW (fun ns=>match ns with|[k,i,y,b]=>some (.flip k i y b)|_=>none) a
theorem lN:bA ["house","numbers","place","bit","refusal","packet"] ["house","numbers"] (aV aGr):=by decide+kernel
theorem aWd (T:Txt P w K mg a):Ok P w K mg base 5 "call_flip" ["house","numbers"] (aGb K a):=by
 refine T.aYm.ok lN (fun vs H Q E h=> ?_) (fun f cdv A outer s H vs Q E hr h=> ?_)
 . obtain⟨ho,L,st,q,ns,c,rfl,_⟩:=h
   rfl
 . obtain⟨ho,L,st,q,ns,c,rfl,hq,hnl,hm,hh,ok,hno,k⟩:=h
   have hu:=fO hr
   refine⟨_,(aK (aZ (i:=2) lN.nd rfl (Or.inl rfl) (bZ bD (pv 1) aN (fun _ _=>rfl))) (aK (aZ (i:=3) lN.nd rfl (Or.inl rfl) (bZ bD (pv 1) aN (fun _ _=>rfl))) (aK (aZ (i:=4) lN.nd rfl (Or.inl rfl) (aP (aLm T) hr (by decide) rfl (aJ (pv 0) (aJ (bZ bD (pv 1) aN (fun _ _=>rfl)) (aJ (bZ bD (pv 1) aN (fun _ _=>rfl)) (aJ (pv 2) (aJ (pv 3) aL))))))) (aK (bR (bC dI (pv 4) aN (bF _)) (aM (aU (bU (aJ (pv 4) aL)))) bB) (aK (aZ (i:=5) lN.nd rfl (Or.inl rfl) (bZ bD (aX (cY hu (aX (pv 0) rfl) (bZ bD (pv 1) aN (fun _ _=>rfl)) (fun _ _=>rfl)) rfl) (bZ bD (pv 1) aN (fun _ _=>rfl)) (fun _ _=>rfl))) (aK (fB (aP (aKg T) hr (by decide) rfl (aJ (pv 5) (aJ (bG dN (bG cR (bG lH aN (pv 2)) aN) (pv 3)) aL)))) (aK (aUc (pv 5) aN qW) (aM (aU (bU (aJ aN aL))))))))))),?_⟩;symm
   obtain⟨z,i,y,b,rfl,rfl⟩: ∃z i y b,ns=[z,i,y,b]/\c= .flip z i y b:=by
    match ns,hm with
    |[z,i,y,b],hm=>exact⟨z,i,y,b,rfl,(Option.some.inj hm).symm⟩
   obtain⟨dh,hho⟩:=hh.ob
   have hs:=bHa st z i y b
   refine⟨_,rfl,q,_,_,_,rfl,rfl,SqL.of hq,rfl,?_⟩
   refine⟨_,rfl,q,_,_,_,rfl,rfl,SqL.of hq,rfl,?_⟩
   refine⟨_,rfl,_,rfl,q,_,_,_,rfl,rfl,SqL.of hq,rfl,_,rfl,q,_,_,_,rfl,rfl,SqL.of hq,rfl,_,rfl,_,rfl,ho,L,st,z,i,y,b,rfl,hh,?_⟩
   refine⟨_,rfl,_,_,rfl,rfl,_,rfl,?_⟩
   by_cases hr:eV st z i y b<0
   . rw [aD hr] at hs
     exact bI (by rw [aC];exact hr) ⟨_,rfl,(by show 1<=sizeLine;decide),fun r hrn=>step_same k hh (bJ.refl _) hs rfl hrn⟩
   . rw [aF hr] at hs
     refine bK (by rw [aC];exact hr) ?_
     obtain⟨hr2,hy,hb,hfl⟩:=bLc hr
     obtain⟨zn,n,x,p,rfl,rfl,hx,hp,hf⟩:=fZ hr2
     obtain⟨hyl,h3,hbu⟩:=hfl x p hx hp
     rw [hf,aH] at hs
     obtain⟨yn,rfl⟩: ∃yn:Nat,y=(yn:Int):=⟨y.toNat,by omega⟩
     obtain⟨bn,rfl⟩: ∃bn:Nat,b=(bn:Int):=⟨b.toNat,by omega⟩
     simp only [aH] at hs hyl
     have hd:=hh.pN zn
     rw [hx] at hd
     have hX:=hh.srs.at_ _ _ hx
     obtain⟨dx,ho1⟩:=hX.ob
     obtain⟨g,hg,hg2,hpk⟩:=hh.pkt hx hp
     obtain⟨dq,f',hq1,hf'⟩:=hpk.ob
     have hpo:=(ok.sOk x (ok.at_.mp hx).1).pkt p (List.mem_of_getElem? hp)
     have hgm:=List.mem_of_getElem? hg
     have hgn:g.1≠g.2:=qY hq1 hpk.oc (by intro e;cases e)
     refine⟨_,rfl,_,_,_,_,_,rfl,hho,T.aW.cl,T.aW.no _ (by simp),aY,_,rfl,q,_,_,_,rfl,rfl,SqL.of hq,rfl,L.ds,_,rfl,hd,_,_,_,_,_,rfl,ho1,T.aQ.cl,T.aQ.no _ (by simp),bN,_,rfl,q,_,_,_,rfl,rfl,SqL.of hq,rfl,(L.gs zn).pl,_,_,_,rfl,rfl,SqL.of hX.pl,at_of (j:=n) rfl hg2,?_⟩
     refine⟨_,rfl,_,rfl,_,_,rfl,rfl,.inl ⟨by decide,by decide⟩,_,_,rfl,rfl,_,rfl,_,_,rfl,rfl,g.1,g.2,p,8*yn+(7-bn),?_,hpk,hpo.2.1,by omega,?_⟩
     . have e:(8:Int)*yn+7-bn=((8*yn+(7-bn):Nat):Int):=by omega
       simp only [e]
     have hq2:upd H g.2 (.lst (ni (Vbfaae.turned p.1 (8*yn+(7-bn))))) g.1=some (.ins a.cPacket dq (iD (.ref g.2) (.int f') (.bl p.2.2))):=by rw [aR hgn];exact hq1
     refine⟨_,rfl,_,_,_,_,_,rfl,hq2,T.bT.cl,T.bT.no _ (by simp),jR,_,_,rfl,rfl,_,_,hq2,(by simp),?_⟩
     rw [aLv]
     refine⟨(by show 1<=sizeLine;decide),fun r hrn=>uW k hh ok hx (g':=L.gs zn) (ps:=x.packets.set n (Vbfaae.turned p.1 (8*yn+(7-bn)),p.2.1+1,false)) hs rfl ?_ ?_ rfl (hh.nd zn x hx) (fun b hb=> .inl hb) hrn⟩
     . intro b ob hb' hn
       have m:=aUv hgm
       rw [aR (fun e=>hn (by rw [e];exact m.1)),aR (fun e=>hn (by rw [e];exact m.2))];exact hb'
     . refine hX.bJx (hh.nd zn x hx) hg hp (fun b ob hb' n1 n2=>by rw [aR n1,aR n2];exact hb') ⟨⟨dq,f'+1,?_,fun _=> ?_⟩,?_⟩
       . rw [aO,hbu]
       . rw [hf' hbu];simp
       . rw [aR hgn.symm,aO]
theorem aTs {α β:Type} (f:α->β): ∀(l:List α) (i:Nat),(l.map f).eraseIdx i=(l.eraseIdx i).map f
 |[],i=>by simp
 |x::l,0=>rfl
 |x::l,i+1=>by simp [aTs f l i]
theorem aTl {α:Type} {l:List α} {n i:Nat} {x:α} (h:(l.eraseIdx n)[i]? =some x): ∃j,l[j]? =some x/\j=if i<n then i else i+1:=by
 rw [List.getElem?_eraseIdx] at h
 split at h
 . rename_i hi;exact⟨i,h,by rw [aD hi]⟩
 . rename_i hi;exact⟨i+1,h,by rw [aF hi]⟩
theorem bIc {qs qs':List (Addr×Addr)} (h:qs'.Sublist qs):(qs'.flatMap fun q=>[q.1,q.2]).Sublist (qs.flatMap fun q=>[q.1,q.2]):=by
 induction h with
 |slnil=>exact List.Sublist.refl _
 |cons a _ ih=>rw [List.flatMap_cons];exact ih.trans (List.sublist_append_right _ _)
 |cons_cons a _ ih=>rw [List.flatMap_cons,List.flatMap_cons];exact List.Sublist.append_left ih _
theorem bEb {g:GS} {qs':List (Addr×Addr)} (h:qs'.Sublist g.qs):(adS {g with qs:=qs'}).Sublist (adS g):=by
 unfold adS
 exact .cons_cons _ (.cons_cons _ (.cons_cons _ (bIc h)))
def aGe (K:aA) (a:Adr):L2.Sp:=fW (fun ns=>match ns with|[k,i]=>some (.lose k i)|_=>none) a
theorem uR:bA ["house","numbers","refusal","packets"] ["house","numbers"] (aV aGu):=by decide+kernel
theorem aWg (T:Txt P w K mg a):Ok P w K mg base 4 "call_lose" ["house","numbers"] (aGe K a):=by
 refine T.aYp.ok uR (fun vs H Q E h=> ?_) (fun f cdv A outer s H vs Q E hr h=> ?_)
 . obtain⟨ho,L,st,q,ns,c,rfl,_⟩:=h
   rfl
 . obtain⟨ho,L,st,q,ns,c,rfl,hq,hnl,hm,hh,ok,hno,k⟩:=h
   have hu:=fO hr
   refine⟨_,(aK (aZ (i:=2) uR.nd rfl (Or.inl rfl) (aP (fY T) hr (by decide) rfl (aJ (pv 0) (aJ (bZ bD (pv 1) aN (fun _ _=>rfl)) (aJ (bZ bD (pv 1) aN (fun _ _=>rfl)) aL))))) (aK (bR (bC dI (pv 2) aN (bF _)) (aM (aU (bU (aJ (pv 2) aL)))) bB) (aK (aZ (i:=3) uR.nd rfl (Or.inl rfl) (aX (cY hu (aX (pv 0) rfl) (bZ bD (pv 1) aN (fun _ _=>rfl)) (fun _ _=>rfl)) rfl)) (aK (fB (rB PySem.F.plainAttrs_list PySem.F.slot_list_pop PySem.F.type_list_pop bIu (pv 3) (aJ (bZ bD (pv 1) aN (fun _ _=>rfl)) aL))) (aM (aU (bU (aJ (bL bH (by rfl) T.dC PySem.boot_len (aJ (pv 3) aL)) aL)))))))),?_⟩;symm
   obtain⟨z,i,rfl,rfl⟩: ∃z i,ns=[z,i]/\c= .lose z i:=by
    match ns,hm with
    |[z,i],hm=>exact⟨z,i,rfl,(Option.some.inj hm).symm⟩
   obtain⟨dh,hho⟩:=hh.ob
   have hs:Vbfaae.step st (.lose z i)=Vbfaae.onPacket st z i fun x _=>(Vbfaae.withStream st {x with packets:=x.packets.take i.toNat++x.packets.drop (i.toNat+1)},[((x.packets.length:Int)-1)]):=rfl
   refine⟨_,rfl,_,rfl,q,_,_,_,rfl,rfl,SqL.of hq,rfl,_,rfl,q,_,_,_,rfl,rfl,SqL.of hq,rfl,ho,L,st,z,i,rfl,hh,?_⟩
   refine⟨_,rfl,_,_,rfl,rfl,_,rfl,?_⟩
   by_cases hr:cC st z i<0
   . rw [nF hr] at hs
     exact bI (by rw [aC];exact hr) ⟨_,rfl,(by show 1<=sizeLine;decide),fun r hrn=>step_same k hh (bJ.refl _) hs rfl hrn⟩
   . refine bK (by rw [aC];exact hr) ?_
     obtain⟨zn,n,x,p,rfl,rfl,hx,hp,hf⟩:=fZ hr
     rw [hf,aH,<-List.eraseIdx_eq_take_drop_succ] at hs
     have hd:=hh.pN zn
     rw [hx] at hd
     have hX:=hh.srs.at_ _ _ hx
     obtain⟨dx,ho1⟩:=hX.ob
     obtain⟨g,hg,hg2,hpk⟩:=hh.pkt hx hp
     have hnl':=(List.getElem?_eq_some_iff.mp hg).1
     have hln:=(List.getElem?_eq_some_iff.mp hp).1
     have few:=(ok.sOk x (ok.at_.mp hx).1).few
     refine⟨_,rfl,_,_,_,_,_,rfl,hho,T.aW.cl,T.aW.no _ (by simp),aY,_,rfl,q,_,_,_,rfl,rfl,SqL.of hq,rfl,L.ds,_,rfl,hd,_,_,_,_,_,rfl,ho1,T.aQ.cl,T.aQ.no _ (by simp),bN,?_⟩
     refine⟨_,rfl,.inl ⟨rfl,_,SqL.of hX.pl⟩,_,rfl,q,_,_,_,rfl,rfl,SqL.of hq,rfl,(L.gs zn).pl,_,_,n,_,rfl,rfl,hX.pl,by omega,by omega,?_,hg2,?_⟩
     . rw [seqIndex_of (by omega) (by rw [aG];omega),aH]
     rw [aTs]
     refine⟨_,rfl,(L.gs zn).pl,_,rfl,.inl (SqL.of aO),(by show 1<=sizeLine;decide),fun r hrn=>uW k hh ok hx (g':={L.gs zn with qs:=(L.gs zn).qs.eraseIdx n}) (ps:=x.packets.eraseIdx n) hs ?_ ?_ ?_ rfl ((hh.nd zn x hx).sublist (bEb (List.eraseIdx_sublist _ _))) (fun b hb=> .inl ((bEb (List.eraseIdx_sublist _ _)).subset hb)) hrn⟩
     . have:((L.gs zn).qs.eraseIdx n).length=x.packets.length-1:=by rw [List.length_eraseIdx_of_lt hnl',hX.len]
       simp [this];omega
     . intro b ob hb' hn
       rw [aR (fun e=>hn (by rw [e];simp [adS]))];exact hb'
     . have nd:=hh.nd zn x hx
       unfold adS at nd
       simp only [List.nodup_cons,List.mem_cons,not_or] at nd
       obtain⟨⟨n1,n2,_⟩,⟨n3,_⟩,n4,_⟩:=nd
       refine⟨⟨dx,by show upd H _ _ _=_;rw [aR n2];exact ho1⟩,by show upd H _ _ _=_;rw [aR n3];exact hX.pk,aO,?_,fun j q' p' hj hpj=> ?_⟩
       . show ((L.gs zn).qs.eraseIdx n).length=(x.packets.eraseIdx n).length
         rw [List.length_eraseIdx_of_lt hnl',List.length_eraseIdx_of_lt hln,hX.len]
       . obtain⟨j1,h1,e1⟩:=aTl hj
         obtain⟨j2,h2,e2⟩:=aTl hpj
         rw [<-e2] at e1
         subst e1
         obtain⟨⟨d,f,g1,g3⟩,g2⟩:=hX.ps _ q' p' h1 h2
         have m:=iT (List.mem_of_getElem? h1)
         exact⟨⟨d,f,by rw [aR (fun e=>n4 (by rw [<-e];exact m.1))];exact g1,g3⟩,by rw [aR (fun e=>n4 (by rw [<-e];exact m.2))];exact g2⟩
theorem aYc {g:GS} {nq no:Addr} {b:Addr}:b∈adS {g with qs:=g.qs++[(nq,no)]}↔b∈adS g\/b=nq\/b=no:=by
 unfold adS
 simp only [List.mem_cons,List.flatMap_append,List.mem_append,List.flatMap_cons,List.flatMap_nil,List.append_nil,List.not_mem_nil,or_false]
 constructor
 . rintro (h|h|h|h|h)
   . exact .inl (.inl h)
   . exact .inl (.inr (.inl h))
   . exact .inl (.inr (.inr (.inl h)))
   . exact .inl (.inr (.inr (.inr h)))
   . exact .inr h
 . rintro ((h|h|h|h)|h)
   . exact .inl h
   . exact .inr (.inl h)
   . exact .inr (.inr (.inl h))
   . exact .inr (.inr (.inr (.inl h)))
   . exact .inr (.inr (.inr (.inr h)))
theorem aJu {g:GS} {nq no:Addr} (nd:(adS g).Nodup) (h1:nq∉adS g) (h2:no∉adS g) (h3:nq≠no):(adS {g with qs:=g.qs++[(nq,no)]}).Nodup:=by
 have e:adS {g with qs:=g.qs++[(nq,no)]}=adS g++[nq,no]:=by
  unfold adS;simp
 rw [e]
 refine List.nodup_append.mpr ⟨nd,by simp [h3],fun x hx y hy e=> ?_⟩
 subst e
 simp at hy
 rcases hy with rfl|rfl
 . exact h1 hx
 . exact h2 hx
theorem cZ.snoc {a:Adr} {H H':Hp} {g:GS} {x:Vbfaae.Stream} {nq no:Addr} {p:Vbfaae.Bytes×Nat×Bool} (h:cZ a H g x) (nd:(adS g).Nodup) (fr: ∀b ob,H b=some ob->b≠g.pl->H' b=some ob)
 (hpl:H' g.pl=some (.lst ((g.qs.map fun q=>V.ref q.1)++[.ref nq]))) (hp:sJ a H' nq no p):cZ a H' {g with qs:=g.qs++[(nq,no)]} {x with packets:=x.packets++[p]}:=by
 unfold adS at nd
 simp only [List.nodup_cons,List.mem_cons,not_or] at nd
 obtain⟨⟨n1,n2,_⟩,⟨n3,_⟩,n4,_⟩:=nd
 obtain⟨⟨dx,h1⟩,h2,h3,h4,h5⟩:=h
 refine⟨⟨dx,fr _ _ h1 n2⟩,fr _ _ h2 n3,by rw [hpl];simp,by show (g.qs++[(nq,no)]).length=(x.packets++[p]).length;simp [h4],fun j q' p' hj hpj=> ?_⟩
 have hj:(g.qs++[(nq,no)])[j]? =some q':=hj
 have hpj:(x.packets++[p])[j]? =some p':=hpj
 by_cases hjl:j<g.qs.length
 . rw [List.getElem?_append_left hjl] at hj
   rw [List.getElem?_append_left (by omega)] at hpj
   obtain⟨⟨d,f,g1,g3⟩,g2⟩:=h5 j q' p' hj hpj
   have m:=iT (List.mem_of_getElem? hj)
   exact⟨⟨d,f,fr _ _ g1 (fun e=>n4 (by rw [<-e];exact m.1)),g3⟩,fr _ _ g2 (fun e=>n4 (by rw [<-e];exact m.2))⟩
 . have hil:=(List.getElem?_eq_some_iff.mp hj).1
   rw [List.length_append] at hil
   simp only [List.length_cons,List.length_nil] at hil
   have:j=g.qs.length:=by omega
   subst this
   rw [List.getElem?_append_right (Nat.le_refl _),Nat.sub_self] at hj
   rw [List.getElem?_append_right (by omega),h4,Nat.sub_self] at hpj
   simp at hj hpj
   subst hj hpj
   exact hp
theorem lE {a:Adr} {H:Hp} {g:GS} {x:Vbfaae.Stream} (h:cZ a H g x) {b:Addr} (hb:H b=none):b∉adS g:=fun hm=>by
 obtain⟨ob,e,_⟩:=h.some_ b hm
 rw [hb] at e;cases e
def aBv (K:aA) (a:Adr):L2.Sp:=fW (fun ns=>match ns with|[k,i]=>some (.twice k i)|_=>none) a
theorem sE:bA ["house","numbers","refusal","packets"] ["house","numbers"] (aV aCc):=by decide+kernel
theorem aRv (T:Txt P w K mg a):Ok P w K mg base 4 "call_twice" ["house","numbers"] (aBv K a):=by
 refine T.aVj.ok sE (fun vs H Q E h=> ?_) (fun f cdv A outer s H vs Q E hr h=> ?_)
 . obtain⟨ho,L,st,q,ns,c,rfl,_⟩:=h
   rfl
 . obtain⟨ho,L,st,q,ns,c,rfl,hq,hnl,hm,hh,ok,hno,k⟩:=h
   have hu:=fO hr
   refine⟨_,(aK (aZ (i:=2) sE.nd rfl (Or.inl rfl) (aP (fY T) hr (by decide) rfl (aJ (pv 0) (aJ (bZ bD (pv 1) aN (fun _ _=>rfl)) (aJ (bZ bD (pv 1) aN (fun _ _=>rfl)) aL))))) (aK (bR (bC dI (pv 2) aN (bF _)) (aM (aU (bU (aJ (pv 2) aL)))) bB) (aK (aZ (i:=3) sE.nd rfl (Or.inl rfl) (aX (cY hu (aX (pv 0) rfl) (bZ bD (pv 1) aN (fun _ _=>rfl)) (fun _ _=>rfl)) rfl)) (aK (bR (bC pY (bL bH (by rfl) T.dC PySem.boot_len (aJ (pv 3) aL)) (cA rfl T.pQ) (bF _)) (aM (aU (bU (aJ (cA rfl T.aCq) aL)))) bB) (aK (fB (rB PySem.F.plainAttrs_list PySem.F.slot_list_append PySem.F.type_list_append mK (pv 3) (aJ (aP (pX T) hr (by decide) rfl (aJ (bZ bD (pv 3) (bZ bD (pv 1) aN (fun _ _=>rfl)) (fun _ _=>rfl)) aL)) aL))) (aM (aU (bU (aJ (bL bH (by rfl) T.dC PySem.boot_len (aJ (pv 3) aL)) aL))))))))),?_⟩;symm
   obtain⟨z,i,rfl,rfl⟩: ∃z i,ns=[z,i]/\c= .twice z i:=by
    match ns,hm with
    |[z,i],hm=>exact⟨z,i,rfl,(Option.some.inj hm).symm⟩
   obtain⟨dh,hho⟩:=hh.ob
   have hs:Vbfaae.step st (.twice z i)=Vbfaae.onPacket st z i fun x p=>if Vbfaae.PACKETS<=x.packets.length then(st,[-9]) else(Vbfaae.withStream st {x with packets:=x.packets++[p]},[((x.packets.length:Int)+1)]):=rfl
   refine⟨_,rfl,_,rfl,q,_,_,_,rfl,rfl,SqL.of hq,rfl,_,rfl,q,_,_,_,rfl,rfl,SqL.of hq,rfl,ho,L,st,z,i,rfl,hh,?_⟩
   refine⟨_,rfl,_,_,rfl,rfl,_,rfl,?_⟩
   by_cases hr:cC st z i<0
   . rw [nF hr] at hs
     exact bI (by rw [aC];exact hr) ⟨_,rfl,(by show 1<=sizeLine;decide),fun r hrn=>step_same k hh (bJ.refl _) hs rfl hrn⟩
   . refine bK (by rw [aC];exact hr) ?_
     obtain⟨zn,n,x,p,rfl,rfl,hx,hp,hf⟩:=fZ hr
     rw [hf] at hs
     have e20:Vbfaae.PACKETS=20:=rfl
     rw [e20] at hs
     have hd:=hh.pN zn
     rw [hx] at hd
     have hX:=hh.srs.at_ _ _ hx
     obtain⟨dx,ho1⟩:=hX.ob
     obtain⟨g,hg,hg2,hpk⟩:=hh.pkt hx hp
     refine⟨_,rfl,_,_,_,_,_,rfl,hho,T.aW.cl,T.aW.no _ (by simp),aY,_,rfl,q,_,_,_,rfl,rfl,SqL.of hq,rfl,L.ds,_,rfl,hd,_,_,_,_,_,rfl,ho1,T.aQ.cl,T.aQ.no _ (by simp),bN,?_⟩
     refine⟨_,rfl,(L.gs zn).pl,_,rfl,.inl (SqL.of hX.pl),_,_,rfl,rfl,_,rfl,?_⟩
     have hlen:=hX.len
     by_cases h20:20<=x.packets.length
     . rw [aD h20] at hs
       exact bI (by rw [aC,aG];omega) ⟨(by show 1<=sizeLine;decide),fun r hrn=>step_same k hh (bJ.refl _) hs rfl hrn⟩
     . rw [aF h20] at hs
       refine bK (by rw [aC,aG];omega) ?_
       refine⟨_,rfl,.inl ⟨rfl,_,SqL.of hX.pl⟩,_,rfl,_,rfl,q,_,_,_,rfl,rfl,SqL.of hq,rfl,(L.gs zn).pl,_,_,_,rfl,rfl,SqL.of hX.pl,at_of (j:=n) rfl hg2,g.1,g.2,p,rfl,hpk,fun H1 nq no s1 hnq hno' hp1=> ?_⟩
       have hpl1:=s1 _ _ hX.pl
       refine⟨(L.gs zn).pl,_,_,rfl,rfl,hpl1,Nat.lt_of_lt_of_le (by rw [aG];omega) (by decide:1000<=sizeLine),?_⟩
       have nn:nq≠(L.gs zn).pl:=fun e=>by rw [e,hX.pl] at hnq;cases hnq
       have nn2:no≠(L.gs zn).pl:=fun e=>by rw [e,hX.pl] at hno';cases hno'
       have nqo:nq≠no:=by
        obtain⟨d,f,e1,_⟩:=hp1.ob
        exact qY e1 hp1.oc (by intro z;cases z)
       have nd:=hh.nd zn x hx
       refine⟨_,rfl,(L.gs zn).pl,_,rfl,.inl (SqL.of aO),(by show 1<=sizeLine;decide),fun r hrn=>uW k hh ok hx (g':={L.gs zn with qs:=(L.gs zn).qs++[(nq,no)]}) (ps:=x.packets++[p]) hs ?_ ?_ ?_ rfl (aJu nd (lE hX hnq) (lE hX hno') nqo) (fun b hb=> ?_) hrn⟩
       . simp [hlen]
       . intro b ob hb' hn
         rw [aR (fun e=>hn (by rw [e];simp [adS]))];exact s1 _ _ hb'
       . refine hX.snoc nd (fun b ob hb' hn=>by rw [aR hn];exact s1 _ _ hb') aO ?_
         obtain⟨⟨d,f,e1,e3⟩,e2⟩:=hp1
         exact⟨⟨d,f,by rw [aR nn];exact e1,e3⟩,by rw [aR nn2];exact e2⟩
       . rcases aYc.mp hb with h|rfl|rfl
         . exact .inl h
         . exact .inr hnq
         . exact .inr hno'
def cH (st:aB) (z:Int):Int:=if Vbfaae.keyed z=false then-1 else if(Vbfaae.streamAt st z.toNat).isNone=true then-4 else 0
theorem bQ.aZq {a:Adr} {H:Hp} {ho:Addr} {L:Lay} {st:aB} (h:bQ a H ho L st) (z:Int): ∃kvs,H L.ds=some (.dK kvs)/\(if Vbfaae.keyed z=false then-1 else if dO kvs (Sum.inl z)=none then-4 else 0)=cH st z:=by
 obtain⟨kvs,e,_,e3⟩:=h.srs.di
 refine⟨kvs,e,?_⟩
 unfold cH
 by_cases hz:Vbfaae.keyed z=false
 . rw [aD hz,aD hz]
 . rw [aF hz,aF hz]
   have hz1:=M.cP.mp (M.not_false hz)
   obtain⟨zn,rfl⟩: ∃zn:Nat,z=(zn:Int):=⟨z.toNat,by omega⟩
   rw [e3 zn,aH]
   cases Vbfaae.streamAt st zn<;>simp
theorem gM {st:aB} {z:Int} (h:cH st z<0) (f:Vbfaae.Stream->aB×List Int):Vbfaae.onStream st z f=(st,[cH st z]):=by
 unfold cH at h ⊢
 unfold Vbfaae.onStream
 by_cases hz:Vbfaae.keyed z=false
 . rw [aD hz,aD hz]
 . rw [aF hz] at h ⊢
   rw [aF hz]
   cases hx:Vbfaae.streamAt st z.toNat with
   |none=>rfl
   |some x=>rw [hx] at h;simp at h
theorem dH {st:aB} {z:Int} (h: ¬cH st z<0): ∃(zn:Nat) (x:Vbfaae.Stream),z=(zn:Int)/\Vbfaae.streamAt st zn=some x/\ ∀f:Vbfaae.Stream->aB×List Int,Vbfaae.onStream st z f=f x:=by
 unfold cH at h
 by_cases hz:Vbfaae.keyed z=false
 . rw [aD hz] at h;exact absurd (by decide) h
 . rw [aF hz] at h
   have hz1:=M.cP.mp (M.not_false hz)
   cases hx:Vbfaae.streamAt st z.toNat with
   |none=>rw [hx] at h;exact absurd (by decide) h
   |some x=>
    refine⟨z.toNat,x,by omega,hx,fun f=> ?_⟩
    unfold Vbfaae.onStream
    rw [aF hz,hx]
inductive aJm (a:Adr) (vs:List V) (H:Hp) (Q:VK):Prop|mk (g:GS) (x:Vbfaae.Stream) (z0:vs=[.ref g.s]) (z1:cZ a H g x) (z2:x.packets.length<=1000) (z3:sI H Q (ni (x.packets.map fun p=>p.1.length))) def aMt (K:aA) (a:Adr):L2.Sp:=fun vs H Q _=>aJm a vs H Q
theorem oJ:bA ["stream","packet"] ["stream"] (aV wJ):=by decide+kernel
theorem vD (T:Txt P w K mg a):Ok P w K mg base 1 "packet_sizes" ["stream"] (aMt K a):=by
 refine T.aOe.ok oJ (fun vs H Q E h=> ?_) (fun f cdv A outer s H vs Q E hr h=> ?_)
 . obtain⟨g,x,rfl,_⟩:=h
   rfl
 . obtain⟨g,x,rfl,hx,hf,k⟩:=h
   refine⟨_,(aM (aU (tK (own:=[("packet",1)]) rfl oJ.nd (lJ (aX (pv 0) rfl)) (eZ (by rfl)) (fun _ _ _ _ _=>(cM (i:=1) oJ.nd rfl (Or.inl rfl))) (fun _ _ _ _ _=>iQ) (fun _ _ _ _ _=>(bL (aBa (K:=K) rfl) (by rfl) T.dC PySem.boot_len (aJ (aNd (K:=K) rfl (pv 1) rfl) aL)))))),?_⟩;symm
   obtain⟨dx,ho⟩:=hx.ob
   refine⟨_,rfl,_,_,_,_,_,rfl,ho,T.aQ.cl,T.aQ.no _ (by simp),bN,g.pl,rfl,⟨_,SqL.of hx.pl⟩,fun D hD=> ?_⟩
   refine sZ (K:=K) (xs:=g.qs.map fun q=>V.ref q.1) (ys:=ni (x.packets.map fun p=>p.1.length)) (SqL.of hx.pl) hD (by simp [hx.len];exact cF (by omega)) (by simp [hx.len]) (fun i v y hv hy H2 Kt Al hs hk=> ?_) (fun H2 hs h2=>k _ _ hs hD h2)
   obtain⟨q,hq,rfl⟩:=uH hv
   have hil:=(List.getElem?_eq_some_iff.mp hq).1
   obtain⟨p,hp⟩: ∃p,x.packets[i]? =some p:=⟨_,List.getElem?_eq_getElem (by rw [<-hx.len];exact hil)⟩
   have hpk:=(hx.ps i q p hq hp).same hs
   obtain⟨d,f,e1,_⟩:=hpk.ob
   simp [ni,hp] at hy
   subst hy
   refine⟨rfl,?_⟩
   refine⟨_,rfl,_,_,_,_,_,rfl,e1,T.bT.cl,T.bT.no _ (by simp),cJ,q.2,_,rfl,.inl (SqL.of hpk.oc),?_⟩
   rw [aG]
   exact hk _ (bJ.refl _)
def vM (K:aA) (a:Adr):L2.Sp:=fW (fun ns=>match ns with|[k]=>some (.packets k)|_=>none) a
theorem oA:bA ["house","numbers","refusal","stream"] ["house","numbers"] (aV vR):=by decide+kernel
theorem aLg (T:Txt P w K mg a):Ok P w K mg base 5 "call_packets" ["house","numbers"] (vM K a):=by
 refine T.aNp.ok oA (fun vs H Q E h=> ?_) (fun f cdv A outer s H vs Q E hr h=> ?_)
 . obtain⟨ho,L,st,q,ns,c,rfl,_⟩:=h
   rfl
 . obtain⟨ho,L,st,q,ns,c,rfl,hq,hnl,hm,hh,ok,hno,k⟩:=h
   have hu:=fO hr
   refine⟨_,(aK (aZ (i:=2) oA.nd rfl (Or.inl rfl) (aP (cV T) hr (by decide) rfl (aJ (aX (pv 0) rfl) (aJ (bZ bD (pv 1) aN (fun _ _=>rfl)) aL)))) (aK (bR (bC dI (pv 2) aN (bF _)) (aM (aU (bU (aJ (pv 2) aL)))) bB) (aK (aZ (i:=3) oA.nd rfl (Or.inl rfl) (cY hu (aX (pv 0) rfl) (bZ bD (pv 1) aN (fun _ _=>rfl)) (fun _ _=>rfl))) (aM (aU (bG iJ (bU (aJ (bL bH (by rfl) T.dC PySem.boot_len (aJ (aX (pv 3) rfl) aL)) aL)) (aP (vD T) hr (by decide) rfl (aJ (pv 3) aL)))))))),?_⟩;symm
   obtain⟨z,rfl,rfl⟩: ∃z,ns=[z]/\c= .packets z:=by
    match ns,hm with
    |[z],hm=>exact⟨z,rfl,(Option.some.inj hm).symm⟩
   obtain⟨dh,hho⟩:=hh.ob
   have hs:Vbfaae.step st (.packets z)=Vbfaae.onStream st z fun x=>(st,Vbfaae.counted (x.packets.map fun p=>p.1.length)):=rfl
   obtain⟨kvs,hkv,hkr⟩:=hh.aZq z
   refine⟨_,rfl,_,_,_,_,_,rfl,hho,T.aW.cl,T.aW.no _ (by simp),aY,_,rfl,q,_,_,_,rfl,rfl,SqL.of hq,rfl,L.ds,kvs,z,rfl,hkv,fun H sK=> ?_⟩
   rw [hkr]
   replace k:=fun H' L' r (kp:Kept H H' ho L L' st _) hz (hn:H r=none\/Own ho L st r)=>k H' L' r (kp.pre sK) hz (hn.imp (fun z=>sK.free z) id)
   replace hh:=hh.same sK
   replace hq:=sK _ _ hq
   replace hho:=sK _ _ hho
   try replace hkv:=sK _ _ hkv
   refine⟨_,rfl,_,_,rfl,rfl,_,rfl,?_⟩
   by_cases hr:cH st z<0
   . rw [gM hr] at hs
     exact bI (by rw [aC];exact hr) ⟨_,rfl,(by show 1<=sizeLine;decide),fun r hrn=>step_same k hh (bJ.refl _) hs rfl hrn⟩
   . refine bK (by rw [aC];exact hr) ?_
     obtain⟨zn,x,rfl,hx,hf⟩:=dH hr
     rw [hf] at hs
     have hd:=hh.pN zn
     rw [hx] at hd
     have hX:=hh.srs.at_ _ _ hx
     obtain⟨dx,ho1⟩:=hX.ob
     have few:=(ok.sOk x (ok.at_.mp hx).1).few
     refine⟨_,rfl,_,_,_,_,_,rfl,hho,T.aW.cl,T.aW.no _ (by simp),aY,_,rfl,q,_,_,_,rfl,rfl,SqL.of hq,rfl,L.ds,_,rfl,hd,?_⟩
     refine⟨_,rfl,_,_,_,_,_,rfl,ho1,T.aQ.cl,T.aQ.no _ (by simp),bN,(L.gs zn).pl,_,rfl,.inl (SqL.of hX.pl),(by show 1<=sizeLine;decide),fun t ht=> ?_⟩
     refine⟨_,rfl,L.gs zn,x,rfl,hX.same (bM _ ht),by omega,fun H2 p s2 hp h2=> ?_⟩
     refine⟨t,p,_,_,rfl,rfl,s2 _ _ aO,h2,cF (by simp;omega),fun r hrn=>step_same k hh ((bM _ ht).trans s2) hs ?_ hrn⟩
     simp [Vbfaae.counted,Vbfaae.ints,iv,ni,hX.len]
def yS (K:aA) (a:Adr):L2.Sp:=fW (fun ns=>match ns with|[k]=>some (.slices k)|_=>none) a
theorem qD:bA ["house","numbers","refusal","stream"] ["house","numbers"] (aV zB):=by decide+kernel
theorem aPi (T:Txt P w K mg a):Ok P w K mg base 8 "call_slices" ["house","numbers"] (yS K a):=by
 refine T.aRb.ok qD (fun vs H Q E h=> ?_) (fun f cdv A outer s H vs Q E hr h=> ?_)
 . obtain⟨ho,L,st,q,ns,c,rfl,_⟩:=h
   rfl
 . obtain⟨ho,L,st,q,ns,c,rfl,hq,hnl,hm,hh,ok,hno,k⟩:=h
   have hu:=fO hr
   refine⟨_,(aK (aZ (i:=2) qD.nd rfl (Or.inl rfl) (aP (cV T) hr (by decide) rfl (aJ (aX (pv 0) rfl) (aJ (bZ bD (pv 1) aN (fun _ _=>rfl)) aL)))) (aK (bR (bC dI (pv 2) aN (bF _)) (aM (aU (bU (aJ (pv 2) aL)))) bB) (aK (aZ (i:=3) qD.nd rfl (Or.inl rfl) (cY hu (aX (pv 0) rfl) (bZ bD (pv 1) aN (fun _ _=>rfl)) (fun _ _=>rfl))) (aM (aU (bG iJ (bU (aJ (aX (pv 3) rfl) aL)) (aP (vG T) hr (by decide) rfl (aJ (aX (pv 0) rfl) (aJ (pv 3) aL))))))))),?_⟩;symm
   obtain⟨z,rfl,rfl⟩: ∃z,ns=[z]/\c= .slices z:=by
    match ns,hm with
    |[z],hm=>exact⟨z,rfl,(Option.some.inj hm).symm⟩
   obtain⟨dh,hho⟩:=hh.ob
   have hs:Vbfaae.step st (.slices z)=Vbfaae.onStream st z fun x=>(st,Vbfaae.ints (x.slices::(Vbfaae.slicesRead st x).map M.stOf)):=rfl
   obtain⟨kvs,hkv,hkr⟩:=hh.aZq z
   refine⟨_,rfl,_,_,_,_,_,rfl,hho,T.aW.cl,T.aW.no _ (by simp),aY,_,rfl,q,_,_,_,rfl,rfl,SqL.of hq,rfl,L.ds,kvs,z,rfl,hkv,fun H sK=> ?_⟩
   rw [hkr]
   replace k:=fun H' L' r (kp:Kept H H' ho L L' st _) hz (hn:H r=none\/Own ho L st r)=>k H' L' r (kp.pre sK) hz (hn.imp (fun z=>sK.free z) id)
   replace hh:=hh.same sK
   replace hq:=sK _ _ hq
   replace hho:=sK _ _ hho
   try replace hkv:=sK _ _ hkv
   refine⟨_,rfl,_,_,rfl,rfl,_,rfl,?_⟩
   by_cases hr:cH st z<0
   . rw [gM hr] at hs
     exact bI (by rw [aC];exact hr) ⟨_,rfl,(by show 1<=sizeLine;decide),fun r hrn=>step_same k hh (bJ.refl _) hs rfl hrn⟩
   . refine bK (by rw [aC];exact hr) ?_
     obtain⟨zn,x,rfl,hx,hf⟩:=dH hr
     rw [hf] at hs
     have hd:=hh.pN zn
     rw [hx] at hd
     have hX:=hh.srs.at_ _ _ hx
     obtain⟨dx,ho1⟩:=hX.ob
     obtain⟨hxm,hxk⟩:=ok.at_.mp hx
     have hsl:=(ok.sOk x hxm).sl
     subst hxk
     refine⟨_,rfl,_,_,_,_,_,rfl,hho,T.aW.cl,T.aW.no _ (by simp),aY,_,rfl,q,_,_,_,rfl,rfl,SqL.of hq,rfl,L.ds,_,rfl,hd,?_⟩
     refine⟨_,rfl,_,_,_,_,_,rfl,ho1,T.aQ.cl,T.aQ.no _ (by simp),dG,(by show 1<=sizeLine;decide),fun t ht=> ?_⟩
     have hho1:=cI (o:= .lst [.int (x.slices:Int)]) ht hho
     refine⟨_,rfl,_,_,_,_,_,rfl,hho1,T.aW.cl,T.aW.no _ (by simp),aY,_,rfl,L.ds,L.gs,st,x,rfl,hh.srs.same (bM _ ht),ok,hxm,fun H2 p s2 hp h2=> ?_⟩
     refine⟨t,p,_,_,rfl,rfl,s2 _ _ aO,h2,cF (by simp [Vbfaae.slicesRead];omega),fun r hrn=>step_same k hh ((bM _ ht).trans s2) hs ?_ hrn⟩
     simp [Vbfaae.ints,iv,ni]
def yU (K:aA) (a:Adr):L2.Sp:=fW (fun ns=>match ns with|[k]=>some (.unpack k)|_=>none) a
theorem qF:bA ["house","numbers","refusal","stream"] ["house","numbers"] (aV zE):=by decide+kernel
theorem aPj (T:Txt P w K mg a):Ok P w K mg base 9 "call_unpack" ["house","numbers"] (yU K a):=by
 refine T.aRc.ok qF (fun vs H Q E h=> ?_) (fun f cdv A outer s H vs Q E hr h=> ?_)
 . obtain⟨ho,L,st,q,ns,c,rfl,_⟩:=h
   rfl
 . obtain⟨ho,L,st,q,ns,c,rfl,hq,hnl,hm,hh,ok,hno,k⟩:=h
   have hu:=fO hr
   refine⟨_,(aK (aZ (i:=2) qF.nd rfl (Or.inl rfl) (aP (cV T) hr (by decide) rfl (aJ (aX (pv 0) rfl) (aJ (bZ bD (pv 1) aN (fun _ _=>rfl)) aL)))) (aK (bR (bC dI (pv 2) aN (bF _)) (aM (aU (bU (aJ (pv 2) aL)))) bB) (aK (aZ (i:=3) qF.nd rfl (Or.inl rfl) (cY hu (aX (pv 0) rfl) (bZ bD (pv 1) aN (fun _ _=>rfl)) (fun _ _=>rfl))) (aM (aU (bG iJ (bU (aJ (aX (pv 3) rfl) (aJ (aX (pv 3) rfl) aL))) (aP (xZ T) hr (by decide) rfl (aJ (aX (pv 0) rfl) (aJ (pv 3) aL))))))))),?_⟩;symm
   obtain⟨z,rfl,rfl⟩: ∃z,ns=[z]/\c= .unpack z:=by
    match ns,hm with
    |[z],hm=>exact⟨z,rfl,(Option.some.inj hm).symm⟩
   obtain⟨dh,hho⟩:=hh.ob
   have hs:Vbfaae.step st (.unpack z)=Vbfaae.onStream st z fun x=>(st,Vbfaae.ints (x.w::x.h::Vbfaae.unpacked st x)):=rfl
   obtain⟨kvs,hkv,hkr⟩:=hh.aZq z
   refine⟨_,rfl,_,_,_,_,_,rfl,hho,T.aW.cl,T.aW.no _ (by simp),aY,_,rfl,q,_,_,_,rfl,rfl,SqL.of hq,rfl,L.ds,kvs,z,rfl,hkv,fun H sK=> ?_⟩
   rw [hkr]
   replace k:=fun H' L' r (kp:Kept H H' ho L L' st _) hz (hn:H r=none\/Own ho L st r)=>k H' L' r (kp.pre sK) hz (hn.imp (fun z=>sK.free z) id)
   replace hh:=hh.same sK
   replace hq:=sK _ _ hq
   replace hho:=sK _ _ hho
   try replace hkv:=sK _ _ hkv
   refine⟨_,rfl,_,_,rfl,rfl,_,rfl,?_⟩
   by_cases hr:cH st z<0
   . rw [gM hr] at hs
     exact bI (by rw [aC];exact hr) ⟨_,rfl,(by show 1<=sizeLine;decide),fun r hrn=>step_same k hh (bJ.refl _) hs rfl hrn⟩
   . refine bK (by rw [aC];exact hr) ?_
     obtain⟨zn,x,rfl,hx,hf⟩:=dH hr
     rw [hf] at hs
     have hd:=hh.pN zn
     rw [hx] at hd
     have hX:=hh.srs.at_ _ _ hx
     obtain⟨dx,ho1⟩:=hX.ob
     obtain⟨hxm,hxk⟩:=ok.at_.mp hx
     subst hxk
     refine⟨_,rfl,_,_,_,_,_,rfl,hho,T.aW.cl,T.aW.no _ (by simp),aY,_,rfl,q,_,_,_,rfl,rfl,SqL.of hq,rfl,L.ds,_,rfl,hd,?_⟩
     refine⟨_,rfl,_,_,_,_,_,rfl,ho1,T.aQ.cl,T.aQ.no _ (by simp),cD,_,rfl,_,_,_,_,_,rfl,ho1,T.aQ.cl,T.aQ.no _ (by simp),fG,(by show 2<=sizeLine;decide),fun t ht=> ?_⟩
     have hho1:=cI (o:= .lst [.int (x.w:Int),.int (x.h:Int)]) ht hho
     refine⟨_,rfl,_,_,_,_,_,rfl,hho1,T.aW.cl,T.aW.no _ (by simp),aY,_,rfl,L.ds,L.gs,st,x,rfl,hh.srs.same (bM _ ht),ok,hxm,fun H2 p s2 hp h2=> ?_⟩
     have hul:=(M.zP ok hxm).1
     have hw:=(ok.sOk x hxm).w
     have hh2:=(ok.sOk x hxm).h
     have hwh:x.w*x.h<=24*24:=Nat.mul_le_mul hw.2 hh2.2
     refine⟨t,p,_,_,rfl,rfl,s2 _ _ aO,h2,cF (by simp;omega),fun r hrn=>step_same k hh ((bM _ ht).trans s2) hs ?_ hrn⟩
     simp [Vbfaae.ints,iv,ni]
theorem aVy {l:List Int} {hi:Int} (h:(l.all fun z=>Vbfaae.within z 0 hi)=true):iv l=ni (Vbfaae.nats l):=by
 unfold Vbfaae.nats
 simp only [ni,iv,List.map_map]
 refine List.map_congr_left fun z hz=> ?_
 have h1:=M.cB.mp (List.all_eq_true.mp h z hz)
 show V.int z=V.int ((z.toNat:Nat):Int)
 rw [Int.toNat_of_nonneg h1.1]
def eX (st:aB) (z:Int) (l:List Int):Int:=if(decide (l.length<=1600)&&l.all fun z=>Vbfaae.within z 0 255)=false then-1 else if cH st z<0 then cH st z else
 match Vbfaae.streamAt st z.toNat with
 |none=>0
 |some x=>if 20<=x.packets.length then-9 else 0
theorem bHb (st:aB) (z:Int) (l:List Int):Vbfaae.step st (.give z l)=if eX st z l<0 then(st,[eX st z l]) else Vbfaae.onStream st z fun x=>(Vbfaae.withStream st {x with packets:=x.packets++[(Vbfaae.nats l,0,true)]},[((x.packets.length:Int)+1)]):=by
 have e20:Vbfaae.PACKETS=20:=rfl
 by_cases h1:(decide (l.length<=1600)&&l.all fun z=>Vbfaae.within z 0 255)=false
 . have e:eX st z l= -1:=aD h1
   rw [e,aD (by decide)]
   simp only [Vbfaae.step]
   rw [aD h1]
 . by_cases h2:cH st z<0
   . have e:eX st z l=cH st z:=by unfold eX;rw [aF h1,aD h2]
     rw [e,aD h2]
     simp only [Vbfaae.step]
     rw [aF h1,gM h2]
   . obtain⟨zn,x,rfl,hx,hf⟩:=dH h2
     have e:eX st zn l=if 20<=x.packets.length then-9 else 0:=by
      unfold eX
      rw [aF h1,aF h2,aH,hx]
     rw [e]
     simp only [Vbfaae.step]
     rw [aF h1,hf,hf,e20]
     by_cases h3:20<=x.packets.length
     . simp only [aD h3];rfl
     . simp only [aF h3];rfl
theorem bLi {st:aB} {z:Int} {l:List Int} (h: ¬eX st z l<0): ¬cH st z<0/\l.length<=1600/\(l.all fun z=>Vbfaae.within z 0 255)=true/\ ∀x,Vbfaae.streamAt st z.toNat=some x->x.packets.length<20:=by
 unfold eX at h
 by_cases h1:(decide (l.length<=1600)&&l.all fun z=>Vbfaae.within z 0 255)=false
 . rw [aD h1] at h;exact absurd (by decide) h
 . rw [aF h1] at h
   have h1:=M.not_false h1
   rw [Bool.and_eq_true,aC] at h1
   by_cases h2:cH st z<0
   . rw [aD h2] at h;exact absurd h2 h
   . rw [aF h2] at h
     refine⟨h2,h1.1,h1.2,fun x hx=> ?_⟩
     rw [hx] at h
     by_cases h3:20<=x.packets.length
     . simp only [aD h3] at h;exact absurd (by decide) h
     . omega
inductive aJf (a:Adr) (vs:List V) (H:Hp) (Q:VK):Prop|mk (ho:Addr) (L:Lay) (st:aB) (z:Int) (o:Addr) (l:List Int) (z0:vs=[.ref ho,.int z,.ref o]) (z1:bQ a H ho L st) (z2:H o=some (.lst (iv l))) (z3:l.length<=100000) (z4: ∀H',bJ H H'->Q (.int (eX st z l)) H') def aMi (K:aA) (a:Adr):L2.Sp:=fun vs H Q _=>aJf a vs H Q
theorem vJ:bA ["house","key","octets","refusal"] ["house","key","octets"] (aV wB):=by decide+kernel
theorem aLn (T:Txt P w K mg a):Ok P w K mg base 5 "give_refusal" ["house","key","octets"] (aMi K a):=by
 refine T.aNx.ok vJ (fun vs H Q E h=> ?_) (fun f cdv A outer s H vs Q E hr h=> ?_)
 . obtain⟨ho,L,st,z,o,l,rfl,_⟩:=h
   rfl
 . obtain⟨ho,L,st,z,o,l,rfl,hh,hol,hl,k⟩:=h
   have hu:=fO hr
   refine⟨_,(aK (bR (eU (cT (aP (aBi T) hr (by decide) rfl (aJ (pv 2) aL)))) (aM (aU (cA rfl T.cO))) bB) (aK (aZ (i:=3) vJ.nd rfl (Or.inl rfl) (aP (cV T) hr (by decide) rfl (aJ (aX (pv 0) rfl) (aJ (pv 1) aL)))) (aK (bR (bC dI (pv 3) aN (bF _)) (aM (aU (pv 3))) bB) (aK (bR (bC pY (bL bH (by rfl) T.dC PySem.boot_len (aJ (aX (cY hu (aX (pv 0) rfl) (pv 1) (fun _ _=>rfl)) rfl) aL)) (cA rfl T.pQ) (bF _)) (aM (aU (cA rfl T.aCq))) bB) (aM (aU aN)))))),?_⟩;symm
   unfold eX at k
   refine⟨_,rfl,o,l,rfl,hol,cF (by omega),fun H1 s1=>⟨_,rfl,?_⟩⟩
   have hh1:=hh.same s1
   obtain⟨dh,hho⟩:=hh1.ob
   have k:=fun H' s=>k H' (s1.trans s)
   cases hw:(decide (l.length<=1600)&&l.all fun z=>Vbfaae.within z 0 255) with
   |false=>
    rw [hw] at k
    exact bI rfl (k _ (bJ.refl _))
   |true=>
    rw [hw] at k
    refine bK (by decide) ?_
    obtain⟨kvs,hkv,hkr⟩:=hh1.aZq z
    refine⟨_,rfl,_,_,_,_,_,rfl,hho,T.aW.cl,T.aW.no _ (by simp),aY,_,rfl,L.ds,kvs,z,rfl,hkv,fun H2 s2=> ?_⟩
    rw [hkr]
    replace k:=k H2 s2
    rw [aF (by decide)] at k
    replace hh1:=hh1.same s2
    replace hho:=s2 _ _ hho
    refine⟨_,rfl,_,_,rfl,rfl,_,rfl,?_⟩
    by_cases hr:cH st z<0
    . rw [aD hr] at k
      exact bI (by rw [aC];exact hr) ⟨_,rfl,k⟩
    . rw [aF hr] at k
      refine bK (by rw [aC];exact hr) ?_
      obtain⟨zn,x,rfl,hx,hf⟩:=dH hr
      rw [aH,hx] at k
      have hd:=hh1.pN zn
      rw [hx] at hd
      have hX:=hh1.srs.at_ _ _ hx
      obtain⟨dx,ho1⟩:=hX.ob
      refine⟨_,rfl,_,_,_,_,_,rfl,hho,T.aW.cl,T.aW.no _ (by simp),aY,_,rfl,L.ds,_,rfl,hd,_,_,_,_,_,rfl,ho1,T.aQ.cl,T.aQ.no _ (by simp),bN,(L.gs zn).pl,_,rfl,.inl (SqL.of hX.pl),_,_,rfl,rfl,_,rfl,?_⟩
      by_cases h3:20<=x.packets.length
      . simp only [aD h3] at k
        exact bI (by rw [aC,aG,hX.len];omega) k
      . simp only [aF h3] at k
        exact bK (by rw [aC,aG,hX.len];omega) k
def aGc (K:aA) (a:Adr):L2.Sp:=fW (fun ns=>match ns with|k::l=>some (.give k l)|_=>none) a
theorem pF:bA ["house","numbers","octets","refusal","packets"] ["house","numbers"] (aV aGs):=by decide+kernel
theorem aWe (T:Txt P w K mg a):Ok P w K mg base 6 "call_give" ["house","numbers"] (aGc K a):=by
 refine T.aYn.ok pF (fun vs H Q E h=> ?_) (fun f cdv A outer s H vs Q E hr h=> ?_)
 . obtain⟨ho,L,st,q,ns,c,rfl,_⟩:=h
   rfl
 . obtain⟨ho,L,st,q,ns,c,rfl,hq,hnl,hm,hh,ok,hno,k⟩:=h
   have hu:=fO hr
   refine⟨_,(aK (aZ (i:=2) pF.nd rfl (Or.inl rfl) (iU lV (pv 1) (gH aN) aAf)) (aK (aZ (i:=3) pF.nd rfl (Or.inl rfl) (aP (aLn T) hr (by decide) rfl (aJ (pv 0) (aJ (bZ bD (pv 1) aN (fun _ _=>rfl)) (aJ (pv 2) aL))))) (aK (bR (bC dI (pv 3) aN (bF _)) (aM (aU (bU (aJ (pv 3) aL)))) bB) (aK (aZ (i:=4) pF.nd rfl (Or.inl rfl) (aX (cY hu (aX (pv 0) rfl) (bZ bD (pv 1) aN (fun _ _=>rfl)) (fun _ _=>rfl)) rfl)) (aK (fB (rB PySem.F.plainAttrs_list PySem.F.slot_list_append PySem.F.type_list_append mK (pv 4) (aJ (gU T.bT (jY T) hr (by decide) rfl (aJ (pv 2) (aJ aN (aJ bJf aL)))) aL))) (aM (aU (bU (aJ (bL bH (by rfl) T.dC PySem.boot_len (aJ (pv 4) aL)) aL))))))))),?_⟩;symm
   obtain⟨z,l,rfl,rfl⟩: ∃z l,ns=z::l/\c= .give z l:=by
    match ns,hm with
    |z::l,hm=>exact⟨z,l,rfl,(Option.some.inj hm).symm⟩
   have hs:=bHb st z l
   have hll:l.length<2000:=by simp at hnl;omega
   refine⟨_,rfl,_,rfl,q,_,rfl,SqL.of hq,fun no hno'=> ?_⟩
   have ecut:oV (iv (z::l)) (some 1) none=iv l:=aAa (iv (z::l)) 1
   rw [ecut]
   have S1:=bM (.lst (iv l)) hno'
   have hoc:upd H no (.lst (iv l)) no=some (.lst (iv l)):=aO
   generalize upd H no (.lst (iv l))=H1 at*
   have hh1:=hh.same S1
   have hq1:=S1 _ _ hq
   refine⟨_,rfl,_,rfl,q,_,_,_,rfl,rfl,SqL.of hq1,at_of (j:=0) rfl rfl,_,rfl,ho,L,st,z,no,l,rfl,hh1,hoc,by omega,fun H2 s2=> ?_⟩
   have S2:=S1.trans s2
   have hh2:=hh.same S2
   have hq2:=S2 _ _ hq
   have hoc2:=s2 _ _ hoc
   obtain⟨dh,hho⟩:=hh2.ob
   refine⟨_,rfl,_,_,rfl,rfl,_,rfl,?_⟩
   by_cases hr:eX st z l<0
   . rw [aD hr] at hs
     exact bI (by rw [aC];exact hr) ⟨_,rfl,(by show 1<=sizeLine;decide),fun r hrn=>step_same k hh S2 hs rfl hrn⟩
   . rw [aF hr] at hs
     refine bK (by rw [aC];exact hr) ?_
     obtain⟨hr2,hl16,hall,hlen20⟩:=bLi hr
     obtain⟨zn,x,rfl,hx,hf⟩:=dH hr2
     rw [hf] at hs
     have h20:=hlen20 x (by rw [aH];exact hx)
     have hd:=hh2.pN zn
     rw [hx] at hd
     have hX:=hh2.srs.at_ _ _ hx
     have hX0:=hh.srs.at_ _ _ hx
     obtain⟨dx,ho1⟩:=hX.ob
     have hlen:=hX.len
     refine⟨_,rfl,_,_,_,_,_,rfl,hho,T.aW.cl,T.aW.no _ (by simp),aY,_,rfl,q,_,_,_,rfl,rfl,SqL.of hq2,at_of (j:=0) rfl rfl,L.ds,_,rfl,hd,_,_,_,_,_,rfl,ho1,T.aQ.cl,T.aQ.no _ (by simp),bN,?_⟩
     refine⟨_,rfl,.inl ⟨rfl,_,SqL.of hX.pl⟩,_,rfl,fun nq dn hnq hdn hne=> ?_⟩
     refine⟨nq,dn,_,_,_,rfl,aO,fun H3 h3 kp=>⟨rfl,?_⟩⟩
     have s3:=bJ.made hnq hdn kp
     have S3:=S2.trans s3
     have hpl3:=s3 _ _ hX.pl
     have hoc3:=s3 _ _ hoc2
     have hnq0:=S2.free hnq
     refine⟨(L.gs zn).pl,_,_,rfl,rfl,hpl3,Nat.lt_of_lt_of_le (by rw [aG];omega) (by decide:1000<=sizeLine),?_⟩
     have nn:nq≠(L.gs zn).pl:=fun e=>by rw [e,hX.pl] at hnq;cases hnq
     have nn2:no≠(L.gs zn).pl:=fun e=>by rw [e,hX0.pl] at hno';cases hno'
     have nqo:nq≠no:=fun e=>by rw [e,hoc2] at hnq;cases hnq
     have nd:=hh.nd zn x hx
     refine⟨_,rfl,(L.gs zn).pl,_,rfl,.inl (SqL.of aO),(by show 1<=sizeLine;decide),fun r hrn=>uW k hh ok hx (g':={L.gs zn with qs:=(L.gs zn).qs++[(nq,no)]}) (ps:=x.packets++[(Vbfaae.nats l,0,true)]) hs ?_ ?_ ?_ rfl (aJu nd (lE hX0 hnq0) (lE hX0 hno') nqo) (fun b hb=> ?_) hrn⟩
     . simp [hlen]
     . intro b ob hb' hn
       rw [aR (fun e=>hn (by rw [e];simp [adS]))];exact S3 _ _ hb'
     . refine hX0.snoc nd (fun b ob hb' hn=>by rw [aR hn];exact S3 _ _ hb') aO ?_
       refine⟨⟨dn,0,by rw [aR nn];exact h3,fun e=>by cases e⟩,?_⟩
       rw [aR nn2,hoc3,aVy hall]
     . rcases aYc.mp hb with h|rfl|rfl
       . exact .inl h
       . exact .inr hnq0
       . exact .inr hno'
def dJ (st:aB) (z i y b:Int):Int:=if(Vbfaae.within y 0 99999&&Vbfaae.within b 1 4294967295)=false then-1 else if cC st z i<0 then cC st z i else
 match (Vbfaae.streamAt st z.toNat).bind fun x=>x.packets[i.toNat]? with
 |none=>0
 |some p=>if 8*p.1.length<=y.toNat then-3 else if 0<p.2.1\/p.2.2=true then-8 else 0
theorem bDo (st:aB) (z i y b:Int):Vbfaae.step st (.burst z i y b)=if dJ st z i y b<0 then(st,[dJ st z i y b]) else Vbfaae.onPacket st z i fun x p=>(Vbfaae.withStream st (Vbfaae.setPacket x i.toNat (Vbfaae.hitBy p.1 y.toNat b.toNat,1,true)),[0]):=by
 by_cases h1:(Vbfaae.within y 0 99999&&Vbfaae.within b 1 4294967295)=false
 . have e:dJ st z i y b= -1:=aD h1
   rw [e,aD (by decide)]
   simp only [Vbfaae.step]
   rw [aD h1]
 . by_cases h2:cC st z i<0
   . have e:dJ st z i y b=cC st z i:=by unfold dJ;rw [aF h1,aD h2]
     rw [e,aD h2]
     simp only [Vbfaae.step]
     rw [aF h1,nF h2]
   . obtain⟨zn,n,x,p,rfl,rfl,hx,hp,hf⟩:=fZ h2
     have e:dJ st zn n y b=if 8*p.1.length<=y.toNat then-3 else if 0<p.2.1\/p.2.2=true then-8 else 0:=by
      unfold dJ
      rw [aF h1,aF h2,aH,aH,hx]
      simp only [Option.bind_some,hp]
     rw [e]
     simp only [Vbfaae.step]
     rw [aF h1,hf,hf]
     by_cases h3:8*p.1.length<=y.toNat
     . simp only [aD h3];rfl
     . simp only [aF h3]
       by_cases h4:0<p.2.1\/p.2.2=true
       . simp only [aD h4];rfl
       . simp only [aF h4];rfl
theorem bHp {st:aB} {z i y b:Int} (h: ¬dJ st z i y b<0): ¬cC st z i<0/\(0<=y/\y<=99999)/\(1<=b/\b<=4294967295)/\ ∀x p,Vbfaae.streamAt st z.toNat=some x->x.packets[i.toNat]? =some p->y.toNat<8*p.1.length/\p.2.1=0/\p.2.2=false:=by
 unfold dJ at h
 by_cases h1:(Vbfaae.within y 0 99999&&Vbfaae.within b 1 4294967295)=false
 . rw [aD h1] at h;exact absurd (by decide) h
 . rw [aF h1] at h
   have h1:=M.not_false h1
   rw [Bool.and_eq_true,M.cB,M.cB] at h1
   by_cases h2:cC st z i<0
   . rw [aD h2] at h;exact absurd h2 h
   . rw [aF h2] at h
     refine⟨h2,h1.1,h1.2,fun x p hx hp=> ?_⟩
     rw [hx] at h
     simp only [Option.bind_some,hp] at h
     by_cases h3:8*p.1.length<=y.toNat
     . rw [aD h3] at h;exact absurd (by decide) h
     . rw [aF h3] at h
       by_cases h4:0<p.2.1\/p.2.2=true
       . rw [aD h4] at h;exact absurd (by decide) h
       . simp only [not_or] at h4
         exact⟨by omega,by omega,by cases e:p.2.2<;>simp_all⟩
def hits (p:Vbfaae.Bytes) (bit pattern j:Nat):Vbfaae.Bytes:=(List.range j).foldl (fun q j=>if pattern.testBit j=true/\bit+j<8*p.length then Vbfaae.turned q (bit+j) else q) p
theorem aAc (p:Vbfaae.Bytes) (bit pattern j:Nat):hits p bit pattern (j+1)=if pattern.testBit j=true/\bit+j<8*p.length then Vbfaae.turned (hits p bit pattern j) (bit+j) else hits p bit pattern j:=by
 unfold hits
 rw [List.range_succ,List.foldl_append];rfl
theorem bEn {p:Vbfaae.Bytes} {bit pattern:Nat} (h: ∀b∈p,b<256): ∀j,(hits p bit pattern j).length=p.length/\ ∀b∈hits p bit pattern j,b<256
 |0=>⟨rfl,h⟩
 |j+1=>by
  obtain⟨h1,h2⟩:=bEn h (bit:=bit) (pattern:=pattern) j
  rw [aAc]
  split
  . rw [(M.tY h2).1];exact⟨h1,(M.tY h2).2⟩
  . exact⟨h1,h2⟩
inductive aFx (a:Adr) (vs:List V) (H:Hp) (Q:VK):Prop|mk (ho:Addr) (L:Lay) (st:aB) (z i y b:Int) (z0:vs=[.ref ho,.int z,.int i,.int y,.int b]) (z1:bQ a H ho L st) (z2:Q (.int (dJ st z i y b)) H) def aIz (K:aA) (a:Adr):L2.Sp:=fun vs H Q _=>aFx a vs H Q
theorem mQ:bA ["house","key","i","bit","pattern","refusal","packet"] ["house","key","i","bit","pattern"] (aV tQ):=by decide+kernel
theorem aIn (T:Txt P w K mg a):Ok P w K mg base 4 "burst_refusal" ["house","key","i","bit","pattern"] (aIz K a):=by
 refine T.aKv.ok mQ (fun vs H Q E h=> ?_) (fun f cdv A outer s H vs Q E hr h=> ?_)
 . obtain⟨ho,L,st,z,i,y,b,rfl,_⟩:=h
   rfl
 . obtain⟨ho,L,st,z,i,y,b,rfl,hh,k⟩:=h
   have hu:=fO hr
   refine⟨_,(aK (bR (PW.pt (kY (eU (cT (aP (dZ T) hr (by decide) rfl (aJ (pv 3) (aJ aN (aJ aN aL)))))) (iK (eU (cT (aP (dZ T) hr (by decide) rfl (aJ (pv 4) (aJ aN (aJ aN aL))))))))) (aM (aU (cA rfl T.cO))) bB) (aK (aZ (i:=5) mQ.nd rfl (Or.inl rfl) (aP (fY T) hr (by decide) rfl (aJ (pv 0) (aJ (pv 1) (aJ (pv 2) aL))))) (aK (bR (bC dI (pv 5) aN (bF _)) (aM (aU (pv 5))) bB) (aK (aZ (i:=6) mQ.nd rfl (Or.inl rfl) (bZ bD (aX (cY hu (aX (pv 0) rfl) (pv 1) (fun _ _=>rfl)) rfl) (pv 2) (fun _ _=>rfl))) (aK (bR (bC pY (pv 3) (bG lH aN (bL bH (by rfl) T.dC PySem.boot_len (aJ (aX (pv 6) rfl) aL))) (bF _)) (aM (aU (cA rfl T.oY))) bB) (aK (bR (PW.pt (kY (bC oM (aX (pv 6) rfl) aN (bF _)) (iK (cT (aX (pv 6) rfl))))) (aM (aU (cA rfl T.vA))) bB) (aM (aU aN)))))))),?_⟩;symm
   obtain⟨dh,hho⟩:=hh.ob
   unfold dJ at k
   refine⟨_,rfl,y,0,99999,rfl,_,rfl,?_⟩
   cases hy:Vbfaae.within y 0 99999 with
   |false=>rw [hy] at k;exact bI rfl (bI rfl k)
   |true=>
    rw [hy] at k
    refine bK (by decide) ⟨_,rfl,b,1,4294967295,rfl,_,rfl,?_⟩
    cases hb:Vbfaae.within b 1 4294967295 with
    |false=>rw [hb] at k;exact bI rfl k
    |true=>
     rw [hb] at k
     rw [aF (by decide)] at k
     refine bK (by decide) ?_
     refine⟨_,rfl,_,rfl,_,rfl,ho,L,st,z,i,rfl,hh,?_⟩
     refine⟨_,rfl,_,_,rfl,rfl,_,rfl,?_⟩
     by_cases hr:cC st z i<0
     . rw [aD hr] at k
       exact bI (by rw [aC];exact hr) ⟨_,rfl,k⟩
     . rw [aF hr] at k
       refine bK (by rw [aC];exact hr) ?_
       obtain⟨zn,n,x,p,rfl,rfl,hx,hp,hf⟩:=fZ hr
       have hy1:=M.cB.mp hy
       rw [aH,aH,hx] at k
       simp only [Option.bind_some,hp] at k
       have hd:=hh.pN zn
       rw [hx] at hd
       have hX:=hh.srs.at_ _ _ hx
       obtain⟨dx,ho1⟩:=hX.ob
       obtain⟨g,hg,hg2,hpk⟩:=hh.pkt hx hp
       obtain⟨dq,f',hq1,hf'⟩:=hpk.ob
       refine⟨_,rfl,_,_,_,_,_,rfl,hho,T.aW.cl,T.aW.no _ (by simp),aY,_,rfl,L.ds,_,rfl,hd,_,_,_,_,_,rfl,ho1,T.aQ.cl,T.aQ.no _ (by simp),bN,_,rfl,(L.gs zn).pl,_,_,_,rfl,rfl,SqL.of hX.pl,at_of (j:=n) rfl hg2,?_⟩
       refine⟨_,rfl,_,rfl,_,_,_,_,_,rfl,hq1,T.bT.cl,T.bT.no _ (by simp),cJ,g.2,_,rfl,.inl (SqL.of hpk.oc),_,_,rfl,rfl,.inl ⟨by decide,by decide⟩,_,_,rfl,rfl,_,rfl,?_⟩
       by_cases hl:8*p.1.length<=y.toNat
       . rw [aD hl] at k
         exact bI (by rw [aC,aG];omega) k
       . rw [aF hl] at k
         refine bK (by rw [aC,aG];omega) ?_
         refine⟨_,rfl,_,_,_,_,_,rfl,hq1,T.bT.cl,T.bT.no _ (by simp),jR,_,_,rfl,rfl,_,rfl,?_⟩
         cases hbu:p.2.2 with
         |true=>
          rw [aD (.inr hbu)] at k
          by_cases h3:(0:Int)<f'
          . exact bI (by rw [aC];exact h3) (bI rfl k)
          . refine bK (by rw [aC];exact h3) ?_
            refine⟨_,rfl,_,_,_,_,_,rfl,hq1,T.bT.cl,T.bT.no _ (by simp),fM,_,rfl,?_⟩
            rw [hbu]
            exact bI rfl k
         |false=>
          have hfe:=hf' hbu
          by_cases h3:0<p.2.1
          . rw [aD (.inl h3)] at k
            exact bI (by rw [aC];show (0:Int)<f';omega) (bI rfl k)
          . rw [aF (by simp [hbu];omega)] at k
            refine bK (by rw [aC];show¬(0:Int)<f';omega) ?_
            refine⟨_,rfl,_,_,_,_,_,rfl,hq1,T.bT.cl,T.bT.no _ (by simp),fM,_,rfl,?_⟩
            rw [hbu]
            exact bK (by decide) k
def aBr (K:aA) (a:Adr):L2.Sp:=fW (fun ns=>match ns with|[k,i,y,b]=>some (.burst k i y b)|_=>none) a
theorem iI:bA ["house","numbers","bit","pattern","refusal","packet","j"] ["house","numbers"] (aV aBy):=by decide+kernel
theorem aRr (T:Txt P w K mg a):Ok P w K mg base 5 "call_burst" ["house","numbers"] (aBr K a):=by
 refine T.aVf.ok iI (fun vs H Q E h=> ?_) (fun f cdv A outer s H vs Q E hr h=> ?_)
 . obtain⟨ho,L,st,q,ns,c,rfl,_⟩:=h
   rfl
 . obtain⟨ho,L,st,q,ns,c,rfl,hq,hnl,hm,hh,ok,hno,k⟩:=h
   have hu:=fO hr
   refine⟨_,(aK (aZ (i:=2) iI.nd rfl (Or.inl rfl) (bZ bD (pv 1) aN (fun _ _=>rfl))) (aK (aZ (i:=3) iI.nd rfl (Or.inl rfl) (bZ bD (pv 1) aN (fun _ _=>rfl))) (aK (aZ (i:=4) iI.nd rfl (Or.inl rfl) (aP (aIn T) hr (by decide) rfl (aJ (pv 0) (aJ (bZ bD (pv 1) aN (fun _ _=>rfl)) (aJ (bZ bD (pv 1) aN (fun _ _=>rfl)) (aJ (pv 2) (aJ (pv 3) aL))))))) (aK (bR (bC dI (pv 4) aN (bF _)) (aM (aU (bU (aJ (pv 4) aL)))) bB) (aK (aZ (i:=5) iI.nd rfl (Or.inl rfl) (bZ bD (aX (cY hu (aX (pv 0) rfl) (bZ bD (pv 1) aN (fun _ _=>rfl)) (fun _ _=>rfl)) rfl) (bZ bD (pv 1) aN (fun _ _=>rfl)) (fun _ _=>rfl))) (aK (lK PassesOwn.never rfl (jF rfl T.jV (aJ aN aL)) (cM (i:=6) iI.nd rfl (Or.inl rfl)) (aM (bR (PW.pt (rY (bC nG (bG aWo (bG uL (pv 3) (pv 6)) aN) aN (bF _)) (pB (bC dI (bG cR (pv 2) (pv 6)) (bG lH aN (bL bH (by rfl) T.dC PySem.boot_len (aJ (aX (pv 5) rfl) aL))) (bF _))))) (aM (fB (aP (aKg T) hr (by decide) rfl (aJ (pv 5) (aJ (bG cR (pv 2) (pv 6)) aL))))) bB))) (aK (fC (pv 5) bJf rfl) (aM (aU (bU (aJ aN aL))))))))))),?_⟩;symm
   obtain⟨z,i,y,b,rfl,rfl⟩: ∃z i y b,ns=[z,i,y,b]/\c= .burst z i y b:=by
    match ns,hm with
    |[z,i,y,b],hm=>exact⟨z,i,y,b,rfl,(Option.some.inj hm).symm⟩
   obtain⟨dh,hho⟩:=hh.ob
   have hs:=bDo st z i y b
   refine⟨_,rfl,q,_,_,_,rfl,rfl,SqL.of hq,rfl,?_⟩
   refine⟨_,rfl,q,_,_,_,rfl,rfl,SqL.of hq,rfl,?_⟩
   refine⟨_,rfl,_,rfl,q,_,_,_,rfl,rfl,SqL.of hq,rfl,_,rfl,q,_,_,_,rfl,rfl,SqL.of hq,rfl,_,rfl,_,rfl,ho,L,st,z,i,y,b,rfl,hh,?_⟩
   refine⟨_,rfl,_,_,rfl,rfl,_,rfl,?_⟩
   by_cases hr:dJ st z i y b<0
   . rw [aD hr] at hs
     exact bI (by rw [aC];exact hr) ⟨_,rfl,(by show 1<=sizeLine;decide),fun r hrn=>step_same k hh (bJ.refl _) hs rfl hrn⟩
   . rw [aF hr] at hs
     refine bK (by rw [aC];exact hr) ?_
     obtain⟨hr2,hy,hb,hfl⟩:=bHp hr
     obtain⟨zn,n,x,p,rfl,rfl,hx,hp,hf⟩:=fZ hr2
     obtain⟨hyl,h3,hbu⟩:=hfl x p hx hp
     rw [hf,aH] at hs
     obtain⟨yn,rfl⟩: ∃yn:Nat,y=(yn:Int):=⟨y.toNat,by omega⟩
     obtain⟨bn,rfl⟩: ∃bn:Nat,b=(bn:Int):=⟨b.toNat,by omega⟩
     simp only [aH] at hs hyl
     have hd:=hh.pN zn
     rw [hx] at hd
     have hX:=hh.srs.at_ _ _ hx
     obtain⟨dx,ho1⟩:=hX.ob
     obtain⟨g,hg,hg2,hpk⟩:=hh.pkt hx hp
     obtain⟨dq,f',hq1,hf'⟩:=hpk.ob
     have hpo:=(ok.sOk x (ok.at_.mp hx).1).pkt p (List.mem_of_getElem? hp)
     have hgm:=List.mem_of_getElem? hg
     have hgn:g.1≠g.2:=qY hq1 hpk.oc (by intro e;cases e)
     refine⟨_,rfl,_,_,_,_,_,rfl,hho,T.aW.cl,T.aW.no _ (by simp),aY,_,rfl,q,_,_,_,rfl,rfl,SqL.of hq,rfl,L.ds,_,rfl,hd,_,_,_,_,_,rfl,ho1,T.aQ.cl,T.aQ.no _ (by simp),bN,_,rfl,q,_,_,_,rfl,rfl,SqL.of hq,rfl,(L.gs zn).pl,_,_,_,rfl,rfl,SqL.of hX.pl,at_of (j:=n) rfl hg2,?_⟩
     have hit:=fun j=>bEn (bit:=yn) (pattern:=bn) hpo.2.1 j
     refine⟨_,rfl,by decide,by decide,aOn (n:=32) rfl (fun j σ H'=>(∀b ob,H b=some ob->b≠g.2->H' b=some ob)/\H' g.2=some (.lst (ni (hits p.1 yn bn j)))/\ ∃v6,σ=[some (.ref ho),some (.ref q),some (.int yn),some (.int bn),some (.int (dJ st zn n yn bn)),some (.ref g.1),v6])
      ⟨fun _ _ h _=>h,hpk.oc,_,rfl⟩ ?_ ?_⟩
     . rintro j σ H' hj ⟨fr,hoc,v6,rfl⟩
       rw [Int.zero_add]
       have hq2:=fr _ _ hq1 hgn
       have e1:((bn:Int)/2 ^ ((j:Int)).toNat)=((bn/2 ^ j:Nat):Int):=by simp
       refine⟨_,rfl,_,rfl,_,_,rfl,rfl,Int.natCast_nonneg _,_,_,rfl,rfl,?_⟩
       have e2:Builtin.bitAnd ((bn:Int)/2 ^ ((j:Int)).toNat) 1=((bn/2 ^ j%2:Nat):Int):=by rw [e1,PyProof.Rows.bitAnd_m1];simp
       refine⟨rfl,_,rfl,?_⟩
       try dsimp only
       by_cases ht:bn.testBit j=true
       . have ht1:bn/2 ^ j%2=1:=by rw [Nat.testBit_eq_decide_div_mod_eq,aC] at ht;exact ht
         refine bI (by rw [dR,e2,ht1];rfl) ?_
         refine⟨_,rfl,_,rfl,_,_,rfl,rfl,_,rfl,_,_,_,_,_,rfl,hq2,T.bT.cl,T.bT.no _ (by simp),cJ,g.2,_,rfl,.inl (SqL.of hoc),_,_,rfl,rfl,.inl ⟨by decide,by decide⟩,_,_,rfl,rfl,_,rfl,?_⟩
         have hlen:=(hit j).1
         by_cases hl:yn+j<8*p.1.length
         . refine bI (by rw [aC,aG];omega) ?_
           refine⟨_,rfl,_,rfl,_,rfl,_,_,rfl,rfl,g.1,g.2,(hits p.1 yn bn j,p.2.1,p.2.2),yn+j,?_,⟨⟨dq,f',hq2,hf'⟩,hoc⟩,(hit j).2,by show yn+j<8*(hits p.1 yn bn j).length;omega,?_⟩
           . simp
           . refine⟨fun b ob hb' hn=>by rw [aR hn];exact fr b ob hb' hn,?_,_,rfl⟩
             rw [aO,aAc,aD ⟨ht,hl⟩]
         . refine bK (by rw [aC,aG];omega) ?_
           refine⟨fr,?_,_,rfl⟩
           rw [aAc,aF (fun h=>hl h.2)];exact hoc
       . have ht1:bn/2 ^ j%2≠1:=fun e=>ht (by rw [Nat.testBit_eq_decide_div_mod_eq,aC];exact e)
         refine bK (by rw [dR,e2,beq_iff_eq];omega) ?_
         refine⟨fr,?_,_,rfl⟩
         rw [aAc,aF (fun h=>ht h.1)];exact hoc
     . rintro σ H' ⟨fr,hoc,v6,rfl⟩
       have hq2:=fr _ _ hq1 hgn
       refine⟨_,rfl,put T.bT hq2 (by simp) aDb ?_⟩
       refine⟨(by show 1<=sizeLine;decide),fun r hrn=>uW k hh ok hx (g':=L.gs zn) (ps:=x.packets.set n (Vbfaae.hitBy p.1 yn bn,1,true)) hs rfl ?_ ?_ rfl (hh.nd zn x hx) (fun b hb=> .inl hb) hrn⟩
       . intro b ob hb' hn
         have m:=aUv hgm
         rw [aR (fun e=>hn (by rw [e];exact m.1))];exact fr b ob hb' (fun e=>hn (by rw [e];exact m.2))
       . refine hX.bJx (hh.nd zn x hx) hg hp (fun b ob hb' n1 n2=>by rw [aR n1];exact fr b ob hb' n2) ⟨⟨dq,f',aO,fun e=>by cases e⟩,?_⟩
         rw [aR hgn.symm];exact hoc
theorem aEp {κ:Type} [DecidableEq κ] (kvs:List (κ×V)) (k:κ) (v:V):(putK kvs k v).length=if(dO kvs k).isSome=true then kvs.length else kvs.length+1:=by
 unfold putK
 rw [qQ]
 split
 . simp
 . simp
theorem jP {st:aB} (ok:M.bO st) (p:Vbfaae.Picture) (k:Nat):Vbfaae.pictureAt {st with pictures:=Vbfaae.putPicture p st.pictures} k=if k=p.key then some p else Vbfaae.pictureAt st k:=by
 show M.atG (key:=Vbfaae.Picture.key) (Vbfaae.putPicture p st.pictures) k=_
 rw [M.iH]
 exact M.bEc ok.rp
theorem bCo {st:aB} (ok:M.bO st) (p:Vbfaae.Picture):(Vbfaae.putPicture p st.pictures).length=if(Vbfaae.pictureAt st p.key).isSome=true then st.pictures.length else st.pictures.length+1:=by
 rw [M.iH,M.aEn ok.rp,M.aUx]
 rfl
theorem bQ.pno {a:Adr} {H:Hp} {ho:Addr} {L:Lay} {st:aB} (h:bQ a H ho L st) {b:Addr} {kvs:List (Key×V)} (hb:H b=some (.dK kvs)):b≠ho/\(∀k x,Vbfaae.streamAt st k=some x->b∉adS (L.gs k))/\ ∀k p,Vbfaae.pictureAt st k=some p->b∉adP (L.gp k):=by
 refine⟨fun e=> ?_,fun k x hx hm=> ?_,fun k p hp hm=> ?_⟩
 . obtain⟨dx,e1⟩:=h.ob;rw [<-e,hb] at e1;cases e1
 . obtain⟨ob,e,q⟩:=(h.srs.at_ k x hx).some_ b hm
   rw [hb] at e
   cases e
   rcases q with⟨z,q⟩|⟨C,dx,fs,q⟩<;>cases q
 . have hp':=h.pics k p hp
   simp [adP] at hm
   rcases hm with rfl|rfl
   . obtain⟨dx,e⟩:=hp'.ob;rw [hb] at e;cases e
   . have e:=hp'.gr;rw [hb] at e;cases e
theorem bQ.aPw {a:Adr} {H H':Hp} {ho:Addr} {L:Lay} {st:aB} (h:bQ a H ho L st) (ok:M.bO st) {p:Vbfaae.Picture} {pa gl:Addr} {kvs:List (Key×V)} (hkv:H L.dp=some (.dK kvs))
 (fr: ∀b ob,H b=some ob->b≠L.dp->H' b=some ob) (hd:H' L.dp=some (.dK (putK kvs (Sum.inl (p.key:Int)) (.ref pa)))) (hpa:H pa=none) (hgl:H gl=none) (hp:xG a H' pa gl p):
 bQ a H' ho {L with gp:=fun j=>if j=p.key then⟨pa,gl⟩ else L.gp j} {st with pictures:=Vbfaae.putPicture p st.pictures}:=by
 obtain⟨n1,n2,n3⟩:=h.pno hkv
 obtain⟨kvs',e1,e2,e3⟩:=h.pd
 rw [hkv] at e1
 cases e1
 have hS:nU a H' L.ds L.gs st:=by
  refine⟨?_,fun k x hx=>(h.srs.at_ k x hx).keep fun b hb ob e=>fr b ob e (fun z=>n2 k x hx (z ▸ hb))⟩
  obtain⟨kv,g1,g2⟩:=h.srs.di
  exact⟨kv,fr _ _ g1 h.nds.symm,g2⟩
 refine⟨?_,?_,?_,⟨hS.di,hS.at_⟩,h.nds,h.nd,h.ndS,?_,h.ndH,?_⟩
 . obtain⟨dx,e⟩:=h.ob
   exact⟨dx,fr _ _ e n1.symm⟩
 . refine⟨_,hd,?_,fun k=> ?_⟩
   . rw [aEp,e3]
     show _=(Vbfaae.putPicture p st.pictures).length
     rw [bCo ok,e2]
     simp
   . rw [bBj,jP ok,e3 k]
     by_cases hk:k=p.key
     . rw [aD hk,aD (by rw [hk])];simp [hk]
     . rw [aF hk,aF (fun e=>hk (by injection e with e;omega))];simp [hk]
 . intro k p' hp'
   rw [jP ok] at hp'
   show xG a H' (if k=p.key then(⟨pa,gl⟩:GP) else L.gp k).pa (if k=p.key then(⟨pa,gl⟩:GP) else L.gp k).gl p'
   by_cases hk:k=p.key
   . rw [aD hk] at hp'
     cases hp'
     rw [aD hk];exact hp
   . rw [aF hk] at hp' ⊢
     obtain⟨⟨dx,g1⟩,g2⟩:=h.pics k p' hp'
     exact⟨⟨dx,fr _ _ g1 (fun e=>n3 k p' hp' (by rw [<-e];simp [adP]))⟩,fr _ _ g2 (fun e=>n3 k p' hp' (by rw [<-e];simp [adP]))⟩
 . intro k p' k' x' hp' hx' b hb
   have hx':Vbfaae.streamAt st k'=some x':=hx'
   rw [jP ok] at hp'
   have hb:b∈adP (if k=p.key then(⟨pa,gl⟩:GP) else L.gp k):=hb
   show b∉adS (L.gs k')
   by_cases hk:k=p.key
   . rw [aD hk] at hb
     simp [adP] at hb
     rcases hb with rfl|rfl
     . exact lE (h.srs.at_ k' x' hx') hpa
     . exact lE (h.srs.at_ k' x' hx') hgl
   . rw [aF hk] at hp' hb
     exact h.ndP k p' k' x' hp' hx' b hb
 . intro k p' hp'
   rw [jP ok] at hp'
   show ho∉adP (if k=p.key then(⟨pa,gl⟩:GP) else L.gp k)
   obtain⟨dx,e⟩:=h.ob
   by_cases hk:k=p.key
   . rw [aD hk]
     simp [adP]
     exact⟨fun z=>(by rw [z,hpa] at e;cases e),fun z=>(by rw [z,hgl] at e;cases e)⟩
   . rw [aF hk] at hp' ⊢
     exact h.ndHP k p' hp'
theorem aJz {H H':Hp} {ho:Addr} {L:Lay} {st:aB} (ok:M.bO st) {p:Vbfaae.Picture} {pa gl:Addr} (fr: ∀b ob,H b=some ob->b≠L.dp->H' b=some ob) (hpa:H pa=none) (hgl:H gl=none):
 Kept H H' ho L {L with gp:=fun j=>if j=p.key then⟨pa,gl⟩ else L.gp j} st {st with pictures:=Vbfaae.putPicture p st.pictures}:=by
 refine⟨fun b ob hb hno=>fr b ob hb (fun e=>hno (.inr (.inl e))),fun b hb=> .inl hb,fun b hb=> ?_⟩
 obtain⟨k,x,hx,hb⟩:=hb
 rw [jP ok] at hx
 have hb:b∈adP (if k=p.key then(⟨pa,gl⟩:GP) else L.gp k):=hb
 by_cases hk:k=p.key
 . rw [aD hk] at hb
   simp [adP] at hb
   rcases hb with rfl|rfl
   . exact .inr hpa
   . exact .inr hgl
 . rw [aF hk] at hb hx
   exact .inl ⟨k,x,hx,hb⟩
def cW (st:aB) (z:Int):Int:=if Vbfaae.keyed z=false then-1 else if(Vbfaae.pictureAt st z.toNat).isNone=true then-4 else 0
theorem bQ.bEs {a:Adr} {H:Hp} {ho:Addr} {L:Lay} {st:aB} (h:bQ a H ho L st) (z:Int): ∃kvs,H L.dp=some (.dK kvs)/\(if Vbfaae.keyed z=false then-1 else if dO kvs (Sum.inl z)=none then-4 else 0)=cW st z:=by
 obtain⟨kvs,e,_,e3⟩:=h.pd
 refine⟨kvs,e,?_⟩
 unfold cW
 by_cases hz:Vbfaae.keyed z=false
 . rw [aD hz,aD hz]
 . rw [aF hz,aF hz]
   have hz1:=M.cP.mp (M.not_false hz)
   obtain⟨zn,rfl⟩: ∃zn:Nat,z=(zn:Int):=⟨z.toNat,by omega⟩
   rw [e3 zn,aH]
   cases Vbfaae.pictureAt st zn<;>simp
theorem pA {st:aB} {z:Int} (h:cW st z<0) (f:Vbfaae.Picture->aB×List Int):Vbfaae.onPicture st z f=(st,[cW st z]):=by
 unfold cW at h ⊢
 unfold Vbfaae.onPicture
 by_cases hz:Vbfaae.keyed z=false
 . rw [aD hz,aD hz]
 . rw [aF hz] at h ⊢
   rw [aF hz]
   cases hx:Vbfaae.pictureAt st z.toNat with
   |none=>rfl
   |some x=>rw [hx] at h;simp at h
theorem gR {st:aB} {z:Int} (h: ¬cW st z<0): ∃(zn:Nat) (x:Vbfaae.Picture),z=(zn:Int)/\Vbfaae.pictureAt st zn=some x/\ ∀f:Vbfaae.Picture->aB×List Int,Vbfaae.onPicture st z f=f x:=by
 unfold cW at h
 by_cases hz:Vbfaae.keyed z=false
 . rw [aD hz] at h;exact absurd (by decide) h
 . rw [aF hz] at h
   have hz1:=M.cP.mp (M.not_false hz)
   cases hx:Vbfaae.pictureAt st z.toNat with
   |none=>rw [hx] at h;exact absurd (by decide) h
   |some x=>
    refine⟨z.toNat,x,by omega,hx,fun f=> ?_⟩
    unfold Vbfaae.onPicture
    rw [aF hz,hx]
def yV (K:aA) (a:Adr):L2.Sp:=fW (fun ns=>match ns with|[k]=>some (.values k)|_=>none) a
theorem lQ:bA ["house","numbers","key","refusal","picture"] ["house","numbers"] (aV zF):=by decide+kernel
theorem aPk (T:Txt P w K mg a):Ok P w K mg base 5 "call_values" ["house","numbers"] (yV K a):=by
 refine T.aRd.ok lQ (fun vs H Q E h=> ?_) (fun f cdv A outer s H vs Q E hr h=> ?_)
 . obtain⟨ho,L,st,q,ns,c,rfl,_⟩:=h
   rfl
 . obtain⟨ho,L,st,q,ns,c,rfl,hq,hnl,hm,hh,ok,hno,k⟩:=h
   have hu:=fO hr
   refine⟨_,(aK (aZ (i:=2) lQ.nd rfl (Or.inl rfl) (bZ bD (pv 1) aN (fun _ _=>rfl))) (aK (aZ (i:=3) lQ.nd rfl (Or.inl rfl) (aP (cV T) hr (by decide) rfl (aJ (aX (pv 0) rfl) (aJ (pv 2) aL)))) (aK (bR (bC dI (pv 3) aN (bF _)) (aM (aU (bU (aJ (pv 3) aL)))) bB) (aK (aZ (i:=4) lQ.nd rfl (Or.inl rfl) (cY hu (aX (pv 0) rfl) (pv 2) (fun _ _=>rfl))) (aM (aU (bG iJ (bU (aJ (aX (pv 4) rfl) (aJ (aX (pv 4) rfl) aL))) (aX (pv 4) rfl)))))))),?_⟩;symm
   obtain⟨z,rfl,rfl⟩: ∃z,ns=[z]/\c= .values z:=by
    match ns,hm with
    |[z],hm=>exact⟨z,rfl,(Option.some.inj hm).symm⟩
   obtain⟨dh,hho⟩:=hh.ob
   have hs:Vbfaae.step st (.values z)=Vbfaae.onPicture st z fun p=>(st,Vbfaae.ints (p.w::p.h::p.values)):=rfl
   obtain⟨kvs,hkv,hkr⟩:=hh.bEs z
   refine⟨_,rfl,q,_,_,_,rfl,rfl,SqL.of hq,rfl,?_⟩
   refine⟨_,rfl,_,_,_,_,_,rfl,hho,T.aW.cl,T.aW.no _ (by simp),bW,_,rfl,L.dp,kvs,z,rfl,hkv,fun H sK=> ?_⟩
   rw [hkr]
   replace k:=fun H' L' r (kp:Kept H H' ho L L' st _) hz (hn:H r=none\/Own ho L st r)=>k H' L' r (kp.pre sK) hz (hn.imp (fun z=>sK.free z) id)
   replace hh:=hh.same sK
   replace hq:=sK _ _ hq
   replace hho:=sK _ _ hho
   try replace hkv:=sK _ _ hkv
   refine⟨_,rfl,_,_,rfl,rfl,_,rfl,?_⟩
   by_cases hr:cW st z<0
   . rw [pA hr] at hs
     exact bI (by rw [aC];exact hr) ⟨_,rfl,(by show 1<=sizeLine;decide),fun r hrn=>step_same k hh (bJ.refl _) hs rfl hrn⟩
   . refine bK (by rw [aC];exact hr) ?_
     obtain⟨zn,x,rfl,hx,hf⟩:=gR hr
     rw [hf] at hs
     have hd:=hh.bDb zn
     rw [hx] at hd
     have hX:=hh.pics _ _ hx
     obtain⟨dx,ho1⟩:=hX.ob
     have po:=ok.pics x (ok.pat.mp hx).1
     refine⟨_,rfl,_,_,_,_,_,rfl,hho,T.aW.cl,T.aW.no _ (by simp),bW,_,rfl,L.dp,_,rfl,hd,?_⟩
     refine⟨_,rfl,_,_,_,_,_,rfl,ho1,T.bV.cl,T.bV.no _ (by simp),eF,_,rfl,_,_,_,_,_,rfl,ho1,T.bV.cl,T.bV.no _ (by simp),dU,(by show 2<=sizeLine;decide),fun t ht=> ?_⟩
     refine⟨_,rfl,_,_,_,_,_,rfl,(cI ht ho1),T.bV.cl,T.bV.no _ (by simp),jC,?_⟩
     have hwh:x.w*x.h<=24*24:=Nat.mul_le_mul po.w.2 po.h.2
     have hpl:=po.len
     refine⟨t,_,_,_,rfl,rfl,aO,cI ht hX.gr,cF (by simp;omega),fun r hrn=>step_same k hh (bM _ ht) hs ?_ hrn⟩
     simp [Vbfaae.ints,iv,ni]
def kZ (st:aB) (z wd ht:Int) (l:List Int):Int:=
 if(Vbfaae.keyed z&&(Vbfaae.within wd 1 24&&(Vbfaae.within ht 1 24&&(decide ((l.length:Int)=wd*ht)&&l.all fun z=>Vbfaae.within z 0 1023))))=false then-1 else if 6<=st.pictures.length/\(Vbfaae.pictureAt st z.toNat).isNone=true then-9 else 0
theorem aXw (st:aB) (z wd ht:Int) (l:List Int):Vbfaae.step st (.picture z wd ht l)=if kZ st z wd ht l<0 then(st,[kZ st z wd ht l]) else({st with pictures:=Vbfaae.putPicture ⟨z.toNat,wd.toNat,ht.toNat,Vbfaae.nats l⟩ st.pictures},[0]):=by
 have e6:Vbfaae.PICTURES=6:=rfl
 have e24:(Vbfaae.SIDE:Int)=24:=rfl
 simp only [Vbfaae.step,e6,e24]
 unfold kZ
 by_cases h1:(Vbfaae.keyed z&&(Vbfaae.within wd 1 24&&(Vbfaae.within ht 1 24&&(decide ((l.length:Int)=wd*ht)&&l.all fun z=>Vbfaae.within z 0 1023))))=false
 . simp only [aD h1];rfl
 . simp only [aF h1]
   by_cases h2:6<=st.pictures.length/\(Vbfaae.pictureAt st z.toNat).isNone=true
   . simp only [aD h2];rfl
   . simp only [aF h2];rfl
theorem bPb {st:aB} {z wd ht:Int} {l:List Int} (h: ¬kZ st z wd ht l<0):(1<=z/\z<=99)/\(1<=wd/\wd<=24)/\(1<=ht/\ht<=24)/\(l.length:Int)=wd*ht/\(l.all fun z=>Vbfaae.within z 0 1023)=true:=by
 unfold kZ at h
 by_cases h1:(Vbfaae.keyed z&&(Vbfaae.within wd 1 24&&(Vbfaae.within ht 1 24&&(decide ((l.length:Int)=wd*ht)&&l.all fun z=>Vbfaae.within z 0 1023))))=false
 . rw [aD h1] at h;exact absurd (by decide) h
 . have h1:=M.not_false h1
   simp only [Bool.and_eq_true,aC] at h1
   obtain⟨a1,a2,a3,a4,a5⟩:=h1
   exact⟨M.cP.mp a1,M.cB.mp a2,M.cB.mp a3,a4,a5⟩
inductive aAy (a:Adr) (vs:List V) (H:Hp) (Q:VK):Prop|mk (ho:Addr) (L:Lay) (st:aB) (z wd ht:Int) (o:Addr) (l:List Int) (z0:vs=[.ref ho,.int z,.int wd,.int ht,.ref o]) (z1:bQ a H ho L st) (z2:H o=some (.lst (iv l))) (z3:l.length<=100000) (z4: ∀H',bJ H H'->Q (.int (kZ st z wd ht l)) H') def aDv (K:aA) (a:Adr):L2.Sp:=fun vs H Q _=>aAy a vs H Q
theorem aDi:bA ["house","key","width","height","greys"] ["house","key","width","height","greys"] (aV qN):=by decide+kernel
theorem aCz (T:Txt P w K mg a):Ok P w K mg base 3 "picture_refusal" ["house","key","width","height","greys"] (aDv K a):=by
 refine T.aEg.ok aDi (fun vs H Q E h=> ?_) (fun f cdv A outer s H vs Q E hr h=> ?_)
 . obtain⟨ho,L,st,z,wd,ht,o,l,rfl,_⟩:=h
   rfl
 . obtain⟨ho,L,st,z,wd,ht,o,l,rfl,hh,hol,hl,k⟩:=h
   refine⟨_,(aK (bR (PW.pt (kY (eU (cT (aP (tG T) hr (by decide) rfl (aJ (pv 1) aL)))) (kY (eU (cT (aP (dZ T) hr (by decide) rfl (aJ (pv 2) (aJ aN (aJ aN aL)))))) (iK (eU (cT (aP (dZ T) hr (by decide) rfl (aJ (pv 3) (aJ aN (aJ aN aL)))))))))) (aM (aU (cA rfl T.cO))) bB) (aK (bR (PW.pt (kY (bC yC (bL bH (by rfl) T.dC PySem.boot_len (aJ (pv 4) aL)) (bG lH (pv 2) (pv 3)) (bF _)) (iK (eU (cT (aP (rT T) hr (by decide) rfl (aJ (pv 4) (aJ aN (aJ aN aL))))))))) (aM (aU (cA rfl T.cO))) bB) (aK (bR (cT (aP (uJ T) hr (by decide) rfl (aJ (aX (pv 0) rfl) (aJ (pv 1) (aJ (cA rfl T.vB) aL))))) (aM (aU (cA rfl T.aCq))) bB) (aM (aU aN))))),?_⟩;symm
   unfold kZ at k
   refine⟨_,rfl,z,rfl,_,rfl,?_⟩
   cases hz:Vbfaae.keyed z with
   |false=>
    rw [hz] at k
    exact bI rfl (bI rfl (k H (bJ.refl _)))
   |true=>
    rw [hz] at k
    refine bK (by decide) ⟨_,rfl,wd,1,24,rfl,_,rfl,?_⟩
    cases hw:Vbfaae.within wd 1 24 with
    |false=>
     rw [hw] at k
     exact bI rfl (bI rfl (k H (bJ.refl _)))
    |true=>
     rw [hw] at k
     refine bK (by decide) ⟨_,rfl,ht,1,24,rfl,_,rfl,?_⟩
     cases hht:Vbfaae.within ht 1 24 with
     |false=>
      rw [hht] at k
      exact bI rfl (k H (bJ.refl _))
     |true=>
      rw [hht] at k
      refine bK (by decide) ?_
      have hw1:=M.cB.mp hw
      have hht1:=M.cB.mp hht
      have hz1:=M.cP.mp hz
      refine⟨_,rfl,o,_,rfl,.inl (SqL.of hol),_,rfl,_,rfl,_,_,rfl,rfl,.inl ⟨by omega,by omega⟩,rfl,_,rfl,?_⟩
      by_cases hle:(l.length:Int)=wd*ht
      . refine bK (by rw [dR,aG,hle];simp) ?_
        refine⟨_,rfl,o,l,0,1023,rfl,hol,cF (by omega),fun H1 s1=>⟨_,rfl,?_⟩⟩
        have k:=k H1 s1
        have hh1:=hh.same s1
        obtain⟨dh,hho⟩:=hh1.ob
        cases hall:(l.all fun z=>Vbfaae.within z 0 1023) with
        |false=>
         rw [hall,decide_eq_true hle] at k
         exact bI rfl k
        |true=>
         rw [hall,decide_eq_true hle] at k
         refine bK (by decide) ?_
         rw [aF (by decide)] at k
         obtain⟨zn,rfl⟩: ∃zn:Nat,z=(zn:Int):=⟨z.toNat,by omega⟩
         rw [aH] at k
         obtain⟨kvs,hkv,hf⟩:=hh1.bNb zn
         refine⟨_,rfl,_,_,_,_,_,rfl,hho,T.aW.cl,T.aW.no _ (by simp),bW,_,rfl,L.dp,kvs,_,_,rfl,hkv,_,rfl,?_⟩
         rw [hf]
         by_cases h6:6<=st.pictures.length/\(Vbfaae.pictureAt st zn).isNone=true
         . rw [aD h6] at k
           exact bI (decide_eq_true h6) k
         . rw [aF h6] at k
           exact bK (by rw [aC];exact h6) k
      . have k:=k H (bJ.refl _)
        rw [decide_eq_false hle] at k
        exact bI (by rw [dR,aG];simp [hle]) (bI rfl k)
def vN (K:aA) (a:Adr):L2.Sp:=fW (fun ns=>match ns with|k::w::h::l=>some (.picture k w h l)|_=>none) a
theorem fX:bA ["house","numbers","key","width","height","greys","refusal"] ["house","numbers"] (aV vU):=by decide+kernel
theorem aLh (T:Txt P w K mg a):Ok P w K mg base 4 "call_picture" ["house","numbers"] (vN K a):=by
 refine T.aNq.ok fX (fun vs H Q E h=> ?_) (fun f cdv A outer s H vs Q E hr h=> ?_)
 . obtain⟨ho,L,st,q,ns,c,rfl,_⟩:=h
   rfl
 . obtain⟨ho,L,st,q,ns,c,rfl,hq,hnl,hm,hh,ok,hno,k⟩:=h
   have hu:=fO hr
   refine⟨_,(aK (aZ (i:=2) fX.nd rfl (Or.inl rfl) (bZ bD (pv 1) aN (fun _ _=>rfl))) (aK (aZ (i:=3) fX.nd rfl (Or.inl rfl) (bZ bD (pv 1) aN (fun _ _=>rfl))) (aK (aZ (i:=4) fX.nd rfl (Or.inl rfl) (bZ bD (pv 1) aN (fun _ _=>rfl))) (aK (aZ (i:=5) fX.nd rfl (Or.inl rfl) (iU lV (pv 1) (gH aN) aAf)) (aK (aZ (i:=6) fX.nd rfl (Or.inl rfl) (aP (aCz T) hr (by decide) rfl (aJ (pv 0) (aJ (pv 2) (aJ (pv 3) (aJ (pv 4) (aJ (pv 5) aL))))))) (aK (bR (bC dI (pv 6) aN (bF _)) (aM (aU (bU (aJ (pv 6) aL)))) bB) (aK (aNf hu (aX (pv 0) rfl) (pv 2) (gU T.bV (jK T) hr (by decide) rfl (aJ (pv 3) (aJ (pv 4) (aJ (pv 5) aL)))) rfl) (aM (aU (bU (aJ aN aL))))))))))),?_⟩;symm
   obtain⟨z,wd,ht,l,rfl,rfl⟩: ∃z w h l,ns=z::w::h::l/\c= .picture z w h l:=by
    match ns,hm with
    |z::w::h::l,hm=>exact⟨z,w,h,l,rfl,(Option.some.inj hm).symm⟩
   have hs:=aXw st z wd ht l
   have hll:l.length<2000:=by simp at hnl;omega
   refine⟨_,rfl,q,_,_,_,rfl,rfl,SqL.of hq,at_of (j:=0) rfl rfl,?_⟩
   refine⟨_,rfl,q,_,_,_,rfl,rfl,SqL.of hq,at_of (j:=1) rfl rfl,?_⟩
   refine⟨_,rfl,q,_,_,_,rfl,rfl,SqL.of hq,at_of (j:=2) rfl rfl,?_⟩
   refine⟨_,rfl,_,rfl,q,_,rfl,SqL.of hq,fun gl hgl=> ?_⟩
   have ecut:oV (iv (z::wd::ht::l)) (some 3) none=iv l:=aAa (iv (z::wd::ht::l)) 3
   rw [ecut]
   have S1:=bM (.lst (iv l)) hgl
   have hoc:upd H gl (.lst (iv l)) gl=some (.lst (iv l)):=aO
   generalize upd H gl (.lst (iv l))=H1 at*
   refine⟨_,rfl,_,rfl,_,rfl,_,rfl,_,rfl,ho,L,st,z,wd,ht,gl,l,rfl,hh.same S1,hoc,by omega,fun H2 s2=> ?_⟩
   have S2:=S1.trans s2
   have hh2:=hh.same S2
   have hoc2:=s2 _ _ hoc
   refine⟨_,rfl,_,_,rfl,rfl,_,rfl,?_⟩
   by_cases hr:kZ st z wd ht l<0
   . rw [aD hr] at hs
     exact bI (by rw [aC];exact hr) ⟨_,rfl,(by show 1<=sizeLine;decide),fun r hrn=>step_same k hh S2 hs rfl hrn⟩
   . rw [aF hr] at hs
     refine bK (by rw [aC];exact hr) ?_
     obtain⟨hz,hw,hht,hle,hall⟩:=bPb hr
     obtain⟨zn,rfl⟩: ∃n:Nat,z=(n:Int):=⟨z.toNat,by omega⟩
     obtain⟨wn,rfl⟩: ∃n:Nat,wd=(n:Int):=⟨wd.toNat,by omega⟩
     obtain⟨hn,rfl⟩: ∃n:Nat,ht=(n:Int):=⟨ht.toNat,by omega⟩
     simp only [aH] at hs
     refine⟨_,rfl,_,rfl,_,rfl,fun pa dn hpa hdn hne=> ?_⟩
     refine⟨pa,dn,_,_,_,rfl,aO,fun H3 h3 kp=>⟨rfl,?_⟩⟩
     have s3:=bJ.made hpa hdn kp
     have S3:=S2.trans s3
     have hh3:=hh.same S3
     obtain⟨dh,hho⟩:=hh3.ob
     obtain⟨kvs,hkv,hkl,hkval⟩:=hh.pd
     have hkv3:=S3 _ _ hkv
     have np:=ok.np
     refine⟨_,rfl,_,_,_,_,_,rfl,hho,T.aW.cl,T.aW.no _ (by simp),bW,_,rfl,L.dp,_,rfl,aUt.k (k:=Sum.inl (zn:Int)) hkv3 (Nat.lt_of_lt_of_le (by omega:kvs.length<1000) (by decide)),?_⟩
     refine⟨(by show 1<=sizeLine;decide),fun r hrn=> ?_⟩
     rw [hs] at k
     have hpa0:=S2.free hpa
     have npd:pa≠L.dp:=fun e=>by rw [e,hkv] at hpa0;cases hpa0
     have ngd:gl≠L.dp:=fun e=>by rw [e,hkv] at hgl;cases hgl
     have S4:=bM (.lst [V.int 0]) hrn
     have fr: ∀b ob,H b=some ob->b≠L.dp->upd (upd H3 L.dp (.dK (putK kvs (Sum.inl (zn:Int)) (.ref pa)))) r (.lst [V.int 0]) b=some ob:=fun b ob hb hn=>S4 _ _ (by rw [aR hn];exact S3 _ _ hb)
     refine k _ {L with gp:=fun j=>if j=zn then⟨pa,gl⟩ else L.gp j} r (aJz (p:=⟨zn,wn,hn,Vbfaae.nats l⟩) ok fr hpa0 hgl) ?_ (.inl (S3.free (cG hrn))) (by rw [aO];rfl)
     refine hh.aPw ok (p:=⟨zn,wn,hn,Vbfaae.nats l⟩) hkv fr (S4 _ _ aO) hpa0 hgl ⟨⟨dn,S4 _ _ (by rw [aR npd];exact h3)⟩,S4 _ _ ?_⟩
     rw [aR ngd,s3 _ _ hoc2,aVy hall]
theorem bCn {st:aB} (ok:M.bO st) {n g:Nat} {x:Vbfaae.Stream} (hx:Vbfaae.streamAt st n=some x) (hne:n≠g) (hg:1<=g):M.mW st g n↔M.mW st g x.ref:=by
 constructor
 . intro h
   cases h with
   |here=>exact absurd rfl hne
   |step hx' hr hl=>rw [hx] at hx';cases hx';exact hl
 . intro h
   by_cases hr:x.ref=0
   . rw [hr] at h
     cases h with
     |here=>omega
     |step hx' _ _=>
      obtain⟨hm,hk⟩:=ok.at_.mp hx'
      have:=(ok.sOk _ hm).key
      omega
   . exact .step hx hr h
theorem bCm {st:aB} {n g:Nat} (hx:Vbfaae.streamAt st n=none) (hne:n≠g): ¬M.mW st g n:=fun h=>by
 cases h with
 |here=>exact hne rfl
 |step hx' _ _=>rw [hx] at hx';cases hx'
def aEq (st:aB) (ρ:Nat->Nat) (n:Nat):Nat:=if(Vbfaae.streamAt st n).isSome=true then M.below st ρ n+1 else 0
theorem bIp {st:aB} (ok:M.bO st) {ρ:Nat->Nat} (hρ: ∀x∈st.streams,x.ref≠0->ρ x.ref<ρ x.key) {n:Nat} {x:Vbfaae.Stream} (hx:Vbfaae.streamAt st n=some x):aEq st ρ x.ref<aEq st ρ n:=by
 have e:aEq st ρ n=M.below st ρ n+1:=by unfold aEq;rw [hx];rfl
 rw [e]
 by_cases hr:x.ref=0
 . have h0:Vbfaae.streamAt st x.ref=none:=by
    cases h:Vbfaae.streamAt st x.ref with
    |none=>rfl
    |some y=>
     obtain⟨hm,hk⟩:=ok.at_.mp h
     have:=(ok.sOk _ hm).key
     omega
   unfold aEq
   rw [h0]
   exact Nat.succ_pos _
 . have:=M.sS ok hρ hx hr
   unfold aEq
   split
   . omega
   . exact Nat.succ_pos _
def bBn (H:Hp) (ho:Addr) (st:aB) (ρ:Nat->Nat) (s g:Nat):Nat->L2.St->Hp->Prop:=fun m σ H'=>H'=H/\ ∃n:Nat,σ=[some (.ref ho),some (.int s),some (.int g),some (.int n)]/\m=aEq st ρ n/\(M.mW st g s↔M.mW st g n)
inductive aXh (a:Adr) (vs:List V) (H:Hp) (Q:VK):Prop|mk (ho:Addr) (L:Lay) (st:aB) (s g:Nat) (b:Bool) (z0:vs=[.ref ho,.int s,.int g]) (z1:bQ a H ho L st) (z2:M.bO st) (z3:1<=g) (z4:(b=true↔M.mW st g s)) (z5:Q (.bl b) H) def bAw (K:aA) (a:Adr):L2.Sp:=fun vs H Q _=>aXh a vs H Q
theorem yM:bA ["house","start","key","link"] ["house","start","key"] (aV aKn):=by decide+kernel
theorem aKf (T:Txt P w K mg a):Ok P w K mg base 1 "leads_to" ["house","start","key"] (bAw K a):=by
 refine T.bCa.ok yM (fun vs H Q E h=> ?_) (fun f cdv A outer s H vs Q E hr h=> ?_)
 . obtain⟨ho,L,st,s0,g,b,rfl,_⟩:=h
   rfl
 . obtain⟨ho,L,st,s0,g,b,rfl,hh,ok,hg,hb,k⟩:=h
   have hu:=fO hr
   refine⟨_,(aK (aZ (i:=3) yM.nd rfl (Or.inl rfl) (pv 1)) (aK (tL PassesOwn.never (PW.pt (rY (bC yC (pv 3) (pv 2) (bF _)) (pB (aDc (bJd hu (pv 3) (aX (pv 0) rfl)))))) (aM (aZ (i:=3) yM.nd rfl (Or.inl rfl) (aX (cY hu (aX (pv 0) rfl) (pv 3) (fun _ _=>rfl)) rfl)))) (aM (aU (rC nG (pv 3) (pv 2) (bF _)))))),?_⟩;symm
   obtain⟨dh,hho⟩:=hh.ob
   obtain⟨ρ,hρ⟩:=ok.rank
   refine⟨_,rfl,?_⟩
   refine aHk (bBn H ho st ρ s0 g) (aEq st ρ s0) ⟨rfl,s0,rfl,rfl,Iff.rfl⟩ ?_
   rintro m σ H' ⟨rfl,n,rfl,rfl,hl⟩
   refine⟨_,rfl,_,rfl,rfl,_,rfl,?_⟩
   have ret: ∀b':Bool,(b'=true↔M.mW st g s0)->Q (.bl b') H':=fun b' h=>by
    have:b'=b:=by rw [Bool.eq_iff_iff,h,hb]
    rw [this];exact k
   by_cases hn:n=g
   . subst hn
     refine bK (by simp) ?_
     refine bK (by decide) ?_
     refine⟨_,rfl,_,rfl,rfl,ret _ ?_⟩
     rw [hl]
     simp
     exact .here
   . refine bI (by rw [dR];simp;omega) ?_
     have hd:=hh.pN n
     refine⟨_,rfl,_,rfl,_,_,_,_,_,rfl,hho,T.aW.cl,T.aW.no _ (by simp),aY,L.ds,_,rfl,hd,_,rfl,?_⟩
     cases hx:Vbfaae.streamAt st n with
     |none=>
      refine bK (by simp) ?_
      refine⟨_,rfl,_,rfl,rfl,ret _ ?_⟩
      rw [hl,dR]
      simp
      constructor
      . intro h;omega
      . intro h;exact absurd h (bCm hx hn)
     |some x=>
      rw [hx] at hd
      have hX:=hh.srs.at_ _ _ hx
      obtain⟨dx,ho1⟩:=hX.ob
      refine bI (by simp) ?_
      refine⟨fun σ' H1=> ∃m',m'<aEq st ρ n/\bBn H' ho st ρ s0 g m' σ' H1,fun σ' H1 h=>h,?_⟩
      refine⟨_,rfl,_,_,_,_,_,rfl,hho,T.aW.cl,T.aW.no _ (by simp),aY,_,rfl,L.ds,_,rfl,hd,_,_,_,_,_,rfl,ho1,T.aQ.cl,T.aQ.no _ (by simp),dY,?_⟩
      exact⟨_,bIp ok hρ hx,rfl,x.ref,rfl,rfl,hl.trans (bCn ok hx hn hg)⟩
def aAg (st:aB) (p:Vbfaae.Picture) (S ref:Nat):Int:=match Vbfaae.streamAt st ref with
 |none=> -4
 |some r=>if(r.w !=p.w||(r.h !=p.h||r.slices !=S))=true then-5 else if Vbfaae.reaches st p.key 7 r.key=true then-7 else 0
def kI (st:aB) (z sl ref:Int):Int:=if(Vbfaae.within sl 1 8&&Vbfaae.within ref 0 99)=false then-1 else if cW st z<0 then cW st z else
 match Vbfaae.pictureAt st z.toNat with
 |none=>0
 |some p=>if p.h<sl.toNat then-3 else if 6<=st.streams.length/\(Vbfaae.streamAt st p.key).isNone=true then-9 else if ref=0 then 0 else aAg st p sl.toNat ref.toNat
inductive wZ (a:Adr) (vs:List V) (H:Hp) (Q:VK):Prop|mk (ho:Addr) (L:Lay) (st:aB) (p:Vbfaae.Picture) (S ref:Nat) (z0:vs=[.ref ho,.int p.key,.ref (L.gp p.key).pa,.int S,.int ref]) (z1:bQ a H ho L st) (z2:M.bO st) (z3:p∈st.pictures) (z4:Q (.int (aAg st p S ref)) H) def yX (K:aA) (a:Adr):L2.Sp:=fun vs H Q _=>wZ a vs H Q
theorem nM:bA ["house","key","picture","slices","reference","stream"] ["house","key","picture","slices","reference"] (aV nR):=by decide+kernel
theorem xY (T:Txt P w K mg a):Ok P w K mg base 2 "reference_refusal" ["house","key","picture","slices","reference"] (yX K a):=by
 refine T.aAj.ok nM (fun vs H Q E h=> ?_) (fun f cdv A outer s H vs Q E hr h=> ?_)
 . obtain⟨ho,L,st,p,S,ref,rfl,_⟩:=h
   rfl
 . obtain⟨ho,L,st,p,S,ref,rfl,hh,ok,hp,k⟩:=h
   have hu:=fO hr
   refine⟨_,(aK (bR (aDc (aIu hu (pv 4) (aX (pv 0) rfl))) (aM (aU (cA rfl T.aHx))) bB) (aK (aZ (i:=5) nM.nd rfl (Or.inl rfl) (cY hu (aX (pv 0) rfl) (pv 4) (fun _ _=>rfl))) (aK (bR (PW.pt (kY (bC yC (aX (pv 5) rfl) (aX (pv 2) rfl) (bF _)) (kY (bC yC (aX (pv 5) rfl) (aX (pv 2) rfl) (bF _)) (iK (bC yC (aX (pv 5) rfl) (pv 3) (bF _)))))) (aM (aU (cA rfl T.aZk))) bB) (aK (bR (cT (aP (aKf T) hr (by decide) rfl (aJ (pv 0) (aJ (pv 4) (aJ (pv 1) aL))))) (aM (aU (cA rfl T.bIf))) bB) (aM (aU aN)))))),?_⟩;symm
   obtain⟨dh,hho⟩:=hh.ob
   have hpa:=ok.pat.mpr ⟨hp,rfl⟩
   have hP:=hh.pics _ _ hpa
   obtain⟨dp,hpo⟩:=hP.ob
   have po:=ok.pics p hp
   unfold aAg at k
   have hd:=hh.pN ref
   refine⟨_,rfl,_,rfl,_,_,_,_,_,rfl,hho,T.aW.cl,T.aW.no _ (by simp),aY,L.ds,_,rfl,hd,_,rfl,?_⟩
   cases hx:Vbfaae.streamAt st ref with
   |none=>
    rw [hx] at k
    exact bI rfl k
   |some x=>
    rw [hx] at k hd
    have hX:=hh.srs.at_ _ _ hx
    obtain⟨dx,ho1⟩:=hX.ob
    obtain⟨hxm,hxk⟩:=ok.at_.mp hx
    refine bK (by simp) ?_
    refine⟨_,rfl,_,_,_,_,_,rfl,hho,T.aW.cl,T.aW.no _ (by simp),aY,_,rfl,L.ds,_,rfl,hd,?_⟩
    dsimp only at k
    refine⟨_,rfl,_,_,_,_,_,rfl,ho1,T.aQ.cl,T.aQ.no _ (by simp),cD,_,rfl,_,_,_,_,_,rfl,hpo,T.bV.cl,T.bV.no _ (by simp),eF,rfl,_,rfl,?_⟩
    by_cases h1:x.w=p.w
    . refine bK (by rw [dR,h1];simp) ?_
      refine⟨_,rfl,_,_,_,_,_,rfl,ho1,T.aQ.cl,T.aQ.no _ (by simp),fG,_,rfl,_,_,_,_,_,rfl,hpo,T.bV.cl,T.bV.no _ (by simp),dU,rfl,_,rfl,?_⟩
      by_cases h2:x.h=p.h
      . refine bK (by rw [dR,h2];simp) ?_
        refine⟨_,rfl,_,_,_,_,_,rfl,ho1,T.aQ.cl,T.aQ.no _ (by simp),dG,_,rfl,rfl,_,rfl,?_⟩
        by_cases h3:x.slices=S
        . refine bK (by rw [dR,h3];simp) ?_
          rw [aF (by simp [h1,h2,h3])] at k
          have hle:=ok.reaches (goal:=p.key) (x:=x) (k:=x.key) (by rw [hxk];exact hx)
          refine⟨_,rfl,_,rfl,_,rfl,ho,L,st,ref,p.key,Vbfaae.reaches st p.key 7 x.key,rfl,hh,ok,po.key.1,(by rw [hle,hxk]),?_⟩
          refine⟨_,rfl,?_⟩
          cases hr:Vbfaae.reaches st p.key 7 x.key with
          |true=>rw [hr] at k;exact bI rfl k
          |false=>rw [hr] at k;exact bK (by decide) k
        . rw [aD (by simp [h3])] at k
          exact bI (by rw [dR];simp;omega) k
      . rw [aD (by simp [h2])] at k
        exact bI (by rw [dR];simp;omega) (bI rfl k)
    . rw [aD (by simp [h1])] at k
      exact bI (by rw [dR];simp;omega) (bI rfl k)
inductive aJk (a:Adr) (vs:List V) (H:Hp) (Q:VK):Prop|mk (ho:Addr) (L:Lay) (st:aB) (z sl ref:Int) (z0:vs=[.ref ho,.int z,.int sl,.int ref]) (z1:bQ a H ho L st) (z2:M.bO st) (z3: ∀H',bJ H H'->Q (.int (kI st z sl ref)) H') def aMr (K:aA) (a:Adr):L2.Sp:=fun vs H Q _=>aJk a vs H Q
theorem oH:bA ["house","key","slices","reference","refusal","picture"] ["house","key","slices","reference"] (aV wH):=by decide+kernel
theorem aLr (T:Txt P w K mg a):Ok P w K mg base 5 "pack_refusal" ["house","key","slices","reference"] (aMr K a):=by
 refine T.aOc.ok oH (fun vs H Q E h=> ?_) (fun f cdv A outer s H vs Q E hr h=> ?_)
 . obtain⟨ho,L,st,z,sl,ref,rfl,_⟩:=h
   rfl
 . obtain⟨ho,L,st,z,sl,ref,rfl,hh,ok,k⟩:=h
   have hu:=fO hr
   refine⟨_,(aK (bR (PW.pt (kY (eU (cT (aP (dZ T) hr (by decide) rfl (aJ (pv 2) (aJ aN (aJ aN aL)))))) (iK (eU (cT (aP (dZ T) hr (by decide) rfl (aJ (pv 3) (aJ aN (aJ aN aL))))))))) (aM (aU (cA rfl T.cO))) bB) (aK (aZ (i:=4) oH.nd rfl (Or.inl rfl) (aP (cV T) hr (by decide) rfl (aJ (aX (pv 0) rfl) (aJ (pv 1) aL)))) (aK (bR (bC dI (pv 4) aN (bF _)) (aM (aU (pv 4))) bB) (aK (aZ (i:=5) oH.nd rfl (Or.inl rfl) (cY hu (aX (pv 0) rfl) (pv 1) (fun _ _=>rfl))) (aK (bR (bC oM (pv 2) (aX (pv 5) rfl) (bF _)) (aM (aU (cA rfl T.oY))) bB) (aK (bR (cT (aP (uJ T) hr (by decide) rfl (aJ (aX (pv 0) rfl) (aJ (pv 1) (aJ (cA rfl T.xQ) aL))))) (aM (aU (cA rfl T.aCq))) bB) (aK (bR (bC nG (pv 3) aN (bF _)) (aM (aU aN)) bB) (aM (aU (aP (xY T) hr (by decide) rfl (aJ (pv 0) (aJ (pv 1) (aJ (pv 5) (aJ (pv 2) (aJ (pv 3) aL))))))))))))))),?_⟩;symm
   obtain⟨dh,hho⟩:=hh.ob
   unfold kI at k
   refine⟨_,rfl,sl,1,8,rfl,_,rfl,?_⟩
   cases hsl:Vbfaae.within sl 1 8 with
   |false=>rw [hsl] at k;exact bI rfl (bI rfl (k H (bJ.refl _)))
   |true=>
    rw [hsl] at k
    refine bK (by decide) ⟨_,rfl,ref,0,99,rfl,_,rfl,?_⟩
    cases href:Vbfaae.within ref 0 99 with
    |false=>rw [href] at k;exact bI rfl (k H (bJ.refl _))
    |true=>
     rw [href] at k
     refine bK (by decide) ?_
     have hsl1:=M.cB.mp hsl
     have href1:=M.cB.mp href
     obtain⟨kvs,hkv,hkr⟩:=hh.bEs z
     refine⟨_,rfl,_,_,_,_,_,rfl,hho,T.aW.cl,T.aW.no _ (by simp),bW,_,rfl,L.dp,kvs,z,rfl,hkv,fun H sK=> ?_⟩
     rw [hkr]
     replace k:=k H sK
     rw [aF (by decide)] at k
     replace hh:=hh.same sK
     replace hho:=sK _ _ hho
     refine⟨_,rfl,_,_,rfl,rfl,_,rfl,?_⟩
     by_cases hr:cW st z<0
     . rw [aD hr] at k
       exact bI (by rw [aC];exact hr) ⟨_,rfl,k⟩
     . rw [aF hr] at k
       refine bK (by rw [aC];exact hr) ?_
       obtain⟨zn,p,rfl,hp,hf⟩:=gR hr
       obtain⟨Sn,rfl⟩: ∃n:Nat,sl=(n:Int):=⟨sl.toNat,by omega⟩
       obtain⟨rn,rfl⟩: ∃n:Nat,ref=(n:Int):=⟨ref.toNat,by omega⟩
       obtain⟨hpm,hpk⟩:=ok.pat.mp hp
       subst hpk
       simp only [aH,hp] at k
       have hd:=hh.bDb p.key
       rw [hp] at hd
       have hP:=hh.pics _ _ hp
       obtain⟨dp,hpo⟩:=hP.ob
       refine⟨_,rfl,_,_,_,_,_,rfl,hho,T.aW.cl,T.aW.no _ (by simp),bW,_,rfl,L.dp,_,rfl,hd,?_⟩
       refine⟨_,rfl,_,rfl,_,_,_,_,_,rfl,hpo,T.bV.cl,T.bV.no _ (by simp),dU,_,_,rfl,rfl,_,rfl,?_⟩
       by_cases h3:p.h<Sn
       . rw [aD h3] at k
         exact bI (by rw [aC];show (p.h:Int)<Sn;omega) k
       . rw [aF h3] at k
         refine bK (by rw [aC];show¬(p.h:Int)<Sn;omega) ?_
         obtain⟨kvs2,hkv2,hf2⟩:=hh.full p.key
         refine⟨_,rfl,_,_,_,_,_,rfl,hho,T.aW.cl,T.aW.no _ (by simp),aY,_,rfl,L.ds,kvs2,_,_,rfl,hkv2,_,rfl,?_⟩
         rw [hf2]
         by_cases h6:6<=st.streams.length/\(Vbfaae.streamAt st p.key).isNone=true
         . rw [aD h6] at k
           exact bI (decide_eq_true h6) k
         . rw [aF h6] at k
           refine bK (by rw [aC];exact h6) ?_
           refine⟨_,rfl,rfl,_,rfl,?_⟩
           by_cases hr0:rn=0
           . subst hr0
             exact bI rfl k
           . rw [aF (by omega)] at k
             refine bK (by rw [dR];simp;omega) ?_
             exact⟨_,rfl,_,rfl,_,rfl,_,rfl,_,rfl,ho,L,st,p,Sn,rn,rfl,hh,ok,hpm,k⟩
theorem bQ.aIw {a:Adr} {H H':Hp} {ho:Addr} {L:Lay} {st:aB} (h:bQ a H ho L st) (ok:M.bO st) {y:Vbfaae.Stream} {g:GS} {n:Nat} {kvs:List (Key×V)} (hkv:H L.ds=some (.dK kvs))
 (fr: ∀b ob,H b=some ob->b≠L.ds->b≠ho->H' b=some ob) (hd:H' L.ds=some (.dK (putK kvs (Sum.inl (y.key:Int)) (.ref g.s)))) (hho: ∃dx,H' ho=some (.ins a.cHouse dx (fL (.ref L.dp) (.ref L.ds) (.int n))))
 (hs:cZ a H' g y) (nd:(adS g).Nodup) (nw: ∀b∈adS g,H b=none):
 bQ a H' ho {L with gs:=fun j=>if j=y.key then g else L.gs j} (Vbfaae.withStream {st with next:=n} y):=by
 have at': ∀k,Vbfaae.streamAt (Vbfaae.withStream {st with next:=n} y) k=if k=y.key then some y else Vbfaae.streamAt st k:=fun k=>ok.zU (x:=y) (k:=k)
 obtain⟨n1,n2,n3⟩:=h.pno hkv
 obtain⟨dxh,hob⟩:=h.ob
 obtain⟨kvs',e1,e2,e3⟩:=h.srs.di
 rw [hkv] at e1
 cases e1
 have notnew: ∀b ob,H b=some ob->b∉adS g:=fun b ob hb hm=>by rw [nw b hm] at hb;cases hb
 refine⟨hho,?_,?_,⟨?_,?_⟩,h.nds,?_,?_,?_,?_,h.ndHP⟩
 . obtain⟨kv,g1,g2⟩:=h.pd
   exact⟨kv,fr _ _ g1 h.nds (h.pno g1).1,g2⟩
 . intro k p hp
   obtain⟨⟨dx,g1⟩,g2⟩:=h.pics k p hp
   have hp2:=n3 k p hp
   have hp3:=h.ndHP k p hp
   exact⟨⟨dx,fr _ _ g1 (fun e=>hp2 (by rw [<-e];simp [adP])) (fun e=>hp3 (by rw [<-e];simp [adP]))⟩,fr _ _ g2 (fun e=>hp2 (by rw [<-e];simp [adP])) (fun e=>hp3 (by rw [<-e];simp [adP]))⟩
 . refine⟨_,hd,?_,fun k=> ?_⟩
   . rw [aEp,e3]
     show _=(Vbfaae.withStream st y).streams.length
     rw [ok.aEo,e2]
     simp
   . rw [bBj,at',e3 k]
     by_cases hk:k=y.key
     . rw [aD hk,aD (by rw [hk])];simp [hk]
     . rw [aF hk,aF (fun e=>hk (by injection e with e;omega))];simp [hk]
 . intro k x hx
   rw [at'] at hx
   show cZ a H' (if k=y.key then g else L.gs k) x
   by_cases hk:k=y.key
   . rw [aD hk] at hx
     cases hx
     rw [aD hk];exact hs
   . rw [aF hk] at hx ⊢
     exact(h.srs.at_ k x hx).keep fun b hb ob e=>fr b ob e (fun z=>n2 k x hx (z ▸ hb)) (fun z=>h.ndH k x hx (z ▸ hb))
 . intro k x hx
   rw [at'] at hx
   show (adS (if k=y.key then g else L.gs k)).Nodup
   by_cases hk:k=y.key
   . rw [aD hk];exact nd
   . rw [aF hk] at hx ⊢; exact h.nd k x hx
 . intro j u j' u' hu hu' hne b hb
   rw [at'] at hu hu'
   have hb:b∈adS (if j=y.key then g else L.gs j):=hb
   show b∉adS (if j'=y.key then g else L.gs j')
   by_cases hj:j=y.key<;>by_cases hj':j'=y.key
   . omega
   . rw [aD hj] at hb
     rw [aF hj'] at hu' ⊢
     exact lE (h.srs.at_ j' u' hu') (nw b hb)
   . rw [aF hj] at hb hu
     rw [aD hj']
     obtain⟨ob,e,_⟩:=(h.srs.at_ j u hu).some_ b hb
     exact notnew b ob e
   . rw [aF hj] at hb hu
     rw [aF hj'] at hu' ⊢
     exact h.ndS j u j' u' hu hu' hne b hb
 . intro j p j' u' hp hu' b hb
   rw [at'] at hu'
   show b∉adS (if j'=y.key then g else L.gs j')
   by_cases hj':j'=y.key
   . rw [aD hj']
     have hp':=h.pics j p hp
     simp [adP] at hb
     rcases hb with rfl|rfl
     . obtain⟨dx,e⟩:=hp'.ob;exact notnew _ _ e
     . exact notnew _ _ hp'.gr
   . rw [aF hj'] at hu' ⊢
     exact h.ndP j p j' u' hp hu' b hb
 . intro j u hu
   rw [at'] at hu
   show ho∉adS (if j=y.key then g else L.gs j)
   by_cases hj:j=y.key
   . rw [aD hj];exact notnew _ _ hob
   . rw [aF hj] at hu ⊢; exact h.ndH j u hu
theorem aOs {H H':Hp} {ho:Addr} {L:Lay} {st:aB} (ok:M.bO st) {y:Vbfaae.Stream} {g:GS} {n:Nat}
 (fr: ∀b ob,H b=some ob->b≠L.ds->b≠ho->H' b=some ob) (nw: ∀b∈adS g,H b=none):Kept H H' ho L {L with gs:=fun j=>if j=y.key then g else L.gs j} st (Vbfaae.withStream {st with next:=n} y):=by
 have at': ∀k,Vbfaae.streamAt (Vbfaae.withStream {st with next:=n} y) k=if k=y.key then some y else Vbfaae.streamAt st k:=fun k=>ok.zU (x:=y) (k:=k)
 refine⟨fun b ob hb hno=>fr b ob hb (fun e=>hno (.inr (.inr (.inl e)))) (fun e=>hno (.inl e)),fun b hb=> ?_,fun b hb=> .inl hb⟩
 rcases hb with rfl|rfl|rfl|⟨j,u,hu,hb⟩
 . exact .inl (.inl rfl)
 . exact .inl (.inr (.inl rfl))
 . exact .inl (.inr (.inr (.inl rfl)))
 . rw [at'] at hu
   have hb:b∈adS (if j=y.key then g else L.gs j):=hb
   by_cases hj:j=y.key
   . rw [aD hj] at hb;exact .inr (nw b hb)
   . rw [aF hj] at hb hu;exact .inl (.inr (.inr (.inr ⟨j,u,hu,hb⟩)))
structure bNu (st:aB) (p:Vbfaae.Picture) (S rn rs:Nat) (rl:List Nat) (L:Lay) (v:V):Prop where
 len:rl.length=p.w*p.h
 val: ∀z∈rl,z<1024
 by_:(v= .non/\rn=0/\rs=0/\Vbfaae.streamAt st rn=none)\/(rn≠0/\ ∃r,v= .ref (L.gs rn).s/\Vbfaae.streamAt st rn=some r/\rs=r.stamp/\rl=r.was/\p.w=r.w/\p.h=r.h/\S=r.slices)
def jE (st:aB) (p:Vbfaae.Picture) (S rn rs:Nat):Vbfaae.Stream:=⟨p.key,st.next,p.w,p.h,S,rn,rs,p.values,[]⟩
theorem bHc {st:aB} (ok:M.bO st) (L:Lay) (z sl ref:Int):(kI st z sl ref<0->Vbfaae.step st (.pack z sl ref)=(st,[kI st z sl ref]))/\(¬kI st z sl ref<0->
 ∃(p:Vbfaae.Picture) (S rn rs:Nat) (rl:List Nat) (v:V),z=(p.key:Int)/\sl=(S:Int)/\ref=(rn:Int)/\Vbfaae.pictureAt st p.key=some p/\M.lC (jE st p S rn rs)/\bNu st p S rn rs rl L v/\
  Vbfaae.step st (.pack z sl ref)=(Vbfaae.withStream {st with next:=st.next+1} (Vbfaae.packed (jE st p S rn rs) rl),Vbfaae.ints ((Vbfaae.packed (jE st p S rn rs) rl).packets.map fun q=>q.1.length))):=by
 have e8:(Vbfaae.SLICES:Int)=8:=rfl
 have e99:(Vbfaae.KEY:Int)=99:=rfl
 have e6:Vbfaae.STREAMS=6:=rfl
 simp only [Vbfaae.step,e8,e99,e6]
 unfold kI
 by_cases h1:(Vbfaae.within sl 1 8&&Vbfaae.within ref 0 99)=false
 . simp only [aD h1]
   exact⟨fun _=>trivial,fun h=>absurd (by decide) h⟩
 . simp only [aF h1]
   by_cases h2:cW st z<0
   . simp only [aD h2,pA h2]
     exact⟨fun _=>trivial,fun h=>absurd h2 h⟩
   . simp only [aF h2]
     have h1:=M.not_false h1
     rw [Bool.and_eq_true,M.cB,M.cB] at h1
     obtain⟨zn,p,rfl,hp,hf⟩:=gR h2
     obtain⟨S,rfl⟩: ∃n:Nat,sl=(n:Int):=⟨sl.toNat,by omega⟩
     obtain⟨rn,rfl⟩: ∃n:Nat,ref=(n:Int):=⟨ref.toNat,by omega⟩
     obtain⟨hpm,hpk⟩:=ok.pat.mp hp
     subst hpk
     have po:=ok.pics p hpm
     simp only [hf,aH,hp]
     by_cases h3:p.h<S
     . simp only [aD h3]
       exact⟨fun _=>trivial,fun h=>absurd (by decide) h⟩
     . simp only [aF h3]
       by_cases h4:6<=st.streams.length/\(Vbfaae.streamAt st p.key).isNone=true
       . simp only [aD h4]
         exact⟨fun _=>trivial,fun h=>absurd (by decide) h⟩
       . simp only [aF h4]
         have sok: ∀rs,M.lC (jE st p S rn rs):=fun rs=>⟨po.key,po.w,po.h,⟨by show 1<=S;omega,by show S<=8;omega,by show S<=p.h;omega⟩,by show rn<=99;omega,po.len,po.val,by show 0<=20;omega,fun q hq=>by cases hq⟩
         by_cases h5:(rn:Int)=0
         . simp only [aD h5]
           refine⟨fun h=>absurd h (by decide),fun _=>⟨p,S,rn,0,List.replicate p.values.length 0,.non,rfl,rfl,rfl,hp,sok 0,⟨by rw [List.length_replicate,po.len],fun z hz=>by rw [(List.mem_replicate.mp hz).2];decide,.inl ⟨rfl,by omega,rfl,?_⟩⟩,rfl⟩⟩
           cases h:Vbfaae.streamAt st rn with
           |none=>rfl
           |some y=>
            obtain⟨hm,hk⟩:=ok.at_.mp h
            have:=(ok.sOk _ hm).key
            omega
         . simp only [aF h5]
           unfold aAg
           cases hr:Vbfaae.streamAt st rn with
           |none=>exact⟨fun _=>rfl,fun h=>absurd (show (-4:Int)<0 by decide) h⟩
           |some r=>
            simp only
            obtain⟨rm,rk⟩:=ok.at_.mp hr
            by_cases h6:(r.w !=p.w||(r.h !=p.h||r.slices !=S))=true
            . simp only [aD h6]
              exact⟨fun _=>trivial,fun h=>absurd (by decide) h⟩
            . simp only [aF h6]
              by_cases h7:Vbfaae.reaches st p.key 7 r.key=true
              . simp only [aD h7]
                exact⟨fun _=>trivial,fun h=>absurd (by decide) h⟩
              . simp only [aF h7]
                simp at h6
                have rok:=ok.sOk r rm
                exact⟨fun h=>absurd h (by decide),fun _=>⟨p,S,rn,r.stamp,r.was,.ref (L.gs rn).s,rfl,rfl,rfl,hp,sok _,⟨by rw [rok.len,h6.1,h6.2.1],rok.val,.inr ⟨by omega,r,rfl,hr,rfl,rfl,h6.1.symm,h6.2.1.symm,h6.2.2.symm⟩⟩,rfl⟩⟩
def aGf (K:aA) (a:Adr):L2.Sp:=fW (fun ns=>match ns with|[k,s,r]=>some (.pack k s r)|_=>none) a
theorem gA:bA ["house","numbers","key","slices","reference","refusal","reference_stream","reference_stamp","stream"] ["house","numbers"] (aV aGv):=by decide+kernel
theorem aWh (T:Txt P w K mg a):Ok P w K mg base 7 "call_pack" ["house","numbers"] (aGf K a):=by
 refine T.aYq.ok gA (fun vs H Q E h=> ?_) (fun f cdv A outer s H vs Q E hr h=> ?_)
 . obtain⟨ho,L,st,q,ns,c,rfl,_⟩:=h
   rfl
 . obtain⟨ho,L,st,q,ns,c,rfl,hq,hnl,hm,hh,ok,hno,k⟩:=h
   have hu:=fO hr
   refine⟨_,(aK (aZ (i:=2) gA.nd rfl (Or.inl rfl) (bZ bD (pv 1) aN (fun _ _=>rfl))) (aK (aZ (i:=3) gA.nd rfl (Or.inl rfl) (bZ bD (pv 1) aN (fun _ _=>rfl))) (aK (aZ (i:=4) gA.nd rfl (Or.inl rfl) (bZ bD (pv 1) aN (fun _ _=>rfl))) (aK (aZ (i:=5) gA.nd rfl (Or.inl rfl) (aP (aLr T) hr (by decide) rfl (aJ (pv 0) (aJ (pv 2) (aJ (pv 3) (aJ (pv 4) aL)))))) (aK (bR (bC dI (pv 5) aN (bF _)) (aM (aU (bU (aJ (pv 5) aL)))) bB) (aK (aZ (i:=6) gA.nd rfl (Or.inl rfl) (bAe hu (aX (pv 0) rfl) (pv 4) ⟨rfl,rfl,rfl,rfl⟩)) (aK (aZ (i:=7) gA.nd rfl (Or.inl rfl) (tH (aDc (bJe (pv 6))) aN (aX (pv 6) rfl))) (aK (aZ (i:=8) gA.nd rfl (Or.inl rfl) (gU T.aQ (jZ T) hr (by decide) rfl (aJ (aX (pv 0) rfl) (aJ (cY hu (aX (pv 0) rfl) (pv 2) (fun _ _=>rfl)) (aJ (pv 3) (aJ (pv 4) (aJ (pv 7) aL))))))) (aK (fB (aP (aLq T) hr (by decide) rfl (aJ (pv 8) (aJ (pv 6) aL)))) (aK (aUc (pv 0) aN qW) (aK (aNf hu (aX (pv 0) rfl) (pv 2) (pv 8) rfl) (aM (aU (aP (vD T) hr (by decide) rfl (aJ (pv 8) aL))))))))))))))),?_⟩;symm
   obtain⟨z,sl,ref,rfl,rfl⟩: ∃z s r,ns=[z,s,r]/\c= .pack z s r:=by
    match ns,hm with
    |[z,s,r],hm=>exact⟨z,s,r,rfl,(Option.some.inj hm).symm⟩
   obtain⟨dh,hho⟩:=hh.ob
   obtain⟨hs1,hs2⟩:=bHc ok L z sl ref
   refine⟨_,rfl,q,_,_,_,rfl,rfl,SqL.of hq,rfl,?_⟩
   refine⟨_,rfl,q,_,_,_,rfl,rfl,SqL.of hq,rfl,?_⟩
   refine⟨_,rfl,q,_,_,_,rfl,rfl,SqL.of hq,rfl,?_⟩
   refine⟨_,rfl,_,rfl,_,rfl,_,rfl,ho,L,st,z,sl,ref,rfl,hh,ok,fun H sK=> ?_⟩
   replace k:=fun H' L' r (kp:Kept H H' ho L L' st _) hz (hn:H r=none\/Own ho L st r)=>k H' L' r (kp.pre sK) hz (hn.imp (fun z=>sK.free z) id)
   replace hh:=hh.same sK
   replace hq:=sK _ _ hq
   replace hho:=sK _ _ hho
   try replace hkv:=sK _ _ hkv
   refine⟨_,rfl,_,_,rfl,rfl,_,rfl,?_⟩
   by_cases hr:kI st z sl ref<0
   . exact bI (by rw [aC];exact hr) ⟨_,rfl,(by show 1<=sizeLine;decide),fun r hrn=>step_same k hh (bJ.refl _) (hs1 hr) rfl hrn⟩
   . refine bK (by rw [aC];exact hr) ?_
     obtain⟨p,S,rn,rs,rl,v,rfl,rfl,rfl,hp,sok,pb,hs⟩:=hs2 hr
     rw [hs] at k
     clear hs hs1 hs2
     obtain⟨kvs,hkv,hkl,hkval⟩:=hh.srs.di
     have ns6:=ok.ns
     have hd:=hh.pN rn
     have hdp:=hh.bDb p.key
     rw [hp] at hdp
     have hP:=hh.pics _ _ hp
     refine⟨_,rfl,_,_,_,_,_,rfl,hho,T.aW.cl,T.aW.no _ (by simp),aY,L.ds,rfl,.inl ⟨_,.inl hkv⟩,_,rfl,_,hd,?_⟩
     have hv:((Vbfaae.streamAt st rn).map fun _=>V.ref (L.gs rn).s).getD .non=v:=by
      rcases pb.by_ with⟨e,_,_,h⟩|⟨_,r,e,h,_⟩<;>rw [h,e]<;>rfl
     rw [hv]
     have hc: ∀H2,bJ H H2-> ∀g:GS,H g.pl=none->(v= .non/\rn=0)\/(rn≠0/\ ∃(g2:GS) (y:Vbfaae.Stream),v= .ref g2.s/\M.lC y/\M.Alike (jE st p S rn rs) y/\y.was=rl/\ ∀H',(∀b ob,H2 b=some ob->b≠g.pl->H' b=some ob)->cZ a H' g2 y):=fun H2 s2 g hg=>by
      rcases pb.by_ with⟨e,e0,_,h⟩|⟨e0,r,e,h,_,ew,e1,e2,e3⟩
      . exact .inl ⟨e,e0⟩
      . refine .inr ⟨e0,L.gs rn,r,e,ok.sOk r (ok.at_.mp h).1,⟨e1,e2,e3⟩,ew.symm,fun H' fr=>(hh.srs.at_ _ _ h).keep fun b hb ob e=>fr b ob (s2 _ _ e) (fun z=> ?_)⟩
        rw [z,hg] at e;cases e
     refine⟨_,rfl,_,rfl,?_⟩
     rcases pb.by_ with⟨e,e0,e1,h⟩|⟨e0,r,e,h,er,_⟩
     . subst e1 e
       refine bI rfl ?_
       refine⟨_,rfl,_,_,_,_,_,rfl,hho,T.aW.cl,T.aW.no _ (by simp),lD,_,rfl,_,_,_,_,_,rfl,hho,T.aW.cl,T.aW.no _ (by simp),bW,_,rfl,L.dp,_,rfl,hdp,_,rfl,_,rfl,_,rfl,fun o dn hon hdn hne=> ?_⟩
       have hon':upd H dn (.own o) o=none:=by rw [aR hne.symm];exact hon
       refine⟨o,dn,_,(L.gp p.key).pa,(L.gp p.key).gl,p,_,_,_,rfl,aO,hP.same ((bM _ hdn).trans (bM _ hon')),fun H2 pk pl h2 hpk hpl npk npl nkl kp=>⟨rfl,?_⟩⟩
       have S2:=bJ.made hon hdn kp
       have nok:o≠pk:=fun e=>by rw [<-e,aO] at npk;cases npk
       have nol:o≠pl:=fun e=>by rw [<-e,aO] at npl;cases npl
       have npk0:H pk=none:=cG (cG npk)
       have npl0:H pl=none:=cG (cG npl)
       have hN:cZ a H2 ⟨o,pk,pl,[]⟩ (jE st p S rn _):=⟨⟨dn,h2⟩,hpk,hpl,rfl,fun i q p hq hp=>by simp at hq⟩
       refine⟨_,rfl,_,rfl,⟨o,pk,pl,[]⟩,_,_,rl,rfl,hN,rfl,sok,nkl,pb.len,pb.val,hc H2 S2 ⟨o,pk,pl,[]⟩ npl0,fun H3 qs fr3 hS3 hq3 nd3=> ?_⟩
       have fr4: ∀b ob,H b=some ob->H3 b=some ob:=fun b ob hb=>fr3 b ob (S2 _ _ hb) (fun e=>by have e:b=pl:=e;rw [e,npl0] at hb;cases hb)
       have hho3:=fr4 _ _ hho
       have hkv3:=fr4 _ _ hkv
       have hoL:ho≠L.ds:=(hh.pno hkv).1.symm
       refine⟨_,rfl,_,_,_,_,_,rfl,hho3,T.aW.cl,T.aW.no _ (by simp),lD,_,_,rfl,rfl,_,_,hho3,(by simp),?_⟩
       rw [yG]
       have hho4:upd H3 ho (.ins a.cHouse dh (fL (.ref L.dp) (.ref L.ds) (.int ((st.next:Int)+1)))) ho=some (.ins a.cHouse dh (fL (.ref L.dp) (.ref L.ds) (.int ((st.next:Int)+1)))):=aO
       have hkv4:upd H3 ho (.ins a.cHouse dh (fL (.ref L.dp) (.ref L.ds) (.int ((st.next:Int)+1)))) L.ds=some (.dK kvs):=by rw [aR hoL.symm];exact hkv3
       refine⟨_,rfl,_,rfl,_,_,_,_,_,rfl,hho4,T.aW.cl,T.aW.no _ (by simp),aY,_,rfl,L.ds,_,rfl,aUt.k (k:=Sum.inl (p.key:Int)) hkv4 (Nat.lt_of_lt_of_le (by omega:kvs.length<1000) (by decide)),?_⟩
       have nw: ∀b∈adS (⟨o,pk,pl,qs⟩:GS),H b=none:=fun b hb=>by
        unfold adS at hb
        rcases List.mem_cons.mp hb with rfl|hb
        . exact hon
        . rcases List.mem_cons.mp hb with rfl|hb
          . exact npk0
          . rcases List.mem_cons.mp hb with rfl|hb
            . exact npl0
            . obtain⟨q',hq',hb⟩:=List.mem_flatMap.mp hb
              have:=hq3 q' hq'
              simp at hb
              rcases hb with rfl|rfl
              . exact S2.free this.1
              . exact S2.free this.2
       have nq: ∀b ob,H2 b=some ob->b∉qs.flatMap fun q=>[q.1,q.2]:=fun b ob hb hm=>by
        obtain⟨q',hq',hm⟩:=List.mem_flatMap.mp hm
        have:=hq3 q' hq'
        simp at hm
        rcases hm with rfl|rfl
        . rw [this.1] at hb;cases hb
        . rw [this.2] at hb;cases hb
       have nd:(adS (⟨o,pk,pl,qs⟩:GS)).Nodup:=by
        unfold adS
        refine List.nodup_cons.mpr ⟨?_,List.nodup_cons.mpr ⟨?_,List.nodup_cons.mpr ⟨nq _ _ hpl,nd3⟩⟩⟩
        . intro hm
          rcases List.mem_cons.mp hm with e|hm
          . exact nok e
          . rcases List.mem_cons.mp hm with e|hm
            . exact nol e
            . exact nq _ _ h2 hm
        . intro hm
          rcases List.mem_cons.mp hm with e|hm
          . exact nkl e
          . exact nq _ _ hpk hm
       have hS5:=cZ.keep (H':=upd (upd H3 ho (.ins a.cHouse dh (fL (.ref L.dp) (.ref L.ds) (.int ((st.next:Int)+1))))) L.ds (.dK (putK kvs (Sum.inl (p.key:Int)) (.ref o)))) hS3 fun b hb ob e=>by
        have hb0:=nw b hb
        rw [aR (fun z=>by rw [z,hkv] at hb0;cases hb0),aR (fun z=>by rw [z,hho] at hb0;cases hb0)];exact e
       refine⟨_,rfl,⟨o,pk,pl,qs⟩,_,rfl,hS5,?_,fun H6 r6 s6 hr6 h6=> ?_⟩
       . have:=sok.sl
         simp [Vbfaae.packed,jE] at this ⊢; omega
       have fr6: ∀b ob,H b=some ob->b≠L.ds->b≠ho->H6 b=some ob:=fun b ob hb n1 n2=>s6 _ _ (by rw [aR n1,aR n2];exact fr4 b ob hb)
       refine k H6 _ r6 (aOs ok fr6 nw) (hh.aIw ok (n:=st.next+1) hkv fr6 (s6 _ _ aO) ⟨dh,?_⟩ (hS5.same s6) nd nw) (.inl ((show bJ H H3 from fr4).free (cG (cG hr6)))) (by rw [h6];simp [Vbfaae.ints,iv,ni])
       refine s6 _ _ ?_
       rw [aR hoL,aO]
       rfl
     . subst er e
       obtain⟨dr,hro⟩:=(hh.srs.at_ _ _ h).ob
       refine bK (by simp) ⟨_,rfl,_,_,_,_,_,rfl,hro,T.aQ.cl,T.aQ.no _ (by simp),jT,?_⟩
       refine⟨_,rfl,_,_,_,_,_,rfl,hho,T.aW.cl,T.aW.no _ (by simp),lD,_,rfl,_,_,_,_,_,rfl,hho,T.aW.cl,T.aW.no _ (by simp),bW,_,rfl,L.dp,_,rfl,hdp,_,rfl,_,rfl,_,rfl,fun o dn hon hdn hne=> ?_⟩
       have hon':upd H dn (.own o) o=none:=by rw [aR hne.symm];exact hon
       refine⟨o,dn,_,(L.gp p.key).pa,(L.gp p.key).gl,p,_,_,_,rfl,aO,hP.same ((bM _ hdn).trans (bM _ hon')),fun H2 pk pl h2 hpk hpl npk npl nkl kp=>⟨rfl,?_⟩⟩
       have S2:=bJ.made hon hdn kp
       have nok:o≠pk:=fun e=>by rw [<-e,aO] at npk;cases npk
       have nol:o≠pl:=fun e=>by rw [<-e,aO] at npl;cases npl
       have npk0:H pk=none:=cG (cG npk)
       have npl0:H pl=none:=cG (cG npl)
       have hN:cZ a H2 ⟨o,pk,pl,[]⟩ (jE st p S rn _):=⟨⟨dn,h2⟩,hpk,hpl,rfl,fun i q p hq hp=>by simp at hq⟩
       refine⟨_,rfl,_,rfl,⟨o,pk,pl,[]⟩,_,_,rl,rfl,hN,rfl,sok,nkl,pb.len,pb.val,hc H2 S2 ⟨o,pk,pl,[]⟩ npl0,fun H3 qs fr3 hS3 hq3 nd3=> ?_⟩
       have fr4: ∀b ob,H b=some ob->H3 b=some ob:=fun b ob hb=>fr3 b ob (S2 _ _ hb) (fun e=>by have e:b=pl:=e;rw [e,npl0] at hb;cases hb)
       have hho3:=fr4 _ _ hho
       have hkv3:=fr4 _ _ hkv
       have hoL:ho≠L.ds:=(hh.pno hkv).1.symm
       refine⟨_,rfl,_,_,_,_,_,rfl,hho3,T.aW.cl,T.aW.no _ (by simp),lD,_,_,rfl,rfl,_,_,hho3,(by simp),?_⟩
       rw [yG]
       have hho4:upd H3 ho (.ins a.cHouse dh (fL (.ref L.dp) (.ref L.ds) (.int ((st.next:Int)+1)))) ho=some (.ins a.cHouse dh (fL (.ref L.dp) (.ref L.ds) (.int ((st.next:Int)+1)))):=aO
       have hkv4:upd H3 ho (.ins a.cHouse dh (fL (.ref L.dp) (.ref L.ds) (.int ((st.next:Int)+1)))) L.ds=some (.dK kvs):=by rw [aR hoL.symm];exact hkv3
       refine⟨_,rfl,_,rfl,_,_,_,_,_,rfl,hho4,T.aW.cl,T.aW.no _ (by simp),aY,_,rfl,L.ds,_,rfl,aUt.k (k:=Sum.inl (p.key:Int)) hkv4 (Nat.lt_of_lt_of_le (by omega:kvs.length<1000) (by decide)),?_⟩
       have nw: ∀b∈adS (⟨o,pk,pl,qs⟩:GS),H b=none:=fun b hb=>by
        unfold adS at hb
        rcases List.mem_cons.mp hb with rfl|hb
        . exact hon
        . rcases List.mem_cons.mp hb with rfl|hb
          . exact npk0
          . rcases List.mem_cons.mp hb with rfl|hb
            . exact npl0
            . obtain⟨q',hq',hb⟩:=List.mem_flatMap.mp hb
              have:=hq3 q' hq'
              simp at hb
              rcases hb with rfl|rfl
              . exact S2.free this.1
              . exact S2.free this.2
       have nq: ∀b ob,H2 b=some ob->b∉qs.flatMap fun q=>[q.1,q.2]:=fun b ob hb hm=>by
        obtain⟨q',hq',hm⟩:=List.mem_flatMap.mp hm
        have:=hq3 q' hq'
        simp at hm
        rcases hm with rfl|rfl
        . rw [this.1] at hb;cases hb
        . rw [this.2] at hb;cases hb
       have nd:(adS (⟨o,pk,pl,qs⟩:GS)).Nodup:=by
        unfold adS
        refine List.nodup_cons.mpr ⟨?_,List.nodup_cons.mpr ⟨?_,List.nodup_cons.mpr ⟨nq _ _ hpl,nd3⟩⟩⟩
        . intro hm
          rcases List.mem_cons.mp hm with e|hm
          . exact nok e
          . rcases List.mem_cons.mp hm with e|hm
            . exact nol e
            . exact nq _ _ h2 hm
        . intro hm
          rcases List.mem_cons.mp hm with e|hm
          . exact nkl e
          . exact nq _ _ hpk hm
       have hS5:=cZ.keep (H':=upd (upd H3 ho (.ins a.cHouse dh (fL (.ref L.dp) (.ref L.ds) (.int ((st.next:Int)+1))))) L.ds (.dK (putK kvs (Sum.inl (p.key:Int)) (.ref o)))) hS3 fun b hb ob e=>by
        have hb0:=nw b hb
        rw [aR (fun z=>by rw [z,hkv] at hb0;cases hb0),aR (fun z=>by rw [z,hho] at hb0;cases hb0)];exact e
       refine⟨_,rfl,⟨o,pk,pl,qs⟩,_,rfl,hS5,?_,fun H6 r6 s6 hr6 h6=> ?_⟩
       . have:=sok.sl
         simp [Vbfaae.packed,jE] at this ⊢; omega
       have fr6: ∀b ob,H b=some ob->b≠L.ds->b≠ho->H6 b=some ob:=fun b ob hb n1 n2=>s6 _ _ (by rw [aR n1,aR n2];exact fr4 b ob hb)
       refine k H6 _ r6 (aOs ok fr6 nw) (hh.aIw ok (n:=st.next+1) hkv fr6 (s6 _ _ aO) ⟨dh,?_⟩ (hS5.same s6) nd nw) (.inl ((show bJ H H3 from fr4).free (cG (cG hr6)))) (by rw [h6];simp [Vbfaae.ints,iv,ni])
       refine s6 _ _ ?_
       rw [aR hoL,aO]
       rfl
theorem oX {qs:List (Addr×Addr)} {b:Addr}:b∈(qs.reverse.flatMap fun q=>[q.1,q.2])↔b∈(qs.flatMap fun q=>[q.1,q.2]):=by
 simp only [List.mem_flatMap,List.mem_reverse]
theorem aZi {qs:List (Addr×Addr)} (h:(qs.flatMap fun q=>[q.1,q.2]).Nodup):(qs.reverse.flatMap fun q=>[q.1,q.2]).Nodup:=
 ((List.Perm.flatMap_right _ (List.reverse_perm qs)).nodup_iff).mpr h
def aGh (K:aA) (a:Adr):L2.Sp:=fW (fun ns=>match ns with|[k]=>some (.turn k)|_=>none) a
theorem uT:bA ["house","numbers","refusal","stream"] ["house","numbers"] (aV aGx):=by decide+kernel
theorem aWj (T:Txt P w K mg a):Ok P w K mg base 5 "call_turn" ["house","numbers"] (aGh K a):=by
 refine T.aYs.ok uT (fun vs H Q E h=> ?_) (fun f cdv A outer s H vs Q E hr h=> ?_)
 . obtain⟨ho,L,st,q,ns,c,rfl,_⟩:=h
   rfl
 . obtain⟨ho,L,st,q,ns,c,rfl,hq,hnl,hm,hh,ok,hno,k⟩:=h
   have hu:=fO hr
   refine⟨_,(aK (aZ (i:=2) uT.nd rfl (Or.inl rfl) (aP (cV T) hr (by decide) rfl (aJ (aX (pv 0) rfl) (aJ (bZ bD (pv 1) aN (fun _ _=>rfl)) aL)))) (aK (bR (bC dI (pv 2) aN (bF _)) (aM (aU (bU (aJ (pv 2) aL)))) bB) (aK (aZ (i:=3) uT.nd rfl (Or.inl rfl) (cY hu (aX (pv 0) rfl) (bZ bD (pv 1) aN (fun _ _=>rfl)) (fun _ _=>rfl))) (aK (fC (pv 3) (bCz rfl T.bCu T.aOy (aX (pv 3) rfl)) rfl) (aM (aU (bU (aJ (bL bH (by rfl) T.dC PySem.boot_len (aJ (aX (pv 3) rfl) aL)) aL)))))))),?_⟩;symm
   obtain⟨z,rfl,rfl⟩: ∃z,ns=[z]/\c= .turn z:=by
    match ns,hm with
    |[z],hm=>exact⟨z,rfl,(Option.some.inj hm).symm⟩
   obtain⟨dh,hho⟩:=hh.ob
   have hs:Vbfaae.step st (.turn z)=Vbfaae.onStream st z fun x=>(Vbfaae.withStream st {x with packets:=x.packets.reverse},[(x.packets.length:Int)]):=rfl
   obtain⟨kvs,hkv,hkr⟩:=hh.aZq z
   refine⟨_,rfl,_,_,_,_,_,rfl,hho,T.aW.cl,T.aW.no _ (by simp),aY,_,rfl,q,_,_,_,rfl,rfl,SqL.of hq,rfl,L.ds,kvs,z,rfl,hkv,fun H sK=> ?_⟩
   rw [hkr]
   replace k:=fun H' L' r (kp:Kept H H' ho L L' st _) hz (hn:H r=none\/Own ho L st r)=>k H' L' r (kp.pre sK) hz (hn.imp (fun z=>sK.free z) id)
   replace hh:=hh.same sK
   replace hq:=sK _ _ hq
   replace hho:=sK _ _ hho
   try replace hkv:=sK _ _ hkv
   refine⟨_,rfl,_,_,rfl,rfl,_,rfl,?_⟩
   by_cases hr:cH st z<0
   . rw [gM hr] at hs
     exact bI (by rw [aC];exact hr) ⟨_,rfl,(by show 1<=sizeLine;decide),fun r hrn=>step_same k hh (bJ.refl _) hs rfl hrn⟩
   . refine bK (by rw [aC];exact hr) ?_
     obtain⟨zn,x,rfl,hx,hf⟩:=dH hr
     rw [hf] at hs
     have hd:=hh.pN zn
     rw [hx] at hd
     have hX:=hh.srs.at_ _ _ hx
     obtain⟨dx,ho1⟩:=hX.ob
     have hlen:=hX.len
     refine⟨_,rfl,_,_,_,_,_,rfl,hho,T.aW.cl,T.aW.no _ (by simp),aY,_,rfl,q,_,_,_,rfl,rfl,SqL.of hq,rfl,L.ds,_,rfl,hd,?_⟩
     refine⟨_,rfl,_,_,_,_,_,rfl,ho1,T.aQ.cl,T.aQ.no _ (by simp),bN,(L.gs zn).pl,_,rfl,SqL.of hX.pl,fun l hl=> ?_⟩
     refine⟨_,rfl,put T.aQ (cI hl ho1) (by simp) rD ?_⟩
     have nls:l≠(L.gs zn).s:=fun e=>by rw [e,ho1] at hl;cases hl
     have nd:=hh.nd zn x hx
     have nln:=lE hX hl
     have hl2:upd (upd H l (.lst ((L.gs zn).qs.map fun q=>V.ref q.1).reverse)) (L.gs zn).s (.ins a.cStream dx (eG (.int x.stamp) (.int x.w) (.int x.h) (.int x.slices) (.int x.ref) (.int x.refStamp) (.ref (L.gs zn).pk) (.ref l))) l=some (.lst ((L.gs zn).qs.map fun q=>V.ref q.1).reverse):=by rw [aR nls,aO]
     refine⟨_,rfl,_,_,_,_,_,rfl,aO,T.aQ.cl,T.aQ.no _ (by simp),bN,l,_,rfl,.inl (SqL.of hl2),(by show 1<=sizeLine;decide),fun r hrn=>uW k hh ok hx (g':={L.gs zn with pl:=l,qs:=(L.gs zn).qs.reverse}) (ps:=x.packets.reverse) hs ?_ ?_ ?_ rfl ?_ (fun b hb=> ?_) hrn⟩
     . simp [hlen]
     . intro b ob hb' hn
       rw [aR (fun e=>hn (by rw [e];simp [adS])),cI hl hb']
     . have old: ∀b ob,b∈adS (L.gs zn)->b≠(L.gs zn).s->H b=some ob->upd (upd H l (.lst ((L.gs zn).qs.map fun q=>V.ref q.1).reverse)) (L.gs zn).s (.ins a.cStream dx (eG (.int x.stamp) (.int x.w) (.int x.h) (.int x.slices) (.int x.ref) (.int x.refStamp) (.ref (L.gs zn).pk) (.ref l))) b=some ob:=fun b ob hm hne e=>by rw [aR hne,cI hl e]
       have nd':=nd
       unfold adS at nd'
       simp only [List.nodup_cons,List.mem_cons,not_or] at nd'
       obtain⟨⟨n1,n2,n3⟩,_⟩:=nd'
       refine⟨⟨dx,aO⟩,old _ _ (by simp [adS]) (fun e=>n1 e.symm) hX.pk,by rw [hl2];simp,by show (L.gs zn).qs.reverse.length=x.packets.reverse.length;simp [hlen],fun i q' p' hi hpi=> ?_⟩
       have hi:(L.gs zn).qs.reverse[i]? =some q':=hi
       have hpi:x.packets.reverse[i]? =some p':=hpi
       have hil:=(List.getElem?_eq_some_iff.mp hi).1
       rw [List.length_reverse] at hil
       rw [List.getElem?_reverse hil] at hi
       rw [List.getElem?_reverse (by omega),<-hlen] at hpi
       obtain⟨⟨d,f,g1,g3⟩,g2⟩:=hX.ps _ q' p' hi hpi
       have m:=aUv (List.mem_of_getElem? hi)
       have m2:=iT (List.mem_of_getElem? hi)
       exact⟨⟨d,f,old _ _ m.1 (fun e=>n3 (by rw [<-e];exact m2.1)) g1,g3⟩,old _ _ m.2 (fun e=>n3 (by rw [<-e];exact m2.2)) g2⟩
     . have nd':=nd
       unfold adS at nd' nln ⊢
       simp only [List.nodup_cons,List.mem_cons,not_or] at nd' nln ⊢
       obtain⟨⟨n1,n2,n3⟩,⟨n4,n5⟩,n6,n7⟩:=nd'
       obtain⟨m1,m2,m3,m4⟩:=nln
       exact⟨⟨n1,fun e=>m1 e.symm,fun h=>n3 (oX.mp h)⟩,⟨fun e=>m2 e.symm,fun h=>n5 (oX.mp h)⟩,fun h=>m4 (oX.mp h),aZi n7⟩
     . unfold adS at hb ⊢
       simp only [List.mem_cons] at hb ⊢
       rcases hb with h|h|h|h
       . exact .inl (.inl h)
       . exact .inl (.inr (.inl h))
       . right;rw [h];exact hl
       . exact .inl (.inr (.inr (.inr (oX.mp h))))
inductive aDl (a:Adr) (vs:List V) (H:Hp) (Q:VK):Prop|mk (o dx:Addr) (z0:vs=[.ref o]) (z1:H o=some (.ins a.cHouse dx [])) (z2: ∀(H':Hp) (L:Lay),bQ a H' o L Vbfaae.start->H L.dp=none->H L.ds=none->(∀b ob,H b=some ob->b≠o->H' b=some ob)->Q .non H') def aFu (K:aA) (a:Adr):L2.Sp:=fun vs H Q _=>aDl a vs H Q
theorem aFl:bA ["self"] ["self"] (aV rF):=by decide+kernel
theorem aEy (T:Txt P w K mg a):OkM P w K mg base 1 a.cHouse "__init__" ["self"] (aFu K a):=by
 refine T.aIc.ok aFl (fun vs H Q E h=> ?_) (fun f cdv A outer s H vs Q E hr h=> ?_)
 . obtain⟨o,dx,rfl,_⟩:=h
   rfl
 . obtain⟨o,dx,rfl,ho,k⟩:=h
   refine⟨_,(aK (fC (pv 0) bAf rfl) (aK (fC (pv 0) bAf rfl) (aM (fC (pv 0) aN rfl)))),?_⟩;symm
   refine fun d1 hd1=> ?_
   have n1:d1≠o:=fun e=>by rw [e,ho] at hd1;cases hd1
   refine⟨_,rfl,put T.aW (cI hd1 ho) (by simp) aEv ?_⟩
   refine fun d2 hd2=> ?_
   have n2:d2≠o:=fun e=>by rw [e,aO] at hd2;cases hd2
   have n3:d2≠d1:=fun e=>by rw [e,aR n1,aO] at hd2;cases hd2
   refine⟨_,rfl,put T.aW (by rw [aR n2.symm,aO]) (by simp) aIe ?_⟩
   refine⟨_,rfl,put T.aW aO (by simp) aPe ?_⟩
   refine k _ ⟨d1,d2,fun _=>⟨0,0⟩,fun _=>⟨0,0,0,[]⟩⟩ ⟨⟨dx,aO⟩,⟨[],?_,rfl,fun j=>rfl⟩,(fun j p h=>by cases h),⟨⟨[],?_,rfl,fun j=>rfl⟩,(fun j p h=>by cases h)⟩,n3.symm,(fun j p h=>by cases h),(fun j p j' p' h=>by cases h),(fun j p j' p' h=>by cases h),(fun j p h=>by cases h),(fun j p h=>by cases h)⟩ hd1 ?_ ?_
   . rw [aR n1,aR n1,aR n3.symm,aR n1,aO]
   . rw [aR n2,aR n2,aO]
   . rw [aR n2,aR n3] at hd2;exact hd2
   . intro b ob hb hbo
     rw [aR hbo,aR hbo,aR (fun e=>by rw [<-e,aR hbo,cI hd1 hb] at hd2;cases hd2),aR hbo,cI hd1 hb]
inductive bMn (mk:List Int->Option Vbfaae.Call) (vs:List V) (H:Hp) (Q:VK):Prop|mk (q:Addr) (ns:List Int) (c:Vbfaae.Call) (z0:vs=[.ref q]) (z1:H q=some (.lst (iv ns))) (z2:ns.length<=2000) (z3:mk ns=some c) (z4: ∀(H':Hp) (r:Addr) (ans:List Int),(∀st,Vbfaae.step st c=(st,ans))->bJ H H'->H r=none->H' r=some (.lst (iv ans))->Q (.ref r) H') def bDg (mk:List Int->Option Vbfaae.Call):Sp:=fun vs H Q _=>bMn mk vs H Q
theorem mY {H H1:Hp} {c:Vbfaae.Call} {Q:VK} {xs:List V} {ans:List Int} (k: ∀(H':Hp) (r:Addr) (ans:List Int),(∀st,Vbfaae.step st c=(st,ans))->bJ H H'->H r=none->H' r=some (.lst (iv ans))->Q (.ref r) H')
 (s1:bJ H H1) (e: ∀st,Vbfaae.step st c=(st,ans)) (ex:xs=iv ans) {r:Addr} (hr:H1 r=none):Q (.ref r) (upd H1 r (.lst xs)):=
 k _ r ans e (s1.trans (bM _ hr)) (s1.free hr) (by rw [aO,ex])
def aBs (K:aA) (a:Adr):L2.Sp:=bDg (fun ns=>some (.check ns))
theorem aRz:bA ["numbers"] ["numbers"] (aV aBz):=by decide+kernel
theorem aRs (T:Txt P w K mg a):Ok P w K mg base 4 "call_check" ["numbers"] (aBs K a):=by
 refine T.aVg.ok aRz (fun vs H Q E h=> ?_) (fun f cdv A outer s H vs Q E hr h=> ?_)
 . obtain⟨q,ns,c,rfl,_⟩:=h
   rfl
 . obtain⟨q,ns,c,rfl,hq,hnl,hm,k⟩:=h
   refine⟨_,(aK (bR (eU (cT (aP (aBi T) hr (by decide) rfl (aJ (pv 0) aL)))) (aM (aU (bU (aJ (cA rfl T.cO) aL)))) bB) (aM (aU (bU (aJ (aP (aPl T) hr (by decide) rfl (aJ (pv 0) aL)) aL))))),?_⟩;symm
   cases hm
   refine⟨_,rfl,q,ns,rfl,hq,cF (by omega),fun H1 s1=>⟨_,rfl,?_⟩⟩
   cases hw:(decide (ns.length<=1600)&&ns.all fun z=>Vbfaae.within z 0 255) with
   |false=>
    refine bI rfl ⟨(by show 1<=sizeLine;decide),fun r hr=>mY (ans:=[-1]) k s1 (fun st=> ?_) rfl hr⟩
    simp only [Vbfaae.step]
    rw [aD hw]
   |true=>
    refine bK (by decide) ?_
    have hall:=(Bool.and_eq_true _ _ ▸ hw:_/\_).2
    have hq1:=s1 _ _ hq
    rw [aVy hall] at hq1
    refine⟨_,rfl,q,Vbfaae.nats ns,rfl,SqL.of hq1,fun b hb=> ?_,(by show 1<=sizeLine;decide),fun r hr=>mY (ans:=Vbfaae.ints [Vbfaae.crc (Vbfaae.nats ns)]) k s1 (fun st=> ?_) rfl hr⟩
    . have:=M.aOz hall hb
      omega
    . simp only [Vbfaae.step]
      rw [aF (by rw [hw];decide)]
def aFy (K:aA) (a:Adr):L2.Sp:=bDg (fun ns=>match ns with|[k,u]=>some (.code k u)|_=>none)
theorem pD:bA ["numbers","k","number","bits"] ["numbers"] (aV aGo):=by decide+kernel
theorem aWa (T:Txt P w K mg a):Ok P w K mg base 3 "call_code" ["numbers"] (aFy K a):=by
 refine T.aYj.ok pD (fun vs H Q E h=> ?_) (fun f cdv A outer s H vs Q E hr h=> ?_)
 . obtain⟨q,ns,c,rfl,_⟩:=h
   rfl
 . obtain⟨q,ns,c,rfl,hq,hnl,hm,k⟩:=h
   refine⟨_,(aK (aZ (i:=1) pD.nd rfl (Or.inl rfl) (bZ bD (pv 0) aN (fun _ _=>rfl))) (aK (aZ (i:=2) pD.nd rfl (Or.inl rfl) (bZ bD (pv 0) aN (fun _ _=>rfl))) (aK (bR (PW.pt (kY (eU (cT (aP (dZ T) hr (by decide) rfl (aJ (pv 1) (aJ aN (aJ (cA rfl T.aEk) aL)))))) (iK (eU (cT (aP (dZ T) hr (by decide) rfl (aJ (pv 2) (aJ aN (aJ (cA rfl T.uE) aL))))))))) (aM (aU (bU (aJ (cA rfl T.cO) aL)))) bB) (aK (aZ (i:=3) pD.nd rfl (Or.inl rfl) (aP (bEy T) hr (by decide) rfl (aJ (pv 2) (aJ (pv 1) aL)))) (aM (aU (bG iJ (bU (aJ (bL bH (by rfl) T.dC PySem.boot_len (aJ (pv 3) aL)) aL)) (pv 3)))))))),?_⟩;symm
   obtain⟨kk,u,rfl,rfl⟩: ∃z i,ns=[z,i]/\c= .code z i:=by
    match ns,hm with
    |[z,i],hm=>exact⟨z,i,rfl,(Option.some.inj hm).symm⟩
   refine⟨_,rfl,q,_,_,_,rfl,rfl,SqL.of hq,rfl,?_⟩
   refine⟨_,rfl,q,_,_,_,rfl,rfl,SqL.of hq,rfl,?_⟩
   refine⟨_,rfl,kk,0,10,rfl,_,rfl,?_⟩
   have no:(Vbfaae.within kk 0 10&&Vbfaae.within u 0 1023)=false-> ∀st,Vbfaae.step st (.code kk u)=(st,[-1]):=fun h st=>by
    simp only [Vbfaae.step]
    rw [aD h]
   cases hk:Vbfaae.within kk 0 10 with
   |false=>exact bI rfl (bI rfl ⟨(by show 1<=sizeLine;decide),fun r hr=>mY (ans:=[-1]) k (bJ.refl _) (no (by rw [hk];rfl)) rfl hr⟩)
   |true=>
    refine bK (by decide) ⟨_,rfl,u,0,1023,rfl,_,rfl,?_⟩
    cases hu:Vbfaae.within u 0 1023 with
    |false=>exact bI rfl ⟨(by show 1<=sizeLine;decide),fun r hr=>mY (ans:=[-1]) k (bJ.refl _) (no (by rw [hk,hu];rfl)) rfl hr⟩
    |true=>
     refine bK (by decide) ?_
     have hk1:=M.cB.mp hk
     have hu1:=M.cB.mp hu
     obtain⟨kn,rfl⟩: ∃n:Nat,kk=(n:Int):=⟨kk.toNat,by omega⟩
     obtain⟨un,rfl⟩: ∃n:Nat,u=(n:Int):=⟨u.toNat,by omega⟩
     have yes: ∀st,Vbfaae.step st (.code kn un)=(st,Vbfaae.counted (Vbfaae.codeOf kn un)):=fun st=>by
      simp only [Vbfaae.step]
      rw [aF (by rw [hk,hu];decide),aH,aH]
     refine⟨_,rfl,_,rfl,un,kn,rfl,by omega,fun H1 p s1 hp h1=> ?_⟩
     refine⟨_,rfl,p,_,rfl,.inl (SqL.of h1),(by show 1<=sizeLine;decide),fun t ht=> ?_⟩
     have hcl:(Vbfaae.codeOf kn un).length<=100:=by
      unfold Vbfaae.codeOf
      split
      . next h=>
        have:un/2 ^ kn<12:=h
        simp [M.dD];omega
      . simp [M.dD,Vbfaae.ONES]
     refine⟨_,rfl,t,p,_,_,rfl,rfl,aO,cI ht h1,cF (by simp;omega),fun r hrn=>mY k (s1.trans (bM _ ht)) yes ?_ hrn⟩
     simp [Vbfaae.counted,Vbfaae.ints,iv,ni]
def vO (K:aA) (a:Adr):L2.Sp:=bDg (fun ns=>match ns with|[m,a,b,c]=>some (.predict m a b c)|_=>none)
theorem gZ:bA ["numbers","mode","a","b","c"] ["numbers"] (aV vV):=by decide+kernel
theorem aLi (T:Txt P w K mg a):Ok P w K mg base 3 "call_predict" ["numbers"] (vO K a):=by
 refine T.aNr.ok gZ (fun vs H Q E h=> ?_) (fun f cdv A outer s H vs Q E hr h=> ?_)
 . obtain⟨q,ns,c,rfl,_⟩:=h
   rfl
 . obtain⟨q,ns,c,rfl,hq,hnl,hm,k⟩:=h
   refine⟨_,(aK (aZ (i:=1) gZ.nd rfl (Or.inl rfl) (bZ bD (pv 0) aN (fun _ _=>rfl))) (aK (aZ (i:=2) gZ.nd rfl (Or.inl rfl) (bZ bD (pv 0) aN (fun _ _=>rfl))) (aK (aZ (i:=3) gZ.nd rfl (Or.inl rfl) (bZ bD (pv 0) aN (fun _ _=>rfl))) (aK (aZ (i:=4) gZ.nd rfl (Or.inl rfl) (bZ bD (pv 0) aN (fun _ _=>rfl))) (aK (bR (PW.pt (kY (eU (cT (aP (dZ T) hr (by decide) rfl (aJ (pv 1) (aJ aN (aJ aN aL)))))) (iK (eU (cT (aP (rT T) hr (by decide) rfl (aJ (bU (aJ (pv 2) (aJ (pv 3) (aJ (pv 4) aL)))) (aJ aN (aJ (cA rfl T.uE) aL))))))))) (aM (aU (bU (aJ (cA rfl T.cO) aL)))) bB) (aM (aU (bU (aJ (aP (aPs T) hr (by decide) rfl (aJ (pv 1) (aJ (pv 2) (aJ (pv 3) (aJ (pv 4) aL))))) (aJ (aP (aBl T) hr (by decide) rfl (aJ (pv 2) (aJ (pv 3) (aJ (pv 4) aL)))) aL)))))))))),?_⟩;symm
   obtain⟨m,x,y,z,rfl,rfl⟩: ∃m x y z,ns=[m,x,y,z]/\c= .predict m x y z:=by
    match ns,hm with
    |[m,x,y,z],hm=>exact⟨m,x,y,z,rfl,(Option.some.inj hm).symm⟩
   refine⟨_,rfl,q,_,_,_,rfl,rfl,SqL.of hq,rfl,?_⟩
   refine⟨_,rfl,q,_,_,_,rfl,rfl,SqL.of hq,rfl,?_⟩
   refine⟨_,rfl,q,_,_,_,rfl,rfl,SqL.of hq,rfl,?_⟩
   refine⟨_,rfl,q,_,_,_,rfl,rfl,SqL.of hq,rfl,?_⟩
   refine⟨_,rfl,m,0,4,rfl,_,rfl,?_⟩
   have no:(Vbfaae.within m 0 4&&(Vbfaae.within x 0 1023&&(Vbfaae.within y 0 1023&&Vbfaae.within z 0 1023)))=false-> ∀st,Vbfaae.step st (.predict m x y z)=(st,[-1]):=fun h st=>by
    simp only [Vbfaae.step]
    rw [aD h]
   cases hmm:Vbfaae.within m 0 4 with
   |false=>exact bI rfl (bI rfl ⟨(by show 1<=sizeLine;decide),fun r hr=>mY (ans:=[-1]) k (bJ.refl _) (no (by rw [hmm];rfl)) rfl hr⟩)
   |true=>
    refine bK (by decide) ⟨_,rfl,_,rfl,_,rfl,(by show 3<=sizeLine;decide),fun t ht=> ?_⟩
    refine⟨t,[x,y,z],0,1023,rfl,aO,(by show 3<=sizeLine;decide),fun H1 s1=>⟨_,rfl,?_⟩⟩
    have S1:=(bM (.lst (iv [x,y,z])) ht).trans s1
    have e:([x,y,z].all fun z=>Vbfaae.within z 0 1023)=(Vbfaae.within x 0 1023&&(Vbfaae.within y 0 1023&&Vbfaae.within z 0 1023)):=by simp
    rw [e]
    cases hw:(Vbfaae.within x 0 1023&&(Vbfaae.within y 0 1023&&Vbfaae.within z 0 1023)) with
    |false=>exact bI rfl ⟨(by show 1<=sizeLine;decide),fun r hr=>mY (ans:=[-1]) k S1 (no (by rw [hmm,hw];rfl)) rfl hr⟩
    |true=>
     refine bK (by decide) ?_
     have h0:=M.cB.mp hmm
     have hw':=hw
     simp only [Bool.and_eq_true] at hw'
     have h1:=M.cB.mp hw'.1
     have h2:=M.cB.mp hw'.2.1
     have h3:=M.cB.mp hw'.2.2
     obtain⟨mn,rfl⟩: ∃n:Nat,m=(n:Int):=⟨m.toNat,by omega⟩
     obtain⟨xn,rfl⟩: ∃n:Nat,x=(n:Int):=⟨x.toNat,by omega⟩
     obtain⟨yn,rfl⟩: ∃n:Nat,y=(n:Int):=⟨y.toNat,by omega⟩
     obtain⟨zn,rfl⟩: ∃n:Nat,z=(n:Int):=⟨z.toNat,by omega⟩
     have yes: ∀st,Vbfaae.step st (.predict mn xn yn zn)=(st,Vbfaae.ints [Vbfaae.predicted mn (nr3 xn yn zn) 0,Vbfaae.context (nr3 xn yn zn)]):=fun st=>by
      simp only [Vbfaae.step]
      rw [aF (by rw [hmm,hw];decide)]
      simp only [aH]
     refine⟨_,rfl,_,rfl,_,rfl,_,rfl,mn,xn,yn,zn,rfl,by omega,?_⟩
     refine⟨_,rfl,_,rfl,_,rfl,xn,yn,zn,rfl,(by show 2<=sizeLine;decide),fun r hr=>mY k S1 yes rfl hr⟩
theorem aPd {α:Type} [DecidableEq α]: ∀{l m:List α},l.Nodup->(∀x∈l,x∈m)->m.length<=l.length->l.Perm m
 |[],m,_,_,hl=>by
  have:m=[]:=List.eq_nil_of_length_eq_zero (by simpa using hl)
  rw [this]
 |x::l,m,nd,hs,hl=>by
  have hx:=hs x List.mem_cons_self
  have p:=List.perm_cons_erase hx
  have nd':=List.nodup_cons.mp nd
  refine(List.Perm.cons x (aPd nd'.2 (fun y hy=> ?_) ?_)).trans p.symm
  . have hne:y≠x:=fun e=>nd'.1 (by rw [<-e];exact hy)
    exact(List.mem_erase_of_ne hne).mpr (hs y (List.mem_cons_of_mem _ hy))
  . have:=p.length_eq
    simp at this hl
    omega
def bLl:Key->Int
 | .inl i=>i
 | .inr _=>0
theorem bEr {kvs:List (Key×V)} {ks:List Nat} (hl:kvs.length=ks.length) (hr:ks.Pairwise (· < ·)) (hv: ∀k∈ks,(dO kvs (Sum.inl (k:Int))).isSome=true):
 (kvs.map (·.1)).Nodup/\ ∃ns:List Int,kvs.map (·.1)=ns.map Sum.inl/\ns.length=ks.length/\ ∀ns':List Int,ns'.Perm ns->ns'.Pairwise (· <= ·)->ns'=ks.map fun(k:Nat)=>(k:Int):=by
 have nd:(ks.map fun k:Nat=>(Sum.inl (k:Int):Key)).Nodup:=by
  refine List.pairwise_map.mpr (hr.imp fun {a b} h e=> ?_)
  have e:(a:Int)=(b:Int):=Sum.inl.inj e
  omega
 have pm:(ks.map fun k:Nat=>(Sum.inl (k:Int):Key)).Perm (kvs.map (·.1)):=by
  refine aPd nd (fun x hx=> ?_) (by simp [hl])
  obtain⟨k,hk,rfl⟩:=List.mem_map.mp hx
  have h:=hv k hk
  rw [<-qQ,List.any_eq_true] at h
  obtain⟨kv,h1,h2⟩:=h
  exact List.mem_map.mpr ⟨kv,h1,by simpa using h2⟩
 have inl: ∀x∈kvs.map (·.1),(Sum.inl (bLl x):Key)=x:=fun x hx=>by
  obtain⟨k,_,rfl⟩:=List.mem_map.mp (pm.mem_iff.mpr hx)
  rfl
 refine⟨pm.nodup_iff.mp nd,(kvs.map (·.1)).map bLl,?_,by simp [hl],fun ns' h1 h2=> ?_⟩
 . rw [List.map_map]
   conv=>lhs;rw [<-List.map_id (kvs.map (·.1))]
   exact List.map_congr_left fun x hx=>(inl x hx).symm
 . refine PySem.W.ksm_same (h1.trans ?_) h2 (List.pairwise_map.mpr (hr.imp fun {a b} h=>by omega))
   have h3:=(pm.map bLl).symm
   have e:(ks.map fun k:Nat=>(Sum.inl (k:Int):Key)).map bLl=ks.map fun(k:Nat)=>(k:Int):=by rw [List.map_map];rfl
   rw [e] at h3
   exact h3
theorem bAl {α:Type} {key:α->Nat} {l:List α} (h:M.aHm key l):(l.map key).Pairwise (· < ·):=List.pairwise_map.mpr h
theorem bQ.bNd {a:Adr} {H:Hp} {ho:Addr} {L:Lay} {st:aB} (h:bQ a H ho L st) (ok:M.bO st): ∃kvs ns,H L.dp=some (.dK kvs)/\(kvs.map (·.1)).Nodup/\kvs.map (·.1)=ns.map Sum.inl/\ns.length=st.pictures.length/\
 ∀ns':List Int,ns'.Perm ns->ns'.Pairwise (· <= ·)->ns'=(st.pictures.map fun p=>p.key).map fun(k:Nat)=>(k:Int):=by
 obtain⟨kvs,e,e2,e3⟩:=h.pd
 obtain⟨h1,ns,h2,h3,h4⟩:=bEr (kvs:=kvs) (ks:=st.pictures.map fun p=>p.key) (by simpa using e2) (bAl ok.rp) fun k hk=>by
  obtain⟨p,hp,rfl⟩:=List.mem_map.mp hk
  rw [e3,ok.pat.mpr ⟨hp,rfl⟩];rfl
 exact⟨kvs,ns,e,h1,h2,by simpa using h3,h4⟩
theorem bQ.bQt {a:Adr} {H:Hp} {ho:Addr} {L:Lay} {st:aB} (h:bQ a H ho L st) (ok:M.bO st): ∃kvs ns,H L.ds=some (.dK kvs)/\kvs.map (·.1)=ns.map Sum.inl/\ns.length=st.streams.length/\
 ∀ns':List Int,ns'.Perm ns->ns'.Pairwise (· <= ·)->ns'=(st.streams.map fun p=>p.key).map fun(k:Nat)=>(k:Int):=by
 obtain⟨kvs,e,e2,e3⟩:=h.srs.di
 obtain⟨h1,ns,h2,h3,h4⟩:=bEr (kvs:=kvs) (ks:=st.streams.map fun p=>p.key) (by simpa using e2) (bAl ok.rs) fun k hk=>by
  obtain⟨p,hp,rfl⟩:=List.mem_map.mp hk
  rw [e3,ok.at_.mpr ⟨hp,rfl⟩];rfl
 exact⟨kvs,ns,e,h2,by simpa using h3,h4⟩
inductive aSv (vs:List V) (H:Hp) (Q:VK):Prop|mk (p:Addr) (kvs:List (Key×V)) (ns:List Int) (z0:vs=[.ref p]) (z1:H p=some (.dK kvs)) (z2:kvs.map (·.1)=ns.map Sum.inl) (z3:ns.length<64) (z4: ∀(ns':List Int) (H1:Hp) (r:Addr),ns'.Perm ns->ns'.Pairwise (· <= ·)->bJ H H1->H1 r=none->Q (.ref r) (upd H1 r (.lst (iv ((ns.length:Int)::ns'))))) def aXo (K:aA) (a:Adr):L2.Sp:=fun vs H Q _=>aSv vs H Q
theorem aXa:bA ["shelf"] ["shelf"] (aV aHg):=by decide+kernel
theorem aFe (T:Txt P w K mg a):Ok P w K mg base 1 "told_keys" ["shelf"] (aXo K a):=by
 refine T.aZb.ok aXa (fun vs H Q E h=> ?_) (fun f cdv A outer s H vs Q E hr h=> ?_)
 . obtain⟨p,kvs,ns,rfl,_⟩:=h
   rfl
 . obtain⟨p,kvs,ns,rfl,hp,hk,h64,k⟩:=h
   refine⟨_,(aM (aU (bG iJ (bU (aJ (bL aTe (by rfl) T.dC PySem.boot_len (aJ (pv 0) aL)) aL)) (bL (bBy rfl) (by rfl) T.bIy (by rfl) (aJ (pv 0) aL))))),?_⟩;symm
   refine⟨_,rfl,p,kvs,rfl,hp,(by show 1<=sizeLine;decide),fun t ht=> ?_⟩
   refine⟨_,rfl,p,kvs,ns,rfl,cI ht hp,hk,h64,fun ns' p' h1 h2 h3=> ?_⟩
   have hl:kvs.length=ns.length:=by have:=congrArg List.length hk;simpa using this
   refine⟨t,p',_,_,rfl,rfl,cI h3 aO,aO,cF (by have:=h1.length_eq;simp;omega),fun r hr=> ?_⟩
   have:=k ns' _ r h1 h2 ((bM _ ht).trans (bM (.lst (ns'.map V.int)) h3)) hr
   rw [<-hl] at this
   exact this
def tO (K:aA) (a:Adr):L2.Sp:=fW (fun ns=>match ns with|[]=>some .pictures|_=>none) a
theorem aIx:bA ["house","numbers"] ["house","numbers"] (aV tR):=by decide+kernel
theorem aIo (T:Txt P w K mg a):Ok P w K mg base 2 "call_pictures" ["house","numbers"] (tO K a):=by
 refine T.aKw.ok aIx (fun vs H Q E h=> ?_) (fun f cdv A outer s H vs Q E hr h=> ?_)
 . obtain⟨ho,L,st,q,ns,c,rfl,_⟩:=h
   rfl
 . obtain⟨ho,L,st,q,ns,c,rfl,hq,hnl,hm,hh,ok,hno,k⟩:=h
   refine⟨_,(aM (aU (aP (aFe T) hr (by decide) rfl (aJ (aX (pv 0) rfl) aL)))),?_⟩;symm
   obtain⟨rfl,rfl⟩:ns=[]/\c= .pictures:=by
    match ns,hm with
    |[],hm=>exact⟨rfl,(Option.some.inj hm).symm⟩
   obtain⟨dh,hho⟩:=hh.ob
   obtain⟨kvs,ns,hkv,_,hk,hl,hs⟩:=hh.bNd ok
   have np:=ok.np
   refine⟨_,rfl,_,_,_,_,_,rfl,hho,T.aW.cl,T.aW.no _ (by simp),bW,L.dp,kvs,ns,rfl,hkv,hk,by omega,fun ns' H1 r h1 h2 s1 hr=> ?_⟩
   refine step_same k hh s1 (ans:=Vbfaae.counted (st.pictures.map fun p=>p.key)) rfl ?_ hr
   rw [hs ns' h1 h2,hl]
   simp [Vbfaae.counted,Vbfaae.ints,iv]
def vP (K:aA) (a:Adr):L2.Sp:=fW (fun ns=>match ns with|[]=>some .streams|_=>none) a
theorem aLw:bA ["house","numbers"] ["house","numbers"] (aV vW):=by decide+kernel
theorem aLj (T:Txt P w K mg a):Ok P w K mg base 2 "call_streams" ["house","numbers"] (vP K a):=by
 refine T.aNs.ok aLw (fun vs H Q E h=> ?_) (fun f cdv A outer s H vs Q E hr h=> ?_)
 . obtain⟨ho,L,st,q,ns,c,rfl,_⟩:=h
   rfl
 . obtain⟨ho,L,st,q,ns,c,rfl,hq,hnl,hm,hh,ok,hno,k⟩:=h
   refine⟨_,(aM (aU (aP (aFe T) hr (by decide) rfl (aJ (aX (pv 0) rfl) aL)))),?_⟩;symm
   obtain⟨rfl,rfl⟩:ns=[]/\c= .streams:=by
    match ns,hm with
    |[],hm=>exact⟨rfl,(Option.some.inj hm).symm⟩
   obtain⟨dh,hho⟩:=hh.ob
   obtain⟨kvs,ns,hkv,hk,hl,hs⟩:=hh.bQt ok
   have np:=ok.ns
   refine⟨_,rfl,_,_,_,_,_,rfl,hho,T.aW.cl,T.aW.no _ (by simp),aY,L.ds,kvs,ns,rfl,hkv,hk,by omega,fun ns' H1 r h1 h2 s1 hr=> ?_⟩
   refine step_same k hh s1 (ans:=Vbfaae.counted (st.streams.map fun p=>p.key)) rfl ?_ hr
   rw [hs ns' h1 h2,hl]
   simp [Vbfaae.counted,Vbfaae.ints,iv]
theorem bDv (kvs:List (Key×V)) (k k':Key):dO (lX kvs k) k'=if k'=k then none else dO kvs k':=by
 unfold dO lX
 induction kvs with
 |nil=>simp
 |cons p r ih=>
  by_cases h:p.1=k
  . rw [List.filter_cons,aF (by simp [h]),ih]
    by_cases h2:k'=k
    . rw [aD h2,aD h2]
    . rw [aF h2,aF h2,List.find?_cons_of_neg (by simp [h];exact fun e=>h2 e.symm)]
  . rw [List.filter_cons,aD (by simp [h])]
    by_cases h2:k'=k
    . rw [aD h2] at ih ⊢
      rw [List.find?_cons_of_neg (by simp [h2,h])]
      exact ih
    . rw [aF h2] at ih ⊢
      by_cases h3:p.1=k'
      . rw [List.find?_cons_of_pos (by simp [h3]),List.find?_cons_of_pos (by simp [h3])]
      . rw [List.find?_cons_of_neg (by simp [h3]),List.find?_cons_of_neg (by simp [h3])]
        exact ih
theorem pZ {st:aB} (ok:M.bO st) (n k:Nat):Vbfaae.pictureAt {st with pictures:=st.pictures.filter fun x=>x.key !=n} k=if k=n then none else Vbfaae.pictureAt st k:=by
 show (st.pictures.filter fun x=>x.key !=n).find? (fun p=>p.key==k)=if k=n then none else st.pictures.find? fun p=>p.key==k
 rw [List.find?_filter]
 by_cases h:k=n
 . rw [aD h,List.find?_eq_none]
   intro x _
   simp [h]
 . rw [aF h]
   congr 1
   funext x
   by_cases hx:x.key=k
   . simp [hx,h]
   . simp [hx]
theorem aZs {st:aB} (ok:M.bO st) {n:Nat} {p:Vbfaae.Picture} (hp:Vbfaae.pictureAt st n=some p):(st.pictures.filter fun x=>x.key !=n).length+1=st.pictures.length:=by
 obtain⟨hm,rfl⟩:=ok.pat.mp hp
 have hr:st.pictures.Pairwise fun a b=>a.key<b.key:=ok.rp
 generalize st.pictures=l at*
 clear hp
 induction l with
 |nil=>simp at hm
 |cons x l ih=>
  have hr':=List.pairwise_cons.mp hr
  rcases List.mem_cons.mp hm with rfl|hm
  . rw [List.filter_cons,aF (by simp)]
    have:(l.filter fun x=>x.key !=p.key)=l:=List.filter_eq_self.mpr fun y hy=>by
     have:=hr'.1 y hy
     simp;omega
    rw [this];rfl
  . have:=hr'.1 p hm
    rw [List.filter_cons,aD (by simp;omega)]
    simp only [List.length_cons]
    rw [ih hm hr'.2]
theorem bQ.aVq {a:Adr} {H H':Hp} {ho:Addr} {L:Lay} {st:aB} (h:bQ a H ho L st) (ok:M.bO st) {n:Nat} {p:Vbfaae.Picture} (hp:Vbfaae.pictureAt st n=some p) {kvs:List (Key×V)} (hkv:H L.dp=some (.dK kvs)) (nd:(kvs.map (·.1)).Nodup)
 (fr: ∀b ob,H b=some ob->b≠L.dp->H' b=some ob) (hd:H' L.dp=some (.dK (lX kvs (Sum.inl (n:Int))))):
 bQ a H' ho L {st with pictures:=st.pictures.filter fun x=>x.key !=n}:=by
 obtain⟨n1,n2,n3⟩:=h.pno hkv
 obtain⟨kvs',e1,e2,e3⟩:=h.pd
 rw [hkv] at e1
 cases e1
 have hS:nU a H' L.ds L.gs st:=by
  refine⟨?_,fun k x hx=>(h.srs.at_ k x hx).keep fun b hb ob e=>fr b ob e (fun z=>n2 k x hx (z ▸ hb))⟩
  obtain⟨kv,g1,g2⟩:=h.srs.di
  exact⟨kv,fr _ _ g1 h.nds.symm,g2⟩
 have old: ∀k q,Vbfaae.pictureAt {st with pictures:=st.pictures.filter fun x=>x.key !=n} k=some q->Vbfaae.pictureAt st k=some q:=fun k q hq=>by
  rw [pZ ok] at hq
  by_cases e:k=n
  . rw [aD e] at hq;cases hq
  . rw [aF e] at hq;exact hq
 refine⟨?_,?_,?_,⟨hS.di,hS.at_⟩,h.nds,h.nd,h.ndS,?_,h.ndH,?_⟩
 . obtain⟨dx,e⟩:=h.ob
   exact⟨dx,fr _ _ e n1.symm⟩
 . refine⟨_,hd,?_,fun k=> ?_⟩
   . have h1:=aZs ok hp
     have hm:(Sum.inl (n:Int):Key)∈kvs.map (·.1):=by
      have hv:(dO kvs (Sum.inl (n:Int))).isSome=true:=by rw [e3,hp];rfl
      rw [<-qQ,List.any_eq_true] at hv
      obtain⟨kv,h1,h2⟩:=hv
      exact List.mem_map.mpr ⟨kv,h1,by simpa using h2⟩
     have h2:=aTg nd hm
     show _=(st.pictures.filter fun x=>x.key !=n).length
     omega
   . rw [bDv,pZ ok,e3 k]
     by_cases hk:k=n
     . rw [aD hk,aD (by rw [hk])];rfl
     . rw [aF hk,aF (fun e=>hk (by injection e with e;omega))]
 . intro k q hq
   have hq:=old k q hq
   obtain⟨⟨dx,g1⟩,g2⟩:=h.pics k q hq
   exact⟨⟨dx,fr _ _ g1 (fun e=>n3 k q hq (by rw [<-e];simp [adP]))⟩,fr _ _ g2 (fun e=>n3 k q hq (by rw [<-e];simp [adP]))⟩
 . exact fun k q k' x' hq hx' b hb=>h.ndP k q k' x' (old k q hq) hx' b hb
 . exact fun k q hq=>h.ndHP k q (old k q hq)
def aGa (K:aA) (a:Adr):L2.Sp:=fW (fun ns=>match ns with|[k]=>some (.drop k)|_=>none) a
theorem aFn:bA ["house","numbers","refusal"] ["house","numbers"] (aV aGq):=by decide+kernel
theorem aWc (T:Txt P w K mg a):Ok P w K mg base 5 "call_drop" ["house","numbers"] (aGa K a):=by
 refine T.aYl.ok aFn (fun vs H Q E h=> ?_) (fun f cdv A outer s H vs Q E hr h=> ?_)
 . obtain⟨ho,L,st,q,ns,c,rfl,_⟩:=h
   rfl
 . obtain⟨ho,L,st,q,ns,c,rfl,hq,hnl,hm,hh,ok,hno,k⟩:=h
   refine⟨_,(aK (aZ (i:=2) aFn.nd rfl (Or.inl rfl) (aP (cV T) hr (by decide) rfl (aJ (aX (pv 0) rfl) (aJ (bZ bD (pv 1) aN (fun _ _=>rfl)) aL)))) (aK (bR (bC dI (pv 2) aN (bF _)) (aM (aU (bU (aJ (pv 2) aL)))) bB) (aK (fB (bJh (aX (pv 0) rfl) (bZ bD (pv 1) aN (fun _ _=>rfl)) ⟨rfl,rfl,rfl,rfl⟩)) (aM (aU (bU (aJ aN aL))))))),?_⟩;symm
   obtain⟨z,rfl,rfl⟩: ∃z,ns=[z]/\c= .drop z:=by
    match ns,hm with
    |[z],hm=>exact⟨z,rfl,(Option.some.inj hm).symm⟩
   obtain⟨dh,hho⟩:=hh.ob
   have hs:Vbfaae.step st (.drop z)=Vbfaae.onPicture st z fun p=>({st with pictures:=st.pictures.filter fun x=>x.key !=p.key},[0]):=rfl
   obtain⟨kvs,hkv,hkr⟩:=hh.bEs z
   refine⟨_,rfl,_,_,_,_,_,rfl,hho,T.aW.cl,T.aW.no _ (by simp),bW,_,rfl,q,_,_,_,rfl,rfl,SqL.of hq,rfl,L.dp,kvs,z,rfl,hkv,fun H sK=> ?_⟩
   rw [hkr]
   replace k:=fun H' L' r (kp:Kept H H' ho L L' st _) hz (hn:H r=none\/Own ho L st r)=>k H' L' r (kp.pre sK) hz (hn.imp (fun z=>sK.free z) id)
   replace hh:=hh.same sK
   replace hq:=sK _ _ hq
   replace hho:=sK _ _ hho
   try replace hkv:=sK _ _ hkv
   refine⟨_,rfl,_,_,rfl,rfl,_,rfl,?_⟩
   by_cases hr:cW st z<0
   . rw [pA hr] at hs
     exact bI (by rw [aC];exact hr) ⟨_,rfl,(by show 1<=sizeLine;decide),fun r hrn=>step_same k hh (bJ.refl _) hs rfl hrn⟩
   . refine bK (by rw [aC];exact hr) ?_
     obtain⟨zn,x,rfl,hx,hf⟩:=gR hr
     rw [hf] at hs
     obtain⟨hxm,hxk⟩:=ok.pat.mp hx
     clear hkv hkr
     obtain⟨kvs,ns,hkv,hnd,_⟩:=hh.bNd ok
     have hv:dO kvs (Sum.inl (zn:Int))=some (.ref (L.gp zn).pa):=by
      obtain⟨kvs',e1,_,e3⟩:=hh.pd
      rw [hkv] at e1
      cases e1
      rw [e3,hx];rfl
     refine⟨_,rfl,_,_,_,_,_,rfl,hho,T.aW.cl,T.aW.no _ (by simp),bW,L.dp,rfl,.inl ⟨_,.inl hkv⟩,_,rfl,q,_,_,_,rfl,rfl,SqL.of hq,rfl,kvs,Sum.inl (zn:Int),_,hkv,rfl,hv,?_⟩
     refine⟨(by show 1<=sizeLine;decide),fun r hrn=> ?_⟩
     rw [hs,hxk] at k
     have S4:=bM (.lst [V.int 0]) hrn
     have fr: ∀b ob,H b=some ob->b≠L.dp->upd (upd H L.dp (.dK (lX kvs (Sum.inl (zn:Int))))) r (.lst [V.int 0]) b=some ob:=fun b ob hb hn=>S4 _ _ (by rw [aR hn];exact hb)
     exact k _ L r ⟨fun b ob hb hno=>fr b ob hb (fun e=>hno (.inr (.inl e))),fun b hb=> .inl hb,fun b hb=> .inl (by
      obtain⟨j,x',hx',hb⟩:=hb
      rw [pZ ok] at hx'
      by_cases hj:j=zn
      . rw [aD hj] at hx';cases hx'
      . rw [aF hj] at hx';exact⟨j,x',hx',hb⟩)⟩ (hh.aVq ok hx hkv hnd fr (S4 _ _ aO)) (.inl (cG hrn)) (by rw [aO];rfl)
def unlikeAt (l m:List Nat):Int:=match (List.range l.length).find? fun i=>l.getD i 0 !=m.getD i 0 with
 |none=> -1
 |some i=>(i:Int)
theorem bBh {l m:List Nat} {i:Nat} (hi:i<l.length) (h:l.getD i 0≠m.getD i 0) (hb: ∀j,j<i->l.getD j 0=m.getD j 0):unlikeAt l m=(i:Int):=by
 have e:((List.range l.length).find? fun i=>l.getD i 0 !=m.getD i 0)=some i:=by
  rw [List.find?_range_eq_some]
  exact⟨by simpa using h,by simpa using hi,fun j hj=>by simpa using hb j hj⟩
 unfold unlikeAt
 rw [e]
theorem bBg {l m:List Nat} (hb: ∀j,j<l.length->l.getD j 0=m.getD j 0):unlikeAt l m= -1:=by
 have e:((List.range l.length).find? fun i=>l.getD i 0 !=m.getD i 0)=none:=by
  rw [List.find?_range_eq_none]
  exact fun j hj=>by simpa using hb j hj
 unfold unlikeAt
 rw [e]
inductive aJc (a:Adr) (vs:List V) (H:Hp) (Q:VK):Prop|mk (pa gl pb gm:Addr) (x y:Vbfaae.Picture) (z0:vs=[.ref pa,.ref pb]) (z1:xG a H pa gl x) (z2:xG a H pb gm y) (z3:y.values.length=x.values.length) (z4: ∀H',bJ H H'->Q (.int (unlikeAt x.values y.values)) H') def aMe (K:aA) (a:Adr):L2.Sp:=fun vs H Q _=>aJc a vs H Q
theorem oE:bA ["one","other","n","grey"] ["one","other"] (aV vY):=by decide+kernel
theorem aLl (T:Txt P w K mg a):Ok P w K mg base 1 "first_unlike" ["one","other"] (aMe K a):=by
 refine T.aNu.ok oE (fun vs H Q E h=> ?_) (fun f cdv A outer s H vs Q E hr h=> ?_)
 . obtain⟨pa,gl,pb,gm,x,y,rfl,_⟩:=h
   rfl
 . obtain⟨pa,gl,pb,gm,x,y,rfl,hx,hy,hl,k⟩:=h
   refine⟨_,(aK (lK PassesOwn.never rfl (aNe rfl T.qX (aJ (aX (pv 0) rfl) aL)) (aWr rfl (gW (cM (i:=2) oE.nd rfl (Or.inl rfl)) (gW (cM (i:=3) oE.nd rfl (Or.inl rfl)) aAe))) (aM (bR (bC yC (pv 3) (bZ bD (aX (pv 1) rfl) (pv 2) (fun _ _=>rfl)) (bF _)) (aM (aU (pv 2))) bB))) (aM (aU (yE qP aN)))),?_⟩;symm
   obtain⟨dx,ho1⟩:=hx.ob
   refine⟨_,rfl,_,_,_,_,_,rfl,ho1,T.bV.cl,T.bV.no _ (by simp),jC,gl,_,rfl,SqL.of hx.gr,aOl (K:=K) (q:=gl) (xs:=ni x.values) (fun i σ H'=>bJ H H'/\(∀j,j<i->x.values.getD j 0=y.values.getD j 0)/\ ∃v2 v3,σ=[some (.ref pa),some (.ref pb),v2,v3])
    ⟨bJ.refl _,fun j hj=>absurd hj (Nat.not_lt_zero _),_,_,rfl⟩ (fun i σ H' _ h=>h.1.seq (SqL.of hx.gr)) ?_ ?_⟩
   . rintro i yy σ H' t hi ⟨hs,hb,v2,v3,rfl⟩ ht
     obtain⟨g,hg,rfl⟩:=nW hi
     have hil:=(List.getElem?_eq_some_iff.mp hg).1
     obtain⟨g2,hg2⟩: ∃r,y.values[i]? =some r:=⟨_,List.getElem?_eq_getElem (by omega)⟩
     have hs3:=hs.trans (bY (o:= .tup [.int (i:Nat),.int g]) ht)
     refine⟨t,_,rfl,SqT.of aO,rfl,_,_,rfl,_,_,rfl,rfl,?_⟩
     generalize upd H' t (.tup [.int (i:Nat),.int g])=H3 at*
     have hy3:=hy.same hs3
     obtain⟨dy,ho2⟩:=hy3.ob
     refine⟨_,rfl,_,rfl,_,_,_,_,_,rfl,ho2,T.bV.cl,T.bV.no _ (by simp),jC,_,rfl,gm,_,_,_,rfl,rfl,SqL.of hy3.gr,jO rfl hg2,rfl,_,rfl,?_⟩
     have e1:x.values.getD i 0=g:=by rw [List.getD_eq_getElem?_getD,hg];rfl
     have e2:y.values.getD i 0=g2:=by rw [List.getD_eq_getElem?_getD,hg2];rfl
     by_cases h:g=g2
     . refine bK (by rw [dR,h];simp) ?_
       refine⟨hs3,fun j hj=> ?_,_,_,rfl⟩
       by_cases e:j=i
       . rw [e,e1,e2,h]
       . exact hb j (by omega)
     . refine bI (by rw [dR];simp;omega) ?_
       refine⟨_,rfl,?_⟩
       have:=k H3 hs3
       rw [bBh hil (by rw [e1,e2];exact h) hb] at this
       exact this
   . rintro σ H' ⟨hs,hb,v2,v3,rfl⟩
     rw [aG] at hb
     have:=k H' hs
     rw [bBg hb] at this
     exact⟨_,rfl,this⟩
def nH (st:aB) (z y:Int):Int:=if(Vbfaae.keyed z&&Vbfaae.keyed y)=false then-1 else if(Vbfaae.pictureAt st z.toNat).isNone=true\/(Vbfaae.pictureAt st y.toNat).isNone=true then-4 else 0
def nJ (st:aB) (z y:Int):Int:=if(Vbfaae.keyed z&&Vbfaae.keyed y)=false then-1 else if(Vbfaae.streamAt st z.toNat).isNone=true\/(Vbfaae.streamAt st y.toNat).isNone=true then-4 else 0
theorem bQ.bOq {a:Adr} {H:Hp} {ho:Addr} {L:Lay} {st:aB} (h:bQ a H ho L st) (z y:Int): ∃kvs,H L.dp=some (.dK kvs)/\(if([z,y].all fun z=>Vbfaae.keyed z)=false then-1 else if([z,y].all fun z=>(dO kvs (Sum.inl z)).isSome)=false then-4 else 0)=nH st z y:=by
 obtain⟨kvs,e,_,e3⟩:=h.pd
 refine⟨kvs,e,?_⟩
 unfold nH
 have e1:([z,y].all fun z=>Vbfaae.keyed z)=(Vbfaae.keyed z&&Vbfaae.keyed y):=by simp
 rw [e1]
 by_cases hz:(Vbfaae.keyed z&&Vbfaae.keyed y)=false
 . rw [aD hz,aD hz]
 . rw [aF hz,aF hz]
   have hz':=M.not_false hz
   rw [Bool.and_eq_true] at hz'
   have h1:=M.cP.mp hz'.1
   have h2:=M.cP.mp hz'.2
   obtain⟨zn,rfl⟩: ∃zn:Nat,z=(zn:Int):=⟨z.toNat,by omega⟩
   obtain⟨yn,rfl⟩: ∃zn:Nat,y=(zn:Int):=⟨y.toNat,by omega⟩
   have e4:([(zn:Int),(yn:Int)].all fun z=>(dO kvs (Sum.inl z)).isSome)=((Vbfaae.pictureAt st zn).isSome&&(Vbfaae.pictureAt st yn).isSome):=by
    simp [e3]
   rw [e4,aH,aH]
   cases Vbfaae.pictureAt st zn<;>cases Vbfaae.pictureAt st yn<;>simp
theorem bQ.bOr {a:Adr} {H:Hp} {ho:Addr} {L:Lay} {st:aB} (h:bQ a H ho L st) (z y:Int): ∃kvs,H L.ds=some (.dK kvs)/\(if([z,y].all fun z=>Vbfaae.keyed z)=false then-1 else if([z,y].all fun z=>(dO kvs (Sum.inl z)).isSome)=false then-4 else 0)=nJ st z y:=by
 obtain⟨kvs,e,_,e3⟩:=h.srs.di
 refine⟨kvs,e,?_⟩
 unfold nJ
 have e1:([z,y].all fun z=>Vbfaae.keyed z)=(Vbfaae.keyed z&&Vbfaae.keyed y):=by simp
 rw [e1]
 by_cases hz:(Vbfaae.keyed z&&Vbfaae.keyed y)=false
 . rw [aD hz,aD hz]
 . rw [aF hz,aF hz]
   have hz':=M.not_false hz
   rw [Bool.and_eq_true] at hz'
   have h1:=M.cP.mp hz'.1
   have h2:=M.cP.mp hz'.2
   obtain⟨zn,rfl⟩: ∃zn:Nat,z=(zn:Int):=⟨z.toNat,by omega⟩
   obtain⟨yn,rfl⟩: ∃zn:Nat,y=(zn:Int):=⟨y.toNat,by omega⟩
   have e4:([(zn:Int),(yn:Int)].all fun z=>(dO kvs (Sum.inl z)).isSome)=((Vbfaae.streamAt st zn).isSome&&(Vbfaae.streamAt st yn).isSome):=by
    simp [e3]
   rw [e4,aH,aH]
   cases Vbfaae.streamAt st zn<;>cases Vbfaae.streamAt st yn<;>simp
theorem bLx {st:aB} {z y:Int} (h:nH st z y<0) (f:Vbfaae.Picture->Vbfaae.Picture->aB×List Int):
 (if(Vbfaae.keyed z&&Vbfaae.keyed y)=false then(st,[-1]) else Vbfaae.onPicture st z fun p=>Vbfaae.onPicture st y fun q=>f p q)=(st,[nH st z y]):=by
 unfold nH at h ⊢
 by_cases hz:(Vbfaae.keyed z&&Vbfaae.keyed y)=false
 . rw [aD hz,aD hz]
 . rw [aF hz] at h ⊢
   rw [aF hz]
   have hz':=M.not_false hz
   rw [Bool.and_eq_true] at hz'
   unfold Vbfaae.onPicture
   rw [aF (by rw [hz'.1];decide)]
   cases hx:Vbfaae.pictureAt st z.toNat with
   |none=>simp
   |some p=>
    simp only
    rw [aF (by rw [hz'.2];decide)]
    cases hy:Vbfaae.pictureAt st y.toNat with
    |none=>simp
    |some q=>rw [hx,hy] at h;simp at h
theorem bLw {st:aB} {z y:Int} (h: ¬nH st z y<0): ∃(zn yn:Nat) (p q:Vbfaae.Picture),z=(zn:Int)/\y=(yn:Int)/\Vbfaae.pictureAt st zn=some p/\Vbfaae.pictureAt st yn=some q/\
 ∀f:Vbfaae.Picture->Vbfaae.Picture->aB×List Int,(if(Vbfaae.keyed z&&Vbfaae.keyed y)=false then(st,[-1]) else Vbfaae.onPicture st z fun p=>Vbfaae.onPicture st y fun q=>f p q)=f p q:=by
 unfold nH at h
 by_cases hz:(Vbfaae.keyed z&&Vbfaae.keyed y)=false
 . rw [aD hz] at h;exact absurd (by decide) h
 . rw [aF hz] at h
   have hz':=M.not_false hz
   rw [Bool.and_eq_true] at hz'
   have h1:=M.cP.mp hz'.1
   have h2:=M.cP.mp hz'.2
   cases hx:Vbfaae.pictureAt st z.toNat with
   |none=>rw [hx] at h;simp at h
   |some p=>
    cases hy:Vbfaae.pictureAt st y.toNat with
    |none=>rw [hx,hy] at h;simp at h
    |some q=>
     refine⟨z.toNat,y.toNat,p,q,by omega,by omega,hx,hy,fun f=> ?_⟩
     rw [aF hz]
     unfold Vbfaae.onPicture
     rw [aF (by rw [hz'.1];decide),hx]
     simp only
     rw [aF (by rw [hz'.2];decide),hy]
theorem bLz {st:aB} {z y:Int} (h:nJ st z y<0) (f:Vbfaae.Stream->Vbfaae.Stream->aB×List Int):
 (if(Vbfaae.keyed z&&Vbfaae.keyed y)=false then(st,[-1]) else Vbfaae.onStream st z fun p=>Vbfaae.onStream st y fun q=>f p q)=(st,[nJ st z y]):=by
 unfold nJ at h ⊢
 by_cases hz:(Vbfaae.keyed z&&Vbfaae.keyed y)=false
 . rw [aD hz,aD hz]
 . rw [aF hz] at h ⊢
   rw [aF hz]
   have hz':=M.not_false hz
   rw [Bool.and_eq_true] at hz'
   unfold Vbfaae.onStream
   rw [aF (by rw [hz'.1];decide)]
   cases hx:Vbfaae.streamAt st z.toNat with
   |none=>simp
   |some p=>
    simp only
    rw [aF (by rw [hz'.2];decide)]
    cases hy:Vbfaae.streamAt st y.toNat with
    |none=>simp
    |some q=>rw [hx,hy] at h;simp at h
theorem bLy {st:aB} {z y:Int} (h: ¬nJ st z y<0): ∃(zn yn:Nat) (p q:Vbfaae.Stream),z=(zn:Int)/\y=(yn:Int)/\Vbfaae.streamAt st zn=some p/\Vbfaae.streamAt st yn=some q/\
 ∀f:Vbfaae.Stream->Vbfaae.Stream->aB×List Int,(if(Vbfaae.keyed z&&Vbfaae.keyed y)=false then(st,[-1]) else Vbfaae.onStream st z fun p=>Vbfaae.onStream st y fun q=>f p q)=f p q:=by
 unfold nJ at h
 by_cases hz:(Vbfaae.keyed z&&Vbfaae.keyed y)=false
 . rw [aD hz] at h;exact absurd (by decide) h
 . rw [aF hz] at h
   have hz':=M.not_false hz
   rw [Bool.and_eq_true] at hz'
   have h1:=M.cP.mp hz'.1
   have h2:=M.cP.mp hz'.2
   cases hx:Vbfaae.streamAt st z.toNat with
   |none=>rw [hx] at h;simp at h
   |some p=>
    cases hy:Vbfaae.streamAt st y.toNat with
    |none=>rw [hx,hy] at h;simp at h
    |some q=>
     refine⟨z.toNat,y.toNat,p,q,by omega,by omega,hx,hy,fun f=> ?_⟩
     rw [aF hz]
     unfold Vbfaae.onStream
     rw [aF (by rw [hz'.1];decide),hx]
     simp only
     rw [aF (by rw [hz'.2];decide),hy]
theorem bJw {st:aB} {p q:Vbfaae.Picture}:(match (List.range p.values.length).find? fun i=>p.values.getD i 0 !=q.values.getD i 0 with
 |none=>(st,[1])
 |some i=>(st,Vbfaae.ints [0,i%p.w,i/p.w]))=if unlikeAt p.values q.values<0 then(st,[1]) else(st,[0,unlikeAt p.values q.values%p.w,unlikeAt p.values q.values/p.w]):=by
 unfold unlikeAt
 cases (List.range p.values.length).find? fun i=>p.values.getD i 0 !=q.values.getD i 0 with
 |none=>rfl
 |some i=>
  simp only
  rw [aF (by omega)]
  simp [Vbfaae.ints]
def aGg (K:aA) (a:Adr):L2.Sp:=fW (fun ns=>match ns with|[k,y]=>some (.same k y)|_=>none) a
theorem lO:bA ["house","numbers","refusal","one","other","n"] ["house","numbers"] (aV aGw):=by decide+kernel
theorem aWi (T:Txt P w K mg a):Ok P w K mg base 4 "call_same" ["house","numbers"] (aGg K a):=by
 refine T.aYr.ok lO (fun vs H Q E h=> ?_) (fun f cdv A outer s H vs Q E hr h=> ?_)
 . obtain⟨ho,L,st,q,ns,c,rfl,_⟩:=h
   rfl
 . obtain⟨ho,L,st,q,ns,c,rfl,hq,hnl,hm,hh,ok,hno,k⟩:=h
   have hu:=fO hr
   refine⟨_,(aK (aZ (i:=2) lO.nd rfl (Or.inl rfl) (aP (nY T) hr (by decide) rfl (aJ (aX (pv 0) rfl) (aJ (pv 1) aL)))) (aK (bR (bC dI (pv 2) aN (bF _)) (aM (aU (bU (aJ (pv 2) aL)))) bB) (aK (aZ (i:=3) lO.nd rfl (Or.inl rfl) (cY hu (aX (pv 0) rfl) (bZ bD (pv 1) aN (fun _ _=>rfl)) (fun _ _=>rfl))) (aK (aZ (i:=4) lO.nd rfl (Or.inl rfl) (cY hu (aX (pv 0) rfl) (bZ bD (pv 1) aN (fun _ _=>rfl)) (fun _ _=>rfl))) (aK (bR (PW.pt (kY (bC yC (aX (pv 3) rfl) (aX (pv 4) rfl) (bF _)) (iK (bC yC (aX (pv 3) rfl) (aX (pv 4) rfl) (bF _))))) (aM (aU (bU (aJ (cA rfl T.aZk) aL)))) bB) (aK (aZ (i:=5) lO.nd rfl (Or.inl rfl) (aP (aLl T) hr (by decide) rfl (aJ (pv 3) (aJ (pv 4) aL)))) (aK (bR (bC dI (pv 5) aN (bF _)) (aM (aU (bU (aJ aN aL)))) bB) (aM (aU (bU (aJ aN (aJ (bG rW (pv 5) (aX (pv 3) rfl)) (aJ (bG aAd (pv 5) (aX (pv 3) rfl)) aL))))))))))))),?_⟩;symm
   obtain⟨z,y,rfl,rfl⟩: ∃z y,ns=[z,y]/\c= .same z y:=by
    match ns,hm with
    |[z,y],hm=>exact⟨z,y,rfl,(Option.some.inj hm).symm⟩
   obtain⟨dh,hho⟩:=hh.ob
   have hs:Vbfaae.step st (.same z y)=if(Vbfaae.keyed z&&Vbfaae.keyed y)=false then(st,[-1]) else Vbfaae.onPicture st z fun p=>Vbfaae.onPicture st y fun q=>if(p.w !=q.w||p.h !=q.h)=true then(st,[-5]) else
    match (List.range p.values.length).find? fun i=>p.values.getD i 0 !=q.values.getD i 0 with
     |none=>(st,[1])
     |some i=>(st,Vbfaae.ints [0,i%p.w,i/p.w]):=rfl
   obtain⟨kvs,hkv,hkr⟩:=hh.bOq z y
   refine⟨_,rfl,_,_,_,_,_,rfl,hho,T.aW.cl,T.aW.no _ (by simp),bW,_,rfl,L.dp,q,kvs,[z,y],rfl,hkv,hq,(by show 2<=sizeLine;decide),fun H sK=> ?_⟩
   rw [hkr]
   replace k:=fun H' L' r (kp:Kept H H' ho L L' st _) hz (hn:H r=none\/Own ho L st r)=>k H' L' r (kp.pre sK) hz (hn.imp (fun z=>sK.free z) id)
   replace hh:=hh.same sK
   replace hq:=sK _ _ hq
   replace hho:=sK _ _ hho
   try replace hkv:=sK _ _ hkv
   refine⟨_,rfl,_,_,rfl,rfl,_,rfl,?_⟩
   by_cases hr:nH st z y<0
   . rw [bLx hr] at hs
     exact bI (by rw [aC];exact hr) ⟨_,rfl,(by show 1<=sizeLine;decide),fun r hrn=>step_same k hh (bJ.refl _) hs rfl hrn⟩
   . refine bK (by rw [aC];exact hr) ?_
     obtain⟨zn,yn,x1,x2,rfl,rfl,hx1,hx2,hf⟩:=bLw hr
     rw [hf] at hs
     have hd1:=hh.bDb zn
     have hd2:=hh.bDb yn
     rw [hx1] at hd1
     rw [hx2] at hd2
     have hX1:=hh.pics _ _ hx1
     have hX2:=hh.pics _ _ hx2
     obtain⟨dx1,ho1⟩:=hX1.ob
     obtain⟨dx2,ho2⟩:=hX2.ob
     have po1:=ok.pics x1 (ok.pat.mp hx1).1
     have po2:=ok.pics x2 (ok.pat.mp hx2).1
     refine⟨_,rfl,_,_,_,_,_,rfl,hho,T.aW.cl,T.aW.no _ (by simp),bW,_,rfl,q,_,_,_,rfl,rfl,SqL.of hq,rfl,L.dp,_,rfl,hd1,?_⟩
     refine⟨_,rfl,_,_,_,_,_,rfl,hho,T.aW.cl,T.aW.no _ (by simp),bW,_,rfl,q,_,_,_,rfl,rfl,SqL.of hq,rfl,L.dp,_,rfl,hd2,?_⟩
     refine⟨_,rfl,_,_,_,_,_,rfl,ho1,T.bV.cl,T.bV.no _ (by simp),eF,_,rfl,_,_,_,_,_,rfl,ho2,T.bV.cl,T.bV.no _ (by simp),eF,rfl,_,rfl,?_⟩
     by_cases h1:x1.w=x2.w
     . refine bK (by rw [dR,h1];simp) ?_
       refine⟨_,rfl,_,_,_,_,_,rfl,ho1,T.bV.cl,T.bV.no _ (by simp),dU,_,rfl,_,_,_,_,_,rfl,ho2,T.bV.cl,T.bV.no _ (by simp),dU,rfl,_,rfl,?_⟩
       by_cases h2:x1.h=x2.h
       . refine bK (by rw [dR,h2];simp) ?_
         rw [aF (by simp [h1,h2]),bJw] at hs
         refine⟨_,rfl,_,rfl,_,_,_,_,x1,x2,rfl,hX1,hX2,by rw [po1.len,po2.len,h1,h2],fun H1 s1=> ?_⟩
         obtain⟨dx3,ho3⟩:=(hX1.same s1).ob
         refine⟨_,rfl,_,_,rfl,rfl,_,rfl,?_⟩
         by_cases h3:unlikeAt x1.values x2.values<0
         . rw [aD h3] at hs
           exact bI (by rw [aC];exact h3) ⟨(by show 1<=sizeLine;decide),fun r hrn=>step_same k hh s1 hs rfl hrn⟩
         . rw [aF h3] at hs
           refine bK (by rw [aC];exact h3) ?_
           have hw:=po1.w
           refine⟨_,rfl,_,rfl,_,_,_,_,_,rfl,ho3,T.bV.cl,T.bV.no _ (by simp),eF,_,_,rfl,rfl,(by show (0:Int)<(x1.w:Int);omega),_,rfl,_,rfl,_,_,_,_,_,rfl,ho3,T.bV.cl,T.bV.no _ (by simp),eF,_,_,rfl,rfl,⟨(by show (0:Int)<(x1.w:Int);omega),(by show (x1.w:Int)<_;omega)⟩,(by show 3<=sizeLine;decide),fun r hrn=>step_same k hh s1 hs rfl hrn⟩
       . rw [aD (by simp [h2])] at hs
         exact bI (by rw [dR];simp;omega) ⟨(by show 1<=sizeLine;decide),fun r hrn=>step_same k hh (bJ.refl _) hs rfl hrn⟩
     . rw [aD (by simp [h1])] at hs
       exact bI (by rw [dR];simp;omega) (bI rfl ⟨(by show 1<=sizeLine;decide),fun r hrn=>step_same k hh (bJ.refl _) hs rfl hrn⟩)
def cX (p:Vbfaae.Picture) (S:Nat):Vbfaae.Stream:=⟨p.key,0,p.w,p.h,S,0,0,p.values,[]⟩
theorem aSd {p:Vbfaae.Picture} (h:M.bDy p) {S:Nat} (h1:1<=S) (h8:S<=8) (hh:S<=p.h):M.lC (cX p S):=
 ⟨h.key,h.w,h.h,⟨h1,h8,hh⟩,Nat.zero_le _,h.len,h.val,Nat.zero_le _,fun q hq=>by cases hq⟩
theorem bCx (x:Vbfaae.Stream) (i m:Nat) (r:List Nat):(Vbfaae.packetOf x i m r).length=14+(Vbfaae.encoded m x.w (Vbfaae.cutOut x.w x.h x.slices i x.was) r).length:=by
 simp [Vbfaae.packetOf,Vbfaae.sealed_,Vbfaae.headOf,Vbfaae.two,Vbfaae.four];omega
def sizesOf (p:Vbfaae.Picture) (S m:Nat):List Nat:=(List.range S).map fun i=>(Vbfaae.packetOf (cX p S) i m (List.replicate (Vbfaae.countIn (cX p S) i) 0)).length
inductive aGl (a:Adr) (vs:List V) (H:Hp) (Q:VK):Prop|mk (pa gl:Addr) (p:Vbfaae.Picture) (S m:Nat) (z0:vs=[.ref pa,.int S,.int m]) (z1:xG a H pa gl p) (z2:M.bDy p) (z3:1<=S) (z4:S<=8) (z5:S<=p.h) (z6:m<=4) (z7:sI H Q (ni (sizesOf p S m))) def aJp (K:aA) (a:Adr):L2.Sp:=fun vs H Q _=>aGl a vs H Q
theorem fK:bA ["picture","slices","mode","stream","coded_slices","i","octets"] ["picture","slices","mode"] (aV tU):=by decide+kernel
theorem aIp (T:Txt P w K mg a):Ok P w K mg base 5 "sizes_by_mode" ["picture","slices","mode"] (aJp K a):=by
 refine T.aKx.ok fK (fun vs H Q E h=> ?_) (fun f cdv A outer s H vs Q E hr h=> ?_)
 . obtain⟨pa,gl,p,S,m,rfl,_⟩:=h
   rfl
 . obtain⟨pa,gl,p,S,m,rfl,hP,po,h1,h8,hh,hm4,k⟩:=h
   refine⟨_,(aK (aZ (i:=3) fK.nd rfl (Or.inr rfl) (gU T.aQ (jZ T) hr (by decide) rfl (aJ aN (aJ (pv 0) (aJ (pv 1) (aJ aN (aJ aN aL))))))) (aK (aPv (i:=4) (own:=[("i",5)]) rfl fK.nd rfl rfl (aXx rfl rfl (by rfl) (by rfl)) (jF rfl T.jV (aJ (pv 1) aL)) (eZ (by rfl)) (fun _ _ _ _ _=>(cM (i:=5) fK.nd rfl (Or.inl rfl))) (fun _ _ _ _ _=>iQ) (fun _ _ _ _ _=>(aP (aPn T) hr (by decide) rfl (aJ (aP (nZ T) hr (by decide) rfl (aJ (pv 3) (aJ (pv 5) aL))) (aJ (aNd (K:=K) rfl (pv 3) rfl) (aJ (pv 2) (aJ (bU aL) aL))))))) (aM (aU (tK (own:=[("octets",6)]) rfl fK.nd (lJ (pv 4)) (eZ (by rfl)) (fun _ _ _ _ _=>(cM (i:=6) fK.nd rfl (Or.inl rfl))) (fun _ _ _ _ _=>iQ) (fun _ _ _ _ _=>(bG cR (bG cR (cA rfl T.mR) (bL (aBa (K:=K) rfl) (by rfl) T.dC PySem.boot_len (aJ (pv 6) aL))) (cA rfl T.uD)))))))),?_⟩;symm
   refine⟨_,rfl,_,rfl,fun o dn hon hdn hne=> ?_⟩
   have hon':upd H dn (.own o) o=none:=by rw [aR hne.symm];exact hon
   refine⟨o,dn,_,pa,gl,p,_,_,_,rfl,aO,hP.same ((bM _ hdn).trans (bM _ hon')),fun H2 pk pl h2 hpk hpl npk npl nkl kp=>⟨rfl,?_⟩⟩
   have S2:=bJ.made hon hdn kp
   have hN:cZ a H2 ⟨o,pk,pl,[]⟩ (cX p S):=⟨⟨dn,h2⟩,hpk,hpl,rfl,fun i q p hq hp=>by simp at hq⟩
   have sok:=aSd po h1 h8 hh
   refine⟨_,rfl,S,rfl,by omega,by omega,fun D hD=> ?_⟩
   refine aZr (lo:=0) (n:=S) (fun i H'=>bJ H2 H'/\ ∃cs:List Addr,cs.length=i/\H' D=some (.lst (cs.map V.ref))/\D∉cs/\ ∀j c,cs[j]? =some c->H' c=some (.lst (ni (Vbfaae.encoded m p.w (Vbfaae.cutOut p.w p.h S j p.values) (List.replicate (Vbfaae.countIn (cX p S) j) 0)))))
    ⟨bY hD,[],rfl,aO,by simp,fun j c h=>by simp at h⟩ (fun i H' hi hI=> ?_) (fun H' hI=> ?_)
   . obtain⟨s',cs,hcl,hcD,hDn,hcs⟩:=hI
     rw [Int.zero_add]
     refine⟨rfl,?_⟩
     have hX:=hN.same s'
     refine⟨_,rfl,_,rfl,⟨o,pk,pl,[]⟩,cX p S,i,rfl,hX,sok,by omega,fun H3 c3 s3 n3 h3=> ?_⟩
     obtain⟨dx3,ho3⟩:=(hX.same s3).ob
     have hcut:=M.aAb sok (i:=i) hi (l:=p.values) po.len
     refine⟨_,rfl,_,_,_,_,_,rfl,ho3,T.aQ.cl,T.aQ.no _ (by simp),cD,_,rfl,Nat.zero_le _,fun el hel=> ?_⟩
     refine⟨c3,_,_,_,el,List.replicate (Vbfaae.countIn (cX p S) i) 0,rfl,SqL.of (cI hel h3),M.zZ po.val,?_,sok.w.1,by omega,fun h5=>by omega,?_,fun z hz=> ?_,fun H4 c4 s4 n4 h4=> ?_⟩
     . have hle:=M.rP p.w p.h S i p.values
       have:=M.bDx sok
       have e:(cX p S).was=p.values:=rfl
       rw [e] at this
       exact Nat.le_trans hle this
     . rw [List.length_replicate];exact hcut.symm
     . have:=List.eq_of_mem_replicate hz
       omega
     . have SS:=s3.trans ((bM (.lst []) hel).trans s4)
       have n4':H' c4=none:=s3.free ((bM (.lst []) hel).free n4)
       have nD:c4≠D:=fun e=>by rw [e,hcD] at n4';cases n4'
       refine⟨_,SS _ _ hcD,Nat.lt_of_lt_of_le (by rw [aG];omega) (by decide:1000<=sizeLine),gY hD (s'.trans SS),cs++[c4],by simp [hcl],by rw [aO];simp,by simp [hDn];exact fun e=>nD e.symm,fun j c hj=> ?_⟩
       by_cases hjl:j<cs.length
       . rw [List.getElem?_append_left hjl] at hj
         have ne:c≠D:=fun e=>hDn (e ▸ List.mem_of_getElem? hj)
         rw [aR ne]
         exact SS _ _ (hcs j c hj)
       . have hj2:=(List.getElem?_eq_some_iff.mp hj).1
         simp at hj2
         have ej:j=cs.length:=by omega
         subst ej
         simp at hj
         subst hj
         rw [aR nD,h4,hcl]
         rfl
   . obtain⟨s',cs,hcl,hcD,hDn,hcs⟩:=hI
     refine⟨_,rfl,D,rfl,⟨_,SqL.of hcD⟩,fun D2 hD2=> ?_⟩
     refine sZ (K:=K) (xs:=cs.map V.ref) (ys:=ni (sizesOf p S m)) (SqL.of hcD) hD2 (by simp [sizesOf];exact cF (by omega)) (by simp [sizesOf,hcl]) (fun i v y hv hy H3 Kt Al hs hk=> ?_) (fun H3 hs h3=>k _ _ (S2.trans (s'.trans hs)) (S2.free (s'.free hD2)) h3)
     obtain⟨c,hc,rfl⟩:=uH hv
     have hil:=(List.getElem?_eq_some_iff.mp hc).1
     have h4:=hs _ _ (hcs i c hc)
     have hi:i<S:=by omega
     have hy:y=V.int ((Vbfaae.packetOf (cX p S) i m (List.replicate (Vbfaae.countIn (cX p S) i) 0)).length:Nat):=by
      simp [sizesOf,ni,hi] at hy
      exact hy.symm
     subst hy
     refine⟨rfl,?_⟩
     refine⟨_,rfl,c,_,rfl,.inl (SqL.of h4),_,_,rfl,rfl,_,_,rfl,rfl,?_⟩
     rw [bCx] at hk
     have e:((14+(Vbfaae.encoded m (cX p S).w (Vbfaae.cutOut (cX p S).w (cX p S).h (cX p S).slices i (cX p S).was) (List.replicate (Vbfaae.countIn (cX p S) i) 0)).length:Nat):Int)=10+((ni (Vbfaae.encoded m p.w (Vbfaae.cutOut p.w p.h S i p.values) (List.replicate (Vbfaae.countIn (cX p S) i) 0))).length:Nat)+4:=by
      rw [aG]
      show ((14+(Vbfaae.encoded m p.w (Vbfaae.cutOut p.w p.h S i p.values) (List.replicate (Vbfaae.countIn (cX p S) i) 0)).length:Nat):Int)=_
      omega
     rw [e] at hk
     exact hk _ (bJ.refl _)
def gO (st:aB) (z sl m:Int):Int:=if(Vbfaae.within sl 1 8&&Vbfaae.within m 0 4)=false then-1 else if cW st z<0 then cW st z else
 match Vbfaae.pictureAt st z.toNat with
 |none=>0
 |some p=>if p.h<sl.toNat then-3 else 0
theorem aSx {st:aB} {z sl m:Int} (h:gO st z sl m<0):Vbfaae.step st (.sizes z sl m)=(st,[gO st z sl m]):=by
 have e8:(Vbfaae.SLICES:Int)=8:=rfl
 unfold gO at h ⊢
 simp only [Vbfaae.step,e8]
 by_cases h1:(Vbfaae.within sl 1 8&&Vbfaae.within m 0 4)=false
 . rw [aD h1,aD h1]
 . rw [aF h1] at h ⊢
   rw [aF h1]
   by_cases h2:cW st z<0
   . rw [aD h2,pA h2]
   . rw [aF h2] at h ⊢
     obtain⟨zn,x,rfl,hx,hf⟩:=gR h2
     rw [hf]
     rw [aH,hx] at h ⊢
     by_cases h3:x.h<sl.toNat
     . simp only [aD h3]
     . simp only [aF h3] at h;exact absurd h (by decide)
theorem aSw {st:aB} {z sl m:Int} (h: ¬gO st z sl m<0): ∃(zn S mn:Nat) (p:Vbfaae.Picture),z=(zn:Int)/\sl=(S:Int)/\m=(mn:Int)/\1<=S/\S<=8/\mn<=4/\Vbfaae.pictureAt st zn=some p/\S<=p.h/\Vbfaae.step st (.sizes z sl m)=(st,Vbfaae.ints (sizesOf p S mn)):=by
 have e8:(Vbfaae.SLICES:Int)=8:=rfl
 unfold gO at h
 by_cases h1:(Vbfaae.within sl 1 8&&Vbfaae.within m 0 4)=false
 . rw [aD h1] at h;exact absurd (by decide) h
 . rw [aF h1] at h
   have h1':=M.not_false h1
   rw [Bool.and_eq_true] at h1'
   have g1:=M.cB.mp h1'.1
   have g2:=M.cB.mp h1'.2
   by_cases h2:cW st z<0
   . rw [aD h2] at h;exact absurd h2 h
   . rw [aF h2] at h
     obtain⟨zn,x,rfl,hx,hf⟩:=gR h2
     rw [aH,hx] at h
     by_cases h3:x.h<sl.toNat
     . simp only [aD h3] at h;exact absurd (by decide) h
     . refine⟨zn,sl.toNat,m.toNat,x,rfl,by omega,by omega,by omega,by omega,by omega,hx,by omega,?_⟩
       simp only [Vbfaae.step,e8]
       rw [aF h1,hf,aF h3]
       rfl
inductive aGm (a:Adr) (vs:List V) (H:Hp) (Q:VK):Prop|mk (ho:Addr) (L:Lay) (st:aB) (z sl m:Int) (z0:vs=[.ref ho,.int z,.int sl,.int m]) (z1:bQ a H ho L st) (z2: ∀H',bJ H H'->Q (.int (gO st z sl m)) H') def aJq (K:aA) (a:Adr):L2.Sp:=fun vs H Q _=>aGm a vs H Q
theorem tM:bA ["house","key","slices","mode","refusal"] ["house","key","slices","mode"] (aV tV):=by decide+kernel
theorem aIq (T:Txt P w K mg a):Ok P w K mg base 5 "sizes_refusal" ["house","key","slices","mode"] (aJq K a):=by
 refine T.aKy.ok tM (fun vs H Q E h=> ?_) (fun f cdv A outer s H vs Q E hr h=> ?_)
 . obtain⟨ho,L,st,z,sl,m,rfl,_⟩:=h
   rfl
 . obtain⟨ho,L,st,z,sl,m,rfl,hh,k⟩:=h
   have hu:=fO hr
   refine⟨_,(aK (bR (PW.pt (kY (eU (cT (aP (dZ T) hr (by decide) rfl (aJ (pv 2) (aJ aN (aJ aN aL)))))) (iK (eU (cT (aP (dZ T) hr (by decide) rfl (aJ (pv 3) (aJ aN (aJ aN aL))))))))) (aM (aU (cA rfl T.cO))) bB) (aK (aZ (i:=4) tM.nd rfl (Or.inl rfl) (aP (cV T) hr (by decide) rfl (aJ (aX (pv 0) rfl) (aJ (pv 1) aL)))) (aK (bR (bC dI (pv 4) aN (bF _)) (aM (aU (pv 4))) bB) (aK (bR (bC oM (pv 2) (aX (cY hu (aX (pv 0) rfl) (pv 1) (fun _ _=>rfl)) rfl) (bF _)) (aM (aU (cA rfl T.oY))) bB) (aM (aU aN)))))),?_⟩;symm
   obtain⟨dh,hho⟩:=hh.ob
   unfold gO at k
   refine⟨_,rfl,sl,1,8,rfl,_,rfl,?_⟩
   cases hsl:Vbfaae.within sl 1 8 with
   |false=>rw [hsl] at k;exact bI rfl (bI rfl (k H (bJ.refl _)))
   |true=>
    rw [hsl] at k
    refine bK (by decide) ⟨_,rfl,m,0,4,rfl,_,rfl,?_⟩
    cases hm:Vbfaae.within m 0 4 with
    |false=>rw [hm] at k;exact bI rfl (k H (bJ.refl _))
    |true=>
     rw [hm] at k
     refine bK (by decide) ?_
     have hsl1:=M.cB.mp hsl
     obtain⟨kvs,hkv,hkr⟩:=hh.bEs z
     refine⟨_,rfl,_,_,_,_,_,rfl,hho,T.aW.cl,T.aW.no _ (by simp),bW,_,rfl,L.dp,kvs,z,rfl,hkv,fun H sK=> ?_⟩
     rw [hkr]
     replace k:=k H sK
     rw [aF (by decide)] at k
     replace hh:=hh.same sK
     replace hho:=sK _ _ hho
     refine⟨_,rfl,_,_,rfl,rfl,_,rfl,?_⟩
     by_cases hr:cW st z<0
     . rw [aD hr] at k
       exact bI (by rw [aC];exact hr) ⟨_,rfl,k⟩
     . rw [aF hr] at k
       refine bK (by rw [aC];exact hr) ?_
       obtain⟨zn,p,rfl,hp,hf⟩:=gR hr
       obtain⟨Sn,rfl⟩: ∃n:Nat,sl=(n:Int):=⟨sl.toNat,by omega⟩
       simp only [aH,hp] at k
       have hd:=hh.bDb zn
       rw [hp] at hd
       obtain⟨dp,hpo⟩:=(hh.pics _ _ hp).ob
       refine⟨_,rfl,_,rfl,_,_,_,_,_,rfl,hho,T.aW.cl,T.aW.no _ (by simp),bW,_,rfl,L.dp,_,rfl,hd,_,_,_,_,_,rfl,hpo,T.bV.cl,T.bV.no _ (by simp),dU,_,_,rfl,rfl,_,rfl,?_⟩
       by_cases h3:p.h<Sn
       . rw [aD h3] at k
         exact bI (by rw [aC];show (p.h:Int)<Sn;omega) k
       . rw [aF h3] at k
         exact bK (by rw [aC];show¬(p.h:Int)<Sn;omega) k
def aBu (K:aA) (a:Adr):L2.Sp:=fW (fun ns=>match ns with|[k,s,m]=>some (.sizes k s m)|_=>none) a
theorem mU:bA ["house","numbers","slices","mode","refusal"] ["house","numbers"] (aV aCb):=by decide+kernel
theorem aRu (T:Txt P w K mg a):Ok P w K mg base 6 "call_sizes" ["house","numbers"] (aBu K a):=by
 refine T.aVi.ok mU (fun vs H Q E h=> ?_) (fun f cdv A outer s H vs Q E hr h=> ?_)
 . obtain⟨ho,L,st,q,ns,c,rfl,_⟩:=h
   rfl
 . obtain⟨ho,L,st,q,ns,c,rfl,hq,hnl,hm,hh,ok,hno,k⟩:=h
   have hu:=fO hr
   refine⟨_,(aK (aZ (i:=2) mU.nd rfl (Or.inl rfl) (bZ bD (pv 1) aN (fun _ _=>rfl))) (aK (aZ (i:=3) mU.nd rfl (Or.inl rfl) (bZ bD (pv 1) aN (fun _ _=>rfl))) (aK (aZ (i:=4) mU.nd rfl (Or.inl rfl) (aP (aIq T) hr (by decide) rfl (aJ (pv 0) (aJ (bZ bD (pv 1) aN (fun _ _=>rfl)) (aJ (pv 2) (aJ (pv 3) aL)))))) (aK (bR (bC dI (pv 4) aN (bF _)) (aM (aU (bU (aJ (pv 4) aL)))) bB) (aM (aU (aP (aIp T) hr (by decide) rfl (aJ (cY hu (aX (pv 0) rfl) (bZ bD (pv 1) aN (fun _ _=>rfl)) (fun _ _=>rfl)) (aJ (pv 2) (aJ (pv 3) aL)))))))))),?_⟩;symm
   obtain⟨z,sl,m,rfl,rfl⟩: ∃z s r,ns=[z,s,r]/\c= .sizes z s r:=by
    match ns,hm with
    |[z,s,r],hm=>exact⟨z,s,r,rfl,(Option.some.inj hm).symm⟩
   obtain⟨dh,hho⟩:=hh.ob
   refine⟨_,rfl,q,_,_,_,rfl,rfl,SqL.of hq,rfl,?_⟩
   refine⟨_,rfl,q,_,_,_,rfl,rfl,SqL.of hq,rfl,?_⟩
   refine⟨_,rfl,_,rfl,q,_,_,_,rfl,rfl,SqL.of hq,rfl,_,rfl,_,rfl,ho,L,st,z,sl,m,rfl,hh,fun H sK=> ?_⟩
   replace k:=fun H' L' r (kp:Kept H H' ho L L' st _) hz (hn:H r=none\/Own ho L st r)=>k H' L' r (kp.pre sK) hz (hn.imp (fun z=>sK.free z) id)
   replace hh:=hh.same sK
   replace hq:=sK _ _ hq
   replace hho:=sK _ _ hho
   try replace hkv:=sK _ _ hkv
   refine⟨_,rfl,_,_,rfl,rfl,_,rfl,?_⟩
   by_cases hr:gO st z sl m<0
   . exact bI (by rw [aC];exact hr) ⟨_,rfl,(by show 1<=sizeLine;decide),fun r hrn=>step_same k hh (bJ.refl _) (aSx hr) rfl hrn⟩
   . refine bK (by rw [aC];exact hr) ?_
     obtain⟨zn,S,mn,p,rfl,rfl,rfl,h1,h8,hm4,hp,hph,hs⟩:=aSw hr
     have hd:=hh.bDb zn
     rw [hp] at hd
     refine⟨_,rfl,_,_,_,_,_,rfl,hho,T.aW.cl,T.aW.no _ (by simp),bW,_,rfl,q,_,_,_,rfl,rfl,SqL.of hq,rfl,L.dp,_,rfl,hd,_,rfl,_,rfl,_,_,p,S,mn,rfl,hh.pics _ _ hp,ok.pics p (ok.pat.mp hp).1,h1,h8,hph,hm4,fun H1 r s1 nr h1=> ?_⟩
     rw [hs] at k
     exact k _ L r (Kept.refl s1) (hh.same s1) (.inl nr) (by rw [h1];simp [Vbfaae.ints,iv,ni])
theorem bIg (x y:Nat):Vbfaae.gap x y=Vbfaae.gap y x:=by unfold Vbfaae.gap;omega
theorem aTk: ∀l w:List Nat,(l.zip w).map (fun p=>Vbfaae.gap p.1 p.2)=(w.zip l).map fun p=>Vbfaae.gap p.1 p.2
 |[],w=>by simp
 |x::l,[]=>by simp
 |x::l,y::w=>by simp [aTk l w,bIg x y]
theorem aYh: ∀d:List Nat,((d.length:Int)-((d.map fun(n:Nat)=>(n:Int)).count 0:Nat))=((d.filter fun z=>z !=0).length:Nat)
 |[]=>by simp
 |x::d=>by
  have ih:=aYh d
  by_cases h:x=0
  . subst h
    simp at ih ⊢
    omega
  . have e1:((x:Int)==(0:Int))=false:=beq_eq_false_iff_ne.mpr (by omega)
    rw [List.map_cons,List.count_cons,e1,List.filter_cons,aD (bne_iff_ne.mpr h)]
    simp only [List.length_cons,aF Bool.false_ne_true] at ih ⊢
    omega
theorem aTj: ∀d:List Nat,(∀y∈d,y<=d.foldr max 0)/\(d≠[]->d.foldr max 0∈d)
 |[]=>⟨fun y h=>(by cases h),fun h=>absurd rfl h⟩
 |x::d=>by
  obtain⟨h1,h2⟩:=aTj d
  refine⟨fun y hy=> ?_,fun _=> ?_⟩
  . rw [List.foldr_cons]
    rcases List.mem_cons.mp hy with rfl|hy
    . exact Nat.le_max_left _ _
    . exact Nat.le_trans (h1 y hy) (Nat.le_max_right _ _)
  . rw [List.foldr_cons]
    by_cases hd:d=[]
    . subst hd
      simp
    . rcases Nat.le_total x (d.foldr max 0) with h|h
      . rw [Nat.max_eq_right h];exact List.mem_cons_of_mem _ (h2 hd)
      . rw [Nat.max_eq_left h];exact List.mem_cons_self
def yQ (K:aA) (a:Adr):L2.Sp:=fW (fun ns=>match ns with|[k]=>some (.errors k)|_=>none) a
theorem fP:bA ["house","numbers","refusal","stream","greys","differences","grey","packed"] ["house","numbers"] (aV yZ):=by decide+kernel
theorem aPg (T:Txt P w K mg a):Ok P w K mg base 9 "call_errors" ["house","numbers"] (yQ K a):=by
 refine T.aQz.ok fP (fun vs H Q E h=> ?_) (fun f cdv A outer s H vs Q E hr h=> ?_)
 . obtain⟨ho,L,st,q,ns,c,rfl,_⟩:=h
   rfl
 . obtain⟨ho,L,st,q,ns,c,rfl,hq,hnl,hm,hh,ok,hno,k⟩:=h
   have hu:=fO hr
   refine⟨_,(aK (aZ (i:=2) fP.nd rfl (Or.inl rfl) (aP (cV T) hr (by decide) rfl (aJ (aX (pv 0) rfl) (aJ (bZ bD (pv 1) aN (fun _ _=>rfl)) aL)))) (aK (bR (bC dI (pv 2) aN (bF _)) (aM (aU (bU (aJ (pv 2) aL)))) bB) (aK (aZ (i:=3) fP.nd rfl (Or.inl rfl) (cY hu (aX (pv 0) rfl) (bZ bD (pv 1) aN (fun _ _=>rfl)) (fun _ _=>rfl))) (aK (aZ (i:=4) fP.nd rfl (Or.inl rfl) (aP (xZ T) hr (by decide) rfl (aJ (aX (pv 0) rfl) (aJ (pv 3) aL)))) (aK (aPv (i:=5) (own:=[("grey",6),("packed",7)]) rfl fP.nd rfl rfl (aXx rfl rfl (by rfl) (by rfl)) (bJl rfl T.bNf (aJ (pv 4) (aJ (aX (pv 3) rfl) aL))) (eZ (by rfl)) (fun _ _ _ _ _=>(aWs (K:=K) (n:=2) rfl rfl (gW (cM (i:=6) fP.nd rfl (Or.inl rfl)) (gW (cM (i:=7) fP.nd rfl (Or.inl rfl)) aAe)))) (fun _ _ _ _ _=>iQ) (fun _ _ _ _ _=>(bL aNk (by rfl) T.bIv (by rfl) (aJ (bG dN (pv 6) (pv 7)) aL)))) (aM (aU (bU (aJ (bG dN (bL bH (by rfl) T.dC PySem.boot_len (aJ (pv 5) aL)) (rB PySem.F.plainAttrs_list PySem.F.slot_list_count PySem.F.type_list_count bGg (pv 5) (aJ aN aL))) (aJ (bL (bOc rfl) (by rfl) T.bEw (by rfl) (aJ (pv 5) aL)) aL)))))))))),?_⟩;symm
   obtain⟨z,rfl,rfl⟩: ∃z,ns=[z]/\c= .errors z:=by
    match ns,hm with
    |[z],hm=>exact⟨z,rfl,(Option.some.inj hm).symm⟩
   obtain⟨dh,hho⟩:=hh.ob
   have hs:Vbfaae.step st (.errors z)=Vbfaae.onStream st z fun x=>(st,Vbfaae.ints [(((x.was.zip (Vbfaae.unpacked st x)).map fun p=>Vbfaae.gap p.1 p.2).filter fun z=>z !=0).length,((x.was.zip (Vbfaae.unpacked st x)).map fun p=>Vbfaae.gap p.1 p.2).foldr max 0]):=rfl
   obtain⟨kvs,hkv,hkr⟩:=hh.aZq z
   refine⟨_,rfl,_,_,_,_,_,rfl,hho,T.aW.cl,T.aW.no _ (by simp),aY,_,rfl,q,_,_,_,rfl,rfl,SqL.of hq,rfl,L.ds,kvs,z,rfl,hkv,fun H sK=> ?_⟩
   rw [hkr]
   replace k:=fun H' L' r (kp:Kept H H' ho L L' st _) hz (hn:H r=none\/Own ho L st r)=>k H' L' r (kp.pre sK) hz (hn.imp (fun z=>sK.free z) id)
   replace hh:=hh.same sK
   replace hq:=sK _ _ hq
   replace hho:=sK _ _ hho
   try replace hkv:=sK _ _ hkv
   refine⟨_,rfl,_,_,rfl,rfl,_,rfl,?_⟩
   by_cases hr:cH st z<0
   . rw [gM hr] at hs
     exact bI (by rw [aC];exact hr) ⟨_,rfl,(by show 1<=sizeLine;decide),fun r hrn=>step_same k hh (bJ.refl _) hs rfl hrn⟩
   . refine bK (by rw [aC];exact hr) ?_
     obtain⟨zn,x,rfl,hx,hf⟩:=dH hr
     rw [hf] at hs
     have hd:=hh.pN zn
     rw [hx] at hd
     have hX:=hh.srs.at_ _ _ hx
     obtain⟨hxm,hxk⟩:=ok.at_.mp hx
     have sok:=ok.sOk x hxm
     subst hxk
     refine⟨_,rfl,_,_,_,_,_,rfl,hho,T.aW.cl,T.aW.no _ (by simp),aY,_,rfl,q,_,_,_,rfl,rfl,SqL.of hq,rfl,L.ds,_,rfl,hd,?_⟩
     refine⟨_,rfl,_,_,_,_,_,rfl,hho,T.aW.cl,T.aW.no _ (by simp),aY,_,rfl,L.ds,L.gs,st,x,rfl,hh.srs,ok,hxm,fun H2 p s2 hp h2=> ?_⟩
     have hX2:=hX.same s2
     obtain⟨dx,ho1⟩:=hX2.ob
     have hul:=(M.zP ok hxm).1
     have hwl:=sok.len
     have hwh:x.w*x.h<=24*24:=Nat.mul_le_mul sok.w.2 sok.h.2
     have hpos:0<x.w*x.h:=Nat.mul_pos sok.w.1 sok.h.1
     refine⟨_,rfl,_,rfl,_,_,_,_,_,rfl,ho1,T.aQ.cl,T.aQ.no _ (by simp),mG,p,(L.gs x.key).pk,_,_,rfl,SqL.of h2,SqL.of hX2.pk,fun D hD=> ?_⟩
     refine bEu (K:=K) (xs:=ni (Vbfaae.unpacked st x)) (zs:=ni x.was) (ys:=ni (((Vbfaae.unpacked st x).zip x.was).map fun p=>Vbfaae.gap p.1 p.2)) (SqL.of h2) (SqL.of hX2.pk) hD (by simp;exact cF (by omega)) (by simp) (fun i xx zz yy hx1 hz1 hyy H' t Kt Al hs' ht hk=> ?_) (fun H' hs' h3=> ?_)
     . obtain⟨o1,ho1,rfl⟩:=nW hx1
       obtain⟨o2,ho2,rfl⟩:=nW hz1
       obtain⟨o3,ho3,rfl⟩:=nW hyy
       have e3:o3=Vbfaae.gap o1 o2:=by
        rw [List.getElem?_map] at ho3
        have:((Vbfaae.unpacked st x).zip x.was)[i]? =some (o1,o2):=by rw [List.getElem?_zip_eq_some];exact⟨ho1,ho2⟩
        rw [this] at ho3
        exact(Option.some.inj ho3).symm
       subst e3
       refine⟨t,_,rfl,SqT.of aO,rfl,_,_,rfl,_,_,rfl,rfl,rfl,?_⟩
       refine⟨_,rfl,_,rfl,_,_,rfl,rfl,_,rfl,?_⟩
       have:=hk _ (bM (.tup [.int o1,.int o2]) ht)
       have e4:(if(o1:Int)-o2<0 then-((o1:Int)-o2) else(o1:Int)-o2)=(Vbfaae.gap o1 o2:Nat):=by
        unfold Vbfaae.gap
        split<;>omega
       rw [e4]
       exact this
     . rw [aTk] at h3
       have hdl:((x.was.zip (Vbfaae.unpacked st x)).map fun p=>Vbfaae.gap p.1 p.2).length=x.w*x.h:=by simp [hwl,hul]
       generalize ((x.was.zip (Vbfaae.unpacked st x)).map fun p=>Vbfaae.gap p.1 p.2)=d at*
       have en:ni d=(d.map fun(n:Nat)=>(n:Int)).map V.int:=by simp [ni]
       have h3':=h3
       rw [en] at h3'
       refine⟨_,rfl,D,_,rfl,.inl (SqL.of h3),_,rfl,.inl ⟨rfl,_,SqL.of h3⟩,D,d.map fun(n:Nat)=>(n:Int),0,rfl,rfl,SqL.of h3',_,_,rfl,rfl,_,rfl,D,d.map fun(n:Nat)=>(n:Int),rfl,SqL.of h3',by simp;omega,fun mx hm1 hm2=> ?_⟩
       refine⟨(by show 2<=sizeLine;decide),fun r hrn=>step_same k hh (s2.trans hs') hs ?_ hrn⟩
       obtain⟨g1,g2⟩:=aTj d
       have g2:=g2 (fun e=>by rw [e] at hdl;simp at hdl;omega)
       have em:mx=((d.foldr max 0:Nat):Int):=by
        obtain⟨y,hy,rfl⟩:=List.mem_map.mp hm1
        have a1:=g1 y hy
        have a2:=hm2 _ (List.mem_map.mpr ⟨_,g2,rfl⟩)
        omega
       subst em
       have ec:=aYh d
       simp only [aG] at ec ⊢
       rw [ec]
       rfl
def iW (st:aB) (z n:Int):Int:=if Vbfaae.keyed n=false then-1 else if cH st z<0 then cH st z else if 6<=st.pictures.length/\(Vbfaae.pictureAt st n.toNat).isNone=true then-9 else 0
theorem aXv {st:aB} {z n:Int} (h:iW st z n<0):Vbfaae.step st (.keep z n)=(st,[iW st z n]):=by
 have e6:Vbfaae.PICTURES=6:=rfl
 unfold iW at h ⊢
 simp only [Vbfaae.step,e6]
 by_cases h1:Vbfaae.keyed n=false
 . rw [aD h1,aD h1]
 . rw [aF h1] at h ⊢
   rw [aF h1]
   by_cases h2:cH st z<0
   . rw [aD h2,gM h2]
   . rw [aF h2] at h ⊢
     obtain⟨zn,x,rfl,hx,hf⟩:=dH h2
     rw [hf]
     by_cases h3:6<=st.pictures.length/\(Vbfaae.pictureAt st n.toNat).isNone=true
     . rw [aD h3,aD h3]
     . rw [aF h3] at h;exact absurd h (by decide)
theorem aXu {st:aB} {z n:Int} (h: ¬iW st z n<0): ∃(zn nn:Nat) (x:Vbfaae.Stream),z=(zn:Int)/\n=(nn:Int)/\Vbfaae.streamAt st zn=some x/\Vbfaae.step st (.keep z n)=({st with pictures:=Vbfaae.putPicture ⟨nn,x.w,x.h,Vbfaae.unpacked st x⟩ st.pictures},[0]):=by
 have e6:Vbfaae.PICTURES=6:=rfl
 unfold iW at h
 by_cases h1:Vbfaae.keyed n=false
 . rw [aD h1] at h;exact absurd (by decide) h
 . rw [aF h1] at h
   have g1:=M.cP.mp (M.not_false h1)
   by_cases h2:cH st z<0
   . rw [aD h2] at h;exact absurd h2 h
   . rw [aF h2] at h
     obtain⟨zn,x,rfl,hx,hf⟩:=dH h2
     by_cases h3:6<=st.pictures.length/\(Vbfaae.pictureAt st n.toNat).isNone=true
     . rw [aD h3] at h;exact absurd (by decide) h
     . refine⟨zn,n.toNat,x,rfl,by omega,hx,?_⟩
       simp only [Vbfaae.step,e6]
       rw [aF h1,hf,aF h3]
inductive aJh (a:Adr) (vs:List V) (H:Hp) (Q:VK):Prop|mk (ho:Addr) (L:Lay) (st:aB) (z n:Int) (z0:vs=[.ref ho,.int z,.int n]) (z1:bQ a H ho L st) (z2: ∀H',bJ H H'->Q (.int (iW st z n)) H') def aMk (K:aA) (a:Adr):L2.Sp:=fun vs H Q _=>aJh a vs H Q
theorem vK:bA ["house","key","picture_key","refusal"] ["house","key","picture_key"] (aV wD):=by decide+kernel
theorem aLp (T:Txt P w K mg a):Ok P w K mg base 5 "keep_refusal" ["house","key","picture_key"] (aMk K a):=by
 refine T.aNz.ok vK (fun vs H Q E h=> ?_) (fun f cdv A outer s H vs Q E hr h=> ?_)
 . obtain⟨ho,L,st,z,n,rfl,_⟩:=h
   rfl
 . obtain⟨ho,L,st,z,n,rfl,hh,k⟩:=h
   refine⟨_,(aK (bR (eU (cT (aP (tG T) hr (by decide) rfl (aJ (pv 2) aL)))) (aM (aU (cA rfl T.cO))) bB) (aK (aZ (i:=3) vK.nd rfl (Or.inl rfl) (aP (cV T) hr (by decide) rfl (aJ (aX (pv 0) rfl) (aJ (pv 1) aL)))) (aK (bR (bC dI (pv 3) aN (bF _)) (aM (aU (pv 3))) bB) (aK (bR (cT (aP (uJ T) hr (by decide) rfl (aJ (aX (pv 0) rfl) (aJ (pv 2) (aJ (cA rfl T.vB) aL))))) (aM (aU (cA rfl T.aCq))) bB) (aM (aU aN)))))),?_⟩;symm
   obtain⟨dh,hho⟩:=hh.ob
   unfold iW at k
   refine⟨_,rfl,n,rfl,_,rfl,?_⟩
   cases hn:Vbfaae.keyed n with
   |false=>rw [hn] at k;exact bI rfl (k H (bJ.refl _))
   |true=>
    rw [hn] at k
    refine bK (by decide) ?_
    have hn1:=M.cP.mp hn
    obtain⟨kvs,hkv,hkr⟩:=hh.aZq z
    refine⟨_,rfl,_,_,_,_,_,rfl,hho,T.aW.cl,T.aW.no _ (by simp),aY,_,rfl,L.ds,kvs,z,rfl,hkv,fun H sK=> ?_⟩
    rw [hkr]
    replace k:=k H sK
    rw [aF (by decide)] at k
    replace hh:=hh.same sK
    replace hho:=sK _ _ hho
    refine⟨_,rfl,_,_,rfl,rfl,_,rfl,?_⟩
    by_cases hr:cH st z<0
    . rw [aD hr] at k
      exact bI (by rw [aC];exact hr) ⟨_,rfl,k⟩
    . rw [aF hr] at k
      refine bK (by rw [aC];exact hr) ?_
      obtain⟨nn,rfl⟩: ∃m:Nat,n=(m:Int):=⟨n.toNat,by omega⟩
      rw [aH] at k
      obtain⟨kvs,hkv,hf⟩:=hh.bNb nn
      refine⟨_,rfl,_,_,_,_,_,rfl,hho,T.aW.cl,T.aW.no _ (by simp),bW,_,rfl,L.dp,kvs,_,_,rfl,hkv,_,rfl,?_⟩
      rw [hf]
      by_cases h6:6<=st.pictures.length/\(Vbfaae.pictureAt st nn).isNone=true
      . rw [aD h6] at k
        exact bI (decide_eq_true h6) k
      . rw [aF h6] at k
        exact bK (by rw [aC];exact h6) k
def aGd (K:aA) (a:Adr):L2.Sp:=fW (fun ns=>match ns with|[k,n]=>some (.keep k n)|_=>none) a
theorem uQ:bA ["house","numbers","refusal","stream"] ["house","numbers"] (aV aGt):=by decide+kernel
theorem aWf (T:Txt P w K mg a):Ok P w K mg base 9 "call_keep" ["house","numbers"] (aGd K a):=by
 refine T.aYo.ok uQ (fun vs H Q E h=> ?_) (fun f cdv A outer s H vs Q E hr h=> ?_)
 . obtain⟨ho,L,st,q,ns,c,rfl,_⟩:=h
   rfl
 . obtain⟨ho,L,st,q,ns,c,rfl,hq,hnl,hm,hh,ok,hno,k⟩:=h
   have hu:=fO hr
   refine⟨_,(aK (aZ (i:=2) uQ.nd rfl (Or.inl rfl) (aP (aLp T) hr (by decide) rfl (aJ (pv 0) (aJ (bZ bD (pv 1) aN (fun _ _=>rfl)) (aJ (bZ bD (pv 1) aN (fun _ _=>rfl)) aL))))) (aK (bR (bC dI (pv 2) aN (bF _)) (aM (aU (bU (aJ (pv 2) aL)))) bB) (aK (aZ (i:=3) uQ.nd rfl (Or.inl rfl) (cY hu (aX (pv 0) rfl) (bZ bD (pv 1) aN (fun _ _=>rfl)) (fun _ _=>rfl))) (aK (aNf hu (aX (pv 0) rfl) (bZ bD (pv 1) aN (fun _ _=>rfl)) (gU T.bV (jK T) hr (by decide) rfl (aJ (aX (pv 3) rfl) (aJ (aX (pv 3) rfl) (aJ (aP (xZ T) hr (by decide) rfl (aJ (aX (pv 0) rfl) (aJ (pv 3) aL))) aL)))) rfl) (aM (aU (bU (aJ aN aL)))))))),?_⟩;symm
   obtain⟨z,n,rfl,rfl⟩: ∃z y,ns=[z,y]/\c= .keep z y:=by
    match ns,hm with
    |[z,y],hm=>exact⟨z,y,rfl,(Option.some.inj hm).symm⟩
   obtain⟨dh,hho⟩:=hh.ob
   refine⟨_,rfl,_,rfl,q,_,_,_,rfl,rfl,SqL.of hq,rfl,_,rfl,q,_,_,_,rfl,rfl,SqL.of hq,rfl,ho,L,st,z,n,rfl,hh,fun H sK=> ?_⟩
   replace k:=fun H' L' r (kp:Kept H H' ho L L' st _) hz (hn:H r=none\/Own ho L st r)=>k H' L' r (kp.pre sK) hz (hn.imp (fun z=>sK.free z) id)
   replace hh:=hh.same sK
   replace hq:=sK _ _ hq
   replace hho:=sK _ _ hho
   try replace hkv:=sK _ _ hkv
   refine⟨_,rfl,_,_,rfl,rfl,_,rfl,?_⟩
   by_cases hr:iW st z n<0
   . exact bI (by rw [aC];exact hr) ⟨_,rfl,(by show 1<=sizeLine;decide),fun r hrn=>step_same k hh (bJ.refl _) (aXv hr) rfl hrn⟩
   . refine bK (by rw [aC];exact hr) ?_
     obtain⟨zn,nn,x,rfl,rfl,hx,hs⟩:=aXu hr
     have hd:=hh.pN zn
     rw [hx] at hd
     have hX:=hh.srs.at_ _ _ hx
     obtain⟨dx,ho1⟩:=hX.ob
     obtain⟨hxm,hxk⟩:=ok.at_.mp hx
     subst hxk
     refine⟨_,rfl,_,_,_,_,_,rfl,hho,T.aW.cl,T.aW.no _ (by simp),aY,_,rfl,q,_,_,_,rfl,rfl,SqL.of hq,rfl,L.ds,_,rfl,hd,?_⟩
     refine⟨_,rfl,_,_,_,_,_,rfl,ho1,T.aQ.cl,T.aQ.no _ (by simp),cD,_,rfl,_,_,_,_,_,rfl,ho1,T.aQ.cl,T.aQ.no _ (by simp),fG,_,rfl,_,_,_,_,_,rfl,hho,T.aW.cl,T.aW.no _ (by simp),aY,_,rfl,L.ds,L.gs,st,x,rfl,hh.srs,ok,hxm,fun H2 gl S2 hgl h2=> ?_⟩
     refine fun pa dn hpa hdn hne=> ?_
     refine⟨pa,dn,_,_,_,rfl,aO,fun H3 h3 kp=>⟨rfl,?_⟩⟩
     have s3:=bJ.made hpa hdn kp
     have S3:=S2.trans s3
     have hh3:=hh.same S3
     obtain⟨dh3,hho3⟩:=hh3.ob
     obtain⟨kvs,hkv,hkl,hkval⟩:=hh.pd
     have hkv3:=S3 _ _ hkv
     have hq3:=S3 _ _ hq
     have np:=ok.np
     refine⟨_,rfl,_,_,_,_,_,rfl,hho3,T.aW.cl,T.aW.no _ (by simp),bW,_,rfl,q,_,_,_,rfl,rfl,SqL.of hq3,rfl,L.dp,_,rfl,aUt.k (k:=Sum.inl (nn:Int)) hkv3 (Nat.lt_of_lt_of_le (by omega:kvs.length<1000) (by decide)),?_⟩
     refine⟨(by show 1<=sizeLine;decide),fun r hrn=> ?_⟩
     rw [hs] at k
     have hpa0:=S2.free hpa
     have npd:pa≠L.dp:=fun e=>by rw [e,hkv] at hpa0;cases hpa0
     have ngd:gl≠L.dp:=fun e=>by rw [e,hkv] at hgl;cases hgl
     have S4:=bM (.lst [V.int 0]) hrn
     have fr: ∀b ob,H b=some ob->b≠L.dp->upd (upd H3 L.dp (.dK (putK kvs (Sum.inl (nn:Int)) (.ref pa)))) r (.lst [V.int 0]) b=some ob:=fun b ob hb hn=>S4 _ _ (by rw [aR hn];exact S3 _ _ hb)
     refine k _ {L with gp:=fun j=>if j=nn then⟨pa,gl⟩ else L.gp j} r (aJz (p:=⟨nn,x.w,x.h,Vbfaae.unpacked st x⟩) ok fr hpa0 hgl) ?_ (.inl (S3.free (cG hrn))) (by rw [aO];rfl)
     refine hh.aPw ok (p:=⟨nn,x.w,x.h,Vbfaae.unpacked st x⟩) hkv fr (S4 _ _ aO) hpa0 hgl ⟨⟨dn,S4 _ _ (by rw [aR npd];exact h3)⟩,S4 _ _ ?_⟩
     rw [aR ngd,s3 _ _ h2]
abbrev uZ (qs:List (Addr×Addr)):List Addr:=qs.flatMap fun q=>[q.1,q.2]
structure lB (a:Adr) (H1:Hp) (D:Addr) (H':Hp) (qs:List (Addr×Addr)) (ps:List (Vbfaae.Bytes×Nat×Bool)):Prop where
 sm:bJ H1 H'
 lst:H' D=some (.lst (qs.map fun q=>V.ref q.1))
 len:qs.length=ps.length
 new: ∀b∈uZ qs,H1 b=none/\b≠D
 nd:(uZ qs).Nodup
 at_: ∀(j:Nat) (q:Addr×Addr) (p:Vbfaae.Bytes×Nat×Bool),qs[j]? =some q->ps[j]? =some p->sJ a H' q.1 q.2 p
theorem lB.start {a:Adr} {H1:Hp} {D:Addr} (hD:H1 D=none):lB a H1 D (upd H1 D (.lst [])) [] []:=
 ⟨bY hD,aO,rfl,fun b h=>(by cases h),List.nodup_nil,fun j q p h=>by simp at h⟩
theorem lB.there {a:Adr} {H1:Hp} {D:Addr} {H':Hp} {qs:List (Addr×Addr)} {ps:List (Vbfaae.Bytes×Nat×Bool)} (h:lB a H1 D H' qs ps): ∀b∈uZ qs,∃ob,H' b=some ob:=fun b hb=>by
 obtain⟨q,hq,hb⟩:=List.mem_flatMap.mp hb
 obtain⟨i,hi⟩:=List.getElem?_of_mem hq
 have hil:=(List.getElem?_eq_some_iff.mp hi).1
 obtain⟨p,hp⟩: ∃p,ps[i]? =some p:=⟨_,List.getElem?_eq_getElem (by rw [<-h.len];exact hil)⟩
 have hk:=h.at_ i q p hi hp
 simp at hb
 rcases hb with rfl|rfl
 . obtain⟨d,f,e,_⟩:=hk.ob;exact⟨_,e⟩
 . exact⟨_,hk.oc⟩
theorem lB.same {a:Adr} {H1:Hp} {D:Addr} {H' H2:Hp} {qs:List (Addr×Addr)} {ps:List (Vbfaae.Bytes×Nat×Bool)} (h:lB a H1 D H' qs ps) (s:bJ H' H2):lB a H1 D H2 qs ps:=
 ⟨h.sm.trans s,s _ _ h.lst,h.len,h.new,h.nd,fun j q p e1 e2=>(h.at_ j q p e1 e2).same s⟩
theorem lB.snoc {a:Adr} {H1:Hp} {D:Addr} {H' H2:Hp} {qs:List (Addr×Addr)} {ps:List (Vbfaae.Bytes×Nat×Bool)} {q o:Addr} {p:Vbfaae.Bytes×Nat×Bool} (h:lB a H1 D H' qs ps) (hD:H1 D=none) (s:bJ H' H2) (hq:H' q=none) (ho:H' o=none) (hp:sJ a H2 q o p):
 lB a H1 D (upd H2 D (.lst ((qs.map fun q=>V.ref q.1)++[V.ref q]))) (qs++[(q,o)]) (ps++[p]):=by
 have nqD:q≠D:=fun e=>by rw [e,h.lst] at hq;cases hq
 have noD:o≠D:=fun e=>by rw [e,h.lst] at ho;cases ho
 have nqo:q≠o:=fun e=>by
  obtain⟨d,f,e1,_⟩:=hp.ob
  have e2:=hp.oc
  rw [<-e,e1] at e2
  cases e2
 have nin: ∀b,H' b=none->b∉uZ qs:=fun b hb hm=>by
  obtain⟨ob,e⟩:=h.there b hm
  rw [hb] at e;cases e
 have ef:uZ (qs++[(q,o)])=uZ qs++[q,o]:=by simp [uZ]
 refine⟨gY hD (h.sm.trans s),by rw [aO];simp,by simp [h.len],fun b hb=> ?_,?_,fun j q' p' e1 e2=> ?_⟩
 . rw [ef] at hb
   rcases List.mem_append.mp hb with hb|hb
   . exact h.new b hb
   . simp at hb
     rcases hb with rfl|rfl
     . exact⟨h.sm.free hq,nqD⟩
     . exact⟨h.sm.free ho,noD⟩
 . rw [ef]
   refine List.nodup_append.mpr ⟨h.nd,by simp [nqo],fun x hx y hy e=> ?_⟩
   subst e
   simp at hy
   rcases hy with rfl|rfl
   . exact nin _ hq hx
   . exact nin _ ho hx
 . by_cases hj:j<qs.length
   . rw [List.getElem?_append_left hj] at e1
     rw [List.getElem?_append_left (by rw [<-h.len];exact hj)] at e2
     have m:=iT (List.mem_of_getElem? e1)
     obtain⟨⟨d,f,g1,g2⟩,g3⟩:=(h.at_ j q' p' e1 e2).same s
     exact⟨⟨d,f,by rw [aR (h.new _ m.1).2];exact g1,g2⟩,by rw [aR (h.new _ m.2).2];exact g3⟩
   . have hl:=h.len
     have hj2:=(List.getElem?_eq_some_iff.mp e1).1
     simp at hj2
     have ej:j=qs.length:=by omega
     subst ej
     rw [hl] at e2
     simp at e1 e2
     subst e1 e2
     obtain⟨⟨d,f,g1,g2⟩,g3⟩:=hp
     exact⟨⟨d,f,by rw [aR nqD];exact g1,g2⟩,by rw [aR noD];exact g3⟩
inductive aMd (a:Adr) (vs:List V) (H:Hp) (Q:VK):Prop|mk (g:GS) (x:Vbfaae.Stream) (z0:vs=[.ref g.s]) (z1:cZ a H g x) (z2:x.packets.length<=1000) (z3: ∀(H':Hp) (g':GS),bJ H H'->cZ a H' g' x->(adS g').Nodup->(∀b∈adS g',H b=none)->Q (.ref g'.s) H') def aQh (K:aA) (a:Adr):L2.Sp:=fun vs H Q _=>aMd a vs H Q
theorem iY:bA ["stream","picture","twin","packet"] ["stream"] (aV zJ):=by decide+kernel
theorem aPo (T:Txt P w K mg a):Ok P w K mg base 4 "copy_stream" ["stream"] (aQh K a):=by
 refine T.aRg.ok iY (fun vs H Q E h=> ?_) (fun f cdv A outer s H vs Q E hr h=> ?_)
 . obtain⟨g,x,rfl,_⟩:=h
   rfl
 . obtain⟨g,x,rfl,hx,hf,k⟩:=h
   refine⟨_,(aK (aZ (i:=1) iY.nd rfl (Or.inl rfl) (gU T.bV (jK T) hr (by decide) rfl (aJ (aX (pv 0) rfl) (aJ (aX (pv 0) rfl) (aJ (aX (pv 0) rfl) aL))))) (aK (aZ (i:=2) iY.nd rfl (Or.inl rfl) (gU T.aQ (jZ T) hr (by decide) rfl (aJ (aX (pv 0) rfl) (aJ (pv 1) (aJ (aX (pv 0) rfl) (aJ (aX (pv 0) rfl) (aJ (aX (pv 0) rfl) aL))))))) (aK (fC (pv 2) (tK (own:=[("packet",3)]) rfl iY.nd (lJ (aX (pv 0) rfl)) (eZ (by rfl)) (fun _ _ _ _ _=>(cM (i:=3) iY.nd rfl (Or.inl rfl))) (fun _ _ _ _ _=>iQ) (fun _ _ _ _ _=>(aP (pX T) hr (by decide) rfl (aJ (pv 3) aL)))) rfl) (aM (aU (pv 2)))))),?_⟩;symm
   obtain⟨dx,ho⟩:=hx.ob
   refine⟨_,rfl,_,_,_,_,_,rfl,ho,T.aQ.cl,T.aQ.no _ (by simp),cD,_,rfl,_,_,_,_,_,rfl,ho,T.aQ.cl,T.aQ.no _ (by simp),fG,_,rfl,_,_,_,_,_,rfl,ho,T.aQ.cl,T.aQ.no _ (by simp),mG,fun pa dp hpa hdp hne=> ?_⟩
   refine⟨pa,dp,_,_,_,rfl,aO,fun H1 h1 kp1=>⟨rfl,?_⟩⟩
   have s1:=bJ.made hpa hdp kp1
   have hx1:=hx.same s1
   have hP:xG a H1 pa g.pk ⟨x.key,x.w,x.h,x.was⟩:=⟨⟨dp,h1⟩,hx1.pk⟩
   obtain⟨dx1,ho1⟩:=hx1.ob
   refine⟨_,rfl,_,_,_,_,_,rfl,ho1,T.aQ.cl,T.aQ.no _ (by simp),jT,_,rfl,_,rfl,_,_,_,_,_,rfl,ho1,T.aQ.cl,T.aQ.no _ (by simp),dG,_,rfl,_,_,_,_,_,rfl,ho1,T.aQ.cl,T.aQ.no _ (by simp),dY,_,rfl,_,_,_,_,_,rfl,ho1,T.aQ.cl,T.aQ.no _ (by simp),fV,fun o dn hon hdn hne2=> ?_⟩
   have hon':upd H1 dn (.own o) o=none:=by rw [aR hne2.symm];exact hon
   refine⟨o,dn,_,pa,g.pk,_,_,_,_,rfl,aO,hP.same ((bM _ hdn).trans (bM _ hon')),fun H2 pk pl h2 hpk hpl npk npl nkl kp=>⟨rfl,?_⟩⟩
   have s2:=bJ.made hon hdn kp
   have S2:=s1.trans s2
   have hx2:=hx.same S2
   obtain⟨dx2,ho2⟩:=hx2.ob
   have npk0:H1 pk=none:=cG (cG npk)
   refine⟨_,rfl,_,_,_,_,_,rfl,ho2,T.aQ.cl,T.aQ.no _ (by simp),bN,g.pl,rfl,⟨_,SqL.of hx2.pl⟩,fun D hD=> ?_⟩
   refine aVz (K:=K) (xs:=g.qs.map fun q=>V.ref q.1) (fun i H'=> ∃qs,lB a H2 D H' qs (x.packets.take i)) ⟨[],lB.start hD⟩ (fun i H' _ hI=>let⟨qs,c⟩:=hI;SqL.of (c.sm _ _ hx2.pl)) (fun i v H' hv hI=> ?_) (fun H' hI=> ?_)
   . obtain⟨qs,c⟩:=hI
     obtain⟨q,hq,rfl⟩:=uH hv
     have hil:=(List.getElem?_eq_some_iff.mp hq).1
     obtain⟨p,hp⟩: ∃p,x.packets[i]? =some p:=⟨_,List.getElem?_eq_getElem (by rw [<-hx.len];exact hil)⟩
     refine⟨rfl,?_⟩
     refine⟨_,rfl,q.1,q.2,p,rfl,(hx2.ps i q p hq hp).same c.sm,fun H3 q3 o3 s3 nq no hp3=> ?_⟩
     have cl:=c.len
     rw [List.length_take] at cl
     refine⟨_,s3 _ _ c.lst,Nat.lt_of_lt_of_le (by rw [aG];omega:_<1001) (by decide),qs++[(q3,o3)],?_⟩
     rw [List.take_add_one,hp]
     exact c.snoc hD s3 nq no hp3
   . obtain⟨qs,c⟩:=hI
     rw [aG,hx.len,List.take_length] at c
     have nok:o≠pk:=fun e=>by rw [e,hpk] at h2;cases h2
     have noD:o≠D:=fun e=>by rw [e,hD] at h2;cases h2
     have npD:pk≠D:=fun e=>by rw [e,hD] at hpk;cases hpk
     refine⟨_,rfl,put T.aQ (c.sm _ _ h2) (by simp) rD ?_⟩
     have nq: ∀b ob,H2 b=some ob->b∉uZ qs:=fun b ob hb hm=>by rw [(c.new b hm).1] at hb;cases hb
     have hono:H o=none:=s1.free hon
     refine⟨_,rfl,k _ ⟨o,pk,D,qs⟩ (gY hono (S2.trans c.sm)) ⟨⟨dn,aO⟩,?_,?_,c.len,fun i q p hq hp=> ?_⟩ ?_ (fun b hb=> ?_)⟩
     . show upd _ _ _ pk=_
       rw [aR nok.symm];exact c.sm _ _ hpk
     . show upd _ _ _ D=_
       rw [aR noD.symm];exact c.lst
     . have m:=iT (List.mem_of_getElem? hq)
       obtain⟨⟨d,f,g1,g2⟩,g3⟩:=c.at_ i q p hq hp
       have n1:q.1≠o:=fun e=>nq _ _ h2 (by rw [<-e];exact m.1)
       have n2:q.2≠o:=fun e=>nq _ _ h2 (by rw [<-e];exact m.2)
       exact⟨⟨d,f,by rw [aR n1];exact g1,g2⟩,by rw [aR n2];exact g3⟩
     . unfold adS
       refine List.nodup_cons.mpr ⟨?_,List.nodup_cons.mpr ⟨?_,List.nodup_cons.mpr ⟨fun hm=>(c.new _ hm).2 rfl,c.nd⟩⟩⟩
       . intro hm
         rcases List.mem_cons.mp hm with e|hm
         . exact nok e
         . rcases List.mem_cons.mp hm with e|hm
           . exact noD e
           . exact nq _ _ h2 hm
       . intro hm
         rcases List.mem_cons.mp hm with e|hm
         . exact npD e
         . exact nq _ _ hpk hm
     . unfold adS at hb
       rcases List.mem_cons.mp hb with rfl|hb
       . exact hono
       . rcases List.mem_cons.mp hb with rfl|hb
         . exact s1.free npk0
         . rcases List.mem_cons.mp hb with rfl|hb
           . exact S2.free hD
           . exact S2.free (c.new b hb).1
def iV (st:aB) (z n:Int):Int:=if Vbfaae.keyed n=false then-1 else if cH st z<0 then cH st z else if 6<=st.streams.length/\(Vbfaae.streamAt st n.toNat).isNone=true then-9 else
 match Vbfaae.streamAt st z.toNat with
 |none=>0
 |some x=>if x.ref≠0/\Vbfaae.reaches st n.toNat 7 x.ref=true then-7 else 0
theorem aXt {st:aB} {z n:Int} (h:iV st z n<0):Vbfaae.step st (.copy z n)=(st,[iV st z n]):=by
 have e6:Vbfaae.STREAMS=6:=rfl
 unfold iV at h ⊢
 simp only [Vbfaae.step,e6]
 by_cases h1:Vbfaae.keyed n=false
 . rw [aD h1,aD h1]
 . rw [aF h1] at h ⊢
   rw [aF h1]
   by_cases h2:cH st z<0
   . rw [aD h2,gM h2]
   . rw [aF h2] at h ⊢
     obtain⟨zn,x,rfl,hx,hf⟩:=dH h2
     rw [hf]
     by_cases h3:6<=st.streams.length/\(Vbfaae.streamAt st n.toNat).isNone=true
     . rw [aD h3,aD h3]
     . rw [aF h3] at h ⊢
       rw [aF h3]
       rw [aH,hx] at h ⊢
       dsimp only at h ⊢
       by_cases h4:x.ref≠0/\Vbfaae.reaches st n.toNat 7 x.ref=true
       . rw [aD h4,aD h4]
       . rw [aF h4] at h;exact absurd h (by decide)
theorem aXs {st:aB} {z n:Int} (h: ¬iV st z n<0): ∃(zn nn:Nat) (x:Vbfaae.Stream),z=(zn:Int)/\n=(nn:Int)/\Vbfaae.streamAt st zn=some x/\ ¬(6<=st.streams.length/\(Vbfaae.streamAt st nn).isNone=true)/\Vbfaae.step st (.copy z n)=(Vbfaae.withStream {st with next:=st.next} {x with key:=nn},[0]):=by
 have e6:Vbfaae.STREAMS=6:=rfl
 unfold iV at h
 by_cases h1:Vbfaae.keyed n=false
 . rw [aD h1] at h;exact absurd (by decide) h
 . rw [aF h1] at h
   have g1:=M.cP.mp (M.not_false h1)
   by_cases h2:cH st z<0
   . rw [aD h2] at h;exact absurd h2 h
   . rw [aF h2] at h
     obtain⟨zn,x,rfl,hx,hf⟩:=dH h2
     by_cases h3:6<=st.streams.length/\(Vbfaae.streamAt st n.toNat).isNone=true
     . rw [aD h3] at h;exact absurd (by decide) h
     . rw [aF h3,aH,hx] at h
       dsimp only at h
       by_cases h4:x.ref≠0/\Vbfaae.reaches st n.toNat 7 x.ref=true
       . rw [aD h4] at h;exact absurd (by decide) h
       . refine⟨zn,n.toNat,x,rfl,by omega,hx,h3,?_⟩
         simp only [Vbfaae.step,e6]
         rw [aF h1,hf,aF h3,aF h4]
inductive aJb (a:Adr) (vs:List V) (H:Hp) (Q:VK):Prop|mk (ho:Addr) (L:Lay) (st:aB) (z n:Int) (z0:vs=[.ref ho,.int z,.int n]) (z1:bQ a H ho L st) (z2:M.bO st) (z3: ∀H',bJ H H'->Q (.int (iV st z n)) H') def aMc (K:aA) (a:Adr):L2.Sp:=fun vs H Q _=>aJb a vs H Q
theorem vH:bA ["house","key","new","refusal"] ["house","key","new"] (aV vX):=by decide+kernel
theorem aLk (T:Txt P w K mg a):Ok P w K mg base 5 "copy_refusal" ["house","key","new"] (aMc K a):=by
 refine T.aNt.ok vH (fun vs H Q E h=> ?_) (fun f cdv A outer s H vs Q E hr h=> ?_)
 . obtain⟨ho,L,st,z,n,rfl,_⟩:=h
   rfl
 . obtain⟨ho,L,st,z,n,rfl,hh,ok,k⟩:=h
   have hu:=fO hr
   refine⟨_,(aK (bR (eU (cT (aP (tG T) hr (by decide) rfl (aJ (pv 2) aL)))) (aM (aU (cA rfl T.cO))) bB) (aK (aZ (i:=3) vH.nd rfl (Or.inl rfl) (aP (cV T) hr (by decide) rfl (aJ (aX (pv 0) rfl) (aJ (pv 1) aL)))) (aK (bR (bC dI (pv 3) aN (bF _)) (aM (aU (pv 3))) bB) (aK (bR (cT (aP (uJ T) hr (by decide) rfl (aJ (aX (pv 0) rfl) (aJ (pv 2) (aJ (cA rfl T.xQ) aL))))) (aM (aU (cA rfl T.aCq))) bB) (aK (bR (cT (aP (aKf T) hr (by decide) rfl (aJ (pv 0) (aJ (aX (cY hu (aX (pv 0) rfl) (pv 1) (fun _ _=>rfl)) rfl) (aJ (pv 2) aL))))) (aM (aU (cA rfl T.bIf))) bB) (aM (aU aN))))))),?_⟩;symm
   obtain⟨dh,hho⟩:=hh.ob
   unfold iV at k
   refine⟨_,rfl,n,rfl,_,rfl,?_⟩
   cases hn:Vbfaae.keyed n with
   |false=>rw [hn] at k;exact bI rfl (k H (bJ.refl _))
   |true=>
    rw [hn] at k
    refine bK (by decide) ?_
    have hn1:=M.cP.mp hn
    obtain⟨kvs,hkv,hkr⟩:=hh.aZq z
    refine⟨_,rfl,_,_,_,_,_,rfl,hho,T.aW.cl,T.aW.no _ (by simp),aY,_,rfl,L.ds,kvs,z,rfl,hkv,fun H sK=> ?_⟩
    rw [hkr]
    replace k:=k H sK
    rw [aF (by decide)] at k
    replace hh:=hh.same sK
    replace hho:=sK _ _ hho
    refine⟨_,rfl,_,_,rfl,rfl,_,rfl,?_⟩
    by_cases hr:cH st z<0
    . rw [aD hr] at k
      exact bI (by rw [aC];exact hr) ⟨_,rfl,k⟩
    . rw [aF hr] at k
      refine bK (by rw [aC];exact hr) ?_
      obtain⟨nn,rfl⟩: ∃m:Nat,n=(m:Int):=⟨n.toNat,by omega⟩
      rw [aH] at k
      obtain⟨kvs,hkv,hf⟩:=hh.full nn
      refine⟨_,rfl,_,_,_,_,_,rfl,hho,T.aW.cl,T.aW.no _ (by simp),aY,_,rfl,L.ds,kvs,_,_,rfl,hkv,_,rfl,?_⟩
      rw [hf]
      by_cases h6:6<=st.streams.length/\(Vbfaae.streamAt st nn).isNone=true
      . rw [aD h6] at k
        exact bI (decide_eq_true h6) k
      . rw [aF h6] at k
        refine bK (by rw [aC];exact h6) ?_
        obtain⟨zn,x,rfl,hx,hf⟩:=dH hr
        rw [aH,hx] at k
        dsimp only at k
        have hd:=hh.pN zn
        rw [hx] at hd
        have hX:=hh.srs.at_ _ _ hx
        obtain⟨dx,ho1⟩:=hX.ob
        obtain⟨hxm,hxk⟩:=ok.at_.mp hx
        have g1:1<=nn:=by omega
        have hiff:(decide (x.ref≠0/\Vbfaae.reaches st nn 7 x.ref=true))=true↔M.mW st nn x.ref:=by
         rw [aC]
         by_cases h0:x.ref=0
         . constructor
           . exact fun h=>absurd h0 h.1
           . intro h
             rw [h0] at h
             cases h with
             |here=>omega
             |step hx' _ _=>
              obtain⟨hm,hk⟩:=ok.at_.mp hx'
              have:=(ok.sOk _ hm).key
              omega
         . obtain⟨y,hy⟩:=ok.there x hxm h0
           rw [ok.reaches hy]
           exact⟨fun h=>h.2,fun h=>⟨h0,h⟩⟩
        refine⟨_,rfl,_,rfl,_,_,_,_,_,rfl,hho,T.aW.cl,T.aW.no _ (by simp),aY,_,rfl,L.ds,_,rfl,hd,_,_,_,_,_,rfl,ho1,T.aQ.cl,T.aQ.no _ (by simp),dY,_,rfl,ho,L,st,x.ref,nn,_,rfl,hh,ok,g1,hiff,?_⟩
        refine⟨_,rfl,?_⟩
        by_cases h4:x.ref≠0/\Vbfaae.reaches st nn 7 x.ref=true
        . rw [aD h4] at k
          exact bI (decide_eq_true h4) k
        . rw [aF h4] at k
          exact bK (by rw [aC];exact h4) k
def aFz (K:aA) (a:Adr):L2.Sp:=fW (fun ns=>match ns with|[k,n]=>some (.copy k n)|_=>none) a
theorem aFm:bA ["house","numbers","refusal"] ["house","numbers"] (aV aGp):=by decide+kernel
theorem aWb (T:Txt P w K mg a):Ok P w K mg base 6 "call_copy" ["house","numbers"] (aFz K a):=by
 refine T.aYk.ok aFm (fun vs H Q E h=> ?_) (fun f cdv A outer s H vs Q E hr h=> ?_)
 . obtain⟨ho,L,st,q,ns,c,rfl,_⟩:=h
   rfl
 . obtain⟨ho,L,st,q,ns,c,rfl,hq,hnl,hm,hh,ok,hno,k⟩:=h
   have hu:=fO hr
   refine⟨_,(aK (aZ (i:=2) aFm.nd rfl (Or.inl rfl) (aP (aLk T) hr (by decide) rfl (aJ (pv 0) (aJ (bZ bD (pv 1) aN (fun _ _=>rfl)) (aJ (bZ bD (pv 1) aN (fun _ _=>rfl)) aL))))) (aK (bR (bC dI (pv 2) aN (bF _)) (aM (aU (bU (aJ (pv 2) aL)))) bB) (aK (aNf hu (aX (pv 0) rfl) (bZ bD (pv 1) aN (fun _ _=>rfl)) (aP (aPo T) hr (by decide) rfl (aJ (cY hu (aX (pv 0) rfl) (bZ bD (pv 1) aN (fun _ _=>rfl)) (fun _ _=>rfl)) aL)) rfl) (aM (aU (bU (aJ aN aL))))))),?_⟩;symm
   obtain⟨z,n,rfl,rfl⟩: ∃z y,ns=[z,y]/\c= .copy z y:=by
    match ns,hm with
    |[z,y],hm=>exact⟨z,y,rfl,(Option.some.inj hm).symm⟩
   obtain⟨dh,hho⟩:=hh.ob
   refine⟨_,rfl,_,rfl,q,_,_,_,rfl,rfl,SqL.of hq,rfl,_,rfl,q,_,_,_,rfl,rfl,SqL.of hq,rfl,ho,L,st,z,n,rfl,hh,ok,fun H sK=> ?_⟩
   replace k:=fun H' L' r (kp:Kept H H' ho L L' st _) hz (hn:H r=none\/Own ho L st r)=>k H' L' r (kp.pre sK) hz (hn.imp (fun z=>sK.free z) id)
   replace hh:=hh.same sK
   replace hq:=sK _ _ hq
   replace hho:=sK _ _ hho
   try replace hkv:=sK _ _ hkv
   refine⟨_,rfl,_,_,rfl,rfl,_,rfl,?_⟩
   by_cases hr:iV st z n<0
   . exact bI (by rw [aC];exact hr) ⟨_,rfl,(by show 1<=sizeLine;decide),fun r hrn=>step_same k hh (bJ.refl _) (aXt hr) rfl hrn⟩
   . refine bK (by rw [aC];exact hr) ?_
     obtain⟨zn,nn,x,rfl,rfl,hx,hroom,hs⟩:=aXs hr
     have hd:=hh.pN zn
     rw [hx] at hd
     have hX:=hh.srs.at_ _ _ hx
     obtain⟨hxm,hxk⟩:=ok.at_.mp hx
     have few:=(ok.sOk x hxm).few
     refine⟨_,rfl,_,_,_,_,_,rfl,hho,T.aW.cl,T.aW.no _ (by simp),aY,_,rfl,q,_,_,_,rfl,rfl,SqL.of hq,rfl,L.ds,_,rfl,hd,L.gs zn,x,rfl,hX,by omega,fun H2 g' S2 hS nd nw=> ?_⟩
     have hho2:=S2 _ _ hho
     have hq2:=S2 _ _ hq
     obtain⟨kvs,hkv,hkl,hkval⟩:=hh.srs.di
     have hkv2:=S2 _ _ hkv
     have ns6:=ok.ns
     refine⟨_,rfl,_,_,_,_,_,rfl,hho2,T.aW.cl,T.aW.no _ (by simp),aY,_,rfl,q,_,_,_,rfl,rfl,SqL.of hq2,rfl,L.ds,_,rfl,aUt.k (k:=Sum.inl (nn:Int)) hkv2 (Nat.lt_of_lt_of_le (by omega:kvs.length<1000) (by decide)),?_⟩
     refine⟨(by show 1<=sizeLine;decide),fun r hrn=> ?_⟩
     rw [hs] at k
     have S4:=bM (.lst [V.int 0]) hrn
     have hoL:ho≠L.ds:=(hh.pno hkv).1.symm
     have hS2:cZ a H2 g' {x with key:=nn}:=⟨hS.ob,hS.pk,hS.pl,hS.len,hS.ps⟩
     have fr: ∀b ob,H b=some ob->b≠L.ds->b≠ho->upd (upd H2 L.ds (.dK (putK kvs (Sum.inl (nn:Int)) (.ref g'.s)))) r (.lst [V.int 0]) b=some ob:=fun b ob hb hn _=>S4 _ _ (by rw [aR hn];exact S2 _ _ hb)
     have hS5:=cZ.keep (H':=upd (upd H2 L.ds (.dK (putK kvs (Sum.inl (nn:Int)) (.ref g'.s)))) r (.lst [V.int 0])) hS2 fun b hb ob e=>by
      have hb0:=nw b hb
      exact S4 _ _ (by rw [aR (fun z=>by rw [z,hkv] at hb0;cases hb0)];exact e)
     refine k _ _ r (aOs (y:={x with key:=nn}) (g:=g') ok fr nw) (hh.aIw (y:={x with key:=nn}) (g:=g') ok (n:=st.next) hkv fr (S4 _ _ aO) ⟨dh,?_⟩ hS5 nd nw) (.inl (S2.free (cG hrn))) (by rw [aO];rfl)
     exact S4 _ _ (by rw [aR hoL];exact hho2)
theorem bLo {K:aA} {q:Addr} {xs:List V} {g:TG} {tt:TT} {te:TE} {vs:List Nat} {σ:L2.St} {H1:Hp} {D:Addr} {Qd:Hp->Prop} (Pv:Nat->Hp->Prop) (h0:Pv 0 (upd H1 D (.lst []))) (hl: ∀i H,i<=xs.length->Pv i H->SqL K H q xs)
 (hs: ∀(i:Nat) x H t,xs[i]? =some x->Pv i H->H t=none->g (.ref t) (wipe σ vs) (upd H t (.tup [.int (i:Nat),x])) fun σ2 H2=>wipe σ2 vs=wipe σ vs/\tt σ2 H2 fun b H3=>
   if b=true then te σ2 H3 fun y H4=> ∃acc,H4 D=some (.lst acc)/\acc.length<sizeLine/\Pv (i+1) (upd H4 D (.lst (acc++[y]))) else Pv (i+1) H3) (hd: ∀H,Pv xs.length H->Qd H):
 ∃W:Nat->Nat->Hp->Prop,(∃m,W 0 m (upd H1 D (.lst [])))/\ ∀i m H,W i m H->
  ((Ite K q).stop i H/\Qd H)\/((Ite K q).go i H/\ ∃Nx:Hp->Prop,(∀H',Nx H'-> ∃m',m'<m/\W (i+1) m' H')/\ ∀x H',(Ite K q).yld i H x H'->g x (wipe σ vs) H' fun σ2 H2=>wipe σ2 vs=wipe σ vs/\tt σ2 H2 fun b H3=>
   if b=true then te σ2 H3 fun y H4=> ∃acc,H4 D=some (.lst acc)/\acc.length<sizeLine/\Nx (upd H4 D (.lst (acc++[y]))) else Nx H3):=by
 refine⟨fun i m H=>m=xs.length-i/\i<=xs.length/\Pv i H,⟨xs.length,by simp,Nat.zero_le _,h0⟩,?_⟩
 rintro i m H ⟨rfl,hi,p⟩
 have q':=hl i H hi p
 by_cases hlt:i<xs.length
 . refine .inr ⟨⟨xs,xs[i],q',by simp [hlt]⟩,Pv (i+1),fun H' p'=>⟨xs.length-(i+1),by omega,rfl,hlt,p'⟩,fun x H' y=> ?_⟩
   obtain⟨t,z,rfl,ht,rfl,hz⟩:=y
   exact hs i z H t (hz xs q') p ht
 . have e:i=xs.length:=by omega
   subst e
   exact .inl ⟨⟨xs,q',Nat.le_refl _⟩,hd H p⟩
theorem bKc {r:Except Nat (List Nat)} (h:M.aYb r):M.stOf r=2↔Vbfaae.isOk r=true:=by
 cases r with
 |ok l=>simp [M.stOf,Vbfaae.isOk]
 |error e=>
  have:=h e rfl
  simp [M.stOf,Vbfaae.isOk];omega
def fU (st:aB) (x:Vbfaae.Stream) (n:Nat):List Nat:=(List.range n).filter fun i=>!Vbfaae.isOk (Vbfaae.readSlice st 7 x i)
inductive aGn (a:Adr) (vs:List V) (H:Hp) (Q:VK):Prop|mk (ds:Addr) (gs:Nat->GS) (st:aB) (x:Vbfaae.Stream) (z0:vs=[.ref ds,.ref (gs x.key).s]) (z1:nU a H ds gs st) (z2:M.bO st) (z3:x∈st.streams) (z4:sI H Q (ni (fU st x x.slices))) def aJs (K:aA) (a:Adr):L2.Sp:=fun vs H Q _=>aGn a vs H Q
theorem jH:bA ["streams","stream","i","state"] ["streams","stream"] (aV tW):=by decide+kernel
theorem aIr (T:Txt P w K mg a):Ok P w K mg base 8 "unread_slices" ["streams","stream"] (aJs K a):=by
 refine T.aKz.ok jH (fun vs H Q E h=> ?_) (fun f cdv A outer s H vs Q E hr h=> ?_)
 . obtain⟨ds,gs,st,x,rfl,_⟩:=h
   rfl
 . obtain⟨ds,gs,st,x,rfl,hS,ok,hx,k⟩:=h
   refine⟨_,(aM (aU (tK (own:=[("i",2),("state",3)]) rfl jH.nd (aNe rfl T.qX (aJ (aP (vG T) hr (by decide) rfl (aJ (pv 0) (aJ (pv 1) aL))) aL)) (eZ (by rfl)) (fun _ _ _ _ _=>(aWs (K:=K) (n:=2) rfl rfl (gW (cM (i:=2) jH.nd rfl (Or.inl rfl)) (gW (cM (i:=3) jH.nd rfl (Or.inl rfl)) aAe)))) (fun _ _ _ _ _=>(bFc (bC yC (pv 3) (cA rfl T.bCi) (bF _)))) (fun _ _ _ _ _=>(pv 2))))),?_⟩;symm
   have hsl:=(ok.sOk x hx).sl
   refine⟨_,rfl,_,rfl,ds,gs,st,x,rfl,hS,ok,hx,fun H2 p s2 hp h2=> ?_⟩
   refine⟨p,_,rfl,SqL.of h2,fun D hD=> ?_⟩
   have hxl:(ni ((Vbfaae.slicesRead st x).map M.stOf)).length=x.slices:=by simp [Vbfaae.slicesRead]
   refine bLo (K:=K) (q:=p) (xs:=ni ((Vbfaae.slicesRead st x).map M.stOf)) (fun i H'=>bJ H2 H'/\H' D=some (.lst (ni (fU st x i)))) ⟨bY hD,by rw [aO];rfl⟩ (fun i H' _ hI=>SqL.of (hI.1 _ _ h2)) (fun i v H' t hv hI ht=> ?_) (fun H' hI=> ?_)
   . obtain⟨s',hD'⟩:=hI
     obtain⟨n,hn,rfl⟩:=nW hv
     have hi:i<x.slices:=by have:=(List.getElem?_eq_some_iff.mp hv).1;omega
     have en:n=M.stOf (Vbfaae.readSlice st 7 x i):=by
      unfold Vbfaae.slicesRead at hn
      simp [hi] at hn
      exact hn.symm
     have hro:M.aYb (Vbfaae.readSlice st 7 x i):=by rw [M.aWw ok hx];exact M.jN _ _ (by omega)
     have e2:=bKc hro
     have hs3:=s'.trans (bY (o:= .tup [.int (i:Nat),.int n]) ht)
     have hD3:upd H' t (.tup [.int (i:Nat),.int n]) D=some (.lst (ni (fU st x i))):=cI ht hD'
     refine⟨t,_,rfl,SqT.of aO,rfl,_,_,rfl,_,_,rfl,rfl,rfl,?_⟩
     generalize upd H' t (.tup [.int (i:Nat),.int n])=H3 at*
     refine⟨_,rfl,rfl,_,rfl,?_⟩
     have er:fU st x (i+1)=fU st x i++if Vbfaae.isOk (Vbfaae.readSlice st 7 x i)=true then [] else [i]:=by
      unfold fU
      rw [List.range_succ,List.filter_append]
      congr 1
      cases h:Vbfaae.isOk (Vbfaae.readSlice st 7 x i)<;>simp [h]
     by_cases h:Vbfaae.isOk (Vbfaae.readSlice st 7 x i)=true
     . refine bK (by rw [dR,en,e2.mpr h];simp) ⟨hs3,?_⟩
       rw [er,aD h,List.append_nil];exact hD3
     . have ne:n≠2:=fun e=>h (e2.mp (by rw [<-en];exact e))
       refine bI (by rw [dR];simp;omega) ?_
       have hul:(fU st x i).length<=i:=by
        unfold fU
        exact Nat.le_trans (List.length_filter_le _ _) (by simp)
       refine⟨_,rfl,_,hD3,Nat.lt_of_lt_of_le (by rw [aG];omega:_<1000) (by decide),gY hD hs3,?_⟩
       rw [aO,er,aF h]
       simp [ni]
   . rw [hxl] at hI
     exact k _ _ (s2.trans hI.1) (s2.free hD) hI.2
inductive aMf (a:Adr) (vs:List V) (H:Hp) (Q:VK):Prop|mk (g:GS) (x:Vbfaae.Stream) (q o:Addr) (l bs:List Nat) (z0:vs=[.ref g.s,.ref q,.ref o]) (z1:cZ a H g x) (z2:H q=some (.lst (ni l))) (z3:l.length<=1000) (z4:H o=some (.lst (ni bs))) (z5:(∀b∈bs,b<256)) (z6:bs.length<=2000) (z7: ∀H',bJ H H'->Q (.bl (l.any fun i=>(Vbfaae.modeIn x i bs).isSome)) H') def aQj (K:aA) (a:Adr):L2.Sp:=fun vs H Q _=>aMf a vs H Q
theorem qH:bA ["stream","numbers","octets","i"] ["stream","numbers","octets"] (aV zK):=by decide+kernel
theorem aPp (T:Txt P w K mg a):Ok P w K mg base 5 "fits_one_of" ["stream","numbers","octets"] (aQj K a):=by
 refine T.aRh.ok qH (fun vs H Q E h=> ?_) (fun f cdv A outer s H vs Q E hr h=> ?_)
 . obtain⟨g,x,q,o,l,bs,rfl,_⟩:=h
   rfl
 . obtain⟨g,x,q,o,l,bs,rfl,hx,hq,hl,ho,hb,hbl,k⟩:=h
   refine⟨_,(aM (aU (bL (bOb rfl) (by rfl) T.bQy (by rfl) (aJ (tK (own:=[("i",3)]) rfl qH.nd (lJ (pv 1)) (eZ (by rfl)) (fun _ _ _ _ _=>(cM (i:=3) qH.nd rfl (Or.inl rfl))) (fun _ _ _ _ _=>iQ) (fun _ _ _ _ _=>(rC pY (aP (vC T) hr (by decide) rfl (aJ (pv 0) (aJ (pv 3) (aJ (pv 2) aL)))) aN (bF _)))) aL)))),?_⟩;symm
   refine⟨_,rfl,q,rfl,⟨_,SqL.of hq⟩,fun D hD=> ?_⟩
   refine sZ (K:=K) (xs:=ni l) (ys:=l.map fun i=>V.bl (Vbfaae.modeIn x i bs).isSome) (SqL.of hq) hD (by simp;exact cF (by omega)) (by simp) (fun i v y hv hy H2 Kt Al hs hk=> ?_) (fun H2 hs h2=> ?_)
   . obtain⟨n,hn,rfl⟩:=nW hv
     rw [List.getElem?_map,hn] at hy
     cases hy
     refine⟨rfl,?_⟩
     refine⟨_,rfl,_,rfl,_,rfl,g,x,n,o,bs,rfl,hx.same hs,hs _ _ ho,hb,hbl,fun H3 s3=> ?_⟩
     refine⟨_,_,rfl,rfl,?_⟩
     have this:Kt (V.bl (Vbfaae.modeIn x n bs).isSome) H3:=hk _ s3
     cases hm:Vbfaae.modeIn x n bs with
     |none=>rw [hm] at this;exact this
     |some m=>
      rw [hm] at this
      have e:decide ((0:Int)<=(m:Nat))=true:=decide_eq_true (by omega)
      simp only [Option.isSome_some] at this
      show Kt (.bl (decide ((0:Int)<=(m:Nat)))) H3
      rw [e];exact this
   . refine⟨D,l.map fun i=>(Vbfaae.modeIn x i bs).isSome,rfl,SqL.of (by rw [h2];simp),?_⟩
     have:=k H2 hs
     simpa [List.any_map] using this
theorem bEa {g:GS} {qs:List (Addr×Addr)}:adS {g with qs:=g.qs++qs}=adS g++uZ qs:=by simp [adS,uZ]
theorem cZ.app {a:Adr} {H H':Hp} {g:GS} {x:Vbfaae.Stream} {qs:List (Addr×Addr)} {ps:List (Vbfaae.Bytes×Nat×Bool)} (h:cZ a H g x) (nd:(adS g).Nodup) (fr: ∀b ob,H b=some ob->b≠g.pl->H' b=some ob)
 (hpl:H' g.pl=some (.lst ((g.qs.map fun q=>V.ref q.1)++qs.map fun q=>V.ref q.1))) (hl:qs.length=ps.length) (hp: ∀(j:Nat) (q:Addr×Addr) (p:Vbfaae.Bytes×Nat×Bool),qs[j]? =some q->ps[j]? =some p->sJ a H' q.1 q.2 p):cZ a H' {g with qs:=g.qs++qs} {x with packets:=x.packets++ps}:=by
 unfold adS at nd
 simp only [List.nodup_cons,List.mem_cons,not_or] at nd
 obtain⟨⟨n1,n2,_⟩,⟨n3,_⟩,n4,_⟩:=nd
 obtain⟨⟨dx,h1⟩,h2,h3,h4,h5⟩:=h
 refine⟨⟨dx,fr _ _ h1 n2⟩,fr _ _ h2 n3,by rw [hpl];simp,by show (g.qs++qs).length=(x.packets++ps).length;simp [h4,hl],fun j q' p' hj hpj=> ?_⟩
 have hj:(g.qs++qs)[j]? =some q':=hj
 have hpj:(x.packets++ps)[j]? =some p':=hpj
 by_cases hjl:j<g.qs.length
 . rw [List.getElem?_append_left hjl] at hj
   rw [List.getElem?_append_left (by omega)] at hpj
   obtain⟨⟨d,f,g1,g3⟩,g2⟩:=h5 j q' p' hj hpj
   have m:=iT (List.mem_of_getElem? hj)
   exact⟨⟨d,f,fr _ _ g1 (fun e=>n4 (by rw [<-e];exact m.1)),g3⟩,fr _ _ g2 (fun e=>n4 (by rw [<-e];exact m.2))⟩
 . rw [List.getElem?_append_right (by omega)] at hj
   rw [List.getElem?_append_right (by omega),<-h4] at hpj
   exact hp _ q' p' hj hpj
def gQ (st:aB) (x:Vbfaae.Stream) (ps:List (Vbfaae.Bytes×Nat×Bool)):List (Vbfaae.Bytes×Nat×Bool):=ps.filter fun p=>(fU st x x.slices).any fun i=>(Vbfaae.modeIn x i p.1).isSome
theorem bIr (st:aB) (x:Vbfaae.Stream) (ps:List (Vbfaae.Bytes×Nat×Bool)):(ps.filter fun p=>(List.range x.slices).any fun i=>!Vbfaae.isOk (Vbfaae.readSlice st 7 x i)&&(Vbfaae.modeIn x i p.1).isSome)=gQ st x ps:=by
 unfold gQ fU
 congr 1
 funext p
 rw [List.any_filter]
theorem bDp (st:aB) (z y:Int):Vbfaae.step st (.merge z y)=if(Vbfaae.keyed z&&Vbfaae.keyed y)=false then(st,[-1]) else Vbfaae.onStream st z fun x=>Vbfaae.onStream st y fun w=>
 if 20<x.packets.length+(gQ st x w.packets).length then(st,[-9]) else(Vbfaae.withStream st {x with packets:=x.packets++gQ st x w.packets},Vbfaae.ints [x.packets.length+(gQ st x w.packets).length]):=by
 simp only [<-bIr]
 rfl
def aBt (K:aA) (a:Adr):L2.Sp:=fW (fun ns=>match ns with|[k,y]=>some (.merge k y)|_=>none) a
theorem gF:bA ["house","numbers","refusal","stream","other","unread","found","packet"] ["house","numbers"] (aV aCa):=by decide+kernel
theorem aRt (T:Txt P w K mg a):Ok P w K mg base 9 "call_merge" ["house","numbers"] (aBt K a):=by
 refine T.aVh.ok gF (fun vs H Q E h=> ?_) (fun f cdv A outer s H vs Q E hr h=> ?_)
 . obtain⟨ho,L,st,q,ns,c,rfl,_⟩:=h
   rfl
 . obtain⟨ho,L,st,q,ns,c,rfl,hq,hnl,hm,hh,ok,hno,k⟩:=h
   have hu:=fO hr
   refine⟨_,(aK (aZ (i:=2) gF.nd rfl (Or.inl rfl) (aP (nY T) hr (by decide) rfl (aJ (aX (pv 0) rfl) (aJ (pv 1) aL)))) (aK (bR (bC dI (pv 2) aN (bF _)) (aM (aU (bU (aJ (pv 2) aL)))) bB) (aK (aZ (i:=3) gF.nd rfl (Or.inr rfl) (cY hu (aX (pv 0) rfl) (bZ bD (pv 1) aN (fun _ _=>rfl)) (fun _ _=>rfl))) (aK (aZ (i:=4) gF.nd rfl (Or.inl rfl) (cY hu (aX (pv 0) rfl) (bZ bD (pv 1) aN (fun _ _=>rfl)) (fun _ _=>rfl))) (aK (aZ (i:=5) gF.nd rfl (Or.inr rfl) (aP (aIr T) hr (by decide) rfl (aJ (aX (pv 0) rfl) (aJ (pv 3) aL)))) (aK (aPv (i:=6) (own:=[("packet",7)]) rfl gF.nd rfl rfl (aXx rfl rfl (by rfl) (by rfl)) (lJ (aX (pv 4) rfl)) (eZ (by rfl)) (fun _ _ _ _ _=>(cM (i:=7) gF.nd rfl (Or.inl rfl))) (fun _ _ _ _ _=>(bFc (cT (aP (aPp T) hr (by decide) rfl (aJ (pv 3) (aJ (pv 5) (aJ (aNd (K:=K) rfl (pv 7) rfl) aL))))))) (fun _ _ _ _ _=>(aP (pX T) hr (by decide) rfl (aJ (pv 7) aL)))) (aK (bR (bC oM (bG cR (bL bH (by rfl) T.dC PySem.boot_len (aJ (aX (pv 3) rfl) aL)) (bL bH (by rfl) T.dC PySem.boot_len (aJ (pv 6) aL))) (cA rfl T.pQ) (bF _)) (aM (aU (bU (aJ (cA rfl T.aCq) aL)))) bB) (aK (fB (rB PySem.F.plainAttrs_list PySem.F.slot_list_extend PySem.F.type_list_extend tD (aX (pv 3) rfl) (aJ (pv 6) aL))) (aM (aU (bU (aJ (bL bH (by rfl) T.dC PySem.boot_len (aJ (aX (pv 3) rfl) aL)) aL)))))))))))),?_⟩;symm
   obtain⟨z,y,rfl,rfl⟩: ∃z y,ns=[z,y]/\c= .merge z y:=by
    match ns,hm with
    |[z,y],hm=>exact⟨z,y,rfl,(Option.some.inj hm).symm⟩
   obtain⟨dh,hho⟩:=hh.ob
   have hs:=bDp st z y
   obtain⟨kvs,hkv,hkr⟩:=hh.bOr z y
   refine⟨_,rfl,_,_,_,_,_,rfl,hho,T.aW.cl,T.aW.no _ (by simp),aY,_,rfl,L.ds,q,kvs,[z,y],rfl,hkv,hq,(by show 2<=sizeLine;decide),fun H sK=> ?_⟩
   rw [hkr]
   replace k:=fun H' L' r (kp:Kept H H' ho L L' st _) hz (hn:H r=none\/Own ho L st r)=>k H' L' r (kp.pre sK) hz (hn.imp (fun z=>sK.free z) id)
   replace hh:=hh.same sK
   replace hq:=sK _ _ hq
   replace hho:=sK _ _ hho
   try replace hkv:=sK _ _ hkv
   refine⟨_,rfl,_,_,rfl,rfl,_,rfl,?_⟩
   by_cases hr:nJ st z y<0
   . rw [bLz hr] at hs
     exact bI (by rw [aC];exact hr) ⟨_,rfl,(by show 1<=sizeLine;decide),fun r hrn=>step_same k hh (bJ.refl _) hs rfl hrn⟩
   . refine bK (by rw [aC];exact hr) ?_
     obtain⟨zn,yn,x,x2,rfl,rfl,hx,hx2,hf⟩:=bLy hr
     rw [hf] at hs
     have hd:=hh.pN zn
     rw [hx] at hd
     have hd2:=hh.pN yn
     rw [hx2] at hd2
     have hX:=hh.srs.at_ _ _ hx
     have hY:=hh.srs.at_ _ _ hx2
     obtain⟨hxm,hxk⟩:=ok.at_.mp hx
     obtain⟨hxm2,hxk2⟩:=ok.at_.mp hx2
     have sok2:=ok.sOk x2 hxm2
     have sl8:=(ok.sOk x hxm).sl
     have few:=(ok.sOk x hxm).few
     have few2:=sok2.few
     subst hxk
     refine⟨_,rfl,_,_,_,_,_,rfl,hho,T.aW.cl,T.aW.no _ (by simp),aY,_,rfl,q,_,_,_,rfl,rfl,SqL.of hq,rfl,L.ds,_,rfl,hd,?_⟩
     refine⟨_,rfl,_,_,_,_,_,rfl,hho,T.aW.cl,T.aW.no _ (by simp),aY,_,rfl,q,_,_,_,rfl,rfl,SqL.of hq,rfl,L.ds,_,rfl,hd2,?_⟩
     refine⟨_,rfl,_,_,_,_,_,rfl,hho,T.aW.cl,T.aW.no _ (by simp),aY,_,rfl,L.ds,L.gs,st,x,rfl,hh.srs,ok,hxm,fun H2 u s2 hu h2=> ?_⟩
     have hX2:=hX.same s2
     have hY2:=hY.same s2
     obtain⟨dy,hoy⟩:=hY2.ob
     have hul:(fU st x x.slices).length<=8:=by
      unfold fU
      exact Nat.le_trans (List.length_filter_le _ _) (by simp;omega)
     refine⟨_,rfl,_,_,_,_,_,rfl,hoy,T.aQ.cl,T.aQ.no _ (by simp),bN,(L.gs yn).pl,rfl,⟨_,SqL.of hY2.pl⟩,fun D hD=> ?_⟩
     refine aVz (K:=K) (xs:=(L.gs yn).qs.map fun q=>V.ref q.1) (fun i H'=> ∃qs,lB a H2 D H' qs (gQ st x (x2.packets.take i))) ⟨[],lB.start hD⟩ (fun i H' _ hI=>let⟨qs,c⟩:=hI;SqL.of (c.sm _ _ hY2.pl)) (fun i v H' hv hI=> ?_) (fun H' hI=> ?_)
     . obtain⟨qs,c⟩:=hI
       obtain⟨g,hg,rfl⟩:=uH hv
       have hil:=(List.getElem?_eq_some_iff.mp hg).1
       obtain⟨p,hp⟩: ∃p,x2.packets[i]? =some p:=⟨_,List.getElem?_eq_getElem (by rw [<-hY.len];exact hil)⟩
       have hpk:=(hY2.ps i g p hg hp).same c.sm
       obtain⟨dq,f',hq1,_⟩:=hpk.ob
       have hpo:=sok2.pkt p (List.mem_of_getElem? hp)
       have cl:=c.len
       have cl2:(gQ st x (x2.packets.take i)).length<=20:=by
        unfold gQ
        refine Nat.le_trans (List.length_filter_le _ _) ?_
        rw [List.length_take];omega
       refine⟨rfl,?_⟩
       refine⟨_,rfl,_,rfl,_,rfl,_,_,_,_,_,rfl,hq1,T.bT.cl,T.bT.no _ (by simp),cJ,L.gs x.key,x,u,g.2,fU st x x.slices,p.1,rfl,hX2.same c.sm,c.sm _ _ h2,by omega,hpk.oc,hpo.2.1,by have:=hpo.1;omega,fun H3 s3=>⟨_,rfl,?_⟩⟩
       have et:gQ st x (x2.packets.take (i+1))=gQ st x (x2.packets.take i)++if((fU st x x.slices).any fun i=>(Vbfaae.modeIn x i p.1).isSome)=true then [p] else []:=by
        unfold gQ
        rw [List.take_add_one,hp,List.filter_append]
        congr 1
        simp only [Option.toList,List.filter_cons,List.filter_nil]
       rw [et]
       by_cases hfit:((fU st x x.slices).any fun i=>(Vbfaae.modeIn x i p.1).isSome)=true
       . refine bI hfit ?_
         rw [aD hfit]
         have c3:=c.same s3
         refine⟨_,rfl,g.1,g.2,p,rfl,hpk.same s3,fun H4 q4 o4 s4 nq no hp4=> ?_⟩
         exact⟨_,s4 _ _ c3.lst,Nat.lt_of_lt_of_le (by rw [aG];omega:_<1000) (by decide),qs++[(q4,o4)],c3.snoc hD s4 nq no hp4⟩
       . refine bK hfit ⟨qs,?_⟩
         rw [aF hfit,List.append_nil]
         exact c.same s3
     . obtain⟨qs,c⟩:=hI
       rw [aG,hY.len,List.take_length] at c
       have hX3:=hX2.same c.sm
       obtain⟨dx3,ho3⟩:=hX3.ob
       have cl:=c.len
       have hlen:=hX.len
       have cl2:(gQ st x x2.packets).length<=20:=by
        unfold gQ
        exact Nat.le_trans (List.length_filter_le _ _) few2
       refine⟨_,rfl,_,_,_,_,_,rfl,ho3,T.aQ.cl,T.aQ.no _ (by simp),bN,(L.gs x.key).pl,_,rfl,.inl (SqL.of hX3.pl),_,rfl,D,_,rfl,.inl (SqL.of c.lst),_,_,rfl,rfl,_,_,rfl,rfl,_,rfl,?_⟩
       by_cases h20:20<x.packets.length+(gQ st x x2.packets).length
       . rw [aD h20] at hs
         exact bI (by rw [aC,aG,aG];omega) ⟨(by show 1<=sizeLine;decide),fun r hrn=>step_same k hh (s2.trans c.sm) hs rfl hrn⟩
       . rw [aF h20] at hs
         refine bK (by rw [aC,aG,aG];omega) ?_
         refine⟨_,rfl,_,_,_,_,_,rfl,ho3,T.aQ.cl,T.aQ.no _ (by simp),bN,.inl ⟨rfl,_,SqL.of hX3.pl⟩,_,rfl,(L.gs x.key).pl,D,_,_,rfl,rfl,hX3.pl,c.lst,cF (by simp;omega),?_⟩
         have S3:=s2.trans c.sm
         have nd:=hh.nd x.key x hx
         have nsp:(L.gs x.key).s≠(L.gs x.key).pl:=by
          have nd':=nd
          unfold adS at nd'
          simp only [List.nodup_cons,List.mem_cons,not_or] at nd'
          exact nd'.1.2.1
         have npq: ∀b∈uZ qs,H b=none:=fun b hb=>s2.free (c.new b hb).1
         have ho4:upd H' (L.gs x.key).pl (.lst (((L.gs x.key).qs.map fun q=>V.ref q.1)++qs.map fun q=>V.ref q.1)) (L.gs x.key).s=some (.ins a.cStream dx3 (eG (.int x.stamp) (.int x.w) (.int x.h) (.int x.slices) (.int x.ref) (.int x.refStamp) (.ref (L.gs x.key).pk) (.ref (L.gs x.key).pl))):=by rw [aR nsp];exact ho3
         refine⟨_,rfl,_,_,_,_,_,rfl,ho4,T.aQ.cl,T.aQ.no _ (by simp),bN,(L.gs x.key).pl,_,rfl,.inl (SqL.of aO),(by show 1<=sizeLine;decide),fun r hrn=>uW k hh ok hx (g':={L.gs x.key with qs:=(L.gs x.key).qs++qs}) (ps:=x.packets++gQ st x x2.packets) hs ?_ ?_ ?_ rfl ?_ (fun b hb=> ?_) hrn⟩
         . simp [hlen,cl,Vbfaae.ints]
         . intro b ob hb' hn
           rw [aR (fun e=>hn (by rw [e];simp [adS]))];exact S3 _ _ hb'
         . refine hX.app nd (fun b ob hb' hn=>by rw [aR hn];exact S3 _ _ hb') aO cl fun j q' p' e1 e2=> ?_
           have m:=iT (List.mem_of_getElem? e1)
           have pn: ∀b∈uZ qs,b≠(L.gs x.key).pl:=fun b hb e=>by
            have:=npq b hb
            rw [e,hX.pl] at this;cases this
           obtain⟨⟨d,f,g1,g2⟩,g3⟩:=c.at_ j q' p' e1 e2
           exact⟨⟨d,f,by rw [aR (pn _ m.1)];exact g1,g2⟩,by rw [aR (pn _ m.2)];exact g3⟩
         . rw [bEa]
           refine List.nodup_append.mpr ⟨nd,c.nd,fun b1 h1 b2 h2 e=> ?_⟩
           subst e
           exact lE hX (npq _ h2) h1
         . rw [bEa] at hb
           rcases List.mem_append.mp hb with h|h
           . exact .inl h
           . exact .inr (npq b h)
theorem GN.get {mg:Str->Option Value} {n:Int} {x:Str}: ∀{ns:List (Int×Str)} {kvs:List (Key×V)},GN mg ns kvs->ns.lookup n=some x-> ∃f,mg x=some (.ref f)/\dO kvs (Sum.inl n)=some (.ref f)
 |[],[],_,h=>by cases h
 |[],_::_,h,_=>h.elim
 |_::_,[],h,_=>by cases h
 |(k,y)::r,(k',v)::r',h,e=>by
  obtain⟨rfl,⟨f,hf,rfl⟩,h3⟩:=h
  by_cases hk:n=k
  . subst hk
    have e:y=x:=by simpa using e
    subst e
    exact⟨f,hf,by unfold dO;rw [List.find?_cons_of_pos (by simp)];rfl⟩
  . have e2:r.lookup n=some x:=by
     rw [List.lookup_cons] at e
     have:(n==k)=false:=beq_eq_false_iff_ne.mpr hk
     rw [this] at e
     exact e
    obtain⟨f',h1,h2⟩:=GN.get h3 e2
    refine⟨f',h1,?_⟩
    unfold dO at h2 ⊢
    rw [List.find?_cons_of_neg (by simp;exact fun e=>hk e.symm)]
    exact h2
theorem GN.has {mg:Str->Option Value} {n:Int}: ∀{ns:List (Int×Str)} {kvs:List (Key×V)},GN mg ns kvs->(dO kvs (Sum.inl n)).isSome=(ns.map (·.1)).contains n
 |[],[],_=>rfl
 |[],_::_,h=>h.elim
 |_::_,[],h=>by cases h
 |(k,y)::r,(k',v)::r',h=>by
  obtain⟨rfl,_,h3⟩:=h
  have ih:=GN.has (n:=n) h3
  by_cases hk:n=k
  . subst hk
    unfold dO
    rw [List.find?_cons_of_pos (by simp)]
    simp
  . unfold dO at ih ⊢
    rw [List.find?_cons_of_neg (by simp;exact fun e=>hk e.symm),ih]
    simp [hk]
inductive bPj (mk:Int->List Int->Option Vbfaae.Call) (a:Adr) (vs:List V) (H:Hp) (Q:VK):Prop|mk (ho:Addr) (L:Lay) (st:aB) (n:Int) (q:Addr) (ns:List Int) (c:Vbfaae.Call) (z0:vs=[.ref ho,.int n,.ref q]) (z1:H q=some (.lst (iv ns))) (z2:ns.length<=2000) (z3:mk n ns=some c) (z4:bQ a H ho L st) (z5:M.bO st) (z6: ¬Own ho L st q) (z7: ∀H' L' r,Kept H H' ho L L' st (Vbfaae.step st c).1->bQ a H' ho L' (Vbfaae.step st c).1->(H r=none\/Own ho L st r)->H' r=some (.lst (iv (Vbfaae.step st c).2))->Q (.ref r) H') def bFf (mk:Int->List Int->Option Vbfaae.Call) (a:Adr):Sp:=fun vs H Q _=>bPj mk a vs H Q
inductive aAw (vs:List V) (H:Hp) (Q:VK):Prop|mk (n:Int) (z0:vs=[.int n]) (z1:Q (.bl (M.bIm n)) H) def aDr (K:aA) (a:Adr):L2.Sp:=fun vs H Q _=>aAw vs H Q
theorem aDh:bA ["number"] ["number"] (aV qM):=by decide+kernel
theorem aCy (T:Txt P w K mg a):Ok P w K mg base 1 "is_picture_call" ["number"] (aDr K a):=by
 refine T.aEf.ok aDh (fun vs H Q E h=> ?_) (fun f cdv A outer s H vs Q E hr h=> ?_)
 . obtain⟨n,rfl,_⟩:=h
   rfl
 . obtain⟨n,rfl,k⟩:=h
   obtain⟨kv,hx_CALLS_picture_calls,hn⟩:=T.mC
   refine⟨_,(aM (aU (aPt (aWq (pv 0) rfl hx_CALLS_picture_calls)))),?_⟩;symm
   refine⟨_,rfl,Sum.inl n,rfl,?_⟩
   rw [hn.has]
   exact k
inductive aDs (vs:List V) (H:Hp) (Q:VK):Prop|mk (n:Int) (z0:vs=[.int n]) (z1:Q (.bl (M.isStr n)) H) def aGi (K:aA) (a:Adr):L2.Sp:=fun vs H Q _=>aDs vs H Q
theorem aFp:bA ["number"] ["number"] (aV rJ):=by decide+kernel
theorem aFa (T:Txt P w K mg a):Ok P w K mg base 1 "is_stream_call" ["number"] (aGi K a):=by
 refine T.aHt.ok aFp (fun vs H Q E h=> ?_) (fun f cdv A outer s H vs Q E hr h=> ?_)
 . obtain⟨n,rfl,_⟩:=h
   rfl
 . obtain⟨n,rfl,k⟩:=h
   obtain⟨kv,hx_CALLS_stream_calls,hn⟩:=T.nT
   refine⟨_,(aM (aU (aPt (aWq (pv 0) rfl hx_CALLS_stream_calls)))),?_⟩;symm
   refine⟨_,rfl,Sum.inl n,rfl,?_⟩
   rw [hn.has]
   exact k
inductive aJg (vs:List V) (H:Hp) (Q:VK):Prop|mk (n:Int) (z0:vs=[.int n]) (z1:Q (.bl (M.bCj n)) H) def aMj (K:aA) (a:Adr):L2.Sp:=fun vs H Q _=>aJg vs H Q
theorem aLx:bA ["number"] ["number"] (aV wC):=by decide+kernel
theorem aLo (T:Txt P w K mg a):Ok P w K mg base 1 "is_lone_call" ["number"] (aMj K a):=by
 refine T.aNy.ok aLx (fun vs H Q E h=> ?_) (fun f cdv A outer s H vs Q E hr h=> ?_)
 . obtain⟨n,rfl,_⟩:=h
   rfl
 . obtain⟨n,rfl,k⟩:=h
   obtain⟨kv,hx_CALLS_lone_calls,hn⟩:=T.qR
   refine⟨_,(aM (aU (aPt (aWq (pv 0) rfl hx_CALLS_lone_calls)))),?_⟩;symm
   refine⟨_,rfl,Sum.inl n,rfl,?_⟩
   rw [hn.has]
   exact k
def uV (K:aA) (a:Adr):L2.Sp:=bFf M.bIs a
theorem uP:bA ["house","number","numbers"] ["house","number","numbers"] (aV lW):=by decide+kernel
theorem uI (T:Txt P w K mg a):Ok P w K mg base 7 "answer_picture_call" ["house","number","numbers"] (uV K a):=by
 refine T.wO.ok uP (fun vs H Q E h=> ?_) (fun f cdv A outer s H vs Q E hr h=> ?_)
 . obtain⟨ho,L,st,n,q,ns,c,rfl,_⟩:=h
   rfl
 . obtain⟨ho,L,st,n,q,ns,c,rfl,hq,hnl,hm,hh,ok,hno,k⟩:=h
   obtain⟨kv,hx_CALLS_picture_calls,hn⟩:=T.mC
   refine⟨_,(aM (aU (aFf (yD (pv 1) rfl hx_CALLS_picture_calls) (aJ (pv 0) (aJ (pv 2) aL))))),?_⟩;symm
   unfold M.bIs at hm
   by_cases e0:n=0
   . subst e0
     rw [aD rfl] at hm
     obtain⟨f,hf,hv⟩:=hn.get (n:=0) (x:="call_picture") rfl
     exact⟨_,rfl,Sum.inl 0,_,rfl,hv,f,vN K a,rfl,(aLh T).val hr (by decide) hf,_,rfl,_,rfl,ho,L,st,q,ns,c,rfl,hq,hnl,hm,hh,ok,hno,k⟩
   rw [aF e0] at hm
   by_cases e1:n=1
   . subst e1
     rw [aD rfl] at hm
     obtain⟨f,hf,hv⟩:=hn.get (n:=1) (x:="call_values") rfl
     exact⟨_,rfl,Sum.inl 1,_,rfl,hv,f,yV K a,rfl,(aPk T).val hr (by decide) hf,_,rfl,_,rfl,ho,L,st,q,ns,c,rfl,hq,hnl,hm,hh,ok,hno,k⟩
   rw [aF e1] at hm
   by_cases e14:n=14
   . subst e14
     rw [aD rfl] at hm
     obtain⟨f,hf,hv⟩:=hn.get (n:=14) (x:="call_sizes") rfl
     exact⟨_,rfl,Sum.inl 14,_,rfl,hv,f,aBu K a,rfl,(aRu T).val hr (by decide) hf,_,rfl,_,rfl,ho,L,st,q,ns,c,rfl,hq,hnl,hm,hh,ok,hno,k⟩
   rw [aF e14] at hm
   by_cases e18:n=18
   . subst e18
     rw [aD rfl] at hm
     obtain⟨f,hf,hv⟩:=hn.get (n:=18) (x:="call_drop") rfl
     exact⟨_,rfl,Sum.inl 18,_,rfl,hv,f,aGa K a,rfl,(aWc T).val hr (by decide) hf,_,rfl,_,rfl,ho,L,st,q,ns,c,rfl,hq,hnl,hm,hh,ok,hno,k⟩
   rw [aF e18] at hm
   by_cases e19:n=19
   . subst e19
     rw [aD rfl] at hm
     obtain⟨f,hf,hv⟩:=hn.get (n:=19) (x:="call_same") rfl
     exact⟨_,rfl,Sum.inl 19,_,rfl,hv,f,aGg K a,rfl,(aWi T).val hr (by decide) hf,_,rfl,_,rfl,ho,L,st,q,ns,c,rfl,hq,hnl,hm,hh,ok,hno,k⟩
   rw [aF e19] at hm
   by_cases e23:n=23
   . subst e23
     rw [aD rfl] at hm
     obtain⟨f,hf,hv⟩:=hn.get (n:=23) (x:="call_pictures") rfl
     exact⟨_,rfl,Sum.inl 23,_,rfl,hv,f,tO K a,rfl,(aIo T).val hr (by decide) hf,_,rfl,_,rfl,ho,L,st,q,ns,c,rfl,hq,hnl,hm,hh,ok,hno,k⟩
   rw [aF e23] at hm
   cases hm
def wY (K:aA) (a:Adr):L2.Sp:=bFf M.mkStr a
theorem wV:bA ["house","number","numbers"] ["house","number","numbers"] (aV lZ):=by decide+kernel
theorem wR (T:Txt P w K mg a):Ok P w K mg base 10 "answer_stream_call" ["house","number","numbers"] (wY K a):=by
 refine T.xO.ok wV (fun vs H Q E h=> ?_) (fun f cdv A outer s H vs Q E hr h=> ?_)
 . obtain⟨ho,L,st,n,q,ns,c,rfl,_⟩:=h
   rfl
 . obtain⟨ho,L,st,n,q,ns,c,rfl,hq,hnl,hm,hh,ok,hno,k⟩:=h
   obtain⟨kv,hx_CALLS_stream_calls,hn⟩:=T.nT
   refine⟨_,(aM (aU (aFf (yD (pv 1) rfl hx_CALLS_stream_calls) (aJ (pv 0) (aJ (pv 2) aL))))),?_⟩;symm
   unfold M.mkStr at hm
   by_cases e2:n=2
   . subst e2
     rw [aD rfl] at hm
     obtain⟨f,hf,hv⟩:=hn.get (n:=2) (x:="call_pack") rfl
     exact⟨_,rfl,Sum.inl 2,_,rfl,hv,f,aGf K a,rfl,(aWh T).val hr (by decide) hf,_,rfl,_,rfl,ho,L,st,q,ns,c,rfl,hq,hnl,hm,hh,ok,hno,k⟩
   rw [aF e2] at hm
   by_cases e4:n=4
   . subst e4
     rw [aD rfl] at hm
     obtain⟨f,hf,hv⟩:=hn.get (n:=4) (x:="call_packets") rfl
     exact⟨_,rfl,Sum.inl 4,_,rfl,hv,f,vM K a,rfl,(aLg T).val hr (by decide) hf,_,rfl,_,rfl,ho,L,st,q,ns,c,rfl,hq,hnl,hm,hh,ok,hno,k⟩
   rw [aF e4] at hm
   by_cases e9:n=9
   . subst e9
     rw [aD rfl] at hm
     obtain⟨f,hf,hv⟩:=hn.get (n:=9) (x:="call_turn") rfl
     exact⟨_,rfl,Sum.inl 9,_,rfl,hv,f,aGh K a,rfl,(aWj T).val hr (by decide) hf,_,rfl,_,rfl,ho,L,st,q,ns,c,rfl,hq,hnl,hm,hh,ok,hno,k⟩
   rw [aF e9] at hm
   by_cases e11:n=11
   . subst e11
     rw [aD rfl] at hm
     obtain⟨f,hf,hv⟩:=hn.get (n:=11) (x:="call_slices") rfl
     exact⟨_,rfl,Sum.inl 11,_,rfl,hv,f,yS K a,rfl,(aPi T).val hr (by decide) hf,_,rfl,_,rfl,ho,L,st,q,ns,c,rfl,hq,hnl,hm,hh,ok,hno,k⟩
   rw [aF e11] at hm
   by_cases e12:n=12
   . subst e12
     rw [aD rfl] at hm
     obtain⟨f,hf,hv⟩:=hn.get (n:=12) (x:="call_unpack") rfl
     exact⟨_,rfl,Sum.inl 12,_,rfl,hv,f,yU K a,rfl,(aPj T).val hr (by decide) hf,_,rfl,_,rfl,ho,L,st,q,ns,c,rfl,hq,hnl,hm,hh,ok,hno,k⟩
   rw [aF e12] at hm
   by_cases e13:n=13
   . subst e13
     rw [aD rfl] at hm
     obtain⟨f,hf,hv⟩:=hn.get (n:=13) (x:="call_errors") rfl
     exact⟨_,rfl,Sum.inl 13,_,rfl,hv,f,yQ K a,rfl,(aPg T).val hr (by decide) hf,_,rfl,_,rfl,ho,L,st,q,ns,c,rfl,hq,hnl,hm,hh,ok,hno,k⟩
   rw [aF e13] at hm
   by_cases e15:n=15
   . subst e15
     rw [aD rfl] at hm
     obtain⟨f,hf,hv⟩:=hn.get (n:=15) (x:="call_copy") rfl
     exact⟨_,rfl,Sum.inl 15,_,rfl,hv,f,aFz K a,rfl,(aWb T).val hr (by decide) hf,_,rfl,_,rfl,ho,L,st,q,ns,c,rfl,hq,hnl,hm,hh,ok,hno,k⟩
   rw [aF e15] at hm
   by_cases e16:n=16
   . subst e16
     rw [aD rfl] at hm
     obtain⟨f,hf,hv⟩:=hn.get (n:=16) (x:="call_merge") rfl
     exact⟨_,rfl,Sum.inl 16,_,rfl,hv,f,aBt K a,rfl,(aRt T).val hr (by decide) hf,_,rfl,_,rfl,ho,L,st,q,ns,c,rfl,hq,hnl,hm,hh,ok,hno,k⟩
   rw [aF e16] at hm
   by_cases e17:n=17
   . subst e17
     rw [aD rfl] at hm
     obtain⟨f,hf,hv⟩:=hn.get (n:=17) (x:="call_keep") rfl
     exact⟨_,rfl,Sum.inl 17,_,rfl,hv,f,aGd K a,rfl,(aWf T).val hr (by decide) hf,_,rfl,_,rfl,ho,L,st,q,ns,c,rfl,hq,hnl,hm,hh,ok,hno,k⟩
   rw [aF e17] at hm
   by_cases e24:n=24
   . subst e24
     rw [aD rfl] at hm
     obtain⟨f,hf,hv⟩:=hn.get (n:=24) (x:="call_streams") rfl
     exact⟨_,rfl,Sum.inl 24,_,rfl,hv,f,vP K a,rfl,(aLj T).val hr (by decide) hf,_,rfl,_,rfl,ho,L,st,q,ns,c,rfl,hq,hnl,hm,hh,ok,hno,k⟩
   rw [aF e24] at hm
   cases hm
def wX (K:aA) (a:Adr):L2.Sp:=bFf M.bIt a
theorem wU:bA ["house","number","numbers"] ["house","number","numbers"] (aV lY):=by decide+kernel
theorem wQ (T:Txt P w K mg a):Ok P w K mg base 7 "answer_packet_call" ["house","number","numbers"] (wX K a):=by
 refine T.xN.ok wU (fun vs H Q E h=> ?_) (fun f cdv A outer s H vs Q E hr h=> ?_)
 . obtain⟨ho,L,st,n,q,ns,c,rfl,_⟩:=h
   rfl
 . obtain⟨ho,L,st,n,q,ns,c,rfl,hq,hnl,hm,hh,ok,hno,k⟩:=h
   obtain⟨kv,hx_CALLS_packet_calls,hn⟩:=T.zT
   refine⟨_,(aM (aU (aFf (yD (pv 1) rfl hx_CALLS_packet_calls) (aJ (pv 0) (aJ (pv 2) aL))))),?_⟩;symm
   unfold M.bIt at hm
   by_cases e3:n=3
   . subst e3
     rw [aD rfl] at hm
     obtain⟨f,hf,hv⟩:=hn.get (n:=3) (x:="call_packet") rfl
     exact⟨_,rfl,Sum.inl 3,_,rfl,hv,f,yR K a,rfl,(aPh T).val hr (by decide) hf,_,rfl,_,rfl,ho,L,st,q,ns,c,rfl,hq,hnl,hm,hh,ok,hno,k⟩
   rw [aF e3] at hm
   by_cases e5:n=5
   . subst e5
     rw [aD rfl] at hm
     obtain⟨f,hf,hv⟩:=hn.get (n:=5) (x:="call_flip") rfl
     exact⟨_,rfl,Sum.inl 5,_,rfl,hv,f,aGb K a,rfl,(aWd T).val hr (by decide) hf,_,rfl,_,rfl,ho,L,st,q,ns,c,rfl,hq,hnl,hm,hh,ok,hno,k⟩
   rw [aF e5] at hm
   by_cases e6:n=6
   . subst e6
     rw [aD rfl] at hm
     obtain⟨f,hf,hv⟩:=hn.get (n:=6) (x:="call_burst") rfl
     exact⟨_,rfl,Sum.inl 6,_,rfl,hv,f,aBr K a,rfl,(aRr T).val hr (by decide) hf,_,rfl,_,rfl,ho,L,st,q,ns,c,rfl,hq,hnl,hm,hh,ok,hno,k⟩
   rw [aF e6] at hm
   by_cases e7:n=7
   . subst e7
     rw [aD rfl] at hm
     obtain⟨f,hf,hv⟩:=hn.get (n:=7) (x:="call_lose") rfl
     exact⟨_,rfl,Sum.inl 7,_,rfl,hv,f,aGe K a,rfl,(aWg T).val hr (by decide) hf,_,rfl,_,rfl,ho,L,st,q,ns,c,rfl,hq,hnl,hm,hh,ok,hno,k⟩
   rw [aF e7] at hm
   by_cases e8:n=8
   . subst e8
     rw [aD rfl] at hm
     obtain⟨f,hf,hv⟩:=hn.get (n:=8) (x:="call_twice") rfl
     exact⟨_,rfl,Sum.inl 8,_,rfl,hv,f,aBv K a,rfl,(aRv T).val hr (by decide) hf,_,rfl,_,rfl,ho,L,st,q,ns,c,rfl,hq,hnl,hm,hh,ok,hno,k⟩
   rw [aF e8] at hm
   by_cases e10:n=10
   . subst e10
     rw [aD rfl] at hm
     obtain⟨f,hf,hv⟩:=hn.get (n:=10) (x:="call_give") rfl
     exact⟨_,rfl,Sum.inl 10,_,rfl,hv,f,aGc K a,rfl,(aWe T).val hr (by decide) hf,_,rfl,_,rfl,ho,L,st,q,ns,c,rfl,hq,hnl,hm,hh,ok,hno,k⟩
   rw [aF e10] at hm
   cases hm
inductive yP (vs:List V) (H:Hp) (Q:VK):Prop|mk (n:Int) (q:Addr) (ns:List Int) (c:Vbfaae.Call) (z0:vs=[.int n,.ref q]) (z1:H q=some (.lst (iv ns))) (z2:ns.length<=2000) (z3:M.bCt n ns=some c) (z4: ∀(H':Hp) (r:Addr) (ans:List Int),(∀st,Vbfaae.step st c=(st,ans))->bJ H H'->H r=none->H' r=some (.lst (iv ans))->Q (.ref r) H') def aAv (K:aA) (a:Adr):L2.Sp:=fun vs H Q _=>yP vs H Q
theorem aAp:bA ["number","numbers"] ["number","numbers"] (aV oR):=by decide+kernel
theorem aAm (T:Txt P w K mg a):Ok P w K mg base 5 "answer_lone_call" ["number","numbers"] (aAv K a):=by
 refine T.aCm.ok aAp (fun vs H Q E h=> ?_) (fun f cdv A outer s H vs Q E hr h=> ?_)
 . obtain⟨n,q,ns,c,rfl,_⟩:=h
   rfl
 . obtain⟨n,q,ns,c,rfl,hq,hnl,hm,k⟩:=h
   obtain⟨kv,hx_CALLS_lone_calls,hn⟩:=T.qR
   refine⟨_,(aM (aU (aFf (yD (pv 0) rfl hx_CALLS_lone_calls) (aJ (pv 1) aL)))),?_⟩;symm
   unfold M.bCt at hm
   by_cases e20:n=20
   . subst e20
     rw [aD rfl] at hm
     obtain⟨f,hf,hv⟩:=hn.get (n:=20) (x:="call_check") rfl
     exact⟨_,rfl,Sum.inl 20,_,rfl,hv,f,aBs K a,rfl,(aRs T).val hr (by decide) hf,_,rfl,q,ns,c,rfl,hq,hnl,hm,k⟩
   rw [aF e20] at hm
   by_cases e21:n=21
   . subst e21
     rw [aD rfl] at hm
     obtain⟨f,hf,hv⟩:=hn.get (n:=21) (x:="call_code") rfl
     exact⟨_,rfl,Sum.inl 21,_,rfl,hv,f,aFy K a,rfl,(aWa T).val hr (by decide) hf,_,rfl,q,ns,c,rfl,hq,hnl,hm,k⟩
   rw [aF e21] at hm
   by_cases e22:n=22
   . subst e22
     rw [aD rfl] at hm
     obtain⟨f,hf,hv⟩:=hn.get (n:=22) (x:="call_predict") rfl
     exact⟨_,rfl,Sum.inl 22,_,rfl,hv,f,vO K a,rfl,(aLi T).val hr (by decide) hf,_,rfl,q,ns,c,rfl,hq,hnl,hm,k⟩
   rw [aF e22] at hm
   cases hm
def bGs (K:aA) (a:Adr):L2.Sp:=bFf M.aOx a
theorem bGo:bA ["house","number","numbers"] ["house","number","numbers"] (aV aUh):=by decide+kernel
theorem bGj (T:Txt P w K mg a):Ok P w K mg base 11 "answer" ["house","number","numbers"] (bGs K a):=by
 refine T.bHr.ok bGo (fun vs H Q E h=> ?_) (fun f cdv A outer s H vs Q E hr h=> ?_)
 . obtain⟨ho,L,st,n,q,ns,c,rfl,_⟩:=h
   rfl
 . obtain⟨ho,L,st,n,q,ns,c,rfl,hq,hnl,hm,hh,ok,hno,k⟩:=h
   refine⟨_,(aK (bR (cT (aP (aCy T) hr (by decide) rfl (aJ (pv 1) aL))) (aM (aU (aP (uI T) hr (by decide) rfl (aJ (pv 0) (aJ (pv 1) (aJ (pv 2) aL)))))) bB) (aK (bR (cT (aP (aFa T) hr (by decide) rfl (aJ (pv 1) aL))) (aM (aU (aP (wR T) hr (by decide) rfl (aJ (pv 0) (aJ (pv 1) (aJ (pv 2) aL)))))) bB) (aK (bR (cT (aP (aLo T) hr (by decide) rfl (aJ (pv 1) aL))) (aM (aU (aP (aAm T) hr (by decide) rfl (aJ (pv 1) (aJ (pv 2) aL))))) bB) (aM (aU (aP (wQ T) hr (by decide) rfl (aJ (pv 0) (aJ (pv 1) (aJ (pv 2) aL))))))))),?_⟩;symm
   unfold M.aOx at hm
   refine⟨_,rfl,n,rfl,_,rfl,?_⟩
   cases h1:M.bIm n with
   |true=>
    rw [aD h1] at hm
    exact bI rfl ⟨_,rfl,_,rfl,_,rfl,ho,L,st,n,q,ns,c,rfl,hq,hnl,hm,hh,ok,hno,k⟩
   |false=>
    rw [aF (by rw [h1];decide)] at hm
    refine bK (by decide) ⟨_,rfl,n,rfl,_,rfl,?_⟩
    cases h2:M.isStr n with
    |true=>
     rw [aD h2] at hm
     exact bI rfl ⟨_,rfl,_,rfl,_,rfl,ho,L,st,n,q,ns,c,rfl,hq,hnl,hm,hh,ok,hno,k⟩
    |false=>
     rw [aF (by rw [h2];decide)] at hm
     refine bK (by decide) ⟨_,rfl,n,rfl,_,rfl,?_⟩
     cases h3:M.bCj n with
     |true=>
      rw [aD h3] at hm
      refine bI rfl ⟨_,rfl,_,rfl,n,q,ns,c,rfl,hq,hnl,hm,fun H' r ans e s1 hr h1=> ?_⟩
      rw [e st] at k
      exact k H' L r (Kept.refl s1) (hh.same s1) (.inl hr) h1
     |false=>
      rw [aF (by rw [h3];decide)] at hm
      exact bK (by decide) ⟨_,rfl,_,rfl,_,rfl,ho,L,st,n,q,ns,c,rfl,hq,hnl,hm,hh,ok,hno,k⟩
theorem aTo {l:List Int} {i:Nat} {n:Int} (h:l[i]? =some n):(iv l)[i]? =some (V.int n):=by
 rw [List.getElem?_map,h];rfl
theorem bKv {p:Int} {n k:Nat} (h:PyVbfaae.shape p=some (n,k)):dO ([(Sum.inl 0,V.int 3),(Sum.inl 1,V.int 1),(Sum.inl 2,V.int 3),(Sum.inl 3,V.int 2),(Sum.inl 4,V.int 1),(Sum.inl 5,V.int 4),(Sum.inl 6,V.int 4),(Sum.inl 7,V.int 2),(Sum.inl 8,V.int 2),(Sum.inl 9,V.int 1),(Sum.inl 10,V.int 1),(Sum.inl 11,V.int 1),(Sum.inl 12,V.int 1),(Sum.inl 13,V.int 1),(Sum.inl 14,V.int 3),(Sum.inl 15,V.int 2),(Sum.inl 16,V.int 2),(Sum.inl 17,V.int 2),(Sum.inl 18,V.int 1),(Sum.inl 19,V.int 2),(Sum.inl 20,V.int 0),(Sum.inl 21,V.int 2),(Sum.inl 22,V.int 4),(Sum.inl 23,V.int 0),(Sum.inl 24,V.int 0)]:List (Key×V)) (Sum.inl p)=some (V.int (n:Int)):=by
 exact M.lA (C:=fun p n _=>dO _ (Sum.inl p)=some (V.int (n:Int))) h ⟨rfl,rfl,rfl,rfl,rfl,rfl,rfl,rfl,rfl,rfl,rfl,rfl,rfl,rfl,rfl,rfl,rfl,rfl,rfl,rfl,rfl,rfl,rfl,rfl,rfl,trivial⟩
theorem bJv {p:Int} {n k:Nat} (h:PyVbfaae.shape p=some (n,k)):inV (V.int p) (iv [0,10,20])=decide (k=1):=by
 exact M.lA (C:=fun p _ k=>inV (V.int p) (iv [0,10,20])=decide (k=1)) h ⟨rfl,rfl,rfl,rfl,rfl,rfl,rfl,rfl,rfl,rfl,rfl,rfl,rfl,rfl,rfl,rfl,rfl,rfl,rfl,rfl,rfl,rfl,rfl,rfl,rfl,trivial⟩
inductive aSt (K:aA) (vs:List V) (H:Hp) (Q:VK):Prop|mk (q:Addr) (l:List Int) (i n k:Nat) (p:Int) (z0:vs=[.ref q,.int i]) (z1:SqL K H q (iv l)) (z2:l[i]? =some p) (z3:PyVbfaae.shape p=some (n,k)) (z4:Q (.int ((i+1+n:Nat):Int)) H) def aXn (K:aA) (a:Adr):L2.Sp:=fun vs H Q _=>aSt K vs H Q
theorem aWz:bA ["calls","at"] ["calls","at"] (aV aHf):=by decide+kernel
theorem aFd (T:Txt P w K mg a):Ok P w K mg base 1 "row_place" ["calls","at"] (aXn K a):=by
 refine T.aZa.ok aWz (fun vs H Q E h=> ?_) (fun f cdv A outer s H vs Q E hr h=> ?_)
 . obtain⟨q,l,i,n,kk,p,rfl,_⟩:=h
   rfl
 . obtain⟨q,l,i,n,kk,p,rfl,hq,hp,hs,k⟩:=h
   refine⟨_,(aM (aU (bG cR (bG cR (pv 1) aN) (yD (bZ bD (pv 0) (pv 1) (fun _ _=>rfl)) rfl T.bBo)))),?_⟩;symm
   have e:((i+1+n:Nat):Int)=(i:Int)+1+(n:Int):=by omega
   rw [e] at k
   exact⟨_,rfl,_,_,rfl,rfl,_,rfl,_,rfl,q,_,_,_,rfl,rfl,hq,at_of (j:=i) rfl (aTo hp),Sum.inl p,_,rfl,bKv hs,_,_,rfl,rfl,k⟩
inductive aXe (K:aA) (vs:List V) (H:Hp) (Q:VK):Prop|mk (q:Addr) (l:List Int) (i:Nat) (p:Int) (n k:Nat) (xs row:List Int) (j:Nat) (z0:vs=[.ref q,.int i]) (z1:SqL K H q (iv l)) (z2:M.aMx l i p n k xs row j) (z3:Q (.int (j:Int)) H) def bAt (K:aA) (a:Adr):L2.Sp:=fun vs H Q _=>aXe K vs H Q
theorem aKl:bA ["calls","at","place"] ["calls","at"] (aV aKm):=by decide+kernel
theorem bAa (T:Txt P w K mg a):Ok P w K mg base 2 "call_end" ["calls","at"] (bAt K a):=by
 refine T.bBz.ok aKl (fun vs H Q E h=> ?_) (fun f cdv A outer s H vs Q E hr h=> ?_)
 . obtain⟨q,l,i,p,n,kk,xs,row,j,rfl,_⟩:=h
   rfl
 . obtain⟨q,l,i,p,n,kk,xs,row,j,rfl,hq,oc,k⟩:=h
   refine⟨_,(aK (aZ (i:=2) aKl.nd rfl (Or.inl rfl) (aP (aFd T) hr (by decide) rfl (aJ (pv 0) (aJ (pv 1) aL)))) (aK (bR (bC aIt (bZ bD (pv 0) (pv 1) (fun _ _=>rfl)) (bJi rfl T.aQy) (by with_unfolding_all rfl)) (aM (aU (bG cR (bG cR (pv 2) aN) (bZ bD (pv 0) (pv 2) (fun _ _=>rfl))))) bB) (aM (aU (pv 2))))),?_⟩;symm
   have hp:=oc.at_
   refine⟨_,rfl,_,rfl,q,l,i,n,kk,p,rfl,hq,hp,oc.sh,?_⟩
   refine⟨_,rfl,_,rfl,q,_,_,_,rfl,rfl,hq,at_of (j:=i) rfl (aTo hp),fun t ht=>⟨t,_,rfl,.inr (ht _),rfl,rfl,_,rfl,?_⟩⟩
   rw [bJv oc.sh]
   rcases oc.row with⟨rfl,_,hj⟩|⟨rfl,m,hm,_,_,hj⟩
   . refine bK (by decide) ⟨_,rfl,?_⟩
     rw [hj] at k
     exact k
   . refine bI rfl ?_
     have e:(j:Int)=((i+1+n:Nat):Int)+1+(m:Int):=by omega
     rw [e] at k
     exact⟨_,rfl,_,_,rfl,rfl,_,rfl,_,rfl,q,_,_,_,rfl,rfl,hq,at_of (j:=i+1+n) rfl (aTo hm),_,_,rfl,rfl,k⟩
inductive aJa (K:aA) (vs:List V) (H:Hp) (Q:VK):Prop|mk (q:Addr) (l:List Int) (i:Nat) (p:Int) (n k:Nat) (xs row:List Int) (j:Nat) (z0:vs=[.ref q,.int i]) (z1:SqL K H q (iv l)) (z2:l.length<=16000) (z3:M.aMx l i p n k xs row j) (z4:sI H Q (iv (xs++row))) def aLz (K:aA) (a:Adr):L2.Sp:=fun vs H Q _=>aJa K vs H Q
theorem jX:bA ["calls","at","place","numbers"] ["calls","at"] (aV vQ):=by decide+kernel
theorem aLf (T:Txt P w K mg a):Ok P w K mg base 2 "call_numbers" ["calls","at"] (aLz K a):=by
 refine T.aNo.ok jX (fun vs H Q E h=> ?_) (fun f cdv A outer s H vs Q E hr h=> ?_)
 . obtain⟨q,l,i,p,n,kk,xs,row,j,rfl,_⟩:=h
   rfl
 . obtain⟨q,l,i,p,n,kk,xs,row,j,rfl,hq,hl,oc,k⟩:=h
   refine⟨_,(aK (aZ (i:=2) jX.nd rfl (Or.inl rfl) (aP (aFd T) hr (by decide) rfl (aJ (pv 0) (aJ (pv 1) aL)))) (aK (aZ (i:=3) jX.nd rfl (Or.inl rfl) (iU lV (pv 0) (gH (bG cR (pv 1) aN)) (gH (pv 2)))) (aK (bR (bC aIt (bZ bD (pv 0) (pv 1) (fun _ _=>rfl)) (bJi rfl T.aQy) (by with_unfolding_all rfl)) (aM (aZ (i:=3) jX.nd rfl (Or.inl rfl) (bG iJ (pv 3) (iU lV (pv 0) (gH (bG cR (pv 2) aN)) (gH (bG cR (bG cR (pv 2) aN) (bZ bD (pv 0) (pv 2) (fun _ _=>rfl)))))))) bB) (aM (aU (pv 3)))))),?_⟩;symm
   have hp:=oc.at_
   have hil:=(List.getElem?_eq_some_iff.mp hp).1
   refine⟨_,rfl,_,rfl,q,l,i,n,kk,p,rfl,hq,hp,oc.sh,?_⟩
   refine⟨_,rfl,_,rfl,_,_,rfl,rfl,_,rfl,_,rfl,_,rfl,q,_,rfl,hq,fun t ht=> ?_⟩
   have e1:oV (iv l) (some ((i:Int)+1)) (some ((i+1+n:Nat):Int))=iv xs:=by
    have e:((i:Int)+1)=((i+1:Nat):Int):=by omega
    rw [e,sX,oc.eq,show i+1+n-(i+1)=n by omega]
    simp [iv]
   rw [e1]
   have S1:=bM (.lst (iv xs)) ht
   have ht1:upd H t (.lst (iv xs)) t=some (.lst (iv xs)):=aO
   generalize upd H t (.lst (iv xs))=H1 at*
   have hq1:=S1.seq hq
   refine⟨_,rfl,_,rfl,q,_,_,_,rfl,rfl,hq1,at_of (j:=i) rfl (aTo hp),fun tt htt=>⟨tt,_,rfl,.inr (htt _),rfl,rfl,_,rfl,?_⟩⟩
   rw [bJv oc.sh]
   have hn:=M.bFe oc.sh
   have hxl:=oc.len
   rcases oc.row with⟨rfl,hr0,hj⟩|⟨rfl,m,hm,hrow,hrl,hj⟩
   . refine bK (by decide) ⟨_,rfl,?_⟩
     rw [hr0,List.append_nil] at k
     exact k _ _ S1 ht ht1
   . refine bI rfl ?_
     have hle:=oc.le
     refine⟨_,rfl,_,rfl,_,rfl,_,_,rfl,rfl,_,rfl,_,rfl,_,_,rfl,rfl,_,rfl,_,rfl,q,_,_,_,rfl,rfl,hq1,at_of (j:=i+1+n) rfl (aTo hm),_,_,rfl,rfl,_,rfl,q,_,rfl,hq1,fun t2 ht2=> ?_⟩
     have e2:oV (iv l) (some (((i+1+n:Nat):Int)+1)) (some (((i+1+n:Nat):Int)+1+(m:Int)))=iv row:=by
      have e:(((i+1+n:Nat):Int)+1)=((i+1+n+1:Nat):Int):=by omega
      have e':(((i+1+n:Nat):Int)+1+(m:Int))=((i+1+n+1+m:Nat):Int):=by omega
      rw [e',e,sX,hrow,show i+1+n+1+m-(i+1+n+1)=m by omega]
      simp [iv]
     rw [e2]
     refine⟨t,t2,_,_,rfl,rfl,cI ht2 ht1,aO,cF (by simp;omega),fun r hr=> ?_⟩
     refine⟨_,rfl,k _ _ (S1.trans ((bM _ ht2).trans (bM _ hr))) (S1.free (cG hr)) ?_⟩
     rw [aO]
     simp [iv]
theorem bQ.aTx {a:Adr} {H:Hp} {ho:Addr} {L:Lay} {st:aB} (h:bQ a H ho L st) {b:Addr} (hb:Own ho L st b): ∃ob,H b=some ob:=by
 rcases hb with rfl|rfl|rfl|⟨k,x,hx,hb⟩
 . obtain⟨dx,e⟩:=h.ob;exact⟨_,e⟩
 . obtain⟨kvs,e,_⟩:=h.pd;exact⟨_,e⟩
 . obtain⟨kvs,e,_⟩:=h.srs.di;exact⟨_,e⟩
 . obtain⟨ob,e,_⟩:=(h.srs.at_ k x hx).some_ b hb;exact⟨_,e⟩
theorem bQ.off {a:Adr} {H:Hp} {ho:Addr} {L:Lay} {st:aB} (h:bQ a H ho L st) {b:Addr} (o:HO) (n1: ¬Own ho L st b) (n2: ¬aHl L st b):bQ a (upd H b o) ho L st:=by
 refine⟨?_,?_,fun k p hp=> ?_,⟨?_,fun k x hx=> ?_⟩,h.nds,h.nd,h.ndS,h.ndP,h.ndH,h.ndHP⟩
 . obtain⟨dx,e⟩:=h.ob
   exact⟨dx,by rw [aR (fun z=>n1 (.inl z.symm))];exact e⟩
 . obtain⟨kvs,e,r⟩:=h.pd
   exact⟨kvs,by rw [aR (fun z=>n1 (.inr (.inl z.symm)))];exact e,r⟩
 . obtain⟨⟨dx,e1⟩,e2⟩:=h.pics k p hp
   have m: ∀c∈adP (L.gp k),c≠b:=fun c hc z=>n2 ⟨k,p,hp,z ▸ hc⟩
   exact⟨⟨dx,by rw [aR (m _ (by simp [adP]))];exact e1⟩,by rw [aR (m _ (by simp [adP]))];exact e2⟩
 . obtain⟨kvs,e,r⟩:=h.srs.di
   exact⟨kvs,by rw [aR (fun z=>n1 (.inr (.inr (.inl z.symm))))];exact e,r⟩
 . exact(h.srs.at_ k x hx).keep fun c hc ob e=>by
    have ne:c≠b:=fun z=>n1 (.inr (.inr (.inr ⟨k,x,hx,by rw [<-z];exact hc⟩)))
    rw [aR ne];exact e
def xF (K:aA) (H:Hp) (q tl ho:Addr) (L:Lay) (st:aB) (xs:List V):Prop:=(∀H,SqL K H q xs)\/((∃ob,H q=some ob)/\SqL K H q xs/\ ¬Own ho L st q/\q≠tl)
theorem xF.sq {K:aA} {H:Hp} {q tl ho:Addr} {L:Lay} {st:aB} {xs:List V} (h:xF K H q tl ho L st xs):SqL K H q xs:=by
 rcases h with h|h
 . exact h H
 . exact h.2.1
theorem bNi {K:aA} {H H':Hp} {q:Addr} {xs:List V} (h:SqL K H q xs) (e: ∀ob,H q=some ob->H' q=some ob):SqL K H' q xs:=by
 rcases h with(h|⟨o,h⟩)|h
 . exact .inl (.inl (e _ h))
 . exact .inl (.inr ⟨o,e _ h⟩)
 . exact .inr h
theorem xF.kept {K:aA} {H H':Hp} {q tl ho:Addr} {L L':Lay} {st st':aB} {xs:List V} (h:xF K H q tl ho L st xs) (k:Kept H H' ho L L' st st'):xF K H' q tl ho L' st' xs:=by
 rcases h with h|⟨⟨ob,h1⟩,h2,h3,h4⟩
 . exact .inl h
 . refine .inr ⟨⟨ob,k.fr q ob h1 h3⟩,bNi h2 (fun ob hb=>k.fr q ob hb h3),fun hO=> ?_,h4⟩
   rcases k.nw q hO with z|z
   . exact h3 z
   . rw [h1] at z;cases z
theorem xF.told {K:aA} {H:Hp} {q tl ho:Addr} {L:Lay} {st:aB} {xs:List V} (h:xF K H q tl ho L st xs) (o:HO):xF K (upd H tl o) q tl ho L st xs:=by
 rcases h with h|⟨⟨ob,h1⟩,h2,h3,h4⟩
 . exact .inl h
 . exact .inr ⟨⟨ob,by rw [aR h4];exact h1⟩,bNi h2 (fun ob hb=>by rw [aR h4];exact hb),h3,h4⟩
structure LoopAt (K:aA) (a:Adr) (l:List Int) (q ho tl:Addr) (i:Nat) (H:Hp):Prop where
 ex: ∃(L:Lay) (st:aB) (cs:List (List (List Int))) (f:Nat) (td:List Int),bQ a H ho L st/\M.bO st/\H tl=some (.lst (iv td))/\ ¬Own ho L st tl/\ ¬aHl L st tl/\xF K H q tl ho L st (iv l)/\
  PyFlat.calls PyVbfaae.shape f (l.drop i)=some cs/\PyInside.calls PyVbfaae.bound cs=true/\PyVbfaae.answers l=td++M.tX st cs
def aQx (K:aA) (a:Adr) (l:List Int) (q ho tl:Addr):Nat->L2.St->Hp->Prop:=fun m σ H=> ∃(i:Nat) (v4:Option V),σ=[some (.ref q),some (.ref ho),some (.ref tl),some (.int i),v4]/\m=l.length-i/\LoopAt K a l q ho tl i H
inductive bAs (K:aA) (vs:List V) (H:Hp) (Q:VK):Prop|mk (q:Addr) (l:List Int) (z0:vs=[.ref q]) (z1:SqL K H q (iv l)) (z2:l.length<=16000) (z3:PyVbfaae.answers_asked l=true) (z4: ∀(H':Hp) (r:Addr),H' r=some (.lst (iv (PyVbfaae.answers l)))->Q (.ref r) H') def aDo (K:aA) (a:Adr):L2.Sp:=fun vs H Q _=>bAs K vs H Q
theorem mO:bA ["calls","house","told","at","numbers"] ["calls"] (aV kO):=by decide+kernel
theorem bCh (T:Txt P w K mg a) {f0:Addr} {fd0:FuncData} (F0:Fun K "answers" "answers" kO f0 fd0):aAi P w K mg base CX0 12 f0 fd0 ["calls"] (aDo K a):=by
 refine F0.ok mO (fun vs H Q E h=> ?_) (fun cdv A outer s H vs Q E hr h=> ?_)
 . obtain⟨q,l,rfl,_⟩:=h
   rfl
 . obtain⟨q,l,rfl,hq,hl,hask,k⟩:=h
   refine⟨_,(aK (aZ (i:=1) mO.nd rfl (Or.inl rfl) (aIv T.aW (aEy T) hr (by decide) rfl)) (aK (aZ (i:=2) mO.nd rfl (Or.inl rfl) (bU aL)) (aK (aZ (i:=3) mO.nd rfl (Or.inl rfl) aN) (aK (tL PassesOwn.never (bC dI (pv 3) (bL bH (by rfl) T.dC PySem.boot_len (aJ (pv 0) aL)) (bF _)) (aK (aZ (i:=4) mO.nd rfl (Or.inl rfl) (aP (bGj T) hr (by decide) rfl (aJ (pv 1) (aJ (bZ bD (pv 0) (pv 3) (fun _ _=>rfl)) (aJ (aP (aLf T) hr (by decide) rfl (aJ (pv 0) (aJ (pv 3) aL))) aL))))) (aK (fB (rB PySem.F.plainAttrs_list PySem.F.slot_list_append PySem.F.type_list_append mK (pv 2) (aJ (bL bH (by rfl) T.dC PySem.boot_len (aJ (pv 4) aL)) aL))) (aK (fB (rB PySem.F.plainAttrs_list PySem.F.slot_list_extend PySem.F.type_list_extend tD (pv 2) (aJ (pv 4) aL))) (aM (aZ (i:=3) mO.nd rfl (Or.inl rfl) (aP (bAa T) hr (by decide) rfl (aJ (pv 0) (aJ (pv 3) aL))))))))) (aM (aU (pv 2))))))),?_⟩;symm
   obtain⟨cs0,hc0,hb0,he0,hal⟩:=M.bHn hask
   intro ho dx hho hdx hne
   refine⟨ho,dx,rfl,aO,fun H1 L1 hh1 hdp hds kp1=>⟨rfl,?_⟩⟩
   have s1:=bJ.made hho hdx kp1
   refine⟨Nat.zero_le _,fun tl htl=> ?_⟩
   have n1: ¬Own ho L1 Vbfaae.start tl:=fun hO=>by
    obtain⟨ob,e⟩:=hh1.aTx hO
    rw [htl] at e;cases e
   have n2: ¬aHl L1 Vbfaae.start tl:=fun⟨k,p,hp,_⟩=>by cases hp
   have c1:xF K H1 q tl ho L1 Vbfaae.start (iv l):=by
    rcases hq with hq|hq
    . obtain⟨ob,hob⟩: ∃ob,H q=some ob:=by
       rcases hq with h|⟨o,h⟩
       . exact⟨_,h⟩
       . exact⟨_,h⟩
      have hob1:=s1 _ _ hob
      refine .inr ⟨⟨ob,hob1⟩,s1.seq (.inl hq),fun hO=> ?_,fun e=>by rw [e,htl] at hob1;cases hob1⟩
      rcases hO with e|e|e|⟨k,x,hx,_⟩
      . rw [e,hho] at hob;cases hob
      . have:=cG (cG hdp)
        rw [<-e,hob] at this;cases this
      . have:=cG (cG hds)
        rw [<-e,hob] at this;cases this
      . cases hx
    . exact .inl fun _=> .inr hq
   refine aHk (aQx K a l q ho tl) (l.length-0) ⟨0,_,rfl,rfl,⟨L1,Vbfaae.start,cs0,l.length,[],hh1.off _ n1 n2,M.bKd,aO,n1,n2,c1.told _,hc0,hb0,he0⟩⟩ ?_
   rintro m σ H' ⟨i,v4,rfl,rfl,⟨L,st,cs,f,td,hh,ok,htd,n1,n2,ca,hcs,hb,he⟩⟩
   refine⟨_,rfl,_,rfl,q,_,rfl,.inl ca.sq,_,_,rfl,rfl,_,rfl,?_⟩
   rw [aG]
   by_cases hi:i<l.length
   . refine bI (by rw [aC];omega) ?_
     refine⟨fun σ' H1=> ∃m',m'<l.length-i/\aQx K a l q ho tl m' σ' H1,fun σ' H1 h=>h,?_⟩
     obtain⟨p,n,kk,xs,row,j,c,cs',f',kc,oc,hij,rfl,hcs',hb',hco,hmk,hlen⟩:=M.bBv hcs hi hb
     rw [M.bHf st cs' hco] at he
     have hal2:=hal
     rw [he] at hal2
     simp only [List.length_append,List.length_cons] at hal2
     have sz:sizeLine=16777216:=sizeLine_eq
     refine⟨_,rfl,_,rfl,_,rfl,q,_,_,_,rfl,rfl,ca.sq,at_of (j:=i) rfl (aTo oc.at_),_,rfl,_,rfl,q,l,i,p,n,kk,xs,row,j,rfl,ca.sq,hl,oc,fun H3 nq s3 hn3 h3=> ?_⟩
     have hnq: ¬Own ho L st nq:=fun hO=>by
      obtain⟨ob,e⟩:=hh.aTx hO
      rw [hn3] at e;cases e
     have ht3:=s3 _ _ htd
     have ca3:xF K H3 q tl ho L st (iv l):=ca.kept (Kept.refl s3)
     refine⟨ho,L,st,p,nq,xs++row,kc,rfl,h3,hlen,hmk,hh.same s3,ok,hnq,fun H4 L4 r kp hh4 hro h4=> ?_⟩
     have ht4:=kp.fr _ _ ht3 n1
     have m1: ¬Own ho L4 (Vbfaae.step st kc).1 tl:=fun hO=>by
      rcases kp.nw _ hO with z|z
      . exact n1 z
      . rw [ht3] at z;cases z
     have m2: ¬aHl L4 (Vbfaae.step st kc).1 tl:=fun hO=>by
      rcases kp.pw _ hO with z|z
      . exact n2 z
      . rw [ht3] at z;cases z
     have nrt:r≠tl:=fun e=>by
      rcases hro with z|z
      . rw [e,ht3] at z;cases z
      . exact n1 (e ▸ z)
     have ca4:=ca3.kept kp
     refine⟨_,rfl,.inl ⟨rfl,_,SqL.of ht4⟩,_,rfl,r,_,rfl,.inl (SqL.of h4),tl,_,_,rfl,rfl,ht4,(by rw [aG];omega),?_⟩
     refine⟨_,rfl,.inl ⟨rfl,_,SqL.of aO⟩,_,rfl,tl,r,_,_,rfl,rfl,aO,(by rw [aR nrt];exact h4),(by simp;omega),?_⟩
     rw [aAh]
     have ca5:=ca4.told (.lst ((iv td++[V.int ((iv (Vbfaae.step st kc).2).length:Nat)])++iv (Vbfaae.step st kc).2))
     refine⟨_,rfl,_,rfl,q,l,i,p,n,kk,xs,row,j,rfl,ca5.sq,oc,?_⟩
     refine⟨l.length-j,by omega,j,_,rfl,rfl,⟨L4,_,cs',f',td++(((Vbfaae.step st kc).2.length:Int)::(Vbfaae.step st kc).2),hh4.off _ m1 m2,M.bMr ok kc,?_,m1,m2,ca5,hcs',hb',?_⟩⟩
     . rw [aO];simp [iv]
     . rw [he,List.append_assoc]
   . refine bK (by rw [aC];omega) ?_
     have:=M.bFq hcs (by omega)
     subst this
     rw [M.bKp,List.append_nil] at he
     refine⟨_,rfl,k _ _ ?_⟩
     rw [he];exact htd
theorem bQf {h:Heap} {x:Str} {st:Stmt} {ps:List Str} {f:Addr} {oc:Value} {od an:Option Addr} {osl:Array (Option Value)} {kV doc pm cdv ct:Value} (X:K.In h) (G:h.Ns mainGlobals mg) (e:PySem.W.nsIn K mainGlobals x=some (some (.ref f)))
 (l:K.lookup f=some ⟨oc,od,.func (PySem.W.fnOf x x (oW st) (jQ st) (aV st) .none kV doc pm an cdv ct),osl⟩) (c:PySem.W.codeIn K cdv x=true) (k:PySem.W.keepIn K (.ref f)=true)
 (b: ∀(kV doc pm:Value) (an:Option Addr) (cdv ct:Value) (us:List Value),us.length=ps.length->bindArgs (PySem.W.fnOf x x (oW st) (jQ st) (aV st) .none kV doc pm an cdv ct) ⟨us,[]⟩=pure (ps.zip us)):Df K mg x st ps:=
 ⟨⟨f,_,PySem.W.mg_of X G e,aOo l c k,(aOo (st:=st) l c k).binds b⟩⟩
theorem bQx {x q:Str} {st:Stmt} {ps:List Str} {f C:Addr} {oc:Value} {od an:Option Addr} {osl:Array (Option Value)} {kV doc pm cdv ct:Value} (e:PySem.W.findIn K (.ref C) x=some (some (.ref f))) (i:PySem.W.isFn K (.ref f)=true)
 (l:K.lookup f=some ⟨oc,od,.func (PySem.W.fnOf x q (oW st) (jQ st) (aV st) .none kV doc pm an cdv ct),osl⟩) (c:PySem.W.codeIn K cdv q=true) (k:PySem.W.keepIn K (.ref f)=true)
 (b: ∀(kV doc pm:Value) (an:Option Addr) (cdv ct:Value) (us:List Value),us.length=ps.length->bindArgs (PySem.W.fnOf x q (oW st) (jQ st) (aV st) .none kV doc pm an cdv ct) ⟨us,[]⟩=pure (ps.zip us)):Me K C x q st ps:=
 ⟨⟨f,_,⟨e,i,k⟩,aOo l c k,(aOo (st:=st) l c k).binds b⟩⟩
def bOv (K:aA) (C:Addr) (f:Str):Bool:=match PySem.W.findIn K (.ref C) f with
 |some none=>true
 |_=>false
theorem bLt {K:aA} {C:Addr} {f:Str} (h:bOv K C f=true):pK K C f:=by
 unfold bOv at h
 unfold pK
 split at h
 . assumption
 . cases h
theorem bQc {h:Heap} {x:Str} {C:Addr} {fs:List Str} (X:K.In h) (G:h.Ns mainGlobals mg) (e:PySem.W.nsIn K mainGlobals x=some (some (.ref C))) (pg:PySem.W.plainGet K C Str.empty=true) (hd:PySem.W.hasDictIn K C=true) (po:PySem.W.plainOver K C=true)
 (sa:PySem.W.findIn K (.ref C) "__setattr__"=some (some (.builtin "object.__setattr__"))) (mk:PySem.W.makesIn K C=true) (kc:PySem.W.keepIn K (.ref C)=true) (no:(fs.all fun f=>bOv K C f)=true):Ca K mg x C fs:=
 ⟨⟨pg,hd,po,sa⟩,PySem.W.mg_of X G e,fun f hf=>bLt (List.all_eq_true.mp no f hf),mk,kc⟩
theorem bQk {h:Heap} {x:Str} {i:Int} {t:Tok} (X:K.In h) (G:h.Ns mainGlobals mg) (e:PySem.W.nsIn K mainGlobals x=some (some (.int i t))):GI mg x i:=⟨t,PySem.W.mg_of X G e⟩
def aVx:List Value->List Int->Bool
 |[],[]=>true
 | .int i _::r,j::s=>decide (i=j)&&aVx r s
 |_,_=>false
theorem aJy: ∀{vs:List Value} {ns:List Int},aVx vs ns=true->Vals (iv ns) vs
 |[],[],_=> .nil
 |v::r,j::s,h=>by
  cases v<;>simp only [aVx,Bool.and_eq_true,aC,Bool.false_eq_true] at h
  obtain⟨rfl,h2⟩:=h
  exact .cons ⟨_,rfl⟩ (aJy h2)
 |[],_::_,h=>by cases h
 |v::r,[],h=>by cases v<;>cases h
theorem bQm {h:Heap} {x:Str} {ns:List Int} {d:Addr} {dd:Option Addr} {its:Array Value} {n:Nat} {sl:Array (Option Value)} (X:K.In h) (G:h.Ns mainGlobals mg) (e:PySem.W.nsIn K mainGlobals x=some (some (.ref d))) (l:K.lookup d=some ⟨.type "tuple",dd,.seq its n,sl⟩)
 (z:decide (its.size<=sizeLine)=true) (v:aVx its.toList ns=true):GT K mg x (iv ns):=
 ⟨⟨d,PySem.W.mg_of X G e,fun H=> .inr ⟨_,its,n,l,rfl,rfl,of_decide_eq_true z,aJy v⟩⟩⟩
def bOh:Value->Option V
 | .int i _=>some (.int i)
 | .ref a=>some (.ref a)
 |_=>none
def bEj (e:DictEntry) (k:Int) (v:V):Bool:=match e.key with
 | .int i _=>decide (i=k)&&decide (e.hash=hashInt k)&&decide (bOh e.val=some v)
 |_=>false
def aUo:List DictEntry->List (Int×V)->Bool
 |[],[]=>true
 |e::r,p::s=>bEj e p.1 p.2&&aUo r s
 |_,_=>false
theorem bIa {u:Value} {v:V} (h:bOh u=some v):RelV v u:=by
 cases u<;>simp only [bOh,Option.some.injEq,reduceCtorEq] at h<;>subst h
 . exact⟨_,rfl⟩
 . rfl
theorem bHz {e:DictEntry} {k:Int} {v:V} (h:bEj e k v=true):(∃t,e.key= .int k t)/\e.hash=hashInt k/\RelV v e.val:=by
 unfold bEj at h
 split at h
 . next i t hk=>
   simp only [Bool.and_eq_true,aC] at h
   obtain⟨⟨rfl,h2⟩,h3⟩:=h
   exact⟨⟨t,hk⟩,h2,bIa h3⟩
 . cases h
theorem bBd: ∀{es:List DictEntry} {ps:List (Int×V)},aUo es ps=true->(∀e∈es,∃k,aBg k e.key=true/\e.hash=bQs w k)/\ ∃vs:List (Key×Value),KV (ps.map fun p=>((Sum.inl p.1:Key),p.2)) vs/\PySem.Pairs (eQ P w) es vs/\vs.map (·.1)=ps.map fun p=>(Sum.inl p.1:Key)
 |[],[],_=>⟨fun e h=>(by cases h),[],.nil,.nil,rfl⟩
 |e::r,p::s,h=>by
  simp only [aUo,Bool.and_eq_true] at h
  obtain⟨⟨t,hk⟩,hh,hv⟩:=bHz h.1
  obtain⟨i1,vs,i2,i3,i4⟩:=bBd h.2
  have hi:aBg (Sum.inl p.1) e.key=true:=by rw [hk];exact aTp _ _
  refine⟨fun e' he'=> ?_,(Sum.inl p.1,e.val)::vs,.cons ⟨rfl,hv⟩ i2,.cons hi rfl i3,by rw [List.map_cons,List.map_cons,i4]⟩
  rcases List.mem_cons.mp he' with rfl|he'
  . exact⟨Sum.inl p.1,hi,hh⟩
  . exact i1 e' he'
 |[],_::_,h=>by cases h
 |_::_,[],h=>by cases h
theorem bNc {h:Heap} {x:Str} {ps:List (Int×V)} {d:Addr} {es:Array DictEntry} {ep:Nat} (X:K.In h) (G:h.Ns mainGlobals mg) (e:PySem.W.nsIn K mainGlobals x=some (some (.ref d))) (hd:(d==sysModules)=false) (l:K.lookup d=some ⟨.type "dict",none,.dict es ep,#[]⟩)
 (t:aUo es.toList ps=true) (nd:decide (ps.map (·.1)).Nodup=true):GD P w K mg x (ps.map fun p=>((Sum.inl p.1:Key),p.2)):=by
 obtain⟨h1,vs,h2,h3,h4⟩:=bBd (P:=P) (w:=w) t
 refine⟨⟨d,PySem.W.mg_of X G e,hd,fun h' hK=>⟨vs,h2,_,es,ep,hK _ _ l,⟨rfl,rfl,rfl⟩,rfl,fun e' he'=>h1 e' (by simpa using he'),h3,?_⟩⟩⟩
 rw [h4]
 have hn:(ps.map (·.1)).Nodup:=of_decide_eq_true nd
 have:(ps.map fun p=>(Sum.inl p.1:Key))=(ps.map (·.1)).map Sum.inl:=by rw [List.map_map];rfl
 rw [this]
 exact List.pairwise_map.mpr (hn.imp fun {a b} hne e=>hne (Sum.inl.inj e))
def bMx (K:aA):List DictEntry->List (Int×Str)->Bool
 |[],[]=>true
 |e::r,p::s=>(match e.val with
  | .ref a=>bEj e p.1 (.ref a)&&(match PySem.W.nsIn K mainGlobals p.2 with
   |some (some (.ref b))=>decide (a=b)
   |_=>false)
  |_=>false)&&bMx K r s
 |_,_=>false
theorem bFl {h:Heap} (X:K.In h) (G:h.Ns mainGlobals mg): ∀{es:List DictEntry} {ns:List (Int×Str)},bMx K es ns=true-> ∃ps:List (Int×V),aUo es ps=true/\ps.map (·.1)=ns.map (·.1)/\GN mg ns (ps.map fun p=>((Sum.inl p.1:Key),p.2))
 |[],[],_=>⟨[],rfl,rfl,trivial⟩
 |e::r,p::s,h=>by
  simp only [bMx,Bool.and_eq_true] at h
  obtain⟨h1,h2⟩:=h
  obtain⟨ps,i1,i2,i3⟩:=bFl X G h2
  split at h1
  . next a hv=>
    rw [Bool.and_eq_true] at h1
    obtain⟨h3,h4⟩:=h1
    split at h4
    . next b hb=>
      have e:a=b:=of_decide_eq_true h4
      subst e
      refine⟨(p.1,.ref a)::ps,by simp only [aUo,h3,i1,Bool.and_self],by rw [List.map_cons,List.map_cons,i2],rfl,⟨a,PySem.W.mg_of X G hb,rfl⟩,i3⟩
    . cases h4
  . cases h1
 |[],_::_,h=>by cases h
 |_::_,[],h=>by cases h
theorem bQl {h:Heap} {x:Str} {ns:List (Int×Str)} {d:Addr} {es:Array DictEntry} {ep:Nat} (X:K.In h) (G:h.Ns mainGlobals mg) (e:PySem.W.nsIn K mainGlobals x=some (some (.ref d))) (hd:(d==sysModules)=false) (l:K.lookup d=some ⟨.type "dict",none,.dict es ep,#[]⟩)
 (t:bMx K es.toList ns=true) (nd:decide (ns.map (·.1)).Nodup=true): ∃kvs,GD P w K mg x kvs/\GN mg ns kvs:=by
 obtain⟨ps,h1,h2,h3⟩:=bFl X G t
 exact⟨_,bNc X G e hd l h1 (by rw [h2];exact nd),h3⟩
theorem bNy {h:Heap} {fa f3 c0 c1 c2 c3 c4 c5:Addr} {od3 an3:Option Addr} {sl3:Array (Option Value)} {oc3 kV3 dc3 pm3 cd3 ct3:Value} (X:K.In h) (G:h.Ns mainGlobals mg) (hfa:mg "answers"=some (.ref fa)) (e:PySem.W.nsIn K mainGlobals "answers"=some (some (.ref f3)))
 (l:K.lookup f3=some ⟨oc3,od3,.func (PySem.W.fnOf "answers" "answers" (oW kO) (jQ kO) (aV kO) .none kV3 dc3 pm3 an3 cd3 ct3),sl3⟩) (c:PySem.W.codeIn K cd3 "answers"=true) (k:PySem.W.keepIn K (.ref f3)=true) (e0:PySem.W.nsIn K mainGlobals "Contexts"=some (some (.ref c0))) (e1:PySem.W.nsIn K mainGlobals "Picture"=some (some (.ref c1))) (e2:PySem.W.nsIn K mainGlobals "Packet"=some (some (.ref c2))) (e3:PySem.W.nsIn K mainGlobals "Stream"=some (some (.ref c3))) (e4:PySem.W.nsIn K mainGlobals "Reading"=some (some (.ref c4))) (e5:PySem.W.nsIn K mainGlobals "House"=some (some (.ref c5))) (T:Txt P w K mg ⟨c0,c1,c2,c3,c4,c5⟩):
 ∃fd:FuncData,(∀(s:Shared) (us:List Value),us.length=(["calls"]:List Str).length->BindsTo s fd ⟨us,[]⟩ ((["calls"]:List Str).zip us))/\ ∀base:Heap,K.In base->base.Ns mainGlobals mg->aAi P w K mg base CX0 12 fa fd ["calls"] (aDo K ⟨0,0,0,0,0,0⟩):=by
 have e':=hfa.symm.trans (PySem.W.mg_of X G e)
 cases e'
 have F3:=aOo (st:=kO) l c k
 exact⟨_,fun s us hu=>match us,hu with|[_],_=> .of_eq rfl,fun base _ _=>bCh T F3⟩
theorem bd1 {α:Type} {P:List α->Prop} (h: ∀a,P [a]): ∀us:List α,us.length=1->P us
 |[a],_=>h a
theorem bd2 {α:Type} {P:List α->Prop} (h: ∀a b,P [a,b]): ∀us:List α,us.length=2->P us
 |[a,b],_=>h a b
theorem bd3 {α:Type} {P:List α->Prop} (h: ∀a b c,P [a,b,c]): ∀us:List α,us.length=3->P us
 |[a,b,c],_=>h a b c
theorem bd4 {α:Type} {P:List α->Prop} (h: ∀a b c d,P [a,b,c,d]): ∀us:List α,us.length=4->P us
 |[a,b,c,d],_=>h a b c d
theorem bd5 {α:Type} {P:List α->Prop} (h: ∀a b c d e,P [a,b,c,d,e]): ∀us:List α,us.length=5->P us
 |[a,b,c,d,e],_=>h a b c d e
theorem bd6 {α:Type} {P:List α->Prop} (h: ∀a b c d e f,P [a,b,c,d,e,f]): ∀us:List α,us.length=6->P us
 |[a,b,c,d,e,f],_=>h a b c d e f
end
end F
end
namespace PySem.W.Fast
def tw10221852919691159398:=Nat
def tw3244802063514018817:=Nat
def tw8622095495422940542:=Nat
def tw6535187717899019032:=Nat
def tw14411811479822408914:=Nat
def tw17834963006849852372:=Nat
def tw1562384324973403505:=Nat
def tw15076645175155194924:=Nat
def tw14524462716358466903:=Nat
def tw2161465749984469180:=Nat
def tw14863817883720791277:=Nat
def tw4355169200941585491:=Nat
def tw6223937410915221798:=Nat
def tw12737510785102134340:=Nat
def tw6786500339509153123:=Nat
def tw15433372404394516284:=Nat
def tw12329675420149895736:=Nat
def tw16898502959425548354:=Nat
def tw8041134220869575587:=Nat
def tw16156837177294862777:=Nat
def tw11890443672501861317:=Nat
def tw4345746974670683710:=Nat
def tw7361688833175564063:=Nat
def tw12173248926497134074:=Nat
def tw9066447734773821325:=Nat
def tw200607592817372915:=Nat
def tw15561301067678342241:=Nat
def tw1003692839338498497:=Nat
def tw7071207149582516576:=Nat
def tw1349035107824493355:=Nat
def tw4948288187818586485:=Nat
def tw12513789931775371104:=Nat
def tw3558014470442397899:=Nat
def tw12791105702829541744:=Nat
def tw17560189439171338213:=Nat
def tw10454460711644271764:=Nat
def tw17154116721788590911:=Nat
def tw4688881374628066123:=Nat
def tw12471056519999385721:=Nat
def tw5638652307840401060:=Nat
def tw919058805213860587:=Nat
def tw18417537420811836613:=Nat
def tw938835314498152316:=Nat
def tw15371611670150088918:=Nat
def tw6112339135670202661:=Nat
def tw2992534676319554164:=Nat
def tw9406544870230087452:=Nat
def tw11990492147008815718:=Nat
def tw3410855250797176093:=Nat
def tw10013596454938889720:=Nat
def tw4424189997574855934:=Nat
def tw1748186938059516000:=Nat
def tw2395477725796844541:=Nat
def tw11897467122202502457:=Nat
def tw481816438232545628:=Nat
def tw10432185355499228403:=Nat
def tw6300122354819585527:=Nat
def tw5895780537568074384:=Nat
def tw16162906638275467865:=Nat
def tw8913874833020550382:=Nat
def tw12475639723551188480:=Nat
def tw15020537750999373420:=Nat
def tw6935418000795602978:=Nat
def tw13463162773207390787:=Nat
def tw10638285570393521586:=Nat
def tw7042765224710063747:=Nat
def tw9716881919529308643:=Nat
def tw7193068757398140616:=Nat
def tw16875219053154588239:=Nat
def tw8715223885221659805:=Nat
def tw6240492806598936849:=Nat
def tw15634007437692143029:=Nat
def tw13981228554033622444:=Nat
def tw7230744021294799918:=Nat
def tw3658392895554845384:=Nat
def tw1645867011036559877:=Nat
def tw6429304585102021856:=Nat
def tw15845193773827528309:=Nat
def tw2025108196732275661:=Nat
def tw15206485398985411710:=Nat
def tw11109490845042654777:=Nat
def tw11920947432292027859:=Nat
def tw13695577467957814443:=Nat
def tw10268643305168856645:=Nat
def tw17902532201523112768:=Nat
def tw17734832299382960462:=Nat
def tw5227175748458403972:=Nat
def tw15764581233144528654:=Nat
def tw4083806056139754759:=Nat
def tw17809055614450841513:=Nat
def tw6941864201696612802:=Nat
def tw5913403053114295212:=Nat
def tw333784903391284230:=Nat
def tw6269184415818823641:=Nat
def tw10511197273021648403:=Nat
def tw8977027516181139814:=Nat
def tw501361115577175405:=Nat
def tw8998507680364364256:=Nat
def tw334945455100074253:=Nat
def tw14937875620985529757:=Nat
def tw12092955539619948860:=Nat
def tw16564207091004629253:=Nat
def tw4411400366248322943:=Nat
def tw3501528706407546053:=Nat
def tw15716163431325949233:=Nat
def tw7256476531664421522:=Nat
def tw866689783897644851:=Nat
def tw11917488965263883333:=Nat
def tw16436155536308565961:=Nat
def tw13220586432223161525:=Nat
def tw3523677899549386012:=Nat
def tw15071740898428845809:=Nat
def tw6462799594359410256:=Nat
def tw16531383471702789403:=Nat
def tw11539244601790236412:=Nat
def tw6238312307117190148:=Nat
def tw8405104530339670595:=Nat
def tw14224568732905102397:=Nat
def tw7455861980904281915:=Nat
def tw754188878449024944:=Nat
def tw6169860280854255755:=Nat
def tw17515109785863844346:=Nat
def tw9590428345877172112:=Nat
def tw16269224671234917143:=Nat
def tw11569962360071256765:=Nat
def tw3805930041207377753:=Nat
def tw9095327526024979739:=Nat
def tw8314504826660113996:=Nat
def tw3324993653305129714:=Nat
def tw9111638941413915843:=Nat
def tw4416285541258552634:=Nat
def tw8987163957197503928:=Nat
def tw10922331531558434873:=Nat
def tw789642849411792996:=Nat
def tw4891533263523896764:=Nat
def tw9719761927337008227:=Nat
def tw3731783404293666256:=Nat
def tw832861669533658817:=Nat
def tw15970209655195576120:=Nat
def tw7761878605937179549:=Nat
def tw13128644440627634192:=Nat
def tw5195462882579121203:=Nat
def tw13701728394880897455:=Nat
def tw17230237395986857610:=Nat
def tw8354839319070809693:=Nat
def tw13439155960073179594:=Nat
def tw8296947276733987657:=Nat
def tw1460328437188768747:=Nat
def tw7766361731615524626:=Nat
def tw16361372626140620119:=Nat
def tw2590181114130100934:=Nat
def tw14914226882964299714:=Nat
def tw12642929594634939081:=Nat
def tw7255069883561928906:=Nat
def tw10058438721326713551:=Nat
def tw2108198446903697399:=Nat
def tw11832242911239788992:=Nat
def tw7224574208071351833:=Nat
def tw2472394594207021968:=Nat
def tw13186929395067000586:=Nat
def tw4609461521115759167:=Nat
def tw9547736253235449506:=Nat
def tw12210507662651810622:=Nat
def tw9680167903297616371:=Nat
def tw11643043685561134480:=Nat
def tw11994834543184668645:=Nat
def tw6131350229353306148:=Nat
def tw2548632788248025844:=Nat
def tw6250688294293931209:=Nat
def tw9495975388934202642:=Nat
def tw1570901888497726596:=Nat
def tw12099327928604839192:=Nat
def tw11266809256426290283:=Nat
def tw12913338141272653464:=Nat
def tw4036901359087811848:=Nat
def tw12981641763319439685:=Nat
def tw16323915392430682113:=Nat
def tw9872792748087072603:=Nat
def tw5161947144163313662:=Nat
def tw9306034893139215519:=Nat
def tw15959813687201157039:=Nat
def tw15691653330830782181:=Nat
def tw11373983105062352574:=Nat
def tw7739199726769877980:=Nat
def tw2833698128007365534:=Nat
def tw13783381404660937707:=Nat
def tw14630900122597417866:=Nat
def tw17018667597188311459:=Nat
def tw16631662975610510940:=Nat
def tw3486346507007535558:=Nat
def tw7904739303823634234:=Nat
def tw7511797156854882781:=Nat
def tw8714972815506650029:=Nat
def tw6731427107136527483:=Nat
def tw3907095393902198823:=Nat
def tw696900480891593603:=Nat
def tw140847268973393624:=Nat
def tw2091775941047028832:=Nat
def tw1002741979209871136:=Nat
def tw15399521584877696080:=Nat
def tw837729229189535615:=Nat
def tw1333664809825511445:=Nat
def tw4746026127393801264:=Nat
def tw17290278418219132416:=Nat
def tw13909272557594577473:=Nat
def tw13971686061139263113:=Nat
def tw17183359482697598775:=Nat
def tw16092147004665967355:=Nat
def tw2735723615889901676:=Nat
def tw9424920878128922867:=Nat
def tw5958352248002083525:=Nat
def tw18376285497118795203:=Nat
def tw17794794837862561331:=Nat
def tw17173677783984816279:=Nat
def tw5937330842634710533:=Nat
def tw6550051510957320648:=Nat
def tw17744019548821988381:=Nat
def tw408212193119363012:=Nat
def tw7628208766839651925:=Nat
def tw9067982653392222706:=Nat
def tw4998511719175428648:=Nat
def tw63935078047782650:=Nat
def tw9711104945249435847:=Nat
def tw11197261224133756188:=Nat
def tw12820291612049633440:=Nat
def tw6353574840824704034:=Nat
def tw17291856691184302319:=Nat
def tw10782195771859347065:=Nat
def tw8617926237491561404:=Nat
def tw2430980866389287952:=Nat
def tw9533652563026416721:=Nat
def tw410733104013843596:=Nat
def tw15656141427429770759:=Nat
def tw16277455154127219434:=Nat
def tw4722998165524158653:=Nat
def tw2025225572131455231:=Nat
def tw8169308943404118085:=Nat
def tw9995301255278046809:=Nat
def tw8515307785366091332:=Nat
def tw2473503263623228102:=Nat
def tw9491752905518844074:=Nat
def tw1108055200613265668:=Nat
def tw10853184133537290724:=Nat
def tw10799909830202628712:=Nat
def tw15586232001450303350:=Nat
def tw684767098321862689:=Nat
def tw817834832628188331:=Nat
def tw8105364481728264912:=Nat
def tw14951525493585564754:=Nat
def tw7972584210411017749:=Nat
def tw7638901568710095188:=Nat
def tw872676203567671584:=Nat
def tw15895919944068695215:=Nat
def tw7046697326237942964:=Nat
def tw12341616486770851765:=Nat
def tw1337527031881177665:=Nat
def tw5654557726262811627:=Nat
def tw13229285116204829102:=Nat
def tw9195090432439181548:=Nat
def tw4418858355274581855:=Nat
def tw9402328925532604299:=Nat
def tw7870921441120243925:=Nat
def tw2829867135585270968:=Nat
def tw8697625923732270640:=Nat
def tw4720603959527508145:=Nat
def tw15467201949277815845:=Nat
def tw17805661867573915622:=Nat
def tw6321201508443956110:=Nat
def tw5906614609978311989:=Nat
def tw8378104716058742593:=Nat
def tw16358675884718513803:=Nat
def tw17426303947115159533:=Nat
def tw13800781030451375130:=Nat
def tw11192072575177836219:=Nat
def tw9165571510053106735:=Nat
def tw10969423075315965078:=Nat
def tw404119259555576197:=Nat
def tw14746530613151526573:=Nat
def tw7126684188525336795:=Nat
def tw2979809899897712436:=Nat
def tw17031839482116185770:=Nat
def tw3069596063065448367:=Nat
def tw14720330110861577476:=Nat
def tw9598214148616883506:=Nat
def tw14407833862284420620:=Nat
def tw6883330541560183960:=Nat
def tw10052394887478879184:=Nat
def tw18317085912880079418:=Nat
def tw11507634521619411512:=Nat
def tw2607629259842174003:=Nat
def tw6523582938895438035:=Nat
def tw2237805667981746182:=Nat
def tw15391367323515156772:=Nat
def tw11434014541726666225:=Nat
def tw15677156808153164447:=Nat
def tw5034962379426614945:=Nat
def tw8233871254408395854:=Nat
def tw2345258968794772787:=Nat
def tw9645911238315962921:=Nat
def tw6804191315679782339:=Nat
def tw248466505395717599:=Nat
def tw2908812413517702853:=Nat
def tw12404536254170401733:=Nat
def tw5919178149101383743:=Nat
def tw15190067354858871736:=Nat
def tw3076821613837707170:=Nat
def tw1718180165620110312:=Nat
def tw16766804726040451588:=Nat
def tw12891139398286679953:=Nat
def tw9151900495601804976:=Nat
def tw12221272684071219730:=Nat
def tw14742557140098533737:=Nat
def tw2607303807804414156:=Nat
def tw6443274327715023507:=Nat
def tw12445889996712583278:=Nat
def tw11988771550580002256:=Nat
def tw1778898160069435301:=Nat
def tw6770810959904351034:=Nat
def tw16902575841702450983:=Nat
def tw2217578750467385018:=Nat
end PySem.W.Fast
section
open PySem PySem.W PyProof.Rows
set_option maxHeartbeats 0
theorem kA : namesResolve PySem.Challenge.pw_packedframes_s01_answers = true := by decide +kernel
theorem kB : noRoadLSs { strict := !(importedModules PySem.Challenge.pw_packedframes_s01_answers.main.body).all cThrough.contains, foot := none, bare := (["vars", "dir", "locals"] : List Str).filter (readsOut PySem.Challenge.pw_packedframes_s01_answers PySem.Challenge.pw_packedframes_s01_answers.main.body) } PySem.Challenge.pw_packedframes_s01_answers.main.body = true := by decide +kernel
theorem kC : (namesMeet PySem.Challenge.pw_packedframes_s01_answers PySem.Challenge.pw_packedframes_s01_answers.main.body fun _ n => attrL n) = true := by decide +kernel
theorem kD : looksOpen PySem.Challenge.pw_packedframes_s01_answers = true := by
  unfold looksOpen
  rw [kA, kB, kC]
  decide +kernel
theorem kE : PySem.Challenge.rw_packedframes_s01_answers.wellSaid = true := by
  unfold OpenSpec.wellSaid
  have h : PySem.Challenge.rw_packedframes_s01_answers.prog = PySem.Challenge.pw_packedframes_s01_answers := rfl
  rw [h, kD]
  decide +kernel
theorem PySem.Challenge.cw_packedframes_s01_answers_holds : PySem.Challenge.rw_packedframes_s01_answers.Holds := by
  have kE := kE
  w_on; k_headS; (case hw => exact ⟨[.list [.int 23]], by decide +kernel, by decide +kernel⟩)
  k_fillS
  refine L2.bDw (r := PySem.Challenge.rw_packedframes_s01_answers) (k := 12) (CX := L2.CX0) (ps := ["calls"]) (sp := fun K => F.aDo K ⟨0, 0, 0, 0, 0, 0⟩) kE rfl rfl ⟨rfl, by decide, by decide⟩ (fun w h Y => PySem.W.kIn_of Y) ?F ?S (fun _ _ _ _ z => z)
  case F =>
    intro w mg fa h Y KX G hmg
    refine' F.bNy KX G hmg ?e ?l ?c ?k ?e0 ?e1 ?e2 ?e3 ?e4 ?e5 ?T
    (case e => k_is); (case l => k_is); (case c => k_is); (case k => k_is); (case e0 => k_is); (case e1 => k_is); (case e2 => k_is); (case e3 => k_is); (case e4 => k_is); (case e5 => k_is)
    case T =>
      constructor
      all_goals first
      | (refine' F.bQf KX G ?e ?l ?c ?k ?b; (case e => k_is); (case l => k_is); (case c => k_is); (case k => k_is); (case b => first | exact fun _ _ _ _ _ _ => F.bd1 fun _ => rfl | exact fun _ _ _ _ _ _ => F.bd2 fun _ _ => rfl | exact fun _ _ _ _ _ _ => F.bd3 fun _ _ _ => rfl | exact fun _ _ _ _ _ _ => F.bd4 fun _ _ _ _ => rfl | exact fun _ _ _ _ _ _ => F.bd5 fun _ _ _ _ _ => rfl | exact fun _ _ _ _ _ _ => F.bd6 fun _ _ _ _ _ _ => rfl))
      | (refine' F.bQk KX G ?e; (case e => k_is))
      | (refine' PySem.W.mg_none_of KX G ?e; (case e => k_is))
      | (refine' F.bQx ?e ?i ?l ?c ?k ?b; (case e => k_is); (case i => k_is); (case l => k_is); (case c => k_is); (case k => k_is); (case b => first | exact fun _ _ _ _ _ _ => F.bd1 fun _ => rfl | exact fun _ _ _ _ _ _ => F.bd2 fun _ _ => rfl | exact fun _ _ _ _ _ _ => F.bd3 fun _ _ _ => rfl | exact fun _ _ _ _ _ _ => F.bd4 fun _ _ _ _ => rfl | exact fun _ _ _ _ _ _ => F.bd5 fun _ _ _ _ _ => rfl | exact fun _ _ _ _ _ _ => F.bd6 fun _ _ _ _ _ _ => rfl))
      | (refine' F.bQc KX G ?e ?pg ?hd ?po ?sa ?mk ?kc ?no; (case e => k_is); (case pg => k_is); (case hd => k_is); (case po => k_is); (case sa => k_is); (case mk => k_is); (case kc => k_is); (case no => kernel_rfl))
      | (refine' F.bQm KX G ?e ?l ?z ?v; (case e => k_is); (case l => k_is); (case z => kernel_rfl); (case v => kernel_rfl))
      | (refine' F.bQl KX G ?e ?hd_ ?l ?t ?nd; (case e => k_is); (case hd_ => kernel_rfl); (case l => k_is); (case t => kernel_rfl); (case nd => kernel_rfl))
      | (refine' F.bNc (ps := [(0, .int 3), (1, .int 1), (2, .int 3), (3, .int 2), (4, .int 1), (5, .int 4), (6, .int 4), (7, .int 2), (8, .int 2), (9, .int 1), (10, .int 1), (11, .int 1), (12, .int 1), (13, .int 1), (14, .int 3), (15, .int 2), (16, .int 2), (17, .int 2), (18, .int 1), (19, .int 2), (20, .int 0), (21, .int 2), (22, .int 4), (23, .int 0), (24, .int 0)]) KX G ?e ?hd_ ?l ?t ?nd; (case e => k_is); (case hd_ => kernel_rfl); (case l => k_is); (case t => kernel_rfl); (case nd => kernel_rfl))
  case S =>
    intro K H xs a hO hwi hask hx
    cases hx with
    | cons h1 h2 =>
      cases h2
      cases h1 with
      | lst hs ha =>
        have e := L2.bEp a.1 _ ha
        subst e
        have q : ((Codec.inLen 0 16000 a.1 && a.1.all (Codec.inInt (-1000000000000000000) 1000000000000000000)) && true) = true := hwi
        rw [Bool.and_eq_true, Bool.and_eq_true] at q
        exact ⟨_, a.1, rfl, hs, (Codec.inNat_iff.mp q.1.1).2, hask, fun H' p hp => .lst (L2.SqL.of hp) (L2.bEi _)⟩
end
