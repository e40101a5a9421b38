import PyProof.Rows.All
import Wide.All
import OpenK.AllK
import Wide.FinOn
import Lean
import PyProof.EqAt
import PyProof.EqKinds
import PyProof.TupleCall
import PyProof.NeKinds
import KE.KTryMore
import PyProof.ExcBaseAll.ValueError
import OpenK.KOwn
import PyProof.ConsumeWalk
import KE.KIntText
import PyProof.EnumFor
import PyProof.EnumMake
import PyProof.StrWalks
import KE.KRevSl
import PyProof.ReprRoads
import PyProof.ReprBulk
import PyProof.Draws
import PyProof.TupleIter
import PyProof.WalksMore
import KE.KIsAll
import PyProof.RulesAs
import PyProof.NsDelKeeps
import PyProof.Rows.SetFrom
import PyProof.SetRoads
import PyProof.ListRange
import KE.KItemsList
import KE.KSortTup
import PyProof.Rows.MinMaxN
import PyProof.WalkInts
import PyProof.Rows.ListMulArg
import PyProof.Rows.SumAny
import PyProof.MaxThree
import PySem.Challenge.RW_glowcells_k36_whole_long_ways
set_option Elab.async false
set_option linter.all false
set_option maxRecDepth 100000
namespace L2
open PySem PySem.Spec PyProof.Rows
abbrev Key:=Sum Int Str
def Qjq:Key->Value->Bool
 |.inl k,v=>Value.isInt k v
 |.inr x,v=>Value.isStrOf x v
def Quq (w:World):Key->Int
 |.inl k=>hashInt k
 |.inr x=>hashStr w x
theorem QaU:∀ {k:Key} {v:Value},Qjq k v=true->(∃ i t,k=Sum.inl i/\v=Value.int i t)\/(∃ x t,k=Sum.inr x/\v=Value.str x t)
 |.inl i,v,h=>by
  obtain ⟨t,e⟩:=Value.isInt_shape (k:=i) (v:=v) h
  exact .inl ⟨i,t,rfl,e⟩
 |.inr x,v,h=>by
  obtain ⟨t,e⟩:=Value.isStrOf_shape (x:=x) (v:=v) h
  exact .inr ⟨x,t,rfl,e⟩
theorem Qmb (i:Int)(t:Tok):Qjq (.inl i) (.int i t)=true:=by simp [Qjq,Value.isInt]
theorem QlW (x:Str)(t:Tok):Qjq (.inr x) (.str x t)=true:=by simp [Qjq,Value.isStrOf]
theorem Qqz (a b:Int):decide ((Sum.inl a:Key)=Sum.inl b)=(a == b):=by
 by_cases e:a=b
 ·subst e;simp
 ·have h:¬ (Sum.inl a:Key)=Sum.inl b:=fun q=>e (Sum.inl.inj q)
  rw [decide_eq_false h]
  exact (beq_eq_false_iff_ne.mpr e).symm
theorem QrV (a b:Str):decide ((Sum.inr a:Key)=Sum.inr b)=decide (a=b):=by
 by_cases e:a=b
 ·subst e;simp
 ·have h:¬ (Sum.inr a:Key)=Sum.inr b:=fun q=>e (Sum.inr.inj q)
  rw [decide_eq_false h,decide_eq_false e]
theorem Qsj (a:Int)(b:Str):decide ((Sum.inl a:Key)=Sum.inr b)=false:=decide_eq_false (fun q=>nomatch q)
theorem Qrk (a:Str)(b:Int):decide ((Sum.inr a:Key)=Sum.inl b)=false:=decide_eq_false (fun q=>nomatch q)
def Qbk (prog:Program)(w:World):PySem.KeyKind prog w Key where
 is:=Qjq
 hash:=Quq w
 inj:=fun v a b ha hb=>by
  rcases QaU ha with ⟨i,t,rfl,rfl⟩ | ⟨x,t,rfl,rfl⟩
  ·rcases QaU hb with ⟨j,u,rfl,e⟩ | ⟨y,u,rfl,e⟩
   ·injection e with e1 _;rw [e1]
   ·exact nomatch e
  ·rcases QaU hb with ⟨j,u,rfl,e⟩ | ⟨y,u,rfl,e⟩
   ·exact nomatch e
   ·injection e with e1 _;rw [e1]
 byValue:=fun k v h=>by
  rcases QaU h with ⟨i,t,rfl,rfl⟩ | ⟨x,t,rfl,rfl⟩<;>rfl
 pyHash:=fun hv h=>by
  rcases QaU hv with ⟨i,t,rfl,rfl⟩ | ⟨x,t,rfl,rfl⟩
  ·exact wpAny_pyHash_int h
  ·exact wpAny_pyHash_str h
 eqBool:=fun hu hv h=>by
  rcases QaU hu with ⟨i,t,rfl,rfl⟩ | ⟨x,t,rfl,rfl⟩
  ·rcases QaU hv with ⟨j,u,rfl,rfl⟩ | ⟨y,u,rfl,rfl⟩
   ·rw [Qqz] at h;exact wpAny_eqBool_int h
   ·rw [Qsj] at h;exact SeqAt.EqAt.int_str i t y u _ _ _ _ h
  ·rcases QaU hv with ⟨j,u,rfl,rfl⟩ | ⟨y,u,rfl,rfl⟩
   ·rw [Qrk] at h;exact SeqAt.EqAt.str_int x t j u _ _ _ _ h
   ·rw [QrV] at h;exact wpAny_eqBool_str h
 «strs»:=fun k x t v h=>by
  rcases QaU h with ⟨i,u,rfl,e⟩ | ⟨y,u,rfl,e⟩
  ·exact nomatch e
  ·injection e with e1 _
   subst e1
   cases v<;>rfl
theorem Qil (prog:Program)(w:World)(i:Int)(t:Tok):(Qbk prog w).is (.inl i) (.int i t)=true:=Qmb i t
theorem Qim (prog:Program)(w:World)(x:Str)(t:Tok):(Qbk prog w).is (.inr x) (.str x t)=true:=QlW x t
inductive V where
 |non | bl (b:Bool) | int (i:Int) | str (x:Str) | byt (b:Array UInt8) | flt (b:UInt64) | ref (a:Addr) | ty (n:String)
 deriving DecidableEq
def RelV:V->Value->Prop
 |.non,u=>u=Value.none
 |.bl b,u=>u=Value.bool b
 |.int i,u=>∃ t,u=Value.int i t
 |.str x,u=>∃ t,u=Value.str x t
 |.byt b,u=>∃ t,u=Value.bytes b t
 |.flt b,u=>∃ t,u=Value.float b t
 |.ref a,u=>u=Value.ref a
 |.ty n,u=>u=Value.type n
abbrev Vals:List V->List Value->Prop:=Paired RelV
theorem Vals.length {xs:List V}{us:List Value}(r:Vals xs us):xs.length=us.length:=Paired.length r
theorem Vals.get:∀ {xs:List V} {us:List Value} {i:Nat} {x:V},Vals xs us->xs[i]? = some x->∃ u,us[i]? = some u/\RelV x u
 |_,_,_,_,.nil,e=>by simp at e
 |_,_,0,_,.cons r _,e=>by simp at e;subst e;exact ⟨_,rfl,r⟩
 |_,_,i+1,x,.cons _ t,e=>by
  obtain ⟨u,h1,h2⟩:=Vals.get (i:=i) (x:=x) t (by simpa using e)
  exact ⟨u,by simpa using h1,h2⟩
theorem Vals.set {x:V}{u:Value}(r:RelV x u):∀ {xs:List V} {us:List Value} (i:Nat),Vals xs us->Vals (xs.set i x) (us.set i u)
 |_,_,_,.nil=>.nil
 |_,_,0,.cons _ t=>.cons r t
 |_,_,i+1,.cons q t=>.cons q (Vals.set r i t)
theorem Vals.append:∀ {xs ys:List V} {us ws:List Value},Vals xs us->Vals ys ws->Vals (xs++ys) (us++ws)
 |_,_,_,_,.nil,s=>s
 |_,_,_,_,.cons r t,s=>.cons r (Vals.append t s)
theorem Vals.take:∀ {xs:List V} {us:List Value} (n:Nat),Vals xs us->Vals (xs.take n) (us.take n)
 |_,_,0,_=>.nil
 |_,_,_+1,.nil=>.nil
 |_,_,n+1,.cons r t=>.cons r (Vals.take n t)
theorem Vals.drop:∀ {xs:List V} {us:List Value} (n:Nat),Vals xs us->Vals (xs.drop n) (us.drop n)
 |_,_,0,r=>r
 |_,_,_+1,.nil=>.nil
 |_,_,n+1,.cons _ t=>Vals.drop n t
def RelO:Option V->Option Value->Prop
 |some v,some u=>RelV v u
 |none,none=>True
 |_,_=>False
def KV {κ:Type}:List (κ × V)->List (κ × Value)->Prop:=Paired fun (p:κ × V) (q:κ × Value)=>p.1=q.1/\RelV p.2 q.2
def kV:Key->V
 |.inl i=>.int i
 |.inr x=>.str x
inductive HO where
 /-- a list -/
 |lst (xs:List V)
 /-- a tuple (never changes) -/
 |tup (xs:List V)
 /-- a dict whose keys are ints and texts;one whose keys are tuples of ints and texts (the empty one is both) -/
 |dK (kvs:List (Key × V)) | dT (kvs:List (List Key × V))
 /-- a set of ints: its members,its size -/
 |set (S:Int->Bool) (n:Nat)
 /-- an instance of the class at C,its dict at dx,its attributes -/
 |ins (C dx:Addr) (fs:List (Str × V))
 /-- the dict of the instance at x -/
 |own (x:Addr)
 /-- the dict of an exception -/
 |xd (fs:List (Str × V))
 /-- a bound method,f of x -/
 |met (f x:Addr)
 /-- a range object lo,lo+1,.. below hi -/
 |rng (lo hi:Int)
 /-- a thing that is known to the object (the script;a dict while a loop walks it): read,never written while it is so -/
 |frz (o:Obj) (u:HO)
 /-- a code object's table -/
 |tbl (ps:Array Value)
 /-- any other thing,by what is true of its one object (a def of one's own: SetO a S n:=HO.ext fun h=>..) -/
 |ext (φ:Heap->Prop)
abbrev Hp:=Addr->Option HO
def upd (H:Hp)(a:Addr)(o:HO):Hp:=fun b=>if b=a then some o else H b
theorem Qap {H:Hp}{a:Addr}{o:HO}:upd H a o a=some o:=by unfold upd;rw [if_pos rfl]
theorem Qag {H:Hp}{a b:Addr}{o:HO}(h:b≠a):upd H a o b=H b:=by unfold upd;rw [if_neg h]
theorem QsW {H:Hp}{a b:Addr}{o u:HO}(h:H a=some o)(h':H b=some u)(d:o≠u):a≠b:=by
 intro e;subst e;rw [h] at h';exact d (Option.some.inj h')
theorem Qao {H:Hp}{a b:Addr}{o:HO}(h:H a=some o)(h':H b=none):a≠b:=by
 intro e;subst e;rw [h] at h';cases h'
section
variable (P:Program)(w:World)
def ObjOk (H:Hp)(h:Heap)(a:Addr):HO->Prop
 |.lst xs=>xs.length<=sizeLine/\∃ (its:List Value) (n:Nat),Vals xs its/\h.get? a=some { cls:=.type "list",data:=.seq its.toArray n }
 |.tup xs=>xs.length<=sizeLine/\∃ its:List Value,Vals xs its/\IsTup h a its.toArray
 |.dK kvs=>kvs.length<=sizeLine/\(a == sysModules)=false/\∃ vs,KV kvs vs/\h.DictOf (Qbk P w) a vs
 |.dT kvs=>kvs.length<=sizeLine/\(a == sysModules)=false/\∃ xs:List (List Key × Addr × Value),
   Paired (fun (p:List Key × V) (q:List Key × Addr × Value)=>p.1=q.1/\H q.2.1=some (.tup (p.1.map kV))/\RelV p.2 q.2.2) kvs xs/\
   ∃ o es ep,h.get? a=some o/\o.ExactDict/\o.data=.dict es ep/\es.toList=xs.map (entryOfKey (tupleKind (Qbk P w)))/\(xs.map (·.1)).Nodup
 |.set S n=>h.SetOf (intKind P w) a S n
 |.ins C dx fs=>H dx=some (.own a)/\fs.length<=1000/\dx≠a/\h.get? a=some (PySem.W.instObj C dx)/\
   ∃ mA,h.Ns1 dx mA/\(∀ f,RelO (fs.lookup f) (mA f))/\PySem.Within mA (fs.map (·.1))
 |.own _=>∃ o,h.get? a=some o
 |.xd fs=>∃ mA,h.Ns1 a mA/\∀ f,RelO (fs.lookup f) (mA f)
 |.rng lo hi=>∃ t u v,h.get? a=some { cls:=.type "range",data:=.fields #[.int lo t,.int hi u,.int 1 v] }
 |.frz o u=>h.get? a=some o/\ObjOk H h a u
 |.tbl ps=>h.get? a=some { cls:=.none,data:=.fields ps }
 |.met f x=>h.get? a=some (PySem.W.methodObj (.ref f) (.ref x))
 |.ext φ=>φ h/\(∃ o,h.get? a=some o)/\∀ h1 h2:Heap,φ h1->(∀ o,h1.get? a=some o->h2.get? a=some o)->φ h2
def HOk (H:Hp)(h:Heap):Prop:=∀ a o,H a=some o->ObjOk P w H h a o
end
section
variable {P:Program}{w:World}{H H':Hp}{h h':Heap}{a:Addr}{o:HO}
theorem ObjOk.lt (x:ObjOk P w H h a o):a<h.objs.size:=by
 cases o with
 |lst xs=>obtain ⟨_,_,_,_,e⟩:=x;exact Heap.lt_size e
 |tup xs=>obtain ⟨_,_,_,p⟩:=x;exact p.lt
 |dK kvs=>obtain ⟨_,_,_,_,o,_,_,e,_⟩:=x;exact Heap.lt_size e
 |dT kvs=>obtain ⟨_,_,_,_,o,_,_,e,_⟩:=x;exact Heap.lt_size e
 |set S n=>obtain ⟨o,_,_,_,e,_⟩:=x;exact Heap.lt_size e
 |ins C dx fs=>obtain ⟨_,_,_,e,_⟩:=x;exact Heap.lt_size e
 |own y=>obtain ⟨_,e⟩:=x;exact Heap.lt_size e
 |xd fs=>obtain ⟨_,⟨_,_,_,e,_⟩,_⟩:=x;exact Heap.lt_size e
 |rng lo hi=>obtain ⟨_,_,_,e⟩:=x;exact Heap.lt_size e
 |frz ob u=>obtain ⟨e,_⟩:=x;exact Heap.lt_size e
 |tbl ps=>exact Heap.lt_size (show h.get? a=some _ from x)
 |met f y=>exact Heap.lt_size (show h.get? a=some _ from x)
 |ext φ=>obtain ⟨_,⟨_,e⟩,_⟩:=x;exact Heap.lt_size e
theorem Paired.mapP {α β:Type}{F G:α->β->Prop}:∀ {l₁:List α} {l₂:List β},Paired F l₁ l₂->(∀ a b,F a b->G a b)->Paired G l₁ l₂
 |_,_,.nil,_=>.nil
 |_,_,.cons r t,f=>.cons (f _ _ r) (Paired.mapP t f)
theorem Paired.imp' {α β:Type}{F G:α->β->Prop}(f:∀ a b,F a b->G a b){l₁:List α}{l₂:List β}(r:Paired F l₁ l₂):Paired G l₁ l₂:=Paired.mapP r f
theorem ObjOk.stay (x:ObjOk P w H h a o)(k:∀ b u,(b=a\/H b=some (.own a))->h.get? b=some u->h'.get? b=some u)
  (ho:∀ b,H b=some (.own a)->H' b=some (.own a)) (ht:∀ b xs,H b=some (.tup xs)->H' b=some (.tup xs)):ObjOk P w H' h' a o:=by
 induction o with
 |lst xs=>obtain ⟨z,its,n,r,e⟩:=x;exact ⟨z,its,n,r,k _ _ (.inl rfl) e⟩
 |tup xs=>obtain ⟨z,its,r,ob,e,c⟩:=x;exact ⟨z,its,r,ob,k _ _ (.inl rfl) e,c⟩
 |dK kvs=>obtain ⟨z,y,vs,r,ob,es,ep,e,c⟩:=x;exact ⟨z,y,vs,r,ob,es,ep,k _ _ (.inl rfl) e,c⟩
 |dT kvs=>
  obtain ⟨z,y,xs,r,ob,es,ep,e,c⟩:=x
  exact ⟨z,y,xs,Paired.mapP r fun p q z=>⟨z.1,ht _ _ z.2.1,z.2.2⟩,ob,es,ep,k _ _ (.inl rfl) e,c⟩
 |set S n=>obtain ⟨ob,es,ep,t,e,c⟩:=x;exact ⟨ob,es,ep,t,k _ _ (.inl rfl) e,c⟩
 |ins C dx fs=>
  obtain ⟨d,z,ne,e,mA,⟨od,es,ep,e2,c⟩,r⟩:=x
  exact ⟨ho _ d,z,ne,k _ _ (.inl rfl) e,mA,⟨od,es,ep,k _ _ (.inr d) e2,c⟩,r⟩
 |own y=>obtain ⟨ob,e⟩:=x;exact ⟨ob,k _ _ (.inl rfl) e⟩
 |xd fs=>obtain ⟨mA,⟨od,es,ep,e,c⟩,r⟩:=x;exact ⟨mA,⟨od,es,ep,k _ _ (.inl rfl) e,c⟩,r⟩
 |rng lo hi=>obtain ⟨t,u,v,e⟩:=x;exact ⟨t,u,v,k _ _ (.inl rfl) e⟩
 |frz ob u ih=>obtain ⟨e,q⟩:=x;exact ⟨k _ _ (.inl rfl) e,ih q⟩
 |tbl ps=>
  have e:h.get? a=some { cls:=.none,data:=.fields ps }:=x
  show h'.get? a=some { cls:=.none,data:=.fields ps }
  exact k a _ (.inl rfl) e
 |met f y=>
  have e:h.get? a=some (PySem.W.methodObj (.ref f) (.ref y)):=x
  show h'.get? a=some (PySem.W.methodObj (.ref f) (.ref y))
  exact k a _ (.inl rfl) e
 |ext φ=>obtain ⟨p,⟨o,e⟩,st⟩:=x;exact ⟨st _ _ p fun o q=>k _ _ (.inl rfl) q,⟨o,k _ _ (.inl rfl) e⟩,st⟩
theorem HOk.lt (x:HOk P w H h)(e:H a=some o):a<h.objs.size:=(x a o e).lt
theorem HOk.fresh (x:HOk P w H h)(e:h.objs.size<=a):H a=none:=by
 cases q:H a with
 |none=>rfl
 |some u=>exact absurd (Nat.lt_of_lt_of_le (x.lt q) e) (Nat.lt_irrefl _)
theorem HOk.kept (x:HOk P w H h)(k:∀ b u,h.get? b=some u->h'.get? b=some u):HOk P w H h':=fun a o e=>
 (x a o e).stay (fun b u _ q=>k b u q) (fun _ q=>q) fun _ _ q=>q
theorem HOk.laid (x:HOk P w H h)(k:∀ b u,h.get? b=some u->h'.get? b=some u)(hp:h.objs.size<=a)(new:ObjOk P w (upd H a o) h' a o):HOk P w (upd H a o) h':=fun b u e=>by
 have hn:=x.fresh hp
 by_cases hb:b=a
 ·subst hb;rw [Qap] at e;cases e;exact new
 ·rw [Qag hb] at e
  exact (x b u e).stay (fun c v _ q=>k c v q) (fun c q=>by rw [Qag (Qao q hn)];exact q) fun c xs q=>by rw [Qag (Qao q hn)];exact q
end
def Rd (H:Hp)(a:Addr)(u:HO):Prop:=H a=some u\/∃ o,H a=some (.frz o u)
theorem Rd.ok {P:Program}{w:World}{H:Hp}{h:Heap}{a:Addr}{u:HO}(r:Rd H a u)(x:HOk P w H h):ObjOk P w H h a u:=by
 rcases r with r | ⟨o,r⟩
 ·exact x a u r
 ·obtain ⟨_,q⟩:=x a _ r
  exact q
def Mut:Option HO->Prop
 |some (.lst _)=>True
 |some (.dK _)=>True
 |some (.dT _)=>True
 |some (.set _ _)=>True
 |some (.ins _ _ _)=>True
 |some (.ext _)=>True
 |_=>False
section
variable {P:Program}{w:World}{H:Hp}{h h':Heap}{x e:Addr}{o':HO}
theorem HOk.write (ok:HOk P w H h)(mu:Mut (H x))(he:e=x\/H e=some (.own x))(k:∀ b u,b≠e->h.get? b=some u->h'.get? b=some u)(heo:∃ u,h'.get? e=some u)
  (new:ObjOk P w (upd H x o') h' x o'):HOk P w (upd H x o') h':=fun b u q=>by
 have nown:∀ c y,H c=some (.own y)->c≠x:=fun c y r z=>by subst z;rw [r] at mu;exact mu
 have ntup:∀ c xs,H c=some (.tup xs)->c≠x:=fun c xs r z=>by subst z;rw [r] at mu;exact mu
 by_cases hb:b=x
 ·subst hb;rw [Qap] at q;cases q;exact new
 ·rw [Qag hb] at q
  by_cases hbe:b=e
  ·have q':H b=some (.own x):=by
    rcases he with z | z
    ·exact absurd (hbe.trans z) hb
    ·rw [hbe];exact z
   rw [q] at q';cases q'
   obtain ⟨v,hv⟩:=heo
   exact ⟨v,by rw [hbe];exact hv⟩
  ·refine (ok b u q).stay (fun c v hc r=>k c v ?_ r) (fun c r=>by rw [Qag (nown c b r)];exact r) fun c xs r=>by rw [Qag (ntup c xs r)];exact r
   rcases hc with rfl | hc
   ·exact hbe
   ·rintro rfl
    rcases he with z | z
    ·exact nown c b hc z
    ·rw [hc] at z;cases z;exact hb rfl
end
structure Un (fs ex:List Addr)(H H':Hp)(h h':Heap):Prop where
 keep:∀ b o,h.get? b=some o->H b=none->b∉fs->b∉ex->h'.get? b=some o
 slot:∀ b o,h.get? b=some o->H b=none->b∈fs->b∉ex->∃ sl,h'.get? b=some { o with slots:=sl }
 free:∀ b o,h.get? b=some o->H b=none->b∉ex->H' b=none
 there:∀ b o,h.get? b=some o->b∉ex->∃ o',h'.get? b=some o'
 tups:∀ b xs,H b=some (.tup xs)->H' b=some (.tup xs)
 frzs:∀ b o u,H b=some (.frz o u)->H' b=some (.frz o u)
 tbls:∀ b ps,H b=some (.tbl ps)->∃ more,H' b=some (.tbl (ps++more))
section
variable {fs ex:List Addr}{H H1:Hp}{h h1 h':Heap}{a x e:Addr}{o:HO}
theorem Un.any (u:Un fs ex H H1 h h1){b:Addr}{ob:Obj}(q:h.get? b=some ob)(n:H b=none)(hx:b∉ex):∃ sl,h1.get? b=some { ob with slots:=sl }:=by
 by_cases hb:b∈fs
 ·exact u.slot b ob q n hb hx
 ·exact ⟨ob.slots,u.keep b ob q n hb hx⟩
theorem Un.kept (k:∀ b u,h.get? b=some u->h'.get? b=some u):Un fs ex H H h h':=
 ⟨fun b ob q _ _ _=>k b ob q,fun b ob q _ _ _=>⟨ob.slots,k b ob q⟩,fun _ _ _ n _=>n,fun b ob q _=>⟨ob,k b ob q⟩,fun _ _ q=>q,fun _ _ _ q=>q,fun _ ps q=>⟨#[],by rw [q];simp⟩⟩
theorem Un.refl:Un fs ex H H h h:=Un.kept fun _ _ q=>q
theorem Un.laid (k:∀ b u,h.get? b=some u->h'.get? b=some u)(hp:h.objs.size<=a)(hn:H a=none):Un fs ex H (upd H a o) h h' where
 keep:=fun b u q _ _ _=>k b u q
 slot:=fun b u q _ _ _=>⟨u.slots,k b u q⟩
 free:=fun b u q n _=>by rw [Qag (Nat.ne_of_lt (Nat.lt_of_lt_of_le (Heap.lt_size q) hp))];exact n
 there:=fun b u q _=>⟨u,k b u q⟩
 tups:=fun b xs q=>by rw [Qag (Qao q hn)];exact q
 frzs:=fun b u xs q=>by rw [Qag (Qao q hn)];exact q
 tbls:=fun b ps q=>⟨#[],by rw [Qag (Qao q hn),q];simp⟩
theorem Un.write (mu:Mut (H x))(he:e=x\/H e=some (.own x))(k:∀ b u,b≠e->h.get? b=some u->h'.get? b=some u)(heo:∃ u,h'.get? e=some u):Un fs ex H (upd H x o) h h':=by
 have hx:∀ b,H b=none->b≠x:=fun b n z=>by subst z;rw [n] at mu;exact mu
 have hb:∀ b,H b=none->b≠e:=fun b n z=>by
  subst z
  rcases he with r | r
  ·exact hx b n r
  ·rw [n] at r;cases r
 have hm:∀ b u,H b=some u->¬ Mut (some u)->b≠x:=fun b u q nm z=>by subst z;rw [q] at mu;exact nm mu
 refine ⟨fun b u q n _ _=>k b u (hb b n) q,fun b u q n _ _=>⟨u.slots,k b u (hb b n) q⟩,fun b u q n _=>by rw [Qag (hx b n)];exact n,fun b u q _=>?_,
  fun b xs q=>by rw [Qag (hm b _ q fun z=>z)];exact q,fun b u xs q=>by rw [Qag (hm b _ q fun z=>z)];exact q,fun b ps q=>⟨#[],by rw [Qag (hm b _ q fun z=>z),q];simp⟩⟩
 by_cases hbe:b=e
 ·subst hbe;exact heo
 ·exact ⟨u,k b u hbe q⟩
end
def trk (h:Heap)(H:Hp):List Addr:=(List.range h.objs.size).filter fun a=>(H a).isSome
def Qm9 (h:Heap)(H:Hp):Heap:=PySem.W.hideAll h (trk h H)
theorem Qlb (h:Heap)(H:Hp):(Qm9 h H).objs.size=h.objs.size:=PySem.W.hideAll_size _ _
theorem QmL {h:Heap}{H:Hp}{b:Addr}{o:Obj}(e:h.get? b=some o)(n:H b=none):(Qm9 h H).get? b=some o:=
 PySem.W.hideAll_get _ e fun hm=>by
  have q:(H b).isSome=true:=(List.mem_filter.mp hm).2
  rw [n] at q;simp at q
theorem QpD {h:Heap}{H:Hp}{b:Addr}{o:Obj}(e:(Qm9 h H).get? b=some o):h.get? b=some o/\H b=none:=by
 have e':h.get? b=some o:=PySem.W.of_hideAll (trk h H) e
 refine ⟨e',?_⟩
 cases q:H b with
 |none=>rfl
 |some x=>
  have hm:b∈trk h H:=List.mem_filter.mpr ⟨List.mem_range.mpr (Heap.lt_size e'),by simp [q]⟩
  have z:(Qm9 h H).get? b=none:=PySem.W.hideAll_none (trk h H) hm
  rw [z] at e;cases e
structure Mod (K:PySem.W.Frag)(mg:Str->Option Value)(base:Heap):Prop where
 kin:K.In base
 glob:base.Ns mainGlobals mg
 blt:∃ mb,base.Ns builtinsNs mb/\∀ x:Str,x ≠ "__name__" -> mb x=bootBuiltins x
 nolimit:base.NoLimit
structure Cx where
 prog:Program
 w:World
 K:PySem.W.Frag
 mg:Str->Option Value
 base:Heap
 A:Around
 N:List Str
 s₀:Shared
 H₀:Hp
 env:Env
 outer:List Env
 stack:List Env
 ex:List Addr
 fn:Str->Bool
 calm:Bool
 pn:List (Addr × Obj)
 xe:Value->Shared->Prop
def frs (l:List Env):List Addr:=l.filterMap (·.frame)
abbrev Cx.fs (X:Cx):List Addr:=frs X.outer
def Vis (sc:Scope)(x:Str):Prop:=sc.names.lookup x=some .local\/sc.names.lookup x=some .cell\/sc.names.lookup x=some .free
def Loc (sc:Scope)(x:Str):Prop:=sc.names.lookup x=some .local\/sc.names.lookup x=some .cell
def Qus (env:Env)(h:Heap)(m:Str->Option Value)(x:Str)(u:Value):Prop:=
 (env.kindOf x=some .local/\m x=some u)\/((env.kindOf x=some .cell\/env.kindOf x=some .free)/\∃ c,env.cells.lookup x=some c/\h.IsCell c (some u))
structure Cx.Ok (X:Cx):Prop where
 mod:Mod X.K X.mg X.base
 kind:X.env.scope.kind=.function
 glob:X.env.globals=mainGlobals
 blt:X.env.builtins=builtinsNs
 above:X.s₀.heap.objs.size<=X.env.locals
 inj:∀ x y c,X.env.cells.lookup x=some c->X.env.cells.lookup y=some c->x=y
 has:∀ x,(X.env.kindOf x=some .cell\/X.env.kindOf x=some .free)->∃ c,X.env.cells.lookup x=some c
 cab:∀ x c,X.fn x=true->X.env.cells.lookup x=some c->X.s₀.heap.objs.size<=c
 hd:X.calm=true->X.A.handled=none
 frames:X.A.frames=some X.stack
 stk:X.stack=X.outer\/(X.stack=X.env :: X.outer/\X.env.frame=some X.env.locals)
 exf:∀ b∈X.ex,b≠X.env.locals/\∀ x c,X.env.cells.lookup x=some c->c≠b
 bs:∀ b o,X.base.get? b=some o->X.s₀.heap.get? b=some o/\X.H₀ b=none
 bsz:X.base.objs.size<=X.s₀.heap.objs.size
 noex:∀ b o,X.base.get? b=some o->b∉X.ex
 exfs:∀ b∈X.ex,b∉X.fs
 funs:X.s₀.heap.FunFrames X.base X.outer
 frf:∀ b∈X.fs,X.H₀ b=none
structure Inv (X:Cx)(pins:List (Addr × Obj))(σ:List (Option V))(H:Hp)(s:Shared):Prop where
 ok:X.Ok
 os:s.os=X.s₀.os
 bare:AllBare s.gens
 base:Un X.fs X.ex X.H₀ H X.s₀.heap s.heap
 loc:∃ m,s.heap.Ns X.env.locals m/\∀ (i:Nat) (x:Str) (v:V),X.N[i]? = some x->σ[i]? = some (some v)->Vis X.env.scope x->∃ u,RelV v u/\Qus X.env s.heap m x u
 cell:∀ x c,X.env.cells.lookup x=some c->∃ v,s.heap.IsCell c v
 free:H X.env.locals=none
 freeC:∀ x c,X.env.cells.lookup x=some c->H c=none
 pin:∀ p∈X.pn++pins,s.heap.get? p.1=some p.2/\H p.1=none/\p.1≠X.env.locals/\p.1∉X.fs/\∀ v,p.2.data≠.cell v
 hok:HOk X.prog X.w H s.heap
 len:σ.length=X.N.length
section
variable {X:Cx}{pins:List (Addr × Obj)}{σ:List (Option V)}{H H':Hp}{s:Shared}{h':Heap}
theorem Cx.Ok.nofr (ok:X.Ok){b:Addr}{o:Obj}(e:X.base.get? b=some o):b∉X.fs:=fun hb=>by
 have:=(ok.funs.mem hb).1
 rw [e] at this;cases this
theorem Inv.bs (I:Inv X pins σ H s):∀ b o,X.base.get? b=some o->s.heap.get? b=some o/\H b=none:=fun b o e=>
 ⟨I.base.keep b o (I.ok.bs b o e).1 (I.ok.bs b o e).2 (I.ok.nofr e) (I.ok.noex b o e),I.base.free b o (I.ok.bs b o e).1 (I.ok.bs b o e).2 (I.ok.noex b o e)⟩
theorem Inv.bk (I:Inv X pins σ H s):∀ b o,X.base.get? b=some o->s.heap.get? b=some o:=fun b o e=>(I.bs b o e).1
theorem Inv.mod (I:Inv X pins σ H s):Mod X.K X.mg X.base:=I.ok.mod
theorem Inv.kIn (I:Inv X pins σ H s):X.K.In s.heap:=I.ok.mod.kin.keeps I.bk
theorem Inv.lt (I:Inv X pins σ H s):X.env.locals<s.heap.objs.size:=let ⟨_,hn,_⟩:=I.loc;hn.lt
theorem Inv.sz (I:Inv X pins σ H s):X.s₀.heap.objs.size<=s.heap.objs.size:=Nat.le_trans I.ok.above (Nat.le_of_lt I.lt)
theorem Inv.nofs (I:Inv X pins σ H s){a:Addr}(h:s.heap.objs.size<=a):a∉X.fs:=fun hb=>by
 obtain ⟨_,o,ho,_⟩:=I.ok.funs.mem hb
 exact absurd (Nat.lt_of_lt_of_le (Heap.lt_size ho) (Nat.le_trans I.sz h)) (Nat.lt_irrefl _)
theorem Inv.cne (I:Inv X pins σ H s):∀ x c,X.env.cells.lookup x=some c->c≠X.env.locals:=fun x c e z=>by
 obtain ⟨v,o,ho,hd⟩:=I.cell x c e
 obtain ⟨m,⟨o',es,ep,ho',hd',_⟩,_⟩:=I.loc
 rw [z,ho'] at ho;cases ho;rw [hd'] at hd;cases hd
theorem Inv.funs (I:Inv X pins σ H s):s.heap.FunFrames X.base X.outer:=by
 have all:∀ (l:List Env),(∀ b∈frs l,b∈X.fs)->X.s₀.heap.FunFrames X.base l->s.heap.FunFrames X.base l:=by
  intro l
  induction l with
  |nil=>intro _ _;trivial
  |cons env r ih=>
   intro hs hl
   obtain ⟨hk,⟨L,o,hf,hn,ho,hd⟩,hr⟩:=hl
   have hL:L∈X.fs:=hs L (by unfold frs;rw [List.filterMap_cons,hf];exact List.mem_cons_self)
   obtain ⟨sl,e⟩:=I.base.slot L o ho (I.ok.frf L hL) hL fun z=>I.ok.exfs L z hL
   exact ⟨hk,⟨L,_,hf,hn,e,hd⟩,ih (fun b hb=>hs b (by unfold frs;rw [List.filterMap_cons,hf];exact List.mem_cons_of_mem _ hb)) hr⟩
 exact all X.outer (fun _ hb=>hb) I.ok.funs
theorem Inv.stack (I:Inv X pins σ H s):s.heap.FunFrames X.base X.stack:=by
 rcases I.ok.stk with e | ⟨e,hf⟩
 ·rw [e];exact I.funs
 ·rw [e]
  obtain ⟨m,hn,_⟩:=I.loc
  refine .cons (by rw [I.ok.kind];decide) hf hn ?_ I.funs
  exact Heap.get?_none_of_le (Nat.le_trans I.ok.bsz I.ok.above)
theorem Inv.stkSub (I:Inv X pins σ H s):∀ b∈frs X.stack,b∈X.env.locals :: X.fs:=fun b hb=>by
 rcases I.ok.stk with e | ⟨e,hf⟩
 ·rw [e] at hb;exact List.mem_cons_of_mem _ hb
 ·rw [e] at hb
  unfold frs at hb
  rw [List.filterMap_cons,hf] at hb
  exact hb
theorem Inv.stkFree (I:Inv X pins σ H s):∀ b∈frs X.stack,H b=none:=fun b hb=>by
 rcases List.mem_cons.mp (I.stkSub b hb) with e | hb
 ·rw [e];exact I.free
 ·obtain ⟨_,o,ho,_⟩:=I.ok.funs.mem hb
  exact I.base.free b o ho (I.ok.frf b hb) fun z=>I.ok.exfs b z hb
theorem Inv.step {g':Array GenState}{t':Nat}{d':Drawn}{ch:List Addr}(I:Inv X pins σ H s)
  (hch:∀ b∈ch,(b∈X.ex\/X.s₀.heap.objs.size<=b)/\b≠X.env.locals/\(∀ x c,X.env.cells.lookup x=some c->c≠b)/\∀ p∈X.pn++pins,p.1≠b)
  (keep:∀ b o,b≠X.env.locals->b∉X.fs->b∉ch->s.heap.get? b=some o->H b=none->h'.get? b=some o)
  (slot:∀ b o,b≠X.env.locals->b∈X.fs->b∉ch->s.heap.get? b=some o->H b=none->∃ sl,h'.get? b=some { o with slots:=sl }) (free:∀ b o,b∉ch->s.heap.get? b=some o->H b=none->H' b=none)
  (there:∀ b o,b∉ch->s.heap.get? b=some o->∃ o',h'.get? b=some o')
  (tups:∀ b xs,H b=some (.tup xs)->H' b=some (.tup xs)) (frzs:∀ b o u,H b=some (.frz o u)->H' b=some (.frz o u)) (tbls:∀ b ps,H b=some (.tbl ps)->∃ more,H' b=some (.tbl (ps++more)))
  (ns:∀ m,s.heap.Ns X.env.locals m->h'.Ns X.env.locals m) (hok:HOk X.prog X.w H' h') (hg:AllBare g') :
  Inv X pins σ H' { s with heap:=h',gens:=g',drawn:=d',toks:=t' }:=by
 have neL:∀ b o,X.s₀.heap.get? b=some o->b≠X.env.locals:=fun b o e=>Nat.ne_of_lt (Nat.lt_of_lt_of_le (Heap.lt_size e) I.ok.above)
 have neC:∀ b o,X.s₀.heap.get? b=some o->b∉X.ex->b∉ch:=fun b o e hx hb=>by
  rcases (hch b hb).1 with z | z
  ·exact hx z
  ·exact absurd (Nat.lt_of_lt_of_le (Heap.lt_size e) z) (Nat.lt_irrefl _)
 have cellK:∀ x c,X.env.cells.lookup x=some c->∀ v,s.heap.IsCell c v->h'.IsCell c v:=fun x c e v ⟨o,ho,hd⟩=>by
  have nch:c∉ch:=fun z=>(hch c z).2.2.1 x c e rfl
  by_cases hc:c∈X.fs
  ·obtain ⟨sl,q⟩:=slot c o (I.cne x c e) hc nch ho (I.freeC x c e)
   exact ⟨_,q,hd⟩
  ·exact ⟨o,keep c o (I.cne x c e) hc nch ho (I.freeC x c e),hd⟩
 refine ⟨I.ok,I.os,hg,⟨fun b o e n hb hx=>?_,fun b o e n hb hx=>?_,fun b o e n hx=>?_,fun b o e hx=>?_,fun b xs e=>tups b xs (I.base.tups b xs e),fun b o xs e=>frzs b o xs (I.base.frzs b o xs e),fun b ps e=>?_⟩,?_,fun x c e=>?_,?_,fun x c e=>?_,fun p hp=>?_,hok,I.len⟩
 ·exact keep b o (neL b o e) hb (neC b o e hx) (I.base.keep b o e n hb hx) (I.base.free b o e n hx)
 ·obtain ⟨sl,e1⟩:=I.base.slot b o e n hb hx
  obtain ⟨sl',e2⟩:=slot b _ (neL b o e) hb (neC b o e hx) e1 (I.base.free b o e n hx)
  exact ⟨sl',e2⟩
 ·obtain ⟨o',e1⟩:=I.base.there b o e hx
  exact free b o' (neC b o e hx) e1 (I.base.free b o e n hx)
 ·obtain ⟨o',e1⟩:=I.base.there b o e hx
  exact there b o' (neC b o e hx) e1
 ·obtain ⟨m1,e1⟩:=I.base.tbls b ps e
  obtain ⟨m2,e2⟩:=tbls b _ e1
  exact ⟨m1++m2,by rw [e2,Array.append_assoc]⟩
 ·obtain ⟨m,hn,hl⟩:=I.loc
  refine ⟨m,ns m hn,fun i x v e1 e2 e3=>?_⟩
  obtain ⟨u,r,l⟩:=hl i x v e1 e2 e3
  refine ⟨u,r,?_⟩
  rcases l with l | ⟨k,c,e,z⟩
  ·exact .inl l
  ·exact .inr ⟨k,c,e,cellK x c e _ z⟩
 ·obtain ⟨v,z⟩:=I.cell x c e
  exact ⟨v,cellK x c e v z⟩
 ·obtain ⟨m,⟨o,_,_,ho,_⟩,_⟩:=I.loc
  exact free _ o (fun z=>(hch _ z).2.1 rfl) ho I.free
 ·obtain ⟨v,o,ho,hd⟩:=I.cell x c e
  exact free c o (fun z=>(hch c z).2.2.1 x c e rfl) ho (I.freeC x c e)
 ·obtain ⟨e,n,ne,nf,d⟩:=I.pin p hp
  have nch:p.1∉ch:=fun z=>(hch p.1 z).2.2.2 p hp rfl
  exact ⟨keep p.1 p.2 ne nf nch e n,free p.1 p.2 nch e n,ne,nf,d⟩
theorem Inv.un {t':Nat}(I:Inv X pins σ H s)(u:Un X.fs [] H H' s.heap h')(hok:HOk X.prog X.w H' h'):Inv X pins σ H' { s with heap:=h',toks:=t' }:=by
 obtain ⟨m,⟨o,es,ep,ho,r⟩,_⟩:=id I.loc
 obtain ⟨sl,hL⟩:=u.any ho I.free (by simp)
 exact I.step (g':=s.gens) (d':=s.drawn) (ch:=[]) (fun _ z=>nomatch z) (fun b o _ hb _ e n=>u.keep b o e n hb (by simp)) (fun b o _ hb _ e n=>u.slot b o e n hb (by simp)) (fun b o _ e n=>u.free b o e n (by simp)) (fun b o _ e=>u.there b o e (by simp)) u.tups u.frzs u.tbls (fun m' hm=>by
  obtain ⟨o',es',ep',ho',r'⟩:=hm
  rw [ho] at ho';cases ho'
  exact ⟨_,es',ep',hL,r'⟩) hok I.bare
theorem Inv.call {g':Array GenState}{t':Nat}{d':Drawn}{ch:List Addr}(I:Inv X pins σ H s)(u:Un (frs X.stack) ch H H' s.heap h')(hok:HOk X.prog X.w H' h')(hg:AllBare g')
  (hch:∀ b∈ch,(b∈X.ex\/X.s₀.heap.objs.size<=b)/\b≠X.env.locals/\(∀ x c,X.env.cells.lookup x=some c->c≠b)/\∀ p∈X.pn++pins,p.1≠b) :
  Inv X pins σ H' { s with heap:=h',gens:=g',drawn:=d',toks:=t' }:=by
 obtain ⟨m,⟨o,es,ep,ho,r⟩,_⟩:=id I.loc
 obtain ⟨sl,hL⟩:=u.any ho I.free fun z=>(hch _ z).2.1 rfl
 exact I.step (ch:=ch) hch (fun b o hL hb hc e n=>u.keep b o e n (fun z=>(List.mem_cons.mp (I.stkSub b z)).elim hL hb) hc) (fun b o _ _ hc e n=>u.any e n hc) (fun b o hc e n=>u.free b o e n hc) (fun b o hc e=>u.there b o e hc) u.tups u.frzs u.tbls (fun m' hm=>by
  obtain ⟨o',es',ep',ho',r'⟩:=hm
  rw [ho] at ho';cases ho'
  exact ⟨_,es',ep',hL,r'⟩) hok hg
theorem Inv.turned {t':Nat}{it:Addr}(I:Inv X pins σ H s)(k:∀ b o,b≠it->s.heap.get? b=some o->h'.get? b=some o)(hn:H it=none)(hL:it≠X.env.locals)
  (h1:it∈X.ex\/X.s₀.heap.objs.size<=it) (h2:∀ x c,X.env.cells.lookup x=some c->c≠it) (h3:∀ p∈X.pn++pins,p.1≠it):Inv X pins σ H { s with heap:=h',toks:=t' }:=by
 have nit:∀ b u,H b=some u->b≠it:=fun b u e z=>by rw [z,hn] at e;cases e
 refine I.step (g':=s.gens) (d':=s.drawn) (ch:=[it]) (fun b hb=>?_) (fun b o _ _ hc e _=>k b o (fun z=>hc (by simp [z])) e) (fun b o _ _ hc e _=>⟨o.slots,k b o (fun z=>hc (by simp [z])) e⟩) (fun _ _ _ _ n=>n)
  (fun b o hc e=>⟨o,k b o (fun z=>hc (by simp [z])) e⟩) (fun _ _ e=>e) (fun _ _ _ e=>e) (fun b ps e=>⟨#[],by rw [e];simp⟩) (fun m hm=>?_) (fun b u e=>?_) I.bare
 ·have e:b=it:=by simpa using hb
  subst e
  exact ⟨h1,hL,h2,h3⟩
 ·obtain ⟨o,es,ep,ho,r⟩:=hm
  exact ⟨o,es,ep,k _ o (Ne.symm hL) ho,r⟩
 ·refine (I.hok b u e).stay (fun c v hc q=>k c v ?_ q) (fun _ q=>q) fun _ _ q=>q
  rcases hc with z | z
  ·rw [z];exact nit b u e
  ·exact nit c _ z
theorem Inv.tok (I:Inv X pins σ H s)(t:Nat):Inv X pins σ H { s with toks:=t }:=I.un (h':=s.heap) (t':=t) Un.refl I.hok
theorem Inv.kept {t':Nat}(I:Inv X pins σ H s)(k:∀ b u,s.heap.get? b=some u->h'.get? b=some u):Inv X pins σ H { s with heap:=h',toks:=t' }:=I.un (Un.kept k) (I.hok.kept k)
theorem Inv.laid {a:Addr}{o:HO}{t':Nat}(I:Inv X pins σ H s)(k:∀ b u,s.heap.get? b=some u->h'.get? b=some u)(hp:s.heap.objs.size<=a)(new:ObjOk X.prog X.w (upd H a o) h' a o) :
  Inv X pins σ (upd H a o) { s with heap:=h',toks:=t' }:=I.un (Un.laid k hp (I.hok.fresh hp)) (I.hok.laid k hp new)
theorem Inv.write {x e:Addr}{o:HO}{t':Nat}(I:Inv X pins σ H s)(mu:Mut (H x))(he:e=x\/H e=some (.own x))(k:∀ b u,b≠e->s.heap.get? b=some u->h'.get? b=some u)(heo:∃ u,h'.get? e=some u)
  (new:ObjOk X.prog X.w (upd H x o) h' x o):Inv X pins σ (upd H x o) { s with heap:=h',toks:=t' }:=I.un (Un.write mu he k heo) (I.hok.write mu he k heo new)
theorem Inv.weak {σ':List (Option V)}(I:Inv X pins σ H s)(hl:σ'.length=σ.length)(w:∀ (i:Nat) v,σ'[i]? = some (some v)->σ[i]? = some (some v)):Inv X pins σ' H s:=
 ⟨I.ok,I.os,I.bare,I.base,let ⟨m,hn,hl'⟩:=I.loc;⟨m,hn,fun i x v e1 e2 e3=>hl' i x v e1 (w i v e2) e3⟩,I.cell,I.free,I.freeC,I.pin,I.hok,hl.trans I.len⟩
theorem Inv.pins_of {pins':List (Addr × Obj)}(I:Inv X pins σ H s)(h:∀ p∈pins',s.heap.get? p.1=some p.2/\H p.1=none/\p.1≠X.env.locals/\p.1∉X.fs/\∀ v,p.2.data≠.cell v):Inv X pins' σ H s:=
 ⟨I.ok,I.os,I.bare,I.base,I.loc,I.cell,I.free,I.freeC,fun p hp=>(List.mem_append.mp hp).elim (fun z=>I.pin p (List.mem_append_left _ z)) (h p),I.hok,I.len⟩
theorem QiH {N:List Str}(hN:N.Nodup){i j:Nat}{x:Str}(a:N[i]? = some x)(b:N[j]? = some x):i=j:=by
 obtain ⟨h1,e1⟩:=List.getElem?_eq_some_iff.mp a
 obtain ⟨h2,e2⟩:=List.getElem?_eq_some_iff.mp b
 exact (List.getElem_inj hN).mp (e1.trans e2.symm)
theorem Qhs {M:Model}{A:Around}{E:Value->Shared->Prop}{i:Nat}{x:Str}{v:V}{u:Value}{Q:Unit->Shared->Prop}(I:Inv X pins σ H s)(hN:X.N.Nodup)(hi:X.N[i]? = some x)(hx:Loc X.env.scope x)(r:RelV v u)
  (h:∀ s',Inv X pins (σ.set i (some v)) H s'->(∃ a,Heap.SameBut a s.heap s'.heap/\(a=X.env.locals\/X.env.cells.lookup x=some a))->Q () s') (hf:X.fn x=true\/X.env.scope.names.lookup x=some .local:=by first | exact .inl rfl | exact .inr rfl | assumption):wpAny M A (storeName X.env x u) Q E s:=by
 obtain ⟨m,hn,hl⟩:=id I.loc
 have hcls:(X.env.scope.kind == .class || (X.env.scope.kind == .module && X.env.locals != X.env.globals))=false:=by rw [I.ok.kind];rfl
 have hiσ:i<σ.length:=by rw [I.len];exact (List.getElem?_eq_some_iff.mp hi).1
 have cne:=I.cne
 have tracked:∀ {a:Addr} {h':Heap},(∃ o,s.heap.get? a=some o/\H a=none)->Heap.SameBut a s.heap h'->HOk X.prog X.w H h':=fun {a h'} ha hs b ob e=>by
  obtain ⟨_,_,hfree⟩:=ha
  refine (I.hok b ob e).stay (fun c w' hc q=>(hs.2 c ?_).trans q) (fun _ q=>q) fun _ _ q=>q
  rintro rfl
  rcases hc with rfl | hc
  ·rw [hfree] at e;cases e
  ·rw [hfree] at hc;cases hc
 rcases hx with hk | hk
 ·refine wpAny_storeName_local hk hn (fun h' hn' hs=>?_) hcls
  obtain ⟨oL,_,_,hoL,_⟩:=id hn
  refine h _ ⟨I.ok,I.os,I.bare,⟨fun b o e n hb hx=>?_,fun b o e n hb hx=>?_,I.base.free,fun b o e hx=>?_,I.base.tups,I.base.frzs,I.base.tbls⟩,⟨_,hn',fun j y v' e1 e2 e3=>?_⟩,fun y c e=>?_,I.free,I.freeC,fun p hp=>?_,tracked ⟨oL,hoL,I.free⟩ hs,by simpa using I.len⟩ ⟨_,hs,.inl rfl⟩
  ·exact (hs.2 b (Nat.ne_of_lt (Nat.lt_of_lt_of_le (Heap.lt_size e) I.ok.above))).trans (I.base.keep b o e n hb hx)
  ·obtain ⟨sl,e1⟩:=I.base.slot b o e n hb hx
   exact ⟨sl,(hs.2 b (Nat.ne_of_lt (Nat.lt_of_lt_of_le (Heap.lt_size e) I.ok.above))).trans e1⟩
  ·obtain ⟨o',e1⟩:=I.base.there b o e hx
   exact ⟨o',(hs.2 b (Nat.ne_of_lt (Nat.lt_of_lt_of_le (Heap.lt_size e) I.ok.above))).trans e1⟩
  ·by_cases hj:j=i
   ·subst hj
    rw [hi] at e1;cases e1
    rw [List.getElem?_set_self hiσ] at e2
    cases e2
    exact ⟨u,r,.inl ⟨hk,by simp⟩⟩
   ·rw [List.getElem?_set_ne (Ne.symm hj)] at e2
    obtain ⟨u',r',q⟩:=hl j y v' e1 e2 e3
    refine ⟨u',r',?_⟩
    rcases q with ⟨k,e⟩ | ⟨k,c,e,z⟩
    ·refine .inl ⟨k,?_⟩
     have:y≠x:=fun e=>hj (QiH hN e1 (e▸hi))
     simp [this,e]
    ·exact .inr ⟨k,c,e,z.sameBut hs (cne y c e)⟩
  ·obtain ⟨w',z⟩:=I.cell y c e
   exact ⟨w',z.sameBut hs (cne y c e)⟩
  ·obtain ⟨e,n,ne,nf,d⟩:=I.pin p hp
   exact ⟨(hs.2 p.1 ne).trans e,n,ne,nf,d⟩
 ·have hfn:X.fn x=true:=by
   rcases hf with z | z
   ·exact z
   ·rw [z] at hk;cases hk
  obtain ⟨c,hc⟩:=I.ok.has x (.inl hk)
  obtain ⟨w',z⟩:=I.cell x c hc
  refine wpAny_storeName_cell I.ok.kind hk hc z (fun h' hc' hs=>?_)
  obtain ⟨oc,hoc,hocd⟩:=id z
  refine h { s with heap:=h' } ⟨I.ok,I.os,I.bare,⟨fun b o e n hb hx=>?_,fun b o e n hb hx=>?_,I.base.free,fun b o e hx=>?_,I.base.tups,I.base.frzs,I.base.tbls⟩,⟨m,hn.sameBut hs (Ne.symm (cne x c hc)),fun j y v' e1 e2 e3=>?_⟩,fun y c' e=>?_,I.free,I.freeC,fun p hp=>?_,tracked ⟨oc,hoc,I.freeC x c hc⟩ hs,by simpa using I.len⟩ ⟨c,hs,.inr hc⟩
  ·exact (hs.2 b (Nat.ne_of_lt (Nat.lt_of_lt_of_le (Heap.lt_size e) (I.ok.cab x c hfn hc)))).trans (I.base.keep b o e n hb hx)
  ·obtain ⟨sl,e1⟩:=I.base.slot b o e n hb hx
   exact ⟨sl,(hs.2 b (Nat.ne_of_lt (Nat.lt_of_lt_of_le (Heap.lt_size e) (I.ok.cab x c hfn hc)))).trans e1⟩
  ·obtain ⟨o',e1⟩:=I.base.there b o e hx
   exact ⟨o',(hs.2 b (Nat.ne_of_lt (Nat.lt_of_lt_of_le (Heap.lt_size e) (I.ok.cab x c hfn hc)))).trans e1⟩
  ·by_cases hj:j=i
   ·subst hj
    rw [hi] at e1;cases e1
    rw [List.getElem?_set_self hiσ] at e2
    cases e2
    exact ⟨u,r,.inr ⟨.inl hk,c,hc,hc'⟩⟩
   ·rw [List.getElem?_set_ne (Ne.symm hj)] at e2
    obtain ⟨u',r',q⟩:=hl j y v' e1 e2 e3
    refine ⟨u',r',?_⟩
    rcases q with q | ⟨k,c',e,z'⟩
    ·exact .inl q
    ·refine .inr ⟨k,c',e,z'.sameBut hs ?_⟩
     rintro rfl
     exact hj (QiH hN e1 (I.ok.inj _ _ _ e hc▸hi))
  ·by_cases hcc:c'=c
   ·subst hcc;exact ⟨_,hc'⟩
   ·obtain ⟨w2,z2⟩:=I.cell y c' e
    exact ⟨w2,z2.sameBut hs hcc⟩
  ·obtain ⟨e,n,ne,nf,d⟩:=I.pin p hp
   refine ⟨(hs.2 p.1 ?_).trans e,n,ne,nf,d⟩
   intro q
   rw [q,hoc] at e
   have q':oc=p.2:=Option.some.inj e
   exact d w' (by rw [← q'];exact hocd)
theorem QiM {M:Model}{A:Around}{E:Value->Shared->Prop}{i:Nat}{x:Str}{v:V}{u:Value}{Q:Unit->Shared->Prop}(I:Inv X pins σ H s)(hN:X.N.Nodup)(hi:X.N[i]? = some x)(hx:Loc X.env.scope x)(r:RelV v u)
  (h:∀ s',Inv X pins (σ.set i (some v)) H s'->Q () s') (hf:X.fn x=true\/X.env.scope.names.lookup x=some .local:=by first | exact .inl rfl | exact .inr rfl | assumption):wpAny M A (storeName X.env x u) Q E s:=
 Qhs I hN hi hx r (fun s' I' _=>h s' I') hf
theorem Inv.call' {s':Shared}{ch:List Addr}(I:Inv X pins σ H s)(ho:s'.os=s.os)(u:Un (frs X.stack) ch H H' s.heap s'.heap)(hok:HOk X.prog X.w H' s'.heap)(hg:AllBare s'.gens)
  (hch:∀ b∈ch,(b∈X.ex\/X.s₀.heap.objs.size<=b)/\b≠X.env.locals/\(∀ x c,X.env.cells.lookup x=some c->c≠b)/\∀ p∈X.pn++pins,p.1≠b):Inv X pins σ H' s':=by
 obtain ⟨h',g',d',t',o'⟩:=s'
 have e:o'=s.os:=ho
 subst e
 exact I.call (g':=g') (t':=t') (d':=d') u hok hg hch
end
abbrev XK:=Value->Option Addr->Hp->Prop
abbrev St:=List (Option V)
abbrev VK:=V->Hp->Prop
abbrev TE:=St->Hp->VK->Prop
abbrev TT:=St->Hp->(Bool->Hp->Prop)->Prop
abbrev TA:=St->Hp->(List V->Hp->Prop)->Prop
structure Qnb where
 nx:St->Hp->Prop
 rt:VK
 bk:St->Hp->Prop:=fun _ _=>False
 ct:St->Hp->Prop:=fun _ _=>False
abbrev TS:=Qnb->St->Hp->Prop
def EP (X:Cx)(pins:List (Addr × Obj))(σ:St)(Q:VK)(u:Value)(s':Shared):Prop:=∃ v H',Inv X pins σ H' s'/\RelV v u/\Q v H'
def TP (X:Cx)(pins:List (Addr × Obj))(σ:St)(Q:Bool->Hp->Prop)(b:Bool)(s':Shared):Prop:=∃ H',Inv X pins σ H' s'/\Q b H'
def AP (X:Cx)(pins:List (Addr × Obj))(σ:St)(Q:List V->Hp->Prop)(us:List Value)(s':Shared):Prop:=∃ vs H',Inv X pins σ H' s'/\Vals vs us/\Q vs H'
def SP (X:Cx)(pins:List (Addr × Obj))(D:Qnb)(f:Flow)(s':Shared):Prop:=
 match f with
 |.next=>∃ σ' H',Inv X pins σ' H' s'/\D.nx σ' H'
 |.brk=>∃ σ' H',Inv X pins σ' H' s'/\D.bk σ' H'
 |.cont=>∃ σ' H',Inv X pins σ' H' s'/\D.ct σ' H'
 |.ret u=>∃ v σ' H',Inv X pins σ' H' s'/\RelV v u/\D.rt v H'
def PE (X:Cx)(e:Expr)(t:TE):Prop:=
 ∀ (pins:List (Addr × Obj)) (s:Shared) (σ:St) (H:Hp) (Q:VK),Inv X pins σ H s->t σ H Q->wpAny (model X.prog X.w) X.A (eval e X.env) (EP X pins σ Q) X.xe s
def PT (X:Cx)(e:Expr)(t:TT):Prop:=
 ∀ (pins:List (Addr × Obj)) (s:Shared) (σ:St) (H:Hp) (Q:Bool->Hp->Prop),Inv X pins σ H s->t σ H Q->wpAny (model X.prog X.w) X.A (isTrue e X.env (eval e X.env)) (TP X pins σ Q) X.xe s
def PW (X:Cx)(e:Expr)(t:TT):Prop:=
 ∀ (whole:Sem Value) (pins:List (Addr × Obj)) (s:Shared) (σ:St) (H:Hp) (Q:Bool->Hp->Prop),Inv X pins σ H s->t σ H Q->wpAny (model X.prog X.w) X.A (isTrue e X.env whole) (TP X pins σ Q) X.xe s
theorem PW.pt {X:Cx}{e:Expr}{t:TT}(h:PW X e t):PT X e t:=h _
def PA (X:Cx)(es:List Expr)(t:TA):Prop:=
 ∀ (pos:Pos) (pins:List (Addr × Obj)) (s:Shared) (σ:St) (H:Hp) (Q:List V->Hp->Prop),Inv X pins σ H s->t σ H Q->wpAny (model X.prog X.w) X.A (spliced (backTo pos (starEach es X.env))) (AP X pins σ Q) X.xe s
def PS (X:Cx)(st:Stmt)(t:TS):Prop:=
 ∀ (pins:List (Addr × Obj)) (s:Shared) (σ:St) (H:Hp) (D:Qnb),Inv X pins σ H s->t D σ H->wpAny (model X.prog X.w) X.A (exec st X.env) (SP X pins D) X.xe s
def PSs (X:Cx)(st:List Stmt)(t:TS):Prop:=
 ∀ (pins:List (Addr × Obj)) (s:Shared) (σ:St) (H:Hp) (D:Qnb),Inv X pins σ H s->t D σ H->wpAny (model X.prog X.w) X.A (execs st X.env) (SP X pins D) X.xe s
theorem thn {α:Type}{t:Sem α}{Q Q':α->Shared->Prop}{M:Model}{A:Around}{E:Value->Shared->Prop}{s:Shared}(h:wpAny M A t Q E s)(hQ:∀ a s,Q a s->Q' a s):wpAny M A t Q' E s:=wpAny_mono h hQ fun _ _ x=>x
section
variable {X:Cx}
def QsE (i:Nat):TE:=fun σ H Q=>∃ v,σ[i]? = some (some v)/\Q v H
def tC (v:V):TE:=fun _ H Q=>Q v H
theorem QcZ {i:Nat}{x:Str}{pos:Pos}(hN:X.N[i]? = some x)(hv:Vis X.env.scope x)(hd:(x == ("__debug__" : Str))=false:=by decide)(hcd:(x == ("__classdict__" : Str))=false:=by decide):PE X (.Name x pos) (QsE i):=by
 intro pins s σ H Q I h
 obtain ⟨v,e,h⟩:=h
 obtain ⟨m,hn,hl⟩:=I.loc
 obtain ⟨u,r,l⟩:=hl i x v hN e hv
 have fin:EP X pins σ Q u s:=⟨v,H,I,r,h⟩
 rcases l with ⟨hk,hm⟩ | ⟨hk,c,hc,hcell⟩
 ·exact wpAny_Name (wpAny_loadName_local I.ok.kind hk hn hm fin) hd
 ·rcases hk with hk | hk
  ·exact wpAny_Name (wpAny_loadName_cell I.ok.kind hk hc hcell fin) hd
  ·exact wpAny_Name (wpAny_loadName_free I.ok.kind hk hc hcell fin hcd) hd
theorem QnJ {i j pos}:PE X (.Constant (.int i) j pos) (tC (.int i)):=fun _ _ _ H _ I h=>wpAny_Constant_int ⟨.int i,H,I.tok _,⟨_,rfl⟩,h⟩
theorem QsI {b j pos}:PE X (.Constant (.bool b) j pos) (tC (.bl b)):=fun _ _ _ H _ I h=>Constant_bool ⟨.bl b,H,I,rfl,h⟩
theorem Qq5 {x j pos}:PE X (.Constant (.str x) j pos) (tC (.str x)):=fun _ _ _ H _ I h=>Calls.Constant_str ⟨.str x,H,I.tok _,⟨_,rfl⟩,h⟩
def Gl (X:Cx)(x:Str):Prop:=X.env.kindOf x=some .globalImplicit
theorem QfI {E:Value->Shared->Prop}{pins:List (Addr × Obj)}{s:Shared}{σ:St}{H:Hp}{x:Str}{u:Value}{pos:Pos}{Q:Value->Shared->Prop}(I:Inv X pins σ H s)(hg:Gl X x)(hm:X.mg x=some u)(h:Q u s)
  (hd:(x == ("__debug__" : Str))=false:=by decide):wpAny (model X.prog X.w) X.A (eval (.Name x pos) X.env) Q E s:=
 Calls.Name_function_global I.ok.kind hg (Calls.loadGlobal_global (by rw [I.ok.glob];exact I.mod.glob.keeps I.bk) hm h) hd
theorem Qgx {E:Value->Shared->Prop}{pins:List (Addr × Obj)}{s:Shared}{σ:St}{H:Hp}{x:Str}{u:Value}{pos:Pos}{Q:Value->Shared->Prop}(I:Inv X pins σ H s)(hg:Gl X x)(hm:X.mg x=none)(hv:bootBuiltins x=some u)(h:Q u s)
  (hn:x ≠ "__name__" := by decide) (hd:(x == ("__debug__" : Str))=false:=by decide):wpAny (model X.prog X.w) X.A (eval (.Name x pos) X.env) Q E s:=by
 obtain ⟨mb,h1,h2⟩:=I.mod.blt
 exact Calls.Name_function_global I.ok.kind hg (Calls.loadGlobal_builtin (by rw [I.ok.glob];exact I.mod.glob.keeps I.bk) hm (by rw [I.ok.blt];exact h1.keeps I.bk) ((h2 x hn).trans hv) h) hd
theorem Qpv {x:Str}{v:V}{u:Value}{pos:Pos}(hg:Gl X x)(hm:X.mg x=some u)(r:RelV v u)(hd:(x == ("__debug__" : Str))=false:=by decide):PE X (.Name x pos) (tC v):=
 fun _ _ _ H _ I h=>QfI I hg hm ⟨v,H,I,r,h⟩ hd
theorem Qpz {x:Str}{v:V}{u:Value}{pos:Pos}(hg:Gl X x)(hm:X.mg x=none)(hv:bootBuiltins x=some u)(r:RelV v u)(hn:x ≠ "__name__" := by decide)(hd:(x == ("__debug__" : Str))=false:=by decide):PE X (.Name x pos) (tC v):=
 fun _ _ _ H _ I h=>Qgx I hg hm hv ⟨v,H,I,r,h⟩ hn hd
variable {a b:Expr}{ta tb:TE}{pos:Pos}
def tB (t:TE):TT:=fun σ H Q=>t σ H fun x H1=>∃ c,x=.bl c/\Q c H1
theorem Qrv {e:Expr}{t:TE}(h:PE X e t)(he:∀ whole,isTrue e X.env whole=(do let v ← whole;standAt e.pos;holding [v] (truthy v)):=by intro _;rfl):PT X e (tB t):=by
 intro pins s σ H Q I hw
 refine isTrue_plain (thn (h pins s σ H _ I hw) fun v s1 ⟨x,H1,I1,r1,q1⟩=>?_) (he _)
 obtain ⟨d,rfl,q⟩:=q1
 cases r1
 exact wpAny_truthy_bool ⟨H1,I1,q⟩
variable {tA tB':TT}{rest:List Expr}
def Quo (t u:TT):TT:=fun σ H Q=>t σ H fun c H1=>if c=true then u σ H1 Q else Q false H1
def tOr (t u:TT):TT:=fun σ H Q=>t σ H fun c H1=>if c=true then Q true H1 else u σ H1 Q
def Qur (t:TT):TT:=fun σ H Q=>t σ H fun c H1=>Q (!c) H1
theorem Qpq (ha:PT X a tA):PW X (.BoolOp .And [a] pos) tA:=by
 intro wh pins s σ H Q I h
 refine isTrue_and (thn (ha pins s σ H Q I h) fun c s1 e=>?_)
 cases c with
 |true=>exact isTrue_and_nil e
 |false=>exact e
theorem Qq8 (ha:PT X a tA):PW X (.BoolOp .Or [a] pos) tA:=by
 intro wh pins s σ H Q I h
 refine isTrue_or (thn (ha pins s σ H Q I h) fun c s1 e=>?_)
 cases c with
 |false=>exact isTrue_or_nil e
 |true=>exact e
theorem Qsf (ha:PT X a tA)(hb:PW X (.BoolOp .And (b :: rest) pos) tB'):PW X (.BoolOp .And (a :: b :: rest) pos) (Quo tA tB'):=by
 intro wh pins s σ H Q I h
 refine isTrue_and (thn (ha pins s σ H _ I h) fun c s1 ⟨H1,I1,q1⟩=>?_)
 cases c with
 |true=>exact hb wh pins s1 σ H1 Q I1 q1
 |false=>exact ⟨H1,I1,q1⟩
theorem Qs1 (ha:PT X a tA)(hb:PW X (.BoolOp .Or (b :: rest) pos) tB'):PW X (.BoolOp .Or (a :: b :: rest) pos) (tOr tA tB'):=by
 intro wh pins s σ H Q I h
 refine isTrue_or (thn (ha pins s σ H _ I h) fun c s1 ⟨H1,I1,q1⟩=>?_)
 cases c with
 |true=>exact ⟨H1,I1,q1⟩
 |false=>exact hb wh pins s1 σ H1 Q I1 q1
theorem Qqn (ha:PT X a tA):PT X (.UnaryOp .Not a pos) (Qur tA):=by
 intro pins s σ H Q I h
 exact isTrue_not (ha pins s σ H (fun c H1=>Q (!c) H1) I h)
def QsX (ta tb:TE):TE:=fun σ H Q=>ta σ H fun x H1=>∃ c,x=.bl c/\if c=true then tb σ H1 Q else Q (.bl false) H1
def QsP (ta:TE):TE:=fun σ H Q=>ta σ H fun x H1=>∃ c,x=.bl c/\Q (.bl (!c)) H1
theorem Qr0 {op}{t:TE}(h:PE X a t):PE X (.BoolOp op [a] pos) t:=fun pins s σ H Q I hw=>BoolOp_one (h pins s σ H Q I hw)
theorem Qsn (ha:PE X a ta)(hb:PE X (.BoolOp .And (b :: rest) pos) tb):PE X (.BoolOp .And (a :: b :: rest) pos) (QsX ta tb):=by
 intro pins s σ H Q I h
 refine BoolOp_and (thn (ha pins s σ H _ I h) fun v s1 ⟨x,H1,I1,r1,q1⟩=>?_)
 obtain ⟨c,rfl,q1⟩:=q1
 cases r1
 refine wpAny_truthy_bool ?_
 cases c with
 |true=>exact hb pins s1 σ H1 Q I1 q1
 |false=>exact ⟨.bl false,H1,I1,rfl,q1⟩
theorem QrN (ha:PE X a ta):PE X (.UnaryOp .Not a pos) (QsP ta):=by
 intro pins s σ H Q I h
 refine UnaryOp_ (thn (ha pins s σ H _ I h) fun v s1 ⟨x,H1,I1,r1,q1⟩=>?_)
 obtain ⟨c,rfl,q1⟩:=q1
 cases r1
 exact not_of (wpAny_truthy_bool ⟨.bl (!c),H1,I1,rfl,q1⟩)
def tIf (t:TT)(ta tb:TE):TE:=fun σ H Q=>t σ H fun c H1=>if c=true then ta σ H1 Q else tb σ H1 Q
theorem Qmw {c:Expr}(hc:PT X c tA)(ha:PE X a ta)(hb:PE X b tb):PE X (.IfExp c a b pos) (tIf tA ta tb):=by
 intro pins s σ H Q I h
 refine wpAny_IfExp (thn (hc pins s σ H _ I h) fun d s1 ⟨H1,I1,q1⟩=>?_)
 cases d with
 |true=>exact ha pins s1 σ H1 Q I1 q1
 |false=>exact hb pins s1 σ H1 Q I1 q1
end
def SqL (K:PySem.W.Frag)(H:Hp)(a:Addr)(xs:List V):Prop:=
 Rd H a (.lst xs)\/
  ∃ (o:Obj) (its:Array Value) (n:Nat),K.lookup a=some o/\o.cls=.type "list" /\ o.dict=none/\o.data=.seq its n/\its.size<=sizeLine/\Vals xs its.toList
def SqT (K:PySem.W.Frag)(H:Hp)(a:Addr)(xs:List V):Prop:=
 Rd H a (.tup xs)\/
  ∃ (o:Obj) (its:Array Value) (n:Nat),K.lookup a=some o/\o.cls=.type "tuple" /\ o.data=.seq its n/\its.size<=sizeLine/\Vals xs its.toList
def QuF:Value->Option V
 |.none=>some .non
 |.bool b=>some (.bl b)
 |.int i _=>some (.int i)
 |.str x _=>some (.str x)
 |.bytes b _=>some (.byt b)
 |.float b _=>some (.flt b)
 |.ref a=>some (.ref a)
 |.type n=>some (.ty n)
 |_=>none
theorem RelV.abs {x:V}{u:Value}(r:RelV x u):QuF u=some x:=by
 cases x with
 |non=>cases r;rfl
 |bl _=>cases r;rfl
 |int _=>obtain ⟨t,rfl⟩:=r;rfl
 |str _=>obtain ⟨t,rfl⟩:=r;rfl
 |byt _=>obtain ⟨t,rfl⟩:=r;rfl
 |flt _=>obtain ⟨t,rfl⟩:=r;rfl
 |ref _=>cases r;rfl
 |ty _=>cases r;rfl
theorem RelV.inj {x y:V}{u:Value}(r:RelV x u)(q:RelV y u):x=y:=Option.some.inj (r.abs.symm.trans q.abs)
theorem Vals.inj:∀ {xs ys:List V} {us:List Value},Vals xs us->Vals ys us->xs=ys
 |_,_,_,.nil,.nil=>rfl
 |_,_,_,.cons r t,.cons r' t'=>by rw [r.inj r',Vals.inj t t']
section
variable {X:Cx}{pins:List (Addr × Obj)}{σ:St}{H:Hp}{s:Shared}{a:Addr}{xs ys:List V}
theorem SqL.of {K:PySem.W.Frag}(h:H a=some (.lst xs)):SqL K H a xs:=.inl (.inl h)
theorem SqT.of {K:PySem.W.Frag}(h:H a=some (.tup xs)):SqT K H a xs:=.inl (.inl h)
theorem Inv.list (I:Inv X pins σ H s)(h:SqL X.K H a xs):∃ its:List Value,Vals xs its/\PlainL s.heap a its.toArray/\xs.length<=sizeLine:=by
 rcases h with h | ⟨o,its,n,hk,hc,hd,hs,hz,r⟩
 ·obtain ⟨z,its,n,r,e⟩:=h.ok I.hok
  exact ⟨its,r,⟨_,n,e,rfl,rfl,rfl⟩,z⟩
 ·refine ⟨its.toList,r,⟨o,n,I.kIn a o hk,hc,hd,by simpa using hs⟩,?_⟩
  have e:=r.length
  simp only [Array.length_toList] at e
  omega
theorem Inv.tuple (I:Inv X pins σ H s)(h:SqT X.K H a xs):∃ its:List Value,Vals xs its/\IsTup s.heap a its.toArray/\xs.length<=sizeLine:=by
 rcases h with h | ⟨o,its,n,hk,hc,hs,hz,r⟩
 ·obtain ⟨z,its,r,p⟩:=h.ok I.hok
  exact ⟨its,r,p,z⟩
 ·refine ⟨its.toList,r,⟨o,I.kIn a o hk,hc,n,by simpa using hs⟩,?_⟩
  have e:=r.length
  simp only [Array.length_toList] at e
  omega
theorem Inv.list_inj (I:Inv X pins σ H s)(h:SqL X.K H a xs)(h':SqL X.K H a ys):xs=ys:=by
 obtain ⟨its,r,⟨o,n,e,_,_,d⟩,_⟩:=I.list h
 obtain ⟨its',r',⟨o',n',e',_,_,d'⟩,_⟩:=I.list h'
 rw [e] at e';cases e'
 rw [d] at d'
 injection d' with d1 _
 have:its=its':=by simpa using congrArg Array.toList d1
 subst this
 exact r.inj r'
theorem Inv.tuple_inj (I:Inv X pins σ H s)(h:SqT X.K H a xs)(h':SqT X.K H a ys):xs=ys:=by
 obtain ⟨its,r,⟨o,e,_,n,d⟩,_⟩:=I.tuple h
 obtain ⟨its',r',⟨o',e',_,n',d'⟩,_⟩:=I.tuple h'
 rw [e] at e';cases e'
 rw [d] at d'
 injection d' with d1 _
 have:its=its':=by simpa using congrArg Array.toList d1
 subst this
 exact r.inj r'
end
abbrev Cx.wish (X:Cx)(E:Value->Shared->Prop):Cx:={ X with xe:=E }
abbrev Cx.nox (X:Cx):Cx:=X.wish fun _ _=>False
theorem Cx.Ok.wish {X:Cx}(ok:X.Ok)(E:Value->Shared->Prop):(X.wish E).Ok:=
 ⟨ok.mod,ok.kind,ok.glob,ok.blt,ok.above,ok.inj,ok.has,ok.cab,ok.hd,ok.frames,ok.stk,ok.exf,ok.bs,ok.bsz,ok.noex,ok.exfs,ok.funs,ok.frf⟩
theorem Cx.Ok.unwish {X:Cx}{E:Value->Shared->Prop}(ok:(X.wish E).Ok):X.Ok:=
 ⟨ok.mod,ok.kind,ok.glob,ok.blt,ok.above,ok.inj,ok.has,ok.cab,ok.hd,ok.frames,ok.stk,ok.exf,ok.bs,ok.bsz,ok.noex,ok.exfs,ok.funs,ok.frf⟩
section
variable {X:Cx}{pins:List (Addr × Obj)}{σ:St}{H:Hp}{s:Shared}{E:Value->Shared->Prop}
theorem Inv.wish (I:Inv X pins σ H s)(E:Value->Shared->Prop):Inv (X.wish E) pins σ H s:=⟨I.ok.wish E,I.os,I.bare,I.base,I.loc,I.cell,I.free,I.freeC,I.pin,I.hok,I.len⟩
theorem Inv.unwish (I:Inv (X.wish E) pins σ H s):Inv X pins σ H s:=⟨I.ok.unwish,I.os,I.bare,I.base,I.loc,I.cell,I.free,I.freeC,I.pin,I.hok,I.len⟩
theorem SP.unwish {D:Qnb}{f:Flow}{s':Shared}(h:SP (X.wish E) pins D f s'):SP X pins D f s':=by
 cases f with
 |next=>obtain ⟨σ',H',I,q⟩:=h;exact ⟨σ',H',I.unwish,q⟩
 |brk=>obtain ⟨σ',H',I,q⟩:=h;exact ⟨σ',H',I.unwish,q⟩
 |cont=>obtain ⟨σ',H',I,q⟩:=h;exact ⟨σ',H',I.unwish,q⟩
 |ret u=>obtain ⟨v,σ',H',I,r,q⟩:=h;exact ⟨v,σ',H',I.unwish,r,q⟩
theorem PSs.nox {st:List Stmt}{t:TS}(h:PSs X.nox st t):PSs X st t:=fun pins s σ H D I hw=>
 wpAny_mono (h pins s σ H D (I.wish _) hw) (fun _ _ q=>q.unwish) fun _ _ z=>False.elim z
end
section
variable {X:Cx}{st:Stmt}{rest:List Stmt}{t u:TS}{e:Expr}{te:TE}{pos:Pos}
def QtU:TS:=fun D σ H=>D.nx σ H
def QuM (t u:TS):TS:=fun D σ H=>t { D with nx:=u D } σ H
theorem QpH:PSs X [] QtU:=fun _ _ σ H _ I h=>wpAny_execs_nil ⟨σ,H,I,h⟩
theorem Qi8 (h1:PS X st t)(h2:PSs X rest u):PSs X (st :: rest) (QuM t u):=by
 intro pins s σ H D I h
 refine wpAny_execs_cons (thn (h1 pins s σ H { D with nx:=u D } I h) fun f s1 q=>?_)
 cases f with
 |next=>
  obtain ⟨σ',H',I',q⟩:=q
  exact h2 pins s1 σ' H' D I' q
 |ret v=>exact q
 |brk=>exact q
 |cont=>exact q
theorem QlX (h1:PS X st t):PSs X [st] t:=by
 intro pins s σ H D I h
 refine wpAny_execs_cons (thn (h1 pins s σ H D I h) fun f s1 q=>?_)
 cases f with
 |next=>exact wpAny_execs_nil q
 |ret v=>exact q
 |brk=>exact q
 |cont=>exact q
theorem Inv.quiet {pins:List (Addr × Obj)}{σ:St}{H:Hp}{s:Shared}(I:Inv X pins σ H s):interactive X.env=false:=by simp [interactive,I.ok.kind]
def Qs6 (te:TE):TS:=fun D σ H=>te σ H fun _ H1=>D.nx σ H1
theorem Qgs (he:PE X e te)(hs:swapsWith e none pos.line X.env=pure false:=by rfl):PS X (.Expr e pos) (Qs6 te):=by
 intro pins s σ H D I h
 exact wpAny_Expr_any (thn (he pins s σ H _ I h) fun v s1 ⟨x,H1,I1,r1,q1⟩=>⟨σ,H1,I1,q1⟩) I.quiet hs
def QuN (te:TE):TS:=fun D σ H=>te σ H D.rt
theorem Qsd (he:PE X e te):PS X (.Return (some e) pos) (QuN te):=by
 intro pins s σ H D I h
 exact wpAny_Return_some (thn (he pins s σ H _ I h) fun v s1 ⟨x,H1,I1,r1,q1⟩=>⟨x,σ,H1,I1,r1,q1⟩)
def QuB (c:TT)(t u:TS):TS:=fun D σ H=>c σ H fun b H1=>if b=true then t D σ H1 else u D σ H1
theorem QtL {c:Expr}{a b:List Stmt}{tc:TT}(hc:PT X c tc)(ha:PSs X a t)(hb:PSs X b u):PS X (.If c a b pos) (QuB tc t u):=by
 intro pins s σ H D I h
 refine wpAny_If (thn (hc pins s σ H _ I h) fun d s1 ⟨H1,I1,q1⟩=>?_)
 cases d with
 |true=>exact ha pins s1 σ H1 D I1 q1
 |false=>exact hb pins s1 σ H1 D I1 q1
end
abbrev TG:=V->St->Hp->(St->Hp->Prop)->Prop
abbrev TGs:=List V->St->Hp->(St->Hp->Prop)->Prop
def PG (X:Cx)(target:Expr)(t:TG):Prop:=
 ∀ (pins:List (Addr × Obj)) (s:Shared) (σ:St) (H:Hp) (v:V) (u:Value) (Q:St->Hp->Prop),Inv X pins σ H s->RelV v u->t v σ H Q->
  wpAny (model X.prog X.w) X.A (assign target X.env u) (fun _ s'=>∃ σ' H',Inv X pins σ' H' s'/\Q σ' H') X.xe s
def PGs (X:Cx)(ts:List Expr)(t:TGs):Prop:=
 ∀ (pins:List (Addr × Obj)) (s:Shared) (σ:St) (H:Hp) (vs:List V) (us:List Value) (Q:St->Hp->Prop),Inv X pins σ H s->Vals vs us->t vs σ H Q->
  wpAny (model X.prog X.w) X.A (assignInOrder ((assignEach ts X.env).map (·.2)) us) (fun _ s'=>∃ σ' H',Inv X pins σ' H' s'/\Q σ' H') X.xe s
abbrev QtF:=V->V->V->Hp->(Hp->Prop)->Prop
def Qt2 (X:Cx)(t:QtF):Prop:=
 ∀ (pins:List (Addr × Obj)) (s:Shared) (σ:St) (H:Hp) (o i v:V) (ov iv u:Value) (Q:Hp->Prop),Inv X pins σ H s->RelV o ov->RelV i iv->RelV v u->t o i v H Q->
  wpAny (model X.prog X.w) X.A (setItem ov iv u) (fun _ s'=>∃ H',Inv X pins σ H' s'/\Q H') X.xe s
section
variable {X:Cx}{pos:Pos}
def Qdo (i:Nat):TG:=fun v σ H Q=>Q (σ.set i (some v)) H
theorem QaA {i:Nat}{x:Str}(hN:X.N.Nodup)(hi:X.N[i]? = some x)(hx:Loc X.env.scope x)(hf:X.fn x=true\/X.env.scope.names.lookup x=some .local:=by first | exact .inl rfl | exact .inr rfl | assumption):PG X (.Name x pos) (Qdo i):=by
 intro pins s σ H v u Q I r h
 exact wpAny_assign_Name (QiM I hN hi hx r (fun s' I'=>⟨_,H,I',h⟩) hf)
def QrF:TGs:=fun vs σ H Q=>vs=[]/\Q σ H
def QfM (t:TG)(u:TGs):TGs:=fun vs σ H Q=>∃ v r,vs=v :: r/\t v σ H fun σ' H'=>u r σ' H' Q
theorem Qc8:PGs X [] QrF:=by
 intro pins s σ H vs us Q I r h
 obtain ⟨e,h⟩:=h
 subst e
 cases r
 exact assignInOrder_nil ⟨σ,H,I,h⟩
theorem QaN {e:Expr}{es:List Expr}{t:TG}{u:TGs}(h1:PG X e t)(h2:PGs X es u)
  (hs:(assignEach (e :: es) X.env).map (·.2)=assign e X.env :: (assignEach es X.env).map (·.2):=by rfl):PGs X (e :: es) (QfM t u):=by
 intro pins s σ H vs us Q I r h
 obtain ⟨v,vr,e1,h⟩:=h
 subst e1
 cases r with
 |cons r rr=>
  rw [hs]
  refine assignInOrder_cons (thn (h1 pins s σ H _ _ _ I r h) fun _ s1 ⟨σ1,H1,I1,q1⟩=>?_)
  exact h2 pins s1 σ1 H1 _ _ Q I1 rr q1
def QrH (K:PySem.W.Frag)(n:Nat)(t:TGs):TG:=fun v σ H Q=>∃ a xs,v=.ref a/\SqT K H a xs/\xs.length=n/\t xs σ H Q
theorem Qed {es:List Expr}{k:Nat}{t:TGs}{n:Nat}(hc:X.calm=true)(h:PGs X es t)
  (hn:(assignEach es X.env).length=n:=by rfl) (hst:(assignEach es X.env).findIdx? (·.1)=none:=by rfl):PG X (.Tuple es k pos) (QrH X.K n t):=by
 intro pins s σ H v u Q I r hw
 obtain ⟨a,xs,e1,hq,hl,hw⟩:=hw
 subst e1
 cases r
 obtain ⟨its,rv,ht,hz⟩:=I.tuple hq
 refine assign_Tuple_tuple (I.ok.hd hc) ht (by simp [hn,← hl,rv.length]) hst fun h' hx=>?_
 have I1:Inv X pins σ H { s with heap:=h' }:=I.kept (t':=s.toks) fun b o e=>hx b o (Nat.ne_of_lt (Heap.lt_size e)) e
 exact h pins _ σ H xs _ Q I1 (by simpa using rv) hw
def QiY (to ti:TE)(t:QtF):TG:=fun v σ H Q=>to σ H fun o H1=>ti σ H1 fun i H2=>t o i v H2 fun H3=>Q σ H3
theorem QhA {o i:Expr}{to ti:TE}{t:QtF}(ho:PE X o to)(hi:PE X i ti)(hs:Qt2 X t)
  (ha:∀ v,assign (.Subscript o i pos) X.env v=(do
   let ov ← holding [v] (eval o X.env)
   let iv ← holding [v,ov] (eval i X.env)
   standAt pos
   holding [v,ov,iv] (setItem ov iv v)
   release [v,ov,iv] []):=by intro _;rfl):PG X (.Subscript o i pos) (QiY to ti t):=by
 intro pins s σ H v u Q I r h
 rw [ha]
 refine wpAny_bind (wpAny_holding (thn (ho pins s σ H _ I h) fun ov s1 ⟨x,H1,I1,r1,q1⟩=>?_))
 refine wpAny_bind (wpAny_holding (thn (hi pins s1 σ H1 _ I1 q1) fun iv s2 ⟨y,H2,I2,r2,q2⟩=>?_))
 refine wpAny_bind (wpAny_standAt (wpAny_bind (wpAny_holding (thn (hs pins s2 σ H2 x y v ov iv u _ I2 r1 r2 r q2) fun _ s3 ⟨H3,I3,q3⟩=>?_))))
 exact wpAny_release ⟨σ,H3,I3,q3⟩
def Qqo (te:TE)(g:TG):TS:=fun D σ H=>te σ H fun x H1=>g x σ H1 D.nx
theorem Qlp {tg e:Expr}{te:TE}{g:TG}(he:PE X e te)(hg:PG X tg g)(hs:swapsWithSole [tg] e pos.line X.env=pure false:=by rfl)(hw:swappedStores [tg] e X.env=pure none:=by rfl)
  (h1:(assignEach [tg] X.env).map (·.2)=[assign tg X.env]:=by rfl):PS X (.Assign [tg] e pos) (Qqo te g):=by
 intro pins s σ H D I h
 refine wpAny_Assign_stores (thn (he pins s σ H _ I h) fun v s1 ⟨x,H1,I1,r1,q1⟩=>?_) hs hw
 rw [h1]
 exact thn (hg pins s1 σ H1 x v _ I1 r1 q1) fun _ s2 q=>q
theorem QnH {i:Nat}{x:Str}{e:Expr}{te:TE}{pos':Pos}(hN:X.N.Nodup)(hi:X.N[i]? = some x)(hx:Loc X.env.scope x)(he:PE X e te)(hs:swapsWith e (some (.Name x pos')) pos.line X.env=pure false:=by rfl)(hf:X.fn x=true\/X.env.scope.names.lookup x=some .local:=by first | exact .inl rfl | exact .inr rfl | assumption) :
  PS X (.Assign [.Name x pos'] e pos) (Qqo te (Qdo i)):=by
 intro pins s σ H D I h
 refine wpAny_Assign_Name (thn (he pins s σ H _ I h) fun v s1 ⟨y,H1,I1,r1,q1⟩=>?_) hs
 exact QiM I1 hN hi hx r1 (fun s2 I2=>⟨_,H1,I2,q1⟩) hf
end
section
variable {X:Cx}{pos:Pos}
def QqL (c:TT)(tb:TS):TS:=fun D σ H=>∃ W:Nat->St->Hp->Prop,(∃ m,W m σ H)/\∀ m σ H,W m σ H->
 c σ H fun b H1=>if b=true then ∃ N:St->Hp->Prop,(∀ σ' H',N σ' H'->∃ m',m' < m/\W m' σ' H')/\tb { D with nx:=N,ct:=N,bk:=D.nx } σ H1 else D.nx σ H1
theorem Qmg {c:Expr}{body:List Stmt}{tc:TT}{tb:TS}(hp:PassesOwn (model X.prog X.w) X.A X.env X.xe)(hc:PT X c tc)(hb:PSs X body tb):PS X (.While c body [] pos) (QqL tc tb):=by
 intro pins s σ H D I h
 obtain ⟨W,⟨m0,w0⟩,turn⟩:=h
 refine wpAny_While (codeAny_whileLoop (fun n s'=>∃ σ' H',Inv X pins σ' H' s'/\W n σ' H') ?_ m0 ⟨σ,H,I,w0⟩)
 rintro n s1 ⟨σ1,H1,I1,w1⟩
 refine wpAny_passesOwn hp (thn (hc pins s1 σ1 H1 _ I1 (turn n σ1 H1 w1)) fun b s2 ⟨H2,I2,q2⟩=>?_)
 cases b with
 |true=>
  obtain ⟨N,hN,q2⟩:=q2
  rw [if_pos rfl]
  refine wpAny_passesOwn hp (thn (hb pins s2 σ1 H2 _ I2 q2) fun f s3 q3=>?_)
  cases f with
  |next=>
   obtain ⟨σ3,H3,I3,n3⟩:=q3
   obtain ⟨m',hm,w3⟩:=hN σ3 H3 n3
   exact ⟨m',hm,σ3,H3,I3,w3⟩
  |cont=>
   obtain ⟨σ3,H3,I3,n3⟩:=q3
   obtain ⟨m',hm,w3⟩:=hN σ3 H3 n3
   exact ⟨m',hm,σ3,H3,I3,w3⟩
  |brk=>exact q3
  |ret v=>exact q3
 |false=>
  rw [if_neg Bool.false_ne_true]
  exact wpAny_execs_nil ⟨σ1,H2,I2,q2⟩
end
structure It where
 go:Nat->Hp->Prop
 yld:Nat->Hp->V->Hp->Prop
 stop:Nat->Hp->Prop
def QjR (X:Cx)(pins:List (Addr × Obj))(H:Hp)(b:Addr):Prop:=
 H b=none/\b≠X.env.locals/\b∉X.fs/\(b∈X.ex\/X.s₀.heap.objs.size<=b)/\(∀ x c,X.env.cells.lookup x=some c->c≠b)/\∀ p∈X.pn++pins,p.1≠b
theorem Inv.fpOk {X:Cx}{pins:List (Addr × Obj)}{σ:St}{H H':Hp}{s:Shared}{b:Addr}(I:Inv X pins σ H s)(hb:s.heap.objs.size<=b)(hn:H' b=none):QjR X pins H' b:=by
 refine ⟨hn,Nat.ne_of_gt (Nat.lt_of_lt_of_le I.lt hb),I.nofs hb,.inr (Nat.le_trans I.sz hb),fun x c e z=>?_,fun p hp z=>?_⟩
 ·obtain ⟨v,q⟩:=I.cell x c e
  exact absurd (Nat.lt_of_lt_of_le q.lt (by rw [z];exact hb)) (Nat.lt_irrefl _)
 ·exact absurd (Nat.lt_of_lt_of_le (Heap.lt_size (I.pin p hp).1) (by rw [z];exact hb)) (Nat.lt_irrefl _)
structure QpN (P:Program)(w:World)(K:PySem.W.Frag)(tg:Expr)(J:It)(fp:List Addr)(it:Addr)(tn:Nat->Heap->Prop):Prop where
 mem:it∈fp
 obj:∀ i h,tn i h->∀ b∈fp,∃ o,h.get? b=some o/\∀ v,o.data≠.cell v
 keep:∀ i h h',tn i h->(∀ b∈fp,∀ o,h.get? b=some o->h'.get? b=some o)->tn i h'
 item:∀ (X:Cx),X.prog=P->X.w=w->X.K=K->X.calm=true->∀ (i:Nat) (pins:List (Addr × Obj)) (s:Shared) (σ:St) (H:Hp) (E:Value->Shared->Prop),Inv X pins σ H s->(∀ b∈fp,QjR X pins H b)->tn i s.heap->J.go i H->
  wpAny (model P w) X.A (pyNext (.ref it)) (fun r s1=>∃ u,r=some u/\
   wpAny (model P w) X.A (letOwnedTupleGo tg (.ref it) u) (fun _ s2=>∃ x H',Inv X pins σ H' s2/\RelV x u/\J.yld i H x H'/\tn (i+1) s2.heap/\∀ b∈fp,H' b=none) E s1) E s
 done:∀ (X:Cx),X.prog=P->X.w=w->X.K=K->X.calm=true->∀ (i:Nat) (pins:List (Addr × Obj)) (s:Shared) (σ:St) (H:Hp) (E:Value->Shared->Prop),Inv X pins σ H s->(∀ b∈fp,QjR X pins H b)->tn i s.heap->J.stop i H->
  wpAny (model P w) X.A (pyNext (.ref it)) (fun r s1=>r=none/\Inv X pins σ H s1) E s
 self:∀ (A:Around) (i:Nat) (s:Shared) (Q:Value->Shared->Prop) (E:Value->Shared->Prop),tn i s.heap->Q (.ref it) s->wpAny (model P w) A (pyIter (.ref it)) Q E s
abbrev TI:=St->Hp->(It->Hp->Prop)->Prop
def PIE (X:Cx)(pins:List (Addr × Obj))(σ:St)(tg:Expr)(R:It->Hp->Prop)(itv:Value)(s2:Shared):Prop:=
 ∃ (it:Addr) (fp:List Addr) (tn:Nat->Heap->Prop) (J:It) (H':Hp),itv=.ref it/\Inv X pins σ H' s2/\QpN X.prog X.w X.K tg J fp it tn/\tn 0 s2.heap/\(∀ b∈fp,QjR X pins H' b)/\R J H'
def PI (X:Cx)(tg iter:Expr)(wi:TI):Prop:=
 ∀ (pins:List (Addr × Obj)) (s:Shared) (σ:St) (H:Hp) (R:It->Hp->Prop),Inv X pins σ H s->wi σ H R->
  wpAny (model X.prog X.w) X.A (eval iter X.env) (fun v s1=>wpAny (model X.prog X.w) X.A (pyIter v) (PIE X pins σ tg R) X.xe s1) X.xe s
theorem Qn0 {M:Model}{A:Around}{E:Value->Shared->Prop}{s:Shared}{tg:Expr}{it:Addr}{u:Value}{o:Obj}{n:String}{vs:Array Value}{Q:Unit->Shared->Prop}(ho:s.heap.get? it=some o)(hc:o.cls=.type n)(hd:o.data=.fields vs)
  (hn:["enumerate","zip","dict_itemiterator","dict_reverseitemiterator","odict_iterator","itertools.zip_longest","itertools.pairwise"].contains n=false) (hQ:Q () s):wpAny M A (letOwnedTupleGo tg (.ref it) u) Q E s:=by
 unfold letOwnedTupleGo
 cases tg<;>first
  |exact wpAny_pure hQ
  |(cases u<;>first
    |exact wpAny_pure hQ
    |(refine wpAny_bind (wpAny_load ho ?_);rw [hc,hd];show wpAny M A (if (["enumerate","zip","dict_itemiterator","dict_reverseitemiterator","odict_iterator","itertools.zip_longest","itertools.pairwise"].contains n && vs[0]? == some (rawInt _))=true then _ else _) Q E s;rw [if_neg (by intro h;rw [hn,Bool.false_and] at h;cases h)];exact wpAny_pure hQ))
def Itl (K:PySem.W.Frag)(a:Addr):It:=
 ⟨fun i H=>∃ xs x,SqL K H a xs/\xs[i]? = some x,fun i H x H'=>H'=H/\∀ xs,SqL K H a xs->xs[i]? = some x,fun i H=>∃ xs,SqL K H a xs/\xs.length<=i⟩
def Itt (K:PySem.W.Frag)(a:Addr):It:=
 ⟨fun i H=>∃ xs x,SqT K H a xs/\xs[i]? = some x,fun i H x H'=>H'=H/\∀ xs,SqT K H a xs->xs[i]? = some x,fun i H=>∃ xs,SqT K H a xs/\xs.length<=i⟩
def Itr (lo:Int)(n:Nat):It:=⟨fun i _=>i<n,fun i H x H'=>H'=H/\x=.int (lo+i),fun i _=>n<=i⟩
theorem QkJ {P:Program}{w:World}{K:PySem.W.Frag}{tg:Expr}(a it:Addr):QpN P w K tg (Itl K a) [it] it (fun i h=>h.IsListIter it a i) where
 mem:=by simp
 obj:=fun i h st b hb=>by
  have e:b=it:=by simpa using hb
  subst e
  obtain ⟨o,e,c,d⟩:=st
  exact ⟨o,e,fun v z=>by rw [d] at z;cases z⟩
 keep:=fun i h h' st k=>st.at fun o e=>k it (by simp) o e
 item:=by
  intro X hP hw hK hc i pins s σ H E I hf st hg
  subst hP hw hK
  obtain ⟨xs,x,hq,hx⟩:=hg
  obtain ⟨its,rv,p,hz⟩:=I.list hq
  obtain ⟨u,hu,ru⟩:=rv.get hx
  obtain ⟨f0,f1,f2,f3,f4,f5⟩:=hf it (by simp)
  refine wpAny_pyNext_list_item st p.isList (x:=u) (by simpa using hu) fun h' st' sb=>?_
  have I1:Inv X pins σ H { s with heap:=h' }:=I.turned (t':=s.toks) (fun b o hb e=>(sb.2 b hb).trans e) f0 f1 f3 f4 f5
  obtain ⟨o,e,c,d⟩:=id st'
  exact ⟨u,rfl,Qn0 (s:={ s with heap:=h' }) e c d (by decide) ⟨x,H,I1,ru,⟨rfl,fun ys hy=>by rw [I.list_inj hy hq];exact hx⟩,st',fun b hb=>(hf b hb).1⟩⟩
 done:=by
  intro X hP hw hK hc i pins s σ H E I hf st hg
  subst hP hw hK
  obtain ⟨xs,hq,hx⟩:=hg
  obtain ⟨its,rv,p,hz⟩:=I.list hq
  obtain ⟨f0,f1,f2,f3,f4,f5⟩:=hf it (by simp)
  have hl:=rv.length
  exact wpAny_pyNext_list_end (I.ok.hd hc) st p.isList (by simp;omega) fun h' eb=>⟨rfl,I.turned (t':=s.toks) (fun b o hb e=>eb b o hb e) f0 f1 f3 f4 f5⟩
 self:=fun _ _ _ _ _ st h=>wpAny_pyIter_listiter st h
theorem Qjh {P:Program}{w:World}{K:PySem.W.Frag}{tg:Expr}(a it:Addr):QpN P w K tg (Itt K a) [it] it (fun i h=>h.IsTupleIter it a i) where
 mem:=by simp
 obj:=fun i h st b hb=>by
  have e:b=it:=by simpa using hb
  subst e
  obtain ⟨o,e,c,d⟩:=st
  exact ⟨o,e,fun v z=>by rw [d] at z;cases z⟩
 keep:=fun i h h' st k=>st.at fun o e=>k it (by simp) o e
 item:=by
  intro X hP hw hK hc i pins s σ H E I hf st hg
  subst hP hw hK
  obtain ⟨xs,x,hq,hx⟩:=hg
  obtain ⟨its,rv,p,hz⟩:=I.tuple hq
  obtain ⟨u,hu,ru⟩:=rv.get hx
  obtain ⟨f0,f1,f2,f3,f4,f5⟩:=hf it (by simp)
  refine wpAny_pyNext_tuple_item st (show s.heap.IsTuple a its.toArray from p) (x:=u) (by simpa using hu) fun h' st' sb=>?_
  have I1:Inv X pins σ H { s with heap:=h' }:=I.turned (t':=s.toks) (fun b o hb e=>(sb.2 b hb).trans e) f0 f1 f3 f4 f5
  obtain ⟨o,e,c,d⟩:=id st'
  exact ⟨u,rfl,Qn0 (s:={ s with heap:=h' }) e c d (by decide) ⟨x,H,I1,ru,⟨rfl,fun ys hy=>by rw [I.tuple_inj hy hq];exact hx⟩,st',fun b hb=>(hf b hb).1⟩⟩
 done:=by
  intro X hP hw hK hc i pins s σ H E I hf st hg
  subst hP hw hK
  obtain ⟨xs,hq,hx⟩:=hg
  obtain ⟨its,rv,p,hz⟩:=I.tuple hq
  obtain ⟨f0,f1,f2,f3,f4,f5⟩:=hf it (by simp)
  have hl:=rv.length
  exact wpAny_pyNext_tuple_end (I.ok.hd hc) st (show s.heap.IsTuple a its.toArray from p) (by simp;omega) fun h' eb=>⟨rfl,I.turned (t':=s.toks) (fun b o hb e=>eb b o hb e) f0 f1 f3 f4 f5⟩
 self:=fun _ _ _ _ _ st h=>wpAny_pyIter_tupleiter st h
theorem QjB {P:Program}{w:World}{K:PySem.W.Frag}{tg:Expr}(it:Addr)(lo:Int)(n:Nat):QpN P w K tg (Itr lo n) [it] it (fun i h=>IsRangeIter h it (lo+(i:Nat) * 1) ((n:Int) - (i:Nat)) 1) where
 mem:=by simp
 obj:=fun i h st b hb=>by
  have e:b=it:=by simpa using hb
  subst e
  exact ⟨_,st,fun v z=>by
   have z':Data.fields _=Data.cell v:=z
   cases z'⟩
 keep:=fun i h h' st k=>k it (by simp) _ st
 item:=by
  intro X hP hw hK hc i pins s σ H E I hf st hg
  subst hP hw hK
  obtain ⟨f0,f1,f2,f3,f4,f5⟩:=hf it (by simp)
  have W:=Walks.range (prog:=X.prog) (w:=X.w) (I.ok.hd hc) it lo 1 n
  refine W.item i s _ _ hg st fun v h' tk hv st' kk=>?_
  obtain ⟨t,rfl⟩:=hv
  have I1:Inv X pins σ H { s with heap:=h',toks:=tk }:=I.turned (fun b o hb e=>kk b o (by simpa using hb) e) f0 f1 f3 f4 f5
  refine ⟨_,rfl,Qn0 (s:={ s with heap:=h',toks:=tk }) (n := "range_iterator") st' rfl rfl (by decide) ⟨.int (lo+i),H,I1,⟨t,?_⟩,⟨rfl,rfl⟩,st',fun b hb=>(hf b hb).1⟩⟩
  rw [Int.mul_one]
 done:=by
  intro X hP hw hK hc i pins s σ H E I hf st hg
  subst hP hw hK
  obtain ⟨f0,f1,f2,f3,f4,f5⟩:=hf it (by simp)
  exact wpAny_pyNext_range_end (I.ok.hd hc) st (by have:n<=i:=hg;omega) fun h' eb=>⟨rfl,I.turned (t':=s.toks) (fun b o hb e=>eb b o hb e) f0 f1 f3 f4 f5⟩
 self:=fun _ _ _ _ _ st h=>wpAny_pyIter_rangeiter st h
section
variable {X:Cx}{tg:Expr}
theorem QmO {pins:List (Addr × Obj)}{σ:St}{H:Hp}{s:Shared}{R:It->Hp->Prop}{E:Value->Shared->Prop}{lo hi:Int}{t u v:Tok}{tk:Nat}(I:Inv X pins σ H s)(h1 : -(2 ^ 62)<=lo)(h2:lo<2 ^ 62)(h3 : -(2 ^ 62)<=hi)(h4:hi<2 ^ 62)
  (q:R (Itr lo (hi - lo).toNat) H):wpAny (model X.prog X.w) X.A (pyIter (.ref s.heap.objs.size)) (PIE X pins σ tg R) E { s with heap:=s.heap.push { cls:=.type "range",data:=.fields #[.int lo t,.int hi u,.int 1 v] },toks:=tk }:=by
 refine wpAny_pyIter_range (IsRange.new ..) (small_one h1 h2 h3 h4) ?_
 have I1:Inv X pins σ H { s with heap:=s.heap.push { cls:=.type "range",data:=.fields #[.int lo t,.int hi u,.int 1 v] },toks:=tk }:=I.kept fun b o e=>Heap.get?_push_of_some _ e
 refine ⟨(s.heap.push { cls:=.type "range",data:=.fields #[.int lo t,.int hi u,.int 1 v] }).objs.size,[(s.heap.push { cls:=.type "range",data:=.fields #[.int lo t,.int hi u,.int 1 v] }).objs.size],_,_,H,rfl,
  I1.kept (t':=tk) fun b o e=>Heap.get?_push_of_some _ e,QjB _ lo (hi - lo).toNat,?_,fun b hb=>?_,q⟩
 ·have e1:lo+((0:Nat):Int) * 1=lo:=by simp
  have e2:(((hi - lo).toNat:Nat):Int) - ((0:Nat):Int)=Builtin.Range.rangeSize lo hi 1:=by rw [rangeSize_one];split<;>omega
  show IsRangeIter _ _ (lo+((0:Nat):Int) * 1) ((((hi - lo).toNat:Nat):Int) - ((0:Nat):Int)) 1
  rw [e1,e2]
  exact Heap.get?_push_size _ rfl
 ·have e:b=(s.heap.push { cls:=.type "range",data:=.fields #[.int lo t,.int hi u,.int 1 v] }).objs.size:=by simpa using hb
  subst e
  exact I1.fpOk (Nat.le_refl _) (I1.hok.fresh (Nat.le_refl _))
def QtH (ta:TA):TI:=fun σ H R=>ta σ H fun vs H1=>∃ j:Int,vs=[.int j]/\-(2 ^ 62)<=j/\j<2 ^ 62/\R (Itr 0 j.toNat) H1
theorem Qlf {a:Expr}{ta:TA}{p pos:Pos}(hg:Gl X "range")(hm:X.mg "range" = none)(ha:PA X [a] ta)(hs:starEach [a] X.env=[(false,eval a X.env)]:=by rfl):PI X tg (.Call (.Name "range" p) [a] [] pos) (QtH ta):=by
 intro pins s σ H R I h
 refine Call_ (Qgx I hg hm boot_range (PyProof.Rows.callWith_type1 (thn (ha pos pins s σ H _ I h) fun us s1 ⟨vs,H1,I1,r1,q1⟩=>?_) hs rfl))
 obtain ⟨j,e,q1,q2,q⟩:=q1
 subst e
 cases r1 with
 |cons r rr=>
  cases rr
  obtain ⟨t,rfl⟩:=r
  exact call_range_1 (QmO I1 (by omega) (by omega) q1 q2 (by simpa using q))
def QuO (wi:TI)(g:TG)(tb:TS):TS:=fun D σ H=>wi σ H fun J H1=>∃ W:Nat->Nat->St->Hp->Prop,(∃ m,W 0 m σ H1)/\∀ i m σ H,W i m σ H->
 (J.stop i H/\D.nx σ H)\/(J.go i H/\∃ N:St->Hp->Prop,(∀ σ' H',N σ' H'->∃ m',m' < m/\W (i+1) m' σ' H')/\∀ x H',J.yld i H x H'->g x σ H' fun σ2 H2=>tb { D with nx:=N,ct:=N,bk:=D.nx } σ2 H2)
def Qbs (fp:List Addr)(h:Heap):List (Addr × Obj):=fp.filterMap fun b=>(h.get? b).map fun o=>(b,o)
theorem Qbm {fp:List Addr}{h:Heap}{b:Addr}{o:Obj}(hb:b∈fp)(e:h.get? b=some o):(b,o)∈Qbs fp h:=List.mem_filterMap.mpr ⟨b,hb,by rw [e];rfl⟩
theorem QdT {fp:List Addr}{h:Heap}{p:Addr × Obj}(hp:p∈Qbs fp h):p.1∈fp/\h.get? p.1=some p.2:=by
 obtain ⟨b,hb,e⟩:=List.mem_filterMap.mp hp
 cases q:h.get? b with
 |none=>rw [q] at e;cases e
 |some o=>
  rw [q] at e
  have e':(b,o)=p:=Option.some.inj e
  subst e'
  exact ⟨hb,q⟩
theorem Inv.pinned {pins:List (Addr × Obj)}{σ:St}{H:Hp}{s:Shared}{fp:List Addr}(I:Inv X pins σ H s)(hf:∀ b∈fp,QjR X pins H b)(ho:∀ b∈fp,∃ o,s.heap.get? b=some o/\∀ v,o.data≠.cell v):Inv X (pins++Qbs fp s.heap) σ H s:=
 I.pins_of fun p hp=>(List.mem_append.mp hp).elim (fun z=>I.pin p (List.mem_append_right _ z)) fun z=>by
  obtain ⟨hb,e⟩:=QdT z
  obtain ⟨f0,f1,f2,_⟩:=hf p.1 hb
  obtain ⟨o,e',d⟩:=ho p.1 hb
  rw [e] at e';cases e'
  exact ⟨e,f0,f1,f2,d⟩
theorem Inv.unpinned {pins pl:List (Addr × Obj)}{σ:St}{H:Hp}{s:Shared}(I:Inv X (pins++pl) σ H s):Inv X pins σ H s:=I.pins_of fun p hp=>I.pin p (List.mem_append_right _ (List.mem_append_left _ hp))
theorem QqX {iter:Expr}{body:List Stmt}{wi:TI}{g:TG}{tb:TS}{pos:Pos}(hp:PassesOwn (model X.prog X.w) X.A X.env X.xe)(hc:X.calm=true)(hi:PI X tg iter wi)(hg:PG X tg g)(hb:PSs X body tb)
  (hs:∀ x,foldedSetIterable iter X.env x=pure x:=by intro _;rfl):PS X (.For tg iter body [] pos) (QuO wi g tb):=by
 intro pins s σ H D I h
 refine wpAny_For (thn (hi pins s σ H _ I h) fun v s1 h1=>thn h1 fun itv s2 h2=>?_) hs
 obtain ⟨it,fp,tn,J,H2,e,I2,T,st2,f2,W,⟨m0,w0⟩,turn⟩:=h2
 subst e
 -- what stays true of the iterator's objects through the loop
 have stat:∀ {H':Hp},(∀ b∈fp,H' b=none)->∀ b∈fp,QjR X pins H' b:=fun hn b hb=>⟨hn b hb,(f2 b hb).2⟩
 refine codeAny_forLoop_any (fun n s'=>∃ i σ' H',Inv X pins σ' H' s'/\tn i s'.heap/\(∀ b∈fp,H' b=none)/\W i n σ' H') ?_ m0 ⟨0,σ,H2,I2,st2,fun b hb=>(f2 b hb).1,w0⟩
 rintro n s3 ⟨i,σ3,H3,I3,st3,fr3,w3⟩
 rcases turn i n σ3 H3 w3 with ⟨stop,qn⟩ | ⟨go,N,hN,step⟩
 ·refine wpAny_passesOwn hp (thn (T.done X rfl rfl rfl hc i pins s3 σ3 H3 X.xe I3 (stat fr3) st3 stop) fun r s4 ⟨hr,I4⟩=>?_)
  subst hr
  exact wpAny_execs_nil ⟨σ3,H3,I4,qn⟩
 ·refine wpAny_passesOwn hp (thn (T.item X rfl rfl rfl hc i pins s3 σ3 H3 X.xe I3 (stat fr3) st3 go) fun r s4 ⟨u,hr,h4⟩=>?_)
  subst hr
  refine wpAny_passesOwn hp (thn h4 fun _ s5 ⟨x,H5,I5,r5,y5,st5,fr5⟩=>?_)
  have I5':=I5.pinned (stat fr5) (T.obj _ _ st5)
  refine wpAny_passesOwn hp (thn (hg _ s5 σ3 H5 x u _ I5' r5 (step x H5 y5)) fun _ s6 ⟨σ6,H6,I6,q6⟩=>?_)
  refine wpAny_passesOwn hp (thn (hb _ s6 σ6 H6 _ I6 q6) fun f s7 q7=>?_)
  have again:∀ {σ7:St} {H7:Hp},Inv X (pins++Qbs fp s5.heap) σ7 H7 s7->N σ7 H7->∃ m,m<n/\∃ i σ' H',Inv X pins σ' H' s7/\tn i s7.heap/\(∀ b∈fp,H' b=none)/\W i m σ' H':=fun {σ7 H7} I7 n7=>by
   obtain ⟨m',hm,w7⟩:=hN σ7 H7 n7
   refine ⟨m',hm,i+1,σ7,H7,I7.unpinned,T.keep _ _ _ st5 fun b hb o e=>(I7.pin (b,o) (List.mem_append_right _ (List.mem_append_right _ (Qbm hb e)))).1,fun b hb=>?_,w7⟩
   obtain ⟨o,e,d⟩:=T.obj _ _ st5 b hb
   exact (I7.pin (b,o) (List.mem_append_right _ (List.mem_append_right _ (Qbm hb e)))).2.1
  cases f with
  |next=>obtain ⟨σ7,H7,I7,n7⟩:=q7;exact again I7 n7
  |cont=>obtain ⟨σ7,H7,I7,n7⟩:=q7;exact again I7 n7
  |brk=>obtain ⟨σ7,H7,I7,q7⟩:=q7;exact ⟨σ7,H7,I7.unpinned,q7⟩
  |ret v=>obtain ⟨x7,σ7,H7,I7,r7,q7⟩:=q7;exact ⟨x7,σ7,H7,I7.unpinned,r7,q7⟩
end
abbrev R2:=V->V->Hp->VK->Prop
def OpR (X:Cx)(f:Value->Value->Sem Value)(r:R2):Prop:=
 ∀ (pins:List (Addr × Obj)) (s:Shared) (σ:St) (H:Hp) (x y:V) (v u:Value) (Q:VK),Inv X pins σ H s->RelV x v->RelV y u->r x y H Q->
  wpAny (model X.prog X.w) X.A (f v u) (EP X pins σ Q) X.xe s
def UnR (X:Cx)(f:Value->Sem Value)(r:V->Hp->VK->Prop):Prop:=
 ∀ (pins:List (Addr × Obj)) (s:Shared) (σ:St) (H:Hp) (x:V) (v:Value) (Q:VK),Inv X pins σ H s->RelV x v->r x H Q->
  wpAny (model X.prog X.w) X.A (f v) (EP X pins σ Q) X.xe s
def Qcm (X:Cx)(f:Value)(r:List V->Hp->VK->Prop):Prop:=
 ∀ (pins:List (Addr × Obj)) (s:Shared) (σ:St) (H:Hp) (xs:List V) (us:List Value) (Q:VK),Inv X pins σ H s->Vals xs us->r xs H Q->
  wpAny (model X.prog X.w) X.A (call f us) (EP X pins σ Q) X.xe s
def tOp (r:R2)(ta tb:TE):TE:=fun σ H Q=>ta σ H fun x H1=>tb σ H1 fun y H2=>r x y H2 Q
def tUn (r:V->Hp->VK->Prop)(ta:TE):TE:=fun σ H Q=>ta σ H fun x H1=>r x H1 Q
def rI (C:Int->Int->Prop)(g:Int->Int->V):R2:=fun x y H Q=>∃ i j,x=.int i/\y=.int j/\C i j/\Q (g i j) H
def rI0 (g:Int->Int->V):R2:=fun x y H Q=>∃ i j,x=.int i/\y=.int j/\Q (g i j) H
def rU (g:Int->V):V->Hp->VK->Prop:=fun x H Q=>∃ i,x=.int i/\Q (g i) H
section
variable {X:Cx}{a b:Expr}{ta tb:TE}{pos:Pos}
theorem Qtr (ha:PE X a ta)(hb:PE X b tb){pins:List (Addr × Obj)}{s:Shared}{σ:St}{H:Hp}{R:V->V->Hp->Prop}(I:Inv X pins σ H s)
  (h:ta σ H fun x H1=>tb σ H1 fun y H2=>R x y H2) {Q:Value->Shared->Prop} {f:Value->Value->Sem Value}
  (hf:∀ v u s2 x y H2,Inv X pins σ H2 s2->RelV x v->RelV y u->R x y H2->wpAny (model X.prog X.w) X.A (f v u) Q X.xe s2) :
  wpAny (model X.prog X.w) X.A (eval a X.env) (fun v s₁=>wpAny (model X.prog X.w) X.A (eval b X.env) (fun u s₂=>wpAny (model X.prog X.w) X.A (f v u) Q X.xe s₂) X.xe s₁) X.xe s:=by
 refine thn (ha pins s σ H _ I h) fun v s1 ⟨x,H1,I1,r1,q1⟩=>?_
 refine thn (hb pins s1 σ H1 _ I1 q1) fun u s2 ⟨y,H2,I2,r2,q2⟩=>?_
 exact hf v u s2 x y H2 I2 r1 r2 q2
theorem Qrl {op:Operator}{r:R2}(ho:OpR X (binaryOp op) r)(ha:PE X a ta)(hb:PE X b tb):PE X (.BinOp a op b pos) (tOp r ta tb):=by
 intro pins s σ H Q I h
 exact wpAny_BinOp (Qtr ha hb I h fun v u s2 x y H2 I2 rx ry q=>ho pins s2 σ H2 x y v u Q I2 rx ry q)
theorem QtJ {op:UnaryOp}{r:V->Hp->VK->Prop}(ho:UnR X (unaryOp op) r)(ha:PE X a ta):PE X (.UnaryOp op a pos) (tUn r ta):=by
 intro pins s σ H Q I h
 exact UnaryOp_ (thn (ha pins s σ H _ I h) fun v s1 ⟨x,H1,I1,r1,q1⟩=>ho pins s1 σ H1 x v Q I1 r1 q1)
theorem opI {f:Value->Value->Sem Value}{C:Int->Int->Prop}{g:Int->Int->Int}
  (rule:∀ (i j:Int) (t u:Tok) (s:Shared) (Q:Value->Shared->Prop) (E:Value->Shared->Prop),C i j->Q (.int (g i j) s.toks) { s with toks:=s.toks+1 }->wpAny (model X.prog X.w) X.A (f (.int i t) (.int j u)) Q E s) :
  OpR X f (rI C fun i j=>.int (g i j)):=by
 intro pins s σ H x y v u Q I rx ry h
 obtain ⟨i,j,rfl,rfl,hc,q⟩:=h
 obtain ⟨t,rfl⟩:=rx
 obtain ⟨t',rfl⟩:=ry
 exact rule i j t t' s _ _ hc ⟨.int (g i j),H,I.tok _,⟨_,rfl⟩,q⟩
theorem Qub {f:Value->Value->Sem Value}{g:Int->Int->Int}
  (rule:∀ (i j:Int) (t u:Tok) (s:Shared) (Q:Value->Shared->Prop) (E:Value->Shared->Prop),Q (.int (g i j) s.toks) { s with toks:=s.toks+1 }->wpAny (model X.prog X.w) X.A (f (.int i t) (.int j u)) Q E s) :
  OpR X f (rI0 fun i j=>.int (g i j)):=by
 intro pins s σ H x y v u Q I rx ry h
 obtain ⟨i,j,rfl,rfl,q⟩:=h
 obtain ⟨t,rfl⟩:=rx
 obtain ⟨t',rfl⟩:=ry
 exact rule i j t t' s _ _ ⟨.int (g i j),H,I.tok _,⟨_,rfl⟩,q⟩
theorem Qs9 {f:Value->Value->Sem Value}{g:Int->Int->Bool}
  (rule:∀ (i j:Int) (t u:Tok) (s:Shared) (Q:Value->Shared->Prop) (E:Value->Shared->Prop),Q (.bool (g i j)) s->wpAny (model X.prog X.w) X.A (f (.int i t) (.int j u)) Q E s) :
  OpR X f (rI0 fun i j=>.bl (g i j)):=by
 intro pins s σ H x y v u Q I rx ry h
 obtain ⟨i,j,rfl,rfl,q⟩:=h
 obtain ⟨t,rfl⟩:=rx
 obtain ⟨t',rfl⟩:=ry
 exact rule i j t t' s _ _ ⟨.bl (g i j),H,I,rfl,q⟩
def QnT (i j:Int):Prop:=0<=j/\j<=1000000/\i.natAbs<2 ^ 64
def CMul (i j:Int):Prop:=(-(2 ^ 64)<i/\i<2 ^ 64)\/(-(2 ^ 64)<j/\j<2 ^ 64)
theorem CMul.ok {i j:Int}(h:CMul i j):IntMulOk i j:=by
 rcases h with ⟨h1,h2⟩ | ⟨h1,h2⟩
 ·exact .of_left (intBits_le_64 h1 h2)
 ·exact .of_right (intBits_le_64 h1 h2)
theorem Qbo:OpR X (binaryOp .Add) (rI0 fun i j=>.int (i+j)):=Qub fun _ _ _ _ _ _ _ q=>add_int q
theorem QeJ:OpR X (binaryOp .Sub) (rI0 fun i j=>.int (i - j)):=Qub fun _ _ _ _ _ _ _ q=>sub_int q
theorem Qc5:OpR X (binaryOp .Mult) (rI CMul fun i j=>.int (i * j)):=opI fun _ _ _ _ _ _ _ hc q=>mul_int q hc.ok
theorem Qec:OpR X (binaryOp .Mod) (rI (fun _ j=>0<j) fun i j=>.int (i % j)):=opI fun i j _ _ _ _ _ hc q=>by
 have h1:(0:Int)<j:=hc
 exact mod_int' (by omega) (by rw [Int.fmod_eq_emod_of_nonneg i (by omega)];exact q)
theorem Qha:OpR X (binaryOp .Pow) (rI QnT fun i j=>.int (i ^ j.toNat)):=opI fun _ _ _ _ _ _ _ hc q=>pow_int_small hc.1 hc.2.1 hc.2.2 q
theorem unI {f:Value->Sem Value}{g:Int->Int}
  (rule:∀ (i:Int) (t:Tok) (s:Shared) (Q:Value->Shared->Prop) (E:Value->Shared->Prop),Q (.int (g i) s.toks) { s with toks:=s.toks+1 }->wpAny (model X.prog X.w) X.A (f (.int i t)) Q E s) :
  UnR X f (rU fun i=>.int (g i)):=by
 intro pins s σ H x v Q I rx h
 obtain ⟨i,rfl,q⟩:=h
 obtain ⟨t,rfl⟩:=rx
 exact rule i t s _ _ ⟨.int (g i),H,I.tok _,⟨_,rfl⟩,q⟩
theorem Qsr:UnR X (unaryOp .USub) (rU fun i=>.int (-i)):=unI fun _ _ _ _ _ q=>neg_int q
end
def QpQ:V->V->Bool
 |.non,.non=>true | .non,.int _=>true | .int _,.non=>true | .non,.bl _=>true | .bl _,.non=>true | .non,.str _=>true | .str _,.non=>true
 |.int _,.int _=>true | .bl _,.bl _=>true | .str _,.str _=>true | .byt _,.byt _=>true
 |.int _,.str _=>true | .str _,.int _=>true | .bl _,.str _=>true | .str _,.bl _=>true
 |_,_=>false
def rEq:R2:=fun x y H Q=>QpQ x y=true/\Q (.bl (decide (x=y))) H
def rNe:R2:=fun x y H Q=>QpQ x y=true/\Q (.bl (!decide (x=y))) H
theorem Qif {i j:Int}:decide (V.int i=V.int j)=(i == j):=by
 rw [Bool.eq_iff_iff]
 simp
theorem Ql3 {i j:Bool}:decide (V.bl i=V.bl j)=(i == j):=by
 rw [Bool.eq_iff_iff]
 simp
theorem QhP {i j:Str}:decide (V.str i=V.str j)=(i == j):=by
 rw [Bool.eq_iff_iff]
 simp
theorem Qkf {i j:Array UInt8}:decide (V.byt i=V.byt j)=(i.toList == j.toList):=by
 rw [Bool.eq_iff_iff]
 cases i
 cases j
 simp
section
variable {X:Cx}{a b c:Expr}{ta tb tc:TE}{pos:Pos}
theorem QaF {pins:List (Addr × Obj)}{σ:St}{H:Hp}{s:Shared}{Q:VK}{k k':Bool}(I:Inv X pins σ H s)(q:Q (.bl k) H)(e:k=k'):EP X pins σ Q (.bool k') s:=by
 subst e
 exact ⟨.bl k,H,I,rfl,q⟩
theorem Qtu:OpR X (compareOp .Eq) rEq:=by
 intro pins s σ H x y v u Q I rx ry h
 obtain ⟨hs,q⟩:=h
 cases x with
 |non=>
  cases rx
  cases y with
  |non=>cases ry;exact PySem.EqNone.eq_none_none (QaF I q (by simp))
  |bl j=>cases ry;exact PySem.EqNone.eq_none_bool (QaF I q (by simp))
  |int j=>obtain ⟨t',rfl⟩:=ry;exact PySem.EqNone.eq_none_int (QaF I q (by simp))
  |str j=>obtain ⟨t',rfl⟩:=ry;exact PySem.EqNone.eq_none_str (QaF I q (by simp))
  |_=>exact absurd (show false=true from hs) Bool.false_ne_true
 |bl i=>
  cases rx
  cases y with
  |non=>cases ry;exact PySem.EqNone.eq_bool_none (QaF I q (by simp))
  |bl j=>cases ry;exact eq_bool (QaF I q Ql3)
  |str j=>obtain ⟨t',rfl⟩:=ry;exact PySem.EqMixed.eq_bool_str (QaF I q (by simp))
  |_=>exact absurd (show false=true from hs) Bool.false_ne_true
 |int i=>
  obtain ⟨t,rfl⟩:=rx
  cases y with
  |non=>cases ry;exact PySem.EqNone.eq_int_none (QaF I q (by simp))
  |int j=>obtain ⟨t',rfl⟩:=ry;exact eq_int (QaF I q Qif)
  |str j=>obtain ⟨t',rfl⟩:=ry;exact PySem.EqMixed.eq_int_str (QaF I q (by simp))
  |_=>exact absurd (show false=true from hs) Bool.false_ne_true
 |str i=>
  obtain ⟨t,rfl⟩:=rx
  cases y with
  |non=>cases ry;exact PySem.EqNone.eq_str_none (QaF I q (by simp))
  |bl j=>cases ry;exact PySem.EqMixed.eq_str_bool (QaF I q (by simp))
  |int j=>obtain ⟨t',rfl⟩:=ry;exact PySem.EqMixed.eq_str_int (QaF I q (by simp))
  |str j=>obtain ⟨t',rfl⟩:=ry;exact eq_str (QaF I q QhP)
  |_=>exact absurd (show false=true from hs) Bool.false_ne_true
 |byt i=>
  obtain ⟨t,rfl⟩:=rx
  cases y with
  |byt j=>obtain ⟨t',rfl⟩:=ry;exact PySem.W.eq_bytes (QaF I q Qkf)
  |_=>exact absurd (show false=true from hs) Bool.false_ne_true
 |_=>cases y<;>exact absurd (show false=true from hs) Bool.false_ne_true
theorem Qtj:OpR X (compareOp .NotEq) rNe:=by
 intro pins s σ H x y v u Q I rx ry h
 obtain ⟨hs,q⟩:=h
 cases x with
 |non=>
  cases rx
  cases y with
  |non=>cases ry;exact PySem.EqNone.ne_none_none (QaF I q (by simp))
  |bl j=>cases ry;exact PySem.EqNone.ne_none_bool (QaF I q (by simp))
  |int j=>obtain ⟨t',rfl⟩:=ry;exact PySem.EqNone.ne_none_int (QaF I q (by simp))
  |str j=>obtain ⟨t',rfl⟩:=ry;exact PySem.EqNone.ne_none_str (QaF I q (by simp))
  |_=>exact absurd (show false=true from hs) Bool.false_ne_true
 |bl i=>
  cases rx
  cases y with
  |non=>cases ry;exact PySem.EqNone.ne_bool_none (QaF I q (by simp))
  |bl j=>cases ry;exact ne_bool (QaF I q (congrArg not Ql3))
  |str j=>obtain ⟨t',rfl⟩:=ry;exact PySem.EqMixed.ne_bool_str (QaF I q (by simp))
  |_=>exact absurd (show false=true from hs) Bool.false_ne_true
 |int i=>
  obtain ⟨t,rfl⟩:=rx
  cases y with
  |non=>cases ry;exact PySem.EqNone.ne_int_none (QaF I q (by simp))
  |int j=>obtain ⟨t',rfl⟩:=ry;exact ne_int (QaF I q (congrArg not Qif))
  |str j=>obtain ⟨t',rfl⟩:=ry;exact PySem.EqMixed.ne_int_str (QaF I q (by simp))
  |_=>exact absurd (show false=true from hs) Bool.false_ne_true
 |str i=>
  obtain ⟨t,rfl⟩:=rx
  cases y with
  |non=>cases ry;exact PySem.EqNone.ne_str_none (QaF I q (by simp))
  |bl j=>cases ry;exact PySem.EqMixed.ne_str_bool (QaF I q (by simp))
  |int j=>obtain ⟨t',rfl⟩:=ry;exact PySem.EqMixed.ne_str_int (QaF I q (by simp))
  |str j=>obtain ⟨t',rfl⟩:=ry;exact ne_str (QaF I q (congrArg not QhP))
  |_=>exact absurd (show false=true from hs) Bool.false_ne_true
 |byt i=>
  obtain ⟨t,rfl⟩:=rx
  cases y with
  |byt j=>obtain ⟨t',rfl⟩:=ry;exact PySem.W.ne_bytes (QaF I q (congrArg not Qkf))
  |_=>exact absurd (show false=true from hs) Bool.false_ne_true
 |_=>cases y<;>exact absurd (show false=true from hs) Bool.false_ne_true
theorem QjO:OpR X (compareOp .Lt) (rI0 fun i j=>.bl (decide (i<j))):=Qs9 fun _ _ _ _ _ _ _ q=>lt_int q
theorem Qn9:OpR X (compareOp .LtE) (rI0 fun i j=>.bl (decide (i<=j))):=Qs9 fun _ _ _ _ _ _ _ q=>le_int q
theorem Qoh:OpR X (compareOp .Gt) (rI0 fun i j=>.bl (decide (j<i))):=Qs9 fun _ _ _ _ _ _ _ q=>gt_int q
theorem QaM (b:Expr){op:CmpOp}(h:op≠.In:=by decide)(h2:op≠.NotIn:=by decide):behindInMarks op b=false:=by
 have e1:(op == CmpOp.In)=false:=by cases op<;>first | rfl | exact absurd rfl h
 have e2:(op == CmpOp.NotIn)=false:=by cases op<;>first | rfl | exact absurd rfl h2
 cases b<;>simp [behindInMarks,e1,e2]
theorem Qph {op:CmpOp}{r:R2}(ho:OpR X (compareOp op) r)(ha:PE X a ta)(hb:PE X b tb)(hm:behindInMarks op b=false):PE X (.Compare a [op] [b] pos) (tOp r ta tb):=by
 intro pins s σ H Q I h
 exact wpAny_Compare1 (Qtr ha hb I h fun v u s2 x y H2 I2 rx ry q=>ho pins s2 σ H2 x y v u Q I2 rx ry q) hm
def QrZ (t:TE):TT:=fun σ H Q=>t σ H fun x H'=>∃ k,x=.bl k/\Q k H'
theorem QpA {op:CmpOp}{r:R2}(ho:OpR X (compareOp op) r)(ha:PE X a ta)(hb:PE X b tb)(hm:behindInMarks op b=false):PT X (.Compare a [op] [b] pos) (QrZ (tOp r ta tb)):=by
 intro pins s σ H Q I h
 refine wpAny_isTrue_Compare1 (thn (ha pins s σ H _ I h) fun v s1 ⟨x,H1,I1,r1,q1⟩=>thn (hb pins s1 σ H1 _ I1 q1) fun u s2 ⟨y,H2,I2,r2,q2⟩=>
  thn (ho pins s2 σ H2 x y v u _ I2 r1 r2 q2) fun c s3 ⟨z,H3,I3,r3,k,e,q3⟩=>?_) hm
 subst e
 cases r3
 exact wpAny_truthy_bool ⟨H3,I3,q3⟩
def Qnj (r r':R2)(ta tb tc:TE):TE:=fun σ H Q=>ta σ H fun x H1=>tb σ H1 fun y H2=>r x y H2 fun z H3=>∃ k,z=.bl k/\
 (if k=true then tc σ H3 fun w' H4=>r' y w' H4 Q else Q (.bl false) H3)
theorem Qm7 {op op':CmpOp}{r r':R2}(ho:OpR X (compareOp op) r)(ho':OpR X (compareOp op') r')(ha:PE X a ta)(hb:PE X b tb)(hc:PE X c tc)
  (hm:lastMarks [op,op'] [b,c]=false:=by with_unfolding_all rfl):PE X (.Compare a [op,op'] [b,c] pos) (Qnj r r' ta tb tc):=by
 intro pins s σ H Q I h
 refine Compare_chain (thn (ha pins s σ H _ I h) fun v s1 ⟨x,H1,I1,r1,q1⟩=>chain_link (thn (hb pins s1 σ H1 _ I1 q1) fun u s2 ⟨y,H2,I2,r2,q2⟩=>
  thn (ho pins s2 σ H2 x y v u _ I2 r1 r2 q2) fun d s3 ⟨z,H3,I3,r3,k,e,q3⟩=>?_)) hm
 subst e
 cases r3
 refine wpAny_truthy_bool ?_
 cases k with
 |false=>exact ite_ff ⟨.bl false,H3,I3,rfl,q3⟩
 |true=>exact ite_tt (chain_last (thn (hc pins s3 σ H3 _ I3 q3) fun w' s4 ⟨z',H4,I4,r4,q4⟩=>ho' pins s4 σ H4 y z' u w' Q I4 r2 r4 q4))
theorem Qg0:(sizeLine:Nat)<2 ^ 63:=by rw [sizeLine_eq];decide
theorem Qd9 {x:V}{us:List Value}(r:Vals [x] us):∃ u,us=[u]/\RelV x u:=by
 cases r with
 |cons r1 r2=>cases r2;exact ⟨_,rfl,r1⟩
theorem Qr3 {x y:V}{us:List Value}(r:Vals [x,y] us):∃ u w',us=[u,w']/\RelV x u/\RelV y w':=by
 cases r with
 |cons r1 r2=>
  cases r2 with
  |cons r3 r4=>cases r4;exact ⟨_,_,rfl,r1,r3⟩
theorem QdG (hc:X.calm=true):Qcm X (.builtin "max") (fun xs H Q=>∃ i j,xs=[.int i,.int j]/\Q (.int (if j > i then j else i)) H):=by
 intro pins s σ H xs us Q I r h
 obtain ⟨i,j,rfl,q⟩:=h
 obtain ⟨u,w',rfl,⟨t,rfl⟩,⟨t',rfl⟩⟩:=Qr3 r
 refine max_two_ints (I.ok.hd hc) fun h' tk k=>⟨_,H,I.kept k,?_,q⟩
 by_cases hj:j > i
 ·rw [if_pos hj,if_pos hj];exact ⟨_,rfl⟩
 ·rw [if_neg hj,if_neg hj];exact ⟨_,rfl⟩
theorem Qkg (hc:X.calm=true):Qcm X (.builtin "min") (fun xs H Q=>∃ i j,xs=[.int i,.int j]/\Q (.int (if j<i then j else i)) H):=by
 intro pins s σ H xs us Q I r h
 obtain ⟨i,j,rfl,q⟩:=h
 obtain ⟨u,w',rfl,⟨t,rfl⟩,⟨t',rfl⟩⟩:=Qr3 r
 refine min_two_ints (I.ok.hd hc) fun h' tk k=>⟨_,H,I.kept k,?_,q⟩
 by_cases hj:j<i
 ·rw [if_pos hj,if_pos hj];exact ⟨_,rfl⟩
 ·rw [if_neg hj,if_neg hj];exact ⟨_,rfl⟩
theorem QgX:Qcm X (.type "int") (fun xs H Q=>(∃ i,xs=[.int i]/\Q (.int i) H)\/∃ k,xs=[.bl k]/\Q (.int (if k then 1 else 0)) H):=by
 intro pins s σ H xs us Q I r h
 rcases h with ⟨i,rfl,q⟩ | ⟨k,rfl,q⟩
 ·obtain ⟨u,rfl,t,rfl⟩:=Qd9 r
  exact call_int_int ⟨.int i,H,I,⟨_,rfl⟩,q⟩
 ·obtain ⟨u,rfl,r1⟩:=Qd9 r
  cases r1
  exact call_int_bool ⟨.int (if k then 1 else 0),H,I.tok _,⟨_,rfl⟩,q⟩
def Quf (K:PySem.W.Frag)(x:V)(H:Hp)(n:Nat):Prop:=
 match x with
 |.str y=>y.length<=sizeLine/\n=y.length
 |.byt y=>y.size<=sizeLine/\n=y.size
 |.ref p=>(∃ xs,SqL K H p xs/\n=xs.length)\/∃ xs,SqT K H p xs/\n=xs.length
 |_=>False
theorem QaI:Qcm X (.builtin "len") (fun xs H Q=>∃ x n,xs=[x]/\Quf X.K x H n/\Q (.int n) H):=by
 intro pins s σ H xs us Q I r h
 obtain ⟨x,n,rfl,e,q⟩:=h
 obtain ⟨u,rfl,rx⟩:=Qd9 r
 have hl:=Qg0
 have hs:sizeLine=16777216:=sizeLine_eq
 cases x with
 |str y=>
  obtain ⟨t,rfl⟩:=rx
  obtain ⟨hy,e'⟩:y.length<=sizeLine/\n=y.length:=e
  subst e'
  exact len_str (by omega) ⟨.int _,H,I.tok _,⟨_,rfl⟩,q⟩
 |byt y=>
  obtain ⟨t,rfl⟩:=rx
  obtain ⟨hy,e'⟩:y.size<=sizeLine/\n=y.size:=e
  subst e'
  exact PySem.W.len_bytes (by omega) ⟨.int _,H,I.tok _,⟨_,rfl⟩,q⟩
 |ref p=>
  cases rx
  have e':(∃ xs,SqL X.K H p xs/\n=xs.length)\/∃ xs,SqT X.K H p xs/\n=xs.length:=e
  rcases e' with ⟨xs,hx,e'⟩ | ⟨xs,hx,e'⟩
  ·subst e'
   obtain ⟨its,r',pl,hz⟩:=I.list hx
   have hlen:=r'.length
   exact Calls.call_len_list pl.isList (by simp only [List.size_toArray];omega) ⟨.int xs.length,H,I.tok _,⟨_,by simp only [List.size_toArray];rw [hlen]⟩,q⟩
  ·subst e'
   obtain ⟨its,r',pl,hz⟩:=I.tuple hx
   have hlen:=r'.length
   exact len_tuple pl (by simp only [List.size_toArray];omega) ⟨.int xs.length,H,I.tok _,⟨_,by simp only [List.size_toArray];rw [hlen]⟩,q⟩
 |_=>exact (show False from e).elim
end
structure ObjM (h:Heap)(x dx C:Addr)(mA:Str->Option Value):Prop where
 obj:h.get? x=some (PySem.W.instObj C dx)
 ns:h.Ns1 dx mA
 ne:dx≠x
theorem Ql1 {h:Heap}{dx:Addr}{mA:Str->Option Value}(n:h.Ns1 dx mA):∃ od,h.get? dx=some od/\∀ name,PySem.W.lookIn name od=some (mA name):=by
 obtain ⟨o,es,ep,ho,hd,hk,_,hm⟩:=n
 refine ⟨o,ho,fun name=>?_⟩
 have e:=hm name
 unfold nsFind findBy at e
 rw [← Array.find?_toList] at e
 unfold PySem.W.lookIn
 rw [hd]
 dsimp only
 split
 ·rename_i y q
  rw [q] at e
  exact congrArg some e
 ·rename_i q
  rw [q] at e
  have a:es.toList.any (·.refKey)=false:=by
   rw [List.any_eq_false]
   intro y hy
   obtain ⟨z,t,hkey⟩:=hk y (Array.mem_toList_iff.mp hy)
   simp [DictEntry.refKey,hkey]
  have a':¬ es.toList.any (·.refKey)=true:=by rw [a];exact Bool.false_ne_true
  rw [if_neg a']
  exact congrArg some e
theorem ObjM.look {h:Heap}{x dx C:Addr}{mA:Str->Option Value}(I:ObjM h x dx C mA):∃ od,PySem.W.InstAt h x (PySem.W.instObj C dx) C (some od)/\∀ name,PySem.W.lookIn name od=some (mA name):=
 let ⟨od,ho,hl⟩:=Ql1 I.ns
 ⟨od,⟨I.obj,rfl,rfl,ho⟩,hl⟩
section
variable {prog:Program}{w:World}{A:Around}{E:Value->Shared->Prop}{s:Shared}{K:PySem.W.Frag}{x dx C f:Addr}{mA:Str->Option Value}{name:Str}{v:Value}
theorem Qob {expr:Bool}{Q:Value->Shared->Prop}(X:K.In s.heap)(I:ObjM s.heap x dx C mA)(hg:PySem.W.plainGet K C name=true)(hh:PySem.W.hasDictIn K C=true)
  (ha:PySem.W.findIn K (.ref C) name=some none) (hv:mA name=some v) (hv':PySem.W.handedIn v=true) (h:Q v { s with toks:=s.toks+1 }) :
  wpAny (model prog w) A (getAttr (.ref x) name expr) Q E s:=by
 obtain ⟨od,J,hl⟩:=I.look
 exact PySem.W.get_value X J (PySem.W.plainGet_of hg).1 (PySem.W.findObj_own hh ha rfl (by rw [hl,hv])) hv' h
theorem QmR {pl:Sem Bool}{Q:Value × List Value->Shared->Prop}(X:K.In s.heap)(I:ObjM s.heap x dx C mA)(hg:PySem.W.plainGet K C name=true)
  (hf:PySem.W.findIn K (.ref C) name=some (some (.ref f))) (ht:PySem.W.isFn K (.ref f)=true) (hv:mA name=none) (h:Q (.ref f,[.ref x]) s) :
  wpAny (model prog w) A (getMethod (.ref x) name pl) Q E s:=by
 obtain ⟨od,J,hl⟩:=I.look
 exact PySem.W.method_fn X J (PySem.W.plainGet_of hg).1 (PySem.W.plainGet_of hg).2 hf (beq_iff_eq.mp ht) (by show (PySem.W.lookIn name od).map (·.isSome)=some false;rw [hl,hv];rfl) h
theorem QpG {ns:List Str}{Q:Unit->Shared->Prop}(X:K.In s.heap)(I:ObjM s.heap x dx C mA)
  (hs:PySem.W.findIn K (.ref C) "__setattr__" = some (some (.builtin "object.__setattr__"))) (hp:PySem.W.plainOver K C=true) (ht:PySem.W.takerIn K C name=some none) (hh:PySem.W.hasDictIn K C=true)
  (hw:PySem.Within mA ns) (hsz:ns.length<=sizeLine)
  (h:∀ h',ObjM h' x dx C (fun y=>if y=name then some v else mA y)->Heap.SameBut dx s.heap h'->Q () { s with heap:=h',toks:=s.toks+2 }) :
  wpAny (model prog w) A (setAttr (.ref x) name v) Q E s:=by
 obtain ⟨od,J,hl⟩:=I.look
 refine PySem.W.set_plain X J hs (PySem.W.osa_open (s:={ s with toks:=s.toks+1 }) (r:=none) X J hp ht fun b=>?_)
 obtain ⟨cd,hc,hd'⟩:=PySem.W.any_some hh
 have hx:s.heap.get? x=some ⟨.ref C,some dx,.plain,#[]⟩:=I.obj
 refine wpAny_bind (wpAny_pure (wpAny_bind (wpAny_bind (wpAny_loadPart hx (wpAny_bind (PySem.W.Looks.here (s:={ s with toks:=s.toks+1 }) (PySem.W.looks_clsIn X hc) ?_))))))
 rw [hd']
 refine wpAny_pure (a:=some dx) (wpAny_bind (wpAny_pure (wpAny_bind ?_)))
 refine wpAny_nsSet1 (s:={ s with toks:=s.toks+1 }) I.ns fun h' hn2 hs2=>?_
 obtain ⟨oD,esD,epD,hoD,hdD,hcD⟩:=hn2.count (PySem.Within.cons name v hw)
 refine wpAny_bind (wpAny_lookBehind hoD (by rw [hdD];exact pastItsLine_dict (Nat.le_trans hcD (by rw [List.length_cons];omega))) ?_)
 exact wpAny_pure (h _ ⟨(hs2.2 _ (Ne.symm I.ne)).trans I.obj,hn2,I.ne⟩ hs2)
theorem QmC {R:Result->Shared->Prop}{vs:List Value}{kw:List (Str × Value)}(X:K.In s.heap)(hm:PySem.W.makesIn K C=true)
  (hi:PySem.W.findIn K (.ref C) "__init__" = some (some (.ref f))) (hf:PySem.W.typeIn K (.ref f)=some (.type "function"))
  (h:codeAny (model prog w) (A.under (.builtin "type.__call__" ⟨.ref C :: vs,kw⟩)) (.call (.ref f) ⟨.ref (s.heap.objs.size+1) :: vs,kw⟩) (PySem.W.InitBack (s.heap.objs.size+1) R)
   { s with heap:=(s.heap.push PySem.W.emptyDict).push (PySem.W.instObj C s.heap.objs.size) }) :
  codeAny (model prog w) A (.call (.ref C) ⟨vs,kw⟩) R s:=by
 obtain ⟨hh,g,d,t,os⟩:=s
 exact PySem.W.make_core (PySem.W.makes_of X hm) (PySem.W.looks_findIn X hi) (fun self=>PySem.W.bind_fn X self hf) (.inl rfl) h
end
def QhH (f:Str)(v:V):List (Str × V)->List (Str × V)
 | []=>[(f,v)]
 |(g,x) :: r=>if g=f then (g,v) :: r else (g,x) :: QhH f v r
theorem QeG (f g:Str)(v:V):∀ fs:List (Str × V),(QhH f v fs).lookup g=if g=f then some v else fs.lookup g
 | []=>by
  show List.lookup g [(f,v)]=_
  by_cases h:g=f
  ·have hb:(g == f)=true:=beq_iff_eq.mpr h
   simp only [List.lookup,hb,if_pos h]
  ·have hb:(g == f)=false:=beq_eq_false_iff_ne.mpr h
   simp only [List.lookup,hb,if_neg h]
 |(k,x) :: r=>by
  have ih:=QeG f g v r
  rw [show QhH f v ((k,x) :: r)=(if k=f then (k,v) :: r else (k,x) :: QhH f v r) from rfl]
  by_cases hk:k=f
  ·rw [if_pos hk]
   by_cases h:g=k
   ·have hb:(g == k)=true:=beq_iff_eq.mpr h
    simp only [List.lookup,hb,if_pos (h.trans hk)]
   ·have hb:(g == k)=false:=beq_eq_false_iff_ne.mpr h
    simp only [List.lookup,hb,if_neg (fun e:g=f=>h (e.trans hk.symm))]
  ·rw [if_neg hk]
   by_cases h:g=k
   ·have hb:(g == k)=true:=beq_iff_eq.mpr h
    simp only [List.lookup,hb,if_neg (fun e:g=f=>hk (h.symm.trans e))]
   ·have hb:(g == k)=false:=beq_eq_false_iff_ne.mpr h
    simp only [List.lookup,hb]
    exact ih
theorem QeC (f:Str)(v:V):∀ fs:List (Str × V),f∈(QhH f v fs).map (·.1)/\∀ g,g∈fs.map (·.1)->g∈(QhH f v fs).map (·.1)
 | []=>⟨by simp [QhH],fun g h=>by simp at h⟩
 |(k,x) :: r=>by
  obtain ⟨i1,i2⟩:=QeC f v r
  rw [show QhH f v ((k,x) :: r)=(if k=f then (k,v) :: r else (k,x) :: QhH f v r) from rfl]
  by_cases hk:k=f
  ·rw [if_pos hk]
   subst hk
   exact ⟨by simp,fun g h=>by simpa using h⟩
  ·rw [if_neg hk]
   refine ⟨?_,fun g h=>?_⟩
   ·rw [List.map_cons]
    exact List.mem_cons_of_mem _ i1
   ·rw [List.map_cons] at h ⊢
    rcases List.mem_cons.mp h with e | e
    ·exact List.mem_cons.mpr (.inl e)
    ·exact List.mem_cons_of_mem _ (i2 g e)
theorem Qe3 (f:Str)(v:V):∀ fs:List (Str × V),(QhH f v fs).length<=fs.length+1
 | []=>by simp [QhH]
 |(k,x) :: r=>by
  have ih:=Qe3 f v r
  rw [show QhH f v ((k,x) :: r)=(if k=f then (k,v) :: r else (k,x) :: QhH f v r) from rfl]
  by_cases hk:k=f
  ·rw [if_pos hk,List.length_cons,List.length_cons];omega
  ·rw [if_neg hk,List.length_cons,List.length_cons];omega
theorem RelO.some_of {v:V}{o:Option Value}(r:RelO (some v) o):∃ u,o=some u/\RelV v u:=by
 cases o with
 |none=>exact (show False from r).elim
 |some u=>exact ⟨u,rfl,r⟩
theorem RelO.none_of {o:Option Value}(r:RelO none o):o=none:=by
 cases o with
 |none=>rfl
 |some u=>exact (show False from r).elim
theorem QjT {v:V}{u:Value}(r:RelV v u):PySem.W.handedIn u=true:=by
 cases v with
 |non=>cases (show u=Value.none from r);rfl
 |bl b=>cases (show u=Value.bool b from r);rfl
 |int i=>obtain ⟨t,e⟩:=(show ∃ t,u=Value.int i t from r);cases e;rfl
 |str x=>obtain ⟨t,e⟩:=(show ∃ t,u=Value.str x t from r);cases e;rfl
 |byt b=>obtain ⟨t,e⟩:=(show ∃ t,u=Value.bytes b t from r);cases e;rfl
 |flt b=>obtain ⟨t,e⟩:=(show ∃ t,u=Value.float b t from r);cases e;rfl
 |ref a=>cases (show u=Value.ref a from r);rfl
 |ty n=>cases (show u=Value.type n from r);rfl
section
variable {P:Program}{w:World}{H:Hp}{h:Heap}{a C dx:Addr}{fs:List (Str × V)}
theorem QfH (hok:HOk P w H h)(e:H a=some (.ins C dx fs)):∃ mA,ObjM h a dx C mA/\(∀ f,RelO (fs.lookup f) (mA f))/\PySem.Within mA (fs.map (·.1))/\fs.length<=1000/\H dx=some (.own a):=by
 obtain ⟨d,z,ne,ob,mA,n,r,q⟩:=(show ObjOk P w H h a (.ins C dx fs) from hok a _ e)
 exact ⟨mA,⟨ob,n,ne⟩,r,q,z,d⟩
end
structure Cls (K:PySem.W.Frag)(C:Addr):Prop where
 pg:PySem.W.plainGet K C Str.empty=true
 hd:PySem.W.hasDictIn K C=true
 po:PySem.W.plainOver K C=true
 sa:PySem.W.findIn K (.ref C) "__setattr__" = some (some (.builtin "object.__setattr__"))
theorem Cls.get {K:PySem.W.Frag}{C:Addr}(c:Cls K C)(f:Str):PySem.W.plainGet K C f=true:=c.pg
def NoAttr (K:PySem.W.Frag)(C:Addr)(f:Str):Prop:=PySem.W.findIn K (.ref C) f=some none
theorem NoAttr.taker {K:PySem.W.Frag}{C:Addr}{f:Str}(n:NoAttr K C f):PySem.W.takerIn K C f=some none:=by
 unfold PySem.W.takerIn
 rw [show PySem.W.findIn K (.ref C) f=some none from n]
 rfl
structure QtZ (K:PySem.W.Frag)(C:Addr)(m:Str)(f:Addr):Prop where
 at_:PySem.W.findIn K (.ref C) m=some (some (.ref f))
 fn:PySem.W.isFn K (.ref f)=true
 kp:PySem.W.keepIn K (.ref f)=true
section
variable {X:Cx}{pins:List (Addr × Obj)}{σ:St}{H:Hp}{s:Shared}{a C dx:Addr}{fs:List (Str × V)}{f:Str}{v:V}{A:Around}{E:Value->Shared->Prop}
theorem QjP {b:Bool}{Q:Value->Shared->Prop}(I:Inv X pins σ H s)(e:H a=some (.ins C dx fs))(c:Cls X.K C)(n:NoAttr X.K C f)(l:fs.lookup f=some v)
  (h:∀ u s',Inv X pins σ H s'->RelV v u->Q u s'):wpAny (model X.prog X.w) A (getAttr (.ref a) f b) Q E s:=by
 obtain ⟨mA,O,r,_,_,_⟩:=QfH I.hok e
 obtain ⟨u,hu,ru⟩:=RelO.some_of (v:=v) (o:=mA f) (by rw [← l];exact r f)
 exact Qob I.kIn O (c.get f) c.hd n hu (QjT ru) (h u _ (I.tok _) ru)
theorem Qfs {m:Str}{g:Addr}{pl:Sem Bool}{Q:Value × List Value->Shared->Prop}(I:Inv X pins σ H s)(e:H a=some (.ins C dx fs))(c:Cls X.K C)(k:QtZ X.K C m g)(l:fs.lookup m=none)
  (h:Q (.ref g,[.ref a]) s):wpAny (model X.prog X.w) A (getMethod (.ref a) m pl) Q E s:=by
 obtain ⟨mA,O,r,_,_,_⟩:=QfH I.hok e
 have hn:mA m=none:=RelO.none_of (by rw [← l];exact r m)
 exact QmR I.kIn O (c.get m) k.at_ k.fn hn h
theorem Qjl {y:V}{u:Value}{Q:Unit->Shared->Prop}(I:Inv X pins σ H s)(e:H a=some (.ins C dx fs))(c:Cls X.K C)(n:NoAttr X.K C f)(hl:fs.length<1000)(ry:RelV y u)
  (h:∀ s',Inv X pins σ (upd H a (.ins C dx (QhH f y fs))) s'->Q () s'):wpAny (model X.prog X.w) A (setAttr (.ref a) f u) Q E s:=by
 obtain ⟨mA,O,r,wi,_,ho⟩:=QfH I.hok e
 have hz:(fs.map (·.1)).length<=sizeLine:=by rw [List.length_map,sizeLine_eq];omega
 refine QpG I.kIn O c.sa c.po n.taker c.hd wi hz fun h' O' sb=>h _ ?_
 have hd:∃ o,h'.get? dx=some o:=let ⟨o,_,_,e',_⟩:=O'.ns;⟨o,e'⟩
 refine I.write (x:=a) (e:=dx) (by rw [e];exact True.intro) (.inr ho) (fun b q hb z=>(sb.2 b hb).trans z) hd ?_
 refine ⟨by rw [Qag O.ne];exact ho,?_,O.ne,O'.obj,_,O'.ns,fun g=>?_,fun g hg=>?_⟩
 ·have:=Qe3 f y fs;omega
 ·show RelO ((QhH f y fs).lookup g) (if g=f then some u else mA g)
  rw [QeG]
  by_cases q:g=f
  ·rw [if_pos q,if_pos q];exact ry
  ·rw [if_neg q,if_neg q];exact r g
 ·by_cases q:g=f
  ·rw [q];exact (QeC f y fs).1
  ·refine (QeC f y fs).2 g (wi g fun z=>hg ?_)
   show (if g=f then some u else mA g)=none
   rw [if_neg q];exact z
theorem Inv.made (I:Inv X pins σ H s):Inv X pins σ (upd (upd H s.heap.objs.size (.own (s.heap.objs.size+1))) (s.heap.objs.size+1) (.ins C s.heap.objs.size []))
  { s with heap:=(s.heap.push PySem.W.emptyDict).push (PySem.W.instObj C s.heap.objs.size) }:=by
 have e1:(s.heap.push PySem.W.emptyDict).get? s.heap.objs.size=some PySem.W.emptyDict:=Heap.get?_push_size s.heap rfl
 have e2:((s.heap.push PySem.W.emptyDict).push (PySem.W.instObj C s.heap.objs.size)).get? (s.heap.objs.size+1)=some (PySem.W.instObj C s.heap.objs.size):=by
  have:=Heap.get?_push_size (s.heap.push PySem.W.emptyDict) (o:=PySem.W.instObj C s.heap.objs.size) rfl
  rwa [Heap.size_push] at this
 have e3:(s.heap.push PySem.W.emptyDict).Ns s.heap.objs.size (fun _=>none):=⟨PySem.W.emptyDict,#[],_,e1,rfl,(fun e he=>absurd he (by simp)),fun _=>rfl⟩
 have I1:=I.laid (a:=s.heap.objs.size) (o:=.own (s.heap.objs.size+1)) (h':=s.heap.push PySem.W.emptyDict) (t':=s.toks) (fun b u q=>Heap.get?_push_of_some _ q) (Nat.le_refl _) ⟨_,e1⟩
 refine I1.laid (a:=s.heap.objs.size+1) (o:=.ins C s.heap.objs.size []) (t':=s.toks) (fun b u q=>Heap.get?_push_of_some _ q) (Nat.le_of_eq (Heap.size_push _ _)) ?_
 have ne:s.heap.objs.size≠s.heap.objs.size+1:=Nat.ne_of_lt (Nat.lt_succ_self _)
 refine ⟨by rw [Qag ne,Qap],Nat.zero_le _,ne,e2,fun _=>none,(Heap.Ns1.of_empty e3).at fun o q=>Heap.get?_push_of_some _ q,fun _=>True.intro,fun y hy=>absurd rfl hy⟩
theorem QoD {prog:Program}{w:World}{env:Env}{e:Expr}{f:Str}{pos:Pos}{s:Shared}{Q:Value->Shared->Prop}(hb:attributeBase e f env (eval e env)=eval e env)
  (h:wpAny (model prog w) A (eval e env) (fun o s₁=>wpAny (model prog w) A (getAttr o f true) Q E s₁) E s):wpAny (model prog w) A (eval (.Attribute e f pos) env) Q E s:=
 Attribute_any_ h (by rw [arm_eval_Attribute,hb])
end
def Qux (K:PySem.W.Frag)(ta:TE)(f:Str):TE:=fun σ H Q=>ta σ H fun x H1=>∃ a C dx fs v,x=.ref a/\H1 a=some (.ins C dx fs)/\Cls K C/\NoAttr K C f/\fs.lookup f=some v/\Q v H1
def Qum (K:PySem.W.Frag)(ta tv:TE)(f:Str):TS:=fun D σ H=>tv σ H fun y H1=>ta σ H1 fun x H2=>∃ a C dx fs,x=.ref a/\H2 a=some (.ins C dx fs)/\Cls K C/\NoAttr K C f/\fs.length<1000/\
 D.nx σ (upd H2 a (.ins C dx (QhH f y fs)))
section
variable {X:Cx}{o e value:Expr}{f:Str}{pos pos':Pos}{ta tv:TE}
theorem Qsq (he:PE X e ta)(hb:attributeBase e f X.env (eval e X.env)=eval e X.env):PE X (.Attribute e f pos) (Qux X.K ta f):=by
 intro pins s σ H Q I h
 refine QoD hb (thn (he pins s σ H _ I h) fun u s1 ⟨x,H1,I1,rx,a,C,dx,fs,v,ex,ea,c,n,l,q⟩=>?_)
 subst ex
 obtain rfl:u=Value.ref a:=rx
 exact QjP I1 ea c n l fun u' s2 I2 ru=>⟨v,H1,I2,ru,q⟩
theorem Qsk (ha:PE X o ta)(hv:PE X value tv)(hs:swapsWith value (some (.Attribute o f pos')) pos.line X.env=pure false):PS X (.Assign [.Attribute o f pos'] value pos) (Qum X.K ta tv f):=by
 intro pins s σ H D I h
 refine plainObj_wpAny_Assign_Attribute (thn (hv pins s σ H _ I h) fun u s1 ⟨y,H1,I1,ry,q⟩=>thn (ha pins s1 σ H1 _ I1 q) fun ov s2 ⟨x,H2,I2,rx,a,C,dx,fs,ex,ea,c,n,l,q2⟩=>?_) hs
 subst ex
 obtain rfl:ov=Value.ref a:=rx
 exact Qjl I2 ea c n l ry fun s3 I3=>⟨σ,_,I3,q2⟩
end
section
variable {H:Hp}
inductive QjS (K:PySem.W.Frag) (H:Hp):V->Value->Prop where
 |non:QjS K H .non (.type "NoneType")
 |bl (x:Bool):QjS K H (.bl x) (.type "bool")
 |int (i:Int):QjS K H (.int i) (.type "int")
 |str (x:Str):QjS K H (.str x) (.type "str")
 |flt (x:UInt64):QjS K H (.flt x) (.type "float")
 |lst {a:Addr} {xs:List V} (e:H a=some (.lst xs)):QjS K H (.ref a) (.type "list")
 |frz {a:Addr} {o:Obj} {xs:List V} (e:H a=some (.frz o (.lst xs))):QjS K H (.ref a) (.type "list")
 |tup {a:Addr} {xs:List V} (e:H a=some (.tup xs)):QjS K H (.ref a) (.type "tuple")
 |dK {a:Addr} {kvs:List (Key × V)} (e:H a=some (.dK kvs)):QjS K H (.ref a) (.type "dict")
 |dT {a:Addr} {kvs:List (List Key × V)} (e:H a=some (.dT kvs)):QjS K H (.ref a) (.type "dict")
 |ins {a C dx:Addr} {fs:List (Str × V)} (e:H a=some (.ins C dx fs)) (cl:Cls K C) (ha:PySem.W.findIn K (.ref C) "__class__" = some (some (.builtin "object.__class__")))
   (hn:PySem.W.specialIn K (.builtin "object.__class__") "__get__" = some (some (.builtin "getset_descriptor.__get__"))) (htk:PySem.W.takesIn K (.builtin "object.__class__")=some true)
   (hm:PySem.W.mroIn K C (.type "object")=some true):QjS K H (.ref a) (.ref C)
end
structure Room (k:Nat)(A:Around):Prop where
 hd:A.handled=none
 dp:A.depth+3 * k+5<recursionLimit
 un:A.units+16 * k+200<cLine
 gd:A.guards=some []
theorem Room.mono {j k:Nat}{A:Around}(r:Room k A)(h:j<=k):Room j A:=⟨r.hd,by have:=r.dp;omega,by have:=r.un;omega,r.gd⟩
theorem Room.deeper {k:Nat}{A:Around}(r:Room (k+1) A)(env:Env):Room k (A.deeper env):=
 ⟨r.hd,by have:=r.dp;show A.depth+1+3 * k+5<_;omega,by have:=r.un;show A.units+3+16 * k+200<_;omega,r.gd⟩
theorem QjF {A:Around}{C:Addr}{us:List Value}{kw:List (Str × Value)}:(A.under (.builtin "type.__call__" ⟨.ref C :: us,kw⟩)).depth=A.depth+1:=by
 first | rfl | simp [Around.under,Code.weight,Code.isCreation,Code.isGuard,Code.isCaller,Code.frames,Code.isFrame,guardIds]
theorem QjD {A:Around}{C:Addr}{us:List Value}{kw:List (Str × Value)}:(A.under (.builtin "type.__call__" ⟨.ref C :: us,kw⟩)).units=A.units+1:=by
 first | rfl | simp [Around.under,Code.cUnits,Code.frames,Code.isFrame]
theorem Qo1 {A:Around}{C:Addr}{us:List Value}{kw:List (Str × Value)}(h:A.guards=some []):(A.under (.builtin "type.__call__" ⟨.ref C :: us,kw⟩)).guards=some []:=by
 have e:(Code.builtin "type.__call__" ⟨.ref C :: us,kw⟩).guards=[]:=by simp [Code.guards,Code.isGuard,guardIds]
 unfold Around.under
 dsimp only
 rw [e,h]
 rfl
theorem Room.make {k:Nat}{A:Around}(r:Room (k+1) A)(C:Addr)(us:List Value)(kw:List (Str × Value)):Room k (A.under (.builtin "type.__call__" ⟨.ref C :: us,kw⟩)):=
 ⟨r.hd,by have:=r.dp;rw [QjF];omega,by have:=r.un;rw [QjD];omega,Qo1 r.gd⟩
theorem Room.depth {k:Nat}{A:Around}(r:Room k A):A.depth<recursionLimit:=by have:=r.dp;omega
theorem Room.units {k:Nat}{A:Around}(r:Room k A):A.units+64<cLine:=by have:=r.un;omega
def Qs8:TA:=fun _ H Q=>Q [] H
def Qtx (ta:TE)(tr:TA):TA:=fun σ H Q=>ta σ H fun x H1=>tr σ H1 fun xs H2=>Q (x :: xs) H2
section
variable {X:Cx}{e:Expr}{es:List Expr}{te:TE}{t:TA}{pos:Pos}
theorem QiT:PA X [] Qs8:=fun _ _ _ _ H Q I h=>Calls.spliced_nil ⟨[],H,I,.nil,h⟩
theorem QfV (ha:PE X e te)(hr:PA X es t)(hs:starEach (e :: es) X.env=(false,eval e X.env) :: starEach es X.env:=by rfl):PA X (e :: es) (Qtx te t):=by
 intro pos pins s σ H Q I h
 rw [hs]
 show wpAny _ _ (spliced ((false,eval e X.env) :: backTo pos (starEach es X.env))) _ _ s
 refine Calls.spliced_cons (thn (ha pins s σ H _ I h) fun u s1 ⟨x,H1,I1,r1,q1⟩=>?_)
 exact thn (hr pos pins s1 σ H1 _ I1 q1) fun us s2 ⟨xs,H2,I2,r2,q2⟩=>⟨x :: xs,H2,I2,.cons r1 r2,q2⟩
def Qug (t:TA):TE:=fun σ H Q=>t σ H fun xs H1=>xs.length<=sizeLine/\∀ p,H1 p=none->Q (.ref p) (upd H1 p (.tup xs))
def Quz (t:TA):TE:=fun σ H Q=>t σ H fun xs H1=>xs.length<=sizeLine/\∀ p,H1 p=none->Q (.ref p) (upd H1 p (.lst xs))
theorem QnQ {x1}(h:PA X es t):PE X (.Tuple es x1 pos) (Qug t):=by
 intro pins s σ H Q I hq
 refine wpAny_Tuple_spliced (thn (h pos pins s σ H _ I hq) fun us s1 ⟨xs,H1,I1,r,z,q⟩=>⟨by rw [← r.length];exact z,?_⟩)
 have hf:H1 s1.heap.objs.size=none:=I1.hok.fresh (Nat.le_refl _)
 refine ⟨.ref s1.heap.objs.size,upd H1 s1.heap.objs.size (.tup xs),I1.laid (t':=s1.toks) (fun b u e=>Heap.get?_push_of_some _ e) (Nat.le_refl _) ?_,rfl,q _ hf⟩
 exact ⟨z,us,r,⟨_,Heap.get?_push_size _ rfl,rfl,_,rfl⟩⟩
theorem Qny (h:PA X es t):PE X (.List es pos) (Quz t):=by
 intro pins s σ H Q I hq
 refine wpAny_List_spliced (thn (h pos pins s σ H _ I hq) fun us s1 ⟨xs,H1,I1,r,z,q⟩=>⟨by rw [← r.length];exact z,?_⟩)
 have hf:H1 s1.heap.objs.size=none:=I1.hok.fresh (Nat.le_refl _)
 refine ⟨.ref s1.heap.objs.size,upd H1 s1.heap.objs.size (.lst xs),I1.laid (t':=s1.toks) (fun b u e=>Heap.get?_push_of_some _ e) (Nat.le_refl _) ?_,rfl,q _ hf⟩
 exact ⟨z,us,0,r,Heap.get?_push_size _ rfl⟩
end
abbrev Sp:=List V->Hp->VK->XK->Prop
abbrev CXT:=List Env->Hp->Shared->XK->Value->Shared->Prop
structure Env0 (P:Program)(w:World)(K:PySem.W.Frag)(mg:Str->Option Value)(base:Heap)(A:Around)(outer:List Env)(s:Shared)(H:Hp):Prop where
 frames:A.frames=some outer
 mod:Mod K mg base
 bs:∀ b o,base.get? b=some o->s.heap.get? b=some o/\H b=none
 bsz:base.objs.size<=s.heap.objs.size
 funs:s.heap.FunFrames base outer
 frf:∀ b∈frs outer,H b=none
 hok:HOk P w H s.heap
 bare:AllBare s.gens
def CE (outer:List Env)(P:Program)(w:World)(H:Hp)(s:Shared)(Q:VK)(u:Value)(s':Shared):Prop:=
 ∃ v H',s'.os=s.os/\AllBare s'.gens/\Un (frs outer) [] H H' s.heap s'.heap/\HOk P w H' s'.heap/\RelV v u/\Q v H'
def CR (CX:CXT)(outer:List Env)(P:Program)(w:World)(H:Hp)(s:Shared)(Q:VK)(E:XK)(r:Result)(s':Shared):Prop:=
 match r with
 |.ok (.ret u)=>CE outer P w H s Q u s'
 |.ok _=>False
 |.error e=>CX outer H s E e s'
structure FnOk (P:Program)(w:World)(K:PySem.W.Frag)(mg:Str->Option Value)(base:Heap)(CX:CXT)(k:Nat)(f:Addr)(fd:FuncData)(ps:List Str)(sp:Sp):Prop where
 len:∀ vs H Q E,sp vs H Q E->vs.length=ps.length
 run:∀ (A:Around) (outer:List Env) (s:Shared) (H:Hp) (args:Args) (us:List Value) (vs:List V) (Q:VK) (E:XK),Room k A->Env0 P w K mg base A outer s H->BindsTo s fd args (ps.zip us)->Vals vs us->sp vs H Q E->
  codeAny (model P w) A (.call (.ref f) args) (CR CX outer P w H s Q E) s
theorem FnOk.imp {P:Program}{w:World}{K:PySem.W.Frag}{mg:Str->Option Value}{base:Heap}{CX:CXT}{k:Nat}{f:Addr}{fd:FuncData}{ps:List Str}{sp sp':Sp}(F:FnOk P w K mg base CX k f fd ps sp)
  (h:∀ vs H Q E,sp' vs H Q E->sp vs H Q E):FnOk P w K mg base CX k f fd ps sp':=
 ⟨fun vs H Q E q=>F.len vs H Q E (h _ _ _ _ q),fun A outer s H args us vs Q E hr he hb hv hs=>F.run A outer s H args us vs Q E hr he hb hv (h _ _ _ _ hs)⟩
theorem Env0.make {P:Program}{w:World}{K:PySem.W.Frag}{mg:Str->Option Value}{base:Heap}{A:Around}{outer:List Env}{s:Shared}{H:Hp}(e:Env0 P w K mg base A outer s H)(C:Addr)(us:List Value)(kw:List (Str × Value)) :
  Env0 P w K mg base (A.under (.builtin "type.__call__" ⟨.ref C :: us,kw⟩)) outer s H:=⟨by first | exact e.frames | (simpa [Around.under,Code.envs,Code.isFrame,pushEnvs] using e.frames),e.mod,e.bs,e.bsz,e.funs,e.frf,e.hok,e.bare⟩
section
variable {X:Cx}{pins:List (Addr × Obj)}{σ:St}{H:Hp}{s s':Shared}
theorem Inv.env0 (I:Inv X pins σ H s):Env0 X.prog X.w X.K X.mg X.base X.A X.stack s H:=
 ⟨I.ok.frames,I.ok.mod,I.bs,Nat.le_trans I.ok.bsz I.sz,I.stack,I.stkFree,I.hok,I.bare⟩
theorem Inv.after {Q:VK}{u:Value}(I:Inv X pins σ H s)(h:CE X.stack X.prog X.w H s Q u s'):EP X pins σ Q u s':=by
 obtain ⟨v,H',os,bare,un,hok,r,q⟩:=h
 obtain ⟨hh,g,d,t,os'⟩:=s'
 obtain rfl:os'=s.os:=os
 exact ⟨v,H',I.call (h':=hh) (g':=g) (d':=d) (t':=t) (ch:=[]) un hok bare (fun b z=>absurd z (by simp)),r,q⟩
end
def Binds (K:PySem.W.Frag)(fd:FuncData)(ps:List Str)(ds:List Value):Prop:=
 ∀ (s:Shared) (us:List Value),K.In s.heap->(us++ds).length=ps.length->BindsTo s fd ⟨us,[]⟩ (ps.zip (us++ds))
theorem Binds.all {K:PySem.W.Frag}{fd:FuncData}{ps:List Str}(h:∀ us:List Value,us.length=ps.length->bindArgs fd ⟨us,[]⟩=pure (ps.zip us)):Binds K fd ps []:=fun s us _ hl=>by
 rw [List.append_nil] at hl ⊢
 exact .of_eq (h us hl)
def Qst (CX:CXT)(X:Cx)(E:XK):Prop:=∀ (pins:List (Addr × Obj)) (σ:St) (H:Hp) (s:Shared) (e:Value) (s':Shared),Inv X pins σ H s->CX X.stack H s E e s'->X.xe e s'
section
variable {f C:Addr}
structure Mk (K:PySem.W.Frag)(C f:Addr):Prop where
 makes:PySem.W.makesIn K C=true
 init:PySem.W.findIn K (.ref C) "__init__" = some (some (.ref f))
 fn:PySem.W.isFn K (.ref f)=true
 kp:PySem.W.keepIn K (.ref C)=true
end
structure Qak (N P:List Str)(sc:Scope):Prop where
 kind:sc.kind=.function
 co:sc.isCoroutine=false
 gen:sc.isGenerator=false
 nd:N.Nodup
 pre:N.take P.length=P
 par:∀ x∈P,sc.names.lookup x=some .local\/sc.names.lookup x=some .cell
 nofree:∀ y∈sc.names,y.2≠.free
theorem QgQ {kindOf:Str->Option NameKind}{x:Str}:∀ {binds:List (Str × Value)} {m:Str->Option Value},(∀ v,(x,v)∉binds)->bindL kindOf binds m x=m x
 | [],_,_=>rfl
 |(n,v) :: r,m,h=>by
  unfold bindL
  rw [QgQ fun w hw=>h w (List.mem_cons_of_mem _ hw)]
  split
  ·have:x≠n:=by rintro rfl;exact h v List.mem_cons_self
   simp [this]
  ·rfl
theorem Qhk {kindOf:Str->Option NameKind}{x:Str}:∀ {binds:List (Str × Value)} {m:Str->Option Value},(∀ v,(x,v)∉binds)->bindC kindOf binds m x=m x
 | [],_,_=>rfl
 |(n,v) :: r,m,h=>by
  unfold bindC
  rw [Qhk fun w hw=>h w (List.mem_cons_of_mem _ hw)]
  split
  ·rfl
  ·have:x≠n:=by rintro rfl;exact h v List.mem_cons_self
   simp [this]
theorem Qhz {kindOf:Str->Option NameKind}{x:Str}{v:Value}:∀ {P:List Str} {vs:List Value} {i:Nat} {m:Str->Option Value},P.Nodup->P[i]? = some x->vs[i]? = some v->kindOf x=some .local->
  bindL kindOf (P.zip vs) m x=some v
 | [],_,_,_,_,h,_,_=>by simp at h
 |_ :: _,[],_,_,_,_,h,_=>by simp at h
 |p :: P,w :: vs,0,m,nd,h1,h2,hk=>by
  simp at h1 h2;subst h1;subst h2
  show bindL kindOf ((p,w) :: P.zip vs) m p=_
  unfold bindL
  rw [QgQ fun v hv=>(List.nodup_cons.mp nd).1 (List.of_mem_zip hv).1,if_pos hk]
  simp
 |p :: P,w :: vs,i+1,m,nd,h1,h2,hk=>by
  show bindL kindOf ((p,w) :: P.zip vs) m x=_
  unfold bindL
  exact Qhz (i:=i) (List.nodup_cons.mp nd).2 (by simpa using h1) (by simpa using h2) hk
theorem Qhm {kindOf:Str->Option NameKind}{x:Str}{v:Value}:∀ {P:List Str} {vs:List Value} {i:Nat} {m:Str->Option Value},P.Nodup->P[i]? = some x->vs[i]? = some v->kindOf x≠some .local->
  bindC kindOf (P.zip vs) m x=some v
 | [],_,_,_,_,h,_,_=>by simp at h
 |_ :: _,[],_,_,_,_,h,_=>by simp at h
 |p :: P,w :: vs,0,m,nd,h1,h2,hk=>by
  simp at h1 h2;subst h1;subst h2
  show bindC kindOf ((p,w) :: P.zip vs) m p=_
  unfold bindC
  rw [Qhk fun v hv=>(List.nodup_cons.mp nd).1 (List.of_mem_zip hv).1,if_neg hk]
  simp
 |p :: P,w :: vs,i+1,m,nd,h1,h2,hk=>by
  show bindC kindOf ((p,w) :: P.zip vs) m x=_
  unfold bindC
  exact Qhm (i:=i) (List.nodup_cons.mp nd).2 (by simpa using h1) (by simpa using h2) hk
def start (N:List Str)(vs:List V):St:=vs.map some++List.replicate (N.length - vs.length) none
def Qd4 (CX:CXT)(P:Program)(w:World)(K:PySem.W.Frag)(mg:Str->Option Value)(base:Heap)(N:List Str)(qual:Str)(scope:Scope)(f:Addr)(cd:Value)(A:Around)(outer:List Env)(s:Shared)(H:Hp)(E:XK):Cx where
 prog:=P
 w:=w
 K:=K
 mg:=mg
 base:=base
 A:=A.deeper (envOfC qual scope s.heap.objs.size f cd)
 N:=N
 s₀:=s
 H₀:=H
 env:=envOfC qual scope s.heap.objs.size f cd
 outer:=outer
 stack:=envOfC qual scope s.heap.objs.size f cd :: outer
 ex:=[]
 calm:=true
 fn:=fun _=>true
 pn:=[]
 xe:=fun e s'=>wpAny (model P w) (A.deeper (envOfC qual scope s.heap.objs.size f cd)) (leaving (envOfC qual scope s.heap.objs.size f cd) e) (fun _ s''=>CX outer H s E e s'') (fun e' s''=>CX outer H s E e' s'') s'
theorem QiJ {sc:Scope}{n:Nat}{x:Str}(h:sc.names.lookup x=some .cell):∃ c,(cellsFrom n sc.names []).lookup x=some c:=by
 have q:=PySem.W.cellsFrom_some sc.names n [] (.inl h)
 exact Option.isSome_iff_exists.mp q
theorem QkS {CX:CXT}{P:Program}{w:World}{K:PySem.W.Frag}{mg:Str->Option Value}{base:Heap}{N ps:List Str}{qual:Str}{scope:Scope}{f:Addr}{cd:Value}{A:Around}{outer:List Env}{s s1:Shared}{H:Hp}{E:XK}{us:List Value}{vs:List V}
  (S:Qak N ps scope) (hd:A.handled=none) (e0:Env0 P w K mg base A outer s H) (hl:vs.length=ps.length) (r:Vals vs us)
  (x:InCallC s s.heap.objs.size (bindL (envOfC qual scope s.heap.objs.size f cd).kindOf (ps.zip us) fun _=>none) (cellsFrom (s.heap.objs.size+1) scope.names []) (bindC (envOfC qual scope s.heap.objs.size f cd).kindOf (ps.zip us) fun _=>none) s1) :
  Inv (Qd4 CX P w K mg base N qual scope f cd A outer s H E) [] (start N vs) H s1:=by
 have hpl:ps.length<=N.length:=by have:=congrArg List.length S.pre;rw [List.length_take] at this;omega
 obtain ⟨h1,tk,rfl,hk⟩:=x.done
 have noA:∀ b:Addr,b∉(Qd4 CX P w K mg base N qual scope f cd A outer s H E).ex:=fun b z=>absurd (show b∈([]:List Addr) from z) (by simp)
 refine ⟨⟨e0.mod,S.kind,rfl,rfl,Nat.le_refl _,fun y z c h1 h2=>?_,fun y hy=>?_,fun y c _ h=>?_,fun _=>hd,Around.frames_deeper e0.frames,.inr ⟨rfl,rfl⟩,fun b z=>absurd z (noA b),e0.bs,e0.bsz,fun b _ _=>noA b,fun b z=>absurd z (noA b),e0.funs,e0.frf⟩,
  rfl,e0.bare,Un.kept hk,⟨_,x.toInCall.ns,fun i y v h1 h2 h3=>?_⟩,fun y c h=>⟨_,x.cell y c h⟩,e0.hok.fresh (Nat.le_refl _),fun y c h=>?_,fun p hp=>absurd (show p∈([]:List (Addr × Obj)) from hp) (by simp),e0.hok.kept hk,?_⟩
 ·exact name_of_addr x.apart (PySem.mem_of_lookup h1) (PySem.mem_of_lookup h2)
 ·have hy:scope.names.lookup y=some .cell\/scope.names.lookup y=some .free:=hy
  rcases hy with hy | hy
  ·exact QiJ hy
  ·exact absurd rfl (S.nofree _ (PySem.mem_of_lookup hy))
 ·exact Nat.le_of_lt (x.above y c (PySem.mem_of_lookup h))
 ·have hi:i<vs.length:=by
   unfold start at h2
   by_cases hi:i<vs.length
   ·exact hi
   ·rw [List.getElem?_append_right (by simpa using hi)] at h2
    rw [List.getElem?_replicate] at h2
    split at h2<;>cases h2
  have ha:vs[i]? = some v:=by
   unfold start at h2
   rw [List.getElem?_append_left (by simpa using hi),List.getElem?_map] at h2
   cases e:vs[i]? with
   |none=>rw [e] at h2;cases h2
   |some a=>rw [e] at h2;cases h2;rfl
  obtain ⟨u,hu,rv⟩:=r.get ha
  have hp:ps[i]? = some y:=by
   rw [← S.pre,List.getElem?_take_of_lt (by omega)];exact h1
  have ndP:ps.Nodup:=by rw [← S.pre];exact S.nd.sublist (List.take_sublist _ _)
  refine ⟨u,rv,?_⟩
  rcases S.par y (List.mem_of_getElem? hp) with k | k
  ·exact .inl ⟨k,Qhz ndP hp hu k⟩
  ·obtain ⟨c,e⟩:=QiJ (n:=s.heap.objs.size+1) k
   refine .inr ⟨.inl k,c,e,?_⟩
   have q:=x.cell y c e
   rw [Qhm ndP hp hu (by show scope.names.lookup y≠_;rw [k];decide)] at q
   exact q
 ·exact e0.hok.fresh (Nat.le_of_lt (x.above y c (PySem.mem_of_lookup h)))
 ·unfold start
  show _=N.length
  rw [List.length_append,List.length_map,List.length_replicate]
  omega
theorem Qp4 {CX:CXT}{P:Program}{w:World}{K:PySem.W.Frag}{mg:Str->Option Value}{base:Heap}{k:Nat}{f:Addr}{name qual:Str}{params:Arguments}{body:List Stmt}{scope:Scope}{dV kV doc pm cdv ct oc:Value}{an od:Option Addr}
  {osl:Array (Option Value)} {N ps:List Str} {sp:Sp} (lk:K.lookup f=some ⟨oc,od,.func (PySem.W.fnOf name qual params body scope dV kV doc pm an cdv ct),osl⟩) (hcd:PySem.W.codeIn K cdv qual=true) (S:Qak N ps scope)
  (len:∀ vs H Q E,sp vs H Q E->vs.length=ps.length)
  (hbody:∀ (A:Around) (outer:List Env) (s:Shared) (H:Hp) (vs:List V) (Q:VK) (E:XK),Room k (A.deeper (envOfC qual scope s.heap.objs.size f cdv))->sp vs H Q E->
   ∃ t,PSs (Qd4 CX P w K mg base N qual scope f cdv A outer s H E) body t/\t { nx:=fun _ H'=>Q .non H',rt:=Q } (start N vs) H) :
  FnOk P w K mg base CX (k+1) f (PySem.W.fnOf name qual params body scope dV kV doc pm an cdv ct) ps sp:=by
 refine ⟨len,fun A outer s H args us vs Q E hr e0 hb r hsp=>?_⟩
 have hl:=len _ _ _ _ hsp
 have KX:K.In s.heap:=e0.mod.kin.keeps fun b o e=>(e0.bs b o e).1
 have lim:s.heap.NoLimit:=e0.mod.nolimit.keeps fun b o e=>(e0.bs b o e).1
 have hkind:∀ y∈ps.zip us,scope.names.lookup y.1=some .local\/(scope.names.lookup y.1=some .cell/\((cellsFrom (s.heap.objs.size+1) scope.names []).lookup y.1).isSome=true):=fun ⟨n,v⟩ hy=>by
  rcases S.par n (List.of_mem_zip hy).1 with q | q
  ·exact .inl q
  ·exact .inr ⟨q,PySem.W.cellsFrom_some _ _ _ (.inl q)⟩
 refine codeAny_call_function hr.depth (KX _ _ lk) rfl S.co S.gen rfl (PySem.W.codeRec_of KX hcd) (hb _ _ _ _ ?_)
 refine wpAny_newFunctionEnv_cells S.kind hkind fun env he s1 x=>?_
 subst he
 refine ⟨lim.keeps x.toInCall.keep,codeAny_func ?_⟩
 obtain ⟨t,ht,hq⟩:=hbody A outer s H vs Q E (hr.deeper _) hsp
 have I:Inv (Qd4 CX P w K mg base N qual scope f cdv A outer s H E) [] (start N vs) H s1:=QkS S hr.hd e0 hl r x
 refine wpAny_mono (ht [] s1 (start N vs) H _ I hq) (fun fl s' hs=>?_) fun e s' hs=>hs
 have fin:∀ {σ':St} {H':Hp} {v:V} {u:Value},Inv (Qd4 CX P w K mg base N qual scope f cdv A outer s H E) [] σ' H' s'->RelV v u->Q v H'->CE outer P w H s Q u s':=
  fun {σ' H' v u} J rv q=>⟨v,H',J.os,J.bare,J.base,J.hok,rv,q⟩
 cases fl with
 |ret u=>
  obtain ⟨v,σ',H',J,rv,q⟩:=hs
  exact fin J rv q
 |next=>
  obtain ⟨σ',H',J,q⟩:=hs
  exact fin (v:=V.non) (u:=Value.none) J rfl q
 |brk=>
  obtain ⟨_,_,_,q⟩:=hs
  exact False.elim q
 |cont=>
  obtain ⟨_,_,_,q⟩:=hs
  exact False.elim q
section
variable {X:Cx}{x:Str}{p pos:Pos}{e:Expr}{es:List Expr}{t:TA}{id T:String}{r:List V->Hp->VK->Prop}
def tCB (r:List V->Hp->VK->Prop)(t:TA):TE:=fun σ H Q=>t σ H fun vs H1=>r vs H1 Q
theorem QiX (hc:Qcm X (.builtin id) r)(hg:Gl X x)(hm:X.mg x=none)(hv:bootBuiltins x=some (.builtin id))(ha:PA X (e :: es) t)(hn:x ≠ "__name__" := by decide)(hdb:(x == ("__debug__" : Str))=false:=by decide)
  (he:starEach (e :: es) X.env=(false,eval e X.env) :: starEach es X.env:=by rfl) (hpl:(backTo pos (starEach es X.env)).any (·.1)=false:=by rfl):PE X (.Call (.Name x p) (e :: es) [] pos) (tCB r t):=by
 intro pins s σ H Q I h
 refine wpAny_Call_Name_kw (Qgx I hg hm hv ?_ hn hdb)
 exact PyProof.Rows.callWith_builtin1 (thn (ha pos pins s σ H _ I h) fun us s1 ⟨vs,H1,I1,r1,q1⟩=>hc pins s1 σ H1 vs us Q I1 r1 q1) he hpl
theorem Qc4 (hc:Qcm X (.type T) r)(hg:Gl X x)(hm:X.mg x=none)(hv:bootBuiltins x=some (.type T))(ha:PA X (e :: es) t)(hn:x ≠ "__name__" := by decide)(hdb:(x == ("__debug__" : Str))=false:=by decide)
  (he:starEach (e :: es) X.env=(false,eval e X.env) :: starEach es X.env:=by rfl) (hpl:(backTo pos (starEach es X.env)).any (·.1)=false:=by rfl):PE X (.Call (.Name x p) (e :: es) [] pos) (tCB r t):=by
 intro pins s σ H Q I h
 refine wpAny_Call_Name_kw (Qgx I hg hm hv ?_ hn hdb)
 exact PyProof.Rows.callWith_type1 (thn (ha pos pins s σ H _ I h) fun us s1 ⟨vs,H1,I1,r1,q1⟩=>hc pins s1 σ H1 vs us Q I1 r1 q1) he hpl
end
section
variable {κ:Type}[DecidableEq κ]
def Qjn (kvs:List (κ × V))(k:κ):Option V:=(kvs.find? fun kv=>decide (kv.1=k)).map (·.2)
def Qh2 (kvs:List (κ × V))(k:κ)(v:V):List (κ × V):=
 if (kvs.any fun kv=>decide (kv.1=k))=true then kvs.map (fun kv=>if kv.1=k then (kv.1,v) else kv) else kvs++[(k,v)]
theorem Qet {p:κ × V}{r:List (κ × V)}{k:κ}(e:p.1=k):Qjn (p :: r) k=some p.2:=by simp [Qjn,List.find?_cons,e]
theorem QdK {p:κ × V}{r:List (κ × V)}{k:κ}(e:¬ p.1=k):Qjn (p :: r) k=Qjn r k:=by simp [Qjn,List.find?_cons,e]
theorem Qiz (k:κ):∀ kvs:List (κ × V),(kvs.any fun kv=>decide (kv.1=k))=(Qjn kvs k).isSome
 | []=>rfl
 |p :: r=>by
  rw [List.any_cons]
  by_cases e:p.1=k
  ·simp only [Qet e,decide_eq_true e,Bool.true_or,Option.isSome_some]
  ·rw [QdK e,decide_eq_false e,Bool.false_or];exact Qiz k r
theorem QeP (kvs:List (κ × V))(k:κ)(v:V):(Qh2 kvs k v).length<=kvs.length+1:=by
 unfold Qh2
 split
 ·rw [List.length_map];omega
 ·rw [List.length_append,List.length_cons,List.length_nil];omega
theorem RelO.isSome_eq {o:Option V}{u:Option Value}(r:RelO o u):o.isSome=u.isSome:=by
 cases o with
 |none=>cases u with
  |none=>rfl
  |some _=>exact (show False from r).elim
 |some _=>cases u with
  |none=>exact (show False from r).elim
  |some _=>rfl
theorem RelO.getD {o:Option V}{u:Option Value}{d:V}{d':Value}(r:RelO o u)(rd:RelV d d'):RelV (o.getD d) (u.getD d'):=by
 cases o with
 |none=>cases u with
  |none=>exact rd
  |some _=>exact (show False from r).elim
 |some _=>cases u with
  |none=>exact (show False from r).elim
  |some _=>exact r
theorem KV.val {kvs:List (κ × V)}{vs:List (κ × Value)}(r:KV kvs vs)(k:κ):RelO (Qjn kvs k) (valueAt vs k):=by
 unfold KV at r
 induction r with
 |nil=>exact True.intro
 | @cons p q ps qs h t ih=>
  obtain ⟨h1,h2⟩:=h
  by_cases e:p.1=k
  ·have e':q.1=k:=h1.symm.trans e
   have b:valueAt (q :: qs) k=some q.2:=by simp [valueAt,List.find?_cons,e']
   rw [Qet e,b];exact h2
  ·have e':¬ q.1=k:=fun z=>e (h1.trans z)
   have b:valueAt (q :: qs) k=valueAt qs k:=by simp [valueAt,List.find?_cons,e']
   rw [QdK e,b];exact ih
theorem KV.any {kvs:List (κ × V)}{vs:List (κ × Value)}(r:KV kvs vs)(k:κ):(kvs.any fun kv=>decide (kv.1=k))=vs.any fun kv=>decide (kv.1=k):=by
 unfold KV at r
 induction r with
 |nil=>rfl
 |cons h t ih=>rw [List.any_cons,List.any_cons,ih,h.1]
theorem KV.repl {kvs:List (κ × V)}{vs:List (κ × Value)}(r:KV kvs vs)(k:κ){y:V}{u:Value}(ry:RelV y u) :
  KV (kvs.map fun kv=>if kv.1=k then (kv.1,y) else kv) (vs.map fun kv=>if kv.1=k then (kv.1,u) else kv):=by
 unfold KV at r ⊢
 induction r with
 |nil=>exact .nil
 | @cons p q ps qs h t ih=>
  rw [List.map_cons,List.map_cons]
  refine .cons ?_ ih
  obtain ⟨h1,h2⟩:=h
  by_cases e:p.1=k
  ·rw [if_pos e,if_pos (h1.symm.trans e)];exact ⟨h1,ry⟩
  ·rw [if_neg e,if_neg (fun z=>e (h1.trans z))];exact ⟨h1,h2⟩
theorem KV.put {kvs:List (κ × V)}{vs:List (κ × Value)}(r:KV kvs vs)(k:κ){y:V}{u:Value}(ry:RelV y u):KV (Qh2 kvs k y) (stored vs k u):=by
 unfold Qh2 stored
 rw [r.any k]
 by_cases e:(vs.any fun kv=>decide (kv.1=k))=true
 ·rw [if_pos e,if_pos e];exact r.repl k ry
 ·rw [if_neg e,if_neg e];exact Paired.snoc r ⟨rfl,ry⟩
theorem KV.length {kvs:List (κ × V)}{vs:List (κ × Value)}(r:KV kvs vs):kvs.length=vs.length:=Paired.length r
end
theorem Qos {P:Program}{w:World}{k:Key}{u:Value}(r:RelV (kV k) u):(Qbk P w).is k u=true:=by
 cases k with
 |inl i=>obtain ⟨t,e⟩:=(show ∃ t,u=Value.int i t from r);subst e;exact Qil P w i t
 |inr x=>obtain ⟨t,e⟩:=(show ∃ t,u=Value.str x t from r);subst e;exact Qim P w x t
theorem Qhg {P:Program}{w:World}:∀ {ks:List Key} {us:List Value},Vals (ks.map kV) us->ItemsAre (Qbk P w) ks us
 | [],_,r=>by rw [List.map_nil] at r;cases r;exact .nil
 |k :: ks,_,r=>by
  rw [List.map_cons] at r
  cases r with
  |cons h t=>exact .cons (Qos h) (Qhg t)
abbrev KT (H:Hp):List (List Key × V)->List (List Key × Addr × Value)->Prop:=Paired fun p q=>p.1=q.1/\H q.2.1=some (.tup (p.1.map kV))/\RelV p.2 q.2.2
theorem KT.val {H:Hp}{kvs:List (List Key × V)}{xs:List (List Key × Addr × Value)}(r:KT H kvs xs)(k:List Key):RelO (Qjn kvs k) ((atKey xs k).map (·.2)):=by
 induction r with
 |nil=>exact True.intro
 | @cons p q ps qs h t ih=>
  obtain ⟨h1,_,h2⟩:=h
  by_cases e:p.1=k
  ·have e':q.1=k:=h1.symm.trans e
   have b:atKey (q :: qs) k=some q.2:=by simp [atKey,List.find?_cons,e']
   rw [Qet e,b];exact h2
  ·have e':¬ q.1=k:=fun z=>e (h1.trans z)
   have b:atKey (q :: qs) k=atKey qs k:=by simp [atKey,List.find?_cons,e']
   rw [QdK e,b];exact ih
theorem KT.repl {H:Hp}{kvs:List (List Key × V)}{xs:List (List Key × Addr × Value)}(r:KT H kvs xs)(k:List Key){y:V}{u:Value}(ry:RelV y u) :
  KT H (kvs.map fun kv=>if kv.1=k then (kv.1,y) else kv) (xs.map (putAt k u)):=by
 induction r with
 |nil=>exact .nil
 | @cons p q ps qs h t ih=>
  rw [List.map_cons,List.map_cons]
  refine .cons ?_ ih
  obtain ⟨h1,h2,h3⟩:=h
  unfold putAt
  by_cases e:p.1=k
  ·rw [if_pos e,if_pos (h1.symm.trans e)];exact ⟨h1,h2,ry⟩
  ·rw [if_neg e,if_neg (fun z=>e (h1.trans z))];exact ⟨h1,h2,h3⟩
theorem KT.put {H:Hp}{kvs:List (List Key × V)}{xs:List (List Key × Addr × Value)}(r:KT H kvs xs)(k:List Key){b:Addr}{y:V}{u:Value}(hb:H b=some (.tup (k.map kV)))(ry:RelV y u) :
  KT H (Qh2 kvs k y) (storedH xs k b u):=by
 have e:(kvs.any fun kv=>decide (kv.1=k))=(atKey xs k).isSome:=by
  rw [Qiz,(r.val k).isSome_eq,Option.isSome_map]
 unfold Qh2 storedH
 rw [e]
 by_cases q:(atKey xs k).isSome=true
 ·rw [if_pos q,if_pos q];exact r.repl k ry
 ·rw [if_neg q,if_neg q];exact Paired.snoc r ⟨rfl,hb,ry⟩
theorem KT.keeps {H H':Hp}{kvs:List (List Key × V)}{xs:List (List Key × Addr × Value)}(r:KT H kvs xs)(ht:∀ b ys,H b=some (.tup ys)->H' b=some (.tup ys)):KT H' kvs xs:=
 Paired.mapP r fun _ _ z=>⟨z.1,ht _ _ z.2.1,z.2.2⟩
section
variable {P:Program}{w:World}{H:Hp}{h:Heap}{a:Addr}
theorem Qp3 {u:HO}(ok:HOk P w H h)(e:Rd H a u):ObjOk P w H h a u:=e.ok ok
theorem Qoq {kvs:List (Key × V)}(ok:HOk P w H h)(e:Rd H a (.dK kvs)):kvs.length<=sizeLine/\(a == sysModules)=false/\∃ vs,KV kvs vs/\h.DictOf (Qbk P w) a vs:=
 show ObjOk P w H h a (.dK kvs) from Qp3 ok e
theorem Qty {kvs:List (Key × V)}(ok:HOk P w H h)(e:H a=some (.dK kvs)):kvs.length<=sizeLine/\(a == sysModules)=false/\∃ vs,KV kvs vs/\h.DictOf (Qbk P w) a vs:=Qoq ok (.inl e)
theorem QlM {ks:List Key}(ok:HOk P w H h)(e:H a=some (.tup (ks.map kV))):(tupleKind (Qbk P w)).is h ks a:=by
 obtain ⟨_,its,r,o,h1,h2,n,h3⟩:=(show ObjOk P w H h a (.tup (ks.map kV)) from ok a _ e)
 exact ⟨o,its.toArray,n,h1,h2,h3,by simpa using Qhg r⟩
theorem Qpm {kvs:List (List Key × V)}(ok:HOk P w H h)(e:Rd H a (.dT kvs)):kvs.length<=sizeLine/\(a == sysModules)=false/\
  ∃ xs,KT H kvs xs/\h.DictOfH (tupleKind (Qbk P w)) a xs:=by
 obtain ⟨z,y,xs,r,o,es,ep,h1,h2,h3,h4,h5⟩:=(show ObjOk P w H h a (.dT kvs) from Qp3 ok e)
 refine ⟨z,y,xs,r,o,es,ep,h1,h2,h3,h4,fun x hx=>?_,h5⟩
 have all:∀ {l:List (List Key × V)} {m:List (List Key × Addr × Value)},KT H l m->∀ x∈m,(tupleKind (Qbk P w)).is h x.1 x.2.1:=by
  intro l m q
  induction q with
  |nil=>intro x hx;exact nomatch hx
  | @cons p q ps qs hq t ih=>
   intro x hx
   rcases List.mem_cons.mp hx with e | hx
   ·subst e
    exact QlM ok (by rw [← hq.1];exact hq.2.1)
   ·exact ih x hx
 exact all r x hx
theorem QtQ {kvs:List (List Key × V)}(ok:HOk P w H h)(e:H a=some (.dT kvs)):kvs.length<=sizeLine/\(a == sysModules)=false/\
  ∃ xs,KT H kvs xs/\h.DictOfH (tupleKind (Qbk P w)) a xs:=Qpm ok (.inl e)
end
def DGet (H:Hp)(a:Addr)(y:V)(r:Option V):Prop:=
 (∃ kvs k,Rd H a (.dK kvs)/\y=kV k/\r=Qjn kvs k)\/∃ kvs k b,Rd H a (.dT kvs)/\y=.ref b/\H b=some (.tup (k.map kV))/\r=Qjn kvs k
def DPut (H:Hp)(a:Addr)(y v:V)(H':Hp):Prop:=
 (∃ kvs k,H a=some (.dK kvs)/\y=kV k/\kvs.length<sizeLine/\H'=upd H a (.dK (Qh2 kvs k v)))\/
 ∃ kvs k b,H a=some (.dT kvs)/\y=.ref b/\H b=some (.tup (k.map kV))/\kvs.length<sizeLine/\H'=upd H a (.dT (Qh2 kvs k v))
theorem DGet.t {H:Hp}{a b:Addr}{kvs:List (List Key × V)}{k:List Key}(e:H a=some (.dT kvs))(eb:H b=some (.tup (k.map kV))):DGet H a (.ref b) (Qjn kvs k):=.inr ⟨kvs,k,b,.inl e,rfl,eb,rfl⟩
theorem DPut.t {H:Hp}{a b:Addr}{kvs:List (List Key × V)}{k:List Key}{v:V}(e:H a=some (.dT kvs))(eb:H b=some (.tup (k.map kV)))(hl:kvs.length<sizeLine) :
  DPut H a (.ref b) v (upd H a (.dT (Qh2 kvs k v))):=.inr ⟨kvs,k,b,e,rfl,eb,hl,rfl⟩
section
variable {X:Cx}{pins:List (Addr × Obj)}{σ:St}{H:Hp}{s:Shared}{a:Addr}{y v:V}{u r:Value}{A:Around}{E:Value->Shared->Prop}
theorem Inv.big (I:Inv X pins σ H s):sysModules<s.heap.objs.size:=by
 have h:mainGlobals<s.heap.objs.size:=(I.mod.glob.keeps I.bk).lt
 exact Nat.lt_trans (by decide) h
theorem Qlw {h':Heap}{t':Nat}{ob:HO}(I:Inv X pins σ H s)(mu:Mut (H a))(hs:Heap.SameBut a s.heap h')(he:∃ q,h'.get? a=some q)(new:ObjOk X.prog X.w (upd H a ob) h' a ob) :
  Inv X pins σ (upd H a ob) { s with heap:=h',toks:=t' }:=
 I.write (x:=a) (e:=a) mu (.inl rfl) (fun b q hb z=>(hs.2 b hb).trans z) he new
theorem Qrg {P:Program}{w:World}{H':Hp}{h':Heap}{kvs:List (Key × V)}{vs:List (Key × Value)}(z:kvs.length<=sizeLine)(hd:(a == sysModules)=false)(rel:KV kvs vs)(dd:h'.DictOf (Qbk P w) a vs) :
  ObjOk P w H' h' a (.dK kvs):=⟨z,hd,vs,rel,dd⟩
theorem Ql5 {H':Hp}{Q:Unit->Shared->Prop}(hu:A.units+1<cLine)(I:Inv X pins σ H s)(g:DPut H a y v H')(ry:RelV y u)(rv:RelV v r)(h:∀ s',Inv X pins σ H' s'->Q () s') :
  wpAny (model X.prog X.w) A (setItem (.ref a) u r) Q E s:=by
 rcases g with ⟨kvs,k,e,ey,l,eH⟩ | ⟨kvs,k,b,e,ey,eb,l,eH⟩
 ·subst ey eH
  obtain ⟨z,hd,vs,rel,dd⟩:=Qty I.hok e
  have hz:vs.length<=sizeLine:=by rw [← rel.length];exact z
  have hl:(Qh2 kvs k v).length<=sizeLine:=by have:=QeP kvs k v;omega
  refine wpAny_setItem_pairs (hsz:=hz) (Qos ry) dd fun h' dd' hs=>h _ ?_
  have he:∃ q,h'.get? a=some q:=let ⟨q,_,_,hq,_⟩:=dd';⟨q,hq⟩
  exact Qlw I (by rw [e];exact True.intro) hs he (Qrg hl hd (rel.put k rv) dd')
 ·subst ey eH
  cases (show u=Value.ref b from ry)
  obtain ⟨z,hd,xs,rel,dd⟩:=QtQ I.hok e
  have hz:xs.length<=sizeLine:=by rw [← Paired.length rel];exact z
  have hl:(Qh2 kvs k v).length<=sizeLine:=by have:=QeP kvs k v;omega
  refine wpAny_setItem_heap (hsz:=hz) (tupleKind_room_in1 hu) (QlM I.hok eb) dd fun h' dd' hs=>h _ ?_
  obtain ⟨q,es,ep,hq,h2,h3,h4,_,h5⟩:=dd'
  refine Qlw I (by rw [e];exact True.intro) hs ⟨q,hq⟩ ⟨hl,hd,_,(rel.put k eb rv).keeps fun c ys ec=>?_,q,es,ep,hq,h2,h3,h4,h5⟩
  rw [Qag (QsW ec e (fun z=>nomatch z))]
  exact ec
end
def Qtl (td ty tv:TE):TS:=fun D σ H=>tv σ H fun v H1=>td σ H1 fun x H2=>ty σ H2 fun y H3=>∃ a H4,x=.ref a/\DPut H3 a y v H4/\D.nx σ H4
section
variable {X:Cx}{o i value:Expr}{pos pos':Pos}{td ty tv:TE}
theorem QoY (hu:X.A.units+1<cLine)(ho:PE X o td)(hi:PE X i ty)(hv:PE X value tv)(hs:swapsWith value (some (.Subscript o i pos')) pos.line X.env=pure false) :
  PS X (.Assign [.Subscript o i pos'] value pos) (Qtl td ty tv):=by
 intro pins s σ H D I h
 refine wpAny_Assign_Subscript (thn (hv pins s σ H _ I h) fun r s1 ⟨v,H1,I1,rv,q1⟩=>thn (ho pins s1 σ H1 _ I1 q1) fun u s2 ⟨x,H2,I2,rx,q2⟩=>thn (hi pins s2 σ H2 _ I2 q2) fun iv s3 ⟨y,H3,I3,ry,a,H4,ex,g,q3⟩=>?_) hs
 subst ex
 obtain rfl:u=Value.ref a:=rx
 exact Ql5 hu I3 g ry rv fun s4 I4=>⟨σ,H4,I4,q3⟩
end
theorem Qmy {P:Program}{w:World}{H:Hp}(h:Heap)(hb:sysModules<h.objs.size):ObjOk P w H (h.push { cls:=.type "dict",data:=.dict #[] }) h.objs.size (.dT []):=
 ⟨Nat.zero_le _,beq_eq_false_iff_ne.mpr (Ne.symm (Nat.ne_of_lt hb)),[],.nil,_,#[],0,Heap.get?_push_size _ rfl,⟨rfl,rfl,rfl⟩,rfl,rfl,List.nodup_nil⟩
def QqU:TE:=fun _ H Q=>∀ p,H p=none->Q (.ref p) (upd H p (.dT []))
section
variable {X:Cx}{pos:Pos}
theorem Qna:PE X (.Dict [] [] pos) QqU:=fun pins s σ H Q I h=>
 wpAny_Dict_empty ⟨.ref s.heap.objs.size,_,I.laid (a:=s.heap.objs.size) (o:=.dT []) (t':=s.toks) (fun _ _ q=>Heap.get?_push_of_some _ q) (Nat.le_refl _) (Qmy s.heap I.big),rfl,h _ (I.hok.fresh (Nat.le_refl _))⟩
end
structure M2 (X:Cx)(o:Expr)(m:Str)(apos:Pos)(e f:Expr)(cpos:Pos):Prop where
 base:attributeBase o m X.env (eval o X.env)=eval o X.env
 few:((backTo cpos (starEach [e,f] X.env)).all (fun x=>!x.1) && (backToKw cpos (keywordEach [] X.env)).all (fun x=>x.1.isSome)
  && decide (([e,f]:List Expr).length+([]:List Keyword).length+(if ([]:List Keyword).isEmpty then 0 else 1)<30))=true
 line:(apos.endLine == cpos.line)=true
 trees:backTo cpos (starEach [e,f] X.env)=[(false,eval e X.env),(false,eval f X.env)]
def IsD (H:Hp)(a:Addr):Prop:=(∃ kvs,Rd H a (.dK kvs))\/∃ kvs,Rd H a (.dT kvs)
theorem Qsz {X:Cx}{pins:List (Addr × Obj)}{σ:St}{H:Hp}{s:Shared}{a:Addr}(I:Inv X pins σ H s)(d:IsD H a) :
  s.TypeIs (.ref a) "dict" /\ (∀ b,Value.ref a=.ref b->∃ ob,s.heap.get? b=some ob/\ob.dict=none)/\(a == sysModules)=false:=by
 rcases d with ⟨kvs,e⟩ | ⟨kvs,e⟩
 ·obtain ⟨_,hd,vs,_,dd⟩:=Qoq I.hok e
  refine ⟨dd.typeIs,fun b q=>?_,hd⟩
  cases q
  obtain ⟨ob,_,_,h1,h2,_⟩:=dd
  exact ⟨ob,h1,h2.2.1⟩
 ·obtain ⟨_,hd,xs,_,dd⟩:=Qpm I.hok e
  refine ⟨dd.typeIs,fun b q=>?_,hd⟩
  cases q
  obtain ⟨ob,_,_,h1,h2,_⟩:=dd
  exact ⟨ob,h1,h2.2.1⟩
section
variable {X:Cx}{pins:List (Addr × Obj)}{σ:St}{H:Hp}{s:Shared}{a:Addr}{y d:V}{u r:Value}{o:Option V}{A:Around}{E:Value->Shared->Prop}
theorem Qp5 {Q:Value->Shared->Prop}(hu:A.units+1<cLine)(I:Inv X pins σ H s)(g:DGet H a y o)(ry:RelV y u)(rd:RelV d r)(h:∀ w' s',Inv X pins σ H s'->RelV (o.getD d) w'->Q w' s') :
  wpAny (model X.prog X.w) A (call (.builtin "dict.get") [.ref a,u,r]) Q E s:=by
 rcases g with ⟨kvs,k,e,ey,l⟩ | ⟨kvs,k,b,e,ey,eb,l⟩
 ·subst ey
  obtain ⟨z,hd,vs,rel,dd⟩:=Qoq I.hok e
  refine call_meetsIn PySem.F.slot_dict_get dd.typeIs PySem.F.entry_dict_get (PySem.F.args_dict_get_3 _ _ _) (meets_dict_get_default (Qbk X.prog X.w) a (Qos ry) hd r) ⟨_,dd.mapOf,h _ _ (I.tok _) ?_⟩
  rw [l]
  exact (rel.val k).getD rd
 ·subst ey
  cases (show u=Value.ref b from ry)
  obtain ⟨z,hd,xs,rel,dd⟩:=Qpm I.hok e
  refine call_meetsIn PySem.F.slot_dict_get dd.typeIs PySem.F.entry_dict_get (PySem.F.args_dict_get_3 _ _ _) (meetsH_dict_get_default (tupleKind (Qbk X.prog X.w)) a b hd r) ⟨tupleKind_room_in1 hu,k,xs,QlM I.hok eb,dd,h _ _ (I.tok _) ?_⟩
  rw [l]
  exact (rel.val k).getD rd
end
def QrA (td ty tx:TE):TE:=fun σ H Q=>td σ H fun x H1=>∃ a,x=.ref a/\IsD H1 a/\ty σ H1 fun y H2=>tx σ H2 fun z H3=>∃ o,DGet H3 a y o/\Q (o.getD z) H3
section
variable {X:Cx}{o e f:Expr}{apos cpos:Pos}{td ty tx:TE}
theorem QmD (hu:X.A.units+1<cLine)(ho:PE X o td)(he:PE X e ty)(hf:PE X f tx)(m:M2 X o "get" apos e f cpos):PE X (.Call (.Attribute o "get" apos) [e,f] [] cpos) (QrA td ty tx):=by
 intro pins s σ H Q I h
 refine wpAny_Call_method m.base m.few m.line PySem.F.plainAttrs_dict PySem.F.slot_dict_get PySem.F.type_dict_get (thn (ho pins s σ H _ I h) fun u s1 ⟨x,H1,I1,rx,a,ex,d,q1⟩=>?_)
 subst ex
 obtain rfl:u=Value.ref a:=rx
 obtain ⟨t1,t2,_⟩:=Qsz I1 d
 refine ⟨t1,t2,?_⟩
 rw [m.trees]
 refine Calls.callWith_builtin rfl (Calls.evalArgs_plain (Calls.spliced_cons (thn (he pins s1 σ H1 _ I1 q1) fun iv s2 ⟨y,H2,I2,ry,q2⟩=>
  Calls.spliced_cons (thn (hf pins s2 σ H2 _ I2 q2) fun fv s3 ⟨z,H3,I3,rz,ov,g,q3⟩=>Calls.spliced_nil ?_))))
 exact Qp5 hu I3 g ry rz fun w' s4 I4 rw'=>⟨_,H3,I4,rw',q3⟩
end
end L2
namespace HT
open PySem PyProof.Rows
theorem rcLt_int (A:Around)(s:Shared)(a:Int)(t:Tok)(c:Int)(u:Tok)(prog:Program)(w:World)(E:Value->Shared->Prop)(Q:Value->Shared->Prop)(h:Q (.bool (decide (a<c))) s) :
  wpAny (model prog w) A (richCompare .Lt (.int a t) (.int c u)) Q E s:=
 (PyProof.Rows.lt_int h:wpAny (model prog w) A (compareOp .Lt (.int a t) (.int c u)) Q E s)
section
open PySem.SeqAt
open PySem.AutoSeq1 (wpAny_loadPart')
open PySem.MeetsSeq PySem.MeetsSeq2 PySem.MeetsSeq3
end
section
def sIx (n d:Nat):Option Int->Nat
 |none=>d
 |some v=>if v<0 then (v+(n:Int)).toNat else min v.toNat n
end
end HT
namespace L2
open PySem PySem.Spec PyProof.Rows
abbrev TO:=St->Hp->(Option Int->Hp->Prop)->Prop
def PO (X:Cx)(e:Option Expr)(t:TO):Prop:=
 ∀ (pins:List (Addr × Obj)) (s:Shared) (σ:St) (H:Hp) (Q:Option Int->Hp->Prop),Inv X pins σ H s->t σ H Q->
  wpAny (model X.prog X.w) X.A (evalPart e X.env) (fun u s'=>∃ o H',Inv X pins σ H' s'/\IsPart u o/\Q o H') X.xe s
def QoJ:TO:=fun _ H Q=>Q none H
def QsY (t:TE):TO:=fun σ H Q=>t σ H fun x H1=>∃ i,x=.int i/\Q (some i) H1
theorem Qfl {ns:List Int}:∀ {us:List Value},Vals (ns.map V.int) us->IntsAre us ns:=by
 induction ns with
 |nil=>intro us r;rw [List.map_nil] at r;cases r;exact .nil
 |cons n ns ih=>
  intro us r
  rw [List.map_cons] at r
  cases r with
  |cons r1 r2=>
   obtain ⟨t,e⟩:=r1
   subst e
   exact .cons n t (ih r2)
section
variable {X:Cx}{e:Expr}{te:TE}{lo hi:Option Expr}{tl th:TO}{pos p2:Pos}
theorem Qlt:PO X none QoJ:=by
 intro pins s σ H Q I h
 rw [evalPart_none]
 exact wpAny_pure ⟨none,H,I,.none,h⟩
theorem Qj7 (h:PE X e te):PO X (some e) (QsY te):=by
 intro pins s σ H Q I hw
 rw [evalPart_some]
 refine thn (h pins s σ H _ I hw) fun u s1 ⟨x,H1,I1,r1,q1⟩=>?_
 obtain ⟨i,rfl,q⟩:=q1
 obtain ⟨t,rfl⟩:=r1
 exact ⟨some i,H1,I1,.int i t,q⟩
def SlR (X:Cx)(r:V->Option Int->Option Int->Hp->VK->Prop):Prop:=
 ∀ (pins:List (Addr × Obj)) (s:Shared) (σ:St) (H:Hp) (x:V) (v vl vu:Value) (lo hi:Option Int) (sl:Addr) (Q:VK),Inv X pins σ H s->RelV x v->s.heap.IsSliceOf sl vl vu .none->IsPart vl lo->IsPart vu hi->r x lo hi H Q->
  ∃ T id,typeLookup (.type T) "__getitem__" = pure (some (.builtin id))/\s.TypeIs v T/\wpAny (model X.prog X.w) X.A (getItem v (.ref sl)) (EP X pins σ Q) X.xe s
def tSl (r:V->Option Int->Option Int->Hp->VK->Prop)(te:TE)(tl th:TO):TE:=fun σ H Q=>te σ H fun x H1=>tl σ H1 fun l H2=>th σ H2 fun u H3=>r x l u H3 Q
theorem Qmn {r:V->Option Int->Option Int->Hp->VK->Prop}(hr:SlR X r)(he:PE X e te)(hl:PO X lo tl)(hu:PO X hi th):PE X (.Subscript e (.Slice lo hi none p2) pos) (tSl r te tl th):=by
 intro pins s σ H Q I h
 refine Subscript_ (thn (he pins s σ H _ I h) fun v s1 ⟨x,H1,I1,r1,q1⟩=>?_)
 refine wpAny_Slice (thn (hl pins s1 σ H1 _ I1 q1) fun vl s2 ⟨l,H2,I2,pl,q2⟩=>thn (hu pins s2 σ H2 _ I2 q2) fun vu s3 ⟨u,H3,I3,pu,q3⟩=>?_)
 rw [evalPart_none]
 refine wpAny_pure ?_
 have I4:Inv X pins σ H3 { s3 with heap:=s3.heap.push { cls:=.type "slice",data:=.fields #[vl,vu,.none] } }:=I3.kept (t':=s3.toks) fun b ob q=>Heap.get?_push_of_some _ q
 obtain ⟨T,id,hT,ht,hg⟩:=hr pins { s3 with heap:=s3.heap.push { cls:=.type "slice",data:=.fields #[vl,vu,.none] } } σ H3 x v vl vu l u s3.heap.objs.size Q I4 r1 (Heap.IsSliceOf.new ..) pl pu q3
 show wpAny (model X.prog X.w) X.A (subscriptTail e (.Slice lo hi none p2) v (.ref s3.heap.objs.size)) (EP X pins σ Q) X.xe { s3 with heap:=s3.heap.push { cls:=.type "slice",data:=.fields #[vl,vu,.none] } }
 exact tail_any (ops:=[.ref s3.heap.objs.size,v]) ht hT hg (by with_unfolding_all rfl)
def Qoc (xs:List V)(lo hi:Option Int):List V:=(xs.drop (HT.sIx xs.length 0 lo)).take (HT.sIx xs.length xs.length hi - HT.sIx xs.length 0 lo)
theorem QhL (xs:List V)(lo hi:Option Int):(Qoc xs lo hi).length<=xs.length:=by
 unfold Qoc
 rw [List.length_take,List.length_drop]
 omega
end
def ixN (n:Nat)(i:Int):Option Nat:=if 0<=i then (if i<n then some i.toNat else none) else if -(n:Int)<=i then some (i+n).toNat else none
def atI {α:Type}(xs:List α)(i:Int):Option α:=(ixN xs.length i).bind fun j=>xs[j]?
theorem Qlz {n:Nat}{i:Int}{j:Nat}(h:ixN n i=some j):seqIndex? i n=some j/\j<n/\-(n:Int)<=i/\i<n:=by
 unfold ixN at h
 by_cases h0:0<=i
 ·rw [if_pos h0] at h
  by_cases h1:i<n
  ·rw [if_pos h1] at h
   have e:i.toNat=j:=Option.some.inj h
   exact ⟨by rw [seqIndex_of h0 h1,e],by omega,by omega,h1⟩
  ·rw [if_neg h1] at h;cases h
 ·rw [if_neg h0] at h
  by_cases h1 : -(n:Int)<=i
  ·rw [if_pos h1] at h
   have e:(i+n).toNat=j:=Option.some.inj h
   exact ⟨by rw [seqIndex_neg (by omega) h1,e],by omega,h1,by omega⟩
  ·rw [if_neg h1] at h;cases h
theorem Qh9 {α:Type}{xs:List α}{i:Int}{v:α}(h:atI xs i=some v):∃ j,seqIndex? i xs.length=some j/\xs[j]? = some v/\j<xs.length/\-(xs.length:Int)<=i/\i<xs.length:=by
 unfold atI at h
 cases e:ixN xs.length i with
 |none=>rw [e] at h;cases h
 |some j=>
  rw [e] at h
  obtain ⟨h1,h2,h3,h4⟩:=Qlz e
  exact ⟨j,h1,h,h2,h3,h4⟩
def Qia (b:Expr):Prop:=∀ o i,subscripted b false o i=operate [o,i] (getItem o i)
def IxR (X:Cx)(r:R2):Prop:=
 ∀ (value slice:Expr) (pins:List (Addr × Obj)) (s:Shared) (σ:St) (H:Hp) (x y:V) (v u:Value) (Q:VK),Inv X pins σ H s->RelV x v->RelV y u->r x y H Q->
  subscripted slice false v u=operate [v,u] (getItem v u)->wpAny (model X.prog X.w) X.A (subscriptTail value slice v u) (EP X pins σ Q) X.xe s
def MtR (X:Cx)(id:String)(r:V->List V->Hp->VK->Prop):Prop:=
 ∀ (pins:List (Addr × Obj)) (s:Shared) (σ:St) (H:Hp) (x:V) (xs:List V) (v:Value) (us:List Value) (Q:VK),Inv X pins σ H s->RelV x v->Vals xs us->r x xs H Q->
  wpAny (model X.prog X.w) X.A (call (.builtin id) (v :: us)) (EP X pins σ Q) X.xe s
section
variable {X:Cx}{a b:Expr}{ta tb:TE}{pos:Pos}
theorem IxR.or {r r':R2}(h:IxR X r)(h':IxR X r'):IxR X (fun x y H Q=>r x y H Q\/r' x y H Q):=by
 intro value slice pins s σ H x y v u Q I rx ry q hs
 rcases q with q | q
 ·exact h value slice pins s σ H x y v u Q I rx ry q hs
 ·exact h' value slice pins s σ H x y v u Q I rx ry q hs
theorem QmY {r:R2}(hr:IxR X r)(ha:PE X a ta)(hb:PE X b tb)(hs:Qia b):PE X (.Subscript a b pos) (tOp r ta tb):=by
 intro pins s σ H Q I h
 exact Subscript_ (Qtr ha hb I h fun v u s2 x y H2 I2 rx ry q=>hr a b pins s2 σ H2 x y v u Q I2 rx ry q (hs _ _))
def QtC (K:PySem.W.Frag):R2:=fun x y H Q=>∃ p xs i v,x=.ref p/\y=.int i/\SqL K H p xs/\atI xs i=some v/\Q v H
def Qud (K:PySem.W.Frag):R2:=fun x y H Q=>∃ p xs i v,x=.ref p/\y=.int i/\SqT K H p xs/\atI xs i=some v/\Q v H
def Qt5:R2:=fun x y H Q=>∃ z i c,x=.str z/\y=.int i/\z.length<=sizeLine/\atI z.cps.toList i=some c/\Q (.str ⟨#[c]⟩) H
theorem ix_list:IxR X (QtC X.K):=by
 intro value slice pins s σ H x y v u Q I rx ry h hs
 obtain ⟨p,xs,i,z,rfl,rfl,hq,he,q⟩:=h
 cases rx
 obtain ⟨t,rfl⟩:=ry
 obtain ⟨its,r,pl,hz⟩:=I.list hq
 obtain ⟨j,h1,h2,h3,h4,h5⟩:=Qh9 he
 obtain ⟨w,ew,rw'⟩:=r.get h2
 have hl:=r.length
 have hn:=Qg0
 have fin:EP X pins σ Q w s:=⟨z,H,I,rw',q⟩
 by_cases h0:0<=i
 ·have hj:i.toNat=j:=by
   rw [seqIndex_of h0 h5] at h1
   exact Option.some.inj h1
  exact item_listR pl.isList h0 (by omega) (by rw [hj];simpa using ew) fin hs
 ·have hj:(i+(its.toArray.size:Int)).toNat=j:=by
   rw [seqIndex_neg (by omega) h4] at h1
   rw [List.size_toArray,← hl]
   exact Option.some.inj h1
  exact subscriptTail_builtinR (x:=w) pl.isList.typeIs slot_list_getitem.lookup
   (wpAny_getItem_list_neg (Q:=fun r s'=>r=w/\EP X pins σ Q r s') pl.isList (by omega) (by rw [List.size_toArray]<;>omega) (by omega) (by rw [hj];simpa using ew) ⟨rfl,fin⟩) hs
theorem ix_tup:IxR X (Qud X.K):=by
 intro value slice pins s σ H x y v u Q I rx ry h hs
 obtain ⟨p,xs,i,z,rfl,rfl,hq,he,q⟩:=h
 cases rx
 obtain ⟨t,rfl⟩:=ry
 obtain ⟨its,r,pl,hz⟩:=I.tuple hq
 obtain ⟨j,h1,h2,h3,h4,h5⟩:=Qh9 he
 obtain ⟨w,ew,rw'⟩:=r.get h2
 have hl:=r.length
 have hn:=Qg0
 have fin:EP X pins σ Q w s:=⟨z,H,I,rw',q⟩
 exact subscriptTail_builtinR (x:=w) pl.typeIs slot_tuple_getitem.lookup
  (getItem_tuple (j:=j) (Q:=fun r s'=>r=w/\EP X pins σ Q r s') pl (by omega) (by omega) (by rw [List.size_toArray,← hl];exact h1) (by simpa using ew) ⟨rfl,fin⟩) hs
theorem Qsc:IxR X Qt5:=by
 intro value slice pins s σ H x y v u Q I rx ry h hs
 obtain ⟨z,i,c,rfl,rfl,hz,he,q⟩:=h
 obtain ⟨t,rfl⟩:=rx
 obtain ⟨t',rfl⟩:=ry
 obtain ⟨j,h1,h2,h3,h4,h5⟩:=Qh9 he
 have hl:z.cps.toList.length=z.length:=by simp [Str.length]
 rw [hl] at h1 h4 h5
 have hn:=Qg0
 exact tail_any (typeIs_str s z t) slot_str_getitem.lookup (getItem_str (c:=c) (by
  have e1:decide (i < -(2 ^ 63:Int))=false:=decide_eq_false (by omega)
  have e2:decide (i ≥ 2 ^ 63)=false:=decide_eq_false (by omega)
  rw [e1,e2,Bool.or_false]) (by rw [h1];simpa using h2) ⟨.str ⟨#[c]⟩,H,I.tok _,⟨_,rfl⟩,q⟩) hs
def rIx (K:PySem.W.Frag):R2:=fun x y H Q=>QtC K x y H Q\/Qud K x y H Q\/Qt5 x y H Q
theorem QnS:IxR X (rIx X.K):=ix_list.or (ix_tup.or Qsc)
theorem QjL (its:List Value)(n j:Nat)(u:Value):Obj.mapSeq (·.setIfInBounds j u) { cls:=.type "list",data:=.seq its.toArray n }={ cls:=.type "list",data:=.seq (its.set j u).toArray n }:=by
 simp [Obj.mapSeq]
theorem Inv.lst {pins:List (Addr × Obj)}{σ:St}{H:Hp}{s:Shared}{p:Addr}{xs:List V}(I:Inv X pins σ H s)(h:H p=some (.lst xs)) :
  ∃ (its:List Value) (n:Nat),Vals xs its/\s.heap.get? p=some { cls:=.type "list",data:=.seq its.toArray n }/\xs.length<=sizeLine:=by
 obtain ⟨z,its,n,r,e⟩:=I.hok p _ h
 exact ⟨its,n,r,e,z⟩
theorem Inv.lstUpd {pins:List (Addr × Obj)}{σ:St}{H:Hp}{s:Shared}{p:Addr}{xs ys:List V}{its its':List Value}{n n':Nat}{f:Obj->Obj}(I:Inv X pins σ H s)(h:H p=some (.lst xs))
  (ho:s.heap.get? p=some { cls:=.type "list",data:=.seq its.toArray n }) (hf:f { cls:=.type "list",data:=.seq its.toArray n }={ cls:=.type "list",data:=.seq its'.toArray n' }) (r:Vals ys its') (hz:ys.length<=sizeLine) (t:Nat) :
  Inv X pins σ (upd H p (.lst ys)) { s with heap:=s.heap.update p f,toks:=t }:=by
 have e:(s.heap.update p f).get? p=some { cls:=.type "list",data:=.seq its'.toArray n' }:=by
  rw [Heap.get?_update_self f ho (by rw [hf]<;>rfl),hf]
 refine I.write (x:=p) (e:=p) (by rw [h];trivial) (.inl rfl) (fun b u hb q=>(Heap.get?_update_other _ _ (Ne.symm hb)).trans q) ⟨_,e⟩ ?_
 exact ⟨hz,its',n',r,e⟩
def QoC:V->V->V->Hp->(Hp->Prop)->Prop:=fun o i v H Q=>∃ p xs k j,o=.ref p/\i=.int k/\H p=some (.lst xs)/\ixN xs.length k=some j/\Q (upd H p (.lst (xs.set j v)))
theorem QdR:Qt2 X QoC:=by
 intro pins s σ H o i v ov iv u Q I ro ri rv h
 obtain ⟨p,xs,k,j,rfl,rfl,hp,hj,q⟩:=h
 cases ro
 obtain ⟨t,rfl⟩:=ri
 obtain ⟨its,n,r,ho,hz⟩:=I.lst hp
 obtain ⟨h1,h2,h3,h4⟩:=Qlz hj
 have hl:=r.length
 have hn:=Qg0
 have I':Inv X pins σ (upd H p (.lst (xs.set j v))) { s with heap:=s.heap.update p (Obj.mapSeq (·.setIfInBounds j u)) }:=
  I.lstUpd hp ho (QjL its n j u) (r.set rv j) (by rw [List.length_set];exact hz) s.toks
 by_cases h0:0<=k
 ·have hk:k.toNat=j:=by
   rw [seqIndex_of h0 h4] at h1
   exact Option.some.inj h1
  exact PySem.W.ki_setAt ho h0 (by omega) (by rw [List.size_toArray,← hl];exact h4) (by rw [hk];exact ⟨_,I',q⟩)
 ·have hk:(k+(its.toArray.size:Int)).toNat=j:=by
   rw [seqIndex_neg (by omega) h3] at h1
   rw [List.size_toArray,← hl]
   exact Option.some.inj h1
  exact PySem.W.ki_setBack ho (by omega) (by rw [List.size_toArray,← hl];exact h3) (by omega) (by rw [hk];exact ⟨_,I',q⟩)
theorem QgU (lo hi:Option Int)(n:Nat):(sliceBounds lo hi none n).1=((HT.sIx n 0 lo:Nat):Int)/\(sliceBounds lo hi none n).2.1=((HT.sIx n n hi:Nat):Int)/\(sliceBounds lo hi none n).2.2=1:=by
 refine ⟨?_,?_,rfl⟩
 ·cases lo with
  |none=>simp [sliceBounds,HT.sIx]
  |some i=>
   simp only [sliceBounds,HT.sIx,Option.getD_none,show (1:Int) > 0 by decide,if_true]
   by_cases h:i<0
   ·simp only [h,if_true]<;>omega
   ·simp only [h,if_false]<;>omega
 ·cases hi with
  |none=>simp [sliceBounds,HT.sIx]
  |some i=>
   simp only [sliceBounds,HT.sIx,Option.getD_none,show (1:Int) > 0 by decide,if_true]
   by_cases h:i<0
   ·simp only [h,if_true]<;>omega
   ·simp only [h,if_false]<;>omega
theorem QfW (its:List Value)(lo hi:Option Int):slicePick its.toArray lo hi none=((its.drop (HT.sIx its.length 0 lo)).take (HT.sIx its.length its.length hi - HT.sIx its.length 0 lo)).toArray:=by
 obtain ⟨h1,h2,h3⟩:=QgU lo hi its.toArray.size
 unfold slicePick
 rw [h1,h2,h3]
 simp only [sliceRange_one,pick_run,List.size_toArray]<;>rfl
def QuL (K:PySem.W.Frag):V->Option Int->Option Int->Hp->VK->Prop:=fun x lo hi H Q=>∃ a xs,x=.ref a/\SqL K H a xs/\∀ p,H p=none->Q (.ref p) (upd H p (.lst (Qoc xs lo hi)))
theorem Qpr:SlR X (QuL X.K):=by
 intro pins s σ H x v vl vu lo hi sl Q I rx hs pl pu h
 obtain ⟨a,xs,rfl,hx,q⟩:=h
 cases rx
 obtain ⟨its,r,ht,hz⟩:=I.list hx
 have hlen:=r.length
 refine ⟨"list",_,slot_list_getitem.lookup,ht.isList.typeIs,?_⟩
 refine wpAny_getItem_list_slice ht.isList hs pl pu .none (by simp) ?_ (by rw [List.size_toArray]<;>omega)
 rw [QfW,← hlen]
 refine ⟨.ref s.heap.objs.size,_,I.laid (t':=s.toks) (o:=.lst (Qoc xs lo hi)) (fun b ob q=>Heap.get?_push_of_some _ q) (Nat.le_refl _) ?_,rfl,q _ (I.hok.fresh (Nat.le_refl _))⟩
 exact ⟨Nat.le_trans (QhL xs lo hi) hz,_,0,(r.drop (HT.sIx xs.length 0 lo)).take (HT.sIx xs.length xs.length hi - HT.sIx xs.length 0 lo),Heap.get?_push_size _ rfl⟩
def Qf7:V->Bool
 |.non=>true
 |.bl _=>true
 |.int _=>true
 |.str _=>true
 |_=>false
def eqV:V->V->Bool
 |.non,.non=>true
 |.bl a,.bl b=>a == b
 |.bl a,.int b=>(if a then 1 else 0) == b
 |.int a,.bl b=>a == (if b then 1 else 0)
 |.int a,.int b=>a == b
 |.str a,.str b=>a == b
 |_,_=>false
theorem QrC {A:Around}{s:Shared}{y x:V}{u v:Value}(ry:RelV y u)(rx:RelV x v)(fy:Qf7 y=true)(fx:Qf7 x=true):SeqAt.EqAt A s u v (eqV y x):=by
 cases y with
 |non=>
  cases ry
  cases x with
  |non=>cases rx;exact SeqAt.EqAt.same _
  |bl b=>cases rx;exact SeqAt.EqAt.none_bool b
  |int b=>obtain ⟨t,rfl⟩:=rx;exact SeqAt.EqAt.none_int b t
  |str b=>obtain ⟨t,rfl⟩:=rx;exact SeqAt.EqAt.none_str b t
  |_=>exact absurd (show false=true from fx) Bool.false_ne_true
 |bl a=>
  cases ry
  cases x with
  |non=>cases rx;exact SeqAt.EqAt.bool_none a
  |bl b=>cases rx;exact SeqAt.EqAt.bool_bool a b
  |int b=>obtain ⟨t,rfl⟩:=rx;exact SeqAt.EqAt.bool_int a b t
  |str b=>obtain ⟨t,rfl⟩:=rx;exact SeqAt.EqAt.bool_str a b t
  |_=>exact absurd (show false=true from fx) Bool.false_ne_true
 |int a=>
  obtain ⟨t',rfl⟩:=ry
  cases x with
  |non=>cases rx;exact SeqAt.EqAt.int_none a t'
  |bl b=>cases rx;exact SeqAt.EqAt.int_bool a t' b
  |int b=>obtain ⟨t,rfl⟩:=rx;exact SeqAt.EqAt.int_int a t' b t
  |str b=>obtain ⟨t,rfl⟩:=rx;exact SeqAt.EqAt.int_str a t' b t
  |_=>exact absurd (show false=true from fx) Bool.false_ne_true
 |str a=>
  obtain ⟨t',rfl⟩:=ry
  cases x with
  |non=>cases rx;exact SeqAt.EqAt.str_none a t'
  |bl b=>cases rx;exact SeqAt.EqAt.str_bool a t' b
  |int b=>obtain ⟨t,rfl⟩:=rx;exact SeqAt.EqAt.str_int a t' b t
  |str b=>obtain ⟨t,rfl⟩:=rx;exact SeqAt.EqAt.str_str a t' b t
  |_=>exact absurd (show false=true from fx) Bool.false_ne_true
 |_=>exact absurd (show false=true from fy) Bool.false_ne_true
theorem Qg1:Qcm X (.type "list") (fun xs H Q=>∃ p ys,xs=[.ref p]/\(SqL X.K H p ys\/SqT X.K H p ys)/\∀ l,H l=none->Q (.ref l) (upd H l (.lst ys))):=by
 intro pins s σ H xs us Q I r h
 obtain ⟨p,ys,rfl,hq,q⟩:=h
 obtain ⟨u,rfl,rx⟩:=Qd9 r
 cases rx
 have fin:∀ (its:List Value),Vals ys its->ys.length<=sizeLine->∀ (h':Heap) (c':Nat),(∀ b o',s.heap.get? b=some o'->h'.get? b=some o')->
   h'.get? s.heap.objs.size=some { cls:=.type "list",dict:=none,data:=.seq its.toArray c',slots:=#[] }->EP X pins σ Q (.ref s.heap.objs.size) { s with heap:=h' }:=fun its r' hz h' c' kp e=>
  ⟨.ref s.heap.objs.size,_,I.laid (t':=s.toks) kp (Nat.le_refl _) (show ObjOk X.prog X.w _ h' _ (.lst ys) from ⟨hz,its,c',r',e⟩),rfl,q _ (I.hok.fresh (Nat.le_refl _))⟩
 rcases hq with hq | hq
 ·obtain ⟨its,r',pl,hz⟩:=I.list hq
  have hlen:=r'.length
  obtain ⟨o,ho,hc,n,hd⟩:=pl.isList
  exact call_list_seq p (.inl rfl) ho hc hd (fun h' c' kp e=>fin its r' hz h' c' kp e) (by simp only [List.size_toArray]<;>omega)
 ·obtain ⟨its,r',pl,hz⟩:=I.tuple hq
  have hlen:=r'.length
  obtain ⟨o,ho,hc,n,hd⟩:=pl
  exact call_list_seq p (.inr rfl) ho hc hd (fun h' c' kp e=>fin its r' hz h' c' kp e) (by simp only [List.size_toArray]<;>omega)
theorem QfK:Qcm X (.type "tuple") (fun xs H Q=>∃ p ys,xs=[.ref p]/\((SqL X.K H p ys/\∀ l,H l=none->Q (.ref l) (upd H l (.tup ys)))\/(SqT X.K H p ys/\Q (.ref p) H))):=by
 intro pins s σ H xs us Q I r h
 obtain ⟨p,ys,rfl,h⟩:=h
 obtain ⟨u,rfl,rx⟩:=Qd9 r
 cases rx
 rcases h with ⟨hq,q⟩ | ⟨hq,q⟩
 ·obtain ⟨its,r',pl,hz⟩:=I.list hq
  have hlen:=r'.length
  refine call_tuple_list pl.isList (fun h' kp=>?_) (by simp only [List.size_toArray]<;>omega)
  have I1:Inv X pins σ H { s with heap:=h' }:=I.kept (t':=s.toks) kp
  have I2:Inv X pins σ (upd H h'.objs.size (.tup ys)) { s with heap:=h'.push { cls:=.type "tuple",data:=.seq its.toArray } }:=
   I1.laid (t':=s.toks) (fun b o e=>Heap.get?_push_of_some _ e) (Nat.le_refl _) (show ObjOk X.prog X.w _ _ _ (.tup ys) from ⟨hz,its,r',IsTup.new _ _⟩)
  exact ⟨.ref h'.objs.size,_,I2,rfl,q _ (I1.hok.fresh (Nat.le_refl _))⟩
 ·obtain ⟨its,r',pl,hz⟩:=I.tuple hq
  exact call_tuple_same pl ⟨.ref p,H,I,rfl,q⟩
def tyV (K:PySem.W.Frag)(T:String)(x:V)(H:Hp):Prop:=match x with
 |.str _=>T = "str"
 |.int _=>T = "int"
 |.ref p=>(T = "list" /\ ∃ xs,SqL K H p xs)\/(T = "tuple" /\ ∃ o,K.lookup p=some o/\o.cls=.type "tuple" /\ o.dict=none)\/
   (T = "dict" /\ ((∃ kvs,H p=some (.dK kvs))\/∃ kvs,H p=some (.dT kvs)))\/(T = "set" /\ ∃ S n,H p=some (.set S n))
 |_=>False
theorem QnX {pins:List (Addr × Obj)}{σ:St}{H:Hp}{s:Shared}{T:String}{x:V}{v:Value}(I:Inv X pins σ H s)(r:RelV x v)(ty:tyV X.K T x H) :
  s.TypeIs v T/\∀ a,v=.ref a->∃ ob,s.heap.get? a=some ob/\ob.dict=none:=by
 cases x with
 |str z=>
  obtain ⟨t,rfl⟩:=r
  cases (show T = "str" from ty)
  exact ⟨typeIs_str s z t,fun _ e=>nomatch e⟩
 |int i=>
  obtain ⟨t,rfl⟩:=r
  cases (show T = "int" from ty)
  exact ⟨typeIs_int s i t,fun _ e=>nomatch e⟩
 |ref p=>
  cases r
  rcases ty with ⟨rfl,xs,hq⟩ | ⟨rfl,o,hk,hc,hd⟩ | ⟨rfl,hk⟩ | ⟨rfl,S,n,hk⟩
  ·obtain ⟨its,_,pl,_⟩:=I.list hq
   refine ⟨pl.isList.typeIs,fun a e=>?_⟩
   cases e
   obtain ⟨o,n,e,c,hd,_⟩:=pl
   exact ⟨o,e,hd⟩
  ·refine ⟨⟨o,I.kIn p o hk,hc⟩,fun a e=>?_⟩
   cases e
   exact ⟨o,I.kIn _ o hk,hd⟩
  ·have z:∃ o,s.heap.get? p=some o/\o.ExactDict:=by
    rcases hk with ⟨kvs,hk⟩ | ⟨kvs,hk⟩
    ·obtain ⟨_,_,_,_,o,_,_,e,ex,_⟩:=I.hok p _ hk
     exact ⟨o,e,ex⟩
    ·obtain ⟨_,_,_,_,o,_,_,e,ex,_⟩:=I.hok p _ hk
     exact ⟨o,e,ex⟩
   obtain ⟨o,e,ex⟩:=z
   refine ⟨⟨o,e,ex.1⟩,fun a e2=>?_⟩
   cases e2
   exact ⟨o,e,ex.2.1⟩
  ·obtain ⟨o,_,_,_,e,ex,_⟩:=I.hok p _ hk
   refine ⟨⟨o,e,ex.1⟩,fun a e2=>?_⟩
   cases e2
   exact ⟨o,e,ex.2.1⟩
 |_=>exact False.elim ty
def QuA (K:PySem.W.Frag)(T:String)(r:V->List V->Hp->VK->Prop)(to:TE):TE:=fun σ H Q=>to σ H fun x H1=>tyV K T x H1/\r x [] H1 Q
def tBM (K:PySem.W.Frag)(T:String)(r:V->List V->Hp->VK->Prop)(to:TE)(t:TA):TE:=fun σ H Q=>to σ H fun x H1=>tyV K T x H1/\t σ H1 fun xs H2=>r x xs H2 Q
variable {o e:Expr}{es:List Expr}{to:TE}{t:TA}{name:Str}{apos cpos:Pos}{T id:String}{r:V->List V->Hp->VK->Prop}
theorem QqY (pa:PlainAttrs T)(slot:Slot T name id)(hty:typeOf (.builtin id)=pure (.type "method_descriptor"))(hm:MtR X id r)(ho:PE X o to)
  (hbase:attributeBase o name X.env (eval o X.env)=eval o X.env:=by rfl) (hline:(apos.endLine == cpos.line)=true:=by rfl):PE X (.Call (.Attribute o name apos) [] [] cpos) (QuA X.K T r to):=by
 intro pins s σ H Q I h
 refine wpAny_Call_method0_late hbase hline (thn (ho pins s σ H _ I h) fun v s1 ⟨x,H1,I1,r1,ty,q1⟩=>?_)
 obtain ⟨h1,h2⟩:=QnX I1 r1 ty
 exact ⟨T,id,pa,slot,hty,h1,h2,Calls.callWith_builtin rfl (PySem.evalArgs_none (hm pins s1 σ H1 x [] v [] Q I1 r1 .nil q1))⟩
theorem Qpo (pa:PlainAttrs T)(slot:Slot T name id)(hty:typeOf (.builtin id)=pure (.type "method_descriptor"))(hm:MtR X id r)(ho:PE X o to)(ha:PA X (e :: es) t)
  (hbase:attributeBase o name X.env (eval o X.env)=eval o X.env:=by rfl)
  (hfew:((backTo cpos (starEach (e :: es) X.env)).all (fun x=>!x.1) && (backToKw cpos (keywordEach [] X.env)).all (fun x=>x.1.isSome)
   && decide ((e :: es).length+([]:List Keyword).length+(if ([]:List Keyword).isEmpty then 0 else 1)<30))=true:=by rfl)
  (hline:(apos.endLine == cpos.line)=true:=by rfl) (hs:starEach (e :: es) X.env=(false,eval e X.env) :: starEach es X.env:=by rfl) (hplain:(backTo cpos (starEach es X.env)).any (·.1)=false:=by rfl) :
  PE X (.Call (.Attribute o name apos) (e :: es) [] cpos) (tBM X.K T r to t):=by
 intro pins s σ H Q I h
 refine wpAny_Call_method_late hbase hfew hline rfl (thn (ho pins s σ H _ I h) fun v s1 ⟨x,H1,I1,r1,ty,q1⟩=>?_)
 obtain ⟨h1,h2⟩:=QnX I1 r1 ty
 refine ⟨T,id,pa,slot,hty,h1,h2,?_⟩
 have hA:=ha cpos pins s1 σ H1 _ I1 q1
 rw [hs] at hA ⊢
 refine Calls.callWith_builtin (by show (false || (backTo cpos (starEach es X.env)).any (·.1))=false;rw [hplain]<;>rfl) (Calls.evalArgs_plain ?_)
 exact thn hA fun us s2 ⟨vs,H2,I2,r2,q2⟩=>hm pins s2 σ H2 x vs v us Q I2 r1 r2 q2
end
def MtM (X:Cx)(id:String)(r:V->List V->Hp->VK->Prop):Prop:=
 ∀ (pins:List (Addr × Obj)) (s:Shared) (σ:St) (H:Hp) (x:V) (xs:List V) (v:Value) (us:List Value) (Q:VK),Inv X pins σ H s->RelV x v->Vals xs us->r x xs H Q->
  wpAny (model X.prog X.w) X.A (call (.builtin id) (v :: us)) (EP X pins σ Q) X.xe s
theorem Vals.one:∀ {x:V} {us:List Value},Vals [x] us->∃ u,us=[u]/\RelV x u
 |_,_,.cons r .nil=>⟨_,rfl,r⟩
theorem Vals.two:∀ {x y:V} {us:List Value},Vals [x,y] us->∃ u v,us=[u,v]/\RelV x u/\RelV y v
 |_,_,_,.cons r (.cons q .nil)=>⟨_,_,rfl,r,q⟩
theorem Vals.zero:∀ {us:List Value},Vals [] us->us=[]
 |_,.nil=>rfl
theorem Vals.dropLast {xs:List V}{us:List Value}(h:Vals xs us):Vals xs.dropLast us.dropLast:=by
 induction h with
 |nil=>exact .nil
 |cons r t ih=>
  cases t with
  |nil=>exact .nil
  |cons q t'=>exact .cons r ih
theorem Vals.reverse {xs:List V}{us:List Value}(h:Vals xs us):Vals xs.reverse us.reverse:=by
 induction h with
 |nil=>exact .nil
 |cons r t ih=>rw [List.reverse_cons,List.reverse_cons];exact Vals.append ih (.cons r .nil)
theorem Vals.rep {xs:List V}{us:List Value}(h:Vals xs us):∀ k:Nat,Vals (List.replicate k xs).flatten (List.replicate k us).flatten
 |0=>.nil
 |k+1=>by
  rw [List.replicate_succ,List.replicate_succ,List.flatten_cons,List.flatten_cons]
  exact Vals.append h (Vals.rep h k)
theorem QjH {α:Type}(l:List α):l.eraseIdx (l.length - 1)=l.dropLast:=by
 induction l with
 |nil=>rfl
 |cons a r ih=>
  cases r with
  |nil=>rfl
  |cons b r=>
   have e:(a :: b :: r).length - 1=((b :: r).length - 1)+1:=by
    have h1:(a :: b :: r).length=r.length+2:=rfl
    have h2:(b :: r).length=r.length+1:=rfl
    omega
   rw [e,List.eraseIdx_cons_succ,ih]
   all_goals rfl
section
variable {X:Cx}{pins:List (Addr × Obj)}{σ:St}{H:Hp}{s:Shared}{l:Addr}{xs ys:List V}
theorem Inv.lset {its its':List Value}{n:Nat}{f:Array Value->Array Value}{t':Nat}(I:Inv X pins σ H s)(hH:H l=some (.lst xs))
  (e:s.heap.get? l=some { cls:=.type "list",data:=.seq its.toArray n }) (hf:f its.toArray=its'.toArray) (hv:Vals ys its') (hz:ys.length<=sizeLine) :
  Inv X pins σ (upd H l (.lst ys)) { s with heap:=s.heap.update l (Obj.mapSeq f),toks:=t' }:=by
 have q:=PySem.IsL.update e f
 rw [hf] at q
 refine I.write (x:=l) (e:=l) (by rw [hH];exact trivial) (.inl rfl) (fun b' u hb hu=>(Heap.get?_update_other s.heap (Obj.mapSeq f) (Ne.symm hb)).trans hu) ⟨_,q⟩ ?_
 exact ⟨hz,its',_,hv,q⟩
theorem Inv.lnew {its:List Value}{t':Nat}(I:Inv X pins σ H s)(hv:Vals ys its)(hz:ys.length<=sizeLine) :
  Inv X pins σ (upd H s.heap.objs.size (.lst ys)) { s with heap:=s.heap.push { cls:=.type "list",data:=.seq its.toArray },toks:=t' }:=
 I.laid (fun _ _ q=>Heap.get?_push_of_some _ q) (Nat.le_refl _) ⟨hz,its,0,hv,Heap.get?_push_size _ rfl⟩
theorem Inv.fresh (I:Inv X pins σ H s):H s.heap.objs.size=none:=I.hok.fresh (Nat.le_refl _)
theorem Inv.lstM (I:Inv X pins σ H s)(hH:H l=some (.lst xs)):xs.length<=sizeLine/\∃ (its:List Value) (n:Nat),Vals xs its/\xs.length=its.length/\s.heap.get? l=some { cls:=.type "list",data:=.seq its.toArray n }:=by
 obtain ⟨z,its,n,r,e⟩:=I.hok l _ hH
 exact ⟨z,its,n,r,r.length,e⟩
theorem Qm8 {n:Nat}(h:n<=sizeLine):Builtin.List.listTooLong n=false:=by
 unfold Builtin.List.listTooLong
 exact decide_eq_false (by omega)
end
section
variable {X:Cx}
def QoE:V->List V->Hp->VK->Prop:=fun x vs H Q=>∃ l xs y,x=.ref l/\vs=[y]/\H l=some (.lst xs)/\xs.length<sizeLine/\Q .non (upd H l (.lst (xs++[y])))
theorem QkB:MtM X "list.append" QoE:=by
 intro pins s σ H x vs v us Q I rx rv h
 obtain ⟨l,xs,y,rfl,rfl,hH,hz,q⟩:=h
 cases rx
 obtain ⟨u,rfl,ru⟩:=rv.one
 obtain ⟨z,its,n,r,hl,e⟩:=I.lstM hH
 refine call_meets F.slot_list_append ⟨_,e,rfl⟩ F.entry_list_append (F.args_list_append_2 _ _) (PySem.list_append l its.toArray n u (by rw [List.size_toArray];omega)) ⟨e,?_⟩
 refine ⟨.non,_,I.lset (its':=its++[u]) hH e (by simp) (r.append (.cons ru .nil)) ?_,rfl,q⟩
 rw [List.length_append,List.length_singleton]
 omega
def QoL:V->List V->Hp->VK->Prop:=fun x vs H Q=>∃ l b xs zs,x=.ref l/\vs=[.ref b]/\H l=some (.lst xs)/\H b=some (.lst zs)/\xs.length+zs.length<=sizeLine/\Q .non (upd H l (.lst (xs++zs)))
theorem Qkd:MtM X "list.extend" QoL:=by
 intro pins s σ H x vs v us Q I rx rv h
 obtain ⟨l,b,xs,zs,rfl,rfl,hH,hB,hz,q⟩:=h
 cases rx
 obtain ⟨u,rfl,ru⟩:=rv.one
 cases ru
 obtain ⟨z,its,n,r,hl,e⟩:=I.lstM hH
 obtain ⟨z2,its2,n2,r2,hl2,e2⟩:=I.lstM hB
 have hsz:its.toArray.size+its2.toArray.size<=sizeLine:=by rw [List.size_toArray,List.size_toArray];omega
 have hlong:¬ (!its.toArray.isEmpty && Builtin.List.listTooLong (its.toArray.size+its2.toArray.size))=true:=by
  rw [Qm8 hsz,Bool.and_false]
  exact Bool.false_ne_true
 refine call_meets F.slot_list_extend ⟨_,e,rfl⟩ F.entry_list_extend (F.args_list_extend_2 _ _)
  (AutoSeq1.list_extend_list_list_0 l its.toArray n b its2.toArray n2 hlong (by rw [List.size_toArray];omega) (by omega)) ⟨e,e2,?_⟩
 refine ⟨.non,_,I.lset (its':=its++its2) hH e (by simp) (r.append r2) ?_,rfl,q⟩
 rw [List.length_append]
 omega
def QuH:V->List V->Hp->VK->Prop:=fun x vs H Q=>∃ l xs y,x=.ref l/\vs=[]/\H l=some (.lst xs)/\xs[xs.length - 1]? = some y/\Q y (upd H l (.lst xs.dropLast))
theorem Qsi:MtM X "list.pop" QuH:=by
 intro pins s σ H x vs v us Q I rx rv h
 obtain ⟨l,xs,y,rfl,rfl,hH,hy,q⟩:=h
 cases rx
 have hus:=rv.zero
 subst hus
 obtain ⟨z,its,n,r,hl,e⟩:=I.lstM hH
 obtain ⟨u,hu,ru⟩:=r.get hy
 have hy':its.toArray[its.toArray.size - 1]? = some u:=by
  show its.toArray[its.length - 1]? = some u
  rw [← Array.getElem?_toList,← hl]
  exact hu
 refine call_meets F.slot_list_pop ⟨_,e,rfl⟩ F.entry_list_pop (F.args_list_pop_1 _) (MeetsSeq.list_pop_last l its.toArray n u hy' (by rw [List.size_toArray];omega)) ⟨e,?_⟩
 refine ⟨y,_,I.lset (its':=its.dropLast) hH e ?_ r.dropLast ?_,ru,q⟩
 ·show its.toArray.eraseIdxIfInBounds (its.toArray.size - 1)=its.dropLast.toArray
  rw [List.size_toArray,List.eraseIdxIfInBounds_toArray,QjH]
 ·rw [List.length_dropLast]
  omega
theorem Qpx {α:Type}(xs:List α)(k:Nat):(List.replicate k xs).flatten.length=k * xs.length:=by
 induction k with
 |zero=>simp
 |succ k ih=>rw [List.replicate_succ,List.flatten_cons,List.length_append,ih,Nat.succ_mul,Nat.add_comm]
end
end L2
namespace Att
open PySem PySem.W PySem.Calls PyProof.Rows
theorem QeE {P:Params}{h:Heap}:∀ (ns:List Int) (vs:List Value),WellAll P h vs (ns.map WData.int)->IntsAre vs ns:=by
 intro ns
 induction ns with
 |nil=>
  intro vs w
  rw [List.map_nil] at w
  cases w
  exact .nil
 |cons n ns ih=>
  intro vs w
  rw [List.map_cons] at w
  cases w with
  |cons a b=>
   cases a
   exact .cons _ _ (ih _ b)
theorem QkT {l:OpenLaw}{n:Nat}(hn:l.most=some n){P:Params}{h:Heap}{args:List WData}{vals:List Value}
  (hpre:l.row.toRowW.claim.pre args=true) (hwl:WellAll P h vals args) :
  ∃ a vs ns,vals=[Value.ref a]/\args=[WData.list (ns.map WData.int)]/\h.get? a=some { cls:=.type "list",data:=.seq vs.toArray }/\IntsAre vs ns/\ns.length<=n:=by
 have hsh:WShape.hasAll [] args [.list .int]=true:=(pre_splitW hpre).1
 have hc:l.pre.holds [] { args:=args }=true:=(pre_splitW hpre).2
 obtain ⟨d,r,rfl,h1,h2⟩:=hasAllW_cons hsh
 obtain rfl:=hasAllW_nil h2
 obtain ⟨xs,rfl,h3⟩:=hasW_list h1
 obtain ⟨ns,rfl⟩:=items_int h3
 have hlen:ns.length<=n:=by
  unfold OpenLaw.pre at hc
  have h4:(WTm.not (.lt (.lit (.int (n:Int))) (.len (.arg 0)))).holds [] { args:=[.list (ns.map .int)] }=true:=by
   have h4:=(holds_andW hc).1
   rw [hn] at h4
   exact h4
  have h5:=condW_of h4 (w_not (w_lt w_lit (w_len_list (w_arg rfl))))
  rw [List.length_map] at h5
  refine Nat.le_of_not_lt fun q=>?_
  have q':(n:Int)<((ns.length:Nat):Int):=by omega
  first
   |(rw [decide_eq_true q'] at h5;exact absurd h5 (by decide))
   |(simp at h5;omega)
 cases hwl with
 |cons w1 w2=>
  cases w2
  cases w1 with
  |list ho hall=>exact ⟨_,_,ns,rfl,rfl,ho,QeE ns _ hall,hlen⟩
theorem QlC (l:OpenLaw)(args:List WData):l.row.toRowW.claim.post args (.bool true) args=true:=
 postW_of (r:=l.row.toRowW) (X:=(true == true))
  (show WShape.has [] (.bool true) .bool=true by first | rfl | decide | simp [WShape.has,WShape.arms,WShape.armsAll])
  (show (WTm.eq .res (.lit (.bool true))).value [] { args:=args,res:=some (.bool true),after:=args }=some (.bool (true == true)) from w_eq_bool (w_res rfl) w_lit) rfl
theorem attach_call {l:OpenLaw}{n:Nat}{q:Program}{loose:List Str}{XP:(Str->Option Value)->Heap->Prop}{YP:World->Heap->Prop}{d:DefRec}
  (hn:l.most=some n) (hdf:d.params.defaults=[])
  (call:∀ (w:World) (s₀ s₁:Shared) (mg mb:Str->Option Value) (fa:Addr) (o:Obj) (pm cd doc:Value) (a:Addr) (vs:List Value) (ns:List Int),
   Ground q loose [] XP w s₀ mg mb s₁.heap->YP w s₁.heap->
   s₁.heap.get? fa=some o->o.data=.func (docDef d.name d.params d.body d.scope pm cd doc)->s₁.heap.CodeRec cd d.name->mg d.name=some (.ref fa)->
   s₁.heap.get? a=some { cls:=.type "list",data:=.seq vs.toArray }->IntsAre vs ns->ns.length<=n->s₁.gens = #[]->
   codeAny (model l.prog w) callerA (.call (.ref fa) ⟨[.ref a],[]⟩) (fun r s'=>r=.ok (.ret (.bool true))/\OldK s₁.heap s'.heap/\s'.os=s₁.os/\AllBare s'.gens) s₁) :
  WalkO q loose XP YP l.row.toRowW d [] (fun f vs=>PySem.call f vs):=by
 intro w s₀ s₁ mg mb G Y fa o pm cd doc dV kV ho hd hcd hD hmg hg args vals as hpre hlay hrd hwl hlo
 obtain rfl:dV=.none:=Dflts.none hD hdf
 obtain rfl:kV=.none:=Dflts.noKw hD
 obtain ⟨a,vs,ns,rfl,rfl,hobj,hints,hlen⟩:=QkT hn hpre hwl
 refine enter_call (codeAny_mono (call w s₀ s₁ mg mb fa o pm cd doc a vs ns G Y ho (fd_plain hd) hcd hmg hobj hints hlen hg) fun r s' hq=>?_)
 obtain ⟨rfl,h2,h3,h4⟩:=hq
 exact ⟨.inl ⟨.bool true,.bool true,[],rfl,fun _=>rfl,.bool true,QlC l _,fun _=>⟨List.Pairwise.nil,fun _ hm=>(nomatch hm)⟩⟩,h2,h3,h4⟩
end Att
namespace L2
open PySem PySem.Spec PyProof.Rows
theorem Qg3:∀ {vs:List Value} {ns:List Int},IntsAre vs ns->Vals (ns.map V.int) vs
 |_,_,.nil=>.nil
 |_,_,.cons n t h=>.cons ⟨t,rfl⟩ (Qg3 h)
def Qs7 (H:Hp):Prop:=∀ b,H b=none\/∃ o xs,H b=some (.frz o (.lst xs))
theorem Qm0 {P:Program}{w:World}{K:PySem.W.Frag}{mg mb:Str->Option Value}{CX:CXT}{k:Nat}{fa a:Addr}{fd:FuncData}{x:Str}{sp:Sp}{s₁:Shared}{vs:List Value}{ns:List Int}
  (KX:K.In s₁.heap) (hns:s₁.heap.Ns mainGlobals mg) (hb:s₁.heap.Ns builtinsNs mb) (hbb:∀ x:Str,x ≠ "__name__" -> mb x=bootBuiltins x) (hlim:s₁.heap.NoLimit) (hg:s₁.gens = #[])
  (ha:s₁.heap.get? a=some { cls:=.type "list",data:=.seq vs.toArray }) (hi:IntsAre vs ns) (hl:ns.length<=sizeLine) (hr:Room k callerA)
  (F:∀ base:Heap,K.In base->base.Ns mainGlobals mg->FnOk P w K mg base CX k fa fd [x] sp) (hbind:∀ (s:Shared) (u:Value),BindsTo s fd ⟨[u],[]⟩ [(x,u)])
  (hsp:∀ H:Hp,Qs7 H->SqL K H a (ns.map V.int)->sp [.ref a] H (fun v _=>v=.bl true) fun _ _ _=>False)
  (hCX:∀ H e s',CX [] H s₁ (fun _ _ _=>False) e s'->False) :
  codeAny (model P w) callerA (.call (.ref fa) ⟨[.ref a],[]⟩) (fun r s'=>r=.ok (.ret (.bool true))/\OldK s₁.heap s'.heap/\s'.os=s₁.os/\AllBare s'.gens) s₁:=by
 have rv:=Qg3 hi
 have lenV:=hi.length
 -- from an abstract heap in which nothing but the script may be tracked
 have core:∀ H:Hp,Qs7 H->SqL K H a (ns.map V.int)->HOk P w H s₁.heap->(∀ b,H b≠none->b=a)->(H a≠none->K.lookup a=none)->
   codeAny (model P w) callerA (.call (.ref fa) ⟨[.ref a],[]⟩) (fun r s'=>r=.ok (.ret (.bool true))/\OldK s₁.heap s'.heap/\s'.os=s₁.os/\AllBare s'.gens) s₁:=by
  intro H hO hS hok hA hK
  have base_of:∀ {b:Addr} {o:Obj},s₁.heap.get? b=some o->H b=none->(Qm9 s₁.heap H).get? b=some o:=fun e n=>QmL e n
  have noA:∀ {b:Addr} {o:Obj} {es:Array DictEntry} {ep:Nat},s₁.heap.get? b=some o->o.data=.dict es ep->H b=none:=fun {b o es ep} e d=>by
   cases q:H b with
   |none=>rfl
   |some u=>
    have e':b=a:=hA b (by rw [q];simp)
    subst e'
    rw [ha] at e;cases e
    have d':Data.seq vs.toArray _=Data.dict es ep:=d
    cases d'
  have nsK:∀ {b:Addr} {m:Str->Option Value},s₁.heap.Ns b m->(Qm9 s₁.heap H).Ns b m:=fun {b m} ⟨o,es,ep,e,d,r⟩=>⟨o,es,ep,base_of e (noA e d),d,r⟩
  have hKb:K.In (Qm9 s₁.heap H):=fun b o e=>base_of (KX b o e) (by
   cases q:H b with
   |none=>rfl
   |some u=>
    have e':b=a:=hA b (by rw [q];simp)
    subst e'
    rw [hK (by rw [q];simp)] at e;cases e)
  have hM:Mod K mg (Qm9 s₁.heap H):=⟨hKb,nsK hns,⟨mb,nsK hb,hbb⟩,let ⟨mc,h1,h2⟩:=hlim;⟨mc,nsK h1,h2⟩⟩
  have e0:Env0 P w K mg (Qm9 s₁.heap H) callerA [] s₁ H:=⟨rfl,hM,fun b o e=>QpD e,Nat.le_of_eq (Qlb _ _),trivial,fun b hb=>absurd (show b∈([]:List Addr) from hb) (by simp),hok,.of_eq hg⟩
  refine codeAny_mono ((F _ hKb (nsK hns)).run callerA [] s₁ H ⟨[.ref a],[]⟩ [.ref a] [.ref a] _ _ hr e0 (hbind s₁ (.ref a)) (.cons rfl .nil) (hsp H hO hS)) fun r s' h=>?_
  cases r with
  |error e=>exact (hCX H e s' h).elim
  |ok fl=>
   cases fl with
   |next=>exact False.elim h
   |brk=>exact False.elim h
   |cont=>exact False.elim h
   |ret u=>
    obtain ⟨v,H',os,bare,un,hok',r',q⟩:=h
    have q':v=.bl true:=q
    subst q'
    obtain rfl:u=Value.bool true:=r'
    refine ⟨rfl,OldK.of_keep fun b o e=>?_,os,bare⟩
    cases q:H b with
    |none=>exact un.keep b o e q (by intro z;exact absurd (show b∈([]:List Addr) from z) (by simp)) (by simp)
    |some u=>
     rcases hO b with z | ⟨ob,xs,z⟩
     ·rw [q] at z;cases z
     ·have z2:=un.frzs b ob _ z
      obtain ⟨e1,_⟩:=hok b _ z
      obtain ⟨e2,_⟩:=hok' b _ z2
      rw [e] at e1;cases e1
      exact e2
 cases hk:K.lookup a with
 |some o=>
  -- the script is one of the module's own objects
  have e:=KX a o hk
  rw [ha] at e
  cases e
  refine core (fun _=>none) (fun _=>.inl rfl) (.inr ⟨_,vs.toArray,_,hk,rfl,rfl,rfl,by rw [List.size_toArray,lenV];exact hl,by simpa using rv⟩) (fun b u z=>by have z':(none:Option HO)=some u:=z;cases z') (fun b z=>absurd rfl z) fun z=>absurd rfl z
 |none=>
  refine core (fun b=>if b=a then some (.frz { cls:=.type "list",data:=.seq vs.toArray } (.lst (ns.map V.int))) else none) (fun b=>?_) (.inl (.inr ⟨{ cls:=.type "list",data:=.seq vs.toArray },if_pos rfl⟩)) (fun b u z=>?_) (fun b z=>?_) fun _=>hk
  ·by_cases hb:b=a
   ·exact .inr ⟨_,_,if_pos hb⟩
   ·exact .inl (if_neg hb)
  ·by_cases hb:b=a
   ·have z':=(if_pos hb).symm.trans z
    cases z'
    subst hb
    exact ⟨ha,by rw [List.length_map];exact hl,vs,_,rv,ha⟩
   ·have z':=(if_neg hb).symm.trans z
    cases z'
  ·by_cases hb:b=a
   ·exact hb
   ·exact absurd (if_neg hb) z
theorem Qo7 {l:PySem.W.OpenLaw}{n k:Nat}{q:Program}{loose:List Str}{XP:(Str->Option Value)->Heap->Prop}{YP:World->Heap->Prop}{d:DefRec}{K:Params->PySem.W.Frag}{CX:World->CXT}{sp:World->Sp}{x:Str}
  (hn:l.most=some n) (hn2:n<=sizeLine) (hdf:d.params.defaults=[]) (hr:Room k callerA)
  (hY:∀ (w:World) (h:Heap),YP w h->(K w.params).In h)
  (F:∀ (w:World) (mg:Str->Option Value) (fa:Addr) (h:Heap),(K w.params).In h->h.Ns mainGlobals mg->mg d.name=some (.ref fa)->
   ∃ fd:FuncData,(∀ (s:Shared) (u:Value),BindsTo s fd ⟨[u],[]⟩ [(x,u)])/\
    ∀ base:Heap,(K w.params).In base->base.Ns mainGlobals mg->FnOk l.prog w (K w.params) mg base (CX w) k fa fd [x] (sp w))
  (hsp:∀ (w:World) (H:Hp) (a:Addr) (ns:List Int),ns.length<=n->Qs7 H->SqL (K w.params) H a (ns.map V.int)->sp w [.ref a] H (fun v _=>v=.bl true) fun _ _ _=>False)
  (hCX:∀ (w:World) (H:Hp) (s:Shared) (e:Value) (s':Shared),CX w [] H s (fun _ _ _=>False) e s'->False) :
  PySem.W.WalkO q loose XP YP l.row.toRowW d [] (fun f vs=>PySem.call f vs):=by
 refine Att.attach_call hn hdf fun w s₀ s₁ mg mb fa o pm cd doc a vs ns G Y ho hd hcd hmg hobj hints hlen hg=>?_
 have KX:=hY w _ Y
 obtain ⟨fd,hb,hF⟩:=F w mg fa _ KX G.T.g hmg
 exact Qm0 KX G.T.g G.T.b G.T.builtins G.T.nolimit hg hobj hints (Nat.le_trans hlen hn2) hr hF hb (fun H hO hS=>hsp w H a ns hlen hO hS) fun H e s'=>hCX w H s₁ e s'
def QcQ (s:Stmt)(j:Nat):Stmt:=match s with
 |.ClassDef _ _ _ body _ _ _ _ _ _ _=>body.getD j (.Pass ⟨0,0,0,0⟩)
 |_=>.Pass ⟨0,0,0,0⟩
def Qex (s:Stmt):Arguments:=match s with
 |.FunctionDef _ a _ _ _ _ _ _ _ _=>a
 |_=>{ posonlyargs:=[],args:=[],vararg:=none,kwonlyargs:=[],kw_defaults:=[],kwarg:=none,defaults:=[] }
def QcL (s:Stmt):List Stmt:=match s with
 |.FunctionDef _ _ b _ _ _ _ _ _ _=>b
 |_=>[]
def Qac (s:Stmt):Scope:=match s with
 |.FunctionDef _ _ _ _ _ _ sc _ _ _=>sc
 |_=>{ kind:=.function,names:=[],isGenerator:=false,isCoroutine:=false }
abbrev CX0:CXT:=fun _ _ _ _ _ _=>False
structure Fun (K:PySem.W.Frag)(x qual:Str)(st:Stmt)(f:Addr)(fd:FuncData):Prop where
 ex:∃ (oc:Value) (od:Option Addr) (kV doc pm:Value) (an:Option Addr) (cdv ct:Value) (osl:Array (Option Value)),
  fd=PySem.W.fnOf x qual (Qex st) (QcL st) (Qac st) .none kV doc pm an cdv ct/\K.lookup f=some ⟨oc,od,.func fd,osl⟩/\PySem.W.codeIn K cdv qual=true
 kp:PySem.W.keepIn K (.ref f)=true
section
variable {P:Program}{w:World}{K:PySem.W.Frag}{mg:Str->Option Value}{base:Heap}
theorem Fun.ok {x qual:Str}{st:Stmt}{f:Addr}{fd:FuncData}{N ps:List Str}{k:Nat}{sp:Sp}(F:Fun K x qual st f fd)(S:Qak N ps (Qac st))(len:∀ vs H Q E,sp vs H Q E->vs.length=ps.length)
  (hbody:∀ (cdv:Value) (A:Around) (outer:List Env) (s:Shared) (H:Hp) (vs:List V) (Q:VK) (E:XK),Room k (A.deeper (envOfC qual (Qac st) s.heap.objs.size f cdv))->sp vs H Q E->
   ∃ t,PSs (Qd4 CX0 P w K mg base N qual (Qac st) f cdv A outer s H E).nox (QcL st) t/\t { nx:=fun _ H'=>Q .non H',rt:=Q } (start N vs) H):FnOk P w K mg base CX0 (k+1) f fd ps sp:=by
 obtain ⟨oc,od,kV,doc,pm,an,cdv,ct,osl,rfl,lk,hcd⟩:=F.ex
 refine Qp4 lk hcd S len fun A outer s H vs Q E hr hsp=>?_
 obtain ⟨t,h,q⟩:=hbody cdv A outer s H vs Q E hr hsp
 exact ⟨t,h.nox,q⟩
theorem Fun.binds {x qual:Str}{st:Stmt}{f:Addr}{fd:FuncData}{ps:List Str}(F:Fun K x qual st f fd)
  (h:∀ (kV doc pm:Value) (an:Option Addr) (cdv ct:Value) (us:List Value),us.length=ps.length->bindArgs (PySem.W.fnOf x qual (Qex st) (QcL st) (Qac st) .none kV doc pm an cdv ct) ⟨us,[]⟩=pure (ps.zip us)):Binds K fd ps []:=by
 obtain ⟨oc,od,kV,doc,pm,an,cdv,ct,osl,rfl,lk,hcd⟩:=F.ex
 exact .all (h kV doc pm an cdv ct)
theorem Qaw {x qual:Str}{st:Stmt}{f:Addr}{oc:Value}{od an:Option Addr}{osl:Array (Option Value)}{kV doc pm cdv ct:Value}(l:K.lookup f=some ⟨oc,od,.func (PySem.W.fnOf x qual (Qex st) (QcL st) (Qac st) .none kV doc pm an cdv ct),osl⟩)
  (c:PySem.W.codeIn K cdv qual=true) (k:PySem.W.keepIn K (.ref f)=true):Fun K x qual st f (PySem.W.fnOf x qual (Qex st) (QcL st) (Qac st) .none kV doc pm an cdv ct):=⟨⟨oc,od,kV,doc,pm,an,cdv,ct,osl,rfl,l,c⟩,k⟩
end
theorem QhI {A:Around}{k:Nat}(hr:Room k A):A.units+1<cLine:=Nat.lt_of_le_of_lt (Nat.add_le_add_left (by decide:1<=64) _) hr.units
section
variable {X:Cx}
theorem pv (i:Nat){x:Str}{pos:Pos}(hN:X.N[i]? = some x:=by rfl)(hv:Vis X.env.scope x:=by first | exact Or.inl rfl | exact Or.inr (Or.inl rfl) | exact Or.inr (Or.inr rfl))(hd:(x == ("__debug__" : Str))=false:=by decide)
  (hcd:(x == ("__classdict__" : Str))=false:=by decide):PE X (.Name x pos) (QsE i):=QcZ hN hv hd hcd
end
def Same (H H':Hp):Prop:=∀ b o,H b=some o->H' b=some o
theorem Same.refl (H:Hp):Same H H:=fun _ _ h=>h
theorem Same.trans {H H1 H2:Hp}(a:Same H H1)(b:Same H1 H2):Same H H2:=fun c o h=>b c o (a c o h)
theorem Same.free {H H':Hp}(e:Same H H'){l:Addr}(h:H' l=Option.none):H l=Option.none:=by
 cases q:H l with
 |none=>rfl
 |some o=>
  rw [e l o q] at h
  cases h
section
variable {κ:Type}[DecidableEq κ]
end
end L2
set_option maxHeartbeats 4000000
namespace L2
open PySem PySem.Spec PyProof.Rows
theorem QjC {α β:Type}{l:List α}{f:α->β->Sem (ForInStep β)}{g:α->β->β}(h:∀ x∈l,∀ c,f x c=pure (.yield (g x c))):∀ c:β,forIn l c f=pure (l.foldl (fun c x=>g x c) c):=by
 induction l with
 |nil=>intro c;rfl
 |cons x l ih=>
  intro c
  rw [List.forIn_cons,h x List.mem_cons_self,pure_bind]
  exact ih (fun y hy=>h y (List.mem_cons_of_mem _ hy)) _
def Qc3 (cells:List (Str × Addr))(names:List (Str × NameKind)):List (Str × Addr):=
 names.foldl (fun c x=>if (x.2 == NameKind.free)=true then (x.1,(cells.lookup x.1).getD 0) :: c else c) []
theorem Qd0 {scope:Scope}{env:Env}(h:∀ x∈scope.names,x.2=.free->∃ c,env.cells.lookup x.1=some c):closureFor scope env=pure (Qc3 env.cells scope.names):=by
 simp only [closureFor]
 rw [QjC (g:=fun (x:Str × NameKind) c=>if (x.2 == NameKind.free)=true then (x.1,(env.cells.lookup x.1).getD 0) :: c else c) (fun x hx c=>by
  obtain ⟨n,kind⟩:=x
  by_cases hk:kind=.free
  ·subst hk
   obtain ⟨a,ha⟩:=h _ hx rfl
   simp [cellOf,ha]
  ·have hb:(kind == NameKind.free)=false:=by simpa using hk
   simp only [hb,Bool.false_eq_true,if_false])]
 rfl
theorem Qdk {cells:List (Str × Addr)}:∀ (names:List (Str × NameKind)) (acc:List (Str × Addr)),(∀ x∈names,x.2=.free->∃ c,cells.lookup x.1=some c)->(∀ p∈acc,cells.lookup p.1=some p.2)->
  ∀ p∈names.foldl (fun c (x:Str × NameKind)=>if (x.2 == NameKind.free)=true then (x.1,(cells.lookup x.1).getD 0) :: c else c) acc,cells.lookup p.1=some p.2
 | [],_,_,ha=>ha
 |(n,k) :: r,acc,h,ha=>by
  rw [List.foldl_cons]
  refine Qdk r _ (fun x hx=>h x (List.mem_cons_of_mem _ hx)) ?_
  by_cases hk:k=.free
  ·subst hk
   obtain ⟨a,e⟩:=h (n,.free) List.mem_cons_self rfl
   intro p hp
   simp only [beq_self_eq_true,if_true] at hp
   rcases List.mem_cons.mp hp with rfl | hp
   ·show cells.lookup n=some ((cells.lookup n).getD 0)
    have e':cells.lookup n=some a:=e
    rw [e'];rfl
   ·exact ha p hp
  ·have hb:(k == NameKind.free)=false:=by simpa using hk
   simp only [hb,Bool.false_eq_true,if_false]
   exact ha
theorem QbC {cells:List (Str × Addr)}{y:Str}:∀ (names:List (Str × NameKind)) (acc:List (Str × Addr)),((y,NameKind.free)∈names\/y∈acc.map (·.1))->
  y∈(names.foldl (fun c (x:Str × NameKind)=>if (x.2 == NameKind.free)=true then (x.1,(cells.lookup x.1).getD 0) :: c else c) acc).map (·.1)
 | [],acc,h=>h.elim (fun z=>nomatch z) fun z=>z
 |(n,k) :: r,acc,h=>by
  rw [List.foldl_cons]
  refine QbC r _ ?_
  rcases h with h | h
  ·rcases List.mem_cons.mp h with e | h
   ·cases e
    refine .inr ?_
    simp
   ·exact .inl h
  ·refine .inr ?_
   split
   ·exact List.mem_cons_of_mem _ h
   ·exact h
theorem QbA {y:Str}:∀ {l:List (Str × Addr)},y∈l.map (·.1)->∃ c,l.lookup y=some c
 | [],h=>nomatch h
 |(n,a) :: r,h=>by
  by_cases e:y=n
  ·subst e
   exact ⟨a,by simp [List.lookup_cons]⟩
  ·have hb:(y == n)=false:=by simpa using e
   have hr:y∈r.map (·.1):=(List.mem_cons.mp h).resolve_left e
   obtain ⟨c,hc⟩:=QbA hr
   exact ⟨c,by rw [List.lookup_cons,hb];exact hc⟩
theorem Qa7 {env:Env}{y:Str}:∀ {names:List (Str × NameKind)} {k:NameKind},(∀ z∈names,z.2≠.cell)->
  (names.map fun (n,k)=>if (k == NameKind.free && env.scope.kind == .function && env.kindOf n == some .cell) then (n,NameKind.cell) else (n,k)).lookup y=some k->k=.cell\/k=.free->(y,NameKind.free)∈names
 | [],_,_,h,_=>by simp at h
 |(n,k0) :: r,k,hc,h,hk=>by
  rw [List.map_cons] at h
  by_cases e:y=n
  ·subst e
   by_cases c:(k0 == NameKind.free && env.scope.kind == .function && env.kindOf y == some .cell)=true
   ·have hf:k0=.free:=by
     have:=c
     simp only [Bool.and_eq_true] at this
     simpa using this.1.1
    subst hf
    exact List.mem_cons_self
   ·have h':k0=k:=by
     rw [show (match (y,k0) with | (n,k)=>if (k == NameKind.free && env.scope.kind == .function && env.kindOf n == some .cell)=true then (n,NameKind.cell) else (n,k))=(y,k0) from if_neg c] at h
     simpa [List.lookup_cons] using h
    subst h'
    rcases hk with rfl | rfl
    ·exact absurd rfl (hc _ List.mem_cons_self)
    ·exact List.mem_cons_self
  ·have hb:(y == n)=false:=by simpa using e
   refine List.mem_cons_of_mem _ (Qa7 (env:=env) (k:=k) (fun z hz=>hc z (List.mem_cons_of_mem _ hz)) ?_ hk)
   by_cases c:(k0 == NameKind.free && env.scope.kind == .function && env.kindOf n == some .cell)=true
   ·rw [show (match (n,k0) with | (n,k)=>if (k == NameKind.free && env.scope.kind == .function && env.kindOf n == some .cell)=true then (n,NameKind.cell) else (n,k))=(n,NameKind.cell) from if_pos c,List.lookup_cons,hb] at h
    exact h
   ·rw [show (match (n,k0) with | (n,k)=>if (k == NameKind.free && env.scope.kind == .function && env.kindOf n == some .cell)=true then (n,NameKind.cell) else (n,k))=(n,k0) from if_neg c,List.lookup_cons,hb] at h
    exact h
theorem Qbq {env:Env}{y:Str}:∀ {names:List (Str × NameKind)},names.lookup y=some .free->
  (names.map fun (n,k)=>if (k == NameKind.free && env.scope.kind == .function && env.kindOf n == some .cell) then (n,NameKind.cell) else (n,k)).lookup y=some .cell\/
  (names.map fun (n,k)=>if (k == NameKind.free && env.scope.kind == .function && env.kindOf n == some .cell) then (n,NameKind.cell) else (n,k)).lookup y=some .free
 | [],h=>by simp at h
 |(n,k) :: r,h=>by
  have ih:=@Qbq env y r
  show List.lookup y ((if (k == NameKind.free && env.scope.kind == .function && env.kindOf n == some .cell)=true then (n,NameKind.cell) else (n,k)) :: _)=_\/List.lookup y ((if (k == NameKind.free && env.scope.kind == .function && env.kindOf n == some .cell)=true then (n,NameKind.cell) else (n,k)) :: _)=_
  cases hx:y == n with
  |true=>
   simp only [List.lookup_cons,hx] at h
   cases h
   by_cases hc:(NameKind.free == NameKind.free && env.scope.kind == .function && env.kindOf n == some .cell)=true
   ·rw [if_pos hc];simp [List.lookup_cons,hx]
   ·rw [if_neg hc];simp [List.lookup_cons,hx]
  |false=>
   simp only [List.lookup_cons,hx] at h
   by_cases hc:(k == NameKind.free && env.scope.kind == .function && env.kindOf n == some .cell)=true
   ·rw [if_pos hc];simp only [List.lookup_cons,hx];exact ih h
   ·rw [if_neg hc];simp only [List.lookup_cons,hx];exact ih h
structure Blk (X:Cx)(scope:Scope)(N:List Str)(ix:List (Option Nat)):Prop where
 kind:scope.kind=.function
 nocell:∀ y∈scope.names,y.2≠.cell
 names:∀ y∈scope.names,y.2=.local->scope.names.lookup y.1=some .local
 free:∀ y∈scope.names,y.2=.free->X.env.kindOf y.1=some .cell\/X.env.kindOf y.1=some .free
 nd:N.Nodup
 len:ix.length=N.length
 slots:∀ (j i:Nat) (y:Str),ix[j]? = some (some i)->N[j]? = some y->X.N[i]? = some y/\scope.names.lookup y=some .free
def Qax (ix:List (Option Nat))(σ:St):St:=ix.map fun o=>o.bind fun i=>(σ[i]?).join
def Cx.blk (X:Cx)(scope:Scope)(N:List Str)(pins:List (Addr × Obj))(C:Addr)(s:Shared)(H:Hp)(ex:List Addr):Cx:=
 { X with N:=N,s₀:=s,H₀:=H,env:=compEnvC scope (Qc3 X.env.cells scope.names) C X.env,outer:=X.stack,stack:=X.stack,ex:=ex,fn:=fun _=>false,pn:=X.pn++pins,xe:=fun _ _=>False }
def PIf (X:Cx)(ifs:List Expr)(t:TT):Prop:=
 ∀ (pins:List (Addr × Obj)) (s:Shared) (σ:St) (H:Hp) (Q:Bool->Hp->Prop),Inv X pins σ H s->t σ H Q->
  wpAny (model X.prog X.w) X.A (forIn ifs true fun c r=>if r=true then do let ok ← isTrue c X.env (eval c X.env);pure (ForInStep.yield ok) else pure (ForInStep.yield r)) (TP X pins σ Q) X.xe s
def Quu:TT:=fun _ H Q=>Q true H
theorem QpK {X:Cx}:PIf X [] Quu:=fun pins s σ H Q I h=>wpAny_tests_nil ⟨H,I,h⟩
theorem Qor {X:Cx}{c:Expr}{t:TT}(h:PT X c t):PIf X [c] t:=fun pins s σ H Q I q=>wpAny_tests_one (h pins s σ H Q I q)
theorem Qbj {prog:Program}{w:World}{A:Around}{R:Result->Shared->Prop}{s:Shared}{elt target iter:Expr}{ifs:List Expr}{scope:Scope}{pos:Pos}{it acc:Value}{env:Env}(I:Nat->Shared->Prop)
  (turn:∀ n s,I n s->wpAny (model prog w) A (pyNext it) (fun r s₁=>match r with
   |none=>R (.ok .next) s₁
   |some v=>wpAny (model prog w) A (letOwnedTupleGo target it v) (fun _ s₀=>wpAny (model prog w) A (assign target env v) (fun _ s₂=>
     wpAny (model prog w) A (forIn ifs true fun c r=>if r=true then do let ok ← isTrue c env (eval c env);pure (ForInStep.yield ok) else pure (ForInStep.yield r)) (fun ok s₃=>
      if ok=true then wpAny (model prog w) A (eval elt env) (fun x s₄=>
       wpAny (model prog w) A (call (.builtin "list.append") [acc,x]) (fun _ s₅=>∃ m,m<n/\I m s₅) (fun _ _=>False) s₄) (fun _ _=>False) s₃
      else ∃ m,m<n/\I m s₃) (fun _ _=>False) s₂) (fun _ _=>False) s₀) (fun _ _=>False) s₁) (fun _ _=>False) s)
  (n:Nat) (h:I n s) :
  codeAny (model prog w) A (.compLoop (.ListComp elt [⟨target,iter,ifs,0⟩] scope pos) 0 it acc env) R s:=by
 refine codeAny_loop rfl I (fun n s hI=>?_) n h
 show wpAny _ A ((compTurn (.ListComp elt [⟨target,iter,ifs,0⟩] scope pos) 0 it acc env).onRaise (fun x=>do noteFrame x env;theTreesLotGoes x)) _ _ s
 refine wpAny_noted ?_
 rw [compTurn_list]
 refine wpAny_bind (wpAny_standAt (wpAny_bind (wpAny_mono (turn n s hI) (fun r s₁ h₁=>?_) fun _ _ h'=>h'.elim)))
 cases r with
 |none=>exact wpAny_pure h₁
 |some v=>
  refine wpAny_bind (wpAny_mono h₁ (fun _ s₀ h₀=>?_) fun _ _ h'=>h'.elim)
  refine wpAny_bind (wpAny_mono h₀ (fun _ s₂ h₂=>wpAny_bind (wpAny_mono h₂ (fun ok s₃ h₃=>?_) fun _ _ h'=>h'.elim)) fun _ _ h'=>h'.elim)
  cases ok with
  |false=>exact wpAny_pure ⟨rfl,h₃⟩
  |true=>
   exact wpAny_bind (wpAny_bind (wpAny_mono h₃ (fun x s₄ h₄=>wpAny_bind (wpAny_mono h₄ (fun _ s₅ h₅=>wpAny_pure (wpAny_pure ⟨rfl,h₅⟩)) fun _ _ h'=>h'.elim)) fun _ _ h'=>h'.elim))
theorem HOk.track {P:Program}{w:World}{H:Hp}{h:Heap}{a:Addr}{o:HO}(x:HOk P w H h)(hn:H a=none)(new:ObjOk P w (upd H a o) h a o):HOk P w (upd H a o) h:=fun b u e=>by
 by_cases hb:b=a
 ·subst hb;rw [Qap] at e;cases e;exact new
 ·rw [Qag hb] at e
  exact (x b u e).stay (fun c v _ q=>q) (fun c q=>by rw [Qag (Qao q hn)];exact q) fun c xs q=>by rw [Qag (Qao q hn)];exact q
theorem HOk.but {P:Program}{w:World}{H:Hp}{h h':Heap}{a:Addr}(x:HOk P w H h)(hn:H a=none)(sb:Heap.SameBut a h h'):HOk P w H h':=fun b u e=>by
 refine (x b u e).stay (fun c v hc q=>(sb.2 c ?_).trans q) (fun _ q=>q) fun _ _ q=>q
 rintro rfl
 rcases hc with rfl | hc
 ·rw [hn] at e;cases e
 ·rw [hn] at hc;cases hc
def QpC (wi:TI)(ix:List (Option Nat))(j:Nat)(tc:TT)(te:TE):TE:=fun σ H Q=>wi σ H fun J H1=>∃ W:Nat->Nat->List V->Hp->Prop,(∃ m,W 0 m [] H1)/\∀ i m ys H,W i m ys H->
 (J.stop i H/\∀ D,H D=none->Q (.ref D) (upd H D (.lst ys)))\/
 (J.go i H/\∃ N:List V->Hp->Prop,(∀ ys' H',N ys' H'->∃ m',m' < m/\W (i+1) m' ys' H')/\∀ x H',J.yld i H x H'->
  tc ((Qax ix σ).set j (some x)) H' fun c H2=>if c=true then te ((Qax ix σ).set j (some x)) H2 fun y H3=>ys.length<sizeLine/\N (ys++[y]) H3 else N ys H2)
theorem QoG {X:Cx}{elt iter:Expr}{x:Str}{px pos:Pos}{ifs:List Expr}{scope:Scope}{N:List Str}{ix:List (Option Nat)}{j:Nat}{wi:TI}{tc:TT}{te:TE}
  (hc:X.calm=true) (B:Blk X scope N ix) (hj:N[j]? = some x) (hix:ix[j]? = some none) (hx:scope.names.lookup x=some .local) (hi:PI X (.Name x px) iter wi)
  (ht:∀ pins C s H ex,PIf (X.blk scope N pins C s H ex) ifs tc) (he:∀ pins C s H ex,PE (X.blk scope N pins C s H ex) elt te)
  (hs:∀ x,foldedSetIterable iter X.env x=pure x:=by intro _;rfl):PE X (.ListComp elt [⟨.Name x px,iter,ifs,0⟩] scope pos) (QpC wi ix j tc te):=by
 intro pins s σ H Q I h
 rw [eval_ListComp]
 have hcl:∀ y∈scope.names,y.2=.free->∃ c,X.env.cells.lookup y.1=some c:=fun y hy hf=>I.ok.has y.1 (B.free y hy hf)
 refine wpAny_comprehension_free (use:=none) (cl:=Qc3 X.env.cells scope.names) rfl hs (Qd0 hcl) B.kind B.names ?_
 refine thn (hi pins s σ H _ I h) fun v s1 h1=>thn h1 fun itv s2 h2=>?_
 obtain ⟨it,fp,tn,J,H2,e,I2,T,st2,f2,W,⟨m0,w0⟩,turn⟩:=h2
 subst e
 refine wpAny_newObj_type (wpAny_newFunctionEnv B.nocell (by intro y hy;simp at hy) (fun h₁ hns₁ hsb₁=>?_) B.kind)
 dsimp only at hns₁ hsb₁ ⊢
 generalize hHp:s2.heap.push { cls:=.type "list",dict:=none,data:=.seq ([]:List Value).toArray }=Hq at hns₁ hsb₁ ⊢
 generalize hD:s2.heap.objs.size=D at hns₁ hsb₁ ⊢
 generalize hCq:Hq.objs.size=C at hns₁ hsb₁ ⊢
 have hC:C=D+1:=by rw [← hCq,← hHp,Heap.size_push,hD]
 have hDC:D≠C:=by omega
 have below:∀ b o,s2.heap.get? b=some o->b≠C/\b≠D:=fun b o e=>by
  have h1:b<D:=by rw [← hD];exact Heap.lt_size e
  exact ⟨Nat.ne_of_lt (Nat.lt_of_lt_of_le h1 (by rw [hC];exact Nat.le_succ D)),Nat.ne_of_lt h1⟩
 have old:∀ b o,s2.heap.get? b=some o->h₁.get? b=some o:=fun b o e=>hsb₁.extBut b o (below b o e).1 (Heap.get?_push_of_some _ (hHp▸Heap.get?_push_of_some _ e))
 have hDobj:h₁.get? D=some { cls:=.type "list",data:=.seq ([]:List Value).toArray }:=
  hsb₁.extBut _ _ hDC (Heap.get?_push_of_some _ (hHp▸hD▸Heap.get?_push_size _ rfl))
 have H2D:H2 D=none:=I2.hok.fresh (by rw [hD];exact Nat.le_refl _)
 have H2C:H2 C=none:=I2.hok.fresh (by rw [hD];omega)
 have clM:∀ y c,(Qc3 X.env.cells scope.names).lookup y=some c->X.env.cells.lookup y=some c:=fun y c e=>Qdk scope.names [] hcl (fun p hp=>nomatch hp) (y,c) (PySem.mem_of_lookup e)
 have fpLt:∀ b∈fp,∃ o,s2.heap.get? b=some o:=fun b hb=>let ⟨o,e,_⟩:=T.obj 0 _ st2 b hb;⟨o,e⟩
 have pinLt:∀ p∈X.pn++pins,s2.heap.get? p.1=some p.2:=fun p hp=>(I2.pin p hp).1
 have cellLt:∀ y c,X.env.cells.lookup y=some c->∃ o,s2.heap.get? c=some o:=fun y c e=>let ⟨v,o,ho,_⟩:=I2.cell y c e;⟨o,ho⟩
 let Xb:Cx:=X.blk scope N pins C s2 H2 fp
 have okb:Xb.Ok:=by
  refine ⟨I2.ok.mod,B.kind,I2.ok.glob,I2.ok.blt,?_,fun y z c e1 e2=>I2.ok.inj y z c (clM y c e1) (clM z c e2),fun y hy=>?_,fun y c hf _=>?_,I2.ok.hd,I2.ok.frames,.inl rfl,fun b hb=>?_,I2.bs,Nat.le_trans I2.ok.bsz I2.sz,fun b o e hb=>?_,fun b hb hf=>?_,I2.stack,I2.stkFree⟩
  ·show s2.heap.objs.size<=C
   rw [hD];omega
  ·have hy':(y,NameKind.free)∈scope.names:=by
    rcases hy with hy | hy
    ·exact Qa7 (env:=X.env) B.nocell (show (relabel scope X.env).names.lookup y=some .cell from hy) (.inl rfl)
    ·exact Qa7 (env:=X.env) B.nocell (show (relabel scope X.env).names.lookup y=some .free from hy) (.inr rfl)
   exact QbA (QbC scope.names [] (.inl hy'))
  ·exact absurd (show false=true from hf) Bool.false_ne_true
  ·obtain ⟨o,e⟩:=fpLt b hb
   refine ⟨(below b o e).1,fun y c hy=>?_⟩
   exact (f2 b hb).2.2.2.2.1 y c (clM y c hy)
  ·rcases (f2 b hb).2.2.2.1 with z | z
   ·exact I2.ok.noex b o e z
   ·exact absurd (Nat.lt_of_lt_of_le (Heap.lt_size e) (Nat.le_trans I2.ok.bsz z)) (Nat.lt_irrefl _)
  ·rcases List.mem_cons.mp (I2.stkSub b hf) with z | z
   ·exact (f2 b hb).2.1 z
   ·exact (f2 b hb).2.2.1 z
 have σlen:(Qax ix σ).length=N.length:=by unfold Qax;rw [List.length_map];exact B.len
 have σj:(Qax ix σ)[j]? = some none:=by unfold Qax;rw [List.getElem?_map,hix];rfl
 have pinFs:∀ p∈X.pn++pins,p.1∉frs X.stack:=fun p hp z=>by
  obtain ⟨_,_,n1,n2,_⟩:=I2.pin p hp
  exact (List.mem_cons.mp (I2.stkSub p.1 z)).elim n1 n2
 have DFs:D∉frs X.stack:=fun z=>by
  rcases List.mem_cons.mp (I2.stkSub D z) with q | q
  ·have h3:=I2.lt
   rw [hD,← q] at h3
   exact absurd h3 (Nat.lt_irrefl _)
  ·exact I2.nofs (by rw [hD];exact Nat.le_refl _) q
 -- at the block's start
 have Ib:Inv Xb [(D,{ cls:=.type "list",data:=.seq ([]:List Value).toArray })] (Qax ix σ) H2 { s2 with heap:=h₁,toks:=s2.toks+([]:List (Str × Value)).length }:=by
  refine ⟨okb,rfl,I2.bare,Un.kept old,⟨_,hns₁,fun a y v e1 e2 e3=>?_⟩,fun y c e=>?_,H2C,fun y c e=>I2.freeC y c (clM y c e),fun p hp=>?_,I2.hok.kept old,σlen⟩
  ·unfold Qax at e2
   rw [List.getElem?_map] at e2
   cases q:ix[a]? with
   |none=>rw [q] at e2;cases e2
   |some o=>
    rw [q] at e2
    cases o with
    |none=>cases e2
    |some i=>
     have e2':(σ[i]?).join=some v:=Option.some.inj e2
     have e2'':σ[i]? = some (some v):=by
      cases r:σ[i]? with
      |none=>rw [r] at e2';cases e2'
      |some t=>rw [r] at e2';exact congrArg some e2'
     obtain ⟨n1,n2'⟩:=B.slots a i y q e1
     have n2:(y,NameKind.free)∈scope.names:=PySem.mem_of_lookup n2'
     have kf:=B.free _ n2 rfl
     obtain ⟨m,_,hl⟩:=I2.loc
     obtain ⟨u,r,l⟩:=hl i y v n1 e2'' (kf.elim (fun z=>.inr (.inl z)) fun z=>.inr (.inr z))
     refine ⟨u,r,?_⟩
     rcases l with ⟨l,_⟩ | ⟨_,c,hc1,hc2⟩
     ·rcases kf with z | z<;>(rw [show X.env.kindOf y=some .local from l] at z;cases z)
     ·obtain ⟨c',hc'⟩:=QbA (QbC (cells:=X.env.cells) scope.names [] (.inl n2))
      have:c'=c:=Option.some.inj ((clM y c' hc').symm.trans hc1)
      subst this
      have kb:(relabel scope X.env).names.lookup y=some .cell\/(relabel scope X.env).names.lookup y=some .free:=Qbq n2'
      obtain ⟨oc,hoc,hcd⟩:=hc2
      exact .inr ⟨kb,c',hc',oc,old _ _ hoc,hcd⟩
  ·obtain ⟨v,oc,hoc,hcd⟩:=I2.cell y c (clM y c e)
   exact ⟨v,oc,old _ _ hoc,hcd⟩
  ·rcases List.mem_append.mp hp with hp | hp
   ·obtain ⟨p1,p2,p3,p4,p5⟩:=I2.pin p hp
    exact ⟨old _ _ p1,p2,(below _ _ p1).1,pinFs p hp,p5⟩
   ·have e:p=(D,{ cls:=.type "list",data:=.seq ([]:List Value).toArray }):=by simpa using hp
    subst e
    exact ⟨hDobj,H2D,hDC,DFs,fun v z=>nomatch z⟩
 have stat:∀ {H':Hp} {ob:Obj},(∀ b∈fp,H' b=none)->∀ b∈fp,QjR Xb [(D,ob)] H' b:=fun {H' ob} hn b hb=>by
  obtain ⟨o,e⟩:=fpLt b hb
  refine ⟨hn b hb,(below b o e).1,okb.exfs b hb,.inl hb,fun y c hy=>(f2 b hb).2.2.2.2.1 y c (clM y c hy),fun p hp z=>?_⟩
  rcases List.mem_append.mp hp with hp | hp
  ·exact (f2 b hb).2.2.2.2.2 p hp z
  ·have q:p=(D,ob):=by simpa using hp
   subst q
   exact (below b o e).2 z.symm
 have loop:codeAny (model X.prog X.w) X.A (.compLoop (.ListComp elt [⟨.Name x px,iter,ifs,0⟩] scope pos) 0 (.ref it) (.ref D) (compEnvC scope (Qc3 X.env.cells scope.names) C X.env))
   (compPost (model X.prog X.w) X.A X.xe none (EP X pins σ Q) (.ref D) C) { s2 with heap:=h₁,toks:=s2.toks+([]:List (Str × Value)).length }:=by
  refine Qbj (fun n s'=>∃ i ys H' its k,Inv Xb [(D,{ cls:=.type "list",data:=.seq (List.toArray its) k })] (Qax ix σ) H' s'/\tn i s'.heap/\(∀ b∈fp,H' b=none)/\Vals ys its/\ys.length<=sizeLine/\W i n ys H') ?_ m0
   ⟨0,[],H2,[],_,Ib,T.keep _ _ _ st2 fun b _ o e=>old b o e,fun b hb=>(f2 b hb).1,.nil,Nat.zero_le _,w0⟩
  rintro n s3 ⟨i,ys,H3,its,k,I3,st3,fr3,hv3,hz3,w3⟩
  rcases turn i n ys H3 w3 with ⟨stop,qn⟩ | ⟨go,N',hN,step⟩
  ·refine thn (T.done Xb rfl rfl rfl hc i _ s3 _ H3 (fun _ _=>False) I3 (stat fr3) st3 stop) fun r s4 ⟨hr,I4⟩=>?_
   subst hr
   obtain ⟨m,hn,_⟩:=I4.loc
   have hp4:=I4.pin (D,{ cls:=.type "list",data:=.seq its.toArray k }) (by simp)
   obtain ⟨gD,nD,_,_,_⟩:=hp4
   refine ⟨m,hn,fun h' sb=>⟨.ref D,upd H3 D (.lst ys),?_,rfl,qn D nD⟩⟩
   have n3C:H3 C=none:=I4.free
   have un4:Un (frs X.stack) fp H2 H3 s2.heap s4.heap:=I4.base
   have gD':h'.get? D=some { cls:=.type "list",data:=.seq its.toArray k }:=(sb.2 D hDC).trans gD
   have up:∀ b o,s2.heap.get? b=some o->h'.get? b=s4.heap.get? b:=fun b o e=>sb.2 b (below b o e).1
   refine I2.call' (ch:=fp) (s':={ s4 with heap:=h' }) I4.os ?_ ?_ I4.bare fun b hb=>⟨(f2 b hb).2.2.2.1,(f2 b hb).2.1,(f2 b hb).2.2.2.2.1,(f2 b hb).2.2.2.2.2⟩
   ·refine ⟨fun b o e n hb hx=>(up b o e).trans (un4.keep b o e n hb hx),fun b o e n hb hx=>?_,fun b o e n hx=>?_,fun b o e hx=>?_,fun b xs e=>?_,fun b o u e=>?_,fun b ps e=>?_⟩
    ·obtain ⟨sl,q⟩:=un4.slot b o e n hb hx
     exact ⟨sl,(up b o e).trans q⟩
    ·rw [Qag (below b o e).2];exact un4.free b o e n hx
    ·obtain ⟨o',q⟩:=un4.there b o e hx
     exact ⟨o',(up b o e).trans q⟩
    ·have q:=un4.tups b xs e
     rw [Qag (Qao q nD)];exact q
    ·have q:=un4.frzs b o u e
     rw [Qag (Qao q nD)];exact q
    ·obtain ⟨more,q⟩:=un4.tbls b ps e
     exact ⟨more,by rw [Qag (Qao q nD)];exact q⟩
   ·exact (HOk.but I4.hok n3C sb).track nD ⟨hz3,its,k,hv3,gD'⟩
  ·refine thn (T.item Xb rfl rfl rfl hc i _ s3 _ H3 (fun _ _=>False) I3 (stat fr3) st3 go) fun r s4 ⟨u,hr,h4⟩=>?_
   subst hr
   refine thn h4 fun _ s5 ⟨x5,H5,I5,r5,y5,st5,fr5⟩=>?_
   have I5':=I5.pinned (stat fr5) (T.obj _ _ st5)
   have hg:PG Xb (.Name x px) (Qdo j):=QaA (X:=Xb) (i:=j) B.nd hj (.inl (lookup_relabel_local hx)) (.inr (lookup_relabel_local hx))
   refine thn (hg _ s5 _ H5 x5 u (fun σ' H'=>σ'=(Qax ix σ).set j (some x5)/\H'=H5) I5' r5 ⟨rfl,rfl⟩) fun _ s6 ⟨σ6,H6,I6,e6,e6'⟩=>?_
   subst e6 e6'
   refine thn (ht pins C s2 H2 fp _ s6 _ _ _ I6 (step x5 _ y5)) fun ok s7 ⟨H7,I7,q7⟩=>?_
   have back:∀ {H8:Hp} {s8:Shared} {ob:Obj} {ys':List V} {its':List Value} {k':Nat},Inv Xb ([(D,ob)]++Qbs fp s5.heap) ((Qax ix σ).set j (some x5)) H8 s8->ob={ cls:=.type "list",data:=.seq its'.toArray k' }->Vals ys' its'->ys'.length<=sizeLine->N' ys' H8->
     ∃ m,m<n/\∃ i ys H' its k,Inv Xb [(D,{ cls:=.type "list",data:=.seq (List.toArray its) k })] (Qax ix σ) H' s8/\tn i s8.heap/\(∀ b∈fp,H' b=none)/\Vals ys its/\ys.length<=sizeLine/\W i m ys H':=fun {H8 s8 ob ys' its' k'} I8 eo hv8 hz8 n8=>by
    subst eo
    obtain ⟨m',hm,w8⟩:=hN ys' H8 n8
    refine ⟨m',hm,i+1,ys',H8,its',k',?_,T.keep _ _ _ st5 fun b hb o e=>(I8.pin (b,o) (List.mem_append_right _ (List.mem_append_right _ (Qbm hb e)))).1,fun b hb=>?_,hv8,hz8,w8⟩
    ·refine (I8.unpinned).weak (by rw [List.length_set]) fun a v e=>?_
     have na:j≠a:=fun z=>by rw [← z,σj] at e;cases e
     rw [List.getElem?_set_ne na];exact e
    ·obtain ⟨o,e,d⟩:=T.obj _ _ st5 b hb
     exact (I8.pin (b,o) (List.mem_append_right _ (List.mem_append_right _ (Qbm hb e)))).2.1
   cases ok with
   |false=>exact back I7 rfl hv3 hz3 q7
   |true=>
    have q7':te ((Qax ix σ).set j (some x5)) H7 fun y H3=>ys.length<sizeLine/\N' (ys++[y]) H3:=q7
    show wpAny _ _ (eval elt _) _ _ _
    refine thn (he pins C s2 H2 fp _ s7 _ H7 _ I7 q7') fun y8 s8 ⟨v8,H8,I8,r8,hz8,q8⟩=>?_
    have gD8:=(I8.pin (D,{ cls:=.type "list",data:=.seq its.toArray k }) (by simp)).1
    have nD8:=(I8.pin (D,{ cls:=.type "list",data:=.seq its.toArray k }) (by simp)).2.1
    have hl8:=hv3.length
    refine wpAny_list_append_plain (hsz:=by rw [List.size_toArray];omega) ⟨k,gD8⟩ fun h9 pl9 sb9=>?_
    obtain ⟨k9,g9⟩:=pl9
    have g9':h9.get? D=some { cls:=.type "list",data:=.seq (its++[y8]).toArray k9 }:=by rw [g9];simp
    have pinsP:∀ p∈Qbs fp s5.heap,p.1≠D:=fun p hp z=>by
     obtain ⟨hb,_⟩:=QdT hp
     obtain ⟨o,e⟩:=fpLt p.1 hb
     exact (below _ o e).2 z
    have I8':Inv Xb (Qbs fp s5.heap) ((Qax ix σ).set j (some x5)) H8 s8:=I8.pins_of fun p hp=>I8.pin p (List.mem_append_right _ (List.mem_append_right _ hp))
    have I9:Inv Xb (Qbs fp s5.heap) ((Qax ix σ).set j (some x5)) H8 { s8 with heap:=h9 }:=I8'.turned (t':=s8.toks) (fun b o hb e=>(sb9.2 b hb).trans e) nD8 hDC (.inr (by show s2.heap.objs.size<=D;rw [hD];exact Nat.le_refl _))
     (fun y c hy z=>by obtain ⟨o,e⟩:=cellLt y c (clM y c hy);exact (below c o e).2 z)
     (fun p hp z=>by
      rcases List.mem_append.mp hp with hp | hp
      ·exact (below _ _ (pinLt p hp)).2 z
      ·exact pinsP p hp z)
    have I10:Inv Xb ([(D,{ cls:=.type "list",data:=.seq (its++[y8]).toArray k9 })]++Qbs fp s5.heap) ((Qax ix σ).set j (some x5)) H8 { s8 with heap:=h9 }:=I9.pins_of fun p hp=>by
     rcases List.mem_append.mp hp with hp | hp
     ·have q:p=(D,{ cls:=.type "list",data:=.seq (its++[y8]).toArray k9 }):=by simpa using hp
      subst q
      exact ⟨g9',nD8,hDC,DFs,fun v z=>nomatch z⟩
     ·exact I9.pin p (List.mem_append_right _ hp)
    exact back I10 rfl (hv3.append (.cons r8 .nil)) (by rw [List.length_append,List.length_singleton];omega) q8
 exact codeAny_compStart_list loop (T.self _ 0 _ _ _ (T.keep _ _ _ st2 fun b _ o e=>old b o e) loop)
section
variable {X:Cx}
def Qgn (i j:Int):Prop:=0<j/\j<115792089237316195423570985008687907853269984665640564039457584007913129639936
theorem Qml {j:Int}(h:Qgn 0 j):j.natAbs.log2<9000:=by
 have h1:(0:Int)<j:=h.1
 have h2:j<115792089237316195423570985008687907853269984665640564039457584007913129639936:=h.2
 have e:(2:Nat) ^ 256=115792089237316195423570985008687907853269984665640564039457584007913129639936:=by decide
 have h3:j.natAbs<2 ^ 256:=by rw [e];omega
 have h4:j.natAbs.log2<256:=(Nat.log2_lt (by omega)).mpr h3
 omega
theorem QfO:OpR X (binaryOp .FloorDiv) (rI Qgn fun i j=>.int (i / j)):=opI fun i j _ _ _ _ _ hc q=>by
 have h1:(0:Int)<j:=hc.1
 exact floordiv_int (by omega) (by rw [Int.fdiv_eq_ediv_of_nonneg i (by omega)];exact q) (.inl (PyProof.noPylong_of_log2 (Qml ⟨hc.1,hc.2⟩)))
theorem Qfi {pins:List (Addr × Obj)}{σ:St}{H:Hp}{s:Shared}{x:V}{u t:Value}(I:Inv X pins σ H s)(rx:RelV x u)(ty:QjS X.K H x t) :
  ∃ Z:Heap->Prop,PySem.W.KitX X.K u t Z/\Z s.heap/\u≠.builtin "__main__.__loader__#opaque" := by
 cases ty with
 |non=>cases (show u=Value.none from rx);exact ⟨_,PySem.W.kitx_none,True.intro,fun z=>nomatch z⟩
 |bl y=>cases (show u=Value.bool y from rx);exact ⟨_,PySem.W.kitx_bool,True.intro,fun z=>nomatch z⟩
 |int i=>obtain ⟨t,q⟩:=(show ∃ t,u=Value.int i t from rx);cases q;exact ⟨_,PySem.W.kitx_int,True.intro,fun z=>nomatch z⟩
 |str y=>obtain ⟨t,q⟩:=(show ∃ t,u=Value.str y t from rx);cases q;exact ⟨_,PySem.W.kitx_str,True.intro,fun z=>nomatch z⟩
 |flt y=>obtain ⟨t,q⟩:=(show ∃ t,u=Value.float y t from rx);cases q;exact ⟨_,PySem.W.kitx_float,True.intro,fun z=>nomatch z⟩
 | @lst a xs ea=>
  cases (show u=Value.ref a from rx)
  obtain ⟨_,_,n,_,h1⟩:=(show ObjOk X.prog X.w H s.heap a (.lst xs) from I.hok a _ ea)
  exact ⟨_,PySem.W.kitx_list,⟨_,h1,rfl⟩,fun z=>nomatch z⟩
 | @frz a ob xs ea=>
  cases (show u=Value.ref a from rx)
  obtain ⟨_,_,_,n,_,h1⟩:=(show ObjOk X.prog X.w H s.heap a (.frz ob (.lst xs)) from I.hok a _ ea)
  exact ⟨_,PySem.W.kitx_list,⟨_,h1,rfl⟩,fun z=>nomatch z⟩
 | @tup a xs ea=>
  cases (show u=Value.ref a from rx)
  obtain ⟨_,_,_,p⟩:=(show ObjOk X.prog X.w H s.heap a (.tup xs) from I.hok a _ ea)
  obtain ⟨o,h1,h2,_⟩:=p
  exact ⟨_,PySem.W.kitx_tuple,⟨o,h1,h2⟩,fun z=>nomatch z⟩
 | @dK a kvs ea=>
  cases (show u=Value.ref a from rx)
  obtain ⟨_,_,vs,_,p⟩:=(show ObjOk X.prog X.w H s.heap a (.dK kvs) from I.hok a _ ea)
  obtain ⟨o,es,ep,h1,h2,_⟩:=p
  exact ⟨_,PySem.W.kitx_dict,⟨o,h1,h2.1⟩,fun z=>nomatch z⟩
 | @dT a kvs ea=>
  cases (show u=Value.ref a from rx)
  obtain ⟨_,_,xs,_,o,es,ep,h1,h2,_⟩:=(show ObjOk X.prog X.w H s.heap a (.dT kvs) from I.hok a _ ea)
  exact ⟨_,PySem.W.kitx_dict,⟨o,h1,h2.1⟩,fun z=>nomatch z⟩
 | @ins a C dx fs ea cl ha hn htk hm=>
  cases (show u=Value.ref a from rx)
  obtain ⟨mA,O,_⟩:=QfH I.hok ea
  obtain ⟨od,J,_⟩:=O.look
  exact ⟨_,PySem.W.kitx_own (cl.get _) cl.hd ha hn htk hm,J,fun z=>nomatch z⟩
theorem Qj4:∀ {cs:List String} {us:List Value},Vals (cs.map V.ty) us->us=cs.map Value.type
 | [],_,.nil=>rfl
 |c :: cs,_,.cons r t=>by
  cases r
  rw [Qj4 t];rfl
theorem Paired.get {α β:Type}{F:α->β->Prop}:∀ {l:List α} {m:List β} {i:Nat} {a:α},Paired F l m->l[i]? = some a->∃ b,m[i]? = some b/\F a b
 |_,_,_,_,.nil,e=>by simp at e
 |_,_,0,_,.cons r _,e=>by simp at e;subst e;exact ⟨_,rfl,r⟩
 |_,_,i+1,x,.cons _ t,e=>by
  obtain ⟨u,h1,h2⟩:=Paired.get (i:=i) (a:=x) t (by simpa using e)
  exact ⟨u,by simpa using h1,h2⟩
end
theorem Blk.of {X:Cx}{scope:Scope}{N:List Str}{ix:List (Option Nat)}(kind:scope.kind=.function:=by rfl)
  (c1:(scope.names.all fun y=>y.2 != NameKind.cell)=true:=by rfl)
  (c2:(scope.names.all fun y=>y.2 != NameKind.local || scope.names.lookup y.1 == some NameKind.local)=true:=by rfl)
  (c3:(scope.names.all fun y=>y.2 != NameKind.free || (X.env.scope.names.lookup y.1 == some NameKind.cell || X.env.scope.names.lookup y.1 == some NameKind.free))=true:=by rfl)
  (nd:N.Nodup:=by decide +kernel) (len:ix.length=N.length:=by rfl)
  (c4:((List.zip ix N).all fun p=>match p.1 with | none=>true | some i=>X.N[i]? == some p.2 && scope.names.lookup p.2 == some NameKind.free)=true:=by rfl):Blk X scope N ix where
 kind:=kind
 nocell:=fun y hy e=>by
  have q:=List.all_eq_true.mp c1 y hy
  rw [e] at q
  exact absurd q (by decide)
 names:=fun y hy e=>by
  have q:=List.all_eq_true.mp c2 y hy
  rw [e] at q
  exact beq_iff_eq.mp (by simpa using q)
 free:=fun y hy e=>by
  have q:=List.all_eq_true.mp c3 y hy
  rw [e] at q
  have q':(X.env.scope.names.lookup y.1 == some NameKind.cell || X.env.scope.names.lookup y.1 == some NameKind.free)=true:=by simpa using q
  rcases Bool.or_eq_true_iff.mp q' with z | z
  ·exact .inl (beq_iff_eq.mp z)
  ·exact .inr (beq_iff_eq.mp z)
 nd:=nd
 len:=len
 slots:=fun j i y h1 h2=>by
  have hm:(some i,y)∈List.zip ix N:=by
   have e:(List.zip ix N)[j]? = some (some i,y):=by rw [List.getElem?_zip_eq_some];exact ⟨h1,h2⟩
   exact List.mem_of_getElem? e
  have q:=List.all_eq_true.mp c4 _ hm
  have q':(X.N[i]? == some y && scope.names.lookup y == some NameKind.free)=true:=q
  obtain ⟨z1,z2⟩:=Bool.and_eq_true_iff.mp q'
  exact ⟨beq_iff_eq.mp z1,beq_iff_eq.mp z2⟩
def SqB (kd:Bool)(K:PySem.W.Frag)(H:Hp)(a:Addr)(xs:List V):Prop:=match kd with
 |true=>SqL K H a xs
 |false=>SqT K H a xs
def Itb (kd:Bool)(K:PySem.W.Frag)(a:Addr):It:=match kd with
 |true=>Itl K a
 |false=>Itt K a
def Qup (K:PySem.W.Frag)(tl:TE):TI:=fun σ H R=>tl σ H fun x H1=>∃ a kd,x=.ref a/\(∃ xs,SqB kd K H1 a xs)/\R (Itb kd K a) H1
theorem QrX {X:Cx}{tg l:Expr}{tl:TE}(hl:PE X l tl):PI X tg l (Qup X.K tl):=by
 intro pins s σ H R I h
 refine thn (hl pins s σ H _ I h) fun v s1 ⟨x,H1,I1,r1,q1⟩=>?_
 obtain ⟨a,kd,e,⟨xs,hq⟩,q⟩:=q1
 subst e
 cases r1
 cases kd with
 |true=>
  obtain ⟨its,rv,p,hz⟩:=I1.list (show SqL X.K H1 a xs from hq)
  refine wpAny_pyIter_list p.isList ?_
  refine ⟨s1.heap.objs.size,[s1.heap.objs.size],_,_,H1,rfl,I1.kept (t':=s1.toks) fun b o e=>Heap.get?_push_of_some _ e,QkJ a _,⟨_,Heap.get?_push_size _ rfl,rfl,rfl⟩,fun b hb=>?_,q⟩
  have e:b=s1.heap.objs.size:=by simpa using hb
  subst e
  exact I1.fpOk (Nat.le_refl _) (I1.hok.fresh (Nat.le_refl _))
 |false=>
  obtain ⟨its,rv,p,hz⟩:=I1.tuple (show SqT X.K H1 a xs from hq)
  refine wpAny_pyIter_tuple (show s1.heap.IsTuple a its.toArray from p) ?_
  refine ⟨s1.heap.objs.size,[s1.heap.objs.size],_,_,H1,rfl,I1.kept (t':=s1.toks) fun b o e=>Heap.get?_push_of_some _ e,Qjh a _,⟨_,Heap.get?_push_size _ rfl,rfl,rfl⟩,fun b hb=>?_,q⟩
  have e:b=s1.heap.objs.size:=by simpa using hb
  subst e
  exact I1.fpOk (Nat.le_refl _) (I1.hok.fresh (Nat.le_refl _))
theorem Same.upd {H:Hp}{a:Addr}{o:HO}(h:H a=none):Same H (upd H a o):=fun b u e=>by rw [Qag (Qao e h)];exact e
structure ExcAt (s:Shared)(H:Hp)(h:Heap)(e:Addr)(cv:Value):Prop where
 new:s.heap.get? e=none
 free:H e=none
 tr:∃ oe vs a0 T oT ts,h.get? e=some oe/\oe.cls=cv/\vs[0]? = some a0/\oe.data=.fields vs/\vs[1]? = some (.ref T)/\T≠e/\s.heap.get? T=none/\H T=none/\h.get? T=some oT/\oT.data=.fields ts/\ts[3]? = some .none
def CXe (P:Program)(w:World):CXT:=fun outer H s E ev s'=>∃ e cv H',ev=.ref e/\s'.os=s.os/\AllBare s'.gens/\Un (frs outer) [] H H' s.heap s'.heap/\HOk P w H' s'.heap/\ExcAt s H' s'.heap e cv/\E cv none H'
structure IsDef (X:Cx):Prop where
 stk:X.stack=X.env :: X.outer
 fr:X.env.frame=some X.env.locals
 ex:X.ex=[]
section
variable {X:Cx}{pins:List (Addr × Obj)}{σ:St}{H:Hp}{s:Shared}
theorem Inv.frames (I:Inv X pins σ H s):∀ b∈frs X.stack,∃ o,s.heap.get? b=some o/\∀ vs,o.data≠.fields vs:=fun b hb=>(I.stack.mem hb).2
theorem Qoz {l:List Env}:∀ env∈l,∀ a,env.frame=some a->a∈frs l:=fun env he a hf=>List.mem_filterMap.mpr ⟨env,he,hf⟩
structure Qno (X:Cx)(extra:List Addr)(h h':Heap):Prop where
 keep:∀ b o,h.get? b=some o->b∉frs X.stack->b∉extra->h'.get? b=some o
 slot:∀ b o,h.get? b=some o->b∈frs X.stack->∃ sl,h'.get? b=some { o with slots:=sl }
theorem Inv.baseOf {h':Heap}{extra:List Addr}(I:Inv X pins σ H s)(hs:∀ b∈frs X.stack,b=X.env.locals\/b∈X.fs)(hx:∀ b∈extra,X.s₀.heap.get? b=none)(f:Qno X extra s.heap h')(hfs:∀ b∈X.fs,b∈frs X.stack) :
  Un X.fs X.ex X.H₀ H X.s₀.heap h':=by
 have nx:∀ b o,X.s₀.heap.get? b=some o->b∉extra:=fun b o e z=>by rw [hx b z] at e;cases e
 have nl:∀ b o,X.s₀.heap.get? b=some o->b∉X.fs->b∉frs X.stack:=fun b o e n z=>by
  rcases hs b z with q | q
  ·exact absurd (Nat.lt_of_lt_of_le (Heap.lt_size e) I.ok.above) (by rw [q];exact Nat.lt_irrefl _)
  ·exact n q
 refine ⟨fun b o e n hb hx'=>f.keep b o (I.base.keep b o e n hb hx') (nl b o e hb) (nx b o e),fun b o e n hb hx'=>?_,I.base.free,fun b o e hx'=>?_,I.base.tups,I.base.frzs,I.base.tbls⟩
 ·obtain ⟨sl,q⟩:=I.base.slot b o e n hb hx'
  obtain ⟨sl',q'⟩:=f.slot b _ q (hfs b hb)
  exact ⟨sl',q'⟩
 ·obtain ⟨o',q⟩:=I.base.there b o e hx'
  by_cases hb:b∈frs X.stack
  ·obtain ⟨sl,q'⟩:=f.slot b o' q hb
   exact ⟨_,q'⟩
  ·exact ⟨o',f.keep b o' q hb (nx b o e)⟩
theorem Inv.hokOf {h':Heap}{extra:List Addr}(I:Inv X pins σ H s)(hx:∀ b∈extra,H b=none)(f:Qno X extra s.heap h'):HOk X.prog X.w H h':=fun a o e=>by
 have exact':∀ b u,(∃ z,H b=some z)->s.heap.get? b=some u->h'.get? b=some u:=fun b u ⟨z,hz⟩ q=>f.keep b u q (fun m=>by rw [I.stkFree b m] at hz;cases hz) fun m=>by rw [hx b m] at hz;cases hz
 refine (I.hok a o e).stay (fun b u hb q=>exact' b u ?_ q) (fun _ q=>q) fun _ _ q=>q
 rcases hb with rfl | hb
 ·exact ⟨_,e⟩
 ·exact ⟨_,hb⟩
theorem IsDef.in_stack (d:IsDef X)(b:Addr)(hb:b∈frs X.stack):b=X.env.locals\/b∈X.fs:=by
 rw [d.stk] at hb
 unfold frs at hb
 rw [List.filterMap_cons,d.fr] at hb
 exact List.mem_cons.mp hb
theorem IsDef.fs_in (d:IsDef X)(b:Addr)(hb:b∈X.fs):b∈frs X.stack:=by
 rw [d.stk]
 unfold frs
 rw [List.filterMap_cons,d.fr]
 exact List.mem_cons_of_mem _ hb
def Qmz (X:Cx)(extra:List Addr)(h:Heap):Heap:=PySem.W.hideAll h (frs X.stack++extra)
theorem Qfm {extra:List Addr}{h:Heap}:(Qmz X extra h).StaysIn h:=fun b o e=>PySem.W.of_hideAll _ e
theorem QeQ {extra:List Addr}(I:Inv X pins σ H s):s.heap.FunFrames (Qmz X extra s.heap) X.stack:=PySem.W.funFrames_hide I.stack fun env he a hf=>List.mem_append_left _ (Qoz env he a hf)
theorem Qhc {extra:List Addr}{h:Heap}{b:Addr}(hb:b∈extra):(Qmz X extra h).get? b=none:=PySem.W.hideAll_none _ (List.mem_append_right _ hb)
theorem Ql0 {extra:List Addr}{h':Heap}(I:Inv X pins σ H s)(k:(Qmz X extra s.heap).StaysIn h')(u:s.heap.UpToSlots h'):Qno X extra s.heap h':=by
 refine ⟨fun b o e n1 n2=>k b o (PySem.W.hideAll_get _ e fun z=>(List.mem_append.mp z).elim n1 n2),fun b o e hb=>?_⟩
 obtain ⟨o',e',hd⟩:=I.frames b hb
 rw [e] at e';cases e'
 exact u b o e hd
theorem Inv.there {T:Addr}{o:HO}(I:Inv X pins σ H s)(q:H T=some o):∃ ob,s.heap.get? T=some ob:=by
 have z:=I.hok T o q
 cases o with
 |lst xs=>obtain ⟨_,_,_,_,e⟩:=z;exact ⟨_,e⟩
 |tup xs=>obtain ⟨_,_,_,ob,e,_⟩:=z;exact ⟨_,e⟩
 |dK kvs=>obtain ⟨_,_,_,_,ob,_,_,e,_⟩:=z;exact ⟨_,e⟩
 |dT kvs=>obtain ⟨_,_,_,_,ob,_,_,e,_⟩:=z;exact ⟨_,e⟩
 |set S n=>obtain ⟨ob,_,_,_,e,_⟩:=z;exact ⟨_,e⟩
 |ins C dx fs=>obtain ⟨_,_,_,e,_⟩:=z;exact ⟨_,e⟩
 |own y=>obtain ⟨_,e⟩:=z;exact ⟨_,e⟩
 |xd fs=>obtain ⟨_,⟨_,_,_,e,_⟩,_⟩:=z;exact ⟨_,e⟩
 |rng lo hi=>obtain ⟨_,_,_,e⟩:=z;exact ⟨_,e⟩
 |frz ob u=>obtain ⟨e,_⟩:=z;exact ⟨_,e⟩
 |tbl ps=>exact ⟨_,(show s.heap.get? T=some _ from z)⟩
 |met f y=>exact ⟨_,(show s.heap.get? T=some _ from z)⟩
 |ext φ=>obtain ⟨_,⟨_,e⟩,_⟩:=z;exact ⟨_,e⟩
theorem Inv.unheld {T:Addr}(I:Inv X pins σ H s)(h:s.heap.get? T=none):H T=none:=by
 cases q:H T with
 |none=>rfl
 |some o=>
  obtain ⟨ob,q'⟩:=I.there q
  rw [h] at q';cases q'
theorem QqH {extra:List Addr}{h':Heap}{T:Addr}{oT:Obj}{ts:Array Value}(I:Inv X pins σ H s)(hex:X.ex=[])(x1:∀ b∈extra,X.s₀.heap.get? b=none)(x2:∀ b∈extra,H b=none)(f:Qno X extra s.heap h')
  (hB:(Qmz X extra s.heap).get? T=none) (hT:h'.get? T=some oT) (hd:oT.data=.fields ts):X.s₀.heap.get? T=none/\H T=none:=by
 have nf:T∉frs X.stack:=fun z=>by
  obtain ⟨o,e,nd⟩:=I.frames T z
  obtain ⟨sl,q⟩:=f.slot T o e z
  rw [hT] at q;cases q
  exact nd ts hd
 have key:T∈extra\/s.heap.get? T=none:=by
  by_cases hm:T∈extra
  ·exact .inl hm
  ·refine .inr ?_
   cases e:s.heap.get? T with
   |none=>rfl
   |some o=>
    have q:(Qmz X extra s.heap).get? T=some o:=PySem.W.hideAll_get _ e fun z=>(List.mem_append.mp z).elim nf hm
    rw [hB] at q;cases q
 rcases key with m | e
 ·exact ⟨x1 T m,x2 T m⟩
 ·refine ⟨?_,?_⟩
  ·cases q:X.s₀.heap.get? T with
   |none=>rfl
   |some o=>
    obtain ⟨o',q'⟩:=I.base.there T o q (by rw [hex];simp)
    rw [e] at q';cases q'
  ·cases q:H T with
   |none=>rfl
   |some o=>
    obtain ⟨ob,q'⟩:=I.there q
    rw [e] at q';cases q'
theorem Qne {h':Heap}{extra:List Addr}{e:Addr}{cv:Value}{E:XK}(d:IsDef X)(I:Inv X pins σ H s)(x1:∀ b∈extra,X.s₀.heap.get? b=none)(x2:∀ b∈extra,H b=none)(f:Qno X extra s.heap h')(x:ExcAt X.s₀ H h' e cv)(k:E cv none H) :
  CXe X.prog X.w X.outer X.H₀ X.s₀ E (.ref e) { s with heap:=h' }:=by
 have u:=I.baseOf d.in_stack x1 f d.fs_in
 rw [d.ex] at u
 exact ⟨e,cv,H,rfl,I.os,I.bare,u,I.hokOf x2 f,x,k⟩
theorem Inv.old (I:Inv X pins σ H s)(hex:X.ex=[]){b:Addr}(h:s.heap.get? b=none):X.s₀.heap.get? b=none:=by
 cases q:X.s₀.heap.get? b with
 |none=>rfl
 |some o=>
  obtain ⟨o',q'⟩:=I.base.there b o q (by rw [hex];simp)
  rw [h] at q';cases q'
theorem Qqm {B h':Heap}{l:List Env}{e:Addr}{cv a0:Value}{extra:List Addr}(I:Inv X pins σ H s)(hex:X.ex=[])(x1:∀ b∈extra,X.s₀.heap.get? b=none)(x2:∀ b∈extra,H b=none)(f:Qno X extra s.heap h')
  (fl:Heap.FlyingW (Qmz X extra s.heap) l e cv a0 h') (e1:X.s₀.heap.get? e=none) (e2:H e=none):ExcAt X.s₀ H h' e cv:=by
 obtain ⟨_,_,_,oe,vs,T,oT,ts,he,⟨hc,h0⟩,hd,h1,hB,hTe,hT,hdT,h3⟩:=fl
 obtain ⟨n1,n2⟩:=QqH I hex x1 x2 f hB hT hdT
 exact ⟨e1,e2,oe,vs,a0,T,oT,ts,he,hc,h0,hd,h1,hTe,n1,n2,hT,hdT,h3⟩
theorem Qjj {h1:Heap}{e:Addr}{cv:Value}{args:List Value}{E:XK}{E1:Value->Shared->Prop}(d:IsDef X)(I:Inv X pins σ H s)(m:Heap.MadeExcOf s.heap h1 e cv args)(k:E cv none H) :
  wpAny (model X.prog X.w) X.A (leaving X.env (.ref e)) (fun _ s2=>CXe X.prog X.w X.outer X.H₀ X.s₀ E (.ref e) s2) E1 { s with heap:=h1 }:=by
 have fr:X.A.frames=some (X.env :: X.outer):=by rw [I.ok.frames,d.stk]
 have hl:s.heap.FunFrames (Qmz X [] s.heap) (X.env :: X.outer):=by rw [← d.stk];exact QeQ I
 refine wpAny_leaves_madeW (h:=s.heap) fr d.fr Qfm hl m fun h' t fl _ _ up=>?_
 have f:Qno X [] s.heap h':=Ql0 I fl.1 ((Heap.UpToSlots.of_keeps m.keeps).trans up)
 have no:∀ {Pr:Addr->Prop},∀ b∈([]:List Addr),Pr b:=fun b z=>absurd z (by simp)
 exact Qne (s:=s) (extra:=[]) d I no no f (Qqm (B:=s.heap) I d.ex no no f fl (I.old d.ex m.new) (I.unheld m.new)) k
theorem Qmm {e:Addr}{cv:Value}{E:XK}{E1:Value->Shared->Prop}(d:IsDef X)(I:Inv X pins σ H s)(x:ExcAt X.s₀ H s.heap e cv)(k:E cv none H) :
  wpAny (model X.prog X.w) X.A (leaving X.env (.ref e)) (fun _ s2=>CXe X.prog X.w X.outer X.H₀ X.s₀ E (.ref e) s2) E1 s:=by
 obtain ⟨e1,e2,oe,vs,a0,T,oT,ts,he,hc,h0,hd,h1,hTe,n1,n2,hT,hdT,h3⟩:=x
 have fr:X.A.frames=some (X.env :: X.outer):=by rw [I.ok.frames,d.stk]
 have x1:∀ b∈[e,T],X.s₀.heap.get? b=none:=fun b hb=>by
  rcases List.mem_cons.mp hb with rfl | hb
  ·exact e1
  ·rw [List.mem_singleton.mp hb];exact n1
 have x2:∀ b∈[e,T],H b=none:=fun b hb=>by
  rcases List.mem_cons.mp hb with rfl | hb
  ·exact e2
  ·rw [List.mem_singleton.mp hb];exact n2
 have fly:Heap.FlyingW (Qmz X [e,T] s.heap) (X.env :: X.outer) e cv a0 s.heap:=
  ⟨Qfm,Qhc (by simp),by rw [← d.stk];exact QeQ I,oe,vs,T,oT,ts,he,⟨hc,h0⟩,hd,h1,Qhc (by simp),hTe,hT,hdT,h3⟩
 refine wpAny_leaves_onW fr d.fr fly fun h' fl up=>?_
 have f:Qno X [e,T] s.heap h':=Ql0 I fl.1 up
 exact Qne (s:=s) d I x1 x2 f (Qqm (B:=s.heap) I d.ex x1 x2 f fl e1 e2) k
theorem Inv.raised {e:Value}{E:XK}{s':Shared}(I:Inv X pins σ H s)(h:CXe X.prog X.w X.stack H s E e s'):∃ ea cv H',e=.ref ea/\Inv X pins σ H' s'/\ExcAt s H' s'.heap ea cv/\E cv none H':=by
 obtain ⟨ea,cv,H',rfl,os,bare,un,hok,x,k⟩:=h
 exact ⟨ea,cv,H',rfl,I.call' (ch:=[]) os un hok bare (fun b z=>absurd z (by simp)),x,k⟩
theorem ExcAt.older {s':Shared}{h:Heap}{e:Addr}{cv:Value}(x:ExcAt s H h e cv)(k:∀ b,s.heap.get? b=none->s'.heap.get? b=none):ExcAt s' H h e cv:=by
 obtain ⟨e1,e2,oe,vs,a0,T,oT,ts,he,hc,h0,hd,h1,hTe,n1,n2,r⟩:=x
 exact ⟨k _ e1,e2,oe,vs,a0,T,oT,ts,he,hc,h0,hd,h1,hTe,k _ n1,n2,r⟩
end
section
variable {CX:CXT}{P:Program}{w:World}{K:PySem.W.Frag}{mg:Str->Option Value}{base:Heap}{N:List Str}{qual:Str}{scope:Scope}{f:Addr}{cd:Value}{A:Around}{outer:List Env}{s:Shared}{H:Hp}{E:XK}
theorem QiW:IsDef (Qd4 CX P w K mg base N qual scope f cd A outer s H E):=⟨rfl,rfl,rfl⟩
theorem Qts:Qst (CXe P w) (Qd4 (CXe P w) P w K mg base N qual scope f cd A outer s H E) E:=fun pins σ H1 s1 e s' I h=>by
 obtain ⟨ea,cv,H',rfl,I',x,k⟩:=I.raised h
 exact Qmm QiW I' (x.older fun b z=>I.old rfl z) k
theorem Qcw:PassesOwn (model P w) (A.deeper (envOfC qual scope s.heap.objs.size f cd)) (envOfC qual scope s.heap.objs.size f cd) (Qd4 (CXe P w) P w K mg base N qual scope f cd A outer s H E).xe:=PassesOwn.leaving
theorem Qlk {h:Heap}{C:Addr}{bmB:List Value}{newId:String}(X:K.In h)(q:PySem.W.excIn K C bmB newId=true) :
  ∃ bm N nm qn bs hdc sn sub ab col dd k0 k1 k2 k3 k5 mN,h.get? C=some (excClassObj nm qn C N bs bm hdc sn sub ab col dd k0 k1 k2 k3 k5 newId)/\h.Ns N mN/\mN "__init__" = none/\OwnTail h bmB bm:=by
 unfold PySem.W.excIn at q
 split at q
 ·next dd cd sl ho=>
  split at q
  ·next C' bm k0 k1 k2 k3 n k5 hm hs=>
   rw [Bool.and_eq_true,Bool.and_eq_true,Bool.and_eq_true,Bool.and_eq_true,Bool.and_eq_true] at q
   obtain ⟨⟨⟨⟨⟨q1,q2⟩,q3⟩,q4⟩,q5⟩,q6⟩:=q
   have r1:=beq_iff_eq.mp q1
   have r2:=beq_iff_eq.mp q2
   have r6:=beq_iff_eq.mp q6
   subst r1 r2
   obtain ⟨nm,bs,mro,ns,qn,hdc,sn,sub,ab,col,del⟩:=cd
   have r3:del=false:=by simpa using q3
   have r7:mro=.ref C' :: bm:=hm
   subst r3 r7
   obtain ⟨ls⟩:=sl
   have r8:ls=[k0,k1,k2,k3,some (.builtin n),k5]:=hs
   subst r8
   exact ⟨bm,ns,nm,qn,bs,hdc,sn,sub,ab,col,dd,k0,k1,k2,k3,k5,_,X _ _ ho,.of_isNs (PySem.W.isNs_of_in X q5),PySem.W.nsMap_none_of_in X q5 r6,PySem.W.tail_of_in X q4⟩
  ·cases q
 ·cases q
def Qrc (C:Addr)(E:XK)(ta:TA):TS:=fun _ σ H=>ta σ H fun vs H1=>vs.length<=sizeLine/\E (.ref C) none H1
abbrev bmV:List Value:=[.type "ValueError",.type "Exception",.type "BaseException",.type "object"]
theorem QmI {x:Str}{np cpos pos:Pos}{e:Expr}{es:List Expr}{ta:TA}{C:Addr}(hr:A.handled=none)(hx:PySem.W.excIn K C bmV "ValueError.__new__" = true)
  (hg:Gl (Qd4 (CXe P w) P w K mg base N qual scope f cd A outer s H E) x) (hm:mg x=some (.ref C)) (ha:PA (Qd4 (CXe P w) P w K mg base N qual scope f cd A outer s H E) (e :: es) ta)
  (hdb:(x == ("__debug__" : Str))=false:=by decide) (hs:starEach (e :: es) (Qd4 (CXe P w) P w K mg base N qual scope f cd A outer s H E).env=(false,eval e (Qd4 (CXe P w) P w K mg base N qual scope f cd A outer s H E).env) :: starEach es (Qd4 (CXe P w) P w K mg base N qual scope f cd A outer s H E).env:=by rfl)
  (hpl:(backTo cpos (starEach (e :: es) (Qd4 (CXe P w) P w K mg base N qual scope f cd A outer s H E).env)).any (·.1)=false:=by rfl) :
  PS (Qd4 (CXe P w) P w K mg base N qual scope f cd A outer s H E) (.Raise (some (.Call (.Name x np) (e :: es) [] cpos)) none pos) (Qrc C E ta):=by
 intro pins s1 σ H1 D I h
 obtain ⟨bm,N',nm,qn,bs,hdc,sn,sub,ab,col,dd,k0,k1,k2,k3,k5,mN,hC,hN,hni,TL⟩:=Qlk I.mod.kin hx
 have hb:bm.contains (.type "BaseException")=true:=TL.hasType (by decide +kernel)
 refine wpAny_Raise_call_subT (nm:=nm) (q:=qn) (N:=N') (bs:=bs) (hdct:=hdc) (sn:=sn) (sub:=sub) (ab:=ab) (col:=col) (dd:=dd) (k0:=k0) (k1:=k1) (k2:=k2) (k3:=k3) (k5:=k5) PySem.F.excBase_ValueError hb hr hpl hni (QfI I hg hm ⟨rfl,?_⟩ hdb)
 have hA:=ha cpos pins s1 σ H1 _ I h
 rw [hs] at hA ⊢
 refine Calls.evalArgs_plain (thn hA fun us s2 ⟨vs,H2,I2,r2,hz,k⟩=>?_)
 refine ⟨rfl,by rw [← r2.length];exact hz,I2.bk _ _ hC,hN.keeps I2.bk,TL.keeps I2.bk,fun h' ea m=>?_⟩
 exact Qjj QiW I2 m k
end
theorem Fun.okE {P:Program}{w:World}{K:PySem.W.Frag}{mg:Str->Option Value}{base:Heap}{x qual:Str}{st:Stmt}{f:Addr}{fd:FuncData}{N ps:List Str}{k:Nat}{sp:Sp}(F:Fun K x qual st f fd)(S:Qak N ps (Qac st))(len:∀ vs H Q E,sp vs H Q E->vs.length=ps.length)
  (hbody:∀ (cdv:Value) (A:Around) (outer:List Env) (s:Shared) (H:Hp) (vs:List V) (Q:VK) (E:XK),Room k (A.deeper (envOfC qual (Qac st) s.heap.objs.size f cdv))->A.handled=none->sp vs H Q E->
   ∃ t,PSs (Qd4 (CXe P w) P w K mg base N qual (Qac st) f cdv A outer s H E) (QcL st) t/\t { nx:=fun _ H'=>Q .non H',rt:=Q } (start N vs) H):FnOk P w K mg base (CXe P w) (k+1) f fd ps sp:=by
 obtain ⟨oc,od,kV,doc,pm,an,cdv,ct,osl,rfl,lk,hcd⟩:=F.ex
 exact Qp4 lk hcd S len fun A outer s H vs Q E hr hsp=>hbody cdv A outer s H vs Q E hr hr.hd hsp
theorem Ql4 {X:Cx}{elt iter:Expr}{x y:Str}{px py pos spos:Pos}{ifs:List Expr}{scope:Scope}{N:List Str}{ix:List (Option Nat)}{j i0:Nat}{wi:TI}{tc:TT}{te:TE}
  (hc:X.calm=true) (hXN:X.N.Nodup) (hi0:X.N[i0]? = some y) (hy:Loc X.env.scope y) (B:Blk X scope N ix) (hj:N[j]? = some x) (hix:ix[j]? = some none) (hx:scope.names.lookup x=some .local) (hi:PI X (.Name x px) iter wi)
  (ht:∀ pins C s H ex,PIf (X.blk scope N pins C s H ex) ifs tc) (he:∀ pins C s H ex,PE (X.blk scope N pins C s H ex) elt te)
  (hsw:swapsWith (.ListComp elt [⟨.Name x px,iter,ifs,0⟩] scope pos) (some (.Name y py)) spos.line X.env=pure true:=by rfl)
  (hf:X.fn y=true\/X.env.scope.names.lookup y=some .local:=by first | exact .inl rfl | exact .inr rfl | assumption)
  (hs:∀ x,foldedSetIterable iter X.env x=pure x:=by intro _;rfl):PS X (.Assign [.Name y py] (.ListComp elt [⟨.Name x px,iter,ifs,0⟩] scope pos) spos) (Qqo (QpC wi ix j tc te) (Qdo i0)):=by
 intro pins s σ H DD I h
 rw [exec_Assign_Name_used _ _ _ _ hsw]
 refine wpAny_bind (wpAny_standAt (wpAny_bind ?_))
 show wpAny _ X.A (do
  let _ ← comprehension (.ListComp elt [⟨.Name x px,iter,ifs,0⟩] scope pos) scope X.env _ (newList []) false (eval iter X.env) (some (assign (.Name y py) X.env))) _ _ s
 refine wpAny_bind (thn (Q:=fun _ s'=>SP X pins DD .next s') ?_ fun _ s' hq=>wpAny_pure (wpAny_pure hq))
 have hcl:∀ y∈scope.names,y.2=.free->∃ c,X.env.cells.lookup y.1=some c:=fun y hy hf=>I.ok.has y.1 (B.free y hy hf)
 refine wpAny_comprehension_free (use:=some (assign (.Name y py) X.env)) (cl:=Qc3 X.env.cells scope.names) rfl hs (Qd0 hcl) B.kind B.names ?_
 refine thn (hi pins s σ H _ I h) fun v s1 h1=>thn h1 fun itv s2 h2=>?_
 obtain ⟨it,fp,tn,J,H2,e,I2,T,st2,f2,W,⟨m0,w0⟩,turn⟩:=h2
 subst e
 refine wpAny_newObj_type (wpAny_newFunctionEnv B.nocell (by intro y hy;simp at hy) (fun h₁ hns₁ hsb₁=>?_) B.kind)
 dsimp only at hns₁ hsb₁ ⊢
 generalize hHp:s2.heap.push { cls:=.type "list",dict:=none,data:=.seq ([]:List Value).toArray }=Hq at hns₁ hsb₁ ⊢
 generalize hD:s2.heap.objs.size=D at hns₁ hsb₁ ⊢
 generalize hCq:Hq.objs.size=C at hns₁ hsb₁ ⊢
 have hC:C=D+1:=by rw [← hCq,← hHp,Heap.size_push,hD]
 have hDC:D≠C:=by omega
 have below:∀ b o,s2.heap.get? b=some o->b≠C/\b≠D:=fun b o e=>by
  have h1:b<D:=by rw [← hD];exact Heap.lt_size e
  exact ⟨Nat.ne_of_lt (Nat.lt_of_lt_of_le h1 (by rw [hC];exact Nat.le_succ D)),Nat.ne_of_lt h1⟩
 have old:∀ b o,s2.heap.get? b=some o->h₁.get? b=some o:=fun b o e=>hsb₁.extBut b o (below b o e).1 (Heap.get?_push_of_some _ (hHp▸Heap.get?_push_of_some _ e))
 have hDobj:h₁.get? D=some { cls:=.type "list",data:=.seq ([]:List Value).toArray }:=
  hsb₁.extBut _ _ hDC (Heap.get?_push_of_some _ (hHp▸hD▸Heap.get?_push_size _ rfl))
 have H2D:H2 D=none:=I2.hok.fresh (by rw [hD];exact Nat.le_refl _)
 have H2C:H2 C=none:=I2.hok.fresh (by rw [hD];omega)
 have clM:∀ y c,(Qc3 X.env.cells scope.names).lookup y=some c->X.env.cells.lookup y=some c:=fun y c e=>Qdk scope.names [] hcl (fun p hp=>nomatch hp) (y,c) (PySem.mem_of_lookup e)
 have fpLt:∀ b∈fp,∃ o,s2.heap.get? b=some o:=fun b hb=>let ⟨o,e,_⟩:=T.obj 0 _ st2 b hb;⟨o,e⟩
 have pinLt:∀ p∈X.pn++pins,s2.heap.get? p.1=some p.2:=fun p hp=>(I2.pin p hp).1
 have cellLt:∀ y c,X.env.cells.lookup y=some c->∃ o,s2.heap.get? c=some o:=fun y c e=>let ⟨v,o,ho,_⟩:=I2.cell y c e;⟨o,ho⟩
 let Xb:Cx:=X.blk scope N pins C s2 H2 fp
 have okb:Xb.Ok:=by
  refine ⟨I2.ok.mod,B.kind,I2.ok.glob,I2.ok.blt,?_,fun y z c e1 e2=>I2.ok.inj y z c (clM y c e1) (clM z c e2),fun y hy=>?_,fun y c hf _=>?_,I2.ok.hd,I2.ok.frames,.inl rfl,fun b hb=>?_,I2.bs,Nat.le_trans I2.ok.bsz I2.sz,fun b o e hb=>?_,fun b hb hf=>?_,I2.stack,I2.stkFree⟩
  ·show s2.heap.objs.size<=C
   rw [hD];omega
  ·have hy':(y,NameKind.free)∈scope.names:=by
    rcases hy with hy | hy
    ·exact Qa7 (env:=X.env) B.nocell (show (relabel scope X.env).names.lookup y=some .cell from hy) (.inl rfl)
    ·exact Qa7 (env:=X.env) B.nocell (show (relabel scope X.env).names.lookup y=some .free from hy) (.inr rfl)
   exact QbA (QbC scope.names [] (.inl hy'))
  ·exact absurd (show false=true from hf) Bool.false_ne_true
  ·obtain ⟨o,e⟩:=fpLt b hb
   refine ⟨(below b o e).1,fun y c hy=>?_⟩
   exact (f2 b hb).2.2.2.2.1 y c (clM y c hy)
  ·rcases (f2 b hb).2.2.2.1 with z | z
   ·exact I2.ok.noex b o e z
   ·exact absurd (Nat.lt_of_lt_of_le (Heap.lt_size e) (Nat.le_trans I2.ok.bsz z)) (Nat.lt_irrefl _)
  ·rcases List.mem_cons.mp (I2.stkSub b hf) with z | z
   ·exact (f2 b hb).2.1 z
   ·exact (f2 b hb).2.2.1 z
 have σlen:(Qax ix σ).length=N.length:=by unfold Qax;rw [List.length_map];exact B.len
 have σj:(Qax ix σ)[j]? = some none:=by unfold Qax;rw [List.getElem?_map,hix];rfl
 have pinFs:∀ p∈X.pn++pins,p.1∉frs X.stack:=fun p hp z=>by
  obtain ⟨_,_,n1,n2,_⟩:=I2.pin p hp
  exact (List.mem_cons.mp (I2.stkSub p.1 z)).elim n1 n2
 have DFs:D∉frs X.stack:=fun z=>by
  rcases List.mem_cons.mp (I2.stkSub D z) with q | q
  ·have h3:=I2.lt
   rw [hD,← q] at h3
   exact absurd h3 (Nat.lt_irrefl _)
  ·exact I2.nofs (by rw [hD];exact Nat.le_refl _) q
 -- at the block's start
 have Ib:Inv Xb [(D,{ cls:=.type "list",data:=.seq ([]:List Value).toArray })] (Qax ix σ) H2 { s2 with heap:=h₁,toks:=s2.toks+([]:List (Str × Value)).length }:=by
  refine ⟨okb,rfl,I2.bare,Un.kept old,⟨_,hns₁,fun a y v e1 e2 e3=>?_⟩,fun y c e=>?_,H2C,fun y c e=>I2.freeC y c (clM y c e),fun p hp=>?_,I2.hok.kept old,σlen⟩
  ·unfold Qax at e2
   rw [List.getElem?_map] at e2
   cases q:ix[a]? with
   |none=>rw [q] at e2;cases e2
   |some o=>
    rw [q] at e2
    cases o with
    |none=>cases e2
    |some i=>
     have e2':(σ[i]?).join=some v:=Option.some.inj e2
     have e2'':σ[i]? = some (some v):=by
      cases r:σ[i]? with
      |none=>rw [r] at e2';cases e2'
      |some t=>rw [r] at e2';exact congrArg some e2'
     obtain ⟨n1,n2'⟩:=B.slots a i y q e1
     have n2:(y,NameKind.free)∈scope.names:=PySem.mem_of_lookup n2'
     have kf:=B.free _ n2 rfl
     obtain ⟨m,_,hl⟩:=I2.loc
     obtain ⟨u,r,l⟩:=hl i y v n1 e2'' (kf.elim (fun z=>.inr (.inl z)) fun z=>.inr (.inr z))
     refine ⟨u,r,?_⟩
     rcases l with ⟨l,_⟩ | ⟨_,c,hc1,hc2⟩
     ·rcases kf with z | z<;>(rw [show X.env.kindOf y=some .local from l] at z;cases z)
     ·obtain ⟨c',hc'⟩:=QbA (QbC (cells:=X.env.cells) scope.names [] (.inl n2))
      have:c'=c:=Option.some.inj ((clM y c' hc').symm.trans hc1)
      subst this
      have kb:(relabel scope X.env).names.lookup y=some .cell\/(relabel scope X.env).names.lookup y=some .free:=Qbq n2'
      obtain ⟨oc,hoc,hcd⟩:=hc2
      exact .inr ⟨kb,c',hc',oc,old _ _ hoc,hcd⟩
  ·obtain ⟨v,oc,hoc,hcd⟩:=I2.cell y c (clM y c e)
   exact ⟨v,oc,old _ _ hoc,hcd⟩
  ·rcases List.mem_append.mp hp with hp | hp
   ·obtain ⟨p1,p2,p3,p4,p5⟩:=I2.pin p hp
    exact ⟨old _ _ p1,p2,(below _ _ p1).1,pinFs p hp,p5⟩
   ·have e:p=(D,{ cls:=.type "list",data:=.seq ([]:List Value).toArray }):=by simpa using hp
    subst e
    exact ⟨hDobj,H2D,hDC,DFs,fun v z=>nomatch z⟩
 have stat:∀ {H':Hp} {ob:Obj},(∀ b∈fp,H' b=none)->∀ b∈fp,QjR Xb [(D,ob)] H' b:=fun {H' ob} hn b hb=>by
  obtain ⟨o,e⟩:=fpLt b hb
  refine ⟨hn b hb,(below b o e).1,okb.exfs b hb,.inl hb,fun y c hy=>(f2 b hb).2.2.2.2.1 y c (clM y c hy),fun p hp z=>?_⟩
  rcases List.mem_append.mp hp with hp | hp
  ·exact (f2 b hb).2.2.2.2.2 p hp z
  ·have q:p=(D,ob):=by simpa using hp
   subst q
   exact (below b o e).2 z.symm
 have loop:codeAny (model X.prog X.w) X.A (.compLoop (.ListComp elt [⟨.Name x px,iter,ifs,0⟩] scope pos) 0 (.ref it) (.ref D) (compEnvC scope (Qc3 X.env.cells scope.names) C X.env))
   (compPost (model X.prog X.w) X.A X.xe (some (assign (.Name y py) X.env)) (fun _ s'=>SP X pins DD .next s') (.ref D) C) { s2 with heap:=h₁,toks:=s2.toks+([]:List (Str × Value)).length }:=by
  refine Qbj (fun n s'=>∃ i ys H' its k,Inv Xb [(D,{ cls:=.type "list",data:=.seq (List.toArray its) k })] (Qax ix σ) H' s'/\tn i s'.heap/\(∀ b∈fp,H' b=none)/\Vals ys its/\ys.length<=sizeLine/\W i n ys H') ?_ m0
   ⟨0,[],H2,[],_,Ib,T.keep _ _ _ st2 fun b _ o e=>old b o e,fun b hb=>(f2 b hb).1,.nil,Nat.zero_le _,w0⟩
  rintro n s3 ⟨i,ys,H3,its,k,I3,st3,fr3,hv3,hz3,w3⟩
  rcases turn i n ys H3 w3 with ⟨stop,qn⟩ | ⟨go,N',hN,step⟩
  ·refine thn (T.done Xb rfl rfl rfl hc i _ s3 _ H3 (fun _ _=>False) I3 (stat fr3) st3 stop) fun r s4 ⟨hr,I4⟩=>?_
   subst hr
   obtain ⟨m,hn,_⟩:=I4.loc
   have hp4:=I4.pin (D,{ cls:=.type "list",data:=.seq its.toArray k }) (by simp)
   obtain ⟨gD,nD,_,_,_⟩:=hp4
   have all:∀ h',Heap.SameBut C s4.heap h'->Inv X pins σ (upd H3 D (.lst ys)) { s4 with heap:=h' }:=fun h' sb=>by
    have n3C:H3 C=none:=I4.free
    have un4:Un (frs X.stack) fp H2 H3 s2.heap s4.heap:=I4.base
    have gD':h'.get? D=some { cls:=.type "list",data:=.seq its.toArray k }:=(sb.2 D hDC).trans gD
    have up:∀ b o,s2.heap.get? b=some o->h'.get? b=s4.heap.get? b:=fun b o e=>sb.2 b (below b o e).1
    refine I2.call' (ch:=fp) (s':={ s4 with heap:=h' }) I4.os ?_ ?_ I4.bare fun b hb=>⟨(f2 b hb).2.2.2.1,(f2 b hb).2.1,(f2 b hb).2.2.2.2.1,(f2 b hb).2.2.2.2.2⟩
    ·refine ⟨fun b o e n hb hx=>(up b o e).trans (un4.keep b o e n hb hx),fun b o e n hb hx=>?_,fun b o e n hx=>?_,fun b o e hx=>?_,fun b xs e=>?_,fun b o u e=>?_,fun b ps e=>?_⟩
     ·obtain ⟨sl,q⟩:=un4.slot b o e n hb hx
      exact ⟨sl,(up b o e).trans q⟩
     ·rw [Qag (below b o e).2];exact un4.free b o e n hx
     ·obtain ⟨o',q⟩:=un4.there b o e hx
      exact ⟨o',(up b o e).trans q⟩
     ·have q:=un4.tups b xs e
      rw [Qag (Qao q nD)];exact q
     ·have q:=un4.frzs b o u e
      rw [Qag (Qao q nD)];exact q
     ·obtain ⟨more,q⟩:=un4.tbls b ps e
      exact ⟨more,by rw [Qag (Qao q nD)];exact q⟩
    ·exact (HOk.but I4.hok n3C sb).track nD ⟨hz3,its,k,hv3,gD'⟩
   have J4:Inv X pins σ (upd H3 D (.lst ys)) s4:=all s4.heap (Heap.SameBut.refl _ _)
   show wpAny _ X.A (assign (.Name y py) X.env (.ref D)) _ _ s4
   refine wpAny_assign_Name (Qhs J4 hXN hi0 hy (show RelV (.ref D) (.ref D) from rfl) (fun s5 I5 ⟨a,sb,ha⟩=>?_) hf)
   have naC:C≠a:=fun z=>by
    rcases ha with q | q
    ·have l1:=I2.lt
     rw [hD,← q,← z,hC] at l1
     exact absurd l1 (Nat.not_lt.mpr (Nat.le_succ D))
    ·obtain ⟨o,q'⟩:=cellLt y a q
     exact (below a o q').1 z.symm
   refine ⟨m,hn.sameBut sb naC,fun h' sb'=>?_⟩
   have nC:upd H3 D (.lst ys) C=none:=by rw [Qag (Ne.symm hDC)];exact I4.free
   refine ⟨_,_,I5.turned (t':=s5.toks) (it:=C) (fun b o hb e=>(sb'.2 b hb).trans e) nC (fun z=>?_) (.inr (Nat.le_trans I2.sz (by rw [hD];omega))) (fun y' c hy' z=>?_) (fun p hp z=>?_),qn D nD⟩
   ·have l1:=I2.lt
    rw [hD,← z,hC] at l1
    exact absurd l1 (Nat.not_lt.mpr (Nat.le_succ D))
   ·obtain ⟨o,q'⟩:=cellLt y' c hy'
    exact (below c o q').1 z
   ·exact (below _ _ (pinLt p hp)).1 z
  ·refine thn (T.item Xb rfl rfl rfl hc i _ s3 _ H3 (fun _ _=>False) I3 (stat fr3) st3 go) fun r s4 ⟨u,hr,h4⟩=>?_
   subst hr
   refine thn h4 fun _ s5 ⟨x5,H5,I5,r5,y5,st5,fr5⟩=>?_
   have I5':=I5.pinned (stat fr5) (T.obj _ _ st5)
   have hg:PG Xb (.Name x px) (Qdo j):=QaA (X:=Xb) (i:=j) B.nd hj (.inl (lookup_relabel_local hx)) (.inr (lookup_relabel_local hx))
   refine thn (hg _ s5 _ H5 x5 u (fun σ' H'=>σ'=(Qax ix σ).set j (some x5)/\H'=H5) I5' r5 ⟨rfl,rfl⟩) fun _ s6 ⟨σ6,H6,I6,e6,e6'⟩=>?_
   subst e6 e6'
   refine thn (ht pins C s2 H2 fp _ s6 _ _ _ I6 (step x5 _ y5)) fun ok s7 ⟨H7,I7,q7⟩=>?_
   have back:∀ {H8:Hp} {s8:Shared} {ob:Obj} {ys':List V} {its':List Value} {k':Nat},Inv Xb ([(D,ob)]++Qbs fp s5.heap) ((Qax ix σ).set j (some x5)) H8 s8->ob={ cls:=.type "list",data:=.seq its'.toArray k' }->Vals ys' its'->ys'.length<=sizeLine->N' ys' H8->
     ∃ m,m<n/\∃ i ys H' its k,Inv Xb [(D,{ cls:=.type "list",data:=.seq (List.toArray its) k })] (Qax ix σ) H' s8/\tn i s8.heap/\(∀ b∈fp,H' b=none)/\Vals ys its/\ys.length<=sizeLine/\W i m ys H':=fun {H8 s8 ob ys' its' k'} I8 eo hv8 hz8 n8=>by
    subst eo
    obtain ⟨m',hm,w8⟩:=hN ys' H8 n8
    refine ⟨m',hm,i+1,ys',H8,its',k',?_,T.keep _ _ _ st5 fun b hb o e=>(I8.pin (b,o) (List.mem_append_right _ (List.mem_append_right _ (Qbm hb e)))).1,fun b hb=>?_,hv8,hz8,w8⟩
    ·refine (I8.unpinned).weak (by rw [List.length_set]) fun a v e=>?_
     have na:j≠a:=fun z=>by rw [← z,σj] at e;cases e
     rw [List.getElem?_set_ne na];exact e
    ·obtain ⟨o,e,d⟩:=T.obj _ _ st5 b hb
     exact (I8.pin (b,o) (List.mem_append_right _ (List.mem_append_right _ (Qbm hb e)))).2.1
   cases ok with
   |false=>exact back I7 rfl hv3 hz3 q7
   |true=>
    have q7':te ((Qax ix σ).set j (some x5)) H7 fun y H3=>ys.length<sizeLine/\N' (ys++[y]) H3:=q7
    show wpAny _ _ (eval elt _) _ _ _
    refine thn (he pins C s2 H2 fp _ s7 _ H7 _ I7 q7') fun y8 s8 ⟨v8,H8,I8,r8,hz8,q8⟩=>?_
    have gD8:=(I8.pin (D,{ cls:=.type "list",data:=.seq its.toArray k }) (by simp)).1
    have nD8:=(I8.pin (D,{ cls:=.type "list",data:=.seq its.toArray k }) (by simp)).2.1
    have hl8:=hv3.length
    refine wpAny_list_append_plain (hsz:=by rw [List.size_toArray];omega) ⟨k,gD8⟩ fun h9 pl9 sb9=>?_
    obtain ⟨k9,g9⟩:=pl9
    have g9':h9.get? D=some { cls:=.type "list",data:=.seq (its++[y8]).toArray k9 }:=by rw [g9];simp
    have pinsP:∀ p∈Qbs fp s5.heap,p.1≠D:=fun p hp z=>by
     obtain ⟨hb,_⟩:=QdT hp
     obtain ⟨o,e⟩:=fpLt p.1 hb
     exact (below _ o e).2 z
    have I8':Inv Xb (Qbs fp s5.heap) ((Qax ix σ).set j (some x5)) H8 s8:=I8.pins_of fun p hp=>I8.pin p (List.mem_append_right _ (List.mem_append_right _ hp))
    have I9:Inv Xb (Qbs fp s5.heap) ((Qax ix σ).set j (some x5)) H8 { s8 with heap:=h9 }:=I8'.turned (t':=s8.toks) (fun b o hb e=>(sb9.2 b hb).trans e) nD8 hDC (.inr (by show s2.heap.objs.size<=D;rw [hD];exact Nat.le_refl _))
     (fun y c hy z=>by obtain ⟨o,e⟩:=cellLt y c (clM y c hy);exact (below c o e).2 z)
     (fun p hp z=>by
      rcases List.mem_append.mp hp with hp | hp
      ·exact (below _ _ (pinLt p hp)).2 z
      ·exact pinsP p hp z)
    have I10:Inv Xb ([(D,{ cls:=.type "list",data:=.seq (its++[y8]).toArray k9 })]++Qbs fp s5.heap) ((Qax ix σ).set j (some x5)) H8 { s8 with heap:=h9 }:=I9.pins_of fun p hp=>by
     rcases List.mem_append.mp hp with hp | hp
     ·have q:p=(D,{ cls:=.type "list",data:=.seq (its++[y8]).toArray k9 }):=by simpa using hp
      subst q
      exact ⟨g9',nD8,hDC,DFs,fun v z=>nomatch z⟩
     ·exact I9.pin p (List.mem_append_right _ hp)
    exact back I10 rfl (hv3.append (.cons r8 .nil)) (by rw [List.length_append,List.length_singleton];omega) q8
 exact codeAny_compStart_list loop (T.self _ 0 _ _ _ (T.keep _ _ _ st2 fun b _ o e=>old b o e) loop)
structure Qaf (P:Program)(w:World)(K:PySem.W.Frag)(mg:Str->Option Value)(base:Heap)(k:Nat)(x:Str)(ps:List Str)(sp:Sp):Prop where
 ex:∃ f fd,FnOk P w K mg base (CXe P w) k f fd ps sp/\mg x=some (.ref f)/\PySem.W.keepIn K (.ref f)=true/\Binds K fd ps []
structure Qas (P:Program)(w:World)(K:PySem.W.Frag)(mg:Str->Option Value)(base:Heap)(C:Addr)(k:Nat)(m:Str)(ps:List Str)(sp:Sp):Prop where
 ex:∃ f fd,FnOk P w K mg base (CXe P w) k f fd ps sp/\QtZ K C m f/\Binds K fd ps []
structure Qdh (P:Program)(w:World)(K:PySem.W.Frag)(mg:Str->Option Value)(base:Heap)(C:Addr)(k:Nat)(x:Str)(ps:List Str)(sp:Sp):Prop where
 ex:∃ f fd,FnOk P w K mg base (CXe P w) k f fd ps sp/\Mk K C f/\mg x=some (.ref C)/\Binds K fd ps []
def Ext (σ τ:St):Prop:=τ.length=σ.length/\∀ (i:Nat) v,σ[i]? = some (some v)->τ[i]? = some (some v)
def QnN (wi:TI)(ix:List (Option Nat))(g:TG)(tc:TT)(te:TE):TE:=fun σ H Q=>wi σ H fun J H1=>∃ W:Nat->Nat->List V->Hp->Prop,(∃ m,W 0 m [] H1)/\∀ i m ys H,W i m ys H->
 (J.stop i H/\∀ D,H D=none->Q (.ref D) (upd H D (.lst ys)))\/
 (J.go i H/\∃ N:List V->Hp->Prop,(∀ ys' H',N ys' H'->∃ m',m' < m/\W (i+1) m' ys' H')/\∀ x H',J.yld i H x H'->
  g x (Qax ix σ) H' fun τ H1'=>Ext (Qax ix σ) τ/\tc τ H1' fun c H2=>if c=true then te τ H2 fun y H3=>ys.length<sizeLine/\N (ys++[y]) H3 else N ys H2)
theorem Qmj {X:Cx}{elt iter tg:Expr}{pos:Pos}{ifs:List Expr}{scope:Scope}{N:List Str}{ix:List (Option Nat)}{wi:TI}{g:TG}{tc:TT}{te:TE}
  (hc:X.calm=true) (B:Blk X scope N ix) (hi:PI X tg iter wi) (hg:∀ pins C s H ex,PG (X.blk scope N pins C s H ex) tg g)
  (ht:∀ pins C s H ex,PIf (X.blk scope N pins C s H ex) ifs tc) (he:∀ pins C s H ex,PE (X.blk scope N pins C s H ex) elt te)
  (hs:∀ x,foldedSetIterable iter X.env x=pure x:=by intro _;rfl):PE X (.ListComp elt [⟨tg,iter,ifs,0⟩] scope pos) (QnN wi ix g tc te):=by
 intro pins s σ H Q I h
 rw [eval_ListComp]
 have hcl:∀ y∈scope.names,y.2=.free->∃ c,X.env.cells.lookup y.1=some c:=fun y hy hf=>I.ok.has y.1 (B.free y hy hf)
 refine wpAny_comprehension_free (use:=none) (cl:=Qc3 X.env.cells scope.names) rfl hs (Qd0 hcl) B.kind B.names ?_
 refine thn (hi pins s σ H _ I h) fun v s1 h1=>thn h1 fun itv s2 h2=>?_
 obtain ⟨it,fp,tn,J,H2,e,I2,T,st2,f2,W,⟨m0,w0⟩,turn⟩:=h2
 subst e
 refine wpAny_newObj_type (wpAny_newFunctionEnv B.nocell (by intro y hy;simp at hy) (fun h₁ hns₁ hsb₁=>?_) B.kind)
 dsimp only at hns₁ hsb₁ ⊢
 generalize hHp:s2.heap.push { cls:=.type "list",dict:=none,data:=.seq ([]:List Value).toArray }=Hq at hns₁ hsb₁ ⊢
 generalize hD:s2.heap.objs.size=D at hns₁ hsb₁ ⊢
 generalize hCq:Hq.objs.size=C at hns₁ hsb₁ ⊢
 have hC:C=D+1:=by rw [← hCq,← hHp,Heap.size_push,hD]
 have hDC:D≠C:=by omega
 have below:∀ b o,s2.heap.get? b=some o->b≠C/\b≠D:=fun b o e=>by
  have h1:b<D:=by rw [← hD];exact Heap.lt_size e
  exact ⟨Nat.ne_of_lt (Nat.lt_of_lt_of_le h1 (by rw [hC];exact Nat.le_succ D)),Nat.ne_of_lt h1⟩
 have old:∀ b o,s2.heap.get? b=some o->h₁.get? b=some o:=fun b o e=>hsb₁.extBut b o (below b o e).1 (Heap.get?_push_of_some _ (hHp▸Heap.get?_push_of_some _ e))
 have hDobj:h₁.get? D=some { cls:=.type "list",data:=.seq ([]:List Value).toArray }:=
  hsb₁.extBut _ _ hDC (Heap.get?_push_of_some _ (hHp▸hD▸Heap.get?_push_size _ rfl))
 have H2D:H2 D=none:=I2.hok.fresh (by rw [hD];exact Nat.le_refl _)
 have H2C:H2 C=none:=I2.hok.fresh (by rw [hD];omega)
 have clM:∀ y c,(Qc3 X.env.cells scope.names).lookup y=some c->X.env.cells.lookup y=some c:=fun y c e=>Qdk scope.names [] hcl (fun p hp=>nomatch hp) (y,c) (PySem.mem_of_lookup e)
 have fpLt:∀ b∈fp,∃ o,s2.heap.get? b=some o:=fun b hb=>let ⟨o,e,_⟩:=T.obj 0 _ st2 b hb;⟨o,e⟩
 have pinLt:∀ p∈X.pn++pins,s2.heap.get? p.1=some p.2:=fun p hp=>(I2.pin p hp).1
 have cellLt:∀ y c,X.env.cells.lookup y=some c->∃ o,s2.heap.get? c=some o:=fun y c e=>let ⟨v,o,ho,_⟩:=I2.cell y c e;⟨o,ho⟩
 let Xb:Cx:=X.blk scope N pins C s2 H2 fp
 have okb:Xb.Ok:=by
  refine ⟨I2.ok.mod,B.kind,I2.ok.glob,I2.ok.blt,?_,fun y z c e1 e2=>I2.ok.inj y z c (clM y c e1) (clM z c e2),fun y hy=>?_,fun y c hf _=>?_,I2.ok.hd,I2.ok.frames,.inl rfl,fun b hb=>?_,I2.bs,Nat.le_trans I2.ok.bsz I2.sz,fun b o e hb=>?_,fun b hb hf=>?_,I2.stack,I2.stkFree⟩
  ·show s2.heap.objs.size<=C
   rw [hD];omega
  ·have hy':(y,NameKind.free)∈scope.names:=by
    rcases hy with hy | hy
    ·exact Qa7 (env:=X.env) B.nocell (show (relabel scope X.env).names.lookup y=some .cell from hy) (.inl rfl)
    ·exact Qa7 (env:=X.env) B.nocell (show (relabel scope X.env).names.lookup y=some .free from hy) (.inr rfl)
   exact QbA (QbC scope.names [] (.inl hy'))
  ·exact absurd (show false=true from hf) Bool.false_ne_true
  ·obtain ⟨o,e⟩:=fpLt b hb
   refine ⟨(below b o e).1,fun y c hy=>?_⟩
   exact (f2 b hb).2.2.2.2.1 y c (clM y c hy)
  ·rcases (f2 b hb).2.2.2.1 with z | z
   ·exact I2.ok.noex b o e z
   ·exact absurd (Nat.lt_of_lt_of_le (Heap.lt_size e) (Nat.le_trans I2.ok.bsz z)) (Nat.lt_irrefl _)
  ·rcases List.mem_cons.mp (I2.stkSub b hf) with z | z
   ·exact (f2 b hb).2.1 z
   ·exact (f2 b hb).2.2.1 z
 have σlen:(Qax ix σ).length=N.length:=by unfold Qax;rw [List.length_map];exact B.len
 have pinFs:∀ p∈X.pn++pins,p.1∉frs X.stack:=fun p hp z=>by
  obtain ⟨_,_,n1,n2,_⟩:=I2.pin p hp
  exact (List.mem_cons.mp (I2.stkSub p.1 z)).elim n1 n2
 have DFs:D∉frs X.stack:=fun z=>by
  rcases List.mem_cons.mp (I2.stkSub D z) with q | q
  ·have h3:=I2.lt
   rw [hD,← q] at h3
   exact absurd h3 (Nat.lt_irrefl _)
  ·exact I2.nofs (by rw [hD];exact Nat.le_refl _) q
 -- at the block's start
 have Ib:Inv Xb [(D,{ cls:=.type "list",data:=.seq ([]:List Value).toArray })] (Qax ix σ) H2 { s2 with heap:=h₁,toks:=s2.toks+([]:List (Str × Value)).length }:=by
  refine ⟨okb,rfl,I2.bare,Un.kept old,⟨_,hns₁,fun a y v e1 e2 e3=>?_⟩,fun y c e=>?_,H2C,fun y c e=>I2.freeC y c (clM y c e),fun p hp=>?_,I2.hok.kept old,σlen⟩
  ·unfold Qax at e2
   rw [List.getElem?_map] at e2
   cases q:ix[a]? with
   |none=>rw [q] at e2;cases e2
   |some o=>
    rw [q] at e2
    cases o with
    |none=>cases e2
    |some i=>
     have e2':(σ[i]?).join=some v:=Option.some.inj e2
     have e2'':σ[i]? = some (some v):=by
      cases r:σ[i]? with
      |none=>rw [r] at e2';cases e2'
      |some t=>rw [r] at e2';exact congrArg some e2'
     obtain ⟨n1,n2'⟩:=B.slots a i y q e1
     have n2:(y,NameKind.free)∈scope.names:=PySem.mem_of_lookup n2'
     have kf:=B.free _ n2 rfl
     obtain ⟨m,_,hl⟩:=I2.loc
     obtain ⟨u,r,l⟩:=hl i y v n1 e2'' (kf.elim (fun z=>.inr (.inl z)) fun z=>.inr (.inr z))
     refine ⟨u,r,?_⟩
     rcases l with ⟨l,_⟩ | ⟨_,c,hc1,hc2⟩
     ·rcases kf with z | z<;>(rw [show X.env.kindOf y=some .local from l] at z;cases z)
     ·obtain ⟨c',hc'⟩:=QbA (QbC (cells:=X.env.cells) scope.names [] (.inl n2))
      have:c'=c:=Option.some.inj ((clM y c' hc').symm.trans hc1)
      subst this
      have kb:(relabel scope X.env).names.lookup y=some .cell\/(relabel scope X.env).names.lookup y=some .free:=Qbq n2'
      obtain ⟨oc,hoc,hcd⟩:=hc2
      exact .inr ⟨kb,c',hc',oc,old _ _ hoc,hcd⟩
  ·obtain ⟨v,oc,hoc,hcd⟩:=I2.cell y c (clM y c e)
   exact ⟨v,oc,old _ _ hoc,hcd⟩
  ·rcases List.mem_append.mp hp with hp | hp
   ·obtain ⟨p1,p2,p3,p4,p5⟩:=I2.pin p hp
    exact ⟨old _ _ p1,p2,(below _ _ p1).1,pinFs p hp,p5⟩
   ·have e:p=(D,{ cls:=.type "list",data:=.seq ([]:List Value).toArray }):=by simpa using hp
    subst e
    exact ⟨hDobj,H2D,hDC,DFs,fun v z=>nomatch z⟩
 have stat:∀ {H':Hp} {ob:Obj},(∀ b∈fp,H' b=none)->∀ b∈fp,QjR Xb [(D,ob)] H' b:=fun {H' ob} hn b hb=>by
  obtain ⟨o,e⟩:=fpLt b hb
  refine ⟨hn b hb,(below b o e).1,okb.exfs b hb,.inl hb,fun y c hy=>(f2 b hb).2.2.2.2.1 y c (clM y c hy),fun p hp z=>?_⟩
  rcases List.mem_append.mp hp with hp | hp
  ·exact (f2 b hb).2.2.2.2.2 p hp z
  ·have q:p=(D,ob):=by simpa using hp
   subst q
   exact (below b o e).2 z.symm
 have loop:codeAny (model X.prog X.w) X.A (.compLoop (.ListComp elt [⟨tg,iter,ifs,0⟩] scope pos) 0 (.ref it) (.ref D) (compEnvC scope (Qc3 X.env.cells scope.names) C X.env))
   (compPost (model X.prog X.w) X.A X.xe none (EP X pins σ Q) (.ref D) C) { s2 with heap:=h₁,toks:=s2.toks+([]:List (Str × Value)).length }:=by
  refine Qbj (fun n s'=>∃ i ys H' its k,Inv Xb [(D,{ cls:=.type "list",data:=.seq (List.toArray its) k })] (Qax ix σ) H' s'/\tn i s'.heap/\(∀ b∈fp,H' b=none)/\Vals ys its/\ys.length<=sizeLine/\W i n ys H') ?_ m0
   ⟨0,[],H2,[],_,Ib,T.keep _ _ _ st2 fun b _ o e=>old b o e,fun b hb=>(f2 b hb).1,.nil,Nat.zero_le _,w0⟩
  rintro n s3 ⟨i,ys,H3,its,k,I3,st3,fr3,hv3,hz3,w3⟩
  rcases turn i n ys H3 w3 with ⟨stop,qn⟩ | ⟨go,N',hN,step⟩
  ·refine thn (T.done Xb rfl rfl rfl hc i _ s3 _ H3 (fun _ _=>False) I3 (stat fr3) st3 stop) fun r s4 ⟨hr,I4⟩=>?_
   subst hr
   obtain ⟨m,hn,_⟩:=I4.loc
   have hp4:=I4.pin (D,{ cls:=.type "list",data:=.seq its.toArray k }) (by simp)
   obtain ⟨gD,nD,_,_,_⟩:=hp4
   refine ⟨m,hn,fun h' sb=>⟨.ref D,upd H3 D (.lst ys),?_,rfl,qn D nD⟩⟩
   have n3C:H3 C=none:=I4.free
   have un4:Un (frs X.stack) fp H2 H3 s2.heap s4.heap:=I4.base
   have gD':h'.get? D=some { cls:=.type "list",data:=.seq its.toArray k }:=(sb.2 D hDC).trans gD
   have up:∀ b o,s2.heap.get? b=some o->h'.get? b=s4.heap.get? b:=fun b o e=>sb.2 b (below b o e).1
   refine I2.call' (ch:=fp) (s':={ s4 with heap:=h' }) I4.os ?_ ?_ I4.bare fun b hb=>⟨(f2 b hb).2.2.2.1,(f2 b hb).2.1,(f2 b hb).2.2.2.2.1,(f2 b hb).2.2.2.2.2⟩
   ·refine ⟨fun b o e n hb hx=>(up b o e).trans (un4.keep b o e n hb hx),fun b o e n hb hx=>?_,fun b o e n hx=>?_,fun b o e hx=>?_,fun b xs e=>?_,fun b o u e=>?_,fun b ps e=>?_⟩
    ·obtain ⟨sl,q⟩:=un4.slot b o e n hb hx
     exact ⟨sl,(up b o e).trans q⟩
    ·rw [Qag (below b o e).2];exact un4.free b o e n hx
    ·obtain ⟨o',q⟩:=un4.there b o e hx
     exact ⟨o',(up b o e).trans q⟩
    ·have q:=un4.tups b xs e
     rw [Qag (Qao q nD)];exact q
    ·have q:=un4.frzs b o u e
     rw [Qag (Qao q nD)];exact q
    ·obtain ⟨more,q⟩:=un4.tbls b ps e
     exact ⟨more,by rw [Qag (Qao q nD)];exact q⟩
   ·exact (HOk.but I4.hok n3C sb).track nD ⟨hz3,its,k,hv3,gD'⟩
  ·refine thn (T.item Xb rfl rfl rfl hc i _ s3 _ H3 (fun _ _=>False) I3 (stat fr3) st3 go) fun r s4 ⟨u,hr,h4⟩=>?_
   subst hr
   refine thn h4 fun _ s5 ⟨x5,H5,I5,r5,y5,st5,fr5⟩=>?_
   have I5':=I5.pinned (stat fr5) (T.obj _ _ st5)
   refine thn (hg pins C s2 H2 fp _ s5 _ H5 x5 u _ I5' r5 (step x5 H5 y5)) fun _ s6 ⟨σ6,H6,I6,ext6,q6⟩=>?_
   refine thn (ht pins C s2 H2 fp _ s6 _ _ _ I6 q6) fun ok s7 ⟨H7,I7,q7⟩=>?_
   have back:∀ {H8:Hp} {s8:Shared} {ob:Obj} {ys':List V} {its':List Value} {k':Nat},Inv Xb ([(D,ob)]++Qbs fp s5.heap) σ6 H8 s8->ob={ cls:=.type "list",data:=.seq its'.toArray k' }->Vals ys' its'->ys'.length<=sizeLine->N' ys' H8->
     ∃ m,m<n/\∃ i ys H' its k,Inv Xb [(D,{ cls:=.type "list",data:=.seq (List.toArray its) k })] (Qax ix σ) H' s8/\tn i s8.heap/\(∀ b∈fp,H' b=none)/\Vals ys its/\ys.length<=sizeLine/\W i m ys H':=fun {H8 s8 ob ys' its' k'} I8 eo hv8 hz8 n8=>by
    subst eo
    obtain ⟨m',hm,w8⟩:=hN ys' H8 n8
    refine ⟨m',hm,i+1,ys',H8,its',k',?_,T.keep _ _ _ st5 fun b hb o e=>(I8.pin (b,o) (List.mem_append_right _ (List.mem_append_right _ (Qbm hb e)))).1,fun b hb=>?_,hv8,hz8,w8⟩
    ·exact (I8.unpinned).weak ext6.1.symm ext6.2
    ·obtain ⟨o,e,d⟩:=T.obj _ _ st5 b hb
     exact (I8.pin (b,o) (List.mem_append_right _ (List.mem_append_right _ (Qbm hb e)))).2.1
   cases ok with
   |false=>exact back I7 rfl hv3 hz3 q7
   |true=>
    have q7':te σ6 H7 fun y H3=>ys.length<sizeLine/\N' (ys++[y]) H3:=q7
    show wpAny _ _ (eval elt _) _ _ _
    refine thn (he pins C s2 H2 fp _ s7 _ H7 _ I7 q7') fun y8 s8 ⟨v8,H8,I8,r8,hz8,q8⟩=>?_
    have gD8:=(I8.pin (D,{ cls:=.type "list",data:=.seq its.toArray k }) (by simp)).1
    have nD8:=(I8.pin (D,{ cls:=.type "list",data:=.seq its.toArray k }) (by simp)).2.1
    have hl8:=hv3.length
    refine wpAny_list_append_plain (hsz:=by rw [List.size_toArray];omega) ⟨k,gD8⟩ fun h9 pl9 sb9=>?_
    obtain ⟨k9,g9⟩:=pl9
    have g9':h9.get? D=some { cls:=.type "list",data:=.seq (its++[y8]).toArray k9 }:=by rw [g9];simp
    have pinsP:∀ p∈Qbs fp s5.heap,p.1≠D:=fun p hp z=>by
     obtain ⟨hb,_⟩:=QdT hp
     obtain ⟨o,e⟩:=fpLt p.1 hb
     exact (below _ o e).2 z
    have I8':Inv Xb (Qbs fp s5.heap) σ6 H8 s8:=I8.pins_of fun p hp=>I8.pin p (List.mem_append_right _ (List.mem_append_right _ hp))
    have I9:Inv Xb (Qbs fp s5.heap) σ6 H8 { s8 with heap:=h9 }:=I8'.turned (t':=s8.toks) (fun b o hb e=>(sb9.2 b hb).trans e) nD8 hDC (.inr (by show s2.heap.objs.size<=D;rw [hD];exact Nat.le_refl _))
     (fun y c hy z=>by obtain ⟨o,e⟩:=cellLt y c (clM y c hy);exact (below c o e).2 z)
     (fun p hp z=>by
      rcases List.mem_append.mp hp with hp | hp
      ·exact (below _ _ (pinLt p hp)).2 z
      ·exact pinsP p hp z)
    have I10:Inv Xb ([(D,{ cls:=.type "list",data:=.seq (its++[y8]).toArray k9 })]++Qbs fp s5.heap) σ6 H8 { s8 with heap:=h9 }:=I9.pins_of fun p hp=>by
     rcases List.mem_append.mp hp with hp | hp
     ·have q:p=(D,{ cls:=.type "list",data:=.seq (its++[y8]).toArray k9 }):=by simpa using hp
      subst q
      exact ⟨g9',nD8,hDC,DFs,fun v z=>nomatch z⟩
     ·exact I9.pin p (List.mem_append_right _ hp)
    exact back I10 rfl (hv3.append (.cons r8 .nil)) (by rw [List.length_append,List.length_singleton];omega) q8
 exact codeAny_compStart_list loop (T.self _ 0 _ _ _ (T.keep _ _ _ st2 fun b _ o e=>old b o e) loop)
section
variable {X:Cx}
theorem Qfa (hc:X.calm=true):Qcm X (.builtin "all") (fun xs H Q=>∃ (p:Addr) (bs:List Bool),xs=[.ref p]/\SqL X.K H p (bs.map V.bl)/\Q (.bl (bs.all fun b=>b)) H):=by
 intro pins s σ H xs us Q I r h
 obtain ⟨p,bs,rfl,hp,q⟩:=h
 obtain ⟨u,rfl,ru⟩:=Qd9 r
 cases ru
 obtain ⟨its,rv,pl,hz⟩:=I.list hp
 have lt:=pl.isList
 have ltp:p<s.heap.objs.size:=by obtain ⟨o,ho,_⟩:=lt;exact Heap.lt_size ho
 refine call_all_walk (wpAny_pyIter_list lt ?_)
 have hlen:=rv.length
 have W:=Walks.list (prog:=X.prog) (w:=X.w) (A:=X.A.in1) (I.ok.hd hc) s.heap.objs.size p (Nat.ne_of_lt ltp) its.toArray
 refine ⟨_,_,_,_,_,_,fun j=>bs.getD j true,rfl,W,⟨⟨_,Heap.get?_push_size _ rfl,rfl,rfl⟩,lt.at fun o e=>Heap.get?_push_of_some _ e⟩,fun i v s1 Q1 E1 hP hQ=>?_,fun h' tk k=>?_⟩
 ·obtain ⟨hi,hv⟩:∃ hi:i<its.length,v=its[i]:=by
   have z:its.toArray[i]? = some v:=hP
   rw [List.getElem?_toArray] at z
   obtain ⟨h1,h2⟩:=List.getElem?_eq_some_iff.mp z
   exact ⟨h1,h2.symm⟩
  obtain ⟨b,hb⟩:∃ b,bs[i]? = some b:=⟨bs[i]'(by rw [List.length_map] at hlen;omega),List.getElem?_eq_getElem _⟩
  obtain ⟨u,hu,rb⟩:=rv.get (show (bs.map V.bl)[i]? = some (.bl b) by rw [List.getElem?_map,hb];rfl)
  have e:v=.bool b:=by
   rw [List.getElem?_eq_getElem hi] at hu
   rw [hv,Option.some.inj hu]
   exact rb
  subst e
  have e2:bs.getD i true=b:=by rw [List.getD_eq_getElem?_getD,hb];rfl
  have hQ':Q1 (bs.getD i true) s1:=hQ
  rw [e2] at hQ'
  exact wpAny_truthy_bool hQ'
 ·have e:(List.range its.toArray.size).all (fun j=>bs.getD j true)=bs.all fun b=>b:=by
   have l2:its.toArray.size=bs.length:=by rw [List.size_toArray,← hlen,List.length_map]
   rw [l2,Bool.eq_iff_iff,List.all_eq_true,List.all_eq_true]
   constructor
   ·intro h b hb
    obtain ⟨i,hi⟩:=List.getElem?_of_mem hb
    have z:=h i (List.mem_range.mpr (List.getElem?_eq_some_iff.mp hi).1)
    rw [List.getD_eq_getElem?_getD,hi] at z
    exact z
   ·intro h i hi
    have hi:=List.mem_range.mp hi
    rw [List.getD_eq_getElem?_getD,List.getElem?_eq_getElem hi]
    exact h _ (List.getElem_mem hi)
  rw [e]
  have I0:Inv X pins σ H { s with heap:=s.heap.push { cls:=.type "list_iterator",data:=.fields #[.ref p,.int 0 0] } }:=I.kept (t':=s.toks) fun b o z=>Heap.get?_push_of_some _ z
  have fp:=I.fpOk (b:=s.heap.objs.size) (H':=H) (Nat.le_refl _) I.fresh
  obtain ⟨f0,f1,f2,f3,f4,f5⟩:=fp
  exact ⟨.bl _,H,I0.turned (t':=tk) (it:=s.heap.objs.size) (fun b o hb z=>k b o (by simpa using hb) z) f0 f1 f3 f4 f5,rfl,q⟩
end
section
variable {X:Cx}{pins:List (Addr × Obj)}{σ:St}{H:Hp}{s:Shared}{h':Heap}
theorem Inv.turnedL {t':Nat}{ch:List Addr}(I:Inv X pins σ H s)(k:∀ b o,b∉ch->s.heap.get? b=some o->h'.get? b=some o)(f:∀ b∈ch,QjR X pins H b):Inv X pins σ H { s with heap:=h',toks:=t' }:=by
 have nit:∀ b u,H b=some u->b∉ch:=fun b u e z=>by rw [(f b z).1] at e;cases e
 refine I.step (g':=s.gens) (d':=s.drawn) (ch:=ch) (fun b hb=>?_) (fun b o _ _ hc e _=>k b o hc e) (fun b o _ _ hc e _=>⟨o.slots,k b o hc e⟩) (fun _ _ _ _ n=>n)
  (fun b o hc e=>⟨o,k b o hc e⟩) (fun _ _ e=>e) (fun _ _ _ e=>e) (fun b ps e=>⟨#[],by rw [e];simp⟩) (fun m hm=>?_) (fun b u e=>?_) I.bare
 ·obtain ⟨f0,f1,f2,f3,f4,f5⟩:=f b hb
  exact ⟨f3,f1,f4,f5⟩
 ·obtain ⟨o,es,ep,ho,r⟩:=hm
  exact ⟨o,es,ep,k _ o (fun z=>(f _ z).2.1 rfl) ho,r⟩
 ·refine (I.hok b u e).stay (fun c v hc q=>k c v ?_ q) (fun _ q=>q) fun _ _ q=>q
  rcases hc with z | z
  ·rw [z];exact nit b u e
  ·exact nit c _ z
theorem Inv.laidL {t':Nat}{ch:List Addr}{a:Addr}{o:HO}(I:Inv X pins σ H s)(k:∀ b o,b∉ch->s.heap.get? b=some o->h'.get? b=some o)(f:∀ b∈ch,QjR X pins H b)(hp:s.heap.objs.size<=a)(new:ObjOk X.prog X.w (upd H a o) h' a o):Inv X pins σ (upd H a o) { s with heap:=h',toks:=t' }:=by
 have nit:∀ b u,H b=some u->b∉ch:=fun b u e z=>by rw [(f b z).1] at e;cases e
 have hn:H a=none:=I.hok.fresh hp
 have na:∀ b u,H b=some u->b≠a:=fun b u e z=>by rw [z,hn] at e;cases e
 refine I.step (g':=s.gens) (d':=s.drawn) (ch:=ch) (fun b hb=>?_) (fun b o _ _ hc e _=>k b o hc e) (fun b o _ _ hc e _=>⟨o.slots,k b o hc e⟩) (fun b o _ e n=>?_)
  (fun b o hc e=>⟨o,k b o hc e⟩) (fun b xs e=>?_) (fun b o u e=>?_) (fun b ps e=>⟨#[],?_⟩) (fun m hm=>?_) (fun b u e=>?_) I.bare
 ·obtain ⟨f0,f1,f2,f3,f4,f5⟩:=f b hb
  exact ⟨f3,f1,f4,f5⟩
 ·rw [Qag (Nat.ne_of_lt (Nat.lt_of_lt_of_le (Heap.lt_size e) hp))];exact n
 ·rw [Qag (na _ _ e)];exact e
 ·rw [Qag (na _ _ e)];exact e
 ·rw [Qag (na _ _ e),e];simp
 ·obtain ⟨o,es,ep,ho,r⟩:=hm
  exact ⟨o,es,ep,k _ o (fun z=>(f _ z).2.1 rfl) ho,r⟩
 ·by_cases z:b=a
  ·subst z
   rw [Qap] at e
   cases e
   exact new
  ·rw [Qag z] at e
   refine (I.hok b u e).stay (fun c v hc q=>k c v ?_ q) (fun _ q=>?_) fun _ _ q=>?_
   ·rcases hc with z | z
    ·rw [z];exact nit b u e
    ·exact nit c _ z
   ·first | exact q | (rw [Qag (na _ _ q)];exact q)
   ·first | exact q | (rw [Qag (na _ _ q)];exact q)
end
section
variable {X:Cx}
theorem QfC:Qcm X (.type "int") (fun xs H Q=>∃ (x:Str) (n:Int),xs=[.str x]/\PySem.intText? x=some n/\x.length<=640/\Q (.int n) H):=by
 intro pins s σ H xs us Q I r h
 obtain ⟨x,n,rfl,hn,hl,q⟩:=h
 obtain ⟨u,rfl,t,rfl⟩:=Qd9 r
 exact PySem.W.KIN.call_text hn hl ⟨.int n,H,I.tok _,⟨_,rfl⟩,q⟩
def Ite (K:PySem.W.Frag)(a:Addr):It:=
 ⟨fun i H=>∃ xs x,SqL K H a xs/\xs[i]? = some x,fun i H v H'=>∃ T x,H T=none/\v=.ref T/\H'=upd H T (.tup [.int (i:Nat),x])/\∀ xs,SqL K H a xs->xs[i]? = some x,fun i H=>∃ xs,SqL K H a xs/\xs.length<=i⟩
theorem Qkq {P:Program}{w:World}{K:PySem.W.Frag}{es:List Expr}{k:Nat}{tp:Pos}(a e it:Addr)(hne:e≠it):QpN P w K (.Tuple es k tp) (Ite K a) [e,it] e (fun i h=>(∃ old,IsEnum h e it ((i:Nat):Int) old)/\h.IsListIter it a i) where
 mem:=by simp
 obj:=fun i h st b hb=>by
  obtain ⟨⟨old,he⟩,o,ho,c,d⟩:=st
  rcases List.mem_cons.mp hb with rfl | hb
  ·exact ⟨_,he,fun v z=>by cases z⟩
  ·have q:b=it:=by simpa using hb
   subst q
   exact ⟨o,ho,fun v z=>by rw [d] at z;cases z⟩
 keep:=fun i h h' st k=>by
  obtain ⟨⟨old,he⟩,hit⟩:=st
  exact ⟨⟨old,k e (by simp) _ he⟩,hit.at fun o q=>k it (by simp) o q⟩
 item:=by
  intro X hP hw hK hc i pins s σ H E I hf st hg
  subst hP hw hK
  obtain ⟨⟨old,he⟩,hit⟩:=st
  obtain ⟨xs,x,hq,hx⟩:=hg
  obtain ⟨its,rv,p,hz⟩:=I.list hq
  obtain ⟨u,hu,ru⟩:=rv.get hx
  refine wpAny_pyNext_enum_item he hit p.isList (x:=u) (by simpa using hu) hne fun h1 heo hit1 ht1 hz1 hk1=>?_
  refine ⟨_,rfl,wpAny_letOwnedTupleGo_enum heo fun h2 he2 hs2=>?_⟩
  have hel:e<s.heap.objs.size:=Heap.lt_size he
  have hT:H s.heap.objs.size=none:=I.hok.fresh (Nat.le_refl _)
  have kk:∀ b o,b∉[e,it]->s.heap.get? b=some o->h2.get? b=some o:=fun b o hb q=>by
   have nb:b≠e:=fun z=>hb (by simp [z])
   have ni:b≠it:=fun z=>hb (by simp [z])
   exact (hs2.2 b nb).trans (hk1 b o nb ni q)
  have gT:h2.get? s.heap.objs.size=some { cls:=.type "tuple",data:=.seq #[.int i s.toks,u] }:=(hs2.2 _ (Nat.ne_of_gt hel)).trans ht1
  -- the heap ahead of the tuple
  have I1:Inv X pins σ (upd H s.heap.objs.size (.tup [.int (i:Nat),x])) { s with heap:=h2,toks:=s.toks+1 }:=I.laidL kk hf (Nat.le_refl _) ⟨by show 2<=sizeLine;decide,[.int i s.toks,u],.cons ⟨_,rfl⟩ (.cons ru .nil),⟨_,gT,rfl,_,rfl⟩⟩
  refine ⟨.ref s.heap.objs.size,_,I1,rfl,⟨s.heap.objs.size,x,hT,rfl,rfl,fun ys hy=>by rw [I.list_inj hy hq];exact hx⟩,⟨⟨u,?_⟩,hit1.extBut hs2.extBut (Ne.symm hne)⟩,fun b hb=>?_⟩
  ·have:((i+1:Nat):Int)=(i:Int)+1:=by push_cast;rfl
   rw [this];exact he2
  ·have nb:b≠s.heap.objs.size:=by
    rcases List.mem_cons.mp hb with rfl | hb
    ·exact Nat.ne_of_lt hel
    ·have q:b=it:=by simpa using hb
     subst q
     obtain ⟨o,ho,_⟩:=hit
     exact Nat.ne_of_lt (Heap.lt_size ho)
   rw [Qag nb]
   exact (hf b hb).1
 done:=by
  intro X hP hw hK hc i pins s σ H E I hf st hg
  subst hP hw hK
  obtain ⟨⟨old,he⟩,hit⟩:=st
  obtain ⟨xs,hq,hx⟩:=hg
  obtain ⟨its,rv,p,hz⟩:=I.list hq
  have hl:=rv.length
  exact wpAny_pyNext_enum_end (I.ok.hd hc) he hit p.isList (by simp;omega) fun h' eb=>⟨rfl,I.turnedL (ch:=[e,it]) (t':=s.toks) (fun b o hb q=>eb b o (fun z=>hb (by simp [z])) q) hf⟩
 self:=fun _ _ _ _ _ st h=>let ⟨_,he⟩:=st.1;wpAny_pyIter_enum he h
theorem Qlv:bootBuiltins "enumerate" = some (.type "enumerate"):=by decide +kernel
end
section
variable {X:Cx}{e se:Expr}{te ts:TE}{pos p2:Pos}
def Quv (K:PySem.W.Frag)(te ts:TE):TE:=fun σ H Q=>te σ H fun x H1=>ts σ H1 fun y H2=>y=.int (-1)/\∃ a xs,x=.ref a/\SqL K H2 a xs/\∀ p,H2 p=none->Q (.ref p) (upd H2 p (.lst xs.reverse))
theorem QqJ (he:PE X e te)(hs:PE X se ts):PE X (.Subscript e (.Slice none none (some se) p2) pos) (Quv X.K te ts):=by
 intro pins s σ H Q I h
 refine Subscript_ (thn (he pins s σ H _ I h) fun v s1 ⟨x,H1,I1,r1,q1⟩=>?_)
 refine wpAny_Slice (thn (Qlt pins s1 σ H1 (fun o H'=>o=none/\H'=H1) I1 ⟨rfl,rfl⟩) fun vl s2 ⟨l,H2,I2,pl,e2,e2'⟩=>thn (Qlt pins s2 σ H2 (fun o H'=>o=none/\H'=H2) I2 ⟨rfl,rfl⟩) fun vu s3 ⟨u,H3,I3,pu,e3,e3'⟩=>?_)
 subst e2' e3' e2 e3
 refine thn (Qj7 hs pins s3 σ H3 (fun o H'=>o=some (-1)/\∃ a xs,x=.ref a/\SqL X.K H' a xs/\∀ p,H' p=none->Q (.ref p) (upd H' p (.lst xs.reverse))) I3 ?_) fun vk s4 ⟨k,H4,I4,pk,q4⟩=>?_
 ·have mono:∀ {t:TE},PE X se t->t σ H3 (fun y H2=>y=.int (-1)/\∃ a xs,x=.ref a/\SqL X.K H2 a xs/\∀ p,H2 p=none->Q (.ref p) (upd H2 p (.lst xs.reverse)))->True:=fun _ _=>trivial
  show ts σ H3 fun y H1=>∃ i,y=.int i/\(some i=some (-1)/\∃ a xs,x=.ref a/\SqL X.K H1 a xs/\∀ p,H1 p=none->Q (.ref p) (upd H1 p (.lst xs.reverse)))
  have ee:(fun (y:V) (H1:Hp)=>∃ i,y=.int i/\(some i=some (-1)/\∃ a xs,x=.ref a/\SqL X.K H1 a xs/\∀ p,H1 p=none->Q (.ref p) (upd H1 p (.lst xs.reverse))))=(fun y H2=>y=.int (-1)/\∃ a xs,x=.ref a/\SqL X.K H2 a xs/\∀ p,H2 p=none->Q (.ref p) (upd H2 p (.lst xs.reverse))):=by
   funext y H1
   apply propext
   constructor
   ·rintro ⟨i,hy,hi,z⟩
    exact ⟨by rw [hy,Option.some.inj hi],z⟩
   ·rintro ⟨hy,z⟩
    exact ⟨-1,hy,rfl,z⟩
  rw [ee]
  exact q1
 ·obtain ⟨rfl,a,xs,rfl,hq,q⟩:=q4
  cases r1
  have I5:Inv X pins σ H4 { s4 with heap:=s4.heap.push { cls:=.type "slice",data:=.fields #[vl,vu,vk] } }:=I4.kept (t':=s4.toks) fun b ob z=>Heap.get?_push_of_some _ z
  obtain ⟨its,r,ht,hz⟩:=I5.list hq
  have hlen:=r.length
  refine tail_any (ops:=[.ref a,.ref s4.heap.objs.size]) (T := "list") ht.isList.typeIs slot_list_getitem.lookup ?_ (by with_unfolding_all rfl)
  refine wpAny_getItem_list_slice ht.isList (Heap.IsSliceOf.new ..) pl pu pk (by simp) ?_ (by rw [List.size_toArray]<;>omega)
  rw [PySem.W.krv_pick]
  refine ⟨.ref _,_,I5.laid (t':=s4.toks) (o:=.lst xs.reverse) (fun b ob z=>Heap.get?_push_of_some _ z) (Nat.le_refl _) ?_,rfl,q _ (I5.hok.fresh (Nat.le_refl _))⟩
  exact ⟨by rw [List.length_reverse];exact hz,_,0,r.reverse,Heap.get?_push_size _ rfl⟩
end
section
variable {prog:Program}{w:World}{A:Around}{E:Value->Shared->Prop}{s:Shared}
theorem Qjv {it tp:Addr}{j:Nat}{ys:Array Value}{y:Value}{Q:Value->Shared->Prop}(jt:s.heap.IsTupleIter it tp j)(jl:s.heap.IsTuple tp ys)(jx:ys[j]? = some y)
  (K:∀ h2,h2.IsTupleIter it tp (j+1)->Heap.SameBut it s.heap h2->Q y { s with heap:=h2 }):wpAny (model prog w) A (Builtin.SmallTypes.nextOf (.ref it)) Q E s:=by
 obtain ⟨oi,hi,ci,di⟩:=id jt
 obtain ⟨ot,htp,_,nt,dt⟩:=jl
 unfold Builtin.SmallTypes.nextOf
 refine wpAny_bind (wpAny_callSpecial?_slot (name:=Str.ofString "__next__") jt.typeIs F.slot_tuple_iterator_next (wpAny_call_entry F.slot_tuple_iterator_next jt.typeIs F.entry_tuple_iterator_next ?_ (F.args_tuple_iterator_next_1 _)))
 show wpAny _ _ (field (.ref it) 0 >>= _) _ _ s
 refine wpAny_bind (wpAny_field hi di (x:=.ref tp) rfl ?_)
 show wpAny _ _ (if (Value.ref tp == Value.none)=true then _ else _) _ _ s
 rw [if_neg (show ¬ ((Value.ref tp == Value.none)=true) from Bool.false_ne_true)]
 show wpAny _ _ (field (.ref it) 1 >>= _) _ _ s
 refine wpAny_bind (wpAny_field hi di (x:=.int j 0) rfl ?_)
 show wpAny _ _ (seqItems? (.ref tp) >>= _) _ _ s
 refine wpAny_bind (wpAny_seqItems htp dt ?_)
 simp only [Int.toNat_natCast,jx]
 refine wpAny_bind (wpAny_setField hi di (by simp) (wpAny_pure ⟨y,rfl,wpAny_pure (K _ ?_ (Heap.SameBut.update ..))⟩))
 exact ⟨_,Heap.get?_update_self _ hi (Obj.isFreed_of_fields (Obj.data_mapFields di _)),(Obj.cls_mapFields ..).trans ci,by rw [Obj.data_mapFields di];simp [rawInt]⟩
theorem QgA {it tp:Addr}{j:Nat}{ys:Array Value}{Q:Value->Shared->Prop}(hh:A.handled=none)(jt:s.heap.IsTupleIter it tp j)(jl:s.heap.IsTuple tp ys)(jx:ys[j]? = none)
  (K:∀ h2 x,Heap.ExtBut it s.heap h2->(∃ o,h2.get? x=some o/\o.cls=.type "StopIteration")->E (.ref x) { s with heap:=h2 }):wpAny (model prog w) A (Builtin.SmallTypes.nextOf (.ref it)) Q E s:=by
 obtain ⟨oi,hi,ci,di⟩:=id jt
 obtain ⟨ot,htp,_,nt,dt⟩:=jl
 unfold Builtin.SmallTypes.nextOf
 refine wpAny_bind (wpAny_callSpecial?_slot (name:=Str.ofString "__next__") jt.typeIs F.slot_tuple_iterator_next (wpAny_call_entry F.slot_tuple_iterator_next jt.typeIs F.entry_tuple_iterator_next ?_ (F.args_tuple_iterator_next_1 _)))
 show wpAny _ _ (field (.ref it) 0 >>= _) _ _ s
 refine wpAny_bind (wpAny_field hi di (x:=.ref tp) rfl ?_)
 show wpAny _ _ (if (Value.ref tp == Value.none)=true then _ else _) _ _ s
 rw [if_neg (show ¬ ((Value.ref tp == Value.none)=true) from Bool.false_ne_true)]
 show wpAny _ _ (field (.ref it) 1 >>= _) _ _ s
 refine wpAny_bind (wpAny_field hi di (x:=.int j 0) rfl ?_)
 show wpAny _ _ (seqItems? (.ref tp) >>= _) _ _ s
 refine wpAny_bind (wpAny_seqItems htp dt ?_)
 simp only [Int.toNat_natCast,jx]
 refine wpAny_bind (wpAny_rule (wpAny_bind (wpAny_setField hi di (by simp) ?_)))
 show wpAny _ _ (newExc (.type "StopIteration") [] >>= _) _ _ _
 refine wpAny_bind ?_
 simp only [newExc,newTuple]
 refine wpAny_bind (wpAny_newObj_type ?_ (by size_fits))
 refine wpAny_bind (m:=firstArgMember _ _) (wpAny_of_eq (a:=Value.none) (by first | rfl | (simp only [firstArgMember];rfl)) ?_)
 refine wpAny_newObj_type ?_ (by size_fits)
 simp only [raiseNew]
 refine wpAny_bind (wpAny_handled ?_)
 first | rw [show A.in1.handled=none from hh] | rw [hh]
 refine wpAny_bind (wpAny_pure (wpAny_throw ?_))
 exact K _ _ (((Heap.SameBut.update ..).extBut.push _).push _) ⟨_,Heap.get?_push_size _ rfl,rfl⟩
theorem Qsx {prog:Program}{w:World}{A:Around}(hh:A.handled=none)(it tp:Addr)(hne:tp≠it)(ys:Array Value) :
  Draws prog w A it [it,tp] ys.size (fun i v=>ys[i]? = some v) (fun i h=>h.IsTupleIter it tp i/\h.IsTuple tp ys) where
 live:=fun _ _ st=>let ⟨o,ho,_⟩:=st.1;⟨o,ho⟩
 frame:=fun _ _ _ st hk=>by
  obtain ⟨⟨o,ho,r⟩,o',ho',r'⟩:=st
  exact ⟨⟨o,hk it (by simp) o ho,r⟩,o',hk tp (by simp) o' ho',r'⟩
 item:=fun i s Q E hi st hQ=>by
  refine Qjv st.1 st.2 (y:=ys[i]) (by simp [hi]) fun h' hit' hs'=>?_
  exact hQ _ h' s.toks (by simp [hi]) ⟨hit',st.2.extBut hs'.extBut hne⟩ hs'
 done:=fun s Q E st hE=>QgA hh st.1 st.2 (by simp) hE
open AutoSeq1 (wpAny_loadPart') in
theorem QqS (l:Addr)(ys:Array Value)(n:Nat)(dd:Option Addr)(zz:Array (Option Value)) :
  Meets (Builtin.«enumerate.__new__» ⟨[.type "enumerate",.ref l],[]⟩) (fun _ R s=>s.heap.get? l=some { cls:=.type "tuple",dict:=dd,data:=.seq ys n,slots:=zz }/\
   R (.ok (.ret (.ref (s.heap.push { cls:=.type "tuple_iterator",data:=.fields #[.ref l,.int 0 0] }).objs.size)))
    { s with heap:=(s.heap.push { cls:=.type "tuple_iterator",data:=.fields #[.ref l,.int 0 0] }).push { cls:=.type "enumerate",data:=.fields #[.none,.bool false,.ref s.heap.objs.size,rawInt 0,.none,.none] } }):=
 .of_wp fun prog w A R s h=>by
  obtain ⟨hp,g,d,tk,os⟩:=s;obtain ⟨hl,h⟩:=h
  have hsub:=sub_enumerate
  have hT:Heap.IsTuple (Shared.heap ⟨hp,g,d,tk,os⟩) l ys:=⟨_,hl,rfl,n,rfl⟩
  wp_walk using wpAny_loadPart' hl
  refine wpAny_stack_any fun st=>wpAny_pure ?_
  split
  ·rename_i c _ _ _ _ _
   cases (c == Value.type "enumerate")
   ·wp_walk using wpAny_loadPart' hl,wpAny_pyIter_tuple hT
    exact ⟨_,rfl,h⟩
   ·wp_walk using wpAny_loadPart' hl,wpAny_pyIter_tuple hT
    exact ⟨_,rfl,h⟩
  ·wp_walk using wpAny_loadPart' hl,wpAny_pyIter_tuple hT
   exact ⟨_,rfl,h⟩
theorem QjN {l:Addr}{ys:Array Value}{Q:Value->Shared->Prop}(hL:s.heap.IsTuple l ys)
  (h:∀ h',IsEnum h' (s.heap.objs.size+1) s.heap.objs.size 0 .none->h'.IsTupleIter s.heap.objs.size l 0->(∀ b o,s.heap.get? b=some o->h'.get? b=some o)->Q (.ref (s.heap.objs.size+1)) { s with heap:=h' }) :
  wpAny (model prog w) A (call (.type "enumerate") [.ref l]) Q E s:=by
 obtain ⟨⟨c,dd,dt,zz⟩,hl,hc,n,hd⟩:=hL
 replace hc:c=.type "tuple" := hc
 replace hd:dt=.seq ys n:=hd
 subst hc hd
 refine callType_new F.called_enumerate (by decide) (F.typeCall_enumerate_1 _) (F.newCall_enumerate_1 _) (fun obj=>F.args_object_init_2 obj _) F.entry_enumerate_new (QqS l ys n dd zz) ⟨hl,?_⟩
 have hz:(s.heap.push { cls:=.type "tuple_iterator",data:=.fields #[.ref l,.int 0 0] }).objs.size=s.heap.objs.size+1:=Heap.size_push ..
 show _/\_
 rw [hz]
 have he:IsEnum ((s.heap.push { cls:=.type "tuple_iterator",data:=.fields #[.ref l,.int 0 0] }).push { cls:=.type "enumerate",data:=.fields #[.none,.bool false,.ref s.heap.objs.size,rawInt 0,.none,.none] }) (s.heap.objs.size+1) s.heap.objs.size 0 .none:=by
  have q:=Heap.get?_push_size (s.heap.push { cls:=.type "tuple_iterator",data:=.fields #[.ref l,.int 0 0] }) (o:={ cls:=.type "enumerate",data:=.fields #[.none,.bool false,.ref s.heap.objs.size,rawInt 0,.none,.none] }) rfl
  rw [hz] at q;exact q
 exact ⟨⟨_,he,rfl⟩,h _ he ⟨_,Heap.get?_push_of_some _ (Heap.get?_push_size _ rfl),rfl,rfl⟩ fun b o x=>Heap.get?_push_of_some _ (Heap.get?_push_of_some _ x)⟩
end
section
variable {X:Cx}
def QtS (K:PySem.W.Frag)(a:Addr):It:=
 ⟨fun i H=>∃ xs x,SqT K H a xs/\xs[i]? = some x,fun i H v H'=>∃ T x,H T=none/\v=.ref T/\H'=upd H T (.tup [.int (i:Nat),x])/\∀ xs,SqT K H a xs->xs[i]? = some x,fun i H=>∃ xs,SqT K H a xs/\xs.length<=i⟩
theorem Qjr {P:Program}{w:World}{K:PySem.W.Frag}{es:List Expr}{k:Nat}{tp:Pos}(a e it:Addr)(hne:e≠it)(hae:e≠a)(hai:a≠it):QpN P w K (.Tuple es k tp) (QtS K a) [e,it] e (fun i h=>(∃ old,IsEnum h e it ((i:Nat):Int) old)/\h.IsTupleIter it a i) where
 mem:=by simp
 obj:=fun i h st b hb=>by
  obtain ⟨⟨old,he⟩,o,ho,c,d⟩:=st
  rcases List.mem_cons.mp hb with rfl | hb
  ·exact ⟨_,he,fun v z=>by cases z⟩
  ·have q:b=it:=by simpa using hb
   subst q
   exact ⟨o,ho,fun v z=>by rw [d] at z;cases z⟩
 keep:=fun i h h' st k=>by
  obtain ⟨⟨old,he⟩,o,ho,r⟩:=st
  exact ⟨⟨old,k e (by simp) _ he⟩,o,k it (by simp) o ho,r⟩
 item:=by
  intro X hP hw hK hc i pins s σ H E I hf st hg
  subst hP hw hK
  obtain ⟨⟨old,he⟩,hit⟩:=st
  obtain ⟨xs,x,hq,hx⟩:=hg
  obtain ⟨its,rv,p,hz⟩:=I.tuple hq
  obtain ⟨u,hu,ru⟩:=rv.get hx
  have hlt:i<its.toArray.size:=by
   rcases Nat.lt_or_ge i its.toArray.size with z | z
   ·exact z
   ·rw [List.size_toArray] at z
    rw [List.getElem?_eq_none z] at hu
    cases hu
  refine wpAny_pyNext_enum_itemD (Qsx (show X.A.in1.handled=none from I.ok.hd hc) it a hai its.toArray) he ⟨hit,p⟩ hlt hne (by simp [hne,hae]) fun y h1 tk hy heo hst ht1 hz1 hk1=>?_
  obtain ⟨hit1,_⟩:=hst
  have eu:y=u:=by
   have:its[i]? = some y:=by simpa using hy
   rw [hu] at this
   exact (Option.some.inj this).symm
  subst eu
  refine ⟨_,rfl,wpAny_letOwnedTupleGo_enum heo fun h2 he2 hs2=>?_⟩
  have hel:e<s.heap.objs.size:=Heap.lt_size he
  have hT:H s.heap.objs.size=none:=I.hok.fresh (Nat.le_refl _)
  have kk:∀ b o,b∉[e,it]->s.heap.get? b=some o->h2.get? b=some o:=fun b o hb q=>by
   have nb:b≠e:=fun z=>hb (by simp [z])
   have ni:b≠it:=fun z=>hb (by simp [z])
   exact (hs2.2 b nb).trans (hk1 b o nb ni q)
  have gT:h2.get? s.heap.objs.size=some { cls:=.type "tuple",data:=.seq #[.int i tk,y] }:=(hs2.2 _ (Nat.ne_of_gt hel)).trans ht1
  have I1:Inv X pins σ (upd H s.heap.objs.size (.tup [.int (i:Nat),x])) { s with heap:=h2,toks:=tk+1 }:=I.laidL kk hf (Nat.le_refl _) ⟨by show 2<=sizeLine;decide,[.int i tk,y],.cons ⟨_,rfl⟩ (.cons ru .nil),⟨_,gT,rfl,_,rfl⟩⟩
  refine ⟨.ref s.heap.objs.size,_,I1,rfl,⟨s.heap.objs.size,x,hT,rfl,rfl,fun zs hy=>by rw [I.tuple_inj hy hq];exact hx⟩,⟨⟨y,?_⟩,hit1.extBut hs2.extBut (Ne.symm hne)⟩,fun b hb=>?_⟩
  ·have:((i+1:Nat):Int)=(i:Int)+1:=by push_cast;rfl
   rw [this];exact he2
  ·have nb:b≠s.heap.objs.size:=by
    rcases List.mem_cons.mp hb with rfl | hb
    ·exact Nat.ne_of_lt hel
    ·have q:b=it:=by simpa using hb
     subst q
     obtain ⟨o,ho,_⟩:=hit
     exact Nat.ne_of_lt (Heap.lt_size ho)
   rw [Qag nb]
   exact (hf b hb).1
 done:=by
  intro X hP hw hK hc i pins s σ H E I hf st hg
  subst hP hw hK
  obtain ⟨⟨old,he⟩,hit⟩:=st
  obtain ⟨xs,hq,hx⟩:=hg
  obtain ⟨its,rv,p,hz⟩:=I.tuple hq
  have hl:=rv.length
  have hT:s.TypeIs (.ref e) "enumerate" := ⟨_,he,rfl⟩
  unfold pyNext
  refine wpAny_bind (wpAny_attempt (wpAny_callSpecial?_slot (name:=Str.ofString "__next__") hT F.slot_enumerate_next (wpAny_call_entry F.slot_enumerate_next hT F.entry_enumerate_next ?_ (F.args_enumerate_next_1 _))))
  show wpAny _ _ (field (.ref e) 2 >>= _) _ _ _
  refine wpAny_bind (wpAny_field he rfl (x:=.ref it) rfl ?_)
  refine wpAny_bind (QgA (I.ok.hd hc) hit p (by simp;omega) fun h' x eb hx'=>?_)
  obtain ⟨o,ho,hc'⟩:=hx'
  refine wpAny_bind (wpAny_isInstance (T := "StopIteration") (b:=true) ⟨o,ho,hc'⟩ isSubtype_stop ?_)
  exact wpAny_pure ⟨rfl,I.turnedL (ch:=[e,it]) (t':=s.toks) (fun b o hb q=>eb b o (fun z=>hb (by simp [z])) q) hf⟩
 self:=fun _ _ _ _ _ st h=>let ⟨_,he⟩:=st.1;wpAny_pyIter_enum he h
def Itq (kd:Bool)(K:PySem.W.Frag)(a:Addr):It:=match kd with
 |true=>Ite K a
 |false=>QtS K a
def Qp6 (K:PySem.W.Frag)(ta:TA):TI:=fun σ H R=>ta σ H fun vs H1=>∃ a kd,vs=[.ref a]/\(∃ xs,SqB kd K H1 a xs)/\R (Itq kd K a) H1
theorem Qmi {es:List Expr}{k:Nat}{tp:Pos}{e:Expr}{ta:TA}{p pos:Pos}(hg:Gl X "enumerate")(hm:X.mg "enumerate" = none)(ha:PA X [e] ta)(hs:starEach [e] X.env=(false,eval e X.env) :: starEach [] X.env:=by rfl)
  (hpl:(backTo pos (starEach [] X.env)).any (·.1)=false:=by rfl):PI X (.Tuple es k tp) (.Call (.Name "enumerate" p) [e] [] pos) (Qp6 X.K ta):=by
 intro pins s σ H R I h
 refine wpAny_Call_Name_kw (Qgx I hg hm Qlv ?_ (by decide) (by decide))
 refine PyProof.Rows.callWith_type1 (thn (ha pos pins s σ H _ I h) fun us s1 ⟨vs,H1,I1,r1,a,kd,e1,⟨xs,hq⟩,q⟩=>?_) hs hpl
 subst e1
 obtain ⟨u,rfl,ru⟩:=Qd9 r1
 cases ru
 have fz:∀ b∈[s1.heap.objs.size+1,s1.heap.objs.size],QjR X pins H1 b:=fun b hb=>by
  have hb':s1.heap.objs.size<=b:=by
   rcases List.mem_cons.mp hb with rfl | hb
   ·exact Nat.le_succ _
   ·have z:b=s1.heap.objs.size:=by simpa using hb
    rw [z];exact Nat.le_refl _
  exact I1.fpOk (H':=H1) hb' (I1.hok.fresh hb')
 cases kd with
 |true=>
  obtain ⟨its,rv,pl,hz⟩:=I1.list (show SqL X.K H1 a xs from hq)
  refine call_enumerate_list pl.isList fun h' he hit hsz kp=>wpAny_pyIter_enum he ?_
  have I2:Inv X pins σ H1 { s1 with heap:=h' }:=I1.kept (t':=s1.toks) kp
  exact ⟨s1.heap.objs.size+1,[s1.heap.objs.size+1,s1.heap.objs.size],_,Ite X.K a,H1,rfl,I2,Qkq a _ _ (Nat.succ_ne_self _),⟨⟨_,he⟩,hit⟩,fz,q⟩
 |false=>
  obtain ⟨its,rv,pl,hz⟩:=I1.tuple (show SqT X.K H1 a xs from hq)
  have hal:a<s1.heap.objs.size:=by
   obtain ⟨o,e,_⟩:=pl
   exact Heap.lt_size e
  refine QjN (show s1.heap.IsTuple a its.toArray from pl) fun h' he hit kp=>wpAny_pyIter_enum he ?_
  have I2:Inv X pins σ H1 { s1 with heap:=h' }:=I1.kept (t':=s1.toks) kp
  exact ⟨s1.heap.objs.size+1,[s1.heap.objs.size+1,s1.heap.objs.size],_,QtS X.K a,H1,rfl,I2,Qjr a _ _ (Nat.succ_ne_self _) (Nat.ne_of_gt (Nat.lt_succ_of_lt hal)) (Nat.ne_of_lt hal),⟨⟨_,he⟩,hit⟩,fz,q⟩
end
structure Sh (k b:Nat)(d:PyData):Prop where
 sh:d.showable=true
 dp:d.depth<=k
 bk:d.bulk<=b
 sl:d.leavesShort 61=true
theorem Sh.int {n:Int}(h:n.natAbs<10 ^ 60):Sh 0 0 (.int n) where
 sh:=by
  simp only [PyData.showable]
  exact decide_eq_true (PySem.Spec.log2_small (Nat.lt_of_lt_of_le h (by decide +kernel)))
 dp:=by simp [PyData.depth]
 bk:=by simp [PyData.bulk]
 sl:=by
  have e:=int_text_length_le10 (k:=60) (by decide) h
  simp only [PyData.leavesShort]
  refine decide_eq_true ?_
  show (Str.ofString (toString n)).length<=61
  rw [PySem.ofString_length];exact e
section
def QsR (a:Addr)(cv:Value):HO:=.ext fun h=>∃ o,h.get? a=some o/\o.cls=cv
end
structure Sw (k b:Nat)(d:PyData):Prop where
 sh:d.showable=true
 dp:d.depth<=k
 bk:d.bulk<=b
 sl:d.leavesShort 64=true
theorem Sw.int {n:Int}(h:n.natAbs<10 ^ 62):Sw 0 0 (.int n) where
 sh:=by
  simp only [PyData.showable]
  exact decide_eq_true (PySem.Spec.log2_small (Nat.lt_of_lt_of_le h (by decide +kernel)))
 dp:=by simp [PyData.depth]
 bk:=by simp [PyData.bulk]
 sl:=by
  have e:=int_text_length_le10 (k:=62) (by decide) h
  simp only [PyData.leavesShort]
  refine decide_eq_true ?_
  show (Str.ofString (toString n)).length<=64
  rw [PySem.ofString_length];exact Nat.le_trans e (by decide)
end L2
namespace L2.Srt
open PySem PySem.W PyProof.Rows
def Go {α:Type}(n:Nat)(lt:Nat->Nat->Bool):KasT α->(α->Prop)->Prop
 |.ret a,P=>P a
 |.ask i j k,P=>i<n/\j<n/\Go n lt (k (lt i j)) P
theorem QdZ {α β:Type}{n:Nat}{lt:Nat->Nat->Bool}{f:α->KasT β}{P:β->Prop}:∀ {t:KasT α},Go n lt t (fun a=>Go n lt (f a) P)->Go n lt (t.bind f) P
 |.ret a,h=>h
 |.ask i j k,h=>⟨h.1,h.2.1,QdZ h.2.2⟩
theorem QrQ {α:Type}{n:Nat}{lt:Nat->Nat->Bool}{cmp:Nat->Nat->(Bool->Shared->Prop)->Shared->Prop}{J:Shared->Prop}(hc:∀ i j C s,i<n->j<n->J s->(∀ s',J s'->C (lt i j) s')->cmp i j C s)
  {P:α->Prop} {Q:α->Shared->Prop} (hQ:∀ a s,P a->J s->Q a s):∀ {t:KasT α} {s:Shared},Go n lt t P->J s->t.kasWp cmp Q s
 |.ret a,s,h,hs=>hQ a s h hs
 |.ask i j k,s,h,hs=>hc i j _ s h.1 h.2.1 hs fun s' hs'=>QrQ hc hQ h.2.2 hs'
structure Ord (n:Nat)(lt:Nat->Nat->Bool):Prop where
 ir:∀ i,lt i i=false
 tr:∀ i j k,lt i j=true->lt j k=true->lt i k=true
 to:∀ i j,i<n->j<n->i≠j->lt i j=false->lt j i=true
structure PP (n:Nat)(p:Array Nat):Prop where
 sz:p.size=n
 pm:p.toList.Perm (List.range n)
section
variable {n:Nat}{lt:Nat->Nat->Bool}{p:Array Nat}
abbrev G (p:Array Nat)(i:Nat):Nat:=p.getD i 0
theorem Qe8 {q:Array Nat}{i j:Nat}(h:p[i]? = q[j]?):G p i=G q j:=by
 rw [G,G,Array.getD_eq_getD_getElem?,Array.getD_eq_getD_getElem?,h]
theorem PP.bd (h:PP n p){i:Nat}(hi:i<n):G p i<n:=by
 have hi':i<p.size:=by rw [h.sz];exact hi
 have e:G p i=p[i]:=by simp [G,Array.getD,hi']
 rw [e]
 have m:p[i]∈p.toList:=by simp
 exact List.mem_range.mp (h.pm.mem_iff.mp m)
theorem PP.inj (h:PP n p){i j:Nat}(hi:i<n)(hj:j<n)(ne:i≠j):G p i≠G p j:=by
 have hi':i<p.size:=by rw [h.sz];exact hi
 have hj':j<p.size:=by rw [h.sz];exact hj
 have e1:G p i=p[i]:=by simp [G,Array.getD,hi']
 have e2:G p j=p[j]:=by simp [G,Array.getD,hj']
 have nd:p.toList.Nodup:=h.pm.nodup_iff.mpr List.nodup_range
 intro z
 rw [e1,e2] at z
 have z':p.toList[i]'(by simpa using hi')=p.toList[j]'(by simpa using hj'):=by simpa using z
 exact ne ((List.getElem_inj nd).mp z')
theorem PP.perm {q:Array Nat}(h:PP n p)(hq:q.Perm p):PP n q:=⟨by rw [hq.size_eq];exact h.sz,hq.toList.trans h.pm⟩
def Up (lt:Nat->Nat->Bool)(p:Array Nat)(m:Nat):Prop:=∀ i,1<=i->i<m->lt (G p (i - 1)) (G p i)=true
theorem Up.all (o:Ord n lt){m:Nat}(u:Up lt p m):∀ {j i:Nat},i<j->j<m->lt (G p i) (G p j)=true
 |0,_,h,_=>by omega
 |j+1,i,h,hm=>by
  have s:=u (j+1) (by omega) hm
  by_cases e:i=j
  ·subst e;exact s
  ·exact o.tr _ _ _ (Up.all o u (j:=j) (by omega) (by omega)) s
theorem Qls (o:Ord n lt)(hp:PP n p){P:Nat->Prop}:∀ (f m:Nat),1<=m->m+f<=n->
  (∀ m',m<=m'->m'<=m+f->(∀ i,m<=i->i<m'->lt (G p (i - 1)) (G p i)=true)->(m' < m+f->lt (G p m') (G p (m' - 1))=true)->P m')->Go n lt (kas_asc p f m) P
 |0,m,h1,h2,k=>k m (Nat.le_refl _) (Nat.le_refl _) (fun i a b=>by omega) (fun z=>by omega)
 |f+1,m,h1,h2,k=>by
  refine ⟨hp.bd (by omega),hp.bd (by omega),?_⟩
  cases c:lt (G p m) (G p (m - 1)) with
  |true=>
   show Go n lt (if true=true then _ else _) P
   rw [if_pos rfl]
   exact k m (Nat.le_refl _) (by omega) (fun i a b=>by omega) (fun _=>c)
  |false=>
   show Go n lt (if false=true then _ else _) P
   rw [if_neg Bool.false_ne_true]
   have s:=o.to _ _ (hp.bd (by omega)) (hp.bd (by omega)) (hp.inj (i:=m) (j:=m - 1) (by omega) (by omega) (by omega)) c
   refine Qls o hp f (m+1) (by omega) (by omega) fun m' a b r t=>k m' (by omega) (by omega) (fun i x y=>?_) (fun z=>t (by omega))
   by_cases e:i=m
   ·subst e;exact s
   ·exact r i (by omega) y
theorem Qkn (o:Ord n lt)(hp:PP n p){P:Array Nat × Nat × Nat->Prop}:∀ (f m:Nat),1<=m->m+f<=n->
  (∀ m',m<=m'->m'<=m+f->(∀ i,m<=i->i<m'->lt (G p i) (G p (i - 1))=true)->P (p,m',0))->Go n lt (kas_desc f p m 0) P
 |0,m,h1,h2,k=>k m (Nat.le_refl _) (Nat.le_refl _) (fun i a b=>by omega)
 |f+1,m,h1,h2,k=>by
  refine ⟨hp.bd (by omega),hp.bd (by omega),?_⟩
  cases c:lt (G p m) (G p (m - 1)) with
  |true=>
   show Go n lt (if true=true then _ else _) P
   rw [if_pos rfl,if_neg (by omega)]
   refine Qkn o hp f (m+1) (by omega) (by omega) fun m' a b r=>k m' (by omega) (by omega) (fun i x y=>?_)
   by_cases e:i=m
   ·subst e;exact c
   ·exact r i (by omega) y
  |false=>
   show Go n lt (if false=true then _ else _) P
   rw [if_neg Bool.false_ne_true]
   have s:=o.to _ _ (hp.bd (by omega)) (hp.bd (by omega)) (hp.inj (i:=m) (j:=m - 1) (by omega) (by omega) (by omega)) c
   refine ⟨hp.bd (by omega),hp.bd (by omega),?_⟩
   have s':lt (p.getD (m - 1) 0) (p.getD m 0)=true:=s
   rw [s']
   show Go n lt (if true=true then _ else _) P
   rw [if_pos rfl]
   exact k m (Nat.le_refl _) (by omega) (fun i a b=>by omega)
theorem Qqc {m k:Nat}(hm:m<=p.size):G (kas_rev p 0 m) k=if k<m then G p (m - 1 - k) else G p k:=by
 unfold kas_rev
 have e:=getElem?_mirror_all (xs:=p) (i:=0) hm k
 by_cases h:k<m
 ·rw [if_pos ⟨Nat.zero_le _,h⟩] at e
  rw [if_pos h,Qe8 e,Nat.zero_add]
 ·rw [if_neg (fun z=>h z.2)] at e
  rw [if_neg h,Qe8 e]
theorem QmS (o:Ord n lt)(hp:PP n p)(h2:2<=n){P:Nat × Array Nat->Prop}(k:∀ m q,PP n q->1<=m->m<=n->Up lt q m->P (m,q)):Go n lt (kas_count n p) P:=by
 unfold kas_count
 refine QdZ (Qls o hp (n - 1) 1 (by omega) (by omega) fun m a b r t=>?_)
 have up:Up lt p m:=fun i x y=>r i x y
 by_cases e:m=n
 ·rw [if_pos (by simpa using e)]
  exact k m p hp (by omega) (by omega) up
 ·rw [if_neg (by simpa using e)]
  by_cases e1:m > 1
  ·rw [if_pos e1]
   refine ⟨hp.bd (by omega),hp.bd (by omega),?_⟩
   have s:lt (p.getD 0 0) (p.getD (m - 1) 0)=true:=up.all o (i:=0) (j:=m - 1) (by omega) (by omega)
   rw [s]
   show Go n lt (if true=true then _ else _) P
   rw [if_pos rfl]
   exact k m p hp (by omega) (by omega) up
  ·rw [if_neg e1]
   have m1:m=1:=by omega
   subst m1
   have d1:=t (by omega)
   unfold kas_descPart
   refine QdZ (Qkn o hp (n - (1+1)) (1+1) (by omega) (by omega) fun m' a' b' r'=>?_)
   show Go n lt (if 0 > 0 then _ else kas_tail3 m' n p) P
   rw [if_neg (by omega)]
   unfold kas_tail3
   have hq:PP n (kas_rev p 0 m'):=hp.perm (mirror_perm _ _ _ _)
   have hsz:m'<=p.size:=by rw [hp.sz];omega
   refine QdZ (Qls o hq (n - m') m' (by omega) (by omega) fun m'' a'' b'' r'' t''=>?_)
   refine k m'' _ hq (by omega) (by omega) fun i x y=>?_
   by_cases c:i<m'
   ·rw [Qqc hsz,Qqc hsz,if_pos (by omega),if_pos c]
    have dn:∀ j,1<=j->j<m'->lt (G p j) (G p (j - 1))=true:=fun j j1 j2=>by
     by_cases z:j=1
     ·subst z;exact d1
     ·exact r' j (by omega) j2
    have s:=dn (m' - 1 - (i - 1)) (by omega) (by omega)
    rw [show m' - 1 - (i - 1) - 1=m' - 1 - i by omega] at s
    exact s
   ·exact r'' i (by omega) y
theorem Qgd (o:Ord n lt)(hp:PP n p){k:Nat}(hk:k<n)(u:Up lt p k){P:Nat->Prop}(K:∀ l,l<=k->(∀ i,i<l->lt (G p i) (G p k)=true)->(∀ i,l<=i->i<k->lt (G p k) (G p i)=true)->P l) :
  ∀ (f l r:Nat),l<=r->r<=k->r - l<=f->(∀ i,i<l->lt (G p i) (G p k)=true)->(∀ i,r<=i->i<k->lt (G p k) (G p i)=true)->Go n lt (kas_place p k f l r) P
 |0,l,r,h1,h2,h3,a,b=>K l (by omega) a fun i x y=>b i (by omega) y
 |f+1,l,r,h1,h2,h3,a,b=>by
  unfold kas_place
  by_cases c:l ≥ r
  ·rw [if_pos c]
   exact K l (by omega) a fun i x y=>b i (by omega) y
  ·rw [if_neg c]
   refine ⟨hp.bd hk,hp.bd (by omega),?_⟩
   have hm:(l+r) / 2<r/\l<=(l+r) / 2:=by omega
   cases d:lt (G p k) (G p ((l+r) / 2)) with
   |true=>
    show Go n lt (if true=true then _ else _) P
    rw [if_pos rfl]
    refine Qgd o hp hk u K f l ((l+r) / 2) (by omega) (by omega) (by omega) a fun i x y=>?_
    by_cases e:i=(l+r) / 2
    ·subst e;exact d
    ·exact o.tr _ _ _ d (u.all o (by omega) y)
   |false=>
    show Go n lt (if false=true then _ else _) P
    rw [if_neg Bool.false_ne_true]
    have s:=o.to _ _ (hp.bd hk) (hp.bd (by omega)) (hp.inj (i:=k) (j:=(l+r) / 2) hk (by omega) (by omega)) d
    refine Qgd o hp hk u K f ((l+r) / 2+1) r (by omega) (by omega) (by omega) (fun i x=>?_) b
    by_cases e:i=(l+r) / 2
    ·subst e;exact s
    ·exact o.tr _ _ _ (u.all o (show i<(l+r) / 2 by omega) (by omega)) s
theorem QnZ (o:Ord n lt){P:Array Nat->Prop}(K:∀ q,PP n q->Up lt q n->P q):∀ (f k:Nat) (p:Array Nat),PP n p->k+f=n->1<=k->Up lt p k->Go n lt (kas_bin f p k) P
 |0,k,p,hp,e,_,u=>K p hp (by have:k=n:=(by omega);subst this;exact u)
 |f+1,k,p,hp,e,k1,u=>by
  have hk:k<n:=by omega
  refine QdZ (Qgd o hp hk u (fun l hl a b=>?_) k 0 k (by omega) (by omega) (by omega) (fun i x=>by omega) fun i x y=>by omega)
  have hq:PP n (bubble p k (k - l)):=hp.perm (bubble_perm _ _ _)
  have hs:k<p.size:=by rw [hp.sz];exact hk
  have gb:∀ i,G (bubble p k (k - l)) i=if i=l then G p k else if l<i/\i<=k then G p (i - 1) else G p i:=fun i=>by
   have z:=getElem?_bubble hs (k - l) (by omega) i
   rw [show k - (k - l)=l by omega] at z
   by_cases c1:i=l
   ·rw [if_pos c1] at z ⊢;exact Qe8 z
   ·rw [if_neg c1] at z ⊢
    by_cases c2:l<i/\i<=k
    ·rw [if_pos c2] at z ⊢;exact Qe8 z
    ·rw [if_neg c2] at z ⊢;exact Qe8 z
  refine QnZ o K f (k+1) _ hq (by omega) (by omega) fun i i1 i2=>?_
  rw [gb,gb]
  by_cases c1:i=l
  ·rw [if_pos c1,if_neg (by omega),if_neg (by omega)]
   exact a _ (by omega)
  ·rw [if_neg c1]
   by_cases c2:i - 1=l
   ·rw [if_pos c2,if_pos (by omega)]
    exact b _ (by omega) (by omega)
   ·rw [if_neg c2]
    by_cases c3:l<i
    ·rw [if_pos ⟨by omega,by omega⟩,if_pos ⟨c3,by omega⟩]
     exact u (i - 1) (by omega) (by omega)
    ·rw [if_neg (by omega),if_neg (by omega)]
     exact u i i1 (by omega)
theorem Qpt (o:Ord n lt)(h2:2<=n){P:Array Nat->Prop}(K:∀ q,PP n q->Up lt q n->P q):Go n lt (kas_sort n) P:=by
 have hp:PP n (List.toArray (List.range n)):=⟨by simp,by simp⟩
 unfold kas_sort
 refine QdZ (QmS o hp h2 fun m q hq m1 mn u=>?_)
 show Go n lt (if m<n then kas_bin (n - max m 1) q (max m 1) else .ret q) P
 by_cases c:m<n
 ·rw [if_pos c,show max m 1=m by omega]
  exact QnZ o K (n - m) m q hq (by omega) m1 u
 ·rw [if_neg c]
  have e:m=n:=by omega
  subst e
  exact K q hq u
end
end L2.Srt
namespace L2.Srt
open PySem PySem.W PySem.Calls PyProof.Rows
section
variable {prog:Program}{w:World}{A:Around}{E:Value->Shared->Prop}{s:Shared}
def Kp (h h':Heap):Prop:=∀ b o,h.get? b=some o->h'.get? b=some o
theorem Qki {a:Addr}{vs:List Value}{n:Nat}{κ:SortKind}{lt:Nat->Nat->Bool}{h0:Heap}{P:PySem.Fin->Shared->Prop}(ho:s.heap.get? a=some (seqObj "list" vs.toArray n))(h0k:Kp h0 s.heap)(h0a:h0.get? a=none)(h2:2<=vs.length)(h64:vs.length<64)(o:Ord vs.length lt)
  (hk:∀ (h':Heap) (tk:Nat) (Q:SortKind->Shared->Prop),Kp h0 h'->Q κ { s with heap:=h',toks:=tk }->wpAny (model prog w) A (keyKind' vs.toArray) Q (fun _ _=>False) { s with heap:=h',toks:=tk })
  (hc:∀ (h':Heap) (tk i j:Nat) (Q:Bool->Shared->Prop),Kp h0 h'->i<vs.length->j<vs.length->(∀ tk',Q (lt i j) { s with heap:=h',toks:=tk' })->wpAny (model prog w) A (keyLt' κ (vs.getD i Value.none) (vs.getD j Value.none)) Q (fun _ _=>False) { s with heap:=h',toks:=tk })
  (hQ:∀ (h':Heap) (tk:Nat) (p:Array Nat) (c:Nat),PP vs.length p->Up lt p vs.length->Kp h0 h'->h'.get? a=some (seqObj "list" (List.toArray (p.toList.map fun i=>vs.getD i Value.none)) c)->P (.done (.ret .none)) { s with heap:=h',toks:=tk }) :
  wpAny (model prog w) A (Builtin.«list.sort» ⟨[.ref a],[]⟩) P E s:=by
 have ha:a<s.heap.objs.size:=Heap.lt_size ho
 have s1:=Heap.SameBut.update s.heap a (Obj.mapSeq fun _=>(#[]:Array Value))
 obtain ⟨e1,ho1⟩:∃ e1,(s.heap.update a (Obj.mapSeq fun _=>(#[]:Array Value))).get? a=some (seqObj "list" #[] e1):=⟨_,get?_update_seq ho fun _=>#[]⟩
 have ne:∀ b o,h0.get? b=some o->b≠a:=fun b o e z=>by rw [z,h0a] at e;cases e
 have kp3:Kp h0 (((s.heap.update a (Obj.mapSeq fun _=>(#[]:Array Value))).push (seqObj "tuple" vs.toArray 0)).push (seqObj "list" #[] 0)):=fun b x e=>
  Heap.get?_push_of_some _ (Heap.get?_push_of_some _ ((s1.2 b (ne b x e)).trans (h0k b x e)))
 have ho3:(((s.heap.update a (Obj.mapSeq fun _=>(#[]:Array Value))).push (seqObj "tuple" vs.toArray 0)).push (seqObj "list" #[] 0)).get? a=some (seqObj "list" #[] e1):=Heap.get?_push_of_some _ (Heap.get?_push_of_some _ ho1)
 rw [list_sort_plain]
 refine wpAny_bind (listItems_at ho rfl ?_)
 refine wpAny_bind (listUpdate_at ho rfl ?_ (by rw [List.size_toArray,sizeLine_eq];omega) (Nat.zero_le _))
 refine wpAny_bind (seqEpoch_at ho1 rfl ?_)
 refine wpAny_bind (wpAny_newTuple ?_ (by show vs.length<=_;rw [sizeLine_eq];omega))
 refine wpAny_bind (wpAny_newList ?_ (Nat.zero_le _))
 refine wpAny_holding ?_
 show wpAny (model prog w) A _ P E { s with heap:=((s.heap.update a (Obj.mapSeq fun _=>(#[]:Array Value))).push (seqObj "tuple" vs.toArray 0)).push (seqObj "list" #[] 0) }
 generalize ((s.heap.update a (Obj.mapSeq fun _=>(#[]:Array Value))).push (seqObj "tuple" vs.toArray 0)).push (seqObj "list" #[] 0)=h3 at kp3 ho3 ⊢
 dsimp only
 have hn2:¬ vs.toArray.size<2:=by rw [List.size_toArray];omega
 rw [if_neg hn2,if_neg hn2]
 refine wpAny_bind (wpAny_mono (hk h3 s.toks (fun κ' s'=>κ'=κ/\s'={ s with heap:=h3 }) kp3 ⟨rfl,rfl⟩) (fun κ' s0 hk'=>?_) fun _ _ x=>x.elim)
 obtain ⟨rfl,rfl⟩:=hk'
 refine wpAny_bind (wpAny_mono (kat_run (κ:=κ') (Q:=fun st' s'=>∃ p:Array Nat,p.size=vs.length/\arrOf st'=p.map (kas_item (vs.toArray.zip vs.toArray))/\failedOf st'=none/\(PP vs.length p/\Up lt p vs.length)/\∃ tk,s'={ s with heap:=h3,toks:=tk })
  (G:=fun p s'=>(PP vs.length p/\Up lt p vs.length)/\∃ tk,s'={ s with heap:=h3,toks:=tk }) rfl h2 h64 (fun p' st' s' a1 a2 a3 a4=>⟨p',a1,a2,a3,a4⟩) ?_) ?_ fun _ _ e=>e)
 ·refine QrQ (lt:=lt) (n:=vs.length) (J:=fun s'=>∃ tk,s'={ s with heap:=h3,toks:=tk }) (P:=fun p=>PP vs.length p/\Up lt p vs.length) (fun i j C s' hi hj hs' hC=>?_) (fun p s' hp hs'=>⟨hp,hs'⟩) (Qpt o h2 fun q a b=>⟨a,b⟩) ⟨s.toks,rfl⟩
  obtain ⟨tk,rfl⟩:=hs'
  exact hc h3 tk i j C kp3 hi hj fun tk'=>hC _ ⟨tk',rfl⟩
 ·rintro ⟨⟨⟩,st'⟩ s' ⟨p,hp,har,hf,⟨pp,up⟩,tk,rfl⟩
  dsimp only
  have hout:=kat_snds (ks:=vs) (vs:=vs) rfl har
  have hsz:(List.toArray (p.toList.map fun i=>vs.getD i Value.none)).size=vs.length:=by rw [List.size_toArray,List.length_map,Array.length_toList,hp]
  rw [hout]
  have s2:=Heap.SameBut.update h3 a (Obj.mapSeq fun _=>List.toArray (p.toList.map fun i=>vs.getD i Value.none))
  obtain ⟨c2,hc2⟩:∃ c2,(h3.update a (Obj.mapSeq fun _=>List.toArray (p.toList.map fun i=>vs.getD i Value.none))).get? a=some (seqObj "list" (List.toArray (p.toList.map fun i=>vs.getD i Value.none)) c2):=⟨_,get?_update_seq ho3 fun _=>List.toArray (p.toList.map fun i=>vs.getD i Value.none)⟩
  refine wpAny_bind (seqEpoch_at ho3 rfl ?_)
  refine wpAny_bind (listUpdate_at ho3 rfl ?_ (Nat.zero_le _) (Nat.le_trans (Nat.le_of_eq hsz) (by rw [sizeLine_eq];omega)))
  rw [hf]
  simp only [bne_self_eq_false,Bool.false_eq_true,if_false]
  exact wpAny_pure (hQ _ tk p c2 pp up (fun b x e=>(s2.2 b (ne b x e)).trans (kp3 b x e)) hc2)
theorem Qit {l:Addr}{vs:List Value}{κ:SortKind}{lt:Nat->Nat->Bool}{Q:Value->Shared->Prop}(hl:s.heap.IsList l vs.toArray)(h2:2<=vs.length)(h64:vs.length<64)(o:Ord vs.length lt)
  (hk:∀ (h':Heap) (tk:Nat) (Q:SortKind->Shared->Prop),Kp s.heap h'->Q κ { s with heap:=h',toks:=tk }->wpAny (model prog w) A.in1.in1 (keyKind' vs.toArray) Q (fun _ _=>False) { s with heap:=h',toks:=tk })
  (hc:∀ (h':Heap) (tk i j:Nat) (Q:Bool->Shared->Prop),Kp s.heap h'->i<vs.length->j<vs.length->(∀ tk',Q (lt i j) { s with heap:=h',toks:=tk' })->wpAny (model prog w) A.in1.in1 (keyLt' κ (vs.getD i Value.none) (vs.getD j Value.none)) Q (fun _ _=>False) { s with heap:=h',toks:=tk })
  (hQ:∀ (h':Heap) (tk:Nat) (p:Array Nat) (c:Nat),PP vs.length p->Up lt p vs.length->Kp s.heap h'->h'.get? (s.heap.objs.size+1)=some (seqObj "list" (List.toArray (p.toList.map fun i=>vs.getD i Value.none)) c)->Q (.ref (s.heap.objs.size+1)) { s with heap:=h',toks:=tk }) :
  wpAny (model prog w) A (call (.builtin "sorted") [.ref l]) Q E s:=by
 refine Calls.call_function_entry kind_sorted plain_sorted entry_sorted (args_sorted1 _) ?_
 unfold Builtin.«sorted»
 refine wpAny_bind (m:=checkCount "sorted" 1 1 _) (wpAny_pure ?_)
 refine wpAny_bind (collect_list hl ?_ (by rw [sizeLine_eq];omega))
 refine wpAny_bind (wpAny_newList ?_ (by rw [sizeLine_eq];omega))
 have hsz:((s.heap.push (seqObj "list" #[] 0)).update s.heap.objs.size (Obj.mapSeq (·++vs.toArray))).objs.size=s.heap.objs.size+1:=by
  rw [Heap.size_update,size_push']
 have hoL:(((s.heap.push (seqObj "list" #[] 0)).update s.heap.objs.size (Obj.mapSeq (·++vs.toArray))).push (seqObj "list" vs.toArray 0)).get? (s.heap.objs.size+1)=some (seqObj "list" vs.toArray 0):=by
  rw [← hsz];exact Heap.get?_push_size _ rfl
 have keep:Kp s.heap (((s.heap.push (seqObj "list" #[] 0)).update s.heap.objs.size (Obj.mapSeq (·++vs.toArray))).push (seqObj "list" vs.toArray 0)):=fun b o q=>by
  have hlt:b<s.heap.objs.size:=Heap.lt_size q
  rw [Heap.get?_push_ne _ _ _ (by rw [hsz];exact Nat.ne_of_lt (Nat.lt_succ_of_lt hlt)),Heap.get?_update_ne _ _ _ _ (Nat.ne_of_lt hlt),Heap.get?_push_ne _ _ _ (Nat.ne_of_lt hlt)]
  exact q
 have hn0:s.heap.get? (s.heap.objs.size+1)=none:=Heap.get?_none_of_le (Nat.le_succ _)
 show wpAny _ _ _ _ _ { s with heap:=((s.heap.push (seqObj "list" #[] 0)).update s.heap.objs.size (Obj.mapSeq (·++vs.toArray))).push (seqObj "list" vs.toArray 0) }
 rw [hsz]
 refine wpAny_bind (wpAny_holding (wpAny_call_entry slot_list_sort ⟨_,hoL,rfl⟩ entry_list_sort ?body (args_list_sort _)))
 case body=>
  refine Qki (s:={ s with heap:=((s.heap.push (seqObj "list" #[] 0)).update s.heap.objs.size (Obj.mapSeq (·++vs.toArray))).push (seqObj "list" vs.toArray 0) }) (h0:=s.heap) (κ:=κ) (lt:=lt) hoL keep hn0 h2 h64 o (fun h' tk Q kp q=>hk h' tk Q kp q) (fun h' tk i j Q kp hi hj q=>hc h' tk i j Q kp hi hj q) fun h' tk p c pp up kp hD=>?_
  exact ⟨_,rfl,wpAny_pure ⟨_,rfl,hQ h' tk p c pp up kp hD⟩⟩
end
section
variable {prog:Program}{w:World}{A:Around}{E:Value->Shared->Prop}{s:Shared}
theorem Qjt {a:Addr}{vs:List Value}{n:Nat}{h0:Heap}{P:PySem.Fin->Shared->Prop}(ho:s.heap.get? a=some (seqObj "list" vs.toArray n))(h0k:Kp h0 s.heap)(h0a:h0.get? a=none)(h2:vs.length<2)
  (hQ:∀ (h':Heap) (tk:Nat) (c:Nat),Kp h0 h'->h'.get? a=some (seqObj "list" vs.toArray c)->P (.done (.ret .none)) { s with heap:=h',toks:=tk }) :
  wpAny (model prog w) A (Builtin.«list.sort» ⟨[.ref a],[]⟩) P E s:=by
 have s1:=Heap.SameBut.update s.heap a (Obj.mapSeq fun _=>(#[]:Array Value))
 obtain ⟨e1,ho1⟩:∃ e1,(s.heap.update a (Obj.mapSeq fun _=>(#[]:Array Value))).get? a=some (seqObj "list" #[] e1):=⟨_,get?_update_seq ho fun _=>#[]⟩
 have ne:∀ b o,h0.get? b=some o->b≠a:=fun b o e z=>by rw [z,h0a] at e;cases e
 have kp3:Kp h0 (((s.heap.update a (Obj.mapSeq fun _=>(#[]:Array Value))).push (seqObj "tuple" vs.toArray 0)).push (seqObj "list" #[] 0)):=fun b x e=>
  Heap.get?_push_of_some _ (Heap.get?_push_of_some _ ((s1.2 b (ne b x e)).trans (h0k b x e)))
 have ho3:(((s.heap.update a (Obj.mapSeq fun _=>(#[]:Array Value))).push (seqObj "tuple" vs.toArray 0)).push (seqObj "list" #[] 0)).get? a=some (seqObj "list" #[] e1):=Heap.get?_push_of_some _ (Heap.get?_push_of_some _ ho1)
 rw [list_sort_plain]
 refine wpAny_bind (listItems_at ho rfl ?_)
 refine wpAny_bind (listUpdate_at ho rfl ?_ (by rw [List.size_toArray,sizeLine_eq];omega) (Nat.zero_le _))
 refine wpAny_bind (seqEpoch_at ho1 rfl ?_)
 refine wpAny_bind (wpAny_newTuple ?_ (by show vs.length<=_;rw [sizeLine_eq];omega))
 refine wpAny_bind (wpAny_newList ?_ (Nat.zero_le _))
 refine wpAny_holding ?_
 show wpAny (model prog w) A _ P E { s with heap:=((s.heap.update a (Obj.mapSeq fun _=>(#[]:Array Value))).push (seqObj "tuple" vs.toArray 0)).push (seqObj "list" #[] 0) }
 generalize ((s.heap.update a (Obj.mapSeq fun _=>(#[]:Array Value))).push (seqObj "tuple" vs.toArray 0)).push (seqObj "list" #[] 0)=h3 at kp3 ho3 ⊢
 dsimp only
 have hn2:vs.toArray.size<2:=by rw [List.size_toArray];omega
 rw [if_pos hn2,if_pos hn2]
 refine wpAny_bind (wpAny_pure ?_)
 rw [StateT.run_pure]
 refine wpAny_bind (wpAny_pure ?_)
 dsimp only
 have e2:(arrOf (SortSt.mk' general' (vs.toArray.zip vs.toArray) #[] 7 none)).map (·.2)=vs.toArray:=by
  show ((vs.toArray.zip vs.toArray)).map (·.2)=vs.toArray
  apply Array.toList_inj.mp
  simp [List.map_snd_zip]
 rw [e2]
 have s2:=Heap.SameBut.update h3 a (Obj.mapSeq fun _=>vs.toArray)
 obtain ⟨c2,hc2⟩:∃ c2,(h3.update a (Obj.mapSeq fun _=>vs.toArray)).get? a=some (seqObj "list" vs.toArray c2):=⟨_,get?_update_seq ho3 fun _=>vs.toArray⟩
 refine wpAny_bind (seqEpoch_at ho3 rfl ?_)
 refine wpAny_bind (listUpdate_at ho3 rfl ?_ (Nat.zero_le _) (by rw [List.size_toArray,sizeLine_eq];omega))
 simp only [bne_self_eq_false,Bool.false_eq_true,if_false]
 exact wpAny_pure (hQ _ s.toks c2 (fun b x e=>(s2.2 b (ne b x e)).trans (kp3 b x e)) hc2)
end
section
variable {prog:Program}{w:World}{A:Around}{E:Value->Shared->Prop}{s:Shared}
theorem Qjp {l:Addr}{vs:List Value}{κ:SortKind}{lt:Nat->Nat->Bool}{Q:Value->Shared->Prop}(hl:s.heap.IsList l vs.toArray)(h64:vs.length<64)(o:Ord vs.length lt)
  (hk:2<=vs.length->∀ (h':Heap) (tk:Nat) (Q:SortKind->Shared->Prop),Kp s.heap h'->Q κ { s with heap:=h',toks:=tk }->wpAny (model prog w) A.in1.in1 (keyKind' vs.toArray) Q (fun _ _=>False) { s with heap:=h',toks:=tk })
  (hc:∀ (h':Heap) (tk i j:Nat) (Q:Bool->Shared->Prop),Kp s.heap h'->i<vs.length->j<vs.length->(∀ tk',Q (lt i j) { s with heap:=h',toks:=tk' })->wpAny (model prog w) A.in1.in1 (keyLt' κ (vs.getD i Value.none) (vs.getD j Value.none)) Q (fun _ _=>False) { s with heap:=h',toks:=tk })
  (hQ:∀ (h':Heap) (tk:Nat) (p:Array Nat) (c:Nat),PP vs.length p->Up lt p vs.length->Kp s.heap h'->h'.get? (s.heap.objs.size+1)=some (seqObj "list" (List.toArray (p.toList.map fun i=>vs.getD i Value.none)) c)->Q (.ref (s.heap.objs.size+1)) { s with heap:=h',toks:=tk }) :
  wpAny (model prog w) A (call (.builtin "sorted") [.ref l]) Q E s:=by
 by_cases h2:2<=vs.length
 ·exact Qit hl h2 h64 o (hk h2) hc hQ
 ·refine Calls.call_function_entry kind_sorted plain_sorted entry_sorted (args_sorted1 _) ?_
  unfold Builtin.«sorted»
  refine wpAny_bind (m:=checkCount "sorted" 1 1 _) (wpAny_pure ?_)
  refine wpAny_bind (collect_list hl ?_ (by rw [sizeLine_eq];omega))
  refine wpAny_bind (wpAny_newList ?_ (by rw [sizeLine_eq];omega))
  have hsz:((s.heap.push (seqObj "list" #[] 0)).update s.heap.objs.size (Obj.mapSeq (·++vs.toArray))).objs.size=s.heap.objs.size+1:=by
   rw [Heap.size_update,size_push']
  have hoL:(((s.heap.push (seqObj "list" #[] 0)).update s.heap.objs.size (Obj.mapSeq (·++vs.toArray))).push (seqObj "list" vs.toArray 0)).get? (s.heap.objs.size+1)=some (seqObj "list" vs.toArray 0):=by
   rw [← hsz];exact Heap.get?_push_size _ rfl
  have keep:Kp s.heap (((s.heap.push (seqObj "list" #[] 0)).update s.heap.objs.size (Obj.mapSeq (·++vs.toArray))).push (seqObj "list" vs.toArray 0)):=fun b o q=>by
   have hlt:b<s.heap.objs.size:=Heap.lt_size q
   rw [Heap.get?_push_ne _ _ _ (by rw [hsz];exact Nat.ne_of_lt (Nat.lt_succ_of_lt hlt)),Heap.get?_update_ne _ _ _ _ (Nat.ne_of_lt hlt),Heap.get?_push_ne _ _ _ (Nat.ne_of_lt hlt)]
   exact q
  have hn0:s.heap.get? (s.heap.objs.size+1)=none:=Heap.get?_none_of_le (Nat.le_succ _)
  show wpAny _ _ _ _ _ { s with heap:=((s.heap.push (seqObj "list" #[] 0)).update s.heap.objs.size (Obj.mapSeq (·++vs.toArray))).push (seqObj "list" vs.toArray 0) }
  rw [hsz]
  refine wpAny_bind (wpAny_holding (wpAny_call_entry slot_list_sort ⟨_,hoL,rfl⟩ entry_list_sort ?body (args_list_sort _)))
  case body=>
   refine Qjt (s:={ s with heap:=((s.heap.push (seqObj "list" #[] 0)).update s.heap.objs.size (Obj.mapSeq (·++vs.toArray))).push (seqObj "list" vs.toArray 0) }) (h0:=s.heap) hoL keep hn0 (by omega) fun h' tk c kp hD=>?_
   refine ⟨_,rfl,wpAny_pure ⟨_,rfl,hQ h' tk (List.toArray (List.range vs.length)) c ⟨by simp,by simp⟩ (fun i i1 i2=>by omega) kp ?_⟩⟩
   rw [hD]
   congr 2
   match vs,h2 with
   | [],_=>rfl
   | [v],_=>rfl
   |_ :: _ :: _,h=>exact absurd (by simp) h
end
def ltP (a b:Int × Int):Bool:=decide (a.1<b.1\/(a.1=b.1/\a.2<b.2))
def PT (K:PySem.W.Frag)(H:Hp)(q:Addr)(pr:Int × Int):Prop:=SqT K H q [.int pr.1,.int pr.2]
def PO (h:Heap)(q:Addr)(pr:Int × Int):Prop:=∃ o t u n,h.get? q=some o/\o.cls=.type "tuple" /\ o.data=.seq #[.int pr.1 t,.int pr.2 u] n
theorem PO.kp {h h':Heap}{q:Addr}{pr:Int × Int}(p:PO h q pr)(k:Kp h h'):PO h' q pr:=by
 obtain ⟨o,t,u,n,e,r⟩:=p
 exact ⟨o,t,u,n,k _ _ e,r⟩
theorem Qtw {X:Cx}{pins:List (Addr × Obj)}{σ:St}{H:Hp}{s:Shared}(I:Inv X pins σ H s){q:Addr}{pr:Int × Int}(h:PT X.K H q pr):PO s.heap q pr:=by
 obtain ⟨its,rv,⟨o,e,c,n,d⟩,_⟩:=I.tuple h
 obtain ⟨u,v,rfl,⟨t,rfl⟩,⟨t',rfl⟩⟩:=Vals.two rv
 exact ⟨o,t,t',n,e,c,d⟩
theorem QjK {α:Type}(d:α)(l:List α):(List.range l.length).map (fun i=>l.getD i d)=l:=by
 apply List.ext_getElem
 ·simp
 ·intro i h1 h2
  simp [List.getD_eq_getElem?_getD,List.getElem?_eq_getElem h2]
section
theorem Qhi:∀ {qs:List Addr} {us:List Value},Vals (qs.map V.ref) us->us=qs.map Value.ref
 | [],_,.nil=>rfl
 |q :: qs,_,.cons r t=>by cases r;rw [Qhi t];rfl
theorem QgR:∀ (qs:List Addr),Vals (qs.map V.ref) (qs.map Value.ref)
 | []=>.nil
 |q :: qs=>.cons rfl (QgR qs)
end
inductive Qgh (A:Around) (s:Shared) (fin:Bool):List (Value × Value)->Bool->Prop
 |nil:Qgh A s fin [] fin
 |eq {p q:Value} {r:List (Value × Value)} {b:Bool} (h:SeqAt.EqAt A s p q true) (t:Qgh A s fin r b):Qgh A s fin ((p,q) :: r) b
 |lt {p q:Value} {r:List (Value × Value)} {b:Bool} (h:SeqAt.EqAt A s p q false) (t:∀ (prog:Program) (w:World) (E Q:Value->Shared->Prop),Q (.bool b) s->wpAny (model prog w) A (richCompare .Lt p q) Q E s):Qgh A s fin ((p,q) :: r) b
section
open PySem.SeqAt
open PySem.AutoSeq1 (wpAny_loadPart')
open PySem.MeetsSeq PySem.MeetsSeq2 PySem.MeetsSeq3
theorem QgO (l b:Addr)(items items2:Array Value)(n n2:Nat)(dd dd2:Option Addr)(sl sl2:Array (Option Value))(res:Bool) :
  Meets (Builtin.«tuple.__lt__» ⟨[.ref l,.ref b],[]⟩)
   (fun A R s=>s.heap.get? l=some { cls:=.type "tuple",dict:=dd,data:=.seq items n,slots:=sl }/\s.heap.get? b=some { cls:=.type "tuple",dict:=dd2,data:=.seq items2 n2,slots:=sl2 }/\
    Qgh A.in1 s (decide (items.size<items2.size)) (items.toList.zip items2.toList) res/\R (.ok (.ret (.bool res))) s):=
 .of_wp fun prog w A R s h=>by
  obtain ⟨hp,g,d,tk,os⟩:=s;obtain ⟨hl,hb,hx,h⟩:=h
  have f2:=AutoSeq1.sub_tuple_tuple
  wp_walk using wpAny_loadPart' hl,wpAny_loadPart' hb,wpAny_forIn_list _ (fun rest b s'=>b.1=none/\s'=⟨hp,g,d,tk,os⟩/\Qgh A.in1 ⟨hp,g,d,tk,os⟩ (decide (items.size<items2.size)) rest res) _
  case turn=>
   rintro ⟨y,x⟩ rest b s' ⟨hb',rfl,hL⟩
   cases hL with
   |eq he hr=>
    refine wpAny_bind (he prog w _ _ ?_)
    wp_walk
    exact ⟨rfl,rfl,hr⟩
   |lt he hlt=>
    refine wpAny_bind (he prog w _ _ ?_)
    have hri:=hlt prog w
    wp_walk using hri
    exact ⟨_,rfl,by simpa using h⟩
  case fin=>
   rintro ⟨b1,b2⟩ s' ⟨hb',rfl,hL⟩
   simp only at hb'
   subst hb'
   cases hL
   wp_walk
   exact ⟨_,rfl,by simpa [Builtin.Tuple.tupleCompareSizes] using h⟩
  case h=>exact ⟨rfl,rfl,hx⟩
end
theorem QnY {prog:Program}{w:World}{A:Around}{E:Value->Shared->Prop}{s:Shared}{l b:Addr}{o o2:Obj}{items items2:Array Value}{n n2:Nat}{res:Bool}{Q:Value->Shared->Prop}(h1:s.heap.get? l=some o)(c1:o.cls=.type "tuple")(d1:o.data=.seq items n)(h2:s.heap.get? b=some o2)(c2:o2.cls=.type "tuple")(d2:o2.data=.seq items2 n2)
  (hu:A.units<cLine) (hx:Qgh A.in1 s (decide (items.size<items2.size)) (items.toList.zip items2.toList) res) (h:Q (.bool res) s):wpAny (model prog w) A (compareOp .Lt (.ref l) (.ref b)) Q E s:=by
 obtain ⟨cls,dd,data,sl⟩:=o
 obtain ⟨cls2,dd2,data2,sl2⟩:=o2
 simp only at c1 d1 c2 d2
 subst c1 d1 c2 d2
 exact richCompare_meets_room (op:=.Lt) ⟨_,h1,rfl⟩ ⟨_,h2,rfl⟩ PySem.F.slot_tuple_lt PySem.F.entry_tuple_lt (PySem.F.args_tuple_lt_2 _ _) (QgO l b items items2 n n2 dd dd2 sl sl2 res)
  ⟨h1,h2,hx,show Value.bool res≠Value.notImplemented/\Q (.bool res) s from ⟨(fun x=>nomatch x),h⟩⟩ hu
abbrev NP:=Int × (Int × Int)
abbrev PN:=(Int × Int) × Int
def Qcx (a b:NP):Bool:=decide (a.1<b.1) || (decide (a.1=b.1) && ltP a.2 b.2)
def Qt3 (a b:PN):Bool:=ltP a.1 b.1 || (decide (a.1=b.1) && decide (a.2<b.2))
def PO1 (h:Heap)(q:Addr)(x:NP):Prop:=∃ o t r n,h.get? q=some o/\o.cls=.type "tuple" /\ o.data=.seq #[.int x.1 t,.ref r] n/\PO h r x.2
theorem PO1.kp {h h':Heap}{q:Addr}{x:NP}(p:PO1 h q x)(k:Kp h h'):PO1 h' q x:=by
 obtain ⟨o,t,r,n,e,c,d,p⟩:=p
 exact ⟨o,t,r,n,k _ _ e,c,d,p.kp k⟩
theorem PO.det {h:Heap}{q:Addr}{x y:Int × Int}(p:PO h q x)(p':PO h q y):x=y:=by
 obtain ⟨o,t,u,n,e,c,d⟩:=p
 obtain ⟨o',t',u',n',e',c',d'⟩:=p'
 rw [e] at e';cases e'
 rw [d] at d'
 injection d' with d1 d2
 have:=congrArg Array.toList d1
 simp at this
 exact Prod.ext this.1.1 this.2.1
theorem Qow {A:Around}{s:Shared}{q r:Addr}{x y:Int × Int}(hu:A.units<cLine)(hq:PO s.heap q x)(hr:PO s.heap r y):SeqAt.EqAt A s (.ref q) (.ref r) (decide (x=y)):=by
 by_cases e:q=r
 ·subst e
  rw [decide_eq_true (hq.det hr)]
  exact SeqAt.EqAt.same _
 ·obtain ⟨o,t1,t2,n,e1,c1,d1⟩:=hq
  obtain ⟨o',t3,t4,n',e2,c2,d2⟩:=hr
  refine SeqAt.EqAt.of_refs e ?_
  have key:=SeqAt.RcAt.tuples (A:=A) (e:=fun j=>if j=0 then x.1 == y.1 else x.2 == y.2) (show s.heap.IsTuple q [Value.int x.1 t1,Value.int x.2 t2].toArray from ⟨o,e1,c1,n,d1⟩) (show s.heap.IsTuple r [Value.int y.1 t3,Value.int y.2 t4].toArray from ⟨o',e2,c2,n',d2⟩) hu (fun j h1 h2=>by
   have hj:j=0\/j=1:=by simp at h1;omega
   rcases hj with rfl | rfl
   ·exact SeqAt.EqAt.int_int x.1 t1 y.1 t3
   ·exact SeqAt.EqAt.int_int x.2 t2 y.2 t4)
  have e2:((List.range (min [Value.int x.1 t1,Value.int x.2 t2].toArray.size [Value.int y.1 t3,Value.int y.2 t4].toArray.size)).all (fun j=>if j=0 then x.1 == y.1 else x.2 == y.2) && [Value.int x.1 t1,Value.int x.2 t2].toArray.size == [Value.int y.1 t3,Value.int y.2 t4].toArray.size)=decide (x=y):=by
   obtain ⟨x1,x2⟩:=x
   obtain ⟨y1,y2⟩:=y
   by_cases h1:x1=y1<;>by_cases h2:x2=y2<;>simp [h1,h2,List.range_succ]
  rw [e2] at key
  exact key
theorem Qt1 {prog:Program}{w:World}{A:Around}{E:Value->Shared->Prop}{s:Shared}{q r:Addr}{x y:Int × Int}{Q:Value->Shared->Prop}(hu:A.units<cLine)(hq:PO s.heap q x)(hr:PO s.heap r y)(h:Q (.bool (ltP x y)) s):wpAny (model prog w) A (compareOp .Lt (.ref q) (.ref r)) Q E s:=by
 obtain ⟨o,t1,t2,n,e1,c1,d1⟩:=hq
 obtain ⟨o',t3,t4,n',e2,c2,d2⟩:=hr
 refine QnY e1 c1 d1 e2 c2 d2 hu ?_ h
 show Qgh _ s false [(Value.int x.1 t1,Value.int y.1 t3),(Value.int x.2 t2,Value.int y.2 t4)] _
 by_cases h1:x.1=y.1
 ·refine .eq (by have:=SeqAt.EqAt.int_int (A:=A.in1) (s:=s) x.1 t1 y.1 t3;rwa [beq_iff_eq.mpr h1] at this) ?_
  by_cases h2:x.2=y.2
  ·have z:ltP x y=false:=decide_eq_false (by omega)
   rw [z]
   exact .eq (by have:=SeqAt.EqAt.int_int (A:=A.in1) (s:=s) x.2 t2 y.2 t4;rwa [beq_iff_eq.mpr h2] at this) .nil
  ·have z:ltP x y=decide (x.2<y.2):=by unfold ltP;simp [h1]
   rw [z]
   exact .lt (by have:=SeqAt.EqAt.int_int (A:=A.in1) (s:=s) x.2 t2 y.2 t4;rwa [beq_eq_false_iff_ne.mpr h2] at this) fun prog w E Q hq=>HT.rcLt_int _ _ _ _ _ _ prog w E Q hq
 ·have z:ltP x y=decide (x.1<y.1):=by unfold ltP;simp [h1]
  rw [z]
  exact .lt (by have:=SeqAt.EqAt.int_int (A:=A.in1) (s:=s) x.1 t1 y.1 t3;rwa [beq_eq_false_iff_ne.mpr h1] at this) fun prog w E Q hq=>HT.rcLt_int _ _ _ _ _ _ prog w E Q hq
theorem Qta {prog:Program}{w:World}{A:Around}{E:Value->Shared->Prop}{s:Shared}{q r:Addr}{x y:NP}{Q:Value->Shared->Prop}(hu:A.units+1<cLine)(hq:PO1 s.heap q x)(hr:PO1 s.heap r y)(h:Q (.bool (Qcx x y)) s):wpAny (model prog w) A (compareOp .Lt (.ref q) (.ref r)) Q E s:=by
 obtain ⟨o,t1,a,n,e1,c1,d1,p1⟩:=hq
 obtain ⟨o',t3,b,n',e2,c2,d2,p2⟩:=hr
 have hu1:A.in1.units<cLine:=by have:=units_in1 (A:=A);omega
 refine QnY e1 c1 d1 e2 c2 d2 (by omega) ?_ h
 show Qgh _ s false [(Value.int x.1 t1,Value.int y.1 t3),(Value.ref a,Value.ref b)] _
 by_cases h1:x.1=y.1
 ·have h1':decide (x.1<y.1)=false:=decide_eq_false (by omega)
  refine .eq (by have:=SeqAt.EqAt.int_int (A:=A.in1) (s:=s) x.1 t1 y.1 t3;rwa [beq_iff_eq.mpr h1] at this) ?_
  have z:Qcx x y=ltP x.2 y.2:=by unfold Qcx;simp [h1]
  rw [z]
  by_cases h2:x.2=y.2
  ·have z:ltP x.2 y.2=false:=decide_eq_false (by rw [h2];omega)
   rw [z]
   exact .eq (by have:=Qow hu1 p1 p2;rwa [decide_eq_true h2] at this) .nil
  ·exact .lt (by have:=Qow hu1 p1 p2;rwa [decide_eq_false h2] at this) fun prog w E Q hq=>Qt1 hu1 p1 p2 hq
 ·have z:Qcx x y=decide (x.1<y.1):=by unfold Qcx;simp [h1]
  rw [z]
  exact .lt (by have:=SeqAt.EqAt.int_int (A:=A.in1) (s:=s) x.1 t1 y.1 t3;rwa [beq_eq_false_iff_ne.mpr h1] at this) fun prog w E Q hq=>HT.rcLt_int _ _ _ _ _ _ prog w E Q hq
end L2.Srt
namespace L2.Srt
open PySem PySem.W PySem.Calls PyProof.Rows
theorem Qkx (a:Int × Int):ltP a a=false:=decide_eq_false (by omega)
theorem Qqj {a b c:Int × Int}(h:ltP a b=true)(h':ltP b c=true):ltP a c=true:=by
 have h:=of_decide_eq_true h
 have h':=of_decide_eq_true h'
 exact decide_eq_true (by omega)
theorem QpJ {a b:Int × Int}(h:a≠b)(h':ltP a b=false):ltP b a=true:=by
 have h':=of_decide_eq_false h'
 refine decide_eq_true ?_
 by_cases e:a.1=b.1
 ·have:a.2≠b.2:=fun z=>h (Prod.ext e z)
  omega
 ·omega
theorem ltNP_iff {a b:NP}:Qcx a b=true↔a.1<b.1\/(a.1=b.1/\ltP a.2 b.2=true):=by unfold Qcx;simp
structure Lin {α:Type}(lt:α->α->Bool):Prop where
 irr:∀ a,lt a a=false
 tr:∀ a b c,lt a b=true->lt b c=true->lt a c=true
 tot:∀ a b,a≠b->lt a b=false->lt b a=true
theorem lin_NP:Lin Qcx where
 irr:=fun a=>by rw [Bool.eq_false_iff];intro h;rcases ltNP_iff.mp h with h | ⟨_,h⟩<;>first | omega | (rw [Qkx] at h;cases h)
 tr:=fun a b c h h'=>by
  rw [ltNP_iff] at h h' ⊢
  rcases h with h | ⟨e,h⟩<;>rcases h' with h' | ⟨e',h'⟩
  ·exact .inl (by omega)
  ·exact .inl (by omega)
  ·exact .inl (by omega)
  ·exact .inr ⟨by omega,Qqj h h'⟩
 tot:=fun a b ne h=>by
  rw [ltNP_iff]
  have h':¬ (a.1<b.1\/(a.1=b.1/\ltP a.2 b.2=true)):=fun z=>by rw [ltNP_iff.mpr z] at h;cases h
  by_cases e:a.1=b.1
  ·refine .inr ⟨e.symm,QpJ (fun z=>ne (Prod.ext e z)) ?_⟩
   rw [Bool.eq_false_iff];exact fun z=>h' (.inr ⟨e,z⟩)
  ·exact .inl (by have:¬ a.1<b.1:=fun z=>h' (.inl z);omega)
theorem Lin.ord {α:Type}{lt:α->α->Bool}(L:Lin lt)(d:α){ps:List α}(nd:ps.Nodup):Ord ps.length fun i j=>lt (ps.getD i d) (ps.getD j d) where
 ir:=fun i=>L.irr _
 tr:=fun i j k a b=>L.tr _ _ _ a b
 to:=fun i j hi hj ne a=>by
  refine L.tot _ _ (fun z=>?_) a
  rw [List.getD_eq_getElem?_getD,List.getD_eq_getElem?_getD,List.getElem?_eq_getElem hi,List.getElem?_eq_getElem hj] at z
  exact ne ((List.getElem_inj nd).mp z)
theorem PPair.getG {α:Type}{d:α}{R:Addr->α->Prop}{qs:List Addr}{ps:List α}(p:Paired R qs ps){i:Nat}(hi:i<qs.length):R (qs.getD i 0) (ps.getD i d):=by
 have e:qs[i]? = some qs[i]:=List.getElem?_eq_getElem hi
 obtain ⟨b,eb,r⟩:=Paired.get p e
 rw [List.getD_eq_getElem?_getD,List.getD_eq_getElem?_getD,e,eb]
 exact r
structure Qnz (A:Around)(α:Type)(lt:α->α->Bool)(PO:Heap->Addr->α->Prop)(κ:SortKind):Prop where
 kp:∀ {h h':Heap} {q:Addr} {x:α},PO h q x->Kp h h'->PO h' q x
 kind:∀ {prog:Program} {w:World} {s:Shared} {qs:List Addr} {ps:List α} {Q:SortKind->Shared->Prop},Paired (PO s.heap) qs ps->2<=ps.length->Q κ s->wpAny (model prog w) A (keyKind' (qs.map Value.ref).toArray) Q (fun _ _=>False) s
 cmp:∀ {prog:Program} {w:World} {s:Shared} {q r:Addr} {x y:α} {Q:Bool->Shared->Prop},PO s.heap q x->PO s.heap r y->Q (lt x y) s->wpAny (model prog w) A (keyLt' κ (.ref q) (.ref r)) Q (fun _ _=>False) s
theorem QmT {prog:Program}{w:World}{A:Around}{E:Value->Shared->Prop}{s:Shared}{α:Type}(d:α){lt:α->α->Bool}{PO:Heap->Addr->α->Prop}{κ:SortKind}(S:Qnz A.in1.in1 α lt PO κ)(L:Lin lt){l:Addr}{qs:List Addr}{ps:List α}{Q:Value->Shared->Prop}(hl:s.heap.IsList l (qs.map Value.ref).toArray)(pr:Paired (PO s.heap) qs ps)(nd:ps.Nodup)(l64:ps.length<64)
  (k:∀ (h':Heap) (tk:Nat) (is:List Nat) (c:Nat),is.Perm (List.range ps.length)->(is.map fun i=>ps.getD i d).Pairwise (fun a b=>lt a b=true)->Kp s.heap h'->h'.get? (s.heap.objs.size+1)=some (seqObj "list" ((is.map fun i=>qs.getD i 0).map Value.ref).toArray c)->Q (.ref (s.heap.objs.size+1)) { s with heap:=h',toks:=tk }) :
  wpAny (model prog w) A (call (.builtin "sorted") [.ref l]) Q E s:=by
 have lq:=Paired.length pr
 have elen:(qs.map Value.ref).length=ps.length:=by rw [List.length_map,lq]
 have og:∀ {i:Nat},i<(qs.map Value.ref).length->(qs.map Value.ref).getD i Value.none=Value.ref (qs.getD i 0):=fun {i} hi=>by
  rw [List.length_map] at hi
  rw [List.getD_eq_getElem?_getD,List.getD_eq_getElem?_getD,List.getElem?_map,List.getElem?_eq_getElem hi]
  rfl
 refine Qjp (κ:=κ) (lt:=fun i j=>lt (ps.getD i d) (ps.getD j d)) hl (by rw [elen];exact l64) (by rw [elen];exact L.ord d nd) (fun h2 h' tk Q' kp q=>?_) (fun h' tk i j Q' kp hi hj q=>?_) fun h' tk q c pp up kp hD=>?_
 ·exact S.kind (s:={ s with heap:=h',toks:=tk }) (Paired.imp' (fun _ _ z=>S.kp z kp) pr) (by omega) q
 ·rw [og hi,og hj]
  rw [List.length_map] at hi hj
  exact S.cmp (s:={ s with heap:=h',toks:=tk }) (S.kp (PPair.getG (d:=d) pr hi) kp) (S.kp (PPair.getG (d:=d) pr hj) kp) (q tk)
 ·rw [elen] at pp up
  have hb:∀ i∈q.toList,i<ps.length:=fun i hi=>List.mem_range.mp (pp.pm.mem_iff.mp hi)
  have eits:(q.toList.map fun i=>(qs.map Value.ref).getD i Value.none)=(q.toList.map fun i=>qs.getD i 0).map Value.ref:=by
   rw [List.map_map]
   exact List.map_congr_left fun i hi=>og (by rw [elen];exact hb i hi)
  rw [eits] at hD
  have lenq:q.toList.length=ps.length:=by rw [Array.length_toList];exact pp.sz
  refine k h' tk q.toList c pp.pm ?_ kp hD
  rw [List.pairwise_map,List.pairwise_iff_getElem]
  intro i j hi hj hij
  have hj':j<ps.length:=by omega
  have hi':i<ps.length:=by omega
  have a:=up.all (L.ord d nd) hij hj'
  have gi:G q i=q.toList[i]:=by
   have:i<q.size:=by rw [pp.sz];exact hi'
   simp [G,Array.getD,this]
  have gj:G q j=q.toList[j]:=by
   have:j<q.size:=by rw [pp.sz];exact hj'
   simp [G,Array.getD,this]
  rw [gi,gj] at a
  exact a
theorem QmV {h:Heap}{qs:List Addr}{ps:List NP}(p:Paired (PO1 h) qs ps):∃ fs,KatTups h (qs.map Value.ref) fs/\fs.length=ps.length/\∀ v∈fs,∃ i t,v=Value.int i t:=by
 induction p with
 |nil=>exact ⟨[],.nil,rfl,fun v z=>nomatch z⟩
 |cons z _ ih=>
  obtain ⟨fs,k,l,a⟩:=ih
  obtain ⟨o,t,u,n,e,c,d,_⟩:=z
  refine ⟨_ :: fs,KatTups.cons e c d rfl k,by rw [List.length_cons,List.length_cons,l],fun v hv=>?_⟩
  rcases List.mem_cons.mp hv with rfl | hv
  ·exact ⟨_,_,rfl⟩
  ·exact a v hv
theorem QsA {A:Around}(hu:A.units+1<cLine):Qnz A NP Qcx PO1 (tuples' true) where
 kp:=PO1.kp
 kind:=fun {prog w s qs ps Q} pr h2 q=>by
  obtain ⟨fs,kt,lf,af⟩:=QmV pr
  refine kat_kind (T:=.type "int") kt (by omega) (fun v hv=>?_) rfl q
  obtain ⟨i,t,rfl⟩:=af v hv
  exact Looks.of_pure rfl
 cmp:=fun {prog w s q r x y Q} hq hr h=>by
  obtain ⟨o,t,a,n,e,c,d,p1⟩:=hq
  obtain ⟨o',t',b,n',e',c',d',p2⟩:=hr
  refine kat_lt (b:=true) e d e' d' ?_
  show KatLex prog w A true _ Q [(Value.int x.1 t,Value.int y.1 t'),(Value.ref a,Value.ref b)] 0 s
  refine kat_cons ((SeqAt.EqAt.int_int x.1 t y.1 t') prog w _ _ (kat_go (fun e1=>kat_yes ?_) fun e1=>kat_no ?_))
  ·have e1':x.1=y.1:=by simpa using e1
   have z:Qcx x y=ltP x.2 y.2:=by unfold Qcx;simp [e1']
   rw [z] at h
   refine kat_cons ((Qow (by omega) p1 p2) prog w _ _ (kat_go (fun e2=>kat_yes ?_) fun e2=>kat_no ?_))
   ·have e2':x.2=y.2:=of_decide_eq_true e2
    refine kat_nil ?_
    rw [e2',Qkx] at h
    exact h
   ·exact kat_one _ _ (Qt1 (by omega) p1 p2 h)
  ·have e1':x.1≠y.1:=by simpa using e1
   refine oneLt_int ?_
   have z:Qcx x y=decide (x.1<y.1):=by unfold Qcx;simp [e1']
   rw [z] at h
   exact h
def PT1 (K:PySem.W.Frag)(H:Hp)(q:Addr)(x:NP):Prop:=∃ r,SqT K H q [.int x.1,.ref r]/\PT K H r x.2
theorem Qlc {X:Cx}{pins:List (Addr × Obj)}{σ:St}{H:Hp}{s:Shared}(I:L2.Inv X pins σ H s){q:Addr}{x:NP}(h:PT1 X.K H q x):PO1 s.heap q x:=by
 obtain ⟨r,h1,h2⟩:=h
 obtain ⟨its,rv,⟨o,e,c,n,d⟩,_⟩:=I.tuple h1
 obtain ⟨u,v,rfl,⟨t,rfl⟩,rfl⟩:=Vals.two rv
 exact ⟨o,t,r,n,e,c,d,Qtw I h2⟩
section
variable {X:Cx}
def QqT (K:PySem.W.Frag):List V->Hp->VK->Prop:=fun xs H Q=>∃ p qs ps,xs=[.ref p]/\SqL K H p (qs.map V.ref)/\Paired (PT1 K H) qs ps/\ps.Nodup/\ps.length<64/\
 ∀ (l:Addr) (is:List Nat),H l=none->is.Perm (List.range ps.length)->(is.map fun i=>ps.getD i (0,(0,0))).Pairwise (fun a b=>Qcx a b=true)->Q (.ref l) (upd H l (.lst ((is.map fun i=>qs.getD i 0).map V.ref)))
theorem Qg7 (hu:X.A.units+3<cLine):Qcm X (.builtin "sorted") (QqT X.K):=by
 intro pins s σ H xs us Q I r h
 obtain ⟨p,qs,ps,rfl,hq,pr,nd,l64,k⟩:=h
 obtain ⟨u,rfl,ru⟩:=Qd9 r
 cases ru
 obtain ⟨its,rv,pl,hz⟩:=I.list hq
 have ei:=Qhi rv
 subst ei
 have pso:Paired (PO1 s.heap) qs ps:=Paired.imp' (fun _ _ z=>Qlc I z) pr
 refine QmT (d:=(0,(0,0))) (QsA (A:=X.A.in1.in1) (by show X.A.units+1+1+1<cLine;omega)) lin_NP pl.isList pso nd l64 fun h' tk is c pm pw kp hD=>?_
 refine ⟨.ref _,_,I.laid (t':=tk) (o:=.lst ((is.map fun i=>qs.getD i 0).map V.ref)) kp (Nat.le_succ _) ⟨?_,_,c,QgR _,hD⟩,rfl,k _ is (I.hok.fresh (Nat.le_succ _)) pm pw⟩
 rw [List.length_map,List.length_map,pm.length_eq,List.length_range,sizeLine_eq];omega
def Qf4 (q:Int × Int):List Key:=[.inl q.1,.inl q.2]
end
end L2.Srt
namespace TL
open PySem L2 PyProof.Rows
inductive Tag where
 |lst | tup
 /-- an instance of the class at k,its attributes' names -/
 |ins (k:Addr) (ns:List Str)
 /-- a dict whose keys are tuples;ints and texts -/
 |dT (ks:List (List Key)) | dK (ks:List Key)
 /-- an exception of the class at c -/
 |exc (c:Addr)
 deriving DecidableEq
inductive D where
 |int (i:Int) | bl (b:Bool) | non | str (s:Str) | ty (n:String) | cls (c:Addr) | nd (t:Tag) (ds:List D)
abbrev D.lst (ds:List D):D:=.nd .lst ds
abbrev D.tup (ds:List D):D:=.nd .tup ds
def Tag.mut:Tag->Bool
 |.lst=>true | .dT _=>true | .dK _=>true | _=>false
mutual
def D.imm:D->Bool
 |.nd t ds=>!t.mut && D.immL ds
 |_=>true
def D.immL:List D->Bool
 | []=>true
 |d :: ds=>d.imm && D.immL ds
end
def D.sc:D->Option V
 |.int i=>some (.int i) | .bl b=>some (.bl b) | .non=>some .non | .str s=>some (.str s) | .ty n=>some (.ty n) | .cls c=>some (.ref c) | .nd _ _=>none
def At (K:PySem.W.Frag)(F:Hp)(a:Addr):Tag->List V->Prop
 |.lst,vs=>SqL K F a vs
 |.tup,vs=>F a=some (.tup vs)
 |.ins k ns,vs=>ns.length=vs.length/\∃ dx,F a=some (.ins k dx (ns.zip vs))/\F dx=some (.own a)
 |.dT ks,vs=>ks.length=vs.length/\F a=some (.dT (ks.zip vs))
 |.dK ks,vs=>ks.length=vs.length/\F a=some (.dK (ks.zip vs))
 |.exc c,vs=>vs=[]/\F a=some (QsR a (.ref c))
def Mbl:HO->Prop
 |.lst _=>True | .dT _=>True | .dK _=>True | _=>False
def Mt (H:Hp)(a:Addr):Tag->List V->Prop
 |.lst,vs=>H a=some (.lst vs)
 |.dT ks,vs=>ks.length=vs.length/\H a=some (.dT (ks.zip vs))
 |.dK ks,vs=>ks.length=vs.length/\H a=some (.dK (ks.zip vs))
 |_,_=>False
section
variable {K:PySem.W.Frag}{F H F' H':Hp}{a:Addr}{t:Tag}{vs:List V}
theorem At.same (h:At K F a t vs)(s:Same F F'):At K F' a t vs:=by
 cases t with
 |lst=>exact h.imp (fun z=>z.imp (fun z=>s _ _ z) fun ⟨o,z⟩=>⟨o,s _ _ z⟩) id
 |tup=>exact s _ _ h
 |ins k ns=>
  obtain ⟨l,dx,h1,h2⟩:=h
  exact ⟨l,dx,s _ _ h1,s _ _ h2⟩
 |dT ks=>exact ⟨h.1,s _ _ h.2⟩
 |dK ks=>exact ⟨h.1,s _ _ h.2⟩
 |exc c=>exact ⟨h.1,s _ _ h.2⟩
theorem Mt.at (h:Mt H a t vs):At K H a t vs:=by
 cases t with
 |lst=>exact .inl (.inl h)
 |tup=>exact h.elim
 |ins k ns=>exact h.elim
 |dT ks=>exact h
 |dK ks=>exact h
 |exc c=>exact h.elim
theorem At.sql {K:PySem.W.Frag}(h:At K F a .lst vs):SqL K F a vs:=h
theorem At.sqt {K:PySem.W.Frag}(h:At K F a .tup vs):SqT K F a vs:=.inl (.inl h)
theorem Mt.mut (h:Mt H a t vs):t.mut=true:=by
 cases t with
 |lst=>rfl
 |tup=>exact h.elim
 |ins k ns=>exact h.elim
 |dT ks=>rfl
 |dK ks=>rfl
 |exc c=>exact h.elim
theorem Mt.eq (h:Mt H a t vs)(e:H' a=H a):Mt H' a t vs:=by
 cases t with
 |lst=>exact e.trans h
 |tup=>exact h.elim
 |ins k ns=>exact h.elim
 |dT ks=>exact ⟨h.1,e.trans h.2⟩
 |dK ks=>exact ⟨h.1,e.trans h.2⟩
 |exc c=>exact h.elim
theorem Mt.some (h:Mt H a t vs):∃ o,H a=some o/\Mbl o:=by
 cases t with
 |lst=>exact ⟨_,h,True.intro⟩
 |tup=>exact h.elim
 |ins k ns=>exact h.elim
 |dT ks=>exact ⟨_,h.2,True.intro⟩
 |dK ks=>exact ⟨_,h.2,True.intro⟩
 |exc c=>exact h.elim
end
mutual
/-- v stands for d,all in F -/
inductive R (K:PySem.W.Frag) (F:Hp):V->D->Prop
 |sc {v:V} {d:D} (e:d.sc=some v):R K F v d
 |nd {a:Addr} {t:Tag} {vs:List V} {ds:List D} (h:At K F a t vs) (r:RL K F vs ds):R K F (.ref a) (.nd t ds)
inductive RL (K:PySem.W.Frag) (F:Hp):List V->List D->Prop
 |nil:RL K F [] []
 |cons {v:V} {d:D} {vs:List V} {ds:List D} (h:R K F v d) (r:RL K F vs ds):RL K F (v :: vs) (d :: ds)
end
mutual
/-- v stands for d: what cannot be changed is in F,what can is in H,at fp,each once -/
inductive O (K:PySem.W.Frag) (F H:Hp):V->D->List Addr->Prop
 |sc {v:V} {d:D} (e:d.sc=some v):O K F H v d []
 |im {a:Addr} {t:Tag} {vs:List V} {ds:List D} {fp:List Addr} (m:t.mut=false) (h:At K F a t vs) (r:OL K F H vs ds fp):O K F H (.ref a) (.nd t ds) fp
 |mt {a:Addr} {t:Tag} {vs:List V} {ds:List D} {fp:List Addr} (h:Mt H a t vs) (r:OL K F H vs ds fp):O K F H (.ref a) (.nd t ds) (a :: fp)
inductive OL (K:PySem.W.Frag) (F H:Hp):List V->List D->List Addr->Prop
 |nil:OL K F H [] [] []
 |cons {v:V} {d:D} {vs:List V} {ds:List D} {f g:List Addr} (h:O K F H v d f) (r:OL K F H vs ds g):OL K F H (v :: vs) (d :: ds) (f++g)
end
section
variable {K:PySem.W.Frag}{F F':Hp}
mutual
theorem R.same (s:Same F F'):∀ {v:V} {d:D},R K F v d->R K F' v d
 |_,_,.sc e=>.sc e
 |_,_,.nd h r=>.nd (h.same s) (RL.same s r)
theorem RL.same (s:Same F F'):∀ {v:List V} {d:List D},RL K F v d->RL K F' v d
 |_,_,.nil=>.nil
 |_,_,.cons h r=>.cons (R.same s h) (RL.same s r)
end
theorem RL.length:∀ {v:List V} {d:List D},RL K F v d->v.length=d.length
 |_,_,.nil=>rfl
 |_,_,.cons _ r=>by rw [List.length_cons,List.length_cons,RL.length r]
theorem OL.length:∀ {v:List V} {d:List D} {f:List Addr},OL K F H v d f->v.length=d.length
 |_,_,_,.nil=>rfl
 |_,_,_,.cons _ r=>by rw [List.length_cons,List.length_cons,OL.length r]
mutual
/-- all that can be changed is where it was -/
theorem O.keep (s:Same F F'):∀ {v:V} {d:D} {fp:List Addr},O K F H v d fp->(∀ a∈fp,H' a=H a)->O K F' H' v d fp
 |_,_,_,.sc e,_=>.sc e
 |_,_,_,.im m h r,k=>.im m (h.same s) (OL.keep s r k)
 |_,_,_,.mt h r,k=>.mt (h.eq (k _ List.mem_cons_self)) (OL.keep s r fun a ha=>k a (List.mem_cons_of_mem _ ha))
theorem OL.keep (s:Same F F'):∀ {v:List V} {d:List D} {fp:List Addr},OL K F H v d fp->(∀ a∈fp,H' a=H a)->OL K F' H' v d fp
 |_,_,_,.nil,_=>.nil
 |_,_,_,.cons h r,k=>.cons (O.keep s h fun a ha=>k a (List.mem_append_left _ ha)) (OL.keep s r fun a ha=>k a (List.mem_append_right _ ha))
end
mutual
theorem O.mem:∀ {v:V} {d:D} {fp:List Addr},O K F H v d fp->∀ a∈fp,∃ o,H a=some o/\Mbl o
 |_,_,_,.sc e,a,ha=>nomatch ha
 |_,_,_,.im m h r,a,ha=>OL.mem r a ha
 |_,_,_,.mt h r,a,ha=>by
  rcases List.mem_cons.mp ha with rfl | ha
  ·exact h.some
  ·exact OL.mem r a ha
theorem OL.mem:∀ {v:List V} {d:List D} {fp:List Addr},OL K F H v d fp->∀ a∈fp,∃ o,H a=some o/\Mbl o
 |_,_,_,.nil,a,ha=>nomatch ha
 |_,_,_,.cons h r,a,ha=>by
  rcases List.mem_append.mp ha with ha | ha
  ·exact O.mem h a ha
  ·exact OL.mem r a ha
end
def jn (F H:Hp)(fp:List Addr):Hp:=fun b=>if b∈fp then H b else F b
theorem QlA {fp:List Addr}(ap:∀ a∈fp,F a=none):Same F (jn F H fp):=fun b o e=>by
 unfold jn
 by_cases h:b∈fp
 ·rw [ap b h] at e;cases e
 ·rw [if_neg h];exact e
theorem Qcv {fp:List Addr}(s:Same F H):Same (jn F H fp) H:=fun b o e=>by
 unfold jn at e
 by_cases h:b∈fp
 ·rw [if_pos h] at e;exact e
 ·rw [if_neg h] at e;exact s b o e
theorem QbY {fp:List Addr}{b:Addr}(h:b∈fp):jn F H fp b=H b:=by unfold jn;rw [if_pos h]
theorem QaY {fp:List Addr}{b:Addr}(h:b∉fp):jn F H fp b=F b:=by unfold jn;rw [if_neg h]
def lo (F:Hp)(L:List Addr):Hp:=fun b=>if b∈L then none else F b
theorem lo_le {L:List Addr}:Same (lo F L) F:=fun b o e=>by
 unfold lo at e
 by_cases h:b∈L
 ·rw [if_pos h] at e;cases e
 ·rw [if_neg h] at e;exact e
theorem QjJ {L:List Addr}{b:Addr}(h:b∈L):lo F L b=none:=by unfold lo;rw [if_pos h]
theorem Qdt {L:List Addr}{b:Addr}(h:b∉L):lo F L b=F b:=by unfold lo;rw [if_neg h]
mutual
/-- what is one's own may be read -/
theorem O.r (s:Same F F'):∀ {v:V} {d:D} {fp:List Addr},O K F H v d fp->(∀ a∈fp,F' a=H a)->R K F' v d
 |_,_,_,.sc e,_=>.sc e
 |_,_,_,.im m h r,k=>.nd (h.same s) (OL.r s r k)
 |_,_,_,.mt h r,k=>.nd (h.eq (k _ List.mem_cons_self)).at (OL.r s r fun a ha=>k a (List.mem_cons_of_mem _ ha))
theorem OL.r (s:Same F F'):∀ {v:List V} {d:List D} {fp:List Addr},OL K F H v d fp->(∀ a∈fp,F' a=H a)->RL K F' v d
 |_,_,_,.nil,_=>.nil
 |_,_,_,.cons h r,k=>.cons (O.r s h fun a ha=>k a (List.mem_append_left _ ha)) (OL.r s r fun a ha=>k a (List.mem_append_right _ ha))
end
theorem QeR {t:Tag}{ds:List D}(h:(D.nd t ds).imm=true):t.mut=false/\D.immL ds=true:=by
 rw [D.imm,Bool.and_eq_true] at h
 exact ⟨by simpa using h.1,h.2⟩
theorem QbN {d:D}{ds:List D}(h:D.immL (d :: ds)=true):d.imm=true/\D.immL ds=true:=by
 rw [D.immL,Bool.and_eq_true] at h
 exact h
theorem Qdj:∀ {ds:List D},D.immL ds=true->∀ d∈ds,d.imm=true
 | [],_,d,hd=>nomatch hd
 |x :: ds,h,d,hd=>by
  obtain ⟨h1,h2⟩:=QbN h
  rcases List.mem_cons.mp hd with rfl | hd
  ·exact h1
  ·exact Qdj h2 d hd
theorem QeW:∀ {ds:List D},(∀ d∈ds,d.imm=true)->D.immL ds=true
 | [],_=>by rw [D.immL]
 |x :: ds,h=>by
  rw [D.immL,Bool.and_eq_true]
  exact ⟨h x List.mem_cons_self,QeW fun d hd=>h d (List.mem_cons_of_mem _ hd)⟩
theorem QmK {xs ys:List D}(h:D.immL xs=true)(h':D.immL ys=true):D.immL (xs++ys)=true:=QeW fun d hd=>(List.mem_append.mp hd).elim (Qdj h d) (Qdj h' d)
theorem At.lo {a:Addr}{t:Tag}{vs:List V}{L:List Addr}(m:t.mut=false)(h:At K F a t vs)(hl:∀ b∈L,∀ o,F b=some o->Mbl o):At K (lo F L) a t vs:=by
 cases t with
 |lst=>cases m
 |tup=>exact (Qdt fun z=>hl _ z _ h).trans h
 |ins k ns=>
  obtain ⟨l,dx,h1,h2⟩:=h
  exact ⟨l,dx,(Qdt fun z=>hl _ z _ h1).trans h1,(Qdt fun z=>hl _ z _ h2).trans h2⟩
 |dT ks=>cases m
 |dK ks=>cases m
 |exc c=>exact ⟨h.1,(Qdt fun z=>hl _ z _ h.2).trans h.2⟩
mutual
theorem R.lo {L:List Addr}(hl:∀ b∈L,∀ o,F b=some o->Mbl o):∀ {v:V} {d:D},R K F v d->d.imm=true->R K (lo F L) v d
 |_,_,.sc e,_=>.sc e
 |_,_,.nd h r,m=>.nd (h.lo (QeR m).1 hl) (RL.lo hl r (QeR m).2)
theorem RL.lo {L:List Addr}(hl:∀ b∈L,∀ o,F b=some o->Mbl o):∀ {v:List V} {d:List D},RL K F v d->D.immL d=true->RL K (lo F L) v d
 |_,_,.nil,_=>.nil
 |_,_,.cons h r,m=>.cons (R.lo hl h (QbN m).1) (RL.lo hl r (QbN m).2)
end
mutual
theorem R.o:∀ {v:V} {d:D},R K F v d->d.imm=true->O K F H v d []
 |_,_,.sc e,_=>.sc e
 |_,_,.nd h r,m=>.im (QeR m).1 h (RL.o r (QeR m).2)
theorem RL.o:∀ {v:List V} {d:List D},RL K F v d->D.immL d=true->OL K F H v d []
 |_,_,.nil,_=>.nil
 |_,_,.cons h r,m=>.cons (f:=[]) (R.o h (QbN m).1) (RL.o r (QbN m).2)
end
mutual
theorem O.imm0:∀ {v:V} {d:D} {fp:List Addr},O K F H v d fp->d.imm=true->fp=[]
 |_,_,_,.sc e,_=>rfl
 |_,_,_,.im m h r,i=>OL.imm0 r (QeR i).2
 |_,_,_,.mt h r,i=>absurd h.mut (by rw [(QeR i).1];decide)
theorem OL.imm0:∀ {v:List V} {d:List D} {fp:List Addr},OL K F H v d fp->D.immL d=true->fp=[]
 |_,_,_,.nil,_=>rfl
 |_,_,_,.cons h r,i=>by rw [O.imm0 h (QbN i).1,OL.imm0 r (QbN i).2];rfl
end
theorem R.det_sc {v:V}{d:D}{w:V}(h:R K F v d)(e:d.sc=some w):v=w:=by
 cases h with
 |sc e'=>rw [e] at e';exact (Option.some.inj e').symm
 |nd h r=>cases e
theorem RL.get:∀ {vs:List V} {ds:List D} {i:Nat} {d:D},RL K F vs ds->ds[i]? = some d->∃ v,vs[i]? = some v/\R K F v d
 |_,_,_,_,.nil,e=>by simp at e
 |_,_,0,d,.cons h r,e=>by simp at e;subst e;exact ⟨_,rfl,h⟩
 |_,_,i+1,d,.cons h r,e=>by
  obtain ⟨v,h1,h2⟩:=RL.get (i:=i) r (by simpa using e)
  exact ⟨v,by simpa using h1,h2⟩
theorem RL.app:∀ {vs us:List V} {ds es:List D},RL K F vs ds->RL K F us es->RL K F (vs++us) (ds++es)
 |_,_,_,_,.nil,r=>r
 |_,_,_,_,.cons h t,r=>.cons h (RL.app t r)
theorem OL.app:∀ {vs us:List V} {ds es:List D} {f g:List Addr},OL K F H vs ds f->OL K F H us es g->OL K F H (vs++us) (ds++es) (f++g)
 |_,_,_,_,_,_,.nil,r=>r
 |_,_,_,_,_,_,.cons h t,r=>by rw [List.append_assoc];exact .cons h (OL.app t r)
end
end TL
namespace TL
open PySem L2
inductive Sl where
 /-- never changed again -/
 |frz (d:D)
 /-- one's own -/
 |own (d:D)
 /-- a parameter that is the caller's,and changed for it -/
 |par (d:D)
abbrev Rho:=List (Option Sl)
structure Cn where
 K:PySem.W.Frag
 H₀:Hp
 F₀:Hp
 A:List Addr
 pars:List (Nat × V)
inductive S1 (K:PySem.W.Frag) (F H:Hp):Option V->Option Sl->List Addr->List Addr->Prop
 |non {x:Option V}:S1 K F H x none [] []
 |frz {v:V} {d:D} (h:R K F v d):S1 K F H (some v) (some (.frz d)) [] []
 |own {v:V} {d:D} {f:List Addr} (h:O K F H v d f):S1 K F H (some v) (some (.own d)) f []
 |par {v:V} {d:D} {f:List Addr} (h:O K F H v d f):S1 K F H (some v) (some (.par d)) [] f
inductive SL (K:PySem.W.Frag) (F H:Hp):St->Rho->List Addr->List Addr->Prop
 |nil:SL K F H [] [] [] []
 |cons {x:Option V} {s:Option Sl} {σ:St} {ρ:Rho} {f0 g0 f g:List Addr} (h:S1 K F H x s f0 g0) (r:SL K F H σ ρ f g):SL K F H (x :: σ) (s :: ρ) (f0++f) (g0++g)
section
variable {K:PySem.W.Frag}{F F' H H':Hp}
theorem S1.keep {x:Option V}{s:Option Sl}{f g:List Addr}(sf:Same F F')(h:S1 K F H x s f g)(k:∀ a∈f++g,H' a=H a):S1 K F' H' x s f g:=by
 cases h with
 |non=>exact .non
 |frz h=>exact .frz (h.same sf)
 |own h=>exact .own (h.keep sf fun a ha=>k a (List.mem_append_left _ ha))
 |par h=>exact .par (h.keep sf fun a ha=>k a ha)
theorem S1.mem {x:Option V}{s:Option Sl}{f g:List Addr}(h:S1 K F H x s f g):∀ a∈f++g,∃ o,H a=some o/\Mbl o:=by
 cases h with
 |non=>intro a ha;exact nomatch ha
 |frz h=>intro a ha;exact nomatch ha
 |own h=>intro a ha;rw [List.append_nil] at ha;exact h.mem a ha
 |par h=>intro a ha;exact h.mem a ha
theorem SL.keep (sf:Same F F'):∀ {σ:St} {ρ:Rho} {f g:List Addr},SL K F H σ ρ f g->(∀ a∈f++g,H' a=H a)->SL K F' H' σ ρ f g
 |_,_,_,_,.nil,_=>.nil
 |_,_,_,_,.cons h r,k=>.cons (h.keep sf fun a ha=>k a (by
   rcases List.mem_append.mp ha with z | z
   ·exact List.mem_append_left _ (List.mem_append_left _ z)
   ·exact List.mem_append_right _ (List.mem_append_left _ z))) (SL.keep sf r fun a ha=>k a (by
   rcases List.mem_append.mp ha with z | z
   ·exact List.mem_append_left _ (List.mem_append_right _ z)
   ·exact List.mem_append_right _ (List.mem_append_right _ z)))
theorem SL.mem:∀ {σ:St} {ρ:Rho} {f g:List Addr},SL K F H σ ρ f g->∀ a∈f++g,∃ o,H a=some o/\Mbl o
 |_,_,_,_,.nil,a,ha=>nomatch ha
 |_,_,_,_,.cons (f0:=f0) (g0:=g0) (f:=f) (g:=g) h r,a,ha=>by
  rcases List.mem_append.mp ha with z | z
  ·rcases List.mem_append.mp z with z | z
   ·exact h.mem a (List.mem_append_left _ z)
   ·exact r.mem a (List.mem_append_left _ z)
  ·rcases List.mem_append.mp z with z | z
   ·exact h.mem a (List.mem_append_right _ z)
   ·exact r.mem a (List.mem_append_right _ z)
theorem SL.len:∀ {σ:St} {ρ:Rho} {f g:List Addr},SL K F H σ ρ f g->σ.length=ρ.length
 |_,_,_,_,.nil=>rfl
 |_,_,_,_,.cons h r=>by rw [List.length_cons,List.length_cons,r.len]
theorem SL.cut:∀ {σ:St} {ρ:Rho} {f g:List Addr},SL K F H σ ρ f g->∀ {i:Nat} {s:Option Sl},ρ[i]? = some s->∃ x f0 g0 f1 f2 g1 g2,σ[i]? = some x/\S1 K F H x s f0 g0/\f=f1++(f0++f2)/\g=g1++(g0++g2)/\
  ∀ {F' H':Hp},Same F F'->(∀ a∈f1++f2++(g1++g2),H' a=H a)->∀ {x':Option V} {s':Option Sl} {f0' g0':List Addr},S1 K F' H' x' s' f0' g0'->SL K F' H' (σ.set i x') (ρ.set i s') (f1++(f0'++f2)) (g1++(g0'++g2))
 |_,_,_,_,.nil,i,s,e=>by simp at e
 |_,_,_,_,.cons (f:=f) (g:=g) h r,0,s,e=>by
  simp at e;subst e
  refine ⟨_,_,_,[],f,[],g,rfl,h,rfl,rfl,fun {F' H'} sf k {x' s' f0' g0'} h'=>?_⟩
  show SL K F' H' (_ :: _) (_ :: _) (f0'++f) (g0'++g)
  exact .cons h' (r.keep sf fun a ha=>k a (by simpa using ha))
 |_,_,_,_,.cons (f0:=f0) (g0:=g0) h r,i+1,s,e=>by
  obtain ⟨x,a0,b0,f1,f2,g1,g2,e1,h1,rfl,rfl,k⟩:=SL.cut r (i:=i) (s:=s) (by simpa using e)
  refine ⟨x,a0,b0,f0++f1,f2,g0++g1,g2,by simpa using e1,h1,by simp [List.append_assoc],by simp [List.append_assoc],fun {F' H'} sf kk {x' s' f0' g0'} h'=>?_⟩
  have q:=SL.cons (h.keep sf fun a ha=>kk a (by
   simp only [List.mem_append] at ha ⊢
   rcases ha with z | z
   ·exact .inl (.inl (.inl z))
   ·exact .inr (.inl (.inl z)))) (k sf (fun a ha=>kk a (by
   simp only [List.mem_append] at ha ⊢
   rcases ha with (z | z) | z | z
   ·exact .inl (.inl (.inr z))
   ·exact .inl (.inr z)
   ·exact .inr (.inl (.inr z))
   ·exact .inr (.inr z))) h')
  simpa [List.append_assoc] using q
end
def IsT:HO->Prop
 |.tup _=>True | _=>False
def Nw (H:Hp)(b:Addr)(o:HO):Prop:=H b=none\/IsT o
theorem Nw.not {H H':Hp}{b:Addr}{o o':HO}(n:Nw H b o)(e:H b≠none)(e':H' b=some o)(e2:H' b=some o')(m:Mbl o'):False:=by
 rcases n with z | z
 ·exact e z
 ·rw [e'] at e2;cases e2
  cases o with
  |tup _=>exact m
  |_=>exact z
theorem Nw.up {H H':Hp}{b:Addr}{o:HO}(n:Nw H b o)(f:H b=none->H' b=none):Nw H' b o:=n.imp f id
structure SI (C:Cn)(F H:Hp)(σ:St)(ρ:Rho)(τ:List (V × D))(fp:List Addr):Prop where
 sl:∃ f g t,SL C.K F H σ ρ f g/\OL C.K F H (τ.map (·.1)) (τ.map (·.2)) t/\fp.Perm (f++(g++t))/\(∀ a∈f,C.H₀ a=none)/\(∀ a∈t,C.H₀ a=none)/\∀ a∈g,a∈C.A\/C.H₀ a=none
 nd:fp.Nodup
 ap:∀ a∈fp,F a=none
 fh:Same F H
 f0:Same C.F₀ F
 fn:∀ b o,F b=some o->C.F₀ b=some o\/Nw C.H₀ b o
 kp:∀ b o,C.H₀ b=some o->b∉C.A->H b=some o
 dm:∀ b,H b=none->C.H₀ b=none
 pr:∀ j v,(j,v)∈C.pars->σ[j]? = some (some v)/\∃ d,ρ[j]? = some (some (.par d))
section
variable {C:Cn}{F F' H H':Hp}{σ:St}{ρ:Rho}{τ:List (V × D)}{fp:List Addr}
theorem SI.len (I:SI C F H σ ρ τ fp):σ.length=ρ.length:=let ⟨_,_,_,s,_⟩:=I.sl;s.len
theorem SI.mem (I:SI C F H σ ρ τ fp):∀ a∈fp,∃ o,H a=some o/\Mbl o:=fun a ha=>by
 obtain ⟨f,g,t,s,o,p,_⟩:=I.sl
 have z:=p.mem_iff.mp ha
 rcases List.mem_append.mp z with z | z
 ·exact s.mem a (List.mem_append_left _ z)
 ·rcases List.mem_append.mp z with z | z
  ·exact s.mem a (List.mem_append_right _ z)
  ·exact o.mem a z
theorem SI.perm {fp':List Addr}(I:SI C F H σ ρ τ fp)(p:fp.Perm fp'):SI C F H σ ρ τ fp':=by
 obtain ⟨f,g,t,s,o,q,r⟩:=I.sl
 exact ⟨⟨f,g,t,s,o,p.symm.trans q,r⟩,p.nodup_iff.mp I.nd,fun a ha=>I.ap a (p.mem_iff.mpr ha),I.fh,I.f0,I.fn,I.kp,I.dm,I.pr⟩
theorem SI.step (I:SI C F H σ ρ τ fp)(sf:Same F F')(fh:Same F' H')(hk:∀ a∈fp,H' a=H a)(ap:∀ a∈fp,F' a=none)(fn:∀ b o,F' b=some o->F b=some o\/Nw C.H₀ b o)(kp:∀ b o,C.H₀ b=some o->b∉C.A->H b=some o->H' b=some o)(dm:∀ b,H' b=none->H b=none):SI C F' H' σ ρ τ fp:=by
 obtain ⟨f,g,t,s,o,q,h1,h2,h3⟩:=I.sl
 have inn:∀ {a:Addr},a∈f++(g++t)->H' a=H a:=fun z=>hk _ (q.mem_iff.mpr z)
 refine ⟨⟨f,g,t,s.keep sf fun a ha=>inn (by
  rcases List.mem_append.mp ha with z | z
  ·exact List.mem_append_left _ z
  ·exact List.mem_append_right _ (List.mem_append_left _ z)),o.keep sf fun a ha=>inn (List.mem_append_right _ (List.mem_append_right _ ha)),q,h1,h2,h3⟩,I.nd,ap,fh,I.f0.trans sf,fun b ob e=>?_,fun b ob e n=>?_,fun b e=>?_,I.pr⟩
 ·rcases fn b ob e with z | z
  ·exact I.fn b ob z
  ·exact .inr z
 ·exact kp b ob e n (I.kp b ob e n)
 ·exact I.dm b (dm b e)
theorem SI.lay {p:Addr}{o:HO}(I:SI C F H σ ρ τ fp)(hp:H p=none):SI C (upd F p o) (upd H p o) σ ρ τ fp:=by
 have np:∀ a∈fp,a≠p:=fun a ha=>by
  obtain ⟨_,e,_⟩:=I.mem a ha
  exact Qao e hp
 have fp0:F p=none:=I.fh.free hp
 refine I.step (Same.upd fp0) (fun b ob e=>?_) (fun a ha=>Qag (np a ha)) (fun a ha=>(Qag (np a ha)).trans (I.ap a ha)) (fun b ob e=>?_) (fun b ob _ _ e=>Same.upd hp b ob e) fun b e=>(Same.upd hp).free e
 ·by_cases hb:b=p
  ·subst hb;rw [Qap] at e ⊢;exact e
  ·rw [Qag hb] at e ⊢;exact I.fh b ob e
 ·by_cases hb:b=p
  ·subst hb;exact .inr (.inl (I.dm b hp))
  ·rw [Qag hb] at e;exact .inl e
theorem SI.lay0 {p:Addr}{o:HO}(I:SI C F H σ ρ τ fp)(hp:H p=none):SI C F (upd H p o) σ ρ τ fp:=by
 have np:∀ a∈fp,a≠p:=fun a ha=>by
  obtain ⟨_,e,_⟩:=I.mem a ha
  exact Qao e hp
 exact I.step (Same.refl F) (I.fh.trans (Same.upd hp)) (fun a ha=>Qag (np a ha)) I.ap (fun b ob e=>.inl e) (fun b ob _ _ e=>Same.upd hp b ob e) fun b e=>(Same.upd hp).free e
theorem SI.pop {v:V}{d:D}(I:SI C F H σ ρ ((v,d) :: τ) fp):∃ f rest,O C.K F H v d f/\fp.Perm (f++rest)/\SI C F H σ ρ τ rest/\(∀ a∈f,C.H₀ a=none)/\(∀ a∈f,F a=none)/\(f++rest).Nodup:=by
 obtain ⟨f,g,t,s,o,q,h1,h2,h3⟩:=I.sl
 cases o with
 | @cons _ _ _ _ t1 t2 o1 o2=>
  have p:fp.Perm (t1++(f++(g++t2))):=by
   refine q.trans ?_
   rw [List.perm_iff_count]
   intro a
   simp only [List.count_append]
   omega
  have nd:=p.nodup_iff.mp I.nd
  refine ⟨t1,f++(g++t2),o1,p,⟨⟨f,g,t2,s,o2,.refl _,h1,fun a ha=>h2 a (List.mem_append_right _ ha),h3⟩,(List.nodup_append.mp nd).2.1,fun a ha=>I.ap a (p.mem_iff.mpr (List.mem_append_right _ ha)),I.fh,I.f0,I.fn,I.kp,I.dm,I.pr⟩,fun a ha=>h2 a (List.mem_append_left _ ha),fun a ha=>I.ap a (p.mem_iff.mpr (List.mem_append_left _ ha)),nd⟩
theorem SI.push {v:V}{d:D}{f rest:List Addr}(I:SI C F H σ ρ τ rest)(h:O C.K F H v d f)(h0:∀ a∈f,C.H₀ a=none)(ap:∀ a∈f,F a=none)(nd:(f++rest).Nodup):SI C F H σ ρ ((v,d) :: τ) (f++rest):=by
 obtain ⟨f1,g,t,s,o,q,h1,h2,h3⟩:=I.sl
 refine ⟨⟨f1,g,f++t,s,.cons h o,?_,h1,fun a ha=>(List.mem_append.mp ha).elim (h0 a) (h2 a),h3⟩,nd,fun a ha=>(List.mem_append.mp ha).elim (ap a) (I.ap a),I.fh,I.f0,I.fn,I.kp,I.dm,I.pr⟩
 refine (q.append_left f).trans ?_
 rw [List.perm_iff_count]
 intro a
 simp only [List.count_append]
 omega
theorem SI.cut (I:SI C F H σ ρ τ fp){i:Nat}{s:Option Sl}(hs:ρ[i]? = some s):∃ x f0 g0 rest,σ[i]? = some x/\S1 C.K F H x s f0 g0/\fp.Perm (f0++(g0++rest))/\(∀ a∈f0,C.H₀ a=none)/\(∀ a∈g0,a∈C.A\/C.H₀ a=none)/\
  ∀ {F' H':Hp} {x':Option V} {s':Option Sl} {f0' g0':List Addr},Same F F'->Same F' H'->(∀ a∈rest,H' a=H a)->(∀ b,H' b=none->H b=none)->(∀ b o,C.H₀ b=some o->b∉C.A->H b=some o->H' b=some o)->(∀ b o,F' b=some o->F b=some o\/Nw C.H₀ b o)->
   S1 C.K F' H' x' s' f0' g0'->(f0'++(g0'++rest)).Nodup->(∀ a∈f0'++(g0'++rest),F' a=none)->(∀ a∈f0',C.H₀ a=none)->(∀ a∈g0',a∈C.A\/C.H₀ a=none)->(∀ v,(i,v)∈C.pars->x'=some v/\∃ d,s'=some (.par d))->
   SI C F' H' (σ.set i x') (ρ.set i s') τ (f0'++(g0'++rest)):=by
 obtain ⟨f,g,t,sl,o,q,h1,h2,h3⟩:=I.sl
 obtain ⟨x,f0,g0,f1,f2,g1,g2,ex,s1,rfl,rfl,k⟩:=sl.cut hs
 have mv:∀ (f0 g0:List Addr),(f0++(g0++(f1++f2++(g1++g2)++t))).Perm ((f1++(f0++f2))++((g1++(g0++g2))++t)):=fun f0 g0=>by
  rw [List.perm_iff_count]
  intro a
  simp only [List.count_append]
  omega
 refine ⟨x,f0,g0,f1++f2++(g1++g2)++t,ex,s1,q.trans (mv f0 g0).symm,fun a ha=>h1 a (by simp [ha]),fun a ha=>h3 a (by simp [ha]),fun {F' H' x' s' f0' g0'} sf fh hk dm kp fn n1 nd ap w0 w1 pr=>?_⟩
 have z:=k sf (fun a ha=>hk a (List.mem_append_left _ ha)) n1
 refine ⟨⟨_,_,t,z,o.keep sf fun a ha=>hk a (List.mem_append_right _ ha),mv f0' g0',fun a ha=>?_,h2,fun a ha=>?_⟩,nd,ap,fh,I.f0.trans sf,fun b ob e=>?_,fun b ob e n=>?_,fun b e=>I.dm b (dm b e),fun j v hj=>?_⟩
 ·simp only [List.mem_append] at ha
  rcases ha with z | z | z
  ·exact h1 a (by simp [z])
  ·exact w0 a z
  ·exact h1 a (by simp [z])
 ·simp only [List.mem_append] at ha
  rcases ha with z | z | z
  ·exact h3 a (by simp [z])
  ·exact w1 a z
  ·exact h3 a (by simp [z])
 ·rcases fn b ob e with z | z
  ·exact I.fn b ob z
  ·exact .inr z
 ·exact kp b ob e n (I.kp b ob e n)
 ·obtain ⟨p1,d,p2⟩:=I.pr j v hj
  by_cases e:i=j
  ·subst e
   obtain ⟨q1,d',q2⟩:=pr v hj
   have l1:i<σ.length:=(List.getElem?_eq_some_iff.mp p1).1
   have l2:i<ρ.length:=(List.getElem?_eq_some_iff.mp p2).1
   exact ⟨by rw [List.getElem?_set_self l1,q1],d',by rw [List.getElem?_set_self l2,q2]⟩
  ·exact ⟨by rw [List.getElem?_set_ne e];exact p1,d,by rw [List.getElem?_set_ne e];exact p2⟩
theorem Qoi {p q:List Addr}(h:p.Perm q):jn F H p=jn F H q:=by
 funext b
 unfold jn
 by_cases hb:b∈p
 ·rw [if_pos hb,if_pos (h.mem_iff.mp hb)]
 ·rw [if_neg hb,if_neg fun z=>hb (h.mem_iff.mpr z)]
theorem SI.freeze {v:V}{d:D}(I:SI C F H σ ρ ((v,d) :: τ) fp):∃ F' rest,SI C F' H σ ρ τ rest/\Same F F'/\R C.K F' v d/\jn F' H rest=jn F H fp:=by
 obtain ⟨f,rest,o,p,J,h0,ap,nd⟩:=I.pop
 have dis:∀ a∈rest,a∉f:=fun a ha hf=>(List.nodup_append.mp nd).2.2 a hf a ha rfl
 have sf:Same F (jn F H f):=QlA ap
 refine ⟨jn F H f,rest,J.step sf (Qcv J.fh) (fun _ _=>rfl) (fun a ha=>(QaY (dis a ha)).trans (J.ap a ha)) (fun b ob e=>?_) (fun b ob _ _ e=>e) (fun _ e=>e),sf,o.r sf fun a ha=>QbY ha,?_⟩
 ·by_cases hb:b∈f
  ·exact .inr (.inl (h0 b hb))
  ·rw [QaY hb] at e;exact .inl e
 ·funext b
  unfold jn
  by_cases hb:b∈rest
  ·rw [if_pos hb,if_pos (p.mem_iff.mpr (List.mem_append_right _ hb))]
  ·rw [if_neg hb]
   by_cases hf:b∈f
   ·rw [if_pos hf,if_pos (p.mem_iff.mpr (List.mem_append_left _ hf))]
   ·rw [if_neg hf,if_neg fun z=>(List.mem_append.mp (p.mem_iff.mp z)).elim hf hb]
theorem SI.drop (I:SI C F H σ ρ τ fp):∃ fp',SI C F H σ ρ [] fp':=by
 induction τ generalizing fp with
 |nil=>exact ⟨fp,I⟩
 |cons x τ ih=>
  obtain ⟨f,rest,_,_,J,_⟩:=SI.pop (v:=x.1) (d:=x.2) I
  exact ih J
end
inductive Rs (α:Type) where
 |ok (a:α)
 /-- an exception of the class at c -/
 |ex (c:Addr) (ρ:Rho)
 /-- nothing is said -/
 |no
def Rs.bind {α β:Type}:Rs α->(α->Rs β)->Rs β
 |.ok a,f=>f a
 |.ex c ρ,_=>.ex c ρ
 |.no,_=>.no
def Rs.of {α:Type}:Option α->Rs α
 |some a=>.ok a
 |none=>.no
abbrev ME:=Rho->Rs (D × Rho)
abbrev MT:=Rho->Rs (Bool × Rho)
abbrev MA:=Rho->Rs (List D × Rho)
abbrev XE:=L2.St->XK
def Run (C:Cn)(E:XE)(σ:L2.St){α:Type}(r:Rs α)(k:α->Prop):Prop:=match r with
 |.ok a=>k a
 |.ex c ρ=>∀ F H fp,SI C F H σ ρ [] fp->E σ (.ref c) none H
 |.no=>False
section
variable {C:Cn}{E:XE}{σ:L2.St}{α β:Type}
theorem Run.mono {r:Rs α}{k k':α->Prop}(h:Run C E σ r k)(f:∀ a,k a->k' a):Run C E σ r k':=by
 cases r with
 |ok a=>exact f a h
 |ex c ρ=>exact h
 |no=>exact h
theorem Run.split {r:Rs α}{f:α->Rs β}{k:β->Prop}(h:Run C E σ (r.bind f) k):Run C E σ r fun a=>Run C E σ (f a) k:=by
 cases r with
 |ok a=>exact h
 |ex c ρ=>exact h
 |no=>exact h
theorem Run.of {o:Option α}{k:α->Prop}(h:Run C E σ (Rs.of o) k):∃ a,o=some a/\k a:=by
 cases o with
 |none=>exact h.elim
 |some a=>exact ⟨a,rfl,h⟩
end
inductive Kd where
 /-- known for ever;one's own,new;known for now;the thing of a name,to be changed -/
 |V | O | B | S (i:Nat)
def Kd.tk:Kd->L2.V->D->List (L2.V × D)->List (L2.V × D)
 |.O,v,d,τ=>(v,d) :: τ
 |_,_,_,τ=>τ
def Kd.fc (C:Cn)(F H:Hp)(fp:List Addr)(σ:L2.St)(v:L2.V)(d:D):Kd->Prop
 |.V=>R C.K F v d
 |.B=>R C.K (jn F H fp) v d
 |.O=>True
 |.S i=>σ[i]? = some (some v)
structure Nx (p:Bool)(F H:Hp)(fp:List Addr)(F' H':Hp)(fp':List Addr):Prop where
 f:Same F F'
 g:p=true->Same (jn F H fp) (jn F' H' fp')
theorem Nx.refl {p:Bool}{F H:Hp}{fp:List Addr}:Nx p F H fp F H fp:=⟨Same.refl _,fun _=>Same.refl _⟩
theorem Nx.trans {p q:Bool}{F H F1 H1 F2 H2:Hp}{fp fp1 fp2:List Addr}(a:Nx p F H fp F1 H1 fp1)(b:Nx q F1 H1 fp1 F2 H2 fp2):Nx (p && q) F H fp F2 H2 fp2:=
 ⟨a.f.trans b.f,fun h=>(a.g (Bool.and_eq_true_iff.mp h).1).trans (b.g (Bool.and_eq_true_iff.mp h).2)⟩
theorem Nx.weak {p q:Bool}{F H F1 H1:Hp}{fp fp1:List Addr}(a:Nx p F H fp F1 H1 fp1)(h:q=true->p=true):Nx q F H fp F1 H1 fp1:=⟨a.f,fun z=>a.g (h z)⟩
def tX (k:Kd)(C:Cn)(p:Bool)(E:XE)(m:ME):TE:=fun σ H Q=>∃ F ρ τ fp,SI C F H σ ρ τ fp/\Run C E σ (m ρ) fun r=>
 ∀ F' H' fp' v,SI C F' H' σ r.2 (k.tk v r.1 τ) fp'->Nx p F H fp F' H' fp'->k.fc C F' H' fp' σ v r.1->Q v H'
def tT (C:Cn)(p:Bool)(E:XE)(m:MT):TT:=fun σ H Q=>∃ F ρ τ fp,SI C F H σ ρ τ fp/\Run C E σ (m ρ) fun r=>
 ∀ F' H' fp',SI C F' H' σ r.2 τ fp'->Nx p F H fp F' H' fp'->Q r.1 H'
def tkL:List Kd->List L2.V->List D->List (L2.V × D)->List (L2.V × D)
 |k :: ks,v :: vs,d :: ds,τ=>tkL ks vs ds (k.tk v d τ)
 |_,_,_,τ=>τ
inductive FcL (C:Cn) (F H:Hp) (fp:List Addr) (σ:L2.St):List Kd->List L2.V->List D->Prop
 |nil:FcL C F H fp σ [] [] []
 |cons {k:Kd} {v:L2.V} {d:D} {ks:List Kd} {vs:List L2.V} {ds:List D} (h:k.fc C F H fp σ v d) (r:FcL C F H fp σ ks vs ds):FcL C F H fp σ (k :: ks) (v :: vs) (d :: ds)
def tA (ks:List Kd)(C:Cn)(p:Bool)(E:XE)(m:MA):TA:=fun σ H Q=>∃ F ρ τ fp,SI C F H σ ρ τ fp/\Run C E σ (m ρ) fun r=>
 ∀ F' H' fp' vs,SI C F' H' σ r.2 (tkL ks vs r.1 τ) fp'->Nx p F H fp F' H' fp'->FcL C F' H' fp' σ ks vs r.1->Q vs H'
theorem Qan {X:Cx}{e:Expr}{t t':TE}(h:PE X e t)(k:∀ σ H Q,t' σ H Q->t σ H Q):PE X e t':=fun pins s σ H Q I q=>h pins s σ H Q I (k _ _ _ q)
theorem Qii {X:Cx}{e:Expr}{t t':TT}(h:PT X e t)(k:∀ σ H Q,t' σ H Q->t σ H Q):PT X e t':=fun pins s σ H Q I q=>h pins s σ H Q I (k _ _ _ q)
theorem QlS {X:Cx}{e:List Expr}{t t':TA}(h:PA X e t)(k:∀ σ H Q,t' σ H Q->t σ H Q):PA X e t':=fun pos pins s σ H Q I q=>h pos pins s σ H Q I (k _ _ _ q)
theorem Qa2 {X:Cx}{e:Stmt}{t t':TS}(h:PS X e t)(k:∀ D σ H,t' D σ H->t D σ H):PS X e t':=fun pins s σ H D I q=>h pins s σ H D I (k _ _ _ q)
theorem Qes {X:Cx}{e:List Stmt}{t t':TS}(h:PSs X e t)(k:∀ D σ H,t' D σ H->t D σ H):PSs X e t':=fun pins s σ H D I q=>h pins s σ H D I (k _ _ _ q)
section
variable {X:Cx}{C:Cn}{E:XE}{p pa pb:Bool}{e a b:Expr}{m ma mb:ME}{pos:Pos}{k ka kb:Kd}
theorem R.tj {F H:Hp}{σ:L2.St}{ρ:Rho}{τ:List (V × D)}{fp:List Addr}{v:L2.V}{d:D}(I:SI C F H σ ρ τ fp)(h:R C.K F v d):R C.K (jn F H fp) v d:=h.same (QlA I.ap)
theorem R.top {F H:Hp}{σ:L2.St}{ρ:Rho}{τ:List (V × D)}{fp:List Addr}{v:L2.V}{d:D}(I:SI C F H σ ρ τ fp)(h:R C.K (jn F H fp) v d):R C.K H v d:=h.same (Qcv I.fh)
def mC (d:D):ME:=fun ρ=>.ok (d,ρ)
theorem Qlg {d:D}{v:L2.V}(e:d.sc=some v){σ:L2.St}{H:Hp}{Q:VK}(h:tX .V C true E (mC d) σ H Q):tC v σ H Q:=by
 obtain ⟨F,ρ,τ,fp,I,r⟩:=h
 exact r F H fp v I .refl (.sc e)
theorem Qae {i j pos}:PE X (.Constant (.int i) j pos) (tX .V C true E (mC (.int i))):=Qan QnJ fun _ _ _ h=>Qlg rfl h
theorem QkX {b j pos}:PE X (.Constant (.bool b) j pos) (tX .V C true E (mC (.bl b))):=Qan QsI fun _ _ _ h=>Qlg rfl h
theorem Qey {x j pos}:PE X (.Constant (.str x) j pos) (tX .V C true E (mC (.str x))):=Qan Qq5 fun _ _ _ h=>Qlg rfl h
theorem Qll {x:Str}{d:D}{v:L2.V}{u:Value}{pos:Pos}(ed:d.sc=some v)(r:RelV v u)(hm:X.mg x=some u)(hg:Gl X x:=by rfl)(hd:(x == ("__debug__" : Str))=false:=by decide):PE X (.Name x pos) (tX .V C true E (mC d)):=Qan (Qpv hg hm r hd) fun _ _ _ h=>Qlg ed h
theorem Qgb {x:Str}{n:String}{pos:Pos}(hm:X.mg x=none)(hv:bootBuiltins x=some (.type n))(hg:Gl X x:=by rfl)(hn:x ≠ "__name__" := by decide)(hd:(x == ("__debug__" : Str))=false:=by decide):PE X (.Name x pos) (tX .V C true E (mC (.ty n))):=Qan (Qpz (v:=.ty n) hg hm hv rfl hn hd) fun _ _ _ h=>Qlg rfl h
def mB (i:Nat):ME:=fun ρ=>match ρ[i]? with
 |some (some (.frz d))=>.ok (d,ρ)
 |some (some (.own d))=>.ok (d,ρ)
 |some (some (.par d))=>.ok (d,ρ)
 |_=>.no
theorem Qro {i:Nat}{x:Str}{pos:Pos}(hN:X.N[i]? = some x)(hv:Vis X.env.scope x)(hd:(x == ("__debug__" : Str))=false:=by decide)(hcd:(x == ("__classdict__" : Str))=false:=by decide):PE X (.Name x pos) (tX .B C true E (mB i)):=Qan (QcZ hN hv hd hcd) fun σ H Q ⟨F,ρ,τ,fp,I,r⟩=>by
 unfold mB at r
 cases es:ρ[i]? with
 |none=>rw [es] at r;exact r.elim
 |some s=>
  rw [es] at r
  obtain ⟨y,f0,g0,rest,ey,s1,pm,_,_,_⟩:=I.cut es
  cases s1 with
  |non=>exact r.elim
  |frz h=>exact ⟨_,ey,r F H fp _ I .refl (h.tj I)⟩
  |own h=>exact ⟨_,ey,r F H fp _ I .refl (h.r (QlA I.ap) fun a ha=>QbY (pm.mem_iff.mpr (List.mem_append_left _ ha)))⟩
  |par h=>exact ⟨_,ey,r F H fp _ I .refl (h.r (QlA I.ap) fun a ha=>QbY (pm.mem_iff.mpr (List.mem_append_right _ (List.mem_append_left _ ha))))⟩
def mV (i:Nat):ME:=fun ρ=>match ρ[i]? with
 |some (some (.frz d))=>.ok (d,ρ)
 |some (some (.own d))=>.ok (d,ρ.set i (some (.frz d)))
 |_=>.no
theorem Qbg {α:Type}{l:List α}{i:Nat}{x:α}(h:l[i]? = some x):l.set i x=l:=by
 apply List.ext_getElem?
 intro j
 by_cases e:i=j
 ·subst e
  rw [List.getElem?_set_self (List.getElem?_eq_some_iff.mp h).1,h]
 ·rw [List.getElem?_set_ne e]
theorem SI.frzSlot {F H:Hp}{σ:L2.St}{ρ:Rho}{τ:List (V × D)}{fp:List Addr}{i:Nat}{d:D}(I:SI C F H σ ρ τ fp)(es:ρ[i]? = some (some (.own d))) :
  ∃ F' fp' v,σ[i]? = some (some v)/\SI C F' H σ (ρ.set i (some (.frz d))) τ fp'/\R C.K F' v d/\Same F F'/\jn F' H fp'=jn F H fp:=by
 obtain ⟨y,f0,g0,rest,ey,s1,pm,w0,w1,cl⟩:=I.cut es
 cases s1 with
 | @own v _ _ h=>
  have nd:=pm.nodup_iff.mp I.nd
  have ap:∀ a∈f0,F a=none:=fun a ha=>I.ap a (pm.mem_iff.mpr (List.mem_append_left _ ha))
  have dis:∀ a∈rest,a∉f0:=fun a ha hf=>(List.nodup_append.mp nd).2.2 a hf a ha rfl
  have sf:Same F (TL.jn F H f0):=QlA ap
  have rr:R C.K (TL.jn F H f0) v d:=h.r sf fun a ha=>QbY ha
  have q:=cl (F':=TL.jn F H f0) (H':=H) (x':=some v) (s':=some (.frz d)) (f0':=[]) (g0':=[]) sf (Qcv I.fh) (fun _ _=>rfl) (fun _ z=>z) (fun _ _ _ _ z=>z) (fun b o e=>by
   by_cases hb:b∈f0
   ·exact .inr (.inl (w0 b hb))
   ·rw [QaY hb] at e;exact .inl e) (.frz rr) (List.nodup_append.mp nd).2.1 (fun a ha=>(QaY (dis a ha)).trans (I.ap a (pm.mem_iff.mpr (List.mem_append_right _ ha)))) (fun _ z=>nomatch z) (fun _ z=>nomatch z) (fun v' hv=>by
    obtain ⟨_,d',z⟩:=I.pr _ _ hv
    rw [es] at z;cases z)
  rw [Qbg ey] at q
  refine ⟨_,_,v,ey,q,rr,sf,?_⟩
  funext b
  show TL.jn (TL.jn F H f0) H rest b=TL.jn F H fp b
  unfold TL.jn
  by_cases hb:b∈rest
  ·rw [if_pos hb,if_pos (pm.mem_iff.mpr (List.mem_append_right _ hb))]
  ·rw [if_neg hb]
   by_cases hf:b∈f0
   ·rw [if_pos hf,if_pos (pm.mem_iff.mpr (List.mem_append_left _ hf))]
   ·rw [if_neg hf,if_neg fun z=>(List.mem_append.mp (pm.mem_iff.mp z)).elim hf hb]
theorem QpY {i:Nat}{x:Str}{pos:Pos}(hN:X.N[i]? = some x)(hv:Vis X.env.scope x)(hd:(x == ("__debug__" : Str))=false:=by decide)(hcd:(x == ("__classdict__" : Str))=false:=by decide):PE X (.Name x pos) (tX .V C true E (mV i)):=Qan (QcZ hN hv hd hcd) fun σ H Q ⟨F,ρ,τ,fp,I,r⟩=>by
 unfold mV at r
 cases es:ρ[i]? with
 |none=>rw [es] at r;exact r.elim
 |some s=>
  rw [es] at r
  cases s with
  |none=>exact r.elim
  |some s=>
   cases s with
   |frz d=>
    obtain ⟨y,f0,g0,rest,ey,s1,_⟩:=I.cut es
    cases s1 with
    |frz h=>exact ⟨_,ey,r F H fp _ I .refl h⟩
   |own d=>
    obtain ⟨F',fp',v,ey,J,rr,sf,je⟩:=I.frzSlot es
    exact ⟨v,ey,r F' H fp' v J ⟨sf,fun _=>by rw [je];exact Same.refl _⟩ rr⟩
   |par d=>exact r.elim
def mO (i:Nat):ME:=fun ρ=>match ρ[i]? with
 |some (some (.own d))=>.ok (d,ρ.set i none)
 |_=>.no
theorem Qsu {i:Nat}{x:Str}{pos:Pos}(hN:X.N[i]? = some x)(hv:Vis X.env.scope x)(hd:(x == ("__debug__" : Str))=false:=by decide)(hcd:(x == ("__classdict__" : Str))=false:=by decide):PE X (.Name x pos) (tX .O C true E (mO i)):=Qan (QcZ hN hv hd hcd) fun σ H Q ⟨F,ρ,τ,fp,I,r⟩=>by
 unfold mO at r
 cases es:ρ[i]? with
 |none=>rw [es] at r;exact r.elim
 |some s=>
  rw [es] at r
  obtain ⟨y,f0,g0,rest,ey,s1,pm,w0,w1,cl⟩:=I.cut es
  cases s1 with
  |non=>exact r.elim
  |frz h=>exact r.elim
  |par h=>exact r.elim
  | @own v d f h=>
   have nd:=pm.nodup_iff.mp I.nd
   have q:=cl (F':=F) (H':=H) (x':=some v) (s':=none) (f0':=[]) (g0':=[]) (Same.refl _) I.fh (fun _ _=>rfl) (fun _ z=>z) (fun _ _ _ _ z=>z) (fun b o e=>.inl e) .non (List.nodup_append.mp nd).2.1 (fun a ha=>I.ap a (pm.mem_iff.mpr (List.mem_append_right _ ha))) (fun _ z=>nomatch z) (fun _ z=>nomatch z) (fun v' hv=>by
    obtain ⟨_,d',z⟩:=I.pr _ _ hv
    rw [es] at z;cases z)
   rw [Qbg ey] at q
   have q2:=q.push h w0 (fun a ha=>I.ap a (pm.mem_iff.mpr (List.mem_append_left _ ha))) nd
   refine ⟨v,ey,r F H _ v q2 ⟨Same.refl _,fun _=>?_⟩ True.intro⟩
   have e:TL.jn F H fp=TL.jn F H (f0++([]++([]++rest))):=Qoi pm
   rw [e]
   exact Same.refl _
theorem Qf2 (h:PE X e (tX .O C p E m)):PE X e (tX .V C p E m):=Qan h fun σ H Q ⟨F,ρ,τ,fp,I,r⟩=>
 ⟨F,ρ,τ,fp,I,r.mono fun a z F' H' fp' v I' n f=>by
  obtain ⟨F2,rest,J,sf,rr,je⟩:=SI.freeze (show SI C F' H' σ a.2 ((v,a.1) :: τ) fp' from I')
  exact z F2 H' rest v J ⟨n.f.trans sf,fun hp=>by rw [je];exact n.g hp⟩ rr⟩
def mI (m:ME):ME:=fun ρ=>(m ρ).bind fun r=>if r.1.imm=true then .ok r else .no
theorem Qcu (h:PE X e (tX .V C p E m)):PE X e (tX .O C p E (mI m)):=Qan h fun σ H Q ⟨F,ρ,τ,fp,I,r⟩=>
 ⟨F,ρ,τ,fp,I,r.split.mono fun a z F' H' fp' v I' n f=>by
  by_cases hi:a.1.imm=true
  ·rw [if_pos hi] at z
   have J:=SI.push (τ:=τ) I' (R.o (H:=H') f hi) (fun _ z=>nomatch z) (fun _ z=>nomatch z) (by simpa using I'.nd)
   exact z F' H' fp' v J n True.intro
  ·rw [if_neg hi] at z
   exact z.elim⟩
def OpD (K:PySem.W.Frag)(r:R2)(g:D->D->Option D):Prop:=∀ H v u d e res,R K H v d->R K H u e->g d e=some res->∃ w,res.sc=some w/\∀ Q:VK,Q w H->r v u H Q
def mOp (g:D->D->Option D)(ma mb:ME):ME:=fun ρ=>(ma ρ).bind fun r1=>(mb r1.2).bind fun r2=>Rs.of ((g r1.1 r2.1).map fun d=>(d,r2.2))
def Kd.on:Kd->Bool->Bool
 |.V,_=>true
 |.B,p=>p
 |.O,_=>false
 |.S _,_=>false
theorem Kd.stay {F H F1 H1:Hp}{σ:L2.St}{ρ:Rho}{τ':List (L2.V × D)}{fp fp1:List Addr}{v:L2.V}{d:D}{q:Bool}(ok:k.on q=true)(h:k.fc C F H fp σ v d)(n:Nx q F H fp F1 H1 fp1)(I:SI C F1 H1 σ ρ τ' fp1):R C.K (TL.jn F1 H1 fp1) v d:=by
 cases k with
 |V=>exact (R.same n.f h).tj I
 |B=>exact R.same (n.g ok) h
 |O=>cases ok
 |S i=>cases ok
theorem Kd.tk_on {q:Bool}(ok:k.on q=true)(v:L2.V)(d:D)(τ:List (L2.V × D)):k.tk v d τ=τ:=by
 cases k with
 |V=>rfl
 |B=>rfl
 |O=>cases ok
 |S i=>cases ok
theorem QkO {r:R2}{g:D->D->Option D}(hg:OpD C.K r g)(ok:ka.on pb=true)(ok2:kb.on true=true){σ:L2.St}{H:Hp}{Q:VK}(h:tX .V C (pa && pb) E (mOp g ma mb) σ H Q):tOp r (tX ka C pa E ma) (tX kb C pb E mb) σ H Q:=by
 obtain ⟨F,ρ,τ,fp,I,h⟩:=h
 refine ⟨F,ρ,τ,fp,I,h.split.mono fun r1 h1 F1 H1 fp1 v1 I1 n1 f1=>?_⟩
 rw [Kd.tk_on ok] at I1
 refine ⟨F1,r1.2,τ,fp1,I1,h1.split.mono fun r2 h2 F2 H2 fp2 v2 I2 n2 f2=>?_⟩
 rw [Kd.tk_on ok2] at I2
 obtain ⟨z,ez,h3⟩:=h2.of
 obtain ⟨res,eg,rfl⟩:=Option.map_eq_some_iff.mp ez
 obtain ⟨w,ew,hw⟩:=hg H2 v1 v2 _ _ _ (R.top I2 (Kd.stay ok f1 n2 I2)) (R.top I2 (Kd.stay ok2 f2 .refl I2)) eg
 exact hw _ (h3 F2 H2 fp2 w I2 (n1.trans n2) (.sc ew))
theorem QbH {op:Operator}{r:R2}{g:D->D->Option D}(ho:OpR X (binaryOp op) r)(hg:OpD C.K r g)(ha:PE X a (tX ka C pa E ma))(hb:PE X b (tX kb C pb E mb))(ok:ka.on pb=true:=by rfl)(ok2:kb.on true=true:=by rfl):PE X (.BinOp a op b pos) (tX .V C (pa && pb) E (mOp g ma mb)):=
 Qan (Qrl ho ha hb) fun _ _ _ h=>QkO hg ok ok2 h
theorem Qj2 {op:CmpOp}{r:R2}{g:D->D->Option D}(ho:OpR X (compareOp op) r)(hg:OpD C.K r g)(ha:PE X a (tX ka C pa E ma))(hb:PE X b (tX kb C pb E mb))(hm:behindInMarks op b=false)(ok:ka.on pb=true:=by rfl)(ok2:kb.on true=true:=by rfl):PE X (.Compare a [op] [b] pos) (tX .V C (pa && pb) E (mOp g ma mb)):=
 Qan (Qph ho ha hb hm) fun _ _ _ h=>QkO hg ok ok2 h
def asB:D->Option Bool
 |.bl b=>some b
 |_=>none
def QaJ (m:ME):MT:=fun ρ=>(m ρ).bind fun r=>Rs.of ((asB r.1).map fun b=>(b,r.2))
theorem Qiv (ok:k.on true=true){σ:L2.St}{H:Hp}{Q:Bool->Hp->Prop}(h:tT C p E (QaJ m) σ H Q):QrZ (tX k C p E m) σ H Q:=by
 obtain ⟨F,ρ,τ,fp,I,h⟩:=h
 refine ⟨F,ρ,τ,fp,I,h.split.mono fun r h F1 H1 fp1 v1 I1 n1 f1=>?_⟩
 rw [Kd.tk_on ok] at I1
 obtain ⟨z,ez,h3⟩:=h.of
 obtain ⟨b,eb,rfl⟩:=Option.map_eq_some_iff.mp ez
 have e:r.1=.bl b:=by
  cases q:r.1<;>rw [q] at eb<;>cases eb
  rfl
 have rr:=Kd.stay ok f1 .refl I1
 rw [e] at rr
 exact ⟨b,rr.det_sc rfl,h3 F1 H1 fp1 I1 n1⟩
theorem Qa4 {op:CmpOp}{r:R2}{g:D->D->Option D}(ho:OpR X (compareOp op) r)(hg:OpD C.K r g)(ha:PE X a (tX ka C pa E ma))(hb:PE X b (tX kb C pb E mb))(hm:behindInMarks op b=false)(ok:ka.on pb=true:=by rfl)(ok2:kb.on true=true:=by rfl):PT X (.Compare a [op] [b] pos) (tT C (pa && pb) E (QaJ (mOp g ma mb))):=
 Qii (QpA ho ha hb hm) fun σ H Q h=>by
  have q:=Qiv (k:=.V) rfl h
  exact QkO hg ok ok2 q
theorem Qca (h:PE X e (tX k C p E m))(ok:k.on true=true:=by rfl)(he:∀ whole,isTrue e X.env whole=(do let v ← whole;standAt e.pos;holding [v] (truthy v)):=by intro _;rfl):PT X e (tT C p E (QaJ m)):=
 Qii (Qrv h he) fun _ _ _ h=>Qiv ok h
def Qh4 (m:MT):MT:=fun ρ=>(m ρ).bind fun r=>.ok (!r.1,r.2)
def Qs0 (m u:MT):MT:=fun ρ=>(m ρ).bind fun r=>if r.1=true then u r.2 else .ok (false,r.2)
def mOr (m u:MT):MT:=fun ρ=>(m ρ).bind fun r=>if r.1=true then .ok (true,r.2) else u r.2
variable {mt mu:MT}{rest:List Expr}
theorem Qco (h:PT X e (tT C p E mt)):PT X (.UnaryOp .Not e pos) (tT C p E (Qh4 mt)):=Qii (Qqn h) fun σ H Q ⟨F,ρ,τ,fp,I,r⟩=>
 ⟨F,ρ,τ,fp,I,r.split⟩
theorem Qpl (ha:PT X a (tT C pa E mt))(hb:PW X (.BoolOp .And (b :: rest) pos) (tT C pb E mu)):PW X (.BoolOp .And (a :: b :: rest) pos) (tT C (pa && pb) E (Qs0 mt mu)):=fun whole pins s σ H Q J h=>
 Qsf ha hb whole pins s σ H Q J (by
  obtain ⟨F,ρ,τ,fp,I,r⟩:=h
  refine ⟨F,ρ,τ,fp,I,r.split.mono fun r1 h1 F1 H1 fp1 I1 n1=>?_⟩
  by_cases c:r1.1=true
  ·rw [if_pos c] at h1 ⊢
   exact ⟨F1,r1.2,τ,fp1,I1,h1.mono fun r2 h2 F2 H2 fp2 I2 n2=>h2 F2 H2 fp2 I2 (n1.trans n2)⟩
  ·rw [if_neg c] at h1 ⊢
   exact h1 F1 H1 fp1 I1 (n1.weak fun z=>(Bool.and_eq_true_iff.mp z).1))
theorem Qj8 (ha:PT X a (tT C pa E mt))(hb:PW X (.BoolOp .Or (b :: rest) pos) (tT C pb E mu)):PW X (.BoolOp .Or (a :: b :: rest) pos) (tT C (pa && pb) E (mOr mt mu)):=fun whole pins s σ H Q J h=>
 Qs1 ha hb whole pins s σ H Q J (by
  obtain ⟨F,ρ,τ,fp,I,r⟩:=h
  refine ⟨F,ρ,τ,fp,I,r.split.mono fun r1 h1 F1 H1 fp1 I1 n1=>?_⟩
  by_cases c:r1.1=true
  ·rw [if_pos c] at h1 ⊢
   exact h1 F1 H1 fp1 I1 (n1.weak fun z=>(Bool.and_eq_true_iff.mp z).1)
  ·rw [if_neg c] at h1 ⊢
   exact ⟨F1,r1.2,τ,fp1,I1,h1.mono fun r2 h2 F2 H2 fp2 I2 n2=>h2 F2 H2 fp2 I2 (n1.trans n2)⟩)
theorem QmP {op:BoolOp}(ha:PT X a (tT C p E mt)):PW X (.BoolOp op [a] pos) (tT C p E mt):=by
 cases op with
 |And=>exact Qpq ha
 |Or=>exact Qq8 ha
def QhS (ma mb:ME):ME:=fun ρ=>(ma ρ).bind fun r=>(Rs.of (asB r.1)).bind fun c=>if c=true then mb r.2 else .ok (.bl false,r.2)
def Qo6 (m:ME):ME:=fun ρ=>(m ρ).bind fun r=>Rs.of ((asB r.1).map fun b=>(.bl (!b),r.2))
theorem Qk4 {d:D}{b:Bool}(h:asB d=some b):d=.bl b:=by
 cases d<;>cases h
 rfl
theorem QkM {op:BoolOp}(h:PE X a (tX k C p E m)):PE X (.BoolOp op [a] pos) (tX k C p E m):=Qr0 h
theorem QlI (ha:PE X a (tX ka C pa E ma))(hb:PE X (.BoolOp .And (b :: rest) pos) (tX .V C pb E mb))(ok:ka.on true=true:=by rfl):PE X (.BoolOp .And (a :: b :: rest) pos) (tX .V C (pa && pb) E (QhS ma mb)):=Qan (Qsn ha hb) fun σ H Q ⟨F,ρ,τ,fp,I,r⟩=>by
 refine ⟨F,ρ,τ,fp,I,r.split.mono fun r1 h1 F1 H1 fp1 v1 I1 n1 f1=>?_⟩
 rw [Kd.tk_on ok] at I1
 obtain ⟨c,ec,h2⟩:=h1.split.of
 have rr:=Kd.stay ok f1 .refl I1
 rw [Qk4 ec] at rr
 refine ⟨c,rr.det_sc rfl,?_⟩
 by_cases hc:c=true
 ·rw [if_pos hc] at h2 ⊢
  exact ⟨F1,r1.2,τ,fp1,I1,h2.mono fun r2 h3 F2 H2 fp2 v2 I2 n2 f2=>h3 F2 H2 fp2 v2 I2 (n1.trans n2) f2⟩
 ·rw [if_neg hc] at h2 ⊢
  exact h2 F1 H1 fp1 _ I1 (n1.weak fun z=>(Bool.and_eq_true_iff.mp z).1) (.sc rfl)
theorem Qtp (ha:PE X a (tX ka C pa E ma))(ok:ka.on true=true:=by rfl):PE X (.UnaryOp .Not a pos) (tX .V C pa E (Qo6 ma)):=Qan (QrN ha) fun σ H Q ⟨F,ρ,τ,fp,I,r⟩=>by
 refine ⟨F,ρ,τ,fp,I,r.split.mono fun r1 h1 F1 H1 fp1 v1 I1 n1 f1=>?_⟩
 rw [Kd.tk_on ok] at I1
 obtain ⟨z,ez,h3⟩:=h1.of
 obtain ⟨b,eb,rfl⟩:=Option.map_eq_some_iff.mp ez
 have rr:=Kd.stay ok f1 .refl I1
 rw [Qk4 eb] at rr
 exact ⟨b,rr.det_sc rfl,h3 F1 H1 fp1 _ I1 n1 (.sc rfl)⟩
def QsV (mt:MT)(ma mb:ME):ME:=fun ρ=>(mt ρ).bind fun r=>if r.1=true then ma r.2 else mb r.2
theorem Qs5 {c:Expr}{pc:Bool}(hc:PT X c (tT C pc E mt))(ha:PE X a (tX k C pa E ma))(hb:PE X b (tX k C pb E mb)):PE X (.IfExp c a b pos) (tX k C (pc && (pa && pb)) E (QsV mt ma mb)):=Qan (Qmw hc ha hb) fun σ H Q ⟨F,ρ,τ,fp,I,r⟩=>by
 refine ⟨F,ρ,τ,fp,I,r.split.mono fun r1 h1 F1 H1 fp1 I1 n1=>?_⟩
 by_cases cc:r1.1=true
 ·rw [if_pos cc] at h1 ⊢
  exact ⟨F1,r1.2,τ,fp1,I1,h1.mono fun r2 h2 F2 H2 fp2 v2 I2 n2 f2=>h2 F2 H2 fp2 v2 I2 ((n1.trans n2).weak fun z=>by cases pc<;>cases pa<;>cases pb<;>simp_all) f2⟩
 ·rw [if_neg cc] at h1 ⊢
  exact ⟨F1,r1.2,τ,fp1,I1,h1.mono fun r2 h2 F2 H2 fp2 v2 I2 n2 f2=>h2 F2 H2 fp2 v2 I2 ((n1.trans n2).weak fun z=>by cases pc<;>cases pa<;>cases pb<;>simp_all) f2⟩
end
section
variable {X:Cx}{C:Cn}{E:XE}{p pa pb:Bool}{e a b:Expr}{es:List Expr}{m ma mb:ME}{mr:MA}{pos:Pos}{k ka kb:Kd}{ks:List Kd}
def mS (i:Nat):ME:=fun ρ=>match ρ[i]? with
 |some (some (.own d))=>.ok (d,ρ)
 |some (some (.par d))=>.ok (d,ρ)
 |_=>.no
theorem Qsa {i:Nat}{x:Str}{pos:Pos}(hN:X.N[i]? = some x)(hv:Vis X.env.scope x)(hd:(x == ("__debug__" : Str))=false:=by decide)(hcd:(x == ("__classdict__" : Str))=false:=by decide):PE X (.Name x pos) (tX (.S i) C true E (mS i)):=Qan (QcZ hN hv hd hcd) fun σ H Q ⟨F,ρ,τ,fp,I,r⟩=>by
 unfold mS at r
 cases es:ρ[i]? with
 |none=>rw [es] at r;exact r.elim
 |some s=>
  rw [es] at r
  obtain ⟨y,f0,g0,rest,ey,s1,_⟩:=I.cut es
  cases s1 with
  |non=>exact r.elim
  |frz h=>exact r.elim
  |own h=>exact ⟨_,ey,r F H fp _ I .refl ey⟩
  |par h=>exact ⟨_,ey,r F H fp _ I .refl ey⟩
def Kd.ona:Kd->Bool->Bool
 |.B,p=>p
 |_,_=>true
def Qal:MA:=fun ρ=>.ok ([],ρ)
def Qab (m:ME)(mr:MA):MA:=fun ρ=>(m ρ).bind fun r=>(mr r.2).bind fun q=>.ok (r.1 :: q.1,q.2)
theorem Qad:PA X [] (tA [] C true E Qal):=QlS QiT fun σ H Q ⟨F,ρ,τ,fp,I,r⟩=>r F H fp [] I .refl .nil
theorem Kd.fc_on {F H F1 H1:Hp}{fp fp1:List Addr}{σ:L2.St}{v:L2.V}{d:D}{q:Bool}(ok:k.ona q=true)(h:k.fc C F H fp σ v d)(n:Nx q F H fp F1 H1 fp1):k.fc C F1 H1 fp1 σ v d:=by
 cases k with
 |V=>exact R.same n.f h
 |B=>exact R.same (n.g ok) h
 |O=>exact True.intro
 |S i=>exact h
theorem Qaa (ha:PE X e (tX k C pa E m))(hr:PA X es (tA ks C pb E mr))(ok:k.ona pb=true:=by rfl)(hs:starEach (e :: es) X.env=(false,eval e X.env) :: starEach es X.env:=by rfl):PA X (e :: es) (tA (k :: ks) C (pa && pb) E (Qab m mr)):=QlS (QfV ha hr hs) fun σ H Q ⟨F,ρ,τ,fp,I,r⟩=>
 ⟨F,ρ,τ,fp,I,r.split.mono fun r1 h1 F1 H1 fp1 v1 I1 n1 f1=>⟨F1,r1.2,_,fp1,I1,h1.split.mono fun r2 h2 F2 H2 fp2 vs I2 n2 f2=>
  h2 F2 H2 fp2 (v1 :: vs) I2 (n1.trans n2) (.cons (Kd.fc_on ok f1 n2) f2)⟩⟩
def rdL:List Kd->Bool
 | []=>true
 |.V :: r=>rdL r
 |.B :: r=>rdL r
 |_=>false
def knL:List Kd->Bool
 | []=>true
 |.V :: r=>knL r
 |_=>false
theorem QbT:∀ {ks:List Kd} {vs:List L2.V} {ds:List D} {τ:List (L2.V × D)},rdL ks=true->tkL ks vs ds τ=τ
 | [],_,_,_,_=>by unfold tkL;rfl
 |.V :: ks,[],_,_,_=>by unfold tkL;rfl
 |.V :: ks,_ :: _,[],_,_=>by unfold tkL;rfl
 |.V :: ks,v :: vs,d :: ds,τ,h=>by unfold tkL;exact QbT (ks:=ks) h
 |.B :: ks,[],_,_,_=>by unfold tkL;rfl
 |.B :: ks,_ :: _,[],_,_=>by unfold tkL;rfl
 |.B :: ks,v :: vs,d :: ds,τ,h=>by unfold tkL;exact QbT (ks:=ks) h
 |.O :: ks,_,_,_,h=>by cases h
 |.S i :: ks,_,_,_,h=>by cases h
theorem FcL.rd {F H:Hp}{fp:List Addr}{σ:L2.St}{ρ:Rho}{τ:List (L2.V × D)}(I:SI C F H σ ρ τ fp):∀ {ks:List Kd} {vs:List L2.V} {ds:List D},FcL C F H fp σ ks vs ds->rdL ks=true->RL C.K (jn F H fp) vs ds
 |_,_,_,.nil,_=>.nil
 |.V :: _,_,_,.cons h r,q=>.cons (R.tj I h) (FcL.rd I r q)
 |.B :: _,_,_,.cons h r,q=>.cons h (FcL.rd I r q)
 |.O :: _,_,_,.cons h r,q=>by cases q
 |.S _ :: _,_,_,.cons h r,q=>by cases q
theorem FcL.kn {F H:Hp}{fp:List Addr}{σ:L2.St}:∀ {ks:List Kd} {vs:List L2.V} {ds:List D},FcL C F H fp σ ks vs ds->knL ks=true->RL C.K F vs ds
 |_,_,_,.nil,_=>.nil
 |.V :: _,_,_,.cons h r,q=>.cons h (FcL.kn r q)
 |.B :: _,_,_,.cons h r,q=>by cases q
 |.O :: _,_,_,.cons h r,q=>by cases q
 |.S _ :: _,_,_,.cons h r,q=>by cases q
theorem Qde:∀ {ks:List Kd},knL ks=true->rdL ks=true
 | [],_=>rfl
 |.V :: ks,h=>Qde (ks:=ks) h
 |.B :: ks,h=>by cases h
 |.O :: ks,h=>by cases h
 |.S i :: ks,h=>by cases h
def QeO (K:PySem.W.Frag)(r:List L2.V->Hp->VK->Prop)(g:List D->Option D):Prop:=∀ H vs ds res,RL K H vs ds->g ds=some res->∃ w,res.sc=some w/\∀ Q:VK,Q w H->r vs H Q
def Qau (g:List D->Option D)(mr:MA):ME:=fun ρ=>(mr ρ).bind fun r=>Rs.of ((g r.1).map fun d=>(d,r.2))
theorem QnM {r:List L2.V->Hp->VK->Prop}{g:List D->Option D}(hg:QeO C.K r g)(ok:rdL ks=true){σ:L2.St}{H:Hp}{Q:VK}(h:tX .V C p E (Qau g mr) σ H Q):tCB r (tA ks C p E mr) σ H Q:=by
 obtain ⟨F,ρ,τ,fp,I,h⟩:=h
 refine ⟨F,ρ,τ,fp,I,h.split.mono fun r1 h1 F1 H1 fp1 vs I1 n1 f1=>?_⟩
 rw [QbT ok] at I1
 obtain ⟨z,ez,h3⟩:=h1.of
 obtain ⟨res,eg,rfl⟩:=Option.map_eq_some_iff.mp ez
 obtain ⟨w,ew,hw⟩:=hg H1 vs _ _ (RL.same (Qcv I1.fh) (f1.rd I1 ok)) eg
 exact hw _ (h3 F1 H1 fp1 w I1 n1 (.sc ew))
theorem Qav {x:Str}{px:Pos}{id:String}{r:List L2.V->Hp->VK->Prop}{g:List D->Option D}(hc:Qcm X (.builtin id) r)(hg:QeO C.K r g)(hm:X.mg x=none)(hv:bootBuiltins x=some (.builtin id))(ha:PA X (e :: es) (tA ks C p E mr))(ok:rdL ks=true:=by rfl)(hgl:Gl X x:=by rfl)(hn:x ≠ "__name__" := by decide)(hdb:(x == ("__debug__" : Str))=false:=by decide)
  (he:starEach (e :: es) X.env=(false,eval e X.env) :: starEach es X.env:=by rfl) (hpl:(backTo pos (starEach es X.env)).any (·.1)=false:=by rfl):PE X (.Call (.Name x px) (e :: es) [] pos) (tX .V C p E (Qau g mr)):=
 Qan (QiX hc hgl hm hv ha hn hdb he hpl) fun _ _ _ h=>QnM hg ok h
theorem QiB {x:Str}{px:Pos}{T:String}{r:List L2.V->Hp->VK->Prop}{g:List D->Option D}(hc:Qcm X (.type T) r)(hg:QeO C.K r g)(hm:X.mg x=none)(hv:bootBuiltins x=some (.type T))(ha:PA X (e :: es) (tA ks C p E mr))(ok:rdL ks=true:=by rfl)(hgl:Gl X x:=by rfl)(hn:x ≠ "__name__" := by decide)(hdb:(x == ("__debug__" : Str))=false:=by decide)
  (he:starEach (e :: es) X.env=(false,eval e X.env) :: starEach es X.env:=by rfl) (hpl:(backTo pos (starEach es X.env)).any (·.1)=false:=by rfl):PE X (.Call (.Name x px) (e :: es) [] pos) (tX .V C p E (Qau g mr)):=
 Qan (Qc4 hc hgl hm hv ha hn hdb he hpl) fun _ _ _ h=>QnM hg ok h
theorem Qhp {F H:Hp}{fp:List Addr}{q:Addr}{o:HO}{σ:L2.St}{ρ:Rho}{τ:List (L2.V × D)}(I:SI C F H σ ρ τ fp)(hq:H q=none):Same (jn F H fp) (jn (upd F q o) (upd H q o) fp):=fun b ob e=>by
 by_cases hb:b∈fp
 ·rw [QbY hb] at e ⊢;exact Same.upd hq b ob e
 ·rw [QaY hb] at e ⊢;exact Same.upd (I.fh.free hq) b ob e
theorem QeM {F H:Hp}{fp:List Addr}{q:Addr}{o:HO}{σ:L2.St}{ρ:Rho}{τ:List (L2.V × D)}(I:SI C F H σ ρ τ fp)(hq:H q=none):Same (jn F H fp) (jn F (upd H q o) ([q]++fp)):=fun b ob e=>by
 have fq:=I.fh.free hq
 have e':=Qcv I.fh b ob e
 have nb:b≠q:=Qao e' hq
 by_cases hb:b∈fp
 ·rw [QbY (List.mem_append_right _ hb),Qag nb];exact e'
 ·rw [QaY hb] at e
  rw [QaY (by simp [hb,nb])];exact e
theorem SI.newList {F H:Hp}{fp:List Addr}{q:Addr}{vs:List L2.V}{ds:List D}{σ:L2.St}{ρ:Rho}{τ:List (L2.V × D)}(I:SI C F H σ ρ τ fp)(hq:H q=none)(r:RL C.K F vs ds)(hi:D.immL ds=true):SI C F (upd H q (.lst vs)) σ ρ ((.ref q,.lst ds) :: τ) ([q]++fp):=by
 have J:=I.lay0 (o:=.lst vs) hq
 have nq:q∉fp:=fun z=>by
  obtain ⟨o,e,_⟩:=I.mem q z
  rw [hq] at e;cases e
 refine J.push (f:=[q]) (.mt (t:=.lst) (show upd H q (.lst vs) q=some (.lst vs) from Qap) (RL.o r hi)) (fun a ha=>?_) (fun a ha=>?_) (List.nodup_append.mpr ⟨by simp,I.nd,fun x hx y hy z=>?_⟩)
 ·rw [List.mem_singleton.mp ha];exact I.dm q hq
 ·rw [List.mem_singleton.mp ha];exact I.fh.free hq
 ·subst z;rw [List.mem_singleton.mp hx] at hy;exact nq hy
def Qoa (mr:MA):ME:=fun ρ=>(mr ρ).bind fun r=>if r.1.length<=sizeLine then .ok (.lst r.1,r.2) else .no
def Qe6 (mr:MA):ME:=fun ρ=>(mr ρ).bind fun r=>if r.1.length<=sizeLine then .ok (.tup r.1,r.2) else .no
def Qgg (mr:MA):ME:=fun ρ=>(mr ρ).bind fun r=>if r.1.length<=sizeLine then (if D.immL r.1=true then .ok (.lst r.1,r.2) else .no) else .no
theorem QbM {x1:Nat}(h:PA X es (tA ks C p E mr))(ok:knL ks=true:=by rfl):PE X (.Tuple es x1 pos) (tX .V C p E (Qe6 mr)):=Qan (QnQ h) fun σ H Q ⟨F,ρ,τ,fp,I,h⟩=>by
 refine ⟨F,ρ,τ,fp,I,h.split.mono fun r1 h1 F1 H1 fp1 vs I1 n1 f1=>?_⟩
 rw [QbT (Qde ok)] at I1
 have rl:=f1.kn ok
 by_cases hz:r1.1.length<=sizeLine
 ·rw [if_pos hz] at h1
  refine ⟨by rw [rl.length];exact hz,fun q hq=>?_⟩
  have s:=Same.upd (o:=HO.tup vs) (I1.fh.free hq)
  exact h1 _ _ fp1 _ (I1.lay hq) ((n1.trans (q:=true) ⟨s,fun _=>Qhp I1 hq⟩).weak fun z=>by simp [z]) (.nd (t:=.tup) Qap (rl.same s))
 ·rw [if_neg hz] at h1;exact h1.elim
theorem QkL (h:PA X es (tA ks C p E mr))(ok:knL ks=true:=by rfl):PE X (.List es pos) (tX .V C p E (Qoa mr)):=Qan (Qny h) fun σ H Q ⟨F,ρ,τ,fp,I,h⟩=>by
 refine ⟨F,ρ,τ,fp,I,h.split.mono fun r1 h1 F1 H1 fp1 vs I1 n1 f1=>?_⟩
 rw [QbT (Qde ok)] at I1
 have rl:=f1.kn ok
 by_cases hz:r1.1.length<=sizeLine
 ·rw [if_pos hz] at h1
  refine ⟨by rw [rl.length];exact hz,fun q hq=>?_⟩
  have s:=Same.upd (o:=HO.lst vs) (I1.fh.free hq)
  exact h1 _ _ fp1 _ (I1.lay hq) ((n1.trans (q:=true) ⟨s,fun _=>Qhp I1 hq⟩).weak fun z=>by simp [z]) (.nd (t:=.lst) (.inl (.inl Qap)) (rl.same s))
 ·rw [if_neg hz] at h1;exact h1.elim
theorem QeV (h:PA X es (tA ks C p E mr))(ok:rdL ks=true:=by rfl):PE X (.List es pos) (tX .O C p E (Qgg mr)):=Qan (Qny h) fun σ H Q ⟨F,ρ,τ,fp,I,h⟩=>by
 refine ⟨F,ρ,τ,fp,I,h.split.mono fun r1 h1 F1 H1 fp1 vs I1 n1 f1=>?_⟩
 rw [QbT ok] at I1
 have rl:=f1.rd I1 ok
 by_cases hz:r1.1.length<=sizeLine
 ·rw [if_pos hz] at h1
  by_cases hi:D.immL r1.1=true
  ·rw [if_pos hi] at h1
   refine ⟨by rw [rl.length];exact hz,fun q hq=>?_⟩
   have rl':RL C.K F1 vs r1.1:=by
    have q:=RL.lo (L:=fp1) (fun b hb o e=>by
     rw [QbY hb] at e
     obtain ⟨o',e',z⟩:=I1.mem b hb
     rw [e] at e';cases e'
     exact z) rl hi
    refine q.same fun b o e=>?_
    by_cases hb:b∈fp1
    ·rw [QjJ hb] at e;cases e
    ·rw [Qdt hb,QaY hb] at e;exact e
   exact h1 _ _ _ _ (I1.newList hq rl' hi) ((n1.trans (q:=true) ⟨Same.refl _,fun _=>QeM I1 hq⟩).weak fun z=>by simp [z]) True.intro
  ·rw [if_neg hi] at h1;exact h1.elim
 ·rw [if_neg hz] at h1;exact h1.elim
theorem SI.loL {F H:Hp}{σ:L2.St}{ρ:Rho}{τ:List (L2.V × D)}{fp:List Addr}{vs:List L2.V}{ds:List D}(I:SI C F H σ ρ τ fp)(h:RL C.K (jn F H fp) vs ds)(hd:D.immL ds=true):RL C.K F vs ds:=by
 have q:=RL.lo (L:=fp) (fun b hb o e=>by
  rw [QbY hb] at e
  obtain ⟨o',e',z⟩:=I.mem b hb
  rw [e] at e';cases e'
  exact z) h hd
 refine q.same fun b o e=>?_
 by_cases hb:b∈fp
 ·rw [QjJ hb] at e;cases e
 ·rw [Qdt hb,QaY hb] at e;exact e
def Qjx:List D->Option (List D)
 | [.nd .lst ds]=>some ds
 | [.nd .tup ds]=>some ds
 |_=>none
theorem Qox {ds ys:List D}(h:Qjx ds=some ys):ds=[.nd .lst ys]\/ds=[.nd .tup ys]:=by
 unfold Qjx at h
 split at h
 ·cases h;exact .inl rfl
 ·cases h;exact .inr rfl
 ·cases h
theorem R.inv {K:PySem.W.Frag}{F:Hp}{v:L2.V}{t:Tag}{ds:List D}(r:R K F v (.nd t ds)):∃ a vs,v=.ref a/\At K F a t vs/\RL K F vs ds:=by
 cases r with
 |sc e=>cases e
 |nd h r=>exact ⟨_,_,rfl,h,r⟩
theorem RL.one {K:PySem.W.Frag}{F:Hp}{vs:List L2.V}{d:D}(r:RL K F vs [d]):∃ v,vs=[v]/\R K F v d:=by
 cases r with
 |cons h t=>cases t;exact ⟨_,rfl,h⟩
theorem RL.two {K:PySem.W.Frag}{F:Hp}{vs:List L2.V}{d e:D}(r:RL K F vs [d,e]):∃ v u,vs=[v,u]/\R K F v d/\R K F u e:=by
 cases r with
 |cons h t=>obtain ⟨u,rfl,h'⟩:=t.one;exact ⟨_,_,rfl,h,h'⟩
theorem QiC {K:PySem.W.Frag}{H:Hp}{vs:List L2.V}{ds ys:List D}(r:RL K H vs ds)(g:Qjx ds=some ys):∃ q us,vs=[.ref q]/\(At K H q .lst us\/At K H q .tup us)/\RL K H us ys:=by
 rcases Qox g with rfl | rfl
 ·obtain ⟨v,rfl,h⟩:=r.one
  obtain ⟨a,us,rfl,h1,h2⟩:=h.inv
  exact ⟨a,us,rfl,.inl h1,h2⟩
 ·obtain ⟨v,rfl,h⟩:=r.one
  obtain ⟨a,us,rfl,h1,h2⟩:=h.inv
  exact ⟨a,us,rfl,.inr h1,h2⟩
theorem Qe4:bootBuiltins "list" = some (.type "list"):=by decide +kernel
theorem Qfk:bootBuiltins "tuple" = some (.type "tuple"):=by decide +kernel
def Qj1 (mr:MA):ME:=fun ρ=>(mr ρ).bind fun r=>(Rs.of (Qjx r.1)).bind fun ds=>if D.immL ds=true then .ok (.lst ds,r.2) else .no
theorem Qov {x:Str}{px:Pos}(hm:X.mg "list" = none)(hK:C.K=X.K)(ha:PA X [e] (tA ks C p E mr))(ok:rdL ks=true:=by rfl)(hgl:Gl X "list" := by rfl)(he:starEach [e] X.env=(false,eval e X.env) :: starEach [] X.env:=by rfl)(hpl:(backTo pos (starEach [] X.env)).any (·.1)=false:=by rfl) :
  PE X (.Call (.Name "list" px) [e] [] pos) (tX .O C p E (Qj1 mr)):=Qan (Qc4 Qg1 hgl hm Qe4 ha (by decide) (by decide) he hpl) fun σ H Q ⟨F,ρ,τ,fp,I,h⟩=>by
 refine ⟨F,ρ,τ,fp,I,h.split.mono fun r1 h1 F1 H1 fp1 vs I1 n1 f1=>?_⟩
 rw [QbT ok] at I1
 obtain ⟨ds,eg,h2⟩:=h1.split.of
 by_cases hi:D.immL ds=true
 ·rw [if_pos hi] at h2
  obtain ⟨q,us,rfl,hs,r⟩:=QiC (f1.rd I1 ok) eg
  have hs':SqL X.K H1 q us\/SqT X.K H1 q us:=by
   rw [← hK]
   exact hs.imp (fun z=>(At.same z (Qcv I1.fh)).sql) fun z=>(At.same z (Qcv I1.fh)).sqt
  refine ⟨q,us,rfl,hs',fun l hl=>?_⟩
  exact h2 _ _ _ _ (I1.newList hl (I1.loL r hi) hi) ((n1.trans (q:=true) ⟨Same.refl _,fun _=>QeM I1 hl⟩).weak fun z=>by simp [z]) True.intro
 ·rw [if_neg hi] at h2;exact h2.elim
def Qmt (mr:MA):ME:=fun ρ=>(mr ρ).bind fun r=>(Rs.of (Qjx r.1)).bind fun ds=>.ok (.tup ds,r.2)
theorem Qjb {px:Pos}(hm:X.mg "tuple" = none)(hK:C.K=X.K)(ha:PA X [e] (tA ks C p E mr))(ok:knL ks=true:=by rfl)(hgl:Gl X "tuple" := by rfl)(he:starEach [e] X.env=(false,eval e X.env) :: starEach [] X.env:=by rfl)(hpl:(backTo pos (starEach [] X.env)).any (·.1)=false:=by rfl) :
  PE X (.Call (.Name "tuple" px) [e] [] pos) (tX .V C p E (Qmt mr)):=Qan (Qc4 QfK hgl hm Qfk ha (by decide) (by decide) he hpl) fun σ H Q ⟨F,ρ,τ,fp,I,h⟩=>by
 refine ⟨F,ρ,τ,fp,I,h.split.mono fun r1 h1 F1 H1 fp1 vs I1 n1 f1=>?_⟩
 rw [QbT (Qde ok)] at I1
 obtain ⟨ds,eg,h2⟩:=h1.split.of
 obtain ⟨q,us,rfl,hs,r⟩:=QiC (f1.kn ok) eg
 refine ⟨q,us,rfl,?_⟩
 rcases hs with hs | hs
 ·refine .inl ⟨by rw [← hK];exact (At.same hs I1.fh).sql,fun l hl=>?_⟩
  have s:=Same.upd (o:=HO.tup us) (I1.fh.free hl)
  exact h2 _ _ fp1 _ (I1.lay hl) ((n1.trans (q:=true) ⟨s,fun _=>Qhp I1 hl⟩).weak fun z=>by simp [z]) (.nd (t:=.tup) Qap (r.same s))
 ·exact .inr ⟨by rw [← hK];exact (At.same hs I1.fh).sqt,h2 F1 H1 fp1 _ I1 n1 (.nd (t:=.tup) hs r)⟩
def gIx:D->D->Option D
 |.nd .lst ds,.int i=>atI ds i
 |.nd .tup ds,.int i=>atI ds i
 |_,_=>none
theorem Qnl {K:PySem.W.Frag}{F:Hp}{vs:List L2.V}{ds:List D}{i:Int}{d:D}(r:RL K F vs ds)(h:atI ds i=some d):∃ v,atI vs i=some v/\R K F v d:=by
 unfold atI at h ⊢
 rw [r.length]
 cases q:ixN ds.length i with
 |none=>rw [q] at h;cases h
 |some j=>
  rw [q] at h
  obtain ⟨v,e,rv⟩:=r.get (i:=j) h
  exact ⟨v,e,rv⟩
theorem Qqq {d e x:D}(h:gIx d e=some x):∃ ds i,(d=.nd .lst ds\/d=.nd .tup ds)/\e=.int i/\atI ds i=some x:=by
 unfold gIx at h
 split at h
 ·exact ⟨_,_,.inl rfl,rfl,h⟩
 ·exact ⟨_,_,.inr rfl,rfl,h⟩
 ·cases h
theorem Qqx {K:PySem.W.Frag}{F H:Hp}{v u:L2.V}{d e x:D}(hs:Same F H)(r:R K F v d)(q:R K H u e)(g:gIx d e=some x):∃ w,R K F w x/\∀ Q:VK,Q w H->rIx K v u H Q:=by
 obtain ⟨ds,i,hd,rfl,ha⟩:=Qqq g
 obtain rfl:u=.int i:=q.det_sc rfl
 rcases hd with rfl | rfl
 ·obtain ⟨a,vs,rfl,h1,h2⟩:=r.inv
  obtain ⟨w,ew,rw'⟩:=Qnl h2 ha
  exact ⟨w,rw',fun Q hq=>.inl ⟨a,vs,i,w,rfl,rfl,(At.same h1 hs).sql,ew,hq⟩⟩
 ·obtain ⟨a,vs,rfl,h1,h2⟩:=r.inv
  obtain ⟨w,ew,rw'⟩:=Qnl h2 ha
  exact ⟨w,rw',fun Q hq=>.inr (.inl ⟨a,vs,i,w,rfl,rfl,(At.same h1 hs).sqt,ew,hq⟩)⟩
theorem QhN (hK:C.K=X.K)(ha:PE X a (tX ka C pa E ma))(hb:PE X b (tX kb C pb E mb))(ok:ka.on pb=true:=by rfl)(ok2:kb.on true=true:=by rfl)(hs:Qia b:=by intro _ _;rfl):PE X (.Subscript a b pos) (tX .B C (pa && pb) E (mOp gIx ma mb)):=Qan (QmY QnS ha hb hs) fun σ H Q ⟨F,ρ,τ,fp,I,h⟩=>by
 refine ⟨F,ρ,τ,fp,I,h.split.mono fun r1 h1 F1 H1 fp1 v1 I1 n1 f1=>?_⟩
 rw [Kd.tk_on ok] at I1
 refine ⟨F1,r1.2,τ,fp1,I1,h1.split.mono fun r2 h2 F2 H2 fp2 v2 I2 n2 f2=>?_⟩
 rw [Kd.tk_on ok2] at I2
 obtain ⟨z,ez,h3⟩:=h2.of
 obtain ⟨res,eg,rfl⟩:=Option.map_eq_some_iff.mp ez
 obtain ⟨w,rw',hw⟩:=Qqx (Qcv I2.fh) (Kd.stay ok f1 n2 I2) (R.top I2 (Kd.stay ok2 f2 .refl I2)) eg
 rw [← hK]
 exact hw _ (h3 F2 H2 fp2 w I2 (n1.trans n2) rw')
theorem QaH (hK:C.K=X.K)(ha:PE X a (tX .V C pa E ma))(hb:PE X b (tX kb C pb E mb))(ok2:kb.on true=true:=by rfl)(hs:Qia b:=by intro _ _;rfl):PE X (.Subscript a b pos) (tX .V C (pa && pb) E (mOp gIx ma mb)):=Qan (QmY QnS ha hb hs) fun σ H Q ⟨F,ρ,τ,fp,I,h⟩=>by
 refine ⟨F,ρ,τ,fp,I,h.split.mono fun r1 h1 F1 H1 fp1 v1 I1 n1 f1=>?_⟩
 refine ⟨F1,r1.2,τ,fp1,I1,h1.split.mono fun r2 h2 F2 H2 fp2 v2 I2 n2 f2=>?_⟩
 rw [Kd.tk_on ok2] at I2
 obtain ⟨z,ez,h3⟩:=h2.of
 obtain ⟨res,eg,rfl⟩:=Option.map_eq_some_iff.mp ez
 obtain ⟨w,rw',hw⟩:=Qqx I2.fh (R.same n2.f f1) (R.top I2 (Kd.stay ok2 f2 .refl I2)) eg
 rw [← hK]
 exact hw _ (h3 F2 H2 fp2 w I2 (n1.trans n2) rw')
end
inductive Fl where
 |nx | rt (d:D) | bk | ct
abbrev MS:=Rho->Rs (Fl × Rho)
def RunS (C:Cn)(E:XE){α:Type}(r:Rs α)(k:α->Prop):Prop:=match r with
 |.ok a=>k a
 |.ex c ρ=>∀ F H σ fp,SI C F H σ ρ [] fp->E σ (.ref c) none H
 |.no=>False
section
variable {C:Cn}{E:XE}{σ:L2.St}{α β:Type}
theorem RunS.run {r:Rs α}{k:α->Prop}(h:RunS C E r k):Run C E σ r k:=by
 cases r with
 |ok a=>exact h
 |ex c ρ=>exact fun F H fp I=>h F H σ fp I
 |no=>exact h
theorem RunS.mono {r:Rs α}{k k':α->Prop}(h:RunS C E r k)(f:∀ a,k a->k' a):RunS C E r k':=by
 cases r with
 |ok a=>exact f a h
 |ex c ρ=>exact h
 |no=>exact h
theorem RunS.split {r:Rs α}{f:α->Rs β}{k:β->Prop}(h:RunS C E (r.bind f) k):RunS C E r fun a=>RunS C E (f a) k:=by
 cases r with
 |ok a=>exact h
 |ex c ρ=>exact h
 |no=>exact h
theorem RunS.of {o:Option α}{k:α->Prop}(h:RunS C E (Rs.of o) k):∃ a,o=some a/\k a:=by
 cases o with
 |none=>exact h.elim
 |some a=>exact ⟨a,rfl,h⟩
end
def Out (rk:Kd)(C:Cn)(D:Qnb)(F0:Hp)(f:Fl)(ρ:Rho):Prop:=match f with
 |.nx=>∀ F H σ fp,Same F0 F->SI C F H σ ρ [] fp->D.nx σ H
 |.rt d=>∀ F H σ fp v,Same F0 F->SI C F H σ ρ (rk.tk v d []) fp->rk.fc C F H fp σ v d->D.rt v H
 |.bk=>∀ F H σ fp,Same F0 F->SI C F H σ ρ [] fp->D.bk σ H
 |.ct=>∀ F H σ fp,Same F0 F->SI C F H σ ρ [] fp->D.ct σ H
theorem Out.mono {rk:Kd}{C:Cn}{D:Qnb}{F0 F1:Hp}{f:Fl}{ρ:Rho}(s:Same F0 F1)(h:Out rk C D F0 f ρ):Out rk C D F1 f ρ:=by
 cases f with
 |nx=>exact fun F H σ fp z=>h F H σ fp (s.trans z)
 |rt d=>exact fun F H σ fp v z=>h F H σ fp v (s.trans z)
 |bk=>exact fun F H σ fp z=>h F H σ fp (s.trans z)
 |ct=>exact fun F H σ fp z=>h F H σ fp (s.trans z)
def tS (rk:Kd)(C:Cn)(E:XE)(m:MS):TS:=fun D σ H=>∃ F ρ fp,SI C F H σ ρ [] fp/\RunS C E (m ρ) fun r=>Out rk C D F r.1 r.2
section
variable {X:Cx}{C:Cn}{E:XE}{p:Bool}{e a b:Expr}{es:List Expr}{m mb:ME}{mr:MA}{mt:MT}{ms mu:MS}{pos:Pos}{k rk:Kd}{ks:List Kd}{st:Stmt}{rest:List Stmt}
def Qbw:MS:=fun ρ=>.ok (.nx,ρ)
def QaL (m u:MS):MS:=fun ρ=>(m ρ).bind fun r=>match r.1 with
 |.nx=>u r.2
 |f=>.ok (f,r.2)
theorem QbW:PSs X [] (tS rk C E Qbw):=Qes QpH fun D σ H ⟨F,ρ,fp,I,h⟩=>h F H σ fp (Same.refl F) I
theorem Qah (h1:PS X st (tS rk C E ms))(h2:PSs X rest (tS rk C E mu)):PSs X (st :: rest) (tS rk C E (QaL ms mu)):=Qes (Qi8 h1 h2) fun D σ H ⟨F,ρ,fp,I,h⟩=>by
 refine ⟨F,ρ,fp,I,h.split.mono fun r hr=>?_⟩
 obtain ⟨f,ρ1⟩:=r
 cases f with
 |nx=>exact fun F1 H1 σ1 fp1 s1 I1=>⟨F1,ρ1,fp1,I1,hr.mono fun q z=>z.mono s1⟩
 |rt d=>exact hr
 |bk=>exact hr
 |ct=>exact hr
theorem Qaq (h1:PS X st (tS rk C E ms)):PSs X [st] (tS rk C E ms):=QlX h1
def Qcj (m:ME):MS:=fun ρ=>(m ρ).bind fun r=>.ok (.rt r.1,r.2)
theorem QaP (h:PE X e (tX rk C p E m)):PS X (.Return (some e) pos) (tS rk C E (Qcj m)):=Qa2 (Qsd h) fun D σ H ⟨F,ρ,fp,I,h⟩=>
 ⟨F,ρ,[],fp,I,h.split.run.mono fun r hr F1 H1 fp1 v I1 n1 f1=>hr F1 H1 σ fp1 v n1.f I1 f1⟩
def Qeh (m:ME):MS:=fun ρ=>(m ρ).bind fun r=>.ok (.nx,r.2)
theorem Qds (h:PE X e (tX k C p E m))(ok:k.on true=true:=by rfl)(hs:swapsWith e none pos.line X.env=pure false:=by rfl):PS X (.Expr e pos) (tS rk C E (Qeh m)):=Qa2 (Qgs h hs) fun D σ H ⟨F,ρ,fp,I,h⟩=>
 ⟨F,ρ,[],fp,I,h.split.run.mono fun r hr F1 H1 fp1 v I1 n1 f1=>by rw [Kd.tk_on ok] at I1;exact hr F1 H1 σ fp1 n1.f I1⟩
def mIf (mt:MT)(m u:MS):MS:=fun ρ=>(mt ρ).bind fun r=>if r.1=true then m r.2 else u r.2
theorem Qee {c:Expr}{sa sb:List Stmt}(hc:PT X c (tT C p E mt))(ha:PSs X sa (tS rk C E ms))(hb:PSs X sb (tS rk C E mu)):PS X (.If c sa sb pos) (tS rk C E (mIf mt ms mu)):=Qa2 (QtL hc ha hb) fun D σ H ⟨F,ρ,fp,I,h⟩=>
 ⟨F,ρ,[],fp,I,h.split.run.mono fun r hr F1 H1 fp1 I1 n1=>by
  by_cases cc:r.1=true
  ·rw [if_pos cc] at hr ⊢;exact ⟨F1,r.2,fp1,I1,hr.mono fun q z=>z.mono n1.f⟩
  ·rw [if_neg cc] at hr ⊢;exact ⟨F1,r.2,fp1,I1,hr.mono fun q z=>z.mono n1.f⟩⟩
def setF (ρ:Rho)(i:Nat)(d:D):Option Rho:=match ρ[i]? with
 |some (some (.par _))=>none
 |some _=>some (ρ.set i (some (.frz d)))
 |none=>none
def setW (ρ:Rho)(i:Nat)(d:D):Option Rho:=match ρ[i]? with
 |some (some (.par _))=>none
 |some _=>some (ρ.set i (some (.own d)))
 |none=>none
theorem SI.setF {F H:Hp}{σ:L2.St}{ρ ρ':Rho}{τ:List (L2.V × D)}{fp:List Addr}{i:Nat}{v:L2.V}{d:D}(I:SI C F H σ ρ τ fp)(r:R C.K F v d)(h:setF ρ i d=some ρ'):∃ fp',SI C F H (σ.set i (some v)) ρ' τ fp'/\∀ a∈fp',a∈fp:=by
 unfold TL.setF at h
 cases es:ρ[i]? with
 |none=>rw [es] at h;cases h
 |some s=>
  rw [es] at h
  obtain ⟨x,f0,g0,rest,ex,s1,pm,w0,w1,cl⟩:=I.cut es
  have nd:=pm.nodup_iff.mp I.nd
  have fin:(∀ v',(i,v')∈C.pars->False)->∃ fp',SI C F H (σ.set i (some v)) (ρ.set i (some (.frz d))) τ fp'/\∀ a∈fp',a∈fp:=fun np=>
   ⟨_,cl (x':=some v) (s':=some (.frz d)) (f0':=[]) (g0':=[]) (Same.refl F) I.fh (fun _ _=>rfl) (fun _ z=>z) (fun _ _ _ _ z=>z) (fun _ _ z=>.inl z) (.frz r) (List.nodup_append.mp (List.nodup_append.mp nd).2.1).2.1 (fun a ha=>I.ap a (pm.mem_iff.mpr (by simp at ha;simp [ha]))) (fun _ z=>nomatch z) (fun _ z=>nomatch z) (fun v' hv=>(np v' hv).elim),fun a ha=>pm.mem_iff.mpr (by simp at ha;simp [ha])⟩
  have np:∀ (s0:Option Sl),s=s0->(∀ q,s0≠some (.par q))->∀ v',(i,v')∈C.pars->False:=fun s0 e0 n0 v' hv=>by
   obtain ⟨_,q,z⟩:=I.pr _ _ hv
   rw [es] at z
   cases z
   exact n0 q e0.symm
  cases s with
  |none=>cases h;exact fin (np none rfl fun q z=>nomatch z)
  |some s=>
   cases s with
   |frz d0=>cases h;exact fin (np _ rfl fun q z=>by cases z)
   |own d0=>cases h;exact fin (np _ rfl fun q z=>by cases z)
   |par d0=>cases h
theorem SI.setW {F H:Hp}{σ:L2.St}{ρ ρ':Rho}{τ:List (L2.V × D)}{fp:List Addr}{i:Nat}{v:L2.V}{d:D}(I:SI C F H σ ρ ((v,d) :: τ) fp)(h:setW ρ i d=some ρ'):∃ fp',SI C F H (σ.set i (some v)) ρ' τ fp':=by
 obtain ⟨f,rest0,o,pm0,J,h0,ap,nd0⟩:=I.pop
 unfold TL.setW at h
 cases es:ρ[i]? with
 |none=>rw [es] at h;cases h
 |some s=>
  rw [es] at h
  obtain ⟨x,f0,g0,rest,ex,s1,pm,w0,w1,cl⟩:=J.cut es
  have nd:=pm.nodup_iff.mp J.nd
  have ndr:=(List.nodup_append.mp (List.nodup_append.mp nd).2.1).2.1
  have inr:∀ a∈rest,a∈rest0:=fun a ha=>pm.mem_iff.mpr (by simp [ha])
  have fin:(∀ v',(i,v')∈C.pars->False)->∃ fp',SI C F H (σ.set i (some v)) (ρ.set i (some (.own d))) τ fp':=fun np=>
   ⟨_,cl (x':=some v) (s':=some (.own d)) (f0':=f) (g0':=[]) (Same.refl F) J.fh (fun _ _=>rfl) (fun _ z=>z) (fun _ _ _ _ z=>z) (fun _ _ z=>.inl z) (.own o) (List.nodup_append.mpr ⟨(List.nodup_append.mp nd0).1,ndr,fun a ha b hb z=>(List.nodup_append.mp nd0).2.2 a ha b (inr b hb) z⟩) (fun a ha=>by
    rcases List.mem_append.mp ha with z | z
    ·exact ap a z
    ·exact J.ap a (inr a z)) h0 (fun _ z=>nomatch z) (fun v' hv=>(np v' hv).elim)⟩
  have np:∀ (s0:Option Sl),s=s0->(∀ q,s0≠some (.par q))->∀ v',(i,v')∈C.pars->False:=fun s0 e0 n0 v' hv=>by
   obtain ⟨_,q,z⟩:=I.pr _ _ hv
   rw [es] at z
   cases z
   exact n0 q e0.symm
  cases s with
  |none=>cases h;exact fin (np none rfl fun q z=>nomatch z)
  |some s=>
   cases s with
   |frz d0=>cases h;exact fin (np _ rfl fun q z=>by cases z)
   |own d0=>cases h;exact fin (np _ rfl fun q z=>by cases z)
   |par d0=>cases h
def QaX (i:Nat)(m:ME):MS:=fun ρ=>(m ρ).bind fun r=>(Rs.of (setF r.2 i r.1)).bind fun ρ'=>.ok (.nx,ρ')
def Qct (i:Nat)(m:ME):MS:=fun ρ=>(m ρ).bind fun r=>(Rs.of (setW r.2 i r.1)).bind fun ρ'=>.ok (.nx,ρ')
theorem Qkw {i:Nat}{D:Qnb}{σ:L2.St}{H:Hp}(h:tS rk C E (QaX i m) D σ H):Qqo (tX .V C p E m) (Qdo i) D σ H:=by
 obtain ⟨F,ρ,fp,I,h⟩:=h
 refine ⟨F,ρ,[],fp,I,h.split.run.mono fun r hr F1 H1 fp1 v I1 n1 f1=>?_⟩
 obtain ⟨ρ',e,h2⟩:=hr.split.of
 obtain ⟨fp',J,_⟩:=SI.setF I1 f1 e
 exact h2 F1 H1 _ fp' n1.f J
theorem QkN {i:Nat}{D:Qnb}{σ:L2.St}{H:Hp}(h:tS rk C E (Qct i m) D σ H):Qqo (tX .O C p E m) (Qdo i) D σ H:=by
 obtain ⟨F,ρ,fp,I,h⟩:=h
 refine ⟨F,ρ,[],fp,I,h.split.run.mono fun r hr F1 H1 fp1 v I1 n1 f1=>?_⟩
 obtain ⟨ρ',e,h2⟩:=hr.split.of
 obtain ⟨fp',J⟩:=SI.setW (τ:=[]) I1 e
 exact h2 F1 H1 _ fp' n1.f J
theorem QaE {i:Nat}{x:Str}{pos':Pos}(hN:X.N.Nodup)(hi:X.N[i]? = some x)(hx:Loc X.env.scope x)(he:PE X e (tX .V C p E m))(hs:swapsWith e (some (.Name x pos')) pos.line X.env=pure false:=by rfl)(hf:X.fn x=true\/X.env.scope.names.lookup x=some .local:=by first | exact .inl rfl | exact .inr rfl | assumption) :
  PS X (.Assign [.Name x pos'] e pos) (tS rk C E (QaX i m)):=Qa2 (QnH hN hi hx he hs hf) fun _ _ _ h=>Qkw h
theorem QcV {i:Nat}{x:Str}{pos':Pos}(hN:X.N.Nodup)(hi:X.N[i]? = some x)(hx:Loc X.env.scope x)(he:PE X e (tX .O C p E m))(hs:swapsWith e (some (.Name x pos')) pos.line X.env=pure false:=by rfl)(hf:X.fn x=true\/X.env.scope.names.lookup x=some .local:=by first | exact .inl rfl | exact .inr rfl | assumption) :
  PS X (.Assign [.Name x pos'] e pos) (tS rk C E (Qct i m)):=Qa2 (QnH hN hi hx he hs hf) fun _ _ _ h=>QkN h
def GD (C:Cn)(g:TG)(tg:D->Rho->Option Rho):Prop:=∀ F H σ ρ τ fp x d ρ',SI C F H σ ρ τ fp->R C.K F x d->tg d ρ=some ρ'->∀ Q:L2.St->Hp->Prop,(∀ σ' fp',SI C F H σ' ρ' τ fp'->(∀ a∈fp',a∈fp)->Q σ' H)->g x σ H Q
theorem QcS {i:Nat}:GD C (Qdo i) (fun d ρ=>setF ρ i d):=fun F H σ ρ τ fp x d ρ' I r h Q hq=>by
 obtain ⟨fp',J,s⟩:=SI.setF I r h
 exact hq _ fp' J s
def Qiu (i j:Nat)(d:D)(ρ:Rho):Option Rho:=match d with
 |.nd .tup [x,y]=>(setF ρ i x).bind fun ρ1=>setF ρ1 j y
 |_=>none
theorem Qd1 {i j:Nat}(hK:C.K=X.K):GD C (QrH X.K 2 (QfM (Qdo i) (QfM (Qdo j) QrF))) (Qiu i j):=fun F H σ ρ τ fp v d ρ' I r h Q hq=>by
 unfold Qiu at h
 split at h
 ·next x y=>
  obtain ⟨a,vs,rfl,h1,h2⟩:=r.inv
  obtain ⟨v1,v2,rfl,r1,r2⟩:=h2.two
  obtain ⟨ρ1,e1,e2⟩:=Option.bind_eq_some_iff.mp h
  obtain ⟨fp1,J1,s1⟩:=SI.setF I r1 e1
  obtain ⟨fp2,J2,s2⟩:=SI.setF J1 r2 e2
  refine ⟨a,[v1,v2],rfl,by rw [← hK];exact (At.same h1 I.fh).sqt,rfl,v1,[v2],rfl,v2,[],rfl,rfl,?_⟩
  exact hq _ fp2 J2 (fun b hb=>s1 b (s2 b hb))
 ·cases h
structure ItD (K:PySem.W.Frag)(F:Hp)(ds:List D)(J:It):Prop where
 go:∀ {C:Cn} {F' H:Hp} {σ:L2.St} {ρ:Rho} {τ:List (L2.V × D)} {fp:List Addr} {i:Nat} {d:D},C.K=K->SI C F' H σ ρ τ fp->Same F F'->ds[i]? = some d->J.go i H/\∀ x H',J.yld i H x H'->∃ F'',SI C F'' H' σ ρ τ fp/\Nx true F' H fp F'' H' fp/\R K F'' x d
 stop:∀ {C:Cn} {F' H:Hp} {σ:L2.St} {ρ:Rho} {τ:List (L2.V × D)} {fp:List Addr},C.K=K->SI C F' H σ ρ τ fp->Same F F'->J.stop ds.length H
def tI (C:Cn)(p:Bool)(E:XE)(mi:MA):TI:=fun σ H R=>∃ F ρ τ fp,SI C F H σ ρ τ fp/\Run C E σ (mi ρ) fun r=>∀ F' H' fp' J,SI C F' H' σ r.2 τ fp'->Nx p F H fp F' H' fp'->ItD C.K F' r.1 J->R J H'
theorem QhZ {tg iter:Expr}{t t':TI}(h:PI X tg iter t)(k:∀ σ H R,t' σ H R->t σ H R):PI X tg iter t':=fun pins s σ H R I q=>h pins s σ H R I (k _ _ _ q)
theorem Qj5 {K:PySem.W.Frag}{F:Hp}{a:Addr}{kd:Bool}{vs:List L2.V}{ds:List D}(h:At K F a (if kd then .lst else .tup) vs)(r:RL K F vs ds):ItD K F ds (Itb kd K a):=by
 have up:∀ {F' H:Hp},Same F F'->Same F' H->SqB kd K H a vs:=fun s1 s2=>by
  cases kd with
  |true=>exact (At.same (t:=.lst) h (s1.trans s2)).sql
  |false=>exact (At.same (t:=.tup) h (s1.trans s2)).sqt
 refine ⟨fun {C F' H σ ρ τ fp i d} hk I s e=>?_,fun {C F' H σ ρ τ fp} hk I s=>?_⟩
 ·obtain ⟨v,ev,rv⟩:=r.get e
  have q:=up s I.fh
  cases kd with
  |true=>exact ⟨⟨vs,v,q,ev⟩,fun x H' ⟨e1,y⟩=>by
    subst e1
    have z:=y vs q
    rw [ev] at z;cases z
    exact ⟨F',I,.refl,rv.same s⟩⟩
  |false=>exact ⟨⟨vs,v,q,ev⟩,fun x H' ⟨e1,y⟩=>by
    subst e1
    have z:=y vs q
    rw [ev] at z;cases z
    exact ⟨F',I,.refl,rv.same s⟩⟩
 ·have q:=up s I.fh
  have l:=r.length
  cases kd with
  |true=>exact ⟨vs,q,by omega⟩
  |false=>exact ⟨vs,q,by omega⟩
def QbP (m:ME):MA:=fun ρ=>(m ρ).bind fun r=>(Rs.of (Qjx [r.1])).bind fun ds=>.ok (ds,r.2)
theorem Qbb {tg l:Expr}(hK:C.K=X.K)(hl:PE X l (tX .V C p E m)):PI X tg l (tI C p E (QbP m)):=QhZ (QrX hl) fun σ H RR ⟨F,ρ,τ,fp,I,h⟩=>by
 refine ⟨F,ρ,τ,fp,I,h.split.mono fun r hr F1 H1 fp1 v I1 n1 f1=>?_⟩
 obtain ⟨ds,eg,h2⟩:=hr.split.of
 obtain ⟨q,us,eq,hs,rl⟩:=QiC (.cons f1 .nil) eg
 cases eq
 rcases hs with hs | hs
 ·refine ⟨q,true,rfl,⟨us,by rw [← hK];exact (At.same hs I1.fh).sql⟩,h2 F1 H1 fp1 _ I1 n1 ?_⟩
  rw [← hK]
  exact Qj5 (kd:=true) hs rl
 ·refine ⟨q,false,rfl,⟨us,by rw [← hK];exact (At.same hs I1.fh).sqt⟩,h2 F1 H1 fp1 _ I1 n1 ?_⟩
  rw [← hK]
  exact Qj5 (kd:=false) hs rl
def QfZ:List D->Option Int
 | [.int i]=>if -(2 ^ 62)<=i/\i<2 ^ 62 then some i else none
 |_=>none
def Qek (mr:MA):MA:=fun ρ=>(mr ρ).bind fun r=>(Rs.of (QfZ r.1)).bind fun n=>.ok ((List.range n.toNat).map fun j=>.int ((0:Int)+(j:Nat)),r.2)
theorem Qn3 {K:PySem.W.Frag}{F:Hp}{lo:Int}{n:Nat}:ItD K F ((List.range n).map fun j=>.int (lo+(j:Nat))) (Itr lo n):=by
 refine ⟨fun {C F' H σ ρ τ fp i d} hk I s e=>?_,fun {C F' H σ ρ τ fp} hk I s=>?_⟩
 ·rw [List.getElem?_map] at e
  obtain ⟨j,ej,rfl⟩:=Option.map_eq_some_iff.mp e
  have hj:i<n/\j=i:=by
   rw [List.getElem?_eq_some_iff] at ej
   obtain ⟨h1,h2⟩:=ej
   rw [List.getElem_range] at h2
   rw [List.length_range] at h1
   exact ⟨h1,h2.symm⟩
  refine ⟨hj.1,fun x H' ⟨e1,e2⟩=>?_⟩
  subst e1 e2
  rw [hj.2]
  exact ⟨F',I,.refl,.sc rfl⟩
 ·show n<=_
  rw [List.length_map,List.length_range]
  exact Nat.le_refl _
theorem Qd5 {tg e:Expr}{px:Pos}(hm:X.mg "range" = none)(ha:PA X [e] (tA ks C p E mr))(ok:rdL ks=true:=by rfl)(hg:Gl X "range" := by rfl)(hs:starEach [e] X.env=[(false,eval e X.env)]:=by rfl):PI X tg (.Call (.Name "range" px) [e] [] pos) (tI C p E (Qek mr)):=QhZ (Qlf hg hm ha hs) fun σ H RR ⟨F,ρ,τ,fp,I,h⟩=>by
 refine ⟨F,ρ,τ,fp,I,h.split.mono fun r hr F1 H1 fp1 vs I1 n1 f1=>?_⟩
 rw [QbT ok] at I1
 obtain ⟨n,eg,h2⟩:=hr.split.of
 have rl:=f1.rd I1 ok
 unfold QfZ at eg
 split at eg
 ·next i ed=>
  rw [ed] at rl
  obtain ⟨v,rfl,rv⟩:=rl.one
  obtain rfl:=rv.det_sc (w:=.int i) rfl
  by_cases c : -(2 ^ 62)<=i/\i<2 ^ 62
  ·rw [if_pos c] at eg;cases eg
   exact ⟨n,rfl,c.1,c.2,h2 F1 H1 fp1 _ I1 n1 Qn3⟩
  ·rw [if_neg c] at eg;cases eg
 ·cases eg
def Qmd (tg:D->Rho->Option Rho)(mb:MS):List D->MS
 | []=>fun ρ=>.ok (.nx,ρ)
 |d :: ds=>fun ρ=>(Rs.of (tg d ρ)).bind fun ρ1=>(mb ρ1).bind fun r=>match r.1 with
  |.nx=>Qmd tg mb ds r.2
  |.ct=>Qmd tg mb ds r.2
  |.bk=>.ok (.nx,r.2)
  |.rt d=>.ok (.rt d,r.2)
def Qip (mi:MA)(tg:D->Rho->Option Rho)(mb:MS):MS:=fun ρ=>(mi ρ).bind fun r=>Qmd tg mb r.1 r.2
theorem Qd6 {tg iter:Expr}{body:List Stmt}{mi:MA}{g:TG}{tgd:D->Rho->Option Rho}(hp:PassesOwn (model X.prog X.w) X.A X.env X.xe)(hc:X.calm=true)(hi:PI X tg iter (tI C p E mi))(hg:PG X tg g)(gd:GD C g tgd)(hb:PSs X body (tS rk C E ms))
  (hs:∀ x,foldedSetIterable iter X.env x=pure x:=by intro _;rfl):PS X (.For tg iter body [] pos) (tS rk C E (Qip mi tgd ms)):=Qa2 (QqX hp hc hi hg hb hs) fun D σ H ⟨F,ρ,fp,I,h⟩=>by
 refine ⟨F,ρ,[],fp,I,h.split.run.mono fun r hr F1 H1 fp1 J I1 n1 it=>?_⟩
 refine ⟨fun i m σ' H'=>m=r.1.length - i/\i<=r.1.length/\∃ F' ρ' fp',SI C F' H' σ' ρ' [] fp'/\Same F1 F'/\RunS C E (Qmd tgd ms (r.1.drop i) ρ') fun q=>Out rk C D F q.1 q.2,⟨r.1.length,by simp,Nat.zero_le _,F1,r.2,fp1,I1,Same.refl _,by rw [List.drop_zero];exact hr⟩,?_⟩
 rintro i mm σ2 H2 ⟨rfl,hi2,F2,ρ2,fp2,I2,s2,k2⟩
 by_cases hlt:i<r.1.length
 ·obtain ⟨d,ed⟩:∃ d,r.1[i]? = some d:=⟨r.1[i],List.getElem?_eq_getElem hlt⟩
  obtain ⟨g1,g2⟩:=it.go rfl I2 s2 ed
  have edr:r.1.drop i=d :: r.1.drop (i+1):=by
   rw [List.drop_eq_getElem_cons hlt]
   have:r.1[i]=d:=by rw [List.getElem?_eq_getElem hlt] at ed;exact Option.some.inj ed
   rw [this]
  rw [edr] at k2
  obtain ⟨ρ3,e3,k3⟩:=k2.split.of
  refine .inr ⟨g1,fun σ' H'=>∃ F' ρ' fp',SI C F' H' σ' ρ' [] fp'/\Same F1 F'/\RunS C E (Qmd tgd ms (r.1.drop (i+1)) ρ') fun q=>Out rk C D F q.1 q.2,fun σ' H' z=>⟨_,by omega,rfl,hlt,z⟩,fun x H' y=>?_⟩
  obtain ⟨F3,I3,n3,r3⟩:=g2 x H' y
  have s3:Same F1 F3:=s2.trans n3.f
  refine gd F3 H' σ2 ρ2 [] fp2 x d ρ3 I3 r3 e3 _ fun σ' fp' I4 _=>⟨F3,ρ3,fp',I4,k3.split.mono fun q hq=>?_⟩
  obtain ⟨f,ρ4⟩:=q
  have sF:Same F F3:=n1.f.trans s3
  cases f with
  |nx=>exact fun F5 H5 σ5 fp5 s5 I5=>⟨F5,ρ4,fp5,I5,s3.trans s5,hq⟩
  |ct=>exact fun F5 H5 σ5 fp5 s5 I5=>⟨F5,ρ4,fp5,I5,s3.trans s5,hq⟩
  |bk=>exact fun F5 H5 σ5 fp5 s5 I5=>hq F5 H5 σ5 fp5 (sF.trans s5) I5
  |rt d=>exact fun F5 H5 σ5 fp5 v s5 I5 f5=>hq F5 H5 σ5 fp5 v (sF.trans s5) I5 f5
 ·have e:i=r.1.length:=by omega
  subst e
  rw [List.drop_length] at k2
  exact .inl ⟨it.stop rfl I2 s2,k2 F2 H2 σ2 fp2 (n1.f.trans s2) I2⟩
def whl (mt:MT)(mb:MS):Nat->MS
 |0=>fun _=>.no
 |n+1=>fun ρ=>(mt ρ).bind fun r=>if r.1=true then (mb r.2).bind fun q=>match q.1 with
   |.nx=>whl mt mb n q.2
   |.ct=>whl mt mb n q.2
   |.bk=>.ok (.nx,q.2)
   |.rt d=>.ok (.rt d,q.2)
  else .ok (.nx,r.2)
def Qi5 (n:Nat)(mt:MT)(mb:MS):MS:=whl mt mb n
theorem QkF {c:Expr}{body:List Stmt}{n:Nat}(hp:PassesOwn (model X.prog X.w) X.A X.env X.xe)(hc:PT X c (tT C p E mt))(hb:PSs X body (tS rk C E ms)):PS X (.While c body [] pos) (tS rk C E (Qi5 n mt ms)):=Qa2 (Qmg hp hc hb) fun D σ H ⟨F,ρ,fp,I,h⟩=>by
 refine ⟨fun n σ' H'=>∃ F' ρ' fp',SI C F' H' σ' ρ' [] fp'/\Same F F'/\RunS C E (whl mt ms n ρ') fun q=>Out rk C D F q.1 q.2,⟨n,F,ρ,fp,I,Same.refl F,h⟩,?_⟩
 rintro n σ2 H2 ⟨F2,ρ2,fp2,I2,s2,k2⟩
 cases n with
 |zero=>exact k2.elim
 |succ n=>
  refine ⟨F2,ρ2,[],fp2,I2,k2.split.run.mono fun r hr F3 H3 fp3 I3 n3=>?_⟩
  by_cases cc:r.1=true
  ·rw [if_pos cc] at hr ⊢
   refine ⟨fun σ' H'=>∃ F' ρ' fp',SI C F' H' σ' ρ' [] fp'/\Same F F'/\RunS C E (whl mt ms n ρ') fun q=>Out rk C D F q.1 q.2,fun σ' H' z=>⟨n,Nat.lt_succ_self n,z⟩,F3,r.2,fp3,I3,hr.split.mono fun q hq=>?_⟩
   obtain ⟨f,ρ4⟩:=q
   have sF:Same F F3:=s2.trans n3.f
   cases f with
   |nx=>exact fun F5 H5 σ5 fp5 s5 I5=>⟨F5,ρ4,fp5,I5,sF.trans s5,hq⟩
   |ct=>exact fun F5 H5 σ5 fp5 s5 I5=>⟨F5,ρ4,fp5,I5,sF.trans s5,hq⟩
   |bk=>exact fun F5 H5 σ5 fp5 s5 I5=>hq F5 H5 σ5 fp5 (sF.trans s5) I5
   |rt d=>exact fun F5 H5 σ5 fp5 v s5 I5 f5=>hq F5 H5 σ5 fp5 v (sF.trans s5) I5 f5
  ·rw [if_neg cc] at hr ⊢
   exact hr F3 H3 σ2 fp3 (s2.trans n3.f) I3
end
def mkS (par:Bool)(d:D):Sl:=if par then .par d else .own d
def Qdl (par:Bool)(ρ:Rho):List Nat->Option (List D)
 | []=>some []
 |i :: is=>match ρ[i]? with
  |some (some (.own d))=>if par then none else (Qdl par ρ is).map (d :: ·)
  |some (some (.par d))=>if par then (Qdl par ρ is).map (d :: ·) else none
  |_=>none
def QcT (par:Bool)(ρ:Rho):List Nat->List D->Rho
 |i :: is,d :: ds=>(QcT par ρ is ds).set i (some (mkS par d))
 |_,_=>ρ
theorem Qhu {par:Bool}{ρ:Rho}{i:Nat}{is:List Nat}{ds:List D}(h:Qdl par ρ (i :: is)=some ds):∃ d r,ds=d :: r/\ρ[i]? = some (some (mkS par d))/\Qdl par ρ is=some r:=by
 unfold Qdl at h
 split at h
 ·next d e=>
  cases par with
  |true=>cases h
  |false=>
   obtain ⟨r,hr,rfl⟩:=Option.map_eq_some_iff.mp h
   exact ⟨d,r,rfl,e,hr⟩
 ·next d e=>
  cases par with
  |false=>cases h
  |true=>
   obtain ⟨r,hr,rfl⟩:=Option.map_eq_some_iff.mp h
   exact ⟨d,r,rfl,e,hr⟩
 ·cases h
theorem QiA {par:Bool}{ρ:Rho}{i:Nat}{s:Option Sl}:∀ {is:List Nat},i∉is->Qdl par (ρ.set i s) is=Qdl par ρ is
 | [],_=>rfl
 |j :: is,h=>by
  have n:i≠j:=fun e=>h (e▸List.mem_cons_self)
  unfold Qdl
  rw [List.getElem?_set_ne n,QiA fun z=>h (List.mem_cons_of_mem _ z)]
theorem Qiy {par:Bool}{ρ:Rho}{i:Nat}{s:Option Sl}:∀ {is:List Nat} {ds:List D},i∉is->QcT par (ρ.set i s) is ds=(QcT par ρ is ds).set i s
 | [],_,_=>by unfold QcT;rfl
 |j :: is,[],_=>by unfold QcT;rfl
 |j :: is,d :: ds,h=>by
  have n:i≠j:=fun e=>h (e▸List.mem_cons_self)
  unfold QcT
  rw [Qiy fun z=>h (List.mem_cons_of_mem _ z),List.set_comm _ _ (fun e=>n e)]
theorem QiR {par:Bool}{ρ:Rho}{i:Nat}:∀ {is:List Nat} {ds:List D},i∉is->(QcT par ρ is ds)[i]? = ρ[i]?
 | [],_,_=>by unfold QcT;rfl
 |j :: is,[],_=>by unfold QcT;rfl
 |j :: is,d :: ds,h=>by
  have n:j≠i:=fun e=>h (e▸List.mem_cons_self)
  unfold QcT
  rw [List.getElem?_set_ne n,QiR fun z=>h (List.mem_cons_of_mem _ z)]
theorem Qiw {par:Bool}{ρ:Rho}:∀ {is:List Nat} {ds:List D},(QcT par ρ is ds).length=ρ.length
 | [],_=>by unfold QcT;rfl
 |j :: is,[]=>by unfold QcT;rfl
 |j :: is,d :: ds=>by unfold QcT;rw [List.length_set,Qiw]
inductive Sig (σ:L2.St):List Nat->List L2.V->Prop
 |nil:Sig σ [] []
 |cons {i:Nat} {v:L2.V} {is:List Nat} {vs:List L2.V} (h:σ[i]? = some (some v)) (r:Sig σ is vs):Sig σ (i :: is) (v :: vs)
def QcC (C:Cn)(par:Bool)(a:Addr):Prop:=C.H₀ a=none\/(par=true/\a∈C.A)
section
variable {C:Cn}{F H:Hp}{σ:L2.St}{ρ:Rho}{τ:List (L2.V × D)}{fp:List Addr}{par:Bool}
theorem SI.unpar (I:SI C F H σ ρ τ fp):SI { C with pars:=[] } F H σ ρ τ fp:=⟨I.sl,I.nd,I.ap,I.fh,I.f0,I.fn,I.kp,I.dm,fun _ _ z=>nomatch z⟩
theorem SI.lend0 (hp:C.pars=[]):∀ {is:List Nat} {ρ:Rho} {fp:List Addr} {ds:List D},is.Nodup->SI C F H σ ρ τ fp->Qdl par ρ is=some ds->∃ vs f rest,Sig σ is vs/\OL C.K F H vs ds f/\fp.Perm (f++rest)/\(∀ a∈f,QcC C par a)/\
  ∀ {F' H':Hp} {f':List Addr} {ds':List D},Same F F'->Same F' H'->(∀ a∈rest,H' a=H a)->(∀ b,H' b=none->H b=none)->(∀ b o,C.H₀ b=some o->b∉C.A->H b=some o->H' b=some o)->(∀ b o,F' b=some o->F b=some o\/Nw C.H₀ b o)->
   OL C.K F' H' vs ds' f'->(f'++rest).Nodup->(∀ a∈f'++rest,F' a=none)->(∀ a∈f',QcC C par a)->SI C F' H' σ (QcT par ρ is ds') τ (f'++rest)
 | [],ρ,fp,ds,_,I,h=>by
  cases h
  refine ⟨[],[],fp,.nil,.nil,by simp,(fun _ z=>nomatch z),fun {F' H' f' ds'} sf fh hk dm kp fn ol nd ap fr=>?_⟩
  cases ol
  exact I.step sf fh hk (fun a ha=>ap a ha) fn kp dm
 |i :: is,ρ,fp,ds,nd,I,h=>by
  obtain ⟨ni,nd'⟩:=List.nodup_cons.mp nd
  obtain ⟨d,r,rfl,es,hr⟩:=Qhu h
  obtain ⟨x,f0,g0,rest1,ex,s1,pm,w0,w1,cl⟩:=I.cut es
  have ndp:=pm.nodup_iff.mp I.nd
  have nopar:∀ v,(i,v)∈C.pars->False:=fun v hv=>by rw [hp] at hv;exact nomatch hv
  obtain ⟨v,fi,ev,hv,efi,wfi⟩:∃ v fi,x=some v/\O C.K F H v d fi/\f0++g0=fi/\∀ a∈fi,QcC C par a:=by
   cases par with
   |false=>cases s1 with | own h=>exact ⟨_,_,rfl,h,by simp,fun a ha=>.inl (w0 a ha)⟩
   |true=>cases s1 with | par h=>exact ⟨_,_,rfl,h,rfl,fun a ha=>(w1 a ha).elim (fun z=>.inr ⟨rfl,z⟩) fun z=>.inl z⟩
  subst ev
  have r1nd:rest1.Nodup:=(List.nodup_append.mp (List.nodup_append.mp ndp).2.1).2.1
  have I1:=cl (x':=some v) (s':=none) (f0':=[]) (g0':=[]) (Same.refl F) I.fh (fun _ _=>rfl) (fun _ z=>z) (fun _ _ _ _ z=>z) (fun _ _ z=>.inl z) .non r1nd (fun a ha=>I.ap a (pm.mem_iff.mpr (by simp at ha;simp [ha]))) (fun _ z=>nomatch z) (fun _ z=>nomatch z) (fun v' hv'=>(nopar v' hv').elim)
  rw [Qbg ex] at I1
  obtain ⟨vs,f2,rest2,sg,ol,pm2,w2,cl2⟩:=SI.lend0 hp nd' I1 (by rw [QiA ni];exact hr)
  have pm2':rest1.Perm (f2++rest2):=pm2
  have pmf:fp.Perm ((fi++f2)++rest2):=by
   refine pm.trans ?_
   rw [← List.append_assoc,efi,List.append_assoc]
   exact pm2'.append_left fi
  refine ⟨v :: vs,fi++f2,rest2,.cons ex sg,.cons hv ol,pmf,fun a ha=>(List.mem_append.mp ha).elim (wfi a) (w2 a),fun {F' H' f' ds'} sf fh hk dm kp fn ol' nd2 ap fr=>?_⟩
  cases ol' with
  | @cons _ d' _ ds'' fa fb oa ob=>
   have nd3:(fa++(fb++rest2)).Nodup:=by rw [← List.append_assoc];exact nd2
   have I2:=cl2 sf fh hk dm kp fn ob (List.nodup_append.mp nd3).2.1 (fun a ha=>ap a (by rw [List.append_assoc];exact List.mem_append_right _ ha)) (fun a ha=>fr a (List.mem_append_right _ ha))
   have li:i<ρ.length:=(List.getElem?_eq_some_iff.mp es).1
   have en:(QcT par (ρ.set i none) is ds'')[i]? = some none:=by rw [QiR ni,List.getElem?_set_self li]
   obtain ⟨x3,f3,g3,rest3,ex3,s3,pm3,_,_,cl3⟩:=I2.cut en
   cases s3
   have pm3':(fb++rest2).Perm rest3:=pm3
   have nd4:(fa++rest3).Nodup:=(pm3'.append_left fa).nodup_iff.mp nd3
   have ap4:∀ a∈fa++rest3,F' a=none:=fun a ha=>ap a (by
    rw [List.append_assoc]
    rcases List.mem_append.mp ha with z | z
    ·exact List.mem_append_left _ z
    ·exact List.mem_append_right _ (pm3'.mem_iff.mpr z))
   have eρ:(QcT par (ρ.set i none) is ds'').set i (some (mkS par d'))=QcT par ρ (i :: is) (d' :: ds''):=by
    rw [Qiy ni,List.set_set]
    rfl
   have pmx:(fa++rest3).Perm ((fa++fb)++rest2):=by rw [List.append_assoc];exact pm3'.symm.append_left fa
   have fra:∀ a∈fa,QcC C par a:=fun a ha=>fr a (List.mem_append_left _ ha)
   rw [← eρ]
   cases par with
   |false=>
    have J:=cl3 (F':=F') (H':=H') (x':=some v) (s':=some (.own d')) (f0':=fa) (g0':=[]) (Same.refl _) fh (fun _ _=>rfl) (fun _ z=>z) (fun _ _ _ _ z=>z) (fun _ _ z=>.inl z) (.own oa) nd4 ap4 (fun a ha=>(fra a ha).resolve_right fun z=>nomatch z.1) (fun _ z=>nomatch z) (fun v' hv'=>(nopar v' hv').elim)
    rw [Qbg ex] at J
    exact J.perm pmx
   |true=>
    have J:=cl3 (F':=F') (H':=H') (x':=some v) (s':=some (.par d')) (f0':=[]) (g0':=fa) (Same.refl _) fh (fun _ _=>rfl) (fun _ z=>z) (fun _ _ _ _ z=>z) (fun _ _ z=>.inl z) (.par oa) nd4 ap4 (fun _ z=>nomatch z) (fun a ha=>(fra a ha).elim (fun z=>.inr z) fun z=>.inl z.2) (fun v' hv'=>(nopar v' hv').elim)
    rw [Qbg ex] at J
    exact J.perm pmx
theorem SI.lend {is:List Nat}{ds:List D}(nd:is.Nodup)(I:SI C F H σ ρ τ fp)(h:Qdl par ρ is=some ds):∃ vs f rest,Sig σ is vs/\OL C.K F H vs ds f/\fp.Perm (f++rest)/\(∀ a∈f,QcC C par a)/\
  ∀ {F' H':Hp} {f':List Addr} {ds':List D},Same F F'->Same F' H'->(∀ a∈rest,H' a=H a)->(∀ b,H' b=none->H b=none)->(∀ b o,C.H₀ b=some o->b∉C.A->H b=some o->H' b=some o)->(∀ b o,F' b=some o->F b=some o\/Nw C.H₀ b o)->
   OL C.K F' H' vs ds' f'->(f'++rest).Nodup->(∀ a∈f'++rest,F' a=none)->(∀ a∈f',QcC C par a)->SI C F' H' σ (QcT par ρ is ds') τ (f'++rest):=by
 obtain ⟨vs,f,rest,sg,ol,pm,w,cl⟩:=SI.lend0 (C:={ C with pars:=[] }) rfl nd I.unpar h
 refine ⟨vs,f,rest,sg,ol,pm,w,fun {F' H' f' ds'} sf fh hk dm kp fn ol' nd2 ap fr=>?_⟩
 have J:=cl sf fh hk dm kp fn ol' nd2 ap fr
 refine ⟨J.sl,J.nd,J.ap,J.fh,J.f0,J.fn,J.kp,J.dm,fun j v hj=>?_⟩
 obtain ⟨p1,d,p2⟩:=I.pr j v hj
 refine ⟨p1,?_⟩
 have len:ds'.length=is.length:=by
  have e1:vs.length=is.length:=by
   have:∀ {is:List Nat} {vs:List L2.V},Sig σ is vs->vs.length=is.length:=by
    intro is vs s
    induction s with
    |nil=>rfl
    |cons _ _ ih=>rw [List.length_cons,List.length_cons,ih]
   exact this sg
  rw [← ol'.length,e1]
 have go:∀ {is:List Nat} {ds ds':List D},is.Nodup->Qdl par ρ is=some ds->ds'.length=is.length->∃ d,(QcT par ρ is ds')[j]? = some (some (.par d)):=by
  intro is
  induction is with
  |nil=>intro ds ds' _ _ _;unfold QcT;exact ⟨d,p2⟩
  |cons i is ih=>
   intro ds ds' nd h l
   obtain ⟨ni,nd'⟩:=List.nodup_cons.mp nd
   obtain ⟨d0,r,rfl,es,hr⟩:=Qhu h
   cases ds' with
   |nil=>cases l
   |cons d' ds''=>
    unfold QcT
    by_cases e:i=j
    ·subst e
     have li:i<(QcT par ρ is ds'').length:=by rw [Qiw];exact (List.getElem?_eq_some_iff.mp es).1
     rw [List.getElem?_set_self li]
     rw [p2] at es
     cases par with
     |false=>cases es
     |true=>exact ⟨d',rfl⟩
    ·rw [List.getElem?_set_ne e]
     exact ih nd' hr (by simpa using l)
 exact go nd h len
end
inductive Fr where
 |ok (r:D) (outs:List D)
 |ex (c:Addr)
 |no
inductive AL (K:PySem.W.Frag) (F H:Hp):List Bool->List L2.V->List D->List Addr->Prop
 |nil:AL K F H [] [] [] []
 |val {v:L2.V} {d:D} {io:List Bool} {vs:List L2.V} {ds:List D} {fp:List Addr} (h:R K F v d) (r:AL K F H io vs ds fp):AL K F H (false :: io) (v :: vs) (d :: ds) fp
 |io {v:L2.V} {d:D} {io:List Bool} {vs:List L2.V} {ds:List D} {f fp:List Addr} (h:O K F H v d f) (r:AL K F H io vs ds fp):AL K F H (true :: io) (v :: vs) (d :: ds) (f++fp)
def ioV:List Bool->List L2.V->List L2.V
 |true :: io,v :: vs=>v :: ioV io vs
 |false :: io,_ :: vs=>ioV io vs
 |_,_=>[]
def RkF (rk:Kd)(K:PySem.W.Frag)(F H:Hp)(v:L2.V)(d:D)(f:List Addr):Prop:=match rk with
 |.V=>R K F v d/\f=[]
 |.O=>O K F H v d f
 |_=>False
def spF (K:PySem.W.Frag)(io:List Bool)(rk:Kd)(m:List D->Fr):Sp:=fun vs H Q E=>∃ F ds fp,AL K F H io vs ds fp/\fp.Nodup/\(∀ a∈fp,F a=none)/\Same F H/\match m ds with
 |.ok r outs=>∀ F' H' v fr fo,Same F F'->Same F' H'->(∀ b o,F' b=some o->F b=some o\/Nw H b o)->(∀ b o,H b=some o->b∉fp->H' b=some o)->(∀ b,H' b=none->H b=none)->RkF rk K F' H' v r fr->OL K F' H' (ioV io vs) outs fo->
   (fr++fo).Nodup->(∀ a∈fr++fo,F' a=none)->(∀ a∈fr,H a=none)->(∀ a∈fo,a∈fp\/H a=none)->Q v H'
 |.ex c=>∀ H',(∀ b o,H b=some o->b∉fp->H' b=some o)->(∀ b,H' b=none->H b=none)->E (.ref c) none H'
 |.no=>False
theorem AL.len {K:PySem.W.Frag}{F H:Hp}{io:List Bool}{vs:List L2.V}{ds:List D}{fp:List Addr}(h:AL K F H io vs ds fp):vs.length=io.length:=by
 induction h with
 |nil=>rfl
 |val _ _ ih=>rw [List.length_cons,List.length_cons,ih]
 |io _ _ ih=>rw [List.length_cons,List.length_cons,ih]
def QpV:Option Nat->Kd
 |none=>.V
 |some i=>.S i
def QmM:List (Option Nat)->List D->List D->List D
 |none :: as,d :: ds,l=>d :: QmM as ds l
 |some _ :: as,_ :: ds,x :: l=>x :: QmM as ds l
 |_,_,_=>[]
def QbS (par:Bool)(as:List (Option Nat))(f:List D->Fr)(mr:MA):ME:=fun ρ=>(mr ρ).bind fun r=>(Rs.of (Qdl par r.2 (as.filterMap id))).bind fun dis=>match f (QmM as r.1 dis) with
 |.ok d outs=>.ok (d,QcT par r.2 (as.filterMap id) outs)
 |.ex c=>if (as.filterMap id).isEmpty=true then .ex c r.2 else .no
 |.no=>.no
def Qd7 (X:Cx)(E:XE):Prop:=∀ (pins:List (Addr × Obj)) (σ:L2.St) (H:Hp) (s:Shared) (e:Value) (s':Shared),Inv X pins σ H s->CXe X.prog X.w X.stack H s (E σ) e s'->X.xe e s'
def Qkb (sp:Sp)(E:XE)(t:TA):TE:=fun σ H Q=>t σ H fun vs H1=>sp vs H1 Q (E σ)
section
variable {X:Cx}{C:Cn}{E:XE}{p pa:Bool}{e a b:Expr}{es:List Expr}{m:ME}{mr:MA}{pos:Pos}{rk:Kd}{n:Nat}{ps:List Str}{sp:Sp}{x:Str}{px:Pos}{t:TA}
theorem QhX {f:Addr}{fd:FuncData}{pins:List (Addr × Obj)}{σ:L2.St}{H:Hp}{s:Shared}{Q:VK}{us:List Value}{vs:List L2.V}(F:FnOk X.prog X.w X.K X.mg X.base (CXe X.prog X.w) n f fd ps sp)(hr:Room n X.A)(hb:Binds X.K fd ps [])(hx:Qd7 X E)
  (I:Inv X pins σ H s) (r:Vals vs us) (h:sp vs H Q (E σ)):wpAny (model X.prog X.w) X.A (call (.ref f) us) (EP X pins σ Q) X.xe s:=by
 have hl:(us++[]).length=ps.length:=by rw [List.append_nil,← r.length];exact F.len _ _ _ _ h
 have hb':=hb s us I.kIn hl
 rw [List.append_nil] at hb'
 refine wpAny_call (codeAny_mono (F.run X.A X.stack s H ⟨us,[]⟩ us vs Q (E σ) hr I.env0 hb' r h) fun r s' hq=>?_)
 cases r with
 |error e=>exact hx pins σ H s e s' I hq
 |ok fl=>
  cases fl with
  |ret u=>exact I.after hq
  |next=>exact False.elim hq
  |brk=>exact False.elim hq
  |cont=>exact False.elim hq
theorem QnF (D:Qaf X.prog X.w X.K X.mg X.base n x ps sp)(hx:Qd7 X E)(hr:Room n X.A)(ha:PA X (e :: es) t)(hg:Gl X x:=by rfl)
  (hdb:(x == ("__debug__" : Str))=false:=by decide) (he:starEach (e :: es) X.env=(false,eval e X.env) :: starEach es X.env:=by rfl) (hpl:(backTo pos (starEach es X.env)).any (·.1)=false:=by rfl) :
  PE X (.Call (.Name x px) (e :: es) [] pos) (Qkb sp E t):=by
 obtain ⟨f,fd,F,hm,hk,hb⟩:=D.ex
 intro pins s σ H Q I h
 refine wpAny_Call_Name_kw (QfI I hg hm ?_ hdb)
 refine PySem.W.callWith_K (h₀:=X.base) I.ok.mod.kin hk (thn (ha pos pins s σ H _ I h) fun us s1 ⟨vs,H1,I1,r,q⟩=>⟨I1.kIn,?_⟩) he hpl
 exact QhX F hr hb hx I1 r q
theorem Qlh:∀ {as:List (Option Nat)} {vs:List L2.V} {ds:List D} {τ:List (L2.V × D)},tkL (as.map QpV) vs ds τ=τ
 | [],_,_,_=>by unfold tkL;rfl
 |none :: as,[],_,_=>by unfold tkL;rfl
 |none :: as,_ :: _,[],_=>by unfold tkL;rfl
 |none :: as,v :: vs,d :: ds,τ=>by
  show tkL (Kd.V :: as.map QpV) (v :: vs) (d :: ds) τ=τ
  unfold tkL;exact Qlh
 |some i :: as,[],_,_=>by unfold tkL;rfl
 |some i :: as,_ :: _,[],_=>by unfold tkL;rfl
 |some i :: as,v :: vs,d :: ds,τ=>by
  show tkL (Kd.S i :: as.map QpV) (v :: vs) (d :: ds) τ=τ
  unfold tkL;exact Qlh
theorem QoM {F H:Hp}{fp:List Addr}{σ:L2.St}:∀ {as:List (Option Nat)} {vs:List L2.V} {ds:List D} {vi:List L2.V} {di:List D} {f:List Addr},FcL C F H fp σ (as.map QpV) vs ds->Sig σ (as.filterMap id) vi->OL C.K F H vi di f->
  AL C.K F H (as.map (·.isSome)) vs (QmM as ds di) f/\ioV (as.map (·.isSome)) vs=vi
 | [],_,_,_,_,_,.nil,.nil,.nil=>⟨.nil,rfl⟩
 |none :: as,_,_,vi,di,f,.cons h r,sg,ol=>by
  obtain ⟨q1,q2⟩:=QoM r sg ol
  exact ⟨.val h q1,q2⟩
 |some i :: as,_,_,_,_,_,.cons h r,.cons e sg,.cons o ol=>by
  obtain ⟨q1,q2⟩:=QoM r sg ol
  have ev:=Option.some.inj (Option.some.inj (Eq.trans (Eq.symm (show σ[i]? = some (some _) from h)) e))
  subst ev
  exact ⟨.io o q1,congrArg _ q2⟩
theorem Qm6 {par:Bool}{as:List (Option Nat)}{f:List D->Fr}(nd:(as.filterMap id).Nodup)(hrk:rk=.V\/rk=.O)(hp:p=true->(as.filterMap id)=[]){σ:L2.St}{H:Hp}{Q:VK}(h:tX rk C (pa && p) E (QbS par as f mr) σ H Q) :
  Qkb (spF C.K (as.map (·.isSome)) rk f) E (tA (as.map QpV) C pa E mr) σ H Q:=by
 obtain ⟨F,ρ,τ,fp,I,h⟩:=h
 refine ⟨F,ρ,τ,fp,I,h.split.mono fun r hr F1 H1 fp1 vs I1 n1 f1=>?_⟩
 rw [Qlh] at I1
 obtain ⟨dis,eg,h2⟩:=hr.split.of
 obtain ⟨vi,fl,rest,sg,ol,pm,w,cl⟩:=I1.lend nd eg
 obtain ⟨al,eio⟩:=QoM f1 sg ol
 have ndp:=pm.nodup_iff.mp I1.nd
 have inl:∀ a∈fl,a∈fp1:=fun a ha=>pm.mem_iff.mpr (List.mem_append_left _ ha)
 have inr:∀ a∈rest,a∈fp1:=fun a ha=>pm.mem_iff.mpr (List.mem_append_right _ ha)
 have dis':∀ a∈rest,a∉fl:=fun a ha hf=>(List.nodup_append.mp ndp).2.2 a hf a ha rfl
 refine ⟨F1,_,fl,al,(List.nodup_append.mp ndp).1,fun a ha=>I1.ap a (inl a ha),I1.fh,?_⟩
 cases ef:f (QmM as r.1 dis) with
 |no=>rw [ef] at h2;exact h2
 |ex c=>
  rw [ef] at h2
  dsimp only at h2 ⊢
  intro H' kp' dm'
  by_cases hem:(as.filterMap id).isEmpty=true
  ·rw [if_pos hem] at h2
   have e0:as.filterMap id=[]:=by simpa using hem
   have ef0:fl=[]:=by
    rw [e0] at sg
    cases sg
    cases ol
    rfl
   subst ef0
   have J:SI C F1 H' σ r.2 τ fp1:=I1.step (Same.refl _) (fun b o e=>kp' b o (I1.fh b o e) (by simp)) (fun a ha=>by
    obtain ⟨o,e,_⟩:=I1.mem a ha
    rw [e,kp' a o e (by simp)]) I1.ap (fun _ _ z=>.inl z) (fun b o _ _ e=>kp' b o e (by simp)) dm'
   obtain ⟨fp2,J2⟩:=J.drop
   exact h2 F1 H' fp2 J2
  ·rw [if_neg hem] at h2;exact h2.elim
 |ok d outs=>
  rw [ef] at h2
  dsimp only at h2 ⊢
  intro F' H' v fr fo sF fh' fn' kp' dm' rf ol' nd' ap' frn fon
  rw [eio] at ol'
  have hrest:∀ a∈rest,H' a=H1 a:=fun a ha=>by
   obtain ⟨o,e,_⟩:=I1.mem a (inr a ha)
   rw [e,kp' a o e (dis' a ha)]
  have some1:∀ a∈fp1,H1 a≠none:=fun a ha z=>by
   obtain ⟨o,e,_⟩:=I1.mem a ha
   rw [z] at e;cases e
  have apr:∀ a∈rest,F' a=none:=fun a ha=>by
   cases e:F' a with
   |none=>rfl
   |some o=>
    rcases fn' a o e with z | z
    ·rw [I1.ap a (inr a ha)] at z;cases z
    ·obtain ⟨o2,e2,m2⟩:=I1.mem a (inr a ha)
     exact (z.not (some1 a (inr a ha)) (fh' a o e) ((hrest a ha).trans e2) m2).elim
  have ndfo:=List.nodup_append.mp nd'
  have disfo:∀ a∈fo,a∉rest:=fun a ha hr=>by
   rcases fon a ha with z | z
   ·exact dis' a hr z
   ·exact some1 a (inr a hr) z
  have J:=cl sF fh' hrest dm' (fun b o e n z=>kp' b o z fun hb=>by
   rcases w b hb with y | y
   ·rw [y] at e;cases e
   ·exact n y.2) (fun b o e=>(fn' b o e).imp id fun z=>z.up fun y=>I1.dm b y) ol' (List.nodup_append.mpr ⟨ndfo.2.1,(List.nodup_append.mp ndp).2.1,fun a ha b hb z=>disfo a ha (z▸hb)⟩) (fun a ha=>(List.mem_append.mp ha).elim (fun z=>ap' a (List.mem_append_right _ z)) (apr a)) (fun a ha=>(fon a ha).elim (w a) fun z=>.inl (I1.dm a z))
  have nxt:∀ {fp':List Addr},(∀ a∈rest,a∈fp')->(∀ a,F1 a≠none->a∉fp')->Nx (pa && p) F H fp F' H' fp':=fun {fp'} sub nin=>by
   refine n1.trans (q:=p) ⟨sF,fun hpp b o e=>?_⟩
   have ef0:fl=[]:=by
    rw [hp hpp] at sg
    cases sg
    cases ol
    rfl
   subst ef0
   by_cases hb:b∈fp1
   ·have hb':b∈rest:=by simpa using pm.mem_iff.mp hb
    rw [QbY hb] at e
    rw [QbY (sub b hb')]
    exact kp' b o e (by simp)
   ·rw [QaY hb] at e
    rw [QaY (nin b (by rw [e];simp))]
    exact sF b o e
  rcases hrk with rfl | rfl
  ·obtain ⟨rv,rfl⟩:=rf
   refine h2 F' H' _ v J (nxt (fun a ha=>List.mem_append_right _ ha) fun a hF hm=>?_) rv
   rcases List.mem_append.mp hm with z | z
   ·rw [Same.free sF (ap' a z)] at hF;exact hF rfl
   ·rw [I1.ap a (inr a z)] at hF;exact hF rfl
  ·have ndall:(fr++(fo++rest)).Nodup:=List.nodup_append.mpr ⟨ndfo.1,J.nd,fun a ha b hb z=>by
    subst z
    rcases List.mem_append.mp hb with y | y
    ·exact ndfo.2.2 a ha a y rfl
    ·exact some1 a (inr a y) (frn a ha)⟩
   refine h2 F' H' _ v (J.push rf (fun a ha=>I1.dm a (frn a ha)) (fun a ha=>ap' a (List.mem_append_left _ ha)) ndall) (nxt (fun a ha=>List.mem_append_right _ (List.mem_append_right _ ha)) fun a hF hm=>?_) True.intro
   rcases List.mem_append.mp hm with z | z
   ·rw [Same.free sF (ap' a (List.mem_append_left _ z))] at hF;exact hF rfl
   ·rcases List.mem_append.mp z with z | z
    ·rw [Same.free sF (ap' a (List.mem_append_right _ z))] at hF;exact hF rfl
    ·rw [I1.ap a (inr a z)] at hF;exact hF rfl
theorem Qfd {par:Bool}{as:List (Option Nat)}{f:List D->Fr}(D:Qaf X.prog X.w X.K X.mg X.base n x ps (spF C.K (as.map (·.isSome)) rk f))(hx:Qd7 X E)(hr:Room n X.A)(ha:PA X (e :: es) (tA (as.map QpV) C pa E mr))(hrk:rk=.V\/rk=.O:=by first | exact .inl rfl | exact .inr rfl)(nd:(as.filterMap id).Nodup:=by decide)(hp:p=true->as.filterMap id=[]:=by decide)(hg:Gl X x:=by rfl)
  (hdb:(x == ("__debug__" : Str))=false:=by decide) (he:starEach (e :: es) X.env=(false,eval e X.env) :: starEach es X.env:=by rfl) (hpl:(backTo pos (starEach es X.env)).any (·.1)=false:=by rfl) :
  PE X (.Call (.Name x px) (e :: es) [] pos) (tX rk C (pa && p) E (QbS par as f mr)):=Qan (QnF D hx hr ha hg hdb he hpl) fun _ _ _ h=>Qm6 nd hrk hp h
mutual
theorem O.lo {K:PySem.W.Frag}{F H:Hp}{L:List Addr}(hl:∀ b∈L,∀ o,F b=some o->Mbl o):∀ {v:L2.V} {d:D} {fp:List Addr},O K F H v d fp->O K (lo F L) H v d fp
 |_,_,_,.sc e=>.sc e
 |_,_,_,.im m h r=>.im m (h.lo m hl) (OL.lo hl r)
 |_,_,_,.mt h r=>.mt h (OL.lo hl r)
theorem OL.lo {K:PySem.W.Frag}{F H:Hp}{L:List Addr}(hl:∀ b∈L,∀ o,F b=some o->Mbl o):∀ {v:List L2.V} {d:List D} {fp:List Addr},OL K F H v d fp->OL K (lo F L) H v d fp
 |_,_,_,.nil=>.nil
 |_,_,_,.cons h r=>.cons (O.lo hl h) (OL.lo hl r)
end
def Qaj (rk:Kd)(f:List D->Fr)(mr:MA):ME:=fun ρ=>(mr ρ).bind fun r=>match f r.1 with
 |.ok d _=>match rk with
  |.V=>if d.imm=true then .ok (d,r.2) else .no
  |_=>.ok (d,r.2)
 |.ex c=>.ex c r.2
 |.no=>.no
theorem Qr4 {K:PySem.W.Frag}{F H:Hp}:∀ {vs:List L2.V} {ds:List D},RL K F vs ds->AL K F H (vs.map fun _=>false) vs ds []
 |_,_,.nil=>.nil
 |_,_,.cons h r=>.val h (Qr4 r)
theorem Qhn {f:List D->Fr}{io:List Bool}(hio:io.all (!·)=true)(hl:io.length=ks.length)(hrk:rk=.V\/rk=.O)(ok:rdL ks=true){σ:L2.St}{H:Hp}{Q:VK}(h:tX rk C pa E (Qaj rk f mr) σ H Q):Qkb (spF C.K io rk f) E (tA ks C pa E mr) σ H Q:=by
 obtain ⟨F,ρ,τ,fp,I,h⟩:=h
 refine ⟨F,ρ,τ,fp,I,h.split.mono fun r hr F1 H1 fp1 vs I1 n1 f1=>?_⟩
 rw [QbT ok] at I1
 have rl:=f1.rd I1 ok
 have hlen:vs.length=ks.length:=by
  have:∀ {ks:List Kd} {vs:List L2.V} {ds:List D},FcL C F1 H1 fp1 σ ks vs ds->vs.length=ks.length:=by
   intro ks vs ds z
   induction z with
   |nil=>rfl
   |cons _ _ ih=>rw [List.length_cons,List.length_cons,ih]
  exact this f1
 have eio:io=vs.map fun _=>false:=by
  have:∀ {io:List Bool} {n:Nat},io.all (!·)=true->io.length=n->io=List.replicate n false:=by
   intro io
   induction io with
   |nil=>intro n _ e;subst e;rfl
   |cons x io ih=>
    intro n h e
    subst e
    rw [List.all_cons,Bool.and_eq_true] at h
    rw [List.length_cons,List.replicate_succ,← ih h.2 rfl]
    have:x=false:=by simpa using h.1
    rw [this]
  rw [this hio (hl.trans hlen.symm)]
  exact (List.map_const' ..).symm
 have hmt:∀ {F':Hp},Same (jn F1 H1 fp1) F'->∀ b∈fp1,∀ o,F' b=some o->Mbl o:=fun {F'} s b hb o e=>by
  obtain ⟨o',e',z⟩:=I1.mem b hb
  have q:=s b o' (by rw [QbY hb];exact e')
  rw [e] at q;cases q
  exact z
 refine ⟨jn F1 H1 fp1,r.1,[],by rw [eio];exact Qr4 rl,List.nodup_nil,(fun _ z=>nomatch z),Qcv I1.fh,?_⟩
 cases ef:f r.1 with
 |no=>rw [ef] at hr;exact hr
 |ex c=>
  rw [ef] at hr
  dsimp only at hr ⊢
  intro H' kp' dm'
  have J:SI C F1 H' σ r.2 τ fp1:=I1.step (Same.refl _) (fun b o e=>kp' b o (I1.fh b o e) (by simp)) (fun a ha=>by
   obtain ⟨o,e,_⟩:=I1.mem a ha
   rw [e,kp' a o e (by simp)]) I1.ap (fun _ _ z=>.inl z) (fun b o _ _ e=>kp' b o e (by simp)) dm'
  obtain ⟨fp2,J2⟩:=J.drop
  exact hr F1 H' fp2 J2
 |ok d outs=>
  rw [ef] at hr
  dsimp only at hr ⊢
  intro F' H' v fr fo sF fh' fn' kp' dm' rf ol' nd' ap' frn fon
  have sN:Same F1 (lo F' fp1):=fun b o e=>by
   have nb:b∉fp1:=fun z=>by rw [I1.ap b z] at e;cases e
   rw [Qdt nb]
   exact sF b o (by rw [QaY nb];exact e)
  have J:SI C (lo F' fp1) H' σ r.2 τ fp1:=by
   refine I1.step sN (lo_le.trans fh') (fun a ha=>?_) (fun a ha=>QjJ ha) (fun b o e=>?_) (fun b o _ _ e=>kp' b o e (by simp)) dm'
   ·obtain ⟨o,e,_⟩:=I1.mem a ha
    rw [e,kp' a o e (by simp)]
   ·have nb:b∉fp1:=fun z=>by rw [QjJ z] at e;cases e
    rw [Qdt nb] at e
    rcases fn' b o e with z | z
    ·rw [QaY nb] at z;exact .inl z
    ·exact .inr (z.up fun y=>I1.dm b y)
  have keepJ:∀ {fp':List Addr},(∀ a∈fp1,a∈fp')->(∀ a,F1 a≠none->a∉fp')->Nx pa F H fp (lo F' fp1) H' fp':=fun {fp'} sub nin=>by
   refine (n1.trans (q:=true) ⟨sN,fun _ b o e=>?_⟩).weak fun z=>by simp [z]
   by_cases hb:b∈fp1
   ·rw [QbY hb] at e
    rw [QbY (sub b hb)]
    exact kp' b o e (by simp)
   ·rw [QaY hb] at e
    rw [QaY (nin b (by rw [e];simp))]
    exact sN b o e
  have some1:∀ a∈fp1,H1 a≠none:=fun a ha z=>by
   obtain ⟨o,e,_⟩:=I1.mem a ha
   rw [z] at e;cases e
  rcases hrk with rfl | rfl
  ·obtain ⟨rv,rfl⟩:=rf
   dsimp only at hr
   by_cases hi:d.imm=true
   ·rw [if_pos hi] at hr
    exact hr _ H' fp1 v J (keepJ (fun a ha=>ha) fun a hF hm=>hF (I1.ap a hm)) (R.lo (hmt sF) rv hi)
   ·rw [if_neg hi] at hr;exact hr.elim
  ·dsimp only at hr
   have ndall:(fr++fp1).Nodup:=List.nodup_append.mpr ⟨(List.nodup_append.mp nd').1,I1.nd,fun a ha b hb z=>by
    subst z;exact some1 a hb (frn a ha)⟩
   refine hr _ H' _ v (J.push (O.lo (hmt sF) rf) (fun a ha=>I1.dm a (frn a ha)) (fun a ha=>lo_le.free (ap' a (List.mem_append_left _ ha))) ndall) (keepJ (fun a ha=>List.mem_append_right _ ha) fun a hF hm=>?_) True.intro
   rcases List.mem_append.mp hm with z | z
   ·exact hF (I1.fh.free (frn a z))
   ·exact hF (I1.ap a z)
theorem QaO {io:List Bool}{f:List D->Fr}(D:Qaf X.prog X.w X.K X.mg X.base n x ps (spF C.K io rk f))(hx:Qd7 X E)(hr:Room n X.A)(ha:PA X (e :: es) (tA ks C pa E mr))(hio:io.all (!·)=true:=by rfl)(hl:io.length=ks.length:=by rfl)(hrk:rk=.V\/rk=.O:=by first | exact .inl rfl | exact .inr rfl)(ok:rdL ks=true:=by rfl)(hg:Gl X x:=by rfl)
  (hdb:(x == ("__debug__" : Str))=false:=by decide) (he:starEach (e :: es) X.env=(false,eval e X.env) :: starEach es X.env:=by rfl) (hpl:(backTo pos (starEach es X.env)).any (·.1)=false:=by rfl) :
  PE X (.Call (.Name x px) (e :: es) [] pos) (tX rk C pa E (Qaj rk f mr)):=Qan (QnF D hx hr ha hg hdb he hpl) fun _ _ _ h=>Qhn hio hl hrk ok h
end
def Qm1 (b:Bool)(d:D):Option Sl:=some (if b then .par d else .frz d)
def QmQ (io:List Bool)(n:Nat)(ds:List D):Rho:=List.zipWith Qm1 io ds++List.replicate (n - io.length) none
def outs:List Bool->Rho->Option (List D)
 |true :: io,some (.par d) :: ρ=>(outs io ρ).map (d :: ·)
 |false :: io,some (.par _) :: ρ=>none
 |false :: io,_ :: ρ=>outs io ρ
 | [],some (.par _) :: ρ=>none
 | [],_ :: ρ=>outs [] ρ
 | [],[]=>some []
 |_,_=>none
def Qb6 (io:List Bool)(n:Nat)(mb:MS)(ds:List D):Fr:=match mb (QmQ io n ds) with
 |.ok (.rt d,ρ)=>match outs io ρ with
  |some os=>.ok d os
  |none=>.no
 |.ok (.nx,ρ)=>match outs io ρ with
  |some os=>.ok .non os
  |none=>.no
 |.ex c _=>.ex c
 |_=>.no
def QaB:Nat->List Bool->List L2.V->List (Nat × L2.V)
 |j,true :: io,v :: vs=>(j,v) :: QaB (j+1) io vs
 |j,false :: io,_ :: vs=>QaB (j+1) io vs
 |_,_,_=>[]
section
variable {K:PySem.W.Frag}{F H:Hp}
theorem QdQ {N:List Str}:∀ {io:List Bool} {vs:List L2.V} {ds:List D} {fp:List Addr} {r:Nat},AL K F H io vs ds fp->SL K F H (vs.map some++List.replicate r none) (List.zipWith Qm1 io ds++List.replicate r none) [] fp
 |_,_,_,_,0,.nil=>.nil
 |_,_,_,_,r+1,.nil=>.cons (f0:=[]) (g0:=[]) .non (QdQ (N:=N) .nil)
 |_,_,_,_,r,.val h al=>.cons (f0:=[]) (g0:=[]) (.frz h) (QdQ (N:=N) al)
 |_,_,_,_,r,.io h al=>.cons (f0:=[]) (.par h) (QdQ (N:=N) al)
theorem Qgp:∀ {io:List Bool} {vs:List L2.V} {ds:List D} {fp:List Addr} {j0 j:Nat} {v:L2.V} {r:Nat},AL K F H io vs ds fp->(j,v)∈QaB j0 io vs->∃ i,j=j0+i/\(vs.map some++List.replicate r (none:Option L2.V))[i]? = some (some v)/\∃ d,(List.zipWith Qm1 io ds++List.replicate r none)[i]? = some (some (.par d))
 |_,_,_,_,j0,j,v,r,.nil,hm=>by unfold QaB at hm;exact nomatch hm
 |_,_,_,_,j0,j,v,r,.val h al,hm=>by
  unfold QaB at hm
  obtain ⟨i,e,h1,d,h2⟩:=Qgp (r:=r) al hm
  exact ⟨i+1,by omega,by simpa using h1,d,by simpa using h2⟩
 |_,_,_,_,j0,j,v,r,.io (d:=d0) h al,hm=>by
  unfold QaB at hm
  rcases List.mem_cons.mp hm with e | hm
  ·cases e
   exact ⟨0,rfl,rfl,d0,rfl⟩
  ·obtain ⟨i,e,h1,d,h2⟩:=Qgp (r:=r) al hm
   exact ⟨i+1,by omega,by simpa using h1,d,by simpa using h2⟩
theorem Qci:∀ {io:List Bool} {vs:List L2.V} {os:List D} {σ:L2.St} {ρ:Rho} {f g:List Addr} {j0:Nat},SL K F H σ ρ f g->outs io ρ=some os->vs.length=io.length->(∀ j v,(j,v)∈QaB j0 io vs->∃ i,j=j0+i/\σ[i]? = some (some v))->OL K F H (ioV io vs) os g
 | [],[],os,_,_,_,_,j0,.nil,h,_,_=>by unfold outs at h;cases h;unfold ioV;exact .nil
 | [],[],os,_,_,_,_,j0,.cons s r,h,_,hp=>by
  have nx:∀ {g0 g:List Addr} {x s},S1 K F H x s [] g0->True:=fun _=>True.intro
  cases s with
  |non=>unfold outs at h;exact Qci (vs:=[]) (j0:=j0) r h rfl (fun j v z=>by unfold QaB at z;exact nomatch z)
  |frz _=>unfold outs at h;exact Qci (vs:=[]) (j0:=j0) r h rfl (fun j v z=>by unfold QaB at z;exact nomatch z)
  |own _=>unfold outs at h;exact Qci (vs:=[]) (j0:=j0) r h rfl (fun j v z=>by unfold QaB at z;exact nomatch z)
  |par _=>unfold outs at h;cases h
 |false :: io,v :: vs,os,_,_,_,_,j0,.cons s r,h,l,hp=>by
  have hp':∀ {σ:L2.St} {x:Option L2.V},(∀ j u,(j,u)∈QaB j0 (false :: io) (v :: vs)->∃ i,j=j0+i/\(x :: σ)[i]? = some (some u))->∀ j u,(j,u)∈QaB (j0+1) io vs->∃ i,j=j0+1+i/\σ[i]? = some (some u):=fun hp j u z=>by
   obtain ⟨i,e,q⟩:=hp j u (by unfold QaB;exact z)
   have lb:j0+1<=j:=by
    have:∀ {io:List Bool} {vs:List L2.V} {j0 j:Nat} {u:L2.V},(j,u)∈QaB j0 io vs->j0<=j:=by
     intro io
     induction io with
     |nil=>intro vs j0 j u z;unfold QaB at z;exact nomatch z
     |cons b io ih=>
      intro vs j0 j u z
      cases vs with
      |nil=>cases b<;>(unfold QaB at z;exact nomatch z)
      |cons w vs=>
       cases b with
       |false=>unfold QaB at z;have:=ih z;omega
       |true=>
        unfold QaB at z
        rcases List.mem_cons.mp z with e | z
        ·cases e;exact Nat.le_refl _
        ·have:=ih z;omega
    exact this z
   cases i with
   |zero=>omega
   |succ i=>exact ⟨i,by omega,by simpa using q⟩
  unfold ioV
  cases s with
  |non=>unfold outs at h;exact Qci r h (by simpa using l) (hp' hp)
  |frz _=>unfold outs at h;exact Qci r h (by simpa using l) (hp' hp)
  |own _=>unfold outs at h;exact Qci r h (by simpa using l) (hp' hp)
  |par _=>unfold outs at h;cases h
 |true :: io,v :: vs,os,_,_,_,_,j0,.cons s r,h,l,hp=>by
  obtain ⟨i0,e0,q0⟩:=hp j0 v (by unfold QaB;exact List.mem_cons_self)
  have:i0=0:=by omega
  subst this
  have hp':∀ {σ:L2.St} {x:Option L2.V},(∀ j u,(j,u)∈QaB j0 (true :: io) (v :: vs)->∃ i,j=j0+i/\(x :: σ)[i]? = some (some u))->∀ j u,(j,u)∈QaB (j0+1) io vs->∃ i,j=j0+1+i/\σ[i]? = some (some u):=fun hp j u z=>by
   obtain ⟨i,e,q⟩:=hp j u (by unfold QaB;exact List.mem_cons_of_mem _ z)
   have lb:j0+1<=j:=by
    have:∀ {io:List Bool} {vs:List L2.V} {j0 j:Nat} {u:L2.V},(j,u)∈QaB j0 io vs->j0<=j:=by
     intro io
     induction io with
     |nil=>intro vs j0 j u z;unfold QaB at z;exact nomatch z
     |cons b io ih=>
      intro vs j0 j u z
      cases vs with
      |nil=>cases b<;>(unfold QaB at z;exact nomatch z)
      |cons w vs=>
       cases b with
       |false=>unfold QaB at z;have:=ih z;omega
       |true=>
        unfold QaB at z
        rcases List.mem_cons.mp z with e | z
        ·cases e;exact Nat.le_refl _
        ·have:=ih z;omega
    exact this z
   cases i with
   |zero=>omega
   |succ i=>exact ⟨i,by omega,by simpa using q⟩
  unfold ioV
  cases s with
  |non=>unfold outs at h;cases h
  |frz _=>unfold outs at h;cases h
  |own _=>unfold outs at h;cases h
  |par o=>
   unfold outs at h
   obtain ⟨r',hr',rfl⟩:=Option.map_eq_some_iff.mp h
   have ev:v=_:=(Option.some.inj (Option.some.inj q0)).symm
   subst ev
   exact .cons o (Qci r hr' (by simpa using l) (hp' hp))
 |true :: _,_ :: _,os,_,_,_,_,j0,.nil,h,_,_=>by unfold outs at h;cases h
 |false :: _,_ :: _,os,_,_,_,_,j0,.nil,h,_,_=>by unfold outs at h;cases h
 |_ :: _,[],_,_,_,_,_,_,_,_,l,_=>by cases l
 | [],_ :: _,_,_,_,_,_,_,_,_,l,_=>by cases l
end
theorem fnT {P:Program}{w:World}{K:PySem.W.Frag}{mg:Str->Option Value}{base:Heap}{x qual:Str}{st:Stmt}{f:Addr}{fd:FuncData}{N ps:List Str}{k:Nat}{io:List Bool}{rk:Kd}{mb:MS}(Fn:Fun K x qual st f fd)(S:Qak N ps (Qac st))(hio:io.length=ps.length)(hrk:rk=.V\/rk=.O)
  (hbody:∀ (cdv:Value) (A:Around) (outer:List Env) (s:Shared) (H:Hp) (E:XK) (C:Cn),C.K=K->Room k (A.deeper (PyProof.Rows.envOfC qual (Qac st) s.heap.objs.size f cdv))->A.handled=none->
   PSs (Qd4 (CXe P w) P w K mg base N qual (Qac st) f cdv A outer s H E) (QcL st) (tS rk C (fun _=>E) mb)):FnOk P w K mg base (CXe P w) (k+1) f fd ps (spF K io rk (Qb6 io N.length mb)):=by
 refine Fn.okE S (fun vs H Q E h=>?_) (fun cdv A outer s H vs Q E hr hd h=>?_)
 ·obtain ⟨F,ds,fp,al,_⟩:=h
  rw [al.len,hio]
 ·obtain ⟨F,ds,fp,al,nd,ap,fh,h⟩:=h
  have hl:=al.len
  let C:Cn:=⟨K,H,F,fp,QaB 0 io vs⟩
  refine ⟨_,hbody cdv A outer s H E C rfl hr hd,?_⟩
  have est:L2.start N vs=vs.map some++List.replicate (N.length - io.length) none:=by unfold L2.start;rw [hl]
  have I:SI C F H (L2.start N vs) (QmQ io N.length ds) [] fp:=by
   rw [est]
   refine ⟨⟨[],fp,[],QdQ (N:=N) al,.nil,by simp,(fun _ z=>nomatch z),(fun _ z=>nomatch z),fun a ha=>.inl ha⟩,nd,ap,fh,Same.refl F,fun b o e=>.inl e,fun b o e _=>e,fun b e=>e,fun j v hj=>?_⟩
   obtain ⟨i,e,h1,d,h2⟩:=Qgp (r:=N.length - io.length) al hj
   have e':j=i:=by omega
   subst e'
   exact ⟨h1,d,h2⟩
  refine ⟨F,_,fp,I,?_⟩
  unfold Qb6 at h
  -- what is handed back
  have fin:∀ {os:List D} {ρ:Rho} {d:D} {F' H':Hp} {σ':L2.St} {fp':List Addr} {v:L2.V},outs io ρ=some os->SI C F' H' σ' ρ (rk.tk v d []) fp'->rk.fc C F' H' fp' σ' v d->(∀ F' H' v fr fo,Same F F'->Same F' H'->(∀ b o,F' b=some o->F b=some o\/Nw H b o)->(∀ b o,H b=some o->b∉fp->H' b=some o)->(∀ b,H' b=none->H b=none)->RkF rk K F' H' v d fr->OL K F' H' (ioV io vs) os fo->
    (fr++fo).Nodup->(∀ a∈fr++fo,F' a=none)->(∀ a∈fr,H a=none)->(∀ a∈fo,a∈fp\/H a=none)->Q v H')->Q v H':=fun {os ρ d F' H' σ' fp' v} eo J fc q=>by
   obtain ⟨f1,g1,t1,sl,ol,pm,w1,w2,w3⟩:=J.sl
   have og:=Qci (j0:=0) (vs:=vs) sl eo hl (fun j u hj=>⟨j,by omega,(J.pr j u hj).1⟩)
   have ndp:=pm.nodup_iff.mp J.nd
   have inn:∀ a,a∈f1\/a∈g1\/a∈t1->a∈fp':=fun a z=>pm.mem_iff.mpr (by simpa using z)
   rcases hrk with rfl | rfl
   ·exact q F' H' v [] g1 J.f0 J.fh J.fn J.kp J.dm ⟨fc,rfl⟩ og (List.nodup_append.mp (List.nodup_append.mp ndp).2.1).1 (fun a ha=>J.ap a (inn a (.inr (.inl ha)))) (fun _ z=>nomatch z) w3
   ·cases ol with
    | @cons _ _ _ _ ta tb oa ob=>
     cases ob
     have e1:ta++[]=ta:=List.append_nil ta
     refine q F' H' v ta g1 J.f0 J.fh J.fn J.kp J.dm oa og ?_ (fun a ha=>J.ap a (inn a (by rw [e1];exact (List.mem_append.mp ha).elim (fun z=>.inr (.inr z)) fun z=>.inr (.inl z)))) (fun a ha=>w2 a (by rw [e1];exact ha)) w3
     have n2:=(List.nodup_append.mp ndp).2.1
     rw [e1] at n2
     exact (List.perm_append_comm).nodup_iff.mp n2
  cases eb:mb (QmQ io N.length ds) with
  |no=>rw [eb] at h;exact h.elim
  |ex c ρ=>
   rw [eb] at h
   exact fun F' H' σ' fp' J=>h H' J.kp J.dm
  |ok q=>
   obtain ⟨fl,ρ⟩:=q
   rw [eb] at h
   cases fl with
   |bk=>exact h.elim
   |ct=>exact h.elim
   |nx=>
    dsimp only at h
    cases eo:outs io ρ with
    |none=>rw [eo] at h;exact h.elim
    |some os=>
     rw [eo] at h
     refine fun F' H' σ' fp' s' J=>?_
     rcases hrk with rfl | rfl
     ·exact fin (d:=.non) (v:=.non) eo J (.sc rfl) h
     ·exact fin (d:=.non) (v:=.non) eo (J.push (f:=[]) (.sc rfl) (fun _ z=>nomatch z) (fun _ z=>nomatch z) (by simpa using J.nd)) True.intro h
   |rt d=>
    dsimp only at h
    cases eo:outs io ρ with
    |none=>rw [eo] at h;exact h.elim
    |some os=>
     rw [eo] at h
     exact fun F' H' σ' fp' v s' J fc=>fin eo J fc h
inductive Cp where
 /-- the block's own name;a name of the def that is known;one that may be changed -/
 |me | fz (i:Nat) | io (i:Nat)
def Cp.ix:Cp->Option Nat
 |.me=>none
 |.fz i=>some i
 |.io i=>some i
def Cp.is:Cp->Option Nat
 |.io i=>some i
 |_=>none
def Qd3 (ρ:Rho):List Cp->List D->Option Rho
 | [],_=>some []
 |.me :: cs,di=>(Qd3 ρ cs di).map (none :: ·)
 |.fz i :: cs,di=>match ρ[i]? with
  |some (some (.frz d))=>(Qd3 ρ cs di).map (some (.frz d) :: ·)
  |some none=>(Qd3 ρ cs di).map (none :: ·)
  |_=>none
 |.io _ :: cs,d :: di=>(Qd3 ρ cs di).map (some (.par d) :: ·)
 |.io _ :: _,[]=>none
def ioB:List Cp->List Bool:=List.map fun c=>match c with
 |.io _=>true
 |_=>false
def Qdn (j:Nat)(tc:MT)(te:ME):List D->Rho->List D->Rs (List D × Rho)
 | [],ρ,acc=>.ok (acc,ρ)
 |d :: ds,ρ,acc=>(Rs.of (setF ρ j d)).bind fun ρ0=>(tc ρ0).bind fun c=>if c.1=true then (te c.2).bind fun r=>if acc.length<sizeLine then Qdn j tc te ds (r.2.set j none) (acc++[r.1]) else .no
  else Qdn j tc te ds (c.2.set j none) acc
def QbD (par:Bool)(cs:List Cp)(j:Nat)(mi:MA)(tc:MT)(te:ME):ME:=fun ρ=>(mi ρ).bind fun r=>(Rs.of (Qdl par r.2 (cs.filterMap Cp.is))).bind fun di=>(Rs.of (Qd3 r.2 cs di)).bind fun ρb=>
 match Qdn j tc te r.1 ρb [] with
 |.ok q=>(Rs.of (outs (ioB cs) q.2)).bind fun os=>.ok (.lst q.1,QcT par r.2 (cs.filterMap Cp.is) os)
 |_=>.no
abbrev EF:XE:=fun _ _ _ _=>False
theorem QdW {X:Cx}:Qd7 X EF:=fun pins σ H s e s' I h=>by
 obtain ⟨_,_,_,_,_,_,_,_,_,k⟩:=h
 exact k.elim
theorem Run.ef {C:Cn}{σ:L2.St}{α:Type}{r:Rs α}{a:α}{k:α->Prop}(e:r=.ok a)(h:k a):Run C EF σ r k:=by rw [e];exact h
section
variable {K:PySem.W.Frag}{F H:Hp}
theorem Qma:∀ {vs:List L2.V} {ds:List D} {f:List Addr},OL K F H vs ds f->∃ f',OL K F H vs.reverse ds.reverse f'/\f.Perm f'
 |_,_,_,.nil=>⟨[],.nil,.refl _⟩
 |_,_,_,.cons (f:=f) (g:=g) h r=>by
  obtain ⟨f',o,p⟩:=Qma r
  refine ⟨f'++(f++[]),by rw [List.reverse_cons,List.reverse_cons];exact o.app (.cons h .nil),?_⟩
  rw [List.append_nil]
  exact (List.perm_append_comm).trans (p.append_right f)
theorem Qih {α β:Type}:∀ {l:List α} {m:List β},l.length=m.length->(l.zip m).map (·.1)=l
 | [],[],_=>rfl
 | [],_ :: _,h=>by cases h
 |_ :: _,[],h=>by cases h
 |a :: l,b :: m,h=>by rw [List.zip_cons_cons,List.map_cons,Qih (by simpa using h)]
theorem Qig {α β:Type}:∀ {l:List α} {m:List β},l.length=m.length->(l.zip m).map (·.2)=m
 | [],[],_=>rfl
 | [],_ :: _,h=>by cases h
 |_ :: _,[],h=>by cases h
 |a :: l,b :: m,h=>by rw [List.zip_cons_cons,List.map_cons,Qig (by simpa using h)]
theorem Qfx {C:Cn}{σ:L2.St}{ρ:Rho}{τ:List (L2.V × D)}{fp:List Addr}(I:SI C F H σ ρ τ fp)(hK:C.K=K):∀ {cs:List Cp} {vi:List L2.V} {di:List D} {f:List Addr} {ρb:Rho},Sig σ (cs.filterMap Cp.is) vi->OL K F H vi di f->Qd3 ρ cs di=some ρb->SL K F H (Qax (cs.map Cp.ix) σ) ρb [] f
 | [],_,_,_,_,.nil,.nil,h=>by unfold Qd3 at h;cases h;exact .nil
 |.me :: cs,vi,di,f,ρb,sg,ol,h=>by
  unfold Qd3 at h
  obtain ⟨r,hr,rfl⟩:=Option.map_eq_some_iff.mp h
  exact .cons (f0:=[]) (g0:=[]) .non (Qfx I hK sg ol hr)
 |.fz i :: cs,vi,di,f,ρb,sg,ol,h=>by
  unfold Qd3 at h
  split at h
  ·next d e=>
   obtain ⟨r,hr,rfl⟩:=Option.map_eq_some_iff.mp h
   obtain ⟨x,f0,g0,rest,ex,s1,_⟩:=I.cut e
   cases s1 with
   | @frz v _ hd=>
    have e2:Qax ((Cp.fz i :: cs).map Cp.ix) σ=some v :: Qax (cs.map Cp.ix) σ:=by
     unfold Qax
     rw [List.map_cons,List.map_cons]
     show ((some i).bind fun i=>(σ[i]?).join) :: _=_
     rw [Option.bind_some,ex]
     rfl
    rw [e2]
    exact .cons (f0:=[]) (g0:=[]) (.frz (hK▸hd)) (Qfx I hK sg ol hr)
  ·obtain ⟨r,hr,rfl⟩:=Option.map_eq_some_iff.mp h
   exact .cons (f0:=[]) (g0:=[]) .non (Qfx I hK sg ol hr)
  ·cases h
 |.io i :: cs,_,_,_,ρb,.cons (v:=v) e sg,.cons o ol,h=>by
  unfold Qd3 at h
  obtain ⟨r,hr,rfl⟩:=Option.map_eq_some_iff.mp h
  have e2:Qax ((Cp.io i :: cs).map Cp.ix) σ=some v :: Qax (cs.map Cp.ix) σ:=by
   unfold Qax
   rw [List.map_cons,List.map_cons]
   show ((some i).bind fun i=>(σ[i]?).join) :: _=_
   rw [Option.bind_some,e]
   rfl
  rw [e2]
  exact .cons (f0:=[]) (.par o) (Qfx I hK sg ol hr)
def vsB:List Cp->List L2.V->List L2.V
 |.io _ :: cs,v :: vi=>v :: vsB cs vi
 |.io _ :: cs,[]=>.non :: vsB cs []
 |_ :: cs,vi=>.non :: vsB cs vi
 | [],_=>[]
theorem Qd2:∀ {cs:List Cp} {vi:List L2.V},(vsB cs vi).length=(ioB cs).length
 | [],_=>by unfold vsB;rfl
 |.me :: cs,vi=>by unfold vsB;rw [List.length_cons,Qd2];rfl
 |.fz i :: cs,vi=>by unfold vsB;rw [List.length_cons,Qd2];rfl
 |.io i :: cs,[]=>by unfold vsB;rw [List.length_cons,Qd2];rfl
 |.io i :: cs,v :: vi=>by unfold vsB;rw [List.length_cons,Qd2];rfl
theorem QeZ {σ:L2.St}:∀ {cs:List Cp} {vi:List L2.V},Sig σ (cs.filterMap Cp.is) vi->ioV (ioB cs) (vsB cs vi)=vi
 | [],_,.nil=>rfl
 |.me :: cs,vi,sg=>QeZ (cs:=cs) sg
 |.fz i :: cs,vi,sg=>QeZ (cs:=cs) sg
 |.io i :: cs,_,.cons e sg=>congrArg _ (QeZ (cs:=cs) sg)
theorem Qh6 {σ:L2.St}:∀ {cs:List Cp} {vi:List L2.V} {j0 j:Nat} {v:L2.V},Sig σ (cs.filterMap Cp.is) vi->(j,v)∈QaB j0 (ioB cs) (vsB cs vi)->∃ i,j=j0+i/\(Qax (cs.map Cp.ix) σ)[i]? = some (some v)
 | [],_,j0,j,v,.nil,h=>by
  have:(j,v)∈([]:List (Nat × L2.V)):=h
  exact nomatch this
 |.me :: cs,vi,j0,j,v,sg,h=>by
  obtain ⟨i,e,q⟩:=Qh6 (cs:=cs) (j0:=j0+1) sg h
  exact ⟨i+1,by omega,by unfold Qax at q ⊢;simpa using q⟩
 |.fz _ :: cs,vi,j0,j,v,sg,h=>by
  obtain ⟨i,e,q⟩:=Qh6 (cs:=cs) (j0:=j0+1) sg h
  exact ⟨i+1,by omega,by unfold Qax at q ⊢;simpa using q⟩
 |.io i0 :: cs,_,j0,j,v,.cons (v:=v0) e0 sg,h=>by
  rcases List.mem_cons.mp (show (j,v)∈(j0,v0) :: QaB (j0+1) (ioB cs) (vsB cs _) from h) with e | h
  ·cases e
   refine ⟨0,rfl,?_⟩
   unfold Qax
   rw [List.map_cons,List.map_cons]
   show some ((some i0).bind fun i=>(σ[i]?).join)=_
   rw [Option.bind_some,e0]
   rfl
  ·obtain ⟨i,e,q⟩:=Qh6 (cs:=cs) (j0:=j0+1) sg h
   exact ⟨i+1,by omega,by unfold Qax at q ⊢;simpa using q⟩
theorem Qew {σ:L2.St}{ρ:Rho}:∀ {cs:List Cp} {vi:List L2.V} {di:List D} {ρb:Rho} {j0 j:Nat} {v:L2.V},Qd3 ρ cs di=some ρb->(j,v)∈QaB j0 (ioB cs) (vsB cs vi)->∃ i,j=j0+i/\∃ d,ρb[i]? = some (some (.par d))
 | [],_,_,_,j0,j,v,_,h=>by
  have:(j,v)∈([]:List (Nat × L2.V)):=h
  exact nomatch this
 |.me :: cs,vi,di,ρb,j0,j,v,hc,h=>by
  unfold Qd3 at hc
  obtain ⟨r,hr,rfl⟩:=Option.map_eq_some_iff.mp hc
  obtain ⟨i,e,d,q⟩:=Qew (σ:=σ) (cs:=cs) (vi:=vi) (j0:=j0+1) hr h
  exact ⟨i+1,by omega,d,by simpa using q⟩
 |.fz i0 :: cs,vi,di,ρb,j0,j,v,hc,h=>by
  unfold Qd3 at hc
  split at hc
  ·obtain ⟨r,hr,rfl⟩:=Option.map_eq_some_iff.mp hc
   obtain ⟨i,e,d,q⟩:=Qew (σ:=σ) (cs:=cs) (vi:=vi) (j0:=j0+1) hr h
   exact ⟨i+1,by omega,d,by simpa using q⟩
  ·obtain ⟨r,hr,rfl⟩:=Option.map_eq_some_iff.mp hc
   obtain ⟨i,e,d,q⟩:=Qew (σ:=σ) (cs:=cs) (vi:=vi) (j0:=j0+1) hr h
   exact ⟨i+1,by omega,d,by simpa using q⟩
  ·cases hc
 |.io i0 :: cs,vi,[],ρb,j0,j,v,hc,h=>by unfold Qd3 at hc;cases hc
 |.io i0 :: cs,vi,d0 :: di,ρb,j0,j,v,hc,h=>by
  unfold Qd3 at hc
  obtain ⟨r,hr,rfl⟩:=Option.map_eq_some_iff.mp hc
  cases vi with
  |nil=>
   rcases List.mem_cons.mp (show (j,v)∈(j0,V.non) :: QaB (j0+1) (ioB cs) (vsB cs []) from h) with e | h
   ·cases e;exact ⟨0,rfl,d0,rfl⟩
   ·obtain ⟨i,e,d,q⟩:=Qew (σ:=σ) (cs:=cs) (vi:=[]) (j0:=j0+1) hr h
    exact ⟨i+1,by omega,d,by simpa using q⟩
  |cons v0 vi=>
   rcases List.mem_cons.mp (show (j,v)∈(j0,v0) :: QaB (j0+1) (ioB cs) (vsB cs vi) from h) with e | h
   ·cases e;exact ⟨0,rfl,d0,rfl⟩
   ·obtain ⟨i,e,d,q⟩:=Qew (σ:=σ) (cs:=cs) (vi:=vi) (j0:=j0+1) hr h
    exact ⟨i+1,by omega,d,by simpa using q⟩
end
section
variable {X:Cx}{C:Cn}{E:XE}{p pa pc pe:Bool}{m me:ME}{mt:MT}{mi:MA}{pos:Pos}{k rk:Kd}{elt iter:Expr}{x:Str}{px:Pos}{ifs:List Expr}{scope:Scope}{N:List Str}{cs:List Cp}{j:Nat}{par:Bool}
theorem SI.clr {F H:Hp}{σ:L2.St}{ρ:Rho}{τ:List (L2.V × D)}{fp:List Addr}{y:Option L2.V}{x:L2.V}(I:SI C F H (σ.set j y) ρ τ fp)(hj:σ[j]? = some none)(np:∀ v,(j,v)∉C.pars):∃ fp',SI C F H σ (ρ.set j none) τ fp':=by
 have lj:j<σ.length:=(List.getElem?_eq_some_iff.mp hj).1
 have lr:j<ρ.length:=by rw [← I.len,List.length_set];exact lj
 obtain ⟨z,f0,g0,rest,ez,s1,pm,w0,w1,cl⟩:=I.cut (i:=j) (s:=ρ[j]) (List.getElem?_eq_getElem lr)
 have nd:=pm.nodup_iff.mp I.nd
 have q:=cl (x':=none) (s':=none) (f0':=[]) (g0':=[]) (Same.refl F) I.fh (fun _ _=>rfl) (fun _ z=>z) (fun _ _ _ _ z=>z) (fun _ _ z=>.inl z) .non (List.nodup_append.mp (List.nodup_append.mp nd).2.1).2.1 (fun a ha=>I.ap a (pm.mem_iff.mpr (by simp at ha;simp [ha]))) (fun _ z=>nomatch z) (fun _ z=>nomatch z) (fun v hv=>(np v hv).elim)
 rw [List.set_set,Qbg hj] at q
 exact ⟨_,q⟩
def exT (K:PySem.W.Frag)(p:Bool)(m:MT):TT:=fun σ H Q=>∃ Cb:Cn,Cb.K=K/\tT Cb p EF m σ H Q
def exX (k:Kd)(K:PySem.W.Frag)(p:Bool)(m:ME):TE:=fun σ H Q=>∃ Cb:Cn,Cb.K=K/\tX k Cb p EF m σ H Q
def Qgu:MT:=fun ρ=>.ok (true,ρ)
theorem Qc7 {X:Cx}{K:PySem.W.Frag}:PIf X [] (exT K true Qgu):=fun pins s σ H Q I ⟨Cb,_,F,ρ,τ,fp,J,h⟩=>QpK pins s σ H Q I (h F H fp J .refl)
theorem QgY {X:Cx}{K:PySem.W.Frag}{c:Expr}(h:∀ Cb:Cn,Cb.K=K->PT X c (tT Cb p EF mt)):PIf X [c] (exT K p mt):=fun pins s σ H Q I ⟨Cb,hk,q⟩=>Qor (h Cb hk) pins s σ H Q I q
theorem Qdq {X:Cx}{K:PySem.W.Frag}{e:Expr}(h:∀ Cb:Cn,Cb.K=K->PE X e (tX k Cb p EF m)):PE X e (exX k K p m):=fun pins s σ H Q I ⟨Cb,hk,q⟩=>h Cb hk pins s σ H Q I q
theorem Qf5 (hK:C.K=X.K)(hj:cs[j]? = some .me)(nd:(cs.filterMap Cp.is).Nodup)(hp:p=true->cs.filterMap Cp.is=[]){σ:L2.St}{H:Hp}{Q:VK}(h:tX .O C (pa && p) E (QbD par cs j mi mt me) σ H Q):QpC (tI C pa E mi) (cs.map Cp.ix) j (exT X.K pc mt) (exX .O X.K pe me) σ H Q:=by
 obtain ⟨F,ρ,τ,fp,I,h⟩:=h
 refine ⟨F,ρ,τ,fp,I,h.split.mono fun r hr F1 H1 fp1 J I1 n1 it=>?_⟩
 obtain ⟨di,eg,h2⟩:=hr.split.of
 obtain ⟨ρb,eb,h3⟩:=h2.split.of
 obtain ⟨vi,f,rest,sg,ol,pm,w,cl⟩:=I1.lend nd eg
 have ndp:=pm.nodup_iff.mp I1.nd
 have inl:∀ a∈f,a∈fp1:=fun a ha=>pm.mem_iff.mpr (List.mem_append_left _ ha)
 have inr:∀ a∈rest,a∈fp1:=fun a ha=>pm.mem_iff.mpr (List.mem_append_right _ ha)
 have dis:∀ a∈rest,a∉f:=fun a ha hf=>(List.nodup_append.mp ndp).2.2 a hf a ha rfl
 cases ec:Qdn j mt me r.1 ρb [] with
 |no=>rw [ec] at h3;exact h3.elim
 |ex c q=>rw [ec] at h3;exact h3.elim
 |ok q=>
  obtain ⟨accF,ρF⟩:=q
  rw [ec] at h3
  obtain ⟨os,eo,h4⟩:=h3.split.of
  let Cb:Cn:=⟨X.K,H1,F1,f,QaB 0 (ioB cs) (vsB cs vi)⟩
  have IB:SI Cb F1 H1 (Qax (cs.map Cp.ix) σ) ρb [] f:=by
   refine ⟨⟨[],f,[],Qfx I1 hK sg (hK▸ol) eb,.nil,by simp,(fun _ z=>nomatch z),(fun _ z=>nomatch z),fun a ha=>.inl ha⟩,(List.nodup_append.mp ndp).1,fun a ha=>I1.ap a (inl a ha),I1.fh,Same.refl _,fun b o e=>.inl e,fun b o e _=>e,fun b e=>e,fun i v hi=>?_⟩
   obtain ⟨i1,e1,q1⟩:=Qh6 sg hi
   obtain ⟨i2,e2,d2,q2⟩:=Qew (σ:=σ) eb hi
   have:i1=i:=by omega
   subst this
   have:i2=i1:=by omega
   subst this
   exact ⟨q1,d2,q2⟩
  have hbj:(Qax (cs.map Cp.ix) σ)[j]? = some none:=by
   unfold Qax
   rw [List.getElem?_map,List.getElem?_map,hj]
   rfl
  have npj:∀ v,(j,v)∉Cb.pars:=fun v hv=>by
   obtain ⟨i1,e1,q1⟩:=Qh6 sg hv
   have:i1=j:=by omega
   subst this
   rw [hbj] at q1;cases q1
  refine ⟨fun i mm ys H'=>mm=r.1.length - i/\i<=r.1.length/\∃ F' ρ' acc fp',SI Cb F' H' (Qax (cs.map Cp.ix) σ) ρ' ((ys.zip acc).reverse) fp'/\ys.length=acc.length/\Same F1 F'/\Qdn j mt me (r.1.drop i) ρ' acc=.ok (accF,ρF),⟨r.1.length,by simp,Nat.zero_le _,F1,ρb,[],f,IB,rfl,Same.refl _,by rw [List.drop_zero];exact ec⟩,?_⟩
  rintro i mm ys H2 ⟨rfl,hi2,F2,ρ2,acc,fp2,I2,lya,s2,k2⟩
  by_cases hlt:i<r.1.length
  ·obtain ⟨d,ed⟩:∃ d,r.1[i]? = some d:=⟨r.1[i],List.getElem?_eq_getElem hlt⟩
   obtain ⟨g1,g2⟩:=it.go (C:=Cb) hK.symm I2 s2 ed
   have edr:r.1.drop i=d :: r.1.drop (i+1):=by
    rw [List.drop_eq_getElem_cons hlt]
    have:r.1[i]=d:=by rw [List.getElem?_eq_getElem hlt] at ed;exact Option.some.inj ed
    rw [this]
   rw [edr] at k2
   unfold Qdn at k2
   cases es:setF ρ2 j d with
   |none=>rw [es] at k2;cases k2
   |some ρ3=>
    rw [es] at k2
    change (mt ρ3).bind _=_ at k2
    refine .inr ⟨g1,fun ys' H'=>∃ F' ρ' acc fp',SI Cb F' H' (Qax (cs.map Cp.ix) σ) ρ' ((ys'.zip acc).reverse) fp'/\ys'.length=acc.length/\Same F1 F'/\Qdn j mt me (r.1.drop (i+1)) ρ' acc=.ok (accF,ρF),fun ys' H' z=>⟨_,by omega,rfl,hlt,z⟩,fun x0 H' y=>?_⟩
    obtain ⟨F3,I3,n3,r3⟩:=g2 x0 H' y
    have s3:Same F1 F3:=s2.trans n3.f
    obtain ⟨fp4,I4,_⟩:=SI.setF I3 (show R X.K F3 x0 d by rw [← hK];exact r3) es
    cases et:mt ρ3 with
    |no=>rw [et] at k2;cases k2
    |ex c q=>rw [et] at k2;cases k2
    |ok q=>
     obtain ⟨c,ρ5⟩:=q
     rw [et] at k2
     change (if c=true then _ else _)=_ at k2
     refine ⟨Cb,rfl,F3,ρ3,_,fp4,I4,Run.ef et fun F5 H5 fp5 I5 n5=>?_⟩
     have s5:Same F1 F5:=s3.trans n5.f
     change (if c=true then _ else _)
     by_cases hc:c=true
     ·rw [if_pos hc] at k2 ⊢
      cases ee:me ρ5 with
      |no=>rw [ee] at k2;cases k2
      |ex c q=>rw [ee] at k2;cases k2
      |ok q=>
       obtain ⟨d6,ρ6⟩:=q
       rw [ee] at k2
       change (if acc.length<sizeLine then _ else _)=_ at k2
       refine ⟨Cb,rfl,F5,ρ5,_,fp5,I5,Run.ef ee fun F6 H6 fp6 v6 I6 n6 _=>?_⟩
       by_cases hz:acc.length<sizeLine
       ·rw [if_pos hz] at k2
        refine ⟨by rw [lya];exact hz,?_⟩
        obtain ⟨fp7,I7⟩:=SI.clr (x:=x0) I6 hbj npj
        refine ⟨F6,_,acc++[d6],fp7,?_,by simp [lya],s5.trans n6.f,k2⟩
        have ez:((ys++[v6]).zip (acc++[d6])).reverse=(v6,d6) :: (ys.zip acc).reverse:=by
         rw [List.zip_append lya,List.reverse_append]
         rfl
        rw [ez]
        exact I7
       ·rw [if_neg hz] at k2;cases k2
     ·rw [if_neg hc] at k2 ⊢
      obtain ⟨fp7,I7⟩:=SI.clr (x:=x0) I5 hbj npj
      exact ⟨F5,_,acc,fp7,I7,lya,s5,k2⟩
  ·have e:i=r.1.length:=by omega
   subst e
   rw [List.drop_length] at k2
   unfold Qdn at k2
   cases k2
   refine .inl ⟨it.stop (C:=Cb) hK.symm I2 s2,fun Dd hD=>?_⟩
   obtain ⟨f1,g1,t1,sl,ot,pm2,w1,w2,w3⟩:=I2.sl
   have og:=Qci (j0:=0) (vs:=vsB cs vi) sl eo Qd2 (fun i u hi=>⟨i,by omega,(I2.pr i u hi).1⟩)
   rw [QeZ sg] at og
   have ot':OL Cb.K F2 H2 ys.reverse accF.reverse t1:=by
    have e1:((ys.zip accF).reverse).map (·.1)=ys.reverse:=by rw [List.map_reverse,Qih lya]
    have e2:((ys.zip accF).reverse).map (·.2)=accF.reverse:=by rw [List.map_reverse,Qig lya]
    rw [e1,e2] at ot
    exact ot
   obtain ⟨t2,oy,pt⟩:=Qma ot'
   rw [List.reverse_reverse,List.reverse_reverse] at oy
   have ndp2:=pm2.nodup_iff.mp I2.nd
   have inn:∀ a,a∈f1\/a∈g1\/a∈t1->a∈fp2:=fun a z=>pm2.mem_iff.mpr (by simpa using z)
   have some2:∀ a∈fp2,H2 a≠none:=fun a ha z=>by
    obtain ⟨o,e,_⟩:=I2.mem a ha
    rw [z] at e;cases e
   have some1:∀ a∈fp1,H1 a≠none:=fun a ha z=>by
    obtain ⟨o,e,_⟩:=I1.mem a ha
    rw [z] at e;cases e
   have nD:∀ a,H2 a≠none->a≠Dd:=fun a h z=>h (z▸hD)
   have hkeep:∀ b o,H1 b=some o->b∉f->H2 b=some o:=fun b o e n=>I2.kp b o e n
   have H1D:H1 Dd=none:=I2.dm Dd hD
   have fD:F2 Dd=none:=I2.fh.free hD
   have sH:Same H2 (upd H2 Dd (.lst ys)):=Same.upd hD
   have og':OL C.K F2 (upd H2 Dd (.lst ys)) vi os g1:=by
    rw [hK]
    exact og.keep (Same.refl _) fun a ha=>Qag (nD a (some2 a (inn a (.inr (.inl ha)))))
   have oy':OL C.K F2 (upd H2 Dd (.lst ys)) ys accF t2:=by
    rw [hK]
    exact oy.keep (Same.refl _) fun a ha=>Qag (nD a (some2 a (inn a (.inr (.inr (pt.mem_iff.mpr ha))))))
   have disg:∀ a,(a∈g1\/a∈t1)->a∉rest:=fun a z hr=>by
    rcases z with z | z
    ·rcases w3 a z with y | y
     ·exact dis a hr y
     ·exact some1 a (inr a hr) y
    ·exact some1 a (inr a hr) (w2 a z)
   have ndg:g1.Nodup:=(List.nodup_append.mp (List.nodup_append.mp ndp2).2.1).1
   have ndt:t2.Nodup:=pt.nodup_iff.mp (List.nodup_append.mp (List.nodup_append.mp ndp2).2.1).2.1
   have disgt:∀ a∈g1,a∉t2:=fun a ha hb=>(List.nodup_append.mp (List.nodup_append.mp ndp2).2.1).2.2 a ha a (pt.mem_iff.mpr hb) rfl
   have apr:∀ a∈rest,F2 a=none:=fun a ha=>by
    cases e:F2 a with
    |none=>rfl
    |some o=>
     rcases I2.fn a o e with z | z
     ·exact absurd (show F1 a=some o from z) (by rw [I1.ap a (inr a ha)];simp)
     ·obtain ⟨o2,e2,m2⟩:=I1.mem a (inr a ha)
      exact (z.not (show Cb.H₀ a≠none from some1 a (inr a ha)) (I2.fh a o e) (hkeep a o2 e2 (dis a ha)) m2).elim
   have JJ:=cl (F':=F2) (H':=upd H2 Dd (.lst ys)) s2 (I2.fh.trans sH) (fun a ha=>by
    obtain ⟨o,e,_⟩:=I1.mem a (inr a ha)
    rw [e]
    exact sH a o (hkeep a o e (dis a ha))) (fun b e=>I2.dm b (sH.free e)) (fun b o e n z=>sH b o (hkeep b o z fun hb=>by
     rcases w b hb with y | y
     ·rw [y] at e;cases e
     ·exact n y.2)) (fun b o e=>(I2.fn b o e).imp id fun z=>z.up fun y=>I1.dm b y) og' (List.nodup_append.mpr ⟨ndg,(List.nodup_append.mp ndp).2.1,fun a ha b hb z=>disg a (.inl ha) (z▸hb)⟩) (fun a ha=>(List.mem_append.mp ha).elim (fun z=>I2.ap a (inn a (.inr (.inl z)))) (apr a)) (fun a ha=>(w3 a ha).elim (w a) fun z=>.inl (I1.dm a z))
   have ndall:((Dd :: t2)++(g1++rest)).Nodup:=by
    refine List.nodup_append.mpr ⟨List.nodup_cons.mpr ⟨fun z=>some2 Dd (inn Dd (.inr (.inr (pt.mem_iff.mpr z)))) hD,ndt⟩,JJ.nd,fun a ha b hb z=>?_⟩
    subst z
    rcases List.mem_cons.mp ha with rfl | ha
    ·rcases List.mem_append.mp hb with y | y
     ·exact some2 _ (inn _ (.inr (.inl y))) hD
     ·exact some1 _ (inr _ y) H1D
    ·rcases List.mem_append.mp hb with y | y
     ·exact disgt a y ha
     ·exact disg a (.inr (pt.mem_iff.mpr ha)) y
   refine h4 F2 _ _ (.ref Dd) (JJ.push (.mt (t:=.lst) (show upd H2 Dd (.lst ys) Dd=some (.lst ys) from Qap) oy') (fun a ha=>?_) (fun a ha=>?_) ndall) (n1.trans (q:=p) ⟨s2,fun hpp b o e=>?_⟩) True.intro
   ·rcases List.mem_cons.mp ha with rfl | ha
    ·exact I1.dm _ H1D
    ·exact I1.dm a (w2 a (pt.mem_iff.mpr ha))
   ·rcases List.mem_cons.mp ha with rfl | ha
    ·exact fD
    ·exact I2.ap a (inn a (.inr (.inr (pt.mem_iff.mpr ha))))
   ·have ef0:f=[]:=by
     rw [hp hpp] at sg
     cases sg
     cases ol
     rfl
    subst ef0
    by_cases hb:b∈fp1
    ·have hb':b∈rest:=by simpa using pm.mem_iff.mp hb
     rw [QbY hb] at e
     rw [QbY (List.mem_append_right _ (List.mem_append_right _ hb'))]
     exact sH b o (hkeep b o e (by simp))
    ·rw [QaY hb] at e
     have e2:=s2 b o e
     rw [QaY]
     ·exact e2
     ·intro hm
      rcases List.mem_append.mp hm with y | y
      ·rcases List.mem_cons.mp y with rfl | y
       ·rw [fD] at e2;cases e2
       ·rw [I2.ap b (inn b (.inr (.inr (pt.mem_iff.mpr y))))] at e2;cases e2
      ·rcases List.mem_append.mp y with y | y
       ·rw [I2.ap b (inn b (.inr (.inl y)))] at e2;cases e2
       ·rw [I1.ap b (inr b y)] at e;cases e
theorem Qb3 (hK:C.K=X.K)(hc:X.calm=true)(B:Blk X scope N (cs.map Cp.ix))(hjN:N[j]? = some x)(hj:cs[j]? = some .me)(hx:scope.names.lookup x=some .local)(hi:PI X (.Name x px) iter (tI C pa E mi))
  (ht:∀ pins c s H ex,PIf (X.blk scope N pins c s H ex) ifs (exT X.K pc mt)) (he:∀ pins c s H ex,PE (X.blk scope N pins c s H ex) elt (exX .O X.K pe me)) (nd:(cs.filterMap Cp.is).Nodup:=by decide) (hp:p=true->cs.filterMap Cp.is=[]:=by decide)
  (hs:∀ x,foldedSetIterable iter X.env x=pure x:=by intro _;rfl):PE X (.ListComp elt [⟨.Name x px,iter,ifs,0⟩] scope pos) (tX .O C (pa && p) E (QbD par cs j mi mt me)):=
 Qan (QoG hc B hjN (by rw [List.getElem?_map,hj];rfl) hx hi ht he hs) fun _ _ _ h=>Qf5 hK hj nd hp h
theorem QrG {y:Str}{py spos:Pos}{i0:Nat}(hK:C.K=X.K)(hc:X.calm=true)(hXN:X.N.Nodup)(hi0:X.N[i0]? = some y)(hy:Loc X.env.scope y)(B:Blk X scope N (cs.map Cp.ix))(hjN:N[j]? = some x)(hj:cs[j]? = some .me)(hx:scope.names.lookup x=some .local)(hi:PI X (.Name x px) iter (tI C pa E mi))
  (ht:∀ pins c s H ex,PIf (X.blk scope N pins c s H ex) ifs (exT X.K pc mt)) (he:∀ pins c s H ex,PE (X.blk scope N pins c s H ex) elt (exX .O X.K pe me)) (nd:(cs.filterMap Cp.is).Nodup:=by decide)
  (hsw:swapsWith (.ListComp elt [⟨.Name x px,iter,ifs,0⟩] scope pos) (some (.Name y py)) spos.line X.env=pure true:=by rfl)
  (hf:X.fn y=true\/X.env.scope.names.lookup y=some .local:=by first | exact .inl rfl | exact .inr rfl | assumption)
  (hs:∀ x,foldedSetIterable iter X.env x=pure x:=by intro _;rfl):PS X (.Assign [.Name y py] (.ListComp elt [⟨.Name x px,iter,ifs,0⟩] scope pos) spos) (tS rk C E (Qct i0 (QbD par cs j mi mt me))):=
 Qa2 (Ql4 hc hXN hi0 hy B hjN (by rw [List.getElem?_map,hj];rfl) hx hi ht he hsw hf hs) fun D σ H h=>by
  have q:=QkN (p:=pa && false) h
  exact Qf5 (p:=false) hK hj nd (fun z=>nomatch z) q
end
instance {i j:Int}:Decidable (CMul i j):=by unfold CMul;infer_instance
instance {i j:Int}:Decidable (QnT i j):=by unfold QnT;infer_instance
instance {i j:Int}:Decidable (Qgn i j):=by unfold Qgn;infer_instance
def gI0 (f:Int->Int->D):D->D->Option D
 |.int i,.int j=>some (f i j)
 |_,_=>none
def gIc (c:Int->Int->Prop)[∀ i j,Decidable (c i j)](f:Int->Int->D):D->D->Option D
 |.int i,.int j=>if c i j then some (f i j) else none
 |_,_=>none
section
variable {K:PySem.W.Frag}
theorem Qhw {f:Int->Int->D}{g:Int->Int->V}(h:∀ i j,(f i j).sc=some (g i j)):OpD K (rI0 g) (gI0 f):=fun H v u d e res r q eg=>by
 unfold gI0 at eg
 split at eg
 ·next i j=>
  cases eg
  obtain rfl:=r.det_sc (w:=.int i) rfl
  obtain rfl:=q.det_sc (w:=.int j) rfl
  exact ⟨_,h i j,fun Q hq=>⟨i,j,rfl,rfl,hq⟩⟩
 ·cases eg
theorem Qmo {c:Int->Int->Prop}[∀ i j,Decidable (c i j)]{f:Int->Int->D}{g:Int->Int->V}(h:∀ i j,(f i j).sc=some (g i j)):OpD K (rI c g) (gIc c f):=fun H v u d e res r q eg=>by
 unfold gIc at eg
 split at eg
 ·next i j=>
  by_cases cc:c i j
  ·rw [if_pos cc] at eg;cases eg
   obtain rfl:=r.det_sc (w:=.int i) rfl
   obtain rfl:=q.det_sc (w:=.int j) rfl
   exact ⟨_,h i j,fun Q hq=>⟨i,j,rfl,rfl,cc,hq⟩⟩
  ·rw [if_neg cc] at eg;cases eg
 ·cases eg
def Qep:=gI0 fun i j=>.int (i+j)
def QiY:=gI0 fun i j=>.int (i - j)
def QhQ:=gIc CMul fun i j=>.int (i * j)
def QqG:=gIc Qgn fun i j=>.int (i / j)
def Qjf:=gIc (fun _ j=>0<j) fun i j=>.int (i % j)
def Qo3:=gIc QnT fun i j=>.int (i ^ j.toNat)
def gLt:=gI0 fun i j=>.bl (decide (i<j))
def gLe:=gI0 fun i j=>.bl (decide (i<=j))
def gGt:=gI0 fun i j=>.bl (decide (j<i))
def gGe:=gI0 fun i j=>.bl (decide (j<=i))
theorem Qfj:OpD K (rI0 fun i j=>.int (i+j)) Qep:=Qhw fun _ _=>rfl
theorem Qpd:OpD K (rI0 fun i j=>.int (i - j)) QiY:=Qhw fun _ _=>rfl
theorem Qlo:OpD K (rI CMul fun i j=>.int (i * j)) QhQ:=Qmo fun _ _=>rfl
theorem QsQ:OpD K (rI Qgn fun i j=>.int (i / j)) QqG:=Qmo fun _ _=>rfl
theorem QnO:OpD K (rI (fun _ j=>0<j) fun i j=>.int (i % j)) Qjf:=Qmo fun _ _=>rfl
theorem Qrw:OpD K (rI QnT fun i j=>.int (i ^ j.toNat)) Qo3:=Qmo fun _ _=>rfl
theorem dLt:OpD K (rI0 fun i j=>.bl (decide (i<j))) gLt:=Qhw fun _ _=>rfl
theorem dLe:OpD K (rI0 fun i j=>.bl (decide (i<=j))) gLe:=Qhw fun _ _=>rfl
theorem dGt:OpD K (rI0 fun i j=>.bl (decide (j<i))) gGt:=Qhw fun _ _=>rfl
end
def Qgt (f:D->D->Option Bool):List D->List D->Option Bool
 |x :: xs,y :: ys=>(f x y).bind fun a=>(Qgt f xs ys).map fun b=>a && b
 |_,_=>some true
def eqS (x y:V):Option Bool:=if (QpQ x y && Qf7 x && Qf7 y)=true then some (decide (x=y)) else none
def Qth (f:D->D->Option Bool):D->D->Option Bool
 |.nd .lst xs,.nd .lst ys=>if xs.length=ys.length then Qgt f xs ys else some false
 |.nd .tup xs,.nd .tup ys=>if xs.length=ys.length then Qgt f xs ys else (Qgt f xs ys).map fun _=>false
 |d,e=>d.sc.bind fun x=>e.sc.bind fun y=>eqS x y
def eqb:Nat->D->D->Option Bool
 |0=>fun _ _=>none
 |n+1=>Qth (eqb n)
theorem QfP {n:Nat}{d e:D}{b:Bool}(h:eqb (n+1) d e=some b) :
  (∃ xs ys,d=.nd .lst xs/\e=.nd .lst ys/\((xs.length=ys.length/\Qgt (eqb n) xs ys=some b)\/(xs.length≠ys.length/\b=false)))\/
  (∃ xs ys c,d=.nd .tup xs/\e=.nd .tup ys/\Qgt (eqb n) xs ys=some c/\b=(c && xs.length == ys.length))\/
  (∃ x y,d.sc=some x/\e.sc=some y/\eqS x y=some b):=by
 replace h:Qth (eqb n) d e=some b:=h
 unfold Qth at h
 split at h
 ·next xs ys=>
  left
  refine ⟨xs,ys,rfl,rfl,?_⟩
  by_cases c:xs.length=ys.length
  ·rw [if_pos c] at h;exact .inl ⟨c,h⟩
  ·rw [if_neg c] at h;cases h;exact .inr ⟨c,rfl⟩
 ·next xs ys=>
  right;left
  by_cases c:xs.length=ys.length
  ·rw [if_pos c] at h;exact ⟨xs,ys,b,rfl,rfl,h,by simp [c]⟩
  ·rw [if_neg c] at h
   obtain ⟨c',h1,h2⟩:=Option.map_eq_some_iff.mp h
   exact ⟨xs,ys,c',rfl,rfl,h1,by simp [c,h2.symm]⟩
 ·right;right
  obtain ⟨x,h1,h2⟩:=Option.bind_eq_some_iff.mp h
  obtain ⟨y,h3,h4⟩:=Option.bind_eq_some_iff.mp h2
  exact ⟨x,y,h1,h3,h4⟩
theorem Qi6 {f:D->D->Option Bool}:∀ {xs ys:List D} {b:Bool},Qgt f xs ys=some b->∃ e:Nat->Bool,(∀ j x y,xs[j]? = some x->ys[j]? = some y->f x y=some (e j))/\(List.range (min xs.length ys.length)).all e=b
 | [],ys,b,h=>by
  unfold Qgt at h;cases h
  exact ⟨fun _=>true,fun j x y h=>by simp at h,by simp⟩
 |x :: xs,[],b,h=>by
  unfold Qgt at h;cases h
  exact ⟨fun _=>true,fun j x y _ h=>by simp at h,by simp⟩
 |x :: xs,y :: ys,b,h=>by
  unfold Qgt at h
  obtain ⟨a,h1,h2⟩:=Option.bind_eq_some_iff.mp h
  obtain ⟨c,h3,rfl⟩:=Option.map_eq_some_iff.mp h2
  obtain ⟨e,k1,k2⟩:=Qi6 h3
  refine ⟨fun j=>match j with | 0=>a | j+1=>e j,fun j x' y' hx hy=>?_,?_⟩
  ·cases j with
   |zero=>simp at hx hy;subst hx hy;exact h1
   |succ j=>exact k1 j x' y' (by simpa using hx) (by simpa using hy)
  ·have em:min (x :: xs).length (y :: ys).length=min xs.length ys.length+1:=by simp
   rw [em,List.range_succ_eq_map,List.all_cons,List.all_map,← k2]
   rfl
theorem RL.getV {K:PySem.W.Frag}{F:Hp}:∀ {vs:List L2.V} {ds:List D} {i:Nat} {v:L2.V},RL K F vs ds->vs[i]? = some v->∃ d,ds[i]? = some d/\R K F v d
 |_,_,_,_,.nil,e=>by simp at e
 |_,_,0,d,.cons h r,e=>by simp at e;subst e;exact ⟨_,rfl,h⟩
 |_,_,i+1,d,.cons h r,e=>by
  obtain ⟨v,h1,h2⟩:=RL.getV (i:=i) r (by simpa using e)
  exact ⟨v,by simpa using h1,h2⟩
theorem QmA {x y:V}{b:Bool}(h:eqS x y=some b):QpQ x y=true/\Qf7 x=true/\Qf7 y=true/\b=decide (x=y)/\eqV x y=decide (x=y):=by
 unfold eqS at h
 by_cases c:(QpQ x y && Qf7 x && Qf7 y)=true
 ·rw [if_pos c] at h;cases h
  have c0:=c
  rw [Bool.and_eq_true,Bool.and_eq_true] at c
  refine ⟨c.1.1,c.1.2,c.2,rfl,?_⟩
  cases x<;>cases y<;>first
   |rfl
   |(rw [Qif];rfl)
   |(rw [Ql3];rfl)
   |(rw [QhP];rfl)
   |(simp only [QpQ,Qf7] at c;exact absurd c (by simp))
   |(simp [eqV];done)
 ·rw [if_neg c] at h;cases h
section
variable {X:Cx}{pins:List (Addr × Obj)}{σ:L2.St}{H:Hp}{s:Shared}
theorem QfJ (I:Inv X pins σ H s):∀ {n:Nat} {v:L2.V} {d e:D} {b:Bool},R X.K H v d->R X.K H v e->eqb n d e=some b->b=true
 |0,_,_,_,_,_,_,h=>by cases h
 |n+1,v,d,e,b,r,q,h=>by
  have key:∀ {vs:List L2.V} {xs ys:List D} {c:Bool},RL X.K H vs xs->RL X.K H vs ys->Qgt (eqb n) xs ys=some c->c=true:=by
   intro vs
   induction vs with
   |nil=>intro xs ys c h1 h2 h3;cases h1;cases h2;unfold Qgt at h3;cases h3;rfl
   |cons v vs ih=>
    intro xs ys c h1 h2 h3
    cases h1 with
    |cons a1 b1=>
     cases h2 with
     |cons a2 b2=>
      unfold Qgt at h3
      obtain ⟨a,e1,e2⟩:=Option.bind_eq_some_iff.mp h3
      obtain ⟨c',e3,rfl⟩:=Option.map_eq_some_iff.mp e2
      rw [QfJ I a1 a2 e1,ih b1 b2 e3]
      rfl
  rcases QfP h with ⟨xs,ys,rfl,rfl,hh⟩ | ⟨xs,ys,c,rfl,rfl,hh,rfl⟩ | ⟨x,y,hx,hy,hh⟩
  ·obtain ⟨a,vs,rfl,a1,l1⟩:=r.inv
   obtain ⟨a',vs',e',a2,l2⟩:=q.inv
   cases e'
   have ev:=I.list_inj a1.sql a2.sql
   subst ev
   rcases hh with ⟨_,hh⟩ | ⟨hh,_⟩
   ·exact key l1 l2 hh
   ·exact absurd (by rw [← l1.length,← l2.length]) hh
  ·obtain ⟨a,vs,rfl,a1,l1⟩:=r.inv
   obtain ⟨a',vs',e',a2,l2⟩:=q.inv
   cases e'
   have ev:=I.tuple_inj a1.sqt a2.sqt
   subst ev
   rw [key l1 l2 hh]
   simp [← l1.length,← l2.length]
  ·obtain ⟨_,_,_,rfl,_⟩:=QmA hh
   have e1:=r.det_sc hx
   have e2:=q.det_sc hy
   exact decide_eq_true (e1.symm.trans e2)
theorem Qfv (I:Inv X pins σ H s){n:Nat}{A:Around}(hu:A.units<cLine)(cmp:∀ {v u:L2.V} {d e:D} {b:Bool} {p q:Value},R X.K H v d->R X.K H u e->RelV v p->RelV u q->eqb n d e=some b->SeqAt.EqAt A.in1 s p q b){a a':Addr}{vs us:List L2.V}{xs ys:List D}(l1:RL X.K H vs xs)(l2:RL X.K H us ys){c:Bool}(h:Qgt (eqb n) xs ys=some c) :
  (SqL X.K H a vs->SqL X.K H a' us->xs.length=ys.length->SeqAt.RcAt A s (.ref a) (.ref a') c/\SeqAt.RcNeAt A s (.ref a) (.ref a') (!c))/\(SqT X.K H a vs->SqT X.K H a' us->SeqAt.RcAt A s (.ref a) (.ref a') (c && xs.length == ys.length)/\SeqAt.RcNeAt A s (.ref a) (.ref a') (!(c && xs.length == ys.length))):=by
 obtain ⟨e,k1,k2⟩:=Qi6 h
 have key:∀ {its its2:List Value},Vals vs its->Vals us its2->∀ j (h1:j<its.toArray.size) (h2:j<its2.toArray.size),SeqAt.EqAt A.in1 s its.toArray[j] its2.toArray[j] (e j):=fun {its its2} rv rv2 j h1 h2=>by
  rw [List.size_toArray] at h1 h2
  have z1:=rv.length
  have z2:=rv2.length
  obtain ⟨v,hv⟩:∃ v,vs[j]? = some v:=⟨vs[j]'(by omega),List.getElem?_eq_getElem _⟩
  obtain ⟨w,hw⟩:∃ v,us[j]? = some v:=⟨us[j]'(by omega),List.getElem?_eq_getElem _⟩
  obtain ⟨p,hp,rp⟩:=rv.get hv
  obtain ⟨q,hq,rq⟩:=rv2.get hw
  obtain ⟨x,hx,rx⟩:=l1.getV hv
  obtain ⟨y,hy,ry⟩:=l2.getV hw
  have q1:its.toArray[j]=p:=by
   rw [List.getElem?_eq_getElem h1] at hp
   simpa using Option.some.inj hp
  have q2:its2.toArray[j]=q:=by
   rw [List.getElem?_eq_getElem h2] at hq
   simpa using Option.some.inj hq
  rw [q1,q2]
  exact cmp rx ry rp rq (k1 j x y hx hy)
 have e1:=l1.length
 have e2:=l2.length
 refine ⟨fun a1 a2 hl=>?_,fun a1 a2=>?_⟩
 ·obtain ⟨its,rv,p,_⟩:=I.list a1
  obtain ⟨its2,rv2,p2,_⟩:=I.list a2
  have z1:=rv.length
  have z2:=rv2.length
  have es:its.toArray.size=its2.toArray.size:=by rw [List.size_toArray,List.size_toArray];omega
  have ec:(List.range its.toArray.size).all e=c:=by
   rw [← k2,List.size_toArray,← z1,e1]
   congr 2
   omega
  rw [← ec]
  exact ⟨SeqAt.RcAt.lists p.isList p2.isList es hu (key rv rv2),SeqAt.RcNeAt.lists p.isList p2.isList es hu (key rv rv2)⟩
 ·obtain ⟨its,rv,p,_⟩:=I.tuple a1
  obtain ⟨its2,rv2,p2,_⟩:=I.tuple a2
  have z1:=rv.length
  have z2:=rv2.length
  have ec:((List.range (min its.toArray.size its2.toArray.size)).all e && its.toArray.size == its2.toArray.size)=(c && xs.length == ys.length):=by
   rw [← k2,List.size_toArray,List.size_toArray,← z1,← z2,e1,e2]
  rw [← ec]
  exact ⟨SeqAt.RcAt.tuples p p2 hu (key rv rv2),SeqAt.RcNeAt.tuples p p2 hu (key rv rv2)⟩
theorem QlY (I:Inv X pins σ H s){A:Around}(hu:A.units<cLine){a a':Addr}{vs us:List L2.V}(a1:SqL X.K H a vs)(a2:SqL X.K H a' us)(hl:vs.length≠us.length):SeqAt.RcAt A s (.ref a) (.ref a') false/\SeqAt.RcNeAt A s (.ref a) (.ref a') true:=by
 obtain ⟨its,rv,p,_⟩:=I.list a1
 obtain ⟨its2,rv2,p2,_⟩:=I.list a2
 have z1:=rv.length
 have z2:=rv2.length
 have es:(its.toArray.size != its2.toArray.size)=true:=by rw [List.size_toArray,List.size_toArray];simp;omega
 exact ⟨SeqAt.RcAt.lists_lengths p.isList p2.isList es hu,SeqAt.RcNeAt.lists_lengths p.isList p2.isList es hu⟩
theorem QjE (I:Inv X pins σ H s):∀ {n:Nat} {A:Around},A.units+n<cLine->∀ {v u:L2.V} {d e:D} {b:Bool} {p q:Value},R X.K H v d->R X.K H u e->RelV v p->RelV u q->eqb n d e=some b->SeqAt.EqAt A s p q b
 |0,_,_,_,_,_,_,_,_,_,_,_,_,_,h=>by cases h
 |n+1,A,hu,v,u,d,e,b,p,q,r,r',rp,rq,h=>by
  have hA:A.in1.units+n<cLine:=by show A.units+1+n<cLine;omega
  have hu':A.units<cLine:=by omega
  rcases QfP h with ⟨xs,ys,rfl,rfl,hh⟩ | ⟨xs,ys,c,rfl,rfl,hh,rfl⟩ | ⟨x,y,hx,hy,hh⟩
  ·obtain ⟨a,vs,rfl,a1,l1⟩:=r.inv
   obtain ⟨a',us,rfl,a2,l2⟩:=r'.inv
   cases rp;cases rq
   by_cases ea:a=a'
   ·subst ea
    rw [QfJ I r r' h]
    exact SeqAt.EqAt.same _
   ·refine SeqAt.EqAt.of_refs ea ?_
    rcases hh with ⟨hl,hh⟩ | ⟨hl,rfl⟩
    ·exact ((Qfv I hu' (fun r1 r2 p1 p2 e1=>QjE I hA r1 r2 p1 p2 e1) l1 l2 hh).1 a1.sql a2.sql hl).1
    ·exact (QlY I hu' a1.sql a2.sql (by rw [l1.length,l2.length];exact hl)).1
  ·obtain ⟨a,vs,rfl,a1,l1⟩:=r.inv
   obtain ⟨a',us,rfl,a2,l2⟩:=r'.inv
   cases rp;cases rq
   by_cases ea:a=a'
   ·subst ea
    rw [QfJ I r r' h]
    exact SeqAt.EqAt.same _
   ·exact SeqAt.EqAt.of_refs ea ((Qfv I hu' (fun r1 r2 p1 p2 e1=>QjE I hA r1 r2 p1 p2 e1) l1 l2 hh).2 a1.sqt a2.sqt).1
  ·obtain ⟨_,f1,f2,rfl,ev⟩:=QmA hh
   obtain rfl:=r.det_sc hx
   obtain rfl:=r'.det_sc hy
   rw [← ev]
   exact QrC rp rq f1 f2
end
def QpL (K:PySem.W.Frag)(n:Nat)(f:Bool->Bool):R2:=fun x y H Q=>∃ d e b,R K H x d/\R K H y e/\eqb n d e=some b/\Q (.bl (f b)) H
section
variable {X:Cx}
theorem Qcq {n:Nat}(hu:X.A.units+n<cLine):OpR X (compareOp .Eq) (QpL X.K n id):=by
 intro pins s σ H x y v u Q I rx ry h
 obtain ⟨d,e,b,r,r',he,q⟩:=h
 cases n with
 |zero=>cases he
 |succ n=>
  have hA:X.A.in1.units+n<cLine:=by show X.A.units+1+n<cLine;omega
  have hu':X.A.units<cLine:=by omega
  rcases QfP he with ⟨xs,ys,rfl,rfl,hh⟩ | ⟨xs,ys,c,rfl,rfl,hh,rfl⟩ | ⟨x',y',hx,hy,hh⟩
  ·obtain ⟨a,vs,rfl,a1,l1⟩:=r.inv
   obtain ⟨a',us,rfl,a2,l2⟩:=r'.inv
   cases rx;cases ry
   rcases hh with ⟨hl,hh⟩ | ⟨hl,rfl⟩
   ·exact ((Qfv I hu' (fun r1 r2 p1 p2 e1=>QjE I hA r1 r2 p1 p2 e1) l1 l2 hh).1 a1.sql a2.sql hl).1 _ _ _ _ ⟨.bl _,H,I,rfl,q⟩
   ·exact (QlY I hu' a1.sql a2.sql (by rw [l1.length,l2.length];exact hl)).1 _ _ _ _ ⟨.bl _,H,I,rfl,q⟩
  ·obtain ⟨a,vs,rfl,a1,l1⟩:=r.inv
   obtain ⟨a',us,rfl,a2,l2⟩:=r'.inv
   cases rx;cases ry
   exact ((Qfv I hu' (fun r1 r2 p1 p2 e1=>QjE I hA r1 r2 p1 p2 e1) l1 l2 hh).2 a1.sqt a2.sqt).1 _ _ _ _ ⟨.bl _,H,I,rfl,q⟩
  ·obtain ⟨sc,f1,f2,rfl,ev⟩:=QmA hh
   obtain rfl:=r.det_sc hx
   obtain rfl:=r'.det_sc hy
   exact Qtu pins s σ H x y v u Q I rx ry ⟨sc,q⟩
theorem Qfp {n:Nat}(hu:X.A.units+n<cLine):OpR X (compareOp .NotEq) (QpL X.K n not):=by
 intro pins s σ H x y v u Q I rx ry h
 obtain ⟨d,e,b,r,r',he,q⟩:=h
 cases n with
 |zero=>cases he
 |succ n=>
  have hA:X.A.in1.units+n<cLine:=by show X.A.units+1+n<cLine;omega
  have hu':X.A.units<cLine:=by omega
  rcases QfP he with ⟨xs,ys,rfl,rfl,hh⟩ | ⟨xs,ys,c,rfl,rfl,hh,rfl⟩ | ⟨x',y',hx,hy,hh⟩
  ·obtain ⟨a,vs,rfl,a1,l1⟩:=r.inv
   obtain ⟨a',us,rfl,a2,l2⟩:=r'.inv
   cases rx;cases ry
   rcases hh with ⟨hl,hh⟩ | ⟨hl,rfl⟩
   ·exact ((Qfv I hu' (fun r1 r2 p1 p2 e1=>QjE I hA r1 r2 p1 p2 e1) l1 l2 hh).1 a1.sql a2.sql hl).2 _ _ _ _ ⟨.bl _,H,I,rfl,q⟩
   ·exact (QlY I hu' a1.sql a2.sql (by rw [l1.length,l2.length];exact hl)).2 _ _ _ _ ⟨.bl _,H,I,rfl,q⟩
  ·obtain ⟨a,vs,rfl,a1,l1⟩:=r.inv
   obtain ⟨a',us,rfl,a2,l2⟩:=r'.inv
   cases rx;cases ry
   exact ((Qfv I hu' (fun r1 r2 p1 p2 e1=>QjE I hA r1 r2 p1 p2 e1) l1 l2 hh).2 a1.sqt a2.sqt).2 _ _ _ _ ⟨.bl _,H,I,rfl,q⟩
  ·obtain ⟨sc,f1,f2,rfl,ev⟩:=QmA hh
   obtain rfl:=r.det_sc hx
   obtain rfl:=r'.det_sc hy
   exact Qtj pins s σ H x y v u Q I rx ry ⟨sc,q⟩
def inL (f:D->D->Option Bool)(x:D):List D->Option Bool
 | []=>some false
 |y :: ys=>(f y x).bind fun a=>(inL f x ys).map fun b=>a || b
def inb (n:Nat):D->D->Option Bool
 |x,.nd .lst ys=>inL (eqb n) x ys
 |x,.nd .tup ys=>inL (eqb n) x ys
 |_,_=>none
end
def gEq (d e:D):Option D:=(eqb 30 d e).map .bl
def gNe (d e:D):Option D:=(eqb 30 d e).map fun b=>.bl (!b)
def gIn (d e:D):Option D:=(inb 30 d e).map .bl
section
variable {K:PySem.W.Frag}
theorem dEq:OpD K (QpL K 30 id) gEq:=fun H v u d e res r q eg=>by
 obtain ⟨b,hb,rfl⟩:=Option.map_eq_some_iff.mp eg
 exact ⟨_,rfl,fun Q hq=>⟨d,e,b,r,q,hb,hq⟩⟩
theorem dNe:OpD K (QpL K 30 not) gNe:=fun H v u d e res r q eg=>by
 obtain ⟨b,hb,rfl⟩:=Option.map_eq_some_iff.mp eg
 exact ⟨_,rfl,fun Q hq=>⟨d,e,b,r,q,hb,hq⟩⟩
end
end TL
namespace TL
open PySem PySem.Spec L2
section
variable {X:Cx}{C:Cn}{E:XE}{p pa pb pc:Bool}{e a b c:Expr}{es:List Expr}{m ma mb mc:ME}{mr:MA}{pos:Pos}{k ka kb kc:Kd}{ks:List Kd}
def Qun:D->Option D
 |.int i=>some (.int (-i))
 |_=>none
def mUn (g:D->Option D)(m:ME):ME:=fun ρ=>(m ρ).bind fun r=>Rs.of ((g r.1).map fun d=>(d,r.2))
def Qfy (g g':D->D->Option D)(ma mb mc:ME):ME:=fun ρ=>(ma ρ).bind fun r1=>(mb r1.2).bind fun r2=>(Rs.of ((g r1.1 r2.1).bind asB)).bind fun q=>if q=true then (mc r2.2).bind fun r3=>Rs.of ((g' r2.1 r3.1).map fun d=>(d,r3.2)) else .ok (.bl false,r2.2)
theorem Qkc {r r':R2}{g g':D->D->Option D}(hg:OpD C.K r g)(hg':OpD C.K r' g')(ok:ka.on pb=true)(ok2:kb.on pc=true)(ok2':kb.on true=true)(ok3:kc.on true=true){σ:L2.St}{H:Hp}{Q:VK}(h:tX .V C (pa && (pb && pc)) E (Qfy g g' ma mb mc) σ H Q):Qnj r r' (tX ka C pa E ma) (tX kb C pb E mb) (tX kc C pc E mc) σ H Q:=by
 obtain ⟨F,ρ,τ,fp,I,h⟩:=h
 refine ⟨F,ρ,τ,fp,I,h.split.mono fun r1 h1 F1 H1 fp1 v1 I1 n1 f1=>?_⟩
 rw [Kd.tk_on ok] at I1
 refine ⟨F1,r1.2,τ,fp1,I1,h1.split.mono fun r2 h2 F2 H2 fp2 v2 I2 n2 f2=>?_⟩
 rw [Kd.tk_on ok2'] at I2
 obtain ⟨q,eq,h3⟩:=h2.split.of
 obtain ⟨d,eg,eb⟩:=Option.bind_eq_some_iff.mp eq
 obtain ⟨w,ew,hw⟩:=hg H2 v1 v2 _ _ _ (R.top I2 (Kd.stay ok f1 n2 I2)) (R.top I2 (Kd.stay ok2' f2 .refl I2)) eg
 rw [Qk4 eb] at ew
 cases ew
 refine hw _ ⟨q,rfl,?_⟩
 by_cases c:q=true
 ·rw [if_pos c] at h3 ⊢
  refine ⟨F2,r2.2,τ,fp2,I2,h3.split.mono fun r3 h4 F3 H3 fp3 v3 I3 n3 f3=>?_⟩
  rw [Kd.tk_on ok3] at I3
  obtain ⟨z,ez,h5⟩:=h4.of
  obtain ⟨res,eg',rfl⟩:=Option.map_eq_some_iff.mp ez
  obtain ⟨w',ew',hw'⟩:=hg' H3 v2 v3 _ _ _ (R.top I3 (Kd.stay ok2 f2 n3 I3)) (R.top I3 (Kd.stay ok3 f3 .refl I3)) eg'
  exact hw' _ (h5 F3 H3 fp3 w' I3 (n1.trans (n2.trans n3)) (.sc ew'))
 ·rw [if_neg c] at h3 ⊢
  exact h3 F2 H2 fp2 _ I2 ((n1.trans n2).weak fun z=>by cases pa<;>cases pb<;>cases pc<;>simp_all) (.sc rfl)
theorem QlT {op op':CmpOp}{r r':R2}{g g':D->D->Option D}(ho:OpR X (compareOp op) r)(ho':OpR X (compareOp op') r')(hg:OpD C.K r g)(hg':OpD C.K r' g')(ha:PE X a (tX ka C pa E ma))(hb:PE X b (tX kb C pb E mb))(hc:PE X c (tX kc C pc E mc))(ok:ka.on pb=true:=by rfl)(ok2:kb.on pc=true:=by rfl)(ok2':kb.on true=true:=by rfl)(ok3:kc.on true=true:=by rfl)
  (hm:lastMarks [op,op'] [b,c]=false:=by with_unfolding_all rfl):PE X (.Compare a [op,op'] [b,c] pos) (tX .V C (pa && (pb && pc)) E (Qfy g g' ma mb mc)):=Qan (Qm7 ho ho' ha hb hc hm) fun _ _ _ h=>Qkc hg hg' ok ok2 ok2' ok3 h
def Qcl:List D->Option D
 | [.nd .lst ds]=>some (.int ds.length)
 | [.nd .tup ds]=>some (.int ds.length)
 | [.str s]=>if s.length<=sizeLine then some (.int s.length) else none
 |_=>none
theorem QgW (hK:C.K=X.K):QeO C.K (fun xs H Q=>∃ x n,xs=[x]/\Quf X.K x H n/\Q (.int (n:Nat)) H) Qcl:=fun H vs ds res r eg=>by
 unfold Qcl at eg
 split at eg
 ·obtain ⟨v,rfl,h⟩:=r.one
  obtain ⟨a,us,rfl,h1,h2⟩:=h.inv
  cases eg
  exact ⟨_,rfl,fun Q hq=>⟨.ref a,_,rfl,.inl ⟨us,hK▸h1.sql,h2.length.symm⟩,hq⟩⟩
 ·obtain ⟨v,rfl,h⟩:=r.one
  obtain ⟨a,us,rfl,h1,h2⟩:=h.inv
  cases eg
  exact ⟨_,rfl,fun Q hq=>⟨.ref a,_,rfl,.inr ⟨us,hK▸h1.sqt,h2.length.symm⟩,hq⟩⟩
 ·next s=>
  obtain ⟨v,rfl,h⟩:=r.one
  obtain rfl:=h.det_sc (w:=.str s) rfl
  by_cases c:s.length<=sizeLine
  ·rw [if_pos c] at eg;cases eg
   exact ⟨_,rfl,fun Q hq=>⟨.str s,_,rfl,⟨c,rfl⟩,hq⟩⟩
  ·rw [if_neg c] at eg;cases eg
 ·cases eg
def gI2 (f:Int->Int->Int):List D->Option D
 | [.int i,.int j]=>some (.int (f i j))
 |_=>none
def QpS:=gI2 fun i j=>if j > i then j else i
def QtY:=gI2 fun i j=>if j<i then j else i
theorem dI2 {K:PySem.W.Frag}{f:Int->Int->Int}:QeO K (fun xs H Q=>∃ i j,xs=[.int i,.int j]/\Q (.int (f i j)) H) (gI2 f):=fun H vs ds res r eg=>by
 unfold gI2 at eg
 split at eg
 ·next i j=>
  cases eg
  obtain ⟨v,u,rfl,h1,h2⟩:=r.two
  obtain rfl:=h1.det_sc (w:=.int i) rfl
  obtain rfl:=h2.det_sc (w:=.int j) rfl
  exact ⟨_,rfl,fun Q hq=>⟨i,j,rfl,hq⟩⟩
 ·cases eg
def QnP:List D->Option (List Bool)
 | []=>some []
 |.bl b :: ds=>(QnP ds).map (b :: ·)
 |_=>none
def Qrb:List D->Option D
 | [.nd .lst ds]=>(QnP ds).map fun bs=>.bl (bs.all fun b=>b)
 |_=>none
theorem Qi7 {K:PySem.W.Frag}{H:Hp}:∀ {vs:List L2.V} {ds:List D} {bs:List Bool},RL K H vs ds->QnP ds=some bs->vs=bs.map V.bl
 |_,_,_,.nil,e=>by unfold QnP at e;cases e;rfl
 |_,_,_,.cons (d:=d) h r,e=>by
  cases d with
  |bl b=>
   unfold QnP at e
   obtain ⟨bs,h1,rfl⟩:=Option.map_eq_some_iff.mp e
   rw [Qi7 r h1,h.det_sc (w:=.bl b) rfl]
   rfl
  |_=>cases e
theorem Quj (hK:C.K=X.K):QeO C.K (fun xs H Q=>∃ (p:Addr) (bs:List Bool),xs=[.ref p]/\SqL X.K H p (bs.map V.bl)/\Q (.bl (bs.all fun b=>b)) H) Qrb:=fun H vs ds res r eg=>by
 unfold Qrb at eg
 split at eg
 ·obtain ⟨v,rfl,h⟩:=r.one
  obtain ⟨a,us,rfl,h1,h2⟩:=h.inv
  obtain ⟨bs,hb,rfl⟩:=Option.map_eq_some_iff.mp eg
  exact ⟨_,rfl,fun Q hq=>⟨a,bs,rfl,by rw [← Qi7 h2 hb];exact hK▸h1.sql,hq⟩⟩
 ·cases eg
theorem QmB:bootBuiltins "all" = some (.builtin "all"):=by decide +kernel
theorem Qc9:bootBuiltins "max" = some (.builtin "max"):=by decide +kernel
theorem QeX:bootBuiltins "min" = some (.builtin "min"):=by decide +kernel
theorem Qgc:bootBuiltins "isinstance" = some (.builtin "isinstance"):=by decide +kernel
theorem Qev:bootBuiltins "int" = some (.type "int"):=by decide +kernel
theorem Qjo:bootBuiltins "bool" = some (.type "bool"):=by decide +kernel
inductive Ty where
 |non | bool | int | str | list | tuple | dict
 deriving DecidableEq
def Ty.nm:Ty->String
 |.non => "NoneType" |.bool => "bool" |.int => "int" |.str => "str" |.list => "list" |.tuple => "tuple" |.dict => "dict"
def Ty.of:D->Option Ty
 |.int _=>some .int | .bl _=>some .bool | .non=>some .non | .str _=>some .str | .ty _=>none | .cls _=>none
 |.nd .lst _=>some .list | .nd .tup _=>some .tuple | .nd (.dT _) _=>some .dict | .nd (.dK _) _=>some .dict | .nd (.ins _ _) _=>none | .nd (.exc _) _=>none
def Ty.sub (t u:Ty):Bool:=t == u || (t == .bool && u == .int)
def Ty.byName (c:String):Option Ty:=if c = "int" then some .int else if c = "bool" then some .bool else if c = "str" then some .str else if c = "list" then some .list else if c = "tuple" then some .tuple else if c = "dict" then some .dict else none
theorem Qho {c:String}{u:Ty}(h:Ty.byName c=some u):c=u.nm/\u≠.non:=by
 unfold Ty.byName at h
 repeat' split at h
 all_goals first | (cases h;subst_vars;exact ⟨rfl,by decide⟩) | cases h
theorem Qlu (K:PySem.W.Frag)(t u:Ty)(hu:u≠.non):PySem.W.kitOne K (.type t.nm) (.type u.nm)=some (t.sub u):=by
 cases t<;>cases u<;>first | exact absurd rfl hu | with_unfolding_all rfl
def Qp1 (d:D)(c:String):Option Bool:=(Ty.of d).bind fun t=>(Ty.byName c).map fun u=>t.sub u
def QrE:List D->Option (List String)
 | []=>some []
 |.ty c :: r=>(QrE r).map (c :: ·)
 |_=>none
def Qhy (d:D):List String->Option Bool
 | []=>some false
 |c :: r=>(Qp1 d c).bind fun b=>if b=true then some true else Qhy d r
def Qpc:List D->Option D
 | [d,.ty c]=>(Qp1 d c).map .bl
 | [d,.nd .tup ts]=>(QrE ts).bind fun cs=>((Ty.of d).bind fun _=>Qhy d cs).map .bl
 |_=>none
theorem QlR {pins:List (Addr × Obj)}{σ:L2.St}{H:Hp}{s:Shared}{x:L2.V}{u:Value}{d:D}{t:Ty}(I:Inv X pins σ H s)(rx:RelV x u)(r:R X.K H x d)(ht:Ty.of d=some t):∃ Z:Heap->Prop,PySem.W.KitX X.K u (.type t.nm) Z/\Z s.heap/\u≠.builtin "__main__.__loader__#opaque" := by
 cases d with
 |int i=>cases ht;obtain rfl:=r.det_sc (w:=.int i) rfl;exact Qfi I rx (.int i)
 |bl b=>cases ht;obtain rfl:=r.det_sc (w:=.bl b) rfl;exact Qfi I rx (.bl b)
 |non=>cases ht;obtain rfl:=r.det_sc (w:=.non) rfl;exact Qfi I rx .non
 |str z=>cases ht;obtain rfl:=r.det_sc (w:=.str z) rfl;exact Qfi I rx (.str z)
 |ty n=>cases ht
 |cls n=>cases ht
 |nd tg ds=>
  obtain ⟨a,vs,rfl,h1,h2⟩:=r.inv
  cases (show u=Value.ref a from rx)
  cases tg with
  |lst=>
   cases ht
   obtain ⟨its,_,pl,_⟩:=I.list h1.sql
   obtain ⟨o,n,e,c,_,_⟩:=pl
   exact ⟨_,PySem.W.kitx_list,⟨o,e,c⟩,fun z=>nomatch z⟩
  |tup=>
   cases ht
   obtain ⟨its,_,pl,_⟩:=I.tuple h1.sqt
   obtain ⟨o,e,c,_⟩:=pl
   exact ⟨_,PySem.W.kitx_tuple,⟨o,e,c⟩,fun z=>nomatch z⟩
  |ins _ _=>cases ht
  |exc _=>cases ht
  |dT ks=>cases ht;exact Qfi I (show RelV (.ref a) (.ref a) from rfl) (.dT h1.2)
  |dK ks=>cases ht;exact Qfi I (show RelV (.ref a) (.ref a) from rfl) (.dK h1.2)
theorem QgN {K:PySem.W.Frag}{d:D}{t:Ty}(ht:Ty.of d=some t):∀ {cs:List String} {b:Bool},Qhy d cs=some b->PySem.W.kitAny K (.type t.nm) (cs.map Value.type)=some b
 | [],b,h=>by unfold Qhy at h;cases h;rfl
 |c :: r,b,h=>by
  unfold Qhy at h
  obtain ⟨b1,h1,h2⟩:=Option.bind_eq_some_iff.mp h
  unfold Qp1 at h1
  rw [ht] at h1
  obtain ⟨u,hu,rfl⟩:=Option.map_eq_some_iff.mp h1
  obtain ⟨rfl,hn⟩:=Qho hu
  have hk:=Qlu K t u hn
  show (match PySem.W.kitOne K (.type t.nm) (.type u.nm) with | some true=>some true | some false=>PySem.W.kitAny K (.type t.nm) (r.map Value.type) | none=>none)=some b
  rw [hk]
  by_cases cc:t.sub u=true
  ·rw [if_pos cc] at h2;cases h2
   rw [cc]
  ·rw [if_neg cc] at h2
   rw [show t.sub u=false by simpa using cc]
   exact QgN ht h2
theorem Qk7 {K:PySem.W.Frag}{H:Hp}:∀ {vs:List L2.V} {ts:List D} {cs:List String},RL K H vs ts->QrE ts=some cs->vs=cs.map V.ty
 |_,_,_,.nil,e=>by unfold QrE at e;cases e;rfl
 |_,_,_,.cons (d:=d) h r,e=>by
  cases d with
  |ty b=>
   unfold QrE at e
   obtain ⟨bs,h1,rfl⟩:=Option.map_eq_some_iff.mp e
   rw [Qk7 r h1,h.det_sc (w:=.ty b) rfl]
   rfl
  |_=>cases e
def Qqr (K:PySem.W.Frag):List L2.V->Hp->VK->Prop:=fun xs H Q=>∃ ds b,RL K H xs ds/\Qpc ds=some (.bl b)/\Q (.bl b) H
theorem Qof {d:D}{c:String}{b:Bool}(h:Qp1 d c=some b):∃ t u,Ty.of d=some t/\Ty.byName c=some u/\b=t.sub u:=by
 unfold Qp1 at h
 obtain ⟨t,h1,h2⟩:=Option.bind_eq_some_iff.mp h
 obtain ⟨u,h3,rfl⟩:=Option.map_eq_some_iff.mp h2
 exact ⟨t,u,h1,h3,rfl⟩
theorem Qe0:Qcm X (.builtin "isinstance") (Qqr X.K):=by
 intro pins s σ H xs us Q I r h
 obtain ⟨ds,b,rl,hg,q⟩:=h
 unfold Qpc at hg
 split at hg
 ·next d c=>
  obtain ⟨b',hb,e⟩:=Option.map_eq_some_iff.mp hg
  cases e
  obtain ⟨t,u,h1,h2,rfl⟩:=Qof hb
  obtain ⟨x,y,rfl,rx,ry⟩:=rl.two
  obtain rfl:=ry.det_sc (w:=.ty c) rfl
  obtain ⟨p,w',rfl,ru,rc⟩:=Vals.two r
  cases rc
  obtain ⟨Z,k,z,ne⟩:=QlR I ru rx h1
  obtain ⟨rfl,hn⟩:=Qho h2
  exact PySem.W.kia_one k I.kIn z (Qlu _ t u hn) ne fun tk=>⟨.bl _,H,I.tok tk,rfl,q⟩
 ·next d ts=>
  obtain ⟨cs,hc,hg⟩:=Option.bind_eq_some_iff.mp hg
  obtain ⟨b',hb,e⟩:=Option.map_eq_some_iff.mp hg
  cases e
  obtain ⟨x,y,rfl,rx,ry⟩:=rl.two
  obtain ⟨a,vs,rfl,h1,h2⟩:=ry.inv
  obtain ⟨p,w',rfl,ru,rc⟩:=Vals.two r
  cases rc
  have ev:=Qk7 h2 hc
  subst ev
  obtain ⟨its,rv,pl,_⟩:=I.tuple h1.sqt
  obtain ⟨⟨cls,dd,data,sl⟩,g1,g2,n,g3⟩:=pl
  have e2:=Qj4 rv
  subst e2
  simp only at g2 g3
  subst g2 g3
  cases ht:Ty.of d with
  |none=>rw [ht] at hb;cases hb
  |some t=>
   rw [ht] at hb
   obtain ⟨Z,k,z,ne⟩:=QlR I ru rx ht
   exact PySem.W.kia_tup k I.kIn z g1 (QgN ht hb) ne fun tk=>⟨.bl _,H,I.tok tk,rfl,q⟩
 ·cases hg
theorem QtA (hK:C.K=X.K):QeO C.K (Qqr X.K) Qpc:=fun H vs ds res r eg=>by
 have e:∃ b,res=.bl b:=by
  unfold Qpc at eg
  split at eg
  ·obtain ⟨b,_,rfl⟩:=Option.map_eq_some_iff.mp eg;exact ⟨b,rfl⟩
  ·obtain ⟨cs,_,eg⟩:=Option.bind_eq_some_iff.mp eg
   obtain ⟨b,_,rfl⟩:=Option.map_eq_some_iff.mp eg;exact ⟨b,rfl⟩
  ·cases eg
 obtain ⟨b,rfl⟩:=e
 exact ⟨_,rfl,fun Q hq=>⟨ds,b,hK▸r,eg,hq⟩⟩
def QcF (ds:List D):List D:=ds.zipIdx.map fun x=>.tup [.int (x.2:Nat),x.1]
theorem QiE {K:PySem.W.Frag}{F:Hp}{a:Addr}{kd:Bool}{vs:List L2.V}{ds:List D}(h:At K F a (if kd then .lst else .tup) vs)(r:RL K F vs ds):ItD K F (QcF ds) (Itq kd K a):=by
 have up:∀ {F' H:Hp},Same F F'->Same F' H->SqB kd K H a vs:=fun s1 s2=>by
  cases kd with
  |true=>exact (At.same (t:=.lst) h (s1.trans s2)).sql
  |false=>exact (At.same (t:=.tup) h (s1.trans s2)).sqt
 have get:∀ {i:Nat} {d:D},(QcF ds)[i]? = some d->∃ x,ds[i]? = some x/\d=.tup [.int (i:Nat),x]:=fun {i d} e=>by
  unfold QcF at e
  rw [List.getElem?_map] at e
  obtain ⟨q,hq,rfl⟩:=Option.map_eq_some_iff.mp e
  rw [List.getElem?_zipIdx] at hq
  obtain ⟨x,hx,rfl⟩:=Option.map_eq_some_iff.mp hq
  exact ⟨x,hx,by simp⟩
 refine ⟨fun {C F' H σ ρ τ fp i d} hk I s e=>?_,fun {C F' H σ ρ τ fp} hk I s=>?_⟩
 ·obtain ⟨x,hx,rfl⟩:=get e
  obtain ⟨v,ev,rv⟩:=r.get hx
  have q:=up s I.fh
  have fin:∀ {T:Addr} {y:L2.V},H T=none->y=v->∃ F'',SI C F'' (upd H T (.tup [.int (i:Nat),y])) σ ρ τ fp/\Nx true F' H fp F'' (upd H T (.tup [.int (i:Nat),y])) fp/\R K F'' (.ref T) (.tup [.int (i:Nat),x]):=fun {T y} hT ey=>by
   subst ey
   have s2:=Same.upd (o:=HO.tup [.int (i:Nat),y]) (I.fh.free hT)
   exact ⟨_,I.lay hT,⟨s2,fun _=>Qhp I hT⟩,.nd (t:=.tup) Qap (.cons (.sc rfl) (.cons (rv.same (s.trans s2)) .nil))⟩
  cases kd with
  |true=>exact ⟨⟨vs,v,q,ev⟩,fun x0 H' ⟨T,y,hT,e1,e2,e3⟩=>by
    subst e1 e2
    have z:=e3 vs q
    rw [ev] at z
    exact fin hT (Option.some.inj z).symm⟩
  |false=>exact ⟨⟨vs,v,q,ev⟩,fun x0 H' ⟨T,y,hT,e1,e2,e3⟩=>by
    subst e1 e2
    have z:=e3 vs q
    rw [ev] at z
    exact fin hT (Option.some.inj z).symm⟩
 ·have q:=up s I.fh
  have l:=r.length
  have l2:(QcF ds).length=ds.length:=by unfold QcF;rw [List.length_map,List.length_zipIdx]
  cases kd with
  |true=>exact ⟨vs,q,by omega⟩
  |false=>exact ⟨vs,q,by omega⟩
def Qps (mr:MA):MA:=fun ρ=>(mr ρ).bind fun r=>(Rs.of (Qjx r.1)).bind fun ds=>.ok (QcF ds,r.2)
theorem Qn7 {es:List Expr}{k0:Nat}{tp px:Pos}(hm:X.mg "enumerate" = none)(hK:C.K=X.K)(ha:PA X [e] (tA ks C p E mr))(ok:knL ks=true:=by rfl)(hg:Gl X "enumerate" := by rfl)(hs:starEach [e] X.env=(false,eval e X.env) :: starEach [] X.env:=by rfl)(hpl:(backTo pos (starEach [] X.env)).any (·.1)=false:=by rfl) :
  PI X (.Tuple es k0 tp) (.Call (.Name "enumerate" px) [e] [] pos) (tI C p E (Qps mr)):=QhZ (Qmi hg hm ha hs hpl) fun σ H RR ⟨F,ρ,τ,fp,I,h⟩=>by
 refine ⟨F,ρ,τ,fp,I,h.split.mono fun r hr F1 H1 fp1 vs I1 n1 f1=>?_⟩
 rw [QbT (Qde ok)] at I1
 obtain ⟨ds,eg,h2⟩:=hr.split.of
 obtain ⟨q,us,rfl,hs,rl⟩:=QiC (f1.kn ok) eg
 rcases hs with hs | hs
 ·refine ⟨q,true,rfl,⟨us,by rw [← hK];exact (At.same hs I1.fh).sql⟩,h2 F1 H1 fp1 _ I1 n1 ?_⟩
  rw [← hK]
  exact QiE (kd:=true) hs rl
 ·refine ⟨q,false,rfl,⟨us,by rw [← hK];exact (At.same hs I1.fh).sqt⟩,h2 F1 H1 fp1 _ I1 n1 ?_⟩
  rw [← hK]
  exact QiE (kd:=false) hs rl
end
def Qdp (ρ:Rho)(i:Nat):Option (Bool × List D):=match ρ[i]? with
 |some (some (.own (.nd .lst ds)))=>some (false,ds)
 |some (some (.par (.nd .lst ds)))=>some (true,ds)
 |_=>none
theorem QbR {ρ:Rho}{i:Nat}{q:Bool × List D}(h:Qdp ρ i=some q):ρ[i]? = some (some (mkS q.1 (.lst q.2))):=by
 unfold Qdp at h
 split at h
 ·next e=>cases h;exact e
 ·next e=>cases h;exact e
 ·cases h
section
variable {K:PySem.W.Frag}{F H:Hp}
theorem OL.snoc {vs:List L2.V}{ds:List D}{f g:List Addr}{v:L2.V}{d:D}(o:OL K F H vs ds f)(h:O K F H v d g):OL K F H (vs++[v]) (ds++[d]) (f++g):=by
 have q:=o.app (.cons h .nil)
 rw [List.append_nil] at q
 exact q
theorem OL.setAt:∀ {vs:List L2.V} {ds:List D} {f:List Addr} {j:Nat},OL K F H vs ds f->j<ds.length->∃ f1 fj f2 v d,f=f1++(fj++f2)/\vs[j]? = some v/\ds[j]? = some d/\O K F H v d fj/\∀ {F' H':Hp} {v':L2.V} {d':D} {g:List Addr},Same F F'->(∀ a∈f1++f2,H' a=H a)->O K F' H' v' d' g->OL K F' H' (vs.set j v') (ds.set j d') (f1++(g++f2))
 |_,_,_,j,.nil,h=>by simp at h
 |_,_,_,0,.cons (f:=f) (g:=g) a r,_=>⟨[],f,g,_,_,rfl,rfl,rfl,a,fun {F' H' v' d' g'} sf k o=>by
  show OL K F' H' (_ :: _) (_ :: _) (g'++g)
  exact .cons o (r.keep sf k)⟩
 |_,_,_,j+1,.cons (f:=f) (g:=g) a r,h=>by
  obtain ⟨f1,fj,f2,v,d,rfl,e1,e2,o,k⟩:=OL.setAt r (j:=j) (by simpa using h)
  refine ⟨f++f1,fj,f2,v,d,by simp [List.append_assoc],by simpa using e1,by simpa using e2,o,fun {F' H' v' d' g'} sf kk o'=>?_⟩
  have q:=OL.cons (a.keep sf fun b hb=>kk b (by simp [hb])) (k sf (fun b hb=>kk b (by simp at hb ⊢;rcases hb with z | z<;>simp [z])) o')
  simpa [List.append_assoc] using q
theorem O.lstInv {v:L2.V}{ds:List D}{f:List Addr}(o:O K F H v (.nd .lst ds) f):∃ a vs g,v=.ref a/\f=a :: g/\H a=some (.lst vs)/\OL K F H vs ds g:=by
 cases o with
 |sc e=>cases e
 |im m h r=>cases m
 |mt h r=>exact ⟨_,_,_,rfl,rfl,h,r⟩
end
section
variable {X:Cx}{C:Cn}{E:XE}{p pa pb:Bool}{e a b:Expr}{es:List Expr}{m mi:ME}{pos:Pos}{kb rk:Kd}{ks:List Kd}
theorem SI.relist {F H:Hp}{σ:L2.St}{ρ:Rho}{τ:List (L2.V × D)}{fp:List Addr}{i:Nat}{par:Bool}{ds:List D}(I:SI C F H σ ρ τ fp)(es:ρ[i]? = some (some (mkS par (.lst ds)))):∃ l vs f rest,σ[i]? = some (some (.ref l))/\H l=some (.lst vs)/\OL C.K F H vs ds f/\fp.Perm ((l :: f)++rest)/\(∀ b∈l :: f,QcC C par b)/\
  ∀ {H':Hp} {vs':List L2.V} {ds':List D} {f':List Addr},H' l=some (.lst vs')->OL C.K F H' vs' ds' f'->(∀ b,b∈rest->H' b=H b)->(∀ b o,H b=some o->b∉l :: f->H' b=some o)->(∀ b,H' b=none->H b=none)->((l :: f')++rest).Nodup->(∀ b∈f',F b=none/\QcC C par b)->SI C F H' σ (ρ.set i (some (mkS par (.lst ds')))) τ ((l :: f')++rest):=by
 obtain ⟨x,f0,g0,rest,ex,s1,pm,w0,w1,cl⟩:=I.cut es
 obtain ⟨v,fi,ev,ho,efi,wfi⟩:∃ v fi,x=some v/\O C.K F H v (.nd .lst ds) fi/\f0++g0=fi/\∀ a∈fi,QcC C par a:=by
  cases par with
  |false=>cases s1 with | own h=>exact ⟨_,_,rfl,h,by simp,fun a ha=>.inl (w0 a ha)⟩
  |true=>cases s1 with | par h=>exact ⟨_,_,rfl,h,rfl,fun a ha=>(w1 a ha).elim (fun z=>.inr ⟨rfl,z⟩) fun z=>.inl z⟩
 subst ev
 obtain ⟨l,vs,g,rfl,rfl,hl,ol⟩:=ho.lstInv
 have pm':fp.Perm ((l :: g)++rest):=by
  rw [← efi,List.append_assoc];exact pm
 have ndp:=pm'.nodup_iff.mp I.nd
 refine ⟨l,vs,g,rest,ex,hl,ol,pm',wfi,fun {H' vs' ds' f'} hl' ol' hk kp dm nd fr=>?_⟩
 have hF:Same F H':=fun b o e=>by
  refine kp b o (I.fh b o e) fun z=>?_
  have:=I.ap b (pm'.mem_iff.mpr (List.mem_append_left _ z))
  rw [e] at this;cases this
 have nop:∀ b,C.H₀ b≠none->b∉C.A->b∉l :: g:=fun b h1 h2 z=>by
  rcases wfi b z with y | y
  ·exact h1 y
  ·exact h2 y.2
 have apn:∀ b∈(l :: f')++rest,F b=none:=fun b hb=>by
  rcases List.mem_append.mp hb with z | z
  ·rcases List.mem_cons.mp z with rfl | z
   ·exact I.ap _ (pm'.mem_iff.mpr (by simp))
   ·exact (fr b z).1
  ·exact I.ap b (pm'.mem_iff.mpr (List.mem_append_right _ z))
 have frn:∀ b∈l :: f',QcC C par b:=fun b hb=>by
  rcases List.mem_cons.mp hb with rfl | z
  ·exact wfi _ List.mem_cons_self
  ·exact (fr b z).2
 have es':=es
 cases par with
 |false=>
  have J:=cl (F':=F) (H':=H') (x':=some (.ref l)) (s':=some (.own (.lst ds'))) (f0':=l :: f') (g0':=[]) (Same.refl F) hF hk dm (fun b o e n z=>kp b o z (nop b (by rw [e];simp) n)) (fun _ _ z=>.inl z) (.own (.mt (t:=.lst) hl' ol')) nd apn (fun b hb=>(frn b hb).resolve_right fun z=>nomatch z.1) (fun _ z=>nomatch z) (fun v hv=>by
   obtain ⟨_,d',z⟩:=I.pr _ _ hv
   rw [es] at z;cases z)
  rw [Qbg ex] at J
  exact J
 |true=>
  have J:=cl (F':=F) (H':=H') (x':=some (.ref l)) (s':=some (.par (.lst ds'))) (f0':=[]) (g0':=l :: f') (Same.refl F) hF hk dm (fun b o e n z=>kp b o z (nop b (by rw [e];simp) n)) (fun _ _ z=>.inl z) (.par (.mt (t:=.lst) hl' ol')) nd apn (fun _ z=>nomatch z) (fun b hb=>(frn b hb).elim (fun z=>.inr z) fun z=>.inl z.2) (fun v hv=>⟨by
   obtain ⟨z,_⟩:=I.pr _ _ hv
   rw [ex] at z;exact Option.some.inj z,_,rfl⟩)
  rw [Qbg ex] at J
  exact J
theorem SI.remake {F H:Hp}{σ:L2.St}{ρ:Rho}{τ:List (L2.V × D)}{fp:List Addr}{i:Nat}{par:Bool}{ds:List D}(I:SI C F H σ ρ τ fp)(es:ρ[i]? = some (some (mkS par (.lst ds)))):∃ l vs f rest,σ[i]? = some (some (.ref l))/\H l=some (.lst vs)/\OL C.K F H vs ds f/\fp.Perm ((l :: f)++rest)/\(∀ b∈l :: f,QcC C par b)/\
  ∀ {vs':List L2.V} {ds':List D} {f':List Addr},OL C.K F H vs' ds' f'->((l :: f')++rest).Nodup->(∀ b∈f',F b=none/\QcC C par b)->SI C F (upd H l (.lst vs')) σ (ρ.set i (some (mkS par (.lst ds')))) τ ((l :: f')++rest):=by
 obtain ⟨l,vs,f,rest,ex,hl,ol,pm,w,cl⟩:=I.relist es
 have ndp:=pm.nodup_iff.mp I.nd
 refine ⟨l,vs,f,rest,ex,hl,ol,pm,w,fun {vs' ds' f'} ol' nd fr=>?_⟩
 have nl:∀ {b:Addr},b∈f'\/b∈rest->b≠l:=fun {b} hb z=>by
  subst z
  have:=(List.nodup_cons.mp (show (b :: (f'++rest)).Nodup from nd)).1
  exact this (List.mem_append.mpr hb)
 refine cl Qap (ol'.keep (Same.refl _) fun b hb=>Qag (nl (.inl hb))) (fun b hb=>Qag (nl (.inr hb))) (fun b o e n=>(Qag (by intro z;subst z;exact n List.mem_cons_self)).trans e) (fun b e=>?_) nd fr
 by_cases hb:b=l
 ·subst hb;rw [Qap] at e;cases e
 ·rw [Qag hb] at e;exact e
def QpP (i:Nat)(m:ME):MS:=fun ρ=>(Rs.of (Qdp ρ i)).bind fun _=>(m ρ).bind fun r=>(Rs.of (Qdp r.2 i)).bind fun q=>if q.2.length<sizeLine then .ok (.nx,r.2.set i (some (mkS q.1 (.lst (q.2++[r.1]))))) else .no
theorem Qrj {i:Nat}{x:Str}{np apos cpos:Pos}(hK:C.K=X.K)(hN:X.N[i]? = some x)(hv:Vis X.env.scope x)(he:PE X e (tX .O C p E m))(hs:swapsWith (.Call (.Attribute (.Name x np) "append" apos) [e] [] cpos) none pos.line X.env=pure false:=by rfl)
  (hbase:attributeBase (.Name x np) "append" X.env (eval (.Name x np) X.env)=eval (.Name x np) X.env:=by rfl) (hfew:((backTo cpos (starEach [e] X.env)).all (fun x=>!x.1) && (backToKw cpos (keywordEach [] X.env)).all (fun x=>x.1.isSome) && decide ([e].length+([]:List Keyword).length+(if ([]:List Keyword).isEmpty then 0 else 1)<30))=true:=by rfl)
  (hline:(apos.endLine == cpos.line)=true:=by rfl) (hst:starEach [e] X.env=(false,eval e X.env) :: starEach [] X.env:=by rfl) (hplain:(backTo cpos (starEach [] X.env)).any (·.1)=false:=by rfl) (hd:(x == ("__debug__" : Str))=false:=by decide) (hcd:(x == ("__classdict__" : Str))=false:=by decide) :
  PS X (.Expr (.Call (.Attribute (.Name x np) "append" apos) [e] [] cpos) pos) (tS rk C E (QpP i m)):=
 Qa2 (Qgs (Qpo PySem.F.plainAttrs_list PySem.F.slot_list_append PySem.F.type_list_append QkB (QcZ hN hv hd hcd) (QfV he QiT hst) hbase hfew hline hst hplain) hs) fun D σ H ⟨F,ρ,fp,I,h⟩=>by
 obtain ⟨q0,e0,h⟩:=h.split.of
 obtain ⟨l0,vs0,f0,rest0,ex0,hl0,_⟩:=I.relist (QbR e0)
 refine ⟨_,ex0,.inl ⟨rfl,vs0,SqL.of hl0⟩,F,ρ,[],fp,I,h.split.run.mono fun r hr F1 H1 fp1 v I1 n1 _=>?_⟩
 obtain ⟨q,eq,h2⟩:=hr.split.of
 obtain ⟨ft,restt,ot,pmt,J,t0,tap,tnd⟩:=SI.pop (τ:=[]) I1
 obtain ⟨l,vs,f,rest,ex,hl,ol,pm,w,cl⟩:=J.remake (QbR eq)
 have el:l=l0:=by rw [ex0] at ex;cases ex;rfl
 subst el
 by_cases hz:q.2.length<sizeLine
 ·rw [if_pos hz] at h2
  have ndJ:=pm.nodup_iff.mp J.nd
  refine ⟨l,vs,v,rfl,rfl,hl,by rw [ol.length];exact hz,?_⟩
  refine h2 F1 _ σ _ n1.f (cl (ol.snoc ot) ?_ fun b hb=>?_)
  ·have pp:(ft++((l :: f)++rest)).Perm ((l :: (f++ft))++rest):=by
    rw [List.perm_iff_count]
    intro a
    simp only [List.count_append,List.count_cons]
    omega
   exact pp.nodup_iff.mp ((pm.append_left ft).nodup_iff.mp tnd)
  ·rcases List.mem_append.mp hb with z | z
   ·exact ⟨J.ap b (pm.mem_iff.mpr (by simp [z])),w b (List.mem_cons_of_mem _ z)⟩
   ·exact ⟨tap b z,.inl (t0 b z)⟩
 ·rw [if_neg hz] at h2;exact h2.elim
def asL:D->Option (List D)
 |.nd .lst ds=>some ds
 |_=>none
theorem QhG {d:D}{ds:List D}(h:asL d=some ds):d=.nd .lst ds:=by
 unfold asL at h
 split at h
 ·cases h;rfl
 ·cases h
def asI:D->Option Int
 |.int i=>some i
 |_=>none
theorem Qhd {d:D}{i:Int}(h:asI d=some i):d=.int i:=by
 cases d<;>cases h
 rfl
def QpM (i:Nat)(m:ME):MS:=fun ρ=>(Rs.of (Qdp ρ i)).bind fun _=>(m ρ).bind fun r=>(Rs.of (Qdp r.2 i)).bind fun q=>(Rs.of (asL r.1)).bind fun ds=>if q.2.length+ds.length<=sizeLine then .ok (.nx,r.2.set i (some (mkS q.1 (.lst (q.2++ds))))) else .no
theorem QqD {i:Nat}{x:Str}{np apos cpos:Pos}(hK:C.K=X.K)(hN:X.N[i]? = some x)(hv:Vis X.env.scope x)(he:PE X e (tX .O C p E m))(hs:swapsWith (.Call (.Attribute (.Name x np) "extend" apos) [e] [] cpos) none pos.line X.env=pure false:=by rfl)
  (hbase:attributeBase (.Name x np) "extend" X.env (eval (.Name x np) X.env)=eval (.Name x np) X.env:=by rfl) (hfew:((backTo cpos (starEach [e] X.env)).all (fun x=>!x.1) && (backToKw cpos (keywordEach [] X.env)).all (fun x=>x.1.isSome) && decide ([e].length+([]:List Keyword).length+(if ([]:List Keyword).isEmpty then 0 else 1)<30))=true:=by rfl)
  (hline:(apos.endLine == cpos.line)=true:=by rfl) (hst:starEach [e] X.env=(false,eval e X.env) :: starEach [] X.env:=by rfl) (hplain:(backTo cpos (starEach [] X.env)).any (·.1)=false:=by rfl) (hd:(x == ("__debug__" : Str))=false:=by decide) (hcd:(x == ("__classdict__" : Str))=false:=by decide) :
  PS X (.Expr (.Call (.Attribute (.Name x np) "extend" apos) [e] [] cpos) pos) (tS rk C E (QpM i m)):=
 Qa2 (Qgs (Qpo PySem.F.plainAttrs_list PySem.F.slot_list_extend PySem.F.type_list_extend Qkd (QcZ hN hv hd hcd) (QfV he QiT hst) hbase hfew hline hst hplain) hs) fun D σ H ⟨F,ρ,fp,I,h⟩=>by
 obtain ⟨q0,e0,h⟩:=h.split.of
 obtain ⟨l0,vs0,f0,rest0,ex0,hl0,_⟩:=I.relist (QbR e0)
 refine ⟨_,ex0,.inl ⟨rfl,vs0,SqL.of hl0⟩,F,ρ,[],fp,I,h.split.run.mono fun r hr F1 H1 fp1 v I1 n1 _=>?_⟩
 obtain ⟨q,eq,h2⟩:=hr.split.of
 obtain ⟨ft,restt,ot,pmt,J,t0,tap,tnd⟩:=SI.pop (τ:=[]) I1
 obtain ⟨l,vs,f,rest,ex,hl,ol,pm,w,cl⟩:=J.remake (QbR eq)
 have el:l=l0:=by rw [ex0] at ex;cases ex;rfl
 subst el
 obtain ⟨d,ρ1⟩:=r
 dsimp only at h2 eq ot J
 obtain ⟨ds,ed,h3⟩:=h2.split.of
 obtain rfl:=QhG ed
 ·by_cases hz:q.2.length+ds.length<=sizeLine
  ·rw [if_pos hz] at h3
   obtain ⟨bb,us,g,rfl,rfl,hb,ob⟩:=ot.lstInv
   refine ⟨l,bb,vs,us,rfl,rfl,hl,hb,by rw [ol.length,ob.length];exact hz,?_⟩
   refine h3 F1 _ σ _ n1.f (cl (ol.app ob) ?_ fun b hb=>?_)
   ·have tnd':(g++restt).Nodup:=(List.nodup_cons.mp (show (bb :: (g++restt)).Nodup from tnd)).2
    have pp:(g++((l :: f)++rest)).Perm ((l :: (f++g))++rest):=by
     rw [List.perm_iff_count]
     intro a
     simp only [List.count_append,List.count_cons]
     omega
    exact pp.nodup_iff.mp ((pm.append_left g).nodup_iff.mp tnd')
   ·rcases List.mem_append.mp hb with z | z
    ·exact ⟨J.ap b (pm.mem_iff.mpr (by simp [z])),w b (List.mem_cons_of_mem _ z)⟩
    ·exact ⟨tap b (List.mem_cons_of_mem _ z),.inl (t0 b (List.mem_cons_of_mem _ z))⟩
  ·rw [if_neg hz] at h3;exact h3.elim
def Qg2 (i:Nat)(m mi:ME):MS:=fun ρ=>(m ρ).bind fun r=>(Rs.of (Qdp r.2 i)).bind fun _=>(mi r.2).bind fun s=>(Rs.of (Qdp s.2 i)).bind fun q=>(Rs.of ((asI s.1).bind fun n=>ixN q.2.length n)).bind fun j=>
 .ok (.nx,s.2.set i (some (mkS q.1 (.lst (q.2.set j r.1)))))
theorem QnA {n:Nat}{i:Int}{j:Nat}(h:ixN n i=some j):j<n:=by
 unfold ixN at h
 split at h
 ·split at h
  ·cases h;omega
  ·cases h
 ·split at h
  ·cases h;omega
  ·cases h
theorem QhV {i:Nat}{x:Str}{np spos:Pos}{ix:Expr}(hK:C.K=X.K)(hN:X.N[i]? = some x)(hv:Vis X.env.scope x)(he:PE X e (tX .O C pa E m))(hi:PE X ix (tX kb C pb E mi))(ok:kb.on true=true:=by rfl)
  (hs:swapsWithSole [.Subscript (.Name x np) ix spos] e pos.line X.env=pure false:=by rfl) (hw:swappedStores [.Subscript (.Name x np) ix spos] e X.env=pure none:=by rfl)
  (h1:(assignEach [.Subscript (.Name x np) ix spos] X.env).map (·.2)=[assign (.Subscript (.Name x np) ix spos) X.env]:=by rfl)
  (hg:PG X (.Subscript (.Name x np) ix spos) (L2.QiY (QsE i) (tX kb C pb E mi) QoC)) :
  PS X (.Assign [.Subscript (.Name x np) ix spos] e pos) (tS rk C E (Qg2 i m mi)):=
 Qa2 (Qlp he hg hs hw h1) fun D σ H ⟨F,ρ,fp,I,h⟩=>by
 refine ⟨F,ρ,[],fp,I,h.split.run.mono fun r hr F1 H1 fp1 v I1 n1 _=>?_⟩
 obtain ⟨q0,e0,hr⟩:=hr.split.of
 obtain ⟨l0,vs0,f0,rest0,ex0,hl0,_⟩:=SI.relist I1 (QbR e0)
 refine ⟨_,ex0,F1,r.2,[(v,r.1)],fp1,I1,hr.split.run.mono fun s hs F2 H2 fp2 iv I2 n2 f2=>?_⟩
 rw [Kd.tk_on ok] at I2
 obtain ⟨q,eq,h2⟩:=hs.split.of
 obtain ⟨j,ej,h3⟩:=h2.split.of
 obtain ⟨n,en,ejn⟩:=Option.bind_eq_some_iff.mp ej
 have riv:=Kd.stay ok f2 .refl I2
 rw [Qhd en] at riv
 obtain rfl:=riv.det_sc (w:=.int n) rfl
 obtain ⟨ft,restt,ot,pmt,J,t0,tap,tnd⟩:=SI.pop (τ:=[]) I2
 obtain ⟨l,vs,f,rest,ex,hl,ol,pm,w,cl⟩:=J.remake (QbR eq)
 have el:l=l0:=by rw [ex0] at ex;cases ex;rfl
 subst el
 have lj:j<q.2.length:=QnA ejn
 obtain ⟨f1,fj,f2',v0,d0,rfl,_,_,_,ks⟩:=ol.setAt lj
 refine ⟨l,vs,n,j,rfl,rfl,hl,by rw [ol.length];exact ejn,?_⟩
 refine h3 F2 _ σ _ (n1.f.trans n2.f) (cl (ks (Same.refl _) (fun _ _=>rfl) ot) ?_ fun b hb=>?_)
 ·have big:=(pm.append_left ft).nodup_iff.mp tnd
  have pp:(ft++((l :: (f1++(fj++f2')))++rest)).Perm (fj++((l :: (f1++(ft++f2')))++rest)):=by
   rw [List.perm_iff_count]
   intro a
   simp only [List.count_append,List.count_cons]
   omega
  exact (List.nodup_append.mp (pp.nodup_iff.mp big)).2.1
 ·simp only [List.mem_append] at hb
  rcases hb with z | z | z
  ·exact ⟨J.ap b (pm.mem_iff.mpr (by simp [z])),w b (by simp [z])⟩
  ·exact ⟨tap b z,.inl (t0 b z)⟩
  ·exact ⟨J.ap b (pm.mem_iff.mpr (by simp [z])),w b (by simp [z])⟩
end
section
variable {X:Cx}{C:Cn}{E:XE}{p pa pb:Bool}{e a b c:Expr}{es:List Expr}{m ma mb mi:ME}{pos:Pos}{k rk:Kd}{ks:List Kd}
def QrB (ma mb:ME):ME:=fun ρ=>(ma ρ).bind fun r1=>(mb r1.2).bind fun r2=>(Rs.of (asL r1.1)).bind fun xs=>(Rs.of (asL r2.1)).bind fun ys=>if xs.length+ys.length<=sizeLine then .ok (.lst (xs++ys),r2.2) else .no
def Qr6 (ma mb:ME):ME:=fun ρ=>(ma ρ).bind fun r1=>(mb r1.2).bind fun r2=>(Rs.of (asL r1.1)).bind fun xs=>(Rs.of (asL r2.1)).bind fun ys=>if xs.length+ys.length<=sizeLine then (if D.immL (xs++ys)=true then .ok (.lst (xs++ys),r2.2) else .no) else .no
abbrev MO:=Rho->Rs (Option Int × Rho)
def tO (C:Cn)(p:Bool)(E:XE)(m:MO):TO:=fun σ H Q=>∃ F ρ τ fp,SI C F H σ ρ τ fp/\Run C E σ (m ρ) fun r=>∀ F' H' fp',SI C F' H' σ r.2 τ fp'->Nx p F H fp F' H' fp'->Q r.1 H'
def QpR (m:ME):MO:=fun ρ=>(m ρ).bind fun r=>(Rs.of (asI r.1)).bind fun i=>.ok (some i,r.2)
theorem QoQ {e:Option Expr}{t t':TO}(h:PO X e t)(k:∀ σ H Q,t' σ H Q->t σ H Q):PO X e t':=fun pins s σ H Q I q=>h pins s σ H Q I (k _ _ _ q)
theorem QlU (h:PE X e (tX k C p E m))(ok:k.on true=true:=by rfl):PO X (some e) (tO C p E (QpR m)):=QoQ (Qj7 h) fun σ H Q ⟨F,ρ,τ,fp,I,h⟩=>by
 refine ⟨F,ρ,τ,fp,I,h.split.mono fun r1 h1 F1 H1 fp1 v1 I1 n1 f1=>?_⟩
 rw [Kd.tk_on ok] at I1
 obtain ⟨i,ei,h2⟩:=h1.split.of
 have rr:=Kd.stay ok f1 .refl I1
 rw [Qhd ei] at rr
 exact ⟨i,rr.det_sc rfl,h2 F1 H1 fp1 I1 n1⟩
def Qm3 {α:Type}(xs:List α)(lo hi:Option Int):List α:=(xs.drop (HT.sIx xs.length 0 lo)).take (HT.sIx xs.length xs.length hi - HT.sIx xs.length 0 lo)
theorem RL.drop {K:PySem.W.Frag}{F:Hp}:∀ {vs:List L2.V} {ds:List D} (n:Nat),RL K F vs ds->RL K F (vs.drop n) (ds.drop n)
 |_,_,0,r=>r
 |_,_,_+1,.nil=>.nil
 |_,_,n+1,.cons _ r=>RL.drop n r
theorem RL.take {K:PySem.W.Frag}{F:Hp}:∀ {vs:List L2.V} {ds:List D} (n:Nat),RL K F vs ds->RL K F (vs.take n) (ds.take n)
 |_,_,0,_=>.nil
 |_,_,_+1,.nil=>.nil
 |_,_,n+1,.cons h r=>.cons h (RL.take n r)
theorem RL.cut {K:PySem.W.Frag}{F:Hp}{vs:List L2.V}{ds:List D}{lo hi:Option Int}(r:RL K F vs ds):RL K F (Qoc vs lo hi) (Qm3 ds lo hi):=by
 unfold Qoc Qm3
 rw [r.length]
 exact (r.drop _).take _
def Qq2 (m:ME)(lo hi:MO):ME:=fun ρ=>(m ρ).bind fun r=>(lo r.2).bind fun l=>(hi l.2).bind fun h=>(Rs.of (asL r.1)).bind fun xs=>.ok (.lst (Qm3 xs l.1 h.1),h.2)
variable {lo hi:Option Expr}{ml mh:MO}{p2:Pos}
theorem QsO (hK:C.K=X.K)(he:PE X e (tX .V C p E m))(hl:PO X lo (tO C pa E ml))(hu:PO X hi (tO C pb E mh)):PE X (.Subscript e (.Slice lo hi none p2) pos) (tX .V C (p && (pa && pb)) E (Qq2 m ml mh)):=Qan (Qmn Qpr he hl hu) fun σ H Q ⟨F,ρ,τ,fp,I,h⟩=>by
 refine ⟨F,ρ,τ,fp,I,h.split.mono fun r1 h1 F1 H1 fp1 v1 I1 n1 f1=>?_⟩
 refine ⟨F1,r1.2,τ,fp1,I1,h1.split.mono fun r2 h2 F2 H2 fp2 I2 n2=>?_⟩
 refine ⟨F2,r2.2,τ,fp2,I2,h2.split.mono fun r3 h3 F3 H3 fp3 I3 n3=>?_⟩
 obtain ⟨xs,e1,h4⟩:=h3.split.of
 have g1:R C.K F3 v1 (.nd .lst xs):=by rw [← QhG e1];exact R.same (n2.f.trans n3.f) f1
 obtain ⟨l1,us,rfl,a1,rl1⟩:=g1.inv
 refine ⟨l1,us,rfl,by rw [← hK];exact (At.same a1 I3.fh).sql,fun q hq=>?_⟩
 have s:=Same.upd (o:=HO.lst (Qoc us r2.1 r3.1)) (I3.fh.free hq)
 exact h4 _ _ fp3 _ (I3.lay hq) (((n1.trans (n2.trans n3)).trans (q:=true) ⟨s,fun _=>Qhp I3 hq⟩).weak fun z=>by simpa using z) (.nd (t:=.lst) (.inl (.inl Qap)) (rl1.cut.same s))
def QuD:D->Option Key
 |.int i=>some (.inl i)
 |.str s=>some (.inr s)
 |_=>none
def Qry:List D->Option (List Key)
 | []=>some []
 |d :: ds=>(QuD d).bind fun k=>(Qry ds).map (k :: ·)
def Qrq:D->Option (List Key)
 |.nd .tup ds=>Qry ds
 |_=>none
theorem Qlm {K:PySem.W.Frag}{F:Hp}:∀ {vs:List L2.V} {ds:List D} {ks:List Key},RL K F vs ds->Qry ds=some ks->vs=ks.map kV
 |_,_,_,.nil,e=>by unfold Qry at e;cases e;rfl
 |_,_,_,.cons (d:=d) h r,e=>by
  unfold Qry at e
  obtain ⟨k,h1,h2⟩:=Option.bind_eq_some_iff.mp e
  obtain ⟨ks,h3,rfl⟩:=Option.map_eq_some_iff.mp h2
  rw [List.map_cons,← Qlm r h3]
  cases d with
  |int i=>cases h1;rw [h.det_sc (w:=.int i) rfl];rfl
  |str z=>cases h1;rw [h.det_sc (w:=.str z) rfl];rfl
  |_=>cases h1
theorem QnD {K:PySem.W.Frag}{F:Hp}{v:L2.V}{d:D}{ks:List Key}(r:R K F v d)(e:Qrq d=some ks):∃ b,v=.ref b/\F b=some (.tup (ks.map kV)):=by
 unfold Qrq at e
 split at e
 ·obtain ⟨a,vs,rfl,h1,h2⟩:=r.inv
  have ev:=Qlm h2 e
  subst ev
  exact ⟨a,rfl,h1⟩
 ·cases e
def QlB:ME:=fun ρ=>.ok (.nd (.dT []) [],ρ)
theorem QkA:PE X (.Dict [] [] pos) (tX .O C true E QlB):=Qan Qna fun σ H Q ⟨F,ρ,τ,fp,I,h⟩=>fun q hq=>by
 have J:=I.lay0 (o:=.dT []) hq
 have nq:q∉fp:=fun z=>by
  obtain ⟨o,e,_⟩:=I.mem q z
  rw [hq] at e;cases e
 refine h F _ _ (.ref q) (J.push (f:=[q]) (.mt (t:=.dT []) (vs:=[]) ⟨rfl,Qap⟩ .nil) (fun a ha=>?_) (fun a ha=>?_) (List.nodup_append.mpr ⟨by simp,I.nd,fun x hx y hy z=>?_⟩)) ⟨Same.refl _,fun _=>QeM I hq⟩ True.intro
 ·rw [List.mem_singleton.mp ha];exact I.dm q hq
 ·rw [List.mem_singleton.mp ha];exact I.fh.free hq
 ·subst z;rw [List.mem_singleton.mp hx] at hy;exact nq hy
def Qnw (ρ:Rho)(i:Nat):Option (Bool × List (List Key) × List D):=match ρ[i]? with
 |some (some (.own (.nd (.dT ks) ds)))=>some (false,ks,ds)
 |some (some (.par (.nd (.dT ks) ds)))=>some (true,ks,ds)
 |_=>none
theorem Qk0 {ρ:Rho}{i:Nat}{q:Bool × List (List Key) × List D}(h:Qnw ρ i=some q):ρ[i]? = some (some (mkS q.1 (.nd (.dT q.2.1) q.2.2))):=by
 unfold Qnw at h
 split at h
 ·next e=>cases h;exact e
 ·next e=>cases h;exact e
 ·cases h
def Qmc {κ:Type}[DecidableEq κ](ks:List κ)(ds:List D)(k:κ)(d:D):List κ × List D:=if (ks.any fun x=>decide (x=k))=true then (ks,List.zipWith (fun x y=>if x=k then d else y) ks ds) else (ks++[k],ds++[d])
theorem Qh5 {κ:Type}[DecidableEq κ]{k:κ}:∀ {ks:List κ} {vs:List V},ks.length=vs.length->((ks.zip vs).any fun kv=>decide (kv.1=k))=ks.any fun x=>decide (x=k)
 | [],[],_=>rfl
 | [],_ :: _,h=>by cases h
 |_ :: _,[],h=>by cases h
 |x :: ks,v :: vs,h=>by rw [List.zip_cons_cons,List.any_cons,List.any_cons,Qh5 (by simpa using h)]
theorem QiL {κ:Type}[DecidableEq κ]{k:κ}{v:V}:∀ {ks:List κ} {vs:List V},ks.length=vs.length->(ks.zip vs).map (fun kv=>if kv.1=k then (kv.1,v) else kv)=ks.zip (List.zipWith (fun x y=>if x=k then v else y) ks vs)
 | [],[],_=>rfl
 | [],_ :: _,h=>by cases h
 |_ :: _,[],h=>by cases h
 |x :: ks,y :: vs,h=>by
  rw [List.zip_cons_cons,List.map_cons,List.zipWith_cons_cons,List.zip_cons_cons,QiL (by simpa using h)]
  by_cases e:x=k
  ·simp [e]
  ·simp [e]
theorem Qh7 {κ:Type}[DecidableEq κ]{K:PySem.W.Frag}{F:Hp}{k:κ}{v:L2.V}{d:D}(hv:R K F v d):∀ {ks:List κ} {vs:List L2.V} {ds:List D},RL K F vs ds->RL K F (List.zipWith (fun x y=>if x=k then v else y) ks vs) (List.zipWith (fun x y=>if x=k then d else y) ks ds)
 | [],_,_,.nil=>.nil
 | [],_,_,.cons _ _=>.nil
 |_ :: _,_,_,.nil=>.nil
 |x :: ks,_,_,.cons h r=>by
  rw [List.zipWith_cons_cons,List.zipWith_cons_cons]
  by_cases e:x=k
  ·rw [if_pos e,if_pos e];exact .cons hv (Qh7 hv r)
  ·rw [if_neg e,if_neg e];exact .cons h (Qh7 hv r)
theorem Qhq {κ:Type}[DecidableEq κ]{k:κ}{d:D}(hd:d.imm=true):∀ {ks:List κ} {ds:List D},D.immL ds=true->D.immL (List.zipWith (fun x y=>if x=k then d else y) ks ds)=true
 | [],_,_=>rfl
 |_ :: _,[],_=>rfl
 |x :: ks,y :: ds,h=>by
  obtain ⟨h1,h2⟩:=QbN h
  rw [List.zipWith_cons_cons,D.immL,Bool.and_eq_true]
  refine ⟨?_,Qhq hd h2⟩
  by_cases e:x=k
  ·rw [if_pos e];exact hd
  ·rw [if_neg e];exact h1
theorem OL.rl {K:PySem.W.Frag}{F H:Hp}{vs:List L2.V}{ds:List D}{f:List Addr}(o:OL K F H vs ds f)(hi:D.immL ds=true):RL K F vs ds:=by
 have e:=o.imm0 hi
 subst e
 exact o.r (Same.refl F) (fun _ z=>nomatch z)
theorem SI.retag {F H:Hp}{σ:L2.St}{ρ:Rho}{τ:List (L2.V × D)}{fp:List Addr}{i:Nat}{par:Bool}{t:Tag}{ds:List D}(I:SI C F H σ ρ τ fp)(mt:t.mut=true)(es:ρ[i]? = some (some (mkS par (.nd t ds)))):∃ l vs f rest,σ[i]? = some (some (.ref l))/\Mt H l t vs/\OL C.K F H vs ds f/\fp.Perm ((l :: f)++rest)/\(∀ b∈l :: f,QcC C par b)/\
  ∀ {o:HO} {t':Tag} {vs':List L2.V} {ds':List D} {f':List Addr},Mt (upd H l o) l t' vs'->OL C.K F H vs' ds' f'->((l :: f')++rest).Nodup->(∀ b∈f',F b=none/\QcC C par b)->SI C F (upd H l o) σ (ρ.set i (some (mkS par (.nd t' ds')))) τ ((l :: f')++rest):=by
 obtain ⟨x,f0,g0,rest,ex,s1,pm,w0,w1,cl⟩:=I.cut es
 obtain ⟨v,fi,ev,ho,efi,wfi⟩:∃ v fi,x=some v/\O C.K F H v (.nd t ds) fi/\f0++g0=fi/\∀ a∈fi,QcC C par a:=by
  cases par with
  |false=>cases s1 with | own h=>exact ⟨_,_,rfl,h,by simp,fun a ha=>.inl (w0 a ha)⟩
  |true=>cases s1 with | par h=>exact ⟨_,_,rfl,h,rfl,fun a ha=>(w1 a ha).elim (fun z=>.inr ⟨rfl,z⟩) fun z=>.inl z⟩
 subst ev
 cases ho with
 |sc e=>cases e
 |im m h r=>rw [mt] at m;cases m
 | @mt l _ vs _ g hl ol=>
  have pm':fp.Perm ((l :: g)++rest):=by rw [← efi,List.append_assoc];exact pm
  have ndp:=pm'.nodup_iff.mp I.nd
  refine ⟨l,vs,g,rest,ex,hl,ol,pm',wfi,fun {o t' vs' ds' f'} hl' ol' nd fr=>?_⟩
  have nl:∀ {b:Addr},b∈f'\/b∈rest->b≠l:=fun {b} hb z=>by
   subst z
   have:=(List.nodup_cons.mp (show (b :: (f'++rest)).Nodup from nd)).1
   exact this (List.mem_append.mpr hb)
  have kp:∀ b o',H b=some o'->b∉l :: g->upd H l o b=some o':=fun b o' e n=>(Qag (by intro z;subst z;exact n List.mem_cons_self)).trans e
  have dm:∀ b,upd H l o b=none->H b=none:=fun b e=>by
   by_cases hb:b=l
   ·subst hb;rw [Qap] at e;cases e
   ·rw [Qag hb] at e;exact e
  have hF:Same F (upd H l o):=fun b o' e=>by
   refine kp b o' (I.fh b o' e) fun z=>?_
   have:=I.ap b (pm'.mem_iff.mpr (List.mem_append_left _ z))
   rw [e] at this;cases this
  have nop:∀ b,C.H₀ b≠none->b∉C.A->b∉l :: g:=fun b h1 h2 z=>by
   rcases wfi b z with y | y
   ·exact h1 y
   ·exact h2 y.2
  have apn:∀ b∈(l :: f')++rest,F b=none:=fun b hb=>by
   rcases List.mem_append.mp hb with z | z
   ·rcases List.mem_cons.mp z with rfl | z
    ·exact I.ap _ (pm'.mem_iff.mpr (by simp))
    ·exact (fr b z).1
   ·exact I.ap b (pm'.mem_iff.mpr (List.mem_append_right _ z))
  have frn:∀ b∈l :: f',QcC C par b:=fun b hb=>by
   rcases List.mem_cons.mp hb with rfl | z
   ·exact wfi _ List.mem_cons_self
   ·exact (fr b z).2
  have on:=ol'.keep (Same.refl _) (H':=upd H l o) fun b hb=>Qag (nl (.inl hb))
  cases par with
  |false=>
   have J:=cl (F':=F) (H':=upd H l o) (x':=some (.ref l)) (s':=some (.own (.nd t' ds'))) (f0':=l :: f') (g0':=[]) (Same.refl F) hF (fun b hb=>Qag (nl (.inr hb))) dm (fun b o' e n z=>kp b o' z (nop b (by rw [e];simp) n)) (fun _ _ z=>.inl z) (.own (.mt hl' on)) nd apn (fun b hb=>(frn b hb).resolve_right fun z=>nomatch z.1) (fun _ z=>nomatch z) (fun v hv=>by
    obtain ⟨_,d',z⟩:=I.pr _ _ hv
    rw [es] at z;cases z)
   rw [Qbg ex] at J
   exact J
  |true=>
   have J:=cl (F':=F) (H':=upd H l o) (x':=some (.ref l)) (s':=some (.par (.nd t' ds'))) (f0':=[]) (g0':=l :: f') (Same.refl F) hF (fun b hb=>Qag (nl (.inr hb))) dm (fun b o' e n z=>kp b o' z (nop b (by rw [e];simp) n)) (fun _ _ z=>.inl z) (.par (.mt hl' on)) nd apn (fun _ z=>nomatch z) (fun b hb=>(frn b hb).elim (fun z=>.inr z) fun z=>.inl z.2) (fun v hv=>⟨by
    obtain ⟨z,_⟩:=I.pr _ _ hv
    rw [ex] at z;exact Option.some.inj z,_,rfl⟩)
   rw [Qbg ex] at J
   exact J
def Ql6 (i:Nat)(mv mk:ME):MS:=fun ρ=>(mv ρ).bind fun r=>(Rs.of (Qnw r.2 i)).bind fun _=>(mk r.2).bind fun s=>(Rs.of (Qnw s.2 i)).bind fun q=>(Rs.of (Qrq s.1)).bind fun k=>
 if q.2.1.length<sizeLine then (if (r.1.imm && D.immL q.2.2)=true then .ok (.nx,s.2.set i (some (mkS q.1 (.nd (.dT (Qmc q.2.1 q.2.2 k r.1).1) (Qmc q.2.1 q.2.2 k r.1).2)))) else .no) else .no
theorem Qns {i:Nat}{x:Str}{np spos:Pos}{ix:Expr}(hu:X.A.units+1<cLine)(hN:X.N[i]? = some x)(hv:Vis X.env.scope x)(he:PE X e (tX .V C pa E m))(hi:PE X ix (tX .V C pb E mi))(hs:swapsWith e (some (.Subscript (.Name x np) ix spos)) pos.line X.env=pure false:=by rfl)(hd:(x == ("__debug__" : Str))=false:=by decide)(hcd:(x == ("__classdict__" : Str))=false:=by decide) :
  PS X (.Assign [.Subscript (.Name x np) ix spos] e pos) (tS rk C E (Ql6 i m mi)):=Qa2 (QoY hu (QcZ hN hv hd hcd) hi he hs) fun DD σ H ⟨F,ρ,fp,I,h⟩=>by
 refine ⟨F,ρ,[],fp,I,h.split.run.mono fun r hr F1 H1 fp1 v I1 n1 f1=>?_⟩
 obtain ⟨q0,e0,hr⟩:=hr.split.of
 obtain ⟨l0,vs0,g0,rest0,ex0,hl0,_⟩:=SI.retag I1 rfl (Qk0 e0)
 refine ⟨_,ex0,F1,r.2,[],fp1,I1,hr.split.run.mono fun s hs F2 H2 fp2 kv I2 n2 f2=>?_⟩
 obtain ⟨q,eq,h2⟩:=hs.split.of
 obtain ⟨key,ek,h3⟩:=h2.split.of
 obtain ⟨l,vs,f,rest,ex,hl,ol,pm,w,cl⟩:=SI.retag I2 rfl (Qk0 eq)
 have el:l=l0:=by rw [ex0] at ex;cases ex;rfl
 subst el
 by_cases hz:q.2.1.length<sizeLine
 ·rw [if_pos hz] at h3
  by_cases hi:(r.1.imm && D.immL q.2.2)=true
  ·rw [if_pos hi] at h3
   obtain ⟨i1,i2⟩:=Bool.and_eq_true_iff.mp hi
   obtain ⟨bb,rfl,hb⟩:=QnD f2 ek
   have rl:=ol.rl i2
   have rv:R C.K F2 v r.1:=R.same n2.f f1
   have ef:f=[]:=ol.imm0 i2
   subst ef
   have lv:q.2.1.length=vs.length:=hl.1
   have hkv:(q.2.1.zip vs).length<sizeLine:=by rw [List.length_zip,← lv,Nat.min_self];exact hz
   refine ⟨l,_,rfl,DPut.t hl.2 (I2.fh _ _ hb) hkv,?_⟩
   have fin:∀ {vs':List L2.V},Qh2 (q.2.1.zip vs) key v=(Qmc q.2.1 q.2.2 key r.1).1.zip vs'->(Qmc q.2.1 q.2.2 key r.1).1.length=vs'.length->RL C.K F2 vs' (Qmc q.2.1 q.2.2 key r.1).2->D.immL (Qmc q.2.1 q.2.2 key r.1).2=true->DD.nx σ (upd H2 l (.dT (Qh2 (q.2.1.zip vs) key v))):=fun {vs'} e1 e2 r' hi'=>by
    rw [e1]
    exact h3 F2 _ σ _ (n1.f.trans n2.f) (cl (t':=.dT _) (vs':=vs') ⟨e2,Qap⟩ (r'.o hi') (pm.nodup_iff.mp I2.nd) (fun _ z=>nomatch z))
   unfold Qmc at fin
   by_cases c:(q.2.1.any fun x=>decide (x=key))=true
   ·rw [if_pos c] at fin
    refine fin (vs':=List.zipWith (fun x y=>if x=key then v else y) q.2.1 vs) ?_ (by rw [List.length_zipWith,← lv,Nat.min_self]) (Qh7 rv rl) (Qhq i1 i2)
    unfold Qh2
    rw [Qh5 lv,if_pos c,QiL lv]
   ·rw [if_neg c] at fin
    refine fin (vs':=vs++[v]) ?_ (by simp [lv]) (rl.app (.cons rv .nil)) (QmK i2 (QeW fun d hd=>by rw [List.mem_singleton.mp hd];exact i1))
    unfold Qh2
    rw [Qh5 lv,if_neg c,List.zip_append lv]
    rfl
  ·rw [if_neg hi] at h3;exact h3.elim
 ·rw [if_neg hz] at h3;exact h3.elim
end
section
variable {P:Program}{w:World}{K:PySem.W.Frag}{mg:Str->Option Value}{base:Heap}{N:List Str}{qual:Str}{scope:Scope}{f:Addr}{cd:Value}{A:Around}{outer:List Env}{s:Shared}{H:Hp}{E:XK}{C:Cn}{rk:Kd}{p:Bool}{ks:List Kd}{mr:MA}
def Qeb (c:Addr)(mr:MA):MS:=fun ρ=>(mr ρ).bind fun r=>if r.1.length<=sizeLine then .ex c r.2 else .no
theorem Qdu {x:Str}{np cpos pos:Pos}{e:Expr}{es:List Expr}{c:Addr}(hr:A.handled=none)(hx:PySem.W.excIn K c bmV "ValueError.__new__" = true)(hm:mg x=some (.ref c))
  (ha:PA (Qd4 (CXe P w) P w K mg base N qual scope f cd A outer s H E) (e :: es) (tA ks C p (fun _=>E) mr)) (ok:rdL ks=true:=by rfl) (hg:Gl (Qd4 (CXe P w) P w K mg base N qual scope f cd A outer s H E) x:=by rfl)
  (hdb:(x == ("__debug__" : Str))=false:=by decide) (hs:starEach (e :: es) (Qd4 (CXe P w) P w K mg base N qual scope f cd A outer s H E).env=(false,eval e (Qd4 (CXe P w) P w K mg base N qual scope f cd A outer s H E).env) :: starEach es (Qd4 (CXe P w) P w K mg base N qual scope f cd A outer s H E).env:=by rfl)
  (hpl:(backTo cpos (starEach (e :: es) (Qd4 (CXe P w) P w K mg base N qual scope f cd A outer s H E).env)).any (·.1)=false:=by rfl) :
  PS (Qd4 (CXe P w) P w K mg base N qual scope f cd A outer s H E) (.Raise (some (.Call (.Name x np) (e :: es) [] cpos)) none pos) (tS rk C (fun _=>E) (Qeb c mr)):=Qa2 (QmI hr hx hg hm ha hdb hs hpl) fun D σ H ⟨F,ρ,fp,I,h⟩=>by
 refine ⟨F,ρ,[],fp,I,h.split.run.mono fun r h1 F1 H1 fp1 vs I1 n1 f1=>?_⟩
 rw [QbT ok] at I1
 by_cases hz:r.1.length<=sizeLine
 ·rw [if_pos hz] at h1
  exact ⟨by rw [(f1.rd I1 ok).length];exact hz,h1 F1 H1 σ fp1 I1⟩
 ·rw [if_neg hz] at h1;exact h1.elim
theorem Qai:Qd7 (Qd4 (CXe P w) P w K mg base N qual scope f cd A outer s H E) (fun _=>E):=fun pins σ H1 s1 e s' I h=>Qts pins σ H1 s1 e s' I h
end
section
variable {X:Cx}{C:Cn}{E:XE}
variable {e:Expr}{es:List Expr}{mr:MA}{p:Bool}{pos:Pos}{ks:List Kd}
def QdU:List Kd->List D->Rho->Option (List D × Rho)
 | [],_,ρ=>some ([],ρ)
 |.O :: ks,d :: ds,ρ=>(QdU ks ds ρ).map fun q=>(d :: q.1,q.2)
 |.S i :: ks,_ :: ds,ρ=>(QdU ks ds ρ).bind fun q=>match q.2[i]? with
  |some (some (.own d))=>some (d :: q.1,q.2.set i none)
  |_=>none
 |_,_,_=>none
theorem SI.moveOut {F H:Hp}{σ:L2.St}{ρ:Rho}{τ:List (L2.V × D)}{fp:List Addr}{i:Nat}{d:D}(I:SI C F H σ ρ τ fp)(es:ρ[i]? = some (some (.own d))):∃ v f rest,σ[i]? = some (some v)/\O C.K F H v d f/\fp.Perm (f++rest)/\SI C F H σ (ρ.set i none) τ rest/\(∀ a∈f,C.H₀ a=none)/\(∀ a∈f,F a=none):=by
 obtain ⟨y,f0,g0,rest,ey,s1,pm,w0,w1,cl⟩:=I.cut es
 cases s1 with
 | @own v _ f h=>
  have nd:=pm.nodup_iff.mp I.nd
  have q:=cl (F':=F) (H':=H) (x':=some v) (s':=none) (f0':=[]) (g0':=[]) (Same.refl _) I.fh (fun _ _=>rfl) (fun _ z=>z) (fun _ _ _ _ z=>z) (fun b o e=>.inl e) .non (List.nodup_append.mp nd).2.1 (fun a ha=>I.ap a (pm.mem_iff.mpr (List.mem_append_right _ ha))) (fun _ z=>nomatch z) (fun _ z=>nomatch z) (fun v' hv=>by
   obtain ⟨_,d',z⟩:=I.pr _ _ hv
   rw [es] at z;cases z)
  rw [Qbg ey] at q
  exact ⟨v,f0,_,ey,h,pm,q,w0,fun a ha=>I.ap a (pm.mem_iff.mpr (List.mem_append_left _ ha))⟩
theorem QhW {F H:Hp}{σ:L2.St}:∀ {ks:List Kd} {vs:List L2.V} {ds ds':List D} {ρ ρ':Rho} {τ:List (L2.V × D)} {fp fp0:List Addr},FcL C F H fp0 σ ks vs ds->SI C F H σ ρ (tkL ks vs ds τ) fp->QdU ks ds ρ=some (ds',ρ')->∃ f rest,OL C.K F H vs ds' f/\fp.Perm (f++rest)/\SI C F H σ ρ' τ rest/\(∀ a∈f,C.H₀ a=none)/\(∀ a∈f,F a=none)
 | [],_,_,ds',ρ,ρ',τ,fp,fp0,.nil,I,h=>by
  unfold QdU at h
  cases h
  unfold tkL at I
  exact ⟨[],fp,.nil,.refl _,I,(fun _ z=>nomatch z),fun _ z=>nomatch z⟩
 |.O :: ks,_,_,ds',ρ,ρ',τ,fp,fp0,.cons (v:=v) (d:=d) h0 r,I,h=>by
  unfold QdU at h
  obtain ⟨q,hq,e⟩:=Option.map_eq_some_iff.mp h
  cases e
  unfold tkL at I
  obtain ⟨f,rest,ol,pm,J,w1,w2⟩:=QhW r I (show QdU ks _ ρ=some (q.1,q.2) from hq)
  obtain ⟨g,rest2,og,pm2,J2,g1,g2,_⟩:=SI.pop (τ:=τ) (v:=v) (d:=d) J
  refine ⟨g++f,rest2,.cons og ol,?_,J2,fun a ha=>(List.mem_append.mp ha).elim (g1 a) (w1 a),fun a ha=>(List.mem_append.mp ha).elim (g2 a) (w2 a)⟩
  refine pm.trans ((pm2.append_left f).trans ?_)
  rw [List.perm_iff_count]
  intro a
  simp only [List.count_append]
  omega
 |.S i :: ks,_,_,ds',ρ,ρ',τ,fp,fp0,.cons (v:=v) (d:=d) h0 r,I,h=>by
  unfold QdU at h
  obtain ⟨q,hq,e⟩:=Option.bind_eq_some_iff.mp h
  unfold tkL at I
  obtain ⟨f,rest,ol,pm,J,w1,w2⟩:=QhW r I (show QdU ks _ ρ=some (q.1,q.2) from hq)
  split at e
  ·next d0 ed=>
   cases e
   obtain ⟨v',g,rest2,ev,og,pm2,J2,g1,g2⟩:=SI.moveOut (τ:=τ) J ed
   have:v'=v:=Option.some.inj (Option.some.inj (ev.symm.trans h0))
   subst this
   refine ⟨g++f,rest2,.cons og ol,?_,J2,fun a ha=>(List.mem_append.mp ha).elim (g1 a) (w1 a),fun a ha=>(List.mem_append.mp ha).elim (g2 a) (w2 a)⟩
   refine pm.trans ((pm2.append_left f).trans ?_)
   rw [List.perm_iff_count]
   intro a
   simp only [List.count_append]
   omega
  ·cases e
 |.V :: ks,_,_,ds',ρ,ρ',τ,fp,fp0,.cons h0 r,I,h=>by unfold QdU at h;cases h
 |.B :: ks,_,_,ds',ρ,ρ',τ,fp,fp0,.cons h0 r,I,h=>by unfold QdU at h;cases h
def Qmv (ks:List Kd)(mr:MA):ME:=fun ρ=>(mr ρ).bind fun r=>(Rs.of (QdU ks r.1 r.2)).bind fun q=>if q.1.length<=sizeLine then .ok (.tup q.1,q.2) else .no
theorem Qnh {x1:Nat}(h:PA X es (tA ks C p E mr)):PE X (.Tuple es x1 pos) (tX .O C false E (Qmv ks mr)):=Qan (QnQ h) fun σ H Q ⟨F,ρ,τ,fp,I,h⟩=>by
 refine ⟨F,ρ,τ,fp,I,h.split.mono fun r1 h1 F1 H1 fp1 vs I1 n1 f1=>?_⟩
 obtain ⟨q,eq,h2⟩:=h1.split.of
 obtain ⟨f,rest,ol,pm,J,w1,w2⟩:=QhW f1 I1 (show QdU ks r1.1 r1.2=some (q.1,q.2) from eq)
 by_cases hz:q.1.length<=sizeLine
 ·rw [if_pos hz] at h2
  refine ⟨by rw [ol.length];exact hz,fun t ht=>?_⟩
  have J2:=J.lay (o:=.tup vs) ht
  have nd:=pm.nodup_iff.mp I1.nd
  have s:=Same.upd (o:=HO.tup vs) (I1.fh.free ht)
  have nt:∀ a∈f,a≠t:=fun a ha=>by
   obtain ⟨o,e,_⟩:=ol.mem a ha
   exact Qao e ht
  have ol2:=ol.keep s (H':=upd H1 t (.tup vs)) fun a ha=>Qag (nt a ha)
  exact h2 _ _ _ (.ref t) (J2.push (.im (t:=.tup) rfl Qap ol2) w1 (fun a ha=>by rw [Qag (nt a ha)];exact w2 a ha) nd) ⟨n1.f.trans s,fun z=>nomatch z⟩ True.intro
 ·rw [if_neg hz] at h2;exact h2.elim
end
section
variable {X:Cx}{C:Cn}{E:XE}{p pa pb pc:Bool}{e a b c ixa ixb:Expr}{es:List Expr}{m ma mb mi:ME}{pos:Pos}{k ka kb rk:Kd}{ks:List Kd}
theorem SI.inLst {F H:Hp}{σ:L2.St}{ρ:Rho}{τ:List (L2.V × D)}{fp:List Addr}{i n:Nat}{par:Bool}{ds xs:List D}(I:SI C F H σ ρ τ fp)(es:ρ[i]? = some (some (mkS par (.lst ds))))(hx:ds[n]? = some (.nd .lst xs)):∃ l vs l2 us f1 g f2 rest,σ[i]? = some (some (.ref l))/\H l=some (.lst vs)/\vs.length=ds.length/\vs[n]? = some (.ref l2)/\H l2=some (.lst us)/\OL C.K F H us xs g/\fp.Perm ((l :: (f1++((l2 :: g)++f2)))++rest)/\(∀ b∈g,QcC C par b)/\
  ∀ {us':List L2.V} {xs':List D} {g':List Addr},OL C.K F H us' xs' g'->((l :: (f1++((l2 :: g')++f2)))++rest).Nodup->(∀ b∈g',F b=none/\QcC C par b)->SI C F (upd H l2 (.lst us')) σ (ρ.set i (some (mkS par (.lst (ds.set n (.lst xs')))))) τ ((l :: (f1++((l2 :: g')++f2)))++rest):=by
 obtain ⟨l,vs,f,rest,ex,hl,ol,pm,w,cl⟩:=I.relist es
 have ln:n<ds.length:=(List.getElem?_eq_some_iff.mp hx).1
 obtain ⟨f1,fj,f2,v0,d0,rfl,e1,e2,oj,ks⟩:=ol.setAt ln
 rw [hx] at e2
 cases e2
 obtain ⟨l2,us,g,rfl,rfl,hl2,og⟩:=oj.lstInv
 refine ⟨l,vs,l2,us,f1,g,f2,rest,ex,hl,ol.length,e1,hl2,og,pm,fun b hb=>w b (by simp [hb]),fun {us' xs' g'} og' nd fr=>?_⟩
 have nd1:(l2 :: (l :: (f1++(g'++f2))++rest)).Nodup:=by
  have pp:((l :: (f1++((l2 :: g')++f2)))++rest).Perm (l2 :: (l :: (f1++(g'++f2))++rest)):=by
   rw [List.perm_iff_count]
   intro a
   simp only [List.count_append,List.count_cons]
   omega
  exact pp.nodup_iff.mp nd
 have nl:∀ {b:Addr},b=l\/b∈f1\/b∈g'\/b∈f2\/b∈rest->b≠l2:=fun {b} hb z=>by
  subst z
  exact (List.nodup_cons.mp nd1).1 (by simp only [List.mem_append,List.mem_cons];rcases hb with z | z | z | z | z<;>simp [z])
 have onew:O C.K F (upd H l2 (.lst us')) (.ref l2) (.lst xs') (l2 :: g'):=.mt (t:=.lst) (show upd H l2 (.lst us') l2=some (.lst us') from Qap) (og'.keep (Same.refl _) fun b hb=>Qag (nl (.inr (.inr (.inl hb)))))
 have oln:=ks (Same.refl F) (H':=upd H l2 (.lst us')) (fun b hb=>Qag (nl (by rcases List.mem_append.mp hb with z | z;exact .inr (.inl z);exact .inr (.inr (.inr (.inl z)))))) onew
 rw [Qbg e1] at oln
 refine cl (vs':=vs) ((Qag (nl (.inl rfl))).trans hl) oln (fun b hb=>Qag (nl (.inr (.inr (.inr (.inr hb)))))) (fun b o e n'=>(Qag (by intro z;subst z;exact n' (by simp))).trans e) (fun b e=>?_) nd fun b hb=>?_
 ·by_cases hb:b=l2
  ·subst hb;rw [Qap] at e;cases e
  ·rw [Qag hb] at e;exact e
 ·simp only [List.mem_append,List.mem_cons] at hb
  have inn:∀ {b:Addr},b∈l :: (f1++((l2 :: g)++f2))->F b=none/\QcC C par b:=fun {b} z=>⟨I.ap b (pm.mem_iff.mpr (List.mem_append_left _ z)),w b z⟩
  rcases hb with z | (z | z) | z
  ·exact inn (by simp [z])
  ·exact inn (by simp [z])
  ·exact fr b z
  ·exact inn (by simp [z])
def QeI (i:Nat)(m mi mj:ME):MS:=fun ρ=>(m ρ).bind fun r=>(Rs.of (Qdp r.2 i)).bind fun _=>(mi r.2).bind fun s=>(Rs.of (Qdp s.2 i)).bind fun q=>(Rs.of ((asI s.1).bind fun n=>ixN q.2.length n)).bind fun n=>(Rs.of ((q.2[n]?).bind asL)).bind fun _=>
 (mj s.2).bind fun t=>(Rs.of (Qdp t.2 i)).bind fun q'=>(Rs.of ((q'.2[n]?).bind asL)).bind fun xs=>(Rs.of ((asI t.1).bind fun k=>ixN xs.length k)).bind fun k=>.ok (.nx,t.2.set i (some (mkS q'.1 (.lst (q'.2.set n (.lst (xs.set k r.1)))))))
theorem Qk1 {ds xs:List D}{n:Nat}(h:(ds[n]?).bind asL=some xs):ds[n]? = some (.nd .lst xs):=by
 obtain ⟨d,e1,e2⟩:=Option.bind_eq_some_iff.mp h
 rw [e1,QhG e2]
theorem Qjc {i:Nat}{x:Str}{np sp1 sp2:Pos}(hK:C.K=X.K)(he:PE X e (tX .O C pa E m))
  (hs:swapsWithSole [.Subscript (.Subscript (.Name x np) ixa sp1) ixb sp2] e pos.line X.env=pure false:=by rfl) (hw:swappedStores [.Subscript (.Subscript (.Name x np) ixa sp1) ixb sp2] e X.env=pure none:=by rfl)
  (h1:(assignEach [.Subscript (.Subscript (.Name x np) ixa sp1) ixb sp2] X.env).map (·.2)=[assign (.Subscript (.Subscript (.Name x np) ixa sp1) ixb sp2) X.env]:=by rfl)
  (hg:PG X (.Subscript (.Subscript (.Name x np) ixa sp1) ixb sp2) (L2.QiY (tOp (QtC X.K) (QsE i) (tX ka C pb E ma)) (tX kb C true E mb) QoC)) (ok:ka.on true=true:=by rfl) (ok2:kb.on true=true:=by rfl) :
  PS X (.Assign [.Subscript (.Subscript (.Name x np) ixa sp1) ixb sp2] e pos) (tS rk C E (QeI i m ma mb)):=
 Qa2 (Qlp he hg hs hw h1) fun DD σ H ⟨F,ρ,fp,I,h⟩=>by
 refine ⟨F,ρ,[],fp,I,h.split.run.mono fun r hr F1 H1 fp1 v I1 n1 _=>?_⟩
 obtain ⟨q0,e0,hr⟩:=hr.split.of
 obtain ⟨l0,vs0,f0,rest0,ex0,hl0,_⟩:=SI.relist I1 (QbR e0)
 refine ⟨_,ex0,F1,r.2,[(v,r.1)],fp1,I1,hr.split.run.mono fun s hs F2 H2 fp2 iv I2 n2 f2=>?_⟩
 rw [Kd.tk_on ok] at I2
 obtain ⟨q,eq,h2⟩:=hs.split.of
 obtain ⟨n,ej,h3⟩:=h2.split.of
 obtain ⟨nn,en,ejn⟩:=Option.bind_eq_some_iff.mp ej
 have riv:=Kd.stay ok f2 .refl I2
 rw [Qhd en] at riv
 obtain rfl:=riv.det_sc (w:=.int nn) rfl
 obtain ⟨xs0,exs,h3⟩:=h3.split.of
 obtain ⟨l,vs,l2,us,f1',g',f2',rest',ex,hl,lv,hv2,hl2,_,pm2,_⟩:=I2.inLst (QbR eq) (Qk1 exs)
 have el:l=l0:=by rw [ex0] at ex;cases ex;rfl
 subst el
 have atv:atI vs nn=some (.ref l2):=by unfold atI;rw [lv,ejn];exact hv2
 refine ⟨l,vs,nn,_,rfl,rfl,SqL.of hl,atv,F2,s.2,[(v,r.1)],fp2,I2,h3.split.run.mono fun t ht F3 H3 fp3 jv I3 n3 f3=>?_⟩
 rw [Kd.tk_on ok2] at I3
 obtain ⟨q',eq',h4⟩:=ht.split.of
 obtain ⟨xs,exs',h5⟩:=h4.split.of
 obtain ⟨k,ek,h6⟩:=h5.split.of
 obtain ⟨kk,ekk,ekn⟩:=Option.bind_eq_some_iff.mp ek
 have rjv:=Kd.stay ok2 f3 .refl I3
 rw [Qhd ekk] at rjv
 obtain rfl:=rjv.det_sc (w:=.int kk) rfl
 obtain ⟨ft,restt,ot,pmt,J,t0,tap,tnd⟩:=SI.pop (τ:=[]) I3
 obtain ⟨l',vs',l2',us',f1,g,f2,rest,ex',hl',lv',hv2',hl2',og,pm,wg,cl⟩:=J.inLst (QbR eq') (Qk1 exs')
 have el:l'=l:=by rw [ex0] at ex';cases ex';rfl
 subst el
 -- the outer list is the same
 have same:H3 l'=some (.lst vs):=by
  have z:=n3.g rfl l' (.lst vs) (by rw [QbY (pm2.mem_iff.mpr (by simp))];exact hl)
  exact Qcv I3.fh l' _ z
 have evs:vs'=vs:=by rw [hl'] at same;cases same;rfl
 subst evs
 have el2:l2'=l2:=by rw [hv2] at hv2';cases hv2';rfl
 subst el2
 have lk:=QnA ekn
 obtain ⟨g1,gk,g2,v0,d0,rfl,_,_,_,ks⟩:=og.setAt lk
 refine ⟨l2',us',kk,k,rfl,rfl,hl2',by rw [og.length];exact ekn,?_⟩
 refine h6 F3 _ σ _ ((n1.f.trans n2.f).trans n3.f) (cl (ks (Same.refl _) (fun _ _=>rfl) ot) ?_ fun b hb=>?_)
 ·have big:=(pm.append_left ft).nodup_iff.mp tnd
  have pp:(ft++((l' :: (f1++((l2' :: (g1++(gk++g2)))++f2)))++rest)).Perm (gk++((l' :: (f1++((l2' :: (g1++(ft++g2)))++f2)))++rest)):=by
   rw [List.perm_iff_count]
   intro a
   simp only [List.count_append,List.count_cons]
   omega
  exact (List.nodup_append.mp (pp.nodup_iff.mp big)).2.1
 ·simp only [List.mem_append] at hb
  rcases hb with z | z | z
  ·exact ⟨J.ap b (pm.mem_iff.mpr (by simp [z])),wg b (by simp [z])⟩
  ·exact ⟨tap b z,.inl (t0 b z)⟩
  ·exact ⟨J.ap b (pm.mem_iff.mpr (by simp [z])),wg b (by simp [z])⟩
theorem Qf9 {A:Around}{k:Nat}(hr:Room k A):A.units+30<cLine:=by have:=hr.units;omega
theorem Qju (hK:C.K=X.K):OpD C.K (QpL X.K 30 id) gEq:=by rw [hK];exact dEq
theorem QpU (hK:C.K=X.K):OpD C.K (QpL X.K 30 not) gNe:=by rw [hK];exact dNe
theorem xb (i:Nat){x:Str}{pos:Pos}(hN:X.N[i]? = some x:=by rfl)(hv:Vis X.env.scope x:=by first | exact Or.inl rfl | exact Or.inr (Or.inl rfl) | exact Or.inr (Or.inr rfl))(hd:(x == ("__debug__" : Str))=false:=by decide)(hcd:(x == ("__classdict__" : Str))=false:=by decide):PE X (.Name x pos) (tX .B C true E (mB i)):=Qro hN hv hd hcd
theorem xv (i:Nat){x:Str}{pos:Pos}(hN:X.N[i]? = some x:=by rfl)(hv:Vis X.env.scope x:=by first | exact Or.inl rfl | exact Or.inr (Or.inl rfl) | exact Or.inr (Or.inr rfl))(hd:(x == ("__debug__" : Str))=false:=by decide)(hcd:(x == ("__classdict__" : Str))=false:=by decide):PE X (.Name x pos) (tX .V C true E (mV i)):=QpY hN hv hd hcd
theorem xo (i:Nat){x:Str}{pos:Pos}(hN:X.N[i]? = some x:=by rfl)(hv:Vis X.env.scope x:=by first | exact Or.inl rfl | exact Or.inr (Or.inl rfl) | exact Or.inr (Or.inr rfl))(hd:(x == ("__debug__" : Str))=false:=by decide)(hcd:(x == ("__classdict__" : Str))=false:=by decide):PE X (.Name x pos) (tX .O C true E (mO i)):=Qsu hN hv hd hcd
theorem xs (i:Nat){x:Str}{pos:Pos}(hN:X.N[i]? = some x:=by rfl)(hv:Vis X.env.scope x:=by first | exact Or.inl rfl | exact Or.inr (Or.inl rfl) | exact Or.inr (Or.inr rfl))(hd:(x == ("__debug__" : Str))=false:=by decide)(hcd:(x == ("__classdict__" : Str))=false:=by decide):PE X (.Name x pos) (tX (.S i) C true E (mS i)):=Qsa hN hv hd hcd
theorem spk {P:Program}{w:World}{K:PySem.W.Frag}{mg:Str->Option Value}{base:Heap}{n:Nat}{x:Str}{ps:List Str}{io:List Bool}{f:List D->Fr}(D:Qaf P w K mg base n x ps (spF K io rk f))(hC:C.K=K):Qaf P w K mg base n x ps (spF C.K io rk f):=by rw [hC];exact D
def Qmq (i:Nat)(m:ME):MS:=QaX i m
theorem QlJ {elt iter:Expr}{x y:Str}{px py pos spos:Pos}{ifs:List Expr}{scope:Scope}{N:List Str}{cs:List Cp}{j i0:Nat}{par:Bool}{mi:MA}{mt:MT}{me:ME}{pc pe:Bool}(hK:C.K=X.K)(hc:X.calm=true)(hXN:X.N.Nodup)(hi0:X.N[i0]? = some y)(hy:Loc X.env.scope y)(B:Blk X scope N (cs.map Cp.ix))(hjN:N[j]? = some x)(hj:cs[j]? = some .me)(hx:scope.names.lookup x=some .local)(hi:PI X (.Name x px) iter (tI C pa E mi))
  (ht:∀ pins c s H ex,PIf (X.blk scope N pins c s H ex) ifs (exT X.K pc mt)) (he:∀ pins c s H ex,PE (X.blk scope N pins c s H ex) elt (exX .O X.K pe me)) (nd:(cs.filterMap Cp.is).Nodup:=by decide)
  (hsw:swapsWith (.ListComp elt [⟨.Name x px,iter,ifs,0⟩] scope pos) (some (.Name y py)) spos.line X.env=pure true:=by rfl)
  (hf:X.fn y=true\/X.env.scope.names.lookup y=some .local:=by first | exact .inl rfl | exact .inr rfl | assumption)
  (hs:∀ x,foldedSetIterable iter X.env x=pure x:=by intro _;rfl):PS X (.Assign [.Name y py] (.ListComp elt [⟨.Name x px,iter,ifs,0⟩] scope pos) spos) (tS rk C E (Qmq i0 (QbD par cs j mi mt me))):=
 Qa2 (Ql4 hc hXN hi0 hy B hjN (by rw [List.getElem?_map,hj];rfl) hx hi ht he hsw hf hs) fun D σ H h=>by
  have q:=Qkw (p:=pa && false) h
  refine Qf5 (p:=false) (par:=par) hK hj nd (fun z=>nomatch z) ?_
  obtain ⟨F,ρ,τ,fp,I,r⟩:=q
  exact ⟨F,ρ,τ,fp,I,r.mono fun a z F' H' fp' v I' n f=>by
   obtain ⟨F2,rest,J,sf,rr,je⟩:=SI.freeze (show SI C F' H' σ a.2 ((v,a.1) :: τ) fp' from I')
   exact z F2 H' rest v J ⟨n.f.trans sf,fun hp=>by rw [je];exact n.g hp⟩ rr⟩
end
section
variable {X:Cx}{p:Bool}{e a:Expr}{k:Kd}{n:Nat}
def Qto (i:Int)(n:Nat):List L2.V:=(List.range n).map fun k=>.int (i+(k:Nat))
def Qr1 (i:Int)(n:Nat):List D:=(List.range n).map fun k=>.int (i+(k:Nat))
theorem Qi2 {f:Nat->L2.V}:∀ {l:List Nat} {us:List Value},us.length=l.length->(∀ (j:Nat) v k,us[j]? = some v->l[j]? = some k->RelV (f k) v)->Vals (l.map f) us
 | [],[],_,_=>.nil
 |k :: l,u :: us,hl,h=>.cons (h 0 u k rfl rfl) (Qi2 (by simpa using hl) fun j v k' e1 e2=>h (j+1) v k' e1 e2)
 | [],_ :: _,hl,_=>by simp at hl
 |_ :: _,[],hl,_=>by simp at hl
theorem Qjm (hc:X.calm=true):Qcm X (.type "list") (fun xs H Q=>∃ p i j,xs=[.ref p]/\H p=some (.rng i j)/\(-(2 ^ 62)<=i/\i<2 ^ 62/\-(2 ^ 62)<=j/\j<2 ^ 62)/\(j - i).toNat<=2 ^ 24/\∀ l,H l=none->Q (.ref l) (upd H l (.lst (Qto i (j - i).toNat)))):=by
 intro pins s σ H xs us Q I r h
 obtain ⟨p,i,j,rfl,hp,⟨h1,h2,h3,h4⟩,h5,q⟩:=h
 obtain ⟨u,rfl,rx⟩:=Qd9 r
 cases rx
 obtain ⟨t,t',t3,e⟩:=I.hok p _ hp
 refine call_list_range (n:=(j - i).toNat) (I.ok.hd hc) e (small_one h1 h2 h3 h4) (by rw [rangeSize_one];split<;>omega) h5 fun h' tk acc' c' kp e' it=>?_
 obtain ⟨hl,ha⟩:=it
 refine ⟨.ref s.heap.objs.size,_,I.laid kp (Nat.le_refl _) (show ObjOk X.prog X.w _ _ _ (.lst (Qto i (j - i).toNat)) from ⟨?_,acc'.toList,c',?_,?_⟩),rfl,q _ (I.hok.fresh (Nat.le_refl _))⟩
 ·rw [Qto,List.length_map,List.length_range,sizeLine_eq];omega
 ·refine Qi2 (by simp [hl]) fun n v k e1 e2=>?_
  obtain ⟨tt,rfl⟩:=ha n v (by simpa using e1)
  have:k=n:=by
   rw [List.getElem?_eq_some_iff] at e2
   obtain ⟨z,y⟩:=e2
   simpa using y.symm
  subst this
  exact ⟨tt,by simp⟩
 ·simpa using e'
theorem QiQ (i:Int):∀ (l:List Nat),D.immL (l.map fun k=>D.int (i+(k:Nat)))=true
 | []=>rfl
 |a :: l=>by rw [List.map_cons];exact Bool.and_eq_true_iff.mpr ⟨rfl,QiQ i l⟩
theorem QnB {K:PySem.W.Frag}{F:Hp}(i:Int):∀ (l:List Nat),RL K F (l.map fun k=>L2.V.int (i+(k:Nat))) (l.map fun k=>D.int (i+(k:Nat)))
 | []=>.nil
 |a :: l=>.cons (.sc rfl) (QnB i l)
end
def W {α:Type}(r:Rs α)(k:α->Prop):Prop:=∃ a,r=.ok a/\k a
section
variable {α β:Type}{k:α->Prop}
theorem W_ok {a:α}:W (.ok a) k↔k a:=⟨fun ⟨b,e,h⟩=>by cases e;exact h,fun h=>⟨a,rfl,h⟩⟩
theorem W_bind {x:Rs β}{f:β->Rs α}:W (x.bind f) k↔W x fun a=>W (f a) k:=by
 cases x with
 |ok a=>exact ⟨fun h=>⟨a,rfl,h⟩,fun ⟨b,e,h⟩=>by cases e;exact h⟩
 |ex c ρ=>exact ⟨fun ⟨_,e,_⟩=>(nomatch e),fun ⟨_,e,_⟩=>(nomatch e)⟩
 |no=>exact ⟨fun ⟨_,e,_⟩=>(nomatch e),fun ⟨_,e,_⟩=>(nomatch e)⟩
theorem W_of {a:α}:W (Rs.of (some a)) k↔k a:=W_ok
theorem QfN {c:Prop}[Decidable c]{x y:Rs α}(h1:c->W x k)(h2:¬c->W y k):W (if c then x else y) k:=by
 by_cases h:c
 ·rw [if_pos h];exact h1 h
 ·rw [if_neg h];exact h2 h
theorem W.mono {r:Rs α}{k':α->Prop}(h:W r k)(m:∀ a,k a->k' a):W r k':=by obtain ⟨a,e,h⟩:=h;exact ⟨a,e,m a h⟩
end
def FW (r:Fr)(P:D->List D->Prop):Prop:=∃ d os,r=.ok d os/\P d os
theorem Qbt {io:List Bool}{n:Nat}{mb:MS}{ds:List D}{P:D->List D->Prop}(h:W (mb (QmQ io n ds)) fun q=>∃ d os,q.1=.rt d/\outs io q.2=some os/\P d os):FW (Qb6 io n mb ds) P:=by
 obtain ⟨⟨f,ρ⟩,e,d,os,rfl,ho,p⟩:=h
 refine ⟨d,os,?_,p⟩
 unfold Qb6
 rw [e]
 dsimp only at ho ⊢
 rw [ho]
theorem QgE {io:List Bool}{n:Nat}{mb:MS}{ds:List D}{P:D->List D->Prop}(h:W (mb (QmQ io n ds)) fun q=>∃ os,q.1=.nx/\outs io q.2=some os/\P .non os):FW (Qb6 io n mb ds) P:=by
 obtain ⟨⟨f,ρ⟩,e,os,rfl,ho,p⟩:=h
 refine ⟨.non,os,?_,p⟩
 unfold Qb6
 rw [e]
 dsimp only at ho ⊢
 rw [ho]
theorem QaG {m u:MS}{ρ:Rho}{k:Fl × Rho->Prop}(J:Rho->Prop)(h1:W (m ρ) fun r=>r.1=.nx/\J r.2)(h2:∀ ρ,J ρ->W (u ρ) k):W (QaL m u ρ) k:=by
 obtain ⟨⟨f,ρ1⟩,e,e2,hj⟩:=h1
 obtain ⟨a,e3,h3⟩:=h2 ρ1 hj
 refine ⟨a,?_,h3⟩
 have e2':f=.nx:=e2
 subst e2'
 unfold QaL
 rw [e]
 exact e3
theorem Qlx {mr:MA}{ρ ρ1:Rho}{n:Int}(h:mr ρ=.ok ([.int n],ρ1))(b1 : -(2 ^ 62)<=n)(b2:n<2 ^ 62):Qek mr ρ=.ok ((List.range n.toNat).map fun j=>.int ((0:Int)+(j:Nat)),ρ1):=by
 unfold Qek
 rw [h]
 have e:QfZ [.int n]=some n:=if_pos ⟨b1,b2⟩
 show ((Rs.of (QfZ [.int n])).bind _)=_
 rw [e]
 rfl
inductive Fa2 (P:D->D->Prop):List D->List D->Prop
 |nil:Fa2 P [] []
 |cons {x y:D} {xs ys:List D} (h:P x y) (r:Fa2 P xs ys):Fa2 P (x :: xs) (y :: ys)
theorem Fa2.length {P:D->D->Prop}:∀ {xs ys:List D},Fa2 P xs ys->ys.length=xs.length
 |_,_,.nil=>rfl
 |_,_,.cons _ r=>by simp [r.length]
theorem Qj3 {j:Nat}{tc:MT}{te:ME}{Inv:Rho->Prop}{Pd:D->D->Prop}:∀ {ds:List D} {ρ:Rho} {acc:List D},(∀ d∈ds,∀ ρ,Inv ρ->∃ ρ0,setF ρ j d=some ρ0/\W (tc ρ0) fun c=>c.1=true/\W (te c.2) fun r=>Inv (r.2.set j none)/\Pd d r.1)->Inv ρ->acc.length+ds.length<=sizeLine->
  W (Qdn j tc te ds ρ acc) fun q=>Inv q.2/\∃ ys,q.1=acc++ys/\Fa2 Pd ds ys
 | [],ρ,acc,h,i,l=>W_ok.mpr ⟨i,[],by simp,.nil⟩
 |d :: ds,ρ,acc,h,i,l=>by
  obtain ⟨ρ0,e0,h1⟩:=h d List.mem_cons_self ρ i
  unfold Qdn
  rw [e0]
  refine W_bind.mpr (W_of.mpr (W_bind.mpr (h1.mono fun c ⟨hc,h2⟩=>?_)))
  rw [if_pos hc]
  refine W_bind.mpr (h2.mono fun r ⟨h3,h4⟩=>?_)
  rw [if_pos (by simp at l;omega)]
  refine (Qj3 (acc:=acc++[r.1]) (fun d' hd'=>h d' (List.mem_cons_of_mem _ hd')) h3 (by simp at l ⊢;omega)).mono fun q ⟨h5,ys,e,f⟩=>⟨h5,r.1 :: ys,by rw [e];simp,.cons h4 f⟩
theorem Qrs {par:Bool}{cs:List Cp}{j:Nat}{mi:MA}{tc:MT}{te:ME}{ρ ρ1 ρb:Rho}{ds di:List D}{k:D × Rho->Prop}{Inv:Rho->Prop}{Pd:D->D->Prop}(h1:mi ρ=.ok (ds,ρ1))(h2:Qdl par ρ1 (cs.filterMap Cp.is)=some di)(h3:Qd3 ρ1 cs di=some ρb)
  (hs:∀ d∈ds,∀ ρ,Inv ρ->∃ ρ0,setF ρ j d=some ρ0/\W (tc ρ0) fun c=>c.1=true/\W (te c.2) fun r=>Inv (r.2.set j none)/\Pd d r.1) (i:Inv ρb) (l:ds.length<=sizeLine)
  (hk:∀ ys ρ2,Inv ρ2->Fa2 Pd ds ys->∃ os,outs (ioB cs) ρ2=some os/\k (.lst ys,QcT par ρ1 (cs.filterMap Cp.is) os)):W (QbD par cs j mi tc te ρ) k:=by
 obtain ⟨⟨q1,q2⟩,e,h4,ys,eq,h5⟩:=Qj3 (acc:=[]) hs i (by simpa using l)
 have eq':ys=q1:=eq.symm
 subst eq'
 obtain ⟨os,ho,h6⟩:=hk ys q2 h4 h5
 refine ⟨_,?_,h6⟩
 unfold QbD
 rw [h1]
 show ((Rs.of (Qdl par ρ1 (cs.filterMap Cp.is))).bind _)=_
 rw [h2]
 show ((Rs.of (Qd3 ρ1 cs di)).bind _)=_
 rw [h3]
 show (match Qdn j tc te ds ρb [] with | .ok q=>_ | _=>_)=_
 rw [e]
 show ((Rs.of (outs (ioB cs) q2)).bind _)=_
 rw [ho]
 rfl
theorem Qea {j:Nat}{tc:MT}{te:ME}{f:D->Bool}{g:D->D}{ρ:Rho}:∀ {ds:List D} {acc:List D},(∀ d∈ds,∃ ρ0,setF ρ j d=some ρ0/\tc ρ0=.ok (f d,ρ0)/\(f d=true->te ρ0=.ok (g d,ρ0))/\ρ0.set j none=ρ)->acc.length+ds.length<=sizeLine->
  Qdn j tc te ds ρ acc=.ok (acc++(ds.filter f).map g,ρ)
 | [],acc,h,l=>by simp [Qdn]
 |d :: ds,acc,h,l=>by
  obtain ⟨ρ0,e0,e1,e2,e3⟩:=h d List.mem_cons_self
  unfold Qdn
  rw [e0]
  show ((tc ρ0).bind _)=_
  rw [e1]
  by_cases hf:f d=true
  ·show (if f d=true then _ else _)=_
   rw [if_pos hf,e2 hf]
   show (if acc.length<sizeLine then _ else _)=_
   rw [if_pos (by simp at l;omega),e3,Qea (fun d' hd'=>h d' (List.mem_cons_of_mem _ hd')) (by simp at l ⊢;omega),List.filter_cons,if_pos hf]
   simp
  ·show (if f d=true then _ else _)=_
   rw [if_neg hf,e3,Qea (fun d' hd'=>h d' (List.mem_cons_of_mem _ hd')) (by simp at l ⊢;omega),List.filter_cons,if_neg hf]
theorem Qgv {par:Bool}{cs:List Cp}{j:Nat}{mi:MA}{tc:MT}{te:ME}{ρ ρ1 ρb:Rho}{ds di os:List D}{f:D->Bool}{g:D->D}(h1:mi ρ=.ok (ds,ρ1))(h2:Qdl par ρ1 (cs.filterMap Cp.is)=some di)(h3:Qd3 ρ1 cs di=some ρb)
  (hs:∀ d∈ds,∃ ρ0,setF ρb j d=some ρ0/\tc ρ0=.ok (f d,ρ0)/\(f d=true->te ρ0=.ok (g d,ρ0))/\ρ0.set j none=ρb) (l:ds.length<=sizeLine) (ho:outs (ioB cs) ρb=some os) (hp:QcT par ρ1 (cs.filterMap Cp.is) os=ρ1):QbD par cs j mi tc te ρ=.ok (.lst ((ds.filter f).map g),ρ1):=by
 unfold QbD
 rw [h1]
 show ((Rs.of (Qdl par ρ1 (cs.filterMap Cp.is))).bind _)=_
 rw [h2]
 show ((Rs.of (Qd3 ρ1 cs di)).bind _)=_
 rw [h3]
 show (match Qdn j tc te ds ρb [] with | .ok q=>_ | _=>_)=_
 rw [Qea hs (by simpa using l)]
 show ((Rs.of (outs (ioB cs) ρb)).bind _)=_
 rw [ho]
 show Rs.ok _=_
 rw [hp]
 simp
theorem QfR {par:Bool}{cs:List Cp}{j:Nat}{mi:MA}{te:ME}{ρ ρ1 ρb:Rho}{ds di os:List D}{g:D->D}(h1:mi ρ=.ok (ds,ρ1))(h2:Qdl par ρ1 (cs.filterMap Cp.is)=some di)(h3:Qd3 ρ1 cs di=some ρb)
  (hs:∀ d∈ds,∃ ρ0,setF ρb j d=some ρ0/\te ρ0=.ok (g d,ρ0)/\ρ0.set j none=ρb) (l:ds.length<=sizeLine) (ho:outs (ioB cs) ρb=some os) (hp:QcT par ρ1 (cs.filterMap Cp.is) os=ρ1):QbD par cs j mi Qgu te ρ=.ok (.lst (ds.map g),ρ1):=by
 rw [Qgv (f:=fun _=>true) (g:=g) h1 h2 h3 (fun d hd=>by obtain ⟨ρ0,e1,e2,e3⟩:=hs d hd;exact ⟨ρ0,e1,rfl,fun _=>e2,e3⟩) l ho hp,List.filter_eq_self.mpr fun _ _=>rfl]
theorem Qng {tg:D->Rho->Option Rho}{mb:MS}{k:Fl × Rho->Prop}(Inv:Nat->Rho->Prop){ds:List D}(step:∀ i d ρ,ds[i]? = some d->Inv i ρ->∃ ρ1,tg d ρ=some ρ1/\W (mb ρ1) fun r=>r.1=.nx/\Inv (i+1) r.2) :
  ∀ (n i:Nat) (ρ:Rho),ds.length - i=n->i<=ds.length->Inv i ρ->(∀ ρ',Inv ds.length ρ'->k (.nx,ρ'))->W (Qmd tg mb (ds.drop i) ρ) k
 |0,i,ρ,hn,hi,h,hk=>by
  have:i=ds.length:=by omega
  subst this
  rw [List.drop_length]
  exact W_ok.mpr (hk _ h)
 |n+1,i,ρ,hn,hi,h,hk=>by
  have hlt:i<ds.length:=by omega
  rw [List.drop_eq_getElem_cons hlt]
  obtain ⟨ρ1,e1,h1⟩:=step i ds[i] ρ (List.getElem?_eq_getElem hlt) h
  unfold Qmd
  rw [e1]
  refine W_bind.mpr (W_of.mpr (W_bind.mpr (h1.mono fun r ⟨e2,h2⟩=>?_)))
  rw [e2]
  exact Qng Inv step n (i+1) r.2 (by omega) (by omega) h2 hk
theorem QfA {a b:Int}:gEq (.int a) (.int b)=some (.bl (decide (a=b))):=by
 show (eqS (.int a) (.int b)).map D.bl=_
 unfold eqS
 rw [if_pos (by rfl)]
 show some _=some _
 congr 2
 by_cases h:a=b<;>simp [h]
theorem Qkt {a b:Int}:gNe (.int a) (.int b)=some (.bl (decide (a≠b))):=by
 have:=QfA (a:=a) (b:=b)
 unfold gEq at this
 unfold gNe
 cases h:eqb 30 (.int a) (.int b) with
 |none=>rw [h] at this;cases this
 |some c=>
  rw [h] at this
  cases this
  show some _=some _
  by_cases h:a=b<;>simp [h]
theorem Qul {a b c:Int}:gIn (.int a) (.nd .tup [.int b,.int c])=some (.bl (decide (b=a\/c=a))):=by
 have h1:=QfA (a:=b) (b:=a)
 have h2:=QfA (a:=c) (b:=a)
 obtain ⟨x,e1,e1'⟩:=Option.map_eq_some_iff.mp h1
 obtain ⟨y,e2,e2'⟩:=Option.map_eq_some_iff.mp h2
 show ((inL (eqb 30) (.int a) [.int b,.int c])).map D.bl=_
 unfold inL inL inL
 rw [e1,e2]
 cases e1';cases e2'
 show some _=some _
 by_cases q:b=a<;>by_cases r:c=a<;>simp [q,r]
theorem Fa2.all {P:D->Prop}:∀ {xs ys:List D},Fa2 (fun _ y=>P y) xs ys->∀ y∈ys,P y
 |_,_,.nil,_,h=>nomatch h
 |_,_,.cons h r,y,hy=>by
  rcases List.mem_cons.mp hy with rfl | hy
  ·exact h
  ·exact r.all y hy
section
variable {s:Option Sl}{ρ ρ1 ρ2:Rho}{k:D × Rho->Prop}{kt:Bool × Rho->Prop}{ka:List D × Rho->Prop}{ko:Option Int × Rho->Prop}{kf:Fl × Rho->Prop}{a b m u:ME}{mt mu:MT}{mr:MA}{ms mv:MS}{d x y:D}{xs ys:List D}{i:Nat}{g:D->D->Option D}{c:Bool}{lo hi:MO}
def vK (o:Option (Option Sl))(i:Nat)(ρ:Rho):Rs (D × Rho):=match o with
 |some (some (.frz d))=>.ok (d,ρ)
 |some (some (.own d))=>.ok (d,ρ.set i (some (.frz d)))
 |_=>.no
theorem QpW:vK (some (some (.frz d))) i ρ=.ok (d,ρ):=rfl
theorem QqO:vK (some (some (.own d))) i ρ=.ok (d,ρ.set i (some (.frz d))):=rfl
theorem w_V:W (mV i (s :: ρ)) k↔W (vK ((s :: ρ)[i]?) i (s :: ρ)) k:=Iff.rfl
def bK (o:Option (Option Sl))(ρ:Rho):Rs (D × Rho):=match o with
 |some (some (.frz d))=>.ok (d,ρ)
 |some (some (.own d))=>.ok (d,ρ)
 |some (some (.par d))=>.ok (d,ρ)
 |_=>.no
theorem Qqh:bK (some (some (.frz d))) ρ=.ok (d,ρ):=rfl
theorem Qq1:bK (some (some (.own d))) ρ=.ok (d,ρ):=rfl
theorem Qra:bK (some (some (.par d))) ρ=.ok (d,ρ):=rfl
theorem w_B:W (mB i (s :: ρ)) k↔W (bK ((s :: ρ)[i]?) (s :: ρ)) k:=Iff.rfl
def oK (o:Option (Option Sl))(i:Nat)(ρ:Rho):Rs (D × Rho):=match o with
 |some (some (.own d))=>.ok (d,ρ.set i none)
 |_=>.no
theorem QqV:oK (some (some (.own d))) i ρ=.ok (d,ρ.set i none):=rfl
theorem w_O:W (mO i (s :: ρ)) k↔W (oK ((s :: ρ)[i]?) i (s :: ρ)) k:=Iff.rfl
def sK (o:Option (Option Sl))(ρ:Rho):Rs (D × Rho):=match o with
 |some (some (.own d))=>.ok (d,ρ)
 |some (some (.par d))=>.ok (d,ρ)
 |_=>.no
theorem Qqg:sK (some (some (.own d))) ρ=.ok (d,ρ):=rfl
theorem QpZ:sK (some (some (.par d))) ρ=.ok (d,ρ):=rfl
theorem w_S:W (mS i (s :: ρ)) k↔W (sK ((s :: ρ)[i]?) (s :: ρ)) k:=Iff.rfl
theorem w_C:W (mC d (s :: ρ)) k↔k (d,s :: ρ):=W_ok
def iK (r:D × Rho):Rs (D × Rho):=if r.1.imm=true then .ok r else .no
theorem Qtc:iK (d,ρ)=if d.imm=true then .ok (d,ρ) else .no:=rfl
theorem w_I:W (mI m (s :: ρ)) k↔W (m (s :: ρ)) fun r=>W (iK r) k:=W_bind
def opK (g:D->D->Option D)(r1 r2:D × Rho):Rs (D × Rho):=Rs.of ((g r1.1 r2.1).map fun d=>(d,r2.2))
theorem QpX:opK g (x,ρ1) (y,ρ2)=Rs.of ((g x y).map fun d=>(d,ρ2)):=rfl
theorem QuE:W (mOp g a b (s :: ρ)) k↔W (a (s :: ρ)) fun r1=>W (b r1.2) fun r2=>W (opK g r1 r2) k:=by simp only [mOp,W_bind,opK]
def tK (r:D × Rho):Rs (Bool × Rho):=Rs.of ((asB r.1).map fun b=>(b,r.2))
theorem Qte:tK (.bl c,ρ)=.ok (c,ρ):=rfl
theorem Qr7:W (QaJ m (s :: ρ)) kt↔W (m (s :: ρ)) fun r=>W (tK r) kt:=W_bind
def nK (r:Bool × Rho):Rs (Bool × Rho):=.ok (!r.1,r.2)
theorem Qti:nK (c,ρ)=.ok (!c,ρ):=rfl
theorem Qtz:W (Qh4 mt (s :: ρ)) kt↔W (mt (s :: ρ)) fun r=>W (nK r) kt:=W_bind
def anK (u:MT)(r:Bool × Rho):Rs (Bool × Rho):=if r.1=true then u r.2 else .ok (false,r.2)
theorem Qr8:anK mu (c,ρ)=if c=true then mu ρ else .ok (false,ρ):=rfl
theorem QsM:W (Qs0 mt mu (s :: ρ)) kt↔W (mt (s :: ρ)) fun r=>W (anK mu r) kt:=W_bind
def orK (u:MT)(r:Bool × Rho):Rs (Bool × Rho):=if r.1=true then .ok (true,r.2) else u r.2
theorem Qrm:orK mu (c,ρ)=if c=true then .ok (true,ρ) else mu ρ:=rfl
theorem Quw:W (mOr mt mu (s :: ρ)) kt↔W (mt (s :: ρ)) fun r=>W (orK mu r) kt:=W_bind
def feK (a b:ME)(r:Bool × Rho):Rs (D × Rho):=if r.1=true then a r.2 else b r.2
theorem QrI:feK a b (c,ρ)=if c=true then a ρ else b ρ:=rfl
theorem Qtk:W (QsV mt a b (s :: ρ)) k↔W (mt (s :: ρ)) fun r=>W (feK a b r) k:=W_bind
theorem QsT:W (Qal (s :: ρ)) ka↔ka ([],s :: ρ):=W_ok
def coK (r:D × Rho)(q:List D × Rho):Rs (List D × Rho):=.ok (r.1 :: q.1,q.2)
theorem Qp9:coK (d,ρ1) (xs,ρ2)=.ok (d :: xs,ρ2):=rfl
theorem Qr9:W (Qab m mr (s :: ρ)) ka↔W (m (s :: ρ)) fun r=>W (mr r.2) fun q=>W (coK r q) ka:=by simp only [Qab,W_bind,coK]
def cbK (g:List D->Option D)(r:List D × Rho):Rs (D × Rho):=Rs.of ((g r.1).map fun d=>(d,r.2))
theorem Qse {g:List D->Option D}:cbK g (xs,ρ)=Rs.of ((g xs).map fun d=>(d,ρ)):=rfl
theorem Qpg {g:List D->Option D}:W (Qau g mr (s :: ρ)) k↔W (mr (s :: ρ)) fun r=>W (cbK g r) k:=W_bind
def lsK (r:List D × Rho):Rs (D × Rho):=if r.1.length<=sizeLine then .ok (.lst r.1,r.2) else .no
theorem QqA:lsK (xs,ρ)=if xs.length<=sizeLine then .ok (.lst xs,ρ) else .no:=rfl
theorem QsN:W (Qoa mr (s :: ρ)) k↔W (mr (s :: ρ)) fun r=>W (lsK r) k:=W_bind
def tuK (r:List D × Rho):Rs (D × Rho):=if r.1.length<=sizeLine then .ok (.tup r.1,r.2) else .no
theorem QqE:tuK (xs,ρ)=if xs.length<=sizeLine then .ok (.tup xs,ρ) else .no:=rfl
theorem Qtq:W (Qe6 mr (s :: ρ)) k↔W (mr (s :: ρ)) fun r=>W (tuK r) k:=W_bind
def loK (r:List D × Rho):Rs (D × Rho):=if r.1.length<=sizeLine then (if D.immL r.1=true then .ok (.lst r.1,r.2) else .no) else .no
theorem Qsw:loK (xs,ρ)=if xs.length<=sizeLine then (if D.immL xs=true then .ok (.lst xs,ρ) else .no) else .no:=rfl
theorem Qri:W (Qgg mr (s :: ρ)) k↔W (mr (s :: ρ)) fun r=>W (loK r) k:=W_bind
def liK (r:List D × Rho):Rs (D × Rho):=(Rs.of (Qjx r.1)).bind fun ds=>if D.immL ds=true then .ok (.lst ds,r.2) else .no
theorem QqW:liK ([.nd .lst xs],ρ)=if D.immL xs=true then .ok (.lst xs,ρ) else .no:=rfl
theorem QoS:W (Qj1 mr (s :: ρ)) k↔W (mr (s :: ρ)) fun r=>W (liK r) k:=W_bind
theorem Qqa:W (Qbw (s :: ρ)) kf↔kf (.nx,s :: ρ):=W_ok
def sqK (u:MS)(r:Fl × Rho):Rs (Fl × Rho):=match r.1 with
 |.nx=>u r.2
 |f=>.ok (f,r.2)
theorem QrR:sqK mv (.nx,ρ)=mv ρ:=rfl
theorem Qq0:sqK mv (.rt d,ρ)=.ok (.rt d,ρ):=rfl
theorem QtK:W (QaL ms mv (s :: ρ)) kf↔W (ms (s :: ρ)) fun r=>W (sqK mv r) kf:=W_bind
def rtK (r:D × Rho):Rs (Fl × Rho):=.ok (.rt r.1,r.2)
theorem Qsl:rtK (d,ρ)=.ok (.rt d,ρ):=rfl
theorem QtE:W (Qcj m (s :: ρ)) kf↔W (m (s :: ρ)) fun r=>W (rtK r) kf:=W_bind
def ifK (a b:MS)(r:Bool × Rho):Rs (Fl × Rho):=if r.1=true then a r.2 else b r.2
theorem Qso:ifK ms mv (c,ρ)=if c=true then ms ρ else mv ρ:=rfl
theorem Qui:W (mIf mt ms mv (s :: ρ)) kf↔W (mt (s :: ρ)) fun r=>W (ifK ms mv r) kf:=W_bind
def svK (i:Nat)(r:D × Rho):Rs (Fl × Rho):=(Rs.of (setF r.2 i r.1)).bind fun ρ'=>.ok (.nx,ρ')
theorem Qrt:svK i (d,ρ)=(Rs.of (setF ρ i d)).bind fun ρ'=>.ok (.nx,ρ'):=rfl
theorem Qp7:W (QaX i m (s :: ρ)) kf↔W (m (s :: ρ)) fun r=>W (svK i r) kf:=W_bind
theorem QqQ:W (Qmq i m (s :: ρ)) kf↔W (m (s :: ρ)) fun r=>W (svK i r) kf:=W_bind
def soK (i:Nat)(r:D × Rho):Rs (Fl × Rho):=(Rs.of (setW r.2 i r.1)).bind fun ρ'=>.ok (.nx,ρ')
theorem Qsm:soK i (d,ρ)=(Rs.of (setW ρ i d)).bind fun ρ'=>.ok (.nx,ρ'):=rfl
theorem Qq7:W (Qct i m (s :: ρ)) kf↔W (m (s :: ρ)) fun r=>W (soK i r) kf:=W_bind
def unK (g:D->Option D)(r:D × Rho):Rs (D × Rho):=Rs.of ((g r.1).map fun d=>(d,r.2))
theorem Qr5 {g:D->Option D}:unK g (d,ρ)=Rs.of ((g d).map fun d=>(d,ρ)):=rfl
theorem QuC {g:D->Option D}:W (mUn g m (s :: ρ)) k↔W (m (s :: ρ)) fun r=>W (unK g r) k:=W_bind
def ixK (i:Nat)(m:ME)(r:D × Rho):Rs (Fl × Rho):=(Rs.of (Qdp r.2 i)).bind fun _=>(m r.2).bind fun s=>(Rs.of (Qdp s.2 i)).bind fun q=>(Rs.of ((asI s.1).bind fun n=>ixN q.2.length n)).bind fun j=>
 .ok (.nx,s.2.set i (some (mkS q.1 (.lst (q.2.set j r.1)))))
def QtI (i:Nat)(d:D)(t:D × Rho):Rs (Fl × Rho):=(Rs.of (Qdp t.2 i)).bind fun q=>(Rs.of ((asI t.1).bind fun n=>ixN q.2.length n)).bind fun j=>
 .ok (.nx,t.2.set i (some (mkS q.1 (.lst (q.2.set j d)))))
theorem Qn6:QtI i d (x,ρ)=(Rs.of (Qdp ρ i)).bind fun q=>(Rs.of ((asI x).bind fun n=>ixN q.2.length n)).bind fun j=>.ok (.nx,ρ.set i (some (mkS q.1 (.lst (q.2.set j d))))):=rfl
theorem Qp0:W (ixK i m (d,s :: ρ)) kf↔W (Rs.of (Qdp (s :: ρ) i)) fun _=>W (m (s :: ρ)) fun t=>W (QtI i d t) kf:=by simp only [ixK,W_bind,QtI]
theorem QoP:W (Qg2 i a m (s :: ρ)) kf↔W (a (s :: ρ)) fun r=>W (ixK i m r) kf:=W_bind
def apK (i:Nat)(r:D × Rho):Rs (Fl × Rho):=(Rs.of (Qdp r.2 i)).bind fun q=>if q.2.length<sizeLine then .ok (.nx,r.2.set i (some (mkS q.1 (.lst (q.2++[r.1]))))) else .no
theorem QrD:apK i (d,ρ)=(Rs.of (Qdp ρ i)).bind fun q=>if q.2.length<sizeLine then .ok (.nx,ρ.set i (some (mkS q.1 (.lst (q.2++[d]))))) else .no:=rfl
theorem Qtn:W (QpP i m (s :: ρ)) kf↔W (Rs.of (Qdp (s :: ρ) i)) fun _=>W (m (s :: ρ)) fun r=>W (apK i r) kf:=by simp only [QpP,W_bind,apK]
def prK (r:D × Rho):Rs (Option Int × Rho):=(Rs.of (asI r.1)).bind fun i=>.ok (some i,r.2)
theorem QqR {j:Int}:prK (.int j,ρ)=.ok (some j,ρ):=rfl
theorem QtT:W (QpR m (s :: ρ)) ko↔W (m (s :: ρ)) fun r=>W (prK r) ko:=W_bind
def slK (r:D × Rho)(l h:Option Int × Rho):Rs (D × Rho):=(Rs.of (asL r.1)).bind fun xs=>.ok (.lst (Qm3 xs l.1 h.1),h.2)
theorem Qqb {l h:Option Int}:slK (.nd .lst xs,ρ) (l,ρ1) (h,ρ2)=.ok (.lst (Qm3 xs l h),ρ2):=rfl
theorem QsZ:W (Qq2 m lo hi (s :: ρ)) k↔W (m (s :: ρ)) fun r=>W (lo r.2) fun l=>W (hi l.2) fun h=>W (slK r l h) k:=by simp only [Qq2,W_bind,slK]
def ctK (r1 r2:D × Rho):Rs (D × Rho):=(Rs.of (asL r1.1)).bind fun xs=>(Rs.of (asL r2.1)).bind fun ys=>if xs.length+ys.length<=sizeLine then .ok (.lst (xs++ys),r2.2) else .no
theorem QqZ:ctK (.nd .lst xs,ρ1) (.nd .lst ys,ρ2)=if xs.length+ys.length<=sizeLine then .ok (.lst (xs++ys),ρ2) else .no:=rfl
theorem Qqe:W (QrB a b (s :: ρ)) k↔W (a (s :: ρ)) fun r1=>W (b r1.2) fun r2=>W (ctK r1 r2) k:=by simp only [QrB,W_bind,ctK]
def cuK (r1 r2:D × Rho):Rs (D × Rho):=(Rs.of (asL r1.1)).bind fun xs=>(Rs.of (asL r2.1)).bind fun ys=>if xs.length+ys.length<=sizeLine then (if D.immL (xs++ys)=true then .ok (.lst (xs++ys),r2.2) else .no) else .no
theorem QrU:cuK (.nd .lst xs,ρ1) (.nd .lst ys,ρ2)=if xs.length+ys.length<=sizeLine then (if D.immL (xs++ys)=true then .ok (.lst (xs++ys),ρ2) else .no) else .no:=rfl
theorem Qsy:W (Qr6 a b (s :: ρ)) k↔W (a (s :: ρ)) fun r1=>W (b r1.2) fun r2=>W (cuK r1 r2) k:=by simp only [Qr6,W_bind,cuK]
def avK (b:ME)(r:D × Rho):Rs (D × Rho):=(Rs.of (asB r.1)).bind fun c=>if c=true then b r.2 else .ok (.bl false,r.2)
theorem QqC:avK b (.bl c,ρ)=if c=true then b ρ else .ok (.bl false,ρ):=rfl
theorem Qqf:W (QhS a b (s :: ρ)) k↔W (a (s :: ρ)) fun r=>W (avK b r) k:=W_bind
def chK (g g':D->D->Option D)(mc:ME)(r1 r2:D × Rho):Rs (D × Rho):=(Rs.of ((g r1.1 r2.1).bind asB)).bind fun q=>if q=true then (mc r2.2).bind fun r3=>Rs.of ((g' r2.1 r3.1).map fun d=>(d,r3.2)) else .ok (.bl false,r2.2)
theorem Qsg {g':D->D->Option D}:chK g g' u (x,ρ1) (y,ρ2)=(Rs.of ((g x y).bind asB)).bind fun q=>if q=true then (u ρ2).bind fun r3=>Rs.of ((g' y r3.1).map fun d=>(d,r3.2)) else .ok (.bl false,ρ2):=rfl
theorem Qon {g':D->D->Option D}:W (Qfy g g' a b u (s :: ρ)) k↔W (a (s :: ρ)) fun r1=>W (b r1.2) fun r2=>W (chK g g' u r1 r2) k:=by simp only [Qfy,W_bind,chK]
end
theorem Qoy {bs:List Bool}:Qrb [.lst (bs.map .bl)]=some (.bl (bs.all fun b=>b)):=by
 have:QnP (bs.map .bl)=some bs:=by
  induction bs with
  |nil=>rfl
  |cons b bs ih=>rw [List.map_cons,QnP,ih];rfl
 show (QnP (bs.map .bl)).map _=_
 rw [this];rfl
def pl (q:Int × Int):D:=.tup [.int q.1,.int q.2]
section
variable {e:Expr}
theorem R.str {K:PySem.W.Frag}{F:Hp}{v:L2.V}{z:Str}(r:R K F v (.str z)):v=.str z:=by
 cases r with | sc e=>cases e;rfl
theorem R.int {K:PySem.W.Frag}{F:Hp}{v:L2.V}{z:Int}(r:R K F v (.int z)):v=.int z:=by
 cases r with | sc e=>cases e;rfl
theorem R.bl {K:PySem.W.Frag}{F:Hp}{v:L2.V}{z:Bool}(r:R K F v (.bl z)):v=.bl z:=by
 cases r with | sc e=>cases e;rfl
end
section
variable {X:Cx}{k:Kd}
def QnV:List D->Option D
 | [.int i]=>some (.int i)
 | [.bl k]=>some (.int (if k then 1 else 0))
 | [.str x]=>if x.length<=640 then (PySem.intText? x).map D.int else none
 |_=>none
theorem QgP:Qcm X (.type "int") (fun xs H Q=>(∃ i,xs=[.int i]/\Q (.int i) H)\/(∃ k,xs=[.bl k]/\Q (.int (if k then 1 else 0)) H)\/(∃ (x:Str) (n:Int),xs=[.str x]/\PySem.intText? x=some n/\x.length<=640/\Q (.int n) H)):=fun pins s σ H xs us Q I r h=>by
 rcases h with h | h | h
 ·exact QgX pins s σ H xs us Q I r (.inl h)
 ·exact QgX pins s σ H xs us Q I r (.inr h)
 ·exact QfC pins s σ H xs us Q I r h
theorem Qt7 {K:PySem.W.Frag}:QeO K (fun xs H Q=>(∃ i,xs=[.int i]/\Q (.int i) H)\/(∃ k,xs=[.bl k]/\Q (.int (if k then 1 else 0)) H)\/(∃ (x:Str) (n:Int),xs=[.str x]/\PySem.intText? x=some n/\x.length<=640/\Q (.int n) H)) QnV:=fun H vs ds res r eg=>by
 unfold QnV at eg
 split at eg
 ·cases eg
  obtain ⟨v,rfl,r1⟩:=r.one
  obtain rfl:=R.int r1
  exact ⟨_,rfl,fun Q h=>.inl ⟨_,rfl,h⟩⟩
 ·cases eg
  obtain ⟨v,rfl,r1⟩:=r.one
  obtain rfl:=R.bl r1
  exact ⟨_,rfl,fun Q h=>.inr (.inl ⟨_,rfl,h⟩)⟩
 ·split at eg
  ·rename_i hz
   obtain ⟨n,e1,rfl⟩:=Option.map_eq_some_iff.mp eg
   obtain ⟨v,rfl,r1⟩:=r.one
   obtain rfl:=R.str r1
   exact ⟨_,rfl,fun Q h=>.inr (.inr ⟨_,_,rfl,e1,hz,h⟩)⟩
  ·cases eg
 ·cases eg
end
section
variable {s:Option Sl}{ρ ρ1:Rho}{k:D × Rho->Prop}{ka:List D × Rho->Prop}{kf:Fl × Rho->Prop}{m:ME}{mr:MA}{d x:D}{xs:List D}{i:Nat}{c:Bool}
def clK (rk:Kd)(f:List D->Fr)(r:List D × Rho):Rs (D × Rho):=match f r.1 with
 |.ok d _=>match rk with
  |.V=>if d.imm=true then .ok (d,r.2) else .no
  |_=>.ok (d,r.2)
 |.ex c=>.ex c r.2
 |.no=>.no
theorem Qoj {rk:Kd}{f:List D->Fr}:W (Qaj rk f mr (s :: ρ)) k↔W (mr (s :: ρ)) fun r=>W (clK rk f r) k:=W_bind
theorem QaK {f:List D->Fr}{os:List D}(h:f xs=.ok d os):W (clK .V f (xs,ρ)) k↔d.imm=true/\k (d,ρ):=by
 show W (match f xs with | .ok d _=>_ | .ex c=>_ | .no=>_) k↔_
 rw [h]
 show W (if d.imm=true then _ else _) k↔_
 by_cases hd:d.imm=true
 ·rw [if_pos hd];exact ⟨fun z=>⟨hd,W_ok.mp z⟩,fun z=>W_ok.mpr z.2⟩
 ·rw [if_neg hd];exact ⟨fun ⟨_,e,_⟩=>(nomatch e),fun z=>absurd z.1 hd⟩
theorem Qfg {f:List D->Fr}{os:List D}(h:f xs=.ok d os):W (clK .O f (xs,ρ)) k↔k (d,ρ):=by
 show W (match f xs with | .ok d _=>_ | .ex c=>_ | .no=>_) k↔_
 rw [h];exact W_ok
def tvK (r:List D × Rho):Rs (D × Rho):=(Rs.of (Qjx r.1)).bind fun ds=>.ok (.tup ds,r.2)
theorem Qo2:tvK ([.nd .lst xs],ρ)=.ok (.tup xs,ρ):=rfl
theorem Qn2:tvK ([.nd .tup xs],ρ)=.ok (.tup xs,ρ):=rfl
theorem Qrp:W (Qmt mr (s :: ρ)) k↔W (mr (s :: ρ)) fun r=>W (tvK r) k:=W_bind
def exK (i:Nat)(r:D × Rho):Rs (Fl × Rho):=(Rs.of (Qdp r.2 i)).bind fun q=>(Rs.of (asL r.1)).bind fun ds=>if q.2.length+ds.length<=sizeLine then .ok (.nx,r.2.set i (some (mkS q.1 (.lst (q.2++ds))))) else .no
theorem Qq3:exK i (d,ρ)=(Rs.of (Qdp ρ i)).bind fun q=>(Rs.of (asL d)).bind fun ds=>if q.2.length+ds.length<=sizeLine then .ok (.nx,ρ.set i (some (mkS q.1 (.lst (q.2++ds))))) else .no:=rfl
theorem Qs4:W (QpM i m (s :: ρ)) kf↔W (Rs.of (Qdp (s :: ρ) i)) fun _=>W (m (s :: ρ)) fun r=>W (exK i r) kf:=by simp only [QpM,W_bind,exK]
def cK (par:Bool)(as:List (Option Nat))(f:List D->Fr)(r:List D × Rho):Rs (D × Rho):=(Rs.of (Qdl par r.2 (as.filterMap id))).bind fun dis=>match f (QmM as r.1 dis) with
 |.ok d outs=>.ok (d,QcT par r.2 (as.filterMap id) outs)
 |.ex c=>if (as.filterMap id).isEmpty=true then .ex c r.2 else .no
 |.no=>.no
theorem Qrx {par:Bool}{as:List (Option Nat)}{f:List D->Fr}:W (QbS par as f mr (s :: ρ)) k↔W (mr (s :: ρ)) fun r=>W (cK par as f r) k:=W_bind
theorem QqP {par:Bool}{as:List (Option Nat)}{f:List D->Fr}{args dis:List D}{P:D->List D->Prop}(h2:Qdl par ρ (as.filterMap id)=some dis)(h3:FW (f (QmM as args dis)) P)(h4:∀ d os,P d os->k (d,QcT par ρ (as.filterMap id) os)):W (cK par as f (args,ρ)) k:=by
 obtain ⟨d,os,e,p⟩:=h3
 refine ⟨_,?_,h4 d os p⟩
 unfold cK
 rw [h2]
 show (match f (QmM as args dis) with | .ok d outs=>_ | .ex c=>_ | .no=>_)=_
 rw [e]
theorem Qpf {par:Bool}{i:Nat}{f:List D->Fr}{p0 p:D}{P:D->List D->Prop}(hi:ρ[i]? = some (some (mkS par p)))(h3:FW (f [p]) P)(h4:∀ d os,P d os->∃ q,os=[q]/\k (d,ρ.set i (some (mkS par q)))):W (cK par [some i] f ([p0],ρ)) k:=by
 refine QqP (dis:=[p]) ?_ h3 fun d os h=>?_
 ·show Qdl par ρ [i]=_
  unfold Qdl Qdl;rw [hi];cases par<;>rfl
 ·obtain ⟨q,rfl,h5⟩:=h4 d os h;exact h5
theorem QdF {par:Bool}{i:Nat}{f:List D->Fr}{p0 p x:D}{P:D->List D->Prop}(hi:ρ[i]? = some (some (mkS par p)))(h3:FW (f [p,x]) P)(h4:∀ d os,P d os->∃ q,os=[q]/\k (d,ρ.set i (some (mkS par q)))):W (cK par [some i,none] f ([p0,x],ρ)) k:=by
 refine QqP (dis:=[p]) ?_ h3 fun d os h=>?_
 ·show Qdl par ρ [i]=_
  unfold Qdl Qdl;rw [hi];cases par<;>rfl
 ·obtain ⟨q,rfl,h5⟩:=h4 d os h;exact h5
theorem Qmf {rk:Kd}{f:List D->Fr}{P:D->List D->Prop}(h3:FW (f xs) P)(h4:∀ d os,P d os->(rk=.V->d.imm=true)/\k (d,ρ)):W (clK rk f (xs,ρ)) k:=by
 obtain ⟨d,os,e,p⟩:=h3
 refine ⟨_,?_,(h4 d os p).2⟩
 unfold clK
 dsimp only
 rw [e]
 cases rk with
 |V=>show (if d.imm=true then _ else _)=_;rw [if_pos ((h4 d os p).1 rfl)]
 |O=>rfl
 |B=>rfl
 |S i=>rfl
def flK (tg:D->Rho->Option Rho)(mb:MS)(r:List D × Rho):Rs (Fl × Rho):=Qmd tg mb r.1 r.2
theorem QtR {mi:MA}{tg:D->Rho->Option Rho}{mb:MS}:W (Qip mi tg mb (s :: ρ)) kf↔W (mi (s :: ρ)) fun r=>W (flK tg mb r) kf:=W_bind
theorem QdX {tg:D->Rho->Option Rho}{mb:MS}{ds:List D}(Inv:Nat->Rho->Prop)(i:Inv 0 ρ)(step:∀ i d ρ,ds[i]? = some d->Inv i ρ->∃ ρ1,tg d ρ=some ρ1/\W (mb ρ1) fun r=>r.1=.nx/\Inv (i+1) r.2)
  (hk:∀ ρ',Inv ds.length ρ'->kf (.nx,ρ')):W (flK tg mb (ds,ρ)) kf:=by
 have:=Qng Inv step ds.length 0 ρ (by simp) (Nat.zero_le _) i hk
 rw [List.drop_zero] at this
 exact this
def fnK (tg:D->Rho->Option Rho)(mb:MS)(ds:List D)(r:Fl × Rho):Rs (Fl × Rho):=match r.1 with
  |.nx=>Qmd tg mb ds r.2
  |.ct=>Qmd tg mb ds r.2
  |.bk=>.ok (.nx,r.2)
  |.rt d=>.ok (.rt d,r.2)
theorem QrY {tg:D->Rho->Option Rho}{mb:MS}:fnK tg mb xs (.nx,ρ)=flK tg mb (xs,ρ):=rfl
theorem QqM {tg:D->Rho->Option Rho}{mb:MS}:fnK tg mb xs (.rt d,ρ)=.ok (.rt d,ρ):=rfl
def rgK (r:List D × Rho):Rs (List D × Rho):=(Rs.of (QfZ r.1)).bind fun n=>.ok ((List.range n.toNat).map fun j=>.int ((0:Int)+(j:Nat)),r.2)
theorem QqK {n:Int}:rgK ([.int n],ρ)=if -4611686018427387904<=n/\n<4611686018427387904 then .ok ((List.range n.toNat).map fun j=>.int ((0:Int)+(j:Nat)),ρ) else .no:=by
 have e:(2:Int) ^ 62=4611686018427387904:=by decide
 show (Rs.of (if -(2 ^ 62)<=n/\n<2 ^ 62 then some n else none)).bind _=_
 rw [e]
 split<;>rfl
theorem Qo8:liK ([.nd .tup xs],ρ)=if D.immL xs=true then .ok (.lst xs,ρ) else .no:=rfl
theorem Qqw:W (Qek mr (s :: ρ)) ka↔W (mr (s :: ρ)) fun r=>W (rgK r) ka:=W_bind
def siK (r:D × Rho):Rs (List D × Rho):=(Rs.of (Qjx [r.1])).bind fun ds=>.ok (ds,r.2)
theorem QoH:siK (.nd .lst xs,ρ)=.ok (xs,ρ):=rfl
theorem Qn5:siK (.nd .tup xs,ρ)=.ok (xs,ρ):=rfl
theorem Qqv:W (QbP m (s :: ρ)) ka↔W (m (s :: ρ)) fun r=>W (siK r) ka:=W_bind
def enK (r:List D × Rho):Rs (List D × Rho):=(Rs.of (Qjx r.1)).bind fun ds=>.ok (QcF ds,r.2)
theorem Qpn:enK ([.nd .lst xs],ρ)=.ok (QcF xs,ρ):=rfl
theorem QoF:enK ([.nd .tup xs],ρ)=.ok (QcF xs,ρ):=rfl
theorem Qr2:W (Qps mr (s :: ρ)) ka↔W (mr (s :: ρ)) fun r=>W (enK r) ka:=W_bind
def cmK (par:Bool)(cs:List Cp)(j:Nat)(tc:MT)(te:ME)(r:List D × Rho):Rs (D × Rho):=(Rs.of (Qdl par r.2 (cs.filterMap Cp.is))).bind fun di=>(Rs.of (Qd3 r.2 cs di)).bind fun ρb=>
 match Qdn j tc te r.1 ρb [] with
 |.ok q=>(Rs.of (outs (ioB cs) q.2)).bind fun os=>.ok (.lst q.1,QcT par r.2 (cs.filterMap Cp.is) os)
 |_=>.no
theorem QqF {par:Bool}{cs:List Cp}{j:Nat}{mi:MA}{tc:MT}{te:ME}:W (QbD par cs j mi tc te (s :: ρ)) k↔W (mi (s :: ρ)) fun r=>W (cmK par cs j tc te r) k:=W_bind
theorem QmZ {par:Bool}{cs:List Cp}{j:Nat}{tc:MT}{te:ME}{ρb:Rho}{ds di os:List D}{f:D->Bool}{g:D->D}(h2:Qdl par ρ (cs.filterMap Cp.is)=some di)(h3:Qd3 ρ cs di=some ρb)
  (hs:∀ d∈ds,∃ ρ0,setF ρb j d=some ρ0/\tc ρ0=.ok (f d,ρ0)/\(f d=true->te ρ0=.ok (g d,ρ0))/\ρ0.set j none=ρb) (l:ds.length<=sizeLine) (ho:outs (ioB cs) ρb=some os) (hp:QcT par ρ (cs.filterMap Cp.is) os=ρ) (hk:k (.lst ((ds.filter f).map g),ρ)):W (cmK par cs j tc te (ds,ρ)) k:=by
 have:=Qgv (par:=par) (cs:=cs) (j:=j) (mi:=fun ρ=>.ok (ds,ρ)) (ρ:=ρ) rfl h2 h3 hs l ho hp
 exact ⟨_,this,hk⟩
theorem Qg8 {par:Bool}{cs:List Cp}{j:Nat}{te:ME}{ρb:Rho}{ds di os:List D}{g:D->D}(h2:Qdl par ρ (cs.filterMap Cp.is)=some di)(h3:Qd3 ρ cs di=some ρb)
  (hs:∀ d∈ds,∃ ρ0,setF ρb j d=some ρ0/\te ρ0=.ok (g d,ρ0)/\ρ0.set j none=ρb) (l:ds.length<=sizeLine) (ho:outs (ioB cs) ρb=some os) (hp:QcT par ρ (cs.filterMap Cp.is) os=ρ) (hk:k (.lst (ds.map g),ρ)):W (cmK par cs j Qgu te (ds,ρ)) k:=by
 have:=QfR (par:=par) (cs:=cs) (j:=j) (mi:=fun ρ=>.ok (ds,ρ)) (ρ:=ρ) rfl h2 h3 hs l ho hp
 exact ⟨_,this,hk⟩
theorem QeS {f:D->D->Option Bool}:∀ {ds:List D},(∀ d∈ds,f d d=some true)->Qgt f ds ds=some true
 | [],_=>rfl
 |d :: ds,h=>by
  rw [Qgt,h d List.mem_cons_self,QeS fun x hx=>h x (List.mem_cons_of_mem _ hx)];rfl
def D.pln:Nat->D->Bool
 |0,_=>false
 |n+1,.nd .lst ds=>ds.all (D.pln n)
 |n+1,.nd .tup ds=>ds.all (D.pln n)
 |_+1,.int _=>true
 |_+1,.str _=>true
 |_+1,.bl _=>true
 |_+1,.non=>true
 |_,_=>false
theorem QfQ:∀ (n:Nat) (d:D),d.pln n=true->eqb n d d=some true
 |0,_,h=>by rw [D.pln] at h;cases h
 |n+1,.nd .lst ds,h=>by
  show (if ds.length=ds.length then Qgt (eqb n) ds ds else _)=_
  rw [if_pos rfl]
  exact QeS fun d hd=>QfQ n d (List.all_eq_true.mp h d hd)
 |n+1,.nd .tup ds,h=>by
  show (if ds.length=ds.length then Qgt (eqb n) ds ds else _)=_
  rw [if_pos rfl]
  exact QeS fun d hd=>QfQ n d (List.all_eq_true.mp h d hd)
 |n+1,.int i,_=>by show eqS (V.int i) (V.int i)=_;unfold eqS;rw [if_pos (by rfl)];simp
 |n+1,.str i,_=>by show eqS (V.str i) (V.str i)=_;unfold eqS;rw [if_pos (by rfl)];simp
 |n+1,.bl i,_=>by show eqS (V.bl i) (V.bl i)=_;unfold eqS;rw [if_pos (by cases i<;>rfl)];simp
 |n+1,.non,_=>by show eqS (V.non) (V.non)=_;unfold eqS;rw [if_pos (by rfl)];simp
 |n+1,.nd (.ins _ _) _,h=>by simp [D.pln] at h
 |n+1,.nd (.dT _) _,h=>by simp [D.pln] at h
 |n+1,.nd (.dK _) _,h=>by simp [D.pln] at h
 |n+1,.nd (.exc _) _,h=>by simp [D.pln] at h
 |n+1,.ty _,h=>by simp [D.pln] at h
 |n+1,.cls _,h=>by simp [D.pln] at h
theorem Qm2 {d:D}(h:d.pln 30=true):gEq d d=some (.bl true):=by
 show (eqb 30 d d).map _=_
 rw [QfQ 30 d h];rfl
end
section
variable {X:Cx}{C:Cn}{E:XE}{p pa pb:Bool}{o e a c:Expr}{es:List Expr}{m mo:ME}{mr:MA}{pos apos:Pos}{ka rk:Kd}{ks:List Kd}{n:Nat}{ps:List Str}{sp:Sp}{x nm f:Str}{t:TA}{ta:TE}{k:Addr}
def Qku:List Str->List D->Str->Option D
 |n :: ns,d :: ds,f=>if (f == n)=true then some d else Qku ns ds f
 |_,_,_=>none
theorem QiP {K:PySem.W.Frag}{F:Hp}:∀ {ns:List Str} {vs:List L2.V} {ds:List D} {f:Str} {d:D},RL K F vs ds->Qku ns ds f=some d->∃ v,(ns.zip vs).lookup f=some v/\R K F v d
 | [],_,_,_,_,_,h=>by cases h
 |_ :: _,_,_,_,_,.nil,h=>by cases h
 |n :: ns,v :: vs,d :: ds,f,y,.cons r q,h=>by
  rw [List.zip_cons_cons,List.lookup_cons]
  rw [Qku] at h
  by_cases e:(f == n)=true
  ·rw [if_pos e] at h;cases h
   rw [e];exact ⟨v,rfl,r⟩
  ·rw [if_neg e] at h
   obtain ⟨w,h1,h2⟩:=QiP q h
   have e':(f == n)=false:=by simpa using e
   rw [e'];exact ⟨w,h1,h2⟩
def Qme (k:Addr)(f:Str):D->Option D
 |.nd (.ins k' ns) ds=>if k'=k then Qku ns ds f else none
 |_=>none
theorem Qpu {K:PySem.W.Frag}{F:Hp}{v:L2.V}{d y:D}(r:R K F v d)(g:Qme k f d=some y):∃ a dx fs w,v=.ref a/\F a=some (.ins k dx fs)/\fs.lookup f=some w/\R K F w y:=by
 unfold Qme at g
 split at g
 ·split at g
  ·rename_i hk
   subst hk
   obtain ⟨a,vs,rfl,⟨hl,dx,ha,_⟩,rl⟩:=r.inv
   obtain ⟨w,hw,rw'⟩:=QiP rl g
   exact ⟨a,dx,_,w,rfl,ha,hw,rw'⟩
  ·cases g
 ·cases g
theorem Qgz (c:Cls X.K k)(na:NoAttr X.K k f)(he:PE X e (tX .V C p E m))(hb:attributeBase e f X.env (eval e X.env)=eval e X.env:=by rfl):PE X (.Attribute e f pos) (tX .V C p E (mUn (Qme k f) m)):=Qan (Qsq he hb) fun σ H Q ⟨F,ρ,τ,fp,I,h⟩=>
 ⟨F,ρ,τ,fp,I,h.split.mono fun r1 h1 F1 H1 fp1 v I1 n1 f1=>by
  obtain ⟨z,ez,h3⟩:=h1.of
  obtain ⟨res,eg,rfl⟩:=Option.map_eq_some_iff.mp ez
  obtain ⟨a,dx,fs,w,rfl,ha,hw,rw'⟩:=Qpu f1 eg
  exact ⟨a,k,dx,fs,w,rfl,I1.fh _ _ ha,c,na,hw,h3 F1 H1 fp1 w I1 n1 rw'⟩⟩
def Qln (C:Addr)(m:Str)(sp:Sp)(E:XE)(ta:TE)(t:TA):TE:=fun σ H Q=>ta σ H fun x H1=>∃ a dx fs,x=.ref a/\H1 a=some (.ins C dx fs)/\fs.lookup m=none/\
 t σ H1 fun vs H2=>sp (x :: vs) H2 Q (E σ)
theorem QsU {pl:Sem Bool}(he:PE X o ta)(c:Cls X.K k)(D:Qas X.prog X.w X.K X.mg X.base k n nm ps sp)(hx:Qd7 X E)(hr:Room n X.A)(ha:PA X (e :: es) t)
  (hst:starEach (e :: es) X.env=(false,eval e X.env) :: starEach es X.env:=by rfl) (hpl:(backTo pos (starEach es X.env)).any (·.1)=false:=by rfl)
  (ht:eval (.Call (.Attribute o nm apos) (e :: es) [] pos) X.env=(do
   let ov ← eval o X.env
   standAt apos.atName
   let (f,first) ← holding [ov] (getMethod ov nm pl)
   callWith pos f first (backTo pos (starEach (e :: es) X.env)) (backToKw pos (keywordEach [] X.env))):=by rfl) :
  PE X (.Call (.Attribute o nm apos) (e :: es) [] pos) (Qln k nm sp E ta t):=by
 obtain ⟨f,fd,F,hm,hb⟩:=D.ex
 intro pins s σ H Q I h
 refine PySem.W.methodCall_KW (pl:=pl) (thn (he pins s σ H _ I h) fun u s1 ⟨x,H1,I1,rx,a,dx,fs,ex,ea,l,q⟩=>?_) ht
 subst ex
 obtain rfl:u=Value.ref a:=rx
 refine Qfs I1 ea c hm l ?_
 refine PySem.W.callWith_K (first:=[.ref a]) (h₀:=X.base) I.ok.mod.kin hm.kp (thn (ha pos pins s1 σ H1 _ I1 q) fun us s2 ⟨vs,H2,I2,r,q2⟩=>⟨I2.kIn,?_⟩) hst hpl
 exact QhX (us:=.ref a :: us) (vs:=.ref a :: vs) F hr hb hx I2 (.cons rfl r) q2
theorem Qsb {pl:Sem Bool}(he:PE X o ta)(c:Cls X.K k)(D:Qas X.prog X.w X.K X.mg X.base k n nm ps sp)(hx:Qd7 X E)(hr:Room n X.A)
  (ht:eval (.Call (.Attribute o nm apos) [] [] pos) X.env=(do
   let ov ← eval o X.env
   standAt apos.atName
   let (f,first) ← holding [ov] (getMethod ov nm pl)
   callWith pos f first (backTo pos (starEach [] X.env)) (backToKw pos (keywordEach [] X.env))):=by rfl) :
  PE X (.Call (.Attribute o nm apos) [] [] pos) (Qln k nm sp E ta Qs8):=by
 obtain ⟨f,fd,F,hm,hb⟩:=D.ex
 intro pins s σ H Q I h
 refine PySem.W.methodCall_KW (pl:=pl) (thn (he pins s σ H _ I h) fun u s1 ⟨x,H1,I1,rx,a,dx,fs,ex,ea,l,q⟩=>?_) ht
 subst ex
 obtain rfl:u=Value.ref a:=rx
 refine Qfs I1 ea c hm l ?_
 exact PySem.W.callWith_K0 (first:=[.ref a]) I1.kIn hm.kp (QhX (us:=[.ref a]) (vs:=[.ref a]) F hr hb hx I1 (.cons rfl .nil) q)
def QgV (k:Addr)(nm:Str):D->Bool
 |.nd (.ins k' ns) _=>decide (k'=k) && ns.all (fun n=>!(nm == n))
 |_=>false
theorem Qmh {K:PySem.W.Frag}{F:Hp}{v:L2.V}{d:D}(r:R K F v d)(g:QgV k nm d=true):∃ a dx fs,v=.ref a/\F a=some (.ins k dx fs)/\fs.lookup nm=none:=by
 unfold QgV at g
 split at g
 ·rename_i k' ns ds
  obtain ⟨g1,g2⟩:=Bool.and_eq_true_iff.mp g
  have hk:k'=k:=of_decide_eq_true g1
  subst hk
  obtain ⟨a,vs,rfl,⟨hl,dx,ha,_⟩,rl⟩:=r.inv
  refine ⟨a,dx,_,rfl,ha,?_⟩
  clear ha hl rl g g1 r
  induction ns generalizing vs with
  |nil=>rfl
  |cons n ns ih=>
   obtain ⟨h1,h2⟩:=Bool.and_eq_true_iff.mp (show ((!(nm == n)) && ns.all (fun n=>!(nm == n)))=true from g2)
   cases vs with
   |nil=>rfl
   |cons v vs=>
    rw [List.zip_cons_cons,List.lookup_cons]
    have:(nm == n)=false:=by simpa using h1
    rw [this]
    exact ih h2 vs
 ·cases g
def Qfu (k:Addr)(nm:Str)(m:ME):ME:=fun ρ=>(m ρ).bind fun r=>if QgV k nm r.1=true then .ok r else .no
theorem Qi0 {f:List D->Fr}{io:List Bool}(hio:(false :: io).all (!·)=true)(hl:io.length=ks.length)(hrk:rk=.V\/rk=.O)(ok:rdL (ka :: ks)=true)(oka:ka.ona pb=true){σ:L2.St}{H:Hp}{Q:VK}(h:tX rk C (pa && pb) E (Qaj rk f (Qab (Qfu k nm mo) mr)) σ H Q) :
  Qln k nm (spF C.K (false :: io) rk f) E (tX ka C pa E mo) (tA ks C pb E mr) σ H Q:=by
 have q:=Qhn (ks:=ka :: ks) (pa:=pa && pb) hio (by rw [List.length_cons,List.length_cons,hl]) hrk ok h
 obtain ⟨F,ρ,τ,fp,I,h⟩:=q
 refine ⟨F,ρ,τ,fp,I,?_⟩
 have h':Run C E σ ((Qfu k nm mo ρ).bind fun r=>(mr r.2).bind fun q=>.ok (r.1 :: q.1,q.2)) _:=h
 have h2:Run C E σ ((mo ρ).bind fun r=>if QgV k nm r.1=true then .ok r else .no) _:=h'.split
 refine h2.split.mono fun r0 h3 F1 H1 fp1 v I1 n1 f1=>?_
 by_cases hk:QgV k nm r0.1=true
 ·rw [if_pos hk] at h3
  have okr:ka.on true=true:=by
   cases ka with
   |V=>rfl
   |B=>rfl
   |O=>cases ok
   |S i=>cases ok
  have I1':=I1
  rw [Kd.tk_on okr] at I1'
  obtain ⟨a,dx,fs,rfl,ha,hf⟩:=Qmh (R.top I1' (Kd.stay okr f1 .refl I1')) hk
  refine ⟨a,dx,fs,rfl,ha,hf,F1,r0.2,τ,fp1,I1',h3.split.mono fun r2 h4 F2 H2 fp2 vs I2 n2 f2=>?_⟩
  have I2':SI C F2 H2 σ r2.2 (tkL (ka :: ks) (.ref a :: vs) (r0.1 :: r2.1) τ) fp2:=by
   show SI C F2 H2 σ r2.2 (tkL ks vs r2.1 (ka.tk (.ref a) r0.1 τ)) fp2
   rw [Kd.tk_on okr];exact I2
  exact h4 F2 H2 fp2 (.ref a :: vs) I2' (n1.trans n2) (.cons (Kd.fc_on oka f1 n2) f2)
 ·rw [if_neg hk] at h3;exact h3.elim
theorem x_m {pl:Sem Bool}{f:List D->Fr}{io:List Bool}(D:Qas X.prog X.w X.K X.mg X.base k n nm ps (spF C.K (false :: io) rk f))(c:Cls X.K k)(hx:Qd7 X E)(hr:Room n X.A)(ho:PE X o (tX ka C pa E mo))(ha:PA X (e :: es) (tA ks C pb E mr))(hio:(false :: io).all (!·)=true:=by rfl)(hl:io.length=ks.length:=by rfl)(hrk:rk=.V\/rk=.O:=by first | exact .inl rfl | exact .inr rfl)(ok:rdL (ka :: ks)=true:=by rfl)(oka:ka.ona pb=true:=by rfl)
  (hst:starEach (e :: es) X.env=(false,eval e X.env) :: starEach es X.env:=by rfl) (hpl:(backTo pos (starEach es X.env)).any (·.1)=false:=by rfl)
  (ht:eval (.Call (.Attribute o nm apos) (e :: es) [] pos) X.env=(do
   let ov ← eval o X.env
   standAt apos.atName
   let (f,first) ← holding [ov] (getMethod ov nm pl)
   callWith pos f first (backTo pos (starEach (e :: es) X.env)) (backToKw pos (keywordEach [] X.env))):=by rfl) :
  PE X (.Call (.Attribute o nm apos) (e :: es) [] pos) (tX rk C (pa && pb) E (Qaj rk f (Qab (Qfu k nm mo) mr))):=Qan (QsU (pl:=pl) ho c D hx hr ha hst hpl ht) fun _ _ _ h=>Qi0 hio hl hrk ok oka h
theorem Qpj {σ:L2.St}{H:Hp}{Q:List L2.V->Hp->Prop}(h:tA [] C true E Qal σ H Q):Qs8 σ H Q:=by
 obtain ⟨F,ρ,τ,fp,I,h⟩:=h
 exact h F H fp [] I .refl .nil
theorem Qq9 {pl:Sem Bool}{f:List D->Fr}(D:Qas X.prog X.w X.K X.mg X.base k n nm ps (spF C.K [false] rk f))(c:Cls X.K k)(hx:Qd7 X E)(hr:Room n X.A)(ho:PE X o (tX ka C pa E mo))(hrk:rk=.V\/rk=.O:=by first | exact .inl rfl | exact .inr rfl)(ok:rdL [ka]=true:=by rfl)(oka:ka.ona true=true:=by rfl)
  (ht:eval (.Call (.Attribute o nm apos) [] [] pos) X.env=(do
   let ov ← eval o X.env
   standAt apos.atName
   let (f,first) ← holding [ov] (getMethod ov nm pl)
   callWith pos f first (backTo pos (starEach [] X.env)) (backToKw pos (keywordEach [] X.env))):=by rfl) :
  PE X (.Call (.Attribute o nm apos) [] [] pos) (tX rk C (pa && true) E (Qaj rk f (Qab (Qfu k nm mo) Qal))):=Qan (Qsb (pl:=pl) ho c D hx hr ht) fun σ H Q h=>by
 have q:=Qi0 (io:=[]) (ks:=[]) (pb:=true) rfl rfl hrk ok oka h
 obtain ⟨F,ρ,τ,fp,I,q⟩:=q
 exact ⟨F,ρ,τ,fp,I,q.mono fun r z F1 H1 fp1 v I1 n1 f1=>by
  obtain ⟨a,dx,fs,h1,h2,h3,h4⟩:=z F1 H1 fp1 v I1 n1 f1
  exact ⟨a,dx,fs,h1,h2,h3,Qpj h4⟩⟩
end
def spI (K:PySem.W.Frag)(k:Addr)(m:Addr->D->Fr):Sp:=fun vs H Q E=>∃ x dx v,vs=[.ref x,v]/\H x=some (.ins k dx [])/\H dx=some (.own x)/\∃ F d,R K F v d/\Same F H/\F x=none/\match m x d with
 |.ok r _=>∀ F' H' ns us ds,r=.nd (.ins k ns) ds->Same F F'->Same F' H'->F' x=none->(∀ b o,F' b=some o->F b=some o\/Nw H b o)->(∀ b o,b≠x->H b=some o->H' b=some o)->(∀ b,H' b=none->H b=none)->RL K F' us ds->ns.length=us.length->H' x=some (.ins k dx (ns.zip us))->Q .non H'
 |.ex c=>∀ H',(∀ b o,b≠x->H b=some o->H' b=some o)->(∀ b,H' b=none->H b=none)->E (.ref c) none H'
 |.no=>False
open Classical in
noncomputable def QnR (f:Addr->D->Fr)(d:D):Fr:=if ∀ x,f x d=f 0 d then f 0 d else .no
theorem Qpb {f:Addr->D->Fr}{d:D}{r:Fr}(h:∀ x,f x d=r):QnR f d=r:=by
 unfold QnR
 rw [if_pos fun x=>(h x).trans (h 0).symm]
 exact h 0
theorem QlZ {f:Addr->D->Fr}{d:D}(h:QnR f d≠.no):∀ x,f x d=QnR f d:=by
 unfold QnR at h ⊢
 by_cases c:∀ x,f x d=f 0 d
 ·rw [if_pos c];exact c
 ·rw [if_neg c] at h;exact absurd rfl h
def Qt4:List D->Option D
 | [d]=>some d
 |_=>none
def QjA (k:Addr):D->Bool
 |.nd (.ins k' ns) ds=>decide (k'=k) && ns.length == ds.length
 |_=>false
noncomputable def Qqk (k:Addr)(f:Addr->D->Fr)(mr:MA):ME:=fun ρ=>(mr ρ).bind fun r=>(Rs.of (Qt4 r.1)).bind fun d=>match QnR f d with
 |.ok i _=>if (QjA k i && i.imm)=true then .ok (i,r.2) else .no
 |.ex c=>.ex c r.2
 |.no=>.no
def QnU (k:Addr)(sp:Sp)(E:XE)(t:TA):TE:=fun σ H Q=>t σ H fun vs H1=>∀ x dx,H1 x=none->H1 dx=none->dx≠x->
 sp (.ref x :: vs) (upd (upd H1 dx (.own x)) x (.ins k dx [])) (fun v H2=>v=.non/\Q (.ref x) H2) (E σ)
section
variable {X:Cx}{C:Cn}{E:XE}{pa:Bool}{o e a b c:Expr}{es:List Expr}{mr:MA}{pos px:Pos}{ks:List Kd}{n:Nat}{ps:List Str}{sp:Sp}{x f:Str}{t:TA}{k:Addr}
theorem Qkm {f:Addr}{fd:FuncData}{pins:List (Addr × Obj)}{σ:L2.St}{H:Hp}{s:Shared}{Q:VK}{us:List Value}{vs:List L2.V}(M:Mk X.K k f)(F:FnOk X.prog X.w X.K X.mg X.base (CXe X.prog X.w) n f fd ps sp)(hr:Room (n+1) X.A)(hb:Binds X.K fd ps [])
  (hx:Qd7 X E) (I:Inv X pins σ H s) (r:Vals vs us)
  (h:∀ x dx,H x=none->H dx=none->dx≠x->sp (.ref x :: vs) (upd (upd H dx (.own x)) x (.ins k dx [])) (fun v H2=>v=.non/\Q (.ref x) H2) (E σ)) :
  wpAny (model X.prog X.w) X.A (call (.ref k) us) (EP X pins σ Q) X.xe s:=by
 have hq:=h (s.heap.objs.size+1) s.heap.objs.size (I.hok.fresh (Nat.le_succ _)) (I.hok.fresh (Nat.le_refl _)) (Nat.ne_of_lt (Nat.lt_succ_self _))
 have I2:=Inv.made (C:=k) I
 have r2:Vals (L2.V.ref (s.heap.objs.size+1) :: vs) (Value.ref (s.heap.objs.size+1) :: us):=.cons rfl r
 have hl:(Value.ref (s.heap.objs.size+1) :: us++[]).length=ps.length:=by
  have e:=r2.length
  rw [F.len _ _ _ _ hq] at e
  rw [List.append_nil]
  exact e.symm
 have hb':=hb _ (Value.ref (s.heap.objs.size+1) :: us) I2.kIn hl
 rw [List.append_nil] at hb'
 refine wpAny_call (QmC (f:=f) I.kIn M.makes M.init (beq_iff_eq.mp M.fn) (codeAny_mono (F.run _ X.stack _ _ ⟨Value.ref (s.heap.objs.size+1) :: us,[]⟩ (Value.ref (s.heap.objs.size+1) :: us) _ _ (E σ) (hr.make k us [])
  (I2.env0.make k us []) hb' r2 hq) fun r s' hq'=>?_))
 cases r with
 |error e=>exact hx pins σ _ _ e s' I2 hq'
 |ok fl=>
  cases fl with
  |ret u=>
   obtain ⟨v,H',I3,rv,ev,q3⟩:=I2.after hq'
   subst ev
   exact ⟨rv,⟨L2.V.ref (s.heap.objs.size+1),H',I3,rfl,q3⟩⟩
  |next=>exact False.elim hq'
  |brk=>exact False.elim hq'
  |cont=>exact False.elim hq'
theorem Qot (D:Qdh X.prog X.w X.K X.mg X.base k n x ps sp)(hx:Qd7 X E)(hr:Room (n+1) X.A)(ha:PA X (e :: es) t)(hg:Gl X x:=by rfl)
  (hdb:(x == ("__debug__" : Str))=false:=by decide) (he:starEach (e :: es) X.env=(false,eval e X.env) :: starEach es X.env:=by rfl) (hpl:(backTo pos (starEach es X.env)).any (·.1)=false:=by rfl) :
  PE X (.Call (.Name x px) (e :: es) [] pos) (QnU k sp E t):=by
 obtain ⟨f,fd,F,M,hm,hb⟩:=D.ex
 intro pins s σ H Q I h
 refine wpAny_Call_Name_kw (QfI I hg hm ?_ hdb)
 refine PySem.W.callWith_K (h₀:=X.base) I.ok.mod.kin M.kp (thn (ha pos pins s σ H _ I h) fun us s1 ⟨vs,H1,I1,r,q⟩=>⟨I1.kIn,?_⟩) he hpl
 exact Qkm M F hr hb hx I1 r q
theorem Qms {f:Addr->D->Fr}(ok:rdL ks=true){σ:L2.St}{H:Hp}{Q:VK}(h:tX .V C pa E (Qqk k f mr) σ H Q):QnU k (spI C.K k f) E (tA ks C pa E mr) σ H Q:=by
 obtain ⟨F,ρ,τ,fp,I,h⟩:=h
 refine ⟨F,ρ,τ,fp,I,h.split.mono fun r hr F1 H1 fp1 vs I1 n1 f1=>?_⟩
 rw [QbT ok] at I1
 have rl:=f1.rd I1 ok
 obtain ⟨d,ed,h2⟩:=hr.split.of
 have e1:r.1=[d]:=by
  unfold Qt4 at ed
  split at ed
  ·rename_i q;cases ed;exact q
  ·cases ed
 rw [e1] at rl
 obtain ⟨v,rfl,rv⟩:=rl.one
 intro x dx hx hdx ne
 have up:Same H1 (upd (upd H1 dx (.own x)) x (.ins k dx [])):=(Same.upd hdx).trans (Same.upd (by rw [Qag (Ne.symm ne)];exact hx))
 have kx:∀ b o,H1 b=some o->b≠x/\b≠dx:=fun b o e=>⟨Qao e hx,Qao e hdx⟩
 have up0:∀ b,upd (upd H1 dx (.own x)) x (.ins k dx []) b=none->H1 b=none:=fun b e=>up.free e
 refine ⟨x,dx,v,rfl,Qap,by rw [Qag ne,Qap],jn F1 H1 fp1,d,rv,(Qcv I1.fh).trans up,(Qcv I1.fh).free hx,?_⟩
 have hmt:∀ {F':Hp},Same (jn F1 H1 fp1) F'->∀ b∈fp1,∀ o,F' b=some o->Mbl o:=fun {F'} s b hb o e=>by
  obtain ⟨o',e',z⟩:=I1.mem b hb
  have q:=s b o' (by rw [QbY hb];exact e')
  rw [e] at q;cases q
  exact z
 cases ef:QnR f d with
 |no=>rw [ef] at h2;exact h2.elim
 |ex c=>
  rw [ef] at h2
  rw [QlZ (f:=f) (d:=d) (by rw [ef];exact fun z=>nomatch z) x,ef]
  dsimp only at h2 ⊢
  intro H' kp' dm'
  have kp1:∀ b o,H1 b=some o->H' b=some o:=fun b o e=>kp' b o (kx b o e).1 (up b o e)
  have J:SI C F1 H' σ r.2 τ fp1:=I1.step (Same.refl _) (fun b o e=>kp1 b o (I1.fh b o e)) (fun a ha=>by
   obtain ⟨o,e,_⟩:=I1.mem a ha
   rw [e,kp1 a o e]) I1.ap (fun _ _ z=>.inl z) (fun b o _ _ e=>kp1 b o e) (fun b e=>up0 b (dm' b e))
  obtain ⟨fp2,J2⟩:=J.drop
  exact h2 F1 H' fp2 J2
 |ok i os=>
  rw [ef] at h2
  rw [QlZ (f:=f) (d:=d) (by rw [ef];exact fun z=>nomatch z) x,ef]
  dsimp only at h2 ⊢
  intro F' H' ns us ds er sF fh' fx fn' kp' dm' rl' hlen hx'
  subst er
  refine ⟨rfl,?_⟩
  by_cases ci:(QjA k (.nd (.ins k ns) ds) && (D.nd (.ins k ns) ds).imm)=true
  ·rw [if_pos ci] at h2
   obtain ⟨_,im⟩:=Bool.and_eq_true_iff.mp ci
   have kp1:∀ b o,H1 b=some o->H' b=some o:=fun b o e=>kp' b o (kx b o e).1 (up b o e)
   have hdx':H' dx=some (.own x):=kp' dx _ ne (by rw [Qag ne,Qap])
   have sN:Same F1 (lo F' fp1):=fun b o e=>by
    have nb:b∉fp1:=fun z=>by rw [I1.ap b z] at e;cases e
    rw [Qdt nb]
    exact sF b o (by rw [QaY nb];exact e)
   have nx:∀ a∈fp1,a≠x/\a≠dx:=fun a ha=>by
    obtain ⟨o,e,_⟩:=I1.mem a ha
    exact kx a o e
   let G:Hp:=upd (upd (lo F' fp1) dx (.own x)) x (.ins k dx (ns.zip us))
   have sG:Same (lo F' fp1) G:=fun b o e=>by
    have e2:F' b=some o:=lo_le b o e
    have nb:b≠x:=fun z=>by subst z;rw [fx] at e2;cases e2
    show upd (upd (lo F' fp1) dx (.own x)) x _ b=_
    rw [Qag nb]
    by_cases hd:b=dx
    ·subst hd
     rw [Qap]
     have:=fh' b o e2
     rw [hdx'] at this
     exact this
    ·rw [Qag hd];exact e
   have GH:Same G H':=fun b o e=>by
    have e:upd (upd (lo F' fp1) dx (.own x)) x (.ins k dx (ns.zip us)) b=some o:=e
    by_cases hb:b=x
    ·subst hb;rw [Qap] at e;rw [hx'];exact e
    ·rw [Qag hb] at e
     by_cases hd:b=dx
     ·subst hd;rw [Qap] at e;rw [hdx'];exact e
     ·rw [Qag hd] at e;exact fh' b o (lo_le b o e)
   have J:SI C G H' σ r.2 τ fp1:=by
    refine I1.step (sN.trans sG) GH (fun a ha=>?_) (fun a ha=>?_) (fun b o e=>?_) (fun b o _ _ e=>kp1 b o e) (fun b e=>up0 b (dm' b e))
    ·obtain ⟨o,e,_⟩:=I1.mem a ha
     rw [e,kp1 a o e]
    ·show upd (upd (lo F' fp1) dx (.own x)) x _ a=none
     rw [Qag (nx a ha).1,Qag (nx a ha).2];exact QjJ ha
    ·have e:upd (upd (lo F' fp1) dx (.own x)) x (.ins k dx (ns.zip us)) b=some o:=e
     by_cases hb:b=x
     ·subst hb;exact .inr (.inl (I1.dm _ hx))
     ·rw [Qag hb] at e
      by_cases hd:b=dx
      ·subst hd;exact .inr (.inl (I1.dm _ hdx))
      ·rw [Qag hd] at e
       have nb:b∉fp1:=fun z=>by rw [QjJ z] at e;cases e
       rw [Qdt nb] at e
       rcases fn' b o e with z | z
       ·rw [QaY nb] at z;exact .inl z
       ·exact .inr (z.up fun y=>I1.dm b (up0 b y))
   have rd:R C.K G (.ref x) (.nd (.ins k ns) ds):=by
    refine .nd (t:=.ins k ns) ⟨hlen,dx,Qap,?_⟩ ((RL.lo (hmt sF) rl' (QeR im).2).same sG)
    show upd (upd (lo F' fp1) dx (.own x)) x _ dx=_
    rw [Qag ne,Qap]
   refine h2 G H' fp1 (.ref x) J ((n1.trans (q:=true) ⟨sN.trans sG,fun _ b o e=>?_⟩).weak fun z=>by simp [z]) rd
   by_cases hb:b∈fp1
   ·rw [QbY hb] at e
    rw [QbY hb]
    exact kp1 b o e
   ·rw [QaY hb] at e
    rw [QaY hb]
    exact (sN.trans sG) b o e
  ·rw [if_neg ci] at h2;exact h2.elim
theorem QtO {f:Addr->D->Fr}(D:Qdh X.prog X.w X.K X.mg X.base k n x ps (spI C.K k f))(hx:Qd7 X E)(hr:Room (n+1) X.A)(ha:PA X (e :: es) (tA ks C pa E mr))(ok:rdL ks=true:=by rfl)(hg:Gl X x:=by rfl)
  (hdb:(x == ("__debug__" : Str))=false:=by decide) (he:starEach (e :: es) X.env=(false,eval e X.env) :: starEach es X.env:=by rfl) (hpl:(backTo pos (starEach es X.env)).any (·.1)=false:=by rfl) :
  PE X (.Call (.Name x px) (e :: es) [] pos) (tX .V C pa E (Qqk k f mr)):=Qan (Qot D hx hr ha hg hdb he hpl) fun _ _ _ h=>Qms ok h
end
def QlV:Option (Option Sl)->Option Addr
 |some (some (.frz (.cls y)))=>some y
 |_=>none
def Qfr (x:Addr)(ρ:Rho):Bool:=decide (QlV ρ[0]? = some x)
theorem QkV {x:Addr}{ρ:Rho}(h:Qfr x ρ=true):ρ[0]? = some (some (.frz (.cls x))):=by
 have h:QlV ρ[0]? = some x:=of_decide_eq_true h
 unfold QlV at h
 split at h
 ·next e=>rw [e,Option.some.inj h]
 ·cases h
def QsB (k:Addr)(n:Nat)(f:Str)(me:ME)(x:Addr)(d:D):Fr:=match me (QmQ [false,false] n [.cls x,d]) with
 |.ok (r,ρ)=>if Qfr x ρ=true then .ok (.nd (.ins k [f]) [r]) [] else .no
 |.ex c _=>.ex c
 |.no=>.no
def Qkz (ms:MS)(me:ME):ME:=fun ρ=>(ms ρ).bind fun r=>match r.1 with
 |.nx=>me r.2
 |_=>.no
def QsG (C:Cn)(E:XE)(f:Str)(x:Addr)(me:ME):TS:=fun D σ H=>∃ F ρ fp,SI C F H σ ρ [] fp/\RunS C E (me ρ) fun r=>Qfr x r.2=true/\∀ F' H' σ' fp' v,Same F F'->SI C F' H' σ' r.2 [] fp'->R C.K F' v r.1->∃ k dx,H' x=some (.ins k dx [])/\Cls C.K k/\NoAttr C.K k f/\D.nx σ' (upd H' x (.ins k dx [(f,v)]))
section
variable {X:Cx}{C:Cn}{E:XE}{p:Bool}{e:Expr}{me:ME}{ms:MS}{pos p1 p2:Pos}{f:Str}{x:Addr}{st:Stmt}{rest:List Stmt}
theorem QtN (hK:C.K=X.K)(hN:X.N[0]? = some ("self" : Str))(hv:Vis X.env.scope "self")(he:PE X e (tX .V C p E me))(hs:swapsWith e (some (.Attribute (.Name "self" p1) f p2)) pos.line X.env=pure false:=by rfl):PSs X [.Assign [.Attribute (.Name "self" p1) f p2] e pos] (QsG C E f x me):=
 Qes (QlX (Qsk (QcZ hN hv (by decide) (by decide)) he hs)) fun D σ H ⟨F,ρ,fp,I,h⟩=>by
  refine ⟨F,ρ,[],fp,I,h.run.mono fun r ⟨h1,h2⟩ F1 H1 fp1 v I1 n1 f1=>?_⟩
  have e0:=QkV h1
  obtain ⟨y,f0,g0,rest,ey,s1,_⟩:=I1.cut e0
  cases s1 with
  |frz hr=>
   obtain rfl:=hr.det_sc (w:=.ref x) rfl
   obtain ⟨k,dx,a1,a2,a3,a4⟩:=h2 F1 H1 σ fp1 v n1.f I1 f1
   exact ⟨_,ey,x,k,dx,[],rfl,a1,hK▸a2,hK▸a3,by decide,a4⟩
theorem QnI (h1:PS X st (tS .V C E ms))(h2:PSs X rest (QsG C E f x me)):PSs X (st :: rest) (QsG C E f x (Qkz ms me)):=Qes (Qi8 h1 h2) fun D σ H ⟨F,ρ,fp,I,h⟩=>by
 refine ⟨F,ρ,fp,I,h.split.mono fun r hr=>?_⟩
 obtain ⟨fl,ρ1⟩:=r
 cases fl with
 |nx=>exact fun F1 H1 σ1 fp1 s1 I1=>⟨F1,ρ1,fp1,I1,hr.mono fun q z=>⟨z.1,fun F' H' σ' fp' v s2=>z.2 F' H' σ' fp' v (s1.trans s2)⟩⟩
 |rt d=>exact hr.elim
 |bk=>exact hr.elim
 |ct=>exact hr.elim
end
theorem fnI {P:Program}{w:World}{K:PySem.W.Frag}{mg:Str->Option Value}{base:Heap}{x qual y fl:Str}{st:Stmt}{f k:Addr}{fd:FuncData}{N:List Str}{n:Nat}{me:ME}(Fn:Fun K x qual st f fd)(S:Qak N ["self",y] (Qac st))(c:Cls K k)(na:NoAttr K k fl)
  (hbody:∀ (cdv:Value) (A:Around) (outer:List Env) (s:Shared) (H:Hp) (E:XK) (C:Cn) (x:Addr),C.K=K->Room n (A.deeper (PyProof.Rows.envOfC qual (Qac st) s.heap.objs.size f cdv))->A.handled=none->
   PSs (Qd4 (CXe P w) P w K mg base N qual (Qac st) f cdv A outer s H E) (QcL st) (QsG C (fun _=>E) fl x me)):FnOk P w K mg base (CXe P w) (n+1) f fd ["self",y] (spI K k (QsB k N.length fl me)):=by
 refine Fn.okE S (fun vs H Q E h=>?_) (fun cdv A outer s H vs Q E hr hd h=>?_)
 ·obtain ⟨_,_,_,rfl,_⟩:=h;rfl
 ·obtain ⟨x,dx,v,rfl,hx,hdx,F,d,rv,fh,fx,h⟩:=h
  let C:Cn:=⟨K,H,F,[],[]⟩
  refine ⟨_,hbody cdv A outer s H E C x rfl hr hd,?_⟩
  have al:AL K F H [false,false] [.ref x,v] [.cls x,d] []:=.val (.sc rfl) (.val rv .nil)
  have I:SI C F H (L2.start N [.ref x,v]) (QmQ [false,false] N.length [.cls x,d]) [] []:=by
   refine ⟨⟨[],[],[],QdQ (N:=N) (r:=N.length - 2) al,.nil,.refl _,(fun _ z=>nomatch z),(fun _ z=>nomatch z),(fun _ z=>nomatch z)⟩,List.nodup_nil,(fun _ z=>nomatch z),fh,Same.refl F,fun b o e=>.inl e,fun b o e _=>e,fun b e=>e,fun j v hj=>nomatch hj⟩
  refine ⟨F,_,[],I,?_⟩
  unfold QsB at h
  cases em:me (QmQ [false,false] N.length [.cls x,d]) with
  |no=>rw [em] at h;exact h.elim
  |ex c ρ=>
   rw [em] at h
   exact fun F' H' σ' fp' J=>h H' (fun b o _ e=>J.kp b o e (by simp [C])) J.dm
  |ok q=>
   obtain ⟨r,ρ⟩:=q
   rw [em] at h
   dsimp only at h
   by_cases hs:Qfr x ρ=true
   ·rw [if_pos hs] at h
    refine ⟨hs,fun F' H' σ' fp' u s' J ru=>?_⟩
    have hx':H' x=some (.ins k dx []):=J.kp x _ hx (by simp [C])
    refine ⟨k,dx,hx',c,na,?_⟩
    have fx':F' x=none:=by
     cases e:F' x with
     |none=>rfl
     |some o=>
      rcases J.fn x o e with z | z
      ·have z:F x=some o:=z
       rw [fx] at z;cases z
      ·rcases z with z | z
       ·have z:H x=none:=z
        rw [hx] at z;cases z
       ·have e3:=J.fh x o e
        rw [hx'] at e3;cases e3;exact z.elim
    refine h F' _ [fl] [u] [r] rfl J.f0 (fun b o e=>?_) fx' J.fn (fun b o hb e=>?_) (fun b e=>?_) (.cons ru .nil) rfl Qap
    ·by_cases hb:b=x
     ·subst hb;rw [fx'] at e;cases e
     ·rw [Qag hb];exact J.fh b o e
    ·rw [Qag hb];exact J.kp b o e (by simp [C])
    ·by_cases hb:b=x
     ·subst hb;rw [Qap] at e;cases e
     ·rw [Qag hb] at e;exact J.dm b e
   ·rw [if_neg hs] at h;exact h.elim
section
variable {X:Cx}{C:Cn}{E:XE}{p:Bool}{o e a:Expr}{m:ME}{mr:MA}{pos apos cpos np:Pos}{rk:Kd}{ks:List Kd}{n:Nat}{x f:Str}{t:TA}
def QsD (i:Nat):ME:=fun ρ=>(Rs.of (Qdp ρ i)).bind fun q=>(Rs.of (q.2[q.2.length - 1]?)).bind fun d=>if D.immL q.2=true then .ok (d,ρ.set i (some (mkS q.1 (.lst q.2.dropLast)))) else .no
theorem RL.dropLast {K:PySem.W.Frag}{F:Hp}{vs:List L2.V}{ds:List D}(r:RL K F vs ds):RL K F vs.dropLast ds.dropLast:=by
 rw [List.dropLast_eq_take,List.dropLast_eq_take,r.length]
 exact r.take _
theorem QfY {ds:List D}(h:D.immL ds=true):D.immL ds.dropLast=true:=QeW fun d hd=>Qdj h d (List.dropLast_subset _ hd)
theorem QrP {i:Nat}(hN:X.N[i]? = some x)(hv:Vis X.env.scope x)(hbase:attributeBase (.Name x np) "pop" X.env (eval (.Name x np) X.env)=eval (.Name x np) X.env:=by rfl)(hline:(apos.endLine == cpos.line)=true:=by rfl)(hd:(x == ("__debug__" : Str))=false:=by decide)(hcd:(x == ("__classdict__" : Str))=false:=by decide) :
  PE X (.Call (.Attribute (.Name x np) "pop" apos) [] [] cpos) (tX .V C false E (QsD i)):=
 Qan (QqY PySem.F.plainAttrs_list PySem.F.slot_list_pop PySem.F.type_list_pop Qsi (QcZ hN hv hd hcd) hbase hline) fun σ H Q ⟨F,ρ,τ,fp,I,h⟩=>by
  obtain ⟨q,eq,h⟩:=h.split.of
  obtain ⟨d,ed,h⟩:=h.split.of
  obtain ⟨l,vs,f,rest,ex,hl,ol,pm,w,cl⟩:=I.remake (QbR eq)
  by_cases hi:D.immL q.2=true
  ·rw [if_pos hi] at h
   have rl:=ol.rl hi
   have ef:f=[]:=ol.imm0 hi
   subst ef
   obtain ⟨v,ev,rv⟩:=rl.get ed
   refine ⟨_,ex,.inl ⟨rfl,vs,SqL.of hl⟩,l,vs,v,rfl,rfl,hl,by rw [rl.length];exact ev,?_⟩
   have J:=cl (f':=[]) (rl.dropLast.o (QfY hi)) (pm.nodup_iff.mp I.nd) (fun _ z=>nomatch z)
   exact h F _ _ v J ⟨Same.refl _,fun z=>nomatch z⟩ rv
  ·rw [if_neg hi] at h;exact h.elim
def Qpk:L2.V->List L2.V->Hp->VK->Prop:=fun x vs H Q=>∃ l xs i y,x=.ref l/\vs=[.int i,y]/\H l=some (.lst xs)/\0<=i/\i<=xs.length/\xs.length<sizeLine/\Q .non (upd H l (.lst (xs.take i.toNat++y :: xs.drop i.toNat)))
theorem Qk8:MtM X "list.insert" Qpk:=by
 intro pins s σ H x vs v us Q I rx rv h
 obtain ⟨l,xs,i,y,rfl,rfl,hH,h0,h1,hz,q⟩:=h
 cases rx
 obtain ⟨u,u2,rfl,⟨t,rfl⟩,ru⟩:=Vals.two rv
 obtain ⟨z,its,n,r,hl,e⟩:=I.lstM hH
 have hfit:Builtin.List.listFitsIndex i=true:=fitsIndex_both (by omega) (by rw [sizeLine_eq] at hz;omega)
 refine call_meets F.slot_list_insert ⟨_,e,rfl⟩ F.entry_list_insert (F.args_list_insert_3 _ _ _) (AutoSeq1.list_insert_list_int_val_1 l its.toArray n i t u2 (by rw [hfit];decide) (by rw [List.size_toArray];omega)) ⟨e,?_⟩
 refine ⟨.non,_,I.lset (its':=its.take i.toNat++u2 :: its.drop i.toNat) hH e ?_ ((r.take _).append (.cons ru (r.drop _))) ?_,rfl,q⟩
 ·have hk:(if i<0 then (i+(its.toArray.size:Int)).toNat else min i.toNat its.toArray.size)=i.toNat:=by
   rw [if_neg (by omega),List.size_toArray];omega
  show (its.toArray.extract 0 (if i<0 then (i+(its.toArray.size:Int)).toNat else min i.toNat its.toArray.size)).push u2++its.toArray.extract (if i<0 then (i+(its.toArray.size:Int)).toNat else min i.toNat its.toArray.size)=_
  rw [hk]
  apply Array.toList_inj.mp
  simp [List.extract_eq_take_drop,List.take_of_length_le]
 ·simp only [List.length_append,List.length_take,List.length_cons,List.length_drop];omega
def QtM:List D->Option (Int × D)
 | [.int j,d]=>some (j,d)
 |_=>none
theorem Qo4 {ds:List D}{q:Int × D}(h:QtM ds=some q):ds=[.int q.1,q.2]:=by
 unfold QtM at h
 split at h
 ·cases h;rfl
 ·cases h
def Qql (i:Nat)(mr:MA):MS:=fun ρ=>(Rs.of (Qdp ρ i)).bind fun _=>(mr ρ).bind fun r=>(Rs.of (QtM r.1)).bind fun y=>(Rs.of (Qdp r.2 i)).bind fun q=>
 if 0<=y.1/\y.1<=q.2.length/\q.2.length<sizeLine/\(D.immL q.2 && y.2.imm)=true then .ok (.nx,r.2.set i (some (mkS q.1 (.lst (q.2.take y.1.toNat++y.2 :: q.2.drop y.1.toNat))))) else .no
theorem QsL {i:Nat}(hN:X.N[i]? = some x)(hv:Vis X.env.scope x)(ha:PA X [a,e] (tA ks C p E mr))(ok:knL ks=true:=by rfl)(hs:swapsWith (.Call (.Attribute (.Name x np) "insert" apos) [a,e] [] cpos) none pos.line X.env=pure false:=by rfl)
  (hbase:attributeBase (.Name x np) "insert" X.env (eval (.Name x np) X.env)=eval (.Name x np) X.env:=by rfl) (hfew:((backTo cpos (starEach [a,e] X.env)).all (fun x=>!x.1) && (backToKw cpos (keywordEach [] X.env)).all (fun x=>x.1.isSome) && decide ([a,e].length+([]:List Keyword).length+(if ([]:List Keyword).isEmpty then 0 else 1)<30))=true:=by rfl)
  (hline:(apos.endLine == cpos.line)=true:=by rfl) (hst:starEach [a,e] X.env=(false,eval a X.env) :: starEach [e] X.env:=by rfl) (hplain:(backTo cpos (starEach [e] X.env)).any (·.1)=false:=by rfl) (hd:(x == ("__debug__" : Str))=false:=by decide) (hcd:(x == ("__classdict__" : Str))=false:=by decide) :
  PS X (.Expr (.Call (.Attribute (.Name x np) "insert" apos) [a,e] [] cpos) pos) (tS rk C E (Qql i mr)):=
 Qa2 (Qgs (Qpo PySem.F.plainAttrs_list PySem.F.slot_list_insert PySem.F.type_list_insert Qk8 (QcZ hN hv hd hcd) ha hbase hfew hline hst hplain) hs) fun DD σ H ⟨F,ρ,fp,I,h⟩=>by
 obtain ⟨q0,e0,h⟩:=h.split.of
 obtain ⟨l0,vs0,f0,rest0,ex0,hl0,_⟩:=I.relist (QbR e0)
 refine ⟨_,ex0,.inl ⟨rfl,vs0,SqL.of hl0⟩,F,ρ,[],fp,I,h.split.run.mono fun r hr F1 H1 fp1 vs1 I1 n1 f1=>?_⟩
 rw [QbT (Qde ok)] at I1
 have rl1:=f1.kn ok
 obtain ⟨y,ey,h2⟩:=hr.split.of
 obtain ⟨q,eq,h3⟩:=h2.split.of
 rw [Qo4 ey] at rl1
 obtain ⟨u1,u2,rfl,ru1,ru2⟩:=rl1.two
 obtain rfl:=R.int ru1
 obtain ⟨l,vs,f,rest,ex,hl,ol,pm,w,cl⟩:=I1.remake (QbR eq)
 have el:l=l0:=by rw [ex0] at ex;cases ex;rfl
 subst el
 by_cases hz:0<=y.1/\y.1<=q.2.length/\q.2.length<sizeLine/\(D.immL q.2 && y.2.imm)=true
 ·rw [if_pos hz] at h3
  obtain ⟨z0,z1,z2,z3⟩:=hz
  obtain ⟨i1,i2⟩:=Bool.and_eq_true_iff.mp z3
  have rl:=ol.rl i1
  have ef:f=[]:=ol.imm0 i1
  subst ef
  refine ⟨l,vs,y.1,u2,rfl,rfl,hl,z0,by rw [rl.length];exact z1,by rw [rl.length];exact z2,?_⟩
  have rl':RL C.K F1 (vs.take y.1.toNat++u2 :: vs.drop y.1.toNat) (q.2.take y.1.toNat++y.2 :: q.2.drop y.1.toNat):=(rl.take _).app (.cons ru2 (rl.drop _))
  have im':D.immL (q.2.take y.1.toNat++y.2 :: q.2.drop y.1.toNat)=true:=QeW fun d hd=>by
   rcases List.mem_append.mp hd with hd | hd
   ·exact Qdj i1 d (List.mem_of_mem_take hd)
   ·rcases List.mem_cons.mp hd with rfl | hd
    ·exact i2
    ·exact Qdj i1 d (List.mem_of_mem_drop hd)
  exact h3 F1 _ σ _ n1.f (cl (f':=[]) (rl'.o im') (pm.nodup_iff.mp I1.nd) (fun _ z=>nomatch z))
 ·rw [if_neg hz] at h3;exact h3.elim
def QsF (tg:D->Rho->Option Rho)(m:ME):MS:=fun ρ=>(m ρ).bind fun r=>(Rs.of (tg r.1 r.2)).bind fun ρ'=>.ok (.nx,ρ')
theorem QrT {tge:Expr}{g:TG}{tg:D->Rho->Option Rho}(hg:PG X tge g)(gd:GD C g tg)(he:PE X e (tX .V C p E m))(hs:swapsWithSole [tge] e pos.line X.env=pure false:=by rfl)(hw:swappedStores [tge] e X.env=pure none:=by rfl)(h1:(assignEach [tge] X.env).map (·.2)=[assign tge X.env]:=by rfl) :
  PS X (.Assign [tge] e pos) (tS rk C E (QsF tg m)):=Qa2 (Qlp he hg hs hw h1) fun D σ H ⟨F,ρ,fp,I,h⟩=>by
 refine ⟨F,ρ,[],fp,I,h.split.run.mono fun r hr F1 H1 fp1 v I1 n1 f1=>?_⟩
 obtain ⟨ρ',e1,h2⟩:=hr.split.of
 exact gd F1 H1 σ r.2 [] fp1 v r.1 ρ' I1 f1 e1 _ fun σ' fp' J _=>h2 F1 H1 σ' fp' n1.f J
end
end TL
namespace TL
open PySem PySem.Spec L2 PyProof.Rows
def QuP:List Int->Int
 | []=>0
 |n :: r=>r.foldl (fun m x=>if m<x then x else m) n
def QbK:List Int->Int
 | []=>0
 |n :: r=>r.foldl (fun m x=>if x<m then x else m) n
theorem Qi4:∀ (r:List Int) (n:Int),(r.foldl (fun m x=>if x<m then x else m) n∈n :: r)/\∀ a∈n :: r,r.foldl (fun m x=>if x<m then x else m) n<=a
 | [],n=>⟨List.mem_cons_self,fun a ha=>by rw [List.mem_singleton.mp ha];exact Int.le_refl _⟩
 |x :: r,n=>by
  obtain ⟨h1,h2⟩:=Qi4 r (if x<n then x else n)
  rw [List.foldl_cons]
  refine ⟨?_,fun a ha=>?_⟩
  ·rcases List.mem_cons.mp h1 with h | h
   ·rw [h];split<;>simp
   ·simp [h]
  ·have h0:=h2 _ List.mem_cons_self
   rcases List.mem_cons.mp ha with rfl | ha
   ·refine Int.le_trans h0 ?_;split<;>omega
   ·rcases List.mem_cons.mp ha with rfl | ha
    ·refine Int.le_trans h0 ?_;split<;>omega
    ·exact h2 a (List.mem_cons_of_mem _ ha)
theorem QcW {ns:List Int}(h:ns≠[]):QbK ns∈ns/\∀ a∈ns,QbK ns<=a:=by
 cases ns with
 |nil=>exact absurd rfl h
 |cons n r=>exact Qi4 r n
section
variable {X:Cx}{C:Cn}
theorem Qhf (hc:X.calm=true):Qcm X (.builtin "min") (fun xs H Q=>∃ (p:Addr) (ns:List Int),xs=[.ref p]/\SqL X.K H p (ns.map L2.V.int)/\ns≠[]/\Q (.int (QbK ns)) H):=by
 intro pins s σ H xs us Q I r h
 obtain ⟨p,ns,rfl,hp,hne,q⟩:=h
 obtain ⟨u,rfl,ru⟩:=Qd9 r
 cases ru
 obtain ⟨its,rv,pl,hz⟩:=I.list hp
 have hi:IntsAre its ns:=Qfl rv
 obtain ⟨zs,e⟩:=hi.allInts.items
 have hns:ns=zs.toList.map (·.1):=by rw [← hi.numsOf,← nums_intItems,← e]
 have hsz:0<zs.size:=by
  have:ns.length≠0:=by simpa using hne
  rw [hns,List.length_map,Array.length_toList] at this;omega
 have hl:=pl.isList
 rw [e] at hl
 refine min_intList (I.ok.hd hc) hl hsz fun v h' tk hv hk=>?_
 obtain ⟨t,rfl⟩:=intItems_at hv
 obtain ⟨h1,h2⟩:=argBest_lt (numAt zs) (zs.size - 1)
 have em:numAt zs (argBest (fun i j=>decide (numAt zs i<numAt zs j)) (zs.size - 1))=QbK ns:=by
  obtain ⟨b1,b2⟩:=QcW hne
  refine Int.le_antisymm ?_ (b2 _ ?_)
  ·rw [hns] at b1
   obtain ⟨j,hj,ej⟩:=mem_getD b1
   rw [List.length_map,Array.length_toList] at hj
   rw [← hns] at ej
   have e2:numAt zs j=QbK ns:=by rw [numAt_eq,← hns];exact ej
   rw [← e2];exact h2 j (by omega)
  ·rw [hns,numAt_eq];exact getD_mem (by rw [List.length_map,Array.length_toList];omega)
 rw [em]
 exact ⟨.int (QbK ns),H,I.kept (t':=tk) hk,⟨_,rfl⟩,q⟩
def Qiq:List D->Option (List Int)
 | []=>some []
 |.int i :: r=>(Qiq r).map (i :: ·)
 |_=>none
theorem Qik {K:PySem.W.Frag}{F:Hp}:∀ {vs:List L2.V} {ds:List D} {ns:List Int},RL K F vs ds->Qiq ds=some ns->vs=ns.map L2.V.int
 |_,_,_,.nil,h=>by cases h;rfl
 |_,_,_,.cons (d:=d) r q,h=>by
  cases d with
  |int s=>
   obtain ⟨ys,e,rfl⟩:=Option.map_eq_some_iff.mp (show (Qiq _).map (s :: ·)=some _ from h)
   rw [R.int r,Qik q e];rfl
  |_=>cases h
theorem Qdg:∀ {ns:List Int},Qiq (ns.map .int)=some ns
 | []=>rfl
 |n :: ns=>by rw [List.map_cons,Qiq,Qdg];rfl
def QjG:List D->Option D
 | [.nd .lst ds]=>(Qiq ds).bind fun ns=>if ns=[] then none else some (.int (QbK ns))
 |_=>none
theorem QqI (hK:C.K=X.K):QeO C.K (fun xs H Q=>∃ (p:Addr) (ns:List Int),xs=[.ref p]/\SqL X.K H p (ns.map L2.V.int)/\ns≠[]/\Q (.int (QbK ns)) H) QjG:=fun H vs ds res r eg=>by
 unfold QjG at eg
 split at eg
 ·obtain ⟨ns,e1,e2⟩:=Option.bind_eq_some_iff.mp eg
  split at e2
  ·cases e2
  ·rename_i hne
   cases e2
   obtain ⟨v,rfl,r1⟩:=r.one
   obtain ⟨a,us,rfl,ha,rl⟩:=r1.inv
   refine ⟨_,rfl,fun Q h=>⟨a,ns,rfl,?_,hne,h⟩⟩
   rw [← Qik rl e1,← hK];exact ha
 ·cases eg
end
end TL
namespace TL
open PySem PySem.Spec L2 L2.Srt
section
variable {α:Type}{lt:α->α->Bool}
def QpT (lt:α->α->Bool)(x:α):List α->List α
 | []=>[x]
 |y :: ys=>if lt x y=true then x :: y :: ys else y :: QpT lt x ys
def QiS (lt:α->α->Bool):List α->List α
 | []=>[]
 |x :: xs=>QpT lt x (QiS lt xs)
theorem QeU (x:α):∀ ys:List α,(QpT lt x ys).Perm (x :: ys)
 | []=>.refl _
 |y :: ys=>by
  unfold QpT
  split
  ·exact .refl _
  ·exact ((QeU x ys).cons y).trans (.swap x y ys)
theorem Qcr:∀ xs:List α,(QiS lt xs).Perm xs
 | []=>.refl _
 |x :: xs=>(QeU x _).trans ((Qcr xs).cons x)
theorem QjZ (L:Lin lt){x:α}:∀ {ys:List α},ys.Pairwise (fun a b=>lt a b=true)->x∉ys->(QpT lt x ys).Pairwise (fun a b=>lt a b=true)
 | [],_,_=>List.pairwise_singleton _ _
 |y :: ys,h,hn=>by
  unfold QpT
  obtain ⟨h1,h2⟩:=List.pairwise_cons.mp h
  split
  ·rename_i hl
   exact List.pairwise_cons.mpr ⟨fun a ha=>by
    rcases List.mem_cons.mp ha with rfl | ha
    ·exact hl
    ·exact L.tr _ _ _ hl (h1 a ha),h⟩
  ·rename_i hl
   have hyx:lt y x=true:=L.tot _ _ (fun e=>hn (e▸List.mem_cons_self)) (by simpa using hl)
   refine List.pairwise_cons.mpr ⟨fun a ha=>?_,QjZ L h2 fun hm=>hn (List.mem_cons_of_mem _ hm)⟩
   rcases List.mem_cons.mp ((QeU x ys).mem_iff.mp ha) with rfl | ha
   ·exact hyx
   ·exact h1 a ha
theorem Qio (L:Lin lt):∀ {xs:List α},xs.Nodup->(QiS lt xs).Pairwise (fun a b=>lt a b=true)
 | [],_=>.nil
 |x :: xs,h=>by
  obtain ⟨h1,h2⟩:=List.nodup_cons.mp h
  exact QjZ L (Qio L h2) fun hm=>h1 ((Qcr xs).mem_iff.mp hm)
theorem QkP (L:Lin lt):∀ {xs ys:List α},xs.Pairwise (fun a b=>lt a b=true)->ys.Pairwise (fun a b=>lt a b=true)->xs.Perm ys->xs=ys
 | [],ys,_,_,p=>(List.nil_perm.mp p).symm
 |x :: xs,[],_,_,p=>absurd p.length_eq (by simp)
 |x :: xs,y :: ys,h,h',p=>by
  obtain ⟨a1,a2⟩:=List.pairwise_cons.mp h
  obtain ⟨b1,b2⟩:=List.pairwise_cons.mp h'
  have e:x=y:=by
   rcases List.mem_cons.mp (p.mem_iff.mp (List.mem_cons_self (a:=x) (l:=xs))) with e | hx
   ·exact e
   ·rcases List.mem_cons.mp (p.mem_iff.mpr (List.mem_cons_self (a:=y) (l:=ys))) with e | hy
    ·exact e.symm
    ·have z1:=b1 x hx
     have z2:=a1 y hy
     have:=L.tr _ _ _ z1 z2
     rw [L.irr] at this;cases this
  subst e
  rw [QkP L a2 b2 (p.cons_inv)]
end
def npD (x:NP):D:=.tup [.int x.1,pl x.2]
def pnD (x:PN):D:=.tup [pl x.1,.int x.2]
def QoO:D->Option NP
 |.nd .tup [.int n,.nd .tup [.int a,.int b]]=>some (n,(a,b))
 |_=>none
theorem Qin {d:D}{x:NP}(h:QoO d=some x):d=npD x:=by
 unfold QoO at h
 split at h
 ·cases h;rfl
 ·cases h
def npL:List D->Option (List NP)
 | []=>some []
 |d :: ds=>(QoO d).bind fun x=>(npL ds).map (x :: ·)
theorem Qnf:∀ {ds:List D} {xs:List NP},npL ds=some xs->ds=xs.map npD
 | [],_,h=>by cases h;rfl
 |d :: ds,xs,h=>by
  obtain ⟨x,e1,e2⟩:=Option.bind_eq_some_iff.mp (show (QoO d).bind _=some xs from h)
  obtain ⟨ys,e3,rfl⟩:=Option.map_eq_some_iff.mp e2
  rw [Qin e1,Qnf e3];rfl
theorem Qli:∀ {xs:List NP},npL (xs.map npD)=some xs
 | []=>rfl
 |x :: xs=>by rw [List.map_cons,npL,Qli];rfl
theorem Qtv {K:PySem.W.Frag}{F:Hp}{v:L2.V}{q:Int × Int}(r:R K F v (pl q)):∃ a,v=.ref a/\F a=some (.tup [.int q.1,.int q.2]):=by
 obtain ⟨a,vs,rfl,h1,h2⟩:=r.inv
 obtain ⟨v1,v2,rfl,r1,r2⟩:=h2.two
 rw [R.int r1,R.int r2] at h1
 exact ⟨a,rfl,h1⟩
theorem QkD {K:PySem.W.Frag}{F:Hp}{v:L2.V}{x:NP}(r:R K F v (npD x)):∃ a,v=.ref a/\PT1 K F a x:=by
 obtain ⟨a,vs,rfl,h1,h2⟩:=r.inv
 obtain ⟨v1,v2,rfl,r1,r2⟩:=h2.two
 obtain ⟨b,rfl,hb⟩:=Qtv r2
 rw [R.int r1] at h1
 exact ⟨a,rfl,b,SqT.of h1,SqT.of hb⟩
theorem Qlq {K:PySem.W.Frag}{F:Hp}:∀ {vs:List L2.V} {xs:List NP},RL K F vs (xs.map npD)->∃ qs:List Addr,vs=qs.map L2.V.ref/\Paired (PT1 K F) qs xs
 |_,[],.nil=>⟨[],rfl,.nil⟩
 |_,x :: xs,.cons r t=>by
  obtain ⟨a,rfl,h⟩:=QkD r
  obtain ⟨qs,rfl,p⟩:=Qlq t
  exact ⟨a :: qs,rfl,.cons h p⟩
theorem QeN:∀ xs:List NP,D.immL (xs.map npD)=true
 | []=>rfl
 |x :: xs=>by rw [List.map_cons];show (true && D.immL (xs.map npD))=true;rw [QeN xs];rfl
section
variable {X:Cx}{C:Cn}{E:XE}{p:Bool}{o e a b:Expr}{m:ME}{mr:MA}{pos px:Pos}{ks:List Kd}{x:Str}
def Qtb:D->D->Option D
 |x,y=>(QoO x).bind fun a=>(QoO y).map fun b=>.bl (Qcx a b)
def Qt9 (K:PySem.W.Frag):R2:=fun x y H Q=>∃ a b q r,x=.ref q/\y=.ref r/\PT1 K H q a/\PT1 K H r b/\Q (.bl (Qcx a b)) H
theorem Qqd (hu:X.A.units+1<cLine):OpR X (compareOp .Lt) (Qt9 X.K):=by
 intro pins s σ H x y v u Q I rx ry h
 obtain ⟨a,b,q,r,rfl,rfl,ha,hb,k⟩:=h
 cases rx
 cases ry
 exact Qta hu (Qlc I ha) (Qlc I hb) ⟨.bl (Qcx a b),H,I,rfl,k⟩
theorem Quk (hK:C.K=X.K):OpD C.K (Qt9 X.K) Qtb:=fun H v u d e res r q eg=>by
 obtain ⟨a,e1,e2⟩:=Option.bind_eq_some_iff.mp (show (QoO d).bind _=some res from eg)
 obtain ⟨b,e3,rfl⟩:=Option.map_eq_some_iff.mp e2
 rw [Qin e1] at r
 rw [Qin e3] at q
 obtain ⟨q1,rfl,h1⟩:=QkD r
 obtain ⟨q2,rfl,h2⟩:=QkD q
 exact ⟨_,rfl,fun Q h=>⟨a,b,q1,q2,rfl,rfl,hK▸h1,hK▸h2,h⟩⟩
def QhU:List D->Option (List NP)
 | [.nd .lst ds]=>(npL ds).bind fun ps=>if ps.Nodup/\ps.length<64 then some (QiS Qcx ps) else none
 |_=>none
def QkY (mr:MA):ME:=fun ρ=>(mr ρ).bind fun r=>(Rs.of (QhU r.1)).bind fun ps=>.ok (.lst (ps.map npD),r.2)
theorem Qnc (hu:X.A.units+3<cLine)(hK:C.K=X.K)(hm:X.mg x=none)(hv:bootBuiltins x=some (.builtin "sorted"))(ha:PA X [e] (tA ks C p E mr))(ok:rdL ks=true:=by rfl)(hgl:Gl X x:=by rfl)(hn:x ≠ "__name__" := by decide)(hdb:(x == ("__debug__" : Str))=false:=by decide)
  (he:starEach [e] X.env=(false,eval e X.env) :: starEach [] X.env:=by rfl) (hpl:(backTo pos (starEach [] X.env)).any (·.1)=false:=by rfl):PE X (.Call (.Name x px) [e] [] pos) (tX .O C p E (QkY mr)):=
 Qan (QiX (Qg7 hu) hgl hm hv ha hn hdb he hpl) fun σ H Q ⟨F,ρ,τ,fp,I,h⟩=>by
  refine ⟨F,ρ,τ,fp,I,h.split.mono fun r1 h1 F1 H1 fp1 vs I1 n1 f1=>?_⟩
  rw [QbT ok] at I1
  have rl:=f1.rd I1 ok
  obtain ⟨ps',e1,h2⟩:=h1.split.of
  obtain ⟨dr,ρ1⟩:=r1
  dsimp only at e1 rl h2
  unfold QhU at e1
  split at e1
  ·rename_i ds
   obtain ⟨ps,e2,e3⟩:=Option.bind_eq_some_iff.mp e1
   split at e3
   ·rename_i cnd
    cases e3
    rw [Qnf e2] at rl
    obtain ⟨v,rfl,r1⟩:=rl.one
    obtain ⟨a,us,rfl,h3,h4⟩:=r1.inv
    have rlF:=I1.loL h4 (QeN ps)
    obtain ⟨qs,rfl,pr⟩:=Qlq h4
    have up:∀ {q:Addr} {y:NP},PT1 C.K (jn F1 H1 fp1) q y->PT1 X.K H1 q y:=fun {q y} ⟨r,z1,z2⟩=>by
     have s:=Qcv I1.fh (fp:=fp1)
     rw [← hK]
     exact ⟨r,z1.imp (fun z=>z.imp (fun z=>s _ _ z) fun ⟨o,z⟩=>⟨o,s _ _ z⟩) id,z2.imp (fun z=>z.imp (fun z=>s _ _ z) fun ⟨o,z⟩=>⟨o,s _ _ z⟩) id⟩
    refine ⟨a,qs,ps,rfl,?_,Paired.imp' (fun _ _ z=>up z) pr,cnd.1,cnd.2,fun l is hl pm pw=>?_⟩
    ·rw [← hK];exact (At.same h3 (Qcv I1.fh)).sql
    ·have ilt:∀ i∈is,i<ps.length:=fun i hi=>List.mem_range.mp (pm.mem_iff.mp hi)
     have eq:is.map (fun i=>ps.getD i (0,(0,0)))=QiS Qcx ps:=by
      refine QkP lin_NP pw (Qio lin_NP cnd.1) ?_
      have z:=pm.map fun i=>ps.getD i (0,(0,0))
      rw [QjK] at z
      exact z.trans (Qcr ps).symm
     have rl':∀ js:List Nat,(∀ i∈js,i<ps.length)->RL C.K F1 ((js.map fun i=>qs.getD i 0).map L2.V.ref) ((js.map fun i=>ps.getD i (0,(0,0))).map npD):=by
      intro js
      induction js with
      |nil=>intro _;exact .nil
      |cons i js ih=>
       intro hj
       have hi:=hj i List.mem_cons_self
       obtain ⟨v,ev,rv⟩:=rlF.get (show (ps.map npD)[i]? = some (npD (ps.getD i (0,(0,0)))) by rw [List.getElem?_map,List.getElem?_eq_getElem hi,List.getD_eq_getElem?_getD,List.getElem?_eq_getElem hi];rfl)
       have ev':v=.ref (qs.getD i 0):=by
        rw [List.getElem?_map] at ev
        obtain ⟨q,eq,rfl⟩:=Option.map_eq_some_iff.mp ev
        rw [List.getD_eq_getElem?_getD,eq];rfl
       subst ev'
       exact .cons rv (ih fun j h=>hj j (List.mem_cons_of_mem _ h))
     have rr:=rl' is ilt
     rw [eq] at rr
     exact h2 _ _ _ _ (I1.newList hl rr (QeN _)) ((n1.trans (q:=true) ⟨Same.refl _,fun _=>QeM I1 hl⟩).weak fun z=>by simp [z]) True.intro
   ·cases e3
  ·cases e1
def Qut:List Key->Option (Int × Int)
 | [.inl a,.inl b]=>some (a,b)
 |_=>none
def Qnu:List (List Key)->List D->Option (List PN)
 | [],[]=>some []
 |k :: ks,.int n :: ds=>(Qut k).bind fun q=>(Qnu ks ds).map ((q,n) :: ·)
 |_,_=>none
def QlF:D->Option (List PN)
 |.nd (.dT ks) ds=>Qnu ks ds
 |_=>none
def Qqp (m:ME):ME:=fun ρ=>(m ρ).bind fun r=>(Rs.of (QlF r.1)).bind fun ps=>if ps.length<64 then .ok (.lst ((QiS Qt3 ps).map pnD),r.2) else .no
end
end TL
namespace TL
open PySem PySem.Spec L2
section
variable {C:Cn}{rk:Kd}
theorem QhR {P:Program}{w:World}{K:PySem.W.Frag}{mg:Str->Option Value}{base:Heap}{k:Addr}{n:Nat}{x:Str}{ps:List Str}{io:List Bool}{f:List D->Fr}(D:Qas P w K mg base k n x ps (spF K io rk f))(hC:C.K=K):Qas P w K mg base k n x ps (spF C.K io rk f):=by rw [hC];exact D
theorem QuJ {P:Program}{w:World}{K:PySem.W.Frag}{mg:Str->Option Value}{base:Heap}{k:Addr}{n:Nat}{x:Str}{ps:List Str}{f:Addr->D->Fr}(D:Qdh P w K mg base k n x ps (spI K k f))(hC:C.K=K):Qdh P w K mg base k n x ps (spI C.K k f):=by rw [hC];exact D
theorem hu3 {A:Around}{k:Nat}(hr:Room k A):A.units+3<cLine:=by have:=hr.units;omega
theorem QgL:bootBuiltins "sorted" = some (.builtin "sorted"):=by decide +kernel
end
section
variable {X:Cx}{C:Cn}{E:XE}{p pa pb:Bool}{a b:Expr}{ma mb:ME}{pos:Pos}{k ka kb:Kd}
def QtV (K:PySem.W.Frag):R2:=fun x y H Q=>∃ l k xs,x=.ref l/\y=.int k/\SqL K H l xs/\-(2 ^ 63)<=k/\k<2 ^ 63/\xs.length * k.toNat<=sizeLine/\
 ∀ p,H p=none->Q (.ref p) (upd H p (.lst (List.replicate k.toNat xs).flatten))
theorem Qop:OpR X (binaryOp .Mult) (QtV X.K):=by
 intro pins s σ H x y v u Q I rx ry h
 obtain ⟨l,k,xs,rfl,rfl,hH,h1,h2,hz,q⟩:=h
 cases rx
 obtain ⟨t,rfl⟩:=ry
 obtain ⟨its,r,pl,z⟩:=I.list hH
 obtain ⟨⟨cls,dd,data,sl⟩,n,ho,hc,hdd,hd⟩:=pl
 cases hc;cases hd
 have hl:=r.length
 have hlen:its.toArray.size * k.toNat<=sizeLine:=by rw [List.size_toArray,← hl];exact hz
 refine wpAny_binaryOp_repeat_ref (T := "list") (U := "int") (by decide) ⟨_,ho,rfl⟩ (fun s'=>typeIs_int s' k t) noFill_list_mul F.fills_int_mul F.slot_int_rmul repeat_list F.slot_int_index.lookup
  (call_meets F.slot_int_rmul (typeIs_int s k t) F.entry_int_rmul (F.args_int_rmul_2 _ _) (PySem.lm_int_rmul_list_any k t l its.toArray n dd sl)
   ⟨ho,rfl,⟨_,ho,rfl⟩,call_meets F.slot_list_mul ⟨_,ho,rfl⟩ F.entry_list_mul (F.args_list_mul_2 _ _)
    (PySem.lm_list_mul_any l its.toArray n dd sl k t (by simp [Builtin.List.listFitsIndex];omega) (by rw [sizeLine_eq] at hlen;omega) (by rw [sizeLine_eq] at hlen;simp [Builtin.List.listTooLong,sizeLine] at *;omega))
    ⟨ho,?_⟩⟩)
 rw [PyProof.Rows.listMul_foldl_if]
 exact ⟨.ref _,_,I.lnew (t':=s.toks) (r.rep k.toNat) (by rw [Qpx,Nat.mul_comm];exact hz),rfl,q _ I.fresh⟩
def Qm5 (n:Int)(xs:List D):List D:=(List.replicate n.toNat xs).flatten
def QmJ (ma mb:ME):ME:=fun ρ=>(ma ρ).bind fun r1=>(mb r1.2).bind fun r2=>(Rs.of (asL r1.1)).bind fun xs=>(Rs.of (asI r2.1)).bind fun n=>if -(2 ^ 63)<=n/\n<2 ^ 63/\xs.length * n.toNat<=sizeLine/\D.immL (Qm5 n xs)=true then .ok (.lst (Qm5 n xs),r2.2) else .no
theorem RL.rep {K:PySem.W.Frag}{F:Hp}{us:List L2.V}{xs:List D}(h:RL K F us xs):∀ n:Nat,RL K F (List.replicate n us).flatten (List.replicate n xs).flatten
 |0=>.nil
 |n+1=>by rw [List.replicate_succ,List.replicate_succ,List.flatten_cons,List.flatten_cons];exact h.app (RL.rep h n)
theorem QrM (hK:C.K=X.K)(ha:PE X a (tX ka C pa E ma))(hb:PE X b (tX kb C pb E mb))(ok:ka.on pb=true:=by rfl)(ok2:kb.on true=true:=by rfl):PE X (.BinOp a .Mult b pos) (tX .O C (pa && pb) E (QmJ ma mb)):=Qan (Qrl Qop ha hb) fun σ H Q ⟨F,ρ,τ,fp,I,h⟩=>by
 refine ⟨F,ρ,τ,fp,I,h.split.mono fun r1 h1 F1 H1 fp1 v1 I1 n1 f1=>?_⟩
 rw [Kd.tk_on ok] at I1
 refine ⟨F1,r1.2,τ,fp1,I1,h1.split.mono fun r2 h2 F2 H2 fp2 v2 I2 n2 f2=>?_⟩
 rw [Kd.tk_on ok2] at I2
 obtain ⟨xs,e1,h3⟩:=h2.split.of
 obtain ⟨n,e2,h4⟩:=h3.split.of
 have g1:R C.K (jn F2 H2 fp2) v1 (.nd .lst xs):=by rw [← QhG e1];exact Kd.stay ok f1 n2 I2
 have g2:R C.K (jn F2 H2 fp2) v2 (.int n):=by rw [← Qhd e2];exact Kd.stay ok2 f2 .refl I2
 obtain ⟨l1,us,rfl,a1,rl1⟩:=g1.inv
 obtain rfl:=g2.det_sc (w:=.int n) rfl
 by_cases hz : -(2 ^ 63)<=n/\n<2 ^ 63/\xs.length * n.toNat<=sizeLine/\D.immL (Qm5 n xs)=true
 ·rw [if_pos hz] at h4
  obtain ⟨z1,z2,z3,hi⟩:=hz
  refine ⟨l1,n,us,rfl,rfl,hK▸At.same a1 (Qcv I2.fh),z1,z2,by rw [rl1.length];exact z3,fun q hq=>?_⟩
  exact h4 _ _ _ _ (I2.newList hq (I2.loL (rl1.rep n.toNat) hi) hi) (((n1.trans n2).trans (q:=true) ⟨Same.refl _,fun _=>QeM I2 hq⟩).weak fun z=>by simpa using z) True.intro
 ·rw [if_neg hz] at h4;exact h4.elim
end
def QtX (m:ME):MA:=fun ρ=>(m ρ).bind fun r=>(Rs.of (Qjx [r.1])).bind fun ds=>if D.immL ds=true then .ok (ds,r.2) else .no
def Qcn (tc:MT)(te:ME):List D->Rho->List D->Rs (List D × Rho)
 | [],ρ,acc=>.ok (acc,ρ)
 |d :: ds,ρ,acc=>(Rs.of (Qiu 0 1 d ρ)).bind fun ρ0=>(tc ρ0).bind fun c=>if c.1=true then (te c.2).bind fun r=>if acc.length<sizeLine then Qcn tc te ds ((r.2.set 1 none).set 0 none) (acc++[r.1]) else .no
  else Qcn tc te ds ((c.2.set 1 none).set 0 none) acc
def Qfq (par:Bool)(cs:List Cp)(mi:MA)(tc:MT)(te:ME):ME:=fun ρ=>(mi ρ).bind fun r=>(Rs.of (Qdl par r.2 (cs.filterMap Cp.is))).bind fun di=>(Rs.of (Qd3 r.2 cs di)).bind fun ρb=>
 match Qcn tc te r.1 ρb [] with
 |.ok q=>(Rs.of (outs (ioB cs) q.2)).bind fun os=>.ok (.lst q.1,QcT par r.2 (cs.filterMap Cp.is) os)
 |_=>.no
theorem Qom {X:Cx}{C:Cn}{F H:Hp}{σ:L2.St}{ρ ρ':Rho}{τ:List (L2.V × D)}{fp:List Addr}{x:L2.V}{d:D}(hK:C.K=X.K)(I:SI C F H σ ρ τ fp)(r:R X.K F x d)(h:Qiu 0 1 d ρ=some ρ') :
  ∃ v1 v2 fp',SI C F H ((σ.set 0 (some v1)).set 1 (some v2)) ρ' τ fp'/\∀ Q:L2.St->Hp->Prop,Q ((σ.set 0 (some v1)).set 1 (some v2)) H->QrH X.K 2 (QfM (Qdo 0) (QfM (Qdo 1) QrF)) x σ H Q:=by
 unfold Qiu at h
 split at h
 ·next a b=>
  rw [← hK] at r
  obtain ⟨q,vs,rfl,h1,h2⟩:=r.inv
  obtain ⟨v1,v2,rfl,r1,r2⟩:=h2.two
  obtain ⟨ρ1,e1,e2⟩:=Option.bind_eq_some_iff.mp h
  obtain ⟨fp1,J1,s1⟩:=SI.setF I r1 e1
  obtain ⟨fp2,J2,s2⟩:=SI.setF J1 r2 e2
  exact ⟨v1,v2,fp2,J2,fun Q hq=>⟨q,[v1,v2],rfl,by rw [← hK];exact (At.same h1 I.fh).sqt,rfl,v1,[v2],rfl,v2,[],rfl,rfl,hq⟩⟩
 ·cases h
theorem Quh {σ:L2.St}{y0 y1:Option L2.V}(h0:σ[0]? = some none)(h1:σ[1]? = some none):Ext σ ((σ.set 0 y0).set 1 y1):=by
 refine ⟨by rw [List.length_set,List.length_set],fun i v e=>?_⟩
 have n0:i≠0:=fun z=>by subst z;rw [h0] at e;cases e
 have n1:i≠1:=fun z=>by subst z;rw [h1] at e;cases e
 rw [List.getElem?_set_ne (Ne.symm n1),List.getElem?_set_ne (Ne.symm n0)]
 exact e
theorem Quc {C:Cn}{F H:Hp}{σ:L2.St}{ρ:Rho}{τ:List (L2.V × D)}{fp:List Addr}{v1 v2:L2.V}(I:SI C F H ((σ.set 0 (some v1)).set 1 (some v2)) ρ τ fp)(h0:σ[0]? = some none)(h1:σ[1]? = some none)(n0:∀ v,(0,v)∉C.pars)(n1:∀ v,(1,v)∉C.pars):∃ fp',SI C F H σ ((ρ.set 1 none).set 0 none) τ fp':=by
 obtain ⟨fp1,J⟩:=SI.clr (j:=1) (x:=v2) I (by rw [List.getElem?_set_ne (by decide)];exact h1) n1
 exact SI.clr (j:=0) (x:=v1) J h0 n0
section
variable {X:Cx}{C:Cn}{E:XE}{p pa pc pe:Bool}{me:ME}{mt:MT}{mi:MA}{pos:Pos}{k:Kd}{elt iter:Expr}{x:Str}{ifs:List Expr}{scope:Scope}{N:List Str}{cs:List Cp}{par:Bool}
theorem QlO (hK:C.K=X.K)(hj:cs[0]? = some .me)(hj1:cs[1]? = some .me)(nd:(cs.filterMap Cp.is).Nodup)(hp:p=true->cs.filterMap Cp.is=[]){σ:L2.St}{H:Hp}{Q:VK}(h:tX .O C (pa && p) E (Qfq par cs mi mt me) σ H Q):QnN (tI C pa E mi) (cs.map Cp.ix) (QrH X.K 2 (QfM (Qdo 0) (QfM (Qdo 1) QrF))) (exT X.K pc mt) (exX .O X.K pe me) σ H Q:=by
 obtain ⟨F,ρ,τ,fp,I,h⟩:=h
 refine ⟨F,ρ,τ,fp,I,h.split.mono fun r hr F1 H1 fp1 J I1 n1 it=>?_⟩
 obtain ⟨di,eg,h2⟩:=hr.split.of
 obtain ⟨ρb,eb,h3⟩:=h2.split.of
 obtain ⟨vi,f,rest,sg,ol,pm,w,cl⟩:=I1.lend nd eg
 have ndp:=pm.nodup_iff.mp I1.nd
 have inl:∀ a∈f,a∈fp1:=fun a ha=>pm.mem_iff.mpr (List.mem_append_left _ ha)
 have inr:∀ a∈rest,a∈fp1:=fun a ha=>pm.mem_iff.mpr (List.mem_append_right _ ha)
 have dis:∀ a∈rest,a∉f:=fun a ha hf=>(List.nodup_append.mp ndp).2.2 a hf a ha rfl
 cases ec:Qcn mt me r.1 ρb [] with
 |no=>rw [ec] at h3;exact h3.elim
 |ex c q=>rw [ec] at h3;exact h3.elim
 |ok q=>
  obtain ⟨accF,ρF⟩:=q
  rw [ec] at h3
  obtain ⟨os,eo,h4⟩:=h3.split.of
  let Cb:Cn:=⟨X.K,H1,F1,f,QaB 0 (ioB cs) (vsB cs vi)⟩
  have IB:SI Cb F1 H1 (Qax (cs.map Cp.ix) σ) ρb [] f:=by
   refine ⟨⟨[],f,[],Qfx I1 hK sg (hK▸ol) eb,.nil,by simp,(fun _ z=>nomatch z),(fun _ z=>nomatch z),fun a ha=>.inl ha⟩,(List.nodup_append.mp ndp).1,fun a ha=>I1.ap a (inl a ha),I1.fh,Same.refl _,fun b o e=>.inl e,fun b o e _=>e,fun b e=>e,fun i v hi=>?_⟩
   obtain ⟨i1,e1,q1⟩:=Qh6 sg hi
   obtain ⟨i2,e2,d2,q2⟩:=Qew (σ:=σ) eb hi
   have:i1=i:=by omega
   subst this
   have:i2=i1:=by omega
   subst this
   exact ⟨q1,d2,q2⟩
  have hbk:∀ k:Nat,cs[k]? = some Cp.me->(Qax (cs.map Cp.ix) σ)[k]? = some none:=fun k hk=>by
   unfold Qax
   rw [List.getElem?_map,List.getElem?_map,hk]
   rfl
  have npk:∀ k:Nat,cs[k]? = some Cp.me->∀ v,(k,v)∉Cb.pars:=fun k hk v hv=>by
   obtain ⟨i1,e1,q1⟩:=Qh6 sg hv
   have:i1=k:=by omega
   subst this
   rw [hbk i1 hk] at q1;cases q1
  have b0:=hbk 0 hj
  have b1:=hbk 1 hj1
  refine ⟨fun i mm ys H'=>mm=r.1.length - i/\i<=r.1.length/\∃ F' ρ' acc fp',SI Cb F' H' (Qax (cs.map Cp.ix) σ) ρ' ((ys.zip acc).reverse) fp'/\ys.length=acc.length/\Same F1 F'/\Qcn mt me (r.1.drop i) ρ' acc=.ok (accF,ρF),⟨r.1.length,by simp,Nat.zero_le _,F1,ρb,[],f,IB,rfl,Same.refl _,by rw [List.drop_zero];exact ec⟩,?_⟩
  rintro i mm ys H2 ⟨rfl,hi2,F2,ρ2,acc,fp2,I2,lya,s2,k2⟩
  by_cases hlt:i<r.1.length
  ·obtain ⟨d,ed⟩:∃ d,r.1[i]? = some d:=⟨r.1[i],List.getElem?_eq_getElem hlt⟩
   obtain ⟨g1,g2⟩:=it.go (C:=Cb) hK.symm I2 s2 ed
   have edr:r.1.drop i=d :: r.1.drop (i+1):=by
    rw [List.drop_eq_getElem_cons hlt]
    have:r.1[i]=d:=by rw [List.getElem?_eq_getElem hlt] at ed;exact Option.some.inj ed
    rw [this]
   rw [edr] at k2
   unfold Qcn at k2
   cases es:Qiu 0 1 d ρ2 with
   |none=>rw [es] at k2;cases k2
   |some ρ3=>
    rw [es] at k2
    change (mt ρ3).bind _=_ at k2
    refine .inr ⟨g1,fun ys' H'=>∃ F' ρ' acc fp',SI Cb F' H' (Qax (cs.map Cp.ix) σ) ρ' ((ys'.zip acc).reverse) fp'/\ys'.length=acc.length/\Same F1 F'/\Qcn mt me (r.1.drop (i+1)) ρ' acc=.ok (accF,ρF),fun ys' H' z=>⟨_,by omega,rfl,hlt,z⟩,fun x0 H' y=>?_⟩
    obtain ⟨F3,I3,n3,r3⟩:=g2 x0 H' y
    have s3:Same F1 F3:=s2.trans n3.f
    obtain ⟨v1,v2,fp4,I4,gq⟩:=Qom (C:=Cb) rfl I3 (show R X.K F3 x0 d by rw [← hK];exact r3) es
    refine gq _ ⟨Quh b0 b1,?_⟩
    cases et:mt ρ3 with
    |no=>rw [et] at k2;cases k2
    |ex c q=>rw [et] at k2;cases k2
    |ok q=>
     obtain ⟨c,ρ5⟩:=q
     rw [et] at k2
     change (if c=true then _ else _)=_ at k2
     refine ⟨Cb,rfl,F3,ρ3,_,fp4,I4,Run.ef et fun F5 H5 fp5 I5 n5=>?_⟩
     have s5:Same F1 F5:=s3.trans n5.f
     change (if c=true then _ else _)
     by_cases hc:c=true
     ·rw [if_pos hc] at k2 ⊢
      cases ee:me ρ5 with
      |no=>rw [ee] at k2;cases k2
      |ex c q=>rw [ee] at k2;cases k2
      |ok q=>
       obtain ⟨d6,ρ6⟩:=q
       rw [ee] at k2
       change (if acc.length<sizeLine then _ else _)=_ at k2
       refine ⟨Cb,rfl,F5,ρ5,_,fp5,I5,Run.ef ee fun F6 H6 fp6 v6 I6 n6 _=>?_⟩
       by_cases hz:acc.length<sizeLine
       ·rw [if_pos hz] at k2
        refine ⟨by rw [lya];exact hz,?_⟩
        obtain ⟨fp7,I7⟩:=Quc I6 b0 b1 (npk 0 hj) (npk 1 hj1)
        refine ⟨F6,_,acc++[d6],fp7,?_,by simp [lya],s5.trans n6.f,k2⟩
        have ez:((ys++[v6]).zip (acc++[d6])).reverse=(v6,d6) :: (ys.zip acc).reverse:=by
         rw [List.zip_append lya,List.reverse_append]
         rfl
        rw [ez]
        exact I7
       ·rw [if_neg hz] at k2;cases k2
     ·rw [if_neg hc] at k2 ⊢
      obtain ⟨fp7,I7⟩:=Quc I5 b0 b1 (npk 0 hj) (npk 1 hj1)
      exact ⟨F5,_,acc,fp7,I7,lya,s5,k2⟩
  ·have e:i=r.1.length:=by omega
   subst e
   rw [List.drop_length] at k2
   unfold Qcn at k2
   cases k2
   refine .inl ⟨it.stop (C:=Cb) hK.symm I2 s2,fun Dd hD=>?_⟩
   obtain ⟨f1,g1,t1,sl,ot,pm2,w1,w2,w3⟩:=I2.sl
   have og:=Qci (j0:=0) (vs:=vsB cs vi) sl eo Qd2 (fun i u hi=>⟨i,by omega,(I2.pr i u hi).1⟩)
   rw [QeZ sg] at og
   have ot':OL Cb.K F2 H2 ys.reverse accF.reverse t1:=by
    have e1:((ys.zip accF).reverse).map (·.1)=ys.reverse:=by rw [List.map_reverse,Qih lya]
    have e2:((ys.zip accF).reverse).map (·.2)=accF.reverse:=by rw [List.map_reverse,Qig lya]
    rw [e1,e2] at ot
    exact ot
   obtain ⟨t2,oy,pt⟩:=Qma ot'
   rw [List.reverse_reverse,List.reverse_reverse] at oy
   have ndp2:=pm2.nodup_iff.mp I2.nd
   have inn:∀ a,a∈f1\/a∈g1\/a∈t1->a∈fp2:=fun a z=>pm2.mem_iff.mpr (by simpa using z)
   have some2:∀ a∈fp2,H2 a≠none:=fun a ha z=>by
    obtain ⟨o,e,_⟩:=I2.mem a ha
    rw [z] at e;cases e
   have some1:∀ a∈fp1,H1 a≠none:=fun a ha z=>by
    obtain ⟨o,e,_⟩:=I1.mem a ha
    rw [z] at e;cases e
   have nD:∀ a,H2 a≠none->a≠Dd:=fun a h z=>h (z▸hD)
   have hkeep:∀ b o,H1 b=some o->b∉f->H2 b=some o:=fun b o e n=>I2.kp b o e n
   have H1D:H1 Dd=none:=I2.dm Dd hD
   have fD:F2 Dd=none:=I2.fh.free hD
   have sH:Same H2 (upd H2 Dd (.lst ys)):=Same.upd hD
   have og':OL C.K F2 (upd H2 Dd (.lst ys)) vi os g1:=by
    rw [hK]
    exact og.keep (Same.refl _) fun a ha=>Qag (nD a (some2 a (inn a (.inr (.inl ha)))))
   have oy':OL C.K F2 (upd H2 Dd (.lst ys)) ys accF t2:=by
    rw [hK]
    exact oy.keep (Same.refl _) fun a ha=>Qag (nD a (some2 a (inn a (.inr (.inr (pt.mem_iff.mpr ha))))))
   have disg:∀ a,(a∈g1\/a∈t1)->a∉rest:=fun a z hr=>by
    rcases z with z | z
    ·rcases w3 a z with y | y
     ·exact dis a hr y
     ·exact some1 a (inr a hr) y
    ·exact some1 a (inr a hr) (w2 a z)
   have ndg:g1.Nodup:=(List.nodup_append.mp (List.nodup_append.mp ndp2).2.1).1
   have ndt:t2.Nodup:=pt.nodup_iff.mp (List.nodup_append.mp (List.nodup_append.mp ndp2).2.1).2.1
   have disgt:∀ a∈g1,a∉t2:=fun a ha hb=>(List.nodup_append.mp (List.nodup_append.mp ndp2).2.1).2.2 a ha a (pt.mem_iff.mpr hb) rfl
   have apr:∀ a∈rest,F2 a=none:=fun a ha=>by
    cases e:F2 a with
    |none=>rfl
    |some o=>
     rcases I2.fn a o e with z | z
     ·exact absurd (show F1 a=some o from z) (by rw [I1.ap a (inr a ha)];simp)
     ·obtain ⟨o2,e2,m2⟩:=I1.mem a (inr a ha)
      exact (z.not (show Cb.H₀ a≠none from some1 a (inr a ha)) (I2.fh a o e) (hkeep a o2 e2 (dis a ha)) m2).elim
   have JJ:=cl (F':=F2) (H':=upd H2 Dd (.lst ys)) s2 (I2.fh.trans sH) (fun a ha=>by
    obtain ⟨o,e,_⟩:=I1.mem a (inr a ha)
    rw [e]
    exact sH a o (hkeep a o e (dis a ha))) (fun b e=>I2.dm b (sH.free e)) (fun b o e n z=>sH b o (hkeep b o z fun hb=>by
     rcases w b hb with y | y
     ·rw [y] at e;cases e
     ·exact n y.2)) (fun b o e=>(I2.fn b o e).imp id fun z=>z.up fun y=>I1.dm b y) og' (List.nodup_append.mpr ⟨ndg,(List.nodup_append.mp ndp).2.1,fun a ha b hb z=>disg a (.inl ha) (z▸hb)⟩) (fun a ha=>(List.mem_append.mp ha).elim (fun z=>I2.ap a (inn a (.inr (.inl z)))) (apr a)) (fun a ha=>(w3 a ha).elim (w a) fun z=>.inl (I1.dm a z))
   have ndall:((Dd :: t2)++(g1++rest)).Nodup:=by
    refine List.nodup_append.mpr ⟨List.nodup_cons.mpr ⟨fun z=>some2 Dd (inn Dd (.inr (.inr (pt.mem_iff.mpr z)))) hD,ndt⟩,JJ.nd,fun a ha b hb z=>?_⟩
    subst z
    rcases List.mem_cons.mp ha with rfl | ha
    ·rcases List.mem_append.mp hb with y | y
     ·exact some2 _ (inn _ (.inr (.inl y))) hD
     ·exact some1 _ (inr _ y) H1D
    ·rcases List.mem_append.mp hb with y | y
     ·exact disgt a y ha
     ·exact disg a (.inr (pt.mem_iff.mpr ha)) y
   refine h4 F2 _ _ (.ref Dd) (JJ.push (.mt (t:=.lst) (show upd H2 Dd (.lst ys) Dd=some (.lst ys) from Qap) oy') (fun a ha=>?_) (fun a ha=>?_) ndall) (n1.trans (q:=p) ⟨s2,fun hpp b o e=>?_⟩) True.intro
   ·rcases List.mem_cons.mp ha with rfl | ha
    ·exact I1.dm _ H1D
    ·exact I1.dm a (w2 a (pt.mem_iff.mpr ha))
   ·rcases List.mem_cons.mp ha with rfl | ha
    ·exact fD
    ·exact I2.ap a (inn a (.inr (.inr (pt.mem_iff.mpr ha))))
   ·have ef0:f=[]:=by
     rw [hp hpp] at sg
     cases sg
     cases ol
     rfl
    subst ef0
    by_cases hb:b∈fp1
    ·have hb':b∈rest:=by simpa using pm.mem_iff.mp hb
     rw [QbY hb] at e
     rw [QbY (List.mem_append_right _ (List.mem_append_right _ hb'))]
     exact sH b o (hkeep b o e (by simp))
    ·rw [QaY hb] at e
     have e2:=s2 b o e
     rw [QaY]
     ·exact e2
     ·intro hm
      rcases List.mem_append.mp hm with y | y
      ·rcases List.mem_cons.mp y with rfl | y
       ·rw [fD] at e2;cases e2
       ·rw [I2.ap b (inn b (.inr (.inr (pt.mem_iff.mpr y))))] at e2;cases e2
      ·rcases List.mem_append.mp y with y | y
       ·rw [I2.ap b (inn b (.inr (.inl y)))] at e2;cases e2
       ·rw [I1.ap b (inr b y)] at e;cases e
theorem Qje {tg:Expr}(hK:C.K=X.K)(hc:X.calm=true)(B:Blk X scope N (cs.map Cp.ix))(hj:cs[0]? = some .me)(hj1:cs[1]? = some .me)(hi:PI X tg iter (tI C pa E mi))(hg:∀ pins c s H ex,PG (X.blk scope N pins c s H ex) tg (QrH X.K 2 (QfM (Qdo 0) (QfM (Qdo 1) QrF))))
  (ht:∀ pins c s H ex,PIf (X.blk scope N pins c s H ex) ifs (exT X.K pc mt)) (he:∀ pins c s H ex,PE (X.blk scope N pins c s H ex) elt (exX .O X.K pe me)) (nd:(cs.filterMap Cp.is).Nodup:=by decide) (hp:p=true->cs.filterMap Cp.is=[]:=by decide)
  (hs:∀ x,foldedSetIterable iter X.env x=pure x:=by intro _;rfl):PE X (.ListComp elt [⟨tg,iter,ifs,0⟩] scope pos) (tX .O C (pa && p) E (Qfq par cs mi mt me)):=
 Qan (Qmj hc B hi hg ht he hs) fun _ _ _ h=>QlO hK hj hj1 nd hp h
end
def Qk6:List (List Key)->List D->List Key->Option D
 |k :: ks,d :: ds,q=>if k=q then some d else Qk6 ks ds q
 |_,_,_=>none
theorem Qk3 {K:PySem.W.Frag}{F:Hp}:∀ {ks:List (List Key)} {vs:List L2.V} {ds:List D} {q:List Key},RL K F vs ds->(∀ d,Qk6 ks ds q=some d->∃ v,Qjn (ks.zip vs) q=some v/\R K F v d)/\(Qk6 ks ds q=none->ks.length=vs.length->Qjn (ks.zip vs) q=none)
 | [],_,_,q,h=>⟨(fun d e=>by cases h<;>cases e),fun _ _=>rfl⟩
 |k :: ks,_,_,q,.nil=>⟨(fun d e=>by cases e),fun _ l=>by cases l⟩
 |k :: ks,v :: vs,d :: ds,q,.cons r h=>by
  obtain ⟨i1,i2⟩:=Qk3 (ks:=ks) (q:=q) h
  rw [List.zip_cons_cons]
  by_cases e:k=q
  ·subst e
   refine ⟨fun d' e'=>?_,fun e'=>?_⟩
   ·rw [Qk6,if_pos rfl] at e';cases e'
    exact ⟨v,Qet rfl,r⟩
   ·rw [Qk6,if_pos rfl] at e';cases e'
  ·refine ⟨fun d' e'=>?_,fun e' l=>?_⟩
   ·rw [Qk6,if_neg e] at e'
    rw [QdK e]
    exact i1 d' e'
   ·rw [Qk6,if_neg e] at e'
    rw [QdK e]
    exact i2 e' (by simpa using l)
def QsC:D->Option (List (List Key) × List D)
 |.nd (.dT ks) ds=>some (ks,ds)
 |_=>none
theorem Ql9 {d:D}{q:List (List Key) × List D}(h:QsC d=some q):d=.nd (.dT q.1) q.2:=by
 unfold QsC at h
 split at h
 ·cases h;rfl
 ·cases h
def Que (q:List (List Key) × List D)(y x:D):Option D:=(Qrq y).bind fun k=>match Qk6 q.1 q.2 k with
 |some d=>if d.imm=true then some d else none
 |none=>some x
def QhB (md my mx:ME):ME:=fun ρ=>(md ρ).bind fun r1=>(Rs.of (QsC r1.1)).bind fun q=>(my r1.2).bind fun r2=>(mx r2.2).bind fun r3=>Rs.of ((Que q r2.1 r3.1).map fun d=>(d,r3.2))
section
variable {X:Cx}{C:Cn}{E:XE}{pa:Bool}{o e f:Expr}{ma mb mc:ME}{apos cpos:Pos}{ka kb:Kd}
theorem Qf1 (hu:X.A.units+1<cLine)(ho:PE X o (tX ka C pa E ma))(he:PE X e (tX kb C true E mb))(hf:PE X f (tX .V C true E mc))(ok:ka.on true=true:=by rfl)(ok2:kb.on true=true:=by rfl)(m:M2 X o "get" apos e f cpos:=by exact ⟨rfl,rfl,rfl,rfl⟩) :
  PE X (.Call (.Attribute o "get" apos) [e,f] [] cpos) (tX .V C pa E (QhB ma mb mc)):=Qan (QmD hu ho he hf m) fun σ H Q ⟨F,ρ,τ,fp,I,h⟩=>by
 refine ⟨F,ρ,τ,fp,I,h.split.mono fun r1 h1 F1 H1 fp1 v1 I1 n1 f1=>?_⟩
 rw [Kd.tk_on ok] at I1
 obtain ⟨q,eq,h1⟩:=h1.split.of
 have g1:=Kd.stay ok f1 .refl I1
 rw [Ql9 eq] at g1
 obtain ⟨a,us,rfl,at1,rl1⟩:=g1.inv
 refine ⟨a,rfl,.inr ⟨q.1.zip us,.inl (Qcv I1.fh _ _ at1.2)⟩,F1,r1.2,τ,fp1,I1,h1.split.mono fun r2 h2 F2 H2 fp2 v2 I2 n2 f2=>?_⟩
 rw [Kd.tk_on ok2] at I2
 refine ⟨F2,r2.2,τ,fp2,I2,h2.split.mono fun r3 h3 F3 H3 fp3 v3 I3 n3 f3=>?_⟩
 obtain ⟨z,ez,h4⟩:=h3.of
 obtain ⟨res,eg,rfl⟩:=Option.map_eq_some_iff.mp ez
 have n23:Nx true F1 H1 fp1 F3 H3 fp3:=n2.trans n3
 have gd:=Kd.stay ok f1 n23 I3
 rw [Ql9 eq] at gd
 have gy:=Kd.stay ok2 f2 n3 I3
 obtain ⟨a',us',ea,at3,rl3⟩:=gd.inv
 cases ea
 obtain ⟨k,ek,e2⟩:=Option.bind_eq_some_iff.mp (show (Qrq r2.1).bind _=some res from eg)
 obtain ⟨bb,rfl,hb⟩:=QnD gy ek
 have dg:=DGet.t (Qcv I3.fh _ _ at3.2) (Qcv I3.fh _ _ hb)
 obtain ⟨w1,w2⟩:=Qk3 (ks:=q.1) (q:=k) rl3
 refine ⟨_,dg,?_⟩
 cases ev:Qk6 q.1 q.2 k with
 |some d=>
  rw [ev] at e2
  obtain ⟨v,ev1,rv⟩:=w1 d ev
  rw [ev1]
  by_cases hi:d.imm=true
  ·have e2:(if d.imm=true then some d else none)=some res:=e2
   rw [if_pos hi] at e2
   cases e2
   have:=I3.loL (.cons rv .nil) (by show (D.imm _ && true)=true;rw [hi];rfl)
   cases this with
   |cons r _=>exact h4 F3 H3 fp3 v I3 ((n1.trans n23).weak fun z=>by simp [z]) r
  ·have e2:(if d.imm=true then some d else none)=some res:=e2
   rw [if_neg hi] at e2;cases e2
 |none=>
  rw [ev] at e2
  have e2:some r3.1=some res:=e2
  cases e2
  rw [w2 ev at3.1]
  exact h4 F3 H3 fp3 v3 I3 ((n1.trans n23).weak fun z=>by simp [z]) f3
end
end TL
namespace TL
open PySem PySem.Spec L2 PyProof.Rows
section
variable {X:Cx}{C:Cn}{E:XE}{p:Bool}{e a:Expr}{m:ME}{mr:MA}{pos p2:Pos}{k:Kd}{ks:List Kd}
theorem Qkh (hc:X.calm=true):Qcm X (.builtin "sum") (fun xs H Q=>∃ (p:Addr) (ns:List Int),xs=[.ref p]/\SqL X.K H p (ns.map L2.V.int)/\Q (.int ns.sum) H):=by
 intro pins s σ H xs us Q I r h
 obtain ⟨p,ns,rfl,hp,q⟩:=h
 obtain ⟨u,rfl,ru⟩:=Qd9 r
 cases ru
 obtain ⟨its,rv,pl,hz⟩:=I.list hp
 have hi:IntsAre its ns:=Qfl rv
 obtain ⟨zs,e⟩:=hi.allInts.items
 have hns:ns=zs.toList.map (·.1):=by rw [← hi.numsOf,← nums_intItems,← e]
 have hl:=pl.isList
 rw [e] at hl
 refine sum_intListG (I.ok.hd hc) hl fun h' tk t' hk=>?_
 rw [preSum_eq,List.take_of_length_le (by simp),← hns]
 exact ⟨.int ns.sum,H,I.kept (t':=tk) hk,⟨_,rfl⟩,q⟩
def QkI:List D->Option D
 | [.nd .lst ds]=>(Qiq ds).map fun ns=>.int ns.sum
 |_=>none
theorem Qs3 (hK:C.K=X.K):QeO C.K (fun xs H Q=>∃ (p:Addr) (ns:List Int),xs=[.ref p]/\SqL X.K H p (ns.map L2.V.int)/\Q (.int ns.sum) H) QkI:=fun H vs ds res r eg=>by
 unfold QkI at eg
 split at eg
 ·obtain ⟨ns,e1,rfl⟩:=Option.map_eq_some_iff.mp eg
  obtain ⟨v,rfl,r1⟩:=r.one
  obtain ⟨a,us,rfl,ha,rl⟩:=r1.inv
  refine ⟨_,rfl,fun Q h=>⟨a,ns,rfl,?_,h⟩⟩
  rw [← Qik rl e1,← hK];exact ha
 ·cases eg
theorem QlG:bootBuiltins "sum" = some (.builtin "sum"):=by decide +kernel
def mx3 (a b c:Int):Int:=if b > a then (if c > b then c else b) else (if c > a then c else a)
theorem Qk2 (hc:X.calm=true):Qcm X (.builtin "max") (fun xs H Q=>∃ i j l,xs=[.int i,.int j,.int l]/\Q (.int (mx3 i j l)) H):=by
 intro pins s σ H xs us Q I r h
 obtain ⟨i,j,l,rfl,q⟩:=h
 cases r with
 |cons r1 r=>
  cases r with
  |cons r2 r=>
   cases r with
   |cons r3 r=>
    cases r
    obtain ⟨t1,rfl⟩:=r1
    obtain ⟨t2,rfl⟩:=r2
    obtain ⟨t3,rfl⟩:=r3
    refine max_three_ints (I.ok.hd hc) fun h' tk k=>⟨.int (mx3 i j l),H,I.kept k,?_,q⟩
    unfold mx3
    by_cases h1:j > i
    ·rw [if_pos h1,if_pos h1]
     by_cases h2:l > j
     ·rw [if_pos h2,if_pos h2];exact ⟨_,rfl⟩
     ·rw [if_neg h2,if_neg h2];exact ⟨_,rfl⟩
    ·rw [if_neg h1,if_neg h1]
     by_cases h2:l > i
     ·rw [if_pos h2,if_pos h2];exact ⟨_,rfl⟩
     ·rw [if_neg h2,if_neg h2];exact ⟨_,rfl⟩
def QmE:List D->Option D
 | [.int i,.int j,.int l]=>some (.int (mx3 i j l))
 |_=>none
theorem QtW {K:PySem.W.Frag}:QeO K (fun xs H Q=>∃ i j l,xs=[.int i,.int j,.int l]/\Q (.int (mx3 i j l)) H) QmE:=fun H vs ds res r eg=>by
 unfold QmE at eg
 split at eg
 ·next i j l=>
  cases eg
  cases r with
  |cons r1 r=>
   cases r with
   |cons r2 r=>
    cases r with
    |cons r3 r=>
     cases r
     obtain rfl:=r1.det_sc (w:=.int i) rfl
     obtain rfl:=r2.det_sc (w:=.int j) rfl
     obtain rfl:=r3.det_sc (w:=.int l) rfl
     exact ⟨_,rfl,fun Q hq=>⟨i,j,l,rfl,hq⟩⟩
 ·cases eg
theorem QhE:Qcm X (.type "range") (fun xs H Q=>∃ j:Int,xs=[.int j]/\∀ l,H l=none->Q (.ref l) (upd H l (.rng 0 j))):=by
 intro pins s σ H xs us Q I r h
 obtain ⟨j,rfl,q⟩:=h
 obtain ⟨u,rfl,t,rfl⟩:=Qd9 r
 exact call_range_1 ⟨.ref s.heap.objs.size,_,I.laid (fun b o e=>Heap.get?_push_of_some _ e) (Nat.le_refl _) (show ObjOk X.prog X.w _ _ _ (.rng 0 j) from ⟨_,_,_,Heap.get?_push_size _ rfl⟩),rfl,q _ (I.hok.fresh (Nat.le_refl _))⟩
def Qja (mr:MA):ME:=fun ρ=>(mr ρ).bind fun r=>(Rs.of (QfZ r.1)).bind fun n=>if n.toNat<=2 ^ 24 then .ok (.lst (Qr1 0 n.toNat),r.2) else .no
theorem QkC {px py pos2:Pos}(hm:X.mg "range" = none)(hml:X.mg "list" = none)(hc:X.calm=true)(ha:PA X [a] (tA ks C p E mr))(ok:rdL ks=true:=by rfl)(hg:Gl X "range" := by rfl)(hgl:Gl X "list" := by rfl)
  (h1:starEach [a] X.env=(false,eval a X.env) :: starEach [] X.env:=by rfl) (h2:(backTo pos2 (starEach [] X.env)).any (·.1)=false:=by rfl)
  (he:starEach [.Call (.Name "range" py) [a] [] pos2] X.env=(false,eval (.Call (.Name "range" py) [a] [] pos2) X.env) :: starEach [] X.env:=by rfl) (hpl:(backTo pos (starEach [] X.env)).any (·.1)=false:=by rfl) :
  PE X (.Call (.Name "list" px) [.Call (.Name "range" py) [a] [] pos2] [] pos) (tX .O C p E (Qja mr)):=
 Qan (Qc4 (Qjm hc) hgl hml Qe4 (QfV (Qc4 QhE hg hm PyProof.Rows.boot_range ha (by decide) (by decide) h1 h2) QiT he) (by decide) (by decide) he hpl) fun σ H Q ⟨F,ρ,τ,fp,I,h⟩=>by
 refine ⟨F,ρ,τ,fp,I,h.split.mono fun r hr F1 H1 fp1 vs I1 n1 f1=>?_⟩
 rw [QbT ok] at I1
 obtain ⟨n,eg,h2⟩:=hr.split.of
 have rl:=f1.rd I1 ok
 unfold QfZ at eg
 split at eg
 ·rename_i j ed
  rw [ed] at rl
  obtain ⟨v,rfl,rv⟩:=rl.one
  obtain rfl:=rv.det_sc (w:=.int j) rfl
  by_cases c : -(2 ^ 62)<=j/\j<2 ^ 62
  ·rw [if_pos c] at eg
   have en:=Option.some.inj eg
   subst en
   by_cases c2:j.toNat<=2 ^ 24
   ·rw [if_pos c2] at h2
    refine ⟨j,rfl,fun l hl=>?_⟩
    refine ⟨l,0,j,rfl,Qap,⟨by decide,by decide,c.1,c.2⟩,by rw [Int.sub_zero];exact c2,fun l2 hl2=>?_⟩
    rw [Int.sub_zero]
    have I2:=I1.lay0 (o:=.rng 0 j) hl
    have s2:Same (jn F1 H1 fp1) (jn F1 (upd H1 l (.rng 0 j)) fp1):=fun b ob e=>by
     have nb:b≠l:=Qao (Qcv I1.fh b ob e) hl
     by_cases hb:b∈fp1
     ·rw [QbY hb] at e;rw [QbY hb,Qag nb];exact e
     ·rw [QaY hb] at e;rw [QaY hb];exact e
    exact h2 _ _ _ _ (I2.newList hl2 (QnB 0 _) (QiQ 0 _)) ((n1.trans (q:=true) ⟨Same.refl _,fun _=>s2.trans (QeM I2 hl2)⟩).weak fun z=>by simp [z]) True.intro
   ·rw [if_neg c2] at h2;exact h2.elim
  ·rw [if_neg c] at eg;cases eg
 ·cases eg
theorem QnC {K:PySem.W.Frag}{F:Hp}:∀ {vs:List L2.V} {ds:List D},RL K F vs ds->RL K F vs.reverse ds.reverse
 |_,_,.nil=>.nil
 |_,_,.cons (v:=v) (d:=d) r q=>by
  rw [List.reverse_cons,List.reverse_cons]
  exact (QnC q).app (.cons r .nil)
def QkZ (m:ME):ME:=fun ρ=>(m ρ).bind fun r=>(Rs.of (asL r.1)).bind fun xs=>if D.immL xs.reverse=true then .ok (.lst xs.reverse,r.2) else .no
theorem Qnr {q2 q3:Pos}(hK:C.K=X.K)(he:PE X e (tX k C p E m))(ok:k.on true=true:=by rfl):PE X (.Subscript e (.Slice none none (some (.UnaryOp .USub (.Constant (.int 1) 0 q2) q3)) p2) pos) (tX .O C p E (QkZ m)):=Qan (QqJ he (QtJ Qsr QnJ)) fun σ H Q ⟨F,ρ,τ,fp,I,h⟩=>by
 refine ⟨F,ρ,τ,fp,I,h.split.mono fun r1 h1 F1 H1 fp1 v1 I1 n1 f1=>?_⟩
 rw [Kd.tk_on ok] at I1
 obtain ⟨xs,e1,h4⟩:=h1.split.of
 have g1:R C.K (jn F1 H1 fp1) v1 (.nd .lst xs):=by rw [← QhG e1];exact Kd.stay ok f1 .refl I1
 obtain ⟨l1,us,rfl,a1,rl1⟩:=g1.inv
 refine ⟨1,rfl,rfl,l1,us,rfl,by rw [← hK];exact (At.same a1 (Qcv I1.fh)).sql,fun q hq=>?_⟩
 by_cases hi:D.immL xs.reverse=true
 ·rw [if_pos hi] at h4
  exact h4 _ _ _ _ (I1.newList hq (I1.loL (QnC rl1) hi) hi) ((n1.trans (q:=true) ⟨Same.refl _,fun _=>QeM I1 hq⟩).weak fun z=>by simp [z]) True.intro
 ·rw [if_neg hi] at h4;exact h4.elim
end
end TL
namespace TL
open PySem PySem.Spec L2 L2.Srt
section
variable {s:Option Sl}{ρ ρ1 ρ2:Rho}{k:D × Rho->Prop}{kf:Fl × Rho->Prop}{a b m:ME}{mt:MT}{mr:MA}{mb:MS}{d x y:D}{xs ys:List D}{i:Nat}{c:Bool}
theorem W_eq {α:Type}{r:Rs α}{x:α}:W r (fun a=>a=x)↔r=.ok x:=⟨fun ⟨a,e,h⟩=>by rw [e,h],fun h=>⟨x,h,rfl⟩⟩
theorem QbB {r:Fr}{d:D}{os:List D}(h:FW r fun a b=>a=d/\b=os):r=.ok d os:=by obtain ⟨a,b,e,rfl,rfl⟩:=h;exact e
theorem QqN:W (Qeh m (s :: ρ)) kf↔W (m (s :: ρ)) fun r=>kf (.nx,r.2):=by
 show W ((m (s :: ρ)).bind fun r=>.ok (.nx,r.2)) kf↔_
 simp only [W_bind,W_ok]
def nvK (r:D × Rho):Rs (D × Rho):=Rs.of ((asB r.1).map fun b=>(.bl (!b),r.2))
theorem Qqt:nvK (.bl c,ρ)=.ok (.bl (!c),ρ):=rfl
theorem QrS:W (Qo6 m (s :: ρ)) k↔W (m (s :: ρ)) fun r=>W (nvK r) k:=W_bind
theorem QsK {tg:D->Rho->Option Rho}:W (QsF tg m (s :: ρ)) kf↔W (m (s :: ρ)) fun r=>W (Rs.of (tg r.1 r.2)) fun ρ'=>kf (.nx,ρ'):=by
 show W ((m (s :: ρ)).bind fun r=>(Rs.of (tg r.1 r.2)).bind fun ρ'=>.ok (.nx,ρ')) kf↔_
 simp only [W_bind,W_ok]
theorem Qpp {i j:Nat}:Qiu i j (.nd .tup [x,y]) ρ=(setF ρ i x).bind fun ρ1=>setF ρ1 j y:=rfl
def Qt8 (k:Addr)(nm:Str)(r:D × Rho):Rs (D × Rho):=if QgV k nm r.1=true then .ok r else .no
theorem QoX {a:Addr}{nm:Str}:Qt8 a nm (d,ρ)=if QgV a nm d=true then .ok (d,ρ) else .no:=rfl
theorem QtP {a:Addr}{nm:Str}:W (Qfu a nm m (s :: ρ)) k↔W (m (s :: ρ)) fun r=>W (Qt8 a nm r) k:=W_bind
theorem Qrh {a:Addr}{f:Str}:Qme a f (.nd (.ins a [f]) [d])=some d:=by
 show (if a=a then Qku [f] [d] f else none)=_
 rw [if_pos rfl]
 show (if (f == f)=true then some d else _)=_
 rw [if_pos (by simp)]
theorem Qtt {par:Bool}(hi:ρ[i]? = some (some (mkS par (.lst (xs++[d])))))(hm:D.immL (xs++[d])=true)(h:k (d,ρ.set i (some (mkS par (.lst xs))))):W (QsD i ρ) k:=by
 have e1:Qdp ρ i=some (par,xs++[d]):=by unfold Qdp;rw [hi];cases par<;>rfl
 refine ⟨_,?_,h⟩
 unfold QsD
 rw [e1]
 show ((Rs.of ((xs++[d])[(xs++[d]).length - 1]?)).bind fun y=>if D.immL (xs++[d])=true then .ok (y,ρ.set i (some (mkS par (.lst (xs++[d]).dropLast)))) else .no)=_
 have e2:(xs++[d])[(xs++[d]).length - 1]? = some d:=by simp
 rw [e2]
 show (if D.immL (xs++[d])=true then Rs.ok (d,ρ.set i (some (mkS par (.lst (xs++[d]).dropLast)))) else .no)=_
 rw [if_pos hm,List.dropLast_concat]
theorem Qtd {par:Bool}{n:Int}(hi:ρ[i]? = some (some (mkS par (.lst xs))))(hr:mr ρ=.ok ([.int n,d],ρ))(h0:0<=n)(h1:n<=xs.length)(h2:xs.length<sizeLine)(hm:(D.immL xs && d.imm)=true)(h:kf (.nx,ρ.set i (some (mkS par (.lst (xs.take n.toNat++d :: xs.drop n.toNat)))))):W (Qql i mr ρ) kf:=by
 have e1:Qdp ρ i=some (par,xs):=by unfold Qdp;rw [hi];cases par<;>rfl
 refine ⟨_,?_,h⟩
 unfold Qql
 rw [e1,hr]
 show ((Rs.of (Qdp ρ i)).bind fun q=>if 0<=n/\n<=q.2.length/\q.2.length<sizeLine/\(D.immL q.2 && d.imm)=true then Rs.ok (Fl.nx,ρ.set i (some (mkS q.1 (.lst (q.2.take n.toNat++d :: q.2.drop n.toNat))))) else .no)=_
 rw [e1]
 show (if 0<=n/\n<=xs.length/\xs.length<sizeLine/\(D.immL xs && d.imm)=true then Rs.ok (Fl.nx,ρ.set i (some (mkS par (.lst (xs.take n.toNat++d :: xs.drop n.toNat))))) else .no)=_
 rw [if_pos ⟨h0,h1,h2,hm⟩]
theorem QiK {par:Bool}{n j:Int}{mi mj:ME}{p q:Nat}(hi:ρ[i]? = some (some (mkS par (.lst ys))))(hv:m ρ=.ok (d,ρ))(h1:mi ρ=.ok (.int n,ρ))(h2:mj ρ=.ok (.int j,ρ))(e1:ixN ys.length n=some p)(e2:ys[p]? = some (.lst xs))(e3:ixN xs.length j=some q)
  (h:kf (.nx,ρ.set i (some (mkS par (.lst (ys.set p (.lst (xs.set q d)))))))):W (QeI i m mi mj ρ) kf:=by
 have el:Qdp ρ i=some (par,ys):=by unfold Qdp;rw [hi];cases par<;>rfl
 refine ⟨_,?_,h⟩
 unfold QeI
 simp only [hv,h1,h2,el,e1,e2,e3,Rs.bind,Rs.of,asI,asL,Option.bind_some]
theorem Qlj {N n:Nat}(Inv:Nat->Rho->Prop)(step:∀ n ρ,Inv n ρ->W (mt ρ) fun c=>(c.1=true->W (mb c.2) fun r=>r.1=.nx/\∃ n',n' < n/\Inv n' r.2)/\(c.1=false->kf (.nx,c.2)))(h:Inv n ρ)(hn:n<N):W (Qi5 N mt mb ρ) kf:=by
 show W (whl mt mb N ρ) kf
 induction N generalizing n ρ with
 |zero=>omega
 |succ N ih=>
  obtain ⟨⟨c,ρ1⟩,e,h1,h2⟩:=step n ρ h
  unfold whl
  rw [e]
  show W (if c=true then _ else _) kf
  cases c with
  |false=>rw [if_neg (by decide)];exact W_ok.mpr (h2 rfl)
  |true=>
   rw [if_pos rfl]
   obtain ⟨⟨f,ρ2⟩,e2,e3,n',hn',hi⟩:=h1 rfl
   have e3:f=.nx:=e3
   subst e3
   rw [e2]
   exact ih hi (by omega)
theorem Qtg {a:Addr}{f:Addr->D->Fr}(h:mr ρ=.ok ([x],ρ1))(hf:∀ y,f y x=.ok d [])(hi:(QjA a d && d.imm)=true):Qqk a f mr ρ=.ok (d,ρ1):=by
 unfold Qqk;rw [h]
 show (match QnR f x with | .ok i _=>_ | .ex c=>_ | .no=>_)=_
 rw [Qpb hf]
 show (if (QjA a d && d.imm)=true then Rs.ok (d,ρ1) else .no)=_
 rw [if_pos hi]
def QuG (r:D × Rho):Rs (D × Rho):=(Rs.of (QlF r.1)).bind fun ps=>if ps.length<64 then .ok (.lst ((QiS Qt3 ps).map pnD),r.2) else .no
theorem QoK:W (Qqp m (s :: ρ)) k↔W (m (s :: ρ)) fun r=>W (QuG r) k:=W_bind
def Qt6 (r:List D × Rho):Rs (D × Rho):=(Rs.of (QhU r.1)).bind fun ps=>.ok (.lst (ps.map npD),r.2)
theorem Qol:W (QkY mr (s :: ρ)) k↔W (mr (s :: ρ)) fun r=>W (Qt6 r) k:=W_bind
theorem Qou {ps:List NP}(h:ps.Nodup)(hl:ps.length<64):Qt6 ([.lst (ps.map npD)],ρ)=.ok (.lst ((QiS Qcx ps).map npD),ρ):=by
 show (Rs.of ((npL (ps.map npD)).bind fun ps=>if ps.Nodup/\ps.length<64 then some (QiS Qcx ps) else none)).bind _=_
 rw [Qli]
 show (Rs.of (if ps.Nodup/\ps.length<64 then some (QiS Qcx ps) else none)).bind _=_
 rw [if_pos ⟨h,hl⟩];rfl
end
def sbK (r:D × Rho):Rs (List D × Rho):=(Rs.of (Qjx [r.1])).bind fun ds=>if D.immL ds=true then .ok (ds,r.2) else .no
theorem Qsv {m:ME}{s:Option Sl}{ρ:Rho}{ka:List D × Rho->Prop}:W (QtX m (s :: ρ)) ka↔W (m (s :: ρ)) fun r=>W (sbK r) ka:=W_bind
theorem Quy {xs:List D}{i:Int}:gIx (.nd .lst xs) (.int i)=atI xs i:=rfl
theorem QuK {xs:List D}{i:Int}:gIx (.nd .tup xs) (.int i)=atI xs i:=rfl
theorem Qs2 {xs:List D}:Qcl [.nd .lst xs]=some (.int xs.length):=rfl
theorem QsH {xs:List D}:Qcl [.nd .tup xs]=some (.int xs.length):=rfl
def atL (L:List (List Int))(p:Int × Int):Int:=(L.getD p.1.toNat []).getD p.2.toNat 0
def QjQ (L:List (List Int))(p:Int × Int)(v:Int):List (List Int):=L.set p.1.toNat ((L.getD p.1.toNat []).set p.2.toNat v)
structure Rc (h w:Nat)(L:List (List Int)):Prop where
 hi:L.length=h
 wi:∀ r∈L,r.length=w
def inR (h w:Nat)(p:Int × Int):Prop:=0<=p.1/\p.1<h/\0<=p.2/\p.2<w
instance {h w:Nat} {p:Int × Int}:Decidable (inR h w p):=inferInstanceAs (Decidable (_/\_/\_/\_))
def rwI (r:List Int):D:=.lst (r.map .int)
def rD (L:List (List Int)):D:=.lst (L.map rwI)
def tuI (r:List Int):D:=.tup (r.map .int)
def tuD (L:List (List Int)):D:=.tup (L.map tuI)
theorem Qg6 {n:Nat}{i:Int}(h0:0<=i)(h1:i<n):ixN n i=some i.toNat:=by
 unfold ixN
 simp only [h0,h1]
 simp
theorem QcX {α:Type}(f:α->D)(d:α){xs:List α}{i:Int}(h0:0<=i)(h1:i<xs.length):atI (xs.map f) i=some (f (xs.getD i.toNat d)):=by
 unfold atI
 rw [List.length_map,Qg6 h0 h1]
 show (xs.map f)[i.toNat]? = _
 have:i.toNat<xs.length:=by omega
 rw [List.getElem?_map,List.getElem?_eq_getElem this,List.getD_eq_getElem?_getD,List.getElem?_eq_getElem this];rfl
theorem Rc.row {h w:Nat}{L:List (List Int)}(r:Rc h w L){i:Int}(h0:0<=i)(h1:i<h):(L.getD i.toNat []).length=w:=by
 have:i.toNat<L.length:=by rw [r.hi];omega
 rw [List.getD_eq_getElem?_getD,List.getElem?_eq_getElem this]
 exact r.wi _ (List.getElem_mem this)
theorem QgI {h w:Nat}{L:List (List Int)}(r:Rc h w L){i:Int}(h0:0<=i)(h1:i<h):gIx (rD L) (.int i)=some (rwI (L.getD i.toNat [])):=QcX rwI [] h0 (by rw [r.hi];exact h1)
theorem QoU {h w:Nat}{L:List (List Int)}(r:Rc h w L){i:Int}(h0:0<=i)(h1:i<h):gIx (tuD L) (.int i)=some (tuI (L.getD i.toNat [])):=QcX tuI [] h0 (by rw [r.hi];exact h1)
theorem Qtf {l:List Int}{j:Int}(h0:0<=j)(h1:j<l.length):gIx (rwI l) (.int j)=some (.int (l.getD j.toNat 0)):=QcX D.int 0 h0 h1
theorem QtD {l:List Int}{j:Int}(h0:0<=j)(h1:j<l.length):gIx (tuI l) (.int j)=some (.int (l.getD j.toNat 0)):=QcX D.int 0 h0 h1
theorem Qkp {h w:Nat}{L:List (List Int)}(r:Rc h w L){p:Int × Int}(hp:inR h w p):gIx (rwI (L.getD p.1.toNat [])) (.int p.2)=some (.int (atL L p)):=Qtf hp.2.2.1 (by rw [r.row hp.1 hp.2.1];exact hp.2.2.2)
theorem Qq4 {h w:Nat}{L:List (List Int)}(r:Rc h w L){p:Int × Int}(hp:inR h w p):gIx (tuI (L.getD p.1.toNat [])) (.int p.2)=some (.int (atL L p)):=QtD hp.2.2.1 (by rw [r.row hp.1 hp.2.1];exact hp.2.2.2)
theorem Rc.set {h w:Nat}{L:List (List Int)}(r:Rc h w L){p:Int × Int}(hp:inR h w p){v:Int}:Rc h w (QjQ L p v):=by
 refine ⟨by unfold QjQ;rw [List.length_set];exact r.hi,fun l hl=>?_⟩
 rcases List.mem_or_eq_of_mem_set hl with hl | rfl
 ·exact r.wi _ hl
 ·rw [List.length_set];exact r.row hp.1 hp.2.1
theorem Ql7 {h w:Nat}{L:List (List Int)}(r:Rc h w L){p q:Int × Int}(hp:inR h w p)(hq:inR h w q){v:Int}:atL (QjQ L p v) q=if q=p then v else atL L q:=by
 obtain ⟨a,b⟩:=p
 obtain ⟨c,d⟩:=q
 obtain ⟨p1,p2,p3,p4⟩:=hp
 obtain ⟨q1,q2,q3,q4⟩:=hq
 have hl:=r.row p1 p2
 have e1:=r.hi
 dsimp only at p1 p2 p3 p4 q1 q2 q3 q4 hl
 unfold atL QjQ
 dsimp only
 simp only [List.getD_eq_getElem?_getD,List.getElem?_set] at hl ⊢
 by_cases h1:a=c
 ·subst h1
  rw [if_pos rfl,if_pos (by omega)]
  simp only [Option.getD_some,List.getElem?_set]
  by_cases h2:b=d
  ·subst h2
   rw [if_pos rfl,if_pos (by omega),if_pos rfl];rfl
  ·rw [if_neg (by omega),if_neg (by intro z;exact h2 (by rw [Prod.mk.injEq] at z;exact z.2.symm))]
 ·rw [if_neg (by omega),if_neg (by intro z;exact h1 (by rw [Prod.mk.injEq] at z;exact z.1.symm))]
theorem Qnp {h w:Nat}{L:List (List Int)}(r:Rc h w L){p:Int × Int}(hp:inR h w p){v:Int}:(L.map rwI).set p.1.toNat (.lst (((L.getD p.1.toNat []).map D.int).set p.2.toNat (.int v)))=(QjQ L p v).map rwI:=by
 unfold QjQ
 rw [List.map_set]
 show _=(L.map rwI).set p.1.toNat (D.lst (((L.getD p.1.toNat []).set p.2.toNat v).map D.int))
 rw [List.map_set]
theorem Qdi:∀ (l:List Int),D.immL (l.map .int)=true
 | []=>rfl
 |_ :: l=>Qdi l
def arL (p:Int × Int):List (Int × Int):=[(p.1 - 1,p.2),(p.1,p.2 - 1),(p.1,p.2+1),(p.1+1,p.2)]
def okN (h w:Nat)(F:List (List Int))(p:Int × Int):Bool:=decide (inR h w p) && !decide (atL F p=0)
def nbL (h w:Nat)(F:List (List Int))(p:Int × Int):List (Int × Int):=(arL p).filter (okN h w F)
section
variable {h w:Nat}{F R R' R0:List (List Int)}{e y:NP}{wt wt' wt0:List NP}{ns:List (Int × Int)}{u v p:Int × Int}{least:Int}{dn:Int × Int->Bool}
theorem QaW (k:okN h w F p=true):inR h w p/\atL F p≠0:=by
 unfold okN at k
 simpa using k
theorem Qib (k:v∈nbL h w F p):okN h w F v=true:=(List.mem_filter.mp k).2
def Nn (h w:Nat)(F:List (List Int)):Prop:=∀ p,inR h w p->0<=atL F p
theorem Qog (p:Int × Int):(nbL h w F p).length<=4:=List.length_filter_le _ _
theorem QsS (k:Qcx e y=true):e.1<=y.1:=by
 unfold Qcx at k
 simp at k
 omega
structure Gv (h w:Nat)(F:List (List Int))(e:NP)(R0:List (List Int))(wt0:List NP)(ns:List (Int × Int))(R:List (List Int))(wt:List NP):Prop where
 rc:Rc h w R
 up:∀ p,inR h w p->atL R0 p<=atL R p
 ch:∀ p,inR h w p->atL R p=atL R0 p\/(p∈ns/\atL R p=e.1 - atL F p/\(atL R p,p)∈wt)
 ge:∀ p∈ns,inR h w p->e.1 - atL F p<=atL R p
 pw:wt.Pairwise (fun a b=>Qcx a b=true)
 i1:∀ x∈wt,okN h w F x.2=true/\x.1<=atL R x.2
 sb:∀ x∈wt0,x∈wt
 nw:∀ x∈wt,x∈wt0\/(x.1=e.1 - atL F x.2/\atL R0 x.2<x.1/\x.2∈ns)
 ln:wt.length<=wt0.length+ns.length
theorem Gv.start (rc:Rc h w R)(pw:wt.Pairwise (fun a b=>Qcx a b=true))(i1:∀ x∈wt,okN h w F x.2=true/\x.1<=atL R x.2):Gv h w F e R wt [] R wt:=
 ⟨rc,fun _ _=>Int.le_refl _,fun _ _=>.inl rfl,(fun _ z=>nomatch z),pw,i1,fun _ z=>z,fun _ z=>.inl z,by simp⟩
theorem Gv.skip (g:Gv h w F e R0 wt0 ns R wt)(k:¬ e.1 - atL F v > atL R v):Gv h w F e R0 wt0 (ns++[v]) R wt where
 rc:=g.rc
 up:=g.up
 ch:=fun p hp=>(g.ch p hp).imp id fun ⟨a,b⟩=>⟨List.mem_append_left _ a,b⟩
 ge:=fun p hp ip=>by
  rcases List.mem_append.mp hp with hp | hp
  ·exact g.ge p hp ip
  ·rw [List.mem_singleton.mp hp];omega
 pw:=g.pw
 i1:=g.i1
 sb:=g.sb
 nw:=fun x hx=>(g.nw x hx).imp id fun ⟨a,b,c⟩=>⟨a,b,List.mem_append_left _ c⟩
 ln:=by have:=g.ln;rw [List.length_append];omega
theorem Gv.put (g:Gv h w F e R0 wt0 ns R wt)(hv:okN h w F v=true)(k:e.1 - atL F v > atL R v)(hw:wt'.Perm ((e.1 - atL F v,v) :: wt))(pw:wt'.Pairwise (fun a b=>Qcx a b=true)):Gv h w F e R0 wt0 (ns++[v]) (QjQ R v (e.1 - atL F v)) wt':=by
 have iv:=(QaW hv).1
 have as:∀ p,inR h w p->atL (QjQ R v (e.1 - atL F v)) p=if p=v then e.1 - atL F v else atL R p:=fun p hp=>Ql7 g.rc iv hp
 have up1:∀ p,inR h w p->atL R p<=atL (QjQ R v (e.1 - atL F v)) p:=fun p hp=>by
  rw [as p hp]
  split
  ·rename_i e;subst e;omega
  ·exact Int.le_refl _
 refine ⟨g.rc.set iv,fun p hp=>Int.le_trans (g.up p hp) (up1 p hp),fun p hp=>?_,fun p hp ip=>?_,pw,fun x hx=>?_,fun x hx=>hw.mem_iff.mpr (List.mem_cons_of_mem _ (g.sb x hx)),fun x hx=>?_,?_⟩
 ·rw [as p hp]
  split
  ·rename_i e1
   subst e1
   exact .inr ⟨List.mem_append_right _ List.mem_cons_self,rfl,hw.mem_iff.mpr List.mem_cons_self⟩
  ·exact (g.ch p hp).imp id fun ⟨a,b,c⟩=>⟨List.mem_append_left _ a,b,hw.mem_iff.mpr (List.mem_cons_of_mem _ c)⟩
 ·rcases List.mem_append.mp hp with hp | hp
  ·exact Int.le_trans (g.ge p hp ip) (up1 p ip)
  ·rw [List.mem_singleton.mp hp,as v iv,if_pos rfl];exact Int.le_refl _
 ·rcases List.mem_cons.mp (hw.mem_iff.mp hx) with rfl | hx
  ·exact ⟨hv,by rw [as v iv,if_pos rfl];exact Int.le_refl _⟩
  ·exact ⟨(g.i1 x hx).1,Int.le_trans (g.i1 x hx).2 (up1 _ (QaW (g.i1 x hx).1).1)⟩
 ·rcases List.mem_cons.mp (hw.mem_iff.mp hx) with rfl | hx
  ·exact .inr ⟨rfl,by have:=g.up v iv;dsimp only;omega,List.mem_append_right _ List.mem_cons_self⟩
  ·exact (g.nw x hx).imp id fun ⟨a,b,c⟩=>⟨a,b,List.mem_append_left _ c⟩
 ·have:=g.ln
  rw [hw.length_eq,List.length_append]
  simp
  omega
structure Jv (h w:Nat)(F R0:List (List Int))(least:Int)(dn:Int × Int->Bool)(R:List (List Int))(wt:List NP):Prop where
 rc:Rc h w R
 pw:wt.Pairwise (fun a b=>Qcx a b=true)
 i1:∀ x∈wt,okN h w F x.2=true/\x.1<=atL R x.2
 up:∀ p,inR h w p->atL R0 p<=atL R p
 i2:∀ u,okN h w F u=true->least<atL R u->(atL R u,u)∈wt\/dn u=true
 d1:∀ u,dn u=true->okN h w F u=true/\(∀ v∈nbL h w F u,atL R u - atL F v<=atL R v)/\(∀ x∈wt,x.1<=atL R u)/\(atL R u,u)∉wt
 so:∀ p,inR h w p->atL R p=atL R0 p\/∃ u,dn u=true/\p∈nbL h w F u/\atL R p=atL R u - atL F p
theorem Jv.stale (j:Jv h w F R0 least dn R (wt++[e]))(ne:atL R e.2≠e.1):Jv h w F R0 least dn R wt where
 rc:=j.rc
 pw:=(List.pairwise_append.mp j.pw).1
 i1:=fun x hx=>j.i1 x (List.mem_append_left _ hx)
 up:=j.up
 i2:=fun u hu hl=>(j.i2 u hu hl).imp (fun hm=>by
  rcases List.mem_append.mp hm with hm | hm
  ·exact hm
  ·have q:=List.mem_singleton.mp hm
   rw [← q] at ne
   exact absurd rfl ne) id
 d1:=fun u hu=>by
  obtain ⟨a,b,c,d⟩:=j.d1 u hu
  exact ⟨a,b,fun x hx=>c x (List.mem_append_left _ hx),fun hm=>d (List.mem_append_left _ hm)⟩
 so:=j.so
theorem Jv.give (hF:Nn h w F)(j:Jv h w F R0 least dn R (wt++[e]))(eq:atL R e.2=e.1)(g:Gv h w F e R wt (nbL h w F e.2) R' wt') :
  Jv h w F R0 least (fun p=>dn p || decide (p=e.2)) R' wt'/\dn e.2=false/\okN h w F e.2=true:=by
 obtain ⟨pw1,_,pw3⟩:=List.pairwise_append.mp j.pw
 have le:∀ x∈wt,x.1<=e.1:=fun x hx=>QsS (pw3 x hx e List.mem_cons_self)
 have ne:e∉wt:=fun hm=>by have:=pw3 e hm e List.mem_cons_self;rw [lin_NP.irr] at this;cases this
 have oke:okN h w F e.2=true:=(j.i1 e (List.mem_append_right _ List.mem_cons_self)).1
 have ie:=(QaW oke).1
 have nd:dn e.2=false:=by
  cases q:dn e.2 with
  |false=>rfl
  |true=>exact absurd (by rw [eq];exact List.mem_append_right _ List.mem_cons_self) (j.d1 _ q).2.2.2
 have lo:∀ v,v∈nbL h w F e.2->0<=atL F v:=fun v hv=>hF v (QaW (Qib hv)).1
 -- high cells stay
 have st:∀ u,inR h w u->e.1<=atL R u->atL R' u=atL R u:=fun u iu hu=>by
  rcases g.ch u iu with q | ⟨a,b,c⟩
  ·exact q
  ·have:=lo u a
   have:=g.up u iu
   omega
 have dhi:∀ u,dn u=true->e.1<=atL R u:=fun u hu=>(j.d1 u hu).2.2.1 e (List.mem_append_right _ List.mem_cons_self)
 have din:∀ u,dn u=true->inR h w u:=fun u hu=>(QaW (j.d1 u hu).1).1
 have ste:atL R' e.2=e.1:=by rw [st e.2 ie (by omega),eq]
 have wle:∀ x∈wt',x.1<=e.1:=fun x hx=>by
  rcases g.nw x hx with q | ⟨a,b,c⟩
  ·exact le x q
  ·have:=lo _ c;omega
 refine ⟨⟨g.rc,g.pw,g.i1,fun p hp=>Int.le_trans (j.up p hp) (g.up p hp),fun u hu hl=>?_,fun u hu=>?_,fun p hp=>?_⟩,nd,oke⟩
 ·have iu:=(QaW hu).1
  rcases g.ch u iu with q | ⟨a,b,c⟩
  ·rw [q] at hl ⊢
   rcases j.i2 u hu hl with hm | hd
   ·rcases List.mem_append.mp hm with hm | hm
    ·exact .inl (g.sb _ hm)
    ·have q2:=List.mem_singleton.mp hm
     exact .inr (by rw [← q2];simp)
   ·exact .inr (by rw [hd];rfl)
  ·exact .inl c
 ·rcases Bool.or_eq_true_iff.mp hu with hu | hu
  ·obtain ⟨a,b,c,d⟩:=j.d1 u hu
   have eu:=st u (din u hu) (dhi u hu)
   rw [eu]
   refine ⟨a,fun v hv=>Int.le_trans (b v hv) (g.up v (QaW (Qib hv)).1),fun x hx=>Int.le_trans (wle x hx) (dhi u hu),fun hm=>?_⟩
   rcases g.nw _ hm with q | ⟨a1,b1,c1⟩
   ·exact d (List.mem_append_left _ q)
   ·dsimp only at b1;omega
  ·have hu:u=e.2:=of_decide_eq_true hu
   subst hu
   rw [ste]
   refine ⟨oke,fun v hv=>g.ge v hv (QaW (Qib hv)).1,wle,fun hm=>?_⟩
   rcases g.nw _ hm with q | ⟨a1,b1,c1⟩
   ·exact ne q
   ·dsimp only at b1;omega
 ·rcases g.ch p hp with q | ⟨a,b,c⟩
  ·rw [q]
   rcases j.so p hp with q2 | ⟨u,hu,hn,hv⟩
   ·exact .inl q2
   ·exact .inr ⟨u,by rw [hu];rfl,hn,by rw [st u (din u hu) (dhi u hu)];exact hv⟩
  ·exact .inr ⟨e.2,by simp,a,by rw [ste];exact b⟩
theorem Jv.fin (hF:Nn h w F)(hl:∀ p,inR h w p->least<=atL R0 p)(j:Jv h w F R0 least dn R []):∀ u,okN h w F u=true->∀ v∈nbL h w F u,atL R u - atL F v<=atL R v:=fun u hu v hv=>by
 by_cases q:least<atL R u
 ·rcases j.i2 u hu q with hm | hd
  ·cases hm
  ·exact (j.d1 u hd).2.1 v hv
 ·have iv:=(QaW (Qib hv)).1
  have:=j.up v iv
  have:=hl v iv
  have:=hF v iv
  omega
def QeD (ps:List (Int × Int))(dn:Int × Int->Bool):Nat:=(ps.filter fun p=>!dn p).length
theorem Qmx (ps:List (Int × Int))(dn:Int × Int->Bool):QeD ps dn<=ps.length:=List.length_filter_le _ _
theorem Qjy {ps:List (Int × Int)}:QeD ps (fun p=>dn p || decide (p=u))<=QeD ps dn:=by
 unfold QeD
 induction ps with
 |nil=>exact Nat.le_refl _
 |cons a ps ih=>
  rw [List.filter_cons,List.filter_cons]
  cases qd:dn a with
  |true=>simpa [qd] using ih
  |false=>
   by_cases q:a=u
   ·simp [q,qd];simp at ih;omega
   ·simpa [q,qd] using ih
theorem Qf0:∀ {ps:List (Int × Int)},u∈ps->dn u=false->QeD ps (fun p=>dn p || decide (p=u))+1<=QeD ps dn
 |a :: ps,hm,hd=>by
  by_cases q:a=u
  ·subst q
   have:=Qjy (dn:=dn) (u:=a) (ps:=ps)
   unfold QeD at this ⊢
   rw [List.filter_cons,List.filter_cons]
   simp [hd]
   simpa using this
  ·have hm:u∈ps:=(List.mem_cons.mp hm).resolve_left (fun z=>q z.symm)
   have ih:=Qf0 hm hd
   unfold QeD at ih ⊢
   rw [List.filter_cons,List.filter_cons]
   cases qd:dn a with
   |true=>simpa [qd] using ih
   |false=>simpa [q,qd] using ih
end
end TL
namespace TL
open PySem PySem.Spec L2
section
variable {s:Option Sl}{ρ:Rho}{k:D × Rho->Prop}{m:ME}{mr:MA}
def QtB (par:Bool)(cs:List Cp)(tc:MT)(te:ME)(r:List D × Rho):Rs (D × Rho):=(Rs.of (Qdl par r.2 (cs.filterMap Cp.is))).bind fun di=>(Rs.of (Qd3 r.2 cs di)).bind fun ρb=>
 match Qcn tc te r.1 ρb [] with
 |.ok q=>(Rs.of (outs (ioB cs) q.2)).bind fun os=>.ok (.lst q.1,QcT par r.2 (cs.filterMap Cp.is) os)
 |_=>.no
theorem QoN {par:Bool}{cs:List Cp}{mi:MA}{tc:MT}{te:ME}:W (Qfq par cs mi tc te (s :: ρ)) k↔W (mi (s :: ρ)) fun r=>W (QtB par cs tc te r) k:=W_bind
theorem QdE {tc:MT}{te:ME}{f:D->Bool}{g:D->D}{ρ:Rho}:∀ {ds:List D} {acc:List D},(∀ d∈ds,∃ ρ0,Qiu 0 1 d ρ=some ρ0/\tc ρ0=.ok (f d,ρ0)/\(f d=true->te ρ0=.ok (g d,ρ0))/\(ρ0.set 1 none).set 0 none=ρ)->acc.length+ds.length<=sizeLine->
  Qcn tc te ds ρ acc=.ok (acc++(ds.filter f).map g,ρ)
 | [],acc,h,l=>by simp [Qcn]
 |d :: ds,acc,h,l=>by
  obtain ⟨ρ0,e0,e1,e2,e3⟩:=h d List.mem_cons_self
  unfold Qcn
  rw [e0]
  show (tc ρ0).bind _=_
  rw [e1]
  show (if f d=true then _ else _)=_
  by_cases hf:f d=true
  ·rw [if_pos hf,e2 hf]
   show (if acc.length<sizeLine then _ else _)=_
   rw [if_pos (by simp at l;omega),e3,QdE (fun d' hd'=>h d' (List.mem_cons_of_mem _ hd')) (by simp at l ⊢;omega),List.filter_cons,if_pos hf]
   simp
  ·rw [if_neg hf,e3,QdE (fun d' hd'=>h d' (List.mem_cons_of_mem _ hd')) (by simp at l ⊢;omega),List.filter_cons,if_neg hf]
theorem QnE {par:Bool}{cs:List Cp}{tc:MT}{te:ME}{ρb:Rho}{ds di os:List D}{f:D->Bool}{g:D->D}(h2:Qdl par ρ (cs.filterMap Cp.is)=some di)(h3:Qd3 ρ cs di=some ρb)
  (hs:∀ d∈ds,∃ ρ0,Qiu 0 1 d ρb=some ρ0/\tc ρ0=.ok (f d,ρ0)/\(f d=true->te ρ0=.ok (g d,ρ0))/\(ρ0.set 1 none).set 0 none=ρb) (l:ds.length<=sizeLine) (ho:outs (ioB cs) ρb=some os) (hp:QcT par ρ (cs.filterMap Cp.is) os=ρ) (hk:k (.lst ((ds.filter f).map g),ρ)):W (QtB par cs tc te (ds,ρ)) k:=by
 refine ⟨_,?_,hk⟩
 unfold QtB
 show (Rs.of (Qdl par ρ _)).bind _=_
 rw [h2]
 show (Rs.of (Qd3 ρ cs di)).bind _=_
 rw [h3]
 show (match Qcn tc te ds ρb [] with | .ok q=>_ | _=>_)=_
 rw [QdE hs (by simpa using l)]
 show (Rs.of (outs (ioB cs) ρb)).bind _=_
 rw [ho]
 show Rs.ok (D.lst _,QcT par ρ (cs.filterMap Cp.is) os)=_
 rw [hp,List.nil_append]
def rvK (r:D × Rho):Rs (D × Rho):=(Rs.of (asL r.1)).bind fun xs=>if D.immL xs.reverse=true then .ok (.lst xs.reverse,r.2) else .no
theorem Qnk {xs:List D}:rvK (.nd .lst xs,ρ)=if D.immL xs.reverse=true then .ok (.lst xs.reverse,ρ) else .no:=rfl
theorem Qre:W (QkZ m (s :: ρ)) k↔W (m (s :: ρ)) fun r=>W (rvK r) k:=W_bind
def lrK (r:List D × Rho):Rs (D × Rho):=(Rs.of (QfZ r.1)).bind fun n=>if n.toNat<=2 ^ 24 then .ok (.lst (Qr1 0 n.toNat),r.2) else .no
theorem Qo9:W (Qja mr (s :: ρ)) k↔W (mr (s :: ρ)) fun r=>W (lrK r) k:=W_bind
theorem Qru {n:Int}(h0:0<=n)(h1:n<=16777216):lrK ([.int n],ρ)=.ok (.lst (Qr1 0 n.toNat),ρ):=by
 unfold lrK QfZ
 show (Rs.of (if _ then _ else _)).bind _=_
 rw [if_pos ⟨by omega,by omega⟩]
 show (if n.toNat<=2 ^ 24 then _ else _)=_
 rw [if_pos (by omega)]
def tpK (ks:List Kd)(r:List D × Rho):Rs (D × Rho):=(Rs.of (QdU ks r.1 r.2)).bind fun q=>if q.1.length<=sizeLine then .ok (.tup q.1,q.2) else .no
theorem Qrr {ks:List Kd}:W (Qmv ks mr (s :: ρ)) k↔W (mr (s :: ρ)) fun r=>W (tpK ks r) k:=W_bind
theorem Qnx {ks:List Kd}{r:List D × Rho}{q:List D × Rho}(h:QdU ks r.1 r.2=some q)(hl:q.1.length<=sizeLine):tpK ks r=.ok (.tup q.1,q.2):=by
 unfold tpK
 rw [h]
 show (if q.1.length<=sizeLine then _ else _)=_
 rw [if_pos hl]
theorem QpI {md my mx:ME}{ks:List (List Key)}{ds:List D}{y x d:D}{ρ:Rho}(h1:md ρ=.ok (.nd (.dT ks) ds,ρ))(h2:my ρ=.ok (y,ρ))(h3:mx ρ=.ok (x,ρ))(h4:Que (ks,ds) y x=some d):QhB md my mx ρ=.ok (d,ρ):=by
 unfold QhB
 have e1:QsC (.nd (.dT ks) ds)=some (ks,ds):=rfl
 simp only [h1,h2,h3,h4,e1,Rs.bind,Rs.of,Option.map_some]
end
end TL
namespace TL
def Qa0 (w i:Nat):Int × Int:=if i % (w+1)=w then ((2 * (i / (w+1))+1:Nat),if i / (w+1) % 2=0 then (w:Int) - 1 else 0) else ((2 * (i / (w+1)):Nat),if i / (w+1) % 2=0 then ((i % (w+1):Nat):Int) else (w:Int) - 1 - (i % (w+1):Nat))
def Qaz (w r:Nat):Nat:=r / 2 * (w+1)+r % 2 * w
def QdB (w r:Nat):Int:=if r % 4=1 then (w:Int) - 1 else 0
def Qdy (w r:Nat):List Int:=if r % 2=1 then [QdB w r] else if r % 4=2 then ((List.range w).map fun (j:Nat)=>(j:Int)).reverse else (List.range w).map fun (j:Nat)=>(j:Int)
theorem Qcs {w m k:Nat}(hk:k<w):Qa0 w (m * (w+1)+k)=(((2 * m:Nat):Int),if m % 2=0 then (k:Int) else (w:Int) - 1 - k):=by
 have e1:(m * (w+1)+k) / (w+1)=m:=by
  rw [Nat.mul_comm,Nat.mul_add_div (by omega),Nat.div_eq_of_lt (by omega)];rfl
 have e2:(m * (w+1)+k) % (w+1)=k:=by
  rw [Nat.mul_comm,Nat.mul_add_mod,Nat.mod_eq_of_lt (by omega)]
 unfold Qa0
 rw [e1,e2,if_neg (by omega)]
theorem Qgm {w m:Nat}:Qa0 w (m * (w+1)+w)=(((2 * m+1:Nat):Int),if m % 2=0 then (w:Int) - 1 else 0):=by
 have e1:(m * (w+1)+w) / (w+1)=m:=by
  rw [Nat.mul_comm,Nat.mul_add_div (by omega),Nat.div_eq_of_lt (by omega)];rfl
 have e2:(m * (w+1)+w) % (w+1)=w:=by
  rw [Nat.mul_comm,Nat.mul_add_mod,Nat.mod_eq_of_lt (by omega)]
 unfold Qa0
 rw [e1,e2,if_pos rfl]
theorem QlL:∀ w:Nat,((List.range w).map fun (j:Nat)=>(j:Int)).reverse=(List.range w).map fun (k:Nat)=>(w:Int) - 1 - k:=fun w=>by
 apply List.ext_getElem
 ·simp
 ·intro i h1 h2
  simp at h1
  simp
  omega
theorem Qem {w r:Nat}(hw:1<=w):(List.range (Qaz w (r+1))).map (Qa0 w)=(List.range (Qaz w r)).map (Qa0 w)++(Qdy w r).map fun c=>((r:Int),c):=by
 by_cases ho:r % 2=1
 ·obtain ⟨m,rfl⟩:∃ m,r=2 * m+1:=⟨r / 2,by omega⟩
  have e1:Qaz w (2 * m+1)=m * (w+1)+w:=by unfold Qaz;rw [show (2 * m+1) / 2=m by omega,show (2 * m+1) % 2=1 by omega,Nat.one_mul]
  have e2:Qaz w (2 * m+1+1)=m * (w+1)+w+1:=by unfold Qaz;rw [show (2 * m+1+1) / 2=m+1 by omega,show (2 * m+1+1) % 2=0 by omega,Nat.zero_mul,Nat.succ_mul];omega
  rw [e1,e2,List.range_succ,List.map_append,List.map_singleton,Qgm]
  unfold Qdy QdB
  rw [if_pos ho]
  congr 1
  show [_]=[_]
  congr 2
  by_cases h:m % 2=0
  ·rw [if_pos h,if_pos (by omega)]
  ·rw [if_neg h,if_neg (by omega)]
 ·obtain ⟨m,rfl⟩:∃ m,r=2 * m:=⟨r / 2,by omega⟩
  have e1:Qaz w (2 * m)=m * (w+1):=by unfold Qaz;rw [show 2 * m / 2=m by omega,show 2 * m % 2=0 by omega,Nat.zero_mul];rfl
  have e2:Qaz w (2 * m+1)=m * (w+1)+w:=by unfold Qaz;rw [show (2 * m+1) / 2=m by omega,show (2 * m+1) % 2=1 by omega,Nat.one_mul]
  rw [e1,e2,List.range_add,List.map_append]
  congr 1
  unfold Qdy
  rw [if_neg ho,List.map_map]
  by_cases h:m % 2=0
  ·rw [if_neg (by omega),List.map_map]
   refine List.map_congr_left fun k hk=>?_
   show Qa0 w (m * (w+1)+k)=_
   rw [Qcs (List.mem_range.mp hk),if_pos h];rfl
  ·rw [if_pos (by omega),QlL,List.map_map]
   refine List.map_congr_left fun k hk=>?_
   show Qa0 w (m * (w+1)+k)=_
   rw [Qcs (List.mem_range.mp hk),if_neg h];rfl
structure QdJ (h w:Nat)(F:List (List Int)):Prop where
 rc:Rc h w F
 ev:∀ r c:Nat,r<h->c<w->r % 2=0->1<=atL F ((r:Int),(c:Int))
 on:∀ r c:Nat,r<h->c<w->r % 2=1->(c:Int)=QdB w r->1<=atL F ((r:Int),(c:Int))
 off:∀ r c:Nat,r<h->c<w->r % 2=1->(c:Int)≠QdB w r->atL F ((r:Int),(c:Int))=0
def Qh1 (w:Nat)(p:Int × Int):Int:=((p.1.toNat / 2 * (w+1):Nat):Int)+(if p.1.toNat % 2=1 then (w:Int) else if p.1.toNat / 2 % 2=0 then p.2 else (w:Int) - 1 - p.2)
section
variable {h w:Nat}{F:List (List Int)}
theorem Qf6 {i:Nat}(hw:1<=w):Qh1 w (Qa0 w i)=i:=by
 have hd:i / (w+1) * (w+1)+i % (w+1)=i:=by rw [Nat.mul_comm];exact Nat.div_add_mod i (w+1)
 have hm:i % (w+1)<w+1:=Nat.mod_lt _ (by omega)
 generalize em:i / (w+1)=m at hd
 generalize er:i % (w+1)=k at hd hm
 unfold Qa0
 rw [em,er]
 by_cases hk:k=w
 ·rw [if_pos hk]
  unfold Qh1
  rw [Int.toNat_natCast,show (2 * m+1) / 2=m by omega,if_pos (show (2 * m+1) % 2=1 by omega)]
  omega
 ·rw [if_neg hk]
  unfold Qh1
  rw [Int.toNat_natCast,show 2 * m / 2=m by omega,if_neg (show ¬ 2 * m % 2=1 by omega)]
  dsimp only
  by_cases h2:m % 2=0
  ·rw [if_pos h2,if_pos h2];omega
  ·rw [if_neg h2,if_neg h2];omega
theorem Qi9 (S:QdJ h w F):Nn h w F:=fun p hp=>by
 obtain ⟨p1,p2,p3,p4⟩:=hp
 obtain ⟨r,er⟩:∃ r:Nat,p.1=r:=⟨p.1.toNat,by omega⟩
 obtain ⟨c,ec⟩:∃ c:Nat,p.2=c:=⟨p.2.toNat,by omega⟩
 have e:p=((r:Int),(c:Int)):=Prod.ext er ec
 subst e
 dsimp only at p2 p4
 by_cases ho:r % 2=0
 ·have:=S.ev r c (by omega) (by omega) ho;omega
 ·by_cases hc:(c:Int)=QdB w r
  ·have:=S.on r c (by omega) (by omega) (by omega) hc;omega
  ·have:=S.off r c (by omega) (by omega) (by omega) hc;omega
theorem Qft (S:QdJ h w F){r c:Nat}:okN h w F ((r:Int),(c:Int))=true↔r<h/\c<w/\(r % 2=0\/(c:Int)=QdB w r):=by
 unfold okN
 rw [Bool.and_eq_true_iff,decide_eq_true_eq,Bool.not_eq_true',decide_eq_false_iff_not]
 unfold inR
 constructor
 ·rintro ⟨⟨a,b,c',d⟩,e⟩
  dsimp only at a b c' d
  refine ⟨by omega,by omega,?_⟩
  by_cases ho:r % 2=0
  ·exact .inl ho
  ·refine .inr ?_
   by_cases hc:(c:Int)=QdB w r
   ·exact hc
   ·exact absurd (S.off r c (by omega) (by omega) (by omega) hc) e
 ·rintro ⟨a,b,k⟩
  refine ⟨⟨by omega,by omega,by omega,by omega⟩,fun e=>?_⟩
  rcases k with k | k
  ·have:=S.ev r c a b k;omega
  ·by_cases ho:r % 2=0
   ·have:=S.ev r c a b ho;omega
   ·have:=S.on r c a b (by omega) k;omega
theorem QrK (hw:1<=w)(r:Nat):0<=QdB w r/\QdB w r<w:=by unfold QdB;split<;>omega
theorem Qnt (S:QdJ h w F)(hw:1<=w){p:Int × Int}(k:okN h w F p=true):∃ i:Nat,i<Qaz w h/\Qa0 w i=p:=by
 obtain ⟨⟨p1,p2,p3,p4⟩,_⟩:=QaW k
 obtain ⟨r,er⟩:∃ r:Nat,p.1=r:=⟨p.1.toNat,by omega⟩
 obtain ⟨c,ec⟩:∃ c:Nat,p.2=c:=⟨p.2.toNat,by omega⟩
 have e:p=((r:Int),(c:Int)):=Prod.ext er ec
 subst e
 obtain ⟨hr,hc,kk⟩:=(Qft S).mp k
 have hm:((r:Int),(c:Int))∈(List.range (Qaz w (r+1))).map (Qa0 w):=by
  rw [Qem hw]
  refine List.mem_append_right _ (List.mem_map.mpr ⟨(c:Int),?_,rfl⟩)
  unfold Qdy
  by_cases ho:r % 2=1
  ·rw [if_pos ho]
   rcases kk with kk | kk
   ·omega
   ·rw [kk];exact List.mem_singleton.mpr rfl
  ·rw [if_neg ho]
   split
   ·exact List.mem_reverse.mpr (List.mem_map.mpr ⟨c,List.mem_range.mpr hc,rfl⟩)
   ·exact List.mem_map.mpr ⟨c,List.mem_range.mpr hc,rfl⟩
 obtain ⟨i,hi,e⟩:=List.mem_map.mp hm
 refine ⟨i,Nat.lt_of_lt_of_le (List.mem_range.mp hi) ?_,e⟩
 have mono:∀ a b:Nat,a<=b->Qaz w a<=Qaz w b:=fun a b hab=>by
  induction b with
  |zero=>rw [show a=0 by omega];exact Nat.le_refl _
  |succ b ih=>
   by_cases q:a=b+1
   ·rw [q];exact Nat.le_refl _
   ·refine Nat.le_trans (ih (by omega)) ?_
    have:=congrArg List.length (Qem (w:=w) (r:=b) hw)
    simp at this
    omega
 exact mono _ _ (by omega)
end
end TL
namespace TL
section
variable {h w:Nat}{F:List (List Int)}
theorem Ql2 (hw:1<=w):∀ {h:Nat} {p:Int × Int},p∈(List.range (Qaz w h)).map (Qa0 w)->∃ r c:Nat,r<h/\c<w/\p=((r:Int),(c:Int))/\(r % 2=0\/(c:Int)=QdB w r)
 |0,p,hp=>by
  have:Qaz w 0=0:=by unfold Qaz;simp
  rw [this] at hp;simp at hp
 |r+1,p,hp=>by
  rw [Qem hw] at hp
  rcases List.mem_append.mp hp with hp | hp
  ·obtain ⟨a,b,h1,h2⟩:=Ql2 hw hp
   exact ⟨a,b,by omega,h2⟩
  ·obtain ⟨x,hx,rfl⟩:=List.mem_map.mp hp
   unfold Qdy at hx
   split at hx
   ·next ho=>
    have hc:=QrK hw r
    rw [List.mem_singleton.mp hx]
    exact ⟨r,(QdB w r).toNat,by omega,by omega,Prod.ext rfl (by show QdB w r=_;omega),.inr (by omega)⟩
   ·next ho=>
    have:x∈(List.range w).map fun (j:Nat)=>(j:Int):=by
     split at hx
     ·exact List.mem_reverse.mp hx
     ·exact hx
    obtain ⟨c,hc,rfl⟩:=List.mem_map.mp this
    exact ⟨r,c,by omega,List.mem_range.mp hc,rfl,.inl (by omega)⟩
theorem QcU (S:QdJ h w F)(hw:1<=w){i:Nat}(hi:i<Qaz w h):okN h w F (Qa0 w i)=true:=by
 obtain ⟨r,c,h1,h2,e,k⟩:=Ql2 hw (List.mem_map.mpr ⟨i,List.mem_range.mpr hi,rfl⟩)
 rw [e]
 exact (Qft S).mpr ⟨h1,h2,k⟩
theorem Qgi (hw:1<=w){i j:Nat}(e:Qa0 w i=Qa0 w j):i=j:=by
 have:=Qf6 (w:=w) (i:=i) hw
 rw [e,Qf6 hw] at this
 omega
theorem Qid {r c:Nat}:Qh1 w ((r:Int),(c:Int))=((r / 2 * (w+1):Nat):Int)+(if r % 2=1 then (w:Int) else if r / 2 % 2=0 then (c:Int) else (w:Int) - 1 - c):=by
 unfold Qh1
 rw [Int.toNat_natCast]
theorem Qsp (S:QdJ h w F){r c:Nat}(k1:okN h w F ((r:Int),(c:Int))=true)(k2:okN h w F ((r:Int),((c+1:Nat):Int))=true) :
  Qh1 w ((r:Int),((c+1:Nat):Int))=Qh1 w ((r:Int),(c:Int))+1\/Qh1 w ((r:Int),(c:Int))=Qh1 w ((r:Int),((c+1:Nat):Int))+1:=by
 obtain ⟨_,_,a⟩:=(Qft S).mp k1
 obtain ⟨_,_,b⟩:=(Qft S).mp k2
 have ho:r % 2=0:=by
  rcases a with a | a
  ·exact a
  ·rcases b with b | b
   ·exact b
   ·omega
 have n1:¬ r % 2=1:=by omega
 simp only [Qid,if_neg n1]
 by_cases q:r / 2 % 2=0
 ·simp only [if_pos q];exact .inl (by omega)
 ·simp only [if_neg q];exact .inr (by omega)
theorem Qrn (S:QdJ h w F){r c:Nat}(k1:okN h w F ((r:Int),(c:Int))=true)(k2:okN h w F (((r+1:Nat):Int),(c:Int))=true):Qh1 w (((r+1:Nat):Int),(c:Int))=Qh1 w ((r:Int),(c:Int))+1:=by
 obtain ⟨_,hc,a⟩:=(Qft S).mp k1
 obtain ⟨_,_,b⟩:=(Qft S).mp k2
 rw [Qid,Qid]
 unfold QdB at a b
 by_cases ho:r % 2=0
 ·have b:(c:Int)=if (r+1) % 4=1 then (w:Int) - 1 else 0:=b.resolve_left (by omega)
  rw [if_pos (show (r+1) % 2=1 by omega),if_neg (show ¬ r % 2=1 by omega),show (r+1) / 2=r / 2 by omega]
  by_cases q:r / 2 % 2=0
  ·rw [if_pos (show (r+1) % 4=1 by omega)] at b
   rw [if_pos q];omega
  ·rw [if_neg (show ¬ (r+1) % 4=1 by omega)] at b
   rw [if_neg q];omega
 ·have a:(c:Int)=if r % 4=1 then (w:Int) - 1 else 0:=a.resolve_left ho
  rw [if_neg (show ¬ (r+1) % 2=1 by omega),if_pos (show r % 2=1 by omega),show (r+1) / 2=r / 2+1 by omega,Nat.succ_mul]
  by_cases q:r / 2 % 2=0
  ·rw [if_pos (show r % 4=1 by omega)] at a
   rw [if_neg (show ¬ (r / 2+1) % 2=0 by omega)];omega
  ·rw [if_neg (show ¬ r % 4=1 by omega)] at a
   rw [if_pos (show (r / 2+1) % 2=0 by omega)];omega
theorem Qrf (S:QdJ h w F){u q:Int × Int}(hu:okN h w F u=true)(hq:q∈nbL h w F u):Qh1 w q=Qh1 w u+1\/Qh1 w u=Qh1 w q+1:=by
 have ok:=Qib hq
 have har:=(List.mem_filter.mp hq).1
 obtain ⟨u1,u2,u3,u4⟩:=(QaW hu).1
 obtain ⟨q1,q2,q3,q4⟩:=(QaW ok).1
 obtain ⟨r,er⟩:∃ r:Nat,u.1=r:=⟨u.1.toNat,by omega⟩
 obtain ⟨c,ec⟩:∃ c:Nat,u.2=c:=⟨u.2.toNat,by omega⟩
 have e:u=((r:Int),(c:Int)):=Prod.ext er ec
 subst e
 unfold arL at har
 simp only [List.mem_cons,List.not_mem_nil,or_false] at har
 rcases har with rfl | rfl | rfl | rfl
 ·obtain ⟨r',rfl⟩:∃ r',r=r' + 1:=⟨r - 1,by dsimp only at q1;omega⟩
  have e:((((r' + 1:Nat):Int) - 1,(c:Int)):Int × Int)=((r':Int),(c:Int)):=Prod.ext (by show ((r' + 1:Nat):Int) - 1=_;omega) rfl
  (try dsimp only at ok ⊢)
  rw [e] at ok ⊢
  exact .inr (Qrn S ok hu)
 ·obtain ⟨c',rfl⟩:∃ c',c=c' + 1:=⟨c - 1,by dsimp only at q3;omega⟩
  have e:(((r:Int),((c' + 1:Nat):Int) - 1):Int × Int)=((r:Int),(c':Int)):=Prod.ext rfl (by show ((c' + 1:Nat):Int) - 1=_;omega)
  (try dsimp only at ok ⊢)
  rw [e] at ok ⊢
  exact (Qsp S ok hu).symm
 ·have e:(((r:Int),(c:Int)+1):Int × Int)=((r:Int),((c+1:Nat):Int)):=Prod.ext rfl (by show (c:Int)+1=_;omega)
  (try dsimp only at ok ⊢)
  rw [e] at ok ⊢
  exact Qsp S hu ok
 ·have e:(((r:Int)+1,(c:Int)):Int × Int)=(((r+1:Nat):Int),(c:Int)):=Prod.ext (by show (r:Int)+1=_;omega) rfl
  (try dsimp only at ok ⊢)
  rw [e] at ok ⊢
  exact .inl (Qrn S hu ok)
theorem QiO {i:Nat}(hw:1<=w):Qa0 w (i+1)∈arL (Qa0 w i)/\Qa0 w i∈arL (Qa0 w (i+1)):=by
 have hd:i / (w+1) * (w+1)+i % (w+1)=i:=by rw [Nat.mul_comm];exact Nat.div_add_mod i (w+1)
 have hm:i % (w+1)<w+1:=Nat.mod_lt _ (by omega)
 generalize i / (w+1)=m at hd
 generalize i % (w+1)=k at hd hm
 subst hd
 unfold arL
 simp only [List.mem_cons,List.not_mem_nil,or_false]
 by_cases h1:k+1<w
 ·rw [show m * (w+1)+k+1=m * (w+1)+(k+1) from rfl,Qcs (show k<w by omega),Qcs h1]
  by_cases q:m % 2=0
  ·rw [if_pos q,if_pos q]
   exact ⟨.inr (.inr (.inl (Prod.ext rfl (by show ((k+1:Nat):Int)=(k:Int)+1;omega)))),.inr (.inl (Prod.ext rfl (by show (k:Int)=((k+1:Nat):Int) - 1;omega)))⟩
  ·rw [if_neg q,if_neg q]
   exact ⟨.inr (.inl (Prod.ext rfl (by show (w:Int) - 1 - ((k+1:Nat):Int)=(w:Int) - 1 - k - 1;omega))),.inr (.inr (.inl (Prod.ext rfl (by show (w:Int) - 1 - k=(w:Int) - 1 - ((k+1:Nat):Int)+1;omega))))⟩
 ·by_cases h2:k=w
  ·subst h2
   rw [show m * (k+1)+k+1=(m+1) * (k+1)+0 by rw [Nat.succ_mul];omega,Qgm,Qcs (show 0<k by omega)]
   by_cases q:m % 2=0
   ·rw [if_pos q,if_neg (by omega)]
    exact ⟨.inr (.inr (.inr (Prod.ext (by show ((2 * (m+1):Nat):Int)=((2 * m+1:Nat):Int)+1;omega) (by show (k:Int) - 1 - ((0:Nat):Int)=(k:Int) - 1;omega)))),.inl (Prod.ext (by show ((2 * m+1:Nat):Int)=((2 * (m+1):Nat):Int) - 1;omega) (by show (k:Int) - 1=(k:Int) - 1 - ((0:Nat):Int);omega))⟩
   ·rw [if_neg q,if_pos (by omega)]
    exact ⟨.inr (.inr (.inr (Prod.ext (by show ((2 * (m+1):Nat):Int)=((2 * m+1:Nat):Int)+1;omega) rfl))),.inl (Prod.ext (by show ((2 * m+1:Nat):Int)=((2 * (m+1):Nat):Int) - 1;omega) rfl)⟩
  ·have h3:k+1=w:=by omega
   rw [show m * (w+1)+k+1=m * (w+1)+w by omega,Qcs (show k<w by omega),Qgm]
   by_cases q:m % 2=0
   ·rw [if_pos q,if_pos q]
    exact ⟨.inr (.inr (.inr (Prod.ext (by show ((2 * m+1:Nat):Int)=((2 * m:Nat):Int)+1;omega) (by show (w:Int) - 1=k;omega)))),.inl (Prod.ext (by show ((2 * m:Nat):Int)=((2 * m+1:Nat):Int) - 1;omega) (by show (k:Int)=(w:Int) - 1;omega))⟩
   ·rw [if_neg q,if_neg q]
    exact ⟨.inr (.inr (.inr (Prod.ext (by show ((2 * m+1:Nat):Int)=((2 * m:Nat):Int)+1;omega) (by show (0:Int)=(w:Int) - 1 - k;omega)))),.inl (Prod.ext (by show ((2 * m:Nat):Int)=((2 * m+1:Nat):Int) - 1;omega) (by show (w:Int) - 1 - k=(0:Int);omega))⟩
theorem QnG (S:QdJ h w F)(hw:1<=w){i:Nat}(hi:i+1<Qaz w h):Qa0 w (i+1)∈nbL h w F (Qa0 w i)/\Qa0 w i∈nbL h w F (Qa0 w (i+1)):=
 ⟨List.mem_filter.mpr ⟨(QiO hw).1,QcU S hw hi⟩,List.mem_filter.mpr ⟨(QiO hw).2,QcU S hw (by omega)⟩⟩
theorem Qqi (S:QdJ h w F)(hw:1<=w){i:Nat}{u:Int × Int}(hi:i<Qaz w h)(hu:okN h w F u=true)(hq:Qa0 w i∈nbL h w F u):(∃ j,j+1=i/\u=Qa0 w j)\/(i+1<Qaz w h/\u=Qa0 w (i+1)):=by
 obtain ⟨j,hj,rfl⟩:=Qnt S hw hu
 have:=Qrf S hu hq
 rw [Qf6 hw,Qf6 hw] at this
 rcases this with e | e
 ·exact .inl ⟨j,by omega,rfl⟩
 ·obtain rfl:j=i+1:=by omega
  exact .inr ⟨hj,rfl⟩
end
def QiI (f g:Nat->Int):Nat->Int
 |0=>mx3 0 (0 - f 0) (g 0)
 |i+1=>mx3 0 (QiI f g i - f (i+1)) (g (i+1))
theorem Qnm {a b c:Int}:a<=mx3 a b c/\b<=mx3 a b c/\c<=mx3 a b c:=by
 unfold mx3;split<;>split<;>omega
theorem QnW {a b c m:Int}(h1:a<=m)(h2:b<=m)(h3:c<=m):mx3 a b c<=m:=by
 unfold mx3;split<;>split<;>omega
theorem Qh8 {n:Nat}{V f g:Nat->Int}(hf:∀ i,i<n->1<=f i)(v0:∀ i,i<n->0<=V i)(vg:∀ i,i<n->g i<=V i)(vs:∀ i,i+1<n->V i - f (i+1)<=V (i+1)):∀ i,i<n->QiI f g i<=V i
 |0,h=>QnW (v0 0 h) (by have:=hf 0 h;have:=v0 0 h;omega) (vg 0 h)
 |i+1,h=>QnW (v0 _ h) (by have:=Qh8 hf v0 vg vs i (by omega);have:=vs i h;omega) (vg _ h)
theorem QeA {n:Nat}{V f g:Nat->Int}(hf:∀ i,i<n->1<=f i)(so:∀ i,i<n->(V i<=0\/V i<=g i)\/(∃ j,j+1=i/\V i=V j - f i)\/(i+1<n/\V i=V (i+1) - f i)) :
  ∀ i,i<n->((V i<=0\/V i<=g i)\/∃ j,j+1=i/\V i=V j - f i)->V i<=QiI f g i
 |0,h,k=>by
  obtain ⟨m1,m2,m3⟩:=Qnm (a:=0) (b:=0 - f 0) (c:=g 0)
  have e:QiI f g 0=mx3 0 (0 - f 0) (g 0):=rfl
  rcases k with (k | k) | ⟨j,e,_⟩
  ·omega
  ·omega
  ·omega
 |i+1,h,k=>by
  obtain ⟨m1,m2,m3⟩:=Qnm (a:=0) (b:=QiI f g i - f (i+1)) (c:=g (i+1))
  have e:QiI f g (i+1)=mx3 0 (QiI f g i - f (i+1)) (g (i+1)):=rfl
  rcases k with (k | k) | ⟨j,ej,ev⟩
  ·omega
  ·omega
  ·obtain rfl:j=i:=by omega
   have f1:=hf j (by omega)
   have f2:=hf (j+1) h
   rcases so j (by omega) with k | k | ⟨_,k⟩
   ·have:=QeA hf so j (by omega) (.inl k);omega
   ·have:=QeA hf so j (by omega) (.inr k);omega
   ·omega
theorem Qn8 {n:Nat}{V f g:Nat->Int}(hf:∀ i,i<n->1<=f i)(v0:∀ i,i<n->0<=V i)(vg:∀ i,i<n->g i<=V i)(v1:∀ i,i+1<n->V i - f (i+1)<=V (i+1))(v2:∀ i,i+1<n->V (i+1) - f i<=V i)
  (so:∀ i,i<n->(V i<=0\/V i<=g i)\/(∃ j,j+1=i/\V i=V j - f i)\/(i+1<n/\V i=V (i+1) - f i)) {i:Nat} (hi:i<n) :
  V i=(if QiI (fun j=>f (n - 1 - j)) (fun j=>g (n - 1 - j)) (n - 1 - i) > QiI f g i then QiI (fun j=>f (n - 1 - j)) (fun j=>g (n - 1 - j)) (n - 1 - i) else QiI f g i):=by
 have a1:=Qh8 hf v0 vg v1 i hi
 have a2:=Qh8 (n:=n) (V:=fun j=>V (n - 1 - j)) (f:=fun j=>f (n - 1 - j)) (g:=fun j=>g (n - 1 - j)) (fun j _=>hf _ (by omega)) (fun j _=>v0 _ (by omega)) (fun j _=>vg _ (by omega)) (fun j hj=>by
  have:=v2 (n - 1 - (j+1)) (by omega)
  rw [show n - 1 - (j+1)+1=n - 1 - j by omega] at this
  exact this) (n - 1 - i) (by omega)
 (try dsimp only at a2)
 rw [show n - 1 - (n - 1 - i)=i by omega] at a2
 have so':∀ j,j<n->(V (n - 1 - j)<=0\/V (n - 1 - j)<=g (n - 1 - j))\/(∃ l,l+1=j/\V (n - 1 - j)=V (n - 1 - l) - f (n - 1 - j))\/(j+1<n/\V (n - 1 - j)=V (n - 1 - (j+1)) - f (n - 1 - j)):=fun j hj=>by
  rcases so (n - 1 - j) (by omega) with k | ⟨l,el,k⟩ | ⟨hl,k⟩
  ·exact .inl k
  ·refine .inr (.inr ⟨by omega,?_⟩)
   rw [show n - 1 - (j+1)=l by omega];exact k
  ·refine .inr (.inl ⟨j - 1,by omega,?_⟩)
   rw [show n - 1 - (j - 1)=n - 1 - j+1 by omega];exact k
 have b:V i<=QiI f g i\/V i<=QiI (fun j=>f (n - 1 - j)) (fun j=>g (n - 1 - j)) (n - 1 - i):=by
  rcases so i hi with k | k | ⟨hk,k⟩
  ·exact .inl (QeA hf so i hi (.inl k))
  ·exact .inl (QeA hf so i hi (.inr k))
  ·refine .inr ?_
   have:=QeA (n:=n) (V:=fun j=>V (n - 1 - j)) (f:=fun j=>f (n - 1 - j)) (g:=fun j=>g (n - 1 - j)) (fun j _=>hf _ (by omega)) so' (n - 1 - i) (by omega) (.inr ⟨n - 1 - (i+1),by omega,?_⟩)
   ·(try dsimp only at this)
    rw [show n - 1 - (n - 1 - i)=i by omega] at this
    exact this
   ·(try dsimp only)
    rw [show n - 1 - (n - 1 - i)=i by omega,show n - 1 - (n - 1 - (i+1))=i+1 by omega];exact k
 split<;>omega
end TL
namespace G36
open PySem PySem.Spec L2 TL
structure Z where
 K:PySem.W.Frag
 c_Floor:Addr
 c_NoFloor:Addr
 c_NoLights:Addr
 c_NoLoss:Addr
 c_NoPlace:Addr
 t_MOST:Tok
 t_WALL_LOSS:Tok
noncomputable section
def Qfw (z:Z):MS:=(Qcj (QhS (Qau Qpc (Qab (mV 0) (Qab (mC (.ty "int")) Qal))) (Qo6 (Qau Qpc (Qab (mV 0) (Qab (mC (.ty "bool")) Qal))))))
def Qby (z:Z):List D->Fr:=Qb6 [false] 1 (Qfw z)
def Qe2 (z:Z):MS:=(Qcj (Qau Qpc (Qab (mV 0) (Qab (Qe6 (Qab (mC (.ty "list")) (Qab (mC (.ty "tuple")) Qal))) Qal))))
def QaC (z:Z):List D->Fr:=Qb6 [false] 1 (Qe2 z)
def Qda (z:Z):MS:=(Qcj (Qau Qcl (Qab (mUn (Qme z.c_Floor "losses") (mV 0)) Qal)))
def Qa8 (z:Z):List D->Fr:=Qb6 [false] 1 (Qda z)
def Qc6 (z:Z):MS:=(Qcj (Qau Qcl (Qab (mOp gIx (mUn (Qme z.c_Floor "losses") (mV 0)) (mC (.int 0))) Qal)))
def Qa1 (z:Z):List D->Fr:=Qb6 [false] 1 (Qc6 z)
def Qb4 (z:Z):MS:=(Qcj (mOp gEq (mOp gIx (mOp gIx (mUn (Qme z.c_Floor "losses") (mV 0)) (mOp gIx (mV 1) (mC (.int 0)))) (mOp gIx (mV 1) (mC (.int 1)))) (mC (.int 0))))
def Qay (z:Z):List D->Fr:=Qb6 [false,false] 2 (Qb4 z)
def QiD (z:Z):MS:=(QaL (QaX 1 (mOp gIx (mV 0) (mC (.int 0))))
  (QaL (QaX 2 (mOp gIx (mV 0) (mC (.int 1))))
  (Qcj (Qgg (Qab (Qe6 (Qab (mOp TL.QiY (mV 1) (mC (.int 1))) (Qab (mV 2) Qal))) (Qab (Qe6 (Qab (mV 1) (Qab (mOp TL.QiY (mV 2) (mC (.int 1))) Qal))) (Qab (Qe6 (Qab (mV 1) (Qab (mOp Qep (mV 2) (mC (.int 1))) Qal))) (Qab (Qe6 (Qab (mOp Qep (mV 1) (mC (.int 1))) (Qab (mV 2) Qal))) Qal))))))))
def QdV (z:Z):List D->Fr:=Qb6 [false] 3 (QiD z)
def QcE (z:Z):MS:=(QaL (Qct 1 (Qgg Qal))
  (QaL (Qip (Qps (Qab (mV 0) Qal)) (Qiu 2 3) (QpM 1 (QbD false [.me,.fz 2] 0 (Qek (Qab (Qau Qcl (Qab (mV 3) Qal)) Qal)) Qgu (mI (Qe6 (Qab (mV 1) (Qab (mV 0) Qal)))))))
  (Qcj (mO 1))))
def Qa6 (z:Z):List D->Fr:=Qb6 [false] 4 (QcE z)
def Qbz (z:Z):MS:=(QaL (QaX 2 (mC (.int 0)))
  (QaL (QaX 3 (Qau Qcl (Qab (mB 0) Qal)))
  (QaL (Qi5 1000000 (QaJ (mOp gLt (mV 2) (mV 3))) (QaL (QaX 4 (mOp QqG (mOp Qep (mV 2) (mV 3)) (mC (.int 2))))
  (mIf (QaJ (mOp Qtb (mOp gIx (mB 0) (mV 4)) (mV 1))) (QaX 2 (mOp Qep (mV 4) (mC (.int 1)))) (QaX 3 (mV 4)))))
  (Qql 0 (Qab (mV 2) (Qab (mV 1) Qal))))))
def QaD (z:Z):List D->Fr:=Qb6 [true,false] 5 (Qbz z)
def QdD (z:Z):MS:=(Qcj (mOp gIx (mOp gIx (mV 0) (mOp gIx (mV 1) (mC (.int 0)))) (mOp gIx (mV 1) (mC (.int 1)))))
def Qat (z:Z):List D->Fr:=Qb6 [false,false] 2 (QdD z)
def QcI (z:Z):MS:=(Qcj (QsV (QaJ (mOp gLt (mV 1) (Qau Qcl (Qab (mV 0) Qal)))) (mOp gIx (mV 0) (mV 1)) (mC (.int 0))))
def Qb5 (z:Z):List D->Fr:=Qb6 [false,false] 2 (QcI z)
def Qdx (z:Z):MS:=(QaL (QaX 1 (mC (.int 0)))
  (QaL (Qip (Qek (Qab (mC (.int 12)) Qal)) (fun d ρ=>setF ρ 2 d) (QaL (QaX 3 (mOp Qjf (mOp Qep (mOp Qep (mOp Qep (mOp QhQ (mOp Qjf (mV 0) (mC (.int 2147483629))) (mC (.int 48271))) (mOp QhQ (mOp QhQ (mV 2) (mV 2)) (mC (.int 7919)))) (mOp QhQ (mC (.int 31)) (mV 2))) (mC (.int 1))) (mC (.int 2147483647))))
  (QaX 1 (mOp Qep (mOp QhQ (mV 1) (mC (.int 2147483587))) (mOp Qjf (mOp Qep (mOp Qep (mOp QhQ (mV 3) (mV 3)) (mOp QhQ (mC (.int 40693)) (mV 3))) (mV 2)) (mC (.int 2147483587)))))))
  (Qcj (mV 1))))
def QaV (z:Z):List D->Fr:=Qb6 [false] 4 (Qdx z)
def QcG (z:Z):MS:=(QaL (QaX 1 (Qau Qcl (Qab (mOp gIx (mV 0) (mC (.int 0))) Qal)))
  (Qcj (QbD false [.me,.fz 1] 0 (Qek (Qab (mOp QhQ (Qau Qcl (Qab (mV 0) Qal)) (mV 1)) Qal)) Qgu (mI (Qe6 (Qab (mOp QqG (mV 0) (mV 1)) (Qab (mOp Qjf (mV 0) (mV 1)) Qal)))))))
def Qba (z:Z):List D->Fr:=Qb6 [false] 2 (QcG z)
def Qc0 (z:Z):MS:=(QaL (Qct 3 QlB)
  (QaL (QaX 4 (mC (.int 0)))
  (QaL (Qip (QbP (mV 1)) (Qiu 5 6) (QaL (QaX 4 (Qau QmE (Qab (mC (.int 0)) (Qab (mOp TL.QiY (mV 4) (mOp gIx (mOp gIx (mV 0) (mV 5)) (mV 6))) (Qab (QhB (mV 2) (Qe6 (Qab (mV 5) (Qab (mV 6) Qal))) (mC (.int 0))) Qal)))))
  (Ql6 3 (mV 4) (Qe6 (Qab (mV 5) (Qab (mV 6) Qal))))))
  (Qcj (mO 3)))))
def QaR (z:Z):List D->Fr:=Qb6 [false,false,false] 7 (Qc0 z)
def Qgw (z:Z):MS:=(Qcj (QhS (Qaj .V (QaC z) (Qab (mV 0) Qal)) (mOp gEq (Qau Qcl (Qab (mV 0) Qal)) (mC (.int 2)))))
def Qb0 (z:Z):List D->Fr:=Qb6 [false] 1 (Qgw z)
def Qcf (z:Z):MS:=(Qcj (Qaj .O (Qa6 z) (Qab (mUn (Qme z.c_Floor "losses") (mV 0)) Qal)))
def Qbc (z:Z):List D->Fr:=Qb6 [false] 1 (Qcf z)
def Qdz (z:Z):MS:=(Qcj (QhS (Qaj .V (Qby z) (Qab (mV 0) Qal)) (Qfy gLe gLt (mC (.int 0)) (mV 0) (mV 1))))
def Qa5 (z:Z):List D->Fr:=Qb6 [false,false] 2 (Qdz z)
def Qd8 (z:Z):MS:=(Qcj (QhS (Qaj .V (QaC z) (Qab (mV 0) Qal)) (Qfy gLe gLe (mC (.int 1)) (Qau Qcl (Qab (mV 0) Qal)) (mC (.int 30)))))
def Qbn (z:Z):List D->Fr:=Qb6 [false] 1 (Qd8 z)
def QbZ (z:Z):MS:=(mIf (Qh4 (QaJ (Qau Qrb (Qab (QbD false [.me] 0 (QbP (mV 0)) Qgu (mI (Qaj .V (Qby z) (Qab (mV 0) Qal)))) Qal)))) (Qeb z.c_NoLights (Qab (mC (.str "a row of numbers has whole numbers alone")) Qal)) Qbw)
def Qa3 (z:Z):List D->Fr:=Qb6 [false] 1 (QbZ z)
def QkW (z:Z):MS:=(QaL (QaX 3 (mOp gIx (mV 2) (mC (.int 0))))
  (mIf (Qh4 (QaJ (Qaj .V (Qay z) (Qab (Qfu z.c_Floor "is_wall" (mV 0)) (Qab (mV 3) Qal))))) (QeI 1 (mI (Qau QpS (Qab (mOp gIx (mV 2) (mC (.int 1))) (Qab (Qaj .V (Qat z) (Qab (mB 1) (Qab (mV 3) Qal))) Qal)))) (mOp gIx (mV 3) (mC (.int 0))) (mOp gIx (mV 3) (mC (.int 1)))) Qbw))
def Qg9 (z:Z):List D->Fr:=Qb6 [false,true,false] 4 (QkW z)
def QfL (z:Z):MS:=(Qcj (QbD false [.me,.fz 0,.fz 1] 0 (QbP (Qaj .O (Qa6 z) (Qab (mV 0) Qal))) (QaJ (mOp gNe (Qaj .V (Qat z) (Qab (mV 1) (Qab (mV 0) Qal))) (Qaj .V (Qat z) (Qab (mV 2) (Qab (mV 0) Qal))))) (mI (mV 0))))
def QdS (z:Z):List D->Fr:=Qb6 [false,false] 2 (QfL z)
def QcY (z:Z):MS:=(QaL (QaX 2 (Qaj .V (Qb5 z) (Qab (mV 0) (Qab (mV 1) Qal))))
  (QaL (mIf (QaJ (mOp gLt (mV 2) (mOp Qo3 (mC (.int 10)) (mC (.int 18))))) (Qcj (Qgg (Qab (Qaj .V (QaV z) (Qab (mOp Qep (mV 2) (mOp QhQ (mC (.int 101)) (mV 1))) Qal)) (Qab (mV 1) Qal)))) Qbw)
  (Qcj (Qgg (Qab (mV 2) (Qab (mV 1) Qal))))))
def QaQ (z:Z):List D->Fr:=Qb6 [false,false] 3 (QcY z)
def Qdv (z:Z):MS:=(QaL (mIf (QaJ (mOp gEq (mOp gIx (mB 0) (mC (.int 0))) (mC (.int 0)))) (QaL (Qg2 0 (mI (mOp Qep (mOp gIx (mB 0) (mC (.int 1))) (mC (.int 64)))) (mC (.int 1)))
  (Qg2 0 (mI (Qaj .V (QaV z) (Qab (mOp gIx (mB 0) (mC (.int 1))) Qal))) (mC (.int 0)))) Qbw)
  (QaL (QaX 2 (mOp Qjf (mOp gIx (mB 0) (mC (.int 0))) (mV 1)))
  (QaL (Qg2 0 (mI (mOp QqG (mOp gIx (mB 0) (mC (.int 0))) (mV 1))) (mC (.int 0)))
  (Qcj (mV 2)))))
def Qam (z:Z):List D->Fr:=Qb6 [true,false] 3 (Qdv z)
def QdA (z:Z):MS:=(QaL (mIf (Qh4 (QaJ (Qaj .V (Qb0 z) (Qab (mV 1) Qal)))) (Qcj (mC (.bl false))) Qbw)
  (Qcj (QhS (Qaj .V (Qa5 z) (Qab (mOp gIx (mV 1) (mC (.int 0))) (Qab (Qaj .V (Qa8 z) (Qab (Qfu z.c_Floor "high" (mV 0)) Qal)) Qal))) (Qaj .V (Qa5 z) (Qab (mOp gIx (mV 1) (mC (.int 1))) (Qab (Qaj .V (Qa1 z) (Qab (Qfu z.c_Floor "wide" (mV 0)) Qal)) Qal))))))
def Qbh (z:Z):List D->Fr:=Qb6 [false,false] 2 (QdA z)
def Qcg (z:Z):MS:=(QaL (mIf (Qh4 (QaJ (Qaj .V (Qbn z) (Qab (mV 0) Qal)))) (Qcj (mC (.bl false))) Qbw)
  (QaL (Qip (QbP (mV 0)) (fun d ρ=>setF ρ 1 d) (mIf (mOr (Qh4 (QaJ (Qaj .V (Qbn z) (Qab (mV 1) Qal)))) (QaJ (mOp gNe (Qau Qcl (Qab (mV 1) Qal)) (Qau Qcl (Qab (mOp gIx (mV 0) (mC (.int 0))) Qal))))) (Qcj (mC (.bl false))) Qbw))
  (Qcj (mC (.bl true)))))
def Qbf (z:Z):List D->Fr:=Qb6 [false] 2 (Qcg z)
def QeL (z:Z):MS:=(Qcj (Qaj .V (Qa5 z) (Qab (mV 0) (Qab (mOp Qo3 (mC (.int 10)) (mC (.int 60))) Qal))))
def Qdb (z:Z):List D->Fr:=Qb6 [false] 1 (QeL z)
def Qc2 (z:Z):MS:=(QaL (mIf (mOr (Qh4 (QaJ (Qaj .V (QaC z) (Qab (mV 1) Qal)))) (QaJ (mOp gNe (Qau Qcl (Qab (mV 1) Qal)) (Qaj .V (Qa8 z) (Qab (Qfu z.c_Floor "high" (mV 0)) Qal))))) (Qeb z.c_NoLights (Qab (mC (.str "there are as many rows of numbers as the floor has rows")) Qal)) Qbw)
  (Qip (QbP (mV 1)) (fun d ρ=>setF ρ 2 d) (QaL (mIf (mOr (Qh4 (QaJ (Qaj .V (QaC z) (Qab (mV 2) Qal)))) (QaJ (mOp gNe (Qau Qcl (Qab (mV 2) Qal)) (Qaj .V (Qa1 z) (Qab (Qfu z.c_Floor "wide" (mV 0)) Qal))))) (Qeb z.c_NoLights (Qab (mC (.str "a row has as many numbers as the floor's rows have cells")) Qal)) Qbw)
  (Qeh (Qaj .V (Qa3 z) (Qab (mV 2) Qal))))))
def QbO (z:Z):List D->Fr:=Qb6 [false,false] 3 (Qc2 z)
def QfF (z:Z):MS:=(QaL (QaX 2 (Qau QjG (Qab (QbD false [.me] 0 (QbP (mV 1)) Qgu (mI (Qau QjG (Qab (mV 0) Qal)))) Qal)))
  (QaL (Qmq 3 (QbD false [.me,.fz 0] 0 (QbP (Qaj .O (Qbc z) (Qab (Qfu z.c_Floor "places" (mV 0)) Qal))) (Qh4 (QaJ (Qaj .V (Qay z) (Qab (Qfu z.c_Floor "is_wall" (mV 1)) (Qab (mV 0) Qal))))) (mI (mV 0))))
  (Qcj (QkY (Qab (QbD false [.me,.fz 1,.fz 2] 0 (QbP (mV 3)) (QaJ (mOp gGt (Qaj .V (Qat z) (Qab (mV 1) (Qab (mV 0) Qal))) (mV 2))) (mI (Qe6 (Qab (Qaj .V (Qat z) (Qab (mV 1) (Qab (mV 0) Qal))) (Qab (mV 0) Qal))))) Qal)))))
def QdL (z:Z):List D->Fr:=Qb6 [false,false] 4 (QfF z)
def QcR (z:Z):MS:=(QaL (mIf (QaJ (mOp gEq (QbS true [some 0,none] (Qam z) (Qab (mS 0) (Qab (mC (.int 4)) Qal))) (mC (.int 0)))) (Qcj (QbS true [some 0,none] (Qam z) (Qab (mS 0) (Qab (mOp Qo3 (mC (.int 10)) (mC (.int 60))) Qal)))) Qbw)
  (Qcj (QbS true [some 0,none] (Qam z) (Qab (mS 0) (Qab (mC (.int 30)) Qal)))))
def QaS (z:Z):List D->Fr:=Qb6 [true] 1 (QcR z)
def Qdw (z:Z):MS:=(QaL (QaX 1 (QbS true [some 0,none] (Qam z) (Qab (mS 0) (Qab (mC (.int 9)) Qal))))
  (QaL (mIf (QaJ (mOp gLt (mV 1) (mC (.int 2)))) (Qcj (mC (.int 0))) Qbw)
  (QaL (mIf (QaJ (mOp gLt (mV 1) (mC (.int 6)))) (Qcj (mC (.int 1))) Qbw)
  (QaL (mIf (QaJ (mOp gEq (mV 1) (mC (.int 6)))) (Qcj (mOp Qep (mC (.int 2)) (QbS true [some 0,none] (Qam z) (Qab (mS 0) (Qab (mC (.int 4)) Qal))))) Qbw)
  (QaL (mIf (QaJ (mOp gEq (mV 1) (mC (.int 7)))) (Qcj (mOp Qep (mC (.int 1)) (QbS true [some 0,none] (Qam z) (Qab (mS 0) (Qab (mC (.int 60)) Qal))))) Qbw)
  (Qcj (mOp Qep (mC (.int 1)) (QbS true [some 0,none] (Qam z) (Qab (mS 0) (Qab (mOp TL.QiY (mOp Qo3 (mC (.int 10)) (mC (.int 60))) (mC (.int 1))) Qal))))))))))
def Qbl (z:Z):List D->Fr:=Qb6 [true] 2 (Qdw z)
def Qbi (z:Z):MS:=(mIf (Qh4 (QaJ (Qaj .V (Qbh z) (Qab (Qfu z.c_Floor "has" (mV 0)) (Qab (mV 1) Qal))))) (Qeb z.c_NoPlace (Qab (mC (.str "a place is a row and a column within the floor")) Qal)) Qbw)
def Qar (z:Z):List D->Fr:=Qb6 [false,false] 2 (Qbi z)
def Qck (z:Z):MS:=(Qip (QbP (mV 0)) (fun d ρ=>setF ρ 1 d) (mIf (Qh4 (QaJ (Qaj .V (Qdb z) (Qab (mV 1) Qal)))) (Qeb z.c_NoLoss (Qab (mC (.str "a loss is a whole number from 0 on of at most sixty figures")) Qal)) Qbw))
def Qbd (z:Z):List D->Fr:=Qb6 [false] 2 (Qck z)
def QdC (z:Z):MS:=(QaL (QaX 2 (mOp Qep (mC (.int 1)) (QbS true [some 0,none] (Qam z) (Qab (mS 0) (Qab (mC (.int 30)) Qal)))))
  (QaL (QaX 3 (mOp Qep (mC (.int 1)) (QbS true [some 0,none] (Qam z) (Qab (mS 0) (Qab (mC (.int 30)) Qal)))))
  (QaL (Qct 4 (Qgg Qal))
  (QaL (Qct 5 (Qgg Qal))
  (QaL (Qip (Qek (Qab (mV 2) Qal)) (fun d ρ=>setF ρ 6 d) (QaL (Qct 7 (Qaj .O (QaQ z) (Qab (mV 1) (Qab (mOp Qep (mC (.int 1)) (mV 6)) Qal))))
  (QaL (Qct 8 (QbD false [.me,.io 7] 0 (Qek (Qab (mV 3) Qal)) Qgu (mI (Qau QpS (Qab (mC (.int 1)) (Qab (QbS true [some 1] (Qbl z) (Qab (mS 1) Qal)) Qal))))))
  (QaL (QaX 9 (Qja (Qab (mV 3) Qal)))
  (QaL (mIf (QaJ (mOp gEq (mOp Qjf (mV 6) (mC (.int 4))) (mC (.int 2)))) (QaX 9 (QkZ (mV 9))) Qbw)
  (QaL (mIf (QaJ (mOp gEq (mOp Qjf (mV 6) (mC (.int 2))) (mC (.int 1)))) (QaL (QaX 9 (Qoa (Qab (mOp QhQ (mOp TL.QiY (mV 3) (mC (.int 1))) (Qau QnV (Qab (mOp gEq (mOp Qjf (mV 6) (mC (.int 4))) (mC (.int 1))) Qal))) Qal)))
  (Qct 8 (QbD false [.me,.io 8,.fz 9] 0 (Qek (Qab (mV 3) Qal)) Qgu (mI (mOp QhQ (mOp gIx (mB 1) (mV 0)) (Qau QnV (Qab (mOp gEq (mV 0) (mOp gIx (mV 2) (mC (.int 0)))) Qal))))))) Qbw)
  (QaL (QpM 5 (QbD false [.me,.fz 6] 0 (QbP (mV 9)) Qgu (mI (Qe6 (Qab (mV 1) (Qab (mV 0) Qal))))))
  (QpP 4 (mO 8)))))))))
  (Qcj (Qmv [.S 4,.S 5] (Qab (mS 4) (Qab (mS 5) Qal)))))))))
def Qb2 (z:Z):List D->Fr:=Qb6 [true,false] 10 (QdC z)
def QbL (z:Z):ME:=(Qkz (mIf (Qh4 (QaJ (Qaj .V (Qbf z) (Qab (mV 1) Qal)))) (Qeb z.c_NoFloor (Qab (mC (.str "a floor has one to thirty rows, all of the same one to thirty cells")) Qal)) Qbw)
  (Qkz (Qip (QbP (mV 1)) (fun d ρ=>setF ρ 2 d) (Qeh (Qaj .V (Qbd z) (Qab (mV 2) Qal))))
  (Qmt (Qab (QbD false [.me] 0 (QbP (mV 1)) Qgu (mI (Qmt (Qab (mV 0) Qal)))) Qal))))
def Qbp (z:Z):Addr->D->Fr:=QsB z.c_Floor 3 "losses" (QbL z)
def Qc1 (z:Z):MS:=(QaL (Qeh (Qaj .V (Qar z) (Qab (Qfu z.c_Floor "check_place" (mV 0)) (Qab (mV 1) Qal))))
  (Qcj (mOp gIx (mOp gIx (mUn (Qme z.c_Floor "losses") (mV 0)) (mOp gIx (mV 1) (mC (.int 0)))) (mOp gIx (mV 1) (mC (.int 1))))))
def QbQ (z:Z):List D->Fr:=Qb6 [false,false] 2 (Qc1 z)
def Qch (z:Z):MS:=(QaL (Qeh (Qaj .V (Qar z) (Qab (Qfu z.c_Floor "check_place" (mV 0)) (Qab (mV 1) Qal))))
  (Qcj (QbD false [.me,.fz 0] 0 (QbP (QbS false [none] (QdV z) (Qab (mV 1) Qal))) (Qs0 (QaJ (Qaj .V (Qbh z) (Qab (Qfu z.c_Floor "has" (mV 1)) (Qab (mV 0) Qal)))) (Qh4 (QaJ (Qaj .V (Qay z) (Qab (Qfu z.c_Floor "is_wall" (mV 1)) (Qab (mV 0) Qal)))))) (mI (mV 0)))))
def Qbe (z:Z):List D->Fr:=Qb6 [false,false] 2 (Qch z)
def QcP (z:Z):MS:=(QaL (mIf (Qh4 (QaJ (Qaj .V (Qb0 z) (Qab (mV 1) Qal)))) (Qeb z.c_NoPlace (Qab (mC (.str "a start is a place and a number")) Qal)) Qbw)
  (Qeh (Qaj .V (Qar z) (Qab (Qfu z.c_Floor "check_place" (mV 0)) (Qab (mOp gIx (mV 1) (mC (.int 0))) Qal)))))
def Qbv (z:Z):List D->Fr:=Qb6 [false,false] 2 (QcP z)
def Qkj (z:Z):MS:=(Qip (QbP (Qaj .O (Qbe z) (Qab (Qfu z.c_Floor "beside" (mV 0)) (Qab (mOp gIx (mV 3) (mC (.int 1))) Qal)))) (fun d ρ=>setF ρ 4 d) (QaL (QaX 5 (mOp TL.QiY (mOp gIx (mV 3) (mC (.int 0))) (Qaj .V (QbQ z) (Qab (Qfu z.c_Floor "loss" (mV 0)) (Qab (mV 4) Qal)))))
  (mIf (QaJ (mOp gGt (mV 5) (Qaj .V (Qat z) (Qab (mB 1) (Qab (mV 4) Qal))))) (QaL (QeI 1 (mI (mV 5)) (mOp gIx (mV 4) (mC (.int 0))) (mOp gIx (mV 4) (mC (.int 1))))
  (Qeh (QbS true [some 2,none] (QaD z) (Qab (mS 2) (Qab (Qe6 (Qab (mV 5) (Qab (mV 4) Qal))) Qal))))) Qbw)))
def QgM (z:Z):List D->Fr:=Qb6 [false,true,true,false] 6 (Qkj z)
def QfU (z:Z):MS:=(QaL (Qct 3 (QbD false [.me] 0 (QbP (mV 1)) Qgu (Qj1 (Qab (mV 0) Qal))))
  (QaL (Qip (QbP (mV 2)) (fun d ρ=>setF ρ 4 d) (Qeh (QbS false [none,some 3,none] (Qg9 z) (Qab (mV 0) (Qab (mS 3) (Qab (mV 4) Qal))))))
  (QaL (Qct 5 (Qaj .O (QdL z) (Qab (mV 0) (Qab (mB 3) Qal))))
  (QaL (Qi5 1000000 (QaJ (mOp gGt (Qau Qcl (Qab (mB 5) Qal)) (mC (.int 0)))) (QaL (QaX 6 (QsD 5))
  (mIf (QaJ (mOp gEq (Qaj .V (Qat z) (Qab (mB 3) (Qab (mOp gIx (mV 6) (mC (.int 1))) Qal))) (mOp gIx (mV 6) (mC (.int 0))))) (Qeh (QbS false [none,some 3,some 5,none] (QgM z) (Qab (mV 0) (Qab (mS 3) (Qab (mS 5) (Qab (mV 6) Qal)))))) Qbw)))
  (Qcj (mO 3))))))
def QdY (z:Z):List D->Fr:=Qb6 [false,false,false] 7 (QfU z)
def QfD (z:Z):MS:=(QaL (Qeh (Qaj .V (QbO z) (Qab (mV 0) (Qab (mV 1) Qal))))
  (QaL (Qip (QbP (mV 2)) (fun d ρ=>setF ρ 3 d) (Qeh (Qaj .V (Qbv z) (Qab (mV 0) (Qab (mV 3) Qal)))))
  (QaL (Qct 4 (Qaj .O (QdY z) (Qab (mV 0) (Qab (mV 1) (Qab (mV 2) Qal)))))
  (Qcj (Qmv [.S 4,.O] (Qab (mS 4) (Qab (Qaj .O (QdS z) (Qab (mV 1) (Qab (mB 4) Qal))) Qal)))))))
def QdM (z:Z):List D->Fr:=Qb6 [false,false,false] 5 (QfD z)
def QoR (z:Z):MS:=(QaL (Qct 1 (Qaj .O (QaQ z) (Qab (mV 0) (Qab (mC (.int 0)) Qal))))
  (QaL (QsF (Qiu 2 3) (QbS false [some 1,none] (Qb2 z) (Qab (mS 1) (Qab (mV 0) Qal))))
  (QaL (QaX 4 (QbS false [some 1,none] (Qam z) (Qab (mS 1) (Qab (Qau Qcl (Qab (mV 3) Qal)) Qal))))
  (QaL (QaX 5 (Qau QkI (Qab (Qfq false [.me,.me,.fz 2] (QbP (Qq2 (mV 3) (QpR (mC (.int 1))) (QpR (mOp Qep (mV 4) (mC (.int 1)))))) Qgu (mI (mOp gIx (mOp gIx (mV 2) (mV 0)) (mV 1)))) Qal)))
  (QaL (QaX 6 (mOp gIx (Qoa (Qab (QbS false [some 1] (QaS z) (Qab (mS 1) Qal)) (Qab (mV 5) (Qab (mOp Qep (mV 5) (mC (.int 1))) Qal)))) (QbS false [some 1,none] (Qam z) (Qab (mS 1) (Qab (mC (.int 3)) Qal)))))
  (QaL (Qct 7 (Qgg (Qab (Qe6 (Qab (mOp gIx (mV 3) (mC (.int 0))) (Qab (Qau QtY (Qab (mV 6) (Qab (mOp TL.QiY (mOp Qo3 (mC (.int 10)) (mC (.int 60))) (mC (.int 1))) Qal))) Qal))) Qal)))
  (QaL (mIf (QaJ (mOp gEq (QbS false [some 1,none] (Qam z) (Qab (mS 1) (Qab (mC (.int 2)) Qal))) (mC (.int 1)))) (QpP 7 (mI (Qe6 (Qab (mOp gIx (mV 3) (QbS false [some 1,none] (Qam z) (Qab (mS 1) (Qab (Qau Qcl (Qab (mV 3) Qal)) Qal)))) (Qab (QbS false [some 1] (QaS z) (Qab (mS 1) Qal)) Qal))))) Qbw)
  (QaL (Qct 8 QlB)
  (QaL (Qip (QbP (mV 7)) (Qiu 9 6) (Ql6 8 (Qau QpS (Qab (mV 6) (Qab (QhB (mB 8) (mV 9) (mC (.int 0))) Qal))) (mV 9)))
  (QaL (QaX 10 (Qaj .O (QaR z) (Qab (mV 2) (Qab (mV 3) (Qab (mB 8) Qal)))))
  (QaL (QaX 11 (Qaj .O (QaR z) (Qab (mV 2) (Qab (QkZ (mV 3)) (Qab (mB 8) Qal)))))
  (QaL (QaX 12 (Qqk z.c_Floor (Qbp z) (Qab (mV 2) Qal)))
  (QaL (Qmq 13 (QbD false [.me,.fz 2] 0 (QbP (mV 2)) Qgu (QmJ (Qoa (Qab (mC (.int 0)) Qal)) (Qau Qcl (Qab (mOp gIx (mV 1) (mC (.int 0))) Qal)))))
  (QaL (QsF (Qiu 14 15) (Qaj .O (QdM z) (Qab (mV 12) (Qab (mV 13) (Qab (mB 7) Qal)))))
  (QaL (Qip (QbP (Qaj .O (Qba z) (Qab (mV 2) Qal))) (Qiu 16 17) (mIf (QaJ (mOp gNe (mOp gIx (mOp gIx (mV 14) (mV 16)) (mV 17)) (Qau QpS (Qab (QhB (mV 10) (Qe6 (Qab (mV 16) (Qab (mV 17) Qal))) (mC (.int 0))) (Qab (QhB (mV 11) (Qe6 (Qab (mV 16) (Qab (mV 17) Qal))) (mC (.int 0))) Qal))))) (Qcj (mC (.bl false))) Qbw))
  (Qcj (mOp gEq (mV 15) (Qfq false [.me,.me,.fz 14] (QbP (Qaj .O (Qba z) (Qab (mV 2) Qal))) (QaJ (mOp gNe (mOp gIx (mOp gIx (mV 2) (mV 0)) (mV 1)) (mC (.int 0)))) (mI (Qe6 (Qab (mV 0) (Qab (mV 1) Qal))))))))))))))))))))))
def QmH (z:Z):List D->Fr:=Qb6 [false] 18 (QoR z)
end
def top (i:Nat):Stmt:=PySem.Challenge.pw_glowcells_k36_whole_long_ways.main.body.getD i (.Pass ⟨0,0,0,0⟩)
structure Txt (mg:Str->Option Value):Prop where
 all_:mg "all" = none
 bool:mg "bool" = none
 enumerate:mg "enumerate" = none
 int_:mg "int" = none
 isinstance:mg "isinstance" = none
 len:mg "len" = none
 list_:mg "list" = none
 max_:mg "max" = none
 min_:mg "min" = none
 range:mg "range" = none
 sorted:mg "sorted" = none
 sum:mg "sum" = none
 tuple:mg "tuple" = none
structure Con (mg:Str->Option Value)(z:Z):Prop where
 g_Floor:mg "Floor" = some (.ref z.c_Floor)
 g_NoFloor:mg "NoFloor" = some (.ref z.c_NoFloor)
 g_NoLights:mg "NoLights" = some (.ref z.c_NoLights)
 g_NoLoss:mg "NoLoss" = some (.ref z.c_NoLoss)
 g_NoPlace:mg "NoPlace" = some (.ref z.c_NoPlace)
 x_NoFloor:PySem.W.excIn z.K z.c_NoFloor bmV "ValueError.__new__" = true
 x_NoLights:PySem.W.excIn z.K z.c_NoLights bmV "ValueError.__new__" = true
 x_NoLoss:PySem.W.excIn z.K z.c_NoLoss bmV "ValueError.__new__" = true
 x_NoPlace:PySem.W.excIn z.K z.c_NoPlace bmV "ValueError.__new__" = true
 k_MOST:mg "MOST" = some (.int 30 z.t_MOST)
 k_WALL_LOSS:mg "WALL_LOSS" = some (.int 0 z.t_WALL_LOSS)
 cl_Floor:Cls z.K z.c_Floor
 na_Floor_losses:NoAttr z.K z.c_Floor "losses"
 dummy:True
section
variable {P:Program}{w:World}{mg:Str->Option Value}{base:Heap}{z:Z}
abbrev Qdd:Stmt:=top 8
theorem QhJ:Qak ["value"] ["value"] (Qac Qdd):=⟨rfl,rfl,rfl,by decide +kernel,rfl,by decide +kernel,by decide +kernel⟩
theorem QhM {f:Addr}{fd:FuncData}(F:Fun z.K "is_whole" "is_whole" Qdd f fd)(T:Txt mg)(con:Con mg z)  : FnOk P w z.K mg base (CXe P w) 1 f fd ["value"] (spF z.K [false] .V (Qby z)):=by
 have S:=QhJ
 refine fnT F S rfl (by first | exact .inl rfl | exact .inr rfl) fun cdv A outer s H E C hC hr hd=>?_
 have hown:=Qcw (P:=P) (w:=w) (K:=z.K) (mg:=mg) (base:=base) (N:=["value"]) (qual := "is_whole") (scope:=Qac Qdd) (f:=f) (cd:=cdv) (A:=A) (outer:=outer) (s:=s) (H:=H) (E:=E)
 unfold Qfw
 exact (Qaq (QaP (QlI (Qav Qe0 (QtA hC) T.isinstance Qgc (Qaa (xv 0) (Qaa (Qgb T.int_ Qev) Qad))) (QkM (Qtp (Qav Qe0 (QtA hC) T.isinstance Qgc (Qaa (xv 0) (Qaa (Qgb T.bool Qjo) Qad))))))))
abbrev QcM:Stmt:=top 9
theorem Qhh:Qak ["value"] ["value"] (Qac QcM):=⟨rfl,rfl,rfl,by decide +kernel,rfl,by decide +kernel,by decide +kernel⟩
theorem QgF {f:Addr}{fd:FuncData}(F:Fun z.K "is_listed" "is_listed" QcM f fd)(T:Txt mg)(con:Con mg z)  : FnOk P w z.K mg base (CXe P w) 1 f fd ["value"] (spF z.K [false] .V (QaC z)):=by
 have S:=Qhh
 refine fnT F S rfl (by first | exact .inl rfl | exact .inr rfl) fun cdv A outer s H E C hC hr hd=>?_
 have hown:=Qcw (P:=P) (w:=w) (K:=z.K) (mg:=mg) (base:=base) (N:=["value"]) (qual := "is_listed") (scope:=Qac QcM) (f:=f) (cd:=cdv) (A:=A) (outer:=outer) (s:=s) (H:=H) (E:=E)
 unfold Qe2
 exact (Qaq (QaP (Qav Qe0 (QtA hC) T.isinstance Qgc (Qaa (xv 0) (Qaa (QbM (Qaa (Qgb T.list_ TL.Qe4) (Qaa (Qgb T.tuple TL.Qfk) Qad))) Qad)))))
abbrev Qcc:Stmt:=QcQ (top 14) 1
theorem Qgq:Qak ["self"] ["self"] (Qac Qcc):=⟨rfl,rfl,rfl,by decide +kernel,rfl,by decide +kernel,by decide +kernel⟩
theorem QfT {f:Addr}{fd:FuncData}(F:Fun z.K "high" "Floor.high" Qcc f fd)(T:Txt mg)(con:Con mg z)  : FnOk P w z.K mg base (CXe P w) 1 f fd ["self"] (spF z.K [false] .V (Qa8 z)):=by
 have S:=Qgq
 refine fnT F S rfl (by first | exact .inl rfl | exact .inr rfl) fun cdv A outer s H E C hC hr hd=>?_
 have hown:=Qcw (P:=P) (w:=w) (K:=z.K) (mg:=mg) (base:=base) (N:=["self"]) (qual := "Floor.high") (scope:=Qac Qcc) (f:=f) (cd:=cdv) (A:=A) (outer:=outer) (s:=s) (H:=H) (E:=E)
 unfold Qda
 exact (Qaq (QaP (Qav QaI (QgW hC) T.len PySem.boot_len (Qaa (Qgz con.cl_Floor con.na_Floor_losses (xv 0)) Qad))))
abbrev Qcd:Stmt:=QcQ (top 14) 2
theorem QfG:Qak ["self"] ["self"] (Qac Qcd):=⟨rfl,rfl,rfl,by decide +kernel,rfl,by decide +kernel,by decide +kernel⟩
theorem Qf3 {f:Addr}{fd:FuncData}(F:Fun z.K "wide" "Floor.wide" Qcd f fd)(T:Txt mg)(con:Con mg z)  : FnOk P w z.K mg base (CXe P w) 1 f fd ["self"] (spF z.K [false] .V (Qa1 z)):=by
 have S:=QfG
 refine fnT F S rfl (by first | exact .inl rfl | exact .inr rfl) fun cdv A outer s H E C hC hr hd=>?_
 have hown:=Qcw (P:=P) (w:=w) (K:=z.K) (mg:=mg) (base:=base) (N:=["self"]) (qual := "Floor.wide") (scope:=Qac Qcd) (f:=f) (cd:=cdv) (A:=A) (outer:=outer) (s:=s) (H:=H) (E:=E)
 unfold Qc6
 exact (Qaq (QaP (Qav QaI (QgW hC) T.len PySem.boot_len (Qaa (QaH hC (Qgz con.cl_Floor con.na_Floor_losses (xv 0)) Qae) Qad))))
abbrev Qbr:Stmt:=QcQ (top 14) 8
theorem Qej:Qak ["self","place"] ["self","place"] (Qac Qbr):=⟨rfl,rfl,rfl,by decide +kernel,rfl,by decide +kernel,by decide +kernel⟩
theorem Qeg {f:Addr}{fd:FuncData}(F:Fun z.K "is_wall" "Floor.is_wall" Qbr f fd)(T:Txt mg)(con:Con mg z)  : FnOk P w z.K mg base (CXe P w) 1 f fd ["self","place"] (spF z.K [false,false] .V (Qay z)):=by
 have S:=Qej
 refine fnT F S rfl (by first | exact .inl rfl | exact .inr rfl) fun cdv A outer s H E C hC hr hd=>?_
 have hown:=Qcw (P:=P) (w:=w) (K:=z.K) (mg:=mg) (base:=base) (N:=["self","place"]) (qual := "Floor.is_wall") (scope:=Qac Qbr) (f:=f) (cd:=cdv) (A:=A) (outer:=outer) (s:=s) (H:=H) (E:=E)
 unfold Qb4
 exact (Qaq (QaP (Qj2 (Qcq (Qf9 hr)) (Qju hC) (QaH hC (QaH hC (Qgz con.cl_Floor con.na_Floor_losses (xv 0)) (QaH hC (xv 1) Qae)) (QaH hC (xv 1) Qae)) (Qll (d:=.int 0) rfl ⟨_,rfl⟩ con.k_WALL_LOSS) (QaM _))))
abbrev Qer:Stmt:=top 15
theorem QkQ:Qak ["place","row","column"] ["place"] (Qac Qer):=⟨rfl,rfl,rfl,by decide +kernel,rfl,by decide +kernel,by decide +kernel⟩
theorem Qko {f:Addr}{fd:FuncData}(F:Fun z.K "around" "around" Qer f fd)(T:Txt mg)(con:Con mg z)  : FnOk P w z.K mg base (CXe P w) 1 f fd ["place"] (spF z.K [false] .O (QdV z)):=by
 have S:=QkQ
 refine fnT F S rfl (by first | exact .inl rfl | exact .inr rfl) fun cdv A outer s H E C hC hr hd=>?_
 have hown:=Qcw (P:=P) (w:=w) (K:=z.K) (mg:=mg) (base:=base) (N:=["place","row","column"]) (qual := "around") (scope:=Qac Qer) (f:=f) (cd:=cdv) (A:=A) (outer:=outer) (s:=s) (H:=H) (E:=E)
 unfold QiD
 exact (Qah (QaE (i:=1) S.nd rfl (by first | exact Or.inl rfl | exact Or.inr rfl) (QaH hC (xv 0) Qae))
  (Qah (QaE (i:=2) S.nd rfl (by first | exact Or.inl rfl | exact Or.inr rfl) (QaH hC (xv 0) Qae))
  (Qaq (QaP (QeV (Qaa (QbM (Qaa (QbH QeJ Qpd (xv 1) Qae) (Qaa (xv 2) Qad))) (Qaa (QbM (Qaa (xv 1) (Qaa (QbH QeJ Qpd (xv 2) Qae) Qad))) (Qaa (QbM (Qaa (xv 1) (Qaa (QbH Qbo Qfj (xv 2) Qae) Qad))) (Qaa (QbM (Qaa (QbH Qbo Qfj (xv 1) Qae) (Qaa (xv 2) Qad))) Qad)))))))))
abbrev Qcy:Stmt:=top 16
theorem QgH:Qak ["rows","places","number","row"] ["rows"] (Qac Qcy):=⟨rfl,rfl,rfl,by decide +kernel,rfl,by decide +kernel,by decide +kernel⟩
theorem QhD {f:Addr}{fd:FuncData}(F:Fun z.K "places_of" "places_of" Qcy f fd)(T:Txt mg)(con:Con mg z)  : FnOk P w z.K mg base (CXe P w) 1 f fd ["rows"] (spF z.K [false] .O (Qa6 z)):=by
 have S:=QgH
 refine fnT F S rfl (by first | exact .inl rfl | exact .inr rfl) fun cdv A outer s H E C hC hr hd=>?_
 have hown:=Qcw (P:=P) (w:=w) (K:=z.K) (mg:=mg) (base:=base) (N:=["rows","places","number","row"]) (qual := "places_of") (scope:=Qac Qcy) (f:=f) (cd:=cdv) (A:=A) (outer:=outer) (s:=s) (H:=H) (E:=E)
 unfold QcE
 exact (Qah (QcV (i:=1) S.nd rfl (by first | exact Or.inl rfl | exact Or.inr rfl) (QeV Qad))
  (Qah (Qd6 hown rfl (Qn7 T.enumerate hC (Qaa (xv 0) Qad)) (Qed rfl (QaN (QaA (i:=2) S.nd rfl (by first | exact Or.inl rfl | exact Or.inr rfl)) (QaN (QaA (i:=3) S.nd rfl (by first | exact Or.inl rfl | exact Or.inr rfl)) Qc8))) (Qd1 hC) (Qaq (QqD (i:=1) hC rfl (by first | exact Or.inl rfl | exact Or.inr (Or.inl rfl) | exact Or.inr (Or.inr rfl)) (Qb3 (p:=true) (par:=false) (cs:=[.me,.fz 2]) (N:=["column","number"]) (j:=0) hC rfl Blk.of rfl rfl rfl (Qd5 T.range (Qaa (Qav QaI (QgW hC) T.len PySem.boot_len (Qaa (xv 3) Qad)) Qad)) (fun _ _ _ _ _=>Qc7) (fun _ _ _ _ _=>Qdq fun Cb hb=>(Qcu (QbM (Qaa (xv 1) (Qaa (xv 0) Qad)))))))))
  (Qaq (QaP (xo 1)))))
abbrev Qa9:Stmt:=top 31
theorem QdI:Qak ["waiting","entry","low","high","middle"] ["waiting","entry"] (Qac Qa9):=⟨rfl,rfl,rfl,by decide +kernel,rfl,by decide +kernel,by decide +kernel⟩
theorem QdH {f:Addr}{fd:FuncData}(F:Fun z.K "insert_in_order" "insert_in_order" Qa9 f fd)(T:Txt mg)(con:Con mg z)  : FnOk P w z.K mg base (CXe P w) 1 f fd ["waiting","entry"] (spF z.K [true,false] .V (QaD z)):=by
 have S:=QdI
 refine fnT F S rfl (by first | exact .inl rfl | exact .inr rfl) fun cdv A outer s H E C hC hr hd=>?_
 have hown:=Qcw (P:=P) (w:=w) (K:=z.K) (mg:=mg) (base:=base) (N:=["waiting","entry","low","high","middle"]) (qual := "insert_in_order") (scope:=Qac Qa9) (f:=f) (cd:=cdv) (A:=A) (outer:=outer) (s:=s) (H:=H) (E:=E)
 unfold Qbz
 exact (Qah (QaE (i:=2) S.nd rfl (by first | exact Or.inl rfl | exact Or.inr rfl) Qae)
  (Qah (QaE (i:=3) S.nd rfl (by first | exact Or.inl rfl | exact Or.inr rfl) (Qav QaI (QgW hC) T.len PySem.boot_len (Qaa (xb 0) Qad)))
  (Qah (QkF (n:=1000000) hown (Qa4 QjO dLt (xv 2) (xv 3) (QaM _)) (Qah (QaE (i:=4) S.nd rfl (by first | exact Or.inl rfl | exact Or.inr rfl) (QbH QfO QsQ (QbH Qbo Qfj (xv 2) (xv 3)) Qae))
  (Qaq (Qee (Qa4 (Qqd (QhI hr)) (Quk hC) (QhN hC (xb 0) (xv 4)) (xv 1) (QaM _)) (Qaq (QaE (i:=2) S.nd rfl (by first | exact Or.inl rfl | exact Or.inr rfl) (QbH Qbo Qfj (xv 4) Qae))) (Qaq (QaE (i:=3) S.nd rfl (by first | exact Or.inl rfl | exact Or.inr rfl) (xv 4)))))))
  (Qaq (QsL (i:=0) rfl (by first | exact Or.inl rfl | exact Or.inr (Or.inl rfl) | exact Or.inr (Or.inr rfl)) (Qaa (xv 2) (Qaa (xv 1) Qad)))))))
abbrev QcD:Stmt:=top 32
theorem Qhv:Qak ["rows","place"] ["rows","place"] (Qac QcD):=⟨rfl,rfl,rfl,by decide +kernel,rfl,by decide +kernel,by decide +kernel⟩
theorem QgC {f:Addr}{fd:FuncData}(F:Fun z.K "number_at" "number_at" QcD f fd)(T:Txt mg)(con:Con mg z)  : FnOk P w z.K mg base (CXe P w) 1 f fd ["rows","place"] (spF z.K [false,false] .V (Qat z)):=by
 have S:=Qhv
 refine fnT F S rfl (by first | exact .inl rfl | exact .inr rfl) fun cdv A outer s H E C hC hr hd=>?_
 have hown:=Qcw (P:=P) (w:=w) (K:=z.K) (mg:=mg) (base:=base) (N:=["rows","place"]) (qual := "number_at") (scope:=Qac QcD) (f:=f) (cd:=cdv) (A:=A) (outer:=outer) (s:=s) (H:=H) (E:=E)
 unfold QdD
 exact (Qaq (QaP (QaH hC (QaH hC (xv 0) (QaH hC (xv 1) Qae)) (QaH hC (xv 1) Qae))))
abbrev QcJ:Stmt:=top 35
theorem QgJ:Qak ["_law_script","_law_k"] ["_law_script","_law_k"] (Qac QcJ):=⟨rfl,rfl,rfl,by decide +kernel,rfl,by decide +kernel,by decide +kernel⟩
theorem QhC {f:Addr}{fd:FuncData}(F:Fun z.K "_law_cell" "_law_cell" QcJ f fd)(T:Txt mg)(con:Con mg z)  : FnOk P w z.K mg base (CXe P w) 1 f fd ["_law_script","_law_k"] (spF z.K [false,false] .V (Qb5 z)):=by
 have S:=QgJ
 refine fnT F S rfl (by first | exact .inl rfl | exact .inr rfl) fun cdv A outer s H E C hC hr hd=>?_
 have hown:=Qcw (P:=P) (w:=w) (K:=z.K) (mg:=mg) (base:=base) (N:=["_law_script","_law_k"]) (qual := "_law_cell") (scope:=Qac QcJ) (f:=f) (cd:=cdv) (A:=A) (outer:=outer) (s:=s) (H:=H) (E:=E)
 unfold QcI
 exact (Qaq (QaP (Qs5 (Qa4 QjO dLt (xv 1) (Qav QaI (QgW hC) T.len PySem.boot_len (Qaa (xv 0) Qad)) (QaM _)) (QaH hC (xv 0) (xv 1)) Qae)))
abbrev QcO:Stmt:=top 36
theorem Qg4:Qak ["_law_cell_here","_law_number_here","_law_k","_law_mixed"] ["_law_cell_here"] (Qac QcO):=⟨rfl,rfl,rfl,by decide +kernel,rfl,by decide +kernel,by decide +kernel⟩
theorem Qgy {f:Addr}{fd:FuncData}(F:Fun z.K "_law_rich" "_law_rich" QcO f fd)(T:Txt mg)(con:Con mg z)  : FnOk P w z.K mg base (CXe P w) 1 f fd ["_law_cell_here"] (spF z.K [false] .V (QaV z)):=by
 have S:=Qg4
 refine fnT F S rfl (by first | exact .inl rfl | exact .inr rfl) fun cdv A outer s H E C hC hr hd=>?_
 have hown:=Qcw (P:=P) (w:=w) (K:=z.K) (mg:=mg) (base:=base) (N:=["_law_cell_here","_law_number_here","_law_k","_law_mixed"]) (qual := "_law_rich") (scope:=Qac QcO) (f:=f) (cd:=cdv) (A:=A) (outer:=outer) (s:=s) (H:=H) (E:=E)
 unfold Qdx
 exact (Qah (QaE (i:=1) S.nd rfl (by first | exact Or.inl rfl | exact Or.inr rfl) Qae)
  (Qah (Qd6 hown rfl (Qd5 T.range (Qaa Qae Qad)) (QaA (i:=2) S.nd rfl (by first | exact Or.inl rfl | exact Or.inr rfl)) QcS (Qah (QaE (i:=3) S.nd rfl (by first | exact Or.inl rfl | exact Or.inr rfl) (QbH Qec QnO (QbH Qbo Qfj (QbH Qbo Qfj (QbH Qbo Qfj (QbH Qc5 Qlo (QbH Qec QnO (xv 0) Qae) Qae) (QbH Qc5 Qlo (QbH Qc5 Qlo (xv 2) (xv 2)) Qae)) (QbH Qc5 Qlo Qae (xv 2))) Qae) Qae))
  (Qaq (QaE (i:=1) S.nd rfl (by first | exact Or.inl rfl | exact Or.inr rfl) (QbH Qbo Qfj (QbH Qc5 Qlo (xv 1) Qae) (QbH Qec QnO (QbH Qbo Qfj (QbH Qbo Qfj (QbH Qc5 Qlo (xv 3) (xv 3)) (QbH Qc5 Qlo Qae (xv 3))) (xv 2)) Qae))))))
  (Qaq (QaP (xv 1)))))
abbrev QbV:Stmt:=top 41
theorem Qfb:Qak ["_law_losses","_law_wide"] ["_law_losses"] (Qac QbV):=⟨rfl,rfl,rfl,by decide +kernel,rfl,by decide +kernel,by decide +kernel⟩
theorem Qe9 {f:Addr}{fd:FuncData}(F:Fun z.K "_law_places" "_law_places" QbV f fd)(T:Txt mg)(con:Con mg z)  : FnOk P w z.K mg base (CXe P w) 1 f fd ["_law_losses"] (spF z.K [false] .O (Qba z)):=by
 have S:=Qfb
 refine fnT F S rfl (by first | exact .inl rfl | exact .inr rfl) fun cdv A outer s H E C hC hr hd=>?_
 have hown:=Qcw (P:=P) (w:=w) (K:=z.K) (mg:=mg) (base:=base) (N:=["_law_losses","_law_wide"]) (qual := "_law_places") (scope:=Qac QbV) (f:=f) (cd:=cdv) (A:=A) (outer:=outer) (s:=s) (H:=H) (E:=E)
 unfold QcG
 exact (Qah (QaE (i:=1) S.nd rfl (by first | exact Or.inl rfl | exact Or.inr rfl) (Qav QaI (QgW hC) T.len PySem.boot_len (Qaa (QaH hC (xv 0) Qae) Qad)))
  (Qaq (QaP (Qb3 (p:=true) (par:=false) (cs:=[.me,.fz 1]) (N:=["_law_k","_law_wide"]) (j:=0) hC rfl Blk.of rfl rfl rfl (Qd5 T.range (Qaa (QbH Qc5 Qlo (Qav QaI (QgW hC) T.len PySem.boot_len (Qaa (xv 0) Qad)) (xv 1)) Qad)) (fun _ _ _ _ _=>Qc7) (fun _ _ _ _ _=>Qdq fun Cb hb=>(Qcu (QbM (Qaa (QbH QfO QsQ (xv 0) (xv 1)) (Qaa (QbH Qec QnO (xv 0) (xv 1)) Qad)))))))))
abbrev Qb7:Stmt:=top 43
theorem Qgl:Qak ["_law_losses","_law_way","_law_given","_law_found","_law_coming","_law_r","_law_c"] ["_law_losses","_law_way","_law_given"] (Qac Qb7):=⟨rfl,rfl,rfl,by decide +kernel,rfl,by decide +kernel,by decide +kernel⟩
theorem QfS {f:Addr}{fd:FuncData}(F:Fun z.K "_law_along" "_law_along" Qb7 f fd)(T:Txt mg)(con:Con mg z)  : FnOk P w z.K mg base (CXe P w) 1 f fd ["_law_losses","_law_way","_law_given"] (spF z.K [false,false,false] .O (QaR z)):=by
 have S:=Qgl
 refine fnT F S rfl (by first | exact .inl rfl | exact .inr rfl) fun cdv A outer s H E C hC hr hd=>?_
 have hown:=Qcw (P:=P) (w:=w) (K:=z.K) (mg:=mg) (base:=base) (N:=["_law_losses","_law_way","_law_given","_law_found","_law_coming","_law_r","_law_c"]) (qual := "_law_along") (scope:=Qac Qb7) (f:=f) (cd:=cdv) (A:=A) (outer:=outer) (s:=s) (H:=H) (E:=E)
 unfold Qc0
 exact (Qah (QcV (i:=3) S.nd rfl (by first | exact Or.inl rfl | exact Or.inr rfl) QkA)
  (Qah (QaE (i:=4) S.nd rfl (by first | exact Or.inl rfl | exact Or.inr rfl) Qae)
  (Qah (Qd6 hown rfl (Qbb hC (xv 1)) (Qed rfl (QaN (QaA (i:=5) S.nd rfl (by first | exact Or.inl rfl | exact Or.inr rfl)) (QaN (QaA (i:=6) S.nd rfl (by first | exact Or.inl rfl | exact Or.inr rfl)) Qc8))) (Qd1 hC) (Qah (QaE (i:=4) S.nd rfl (by first | exact Or.inl rfl | exact Or.inr rfl) (Qav (Qk2 rfl) QtW T.max_ Qc9 (Qaa Qae (Qaa (QbH QeJ Qpd (xv 4) (QaH hC (QaH hC (xv 0) (xv 5)) (xv 6))) (Qaa (Qf1 (QhI hr) (xv 2) (QbM (Qaa (xv 5) (Qaa (xv 6) Qad))) Qae) Qad)))))
  (Qaq (Qns (i:=3) (QhI hr) rfl (by first | exact Or.inl rfl | exact Or.inr (Or.inl rfl) | exact Or.inr (Or.inr rfl)) (xv 4) (QbM (Qaa (xv 5) (Qaa (xv 6) Qad)))))))
  (Qaq (QaP (xo 3))))))
abbrev QdO:Stmt:=top 10
theorem Qjs:Qak ["value"] ["value"] (Qac QdO):=⟨rfl,rfl,rfl,by decide +kernel,rfl,by decide +kernel,by decide +kernel⟩
theorem Qjg {f:Addr}{fd:FuncData}(F:Fun z.K "is_pair" "is_pair" QdO f fd)(T:Txt mg)(con:Con mg z)(D_is_listed:Qaf P w z.K mg base 1 "is_listed" ["value"] (spF z.K [false] .V (QaC z))):FnOk P w z.K mg base (CXe P w) 2 f fd ["value"] (spF z.K [false] .V (Qb0 z)):=by
 have S:=Qjs
 refine fnT F S rfl (by first | exact .inl rfl | exact .inr rfl) fun cdv A outer s H E C hC hr hd=>?_
 have hown:=Qcw (P:=P) (w:=w) (K:=z.K) (mg:=mg) (base:=base) (N:=["value"]) (qual := "is_pair") (scope:=Qac QdO) (f:=f) (cd:=cdv) (A:=A) (outer:=outer) (s:=s) (H:=H) (E:=E)
 unfold Qgw
 exact (Qaq (QaP (QlI (QaO (spk D_is_listed hC) Qai (hr.mono (by decide)) (Qaa (xv 0) Qad)) (QkM (Qj2 (Qcq (Qf9 hr)) (Qju hC) (Qav QaI (QgW hC) T.len PySem.boot_len (Qaa (xv 0) Qad)) Qae (QaM _))))))
abbrev QbJ:Stmt:=QcQ (top 14) 7
theorem QeF:Qak ["self"] ["self"] (Qac QbJ):=⟨rfl,rfl,rfl,by decide +kernel,rfl,by decide +kernel,by decide +kernel⟩
theorem Qez {f:Addr}{fd:FuncData}(F:Fun z.K "places" "Floor.places" QbJ f fd)(T:Txt mg)(con:Con mg z)(D_places_of:Qaf P w z.K mg base 1 "places_of" ["rows"] (spF z.K [false] .O (Qa6 z))):FnOk P w z.K mg base (CXe P w) 2 f fd ["self"] (spF z.K [false] .O (Qbc z)):=by
 have S:=QeF
 refine fnT F S rfl (by first | exact .inl rfl | exact .inr rfl) fun cdv A outer s H E C hC hr hd=>?_
 have hown:=Qcw (P:=P) (w:=w) (K:=z.K) (mg:=mg) (base:=base) (N:=["self"]) (qual := "Floor.places") (scope:=Qac QbJ) (f:=f) (cd:=cdv) (A:=A) (outer:=outer) (s:=s) (H:=H) (E:=E)
 unfold Qcf
 exact (Qaq (QaP (QaO (spk D_places_of hC) Qai (hr.mono (by decide)) (Qaa (Qgz con.cl_Floor con.na_Floor_losses (xv 0)) Qad))))
abbrev QcH:Stmt:=top 17
theorem QgK:Qak ["value","end"] ["value","end"] (Qac QcH):=⟨rfl,rfl,rfl,by decide +kernel,rfl,by decide +kernel,by decide +kernel⟩
theorem QgS {f:Addr}{fd:FuncData}(F:Fun z.K "is_within" "is_within" QcH f fd)(T:Txt mg)(con:Con mg z)(D_is_whole:Qaf P w z.K mg base 1 "is_whole" ["value"] (spF z.K [false] .V (Qby z))):FnOk P w z.K mg base (CXe P w) 2 f fd ["value","end"] (spF z.K [false,false] .V (Qa5 z)):=by
 have S:=QgK
 refine fnT F S rfl (by first | exact .inl rfl | exact .inr rfl) fun cdv A outer s H E C hC hr hd=>?_
 have hown:=Qcw (P:=P) (w:=w) (K:=z.K) (mg:=mg) (base:=base) (N:=["value","end"]) (qual := "is_within") (scope:=Qac QcH) (f:=f) (cd:=cdv) (A:=A) (outer:=outer) (s:=s) (H:=H) (E:=E)
 unfold Qdz
 exact (Qaq (QaP (QlI (QaO (spk D_is_whole hC) Qai (hr.mono (by decide)) (Qaa (xv 0) Qad)) (QkM (QlT Qn9 QjO dLe dLt Qae (xv 0) (xv 1))))))
abbrev Qdf:Stmt:=top 19
theorem QhO:Qak ["listed"] ["listed"] (Qac Qdf):=⟨rfl,rfl,rfl,by decide +kernel,rfl,by decide +kernel,by decide +kernel⟩
theorem QhY {f:Addr}{fd:FuncData}(F:Fun z.K "is_sized" "is_sized" Qdf f fd)(T:Txt mg)(con:Con mg z)(D_is_listed:Qaf P w z.K mg base 1 "is_listed" ["value"] (spF z.K [false] .V (QaC z))):FnOk P w z.K mg base (CXe P w) 2 f fd ["listed"] (spF z.K [false] .V (Qbn z)):=by
 have S:=QhO
 refine fnT F S rfl (by first | exact .inl rfl | exact .inr rfl) fun cdv A outer s H E C hC hr hd=>?_
 have hown:=Qcw (P:=P) (w:=w) (K:=z.K) (mg:=mg) (base:=base) (N:=["listed"]) (qual := "is_sized") (scope:=Qac Qdf) (f:=f) (cd:=cdv) (A:=A) (outer:=outer) (s:=s) (H:=H) (E:=E)
 unfold Qd8
 exact (Qaq (QaP (QlI (QaO (spk D_is_listed hC) Qai (hr.mono (by decide)) (Qaa (xv 0) Qad)) (QkM (QlT Qn9 Qn9 dLe dLe Qae (Qav QaI (QgW hC) T.len PySem.boot_len (Qaa (xv 0) Qad)) (Qll (d:=.int 30) rfl ⟨_,rfl⟩ con.k_MOST))))))
abbrev Qbu:Stmt:=top 25
theorem Qef:Qak ["row"] ["row"] (Qac Qbu):=⟨rfl,rfl,rfl,by decide +kernel,rfl,by decide +kernel,by decide +kernel⟩
theorem Qei {f:Addr}{fd:FuncData}(F:Fun z.K "check_numbers" "check_numbers" Qbu f fd)(T:Txt mg)(con:Con mg z)(D_is_whole:Qaf P w z.K mg base 1 "is_whole" ["value"] (spF z.K [false] .V (Qby z))):FnOk P w z.K mg base (CXe P w) 2 f fd ["row"] (spF z.K [false] .V (Qa3 z)):=by
 have S:=Qef
 refine fnT F S rfl (by first | exact .inl rfl | exact .inr rfl) fun cdv A outer s H E C hC hr hd=>?_
 have hown:=Qcw (P:=P) (w:=w) (K:=z.K) (mg:=mg) (base:=base) (N:=["row"]) (qual := "check_numbers") (scope:=Qac Qbu) (f:=f) (cd:=cdv) (A:=A) (outer:=outer) (s:=s) (H:=H) (E:=E)
 unfold QbZ
 exact (Qaq (Qee (Qco (Qca (Qav (Qfa rfl) (Quj hC) T.all_ QmB (Qaa (Qf2 (Qb3 (p:=true) (par:=false) (cs:=[.me]) (N:=["value"]) (j:=0) hC rfl Blk.of rfl rfl rfl (Qbb hC (xv 0)) (fun _ _ _ _ _=>Qc7) (fun _ _ _ _ _=>Qdq fun Cb hb=>(Qcu (QaO (spk D_is_whole hb) QdW (hr.mono (by decide)) (Qaa (xv 0) Qad)))))) Qad)))) (Qaq (Qdu hd con.x_NoLights con.g_NoLights (Qaa Qey Qad))) QbW))
abbrev QiV:Stmt:=top 28
theorem Qn4:Qak ["floor","rows","start","place"] ["floor","rows","start"] (Qac QiV):=⟨rfl,rfl,rfl,by decide +kernel,rfl,by decide +kernel,by decide +kernel⟩
theorem Qod {f:Addr}{fd:FuncData}(F:Fun z.K "lift" "lift" QiV f fd)(T:Txt mg)(con:Con mg z)(D_Floor_is_wall:Qas P w z.K mg base z.c_Floor 1 "is_wall" ["self","place"] (spF z.K [false,false] .V (Qay z)))(D_number_at:Qaf P w z.K mg base 1 "number_at" ["rows","place"] (spF z.K [false,false] .V (Qat z))):FnOk P w z.K mg base (CXe P w) 2 f fd ["floor","rows","start"] (spF z.K [false,true,false] .V (Qg9 z)):=by
 have S:=Qn4
 refine fnT F S rfl (by first | exact .inl rfl | exact .inr rfl) fun cdv A outer s H E C hC hr hd=>?_
 have hown:=Qcw (P:=P) (w:=w) (K:=z.K) (mg:=mg) (base:=base) (N:=["floor","rows","start","place"]) (qual := "lift") (scope:=Qac QiV) (f:=f) (cd:=cdv) (A:=A) (outer:=outer) (s:=s) (H:=H) (E:=E)
 unfold QkW
 exact (Qah (QaE (i:=3) S.nd rfl (by first | exact Or.inl rfl | exact Or.inr rfl) (QaH hC (xv 2) Qae))
  (Qaq (Qee (Qco (Qca (x_m (QhR D_Floor_is_wall hC) con.cl_Floor Qai (hr.mono (by decide)) (xv 0) (Qaa (xv 3) Qad)))) (Qaq (Qjc (i:=1) hC (Qcu (Qav (QdG rfl) dI2 T.max_ Qc9 (Qaa (QaH hC (xv 2) Qae) (Qaa (QaO (spk D_number_at hC) Qai (hr.mono (by decide)) (Qaa (xb 1) (Qaa (xv 3) Qad))) Qad)))) (hg:=QhA (QmY ix_list (pv 1) (QaH hC (xv 3) Qae) (fun _ _=>rfl)) (QaH hC (xv 3) Qae) QdR))) QbW)))
abbrev Qel:Stmt:=top 33
theorem Qkk:Qak ["before","behind"] ["before","behind"] (Qac Qel):=⟨rfl,rfl,rfl,by decide +kernel,rfl,by decide +kernel,by decide +kernel⟩
theorem QjX {f:Addr}{fd:FuncData}(F:Fun z.K "unlike" "unlike" Qel f fd)(T:Txt mg)(con:Con mg z)(D_places_of:Qaf P w z.K mg base 1 "places_of" ["rows"] (spF z.K [false] .O (Qa6 z)))(D_number_at:Qaf P w z.K mg base 1 "number_at" ["rows","place"] (spF z.K [false,false] .V (Qat z))):FnOk P w z.K mg base (CXe P w) 2 f fd ["before","behind"] (spF z.K [false,false] .O (QdS z)):=by
 have S:=Qkk
 refine fnT F S rfl (by first | exact .inl rfl | exact .inr rfl) fun cdv A outer s H E C hC hr hd=>?_
 have hown:=Qcw (P:=P) (w:=w) (K:=z.K) (mg:=mg) (base:=base) (N:=["before","behind"]) (qual := "unlike") (scope:=Qac Qel) (f:=f) (cd:=cdv) (A:=A) (outer:=outer) (s:=s) (H:=H) (E:=E)
 unfold QfL
 exact (Qaq (QaP (Qb3 (p:=true) (par:=false) (cs:=[.me,.fz 0,.fz 1]) (N:=["place","before","behind"]) (j:=0) hC rfl Blk.of rfl rfl rfl (Qbb hC (Qf2 (QaO (spk D_places_of hC) Qai (hr.mono (by decide)) (Qaa (xv 0) Qad)))) (fun _ _ _ _ _=>QgY fun Cb hb=>(Qa4 (Qfp (Qf9 hr)) (QpU hb) (QaO (spk D_number_at hb) QdW (hr.mono (by decide)) (Qaa (xv 1) (Qaa (xv 0) Qad))) (QaO (spk D_number_at hb) QdW (hr.mono (by decide)) (Qaa (xv 2) (Qaa (xv 0) Qad))) (QaM _))) (fun _ _ _ _ _=>Qdq fun Cb hb=>(Qcu (xv 0))))))
abbrev Qb9:Stmt:=top 37
theorem Qge:Qak ["_law_script","_law_k","_law_cell_here"] ["_law_script","_law_k"] (Qac Qb9):=⟨rfl,rfl,rfl,by decide +kernel,rfl,by decide +kernel,by decide +kernel⟩
theorem Qgo {f:Addr}{fd:FuncData}(F:Fun z.K "_law_purse" "_law_purse" Qb9 f fd)(T:Txt mg)(con:Con mg z)(D__law_cell:Qaf P w z.K mg base 1 "_law_cell" ["_law_script","_law_k"] (spF z.K [false,false] .V (Qb5 z)))(D__law_rich:Qaf P w z.K mg base 1 "_law_rich" ["_law_cell_here"] (spF z.K [false] .V (QaV z))):FnOk P w z.K mg base (CXe P w) 2 f fd ["_law_script","_law_k"] (spF z.K [false,false] .O (QaQ z)):=by
 have S:=Qge
 refine fnT F S rfl (by first | exact .inl rfl | exact .inr rfl) fun cdv A outer s H E C hC hr hd=>?_
 have hown:=Qcw (P:=P) (w:=w) (K:=z.K) (mg:=mg) (base:=base) (N:=["_law_script","_law_k","_law_cell_here"]) (qual := "_law_purse") (scope:=Qac Qb9) (f:=f) (cd:=cdv) (A:=A) (outer:=outer) (s:=s) (H:=H) (E:=E)
 unfold QcY
 exact (Qah (QaE (i:=2) S.nd rfl (by first | exact Or.inl rfl | exact Or.inr rfl) (QaO (spk D__law_cell hC) Qai (hr.mono (by decide)) (Qaa (xv 0) (Qaa (xv 1) Qad))))
  (Qah (Qee (Qa4 QjO dLt (xv 2) (QbH Qha Qrw Qae Qae) (QaM _)) (Qaq (QaP (QeV (Qaa (QaO (spk D__law_rich hC) Qai (hr.mono (by decide)) (Qaa (QbH Qbo Qfj (xv 2) (QbH Qc5 Qlo Qae (xv 1))) Qad)) (Qaa (xv 1) Qad))))) QbW)
  (Qaq (QaP (QeV (Qaa (xv 2) (Qaa (xv 1) Qad)))))))
abbrev QcN:Stmt:=top 38
theorem Qg5:Qak ["_law_purse_here","_law_many","_law_found"] ["_law_purse_here","_law_many"] (Qac QcN):=⟨rfl,rfl,rfl,by decide +kernel,rfl,by decide +kernel,by decide +kernel⟩
theorem QgG {f:Addr}{fd:FuncData}(F:Fun z.K "_law_take" "_law_take" QcN f fd)(T:Txt mg)(con:Con mg z)(D__law_rich:Qaf P w z.K mg base 1 "_law_rich" ["_law_cell_here"] (spF z.K [false] .V (QaV z))):FnOk P w z.K mg base (CXe P w) 2 f fd ["_law_purse_here","_law_many"] (spF z.K [true,false] .V (Qam z)):=by
 have S:=Qg5
 refine fnT F S rfl (by first | exact .inl rfl | exact .inr rfl) fun cdv A outer s H E C hC hr hd=>?_
 have hown:=Qcw (P:=P) (w:=w) (K:=z.K) (mg:=mg) (base:=base) (N:=["_law_purse_here","_law_many","_law_found"]) (qual := "_law_take") (scope:=Qac QcN) (f:=f) (cd:=cdv) (A:=A) (outer:=outer) (s:=s) (H:=H) (E:=E)
 unfold Qdv
 exact (Qah (Qee (Qa4 (Qcq (Qf9 hr)) (Qju hC) (QhN hC (xb 0) Qae) Qae (QaM _)) (Qah (QhV (i:=0) hC rfl (by first | exact Or.inl rfl | exact Or.inr (Or.inl rfl) | exact Or.inr (Or.inr rfl)) (Qcu (QbH Qbo Qfj (QhN hC (xb 0) Qae) Qae)) Qae (hg:=QhA (pv 0) Qae QdR))
  (Qaq (QhV (i:=0) hC rfl (by first | exact Or.inl rfl | exact Or.inr (Or.inl rfl) | exact Or.inr (Or.inr rfl)) (Qcu (QaO (spk D__law_rich hC) Qai (hr.mono (by decide)) (Qaa (QhN hC (xb 0) Qae) Qad))) Qae (hg:=QhA (pv 0) Qae QdR)))) QbW)
  (Qah (QaE (i:=2) S.nd rfl (by first | exact Or.inl rfl | exact Or.inr rfl) (QbH Qec QnO (QhN hC (xb 0) Qae) (xv 1)))
  (Qah (QhV (i:=0) hC rfl (by first | exact Or.inl rfl | exact Or.inr (Or.inl rfl) | exact Or.inr (Or.inr rfl)) (Qcu (QbH QfO QsQ (QhN hC (xb 0) Qae) (xv 1))) Qae (hg:=QhA (pv 0) Qae QdR))
  (Qaq (QaP (xv 2))))))
abbrev QcA:Stmt:=QcQ (top 14) 9
theorem QhF:Qak ["self","place"] ["self","place"] (Qac QcA):=⟨rfl,rfl,rfl,by decide +kernel,rfl,by decide +kernel,by decide +kernel⟩
theorem QgB {f:Addr}{fd:FuncData}(F:Fun z.K "has" "Floor.has" QcA f fd)(T:Txt mg)(con:Con mg z)(D_Floor_high:Qas P w z.K mg base z.c_Floor 1 "high" ["self"] (spF z.K [false] .V (Qa8 z)))(D_Floor_wide:Qas P w z.K mg base z.c_Floor 1 "wide" ["self"] (spF z.K [false] .V (Qa1 z)))(D_is_pair:Qaf P w z.K mg base 2 "is_pair" ["value"] (spF z.K [false] .V (Qb0 z)))(D_is_within:Qaf P w z.K mg base 2 "is_within" ["value","end"] (spF z.K [false,false] .V (Qa5 z))):FnOk P w z.K mg base (CXe P w) 3 f fd ["self","place"] (spF z.K [false,false] .V (Qbh z)):=by
 have S:=QhF
 refine fnT F S rfl (by first | exact .inl rfl | exact .inr rfl) fun cdv A outer s H E C hC hr hd=>?_
 have hown:=Qcw (P:=P) (w:=w) (K:=z.K) (mg:=mg) (base:=base) (N:=["self","place"]) (qual := "Floor.has") (scope:=Qac QcA) (f:=f) (cd:=cdv) (A:=A) (outer:=outer) (s:=s) (H:=H) (E:=E)
 unfold QdA
 exact (Qah (Qee (Qco (Qca (QaO (spk D_is_pair hC) Qai (hr.mono (by decide)) (Qaa (xv 1) Qad)))) (Qaq (QaP QkX)) QbW)
  (Qaq (QaP (QlI (QaO (spk D_is_within hC) Qai (hr.mono (by decide)) (Qaa (QaH hC (xv 1) Qae) (Qaa (Qq9 (QhR D_Floor_high hC) con.cl_Floor Qai (hr.mono (by decide)) (xv 0)) Qad))) (QkM (QaO (spk D_is_within hC) Qai (hr.mono (by decide)) (Qaa (QaH hC (xv 1) Qae) (Qaa (Qq9 (QhR D_Floor_wide hC) con.cl_Floor Qai (hr.mono (by decide)) (xv 0)) Qad))))))))
abbrev QbG:Stmt:=top 18
theorem QeT:Qak ["rows","row"] ["rows"] (Qac QbG):=⟨rfl,rfl,rfl,by decide +kernel,rfl,by decide +kernel,by decide +kernel⟩
theorem Qeu {f:Addr}{fd:FuncData}(F:Fun z.K "is_rectangle" "is_rectangle" QbG f fd)(T:Txt mg)(con:Con mg z)(D_is_sized:Qaf P w z.K mg base 2 "is_sized" ["listed"] (spF z.K [false] .V (Qbn z))):FnOk P w z.K mg base (CXe P w) 3 f fd ["rows"] (spF z.K [false] .V (Qbf z)):=by
 have S:=QeT
 refine fnT F S rfl (by first | exact .inl rfl | exact .inr rfl) fun cdv A outer s H E C hC hr hd=>?_
 have hown:=Qcw (P:=P) (w:=w) (K:=z.K) (mg:=mg) (base:=base) (N:=["rows","row"]) (qual := "is_rectangle") (scope:=Qac QbG) (f:=f) (cd:=cdv) (A:=A) (outer:=outer) (s:=s) (H:=H) (E:=E)
 unfold Qcg
 exact (Qah (Qee (Qco (Qca (QaO (spk D_is_sized hC) Qai (hr.mono (by decide)) (Qaa (xv 0) Qad)))) (Qaq (QaP QkX)) QbW)
  (Qah (Qd6 hown rfl (Qbb hC (xv 0)) (QaA (i:=1) S.nd rfl (by first | exact Or.inl rfl | exact Or.inr rfl)) QcS (Qaq (Qee (PW.pt (Qj8 (Qco (Qca (QaO (spk D_is_sized hC) Qai (hr.mono (by decide)) (Qaa (xv 1) Qad)))) (QmP (Qa4 (Qfp (Qf9 hr)) (QpU hC) (Qav QaI (QgW hC) T.len PySem.boot_len (Qaa (xv 1) Qad)) (Qav QaI (QgW hC) T.len PySem.boot_len (Qaa (QaH hC (xv 0) Qae) Qad)) (QaM _))))) (Qaq (QaP QkX)) QbW)))
  (Qaq (QaP QkX))))
abbrev QdP:Stmt:=top 21
theorem Qji:Qak ["value"] ["value"] (Qac QdP):=⟨rfl,rfl,rfl,by decide +kernel,rfl,by decide +kernel,by decide +kernel⟩
theorem Qjk {f:Addr}{fd:FuncData}(F:Fun z.K "is_loss" "is_loss" QdP f fd)(T:Txt mg)(con:Con mg z)(D_is_within:Qaf P w z.K mg base 2 "is_within" ["value","end"] (spF z.K [false,false] .V (Qa5 z))):FnOk P w z.K mg base (CXe P w) 3 f fd ["value"] (spF z.K [false] .V (Qdb z)):=by
 have S:=Qji
 refine fnT F S rfl (by first | exact .inl rfl | exact .inr rfl) fun cdv A outer s H E C hC hr hd=>?_
 have hown:=Qcw (P:=P) (w:=w) (K:=z.K) (mg:=mg) (base:=base) (N:=["value"]) (qual := "is_loss") (scope:=Qac QdP) (f:=f) (cd:=cdv) (A:=A) (outer:=outer) (s:=s) (H:=H) (E:=E)
 unfold QeL
 exact (Qaq (QaP (QaO (spk D_is_within hC) Qai (hr.mono (by decide)) (Qaa (xv 0) (Qaa (QbH Qha Qrw Qae Qae) Qad)))))
abbrev Qcb:Stmt:=top 24
theorem Qfz:Qak ["floor","rows","row"] ["floor","rows"] (Qac Qcb):=⟨rfl,rfl,rfl,by decide +kernel,rfl,by decide +kernel,by decide +kernel⟩
theorem Qgk {f:Addr}{fd:FuncData}(F:Fun z.K "check_rows" "check_rows" Qcb f fd)(T:Txt mg)(con:Con mg z)(D_is_listed:Qaf P w z.K mg base 1 "is_listed" ["value"] (spF z.K [false] .V (QaC z)))(D_Floor_high:Qas P w z.K mg base z.c_Floor 1 "high" ["self"] (spF z.K [false] .V (Qa8 z)))(D_Floor_wide:Qas P w z.K mg base z.c_Floor 1 "wide" ["self"] (spF z.K [false] .V (Qa1 z)))(D_check_numbers:Qaf P w z.K mg base 2 "check_numbers" ["row"] (spF z.K [false] .V (Qa3 z))):FnOk P w z.K mg base (CXe P w) 3 f fd ["floor","rows"] (spF z.K [false,false] .V (QbO z)):=by
 have S:=Qfz
 refine fnT F S rfl (by first | exact .inl rfl | exact .inr rfl) fun cdv A outer s H E C hC hr hd=>?_
 have hown:=Qcw (P:=P) (w:=w) (K:=z.K) (mg:=mg) (base:=base) (N:=["floor","rows","row"]) (qual := "check_rows") (scope:=Qac Qcb) (f:=f) (cd:=cdv) (A:=A) (outer:=outer) (s:=s) (H:=H) (E:=E)
 unfold Qc2
 exact (Qah (Qee (PW.pt (Qj8 (Qco (Qca (QaO (spk D_is_listed hC) Qai (hr.mono (by decide)) (Qaa (xv 1) Qad)))) (QmP (Qa4 (Qfp (Qf9 hr)) (QpU hC) (Qav QaI (QgW hC) T.len PySem.boot_len (Qaa (xv 1) Qad)) (Qq9 (QhR D_Floor_high hC) con.cl_Floor Qai (hr.mono (by decide)) (xv 0)) (QaM _))))) (Qaq (Qdu hd con.x_NoLights con.g_NoLights (Qaa Qey Qad))) QbW)
  (Qaq (Qd6 hown rfl (Qbb hC (xv 1)) (QaA (i:=2) S.nd rfl (by first | exact Or.inl rfl | exact Or.inr rfl)) QcS (Qah (Qee (PW.pt (Qj8 (Qco (Qca (QaO (spk D_is_listed hC) Qai (hr.mono (by decide)) (Qaa (xv 2) Qad)))) (QmP (Qa4 (Qfp (Qf9 hr)) (QpU hC) (Qav QaI (QgW hC) T.len PySem.boot_len (Qaa (xv 2) Qad)) (Qq9 (QhR D_Floor_wide hC) con.cl_Floor Qai (hr.mono (by decide)) (xv 0)) (QaM _))))) (Qaq (Qdu hd con.x_NoLights con.g_NoLights (Qaa Qey Qad))) QbW)
  (Qaq (Qds (QaO (spk D_check_numbers hC) Qai (hr.mono (by decide)) (Qaa (xv 2) Qad))))))))
abbrev Qeq:Stmt:=top 29
theorem Qle:Qak ["floor","rows","least","places"] ["floor","rows"] (Qac Qeq):=⟨rfl,rfl,rfl,by decide +kernel,rfl,by decide +kernel,by decide +kernel⟩
theorem Qk9 {f:Addr}{fd:FuncData}(F:Fun z.K "givers" "givers" Qeq f fd)(T:Txt mg)(con:Con mg z)(D_Floor_is_wall:Qas P w z.K mg base z.c_Floor 1 "is_wall" ["self","place"] (spF z.K [false,false] .V (Qay z)))(D_number_at:Qaf P w z.K mg base 1 "number_at" ["rows","place"] (spF z.K [false,false] .V (Qat z)))(D_Floor_places:Qas P w z.K mg base z.c_Floor 2 "places" ["self"] (spF z.K [false] .O (Qbc z))):FnOk P w z.K mg base (CXe P w) 3 f fd ["floor","rows"] (spF z.K [false,false] .O (QdL z)):=by
 have S:=Qle
 refine fnT F S rfl (by first | exact .inl rfl | exact .inr rfl) fun cdv A outer s H E C hC hr hd=>?_
 have hown:=Qcw (P:=P) (w:=w) (K:=z.K) (mg:=mg) (base:=base) (N:=["floor","rows","least","places"]) (qual := "givers") (scope:=Qac Qeq) (f:=f) (cd:=cdv) (A:=A) (outer:=outer) (s:=s) (H:=H) (E:=E)
 unfold QfF
 exact (Qah (QaE (i:=2) S.nd rfl (by first | exact Or.inl rfl | exact Or.inr rfl) (Qav (Qhf rfl) (QqI hC) T.min_ QeX (Qaa (Qf2 (Qb3 (p:=true) (par:=false) (cs:=[.me]) (N:=["row"]) (j:=0) hC rfl Blk.of rfl rfl rfl (Qbb hC (xv 1)) (fun _ _ _ _ _=>Qc7) (fun _ _ _ _ _=>Qdq fun Cb hb=>(Qcu (Qav (Qhf rfl) (QqI hb) T.min_ QeX (Qaa (xv 0) Qad)))))) Qad)))
  (Qah (QlJ (i0:=3) (par:=false) (cs:=[.me,.fz 0]) (N:=["place","floor"]) (j:=0) hC rfl S.nd rfl (by first | exact Or.inl rfl | exact Or.inr rfl) Blk.of rfl rfl rfl (Qbb hC (Qf2 (Qq9 (QhR D_Floor_places hC) con.cl_Floor Qai (hr.mono (by decide)) (xv 0)))) (fun _ _ _ _ _=>QgY fun Cb hb=>(Qco (Qca (x_m (QhR D_Floor_is_wall hb) con.cl_Floor QdW (hr.mono (by decide)) (xv 1) (Qaa (xv 0) Qad))))) (fun _ _ _ _ _=>Qdq fun Cb hb=>(Qcu (xv 0))))
  (Qaq (QaP (Qnc (hu3 hr) hC T.sorted QgL (Qaa (Qf2 (Qb3 (p:=true) (par:=false) (cs:=[.me,.fz 1,.fz 2]) (N:=["place","rows","least"]) (j:=0) hC rfl Blk.of rfl rfl rfl (Qbb hC (xv 3)) (fun _ _ _ _ _=>QgY fun Cb hb=>(Qa4 Qoh dGt (QaO (spk D_number_at hb) QdW (hr.mono (by decide)) (Qaa (xv 1) (Qaa (xv 0) Qad))) (xv 2) (QaM _))) (fun _ _ _ _ _=>Qdq fun Cb hb=>(Qcu (QbM (Qaa (QaO (spk D_number_at hb) QdW (hr.mono (by decide)) (Qaa (xv 1) (Qaa (xv 0) Qad))) (Qaa (xv 0) Qad))))))) Qad))))))
abbrev QbU:Stmt:=top 39
theorem Qfh:Qak ["_law_purse_here"] ["_law_purse_here"] (Qac QbU):=⟨rfl,rfl,rfl,by decide +kernel,rfl,by decide +kernel,by decide +kernel⟩
theorem Qfc {f:Addr}{fd:FuncData}(F:Fun z.K "_law_number" "_law_number" QbU f fd)(T:Txt mg)(con:Con mg z)(D__law_take:Qaf P w z.K mg base 2 "_law_take" ["_law_purse_here","_law_many"] (spF z.K [true,false] .V (Qam z))):FnOk P w z.K mg base (CXe P w) 3 f fd ["_law_purse_here"] (spF z.K [true] .V (QaS z)):=by
 have S:=Qfh
 refine fnT F S rfl (by first | exact .inl rfl | exact .inr rfl) fun cdv A outer s H E C hC hr hd=>?_
 have hown:=Qcw (P:=P) (w:=w) (K:=z.K) (mg:=mg) (base:=base) (N:=["_law_purse_here"]) (qual := "_law_number") (scope:=Qac QbU) (f:=f) (cd:=cdv) (A:=A) (outer:=outer) (s:=s) (H:=H) (E:=E)
 unfold QcR
 exact (Qah (Qee (Qa4 (Qcq (Qf9 hr)) (Qju hC) (Qfd (par:=true) (as:=[some 0,none]) (p:=false) (spk D__law_take hC) Qai (hr.mono (by decide)) (Qaa (xs 0) (Qaa Qae Qad))) Qae (QaM _)) (Qaq (QaP (Qfd (par:=true) (as:=[some 0,none]) (p:=false) (spk D__law_take hC) Qai (hr.mono (by decide)) (Qaa (xs 0) (Qaa (QbH Qha Qrw Qae Qae) Qad))))) QbW)
  (Qaq (QaP (Qfd (par:=true) (as:=[some 0,none]) (p:=false) (spk D__law_take hC) Qai (hr.mono (by decide)) (Qaa (xs 0) (Qaa Qae Qad))))))
abbrev QcK:Stmt:=top 40
theorem Qht:Qak ["_law_purse_here","_law_way"] ["_law_purse_here"] (Qac QcK):=⟨rfl,rfl,rfl,by decide +kernel,rfl,by decide +kernel,by decide +kernel⟩
theorem QgZ {f:Addr}{fd:FuncData}(F:Fun z.K "_law_loss" "_law_loss" QcK f fd)(T:Txt mg)(con:Con mg z)(D__law_take:Qaf P w z.K mg base 2 "_law_take" ["_law_purse_here","_law_many"] (spF z.K [true,false] .V (Qam z))):FnOk P w z.K mg base (CXe P w) 3 f fd ["_law_purse_here"] (spF z.K [true] .V (Qbl z)):=by
 have S:=Qht
 refine fnT F S rfl (by first | exact .inl rfl | exact .inr rfl) fun cdv A outer s H E C hC hr hd=>?_
 have hown:=Qcw (P:=P) (w:=w) (K:=z.K) (mg:=mg) (base:=base) (N:=["_law_purse_here","_law_way"]) (qual := "_law_loss") (scope:=Qac QcK) (f:=f) (cd:=cdv) (A:=A) (outer:=outer) (s:=s) (H:=H) (E:=E)
 unfold Qdw
 exact (Qah (QaE (i:=1) S.nd rfl (by first | exact Or.inl rfl | exact Or.inr rfl) (Qfd (par:=true) (as:=[some 0,none]) (p:=false) (spk D__law_take hC) Qai (hr.mono (by decide)) (Qaa (xs 0) (Qaa Qae Qad))))
  (Qah (Qee (Qa4 QjO dLt (xv 1) Qae (QaM _)) (Qaq (QaP Qae)) QbW)
  (Qah (Qee (Qa4 QjO dLt (xv 1) Qae (QaM _)) (Qaq (QaP Qae)) QbW)
  (Qah (Qee (Qa4 (Qcq (Qf9 hr)) (Qju hC) (xv 1) Qae (QaM _)) (Qaq (QaP (QbH Qbo Qfj Qae (Qfd (par:=true) (as:=[some 0,none]) (p:=false) (spk D__law_take hC) Qai (hr.mono (by decide)) (Qaa (xs 0) (Qaa Qae Qad)))))) QbW)
  (Qah (Qee (Qa4 (Qcq (Qf9 hr)) (Qju hC) (xv 1) Qae (QaM _)) (Qaq (QaP (QbH Qbo Qfj Qae (Qfd (par:=true) (as:=[some 0,none]) (p:=false) (spk D__law_take hC) Qai (hr.mono (by decide)) (Qaa (xs 0) (Qaa Qae Qad)))))) QbW)
  (Qaq (QaP (QbH Qbo Qfj Qae (Qfd (par:=true) (as:=[some 0,none]) (p:=false) (spk D__law_take hC) Qai (hr.mono (by decide)) (Qaa (xs 0) (Qaa (QbH QeJ Qpd (QbH Qha Qrw Qae Qae) Qae) Qad)))))))))))
abbrev QaT:Stmt:=QcQ (top 14) 10
theorem Qdm:Qak ["self","place"] ["self","place"] (Qac QaT):=⟨rfl,rfl,rfl,by decide +kernel,rfl,by decide +kernel,by decide +kernel⟩
theorem Qdr {f:Addr}{fd:FuncData}(F:Fun z.K "check_place" "Floor.check_place" QaT f fd)(T:Txt mg)(con:Con mg z)(D_Floor_has:Qas P w z.K mg base z.c_Floor 3 "has" ["self","place"] (spF z.K [false,false] .V (Qbh z))):FnOk P w z.K mg base (CXe P w) 4 f fd ["self","place"] (spF z.K [false,false] .V (Qar z)):=by
 have S:=Qdm
 refine fnT F S rfl (by first | exact .inl rfl | exact .inr rfl) fun cdv A outer s H E C hC hr hd=>?_
 have hown:=Qcw (P:=P) (w:=w) (K:=z.K) (mg:=mg) (base:=base) (N:=["self","place"]) (qual := "Floor.check_place") (scope:=Qac QaT) (f:=f) (cd:=cdv) (A:=A) (outer:=outer) (s:=s) (H:=H) (E:=E)
 unfold Qbi
 exact (Qaq (Qee (Qco (Qca (x_m (QhR D_Floor_has hC) con.cl_Floor Qai (hr.mono (by decide)) (xv 0) (Qaa (xv 1) Qad)))) (Qaq (Qdu hd con.x_NoPlace con.g_NoPlace (Qaa Qey Qad))) QbW))
abbrev QbI:Stmt:=top 20
theorem QeK:Qak ["row","value"] ["row"] (Qac QbI):=⟨rfl,rfl,rfl,by decide +kernel,rfl,by decide +kernel,by decide +kernel⟩
theorem QeH {f:Addr}{fd:FuncData}(F:Fun z.K "check_losses" "check_losses" QbI f fd)(T:Txt mg)(con:Con mg z)(D_is_loss:Qaf P w z.K mg base 3 "is_loss" ["value"] (spF z.K [false] .V (Qdb z))):FnOk P w z.K mg base (CXe P w) 4 f fd ["row"] (spF z.K [false] .V (Qbd z)):=by
 have S:=QeK
 refine fnT F S rfl (by first | exact .inl rfl | exact .inr rfl) fun cdv A outer s H E C hC hr hd=>?_
 have hown:=Qcw (P:=P) (w:=w) (K:=z.K) (mg:=mg) (base:=base) (N:=["row","value"]) (qual := "check_losses") (scope:=Qac QbI) (f:=f) (cd:=cdv) (A:=A) (outer:=outer) (s:=s) (H:=H) (E:=E)
 unfold Qck
 exact (Qaq (Qd6 hown rfl (Qbb hC (xv 0)) (QaA (i:=1) S.nd rfl (by first | exact Or.inl rfl | exact Or.inr rfl)) QcS (Qaq (Qee (Qco (Qca (QaO (spk D_is_loss hC) Qai (hr.mono (by decide)) (Qaa (xv 1) Qad)))) (Qaq (Qdu hd con.x_NoLoss con.g_NoLoss (Qaa Qey Qad))) QbW))))
abbrev Qcz:Stmt:=top 42
theorem QgT:Qak ["_law_purse_here","_law_script","_law_high","_law_wide","_law_losses","_law_way","_law_r","_law_inner","_law_row","_law_columns"] ["_law_purse_here","_law_script"] (Qac Qcz):=⟨rfl,rfl,rfl,by decide +kernel,rfl,by decide +kernel,by decide +kernel⟩
theorem Qhe {f:Addr}{fd:FuncData}(F:Fun z.K "_law_long" "_law_long" Qcz f fd)(T:Txt mg)(con:Con mg z)(D__law_purse:Qaf P w z.K mg base 2 "_law_purse" ["_law_script","_law_k"] (spF z.K [false,false] .O (QaQ z)))(D__law_take:Qaf P w z.K mg base 2 "_law_take" ["_law_purse_here","_law_many"] (spF z.K [true,false] .V (Qam z)))(D__law_loss:Qaf P w z.K mg base 3 "_law_loss" ["_law_purse_here"] (spF z.K [true] .V (Qbl z))):FnOk P w z.K mg base (CXe P w) 4 f fd ["_law_purse_here","_law_script"] (spF z.K [true,false] .O (Qb2 z)):=by
 have S:=QgT
 refine fnT F S rfl (by first | exact .inl rfl | exact .inr rfl) fun cdv A outer s H E C hC hr hd=>?_
 have hown:=Qcw (P:=P) (w:=w) (K:=z.K) (mg:=mg) (base:=base) (N:=["_law_purse_here","_law_script","_law_high","_law_wide","_law_losses","_law_way","_law_r","_law_inner","_law_row","_law_columns"]) (qual := "_law_long") (scope:=Qac Qcz) (f:=f) (cd:=cdv) (A:=A) (outer:=outer) (s:=s) (H:=H) (E:=E)
 unfold QdC
 exact (Qah (QaE (i:=2) S.nd rfl (by first | exact Or.inl rfl | exact Or.inr rfl) (QbH Qbo Qfj Qae (Qfd (par:=true) (as:=[some 0,none]) (p:=false) (spk D__law_take hC) Qai (hr.mono (by decide)) (Qaa (xs 0) (Qaa Qae Qad)))))
  (Qah (QaE (i:=3) S.nd rfl (by first | exact Or.inl rfl | exact Or.inr rfl) (QbH Qbo Qfj Qae (Qfd (par:=true) (as:=[some 0,none]) (p:=false) (spk D__law_take hC) Qai (hr.mono (by decide)) (Qaa (xs 0) (Qaa Qae Qad)))))
  (Qah (QcV (i:=4) S.nd rfl (by first | exact Or.inl rfl | exact Or.inr rfl) (QeV Qad))
  (Qah (QcV (i:=5) S.nd rfl (by first | exact Or.inl rfl | exact Or.inr rfl) (QeV Qad))
  (Qah (Qd6 hown rfl (Qd5 T.range (Qaa (xv 2) Qad)) (QaA (i:=6) S.nd rfl (by first | exact Or.inl rfl | exact Or.inr rfl)) QcS (Qah (QcV (i:=7) S.nd rfl (by first | exact Or.inl rfl | exact Or.inr rfl) (QaO (spk D__law_purse hC) Qai (hr.mono (by decide)) (Qaa (xv 1) (Qaa (QbH Qbo Qfj Qae (xv 6)) Qad))))
  (Qah (QcV (i:=8) S.nd rfl (by first | exact Or.inl rfl | exact Or.inr rfl) (Qb3 (p:=false) (par:=false) (cs:=[.me,.io 7]) (N:=["_law_c","_law_inner"]) (j:=0) hC rfl Blk.of rfl rfl rfl (Qd5 T.range (Qaa (xv 3) Qad)) (fun _ _ _ _ _=>Qc7) (fun _ _ _ _ _=>Qdq fun Cb hb=>(Qcu (Qav (QdG rfl) dI2 T.max_ Qc9 (Qaa Qae (Qaa (Qfd (par:=true) (as:=[some 1]) (p:=false) (spk D__law_loss hb) QdW (hr.mono (by decide)) (Qaa (xs 1) Qad)) Qad)))))))
  (Qah (QaE (i:=9) S.nd rfl (by first | exact Or.inl rfl | exact Or.inr rfl) (Qf2 (QkC T.range T.list_ rfl (Qaa (xv 3) Qad))))
  (Qah (Qee (Qa4 (Qcq (Qf9 hr)) (Qju hC) (QbH Qec QnO (xv 6) Qae) Qae (QaM _)) (Qaq (QaE (i:=9) S.nd rfl (by first | exact Or.inl rfl | exact Or.inr rfl) (Qf2 (Qnr hC (xv 9))))) QbW)
  (Qah (Qee (Qa4 (Qcq (Qf9 hr)) (Qju hC) (QbH Qec QnO (xv 6) Qae) Qae (QaM _)) (Qah (QaE (i:=9) S.nd rfl (by first | exact Or.inl rfl | exact Or.inr rfl) (QkL (Qaa (QbH Qc5 Qlo (QbH QeJ Qpd (xv 3) Qae) (QiB QgP Qt7 T.int_ Qev (Qaa (Qj2 (Qcq (Qf9 hr)) (Qju hC) (QbH Qec QnO (xv 6) Qae) Qae (QaM _)) Qad))) Qad)))
  (Qaq (QcV (i:=8) S.nd rfl (by first | exact Or.inl rfl | exact Or.inr rfl) (Qb3 (p:=false) (par:=false) (cs:=[.me,.io 8,.fz 9]) (N:=["_law_c","_law_row","_law_columns"]) (j:=0) hC rfl Blk.of rfl rfl rfl (Qd5 T.range (Qaa (xv 3) Qad)) (fun _ _ _ _ _=>Qc7) (fun _ _ _ _ _=>Qdq fun Cb hb=>(Qcu (QbH Qc5 Qlo (QhN hb (xb 1) (xv 0)) (QiB QgP Qt7 T.int_ Qev (Qaa (Qj2 (Qcq (Qf9 hr)) (Qju hb) (xv 0) (QaH hb (xv 2) Qae) (QaM _)) Qad))))))))) QbW)
  (Qah (QqD (i:=5) hC rfl (by first | exact Or.inl rfl | exact Or.inr (Or.inl rfl) | exact Or.inr (Or.inr rfl)) (Qb3 (p:=true) (par:=false) (cs:=[.me,.fz 6]) (N:=["_law_c","_law_r"]) (j:=0) hC rfl Blk.of rfl rfl rfl (Qbb hC (xv 9)) (fun _ _ _ _ _=>Qc7) (fun _ _ _ _ _=>Qdq fun Cb hb=>(Qcu (QbM (Qaa (xv 1) (Qaa (xv 0) Qad)))))))
  (Qaq (Qrj (i:=4) hC rfl (by first | exact Or.inl rfl | exact Or.inr (Or.inl rfl) | exact Or.inr (Or.inr rfl)) (xo 8))))))))))
  (Qaq (QaP (Qnh (Qaa (xs 4) (Qaa (xs 5) Qad))))))))))
abbrev Qce:Stmt:=QcQ (top 14) 0
theorem QfX:Qak ["self","rows","row"] ["self","rows"] (Qac Qce):=⟨rfl,rfl,rfl,by decide +kernel,rfl,by decide +kernel,by decide +kernel⟩
theorem Qf8 {f:Addr}{fd:FuncData}(F:Fun z.K "__init__" "Floor.__init__" Qce f fd)(T:Txt mg)(con:Con mg z)(D_is_rectangle:Qaf P w z.K mg base 3 "is_rectangle" ["rows"] (spF z.K [false] .V (Qbf z)))(D_check_losses:Qaf P w z.K mg base 4 "check_losses" ["row"] (spF z.K [false] .V (Qbd z))):FnOk P w z.K mg base (CXe P w) 5 f fd ["self","rows"] (spI z.K z.c_Floor (Qbp z)):=by
 have S:=QfX
 refine fnI F S con.cl_Floor con.na_Floor_losses fun cdv A outer s H E C x hC hr hd=>?_
 have hown:=Qcw (P:=P) (w:=w) (K:=z.K) (mg:=mg) (base:=base) (N:=["self","rows","row"]) (qual := "Floor.__init__") (scope:=Qac Qce) (f:=f) (cd:=cdv) (A:=A) (outer:=outer) (s:=s) (H:=H) (E:=E)
 unfold QbL
 exact (QnI (Qee (Qco (Qca (QaO (spk D_is_rectangle hC) Qai (hr.mono (by decide)) (Qaa (xv 1) Qad)))) (Qaq (Qdu hd con.x_NoFloor con.g_NoFloor (Qaa Qey Qad))) QbW)
  (QnI (Qd6 hown rfl (Qbb hC (xv 1)) (QaA (i:=2) S.nd rfl (by first | exact Or.inl rfl | exact Or.inr rfl)) QcS (Qaq (Qds (QaO (spk D_check_losses hC) Qai (hr.mono (by decide)) (Qaa (xv 2) Qad)))))
  (QtN hC rfl (by first | exact Or.inl rfl | exact Or.inr (Or.inl rfl) | exact Or.inr (Or.inr rfl)) (Qjb T.tuple hC (Qaa (Qf2 (Qb3 (p:=true) (par:=false) (cs:=[.me]) (N:=["row"]) (j:=0) hC rfl Blk.of rfl rfl rfl (Qbb hC (xv 1)) (fun _ _ _ _ _=>Qc7) (fun _ _ _ _ _=>Qdq fun Cb hb=>(Qcu (Qjb T.tuple hb (Qaa (xv 0) Qad)))))) Qad)))))
abbrev Qb8:Stmt:=QcQ (top 14) 4
theorem Qgf:Qak ["self","place"] ["self","place"] (Qac Qb8):=⟨rfl,rfl,rfl,by decide +kernel,rfl,by decide +kernel,by decide +kernel⟩
theorem QfE {f:Addr}{fd:FuncData}(F:Fun z.K "loss" "Floor.loss" Qb8 f fd)(T:Txt mg)(con:Con mg z)(D_Floor_check_place:Qas P w z.K mg base z.c_Floor 4 "check_place" ["self","place"] (spF z.K [false,false] .V (Qar z))):FnOk P w z.K mg base (CXe P w) 5 f fd ["self","place"] (spF z.K [false,false] .V (QbQ z)):=by
 have S:=Qgf
 refine fnT F S rfl (by first | exact .inl rfl | exact .inr rfl) fun cdv A outer s H E C hC hr hd=>?_
 have hown:=Qcw (P:=P) (w:=w) (K:=z.K) (mg:=mg) (base:=base) (N:=["self","place"]) (qual := "Floor.loss") (scope:=Qac Qb8) (f:=f) (cd:=cdv) (A:=A) (outer:=outer) (s:=s) (H:=H) (E:=E)
 unfold Qc1
 exact (Qah (Qds (x_m (QhR D_Floor_check_place hC) con.cl_Floor Qai (hr.mono (by decide)) (xv 0) (Qaa (xv 1) Qad)))
  (Qaq (QaP (QaH hC (QaH hC (Qgz con.cl_Floor con.na_Floor_losses (xv 0)) (QaH hC (xv 1) Qae)) (QaH hC (xv 1) Qae)))))
abbrev QbE:Stmt:=QcQ (top 14) 5
theorem Qe7:Qak ["self","place"] ["self","place"] (Qac QbE):=⟨rfl,rfl,rfl,by decide +kernel,rfl,by decide +kernel,by decide +kernel⟩
theorem QeB {f:Addr}{fd:FuncData}(F:Fun z.K "beside" "Floor.beside" QbE f fd)(T:Txt mg)(con:Con mg z)(D_Floor_is_wall:Qas P w z.K mg base z.c_Floor 1 "is_wall" ["self","place"] (spF z.K [false,false] .V (Qay z)))(D_around:Qaf P w z.K mg base 1 "around" ["place"] (spF z.K [false] .O (QdV z)))(D_Floor_has:Qas P w z.K mg base z.c_Floor 3 "has" ["self","place"] (spF z.K [false,false] .V (Qbh z)))(D_Floor_check_place:Qas P w z.K mg base z.c_Floor 4 "check_place" ["self","place"] (spF z.K [false,false] .V (Qar z))):FnOk P w z.K mg base (CXe P w) 5 f fd ["self","place"] (spF z.K [false,false] .O (Qbe z)):=by
 have S:=Qe7
 refine fnT F S rfl (by first | exact .inl rfl | exact .inr rfl) fun cdv A outer s H E C hC hr hd=>?_
 have hown:=Qcw (P:=P) (w:=w) (K:=z.K) (mg:=mg) (base:=base) (N:=["self","place"]) (qual := "Floor.beside") (scope:=Qac QbE) (f:=f) (cd:=cdv) (A:=A) (outer:=outer) (s:=s) (H:=H) (E:=E)
 unfold Qch
 exact (Qah (Qds (x_m (QhR D_Floor_check_place hC) con.cl_Floor Qai (hr.mono (by decide)) (xv 0) (Qaa (xv 1) Qad)))
  (Qaq (QaP (Qb3 (p:=true) (par:=false) (cs:=[.me,.fz 0]) (N:=["near","self"]) (j:=0) hC rfl Blk.of rfl rfl rfl (Qbb hC (Qf2 (Qfd (par:=false) (as:=[none]) (p:=true) (spk D_around hC) Qai (hr.mono (by decide)) (Qaa (xv 1) Qad)))) (fun _ _ _ _ _=>QgY fun Cb hb=>(PW.pt (Qpl (Qca (x_m (QhR D_Floor_has hb) con.cl_Floor QdW (hr.mono (by decide)) (xv 1) (Qaa (xv 0) Qad))) (QmP (Qco (Qca (x_m (QhR D_Floor_is_wall hb) con.cl_Floor QdW (hr.mono (by decide)) (xv 1) (Qaa (xv 0) Qad)))))))) (fun _ _ _ _ _=>Qdq fun Cb hb=>(Qcu (xv 0)))))))
abbrev QbX:Stmt:=top 26
theorem Qfe:Qak ["floor","start"] ["floor","start"] (Qac QbX):=⟨rfl,rfl,rfl,by decide +kernel,rfl,by decide +kernel,by decide +kernel⟩
theorem Qff {f:Addr}{fd:FuncData}(F:Fun z.K "check_start" "check_start" QbX f fd)(T:Txt mg)(con:Con mg z)(D_is_pair:Qaf P w z.K mg base 2 "is_pair" ["value"] (spF z.K [false] .V (Qb0 z)))(D_Floor_check_place:Qas P w z.K mg base z.c_Floor 4 "check_place" ["self","place"] (spF z.K [false,false] .V (Qar z))):FnOk P w z.K mg base (CXe P w) 5 f fd ["floor","start"] (spF z.K [false,false] .V (Qbv z)):=by
 have S:=Qfe
 refine fnT F S rfl (by first | exact .inl rfl | exact .inr rfl) fun cdv A outer s H E C hC hr hd=>?_
 have hown:=Qcw (P:=P) (w:=w) (K:=z.K) (mg:=mg) (base:=base) (N:=["floor","start"]) (qual := "check_start") (scope:=Qac QbX) (f:=f) (cd:=cdv) (A:=A) (outer:=outer) (s:=s) (H:=H) (E:=E)
 unfold QcP
 exact (Qah (Qee (Qco (Qca (QaO (spk D_is_pair hC) Qai (hr.mono (by decide)) (Qaa (xv 1) Qad)))) (Qaq (Qdu hd con.x_NoPlace con.g_NoPlace (Qaa Qey Qad))) QbW)
  (Qaq (Qds (x_m (QhR D_Floor_check_place hC) con.cl_Floor Qai (hr.mono (by decide)) (xv 0) (Qaa (QaH hC (xv 1) Qae) Qad)))))
abbrev QiG:Stmt:=top 30
theorem Qpa:Qak ["floor","rows","waiting","entry","near","number"] ["floor","rows","waiting","entry"] (Qac QiG):=⟨rfl,rfl,rfl,by decide +kernel,rfl,by decide +kernel,by decide +kernel⟩
theorem QpF {f:Addr}{fd:FuncData}(F:Fun z.K "give" "give" QiG f fd)(T:Txt mg)(con:Con mg z)(D_insert_in_order:Qaf P w z.K mg base 1 "insert_in_order" ["waiting","entry"] (spF z.K [true,false] .V (QaD z)))(D_number_at:Qaf P w z.K mg base 1 "number_at" ["rows","place"] (spF z.K [false,false] .V (Qat z)))(D_Floor_loss:Qas P w z.K mg base z.c_Floor 5 "loss" ["self","place"] (spF z.K [false,false] .V (QbQ z)))(D_Floor_beside:Qas P w z.K mg base z.c_Floor 5 "beside" ["self","place"] (spF z.K [false,false] .O (Qbe z))):FnOk P w z.K mg base (CXe P w) 6 f fd ["floor","rows","waiting","entry"] (spF z.K [false,true,true,false] .V (QgM z)):=by
 have S:=Qpa
 refine fnT F S rfl (by first | exact .inl rfl | exact .inr rfl) fun cdv A outer s H E C hC hr hd=>?_
 have hown:=Qcw (P:=P) (w:=w) (K:=z.K) (mg:=mg) (base:=base) (N:=["floor","rows","waiting","entry","near","number"]) (qual := "give") (scope:=Qac QiG) (f:=f) (cd:=cdv) (A:=A) (outer:=outer) (s:=s) (H:=H) (E:=E)
 unfold Qkj
 exact (Qaq (Qd6 hown rfl (Qbb hC (Qf2 (x_m (QhR D_Floor_beside hC) con.cl_Floor Qai (hr.mono (by decide)) (xv 0) (Qaa (QaH hC (xv 3) Qae) Qad)))) (QaA (i:=4) S.nd rfl (by first | exact Or.inl rfl | exact Or.inr rfl)) QcS (Qah (QaE (i:=5) S.nd rfl (by first | exact Or.inl rfl | exact Or.inr rfl) (QbH QeJ Qpd (QaH hC (xv 3) Qae) (x_m (QhR D_Floor_loss hC) con.cl_Floor Qai (hr.mono (by decide)) (xv 0) (Qaa (xv 4) Qad))))
  (Qaq (Qee (Qa4 Qoh dGt (xv 5) (QaO (spk D_number_at hC) Qai (hr.mono (by decide)) (Qaa (xb 1) (Qaa (xv 4) Qad))) (QaM _)) (Qah (Qjc (i:=1) hC (Qcu (xv 5)) (hg:=QhA (QmY ix_list (pv 1) (QaH hC (xv 4) Qae) (fun _ _=>rfl)) (QaH hC (xv 4) Qae) QdR))
  (Qaq (Qds (Qfd (par:=true) (as:=[some 2,none]) (p:=false) (spk D_insert_in_order hC) Qai (hr.mono (by decide)) (Qaa (xs 2) (Qaa (QbM (Qaa (xv 5) (Qaa (xv 4) Qad))) Qad)))))) QbW)))))
abbrev Qen:Stmt:=top 27
theorem QlQ:Qak ["floor","rows","starts","behind","start","waiting","entry"] ["floor","rows","starts"] (Qac Qen):=⟨rfl,rfl,rfl,by decide +kernel,rfl,by decide +kernel,by decide +kernel⟩
theorem QlN {f:Addr}{fd:FuncData}(F:Fun z.K "spread" "spread" Qen f fd)(T:Txt mg)(con:Con mg z)(D_number_at:Qaf P w z.K mg base 1 "number_at" ["rows","place"] (spF z.K [false,false] .V (Qat z)))(D_lift:Qaf P w z.K mg base 2 "lift" ["floor","rows","start"] (spF z.K [false,true,false] .V (Qg9 z)))(D_givers:Qaf P w z.K mg base 3 "givers" ["floor","rows"] (spF z.K [false,false] .O (QdL z)))(D_give:Qaf P w z.K mg base 6 "give" ["floor","rows","waiting","entry"] (spF z.K [false,true,true,false] .V (QgM z))):FnOk P w z.K mg base (CXe P w) 7 f fd ["floor","rows","starts"] (spF z.K [false,false,false] .O (QdY z)):=by
 have S:=QlQ
 refine fnT F S rfl (by first | exact .inl rfl | exact .inr rfl) fun cdv A outer s H E C hC hr hd=>?_
 have hown:=Qcw (P:=P) (w:=w) (K:=z.K) (mg:=mg) (base:=base) (N:=["floor","rows","starts","behind","start","waiting","entry"]) (qual := "spread") (scope:=Qac Qen) (f:=f) (cd:=cdv) (A:=A) (outer:=outer) (s:=s) (H:=H) (E:=E)
 unfold QfU
 exact (Qah (QrG (i0:=3) (par:=false) (cs:=[.me]) (N:=["row"]) (j:=0) hC rfl S.nd rfl (by first | exact Or.inl rfl | exact Or.inr rfl) Blk.of rfl rfl rfl (Qbb hC (xv 1)) (fun _ _ _ _ _=>Qc7) (fun _ _ _ _ _=>Qdq fun Cb hb=>(Qov (x := "") T.list_ hb (Qaa (xv 0) Qad))))
  (Qah (Qd6 hown rfl (Qbb hC (xv 2)) (QaA (i:=4) S.nd rfl (by first | exact Or.inl rfl | exact Or.inr rfl)) QcS (Qaq (Qds (Qfd (par:=false) (as:=[none,some 3,none]) (p:=false) (spk D_lift hC) Qai (hr.mono (by decide)) (Qaa (xv 0) (Qaa (xs 3) (Qaa (xv 4) Qad)))))))
  (Qah (QcV (i:=5) S.nd rfl (by first | exact Or.inl rfl | exact Or.inr rfl) (QaO (spk D_givers hC) Qai (hr.mono (by decide)) (Qaa (xv 0) (Qaa (xb 3) Qad))))
  (Qah (QkF (n:=1000000) hown (Qa4 Qoh dGt (Qav QaI (QgW hC) T.len PySem.boot_len (Qaa (xb 5) Qad)) Qae (QaM _)) (Qah (QaE (i:=6) S.nd rfl (by first | exact Or.inl rfl | exact Or.inr rfl) (QrP (i:=5) rfl (by first | exact Or.inl rfl | exact Or.inr (Or.inl rfl) | exact Or.inr (Or.inr rfl))))
  (Qaq (Qee (Qa4 (Qcq (Qf9 hr)) (Qju hC) (QaO (spk D_number_at hC) Qai (hr.mono (by decide)) (Qaa (xb 3) (Qaa (QaH hC (xv 6) Qae) Qad))) (QaH hC (xv 6) Qae) (QaM _)) (Qaq (Qds (Qfd (par:=false) (as:=[none,some 3,some 5,none]) (p:=false) (spk D_give hC) Qai (hr.mono (by decide)) (Qaa (xv 0) (Qaa (xs 3) (Qaa (xs 5) (Qaa (xv 6) Qad))))))) QbW))))
  (Qaq (QaP (xo 3)))))))
abbrev Qeo:Stmt:=top 23
theorem QlK:Qak ["floor","rows","starts","start","behind"] ["floor","rows","starts"] (Qac Qeo):=⟨rfl,rfl,rfl,by decide +kernel,rfl,by decide +kernel,by decide +kernel⟩
theorem QkH {f:Addr}{fd:FuncData}(F:Fun z.K "raised" "raised" Qeo f fd)(T:Txt mg)(con:Con mg z)(D_unlike:Qaf P w z.K mg base 2 "unlike" ["before","behind"] (spF z.K [false,false] .O (QdS z)))(D_check_rows:Qaf P w z.K mg base 3 "check_rows" ["floor","rows"] (spF z.K [false,false] .V (QbO z)))(D_check_start:Qaf P w z.K mg base 5 "check_start" ["floor","start"] (spF z.K [false,false] .V (Qbv z)))(D_spread:Qaf P w z.K mg base 7 "spread" ["floor","rows","starts"] (spF z.K [false,false,false] .O (QdY z))):FnOk P w z.K mg base (CXe P w) 8 f fd ["floor","rows","starts"] (spF z.K [false,false,false] .O (QdM z)):=by
 have S:=QlK
 refine fnT F S rfl (by first | exact .inl rfl | exact .inr rfl) fun cdv A outer s H E C hC hr hd=>?_
 have hown:=Qcw (P:=P) (w:=w) (K:=z.K) (mg:=mg) (base:=base) (N:=["floor","rows","starts","start","behind"]) (qual := "raised") (scope:=Qac Qeo) (f:=f) (cd:=cdv) (A:=A) (outer:=outer) (s:=s) (H:=H) (E:=E)
 unfold QfD
 exact (Qah (Qds (QaO (spk D_check_rows hC) Qai (hr.mono (by decide)) (Qaa (xv 0) (Qaa (xv 1) Qad))))
  (Qah (Qd6 hown rfl (Qbb hC (xv 2)) (QaA (i:=3) S.nd rfl (by first | exact Or.inl rfl | exact Or.inr rfl)) QcS (Qaq (Qds (QaO (spk D_check_start hC) Qai (hr.mono (by decide)) (Qaa (xv 0) (Qaa (xv 3) Qad))))))
  (Qah (QcV (i:=4) S.nd rfl (by first | exact Or.inl rfl | exact Or.inr rfl) (QaO (spk D_spread hC) Qai (hr.mono (by decide)) (Qaa (xv 0) (Qaa (xv 1) (Qaa (xv 2) Qad)))))
  (Qaq (QaP (Qnh (Qaa (xs 4) (Qaa (QaO (spk D_unlike hC) Qai (hr.mono (by decide)) (Qaa (xv 1) (Qaa (xb 4) Qad))) Qad))))))))
abbrev Qir:Stmt:=top 44
theorem Qrz:Qak ["_law_script","_law_purse_here","_law_losses","_law_way","_law_last","_law_total","_law_number_here","_law_starts","_law_given","_law_place","_law_there","_law_back","_law_floor","_law_noughts","_law_found","_law_unlike","_law_r","_law_c"] ["_law_script"] (Qac Qir):=⟨rfl,rfl,rfl,by decide +kernel,rfl,by decide +kernel,by decide +kernel⟩
theorem Qp8 {f:Addr}{fd:FuncData}(F:Fun z.K "law" "law" Qir f fd)(T:Txt mg)(con:Con mg z)(D__law_places:Qaf P w z.K mg base 1 "_law_places" ["_law_losses"] (spF z.K [false] .O (Qba z)))(D__law_along:Qaf P w z.K mg base 1 "_law_along" ["_law_losses","_law_way","_law_given"] (spF z.K [false,false,false] .O (QaR z)))(D__law_purse:Qaf P w z.K mg base 2 "_law_purse" ["_law_script","_law_k"] (spF z.K [false,false] .O (QaQ z)))(D__law_take:Qaf P w z.K mg base 2 "_law_take" ["_law_purse_here","_law_many"] (spF z.K [true,false] .V (Qam z)))(D__law_number:Qaf P w z.K mg base 3 "_law_number" ["_law_purse_here"] (spF z.K [true] .V (QaS z)))(D__law_long:Qaf P w z.K mg base 4 "_law_long" ["_law_purse_here","_law_script"] (spF z.K [true,false] .O (Qb2 z)))(D_Floor_init:Qdh P w z.K mg base z.c_Floor 5 "Floor" ["self","rows"] (spI z.K z.c_Floor (Qbp z)))(D_raised:Qaf P w z.K mg base 8 "raised" ["floor","rows","starts"] (spF z.K [false,false,false] .O (QdM z))):FnOk P w z.K mg base (CXe P w) 9 f fd ["_law_script"] (spF z.K [false] .V (QmH z)):=by
 have S:=Qrz
 refine fnT F S rfl (by first | exact .inl rfl | exact .inr rfl) fun cdv A outer s H E C hC hr hd=>?_
 have hown:=Qcw (P:=P) (w:=w) (K:=z.K) (mg:=mg) (base:=base) (N:=["_law_script","_law_purse_here","_law_losses","_law_way","_law_last","_law_total","_law_number_here","_law_starts","_law_given","_law_place","_law_there","_law_back","_law_floor","_law_noughts","_law_found","_law_unlike","_law_r","_law_c"]) (qual := "law") (scope:=Qac Qir) (f:=f) (cd:=cdv) (A:=A) (outer:=outer) (s:=s) (H:=H) (E:=E)
 unfold QoR
 exact (Qah (QcV (i:=1) S.nd rfl (by first | exact Or.inl rfl | exact Or.inr rfl) (QaO (spk D__law_purse hC) Qai (hr.mono (by decide)) (Qaa (xv 0) (Qaa Qae Qad))))
  (Qah (QrT (Qed rfl (QaN (QaA (i:=2) S.nd rfl (by first | exact Or.inl rfl | exact Or.inr rfl)) (QaN (QaA (i:=3) S.nd rfl (by first | exact Or.inl rfl | exact Or.inr rfl)) Qc8))) (Qd1 hC) (Qf2 (Qfd (par:=false) (as:=[some 1,none]) (p:=false) (spk D__law_long hC) Qai (hr.mono (by decide)) (Qaa (xs 1) (Qaa (xv 0) Qad)))))
  (Qah (QaE (i:=4) S.nd rfl (by first | exact Or.inl rfl | exact Or.inr rfl) (Qfd (par:=false) (as:=[some 1,none]) (p:=false) (spk D__law_take hC) Qai (hr.mono (by decide)) (Qaa (xs 1) (Qaa (Qav QaI (QgW hC) T.len PySem.boot_len (Qaa (xv 3) Qad)) Qad))))
  (Qah (QaE (i:=5) S.nd rfl (by first | exact Or.inl rfl | exact Or.inr rfl) (Qav (Qkh rfl) (Qs3 hC) T.sum QlG (Qaa (Qf2 (Qje (p:=true) (par:=false) (cs:=[.me,.me,.fz 2]) (N:=["_law_r","_law_c","_law_losses"]) hC rfl Blk.of rfl rfl (Qbb hC (QsO hC (xv 3) (QlU Qae) (QlU (QbH Qbo Qfj (xv 4) Qae)))) (fun _ _ _ _ _=>Qed rfl (QaN (QaA (i:=0) (show (["_law_r","_law_c","_law_losses"]:List Str).Nodup by decide) rfl (by first | exact Or.inl rfl | exact Or.inr rfl)) (QaN (QaA (i:=1) (show (["_law_r","_law_c","_law_losses"]:List Str).Nodup by decide) rfl (by first | exact Or.inl rfl | exact Or.inr rfl)) Qc8))) (fun _ _ _ _ _=>Qc7) (fun _ _ _ _ _=>Qdq fun Cb hb=>(Qcu (QaH hb (QaH hb (xv 2) (xv 0)) (xv 1)))))) Qad)))
  (Qah (QaE (i:=6) S.nd rfl (by first | exact Or.inl rfl | exact Or.inr rfl) (QaH hC (QkL (Qaa (Qfd (par:=false) (as:=[some 1]) (p:=false) (spk D__law_number hC) Qai (hr.mono (by decide)) (Qaa (xs 1) Qad)) (Qaa (xv 5) (Qaa (QbH Qbo Qfj (xv 5) Qae) Qad)))) (Qfd (par:=false) (as:=[some 1,none]) (p:=false) (spk D__law_take hC) Qai (hr.mono (by decide)) (Qaa (xs 1) (Qaa Qae Qad)))))
  (Qah (QcV (i:=7) S.nd rfl (by first | exact Or.inl rfl | exact Or.inr rfl) (QeV (Qaa (QbM (Qaa (QaH hC (xv 3) Qae) (Qaa (Qav (Qkg rfl) dI2 T.min_ QeX (Qaa (xv 6) (Qaa (QbH QeJ Qpd (QbH Qha Qrw Qae Qae) Qae) Qad))) Qad))) Qad)))
  (Qah (Qee (Qa4 (Qcq (Qf9 hr)) (Qju hC) (Qfd (par:=false) (as:=[some 1,none]) (p:=false) (spk D__law_take hC) Qai (hr.mono (by decide)) (Qaa (xs 1) (Qaa Qae Qad))) Qae (QaM _)) (Qaq (Qrj (i:=7) hC rfl (by first | exact Or.inl rfl | exact Or.inr (Or.inl rfl) | exact Or.inr (Or.inr rfl)) (Qcu (QbM (Qaa (QaH hC (xv 3) (Qfd (par:=false) (as:=[some 1,none]) (p:=false) (spk D__law_take hC) Qai (hr.mono (by decide)) (Qaa (xs 1) (Qaa (Qav QaI (QgW hC) T.len PySem.boot_len (Qaa (xv 3) Qad)) Qad)))) (Qaa (Qfd (par:=false) (as:=[some 1]) (p:=false) (spk D__law_number hC) Qai (hr.mono (by decide)) (Qaa (xs 1) Qad)) Qad)))))) QbW)
  (Qah (QcV (i:=8) S.nd rfl (by first | exact Or.inl rfl | exact Or.inr rfl) QkA)
  (Qah (Qd6 hown rfl (Qbb hC (xv 7)) (Qed rfl (QaN (QaA (i:=9) S.nd rfl (by first | exact Or.inl rfl | exact Or.inr rfl)) (QaN (QaA (i:=6) S.nd rfl (by first | exact Or.inl rfl | exact Or.inr rfl)) Qc8))) (Qd1 hC) (Qaq (Qns (i:=8) (QhI hr) rfl (by first | exact Or.inl rfl | exact Or.inr (Or.inl rfl) | exact Or.inr (Or.inr rfl)) (Qav (QdG rfl) dI2 T.max_ Qc9 (Qaa (xv 6) (Qaa (Qf1 (QhI hr) (xb 8) (xv 9) Qae) Qad))) (xv 9))))
  (Qah (QaE (i:=10) S.nd rfl (by first | exact Or.inl rfl | exact Or.inr rfl) (Qf2 (QaO (spk D__law_along hC) Qai (hr.mono (by decide)) (Qaa (xv 2) (Qaa (xv 3) (Qaa (xb 8) Qad))))))
  (Qah (QaE (i:=11) S.nd rfl (by first | exact Or.inl rfl | exact Or.inr rfl) (Qf2 (QaO (spk D__law_along hC) Qai (hr.mono (by decide)) (Qaa (xv 2) (Qaa (Qf2 (Qnr hC (xv 3))) (Qaa (xb 8) Qad))))))
  (Qah (QaE (i:=12) S.nd rfl (by first | exact Or.inl rfl | exact Or.inr rfl) (QtO (QuJ D_Floor_init hC) Qai (hr.mono (by decide)) (Qaa (xv 2) Qad)))
  (Qah (QlJ (i0:=13) (par:=false) (cs:=[.me,.fz 2]) (N:=["_law_row","_law_losses"]) (j:=0) hC rfl S.nd rfl (by first | exact Or.inl rfl | exact Or.inr rfl) Blk.of rfl rfl rfl (Qbb hC (xv 2)) (fun _ _ _ _ _=>Qc7) (fun _ _ _ _ _=>Qdq fun Cb hb=>(QrM hb (QkL (Qaa Qae Qad)) (Qav QaI (QgW hb) T.len PySem.boot_len (Qaa (QaH hb (xv 1) Qae) Qad)))))
  (Qah (QrT (Qed rfl (QaN (QaA (i:=14) S.nd rfl (by first | exact Or.inl rfl | exact Or.inr rfl)) (QaN (QaA (i:=15) S.nd rfl (by first | exact Or.inl rfl | exact Or.inr rfl)) Qc8))) (Qd1 hC) (Qf2 (QaO (spk D_raised hC) Qai (hr.mono (by decide)) (Qaa (xv 12) (Qaa (xv 13) (Qaa (xb 7) Qad))))))
  (Qah (Qd6 hown rfl (Qbb hC (Qf2 (QaO (spk D__law_places hC) Qai (hr.mono (by decide)) (Qaa (xv 2) Qad)))) (Qed rfl (QaN (QaA (i:=16) S.nd rfl (by first | exact Or.inl rfl | exact Or.inr rfl)) (QaN (QaA (i:=17) S.nd rfl (by first | exact Or.inl rfl | exact Or.inr rfl)) Qc8))) (Qd1 hC) (Qaq (Qee (Qa4 (Qfp (Qf9 hr)) (QpU hC) (QaH hC (QaH hC (xv 14) (xv 16)) (xv 17)) (Qav (QdG rfl) dI2 T.max_ Qc9 (Qaa (Qf1 (QhI hr) (xv 10) (QbM (Qaa (xv 16) (Qaa (xv 17) Qad))) Qae) (Qaa (Qf1 (QhI hr) (xv 11) (QbM (Qaa (xv 16) (Qaa (xv 17) Qad))) Qae) Qad))) (QaM _)) (Qaq (QaP QkX)) QbW)))
  (Qaq (QaP (Qj2 (Qcq (Qf9 hr)) (Qju hC) (xv 15) (Qf2 (Qje (p:=true) (par:=false) (cs:=[.me,.me,.fz 14]) (N:=["_law_r","_law_c","_law_found"]) hC rfl Blk.of rfl rfl (Qbb hC (Qf2 (QaO (spk D__law_places hC) Qai (hr.mono (by decide)) (Qaa (xv 2) Qad)))) (fun _ _ _ _ _=>Qed rfl (QaN (QaA (i:=0) (show (["_law_r","_law_c","_law_found"]:List Str).Nodup by decide) rfl (by first | exact Or.inl rfl | exact Or.inr rfl)) (QaN (QaA (i:=1) (show (["_law_r","_law_c","_law_found"]:List Str).Nodup by decide) rfl (by first | exact Or.inl rfl | exact Or.inr rfl)) Qc8))) (fun _ _ _ _ _=>QgY fun Cb hb=>(Qa4 (Qfp (Qf9 hr)) (QpU hb) (QaH hb (QaH hb (xv 2) (xv 0)) (xv 1)) Qae (QaM _))) (fun _ _ _ _ _=>Qdq fun Cb hb=>(Qcu (QbM (Qaa (xv 0) (Qaa (xv 1) Qad))))))) (QaM _)))))))))))))))))))
end
end G36
open PySem PySem.Spec L2 L2.Srt TL
local macro_rules
 | `(tactic| simp? only [$xs,*])=>`(tactic| simp only [w_S,Qqg,QpZ,QpW,QqO,w_V,Qqh,Qq1,Qra,w_B,QqV,w_O,w_C,Qtc,w_I,QpX,QuE,Qte,Qr7,Qti,Qtz,Qr8,QsM,Qrm,Quw,QrI,Qtk,QsT,Qp9,Qr9,Qse,Qpg,QqA,QsN,QqE,Qtq,Qsw,Qri,QqW,QoS,Qqa,QrR,Qq0,QtK,Qsl,QtE,Qso,Qui,Qrt,Qp7,QqQ,Qsm,Qq7,Qr5,QuC,Qn6,Qp0,QoP,QrD,Qtn,QqZ,Qqe,QrU,Qsy,QqC,Qqf,Qsg,Qon,W_ok,W_bind,Int.reduceEq,W_of,setF,setW,Qun,Qdp,mkS,asB,asI,asL,Quy,QuK,atI,ixN,Qep,TL.QiY,QhQ,QqG,Qjf,Qo3,gLt,gLe,gGt,gGe,gI0,gIc,QfA,Qkt,QpS,QtY,gI2,Qs2,QsH,QmQ,Qm1,List.zipWith_cons_cons,List.zipWith_nil_left,List.zipWith_nil_right,List.replicate,List.cons_append,List.nil_append,List.append_nil,List.length_cons,List.length_nil,List.getElem?_cons_zero,List.getElem?_cons_succ,List.getElem?_nil,List.set_cons_zero,List.set_cons_succ,List.set_nil,Option.map_some,Option.map_none,Option.bind_some,Option.bind_none,Nat.reduceAdd,Nat.reduceSub,Bool.false_eq_true,if_true,if_false,Nat.reduceLT,Nat.reduceLeDiff,Int.reduceLT,Int.reduceLE,Int.toNat_zero,Int.reduceToNat,Int.toNat_one,Int.cast_ofNat_Int,Cp.is,List.filterMap_cons,QcT,Qdl,QmM,outs,List.filterMap_cons_none,List.filterMap_cons_some,List.filterMap_nil,id,D.imm,D.immL,Bool.true_and,Bool.and_true,Tag.mut,Bool.not_false,Bool.not_true,decide_eq_true_eq,Bool.decide_eq_true,Int.reduceNeg,sizeLine_eq,Nat.reducePow,Qul,Nat.zero_add,Nat.succ_eq_add_one,ite_true,ite_false,Bool.not_eq_true,decide_true,decide_false,Qoj,Qo2,Qn2,Qrp,Qq3,Qs4,List.map_cons,List.map_nil,QtR,QqK,Qqw,QoH,Qn5,Qqv,Qpn,QoF,Qr2,QqF,QrY,QqM,Qo8,Qrx,QqN,Qqt,QrS,QsK,Qpp,QoX,QtP,Qrh,QoK,Qol,Qsv,QoN,Qnk,Qre,Qo9,Qrr,$xs,*])
namespace G36
open PySem PySem.Spec L2 L2.Srt TL
variable {z:Z}
def Pot (d:D):Prop:=∃ v k:Int,d=.lst [.int v,.int k]
def isInt (d:D):Prop:=∃ r:Int,d=.int r
abbrev Qdc:Int:=10 ^ 60
theorem Qni {n i:Nat}{d:D}(h:((List.range n).map fun j=>D.int ((0:Int)+(j:Nat)))[i]? = some d):d=.int i/\i<n:=by
 rw [List.getElem?_map] at h
 obtain ⟨a,e,rfl⟩:=Option.map_eq_some_iff.mp h
 obtain ⟨h1,h2⟩:=List.getElem?_eq_some_iff.mp e
 rw [List.getElem_range] at h2
 rw [List.length_range] at h1
 subst h2
 exact ⟨by rw [Int.zero_add],h1⟩
theorem QpB (c:Int):FW (QaV z [.int c]) (fun d os=>os=[]/\isInt d):=by
 unfold QaV
 refine Qbt ?_
 unfold Qdx
 simp? only [and_self]
 refine QdX (fun i ρ=>∃ r s t,ρ=[some (.frz (.int c)),some (.frz (.int r)),s,t]/\(s=none\/∃ d,s=some (.frz d))/\(t=none\/∃ d,t=some (.frz d))) ⟨0,_,_,rfl,.inl rfl,.inl rfl⟩ ?_ ?_
 ·rintro i d ρ hd ⟨r,s,t,rfl,hs,ht⟩
  obtain ⟨rfl,hi⟩:=Qni hd
  have hi':(i:Int)<12:=by have:(Int.toNat 12)=12:=rfl;omega
  refine ⟨[some (.frz (.int c)),some (.frz (.int r)),some (.frz (.int i)),t],?_,?_⟩
  ·rcases hs with rfl | ⟨_,rfl⟩<;>rfl
  ·have g1:(0:Int)<2147483629:=by decide
   have g2:(0:Int)<2147483647:=by decide
   have g3:(0:Int)<2147483587:=by decide
   have c1:∀ a:Int,CMul a 48271:=fun a=>.inr (by decide)
   have c2:CMul (i:Int) (i:Int):=.inl ⟨by omega,by omega⟩
   have c3:∀ a:Int,CMul a 7919:=fun a=>.inr (by decide)
   have c4:∀ a:Int,CMul 31 a:=fun a=>.inl (by decide)
   have c5:∀ a:Int,CMul a 2147483587:=fun a=>.inr (by decide)
   have c6:∀ a:Int,CMul 40693 a:=fun a=>.inl (by decide)
   have c7:∀ a:Int,CMul (a % 2147483647) (a % 2147483647):=fun a=>.inl ⟨by have:=Int.emod_nonneg a (show (2147483647:Int)≠0 by decide);omega,by have:=Int.emod_lt_of_pos a g2;omega⟩
   rcases ht with rfl | ⟨_,rfl⟩ <;>
   ·simp? only [g1,g2,g3,c1,c2,c3,c4,c5,c6,c7]
    exact ⟨trivial,_,_,_,rfl,.inr ⟨_,rfl⟩,.inr ⟨_,rfl⟩⟩
 ·rintro ρ ⟨r,s,t,rfl,hs,ht⟩
  simp? only []
  refine ⟨_,[],rfl,?_,rfl,_,rfl⟩
  rcases hs with rfl | ⟨_,rfl⟩<;>rcases ht with rfl | ⟨_,rfl⟩<;>rfl
theorem QlH (c:Int):∃ r:Int,QaV z [.int c]=.ok (.int r) []:=by
 obtain ⟨d,os,e,rfl,r,rfl⟩:=QpB (z:=z) c
 exact ⟨r,e⟩
def spT (n:Int)(d:D)(os:List D):Prop:=∃ r p,d=.int r/\os=[p]/\Pot p/\0<=r/\r<n
abbrev QrO:Int:=115792089237316195423570985008687907853269984665640564039457584007913129639936
theorem Qbx {p:D}{n:Int}(hp:Pot p)(h0:0<n)(h1:n<QrO):FW (Qam z [p,.int n]) (spT n):=by
 obtain ⟨v,k,rfl⟩:=hp
 unfold Qam
 refine Qbt ?_
 unfold Qdv
 have cn:∀ a,Qgn a n:=fun a=>⟨h0,h1⟩
 by_cases hv:v=0
 ·subst hv
  obtain ⟨r,er⟩:=QlH (z:=z) (k+64)
  simp? only [QaK er,cn,h0]
  exact ⟨trivial,_,_,rfl,rfl,_,_,rfl,rfl,⟨_,_,rfl⟩,Int.emod_nonneg _ (by omega),Int.emod_lt_of_pos _ h0⟩
 ·simp? only [hv,cn,h0]
  exact ⟨_,_,rfl,rfl,_,_,rfl,rfl,⟨_,_,rfl⟩,Int.emod_nonneg _ (by omega),Int.emod_lt_of_pos _ h0⟩
def spP (Q:D->Prop)(d:D)(os:List D):Prop:=∃ p,os=[p]/\Pot p/\Q d
def Qks (d:D):Prop:=∃ r:Int,d=.int r/\0<=r/\r<Qdc
theorem Qtm:QnT 10 60:=⟨by decide,by decide,by decide⟩
theorem QgD {p:D}(hp:Pot p):FW (QaS z [p]) (spP Qks):=by
 unfold QaS
 refine Qbt ?_
 unfold QcR
 simp? only []
 refine QdF (p:=p) (P:=spT 4) rfl (Qbx hp (by decide) (by decide)) fun _ _ ⟨r1,p1,e1,e2,hp1,_,_⟩=>⟨p1,e2,?_⟩;subst e1
 simp? only []
 refine QfN (fun h=>?_) (fun h=>?_)
 ·simp? only [Qtm]
  refine QdF (p:=p1) (P:=spT Qdc) rfl (Qbx hp1 (by decide) (by decide)) fun _ _ ⟨r3,p3,e1,e2,hp3,g0,g1⟩=>⟨p3,e2,?_⟩;subst e1
  simp? only []
  exact ⟨_,_,rfl,rfl,_,rfl,hp3,_,rfl,g0,g1⟩
 ·simp? only []
  refine QdF (p:=p1) (P:=spT 30) rfl (Qbx hp1 (by decide) (by decide)) fun _ _ ⟨r3,p3,e1,e2,hp3,g0,g1⟩=>⟨p3,e2,?_⟩;subst e1
  simp? only []
  exact ⟨_,_,rfl,rfl,_,rfl,hp3,_,rfl,g0,Int.lt_of_lt_of_le g1 (by decide)⟩
theorem QoB {p:D}(hp:Pot p):FW (Qbl z [p]) (spP Qks):=by
 unfold Qbl
 refine Qbt ?_
 unfold Qdw
 simp? only []
 refine QdF (p:=p) (P:=spT 9) rfl (Qbx hp (by decide) (by decide)) fun _ _ ⟨r1,p1,e1,e2,hp1,_,_⟩=>⟨p1,e2,?_⟩;subst e1
 simp? only []
 refine QfN (fun h=>?_) (fun h=>?_)
 ·simp? only []
  exact ⟨_,_,rfl,rfl,_,rfl,hp1,_,rfl,by decide,by decide⟩
 simp? only []
 refine QfN (fun h=>?_) (fun h=>?_)
 ·simp? only []
  exact ⟨_,_,rfl,rfl,_,rfl,hp1,_,rfl,by decide,by decide⟩
 simp? only []
 refine QfN (fun h=>?_) (fun h=>?_)
 ·simp? only []
  refine QdF (p:=p1) (P:=spT 4) rfl (Qbx hp1 (by decide) (by decide)) fun _ _ ⟨r3,p3,e1,e2,hp3,g0,g1⟩=>⟨p3,e2,?_⟩;subst e1
  simp? only []
  exact ⟨_,_,rfl,rfl,_,rfl,hp3,_,rfl,by omega,Int.lt_of_lt_of_le (b:=10) (by omega) (by decide)⟩
 simp? only []
 refine QfN (fun h=>?_) (fun h=>?_)
 ·simp? only []
  refine QdF (p:=p1) (P:=spT 60) rfl (Qbx hp1 (by decide) (by decide)) fun _ _ ⟨r3,p3,e1,e2,hp3,g0,g1⟩=>⟨p3,e2,?_⟩;subst e1
  simp? only []
  exact ⟨_,_,rfl,rfl,_,rfl,hp3,_,rfl,by omega,Int.lt_of_lt_of_le (b:=100) (by omega) (by decide)⟩
 ·simp? only [Qtm]
  refine QdF (p:=p1) (P:=spT (Qdc - 1)) rfl (Qbx hp1 (by decide) (by decide)) fun _ _ ⟨r3,p3,e1,e2,hp3,g0,g1⟩=>⟨p3,e2,?_⟩;subst e1
  simp? only []
  exact ⟨_,_,rfl,rfl,_,rfl,hp3,_,rfl,by omega,by omega⟩
def script (xs:List Int):D:=.lst (xs.map .int)
def okL (L:List (List Int)):Prop:=∀ r∈L,∀ x∈r,0<=x/\x<Qdc
variable {z:Z}
def flD (z:Z)(F:List (List Int)):D:=.nd (.ins z.c_Floor ["losses"]) [tuD F]
theorem Qb1 {F:List (List Int)}{nm:Str}(h:(nm == ("losses" : Str))=false):QgV z.c_Floor nm (flD z F)=true:=by
 show (decide (z.c_Floor=z.c_Floor) && (["losses"]:List Str).all (fun n=>!(nm == n)))=true
 simp [h]
theorem Qhb {F:List (List Int)}:Qme z.c_Floor "losses" (flD z F)=some (tuD F):=Qrh
section
variable {h w:Nat}{F R:List (List Int)}{p:Int × Int}
theorem QeY (r:Rc h w R)(hp:inR h w p):Qat z [rD R,pl p]=.ok (.int (atL R p)) []:=QbB (Qbt (by
 unfold QdD
 simp? only [pl,QgI r hp.1 hp.2.1,Qkp r hp]
 exact ⟨_,_,rfl,rfl,rfl,rfl⟩))
theorem QhT (r:Rc h w F)(hp:inR h w p):Qay z [flD z F,pl p]=.ok (.bl (decide (atL F p=0))) []:=QbB (Qbt (by
 unfold Qb4
 simp? only [pl,Qhb,QoU r hp.1 hp.2.1,Qq4 r hp]
 exact ⟨_,_,rfl,rfl,rfl,rfl⟩))
theorem Qj0 (r:Rc h w F):Qa8 z [flD z F]=.ok (.int h) []:=QbB (Qbt (by
 unfold Qda
 have e:Qcl [tuD F]=some (.int h):=by unfold tuD;simp [Qcl,r.hi]
 simp? only [Qhb,e]
 exact ⟨_,_,rfl,rfl,rfl,rfl⟩))
theorem QhK (r:Rc h w F)(h1:1<=h):Qa1 z [flD z F]=.ok (.int w) []:=QbB (Qbt (by
 unfold Qc6
 have e:Qcl [tuI (F.getD (0:Int).toNat [])]=some (.int w):=by
  have:=r.row (i:=0) (by decide) (by omega)
  unfold tuI
  simp only [Qcl,List.length_map,this]
 simp only [Int.toNat_zero] at e
 simp? only [Qhb,QoU r (i:=0) (by decide) (by omega),e]
 exact ⟨_,_,rfl,rfl,rfl,rfl⟩))
theorem QiN {i:Int}:Qby z [.int i]=.ok (.bl true) []:=rfl
theorem Qjw {xs:List D}:QaC z [.nd .lst xs]=.ok (.bl true) []:=rfl
theorem Qka {a b:D}:Qb0 z [.nd .tup [a,b]]=.ok (.bl true) []:=rfl
theorem Qe5 {i n:Int}:Qa5 z [.int i,.int n]=.ok (.bl (decide (0<=i/\i<n))) []:=QbB (Qbt (by
 unfold Qdz
 simp? only [QaK QiN,true_and]
 by_cases h0:0<=i
 ·simp? only [h0,true_and]
  exact ⟨_,_,rfl,rfl,rfl,rfl⟩
 ·simp? only [h0,false_and]
  exact ⟨_,_,rfl,rfl,rfl,rfl⟩))
theorem Qld (r:Rc h w F)(h1:1<=h):Qbh z [flD z F,pl p]=.ok (.bl (decide (inR h w p))) []:=QbB (Qbt (by
 unfold QdA
 have i1:=Qb1 (z:=z) (F:=F) (nm := "high") (by decide)
 have i2:=Qb1 (z:=z) (F:=F) (nm := "wide") (by decide)
 simp? only [pl,QaK Qka,true_and,i1,i2,QaK (Qj0 r),QaK (QhK r h1),QaK Qe5]
 by_cases c:0<=p.1/\p.1<(h:Int)
 ·simp? only [c,and_self,i2,QaK (QhK r h1),QaK Qe5]
  have:decide (inR h w p)=decide (0<=p.2/\p.2<(w:Int)):=by unfold inR;simp [c]
  rw [this]
  exact ⟨trivial,trivial,_,_,rfl,rfl,rfl,rfl⟩
 ·simp? only [c]
  have:decide (inR h w p)=false:=by unfold inR;apply decide_eq_false;intro q;exact c ⟨q.1,q.2.1⟩
  rw [this]
  exact ⟨_,_,rfl,rfl,rfl,rfl⟩))
theorem Qgj (r:Rc h w F)(h1:1<=h)(hp:inR h w p):Qar z [flD z F,pl p]=.ok .non []:=QbB (QgE (by
 unfold Qbi
 have i1:=Qb1 (z:=z) (F:=F) (nm := "has") (by decide)
 simp? only [i1,QaK (Qld r h1),hp,true_and]
 exact ⟨_,rfl,rfl⟩))
theorem Qn1 (r:Rc h w F)(h1:1<=h)(hp:inR h w p):QbQ z [flD z F,pl p]=.ok (.int (atL F p)) []:=QbB (Qbt (by
 unfold Qc1
 have i1:=Qb1 (z:=z) (F:=F) (nm := "check_place") (by decide)
 simp? only [i1,QaK (Qgj r h1 hp),true_and]
 simp? only [pl,Qhb,QoU r hp.1 hp.2.1,Qq4 r hp]
 exact ⟨_,_,rfl,rfl,rfl,rfl⟩))
theorem QkR:QdV z [pl p]=.ok (.lst ((arL p).map pl)) []:=rfl
theorem QlD (r:Rc h w F)(h1:1<=h)(hp:inR h w p):Qbe z [flD z F,pl p]=.ok (.lst ((nbL h w F p).map pl)) []:=QbB (Qbt (by
 unfold Qch
 have i1:=Qb1 (z:=z) (F:=F) (nm := "check_place") (by decide)
 have i2:=Qb1 (z:=z) (F:=F) (nm := "has") (by decide)
 have i3:=Qb1 (z:=z) (F:=F) (nm := "is_wall") (by decide)
 simp? only [i1,QaK (Qgj r h1 hp),true_and]
 refine QqP (dis:=[]) (P:=fun d os=>d=.lst ((arL p).map pl)/\os=[]) rfl ⟨_,_,QkR,rfl,rfl⟩ fun d os ⟨e1,e2⟩=>?_
 subst e1;subst e2
 simp? only []
 refine QmZ (f:=fun d=>match d with | .nd .tup [.int a,.int b]=>okN h w F (a,b) | _=>false) (g:=fun d=>d) (di:=[]) (ρb:=[none,some (.frz (flD z F))]) (os:=[]) rfl rfl ?_ (by rw [sizeLine_eq];simp [arL]) rfl rfl ?_
 ·intro d hd
  obtain ⟨q,hq,rfl⟩:=List.mem_map.mp hd
  refine ⟨[some (.frz (pl q)),some (.frz (flD z F))],rfl,?_,fun _=>rfl,rfl⟩
  refine W_eq.mp ?_
  show W _ fun a=>a=(okN h w F q,_)
  by_cases c:inR h w q
  ·simp? only [i2,i3,QaK (Qld r h1),c,true_and,QaK (QhT r c)]
   simp [okN,c]
  ·simp? only [i2,QaK (Qld r h1),c,true_and]
   simp [okN,c]
 ·simp? only []
  refine ⟨_,_,rfl,rfl,?_,rfl⟩
  congr 1
  rw [List.map_id'']
  ·rw [List.filter_map];rfl
  ·intro _;rfl))
end
variable {z:Z}
section
variable {h w:Nat}{L:List (List Int)}
theorem Qky {i:Int}(h0:0<=i)(h1:i<Qdc):Qdb z [.int i]=.ok (.bl true) []:=QbB (Qbt (by
 unfold QeL
 have c3:QnT 10 60:=⟨by decide,by decide,by decide⟩
 have e:(10:Int) ^ (60:Int).toNat=Qdc:=by decide
 have e2:(10:Int) ^ 60=Qdc:=rfl
 have e3:decide (0<=i/\i<Qdc)=true:=decide_eq_true ⟨h0,h1⟩
 simp? only [c3,e,e2,QaK Qe5,e3]
 exact ⟨trivial,_,_,rfl,rfl,rfl,rfl⟩))
theorem Qlr {l:List Int}(hl:∀ x∈l,0<=x/\x<Qdc):Qbd z [rwI l]=.ok .non []:=QbB (QgE (by
 unfold Qck
 unfold rwI
 simp? only []
 refine QdX (fun i ρ=>∃ s,ρ=[some (.frz (.lst (l.map .int))),s]/\(s=none\/∃ d,s=some (.frz d))) ⟨_,rfl,.inl rfl⟩ ?_ ?_
 ·rintro i d ρ hd ⟨s,rfl,hs⟩
  refine ⟨[some (.frz (.lst (l.map .int))),some (.frz d)],?_,?_⟩
  ·rcases hs with rfl | ⟨_,rfl⟩<;>rfl
  ·obtain ⟨n,hn,rfl⟩:=List.mem_map.mp (List.mem_of_getElem? hd)
   obtain ⟨a,b⟩:=hl n hn
   simp? only [QaK (Qky a b),true_and]
   exact ⟨_,rfl,.inr ⟨_,rfl⟩⟩
 ·rintro ρ ⟨s,rfl,hs⟩
  refine ⟨[],rfl,?_,trivial,rfl⟩
  rcases hs with rfl | ⟨_,rfl⟩<;>rfl))
theorem QiZ {xs:List D}(h1:1<=xs.length)(h2:xs.length<=30):Qbn z [.nd .lst xs]=.ok (.bl true) []:=QbB (Qbt (by
 unfold Qd8
 have e1:(1:Int)<=xs.length:=by omega
 have e2:(xs.length:Int)<=30:=by omega
 simp? only [QaK Qjw,true_and,e1,e2]
 exact ⟨_,_,rfl,rfl,rfl,rfl⟩))
theorem Qo0 (r:Rc h w L)(h1:1<=h)(h2:h<=30)(w1:1<=w)(w2:w<=30):Qbf z [rD L]=.ok (.bl true) []:=QbB (Qbt (by
 unfold Qcg
 have e1:Qbn z [rD L]=.ok (.bl true) []:=QiZ (by rw [List.length_map,r.hi];exact h1) (by rw [List.length_map,r.hi];exact h2)
 have e3:siK (rD L,[some (.frz (rD L)),none])=.ok (L.map rwI,[some (.frz (rD L)),none]):=rfl
 simp? only [QaK e1,true_and,e3]
 refine QdX (fun i ρ=>∃ s,ρ=[some (.frz (rD L)),s]/\(s=none\/∃ d,s=some (.frz d))) ⟨_,rfl,.inl rfl⟩ ?_ ?_
 ·rintro i d ρ hd ⟨s,rfl,hs⟩
  refine ⟨[some (.frz (rD L)),some (.frz d)],?_,?_⟩
  ·rcases hs with rfl | ⟨_,rfl⟩<;>rfl
  ·obtain ⟨l,hl,rfl⟩:=List.mem_map.mp (List.mem_of_getElem? hd)
   have el:=r.wi l hl
   have e2:Qbn z [rwI l]=.ok (.bl true) []:=QiZ (by rw [List.length_map,el];exact w1) (by rw [List.length_map,el];exact w2)
   have g1:Qcl [rwI l]=some (.int w):=by show some (D.int ((l.map D.int).length:Nat))=_;rw [List.length_map,el]
   have g2:Qcl [rwI (L.getD (0:Int).toNat [])]=some (.int w):=by
    have:=r.row (i:=0) (by decide) (by omega)
    show some (D.int (((L.getD (0:Int).toNat []).map D.int).length:Nat))=_
    rw [List.length_map,this]
   simp only [Int.toNat_zero] at g2
   simp? only [QaK e2,true_and,g1,g2,QgI r (i:=0) (by decide) (by omega),Qkt]
   simp
   exact W_ok.mpr ⟨rfl,_,rfl,.inr ⟨_,rfl⟩⟩
 ·rintro ρ ⟨s,rfl,hs⟩
  simp? only []
  refine ⟨_,[],rfl,?_,rfl,rfl⟩
  rcases hs with rfl | ⟨_,rfl⟩<;>rfl))
theorem Qnv {s:Option Sl}{ρ:Rho}{ms:MS}{me:ME}{k:D × Rho->Prop}(h:W (ms (s :: ρ)) fun r=>r.1=.nx/\W (me r.2) k):W (Qkz ms me (s :: ρ)) k:=by
 obtain ⟨⟨f,ρ1⟩,e,e1,h1⟩:=h
 have e1:f=.nx:=e1
 subst e1
 unfold Qkz
 rw [e]
 exact h1
theorem Qoo {x:Addr}(r:Rc h w L)(h1:1<=h)(h2:h<=30)(w1:1<=w)(w2:w<=30)(ok:okL L):Qbp z x (rD L)=.ok (flD z L) []:=by
 have key:W (QbL z [some (.frz (.cls x)),some (.frz (rD L)),none]) fun q=>q.1=tuD L/\∃ s,q.2=[some (.frz (.cls x)),some (.frz (rD L)),s]:=by
  unfold QbL
  refine Qnv ?_
  simp? only [QaK (Qo0 (z:=z) r h1 h2 w1 w2),true_and]
  refine Qnv ?_
  have e3:siK (rD L,[some (.frz (.cls x)),some (.frz (rD L)),none])=.ok (L.map rwI,[some (.frz (.cls x)),some (.frz (rD L)),none]):=rfl
  simp? only [e3]
  refine QdX (fun i ρ=>∃ s,ρ=[some (.frz (.cls x)),some (.frz (rD L)),s]/\(s=none\/∃ d,s=some (.frz d))) ⟨_,rfl,.inl rfl⟩ ?_ ?_
  ·rintro i d ρ hd ⟨s,rfl,hs⟩
   refine ⟨[some (.frz (.cls x)),some (.frz (rD L)),some (.frz d)],?_,?_⟩
   ·rcases hs with rfl | ⟨_,rfl⟩<;>rfl
   ·obtain ⟨l,hl,rfl⟩:=List.mem_map.mp (List.mem_of_getElem? hd)
    simp? only [QaK (Qlr (z:=z) (ok l hl)),true_and]
    exact ⟨_,rfl,.inr ⟨_,rfl⟩⟩
  ·rintro ρ ⟨s,rfl,hs⟩
   refine ⟨rfl,?_⟩
   have e4:siK (rD L,[some (.frz (.cls x)),some (.frz (rD L)),s])=.ok (L.map rwI,[some (.frz (.cls x)),some (.frz (rD L)),s]):=rfl
   simp? only [e4]
   refine Qg8 (g:=fun d=>match d with | .nd .lst xs=>.tup xs | _=>d) (di:=[]) (ρb:=[none]) (os:=[]) rfl rfl ?_ (by rw [sizeLine_eq,List.length_map,r.hi];omega) rfl rfl ?_
   ·intro d hd
    obtain ⟨l,hl,rfl⟩:=List.mem_map.mp hd
    have e5:D.imm (.nd .tup (l.map D.int))=true:=Qdi l
    have e6:tvK ([rwI l],[some (.frz (rwI l))])=.ok (.tup (l.map D.int),[some (.frz (rwI l))]):=rfl
    refine ⟨[some (.frz (rwI l))],rfl,W_eq.mp ?_,rfl⟩
    simp? only [e6]
    show W (if D.imm (.nd .tup (l.map D.int))=true then _ else _) _
    rw [if_pos e5]
    exact W_ok.mpr rfl
   ·simp? only []
    refine ⟨?_,s,rfl⟩
    show D.tup _=D.tup _
    rw [List.map_map];rfl
 obtain ⟨⟨d,ρ⟩,e,e1,s,e2⟩:=key
 have e1:d=tuD L:=e1
 have e2:ρ=[some (.frz (.cls x)),some (.frz (rD L)),s]:=e2
 subst e1;subst e2
 unfold Qbp QsB
 show (match QbL z [some (.frz (.cls x)),some (.frz (rD L)),none] with | .ok (r,ρ)=>_ | .ex c _=>_ | .no=>_)=_
 rw [e]
 show (if Qfr x _=true then _ else _)=_
 rw [if_pos (show Qfr x [some (.frz (.cls x)),some (.frz (rD L)),s]=true from decide_eq_true rfl)]
 rfl
end
variable {z:Z}
def cel (w:Nat):Nat->List (Int × Int)
 |0=>[]
 |i+1=>cel w i++(List.range w).map fun b=>((i:Int),((b:Nat):Int))
section
variable {h w:Nat}{F R:List (List Int)}{p:Int × Int}
theorem cel_mem:∀ {h:Nat},p∈cel w h↔inR h w p
 |0=>by
  unfold cel inR
  constructor
  ·intro h;cases h
  ·intro h;omega
 |h+1=>by
  unfold cel
  rw [List.mem_append,cel_mem,List.mem_map]
  unfold inR
  constructor
  ·rintro (⟨a,b,c,d⟩ | ⟨b,hb,rfl⟩)
   ·exact ⟨a,by omega,c,d⟩
   ·have:=List.mem_range.mp hb
    dsimp only
    omega
  ·rintro ⟨a,b,c,d⟩
   by_cases e:p.1<(h:Int)
   ·exact .inl ⟨a,e,c,d⟩
   ·refine .inr ⟨p.2.toNat,List.mem_range.mpr (by omega),?_⟩
    apply Prod.ext
    ·dsimp only;omega
    ·dsimp only;omega
theorem QcB:∀ {h:Nat},(cel w h).length=h * w
 |0=>by unfold cel;simp
 |h+1=>by unfold cel;rw [List.length_append,QcB,List.length_map,List.length_range,Nat.succ_mul]
theorem QdN {α β:Type}{f:α->β}(hf:∀ a b,f a=f b->a=b):∀ {l:List α},l.Nodup->(l.map f).Nodup
 | [],_=>List.nodup_nil
 |a :: l,h=>by
  obtain ⟨h1,h2⟩:=List.nodup_cons.mp h
  rw [List.map_cons]
  refine List.nodup_cons.mpr ⟨fun hm=>?_,QdN hf h2⟩
  obtain ⟨b,hb,e⟩:=List.mem_map.mp hm
  rw [hf _ _ e] at hb
  exact h1 hb
theorem cel_nodup:∀ {h:Nat},(cel w h).Nodup
 |0=>List.nodup_nil
 |h+1=>by
  unfold cel
  refine List.nodup_append.mpr ⟨cel_nodup,QdN (fun a b e=>?_) List.nodup_range,fun a ha b hb e=>?_⟩
  ·rw [Prod.mk.injEq] at e;omega
  ·subst e
   have h1:=(cel_mem.mp ha).2.1
   obtain ⟨c,_,rfl⟩:=List.mem_map.mp hb
   dsimp only at h1
   omega
theorem Qis (r:Rc h w F)(hh:h<=30)(hw:w<=30):Qa6 z [tuD F]=.ok (.lst ((cel w h).map pl)) []:=QbB (Qbt (by
 unfold QcE
 have e3:enK ([tuD F],[some (.frz (tuD F)),some (.own (.lst [])),none,none])=.ok (QcF (F.map tuI),[some (.frz (tuD F)),some (.own (.lst [])),none,none]):=rfl
 simp? only [e3]
 refine QdX (fun i ρ=>∃ s t,ρ=[some (.frz (tuD F)),some (.own (.lst ((cel w i).map pl))),s,t]/\(s=none\/∃ d,s=some (.frz d))/\(t=none\/∃ d,t=some (.frz d))) ⟨_,_,rfl,.inl rfl,.inl rfl⟩ ?_ ?_
 ·rintro i d ρ hd ⟨s,t,rfl,hs,ht⟩
  have hd':∃ l,l∈F/\d=.tup [.int i,tuI l]:=by
   unfold QcF at hd
   rw [List.getElem?_map,List.getElem?_zipIdx,List.getElem?_map] at hd
   cases q:F[i]? with
   |none=>rw [q] at hd;cases hd
   |some l=>
    rw [q] at hd
    simp at hd
    exact ⟨l,List.mem_of_getElem? q,hd.symm⟩
  obtain ⟨l,hl,rfl⟩:=hd'
  have el:=r.wi l hl
  refine ⟨[some (.frz (tuD F)),some (.own (.lst ((cel w i).map pl))),some (.frz (.int i)),some (.frz (tuI l))],?_,?_⟩
  ·rcases hs with rfl | ⟨_,rfl⟩<;>rcases ht with rfl | ⟨_,rfl⟩<;>rfl
  ·have g1:Qcl [tuI l]=some (.int w):=by show some (D.int ((l.map D.int).length:Nat))=_;rw [List.length_map,el]
   have b1:(-4611686018427387904:Int)<=w/\(w:Int)<4611686018427387904:=by omega
   simp? only [g1,b1,and_self,Int.toNat_natCast]
   refine Qg8 (g:=fun d=>.tup [.int i,d]) (di:=[]) (ρb:=[none,some (.frz (.int i))]) (os:=[]) rfl rfl ?_ (by rw [sizeLine_eq,List.length_map,List.length_range];omega) rfl rfl ?_
   ·intro d hd
    obtain ⟨n,hn,rfl⟩:=List.mem_map.mp hd
    exact ⟨[some (.frz (.int (0+(n:Nat)))),some (.frz (.int i))],rfl,W_eq.mp (by simp? only []),rfl⟩
   ·have hi:i<h:=by
     have:=(List.getElem?_eq_some_iff.mp hd).1
     unfold QcF at this
     rw [List.length_map,List.length_zipIdx,List.length_map,r.hi] at this
     exact this
    have hc:(cel w i).length<=900:=by rw [QcB];exact Nat.le_trans (Nat.mul_le_mul (by omega) hw) (by decide:30 * 30<=900)
    have hz:(List.map pl (cel w i)).length+(List.map (fun d=>D.tup [D.int ↑i,d]) (List.map (fun j=>D.int (0 + ↑j)) (List.range w))).length<=16777216:=by
     simp;omega
    simp? only []
    rw [if_pos (by simpa using hz)]
    refine W_ok.mpr ⟨rfl,some (.frz (.int i)),some (.frz (tuI l)),?_,.inr ⟨_,rfl⟩,.inr ⟨_,rfl⟩⟩
    rw [cel,List.map_append,List.map_map,List.map_map]
    have:∀ (n:Nat),((fun d=>D.tup [D.int ↑i,d])∘fun (j:Nat)=>D.int (0 + ↑j)) n=(pl∘fun (b:Nat)=>((i:Int),(b:Int))) n:=fun n=>by
     show D.tup [D.int i,D.int (0+(n:Int))]=D.tup [D.int i,D.int n]
     rw [Int.zero_add]
    rw [show ((fun d=>D.tup [D.int ↑i,d])∘fun (j:Nat)=>D.int (0 + ↑j))=(pl∘fun (b:Nat)=>((i:Int),(b:Int))) from funext this]
 ·rintro ρ ⟨s,t,rfl,hs,ht⟩
  have e:(QcF (F.map tuI)).length=h:=by unfold QcF;rw [List.length_map,List.length_zipIdx,List.length_map,r.hi]
  rw [e]
  simp? only []
  refine ⟨_,[],rfl,?_,rfl,rfl⟩
  rcases hs with rfl | ⟨_,rfl⟩<;>rcases ht with rfl | ⟨_,rfl⟩<;>rfl))
theorem Qhx (r:Rc h w F)(hh:h<=30)(hw:w<=30):Qa6 z [rD F]=.ok (.lst ((cel w h).map pl)) []:=QbB (Qbt (by
 unfold QcE
 have e3:enK ([rD F],[some (.frz (rD F)),some (.own (.lst [])),none,none])=.ok (QcF (F.map rwI),[some (.frz (rD F)),some (.own (.lst [])),none,none]):=rfl
 simp? only [e3]
 refine QdX (fun i ρ=>∃ s t,ρ=[some (.frz (rD F)),some (.own (.lst ((cel w i).map pl))),s,t]/\(s=none\/∃ d,s=some (.frz d))/\(t=none\/∃ d,t=some (.frz d))) ⟨_,_,rfl,.inl rfl,.inl rfl⟩ ?_ ?_
 ·rintro i d ρ hd ⟨s,t,rfl,hs,ht⟩
  have hd':∃ l,l∈F/\d=.tup [.int i,rwI l]:=by
   unfold QcF at hd
   rw [List.getElem?_map,List.getElem?_zipIdx,List.getElem?_map] at hd
   cases q:F[i]? with
   |none=>rw [q] at hd;cases hd
   |some l=>
    rw [q] at hd
    simp at hd
    exact ⟨l,List.mem_of_getElem? q,hd.symm⟩
  obtain ⟨l,hl,rfl⟩:=hd'
  have el:=r.wi l hl
  refine ⟨[some (.frz (rD F)),some (.own (.lst ((cel w i).map pl))),some (.frz (.int i)),some (.frz (rwI l))],?_,?_⟩
  ·rcases hs with rfl | ⟨_,rfl⟩<;>rcases ht with rfl | ⟨_,rfl⟩<;>rfl
  ·have g1:Qcl [rwI l]=some (.int w):=by show some (D.int ((l.map D.int).length:Nat))=_;rw [List.length_map,el]
   have b1:(-4611686018427387904:Int)<=w/\(w:Int)<4611686018427387904:=by omega
   simp? only [g1,b1,and_self,Int.toNat_natCast]
   refine Qg8 (g:=fun d=>.tup [.int i,d]) (di:=[]) (ρb:=[none,some (.frz (.int i))]) (os:=[]) rfl rfl ?_ (by rw [sizeLine_eq,List.length_map,List.length_range];omega) rfl rfl ?_
   ·intro d hd
    obtain ⟨n,hn,rfl⟩:=List.mem_map.mp hd
    exact ⟨[some (.frz (.int (0+(n:Nat)))),some (.frz (.int i))],rfl,W_eq.mp (by simp? only []),rfl⟩
   ·have hi:i<h:=by
     have:=(List.getElem?_eq_some_iff.mp hd).1
     unfold QcF at this
     rw [List.length_map,List.length_zipIdx,List.length_map,r.hi] at this
     exact this
    have hc:(cel w i).length<=900:=by rw [QcB];exact Nat.le_trans (Nat.mul_le_mul (by omega) hw) (by decide:30 * 30<=900)
    have hz:(List.map pl (cel w i)).length+(List.map (fun d=>D.tup [D.int ↑i,d]) (List.map (fun j=>D.int (0 + ↑j)) (List.range w))).length<=16777216:=by
     simp;omega
    simp? only []
    rw [if_pos (by simpa using hz)]
    refine W_ok.mpr ⟨rfl,some (.frz (.int i)),some (.frz (rwI l)),?_,.inr ⟨_,rfl⟩,.inr ⟨_,rfl⟩⟩
    rw [cel,List.map_append,List.map_map,List.map_map]
    have:∀ (n:Nat),((fun d=>D.tup [D.int ↑i,d])∘fun (j:Nat)=>D.int (0 + ↑j)) n=(pl∘fun (b:Nat)=>((i:Int),(b:Int))) n:=fun n=>by
     show D.tup [D.int i,D.int (0+(n:Int))]=D.tup [D.int i,D.int n]
     rw [Int.zero_add]
    rw [show ((fun d=>D.tup [D.int ↑i,d])∘fun (j:Nat)=>D.int (0 + ↑j))=(pl∘fun (b:Nat)=>((i:Int),(b:Int))) from funext this]
 ·rintro ρ ⟨s,t,rfl,hs,ht⟩
  have e:(QcF (F.map rwI)).length=h:=by unfold QcF;rw [List.length_map,List.length_zipIdx,List.length_map,r.hi]
  rw [e]
  simp? only []
  refine ⟨_,[],rfl,?_,rfl,rfl⟩
  rcases hs with rfl | ⟨_,rfl⟩<;>rcases ht with rfl | ⟨_,rfl⟩<;>rfl))
theorem QkU (r:Rc h w F)(hh:h<=30)(hw:w<=30):Qbc z [flD z F]=.ok (.lst ((cel w h).map pl)) []:=QbB (Qbt (by
 unfold Qcf
 simp? only [Qhb,Qfg (Qis r hh hw)]
 exact ⟨_,_,rfl,rfl,rfl,rfl⟩))
theorem Qsh (r:Rc h w R)(hh:1<=h)(hw:1<=w)(hp:inR h w p):QbK (R.map QbK)<=atL R p:=by
 have hne:R.map QbK≠[]:=fun e=>by have:=congrArg List.length e;rw [List.length_map,r.hi] at this;simp at this;omega
 have hl:p.1.toNat<R.length:=by rw [r.hi];have:=hp.1;have:=hp.2.1;omega
 have e:R.getD p.1.toNat []=R[p.1.toNat]:=by rw [List.getD_eq_getElem?_getD,List.getElem?_eq_getElem hl];rfl
 have hm:R.getD p.1.toNat []∈R:=by rw [e];exact List.getElem_mem hl
 have hr:=r.wi _ hm
 have hk:p.2.toNat<(R.getD p.1.toNat []).length:=by rw [hr];have:=hp.2.2.1;have:=hp.2.2.2;omega
 have hne2:R.getD p.1.toNat []≠[]:=fun e=>by rw [e] at hr;simp at hr;omega
 have hm2:atL R p∈R.getD p.1.toNat []:=by unfold atL;rw [List.getD_eq_getElem?_getD (l:=R.getD p.1.toNat []),List.getElem?_eq_getElem hk];exact List.getElem_mem hk
 exact Int.le_trans ((QcW hne).2 _ (List.mem_map.mpr ⟨_,hm,rfl⟩)) ((QcW hne2).2 _ hm2)
def gvL (h w:Nat)(F R:List (List Int))(least:Int):List NP:=(((cel w h).filter (okN h w F)).filter fun p=>decide (atL R p > least)).map fun p=>(atL R p,p)
theorem Qqu {q:Int × Int}:D.imm (pl q)=true:=rfl
theorem QlE (rf:Rc h w F)(r:Rc h w R)(h1:1<=h)(hh:h<=30)(w1:1<=w)(hw:w<=30)(h64:(gvL h w F R (QbK (R.map QbK))).length<64):QdL z [flD z F,rD R]=.ok (.lst ((QiS Qcx (gvL h w F R (QbK (R.map QbK)))).map npD)) []:=QbB (Qbt (by
 unfold QfF
 have hz:h * w<=900:=Nat.le_trans (Nat.mul_le_mul hh hw) (by decide)
 have e3:siK (rD R,[some (.frz (flD z F)),some (.frz (rD R)),none,none])=.ok (R.map rwI,[some (.frz (flD z F)),some (.frz (rD R)),none,none]):=rfl
 simp? only [e3]
 refine Qg8 (g:=fun d=>match d with | .nd .lst xs=>.int (QbK ((Qiq xs).getD [])) | _=>d) (di:=[]) (ρb:=[none]) (os:=[]) rfl rfl ?_ (by rw [sizeLine_eq,List.length_map,r.hi];omega) rfl rfl ?_
 ·intro d hd
  obtain ⟨l,hl,rfl⟩:=List.mem_map.mp hd
  have hne:l≠[]:=fun e=>by have:=r.wi l hl;rw [e] at this;simp at this;omega
  have e5:QjG [rwI l]=some (.int (QbK l)):=by
   show (Qiq (l.map D.int)).bind _=_
   rw [Qdg]
   show (if l=[] then none else some (D.int (QbK l)))=_
   rw [if_neg hne]
  refine ⟨[some (.frz (rwI l))],rfl,W_eq.mp ?_,rfl⟩
  have e6:QbK ((Qiq (l.map D.int)).getD [])=QbK l:=by rw [Qdg];rfl
  simp? only [e5]
  show (D.int (QbK l),_)=(D.int (QbK ((Qiq (l.map D.int)).getD [])),_)
  rw [e6]
 have e7:(R.map rwI).map (fun d=>match d with | .nd .lst xs=>D.int (QbK ((Qiq xs).getD [])) | _=>d)=(R.map QbK).map D.int:=by
  rw [List.map_map,List.map_map]
  refine List.map_congr_left fun l _=>?_
  show D.int (QbK ((Qiq (l.map D.int)).getD []))=D.int (QbK l)
  rw [Qdg];rfl
 rw [e7]
 have hne:R.map QbK≠[]:=fun e=>by have:=congrArg List.length e;rw [List.length_map,r.hi] at this;simp at this;omega
 have e8:QjG [.nd .lst ((R.map QbK).map D.int)]=some (.int (QbK (R.map QbK))):=by
  show (Qiq ((R.map QbK).map D.int)).bind _=_
  rw [Qdg]
  show (if R.map QbK=[] then none else some (D.int (QbK (R.map QbK))))=_
  rw [if_neg hne]
 have i1:=Qb1 (z:=z) (F:=F) (nm := "places") (by decide)
 have i2:=Qb1 (z:=z) (F:=F) (nm := "is_wall") (by decide)
 generalize QbK (R.map QbK)=least at *
 simp? only [e8,i1,Qfg (QkU rf hh hw)]
 refine QmZ (f:=fun d=>match d with | .nd .tup [.int a,.int b]=>okN h w F (a,b) | _=>false) (g:=fun d=>d) (di:=[]) (ρb:=[none,some (.frz (flD z F))]) (os:=[]) rfl rfl ?_ (by rw [sizeLine_eq,List.length_map,QcB];omega) rfl rfl ?_
 ·intro d hd
  obtain ⟨q,hq,rfl⟩:=List.mem_map.mp hd
  have c:=cel_mem.mp hq
  refine ⟨[some (.frz (pl q)),some (.frz (flD z F))],rfl,?_,fun _=>rfl,rfl⟩
  refine W_eq.mp ?_
  show W _ fun a=>a=(okN h w F q,_)
  simp? only [i2,QaK (QhT rf c),true_and]
  simp [okN,c]
 have e9:(((cel w h).map pl).filter (fun d=>match d with | .nd .tup [.int a,.int b]=>okN h w F (a,b) | _=>false)).map (fun d=>d)=((cel w h).filter (okN h w F)).map pl:=by
  rw [List.map_id'' (fun _=>rfl),List.filter_map];rfl
 rw [e9]
 simp? only []
 refine QmZ (f:=fun d=>match d with | .nd .tup [.int a,.int b]=>decide (atL R (a,b) > least) | _=>false) (g:=fun d=>match d with | .nd .tup [.int a,.int b]=>npD (atL R (a,b),(a,b)) | _=>d) (di:=[]) (ρb:=[none,some (.frz (rD R)),some (.frz (.int least))]) (os:=[]) rfl rfl ?_ (by rw [sizeLine_eq,List.length_map];have:=List.length_filter_le (okN h w F) (cel w h);rw [QcB] at this;omega) rfl rfl ?_
 ·intro d hd
  obtain ⟨q,hq,rfl⟩:=List.mem_map.mp hd
  have c:=cel_mem.mp (List.mem_filter.mp hq).1
  refine ⟨[some (.frz (pl q)),some (.frz (rD R)),some (.frz (.int least))],rfl,W_eq.mp ?_,fun _=>W_eq.mp ?_,rfl⟩
  ·simp? only [QaK (QeY r c),true_and]
   rfl
  ·simp? only [QaK (QeY r c),true_and,Qqu]
   rfl
 have eA:((((cel w h).filter (okN h w F)).map pl).filter (fun d=>match d with | .nd .tup [.int a,.int b]=>decide (atL R (a,b) > least) | _=>false)).map (fun d=>match d with | .nd .tup [.int a,.int b]=>npD (atL R (a,b),(a,b)) | _=>d)=((((cel w h).filter (okN h w F)).filter fun p=>decide (atL R p > least)).map fun p=>(atL R p,p)).map npD:=by
  rw [List.filter_map,List.map_map,List.map_map];rfl
 rw [eA]
 have nd:((((cel w h).filter (okN h w F)).filter fun p=>decide (atL R p > least)).map fun p=>(atL R p,p)).Nodup:=QdN (fun a b e=>(Prod.mk.inj e).2) ((cel_nodup.filter _).filter _)
 have ln:((((cel w h).filter (okN h w F)).filter fun p=>decide (atL R p > least)).map fun p=>(atL R p,p)).length<64:=h64
 simp? only [Qou nd ln]
 exact ⟨_,_,rfl,rfl,rfl,rfl⟩))
end
variable {z:Z}
section
variable {h w:Nat}{F R:List (List Int)}{p:Int × Int}{wt:List NP}{e:NP}
abbrev Pw (wt:List NP):Prop:=wt.Pairwise (fun a b=>Qcx a b=true)
def QuI (wt:List NP)(e:NP)(d:D)(os:List D):Prop:=d=.non/\∃ wt',os=[.lst (wt'.map npD)]/\wt'.Perm (e :: wt)/\Pw wt'
theorem Qj9 (pw:Pw wt)(ne:e∉wt)(hl:wt.length<6000):FW (QaD z [.lst (wt.map npD),npD e]) (QuI wt e):=QgE (by
 unfold Qbz
 simp? only []
 refine Qlj (fun n ρ=>∃ (lo hi:Nat) (s:Option Sl),ρ=[some (.par (.lst (wt.map npD))),some (.frz (npD e)),some (.frz (.int lo)),some (.frz (.int hi)),s]/\(s=none\/∃ d,s=some (.frz d))/\lo<=hi/\hi<=wt.length/\n=hi - lo/\
  (∀ j (hj:j<wt.length),j<lo->Qcx wt[j] e=true)/\(∀ j (hj:j<wt.length),hi<=j->Qcx e wt[j]=true)) (n:=wt.length) ?_ ?_ (by omega)
 ·rintro n ρ ⟨lo,hi,s,rfl,hs,h1,h2,rfl,h3,h4⟩
  refine ⟨(decide ((lo:Int)<hi),[some (.par (.lst (wt.map npD))),some (.frz (npD e)),some (.frz (.int lo)),some (.frz (.int hi)),s]),W_eq.mp (by simp? only []),?_⟩
  by_cases c:(lo:Int)<(hi:Int)
  ·refine ⟨fun _=>?_,fun q=>absurd c (of_decide_eq_false q)⟩
   dsimp only
   have c2:Qgn ((lo:Int)+hi) 2:=⟨by decide,by decide⟩
   have em:((lo:Int)+hi) / 2=((lo+hi) / 2:Nat):=by omega
   have hm:(lo+hi) / 2<wt.length:=by omega
   have eg:atI (wt.map npD) (((lo+hi) / 2:Nat):Int)=some (npD wt[(lo+hi) / 2]):=by
    rw [QcX npD (0,(0,0)) (by omega) (by omega)]
    congr 2
    rw [Int.toNat_natCast,List.getD_eq_getElem?_getD,List.getElem?_eq_getElem (by omega)]
    rfl
   have el:Qtb (npD wt[(lo+hi) / 2]) (npD e)=some (.bl (Qcx wt[(lo+hi) / 2] e)):=rfl
   refine QaG (fun ρ=>ρ=[some (.par (.lst (wt.map npD))),some (.frz (npD e)),some (.frz (.int lo)),some (.frz (.int hi)),some (.frz (.int (((lo+hi) / 2:Nat))))]) ?_ ?_
   ·rcases hs with rfl | ⟨_,rfl⟩<;>simp? only [c2,em]<;>exact ⟨trivial,trivial⟩
   ·rintro ρ rfl
    refine W_bind.mpr ⟨(Qcx wt[(lo+hi) / 2] e,[some (.par (.lst (wt.map npD))),some (.frz (npD e)),some (.frz (.int lo)),some (.frz (.int hi)),some (.frz (.int (((lo+hi) / 2:Nat))))]),W_eq.mp (by simp only [atI,ixN] at eg;simp? only [eg,el]),?_⟩
    dsimp only
    cases q:Qcx wt[(lo+hi) / 2] e with
    |true=>
     simp? only []
     refine ⟨trivial,hi - ((lo+hi) / 2+1),?_,(lo+hi) / 2+1,hi,some (.frz (.int (((lo+hi) / 2:Nat)))),?_,.inr ⟨_,rfl⟩,by omega,h2,rfl,fun j hj hl=>?_,h4⟩
     ·omega
     ·rfl
     ·by_cases e1:j=(lo+hi) / 2
      ·subst e1;exact q
      ·exact lin_NP.tr _ _ _ (List.pairwise_iff_getElem.mp pw j ((lo+hi) / 2) hj hm (by omega)) q
    |false=>
     simp? only []
     have q2:Qcx e wt[(lo+hi) / 2]=true:=lin_NP.tot _ _ (fun z=>ne (z▸List.getElem_mem hm)) q
     refine ⟨trivial,_,?_,lo,(lo+hi) / 2,_,rfl,.inr ⟨_,rfl⟩,by omega,by omega,rfl,h3,fun j hj hl=>?_⟩
     ·omega
     ·by_cases e1:j=(lo+hi) / 2
      ·subst e1;exact q2
      ·exact lin_NP.tr _ _ _ q2 (List.pairwise_iff_getElem.mp pw ((lo+hi) / 2) j hm hj (by omega))
  ·refine ⟨fun q=>absurd (of_decide_eq_true q) c,fun _=>?_⟩
   have ee:hi=lo:=by omega
   subst ee
   show W (Qql 0 _ _) _
   refine Qtd (par:=true) (xs:=wt.map npD) (n:=(hi:Nat)) (d:=npD e) rfl (W_eq.mp (by simp? only [])) (by omega) (by rw [List.length_map];omega) (by rw [List.length_map,sizeLine_eq];omega) ?_ ?_
   ·rw [QeN];rfl
   ·refine ⟨[.lst ((wt.take hi++e :: wt.drop hi).map npD)],rfl,?_,rfl,wt.take hi++e :: wt.drop hi,rfl,?_,?_⟩
    ·rw [List.map_append,List.map_cons,List.map_take,List.map_drop,Int.toNat_natCast]
     rcases hs with rfl | ⟨_,rfl⟩<;>rfl
    ·refine List.perm_middle.trans (List.Perm.cons _ ?_)
     rw [List.take_append_drop]
    ·refine List.pairwise_append.mpr ⟨pw.sublist (List.take_sublist _ _),List.pairwise_cons.mpr ⟨fun x hx=>?_,pw.sublist (List.drop_sublist _ _)⟩,fun a ha b hb=>?_⟩
     ·obtain ⟨j,hj,rfl⟩:=List.getElem_of_mem hx
      rw [List.getElem_drop]
      rw [List.length_drop] at hj
      exact h4 _ (by omega) (by omega)
     ·obtain ⟨j,hj,rfl⟩:=List.getElem_of_mem ha
      rw [List.length_take] at hj
      rw [List.getElem_take]
      have aj:=h3 j (by omega) (by omega)
      rcases List.mem_cons.mp hb with rfl | hb
      ·exact aj
      ·obtain ⟨i,hi',rfl⟩:=List.getElem_of_mem hb
       rw [List.length_drop] at hi'
       rw [List.getElem_drop]
       exact lin_NP.tr _ _ _ aj (h4 _ (by omega) (by omega))
 ·exact ⟨0,wt.length,none,by simp,.inl rfl,by omega,Nat.le_refl _,by omega,fun j hj h=>absurd h (by omega),fun j hj h=>absurd h (by omega)⟩)
def lft (R:List (List Int))(x:PN):List (List Int):=QjQ R x.1 (if atL R x.1 > x.2 then atL R x.1 else x.2)
theorem QoW {s:Int}(rf:Rc h w F)(r:Rc h w R)(h1:1<=h)(hp:okN h w F p=true):Qg9 z [flD z F,rD R,pnD (p,s)]=.ok .non [rD (lft R (p,s))]:=QbB (QgE (by
 unfold QkW
 obtain ⟨ip,nw⟩:=QaW hp
 have i2:=Qb1 (z:=z) (F:=F) (nm := "is_wall") (by decide)
 refine QaG (fun ρ=>ρ=[some (.frz (flD z F)),some (.par (rD R)),some (.frz (pnD (p,s))),some (.frz (pl p))]) ?_ ?_
 ·simp? only [pnD]
  exact ⟨trivial,trivial⟩
 rintro ρ rfl
 refine W_bind.mpr ⟨(true,[some (.frz (flD z F)),some (.par (rD R)),some (.frz (pnD (p,s))),some (.frz (pl p))]),W_eq.mp ?_,?_⟩
 ·simp? only [i2,QaK (QhT rf ip),true_and,nw]
 dsimp only
 rw [if_pos rfl]
 refine QiK (par:=true) (ys:=R.map rwI) (xs:=(R.getD p.1.toNat []).map D.int) (d:=.int (if atL R p > s then atL R p else s)) (n:=p.1) (j:=p.2) (p:=p.1.toNat) (q:=p.2.toNat) rfl (W_eq.mp ?_) (W_eq.mp ?_) (W_eq.mp ?_) ?_ ?_ ?_ ?_
 ·simp? only [pnD,QaK (QeY r ip),true_and]
 ·simp? only [pl]
 ·simp? only [pl]
 ·exact Qg6 ip.1 (by rw [List.length_map,r.hi];exact ip.2.1)
 ·have hl:p.1.toNat<R.length:=by rw [r.hi];have:=ip.1;have:=ip.2.1;omega
  rw [List.getElem?_map,List.getD_eq_getElem?_getD,List.getElem?_eq_getElem hl];rfl
 ·exact Qg6 ip.2.2.1 (by rw [List.length_map,r.row ip.1 ip.2.1];exact ip.2.2.2)
 ·refine ⟨_,rfl,rfl,rfl,?_⟩
  rw [Qnp r ip];rfl))
def Qt0 (h w:Nat)(F:List (List Int))(e:NP)(R:List (List Int))(wt:List NP)(d:D)(os:List D):Prop:=d=.non/\∃ R' wt',os=[rD R',.lst (wt'.map npD)]/\Gv h w F e R wt (nbL h w F e.2) R' wt'
def frO (s:Option Sl):Prop:=s=none\/∃ d,s=some (.frz d)
theorem Qok (rf:Rc h w F)(r:Rc h w R)(h1:1<=h)(pw:Pw wt)(i1:∀ x∈wt,okN h w F x.2=true/\x.1<=atL R x.2)(hl:wt.length<=5000)(ie:inR h w e.2):FW (QgM z [flD z F,rD R,.lst (wt.map npD),npD e]) (Qt0 h w F e R wt):=QgE (by
 unfold Qkj
 have i2:=Qb1 (z:=z) (F:=F) (nm := "beside") (by decide)
 have i3:=Qb1 (z:=z) (F:=F) (nm := "loss") (by decide)
 simp? only [npD,i2,Qfg (QlD rf h1 ie)]
 refine QdX (fun i ρ=>∃ R' wt' s t,ρ=[some (.frz (flD z F)),some (.par (rD R')),some (.par (.lst (wt'.map npD))),some (.frz (npD e)),s,t]/\frO s/\frO t/\Gv h w F e R wt ((nbL h w F e.2).take i) R' wt') ⟨R,wt,none,none,rfl,.inl rfl,.inl rfl,by rw [List.take_zero];exact Gv.start r pw i1⟩ ?_ ?_
 ·rintro i d ρ hd ⟨R',wt',s,t,rfl,hs,ht,g⟩
  rw [List.getElem?_map] at hd
  obtain ⟨v,hv,rfl⟩:=Option.map_eq_some_iff.mp hd
  have okv:=Qib (List.mem_of_getElem? hv)
  have iv:=(QaW okv).1
  have et:(nbL h w F e.2).take (i+1)=(nbL h w F e.2).take i++[v]:=by rw [List.take_add_one,hv];rfl
  rw [et]
  refine ⟨[some (.frz (flD z F)),some (.par (rD R')),some (.par (.lst (wt'.map npD))),some (.frz (npD e)),some (.frz (pl v)),t],?_,?_⟩
  ·rcases hs with rfl | ⟨_,rfl⟩<;>rfl
  refine QaG (fun ρ=>ρ=[some (.frz (flD z F)),some (.par (rD R')),some (.par (.lst (wt'.map npD))),some (.frz (npD e)),some (.frz (pl v)),some (.frz (.int (e.1 - atL F v)))]) ?_ ?_
  ·rcases ht with rfl | ⟨_,rfl⟩<;>simp? only [npD,i3,QaK (Qn1 rf h1 iv),true_and]
  rintro ρ rfl
  refine W_bind.mpr ⟨(decide (e.1 - atL F v > atL R' v),[some (.frz (flD z F)),some (.par (rD R')),some (.par (.lst (wt'.map npD))),some (.frz (npD e)),some (.frz (pl v)),some (.frz (.int (e.1 - atL F v)))]),W_eq.mp ?_,?_⟩
  ·simp? only [QaK (QeY g.rc iv),true_and]
  dsimp only
  by_cases c:e.1 - atL F v > atL R' v
  ·rw [decide_eq_true c,if_pos rfl]
   refine QaG (fun ρ=>ρ=[some (.frz (flD z F)),some (.par (rD (QjQ R' v (e.1 - atL F v)))),some (.par (.lst (wt'.map npD))),some (.frz (npD e)),some (.frz (pl v)),some (.frz (.int (e.1 - atL F v)))]) ?_ ?_
   ·refine QiK (par:=true) (ys:=R'.map rwI) (xs:=(R'.getD v.1.toNat []).map D.int) (d:=.int (e.1 - atL F v)) (n:=v.1) (j:=v.2) (p:=v.1.toNat) (q:=v.2.toNat) rfl (W_eq.mp ?_) (W_eq.mp ?_) (W_eq.mp ?_) ?_ ?_ ?_ ?_
    ·simp? only []
    ·simp? only [pl]
    ·simp? only [pl]
    ·exact Qg6 iv.1 (by rw [List.length_map,g.rc.hi];exact iv.2.1)
    ·have hl:v.1.toNat<R'.length:=by rw [g.rc.hi];have:=iv.1;have:=iv.2.1;omega
     rw [List.getElem?_map,List.getD_eq_getElem?_getD,List.getElem?_eq_getElem hl];rfl
    ·exact Qg6 iv.2.2.1 (by rw [List.length_map,g.rc.row iv.1 iv.2.1];exact iv.2.2.2)
    ·refine ⟨rfl,?_⟩
     show [_,some (Sl.par (D.lst _)),_,_,_,_]=_
     rw [Qnp g.rc iv];rfl
   rintro ρ rfl
   have hn:(e.1 - atL F v,v)∉wt':=fun hm=>by have:=(g.i1 _ hm).2;dsimp only at this;omega
   have hln:wt'.length<6000:=by
    have:=g.ln
    have:=Qog (h:=h) (w:=w) (F:=F) e.2
    rw [List.length_take] at *
    omega
   have hin:=Qj9 (z:=z) g.pw hn hln
   have en:npD (e.1 - atL F v,v)=.tup [.int (e.1 - atL F v),pl v]:=rfl
   rw [en] at hin
   simp? only []
   refine QdF (par:=true) (i:=2) (p:=.lst (wt'.map npD)) (x:=.tup [.int (e.1 - atL F v),pl v]) (f:=QaD z) rfl hin ?_
   rintro d os ⟨e1,wt2,e2,pm,pw2⟩
   refine ⟨.lst (wt2.map npD),e2,?_⟩
   exact ⟨trivial,QjQ R' v (e.1 - atL F v),wt2,some (.frz (pl v)),some (.frz (.int (e.1 - atL F v))),rfl,.inr ⟨_,rfl⟩,.inr ⟨_,rfl⟩,g.put okv c pm pw2⟩
  ·rw [decide_eq_false c,if_neg (by decide)]
   exact W_ok.mpr ⟨rfl,R',wt',_,_,rfl,.inr ⟨_,rfl⟩,.inr ⟨_,rfl⟩,g.skip c⟩
 ·rintro ρ ⟨R',wt',s,t,rfl,hs,ht,g⟩
  rw [List.length_map,List.take_length] at g
  refine ⟨[rD R',.lst (wt'.map npD)],rfl,?_,rfl,R',wt',rfl,g⟩
  rcases hs with rfl | ⟨_,rfl⟩<;>rcases ht with rfl | ⟨_,rfl⟩<;>rfl)
end
variable {z:Z}
section
variable {h w:Nat}{F R N:List (List Int)}{p:Int × Int}{wt:List NP}{e:NP}{ls:List PN}
theorem Qi1 (r:Rc h w R){x:PN}(hp:inR h w x.1):Rc h w (lft R x):=r.set hp
theorem Qla (r:Rc h w R){x:PN}(hp:inR h w x.1){q:Int × Int}(hq:inR h w q):atL (lft R x) q=if q=x.1 then (if atL R x.1 > x.2 then atL R x.1 else x.2) else atL R q:=Ql7 r hp hq
theorem Qgr:∀ {ls:List PN} {R:List (List Int)},Rc h w R->(∀ x∈ls,inR h w x.1)->Rc h w (ls.foldl lft R)
 | [],_,r,_=>r
 |x :: ls,R,r,hl=>Qgr (ls:=ls) (R:=lft R x) (Qi1 r (hl x List.mem_cons_self)) fun y hy=>hl y (List.mem_cons_of_mem _ hy)
theorem Qh3:∀ {ls:List PN} {R:List (List Int)},Rc h w R->(∀ x∈ls,inR h w x.1)->∀ q,inR h w q->atL R q<=atL (ls.foldl lft R) q
 | [],_,_,_,_,_=>Int.le_refl _
 |x :: ls,R,r,hl,q,hq=>by
  refine Int.le_trans ?_ (Qh3 (Qi1 r (hl x List.mem_cons_self)) (fun y hy=>hl y (List.mem_cons_of_mem _ hy)) q hq)
  rw [Qla r (hl x List.mem_cons_self) hq]
  split
  ·rename_i e;subst e;split<;>omega
  ·exact Int.le_refl _
structure QpO (h w:Nat)(F N:List (List Int))(ls:List PN)(R:List (List Int)):Prop where
 rc:Rc h w R
 up:∀ q,inR h w q->atL (ls.foldl lft N) q<=atL R q
 cl:∀ u,okN h w F u=true->∀ v∈nbL h w F u,atL R u - atL F v<=atL R v
 so:∀ q,inR h w q->atL R q=atL (ls.foldl lft N) q\/∃ u,okN h w F u=true/\q∈nbL h w F u/\atL R q=atL R u - atL F q
theorem Qq6 {least:Int}{x:NP}(hx:x∈gvL h w F R least):okN h w F x.2=true/\x.1=atL R x.2:=by
 obtain ⟨q,hq,rfl⟩:=List.mem_map.mp hx
 exact ⟨(List.mem_filter.mp (List.mem_filter.mp hq).1).2,rfl⟩
theorem QsJ {least:Int}{u:Int × Int}(hu:okN h w F u=true)(hl:least<atL R u):(atL R u,u)∈gvL h w F R least:=
 List.mem_map.mpr ⟨u,List.mem_filter.mpr ⟨List.mem_filter.mpr ⟨cel_mem.mpr (QaW hu).1,hu⟩,decide_eq_true hl⟩,rfl⟩
theorem Qqs {least:Int}:(gvL h w F R least).length<=h * w:=by
 unfold gvL
 rw [List.length_map]
 have a:=List.length_filter_le (fun p=>decide (atL R p > least)) ((cel w h).filter (okN h w F))
 have b:=List.length_filter_le (okN h w F) (cel w h)
 rw [QcB] at b
 omega
theorem Qmk {least:Int}:(gvL h w F R least).Nodup:=QdN (fun a b e=>(Prod.mk.inj e).2) ((cel_nodup.filter _).filter _)
theorem Qmu (r:Rc h w R)(least:Int):Jv h w F R least (fun _=>false) R (QiS Qcx (gvL h w F R least)) where
 rc:=r
 pw:=Qio lin_NP Qmk
 i1:=fun x hx=>by obtain ⟨a,b⟩:=Qq6 ((Qcr _).mem_iff.mp hx);exact ⟨a,by omega⟩
 up:=fun _ _=>Int.le_refl _
 i2:=fun u hu hl=>.inl ((Qcr _).mem_iff.mpr (QsJ hu hl))
 d1:=fun u hu=>nomatch hu
 so:=fun _ _=>.inl rfl
theorem QjU (rf:Rc h w F)(nf:Nn h w F)(rn:Rc h w N)(h1:1<=h)(hh:h<=30)(w1:1<=w)(hw:w<=30)(hl:∀ x∈ls,okN h w F x.1=true)(h64:(gvL h w F (ls.foldl lft N) (QbK ((ls.foldl lft N).map QbK))).length<64):FW (QdY z [flD z F,rD N,.lst (ls.map pnD)]) (fun d os=>os=[]/\∃ R,d=rD R/\QpO h w F N ls R):=Qbt (by
 unfold QfU
 have hz:h * w<=900:=Nat.le_trans (Nat.mul_le_mul hh hw) (by decide)
 have hl':∀ x∈ls,inR h w x.1:=fun x hx=>(QaW (hl x hx)).1
 refine QaG (fun ρ=>ρ=[some (.frz (flD z F)),some (.frz (rD N)),some (.frz (.lst (ls.map pnD))),some (.own (rD N)),none,none,none]) ?_ ?_
 ·have e3:siK (rD N,[some (.frz (flD z F)),some (.frz (rD N)),some (.frz (.lst (ls.map pnD))),none,none,none,none])=.ok (N.map rwI,[some (.frz (flD z F)),some (.frz (rD N)),some (.frz (.lst (ls.map pnD))),none,none,none,none]):=rfl
  simp? only [e3]
  refine Qg8 (g:=fun d=>d) (di:=[]) (ρb:=[none]) (os:=[]) rfl rfl ?_ (by rw [sizeLine_eq,List.length_map,rn.hi];omega) rfl rfl ?_
  ·intro d hd
   obtain ⟨l,hl,rfl⟩:=List.mem_map.mp hd
   have e6:liK ([rwI l],[some (.frz (rwI l))])=.ok (rwI l,[some (.frz (rwI l))]):=by
    show (if D.immL (l.map D.int)=true then _ else _)=_
    rw [if_pos (Qdi l)];rfl
   refine ⟨[some (.frz (rwI l))],rfl,W_eq.mp ?_,rfl⟩
   simp? only [e6]
  ·simp? only []
   refine ⟨trivial,?_⟩
   rw [List.map_id'' (fun _=>rfl)];rfl
 rintro ρ rfl
 refine QaG (fun ρ=>∃ s,frO s/\ρ=[some (.frz (flD z F)),some (.frz (rD N)),some (.frz (.lst (ls.map pnD))),some (.own (rD (ls.foldl lft N))),s,none,none]) ?_ ?_
 ·simp? only []
  refine QdX (fun i ρ=>∃ s,frO s/\ρ=[some (.frz (flD z F)),some (.frz (rD N)),some (.frz (.lst (ls.map pnD))),some (.own (rD ((ls.take i).foldl lft N))),s,none,none]) ⟨none,.inl rfl,by rw [List.take_zero];rfl⟩ ?_ ?_
  ·rintro i d ρ hd ⟨s,hs,rfl⟩
   rw [List.getElem?_map] at hd
   obtain ⟨x,hx,rfl⟩:=Option.map_eq_some_iff.mp hd
   have hm:=List.mem_of_getElem? hx
   have ri:Rc h w ((ls.take i).foldl lft N):=Qgr rn fun y hy=>hl' y (List.mem_of_mem_take hy)
   refine ⟨[some (.frz (flD z F)),some (.frz (rD N)),some (.frz (.lst (ls.map pnD))),some (.own (rD ((ls.take i).foldl lft N))),some (.frz (pnD x)),none,none],?_,?_⟩
   ·rcases hs with rfl | ⟨_,rfl⟩<;>rfl
   simp? only []
   have el:=QoW (z:=z) (s:=x.2) (p:=x.1) rf ri h1 (hl x hm)
   refine QqP (dis:=[rD ((ls.take i).foldl lft N)]) (P:=fun d os=>d=.non/\os=[rD (lft ((ls.take i).foldl lft N) (x.1,x.2))]) rfl ⟨_,_,el,rfl,rfl⟩ ?_
   rintro d os ⟨_,rfl⟩
   refine ⟨trivial,some (.frz (pnD x)),.inr ⟨_,rfl⟩,?_⟩
   have et:ls.take (i+1)=ls.take i++[x]:=by rw [List.take_add_one,hx];rfl
   rw [et,List.foldl_append]
   rfl
  ·rintro ρ ⟨s,hs,rfl⟩
   rw [List.length_map,List.take_length]
   exact ⟨rfl,s,hs,rfl⟩
 rintro ρ ⟨s,hs,rfl⟩
 have r0:Rc h w (ls.foldl lft N):=Qgr rn hl'
 generalize e0:ls.foldl lft N=R0 at r0 h64
 refine QaG (fun ρ=>ρ=[some (.frz (flD z F)),some (.frz (rD N)),some (.frz (.lst (ls.map pnD))),some (.own (rD R0)),s,some (.own (.lst ((QiS Qcx (gvL h w F R0 (QbK (R0.map QbK)))).map npD))),none]) ?_ ?_
 ·simp? only [Qfg (QlE rf r0 h1 hh w1 hw h64)]
  exact ⟨trivial,trivial⟩
 rintro ρ rfl
 have hlow:∀ q,inR h w q->QbK (R0.map QbK)<=atL R0 q:=fun q hq=>Qsh r0 h1 w1 hq
 generalize QbK (R0.map QbK)=least at hlow h64
 refine QaG (fun ρ=>∃ R t dn,frO t/\Jv h w F R0 least dn R []/\ρ=[some (.frz (flD z F)),some (.frz (rD N)),some (.frz (.lst (ls.map pnD))),some (.own (rD R)),s,some (.own (.lst [])),t]) ?_ ?_
 ·refine Qlj (fun n ρ=>∃ R wt t dn,frO t/\Jv h w F R0 least dn R wt/\wt.length+5 * QeD (cel w h) dn<=n/\n<=5000/\ρ=[some (.frz (flD z F)),some (.frz (rD N)),some (.frz (.lst (ls.map pnD))),some (.own (rD R)),s,some (.own (.lst (wt.map npD))),t]) (n:=4990) ?_ ?_ (by decide)
  ·rintro n ρ ⟨R,wt,t,dn,ht,j,hn,hn4,rfl⟩
   refine ⟨(decide ((wt.length:Int) > 0),[some (.frz (flD z F)),some (.frz (rD N)),some (.frz (.lst (ls.map pnD))),some (.own (rD R)),s,some (.own (.lst (wt.map npD))),t]),W_eq.mp (by simp? only [List.length_map]),?_⟩
   dsimp only
   rcases List.eq_nil_or_concat wt with rfl | ⟨wt0,e,rfl⟩
   ·exact ⟨fun q=>absurd q (by simp),fun _=>⟨rfl,R,t,dn,ht,j,rfl⟩⟩
   refine ⟨fun _=>?_,fun q=>absurd q (by simp)⟩
   rw [List.concat_eq_append] at j hn ⊢
   refine QaG (fun ρ=>ρ=[some (.frz (flD z F)),some (.frz (rD N)),some (.frz (.lst (ls.map pnD))),some (.own (rD R)),s,some (.own (.lst (wt0.map npD))),some (.frz (npD e))]) ?_ ?_
   ·refine W_bind.mpr ?_
    refine Qtt (par:=false) (xs:=wt0.map npD) (d:=npD e) (by rw [List.map_append];rfl) (by have:=QeN (wt0++[e]);rw [List.map_append] at this;exact this) ?_
    rcases ht with rfl | ⟨_,rfl⟩<;>exact W_ok.mpr ⟨rfl,rfl⟩
   rintro ρ rfl
   have oke:=(j.i1 e (List.mem_append_right _ List.mem_cons_self)).1
   have ie:=(QaW oke).1
   refine W_bind.mpr ⟨(decide (atL R e.2=e.1),[some (.frz (flD z F)),some (.frz (rD N)),some (.frz (.lst (ls.map pnD))),some (.own (rD R)),s,some (.own (.lst (wt0.map npD))),some (.frz (npD e))]),W_eq.mp ?_,?_⟩
   ·simp? only [npD,QaK (QeY j.rc ie),true_and]
   dsimp only
   rw [List.length_append] at hn
   simp only [List.length_cons,List.length_nil] at hn
   by_cases c:atL R e.2=e.1
   ·rw [decide_eq_true c,if_pos rfl]
    have pw0:=(List.pairwise_append.mp j.pw).1
    have hg:=Qok (z:=z) (e:=e) rf j.rc h1 pw0 (fun x hx=>j.i1 x (List.mem_append_left _ hx)) (by omega) ie
    simp? only []
    refine QqP (dis:=[rD R,.lst (wt0.map npD)]) (P:=Qt0 h w F e R wt0) rfl hg ?_
    rintro d os ⟨_,R',wt',rfl,g⟩
    obtain ⟨j',nd,_⟩:=j.give nf c g
    refine ⟨trivial,wt'.length+5 * QeD (cel w h) (fun p=>dn p || decide (p=e.2)),?_,R',wt',some (.frz (npD e)),_,.inr ⟨_,rfl⟩,j',Nat.le_refl _,?_,rfl⟩
    ·have a:=Qf0 (cel_mem.mpr ie) nd
     have b:=g.ln
     have c:=Qog (h:=h) (w:=w) (F:=F) e.2
     omega
    ·have a:=Qf0 (cel_mem.mpr ie) nd
     have b:=g.ln
     have c:=Qog (h:=h) (w:=w) (F:=F) e.2
     omega
   ·rw [decide_eq_false c,if_neg (by decide)]
    exact W_ok.mpr ⟨rfl,wt0.length+5 * QeD (cel w h) dn,by omega,R,wt0,some (.frz (npD e)),dn,.inr ⟨_,rfl⟩,j.stale c,Nat.le_refl _,by omega,rfl⟩
  ·refine ⟨R0,QiS Qcx (gvL h w F R0 least),none,fun _=>false,.inl rfl,Qmu r0 least,?_,by decide,rfl⟩
   have a:=Qqs (h:=h) (w:=w) (F:=F) (R:=R0) (least:=least)
   have b:=Qmx (cel w h) (fun _=>false)
   rw [QcB] at b
   rw [(Qcr (lt:=Qcx) (gvL h w F R0 least)).length_eq]
   omega
 rintro ρ ⟨R,t,dn,ht,j,rfl⟩
 simp? only []
 refine ⟨_,[],rfl,?_,rfl,R,rfl,?_⟩
 ·rcases hs with rfl | ⟨_,rfl⟩<;>rcases ht with rfl | ⟨_,rfl⟩<;>rfl
 ·subst e0
  refine ⟨j.rc,j.up,j.fin nf hlow,fun q hq=>(j.so q hq).imp id fun ⟨u,hu,hn,hv⟩=>⟨u,(j.d1 u hu).1,hn,hv⟩⟩)
end
variable {z:Z}
section
variable {h w:Nat}{F R N:List (List Int)}{p:Int × Int}{ls:List PN}
theorem Qjz {l:List Int}(hl:l.length<=30):Qa3 z [rwI l]=.ok .non []:=QbB (QgE (by
 unfold QbZ
 refine W_bind.mpr ⟨(false,[some (.frz (rwI l))]),W_eq.mp ?_,W_ok.mpr ⟨_,rfl,rfl,rfl,rfl⟩⟩
 have e3:siK (rwI l,[some (.frz (rwI l))])=.ok (l.map D.int,[some (.frz (rwI l))]):=rfl
 simp? only [e3]
 refine Qg8 (g:=fun _=>.bl true) (di:=[]) (ρb:=[none]) (os:=[]) rfl rfl ?_ (by rw [sizeLine_eq,List.length_map];omega) rfl rfl ?_
 ·intro d hd
  obtain ⟨i,hi,rfl⟩:=List.mem_map.mp hd
  exact ⟨[some (.frz (.int i))],rfl,W_eq.mp (by simp? only [QaK QiN,true_and]),rfl⟩
 ·have e4:Qrb [.lst (List.map (fun _=>D.bl true) (l.map D.int))]=some (.bl true):=by
   have e5:List.map (fun _=>D.bl true) (l.map D.int)=(l.map fun _=>true).map D.bl:=by rw [List.map_map,List.map_map];rfl
   rw [e5,Qoy]
   congr 2
   rw [List.all_map]
   exact List.all_eq_true.mpr fun _ _=>rfl
  simp? only [e4]))
theorem Qm4 (rf:Rc h w F)(rn:Rc h w N)(h1:1<=h)(hw:w<=30):QbO z [flD z F,rD N]=.ok .non []:=QbB (QgE (by
 unfold Qc2
 have i1:=Qb1 (z:=z) (F:=F) (nm := "high") (by decide)
 have i2:=Qb1 (z:=z) (F:=F) (nm := "wide") (by decide)
 have g1:Qcl [rD N]=some (.int h):=by unfold rD;simp [Qcl,rn.hi]
 refine QaG (fun ρ=>ρ=[some (.frz (flD z F)),some (.frz (rD N)),none]) ?_ ?_
 ·refine W_bind.mpr ⟨(false,[some (.frz (flD z F)),some (.frz (rD N)),none]),W_eq.mp ?_,W_ok.mpr ⟨rfl,rfl⟩⟩
  simp? only [i1,g1,QaK (show QaC z [rD N]=.ok (.bl true) [] from rfl),QaK (Qj0 rf),true_and,ne_eq,not_true_eq_false]
 rintro ρ rfl
 have e3:siK (rD N,[some (.frz (flD z F)),some (.frz (rD N)),none])=.ok (N.map rwI,[some (.frz (flD z F)),some (.frz (rD N)),none]):=rfl
 simp? only [e3]
 refine QdX (fun i ρ=>∃ s,frO s/\ρ=[some (.frz (flD z F)),some (.frz (rD N)),s]) ⟨none,.inl rfl,rfl⟩ ?_ ?_
 ·rintro i d ρ hd ⟨s,hs,rfl⟩
  rw [List.getElem?_map] at hd
  obtain ⟨l,hl,rfl⟩:=Option.map_eq_some_iff.mp hd
  have el:=rn.wi l (List.mem_of_getElem? hl)
  have g2:Qcl [rwI l]=some (.int w):=by show some (D.int ((l.map D.int).length:Nat))=_;rw [List.length_map,el]
  refine ⟨[some (.frz (flD z F)),some (.frz (rD N)),some (.frz (rwI l))],?_,?_⟩
  ·rcases hs with rfl | ⟨_,rfl⟩<;>rfl
  refine QaG (fun ρ=>ρ=[some (.frz (flD z F)),some (.frz (rD N)),some (.frz (rwI l))]) ?_ ?_
  ·refine W_bind.mpr ⟨(false,[some (.frz (flD z F)),some (.frz (rD N)),some (.frz (rwI l))]),W_eq.mp ?_,W_ok.mpr ⟨rfl,rfl⟩⟩
   simp? only [i2,g2,QaK (show QaC z [rwI l]=.ok (.bl true) [] from rfl),QaK (QhK rf h1),true_and,ne_eq,not_true_eq_false]
  rintro ρ rfl
  simp? only [QaK (Qjz (z:=z) (l:=l) (by omega))]
  exact ⟨trivial,trivial,_,.inr ⟨_,rfl⟩,rfl⟩
 ·rintro ρ ⟨s,hs,rfl⟩
  refine ⟨[],rfl,?_,trivial,rfl⟩
  rcases hs with rfl | ⟨_,rfl⟩<;>rfl))
theorem Qk5 {s:Int}(rf:Rc h w F)(h1:1<=h)(hp:inR h w p):Qbv z [flD z F,pnD (p,s)]=.ok .non []:=QbB (QgE (by
 unfold QcP
 have i1:=Qb1 (z:=z) (F:=F) (nm := "check_place") (by decide)
 simp? only [pnD,QaK (Qka (a:=pl p) (b:=.int s)),i1,QaK (Qgj rf h1 hp),true_and]
 exact ⟨_,rfl,rfl⟩))
def unL (h w:Nat)(N R:List (List Int)):List (Int × Int):=(cel w h).filter fun p=>decide (atL N p≠atL R p)
theorem Qkr (rn:Rc h w N)(r:Rc h w R)(hh:h<=30)(hw:w<=30):QdS z [rD N,rD R]=.ok (.lst ((unL h w N R).map pl)) []:=QbB (Qbt (by
 unfold QfL
 have hz:h * w<=900:=Nat.le_trans (Nat.mul_le_mul hh hw) (by decide)
 simp? only [Qfg (Qhx rn hh hw)]
 refine QmZ (f:=fun d=>match d with | .nd .tup [.int a,.int b]=>decide (atL N (a,b)≠atL R (a,b)) | _=>false) (g:=fun d=>d) (di:=[]) (ρb:=[none,some (.frz (rD N)),some (.frz (rD R))]) (os:=[]) rfl rfl ?_ (by rw [sizeLine_eq,List.length_map,QcB];omega) rfl rfl ?_
 ·intro d hd
  obtain ⟨q,hq,rfl⟩:=List.mem_map.mp hd
  have c:=cel_mem.mp hq
  refine ⟨[some (.frz (pl q)),some (.frz (rD N)),some (.frz (rD R))],rfl,W_eq.mp ?_,fun _=>rfl,rfl⟩
  simp? only [QaK (QeY rn c),QaK (QeY r c),true_and]
  rfl
 have e9:(((cel w h).map pl).filter (fun d=>match d with | .nd .tup [.int a,.int b]=>decide (atL N (a,b)≠atL R (a,b)) | _=>false)).map (fun d=>d)=(unL h w N R).map pl:=by
  rw [List.map_id'' (fun _=>rfl),List.filter_map];rfl
 rw [e9]
 simp? only []
 exact ⟨_,_,rfl,rfl,rfl,rfl⟩))
def Qua (h w:Nat)(F N:List (List Int))(ls:List PN)(d:D)(os:List D):Prop:=os=[]/\∃ R,d=.tup [rD R,.lst ((unL h w N R).map pl)]/\QpO h w F N ls R
theorem Qkv (rf:Rc h w F)(nf:Nn h w F)(rn:Rc h w N)(h1:1<=h)(hh:h<=30)(w1:1<=w)(hw:w<=30)(hl:∀ x∈ls,okN h w F x.1=true)(h64:(gvL h w F (ls.foldl lft N) (QbK ((ls.foldl lft N).map QbK))).length<64) :
  FW (QdM z [flD z F,rD N,.lst (ls.map pnD)]) (Qua h w F N ls):=Qbt (by
 unfold QfD
 refine QaG (fun ρ=>ρ=[some (.frz (flD z F)),some (.frz (rD N)),some (.frz (.lst (ls.map pnD))),none,none]) ?_ ?_
 ·simp? only [QaK (Qm4 (z:=z) rf rn h1 hw)]
  exact ⟨trivial,trivial,trivial⟩
 rintro ρ rfl
 refine QaG (fun ρ=>∃ s,frO s/\ρ=[some (.frz (flD z F)),some (.frz (rD N)),some (.frz (.lst (ls.map pnD))),s,none]) ?_ ?_
 ·simp? only []
  refine QdX (fun i ρ=>∃ s,frO s/\ρ=[some (.frz (flD z F)),some (.frz (rD N)),some (.frz (.lst (ls.map pnD))),s,none]) ⟨none,.inl rfl,rfl⟩ ?_ ?_
  ·rintro i d ρ hd ⟨s,hs,rfl⟩
   rw [List.getElem?_map] at hd
   obtain ⟨x,hx,rfl⟩:=Option.map_eq_some_iff.mp hd
   have hm:=List.mem_of_getElem? hx
   refine ⟨[some (.frz (flD z F)),some (.frz (rD N)),some (.frz (.lst (ls.map pnD))),some (.frz (pnD x)),none],?_,?_⟩
   ·rcases hs with rfl | ⟨_,rfl⟩<;>rfl
   simp? only [QaK (Qk5 (z:=z) (s:=x.2) (p:=x.1) rf h1 (QaW (hl x hm)).1)]
   exact ⟨trivial,trivial,_,.inr ⟨_,rfl⟩,rfl⟩
  ·rintro ρ ⟨s,hs,rfl⟩
   exact ⟨rfl,s,hs,rfl⟩
 rintro ρ ⟨s,hs,rfl⟩
 refine QaG (fun ρ=>∃ R,QpO h w F N ls R/\ρ=[some (.frz (flD z F)),some (.frz (rD N)),some (.frz (.lst (ls.map pnD))),s,some (.own (rD R))]) ?_ ?_
 ·simp? only []
  refine Qmf (P:=fun d os=>os=[]/\∃ R,d=rD R/\QpO h w F N ls R) (QjU rf nf rn h1 hh w1 hw hl h64) fun d os ⟨e1,R,e2,sp⟩=>⟨(fun q=>nomatch q),?_⟩
  subst e2
  simp? only []
  exact ⟨trivial,R,sp,rfl⟩
 rintro ρ ⟨R,sp,rfl⟩
 simp? only [Qfg (Qkr (z:=z) rn sp.rc hh hw)]
 rw [Qnx (q:=([rD R,.lst ((unL h w N R).map pl)],[some (.frz (flD z F)),some (.frz (rD N)),some (.frz (.lst (ls.map pnD))),s,none])) rfl (by rw [sizeLine_eq];show (2:Nat)<=16777216;decide)]
 simp? only []
 refine ⟨_,[],rfl,?_,rfl,R,rfl,sp⟩
 rcases hs with rfl | ⟨_,rfl⟩<;>rfl)
end
variable {z:Z}
theorem Qie {a b:Int × Int}(e:Qf4 a=Qf4 b):a=b:=by
 have:=(List.cons.inj e)
 exact Prod.ext (Sum.inl.inj this.1) (Sum.inl.inj (List.cons.inj this.2).1)
def QaZ (ls:List PN):D:=.nd (.dT (ls.map fun x=>Qf4 x.1)) (ls.map fun x=>.int x.2)
def Qcp:List PN->Int × Int->Int
 | [],_=>0
 |x :: r,q=>if x.1=q then x.2 else Qcp r q
def Qnq (ls:List PN)(q:Int × Int)(v:Int):List PN:=if (ls.any fun x=>decide (x.1=q))=true then ls.map (fun x=>if x.1=q then (x.1,v) else x) else ls++[(q,v)]
theorem Qhj:∀ {ls:List PN} {q:Int × Int},(ls.any fun x=>decide (x.1=q))=false->Qcp ls q=0
 | [],_,_=>rfl
 |x :: r,q,h=>by
  rw [List.any_cons,Bool.or_eq_false_iff] at h
  rw [Qcp,if_neg (of_decide_eq_false h.1),Qhj h.2]
theorem QfB:∀ {ls:List PN} {q p:Int × Int} {v:Int},(ls.any fun x=>decide (x.1=q))=false->Qcp (ls++[(q,v)]) p=if p=q then v else Qcp ls p
 | [],q,p,v,_=>by
  show (if q=p then v else 0)=_
  by_cases e:p=q
  ·rw [if_pos e,if_pos e.symm]
  ·rw [if_neg e,if_neg (Ne.symm e)];rfl
 |x :: r,q,p,v,h=>by
  rw [List.any_cons,Bool.or_eq_false_iff] at h
  rw [List.cons_append,Qcp,QfB h.2,Qcp]
  by_cases e:x.1=p
  ·rw [if_pos e,if_pos e,if_neg fun q'=>of_decide_eq_false h.1 (e.trans q')]
  ·rw [if_neg e,if_neg e]
theorem Qga:∀ {ls:List PN} {q p:Int × Int} {v:Int},(ls.any fun x=>decide (x.1=q))=true->Qcp (ls.map fun x=>if x.1=q then (x.1,v) else x) p=if p=q then v else Qcp ls p
 | [],q,p,v,h=>by cases h
 |x :: r,q,p,v,h=>by
  rw [List.map_cons]
  by_cases e:x.1=q
  ·rw [if_pos e,Qcp,Qcp]
   by_cases e2:x.1=p
   ·rw [if_pos e2,if_pos (e2.symm.trans e)]
   ·rw [if_neg e2,if_neg e2,if_neg fun k=>e2 (e.trans k.symm)]
    by_cases h':(r.any fun x=>decide (x.1=q))=true
    ·rw [Qga h',if_neg fun k=>e2 (e.trans k.symm)]
    ·rw [show (r.map fun x=>if x.1=q then (x.1,v) else x)=r from by
      refine (List.map_congr_left fun y hy=>?_).trans (List.map_id r)
      rw [if_neg fun k=>h' (List.any_eq_true.mpr ⟨y,hy,decide_eq_true k⟩)];rfl]
  ·rw [if_neg e,Qcp,Qcp]
   have h':(r.any fun x=>decide (x.1=q))=true:=by
    rw [List.any_cons,decide_eq_false e,Bool.false_or] at h;exact h
   by_cases e2:x.1=p
   ·rw [if_pos e2,if_pos e2,if_neg fun k=>e (e2.trans k)]
   ·rw [if_neg e2,if_neg e2,Qga h']
theorem Qmr {ls:List PN}{q p:Int × Int}{v:Int}:Qcp (Qnq ls q v) p=if p=q then v else Qcp ls p:=by
 unfold Qnq
 by_cases h:(ls.any fun x=>decide (x.1=q))=true
 ·rw [if_pos h,Qga h]
 ·rw [if_neg h,QfB (Bool.eq_false_iff.mpr h)]
theorem QoT {ls:List PN}{q:Int × Int}:((ls.map fun x=>Qf4 x.1).any fun x=>decide (x=Qf4 q))=ls.any fun x=>decide (x.1=q):=by
 rw [List.any_map]
 congr 1
 funext x
 exact decide_eq_decide.mpr ⟨Qie,fun e=>congrArg Qf4 e⟩
theorem QpE {ls:List PN}{q:Int × Int}{v:Int}:List.zipWith (fun x y=>if x=Qf4 q then D.int v else y) (ls.map fun x=>Qf4 x.1) (ls.map fun x=>D.int x.2)=(ls.map fun x=>if x.1=q then (x.1,v) else x).map fun x=>D.int x.2:=by
 induction ls with
 |nil=>rfl
 |cons x r ih=>
  rw [List.map_cons,List.map_cons,List.zipWith_cons_cons,ih,List.map_cons,List.map_cons]
  congr 1
  by_cases e:x.1=q
  ·rw [if_pos e,if_pos (by rw [e])]
  ·rw [if_neg e,if_neg fun k=>e (Qie k)]
theorem QoZ {ls:List PN}{q:Int × Int}{v:Int}:(ls.map fun x=>if x.1=q then (x.1,v) else x).map (fun x=>Qf4 x.1)=ls.map fun x=>Qf4 x.1:=by
 rw [List.map_map]
 refine List.map_congr_left fun x _=>?_
 show Qf4 (if x.1=q then (x.1,v) else x).1=_
 split<;>rfl
theorem QmX (ls:List PN):D.immL (ls.map fun x=>.int x.2)=true:=by
 induction ls with
 |nil=>rfl
 |cons x r ih=>rw [List.map_cons];exact Bool.and_eq_true_iff.mpr ⟨rfl,ih⟩
theorem QkE {par:Bool}{i:Nat}{ρ:Rho}{mv mk:ME}{ls:List PN}{v:Int}{q:Int × Int}{kf:Fl × Rho->Prop}(hi:ρ[i]? = some (some (mkS par (QaZ ls))))(h1:mv ρ=.ok (.int v,ρ))(h2:mk ρ=.ok (pl q,ρ))(hl:ls.length<sizeLine)
  (h:kf (.nx,ρ.set i (some (mkS par (QaZ (Qnq ls q v)))))):W (Ql6 i mv mk ρ) kf:=by
 have e1:Qnw ρ i=some (par,ls.map (fun x=>Qf4 x.1),ls.map fun x=>.int x.2):=by unfold Qnw;rw [hi];cases par<;>rfl
 refine ⟨_,?_,h⟩
 unfold Ql6
 rw [h1]
 show ((Rs.of (Qnw ρ i)).bind _)=_
 rw [e1]
 show ((mk ρ).bind _)=_
 rw [h2]
 show ((Rs.of (Qnw ρ i)).bind _)=_
 rw [e1]
 show (if (ls.map fun x=>Qf4 x.1).length<sizeLine then (if ((D.int v).imm && D.immL (ls.map fun x=>.int x.2))=true then Rs.ok (Fl.nx,ρ.set i (some (mkS par (.nd (.dT (Qmc (ls.map fun x=>Qf4 x.1) (ls.map fun x=>.int x.2) (Qf4 q) (.int v)).1) (Qmc (ls.map fun x=>Qf4 x.1) (ls.map fun x=>.int x.2) (Qf4 q) (.int v)).2)))) else .no) else .no)=_
 rw [if_pos (by rw [List.length_map];exact hl),if_pos (by rw [QmX];rfl)]
 congr 4
 unfold Qmc Qnq QaZ
 rw [QoT]
 by_cases hn:(ls.any fun x=>decide (x.1=q))=true
 ·rw [if_pos hn,if_pos hn]
  dsimp only
  rw [QpE,QoZ]
 ·rw [if_neg hn,if_neg hn,List.map_append,List.map_append];rfl
theorem Qi3:∀ {ls:List PN} {q:Int × Int},(match Qk6 (ls.map fun x=>Qf4 x.1) (ls.map fun x=>D.int x.2) (Qf4 q) with | some d=>if d.imm=true then some d else none | none=>some (.int 0))=some (D.int (Qcp ls q))
 | [],_=>rfl
 |x :: r,q=>by
  rw [List.map_cons,List.map_cons,Qk6,Qcp]
  by_cases e:x.1=q
  ·rw [if_pos e,if_pos (by rw [e])];rfl
  ·rw [if_neg e,if_neg fun k=>e (Qie k)];exact Qi3
theorem QiF {md mk:ME}{ρ:Rho}{ls:List PN}{q:Int × Int}(h1:md ρ=.ok (QaZ ls,ρ))(h2:mk ρ=.ok (pl q,ρ)):QhB md mk (mC (.int 0)) ρ=.ok (.int (Qcp ls q),ρ):=
 QpI h1 h2 rfl Qi3
theorem QoV (xs:List Int)(k:Int)(hk:0<=k):∃ c:Int,Qb5 z [script xs,.int k]=.ok (.int c) []:=by
 by_cases h:k<xs.length
 ·refine ⟨xs.getD k.toNat 0,QbB (Qbt ?_)⟩
  unfold QcI
  have g1:Qcl [script xs]=some (.int xs.length):=by show some (D.int ((xs.map D.int).length:Nat))=_;rw [List.length_map]
  have g2:atI (xs.map D.int) k=some (.int (xs.getD k.toNat 0)):=QcX D.int 0 hk (by omega)
  have g3:gIx (script xs) (.int k)=some (.int (xs.getD k.toNat 0)):=g2
  simp? only [g1,h,g3]
  exact ⟨_,_,rfl,rfl,rfl,rfl⟩
 ·refine ⟨0,QbB (Qbt ?_)⟩
  unfold QcI
  have g1:Qcl [script xs]=some (.int xs.length):=by show some (D.int ((xs.map D.int).length:Nat))=_;rw [List.length_map]
  simp? only [g1,h]
  exact ⟨_,_,rfl,rfl,rfl,rfl⟩
theorem QiU (xs:List Int)(k:Int)(hk:0<=k):FW (QaQ z [script xs,.int k]) (fun d os=>os=[]/\Pot d):=Qbt (by
 unfold QcY
 obtain ⟨c,ec⟩:=QoV (z:=z) xs k hk
 have c1:QnT 10 18:=⟨by decide,by decide,by decide⟩
 have c2:CMul 101 k:=.inl (by decide)
 simp? only [QaK ec,c1]
 refine ⟨trivial,?_⟩
 refine QfN (fun h=>?_) (fun h=>?_)
 ·obtain ⟨r,er⟩:=QlH (z:=z) (c+101 * k)
  simp? only [c2,QaK er]
  exact ⟨trivial,_,_,rfl,rfl,rfl,_,_,rfl⟩
 ·simp? only []
  exact ⟨_,_,rfl,rfl,rfl,_,_,rfl⟩)
section
variable {h w:Nat}{F:List (List Int)}
theorem Qhl (hw:1<=w):∀ h:Nat,(List.range (h * w)).map (fun (j:Nat)=>(((j:Int) / w,(j:Int) % w):Int × Int))=cel w h
 |0=>by rw [Nat.zero_mul];rfl
 |h+1=>by
  rw [Nat.succ_mul,List.range_add,List.map_append,Qhl hw h,cel]
  congr 1
  rw [List.map_map]
  refine List.map_congr_left fun k hk=>?_
  have hk:=List.mem_range.mp hk
  have e1:(((h * w+k:Nat):Int)) / w=h:=by
   have:(h * w+k) / w=h:=by rw [Nat.mul_comm,Nat.mul_add_div (by omega),Nat.div_eq_of_lt hk];rfl
   exact (Int.natCast_ediv _ _).symm.trans (congrArg _ this)
  have e2:(((h * w+k:Nat):Int)) % w=k:=by
   have:(h * w+k) % w=k:=by rw [Nat.mul_comm,Nat.mul_add_mod,Nat.mod_eq_of_lt hk]
   exact (Int.natCast_emod _ _).symm.trans (congrArg _ this)
  show ((((h * w+k:Nat):Int)) / w,(((h * w+k:Nat):Int)) % w)=_
  rw [e1,e2]
theorem Qfo (r:Rc h w F)(h1:1<=h)(hh:h<=30)(w1:1<=w)(hw:w<=30):Qba z [rD F]=.ok (.lst ((cel w h).map pl)) []:=QbB (Qbt (by
 unfold QcG
 have hz:h * w<=900:=Nat.le_trans (Nat.mul_le_mul hh hw) (by decide)
 have g1:Qcl [rD F]=some (.int h):=by unfold rD;simp [Qcl,r.hi]
 have g2:Qcl [rwI (F.getD (0:Int).toNat [])]=some (.int w):=by
  have:=r.row (i:=0) (by decide) (by omega)
  unfold rwI
  simp only [Qcl,List.length_map,this]
 simp only [Int.toNat_zero] at g2
 have c1:CMul h w:=.inl ⟨by omega,by omega⟩
 have em:(h:Int) * (w:Int)=((h * w:Nat):Int):=(Int.natCast_mul h w).symm
 have b1:(-4611686018427387904:Int)<=((h * w:Nat):Int)/\((h * w:Nat):Int)<4611686018427387904:=by omega
 simp? only [QgI r (i:=0) (by decide) (by omega),g2,g1,c1,em,b1,and_self,Int.toNat_natCast]
 refine Qg8 (g:=fun d=>match d with | .int k=>.tup [.int (k / w),.int (k % w)] | _=>d) (di:=[]) (ρb:=[none,some (.frz (.int w))]) (os:=[]) rfl rfl ?_ (by rw [sizeLine_eq,List.length_map,List.length_range];omega) rfl rfl ?_
 ·intro d hd
  obtain ⟨n,hn,rfl⟩:=List.mem_map.mp hd
  have c2:∀ a,Qgn a (w:Int):=fun a=>⟨by omega,by omega⟩
  have c3:(0:Int)<w:=by omega
  exact ⟨[some (.frz (.int (0+(n:Nat)))),some (.frz (.int w))],rfl,W_eq.mp (by simp? only [c2,c3]),rfl⟩
 ·have e:List.map (fun d=>match d with | D.int k=>D.tup [.int (k / w),.int (k % w)] | _=>d) (List.map (fun (j:Nat)=>D.int (0+(j:Int))) (List.range (h * w)))=(cel w h).map pl:=by
   rw [← Qhl w1 h,List.map_map,List.map_map]
   refine List.map_congr_left fun k _=>?_
   show D.tup [.int ((0+(k:Int)) / w),.int ((0+(k:Int)) % w)]=D.tup [.int ((k:Int) / w),.int ((k:Int) % w)]
   rw [Int.zero_add]
  rw [e]
  simp? only []
  exact ⟨_,_,rfl,rfl,rfl,rfl⟩))
end
variable {z:Z}
section
variable {h w n:Nat}{F:List (List Int)}{p:Nat->Int × Int}{giv:List PN}
def alP (F:List (List Int))(giv:List PN)(p:Nat->Int × Int):Nat->Int:=QiI (fun i=>atL F (p i)) (fun i=>Qcp giv (p i))
def alK (F:List (List Int))(giv:List PN)(p:Nat->Int × Int)(n:Nat):List PN:=(List.range n).map fun j=>(p j,alP F giv p j)
theorem Qj6 (inj:∀ i j,i<n->j<n->p i=p j->i=j){i:Nat}(hi:i<n):Qcp (alK F giv p n) (p i)=alP F giv p i:=by
 have key:∀ {m:Nat},m<=n->Qcp (alK F giv p m) (p i)=if i<m then alP F giv p i else 0:=fun {m}=>by
  induction m with
  |zero=>intro _;rw [if_neg (by omega)];rfl
  |succ m ih=>
   intro hm
   unfold alK
   rw [List.range_succ,List.map_append,List.map_singleton]
   have hn:((alK F giv p m).any fun x=>decide (x.1=p m))=false:=by
    rw [Bool.eq_false_iff]
    intro e
    obtain ⟨x,hx,e⟩:=List.any_eq_true.mp e
    obtain ⟨j,hj,rfl⟩:=List.mem_map.mp hx
    have:=List.mem_range.mp hj
    have:=inj j m (by omega) (by omega) (of_decide_eq_true e)
    omega
   have:=QfB (p:=p i) (v:=alP F giv p m) hn
   unfold alK at this
   rw [this]
   have ih:=ih (by omega)
   unfold alK at ih
   by_cases e:i=m
   ·subst e;rw [if_pos rfl,if_pos (by omega)]
   ·rw [if_neg fun q=>e (inj i m hi (by omega) q),ih]
    by_cases q:i<m
    ·rw [if_pos q,if_pos (by omega)]
    ·rw [if_neg q,if_neg (by omega)]
 rw [key (Nat.le_refl n),if_pos hi]
theorem Qly {q:Int × Int}(hq:∀ i,i<n->p i≠q):Qcp (alK F giv p n) q=0:=by
 refine Qhj (Bool.eq_false_iff.mpr fun e=>?_)
 obtain ⟨x,hx,e⟩:=List.any_eq_true.mp e
 obtain ⟨j,hj,rfl⟩:=List.mem_map.mp hx
 exact hq j (List.mem_range.mp hj) (of_decide_eq_true e)
theorem QoA (inj:∀ i j,i<n->j<n->p i=p j->i=j){i:Nat}(hi:i<n):Qnq (alK F giv p i) (p i) (alP F giv p i)=alK F giv p (i+1):=by
 have hn:((alK F giv p i).any fun x=>decide (x.1=p i))=false:=by
  rw [Bool.eq_false_iff]
  intro e
  obtain ⟨x,hx,e⟩:=List.any_eq_true.mp e
  obtain ⟨j,hj,rfl⟩:=List.mem_map.mp hx
  have:=List.mem_range.mp hj
  have:=inj j i (by omega) (by omega) (of_decide_eq_true e)
  omega
 unfold Qnq
 rw [hn,if_neg (by decide)]
 unfold alK
 rw [List.range_succ,List.map_append,List.map_singleton]
theorem Qix (rf:Rc h w F)(hp:∀ i,i<n->inR h w (p i))(inj:∀ i j,i<n->j<n->p i=p j->i=j)(hn:n<=2000):QaR z [rD F,.lst ((List.range n).map fun i=>pl (p i)),QaZ giv]=.ok (QaZ (alK F giv p n)) []:=QbB (Qbt (by
 unfold Qc0
 have e0:QlB [some (.frz (rD F)),some (.frz (.lst ((List.range n).map fun i=>pl (p i)))),some (.frz (QaZ giv)),none,none,none,none]=.ok (QaZ [],[some (.frz (rD F)),some (.frz (.lst ((List.range n).map fun i=>pl (p i)))),some (.frz (QaZ giv)),none,none,none,none]):=rfl
 refine QaG (fun ρ=>ρ=[some (.frz (rD F)),some (.frz (.lst ((List.range n).map fun i=>pl (p i)))),some (.frz (QaZ giv)),some (.own (QaZ [])),none,none,none]) ?_ ?_
 ·refine W_bind.mpr ⟨_,e0,?_⟩
  exact W_ok.mpr ⟨rfl,rfl⟩
 rintro ρ rfl
 refine QaG (fun ρ=>ρ=[some (.frz (rD F)),some (.frz (.lst ((List.range n).map fun i=>pl (p i)))),some (.frz (QaZ giv)),some (.own (QaZ [])),some (.frz (.int 0)),none,none]) ?_ ?_
 ·simp? only []
  exact ⟨trivial,trivial⟩
 rintro ρ rfl
 refine QaG (fun ρ=>∃ c s t,frO s/\frO t/\ρ=[some (.frz (rD F)),some (.frz (.lst ((List.range n).map fun i=>pl (p i)))),some (.frz (QaZ giv)),some (.own (QaZ (alK F giv p n))),some (.frz (.int c)),s,t]) ?_ ?_
 ·simp? only []
  refine QdX (fun i ρ=>∃ c s t,frO s/\frO t/\(i=0->c=0)/\(∀ j,j+1=i->c=alP F giv p j)/\ρ=[some (.frz (rD F)),some (.frz (.lst ((List.range n).map fun i=>pl (p i)))),some (.frz (QaZ giv)),some (.own (QaZ (alK F giv p i))),some (.frz (.int c)),s,t]) ⟨0,none,none,.inl rfl,.inl rfl,fun _=>rfl,(fun j e=>by omega),rfl⟩ ?_ ?_
  ·rintro i d ρ hd ⟨c,s,t,hs,ht,c0,cS,rfl⟩
   rw [List.getElem?_map] at hd
   obtain ⟨i',hi',rfl⟩:=Option.map_eq_some_iff.mp hd
   obtain ⟨h1,h2⟩:=List.getElem?_eq_some_iff.mp hi'
   rw [List.getElem_range] at h2
   rw [List.length_range] at h1
   subst h2
   have ip:=hp i h1
   refine ⟨[some (.frz (rD F)),some (.frz (.lst ((List.range n).map fun i=>pl (p i)))),some (.frz (QaZ giv)),some (.own (QaZ (alK F giv p i))),some (.frz (.int c)),some (.frz (.int (p i).1)),some (.frz (.int (p i).2))],?_,?_⟩
   ·rcases hs with rfl | ⟨_,rfl⟩<;>rcases ht with rfl | ⟨_,rfl⟩<;>rfl
   have ev:mx3 0 (c - atL F (p i)) (Qcp giv (p i))=alP F giv p i:=by
    unfold alP
    cases i with
    |zero=>rw [c0 rfl];rfl
    |succ i=>rw [cS i rfl];rfl
   refine QaG (fun ρ=>ρ=[some (.frz (rD F)),some (.frz (.lst ((List.range n).map fun i=>pl (p i)))),some (.frz (QaZ giv)),some (.own (QaZ (alK F giv p i))),some (.frz (.int (alP F giv p i))),some (.frz (.int (p i).1)),some (.frz (.int (p i).2))]) ?_ ?_
   ·have eg:=QiF (md:=mV 2) (mk:=Qe6 (Qab (mV 5) (Qab (mV 6) Qal))) (ρ:=[some (.frz (rD F)),some (.frz (.lst ((List.range n).map fun i=>pl (p i)))),some (.frz (QaZ giv)),some (.own (QaZ (alK F giv p i))),some (.frz (.int c)),some (.frz (.int (p i).1)),some (.frz (.int (p i).2))]) (ls:=giv) (q:=p i) rfl (W_eq.mp (by simp? only [];rfl))
    have gm:QmE [.int 0,.int (c - atL F (p i)),.int (Qcp giv (p i))]=some (.int (alP F giv p i)):=by rw [← ev];rfl
    simp? only [QgI rf ip.1 ip.2.1,Qkp rf ip,eg,gm]
    exact ⟨trivial,trivial⟩
   rintro ρ rfl
   refine QkE (par:=false) (ls:=alK F giv p i) (v:=alP F giv p i) (q:=p i) rfl (W_eq.mp (by simp? only [])) (W_eq.mp (by simp? only [];rfl)) (by rw [sizeLine_eq];unfold alK;rw [List.length_map,List.length_range];omega) ?_
   rw [QoA inj h1]
   exact ⟨rfl,_,_,_,.inr ⟨_,rfl⟩,.inr ⟨_,rfl⟩,(fun e=>by omega),(fun j e=>by rw [show j=i by omega]),rfl⟩
  ·rintro ρ ⟨c,s,t,hs,ht,_,_,rfl⟩
   rw [List.length_map,List.length_range]
   exact ⟨rfl,c,s,t,hs,ht,rfl⟩
 rintro ρ ⟨c,s,t,hs,ht,rfl⟩
 simp? only []
 refine ⟨_,[],rfl,?_,rfl,rfl⟩
 rcases hs with rfl | ⟨_,rfl⟩<;>rcases ht with rfl | ⟨_,rfl⟩<;>rfl))
end
variable {z:Z}
def Qss (d:D):Prop:=∃ r:Int,d=.int r/\1<=r/\r<Qdc
theorem Qjd:∀ {r:List D},(∀ x∈r,Qss x)->∃ l:List Int,r=l.map D.int/\∀ x∈l,1<=x/\x<Qdc
 | [],_=>⟨[],rfl,fun _ h=>nomatch h⟩
 |x :: r,h=>by
  obtain ⟨l,e,hl⟩:=Qjd fun y hy=>h y (List.mem_cons_of_mem _ hy)
  obtain ⟨n,rfl,h0,h1⟩:=h x List.mem_cons_self
  refine ⟨n :: l,by rw [e];rfl,fun y hy=>?_⟩
  rcases List.mem_cons.mp hy with rfl | hy
  ·exact ⟨h0,h1⟩
  ·exact hl y hy
structure Qic (w r:Nat)(l:List Int):Prop where
 len:l.length=w
 ok:∀ x∈l,0<=x/\x<Qdc
 ev:∀ c:Nat,c<w->r % 2=0->1<=l.getD c 0
 on:∀ c:Nat,c<w->r % 2=1->(c:Int)=QdB w r->1<=l.getD c 0
 off:∀ c:Nat,c<w->r % 2=1->(c:Int)≠QdB w r->l.getD c 0=0
theorem Qij {l:List Int}{c:Nat}(h:c<l.length):l.getD c 0∈l:=by
 rw [List.getD_eq_getElem?_getD,List.getElem?_eq_getElem h];exact List.getElem_mem h
def QbF (w n:Nat):D:=.lst ((List.range n).map fun i=>pl (Qa0 w i))
def QmG (w r:Nat):List Int:=if r % 4=2 then ((List.range w).map fun (j:Nat)=>(j:Int)).reverse else (List.range w).map fun (j:Nat)=>(j:Int)
def Qoe (w r:Nat)(l:List Int):List Int:=(List.range w).map fun (c:Nat)=>l.getD c 0 * (if (c:Int)=QdB w r then 1 else 0)
theorem Qmp {w r:Nat}{l:List Int}(hl:l.length=w)(hp:∀ x∈l,1<=x/\x<Qdc)(ho:¬ r % 2=1):Qic w r l where
 len:=hl
 ok:=fun x hx=>by have:=hp x hx;omega
 ev:=fun c hc _=>(hp _ (Qij (by omega))).1
 on:=fun c hc q=>absurd q ho
 off:=fun c hc q=>absurd q ho
theorem QkG {w r c:Nat}{l:List Int}(hc:c<w):(Qoe w r l).getD c 0=l.getD c 0 * (if (c:Int)=QdB w r then 1 else 0):=by
 unfold Qoe
 rw [List.getD_eq_getElem?_getD,List.getElem?_map,List.getElem?_range hc];rfl
theorem Qpw {w r:Nat}{l:List Int}(hl:l.length=w)(hp:∀ x∈l,1<=x/\x<Qdc)(ho:r % 2=1):Qic w r (Qoe w r l) where
 len:=by unfold Qoe;simp
 ok:=fun x hx=>by
  obtain ⟨c,hc,rfl⟩:=List.mem_map.mp hx
  have:=hp _ (Qij (l:=l) (c:=c) (by rw [hl];exact List.mem_range.mp hc))
  have t:(0:Int)<Qdc:=by decide
  split
  ·rw [Int.mul_one];omega
  ·rw [Int.mul_zero];omega
 ev:=fun c hc q=>by omega
 on:=fun c hc _ e=>by rw [QkG hc,if_pos e,Int.mul_one];exact (hp _ (Qij (by omega))).1
 off:=fun c hc _ e=>by rw [QkG hc,if_neg e,Int.mul_zero]
theorem Qpe {w r:Nat}(hw:1<=w):D.lst ((List.range (Qaz w r)).map (fun i=>pl (Qa0 w i))++(Qdy w r).map fun c=>pl ((r:Int),c))=QbF w (Qaz w (r+1)):=by
 unfold QbF
 have:=congrArg (List.map pl) (Qem (w:=w) (r:=r) hw)
 rw [List.map_append,List.map_map,List.map_map,List.map_map] at this
 exact congrArg D.lst this.symm
section
variable {h w:Nat}{p:D}{L:List (List Int)}{xs:List Int}
theorem QmW {r:Nat}{s7 s9:Option Sl}(w1:1<=w)(hw:w<=30)(hr:r<30)(hL:L.length=r)(h7:s7=none\/∃ d,s7=some (.own d))(h9:frO s9) :
  W ((QaL (Qct 7 (Qaj .O (QaQ z) (Qab (mV 1) (Qab (mOp Qep (mC (.int 1)) (mV 6)) Qal))))
  (QaL (Qct 8 (QbD false [.me,.io 7] 0 (Qek (Qab (mV 3) Qal)) Qgu (mI (Qau QpS (Qab (mC (.int 1)) (Qab (QbS true [some 1] (Qbl z) (Qab (mS 1) Qal)) Qal))))))
  (QaL (QaX 9 (Qja (Qab (mV 3) Qal)))
  (QaL (mIf (QaJ (mOp gEq (mOp Qjf (mV 6) (mC (.int 4))) (mC (.int 2)))) (QaX 9 (QkZ (mV 9))) Qbw)
  (QaL (mIf (QaJ (mOp gEq (mOp Qjf (mV 6) (mC (.int 2))) (mC (.int 1)))) (QaL (QaX 9 (Qoa (Qab (mOp QhQ (mOp TL.QiY (mV 3) (mC (.int 1))) (Qau QnV (Qab (mOp gEq (mOp Qjf (mV 6) (mC (.int 4))) (mC (.int 1))) Qal))) Qal)))
  (Qct 8 (QbD false [.me,.io 8,.fz 9] 0 (Qek (Qab (mV 3) Qal)) Qgu (mI (mOp QhQ (mOp gIx (mB 1) (mV 0)) (Qau QnV (Qab (mOp gEq (mV 0) (mOp gIx (mV 2) (mC (.int 0)))) Qal))))))) Qbw)
  (QaL (QpM 5 (QbD false [.me,.fz 6] 0 (QbP (mV 9)) Qgu (mI (Qe6 (Qab (mV 1) (Qab (mV 0) Qal))))))
  (QpP 4 (mO 8)))))))) [some (.par p),some (.frz (script xs)),some (.frz (.int h)),some (.frz (.int w)),some (.own (rD L)),some (.own (QbF w (Qaz w r))),some (.frz (.int r)),s7,none,s9]) fun q=>q.1=.nx/\∃ q7 l d9,Qic w r l/\
   q.2=[some (.par p),some (.frz (script xs)),some (.frz (.int h)),some (.frz (.int w)),some (.own (rD (L++[l]))),some (.own (QbF w (Qaz w (r+1)))),some (.frz (.int r)),some (.own q7),none,some (.frz d9)]:=by
 refine QaG (fun ρ=>∃ q7,Pot q7/\ρ=[some (.par p),some (.frz (script xs)),some (.frz (.int h)),some (.frz (.int w)),some (.own (rD L)),some (.own (QbF w (Qaz w r))),some (.frz (.int r)),some (.own q7),none,s9]) ?_ ?_
 ·rcases h7 with rfl | ⟨_,rfl⟩ <;>
  ·simp? only []
   refine Qmf (P:=fun d os=>os=[]/\Pot d) (QiU xs (1+(r:Int)) (by omega)) fun d os ⟨_,hq⟩=>⟨(fun q=>nomatch q),?_⟩
   simp? only []
   exact ⟨trivial,d,hq,rfl⟩
 rintro ρ ⟨q7,hq7,rfl⟩
 refine QaG (fun ρ=>∃ q7 l,l.length=w/\(∀ x∈l,1<=x/\x<Qdc)/\ρ=[some (.par p),some (.frz (script xs)),some (.frz (.int h)),some (.frz (.int w)),some (.own (rD L)),some (.own (QbF w (Qaz w r))),some (.frz (.int r)),some (.own q7),some (.own (rwI l)),s9]) ?_ ?_
 ·refine W_bind.mpr ?_
  refine Qrs (Inv:=fun ρ=>∃ q,Pot q/\ρ=[none,some (.par q)]) (Pd:=fun _ y=>Qss y) (di:=[q7]) (ρb:=[none,some (.par q7)]) (Qlx (n:=w) rfl (by omega) (by omega)) rfl rfl ?_ ⟨q7,hq7,rfl⟩ ?_ ?_
  ·rintro d' hd' ρ' ⟨q',hq',rfl⟩
   refine ⟨[some (.frz d'),some (.par q')],rfl,W_ok.mpr ⟨rfl,?_⟩⟩
   simp? only []
   refine Qpf (p:=q') (P:=spP Qks) rfl (QoB hq') fun d _ ⟨p2,e2,hp2,hd⟩=>⟨p2,e2,?_⟩
   obtain ⟨r2,rfl,k0,k1⟩:=hd
   simp? only []
   refine ⟨⟨p2,hp2,rfl⟩,_,rfl,?_⟩
   have t:(1:Int)<Qdc:=by decide
   constructor<;>split<;>omega
  ·simp [sizeLine_eq];omega
  ·rintro ys ρ2 ⟨q2,hq2,rfl⟩ f
   obtain ⟨l,rfl,hl⟩:=Qjd f.all
   have:=f.length
   refine ⟨[q2],rfl,W_ok.mpr ⟨rfl,q2,l,by simpa using this,hl,rfl⟩⟩
 rintro ρ ⟨q7,l,hl,hp,rfl⟩
 refine QaG (fun ρ=>ρ=[some (.par p),some (.frz (script xs)),some (.frz (.int h)),some (.frz (.int w)),some (.own (rD L)),some (.own (QbF w (Qaz w r))),some (.frz (.int r)),some (.own q7),some (.own (rwI l)),some (.frz (.lst (((List.range w).map fun (j:Nat)=>(j:Int)).map D.int)))]) ?_ ?_
 ·have e:Qr1 0 w=((List.range w).map fun (j:Nat)=>(j:Int)).map D.int:=by
   unfold Qr1
   rw [List.map_map]
   refine List.map_congr_left fun k _=>?_
   show D.int (0+(k:Int))=D.int k
   rw [Int.zero_add]
  rcases h9 with rfl | ⟨_,rfl⟩ <;>
  ·simp? only [Qru (show (0:Int)<=w by omega) (show (w:Int)<=16777216 by omega),Int.toNat_natCast,e]
   exact ⟨trivial,trivial⟩
 rintro ρ rfl
 refine QaG (fun ρ=>ρ=[some (.par p),some (.frz (script xs)),some (.frz (.int h)),some (.frz (.int w)),some (.own (rD L)),some (.own (QbF w (Qaz w r))),some (.frz (.int r)),some (.own q7),some (.own (rwI l)),some (.frz (.lst ((QmG w r).map D.int)))]) ?_ ?_
 ·have g4:(0:Int)<4:=by decide
  simp? only [g4]
  refine QfN (fun hc=>?_) (fun hc=>?_)
  ·have hc':r % 4=2:=by omega
   have im:D.immL (((List.range w).map fun (j:Nat)=>(j:Int)).map D.int).reverse=true:=by rw [← List.map_reverse];exact Qdi _
   simp? only [im]
   refine ⟨trivial,?_⟩
   unfold QmG
   rw [if_pos hc',← List.map_reverse]
  ·have hc':¬ r % 4=2:=by omega
   simp? only []
   refine ⟨trivial,?_⟩
   unfold QmG
   rw [if_neg hc']
 rintro ρ rfl
 refine QaG (fun ρ=>∃ l,Qic w r l/\ρ=[some (.par p),some (.frz (script xs)),some (.frz (.int h)),some (.frz (.int w)),some (.own (rD L)),some (.own (QbF w (Qaz w r))),some (.frz (.int r)),some (.own q7),some (.own (rwI l)),some (.frz (.lst ((Qdy w r).map D.int)))]) ?_ ?_
 ·have g2:(0:Int)<2:=by decide
  simp? only [g2]
  refine QfN (fun hc=>?_) (fun hc=>?_)
  ·have hc':r % 2=1:=by omega
   refine QaG (fun ρ=>ρ=[some (.par p),some (.frz (script xs)),some (.frz (.int h)),some (.frz (.int w)),some (.own (rD L)),some (.own (QbF w (Qaz w r))),some (.frz (.int r)),some (.own q7),some (.own (rwI l)),some (.frz (.lst [.int (QdB w r)]))]) ?_ ?_
   ·have g4:(0:Int)<4:=by decide
    have gi:QnV [.bl (decide ((r:Int) % 4=1))]=some (.int (if r % 4=1 then 1 else 0)):=by
     by_cases q:r % 4=1
     ·rw [decide_eq_true (show (r:Int) % 4=1 by omega),if_pos q];rfl
     ·rw [decide_eq_false (show ¬ (r:Int) % 4=1 by omega),if_neg q];rfl
    have cm:CMul ((w:Int) - 1) (if r % 4=1 then 1 else 0):=.inl ⟨by omega,by omega⟩
    have em:((w:Int) - 1) * (if r % 4=1 then 1 else 0)=QdB w r:=by
     unfold QdB
     by_cases q:r % 4=1
     ·rw [if_pos q,if_pos q,Int.mul_one]
     ·rw [if_neg q,if_neg q,Int.mul_zero]
    simp? only [g4,gi,cm,em]
    exact ⟨trivial,trivial⟩
   rintro ρ rfl
   refine W_bind.mpr ?_
   refine ⟨_,QfR (g:=fun d=>match d with | .int c=>.int (l.getD c.toNat 0 * (if c=QdB w r then 1 else 0)) | _=>d) (di:=[rwI l]) (ρb:=[none,some (.par (rwI l)),some (.frz (.lst [.int (QdB w r)]))]) (os:=[rwI l]) (Qlx (n:=w) rfl (by omega) (by omega)) rfl rfl ?_ ?_ rfl rfl,?_⟩
   ·intro d hd
    obtain ⟨c,hc,rfl⟩:=List.mem_map.mp hd
    have hc:=List.mem_range.mp hc
    have hcw:c<w:=by simpa using hc
    refine ⟨[some (.frz (.int (0+(c:Nat)))),some (.par (rwI l)),some (.frz (.lst [.int (QdB w r)]))],rfl,W_eq.mp ?_,rfl⟩
    have gx:gIx (rwI l) (.int (c:Int))=some (.int (l.getD c 0)):=by
     have:=QcX (xs:=l) D.int 0 (i:=(c:Int)) (by omega) (by omega)
     rw [Int.toNat_natCast] at this
     exact this
    have gi:QnV [.bl (decide ((c:Int)=QdB w r))]=some (.int (if (c:Int)=QdB w r then 1 else 0)):=by
     by_cases q:(c:Int)=QdB w r
     ·rw [decide_eq_true q,if_pos q];rfl
     ·rw [decide_eq_false q,if_neg q];rfl
    have cm:CMul (l.getD c 0) (if (c:Int)=QdB w r then 1 else 0):=.inr (by split<;>decide)
    simp? only [Int.zero_add,gx,gi,cm,Int.toNat_natCast]
   ·simp [sizeLine_eq];omega
   ·refine W_ok.mpr ⟨rfl,Qoe w r l,Qpw hl hp hc',?_⟩
    have e:D.lst (List.map (fun d=>match d with | D.int c=>D.int (l.getD c.toNat 0 * (if c=QdB w r then 1 else 0)) | _=>d) (List.map (fun (j:Nat)=>D.int ((0:Int)+(j:Nat))) (List.range (w:Int).toNat)))=rwI (Qoe w r l):=by
     unfold rwI Qoe
     rw [List.map_map,List.map_map,Int.toNat_natCast]
     refine congrArg D.lst (List.map_congr_left fun k _=>?_)
     show D.int (l.getD (0+(k:Int)).toNat 0 * (if 0+(k:Int)=QdB w r then 1 else 0))=D.int (l.getD k 0 * (if (k:Int)=QdB w r then 1 else 0))
     rw [Int.zero_add,Int.toNat_natCast]
    rw [e]
    unfold Qdy
    rw [if_pos hc']
    rfl
  ·have hc':¬ r % 2=1:=by omega
   refine W_ok.mpr ⟨rfl,l,Qmp hl hp hc',?_⟩
   unfold Qdy QmG
   rw [if_neg hc']
 rintro ρ ⟨l,hl,rfl⟩
 refine QaG (fun ρ=>ρ=[some (.par p),some (.frz (script xs)),some (.frz (.int h)),some (.frz (.int w)),some (.own (rD L)),some (.own (QbF w (Qaz w (r+1)))),some (.frz (.int r)),some (.own q7),some (.own (rwI l)),some (.frz (.lst ((Qdy w r).map D.int)))]) ?_ ?_
 ·have cl:(Qdy w r).length<=30:=by
   unfold Qdy
   split
   ·simp
   ·split<;>simp<;>omega
  have ol:Qaz w r<=2000:=by
   unfold Qaz
   have a:r / 2 * (w+1)<=15 * 31:=Nat.mul_le_mul (by omega) (by omega)
   have b:r % 2 * w<=1 * 30:=Nat.mul_le_mul (by omega) (by omega)
   omega
  unfold QbF
  simp? only []
  refine Qg8 (ds:=(Qdy w r).map D.int) (g:=fun d=>.tup [.int r,d]) (di:=[]) (ρb:=[none,some (.frz (.int r))]) (os:=[]) rfl rfl ?_ (by rw [sizeLine_eq,List.length_map];omega) rfl rfl ?_
  ·intro d hd
   obtain ⟨c,hc,rfl⟩:=List.mem_map.mp hd
   exact ⟨[some (.frz (.int c)),some (.frz (.int r))],rfl,W_eq.mp (by simp? only []),rfl⟩
  ·have hz:((List.range (Qaz w r)).map fun i=>pl (Qa0 w i)).length+(List.map (fun d=>D.tup [D.int ↑r,d]) ((Qdy w r).map D.int)).length<=16777216:=by
    simp;omega
   simp? only []
   rw [if_pos (by simpa using hz)]
   refine W_ok.mpr ⟨rfl,?_⟩
   have:=Qpe (w:=w) (r:=r) w1
   unfold QbF at this
   rw [List.map_map]
   rw [← this]
   rfl
 rintro ρ rfl
 have bL:(L.map rwI).length<16777216:=by rw [List.length_map];omega
 unfold rD
 simp? only []
 rw [if_pos bL]
 refine W_ok.mpr ⟨rfl,q7,l,.lst ((Qdy w r).map D.int),hl,?_⟩
 rw [List.map_append]
 rfl
def Qnn (d:D)(os:List D):Prop:=∃ (q:D) (h w:Nat) (F:List (List Int)),os=[q]/\Pot q/\1<=h/\h<=30/\1<=w/\w<=30/\d=.tup [rD F,QbF w (Qaz w h)]/\QdJ h w F/\okL F
theorem QmU {F:List (List Int)}(hF:F.length=h)(hr:∀ r,r<h->Qic w r (F.getD r [])):QdJ h w F/\okL F:=by
 have at_:∀ r c:Nat,atL F ((r:Int),(c:Int))=(F.getD r []).getD c 0:=fun r c=>by unfold atL;dsimp only;rw [Int.toNat_natCast,Int.toNat_natCast]
 have all:∀ l∈F,∃ r,r<h/\l=F.getD r []:=fun l hl=>by
  obtain ⟨r,hlt,e⟩:=List.getElem_of_mem hl
  exact ⟨r,by omega,by rw [List.getD_eq_getElem?_getD,List.getElem?_eq_getElem hlt,← e];rfl⟩
 refine ⟨⟨⟨hF,fun l hl=>?_⟩,fun r c h1 h2 q=>?_,fun r c h1 h2 q e=>?_,fun r c h1 h2 q e=>?_⟩,fun l hl x hx=>?_⟩
 ·obtain ⟨r,h1,rfl⟩:=all l hl;exact (hr r h1).len
 ·rw [at_];exact (hr r h1).ev c h2 q
 ·rw [at_];exact (hr r h1).on c h2 q e
 ·rw [at_];exact (hr r h1).off c h2 q e
 ·obtain ⟨r,h1,rfl⟩:=all l hl;exact (hr r h1).ok x hx
theorem Qpi (hp:Pot p):FW (Qb2 z [p,script xs]) Qnn:=Qbt (by
 unfold QdC
 refine QaG (fun ρ=>∃ (p:D) (h:Nat),Pot p/\1<=h/\h<=30/\ρ=[some (.par p),some (.frz (script xs)),some (.frz (.int h)),none,none,none,none,none,none,none]) ?_ ?_
 ·simp? only []
  refine QdF (p:=p) (P:=spT 30) rfl (Qbx hp (by decide) (by decide)) fun _ _ ⟨r1,p1,e1,e2,hp1,g0,g1⟩=>⟨p1,e2,?_⟩;subst e1
  simp? only []
  exact ⟨trivial,p1,(1+r1).toNat,hp1,by omega,by omega,by rw [Int.toNat_of_nonneg (by omega)]⟩
 rintro ρ ⟨p,h,hp,h1,h2,rfl⟩
 refine QaG (fun ρ=>∃ (p:D) (w:Nat),Pot p/\1<=w/\w<=30/\ρ=[some (.par p),some (.frz (script xs)),some (.frz (.int h)),some (.frz (.int w)),none,none,none,none,none,none]) ?_ ?_
 ·simp? only []
  refine QdF (p:=p) (P:=spT 30) rfl (Qbx hp (by decide) (by decide)) fun _ _ ⟨r1,p1,e1,e2,hp1,g0,g1⟩=>⟨p1,e2,?_⟩;subst e1
  simp? only []
  exact ⟨trivial,p1,(1+r1).toNat,hp1,by omega,by omega,by rw [Int.toNat_of_nonneg (by omega)]⟩
 rintro ρ ⟨p,w,hp,w1,w2,rfl⟩
 refine QaG (fun ρ=>ρ=[some (.par p),some (.frz (script xs)),some (.frz (.int h)),some (.frz (.int w)),some (.own (rD [])),none,none,none,none,none]) ?_ ?_
 ·simp? only []
  exact ⟨trivial,rfl⟩
 rintro ρ rfl
 refine QaG (fun ρ=>ρ=[some (.par p),some (.frz (script xs)),some (.frz (.int h)),some (.frz (.int w)),some (.own (rD [])),some (.own (QbF w (Qaz w 0))),none,none,none,none]) ?_ ?_
 ·have e:QbF w (Qaz w 0)=.lst []:=by
   have:Qaz w 0=0:=by unfold Qaz;simp
   rw [this];rfl
  rw [e]
  simp? only []
  exact ⟨trivial,trivial⟩
 rintro ρ rfl
 refine QaG (fun ρ=>∃ L s6 s7 s9,L.length=h/\(∀ r,r<h->Qic w r (L.getD r []))/\frO s6/\(s7=none\/∃ d,s7=some (.own d))/\frO s9/\ρ=[some (.par p),some (.frz (script xs)),some (.frz (.int h)),some (.frz (.int w)),some (.own (rD L)),some (.own (QbF w (Qaz w h))),s6,s7,none,s9]) ?_ ?_
 ·have b1:(-4611686018427387904:Int)<=h/\(h:Int)<4611686018427387904:=by omega
  simp? only [b1,and_self,Int.toNat_natCast]
  refine QdX (fun i ρ=>∃ L s6 s7 s9,L.length=i/\(∀ r,r<i->Qic w r (L.getD r []))/\frO s6/\(s7=none\/∃ d,s7=some (.own d))/\frO s9/\ρ=[some (.par p),some (.frz (script xs)),some (.frz (.int h)),some (.frz (.int w)),some (.own (rD L)),some (.own (QbF w (Qaz w i))),s6,s7,none,s9]) ⟨[],none,none,none,rfl,(fun r q=>by omega),.inl rfl,.inl rfl,.inl rfl,rfl⟩ ?_ ?_
  ·rintro i d ρ hd ⟨L,s6,s7,s9,hL,hR,h6,h7,h9,rfl⟩
   obtain ⟨rfl,hi⟩:=Qni hd
   refine ⟨[some (.par p),some (.frz (script xs)),some (.frz (.int h)),some (.frz (.int w)),some (.own (rD L)),some (.own (QbF w (Qaz w i))),some (.frz (.int i)),s7,none,s9],?_,?_⟩
   ·rcases h6 with rfl | ⟨_,rfl⟩<;>rfl
   refine (QmW (z:=z) (h:=h) (p:=p) (xs:=xs) w1 w2 (by omega) hL h7 h9).mono ?_
   rintro ⟨f,ρ⟩ ⟨e1,q7,l,d9,hl,e2⟩
   dsimp only at e1 e2
   subst e1 e2
   refine ⟨rfl,L++[l],_,_,_,by rw [List.length_append,hL];rfl,fun r hr=>?_,.inr ⟨_,rfl⟩,.inr ⟨_,rfl⟩,.inr ⟨_,rfl⟩,rfl⟩
   by_cases q:r<i
   ·rw [List.getD_eq_getElem?_getD,List.getElem?_append_left (by omega),← List.getD_eq_getElem?_getD];exact hR r q
   ·obtain rfl:r=i:=by omega
    rw [List.getD_eq_getElem?_getD,List.getElem?_append_right (by omega),hL,Nat.sub_self];exact hl
  ·rintro ρ ⟨L,s6,s7,s9,hL,hR,h6,h7,h9,rfl⟩
   rw [List.length_map,List.length_range] at hL hR ⊢
   exact ⟨rfl,L,s6,s7,s9,hL,hR,h6,h7,h9,rfl⟩
 rintro ρ ⟨L,s6,s7,s9,hL,hR,h6,h7,h9,rfl⟩
 simp? only []
 rw [Qnx (q:=([rD L,QbF w (Qaz w h)],[some (.par p),some (.frz (script xs)),some (.frz (.int h)),some (.frz (.int w)),none,none,s6,s7,none,s9])) rfl (by rw [sizeLine_eq];show (2:Nat)<=16777216;decide)]
 simp? only []
 obtain ⟨S,ok⟩:=QmU hL hR
 refine ⟨_,[p],rfl,?_,p,h,w,L,rfl,hp,h1,h2,w1,w2,rfl,S,ok⟩
 rcases h6 with rfl | ⟨_,rfl⟩<;>rcases h7 with rfl | ⟨_,rfl⟩<;>rcases h9 with rfl | ⟨_,rfl⟩<;>rfl)
end
def nts (h w:Nat):List (List Int):=List.replicate h (List.replicate w 0)
def stp (k:List PN)(x:PN):List PN:=Qnq k x.1 (if Qcp k x.1 > x.2 then Qcp k x.1 else x.2)
def gvn (ls:List PN):List PN:=ls.foldl stp []
section
variable {h w:Nat}{F R:List (List Int)}{p q:Int × Int}{ls:List PN}
theorem Qe1:Rc h w (nts h w):=⟨by simp [nts],fun r hr=>by rw [(List.mem_replicate.mp hr).2];simp⟩
theorem Qfn:atL (nts h w) p=0:=by
 unfold atL nts
 rw [List.getD_eq_getElem?_getD,List.getD_eq_getElem?_getD,List.getElem?_replicate]
 split
 ·simp only [Option.getD_some,List.getElem?_replicate]
  split<;>rfl
 ·rfl
theorem QjV:∀ {ls:List PN} {R:List (List Int)} {k:List PN},Rc h w R->(∀ x∈ls,inR h w x.1)->(∀ q,inR h w q->atL R q=Qcp k q)->∀ q,inR h w q->atL (ls.foldl lft R) q=Qcp (ls.foldl stp k) q
 | [],R,k,_,_,e,q,hq=>e q hq
 |x :: ls,R,k,r,hl,e,q,hq=>by
  have hx:=hl x List.mem_cons_self
  refine QjV (Qi1 r hx) (fun y hy=>hl y (List.mem_cons_of_mem _ hy)) (fun q hq=>?_) q hq
  unfold stp
  rw [Qla r hx hq,Qmr,e _ hx]
  by_cases c:q=x.1
  ·rw [if_pos c,if_pos c]
  ·rw [if_neg c,if_neg c,e q hq]
theorem QnK (hl:∀ x∈ls,inR h w x.1)(hq:inR h w q):atL (ls.foldl lft (nts h w)) q=Qcp (gvn ls) q:=QjV Qe1 hl (fun q _=>Qfn) q hq
theorem Qh0:∀ {ls:List PN} {R:List (List Int)},Rc h w R->(∀ x∈ls,inR h w x.1)->∀ q,inR h w q->(∀ x∈ls,x.1≠q)->atL (ls.foldl lft R) q=atL R q
 | [],R,_,_,q,hq,_=>rfl
 |x :: ls,R,r,hl,q,hq,n=>by
  have hx:=hl x List.mem_cons_self
  rw [List.foldl_cons,Qh0 (Qi1 r hx) (fun y hy=>hl y (List.mem_cons_of_mem _ hy)) q hq fun y hy=>n y (List.mem_cons_of_mem _ hy),Qla r hx hq,if_neg fun e=>n x List.mem_cons_self e.symm]
theorem Qhr:∀ {l m:List (Int × Int)},l.Nodup->(∀ x∈l,x∈m)->l.length<=m.length
 | [],m,_,_=>Nat.zero_le _
 |a :: l,m,nd,s=>by
  have ha:=s a List.mem_cons_self
  obtain ⟨n1,n2⟩:=List.nodup_cons.mp nd
  have:=Qhr (m:=m.erase a) n2 fun x hx=>(List.mem_erase_of_ne (show x≠a from fun e=>n1 (by rw [← e];exact hx))).mpr (s x (List.mem_cons_of_mem _ hx))
  rw [List.length_erase_of_mem ha] at this
  have:0<m.length:=List.length_pos_of_mem ha
  rw [List.length_cons]
  omega
theorem Qqy (r:Rc h w R){l:List Int}{x:Int}(hl:l∈R)(hx:x∈l):∃ p,inR h w p/\x=atL R p:=by
 obtain ⟨i,hi,e⟩:=List.getElem_of_mem hl
 obtain ⟨j,hj,e2⟩:=List.getElem_of_mem hx
 have:=r.wi l hl
 refine ⟨((i:Int),(j:Int)),⟨by omega,by have:=r.hi;dsimp only;omega,by omega,by dsimp only;omega⟩,?_⟩
 unfold atL
 dsimp only
 rw [Int.toNat_natCast,Int.toNat_natCast,List.getD_eq_getElem?_getD (l:=R),List.getElem?_eq_getElem hi,e]
 show x=l.getD j 0
 rw [List.getD_eq_getElem?_getD,List.getElem?_eq_getElem hj,e2];rfl
theorem Qp2 (r:Rc h w R)(h1:1<=h)(w1:1<=w)(nn:∀ p,inR h w p->0<=atL R p):0<=QbK (R.map QbK):=by
 have hne:R.map QbK≠[]:=fun e=>by have:=congrArg List.length e;rw [List.length_map,r.hi] at this;simp at this;omega
 obtain ⟨l,hl,e⟩:=List.mem_map.mp (QcW hne).1
 have hl2:l≠[]:=fun e=>by have:=r.wi l hl;rw [e] at this;simp at this;omega
 obtain ⟨p,hp,e2⟩:=Qqy r hl (QcW hl2).1
 rw [← e,e2]
 exact nn p hp
theorem QmF (h1:1<=h)(w1:1<=w)(hl:∀ x∈ls,inR h w x.1):(gvL h w F (ls.foldl lft (nts h w)) (QbK ((ls.foldl lft (nts h w)).map QbK))).length<=ls.length:=by
 have r0:Rc h w (ls.foldl lft (nts h w)):=Qgr Qe1 hl
 have lo:=Qp2 r0 h1 w1 fun p hp=>by have:=Qh3 (ls:=ls) Qe1 hl p hp;rw [Qfn] at this;exact this
 have key:=Qhr (l:=((cel w h).filter (okN h w F)).filter fun p=>decide (atL (ls.foldl lft (nts h w)) p > QbK ((ls.foldl lft (nts h w)).map QbK))) (m:=ls.map (·.1)) ((cel_nodup.filter _).filter _) fun x hx=>by
  obtain ⟨a,b⟩:=List.mem_filter.mp hx
  have hin:=cel_mem.mp (List.mem_filter.mp a).1
  have b:=of_decide_eq_true b
  by_cases c:∃ y∈ls,y.1=x
  ·obtain ⟨y,hy,e⟩:=c;exact List.mem_map.mpr ⟨y,hy,e⟩
  ·rw [Qh0 Qe1 hl x hin fun y hy e=>c ⟨y,hy,e⟩,Qfn] at b
   omega
 rw [List.length_map] at key
 unfold gvL
 rw [List.length_map]
 exact key
theorem QrL (S:QdJ h w F)(h1:1<=h)(w1:1<=w)(hl:∀ x∈ls,okN h w F x.1=true)(sp:QpO h w F (nts h w) ls R)(hq:inR h w q) :
  atL R q=(if Qcp (alK F (gvn ls) (fun i=>Qa0 w (Qaz w h - 1 - i)) (Qaz w h)) q > Qcp (alK F (gvn ls) (Qa0 w) (Qaz w h)) q then Qcp (alK F (gvn ls) (fun i=>Qa0 w (Qaz w h - 1 - i)) (Qaz w h)) q else Qcp (alK F (gvn ls) (Qa0 w) (Qaz w h)) q):=by
 have hl':∀ x∈ls,inR h w x.1:=fun x hx=>(QaW (hl x hx)).1
 by_cases ok:okN h w F q=true
 ·obtain ⟨i,hi,rfl⟩:=Qnt S w1 ok
  have inP:∀ i,i<Qaz w h->inR h w (Qa0 w i):=fun i hi=>(QaW (QcU S w1 hi)).1
  have f1:∀ i,i<Qaz w h->1<=atL F (Qa0 w i):=fun i hi=>by
   obtain ⟨a,b⟩:=QaW (QcU S w1 hi)
   have:=Qi9 S _ a
   omega
  have e:=Qn8 (n:=Qaz w h) (V:=fun i=>atL R (Qa0 w i)) (f:=fun i=>atL F (Qa0 w i)) (g:=fun i=>Qcp (gvn ls) (Qa0 w i)) f1
   (fun i hi=>by have a:=sp.up _ (inP i hi);have b:=Qh3 (ls:=ls) Qe1 hl' _ (inP i hi);rw [Qfn] at b;exact Int.le_trans b a)
   (fun i hi=>by rw [← QnK hl' (inP i hi)];exact sp.up _ (inP i hi))
   (fun i hi=>sp.cl _ (QcU S w1 (by omega)) _ (QnG S w1 hi).1)
   (fun i hi=>sp.cl _ (QcU S w1 hi) _ (QnG S w1 hi).2)
   (fun i hi=>by
    rcases sp.so _ (inP i hi) with e | ⟨u,hu,hn,e⟩
    ·rw [QnK hl' (inP i hi)] at e
     exact .inl (.inr (by omega))
    ·rcases Qqi S w1 hi hu hn with ⟨j,ej,rfl⟩ | ⟨hj,rfl⟩
     ·exact .inr (.inl ⟨j,ej,e⟩)
     ·exact .inr (.inr ⟨hj,e⟩)) hi
  have a1:Qcp (alK F (gvn ls) (Qa0 w) (Qaz w h)) (Qa0 w i)=alP F (gvn ls) (Qa0 w) i:=Qj6 (fun a b _ _ e=>Qgi w1 e) hi
  have a2:=Qj6 (F:=F) (giv:=gvn ls) (n:=Qaz w h) (p:=fun i=>Qa0 w (Qaz w h - 1 - i)) (fun a b ha hb e=>by have:=Qgi w1 e;omega) (i:=Qaz w h - 1 - i) (by omega)
  rw [show Qaz w h - 1 - (Qaz w h - 1 - i)=i by omega] at a2
  rw [a1,a2]
  exact e
 ·have off:∀ i,i<Qaz w h->Qa0 w i≠q:=fun i hi e=>ok (e▸QcU S w1 hi)
  rw [Qly off,Qly (p:=fun i=>Qa0 w (Qaz w h - 1 - i)) fun i hi=>off _ (by omega),if_neg (by decide)]
  rcases sp.so q hq with e | ⟨u,hu,hn,e⟩
  ·rw [e,Qh0 Qe1 hl' q hq (fun x hx e=>ok (e▸hl x hx)),Qfn]
  ·exact absurd (Qib hn) ok
end
variable {z:Z}
structure Zok (z:Z):Prop where
 dummy:True
theorem QlP {α:Type}{xs:List α}{a b:Option Int}{x:α}(h:x∈Qm3 xs a b):x∈xs:=List.mem_of_mem_drop (List.mem_of_mem_take h)
theorem Qpy {α:Type}{xs:List α}{a b:Option Int}:(Qm3 xs a b).length<=xs.length:=by
 unfold Qm3;rw [List.length_take,List.length_drop];omega
theorem QoI {w h:Nat}(h1:1<=h)(w1:1<=w):1<=Qaz w h/\(h<=30->w<=30->Qaz w h<=2000):=by
 unfold Qaz
 refine ⟨?_,fun a b=>?_⟩
 ·by_cases e:h % 2=1
  ·rw [e,Nat.one_mul];omega
  ·have:1 * 1<=h / 2 * (w+1):=Nat.mul_le_mul (by omega) (by omega)
   omega
 ·have a:h / 2 * (w+1)<=15 * 31:=Nat.mul_le_mul (by omega) (by omega)
  have b:h % 2 * w<=1 * 30:=Nat.mul_le_mul (by omega) (by omega)
  omega
theorem QnL {w n:Nat}{i:Int}(h0:0<=i)(h1:i<n):gIx (QbF w n) (.int i)=some (pl (Qa0 w i.toNat)):=by
 have e:atI ((List.range n).map fun i=>pl (Qa0 w i)) i=some (pl (Qa0 w ((List.range n).getD i.toNat 0))):=QcX (fun i=>pl (Qa0 w i)) 0 h0 (by rw [List.length_range];exact h1)
 rw [show (List.range n).getD i.toNat 0=i.toNat from by rw [List.getD_eq_getElem?_getD,List.getElem?_range (by omega)];rfl] at e
 exact e
theorem QkK {w n:Nat}:Qcl [QbF w n]=some (.int n):=by
 show some (D.int (((List.range n).map fun i=>pl (Qa0 w i)).length:Nat))=_
 rw [List.length_map,List.length_range]
section
variable {h w:Nat}{F R:List (List Int)}{ls:List PN}{ns:List Int}{q:D}
theorem Qnd (rf:Rc h w F)(S:QdJ h w F)(w1:1<=w)(hn:Qaz w h<=2000){last:Int}:W (Qau QkI (Qab (Qfq false [.me,.me,.fz 2] (QbP (Qq2 (mV 3) (QpR (mC (.int 1))) (QpR (mOp Qep (mV 4) (mC (.int 1)))))) Qgu (mI (mOp gIx (mOp gIx (mV 2) (mV 0)) (mV 1)))) Qal) [some (.frz (script ns)),some (.own q),some (.frz (rD F)),some (.frz (QbF w (Qaz w h))),some (.frz (.int last)),none,none,none,none,none,none,none,none,none,none,none,none,none]) fun r=>∃ t:Int,r=(.int t,[some (.frz (script ns)),some (.own q),some (.frz (rD F)),some (.frz (QbF w (Qaz w h))),some (.frz (.int last)),none,none,none,none,none,none,none,none,none,none,none,none,none]):=by
 have e0:QbF w (Qaz w h)=.nd .lst ((List.range (Qaz w h)).map fun i=>pl (Qa0 w i)):=rfl
 simp? only [QsZ,QtT,QqR,e0,Qqb]
 refine QnE (f:=fun _=>true) (g:=fun d=>match d with | .nd .tup [.int a,.int b]=>.int (atL F (a,b)) | _=>d) (di:=[]) (ρb:=[none,none,some (.frz (rD F))]) (os:=[]) rfl rfl ?_ ?_ rfl rfl ?_
 ·intro d hd
  obtain ⟨i,hi,rfl⟩:=List.mem_map.mp (QlP hd)
  have ip:=(QaW (QcU S w1 (List.mem_range.mp hi))).1
  refine ⟨[some (.frz (.int (Qa0 w i).1)),some (.frz (.int (Qa0 w i).2)),some (.frz (rD F))],rfl,rfl,fun _=>W_eq.mp ?_,rfl⟩
  simp? only [QgI rf ip.1 ip.2.1,Qkp rf ip]
  rfl
 ·have:=Qpy (xs:=(List.range (Qaz w h)).map fun i=>pl (Qa0 w i)) (a:=some 1) (b:=some (last+1))
  rw [List.length_map,List.length_range] at this
  rw [sizeLine_eq];omega
 ·have key:∀ l:List D,(∀ d∈l,∃ i,d=pl (Qa0 w i))->(l.filter fun _=>true).map (fun d=>match d with | .nd .tup [.int a,.int b]=>D.int (atL F (a,b)) | _=>d)=(l.map fun d=>match d with | .nd .tup [.int a,.int b]=>atL F (a,b) | _=>0).map D.int:=fun l hl=>by
   rw [List.filter_eq_self.mpr fun _ _=>rfl,List.map_map]
   refine List.map_congr_left fun d hd=>?_
   obtain ⟨i,rfl⟩:=hl d hd
   rfl
  rw [key _ fun d hd=>by obtain ⟨i,_,rfl⟩:=List.mem_map.mp (QlP hd);exact ⟨i,rfl⟩]
  generalize List.map _ (Qm3 _ _ _)=l
  have gs:QkI [.nd .lst (l.map D.int)]=some (.int l.sum):=by
   show (Qiq (l.map D.int)).map _=_
   rw [Qdg];rfl
  simp? only [gs]
  exact ⟨_,rfl⟩
theorem QjI {a t:Int}{r:Int}(h0:0<=r)(h1:r<3):∃ k:Int,gIx (.nd .lst [.int a,.int t,.int (t+1)]) (.int r)=some (.int k):=by
 have:r=0\/r=1\/r=2:=by omega
 rcases this with rfl | rfl | rfl
 ·exact ⟨a,rfl⟩
 ·exact ⟨t,rfl⟩
 ·exact ⟨t+1,rfl⟩
theorem QrJ {ρ:Rho}{ma mb:ME}{xs:List D}{n:Int}(h1:ma ρ=.ok (.lst xs,ρ))(h2:mb ρ=.ok (.int n,ρ))(hc : -(2 ^ 63)<=n/\n<2 ^ 63/\xs.length * n.toNat<=sizeLine/\D.immL (Qm5 n xs)=true):QmJ ma mb ρ=.ok (.lst (Qm5 n xs),ρ):=by
 unfold QmJ
 rw [h1]
 show ((mb ρ).bind _)=_
 rw [h2]
 show (if -(2 ^ 63)<=n/\n<2 ^ 63/\xs.length * n.toNat<=sizeLine/\D.immL (Qm5 n xs)=true then Rs.ok (D.lst (Qm5 n xs),ρ) else .no)=_
 rw [if_pos hc]
theorem QjY {α:Type}(x:α):∀ n:Nat,(List.replicate n [x]).flatten=List.replicate n x
 |0=>rfl
 |n+1=>by rw [List.replicate_succ,List.flatten_cons,QjY x n];rfl
theorem Qke:∀ {ls k:List PN},(ls.foldl stp k).length<=k.length+ls.length
 | [],k=>Nat.le_refl _
 |x :: ls,k=>by
  have:=Qke (ls:=ls) (k:=stp k x)
  have e:(stp k x).length<=k.length+1:=by
   unfold stp Qnq
   split
   ·rw [List.length_map];omega
   ·rw [List.length_append];simp
  rw [List.foldl_cons,List.length_cons]
  omega
def QtG (w n:Nat):D:=.lst ((List.range n).map fun i=>pl (Qa0 w (n - 1 - i)))
theorem Ql8:∀ {l:List (Int × Int)},D.immL (l.map pl)=true
 | []=>rfl
 |a :: l=>by rw [List.map_cons];exact Bool.and_eq_true_iff.mpr ⟨rfl,Ql8⟩
theorem Qo5 {n:Nat}{ρ:Rho}:rvK (QbF w n,ρ)=.ok (QtG w n,ρ):=by
 have e:((List.range n).map fun i=>pl (Qa0 w i)).reverse=(List.range n).map fun i=>pl (Qa0 w (n - 1 - i)):=by
  apply List.ext_getElem
  ·simp
  ·intro i h1 h2
   simp at h1
   simp
 unfold QbF QtG
 rw [Qnk,e,if_pos]
 rw [show ((List.range n).map fun i=>pl (Qa0 w (n - 1 - i)))=((List.range n).map fun i=>Qa0 w (n - 1 - i)).map pl from by rw [List.map_map];rfl]
 exact Ql8
theorem Qkl:∀ (L:List (List Int)),D.immL (L.map tuI)=true
 | []=>rfl
 |l :: L=>by
  show (D.imm (tuI l) && D.immL (L.map tuI))=true
  rw [Qkl L,Bool.and_true]
  exact Qdi l
theorem QrW {L:List (List Int)}:(QjA z.c_Floor (flD z L) && (flD z L).imm)=true:=by
 have a:QjA z.c_Floor (flD z L)=true:=by show (decide (z.c_Floor=z.c_Floor) && _)=true;simp
 have b:(flD z L).imm=true:=by
  show (D.imm (tuD L) && true)=true
  rw [Bool.and_true]
  exact Qkl L
 rw [a,b];rfl
theorem QjM {l:List (Int × Int)}:(D.lst (l.map pl)).pln 30=true:=by
 show (l.map pl).all (D.pln 29)=true
 rw [List.all_map]
 exact List.all_eq_true.mpr fun _ _=>rfl
theorem QqB (ns:List Int):FW (QmH z [script ns]) (fun d os=>d=.bl true/\os=[]):=Qbt (by
 unfold QoR
 refine QaG (fun ρ=>∃ q,Pot q/\ρ=[some (.frz (script ns)),some (.own q),none,none,none,none,none,none,none,none,none,none,none,none,none,none,none,none]) ?_ ?_
 ·simp? only []
  refine Qmf (QiU ns 0 (by decide)) fun d os ⟨_,hd⟩=>⟨(fun q=>nomatch q),?_⟩
  simp? only []
  exact ⟨trivial,d,hd,rfl⟩
 rintro ρ ⟨q,hq,rfl⟩
 refine QaG (fun ρ=>∃ (q:D) (h w:Nat) (F:List (List Int)),Pot q/\1<=h/\h<=30/\1<=w/\w<=30/\QdJ h w F/\okL F/\ρ=[some (.frz (script ns)),some (.own q),some (.frz (rD F)),some (.frz (QbF w (Qaz w h))),none,none,none,none,none,none,none,none,none,none,none,none,none,none]) ?_ ?_
 ·simp? only []
  refine QdF (p:=q) (P:=Qnn) rfl (Qpi hq) fun d os ⟨q',h,w,F,e1,hq',h1,h2,w1,w2,e2,S,ok⟩=>⟨q',e1,?_⟩
  subst e2
  simp? only []
  exact ⟨trivial,q',h,w,F,hq',h1,h2,w1,w2,S,ok,rfl⟩
 rintro ρ ⟨q,h,w,F,hq,h1,hh,w1,hw,S,okF,rfl⟩
 obtain ⟨n1,n2⟩:=QoI h1 w1
 have n2:=n2 hh hw
 have rf:=S.rc
 refine QaG (fun ρ=>∃ (q:D) (last:Int),Pot q/\ρ=[some (.frz (script ns)),some (.own q),some (.frz (rD F)),some (.frz (QbF w (Qaz w h))),some (.frz (.int last)),none,none,none,none,none,none,none,none,none,none,none,none,none]) ?_ ?_
 ·simp? only [QkK]
  refine QdF (p:=q) (P:=spT (Qaz w h)) rfl (Qbx hq (by omega) (Int.lt_of_le_of_lt (b:=2000) (by omega) (by decide))) fun _ _ ⟨r1,p1,e1,e2,hp1,g0,g1⟩=>⟨p1,e2,?_⟩;subst e1
  simp? only []
  exact ⟨trivial,p1,r1,hp1,rfl⟩
 rintro ρ ⟨q,last,hq,rfl⟩
 refine QaG (fun ρ=>∃ t:Int,ρ=[some (.frz (script ns)),some (.own q),some (.frz (rD F)),some (.frz (QbF w (Qaz w h))),some (.frz (.int last)),some (.frz (.int t)),none,none,none,none,none,none,none,none,none,none,none,none]) ?_ ?_
 ·refine W_bind.mpr ((Qnd rf S w1 n2).mono ?_)
  rintro _ ⟨t,rfl⟩
  exact W_ok.mpr ⟨rfl,t,rfl⟩
 rintro ρ ⟨t,rfl⟩
 refine QaG (fun ρ=>∃ (q:D) (k:Int),Pot q/\ρ=[some (.frz (script ns)),some (.own q),some (.frz (rD F)),some (.frz (QbF w (Qaz w h))),some (.frz (.int last)),some (.frz (.int t)),some (.frz (.int k)),none,none,none,none,none,none,none,none,none,none,none]) ?_ ?_
 ·simp? only []
  refine Qpf (p:=q) (P:=spP Qks) rfl (QgD hq) fun d _ ⟨p2,e2,hp2,hd⟩=>⟨p2,e2,?_⟩
  obtain ⟨a,rfl,_,_⟩:=hd
  simp? only []
  refine QdF (p:=p2) (P:=spT 3) rfl (Qbx hp2 (by decide) (by decide)) fun _ _ ⟨r1,p1,e1,e2,hp1,g0,g1⟩=>⟨p1,e2,?_⟩;subst e1
  obtain ⟨k,ek⟩:=QjI (a:=a) (t:=t) g0 g1
  simp? only [ek]
  exact ⟨trivial,p1,k,hp1,rfl⟩
 rintro ρ ⟨q,k,hq,rfl⟩
 refine QaG (fun ρ=>∃ s:Int,ρ=[some (.frz (script ns)),some (.own q),some (.frz (rD F)),some (.frz (QbF w (Qaz w h))),some (.frz (.int last)),some (.frz (.int t)),some (.frz (.int k)),some (.own (.lst ([(Qa0 w 0,s)].map pnD))),none,none,none,none,none,none,none,none,none,none]) ?_ ?_
 ·have im:(pl (Qa0 w 0)).imm=true:=rfl
  simp? only [Qtm,QnL (w:=w) (n:=Qaz w h) (i:=0) (by decide) (by omega),im]
  exact ⟨trivial,_,rfl⟩
 rintro ρ ⟨s,rfl⟩
 refine QaG (fun ρ=>∃ (q:D) (ls:List PN),ls.length<=2/\(∀ x∈ls,okN h w F x.1=true)/\ρ=[some (.frz (script ns)),some (.own q),some (.frz (rD F)),some (.frz (QbF w (Qaz w h))),some (.frz (.int last)),some (.frz (.int t)),some (.frz (.int k)),some (.own (.lst (ls.map pnD))),none,none,none,none,none,none,none,none,none,none]) ?_ ?_
 ·have ok0:=QcU S w1 (i:=0) (by omega)
  simp? only []
  refine QdF (p:=q) (P:=spT 2) rfl (Qbx hq (by decide) (by decide)) fun _ _ ⟨r1,p1,e1,e2,hp1,g0,g1⟩=>⟨p1,e2,?_⟩;subst e1
  simp? only []
  refine QfN (fun hc=>?_) (fun hc=>?_)
  ·simp? only [QkK]
   refine QdF (p:=p1) (P:=spT (Qaz w h)) rfl (Qbx hp1 (by omega) (Int.lt_of_le_of_lt (b:=2000) (by omega) (by decide))) fun _ _ ⟨r2,p2,e1,e2,hp2,g2,g3⟩=>⟨p2,e2,?_⟩;subst e1
   simp? only [QnL (w:=w) (n:=Qaz w h) g2 g3]
   refine Qpf (p:=p2) (P:=spP Qks) rfl (QgD hp2) fun d _ ⟨p3,e2,hp3,hd⟩=>⟨p3,e2,?_⟩
   obtain ⟨a,rfl,_,_⟩:=hd
   have im:(pl (Qa0 w r2.toNat)).imm=true:=rfl
   simp? only [im]
   refine ⟨trivial,p3,[(Qa0 w 0,s),(Qa0 w r2.toNat,a)],by simp,fun x hx=>?_,rfl⟩
   rcases List.mem_cons.mp hx with rfl | hx
   ·exact ok0
   ·rw [List.mem_singleton.mp hx];exact QcU S w1 (by omega)
  ·refine W_ok.mpr ⟨rfl,p1,[(Qa0 w 0,s)],by simp,fun x hx=>?_,rfl⟩
   rw [List.mem_singleton.mp hx];exact ok0
 rintro ρ ⟨q,ls,hls,hok,rfl⟩
 refine QaG (fun ρ=>ρ=[some (.frz (script ns)),some (.own q),some (.frz (rD F)),some (.frz (QbF w (Qaz w h))),some (.frz (.int last)),some (.frz (.int t)),some (.frz (.int k)),some (.own (.lst (ls.map pnD))),some (.own (QaZ [])),none,none,none,none,none,none,none,none,none]) ?_ ?_
 ·refine W_bind.mpr ⟨_,(rfl:QlB _=.ok (QaZ [],_)),?_⟩
  exact W_ok.mpr ⟨rfl,rfl⟩
 rintro ρ rfl
 refine QaG (fun ρ=>∃ k s9,ρ=[some (.frz (script ns)),some (.own q),some (.frz (rD F)),some (.frz (QbF w (Qaz w h))),some (.frz (.int last)),some (.frz (.int t)),some (.frz (.int k)),some (.frz (.lst (ls.map pnD))),some (.own (QaZ (gvn ls))),s9,none,none,none,none,none,none,none,none]/\frO s9) ?_ ?_
 ·simp? only []
  refine QdX (fun i ρ=>∃ k s9,ρ=[some (.frz (script ns)),some (.own q),some (.frz (rD F)),some (.frz (QbF w (Qaz w h))),some (.frz (.int last)),some (.frz (.int t)),some (.frz (.int k)),some (.frz (.lst (ls.map pnD))),some (.own (QaZ ((ls.take i).foldl stp []))),s9,none,none,none,none,none,none,none,none]/\frO s9) ⟨k,none,rfl,.inl rfl⟩ ?_ ?_
  ·rintro i d ρ hd ⟨k,s9,rfl,h9⟩
   rw [List.getElem?_map] at hd
   obtain ⟨x,hx,rfl⟩:=Option.map_eq_some_iff.mp hd
   refine ⟨[some (.frz (script ns)),some (.own q),some (.frz (rD F)),some (.frz (QbF w (Qaz w h))),some (.frz (.int last)),some (.frz (.int t)),some (.frz (.int x.2)),some (.frz (.lst (ls.map pnD))),some (.own (QaZ ((ls.take i).foldl stp []))),some (.frz (pl x.1)),none,none,none,none,none,none,none,none],?_,?_⟩
   ·rcases h9 with rfl | ⟨_,rfl⟩<;>rfl
   have eg:=QiF (md:=mB 8) (mk:=mV 9) (ρ:=[some (.frz (script ns)),some (.own q),some (.frz (rD F)),some (.frz (QbF w (Qaz w h))),some (.frz (.int last)),some (.frz (.int t)),some (.frz (.int x.2)),some (.frz (.lst (ls.map pnD))),some (.own (QaZ ((ls.take i).foldl stp []))),some (.frz (pl x.1)),none,none,none,none,none,none,none,none]) (ls:=(ls.take i).foldl stp []) (q:=x.1) rfl rfl
   refine QkE (par:=false) (ls:=(ls.take i).foldl stp []) (v:=if Qcp ((ls.take i).foldl stp []) x.1 > x.2 then Qcp ((ls.take i).foldl stp []) x.1 else x.2) (q:=x.1) rfl (W_eq.mp (by simp? only [eg])) (W_eq.mp (by simp? only [])) ?_ ?_
   ·have:=Qke (ls:=ls.take i) (k:=[])
    rw [List.length_take] at this
    rw [sizeLine_eq];simp at this ⊢;omega
   ·refine ⟨rfl,x.2,some (.frz (pl x.1)),?_,.inr ⟨_,rfl⟩⟩
    have et:ls.take (i+1)=ls.take i++[x]:=by rw [List.take_add_one,hx];rfl
    rw [et,List.foldl_append]
    rfl
  ·rintro ρ ⟨k,s9,rfl,h9⟩
   rw [List.length_map,List.take_length]
   exact ⟨rfl,k,s9,rfl,h9⟩
 rintro ρ ⟨k,s9,rfl,h9⟩
 have hin:∀ x∈ls,inR h w x.1:=fun x hx=>(QaW (hok x hx)).1
 have ea:QaR z [rD F,QbF w (Qaz w h),QaZ (gvn ls)]=.ok (QaZ (alK F (gvn ls) (Qa0 w) (Qaz w h))) []:=Qix rf (fun i hi=>(QaW (QcU S w1 hi)).1) (fun i j _ _ e=>Qgi w1 e) n2
 have eb:QaR z [rD F,QtG w (Qaz w h),QaZ (gvn ls)]=.ok (QaZ (alK F (gvn ls) (fun i=>Qa0 w (Qaz w h - 1 - i)) (Qaz w h))) []:=Qix (p:=fun i=>Qa0 w (Qaz w h - 1 - i)) rf (fun i hi=>(QaW (QcU S w1 (by omega))).1) (fun i j hi hj e=>by have:=Qgi w1 e;omega) n2
 refine QaG (fun ρ=>ρ=[some (.frz (script ns)),some (.own q),some (.frz (rD F)),some (.frz (QbF w (Qaz w h))),some (.frz (.int last)),some (.frz (.int t)),some (.frz (.int k)),some (.frz (.lst (ls.map pnD))),some (.own (QaZ (gvn ls))),s9,some (.frz (QaZ (alK F (gvn ls) (Qa0 w) (Qaz w h)))),none,none,none,none,none,none,none]) ?_ ?_
 ·simp? only [Qfg ea]
  exact ⟨trivial,trivial⟩
 rintro ρ rfl
 refine QaG (fun ρ=>ρ=[some (.frz (script ns)),some (.own q),some (.frz (rD F)),some (.frz (QbF w (Qaz w h))),some (.frz (.int last)),some (.frz (.int t)),some (.frz (.int k)),some (.frz (.lst (ls.map pnD))),some (.own (QaZ (gvn ls))),s9,some (.frz (QaZ (alK F (gvn ls) (Qa0 w) (Qaz w h)))),some (.frz (QaZ (alK F (gvn ls) (fun i=>Qa0 w (Qaz w h - 1 - i)) (Qaz w h)))),none,none,none,none,none,none]) ?_ ?_
 ·simp? only [Qo5,Qfg eb]
  exact ⟨trivial,trivial⟩
 rintro ρ rfl
 generalize eK1:alK F (gvn ls) (Qa0 w) (Qaz w h)=K1
 generalize eK2:alK F (gvn ls) (fun i=>Qa0 w (Qaz w h - 1 - i)) (Qaz w h)=K2
 refine QaG (fun ρ=>ρ=[some (.frz (script ns)),some (.own q),some (.frz (rD F)),some (.frz (QbF w (Qaz w h))),some (.frz (.int last)),some (.frz (.int t)),some (.frz (.int k)),some (.frz (.lst (ls.map pnD))),some (.own (QaZ (gvn ls))),s9,some (.frz (QaZ K1)),some (.frz (QaZ K2)),some (.frz (flD z F)),none,none,none,none,none]) ?_ ?_
 ·refine W_bind.mpr ⟨_,Qtg (x:=rD F) (ρ1:=[some (.frz (script ns)),some (.own q),some (.frz (rD F)),some (.frz (QbF w (Qaz w h))),some (.frz (.int last)),some (.frz (.int t)),some (.frz (.int k)),some (.frz (.lst (ls.map pnD))),some (.own (QaZ (gvn ls))),s9,some (.frz (QaZ K1)),some (.frz (QaZ K2)),none,none,none,none,none,none]) (W_eq.mp (by simp? only [])) (fun y=>Qoo rf h1 hh w1 hw okF) QrW,?_⟩
  exact W_ok.mpr ⟨rfl,rfl⟩
 rintro ρ rfl
 refine QaG (fun ρ=>ρ=[some (.frz (script ns)),some (.own q),some (.frz (rD F)),some (.frz (QbF w (Qaz w h))),some (.frz (.int last)),some (.frz (.int t)),some (.frz (.int k)),some (.frz (.lst (ls.map pnD))),some (.own (QaZ (gvn ls))),s9,some (.frz (QaZ K1)),some (.frz (QaZ K2)),some (.frz (flD z F)),some (.frz (rD (nts h w))),none,none,none,none]) ?_ ?_
 ·have g2:Qcl [rwI (F.getD (0:Int).toNat [])]=some (.int w):=by
   have:=rf.row (i:=0) (by decide) (by omega)
   unfold rwI
   simp only [Qcl,List.length_map,this]
  simp only [Int.toNat_zero] at g2
  have e2:(F.map rwI).map (fun _=>rwI (List.replicate w 0))=(nts h w).map rwI:=by
   rw [List.map_map]
   unfold nts
   rw [List.map_replicate,List.eq_replicate_iff]
   refine ⟨by rw [List.length_map,rf.hi],fun b hb=>?_⟩
   obtain ⟨_,_,rfl⟩:=List.mem_map.mp hb
   rfl
  refine W_bind.mpr ⟨_,QfR (g:=fun _=>rwI (List.replicate w 0)) (ρ1:=[some (.frz (script ns)),some (.own q),some (.frz (rD F)),some (.frz (QbF w (Qaz w h))),some (.frz (.int last)),some (.frz (.int t)),some (.frz (.int k)),some (.frz (.lst (ls.map pnD))),some (.own (QaZ (gvn ls))),s9,some (.frz (QaZ K1)),some (.frz (QaZ K2)),some (.frz (flD z F)),none,none,none,none,none]) (ds:=F.map rwI) (di:=[]) (ρb:=[none,some (.frz (rD F))]) (os:=[]) (W_eq.mp ?_) rfl rfl ?_ (by rw [sizeLine_eq,List.length_map,rf.hi];omega) rfl rfl,?_⟩
  ·have e3:siK (rD F,[some (.frz (script ns)),some (.own q),some (.frz (rD F)),some (.frz (QbF w (Qaz w h))),some (.frz (.int last)),some (.frz (.int t)),some (.frz (.int k)),some (.frz (.lst (ls.map pnD))),some (.own (QaZ (gvn ls))),s9,some (.frz (QaZ K1)),some (.frz (QaZ K2)),some (.frz (flD z F)),none,none,none,none,none])=.ok (F.map rwI,[some (.frz (script ns)),some (.own q),some (.frz (rD F)),some (.frz (QbF w (Qaz w h))),some (.frz (.int last)),some (.frz (.int t)),some (.frz (.int k)),some (.frz (.lst (ls.map pnD))),some (.own (QaZ (gvn ls))),s9,some (.frz (QaZ K1)),some (.frz (QaZ K2)),some (.frz (flD z F)),none,none,none,none,none]):=rfl
   simp? only [e3]
  ·intro d hd
   refine ⟨[some (.frz d),some (.frz (rD F))],rfl,?_,rfl⟩
   have e1:Qm5 (w:Int) [.int 0]=(List.replicate w (0:Int)).map D.int:=by
    unfold Qm5
    rw [Int.toNat_natCast,QjY,List.map_replicate]
   have:=QrJ (ρ:=[some (.frz d),some (.frz (rD F))]) (ma:=Qoa (Qab (mC (.int 0)) Qal)) (mb:=Qau Qcl (Qab (mOp gIx (mV 1) (mC (.int 0))) Qal)) (xs:=[.int 0]) (n:=(w:Int)) (W_eq.mp (by simp? only [])) (W_eq.mp (by simp? only [QgI rf (i:=0) (by decide) (by omega),g2])) ⟨by omega,by omega,by rw [sizeLine_eq,Int.toNat_natCast];simp;omega,by rw [e1];exact Qdi _⟩
   rw [e1] at this
   exact this
  ·rw [e2]
   exact W_ok.mpr ⟨rfl,rfl⟩
 rintro ρ rfl
 refine QaG (fun ρ=>∃ R,QpO h w F (nts h w) ls R/\ρ=[some (.frz (script ns)),some (.own q),some (.frz (rD F)),some (.frz (QbF w (Qaz w h))),some (.frz (.int last)),some (.frz (.int t)),some (.frz (.int k)),some (.frz (.lst (ls.map pnD))),some (.own (QaZ (gvn ls))),s9,some (.frz (QaZ K1)),some (.frz (QaZ K2)),some (.frz (flD z F)),some (.frz (rD (nts h w))),some (.frz (rD R)),some (.frz (.lst ((unL h w (nts h w) R).map pl))),none,none]) ?_ ?_
 ·simp? only []
  refine Qmf (P:=Qua h w F (nts h w) ls) (Qkv rf (Qi9 S) Qe1 h1 hh w1 hw hok (by have:=QmF (F:=F) h1 w1 hin;omega)) fun d os ⟨e1,R,e2,sp⟩=>⟨(fun q=>nomatch q),?_⟩
  subst e2
  simp? only []
  exact ⟨trivial,R,sp,rfl⟩
 rintro ρ ⟨R,sp,rfl⟩
 have due:∀ p,inR h w p->atL R p=if Qcp K2 p > Qcp K1 p then Qcp K2 p else Qcp K1 p:=fun p hp=>by
  rw [← eK1,← eK2];exact QrL S h1 w1 hok sp hp
 refine QaG (fun ρ=>∃ s16 s17,frO s16/\frO s17/\ρ=[some (.frz (script ns)),some (.own q),some (.frz (rD F)),some (.frz (QbF w (Qaz w h))),some (.frz (.int last)),some (.frz (.int t)),some (.frz (.int k)),some (.frz (.lst (ls.map pnD))),some (.own (QaZ (gvn ls))),s9,some (.frz (QaZ K1)),some (.frz (QaZ K2)),some (.frz (flD z F)),some (.frz (rD (nts h w))),some (.frz (rD R)),some (.frz (.lst ((unL h w (nts h w) R).map pl))),s16,s17]) ?_ ?_
 ·simp? only [Qfg (Qfo rf h1 hh w1 hw)]
  refine QdX (fun i ρ=>∃ s16 s17,frO s16/\frO s17/\ρ=[some (.frz (script ns)),some (.own q),some (.frz (rD F)),some (.frz (QbF w (Qaz w h))),some (.frz (.int last)),some (.frz (.int t)),some (.frz (.int k)),some (.frz (.lst (ls.map pnD))),some (.own (QaZ (gvn ls))),s9,some (.frz (QaZ K1)),some (.frz (QaZ K2)),some (.frz (flD z F)),some (.frz (rD (nts h w))),some (.frz (rD R)),some (.frz (.lst ((unL h w (nts h w) R).map pl))),s16,s17]) ⟨none,none,.inl rfl,.inl rfl,rfl⟩ ?_ ?_
  ·rintro i d ρ hd ⟨s16,s17,h16,h17,rfl⟩
   rw [List.getElem?_map] at hd
   obtain ⟨p,hp,rfl⟩:=Option.map_eq_some_iff.mp hd
   have ip:=cel_mem.mp (List.mem_of_getElem? hp)
   refine ⟨[some (.frz (script ns)),some (.own q),some (.frz (rD F)),some (.frz (QbF w (Qaz w h))),some (.frz (.int last)),some (.frz (.int t)),some (.frz (.int k)),some (.frz (.lst (ls.map pnD))),some (.own (QaZ (gvn ls))),s9,some (.frz (QaZ K1)),some (.frz (QaZ K2)),some (.frz (flD z F)),some (.frz (rD (nts h w))),some (.frz (rD R)),some (.frz (.lst ((unL h w (nts h w) R).map pl))),some (.frz (.int p.1)),some (.frz (.int p.2))],?_,?_⟩
   ·rcases h16 with rfl | ⟨_,rfl⟩<;>rcases h17 with rfl | ⟨_,rfl⟩<;>rfl
   have eg1:=QiF (md:=mV 10) (mk:=Qe6 (Qab (mV 16) (Qab (mV 17) Qal))) (ρ:=[some (.frz (script ns)),some (.own q),some (.frz (rD F)),some (.frz (QbF w (Qaz w h))),some (.frz (.int last)),some (.frz (.int t)),some (.frz (.int k)),some (.frz (.lst (ls.map pnD))),some (.own (QaZ (gvn ls))),s9,some (.frz (QaZ K1)),some (.frz (QaZ K2)),some (.frz (flD z F)),some (.frz (rD (nts h w))),some (.frz (rD R)),some (.frz (.lst ((unL h w (nts h w) R).map pl))),some (.frz (.int p.1)),some (.frz (.int p.2))]) (ls:=K1) (q:=p) rfl (W_eq.mp (by simp? only [];rfl))
   have eg2:=QiF (md:=mV 11) (mk:=Qe6 (Qab (mV 16) (Qab (mV 17) Qal))) (ρ:=[some (.frz (script ns)),some (.own q),some (.frz (rD F)),some (.frz (QbF w (Qaz w h))),some (.frz (.int last)),some (.frz (.int t)),some (.frz (.int k)),some (.frz (.lst (ls.map pnD))),some (.own (QaZ (gvn ls))),s9,some (.frz (QaZ K1)),some (.frz (QaZ K2)),some (.frz (flD z F)),some (.frz (rD (nts h w))),some (.frz (rD R)),some (.frz (.lst ((unL h w (nts h w) R).map pl))),some (.frz (.int p.1)),some (.frz (.int p.2))]) (ls:=K2) (q:=p) rfl (W_eq.mp (by simp? only [];rfl))
   have du:=due p ip
   refine W_bind.mpr ⟨(false,[some (.frz (script ns)),some (.own q),some (.frz (rD F)),some (.frz (QbF w (Qaz w h))),some (.frz (.int last)),some (.frz (.int t)),some (.frz (.int k)),some (.frz (.lst (ls.map pnD))),some (.own (QaZ (gvn ls))),s9,some (.frz (QaZ K1)),some (.frz (QaZ K2)),some (.frz (flD z F)),some (.frz (rD (nts h w))),some (.frz (rD R)),some (.frz (.lst ((unL h w (nts h w) R).map pl))),some (.frz (.int p.1)),some (.frz (.int p.2))]),W_eq.mp ?_,W_ok.mpr ⟨rfl,_,_,.inr ⟨_,rfl⟩,.inr ⟨_,rfl⟩,rfl⟩⟩
   simp? only [QgI sp.rc ip.1 ip.2.1,Qkp sp.rc ip,eg1,eg2,du,ne_eq,not_true_eq_false]
  ·rintro ρ ⟨s16,s17,h16,h17,rfl⟩
   exact ⟨rfl,s16,s17,h16,h17,rfl⟩
 rintro ρ ⟨s16,s17,h16,h17,rfl⟩
 have hz:h * w<=900:=Nat.le_trans (Nat.mul_le_mul hh hw) (by decide)
 simp? only [Qfg (Qfo rf h1 hh w1 hw)]
 refine QnE (f:=fun d=>match d with | .nd .tup [.int a,.int b]=>decide (atL R (a,b)≠0) | _=>false) (g:=fun d=>d) (di:=[]) (ρb:=[none,none,some (.frz (rD R))]) (os:=[]) rfl rfl ?_ (by rw [sizeLine_eq,List.length_map,QcB];omega) rfl rfl ?_
 ·intro d hd
  obtain ⟨p,hp,rfl⟩:=List.mem_map.mp hd
  have ip:=cel_mem.mp hp
  refine ⟨[some (.frz (.int p.1)),some (.frz (.int p.2)),some (.frz (rD R))],rfl,W_eq.mp ?_,fun _=>W_eq.mp ?_,rfl⟩
  ·simp? only [QgI sp.rc ip.1 ip.2.1,Qkp sp.rc ip]
   rfl
  ·simp? only []
   rfl
 have e9:(((cel w h).map pl).filter (fun d=>match d with | .nd .tup [.int a,.int b]=>decide (atL R (a,b)≠0) | _=>false)).map (fun d=>d)=(unL h w (nts h w) R).map pl:=by
  rw [List.map_id'' (fun _=>rfl),List.filter_map]
  unfold unL
  congr 1
  refine List.filter_congr fun p _=>?_
  show decide (atL R p≠0)=decide (atL (nts h w) p≠atL R p)
  rw [Qfn]
  exact decide_eq_decide.mpr ⟨fun a b=>a b.symm,fun a b=>a b.symm⟩
 rw [e9]
 simp? only [Qm2 (QjM (l:=unL h w (nts h w) R))]
 refine ⟨_,[],rfl,?_,rfl,rfl⟩
 rcases h9 with rfl | ⟨_,rfl⟩<;>rcases h16 with rfl | ⟨_,rfl⟩<;>rcases h17 with rfl | ⟨_,rfl⟩<;>rfl)
theorem law_ok (hz:Zok z)(ns:List Int):QmH z [script ns]=.ok (.bl true) []:=QbB (QqB ns)
end
end G36
namespace G36
open PySem PySem.Spec L2 TL
def QmN (K:PySem.W.Frag):Sp:=fun vs H Q _=>∃ (a:Addr) (ns:List Int),vs=[.ref a]/\SqL K H a (ns.map V.int)/\∀ H',Q (.bl true) H'
theorem QjW {K:PySem.W.Frag}{F:Hp}:∀ (ns:List Int),RL K F (ns.map V.int) (ns.map D.int)
 | []=>.nil
 |a :: l=>.cons (.sc rfl) (QjW l)
theorem Qrd {z:Z}(hz:Zok z)(vs:List L2.V)(H:Hp)(Q:VK)(E:XK)(h:QmN z.K vs H Q E):spF z.K [false] .V (QmH z) vs H Q E:=by
 obtain ⟨a,ns,rfl,hs,hq⟩:=h
 refine ⟨H,[script ns],[],.val (.nd (t:=.lst) hs (QjW ns)) .nil,List.nodup_nil,(fun _ z=>nomatch z),Same.refl H,?_⟩
 rw [law_ok hz ns]
 intro F' H' v fr fo _ _ _ _ _ r _ _ _ _ _
 obtain rfl:=r.1.det_sc (w:=.bl true) rfl
 exact hq H'
theorem ar1 {P:List Value->Prop}(h:∀ a0,P [a0]):∀ us,us.length=1->P us
 | [_],_=>h _
theorem ar2 {P:List Value->Prop}(h:∀ a0 a1,P [a0,a1]):∀ us,us.length=2->P us
 | [_,_],_=>h _ _
theorem ar3 {P:List Value->Prop}(h:∀ a0 a1 a2,P [a0,a1,a2]):∀ us,us.length=3->P us
 | [_,_,_],_=>h _ _ _
theorem ar4 {P:List Value->Prop}(h:∀ a0 a1 a2 a3,P [a0,a1,a2,a3]):∀ us,us.length=4->P us
 | [_,_,_,_],_=>h _ _ _ _
theorem all_mk {l:PySem.W.OpenLaw}{w:World}{K:PySem.W.Frag}{h:Heap}{mg:Str->Option Value}{t_MOST t_WALL_LOSS:Tok}{fa c_Floor c_NoFloor c_NoLights c_NoLoss c_NoPlace f1 f2 f3 f4 f5 f6 f7 f8 f9 f10 f11 f12 f13 f14 f15 f16 f17 f18 f19 f20 f21 f22 f23 f24 f25 f26 f27 f28 f29 f30 f31 f32 f33 f34 f35 f36 f37 f38 f39 f40:Addr}{fd1 fd2 fd3 fd4 fd5 fd6 fd7 fd8 fd9 fd10 fd11 fd12 fd13 fd14 fd15 fd16 fd17 fd18 fd19 fd20 fd21 fd22 fd23 fd24 fd25 fd26 fd27 fd28 fd29 fd30 fd31 fd32 fd33 fd34 fd35 fd36 fd37 fd38 fd39 fd40:FuncData}(X:K.In h)(G:h.Ns mainGlobals mg)(hfa:mg "law" = some (.ref fa))
  (a1:PySem.W.nsIn K mainGlobals "is_whole" = some (some (.ref f1)))
  (F1:Fun K "is_whole" "is_whole" Qdd f1 fd1)
  (a2:PySem.W.nsIn K mainGlobals "is_listed" = some (some (.ref f2)))
  (F2:Fun K "is_listed" "is_listed" QcM f2 fd2)
  (a3:PySem.W.findIn K (.ref c_Floor) "high" = some (some (.ref f3))) (i3:PySem.W.isFn K (.ref f3)=true)
  (F3:Fun K "high" "Floor.high" Qcc f3 fd3)
  (a4:PySem.W.findIn K (.ref c_Floor) "wide" = some (some (.ref f4))) (i4:PySem.W.isFn K (.ref f4)=true)
  (F4:Fun K "wide" "Floor.wide" Qcd f4 fd4)
  (a5:PySem.W.findIn K (.ref c_Floor) "is_wall" = some (some (.ref f5))) (i5:PySem.W.isFn K (.ref f5)=true)
  (F5:Fun K "is_wall" "Floor.is_wall" Qbr f5 fd5)
  (a6:PySem.W.nsIn K mainGlobals "around" = some (some (.ref f6)))
  (F6:Fun K "around" "around" Qer f6 fd6)
  (a7:PySem.W.nsIn K mainGlobals "places_of" = some (some (.ref f7)))
  (F7:Fun K "places_of" "places_of" Qcy f7 fd7)
  (a8:PySem.W.nsIn K mainGlobals "insert_in_order" = some (some (.ref f8)))
  (F8:Fun K "insert_in_order" "insert_in_order" Qa9 f8 fd8)
  (a9:PySem.W.nsIn K mainGlobals "number_at" = some (some (.ref f9)))
  (F9:Fun K "number_at" "number_at" QcD f9 fd9)
  (a10:PySem.W.nsIn K mainGlobals "_law_cell" = some (some (.ref f10)))
  (F10:Fun K "_law_cell" "_law_cell" QcJ f10 fd10)
  (a11:PySem.W.nsIn K mainGlobals "_law_rich" = some (some (.ref f11)))
  (F11:Fun K "_law_rich" "_law_rich" QcO f11 fd11)
  (a12:PySem.W.nsIn K mainGlobals "_law_places" = some (some (.ref f12)))
  (F12:Fun K "_law_places" "_law_places" QbV f12 fd12)
  (a13:PySem.W.nsIn K mainGlobals "_law_along" = some (some (.ref f13)))
  (F13:Fun K "_law_along" "_law_along" Qb7 f13 fd13)
  (a14:PySem.W.nsIn K mainGlobals "is_pair" = some (some (.ref f14)))
  (F14:Fun K "is_pair" "is_pair" QdO f14 fd14)
  (a15:PySem.W.findIn K (.ref c_Floor) "places" = some (some (.ref f15))) (i15:PySem.W.isFn K (.ref f15)=true)
  (F15:Fun K "places" "Floor.places" QbJ f15 fd15)
  (a16:PySem.W.nsIn K mainGlobals "is_within" = some (some (.ref f16)))
  (F16:Fun K "is_within" "is_within" QcH f16 fd16)
  (a17:PySem.W.nsIn K mainGlobals "is_sized" = some (some (.ref f17)))
  (F17:Fun K "is_sized" "is_sized" Qdf f17 fd17)
  (a18:PySem.W.nsIn K mainGlobals "check_numbers" = some (some (.ref f18)))
  (F18:Fun K "check_numbers" "check_numbers" Qbu f18 fd18)
  (a19:PySem.W.nsIn K mainGlobals "lift" = some (some (.ref f19)))
  (F19:Fun K "lift" "lift" QiV f19 fd19)
  (a20:PySem.W.nsIn K mainGlobals "unlike" = some (some (.ref f20)))
  (F20:Fun K "unlike" "unlike" Qel f20 fd20)
  (a21:PySem.W.nsIn K mainGlobals "_law_purse" = some (some (.ref f21)))
  (F21:Fun K "_law_purse" "_law_purse" Qb9 f21 fd21)
  (a22:PySem.W.nsIn K mainGlobals "_law_take" = some (some (.ref f22)))
  (F22:Fun K "_law_take" "_law_take" QcN f22 fd22)
  (a23:PySem.W.findIn K (.ref c_Floor) "has" = some (some (.ref f23))) (i23:PySem.W.isFn K (.ref f23)=true)
  (F23:Fun K "has" "Floor.has" QcA f23 fd23)
  (a24:PySem.W.nsIn K mainGlobals "is_rectangle" = some (some (.ref f24)))
  (F24:Fun K "is_rectangle" "is_rectangle" QbG f24 fd24)
  (a25:PySem.W.nsIn K mainGlobals "is_loss" = some (some (.ref f25)))
  (F25:Fun K "is_loss" "is_loss" QdP f25 fd25)
  (a26:PySem.W.nsIn K mainGlobals "check_rows" = some (some (.ref f26)))
  (F26:Fun K "check_rows" "check_rows" Qcb f26 fd26)
  (a27:PySem.W.nsIn K mainGlobals "givers" = some (some (.ref f27)))
  (F27:Fun K "givers" "givers" Qeq f27 fd27)
  (a28:PySem.W.nsIn K mainGlobals "_law_number" = some (some (.ref f28)))
  (F28:Fun K "_law_number" "_law_number" QbU f28 fd28)
  (a29:PySem.W.nsIn K mainGlobals "_law_loss" = some (some (.ref f29)))
  (F29:Fun K "_law_loss" "_law_loss" QcK f29 fd29)
  (a30:PySem.W.findIn K (.ref c_Floor) "check_place" = some (some (.ref f30))) (i30:PySem.W.isFn K (.ref f30)=true)
  (F30:Fun K "check_place" "Floor.check_place" QaT f30 fd30)
  (a31:PySem.W.nsIn K mainGlobals "check_losses" = some (some (.ref f31)))
  (F31:Fun K "check_losses" "check_losses" QbI f31 fd31)
  (a32:PySem.W.nsIn K mainGlobals "_law_long" = some (some (.ref f32)))
  (F32:Fun K "_law_long" "_law_long" Qcz f32 fd32)
  (a33:PySem.W.findIn K (.ref c_Floor) "__init__" = some (some (.ref f33))) (i33:PySem.W.isFn K (.ref f33)=true)
  (F33:Fun K "__init__" "Floor.__init__" Qce f33 fd33)
  (a34:PySem.W.findIn K (.ref c_Floor) "loss" = some (some (.ref f34))) (i34:PySem.W.isFn K (.ref f34)=true)
  (F34:Fun K "loss" "Floor.loss" Qb8 f34 fd34)
  (a35:PySem.W.findIn K (.ref c_Floor) "beside" = some (some (.ref f35))) (i35:PySem.W.isFn K (.ref f35)=true)
  (F35:Fun K "beside" "Floor.beside" QbE f35 fd35)
  (a36:PySem.W.nsIn K mainGlobals "check_start" = some (some (.ref f36)))
  (F36:Fun K "check_start" "check_start" QbX f36 fd36)
  (a37:PySem.W.nsIn K mainGlobals "give" = some (some (.ref f37)))
  (F37:Fun K "give" "give" QiG f37 fd37)
  (a38:PySem.W.nsIn K mainGlobals "spread" = some (some (.ref f38)))
  (F38:Fun K "spread" "spread" Qen f38 fd38)
  (a39:PySem.W.nsIn K mainGlobals "raised" = some (some (.ref f39)))
  (F39:Fun K "raised" "raised" Qeo f39 fd39)
  (a40:PySem.W.nsIn K mainGlobals "law" = some (some (.ref f40)))
  (F40:Fun K "law" "law" Qir f40 fd40)
  (z0:PySem.W.nsIn K mainGlobals "all" = some none)
  (z1:PySem.W.nsIn K mainGlobals "bool" = some none)
  (z2:PySem.W.nsIn K mainGlobals "enumerate" = some none)
  (z3:PySem.W.nsIn K mainGlobals "int" = some none)
  (z4:PySem.W.nsIn K mainGlobals "isinstance" = some none)
  (z5:PySem.W.nsIn K mainGlobals "len" = some none)
  (z6:PySem.W.nsIn K mainGlobals "list" = some none)
  (z7:PySem.W.nsIn K mainGlobals "max" = some none)
  (z8:PySem.W.nsIn K mainGlobals "min" = some none)
  (z9:PySem.W.nsIn K mainGlobals "range" = some none)
  (z10:PySem.W.nsIn K mainGlobals "sorted" = some none)
  (z11:PySem.W.nsIn K mainGlobals "sum" = some none)
  (z12:PySem.W.nsIn K mainGlobals "tuple" = some none)
  (g_Floor:PySem.W.nsIn K mainGlobals "Floor" = some (some (.ref c_Floor)))
  (g_NoFloor:PySem.W.nsIn K mainGlobals "NoFloor" = some (some (.ref c_NoFloor)))
  (g_NoLights:PySem.W.nsIn K mainGlobals "NoLights" = some (some (.ref c_NoLights)))
  (g_NoLoss:PySem.W.nsIn K mainGlobals "NoLoss" = some (some (.ref c_NoLoss)))
  (g_NoPlace:PySem.W.nsIn K mainGlobals "NoPlace" = some (some (.ref c_NoPlace)))
  (x_NoFloor:PySem.W.excIn K c_NoFloor bmV "ValueError.__new__" = true)
  (x_NoLights:PySem.W.excIn K c_NoLights bmV "ValueError.__new__" = true)
  (x_NoLoss:PySem.W.excIn K c_NoLoss bmV "ValueError.__new__" = true)
  (x_NoPlace:PySem.W.excIn K c_NoPlace bmV "ValueError.__new__" = true)
  (pg_Floor:PySem.W.plainGet K c_Floor Str.empty=true) (hd_Floor:PySem.W.hasDictIn K c_Floor=true) (po_Floor:PySem.W.plainOver K c_Floor=true) (sa_Floor:PySem.W.findIn K (.ref c_Floor) "__setattr__" = some (some (.builtin "object.__setattr__"))) (mk_Floor:PySem.W.makesIn K c_Floor=true) (kc_Floor:PySem.W.keepIn K (.ref c_Floor)=true)
  (na_Floor_losses:PySem.W.findIn K (.ref c_Floor) "losses" = some none)
  (k_MOST:PySem.W.nsIn K mainGlobals "MOST" = some (some (.int 30 t_MOST)))
  (k_WALL_LOSS:PySem.W.nsIn K mainGlobals "WALL_LOSS" = some (some (.int 0 t_WALL_LOSS)))
  :
  ∃ fd:FuncData,(∀ (s:Shared) (v:Value),BindsTo s fd ⟨[v],[]⟩ [("_law_script",v)])/\∀ base:Heap,K.In base->base.Ns mainGlobals mg->FnOk l.prog w K mg base (CXe l.prog w) 9 fa fd ["_law_script"] (QmN K):=by
 have e:=hfa.symm.trans (PySem.W.mg_of X G a40)
 cases e
 have T:Txt mg:=⟨PySem.W.mg_none_of X G z0,PySem.W.mg_none_of X G z1,PySem.W.mg_none_of X G z2,PySem.W.mg_none_of X G z3,PySem.W.mg_none_of X G z4,PySem.W.mg_none_of X G z5,PySem.W.mg_none_of X G z6,PySem.W.mg_none_of X G z7,PySem.W.mg_none_of X G z8,PySem.W.mg_none_of X G z9,PySem.W.mg_none_of X G z10,PySem.W.mg_none_of X G z11,PySem.W.mg_none_of X G z12⟩
 let z:Z:=⟨K,c_Floor,c_NoFloor,c_NoLights,c_NoLoss,c_NoPlace,t_MOST,t_WALL_LOSS⟩
 have con:Con mg z:=⟨PySem.W.mg_of X G g_Floor,PySem.W.mg_of X G g_NoFloor,PySem.W.mg_of X G g_NoLights,PySem.W.mg_of X G g_NoLoss,PySem.W.mg_of X G g_NoPlace,x_NoFloor,x_NoLights,x_NoLoss,x_NoPlace,PySem.W.mg_of X G k_MOST,PySem.W.mg_of X G k_WALL_LOSS,⟨pg_Floor,hd_Floor,po_Floor,sa_Floor⟩,na_Floor_losses,True.intro⟩
 have hz:Zok z:=⟨True.intro⟩
 have b1:=F1.binds (ps:=["value"]) fun _ _ _ _ _ _=>ar1 fun _=>rfl
 have b2:=F2.binds (ps:=["value"]) fun _ _ _ _ _ _=>ar1 fun _=>rfl
 have b3:=F3.binds (ps:=["self"]) fun _ _ _ _ _ _=>ar1 fun _=>rfl
 have b4:=F4.binds (ps:=["self"]) fun _ _ _ _ _ _=>ar1 fun _=>rfl
 have b5:=F5.binds (ps:=["self","place"]) fun _ _ _ _ _ _=>ar2 fun _ _=>rfl
 have b6:=F6.binds (ps:=["place"]) fun _ _ _ _ _ _=>ar1 fun _=>rfl
 have b7:=F7.binds (ps:=["rows"]) fun _ _ _ _ _ _=>ar1 fun _=>rfl
 have b8:=F8.binds (ps:=["waiting","entry"]) fun _ _ _ _ _ _=>ar2 fun _ _=>rfl
 have b9:=F9.binds (ps:=["rows","place"]) fun _ _ _ _ _ _=>ar2 fun _ _=>rfl
 have b10:=F10.binds (ps:=["_law_script","_law_k"]) fun _ _ _ _ _ _=>ar2 fun _ _=>rfl
 have b11:=F11.binds (ps:=["_law_cell_here"]) fun _ _ _ _ _ _=>ar1 fun _=>rfl
 have b12:=F12.binds (ps:=["_law_losses"]) fun _ _ _ _ _ _=>ar1 fun _=>rfl
 have b13:=F13.binds (ps:=["_law_losses","_law_way","_law_given"]) fun _ _ _ _ _ _=>ar3 fun _ _ _=>rfl
 have b14:=F14.binds (ps:=["value"]) fun _ _ _ _ _ _=>ar1 fun _=>rfl
 have b15:=F15.binds (ps:=["self"]) fun _ _ _ _ _ _=>ar1 fun _=>rfl
 have b16:=F16.binds (ps:=["value","end"]) fun _ _ _ _ _ _=>ar2 fun _ _=>rfl
 have b17:=F17.binds (ps:=["listed"]) fun _ _ _ _ _ _=>ar1 fun _=>rfl
 have b18:=F18.binds (ps:=["row"]) fun _ _ _ _ _ _=>ar1 fun _=>rfl
 have b19:=F19.binds (ps:=["floor","rows","start"]) fun _ _ _ _ _ _=>ar3 fun _ _ _=>rfl
 have b20:=F20.binds (ps:=["before","behind"]) fun _ _ _ _ _ _=>ar2 fun _ _=>rfl
 have b21:=F21.binds (ps:=["_law_script","_law_k"]) fun _ _ _ _ _ _=>ar2 fun _ _=>rfl
 have b22:=F22.binds (ps:=["_law_purse_here","_law_many"]) fun _ _ _ _ _ _=>ar2 fun _ _=>rfl
 have b23:=F23.binds (ps:=["self","place"]) fun _ _ _ _ _ _=>ar2 fun _ _=>rfl
 have b24:=F24.binds (ps:=["rows"]) fun _ _ _ _ _ _=>ar1 fun _=>rfl
 have b25:=F25.binds (ps:=["value"]) fun _ _ _ _ _ _=>ar1 fun _=>rfl
 have b26:=F26.binds (ps:=["floor","rows"]) fun _ _ _ _ _ _=>ar2 fun _ _=>rfl
 have b27:=F27.binds (ps:=["floor","rows"]) fun _ _ _ _ _ _=>ar2 fun _ _=>rfl
 have b28:=F28.binds (ps:=["_law_purse_here"]) fun _ _ _ _ _ _=>ar1 fun _=>rfl
 have b29:=F29.binds (ps:=["_law_purse_here"]) fun _ _ _ _ _ _=>ar1 fun _=>rfl
 have b30:=F30.binds (ps:=["self","place"]) fun _ _ _ _ _ _=>ar2 fun _ _=>rfl
 have b31:=F31.binds (ps:=["row"]) fun _ _ _ _ _ _=>ar1 fun _=>rfl
 have b32:=F32.binds (ps:=["_law_purse_here","_law_script"]) fun _ _ _ _ _ _=>ar2 fun _ _=>rfl
 have b33:=F33.binds (ps:=["self","rows"]) fun _ _ _ _ _ _=>ar2 fun _ _=>rfl
 have b34:=F34.binds (ps:=["self","place"]) fun _ _ _ _ _ _=>ar2 fun _ _=>rfl
 have b35:=F35.binds (ps:=["self","place"]) fun _ _ _ _ _ _=>ar2 fun _ _=>rfl
 have b36:=F36.binds (ps:=["floor","start"]) fun _ _ _ _ _ _=>ar2 fun _ _=>rfl
 have b37:=F37.binds (ps:=["floor","rows","waiting","entry"]) fun _ _ _ _ _ _=>ar4 fun _ _ _ _=>rfl
 have b38:=F38.binds (ps:=["floor","rows","starts"]) fun _ _ _ _ _ _=>ar3 fun _ _ _=>rfl
 have b39:=F39.binds (ps:=["floor","rows","starts"]) fun _ _ _ _ _ _=>ar3 fun _ _ _=>rfl
 obtain ⟨_,_,kV,dc,pm,an,cd,ct,_,rfl,_⟩:=F40.ex
 refine ⟨PySem.W.fnOf "law" "law" (Qex Qir) (QcL Qir) (Qac Qir) .none kV dc pm an cd ct,fun s v=>.of_eq rfl,fun base _ _=>?_⟩
 have D_is_whole:Qaf l.prog w z.K mg base 1 "is_whole" ["value"] (spF z.K [false] .V (Qby z)):=⟨_,_,QhM F1 T con ,PySem.W.mg_of X G a1,F1.kp,b1⟩
 have D_is_listed:Qaf l.prog w z.K mg base 1 "is_listed" ["value"] (spF z.K [false] .V (QaC z)):=⟨_,_,QgF F2 T con ,PySem.W.mg_of X G a2,F2.kp,b2⟩
 have D_Floor_high:Qas l.prog w z.K mg base z.c_Floor 1 "high" ["self"] (spF z.K [false] .V (Qa8 z)):=⟨_,_,QfT F3 T con ,⟨a3,i3,F3.kp⟩,b3⟩
 have D_Floor_wide:Qas l.prog w z.K mg base z.c_Floor 1 "wide" ["self"] (spF z.K [false] .V (Qa1 z)):=⟨_,_,Qf3 F4 T con ,⟨a4,i4,F4.kp⟩,b4⟩
 have D_Floor_is_wall:Qas l.prog w z.K mg base z.c_Floor 1 "is_wall" ["self","place"] (spF z.K [false,false] .V (Qay z)):=⟨_,_,Qeg F5 T con ,⟨a5,i5,F5.kp⟩,b5⟩
 have D_around:Qaf l.prog w z.K mg base 1 "around" ["place"] (spF z.K [false] .O (QdV z)):=⟨_,_,Qko F6 T con ,PySem.W.mg_of X G a6,F6.kp,b6⟩
 have D_places_of:Qaf l.prog w z.K mg base 1 "places_of" ["rows"] (spF z.K [false] .O (Qa6 z)):=⟨_,_,QhD F7 T con ,PySem.W.mg_of X G a7,F7.kp,b7⟩
 have D_insert_in_order:Qaf l.prog w z.K mg base 1 "insert_in_order" ["waiting","entry"] (spF z.K [true,false] .V (QaD z)):=⟨_,_,QdH F8 T con ,PySem.W.mg_of X G a8,F8.kp,b8⟩
 have D_number_at:Qaf l.prog w z.K mg base 1 "number_at" ["rows","place"] (spF z.K [false,false] .V (Qat z)):=⟨_,_,QgC F9 T con ,PySem.W.mg_of X G a9,F9.kp,b9⟩
 have D__law_cell:Qaf l.prog w z.K mg base 1 "_law_cell" ["_law_script","_law_k"] (spF z.K [false,false] .V (Qb5 z)):=⟨_,_,QhC F10 T con ,PySem.W.mg_of X G a10,F10.kp,b10⟩
 have D__law_rich:Qaf l.prog w z.K mg base 1 "_law_rich" ["_law_cell_here"] (spF z.K [false] .V (QaV z)):=⟨_,_,Qgy F11 T con ,PySem.W.mg_of X G a11,F11.kp,b11⟩
 have D__law_places:Qaf l.prog w z.K mg base 1 "_law_places" ["_law_losses"] (spF z.K [false] .O (Qba z)):=⟨_,_,Qe9 F12 T con ,PySem.W.mg_of X G a12,F12.kp,b12⟩
 have D__law_along:Qaf l.prog w z.K mg base 1 "_law_along" ["_law_losses","_law_way","_law_given"] (spF z.K [false,false,false] .O (QaR z)):=⟨_,_,QfS F13 T con ,PySem.W.mg_of X G a13,F13.kp,b13⟩
 have D_is_pair:Qaf l.prog w z.K mg base 2 "is_pair" ["value"] (spF z.K [false] .V (Qb0 z)):=⟨_,_,Qjg F14 T con D_is_listed,PySem.W.mg_of X G a14,F14.kp,b14⟩
 have D_Floor_places:Qas l.prog w z.K mg base z.c_Floor 2 "places" ["self"] (spF z.K [false] .O (Qbc z)):=⟨_,_,Qez F15 T con D_places_of,⟨a15,i15,F15.kp⟩,b15⟩
 have D_is_within:Qaf l.prog w z.K mg base 2 "is_within" ["value","end"] (spF z.K [false,false] .V (Qa5 z)):=⟨_,_,QgS F16 T con D_is_whole,PySem.W.mg_of X G a16,F16.kp,b16⟩
 have D_is_sized:Qaf l.prog w z.K mg base 2 "is_sized" ["listed"] (spF z.K [false] .V (Qbn z)):=⟨_,_,QhY F17 T con D_is_listed,PySem.W.mg_of X G a17,F17.kp,b17⟩
 have D_check_numbers:Qaf l.prog w z.K mg base 2 "check_numbers" ["row"] (spF z.K [false] .V (Qa3 z)):=⟨_,_,Qei F18 T con D_is_whole,PySem.W.mg_of X G a18,F18.kp,b18⟩
 have D_lift:Qaf l.prog w z.K mg base 2 "lift" ["floor","rows","start"] (spF z.K [false,true,false] .V (Qg9 z)):=⟨_,_,Qod F19 T con D_Floor_is_wall D_number_at,PySem.W.mg_of X G a19,F19.kp,b19⟩
 have D_unlike:Qaf l.prog w z.K mg base 2 "unlike" ["before","behind"] (spF z.K [false,false] .O (QdS z)):=⟨_,_,QjX F20 T con D_places_of D_number_at,PySem.W.mg_of X G a20,F20.kp,b20⟩
 have D__law_purse:Qaf l.prog w z.K mg base 2 "_law_purse" ["_law_script","_law_k"] (spF z.K [false,false] .O (QaQ z)):=⟨_,_,Qgo F21 T con D__law_cell D__law_rich,PySem.W.mg_of X G a21,F21.kp,b21⟩
 have D__law_take:Qaf l.prog w z.K mg base 2 "_law_take" ["_law_purse_here","_law_many"] (spF z.K [true,false] .V (Qam z)):=⟨_,_,QgG F22 T con D__law_rich,PySem.W.mg_of X G a22,F22.kp,b22⟩
 have D_Floor_has:Qas l.prog w z.K mg base z.c_Floor 3 "has" ["self","place"] (spF z.K [false,false] .V (Qbh z)):=⟨_,_,QgB F23 T con D_Floor_high D_Floor_wide D_is_pair D_is_within,⟨a23,i23,F23.kp⟩,b23⟩
 have D_is_rectangle:Qaf l.prog w z.K mg base 3 "is_rectangle" ["rows"] (spF z.K [false] .V (Qbf z)):=⟨_,_,Qeu F24 T con D_is_sized,PySem.W.mg_of X G a24,F24.kp,b24⟩
 have D_is_loss:Qaf l.prog w z.K mg base 3 "is_loss" ["value"] (spF z.K [false] .V (Qdb z)):=⟨_,_,Qjk F25 T con D_is_within,PySem.W.mg_of X G a25,F25.kp,b25⟩
 have D_check_rows:Qaf l.prog w z.K mg base 3 "check_rows" ["floor","rows"] (spF z.K [false,false] .V (QbO z)):=⟨_,_,Qgk F26 T con D_is_listed D_Floor_high D_Floor_wide D_check_numbers,PySem.W.mg_of X G a26,F26.kp,b26⟩
 have D_givers:Qaf l.prog w z.K mg base 3 "givers" ["floor","rows"] (spF z.K [false,false] .O (QdL z)):=⟨_,_,Qk9 F27 T con D_Floor_is_wall D_number_at D_Floor_places,PySem.W.mg_of X G a27,F27.kp,b27⟩
 have D__law_number:Qaf l.prog w z.K mg base 3 "_law_number" ["_law_purse_here"] (spF z.K [true] .V (QaS z)):=⟨_,_,Qfc F28 T con D__law_take,PySem.W.mg_of X G a28,F28.kp,b28⟩
 have D__law_loss:Qaf l.prog w z.K mg base 3 "_law_loss" ["_law_purse_here"] (spF z.K [true] .V (Qbl z)):=⟨_,_,QgZ F29 T con D__law_take,PySem.W.mg_of X G a29,F29.kp,b29⟩
 have D_Floor_check_place:Qas l.prog w z.K mg base z.c_Floor 4 "check_place" ["self","place"] (spF z.K [false,false] .V (Qar z)):=⟨_,_,Qdr F30 T con D_Floor_has,⟨a30,i30,F30.kp⟩,b30⟩
 have D_check_losses:Qaf l.prog w z.K mg base 4 "check_losses" ["row"] (spF z.K [false] .V (Qbd z)):=⟨_,_,QeH F31 T con D_is_loss,PySem.W.mg_of X G a31,F31.kp,b31⟩
 have D__law_long:Qaf l.prog w z.K mg base 4 "_law_long" ["_law_purse_here","_law_script"] (spF z.K [true,false] .O (Qb2 z)):=⟨_,_,Qhe F32 T con D__law_purse D__law_take D__law_loss,PySem.W.mg_of X G a32,F32.kp,b32⟩
 have D_Floor_init:Qdh l.prog w z.K mg base z.c_Floor 5 "Floor" ["self","rows"] (spI z.K z.c_Floor (Qbp z)):=⟨_,_,Qf8 F33 T con D_is_rectangle D_check_losses,⟨mk_Floor,a33,i33,kc_Floor⟩,PySem.W.mg_of X G g_Floor,b33⟩
 have D_Floor_loss:Qas l.prog w z.K mg base z.c_Floor 5 "loss" ["self","place"] (spF z.K [false,false] .V (QbQ z)):=⟨_,_,QfE F34 T con D_Floor_check_place,⟨a34,i34,F34.kp⟩,b34⟩
 have D_Floor_beside:Qas l.prog w z.K mg base z.c_Floor 5 "beside" ["self","place"] (spF z.K [false,false] .O (Qbe z)):=⟨_,_,QeB F35 T con D_Floor_is_wall D_around D_Floor_has D_Floor_check_place,⟨a35,i35,F35.kp⟩,b35⟩
 have D_check_start:Qaf l.prog w z.K mg base 5 "check_start" ["floor","start"] (spF z.K [false,false] .V (Qbv z)):=⟨_,_,Qff F36 T con D_is_pair D_Floor_check_place,PySem.W.mg_of X G a36,F36.kp,b36⟩
 have D_give:Qaf l.prog w z.K mg base 6 "give" ["floor","rows","waiting","entry"] (spF z.K [false,true,true,false] .V (QgM z)):=⟨_,_,QpF F37 T con D_insert_in_order D_number_at D_Floor_loss D_Floor_beside,PySem.W.mg_of X G a37,F37.kp,b37⟩
 have D_spread:Qaf l.prog w z.K mg base 7 "spread" ["floor","rows","starts"] (spF z.K [false,false,false] .O (QdY z)):=⟨_,_,QlN F38 T con D_number_at D_lift D_givers D_give,PySem.W.mg_of X G a38,F38.kp,b38⟩
 have D_raised:Qaf l.prog w z.K mg base 8 "raised" ["floor","rows","starts"] (spF z.K [false,false,false] .O (QdM z)):=⟨_,_,QkH F39 T con D_unlike D_check_rows D_check_start D_spread,PySem.W.mg_of X G a39,F39.kp,b39⟩
 exact (Qp8 F40 T con D__law_places D__law_along D__law_purse D__law_take D__law_number D__law_long D_Floor_init D_raised).imp fun vs H Q E hh=>Qrd hz vs H Q E hh
theorem walk {l:PySem.W.OpenLaw}{q:Program}{loose:List Str}{XP:(Str->Option Value)->Heap->Prop}{YP:World->Heap->Prop}{d:DefRec}{K:Params->PySem.W.Frag}(hn:l.most=some 63)(hdf:d.params.defaults=[])
  (hY:∀ (w:World) (h:Heap),YP w h->(K w.params).In h)
  (F:∀ (w:World) (mg:Str->Option Value) (fa:Addr) (h:Heap),(K w.params).In h->h.Ns mainGlobals mg->mg d.name=some (.ref fa)->
   ∃ fd:FuncData,(∀ (s:Shared) (u:Value),BindsTo s fd ⟨[u],[]⟩ [("_law_script",u)])/\∀ base:Heap,(K w.params).In base->base.Ns mainGlobals mg->FnOk l.prog w (K w.params) mg base (CXe l.prog w) 9 fa fd ["_law_script"] (QmN (K w.params))) :
  PySem.W.WalkO q loose XP YP l.row.toRowW d [] (fun f vs=>PySem.call f vs):=
 L2.Qo7 (n:=63) (k:=9) (x := "_law_script") (CX:=fun w=>CXe l.prog w) (sp:=fun w=>QmN (K w.params)) hn (by decide) hdf ⟨rfl,by decide,by decide,rfl⟩ hY F (fun _ _ a ns hl _ hS=>⟨a,ns,rfl,hS,fun _=>rfl⟩) fun _ _ _ _ _ ⟨_,_,_,_,_,_,_,_,_,z⟩=>z
end G36
def PySem.W.Fast.tw17134840780263033909:=()
def PySem.W.Fast.tw8592880715693652731:=()
def PySem.W.Fast.tw871966694395097775:=()
def PySem.W.Fast.tw14577381611366946599:=()
def PySem.W.Fast.tw15693744201737425757:=()
def PySem.W.Fast.tw13148844710164648373:=()
def PySem.W.Fast.tw1082597828837419811:=()
def PySem.W.Fast.tw7874477753003656170:=()
def PySem.W.Fast.tw17635887226571062082:=()
def PySem.W.Fast.tw18393481966889399934:=()
def PySem.W.Fast.tw16403636311513375244:=()
def PySem.W.Fast.tw5648465609411531533:=()
def PySem.W.Fast.tw8938370672704051347:=()
def PySem.W.Fast.tw8380509063380923648:=()
def PySem.W.Fast.tw10497662401642543681:=()
def PySem.W.Fast.tw5192561362776794234:=()
def PySem.W.Fast.tw18180129759913241921:=()
def PySem.W.Fast.tw7304295192436365630:=()
def PySem.W.Fast.tw16054982857114639070:=()
def PySem.W.Fast.tw11642809861820015749:=()
def PySem.W.Fast.tw3316819893998124021:=()
def PySem.W.Fast.tw12164808577003475817:=()
def PySem.W.Fast.tw1122499780558991808:=()
def PySem.W.Fast.tw517242841589580263:=()
def PySem.W.Fast.tw10616288291583954655:=()
def PySem.W.Fast.tw4697989126669965252:=()
def PySem.W.Fast.tw13301455506018196801:=()
def PySem.W.Fast.tw2197920848477880862:=()
def PySem.W.Fast.tw1304921077583802004:=()
def PySem.W.Fast.tw7172982821510990108:=()
def PySem.W.Fast.tw16567818868444170033:=()
def PySem.W.Fast.tw3685709714805845391:=()
def PySem.W.Fast.tw9200494341971427898:=()
def PySem.W.Fast.tw1643893214289524881:=()
def PySem.W.Fast.tw9927587782647810078:=()
def PySem.W.Fast.tw2186644612290966127:=()
def PySem.W.Fast.tw5746020441104872272:=()
def PySem.W.Fast.tw6241327204242684882:=()
def PySem.W.Fast.tw16826384937816452207:=()
def PySem.W.Fast.tw16639881933494870771:=()
def PySem.W.Fast.tw7676816447421621205:=()
def PySem.W.Fast.tw16264795536747417081:=()
def PySem.W.Fast.tw12781836613550244701:=()
def PySem.W.Fast.tw16665057263275897521:=()
def PySem.W.Fast.tw17191166444988313689:=()
def PySem.W.Fast.tw14042941654871566510:=()
def PySem.W.Fast.tw17403054544155471596:=()
def PySem.W.Fast.tw5094888246268886301:=()
def PySem.W.Fast.tw15317063703184517158:=()
def PySem.W.Fast.tw7217817759237794303:=()
def PySem.W.Fast.tw10412121063162118906:=()
def PySem.W.Fast.tw3983344304162615454:=()
def PySem.W.Fast.tw7478264545024058646:=()
def PySem.W.Fast.tw10516516924340161690:=()
def PySem.W.Fast.tw2063882666476155260:=()
def PySem.W.Fast.tw6293809863162829927:=()
def PySem.W.Fast.tw12202253177816091271:=()
def PySem.W.Fast.tw2733839835988504484:=()
def PySem.W.Fast.tw10564111105950757390:=()
def PySem.W.Fast.tw18024868460052168155:=()
def PySem.W.Fast.tw2371218149393403434:=()
def PySem.W.Fast.tw7779693299168244207:=()
def PySem.W.Fast.tw3403230949674968864:=()
def PySem.W.Fast.tw9823000943035152326:=()
def PySem.W.Fast.tw16686426468596388063:=()
def PySem.W.Fast.tw6634920704604371986:=()
open PySem PySem.W PyProof.Rows
set_option maxRecDepth 100000 in
set_option maxHeartbeats 0 in
theorem PySem.Challenge.cw_glowcells_k36_whole_long_ways_holds : PySem.Challenge.rw_glowcells_k36_whole_long_ways.Holds := by
 w_on;o_law;k_head;(case hw=>w_witness2)
 k_fill
 refine _root_.G36.walk (l:=PySem.Challenge.rw_glowcells_k36_whole_long_ways) rfl rfl (fun w h Y=>PySem.W.kIn_of Y) ?F
 case F=>
  intro w mg fa h KX GG hmg
  refine' _root_.G36.all_mk KX GG hmg ?a1 ?F1 ?a2 ?F2 ?a3 ?i3 ?F3 ?a4 ?i4 ?F4 ?a5 ?i5 ?F5 ?a6 ?F6 ?a7 ?F7 ?a8 ?F8 ?a9 ?F9 ?a10 ?F10 ?a11 ?F11 ?a12 ?F12 ?a13 ?F13 ?a14 ?F14 ?a15 ?i15 ?F15 ?a16 ?F16 ?a17 ?F17 ?a18 ?F18 ?a19 ?F19 ?a20 ?F20 ?a21 ?F21 ?a22 ?F22 ?a23 ?i23 ?F23 ?a24 ?F24 ?a25 ?F25 ?a26 ?F26 ?a27 ?F27 ?a28 ?F28 ?a29 ?F29 ?a30 ?i30 ?F30 ?a31 ?F31 ?a32 ?F32 ?a33 ?i33 ?F33 ?a34 ?i34 ?F34 ?a35 ?i35 ?F35 ?a36 ?F36 ?a37 ?F37 ?a38 ?F38 ?a39 ?F39 ?a40 ?F40 ?z0 ?z1 ?z2 ?z3 ?z4 ?z5 ?z6 ?z7 ?z8 ?z9 ?z10 ?z11 ?z12 ?g_Floor ?g_NoFloor ?g_NoLights ?g_NoLoss ?g_NoPlace ?x_NoFloor ?x_NoLights ?x_NoLoss ?x_NoPlace ?pg_Floor ?hd_Floor ?po_Floor ?sa_Floor ?mk_Floor ?kc_Floor ?na_Floor_losses ?k_MOST ?k_WALL_LOSS
  (case g_Floor=>k_is)
  (case g_NoFloor=>k_is)
  (case g_NoLights=>k_is)
  (case g_NoLoss=>k_is)
  (case g_NoPlace=>k_is)
  (case a1=>k_is)
  (case F1=>exact L2.Qaw (by k_is) (by k_is) (by k_is))
  (case a2=>k_is)
  (case F2=>exact L2.Qaw (by k_is) (by k_is) (by k_is))
  (case a3=>k_is)
  (case i3=>k_is)
  (case F3=>exact L2.Qaw (by k_is) (by k_is) (by k_is))
  (case a4=>k_is)
  (case i4=>k_is)
  (case F4=>exact L2.Qaw (by k_is) (by k_is) (by k_is))
  (case a5=>k_is)
  (case i5=>k_is)
  (case F5=>exact L2.Qaw (by k_is) (by k_is) (by k_is))
  (case a6=>k_is)
  (case F6=>exact L2.Qaw (by k_is) (by k_is) (by k_is))
  (case a7=>k_is)
  (case F7=>exact L2.Qaw (by k_is) (by k_is) (by k_is))
  (case a8=>k_is)
  (case F8=>exact L2.Qaw (by k_is) (by k_is) (by k_is))
  (case a9=>k_is)
  (case F9=>exact L2.Qaw (by k_is) (by k_is) (by k_is))
  (case a10=>k_is)
  (case F10=>exact L2.Qaw (by k_is) (by k_is) (by k_is))
  (case a11=>k_is)
  (case F11=>exact L2.Qaw (by k_is) (by k_is) (by k_is))
  (case a12=>k_is)
  (case F12=>exact L2.Qaw (by k_is) (by k_is) (by k_is))
  (case a13=>k_is)
  (case F13=>exact L2.Qaw (by k_is) (by k_is) (by k_is))
  (case a14=>k_is)
  (case F14=>exact L2.Qaw (by k_is) (by k_is) (by k_is))
  (case a15=>k_is)
  (case i15=>k_is)
  (case F15=>exact L2.Qaw (by k_is) (by k_is) (by k_is))
  (case a16=>k_is)
  (case F16=>exact L2.Qaw (by k_is) (by k_is) (by k_is))
  (case a17=>k_is)
  (case F17=>exact L2.Qaw (by k_is) (by k_is) (by k_is))
  (case a18=>k_is)
  (case F18=>exact L2.Qaw (by k_is) (by k_is) (by k_is))
  (case a19=>k_is)
  (case F19=>exact L2.Qaw (by k_is) (by k_is) (by k_is))
  (case a20=>k_is)
  (case F20=>exact L2.Qaw (by k_is) (by k_is) (by k_is))
  (case a21=>k_is)
  (case F21=>exact L2.Qaw (by k_is) (by k_is) (by k_is))
  (case a22=>k_is)
  (case F22=>exact L2.Qaw (by k_is) (by k_is) (by k_is))
  (case a23=>k_is)
  (case i23=>k_is)
  (case F23=>exact L2.Qaw (by k_is) (by k_is) (by k_is))
  (case a24=>k_is)
  (case F24=>exact L2.Qaw (by k_is) (by k_is) (by k_is))
  (case a25=>k_is)
  (case F25=>exact L2.Qaw (by k_is) (by k_is) (by k_is))
  (case a26=>k_is)
  (case F26=>exact L2.Qaw (by k_is) (by k_is) (by k_is))
  (case a27=>k_is)
  (case F27=>exact L2.Qaw (by k_is) (by k_is) (by k_is))
  (case a28=>k_is)
  (case F28=>exact L2.Qaw (by k_is) (by k_is) (by k_is))
  (case a29=>k_is)
  (case F29=>exact L2.Qaw (by k_is) (by k_is) (by k_is))
  (case a30=>k_is)
  (case i30=>k_is)
  (case F30=>exact L2.Qaw (by k_is) (by k_is) (by k_is))
  (case a31=>k_is)
  (case F31=>exact L2.Qaw (by k_is) (by k_is) (by k_is))
  (case a32=>k_is)
  (case F32=>exact L2.Qaw (by k_is) (by k_is) (by k_is))
  (case a33=>k_is)
  (case i33=>k_is)
  (case F33=>exact L2.Qaw (by k_is) (by k_is) (by k_is))
  (case a34=>k_is)
  (case i34=>k_is)
  (case F34=>exact L2.Qaw (by k_is) (by k_is) (by k_is))
  (case a35=>k_is)
  (case i35=>k_is)
  (case F35=>exact L2.Qaw (by k_is) (by k_is) (by k_is))
  (case a36=>k_is)
  (case F36=>exact L2.Qaw (by k_is) (by k_is) (by k_is))
  (case a37=>k_is)
  (case F37=>exact L2.Qaw (by k_is) (by k_is) (by k_is))
  (case a38=>k_is)
  (case F38=>exact L2.Qaw (by k_is) (by k_is) (by k_is))
  (case a39=>k_is)
  (case F39=>exact L2.Qaw (by k_is) (by k_is) (by k_is))
  (case a40=>k_is)
  (case F40=>exact L2.Qaw (by k_is) (by k_is) (by k_is))
  (case z0=>k_is)
  (case z1=>k_is)
  (case z2=>k_is)
  (case z3=>k_is)
  (case z4=>k_is)
  (case z5=>k_is)
  (case z6=>k_is)
  (case z7=>k_is)
  (case z8=>k_is)
  (case z9=>k_is)
  (case z10=>k_is)
  (case z11=>k_is)
  (case z12=>k_is)
  (case x_NoFloor=>dsimp only [L2.bmV];k_exc)
  (case x_NoLights=>dsimp only [L2.bmV];k_exc)
  (case x_NoLoss=>dsimp only [L2.bmV];k_exc)
  (case x_NoPlace=>dsimp only [L2.bmV];k_exc)
  (case pg_Floor=>k_is)
  (case hd_Floor=>k_is)
  (case po_Floor=>k_is)
  (case sa_Floor=>k_is)
  (case mk_Floor=>k_is)
  (case kc_Floor=>k_is)
  (case na_Floor_losses=>k_is)
  (case k_MOST=>k_is)
  (case k_WALL_LOSS=>k_is)
