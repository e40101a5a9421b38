import PyProof.Rows.All
import Wide.All
import OpenK.AllK
import Wide.FinOn
import Lean
import PyProof.EqAt
import PyProof.EqKinds
import PyProof.TupleCall
import PyProof.NeKinds
import KE.KTryMore
import PyProof.ExcBaseAll.ValueError
import OpenK.KOwn
import PyProof.ConsumeWalk
import KE.KIntText
import PyProof.EnumFor
import PyProof.EnumMake
import PyProof.StrWalks
import KE.KRevSl
import PyProof.ReprRoads
import PyProof.ReprBulk
import PyProof.Draws
import PyProof.TupleIter
import PyProof.WalksMore
import KE.KIsAll
import PyProof.RulesAs
import PyProof.NsDelKeeps
import PyProof.Rows.SetFrom
import PyProof.SetRoads
import PyProof.ListRange
import KE.KItemsList
import KE.KSortTup
import PyProof.Rows.MinMaxN
import PyProof.WalkInts
import PyProof.Rows.ListMulArg
import PyProof.Rows.SumAny
import PyProof.MaxThree
import PyProof.AttrMissHeap
import KE.KDictOf
import KE.KRevIter
import PyProof.CollectIter
import KE.IntTextLaws
import PyProof.Rows.StrSub
import PyProof.Rows.StrMul
import PyProof.StrLawsReplace
import PyProof.Rows.StrClose3
import PySem.Challenge.RW_glowcells_k94_whole_deeds_read_by_hand
set_option compiler.extract_closed false
set_option hygiene false
set_option Elab.async false
set_option linter.all false
set_option maxRecDepth 100000
noncomputable section
namespace L2
open PySem PySem.Spec PyProof.Rows
abbrev Key:=Sum Int Str
def Qgk:Key->Value->Bool
 |.inl k,v=>Value.isInt k v
 |.inr x,v=>Value.isStrOf x v
def Qk7 (w:World):Key->Int
 |.inl k=>hashInt k
 |.inr x=>hashStr w x
theorem Qay:∀ {k:Key} {v:Value},Qgk k v=true->(∃ i t,k=Sum.inl i/\v=Value.int i t)\/(∃ x t,k=Sum.inr x/\v=Value.str x t)
 |.inl i,v,h=>by
  obtain ⟨t,e⟩:=Value.isInt_shape (k:=i) (v:=v) h
  exact .inl ⟨i,t,rfl,e⟩
 |.inr x,v,h=>by
  obtain ⟨t,e⟩:=Value.isStrOf_shape (x:=x) (v:=v) h
  exact .inr ⟨x,t,rfl,e⟩
theorem Qiv (i:Int)(t:Tok):Qgk (.inl i) (.int i t)=true:=by simp [Qgk,Value.isInt]
theorem QaW (x:Str)(t:Tok):Qgk (.inr x) (.str x t)=true:=by simp [Qgk,Value.isStrOf]
theorem Qpe (a b:Int):decide ((Sum.inl a:Key)=Sum.inl b)=(a == b):=by
 by_cases e:a=b
 ·subst e;simp
 ·have h:¬ (Sum.inl a:Key)=Sum.inl b:=fun q=>e (Sum.inl.inj q)
  rw [decide_eq_false h]
  exact (beq_eq_false_iff_ne.mpr e).symm
theorem QpA (a b:Str):decide ((Sum.inr a:Key)=Sum.inr b)=decide (a=b):=by
 by_cases e:a=b
 ·subst e;simp
 ·have h:¬ (Sum.inr a:Key)=Sum.inr b:=fun q=>e (Sum.inr.inj q)
  rw [decide_eq_false h,decide_eq_false e]
theorem QoA (a:Int)(b:Str):decide ((Sum.inl a:Key)=Sum.inr b)=false:=decide_eq_false (fun q=>nomatch q)
theorem QoL (a:Str)(b:Int):decide ((Sum.inr a:Key)=Sum.inl b)=false:=decide_eq_false (fun q=>nomatch q)
def Qar (prog:Program)(w:World):PySem.KeyKind prog w Key where
 is:=Qgk
 hash:=Qk7 w
 inj:=fun v a b ha hb=>by
  rcases Qay ha with ⟨i,t,rfl,rfl⟩ | ⟨x,t,rfl,rfl⟩
  ·rcases Qay hb with ⟨j,u,rfl,e⟩ | ⟨y,u,rfl,e⟩
   ·injection e with e1 _;rw [e1]
   ·exact nomatch e
  ·rcases Qay hb with ⟨j,u,rfl,e⟩ | ⟨y,u,rfl,e⟩
   ·exact nomatch e
   ·injection e with e1 _;rw [e1]
 byValue:=fun k v h=>by
  rcases Qay h with ⟨i,t,rfl,rfl⟩ | ⟨x,t,rfl,rfl⟩<;>rfl
 pyHash:=fun hv h=>by
  rcases Qay hv with ⟨i,t,rfl,rfl⟩ | ⟨x,t,rfl,rfl⟩
  ·exact wpAny_pyHash_int h
  ·exact wpAny_pyHash_str h
 eqBool:=fun hu hv h=>by
  rcases Qay hu with ⟨i,t,rfl,rfl⟩ | ⟨x,t,rfl,rfl⟩
  ·rcases Qay hv with ⟨j,u,rfl,rfl⟩ | ⟨y,u,rfl,rfl⟩
   ·rw [Qpe] at h;exact wpAny_eqBool_int h
   ·rw [QoA] at h;exact SeqAt.EqAt.int_str i t y u _ _ _ _ h
  ·rcases Qay hv with ⟨j,u,rfl,rfl⟩ | ⟨y,u,rfl,rfl⟩
   ·rw [QoL] at h;exact SeqAt.EqAt.str_int x t j u _ _ _ _ h
   ·rw [QpA] at h;exact wpAny_eqBool_str h
 «strs»:=fun k x t v h=>by
  rcases Qay h with ⟨i,u,rfl,e⟩ | ⟨y,u,rfl,e⟩
  ·exact nomatch e
  ·injection e with e1 _
   subst e1
   cases v<;>rfl
theorem Qgl (prog:Program)(w:World)(i:Int)(t:Tok):(Qar prog w).is (.inl i) (.int i t)=true:=Qiv i t
theorem Qgj (prog:Program)(w:World)(x:Str)(t:Tok):(Qar prog w).is (.inr x) (.str x t)=true:=QaW x t
inductive V where
 |non | bl (b:Bool) | int (i:Int) | str (x:Str) | byt (b:Array UInt8) | flt (b:UInt64) | ref (a:Addr) | ty (n:String)
 deriving DecidableEq
def RelV:V->Value->Prop
 |.non,u=>u=Value.none
 |.bl b,u=>u=Value.bool b
 |.int i,u=>∃ t,u=Value.int i t
 |.str x,u=>∃ t,u=Value.str x t
 |.byt b,u=>∃ t,u=Value.bytes b t
 |.flt b,u=>∃ t,u=Value.float b t
 |.ref a,u=>u=Value.ref a
 |.ty n,u=>u=Value.type n
abbrev Vals:List V->List Value->Prop:=Paired RelV
theorem Vals.length {xs:List V}{us:List Value}(r:Vals xs us):xs.length=us.length:=Paired.length r
theorem Vals.get:∀ {xs:List V} {us:List Value} {i:Nat} {x:V},Vals xs us->xs[i]? = some x->∃ u,us[i]? = some u/\RelV x u
 |_,_,_,_,.nil,e=>by simp at e
 |_,_,0,_,.cons r _,e=>by simp at e;subst e;exact ⟨_,rfl,r⟩
 |_,_,i+1,x,.cons _ t,e=>by
  obtain ⟨u,h1,h2⟩:=Vals.get (i:=i) (x:=x) t (by simpa using e)
  exact ⟨u,by simpa using h1,h2⟩
theorem Vals.append:∀ {xs ys:List V} {us ws:List Value},Vals xs us->Vals ys ws->Vals (xs++ys) (us++ws)
 |_,_,_,_,.nil,s=>s
 |_,_,_,_,.cons r t,s=>.cons r (Vals.append t s)
theorem Vals.take:∀ {xs:List V} {us:List Value} (n:Nat),Vals xs us->Vals (xs.take n) (us.take n)
 |_,_,0,_=>.nil
 |_,_,_+1,.nil=>.nil
 |_,_,n+1,.cons r t=>.cons r (Vals.take n t)
theorem Vals.drop:∀ {xs:List V} {us:List Value} (n:Nat),Vals xs us->Vals (xs.drop n) (us.drop n)
 |_,_,0,r=>r
 |_,_,_+1,.nil=>.nil
 |_,_,n+1,.cons _ t=>Vals.drop n t
def RelO:Option V->Option Value->Prop
 |some v,some u=>RelV v u
 |none,none=>True
 |_,_=>False
def KV {κ:Type}:List (κ × V)->List (κ × Value)->Prop:=Paired fun (p:κ × V) (q:κ × Value)=>p.1=q.1/\RelV p.2 q.2
def kV:Key->V
 |.inl i=>.int i
 |.inr x=>.str x
inductive HO where
 /-- a list -/
 |lst (xs:List V)
 /-- a tuple (never changes) -/
 |tup (xs:List V)
 /-- a dict whose keys are ints and texts;one whose keys are tuples of ints and texts (the empty one is both) -/
 |dK (kvs:List (Key × V)) | dT (kvs:List (List Key × V))
 /-- a set of ints: its members,its size -/
 |set (S:Int->Bool) (n:Nat)
 /-- an instance of the class at C,its dict at dx,its attributes -/
 |ins (C dx:Addr) (fs:List (Str × V))
 /-- the dict of the instance at x -/
 |own (x:Addr)
 /-- the dict of an exception -/
 |xd (fs:List (Str × V))
 /-- a bound method,f of x -/
 |met (f x:Addr)
 /-- a range object lo,lo+1,.. below hi -/
 |rng (lo hi:Int)
 /-- a thing that is known to the object (the script;a dict while a loop walks it): read,never written while it is so -/
 |frz (o:Obj) (u:HO)
 /-- a code object's table -/
 |tbl (ps:Array Value)
 /-- any other thing,by what is true of its one object (a def of one's own: SetO a S n:=HO.ext fun h=>..) -/
 |ext (φ:Heap->Prop)
abbrev Hp:=Addr->Option HO
def upd (H:Hp)(a:Addr)(o:HO):Hp:=fun b=>if b=a then some o else H b
theorem Qah {H:Hp}{a:Addr}{o:HO}:upd H a o a=some o:=by unfold upd;rw [if_pos rfl]
theorem Qad {H:Hp}{a b:Addr}{o:HO}(h:b≠a):upd H a o b=H b:=by unfold upd;rw [if_neg h]
theorem Qmk {H:Hp}{a:Addr}{o u:HO}:upd (upd H a o) a u=upd H a u:=by
 funext b;unfold upd;split<;>rfl
theorem Qrq {H:Hp}{a b:Addr}{o u:HO}(h:H a=some o)(h':H b=some u)(d:o≠u):a≠b:=by
 intro e;subst e;rw [h] at h';exact d (Option.some.inj h')
theorem Qaj {H:Hp}{a b:Addr}{o:HO}(h:H a=some o)(h':H b=none):a≠b:=by
 intro e;subst e;rw [h] at h';cases h'
section
variable (P:Program)(w:World)
def ObjOk (H:Hp)(h:Heap)(a:Addr):HO->Prop
 |.lst xs=>xs.length<=sizeLine/\∃ (its:List Value) (n:Nat),Vals xs its/\h.get? a=some { cls:=.type "list",data:=.seq its.toArray n }
 |.tup xs=>xs.length<=sizeLine/\∃ its:List Value,Vals xs its/\IsTup h a its.toArray
 |.dK kvs=>kvs.length<=sizeLine/\(a == sysModules)=false/\∃ vs,KV kvs vs/\h.DictOf (Qar P w) a vs
 |.dT kvs=>kvs.length<=sizeLine/\(a == sysModules)=false/\∃ xs:List (List Key × Addr × Value),
   Paired (fun (p:List Key × V) (q:List Key × Addr × Value)=>p.1=q.1/\H q.2.1=some (.tup (p.1.map kV))/\RelV p.2 q.2.2) kvs xs/\
   ∃ o es ep,h.get? a=some o/\o.ExactDict/\o.data=.dict es ep/\es.toList=xs.map (entryOfKey (tupleKind (Qar P w)))/\(xs.map (·.1)).Nodup
 |.set S n=>h.SetOf (intKind P w) a S n
 |.ins C dx fs=>H dx=some (.own a)/\fs.length<=1000/\dx≠a/\h.get? a=some (PySem.W.instObj C dx)/\
   ∃ mA,h.Ns1 dx mA/\(∀ f,RelO (fs.lookup f) (mA f))/\PySem.Within mA (fs.map (·.1))
 |.own _=>∃ o,h.get? a=some o
 |.xd fs=>∃ mA,h.Ns1 a mA/\∀ f,RelO (fs.lookup f) (mA f)
 |.rng lo hi=>∃ t u v,h.get? a=some { cls:=.type "range",data:=.fields #[.int lo t,.int hi u,.int 1 v] }
 |.frz o u=>h.get? a=some o/\ObjOk H h a u
 |.tbl ps=>h.get? a=some { cls:=.none,data:=.fields ps }
 |.met f x=>h.get? a=some (PySem.W.methodObj (.ref f) (.ref x))
 |.ext φ=>φ h/\(∃ o,h.get? a=some o)/\∀ h1 h2:Heap,φ h1->(∀ o,h1.get? a=some o->h2.get? a=some o)->φ h2
def HOk (H:Hp)(h:Heap):Prop:=∀ a o,H a=some o->ObjOk P w H h a o
end
section
variable {P:Program}{w:World}{H H':Hp}{h h':Heap}{a:Addr}{o:HO}
theorem ObjOk.lt (x:ObjOk P w H h a o):a<h.objs.size:=by
 cases o with
 |lst xs=>obtain ⟨_,_,_,_,e⟩:=x;exact Heap.lt_size e
 |tup xs=>obtain ⟨_,_,_,p⟩:=x;exact p.lt
 |dK kvs=>obtain ⟨_,_,_,_,o,_,_,e,_⟩:=x;exact Heap.lt_size e
 |dT kvs=>obtain ⟨_,_,_,_,o,_,_,e,_⟩:=x;exact Heap.lt_size e
 |set S n=>obtain ⟨o,_,_,_,e,_⟩:=x;exact Heap.lt_size e
 |ins C dx fs=>obtain ⟨_,_,_,e,_⟩:=x;exact Heap.lt_size e
 |own y=>obtain ⟨_,e⟩:=x;exact Heap.lt_size e
 |xd fs=>obtain ⟨_,⟨_,_,_,e,_⟩,_⟩:=x;exact Heap.lt_size e
 |rng lo hi=>obtain ⟨_,_,_,e⟩:=x;exact Heap.lt_size e
 |frz ob u=>obtain ⟨e,_⟩:=x;exact Heap.lt_size e
 |tbl ps=>exact Heap.lt_size (show h.get? a=some _ from x)
 |met f y=>exact Heap.lt_size (show h.get? a=some _ from x)
 |ext φ=>obtain ⟨_,⟨_,e⟩,_⟩:=x;exact Heap.lt_size e
theorem Paired.mapP {α β:Type}{F G:α->β->Prop}:∀ {l₁:List α} {l₂:List β},Paired F l₁ l₂->(∀ a b,F a b->G a b)->Paired G l₁ l₂
 |_,_,.nil,_=>.nil
 |_,_,.cons r t,f=>.cons (f _ _ r) (Paired.mapP t f)
theorem ObjOk.stay (x:ObjOk P w H h a o)(k:∀ b u,(b=a\/H b=some (.own a))->h.get? b=some u->h'.get? b=some u)
  (ho:∀ b,H b=some (.own a)->H' b=some (.own a)) (ht:∀ b xs,H b=some (.tup xs)->H' b=some (.tup xs)):ObjOk P w H' h' a o:=by
 induction o with
 |lst xs=>obtain ⟨z,its,n,r,e⟩:=x;exact ⟨z,its,n,r,k _ _ (.inl rfl) e⟩
 |tup xs=>obtain ⟨z,its,r,ob,e,c⟩:=x;exact ⟨z,its,r,ob,k _ _ (.inl rfl) e,c⟩
 |dK kvs=>obtain ⟨z,y,vs,r,ob,es,ep,e,c⟩:=x;exact ⟨z,y,vs,r,ob,es,ep,k _ _ (.inl rfl) e,c⟩
 |dT kvs=>
  obtain ⟨z,y,xs,r,ob,es,ep,e,c⟩:=x
  exact ⟨z,y,xs,Paired.mapP r fun p q z=>⟨z.1,ht _ _ z.2.1,z.2.2⟩,ob,es,ep,k _ _ (.inl rfl) e,c⟩
 |set S n=>obtain ⟨ob,es,ep,t,e,c⟩:=x;exact ⟨ob,es,ep,t,k _ _ (.inl rfl) e,c⟩
 |ins C dx fs=>
  obtain ⟨d,z,ne,e,mA,⟨od,es,ep,e2,c⟩,r⟩:=x
  exact ⟨ho _ d,z,ne,k _ _ (.inl rfl) e,mA,⟨od,es,ep,k _ _ (.inr d) e2,c⟩,r⟩
 |own y=>obtain ⟨ob,e⟩:=x;exact ⟨ob,k _ _ (.inl rfl) e⟩
 |xd fs=>obtain ⟨mA,⟨od,es,ep,e,c⟩,r⟩:=x;exact ⟨mA,⟨od,es,ep,k _ _ (.inl rfl) e,c⟩,r⟩
 |rng lo hi=>obtain ⟨t,u,v,e⟩:=x;exact ⟨t,u,v,k _ _ (.inl rfl) e⟩
 |frz ob u ih=>obtain ⟨e,q⟩:=x;exact ⟨k _ _ (.inl rfl) e,ih q⟩
 |tbl ps=>
  have e:h.get? a=some { cls:=.none,data:=.fields ps }:=x
  show h'.get? a=some { cls:=.none,data:=.fields ps }
  exact k a _ (.inl rfl) e
 |met f y=>
  have e:h.get? a=some (PySem.W.methodObj (.ref f) (.ref y)):=x
  show h'.get? a=some (PySem.W.methodObj (.ref f) (.ref y))
  exact k a _ (.inl rfl) e
 |ext φ=>obtain ⟨p,⟨o,e⟩,st⟩:=x;exact ⟨st _ _ p fun o q=>k _ _ (.inl rfl) q,⟨o,k _ _ (.inl rfl) e⟩,st⟩
theorem HOk.lt (x:HOk P w H h)(e:H a=some o):a<h.objs.size:=(x a o e).lt
theorem HOk.fresh (x:HOk P w H h)(e:h.objs.size<=a):H a=none:=by
 cases q:H a with
 |none=>rfl
 |some u=>exact absurd (Nat.lt_of_lt_of_le (x.lt q) e) (Nat.lt_irrefl _)
theorem HOk.kept (x:HOk P w H h)(k:∀ b u,h.get? b=some u->h'.get? b=some u):HOk P w H h':=fun a o e=>
 (x a o e).stay (fun b u _ q=>k b u q) (fun _ q=>q) fun _ _ q=>q
theorem HOk.laid (x:HOk P w H h)(k:∀ b u,h.get? b=some u->h'.get? b=some u)(hp:h.objs.size<=a)(new:ObjOk P w (upd H a o) h' a o):HOk P w (upd H a o) h':=fun b u e=>by
 have hn:=x.fresh hp
 by_cases hb:b=a
 ·subst hb;rw [Qah] at e;cases e;exact new
 ·rw [Qad hb] at e
  exact (x b u e).stay (fun c v _ q=>k c v q) (fun c q=>by rw [Qad (Qaj q hn)];exact q) fun c xs q=>by rw [Qad (Qaj q hn)];exact q
end
def Rd (H:Hp)(a:Addr)(u:HO):Prop:=H a=some u\/∃ o,H a=some (.frz o u)
theorem Rd.of {H:Hp}{a:Addr}{u:HO}(h:H a=some u):Rd H a u:=.inl h
theorem Rd.ok {P:Program}{w:World}{H:Hp}{h:Heap}{a:Addr}{u:HO}(r:Rd H a u)(x:HOk P w H h):ObjOk P w H h a u:=by
 rcases r with r | ⟨o,r⟩
 ·exact x a u r
 ·obtain ⟨_,q⟩:=x a _ r
  exact q
def Mut:Option HO->Prop
 |some (.lst _)=>True
 |some (.dK _)=>True
 |some (.dT _)=>True
 |some (.set _ _)=>True
 |some (.ins _ _ _)=>True
 |some (.ext _)=>True
 |_=>False
section
variable {P:Program}{w:World}{H:Hp}{h h':Heap}{x e:Addr}{o':HO}
theorem HOk.write (ok:HOk P w H h)(mu:Mut (H x))(he:e=x\/H e=some (.own x))(k:∀ b u,b≠e->h.get? b=some u->h'.get? b=some u)(heo:∃ u,h'.get? e=some u)
  (new:ObjOk P w (upd H x o') h' x o'):HOk P w (upd H x o') h':=fun b u q=>by
 have nown:∀ c y,H c=some (.own y)->c≠x:=fun c y r z=>by subst z;rw [r] at mu;exact mu
 have ntup:∀ c xs,H c=some (.tup xs)->c≠x:=fun c xs r z=>by subst z;rw [r] at mu;exact mu
 by_cases hb:b=x
 ·subst hb;rw [Qah] at q;cases q;exact new
 ·rw [Qad hb] at q
  by_cases hbe:b=e
  ·have q':H b=some (.own x):=by
    rcases he with z | z
    ·exact absurd (hbe.trans z) hb
    ·rw [hbe];exact z
   rw [q] at q';cases q'
   obtain ⟨v,hv⟩:=heo
   exact ⟨v,by rw [hbe];exact hv⟩
  ·refine (ok b u q).stay (fun c v hc r=>k c v ?_ r) (fun c r=>by rw [Qad (nown c b r)];exact r) fun c xs r=>by rw [Qad (ntup c xs r)];exact r
   rcases hc with rfl | hc
   ·exact hbe
   ·rintro rfl
    rcases he with z | z
    ·exact nown c b hc z
    ·rw [hc] at z;cases z;exact hb rfl
end
structure Un (fs ex:List Addr)(H H':Hp)(h h':Heap):Prop where
 keep:∀ b o,h.get? b=some o->H b=none->b∉fs->b∉ex->h'.get? b=some o
 slot:∀ b o,h.get? b=some o->H b=none->b∈fs->b∉ex->∃ sl,h'.get? b=some { o with slots:=sl }
 free:∀ b o,h.get? b=some o->H b=none->b∉ex->H' b=none
 there:∀ b o,h.get? b=some o->b∉ex->∃ o',h'.get? b=some o'
 tups:∀ b xs,H b=some (.tup xs)->H' b=some (.tup xs)
 frzs:∀ b o u,H b=some (.frz o u)->H' b=some (.frz o u)
 tbls:∀ b ps,H b=some (.tbl ps)->∃ more,H' b=some (.tbl (ps++more))
section
variable {fs ex:List Addr}{H H1:Hp}{h h1 h':Heap}{a x e:Addr}{o:HO}
theorem Un.any (u:Un fs ex H H1 h h1){b:Addr}{ob:Obj}(q:h.get? b=some ob)(n:H b=none)(hx:b∉ex):∃ sl,h1.get? b=some { ob with slots:=sl }:=by
 by_cases hb:b∈fs
 ·exact u.slot b ob q n hb hx
 ·exact ⟨ob.slots,u.keep b ob q n hb hx⟩
theorem Un.kept (k:∀ b u,h.get? b=some u->h'.get? b=some u):Un fs ex H H h h':=
 ⟨fun b ob q _ _ _=>k b ob q,fun b ob q _ _ _=>⟨ob.slots,k b ob q⟩,fun _ _ _ n _=>n,fun b ob q _=>⟨ob,k b ob q⟩,fun _ _ q=>q,fun _ _ _ q=>q,fun _ ps q=>⟨#[],by rw [q];simp⟩⟩
theorem Un.refl:Un fs ex H H h h:=Un.kept fun _ _ q=>q
theorem Un.laid (k:∀ b u,h.get? b=some u->h'.get? b=some u)(hp:h.objs.size<=a)(hn:H a=none):Un fs ex H (upd H a o) h h' where
 keep:=fun b u q _ _ _=>k b u q
 slot:=fun b u q _ _ _=>⟨u.slots,k b u q⟩
 free:=fun b u q n _=>by rw [Qad (Nat.ne_of_lt (Nat.lt_of_lt_of_le (Heap.lt_size q) hp))];exact n
 there:=fun b u q _=>⟨u,k b u q⟩
 tups:=fun b xs q=>by rw [Qad (Qaj q hn)];exact q
 frzs:=fun b u xs q=>by rw [Qad (Qaj q hn)];exact q
 tbls:=fun b ps q=>⟨#[],by rw [Qad (Qaj q hn),q];simp⟩
theorem Un.write (mu:Mut (H x))(he:e=x\/H e=some (.own x))(k:∀ b u,b≠e->h.get? b=some u->h'.get? b=some u)(heo:∃ u,h'.get? e=some u):Un fs ex H (upd H x o) h h':=by
 have hx:∀ b,H b=none->b≠x:=fun b n z=>by subst z;rw [n] at mu;exact mu
 have hb:∀ b,H b=none->b≠e:=fun b n z=>by
  subst z
  rcases he with r | r
  ·exact hx b n r
  ·rw [n] at r;cases r
 have hm:∀ b u,H b=some u->¬ Mut (some u)->b≠x:=fun b u q nm z=>by subst z;rw [q] at mu;exact nm mu
 refine ⟨fun b u q n _ _=>k b u (hb b n) q,fun b u q n _ _=>⟨u.slots,k b u (hb b n) q⟩,fun b u q n _=>by rw [Qad (hx b n)];exact n,fun b u q _=>?_,
  fun b xs q=>by rw [Qad (hm b _ q fun z=>z)];exact q,fun b u xs q=>by rw [Qad (hm b _ q fun z=>z)];exact q,fun b ps q=>⟨#[],by rw [Qad (hm b _ q fun z=>z),q];simp⟩⟩
 by_cases hbe:b=e
 ·subst hbe;exact heo
 ·exact ⟨u,k b u hbe q⟩
end
def trk (h:Heap)(H:Hp):List Addr:=(List.range h.objs.size).filter fun a=>(H a).isSome
def Qkk (h:Heap)(H:Hp):Heap:=PySem.W.hideAll h (trk h H)
theorem Qi1 (h:Heap)(H:Hp):(Qkk h H).objs.size=h.objs.size:=PySem.W.hideAll_size _ _
theorem Qkl {h:Heap}{H:Hp}{b:Addr}{o:Obj}(e:h.get? b=some o)(n:H b=none):(Qkk h H).get? b=some o:=
 PySem.W.hideAll_get _ e fun hm=>by
  have q:(H b).isSome=true:=(List.mem_filter.mp hm).2
  rw [n] at q;simp at q
theorem Qnj {h:Heap}{H:Hp}{b:Addr}{o:Obj}(e:(Qkk h H).get? b=some o):h.get? b=some o/\H b=none:=by
 have e':h.get? b=some o:=PySem.W.of_hideAll (trk h H) e
 refine ⟨e',?_⟩
 cases q:H b with
 |none=>rfl
 |some x=>
  have hm:b∈trk h H:=List.mem_filter.mpr ⟨List.mem_range.mpr (Heap.lt_size e'),by simp [q]⟩
  have z:(Qkk h H).get? b=none:=PySem.W.hideAll_none (trk h H) hm
  rw [z] at e;cases e
structure Mod (K:PySem.W.Frag)(mg:Str->Option Value)(base:Heap):Prop where
 kin:K.In base
 glob:base.Ns mainGlobals mg
 blt:∃ mb,base.Ns builtinsNs mb/\∀ x:Str,x ≠ "__name__" -> mb x=bootBuiltins x
 nolimit:base.NoLimit
structure Cx where
 prog:Program
 w:World
 K:PySem.W.Frag
 mg:Str->Option Value
 base:Heap
 A:Around
 N:List Str
 s₀:Shared
 H₀:Hp
 env:Env
 outer:List Env
 stack:List Env
 ex:List Addr
 fn:Str->Bool
 calm:Bool
 pn:List (Addr × Obj)
 xe:Value->Shared->Prop
def frs (l:List Env):List Addr:=l.filterMap (·.frame)
abbrev Cx.fs (X:Cx):List Addr:=frs X.outer
def Vis (sc:Scope)(x:Str):Prop:=sc.names.lookup x=some .local\/sc.names.lookup x=some .cell\/sc.names.lookup x=some .free
def Loc (sc:Scope)(x:Str):Prop:=sc.names.lookup x=some .local\/sc.names.lookup x=some .cell
def QtO (env:Env)(h:Heap)(m:Str->Option Value)(x:Str)(u:Value):Prop:=
 (env.kindOf x=some .local/\m x=some u)\/((env.kindOf x=some .cell\/env.kindOf x=some .free)/\∃ c,env.cells.lookup x=some c/\h.IsCell c (some u))
structure Cx.Ok (X:Cx):Prop where
 mod:Mod X.K X.mg X.base
 kind:X.env.scope.kind=.function
 glob:X.env.globals=mainGlobals
 blt:X.env.builtins=builtinsNs
 above:X.s₀.heap.objs.size<=X.env.locals
 inj:∀ x y c,X.env.cells.lookup x=some c->X.env.cells.lookup y=some c->x=y
 has:∀ x,(X.env.kindOf x=some .cell\/X.env.kindOf x=some .free)->∃ c,X.env.cells.lookup x=some c
 cab:∀ x c,X.fn x=true->X.env.cells.lookup x=some c->X.s₀.heap.objs.size<=c
 hd:X.calm=true->X.A.handled=none
 frames:X.A.frames=some X.stack
 stk:X.stack=X.outer\/(X.stack=X.env :: X.outer/\X.env.frame=some X.env.locals)
 exf:∀ b∈X.ex,b≠X.env.locals/\∀ x c,X.env.cells.lookup x=some c->c≠b
 bs:∀ b o,X.base.get? b=some o->X.s₀.heap.get? b=some o/\X.H₀ b=none
 bsz:X.base.objs.size<=X.s₀.heap.objs.size
 noex:∀ b o,X.base.get? b=some o->b∉X.ex
 exfs:∀ b∈X.ex,b∉X.fs
 funs:X.s₀.heap.FunFrames X.base X.outer
 frf:∀ b∈X.fs,X.H₀ b=none
structure Inv (X:Cx)(pins:List (Addr × Obj))(σ:List (Option V))(H:Hp)(s:Shared):Prop where
 ok:X.Ok
 os:s.os=X.s₀.os
 bare:AllBare s.gens
 base:Un X.fs X.ex X.H₀ H X.s₀.heap s.heap
 loc:∃ m,s.heap.Ns X.env.locals m/\∀ (i:Nat) (x:Str) (v:V),X.N[i]? = some x->σ[i]? = some (some v)->Vis X.env.scope x->∃ u,RelV v u/\QtO X.env s.heap m x u
 cell:∀ x c,X.env.cells.lookup x=some c->∃ v,s.heap.IsCell c v
 free:H X.env.locals=none
 freeC:∀ x c,X.env.cells.lookup x=some c->H c=none
 pin:∀ p∈X.pn++pins,s.heap.get? p.1=some p.2/\H p.1=none/\p.1≠X.env.locals/\p.1∉X.fs/\∀ v,p.2.data≠.cell v
 hok:HOk X.prog X.w H s.heap
 len:σ.length=X.N.length
section
variable {X:Cx}{pins:List (Addr × Obj)}{σ:List (Option V)}{H H':Hp}{s:Shared}{h':Heap}
theorem Cx.Ok.nofr (ok:X.Ok){b:Addr}{o:Obj}(e:X.base.get? b=some o):b∉X.fs:=fun hb=>by
 have:=(ok.funs.mem hb).1
 rw [e] at this;cases this
theorem Inv.bs (I:Inv X pins σ H s):∀ b o,X.base.get? b=some o->s.heap.get? b=some o/\H b=none:=fun b o e=>
 ⟨I.base.keep b o (I.ok.bs b o e).1 (I.ok.bs b o e).2 (I.ok.nofr e) (I.ok.noex b o e),I.base.free b o (I.ok.bs b o e).1 (I.ok.bs b o e).2 (I.ok.noex b o e)⟩
theorem Inv.bk (I:Inv X pins σ H s):∀ b o,X.base.get? b=some o->s.heap.get? b=some o:=fun b o e=>(I.bs b o e).1
theorem Inv.mod (I:Inv X pins σ H s):Mod X.K X.mg X.base:=I.ok.mod
theorem Inv.kIn (I:Inv X pins σ H s):X.K.In s.heap:=I.ok.mod.kin.keeps I.bk
theorem Inv.lt (I:Inv X pins σ H s):X.env.locals<s.heap.objs.size:=let ⟨_,hn,_⟩:=I.loc;hn.lt
theorem Inv.sz (I:Inv X pins σ H s):X.s₀.heap.objs.size<=s.heap.objs.size:=Nat.le_trans I.ok.above (Nat.le_of_lt I.lt)
theorem Inv.nofs (I:Inv X pins σ H s){a:Addr}(h:s.heap.objs.size<=a):a∉X.fs:=fun hb=>by
 obtain ⟨_,o,ho,_⟩:=I.ok.funs.mem hb
 exact absurd (Nat.lt_of_lt_of_le (Heap.lt_size ho) (Nat.le_trans I.sz h)) (Nat.lt_irrefl _)
theorem Inv.cne (I:Inv X pins σ H s):∀ x c,X.env.cells.lookup x=some c->c≠X.env.locals:=fun x c e z=>by
 obtain ⟨v,o,ho,hd⟩:=I.cell x c e
 obtain ⟨m,⟨o',es,ep,ho',hd',_⟩,_⟩:=I.loc
 rw [z,ho'] at ho;cases ho;rw [hd'] at hd;cases hd
theorem Inv.funs (I:Inv X pins σ H s):s.heap.FunFrames X.base X.outer:=by
 have all:∀ (l:List Env),(∀ b∈frs l,b∈X.fs)->X.s₀.heap.FunFrames X.base l->s.heap.FunFrames X.base l:=by
  intro l
  induction l with
  |nil=>intro _ _;trivial
  |cons env r ih=>
   intro hs hl
   obtain ⟨hk,⟨L,o,hf,hn,ho,hd⟩,hr⟩:=hl
   have hL:L∈X.fs:=hs L (by unfold frs;rw [List.filterMap_cons,hf];exact List.mem_cons_self)
   obtain ⟨sl,e⟩:=I.base.slot L o ho (I.ok.frf L hL) hL fun z=>I.ok.exfs L z hL
   exact ⟨hk,⟨L,_,hf,hn,e,hd⟩,ih (fun b hb=>hs b (by unfold frs;rw [List.filterMap_cons,hf];exact List.mem_cons_of_mem _ hb)) hr⟩
 exact all X.outer (fun _ hb=>hb) I.ok.funs
theorem Inv.stack (I:Inv X pins σ H s):s.heap.FunFrames X.base X.stack:=by
 rcases I.ok.stk with e | ⟨e,hf⟩
 ·rw [e];exact I.funs
 ·rw [e]
  obtain ⟨m,hn,_⟩:=I.loc
  refine .cons (by rw [I.ok.kind];decide) hf hn ?_ I.funs
  exact Heap.get?_none_of_le (Nat.le_trans I.ok.bsz I.ok.above)
theorem Inv.stkSub (I:Inv X pins σ H s):∀ b∈frs X.stack,b∈X.env.locals :: X.fs:=fun b hb=>by
 rcases I.ok.stk with e | ⟨e,hf⟩
 ·rw [e] at hb;exact List.mem_cons_of_mem _ hb
 ·rw [e] at hb
  unfold frs at hb
  rw [List.filterMap_cons,hf] at hb
  exact hb
theorem Inv.stkFree (I:Inv X pins σ H s):∀ b∈frs X.stack,H b=none:=fun b hb=>by
 rcases List.mem_cons.mp (I.stkSub b hb) with e | hb
 ·rw [e];exact I.free
 ·obtain ⟨_,o,ho,_⟩:=I.ok.funs.mem hb
  exact I.base.free b o ho (I.ok.frf b hb) fun z=>I.ok.exfs b z hb
theorem Inv.step {g':Array GenState}{t':Nat}{d':Drawn}{ch:List Addr}(I:Inv X pins σ H s)
  (hch:∀ b∈ch,(b∈X.ex\/X.s₀.heap.objs.size<=b)/\b≠X.env.locals/\(∀ x c,X.env.cells.lookup x=some c->c≠b)/\∀ p∈X.pn++pins,p.1≠b)
  (keep:∀ b o,b≠X.env.locals->b∉X.fs->b∉ch->s.heap.get? b=some o->H b=none->h'.get? b=some o)
  (slot:∀ b o,b≠X.env.locals->b∈X.fs->b∉ch->s.heap.get? b=some o->H b=none->∃ sl,h'.get? b=some { o with slots:=sl }) (free:∀ b o,b∉ch->s.heap.get? b=some o->H b=none->H' b=none)
  (there:∀ b o,b∉ch->s.heap.get? b=some o->∃ o',h'.get? b=some o')
  (tups:∀ b xs,H b=some (.tup xs)->H' b=some (.tup xs)) (frzs:∀ b o u,H b=some (.frz o u)->H' b=some (.frz o u)) (tbls:∀ b ps,H b=some (.tbl ps)->∃ more,H' b=some (.tbl (ps++more)))
  (ns:∀ m,s.heap.Ns X.env.locals m->h'.Ns X.env.locals m) (hok:HOk X.prog X.w H' h') (hg:AllBare g') :
  Inv X pins σ H' { s with heap:=h',gens:=g',drawn:=d',toks:=t' }:=by
 have neL:∀ b o,X.s₀.heap.get? b=some o->b≠X.env.locals:=fun b o e=>Nat.ne_of_lt (Nat.lt_of_lt_of_le (Heap.lt_size e) I.ok.above)
 have neC:∀ b o,X.s₀.heap.get? b=some o->b∉X.ex->b∉ch:=fun b o e hx hb=>by
  rcases (hch b hb).1 with z | z
  ·exact hx z
  ·exact absurd (Nat.lt_of_lt_of_le (Heap.lt_size e) z) (Nat.lt_irrefl _)
 have cellK:∀ x c,X.env.cells.lookup x=some c->∀ v,s.heap.IsCell c v->h'.IsCell c v:=fun x c e v ⟨o,ho,hd⟩=>by
  have nch:c∉ch:=fun z=>(hch c z).2.2.1 x c e rfl
  by_cases hc:c∈X.fs
  ·obtain ⟨sl,q⟩:=slot c o (I.cne x c e) hc nch ho (I.freeC x c e)
   exact ⟨_,q,hd⟩
  ·exact ⟨o,keep c o (I.cne x c e) hc nch ho (I.freeC x c e),hd⟩
 refine ⟨I.ok,I.os,hg,⟨fun b o e n hb hx=>?_,fun b o e n hb hx=>?_,fun b o e n hx=>?_,fun b o e hx=>?_,fun b xs e=>tups b xs (I.base.tups b xs e),fun b o xs e=>frzs b o xs (I.base.frzs b o xs e),fun b ps e=>?_⟩,?_,fun x c e=>?_,?_,fun x c e=>?_,fun p hp=>?_,hok,I.len⟩
 ·exact keep b o (neL b o e) hb (neC b o e hx) (I.base.keep b o e n hb hx) (I.base.free b o e n hx)
 ·obtain ⟨sl,e1⟩:=I.base.slot b o e n hb hx
  obtain ⟨sl',e2⟩:=slot b _ (neL b o e) hb (neC b o e hx) e1 (I.base.free b o e n hx)
  exact ⟨sl',e2⟩
 ·obtain ⟨o',e1⟩:=I.base.there b o e hx
  exact free b o' (neC b o e hx) e1 (I.base.free b o e n hx)
 ·obtain ⟨o',e1⟩:=I.base.there b o e hx
  exact there b o' (neC b o e hx) e1
 ·obtain ⟨m1,e1⟩:=I.base.tbls b ps e
  obtain ⟨m2,e2⟩:=tbls b _ e1
  exact ⟨m1++m2,by rw [e2,Array.append_assoc]⟩
 ·obtain ⟨m,hn,hl⟩:=I.loc
  refine ⟨m,ns m hn,fun i x v e1 e2 e3=>?_⟩
  obtain ⟨u,r,l⟩:=hl i x v e1 e2 e3
  refine ⟨u,r,?_⟩
  rcases l with l | ⟨k,c,e,z⟩
  ·exact .inl l
  ·exact .inr ⟨k,c,e,cellK x c e _ z⟩
 ·obtain ⟨v,z⟩:=I.cell x c e
  exact ⟨v,cellK x c e v z⟩
 ·obtain ⟨m,⟨o,_,_,ho,_⟩,_⟩:=I.loc
  exact free _ o (fun z=>(hch _ z).2.1 rfl) ho I.free
 ·obtain ⟨v,o,ho,hd⟩:=I.cell x c e
  exact free c o (fun z=>(hch c z).2.2.1 x c e rfl) ho (I.freeC x c e)
 ·obtain ⟨e,n,ne,nf,d⟩:=I.pin p hp
  have nch:p.1∉ch:=fun z=>(hch p.1 z).2.2.2 p hp rfl
  exact ⟨keep p.1 p.2 ne nf nch e n,free p.1 p.2 nch e n,ne,nf,d⟩
theorem Inv.un {t':Nat}(I:Inv X pins σ H s)(u:Un X.fs [] H H' s.heap h')(hok:HOk X.prog X.w H' h'):Inv X pins σ H' { s with heap:=h',toks:=t' }:=by
 obtain ⟨m,⟨o,es,ep,ho,r⟩,_⟩:=id I.loc
 obtain ⟨sl,hL⟩:=u.any ho I.free (by simp)
 exact I.step (g':=s.gens) (d':=s.drawn) (ch:=[]) (fun _ z=>nomatch z) (fun b o _ hb _ e n=>u.keep b o e n hb (by simp)) (fun b o _ hb _ e n=>u.slot b o e n hb (by simp)) (fun b o _ e n=>u.free b o e n (by simp)) (fun b o _ e=>u.there b o e (by simp)) u.tups u.frzs u.tbls (fun m' hm=>by
  obtain ⟨o',es',ep',ho',r'⟩:=hm
  rw [ho] at ho';cases ho'
  exact ⟨_,es',ep',hL,r'⟩) hok I.bare
theorem Inv.call {g':Array GenState}{t':Nat}{d':Drawn}{ch:List Addr}(I:Inv X pins σ H s)(u:Un (frs X.stack) ch H H' s.heap h')(hok:HOk X.prog X.w H' h')(hg:AllBare g')
  (hch:∀ b∈ch,(b∈X.ex\/X.s₀.heap.objs.size<=b)/\b≠X.env.locals/\(∀ x c,X.env.cells.lookup x=some c->c≠b)/\∀ p∈X.pn++pins,p.1≠b) :
  Inv X pins σ H' { s with heap:=h',gens:=g',drawn:=d',toks:=t' }:=by
 obtain ⟨m,⟨o,es,ep,ho,r⟩,_⟩:=id I.loc
 obtain ⟨sl,hL⟩:=u.any ho I.free fun z=>(hch _ z).2.1 rfl
 exact I.step (ch:=ch) hch (fun b o hL hb hc e n=>u.keep b o e n (fun z=>(List.mem_cons.mp (I.stkSub b z)).elim hL hb) hc) (fun b o _ _ hc e n=>u.any e n hc) (fun b o hc e n=>u.free b o e n hc) (fun b o hc e=>u.there b o e hc) u.tups u.frzs u.tbls (fun m' hm=>by
  obtain ⟨o',es',ep',ho',r'⟩:=hm
  rw [ho] at ho';cases ho'
  exact ⟨_,es',ep',hL,r'⟩) hok hg
theorem Inv.turned {t':Nat}{it:Addr}(I:Inv X pins σ H s)(k:∀ b o,b≠it->s.heap.get? b=some o->h'.get? b=some o)(hn:H it=none)(hL:it≠X.env.locals)
  (h1:it∈X.ex\/X.s₀.heap.objs.size<=it) (h2:∀ x c,X.env.cells.lookup x=some c->c≠it) (h3:∀ p∈X.pn++pins,p.1≠it):Inv X pins σ H { s with heap:=h',toks:=t' }:=by
 have nit:∀ b u,H b=some u->b≠it:=fun b u e z=>by rw [z,hn] at e;cases e
 refine I.step (g':=s.gens) (d':=s.drawn) (ch:=[it]) (fun b hb=>?_) (fun b o _ _ hc e _=>k b o (fun z=>hc (by simp [z])) e) (fun b o _ _ hc e _=>⟨o.slots,k b o (fun z=>hc (by simp [z])) e⟩) (fun _ _ _ _ n=>n)
  (fun b o hc e=>⟨o,k b o (fun z=>hc (by simp [z])) e⟩) (fun _ _ e=>e) (fun _ _ _ e=>e) (fun b ps e=>⟨#[],by rw [e];simp⟩) (fun m hm=>?_) (fun b u e=>?_) I.bare
 ·have e:b=it:=by simpa using hb
  subst e
  exact ⟨h1,hL,h2,h3⟩
 ·obtain ⟨o,es,ep,ho,r⟩:=hm
  exact ⟨o,es,ep,k _ o (Ne.symm hL) ho,r⟩
 ·refine (I.hok b u e).stay (fun c v hc q=>k c v ?_ q) (fun _ q=>q) fun _ _ q=>q
  rcases hc with z | z
  ·rw [z];exact nit b u e
  ·exact nit c _ z
theorem Inv.tok (I:Inv X pins σ H s)(t:Nat):Inv X pins σ H { s with toks:=t }:=I.un (h':=s.heap) (t':=t) Un.refl I.hok
theorem Inv.kept {t':Nat}(I:Inv X pins σ H s)(k:∀ b u,s.heap.get? b=some u->h'.get? b=some u):Inv X pins σ H { s with heap:=h',toks:=t' }:=I.un (Un.kept k) (I.hok.kept k)
theorem Inv.laid {a:Addr}{o:HO}{t':Nat}(I:Inv X pins σ H s)(k:∀ b u,s.heap.get? b=some u->h'.get? b=some u)(hp:s.heap.objs.size<=a)(new:ObjOk X.prog X.w (upd H a o) h' a o) :
  Inv X pins σ (upd H a o) { s with heap:=h',toks:=t' }:=I.un (Un.laid k hp (I.hok.fresh hp)) (I.hok.laid k hp new)
theorem Inv.write {x e:Addr}{o:HO}{t':Nat}(I:Inv X pins σ H s)(mu:Mut (H x))(he:e=x\/H e=some (.own x))(k:∀ b u,b≠e->s.heap.get? b=some u->h'.get? b=some u)(heo:∃ u,h'.get? e=some u)
  (new:ObjOk X.prog X.w (upd H x o) h' x o):Inv X pins σ (upd H x o) { s with heap:=h',toks:=t' }:=I.un (Un.write mu he k heo) (I.hok.write mu he k heo new)
theorem Inv.weak {σ':List (Option V)}(I:Inv X pins σ H s)(hl:σ'.length=σ.length)(w:∀ (i:Nat) v,σ'[i]? = some (some v)->σ[i]? = some (some v)):Inv X pins σ' H s:=
 ⟨I.ok,I.os,I.bare,I.base,let ⟨m,hn,hl'⟩:=I.loc;⟨m,hn,fun i x v e1 e2 e3=>hl' i x v e1 (w i v e2) e3⟩,I.cell,I.free,I.freeC,I.pin,I.hok,hl.trans I.len⟩
theorem Inv.pins_of {pins':List (Addr × Obj)}(I:Inv X pins σ H s)(h:∀ p∈pins',s.heap.get? p.1=some p.2/\H p.1=none/\p.1≠X.env.locals/\p.1∉X.fs/\∀ v,p.2.data≠.cell v):Inv X pins' σ H s:=
 ⟨I.ok,I.os,I.bare,I.base,I.loc,I.cell,I.free,I.freeC,fun p hp=>(List.mem_append.mp hp).elim (fun z=>I.pin p (List.mem_append_left _ z)) (h p),I.hok,I.len⟩
theorem Qex {N:List Str}(hN:N.Nodup){i j:Nat}{x:Str}(a:N[i]? = some x)(b:N[j]? = some x):i=j:=by
 obtain ⟨h1,e1⟩:=List.getElem?_eq_some_iff.mp a
 obtain ⟨h2,e2⟩:=List.getElem?_eq_some_iff.mp b
 exact (List.getElem_inj hN).mp (e1.trans e2.symm)
theorem Qfr {M:Model}{A:Around}{E:Value->Shared->Prop}{i:Nat}{x:Str}{v:V}{u:Value}{Q:Unit->Shared->Prop}(I:Inv X pins σ H s)(hN:X.N.Nodup)(hi:X.N[i]? = some x)(hx:Loc X.env.scope x)(r:RelV v u)
  (h:∀ s',Inv X pins (σ.set i (some v)) H s'->(∃ a,Heap.SameBut a s.heap s'.heap/\(a=X.env.locals\/X.env.cells.lookup x=some a))->Q () s') (hf:X.fn x=true\/X.env.scope.names.lookup x=some .local:=by first | exact .inl rfl | exact .inr rfl | assumption):wpAny M A (storeName X.env x u) Q E s:=by
 obtain ⟨m,hn,hl⟩:=id I.loc
 have hcls:(X.env.scope.kind == .class || (X.env.scope.kind == .module && X.env.locals != X.env.globals))=false:=by rw [I.ok.kind];rfl
 have hiσ:i<σ.length:=by rw [I.len];exact (List.getElem?_eq_some_iff.mp hi).1
 have cne:=I.cne
 have tracked:∀ {a:Addr} {h':Heap},(∃ o,s.heap.get? a=some o/\H a=none)->Heap.SameBut a s.heap h'->HOk X.prog X.w H h':=fun {a h'} ha hs b ob e=>by
  obtain ⟨_,_,hfree⟩:=ha
  refine (I.hok b ob e).stay (fun c w' hc q=>(hs.2 c ?_).trans q) (fun _ q=>q) fun _ _ q=>q
  rintro rfl
  rcases hc with rfl | hc
  ·rw [hfree] at e;cases e
  ·rw [hfree] at hc;cases hc
 rcases hx with hk | hk
 ·refine wpAny_storeName_local hk hn (fun h' hn' hs=>?_) hcls
  obtain ⟨oL,_,_,hoL,_⟩:=id hn
  refine h _ ⟨I.ok,I.os,I.bare,⟨fun b o e n hb hx=>?_,fun b o e n hb hx=>?_,I.base.free,fun b o e hx=>?_,I.base.tups,I.base.frzs,I.base.tbls⟩,⟨_,hn',fun j y v' e1 e2 e3=>?_⟩,fun y c e=>?_,I.free,I.freeC,fun p hp=>?_,tracked ⟨oL,hoL,I.free⟩ hs,by simpa using I.len⟩ ⟨_,hs,.inl rfl⟩
  ·exact (hs.2 b (Nat.ne_of_lt (Nat.lt_of_lt_of_le (Heap.lt_size e) I.ok.above))).trans (I.base.keep b o e n hb hx)
  ·obtain ⟨sl,e1⟩:=I.base.slot b o e n hb hx
   exact ⟨sl,(hs.2 b (Nat.ne_of_lt (Nat.lt_of_lt_of_le (Heap.lt_size e) I.ok.above))).trans e1⟩
  ·obtain ⟨o',e1⟩:=I.base.there b o e hx
   exact ⟨o',(hs.2 b (Nat.ne_of_lt (Nat.lt_of_lt_of_le (Heap.lt_size e) I.ok.above))).trans e1⟩
  ·by_cases hj:j=i
   ·subst hj
    rw [hi] at e1;cases e1
    rw [List.getElem?_set_self hiσ] at e2
    cases e2
    exact ⟨u,r,.inl ⟨hk,by simp⟩⟩
   ·rw [List.getElem?_set_ne (Ne.symm hj)] at e2
    obtain ⟨u',r',q⟩:=hl j y v' e1 e2 e3
    refine ⟨u',r',?_⟩
    rcases q with ⟨k,e⟩ | ⟨k,c,e,z⟩
    ·refine .inl ⟨k,?_⟩
     have:y≠x:=fun e=>hj (Qex hN e1 (e▸hi))
     simp [this,e]
    ·exact .inr ⟨k,c,e,z.sameBut hs (cne y c e)⟩
  ·obtain ⟨w',z⟩:=I.cell y c e
   exact ⟨w',z.sameBut hs (cne y c e)⟩
  ·obtain ⟨e,n,ne,nf,d⟩:=I.pin p hp
   exact ⟨(hs.2 p.1 ne).trans e,n,ne,nf,d⟩
 ·have hfn:X.fn x=true:=by
   rcases hf with z | z
   ·exact z
   ·rw [z] at hk;cases hk
  obtain ⟨c,hc⟩:=I.ok.has x (.inl hk)
  obtain ⟨w',z⟩:=I.cell x c hc
  refine wpAny_storeName_cell I.ok.kind hk hc z (fun h' hc' hs=>?_)
  obtain ⟨oc,hoc,hocd⟩:=id z
  refine h { s with heap:=h' } ⟨I.ok,I.os,I.bare,⟨fun b o e n hb hx=>?_,fun b o e n hb hx=>?_,I.base.free,fun b o e hx=>?_,I.base.tups,I.base.frzs,I.base.tbls⟩,⟨m,hn.sameBut hs (Ne.symm (cne x c hc)),fun j y v' e1 e2 e3=>?_⟩,fun y c' e=>?_,I.free,I.freeC,fun p hp=>?_,tracked ⟨oc,hoc,I.freeC x c hc⟩ hs,by simpa using I.len⟩ ⟨c,hs,.inr hc⟩
  ·exact (hs.2 b (Nat.ne_of_lt (Nat.lt_of_lt_of_le (Heap.lt_size e) (I.ok.cab x c hfn hc)))).trans (I.base.keep b o e n hb hx)
  ·obtain ⟨sl,e1⟩:=I.base.slot b o e n hb hx
   exact ⟨sl,(hs.2 b (Nat.ne_of_lt (Nat.lt_of_lt_of_le (Heap.lt_size e) (I.ok.cab x c hfn hc)))).trans e1⟩
  ·obtain ⟨o',e1⟩:=I.base.there b o e hx
   exact ⟨o',(hs.2 b (Nat.ne_of_lt (Nat.lt_of_lt_of_le (Heap.lt_size e) (I.ok.cab x c hfn hc)))).trans e1⟩
  ·by_cases hj:j=i
   ·subst hj
    rw [hi] at e1;cases e1
    rw [List.getElem?_set_self hiσ] at e2
    cases e2
    exact ⟨u,r,.inr ⟨.inl hk,c,hc,hc'⟩⟩
   ·rw [List.getElem?_set_ne (Ne.symm hj)] at e2
    obtain ⟨u',r',q⟩:=hl j y v' e1 e2 e3
    refine ⟨u',r',?_⟩
    rcases q with q | ⟨k,c',e,z'⟩
    ·exact .inl q
    ·refine .inr ⟨k,c',e,z'.sameBut hs ?_⟩
     rintro rfl
     exact hj (Qex hN e1 (I.ok.inj _ _ _ e hc▸hi))
  ·by_cases hcc:c'=c
   ·subst hcc;exact ⟨_,hc'⟩
   ·obtain ⟨w2,z2⟩:=I.cell y c' e
    exact ⟨w2,z2.sameBut hs hcc⟩
  ·obtain ⟨e,n,ne,nf,d⟩:=I.pin p hp
   refine ⟨(hs.2 p.1 ?_).trans e,n,ne,nf,d⟩
   intro q
   rw [q,hoc] at e
   have q':oc=p.2:=Option.some.inj e
   exact d w' (by rw [← q'];exact hocd)
theorem Qde {M:Model}{A:Around}{E:Value->Shared->Prop}{i:Nat}{x:Str}{v:V}{u:Value}{Q:Unit->Shared->Prop}(I:Inv X pins σ H s)(hN:X.N.Nodup)(hi:X.N[i]? = some x)(hx:Loc X.env.scope x)(r:RelV v u)
  (h:∀ s',Inv X pins (σ.set i (some v)) H s'->Q () s') (hf:X.fn x=true\/X.env.scope.names.lookup x=some .local:=by first | exact .inl rfl | exact .inr rfl | assumption):wpAny M A (storeName X.env x u) Q E s:=
 Qfr I hN hi hx r (fun s' I' _=>h s' I') hf
theorem Inv.call' {s':Shared}{ch:List Addr}(I:Inv X pins σ H s)(ho:s'.os=s.os)(u:Un (frs X.stack) ch H H' s.heap s'.heap)(hok:HOk X.prog X.w H' s'.heap)(hg:AllBare s'.gens)
  (hch:∀ b∈ch,(b∈X.ex\/X.s₀.heap.objs.size<=b)/\b≠X.env.locals/\(∀ x c,X.env.cells.lookup x=some c->c≠b)/\∀ p∈X.pn++pins,p.1≠b):Inv X pins σ H' s':=by
 obtain ⟨h',g',d',t',o'⟩:=s'
 have e:o'=s.os:=ho
 subst e
 exact I.call (g':=g') (t':=t') (d':=d') u hok hg hch
end
abbrev XK:=Value->Option Addr->Hp->Prop
abbrev St:=List (Option V)
abbrev VK:=V->Hp->Prop
abbrev TE:=St->Hp->VK->Prop
abbrev TT:=St->Hp->(Bool->Hp->Prop)->Prop
abbrev TA:=St->Hp->(List V->Hp->Prop)->Prop
structure Ends where
 nx:St->Hp->Prop
 rt:VK
 bk:St->Hp->Prop:=fun _ _=>False
 ct:St->Hp->Prop:=fun _ _=>False
abbrev TS:=Ends->St->Hp->Prop
def EP (X:Cx)(pins:List (Addr × Obj))(σ:St)(Q:VK)(u:Value)(s':Shared):Prop:=∃ v H',Inv X pins σ H' s'/\RelV v u/\Q v H'
def TP (X:Cx)(pins:List (Addr × Obj))(σ:St)(Q:Bool->Hp->Prop)(b:Bool)(s':Shared):Prop:=∃ H',Inv X pins σ H' s'/\Q b H'
def AP (X:Cx)(pins:List (Addr × Obj))(σ:St)(Q:List V->Hp->Prop)(us:List Value)(s':Shared):Prop:=∃ vs H',Inv X pins σ H' s'/\Vals vs us/\Q vs H'
def SP (X:Cx)(pins:List (Addr × Obj))(D:Ends)(f:Flow)(s':Shared):Prop:=
 match f with
 |.next=>∃ σ' H',Inv X pins σ' H' s'/\D.nx σ' H'
 |.brk=>∃ σ' H',Inv X pins σ' H' s'/\D.bk σ' H'
 |.cont=>∃ σ' H',Inv X pins σ' H' s'/\D.ct σ' H'
 |.ret u=>∃ v σ' H',Inv X pins σ' H' s'/\RelV v u/\D.rt v H'
def PE (X:Cx)(e:Expr)(t:TE):Prop:=
 ∀ (pins:List (Addr × Obj)) (s:Shared) (σ:St) (H:Hp) (Q:VK),Inv X pins σ H s->t σ H Q->wpAny (model X.prog X.w) X.A (eval e X.env) (EP X pins σ Q) X.xe s
def PT (X:Cx)(e:Expr)(t:TT):Prop:=
 ∀ (pins:List (Addr × Obj)) (s:Shared) (σ:St) (H:Hp) (Q:Bool->Hp->Prop),Inv X pins σ H s->t σ H Q->wpAny (model X.prog X.w) X.A (isTrue e X.env (eval e X.env)) (TP X pins σ Q) X.xe s
def PW (X:Cx)(e:Expr)(t:TT):Prop:=
 ∀ (whole:Sem Value) (pins:List (Addr × Obj)) (s:Shared) (σ:St) (H:Hp) (Q:Bool->Hp->Prop),Inv X pins σ H s->t σ H Q->wpAny (model X.prog X.w) X.A (isTrue e X.env whole) (TP X pins σ Q) X.xe s
theorem PW.pt {X:Cx}{e:Expr}{t:TT}(h:PW X e t):PT X e t:=h _
def PA (X:Cx)(es:List Expr)(t:TA):Prop:=
 ∀ (pos:Pos) (pins:List (Addr × Obj)) (s:Shared) (σ:St) (H:Hp) (Q:List V->Hp->Prop),Inv X pins σ H s->t σ H Q->wpAny (model X.prog X.w) X.A (spliced (backTo pos (starEach es X.env))) (AP X pins σ Q) X.xe s
def PS (X:Cx)(st:Stmt)(t:TS):Prop:=
 ∀ (pins:List (Addr × Obj)) (s:Shared) (σ:St) (H:Hp) (D:Ends),Inv X pins σ H s->t D σ H->wpAny (model X.prog X.w) X.A (exec st X.env) (SP X pins D) X.xe s
def PSs (X:Cx)(st:List Stmt)(t:TS):Prop:=
 ∀ (pins:List (Addr × Obj)) (s:Shared) (σ:St) (H:Hp) (D:Ends),Inv X pins σ H s->t D σ H->wpAny (model X.prog X.w) X.A (execs st X.env) (SP X pins D) X.xe s
theorem thn {α:Type}{t:Sem α}{Q Q':α->Shared->Prop}{M:Model}{A:Around}{E:Value->Shared->Prop}{s:Shared}(h:wpAny M A t Q E s)(hQ:∀ a s,Q a s->Q' a s):wpAny M A t Q' E s:=wpAny_mono h hQ fun _ _ x=>x
section
variable {X:Cx}
def QsR (i:Nat):TE:=fun σ H Q=>∃ v,σ[i]? = some (some v)/\Q v H
def tC (v:V):TE:=fun _ H Q=>Q v H
theorem QdD {i:Nat}{x:Str}{pos:Pos}(hN:X.N[i]? = some x)(hv:Vis X.env.scope x)(hd:(x == ("__debug__" : Str))=false:=by decide)(hcd:(x == ("__classdict__" : Str))=false:=by decide):PE X (.Name x pos) (QsR i):=by
 intro pins s σ H Q I h
 obtain ⟨v,e,h⟩:=h
 obtain ⟨m,hn,hl⟩:=I.loc
 obtain ⟨u,r,l⟩:=hl i x v hN e hv
 have fin:EP X pins σ Q u s:=⟨v,H,I,r,h⟩
 rcases l with ⟨hk,hm⟩ | ⟨hk,c,hc,hcell⟩
 ·exact wpAny_Name (wpAny_loadName_local I.ok.kind hk hn hm fin) hd
 ·rcases hk with hk | hk
  ·exact wpAny_Name (wpAny_loadName_cell I.ok.kind hk hc hcell fin) hd
  ·exact wpAny_Name (wpAny_loadName_free I.ok.kind hk hc hcell fin hcd) hd
theorem Qo6 {i j pos}:PE X (.Constant (.int i) j pos) (tC (.int i)):=fun _ _ _ H _ I h=>wpAny_Constant_int ⟨.int i,H,I.tok _,⟨_,rfl⟩,h⟩
theorem QrJ {b j pos}:PE X (.Constant (.bool b) j pos) (tC (.bl b)):=fun _ _ _ H _ I h=>Constant_bool ⟨.bl b,H,I,rfl,h⟩
theorem Qp4 {j pos}:PE X (.Constant .none j pos) (tC .non):=fun _ _ _ H _ I h=>Constant_none ⟨.non,H,I,rfl,h⟩
theorem Qa8 {x j pos}:PE X (.Constant (.str x) j pos) (tC (.str x)):=fun _ _ _ H _ I h=>Calls.Constant_str ⟨.str x,H,I.tok _,⟨_,rfl⟩,h⟩
def Gl (X:Cx)(x:Str):Prop:=X.env.kindOf x=some .globalImplicit
theorem Qca {E:Value->Shared->Prop}{pins:List (Addr × Obj)}{s:Shared}{σ:St}{H:Hp}{x:Str}{u:Value}{pos:Pos}{Q:Value->Shared->Prop}(I:Inv X pins σ H s)(hg:Gl X x)(hm:X.mg x=some u)(h:Q u s)
  (hd:(x == ("__debug__" : Str))=false:=by decide):wpAny (model X.prog X.w) X.A (eval (.Name x pos) X.env) Q E s:=
 Calls.Name_function_global I.ok.kind hg (Calls.loadGlobal_global (by rw [I.ok.glob];exact I.mod.glob.keeps I.bk) hm h) hd
theorem QdW {E:Value->Shared->Prop}{pins:List (Addr × Obj)}{s:Shared}{σ:St}{H:Hp}{x:Str}{u:Value}{pos:Pos}{Q:Value->Shared->Prop}(I:Inv X pins σ H s)(hg:Gl X x)(hm:X.mg x=none)(hv:bootBuiltins x=some u)(h:Q u s)
  (hn:x ≠ "__name__" := by decide) (hd:(x == ("__debug__" : Str))=false:=by decide):wpAny (model X.prog X.w) X.A (eval (.Name x pos) X.env) Q E s:=by
 obtain ⟨mb,h1,h2⟩:=I.mod.blt
 exact Calls.Name_function_global I.ok.kind hg (Calls.loadGlobal_builtin (by rw [I.ok.glob];exact I.mod.glob.keeps I.bk) hm (by rw [I.ok.blt];exact h1.keeps I.bk) ((h2 x hn).trans hv) h) hd
theorem QnO {x:Str}{v:V}{u:Value}{pos:Pos}(hg:Gl X x)(hm:X.mg x=some u)(r:RelV v u)(hd:(x == ("__debug__" : Str))=false:=by decide):PE X (.Name x pos) (tC v):=
 fun _ _ _ H _ I h=>Qca I hg hm ⟨v,H,I,r,h⟩ hd
theorem QmU {x:Str}{v:V}{u:Value}{pos:Pos}(hg:Gl X x)(hm:X.mg x=none)(hv:bootBuiltins x=some u)(r:RelV v u)(hn:x ≠ "__name__" := by decide)(hd:(x == ("__debug__" : Str))=false:=by decide):PE X (.Name x pos) (tC v):=
 fun _ _ _ H _ I h=>QdW I hg hm hv ⟨v,H,I,r,h⟩ hn hd
variable {a b:Expr}{ta tb:TE}{pos:Pos}
def PC (X:Cx)(op:CmpOp)(a b:Expr)(t:TE):Prop:=
 ∀ (pins:List (Addr × Obj)) (s:Shared) (σ:St) (H:Hp) (Q:VK),Inv X pins σ H s->t σ H Q->
  wpAny (model X.prog X.w) X.A (eval a X.env) (fun v s₁=>wpAny (model X.prog X.w) X.A (eval b X.env) (fun u s₂=>wpAny (model X.prog X.w) X.A (compareOp op v u) (EP X pins σ Q) X.xe s₂) X.xe s₁) X.xe s
def tB (t:TE):TT:=fun σ H Q=>t σ H fun x H1=>∃ c,x=.bl c/\Q c H1
theorem QlD {op:CmpOp}{t:TE}(h:PC X op a b t)(h1:behindInMarks op b=false:=by first | exact nobehind _ (by decide) (by decide) | rfl):PT X (.Compare a [op] [b] pos) (tB t):=by
 intro pins s σ H Q I hw
 refine wpAny_isTrue_Compare1 (thn (h pins s σ H _ I hw) fun v s1 h1=>thn h1 fun u s2 h2=>thn h2 fun c s3 hz=>?_) h1
 obtain ⟨x,H1,I1,r1,q1⟩:=hz
 obtain ⟨d,rfl,q⟩:=q1
 cases r1
 exact wpAny_truthy_bool ⟨H1,I1,q⟩
theorem QpZ {e:Expr}{t:TE}(h:PE X e t)(he:∀ whole,isTrue e X.env whole=(do let v ← whole;standAt e.pos;holding [v] (truthy v)):=by intro _;rfl):PT X e (tB t):=by
 intro pins s σ H Q I hw
 refine isTrue_plain (thn (h pins s σ H _ I hw) fun v s1 hz=>?_) (he _)
 obtain ⟨x,H1,I1,r1,q1⟩:=hz
 obtain ⟨d,rfl,q⟩:=q1
 cases r1
 exact wpAny_truthy_bool ⟨H1,I1,q⟩
variable {tA tB':TT}{rest:List Expr}
def Qt2 (t u:TT):TT:=fun σ H Q=>t σ H fun c H1=>if c=true then u σ H1 Q else Q false H1
def tOr (t u:TT):TT:=fun σ H Q=>t σ H fun c H1=>if c=true then Q true H1 else u σ H1 Q
def Qt3 (t:TT):TT:=fun σ H Q=>t σ H fun c H1=>Q (!c) H1
theorem Qmm (ha:PT X a tA):PW X (.BoolOp .And [a] pos) tA:=by
 intro wh pins s σ H Q I h
 refine isTrue_and (thn (ha pins s σ H Q I h) fun c s1 e=>?_)
 cases c with
 |true=>exact isTrue_and_nil e
 |false=>exact e
theorem QoT (ha:PT X a tA):PW X (.BoolOp .Or [a] pos) tA:=by
 intro wh pins s σ H Q I h
 refine isTrue_or (thn (ha pins s σ H Q I h) fun c s1 e=>?_)
 cases c with
 |false=>exact isTrue_or_nil e
 |true=>exact e
theorem QoO (ha:PT X a tA)(hb:PW X (.BoolOp .And (b :: rest) pos) tB'):PW X (.BoolOp .And (a :: b :: rest) pos) (Qt2 tA tB'):=by
 intro wh pins s σ H Q I h
 refine isTrue_and (thn (ha pins s σ H _ I h) fun c s1 hz=>?_)
 obtain ⟨H1,I1,q1⟩:=hz
 cases c with
 |true=>exact hb wh pins s1 σ H1 Q I1 q1
 |false=>exact ⟨H1,I1,q1⟩
theorem Qst (ha:PT X a tA)(hb:PW X (.BoolOp .Or (b :: rest) pos) tB'):PW X (.BoolOp .Or (a :: b :: rest) pos) (tOr tA tB'):=by
 intro wh pins s σ H Q I h
 refine isTrue_or (thn (ha pins s σ H _ I h) fun c s1 hz=>?_)
 obtain ⟨H1,I1,q1⟩:=hz
 cases c with
 |true=>exact ⟨H1,I1,q1⟩
 |false=>exact hb wh pins s1 σ H1 Q I1 q1
theorem QpT (ha:PT X a tA):PT X (.UnaryOp .Not a pos) (Qt3 tA):=by
 intro pins s σ H Q I h
 exact isTrue_not (ha pins s σ H (fun c H1=>Q (!c) H1) I h)
def Qse (ta tb:TE):TE:=fun σ H Q=>ta σ H fun x H1=>∃ c,x=.bl c/\if c=true then tb σ H1 Q else Q (.bl false) H1
theorem Qqx {op}{t:TE}(h:PE X a t):PE X (.BoolOp op [a] pos) t:=fun pins s σ H Q I hw=>BoolOp_one (h pins s σ H Q I hw)
theorem Qoe (ha:PE X a ta)(hb:PE X (.BoolOp .And (b :: rest) pos) tb):PE X (.BoolOp .And (a :: b :: rest) pos) (Qse ta tb):=by
 intro pins s σ H Q I h
 refine BoolOp_and (thn (ha pins s σ H _ I h) fun v s1 hz=>?_)
 obtain ⟨x,H1,I1,r1,q1⟩:=hz
 obtain ⟨c,rfl,q1⟩:=q1
 cases r1
 refine wpAny_truthy_bool ?_
 cases c with
 |true=>exact hb pins s1 σ H1 Q I1 q1
 |false=>exact ⟨.bl false,H1,I1,rfl,q1⟩
end
def SqL (K:PySem.W.Frag)(H:Hp)(a:Addr)(xs:List V):Prop:=
 Rd H a (.lst xs)\/
  ∃ (o:Obj) (its:Array Value) (n:Nat),K.lookup a=some o/\o.cls=.type "list" /\ o.dict=none/\o.data=.seq its n/\its.size<=sizeLine/\Vals xs its.toList
def SqT (K:PySem.W.Frag)(H:Hp)(a:Addr)(xs:List V):Prop:=
 Rd H a (.tup xs)\/
  ∃ (o:Obj) (its:Array Value) (n:Nat),K.lookup a=some o/\o.cls=.type "tuple" /\ o.data=.seq its n/\its.size<=sizeLine/\Vals xs its.toList
def QtV:Value->Option V
 |.none=>some .non
 |.bool b=>some (.bl b)
 |.int i _=>some (.int i)
 |.str x _=>some (.str x)
 |.bytes b _=>some (.byt b)
 |.float b _=>some (.flt b)
 |.ref a=>some (.ref a)
 |.type n=>some (.ty n)
 |_=>none
theorem RelV.abs {x:V}{u:Value}(r:RelV x u):QtV u=some x:=by
 cases x with
 |non=>cases r;rfl
 |bl _=>cases r;rfl
 |int _=>obtain ⟨t,rfl⟩:=r;rfl
 |str _=>obtain ⟨t,rfl⟩:=r;rfl
 |byt _=>obtain ⟨t,rfl⟩:=r;rfl
 |flt _=>obtain ⟨t,rfl⟩:=r;rfl
 |ref _=>cases r;rfl
 |ty _=>cases r;rfl
theorem RelV.inj {x y:V}{u:Value}(r:RelV x u)(q:RelV y u):x=y:=Option.some.inj (r.abs.symm.trans q.abs)
theorem Vals.inj:∀ {xs ys:List V} {us:List Value},Vals xs us->Vals ys us->xs=ys
 |_,_,_,.nil,.nil=>rfl
 |_,_,_,.cons r t,.cons r' t'=>by rw [r.inj r',Vals.inj t t']
section
variable {X:Cx}{pins:List (Addr × Obj)}{σ:St}{H:Hp}{s:Shared}{a:Addr}{xs ys:List V}
theorem SqL.of {K:PySem.W.Frag}(h:H a=some (.lst xs)):SqL K H a xs:=.inl (.inl h)
theorem SqT.of {K:PySem.W.Frag}(h:H a=some (.tup xs)):SqT K H a xs:=.inl (.inl h)
theorem Inv.list (I:Inv X pins σ H s)(h:SqL X.K H a xs):∃ its:List Value,Vals xs its/\PlainL s.heap a its.toArray/\xs.length<=sizeLine:=by
 rcases h with h | ⟨o,its,n,hk,hc,hd,hs,hz,r⟩
 ·obtain ⟨z,its,n,r,e⟩:=h.ok I.hok
  exact ⟨its,r,⟨_,n,e,rfl,rfl,rfl⟩,z⟩
 ·refine ⟨its.toList,r,⟨o,n,I.kIn a o hk,hc,hd,by simpa using hs⟩,?_⟩
  have e:=r.length
  simp only [Array.length_toList] at e
  omega
theorem Inv.tuple (I:Inv X pins σ H s)(h:SqT X.K H a xs):∃ its:List Value,Vals xs its/\IsTup s.heap a its.toArray/\xs.length<=sizeLine:=by
 rcases h with h | ⟨o,its,n,hk,hc,hs,hz,r⟩
 ·obtain ⟨z,its,r,p⟩:=h.ok I.hok
  exact ⟨its,r,p,z⟩
 ·refine ⟨its.toList,r,⟨o,I.kIn a o hk,hc,n,by simpa using hs⟩,?_⟩
  have e:=r.length
  simp only [Array.length_toList] at e
  omega
theorem Inv.list_inj (I:Inv X pins σ H s)(h:SqL X.K H a xs)(h':SqL X.K H a ys):xs=ys:=by
 obtain ⟨its,r,⟨o,n,e,_,_,d⟩,_⟩:=I.list h
 obtain ⟨its',r',⟨o',n',e',_,_,d'⟩,_⟩:=I.list h'
 rw [e] at e';cases e'
 rw [d] at d'
 injection d' with d1 _
 have:its=its':=by simpa using congrArg Array.toList d1
 subst this
 exact r.inj r'
theorem Inv.tuple_inj (I:Inv X pins σ H s)(h:SqT X.K H a xs)(h':SqT X.K H a ys):xs=ys:=by
 obtain ⟨its,r,⟨o,e,_,n,d⟩,_⟩:=I.tuple h
 obtain ⟨its',r',⟨o',e',_,n',d'⟩,_⟩:=I.tuple h'
 rw [e] at e';cases e'
 rw [d] at d'
 injection d' with d1 _
 have:its=its':=by simpa using congrArg Array.toList d1
 subst this
 exact r.inj r'
end
abbrev Cx.wish (X:Cx)(E:Value->Shared->Prop):Cx:={ X with xe:=E }
abbrev Cx.nox (X:Cx):Cx:=X.wish fun _ _=>False
theorem Cx.Ok.wish {X:Cx}(ok:X.Ok)(E:Value->Shared->Prop):(X.wish E).Ok:=
 ⟨ok.mod,ok.kind,ok.glob,ok.blt,ok.above,ok.inj,ok.has,ok.cab,ok.hd,ok.frames,ok.stk,ok.exf,ok.bs,ok.bsz,ok.noex,ok.exfs,ok.funs,ok.frf⟩
theorem Cx.Ok.unwish {X:Cx}{E:Value->Shared->Prop}(ok:(X.wish E).Ok):X.Ok:=
 ⟨ok.mod,ok.kind,ok.glob,ok.blt,ok.above,ok.inj,ok.has,ok.cab,ok.hd,ok.frames,ok.stk,ok.exf,ok.bs,ok.bsz,ok.noex,ok.exfs,ok.funs,ok.frf⟩
section
variable {X:Cx}{pins:List (Addr × Obj)}{σ:St}{H:Hp}{s:Shared}{E:Value->Shared->Prop}
theorem Inv.wish (I:Inv X pins σ H s)(E:Value->Shared->Prop):Inv (X.wish E) pins σ H s:=⟨I.ok.wish E,I.os,I.bare,I.base,I.loc,I.cell,I.free,I.freeC,I.pin,I.hok,I.len⟩
theorem Inv.unwish (I:Inv (X.wish E) pins σ H s):Inv X pins σ H s:=⟨I.ok.unwish,I.os,I.bare,I.base,I.loc,I.cell,I.free,I.freeC,I.pin,I.hok,I.len⟩
theorem SP.unwish {D:Ends}{f:Flow}{s':Shared}(h:SP (X.wish E) pins D f s'):SP X pins D f s':=by
 cases f with
 |next=>obtain ⟨σ',H',I,q⟩:=h;exact ⟨σ',H',I.unwish,q⟩
 |brk=>obtain ⟨σ',H',I,q⟩:=h;exact ⟨σ',H',I.unwish,q⟩
 |cont=>obtain ⟨σ',H',I,q⟩:=h;exact ⟨σ',H',I.unwish,q⟩
 |ret u=>obtain ⟨v,σ',H',I,r,q⟩:=h;exact ⟨v,σ',H',I.unwish,r,q⟩
theorem PSs.nox {st:List Stmt}{t:TS}(h:PSs X.nox st t):PSs X st t:=fun pins s σ H D I hw=>
 wpAny_mono (h pins s σ H D (I.wish _) hw) (fun _ _ q=>q.unwish) fun _ _ z=>False.elim z
end
section
variable {X:Cx}{st:Stmt}{rest:List Stmt}{t u:TS}{e:Expr}{te:TE}{pos:Pos}
def Qsk:TS:=fun D σ H=>D.nx σ H
def Qre (t u:TS):TS:=fun D σ H=>t { D with nx:=u D } σ H
theorem Ql2:PSs X [] Qsk:=fun _ _ σ H _ I h=>wpAny_execs_nil ⟨σ,H,I,h⟩
theorem QgQ (h1:PS X st t)(h2:PSs X rest u):PSs X (st :: rest) (Qre t u):=by
 intro pins s σ H D I h
 refine wpAny_execs_cons (thn (h1 pins s σ H { D with nx:=u D } I h) fun f s1 q=>?_)
 cases f with
 |next=>
  obtain ⟨σ',H',I',q⟩:=q
  exact h2 pins s1 σ' H' D I' q
 |ret v=>exact q
 |brk=>exact q
 |cont=>exact q
theorem Qin (h1:PS X st t):PSs X [st] t:=by
 intro pins s σ H D I h
 refine wpAny_execs_cons (thn (h1 pins s σ H D I h) fun f s1 q=>?_)
 cases f with
 |next=>exact wpAny_execs_nil q
 |ret v=>exact q
 |brk=>exact q
 |cont=>exact q
theorem Inv.quiet {pins:List (Addr × Obj)}{σ:St}{H:Hp}{s:Shared}(I:Inv X pins σ H s):interactive X.env=false:=by simp [interactive,I.ok.kind]
def QrE (te:TE):TS:=fun D σ H=>te σ H fun _ H1=>D.nx σ H1
theorem Qil (he:PE X e te)(hs:swapsWith e none pos.line X.env=pure false:=by rfl):PS X (.Expr e pos) (QrE te):=by
 intro pins s σ H D I h
 exact wpAny_Expr_any (thn (he pins s σ H _ I h) fun v s1 ⟨x,H1,I1,r1,q1⟩=>⟨σ,H1,I1,q1⟩) I.quiet hs
def Qtm (te:TE):TS:=fun D σ H=>te σ H D.rt
theorem Qp3 (he:PE X e te):PS X (.Return (some e) pos) (Qtm te):=by
 intro pins s σ H D I h
 exact wpAny_Return_some (thn (he pins s σ H _ I h) fun v s1 ⟨x,H1,I1,r1,q1⟩=>⟨x,σ,H1,I1,r1,q1⟩)
def Qth (c:TT)(t u:TS):TS:=fun D σ H=>c σ H fun b H1=>if b=true then t D σ H1 else u D σ H1
theorem Qsj {c:Expr}{a b:List Stmt}{tc:TT}(hc:PT X c tc)(ha:PSs X a t)(hb:PSs X b u):PS X (.If c a b pos) (Qth tc t u):=by
 intro pins s σ H D I h
 refine wpAny_If (thn (hc pins s σ H _ I h) fun d s1 hz=>?_)
 obtain ⟨H1,I1,q1⟩:=hz
 cases d with
 |true=>exact ha pins s1 σ H1 D I1 q1
 |false=>exact hb pins s1 σ H1 D I1 q1
end
abbrev TG:=V->St->Hp->(St->Hp->Prop)->Prop
abbrev TGs:=List V->St->Hp->(St->Hp->Prop)->Prop
def PG (X:Cx)(target:Expr)(t:TG):Prop:=
 ∀ (pins:List (Addr × Obj)) (s:Shared) (σ:St) (H:Hp) (v:V) (u:Value) (Q:St->Hp->Prop),Inv X pins σ H s->RelV v u->t v σ H Q->
  wpAny (model X.prog X.w) X.A (assign target X.env u) (fun _ s'=>∃ σ' H',Inv X pins σ' H' s'/\Q σ' H') X.xe s
def PGs (X:Cx)(ts:List Expr)(t:TGs):Prop:=
 ∀ (pins:List (Addr × Obj)) (s:Shared) (σ:St) (H:Hp) (vs:List V) (us:List Value) (Q:St->Hp->Prop),Inv X pins σ H s->Vals vs us->t vs σ H Q->
  wpAny (model X.prog X.w) X.A (assignInOrder ((assignEach ts X.env).map (·.2)) us) (fun _ s'=>∃ σ' H',Inv X pins σ' H' s'/\Q σ' H') X.xe s
abbrev QtF:=V->V->V->Hp->(Hp->Prop)->Prop
section
variable {X:Cx}{pos:Pos}
def QdB (i:Nat):TG:=fun v σ H Q=>Q (σ.set i (some v)) H
theorem Qbb {i:Nat}{x:Str}(hN:X.N.Nodup)(hi:X.N[i]? = some x)(hx:Loc X.env.scope x)(hf:X.fn x=true\/X.env.scope.names.lookup x=some .local:=by first | exact .inl rfl | exact .inr rfl | assumption):PG X (.Name x pos) (QdB i):=by
 intro pins s σ H v u Q I r h
 exact wpAny_assign_Name (Qde I hN hi hx r (fun s' I'=>⟨_,H,I',h⟩) hf)
def Qs6:TGs:=fun vs σ H Q=>vs=[]/\Q σ H
def Qmd (t:TG)(u:TGs):TGs:=fun vs σ H Q=>∃ v r,vs=v :: r/\t v σ H fun σ' H'=>u r σ' H' Q
theorem Qie:PGs X [] Qs6:=by
 intro pins s σ H vs us Q I r h
 obtain ⟨e,h⟩:=h
 subst e
 cases r
 exact assignInOrder_nil ⟨σ,H,I,h⟩
theorem Qdc {e:Expr}{es:List Expr}{t:TG}{u:TGs}(h1:PG X e t)(h2:PGs X es u)
  (hs:(assignEach (e :: es) X.env).map (·.2)=assign e X.env :: (assignEach es X.env).map (·.2):=by rfl):PGs X (e :: es) (Qmd t u):=by
 intro pins s σ H vs us Q I r h
 obtain ⟨v,vr,e1,h⟩:=h
 subst e1
 cases r with
 |cons r rr=>
  rw [hs]
  refine assignInOrder_cons (thn (h1 pins s σ H _ _ _ I r h) fun _ s1 hz=>?_)
  obtain ⟨σ1,H1,I1,q1⟩:=hz
  exact h2 pins s1 σ1 H1 _ _ Q I1 rr q1
def QsY (K:PySem.W.Frag)(n:Nat)(t:TGs):TG:=fun v σ H Q=>∃ a xs,v=.ref a/\SqT K H a xs/\xs.length=n/\t xs σ H Q
theorem Qlu {es:List Expr}{k:Nat}{t:TGs}{n:Nat}(hc:X.calm=true)(h:PGs X es t)
  (hn:(assignEach es X.env).length=n:=by rfl) (hst:(assignEach es X.env).findIdx? (·.1)=none:=by rfl):PG X (.Tuple es k pos) (QsY X.K n t):=by
 intro pins s σ H v u Q I r hw
 obtain ⟨a,xs,e1,hq,hl,hw⟩:=hw
 subst e1
 cases r
 obtain ⟨its,rv,ht,hz⟩:=I.tuple hq
 refine assign_Tuple_tuple (I.ok.hd hc) ht (by simp [hn,← hl,rv.length]) hst fun h' hx=>?_
 have I1:Inv X pins σ H { s with heap:=h' }:=I.kept (t':=s.toks) fun b o e=>hx b o (Nat.ne_of_lt (Heap.lt_size e)) e
 exact h pins _ σ H xs _ Q I1 (by simpa using rv) hw
def Qrm (to ti:TE)(t:QtF):TG:=fun v σ H Q=>to σ H fun o H1=>ti σ H1 fun i H2=>t o i v H2 fun H3=>Q σ H3
def QnZ (te:TE)(g:TG):TS:=fun D σ H=>te σ H fun x H1=>g x σ H1 D.nx
theorem QqZ {tg e:Expr}{te:TE}{g:TG}(he:PE X e te)(hg:PG X tg g)(hs:swapsWithSole [tg] e pos.line X.env=pure false:=by rfl)(hw:swappedStores [tg] e X.env=pure none:=by rfl)
  (h1:(assignEach [tg] X.env).map (·.2)=[assign tg X.env]:=by rfl):PS X (.Assign [tg] e pos) (QnZ te g):=by
 intro pins s σ H D I h
 refine wpAny_Assign_stores (thn (he pins s σ H _ I h) fun v s1 hz=>?_) hs hw
 obtain ⟨x,H1,I1,r1,q1⟩:=hz
 rw [h1]
 exact thn (hg pins s1 σ H1 x v _ I1 r1 q1) fun _ s2 q=>q
theorem QlC {i:Nat}{x:Str}{e:Expr}{te:TE}{pos':Pos}(hN:X.N.Nodup)(hi:X.N[i]? = some x)(hx:Loc X.env.scope x)(he:PE X e te)(hs:swapsWith e (some (.Name x pos')) pos.line X.env=pure false:=by rfl)(hf:X.fn x=true\/X.env.scope.names.lookup x=some .local:=by first | exact .inl rfl | exact .inr rfl | assumption) :
  PS X (.Assign [.Name x pos'] e pos) (QnZ te (QdB i)):=by
 intro pins s σ H D I h
 refine wpAny_Assign_Name (thn (he pins s σ H _ I h) fun v s1 hz=>?_) hs
 obtain ⟨y,H1,I1,r1,q1⟩:=hz
 exact Qde I1 hN hi hx r1 (fun s2 I2=>⟨_,H1,I2,q1⟩) hf
end
structure It where
 go:Nat->Hp->Prop
 yld:Nat->Hp->V->Hp->Prop
 stop:Nat->Hp->Prop
def Qi2 (X:Cx)(pins:List (Addr × Obj))(H:Hp)(b:Addr):Prop:=
 H b=none/\b≠X.env.locals/\b∉X.fs/\(b∈X.ex\/X.s₀.heap.objs.size<=b)/\(∀ x c,X.env.cells.lookup x=some c->c≠b)/\∀ p∈X.pn++pins,p.1≠b
theorem Inv.fpOk {X:Cx}{pins:List (Addr × Obj)}{σ:St}{H H':Hp}{s:Shared}{b:Addr}(I:Inv X pins σ H s)(hb:s.heap.objs.size<=b)(hn:H' b=none):Qi2 X pins H' b:=by
 refine ⟨hn,Nat.ne_of_gt (Nat.lt_of_lt_of_le I.lt hb),I.nofs hb,.inr (Nat.le_trans I.sz hb),fun x c e z=>?_,fun p hp z=>?_⟩
 ·obtain ⟨v,q⟩:=I.cell x c e
  exact absurd (Nat.lt_of_lt_of_le q.lt (by rw [z];exact hb)) (Nat.lt_irrefl _)
 ·exact absurd (Nat.lt_of_lt_of_le (Heap.lt_size (I.pin p hp).1) (by rw [z];exact hb)) (Nat.lt_irrefl _)
structure Qm0 (P:Program)(w:World)(K:PySem.W.Frag)(tg:Expr)(J:It)(fp:List Addr)(it:Addr)(tn:Nat->Heap->Prop):Prop where
 mem:it∈fp
 obj:∀ i h,tn i h->∀ b∈fp,∃ o,h.get? b=some o/\∀ v,o.data≠.cell v
 keep:∀ i h h',tn i h->(∀ b∈fp,∀ o,h.get? b=some o->h'.get? b=some o)->tn i h'
 item:∀ (X:Cx),X.prog=P->X.w=w->X.K=K->X.calm=true->∀ (i:Nat) (pins:List (Addr × Obj)) (s:Shared) (σ:St) (H:Hp) (E:Value->Shared->Prop),Inv X pins σ H s->(∀ b∈fp,Qi2 X pins H b)->tn i s.heap->J.go i H->
  wpAny (model P w) X.A (pyNext (.ref it)) (fun r s1=>∃ u,r=some u/\
   wpAny (model P w) X.A (letOwnedTupleGo tg (.ref it) u) (fun _ s2=>∃ x H',Inv X pins σ H' s2/\RelV x u/\J.yld i H x H'/\tn (i+1) s2.heap/\∀ b∈fp,H' b=none) E s1) E s
 done:∀ (X:Cx),X.prog=P->X.w=w->X.K=K->X.calm=true->∀ (i:Nat) (pins:List (Addr × Obj)) (s:Shared) (σ:St) (H:Hp) (E:Value->Shared->Prop),Inv X pins σ H s->(∀ b∈fp,Qi2 X pins H b)->tn i s.heap->J.stop i H->
  wpAny (model P w) X.A (pyNext (.ref it)) (fun r s1=>r=none/\Inv X pins σ H s1) E s
 self:∀ (A:Around) (i:Nat) (s:Shared) (Q:Value->Shared->Prop) (E:Value->Shared->Prop),tn i s.heap->Q (.ref it) s->wpAny (model P w) A (pyIter (.ref it)) Q E s
abbrev TI:=St->Hp->(It->Hp->Prop)->Prop
def PIE (X:Cx)(pins:List (Addr × Obj))(σ:St)(tg:Expr)(R:It->Hp->Prop)(itv:Value)(s2:Shared):Prop:=
 ∃ (it:Addr) (fp:List Addr) (tn:Nat->Heap->Prop) (J:It) (H':Hp),itv=.ref it/\Inv X pins σ H' s2/\Qm0 X.prog X.w X.K tg J fp it tn/\tn 0 s2.heap/\(∀ b∈fp,Qi2 X pins H' b)/\R J H'
def PI (X:Cx)(tg iter:Expr)(wi:TI):Prop:=
 ∀ (pins:List (Addr × Obj)) (s:Shared) (σ:St) (H:Hp) (R:It->Hp->Prop),Inv X pins σ H s->wi σ H R->
  wpAny (model X.prog X.w) X.A (eval iter X.env) (fun v s1=>wpAny (model X.prog X.w) X.A (pyIter v) (PIE X pins σ tg R) X.xe s1) X.xe s
theorem Qj2 {M:Model}{A:Around}{E:Value->Shared->Prop}{s:Shared}{tg:Expr}{it:Addr}{u:Value}{o:Obj}{n:String}{vs:Array Value}{Q:Unit->Shared->Prop}(ho:s.heap.get? it=some o)(hc:o.cls=.type n)(hd:o.data=.fields vs)
  (hn:["enumerate","zip","dict_itemiterator","dict_reverseitemiterator","odict_iterator","itertools.zip_longest","itertools.pairwise"].contains n=false) (hQ:Q () s):wpAny M A (letOwnedTupleGo tg (.ref it) u) Q E s:=by
 unfold letOwnedTupleGo
 cases tg<;>first
  |exact wpAny_pure hQ
  |(cases u<;>first
    |exact wpAny_pure hQ
    |(refine wpAny_bind (wpAny_load ho ?_);rw [hc,hd];show wpAny M A (if (["enumerate","zip","dict_itemiterator","dict_reverseitemiterator","odict_iterator","itertools.zip_longest","itertools.pairwise"].contains n && vs[0]? == some (rawInt _))=true then _ else _) Q E s;rw [if_neg (by intro h;rw [hn,Bool.false_and] at h;cases h)];exact wpAny_pure hQ))
def Itl (K:PySem.W.Frag)(a:Addr):It:=
 ⟨fun i H=>∃ xs x,SqL K H a xs/\xs[i]? = some x,fun i H x H'=>H'=H/\∀ xs,SqL K H a xs->xs[i]? = some x,fun i H=>∃ xs,SqL K H a xs/\xs.length<=i⟩
def Itt (K:PySem.W.Frag)(a:Addr):It:=
 ⟨fun i H=>∃ xs x,SqT K H a xs/\xs[i]? = some x,fun i H x H'=>H'=H/\∀ xs,SqT K H a xs->xs[i]? = some x,fun i H=>∃ xs,SqT K H a xs/\xs.length<=i⟩
def Itr (lo:Int)(n:Nat):It:=⟨fun i _=>i<n,fun i H x H'=>H'=H/\x=.int (lo+i),fun i _=>n<=i⟩
theorem QfF {P:Program}{w:World}{K:PySem.W.Frag}{tg:Expr}(a it:Addr):Qm0 P w K tg (Itl K a) [it] it (fun i h=>h.IsListIter it a i) where
 mem:=by simp
 obj:=fun i h st b hb=>by
  have e:b=it:=by simpa using hb
  subst e
  obtain ⟨o,e,c,d⟩:=st
  exact ⟨o,e,fun v z=>by rw [d] at z;cases z⟩
 keep:=fun i h h' st k=>st.at fun o e=>k it (by simp) o e
 item:=by
  intro X hP hw hK hc i pins s σ H E I hf st hg
  subst hP hw hK
  obtain ⟨xs,x,hq,hx⟩:=hg
  obtain ⟨its,rv,p,hz⟩:=I.list hq
  obtain ⟨u,hu,ru⟩:=rv.get hx
  obtain ⟨f0,f1,f2,f3,f4,f5⟩:=hf it (by simp)
  refine wpAny_pyNext_list_item st p.isList (x:=u) (by simpa using hu) fun h' st' sb=>?_
  have I1:Inv X pins σ H { s with heap:=h' }:=I.turned (t':=s.toks) (fun b o hb e=>(sb.2 b hb).trans e) f0 f1 f3 f4 f5
  obtain ⟨o,e,c,d⟩:=id st'
  exact ⟨u,rfl,Qj2 (s:={ s with heap:=h' }) e c d (by decide) ⟨x,H,I1,ru,⟨rfl,fun ys hy=>by rw [I.list_inj hy hq];exact hx⟩,st',fun b hb=>(hf b hb).1⟩⟩
 done:=by
  intro X hP hw hK hc i pins s σ H E I hf st hg
  subst hP hw hK
  obtain ⟨xs,hq,hx⟩:=hg
  obtain ⟨its,rv,p,hz⟩:=I.list hq
  obtain ⟨f0,f1,f2,f3,f4,f5⟩:=hf it (by simp)
  have hl:=rv.length
  exact wpAny_pyNext_list_end (I.ok.hd hc) st p.isList (by simp;omega) fun h' eb=>⟨rfl,I.turned (t':=s.toks) (fun b o hb e=>eb b o hb e) f0 f1 f3 f4 f5⟩
 self:=fun _ _ _ _ _ st h=>wpAny_pyIter_listiter st h
theorem Qd4 {P:Program}{w:World}{K:PySem.W.Frag}{tg:Expr}(a it:Addr):Qm0 P w K tg (Itt K a) [it] it (fun i h=>h.IsTupleIter it a i) where
 mem:=by simp
 obj:=fun i h st b hb=>by
  have e:b=it:=by simpa using hb
  subst e
  obtain ⟨o,e,c,d⟩:=st
  exact ⟨o,e,fun v z=>by rw [d] at z;cases z⟩
 keep:=fun i h h' st k=>st.at fun o e=>k it (by simp) o e
 item:=by
  intro X hP hw hK hc i pins s σ H E I hf st hg
  subst hP hw hK
  obtain ⟨xs,x,hq,hx⟩:=hg
  obtain ⟨its,rv,p,hz⟩:=I.tuple hq
  obtain ⟨u,hu,ru⟩:=rv.get hx
  obtain ⟨f0,f1,f2,f3,f4,f5⟩:=hf it (by simp)
  refine wpAny_pyNext_tuple_item st (show s.heap.IsTuple a its.toArray from p) (x:=u) (by simpa using hu) fun h' st' sb=>?_
  have I1:Inv X pins σ H { s with heap:=h' }:=I.turned (t':=s.toks) (fun b o hb e=>(sb.2 b hb).trans e) f0 f1 f3 f4 f5
  obtain ⟨o,e,c,d⟩:=id st'
  exact ⟨u,rfl,Qj2 (s:={ s with heap:=h' }) e c d (by decide) ⟨x,H,I1,ru,⟨rfl,fun ys hy=>by rw [I.tuple_inj hy hq];exact hx⟩,st',fun b hb=>(hf b hb).1⟩⟩
 done:=by
  intro X hP hw hK hc i pins s σ H E I hf st hg
  subst hP hw hK
  obtain ⟨xs,hq,hx⟩:=hg
  obtain ⟨its,rv,p,hz⟩:=I.tuple hq
  obtain ⟨f0,f1,f2,f3,f4,f5⟩:=hf it (by simp)
  have hl:=rv.length
  exact wpAny_pyNext_tuple_end (I.ok.hd hc) st (show s.heap.IsTuple a its.toArray from p) (by simp;omega) fun h' eb=>⟨rfl,I.turned (t':=s.toks) (fun b o hb e=>eb b o hb e) f0 f1 f3 f4 f5⟩
 self:=fun _ _ _ _ _ st h=>wpAny_pyIter_tupleiter st h
theorem Qhq {P:Program}{w:World}{K:PySem.W.Frag}{tg:Expr}(it:Addr)(lo:Int)(n:Nat):Qm0 P w K tg (Itr lo n) [it] it (fun i h=>IsRangeIter h it (lo+(i:Nat) * 1) ((n:Int) - (i:Nat)) 1) where
 mem:=by simp
 obj:=fun i h st b hb=>by
  have e:b=it:=by simpa using hb
  subst e
  exact ⟨_,st,fun v z=>by
   have z':Data.fields _=Data.cell v:=z
   cases z'⟩
 keep:=fun i h h' st k=>k it (by simp) _ st
 item:=by
  intro X hP hw hK hc i pins s σ H E I hf st hg
  subst hP hw hK
  obtain ⟨f0,f1,f2,f3,f4,f5⟩:=hf it (by simp)
  have W:=Walks.range (prog:=X.prog) (w:=X.w) (I.ok.hd hc) it lo 1 n
  refine W.item i s _ _ hg st fun v h' tk hv st' kk=>?_
  obtain ⟨t,rfl⟩:=hv
  have I1:Inv X pins σ H { s with heap:=h',toks:=tk }:=I.turned (fun b o hb e=>kk b o (by simpa using hb) e) f0 f1 f3 f4 f5
  refine ⟨_,rfl,Qj2 (s:={ s with heap:=h',toks:=tk }) (n := "range_iterator") st' rfl rfl (by decide) ⟨.int (lo+i),H,I1,⟨t,?_⟩,⟨rfl,rfl⟩,st',fun b hb=>(hf b hb).1⟩⟩
  rw [Int.mul_one]
 done:=by
  intro X hP hw hK hc i pins s σ H E I hf st hg
  subst hP hw hK
  obtain ⟨f0,f1,f2,f3,f4,f5⟩:=hf it (by simp)
  exact wpAny_pyNext_range_end (I.ok.hd hc) st (by have:n<=i:=hg;omega) fun h' eb=>⟨rfl,I.turned (t':=s.toks) (fun b o hb e=>eb b o hb e) f0 f1 f3 f4 f5⟩
 self:=fun _ _ _ _ _ st h=>wpAny_pyIter_rangeiter st h
section
variable {X:Cx}{tg:Expr}
theorem QkB {pins:List (Addr × Obj)}{σ:St}{H:Hp}{s:Shared}{R:It->Hp->Prop}{E:Value->Shared->Prop}{lo hi:Int}{t u v:Tok}{tk:Nat}(I:Inv X pins σ H s)(h1 : -(2 ^ 62)<=lo)(h2:lo<2 ^ 62)(h3 : -(2 ^ 62)<=hi)(h4:hi<2 ^ 62)
  (q:R (Itr lo (hi - lo).toNat) H):wpAny (model X.prog X.w) X.A (pyIter (.ref s.heap.objs.size)) (PIE X pins σ tg R) E { s with heap:=s.heap.push { cls:=.type "range",data:=.fields #[.int lo t,.int hi u,.int 1 v] },toks:=tk }:=by
 refine wpAny_pyIter_range (IsRange.new ..) (small_one h1 h2 h3 h4) ?_
 have I1:Inv X pins σ H { s with heap:=s.heap.push { cls:=.type "range",data:=.fields #[.int lo t,.int hi u,.int 1 v] },toks:=tk }:=I.kept fun b o e=>Heap.get?_push_of_some _ e
 refine ⟨(s.heap.push { cls:=.type "range",data:=.fields #[.int lo t,.int hi u,.int 1 v] }).objs.size,[(s.heap.push { cls:=.type "range",data:=.fields #[.int lo t,.int hi u,.int 1 v] }).objs.size],_,_,H,rfl,
  I1.kept (t':=tk) fun b o e=>Heap.get?_push_of_some _ e,Qhq _ lo (hi - lo).toNat,?_,fun b hb=>?_,q⟩
 ·have e1:lo+((0:Nat):Int) * 1=lo:=by simp
  have e2:(((hi - lo).toNat:Nat):Int) - ((0:Nat):Int)=Builtin.Range.rangeSize lo hi 1:=by rw [rangeSize_one];split<;>omega
  show IsRangeIter _ _ (lo+((0:Nat):Int) * 1) ((((hi - lo).toNat:Nat):Int) - ((0:Nat):Int)) 1
  rw [e1,e2]
  exact Heap.get?_push_size _ rfl
 ·have e:b=(s.heap.push { cls:=.type "range",data:=.fields #[.int lo t,.int hi u,.int 1 v] }).objs.size:=by simpa using hb
  subst e
  exact I1.fpOk (Nat.le_refl _) (I1.hok.fresh (Nat.le_refl _))
def Qsm (ta:TA):TI:=fun σ H R=>ta σ H fun vs H1=>∃ j:Int,vs=[.int j]/\-(2 ^ 62)<=j/\j<2 ^ 62/\R (Itr 0 j.toNat) H1
theorem QiX {a:Expr}{ta:TA}{p pos:Pos}(hg:Gl X "range")(hm:X.mg "range" = none)(ha:PA X [a] ta)(hs:starEach [a] X.env=[(false,eval a X.env)]:=by rfl):PI X tg (.Call (.Name "range" p) [a] [] pos) (Qsm ta):=by
 intro pins s σ H R I h
 refine Call_ (QdW I hg hm boot_range (PyProof.Rows.callWith_type1 (thn (ha pos pins s σ H _ I h) fun us s1 hz=>?_) hs rfl))
 obtain ⟨vs,H1,I1,r1,q1⟩:=hz
 obtain ⟨j,e,q1,q2,q⟩:=q1
 subst e
 cases r1 with
 |cons r rr=>
  cases rr
  obtain ⟨t,rfl⟩:=r
  exact call_range_1 (QkB I1 (by omega) (by omega) q1 q2 (by simpa using q))
def Qto (wi:TI)(g:TG)(tb:TS):TS:=fun D σ H=>wi σ H fun J H1=>∃ W:Nat->Nat->St->Hp->Prop,(∃ m,W 0 m σ H1)/\∀ i m σ H,W i m σ H->
 (J.stop i H/\D.nx σ H)\/(J.go i H/\∃ N:St->Hp->Prop,(∀ σ' H',N σ' H'->∃ m',m' < m/\W (i+1) m' σ' H')/\∀ x H',J.yld i H x H'->g x σ H' fun σ2 H2=>tb { D with nx:=N,ct:=N,bk:=D.nx } σ2 H2)
def Qcq (fp:List Addr)(h:Heap):List (Addr × Obj):=fp.filterMap fun b=>(h.get? b).map fun o=>(b,o)
theorem QbS {fp:List Addr}{h:Heap}{b:Addr}{o:Obj}(hb:b∈fp)(e:h.get? b=some o):(b,o)∈Qcq fp h:=List.mem_filterMap.mpr ⟨b,hb,by rw [e];rfl⟩
theorem Qe4 {fp:List Addr}{h:Heap}{p:Addr × Obj}(hp:p∈Qcq fp h):p.1∈fp/\h.get? p.1=some p.2:=by
 obtain ⟨b,hb,e⟩:=List.mem_filterMap.mp hp
 cases q:h.get? b with
 |none=>rw [q] at e;cases e
 |some o=>
  rw [q] at e
  have e':(b,o)=p:=Option.some.inj e
  subst e'
  exact ⟨hb,q⟩
theorem Inv.pinned {pins:List (Addr × Obj)}{σ:St}{H:Hp}{s:Shared}{fp:List Addr}(I:Inv X pins σ H s)(hf:∀ b∈fp,Qi2 X pins H b)(ho:∀ b∈fp,∃ o,s.heap.get? b=some o/\∀ v,o.data≠.cell v):Inv X (pins++Qcq fp s.heap) σ H s:=
 I.pins_of fun p hp=>(List.mem_append.mp hp).elim (fun z=>I.pin p (List.mem_append_right _ z)) fun z=>by
  obtain ⟨hb,e⟩:=Qe4 z
  obtain ⟨f0,f1,f2,_⟩:=hf p.1 hb
  obtain ⟨o,e',d⟩:=ho p.1 hb
  rw [e] at e';cases e'
  exact ⟨e,f0,f1,f2,d⟩
theorem Inv.unpinned {pins pl:List (Addr × Obj)}{σ:St}{H:Hp}{s:Shared}(I:Inv X (pins++pl) σ H s):Inv X pins σ H s:=I.pins_of fun p hp=>I.pin p (List.mem_append_right _ (List.mem_append_left _ hp))
theorem Qoh {iter:Expr}{body:List Stmt}{wi:TI}{g:TG}{tb:TS}{pos:Pos}(hp:PassesOwn (model X.prog X.w) X.A X.env X.xe)(hc:X.calm=true)(hi:PI X tg iter wi)(hg:PG X tg g)(hb:PSs X body tb)
  (hs:∀ x,foldedSetIterable iter X.env x=pure x:=by intro _;rfl):PS X (.For tg iter body [] pos) (Qto wi g tb):=by
 intro pins s σ H D I h
 refine wpAny_For (thn (hi pins s σ H _ I h) fun v s1 h1=>thn h1 fun itv s2 h2=>?_) hs
 obtain ⟨it,fp,tn,J,H2,e,I2,T,st2,f2,W,⟨m0,w0⟩,turn⟩:=h2
 subst e
 -- what stays true of the iterator's objects through the loop
 have stat:∀ {H':Hp},(∀ b∈fp,H' b=none)->∀ b∈fp,Qi2 X pins H' b:=fun hn b hb=>⟨hn b hb,(f2 b hb).2⟩
 refine codeAny_forLoop_any (fun n s'=>∃ i σ' H',Inv X pins σ' H' s'/\tn i s'.heap/\(∀ b∈fp,H' b=none)/\W i n σ' H') ?_ m0 ⟨0,σ,H2,I2,st2,fun b hb=>(f2 b hb).1,w0⟩
 rintro n s3 ⟨i,σ3,H3,I3,st3,fr3,w3⟩
 rcases turn i n σ3 H3 w3 with ⟨stop,qn⟩ | ⟨go,N,hN,step⟩
 ·refine wpAny_passesOwn hp (thn (T.done X rfl rfl rfl hc i pins s3 σ3 H3 X.xe I3 (stat fr3) st3 stop) fun r s4 hz=>?_)
  obtain ⟨hr,I4⟩:=hz
  subst hr
  exact wpAny_execs_nil ⟨σ3,H3,I4,qn⟩
 ·refine wpAny_passesOwn hp (thn (T.item X rfl rfl rfl hc i pins s3 σ3 H3 X.xe I3 (stat fr3) st3 go) fun r s4 hz=>?_)
  obtain ⟨u,hr,h4⟩:=hz
  subst hr
  refine wpAny_passesOwn hp (thn h4 fun _ s5 hz=>?_)
  obtain ⟨x,H5,I5,r5,y5,st5,fr5⟩:=hz
  have I5':=I5.pinned (stat fr5) (T.obj _ _ st5)
  refine wpAny_passesOwn hp (thn (hg _ s5 σ3 H5 x u _ I5' r5 (step x H5 y5)) fun _ s6 hz=>?_)
  obtain ⟨σ6,H6,I6,q6⟩:=hz
  refine wpAny_passesOwn hp (thn (hb _ s6 σ6 H6 _ I6 q6) fun f s7 q7=>?_)
  have again:∀ {σ7:St} {H7:Hp},Inv X (pins++Qcq fp s5.heap) σ7 H7 s7->N σ7 H7->∃ m,m<n/\∃ i σ' H',Inv X pins σ' H' s7/\tn i s7.heap/\(∀ b∈fp,H' b=none)/\W i m σ' H':=fun {σ7 H7} I7 n7=>by
   obtain ⟨m',hm,w7⟩:=hN σ7 H7 n7
   refine ⟨m',hm,i+1,σ7,H7,I7.unpinned,T.keep _ _ _ st5 fun b hb o e=>(I7.pin (b,o) (List.mem_append_right _ (List.mem_append_right _ (QbS hb e)))).1,fun b hb=>?_,w7⟩
   obtain ⟨o,e,d⟩:=T.obj _ _ st5 b hb
   exact (I7.pin (b,o) (List.mem_append_right _ (List.mem_append_right _ (QbS hb e)))).2.1
  cases f with
  |next=>obtain ⟨σ7,H7,I7,n7⟩:=q7;exact again I7 n7
  |cont=>obtain ⟨σ7,H7,I7,n7⟩:=q7;exact again I7 n7
  |brk=>obtain ⟨σ7,H7,I7,q7⟩:=q7;exact ⟨σ7,H7,I7.unpinned,q7⟩
  |ret v=>obtain ⟨x7,σ7,H7,I7,r7,q7⟩:=q7;exact ⟨x7,σ7,H7,I7.unpinned,r7,q7⟩
end
abbrev R2:=V->V->Hp->VK->Prop
def OpR (X:Cx)(f:Value->Value->Sem Value)(r:R2):Prop:=
 ∀ (pins:List (Addr × Obj)) (s:Shared) (σ:St) (H:Hp) (x y:V) (v u:Value) (Q:VK),Inv X pins σ H s->RelV x v->RelV y u->r x y H Q->
  wpAny (model X.prog X.w) X.A (f v u) (EP X pins σ Q) X.xe s
def UnR (X:Cx)(f:Value->Sem Value)(r:V->Hp->VK->Prop):Prop:=
 ∀ (pins:List (Addr × Obj)) (s:Shared) (σ:St) (H:Hp) (x:V) (v:Value) (Q:VK),Inv X pins σ H s->RelV x v->r x H Q->
  wpAny (model X.prog X.w) X.A (f v) (EP X pins σ Q) X.xe s
def Qbo (X:Cx)(f:Value)(r:List V->Hp->VK->Prop):Prop:=
 ∀ (pins:List (Addr × Obj)) (s:Shared) (σ:St) (H:Hp) (xs:List V) (us:List Value) (Q:VK),Inv X pins σ H s->Vals xs us->r xs H Q->
  wpAny (model X.prog X.w) X.A (call f us) (EP X pins σ Q) X.xe s
def tOp (r:R2)(ta tb:TE):TE:=fun σ H Q=>ta σ H fun x H1=>tb σ H1 fun y H2=>r x y H2 Q
def tUn (r:V->Hp->VK->Prop)(ta:TE):TE:=fun σ H Q=>ta σ H fun x H1=>r x H1 Q
def rI (C:Int->Int->Prop)(g:Int->Int->V):R2:=fun x y H Q=>∃ i j,x=.int i/\y=.int j/\C i j/\Q (g i j) H
def rI0 (g:Int->Int->V):R2:=fun x y H Q=>∃ i j,x=.int i/\y=.int j/\Q (g i j) H
def rU (g:Int->V):V->Hp->VK->Prop:=fun x H Q=>∃ i,x=.int i/\Q (g i) H
section
variable {X:Cx}{a b:Expr}{ta tb:TE}{pos:Pos}
theorem Qrr (ha:PE X a ta)(hb:PE X b tb){pins:List (Addr × Obj)}{s:Shared}{σ:St}{H:Hp}{R:V->V->Hp->Prop}(I:Inv X pins σ H s)
  (h:ta σ H fun x H1=>tb σ H1 fun y H2=>R x y H2) {Q:Value->Shared->Prop} {f:Value->Value->Sem Value}
  (hf:∀ v u s2 x y H2,Inv X pins σ H2 s2->RelV x v->RelV y u->R x y H2->wpAny (model X.prog X.w) X.A (f v u) Q X.xe s2) :
  wpAny (model X.prog X.w) X.A (eval a X.env) (fun v s₁=>wpAny (model X.prog X.w) X.A (eval b X.env) (fun u s₂=>wpAny (model X.prog X.w) X.A (f v u) Q X.xe s₂) X.xe s₁) X.xe s:=by
 refine thn (ha pins s σ H _ I h) fun v s1 hz=>?_
 obtain ⟨x,H1,I1,r1,q1⟩:=hz
 refine thn (hb pins s1 σ H1 _ I1 q1) fun u s2 hz=>?_
 obtain ⟨y,H2,I2,r2,q2⟩:=hz
 exact hf v u s2 x y H2 I2 r1 r2 q2
theorem QmD {op:Operator}{r:R2}(ho:OpR X (binaryOp op) r)(ha:PE X a ta)(hb:PE X b tb):PE X (.BinOp a op b pos) (tOp r ta tb):=by
 intro pins s σ H Q I h
 exact wpAny_BinOp (Qrr ha hb I h fun v u s2 x y H2 I2 rx ry q=>ho pins s2 σ H2 x y v u Q I2 rx ry q)
theorem QrF {op:UnaryOp}{r:V->Hp->VK->Prop}(ho:UnR X (unaryOp op) r)(ha:PE X a ta):PE X (.UnaryOp op a pos) (tUn r ta):=by
 intro pins s σ H Q I h
 exact UnaryOp_ (thn (ha pins s σ H _ I h) fun v s1 ⟨x,H1,I1,r1,q1⟩=>ho pins s1 σ H1 x v Q I1 r1 q1)
theorem opI {f:Value->Value->Sem Value}{C:Int->Int->Prop}{g:Int->Int->Int}
  (rule:∀ (i j:Int) (t u:Tok) (s:Shared) (Q:Value->Shared->Prop) (E:Value->Shared->Prop),C i j->Q (.int (g i j) s.toks) { s with toks:=s.toks+1 }->wpAny (model X.prog X.w) X.A (f (.int i t) (.int j u)) Q E s) :
  OpR X f (rI C fun i j=>.int (g i j)):=by
 intro pins s σ H x y v u Q I rx ry h
 obtain ⟨i,j,rfl,rfl,hc,q⟩:=h
 obtain ⟨t,rfl⟩:=rx
 obtain ⟨t',rfl⟩:=ry
 exact rule i j t t' s _ _ hc ⟨.int (g i j),H,I.tok _,⟨_,rfl⟩,q⟩
theorem QsS {f:Value->Value->Sem Value}{g:Int->Int->Int}
  (rule:∀ (i j:Int) (t u:Tok) (s:Shared) (Q:Value->Shared->Prop) (E:Value->Shared->Prop),Q (.int (g i j) s.toks) { s with toks:=s.toks+1 }->wpAny (model X.prog X.w) X.A (f (.int i t) (.int j u)) Q E s) :
  OpR X f (rI0 fun i j=>.int (g i j)):=by
 intro pins s σ H x y v u Q I rx ry h
 obtain ⟨i,j,rfl,rfl,q⟩:=h
 obtain ⟨t,rfl⟩:=rx
 obtain ⟨t',rfl⟩:=ry
 exact rule i j t t' s _ _ ⟨.int (g i j),H,I.tok _,⟨_,rfl⟩,q⟩
theorem Qrn {f:Value->Value->Sem Value}{g:Int->Int->Bool}
  (rule:∀ (i j:Int) (t u:Tok) (s:Shared) (Q:Value->Shared->Prop) (E:Value->Shared->Prop),Q (.bool (g i j)) s->wpAny (model X.prog X.w) X.A (f (.int i t) (.int j u)) Q E s) :
  OpR X f (rI0 fun i j=>.bl (g i j)):=by
 intro pins s σ H x y v u Q I rx ry h
 obtain ⟨i,j,rfl,rfl,q⟩:=h
 obtain ⟨t,rfl⟩:=rx
 obtain ⟨t',rfl⟩:=ry
 exact rule i j t t' s _ _ ⟨.bl (g i j),H,I,rfl,q⟩
def Qk5 (i j:Int):Prop:=0<=j/\j<=1000000/\i.natAbs<2 ^ 64
def CMul (i j:Int):Prop:=(-(2 ^ 64)<i/\i<2 ^ 64)\/(-(2 ^ 64)<j/\j<2 ^ 64)
theorem CMul.ok {i j:Int}(h:CMul i j):IntMulOk i j:=by
 rcases h with ⟨h1,h2⟩ | ⟨h1,h2⟩
 ·exact .of_left (intBits_le_64 h1 h2)
 ·exact .of_right (intBits_le_64 h1 h2)
theorem QbF:OpR X (binaryOp .Add) (rI0 fun i j=>.int (i+j)):=QsS fun _ _ _ _ _ _ _ q=>add_int q
theorem QoP:OpR X (binaryOp .Sub) (rI0 fun i j=>.int (i - j)):=QsS fun _ _ _ _ _ _ _ q=>sub_int q
theorem Qfb:OpR X (binaryOp .Mult) (rI CMul fun i j=>.int (i * j)):=opI fun _ _ _ _ _ _ _ hc q=>mul_int q hc.ok
theorem QgZ:OpR X (binaryOp .Mod) (rI (fun _ j=>0<j) fun i j=>.int (i % j)):=opI fun i j _ _ _ _ _ hc q=>by
 have h1:(0:Int)<j:=hc
 exact mod_int' (by omega) (by rw [Int.fmod_eq_emod_of_nonneg i (by omega)];exact q)
theorem QlE:OpR X (binaryOp .Pow) (rI Qk5 fun i j=>.int (i ^ j.toNat)):=opI fun _ _ _ _ _ _ _ hc q=>pow_int_small hc.1 hc.2.1 hc.2.2 q
theorem unI {f:Value->Sem Value}{g:Int->Int}
  (rule:∀ (i:Int) (t:Tok) (s:Shared) (Q:Value->Shared->Prop) (E:Value->Shared->Prop),Q (.int (g i) s.toks) { s with toks:=s.toks+1 }->wpAny (model X.prog X.w) X.A (f (.int i t)) Q E s) :
  UnR X f (rU fun i=>.int (g i)):=by
 intro pins s σ H x v Q I rx h
 obtain ⟨i,rfl,q⟩:=h
 obtain ⟨t,rfl⟩:=rx
 exact rule i t s _ _ ⟨.int (g i),H,I.tok _,⟨_,rfl⟩,q⟩
theorem Qp0:UnR X (unaryOp .USub) (rU fun i=>.int (-i)):=unI fun _ _ _ _ _ q=>neg_int q
end
def QqC:V->V->Bool
 |.non,.non=>true | .non,.int _=>true | .int _,.non=>true | .non,.bl _=>true | .bl _,.non=>true | .non,.str _=>true | .str _,.non=>true
 |.int _,.int _=>true | .bl _,.bl _=>true | .str _,.str _=>true | .byt _,.byt _=>true
 |.int _,.str _=>true | .str _,.int _=>true | .bl _,.str _=>true | .str _,.bl _=>true
 |_,_=>false
def rEq:R2:=fun x y H Q=>QqC x y=true/\Q (.bl (decide (x=y))) H
def rNe:R2:=fun x y H Q=>QqC x y=true/\Q (.bl (!decide (x=y))) H
theorem Qf2 {i j:Int}:decide (V.int i=V.int j)=(i == j):=by
 rw [Bool.eq_iff_iff]
 simp
theorem QjD {i j:Bool}:decide (V.bl i=V.bl j)=(i == j):=by
 rw [Bool.eq_iff_iff]
 simp
theorem Qga {i j:Str}:decide (V.str i=V.str j)=(i == j):=by
 rw [Bool.eq_iff_iff]
 simp
theorem QhT {i j:Array UInt8}:decide (V.byt i=V.byt j)=(i.toList == j.toList):=by
 rw [Bool.eq_iff_iff]
 cases i
 cases j
 simp
section
variable {X:Cx}{a b c:Expr}{ta tb tc:TE}{pos:Pos}
theorem Qan {pins:List (Addr × Obj)}{σ:St}{H:Hp}{s:Shared}{Q:VK}{k k':Bool}(I:Inv X pins σ H s)(q:Q (.bl k) H)(e:k=k'):EP X pins σ Q (.bool k') s:=by
 subst e
 exact ⟨.bl k,H,I,rfl,q⟩
theorem QjU:OpR X (compareOp .Eq) rEq:=by
 intro pins s σ H x y v u Q I rx ry h
 obtain ⟨hs,q⟩:=h
 cases x with
 |non=>
  cases rx
  cases y with
  |non=>cases ry;exact PySem.EqNone.eq_none_none (Qan I q (by simp))
  |bl j=>cases ry;exact PySem.EqNone.eq_none_bool (Qan I q (by simp))
  |int j=>obtain ⟨t',rfl⟩:=ry;exact PySem.EqNone.eq_none_int (Qan I q (by simp))
  |str j=>obtain ⟨t',rfl⟩:=ry;exact PySem.EqNone.eq_none_str (Qan I q (by simp))
  |_=>exact absurd (show false=true from hs) Bool.false_ne_true
 |bl i=>
  cases rx
  cases y with
  |non=>cases ry;exact PySem.EqNone.eq_bool_none (Qan I q (by simp))
  |bl j=>cases ry;exact eq_bool (Qan I q QjD)
  |str j=>obtain ⟨t',rfl⟩:=ry;exact PySem.EqMixed.eq_bool_str (Qan I q (by simp))
  |_=>exact absurd (show false=true from hs) Bool.false_ne_true
 |int i=>
  obtain ⟨t,rfl⟩:=rx
  cases y with
  |non=>cases ry;exact PySem.EqNone.eq_int_none (Qan I q (by simp))
  |int j=>obtain ⟨t',rfl⟩:=ry;exact eq_int (Qan I q Qf2)
  |str j=>obtain ⟨t',rfl⟩:=ry;exact PySem.EqMixed.eq_int_str (Qan I q (by simp))
  |_=>exact absurd (show false=true from hs) Bool.false_ne_true
 |str i=>
  obtain ⟨t,rfl⟩:=rx
  cases y with
  |non=>cases ry;exact PySem.EqNone.eq_str_none (Qan I q (by simp))
  |bl j=>cases ry;exact PySem.EqMixed.eq_str_bool (Qan I q (by simp))
  |int j=>obtain ⟨t',rfl⟩:=ry;exact PySem.EqMixed.eq_str_int (Qan I q (by simp))
  |str j=>obtain ⟨t',rfl⟩:=ry;exact eq_str (Qan I q Qga)
  |_=>exact absurd (show false=true from hs) Bool.false_ne_true
 |byt i=>
  obtain ⟨t,rfl⟩:=rx
  cases y with
  |byt j=>obtain ⟨t',rfl⟩:=ry;exact PySem.W.eq_bytes (Qan I q QhT)
  |_=>exact absurd (show false=true from hs) Bool.false_ne_true
 |_=>cases y<;>exact absurd (show false=true from hs) Bool.false_ne_true
theorem Qri:OpR X (compareOp .NotEq) rNe:=by
 intro pins s σ H x y v u Q I rx ry h
 obtain ⟨hs,q⟩:=h
 cases x with
 |non=>
  cases rx
  cases y with
  |non=>cases ry;exact PySem.EqNone.ne_none_none (Qan I q (by simp))
  |bl j=>cases ry;exact PySem.EqNone.ne_none_bool (Qan I q (by simp))
  |int j=>obtain ⟨t',rfl⟩:=ry;exact PySem.EqNone.ne_none_int (Qan I q (by simp))
  |str j=>obtain ⟨t',rfl⟩:=ry;exact PySem.EqNone.ne_none_str (Qan I q (by simp))
  |_=>exact absurd (show false=true from hs) Bool.false_ne_true
 |bl i=>
  cases rx
  cases y with
  |non=>cases ry;exact PySem.EqNone.ne_bool_none (Qan I q (by simp))
  |bl j=>cases ry;exact ne_bool (Qan I q (congrArg not QjD))
  |str j=>obtain ⟨t',rfl⟩:=ry;exact PySem.EqMixed.ne_bool_str (Qan I q (by simp))
  |_=>exact absurd (show false=true from hs) Bool.false_ne_true
 |int i=>
  obtain ⟨t,rfl⟩:=rx
  cases y with
  |non=>cases ry;exact PySem.EqNone.ne_int_none (Qan I q (by simp))
  |int j=>obtain ⟨t',rfl⟩:=ry;exact ne_int (Qan I q (congrArg not Qf2))
  |str j=>obtain ⟨t',rfl⟩:=ry;exact PySem.EqMixed.ne_int_str (Qan I q (by simp))
  |_=>exact absurd (show false=true from hs) Bool.false_ne_true
 |str i=>
  obtain ⟨t,rfl⟩:=rx
  cases y with
  |non=>cases ry;exact PySem.EqNone.ne_str_none (Qan I q (by simp))
  |bl j=>cases ry;exact PySem.EqMixed.ne_str_bool (Qan I q (by simp))
  |int j=>obtain ⟨t',rfl⟩:=ry;exact PySem.EqMixed.ne_str_int (Qan I q (by simp))
  |str j=>obtain ⟨t',rfl⟩:=ry;exact ne_str (Qan I q (congrArg not Qga))
  |_=>exact absurd (show false=true from hs) Bool.false_ne_true
 |byt i=>
  obtain ⟨t,rfl⟩:=rx
  cases y with
  |byt j=>obtain ⟨t',rfl⟩:=ry;exact PySem.W.ne_bytes (Qan I q (congrArg not QhT))
  |_=>exact absurd (show false=true from hs) Bool.false_ne_true
 |_=>cases y<;>exact absurd (show false=true from hs) Bool.false_ne_true
theorem QkH:OpR X (compareOp .Lt) (rI0 fun i j=>.bl (decide (i<j))):=Qrn fun _ _ _ _ _ _ _ q=>lt_int q
theorem QkM:OpR X (compareOp .LtE) (rI0 fun i j=>.bl (decide (i<=j))):=Qrn fun _ _ _ _ _ _ _ q=>le_int q
theorem Qrj:OpR X (compareOp .Gt) (rI0 fun i j=>.bl (decide (j<i))):=Qrn fun _ _ _ _ _ _ _ q=>gt_int q
theorem Qcm:OpR X (compareOp .In) (fun x y H Q=>∃ i j,x=.str i/\y=.str j/\Q (.bl (!(Builtin.Str.occurrences j i 0 j.length 1).isEmpty)) H):=by
 intro pins s σ H x y v u Q I rx ry h
 obtain ⟨i,j,rfl,rfl,q⟩:=h
 obtain ⟨t,rfl⟩:=rx
 obtain ⟨t',rfl⟩:=ry
 exact in_str (Qan I q rfl)
theorem Qpb:OpR X (compareOp .Is) (fun x y H Q=>y=.non/\Q (.bl (decide (x=.non))) H):=by
 intro pins s σ H x y v u Q I rx ry h
 obtain ⟨rfl,q⟩:=h
 cases ry
 refine is_none_gen (Qan I q ?_)
 cases x<;>first
  |(cases rx;rfl)
  |(obtain ⟨t,rfl⟩:=rx;rfl)
theorem QaA (b:Expr){op:CmpOp}(h:op≠.In:=by decide)(h2:op≠.NotIn:=by decide):behindInMarks op b=false:=by
 have e1:(op == CmpOp.In)=false:=by cases op<;>first | rfl | exact absurd rfl h
 have e2:(op == CmpOp.NotIn)=false:=by cases op<;>first | rfl | exact absurd rfl h2
 cases b<;>simp [behindInMarks,e1,e2]
theorem Qnd {op:CmpOp}{r:R2}(ho:OpR X (compareOp op) r)(ha:PE X a ta)(hb:PE X b tb)(hm:behindInMarks op b=false):PE X (.Compare a [op] [b] pos) (tOp r ta tb):=by
 intro pins s σ H Q I h
 exact wpAny_Compare1 (Qrr ha hb I h fun v u s2 x y H2 I2 rx ry q=>ho pins s2 σ H2 x y v u Q I2 rx ry q) hm
def Qnx (t:TE):TT:=fun σ H Q=>t σ H fun x H'=>∃ k,x=.bl k/\Q k H'
theorem QmE {op:CmpOp}{r:R2}(ho:OpR X (compareOp op) r)(ha:PE X a ta)(hb:PE X b tb)(hm:behindInMarks op b=false):PT X (.Compare a [op] [b] pos) (Qnx (tOp r ta tb)):=by
 intro pins s σ H Q I h
 refine wpAny_isTrue_Compare1 (thn (ha pins s σ H _ I h) fun v s1 hz=>?_) hm
 obtain ⟨x,H1,I1,r1,q1⟩:=hz
 refine thn (hb pins s1 σ H1 _ I1 q1) fun u s2 hz=>?_
 obtain ⟨y,H2,I2,r2,q2⟩:=hz
 refine thn (ho pins s2 σ H2 x y v u _ I2 r1 r2 q2) fun c s3 hz=>?_
 obtain ⟨z,H3,I3,r3,k,e,q3⟩:=hz
 subst e
 cases r3
 exact wpAny_truthy_bool ⟨H3,I3,q3⟩
def Qlg (r r':R2)(ta tb tc:TE):TE:=fun σ H Q=>ta σ H fun x H1=>tb σ H1 fun y H2=>r x y H2 fun z H3=>∃ k,z=.bl k/\
 (if k=true then tc σ H3 fun w' H4=>r' y w' H4 Q else Q (.bl false) H3)
theorem QkL {op op':CmpOp}{r r':R2}(ho:OpR X (compareOp op) r)(ho':OpR X (compareOp op') r')(ha:PE X a ta)(hb:PE X b tb)(hc:PE X c tc)
  (hm:lastMarks [op,op'] [b,c]=false:=by with_unfolding_all rfl):PT X (.Compare a [op,op'] [b,c] pos) (Qnx (Qlg r r' ta tb tc)):=by
 intro pins s σ H Q I h
 refine isTrue_chain (thn (ha pins s σ H _ I h) fun v s1 hz=>?_) hm
 obtain ⟨x,H1,I1,r1,q1⟩:=hz
 refine test_link (thn (hb pins s1 σ H1 _ I1 q1) fun u s2 hz=>?_)
 obtain ⟨y,H2,I2,r2,q2⟩:=hz
 refine thn (ho pins s2 σ H2 x y v u _ I2 r1 r2 q2) fun d s3 hz=>?_
 obtain ⟨z,H3,I3,r3,k,e,q3⟩:=hz
 subst e
 cases r3
 refine wpAny_truthy_bool ?_
 cases k with
 |false=>
  obtain ⟨k',e',q'⟩:=q3
  cases e'
  exact ite_ff ⟨H3,I3,q'⟩
 |true=>
  refine ite_tt (test_last (thn (hc pins s3 σ H3 _ I3 q3) fun w' s4 hz=>?_))
  obtain ⟨z',H4,I4,r4,q4⟩:=hz
  refine thn (ho' pins s4 σ H4 y z' u w' _ I4 r2 r4 q4) fun d' s5 hz=>?_
  obtain ⟨z2,H5,I5,r5,k2,e2,q5⟩:=hz
  subst e2
  cases r5
  exact wpAny_truthy_bool ⟨H5,I5,q5⟩
theorem Qe9:(sizeLine:Nat)<2 ^ 63:=by rw [sizeLine_eq];decide
theorem QbR:OpR X (binaryOp .Add) (fun x y H Q=>∃ i j,x=.str i/\y=.str j/\i.length+j.length<=sizeLine/\Q (.str (i++j)) H):=by
 intro pins s σ H x y v u Q I rx ry h
 obtain ⟨i,j,rfl,rfl,hz,q⟩:=h
 obtain ⟨t,rfl⟩:=rx
 obtain ⟨t',rfl⟩:=ry
 exact add_str (fun t' tk=>⟨.str (i++j),H,I.tok _,⟨_,rfl⟩,q⟩) hz
theorem Qcc {x:V}{us:List Value}(r:Vals [x] us):∃ u,us=[u]/\RelV x u:=by
 cases r with
 |cons r1 r2=>cases r2;exact ⟨_,rfl,r1⟩
theorem QpV {x y:V}{us:List Value}(r:Vals [x,y] us):∃ u w',us=[u,w']/\RelV x u/\RelV y w':=by
 cases r with
 |cons r1 r2=>
  cases r2 with
  |cons r3 r4=>cases r4;exact ⟨_,_,rfl,r1,r3⟩
theorem Qjp (hc:X.calm=true):Qbo X (.builtin "max") (fun xs H Q=>∃ i j,xs=[.int i,.int j]/\Q (.int (if j > i then j else i)) H):=by
 intro pins s σ H xs us Q I r h
 obtain ⟨i,j,rfl,q⟩:=h
 obtain ⟨u,w',rfl,⟨t,rfl⟩,⟨t',rfl⟩⟩:=QpV r
 refine max_two_ints (I.ok.hd hc) fun h' tk k=>⟨_,H,I.kept k,?_,q⟩
 by_cases hj:j > i
 ·rw [if_pos hj,if_pos hj];exact ⟨_,rfl⟩
 ·rw [if_neg hj,if_neg hj];exact ⟨_,rfl⟩
theorem Qe1:Qbo X (.type "int") (fun xs H Q=>(∃ i,xs=[.int i]/\Q (.int i) H)\/∃ k,xs=[.bl k]/\Q (.int (if k then 1 else 0)) H):=by
 intro pins s σ H xs us Q I r h
 rcases h with ⟨i,rfl,q⟩ | ⟨k,rfl,q⟩
 ·obtain ⟨u,rfl,t,rfl⟩:=Qcc r
  exact call_int_int ⟨.int i,H,I,⟨_,rfl⟩,q⟩
 ·obtain ⟨u,rfl,r1⟩:=Qcc r
  cases r1
  exact call_int_bool ⟨.int (if k then 1 else 0),H,I.tok _,⟨_,rfl⟩,q⟩
theorem Qfs:Qbo X (.type "str") (fun xs H Q=>∃ i,xs=[.int i]/\i.natAbs.log2<1920/\Q (.str (toString i)) H):=by
 intro pins s σ H xs us Q I r h
 obtain ⟨i,rfl,hz,q⟩:=h
 obtain ⟨u,rfl,t,rfl⟩:=Qcc r
 exact PySem.P.str_of_int hz ⟨.str _,H,I.tok _,⟨_,rfl⟩,q⟩
def QsU (K:PySem.W.Frag)(x:V)(H:Hp)(n:Nat):Prop:=
 match x with
 |.str y=>y.length<=sizeLine/\n=y.length
 |.byt y=>y.size<=sizeLine/\n=y.size
 |.ref p=>(∃ xs,SqL K H p xs/\n=xs.length)\/∃ xs,SqT K H p xs/\n=xs.length
 |_=>False
theorem QaK:Qbo X (.builtin "len") (fun xs H Q=>∃ x n,xs=[x]/\QsU X.K x H n/\Q (.int n) H):=by
 intro pins s σ H xs us Q I r h
 obtain ⟨x,n,rfl,e,q⟩:=h
 obtain ⟨u,rfl,rx⟩:=Qcc r
 have hl:=Qe9
 have hs:sizeLine=16777216:=sizeLine_eq
 cases x with
 |str y=>
  obtain ⟨t,rfl⟩:=rx
  obtain ⟨hy,e'⟩:y.length<=sizeLine/\n=y.length:=e
  subst e'
  exact len_str (by omega) ⟨.int _,H,I.tok _,⟨_,rfl⟩,q⟩
 |byt y=>
  obtain ⟨t,rfl⟩:=rx
  obtain ⟨hy,e'⟩:y.size<=sizeLine/\n=y.size:=e
  subst e'
  exact PySem.W.len_bytes (by omega) ⟨.int _,H,I.tok _,⟨_,rfl⟩,q⟩
 |ref p=>
  cases rx
  have e':(∃ xs,SqL X.K H p xs/\n=xs.length)\/∃ xs,SqT X.K H p xs/\n=xs.length:=e
  rcases e' with ⟨xs,hx,e'⟩ | ⟨xs,hx,e'⟩
  ·subst e'
   obtain ⟨its,r',pl,hz⟩:=I.list hx
   have hlen:=r'.length
   exact Calls.call_len_list pl.isList (by simp only [List.size_toArray];omega) ⟨.int xs.length,H,I.tok _,⟨_,by simp only [List.size_toArray];rw [hlen]⟩,q⟩
  ·subst e'
   obtain ⟨its,r',pl,hz⟩:=I.tuple hx
   have hlen:=r'.length
   exact len_tuple pl (by simp only [List.size_toArray];omega) ⟨.int xs.length,H,I.tok _,⟨_,by simp only [List.size_toArray];rw [hlen]⟩,q⟩
 |_=>exact (show False from e).elim
end
structure ObjM (h:Heap)(x dx C:Addr)(mA:Str->Option Value):Prop where
 obj:h.get? x=some (PySem.W.instObj C dx)
 ns:h.Ns1 dx mA
 ne:dx≠x
theorem Qfj {h:Heap}{dx:Addr}{mA:Str->Option Value}(n:h.Ns1 dx mA):∃ od,h.get? dx=some od/\∀ name,PySem.W.lookIn name od=some (mA name):=by
 obtain ⟨o,es,ep,ho,hd,hk,_,hm⟩:=n
 refine ⟨o,ho,fun name=>?_⟩
 have e:=hm name
 unfold nsFind findBy at e
 rw [← Array.find?_toList] at e
 unfold PySem.W.lookIn
 rw [hd]
 dsimp only
 split
 ·rename_i y q
  rw [q] at e
  exact congrArg some e
 ·rename_i q
  rw [q] at e
  have a:es.toList.any (·.refKey)=false:=by
   rw [List.any_eq_false]
   intro y hy
   obtain ⟨z,t,hkey⟩:=hk y (Array.mem_toList_iff.mp hy)
   simp [DictEntry.refKey,hkey]
  have a':¬ es.toList.any (·.refKey)=true:=by rw [a];exact Bool.false_ne_true
  rw [if_neg a']
  exact congrArg some e
theorem ObjM.look {h:Heap}{x dx C:Addr}{mA:Str->Option Value}(I:ObjM h x dx C mA):∃ od,PySem.W.InstAt h x (PySem.W.instObj C dx) C (some od)/\∀ name,PySem.W.lookIn name od=some (mA name):=
 let ⟨od,ho,hl⟩:=Qfj I.ns
 ⟨od,⟨I.obj,rfl,rfl,ho⟩,hl⟩
theorem RelO.some_of {v:V}{o:Option Value}(r:RelO (some v) o):∃ u,o=some u/\RelV v u:=by
 cases o with
 |none=>exact (show False from r).elim
 |some u=>exact ⟨u,rfl,r⟩
theorem Qjx {v:V}{u:Value}(r:RelV v u):PySem.W.handedIn u=true:=by
 cases v with
 |non=>cases (show u=Value.none from r);rfl
 |bl b=>cases (show u=Value.bool b from r);rfl
 |int i=>obtain ⟨t,e⟩:=(show ∃ t,u=Value.int i t from r);cases e;rfl
 |str x=>obtain ⟨t,e⟩:=(show ∃ t,u=Value.str x t from r);cases e;rfl
 |byt b=>obtain ⟨t,e⟩:=(show ∃ t,u=Value.bytes b t from r);cases e;rfl
 |flt b=>obtain ⟨t,e⟩:=(show ∃ t,u=Value.float b t from r);cases e;rfl
 |ref a=>cases (show u=Value.ref a from r);rfl
 |ty n=>cases (show u=Value.type n from r);rfl
section
variable {P:Program}{w:World}{H:Hp}{h:Heap}{a C dx:Addr}{fs:List (Str × V)}
theorem QmJ (hok:HOk P w H h)(e:H a=some (.ins C dx fs)):∃ mA,ObjM h a dx C mA/\(∀ f,RelO (fs.lookup f) (mA f))/\PySem.Within mA (fs.map (·.1))/\fs.length<=1000/\H dx=some (.own a):=by
 obtain ⟨d,z,ne,ob,mA,n,r,q⟩:=(show ObjOk P w H h a (.ins C dx fs) from hok a _ e)
 exact ⟨mA,⟨ob,n,ne⟩,r,q,z,d⟩
end
structure Cls (K:PySem.W.Frag)(C:Addr):Prop where
 pg:PySem.W.plainGet K C Str.empty=true
 hd:PySem.W.hasDictIn K C=true
 po:PySem.W.plainOver K C=true
 sa:PySem.W.findIn K (.ref C) "__setattr__" = some (some (.builtin "object.__setattr__"))
theorem Cls.get {K:PySem.W.Frag}{C:Addr}(c:Cls K C)(f:Str):PySem.W.plainGet K C f=true:=c.pg
def NoAttr (K:PySem.W.Frag)(C:Addr)(f:Str):Prop:=PySem.W.findIn K (.ref C) f=some none
theorem NoAttr.taker {K:PySem.W.Frag}{C:Addr}{f:Str}(n:NoAttr K C f):PySem.W.takerIn K C f=some none:=by
 unfold PySem.W.takerIn
 rw [show PySem.W.findIn K (.ref C) f=some none from n]
 rfl
section
variable {s:Shared}{f:Str}{A:Around}{E:Value->Shared->Prop}
theorem QmV {prog:Program}{w:World}{env:Env}{e:Expr}{f:Str}{pos:Pos}{s:Shared}{Q:Value->Shared->Prop}(hb:attributeBase e f env (eval e env)=eval e env)
  (h:wpAny (model prog w) A (eval e env) (fun o s₁=>wpAny (model prog w) A (getAttr o f true) Q E s₁) E s):wpAny (model prog w) A (eval (.Attribute e f pos) env) Q E s:=
 Attribute_any_ h (by rw [arm_eval_Attribute,hb])
end
section
variable {H:Hp}
inductive QhP (K:PySem.W.Frag) (H:Hp):V->Value->Prop where
 |non:QhP K H .non (.type "NoneType")
 |bl (x:Bool):QhP K H (.bl x) (.type "bool")
 |int (i:Int):QhP K H (.int i) (.type "int")
 |str (x:Str):QhP K H (.str x) (.type "str")
 |flt (x:UInt64):QhP K H (.flt x) (.type "float")
 |lst {a:Addr} {xs:List V} (e:H a=some (.lst xs)):QhP K H (.ref a) (.type "list")
 |frz {a:Addr} {o:Obj} {xs:List V} (e:H a=some (.frz o (.lst xs))):QhP K H (.ref a) (.type "list")
 |tup {a:Addr} {xs:List V} (e:H a=some (.tup xs)):QhP K H (.ref a) (.type "tuple")
 |dK {a:Addr} {kvs:List (Key × V)} (e:H a=some (.dK kvs)):QhP K H (.ref a) (.type "dict")
 |dT {a:Addr} {kvs:List (List Key × V)} (e:H a=some (.dT kvs)):QhP K H (.ref a) (.type "dict")
 |ins {a C dx:Addr} {fs:List (Str × V)} (e:H a=some (.ins C dx fs)) (cl:Cls K C) (ha:PySem.W.findIn K (.ref C) "__class__" = some (some (.builtin "object.__class__")))
   (hn:PySem.W.specialIn K (.builtin "object.__class__") "__get__" = some (some (.builtin "getset_descriptor.__get__"))) (htk:PySem.W.takesIn K (.builtin "object.__class__")=some true)
   (hm:PySem.W.mroIn K C (.type "object")=some true):QhP K H (.ref a) (.ref C)
end
structure Room (k:Nat)(A:Around):Prop where
 hd:A.handled=none
 dp:A.depth+3 * k+5<recursionLimit
 un:A.units+16 * k+200<cLine
 gd:A.guards=some []
theorem Room.mono {j k:Nat}{A:Around}(r:Room k A)(h:j<=k):Room j A:=⟨r.hd,by have:=r.dp;omega,by have:=r.un;omega,r.gd⟩
theorem Room.deeper {k:Nat}{A:Around}(r:Room (k+1) A)(env:Env):Room k (A.deeper env):=
 ⟨r.hd,by have:=r.dp;show A.depth+1+3 * k+5<_;omega,by have:=r.un;show A.units+3+16 * k+200<_;omega,r.gd⟩
theorem QhF {A:Around}{C:Addr}{us:List Value}{kw:List (Str × Value)}:(A.under (.builtin "type.__call__" ⟨.ref C :: us,kw⟩)).depth=A.depth+1:=by
 first | rfl | simp [Around.under,Code.weight,Code.isCreation,Code.isGuard,Code.isCaller,Code.frames,Code.isFrame,guardIds]
theorem Qhu {A:Around}{C:Addr}{us:List Value}{kw:List (Str × Value)}:(A.under (.builtin "type.__call__" ⟨.ref C :: us,kw⟩)).units=A.units+1:=by
 first | rfl | simp [Around.under,Code.cUnits,Code.frames,Code.isFrame]
theorem Qni {A:Around}{C:Addr}{us:List Value}{kw:List (Str × Value)}(h:A.guards=some []):(A.under (.builtin "type.__call__" ⟨.ref C :: us,kw⟩)).guards=some []:=by
 have e:(Code.builtin "type.__call__" ⟨.ref C :: us,kw⟩).guards=[]:=by simp [Code.guards,Code.isGuard,guardIds]
 unfold Around.under
 dsimp only
 rw [e,h]
 rfl
theorem Room.make {k:Nat}{A:Around}(r:Room (k+1) A)(C:Addr)(us:List Value)(kw:List (Str × Value)):Room k (A.under (.builtin "type.__call__" ⟨.ref C :: us,kw⟩)):=
 ⟨r.hd,by have:=r.dp;rw [QhF];omega,by have:=r.un;rw [Qhu];omega,Qni r.gd⟩
theorem Room.depth {k:Nat}{A:Around}(r:Room k A):A.depth<recursionLimit:=by have:=r.dp;omega
theorem Room.units {k:Nat}{A:Around}(r:Room k A):A.units+64<cLine:=by have:=r.un;omega
def Qs2:TA:=fun _ H Q=>Q [] H
def QqO (ta:TE)(tr:TA):TA:=fun σ H Q=>ta σ H fun x H1=>tr σ H1 fun xs H2=>Q (x :: xs) H2
section
variable {X:Cx}{e:Expr}{es:List Expr}{te:TE}{t:TA}{pos:Pos}
theorem Qgs:PA X [] Qs2:=fun _ _ _ _ H Q I h=>Calls.spliced_nil ⟨[],H,I,.nil,h⟩
theorem Qeg (ha:PE X e te)(hr:PA X es t)(hs:starEach (e :: es) X.env=(false,eval e X.env) :: starEach es X.env:=by rfl):PA X (e :: es) (QqO te t):=by
 intro pos pins s σ H Q I h
 rw [hs]
 show wpAny _ _ (spliced ((false,eval e X.env) :: backTo pos (starEach es X.env))) _ _ s
 refine Calls.spliced_cons (thn (ha pins s σ H _ I h) fun u s1 hz=>?_)
 obtain ⟨x,H1,I1,r1,q1⟩:=hz
 exact thn (hr pos pins s1 σ H1 _ I1 q1) fun us s2 ⟨xs,H2,I2,r2,q2⟩=>⟨x :: xs,H2,I2,.cons r1 r2,q2⟩
def Qtk (t:TA):TE:=fun σ H Q=>t σ H fun xs H1=>xs.length<=sizeLine/\∀ p,H1 p=none->Q (.ref p) (upd H1 p (.tup xs))
def QtG (t:TA):TE:=fun σ H Q=>t σ H fun xs H1=>xs.length<=sizeLine/\∀ p,H1 p=none->Q (.ref p) (upd H1 p (.lst xs))
theorem Qps {x1}(h:PA X es t):PE X (.Tuple es x1 pos) (Qtk t):=by
 intro pins s σ H Q I hq
 refine wpAny_Tuple_spliced (thn (h pos pins s σ H _ I hq) fun us s1 ⟨xs,H1,I1,r,z,q⟩=>⟨by rw [← r.length];exact z,?_⟩)
 have hf:H1 s1.heap.objs.size=none:=I1.hok.fresh (Nat.le_refl _)
 refine ⟨.ref s1.heap.objs.size,upd H1 s1.heap.objs.size (.tup xs),I1.laid (t':=s1.toks) (fun b u e=>Heap.get?_push_of_some _ e) (Nat.le_refl _) ?_,rfl,q _ hf⟩
 exact ⟨z,us,r,⟨_,Heap.get?_push_size _ rfl,rfl,_,rfl⟩⟩
theorem Qlm (h:PA X es t):PE X (.List es pos) (QtG t):=by
 intro pins s σ H Q I hq
 refine wpAny_List_spliced (thn (h pos pins s σ H _ I hq) fun us s1 ⟨xs,H1,I1,r,z,q⟩=>⟨by rw [← r.length];exact z,?_⟩)
 have hf:H1 s1.heap.objs.size=none:=I1.hok.fresh (Nat.le_refl _)
 refine ⟨.ref s1.heap.objs.size,upd H1 s1.heap.objs.size (.lst xs),I1.laid (t':=s1.toks) (fun b u e=>Heap.get?_push_of_some _ e) (Nat.le_refl _) ?_,rfl,q _ hf⟩
 exact ⟨z,us,0,r,Heap.get?_push_size _ rfl⟩
end
abbrev Sp:=List V->Hp->VK->XK->Prop
abbrev CXT:=List Env->Hp->Shared->XK->Value->Shared->Prop
structure Env0 (P:Program)(w:World)(K:PySem.W.Frag)(mg:Str->Option Value)(base:Heap)(A:Around)(outer:List Env)(s:Shared)(H:Hp):Prop where
 frames:A.frames=some outer
 mod:Mod K mg base
 bs:∀ b o,base.get? b=some o->s.heap.get? b=some o/\H b=none
 bsz:base.objs.size<=s.heap.objs.size
 funs:s.heap.FunFrames base outer
 frf:∀ b∈frs outer,H b=none
 hok:HOk P w H s.heap
 bare:AllBare s.gens
def CE (outer:List Env)(P:Program)(w:World)(H:Hp)(s:Shared)(Q:VK)(u:Value)(s':Shared):Prop:=
 ∃ v H',s'.os=s.os/\AllBare s'.gens/\Un (frs outer) [] H H' s.heap s'.heap/\HOk P w H' s'.heap/\RelV v u/\Q v H'
def CR (CX:CXT)(outer:List Env)(P:Program)(w:World)(H:Hp)(s:Shared)(Q:VK)(E:XK)(r:Result)(s':Shared):Prop:=
 match r with
 |.ok (.ret u)=>CE outer P w H s Q u s'
 |.ok _=>False
 |.error e=>CX outer H s E e s'
structure FnOk (P:Program)(w:World)(K:PySem.W.Frag)(mg:Str->Option Value)(base:Heap)(CX:CXT)(k:Nat)(f:Addr)(fd:FuncData)(ps:List Str)(sp:Sp):Prop where
 len:∀ vs H Q E,sp vs H Q E->vs.length=ps.length
 run:∀ (A:Around) (outer:List Env) (s:Shared) (H:Hp) (args:Args) (us:List Value) (vs:List V) (Q:VK) (E:XK),Room k A->Env0 P w K mg base A outer s H->BindsTo s fd args (ps.zip us)->Vals vs us->sp vs H Q E->
  codeAny (model P w) A (.call (.ref f) args) (CR CX outer P w H s Q E) s
theorem FnOk.imp {P:Program}{w:World}{K:PySem.W.Frag}{mg:Str->Option Value}{base:Heap}{CX:CXT}{k:Nat}{f:Addr}{fd:FuncData}{ps:List Str}{sp sp':Sp}(F:FnOk P w K mg base CX k f fd ps sp)
  (h:∀ vs H Q E,sp' vs H Q E->sp vs H Q E):FnOk P w K mg base CX k f fd ps sp':=
 ⟨fun vs H Q E q=>F.len vs H Q E (h _ _ _ _ q),fun A outer s H args us vs Q E hr he hb hv hs=>F.run A outer s H args us vs Q E hr he hb hv (h _ _ _ _ hs)⟩
theorem Env0.make {P:Program}{w:World}{K:PySem.W.Frag}{mg:Str->Option Value}{base:Heap}{A:Around}{outer:List Env}{s:Shared}{H:Hp}(e:Env0 P w K mg base A outer s H)(C:Addr)(us:List Value)(kw:List (Str × Value)) :
  Env0 P w K mg base (A.under (.builtin "type.__call__" ⟨.ref C :: us,kw⟩)) outer s H:=⟨by first | exact e.frames | (simpa [Around.under,Code.envs,Code.isFrame,pushEnvs] using e.frames),e.mod,e.bs,e.bsz,e.funs,e.frf,e.hok,e.bare⟩
section
variable {X:Cx}{pins:List (Addr × Obj)}{σ:St}{H:Hp}{s s':Shared}
theorem Inv.env0 (I:Inv X pins σ H s):Env0 X.prog X.w X.K X.mg X.base X.A X.stack s H:=
 ⟨I.ok.frames,I.ok.mod,I.bs,Nat.le_trans I.ok.bsz I.sz,I.stack,I.stkFree,I.hok,I.bare⟩
theorem Inv.after {Q:VK}{u:Value}(I:Inv X pins σ H s)(h:CE X.stack X.prog X.w H s Q u s'):EP X pins σ Q u s':=by
 obtain ⟨v,H',os,bare,un,hok,r,q⟩:=h
 obtain ⟨hh,g,d,t,os'⟩:=s'
 obtain rfl:os'=s.os:=os
 exact ⟨v,H',I.call (h':=hh) (g':=g) (d':=d) (t':=t) (ch:=[]) un hok bare (fun b z=>absurd z (by simp)),r,q⟩
end
def Binds (K:PySem.W.Frag)(fd:FuncData)(ps:List Str)(ds:List Value):Prop:=
 ∀ (s:Shared) (us:List Value),K.In s.heap->(us++ds).length=ps.length->BindsTo s fd ⟨us,[]⟩ (ps.zip (us++ds))
theorem Binds.all {K:PySem.W.Frag}{fd:FuncData}{ps:List Str}(h:∀ us:List Value,us.length=ps.length->bindArgs fd ⟨us,[]⟩=pure (ps.zip us)):Binds K fd ps []:=fun s us _ hl=>by
 rw [List.append_nil] at hl ⊢
 exact .of_eq (h us hl)
def QjF (CX:CXT)(X:Cx)(E:XK):Prop:=∀ (pins:List (Addr × Obj)) (σ:St) (H:Hp) (s:Shared) (e:Value) (s':Shared),Inv X pins σ H s->CX X.stack H s E e s'->X.xe e s'
structure QcS (N P:List Str)(sc:Scope):Prop where
 kind:sc.kind=.function
 co:sc.isCoroutine=false
 gen:sc.isGenerator=false
 nd:N.Nodup
 pre:N.take P.length=P
 par:∀ x∈P,sc.names.lookup x=some .local\/sc.names.lookup x=some .cell
 nofree:∀ y∈sc.names,y.2≠.free
theorem Qfp {kindOf:Str->Option NameKind}{x:Str}:∀ {binds:List (Str × Value)} {m:Str->Option Value},(∀ v,(x,v)∉binds)->bindL kindOf binds m x=m x
 | [],_,_=>rfl
 |(n,v) :: r,m,h=>by
  unfold bindL
  rw [Qfp fun w hw=>h w (List.mem_cons_of_mem _ hw)]
  split
  ·have:x≠n:=by rintro rfl;exact h v List.mem_cons_self
   simp [this]
  ·rfl
theorem Qff {kindOf:Str->Option NameKind}{x:Str}:∀ {binds:List (Str × Value)} {m:Str->Option Value},(∀ v,(x,v)∉binds)->bindC kindOf binds m x=m x
 | [],_,_=>rfl
 |(n,v) :: r,m,h=>by
  unfold bindC
  rw [Qff fun w hw=>h w (List.mem_cons_of_mem _ hw)]
  split
  ·rfl
  ·have:x≠n:=by rintro rfl;exact h v List.mem_cons_self
   simp [this]
theorem Qe6 {kindOf:Str->Option NameKind}{x:Str}{v:Value}:∀ {P:List Str} {vs:List Value} {i:Nat} {m:Str->Option Value},P.Nodup->P[i]? = some x->vs[i]? = some v->kindOf x=some .local->
  bindL kindOf (P.zip vs) m x=some v
 | [],_,_,_,_,h,_,_=>by simp at h
 |_ :: _,[],_,_,_,_,h,_=>by simp at h
 |p :: P,w :: vs,0,m,nd,h1,h2,hk=>by
  simp at h1 h2;subst h1;subst h2
  show bindL kindOf ((p,w) :: P.zip vs) m p=_
  unfold bindL
  rw [Qfp fun v hv=>(List.nodup_cons.mp nd).1 (List.of_mem_zip hv).1,if_pos hk]
  simp
 |p :: P,w :: vs,i+1,m,nd,h1,h2,hk=>by
  show bindL kindOf ((p,w) :: P.zip vs) m x=_
  unfold bindL
  exact Qe6 (i:=i) (List.nodup_cons.mp nd).2 (by simpa using h1) (by simpa using h2) hk
theorem QeY {kindOf:Str->Option NameKind}{x:Str}{v:Value}:∀ {P:List Str} {vs:List Value} {i:Nat} {m:Str->Option Value},P.Nodup->P[i]? = some x->vs[i]? = some v->kindOf x≠some .local->
  bindC kindOf (P.zip vs) m x=some v
 | [],_,_,_,_,h,_,_=>by simp at h
 |_ :: _,[],_,_,_,_,h,_=>by simp at h
 |p :: P,w :: vs,0,m,nd,h1,h2,hk=>by
  simp at h1 h2;subst h1;subst h2
  show bindC kindOf ((p,w) :: P.zip vs) m p=_
  unfold bindC
  rw [Qff fun v hv=>(List.nodup_cons.mp nd).1 (List.of_mem_zip hv).1,if_neg hk]
  simp
 |p :: P,w :: vs,i+1,m,nd,h1,h2,hk=>by
  show bindC kindOf ((p,w) :: P.zip vs) m x=_
  unfold bindC
  exact QeY (i:=i) (List.nodup_cons.mp nd).2 (by simpa using h1) (by simpa using h2) hk
def QcW (N:List Str)(vs:List V):St:=vs.map some++List.replicate (N.length - vs.length) none
def Qb3 (CX:CXT)(P:Program)(w:World)(K:PySem.W.Frag)(mg:Str->Option Value)(base:Heap)(N:List Str)(qual:Str)(scope:Scope)(f:Addr)(cd:Value)(A:Around)(outer:List Env)(s:Shared)(H:Hp)(E:XK):Cx where
 prog:=P
 w:=w
 K:=K
 mg:=mg
 base:=base
 A:=A.deeper (envOfC qual scope s.heap.objs.size f cd)
 N:=N
 s₀:=s
 H₀:=H
 env:=envOfC qual scope s.heap.objs.size f cd
 outer:=outer
 stack:=envOfC qual scope s.heap.objs.size f cd :: outer
 ex:=[]
 calm:=true
 fn:=fun _=>true
 pn:=[]
 xe:=fun e s'=>wpAny (model P w) (A.deeper (envOfC qual scope s.heap.objs.size f cd)) (leaving (envOfC qual scope s.heap.objs.size f cd) e) (fun _ s''=>CX outer H s E e s'') (fun e' s''=>CX outer H s E e' s'') s'
theorem Qg8 {sc:Scope}{n:Nat}{x:Str}(h:sc.names.lookup x=some .cell):∃ c,(cellsFrom n sc.names []).lookup x=some c:=by
 have q:=PySem.W.cellsFrom_some sc.names n [] (.inl h)
 exact Option.isSome_iff_exists.mp q
theorem QiA {CX:CXT}{P:Program}{w:World}{K:PySem.W.Frag}{mg:Str->Option Value}{base:Heap}{N ps:List Str}{qual:Str}{scope:Scope}{f:Addr}{cd:Value}{A:Around}{outer:List Env}{s s1:Shared}{H:Hp}{E:XK}{us:List Value}{vs:List V}
  (S:QcS N ps scope) (hd:A.handled=none) (e0:Env0 P w K mg base A outer s H) (hl:vs.length=ps.length) (r:Vals vs us)
  (x:InCallC s s.heap.objs.size (bindL (envOfC qual scope s.heap.objs.size f cd).kindOf (ps.zip us) fun _=>none) (cellsFrom (s.heap.objs.size+1) scope.names []) (bindC (envOfC qual scope s.heap.objs.size f cd).kindOf (ps.zip us) fun _=>none) s1) :
  Inv (Qb3 CX P w K mg base N qual scope f cd A outer s H E) [] (QcW N vs) H s1:=by
 have hpl:ps.length<=N.length:=by have:=congrArg List.length S.pre;rw [List.length_take] at this;omega
 obtain ⟨h1,tk,rfl,hk⟩:=x.done
 have noA:∀ b:Addr,b∉(Qb3 CX P w K mg base N qual scope f cd A outer s H E).ex:=fun b z=>absurd (show b∈([]:List Addr) from z) (by simp)
 refine ⟨⟨e0.mod,S.kind,rfl,rfl,Nat.le_refl _,fun y z c h1 h2=>?_,fun y hy=>?_,fun y c _ h=>?_,fun _=>hd,Around.frames_deeper e0.frames,.inr ⟨rfl,rfl⟩,fun b z=>absurd z (noA b),e0.bs,e0.bsz,fun b _ _=>noA b,fun b z=>absurd z (noA b),e0.funs,e0.frf⟩,
  rfl,e0.bare,Un.kept hk,⟨_,x.toInCall.ns,fun i y v h1 h2 h3=>?_⟩,fun y c h=>⟨_,x.cell y c h⟩,e0.hok.fresh (Nat.le_refl _),fun y c h=>?_,fun p hp=>absurd (show p∈([]:List (Addr × Obj)) from hp) (by simp),e0.hok.kept hk,?_⟩
 ·exact name_of_addr x.apart (PySem.mem_of_lookup h1) (PySem.mem_of_lookup h2)
 ·have hy:scope.names.lookup y=some .cell\/scope.names.lookup y=some .free:=hy
  rcases hy with hy | hy
  ·exact Qg8 hy
  ·exact absurd rfl (S.nofree _ (PySem.mem_of_lookup hy))
 ·exact Nat.le_of_lt (x.above y c (PySem.mem_of_lookup h))
 ·have hi:i<vs.length:=by
   unfold QcW at h2
   by_cases hi:i<vs.length
   ·exact hi
   ·rw [List.getElem?_append_right (by simpa using hi)] at h2
    rw [List.getElem?_replicate] at h2
    split at h2<;>cases h2
  have ha:vs[i]? = some v:=by
   unfold QcW at h2
   rw [List.getElem?_append_left (by simpa using hi),List.getElem?_map] at h2
   cases e:vs[i]? with
   |none=>rw [e] at h2;cases h2
   |some a=>rw [e] at h2;cases h2;rfl
  obtain ⟨u,hu,rv⟩:=r.get ha
  have hp:ps[i]? = some y:=by
   rw [← S.pre,List.getElem?_take_of_lt (by omega)];exact h1
  have ndP:ps.Nodup:=by rw [← S.pre];exact S.nd.sublist (List.take_sublist _ _)
  refine ⟨u,rv,?_⟩
  rcases S.par y (List.mem_of_getElem? hp) with k | k
  ·exact .inl ⟨k,Qe6 ndP hp hu k⟩
  ·obtain ⟨c,e⟩:=Qg8 (n:=s.heap.objs.size+1) k
   refine .inr ⟨.inl k,c,e,?_⟩
   have q:=x.cell y c e
   rw [QeY ndP hp hu (by show scope.names.lookup y≠_;rw [k];decide)] at q
   exact q
 ·exact e0.hok.fresh (Nat.le_of_lt (x.above y c (PySem.mem_of_lookup h)))
 ·unfold QcW
  show _=N.length
  rw [List.length_append,List.length_map,List.length_replicate]
  omega
theorem Qqu {CX:CXT}{P:Program}{w:World}{K:PySem.W.Frag}{mg:Str->Option Value}{base:Heap}{k:Nat}{f:Addr}{name qual:Str}{params:Arguments}{body:List Stmt}{scope:Scope}{dV kV doc pm cdv ct oc:Value}{an od:Option Addr}
  {osl:Array (Option Value)} {N ps:List Str} {sp:Sp} (lk:K.lookup f=some ⟨oc,od,.func (PySem.W.fnOf name qual params body scope dV kV doc pm an cdv ct),osl⟩) (hcd:PySem.W.codeIn K cdv qual=true) (S:QcS N ps scope)
  (len:∀ vs H Q E,sp vs H Q E->vs.length=ps.length)
  (hbody:∀ (A:Around) (outer:List Env) (s:Shared) (H:Hp) (vs:List V) (Q:VK) (E:XK),Room k (A.deeper (envOfC qual scope s.heap.objs.size f cdv))->sp vs H Q E->
   ∃ t,PSs (Qb3 CX P w K mg base N qual scope f cdv A outer s H E) body t/\t { nx:=fun _ H'=>Q .non H',rt:=Q } (QcW N vs) H) :
  FnOk P w K mg base CX (k+1) f (PySem.W.fnOf name qual params body scope dV kV doc pm an cdv ct) ps sp:=by
 refine ⟨len,fun A outer s H args us vs Q E hr e0 hb r hsp=>?_⟩
 have hl:=len _ _ _ _ hsp
 have KX:K.In s.heap:=e0.mod.kin.keeps fun b o e=>(e0.bs b o e).1
 have lim:s.heap.NoLimit:=e0.mod.nolimit.keeps fun b o e=>(e0.bs b o e).1
 have hkind:∀ y∈ps.zip us,scope.names.lookup y.1=some .local\/(scope.names.lookup y.1=some .cell/\((cellsFrom (s.heap.objs.size+1) scope.names []).lookup y.1).isSome=true):=fun ⟨n,v⟩ hy=>by
  rcases S.par n (List.of_mem_zip hy).1 with q | q
  ·exact .inl q
  ·exact .inr ⟨q,PySem.W.cellsFrom_some _ _ _ (.inl q)⟩
 refine codeAny_call_function hr.depth (KX _ _ lk) rfl S.co S.gen rfl (PySem.W.codeRec_of KX hcd) (hb _ _ _ _ ?_)
 refine wpAny_newFunctionEnv_cells S.kind hkind fun env he s1 x=>?_
 subst he
 refine ⟨lim.keeps x.toInCall.keep,codeAny_func ?_⟩
 obtain ⟨t,ht,hq⟩:=hbody A outer s H vs Q E (hr.deeper _) hsp
 have I:Inv (Qb3 CX P w K mg base N qual scope f cdv A outer s H E) [] (QcW N vs) H s1:=QiA S hr.hd e0 hl r x
 refine wpAny_mono (ht [] s1 (QcW N vs) H _ I hq) (fun fl s' hs=>?_) fun e s' hs=>hs
 have fin:∀ {σ':St} {H':Hp} {v:V} {u:Value},Inv (Qb3 CX P w K mg base N qual scope f cdv A outer s H E) [] σ' H' s'->RelV v u->Q v H'->CE outer P w H s Q u s':=
  fun {σ' H' v u} J rv q=>⟨v,H',J.os,J.bare,J.base,J.hok,rv,q⟩
 cases fl with
 |ret u=>
  obtain ⟨v,σ',H',J,rv,q⟩:=hs
  exact fin J rv q
 |next=>
  obtain ⟨σ',H',J,q⟩:=hs
  exact fin (v:=V.non) (u:=Value.none) J rfl q
 |brk=>
  obtain ⟨_,_,_,q⟩:=hs
  exact False.elim q
 |cont=>
  obtain ⟨_,_,_,q⟩:=hs
  exact False.elim q
section
variable {X:Cx}{x:Str}{p pos:Pos}{e:Expr}{es:List Expr}{t:TA}{id T:String}{r:List V->Hp->VK->Prop}
def tCB (r:List V->Hp->VK->Prop)(t:TA):TE:=fun σ H Q=>t σ H fun vs H1=>r vs H1 Q
theorem Qkv (hc:Qbo X (.builtin id) r)(hg:Gl X x)(hm:X.mg x=none)(hv:bootBuiltins x=some (.builtin id))(ha:PA X (e :: es) t)(hn:x ≠ "__name__" := by decide)(hdb:(x == ("__debug__" : Str))=false:=by decide)
  (he:starEach (e :: es) X.env=(false,eval e X.env) :: starEach es X.env:=by rfl) (hpl:(backTo pos (starEach es X.env)).any (·.1)=false:=by rfl):PE X (.Call (.Name x p) (e :: es) [] pos) (tCB r t):=by
 intro pins s σ H Q I h
 refine wpAny_Call_Name_kw (QdW I hg hm hv ?_ hn hdb)
 exact PyProof.Rows.callWith_builtin1 (thn (ha pos pins s σ H _ I h) fun us s1 ⟨vs,H1,I1,r1,q1⟩=>hc pins s1 σ H1 vs us Q I1 r1 q1) he hpl
theorem QfE (hc:Qbo X (.type T) r)(hg:Gl X x)(hm:X.mg x=none)(hv:bootBuiltins x=some (.type T))(ha:PA X (e :: es) t)(hn:x ≠ "__name__" := by decide)(hdb:(x == ("__debug__" : Str))=false:=by decide)
  (he:starEach (e :: es) X.env=(false,eval e X.env) :: starEach es X.env:=by rfl) (hpl:(backTo pos (starEach es X.env)).any (·.1)=false:=by rfl):PE X (.Call (.Name x p) (e :: es) [] pos) (tCB r t):=by
 intro pins s σ H Q I h
 refine wpAny_Call_Name_kw (QdW I hg hm hv ?_ hn hdb)
 exact PyProof.Rows.callWith_type1 (thn (ha pos pins s σ H _ I h) fun us s1 ⟨vs,H1,I1,r1,q1⟩=>hc pins s1 σ H1 vs us Q I1 r1 q1) he hpl
end
section
variable {κ:Type}[DecidableEq κ]
def QdS (kvs:List (κ × V))(k:κ):Option V:=(kvs.find? fun kv=>decide (kv.1=k)).map (·.2)
def Qda (kvs:List (κ × V))(k:κ)(v:V):List (κ × V):=
 if (kvs.any fun kv=>decide (kv.1=k))=true then kvs.map (fun kv=>if kv.1=k then (kv.1,v) else kv) else kvs++[(k,v)]
theorem Qcu {p:κ × V}{r:List (κ × V)}{k:κ}(e:p.1=k):QdS (p :: r) k=some p.2:=by simp [QdS,List.find?_cons,e]
theorem QbO {p:κ × V}{r:List (κ × V)}{k:κ}(e:¬ p.1=k):QdS (p :: r) k=QdS r k:=by simp [QdS,List.find?_cons,e]
theorem Qcs (k:κ):∀ kvs:List (κ × V),(kvs.any fun kv=>decide (kv.1=k))=(QdS kvs k).isSome
 | []=>rfl
 |p :: r=>by
  rw [List.any_cons]
  by_cases e:p.1=k
  ·simp only [Qcu e,decide_eq_true e,Bool.true_or,Option.isSome_some]
  ·rw [QbO e,decide_eq_false e,Bool.false_or];exact Qcs k r
theorem Qci (kvs:List (κ × V))(k:κ)(v:V):(Qda kvs k v).length<=kvs.length+1:=by
 unfold Qda
 split
 ·rw [List.length_map];omega
 ·rw [List.length_append,List.length_cons,List.length_nil];omega
theorem Qj6 {kvs:List (κ × V)}{k:κ}(v:V)(h:QdS kvs k=none):Qda kvs k v=kvs++[(k,v)]:=by
 unfold Qda
 rw [Qcs,h]
 exact if_neg (by decide)
theorem RelO.isSome_eq {o:Option V}{u:Option Value}(r:RelO o u):o.isSome=u.isSome:=by
 cases o with
 |none=>cases u with
  |none=>rfl
  |some _=>exact (show False from r).elim
 |some _=>cases u with
  |none=>exact (show False from r).elim
  |some _=>rfl
theorem RelO.getD {o:Option V}{u:Option Value}{d:V}{d':Value}(r:RelO o u)(rd:RelV d d'):RelV (o.getD d) (u.getD d'):=by
 cases o with
 |none=>cases u with
  |none=>exact rd
  |some _=>exact (show False from r).elim
 |some _=>cases u with
  |none=>exact (show False from r).elim
  |some _=>exact r
theorem KV.val {kvs:List (κ × V)}{vs:List (κ × Value)}(r:KV kvs vs)(k:κ):RelO (QdS kvs k) (valueAt vs k):=by
 unfold KV at r
 induction r with
 |nil=>exact True.intro
 | @cons p q ps qs h t ih=>
  obtain ⟨h1,h2⟩:=h
  by_cases e:p.1=k
  ·have e':q.1=k:=h1.symm.trans e
   have b:valueAt (q :: qs) k=some q.2:=by simp [valueAt,List.find?_cons,e']
   rw [Qcu e,b];exact h2
  ·have e':¬ q.1=k:=fun z=>e (h1.trans z)
   have b:valueAt (q :: qs) k=valueAt qs k:=by simp [valueAt,List.find?_cons,e']
   rw [QbO e,b];exact ih
theorem KV.any {kvs:List (κ × V)}{vs:List (κ × Value)}(r:KV kvs vs)(k:κ):(kvs.any fun kv=>decide (kv.1=k))=vs.any fun kv=>decide (kv.1=k):=by
 unfold KV at r
 induction r with
 |nil=>rfl
 |cons h t ih=>rw [List.any_cons,List.any_cons,ih,h.1]
theorem KV.repl {kvs:List (κ × V)}{vs:List (κ × Value)}(r:KV kvs vs)(k:κ){y:V}{u:Value}(ry:RelV y u) :
  KV (kvs.map fun kv=>if kv.1=k then (kv.1,y) else kv) (vs.map fun kv=>if kv.1=k then (kv.1,u) else kv):=by
 unfold KV at r ⊢
 induction r with
 |nil=>exact .nil
 | @cons p q ps qs h t ih=>
  rw [List.map_cons,List.map_cons]
  refine .cons ?_ ih
  obtain ⟨h1,h2⟩:=h
  by_cases e:p.1=k
  ·rw [if_pos e,if_pos (h1.symm.trans e)];exact ⟨h1,ry⟩
  ·rw [if_neg e,if_neg (fun z=>e (h1.trans z))];exact ⟨h1,h2⟩
theorem KV.put {kvs:List (κ × V)}{vs:List (κ × Value)}(r:KV kvs vs)(k:κ){y:V}{u:Value}(ry:RelV y u):KV (Qda kvs k y) (stored vs k u):=by
 unfold Qda stored
 rw [r.any k]
 by_cases e:(vs.any fun kv=>decide (kv.1=k))=true
 ·rw [if_pos e,if_pos e];exact r.repl k ry
 ·rw [if_neg e,if_neg e];exact Paired.snoc r ⟨rfl,ry⟩
theorem KV.length {kvs:List (κ × V)}{vs:List (κ × Value)}(r:KV kvs vs):kvs.length=vs.length:=Paired.length r
end
theorem QfD {P:Program}{w:World}{k:Key}{u:Value}(r:RelV (kV k) u):(Qar P w).is k u=true:=by
 cases k with
 |inl i=>obtain ⟨t,e⟩:=(show ∃ t,u=Value.int i t from r);subst e;exact Qgl P w i t
 |inr x=>obtain ⟨t,e⟩:=(show ∃ t,u=Value.str x t from r);subst e;exact Qgj P w x t
theorem QeO {P:Program}{w:World}:∀ {ks:List Key} {us:List Value},Vals (ks.map kV) us->ItemsAre (Qar P w) ks us
 | [],_,r=>by rw [List.map_nil] at r;cases r;exact .nil
 |k :: ks,_,r=>by
  rw [List.map_cons] at r
  cases r with
  |cons h t=>exact .cons (QfD h) (QeO t)
abbrev KT (H:Hp):List (List Key × V)->List (List Key × Addr × Value)->Prop:=Paired fun p q=>p.1=q.1/\H q.2.1=some (.tup (p.1.map kV))/\RelV p.2 q.2.2
theorem KT.val {H:Hp}{kvs:List (List Key × V)}{xs:List (List Key × Addr × Value)}(r:KT H kvs xs)(k:List Key):RelO (QdS kvs k) ((atKey xs k).map (·.2)):=by
 induction r with
 |nil=>exact True.intro
 | @cons p q ps qs h t ih=>
  obtain ⟨h1,_,h2⟩:=h
  by_cases e:p.1=k
  ·have e':q.1=k:=h1.symm.trans e
   have b:atKey (q :: qs) k=some q.2:=by simp [atKey,List.find?_cons,e']
   rw [Qcu e,b];exact h2
  ·have e':¬ q.1=k:=fun z=>e (h1.trans z)
   have b:atKey (q :: qs) k=atKey qs k:=by simp [atKey,List.find?_cons,e']
   rw [QbO e,b];exact ih
theorem KT.repl {H:Hp}{kvs:List (List Key × V)}{xs:List (List Key × Addr × Value)}(r:KT H kvs xs)(k:List Key){y:V}{u:Value}(ry:RelV y u) :
  KT H (kvs.map fun kv=>if kv.1=k then (kv.1,y) else kv) (xs.map (putAt k u)):=by
 induction r with
 |nil=>exact .nil
 | @cons p q ps qs h t ih=>
  rw [List.map_cons,List.map_cons]
  refine .cons ?_ ih
  obtain ⟨h1,h2,h3⟩:=h
  unfold putAt
  by_cases e:p.1=k
  ·rw [if_pos e,if_pos (h1.symm.trans e)];exact ⟨h1,h2,ry⟩
  ·rw [if_neg e,if_neg (fun z=>e (h1.trans z))];exact ⟨h1,h2,h3⟩
theorem KT.put {H:Hp}{kvs:List (List Key × V)}{xs:List (List Key × Addr × Value)}(r:KT H kvs xs)(k:List Key){b:Addr}{y:V}{u:Value}(hb:H b=some (.tup (k.map kV)))(ry:RelV y u) :
  KT H (Qda kvs k y) (storedH xs k b u):=by
 have e:(kvs.any fun kv=>decide (kv.1=k))=(atKey xs k).isSome:=by
  rw [Qcs,(r.val k).isSome_eq,Option.isSome_map]
 unfold Qda storedH
 rw [e]
 by_cases q:(atKey xs k).isSome=true
 ·rw [if_pos q,if_pos q];exact r.repl k ry
 ·rw [if_neg q,if_neg q];exact Paired.snoc r ⟨rfl,hb,ry⟩
theorem KT.keeps {H H':Hp}{kvs:List (List Key × V)}{xs:List (List Key × Addr × Value)}(r:KT H kvs xs)(ht:∀ b ys,H b=some (.tup ys)->H' b=some (.tup ys)):KT H' kvs xs:=
 Paired.mapP r fun _ _ z=>⟨z.1,ht _ _ z.2.1,z.2.2⟩
section
variable {P:Program}{w:World}{H:Hp}{h:Heap}{a:Addr}
theorem QqQ {u:HO}(ok:HOk P w H h)(e:Rd H a u):ObjOk P w H h a u:=e.ok ok
theorem Qhg {kvs:List (Key × V)}(ok:HOk P w H h)(e:Rd H a (.dK kvs)):kvs.length<=sizeLine/\(a == sysModules)=false/\∃ vs,KV kvs vs/\h.DictOf (Qar P w) a vs:=
 show ObjOk P w H h a (.dK kvs) from QqQ ok e
theorem Qpl {kvs:List (Key × V)}(ok:HOk P w H h)(e:H a=some (.dK kvs)):kvs.length<=sizeLine/\(a == sysModules)=false/\∃ vs,KV kvs vs/\h.DictOf (Qar P w) a vs:=Qhg ok (.inl e)
theorem Qfl {ks:List Key}(ok:HOk P w H h)(e:H a=some (.tup (ks.map kV))):(tupleKind (Qar P w)).is h ks a:=by
 obtain ⟨_,its,r,o,h1,h2,n,h3⟩:=(show ObjOk P w H h a (.tup (ks.map kV)) from ok a _ e)
 exact ⟨o,its.toArray,n,h1,h2,h3,by simpa using QeO r⟩
theorem QhE {kvs:List (List Key × V)}(ok:HOk P w H h)(e:Rd H a (.dT kvs)):kvs.length<=sizeLine/\(a == sysModules)=false/\
  ∃ xs,KT H kvs xs/\h.DictOfH (tupleKind (Qar P w)) a xs:=by
 obtain ⟨z,y,xs,r,o,es,ep,h1,h2,h3,h4,h5⟩:=(show ObjOk P w H h a (.dT kvs) from QqQ ok e)
 refine ⟨z,y,xs,r,o,es,ep,h1,h2,h3,h4,fun x hx=>?_,h5⟩
 have all:∀ {l:List (List Key × V)} {m:List (List Key × Addr × Value)},KT H l m->∀ x∈m,(tupleKind (Qar P w)).is h x.1 x.2.1:=by
  intro l m q
  induction q with
  |nil=>intro x hx;exact nomatch hx
  | @cons p q ps qs hq t ih=>
   intro x hx
   rcases List.mem_cons.mp hx with e | hx
   ·subst e
    exact Qfl ok (by rw [← hq.1];exact hq.2.1)
   ·exact ih x hx
 exact all r x hx
theorem QrH {kvs:List (List Key × V)}(ok:HOk P w H h)(e:H a=some (.dT kvs)):kvs.length<=sizeLine/\(a == sysModules)=false/\
  ∃ xs,KT H kvs xs/\h.DictOfH (tupleKind (Qar P w)) a xs:=QhE ok (.inl e)
end
def DGet (H:Hp)(a:Addr)(y:V)(r:Option V):Prop:=
 (∃ kvs k,Rd H a (.dK kvs)/\y=kV k/\r=QdS kvs k)\/∃ kvs k b,Rd H a (.dT kvs)/\y=.ref b/\H b=some (.tup (k.map kV))/\r=QdS kvs k
def Qtf (H:Hp)(a:Addr)(y v:V)(H':Hp):Prop:=
 (∃ kvs k,H a=some (.dK kvs)/\y=kV k/\kvs.length<sizeLine/\H'=upd H a (.dK (Qda kvs k v)))\/
 ∃ kvs k b,H a=some (.dT kvs)/\y=.ref b/\H b=some (.tup (k.map kV))/\kvs.length<sizeLine/\H'=upd H a (.dT (Qda kvs k v))
theorem DGet.k {H:Hp}{a:Addr}{kvs:List (Key × V)}{k:Key}(e:H a=some (.dK kvs)):DGet H a (kV k) (QdS kvs k):=.inl ⟨kvs,k,.inl e,rfl,rfl⟩
section
variable {X:Cx}{pins:List (Addr × Obj)}{σ:St}{H:Hp}{s:Shared}{a:Addr}{y v:V}{u r:Value}{o:Option V}{A:Around}{E:Value->Shared->Prop}
theorem Inv.big (I:Inv X pins σ H s):sysModules<s.heap.objs.size:=by
 have h:mainGlobals<s.heap.objs.size:=(I.mod.glob.keeps I.bk).lt
 exact Nat.lt_trans (by decide) h
theorem Qib {Q:Value->Shared->Prop}(hu:A.units+1<cLine)(I:Inv X pins σ H s)(g:DGet H a y (some v))(ry:RelV y u)(h:∀ w' s',Inv X pins σ H s'->RelV v w'->Q w' s') :
  wpAny (model X.prog X.w) A (getItem (.ref a) u) Q E s:=by
 rcases g with ⟨kvs,k,e,ey,l⟩ | ⟨kvs,k,b,e,ey,eb,l⟩
 ·subst ey
  obtain ⟨z,hd,vs,rel,dd⟩:=Qhg I.hok e
  obtain ⟨w',hw,rw'⟩:=RelO.some_of (v:=v) (o:=valueAt vs k) (by rw [l];exact rel.val k)
  exact wpAny_getItem_of (QfD ry) dd.mapOf hw (h w' _ (I.tok _) rw')
 ·subst ey
  cases (show u=Value.ref b from ry)
  obtain ⟨z,hd,xs,rel,dd⟩:=QhE I.hok e
  obtain ⟨w',hw,rw'⟩:=RelO.some_of (v:=v) (o:=(atKey xs k).map (·.2)) (by rw [l];exact rel.val k)
  obtain ⟨p,hp,hp2⟩:=Option.map_eq_some_iff.mp hw
  refine wpAny_getItem_heap (tupleKind_room_in1 hu) (Qfl I.hok eb) dd hp ?_
  rw [hp2]
  exact h w' _ (I.tok _) rw'
theorem QlP {Q:Value->Shared->Prop}(hu:A.units+1<cLine)(I:Inv X pins σ H s)(g:DGet H a y o)(ry:RelV y u)(h:∀ s',Inv X pins σ H s'->Q (.bool (!o.isSome)) s') :
  wpAny (model X.prog X.w) A (compareOp .NotIn u (.ref a)) Q E s:=by
 rcases g with ⟨kvs,k,e,ey,l⟩ | ⟨kvs,k,b,e,ey,eb,l⟩
 ·subst ey
  obtain ⟨z,hd,vs,rel,dd⟩:=Qhg I.hok e
  refine wpAny_notIn_of (QfD ry) hd dd.mapOf ?_
  rw [← (rel.val k).isSome_eq,← l]
  exact h _ (I.tok _)
 ·subst ey
  cases (show u=Value.ref b from ry)
  obtain ⟨z,hd,xs,rel,dd⟩:=QhE I.hok e
  refine wpAny_notIn_heap (tupleKind_room_in1 hu) (Qfl I.hok eb) hd dd ?_
  have q:=(rel.val k).isSome_eq
  rw [Option.isSome_map] at q
  rw [← q,← l]
  exact h _ (I.tok _)
theorem QfS {h':Heap}{t':Nat}{ob:HO}(I:Inv X pins σ H s)(mu:Mut (H a))(hs:Heap.SameBut a s.heap h')(he:∃ q,h'.get? a=some q)(new:ObjOk X.prog X.w (upd H a ob) h' a ob) :
  Inv X pins σ (upd H a ob) { s with heap:=h',toks:=t' }:=
 I.write (x:=a) (e:=a) mu (.inl rfl) (fun b q hb z=>(hs.2 b hb).trans z) he new
theorem Qlr {P:Program}{w:World}{H':Hp}{h':Heap}{kvs:List (Key × V)}{vs:List (Key × Value)}(z:kvs.length<=sizeLine)(hd:(a == sysModules)=false)(rel:KV kvs vs)(dd:h'.DictOf (Qar P w) a vs) :
  ObjOk P w H' h' a (.dK kvs):=⟨z,hd,vs,rel,dd⟩
theorem Qjk {H':Hp}{Q:Unit->Shared->Prop}(hu:A.units+1<cLine)(I:Inv X pins σ H s)(g:Qtf H a y v H')(ry:RelV y u)(rv:RelV v r)(h:∀ s',Inv X pins σ H' s'->Q () s') :
  wpAny (model X.prog X.w) A (setItem (.ref a) u r) Q E s:=by
 rcases g with ⟨kvs,k,e,ey,l,eH⟩ | ⟨kvs,k,b,e,ey,eb,l,eH⟩
 ·subst ey eH
  obtain ⟨z,hd,vs,rel,dd⟩:=Qpl I.hok e
  have hz:vs.length<=sizeLine:=by rw [← rel.length];exact z
  have hl:(Qda kvs k v).length<=sizeLine:=by have:=Qci kvs k v;omega
  refine wpAny_setItem_pairs (hsz:=hz) (QfD ry) dd fun h' dd' hs=>h _ ?_
  have he:∃ q,h'.get? a=some q:=let ⟨q,_,_,hq,_⟩:=dd';⟨q,hq⟩
  exact QfS I (by rw [e];exact True.intro) hs he (Qlr hl hd (rel.put k rv) dd')
 ·subst ey eH
  cases (show u=Value.ref b from ry)
  obtain ⟨z,hd,xs,rel,dd⟩:=QrH I.hok e
  have hz:xs.length<=sizeLine:=by rw [← Paired.length rel];exact z
  have hl:(Qda kvs k v).length<=sizeLine:=by have:=Qci kvs k v;omega
  refine wpAny_setItem_heap (hsz:=hz) (tupleKind_room_in1 hu) (Qfl I.hok eb) dd fun h' dd' hs=>h _ ?_
  obtain ⟨q,es,ep,hq,h2,h3,h4,_,h5⟩:=dd'
  refine QfS I (by rw [e];exact True.intro) hs ⟨q,hq⟩ ⟨hl,hd,_,(rel.put k eb rv).keeps fun c ys ec=>?_,q,es,ep,hq,h2,h3,h4,h5⟩
  rw [Qad (Qrq ec e (fun z=>nomatch z))]
  exact ec
end
def QqY (i:Expr):Prop:=∀ ov iv,subscripted i false ov iv=operate [ov,iv] (getItem ov iv)
theorem Qja {prog:Program}{w:World}{A:Around}{E:Value->Shared->Prop}{s:Shared}{env:Env}{value slice:Expr}{pos:Pos}{T id:String}{Q:Value->Shared->Prop}
  (hl:typeLookup (.type T) "__getitem__" = pure (some (.builtin id))) (hs:QqY slice)
  (h:wpAny (model prog w) A (eval value env) (fun o s₁=>wpAny (model prog w) A (eval slice env) (fun i s₂=>s₂.TypeIs o T/\wpAny (model prog w) A (getItem o i) Q E s₂) E s₁) E s) :
  wpAny (model prog w) A (eval (.Subscript value slice pos) env) Q E s:=by
 refine Subscript_ (wpAny_mono h (fun o s₁ h₁=>wpAny_mono h₁ (fun i s₂ h₂=>?_) fun _ _ x=>x) fun _ _ x=>x)
 obtain ⟨hT,h₂⟩:=h₂
 unfold subscriptTail
 refine wpAny_bind ?_
 rw [getitemInPython_of_ne hT.not_modules]
 refine wpAny_bind (wpAny_specialOf hT hl ?_)
 have fin:wpAny (model prog w) A (subscripted slice false o i) (fun r s₃=>wpAny (model prog w) A (letTemporaryGo value o r >>= fun _=>pure r) Q E s₃) E s₂:=by
  rw [hs o i]
  exact wpAny_operating (wpAny_mono h₂ (fun r s₃ h₃=>wpAny_bind (wpAny_letTemporaryGo (wpAny_pure h₃))) fun _ _ x=>x)
 first
  |exact wpAny_pure (wpAny_bind fin)
  |exact wpAny_bind (wpAny_pure (wpAny_bind fin))
  |exact wpAny_bind fin
theorem Qgo {X:Cx}{pins:List (Addr × Obj)}{σ:St}{H:Hp}{s:Shared}{a:Addr}{y:V}{o:Option V}(I:Inv X pins σ H s)(g:DGet H a y o):s.TypeIs (.ref a) "dict" := by
 rcases g with ⟨kvs,k,e,_,_⟩ | ⟨kvs,k,b,e,_,_,_⟩
 ·obtain ⟨_,_,vs,_,dd⟩:=Qhg I.hok e
  exact dd.typeIs
 ·obtain ⟨_,_,xs,_,dd⟩:=QhE I.hok e
  exact dd.typeIs
def QsG (td ty:TE):TE:=fun σ H Q=>td σ H fun x H1=>ty σ H1 fun y H2=>∃ a v,x=.ref a/\DGet H2 a y (some v)/\Q v H2
def Qm2 (ty td:TE):TE:=fun σ H Q=>ty σ H fun y H1=>td σ H1 fun x H2=>∃ a o,x=.ref a/\DGet H2 a y o/\Q (.bl (!o.isSome)) H2
def Qsg (td ty tv:TE):TS:=fun D σ H=>tv σ H fun v H1=>td σ H1 fun x H2=>ty σ H2 fun y H3=>∃ a H4,x=.ref a/\Qtf H3 a y v H4/\D.nx σ H4
section
variable {X:Cx}{o i value:Expr}{pos pos':Pos}{td ty tv:TE}
theorem QnB (hu:X.A.units+1<cLine)(ho:PE X o td)(hi:PE X i ty)(hs:QqY i):PE X (.Subscript o i pos) (QsG td ty):=by
 intro pins s σ H Q I h
 refine Qja PySem.F.slot_dict_getitem.lookup hs (thn (ho pins s σ H _ I h) fun u s1 hz=>?_)
 obtain ⟨x,H1,I1,rx,q1⟩:=hz
 refine thn (hi pins s1 σ H1 _ I1 q1) fun iv s2 hz=>?_
 obtain ⟨y,H2,I2,ry,a,v,ex,g,q2⟩:=hz
 subst ex
 obtain rfl:u=Value.ref a:=rx
 exact ⟨Qgo I2 g,Qib hu I2 g ry fun w' s3 I3 rw'=>⟨v,H2,I3,rw',q2⟩⟩
theorem Qje (hu:X.A.units+1<cLine)(hi:PE X i ty)(ho:PE X o td):PC X .NotIn i o (Qm2 ty td):=by
 intro pins s σ H Q I h
 refine thn (hi pins s σ H _ I h) fun iv s1 hz=>?_
 obtain ⟨y,H1,I1,ry,q1⟩:=hz
 refine thn (ho pins s1 σ H1 _ I1 q1) fun u s2 hz=>?_
 obtain ⟨x,H2,I2,rx,a,ov,ex,g,q2⟩:=hz
 subst ex
 obtain rfl:u=Value.ref a:=rx
 exact QlP hu I2 g ry fun s3 I3=>⟨.bl (!ov.isSome),H2,I3,rfl,q2⟩
theorem Qna (hu:X.A.units+1<cLine)(ho:PE X o td)(hi:PE X i ty)(hv:PE X value tv)(hs:swapsWith value (some (.Subscript o i pos')) pos.line X.env=pure false) :
  PS X (.Assign [.Subscript o i pos'] value pos) (Qsg td ty tv):=by
 intro pins s σ H D I h
 refine wpAny_Assign_Subscript (thn (hv pins s σ H _ I h) fun r s1 hz=>?_) hs
 obtain ⟨v,H1,I1,rv,q1⟩:=hz
 refine thn (ho pins s1 σ H1 _ I1 q1) fun u s2 hz=>?_
 obtain ⟨x,H2,I2,rx,q2⟩:=hz
 refine thn (hi pins s2 σ H2 _ I2 q2) fun iv s3 hz=>?_
 obtain ⟨y,H3,I3,ry,a,H4,ex,g,q3⟩:=hz
 subst ex
 obtain rfl:u=Value.ref a:=rx
 exact Qjk hu I3 g ry rv fun s4 I4=>⟨σ,H4,I4,q3⟩
end
theorem Qkr {P:Program}{w:World}{H:Hp}(h:Heap)(hb:sysModules<h.objs.size):ObjOk P w H (h.push { cls:=.type "dict",data:=.dict #[] }) h.objs.size (.dK []):=
 ⟨Nat.zero_le _,beq_eq_false_iff_ne.mpr (Ne.symm (Nat.ne_of_lt hb)),[],.nil,Heap.DictOf.new h⟩
def QgM:List (TE × TE)->St->Hp->(List (V × V)->Hp->Prop)->Prop
 | [],_,H,Q=>Q [] H
 |(tk,tv) :: r,σ,H,Q=>tk σ H fun x H1=>tv σ H1 fun y H2=>QgM r σ H2 fun ps H3=>Q ((x,y) :: ps) H3
abbrev VV:List (V × V)->List (Value × Value)->Prop:=Paired fun p q=>RelV p.1 q.1/\RelV p.2 q.2
def PPs (X:Cx)(pos:Pos)(keys:List (Option Expr))(values:List Expr)(trs:List (TE × TE)):Prop:=
 ∀ (pins:List (Addr × Obj)) (s:Shared) (σ:St) (H:Hp) (Q:List (V × V)->Hp->Prop),Inv X pins σ H s->QgM trs σ H Q->
  wpAny (model X.prog X.w) X.A (evalPairs (pairTrees keys values X.env pos)) (fun vs s'=>∃ ps H',Inv X pins σ H' s'/\VV ps vs/\Q ps H') X.xe s
theorem QfU {X:Cx}{pos:Pos}:PPs X pos [] [] []:=fun pins s σ H Q I h=>pairTrees_nil_walk ⟨[],H,I,.nil,h⟩
theorem QaC {X:Cx}{pos:Pos}{k v:Expr}{ks:List (Option Expr)}{vs:List Expr}{tk tv:TE}{trs:List (TE × TE)}(hk:PE X k tk)(hv:PE X v tv)(hr:PPs X pos ks vs trs) :
  PPs X pos (some k :: ks) (v :: vs) ((tk,tv) :: trs):=fun pins s σ H Q I h=>
 pairTrees_cons_walk (thn (hk pins s σ H _ I h) fun u s1 ⟨x,H1,I1,rx,q1⟩=>thn (hv pins s1 σ H1 _ I1 q1) fun w2 s2 ⟨y,H2,I2,ry,q2⟩=>
  thn (hr pins s2 σ H2 _ I2 q2) fun ws s3 ⟨ps,H3,I3,rel,q3⟩=>⟨(x,y) :: ps,H3,I3,.cons ⟨rx,ry⟩ rel,q3⟩)
def QcZ (kvs more:List (Key × V)):List (Key × V):=more.foldl (fun acc kv=>Qda acc kv.1 kv.2) kvs
theorem KV.merge:∀ {more:List (Key × V)} {rs:List (Key × Value)} {kvs:List (Key × V)} {vs:List (Key × Value)},KV more rs->KV kvs vs->KV (QcZ kvs more) (merged vs rs):=by
 intro more rs kvs vs r
 unfold KV at r
 induction r generalizing kvs vs with
 |nil=>intro q;exact q
 | @cons p q ps qs h t ih=>
  intro r0
  have e:KV (Qda kvs p.1 p.2) (stored vs q.1 q.2):=by
   have:=r0.put p.1 h.2
   rw [← h.1];exact this
  exact ih e
theorem QcF:∀ (more kvs:List (Key × V)),(QcZ kvs more).length<=kvs.length+more.length
 | [],kvs=>by show kvs.length<=kvs.length+0;omega
 |p :: r,kvs=>by
  have h1:=QcF r (Qda kvs p.1 p.2)
  have h2:=Qci kvs p.1 p.2
  show (QcZ (Qda kvs p.1 p.2) r).length<=_
  rw [List.length_cons];omega
theorem Qea {P:Program}{w:World}:∀ {kvs:List (Key × V)} {ws:List (Value × Value)},VV (kvs.map fun kv=>(kV kv.1,kv.2)) ws->∃ rs,Carries (Qar P w) ws rs/\KV kvs rs
 | [],_,r=>by rw [List.map_nil] at r;cases r;exact ⟨[],True.intro,.nil⟩
 |p :: kvs,_,r=>by
  rw [List.map_cons] at r
  cases r with
  | @cons a b as bs h t=>
   obtain ⟨rs,c,q⟩:=Qea (P:=P) (w:=w) t
   obtain ⟨b1,b2⟩:=b
   exact ⟨(p.1,b2) :: rs,⟨QfD h.1,rfl,c⟩,.cons ⟨rfl,h.2⟩ q⟩
def QrA (trs:List (TE × TE)):TE:=fun σ H Q=>∀ p,H p=none->QgM trs σ (upd H p (.dK [])) fun ps H2=>H2 p=some (.dK [])/\∃ kvs:List (Key × V),ps=kvs.map (fun kv=>(kV kv.1,kv.2))/\kvs.length<=15/\Q (.ref p) (upd H2 p (.dK (QcZ [] kvs)))
theorem QmI {X:Cx}{pos:Pos}{keys:List (Option Expr)}{values:List Expr}{trs:List (TE × TE)}(h:PPs X pos keys values trs)(hall:keys.all (·.isSome)=true)(hl:keys.length=values.length)(h0:keys≠[])
  (h15:keys.length<=15):PE X (.Dict keys values pos) (QrA trs):=by
 intro pins s σ H Q I q
 have hn:=I.hok.fresh (Nat.le_refl s.heap.objs.size)
 have I1:=I.laid (a:=s.heap.objs.size) (o:=.dK []) (h':=s.heap.push { cls:=.type "dict",data:=.dict #[] }) (t':=s.toks) (fun _ _ q=>Heap.get?_push_of_some _ q) (Nat.le_refl _) (Qkr s.heap I.big)
 refine wpAny_Dict_walk (knd:=Qar X.prog X.w) hall hl h0 h15 (thn (h pins _ σ _ _ I1 (q _ hn)) fun ws s2 hz=>?_)
 obtain ⟨ps,H2,I2,rel,e,kvs,ep,lk,q2⟩:=hz
 subst ep
 obtain ⟨rs,c,rk⟩:=Qea (P:=X.prog) (w:=X.w) rel
 obtain ⟨z,hd,vs0,r0,dd⟩:=Qpl I2.hok e
 cases r0
 refine ⟨rs,c,dd,fun h' dd' hs=>⟨.ref s.heap.objs.size,_,?_,rfl,q2⟩⟩
 have hz:(QcZ [] kvs).length<=sizeLine:=by
  have h1:=QcF kvs []
  rw [List.length_nil] at h1
  rw [sizeLine_eq];omega
 have he:∃ q,h'.get? s.heap.objs.size=some q:=let ⟨q,_,_,hq,_⟩:=dd';⟨q,hq⟩
 exact QfS I2 (by rw [e];exact True.intro) hs he (Qlr hz hd (rk.merge .nil) dd')
structure M2 (X:Cx)(o:Expr)(m:Str)(apos:Pos)(e f:Expr)(cpos:Pos):Prop where
 base:attributeBase o m X.env (eval o X.env)=eval o X.env
 few:((backTo cpos (starEach [e,f] X.env)).all (fun x=>!x.1) && (backToKw cpos (keywordEach [] X.env)).all (fun x=>x.1.isSome)
  && decide (([e,f]:List Expr).length+([]:List Keyword).length+(if ([]:List Keyword).isEmpty then 0 else 1)<30))=true
 line:(apos.endLine == cpos.line)=true
 trees:backTo cpos (starEach [e,f] X.env)=[(false,eval e X.env),(false,eval f X.env)]
def IsD (H:Hp)(a:Addr):Prop:=(∃ kvs,Rd H a (.dK kvs))\/∃ kvs,Rd H a (.dT kvs)
theorem QqU {X:Cx}{pins:List (Addr × Obj)}{σ:St}{H:Hp}{s:Shared}{a:Addr}(I:Inv X pins σ H s)(d:IsD H a) :
  s.TypeIs (.ref a) "dict" /\ (∀ b,Value.ref a=.ref b->∃ ob,s.heap.get? b=some ob/\ob.dict=none)/\(a == sysModules)=false:=by
 rcases d with ⟨kvs,e⟩ | ⟨kvs,e⟩
 ·obtain ⟨_,hd,vs,_,dd⟩:=Qhg I.hok e
  refine ⟨dd.typeIs,fun b q=>?_,hd⟩
  cases q
  obtain ⟨ob,_,_,h1,h2,_⟩:=dd
  exact ⟨ob,h1,h2.2.1⟩
 ·obtain ⟨_,hd,xs,_,dd⟩:=QhE I.hok e
  refine ⟨dd.typeIs,fun b q=>?_,hd⟩
  cases q
  obtain ⟨ob,_,_,h1,h2,_⟩:=dd
  exact ⟨ob,h1,h2.2.1⟩
section
variable {X:Cx}{pins:List (Addr × Obj)}{σ:St}{H:Hp}{s:Shared}{a:Addr}{y d:V}{u r:Value}{o:Option V}{A:Around}{E:Value->Shared->Prop}
theorem Qqq {Q:Value->Shared->Prop}(hu:A.units+1<cLine)(I:Inv X pins σ H s)(g:DGet H a y o)(ry:RelV y u)(rd:RelV d r)(h:∀ w' s',Inv X pins σ H s'->RelV (o.getD d) w'->Q w' s') :
  wpAny (model X.prog X.w) A (call (.builtin "dict.get") [.ref a,u,r]) Q E s:=by
 rcases g with ⟨kvs,k,e,ey,l⟩ | ⟨kvs,k,b,e,ey,eb,l⟩
 ·subst ey
  obtain ⟨z,hd,vs,rel,dd⟩:=Qhg I.hok e
  refine call_meetsIn PySem.F.slot_dict_get dd.typeIs PySem.F.entry_dict_get (PySem.F.args_dict_get_3 _ _ _) (meets_dict_get_default (Qar X.prog X.w) a (QfD ry) hd r) ⟨_,dd.mapOf,h _ _ (I.tok _) ?_⟩
  rw [l]
  exact (rel.val k).getD rd
 ·subst ey
  cases (show u=Value.ref b from ry)
  obtain ⟨z,hd,xs,rel,dd⟩:=QhE I.hok e
  refine call_meetsIn PySem.F.slot_dict_get dd.typeIs PySem.F.entry_dict_get (PySem.F.args_dict_get_3 _ _ _) (meetsH_dict_get_default (tupleKind (Qar X.prog X.w)) a b hd r) ⟨tupleKind_room_in1 hu,k,xs,Qfl I.hok eb,dd,h _ _ (I.tok _) ?_⟩
  rw [l]
  exact (rel.val k).getD rd
end
def Qpy (td ty tx:TE):TE:=fun σ H Q=>td σ H fun x H1=>∃ a,x=.ref a/\IsD H1 a/\ty σ H1 fun y H2=>tx σ H2 fun z H3=>∃ o,DGet H3 a y o/\Q (o.getD z) H3
section
variable {X:Cx}{o e f:Expr}{apos cpos:Pos}{td ty tx:TE}
theorem Qkm (hu:X.A.units+1<cLine)(ho:PE X o td)(he:PE X e ty)(hf:PE X f tx)(m:M2 X o "get" apos e f cpos):PE X (.Call (.Attribute o "get" apos) [e,f] [] cpos) (Qpy td ty tx):=by
 intro pins s σ H Q I h
 refine wpAny_Call_method m.base m.few m.line PySem.F.plainAttrs_dict PySem.F.slot_dict_get PySem.F.type_dict_get (thn (ho pins s σ H _ I h) fun u s1 hz=>?_)
 obtain ⟨x,H1,I1,rx,a,ex,d,q1⟩:=hz
 subst ex
 obtain rfl:u=Value.ref a:=rx
 obtain ⟨t1,t2,_⟩:=QqU I1 d
 refine ⟨t1,t2,?_⟩
 rw [m.trees]
 refine Calls.callWith_builtin rfl (Calls.evalArgs_plain (Calls.spliced_cons (thn (he pins s1 σ H1 _ I1 q1) fun iv s2 hz=>?_)))
 obtain ⟨y,H2,I2,ry,q2⟩:=hz
 refine Calls.spliced_cons (thn (hf pins s2 σ H2 _ I2 q2) fun fv s3 hz=>?_)
 obtain ⟨z,H3,I3,rz,ov,g,q3⟩:=hz
 refine Calls.spliced_nil ?_
 exact Qqq hu I3 g ry rz fun w' s4 I4 rw'=>⟨_,H3,I4,rw',q3⟩
end
end L2
namespace HT
open PySem PyProof.Rows
section
open PySem.SeqAt
open PySem.AutoSeq1 (wpAny_loadPart')
open PySem.MeetsSeq PySem.MeetsSeq2 PySem.MeetsSeq3
end
section
def sIx (n d:Nat):Option Int->Nat
 |none=>d
 |some v=>if v<0 then (v+(n:Int)).toNat else min v.toNat n
theorem sIx_none (n d:Nat):sIx n d none=d:=rfl
theorem sIx_nat (n d k:Nat):sIx n d (some (k:Int))=min k n:=by
 show (if (k:Int)<0 then ((k:Int)+(n:Int)).toNat else min (k:Int).toNat n)=min k n
 rw [if_neg (by omega),Int.toNat_natCast]
end
end HT
namespace L2
open PySem PySem.Spec PyProof.Rows
abbrev TO:=St->Hp->(Option Int->Hp->Prop)->Prop
def PO (X:Cx)(e:Option Expr)(t:TO):Prop:=
 ∀ (pins:List (Addr × Obj)) (s:Shared) (σ:St) (H:Hp) (Q:Option Int->Hp->Prop),Inv X pins σ H s->t σ H Q->
  wpAny (model X.prog X.w) X.A (evalPart e X.env) (fun u s'=>∃ o H',Inv X pins σ H' s'/\IsPart u o/\Q o H') X.xe s
def QmP:TO:=fun _ H Q=>Q none H
def QrQ (t:TE):TO:=fun σ H Q=>t σ H fun x H1=>∃ i,x=.int i/\Q (some i) H1
section
variable {X:Cx}{e:Expr}{te:TE}{lo hi:Option Expr}{tl th:TO}{pos p2:Pos}
theorem Qmh:PO X none QmP:=by
 intro pins s σ H Q I h
 rw [evalPart_none]
 exact wpAny_pure ⟨none,H,I,.none,h⟩
theorem Qmr (h:PE X e te):PO X (some e) (QrQ te):=by
 intro pins s σ H Q I hw
 rw [evalPart_some]
 refine thn (h pins s σ H _ I hw) fun u s1 hz=>?_
 obtain ⟨x,H1,I1,r1,q1⟩:=hz
 obtain ⟨i,rfl,q⟩:=q1
 obtain ⟨t,rfl⟩:=r1
 exact ⟨some i,H1,I1,.int i t,q⟩
def SlR (X:Cx)(r:V->Option Int->Option Int->Hp->VK->Prop):Prop:=
 ∀ (pins:List (Addr × Obj)) (s:Shared) (σ:St) (H:Hp) (x:V) (v vl vu:Value) (lo hi:Option Int) (sl:Addr) (Q:VK),Inv X pins σ H s->RelV x v->s.heap.IsSliceOf sl vl vu .none->IsPart vl lo->IsPart vu hi->r x lo hi H Q->
  ∃ T id,typeLookup (.type T) "__getitem__" = pure (some (.builtin id))/\s.TypeIs v T/\wpAny (model X.prog X.w) X.A (getItem v (.ref sl)) (EP X pins σ Q) X.xe s
def tSl (r:V->Option Int->Option Int->Hp->VK->Prop)(te:TE)(tl th:TO):TE:=fun σ H Q=>te σ H fun x H1=>tl σ H1 fun l H2=>th σ H2 fun u H3=>r x l u H3 Q
theorem QgY {r:V->Option Int->Option Int->Hp->VK->Prop}(hr:SlR X r)(he:PE X e te)(hl:PO X lo tl)(hu:PO X hi th):PE X (.Subscript e (.Slice lo hi none p2) pos) (tSl r te tl th):=by
 intro pins s σ H Q I h
 refine Subscript_ (thn (he pins s σ H _ I h) fun v s1 hz=>?_)
 obtain ⟨x,H1,I1,r1,q1⟩:=hz
 refine wpAny_Slice (thn (hl pins s1 σ H1 _ I1 q1) fun vl s2 hz=>?_)
 obtain ⟨l,H2,I2,pl,q2⟩:=hz
 refine thn (hu pins s2 σ H2 _ I2 q2) fun vu s3 hz=>?_
 obtain ⟨u,H3,I3,pu,q3⟩:=hz
 rw [evalPart_none]
 refine wpAny_pure ?_
 have I4:Inv X pins σ H3 { s3 with heap:=s3.heap.push { cls:=.type "slice",data:=.fields #[vl,vu,.none] } }:=I3.kept (t':=s3.toks) fun b ob q=>Heap.get?_push_of_some _ q
 obtain ⟨T,id,hT,ht,hg⟩:=hr pins { s3 with heap:=s3.heap.push { cls:=.type "slice",data:=.fields #[vl,vu,.none] } } σ H3 x v vl vu l u s3.heap.objs.size Q I4 r1 (Heap.IsSliceOf.new ..) pl pu q3
 show wpAny (model X.prog X.w) X.A (subscriptTail e (.Slice lo hi none p2) v (.ref s3.heap.objs.size)) (EP X pins σ Q) X.xe { s3 with heap:=s3.heap.push { cls:=.type "slice",data:=.fields #[vl,vu,.none] } }
 exact tail_any (ops:=[.ref s3.heap.objs.size,v]) ht hT hg (by with_unfolding_all rfl)
def Qmz (xs:List V)(lo hi:Option Int):List V:=(xs.drop (HT.sIx xs.length 0 lo)).take (HT.sIx xs.length xs.length hi - HT.sIx xs.length 0 lo)
theorem Qgn (xs:List V)(lo hi:Option Int):(Qmz xs lo hi).length<=xs.length:=by
 unfold Qmz
 rw [List.length_take,List.length_drop]
 omega
end
noncomputable def ixN (n:Nat)(i:Int):Option Nat:=if 0<=i then (if i<n then some i.toNat else none) else if -(n:Int)<=i then some (i+n).toNat else none
noncomputable def atI {α:Type}(xs:List α)(i:Int):Option α:=(ixN xs.length i).bind fun j=>xs[j]?
theorem QmM {n:Nat}{i:Int}{j:Nat}(h:ixN n i=some j):seqIndex? i n=some j/\j<n/\-(n:Int)<=i/\i<n:=by
 unfold ixN at h
 by_cases h0:0<=i
 ·rw [if_pos h0] at h
  by_cases h1:i<n
  ·rw [if_pos h1] at h
   have e:i.toNat=j:=Option.some.inj h
   exact ⟨by rw [seqIndex_of h0 h1,e],by omega,by omega,h1⟩
  ·rw [if_neg h1] at h;cases h
 ·rw [if_neg h0] at h
  by_cases h1 : -(n:Int)<=i
  ·rw [if_pos h1] at h
   have e:(i+n).toNat=j:=Option.some.inj h
   exact ⟨by rw [seqIndex_neg (by omega) h1,e],by omega,h1,by omega⟩
  ·rw [if_neg h1] at h;cases h
theorem Qf5 {α:Type}{xs:List α}{i:Int}{v:α}(h:atI xs i=some v):∃ j,seqIndex? i xs.length=some j/\xs[j]? = some v/\j<xs.length/\-(xs.length:Int)<=i/\i<xs.length:=by
 unfold atI at h
 cases e:ixN xs.length i with
 |none=>rw [e] at h;cases h
 |some j=>
  rw [e] at h
  obtain ⟨h1,h2,h3,h4⟩:=QmM e
  exact ⟨j,h1,h,h2,h3,h4⟩
def Qf9 (b:Expr):Prop:=∀ o i,subscripted b false o i=operate [o,i] (getItem o i)
def IxR (X:Cx)(r:R2):Prop:=
 ∀ (value slice:Expr) (pins:List (Addr × Obj)) (s:Shared) (σ:St) (H:Hp) (x y:V) (v u:Value) (Q:VK),Inv X pins σ H s->RelV x v->RelV y u->r x y H Q->
  subscripted slice false v u=operate [v,u] (getItem v u)->wpAny (model X.prog X.w) X.A (subscriptTail value slice v u) (EP X pins σ Q) X.xe s
def MtR (X:Cx)(id:String)(r:V->List V->Hp->VK->Prop):Prop:=
 ∀ (pins:List (Addr × Obj)) (s:Shared) (σ:St) (H:Hp) (x:V) (xs:List V) (v:Value) (us:List Value) (Q:VK),Inv X pins σ H s->RelV x v->Vals xs us->r x xs H Q->
  wpAny (model X.prog X.w) X.A (call (.builtin id) (v :: us)) (EP X pins σ Q) X.xe s
section
variable {X:Cx}{a b:Expr}{ta tb:TE}{pos:Pos}
theorem IxR.or {r r':R2}(h:IxR X r)(h':IxR X r'):IxR X (fun x y H Q=>r x y H Q\/r' x y H Q):=by
 intro value slice pins s σ H x y v u Q I rx ry q hs
 rcases q with q | q
 ·exact h value slice pins s σ H x y v u Q I rx ry q hs
 ·exact h' value slice pins s σ H x y v u Q I rx ry q hs
theorem Qpf {r:R2}(hr:IxR X r)(ha:PE X a ta)(hb:PE X b tb)(hs:Qf9 b):PE X (.Subscript a b pos) (tOp r ta tb):=by
 intro pins s σ H Q I h
 exact Subscript_ (Qrr ha hb I h fun v u s2 x y H2 I2 rx ry q=>hr a b pins s2 σ H2 x y v u Q I2 rx ry q (hs _ _))
def Qta (K:PySem.W.Frag):R2:=fun x y H Q=>∃ p xs i v,x=.ref p/\y=.int i/\SqL K H p xs/\atI xs i=some v/\Q v H
def Qs9 (K:PySem.W.Frag):R2:=fun x y H Q=>∃ p xs i v,x=.ref p/\y=.int i/\SqT K H p xs/\atI xs i=some v/\Q v H
def QsA:R2:=fun x y H Q=>∃ z i c,x=.str z/\y=.int i/\z.length<=sizeLine/\atI z.cps.toList i=some c/\Q (.str ⟨#[c]⟩) H
theorem ix_list:IxR X (Qta X.K):=by
 intro value slice pins s σ H x y v u Q I rx ry h hs
 obtain ⟨p,xs,i,z,rfl,rfl,hq,he,q⟩:=h
 cases rx
 obtain ⟨t,rfl⟩:=ry
 obtain ⟨its,r,pl,hz⟩:=I.list hq
 obtain ⟨j,h1,h2,h3,h4,h5⟩:=Qf5 he
 obtain ⟨w,ew,rw'⟩:=r.get h2
 have hl:=r.length
 have hn:=Qe9
 have fin:EP X pins σ Q w s:=⟨z,H,I,rw',q⟩
 by_cases h0:0<=i
 ·have hj:i.toNat=j:=by
   rw [seqIndex_of h0 h5] at h1
   exact Option.some.inj h1
  exact item_listR pl.isList h0 (by omega) (by rw [hj];simpa using ew) fin hs
 ·have hj:(i+(its.toArray.size:Int)).toNat=j:=by
   rw [seqIndex_neg (by omega) h4] at h1
   rw [List.size_toArray,← hl]
   exact Option.some.inj h1
  exact subscriptTail_builtinR (x:=w) pl.isList.typeIs slot_list_getitem.lookup
   (wpAny_getItem_list_neg (Q:=fun r s'=>r=w/\EP X pins σ Q r s') pl.isList (by omega) (by rw [List.size_toArray]<;>omega) (by omega) (by rw [hj];simpa using ew) ⟨rfl,fin⟩) hs
theorem ix_tup:IxR X (Qs9 X.K):=by
 intro value slice pins s σ H x y v u Q I rx ry h hs
 obtain ⟨p,xs,i,z,rfl,rfl,hq,he,q⟩:=h
 cases rx
 obtain ⟨t,rfl⟩:=ry
 obtain ⟨its,r,pl,hz⟩:=I.tuple hq
 obtain ⟨j,h1,h2,h3,h4,h5⟩:=Qf5 he
 obtain ⟨w,ew,rw'⟩:=r.get h2
 have hl:=r.length
 have hn:=Qe9
 have fin:EP X pins σ Q w s:=⟨z,H,I,rw',q⟩
 exact subscriptTail_builtinR (x:=w) pl.typeIs slot_tuple_getitem.lookup
  (getItem_tuple (j:=j) (Q:=fun r s'=>r=w/\EP X pins σ Q r s') pl (by omega) (by omega) (by rw [List.size_toArray,← hl];exact h1) (by simpa using ew) ⟨rfl,fin⟩) hs
theorem Qdl:IxR X QsA:=by
 intro value slice pins s σ H x y v u Q I rx ry h hs
 obtain ⟨z,i,c,rfl,rfl,hz,he,q⟩:=h
 obtain ⟨t,rfl⟩:=rx
 obtain ⟨t',rfl⟩:=ry
 obtain ⟨j,h1,h2,h3,h4,h5⟩:=Qf5 he
 have hl:z.cps.toList.length=z.length:=by simp [Str.length]
 rw [hl] at h1 h4 h5
 have hn:=Qe9
 exact tail_any (typeIs_str s z t) slot_str_getitem.lookup (getItem_str (c:=c) (by
  have e1:decide (i < -(2 ^ 63:Int))=false:=decide_eq_false (by omega)
  have e2:decide (i ≥ 2 ^ 63)=false:=decide_eq_false (by omega)
  rw [e1,e2,Bool.or_false]) (by rw [h1];simpa using h2) ⟨.str ⟨#[c]⟩,H,I.tok _,⟨_,rfl⟩,q⟩) hs
def rIx (K:PySem.W.Frag):R2:=fun x y H Q=>Qta K x y H Q\/Qs9 K x y H Q\/QsA x y H Q
theorem QpC:IxR X (rIx X.K):=ix_list.or (ix_tup.or Qdl)
theorem QeZ (lo hi:Option Int)(n:Nat):(sliceBounds lo hi none n).1=((HT.sIx n 0 lo:Nat):Int)/\(sliceBounds lo hi none n).2.1=((HT.sIx n n hi:Nat):Int)/\(sliceBounds lo hi none n).2.2=1:=by
 refine ⟨?_,?_,rfl⟩
 ·cases lo with
  |none=>simp [sliceBounds,HT.sIx]
  |some i=>
   simp only [sliceBounds,HT.sIx,Option.getD_none,show (1:Int) > 0 by decide,if_true]
   by_cases h:i<0
   ·simp only [h,if_true]<;>omega
   ·simp only [h,if_false]<;>omega
 ·cases hi with
  |none=>simp [sliceBounds,HT.sIx]
  |some i=>
   simp only [sliceBounds,HT.sIx,Option.getD_none,show (1:Int) > 0 by decide,if_true]
   by_cases h:i<0
   ·simp only [h,if_true]<;>omega
   ·simp only [h,if_false]<;>omega
theorem QeI (its:List Value)(lo hi:Option Int):slicePick its.toArray lo hi none=((its.drop (HT.sIx its.length 0 lo)).take (HT.sIx its.length its.length hi - HT.sIx its.length 0 lo)).toArray:=by
 obtain ⟨h1,h2,h3⟩:=QeZ lo hi its.toArray.size
 unfold slicePick
 rw [h1,h2,h3]
 simp only [sliceRange_one,pick_run,List.size_toArray]<;>rfl
def QtM (K:PySem.W.Frag):V->Option Int->Option Int->Hp->VK->Prop:=fun x lo hi H Q=>∃ a xs,x=.ref a/\SqL K H a xs/\∀ p,H p=none->Q (.ref p) (upd H p (.lst (Qmz xs lo hi)))
theorem QlW:SlR X (QtM X.K):=by
 intro pins s σ H x v vl vu lo hi sl Q I rx hs pl pu h
 obtain ⟨a,xs,rfl,hx,q⟩:=h
 cases rx
 obtain ⟨its,r,ht,hz⟩:=I.list hx
 have hlen:=r.length
 refine ⟨"list",_,slot_list_getitem.lookup,ht.isList.typeIs,?_⟩
 refine wpAny_getItem_list_slice ht.isList hs pl pu .none (by simp) ?_ (by rw [List.size_toArray]<;>omega)
 rw [QeI,← hlen]
 refine ⟨.ref s.heap.objs.size,_,I.laid (t':=s.toks) (o:=.lst (Qmz xs lo hi)) (fun b ob q=>Heap.get?_push_of_some _ q) (Nat.le_refl _) ?_,rfl,q _ (I.hok.fresh (Nat.le_refl _))⟩
 exact ⟨Nat.le_trans (Qgn xs lo hi) hz,_,0,(r.drop (HT.sIx xs.length 0 lo)).take (HT.sIx xs.length xs.length hi - HT.sIx xs.length 0 lo),Heap.get?_push_size _ rfl⟩
def Qcj:V->Bool
 |.non=>true
 |.bl _=>true
 |.int _=>true
 |.str _=>true
 |_=>false
def eqV:V->V->Bool
 |.non,.non=>true
 |.bl a,.bl b=>a == b
 |.bl a,.int b=>(if a then 1 else 0) == b
 |.int a,.bl b=>a == (if b then 1 else 0)
 |.int a,.int b=>a == b
 |.str a,.str b=>a == b
 |_,_=>false
theorem Qly {A:Around}{s:Shared}{y x:V}{u v:Value}(ry:RelV y u)(rx:RelV x v)(fy:Qcj y=true)(fx:Qcj x=true):SeqAt.EqAt A s u v (eqV y x):=by
 cases y with
 |non=>
  cases ry
  cases x with
  |non=>cases rx;exact SeqAt.EqAt.same _
  |bl b=>cases rx;exact SeqAt.EqAt.none_bool b
  |int b=>obtain ⟨t,rfl⟩:=rx;exact SeqAt.EqAt.none_int b t
  |str b=>obtain ⟨t,rfl⟩:=rx;exact SeqAt.EqAt.none_str b t
  |_=>exact absurd (show false=true from fx) Bool.false_ne_true
 |bl a=>
  cases ry
  cases x with
  |non=>cases rx;exact SeqAt.EqAt.bool_none a
  |bl b=>cases rx;exact SeqAt.EqAt.bool_bool a b
  |int b=>obtain ⟨t,rfl⟩:=rx;exact SeqAt.EqAt.bool_int a b t
  |str b=>obtain ⟨t,rfl⟩:=rx;exact SeqAt.EqAt.bool_str a b t
  |_=>exact absurd (show false=true from fx) Bool.false_ne_true
 |int a=>
  obtain ⟨t',rfl⟩:=ry
  cases x with
  |non=>cases rx;exact SeqAt.EqAt.int_none a t'
  |bl b=>cases rx;exact SeqAt.EqAt.int_bool a t' b
  |int b=>obtain ⟨t,rfl⟩:=rx;exact SeqAt.EqAt.int_int a t' b t
  |str b=>obtain ⟨t,rfl⟩:=rx;exact SeqAt.EqAt.int_str a t' b t
  |_=>exact absurd (show false=true from fx) Bool.false_ne_true
 |str a=>
  obtain ⟨t',rfl⟩:=ry
  cases x with
  |non=>cases rx;exact SeqAt.EqAt.str_none a t'
  |bl b=>cases rx;exact SeqAt.EqAt.str_bool a t' b
  |int b=>obtain ⟨t,rfl⟩:=rx;exact SeqAt.EqAt.str_int a t' b t
  |str b=>obtain ⟨t,rfl⟩:=rx;exact SeqAt.EqAt.str_str a t' b t
  |_=>exact absurd (show false=true from fx) Bool.false_ne_true
 |_=>exact absurd (show false=true from fy) Bool.false_ne_true
def eqU (x:V)(u:Value):Bool:=match u with
 |.none=>eqV .non x
 |.bool b=>eqV (.bl b) x
 |.int i _=>eqV (.int i) x
 |.str z _=>eqV (.str z) x
 |_=>false
theorem Qi6 {x y:V}{u:Value}(r:RelV y u)(f:Qcj y=true):eqU x u=eqV y x:=by
 cases y with
 |non=>cases r;rfl
 |bl b=>cases r;rfl
 |int i=>obtain ⟨t,rfl⟩:=r;rfl
 |str z=>obtain ⟨t,rfl⟩:=r;rfl
 |_=>exact absurd (show false=true from f) Bool.false_ne_true
theorem QfT {x:V}:∀ {xs:List V} {us:List Value},Vals xs us->xs.all Qcj=true->us.any (eqU x)=xs.any fun y=>eqV y x
 |_,_,.nil,_=>rfl
 |y :: xs,u :: us,.cons r t,f=>by
  rw [List.all_cons,Bool.and_eq_true] at f
  rw [List.any_cons,List.any_cons,Qi6 r f.1,QfT t f.2]
theorem Qdh {A:Around}{s:Shared}{x:V}{v:Value}(rx:RelV x v)(fx:Qcj x=true):∀ {xs:List V} {us:List Value},Vals xs us->xs.all Qcj=true->∀ u∈us,SeqAt.EqAt A s u v (eqU x u)
 |_,_,.nil,_=>fun u hu=>by cases hu
 |y :: xs,u :: us,.cons r t,f=>fun u' hu=>by
  rw [List.all_cons,Bool.and_eq_true] at f
  rcases List.mem_cons.mp hu with rfl | hu
  ·rw [Qi6 r f.1];exact Qly r rx f.1 fx
  ·exact Qdh rx fx t f.2 u' hu
def inV (x:V)(xs:List V):Bool:=xs.any fun y=>eqV y x
def rIn (K:PySem.W.Frag)(neg:Bool):R2:=fun x y H Q=>∃ p xs,y=.ref p/\(SqL K H p xs\/SqT K H p xs)/\Qcj x=true/\xs.all Qcj=true/\Q (.bl (if neg then !inV x xs else inV x xs)) H
theorem QeT:OpR X (compareOp .NotIn) (rIn X.K true):=by
 intro pins s σ H x y v u Q I rx ry h
 obtain ⟨p,xs,rfl,hq,fx,fs,q⟩:=h
 cases ry
 rcases hq with hq | hq
 ·obtain ⟨its,r,pl,hz⟩:=I.list hq
  refine SeqAt.notIn_listAt (eqU x) pl.isList (fun w hw=>Qdh rx fx r fs w (by simpa using hw)) ⟨.bl _,H,I,rfl,?_⟩
  rw [show its.toArray.any (eqU x)=its.any (eqU x) by simp,QfT r fs]
  exact q
 ·obtain ⟨its,r,pl,hz⟩:=I.tuple hq
  refine SeqAt.notIn_tupleAt (eqU x) pl (fun w hw=>Qdh rx fx r fs w (by simpa using hw)) ⟨.bl _,H,I,rfl,?_⟩
  rw [show its.toArray.any (eqU x)=its.any (eqU x) by simp,QfT r fs]
  exact q
theorem QfA:Qbo X (.builtin "len") (fun xs H Q=>∃ p ys,xs=[.ref p]/\(SqL X.K H p ys\/SqT X.K H p ys)/\Q (.int ys.length) H):=by
 intro pins s σ H xs us Q I r h
 obtain ⟨p,ys,rfl,hq,q⟩:=h
 obtain ⟨u,rfl,rx⟩:=Qcc r
 cases rx
 have hn:=Qe9
 rcases hq with hq | hq
 ·obtain ⟨its,r',pl,hz⟩:=I.list hq
  have hlen:=r'.length
  exact Calls.call_len_list pl.isList (by simp only [List.size_toArray]<;>omega) ⟨.int ys.length,H,I.tok _,⟨s.toks+1,by rw [List.size_toArray,hlen]⟩,q⟩
 ·obtain ⟨its,r',pl,hz⟩:=I.tuple hq
  have hlen:=r'.length
  exact len_tuple pl (by simp only [List.size_toArray]<;>omega) ⟨.int ys.length,H,I.tok _,⟨s.toks+1,by rw [List.size_toArray,hlen]⟩,q⟩
theorem QeC:Qbo X (.type "tuple") (fun xs H Q=>∃ p ys,xs=[.ref p]/\((SqL X.K H p ys/\∀ l,H l=none->Q (.ref l) (upd H l (.tup ys)))\/(SqT X.K H p ys/\Q (.ref p) H))):=by
 intro pins s σ H xs us Q I r h
 obtain ⟨p,ys,rfl,h⟩:=h
 obtain ⟨u,rfl,rx⟩:=Qcc r
 cases rx
 rcases h with ⟨hq,q⟩ | ⟨hq,q⟩
 ·obtain ⟨its,r',pl,hz⟩:=I.list hq
  have hlen:=r'.length
  refine call_tuple_list pl.isList (fun h' kp=>?_) (by simp only [List.size_toArray]<;>omega)
  have I1:Inv X pins σ H { s with heap:=h' }:=I.kept (t':=s.toks) kp
  have I2:Inv X pins σ (upd H h'.objs.size (.tup ys)) { s with heap:=h'.push { cls:=.type "tuple",data:=.seq its.toArray } }:=
   I1.laid (t':=s.toks) (fun b o e=>Heap.get?_push_of_some _ e) (Nat.le_refl _) (show ObjOk X.prog X.w _ _ _ (.tup ys) from ⟨hz,its,r',IsTup.new _ _⟩)
  exact ⟨.ref h'.objs.size,_,I2,rfl,q _ (I1.hok.fresh (Nat.le_refl _))⟩
 ·obtain ⟨its,r',pl,hz⟩:=I.tuple hq
  exact call_tuple_same pl ⟨.ref p,H,I,rfl,q⟩
def tyV (K:PySem.W.Frag)(T:String)(x:V)(H:Hp):Prop:=match x with
 |.str _=>T = "str"
 |.int _=>T = "int"
 |.ref p=>(T = "list" /\ ∃ xs,SqL K H p xs)\/(T = "tuple" /\ ∃ o,K.lookup p=some o/\o.cls=.type "tuple" /\ o.dict=none)\/
   (T = "dict" /\ ((∃ kvs,H p=some (.dK kvs))\/∃ kvs,H p=some (.dT kvs)))\/(T = "set" /\ ∃ S n,H p=some (.set S n))
 |_=>False
theorem QjJ {pins:List (Addr × Obj)}{σ:St}{H:Hp}{s:Shared}{T:String}{x:V}{v:Value}(I:Inv X pins σ H s)(r:RelV x v)(ty:tyV X.K T x H) :
  s.TypeIs v T/\∀ a,v=.ref a->∃ ob,s.heap.get? a=some ob/\ob.dict=none:=by
 cases x with
 |str z=>
  obtain ⟨t,rfl⟩:=r
  cases (show T = "str" from ty)
  exact ⟨typeIs_str s z t,fun _ e=>nomatch e⟩
 |int i=>
  obtain ⟨t,rfl⟩:=r
  cases (show T = "int" from ty)
  exact ⟨typeIs_int s i t,fun _ e=>nomatch e⟩
 |ref p=>
  cases r
  rcases ty with ⟨rfl,xs,hq⟩ | ⟨rfl,o,hk,hc,hd⟩ | ⟨rfl,hk⟩ | ⟨rfl,S,n,hk⟩
  ·obtain ⟨its,_,pl,_⟩:=I.list hq
   refine ⟨pl.isList.typeIs,fun a e=>?_⟩
   cases e
   obtain ⟨o,n,e,c,hd,_⟩:=pl
   exact ⟨o,e,hd⟩
  ·refine ⟨⟨o,I.kIn p o hk,hc⟩,fun a e=>?_⟩
   cases e
   exact ⟨o,I.kIn _ o hk,hd⟩
  ·have z:∃ o,s.heap.get? p=some o/\o.ExactDict:=by
    rcases hk with ⟨kvs,hk⟩ | ⟨kvs,hk⟩
    ·obtain ⟨_,_,_,_,o,_,_,e,ex,_⟩:=I.hok p _ hk
     exact ⟨o,e,ex⟩
    ·obtain ⟨_,_,_,_,o,_,_,e,ex,_⟩:=I.hok p _ hk
     exact ⟨o,e,ex⟩
   obtain ⟨o,e,ex⟩:=z
   refine ⟨⟨o,e,ex.1⟩,fun a e2=>?_⟩
   cases e2
   exact ⟨o,e,ex.2.1⟩
  ·obtain ⟨o,_,_,_,e,ex,_⟩:=I.hok p _ hk
   refine ⟨⟨o,e,ex.1⟩,fun a e2=>?_⟩
   cases e2
   exact ⟨o,e,ex.2.1⟩
 |_=>exact False.elim ty
def tBM (K:PySem.W.Frag)(T:String)(r:V->List V->Hp->VK->Prop)(to:TE)(t:TA):TE:=fun σ H Q=>to σ H fun x H1=>tyV K T x H1/\t σ H1 fun xs H2=>r x xs H2 Q
variable {o e:Expr}{es:List Expr}{to:TE}{t:TA}{name:Str}{apos cpos:Pos}{T id:String}{r:V->List V->Hp->VK->Prop}
theorem Qjy (pa:PlainAttrs T)(slot:Slot T name id)(hty:typeOf (.builtin id)=pure (.type "method_descriptor"))(hm:MtR X id r)(ho:PE X o to)(ha:PA X (e :: es) t)
  (hbase:attributeBase o name X.env (eval o X.env)=eval o X.env:=by rfl)
  (hfew:((backTo cpos (starEach (e :: es) X.env)).all (fun x=>!x.1) && (backToKw cpos (keywordEach [] X.env)).all (fun x=>x.1.isSome)
   && decide ((e :: es).length+([]:List Keyword).length+(if ([]:List Keyword).isEmpty then 0 else 1)<30))=true:=by rfl)
  (hline:(apos.endLine == cpos.line)=true:=by rfl) (hs:starEach (e :: es) X.env=(false,eval e X.env) :: starEach es X.env:=by rfl) (hplain:(backTo cpos (starEach es X.env)).any (·.1)=false:=by rfl) :
  PE X (.Call (.Attribute o name apos) (e :: es) [] cpos) (tBM X.K T r to t):=by
 intro pins s σ H Q I h
 refine wpAny_Call_method_late hbase hfew hline rfl (thn (ho pins s σ H _ I h) fun v s1 hz=>?_)
 obtain ⟨x,H1,I1,r1,ty,q1⟩:=hz
 obtain ⟨h1,h2⟩:=QjJ I1 r1 ty
 refine ⟨T,id,pa,slot,hty,h1,h2,?_⟩
 have hA:=ha cpos pins s1 σ H1 _ I1 q1
 rw [hs] at hA ⊢
 refine Calls.callWith_builtin (by show (false || (backTo cpos (starEach es X.env)).any (·.1))=false;rw [hplain]<;>rfl) (Calls.evalArgs_plain ?_)
 exact thn hA fun us s2 ⟨vs,H2,I2,r2,q2⟩=>hm pins s2 σ H2 x vs v us Q I2 r1 r2 q2
end
def MtM (X:Cx)(id:String)(r:V->List V->Hp->VK->Prop):Prop:=
 ∀ (pins:List (Addr × Obj)) (s:Shared) (σ:St) (H:Hp) (x:V) (xs:List V) (v:Value) (us:List Value) (Q:VK),Inv X pins σ H s->RelV x v->Vals xs us->r x xs H Q->
  wpAny (model X.prog X.w) X.A (call (.builtin id) (v :: us)) (EP X pins σ Q) X.xe s
theorem Vals.one {x:V}{us:List Value}(h:Vals [x] us):∃ u,us=[u]/\RelV x u:=by
 cases h with
 |cons r t=>cases t;exact ⟨_,rfl,r⟩
theorem Vals.two {x y:V}{us:List Value}(h:Vals [x,y] us):∃ u v,us=[u,v]/\RelV x u/\RelV y v:=by
 cases h with
 |cons r t=>obtain ⟨u,rfl,q⟩:=Vals.one t;exact ⟨_,_,rfl,r,q⟩
section
variable {X:Cx}{pins:List (Addr × Obj)}{σ:St}{H:Hp}{s:Shared}{l:Addr}{xs ys:List V}
theorem Inv.lset {its its':List Value}{n:Nat}{f:Array Value->Array Value}{t':Nat}(I:Inv X pins σ H s)(hH:H l=some (.lst xs))
  (e:s.heap.get? l=some { cls:=.type "list",data:=.seq its.toArray n }) (hf:f its.toArray=its'.toArray) (hv:Vals ys its') (hz:ys.length<=sizeLine) :
  Inv X pins σ (upd H l (.lst ys)) { s with heap:=s.heap.update l (Obj.mapSeq f),toks:=t' }:=by
 have q:=PySem.IsL.update e f
 rw [hf] at q
 refine I.write (x:=l) (e:=l) (by rw [hH];exact trivial) (.inl rfl) (fun b' u hb hu=>(Heap.get?_update_other s.heap (Obj.mapSeq f) (Ne.symm hb)).trans hu) ⟨_,q⟩ ?_
 exact ⟨hz,its',_,hv,q⟩
theorem Inv.lnew {its:List Value}{t':Nat}(I:Inv X pins σ H s)(hv:Vals ys its)(hz:ys.length<=sizeLine) :
  Inv X pins σ (upd H s.heap.objs.size (.lst ys)) { s with heap:=s.heap.push { cls:=.type "list",data:=.seq its.toArray },toks:=t' }:=
 I.laid (fun _ _ q=>Heap.get?_push_of_some _ q) (Nat.le_refl _) ⟨hz,its,0,hv,Heap.get?_push_size _ rfl⟩
theorem Inv.fresh (I:Inv X pins σ H s):H s.heap.objs.size=none:=I.hok.fresh (Nat.le_refl _)
theorem Inv.lstM (I:Inv X pins σ H s)(hH:H l=some (.lst xs)):xs.length<=sizeLine/\∃ (its:List Value) (n:Nat),Vals xs its/\xs.length=its.length/\s.heap.get? l=some { cls:=.type "list",data:=.seq its.toArray n }:=by
 obtain ⟨z,its,n,r,e⟩:=I.hok l _ hH
 exact ⟨z,its,n,r,r.length,e⟩
end
section
variable {X:Cx}
def Qnm:V->List V->Hp->VK->Prop:=fun x vs H Q=>∃ l xs y,x=.ref l/\vs=[y]/\H l=some (.lst xs)/\xs.length<sizeLine/\Q .non (upd H l (.lst (xs++[y])))
theorem Qh2:MtM X "list.append" Qnm:=by
 intro pins s σ H x vs v us Q I rx rv h
 obtain ⟨l,xs,y,rfl,rfl,hH,hz,q⟩:=h
 cases rx
 obtain ⟨u,rfl,ru⟩:=rv.one
 obtain ⟨z,its,n,r,hl,e⟩:=I.lstM hH
 refine call_meets F.slot_list_append ⟨_,e,rfl⟩ F.entry_list_append (F.args_list_append_2 _ _) (PySem.list_append l its.toArray n u (by rw [List.size_toArray];omega)) ⟨e,?_⟩
 refine ⟨.non,_,I.lset (its':=its++[u]) hH e (by simp) (r.append (.cons ru .nil)) ?_,rfl,q⟩
 rw [List.length_append,List.length_singleton]
 omega
end
end L2
namespace Att
open PySem PySem.W PySem.Calls PyProof.Rows
theorem Qdy {P:Params}{h:Heap}:∀ (ns:List Int) (vs:List Value),WellAll P h vs (ns.map WData.int)->IntsAre vs ns:=by
 intro ns
 induction ns with
 |nil=>
  intro vs w
  rw [List.map_nil] at w
  cases w
  exact .nil
 |cons n ns ih=>
  intro vs w
  rw [List.map_cons] at w
  cases w with
  |cons a b=>
   cases a
   exact .cons _ _ (ih _ b)
theorem Qip {l:OpenLaw}{n:Nat}(hn:l.most=some n){P:Params}{h:Heap}{args:List WData}{vals:List Value}
  (hpre:l.row.toRowW.claim.pre args=true) (hwl:WellAll P h vals args) :
  ∃ a vs ns,vals=[Value.ref a]/\args=[WData.list (ns.map WData.int)]/\h.get? a=some { cls:=.type "list",data:=.seq vs.toArray }/\IntsAre vs ns/\ns.length<=n:=by
 have hsh:WShape.hasAll [] args [.list .int]=true:=(pre_splitW hpre).1
 have hc:l.pre.holds [] { args:=args }=true:=(pre_splitW hpre).2
 obtain ⟨d,r,rfl,h1,h2⟩:=hasAllW_cons hsh
 obtain rfl:=hasAllW_nil h2
 obtain ⟨xs,rfl,h3⟩:=hasW_list h1
 obtain ⟨ns,rfl⟩:=items_int h3
 have hlen:ns.length<=n:=by
  unfold OpenLaw.pre at hc
  have h4:(WTm.not (.lt (.lit (.int (n:Int))) (.len (.arg 0)))).holds [] { args:=[.list (ns.map .int)] }=true:=by
   have h4:=(holds_andW hc).1
   rw [hn] at h4
   exact h4
  have h5:=condW_of h4 (w_not (w_lt w_lit (w_len_list (w_arg rfl))))
  rw [List.length_map] at h5
  refine Nat.le_of_not_lt fun q=>?_
  have q':(n:Int)<((ns.length:Nat):Int):=by omega
  first
   |(rw [decide_eq_true q'] at h5;exact absurd h5 (by decide))
   |(simp at h5;omega)
 cases hwl with
 |cons w1 w2=>
  cases w2
  cases w1 with
  |list ho hall=>exact ⟨_,_,ns,rfl,rfl,ho,Qdy ns _ hall,hlen⟩
theorem QiE (l:OpenLaw)(args:List WData):l.row.toRowW.claim.post args (.bool true) args=true:=
 postW_of (r:=l.row.toRowW) (X:=(true == true))
  (show WShape.has [] (.bool true) .bool=true by first | rfl | decide | simp [WShape.has,WShape.arms,WShape.armsAll])
  (show (WTm.eq .res (.lit (.bool true))).value [] { args:=args,res:=some (.bool true),after:=args }=some (.bool (true == true)) from w_eq_bool (w_res rfl) w_lit) rfl
theorem attach_call {l:OpenLaw}{n:Nat}{q:Program}{loose:List Str}{XP:(Str->Option Value)->Heap->Prop}{YP:World->Heap->Prop}{d:DefRec}
  (hn:l.most=some n) (hdf:d.params.defaults=[])
  (call:∀ (w:World) (s₀ s₁:Shared) (mg mb:Str->Option Value) (fa:Addr) (o:Obj) (pm cd doc:Value) (a:Addr) (vs:List Value) (ns:List Int),
   Ground q loose [] XP w s₀ mg mb s₁.heap->YP w s₁.heap->
   s₁.heap.get? fa=some o->o.data=.func (docDef d.name d.params d.body d.scope pm cd doc)->s₁.heap.CodeRec cd d.name->mg d.name=some (.ref fa)->
   s₁.heap.get? a=some { cls:=.type "list",data:=.seq vs.toArray }->IntsAre vs ns->ns.length<=n->s₁.gens = #[]->
   codeAny (model l.prog w) callerA (.call (.ref fa) ⟨[.ref a],[]⟩) (fun r s'=>r=.ok (.ret (.bool true))/\OldK s₁.heap s'.heap/\s'.os=s₁.os/\AllBare s'.gens) s₁) :
  WalkO q loose XP YP l.row.toRowW d [] (fun f vs=>PySem.call f vs):=by
 intro w s₀ s₁ mg mb G Y fa o pm cd doc dV kV ho hd hcd hD hmg hg args vals as hpre hlay hrd hwl hlo
 obtain rfl:dV=.none:=Dflts.none hD hdf
 obtain rfl:kV=.none:=Dflts.noKw hD
 obtain ⟨a,vs,ns,rfl,rfl,hobj,hints,hlen⟩:=Qip hn hpre hwl
 refine enter_call (codeAny_mono (call w s₀ s₁ mg mb fa o pm cd doc a vs ns G Y ho (fd_plain hd) hcd hmg hobj hints hlen hg) fun r s' hq=>?_)
 obtain ⟨rfl,h2,h3,h4⟩:=hq
 exact ⟨.inl ⟨.bool true,.bool true,[],rfl,fun _=>rfl,.bool true,QiE l _,fun _=>⟨List.Pairwise.nil,fun _ hm=>(nomatch hm)⟩⟩,h2,h3,h4⟩
end Att
namespace L2
open PySem PySem.Spec PyProof.Rows
theorem Qe3:∀ {vs:List Value} {ns:List Int},IntsAre vs ns->Vals (ns.map V.int) vs
 |_,_,.nil=>.nil
 |_,_,.cons n t h=>.cons ⟨t,rfl⟩ (Qe3 h)
def Qsb (H:Hp):Prop:=∀ b,H b=none\/∃ o xs,H b=some (.frz o (.lst xs))
theorem QkI {P:Program}{w:World}{K:PySem.W.Frag}{mg mb:Str->Option Value}{CX:CXT}{k:Nat}{fa a:Addr}{fd:FuncData}{x:Str}{sp:Sp}{s₁:Shared}{vs:List Value}{ns:List Int}
  (KX:K.In s₁.heap) (hns:s₁.heap.Ns mainGlobals mg) (hb:s₁.heap.Ns builtinsNs mb) (hbb:∀ x:Str,x ≠ "__name__" -> mb x=bootBuiltins x) (hlim:s₁.heap.NoLimit) (hg:s₁.gens = #[])
  (ha:s₁.heap.get? a=some { cls:=.type "list",data:=.seq vs.toArray }) (hi:IntsAre vs ns) (hl:ns.length<=sizeLine) (hr:Room k callerA)
  (F:∀ base:Heap,K.In base->base.Ns mainGlobals mg->FnOk P w K mg base CX k fa fd [x] sp) (hbind:∀ (s:Shared) (u:Value),BindsTo s fd ⟨[u],[]⟩ [(x,u)])
  (hsp:∀ H:Hp,Qsb H->SqL K H a (ns.map V.int)->sp [.ref a] H (fun v _=>v=.bl true) fun _ _ _=>False)
  (hCX:∀ H e s',CX [] H s₁ (fun _ _ _=>False) e s'->False) :
  codeAny (model P w) callerA (.call (.ref fa) ⟨[.ref a],[]⟩) (fun r s'=>r=.ok (.ret (.bool true))/\OldK s₁.heap s'.heap/\s'.os=s₁.os/\AllBare s'.gens) s₁:=by
 have rv:=Qe3 hi
 have lenV:=hi.length
 -- from an abstract heap in which nothing but the script may be tracked
 have core:∀ H:Hp,Qsb H->SqL K H a (ns.map V.int)->HOk P w H s₁.heap->(∀ b,H b≠none->b=a)->(H a≠none->K.lookup a=none)->
   codeAny (model P w) callerA (.call (.ref fa) ⟨[.ref a],[]⟩) (fun r s'=>r=.ok (.ret (.bool true))/\OldK s₁.heap s'.heap/\s'.os=s₁.os/\AllBare s'.gens) s₁:=by
  intro H hO hS hok hA hK
  have base_of:∀ {b:Addr} {o:Obj},s₁.heap.get? b=some o->H b=none->(Qkk s₁.heap H).get? b=some o:=fun e n=>Qkl e n
  have noA:∀ {b:Addr} {o:Obj} {es:Array DictEntry} {ep:Nat},s₁.heap.get? b=some o->o.data=.dict es ep->H b=none:=fun {b o es ep} e d=>by
   cases q:H b with
   |none=>rfl
   |some u=>
    have e':b=a:=hA b (by rw [q];simp)
    subst e'
    rw [ha] at e;cases e
    have d':Data.seq vs.toArray _=Data.dict es ep:=d
    cases d'
  have nsK:∀ {b:Addr} {m:Str->Option Value},s₁.heap.Ns b m->(Qkk s₁.heap H).Ns b m:=fun {b m} ⟨o,es,ep,e,d,r⟩=>⟨o,es,ep,base_of e (noA e d),d,r⟩
  have hKb:K.In (Qkk s₁.heap H):=fun b o e=>base_of (KX b o e) (by
   cases q:H b with
   |none=>rfl
   |some u=>
    have e':b=a:=hA b (by rw [q];simp)
    subst e'
    rw [hK (by rw [q];simp)] at e;cases e)
  have hM:Mod K mg (Qkk s₁.heap H):=⟨hKb,nsK hns,⟨mb,nsK hb,hbb⟩,let ⟨mc,h1,h2⟩:=hlim;⟨mc,nsK h1,h2⟩⟩
  have e0:Env0 P w K mg (Qkk s₁.heap H) callerA [] s₁ H:=⟨rfl,hM,fun b o e=>Qnj e,Nat.le_of_eq (Qi1 _ _),trivial,fun b hb=>absurd (show b∈([]:List Addr) from hb) (by simp),hok,.of_eq hg⟩
  refine codeAny_mono ((F _ hKb (nsK hns)).run callerA [] s₁ H ⟨[.ref a],[]⟩ [.ref a] [.ref a] _ _ hr e0 (hbind s₁ (.ref a)) (.cons rfl .nil) (hsp H hO hS)) fun r s' h=>?_
  cases r with
  |error e=>exact (hCX H e s' h).elim
  |ok fl=>
   cases fl with
   |next=>exact False.elim h
   |brk=>exact False.elim h
   |cont=>exact False.elim h
   |ret u=>
    obtain ⟨v,H',os,bare,un,hok',r',q⟩:=h
    have q':v=.bl true:=q
    subst q'
    obtain rfl:u=Value.bool true:=r'
    refine ⟨rfl,OldK.of_keep fun b o e=>?_,os,bare⟩
    cases q:H b with
    |none=>exact un.keep b o e q (by intro z;exact absurd (show b∈([]:List Addr) from z) (by simp)) (by simp)
    |some u=>
     rcases hO b with z | ⟨ob,xs,z⟩
     ·rw [q] at z;cases z
     ·have z2:=un.frzs b ob _ z
      obtain ⟨e1,_⟩:=hok b _ z
      obtain ⟨e2,_⟩:=hok' b _ z2
      rw [e] at e1;cases e1
      exact e2
 cases hk:K.lookup a with
 |some o=>
  -- the script is one of the module's own objects
  have e:=KX a o hk
  rw [ha] at e
  cases e
  refine core (fun _=>none) (fun _=>.inl rfl) (.inr ⟨_,vs.toArray,_,hk,rfl,rfl,rfl,by rw [List.size_toArray,lenV];exact hl,by simpa using rv⟩) (fun b u z=>by have z':(none:Option HO)=some u:=z;cases z') (fun b z=>absurd rfl z) fun z=>absurd rfl z
 |none=>
  refine core (fun b=>if b=a then some (.frz { cls:=.type "list",data:=.seq vs.toArray } (.lst (ns.map V.int))) else none) (fun b=>?_) (.inl (.inr ⟨{ cls:=.type "list",data:=.seq vs.toArray },if_pos rfl⟩)) (fun b u z=>?_) (fun b z=>?_) fun _=>hk
  ·by_cases hb:b=a
   ·exact .inr ⟨_,_,if_pos hb⟩
   ·exact .inl (if_neg hb)
  ·by_cases hb:b=a
   ·have z':=(if_pos hb).symm.trans z
    cases z'
    subst hb
    exact ⟨ha,by rw [List.length_map];exact hl,vs,_,rv,ha⟩
   ·have z':=(if_neg hb).symm.trans z
    cases z'
  ·by_cases hb:b=a
   ·exact hb
   ·exact absurd (if_neg hb) z
theorem Qmf {l:PySem.W.OpenLaw}{n k:Nat}{q:Program}{loose:List Str}{XP:(Str->Option Value)->Heap->Prop}{YP:World->Heap->Prop}{d:DefRec}{K:Params->PySem.W.Frag}{CX:World->CXT}{sp:World->Sp}{x:Str}
  (hn:l.most=some n) (hn2:n<=sizeLine) (hdf:d.params.defaults=[]) (hr:Room k callerA)
  (hY:∀ (w:World) (h:Heap),YP w h->(K w.params).In h)
  (F:∀ (w:World) (mg:Str->Option Value) (fa:Addr) (h:Heap),(K w.params).In h->h.Ns mainGlobals mg->mg d.name=some (.ref fa)->
   ∃ fd:FuncData,(∀ (s:Shared) (u:Value),BindsTo s fd ⟨[u],[]⟩ [(x,u)])/\
    ∀ base:Heap,(K w.params).In base->base.Ns mainGlobals mg->FnOk l.prog w (K w.params) mg base (CX w) k fa fd [x] (sp w))
  (hsp:∀ (w:World) (H:Hp) (a:Addr) (ns:List Int),ns.length<=n->Qsb H->SqL (K w.params) H a (ns.map V.int)->sp w [.ref a] H (fun v _=>v=.bl true) fun _ _ _=>False)
  (hCX:∀ (w:World) (H:Hp) (s:Shared) (e:Value) (s':Shared),CX w [] H s (fun _ _ _=>False) e s'->False) :
  PySem.W.WalkO q loose XP YP l.row.toRowW d [] (fun f vs=>PySem.call f vs):=by
 refine Att.attach_call hn hdf fun w s₀ s₁ mg mb fa o pm cd doc a vs ns G Y ho hd hcd hmg hobj hints hlen hg=>?_
 have KX:=hY w _ Y
 obtain ⟨fd,hb,hF⟩:=F w mg fa _ KX G.T.g hmg
 exact QkI KX G.T.g G.T.b G.T.builtins G.T.nolimit hg hobj hints (Nat.le_trans hlen hn2) hr hF hb (fun H hO hS=>hsp w H a ns hlen hO hS) fun H e s'=>hCX w H s₁ e s'
def QhR (s:Stmt)(j:Nat):Stmt:=match s with
 |.ClassDef _ _ _ body _ _ _ _ _ _ _=>body.getD j (.Pass ⟨0,0,0,0⟩)
 |_=>.Pass ⟨0,0,0,0⟩
def QcN (s:Stmt):Arguments:=match s with
 |.FunctionDef _ a _ _ _ _ _ _ _ _=>a
 |_=>{ posonlyargs:=[],args:=[],vararg:=none,kwonlyargs:=[],kw_defaults:=[],kwarg:=none,defaults:=[] }
def Qbc (s:Stmt):List Stmt:=match s with
 |.FunctionDef _ _ b _ _ _ _ _ _ _=>b
 |_=>[]
def Qal (s:Stmt):Scope:=match s with
 |.FunctionDef _ _ _ _ _ _ sc _ _ _=>sc
 |_=>{ kind:=.function,names:=[],isGenerator:=false,isCoroutine:=false }
abbrev CX0:CXT:=fun _ _ _ _ _ _=>False
abbrev E0:XK:=fun _ _ _=>False
theorem Qsa {X:Cx}:QjF CX0 X E0:=fun _ _ _ _ _ _ _ h=>h.elim
structure Fun (K:PySem.W.Frag)(x qual:Str)(st:Stmt)(f:Addr)(fd:FuncData):Prop where
 ex:∃ (oc:Value) (od:Option Addr) (kV doc pm:Value) (an:Option Addr) (cdv ct:Value) (osl:Array (Option Value)),
  fd=PySem.W.fnOf x qual (QcN st) (Qbc st) (Qal st) .none kV doc pm an cdv ct/\K.lookup f=some ⟨oc,od,.func fd,osl⟩/\PySem.W.codeIn K cdv qual=true
 kp:PySem.W.keepIn K (.ref f)=true
section
variable {P:Program}{w:World}{K:PySem.W.Frag}{mg:Str->Option Value}{base:Heap}
theorem Fun.ok {x qual:Str}{st:Stmt}{f:Addr}{fd:FuncData}{N ps:List Str}{k:Nat}{sp:Sp}(F:Fun K x qual st f fd)(S:QcS N ps (Qal st))(len:∀ vs H Q E,sp vs H Q E->vs.length=ps.length)
  (hbody:∀ (cdv:Value) (A:Around) (outer:List Env) (s:Shared) (H:Hp) (vs:List V) (Q:VK) (E:XK),Room k (A.deeper (envOfC qual (Qal st) s.heap.objs.size f cdv))->sp vs H Q E->
   ∃ t,PSs (Qb3 CX0 P w K mg base N qual (Qal st) f cdv A outer s H E).nox (Qbc st) t/\t { nx:=fun _ H'=>Q .non H',rt:=Q } (QcW N vs) H):FnOk P w K mg base CX0 (k+1) f fd ps sp:=by
 obtain ⟨oc,od,kV,doc,pm,an,cdv,ct,osl,rfl,lk,hcd⟩:=F.ex
 refine Qqu lk hcd S len fun A outer s H vs Q E hr hsp=>?_
 obtain ⟨t,h,q⟩:=hbody cdv A outer s H vs Q E hr hsp
 exact ⟨t,h.nox,q⟩
theorem Fun.binds {x qual:Str}{st:Stmt}{f:Addr}{fd:FuncData}{ps:List Str}(F:Fun K x qual st f fd)
  (h:∀ (kV doc pm:Value) (an:Option Addr) (cdv ct:Value) (us:List Value),us.length=ps.length->bindArgs (PySem.W.fnOf x qual (QcN st) (Qbc st) (Qal st) .none kV doc pm an cdv ct) ⟨us,[]⟩=pure (ps.zip us)):Binds K fd ps []:=by
 obtain ⟨oc,od,kV,doc,pm,an,cdv,ct,osl,rfl,lk,hcd⟩:=F.ex
 exact .all (h kV doc pm an cdv ct)
theorem QlB {x qual:Str}{st:Stmt}{f:Addr}{oc:Value}{od an:Option Addr}{osl:Array (Option Value)}{kV doc pm cdv ct:Value}(l:K.lookup f=some ⟨oc,od,.func (PySem.W.fnOf x qual (QcN st) (Qbc st) (Qal st) .none kV doc pm an cdv ct),osl⟩)
  (c:PySem.W.codeIn K cdv qual=true) (k:PySem.W.keepIn K (.ref f)=true):Fun K x qual st f (PySem.W.fnOf x qual (QcN st) (Qbc st) (Qal st) .none kV doc pm an cdv ct):=⟨⟨oc,od,kV,doc,pm,an,cdv,ct,osl,rfl,l,c⟩,k⟩
end
theorem QdE {A:Around}{k:Nat}(hr:Room k A):A.units+1<cLine:=Nat.lt_of_le_of_lt (Nat.add_le_add_left (by decide:1<=64) _) hr.units
section
variable {X:Cx}
theorem pv (i:Nat){x:Str}{pos:Pos}(hN:X.N[i]? = some x:=by rfl)(hv:Vis X.env.scope x:=by first | exact Or.inl rfl | exact Or.inr (Or.inl rfl) | exact Or.inr (Or.inr rfl))(hd:(x == ("__debug__" : Str))=false:=by decide)
  (hcd:(x == ("__classdict__" : Str))=false:=by decide):PE X (.Name x pos) (QsR i):=QdD hN hv hd hcd
end
def Same (H H':Hp):Prop:=∀ b o,H b=some o->H' b=some o
theorem Same.refl (H:Hp):Same H H:=fun _ _ h=>h
theorem Same.trans {H H1 H2:Hp}(a:Same H H1)(b:Same H1 H2):Same H H2:=fun c o h=>b c o (a c o h)
theorem Same.free {H H':Hp}(e:Same H H'){l:Addr}(h:H' l=Option.none):H l=Option.none:=by
 cases q:H l with
 |none=>rfl
 |some o=>
  rw [e l o q] at h
  cases h
section
variable {κ:Type}[DecidableEq κ]
end
end L2
set_option maxHeartbeats 4000000
namespace L2
open PySem PySem.Spec PyProof.Rows
theorem QhL {α β:Type}{l:List α}{f:α->β->Sem (ForInStep β)}{g:α->β->β}(h:∀ x∈l,∀ c,f x c=pure (.yield (g x c))):∀ c:β,forIn l c f=pure (l.foldl (fun c x=>g x c) c):=by
 induction l with
 |nil=>intro c;rfl
 |cons x l ih=>
  intro c
  rw [List.forIn_cons,h x List.mem_cons_self,pure_bind]
  exact ih (fun y hy=>h y (List.mem_cons_of_mem _ hy)) _
def Qfv (cells:List (Str × Addr))(names:List (Str × NameKind)):List (Str × Addr):=
 names.foldl (fun c x=>if (x.2 == NameKind.free)=true then (x.1,(cells.lookup x.1).getD 0) :: c else c) []
theorem Qhy {scope:Scope}{env:Env}(h:∀ x∈scope.names,x.2=.free->∃ c,env.cells.lookup x.1=some c):closureFor scope env=pure (Qfv env.cells scope.names):=by
 simp only [closureFor]
 rw [QhL (g:=fun (x:Str × NameKind) c=>if (x.2 == NameKind.free)=true then (x.1,(env.cells.lookup x.1).getD 0) :: c else c) (fun x hx c=>by
  obtain ⟨n,kind⟩:=x
  by_cases hk:kind=.free
  ·subst hk
   obtain ⟨a,ha⟩:=h _ hx rfl
   simp [cellOf,ha]
  ·have hb:(kind == NameKind.free)=false:=by simpa using hk
   simp only [hb,Bool.false_eq_true,if_false])]
 rfl
theorem Qd0 {cells:List (Str × Addr)}:∀ (names:List (Str × NameKind)) (acc:List (Str × Addr)),(∀ x∈names,x.2=.free->∃ c,cells.lookup x.1=some c)->(∀ p∈acc,cells.lookup p.1=some p.2)->
  ∀ p∈names.foldl (fun c (x:Str × NameKind)=>if (x.2 == NameKind.free)=true then (x.1,(cells.lookup x.1).getD 0) :: c else c) acc,cells.lookup p.1=some p.2
 | [],_,_,ha=>ha
 |(n,k) :: r,acc,h,ha=>by
  rw [List.foldl_cons]
  refine Qd0 r _ (fun x hx=>h x (List.mem_cons_of_mem _ hx)) ?_
  by_cases hk:k=.free
  ·subst hk
   obtain ⟨a,e⟩:=h (n,.free) List.mem_cons_self rfl
   intro p hp
   simp only [beq_self_eq_true,if_true] at hp
   rcases List.mem_cons.mp hp with rfl | hp
   ·show cells.lookup n=some ((cells.lookup n).getD 0)
    have e':cells.lookup n=some a:=e
    rw [e'];rfl
   ·exact ha p hp
  ·have hb:(k == NameKind.free)=false:=by simpa using hk
   simp only [hb,Bool.false_eq_true,if_false]
   exact ha
theorem QcX {cells:List (Str × Addr)}{y:Str}:∀ (names:List (Str × NameKind)) (acc:List (Str × Addr)),((y,NameKind.free)∈names\/y∈acc.map (·.1))->
  y∈(names.foldl (fun c (x:Str × NameKind)=>if (x.2 == NameKind.free)=true then (x.1,(cells.lookup x.1).getD 0) :: c else c) acc).map (·.1)
 | [],acc,h=>h.elim (fun z=>nomatch z) fun z=>z
 |(n,k) :: r,acc,h=>by
  rw [List.foldl_cons]
  refine QcX r _ ?_
  rcases h with h | h
  ·rcases List.mem_cons.mp h with e | h
   ·cases e
    refine .inr ?_
    simp
   ·exact .inl h
  ·refine .inr ?_
   split
   ·exact List.mem_cons_of_mem _ h
   ·exact h
theorem QcT {y:Str}:∀ {l:List (Str × Addr)},y∈l.map (·.1)->∃ c,l.lookup y=some c
 | [],h=>nomatch h
 |(n,a) :: r,h=>by
  by_cases e:y=n
  ·subst e
   exact ⟨a,by simp [List.lookup_cons]⟩
  ·have hb:(y == n)=false:=by simpa using e
   have hr:y∈r.map (·.1):=(List.mem_cons.mp h).resolve_left e
   obtain ⟨c,hc⟩:=QcT hr
   exact ⟨c,by rw [List.lookup_cons,hb];exact hc⟩
theorem QbJ {env:Env}{y:Str}:∀ {names:List (Str × NameKind)} {k:NameKind},(∀ z∈names,z.2≠.cell)->
  (names.map fun (n,k)=>if (k == NameKind.free && env.scope.kind == .function && env.kindOf n == some .cell) then (n,NameKind.cell) else (n,k)).lookup y=some k->k=.cell\/k=.free->(y,NameKind.free)∈names
 | [],_,_,h,_=>by simp at h
 |(n,k0) :: r,k,hc,h,hk=>by
  rw [List.map_cons] at h
  by_cases e:y=n
  ·subst e
   by_cases c:(k0 == NameKind.free && env.scope.kind == .function && env.kindOf y == some .cell)=true
   ·have hf:k0=.free:=by
     have:=c
     simp only [Bool.and_eq_true] at this
     simpa using this.1.1
    subst hf
    exact List.mem_cons_self
   ·have h':k0=k:=by
     rw [show (match (y,k0) with | (n,k)=>if (k == NameKind.free && env.scope.kind == .function && env.kindOf n == some .cell)=true then (n,NameKind.cell) else (n,k))=(y,k0) from if_neg c] at h
     simpa [List.lookup_cons] using h
    subst h'
    rcases hk with rfl | rfl
    ·exact absurd rfl (hc _ List.mem_cons_self)
    ·exact List.mem_cons_self
  ·have hb:(y == n)=false:=by simpa using e
   refine List.mem_cons_of_mem _ (QbJ (env:=env) (k:=k) (fun z hz=>hc z (List.mem_cons_of_mem _ hz)) ?_ hk)
   by_cases c:(k0 == NameKind.free && env.scope.kind == .function && env.kindOf n == some .cell)=true
   ·rw [show (match (n,k0) with | (n,k)=>if (k == NameKind.free && env.scope.kind == .function && env.kindOf n == some .cell)=true then (n,NameKind.cell) else (n,k))=(n,NameKind.cell) from if_pos c,List.lookup_cons,hb] at h
    exact h
   ·rw [show (match (n,k0) with | (n,k)=>if (k == NameKind.free && env.scope.kind == .function && env.kindOf n == some .cell)=true then (n,NameKind.cell) else (n,k))=(n,k0) from if_neg c,List.lookup_cons,hb] at h
    exact h
theorem QbG {env:Env}{y:Str}:∀ {names:List (Str × NameKind)},names.lookup y=some .free->
  (names.map fun (n,k)=>if (k == NameKind.free && env.scope.kind == .function && env.kindOf n == some .cell) then (n,NameKind.cell) else (n,k)).lookup y=some .cell\/
  (names.map fun (n,k)=>if (k == NameKind.free && env.scope.kind == .function && env.kindOf n == some .cell) then (n,NameKind.cell) else (n,k)).lookup y=some .free
 | [],h=>by simp at h
 |(n,k) :: r,h=>by
  have ih:=@QbG env y r
  show List.lookup y ((if (k == NameKind.free && env.scope.kind == .function && env.kindOf n == some .cell)=true then (n,NameKind.cell) else (n,k)) :: _)=_\/List.lookup y ((if (k == NameKind.free && env.scope.kind == .function && env.kindOf n == some .cell)=true then (n,NameKind.cell) else (n,k)) :: _)=_
  cases hx:y == n with
  |true=>
   simp only [List.lookup_cons,hx] at h
   cases h
   by_cases hc:(NameKind.free == NameKind.free && env.scope.kind == .function && env.kindOf n == some .cell)=true
   ·rw [if_pos hc];simp [List.lookup_cons,hx]
   ·rw [if_neg hc];simp [List.lookup_cons,hx]
  |false=>
   simp only [List.lookup_cons,hx] at h
   by_cases hc:(k == NameKind.free && env.scope.kind == .function && env.kindOf n == some .cell)=true
   ·rw [if_pos hc];simp only [List.lookup_cons,hx];exact ih h
   ·rw [if_neg hc];simp only [List.lookup_cons,hx];exact ih h
structure Blk (X:Cx)(scope:Scope)(N:List Str)(ix:List (Option Nat)):Prop where
 kind:scope.kind=.function
 nocell:∀ y∈scope.names,y.2≠.cell
 names:∀ y∈scope.names,y.2=.local->scope.names.lookup y.1=some .local
 free:∀ y∈scope.names,y.2=.free->X.env.kindOf y.1=some .cell\/X.env.kindOf y.1=some .free
 nd:N.Nodup
 len:ix.length=N.length
 slots:∀ (j i:Nat) (y:Str),ix[j]? = some (some i)->N[j]? = some y->X.N[i]? = some y/\scope.names.lookup y=some .free
def QaG (ix:List (Option Nat))(σ:St):St:=ix.map fun o=>o.bind fun i=>(σ[i]?).join
def Cx.blk (X:Cx)(scope:Scope)(N:List Str)(pins:List (Addr × Obj))(C:Addr)(s:Shared)(H:Hp)(ex:List Addr):Cx:=
 { X with N:=N,s₀:=s,H₀:=H,env:=compEnvC scope (Qfv X.env.cells scope.names) C X.env,outer:=X.stack,stack:=X.stack,ex:=ex,fn:=fun _=>false,pn:=X.pn++pins,xe:=fun _ _=>False }
def PIf (X:Cx)(ifs:List Expr)(t:TT):Prop:=
 ∀ (pins:List (Addr × Obj)) (s:Shared) (σ:St) (H:Hp) (Q:Bool->Hp->Prop),Inv X pins σ H s->t σ H Q->
  wpAny (model X.prog X.w) X.A (forIn ifs true fun c r=>if r=true then do let ok ← isTrue c X.env (eval c X.env);pure (ForInStep.yield ok) else pure (ForInStep.yield r)) (TP X pins σ Q) X.xe s
def QtK:TT:=fun _ H Q=>Q true H
theorem QmW {X:Cx}:PIf X [] QtK:=fun pins s σ H Q I h=>wpAny_tests_nil ⟨H,I,h⟩
theorem Qcb {prog:Program}{w:World}{A:Around}{R:Result->Shared->Prop}{s:Shared}{elt target iter:Expr}{ifs:List Expr}{scope:Scope}{pos:Pos}{it acc:Value}{env:Env}(I:Nat->Shared->Prop)
  (turn:∀ n s,I n s->wpAny (model prog w) A (pyNext it) (fun r s₁=>match r with
   |none=>R (.ok .next) s₁
   |some v=>wpAny (model prog w) A (letOwnedTupleGo target it v) (fun _ s₀=>wpAny (model prog w) A (assign target env v) (fun _ s₂=>
     wpAny (model prog w) A (forIn ifs true fun c r=>if r=true then do let ok ← isTrue c env (eval c env);pure (ForInStep.yield ok) else pure (ForInStep.yield r)) (fun ok s₃=>
      if ok=true then wpAny (model prog w) A (eval elt env) (fun x s₄=>
       wpAny (model prog w) A (call (.builtin "list.append") [acc,x]) (fun _ s₅=>∃ m,m<n/\I m s₅) (fun _ _=>False) s₄) (fun _ _=>False) s₃
      else ∃ m,m<n/\I m s₃) (fun _ _=>False) s₂) (fun _ _=>False) s₀) (fun _ _=>False) s₁) (fun _ _=>False) s)
  (n:Nat) (h:I n s) :
  codeAny (model prog w) A (.compLoop (.ListComp elt [⟨target,iter,ifs,0⟩] scope pos) 0 it acc env) R s:=by
 refine codeAny_loop rfl I (fun n s hI=>?_) n h
 show wpAny _ A ((compTurn (.ListComp elt [⟨target,iter,ifs,0⟩] scope pos) 0 it acc env).onRaise (fun x=>do noteFrame x env;theTreesLotGoes x)) _ _ s
 refine wpAny_noted ?_
 rw [compTurn_list]
 refine wpAny_bind (wpAny_standAt (wpAny_bind (wpAny_mono (turn n s hI) (fun r s₁ h₁=>?_) fun _ _ h'=>h'.elim)))
 cases r with
 |none=>exact wpAny_pure h₁
 |some v=>
  refine wpAny_bind (wpAny_mono h₁ (fun _ s₀ h₀=>?_) fun _ _ h'=>h'.elim)
  refine wpAny_bind (wpAny_mono h₀ (fun _ s₂ h₂=>wpAny_bind (wpAny_mono h₂ (fun ok s₃ h₃=>?_) fun _ _ h'=>h'.elim)) fun _ _ h'=>h'.elim)
  cases ok with
  |false=>exact wpAny_pure ⟨rfl,h₃⟩
  |true=>
   exact wpAny_bind (wpAny_bind (wpAny_mono h₃ (fun x s₄ h₄=>wpAny_bind (wpAny_mono h₄ (fun _ s₅ h₅=>wpAny_pure (wpAny_pure ⟨rfl,h₅⟩)) fun _ _ h'=>h'.elim)) fun _ _ h'=>h'.elim))
theorem HOk.track {P:Program}{w:World}{H:Hp}{h:Heap}{a:Addr}{o:HO}(x:HOk P w H h)(hn:H a=none)(new:ObjOk P w (upd H a o) h a o):HOk P w (upd H a o) h:=fun b u e=>by
 by_cases hb:b=a
 ·subst hb;rw [Qah] at e;cases e;exact new
 ·rw [Qad hb] at e
  exact (x b u e).stay (fun c v _ q=>q) (fun c q=>by rw [Qad (Qaj q hn)];exact q) fun c xs q=>by rw [Qad (Qaj q hn)];exact q
theorem HOk.but {P:Program}{w:World}{H:Hp}{h h':Heap}{a:Addr}(x:HOk P w H h)(hn:H a=none)(sb:Heap.SameBut a h h'):HOk P w H h':=fun b u e=>by
 refine (x b u e).stay (fun c v hc q=>(sb.2 c ?_).trans q) (fun _ q=>q) fun _ _ q=>q
 rintro rfl
 rcases hc with rfl | hc
 ·rw [hn] at e;cases e
 ·rw [hn] at hc;cases hc
section
variable {X:Cx}
def Qfi (i j:Int):Prop:=0<j/\j<115792089237316195423570985008687907853269984665640564039457584007913129639936
theorem Qj7 {j:Int}(h:Qfi 0 j):j.natAbs.log2<9000:=by
 have h1:(0:Int)<j:=h.1
 have h2:j<115792089237316195423570985008687907853269984665640564039457584007913129639936:=h.2
 have e:(2:Nat) ^ 256=115792089237316195423570985008687907853269984665640564039457584007913129639936:=by decide
 have h3:j.natAbs<2 ^ 256:=by rw [e];omega
 have h4:j.natAbs.log2<256:=(Nat.log2_lt (by omega)).mpr h3
 omega
theorem Qgq:OpR X (binaryOp .FloorDiv) (rI Qfi fun i j=>.int (i / j)):=opI fun i j _ _ _ _ _ hc q=>by
 have h1:(0:Int)<j:=hc.1
 exact floordiv_int (by omega) (by rw [Int.fdiv_eq_ediv_of_nonneg i (by omega)];exact q) (.inl (PyProof.noPylong_of_log2 (Qj7 ⟨hc.1,hc.2⟩)))
theorem Qd2 {pins:List (Addr × Obj)}{σ:St}{H:Hp}{s:Shared}{x:V}{u t:Value}(I:Inv X pins σ H s)(rx:RelV x u)(ty:QhP X.K H x t) :
  ∃ Z:Heap->Prop,PySem.W.KitX X.K u t Z/\Z s.heap/\u≠.builtin "__main__.__loader__#opaque" := by
 cases ty with
 |non=>cases (show u=Value.none from rx);exact ⟨_,PySem.W.kitx_none,True.intro,fun z=>nomatch z⟩
 |bl y=>cases (show u=Value.bool y from rx);exact ⟨_,PySem.W.kitx_bool,True.intro,fun z=>nomatch z⟩
 |int i=>obtain ⟨t,q⟩:=(show ∃ t,u=Value.int i t from rx);cases q;exact ⟨_,PySem.W.kitx_int,True.intro,fun z=>nomatch z⟩
 |str y=>obtain ⟨t,q⟩:=(show ∃ t,u=Value.str y t from rx);cases q;exact ⟨_,PySem.W.kitx_str,True.intro,fun z=>nomatch z⟩
 |flt y=>obtain ⟨t,q⟩:=(show ∃ t,u=Value.float y t from rx);cases q;exact ⟨_,PySem.W.kitx_float,True.intro,fun z=>nomatch z⟩
 | @lst a xs ea=>
  cases (show u=Value.ref a from rx)
  obtain ⟨_,_,n,_,h1⟩:=(show ObjOk X.prog X.w H s.heap a (.lst xs) from I.hok a _ ea)
  exact ⟨_,PySem.W.kitx_list,⟨_,h1,rfl⟩,fun z=>nomatch z⟩
 | @frz a ob xs ea=>
  cases (show u=Value.ref a from rx)
  obtain ⟨_,_,_,n,_,h1⟩:=(show ObjOk X.prog X.w H s.heap a (.frz ob (.lst xs)) from I.hok a _ ea)
  exact ⟨_,PySem.W.kitx_list,⟨_,h1,rfl⟩,fun z=>nomatch z⟩
 | @tup a xs ea=>
  cases (show u=Value.ref a from rx)
  obtain ⟨_,_,_,p⟩:=(show ObjOk X.prog X.w H s.heap a (.tup xs) from I.hok a _ ea)
  obtain ⟨o,h1,h2,_⟩:=p
  exact ⟨_,PySem.W.kitx_tuple,⟨o,h1,h2⟩,fun z=>nomatch z⟩
 | @dK a kvs ea=>
  cases (show u=Value.ref a from rx)
  obtain ⟨_,_,vs,_,p⟩:=(show ObjOk X.prog X.w H s.heap a (.dK kvs) from I.hok a _ ea)
  obtain ⟨o,es,ep,h1,h2,_⟩:=p
  exact ⟨_,PySem.W.kitx_dict,⟨o,h1,h2.1⟩,fun z=>nomatch z⟩
 | @dT a kvs ea=>
  cases (show u=Value.ref a from rx)
  obtain ⟨_,_,xs,_,o,es,ep,h1,h2,_⟩:=(show ObjOk X.prog X.w H s.heap a (.dT kvs) from I.hok a _ ea)
  exact ⟨_,PySem.W.kitx_dict,⟨o,h1,h2.1⟩,fun z=>nomatch z⟩
 | @ins a C dx fs ea cl ha hn htk hm=>
  cases (show u=Value.ref a from rx)
  obtain ⟨mA,O,_⟩:=QmJ I.hok ea
  obtain ⟨od,J,_⟩:=O.look
  exact ⟨_,PySem.W.kitx_own (cl.get _) cl.hd ha hn htk hm,J,fun z=>nomatch z⟩
theorem QjO:∀ {cs:List String} {us:List Value},Vals (cs.map V.ty) us->us=cs.map Value.type
 | [],_,.nil=>rfl
 |c :: cs,_,.cons r t=>by
  cases r
  rw [QjO t];rfl
end
theorem Blk.of {X:Cx}{scope:Scope}{N:List Str}{ix:List (Option Nat)}(kind:scope.kind=.function:=by rfl)
  (c1:(scope.names.all fun y=>y.2 != NameKind.cell)=true:=by rfl)
  (c2:(scope.names.all fun y=>y.2 != NameKind.local || scope.names.lookup y.1 == some NameKind.local)=true:=by rfl)
  (c3:(scope.names.all fun y=>y.2 != NameKind.free || (X.env.scope.names.lookup y.1 == some NameKind.cell || X.env.scope.names.lookup y.1 == some NameKind.free))=true:=by rfl)
  (nd:N.Nodup:=by decide +kernel) (len:ix.length=N.length:=by rfl)
  (c4:((List.zip ix N).all fun p=>match p.1 with | none=>true | some i=>X.N[i]? == some p.2 && scope.names.lookup p.2 == some NameKind.free)=true:=by rfl):Blk X scope N ix where
 kind:=kind
 nocell:=fun y hy e=>by
  have q:=List.all_eq_true.mp c1 y hy
  rw [e] at q
  exact absurd q (by decide)
 names:=fun y hy e=>by
  have q:=List.all_eq_true.mp c2 y hy
  rw [e] at q
  exact beq_iff_eq.mp (by simpa using q)
 free:=fun y hy e=>by
  have q:=List.all_eq_true.mp c3 y hy
  rw [e] at q
  have q':(X.env.scope.names.lookup y.1 == some NameKind.cell || X.env.scope.names.lookup y.1 == some NameKind.free)=true:=by simpa using q
  rcases Bool.or_eq_true_iff.mp q' with z | z
  ·exact .inl (beq_iff_eq.mp z)
  ·exact .inr (beq_iff_eq.mp z)
 nd:=nd
 len:=len
 slots:=fun j i y h1 h2=>by
  have hm:(some i,y)∈List.zip ix N:=by
   have e:(List.zip ix N)[j]? = some (some i,y):=by rw [List.getElem?_zip_eq_some];exact ⟨h1,h2⟩
   exact List.mem_of_getElem? e
  have q:=List.all_eq_true.mp c4 _ hm
  have q':(X.N[i]? == some y && scope.names.lookup y == some NameKind.free)=true:=q
  obtain ⟨z1,z2⟩:=Bool.and_eq_true_iff.mp q'
  exact ⟨beq_iff_eq.mp z1,beq_iff_eq.mp z2⟩
def sq:Bool->List V->HO
 |true,xs=>.lst xs
 |false,xs=>.tup xs
def SqB (kd:Bool)(K:PySem.W.Frag)(H:Hp)(a:Addr)(xs:List V):Prop:=match kd with
 |true=>SqL K H a xs
 |false=>SqT K H a xs
def Itb (kd:Bool)(K:PySem.W.Frag)(a:Addr):It:=match kd with
 |true=>Itl K a
 |false=>Itt K a
theorem SqB.of {kd:Bool}{K:PySem.W.Frag}{H:Hp}{a:Addr}{xs:List V}(h:H a=some (sq kd xs)):SqB kd K H a xs:=by
 cases kd with
 |true=>exact SqL.of h
 |false=>exact SqT.of h
def Qte (K:PySem.W.Frag)(tl:TE):TI:=fun σ H R=>tl σ H fun x H1=>∃ a kd,x=.ref a/\(∃ xs,SqB kd K H1 a xs)/\R (Itb kd K a) H1
theorem QpK {X:Cx}{tg l:Expr}{tl:TE}(hl:PE X l tl):PI X tg l (Qte X.K tl):=by
 intro pins s σ H R I h
 refine thn (hl pins s σ H _ I h) fun v s1 hz=>?_
 obtain ⟨x,H1,I1,r1,q1⟩:=hz
 obtain ⟨a,kd,e,⟨xs,hq⟩,q⟩:=q1
 subst e
 cases r1
 cases kd with
 |true=>
  obtain ⟨its,rv,p,hz⟩:=I1.list (show SqL X.K H1 a xs from hq)
  refine wpAny_pyIter_list p.isList ?_
  refine ⟨s1.heap.objs.size,[s1.heap.objs.size],_,_,H1,rfl,I1.kept (t':=s1.toks) fun b o e=>Heap.get?_push_of_some _ e,QfF a _,⟨_,Heap.get?_push_size _ rfl,rfl,rfl⟩,fun b hb=>?_,q⟩
  have e:b=s1.heap.objs.size:=by simpa using hb
  subst e
  exact I1.fpOk (Nat.le_refl _) (I1.hok.fresh (Nat.le_refl _))
 |false=>
  obtain ⟨its,rv,p,hz⟩:=I1.tuple (show SqT X.K H1 a xs from hq)
  refine wpAny_pyIter_tuple (show s1.heap.IsTuple a its.toArray from p) ?_
  refine ⟨s1.heap.objs.size,[s1.heap.objs.size],_,_,H1,rfl,I1.kept (t':=s1.toks) fun b o e=>Heap.get?_push_of_some _ e,Qd4 a _,⟨_,Heap.get?_push_size _ rfl,rfl,rfl⟩,fun b hb=>?_,q⟩
  have e:b=s1.heap.objs.size:=by simpa using hb
  subst e
  exact I1.fpOk (Nat.le_refl _) (I1.hok.fresh (Nat.le_refl _))
theorem Same.upd {H:Hp}{a:Addr}{o:HO}(h:H a=none):Same H (upd H a o):=fun b u e=>by rw [Qad (Qaj e h)];exact e
def QcU (l z:Int):List (Key × V):=[(Sum.inr "left",V.int l),(Sum.inr "salt",V.int z)]
theorem ls0:¬ ("left" : Str) = "salt" := by decide +kernel
theorem QeH (l l' z:Int):Qda (QcU l z) (Sum.inr "left") (.int l')=QcU l' z:=by
 unfold Qda QcU
 simp
 exact fun h=>absurd h.symm ls0
theorem Qen (l z z':Int):Qda (QcU l z) (Sum.inr "salt") (.int z')=QcU l z':=by
 unfold Qda QcU
 simp [ls0]
def DK (h h':Heap):Prop:=∀ (b:Addr) (o:Obj),h.objs[b]? = some o->∃ o',h'.objs[b]? = some o'/\o'.dict=o.dict
theorem DK.refl (h:Heap):DK h h:=fun b o e=>⟨o,e,rfl⟩
theorem DK.trans {h h1 h2:Heap}(x:DK h h1)(y:DK h1 h2):DK h h2:=fun b o e=>by
 obtain ⟨o1,e1,q1⟩:=x b o e
 obtain ⟨o2,e2,q2⟩:=y b o1 e1
 exact ⟨o2,e2,q2.trans q1⟩
theorem Qlk {h:Heap}{b:Addr}{o:Obj}(e:h.get? b=some o):h.objs[b]? = some o:=by
 unfold Heap.get? at e
 split at e
 ·cases e
 ·exact e
theorem DK.get {h h':Heap}(x:DK h h'){b:Addr}{o o':Obj}(e:h.get? b=some o)(e':h'.get? b=some o'):o'.dict=o.dict:=by
 obtain ⟨o1,e1,q⟩:=x b o (Qlk e)
 rw [Qlk e'] at e1
 cases e1;exact q
def KD {α:Type}(t:Sem α):Prop:=∀ (M:Model) (Γ:PySem.Ctx) (Q:α->Pos->Shared->Prop) (E:Value->Pos->Shared->Prop) (p:Pos) (s:Shared),Sem.wp M Γ t Q E p s->Sem.wp M Γ t (fun a p' s'=>Q a p' s'/\DK s.heap s'.heap) E p s
section
variable {α β:Type}
theorem KD.pure {a:α}:KD (Pure.pure a:Sem α):=fun M Γ Q E p s h=>⟨h,DK.refl _⟩
theorem KD.uns {what:String}:KD (unsupported what:Sem α):=fun M Γ Q E p s h=>h
theorem KD.bind {m:Sem α}{f:α->Sem β}(hm:KD m)(hf:∀ a,KD (f a)):KD (m >>= f):=fun M Γ Q E p s h=>by
 rw [Sem.wp_bind'] at h ⊢
 refine Sem.wp_mono M Γ m (fun a p' s' q=>?_) (fun _ _ _ z=>z) p s (hm M Γ _ E p s h)
 exact Sem.wp_mono M Γ (f a) (fun b p'' s'' z=>⟨z.1,q.2.trans z.2⟩) (fun _ _ _ z=>z) p' s' (hf a M Γ _ E p' s' q.1)
theorem KD.load {a:Addr}:KD (load a):=fun M Γ Q E p s ⟨o,e,h⟩=>⟨o,e,h,DK.refl _⟩
theorem KD.stack:KD stack:=fun M Γ Q E p s h=>⟨h,DK.refl _⟩
theorem KD.alloc {o:Obj}:KD (alloc o):=fun M Γ Q E p s h=>⟨h,fun b o' e=>⟨o',by
 show (s.heap.push o).objs[b]? = some o'
 revert e
 generalize s.heap=hp
 obtain ⟨os,l⟩:=hp
 intro e
 have lt:b<os.size:=(Array.getElem?_eq_some_iff.mp e).1
 show (os.push o)[b]? = some o'
 rw [Array.getElem?_push,if_neg (Nat.ne_of_lt lt)];exact e,rfl⟩⟩
theorem KD.update {a:Addr}{f:Obj->Obj}(hf:∀ o,(f o).dict=o.dict):KD (update a f):=fun M Γ Q E p s ⟨e,h⟩=>⟨e,h,fun b o' e=>by
 show ∃ o2,(s.heap.update a f).objs[b]? = some o2/\o2.dict=o'.dict
 revert e
 generalize s.heap=hp
 obtain ⟨os,l⟩:=hp
 intro e
 show ∃ o2,(os.modify a f)[b]? = some o2/\o2.dict=o'.dict
 rw [Array.getElem?_modify]
 rw [show os[b]? = some o' from e]
 by_cases q:a=b
 ·rw [if_pos q];exact ⟨f o',rfl,hf o'⟩
 ·rw [if_neg q];exact ⟨o',rfl,rfl⟩⟩
theorem KD.ite {c:Prop}[Decidable c]{x y:Sem α}(hx:KD x)(hy:KD y):KD (if c then x else y):=by
 by_cases h:c
 ·rw [if_pos h];exact hx
 ·rw [if_neg h];exact hy
end
theorem QjE (f:Array Value->Array Value)(o:Obj):(Obj.mapFields f o).dict=o.dict:=by
 obtain ⟨c,d,x,s⟩:=o
 cases x<;>rfl
theorem Qdf (v:Value)(i:Nat):KD (field v i):=by
 unfold field fieldsOf
 refine KD.bind ?_ fun vs=>?_
 ·cases v with
  |ref a=>
   refine KD.bind KD.load fun o=>?_
   cases o.data with
   |fields vs=>exact KD.pure
   |_=>exact KD.uns
  |_=>exact KD.uns
 ·cases vs[i]? with
  |some x=>exact KD.pure
  |none=>exact KD.uns
theorem Qcf (v:Value)(i:Nat)(x:Value):KD (setField v i x):=by
 unfold setField
 cases v with
 |ref a=>
  unfold updateField
  refine KD.bind KD.load fun o=>?_
  cases o.data with
  |fields vs=>exact KD.ite (KD.update (QjE _)) KD.uns
  |_=>exact KD.uns
 |_=>exact KD.uns
theorem QbM (e:Value)(f:Option Addr):KD (setFlight e f):=by
 unfold setFlight
 exact KD.bind (Qdf _ _) fun tb=>KD.ite (Qcf _ _ _) KD.pure
theorem Qgy:∀ l:List Env,KD (readyFrames l)
 | []=>KD.pure
 |env :: outer=>by
  unfold readyFrames
  cases env.frame with
  |none=>exact KD.uns
  |some f=>
   refine KD.bind KD.load fun o=>KD.ite KD.pure ?_
   refine KD.bind ?_ fun im=>KD.bind ?_ fun bk=>KD.bind (KD.update fun o=>rfl) fun _=>Qgy outer
   ·unfold behindIsImport
    refine KD.ite KD.pure (KD.ite KD.pure (KD.bind (Qdf _ _) fun _=>KD.pure))
   ·cases outer with
    |nil=>
     unfold keptBack
     refine KD.ite KD.pure (KD.bind ?_ fun b=>KD.pure)
     unfold underTheClaimsCaller
     exact KD.bind KD.stack fun _=>KD.pure
    |cons c r=>exact KD.pure
theorem QhA (env:Env):KD (PySem.frameOf env):=by
 unfold PySem.frameOf
 refine KD.bind ?_ fun l=>KD.bind ?_ fun o=>?_
 ·unfold frameEnvs
  exact KD.bind KD.stack fun _=>KD.pure
 ·cases (l.dropWhile (·.frame != env.frame)) with
  |nil=>exact KD.pure
  |cons e r=>
   unfold frameObject
   exact KD.bind (Qgy _) fun _=>KD.pure
 ·cases o with
  |some f=>exact KD.pure
  |none=>exact KD.uns
theorem Qle (f:Addr)(b:Bool):KD (entryPlaceOf f b):=by
 unfold entryPlaceOf
 refine KD.bind KD.stack fun acts=>?_
 split<;>exact KD.pure
theorem QfK (a b c d e:Value)(l:List Value):KD (EntryCells.newEntry a b c d e l):=by
 unfold EntryCells.newEntry newFields newObj newObjAsIs
 dsimp only
 refine KD.ite (KD.bind KD.uns fun _=>?_) ?_
 all_goals exact KD.bind KD.alloc fun _=>KD.pure
theorem Qc4 (e:Value)(env:Env):KD (noteFrame e env):=by
 unfold noteFrame
 cases env.frame with
 |none=>exact KD.uns
 |some f=>
  refine KD.bind (Qdf _ _) fun head=>?_
  have rest:∀ h b,KD (do let a ← PySem.frameOf env;let pl ← entryPlaceOf f b;let x ← EntryCells.newEntry h a .none (rawInt f) .none pl;setField e 1 x):=fun h b=>
   KD.bind (QhA _) fun _=>KD.bind (Qle _ _) fun _=>KD.bind (QfK _ _ _ _ _ _) fun _=>Qcf _ _ _
  refine KD.ite ?_ (rest _ _)
  refine KD.bind (Qdf _ _) fun x=>KD.ite KD.pure ?_
  exact KD.bind (Qcf _ _ _) fun _=>rest _ _
theorem Qd9 (env:Env)(e:Value):KD (leaving env e):=KD.bind (Qc4 _ _) fun _=>QbM _ _
theorem Qfc {α:Type}{t:Sem α}{M:Model}{A:Around}{Q:α->Shared->Prop}{E:Value->Shared->Prop}{s:Shared}(k:KD t)(h:wpAny M A t (fun a s'=>DK s.heap s'.heap->Q a s') E s):wpAny M A t Q E s:=fun Γ p hΓ=>
 Sem.wp_mono M Γ t (fun a p' s' z=>z.1 z.2) (fun _ _ _ z=>z) p s (k M Γ _ _ p s (h Γ p hΓ))
structure ExcAt (s:Shared)(H:Hp)(h:Heap)(e:Addr)(cv:Value)(dx:Option Addr):Prop where
 dk:∀ d,dx=some d->∃ oe,h.get? e=some oe/\oe.dict=some d
 new:s.heap.get? e=none
 free:H e=none
 tr:∃ oe vs a0 T oT ts,h.get? e=some oe/\oe.cls=cv/\vs[0]? = some a0/\oe.data=.fields vs/\vs[1]? = some (.ref T)/\T≠e/\s.heap.get? T=none/\H T=none/\h.get? T=some oT/\oT.data=.fields ts/\ts[3]? = some .none
def CXe (P:Program)(w:World):CXT:=fun outer H s E ev s'=>∃ e cv dx H',ev=.ref e/\s'.os=s.os/\AllBare s'.gens/\Un (frs outer) [] H H' s.heap s'.heap/\HOk P w H' s'.heap/\ExcAt s H' s'.heap e cv dx/\E cv dx H'
structure IsDef (X:Cx):Prop where
 stk:X.stack=X.env :: X.outer
 fr:X.env.frame=some X.env.locals
 ex:X.ex=[]
section
variable {X:Cx}{pins:List (Addr × Obj)}{σ:St}{H:Hp}{s:Shared}
theorem Inv.frames (I:Inv X pins σ H s):∀ b∈frs X.stack,∃ o,s.heap.get? b=some o/\∀ vs,o.data≠.fields vs:=fun b hb=>(I.stack.mem hb).2
theorem QnI {l:List Env}:∀ env∈l,∀ a,env.frame=some a->a∈frs l:=fun env he a hf=>List.mem_filterMap.mpr ⟨env,he,hf⟩
structure Qkc (X:Cx)(extra:List Addr)(h h':Heap):Prop where
 keep:∀ b o,h.get? b=some o->b∉frs X.stack->b∉extra->h'.get? b=some o
 slot:∀ b o,h.get? b=some o->b∈frs X.stack->∃ sl,h'.get? b=some { o with slots:=sl }
theorem Inv.baseOf {h':Heap}{extra:List Addr}(I:Inv X pins σ H s)(hs:∀ b∈frs X.stack,b=X.env.locals\/b∈X.fs)(hx:∀ b∈extra,X.s₀.heap.get? b=none)(f:Qkc X extra s.heap h')(hfs:∀ b∈X.fs,b∈frs X.stack) :
  Un X.fs X.ex X.H₀ H X.s₀.heap h':=by
 have nx:∀ b o,X.s₀.heap.get? b=some o->b∉extra:=fun b o e z=>by rw [hx b z] at e;cases e
 have nl:∀ b o,X.s₀.heap.get? b=some o->b∉X.fs->b∉frs X.stack:=fun b o e n z=>by
  rcases hs b z with q | q
  ·exact absurd (Nat.lt_of_lt_of_le (Heap.lt_size e) I.ok.above) (by rw [q];exact Nat.lt_irrefl _)
  ·exact n q
 refine ⟨fun b o e n hb hx'=>f.keep b o (I.base.keep b o e n hb hx') (nl b o e hb) (nx b o e),fun b o e n hb hx'=>?_,I.base.free,fun b o e hx'=>?_,I.base.tups,I.base.frzs,I.base.tbls⟩
 ·obtain ⟨sl,q⟩:=I.base.slot b o e n hb hx'
  obtain ⟨sl',q'⟩:=f.slot b _ q (hfs b hb)
  exact ⟨sl',q'⟩
 ·obtain ⟨o',q⟩:=I.base.there b o e hx'
  by_cases hb:b∈frs X.stack
  ·obtain ⟨sl,q'⟩:=f.slot b o' q hb
   exact ⟨_,q'⟩
  ·exact ⟨o',f.keep b o' q hb (nx b o e)⟩
theorem Inv.hokOf {h':Heap}{extra:List Addr}(I:Inv X pins σ H s)(hx:∀ b∈extra,H b=none)(f:Qkc X extra s.heap h'):HOk X.prog X.w H h':=fun a o e=>by
 have exact':∀ b u,(∃ z,H b=some z)->s.heap.get? b=some u->h'.get? b=some u:=fun b u ⟨z,hz⟩ q=>f.keep b u q (fun m=>by rw [I.stkFree b m] at hz;cases hz) fun m=>by rw [hx b m] at hz;cases hz
 refine (I.hok a o e).stay (fun b u hb q=>exact' b u ?_ q) (fun _ q=>q) fun _ _ q=>q
 rcases hb with rfl | hb
 ·exact ⟨_,e⟩
 ·exact ⟨_,hb⟩
theorem IsDef.in_stack (d:IsDef X)(b:Addr)(hb:b∈frs X.stack):b=X.env.locals\/b∈X.fs:=by
 rw [d.stk] at hb
 unfold frs at hb
 rw [List.filterMap_cons,d.fr] at hb
 exact List.mem_cons.mp hb
theorem IsDef.fs_in (d:IsDef X)(b:Addr)(hb:b∈X.fs):b∈frs X.stack:=by
 rw [d.stk]
 unfold frs
 rw [List.filterMap_cons,d.fr]
 exact List.mem_cons_of_mem _ hb
theorem Inv.flew {h':Heap}{extra:List Addr}(d:IsDef X)(I:Inv X pins σ H s)
  (x1:∀ b∈extra,X.s₀.heap.get? b=none) (x2:∀ b∈extra,H b=none) (x3:∀ b∈extra,b≠X.env.locals) (x4:∀ b∈extra,∀ y c,X.env.cells.lookup y=some c->c≠b) (x5:∀ b∈extra,∀ p∈X.pn++pins,p.1≠b)
  (f:Qkc X extra s.heap h'):Inv X pins σ H { s with heap:=h' }:=by
 have one:∀ b o,s.heap.get? b=some o->b∉extra->∃ sl,h'.get? b=some { o with slots:=sl }:=fun b o e n=>by
  by_cases hb:b∈frs X.stack
  ·exact f.slot b o e hb
  ·exact ⟨o.slots,f.keep b o e hb n⟩
 have cellK:∀ y c,X.env.cells.lookup y=some c->∀ v,s.heap.IsCell c v->Heap.IsCell h' c v:=fun y c e v ⟨o,ho,hd⟩=>by
  obtain ⟨sl,q⟩:=one c o ho fun z=>x4 c z y c e rfl
  exact ⟨_,q,hd⟩
 refine ⟨I.ok,I.os,I.bare,I.baseOf d.in_stack x1 f d.fs_in,?_,fun y c e=>?_,I.free,I.freeC,fun p hp=>?_,I.hokOf x2 f,I.len⟩
 ·obtain ⟨m,⟨o,es,ep,ho,r⟩,hl⟩:=I.loc
  obtain ⟨sl,q⟩:=one _ o ho fun z=>x3 _ z rfl
  refine ⟨m,⟨_,es,ep,q,r⟩,fun i y v e1 e2 e3=>?_⟩
  obtain ⟨u,ru,l⟩:=hl i y v e1 e2 e3
  refine ⟨u,ru,?_⟩
  rcases l with l | ⟨k,c,e,z⟩
  ·exact .inl l
  ·exact .inr ⟨k,c,e,cellK y c e _ z⟩
 ·obtain ⟨v,z⟩:=I.cell y c e
  exact ⟨v,cellK y c e v z⟩
 ·obtain ⟨p1,p2,p3,p4,p5⟩:=I.pin p hp
  exact ⟨f.keep _ _ p1 (fun z=>(List.mem_cons.mp (I.stkSub p.1 z)).elim p3 p4) fun z=>x5 _ z p hp rfl,p2,p3,p4,p5⟩
def QhK (X:Cx)(extra:List Addr)(h:Heap):Heap:=PySem.W.hideAll h (frs X.stack++extra)
theorem QcL {extra:List Addr}{h:Heap}:(QhK X extra h).StaysIn h:=fun b o e=>PySem.W.of_hideAll _ e
theorem Qb7 {extra:List Addr}(I:Inv X pins σ H s):s.heap.FunFrames (QhK X extra s.heap) X.stack:=PySem.W.funFrames_hide I.stack fun env he a hf=>List.mem_append_left _ (QnI env he a hf)
theorem Qbm {extra:List Addr}{h:Heap}{b:Addr}(hb:b∈extra):(QhK X extra h).get? b=none:=PySem.W.hideAll_none _ (List.mem_append_right _ hb)
theorem Qgd {extra:List Addr}{h':Heap}(I:Inv X pins σ H s)(k:(QhK X extra s.heap).StaysIn h')(u:s.heap.UpToSlots h'):Qkc X extra s.heap h':=by
 refine ⟨fun b o e n1 n2=>k b o (PySem.W.hideAll_get _ e fun z=>(List.mem_append.mp z).elim n1 n2),fun b o e hb=>?_⟩
 obtain ⟨o',e',hd⟩:=I.frames b hb
 rw [e] at e';cases e'
 exact u b o e hd
theorem Inv.there {T:Addr}{o:HO}(I:Inv X pins σ H s)(q:H T=some o):∃ ob,s.heap.get? T=some ob:=by
 have z:=I.hok T o q
 cases o with
 |lst xs=>obtain ⟨_,_,_,_,e⟩:=z;exact ⟨_,e⟩
 |tup xs=>obtain ⟨_,_,_,ob,e,_⟩:=z;exact ⟨_,e⟩
 |dK kvs=>obtain ⟨_,_,_,_,ob,_,_,e,_⟩:=z;exact ⟨_,e⟩
 |dT kvs=>obtain ⟨_,_,_,_,ob,_,_,e,_⟩:=z;exact ⟨_,e⟩
 |set S n=>obtain ⟨ob,_,_,_,e,_⟩:=z;exact ⟨_,e⟩
 |ins C dx fs=>obtain ⟨_,_,_,e,_⟩:=z;exact ⟨_,e⟩
 |own y=>obtain ⟨_,e⟩:=z;exact ⟨_,e⟩
 |xd fs=>obtain ⟨_,⟨_,_,_,e,_⟩,_⟩:=z;exact ⟨_,e⟩
 |rng lo hi=>obtain ⟨_,_,_,e⟩:=z;exact ⟨_,e⟩
 |frz ob u=>obtain ⟨e,_⟩:=z;exact ⟨_,e⟩
 |tbl ps=>exact ⟨_,(show s.heap.get? T=some _ from z)⟩
 |met f y=>exact ⟨_,(show s.heap.get? T=some _ from z)⟩
 |ext φ=>obtain ⟨_,⟨_,e⟩,_⟩:=z;exact ⟨_,e⟩
theorem Qpn {extra:List Addr}{h':Heap}{T:Addr}{oT:Obj}{ts:Array Value}(I:Inv X pins σ H s)(hex:X.ex=[])(x1:∀ b∈extra,X.s₀.heap.get? b=none)(x2:∀ b∈extra,H b=none)(f:Qkc X extra s.heap h')
  (hB:(QhK X extra s.heap).get? T=none) (hT:h'.get? T=some oT) (hd:oT.data=.fields ts):X.s₀.heap.get? T=none/\H T=none:=by
 have nf:T∉frs X.stack:=fun z=>by
  obtain ⟨o,e,nd⟩:=I.frames T z
  obtain ⟨sl,q⟩:=f.slot T o e z
  rw [hT] at q;cases q
  exact nd ts hd
 have key:T∈extra\/s.heap.get? T=none:=by
  by_cases hm:T∈extra
  ·exact .inl hm
  ·refine .inr ?_
   cases e:s.heap.get? T with
   |none=>rfl
   |some o=>
    have q:(QhK X extra s.heap).get? T=some o:=PySem.W.hideAll_get _ e fun z=>(List.mem_append.mp z).elim nf hm
    rw [hB] at q;cases q
 rcases key with m | e
 ·exact ⟨x1 T m,x2 T m⟩
 ·refine ⟨?_,?_⟩
  ·cases q:X.s₀.heap.get? T with
   |none=>rfl
   |some o=>
    obtain ⟨o',q'⟩:=I.base.there T o q (by rw [hex];simp)
    rw [e] at q';cases q'
  ·cases q:H T with
   |none=>rfl
   |some o=>
    obtain ⟨ob,q'⟩:=I.there q
    rw [e] at q';cases q'
theorem Qlx {h':Heap}{extra:List Addr}{e:Addr}{cv:Value}{dx:Option Addr}{E:XK}(d:IsDef X)(I:Inv X pins σ H s)(x1:∀ b∈extra,X.s₀.heap.get? b=none)(x2:∀ b∈extra,H b=none)(f:Qkc X extra s.heap h')(x:ExcAt X.s₀ H h' e cv dx)(k:E cv dx H) :
  CXe X.prog X.w X.outer X.H₀ X.s₀ E (.ref e) { s with heap:=h' }:=by
 have u:=I.baseOf d.in_stack x1 f d.fs_in
 rw [d.ex] at u
 exact ⟨e,cv,dx,H,rfl,I.os,I.bare,u,I.hokOf x2 f,x,k⟩
theorem Inv.old (I:Inv X pins σ H s)(hex:X.ex=[]){b:Addr}(h:s.heap.get? b=none):X.s₀.heap.get? b=none:=by
 cases q:X.s₀.heap.get? b with
 |none=>rfl
 |some o=>
  obtain ⟨o',q'⟩:=I.base.there b o q (by rw [hex];simp)
  rw [h] at q';cases q'
theorem QqT {B h':Heap}{l:List Env}{e:Addr}{cv a0:Value}{dx:Option Addr}{extra:List Addr}(I:Inv X pins σ H s)(hex:X.ex=[])(x1:∀ b∈extra,X.s₀.heap.get? b=none)(x2:∀ b∈extra,H b=none)(f:Qkc X extra s.heap h')
  (fl:Heap.FlyingW (QhK X extra s.heap) l e cv a0 h') (e1:X.s₀.heap.get? e=none) (e2:H e=none) (dk:∀ d,dx=some d->∃ oe,h'.get? e=some oe/\oe.dict=some d):ExcAt X.s₀ H h' e cv dx:=by
 obtain ⟨_,_,_,oe,vs,T,oT,ts,he,⟨hc,h0⟩,hd,h1,hB,hTe,hT,hdT,h3⟩:=fl
 obtain ⟨n1,n2⟩:=Qpn I hex x1 x2 f hB hT hdT
 exact ⟨dk,e1,e2,oe,vs,a0,T,oT,ts,he,hc,h0,hd,h1,hTe,n1,n2,hT,hdT,h3⟩
theorem Qlb {e:Addr}{cv:Value}{dx:Option Addr}{E:XK}{E1:Value->Shared->Prop}(d:IsDef X)(I:Inv X pins σ H s)(x:ExcAt X.s₀ H s.heap e cv dx)(k:E cv dx H) :
  wpAny (model X.prog X.w) X.A (leaving X.env (.ref e)) (fun _ s2=>CXe X.prog X.w X.outer X.H₀ X.s₀ E (.ref e) s2) E1 s:=by
 obtain ⟨dk,e1,e2,oe,vs,a0,T,oT,ts,he,hc,h0,hd,h1,hTe,n1,n2,hT,hdT,h3⟩:=x
 have fr:X.A.frames=some (X.env :: X.outer):=by rw [I.ok.frames,d.stk]
 have x1:∀ b∈[e,T],X.s₀.heap.get? b=none:=fun b hb=>by
  rcases List.mem_cons.mp hb with rfl | hb
  ·exact e1
  ·rw [List.mem_singleton.mp hb];exact n1
 have x2:∀ b∈[e,T],H b=none:=fun b hb=>by
  rcases List.mem_cons.mp hb with rfl | hb
  ·exact e2
  ·rw [List.mem_singleton.mp hb];exact n2
 have fly:Heap.FlyingW (QhK X [e,T] s.heap) (X.env :: X.outer) e cv a0 s.heap:=
  ⟨QcL,Qbm (by simp),by rw [← d.stk];exact Qb7 I,oe,vs,T,oT,ts,he,⟨hc,h0⟩,hd,h1,Qbm (by simp),hTe,hT,hdT,h3⟩
 refine Qfc (Qd9 _ _) (wpAny_leaves_onW fr d.fr fly fun h' fl up kk=>?_)
 have f:Qkc X [e,T] s.heap h':=Qgd I fl.1 up
 exact Qlx (s:=s) d I x1 x2 f (QqT (B:=s.heap) I d.ex x1 x2 f fl e1 e2 fun d0 z=>by
  obtain ⟨o1,q1,q2⟩:=dk d0 z
  obtain ⟨o2,p1,_⟩:=fl.there
  exact ⟨o2,p1,(kk.get q1 p1).trans q2⟩) k
theorem Inv.raised {e:Value}{E:XK}{s':Shared}(I:Inv X pins σ H s)(h:CXe X.prog X.w X.stack H s E e s'):∃ ea cv dx H',e=.ref ea/\Inv X pins σ H' s'/\ExcAt s H' s'.heap ea cv dx/\E cv dx H':=by
 obtain ⟨ea,cv,dx,H',rfl,os,bare,un,hok,x,k⟩:=h
 exact ⟨ea,cv,dx,H',rfl,I.call' (ch:=[]) os un hok bare (fun b z=>absurd z (by simp)),x,k⟩
theorem ExcAt.older {s':Shared}{h:Heap}{e:Addr}{cv:Value}{dx:Option Addr}(x:ExcAt s H h e cv dx)(k:∀ b,s.heap.get? b=none->s'.heap.get? b=none):ExcAt s' H h e cv dx:=by
 obtain ⟨dk,e1,e2,oe,vs,a0,T,oT,ts,he,hc,h0,hd,h1,hTe,n1,n2,r⟩:=x
 exact ⟨dk,k _ e1,e2,oe,vs,a0,T,oT,ts,he,hc,h0,hd,h1,hTe,k _ n1,n2,r⟩
end
section
variable {CX:CXT}{P:Program}{w:World}{K:PySem.W.Frag}{mg:Str->Option Value}{base:Heap}{N:List Str}{qual:Str}{scope:Scope}{f:Addr}{cd:Value}{A:Around}{outer:List Env}{s:Shared}{H:Hp}{E:XK}
theorem Qet:IsDef (Qb3 CX P w K mg base N qual scope f cd A outer s H E):=⟨rfl,rfl,rfl⟩
theorem Qsz:QjF (CXe P w) (Qb3 (CXe P w) P w K mg base N qual scope f cd A outer s H E) E:=fun pins σ H1 s1 e s' I h=>by
 obtain ⟨ea,cv,dx,H',rfl,I',x,k⟩:=I.raised h
 exact Qlb Qet I' (x.older fun b z=>I.old rfl z) k
theorem QtI:PassesOwn (model P w) (A.deeper (envOfC qual scope s.heap.objs.size f cd)) (envOfC qual scope s.heap.objs.size f cd) (Qb3 (CXe P w) P w K mg base N qual scope f cd A outer s H E).xe:=PassesOwn.leaving
abbrev bmV:List Value:=[.type "ValueError",.type "Exception",.type "BaseException",.type "object"]
end
theorem Fun.okE {P:Program}{w:World}{K:PySem.W.Frag}{mg:Str->Option Value}{base:Heap}{x qual:Str}{st:Stmt}{f:Addr}{fd:FuncData}{N ps:List Str}{k:Nat}{sp:Sp}(F:Fun K x qual st f fd)(S:QcS N ps (Qal st))(len:∀ vs H Q E,sp vs H Q E->vs.length=ps.length)
  (hbody:∀ (cdv:Value) (A:Around) (outer:List Env) (s:Shared) (H:Hp) (vs:List V) (Q:VK) (E:XK),Room k (A.deeper (envOfC qual (Qal st) s.heap.objs.size f cdv))->A.handled=none->sp vs H Q E->
   ∃ t,PSs (Qb3 (CXe P w) P w K mg base N qual (Qal st) f cdv A outer s H E) (Qbc st) t/\t { nx:=fun _ H'=>Q .non H',rt:=Q } (QcW N vs) H):FnOk P w K mg base (CXe P w) (k+1) f fd ps sp:=by
 obtain ⟨oc,od,kV,doc,pm,an,cdv,ct,osl,rfl,lk,hcd⟩:=F.ex
 exact Qqu lk hcd S len fun A outer s H vs Q E hr hsp=>hbody cdv A outer s H vs Q E hr hr.hd hsp
def Cx.sui (X:Cx)(ev:Value):Cx:={ X with A:=X.A.mark (some ev),calm:=false,xe:=fun _ _=>False }
def Cx.tryc (X:Cx)(hs:List ExceptHandler)(pins:List (Addr × Obj))(D:Ends):Cx:=
 { X with pn:=X.pn++pins,xe:=fun e s₁=>wpAny (model X.prog X.w) X.A (noteFrame e X.env) (fun _ s₂=>wpAny (model X.prog X.w) X.A (setFlight e none) (fun _ s₃=>wpAny (model X.prog X.w) X.A (handleBy e X.env hs) (SP X pins D) X.xe s₃) X.xe s₂) X.xe s₁ }
section
variable {X:Cx}{hs:List ExceptHandler}{pins pins':List (Addr × Obj)}{σ:St}{H:Hp}{s:Shared}{D:Ends}
theorem Inv.into (I:Inv X pins σ H s):Inv (X.tryc hs pins D) [] σ H s:=
 ⟨⟨I.ok.mod,I.ok.kind,I.ok.glob,I.ok.blt,I.ok.above,I.ok.inj,I.ok.has,I.ok.cab,I.ok.hd,I.ok.frames,I.ok.stk,I.ok.exf,I.ok.bs,I.ok.bsz,I.ok.noex,I.ok.exfs,I.ok.funs,I.ok.frf⟩,I.os,I.bare,I.base,I.loc,I.cell,I.free,I.freeC,fun p hp=>I.pin p (by have z:p∈(X.pn++pins)++[]:=hp;rw [List.append_nil] at z;exact z),I.hok,I.len⟩
theorem Inv.outof (I:Inv (X.tryc hs pins D) pins' σ H s):Inv X pins σ H s:=
 ⟨⟨I.ok.mod,I.ok.kind,I.ok.glob,I.ok.blt,I.ok.above,I.ok.inj,I.ok.has,I.ok.cab,I.ok.hd,I.ok.frames,I.ok.stk,I.ok.exf,I.ok.bs,I.ok.bsz,I.ok.noex,I.ok.exfs,I.ok.funs,I.ok.frf⟩,I.os,I.bare,I.base,I.loc,I.cell,I.free,I.freeC,fun p hp=>I.pin p (List.mem_append_left _ hp),I.hok,I.len⟩
theorem Inv.insui {ev:Value}(I:Inv X pins σ H s):Inv (X.sui ev) pins σ H s:=
 ⟨⟨I.ok.mod,I.ok.kind,I.ok.glob,I.ok.blt,I.ok.above,I.ok.inj,I.ok.has,I.ok.cab,fun z=>absurd (show false=true from z) Bool.false_ne_true,I.ok.frames,I.ok.stk,I.ok.exf,I.ok.bs,I.ok.bsz,I.ok.noex,I.ok.exfs,I.ok.funs,I.ok.frf⟩,I.os,I.bare,I.base,I.loc,I.cell,I.free,I.freeC,I.pin,I.hok,I.len⟩
theorem Inv.outsui {ev:Value}(hd:X.calm=true->X.A.handled=none)(I:Inv (X.sui ev) pins σ H s):Inv X pins σ H s:=
 ⟨⟨I.ok.mod,I.ok.kind,I.ok.glob,I.ok.blt,I.ok.above,I.ok.inj,I.ok.has,I.ok.cab,hd,I.ok.frames,I.ok.stk,I.ok.exf,I.ok.bs,I.ok.bsz,I.ok.noex,I.ok.exfs,I.ok.funs,I.ok.frf⟩,I.os,I.bare,I.base,I.loc,I.cell,I.free,I.freeC,I.pin,I.hok,I.len⟩
end
structure QcO (P:Program)(w:World)(K:PySem.W.Frag)(mg:Str->Option Value)(base:Heap)(k:Nat)(x:Str)(ps:List Str)(sp:Sp):Prop where
 ex:∃ f fd,FnOk P w K mg base (CXe P w) k f fd ps sp/\mg x=some (.ref f)/\PySem.W.keepIn K (.ref f)=true/\Binds K fd ps []
def Ext (σ τ:St):Prop:=τ.length=σ.length/\∀ (i:Nat) v,σ[i]? = some (some v)->τ[i]? = some (some v)
def Qfo (wi:TI)(ix:List (Option Nat))(g:TG)(tc:TT)(te:TE):TE:=fun σ H Q=>wi σ H fun J H1=>∃ W:Nat->Nat->List V->Hp->Prop,(∃ m,W 0 m [] H1)/\∀ i m ys H,W i m ys H->
 (J.stop i H/\∀ D,H D=none->Q (.ref D) (upd H D (.lst ys)))\/
 (J.go i H/\∃ N:List V->Hp->Prop,(∀ ys' H',N ys' H'->∃ m',m' < m/\W (i+1) m' ys' H')/\∀ x H',J.yld i H x H'->
  g x (QaG ix σ) H' fun τ H1'=>Ext (QaG ix σ) τ/\tc τ H1' fun c H2=>if c=true then te τ H2 fun y H3=>ys.length<sizeLine/\N (ys++[y]) H3 else N ys H2)
theorem Qdw {X:Cx}{elt iter tg:Expr}{pos:Pos}{ifs:List Expr}{scope:Scope}{N:List Str}{ix:List (Option Nat)}{wi:TI}{g:TG}{tc:TT}{te:TE}
  (hc:X.calm=true) (B:Blk X scope N ix) (hg:∀ pins C s H ex,PG (X.blk scope N pins C s H ex) tg g)
  (ht:∀ pins C s H ex,PIf (X.blk scope N pins C s H ex) ifs tc) (he:∀ pins C s H ex,PE (X.blk scope N pins C s H ex) elt te)
  (hs:∀ x,foldedSetIterable iter X.env x=pure x) {pins:List (Addr × Obj)} {s:Shared} {σ:St} {H:Hp} {Q:VK} {pos':Pos} {use:Option (Value->Sem Unit)} {Post:Value->Shared->Prop} (I:Inv X pins σ H s) (hi:∀ R:It->Hp->Prop,wi σ H R->wpAny (model X.prog X.w) X.A (eval iter X.env) (fun v s1=>wpAny (model X.prog X.w) X.A (pyIter v) (PIE X pins σ tg R) X.xe s1) X.xe s) (h:Qfo wi ix g tc te σ H Q)
  (fin:∀ {s4:Shared} {H3:Hp} {D C:Addr} {ys:List V} {m:Str->Option Value},s4.heap.Ns C m->(∀ h',Heap.SameBut C s4.heap h'->Inv X pins σ (upd H3 D (.lst ys)) { s4 with heap:=h' })->C≠X.env.locals->(∀ y c,X.env.cells.lookup y=some c->c≠C)->(∀ p∈X.pn++pins,p.1≠C)->X.s₀.heap.objs.size<=C->upd H3 D (.lst ys) C=none->Q (.ref D) (upd H3 D (.lst ys))->∀ v,compPost (model X.prog X.w) X.A X.xe use Post (.ref D) C (.ok v) s4) :
  wpAny (model X.prog X.w) X.A (comprehension (.ListComp elt [⟨tg,iter,ifs,0⟩] scope pos) scope X.env pos' (newList []) false (eval iter X.env) use) Post X.xe s:=by
 have hcl:∀ y∈scope.names,y.2=.free->∃ c,X.env.cells.lookup y.1=some c:=fun y hy hf=>I.ok.has y.1 (B.free y hy hf)
 refine wpAny_comprehension_free (use:=use) (cl:=Qfv X.env.cells scope.names) rfl hs (Qhy hcl) B.kind B.names ?_
 refine thn (hi _ h) fun v s1 h1=>thn h1 fun itv s2 h2=>?_
 obtain ⟨it,fp,tn,J,H2,e,I2,T,st2,f2,W,⟨m0,w0⟩,turn⟩:=h2
 subst e
 refine wpAny_newObj_type (wpAny_newFunctionEnv B.nocell (by intro y hy;simp at hy) (fun h₁ hns₁ hsb₁=>?_) B.kind)
 dsimp only at hns₁ hsb₁ ⊢
 generalize hHp:s2.heap.push { cls:=.type "list",dict:=none,data:=.seq ([]:List Value).toArray }=Hq at hns₁ hsb₁ ⊢
 generalize hD:s2.heap.objs.size=D at hns₁ hsb₁ ⊢
 generalize hCq:Hq.objs.size=C at hns₁ hsb₁ ⊢
 have hC:C=D+1:=by rw [← hCq,← hHp,Heap.size_push,hD]
 have hDC:D≠C:=by omega
 have below:∀ b o,s2.heap.get? b=some o->b≠C/\b≠D:=fun b o e=>by
  have h1:b<D:=by rw [← hD];exact Heap.lt_size e
  exact ⟨Nat.ne_of_lt (Nat.lt_of_lt_of_le h1 (by rw [hC];exact Nat.le_succ D)),Nat.ne_of_lt h1⟩
 have old:∀ b o,s2.heap.get? b=some o->h₁.get? b=some o:=fun b o e=>hsb₁.extBut b o (below b o e).1 (Heap.get?_push_of_some _ (hHp▸Heap.get?_push_of_some _ e))
 have hDobj:h₁.get? D=some { cls:=.type "list",data:=.seq ([]:List Value).toArray }:=
  hsb₁.extBut _ _ hDC (Heap.get?_push_of_some _ (hHp▸hD▸Heap.get?_push_size _ rfl))
 have H2D:H2 D=none:=I2.hok.fresh (by rw [hD];exact Nat.le_refl _)
 have H2C:H2 C=none:=I2.hok.fresh (by rw [hD];omega)
 have clM:∀ y c,(Qfv X.env.cells scope.names).lookup y=some c->X.env.cells.lookup y=some c:=fun y c e=>Qd0 scope.names [] hcl (fun p hp=>nomatch hp) (y,c) (PySem.mem_of_lookup e)
 have fpLt:∀ b∈fp,∃ o,s2.heap.get? b=some o:=fun b hb=>let ⟨o,e,_⟩:=T.obj 0 _ st2 b hb;⟨o,e⟩
 have pinLt:∀ p∈X.pn++pins,s2.heap.get? p.1=some p.2:=fun p hp=>(I2.pin p hp).1
 have cellLt:∀ y c,X.env.cells.lookup y=some c->∃ o,s2.heap.get? c=some o:=fun y c e=>let ⟨v,o,ho,_⟩:=I2.cell y c e;⟨o,ho⟩
 let Xb:Cx:=X.blk scope N pins C s2 H2 fp
 have okb:Xb.Ok:=by
  refine ⟨I2.ok.mod,B.kind,I2.ok.glob,I2.ok.blt,?_,fun y z c e1 e2=>I2.ok.inj y z c (clM y c e1) (clM z c e2),fun y hy=>?_,fun y c hf _=>?_,I2.ok.hd,I2.ok.frames,.inl rfl,fun b hb=>?_,I2.bs,Nat.le_trans I2.ok.bsz I2.sz,fun b o e hb=>?_,fun b hb hf=>?_,I2.stack,I2.stkFree⟩
  ·show s2.heap.objs.size<=C
   rw [hD];omega
  ·have hy':(y,NameKind.free)∈scope.names:=by
    rcases hy with hy | hy
    ·exact QbJ (env:=X.env) B.nocell (show (relabel scope X.env).names.lookup y=some .cell from hy) (.inl rfl)
    ·exact QbJ (env:=X.env) B.nocell (show (relabel scope X.env).names.lookup y=some .free from hy) (.inr rfl)
   exact QcT (QcX scope.names [] (.inl hy'))
  ·exact absurd (show false=true from hf) Bool.false_ne_true
  ·obtain ⟨o,e⟩:=fpLt b hb
   refine ⟨(below b o e).1,fun y c hy=>?_⟩
   exact (f2 b hb).2.2.2.2.1 y c (clM y c hy)
  ·rcases (f2 b hb).2.2.2.1 with z | z
   ·exact I2.ok.noex b o e z
   ·exact absurd (Nat.lt_of_lt_of_le (Heap.lt_size e) (Nat.le_trans I2.ok.bsz z)) (Nat.lt_irrefl _)
  ·rcases List.mem_cons.mp (I2.stkSub b hf) with z | z
   ·exact (f2 b hb).2.1 z
   ·exact (f2 b hb).2.2.1 z
 have σlen:(QaG ix σ).length=N.length:=by unfold QaG;rw [List.length_map];exact B.len
 have pinFs:∀ p∈X.pn++pins,p.1∉frs X.stack:=fun p hp z=>by
  obtain ⟨_,_,n1,n2,_⟩:=I2.pin p hp
  exact (List.mem_cons.mp (I2.stkSub p.1 z)).elim n1 n2
 have DFs:D∉frs X.stack:=fun z=>by
  rcases List.mem_cons.mp (I2.stkSub D z) with q | q
  ·have h3:=I2.lt
   rw [hD,← q] at h3
   exact absurd h3 (Nat.lt_irrefl _)
  ·exact I2.nofs (by rw [hD];exact Nat.le_refl _) q
 -- at the block's QcW
 have Ib:Inv Xb [(D,{ cls:=.type "list",data:=.seq ([]:List Value).toArray })] (QaG ix σ) H2 { s2 with heap:=h₁,toks:=s2.toks+([]:List (Str × Value)).length }:=by
  refine ⟨okb,rfl,I2.bare,Un.kept old,⟨_,hns₁,fun a y v e1 e2 e3=>?_⟩,fun y c e=>?_,H2C,fun y c e=>I2.freeC y c (clM y c e),fun p hp=>?_,I2.hok.kept old,σlen⟩
  ·unfold QaG at e2
   rw [List.getElem?_map] at e2
   cases q:ix[a]? with
   |none=>rw [q] at e2;cases e2
   |some o=>
    rw [q] at e2
    cases o with
    |none=>cases e2
    |some i=>
     have e2':(σ[i]?).join=some v:=Option.some.inj e2
     have e2'':σ[i]? = some (some v):=by
      cases r:σ[i]? with
      |none=>rw [r] at e2';cases e2'
      |some t=>rw [r] at e2';exact congrArg some e2'
     obtain ⟨n1,n2'⟩:=B.slots a i y q e1
     have n2:(y,NameKind.free)∈scope.names:=PySem.mem_of_lookup n2'
     have kf:=B.free _ n2 rfl
     obtain ⟨m,_,hl⟩:=I2.loc
     obtain ⟨u,r,l⟩:=hl i y v n1 e2'' (kf.elim (fun z=>.inr (.inl z)) fun z=>.inr (.inr z))
     refine ⟨u,r,?_⟩
     rcases l with ⟨l,_⟩ | ⟨_,c,hc1,hc2⟩
     ·rcases kf with z | z<;>(rw [show X.env.kindOf y=some .local from l] at z;cases z)
     ·obtain ⟨c',hc'⟩:=QcT (QcX (cells:=X.env.cells) scope.names [] (.inl n2))
      have:c'=c:=Option.some.inj ((clM y c' hc').symm.trans hc1)
      subst this
      have kb:(relabel scope X.env).names.lookup y=some .cell\/(relabel scope X.env).names.lookup y=some .free:=QbG n2'
      obtain ⟨oc,hoc,hcd⟩:=hc2
      exact .inr ⟨kb,c',hc',oc,old _ _ hoc,hcd⟩
  ·obtain ⟨v,oc,hoc,hcd⟩:=I2.cell y c (clM y c e)
   exact ⟨v,oc,old _ _ hoc,hcd⟩
  ·rcases List.mem_append.mp hp with hp | hp
   ·obtain ⟨p1,p2,p3,p4,p5⟩:=I2.pin p hp
    exact ⟨old _ _ p1,p2,(below _ _ p1).1,pinFs p hp,p5⟩
   ·have e:p=(D,{ cls:=.type "list",data:=.seq ([]:List Value).toArray }):=by simpa using hp
    subst e
    exact ⟨hDobj,H2D,hDC,DFs,fun v z=>nomatch z⟩
 have stat:∀ {H':Hp} {ob:Obj},(∀ b∈fp,H' b=none)->∀ b∈fp,Qi2 Xb [(D,ob)] H' b:=fun {H' ob} hn b hb=>by
  obtain ⟨o,e⟩:=fpLt b hb
  refine ⟨hn b hb,(below b o e).1,okb.exfs b hb,.inl hb,fun y c hy=>(f2 b hb).2.2.2.2.1 y c (clM y c hy),fun p hp z=>?_⟩
  rcases List.mem_append.mp hp with hp | hp
  ·exact (f2 b hb).2.2.2.2.2 p hp z
  ·have q:p=(D,ob):=by simpa using hp
   subst q
   exact (below b o e).2 z.symm
 have loop:codeAny (model X.prog X.w) X.A (.compLoop (.ListComp elt [⟨tg,iter,ifs,0⟩] scope pos) 0 (.ref it) (.ref D) (compEnvC scope (Qfv X.env.cells scope.names) C X.env))
   (compPost (model X.prog X.w) X.A X.xe use Post (.ref D) C) { s2 with heap:=h₁,toks:=s2.toks+([]:List (Str × Value)).length }:=by
  refine Qcb (fun n s'=>∃ i ys H' its k,Inv Xb [(D,{ cls:=.type "list",data:=.seq (List.toArray its) k })] (QaG ix σ) H' s'/\tn i s'.heap/\(∀ b∈fp,H' b=none)/\Vals ys its/\ys.length<=sizeLine/\W i n ys H') ?_ m0
   ⟨0,[],H2,[],_,Ib,T.keep _ _ _ st2 fun b _ o e=>old b o e,fun b hb=>(f2 b hb).1,.nil,Nat.zero_le _,w0⟩
  rintro n s3 ⟨i,ys,H3,its,k,I3,st3,fr3,hv3,hz3,w3⟩
  rcases turn i n ys H3 w3 with ⟨stop,qn⟩ | ⟨go,N',hN,step⟩
  ·refine thn (T.done Xb rfl rfl rfl hc i _ s3 _ H3 (fun _ _=>False) I3 (stat fr3) st3 stop) fun r s4 hz=>?_
   obtain ⟨hr,I4⟩:=hz
   subst hr
   obtain ⟨m,hn,_⟩:=I4.loc
   have hp4:=I4.pin (D,{ cls:=.type "list",data:=.seq its.toArray k }) (by simp)
   obtain ⟨gD,nD,_,_,_⟩:=hp4
   have all:∀ h',Heap.SameBut C s4.heap h'->Inv X pins σ (upd H3 D (.lst ys)) { s4 with heap:=h' }:=fun h' sb=>by
    have n3C:H3 C=none:=I4.free
    have un4:Un (frs X.stack) fp H2 H3 s2.heap s4.heap:=I4.base
    have gD':h'.get? D=some { cls:=.type "list",data:=.seq its.toArray k }:=(sb.2 D hDC).trans gD
    have up:∀ b o,s2.heap.get? b=some o->h'.get? b=s4.heap.get? b:=fun b o e=>sb.2 b (below b o e).1
    refine I2.call' (ch:=fp) (s':={ s4 with heap:=h' }) I4.os ?_ ?_ I4.bare fun b hb=>⟨(f2 b hb).2.2.2.1,(f2 b hb).2.1,(f2 b hb).2.2.2.2.1,(f2 b hb).2.2.2.2.2⟩
    ·refine ⟨fun b o e n hb hx=>(up b o e).trans (un4.keep b o e n hb hx),fun b o e n hb hx=>?_,fun b o e n hx=>?_,fun b o e hx=>?_,fun b xs e=>?_,fun b o u e=>?_,fun b ps e=>?_⟩
     ·obtain ⟨sl,q⟩:=un4.slot b o e n hb hx
      exact ⟨sl,(up b o e).trans q⟩
     ·rw [Qad (below b o e).2];exact un4.free b o e n hx
     ·obtain ⟨o',q⟩:=un4.there b o e hx
      exact ⟨o',(up b o e).trans q⟩
     ·have q:=un4.tups b xs e
      rw [Qad (Qaj q nD)];exact q
     ·have q:=un4.frzs b o u e
      rw [Qad (Qaj q nD)];exact q
     ·obtain ⟨more,q⟩:=un4.tbls b ps e
      exact ⟨more,by rw [Qad (Qaj q nD)];exact q⟩
    ·exact (HOk.but I4.hok n3C sb).track nD ⟨hz3,its,k,hv3,gD'⟩
   refine fin (C:=C) hn all (fun z=>?_) (fun y' c hy' z=>?_) (fun p hp z=>?_) (Nat.le_trans I2.sz (by rw [hD];omega)) (by rw [Qad (Ne.symm hDC)];exact I4.free) (qn D nD) _
   ·have l1:=I2.lt
    rw [hD,← z,hC] at l1
    exact absurd l1 (Nat.not_lt.mpr (Nat.le_succ D))
   ·obtain ⟨o,q'⟩:=cellLt y' c hy'
    exact (below c o q').1 z
   ·exact (below _ _ (pinLt p hp)).1 z
  ·refine thn (T.item Xb rfl rfl rfl hc i _ s3 _ H3 (fun _ _=>False) I3 (stat fr3) st3 go) fun r s4 hz=>?_
   obtain ⟨u,hr,h4⟩:=hz
   subst hr
   refine thn h4 fun _ s5 hz=>?_
   obtain ⟨x5,H5,I5,r5,y5,st5,fr5⟩:=hz
   have I5':=I5.pinned (stat fr5) (T.obj _ _ st5)
   refine thn (hg pins C s2 H2 fp _ s5 _ H5 x5 u _ I5' r5 (step x5 H5 y5)) fun _ s6 hz=>?_
   obtain ⟨σ6,H6,I6,ext6,q6⟩:=hz
   refine thn (ht pins C s2 H2 fp _ s6 _ _ _ I6 q6) fun ok s7 hz=>?_
   obtain ⟨H7,I7,q7⟩:=hz
   have back:∀ {H8:Hp} {s8:Shared} {ob:Obj} {ys':List V} {its':List Value} {k':Nat},Inv Xb ([(D,ob)]++Qcq fp s5.heap) σ6 H8 s8->ob={ cls:=.type "list",data:=.seq its'.toArray k' }->Vals ys' its'->ys'.length<=sizeLine->N' ys' H8->
     ∃ m,m<n/\∃ i ys H' its k,Inv Xb [(D,{ cls:=.type "list",data:=.seq (List.toArray its) k })] (QaG ix σ) H' s8/\tn i s8.heap/\(∀ b∈fp,H' b=none)/\Vals ys its/\ys.length<=sizeLine/\W i m ys H':=fun {H8 s8 ob ys' its' k'} I8 eo hv8 hz8 n8=>by
    subst eo
    obtain ⟨m',hm,w8⟩:=hN ys' H8 n8
    refine ⟨m',hm,i+1,ys',H8,its',k',?_,T.keep _ _ _ st5 fun b hb o e=>(I8.pin (b,o) (List.mem_append_right _ (List.mem_append_right _ (QbS hb e)))).1,fun b hb=>?_,hv8,hz8,w8⟩
    ·exact (I8.unpinned).weak ext6.1.symm ext6.2
    ·obtain ⟨o,e,d⟩:=T.obj _ _ st5 b hb
     exact (I8.pin (b,o) (List.mem_append_right _ (List.mem_append_right _ (QbS hb e)))).2.1
   cases ok with
   |false=>exact back I7 rfl hv3 hz3 q7
   |true=>
    have q7':te σ6 H7 fun y H3=>ys.length<sizeLine/\N' (ys++[y]) H3:=q7
    show wpAny _ _ (eval elt _) _ _ _
    refine thn (he pins C s2 H2 fp _ s7 _ H7 _ I7 q7') fun y8 s8 hz=>?_
    obtain ⟨v8,H8,I8,r8,hz8,q8⟩:=hz
    have gD8:=(I8.pin (D,{ cls:=.type "list",data:=.seq its.toArray k }) (by simp)).1
    have nD8:=(I8.pin (D,{ cls:=.type "list",data:=.seq its.toArray k }) (by simp)).2.1
    have hl8:=hv3.length
    refine wpAny_list_append_plain (hsz:=by rw [List.size_toArray];omega) ⟨k,gD8⟩ fun h9 pl9 sb9=>?_
    obtain ⟨k9,g9⟩:=pl9
    have g9':h9.get? D=some { cls:=.type "list",data:=.seq (its++[y8]).toArray k9 }:=by rw [g9];simp
    have pinsP:∀ p∈Qcq fp s5.heap,p.1≠D:=fun p hp z=>by
     obtain ⟨hb,_⟩:=Qe4 hp
     obtain ⟨o,e⟩:=fpLt p.1 hb
     exact (below _ o e).2 z
    have I8':Inv Xb (Qcq fp s5.heap) σ6 H8 s8:=I8.pins_of fun p hp=>I8.pin p (List.mem_append_right _ (List.mem_append_right _ hp))
    have I9:Inv Xb (Qcq fp s5.heap) σ6 H8 { s8 with heap:=h9 }:=I8'.turned (t':=s8.toks) (fun b o hb e=>(sb9.2 b hb).trans e) nD8 hDC (.inr (by show s2.heap.objs.size<=D;rw [hD];exact Nat.le_refl _))
     (fun y c hy z=>by obtain ⟨o,e⟩:=cellLt y c (clM y c hy);exact (below c o e).2 z)
     (fun p hp z=>by
      rcases List.mem_append.mp hp with hp | hp
      ·exact (below _ _ (pinLt p hp)).2 z
      ·exact pinsP p hp z)
    have I10:Inv Xb ([(D,{ cls:=.type "list",data:=.seq (its++[y8]).toArray k9 })]++Qcq fp s5.heap) σ6 H8 { s8 with heap:=h9 }:=I9.pins_of fun p hp=>by
     rcases List.mem_append.mp hp with hp | hp
     ·have q:p=(D,{ cls:=.type "list",data:=.seq (its++[y8]).toArray k9 }):=by simpa using hp
      subst q
      exact ⟨g9',nD8,hDC,DFs,fun v z=>nomatch z⟩
     ·exact I9.pin p (List.mem_append_right _ hp)
    exact back I10 rfl (hv3.append (.cons r8 .nil)) (by rw [List.length_append,List.length_singleton];omega) q8
 exact codeAny_compStart_list loop (T.self _ 0 _ _ _ (T.keep _ _ _ st2 fun b _ o e=>old b o e) loop)
theorem QgX {X:Cx}{elt iter tg:Expr}{y:Str}{py pos spos:Pos}{ifs:List Expr}{scope:Scope}{N:List Str}{ix:List (Option Nat)}{i0:Nat}{wi:TI}{g:TG}{tc:TT}{te:TE}
  (hc:X.calm=true) (hXN:X.N.Nodup) (hi0:X.N[i0]? = some y) (hy:Loc X.env.scope y) (B:Blk X scope N ix) (hi:PI X tg iter wi) (hg:∀ pins C s H ex,PG (X.blk scope N pins C s H ex) tg g)
  (ht:∀ pins C s H ex,PIf (X.blk scope N pins C s H ex) ifs tc) (he:∀ pins C s H ex,PE (X.blk scope N pins C s H ex) elt te)
  (hsw:swapsWith (.ListComp elt [⟨tg,iter,ifs,0⟩] scope pos) (some (.Name y py)) spos.line X.env=pure true:=by rfl)
  (hf:X.fn y=true\/X.env.scope.names.lookup y=some .local:=by first | exact .inl rfl | exact .inr rfl | assumption)
  (hs:∀ x,foldedSetIterable iter X.env x=pure x:=by intro _;rfl):PS X (.Assign [.Name y py] (.ListComp elt [⟨tg,iter,ifs,0⟩] scope pos) spos) (QnZ (Qfo wi ix g tc te) (QdB i0)):=by
 intro pins s σ H DD I h
 rw [exec_Assign_Name_used _ _ _ _ hsw]
 refine wpAny_bind (wpAny_standAt (wpAny_bind ?_))
 show wpAny _ X.A (do
  let _ ← comprehension (.ListComp elt [⟨tg,iter,ifs,0⟩] scope pos) scope X.env _ (newList []) false (eval iter X.env) (some (assign (.Name y py) X.env))) _ _ s
 refine wpAny_bind (thn (Q:=fun _ s'=>SP X pins DD .next s') ?_ fun _ s' hq=>wpAny_pure (wpAny_pure hq))
 refine Qdw hc B hg ht he hs I (fun R r=>hi pins s σ H R I r) h fun {s4 H3 D C ys m} hn all c1 c2 c3 c4 c5 qn _=>?_
 show wpAny _ X.A (assign (.Name y py) X.env (.ref D)) _ _ s4
 refine wpAny_assign_Name (Qfr (all s4.heap (Heap.SameBut.refl _ _)) hXN hi0 hy (show RelV (.ref D) (.ref D) from rfl) (fun s5 I5 hz=>?_) hf)
 obtain ⟨a,sb,ha⟩:=hz
 refine ⟨m,hn.sameBut sb fun z=>?_,fun h' sb'=>⟨_,_,I5.turned (t':=s5.toks) (it:=C) (fun b o hb e=>(sb'.2 b hb).trans e) c5 c1 (.inr c4) c2 c3,qn⟩⟩
 rcases ha with q | q
 ·exact c1 (z.trans q)
 ·exact c2 y a q z.symm
theorem Qko {X:Cx}{elt iter tg:Expr}{pos:Pos}{ifs:List Expr}{scope:Scope}{N:List Str}{ix:List (Option Nat)}{wi:TI}{g:TG}{tc:TT}{te:TE}
  (hc:X.calm=true) (B:Blk X scope N ix) (hi:PI X tg iter wi) (hg:∀ pins C s H ex,PG (X.blk scope N pins C s H ex) tg g)
  (ht:∀ pins C s H ex,PIf (X.blk scope N pins C s H ex) ifs tc) (he:∀ pins C s H ex,PE (X.blk scope N pins C s H ex) elt te)
  (hs:∀ x,foldedSetIterable iter X.env x=pure x:=by intro _;rfl):PE X (.ListComp elt [⟨tg,iter,ifs,0⟩] scope pos) (Qfo wi ix g tc te):=by
 intro pins s σ H Q I h
 rw [eval_ListComp]
 exact Qdw hc B hg ht he hs I (fun R r=>hi pins s σ H R I r) h fun {s4 H3 D C ys m} hn all _ _ _ _ _ q _=>⟨m,hn,fun h' sb=>⟨.ref D,upd H3 D (.lst ys),all h' sb,rfl,q⟩⟩
section
variable {X:Cx}
theorem QaD (hc:X.calm=true):Qbo X (.builtin "all") (fun xs H Q=>∃ (p:Addr) (bs:List Bool),xs=[.ref p]/\SqL X.K H p (bs.map V.bl)/\Q (.bl (bs.all fun b=>b)) H):=by
 intro pins s σ H xs us Q I r h
 obtain ⟨p,bs,rfl,hp,q⟩:=h
 obtain ⟨u,rfl,ru⟩:=Qcc r
 cases ru
 obtain ⟨its,rv,pl,hz⟩:=I.list hp
 have lt:=pl.isList
 have ltp:p<s.heap.objs.size:=by obtain ⟨o,ho,_⟩:=lt;exact Heap.lt_size ho
 refine call_all_walk (wpAny_pyIter_list lt ?_)
 have hlen:=rv.length
 have W:=Walks.list (prog:=X.prog) (w:=X.w) (A:=X.A.in1) (I.ok.hd hc) s.heap.objs.size p (Nat.ne_of_lt ltp) its.toArray
 refine ⟨_,_,_,_,_,_,fun j=>bs.getD j true,rfl,W,⟨⟨_,Heap.get?_push_size _ rfl,rfl,rfl⟩,lt.at fun o e=>Heap.get?_push_of_some _ e⟩,fun i v s1 Q1 E1 hP hQ=>?_,fun h' tk k=>?_⟩
 ·obtain ⟨hi,hv⟩:∃ hi:i<its.length,v=its[i]:=by
   have z:its.toArray[i]? = some v:=hP
   rw [List.getElem?_toArray] at z
   obtain ⟨h1,h2⟩:=List.getElem?_eq_some_iff.mp z
   exact ⟨h1,h2.symm⟩
  obtain ⟨b,hb⟩:∃ b,bs[i]? = some b:=⟨bs[i]'(by rw [List.length_map] at hlen;omega),List.getElem?_eq_getElem _⟩
  obtain ⟨u,hu,rb⟩:=rv.get (show (bs.map V.bl)[i]? = some (.bl b) by rw [List.getElem?_map,hb];rfl)
  have e:v=.bool b:=by
   rw [List.getElem?_eq_getElem hi] at hu
   rw [hv,Option.some.inj hu]
   exact rb
  subst e
  have e2:bs.getD i true=b:=by rw [List.getD_eq_getElem?_getD,hb];rfl
  have hQ':Q1 (bs.getD i true) s1:=hQ
  rw [e2] at hQ'
  exact wpAny_truthy_bool hQ'
 ·have e:(List.range its.toArray.size).all (fun j=>bs.getD j true)=bs.all fun b=>b:=by
   have l2:its.toArray.size=bs.length:=by rw [List.size_toArray,← hlen,List.length_map]
   rw [l2,Bool.eq_iff_iff,List.all_eq_true,List.all_eq_true]
   constructor
   ·intro h b hb
    obtain ⟨i,hi⟩:=List.getElem?_of_mem hb
    have z:=h i (List.mem_range.mpr (List.getElem?_eq_some_iff.mp hi).1)
    rw [List.getD_eq_getElem?_getD,hi] at z
    exact z
   ·intro h i hi
    have hi:=List.mem_range.mp hi
    rw [List.getD_eq_getElem?_getD,List.getElem?_eq_getElem hi]
    exact h _ (List.getElem_mem hi)
  rw [e]
  have I0:Inv X pins σ H { s with heap:=s.heap.push { cls:=.type "list_iterator",data:=.fields #[.ref p,.int 0 0] } }:=I.kept (t':=s.toks) fun b o z=>Heap.get?_push_of_some _ z
  have fp:=I.fpOk (b:=s.heap.objs.size) (H':=H) (Nat.le_refl _) I.fresh
  obtain ⟨f0,f1,f2,f3,f4,f5⟩:=fp
  exact ⟨.bl _,H,I0.turned (t':=tk) (it:=s.heap.objs.size) (fun b o hb z=>k b o (by simpa using hb) z) f0 f1 f3 f4 f5,rfl,q⟩
end
section
variable {X:Cx}{pins:List (Addr × Obj)}{σ:St}{H:Hp}{s:Shared}{h':Heap}
theorem Inv.turnedL {t':Nat}{ch:List Addr}(I:Inv X pins σ H s)(k:∀ b o,b∉ch->s.heap.get? b=some o->h'.get? b=some o)(f:∀ b∈ch,Qi2 X pins H b):Inv X pins σ H { s with heap:=h',toks:=t' }:=by
 have nit:∀ b u,H b=some u->b∉ch:=fun b u e z=>by rw [(f b z).1] at e;cases e
 refine I.step (g':=s.gens) (d':=s.drawn) (ch:=ch) (fun b hb=>?_) (fun b o _ _ hc e _=>k b o hc e) (fun b o _ _ hc e _=>⟨o.slots,k b o hc e⟩) (fun _ _ _ _ n=>n)
  (fun b o hc e=>⟨o,k b o hc e⟩) (fun _ _ e=>e) (fun _ _ _ e=>e) (fun b ps e=>⟨#[],by rw [e];simp⟩) (fun m hm=>?_) (fun b u e=>?_) I.bare
 ·obtain ⟨f0,f1,f2,f3,f4,f5⟩:=f b hb
  exact ⟨f3,f1,f4,f5⟩
 ·obtain ⟨o,es,ep,ho,r⟩:=hm
  exact ⟨o,es,ep,k _ o (fun z=>(f _ z).2.1 rfl) ho,r⟩
 ·refine (I.hok b u e).stay (fun c v hc q=>k c v ?_ q) (fun _ q=>q) fun _ _ q=>q
  rcases hc with z | z
  ·rw [z];exact nit b u e
  ·exact nit c _ z
theorem Inv.laidL {t':Nat}{ch:List Addr}{a:Addr}{o:HO}(I:Inv X pins σ H s)(k:∀ b o,b∉ch->s.heap.get? b=some o->h'.get? b=some o)(f:∀ b∈ch,Qi2 X pins H b)(hp:s.heap.objs.size<=a)(new:ObjOk X.prog X.w (upd H a o) h' a o):Inv X pins σ (upd H a o) { s with heap:=h',toks:=t' }:=by
 have nit:∀ b u,H b=some u->b∉ch:=fun b u e z=>by rw [(f b z).1] at e;cases e
 have hn:H a=none:=I.hok.fresh hp
 have na:∀ b u,H b=some u->b≠a:=fun b u e z=>by rw [z,hn] at e;cases e
 refine I.step (g':=s.gens) (d':=s.drawn) (ch:=ch) (fun b hb=>?_) (fun b o _ _ hc e _=>k b o hc e) (fun b o _ _ hc e _=>⟨o.slots,k b o hc e⟩) (fun b o _ e n=>?_)
  (fun b o hc e=>⟨o,k b o hc e⟩) (fun b xs e=>?_) (fun b o u e=>?_) (fun b ps e=>⟨#[],?_⟩) (fun m hm=>?_) (fun b u e=>?_) I.bare
 ·obtain ⟨f0,f1,f2,f3,f4,f5⟩:=f b hb
  exact ⟨f3,f1,f4,f5⟩
 ·rw [Qad (Nat.ne_of_lt (Nat.lt_of_lt_of_le (Heap.lt_size e) hp))];exact n
 ·rw [Qad (na _ _ e)];exact e
 ·rw [Qad (na _ _ e)];exact e
 ·rw [Qad (na _ _ e),e];simp
 ·obtain ⟨o,es,ep,ho,r⟩:=hm
  exact ⟨o,es,ep,k _ o (fun z=>(f _ z).2.1 rfl) ho,r⟩
 ·by_cases z:b=a
  ·subst z
   rw [Qah] at e
   cases e
   exact new
  ·rw [Qad z] at e
   refine (I.hok b u e).stay (fun c v hc q=>k c v ?_ q) (fun _ q=>?_) fun _ _ q=>?_
   ·rcases hc with z | z
    ·rw [z];exact nit b u e
    ·exact nit c _ z
   ·first | exact q | (rw [Qad (na _ _ q)];exact q)
   ·first | exact q | (rw [Qad (na _ _ q)];exact q)
end
section
variable {X:Cx}
theorem QeE:Qbo X (.type "int") (fun xs H Q=>∃ (x:Str) (n:Int),xs=[.str x]/\PySem.intText? x=some n/\x.length<=640/\Q (.int n) H):=by
 intro pins s σ H xs us Q I r h
 obtain ⟨x,n,rfl,hn,hl,q⟩:=h
 obtain ⟨u,rfl,t,rfl⟩:=Qcc r
 exact PySem.W.KIN.call_text hn hl ⟨.int n,H,I.tok _,⟨_,rfl⟩,q⟩
theorem Qfu:∀ {ys:List Str} {us:List Value},Vals (ys.map V.str) us->∃ l:List (Str × Tok),us=strValues l/\l.map (·.1)=ys
 | [],_,.nil=>⟨[],rfl,rfl⟩
 |y :: ys,_,.cons r t=>by
  obtain ⟨tk,rfl⟩:=r
  obtain ⟨l,rfl,e⟩:=Qfu t
  exact ⟨(y,tk) :: l,rfl,by rw [List.map_cons,e]⟩
theorem QeW:∀ (l:List (Str × Tok)),Vals ((l.map (·.1)).map V.str) (strValues l)
 | []=>.nil
 |p :: l=>.cons ⟨p.2,rfl⟩ (QeW l)
def QqH (K:PySem.W.Frag):V->List V->Hp->VK->Prop:=fun x vs H Q=>∃ (sep:Str) (a:Addr) (ys:List Str),x=.str sep/\vs=[.ref a]/\SqL K H a (ys.map V.str)/\JoinOk sep ys=true/\Q (.str (Str.join sep ys)) H
theorem QfJ:MtR X "str.join" (QqH X.K):=by
 intro pins s σ H x vs v us Q I rx rv h
 obtain ⟨sep,a,ys,rfl,rfl,hq,ok,q⟩:=h
 obtain ⟨t,rfl⟩:=rx
 obtain ⟨u,rfl,ru⟩:=Qcc rv
 cases ru
 obtain ⟨its,r,p,_⟩:=I.list hq
 obtain ⟨l,rfl,e⟩:=Qfu r
 refine SC.join (D:=a) (l:=l) (texts:=ys) p.isList e ok fun t' k=>?_
 rw [show Txt.join sep ys=Str.join sep ys from StrLaws.glued_eq_join sep ys]
 exact ⟨.str _,H,I.tok _,⟨_,rfl⟩,q⟩
theorem Qf3 {prog:Program}{w:World}{A:Around}{E:Value->Shared->Prop}{s:Shared}{x y:Str}{t u:Tok}{Q:Value->Shared->Prop}(hy:(y.length == 0)=false)
  (hq:∀ l k,l.map (·.1)=Txt.split x y->Q (.ref s.heap.objs.size) { s with toks:=k,heap:=s.heap.push { cls:=.type "list",data:=.seq (strValues l).toArray } })
  (hsz:x.length<=sizeLine) (hsz2:(Builtin.Str.partsBetween x (Builtin.Str.occurrences x y 0 x.length (x.length+1)) y.length).length<=sizeLine) :
  wpAny (model prog w) A (call (.builtin "str.split") [.str x t,.str y u]) Q E s:=by
 cases h1:(decide (x.length<y.length) || decide (Builtin.Str.strKind x<Builtin.Str.strKind y))
 ·cases hf:(Builtin.Str.occurrences x y 0 x.length (x.length+1)).isEmpty
  ·refine call_meets F.slot_str_split (typeIs_str _ _ _) F.entry_str_split (F.args_str_split_2 _ _) (meets_str_split_sep x y t u h1 hy hf hsz hsz2) ?_
   show wants Q E _ { s with toks:=_,heap:=s.heap.push { cls:=.type "list",data:=.seq (strsFrom s.toks (Builtin.Str.partsBetween x (Builtin.Str.occurrences x y 0 x.length (x.length+1)) y.length)).toArray } }
   rw [strsFrom_eq]
   exact hq (numbered s.toks _) _ ((numbered_texts _ _).trans ((if_neg (ne_true_of_eq_false h1)).trans (if_neg (ne_true_of_eq_false hf))).symm)
  ·exact call_meets F.slot_str_split (typeIs_str _ _ _) F.entry_str_split (F.args_str_split_2 _ _) (meets_str_split_not_found x y t u h1 hy hf)
    (hq [(x,t)] s.toks ((if_neg (ne_true_of_eq_false h1)).trans (if_pos hf)).symm)
 ·exact call_meets F.slot_str_split (typeIs_str _ _ _) F.entry_str_split (F.args_str_split_2 _ _) (meets_str_split_cannot_occur x y t u h1)
   (hq [(x,t)] s.toks (if_pos h1).symm)
def Qof:V->List V->Hp->VK->Prop:=fun x vs H Q=>∃ (z y:Str),x=.str z/\vs=[.str y]/\(y.length == 0)=false/\z.length+2<=sizeLine/\(Txt.split z y).length<=sizeLine/\∀ l,H l=none->Q (.ref l) (upd H l (.lst ((Txt.split z y).map V.str)))
theorem Qct (x y:Str):(Builtin.Str.partsBetween x (Builtin.Str.occurrences x y 0 x.length (x.length+1)) y.length).length<=x.length+2:=by
 have e1:=StrLaws.occ_length_le x y 0 x.length (x.length+1)
 rw [length_partsBetween];omega
theorem QgI:MtR X "str.split" Qof:=by
 intro pins s σ H x vs v us Q I rx rv h
 obtain ⟨z,y,rfl,rfl,hy,hz,hn,q⟩:=h
 obtain ⟨t,rfl⟩:=rx
 obtain ⟨u,rfl,ru⟩:=Qcc rv
 obtain ⟨t',rfl⟩:=ru
 refine Qf3 hy (fun l k e=>?_) (by omega) (Nat.le_trans (Qct z y) hz)
 refine ⟨.ref s.heap.objs.size,_,I.laid (t':=k) (fun b u e=>Heap.get?_push_of_some _ e) (Nat.le_refl _) ?_,rfl,q _ (I.hok.fresh (Nat.le_refl _))⟩
 exact ⟨by rw [List.length_map];exact hn,strValues l,0,by rw [← e];exact QeW l,Heap.get?_push_size _ rfl⟩
def QhW:V->List V->Hp->VK->Prop:=fun x vs H Q=>∃ (z y:Str),x=.str z/\vs=[.str y]/\Q (.bl (Txt.startswith z y)) H
theorem Qia:MtR X "str.startswith" QhW:=by
 intro pins s σ H x vs v us Q I rx rv h
 obtain ⟨z,y,rfl,rfl,q⟩:=h
 obtain ⟨t,rfl⟩:=rx
 obtain ⟨u,rfl,ru⟩:=Qcc rv
 obtain ⟨t',rfl⟩:=ru
 exact SC.startswith ⟨.bl _,H,I,rfl,q⟩
def Its (x:Str):It:=⟨fun i _=>i<x.cps.size,fun i H v H'=>H'=H/\∃ c,x.cps[i]? = some c/\v=.str ⟨#[c]⟩,fun i _=>x.cps.size<=i⟩
theorem QgP {P:Program}{w:World}{K:PySem.W.Frag}{tg:Expr}{it:Addr}{x:Str}{t:Tok}{ty:String}
  (W:∀ A':Around,A'.handled=none->Walks P w A' it [it] [it] x.cps.size (SignAt x) (fun i h=>h.IsStrIter it ty x t i))
  (hty:["enumerate","zip","dict_itemiterator","dict_reverseitemiterator","odict_iterator","itertools.zip_longest","itertools.pairwise"].contains ty=false)
  (S:∀ (A:Around) (i:Nat) (s:Shared) (Q:Value->Shared->Prop) (E:Value->Shared->Prop),s.heap.IsStrIter it ty x t i->Q (.ref it) s->wpAny (model P w) A (pyIter (.ref it)) Q E s) :
  Qm0 P w K tg (Its x) [it] it (fun i h=>i<=x.cps.size/\h.IsStrIter it ty x t i) where
 mem:=by simp
 obj:=fun i h st b hb=>by
  have e:b=it:=by simpa using hb
  subst e
  obtain ⟨_,o,e,c,d⟩:=st
  exact ⟨o,e,fun v z=>by rw [d] at z;cases z⟩
 keep:=fun i h h' st k=>⟨st.1,let ⟨o,ho,r⟩:=st.2;⟨o,k it (by simp) o ho,r⟩⟩
 item:=by
  intro X hP hw hK hc i pins s σ H E I hf st hg
  subst hP hw hK
  refine (W X.A (I.ok.hd hc)).item i s _ _ hg st.2 fun v h' tk hv st' kk=>?_
  obtain ⟨c,u,hx,rfl⟩:=hv
  have I1:Inv X pins σ H { s with heap:=h',toks:=tk }:=I.turnedL (fun b o hb e=>kk b o hb e) hf
  obtain ⟨o,e,cl,d⟩:=id st'
  exact ⟨_,rfl,Qj2 (s:={ s with heap:=h',toks:=tk }) e cl d hty ⟨.str ⟨#[c]⟩,H,I1,⟨u,rfl⟩,⟨rfl,c,hx,rfl⟩,⟨hg,st'⟩,fun b hb=>(hf b hb).1⟩⟩
 done:=by
  intro X hP hw hK hc i pins s σ H E I hf st hg
  subst hP hw hK
  have e:i=x.cps.size:=Nat.le_antisymm st.1 hg
  subst e
  exact (W X.A (I.ok.hd hc)).done s _ _ st.2 fun h' tk kk=>⟨rfl,I.turnedL (fun b o hb e=>kk b o hb e) hf⟩
 self:=fun A i s Q E st h=>S A i s Q E st.2 h
def QtP (tl:TE):TI:=fun σ H R=>tl σ H fun x H1=>∃ z,x=.str z/\R (Its z) H1
theorem Qqg {tg l:Expr}{tl:TE}(hl:PE X l tl):PI X tg l (QtP tl):=by
 intro pins s σ H R I h
 refine thn (hl pins s σ H _ I h) fun v s1 hz=>?_
 obtain ⟨x,H1,I1,r1,q1⟩:=hz
 obtain ⟨z,rfl,q⟩:=q1
 obtain ⟨t,rfl⟩:=r1
 have fp:∀ b∈[s1.heap.objs.size],Qi2 X pins H1 b:=fun b hb=>by
  have e:b=s1.heap.objs.size:=by simpa using hb
  subst e
  exact I1.fpOk (Nat.le_refl _) (I1.hok.fresh (Nat.le_refl _))
 cases ha:z.cps.all (· < 128)
 ·refine wpAny_pyIter_wide ha ?_
  exact ⟨s1.heap.objs.size,[s1.heap.objs.size],_,Its z,H1,rfl,I1.kept (t':=s1.toks) fun b o e=>Heap.get?_push_of_some _ e,QgP (t:=t) (fun A' hA=>Walks.strWide hA _ z t) (by decide) (fun _ _ _ _ _ st hQ=>wpAny_pyIter_striter_wide st hQ),⟨Nat.zero_le _,_,Heap.get?_push_size _ rfl,rfl,rfl⟩,fp,q⟩
 ·refine wpAny_pyIter_ascii ha ?_
  exact ⟨s1.heap.objs.size,[s1.heap.objs.size],_,Its z,H1,rfl,I1.kept (t':=s1.toks) fun b o e=>Heap.get?_push_of_some _ e,QgP (t:=t) (fun A' hA=>Walks.strAscii hA _ z t) (by decide) (fun _ _ _ _ _ st hQ=>wpAny_pyIter_striter_ascii st hQ),⟨Nat.zero_le _,_,Heap.get?_push_size _ rfl,rfl,rfl⟩,fp,q⟩
def Ite (K:PySem.W.Frag)(a:Addr):It:=
 ⟨fun i H=>∃ xs x,SqL K H a xs/\xs[i]? = some x,fun i H v H'=>∃ T x,H T=none/\v=.ref T/\H'=upd H T (.tup [.int (i:Nat),x])/\∀ xs,SqL K H a xs->xs[i]? = some x,fun i H=>∃ xs,SqL K H a xs/\xs.length<=i⟩
theorem Qjh {P:Program}{w:World}{K:PySem.W.Frag}{es:List Expr}{k:Nat}{tp:Pos}(a e it:Addr)(hne:e≠it):Qm0 P w K (.Tuple es k tp) (Ite K a) [e,it] e (fun i h=>(∃ old,IsEnum h e it ((i:Nat):Int) old)/\h.IsListIter it a i) where
 mem:=by simp
 obj:=fun i h st b hb=>by
  obtain ⟨⟨old,he⟩,o,ho,c,d⟩:=st
  rcases List.mem_cons.mp hb with rfl | hb
  ·exact ⟨_,he,fun v z=>by cases z⟩
  ·have q:b=it:=by simpa using hb
   subst q
   exact ⟨o,ho,fun v z=>by rw [d] at z;cases z⟩
 keep:=fun i h h' st k=>by
  obtain ⟨⟨old,he⟩,hit⟩:=st
  exact ⟨⟨old,k e (by simp) _ he⟩,hit.at fun o q=>k it (by simp) o q⟩
 item:=by
  intro X hP hw hK hc i pins s σ H E I hf st hg
  subst hP hw hK
  obtain ⟨⟨old,he⟩,hit⟩:=st
  obtain ⟨xs,x,hq,hx⟩:=hg
  obtain ⟨its,rv,p,hz⟩:=I.list hq
  obtain ⟨u,hu,ru⟩:=rv.get hx
  refine wpAny_pyNext_enum_item he hit p.isList (x:=u) (by simpa using hu) hne fun h1 heo hit1 ht1 hz1 hk1=>?_
  refine ⟨_,rfl,wpAny_letOwnedTupleGo_enum heo fun h2 he2 hs2=>?_⟩
  have hel:e<s.heap.objs.size:=Heap.lt_size he
  have hT:H s.heap.objs.size=none:=I.hok.fresh (Nat.le_refl _)
  have kk:∀ b o,b∉[e,it]->s.heap.get? b=some o->h2.get? b=some o:=fun b o hb q=>by
   have nb:b≠e:=fun z=>hb (by simp [z])
   have ni:b≠it:=fun z=>hb (by simp [z])
   exact (hs2.2 b nb).trans (hk1 b o nb ni q)
  have gT:h2.get? s.heap.objs.size=some { cls:=.type "tuple",data:=.seq #[.int i s.toks,u] }:=(hs2.2 _ (Nat.ne_of_gt hel)).trans ht1
  -- the heap ahead of the tuple
  have I1:Inv X pins σ (upd H s.heap.objs.size (.tup [.int (i:Nat),x])) { s with heap:=h2,toks:=s.toks+1 }:=I.laidL kk hf (Nat.le_refl _) ⟨by show 2<=sizeLine;decide,[.int i s.toks,u],.cons ⟨_,rfl⟩ (.cons ru .nil),⟨_,gT,rfl,_,rfl⟩⟩
  refine ⟨.ref s.heap.objs.size,_,I1,rfl,⟨s.heap.objs.size,x,hT,rfl,rfl,fun ys hy=>by rw [I.list_inj hy hq];exact hx⟩,⟨⟨u,?_⟩,hit1.extBut hs2.extBut (Ne.symm hne)⟩,fun b hb=>?_⟩
  ·have:((i+1:Nat):Int)=(i:Int)+1:=by push_cast;rfl
   rw [this];exact he2
  ·have nb:b≠s.heap.objs.size:=by
    rcases List.mem_cons.mp hb with rfl | hb
    ·exact Nat.ne_of_lt hel
    ·have q:b=it:=by simpa using hb
     subst q
     obtain ⟨o,ho,_⟩:=hit
     exact Nat.ne_of_lt (Heap.lt_size ho)
   rw [Qad nb]
   exact (hf b hb).1
 done:=by
  intro X hP hw hK hc i pins s σ H E I hf st hg
  subst hP hw hK
  obtain ⟨⟨old,he⟩,hit⟩:=st
  obtain ⟨xs,hq,hx⟩:=hg
  obtain ⟨its,rv,p,hz⟩:=I.list hq
  have hl:=rv.length
  exact wpAny_pyNext_enum_end (I.ok.hd hc) he hit p.isList (by simp;omega) fun h' eb=>⟨rfl,I.turnedL (ch:=[e,it]) (t':=s.toks) (fun b o hb q=>eb b o (fun z=>hb (by simp [z])) q) hf⟩
 self:=fun _ _ _ _ _ st h=>let ⟨_,he⟩:=st.1;wpAny_pyIter_enum he h
theorem Qjf:bootBuiltins "enumerate" = some (.type "enumerate"):=by decide +kernel
end
end L2
namespace L2
open PySem PySem.Spec PyProof.Rows Builtin.Str
theorem Qjt {a b:Str}(h:a.cps=b.cps):a=b:=by
 cases a;cases b;exact congrArg Str.mk h
theorem QcC (a b:Str):(a++b).cps=a.cps++b.cps:=rfl
def Qau (c:Nat):List Nat->List (List Nat)
 | []=>[[]]
 |d :: r=>if d=c then [] :: Qau c r else match Qau c r with
  | []=>[[d]]
  |h :: t=>(d :: h) :: t
theorem Qcp (c:Nat)(l:List Nat):∃ h t,Qau c l=h :: t:=by
 cases l with
 |nil=>exact ⟨_,_,rfl⟩
 |cons d r=>
  unfold Qau
  split
  ·exact ⟨_,_,rfl⟩
  ·split<;>exact ⟨_,_,rfl⟩
theorem QeU (c:Nat):∀ (w r:List Nat),c∉w->Qau c (w++c :: r)=w :: Qau c r
 | [],r,_=>by
  show Qau c (c :: r)=_
  rw [Qau,if_pos rfl]
 |d :: w,r,h=>by
  have nd:d≠c:=fun z=>h (z▸List.mem_cons_self ..)
  show Qau c (d :: (w++c :: r))=_
  rw [Qau,if_neg nd,QeU c w r fun z=>h (List.mem_cons_of_mem _ z)]
theorem QgB (c:Nat):∀ (w:List Nat),c∉w->Qau c w=[w]
 | [],_=>rfl
 |d :: w,h=>by
  have nd:d≠c:=fun z=>h (z▸List.mem_cons_self ..)
  rw [Qau,if_neg nd,QgB c w fun z=>h (List.mem_cons_of_mem _ z)]
theorem Qmi (x:Str)(c:Nat):occurrences x ⟨#[c]⟩ 0 x.length (x.length+1)=(List.range' 0 (x.length+1)).filter (fun i=>x.cps.toList[i]? == some c):=by
 rw [StrLaws.occ_eq]
 have key:∀ (m a:Nat) (arr:Array Nat) (free:Nat),a+m=x.length+1->free<=a->arr.size<=a->
   (forIn (m:=Id) (List.range' a m) (arr,free) (StrLaws.occBody x ⟨#[c]⟩ x.length (x.length+1))).run.fst.toList=arr.toList++(List.range' a m).filter (fun i=>x.cps.toList[i]? == some c):=by
  intro m
  induction m with
  |zero=>intro a arr free _ _ _;simp
  |succ m ih=>
   intro a arr free h1 h2 h3
   rw [List.range'_succ,List.forIn_cons]
   by_cases hc:x.cps.toList[a]? = some c
   ·have hs:=(StrLaws.subAt_one x c a).mpr hc
    have hcond:((arr.size<x.length+1/\free<=a)/\a+(⟨#[c]⟩:Str).length<=x.length)/\subAt x ⟨#[c]⟩ a=true:=⟨⟨⟨by omega,h2⟩,hs.1⟩,hs.2⟩
    simp only [StrLaws.occBody,if_pos hcond]
    have e:=ih (a+1) (arr.push a) (a+1) (by omega) (Nat.le_refl _) (by rw [Array.size_push];omega)
    have e':(List.filter (fun i=>x.cps.toList[i]? == some c) (a :: List.range' (a+1) m))=a :: List.filter (fun i=>x.cps.toList[i]? == some c) (List.range' (a+1) m):=by
     rw [List.filter_cons,if_pos (by rw [hc];exact beq_self_eq_true _)]
    rw [e']
    have e2:arr.toList++a :: List.filter (fun i=>x.cps.toList[i]? == some c) (List.range' (a+1) m)=(arr.push a).toList++List.filter (fun i=>x.cps.toList[i]? == some c) (List.range' (a+1) m):=by simp
    rw [e2,← e]
    rfl
   ·have hcond:¬ (((arr.size<x.length+1/\free<=a)/\a+(⟨#[c]⟩:Str).length<=x.length)/\subAt x ⟨#[c]⟩ a=true):=fun z=>hc ((StrLaws.subAt_one x c a).mp ⟨z.1.2,z.2⟩)
    simp only [StrLaws.occBody,if_neg hcond]
    have e:=ih (a+1) arr free (by omega) (by omega) (by omega)
    have e':(List.filter (fun i=>x.cps.toList[i]? == some c) (a :: List.range' (a+1) m))=List.filter (fun i=>x.cps.toList[i]? == some c) (List.range' (a+1) m):=by
     rw [List.filter_cons,if_neg (by simpa using hc)]
    rw [e',← e]
    rfl
 have:=key (x.length+1) 0 #[] 0 (by omega) (Nat.le_refl _) (by simp)
 simpa using this
theorem QfQ (x y:Str):Txt.split x y=partsBetween x (occurrences x y 0 x.length (x.length+1)) y.length:=by
 unfold Txt.split
 split
 ·rename_i h
  rw [PySem.W.occ_nil_of_no x y _ fun i hi=>?_,PySem.W.parts_nil]
  rcases Bool.or_eq_true_iff.mp h with h | h
  ·have:=of_decide_eq_true h;omega
  ·cases e:subAt x y i
   ·rfl
   ·have:=PySem.W.kind_le x y e;have:=of_decide_eq_true h;omega
 ·split
  ·rename_i h;rw [List.isEmpty_iff.mp h,PySem.W.parts_nil]
  ·rfl
theorem Qdg (x:Str)(i j:Nat):strSub x i j=⟨((x.cps.toList.drop i).take (j - i)).toArray⟩:=Qjt (by
 have:=StrLaws.strSub_toList x i j
 rw [← this])
theorem QgS (x:Str){a k d:Nat}(h:a<k)(hd:x.cps.toList[a]? = some d):strSub x a k=⟨(d :: (strSub x (a+1) k).cps.toList).toArray⟩:=by
 rw [Qdg,Qdg]
 have e1:x.cps.toList.drop a=d :: x.cps.toList.drop (a+1):=by
  obtain ⟨h1,h2⟩:=List.getElem?_eq_some_iff.mp hd
  rw [← h2];exact List.drop_eq_getElem_cons h1
 rw [e1,show k - a=(k - (a+1))+1 by omega,List.take_succ_cons]
theorem Qhh (x:Str){a d:Nat}(hd:x.cps.toList[a]? = some d)(ha:a<x.length):∀ (cuts:List Nat),(∀ k∈cuts,a<k)->∃ h t,StrLaws.partsFrom x 1 (a+1) cuts=h :: t/\StrLaws.partsFrom x 1 a cuts=⟨(d :: h.cps.toList).toArray⟩ :: t
 | [],_=>⟨_,[],rfl,by
   show [strSub x a x.length]=_
   rw [QgS x ha hd]⟩
 |k :: r,h=>⟨_,_,rfl,by
   show strSub x a k :: _=_
   rw [QgS x (h k (List.mem_cons_self ..)) hd]⟩
theorem Qjv (x:Str)(c:Nat):∀ (m a:Nat),a+m=x.length->StrLaws.partsFrom x 1 a ((List.range' a (m+1)).filter (fun i=>x.cps.toList[i]? == some c))=(Qau c (x.cps.toList.drop a)).map fun l=>(⟨l.toArray⟩:Str):=by
 have hlen:x.cps.toList.length=x.length:=Array.length_toList
 intro m
 induction m with
 |zero=>
  intro a ha
  have e0:x.cps.toList[a]? = none:=List.getElem?_eq_none (by omega)
  have e1:x.cps.toList.drop a=[]:=List.drop_eq_nil_of_le (by omega)
  have e2:(List.range' a (0+1)).filter (fun i=>x.cps.toList[i]? == some c)=[]:=by
   rw [List.range'_succ,List.filter_cons,e0]
   rfl
  rw [e2,e1]
  show [strSub x a x.length]=[(⟨[].toArray⟩:Str)]
  rw [Qdg,e1,List.take_nil]
 |succ m ih=>
  intro a ha
  have hlt:a<x.cps.toList.length:=by omega
  obtain ⟨d,hd⟩:∃ d,x.cps.toList[a]? = some d:=⟨_,List.getElem?_eq_getElem hlt⟩
  have e1:x.cps.toList.drop a=d :: x.cps.toList.drop (a+1):=by
   obtain ⟨h1,h2⟩:=List.getElem?_eq_some_iff.mp hd
   rw [← h2];exact List.drop_eq_getElem_cons h1
  have ih':=ih (a+1) (by omega)
  rw [e1,List.range'_succ]
  by_cases hc:d=c
  ·subst hc
   rw [List.filter_cons,if_pos (by rw [hd];exact beq_self_eq_true _),Qau,if_pos rfl]
   show strSub x a a :: StrLaws.partsFrom x 1 (a+1) _=_
   rw [ih',Qdg,Nat.sub_self,List.take_zero]
   rfl
  ·rw [List.filter_cons,if_neg (by rw [hd];simpa using hc),Qau,if_neg hc]
   obtain ⟨h,t,q1,q2⟩:=Qhh x hd (by omega) ((List.range' (a+1) (m+1)).filter (fun i=>x.cps.toList[i]? == some c)) fun k hk=>by
    have:=(List.mem_range'_1.mp (List.mem_filter.mp hk).1).1
    omega
   rw [q2]
   rw [q1] at ih'
   obtain ⟨h',t',q3⟩:=Qcp c (x.cps.toList.drop (a+1))
   rw [q3] at ih' ⊢
   rw [List.map_cons] at ih'
   injection ih' with i1 i2
   rw [i1,i2]
   rfl
theorem QaH (x:Str)(c:Nat):Txt.split x ⟨#[c]⟩=(Qau c x.cps.toList).map fun l=>(⟨l.toArray⟩:Str):=by
 rw [QfQ,StrLaws.partsBetween_eq,Qmi]
 have:=Qjv x c x.length 0 (by omega)
 rw [List.drop_zero] at this
 exact this
theorem Qg1 (c:Nat):∀ (w:Str) (ws:List Str),(∀ y∈w :: ws,c∉y.cps.toList)->Qau c (Str.join ⟨#[c]⟩ (w :: ws)).cps.toList=(w :: ws).map fun y=>y.cps.toList
 |w,[],h=>by
  show Qau c w.cps.toList=[w.cps.toList]
  exact QgB c _ (h w (List.mem_cons_self ..))
 |w,v :: ws,h=>by
  have e:(Str.join ⟨#[c]⟩ (w :: v :: ws)).cps.toList=w.cps.toList++c :: (Str.join ⟨#[c]⟩ (v :: ws)).cps.toList:=by
   show (w++⟨#[c]⟩++Str.join ⟨#[c]⟩ (v :: ws)).cps.toList=_
   rw [QcC,QcC,Array.toList_append,Array.toList_append]
   simp
  rw [e,QeU c _ _ (h w (List.mem_cons_self ..)),Qg1 c v ws fun y hy=>h y (List.mem_cons_of_mem _ hy)]
  rfl
theorem QhD {c:Nat}{ws:List Str}(ne:ws≠[])(h:∀ y∈ws,c∉y.cps.toList):Txt.split (Str.join ⟨#[c]⟩ ws) ⟨#[c]⟩=ws:=by
 cases ws with
 |nil=>exact absurd rfl ne
 |cons w ws=>
  rw [QaH,Qg1 c w ws h,List.map_map]
  conv=>rhs;rw [← List.map_id (w :: ws)]
  exact List.map_congr_left fun y _=>Qjt (by simp)
theorem QgT {c d:Nat}:∀ {ws:List Str},(∀ y∈ws,d∉y.cps.toList)->d≠c->d∉(Str.join ⟨#[c]⟩ ws).cps.toList
 | [],_,_=>by
  show d∉((#[]:Array Nat)).toList
  simp
 | [w],h,_=>h w (List.mem_cons_self ..)
 |w :: v :: ws,h,n=>by
  have ih:=QgT (ws:=v :: ws) (fun y hy=>h y (List.mem_cons_of_mem _ hy)) n
  show d∉(w++⟨#[c]⟩++Str.join ⟨#[c]⟩ (v :: ws)).cps.toList
  rw [QcC,QcC,Array.toList_append,Array.toList_append]
  have h1:=h w (List.mem_cons_self ..)
  simp only [List.mem_append,not_or]
  exact ⟨⟨h1,by simpa using n⟩,ih⟩
theorem Qls {sep:Str}{ws:List Str}{B:Nat}(h:∀ y∈ws,y.length<=B)(hs:sep.length=1)(hz:ws.length * B+ws.length<=1000000):JoinOk sep ws=true:=by
 unfold JoinOk
 rw [Bool.not_eq_true']
 exact StrLaws.joinFits h (by rw [hs];omega)
theorem Qgr {sep:Str}{ws:List Str}{B:Nat}(h:∀ y∈ws,y.length<=B)(hs:sep.length=1):(Str.join sep ws).length<=ws.length * B+ws.length:=by
 have h1:=StrLaws.join_length_le sep ws
 have h2:=StrLaws.sumLen_le ws h
 rw [hs] at h1
 omega
def QnY (n:Int):Str:=Str.ofString (toString n)
theorem QeQ (m:Nat):(QnY (m:Int)).cps.toList=(Nat.toDigits 10 m).map Char.toNat:=PySem.W.KIN.signs_num m
theorem Qj0 {m:Nat}:∀ c∈(QnY (m:Int)).cps.toList,48<=c/\c<=57:=by
 intro c hc
 rw [QeQ] at hc
 obtain ⟨ch,hch,e⟩:=List.mem_map.mp hc
 have r:=digit_range (Nat.isDigit_of_mem_toDigits (by decide) (by decide) hch)
 rw [← e]
 exact r
theorem Qks {m:Nat}{k:Nat}(hk:0<k)(h:(m:Int)<10 ^ k):1<=(QnY (m:Int)).length/\(QnY (m:Int)).length<=k:=by
 refine ⟨?_,toString_length_le (by omega) hk h⟩
 have hl:=toDigits_len_ge 10 m
 have e:(QnY (m:Int)).cps.toList.length=(QnY (m:Int)).length:=Array.length_toList
 rw [QeQ,List.length_map] at e
 omega
theorem QnD:("0123456789" : Str).cps.toList=[48,49,50,51,52,53,54,55,56,57]:=by decide +kernel
end L2
namespace L2
open PySem PySem.Spec PyProof.Rows
section
variable {prog:Program}{w:World}{A:Around}{E:Value->Shared->Prop}{s:Shared}
theorem Qhl {it tp:Addr}{j:Nat}{ys:Array Value}{y:Value}{Q:Value->Shared->Prop}(jt:s.heap.IsTupleIter it tp j)(jl:s.heap.IsTuple tp ys)(jx:ys[j]? = some y)
  (K:∀ h2,h2.IsTupleIter it tp (j+1)->Heap.SameBut it s.heap h2->Q y { s with heap:=h2 }):wpAny (model prog w) A (Builtin.SmallTypes.nextOf (.ref it)) Q E s:=by
 obtain ⟨oi,hi,ci,di⟩:=id jt
 obtain ⟨ot,htp,_,nt,dt⟩:=jl
 unfold Builtin.SmallTypes.nextOf
 refine wpAny_bind (wpAny_callSpecial?_slot (name:=Str.ofString "__next__") jt.typeIs F.slot_tuple_iterator_next (wpAny_call_entry F.slot_tuple_iterator_next jt.typeIs F.entry_tuple_iterator_next ?_ (F.args_tuple_iterator_next_1 _)))
 show wpAny _ _ (field (.ref it) 0 >>= _) _ _ s
 refine wpAny_bind (wpAny_field hi di (x:=.ref tp) rfl ?_)
 show wpAny _ _ (if (Value.ref tp == Value.none)=true then _ else _) _ _ s
 rw [if_neg (show ¬ ((Value.ref tp == Value.none)=true) from Bool.false_ne_true)]
 show wpAny _ _ (field (.ref it) 1 >>= _) _ _ s
 refine wpAny_bind (wpAny_field hi di (x:=.int j 0) rfl ?_)
 show wpAny _ _ (seqItems? (.ref tp) >>= _) _ _ s
 refine wpAny_bind (wpAny_seqItems htp dt ?_)
 simp only [Int.toNat_natCast,jx]
 refine wpAny_bind (wpAny_setField hi di (by simp) (wpAny_pure ⟨y,rfl,wpAny_pure (K _ ?_ (Heap.SameBut.update ..))⟩))
 exact ⟨_,Heap.get?_update_self _ hi (Obj.isFreed_of_fields (Obj.data_mapFields di _)),(Obj.cls_mapFields ..).trans ci,by rw [Obj.data_mapFields di];simp [rawInt]⟩
theorem QeN {it tp:Addr}{j:Nat}{ys:Array Value}{Q:Value->Shared->Prop}(hh:A.handled=none)(jt:s.heap.IsTupleIter it tp j)(jl:s.heap.IsTuple tp ys)(jx:ys[j]? = none)
  (K:∀ h2 x,Heap.ExtBut it s.heap h2->(∃ o,h2.get? x=some o/\o.cls=.type "StopIteration")->E (.ref x) { s with heap:=h2 }):wpAny (model prog w) A (Builtin.SmallTypes.nextOf (.ref it)) Q E s:=by
 obtain ⟨oi,hi,ci,di⟩:=id jt
 obtain ⟨ot,htp,_,nt,dt⟩:=jl
 unfold Builtin.SmallTypes.nextOf
 refine wpAny_bind (wpAny_callSpecial?_slot (name:=Str.ofString "__next__") jt.typeIs F.slot_tuple_iterator_next (wpAny_call_entry F.slot_tuple_iterator_next jt.typeIs F.entry_tuple_iterator_next ?_ (F.args_tuple_iterator_next_1 _)))
 show wpAny _ _ (field (.ref it) 0 >>= _) _ _ s
 refine wpAny_bind (wpAny_field hi di (x:=.ref tp) rfl ?_)
 show wpAny _ _ (if (Value.ref tp == Value.none)=true then _ else _) _ _ s
 rw [if_neg (show ¬ ((Value.ref tp == Value.none)=true) from Bool.false_ne_true)]
 show wpAny _ _ (field (.ref it) 1 >>= _) _ _ s
 refine wpAny_bind (wpAny_field hi di (x:=.int j 0) rfl ?_)
 show wpAny _ _ (seqItems? (.ref tp) >>= _) _ _ s
 refine wpAny_bind (wpAny_seqItems htp dt ?_)
 simp only [Int.toNat_natCast,jx]
 refine wpAny_bind (wpAny_rule (wpAny_bind (wpAny_setField hi di (by simp) ?_)))
 show wpAny _ _ (newExc (.type "StopIteration") [] >>= _) _ _ _
 refine wpAny_bind ?_
 simp only [newExc,newTuple]
 refine wpAny_bind (wpAny_newObj_type ?_ (by size_fits))
 refine wpAny_bind (m:=firstArgMember _ _) (wpAny_of_eq (a:=Value.none) (by first | rfl | (simp only [firstArgMember];rfl)) ?_)
 refine wpAny_newObj_type ?_ (by size_fits)
 simp only [raiseNew]
 refine wpAny_bind (wpAny_handled ?_)
 first | rw [show A.in1.handled=none from hh] | rw [hh]
 refine wpAny_bind (wpAny_pure (wpAny_throw ?_))
 exact K _ _ (((Heap.SameBut.update ..).extBut.push _).push _) ⟨_,Heap.get?_push_size _ rfl,rfl⟩
theorem Qo5 {prog:Program}{w:World}{A:Around}(hh:A.handled=none)(it tp:Addr)(hne:tp≠it)(ys:Array Value) :
  Draws prog w A it [it,tp] ys.size (fun i v=>ys[i]? = some v) (fun i h=>h.IsTupleIter it tp i/\h.IsTuple tp ys) where
 live:=fun _ _ st=>let ⟨o,ho,_⟩:=st.1;⟨o,ho⟩
 frame:=fun _ _ _ st hk=>by
  obtain ⟨⟨o,ho,r⟩,o',ho',r'⟩:=st
  exact ⟨⟨o,hk it (by simp) o ho,r⟩,o',hk tp (by simp) o' ho',r'⟩
 item:=fun i s Q E hi st hQ=>by
  refine Qhl st.1 st.2 (y:=ys[i]) (by simp [hi]) fun h' hit' hs'=>?_
  exact hQ _ h' s.toks (by simp [hi]) ⟨hit',st.2.extBut hs'.extBut hne⟩ hs'
 done:=fun s Q E st hE=>QeN hh st.1 st.2 (by simp) hE
open AutoSeq1 (wpAny_loadPart') in
theorem Qo9 (l:Addr)(ys:Array Value)(n:Nat)(dd:Option Addr)(zz:Array (Option Value)) :
  Meets (Builtin.«enumerate.__new__» ⟨[.type "enumerate",.ref l],[]⟩) (fun _ R s=>s.heap.get? l=some { cls:=.type "tuple",dict:=dd,data:=.seq ys n,slots:=zz }/\
   R (.ok (.ret (.ref (s.heap.push { cls:=.type "tuple_iterator",data:=.fields #[.ref l,.int 0 0] }).objs.size)))
    { s with heap:=(s.heap.push { cls:=.type "tuple_iterator",data:=.fields #[.ref l,.int 0 0] }).push { cls:=.type "enumerate",data:=.fields #[.none,.bool false,.ref s.heap.objs.size,rawInt 0,.none,.none] } }):=
 .of_wp fun prog w A R s h=>by
  obtain ⟨hp,g,d,tk,os⟩:=s;obtain ⟨hl,h⟩:=h
  have hsub:=sub_enumerate
  have hT:Heap.IsTuple (Shared.heap ⟨hp,g,d,tk,os⟩) l ys:=⟨_,hl,rfl,n,rfl⟩
  wp_walk using wpAny_loadPart' hl
  refine wpAny_stack_any fun st=>wpAny_pure ?_
  split
  ·rename_i c _ _ _ _ _
   cases (c == Value.type "enumerate")
   ·wp_walk using wpAny_loadPart' hl,wpAny_pyIter_tuple hT
    exact ⟨_,rfl,h⟩
   ·wp_walk using wpAny_loadPart' hl,wpAny_pyIter_tuple hT
    exact ⟨_,rfl,h⟩
  ·wp_walk using wpAny_loadPart' hl,wpAny_pyIter_tuple hT
   exact ⟨_,rfl,h⟩
theorem Qho {l:Addr}{ys:Array Value}{Q:Value->Shared->Prop}(hL:s.heap.IsTuple l ys)
  (h:∀ h',IsEnum h' (s.heap.objs.size+1) s.heap.objs.size 0 .none->h'.IsTupleIter s.heap.objs.size l 0->(∀ b o,s.heap.get? b=some o->h'.get? b=some o)->Q (.ref (s.heap.objs.size+1)) { s with heap:=h' }) :
  wpAny (model prog w) A (call (.type "enumerate") [.ref l]) Q E s:=by
 obtain ⟨⟨c,dd,dt,zz⟩,hl,hc,n,hd⟩:=hL
 replace hc:c=.type "tuple" := hc
 replace hd:dt=.seq ys n:=hd
 subst hc hd
 refine callType_new F.called_enumerate (by decide) (F.typeCall_enumerate_1 _) (F.newCall_enumerate_1 _) (fun obj=>F.args_object_init_2 obj _) F.entry_enumerate_new (Qo9 l ys n dd zz) ⟨hl,?_⟩
 have hz:(s.heap.push { cls:=.type "tuple_iterator",data:=.fields #[.ref l,.int 0 0] }).objs.size=s.heap.objs.size+1:=Heap.size_push ..
 show _/\_
 rw [hz]
 have he:IsEnum ((s.heap.push { cls:=.type "tuple_iterator",data:=.fields #[.ref l,.int 0 0] }).push { cls:=.type "enumerate",data:=.fields #[.none,.bool false,.ref s.heap.objs.size,rawInt 0,.none,.none] }) (s.heap.objs.size+1) s.heap.objs.size 0 .none:=by
  have q:=Heap.get?_push_size (s.heap.push { cls:=.type "tuple_iterator",data:=.fields #[.ref l,.int 0 0] }) (o:={ cls:=.type "enumerate",data:=.fields #[.none,.bool false,.ref s.heap.objs.size,rawInt 0,.none,.none] }) rfl
  rw [hz] at q;exact q
 exact ⟨⟨_,he,rfl⟩,h _ he ⟨_,Heap.get?_push_of_some _ (Heap.get?_push_size _ rfl),rfl,rfl⟩ fun b o x=>Heap.get?_push_of_some _ (Heap.get?_push_of_some _ x)⟩
end
section
variable {X:Cx}
def Qrx (K:PySem.W.Frag)(a:Addr):It:=
 ⟨fun i H=>∃ xs x,SqT K H a xs/\xs[i]? = some x,fun i H v H'=>∃ T x,H T=none/\v=.ref T/\H'=upd H T (.tup [.int (i:Nat),x])/\∀ xs,SqT K H a xs->xs[i]? = some x,fun i H=>∃ xs,SqT K H a xs/\xs.length<=i⟩
theorem Qhi {P:Program}{w:World}{K:PySem.W.Frag}{es:List Expr}{k:Nat}{tp:Pos}(a e it:Addr)(hne:e≠it)(hae:e≠a)(hai:a≠it):Qm0 P w K (.Tuple es k tp) (Qrx K a) [e,it] e (fun i h=>(∃ old,IsEnum h e it ((i:Nat):Int) old)/\h.IsTupleIter it a i) where
 mem:=by simp
 obj:=fun i h st b hb=>by
  obtain ⟨⟨old,he⟩,o,ho,c,d⟩:=st
  rcases List.mem_cons.mp hb with rfl | hb
  ·exact ⟨_,he,fun v z=>by cases z⟩
  ·have q:b=it:=by simpa using hb
   subst q
   exact ⟨o,ho,fun v z=>by rw [d] at z;cases z⟩
 keep:=fun i h h' st k=>by
  obtain ⟨⟨old,he⟩,o,ho,r⟩:=st
  exact ⟨⟨old,k e (by simp) _ he⟩,o,k it (by simp) o ho,r⟩
 item:=by
  intro X hP hw hK hc i pins s σ H E I hf st hg
  subst hP hw hK
  obtain ⟨⟨old,he⟩,hit⟩:=st
  obtain ⟨xs,x,hq,hx⟩:=hg
  obtain ⟨its,rv,p,hz⟩:=I.tuple hq
  obtain ⟨u,hu,ru⟩:=rv.get hx
  have hlt:i<its.toArray.size:=by
   rcases Nat.lt_or_ge i its.toArray.size with z | z
   ·exact z
   ·rw [List.size_toArray] at z
    rw [List.getElem?_eq_none z] at hu
    cases hu
  refine wpAny_pyNext_enum_itemD (Qo5 (show X.A.in1.handled=none from I.ok.hd hc) it a hai its.toArray) he ⟨hit,p⟩ hlt hne (by simp [hne,hae]) fun y h1 tk hy heo hst ht1 hz1 hk1=>?_
  obtain ⟨hit1,_⟩:=hst
  have eu:y=u:=by
   have:its[i]? = some y:=by simpa using hy
   rw [hu] at this
   exact (Option.some.inj this).symm
  subst eu
  refine ⟨_,rfl,wpAny_letOwnedTupleGo_enum heo fun h2 he2 hs2=>?_⟩
  have hel:e<s.heap.objs.size:=Heap.lt_size he
  have hT:H s.heap.objs.size=none:=I.hok.fresh (Nat.le_refl _)
  have kk:∀ b o,b∉[e,it]->s.heap.get? b=some o->h2.get? b=some o:=fun b o hb q=>by
   have nb:b≠e:=fun z=>hb (by simp [z])
   have ni:b≠it:=fun z=>hb (by simp [z])
   exact (hs2.2 b nb).trans (hk1 b o nb ni q)
  have gT:h2.get? s.heap.objs.size=some { cls:=.type "tuple",data:=.seq #[.int i tk,y] }:=(hs2.2 _ (Nat.ne_of_gt hel)).trans ht1
  have I1:Inv X pins σ (upd H s.heap.objs.size (.tup [.int (i:Nat),x])) { s with heap:=h2,toks:=tk+1 }:=I.laidL kk hf (Nat.le_refl _) ⟨by show 2<=sizeLine;decide,[.int i tk,y],.cons ⟨_,rfl⟩ (.cons ru .nil),⟨_,gT,rfl,_,rfl⟩⟩
  refine ⟨.ref s.heap.objs.size,_,I1,rfl,⟨s.heap.objs.size,x,hT,rfl,rfl,fun zs hy=>by rw [I.tuple_inj hy hq];exact hx⟩,⟨⟨y,?_⟩,hit1.extBut hs2.extBut (Ne.symm hne)⟩,fun b hb=>?_⟩
  ·have:((i+1:Nat):Int)=(i:Int)+1:=by push_cast;rfl
   rw [this];exact he2
  ·have nb:b≠s.heap.objs.size:=by
    rcases List.mem_cons.mp hb with rfl | hb
    ·exact Nat.ne_of_lt hel
    ·have q:b=it:=by simpa using hb
     subst q
     obtain ⟨o,ho,_⟩:=hit
     exact Nat.ne_of_lt (Heap.lt_size ho)
   rw [Qad nb]
   exact (hf b hb).1
 done:=by
  intro X hP hw hK hc i pins s σ H E I hf st hg
  subst hP hw hK
  obtain ⟨⟨old,he⟩,hit⟩:=st
  obtain ⟨xs,hq,hx⟩:=hg
  obtain ⟨its,rv,p,hz⟩:=I.tuple hq
  have hl:=rv.length
  have hT:s.TypeIs (.ref e) "enumerate" := ⟨_,he,rfl⟩
  unfold pyNext
  refine wpAny_bind (wpAny_attempt (wpAny_callSpecial?_slot (name:=Str.ofString "__next__") hT F.slot_enumerate_next (wpAny_call_entry F.slot_enumerate_next hT F.entry_enumerate_next ?_ (F.args_enumerate_next_1 _))))
  show wpAny _ _ (field (.ref e) 2 >>= _) _ _ _
  refine wpAny_bind (wpAny_field he rfl (x:=.ref it) rfl ?_)
  refine wpAny_bind (QeN (I.ok.hd hc) hit p (by simp;omega) fun h' x eb hx'=>?_)
  obtain ⟨o,ho,hc'⟩:=hx'
  refine wpAny_bind (wpAny_isInstance (T := "StopIteration") (b:=true) ⟨o,ho,hc'⟩ isSubtype_stop ?_)
  exact wpAny_pure ⟨rfl,I.turnedL (ch:=[e,it]) (t':=s.toks) (fun b o hb q=>eb b o (fun z=>hb (by simp [z])) q) hf⟩
 self:=fun _ _ _ _ _ st h=>let ⟨_,he⟩:=st.1;wpAny_pyIter_enum he h
def Itq (kd:Bool)(K:PySem.W.Frag)(a:Addr):It:=match kd with
 |true=>Ite K a
 |false=>Qrx K a
def QoU (K:PySem.W.Frag)(ta:TA):TI:=fun σ H R=>ta σ H fun vs H1=>∃ a kd,vs=[.ref a]/\(∃ xs,SqB kd K H1 a xs)/\R (Itq kd K a) H1
theorem QkW {es:List Expr}{k:Nat}{tp:Pos}{e:Expr}{ta:TA}{p pos:Pos}(hg:Gl X "enumerate")(hm:X.mg "enumerate" = none)(ha:PA X [e] ta)(hs:starEach [e] X.env=(false,eval e X.env) :: starEach [] X.env:=by rfl)
  (hpl:(backTo pos (starEach [] X.env)).any (·.1)=false:=by rfl):PI X (.Tuple es k tp) (.Call (.Name "enumerate" p) [e] [] pos) (QoU X.K ta):=by
 intro pins s σ H R I h
 refine wpAny_Call_Name_kw (QdW I hg hm Qjf ?_ (by decide) (by decide))
 refine PyProof.Rows.callWith_type1 (thn (ha pos pins s σ H _ I h) fun us s1 ⟨vs,H1,I1,r1,a,kd,e1,⟨xs,hq⟩,q⟩=>?_) hs hpl
 subst e1
 obtain ⟨u,rfl,ru⟩:=Qcc r1
 cases ru
 have fz:∀ b∈[s1.heap.objs.size+1,s1.heap.objs.size],Qi2 X pins H1 b:=fun b hb=>by
  have hb':s1.heap.objs.size<=b:=by
   rcases List.mem_cons.mp hb with rfl | hb
   ·exact Nat.le_succ _
   ·have z:b=s1.heap.objs.size:=by simpa using hb
    rw [z];exact Nat.le_refl _
  exact I1.fpOk (H':=H1) hb' (I1.hok.fresh hb')
 cases kd with
 |true=>
  obtain ⟨its,rv,pl,hz⟩:=I1.list (show SqL X.K H1 a xs from hq)
  refine call_enumerate_list pl.isList fun h' he hit hsz kp=>wpAny_pyIter_enum he ?_
  have I2:Inv X pins σ H1 { s1 with heap:=h' }:=I1.kept (t':=s1.toks) kp
  exact ⟨s1.heap.objs.size+1,[s1.heap.objs.size+1,s1.heap.objs.size],_,Ite X.K a,H1,rfl,I2,Qjh a _ _ (Nat.succ_ne_self _),⟨⟨_,he⟩,hit⟩,fz,q⟩
 |false=>
  obtain ⟨its,rv,pl,hz⟩:=I1.tuple (show SqT X.K H1 a xs from hq)
  have hal:a<s1.heap.objs.size:=by
   obtain ⟨o,e,_⟩:=pl
   exact Heap.lt_size e
  refine Qho (show s1.heap.IsTuple a its.toArray from pl) fun h' he hit kp=>wpAny_pyIter_enum he ?_
  have I2:Inv X pins σ H1 { s1 with heap:=h' }:=I1.kept (t':=s1.toks) kp
  exact ⟨s1.heap.objs.size+1,[s1.heap.objs.size+1,s1.heap.objs.size],_,Qrx X.K a,H1,rfl,I2,Qhi a _ _ (Nat.succ_ne_self _) (Nat.ne_of_gt (Nat.lt_succ_of_lt hal)) (Nat.ne_of_lt hal),⟨⟨_,he⟩,hit⟩,fz,q⟩
end
section
variable {X:Cx}{pins:List (Addr × Obj)}{σ:St}{H:Hp}{s:Shared}
theorem Inv.track {a:Addr}{o:HO}(I:Inv X pins σ H s)(h0:X.s₀.heap.get? a=none)(hn:H a=none)(nl:a≠X.env.locals)(nc:∀ y c,X.env.cells.lookup y=some c->c≠a)(np:∀ p∈X.pn++pins,p.1≠a)(hb:X.base.get? a=none)(hf:∀ b∈X.fs,b≠a)
  (new:ObjOk X.prog X.w (upd H a o) s.heap a o):Inv X pins σ (upd H a o) s:=by
 have ne0:∀ b z,X.s₀.heap.get? b=some z->b≠a:=fun b z e q=>by rw [q,h0] at e;cases e
 refine ⟨I.ok,I.os,I.bare,⟨I.base.keep,I.base.slot,fun b z e n hx=>by rw [Qad (ne0 b z e)];exact I.base.free b z e n hx,I.base.there,fun b xs e=>?_,fun b z u e=>?_,fun b ps e=>?_⟩,I.loc,I.cell,by rw [Qad (Ne.symm nl)];exact I.free,fun y c e=>by rw [Qad (nc y c e)];exact I.freeC y c e,fun p hp=>?_,I.hok.track hn new,I.len⟩
 ·have q:=I.base.tups b xs e
  rw [Qad (Qaj q hn)];exact q
 ·have q:=I.base.frzs b z u e
  rw [Qad (Qaj q hn)];exact q
 ·obtain ⟨more,q⟩:=I.base.tbls b ps e
  exact ⟨more,by rw [Qad (Qaj q hn)];exact q⟩
 ·obtain ⟨e,n,r⟩:=I.pin p hp
  exact ⟨e,by rw [Qad (np p hp)];exact n,r⟩
theorem Qco {M:Model}{A:Around}{E:Value->Shared->Prop}{i:Nat}{x:Str}{pos:Pos}{Q:Unit->Shared->Prop}(I:Inv X pins σ H s)(hN:X.N.Nodup)(hi:X.N[i]? = some x)(hk:X.env.kindOf x=some .local)
  (h:∀ s',Inv X pins (σ.set i none) H s'->Q () s'):wpAny M A (do bindName X.env x .none;unbindBehindTheSuite X.env x pos) Q E s:=by
 obtain ⟨m,hn,hl⟩:=id I.loc
 have hcls:(X.env.scope.kind == .class || (X.env.scope.kind == .module && X.env.locals != X.env.globals))=false:=by rw [I.ok.kind];rfl
 have hiσ:i<σ.length:=by rw [I.len];exact (List.getElem?_eq_some_iff.mp hi).1
 have cne:=I.cne
 refine wpAny_nameGoes_keeps hk hn hcls (fun h' v hn' hs=>?_)
 have up:∀ b o,X.s₀.heap.get? b=some o->b≠X.env.locals:=fun b o e=>Nat.ne_of_lt (Nat.lt_of_lt_of_le (Heap.lt_size e) I.ok.above)
 refine h _ ⟨I.ok,I.os,I.bare,⟨fun b o e n hb hx=>?_,fun b o e n hb hx=>?_,I.base.free,fun b o e hx=>?_,I.base.tups,I.base.frzs,I.base.tbls⟩,⟨_,hn',fun j y v' e1 e2 e3=>?_⟩,fun y c e=>?_,I.free,I.freeC,fun p hp=>?_,fun b ob e=>?_,by simpa using I.len⟩
 ·exact (hs.2 b (up b o e)).trans (I.base.keep b o e n hb hx)
 ·obtain ⟨sl,e1⟩:=I.base.slot b o e n hb hx
  exact ⟨sl,(hs.2 b (up b o e)).trans e1⟩
 ·obtain ⟨o',e1⟩:=I.base.there b o e hx
  exact ⟨o',(hs.2 b (up b o e)).trans e1⟩
 ·by_cases hj:j=i
  ·subst hj
   rw [List.getElem?_set_self hiσ] at e2
   cases e2
  ·rw [List.getElem?_set_ne (Ne.symm hj)] at e2
   obtain ⟨u',r',q⟩:=hl j y v' e1 e2 e3
   refine ⟨u',r',?_⟩
   rcases q with ⟨k,e⟩ | ⟨k,c,e,z⟩
   ·refine .inl ⟨k,?_⟩
    have ny:y≠x:=fun e=>hj (Qex hN e1 (e▸hi))
    simp [ny,e]
   ·exact .inr ⟨k,c,e,z.sameBut hs (cne y c e)⟩
 ·obtain ⟨w',z⟩:=I.cell y c e
  exact ⟨w',z.sameBut hs (cne y c e)⟩
 ·obtain ⟨e,n,ne,nf,d⟩:=I.pin p hp
  exact ⟨(hs.2 p.1 ne).trans e,n,ne,nf,d⟩
 ·refine (I.hok b ob e).stay (fun c w' hc q=>(hs.2 c ?_).trans q) (fun _ q=>q) fun _ _ q=>q
  rintro rfl
  rcases hc with rfl | hc
  ·rw [I.free] at e;cases e
  ·rw [I.free] at hc;cases hc
def QdP (a:Addr)(cv:Value)(dx:Option Addr:=none):HO:=.ext fun h=>∃ o,h.get? a=some o/\o.cls=cv/\∀ d,dx=some d->o.dict=some d/\PySem.W.notCls o=true
def Ends.less (D:Ends)(i:Nat):Ends:={ D with nx:=fun σ H=>D.nx (σ.set i none) H,ct:=fun σ H=>D.ct (σ.set i none) H,bk:=fun σ H=>D.bk (σ.set i none) H }
def PHA (X:Cx):List ExceptHandler->List (Addr × Nat × TS)->Prop
 |.ExceptHandler (some (.Name x np)) (some n) (b₀ :: suite) pos :: rest,(C,i,ts) :: r=>Gl X x/\X.mg x=some (.ref C)/\(x == ("__debug__" : Str))=false/\X.N.Nodup/\X.N[i]? = some n/\X.env.kindOf n=some .local/\X.env.scope.names.lookup n=some .local/\(∀ ev,PSs (X.sui ev) (b₀ :: suite) ts)/\PHA X rest r
 | [],[]=>True
 |_,_=>False
variable {hs:List ExceptHandler}
theorem QkU {x n:Str}{np pos:Pos}{b₀:Stmt}{suite:List Stmt}{rest:List ExceptHandler}{C:Addr}{i:Nat}{ts:TS}{r:List (Addr × Nat × TS)}(hm:X.mg x=some (.ref C))(hN:X.N.Nodup)(hsu:∀ ev,PSs (X.sui ev) (b₀ :: suite) ts)(hr:PHA X rest r)(hi:X.N[i]? = some n:=by rfl)(hk:X.env.kindOf n=some .local:=by rfl)(hl:X.env.scope.names.lookup n=some .local:=by rfl)(hg:Gl X x:=by rfl)(hdb:(x == ("__debug__" : Str))=false:=by decide) :
  PHA X (.ExceptHandler (some (.Name x np)) (some n) (b₀ :: suite) pos :: rest) ((C,i,ts) :: r):=⟨hg,hm,hdb,hN,hi,hk,hl,hsu,hr⟩
theorem QnT:PHA X [] []:=True.intro
theorem QlV {K:PySem.W.Frag}{a:Addr}{t c:Value}(e:PySem.W.kitOne K t c=some true):Answers (fun s=>K.In s.heap/\∃ o,s.heap.get? a=some o/\o.cls=t) (.ref a) c true:=by
 intro dep tk prog w A R s hs
 obtain ⟨h0,g,d,tt,os⟩:=s
 obtain ⟨⟨X,o,ho,hc⟩,hq⟩:=hs
 have LT:PySem.W.Looks (model prog w) h0 (typeOf (.ref a)) t:=hc▸(PySem.W.Looks.ld ho).andThen .now
 unfold PySem.W.kitOne at e
 unfold Builtin.«isinstance.nested»
 refine wpAny_bind (LT.at ?_)
 by_cases q:(t == c)=true
 ·rw [if_pos q]
  first
   |((repeat lk);exact hq tt)
   |exact wpAny_bind (wpAny_rule (hq tt))
   |exact wpAny_bind (wpAny_rule (wpAny_pure (hq tt)))
 ·rw [if_neg q] at e
  rw [if_neg q]
  obtain ⟨hty,his,hsub⟩:=PySem.W.kit_cls (M:=model prog w) X e
  have LI:PySem.W.Looks (model prog w) h0 (isInstance (.ref a) c) true:=LT.andThen hsub
  refine wpAny_bind (hty.at ?_)
  rw [if_pos (by decide)]
  k_delta "plainIsInstance"
  refine wpAny_bind (wpAny_bind (his.at ?_))
  simp only [Bool.not_true,Bool.false_eq_true,if_false]
  refine wpAny_bind (LI.at ?_)
  first
   |exact wpAny_pure (wpAny_pure (hq tt))
   |(simp only [if_true];first | exact wpAny_pure (wpAny_pure (hq tt)) | exact wpAny_pure (hq tt) | exact wpAny_bind (wpAny_pure (wpAny_pure (hq tt))))
end
end L2
namespace YE
open PySem PySem.Spec PySem.Calls PySem.W PyProof.Rows Builtin Builtin.ObjectAttr Builtin.Getset_descriptor
section
variable {prog:Program}{w:World}{A:Around}{E:Value->Shared->Prop}{s:Shared}{K:Frag}{x C:Addr}{ox:Obj}{od:Option Obj}{name:Str}
theorem slotGa:Slot "ValueError" "__getattribute__" "BaseException.__getattribute__" :=
 .of (owner := "BaseException") (n := "__getattribute__") (by rw [typeLookup_type,builtinLookup_eq_fast];kernel_rfl) (by decide +kernel) (by decide +kernel) (by decide +kernel)
  (by first | exact .inl (by decide +kernel) | exact .inr (by decide +kernel)) (by rw [isSubtype_type];kernel_rfl)
theorem QrG:(Value.builtin "BaseException.__getattribute__" == Value.builtin "object.__getattribute__")=false:=by decide +kernel
theorem QkN {expr:Bool}{Q:Value->Shared->Prop}(X:K.In s.heap)(I:InstAt s.heap x ox C od)(hga:findIn K (.ref C) "__getattribute__" = some (some (.builtin "BaseException.__getattribute__")))(hk:findIn K (.ref C) "__getattr__" = some none)
  (hm:mroIn K C (.type "BaseException")=some true) {fill:Bool} {tk:Tok}
  (h:wpAny (model prog w) A.in1 (Builtin.«object.__getattribute__» ⟨[.ref x,.str name tk],[]⟩) (fun fin s'=>match fin with | .done (.ret v)=>wpAny (model prog w) A (handedOut v) Q E s' | _=>False) (fun _ _=>False) s) :
  wpAny (model prog w) A (getAttrBy (.ref x) (.str name tk) fill expr) Q E s:=by
 refine wpAny_holding (wpAny_bind (I.type _ _ _ _ (fun _ _ e=>e) (wpAny_bind (looks_findIn X hga _ _ _ _ (fun _ _ e=>e) ?_))))
 dsimp only
 rw [show (onTheHeap (Value.ref C) && Value.builtin "BaseException.__getattribute__" == Value.builtin "object.__getattribute__")=false from by rw [QrG,Bool.and_false],if_neg (by decide)]
 refine wpAny_bind ((looks_hook (mc:=.ref C) X (r:=none) (by rw [if_pos (by rfl)];exact hk)) _ _ _ _ (fun _ _ e=>e) (wpAny_bind (wpAny_attempt (wpAny_holding ?_))))
 unfold callGetattribute
 rw [show (expr && onTheHeap (Value.builtin "BaseException.__getattribute__"))=false from Bool.and_false _,if_neg (by decide)]
 unfold boundAndCalled
 rw [slotGa.bind]
 refine wpAny_bind (wpAny_pure ?_)
 show wpAny _ _ (call (.builtin "BaseException.__getattribute__") [.ref x,.str name tk]) _ _ _
 refine wpAny_call ?_
 refine codeAny_call_builtin slotGa.plain F.entry_bexc_ga ?_
 refine @check_slot (model prog w) _ _ s "BaseException.__getattribute__" "BaseException" "__getattribute__" (.ref x) [.str name tk] [] _ (by decide +kernel) (by decide +kernel) (I.type.andThen (looks_mroIn X hm)) (F.args_bexc_ga (.ref x) (.str name tk)) ?_
 refine wpAny_mono h (fun fin s' z=>?_) fun _ _ z=>z.elim
 rcases fin with (_ | _ | _ | _) | _<;>first | exact z | exact z.elim
theorem QiG {tk:Tok}{v:Value}{Q:Fin->Shared->Prop}(X:K.In s.heap)(I:InstAt s.heap x ox C od)(e:findObj K C od name=some (.value v))(h:Q (.done (.ret v)) s) :
  wpAny (model prog w) A (Builtin.«object.__getattribute__» ⟨[.ref x,.str name tk],[]⟩) Q E s:=by
 obtain ⟨hh,gg,d,t,os⟩:=s
 have L0:=I.type (M:=model prog w)
 have L1:=looks_find (M:=model prog w) X I e
 refine wpAny_bind (wpAny_pure (wpAny_bind (wpAny_pure (wpAny_bind (L0.at (wpAny_bind (L1.at ?_)))))))
 exact wpAny_pure h
structure ECls (K:Frag)(C:Addr):Prop where
 ga:findIn K (.ref C) "__getattribute__" = some (some (.builtin "BaseException.__getattribute__"))
 gh:findIn K (.ref C) "__getattr__" = some none
 hd:hasDictIn K C=true
 mb:mroIn K C (.type "BaseException")=some true
 mo:mroIn K C (.type "object")=some true
 cl:findIn K (.ref C) "__class__" = some (some (.builtin "object.__class__"))
theorem QmS {expr:Bool}{v:Value}{o:Obj}{Q:Value->Shared->Prop}(e:ECls K C)(X:K.In s.heap)(I:InstAt s.heap x ox C (some o))(hn:findIn K (.ref C) name=some none)(hl:lookIn name o=some (some v))(hh:handedIn v=true)
  (h:Q v { s with toks:=s.toks+1 }):wpAny (model prog w) A (getAttr (.ref x) name expr) Q E s:=by
 unfold getAttr
 refine wpAny_bind (wpAny_mkText ?_)
 refine QkN (s:={ s with toks:=s.toks+1 }) X I e.ga e.gh e.mb (QiG (s:={ s with toks:=s.toks+1 }) X I (findObj_own e.hd hn rfl hl) ?_)
 exact handed_on hh h
def excOver:List Value->Bool
 |.ref _ :: r=>excOver r
 |l=>l == L2.bmV
theorem Qd1 (self:Value):∀ {l:List Value},excOver l=true->refuseLoop self "__setattr__" l=pure ()
 | [],e=>by cases (beq_iff_eq.mp (show (([]:List Value) == L2.bmV)=true from e))
 |v :: r,e=>by
  by_cases q:(v :: r)=L2.bmV
  ·rw [q];exact PySem.F.store_ValueError.passes self
  ·cases v with
   |ref c=>rw [refuseLoop_ref];exact Qd1 self (show excOver r=true from e)
   |_=>exact absurd (beq_iff_eq.mp e) q
theorem Qmp {R:Result->Shared->Prop}{tk:Tok}{v:Value}(X:K.In s.heap)(I:InstAt s.heap x ox C od)(hp:(clsIn K C).any (fun cd=>excOver cd.mro)=true)(hm:mroIn K C (.type "object")=some true)(ht:takerIn K C name=some none)
  (h:∀ b,wpAny (model prog w) A.in1 (storeInOwnDict (.ref x) (.ref C) (.str name tk) name v b)
   (fun fin s'=>match fin with | .done f=>R (.ok f) s' | .again c'=>c'.quiet=true/\codeAny (model prog w) A c' R s') (fun e s'=>R (.error e) s') s) :
  codeAny (model prog w) A (.call (.builtin "object.__setattr__") ⟨[.ref x,.str name tk,v],[]⟩) R s:=by
 have SF:=PySem.F.store_object
 obtain ⟨cd,hc,ho⟩:=any_some hp
 have sub:Looks (model prog w) s.heap (isInstance (.ref x) (.type "object")) true:=I.type.andThen (looks_mroIn X hm)
 refine codeAny_call_builtin SF.slot.plain SF.entry (@check_slot (model prog w) _ _ s "object.__setattr__" "object" "__setattr__" (.ref x) [.str name tk,v] [] _ SF.kind SF.split sub (SF.args (.ref x) (.str name tk) v) ?_)
 obtain ⟨attr,ha,hr⟩:=Option.bind_eq_some_iff.mp ht
 have hm:Looks (model prog w) s.heap (mroOf (.ref C)) cd.mro:=(looks_clsIn X hc).andThen .now
 have L3:Looks (model prog w) s.heap (storeTaker? attr) none:=by
  cases attr with
  |none=>cases hr;exact .now
  |some a=>
   obtain ⟨b,hb,q⟩:=Option.map_eq_some_iff.mp hr
   rw [← q]
   refine (looks_takesIn X hb).andThen ?_
   cases b<;>exact .now
 rw [osa_eq,refuse_eq]
 refine wpAny_bind (wpAny_bind (I.type.here (wpAny_bind (hm.here ?_))))
 rw [Qd1 _ ho]
 refine wpAny_pure (wpAny_bind (I.type.here (wpAny_bind ((looks_findIn X ha).here (wpAny_bind (L3.here ?_))))))
 exact h _
theorem QnN {h:Heap}{mA:Str->Option Value}(J:h.Inst x C mA):∃ ox od,InstAt h x ox C od:=by
 obtain ⟨o,hx,hc,hnc,hd⟩:=J
 have hn:notCls o=true:=by
  unfold notCls
  split
  ·rename_i c q;exact absurd q (hnc c)
  ·rfl
 rcases hd with ⟨hdn,_⟩ | ⟨dx,hdx,_,o',es,ep,e1,_⟩
 ·exact ⟨o,none,hx,hc,hn,by rw [hdn];trivial⟩
 ·exact ⟨o,some o',hx,hc,hn,by rw [hdx];exact e1⟩
theorem QnE {Q:Unit->Shared->Prop}{v:Value}{mA:Str->Option Value}{ns:List Str}(hs:findIn K (.ref C) "__setattr__" = some (some (.builtin "object.__setattr__")))(hp:(clsIn K C).any (fun cd=>excOver cd.mro)=true)
  (hm:mroIn K C (.type "object")=some true) (ht:takerIn K C name=some none) (hh:hasDictIn K C=true) (X:K.In s.heap) (J:s.heap.Inst x C mA) (hw:Within mA ns) (hsz:ns.length<=sizeLine)
  (hq:∀ h' tk',h'.Inst x C (fun y=>if y=name then some v else mA y)->
   (∀ b o,b≠x->(∀ o₀ dx,s.heap.get? x=some o₀->o₀.dict=some dx->b≠dx)->s.heap.get? b=some o->h'.get? b=some o)->
   (∀ o₀,s.heap.get? x=some o₀->∃ o₁,h'.get? x=some o₁/\o₁.cls=o₀.cls/\o₁.data=o₀.data/\o₁.slots=o₀.slots/\(∀ dx,o₀.dict=some dx->o₁.dict=some dx)/\(o₀.dict=none->o₁.dict=some s.heap.objs.size))->Q () { s with heap:=h',toks:=tk' }) :
  wpAny (model prog w) A (setAttr (.ref x) name v) Q E s:=by
 obtain ⟨ox,od,I⟩:=QnN J
 refine set_plain X I hs (Qmp (s:={ s with toks:=s.toks+1 }) X I hp hm ht fun b=>?_)
 obtain ⟨cd,hc,hd'⟩:=any_some hh
 obtain ⟨o,hx,hcl,hnc,hd⟩:=J
 obtain ⟨oc,odi,oda,osl⟩:=o
 dsimp only at hcl hnc hd
 subst hcl
 refine wpAny_bind (wpAny_pure (wpAny_bind ?_))
 show wpAny _ _ (instanceDict x true) _ _ _
 unfold instanceDict
 refine wpAny_bind (wpAny_loadPart hx ?_)
 dsimp only
 refine wpAny_bind (PySem.W.Looks.here (s:={ s with toks:=s.toks+1 }) (looks_clsIn X hc) ?_)
 rw [hd']
 rcases hd with ⟨hdn,hmA⟩ | ⟨dx,hdx,hne,hns⟩
 ·subst hdn
  have hxs:x≠s.heap.objs.size:=Nat.ne_of_lt (Heap.lt_size hx)
  have hx₁:(s.heap.push { cls:=.type "dict",data:=.dict #[] }).get? x=some ⟨.ref C,none,oda,osl⟩:=Heap.get?_push_of_some _ hx
  have hgd:((s.heap.push { cls:=.type "dict",data:=.dict #[] }).update x fun o=>{ o with dict:=some s.heap.objs.size }).get? s.heap.objs.size=some { cls:=.type "dict",data:=.dict #[] }:=
   (Heap.get?_update_ne _ _ _ _ hxs.symm).trans (Heap.get?_push_at rfl rfl)
  have hnd:((s.heap.push { cls:=.type "dict",data:=.dict #[] }).update x fun o=>{ o with dict:=some s.heap.objs.size }).Ns s.heap.objs.size (fun _=>none):=
   ⟨_,#[],_,hgd,rfl,fun e he=>absurd he (by simp),fun _=>rfl⟩
  dsimp only
  rw [if_neg (by decide),if_neg (by simp [typeHasDict])]
  cases oda with
  |cls c=>exact absurd rfl (hnc c)
  |_=>
   refine wpAny_bind (wpAny_alloc' ?_)
   refine wpAny_bind (wpAny_update' hx₁ ?_)
   refine wpAny_pure ?_
   show wpAny _ _ (storeInDict s.heap.objs.size (.str name _) name v) _ _ _
   unfold storeInDict newKeyGuard
   refine wpAny_bind (wpAny_pure (wpAny_bind (wpAny_nsSet1 (Heap.Ns1.of_empty hnd) fun h' hn' hs=>?_)))
   obtain ⟨oD,esD,epD,hoD,hdD,hcD⟩:=hn'.count (Within.cons name v Within.nil)
   refine wpAny_bind (wpAny_lookBehind hoD (by rw [hdD];exact pastItsLine_dict (Nat.le_trans hcD (by rw [List.length_cons,List.length_nil,sizeLine_eq];omega))) ?_)
   have hx':h'.get? x=some ⟨.ref C,some s.heap.objs.size,_,osl⟩:=(hs.2 x hxs).trans (Heap.get?_update_self _ hx₁ (by first | rfl | exact (Heap.get?_some_iff.mp hx).2))
   refine wpAny_pure (hq h' _ ⟨_,hx',rfl,hnc,.inr ⟨s.heap.objs.size,rfl,hxs.symm,?_⟩⟩ (fun b ob hbx _ hb=>?_) (fun o₀ h₀=>?_))
   ·obtain ⟨o',es,ep,e1,e2,e3,eu,e4⟩:=hn'
    exact ⟨o',es,ep,e1,e2,e3,eu,fun y=>by rw [e4 y];by_cases hy:y=name<;>simp [hy,hmA]⟩
   ·exact (hs.2 b (Nat.ne_of_lt (Heap.lt_size hb))).trans ((Heap.get?_update_ne _ _ _ _ hbx).trans (Heap.get?_push_of_some _ hb))
   ·obtain rfl:=Option.some.inj (hx.symm.trans h₀)
    exact ⟨_,hx',rfl,rfl,rfl,fun dx e=>by (cases e),fun _=>rfl⟩
 ·subst hdx
  refine wpAny_pure ?_
  show wpAny _ _ (storeInDict dx (.str name _) name v) _ _ _
  unfold storeInDict newKeyGuard
  refine wpAny_bind (wpAny_pure (wpAny_bind (wpAny_nsSet1 (s:={ s with toks:=s.toks+1 }) hns fun h' hn' hs=>?_)))
  obtain ⟨oD,esD,epD,hoD,hdD,hcD⟩:=hn'.count (Within.cons name v hw)
  refine wpAny_bind (wpAny_lookBehind hoD (by rw [hdD];exact pastItsLine_dict (Nat.le_trans hcD (by rw [List.length_cons];omega))) ?_)
  refine wpAny_pure (hq h' _ ⟨_,(hs.2 x hne.symm).trans hx,rfl,hnc,.inr ⟨dx,rfl,hne,hn'⟩⟩ (fun b ob _ hbd hb=>?_)
   (fun o₀ h₀=>⟨o₀,(hs.2 x hne.symm).trans h₀,rfl,rfl,rfl,fun _ e=>e,fun z=>by obtain rfl:=Option.some.inj (hx.symm.trans h₀);cases z⟩))
  exact (hs.2 b (hbd _ dx hx rfl)).trans hb
end
end YE
namespace YE
open PySem PySem.Spec PySem.Calls PySem.W PyProof.Rows
abbrev QhN (C:Addr)(t:Addr):Obj:={ cls:=.ref C,data:=.fields #[.ref t,.none,.none,.none,.bool false,.none] }
section
variable {prog:Program}{w:World}{A:Around}{E:Value->Shared->Prop}{h:Heap}{g:Array GenState}{d:Drawn}{t:Nat}{os:OsState}
variable {nm q:Str}{C N:Addr}{bs bm bmB:List Value}{hdct:Bool}{sn:List Str}{sub:List Value}{ab:Bool}{col:Option Bool}{dd:Option Addr}{k0 k1 k2 k3 k5:Option Value}{B newId initId:String}
abbrev Qc7 (h:Heap)(C:Addr)(rest:List Value):Heap:=(h.push { cls:=.type "tuple",data:=.seq rest.toArray }).push (QhN C h.objs.size)
theorem QbC {rest:List Value}{b:Addr}{o:Obj}(e:h.get? b=some o):(Qc7 h C rest).get? b=some o:=Heap.get?_push_of_some _ (Heap.get?_push_of_some _ e)
theorem QgJ {rest:List Value}:(Qc7 h C rest).get? (h.objs.size+1)=some (QhN C h.objs.size):=by
 have:=Heap.get?_push_size (h.push { cls:=.type "tuple",data:=.seq rest.toArray }) (o:=QhN C h.objs.size) rfl
 rwa [Heap.size_push] at this
theorem Qec (F:ExcBaseFacts B newId initId bmB)(T:OwnTail h bmB bm){rest:List Value}{Q:Fin->Shared->Prop}
  (hC:h.get? C=some (excClassObj nm q C N bs bm hdct sn sub ab col dd k0 k1 k2 k3 k5 newId)) (hrest:rest.length<=sizeLine) {mN:Str->Option Value} {fI:Addr} {oI:Obj}
  (hn:h.Ns N mN) (hi:mN "__init__" = some (.ref fI)) (hfI:h.get? fI=some oI) (hfc:oI.cls=.type "function")
  (hq:wpAny (model prog w) A (call (.ref fI) (.ref (h.objs.size+1) :: rest)) (fun r s'=>r=.none/\Q (.done (.ret (.ref (h.objs.size+1)))) s') E ⟨Qc7 h C rest,g,d,t,os⟩) :
  wpAny (model prog w) A (Builtin.«type.__call__» ⟨.ref C :: rest,[]⟩) Q E ⟨h,g,d,t,os⟩:=by
 repeat (first | with_reducible refine wpAny_loadPart_at hC ?_ | with_reducible refine wpAny_madeBy_exc hC ?_ | wp_step)
 refine codeAny_call_builtin_code (Code.quiet_builtin _ F.quiet) (wpAny_check_new_subT F T hC (codeAny_exc_new_subT F T hC ?_ hrest))
 show wpAny _ _ _ _ _ _
 have c1:(Qc7 h C rest).get? C=some (excClassObj nm q C N bs bm hdct sn sub ab col dd k0 k1 k2 k3 k5 newId):=QbC hC
 have n1:(Qc7 h C rest).Ns N mN:=hn.keeps fun b o e=>QbC e
 have i1:(Qc7 h C rest).get? fI=some oI:=QbC hfI
 have e1:(Qc7 h C rest).get? (h.objs.size+1)=some (QhN C h.objs.size):=QgJ
 have T1:OwnTail (Qc7 h C rest) bmB bm:=T.keeps fun b o e=>QbC e
 have self:(Value.ref C :: bm).contains (.ref C)=true:=by simp
 unfold isInstance
 repeat (first | with_reducible refine wpAny_loadPart_at e1 ?_ | (with_reducible refine wpAny_isSubtype_exc c1 ?_;rw [self]) | wp_step)
 show wpAny _ _ (typeLookup (.ref C) _) _ _ _
 refine wpAny_typeLookup_tail c1 n1 T1 F.mroIs F.init.lookup ?_
 rw [hi]
 refine wpAny_holding (wpAny_bind ?_)
 unfold bindSpecial
 refine wpAny_bind (wpAny_typeOf (T := "function") ⟨_,i1,hfc⟩ ?_)
 rw [if_pos (by decide)]
 refine wpAny_pure (wpAny_bind (wpAny_mono hq (fun r s' z=>?_) fun _ _ x=>x))
 obtain ⟨rfl,z⟩:=z
 wp_walk
 exact z
theorem Qeq (F:ExcBaseFacts B newId initId bmB)(T:OwnTail h bmB bm){rest:List Value}{Q:Value->Shared->Prop}
  (hC:h.get? C=some (excClassObj nm q C N bs bm hdct sn sub ab col dd k0 k1 k2 k3 k5 newId)) (hrest:rest.length<=sizeLine) {mN:Str->Option Value} {fI:Addr} {oI:Obj}
  (hn:h.Ns N mN) (hi:mN "__init__" = some (.ref fI)) (hfI:h.get? fI=some oI) (hfc:oI.cls=.type "function")
  (hq:wpAny (model prog w) (A.under (.builtin "type.__call__" ⟨.ref C :: rest,[]⟩)) (call (.ref fI) (.ref (h.objs.size+1) :: rest)) (fun r s'=>r=.none/\Q (.ref (h.objs.size+1)) s') E ⟨Qc7 h C rest,g,d,t,os⟩) :
  wpAny (model prog w) A (call (.ref C) rest) Q E ⟨h,g,d,t,os⟩:=by
 have f1:=tc_lookup
 have f2:=tc_bind (.ref C)
 have hT:(⟨h,g,d,t,os⟩:Shared).TypeIs (.ref C) "type" := ⟨_,hC,rfl⟩
 refine wpAny_call (codeAny_of_tree ?_)
 show wpAny _ _ (callAny (.ref C) _) _ _ _
 repeat (any_goals (first | assumption | with_reducible refine wpAny_loadPart_at hC ?_ | wp_step))
 refine ⟨rfl,?_⟩
 refine codeAny_call_builtin_at (Code.quiet_builtin _ (by decide +kernel)) entry_typeCall (wpAny_check_type_call_sub hC (Qec F T hC hrest hn hi hfI hfc ?_))
 exact hq
theorem Qiz (F:ExcBaseFacts B newId initId bmB)(T:OwnTail h bmB bm){rest:List Value}{Q:Value->Shared->Prop}{e t0:Addr}{od:Option Addr}
  (hC:h.get? C=some (excClassObj nm q C N bs bm hdct sn sub ab col dd k0 k1 k2 k3 k5 newId)) (he:h.get? e=some { QhN C t0 with dict:=od }) (hrest:rest.length<=sizeLine)
  (hq:∀ h',(∀ b o,b≠e->h.get? b=some o->h'.get? b=some o)->h'.get? e=some { QhN C h.objs.size with dict:=od }->Q .none ⟨h',g,d,t,os⟩) :
  wpAny (model prog w) A (call (.builtin initId) (.ref e :: rest)) Q E ⟨h,g,d,t,os⟩:=by
 refine wpAny_call (codeAny_call_builtin F.init.plain F.initEntry (wpAny_check_init_subT F T hC he rfl ?_))
 wp_walk
 refine hq _ (fun b o hb e'=>?_) ?_
 ·rw [Heap.get?_update_other _ _ (Ne.symm hb)]
  exact Heap.get?_push_of_some _ e'
 ·rw [Heap.get?_update_self _ (Heap.get?_push_of_some _ he) rfl]
  rfl
end
end YE
namespace L2
open PySem PySem.Spec PyProof.Rows YE
def QgL (a C:Addr)(dx:Option Addr):HO:=.ext fun h=>∃ t0,h.get? a=some { QhN C t0 with dict:=dx }
def QfM (d:Addr)(fs:List (Str × V)):HO:=.ext fun h=>∃ mA,h.Ns1 d mA/\(∀ f,RelO (fs.lookup f) (mA f))/\PySem.Within mA (fs.map (·.1))
theorem QfZ {P:Program}{w:World}{H:Hp}{h:Heap}{a C:Addr}{dx:Option Addr}{t0:Addr}(e:h.get? a=some { QhN C t0 with dict:=dx }):ObjOk P w H h a (QgL a C dx):=
 ⟨⟨t0,e⟩,⟨_,e⟩,fun h1 h2 ⟨t,q⟩ k=>⟨t,k _ q⟩⟩
theorem Qh8 {P:Program}{w:World}{H:Hp}{h:Heap}{d:Addr}{fs:List (Str × V)}{mA:Str->Option Value}(n:h.Ns1 d mA)(r:∀ f,RelO (fs.lookup f) (mA f))(wi:PySem.Within mA (fs.map (·.1))):ObjOk P w H h d (QfM d fs):=
 ⟨⟨mA,n,r,wi⟩,(let ⟨o,_,_,e,_⟩:=n;⟨o,e⟩),fun h1 h2 ⟨m,q,r⟩ k=>⟨m,q.at k,r⟩⟩
section
variable {X:Cx}
structure Qsw (K:PySem.W.Frag)(C:Addr):Prop where
 sa:PySem.W.findIn K (.ref C) "__setattr__" = some (some (.builtin "object.__setattr__"))
 ov:(PySem.W.clsIn K C).any (fun cd=>excOver cd.mro)=true
 mo:PySem.W.mroIn K C (.type "object")=some true
 hd:PySem.W.hasDictIn K C=true
def Qqf (K:PySem.W.Frag)(ta tv:TE)(f:Str):TS:=fun D σ H=>tv σ H fun y H1=>ta σ H1 fun x H2=>∃ a C,x=.ref a/\H2 a=some (QgL a C none)/\Qsw K C/\NoAttr K C f/\
 ∀ d,H2 d=none->D.nx σ (upd (upd (upd H2 d (QfM d [])) a (QgL a C (some d))) d (QfM d [(f,y)]))
variable {o value:Expr}{f:Str}{pos pos':Pos}{ta tv:TE}
theorem QkS (ha:PE X o ta)(hv:PE X value tv)(hs:swapsWith value (some (.Attribute o f pos')) pos.line X.env=pure false):PS X (.Assign [.Attribute o f pos'] value pos) (Qqf X.K ta tv f):=by
 intro pins s σ H D I h
 refine plainObj_wpAny_Assign_Attribute (thn (hv pins s σ H _ I h) fun u s1 hz=>?_) hs
 obtain ⟨y,H1,I1,ry,q⟩:=hz
 refine thn (ha pins s1 σ H1 _ I1 q) fun ov s2 hz=>?_
 obtain ⟨x,H2,I2,rx,a,C,ex,ea,ec,n,q2⟩:=hz
 subst ex
 obtain rfl:ov=Value.ref a:=rx
 obtain ⟨⟨t0,o1⟩,_⟩:=I2.hok a _ ea
 have J:s2.heap.Inst a C (fun _=>none):=⟨_,o1,rfl,(fun c z=>nomatch z),.inl ⟨rfl,fun _=>rfl⟩⟩
 have has:a≠s2.heap.objs.size:=Nat.ne_of_lt (Heap.lt_size o1)
 refine QnE (ns:=[]) ec.sa ec.ov ec.mo n.taker ec.hd I2.kIn J (fun y hy=>absurd rfl hy) (Nat.zero_le _) fun h' tk' J' keep same=>?_
 obtain ⟨o',p1,p2,p3,p4,_,p5⟩:=same _ o1
 have p6:h'.get? a=some { QhN C t0 with dict:=some s2.heap.objs.size }:=by
  obtain ⟨c',d',da',sl'⟩:=o'
  have e1:=p5 rfl
  dsimp only at p2 p3 p4 e1
  subst p2 p3 p4 e1
  exact p1
 have n':h'.Ns1 s2.heap.objs.size (fun z=>if z=f then some u else none):=by
  obtain ⟨o2,z1,z2,z3,z4⟩:=J'
  rw [p6] at z1;cases z1
  rcases z4 with ⟨z,_⟩ | ⟨d,z,_,zn⟩
  ·cases z
  ·cases z;exact zn
 have fr:H2 s2.heap.objs.size=none:=I2.hok.fresh (Nat.le_refl _)
 have g1:(s2.heap.push PySem.W.emptyDict).get? s2.heap.objs.size=some PySem.W.emptyDict:=Heap.get?_push_size s2.heap rfl
 have g2:(s2.heap.push PySem.W.emptyDict).Ns s2.heap.objs.size (fun _=>none):=⟨PySem.W.emptyDict,#[],_,g1,rfl,(fun e he=>absurd he (by simp)),fun _=>rfl⟩
 have I3:=I2.laid (a:=s2.heap.objs.size) (o:=QfM s2.heap.objs.size []) (h':=s2.heap.push PySem.W.emptyDict) (t':=tk') (fun b u q=>Heap.get?_push_of_some _ q) (Nat.le_refl _)
  (Qh8 (Heap.Ns1.of_empty g2) (fun _=>True.intro) fun y hy=>absurd rfl hy)
 have o2:(s2.heap.push PySem.W.emptyDict).get? a=some { QhN C t0 with dict:=none }:=Heap.get?_push_of_some _ o1
 have o3:((s2.heap.push PySem.W.emptyDict).update a fun o=>{ o with dict:=some s2.heap.objs.size }).get? a=some { QhN C t0 with dict:=some s2.heap.objs.size }:=Heap.get?_update_self _ o2 rfl
 have I4:=I3.write (x:=a) (e:=a) (o:=QgL a C (some s2.heap.objs.size)) (h':=(s2.heap.push PySem.W.emptyDict).update a fun o=>{ o with dict:=some s2.heap.objs.size }) (t':=tk') (by rw [Qad has,ea];exact True.intro) (.inl rfl)
  (fun b u hb q=>(Heap.get?_update_ne _ _ _ _ hb).trans q) ⟨_,o3⟩ (QfZ o3)
 have I5:=I4.write (x:=s2.heap.objs.size) (e:=s2.heap.objs.size) (o:=QfM s2.heap.objs.size [(f,y)]) (h':=h') (t':=tk') (by rw [Qad has.symm,Qah];exact True.intro) (.inl rfl)
  (fun b v hb q=>by
   by_cases hba:b=a
   ·subst hba
    have q':=o3.symm.trans q
    cases q'
    exact p6
   ·have q1:(s2.heap.push PySem.W.emptyDict).get? b=some v:=(Heap.get?_update_ne _ _ _ _ hba).symm.trans q
    refine keep b v hba (fun _ _ z1 z2=>?_) ?_
    ·rw [o1] at z1;cases z1;cases z2
    ·rw [← q1];exact (Heap.get?_push_ne _ _ _ hb).symm) (let ⟨o,_,_,e,_⟩:=n';⟨o,e⟩) (Qh8 n' (fun z=>?_) fun z hz=>?_)
 ·exact ⟨σ,_,I5,q2 _ fr⟩
 ·show RelO (List.lookup z [(f,y)]) (if z=f then some u else none)
  by_cases q:z=f
  ·subst q;rw [if_pos rfl,List.lookup_cons,beq_self_eq_true];exact ry
  ·rw [if_neg q,List.lookup_cons,beq_eq_false_iff_ne.mpr q];exact True.intro
 ·by_cases q:z=f
  ·subst q;exact List.mem_cons_self
  ·exact absurd (show (if z=f then some u else none)=none by rw [if_neg q]) hz
end
def Qhp (K:PySem.W.Frag)(C f:Addr):Bool:=match K.lookup C with
 |some ⟨.type "type",_,.cls cd,sl⟩=>(match cd.mro,sl.toList with
  |.ref C' :: bm,[_,_,_,_,some (.builtin n),_]=>C' == C && n == "ValueError.__new__" && !cd.hasDel && PySem.W.tailIn K bmV bm && PySem.W.nsOkIn K cd.ns && (PySem.W.nsIn K cd.ns "__init__" == some (some (.ref f)))
  |_,_=>false)
 |_=>false
theorem Qhm {K:PySem.W.Frag}{h:Heap}{N:Addr}{m:Str->Option Value}{n:Str}{v:Value}(X:K.In h)(G:h.Ns N m)(e:PySem.W.nsIn K N n=some (some v)):m n=some v:=by
 obtain ⟨o,es,ep,ho,hd,_,hf⟩:=G
 unfold PySem.W.nsIn at e
 split at e
 ·rename_i q
  have z:=(X _ _ q).symm.trans ho
  cases z
  cases hd
  split at e
  ·rename_i en he
   cases e
   rw [← hf]
   unfold nsFind findBy
   rw [← Array.find?_toList,he]
   rfl
  ·split at e<;>cases e
 ·cases e
theorem QiR {K:PySem.W.Frag}{h:Heap}{C f:Addr}(X:K.In h)(q:Qhp K C f=true) :
  ∃ bm N nm qn bs hdc sn sub ab col dd k0 k1 k2 k3 k5 mN,h.get? C=some (excClassObj nm qn C N bs bm hdc sn sub ab col dd k0 k1 k2 k3 k5 "ValueError.__new__")/\h.Ns N mN/\mN "__init__" = some (.ref f)/\OwnTail h bmV bm:=by
 unfold Qhp at q
 split at q
 ·next dd cd sl ho=>
  split at q
  ·next C' bm k0 k1 k2 k3 n k5 hm hs=>
   simp only [Bool.and_eq_true] at q
   obtain ⟨⟨⟨⟨⟨q1,q2⟩,q3⟩,q4⟩,q5⟩,q6⟩:=q
   have r1:=beq_iff_eq.mp q1
   have r2:=beq_iff_eq.mp q2
   have r6:=beq_iff_eq.mp q6
   subst r1 r2
   obtain ⟨nm,bs,mro,ns,qn,hdc,sn,sub,ab,col,del⟩:=cd
   have r3:del=false:=by simpa using q3
   have r7:mro=.ref C' :: bm:=hm
   subst r3 r7
   obtain ⟨ls⟩:=sl
   have r8:ls=[k0,k1,k2,k3,some (.builtin "ValueError.__new__"),k5]:=hs
   subst r8
   have ns1:h.Ns ns (h.nsMap ns):=.of_isNs (PySem.W.isNs_of_in X q5)
   exact ⟨bm,ns,nm,qn,bs,hdc,sn,sub,ab,col,dd,k0,k1,k2,k3,k5,_,X _ _ ho,ns1,Qhm X ns1 r6,PySem.W.tail_of_in X q4⟩
  ·cases q
 ·cases q
section
variable {X:Cx}{CX:CXT}{k:Nat}{f C:Addr}{fd:FuncData}{ps:List Str}{sp:Sp}{E:XK}{x:Str}{p pos:Pos}{e:Expr}{es:List Expr}{t:TA}
def QqG (s0:Shared)(C:Addr)(sp:Sp)(E:XK)(t:TA):TE:=fun σ H Q=>t σ H fun vs H1=>vs.length<=sizeLine/\∀ a,H1 a=none->s0.heap.get? a=none->sp (.ref a :: vs) (upd H1 a (QgL a C none)) (fun v H2=>v=.non/\Q (.ref a) H2) E
structure Qez (P:Program)(w:World)(K:PySem.W.Frag)(mg:Str->Option Value)(base:Heap)(CX:CXT)(C:Addr)(k:Nat)(x:Str)(ps:List Str)(sp:Sp):Prop where
 ex:∃ f fd,FnOk P w K mg base CX k f fd ps sp/\Qhp K C f=true/\PySem.W.isFn K (.ref f)=true/\PySem.W.keepIn K (.ref C)=true/\mg x=some (.ref C)/\Binds K fd ps []
theorem QmC (hex:X.ex=[])(D:Qez X.prog X.w X.K X.mg X.base CX C k x ps sp)(hx:QjF CX X E)(hr:Room (k+1) X.A)(ha:PA X (e :: es) t)(hg:Gl X x:=by rfl)
  (hdb:(x == ("__debug__" : Str))=false:=by decide) (he:starEach (e :: es) X.env=(false,eval e X.env) :: starEach es X.env:=by rfl) (hpl:(backTo pos (starEach es X.env)).any (·.1)=false:=by rfl) :
  PE X (.Call (.Name x p) (e :: es) [] pos) (QqG X.s₀ C sp E t):=by
 obtain ⟨f,fd,F,hi,hf,kp,hm,hb⟩:=D.ex
 intro pins s σ H Q I h
 refine wpAny_Call_Name_kw (Qca I hg hm ?_ hdb)
 refine PySem.W.callWith_K (h₀:=X.base) I.ok.mod.kin kp (thn (ha pos pins s σ H _ I h) fun us s1 hz=>?_) he hpl
 obtain ⟨vs,H1,I1,r,hz,q⟩:=hz
 refine ⟨I1.kIn,?_⟩
 obtain ⟨bm,N',nm,qn,bs,hdc,sn,sub,ab,col,dd,k0,k1,k2,k3,k5,mN,hC,hN,hni,TL⟩:=QiR I1.kIn hi
 have fr:H1 (s1.heap.objs.size+1)=none:=I1.hok.fresh (Nat.le_succ _)
 have hq:=q _ fr (I1.old hex (Heap.get?_none_of_le (Nat.le_succ _)))
 have I2:Inv X pins σ (upd H1 (s1.heap.objs.size+1) (QgL (s1.heap.objs.size+1) C none)) { s1 with heap:=Qc7 s1.heap C us }:=I1.laid (a:=s1.heap.objs.size+1) (o:=QgL (s1.heap.objs.size+1) C none) (h':=Qc7 s1.heap C us) (t':=s1.toks) (fun b o e=>QbC e) (Nat.le_succ _) (QfZ (t0:=s1.heap.objs.size) QgJ)
 have r2:Vals (V.ref (s1.heap.objs.size+1) :: vs) (Value.ref (s1.heap.objs.size+1) :: us):=.cons rfl r
 have hl:(Value.ref (s1.heap.objs.size+1) :: us++[]).length=ps.length:=by
  rw [List.append_nil,← r2.length];exact F.len _ _ _ _ hq
 have hfn:∃ oI,s1.heap.get? f=some oI/\oI.cls=.type "function" := by
  have z:PySem.W.typeIn X.K (.ref f)=some (.type "function"):=beq_iff_eq.mp hf
  unfold PySem.W.typeIn at z
  obtain ⟨o,e1,e2⟩:=Option.map_eq_some_iff.mp z
  exact ⟨o,I1.kIn _ _ e1,e2⟩
 obtain ⟨oI,hfI,hfc⟩:=hfn
 refine Qeq (rest:=us) PySem.F.excBase_ValueError TL hC (by rw [← r.length];exact hz) hN hni hfI hfc ?_
 refine wpAny_call (codeAny_mono (F.run _ X.stack { s1 with heap:=Qc7 s1.heap C us } _ ⟨Value.ref (s1.heap.objs.size+1) :: us,[]⟩ (Value.ref (s1.heap.objs.size+1) :: us) _ _ E (hr.make C us []) (I2.env0.make C us []) (by have:=hb _ (Value.ref (s1.heap.objs.size+1) :: us) I2.kIn hl;rwa [List.append_nil] at this) r2 hq) fun r s' hq'=>?_)
 cases r with
 |error e=>exact hx pins σ _ _ e s' I2 hq'
 |ok fl=>
  cases fl with
  |ret u=>
   obtain ⟨v,H',I3,rv,ev,q3⟩:=I2.after hq'
   subst ev
   exact ⟨rv,V.ref (s1.heap.objs.size+1),H',I3,rfl,q3⟩
  |next=>exact False.elim hq'
  |brk=>exact False.elim hq'
  |cont=>exact False.elim hq'
theorem Qk8 {H:Hp}{a:Addr}{o:HO}(e:H a=some o):upd H a o=H:=by
 funext b
 unfold upd
 split
 ·rename_i q;rw [q,e]
 ·rfl
structure Qp8 (K:PySem.W.Frag)(G:Addr):Prop where
 ga:PySem.W.specialIn K (.ref G) "__getattribute__" = some (some (.builtin "type.__getattribute__"))
 rd:PySem.W.readsIn K G (.type "type")=true
 fi:PySem.W.findCls K (.ref G) (.type "type") "__init__" = some (.val (.builtin "ValueError.__init__"))
def Qo1 (K:PySem.W.Frag)(t:TA):TE:=fun σ H Q=>t σ H fun vs H1=>∃ a C dx rest f,vs=.ref a :: rest/\H1 a=some (QgL a C dx)/\Qhp K C f=true/\rest.length<=sizeLine/\Q .non H1
theorem QkR {G:Addr}{apos:Pos}{pl:Sem Bool}(b:Qp8 X.K G)(hm:X.mg x=some (.ref G))(ha:PA X (e :: es) t)(hg:Gl X x:=by rfl)(hdb:(x == ("__debug__" : Str))=false:=by decide)
  (hst:starEach (e :: es) X.env=(false,eval e X.env) :: starEach es X.env:=by rfl) (hpl:(backTo pos (starEach es X.env)).any (·.1)=false:=by rfl)
  (ht:eval (.Call (.Attribute (.Name x p) "__init__" apos) (e :: es) [] pos) X.env=(do
   let ov ← eval (.Name x p) X.env
   standAt apos.atName
   let (f,first) ← holding [ov] (getMethod ov "__init__" pl)
   callWith pos f first (backTo pos (starEach (e :: es) X.env)) (backToKw pos (keywordEach [] X.env))):=by rfl) :
  PE X (.Call (.Attribute (.Name x p) "__init__" apos) (e :: es) [] pos) (Qo1 X.K t):=by
 intro pins s σ H Q I h
 refine PySem.W.methodCall_KW (pl:=pl) (Qca I hg hm ?_ hdb) ht
 refine PySem.W.method_cls I.kIn b.ga (PySem.W.cls_value I.kIn b.rd b.fi rfl ?_)
 have hA:=ha pos pins _ σ H _ (I.tok (s.toks+1)) h
 dsimp only
 rw [hst] at hA ⊢
 refine Calls.callWith_builtin (by show (false || (backTo pos (starEach es X.env)).any (·.1))=false;rw [hpl]<;>rfl) (Calls.evalArgs_plain ?_)
 refine thn hA fun us s2 hz=>?_
 obtain ⟨vs,H2,I2,r2,a,C,dx,rest,f,ev,ea,hi,hz,q⟩:=hz
 subst ev
 cases r2 with
 |cons ru r3=>
  cases ru
  obtain ⟨⟨t0,o1⟩,_⟩:=I2.hok a _ ea
  obtain ⟨bm,N',nm,qn,bs,hdc,sn,sub,ab,col,dd,k0,k1,k2,k3,k5,mN,hC,hN,hni,TL⟩:=QiR I2.kIn hi
  refine Qiz PySem.F.excBase_ValueError TL hC o1 (by rw [← Vals.length r3];exact hz) fun h' k1 k2=>?_
  have I3:=I2.write (x:=a) (e:=a) (o:=QgL a C dx) (h':=h') (t':=s2.toks) (by rw [ea];exact True.intro) (.inl rfl) (fun b u hb q=>k1 b u hb q) ⟨_,k2⟩ (QfZ k2)
  rw [Qk8 ea] at I3
  exact ⟨.non,H2,I3,rfl,q⟩
end
end L2
namespace L2
open PySem PySem.Spec PySem.Calls PyProof.Rows PySem.W Builtin Builtin.ObjectAttr Builtin.Getset_descriptor
def Qba (K:Frag)(D:Addr):Bool:=
 decide (findIn K (.ref D) "__getattribute__" = some (some (.builtin "BaseException.__getattribute__"))) && decide (findIn K (.ref D) "__getattr__" = some none) && (clsIn K D).isSome && decide (findIn K (.ref D) "__class__" = some (some (.builtin "object.__class__"))) && decide (specialIn K (.builtin "object.__class__") "__get__" = some (some (.builtin "getset_descriptor.__get__")))
  && decide (takesIn K (.builtin "object.__class__")=some true) && decide (mroIn K D (.type "object")=some true) && decide (mroIn K D (.type "BaseException")=some true)
section
variable {K:Frag}{x D:Addr}{s:Shared}{A:Around}{E:Value->Shared->Prop}{prog:Program}{w:World}
theorem Qht {M:Model}{h:Heap}{name:Str}{g a t:Value}(X:K.In h)(ha:findIn K (.ref D) name=some (some a))(hg:specialIn K a "__get__" = some (some g))(ht:takesIn K a=some true) :
  Looks M h (Builtin.ObjectAttr.find t (.ref D) name) (.bind g a):=by
 refine (looks_findIn X ha).andThen ((looks_specialIn X hg).andThen ?_)
 refine Looks.andThen (a:=some (g,a)) ?_ (Looks.tag .now)
 exact (looks_takesIn X ht).andThen .now
theorem QkD {tp:Value}{R:Result->Shared->Prop}(X:K.In s.heap)(L0:Looks (model prog w) s.heap (typeOf (.ref x)) (.ref D))(hm:mroIn K D (.type "object")=some true)
  (h:R (.ok (.ret (.ref D))) s):codeAny (model prog w) A (.call (.builtin "getset_descriptor.__get__") ⟨[.builtin "object.__class__",.ref x,tp],[]⟩) R s:=by
 obtain ⟨hh,g,dr,t,os⟩:=s
 have L1:=looks_mroIn (M:=model prog w) X hm
 refine codeAny_call_builtin KF.slot_gs.plain KF.entry_gs (KF.slot_gs.check _ _ _ _ _ _ _ _ KF.type_class (KF.args_gs _ _ _) ?_)
 unfold Builtin.«getset_descriptor.__get__» descrGet
 rw [dga_obj]
 refine wpAny_bind (wpAny_pure ?_)
 unfold Builtin.Getset_descriptor.descrGetter Builtin.Getset_descriptor.descrCheckInstance Builtin.Getset_descriptor.descrNameAndClass isInstance
 simp only [KF.owner_class]
 repeat lk
 refine ⟨Code.quiet_builtin _ (by decide +kernel),codeAny_builtin KF.entry_class ?_⟩
 unfold Builtin.«object.__class__» shownTypeOf
 repeat lk
 exact h
theorem Qlc {M:Model}{nv:Value}{Q:Unit->Shared->Prop}(X:K.In s.heap)(L0:Looks M s.heap (typeOf (.ref x)) (.ref D))(hm:mroIn K D (.type "BaseException")=some true)(hq:Q () s):wpAny M A (checkBuiltinCall "BaseException.__getattribute__" ⟨[.ref x,nv],[]⟩) Q E s:=by
 have hk:builtinKind "BaseException.__getattribute__" = some .slot:=by decide +kernel
 have hsplit:splitId "BaseException.__getattribute__" = some ("BaseException","__getattribute__"):=by decide +kernel
 have ha:=F.args_bexc_ga (.ref x) nv
 have L4:=looks_mroIn (M:=M) X hm
 simp only [checkBuiltinCall,hk,hsplit]
 refine wpAny_bind ?_
 unfold isInstance
 repeat (any_goals (first | assumption | lk | wp_step))
theorem Qh5 {Q:Option Value->Shared->Prop}{o:Obj}(p:Qba K D=true)(X:K.In s.heap)(ho:s.heap.get? x=some o)(hc:o.cls=.ref D)(h:Q (some (.ref D)) { s with toks:=s.toks+1 }) :
  wpAny (model prog w) A (getAttr? (.ref x) "__class__") Q E s:=by
 unfold Qba at p
 simp only [Bool.and_eq_true,decide_eq_true_eq] at p
 obtain ⟨⟨⟨⟨⟨⟨⟨p0,p1⟩,p2⟩,p3⟩,p4⟩,p5⟩,p6⟩,p7⟩:=p
 obtain ⟨hh,g,d,t,os⟩:=s
 have L0:Looks (model prog w) hh (typeOf (.ref x)) (.ref D):=hc▸(Looks.ld ho).andThen .now
 have L1:=looks_findIn (M:=model prog w) X p0
 have L2:=Qht (M:=model prog w) (t:=.ref x) X p3 p4 p5
 have L3:=looks_findIn (M:=model prog w) X p1
 have f3:=F.attr_ValueError.ga.bind (.ref x)
 have hx2:(Value.builtin "BaseException.__getattribute__" == Value.builtin "object.__getattribute__")=false:=by decide +kernel
 have hx1:¬ ((onTheHeap (Value.ref D) && Value.builtin "BaseException.__getattribute__" == Value.builtin "object.__getattribute__")=true):=by rw [hx2,Bool.and_false];decide
 unfold getAttr? getAttrBy? getAttrBy
 refine wpAny_bind (wpAny_mkText (wpAny_bind (wpAny_attempt (wpAny_holding (wpAny_bind (L0.at (wpAny_bind (L1.at ?_))))))))
 dsimp only
 rw [if_neg hx1]
 unfold getAttrByItsOwn
 refine wpAny_bind ?_
 show wpAny _ _ (typeLookup (.ref D) "__getattr__") _ _ _
 refine L3.at ?_
 refine wpAny_bind (wpAny_attempt (wpAny_holding ?_))
 show wpAny _ _ (boundAndCalled _ _ _) _ _ _
 unfold boundAndCalled
 refine wpAny_bind (wpAny_of_eq f3 ?_)
 refine wpAny_call (codeAny_call_builtin F.attr_ValueError.ga.plain F.entry_bexc_ga (Qlc (D:=D) X L0 p7 ?_))
 unfold Builtin.«object.__getattribute__»
 refine wpAny_bind (wpAny_pure (wpAny_bind (wpAny_pure (wpAny_bind (L0.at (wpAny_bind (L2.at ?_)))))))
 show wpAny _ _ (ObjectAttr.bindTo _ _ _ _) _ _ _
 show wpAny _ _ (holding [_] (call _ [_,.ref x,.ref D]) >>= ret) _ _ _
 refine wpAny_bind (wpAny_holding (wpAny_call (QkD (s:=⟨hh,g,d,t+1,os⟩) X L0 p6 ?_)))
 refine wpAny_pure ?_
 exact handed_on rfl (wpAny_pure h)
theorem QkY (p:Qba K D=true):KitX K (.ref x) (.ref D) (fun h=>∃ o,h.get? x=some o/\o.cls=.ref D):=by
 have pc:∃ cd,clsIn K D=some cd:=by
  unfold Qba at p
  simp only [Bool.and_eq_true] at p
  exact Option.isSome_iff_exists.mp p.1.1.1.1.1.2
 obtain ⟨cd,hcd⟩:=pc
 unfold clsIn at hcd
 split at hcd
 ·rename_i c' d' cd' sl' ho
  refine ⟨fun _ _ _ ⟨o,h1,h2⟩=>h2▸(Looks.ld h1).andThen .now,fun M h X _=>?_,fun h tp dd its n sl X htp=>?_,fun X ⟨o,h1,h2⟩ k=>Qh5 p X h1 h2 k⟩
  ·intro A' Q' E' s' k q
   unfold isType loadHead
   exact wpAny_bind (wpAny_loadPart (k _ _ (X _ _ ho)) (wpAny_pure q))
  ·refine Bool.eq_false_iff.mpr fun q=>?_
   have e:D=tp:=Value.ref.inj (beq_iff_eq.mp q)
   subst e
   have z:=(X _ _ ho).symm.trans htp
   cases z
 ·cases hcd
end
section
variable {X:Cx}
def Qs1:V->Option Value
 |.ref C=>some (.ref C)
 |.ty n=>some (.type n)
 |_=>none
def QpG (K:PySem.W.Frag):List V->Hp->VK->Prop:=fun xs H Q=>∃ a t cv c b,xs=[.ref a,cv]/\Qs1 cv=some c/\(∃ dx,H a=some (QdP a (.ref t) dx))/\PySem.W.kitOne K (.ref t) c=some b/\(b=false->Qba K t=true)/\Q (.bl b) H
theorem Qim:Qbo X (.builtin "isinstance") (QpG X.K):=by
 intro pins s σ H xs us Q I r h
 obtain ⟨a,t,cv,c,b,rfl,hcv,⟨dx,ha⟩,e,hb,q⟩:=h
 obtain ⟨u,v,rfl,ru,rv⟩:=QpV r
 cases ru
 have ev:v=c:=by
  unfold Qs1 at hcv
  split at hcv<;>cases hcv<;>exact rv
 subst ev
 obtain ⟨⟨o,ho,hc,_⟩,_⟩:=I.hok a _ ha
 cases b with
 |true=>
  exact call_isinstance (S:=fun _ R s=>(X.K.In s.heap/\∃ o,s.heap.get? a=some o/\o.cls=.ref t)/\∀ tk,R (.ok (.ret (.bool true))) { s with toks:=tk })
   (fun prog w A R s hs=>isinstance_outer (QlV e 0 _ prog w A R s hs) (fun z=>nomatch z)) ⟨⟨I.kIn,o,ho,hc⟩,fun tk=>⟨.bl true,H,I.tok _,rfl,q⟩⟩
 |false=>
  exact call_isinstance (S:=fun _ R s=>(X.K.In s.heap/\∃ o,s.heap.get? a=some o/\o.cls=.ref t)/\∀ tk,R (.ok (.ret (.bool false))) { s with toks:=tk })
   (fun prog w A R s hs=>isinstance_outer (kit_ans (QkY (hb rfl)) e 0 _ prog w A R s hs) (fun z=>nomatch z)) ⟨⟨I.kIn,o,ho,hc⟩,fun tk=>⟨.bl false,H,I.tok _,rfl,q⟩⟩
end
end L2
namespace L2
open PySem PySem.Spec PyProof.Rows YE
section
variable {X:Cx}{pins:List (Addr × Obj)}{σ:St}{H H':Hp}{s:Shared}
theorem Inv.untrack {a:Addr}{φ:Heap->Prop}(I:Inv X pins σ H s)(ha:H a=some (.ext φ))(h0:H' a=none)(h1:∀ b,b≠a->H' b=H b):Inv X pins σ H' s:=by
 have up:∀ {b:Addr} {o:HO},H b=some o->(∀ ψ,o≠.ext ψ)->H' b=some o:=fun {b o} e n=>by
  rw [h1 b (fun z=>by subst z;rw [ha] at e;cases e;exact n _ rfl)];exact e
 have dn:∀ {b:Addr},H b=none->H' b=none:=fun {b} e=>by
  rw [h1 b (fun z=>by subst z;rw [ha] at e;cases e)];exact e
 refine ⟨I.ok,I.os,I.bare,⟨I.base.keep,I.base.slot,fun b z e n hx=>dn (I.base.free b z e n hx),I.base.there,fun b xs e=>up (I.base.tups b xs e) (fun _ z=>nomatch z),fun b z u e=>up (I.base.frzs b z u e) (fun _ z=>nomatch z),fun b ps e=>?_⟩,I.loc,I.cell,dn I.free,fun y c e=>dn (I.freeC y c e),fun p hp=>?_,fun b o e=>?_,I.len⟩
 ·obtain ⟨more,q⟩:=I.base.tbls b ps e
  exact ⟨more,up q (fun _ z=>nomatch z)⟩
 ·obtain ⟨e,n,r⟩:=I.pin p hp
  exact ⟨e,dn n,r⟩
 ·have nb:b≠a:=fun z=>by subst z;rw [h0] at e;cases e
  rw [h1 b nb] at e
  exact (I.hok b o e).stay (fun _ _ _ q=>q) (fun c q=>up q (fun _ z=>nomatch z)) fun c xs q=>up q (fun _ z=>nomatch z)
theorem QiU {e:Addr}{oe:Obj}{vs:Array Value}{a0:Value}{dx:Option Addr}{E:XK}{E1:Value->Shared->Prop}(d:IsDef X)(I:Inv X pins σ H s)(he:s.heap.get? e=some oe)(hd:oe.data=.fields vs)(h1:vs[1]? = some .none)(h0:vs[0]? = some a0)
  (e1:X.s₀.heap.get? e=none) (e2:H e=none) (hx:∀ d,dx=some d->oe.dict=some d) (k:E oe.cls dx H) :
  wpAny (model X.prog X.w) X.A (leaving X.env (.ref e)) (fun _ s2=>CXe X.prog X.w X.outer X.H₀ X.s₀ E (.ref e) s2) E1 s:=by
 have fr:X.A.frames=some (X.env :: X.outer):=by rw [I.ok.frames,d.stk]
 have hl:s.heap.FunFrames (QhK X [e] s.heap) (X.env :: X.outer):=by rw [← d.stk];exact Qb7 I
 have x1:∀ b∈[e],X.s₀.heap.get? b=none:=fun b hb=>by rw [List.mem_singleton.mp hb];exact e1
 have x2:∀ b∈[e],H b=none:=fun b hb=>by rw [List.mem_singleton.mp hb];exact e2
 refine Qfc (Qd9 _ _) (wpAny_leaving_firstW fr hl d.fr he QcL (Qbm (by simp)) hd h1 h0 fun h' fl kk=>?_)
 obtain ⟨k1,⟨_,_,k2⟩,k3,k4⟩:=fl
 have f:Qkc X [e] s.heap h':=Qgd I k1 k4
 have fly:Heap.FlyingW (QhK X [e] s.heap) X.outer e oe.cls a0 h':=⟨k1,Qbm (by simp),k2,k3⟩
 exact Qlx (s:=s) d I x1 x2 f (QqT (B:=s.heap) I d.ex x1 x2 f fly e1 e2 fun d0 z=>by
  obtain ⟨o2,p1,_⟩:=fly.there
  exact ⟨o2,p1,(kk.get he p1).trans (hx d0 z)⟩) k
theorem QiC {M:Model}{A:Around}{E:Value->Shared->Prop}{env:Env}{nm q:Str}{C N:Addr}{bs bm:List Value}{hdct:Bool}{sn:List Str}{sub:List Value}{ab:Bool}{col:Option Bool}{dd:Option Addr}{k0 k1 k2 k3 k5:Option Value}{newId:String}
  {x:Sem Value} {Q:Flow->Shared->Prop} {s:Shared} (hb:bm.contains (.type "BaseException")=true) (hh:A.handled=none)
  (h:wpAny M A x (fun v s1=>∃ e t0 dx,v=.ref e/\s1.heap.get? C=some (excClassObj nm q C N bs bm hdct sn sub ab col dd k0 k1 k2 k3 k5 newId)/\s1.heap.get? e=some { QhN C t0 with dict:=dx }/\E (.ref e) s1) E s) :
  wpAny M A (raiseStmt env (some x) none) Q E s:=by
 have hc:(Value.ref C :: bm).contains (.type "BaseException")=true:=by rw [List.contains_cons,hb,Bool.or_true]
 unfold raiseStmt
 refine wpAny_bind (wpAny_mono h (fun v s1 hv=>?_) fun _ _ z=>z)
 obtain ⟨e,t0,dx,rfl,hC,he,hE⟩:=hv
 obtain ⟨hp,g,d,tk,os⟩:=s1
 repeat (first | with_reducible refine wpAny_loadPart_at he ?_ | with_reducible refine wpAny_loadPart_at hC ?_ | (with_reducible refine wpAny_isSubtype_exc hC ?_;rw [hc]) | wp_step)
 exact wpAny_raiseNew_none hh hE
end
def Qfn (K:PySem.W.Frag)(C:Addr):Sp:=fun vs H Q _=>∃ e x f,vs=[.ref e,x]/\H e=some (QgL e C none)/\Qhp K C f=true/\∀ d,H d=none->Q .non (upd (upd H e (QgL e C (some d))) d (QfM d [("line",x)]))
section
variable {P:Program}{w:World}{K:PySem.W.Frag}{mg:Str->Option Value}{base:Heap}{N:List Str}{qual:Str}{scope:Scope}{f:Addr}{cd:Value}{A:Around}{outer:List Env}{s:Shared}{H:Hp}{E:XK}
def Rz (s0:Shared)(C:Addr)(E:XK):VK:=fun v H2=>∃ a d n H0,v=.ref a/\s0.heap.get? a=none/\H0 a=none/\H0 d=none/\d≠a/\H2=upd (upd H0 a (QgL a C (some d))) d (QfM d [("line",.int n)])/\E (.ref C) (some d) (upd H0 d (QfM d [("line",.int n)]))
def Qme (s0:Shared)(K:PySem.W.Frag)(C:Addr)(E:XK)(ta:TA):TS:=fun _ σ H=>QqG s0 C (Qfn K C) E0 ta σ H (Rz s0 C E)
theorem QjG {k:Nat}{x:Str}{np cpos pos:Pos}{e:Expr}{ta:TA}{C:Addr}(hr:A.handled=none)(D:Qez P w K mg base CX0 C k x ["self","line"] (Qfn K C))(hm:Room (k+1) (Qb3 (CXe P w) P w K mg base N qual scope f cd A outer s H E).A)
  (hg:Gl (Qb3 (CXe P w) P w K mg base N qual scope f cd A outer s H E) x) (ha:PA (Qb3 (CXe P w) P w K mg base N qual scope f cd A outer s H E) [e] ta)
  (hdb:(x == ("__debug__" : Str))=false:=by decide) (hs:starEach [e] (Qb3 (CXe P w) P w K mg base N qual scope f cd A outer s H E).env=(false,eval e (Qb3 (CXe P w) P w K mg base N qual scope f cd A outer s H E).env) :: starEach [] (Qb3 (CXe P w) P w K mg base N qual scope f cd A outer s H E).env:=by rfl)
  (hpl:(backTo cpos (starEach [] (Qb3 (CXe P w) P w K mg base N qual scope f cd A outer s H E).env)).any (·.1)=false:=by rfl) :
  PS (Qb3 (CXe P w) P w K mg base N qual scope f cd A outer s H E) (.Raise (some (.Call (.Name x np) [e] [] cpos)) none pos) (Qme s K C E ta):=by
 intro pins s1 σ H1 DD I h
 obtain ⟨fi,fd,_,hi,_⟩:=D.ex
 obtain ⟨bm,N',nm,qn,bs,hdc,sn,sub,ab,col,dd,k0,k1,k2,k3,k5,mN,hC,hN,hni,TL⟩:=QiR I.mod.kin hi
 have hb:bm.contains (.type "BaseException")=true:=TL.hasType (by decide +kernel)
 have hE:=QmC (p:=np) (pos:=cpos) rfl D (Qsa (X:=Qb3 (CXe P w) P w K mg base N qual scope f cd A outer s H E)) hm ha hg hdb hs hpl pins s1 σ H1 (Rz s C E) I h
 rw [arm_exec_Raise]
 refine wpAny_bind (wpAny_standAt ?_)
 refine QiC (C:=C) (newId := "ValueError.__new__") (nm:=nm) (q:=qn) (N:=N') (bs:=bs) (hdct:=hdc) (sn:=sn) (sub:=sub) (ab:=ab) (col:=col) (dd:=dd) (k0:=k0) (k1:=k1) (k2:=k2) (k3:=k3) (k5:=k5) hb hr (x:=do let v ← eval (.Call (.Name x np) [e] [] cpos) _;standAt pos;pure v) ?_
 refine wpAny_bind (thn hE fun u s2 hz=>?_)
 obtain ⟨v,H2,I2,rv,a,d,n,H0,ev,new,h1,h2,ne,eH,k⟩:=hz
 refine wpAny_bind (wpAny_standAt (wpAny_pure ?_))
 subst ev eH
 obtain rfl:u=Value.ref a:=rv
 have ha:upd (upd H0 a (QgL a C (some d))) d (QfM d [("line",.int n)]) a=some (QgL a C (some d)):=by rw [Qad ne.symm,Qah]
 obtain ⟨⟨t0,o1⟩,_⟩:=I2.hok a _ ha
 have I3:Inv _ pins σ (upd H0 d (QfM d [("line",.int n)])) s2:=I2.untrack ha (by rw [Qad ne.symm];exact h1) fun b nb=>by
  by_cases z:b=d
  ·subst z;rw [Qah,Qah]
  ·rw [Qad z,Qad z,Qad nb]
 refine ⟨a,t0,some d,rfl,I2.bk _ _ hC,o1,?_⟩
 exact QiU Qet I3 o1 rfl rfl rfl new (by rw [Qad ne.symm];exact h1) (fun _ z=>z) k
end
end L2
namespace L2.Srt
open PySem PyProof.Rows
abbrev H (a:Array Keyed)(i:Nat):Keyed:=a.getD i (Value.none,Value.none)
theorem QsJ {a:Array Keyed}{i:Nat}(h:i<a.size):a[i]? = some (H a i):=by
 rw [H,Array.getD_eq_getD_getElem?,Array.getElem?_eq_getElem h];rfl
section
variable {st:SortSt}{κ:SortKind}{U:Keyed->Prop}{a:Array Keyed}{pre S:List Keyed}{i:Nat}
structure Rst (κ:SortKind)(U:Keyed->Prop)(pre S:List Keyed)(st:SortSt):Prop where
 k:kindOf st=κ
 f:failedOf st=none
 e:(arrOf st).toList=pre++S
 u:∀ x∈S,U x
 nd:S.Nodup
theorem Rst.ne (r:Rst κ U pre S st){j:Nat}(hi:i<S.length)(hj:j<S.length)(h:i≠j):Srt.H S.toArray i≠Srt.H S.toArray j:=fun z=>by
 have e1:=QsJ (a:=S.toArray) (show i<S.toArray.size by simpa using hi)
 have e2:=QsJ (a:=S.toArray) (show j<S.toArray.size by simpa using hj)
 rw [List.getElem?_toArray,List.getElem?_eq_getElem hi] at e1
 rw [List.getElem?_toArray,List.getElem?_eq_getElem hj] at e2
 rw [← Option.some.inj e1,← Option.some.inj e2] at z
 exact h ((List.getElem_inj r.nd).mp z)
end
end L2.Srt
namespace L2.Srt
open PySem PySem.W PySem.Calls PyProof.Rows
def ltP (a b:Int × Int):Bool:=decide (a.1<b.1\/(a.1=b.1/\a.2<b.2))
section
open PySem.SeqAt
open PySem.AutoSeq1 (wpAny_loadPart')
open PySem.MeetsSeq PySem.MeetsSeq2 PySem.MeetsSeq3
end
abbrev NP:=Int × (Int × Int)
abbrev PN:=(Int × Int) × Int
def Qtz (a b:NP):Bool:=decide (a.1<b.1) || (decide (a.1=b.1) && ltP a.2 b.2)
def Qtc (a b:PN):Bool:=ltP a.1 b.1 || (decide (a.1=b.1) && decide (a.2<b.2))
end L2.Srt
namespace TL
open PySem L2 PyProof.Rows
inductive Tag where
 |lst | tup
 /-- an instance of the class at k,its attributes' names -/
 |ins (k:Addr) (ns:List Str)
 /-- a dict whose keys are tuples;ints and texts -/
 |dT (ks:List (List Key)) | dK (ks:List Key)
 /-- an exception of the class at c -/
 |exc (c:Addr)
 deriving DecidableEq
inductive D where
 |int (i:Int) | bl (b:Bool) | non | str (s:Str) | ty (n:String) | cls (c:Addr) | nd (t:Tag) (ds:List D)
abbrev D.lst (ds:List D):D:=.nd .lst ds
abbrev D.tup (ds:List D):D:=.nd .tup ds
noncomputable def Tag.mut:Tag->Bool
 |.lst=>true | .dT _=>true | .dK _=>true | _=>false
mutual
noncomputable def D.imm:D->Bool
 |.nd t ds=>!t.mut && D.immL ds
 |_=>true
noncomputable def D.immL:List D->Bool
 | []=>true
 |d :: ds=>d.imm && D.immL ds
end
noncomputable def D.sc:D->Option V
 |.int i=>some (.int i) | .bl b=>some (.bl b) | .non=>some .non | .str s=>some (.str s) | .ty n=>some (.ty n) | .cls c=>some (.ref c) | .nd _ _=>none
def At (K:PySem.W.Frag)(F:Hp)(a:Addr):Tag->List V->Prop
 |.lst,vs=>SqL K F a vs
 |.tup,vs=>F a=some (.tup vs)
 |.ins k ns,vs=>ns.length=vs.length/\∃ dx,F a=some (.ins k dx (ns.zip vs))/\F dx=some (.own a)
 |.dT ks,vs=>ks.length=vs.length/\F a=some (.dT (ks.zip vs))
 |.dK ks,vs=>ks.length=vs.length/\F a=some (.dK (ks.zip vs))
 |.exc c,vs=>(vs=[]/\F a=some (QdP a (.ref c)))\/∃ d v,vs=[v]/\F a=some (QdP a (.ref c) (some d))/\F d=some (QfM d [("line",v)])
def Mbl:HO->Prop
 |.lst _=>True | .dT _=>True | .dK _=>True | _=>False
def Mt (H:Hp)(a:Addr):Tag->List V->Prop
 |.lst,vs=>H a=some (.lst vs)
 |.dT ks,vs=>ks.length=vs.length/\H a=some (.dT (ks.zip vs))
 |.dK ks,vs=>ks.length=vs.length/\H a=some (.dK (ks.zip vs))
 |_,_=>False
section
variable {K:PySem.W.Frag}{F H F' H':Hp}{a:Addr}{t:Tag}{vs:List V}
theorem At.same (h:At K F a t vs)(s:Same F F'):At K F' a t vs:=by
 cases t with
 |lst=>exact h.imp (fun z=>z.imp (fun z=>s _ _ z) fun ⟨o,z⟩=>⟨o,s _ _ z⟩) id
 |tup=>exact s _ _ h
 |ins k ns=>
  obtain ⟨l,dx,h1,h2⟩:=h
  exact ⟨l,dx,s _ _ h1,s _ _ h2⟩
 |dT ks=>exact ⟨h.1,s _ _ h.2⟩
 |dK ks=>exact ⟨h.1,s _ _ h.2⟩
 |exc c=>exact h.elim (fun h=>.inl ⟨h.1,s _ _ h.2⟩) fun ⟨d,v,h0,h1,h2⟩=>.inr ⟨d,v,h0,s _ _ h1,s _ _ h2⟩
theorem Mt.at (h:Mt H a t vs):At K H a t vs:=by
 cases t with
 |lst=>exact .inl (.inl h)
 |tup=>exact h.elim
 |ins k ns=>exact h.elim
 |dT ks=>exact h
 |dK ks=>exact h
 |exc c=>exact h.elim
theorem At.sql {K:PySem.W.Frag}(h:At K F a .lst vs):SqL K F a vs:=h
theorem At.sqt {K:PySem.W.Frag}(h:At K F a .tup vs):SqT K F a vs:=.inl (.inl h)
theorem Mt.mut (h:Mt H a t vs):t.mut=true:=by
 cases t with
 |lst=>rfl
 |tup=>exact h.elim
 |ins k ns=>exact h.elim
 |dT ks=>rfl
 |dK ks=>rfl
 |exc c=>exact h.elim
theorem Mt.eq (h:Mt H a t vs)(e:H' a=H a):Mt H' a t vs:=by
 cases t with
 |lst=>exact e.trans h
 |tup=>exact h.elim
 |ins k ns=>exact h.elim
 |dT ks=>exact ⟨h.1,e.trans h.2⟩
 |dK ks=>exact ⟨h.1,e.trans h.2⟩
 |exc c=>exact h.elim
theorem Mt.some (h:Mt H a t vs):∃ o,H a=some o/\Mbl o:=by
 cases t with
 |lst=>exact ⟨_,h,True.intro⟩
 |tup=>exact h.elim
 |ins k ns=>exact h.elim
 |dT ks=>exact ⟨_,h.2,True.intro⟩
 |dK ks=>exact ⟨_,h.2,True.intro⟩
 |exc c=>exact h.elim
end
mutual
/-- v stands for d,all in F -/
inductive R (K:PySem.W.Frag) (F:Hp):V->D->Prop
 |sc {v:V} {d:D} (e:d.sc=some v):R K F v d
 |nd {a:Addr} {t:Tag} {vs:List V} {ds:List D} (h:At K F a t vs) (r:RL K F vs ds):R K F (.ref a) (.nd t ds)
inductive RL (K:PySem.W.Frag) (F:Hp):List V->List D->Prop
 |nil:RL K F [] []
 |cons {v:V} {d:D} {vs:List V} {ds:List D} (h:R K F v d) (r:RL K F vs ds):RL K F (v :: vs) (d :: ds)
end
mutual
/-- v stands for d: what cannot be changed is in F,what can is in H,at fp,each once -/
inductive O (K:PySem.W.Frag) (F H:Hp):V->D->List Addr->Prop
 |sc {v:V} {d:D} (e:d.sc=some v):O K F H v d []
 |im {a:Addr} {t:Tag} {vs:List V} {ds:List D} {fp:List Addr} (m:t.mut=false) (h:At K F a t vs) (r:OL K F H vs ds fp):O K F H (.ref a) (.nd t ds) fp
 |mt {a:Addr} {t:Tag} {vs:List V} {ds:List D} {fp:List Addr} (h:Mt H a t vs) (r:OL K F H vs ds fp):O K F H (.ref a) (.nd t ds) (a :: fp)
inductive OL (K:PySem.W.Frag) (F H:Hp):List V->List D->List Addr->Prop
 |nil:OL K F H [] [] []
 |cons {v:V} {d:D} {vs:List V} {ds:List D} {f g:List Addr} (h:O K F H v d f) (r:OL K F H vs ds g):OL K F H (v :: vs) (d :: ds) (f++g)
end
section
variable {K:PySem.W.Frag}{F F' H H':Hp}
theorem R.ind {P:V->D->Prop}{Q:List V->List D->Prop}(c1:∀ {v d},D.sc d=some v->P v d)(c2:∀ {a t vs ds},At K F a t vs->Q vs ds->P (.ref a) (.nd t ds))(c4:Q [] [])(c5:∀ {v d vs ds},P v d->Q vs ds->Q (v :: vs) (d :: ds)):(∀ v d,R K F v d->P v d)/\∀ vs ds,RL K F vs ds->Q vs ds:=
 ⟨fun _ _ h=>R.rec (motive_1:=fun v d _=>P v d) (motive_2:=fun v d _=>Q v d) (fun e=>c1 e) (fun h _ q=>c2 h q) c4 (fun _ _ p q=>c5 p q) h,fun _ _ h=>RL.rec (motive_1:=fun v d _=>P v d) (motive_2:=fun v d _=>Q v d) (fun e=>c1 e) (fun h _ q=>c2 h q) c4 (fun _ _ p q=>c5 p q) h⟩
theorem R.sameB (s:Same F F'):(∀ v d,R K F v d->R K F' v d)/\∀ v d,RL K F v d->RL K F' v d:=R.ind .sc (fun h q=>.nd (h.same s) q) .nil .cons
theorem R.same (s:Same F F'){v:V}{d:D}(h:R K F v d):R K F' v d:=(R.sameB s).1 _ _ h
theorem RL.same (s:Same F F'){v:List V}{d:List D}(h:RL K F v d):RL K F' v d:=(R.sameB s).2 _ _ h
theorem RL.length {v:List V}{d:List D}(h:RL K F v d):v.length=d.length:=
 (R.ind (P:=fun _ _=>True) (Q:=fun v d=>v.length=d.length) (fun _=>trivial) (fun _ _=>trivial) rfl (fun _ q=>by rw [List.length_cons,List.length_cons,q])).2 _ _ h
theorem O.ind {P:V->D->List Addr->Prop}{Q:List V->List D->List Addr->Prop}(c1:∀ {v d},D.sc d=some v->P v d [])(c2:∀ {a t vs ds fp},t.mut=false->At K F a t vs->Q vs ds fp->P (.ref a) (.nd t ds) fp)(c3:∀ {a t vs ds fp},Mt H a t vs->Q vs ds fp->P (.ref a) (.nd t ds) (a :: fp))(c4:Q [] [] [])(c5:∀ {v d vs ds f g},P v d f->Q vs ds g->Q (v :: vs) (d :: ds) (f++g)):(∀ v d f,O K F H v d f->P v d f)/\∀ vs ds f,OL K F H vs ds f->Q vs ds f:=
 ⟨fun _ _ _ h=>O.rec (motive_1:=fun v d f _=>P v d f) (motive_2:=fun v d f _=>Q v d f) (fun e=>c1 e) (fun m h _ q=>c2 m h q) (fun h _ q=>c3 h q) c4 (fun _ _ p q=>c5 p q) h,fun _ _ _ h=>OL.rec (motive_1:=fun v d f _=>P v d f) (motive_2:=fun v d f _=>Q v d f) (fun e=>c1 e) (fun m h _ q=>c2 m h q) (fun h _ q=>c3 h q) c4 (fun _ _ p q=>c5 p q) h⟩
theorem OL.length {v:List V}{d:List D}{f:List Addr}(h:OL K F H v d f):v.length=d.length:=
 (O.ind (P:=fun _ _ _=>True) (Q:=fun v d _=>v.length=d.length) (fun _=>trivial) (fun _ _ _=>trivial) (fun _ _=>trivial) rfl (fun _ q=>by rw [List.length_cons,List.length_cons,q])).2 _ _ _ h
theorem O.keepB (s:Same F F'):(∀ v d fp,O K F H v d fp->(∀ a∈fp,H' a=H a)->O K F' H' v d fp)/\∀ v d fp,OL K F H v d fp->(∀ a∈fp,H' a=H a)->OL K F' H' v d fp:=
 O.ind (fun e _=>.sc e) (fun m h q k=>.im m (h.same s) (q k)) (fun h q k=>.mt (h.eq (k _ List.mem_cons_self)) (q fun a ha=>k a (List.mem_cons_of_mem _ ha))) (fun _=>.nil) (fun p q k=>.cons (p fun a ha=>k a (List.mem_append_left _ ha)) (q fun a ha=>k a (List.mem_append_right _ ha)))
theorem O.keep (s:Same F F'){v:V}{d:D}{fp:List Addr}(h:O K F H v d fp)(k:∀ a∈fp,H' a=H a):O K F' H' v d fp:=(O.keepB s).1 _ _ _ h k
theorem OL.keep (s:Same F F'){v:List V}{d:List D}{fp:List Addr}(h:OL K F H v d fp)(k:∀ a∈fp,H' a=H a):OL K F' H' v d fp:=(O.keepB s).2 _ _ _ h k
theorem O.memB:(∀ v d fp,O K F H v d fp->∀ a∈fp,∃ o,H a=some o/\Mbl o)/\∀ v d fp,OL K F H v d fp->∀ a∈fp,∃ o,H a=some o/\Mbl o:=
 O.ind (fun _ _ z=>nomatch z) (fun _ _ q=>q) (fun h q a ha=>(List.mem_cons.mp ha).elim (fun e=>e▸h.some) (q a)) (fun _ z=>nomatch z) (fun p q a ha=>(List.mem_append.mp ha).elim (p a) (q a))
theorem O.mem {v:V}{d:D}{fp:List Addr}(h:O K F H v d fp)(a:Addr)(ha:a∈fp):∃ o,H a=some o/\Mbl o:=O.memB.1 _ _ _ h a ha
theorem OL.mem {v:List V}{d:List D}{fp:List Addr}(h:OL K F H v d fp)(a:Addr)(ha:a∈fp):∃ o,H a=some o/\Mbl o:=O.memB.2 _ _ _ h a ha
noncomputable def jn (F H:Hp)(fp:List Addr):Hp:=fun b=>if b∈fp then H b else F b
theorem QiI {fp:List Addr}(ap:∀ a∈fp,F a=none):Same F (jn F H fp):=fun b o e=>by
 unfold jn
 by_cases h:b∈fp
 ·rw [ap b h] at e;cases e
 ·rw [if_neg h];exact e
theorem QbD {fp:List Addr}(s:Same F H):Same (jn F H fp) H:=fun b o e=>by
 unfold jn at e
 by_cases h:b∈fp
 ·rw [if_pos h] at e;exact e
 ·rw [if_neg h] at e;exact s b o e
theorem QbU {fp:List Addr}{b:Addr}(h:b∈fp):jn F H fp b=H b:=by unfold jn;rw [if_pos h]
theorem QaM {fp:List Addr}{b:Addr}(h:b∉fp):jn F H fp b=F b:=by unfold jn;rw [if_neg h]
noncomputable def lo (F:Hp)(L:List Addr):Hp:=fun b=>if b∈L then none else F b
theorem lo_le {L:List Addr}:Same (lo F L) F:=fun b o e=>by
 unfold lo at e
 by_cases h:b∈L
 ·rw [if_pos h] at e;cases e
 ·rw [if_neg h] at e;exact e
theorem QiJ {L:List Addr}{b:Addr}(h:b∈L):lo F L b=none:=by unfold lo;rw [if_pos h]
theorem QbI {L:List Addr}{b:Addr}(h:b∉L):lo F L b=F b:=by unfold lo;rw [if_neg h]
theorem O.rB (s:Same F F'):(∀ v d fp,O K F H v d fp->(∀ a∈fp,F' a=H a)->R K F' v d)/\∀ v d fp,OL K F H v d fp->(∀ a∈fp,F' a=H a)->RL K F' v d:=
 O.ind (fun e _=>.sc e) (fun m h q k=>.nd (h.same s) (q k)) (fun h q k=>.nd (h.eq (k _ List.mem_cons_self)).at (q fun a ha=>k a (List.mem_cons_of_mem _ ha))) (fun _=>.nil) (fun p q k=>.cons (p fun a ha=>k a (List.mem_append_left _ ha)) (q fun a ha=>k a (List.mem_append_right _ ha)))
theorem O.r (s:Same F F'){v:V}{d:D}{fp:List Addr}(h:O K F H v d fp)(k:∀ a∈fp,F' a=H a):R K F' v d:=(O.rB s).1 _ _ _ h k
theorem OL.r (s:Same F F'){v:List V}{d:List D}{fp:List Addr}(h:OL K F H v d fp)(k:∀ a∈fp,F' a=H a):RL K F' v d:=(O.rB s).2 _ _ _ h k
theorem Qd6 {t:Tag}{ds:List D}(h:(D.nd t ds).imm=true):t.mut=false/\D.immL ds=true:=by
 rw [D.imm,Bool.and_eq_true] at h
 exact ⟨by simpa using h.1,h.2⟩
theorem QaU {d:D}{ds:List D}(h:D.immL (d :: ds)=true):d.imm=true/\D.immL ds=true:=by
 rw [D.immL,Bool.and_eq_true] at h
 exact h
theorem Qei:∀ {ds:List D},D.immL ds=true->∀ d∈ds,d.imm=true
 | [],_,d,hd=>nomatch hd
 |x :: ds,h,d,hd=>by
  obtain ⟨h1,h2⟩:=QaU h
  rcases List.mem_cons.mp hd with rfl | hd
  ·exact h1
  ·exact Qei h2 d hd
theorem Qf6:∀ {ds:List D},(∀ d∈ds,d.imm=true)->D.immL ds=true
 | [],_=>by rw [D.immL]
 |x :: ds,h=>by
  rw [D.immL,Bool.and_eq_true]
  exact ⟨h x List.mem_cons_self,Qf6 fun d hd=>h d (List.mem_cons_of_mem _ hd)⟩
theorem Qkt {xs ys:List D}(h:D.immL xs=true)(h':D.immL ys=true):D.immL (xs++ys)=true:=Qf6 fun d hd=>(List.mem_append.mp hd).elim (Qei h d) (Qei h' d)
theorem At.lo {a:Addr}{t:Tag}{vs:List V}{L:List Addr}(m:t.mut=false)(h:At K F a t vs)(hl:∀ b∈L,∀ o,F b=some o->Mbl o):At K (lo F L) a t vs:=by
 cases t with
 |lst=>cases m
 |tup=>exact (QbI fun z=>hl _ z _ h).trans h
 |ins k ns=>
  obtain ⟨l,dx,h1,h2⟩:=h
  exact ⟨l,dx,(QbI fun z=>hl _ z _ h1).trans h1,(QbI fun z=>hl _ z _ h2).trans h2⟩
 |dT ks=>cases m
 |dK ks=>cases m
 |exc c=>exact h.elim (fun h=>.inl ⟨h.1,(QbI fun z=>hl _ z _ h.2).trans h.2⟩) fun ⟨d,v,h0,h1,h2⟩=>.inr ⟨d,v,h0,(QbI fun z=>hl _ z _ h1).trans h1,(QbI fun z=>hl _ z _ h2).trans h2⟩
theorem R.loB {L:List Addr}(hl:∀ b∈L,∀ o,F b=some o->Mbl o):(∀ v d,R K F v d->d.imm=true->R K (lo F L) v d)/\∀ v d,RL K F v d->D.immL d=true->RL K (lo F L) v d:=
 R.ind (fun e _=>.sc e) (fun h q m=>.nd (h.lo (Qd6 m).1 hl) (q (Qd6 m).2)) (fun _=>.nil) (fun p q m=>.cons (p (QaU m).1) (q (QaU m).2))
theorem R.lo {L:List Addr}(hl:∀ b∈L,∀ o,F b=some o->Mbl o){v:V}{d:D}(h:R K F v d)(m:d.imm=true):R K (lo F L) v d:=(R.loB hl).1 _ _ h m
theorem RL.lo {L:List Addr}(hl:∀ b∈L,∀ o,F b=some o->Mbl o){v:List V}{d:List D}(h:RL K F v d)(m:D.immL d=true):RL K (lo F L) v d:=(R.loB hl).2 _ _ h m
theorem R.oB:(∀ v d,R K F v d->d.imm=true->O K F H v d [])/\∀ v d,RL K F v d->D.immL d=true->OL K F H v d []:=
 R.ind (fun e _=>.sc e) (fun h q m=>.im (Qd6 m).1 h (q (Qd6 m).2)) (fun _=>.nil) (fun p q m=>.cons (f:=[]) (p (QaU m).1) (q (QaU m).2))
theorem R.o {v:V}{d:D}(h:R K F v d)(m:d.imm=true):O K F H v d []:=R.oB.1 _ _ h m
theorem RL.o {v:List V}{d:List D}(h:RL K F v d)(m:D.immL d=true):OL K F H v d []:=R.oB.2 _ _ h m
theorem O.immB:(∀ v d fp,O K F H v d fp->d.imm=true->fp=[])/\∀ v d fp,OL K F H v d fp->D.immL d=true->fp=[]:=
 O.ind (fun _ _=>rfl) (fun _ _ q i=>q (Qd6 i).2) (fun h _ i=>absurd h.mut (by rw [(Qd6 i).1];decide)) (fun _=>rfl) (fun p q i=>by rw [p (QaU i).1,q (QaU i).2];rfl)
theorem OL.imm0 {v:List V}{d:List D}{fp:List Addr}(h:OL K F H v d fp)(i:D.immL d=true):fp=[]:=O.immB.2 _ _ _ h i
theorem R.det_sc {v:V}{d:D}{w:V}(h:R K F v d)(e:d.sc=some w):v=w:=by
 cases h with
 |sc e'=>rw [e] at e';exact (Option.some.inj e').symm
 |nd h r=>cases e
theorem RL.get {vs:List V}{ds:List D}{i:Nat}{d:D}(r:RL K F vs ds)(e:ds[i]? = some d):∃ v,vs[i]? = some v/\R K F v d:=by
 induction i generalizing vs ds with
 |zero=>cases r with
  |nil=>simp at e
  |cons h r=>simp at e;subst e;exact ⟨_,rfl,h⟩
 |succ i ih=>cases r with
  |nil=>simp at e
  |cons h r=>
   obtain ⟨v,h1,h2⟩:=ih r (by simpa using e)
   exact ⟨v,by simpa using h1,h2⟩
theorem RL.app {vs us:List V}{ds es:List D}(h:RL K F vs ds)(r:RL K F us es):RL K F (vs++us) (ds++es):=
 ((R.ind (P:=fun v d=>R K F v d) (Q:=fun vs ds=>RL K F vs ds/\RL K F (vs++us) (ds++es)) .sc (fun h q=>.nd h q.1) ⟨.nil,r⟩ (fun p q=>⟨.cons p q.1,.cons p q.2⟩)).2 _ _ h).2
theorem OL.app {vs us:List V}{ds es:List D}{f g:List Addr}(h:OL K F H vs ds f)(r:OL K F H us es g):OL K F H (vs++us) (ds++es) (f++g):=
 ((O.ind (P:=fun v d f=>O K F H v d f) (Q:=fun vs ds f=>OL K F H vs ds f/\OL K F H (vs++us) (ds++es) (f++g)) .sc (fun m h q=>.im m h q.1) (fun h q=>.mt h q.1) ⟨.nil,r⟩ (fun p q=>⟨.cons p q.1,by rw [List.append_assoc];exact .cons p q.2⟩)).2 _ _ _ h).2
end
end TL
namespace TL
open PySem L2
inductive Sl where
 /-- never changed again -/
 |frz (d:D)
 /-- one's own -/
 |own (d:D)
 /-- a parameter that is the caller's,and changed for it -/
 |par (d:D)
abbrev Rho:=List (Option Sl)
structure Cn where
 K:PySem.W.Frag
 H₀:Hp
 F₀:Hp
 A:List Addr
 pars:List (Nat × V)
inductive S1 (K:PySem.W.Frag) (F H:Hp):Option V->Option Sl->List Addr->List Addr->Prop
 |non {x:Option V}:S1 K F H x none [] []
 |frz {v:V} {d:D} (h:R K F v d):S1 K F H (some v) (some (.frz d)) [] []
 |own {v:V} {d:D} {f:List Addr} (h:O K F H v d f):S1 K F H (some v) (some (.own d)) f []
 |par {v:V} {d:D} {f:List Addr} (h:O K F H v d f):S1 K F H (some v) (some (.par d)) [] f
inductive SL (K:PySem.W.Frag) (F H:Hp):St->Rho->List Addr->List Addr->Prop
 |nil:SL K F H [] [] [] []
 |cons {x:Option V} {s:Option Sl} {σ:St} {ρ:Rho} {f0 g0 f g:List Addr} (h:S1 K F H x s f0 g0) (r:SL K F H σ ρ f g):SL K F H (x :: σ) (s :: ρ) (f0++f) (g0++g)
section
variable {K:PySem.W.Frag}{F F' H H':Hp}
theorem S1.keep {x:Option V}{s:Option Sl}{f g:List Addr}(sf:Same F F')(h:S1 K F H x s f g)(k:∀ a∈f++g,H' a=H a):S1 K F' H' x s f g:=by
 cases h with
 |non=>exact .non
 |frz h=>exact .frz (h.same sf)
 |own h=>exact .own (h.keep sf fun a ha=>k a (List.mem_append_left _ ha))
 |par h=>exact .par (h.keep sf fun a ha=>k a ha)
theorem S1.mem {x:Option V}{s:Option Sl}{f g:List Addr}(h:S1 K F H x s f g):∀ a∈f++g,∃ o,H a=some o/\Mbl o:=by
 cases h with
 |non=>intro a ha;exact nomatch ha
 |frz h=>intro a ha;exact nomatch ha
 |own h=>intro a ha;rw [List.append_nil] at ha;exact h.mem a ha
 |par h=>intro a ha;exact h.mem a ha
theorem SL.keep (sf:Same F F'){σ:St}{ρ:Rho}{f g:List Addr}(h:SL K F H σ ρ f g)(k:∀ a∈f++g,H' a=H a):SL K F' H' σ ρ f g:=by
 induction h with
 |nil=>exact .nil
 |cons h r ih=>
  refine .cons (h.keep sf fun a ha=>k a ?_) (ih fun a ha=>k a ?_)<;>rcases List.mem_append.mp ha with z | z
  ·exact List.mem_append_left _ (List.mem_append_left _ z)
  ·exact List.mem_append_right _ (List.mem_append_left _ z)
  ·exact List.mem_append_left _ (List.mem_append_right _ z)
  ·exact List.mem_append_right _ (List.mem_append_right _ z)
theorem SL.mem {σ:St}{ρ:Rho}{f g:List Addr}(h:SL K F H σ ρ f g):∀ a∈f++g,∃ o,H a=some o/\Mbl o:=by
 induction h with
 |nil=>exact fun a ha=>nomatch ha
 |cons h r ih=>
  intro a ha
  rcases List.mem_append.mp ha with z | z<;>rcases List.mem_append.mp z with z | z
  ·exact h.mem a (List.mem_append_left _ z)
  ·exact ih a (List.mem_append_left _ z)
  ·exact h.mem a (List.mem_append_right _ z)
  ·exact ih a (List.mem_append_right _ z)
theorem SL.len {σ:St}{ρ:Rho}{f g:List Addr}(h:SL K F H σ ρ f g):σ.length=ρ.length:=by
 induction h with
 |nil=>rfl
 |cons h r ih=>exact congrArg Nat.succ ih
theorem SL.cut {σ:St}{ρ:Rho}{f g:List Addr}(h:SL K F H σ ρ f g):∀ {i:Nat} {s:Option Sl},ρ[i]? = some s->∃ x f0 g0 f1 f2 g1 g2,σ[i]? = some x/\S1 K F H x s f0 g0/\f=f1++(f0++f2)/\g=g1++(g0++g2)/\
  ∀ {F' H':Hp},Same F F'->(∀ a∈f1++f2++(g1++g2),H' a=H a)->∀ {x':Option V} {s':Option Sl} {f0' g0':List Addr},S1 K F' H' x' s' f0' g0'->SL K F' H' (σ.set i x') (ρ.set i s') (f1++(f0'++f2)) (g1++(g0'++g2)):=by
 induction h with
 |nil=>intro i s e;cases e
 | @cons x1 s1 σ1 ρ1 f0 g0 f g h r ih=>
  intro i s e
  cases i with
  |zero=>cases e;exact ⟨_,_,_,[],f,[],g,rfl,h,rfl,rfl,fun {F' H'} sf k {x' s' f0' g0'} h'=>show SL K F' H' (_ :: _) (_ :: _) (f0'++f) (g0'++g) from .cons h' (r.keep sf k)⟩
  |succ i=>
   obtain ⟨x,a0,b0,f1,f2,g1,g2,e1,h1,rfl,rfl,k⟩:=ih (i:=i) (s:=s) e
   refine ⟨x,a0,b0,f0++f1,f2,g0++g1,g2,e1,h1,(List.append_assoc ..).symm,(List.append_assoc ..).symm,fun {F' H'} sf kk {x' s' f0' g0'} h'=>?_⟩
   rw [List.append_assoc,List.append_assoc]
   refine SL.cons (h.keep sf fun a ha=>kk a ?_) (k sf (fun a ha=>kk a ?_) h')<;>simp only [List.mem_append] at ha ⊢
   ·rcases ha with z | z
    ·exact .inl (.inl (.inl z))
    ·exact .inr (.inl (.inl z))
   ·rcases ha with (z | z) | z | z
    ·exact .inl (.inl (.inr z))
    ·exact .inl (.inr z)
    ·exact .inr (.inl (.inr z))
    ·exact .inr (.inr z)
end
def IsT:HO->Prop
 |.tup _=>True | .ext _=>True | _=>False
def Nw (H:Hp)(b:Addr)(o:HO):Prop:=H b=none\/IsT o
theorem Nw.not {H H':Hp}{b:Addr}{o o':HO}(n:Nw H b o)(e:H b≠none)(e':H' b=some o)(e2:H' b=some o')(m:Mbl o'):False:=by
 rcases n with z | z
 ·exact e z
 ·rw [e'] at e2;cases e2
  cases o with
  |tup _=>exact m
  |ext _=>exact m
  |_=>exact z
theorem Nw.up {H H':Hp}{b:Addr}{o:HO}(n:Nw H b o)(f:H b=none->H' b=none):Nw H' b o:=n.imp f id
structure SI (C:Cn)(F H:Hp)(σ:St)(ρ:Rho)(τ:List (V × D))(fp:List Addr):Prop where
 sl:∃ f g t,SL C.K F H σ ρ f g/\OL C.K F H (τ.map (·.1)) (τ.map (·.2)) t/\fp.Perm (f++(g++t))/\(∀ a∈f,C.H₀ a=none)/\(∀ a∈t,C.H₀ a=none)/\∀ a∈g,a∈C.A\/C.H₀ a=none
 nd:fp.Nodup
 ap:∀ a∈fp,F a=none
 fh:Same F H
 f0:Same C.F₀ F
 fn:∀ b o,F b=some o->C.F₀ b=some o\/Nw C.H₀ b o
 kp:∀ b o,C.H₀ b=some o->b∉C.A->H b=some o
 dm:∀ b,H b=none->C.H₀ b=none
 pr:∀ j v,(j,v)∈C.pars->σ[j]? = some (some v)/\∃ d,ρ[j]? = some (some (.par d))
section
variable {C:Cn}{F F' H H':Hp}{σ:St}{ρ:Rho}{τ:List (V × D)}{fp:List Addr}
theorem SI.len (I:SI C F H σ ρ τ fp):σ.length=ρ.length:=let ⟨_,_,_,s,_⟩:=I.sl;s.len
theorem SI.mem (I:SI C F H σ ρ τ fp):∀ a∈fp,∃ o,H a=some o/\Mbl o:=fun a ha=>by
 obtain ⟨f,g,t,s,o,p,_⟩:=I.sl
 have z:=p.mem_iff.mp ha
 rcases List.mem_append.mp z with z | z
 ·exact s.mem a (List.mem_append_left _ z)
 ·rcases List.mem_append.mp z with z | z
  ·exact s.mem a (List.mem_append_right _ z)
  ·exact o.mem a z
theorem SI.perm {fp':List Addr}(I:SI C F H σ ρ τ fp)(p:fp.Perm fp'):SI C F H σ ρ τ fp':=by
 obtain ⟨f,g,t,s,o,q,r⟩:=I.sl
 exact ⟨⟨f,g,t,s,o,p.symm.trans q,r⟩,p.nodup_iff.mp I.nd,fun a ha=>I.ap a (p.mem_iff.mpr ha),I.fh,I.f0,I.fn,I.kp,I.dm,I.pr⟩
theorem SI.step (I:SI C F H σ ρ τ fp)(sf:Same F F')(fh:Same F' H')(hk:∀ a∈fp,H' a=H a)(ap:∀ a∈fp,F' a=none)(fn:∀ b o,F' b=some o->F b=some o\/Nw C.H₀ b o)(kp:∀ b o,C.H₀ b=some o->b∉C.A->H b=some o->H' b=some o)(dm:∀ b,H' b=none->H b=none):SI C F' H' σ ρ τ fp:=by
 obtain ⟨f,g,t,s,o,q,h1,h2,h3⟩:=I.sl
 have inn:∀ {a:Addr},a∈f++(g++t)->H' a=H a:=fun z=>hk _ (q.mem_iff.mpr z)
 refine ⟨⟨f,g,t,s.keep sf fun a ha=>inn (by
  rcases List.mem_append.mp ha with z | z
  ·exact List.mem_append_left _ z
  ·exact List.mem_append_right _ (List.mem_append_left _ z)),o.keep sf fun a ha=>inn (List.mem_append_right _ (List.mem_append_right _ ha)),q,h1,h2,h3⟩,I.nd,ap,fh,I.f0.trans sf,fun b ob e=>?_,fun b ob e n=>?_,fun b e=>?_,I.pr⟩
 ·rcases fn b ob e with z | z
  ·exact I.fn b ob z
  ·exact .inr z
 ·exact kp b ob e n (I.kp b ob e n)
 ·exact I.dm b (dm b e)
theorem SI.lay {p:Addr}{o:HO}(I:SI C F H σ ρ τ fp)(hp:H p=none):SI C (upd F p o) (upd H p o) σ ρ τ fp:=by
 have np:∀ a∈fp,a≠p:=fun a ha=>by
  obtain ⟨_,e,_⟩:=I.mem a ha
  exact Qaj e hp
 have fp0:F p=none:=I.fh.free hp
 refine I.step (Same.upd fp0) (fun b ob e=>?_) (fun a ha=>Qad (np a ha)) (fun a ha=>(Qad (np a ha)).trans (I.ap a ha)) (fun b ob e=>?_) (fun b ob _ _ e=>Same.upd hp b ob e) fun b e=>(Same.upd hp).free e
 ·by_cases hb:b=p
  ·subst hb;rw [Qah] at e ⊢;exact e
  ·rw [Qad hb] at e ⊢;exact I.fh b ob e
 ·by_cases hb:b=p
  ·subst hb;exact .inr (.inl (I.dm b hp))
  ·rw [Qad hb] at e;exact .inl e
theorem SI.lay0 {p:Addr}{o:HO}(I:SI C F H σ ρ τ fp)(hp:H p=none):SI C F (upd H p o) σ ρ τ fp:=by
 have np:∀ a∈fp,a≠p:=fun a ha=>by
  obtain ⟨_,e,_⟩:=I.mem a ha
  exact Qaj e hp
 exact I.step (Same.refl F) (I.fh.trans (Same.upd hp)) (fun a ha=>Qad (np a ha)) I.ap (fun b ob e=>.inl e) (fun b ob _ _ e=>Same.upd hp b ob e) fun b e=>(Same.upd hp).free e
theorem SI.pop {v:V}{d:D}(I:SI C F H σ ρ ((v,d) :: τ) fp):∃ f rest,O C.K F H v d f/\fp.Perm (f++rest)/\SI C F H σ ρ τ rest/\(∀ a∈f,C.H₀ a=none)/\(∀ a∈f,F a=none)/\(f++rest).Nodup:=by
 obtain ⟨f,g,t,s,o,q,h1,h2,h3⟩:=I.sl
 cases o with
 | @cons _ _ _ _ t1 t2 o1 o2=>
  have p:fp.Perm (t1++(f++(g++t2))):=by
   refine q.trans ?_
   rw [List.perm_iff_count]
   intro a
   simp only [List.count_append]
   omega
  have nd:=p.nodup_iff.mp I.nd
  refine ⟨t1,f++(g++t2),o1,p,⟨⟨f,g,t2,s,o2,.refl _,h1,fun a ha=>h2 a (List.mem_append_right _ ha),h3⟩,(List.nodup_append.mp nd).2.1,fun a ha=>I.ap a (p.mem_iff.mpr (List.mem_append_right _ ha)),I.fh,I.f0,I.fn,I.kp,I.dm,I.pr⟩,fun a ha=>h2 a (List.mem_append_left _ ha),fun a ha=>I.ap a (p.mem_iff.mpr (List.mem_append_left _ ha)),nd⟩
theorem SI.push {v:V}{d:D}{f rest:List Addr}(I:SI C F H σ ρ τ rest)(h:O C.K F H v d f)(h0:∀ a∈f,C.H₀ a=none)(ap:∀ a∈f,F a=none)(nd:(f++rest).Nodup):SI C F H σ ρ ((v,d) :: τ) (f++rest):=by
 obtain ⟨f1,g,t,s,o,q,h1,h2,h3⟩:=I.sl
 refine ⟨⟨f1,g,f++t,s,.cons h o,?_,h1,fun a ha=>(List.mem_append.mp ha).elim (h0 a) (h2 a),h3⟩,nd,fun a ha=>(List.mem_append.mp ha).elim (ap a) (I.ap a),I.fh,I.f0,I.fn,I.kp,I.dm,I.pr⟩
 refine (q.append_left f).trans ?_
 rw [List.perm_iff_count]
 intro a
 simp only [List.count_append]
 omega
theorem SI.cut (I:SI C F H σ ρ τ fp){i:Nat}{s:Option Sl}(hs:ρ[i]? = some s):∃ x f0 g0 rest,σ[i]? = some x/\S1 C.K F H x s f0 g0/\fp.Perm (f0++(g0++rest))/\(∀ a∈f0,C.H₀ a=none)/\(∀ a∈g0,a∈C.A\/C.H₀ a=none)/\
  ∀ {F' H':Hp} {x':Option V} {s':Option Sl} {f0' g0':List Addr},Same F F'->Same F' H'->(∀ a∈rest,H' a=H a)->(∀ b,H' b=none->H b=none)->(∀ b o,C.H₀ b=some o->b∉C.A->H b=some o->H' b=some o)->(∀ b o,F' b=some o->F b=some o\/Nw C.H₀ b o)->
   S1 C.K F' H' x' s' f0' g0'->(f0'++(g0'++rest)).Nodup->(∀ a∈f0'++(g0'++rest),F' a=none)->(∀ a∈f0',C.H₀ a=none)->(∀ a∈g0',a∈C.A\/C.H₀ a=none)->(∀ v,(i,v)∈C.pars->x'=some v/\∃ d,s'=some (.par d))->
   SI C F' H' (σ.set i x') (ρ.set i s') τ (f0'++(g0'++rest)):=by
 obtain ⟨f,g,t,sl,o,q,h1,h2,h3⟩:=I.sl
 obtain ⟨x,f0,g0,f1,f2,g1,g2,ex,s1,rfl,rfl,k⟩:=sl.cut hs
 have mv:∀ (f0 g0:List Addr),(f0++(g0++(f1++f2++(g1++g2)++t))).Perm ((f1++(f0++f2))++((g1++(g0++g2))++t)):=fun f0 g0=>by
  rw [List.perm_iff_count]
  intro a
  simp only [List.count_append]
  omega
 refine ⟨x,f0,g0,f1++f2++(g1++g2)++t,ex,s1,q.trans (mv f0 g0).symm,fun a ha=>h1 a (by simp [ha]),fun a ha=>h3 a (by simp [ha]),fun {F' H' x' s' f0' g0'} sf fh hk dm kp fn n1 nd ap w0 w1 pr=>?_⟩
 have z:=k sf (fun a ha=>hk a (List.mem_append_left _ ha)) n1
 refine ⟨⟨_,_,t,z,o.keep sf fun a ha=>hk a (List.mem_append_right _ ha),mv f0' g0',fun a ha=>?_,h2,fun a ha=>?_⟩,nd,ap,fh,I.f0.trans sf,fun b ob e=>?_,fun b ob e n=>?_,fun b e=>I.dm b (dm b e),fun j v hj=>?_⟩
 ·simp only [List.mem_append] at ha
  rcases ha with z | z | z
  ·exact h1 a (by simp [z])
  ·exact w0 a z
  ·exact h1 a (by simp [z])
 ·simp only [List.mem_append] at ha
  rcases ha with z | z | z
  ·exact h3 a (by simp [z])
  ·exact w1 a z
  ·exact h3 a (by simp [z])
 ·rcases fn b ob e with z | z
  ·exact I.fn b ob z
  ·exact .inr z
 ·exact kp b ob e n (I.kp b ob e n)
 ·obtain ⟨p1,d,p2⟩:=I.pr j v hj
  by_cases e:i=j
  ·subst e
   obtain ⟨q1,d',q2⟩:=pr v hj
   have l1:i<σ.length:=(List.getElem?_eq_some_iff.mp p1).1
   have l2:i<ρ.length:=(List.getElem?_eq_some_iff.mp p2).1
   exact ⟨by rw [List.getElem?_set_self l1,q1],d',by rw [List.getElem?_set_self l2,q2]⟩
  ·exact ⟨by rw [List.getElem?_set_ne e];exact p1,d,by rw [List.getElem?_set_ne e];exact p2⟩
theorem QnG {p q:List Addr}(h:p.Perm q):jn F H p=jn F H q:=by
 funext b
 unfold jn
 by_cases hb:b∈p
 ·rw [if_pos hb,if_pos (h.mem_iff.mp hb)]
 ·rw [if_neg hb,if_neg fun z=>hb (h.mem_iff.mpr z)]
theorem SI.freeze {v:V}{d:D}(I:SI C F H σ ρ ((v,d) :: τ) fp):∃ F' rest,SI C F' H σ ρ τ rest/\Same F F'/\R C.K F' v d/\jn F' H rest=jn F H fp:=by
 obtain ⟨f,rest,o,p,J,h0,ap,nd⟩:=I.pop
 have dis:∀ a∈rest,a∉f:=fun a ha hf=>(List.nodup_append.mp nd).2.2 a hf a ha rfl
 have sf:Same F (jn F H f):=QiI ap
 refine ⟨jn F H f,rest,J.step sf (QbD J.fh) (fun _ _=>rfl) (fun a ha=>(QaM (dis a ha)).trans (J.ap a ha)) (fun b ob e=>?_) (fun b ob _ _ e=>e) (fun _ e=>e),sf,o.r sf fun a ha=>QbU ha,?_⟩
 ·by_cases hb:b∈f
  ·exact .inr (.inl (h0 b hb))
  ·rw [QaM hb] at e;exact .inl e
 ·funext b
  unfold jn
  by_cases hb:b∈rest
  ·rw [if_pos hb,if_pos (p.mem_iff.mpr (List.mem_append_right _ hb))]
  ·rw [if_neg hb]
   by_cases hf:b∈f
   ·rw [if_pos hf,if_pos (p.mem_iff.mpr (List.mem_append_left _ hf))]
   ·rw [if_neg hf,if_neg fun z=>(List.mem_append.mp (p.mem_iff.mp z)).elim hf hb]
theorem SI.know {b:Addr}{o:HO}(I:SI C F H σ ρ τ fp)(hb:H b=some o)(ht:IsT o):SI C (upd F b o) H σ ρ τ fp:=by
 have nb:∀ a∈fp,a≠b:=fun a ha z=>by
  subst z
  obtain ⟨o',e,m⟩:=I.mem a ha
  rw [hb] at e;cases e
  cases o with
  |tup _=>exact m
  |ext _=>exact m
  |_=>exact ht
 have sf:Same F (upd F b o):=fun a o' e=>by
  by_cases z:a=b
  ·subst z
   rw [Qah,← hb];exact I.fh _ _ e
  ·rw [Qad z];exact e
 refine I.step sf (fun a o' e=>?_) (fun _ _=>rfl) (fun a ha=>(Qad (nb a ha)).trans (I.ap a ha)) (fun a o' e=>?_) (fun _ _ _ _ e=>e) fun _ e=>e
 ·by_cases z:a=b
  ·subst z;rw [Qah] at e;cases e;exact hb
  ·rw [Qad z] at e;exact I.fh a o' e
 ·by_cases z:a=b
  ·subst z;rw [Qah] at e;cases e;exact .inr (.inr ht)
  ·rw [Qad z] at e;exact .inl e
theorem SI.drop (I:SI C F H σ ρ τ fp):∃ fp',SI C F H σ ρ [] fp':=by
 induction τ generalizing fp with
 |nil=>exact ⟨fp,I⟩
 |cons x τ ih=>
  obtain ⟨f,rest,_,_,J,_⟩:=SI.pop (v:=x.1) (d:=x.2) I
  exact ih J
end
structure Xc where
 c:Addr
 l:Option Int
instance:Coe Addr Xc:=⟨fun a=>⟨a,none⟩⟩
def EX (E:XK)(c:Xc)(H:Hp):Prop:=match c.l with
 |none=>E (.ref c.c) none H
 |some n=>∀ d,H d=some (QfM d [("line",.int n)])->E (.ref c.c) (some d) H
inductive Rs (α:Type) where
 |ok (a:α)
 /-- an exception of the class at c -/
 |ex (c:Xc) (ρ:Rho)
 /-- nothing is said -/
 |no
noncomputable def Rs.bind {α β:Type}:Rs α->(α->Rs β)->Rs β
 |.ok a,f=>f a
 |.ex c ρ,_=>.ex c ρ
 |.no,_=>.no
noncomputable def Rs.of {α:Type}:Option α->Rs α
 |some a=>.ok a
 |none=>.no
abbrev ME:=Rho->Rs (D × Rho)
abbrev MT:=Rho->Rs (Bool × Rho)
abbrev MA:=Rho->Rs (List D × Rho)
abbrev XE:=L2.St->XK
def Run (C:Cn)(E:XE)(σ:L2.St){α:Type}(r:Rs α)(k:α->Prop):Prop:=match r with
 |.ok a=>k a
 |.ex c ρ=>∀ F H fp,SI C F H σ ρ [] fp->EX (E σ) c H
 |.no=>False
section
variable {C:Cn}{E:XE}{σ:L2.St}{α β:Type}
theorem Run.mono {r:Rs α}{k k':α->Prop}(h:Run C E σ r k)(f:∀ a,k a->k' a):Run C E σ r k':=by
 cases r with
 |ok a=>exact f a h
 |ex c ρ=>exact h
 |no=>exact h
theorem Run.split {r:Rs α}{f:α->Rs β}{k:β->Prop}(h:Run C E σ (r.bind f) k):Run C E σ r fun a=>Run C E σ (f a) k:=by
 cases r with
 |ok a=>exact h
 |ex c ρ=>exact h
 |no=>exact h
theorem Run.of {o:Option α}{k:α->Prop}(h:Run C E σ (Rs.of o) k):∃ a,o=some a/\k a:=by
 cases o with
 |none=>exact h.elim
 |some a=>exact ⟨a,rfl,h⟩
end
inductive Kd where
 /-- known for ever;one's own,new;known for now;the thing of a name,to be changed -/
 |V | O | B | S (i:Nat)
def Kd.tk:Kd->L2.V->D->List (L2.V × D)->List (L2.V × D)
 |.O,v,d,τ=>(v,d) :: τ
 |_,_,_,τ=>τ
def Kd.fc (C:Cn)(F H:Hp)(fp:List Addr)(σ:L2.St)(v:L2.V)(d:D):Kd->Prop
 |.V=>R C.K F v d
 |.B=>R C.K (jn F H fp) v d
 |.O=>True
 |.S i=>σ[i]? = some (some v)
structure Nx (p:Bool)(F H:Hp)(fp:List Addr)(F' H':Hp)(fp':List Addr):Prop where
 f:Same F F'
 g:p=true->Same (jn F H fp) (jn F' H' fp')
theorem Nx.refl {p:Bool}{F H:Hp}{fp:List Addr}:Nx p F H fp F H fp:=⟨Same.refl _,fun _=>Same.refl _⟩
theorem Nx.trans {p q:Bool}{F H F1 H1 F2 H2:Hp}{fp fp1 fp2:List Addr}(a:Nx p F H fp F1 H1 fp1)(b:Nx q F1 H1 fp1 F2 H2 fp2):Nx (p && q) F H fp F2 H2 fp2:=
 ⟨a.f.trans b.f,fun h=>(a.g (Bool.and_eq_true_iff.mp h).1).trans (b.g (Bool.and_eq_true_iff.mp h).2)⟩
theorem Nx.weak {p q:Bool}{F H F1 H1:Hp}{fp fp1:List Addr}(a:Nx p F H fp F1 H1 fp1)(h:q=true->p=true):Nx q F H fp F1 H1 fp1:=⟨a.f,fun z=>a.g (h z)⟩
def tX (k:Kd)(C:Cn)(p:Bool)(E:XE)(m:ME):TE:=fun σ H Q=>∃ F ρ τ fp,SI C F H σ ρ τ fp/\Run C E σ (m ρ) fun r=>
 ∀ F' H' fp' v,SI C F' H' σ r.2 (k.tk v r.1 τ) fp'->Nx p F H fp F' H' fp'->k.fc C F' H' fp' σ v r.1->Q v H'
def tT (C:Cn)(p:Bool)(E:XE)(m:MT):TT:=fun σ H Q=>∃ F ρ τ fp,SI C F H σ ρ τ fp/\Run C E σ (m ρ) fun r=>
 ∀ F' H' fp',SI C F' H' σ r.2 τ fp'->Nx p F H fp F' H' fp'->Q r.1 H'
def tkL:List Kd->List L2.V->List D->List (L2.V × D)->List (L2.V × D)
 |k :: ks,v :: vs,d :: ds,τ=>tkL ks vs ds (k.tk v d τ)
 |_,_,_,τ=>τ
inductive FcL (C:Cn) (F H:Hp) (fp:List Addr) (σ:L2.St):List Kd->List L2.V->List D->Prop
 |nil:FcL C F H fp σ [] [] []
 |cons {k:Kd} {v:L2.V} {d:D} {ks:List Kd} {vs:List L2.V} {ds:List D} (h:k.fc C F H fp σ v d) (r:FcL C F H fp σ ks vs ds):FcL C F H fp σ (k :: ks) (v :: vs) (d :: ds)
def tA (ks:List Kd)(C:Cn)(p:Bool)(E:XE)(m:MA):TA:=fun σ H Q=>∃ F ρ τ fp,SI C F H σ ρ τ fp/\Run C E σ (m ρ) fun r=>
 ∀ F' H' fp' vs,SI C F' H' σ r.2 (tkL ks vs r.1 τ) fp'->Nx p F H fp F' H' fp'->FcL C F' H' fp' σ ks vs r.1->Q vs H'
theorem Qag {X:Cx}{e:Expr}{t t':TE}(h:PE X e t)(k:∀ σ H Q,t' σ H Q->t σ H Q):PE X e t':=fun pins s σ H Q I q=>h pins s σ H Q I (k _ _ _ q)
theorem QcM {X:Cx}{e:Expr}{t t':TT}(h:PT X e t)(k:∀ σ H Q,t' σ H Q->t σ H Q):PT X e t':=fun pins s σ H Q I q=>h pins s σ H Q I (k _ _ _ q)
theorem QiO {X:Cx}{e:List Expr}{t t':TA}(h:PA X e t)(k:∀ σ H Q,t' σ H Q->t σ H Q):PA X e t':=fun pos pins s σ H Q I q=>h pos pins s σ H Q I (k _ _ _ q)
theorem Qa3 {X:Cx}{e:Stmt}{t t':TS}(h:PS X e t)(k:∀ D σ H,t' D σ H->t D σ H):PS X e t':=fun pins s σ H D I q=>h pins s σ H D I (k _ _ _ q)
theorem Qer {X:Cx}{e:List Stmt}{t t':TS}(h:PSs X e t)(k:∀ D σ H,t' D σ H->t D σ H):PSs X e t':=fun pins s σ H D I q=>h pins s σ H D I (k _ _ _ q)
section
variable {X:Cx}{C:Cn}{E:XE}{p pa pb:Bool}{e a b:Expr}{m ma mb:ME}{pos:Pos}{k ka kb:Kd}
theorem R.tj {F H:Hp}{σ:L2.St}{ρ:Rho}{τ:List (V × D)}{fp:List Addr}{v:L2.V}{d:D}(I:SI C F H σ ρ τ fp)(h:R C.K F v d):R C.K (jn F H fp) v d:=h.same (QiI I.ap)
theorem R.top {F H:Hp}{σ:L2.St}{ρ:Rho}{τ:List (V × D)}{fp:List Addr}{v:L2.V}{d:D}(I:SI C F H σ ρ τ fp)(h:R C.K (jn F H fp) v d):R C.K H v d:=h.same (QbD I.fh)
theorem QaO {q:Bool}(h:PE X e (tX k C p E m))(hq:q=true->p=true:=by decide):PE X e (tX k C q E m):=Qag h fun σ H Q ⟨F,ρ,τ,fp,I,r⟩=>
 ⟨F,ρ,τ,fp,I,r.mono fun a z F' H' fp' v I' n f=>z F' H' fp' v I' (n.weak hq) f⟩
def mC (d:D):ME:=fun ρ=>.ok (d,ρ)
theorem Qhf {d:D}{v:L2.V}(e:d.sc=some v){σ:L2.St}{H:Hp}{Q:VK}(h:tX .V C true E (mC d) σ H Q):tC v σ H Q:=by
 obtain ⟨F,ρ,τ,fp,I,r⟩:=h
 exact r F H fp v I .refl (.sc e)
theorem Qac {i j pos}:PE X (.Constant (.int i) j pos) (tX .V C true E (mC (.int i))):=Qag Qo6 fun _ _ _ h=>Qhf rfl h
theorem Qk9 {b j pos}:PE X (.Constant (.bool b) j pos) (tX .V C true E (mC (.bl b))):=Qag QrJ fun _ _ _ h=>Qhf rfl h
theorem Qbk {j pos}:PE X (.Constant .none j pos) (tX .V C true E (mC .non)):=Qag Qp4 fun _ _ _ h=>Qhf rfl h
theorem Qae {x j pos}:PE X (.Constant (.str x) j pos) (tX .V C true E (mC (.str x))):=Qag Qa8 fun _ _ _ h=>Qhf rfl h
theorem QcK {x:Str}{d:D}{v:L2.V}{u:Value}{pos:Pos}(ed:d.sc=some v)(r:RelV v u)(hm:X.mg x=some u)(hg:Gl X x:=by rfl)(hd:(x == ("__debug__" : Str))=false:=by decide):PE X (.Name x pos) (tX .V C true E (mC d)):=Qag (QnO hg hm r hd) fun _ _ _ h=>Qhf ed h
theorem Qik {x:Str}{n:String}{pos:Pos}(hm:X.mg x=none)(hv:bootBuiltins x=some (.type n))(hg:Gl X x:=by rfl)(hn:x ≠ "__name__" := by decide)(hd:(x == ("__debug__" : Str))=false:=by decide):PE X (.Name x pos) (tX .V C true E (mC (.ty n))):=Qag (QmU (v:=.ty n) hg hm hv rfl hn hd) fun _ _ _ h=>Qhf rfl h
def mB (i:Nat):ME:=fun ρ=>match ρ[i]? with
 |some (some (.frz d))=>.ok (d,ρ)
 |some (some (.own d))=>.ok (d,ρ)
 |some (some (.par d))=>.ok (d,ρ)
 |_=>.no
theorem Qqk {i:Nat}{x:Str}{pos:Pos}(hN:X.N[i]? = some x)(hv:Vis X.env.scope x)(hd:(x == ("__debug__" : Str))=false:=by decide)(hcd:(x == ("__classdict__" : Str))=false:=by decide):PE X (.Name x pos) (tX .B C true E (mB i)):=Qag (QdD hN hv hd hcd) fun σ H Q ⟨F,ρ,τ,fp,I,r⟩=>by
 unfold mB at r
 cases es:ρ[i]? with
 |none=>rw [es] at r;exact r.elim
 |some s=>
  rw [es] at r
  obtain ⟨y,f0,g0,rest,ey,s1,pm,_,_,_⟩:=I.cut es
  cases s1 with
  |non=>exact r.elim
  |frz h=>exact ⟨_,ey,r F H fp _ I .refl (h.tj I)⟩
  |own h=>exact ⟨_,ey,r F H fp _ I .refl (h.r (QiI I.ap) fun a ha=>QbU (pm.mem_iff.mpr (List.mem_append_left _ ha)))⟩
  |par h=>exact ⟨_,ey,r F H fp _ I .refl (h.r (QiI I.ap) fun a ha=>QbU (pm.mem_iff.mpr (List.mem_append_right _ (List.mem_append_left _ ha))))⟩
def mV (i:Nat):ME:=fun ρ=>match ρ[i]? with
 |some (some (.frz d))=>.ok (d,ρ)
 |some (some (.own d))=>.ok (d,ρ.set i (some (.frz d)))
 |_=>.no
theorem QaR {α:Type}{l:List α}{i:Nat}{x:α}(h:l[i]? = some x):l.set i x=l:=by
 apply List.ext_getElem?
 intro j
 by_cases e:i=j
 ·subst e
  rw [List.getElem?_set_self (List.getElem?_eq_some_iff.mp h).1,h]
 ·rw [List.getElem?_set_ne e]
theorem SI.frzSlot {F H:Hp}{σ:L2.St}{ρ:Rho}{τ:List (V × D)}{fp:List Addr}{i:Nat}{d:D}(I:SI C F H σ ρ τ fp)(es:ρ[i]? = some (some (.own d))) :
  ∃ F' fp' v,σ[i]? = some (some v)/\SI C F' H σ (ρ.set i (some (.frz d))) τ fp'/\R C.K F' v d/\Same F F'/\jn F' H fp'=jn F H fp:=by
 obtain ⟨y,f0,g0,rest,ey,s1,pm,w0,w1,cl⟩:=I.cut es
 cases s1 with
 | @own v _ _ h=>
  have nd:=pm.nodup_iff.mp I.nd
  have ap:∀ a∈f0,F a=none:=fun a ha=>I.ap a (pm.mem_iff.mpr (List.mem_append_left _ ha))
  have dis:∀ a∈rest,a∉f0:=fun a ha hf=>(List.nodup_append.mp nd).2.2 a hf a ha rfl
  have sf:Same F (TL.jn F H f0):=QiI ap
  have rr:R C.K (TL.jn F H f0) v d:=h.r sf fun a ha=>QbU ha
  have q:=cl (F':=TL.jn F H f0) (H':=H) (x':=some v) (s':=some (.frz d)) (f0':=[]) (g0':=[]) sf (QbD I.fh) (fun _ _=>rfl) (fun _ z=>z) (fun _ _ _ _ z=>z) (fun b o e=>by
   by_cases hb:b∈f0
   ·exact .inr (.inl (w0 b hb))
   ·rw [QaM hb] at e;exact .inl e) (.frz rr) (List.nodup_append.mp nd).2.1 (fun a ha=>(QaM (dis a ha)).trans (I.ap a (pm.mem_iff.mpr (List.mem_append_right _ ha)))) (fun _ z=>nomatch z) (fun _ z=>nomatch z) (fun v' hv=>by
    obtain ⟨_,d',z⟩:=I.pr _ _ hv
    rw [es] at z;cases z)
  rw [QaR ey] at q
  refine ⟨_,_,v,ey,q,rr,sf,?_⟩
  funext b
  show TL.jn (TL.jn F H f0) H rest b=TL.jn F H fp b
  unfold TL.jn
  by_cases hb:b∈rest
  ·rw [if_pos hb,if_pos (pm.mem_iff.mpr (List.mem_append_right _ hb))]
  ·rw [if_neg hb]
   by_cases hf:b∈f0
   ·rw [if_pos hf,if_pos (pm.mem_iff.mpr (List.mem_append_left _ hf))]
   ·rw [if_neg hf,if_neg fun z=>(List.mem_append.mp (pm.mem_iff.mp z)).elim hf hb]
theorem Qqb {i:Nat}{x:Str}{pos:Pos}(hN:X.N[i]? = some x)(hv:Vis X.env.scope x)(hd:(x == ("__debug__" : Str))=false:=by decide)(hcd:(x == ("__classdict__" : Str))=false:=by decide):PE X (.Name x pos) (tX .V C true E (mV i)):=Qag (QdD hN hv hd hcd) fun σ H Q ⟨F,ρ,τ,fp,I,r⟩=>by
 unfold mV at r
 cases es:ρ[i]? with
 |none=>rw [es] at r;exact r.elim
 |some s=>
  rw [es] at r
  cases s with
  |none=>exact r.elim
  |some s=>
   cases s with
   |frz d=>
    obtain ⟨y,f0,g0,rest,ey,s1,_⟩:=I.cut es
    cases s1 with
    |frz h=>exact ⟨_,ey,r F H fp _ I .refl h⟩
   |own d=>
    obtain ⟨F',fp',v,ey,J,rr,sf,je⟩:=I.frzSlot es
    exact ⟨v,ey,r F' H fp' v J ⟨sf,fun _=>by rw [je];exact Same.refl _⟩ rr⟩
   |par d=>exact r.elim
def mO (i:Nat):ME:=fun ρ=>match ρ[i]? with
 |some (some (.own d))=>.ok (d,ρ.set i none)
 |_=>.no
theorem QpF {i:Nat}{x:Str}{pos:Pos}(hN:X.N[i]? = some x)(hv:Vis X.env.scope x)(hd:(x == ("__debug__" : Str))=false:=by decide)(hcd:(x == ("__classdict__" : Str))=false:=by decide):PE X (.Name x pos) (tX .O C true E (mO i)):=Qag (QdD hN hv hd hcd) fun σ H Q ⟨F,ρ,τ,fp,I,r⟩=>by
 unfold mO at r
 cases es:ρ[i]? with
 |none=>rw [es] at r;exact r.elim
 |some s=>
  rw [es] at r
  obtain ⟨y,f0,g0,rest,ey,s1,pm,w0,w1,cl⟩:=I.cut es
  cases s1 with
  |non=>exact r.elim
  |frz h=>exact r.elim
  |par h=>exact r.elim
  | @own v d f h=>
   have nd:=pm.nodup_iff.mp I.nd
   have q:=cl (F':=F) (H':=H) (x':=some v) (s':=none) (f0':=[]) (g0':=[]) (Same.refl _) I.fh (fun _ _=>rfl) (fun _ z=>z) (fun _ _ _ _ z=>z) (fun b o e=>.inl e) .non (List.nodup_append.mp nd).2.1 (fun a ha=>I.ap a (pm.mem_iff.mpr (List.mem_append_right _ ha))) (fun _ z=>nomatch z) (fun _ z=>nomatch z) (fun v' hv=>by
    obtain ⟨_,d',z⟩:=I.pr _ _ hv
    rw [es] at z;cases z)
   rw [QaR ey] at q
   have q2:=q.push h w0 (fun a ha=>I.ap a (pm.mem_iff.mpr (List.mem_append_left _ ha))) nd
   refine ⟨v,ey,r F H _ v q2 ⟨Same.refl _,fun _=>?_⟩ True.intro⟩
   have e:TL.jn F H fp=TL.jn F H (f0++([]++([]++rest))):=QnG pm
   rw [e]
   exact Same.refl _
theorem QeL (h:PE X e (tX .O C p E m)):PE X e (tX .V C p E m):=Qag h fun σ H Q ⟨F,ρ,τ,fp,I,r⟩=>
 ⟨F,ρ,τ,fp,I,r.mono fun a z F' H' fp' v I' n f=>by
  obtain ⟨F2,rest,J,sf,rr,je⟩:=SI.freeze (show SI C F' H' σ a.2 ((v,a.1) :: τ) fp' from I')
  exact z F2 H' rest v J ⟨n.f.trans sf,fun hp=>by rw [je];exact n.g hp⟩ rr⟩
def mI (m:ME):ME:=fun ρ=>(m ρ).bind fun r=>if r.1.imm=true then .ok r else .no
theorem SI.lo {F H:Hp}{σ:L2.St}{ρ:Rho}{τ:List (V × D)}{fp:List Addr}{v:L2.V}{d:D}(I:SI C F H σ ρ τ fp)(h:R C.K (TL.jn F H fp) v d)(hd:d.imm=true):R C.K F v d:=by
 have q:=R.lo (L:=fp) (fun b hb o e=>by
  rw [QbU hb] at e
  obtain ⟨o',e',z⟩:=I.mem b hb
  rw [e] at e';cases e'
  exact z) h hd
 refine q.same fun b o e=>?_
 by_cases hb:b∈fp
 ·rw [QiJ hb] at e;cases e
 ·rw [QbI hb,QaM hb] at e;exact e
theorem Qsc (h:PE X e (tX .B C p E m)):PE X e (tX .V C p E (mI m)):=Qag h fun σ H Q ⟨F,ρ,τ,fp,I,r⟩=>
 ⟨F,ρ,τ,fp,I,r.split.mono fun a z F' H' fp' v I' n f=>by
  by_cases hi:a.1.imm=true
  ·rw [if_pos hi] at z
   exact z F' H' fp' v I' n (I'.lo f hi)
  ·rw [if_neg hi] at z
   exact z.elim⟩
theorem Qbw (h:PE X e (tX .V C p E m)):PE X e (tX .O C p E (mI m)):=Qag h fun σ H Q ⟨F,ρ,τ,fp,I,r⟩=>
 ⟨F,ρ,τ,fp,I,r.split.mono fun a z F' H' fp' v I' n f=>by
  by_cases hi:a.1.imm=true
  ·rw [if_pos hi] at z
   have J:=SI.push (τ:=τ) I' (R.o (H:=H') f hi) (fun _ z=>nomatch z) (fun _ z=>nomatch z) (by simpa using I'.nd)
   exact z F' H' fp' v J n True.intro
  ·rw [if_neg hi] at z
   exact z.elim⟩
def OpD (K:PySem.W.Frag)(r:R2)(g:D->D->Option D):Prop:=∀ H v u d e res,R K H v d->R K H u e->g d e=some res->∃ w,res.sc=some w/\∀ Q:VK,Q w H->r v u H Q
def mOp (g:D->D->Option D)(ma mb:ME):ME:=fun ρ=>(ma ρ).bind fun r1=>(mb r1.2).bind fun r2=>Rs.of ((g r1.1 r2.1).map fun d=>(d,r2.2))
def Kd.on:Kd->Bool->Bool
 |.V,_=>true
 |.B,p=>p
 |.O,_=>false
 |.S _,_=>false
theorem Kd.stay {F H F1 H1:Hp}{σ:L2.St}{ρ:Rho}{τ':List (L2.V × D)}{fp fp1:List Addr}{v:L2.V}{d:D}{q:Bool}(ok:k.on q=true)(h:k.fc C F H fp σ v d)(n:Nx q F H fp F1 H1 fp1)(I:SI C F1 H1 σ ρ τ' fp1):R C.K (TL.jn F1 H1 fp1) v d:=by
 cases k with
 |V=>exact (R.same n.f h).tj I
 |B=>exact R.same (n.g ok) h
 |O=>cases ok
 |S i=>cases ok
theorem Kd.tk_on {q:Bool}(ok:k.on q=true)(v:L2.V)(d:D)(τ:List (L2.V × D)):k.tk v d τ=τ:=by
 cases k with
 |V=>rfl
 |B=>rfl
 |O=>cases ok
 |S i=>cases ok
theorem QgG {r:R2}{g:D->D->Option D}(hg:OpD C.K r g)(ok:ka.on pb=true)(ok2:kb.on true=true){σ:L2.St}{H:Hp}{Q:VK}(h:tX .V C (pa && pb) E (mOp g ma mb) σ H Q):tOp r (tX ka C pa E ma) (tX kb C pb E mb) σ H Q:=by
 obtain ⟨F,ρ,τ,fp,I,h⟩:=h
 refine ⟨F,ρ,τ,fp,I,h.split.mono fun r1 h1 F1 H1 fp1 v1 I1 n1 f1=>?_⟩
 rw [Kd.tk_on ok] at I1
 refine ⟨F1,r1.2,τ,fp1,I1,h1.split.mono fun r2 h2 F2 H2 fp2 v2 I2 n2 f2=>?_⟩
 rw [Kd.tk_on ok2] at I2
 obtain ⟨z,ez,h3⟩:=h2.of
 obtain ⟨res,eg,rfl⟩:=Option.map_eq_some_iff.mp ez
 obtain ⟨w,ew,hw⟩:=hg H2 v1 v2 _ _ _ (R.top I2 (Kd.stay ok f1 n2 I2)) (R.top I2 (Kd.stay ok2 f2 .refl I2)) eg
 exact hw _ (h3 F2 H2 fp2 w I2 (n1.trans n2) (.sc ew))
theorem Qcy {op:Operator}{r:R2}{g:D->D->Option D}(ho:OpR X (binaryOp op) r)(hg:OpD C.K r g)(ha:PE X a (tX ka C pa E ma))(hb:PE X b (tX kb C pb E mb))(ok:ka.on pb=true:=by rfl)(ok2:kb.on true=true:=by rfl):PE X (.BinOp a op b pos) (tX .V C (pa && pb) E (mOp g ma mb)):=
 Qag (QmD ho ha hb) fun _ _ _ h=>QgG hg ok ok2 h
theorem QfC {op:CmpOp}{r:R2}{g:D->D->Option D}(ho:OpR X (compareOp op) r)(hg:OpD C.K r g)(ha:PE X a (tX ka C pa E ma))(hb:PE X b (tX kb C pb E mb))(hm:behindInMarks op b=false)(ok:ka.on pb=true:=by rfl)(ok2:kb.on true=true:=by rfl):PE X (.Compare a [op] [b] pos) (tX .V C (pa && pb) E (mOp g ma mb)):=
 Qag (Qnd ho ha hb hm) fun _ _ _ h=>QgG hg ok ok2 h
noncomputable def asB:D->Option Bool
 |.bl b=>some b
 |_=>none
def QaE (m:ME):MT:=fun ρ=>(m ρ).bind fun r=>Rs.of ((asB r.1).map fun b=>(b,r.2))
theorem QbN (ok:k.on true=true){σ:L2.St}{H:Hp}{Q:Bool->Hp->Prop}(h:tT C p E (QaE m) σ H Q):Qnx (tX k C p E m) σ H Q:=by
 obtain ⟨F,ρ,τ,fp,I,h⟩:=h
 refine ⟨F,ρ,τ,fp,I,h.split.mono fun r h F1 H1 fp1 v1 I1 n1 f1=>?_⟩
 rw [Kd.tk_on ok] at I1
 obtain ⟨z,ez,h3⟩:=h.of
 obtain ⟨b,eb,rfl⟩:=Option.map_eq_some_iff.mp ez
 have e:r.1=.bl b:=by
  cases q:r.1<;>rw [q] at eb<;>cases eb
  rfl
 have rr:=Kd.stay ok f1 .refl I1
 rw [e] at rr
 exact ⟨b,rr.det_sc rfl,h3 F1 H1 fp1 I1 n1⟩
theorem Qax {op:CmpOp}{r:R2}{g:D->D->Option D}(ho:OpR X (compareOp op) r)(hg:OpD C.K r g)(ha:PE X a (tX ka C pa E ma))(hb:PE X b (tX kb C pb E mb))(hm:behindInMarks op b=false)(ok:ka.on pb=true:=by rfl)(ok2:kb.on true=true:=by rfl):PT X (.Compare a [op] [b] pos) (tT C (pa && pb) E (QaE (mOp g ma mb))):=
 QcM (QmE ho ha hb hm) fun σ H Q h=>by
  have q:=QbN (k:=.V) rfl h
  exact QgG hg ok ok2 q
theorem Qc1 (h:PE X e (tX k C p E m))(ok:k.on true=true:=by rfl)(he:∀ whole,isTrue e X.env whole=(do let v ← whole;standAt e.pos;holding [v] (truthy v)):=by intro _;rfl):PT X e (tT C p E (QaE m)):=
 QcM (QpZ h he) fun _ _ _ h=>QbN ok h
def Qhr (m:MT):MT:=fun ρ=>(m ρ).bind fun r=>.ok (!r.1,r.2)
def Qrs (m u:MT):MT:=fun ρ=>(m ρ).bind fun r=>if r.1=true then u r.2 else .ok (false,r.2)
def mOr (m u:MT):MT:=fun ρ=>(m ρ).bind fun r=>if r.1=true then .ok (true,r.2) else u r.2
variable {mt mu:MT}{rest:List Expr}
theorem Qc5 (h:PT X e (tT C p E mt)):PT X (.UnaryOp .Not e pos) (tT C p E (Qhr mt)):=QcM (QpT h) fun σ H Q ⟨F,ρ,τ,fp,I,r⟩=>
 ⟨F,ρ,τ,fp,I,r.split⟩
theorem Qgm (ha:PT X a (tT C pa E mt))(hb:PW X (.BoolOp .And (b :: rest) pos) (tT C pb E mu)):PW X (.BoolOp .And (a :: b :: rest) pos) (tT C (pa && pb) E (Qrs mt mu)):=fun whole pins s σ H Q J h=>
 QoO ha hb whole pins s σ H Q J (by
  obtain ⟨F,ρ,τ,fp,I,r⟩:=h
  refine ⟨F,ρ,τ,fp,I,r.split.mono fun r1 h1 F1 H1 fp1 I1 n1=>?_⟩
  by_cases c:r1.1=true
  ·rw [if_pos c] at h1 ⊢
   exact ⟨F1,r1.2,τ,fp1,I1,h1.mono fun r2 h2 F2 H2 fp2 I2 n2=>h2 F2 H2 fp2 I2 (n1.trans n2)⟩
  ·rw [if_neg c] at h1 ⊢
   exact h1 F1 H1 fp1 I1 (n1.weak fun z=>(Bool.and_eq_true_iff.mp z).1))
theorem QcH (ha:PT X a (tT C pa E mt))(hb:PW X (.BoolOp .Or (b :: rest) pos) (tT C pb E mu)):PW X (.BoolOp .Or (a :: b :: rest) pos) (tT C (pa && pb) E (mOr mt mu)):=fun whole pins s σ H Q J h=>
 Qst ha hb whole pins s σ H Q J (by
  obtain ⟨F,ρ,τ,fp,I,r⟩:=h
  refine ⟨F,ρ,τ,fp,I,r.split.mono fun r1 h1 F1 H1 fp1 I1 n1=>?_⟩
  by_cases c:r1.1=true
  ·rw [if_pos c] at h1 ⊢
   exact h1 F1 H1 fp1 I1 (n1.weak fun z=>(Bool.and_eq_true_iff.mp z).1)
  ·rw [if_neg c] at h1 ⊢
   exact ⟨F1,r1.2,τ,fp1,I1,h1.mono fun r2 h2 F2 H2 fp2 I2 n2=>h2 F2 H2 fp2 I2 (n1.trans n2)⟩)
theorem Qc6 {op:BoolOp}(ha:PT X a (tT C p E mt)):PW X (.BoolOp op [a] pos) (tT C p E mt):=by
 cases op with
 |And=>exact Qmm ha
 |Or=>exact QoT ha
def QiQ (ma mb:ME):ME:=fun ρ=>(ma ρ).bind fun r=>(Rs.of (asB r.1)).bind fun c=>if c=true then mb r.2 else .ok (.bl false,r.2)
def Qsn (m:ME):ME:=fun ρ=>(m ρ).bind fun r=>Rs.of ((asB r.1).map fun b=>(.bl (!b),r.2))
theorem Qlz {d:D}{b:Bool}(h:asB d=some b):d=.bl b:=by
 cases d<;>cases h
 rfl
theorem Qr4 {op:BoolOp}(h:PE X a (tX k C p E m)):PE X (.BoolOp op [a] pos) (tX k C p E m):=Qqx h
theorem Qp2 (ha:PE X a (tX ka C pa E ma))(hb:PE X (.BoolOp .And (b :: rest) pos) (tX .V C pb E mb))(ok:ka.on true=true:=by rfl):PE X (.BoolOp .And (a :: b :: rest) pos) (tX .V C (pa && pb) E (QiQ ma mb)):=Qag (Qoe ha hb) fun σ H Q ⟨F,ρ,τ,fp,I,r⟩=>by
 refine ⟨F,ρ,τ,fp,I,r.split.mono fun r1 h1 F1 H1 fp1 v1 I1 n1 f1=>?_⟩
 rw [Kd.tk_on ok] at I1
 obtain ⟨c,ec,h2⟩:=h1.split.of
 have rr:=Kd.stay ok f1 .refl I1
 rw [Qlz ec] at rr
 refine ⟨c,rr.det_sc rfl,?_⟩
 by_cases hc:c=true
 ·rw [if_pos hc] at h2 ⊢
  exact ⟨F1,r1.2,τ,fp1,I1,h2.mono fun r2 h3 F2 H2 fp2 v2 I2 n2 f2=>h3 F2 H2 fp2 v2 I2 (n1.trans n2) f2⟩
 ·rw [if_neg hc] at h2 ⊢
  exact h2 F1 H1 fp1 _ I1 (n1.weak fun z=>(Bool.and_eq_true_iff.mp z).1) (.sc rfl)
def QtL (mt:MT)(ma mb:ME):ME:=fun ρ=>(mt ρ).bind fun r=>if r.1=true then ma r.2 else mb r.2
end
section
variable {X:Cx}{C:Cn}{E:XE}{p pa pb:Bool}{e a b:Expr}{es:List Expr}{m ma mb:ME}{mr:MA}{pos:Pos}{k kb:Kd}{ks:List Kd}
def mS (i:Nat):ME:=fun ρ=>match ρ[i]? with
 |some (some (.own d))=>.ok (d,ρ)
 |some (some (.par d))=>.ok (d,ρ)
 |_=>.no
theorem Qql {i:Nat}{x:Str}{pos:Pos}(hN:X.N[i]? = some x)(hv:Vis X.env.scope x)(hd:(x == ("__debug__" : Str))=false:=by decide)(hcd:(x == ("__classdict__" : Str))=false:=by decide):PE X (.Name x pos) (tX (.S i) C true E (mS i)):=Qag (QdD hN hv hd hcd) fun σ H Q ⟨F,ρ,τ,fp,I,r⟩=>by
 unfold mS at r
 cases es:ρ[i]? with
 |none=>rw [es] at r;exact r.elim
 |some s=>
  rw [es] at r
  obtain ⟨y,f0,g0,rest,ey,s1,_⟩:=I.cut es
  cases s1 with
  |non=>exact r.elim
  |frz h=>exact r.elim
  |own h=>exact ⟨_,ey,r F H fp _ I .refl ey⟩
  |par h=>exact ⟨_,ey,r F H fp _ I .refl ey⟩
def Kd.ona:Kd->Bool->Bool
 |.B,p=>p
 |_,_=>true
def QaL:MA:=fun ρ=>.ok ([],ρ)
def Qai (m:ME)(mr:MA):MA:=fun ρ=>(m ρ).bind fun r=>(mr r.2).bind fun q=>.ok (r.1 :: q.1,q.2)
theorem Qab:PA X [] (tA [] C true E QaL):=QiO Qgs fun σ H Q ⟨F,ρ,τ,fp,I,r⟩=>r F H fp [] I .refl .nil
theorem Kd.fc_on {F H F1 H1:Hp}{fp fp1:List Addr}{σ:L2.St}{v:L2.V}{d:D}{q:Bool}(ok:k.ona q=true)(h:k.fc C F H fp σ v d)(n:Nx q F H fp F1 H1 fp1):k.fc C F1 H1 fp1 σ v d:=by
 cases k with
 |V=>exact R.same n.f h
 |B=>exact R.same (n.g ok) h
 |O=>exact True.intro
 |S i=>exact h
theorem Qaa (ha:PE X e (tX k C pa E m))(hr:PA X es (tA ks C pb E mr))(ok:k.ona pb=true:=by rfl)(hs:starEach (e :: es) X.env=(false,eval e X.env) :: starEach es X.env:=by rfl):PA X (e :: es) (tA (k :: ks) C (pa && pb) E (Qai m mr)):=QiO (Qeg ha hr hs) fun σ H Q ⟨F,ρ,τ,fp,I,r⟩=>
 ⟨F,ρ,τ,fp,I,r.split.mono fun r1 h1 F1 H1 fp1 v1 I1 n1 f1=>⟨F1,r1.2,_,fp1,I1,h1.split.mono fun r2 h2 F2 H2 fp2 vs I2 n2 f2=>
  h2 F2 H2 fp2 (v1 :: vs) I2 (n1.trans n2) (.cons (Kd.fc_on ok f1 n2) f2)⟩⟩
def rdL:List Kd->Bool
 | []=>true
 |.V :: r=>rdL r
 |.B :: r=>rdL r
 |_=>false
def knL:List Kd->Bool
 | []=>true
 |.V :: r=>knL r
 |_=>false
theorem QaY:∀ {ks:List Kd} {vs:List L2.V} {ds:List D} {τ:List (L2.V × D)},rdL ks=true->tkL ks vs ds τ=τ
 | [],_,_,_,_=>by unfold tkL;rfl
 |.V :: ks,[],_,_,_=>by unfold tkL;rfl
 |.V :: ks,_ :: _,[],_,_=>by unfold tkL;rfl
 |.V :: ks,v :: vs,d :: ds,τ,h=>by unfold tkL;exact QaY (ks:=ks) h
 |.B :: ks,[],_,_,_=>by unfold tkL;rfl
 |.B :: ks,_ :: _,[],_,_=>by unfold tkL;rfl
 |.B :: ks,v :: vs,d :: ds,τ,h=>by unfold tkL;exact QaY (ks:=ks) h
 |.O :: ks,_,_,_,h=>by cases h
 |.S i :: ks,_,_,_,h=>by cases h
theorem FcL.rd {F H:Hp}{fp:List Addr}{σ:L2.St}{ρ:Rho}{τ:List (L2.V × D)}(I:SI C F H σ ρ τ fp){ks:List Kd}{vs:List L2.V}{ds:List D}(h:FcL C F H fp σ ks vs ds)(q:rdL ks=true):RL C.K (jn F H fp) vs ds:=by
 induction h with
 |nil=>exact .nil
 | @cons k _ _ _ _ _ h r ih=>
  cases k with
  |V=>exact .cons (R.tj I h) (ih q)
  |B=>exact .cons h (ih q)
  |O=>cases q
  |S _=>cases q
theorem FcL.kn {F H:Hp}{fp:List Addr}{σ:L2.St}{ks:List Kd}{vs:List L2.V}{ds:List D}(h:FcL C F H fp σ ks vs ds)(q:knL ks=true):RL C.K F vs ds:=by
 induction h with
 |nil=>exact .nil
 | @cons k _ _ _ _ _ h r ih=>
  cases k with
  |V=>exact .cons h (ih q)
  |B=>cases q
  |O=>cases q
  |S _=>cases q
theorem Qcl:∀ {ks:List Kd},knL ks=true->rdL ks=true
 | [],_=>rfl
 |.V :: ks,h=>Qcl (ks:=ks) h
 |.B :: ks,h=>by cases h
 |.O :: ks,h=>by cases h
 |.S i :: ks,h=>by cases h
def QcQ (K:PySem.W.Frag)(r:List L2.V->Hp->VK->Prop)(g:List D->Option D):Prop:=∀ H vs ds res,RL K H vs ds->g ds=some res->∃ w,res.sc=some w/\∀ Q:VK,Q w H->r vs H Q
def Qas (g:List D->Option D)(mr:MA):ME:=fun ρ=>(mr ρ).bind fun r=>Rs.of ((g r.1).map fun d=>(d,r.2))
theorem QjL {r:List L2.V->Hp->VK->Prop}{g:List D->Option D}(hg:QcQ C.K r g)(ok:rdL ks=true){σ:L2.St}{H:Hp}{Q:VK}(h:tX .V C p E (Qas g mr) σ H Q):tCB r (tA ks C p E mr) σ H Q:=by
 obtain ⟨F,ρ,τ,fp,I,h⟩:=h
 refine ⟨F,ρ,τ,fp,I,h.split.mono fun r1 h1 F1 H1 fp1 vs I1 n1 f1=>?_⟩
 rw [QaY ok] at I1
 obtain ⟨z,ez,h3⟩:=h1.of
 obtain ⟨res,eg,rfl⟩:=Option.map_eq_some_iff.mp ez
 obtain ⟨w,ew,hw⟩:=hg H1 vs _ _ (RL.same (QbD I1.fh) (f1.rd I1 ok)) eg
 exact hw _ (h3 F1 H1 fp1 w I1 n1 (.sc ew))
theorem Qaq {x:Str}{px:Pos}{id:String}{r:List L2.V->Hp->VK->Prop}{g:List D->Option D}(hc:Qbo X (.builtin id) r)(hg:QcQ C.K r g)(hm:X.mg x=none)(hv:bootBuiltins x=some (.builtin id))(ha:PA X (e :: es) (tA ks C p E mr))(ok:rdL ks=true:=by rfl)(hgl:Gl X x:=by rfl)(hn:x ≠ "__name__" := by decide)(hdb:(x == ("__debug__" : Str))=false:=by decide)
  (he:starEach (e :: es) X.env=(false,eval e X.env) :: starEach es X.env:=by rfl) (hpl:(backTo pos (starEach es X.env)).any (·.1)=false:=by rfl):PE X (.Call (.Name x px) (e :: es) [] pos) (tX .V C p E (Qas g mr)):=
 Qag (Qkv hc hgl hm hv ha hn hdb he hpl) fun _ _ _ h=>QjL hg ok h
theorem Qek {x:Str}{px:Pos}{T:String}{r:List L2.V->Hp->VK->Prop}{g:List D->Option D}(hc:Qbo X (.type T) r)(hg:QcQ C.K r g)(hm:X.mg x=none)(hv:bootBuiltins x=some (.type T))(ha:PA X (e :: es) (tA ks C p E mr))(ok:rdL ks=true:=by rfl)(hgl:Gl X x:=by rfl)(hn:x ≠ "__name__" := by decide)(hdb:(x == ("__debug__" : Str))=false:=by decide)
  (he:starEach (e :: es) X.env=(false,eval e X.env) :: starEach es X.env:=by rfl) (hpl:(backTo pos (starEach es X.env)).any (·.1)=false:=by rfl):PE X (.Call (.Name x px) (e :: es) [] pos) (tX .V C p E (Qas g mr)):=
 Qag (QfE hc hgl hm hv ha hn hdb he hpl) fun _ _ _ h=>QjL hg ok h
theorem Qd5 {F H:Hp}{fp:List Addr}{q:Addr}{o:HO}{σ:L2.St}{ρ:Rho}{τ:List (L2.V × D)}(I:SI C F H σ ρ τ fp)(hq:H q=none):Same (jn F H fp) (jn (upd F q o) (upd H q o) fp):=fun b ob e=>by
 by_cases hb:b∈fp
 ·rw [QbU hb] at e ⊢;exact Same.upd hq b ob e
 ·rw [QaM hb] at e ⊢;exact Same.upd (I.fh.free hq) b ob e
theorem Qgx {F H:Hp}{fp:List Addr}{q:Addr}{o:HO}{σ:L2.St}{ρ:Rho}{τ:List (L2.V × D)}(I:SI C F H σ ρ τ fp)(hq:H q=none):Same (jn F H fp) (jn F (upd H q o) ([q]++fp)):=fun b ob e=>by
 have fq:=I.fh.free hq
 have e':=QbD I.fh b ob e
 have nb:b≠q:=Qaj e' hq
 by_cases hb:b∈fp
 ·rw [QbU (List.mem_append_right _ hb),Qad nb];exact e'
 ·rw [QaM hb] at e
  rw [QaM (by simp [hb,nb])];exact e
theorem SI.newList {F H:Hp}{fp:List Addr}{q:Addr}{vs:List L2.V}{ds:List D}{σ:L2.St}{ρ:Rho}{τ:List (L2.V × D)}(I:SI C F H σ ρ τ fp)(hq:H q=none)(r:RL C.K F vs ds)(hi:D.immL ds=true):SI C F (upd H q (.lst vs)) σ ρ ((.ref q,.lst ds) :: τ) ([q]++fp):=by
 have J:=I.lay0 (o:=.lst vs) hq
 have nq:q∉fp:=fun z=>by
  obtain ⟨o,e,_⟩:=I.mem q z
  rw [hq] at e;cases e
 refine J.push (f:=[q]) (.mt (t:=.lst) (show upd H q (.lst vs) q=some (.lst vs) from Qah) (RL.o r hi)) (fun a ha=>?_) (fun a ha=>?_) (List.nodup_append.mpr ⟨by simp,I.nd,fun x hx y hy z=>?_⟩)
 ·rw [List.mem_singleton.mp ha];exact I.dm q hq
 ·rw [List.mem_singleton.mp ha];exact I.fh.free hq
 ·subst z;rw [List.mem_singleton.mp hx] at hy;exact nq hy
def QsT (mr:MA):ME:=fun ρ=>(mr ρ).bind fun r=>if r.1.length<=sizeLine then .ok (.lst r.1,r.2) else .no
def Qki (mr:MA):ME:=fun ρ=>(mr ρ).bind fun r=>if r.1.length<=sizeLine then .ok (.tup r.1,r.2) else .no
def Qnp (mr:MA):ME:=fun ρ=>(mr ρ).bind fun r=>if r.1.length<=sizeLine then (if D.immL r.1=true then .ok (.lst r.1,r.2) else .no) else .no
theorem Qa9 {x1:Nat}(h:PA X es (tA ks C p E mr))(ok:knL ks=true:=by rfl):PE X (.Tuple es x1 pos) (tX .V C p E (Qki mr)):=Qag (Qps h) fun σ H Q ⟨F,ρ,τ,fp,I,h⟩=>by
 refine ⟨F,ρ,τ,fp,I,h.split.mono fun r1 h1 F1 H1 fp1 vs I1 n1 f1=>?_⟩
 rw [QaY (Qcl ok)] at I1
 have rl:=f1.kn ok
 by_cases hz:r1.1.length<=sizeLine
 ·rw [if_pos hz] at h1
  refine ⟨by rw [rl.length];exact hz,fun q hq=>?_⟩
  have s:=Same.upd (o:=HO.tup vs) (I1.fh.free hq)
  exact h1 _ _ fp1 _ (I1.lay hq) ((n1.trans (q:=true) ⟨s,fun _=>Qd5 I1 hq⟩).weak fun z=>by simp [z]) (.nd (t:=.tup) Qah (rl.same s))
 ·rw [if_neg hz] at h1;exact h1.elim
theorem Qb1 (h:PA X es (tA ks C p E mr))(ok:knL ks=true:=by rfl):PE X (.List es pos) (tX .V C p E (QsT mr)):=Qag (Qlm h) fun σ H Q ⟨F,ρ,τ,fp,I,h⟩=>by
 refine ⟨F,ρ,τ,fp,I,h.split.mono fun r1 h1 F1 H1 fp1 vs I1 n1 f1=>?_⟩
 rw [QaY (Qcl ok)] at I1
 have rl:=f1.kn ok
 by_cases hz:r1.1.length<=sizeLine
 ·rw [if_pos hz] at h1
  refine ⟨by rw [rl.length];exact hz,fun q hq=>?_⟩
  have s:=Same.upd (o:=HO.lst vs) (I1.fh.free hq)
  exact h1 _ _ fp1 _ (I1.lay hq) ((n1.trans (q:=true) ⟨s,fun _=>Qd5 I1 hq⟩).weak fun z=>by simp [z]) (.nd (t:=.lst) (.inl (.inl Qah)) (rl.same s))
 ·rw [if_neg hz] at h1;exact h1.elim
theorem Qgz (h:PA X es (tA ks C p E mr))(ok:rdL ks=true:=by rfl):PE X (.List es pos) (tX .O C p E (Qnp mr)):=Qag (Qlm h) fun σ H Q ⟨F,ρ,τ,fp,I,h⟩=>by
 refine ⟨F,ρ,τ,fp,I,h.split.mono fun r1 h1 F1 H1 fp1 vs I1 n1 f1=>?_⟩
 rw [QaY ok] at I1
 have rl:=f1.rd I1 ok
 by_cases hz:r1.1.length<=sizeLine
 ·rw [if_pos hz] at h1
  by_cases hi:D.immL r1.1=true
  ·rw [if_pos hi] at h1
   refine ⟨by rw [rl.length];exact hz,fun q hq=>?_⟩
   have rl':RL C.K F1 vs r1.1:=by
    have q:=RL.lo (L:=fp1) (fun b hb o e=>by
     rw [QbU hb] at e
     obtain ⟨o',e',z⟩:=I1.mem b hb
     rw [e] at e';cases e'
     exact z) rl hi
    refine q.same fun b o e=>?_
    by_cases hb:b∈fp1
    ·rw [QiJ hb] at e;cases e
    ·rw [QbI hb,QaM hb] at e;exact e
   exact h1 _ _ _ _ (I1.newList hq rl' hi) ((n1.trans (q:=true) ⟨Same.refl _,fun _=>Qgx I1 hq⟩).weak fun z=>by simp [z]) True.intro
  ·rw [if_neg hi] at h1;exact h1.elim
 ·rw [if_neg hz] at h1;exact h1.elim
theorem SI.loL {F H:Hp}{σ:L2.St}{ρ:Rho}{τ:List (L2.V × D)}{fp:List Addr}{vs:List L2.V}{ds:List D}(I:SI C F H σ ρ τ fp)(h:RL C.K (jn F H fp) vs ds)(hd:D.immL ds=true):RL C.K F vs ds:=by
 have q:=RL.lo (L:=fp) (fun b hb o e=>by
  rw [QbU hb] at e
  obtain ⟨o',e',z⟩:=I.mem b hb
  rw [e] at e';cases e'
  exact z) h hd
 refine q.same fun b o e=>?_
 by_cases hb:b∈fp
 ·rw [QiJ hb] at e;cases e
 ·rw [QbI hb,QaM hb] at e;exact e
noncomputable def Qhn:List D->Option (List D)
 | [.nd .lst ds]=>some ds
 | [.nd .tup ds]=>some ds
 |_=>none
theorem Qms {ds ys:List D}(h:Qhn ds=some ys):ds=[.nd .lst ys]\/ds=[.nd .tup ys]:=by
 unfold Qhn at h
 split at h
 ·cases h;exact .inl rfl
 ·cases h;exact .inr rfl
 ·cases h
theorem R.inv {K:PySem.W.Frag}{F:Hp}{v:L2.V}{t:Tag}{ds:List D}(r:R K F v (.nd t ds)):∃ a vs,v=.ref a/\At K F a t vs/\RL K F vs ds:=by
 cases r with
 |sc e=>cases e
 |nd h r=>exact ⟨_,_,rfl,h,r⟩
theorem RL.one {K:PySem.W.Frag}{F:Hp}{vs:List L2.V}{d:D}(r:RL K F vs [d]):∃ v,vs=[v]/\R K F v d:=by
 cases r with
 |cons h t=>cases t;exact ⟨_,rfl,h⟩
theorem RL.two {K:PySem.W.Frag}{F:Hp}{vs:List L2.V}{d e:D}(r:RL K F vs [d,e]):∃ v u,vs=[v,u]/\R K F v d/\R K F u e:=by
 cases r with
 |cons h t=>obtain ⟨u,rfl,h'⟩:=t.one;exact ⟨_,_,rfl,h,h'⟩
theorem QgC {K:PySem.W.Frag}{H:Hp}{vs:List L2.V}{ds ys:List D}(r:RL K H vs ds)(g:Qhn ds=some ys):∃ q us,vs=[.ref q]/\(At K H q .lst us\/At K H q .tup us)/\RL K H us ys:=by
 rcases Qms g with rfl | rfl
 ·obtain ⟨v,rfl,h⟩:=r.one
  obtain ⟨a,us,rfl,h1,h2⟩:=h.inv
  exact ⟨a,us,rfl,.inl h1,h2⟩
 ·obtain ⟨v,rfl,h⟩:=r.one
  obtain ⟨a,us,rfl,h1,h2⟩:=h.inv
  exact ⟨a,us,rfl,.inr h1,h2⟩
theorem Qhk:bootBuiltins "tuple" = some (.type "tuple"):=by decide +kernel
def Qpw (mr:MA):ME:=fun ρ=>(mr ρ).bind fun r=>(Rs.of (Qhn r.1)).bind fun ds=>if D.immL ds=true then .ok (.lst ds,r.2) else .no
def Qqo (mr:MA):ME:=fun ρ=>(mr ρ).bind fun r=>(Rs.of (Qhn r.1)).bind fun ds=>.ok (.tup ds,r.2)
theorem QgA {px:Pos}(hm:X.mg "tuple" = none)(hK:C.K=X.K)(ha:PA X [e] (tA ks C p E mr))(ok:knL ks=true:=by rfl)(hgl:Gl X "tuple" := by rfl)(he:starEach [e] X.env=(false,eval e X.env) :: starEach [] X.env:=by rfl)(hpl:(backTo pos (starEach [] X.env)).any (·.1)=false:=by rfl) :
  PE X (.Call (.Name "tuple" px) [e] [] pos) (tX .V C p E (Qqo mr)):=Qag (QfE QeC hgl hm Qhk ha (by decide) (by decide) he hpl) fun σ H Q ⟨F,ρ,τ,fp,I,h⟩=>by
 refine ⟨F,ρ,τ,fp,I,h.split.mono fun r1 h1 F1 H1 fp1 vs I1 n1 f1=>?_⟩
 rw [QaY (Qcl ok)] at I1
 obtain ⟨ds,eg,h2⟩:=h1.split.of
 obtain ⟨q,us,rfl,hs,r⟩:=QgC (f1.kn ok) eg
 refine ⟨q,us,rfl,?_⟩
 rcases hs with hs | hs
 ·refine .inl ⟨by rw [← hK];exact (At.same hs I1.fh).sql,fun l hl=>?_⟩
  have s:=Same.upd (o:=HO.tup us) (I1.fh.free hl)
  exact h2 _ _ fp1 _ (I1.lay hl) ((n1.trans (q:=true) ⟨s,fun _=>Qd5 I1 hl⟩).weak fun z=>by simp [z]) (.nd (t:=.tup) Qah (r.same s))
 ·exact .inr ⟨by rw [← hK];exact (At.same hs I1.fh).sqt,h2 F1 H1 fp1 _ I1 n1 (.nd (t:=.tup) hs r)⟩
def gIx:D->D->Option D
 |.nd .lst ds,.int i=>atI ds i
 |.nd .tup ds,.int i=>atI ds i
 |_,_=>none
theorem QlF {K:PySem.W.Frag}{F:Hp}{vs:List L2.V}{ds:List D}{i:Int}{d:D}(r:RL K F vs ds)(h:atI ds i=some d):∃ v,atI vs i=some v/\R K F v d:=by
 unfold atI at h ⊢
 rw [r.length]
 cases q:ixN ds.length i with
 |none=>rw [q] at h;cases h
 |some j=>
  rw [q] at h
  obtain ⟨v,e,rv⟩:=r.get (i:=j) h
  exact ⟨v,e,rv⟩
theorem Qow {d e x:D}(h:gIx d e=some x):∃ ds i,(d=.nd .lst ds\/d=.nd .tup ds)/\e=.int i/\atI ds i=some x:=by
 unfold gIx at h
 split at h
 ·exact ⟨_,_,.inl rfl,rfl,h⟩
 ·exact ⟨_,_,.inr rfl,rfl,h⟩
 ·cases h
theorem Qr5 {K:PySem.W.Frag}{F H:Hp}{v u:L2.V}{d e x:D}(hs:Same F H)(r:R K F v d)(q:R K H u e)(g:gIx d e=some x):∃ w,R K F w x/\∀ Q:VK,Q w H->rIx K v u H Q:=by
 obtain ⟨ds,i,hd,rfl,ha⟩:=Qow g
 obtain rfl:u=.int i:=q.det_sc rfl
 rcases hd with rfl | rfl
 ·obtain ⟨a,vs,rfl,h1,h2⟩:=r.inv
  obtain ⟨w,ew,rw'⟩:=QlF h2 ha
  exact ⟨w,rw',fun Q hq=>.inl ⟨a,vs,i,w,rfl,rfl,(At.same h1 hs).sql,ew,hq⟩⟩
 ·obtain ⟨a,vs,rfl,h1,h2⟩:=r.inv
  obtain ⟨w,ew,rw'⟩:=QlF h2 ha
  exact ⟨w,rw',fun Q hq=>.inr (.inl ⟨a,vs,i,w,rfl,rfl,(At.same h1 hs).sqt,ew,hq⟩)⟩
theorem Qa6 (hK:C.K=X.K)(ha:PE X a (tX .V C pa E ma))(hb:PE X b (tX kb C pb E mb))(ok2:kb.on true=true:=by rfl)(hs:Qf9 b:=by intro _ _;rfl):PE X (.Subscript a b pos) (tX .V C (pa && pb) E (mOp gIx ma mb)):=Qag (Qpf QpC ha hb hs) fun σ H Q ⟨F,ρ,τ,fp,I,h⟩=>by
 refine ⟨F,ρ,τ,fp,I,h.split.mono fun r1 h1 F1 H1 fp1 v1 I1 n1 f1=>?_⟩
 refine ⟨F1,r1.2,τ,fp1,I1,h1.split.mono fun r2 h2 F2 H2 fp2 v2 I2 n2 f2=>?_⟩
 rw [Kd.tk_on ok2] at I2
 obtain ⟨z,ez,h3⟩:=h2.of
 obtain ⟨res,eg,rfl⟩:=Option.map_eq_some_iff.mp ez
 obtain ⟨w,rw',hw⟩:=Qr5 I2.fh (R.same n2.f f1) (R.top I2 (Kd.stay ok2 f2 .refl I2)) eg
 rw [← hK]
 exact hw _ (h3 F2 H2 fp2 w I2 (n1.trans n2) rw')
end
inductive Fl where
 |nx | rt (d:D) | bk | ct
abbrev MS:=Rho->Rs (Fl × Rho)
def RunS (C:Cn)(E:XE){α:Type}(r:Rs α)(k:α->Prop):Prop:=match r with
 |.ok a=>k a
 |.ex c ρ=>∀ F H σ fp,SI C F H σ ρ [] fp->EX (E σ) c H
 |.no=>False
section
variable {C:Cn}{E:XE}{σ:L2.St}{α β:Type}
theorem RunS.run {r:Rs α}{k:α->Prop}(h:RunS C E r k):Run C E σ r k:=by
 cases r with
 |ok a=>exact h
 |ex c ρ=>exact fun F H fp I=>h F H σ fp I
 |no=>exact h
theorem RunS.mono {r:Rs α}{k k':α->Prop}(h:RunS C E r k)(f:∀ a,k a->k' a):RunS C E r k':=by
 cases r with
 |ok a=>exact f a h
 |ex c ρ=>exact h
 |no=>exact h
theorem RunS.split {r:Rs α}{f:α->Rs β}{k:β->Prop}(h:RunS C E (r.bind f) k):RunS C E r fun a=>RunS C E (f a) k:=by
 cases r with
 |ok a=>exact h
 |ex c ρ=>exact h
 |no=>exact h
theorem RunS.of {o:Option α}{k:α->Prop}(h:RunS C E (Rs.of o) k):∃ a,o=some a/\k a:=by
 cases o with
 |none=>exact h.elim
 |some a=>exact ⟨a,rfl,h⟩
end
def Out (rk:Kd)(C:Cn)(D:Ends)(F0:Hp)(f:Fl)(ρ:Rho):Prop:=match f with
 |.nx=>∀ F H σ fp,Same F0 F->SI C F H σ ρ [] fp->D.nx σ H
 |.rt d=>∀ F H σ fp v,Same F0 F->SI C F H σ ρ (rk.tk v d []) fp->rk.fc C F H fp σ v d->D.rt v H
 |.bk=>∀ F H σ fp,Same F0 F->SI C F H σ ρ [] fp->D.bk σ H
 |.ct=>∀ F H σ fp,Same F0 F->SI C F H σ ρ [] fp->D.ct σ H
theorem Out.mono {rk:Kd}{C:Cn}{D:Ends}{F0 F1:Hp}{f:Fl}{ρ:Rho}(s:Same F0 F1)(h:Out rk C D F0 f ρ):Out rk C D F1 f ρ:=by
 cases f with
 |nx=>exact fun F H σ fp z=>h F H σ fp (s.trans z)
 |rt d=>exact fun F H σ fp v z=>h F H σ fp v (s.trans z)
 |bk=>exact fun F H σ fp z=>h F H σ fp (s.trans z)
 |ct=>exact fun F H σ fp z=>h F H σ fp (s.trans z)
def tS (rk:Kd)(C:Cn)(E:XE)(m:MS):TS:=fun D σ H=>∃ F ρ fp,SI C F H σ ρ [] fp/\RunS C E (m ρ) fun r=>Out rk C D F r.1 r.2
section
variable {X:Cx}{C:Cn}{E:XE}{p:Bool}{e a b:Expr}{es:List Expr}{m mb:ME}{mr:MA}{mt:MT}{ms mu:MS}{pos:Pos}{k rk:Kd}{ks:List Kd}{st:Stmt}{rest:List Stmt}
def QdQ:MS:=fun ρ=>.ok (.nx,ρ)
def QbQ (m u:MS):MS:=fun ρ=>(m ρ).bind fun r=>match r.1 with
 |.nx=>u r.2
 |f=>.ok (f,r.2)
theorem QaV:PSs X [] (tS rk C E QdQ):=Qer Ql2 fun D σ H ⟨F,ρ,fp,I,h⟩=>h F H σ fp (Same.refl F) I
theorem Qaf (h1:PS X st (tS rk C E ms))(h2:PSs X rest (tS rk C E mu)):PSs X (st :: rest) (tS rk C E (QbQ ms mu)):=Qer (QgQ h1 h2) fun D σ H ⟨F,ρ,fp,I,h⟩=>by
 refine ⟨F,ρ,fp,I,h.split.mono fun r hr=>?_⟩
 obtain ⟨f,ρ1⟩:=r
 cases f with
 |nx=>exact fun F1 H1 σ1 fp1 s1 I1=>⟨F1,ρ1,fp1,I1,hr.mono fun q z=>z.mono s1⟩
 |rt d=>exact hr
 |bk=>exact hr
 |ct=>exact hr
theorem Qam (h1:PS X st (tS rk C E ms)):PSs X [st] (tS rk C E ms):=Qin h1
def QfH (m:ME):MS:=fun ρ=>(m ρ).bind fun r=>.ok (.rt r.1,r.2)
theorem Qaw (h:PE X e (tX rk C p E m)):PS X (.Return (some e) pos) (tS rk C E (QfH m)):=Qa3 (Qp3 h) fun D σ H ⟨F,ρ,fp,I,h⟩=>
 ⟨F,ρ,[],fp,I,h.split.run.mono fun r hr F1 H1 fp1 v I1 n1 f1=>hr F1 H1 σ fp1 v n1.f I1 f1⟩
def Qsp (m:ME):MS:=fun ρ=>(m ρ).bind fun r=>.ok (.nx,r.2)
def mIf (mt:MT)(m u:MS):MS:=fun ρ=>(mt ρ).bind fun r=>if r.1=true then m r.2 else u r.2
theorem QcY {c:Expr}{sa sb:List Stmt}(hc:PT X c (tT C p E mt))(ha:PSs X sa (tS rk C E ms))(hb:PSs X sb (tS rk C E mu)):PS X (.If c sa sb pos) (tS rk C E (mIf mt ms mu)):=Qa3 (Qsj hc ha hb) fun D σ H ⟨F,ρ,fp,I,h⟩=>
 ⟨F,ρ,[],fp,I,h.split.run.mono fun r hr F1 H1 fp1 I1 n1=>by
  by_cases cc:r.1=true
  ·rw [if_pos cc] at hr ⊢;exact ⟨F1,r.2,fp1,I1,hr.mono fun q z=>z.mono n1.f⟩
  ·rw [if_neg cc] at hr ⊢;exact ⟨F1,r.2,fp1,I1,hr.mono fun q z=>z.mono n1.f⟩⟩
noncomputable def setF (ρ:Rho)(i:Nat)(d:D):Option Rho:=match ρ[i]? with
 |some (some (.par _))=>none
 |some _=>some (ρ.set i (some (.frz d)))
 |none=>none
noncomputable def setW (ρ:Rho)(i:Nat)(d:D):Option Rho:=match ρ[i]? with
 |some (some (.par _))=>none
 |some _=>some (ρ.set i (some (.own d)))
 |none=>none
theorem SI.setF {F H:Hp}{σ:L2.St}{ρ ρ':Rho}{τ:List (L2.V × D)}{fp:List Addr}{i:Nat}{v:L2.V}{d:D}(I:SI C F H σ ρ τ fp)(r:R C.K F v d)(h:setF ρ i d=some ρ'):∃ fp',SI C F H (σ.set i (some v)) ρ' τ fp'/\∀ a∈fp',a∈fp:=by
 unfold TL.setF at h
 cases es:ρ[i]? with
 |none=>rw [es] at h;cases h
 |some s=>
  rw [es] at h
  obtain ⟨x,f0,g0,rest,ex,s1,pm,w0,w1,cl⟩:=I.cut es
  have nd:=pm.nodup_iff.mp I.nd
  have fin:(∀ v',(i,v')∈C.pars->False)->∃ fp',SI C F H (σ.set i (some v)) (ρ.set i (some (.frz d))) τ fp'/\∀ a∈fp',a∈fp:=fun np=>
   ⟨_,cl (x':=some v) (s':=some (.frz d)) (f0':=[]) (g0':=[]) (Same.refl F) I.fh (fun _ _=>rfl) (fun _ z=>z) (fun _ _ _ _ z=>z) (fun _ _ z=>.inl z) (.frz r) (List.nodup_append.mp (List.nodup_append.mp nd).2.1).2.1 (fun a ha=>I.ap a (pm.mem_iff.mpr (by simp at ha;simp [ha]))) (fun _ z=>nomatch z) (fun _ z=>nomatch z) (fun v' hv=>(np v' hv).elim),fun a ha=>pm.mem_iff.mpr (by simp at ha;simp [ha])⟩
  have np:∀ (s0:Option Sl),s=s0->(∀ q,s0≠some (.par q))->∀ v',(i,v')∈C.pars->False:=fun s0 e0 n0 v' hv=>by
   obtain ⟨_,q,z⟩:=I.pr _ _ hv
   rw [es] at z
   cases z
   exact n0 q e0.symm
  cases s with
  |none=>cases h;exact fin (np none rfl fun q z=>nomatch z)
  |some s=>
   cases s with
   |frz d0=>cases h;exact fin (np _ rfl fun q z=>by cases z)
   |own d0=>cases h;exact fin (np _ rfl fun q z=>by cases z)
   |par d0=>cases h
theorem SI.setW {F H:Hp}{σ:L2.St}{ρ ρ':Rho}{τ:List (L2.V × D)}{fp:List Addr}{i:Nat}{v:L2.V}{d:D}(I:SI C F H σ ρ ((v,d) :: τ) fp)(h:setW ρ i d=some ρ'):∃ fp',SI C F H (σ.set i (some v)) ρ' τ fp':=by
 obtain ⟨f,rest0,o,pm0,J,h0,ap,nd0⟩:=I.pop
 unfold TL.setW at h
 cases es:ρ[i]? with
 |none=>rw [es] at h;cases h
 |some s=>
  rw [es] at h
  obtain ⟨x,f0,g0,rest,ex,s1,pm,w0,w1,cl⟩:=J.cut es
  have nd:=pm.nodup_iff.mp J.nd
  have ndr:=(List.nodup_append.mp (List.nodup_append.mp nd).2.1).2.1
  have inr:∀ a∈rest,a∈rest0:=fun a ha=>pm.mem_iff.mpr (by simp [ha])
  have fin:(∀ v',(i,v')∈C.pars->False)->∃ fp',SI C F H (σ.set i (some v)) (ρ.set i (some (.own d))) τ fp':=fun np=>
   ⟨_,cl (x':=some v) (s':=some (.own d)) (f0':=f) (g0':=[]) (Same.refl F) J.fh (fun _ _=>rfl) (fun _ z=>z) (fun _ _ _ _ z=>z) (fun _ _ z=>.inl z) (.own o) (List.nodup_append.mpr ⟨(List.nodup_append.mp nd0).1,ndr,fun a ha b hb z=>(List.nodup_append.mp nd0).2.2 a ha b (inr b hb) z⟩) (fun a ha=>by
    rcases List.mem_append.mp ha with z | z
    ·exact ap a z
    ·exact J.ap a (inr a z)) h0 (fun _ z=>nomatch z) (fun v' hv=>(np v' hv).elim)⟩
  have np:∀ (s0:Option Sl),s=s0->(∀ q,s0≠some (.par q))->∀ v',(i,v')∈C.pars->False:=fun s0 e0 n0 v' hv=>by
   obtain ⟨_,q,z⟩:=I.pr _ _ hv
   rw [es] at z
   cases z
   exact n0 q e0.symm
  cases s with
  |none=>cases h;exact fin (np none rfl fun q z=>nomatch z)
  |some s=>
   cases s with
   |frz d0=>cases h;exact fin (np _ rfl fun q z=>by cases z)
   |own d0=>cases h;exact fin (np _ rfl fun q z=>by cases z)
   |par d0=>cases h
def Qcr (i:Nat)(m:ME):MS:=fun ρ=>(m ρ).bind fun r=>(Rs.of (setF r.2 i r.1)).bind fun ρ'=>.ok (.nx,ρ')
def Qdb (i:Nat)(m:ME):MS:=fun ρ=>(m ρ).bind fun r=>(Rs.of (setW r.2 i r.1)).bind fun ρ'=>.ok (.nx,ρ')
theorem Qf0 {i:Nat}{D:Ends}{σ:L2.St}{H:Hp}(h:tS rk C E (Qcr i m) D σ H):QnZ (tX .V C p E m) (QdB i) D σ H:=by
 obtain ⟨F,ρ,fp,I,h⟩:=h
 refine ⟨F,ρ,[],fp,I,h.split.run.mono fun r hr F1 H1 fp1 v I1 n1 f1=>?_⟩
 obtain ⟨ρ',e,h2⟩:=hr.split.of
 obtain ⟨fp',J,_⟩:=SI.setF I1 f1 e
 exact h2 F1 H1 _ fp' n1.f J
theorem QjH {i:Nat}{D:Ends}{σ:L2.St}{H:Hp}(h:tS rk C E (Qdb i m) D σ H):QnZ (tX .O C p E m) (QdB i) D σ H:=by
 obtain ⟨F,ρ,fp,I,h⟩:=h
 refine ⟨F,ρ,[],fp,I,h.split.run.mono fun r hr F1 H1 fp1 v I1 n1 f1=>?_⟩
 obtain ⟨ρ',e,h2⟩:=hr.split.of
 obtain ⟨fp',J⟩:=SI.setW (τ:=[]) I1 e
 exact h2 F1 H1 _ fp' n1.f J
theorem Qat {i:Nat}{x:Str}{pos':Pos}(hN:X.N.Nodup)(hi:X.N[i]? = some x)(hx:Loc X.env.scope x)(he:PE X e (tX .V C p E m))(hs:swapsWith e (some (.Name x pos')) pos.line X.env=pure false:=by rfl)(hf:X.fn x=true\/X.env.scope.names.lookup x=some .local:=by first | exact .inl rfl | exact .inr rfl | assumption) :
  PS X (.Assign [.Name x pos'] e pos) (tS rk C E (Qcr i m)):=Qa3 (QlC hN hi hx he hs hf) fun _ _ _ h=>Qf0 h
theorem QdY {i:Nat}{x:Str}{pos':Pos}(hN:X.N.Nodup)(hi:X.N[i]? = some x)(hx:Loc X.env.scope x)(he:PE X e (tX .O C p E m))(hs:swapsWith e (some (.Name x pos')) pos.line X.env=pure false:=by rfl)(hf:X.fn x=true\/X.env.scope.names.lookup x=some .local:=by first | exact .inl rfl | exact .inr rfl | assumption) :
  PS X (.Assign [.Name x pos'] e pos) (tS rk C E (Qdb i m)):=Qa3 (QlC hN hi hx he hs hf) fun _ _ _ h=>QjH h
def GD (C:Cn)(g:TG)(tg:D->Rho->Option Rho):Prop:=∀ F H σ ρ τ fp x d ρ',SI C F H σ ρ τ fp->R C.K F x d->tg d ρ=some ρ'->∀ Q:L2.St->Hp->Prop,(∀ σ' fp',SI C F H σ' ρ' τ fp'->(∀ a∈fp',a∈fp)->Q σ' H)->g x σ H Q
theorem Qiq {i:Nat}:GD C (QdB i) (fun d ρ=>setF ρ i d):=fun F H σ ρ τ fp x d ρ' I r h Q hq=>by
 obtain ⟨fp',J,s⟩:=SI.setF I r h
 exact hq _ fp' J s
def QhM (i j:Nat)(d:D)(ρ:Rho):Option Rho:=match d with
 |.nd .tup [x,y]=>(setF ρ i x).bind fun ρ1=>setF ρ1 j y
 |_=>none
theorem Qh9 {i j:Nat}(hK:C.K=X.K):GD C (QsY X.K 2 (Qmd (QdB i) (Qmd (QdB j) Qs6))) (QhM i j):=fun F H σ ρ τ fp v d ρ' I r h Q hq=>by
 unfold QhM at h
 split at h
 ·next x y=>
  obtain ⟨a,vs,rfl,h1,h2⟩:=r.inv
  obtain ⟨v1,v2,rfl,r1,r2⟩:=h2.two
  obtain ⟨ρ1,e1,e2⟩:=Option.bind_eq_some_iff.mp h
  obtain ⟨fp1,J1,s1⟩:=SI.setF I r1 e1
  obtain ⟨fp2,J2,s2⟩:=SI.setF J1 r2 e2
  refine ⟨a,[v1,v2],rfl,by rw [← hK];exact (At.same h1 I.fh).sqt,rfl,v1,[v2],rfl,v2,[],rfl,rfl,?_⟩
  exact hq _ fp2 J2 (fun b hb=>s1 b (s2 b hb))
 ·cases h
structure ItD (K:PySem.W.Frag)(F:Hp)(ds:List D)(J:It):Prop where
 go:∀ {C:Cn} {F' H:Hp} {σ:L2.St} {ρ:Rho} {τ:List (L2.V × D)} {fp:List Addr} {i:Nat} {d:D},C.K=K->SI C F' H σ ρ τ fp->Same F F'->ds[i]? = some d->J.go i H/\∀ x H',J.yld i H x H'->∃ F'',SI C F'' H' σ ρ τ fp/\Nx true F' H fp F'' H' fp/\R K F'' x d
 stop:∀ {C:Cn} {F' H:Hp} {σ:L2.St} {ρ:Rho} {τ:List (L2.V × D)} {fp:List Addr},C.K=K->SI C F' H σ ρ τ fp->Same F F'->J.stop ds.length H
def tI (C:Cn)(p:Bool)(E:XE)(mi:MA):TI:=fun σ H R=>∃ F ρ τ fp,SI C F H σ ρ τ fp/\Run C E σ (mi ρ) fun r=>∀ F' H' fp' J,SI C F' H' σ r.2 τ fp'->Nx p F H fp F' H' fp'->ItD C.K F' r.1 J->R J H'
theorem QeA {tg iter:Expr}{t t':TI}(h:PI X tg iter t)(k:∀ σ H R,t' σ H R->t σ H R):PI X tg iter t':=fun pins s σ H R I q=>h pins s σ H R I (k _ _ _ q)
theorem Qef {K:PySem.W.Frag}{F:Hp}{a:Addr}{kd:Bool}{vs:List L2.V}{ds:List D}(h:At K F a (if kd then .lst else .tup) vs)(r:RL K F vs ds):ItD K F ds (Itb kd K a):=by
 have up:∀ {F' H:Hp},Same F F'->Same F' H->SqB kd K H a vs:=fun s1 s2=>by
  cases kd with
  |true=>exact (At.same (t:=.lst) h (s1.trans s2)).sql
  |false=>exact (At.same (t:=.tup) h (s1.trans s2)).sqt
 refine ⟨fun {C F' H σ ρ τ fp i d} hk I s e=>?_,fun {C F' H σ ρ τ fp} hk I s=>?_⟩
 ·obtain ⟨v,ev,rv⟩:=r.get e
  have q:=up s I.fh
  cases kd with
  |true=>exact ⟨⟨vs,v,q,ev⟩,fun x H' ⟨e1,y⟩=>by
    subst e1
    have z:=y vs q
    rw [ev] at z;cases z
    exact ⟨F',I,.refl,rv.same s⟩⟩
  |false=>exact ⟨⟨vs,v,q,ev⟩,fun x H' ⟨e1,y⟩=>by
    subst e1
    have z:=y vs q
    rw [ev] at z;cases z
    exact ⟨F',I,.refl,rv.same s⟩⟩
 ·have q:=up s I.fh
  have l:=r.length
  cases kd with
  |true=>exact ⟨vs,q,by omega⟩
  |false=>exact ⟨vs,q,by omega⟩
def QbV (m:ME):MA:=fun ρ=>(m ρ).bind fun r=>(Rs.of (Qhn [r.1])).bind fun ds=>.ok (ds,r.2)
theorem Qg5 {tg l:Expr}(hK:C.K=X.K)(hl:PE X l (tX .V C p E m)):PI X tg l (tI C p E (QbV m)):=QeA (QpK hl) fun σ H RR ⟨F,ρ,τ,fp,I,h⟩=>by
 refine ⟨F,ρ,τ,fp,I,h.split.mono fun r hr F1 H1 fp1 v I1 n1 f1=>?_⟩
 obtain ⟨ds,eg,h2⟩:=hr.split.of
 obtain ⟨q,us,eq,hs,rl⟩:=QgC (.cons f1 .nil) eg
 cases eq
 rcases hs with hs | hs
 ·refine ⟨q,true,rfl,⟨us,by rw [← hK];exact (At.same hs I1.fh).sql⟩,h2 F1 H1 fp1 _ I1 n1 ?_⟩
  rw [← hK]
  exact Qef (kd:=true) hs rl
 ·refine ⟨q,false,rfl,⟨us,by rw [← hK];exact (At.same hs I1.fh).sqt⟩,h2 F1 H1 fp1 _ I1 n1 ?_⟩
  rw [← hK]
  exact Qef (kd:=false) hs rl
noncomputable def Qjs:List D->Option Int
 | [.int i]=>if -(2 ^ 62)<=i/\i<2 ^ 62 then some i else none
 |_=>none
def QpU (mr:MA):MA:=fun ρ=>(mr ρ).bind fun r=>(Rs.of (Qjs r.1)).bind fun n=>.ok ((List.range n.toNat).map fun j=>.int ((0:Int)+(j:Nat)),r.2)
theorem QmL {K:PySem.W.Frag}{F:Hp}{lo:Int}{n:Nat}:ItD K F ((List.range n).map fun j=>.int (lo+(j:Nat))) (Itr lo n):=by
 refine ⟨fun {C F' H σ ρ τ fp i d} hk I s e=>?_,fun {C F' H σ ρ τ fp} hk I s=>?_⟩
 ·rw [List.getElem?_map] at e
  obtain ⟨j,ej,rfl⟩:=Option.map_eq_some_iff.mp e
  have hj:i<n/\j=i:=by
   rw [List.getElem?_eq_some_iff] at ej
   obtain ⟨h1,h2⟩:=ej
   rw [List.getElem_range] at h2
   rw [List.length_range] at h1
   exact ⟨h1,h2.symm⟩
  refine ⟨hj.1,fun x H' hz=>?_⟩
  obtain ⟨e1,e2⟩:=hz
  subst e1 e2
  rw [hj.2]
  exact ⟨F',I,.refl,.sc rfl⟩
 ·show n<=_
  rw [List.length_map,List.length_range]
  exact Nat.le_refl _
theorem Qds {tg e:Expr}{px:Pos}(hm:X.mg "range" = none)(ha:PA X [e] (tA ks C p E mr))(ok:rdL ks=true:=by rfl)(hg:Gl X "range" := by rfl)(hs:starEach [e] X.env=[(false,eval e X.env)]:=by rfl):PI X tg (.Call (.Name "range" px) [e] [] pos) (tI C p E (QpU mr)):=QeA (QiX hg hm ha hs) fun σ H RR ⟨F,ρ,τ,fp,I,h⟩=>by
 refine ⟨F,ρ,τ,fp,I,h.split.mono fun r hr F1 H1 fp1 vs I1 n1 f1=>?_⟩
 rw [QaY ok] at I1
 obtain ⟨n,eg,h2⟩:=hr.split.of
 have rl:=f1.rd I1 ok
 unfold Qjs at eg
 split at eg
 ·next i ed=>
  rw [ed] at rl
  obtain ⟨v,rfl,rv⟩:=rl.one
  obtain rfl:=rv.det_sc (w:=.int i) rfl
  by_cases c : -(2 ^ 62)<=i/\i<2 ^ 62
  ·rw [if_pos c] at eg;cases eg
   exact ⟨n,rfl,c.1,c.2,h2 F1 H1 fp1 _ I1 n1 QmL⟩
  ·rw [if_neg c] at eg;cases eg
 ·cases eg
def QfG (tg:D->Rho->Option Rho)(mb:MS):List D->MS
 | []=>fun ρ=>.ok (.nx,ρ)
 |d :: ds=>fun ρ=>(Rs.of (tg d ρ)).bind fun ρ1=>(mb ρ1).bind fun r=>match r.1 with
  |.nx=>QfG tg mb ds r.2
  |.ct=>QfG tg mb ds r.2
  |.bk=>.ok (.nx,r.2)
  |.rt d=>.ok (.rt d,r.2)
def Qrb (mi:MA)(tg:D->Rho->Option Rho)(mb:MS):MS:=fun ρ=>(mi ρ).bind fun r=>QfG tg mb r.1 r.2
theorem Qnc {tg iter:Expr}{body:List Stmt}{mi:MA}{g:TG}{tgd:D->Rho->Option Rho}(hp:PassesOwn (model X.prog X.w) X.A X.env X.xe)(hc:X.calm=true)(hi:PI X tg iter (tI C p E mi))(hg:PG X tg g)(gd:GD C g tgd)(hb:PSs X body (tS rk C E ms))
  (hs:∀ x,foldedSetIterable iter X.env x=pure x:=by intro _;rfl):PS X (.For tg iter body [] pos) (tS rk C E (Qrb mi tgd ms)):=Qa3 (Qoh hp hc hi hg hb hs) fun D σ H ⟨F,ρ,fp,I,h⟩=>by
 refine ⟨F,ρ,[],fp,I,h.split.run.mono fun r hr F1 H1 fp1 J I1 n1 it=>?_⟩
 refine ⟨fun i m σ' H'=>m=r.1.length - i/\i<=r.1.length/\∃ F' ρ' fp',SI C F' H' σ' ρ' [] fp'/\Same F1 F'/\RunS C E (QfG tgd ms (r.1.drop i) ρ') fun q=>Out rk C D F q.1 q.2,⟨r.1.length,by simp,Nat.zero_le _,F1,r.2,fp1,I1,Same.refl _,by rw [List.drop_zero];exact hr⟩,?_⟩
 rintro i mm σ2 H2 ⟨rfl,hi2,F2,ρ2,fp2,I2,s2,k2⟩
 by_cases hlt:i<r.1.length
 ·obtain ⟨d,ed⟩:∃ d,r.1[i]? = some d:=⟨r.1[i],List.getElem?_eq_getElem hlt⟩
  obtain ⟨g1,g2⟩:=it.go rfl I2 s2 ed
  have edr:r.1.drop i=d :: r.1.drop (i+1):=by
   rw [List.drop_eq_getElem_cons hlt]
   have:r.1[i]=d:=by rw [List.getElem?_eq_getElem hlt] at ed;exact Option.some.inj ed
   rw [this]
  rw [edr] at k2
  obtain ⟨ρ3,e3,k3⟩:=k2.split.of
  refine .inr ⟨g1,fun σ' H'=>∃ F' ρ' fp',SI C F' H' σ' ρ' [] fp'/\Same F1 F'/\RunS C E (QfG tgd ms (r.1.drop (i+1)) ρ') fun q=>Out rk C D F q.1 q.2,fun σ' H' z=>⟨_,by omega,rfl,hlt,z⟩,fun x H' y=>?_⟩
  obtain ⟨F3,I3,n3,r3⟩:=g2 x H' y
  have s3:Same F1 F3:=s2.trans n3.f
  refine gd F3 H' σ2 ρ2 [] fp2 x d ρ3 I3 r3 e3 _ fun σ' fp' I4 _=>⟨F3,ρ3,fp',I4,k3.split.mono fun q hq=>?_⟩
  obtain ⟨f,ρ4⟩:=q
  have sF:Same F F3:=n1.f.trans s3
  cases f with
  |nx=>exact fun F5 H5 σ5 fp5 s5 I5=>⟨F5,ρ4,fp5,I5,s3.trans s5,hq⟩
  |ct=>exact fun F5 H5 σ5 fp5 s5 I5=>⟨F5,ρ4,fp5,I5,s3.trans s5,hq⟩
  |bk=>exact fun F5 H5 σ5 fp5 s5 I5=>hq F5 H5 σ5 fp5 (sF.trans s5) I5
  |rt d=>exact fun F5 H5 σ5 fp5 v s5 I5 f5=>hq F5 H5 σ5 fp5 v (sF.trans s5) I5 f5
 ·have e:i=r.1.length:=by omega
  subst e
  rw [List.drop_length] at k2
  exact .inl ⟨it.stop rfl I2 s2,k2 F2 H2 σ2 fp2 (n1.f.trans s2) I2⟩
end
noncomputable def mkS (par:Bool)(d:D):Sl:=if par then .par d else .own d
noncomputable def QbX (par:Bool)(ρ:Rho):List Nat->Option (List D)
 | []=>some []
 |i :: is=>match ρ[i]? with
  |some (some (.own d))=>if par then none else (QbX par ρ is).map (d :: ·)
  |some (some (.par d))=>if par then (QbX par ρ is).map (d :: ·) else none
  |_=>none
noncomputable def QbA (par:Bool)(ρ:Rho):List Nat->List D->Rho
 |i :: is,d :: ds=>(QbA par ρ is ds).set i (some (mkS par d))
 |_,_=>ρ
theorem QeS {par:Bool}{ρ:Rho}{i:Nat}{is:List Nat}{ds:List D}(h:QbX par ρ (i :: is)=some ds):∃ d r,ds=d :: r/\ρ[i]? = some (some (mkS par d))/\QbX par ρ is=some r:=by
 unfold QbX at h
 split at h
 ·next d e=>
  cases par with
  |true=>cases h
  |false=>
   obtain ⟨r,hr,rfl⟩:=Option.map_eq_some_iff.mp h
   exact ⟨d,r,rfl,e,hr⟩
 ·next d e=>
  cases par with
  |false=>cases h
  |true=>
   obtain ⟨r,hr,rfl⟩:=Option.map_eq_some_iff.mp h
   exact ⟨d,r,rfl,e,hr⟩
 ·cases h
theorem Qg4 {par:Bool}{ρ:Rho}{i:Nat}{s:Option Sl}:∀ {is:List Nat},i∉is->QbX par (ρ.set i s) is=QbX par ρ is
 | [],_=>rfl
 |j :: is,h=>by
  have n:i≠j:=fun e=>h (e▸List.mem_cons_self)
  unfold QbX
  rw [List.getElem?_set_ne n,Qg4 fun z=>h (List.mem_cons_of_mem _ z)]
theorem QgK {par:Bool}{ρ:Rho}{i:Nat}{s:Option Sl}:∀ {is:List Nat} {ds:List D},i∉is->QbA par (ρ.set i s) is ds=(QbA par ρ is ds).set i s
 | [],_,_=>by unfold QbA;rfl
 |j :: is,[],_=>by unfold QbA;rfl
 |j :: is,d :: ds,h=>by
  have n:i≠j:=fun e=>h (e▸List.mem_cons_self)
  unfold QbA
  rw [QgK fun z=>h (List.mem_cons_of_mem _ z),List.set_comm _ _ (fun e=>n e)]
theorem Qgt {par:Bool}{ρ:Rho}{i:Nat}:∀ {is:List Nat} {ds:List D},i∉is->(QbA par ρ is ds)[i]? = ρ[i]?
 | [],_,_=>by unfold QbA;rfl
 |j :: is,[],_=>by unfold QbA;rfl
 |j :: is,d :: ds,h=>by
  have n:j≠i:=fun e=>h (e▸List.mem_cons_self)
  unfold QbA
  rw [List.getElem?_set_ne n,Qgt fun z=>h (List.mem_cons_of_mem _ z)]
theorem Qhb {par:Bool}{ρ:Rho}:∀ {is:List Nat} {ds:List D},(QbA par ρ is ds).length=ρ.length
 | [],_=>by unfold QbA;rfl
 |j :: is,[]=>by unfold QbA;rfl
 |j :: is,d :: ds=>by unfold QbA;rw [List.length_set,Qhb]
inductive Sig (σ:L2.St):List Nat->List L2.V->Prop
 |nil:Sig σ [] []
 |cons {i:Nat} {v:L2.V} {is:List Nat} {vs:List L2.V} (h:σ[i]? = some (some v)) (r:Sig σ is vs):Sig σ (i :: is) (v :: vs)
def QbT (C:Cn)(par:Bool)(a:Addr):Prop:=C.H₀ a=none\/(par=true/\a∈C.A)
section
variable {C:Cn}{F H:Hp}{σ:L2.St}{ρ:Rho}{τ:List (L2.V × D)}{fp:List Addr}{par:Bool}
theorem SI.unpar (I:SI C F H σ ρ τ fp):SI { C with pars:=[] } F H σ ρ τ fp:=⟨I.sl,I.nd,I.ap,I.fh,I.f0,I.fn,I.kp,I.dm,fun _ _ z=>nomatch z⟩
theorem SI.lend0 (hp:C.pars=[]):∀ {is:List Nat} {ρ:Rho} {fp:List Addr} {ds:List D},is.Nodup->SI C F H σ ρ τ fp->QbX par ρ is=some ds->∃ vs f rest,Sig σ is vs/\OL C.K F H vs ds f/\fp.Perm (f++rest)/\(∀ a∈f,QbT C par a)/\
  ∀ {F' H':Hp} {f':List Addr} {ds':List D},Same F F'->Same F' H'->(∀ a∈rest,H' a=H a)->(∀ b,H' b=none->H b=none)->(∀ b o,C.H₀ b=some o->b∉C.A->H b=some o->H' b=some o)->(∀ b o,F' b=some o->F b=some o\/Nw C.H₀ b o)->
   OL C.K F' H' vs ds' f'->(f'++rest).Nodup->(∀ a∈f'++rest,F' a=none)->(∀ a∈f',QbT C par a)->SI C F' H' σ (QbA par ρ is ds') τ (f'++rest)
 | [],ρ,fp,ds,_,I,h=>by
  cases h
  refine ⟨[],[],fp,.nil,.nil,by simp,(fun _ z=>nomatch z),fun {F' H' f' ds'} sf fh hk dm kp fn ol nd ap fr=>?_⟩
  cases ol
  exact I.step sf fh hk (fun a ha=>ap a ha) fn kp dm
 |i :: is,ρ,fp,ds,nd,I,h=>by
  obtain ⟨ni,nd'⟩:=List.nodup_cons.mp nd
  obtain ⟨d,r,rfl,es,hr⟩:=QeS h
  obtain ⟨x,f0,g0,rest1,ex,s1,pm,w0,w1,cl⟩:=I.cut es
  have ndp:=pm.nodup_iff.mp I.nd
  have nopar:∀ v,(i,v)∈C.pars->False:=fun v hv=>by rw [hp] at hv;exact nomatch hv
  obtain ⟨v,fi,ev,hv,efi,wfi⟩:∃ v fi,x=some v/\O C.K F H v d fi/\f0++g0=fi/\∀ a∈fi,QbT C par a:=by
   cases par with
   |false=>cases s1 with | own h=>exact ⟨_,_,rfl,h,by simp,fun a ha=>.inl (w0 a ha)⟩
   |true=>cases s1 with | par h=>exact ⟨_,_,rfl,h,rfl,fun a ha=>(w1 a ha).elim (fun z=>.inr ⟨rfl,z⟩) fun z=>.inl z⟩
  subst ev
  have r1nd:rest1.Nodup:=(List.nodup_append.mp (List.nodup_append.mp ndp).2.1).2.1
  have I1:=cl (x':=some v) (s':=none) (f0':=[]) (g0':=[]) (Same.refl F) I.fh (fun _ _=>rfl) (fun _ z=>z) (fun _ _ _ _ z=>z) (fun _ _ z=>.inl z) .non r1nd (fun a ha=>I.ap a (pm.mem_iff.mpr (by simp at ha;simp [ha]))) (fun _ z=>nomatch z) (fun _ z=>nomatch z) (fun v' hv'=>(nopar v' hv').elim)
  rw [QaR ex] at I1
  obtain ⟨vs,f2,rest2,sg,ol,pm2,w2,cl2⟩:=SI.lend0 hp nd' I1 (by rw [Qg4 ni];exact hr)
  have pm2':rest1.Perm (f2++rest2):=pm2
  have pmf:fp.Perm ((fi++f2)++rest2):=by
   refine pm.trans ?_
   rw [← List.append_assoc,efi,List.append_assoc]
   exact pm2'.append_left fi
  refine ⟨v :: vs,fi++f2,rest2,.cons ex sg,.cons hv ol,pmf,fun a ha=>(List.mem_append.mp ha).elim (wfi a) (w2 a),fun {F' H' f' ds'} sf fh hk dm kp fn ol' nd2 ap fr=>?_⟩
  cases ol' with
  | @cons _ d' _ ds'' fa fb oa ob=>
   have nd3:(fa++(fb++rest2)).Nodup:=by rw [← List.append_assoc];exact nd2
   have I2:=cl2 sf fh hk dm kp fn ob (List.nodup_append.mp nd3).2.1 (fun a ha=>ap a (by rw [List.append_assoc];exact List.mem_append_right _ ha)) (fun a ha=>fr a (List.mem_append_right _ ha))
   have li:i<ρ.length:=(List.getElem?_eq_some_iff.mp es).1
   have en:(QbA par (ρ.set i none) is ds'')[i]? = some none:=by rw [Qgt ni,List.getElem?_set_self li]
   obtain ⟨x3,f3,g3,rest3,ex3,s3,pm3,_,_,cl3⟩:=I2.cut en
   cases s3
   have pm3':(fb++rest2).Perm rest3:=pm3
   have nd4:(fa++rest3).Nodup:=(pm3'.append_left fa).nodup_iff.mp nd3
   have ap4:∀ a∈fa++rest3,F' a=none:=fun a ha=>ap a (by
    rw [List.append_assoc]
    rcases List.mem_append.mp ha with z | z
    ·exact List.mem_append_left _ z
    ·exact List.mem_append_right _ (pm3'.mem_iff.mpr z))
   have eρ:(QbA par (ρ.set i none) is ds'').set i (some (mkS par d'))=QbA par ρ (i :: is) (d' :: ds''):=by
    rw [QgK ni,List.set_set]
    rfl
   have pmx:(fa++rest3).Perm ((fa++fb)++rest2):=by rw [List.append_assoc];exact pm3'.symm.append_left fa
   have fra:∀ a∈fa,QbT C par a:=fun a ha=>fr a (List.mem_append_left _ ha)
   rw [← eρ]
   cases par with
   |false=>
    have J:=cl3 (F':=F') (H':=H') (x':=some v) (s':=some (.own d')) (f0':=fa) (g0':=[]) (Same.refl _) fh (fun _ _=>rfl) (fun _ z=>z) (fun _ _ _ _ z=>z) (fun _ _ z=>.inl z) (.own oa) nd4 ap4 (fun a ha=>(fra a ha).resolve_right fun z=>nomatch z.1) (fun _ z=>nomatch z) (fun v' hv'=>(nopar v' hv').elim)
    rw [QaR ex] at J
    exact J.perm pmx
   |true=>
    have J:=cl3 (F':=F') (H':=H') (x':=some v) (s':=some (.par d')) (f0':=[]) (g0':=fa) (Same.refl _) fh (fun _ _=>rfl) (fun _ z=>z) (fun _ _ _ _ z=>z) (fun _ _ z=>.inl z) (.par oa) nd4 ap4 (fun _ z=>nomatch z) (fun a ha=>(fra a ha).elim (fun z=>.inr z) fun z=>.inl z.2) (fun v' hv'=>(nopar v' hv').elim)
    rw [QaR ex] at J
    exact J.perm pmx
theorem SI.lend {is:List Nat}{ds:List D}(nd:is.Nodup)(I:SI C F H σ ρ τ fp)(h:QbX par ρ is=some ds):∃ vs f rest,Sig σ is vs/\OL C.K F H vs ds f/\fp.Perm (f++rest)/\(∀ a∈f,QbT C par a)/\
  ∀ {F' H':Hp} {f':List Addr} {ds':List D},Same F F'->Same F' H'->(∀ a∈rest,H' a=H a)->(∀ b,H' b=none->H b=none)->(∀ b o,C.H₀ b=some o->b∉C.A->H b=some o->H' b=some o)->(∀ b o,F' b=some o->F b=some o\/Nw C.H₀ b o)->
   OL C.K F' H' vs ds' f'->(f'++rest).Nodup->(∀ a∈f'++rest,F' a=none)->(∀ a∈f',QbT C par a)->SI C F' H' σ (QbA par ρ is ds') τ (f'++rest):=by
 obtain ⟨vs,f,rest,sg,ol,pm,w,cl⟩:=SI.lend0 (C:={ C with pars:=[] }) rfl nd I.unpar h
 refine ⟨vs,f,rest,sg,ol,pm,w,fun {F' H' f' ds'} sf fh hk dm kp fn ol' nd2 ap fr=>?_⟩
 have J:=cl sf fh hk dm kp fn ol' nd2 ap fr
 refine ⟨J.sl,J.nd,J.ap,J.fh,J.f0,J.fn,J.kp,J.dm,fun j v hj=>?_⟩
 obtain ⟨p1,d,p2⟩:=I.pr j v hj
 refine ⟨p1,?_⟩
 have len:ds'.length=is.length:=by
  have e1:vs.length=is.length:=by
   have:∀ {is:List Nat} {vs:List L2.V},Sig σ is vs->vs.length=is.length:=by
    intro is vs s
    induction s with
    |nil=>rfl
    |cons _ _ ih=>rw [List.length_cons,List.length_cons,ih]
   exact this sg
  rw [← ol'.length,e1]
 have go:∀ {is:List Nat} {ds ds':List D},is.Nodup->QbX par ρ is=some ds->ds'.length=is.length->∃ d,(QbA par ρ is ds')[j]? = some (some (.par d)):=by
  intro is
  induction is with
  |nil=>intro ds ds' _ _ _;unfold QbA;exact ⟨d,p2⟩
  |cons i is ih=>
   intro ds ds' nd h l
   obtain ⟨ni,nd'⟩:=List.nodup_cons.mp nd
   obtain ⟨d0,r,rfl,es,hr⟩:=QeS h
   cases ds' with
   |nil=>cases l
   |cons d' ds''=>
    unfold QbA
    by_cases e:i=j
    ·subst e
     have li:i<(QbA par ρ is ds'').length:=by rw [Qhb];exact (List.getElem?_eq_some_iff.mp es).1
     rw [List.getElem?_set_self li]
     rw [p2] at es
     cases par with
     |false=>cases es
     |true=>exact ⟨d',rfl⟩
    ·rw [List.getElem?_set_ne e]
     exact ih nd' hr (by simpa using l)
 exact go nd h len
end
inductive Fr where
 |ok (r:D) (outs:List D)
 |ex (c:Xc)
 |no
inductive AL (K:PySem.W.Frag) (F H:Hp):List Bool->List L2.V->List D->List Addr->Prop
 |nil:AL K F H [] [] [] []
 |val {v:L2.V} {d:D} {io:List Bool} {vs:List L2.V} {ds:List D} {fp:List Addr} (h:R K F v d) (r:AL K F H io vs ds fp):AL K F H (false :: io) (v :: vs) (d :: ds) fp
 |io {v:L2.V} {d:D} {io:List Bool} {vs:List L2.V} {ds:List D} {f fp:List Addr} (h:O K F H v d f) (r:AL K F H io vs ds fp):AL K F H (true :: io) (v :: vs) (d :: ds) (f++fp)
def ioV:List Bool->List L2.V->List L2.V
 |true :: io,v :: vs=>v :: ioV io vs
 |false :: io,_ :: vs=>ioV io vs
 |_,_=>[]
def RkF (rk:Kd)(K:PySem.W.Frag)(F H:Hp)(v:L2.V)(d:D)(f:List Addr):Prop:=match rk with
 |.V=>R K F v d/\f=[]
 |.O=>O K F H v d f
 |_=>False
def spF (K:PySem.W.Frag)(io:List Bool)(rk:Kd)(m:List D->Fr):Sp:=fun vs H Q E=>∃ F ds fp,AL K F H io vs ds fp/\fp.Nodup/\(∀ a∈fp,F a=none)/\Same F H/\match m ds with
 |.ok r outs=>∀ F' H' v fr fo,Same F F'->Same F' H'->(∀ b o,F' b=some o->F b=some o\/Nw H b o)->(∀ b o,H b=some o->b∉fp->H' b=some o)->(∀ b,H' b=none->H b=none)->RkF rk K F' H' v r fr->OL K F' H' (ioV io vs) outs fo->
   (fr++fo).Nodup->(∀ a∈fr++fo,F' a=none)->(∀ a∈fr,H a=none)->(∀ a∈fo,a∈fp\/H a=none)->Q v H'
 |.ex c=>∀ H',(∀ b o,H b=some o->b∉fp->H' b=some o)->(∀ b,H' b=none->H b=none)->EX E c H'
 |.no=>False
theorem AL.len {K:PySem.W.Frag}{F H:Hp}{io:List Bool}{vs:List L2.V}{ds:List D}{fp:List Addr}(h:AL K F H io vs ds fp):vs.length=io.length:=by
 induction h with
 |nil=>rfl
 |val _ _ ih=>rw [List.length_cons,List.length_cons,ih]
 |io _ _ ih=>rw [List.length_cons,List.length_cons,ih]
def QlH:Option Nat->Kd
 |none=>.V
 |some i=>.S i
noncomputable def QkG:List (Option Nat)->List D->List D->List D
 |none :: as,d :: ds,l=>d :: QkG as ds l
 |some _ :: as,_ :: ds,x :: l=>x :: QkG as ds l
 |_,_,_=>[]
def Qi4 (par:Bool)(as:List (Option Nat))(f:List D->Fr)(mr:MA):ME:=fun ρ=>(mr ρ).bind fun r=>(Rs.of (QbX par r.2 (as.filterMap id))).bind fun dis=>match f (QkG as r.1 dis) with
 |.ok d outs=>.ok (d,QbA par r.2 (as.filterMap id) outs)
 |.ex c=>if (as.filterMap id).isEmpty=true then .ex c r.2 else .no
 |.no=>.no
def QeJ (X:Cx)(E:XE):Prop:=∀ (pins:List (Addr × Obj)) (σ:L2.St) (H:Hp) (s:Shared) (e:Value) (s':Shared),Inv X pins σ H s->CXe X.prog X.w X.stack H s (E σ) e s'->X.xe e s'
def QhX (sp:Sp)(E:XE)(t:TA):TE:=fun σ H Q=>t σ H fun vs H1=>sp vs H1 Q (E σ)
section
variable {X:Cx}{C:Cn}{E:XE}{p pa:Bool}{e a b:Expr}{es:List Expr}{m:ME}{mr:MA}{pos:Pos}{rk:Kd}{ks:List Kd}{n:Nat}{ps:List Str}{sp:Sp}{x:Str}{px:Pos}{t:TA}
theorem Qmu {f:Addr}{fd:FuncData}{pins:List (Addr × Obj)}{σ:L2.St}{H:Hp}{s:Shared}{Q:VK}{us:List Value}{vs:List L2.V}(F:FnOk X.prog X.w X.K X.mg X.base (CXe X.prog X.w) n f fd ps sp)(hr:Room n X.A)(hb:Binds X.K fd ps [])(hx:QeJ X E)
  (I:Inv X pins σ H s) (r:Vals vs us) (h:sp vs H Q (E σ)):wpAny (model X.prog X.w) X.A (call (.ref f) us) (EP X pins σ Q) X.xe s:=by
 have hl:(us++[]).length=ps.length:=by rw [List.append_nil,← r.length];exact F.len _ _ _ _ h
 have hb':=hb s us I.kIn hl
 rw [List.append_nil] at hb'
 refine wpAny_call (codeAny_mono (F.run X.A X.stack s H ⟨us,[]⟩ us vs Q (E σ) hr I.env0 hb' r h) fun r s' hq=>?_)
 cases r with
 |error e=>exact hx pins σ H s e s' I hq
 |ok fl=>
  cases fl with
  |ret u=>exact I.after hq
  |next=>exact False.elim hq
  |brk=>exact False.elim hq
  |cont=>exact False.elim hq
theorem Qln (D:QcO X.prog X.w X.K X.mg X.base n x ps sp)(hx:QeJ X E)(hr:Room n X.A)(ha:PA X (e :: es) t)(hg:Gl X x:=by rfl)
  (hdb:(x == ("__debug__" : Str))=false:=by decide) (he:starEach (e :: es) X.env=(false,eval e X.env) :: starEach es X.env:=by rfl) (hpl:(backTo pos (starEach es X.env)).any (·.1)=false:=by rfl) :
  PE X (.Call (.Name x px) (e :: es) [] pos) (QhX sp E t):=by
 obtain ⟨f,fd,F,hm,hk,hb⟩:=D.ex
 intro pins s σ H Q I h
 refine wpAny_Call_Name_kw (Qca I hg hm ?_ hdb)
 refine PySem.W.callWith_K (h₀:=X.base) I.ok.mod.kin hk (thn (ha pos pins s σ H _ I h) fun us s1 hz=>?_) he hpl
 obtain ⟨vs,H1,I1,r,q⟩:=hz
 refine ⟨I1.kIn,?_⟩
 exact Qmu F hr hb hx I1 r q
theorem QiV:∀ {as:List (Option Nat)} {vs:List L2.V} {ds:List D} {τ:List (L2.V × D)},tkL (as.map QlH) vs ds τ=τ
 | [],_,_,_=>by unfold tkL;rfl
 |none :: as,[],_,_=>by unfold tkL;rfl
 |none :: as,_ :: _,[],_=>by unfold tkL;rfl
 |none :: as,v :: vs,d :: ds,τ=>by
  show tkL (Kd.V :: as.map QlH) (v :: vs) (d :: ds) τ=τ
  unfold tkL;exact QiV
 |some i :: as,[],_,_=>by unfold tkL;rfl
 |some i :: as,_ :: _,[],_=>by unfold tkL;rfl
 |some i :: as,v :: vs,d :: ds,τ=>by
  show tkL (Kd.S i :: as.map QlH) (v :: vs) (d :: ds) τ=τ
  unfold tkL;exact QiV
theorem QrU {F H:Hp}{fp:List Addr}{σ:L2.St}:∀ {as:List (Option Nat)} {vs:List L2.V} {ds:List D} {vi:List L2.V} {di:List D} {f:List Addr},FcL C F H fp σ (as.map QlH) vs ds->Sig σ (as.filterMap id) vi->OL C.K F H vi di f->
  AL C.K F H (as.map (·.isSome)) vs (QkG as ds di) f/\ioV (as.map (·.isSome)) vs=vi:=by
 intro as
 induction as with
 |nil=>intro _ _ _ _ _ h1 h2 h3;cases h1;cases h2;cases h3;exact ⟨.nil,rfl⟩
 |cons a as ih=>
  intro _ _ vi di f h1 sg ol
  cases a with
  |none=>
   have h1:FcL C F H fp σ (_ :: as.map QlH) _ _:=h1
   cases h1 with
   |cons h r=>
    obtain ⟨q1,q2⟩:=ih r sg ol
    exact ⟨.val h q1,q2⟩
  |some i=>
   have h1:FcL C F H fp σ (_ :: as.map QlH) _ _:=h1
   have sg2:Sig σ (i :: as.filterMap id) vi:=sg
   cases h1 with
   |cons h r=>cases sg2 with
    |cons e sg3=>cases ol with
     |cons o ol=>
      obtain ⟨q1,q2⟩:=ih r sg3 ol
      have ev:=Option.some.inj (Option.some.inj (Eq.trans (Eq.symm (show σ[i]? = some (some _) from h)) e))
      subst ev
      exact ⟨.io o q1,congrArg _ q2⟩
theorem QkE {par:Bool}{as:List (Option Nat)}{f:List D->Fr}(nd:(as.filterMap id).Nodup)(hrk:rk=.V\/rk=.O)(hp:p=true->(as.filterMap id)=[]){σ:L2.St}{H:Hp}{Q:VK}(h:tX rk C (pa && p) E (Qi4 par as f mr) σ H Q) :
  QhX (spF C.K (as.map (·.isSome)) rk f) E (tA (as.map QlH) C pa E mr) σ H Q:=by
 obtain ⟨F,ρ,τ,fp,I,h⟩:=h
 refine ⟨F,ρ,τ,fp,I,h.split.mono fun r hr F1 H1 fp1 vs I1 n1 f1=>?_⟩
 rw [QiV] at I1
 obtain ⟨dis,eg,h2⟩:=hr.split.of
 obtain ⟨vi,fl,rest,sg,ol,pm,w,cl⟩:=I1.lend nd eg
 obtain ⟨al,eio⟩:=QrU f1 sg ol
 have ndp:=pm.nodup_iff.mp I1.nd
 have inl:∀ a∈fl,a∈fp1:=fun a ha=>pm.mem_iff.mpr (List.mem_append_left _ ha)
 have inr:∀ a∈rest,a∈fp1:=fun a ha=>pm.mem_iff.mpr (List.mem_append_right _ ha)
 have dis':∀ a∈rest,a∉fl:=fun a ha hf=>(List.nodup_append.mp ndp).2.2 a hf a ha rfl
 refine ⟨F1,_,fl,al,(List.nodup_append.mp ndp).1,fun a ha=>I1.ap a (inl a ha),I1.fh,?_⟩
 cases ef:f (QkG as r.1 dis) with
 |no=>rw [ef] at h2;exact h2
 |ex c=>
  rw [ef] at h2
  dsimp only at h2 ⊢
  intro H' kp' dm'
  by_cases hem:(as.filterMap id).isEmpty=true
  ·rw [if_pos hem] at h2
   have e0:as.filterMap id=[]:=by simpa using hem
   have ef0:fl=[]:=by
    rw [e0] at sg
    cases sg
    cases ol
    rfl
   subst ef0
   have J:SI C F1 H' σ r.2 τ fp1:=I1.step (Same.refl _) (fun b o e=>kp' b o (I1.fh b o e) (by simp)) (fun a ha=>by
    obtain ⟨o,e,_⟩:=I1.mem a ha
    rw [e,kp' a o e (by simp)]) I1.ap (fun _ _ z=>.inl z) (fun b o _ _ e=>kp' b o e (by simp)) dm'
   obtain ⟨fp2,J2⟩:=J.drop
   exact h2 F1 H' fp2 J2
  ·rw [if_neg hem] at h2;exact h2.elim
 |ok d outs=>
  rw [ef] at h2
  dsimp only at h2 ⊢
  intro F' H' v fr fo sF fh' fn' kp' dm' rf ol' nd' ap' frn fon
  rw [eio] at ol'
  have hrest:∀ a∈rest,H' a=H1 a:=fun a ha=>by
   obtain ⟨o,e,_⟩:=I1.mem a (inr a ha)
   rw [e,kp' a o e (dis' a ha)]
  have some1:∀ a∈fp1,H1 a≠none:=fun a ha z=>by
   obtain ⟨o,e,_⟩:=I1.mem a ha
   rw [z] at e;cases e
  have apr:∀ a∈rest,F' a=none:=fun a ha=>by
   cases e:F' a with
   |none=>rfl
   |some o=>
    rcases fn' a o e with z | z
    ·rw [I1.ap a (inr a ha)] at z;cases z
    ·obtain ⟨o2,e2,m2⟩:=I1.mem a (inr a ha)
     exact (z.not (some1 a (inr a ha)) (fh' a o e) ((hrest a ha).trans e2) m2).elim
  have ndfo:=List.nodup_append.mp nd'
  have disfo:∀ a∈fo,a∉rest:=fun a ha hr=>by
   rcases fon a ha with z | z
   ·exact dis' a hr z
   ·exact some1 a (inr a hr) z
  have J:=cl sF fh' hrest dm' (fun b o e n z=>kp' b o z fun hb=>by
   rcases w b hb with y | y
   ·rw [y] at e;cases e
   ·exact n y.2) (fun b o e=>(fn' b o e).imp id fun z=>z.up fun y=>I1.dm b y) ol' (List.nodup_append.mpr ⟨ndfo.2.1,(List.nodup_append.mp ndp).2.1,fun a ha b hb z=>disfo a ha (z▸hb)⟩) (fun a ha=>(List.mem_append.mp ha).elim (fun z=>ap' a (List.mem_append_right _ z)) (apr a)) (fun a ha=>(fon a ha).elim (w a) fun z=>.inl (I1.dm a z))
  have nxt:∀ {fp':List Addr},(∀ a∈rest,a∈fp')->(∀ a,F1 a≠none->a∉fp')->Nx (pa && p) F H fp F' H' fp':=fun {fp'} sub nin=>by
   refine n1.trans (q:=p) ⟨sF,fun hpp b o e=>?_⟩
   have ef0:fl=[]:=by
    rw [hp hpp] at sg
    cases sg
    cases ol
    rfl
   subst ef0
   by_cases hb:b∈fp1
   ·have hb':b∈rest:=by simpa using pm.mem_iff.mp hb
    rw [QbU hb] at e
    rw [QbU (sub b hb')]
    exact kp' b o e (by simp)
   ·rw [QaM hb] at e
    rw [QaM (nin b (by rw [e];simp))]
    exact sF b o e
  rcases hrk with rfl | rfl
  ·obtain ⟨rv,rfl⟩:=rf
   refine h2 F' H' _ v J (nxt (fun a ha=>List.mem_append_right _ ha) fun a hF hm=>?_) rv
   rcases List.mem_append.mp hm with z | z
   ·rw [Same.free sF (ap' a z)] at hF;exact hF rfl
   ·rw [I1.ap a (inr a z)] at hF;exact hF rfl
  ·have ndall:(fr++(fo++rest)).Nodup:=List.nodup_append.mpr ⟨ndfo.1,J.nd,fun a ha b hb z=>by
    subst z
    rcases List.mem_append.mp hb with y | y
    ·exact ndfo.2.2 a ha a y rfl
    ·exact some1 a (inr a y) (frn a ha)⟩
   refine h2 F' H' _ v (J.push rf (fun a ha=>I1.dm a (frn a ha)) (fun a ha=>ap' a (List.mem_append_left _ ha)) ndall) (nxt (fun a ha=>List.mem_append_right _ (List.mem_append_right _ ha)) fun a hF hm=>?_) True.intro
   rcases List.mem_append.mp hm with z | z
   ·rw [Same.free sF (ap' a (List.mem_append_left _ z))] at hF;exact hF rfl
   ·rcases List.mem_append.mp z with z | z
    ·rw [Same.free sF (ap' a (List.mem_append_right _ z))] at hF;exact hF rfl
    ·rw [I1.ap a (inr a z)] at hF;exact hF rfl
theorem QdL {par:Bool}{as:List (Option Nat)}{f:List D->Fr}(D:QcO X.prog X.w X.K X.mg X.base n x ps (spF C.K (as.map (·.isSome)) rk f))(hx:QeJ X E)(hr:Room n X.A)(ha:PA X (e :: es) (tA (as.map QlH) C pa E mr))(hrk:rk=.V\/rk=.O:=by first | exact .inl rfl | exact .inr rfl)(nd:(as.filterMap id).Nodup:=by decide)(hp:p=true->as.filterMap id=[]:=by decide)(hg:Gl X x:=by rfl)
  (hdb:(x == ("__debug__" : Str))=false:=by decide) (he:starEach (e :: es) X.env=(false,eval e X.env) :: starEach es X.env:=by rfl) (hpl:(backTo pos (starEach es X.env)).any (·.1)=false:=by rfl) :
  PE X (.Call (.Name x px) (e :: es) [] pos) (tX rk C (pa && p) E (Qi4 par as f mr)):=Qag (Qln D hx hr ha hg hdb he hpl) fun _ _ _ h=>QkE nd hrk hp h
theorem O.loB {K:PySem.W.Frag}{F H:Hp}{L:List Addr}(hl:∀ b∈L,∀ o,F b=some o->Mbl o):(∀ v d fp,O K F H v d fp->O K (lo F L) H v d fp)/\∀ v d fp,OL K F H v d fp->OL K (lo F L) H v d fp:=
 O.ind .sc (fun m h q=>.im m (h.lo m hl) q) .mt .nil .cons
theorem O.lo {K:PySem.W.Frag}{F H:Hp}{L:List Addr}(hl:∀ b∈L,∀ o,F b=some o->Mbl o){v:L2.V}{d:D}{fp:List Addr}(h:O K F H v d fp):O K (lo F L) H v d fp:=(O.loB hl).1 _ _ _ h
def QaJ (rk:Kd)(f:List D->Fr)(mr:MA):ME:=fun ρ=>(mr ρ).bind fun r=>match f r.1 with
 |.ok d _=>match rk with
  |.V=>if d.imm=true then .ok (d,r.2) else .no
  |_=>.ok (d,r.2)
 |.ex c=>.ex c r.2
 |.no=>.no
theorem QqD {K:PySem.W.Frag}{F H:Hp}:∀ {vs:List L2.V} {ds:List D},RL K F vs ds->AL K F H (vs.map fun _=>false) vs ds []
 |_,_,.nil=>.nil
 |_,_,.cons h r=>.val h (QqD r)
theorem QiL {f:List D->Fr}{io:List Bool}(hio:io.all (!·)=true)(hl:io.length=ks.length)(hrk:rk=.V\/rk=.O)(ok:rdL ks=true){σ:L2.St}{H:Hp}{Q:VK}(h:tX rk C pa E (QaJ rk f mr) σ H Q):QhX (spF C.K io rk f) E (tA ks C pa E mr) σ H Q:=by
 obtain ⟨F,ρ,τ,fp,I,h⟩:=h
 refine ⟨F,ρ,τ,fp,I,h.split.mono fun r hr F1 H1 fp1 vs I1 n1 f1=>?_⟩
 rw [QaY ok] at I1
 have rl:=f1.rd I1 ok
 have hlen:vs.length=ks.length:=by
  have:∀ {ks:List Kd} {vs:List L2.V} {ds:List D},FcL C F1 H1 fp1 σ ks vs ds->vs.length=ks.length:=by
   intro ks vs ds z
   induction z with
   |nil=>rfl
   |cons _ _ ih=>rw [List.length_cons,List.length_cons,ih]
  exact this f1
 have eio:io=vs.map fun _=>false:=by
  have:∀ {io:List Bool} {n:Nat},io.all (!·)=true->io.length=n->io=List.replicate n false:=by
   intro io
   induction io with
   |nil=>intro n _ e;subst e;rfl
   |cons x io ih=>
    intro n h e
    subst e
    rw [List.all_cons,Bool.and_eq_true] at h
    rw [List.length_cons,List.replicate_succ,← ih h.2 rfl]
    have:x=false:=by simpa using h.1
    rw [this]
  rw [this hio (hl.trans hlen.symm)]
  exact (List.map_const' ..).symm
 have hmt:∀ {F':Hp},Same (jn F1 H1 fp1) F'->∀ b∈fp1,∀ o,F' b=some o->Mbl o:=fun {F'} s b hb o e=>by
  obtain ⟨o',e',z⟩:=I1.mem b hb
  have q:=s b o' (by rw [QbU hb];exact e')
  rw [e] at q;cases q
  exact z
 refine ⟨jn F1 H1 fp1,r.1,[],by rw [eio];exact QqD rl,List.nodup_nil,(fun _ z=>nomatch z),QbD I1.fh,?_⟩
 cases ef:f r.1 with
 |no=>rw [ef] at hr;exact hr
 |ex c=>
  rw [ef] at hr
  dsimp only at hr ⊢
  intro H' kp' dm'
  have J:SI C F1 H' σ r.2 τ fp1:=I1.step (Same.refl _) (fun b o e=>kp' b o (I1.fh b o e) (by simp)) (fun a ha=>by
   obtain ⟨o,e,_⟩:=I1.mem a ha
   rw [e,kp' a o e (by simp)]) I1.ap (fun _ _ z=>.inl z) (fun b o _ _ e=>kp' b o e (by simp)) dm'
  obtain ⟨fp2,J2⟩:=J.drop
  exact hr F1 H' fp2 J2
 |ok d outs=>
  rw [ef] at hr
  dsimp only at hr ⊢
  intro F' H' v fr fo sF fh' fn' kp' dm' rf ol' nd' ap' frn fon
  have sN:Same F1 (lo F' fp1):=fun b o e=>by
   have nb:b∉fp1:=fun z=>by rw [I1.ap b z] at e;cases e
   rw [QbI nb]
   exact sF b o (by rw [QaM nb];exact e)
  have J:SI C (lo F' fp1) H' σ r.2 τ fp1:=by
   refine I1.step sN (lo_le.trans fh') (fun a ha=>?_) (fun a ha=>QiJ ha) (fun b o e=>?_) (fun b o _ _ e=>kp' b o e (by simp)) dm'
   ·obtain ⟨o,e,_⟩:=I1.mem a ha
    rw [e,kp' a o e (by simp)]
   ·have nb:b∉fp1:=fun z=>by rw [QiJ z] at e;cases e
    rw [QbI nb] at e
    rcases fn' b o e with z | z
    ·rw [QaM nb] at z;exact .inl z
    ·exact .inr (z.up fun y=>I1.dm b y)
  have keepJ:∀ {fp':List Addr},(∀ a∈fp1,a∈fp')->(∀ a,F1 a≠none->a∉fp')->Nx pa F H fp (lo F' fp1) H' fp':=fun {fp'} sub nin=>by
   refine (n1.trans (q:=true) ⟨sN,fun _ b o e=>?_⟩).weak fun z=>by simp [z]
   by_cases hb:b∈fp1
   ·rw [QbU hb] at e
    rw [QbU (sub b hb)]
    exact kp' b o e (by simp)
   ·rw [QaM hb] at e
    rw [QaM (nin b (by rw [e];simp))]
    exact sN b o e
  have some1:∀ a∈fp1,H1 a≠none:=fun a ha z=>by
   obtain ⟨o,e,_⟩:=I1.mem a ha
   rw [z] at e;cases e
  rcases hrk with rfl | rfl
  ·obtain ⟨rv,rfl⟩:=rf
   dsimp only at hr
   by_cases hi:d.imm=true
   ·rw [if_pos hi] at hr
    exact hr _ H' fp1 v J (keepJ (fun a ha=>ha) fun a hF hm=>hF (I1.ap a hm)) (R.lo (hmt sF) rv hi)
   ·rw [if_neg hi] at hr;exact hr.elim
  ·dsimp only at hr
   have ndall:(fr++fp1).Nodup:=List.nodup_append.mpr ⟨(List.nodup_append.mp nd').1,I1.nd,fun a ha b hb z=>by
    subst z;exact some1 a hb (frn a ha)⟩
   refine hr _ H' _ v (J.push (O.lo (hmt sF) rf) (fun a ha=>I1.dm a (frn a ha)) (fun a ha=>lo_le.free (ap' a (List.mem_append_left _ ha))) ndall) (keepJ (fun a ha=>List.mem_append_right _ ha) fun a hF hm=>?_) True.intro
   rcases List.mem_append.mp hm with z | z
   ·exact hF (I1.fh.free (frn a z))
   ·exact hF (I1.ap a z)
theorem QbW {io:List Bool}{f:List D->Fr}(D:QcO X.prog X.w X.K X.mg X.base n x ps (spF C.K io rk f))(hx:QeJ X E)(hr:Room n X.A)(ha:PA X (e :: es) (tA ks C pa E mr))(hio:io.all (!·)=true:=by rfl)(hl:io.length=ks.length:=by rfl)(hrk:rk=.V\/rk=.O:=by first | exact .inl rfl | exact .inr rfl)(ok:rdL ks=true:=by rfl)(hg:Gl X x:=by rfl)
  (hdb:(x == ("__debug__" : Str))=false:=by decide) (he:starEach (e :: es) X.env=(false,eval e X.env) :: starEach es X.env:=by rfl) (hpl:(backTo pos (starEach es X.env)).any (·.1)=false:=by rfl) :
  PE X (.Call (.Name x px) (e :: es) [] pos) (tX rk C pa E (QaJ rk f mr)):=Qag (Qln D hx hr ha hg hdb he hpl) fun _ _ _ h=>QiL hio hl hrk ok h
end
def Qkq (b:Bool)(d:D):Option Sl:=some (if b then .par d else .frz d)
def QnX (io:List Bool)(n:Nat)(ds:List D):Rho:=List.zipWith Qkq io ds++List.replicate (n - io.length) none
noncomputable def outs:List Bool->Rho->Option (List D)
 |true :: io,some (.par d) :: ρ=>(outs io ρ).map (d :: ·)
 |false :: io,some (.par _) :: ρ=>none
 |false :: io,_ :: ρ=>outs io ρ
 | [],some (.par _) :: ρ=>none
 | [],_ :: ρ=>outs [] ρ
 | [],[]=>some []
 |_,_=>none
def QcJ (io:List Bool)(n:Nat)(mb:MS)(ds:List D):Fr:=match mb (QnX io n ds) with
 |.ok (.rt d,ρ)=>match outs io ρ with
  |some os=>.ok d os
  |none=>.no
 |.ok (.nx,ρ)=>match outs io ρ with
  |some os=>.ok .non os
  |none=>.no
 |.ex c _=>.ex c
 |_=>.no
def Qaz:Nat->List Bool->List L2.V->List (Nat × L2.V)
 |j,true :: io,v :: vs=>(j,v) :: Qaz (j+1) io vs
 |j,false :: io,_ :: vs=>Qaz (j+1) io vs
 |_,_,_=>[]
section
variable {K:PySem.W.Frag}{F H:Hp}
theorem Qkd {N:List Str}{io:List Bool}{vs:List L2.V}{ds:List D}{fp:List Addr}{r:Nat}(al:AL K F H io vs ds fp):SL K F H (vs.map some++List.replicate r none) (List.zipWith Qkq io ds++List.replicate r none) [] fp:=by
 induction al with
 |nil=>
  induction r with
  |zero=>exact .nil
  |succ r ih=>exact .cons (f0:=[]) (g0:=[]) .non ih
 |val h al ih=>exact .cons (f0:=[]) (g0:=[]) (.frz h) ih
 |io h al ih=>exact .cons (f0:=[]) (.par h) ih
theorem Qj1 {io:List Bool}{vs:List L2.V}{ds:List D}{fp:List Addr}{j0 j:Nat}{v:L2.V}{r:Nat}(al:AL K F H io vs ds fp):(j,v)∈Qaz j0 io vs->∃ i,j=j0+i/\(vs.map some++List.replicate r (none:Option L2.V))[i]? = some (some v)/\∃ d,(List.zipWith Qkq io ds++List.replicate r none)[i]? = some (some (.par d)):=by
 induction al generalizing j0 with
 |nil=>intro hm;unfold Qaz at hm;exact nomatch hm
 |val h al ih=>
  intro hm
  unfold Qaz at hm
  obtain ⟨i,e,h1,d,h2⟩:=ih hm
  exact ⟨i+1,by omega,h1,d,h2⟩
 | @io _ _ _ d0 _ _ _ h al ih=>
  intro hm
  unfold Qaz at hm
  rcases List.mem_cons.mp hm with e | hm
  ·cases e
   exact ⟨0,rfl,rfl,_,rfl⟩
  ·obtain ⟨i,e,h1,d,h2⟩:=ih hm
   exact ⟨i+1,by omega,h1,d,h2⟩
theorem QiY {io:List Bool}:∀ {vs:List L2.V} {j0 j:Nat} {u:L2.V},(j,u)∈Qaz j0 io vs->j0<=j:=by
 induction io with
 |nil=>intro vs j0 j u z;unfold Qaz at z;exact nomatch z
 |cons b io ih=>
  intro vs j0 j u z
  cases vs with
  |nil=>cases b<;>(unfold Qaz at z;exact nomatch z)
  |cons w vs=>
   cases b with
   |false=>unfold Qaz at z;exact Nat.le_of_succ_le (ih z)
   |true=>
    unfold Qaz at z
    rcases List.mem_cons.mp z with e | z
    ·cases e;exact Nat.le_refl _
    ·exact Nat.le_of_succ_le (ih z)
theorem Qjc {b:Bool}{io:List Bool}{v:L2.V}{vs:List L2.V}{j0:Nat}{σ:L2.St}{x:Option L2.V}(hp:∀ j u,(j,u)∈Qaz j0 (b :: io) (v :: vs)->∃ i,j=j0+i/\(x :: σ)[i]? = some (some u))(j:Nat)(u:L2.V)(z:(j,u)∈Qaz (j0+1) io vs):∃ i,j=j0+1+i/\σ[i]? = some (some u):=by
 obtain ⟨i,e,q⟩:=hp j u (by cases b<;>(unfold Qaz;first | exact z | exact List.mem_cons_of_mem _ z))
 have lb:=QiY z
 cases i with
 |zero=>omega
 |succ i=>exact ⟨i,by omega,q⟩
theorem Qij {σ:L2.St}{ρ:Rho}{f g:List Addr}(sl:SL K F H σ ρ f g):∀ {io:List Bool} {vs:List L2.V} {os:List D} {j0:Nat},outs io ρ=some os->vs.length=io.length->(∀ j v,(j,v)∈Qaz j0 io vs->∃ i,j=j0+i/\σ[i]? = some (some v))->OL K F H (ioV io vs) os g:=by
 induction sl with
 |nil=>
  intro io vs os j0 h l hp
  cases io with
  |nil=>
   cases vs with
   |nil=>unfold outs at h;cases h;unfold ioV;exact .nil
   |cons=>cases l
  |cons b io=>cases b<;>(unfold outs at h;cases h)
 |cons s r ih=>
  intro io vs os j0 h l hp
  cases io with
  |nil=>
   cases vs with
   |cons=>cases l
   |nil=>
    have hn:∀ {σ:L2.St} (j:Nat) (v:L2.V),(j,v)∈Qaz j0 [] []->∃ i,j=j0+i/\σ[i]? = some (some v):=fun j v z=>by unfold Qaz at z;exact nomatch z
    cases s with
    |par _=>unfold outs at h;cases h
    |non=>unfold outs at h;exact ih (vs:=[]) h rfl hn
    |frz _=>unfold outs at h;exact ih (vs:=[]) h rfl hn
    |own _=>unfold outs at h;exact ih (vs:=[]) h rfl hn
  |cons b io=>
   cases vs with
   |nil=>cases l
   |cons v vs=>
    have l':vs.length=io.length:=Nat.succ.inj l
    have tl:=Qjc hp
    cases b with
    |false=>
     unfold ioV
     cases s with
     |par _=>unfold outs at h;cases h
     |non=>unfold outs at h;exact ih h l' tl
     |frz _=>unfold outs at h;exact ih h l' tl
     |own _=>unfold outs at h;exact ih h l' tl
    |true=>
     obtain ⟨i0,e0,q0⟩:=hp j0 v (by unfold Qaz;exact List.mem_cons_self)
     have:i0=0:=by omega
     subst this
     unfold ioV
     cases s with
     |non=>unfold outs at h;cases h
     |frz _=>unfold outs at h;cases h
     |own _=>unfold outs at h;cases h
     |par o=>
      unfold outs at h
      obtain ⟨r',hr',rfl⟩:=Option.map_eq_some_iff.mp h
      have ev:v=_:=(Option.some.inj (Option.some.inj q0)).symm
      subst ev
      exact .cons o (ih hr' l' tl)
end
theorem fnT {P:Program}{w:World}{K:PySem.W.Frag}{mg:Str->Option Value}{base:Heap}{x qual:Str}{st:Stmt}{f:Addr}{fd:FuncData}{N ps:List Str}{k:Nat}{io:List Bool}{rk:Kd}{mb:MS}(Fn:Fun K x qual st f fd)(S:QcS N ps (Qal st))(hio:io.length=ps.length)(hrk:rk=.V\/rk=.O)
  (hbody:∀ (cdv:Value) (A:Around) (outer:List Env) (s:Shared) (H:Hp) (E:XK) (C:Cn),C.K=K->Room k (A.deeper (PyProof.Rows.envOfC qual (Qal st) s.heap.objs.size f cdv))->A.handled=none->
   PSs (Qb3 (CXe P w) P w K mg base N qual (Qal st) f cdv A outer s H E) (Qbc st) (tS rk C (fun _=>E) mb)):FnOk P w K mg base (CXe P w) (k+1) f fd ps (spF K io rk (QcJ io N.length mb)):=by
 refine Fn.okE S (fun vs H Q E h=>?_) (fun cdv A outer s H vs Q E hr hd h=>?_)
 ·obtain ⟨F,ds,fp,al,_⟩:=h
  rw [al.len,hio]
 ·obtain ⟨F,ds,fp,al,nd,ap,fh,h⟩:=h
  have hl:=al.len
  let C:Cn:=⟨K,H,F,fp,Qaz 0 io vs⟩
  refine ⟨_,hbody cdv A outer s H E C rfl hr hd,?_⟩
  have est:L2.QcW N vs=vs.map some++List.replicate (N.length - io.length) none:=by unfold L2.QcW;rw [hl]
  have I:SI C F H (L2.QcW N vs) (QnX io N.length ds) [] fp:=by
   rw [est]
   refine ⟨⟨[],fp,[],Qkd (N:=N) al,.nil,by simp,(fun _ z=>nomatch z),(fun _ z=>nomatch z),fun a ha=>.inl ha⟩,nd,ap,fh,Same.refl F,fun b o e=>.inl e,fun b o e _=>e,fun b e=>e,fun j v hj=>?_⟩
   obtain ⟨i,e,h1,d,h2⟩:=Qj1 (r:=N.length - io.length) al hj
   have e':j=i:=by omega
   subst e'
   exact ⟨h1,d,h2⟩
  refine ⟨F,_,fp,I,?_⟩
  unfold QcJ at h
  -- what is handed back
  have fin:∀ {os:List D} {ρ:Rho} {d:D} {F' H':Hp} {σ':L2.St} {fp':List Addr} {v:L2.V},outs io ρ=some os->SI C F' H' σ' ρ (rk.tk v d []) fp'->rk.fc C F' H' fp' σ' v d->(∀ F' H' v fr fo,Same F F'->Same F' H'->(∀ b o,F' b=some o->F b=some o\/Nw H b o)->(∀ b o,H b=some o->b∉fp->H' b=some o)->(∀ b,H' b=none->H b=none)->RkF rk K F' H' v d fr->OL K F' H' (ioV io vs) os fo->
    (fr++fo).Nodup->(∀ a∈fr++fo,F' a=none)->(∀ a∈fr,H a=none)->(∀ a∈fo,a∈fp\/H a=none)->Q v H')->Q v H':=fun {os ρ d F' H' σ' fp' v} eo J fc q=>by
   obtain ⟨f1,g1,t1,sl,ol,pm,w1,w2,w3⟩:=J.sl
   have og:=Qij (j0:=0) (vs:=vs) sl eo hl (fun j u hj=>⟨j,by omega,(J.pr j u hj).1⟩)
   have ndp:=pm.nodup_iff.mp J.nd
   have inn:∀ a,a∈f1\/a∈g1\/a∈t1->a∈fp':=fun a z=>pm.mem_iff.mpr (by simpa using z)
   rcases hrk with rfl | rfl
   ·exact q F' H' v [] g1 J.f0 J.fh J.fn J.kp J.dm ⟨fc,rfl⟩ og (List.nodup_append.mp (List.nodup_append.mp ndp).2.1).1 (fun a ha=>J.ap a (inn a (.inr (.inl ha)))) (fun _ z=>nomatch z) w3
   ·cases ol with
    | @cons _ _ _ _ ta tb oa ob=>
     cases ob
     have e1:ta++[]=ta:=List.append_nil ta
     refine q F' H' v ta g1 J.f0 J.fh J.fn J.kp J.dm oa og ?_ (fun a ha=>J.ap a (inn a (by rw [e1];exact (List.mem_append.mp ha).elim (fun z=>.inr (.inr z)) fun z=>.inr (.inl z)))) (fun a ha=>w2 a (by rw [e1];exact ha)) w3
     have n2:=(List.nodup_append.mp ndp).2.1
     rw [e1] at n2
     exact (List.perm_append_comm).nodup_iff.mp n2
  cases eb:mb (QnX io N.length ds) with
  |no=>rw [eb] at h;exact h.elim
  |ex c ρ=>
   rw [eb] at h
   exact fun F' H' σ' fp' J=>h H' J.kp J.dm
  |ok q=>
   obtain ⟨fl,ρ⟩:=q
   rw [eb] at h
   cases fl with
   |bk=>exact h.elim
   |ct=>exact h.elim
   |nx=>
    dsimp only at h
    cases eo:outs io ρ with
    |none=>rw [eo] at h;exact h.elim
    |some os=>
     rw [eo] at h
     refine fun F' H' σ' fp' s' J=>?_
     rcases hrk with rfl | rfl
     ·exact fin (d:=.non) (v:=.non) eo J (.sc rfl) h
     ·exact fin (d:=.non) (v:=.non) eo (J.push (f:=[]) (.sc rfl) (fun _ z=>nomatch z) (fun _ z=>nomatch z) (by simpa using J.nd)) True.intro h
   |rt d=>
    dsimp only at h
    cases eo:outs io ρ with
    |none=>rw [eo] at h;exact h.elim
    |some os=>
     rw [eo] at h
     exact fun F' H' σ' fp' v s' J fc=>fin eo J fc h
inductive Cp where
 /-- the block's own name;a name of the def that is known;one that may be changed -/
 |me | fz (i:Nat) | io (i:Nat)
def Cp.ix:Cp->Option Nat
 |.me=>none
 |.fz i=>some i
 |.io i=>some i
def Cp.is:Cp->Option Nat
 |.io i=>some i
 |_=>none
noncomputable def Qc3 (ρ:Rho):List Cp->List D->Option Rho
 | [],_=>some []
 |.me :: cs,di=>(Qc3 ρ cs di).map (none :: ·)
 |.fz i :: cs,di=>match ρ[i]? with
  |some (some (.frz d))=>(Qc3 ρ cs di).map (some (.frz d) :: ·)
  |some none=>(Qc3 ρ cs di).map (none :: ·)
  |_=>none
 |.io _ :: cs,d :: di=>(Qc3 ρ cs di).map (some (.par d) :: ·)
 |.io _ :: _,[]=>none
def ioB:List Cp->List Bool:=List.map fun c=>match c with
 |.io _=>true
 |_=>false
def QcR (j:Nat)(tc:MT)(te:ME):List D->Rho->List D->Rs (List D × Rho)
 | [],ρ,acc=>.ok (acc,ρ)
 |d :: ds,ρ,acc=>(Rs.of (setF ρ j d)).bind fun ρ0=>(tc ρ0).bind fun c=>if c.1=true then (te c.2).bind fun r=>if acc.length<sizeLine then QcR j tc te ds (r.2.set j none) (acc++[r.1]) else .no
  else QcR j tc te ds (c.2.set j none) acc
def Qa5 (par:Bool)(cs:List Cp)(j:Nat)(mi:MA)(tc:MT)(te:ME):ME:=fun ρ=>(mi ρ).bind fun r=>(Rs.of (QbX par r.2 (cs.filterMap Cp.is))).bind fun di=>(Rs.of (Qc3 r.2 cs di)).bind fun ρb=>
 match QcR j tc te r.1 ρb [] with
 |.ok q=>(Rs.of (outs (ioB cs) q.2)).bind fun os=>.ok (.lst q.1,QbA par r.2 (cs.filterMap Cp.is) os)
 |_=>.no
abbrev EF:XE:=fun _ _ _ _=>False
theorem QeM {X:Cx}:QeJ X EF:=fun pins σ H s e s' I h=>by
 obtain ⟨_,_,_,_,_,_,_,_,_,_,k⟩:=h
 exact k.elim
theorem Run.ef {C:Cn}{σ:L2.St}{α:Type}{r:Rs α}{a:α}{k:α->Prop}(e:r=.ok a)(h:k a):Run C EF σ r k:=by rw [e];exact h
section
variable {K:PySem.W.Frag}{F H:Hp}
theorem Qpc {vs:List L2.V}{ds:List D}{f:List Addr}(r:OL K F H vs ds f):∃ f',OL K F H vs.reverse ds.reverse f'/\f.Perm f':=
 ((O.ind (P:=fun v d f=>O K F H v d f) (Q:=fun vs ds f=>OL K F H vs ds f/\∃ f',OL K F H vs.reverse ds.reverse f'/\f.Perm f') .sc (fun m h q=>.im m h q.1) (fun h q=>.mt h q.1) ⟨.nil,[],.nil,.refl _⟩ (fun {_ _ _ _ f g} h q=>⟨.cons h q.1,by
  obtain ⟨f',o,p⟩:=q.2
  refine ⟨f'++(f++[]),by rw [List.reverse_cons,List.reverse_cons];exact o.app (.cons h .nil),?_⟩
  rw [List.append_nil]
  exact (List.perm_append_comm).trans (p.append_right f)⟩)).2 _ _ _ r).2
theorem QfV {α β:Type}:∀ {l:List α} {m:List β},l.length=m.length->(l.zip m).map (·.1)=l
 | [],[],_=>rfl
 | [],_ :: _,h=>by cases h
 |_ :: _,[],h=>by cases h
 |a :: l,b :: m,h=>by rw [List.zip_cons_cons,List.map_cons,QfV (by simpa using h)]
theorem QjN {α β:Type}:∀ {l:List α} {m:List β},l.length=m.length->(l.zip m).map (·.2)=m
 | [],[],_=>rfl
 | [],_ :: _,h=>by cases h
 |_ :: _,[],h=>by cases h
 |a :: l,b :: m,h=>by rw [List.zip_cons_cons,List.map_cons,QjN (by simpa using h)]
theorem QeP {C:Cn}{σ:L2.St}{ρ:Rho}{τ:List (L2.V × D)}{fp:List Addr}(I:SI C F H σ ρ τ fp)(hK:C.K=K):∀ {cs:List Cp} {vi:List L2.V} {di:List D} {f:List Addr} {ρb:Rho},Sig σ (cs.filterMap Cp.is) vi->OL K F H vi di f->Qc3 ρ cs di=some ρb->SL K F H (QaG (cs.map Cp.ix) σ) ρb [] f
 | [],_,_,_,_,.nil,.nil,h=>by unfold Qc3 at h;cases h;exact .nil
 |.me :: cs,vi,di,f,ρb,sg,ol,h=>by
  unfold Qc3 at h
  obtain ⟨r,hr,rfl⟩:=Option.map_eq_some_iff.mp h
  exact .cons (f0:=[]) (g0:=[]) .non (QeP I hK sg ol hr)
 |.fz i :: cs,vi,di,f,ρb,sg,ol,h=>by
  unfold Qc3 at h
  split at h
  ·next d e=>
   obtain ⟨r,hr,rfl⟩:=Option.map_eq_some_iff.mp h
   obtain ⟨x,f0,g0,rest,ex,s1,_⟩:=I.cut e
   cases s1 with
   | @frz v _ hd=>
    have e2:QaG ((Cp.fz i :: cs).map Cp.ix) σ=some v :: QaG (cs.map Cp.ix) σ:=by
     unfold QaG
     rw [List.map_cons,List.map_cons]
     show ((some i).bind fun i=>(σ[i]?).join) :: _=_
     rw [Option.bind_some,ex]
     rfl
    rw [e2]
    exact .cons (f0:=[]) (g0:=[]) (.frz (hK▸hd)) (QeP I hK sg ol hr)
  ·obtain ⟨r,hr,rfl⟩:=Option.map_eq_some_iff.mp h
   exact .cons (f0:=[]) (g0:=[]) .non (QeP I hK sg ol hr)
  ·cases h
 |.io i :: cs,_,_,_,ρb,.cons (v:=v) e sg,.cons o ol,h=>by
  unfold Qc3 at h
  obtain ⟨r,hr,rfl⟩:=Option.map_eq_some_iff.mp h
  have e2:QaG ((Cp.io i :: cs).map Cp.ix) σ=some v :: QaG (cs.map Cp.ix) σ:=by
   unfold QaG
   rw [List.map_cons,List.map_cons]
   show ((some i).bind fun i=>(σ[i]?).join) :: _=_
   rw [Option.bind_some,e]
   rfl
  rw [e2]
  exact .cons (f0:=[]) (.par o) (QeP I hK sg ol hr)
def vsB:List Cp->List L2.V->List L2.V
 |.io _ :: cs,v :: vi=>v :: vsB cs vi
 |.io _ :: cs,[]=>.non :: vsB cs []
 |_ :: cs,vi=>.non :: vsB cs vi
 | [],_=>[]
theorem Qdn:∀ {cs:List Cp} {vi:List L2.V},(vsB cs vi).length=(ioB cs).length
 | [],_=>by unfold vsB;rfl
 |.me :: cs,vi=>by unfold vsB;rw [List.length_cons,Qdn];rfl
 |.fz i :: cs,vi=>by unfold vsB;rw [List.length_cons,Qdn];rfl
 |.io i :: cs,[]=>by unfold vsB;rw [List.length_cons,Qdn];rfl
 |.io i :: cs,v :: vi=>by unfold vsB;rw [List.length_cons,Qdn];rfl
theorem Qey {σ:L2.St}:∀ {cs:List Cp} {vi:List L2.V},Sig σ (cs.filterMap Cp.is) vi->ioV (ioB cs) (vsB cs vi)=vi
 | [],_,.nil=>rfl
 |.me :: cs,vi,sg=>Qey (cs:=cs) sg
 |.fz i :: cs,vi,sg=>Qey (cs:=cs) sg
 |.io i :: cs,_,.cons e sg=>congrArg _ (Qey (cs:=cs) sg)
theorem Qig {σ:L2.St}:∀ {cs:List Cp} {vi:List L2.V} {j0 j:Nat} {v:L2.V},Sig σ (cs.filterMap Cp.is) vi->(j,v)∈Qaz j0 (ioB cs) (vsB cs vi)->∃ i,j=j0+i/\(QaG (cs.map Cp.ix) σ)[i]? = some (some v)
 | [],_,j0,j,v,.nil,h=>by
  have:(j,v)∈([]:List (Nat × L2.V)):=h
  exact nomatch this
 |.me :: cs,vi,j0,j,v,sg,h=>by
  obtain ⟨i,e,q⟩:=Qig (cs:=cs) (j0:=j0+1) sg h
  exact ⟨i+1,by omega,by unfold QaG at q ⊢;simpa using q⟩
 |.fz _ :: cs,vi,j0,j,v,sg,h=>by
  obtain ⟨i,e,q⟩:=Qig (cs:=cs) (j0:=j0+1) sg h
  exact ⟨i+1,by omega,by unfold QaG at q ⊢;simpa using q⟩
 |.io i0 :: cs,_,j0,j,v,.cons (v:=v0) e0 sg,h=>by
  rcases List.mem_cons.mp (show (j,v)∈(j0,v0) :: Qaz (j0+1) (ioB cs) (vsB cs _) from h) with e | h
  ·cases e
   refine ⟨0,rfl,?_⟩
   unfold QaG
   rw [List.map_cons,List.map_cons]
   show some ((some i0).bind fun i=>(σ[i]?).join)=_
   rw [Option.bind_some,e0]
   rfl
  ·obtain ⟨i,e,q⟩:=Qig (cs:=cs) (j0:=j0+1) sg h
   exact ⟨i+1,by omega,by unfold QaG at q ⊢;simpa using q⟩
theorem QdU {σ:L2.St}{ρ:Rho}:∀ {cs:List Cp} {vi:List L2.V} {di:List D} {ρb:Rho} {j0 j:Nat} {v:L2.V},Qc3 ρ cs di=some ρb->(j,v)∈Qaz j0 (ioB cs) (vsB cs vi)->∃ i,j=j0+i/\∃ d,ρb[i]? = some (some (.par d))
 | [],_,_,_,j0,j,v,_,h=>by
  have:(j,v)∈([]:List (Nat × L2.V)):=h
  exact nomatch this
 |.me :: cs,vi,di,ρb,j0,j,v,hc,h=>by
  unfold Qc3 at hc
  obtain ⟨r,hr,rfl⟩:=Option.map_eq_some_iff.mp hc
  obtain ⟨i,e,d,q⟩:=QdU (σ:=σ) (cs:=cs) (vi:=vi) (j0:=j0+1) hr h
  exact ⟨i+1,by omega,d,by simpa using q⟩
 |.fz i0 :: cs,vi,di,ρb,j0,j,v,hc,h=>by
  unfold Qc3 at hc
  split at hc
  ·obtain ⟨r,hr,rfl⟩:=Option.map_eq_some_iff.mp hc
   obtain ⟨i,e,d,q⟩:=QdU (σ:=σ) (cs:=cs) (vi:=vi) (j0:=j0+1) hr h
   exact ⟨i+1,by omega,d,by simpa using q⟩
  ·obtain ⟨r,hr,rfl⟩:=Option.map_eq_some_iff.mp hc
   obtain ⟨i,e,d,q⟩:=QdU (σ:=σ) (cs:=cs) (vi:=vi) (j0:=j0+1) hr h
   exact ⟨i+1,by omega,d,by simpa using q⟩
  ·cases hc
 |.io i0 :: cs,vi,[],ρb,j0,j,v,hc,h=>by unfold Qc3 at hc;cases hc
 |.io i0 :: cs,vi,d0 :: di,ρb,j0,j,v,hc,h=>by
  unfold Qc3 at hc
  obtain ⟨r,hr,rfl⟩:=Option.map_eq_some_iff.mp hc
  cases vi with
  |nil=>
   rcases List.mem_cons.mp (show (j,v)∈(j0,V.non) :: Qaz (j0+1) (ioB cs) (vsB cs []) from h) with e | h
   ·cases e;exact ⟨0,rfl,d0,rfl⟩
   ·obtain ⟨i,e,d,q⟩:=QdU (σ:=σ) (cs:=cs) (vi:=[]) (j0:=j0+1) hr h
    exact ⟨i+1,by omega,d,by simpa using q⟩
  |cons v0 vi=>
   rcases List.mem_cons.mp (show (j,v)∈(j0,v0) :: Qaz (j0+1) (ioB cs) (vsB cs vi) from h) with e | h
   ·cases e;exact ⟨0,rfl,d0,rfl⟩
   ·obtain ⟨i,e,d,q⟩:=QdU (σ:=σ) (cs:=cs) (vi:=vi) (j0:=j0+1) hr h
    exact ⟨i+1,by omega,d,by simpa using q⟩
end
section
variable {X:Cx}{C:Cn}{E:XE}{p pa pc pe:Bool}{m me:ME}{mt:MT}{mi:MA}{pos:Pos}{k rk:Kd}{elt iter:Expr}{x:Str}{px:Pos}{ifs:List Expr}{scope:Scope}{N:List Str}{cs:List Cp}{j:Nat}{par:Bool}
theorem SI.clr {F H:Hp}{σ:L2.St}{ρ:Rho}{τ:List (L2.V × D)}{fp:List Addr}{y:Option L2.V}{x:L2.V}(I:SI C F H (σ.set j y) ρ τ fp)(hj:σ[j]? = some none)(np:∀ v,(j,v)∉C.pars):∃ fp',SI C F H σ (ρ.set j none) τ fp':=by
 have lj:j<σ.length:=(List.getElem?_eq_some_iff.mp hj).1
 have lr:j<ρ.length:=by rw [← I.len,List.length_set];exact lj
 obtain ⟨z,f0,g0,rest,ez,s1,pm,w0,w1,cl⟩:=I.cut (i:=j) (s:=ρ[j]) (List.getElem?_eq_getElem lr)
 have nd:=pm.nodup_iff.mp I.nd
 have q:=cl (x':=none) (s':=none) (f0':=[]) (g0':=[]) (Same.refl F) I.fh (fun _ _=>rfl) (fun _ z=>z) (fun _ _ _ _ z=>z) (fun _ _ z=>.inl z) .non (List.nodup_append.mp (List.nodup_append.mp nd).2.1).2.1 (fun a ha=>I.ap a (pm.mem_iff.mpr (by simp at ha;simp [ha]))) (fun _ z=>nomatch z) (fun _ z=>nomatch z) (fun v hv=>(np v hv).elim)
 rw [List.set_set,QaR hj] at q
 exact ⟨_,q⟩
def exT (K:PySem.W.Frag)(p:Bool)(m:MT):TT:=fun σ H Q=>∃ Cb:Cn,Cb.K=K/\tT Cb p EF m σ H Q
def exX (k:Kd)(K:PySem.W.Frag)(p:Bool)(m:ME):TE:=fun σ H Q=>∃ Cb:Cn,Cb.K=K/\tX k Cb p EF m σ H Q
def Qhv:MT:=fun ρ=>.ok (true,ρ)
theorem Qby {X:Cx}{K:PySem.W.Frag}:PIf X [] (exT K true Qhv):=fun pins s σ H Q I ⟨Cb,_,F,ρ,τ,fp,J,h⟩=>QmW pins s σ H Q I (h F H fp J .refl)
theorem Qc8 {X:Cx}{K:PySem.W.Frag}{e:Expr}(h:∀ Cb:Cn,Cb.K=K->PE X e (tX k Cb p EF m)):PE X e (exX k K p m):=fun pins s σ H Q I ⟨Cb,hk,q⟩=>h Cb hk pins s σ H Q I q
structure ItC (C:Cn)(F:Hp)(ds:List D)(J:It):Prop where
 go:∀ {F' H:Hp} {σ:L2.St} {ρ:Rho} {τ:List (L2.V × D)} {fp:List Addr} {i:Nat} {d:D},SI C F' H σ ρ τ fp->Same F F'->ds[i]? = some d->J.go i H/\∀ x H',J.yld i H x H'->∃ F'',SI C F'' H' σ ρ τ fp/\Nx true F' H fp F'' H' fp/\R C.K F'' x d
 stop:∀ {F' H:Hp} {σ:L2.St} {ρ:Rho} {τ:List (L2.V × D)} {fp:List Addr},SI C F' H σ ρ τ fp->Same F F'->J.stop ds.length H
def Qb0 (tg:D->Rho->Option Rho)(cl:Rho->Rho)(tc:MT)(te:ME):List D->Rho->List D->Rs (List D × Rho)
 | [],ρ,acc=>.ok (acc,ρ)
 |d :: ds,ρ,acc=>(Rs.of (tg d ρ)).bind fun ρ0=>(tc ρ0).bind fun c=>if c.1=true then (te c.2).bind fun r=>if acc.length<sizeLine then Qb0 tg cl tc te ds (cl r.2) (acc++[r.1]) else .no
  else Qb0 tg cl tc te ds (cl c.2) acc
def QsK (K:PySem.W.Frag)(cs:List Cp)(blk:L2.St)(tg:D->Rho->Option Rho)(cl:Rho->Rho)(g:TG):Prop:=
 ∀ {Cb:Cn} {F H:Hp} {ρ ρ':Rho} {τ:List (L2.V × D)} {fp:List Addr} {x:L2.V} {d:D},Cb.K=K->(∀ k:Nat,cs[k]? = some Cp.me->∀ v,(k,v)∉Cb.pars)->SI Cb F H blk ρ τ fp->R Cb.K F x d->tg d ρ=some ρ'->
  ∃ σ' fp',SI Cb F H σ' ρ' τ fp'/\Ext blk σ'/\(∀ Q:L2.St->Hp->Prop,Q σ' H->g x blk H Q)/\∀ {F'' H'':Hp} {ρ'':Rho} {τ'':List (L2.V × D)} {fp'':List Addr},SI Cb F'' H'' σ' ρ'' τ'' fp''->∃ fp7,SI Cb F'' H'' blk (cl ρ'') τ'' fp7
def Qkp (par:Bool)(cs:List Cp)(tg:D->Rho->Option Rho)(cl:Rho->Rho)(mt:MT)(me:ME)(r:List D × Rho):Rs (D × Rho):=(Rs.of (QbX par r.2 (cs.filterMap Cp.is))).bind fun di=>(Rs.of (Qc3 r.2 cs di)).bind fun ρb=>
 match Qb0 tg cl mt me r.1 ρb [] with
 |.ok q=>(Rs.of (outs (ioB cs) q.2)).bind fun os=>.ok (.lst q.1,QbA par r.2 (cs.filterMap Cp.is) os)
 |_=>.no
theorem Qj3 {tg:D->Rho->Option Rho}{cz:Rho->Rho}{g:TG}(hK:C.K=X.K)(nd:(cs.filterMap Cp.is).Nodup)(hp:p=true->cs.filterMap Cp.is=[]){σ:L2.St}{F H F1 H1:Hp}{ρ1:Rho}{τ:List (L2.V × D)}{fp fp1:List Addr}{ds0:List D}{J:It}{Q:VK}
  (tgk:QsK X.K cs (QaG (cs.map Cp.ix) σ) tg cz g) (I1:SI C F1 H1 σ ρ1 τ fp1) (n1:Nx pa F H fp F1 H1 fp1) (its:∀ Cb:Cn,Cb.K=C.K->Cb.H₀=H1->Cb.F₀=F1->(cs.filterMap Cp.is=[]->Cb.A=[])->ItC Cb F1 ds0 J)
  (hr:Run C E σ (Qkp par cs tg cz mt me (ds0,ρ1)) fun r=>∀ F' H' fp' v,SI C F' H' σ r.2 (Kd.O.tk v r.1 τ) fp'->Nx (pa && p) F H fp F' H' fp'->Kd.O.fc C F' H' fp' σ v r.1->Q v H') :
  ∃ W:Nat->Nat->List V->Hp->Prop,(∃ m,W 0 m [] H1)/\∀ i m ys H,W i m ys H->
   (J.stop i H/\∀ D,H D=none->Q (.ref D) (upd H D (.lst ys)))\/
   (J.go i H/\∃ N:List V->Hp->Prop,(∀ ys' H',N ys' H'->∃ m',m' < m/\W (i+1) m' ys' H')/\∀ x H',J.yld i H x H'->
    g x (QaG (cs.map Cp.ix) σ) H' fun τ' H1'=>Ext (QaG (cs.map Cp.ix) σ) τ'/\exT X.K pc mt τ' H1' fun c H2=>if c=true then exX .O X.K pe me τ' H2 fun y H3=>ys.length<sizeLine/\N (ys++[y]) H3 else N ys H2):=by
 unfold Qkp at hr
 dsimp only at hr
 obtain ⟨di,eg,h2⟩:=hr.split.of
 obtain ⟨ρb,eb,h3⟩:=h2.split.of
 obtain ⟨vi,f,rest,sg,ol,pm,w,cl⟩:=I1.lend nd eg
 have ndp:=pm.nodup_iff.mp I1.nd
 have inl:∀ a∈f,a∈fp1:=fun a ha=>pm.mem_iff.mpr (List.mem_append_left _ ha)
 have inr:∀ a∈rest,a∈fp1:=fun a ha=>pm.mem_iff.mpr (List.mem_append_right _ ha)
 have dis:∀ a∈rest,a∉f:=fun a ha hf=>(List.nodup_append.mp ndp).2.2 a hf a ha rfl
 cases ec:Qb0 tg cz mt me ds0 ρb [] with
 |no=>rw [ec] at h3;exact h3.elim
 |ex c q=>rw [ec] at h3;exact h3.elim
 |ok q=>
  obtain ⟨accF,ρF⟩:=q
  rw [ec] at h3
  obtain ⟨os,eo,h4⟩:=h3.split.of
  let Cb:Cn:=⟨X.K,H1,F1,f,Qaz 0 (ioB cs) (vsB cs vi)⟩
  have it:ItC Cb F1 ds0 J:=its Cb hK.symm rfl rfl fun q=>by
   rw [q] at sg
   cases sg
   cases ol
   rfl
  have IB:SI Cb F1 H1 (QaG (cs.map Cp.ix) σ) ρb [] f:=by
   refine ⟨⟨[],f,[],QeP I1 hK sg (hK▸ol) eb,.nil,by simp,(fun _ z=>nomatch z),(fun _ z=>nomatch z),fun a ha=>.inl ha⟩,(List.nodup_append.mp ndp).1,fun a ha=>I1.ap a (inl a ha),I1.fh,Same.refl _,fun b o e=>.inl e,fun b o e _=>e,fun b e=>e,fun i v hi=>?_⟩
   obtain ⟨i1,e1,q1⟩:=Qig sg hi
   obtain ⟨i2,e2,d2,q2⟩:=QdU (σ:=σ) eb hi
   have:i1=i:=by omega
   subst this
   have:i2=i1:=by omega
   subst this
   exact ⟨q1,d2,q2⟩
  have hbk:∀ k:Nat,cs[k]? = some Cp.me->(QaG (cs.map Cp.ix) σ)[k]? = some none:=fun k hk=>by
   unfold QaG
   rw [List.getElem?_map,List.getElem?_map,hk]
   rfl
  have npk:∀ k:Nat,cs[k]? = some Cp.me->∀ v,(k,v)∉Cb.pars:=fun k hk v hv=>by
   obtain ⟨i1,e1,q1⟩:=Qig sg hv
   have:i1=k:=by omega
   subst this
   rw [hbk i1 hk] at q1;cases q1
  refine ⟨fun i mm ys H'=>mm=ds0.length - i/\i<=ds0.length/\∃ F' ρ' acc fp',SI Cb F' H' (QaG (cs.map Cp.ix) σ) ρ' ((ys.zip acc).reverse) fp'/\ys.length=acc.length/\Same F1 F'/\Qb0 tg cz mt me (ds0.drop i) ρ' acc=.ok (accF,ρF),⟨ds0.length,by simp,Nat.zero_le _,F1,ρb,[],f,IB,rfl,Same.refl _,by rw [List.drop_zero];exact ec⟩,?_⟩
  rintro i mm ys H2 ⟨rfl,hi2,F2,ρ2,acc,fp2,I2,lya,s2,k2⟩
  by_cases hlt:i<ds0.length
  ·obtain ⟨d,ed⟩:∃ d,ds0[i]? = some d:=⟨ds0[i],List.getElem?_eq_getElem hlt⟩
   obtain ⟨g1,g2⟩:=it.go I2 s2 ed
   have edr:ds0.drop i=d :: ds0.drop (i+1):=by
    rw [List.drop_eq_getElem_cons hlt]
    have:ds0[i]=d:=by rw [List.getElem?_eq_getElem hlt] at ed;exact Option.some.inj ed
    rw [this]
   rw [edr] at k2
   unfold Qb0 at k2
   cases es:tg d ρ2 with
   |none=>rw [es] at k2;cases k2
   |some ρ3=>
    rw [es] at k2
    change (mt ρ3).bind _=_ at k2
    refine .inr ⟨g1,fun ys' H'=>∃ F' ρ' acc fp',SI Cb F' H' (QaG (cs.map Cp.ix) σ) ρ' ((ys'.zip acc).reverse) fp'/\ys'.length=acc.length/\Same F1 F'/\Qb0 tg cz mt me (ds0.drop (i+1)) ρ' acc=.ok (accF,ρF),fun ys' H' z=>⟨_,by omega,rfl,hlt,z⟩,fun x0 H' y=>?_⟩
    obtain ⟨F3,I3,n3,r3⟩:=g2 x0 H' y
    have s3:Same F1 F3:=s2.trans n3.f
    obtain ⟨σ',fp4,I4,ex,gq,clr⟩:=tgk (Cb:=Cb) rfl npk I3 r3 es
    refine gq _ ⟨ex,?_⟩
    cases et:mt ρ3 with
    |no=>rw [et] at k2;cases k2
    |ex c q=>rw [et] at k2;cases k2
    |ok q=>
     obtain ⟨c,ρ5⟩:=q
     rw [et] at k2
     change (if c=true then _ else _)=_ at k2
     refine ⟨Cb,rfl,F3,ρ3,_,fp4,I4,Run.ef et fun F5 H5 fp5 I5 n5=>?_⟩
     have s5:Same F1 F5:=s3.trans n5.f
     change (if c=true then _ else _)
     by_cases hc:c=true
     ·rw [if_pos hc] at k2 ⊢
      cases ee:me ρ5 with
      |no=>rw [ee] at k2;cases k2
      |ex c q=>rw [ee] at k2;cases k2
      |ok q=>
       obtain ⟨d6,ρ6⟩:=q
       rw [ee] at k2
       change (if acc.length<sizeLine then _ else _)=_ at k2
       refine ⟨Cb,rfl,F5,ρ5,_,fp5,I5,Run.ef ee fun F6 H6 fp6 v6 I6 n6 _=>?_⟩
       by_cases hz:acc.length<sizeLine
       ·rw [if_pos hz] at k2
        refine ⟨by rw [lya];exact hz,?_⟩
        obtain ⟨fp7,I7⟩:=clr I6
        refine ⟨F6,_,acc++[d6],fp7,?_,by simp [lya],s5.trans n6.f,k2⟩
        have ez:((ys++[v6]).zip (acc++[d6])).reverse=(v6,d6) :: (ys.zip acc).reverse:=by
         rw [List.zip_append lya,List.reverse_append]
         rfl
        rw [ez]
        exact I7
       ·rw [if_neg hz] at k2;cases k2
     ·rw [if_neg hc] at k2 ⊢
      obtain ⟨fp7,I7⟩:=clr I5
      exact ⟨F5,_,acc,fp7,I7,lya,s5,k2⟩
  ·have e:i=ds0.length:=by omega
   subst e
   rw [List.drop_length] at k2
   unfold Qb0 at k2
   cases k2
   refine .inl ⟨it.stop I2 s2,fun Dd hD=>?_⟩
   obtain ⟨f1,g1,t1,sl,ot,pm2,w1,w2,w3⟩:=I2.sl
   have og:=Qij (j0:=0) (vs:=vsB cs vi) sl eo Qdn (fun i u hi=>⟨i,by omega,(I2.pr i u hi).1⟩)
   rw [Qey sg] at og
   have ot':OL Cb.K F2 H2 ys.reverse accF.reverse t1:=by
    have e1:((ys.zip accF).reverse).map (·.1)=ys.reverse:=by rw [List.map_reverse,QfV lya]
    have e2:((ys.zip accF).reverse).map (·.2)=accF.reverse:=by rw [List.map_reverse,QjN lya]
    rw [e1,e2] at ot
    exact ot
   obtain ⟨t2,oy,pt⟩:=Qpc ot'
   rw [List.reverse_reverse,List.reverse_reverse] at oy
   have ndp2:=pm2.nodup_iff.mp I2.nd
   have inn:∀ a,a∈f1\/a∈g1\/a∈t1->a∈fp2:=fun a z=>pm2.mem_iff.mpr (by simpa using z)
   have some2:∀ a∈fp2,H2 a≠none:=fun a ha z=>by
    obtain ⟨o,e,_⟩:=I2.mem a ha
    rw [z] at e;cases e
   have some1:∀ a∈fp1,H1 a≠none:=fun a ha z=>by
    obtain ⟨o,e,_⟩:=I1.mem a ha
    rw [z] at e;cases e
   have nD:∀ a,H2 a≠none->a≠Dd:=fun a h z=>h (z▸hD)
   have hkeep:∀ b o,H1 b=some o->b∉f->H2 b=some o:=fun b o e n=>I2.kp b o e n
   have H1D:H1 Dd=none:=I2.dm Dd hD
   have fD:F2 Dd=none:=I2.fh.free hD
   have sH:Same H2 (upd H2 Dd (.lst ys)):=Same.upd hD
   have og':OL C.K F2 (upd H2 Dd (.lst ys)) vi os g1:=by
    rw [hK]
    exact og.keep (Same.refl _) fun a ha=>Qad (nD a (some2 a (inn a (.inr (.inl ha)))))
   have oy':OL C.K F2 (upd H2 Dd (.lst ys)) ys accF t2:=by
    rw [hK]
    exact oy.keep (Same.refl _) fun a ha=>Qad (nD a (some2 a (inn a (.inr (.inr (pt.mem_iff.mpr ha))))))
   have disg:∀ a,(a∈g1\/a∈t1)->a∉rest:=fun a z hr=>by
    rcases z with z | z
    ·rcases w3 a z with y | y
     ·exact dis a hr y
     ·exact some1 a (inr a hr) y
    ·exact some1 a (inr a hr) (w2 a z)
   have ndg:g1.Nodup:=(List.nodup_append.mp (List.nodup_append.mp ndp2).2.1).1
   have ndt:t2.Nodup:=pt.nodup_iff.mp (List.nodup_append.mp (List.nodup_append.mp ndp2).2.1).2.1
   have disgt:∀ a∈g1,a∉t2:=fun a ha hb=>(List.nodup_append.mp (List.nodup_append.mp ndp2).2.1).2.2 a ha a (pt.mem_iff.mpr hb) rfl
   have apr:∀ a∈rest,F2 a=none:=fun a ha=>by
    cases e:F2 a with
    |none=>rfl
    |some o=>
     rcases I2.fn a o e with z | z
     ·exact absurd (show F1 a=some o from z) (by rw [I1.ap a (inr a ha)];simp)
     ·obtain ⟨o2,e2,m2⟩:=I1.mem a (inr a ha)
      exact (z.not (show Cb.H₀ a≠none from some1 a (inr a ha)) (I2.fh a o e) (hkeep a o2 e2 (dis a ha)) m2).elim
   have JJ:=cl (F':=F2) (H':=upd H2 Dd (.lst ys)) s2 (I2.fh.trans sH) (fun a ha=>by
    obtain ⟨o,e,_⟩:=I1.mem a (inr a ha)
    rw [e]
    exact sH a o (hkeep a o e (dis a ha))) (fun b e=>I2.dm b (sH.free e)) (fun b o e n z=>sH b o (hkeep b o z fun hb=>by
     rcases w b hb with y | y
     ·rw [y] at e;cases e
     ·exact n y.2)) (fun b o e=>(I2.fn b o e).imp id fun z=>z.up fun y=>I1.dm b y) og' (List.nodup_append.mpr ⟨ndg,(List.nodup_append.mp ndp).2.1,fun a ha b hb z=>disg a (.inl ha) (z▸hb)⟩) (fun a ha=>(List.mem_append.mp ha).elim (fun z=>I2.ap a (inn a (.inr (.inl z)))) (apr a)) (fun a ha=>(w3 a ha).elim (w a) fun z=>.inl (I1.dm a z))
   have ndall:((Dd :: t2)++(g1++rest)).Nodup:=by
    refine List.nodup_append.mpr ⟨List.nodup_cons.mpr ⟨fun z=>some2 Dd (inn Dd (.inr (.inr (pt.mem_iff.mpr z)))) hD,ndt⟩,JJ.nd,fun a ha b hb z=>?_⟩
    subst z
    rcases List.mem_cons.mp ha with rfl | ha
    ·rcases List.mem_append.mp hb with y | y
     ·exact some2 _ (inn _ (.inr (.inl y))) hD
     ·exact some1 _ (inr _ y) H1D
    ·rcases List.mem_append.mp hb with y | y
     ·exact disgt a y ha
     ·exact disg a (.inr (pt.mem_iff.mpr ha)) y
   refine h4 F2 _ _ (.ref Dd) (JJ.push (.mt (t:=.lst) (show upd H2 Dd (.lst ys) Dd=some (.lst ys) from Qah) oy') (fun a ha=>?_) (fun a ha=>?_) ndall) (n1.trans (q:=p) ⟨s2,fun hpp b o e=>?_⟩) True.intro
   ·rcases List.mem_cons.mp ha with rfl | ha
    ·exact I1.dm _ H1D
    ·exact I1.dm a (w2 a (pt.mem_iff.mpr ha))
   ·rcases List.mem_cons.mp ha with rfl | ha
    ·exact fD
    ·exact I2.ap a (inn a (.inr (.inr (pt.mem_iff.mpr ha))))
   ·have ef0:f=[]:=by
     rw [hp hpp] at sg
     cases sg
     cases ol
     rfl
    subst ef0
    by_cases hb:b∈fp1
    ·have hb':b∈rest:=by simpa using pm.mem_iff.mp hb
     rw [QbU hb] at e
     rw [QbU (List.mem_append_right _ (List.mem_append_right _ hb'))]
     exact sH b o (hkeep b o e (by simp))
    ·rw [QaM hb] at e
     have e2:=s2 b o e
     rw [QaM]
     ·exact e2
     ·intro hm
      rcases List.mem_append.mp hm with y | y
      ·rcases List.mem_cons.mp y with rfl | y
       ·rw [fD] at e2;cases e2
       ·rw [I2.ap b (inn b (.inr (.inr (pt.mem_iff.mpr y))))] at e2;cases e2
      ·rcases List.mem_append.mp y with y | y
       ·rw [I2.ap b (inn b (.inr (.inl y)))] at e2;cases e2
       ·rw [I1.ap b (inr b y)] at e;cases e
theorem Qeb {j:Nat}{tc:MT}{te:ME}:∀ {ds:List D} {ρ:Rho} {acc:List D},QcR j tc te ds ρ acc=Qb0 (fun d ρ=>setF ρ j d) (fun ρ=>ρ.set j none) tc te ds ρ acc
 | [],ρ,acc=>rfl
 |d :: ds,ρ,acc=>by
  unfold QcR Qb0
  congr 1;funext ρ0;congr 1;funext c
  split
  ·congr 1;funext r;split
   ·exact Qeb
   ·rfl
  ·exact Qeb
theorem Qnl {ρ:Rho}:Qa5 par cs j mi mt me ρ=(mi ρ).bind (Qkp par cs (fun d ρ=>setF ρ j d) (fun ρ=>ρ.set j none) mt me):=by
 unfold Qa5 Qkp
 simp only [Qeb]
theorem QmB {σ:L2.St}(hj:cs[j]? = some .me):QsK X.K cs (QaG (cs.map Cp.ix) σ) (fun d ρ=>setF ρ j d) (fun ρ=>ρ.set j none) (QdB j):=fun {Cb F H ρ ρ' τ fp x d} hK np I r e=>by
 have hb:(QaG (cs.map Cp.ix) σ)[j]? = some none:=by
  unfold QaG
  rw [List.getElem?_map,List.getElem?_map,hj]
  rfl
 obtain ⟨fp',I2,_⟩:=SI.setF I r e
 refine ⟨_,fp',I2,⟨List.length_set ..,fun i u e=>?_⟩,fun Q q=>q,fun I3=>SI.clr (x:=x) I3 hb (np j hj)⟩
 by_cases q:j=i
 ·subst q;rw [hb] at e;cases e
 ·rw [List.getElem?_set_ne q];exact e
theorem Qcz (hK:C.K=X.K)(hj:cs[j]? = some .me)(nd:(cs.filterMap Cp.is).Nodup)(hp:p=true->cs.filterMap Cp.is=[]){σ:L2.St}{H:Hp}{Q:VK}(h:tX .O C (pa && p) E (Qa5 par cs j mi mt me) σ H Q):Qfo (tI C pa E mi) (cs.map Cp.ix) (QdB j) (exT X.K pc mt) (exX .O X.K pe me) σ H Q:=by
 obtain ⟨F,ρ,τ,fp,I,h⟩:=h
 rw [Qnl] at h
 exact ⟨F,ρ,τ,fp,I,h.split.mono fun r hr F1 H1 fp1 J I1 n1 it=>Qj3 hK nd hp (QmB hj) I1 n1 (fun Cb h1 _ _ _=>⟨fun I s e=>h1▸it.go h1 I s e,fun I s=>it.stop h1 I s⟩) hr⟩
theorem Qb6 (hK:C.K=X.K)(hc:X.calm=true)(B:Blk X scope N (cs.map Cp.ix))(hjN:N[j]? = some x)(hj:cs[j]? = some .me)(hx:scope.names.lookup x=some .local)(hi:PI X (.Name x px) iter (tI C pa E mi))
  (ht:∀ pins c s H ex,PIf (X.blk scope N pins c s H ex) ifs (exT X.K pc mt)) (he:∀ pins c s H ex,PE (X.blk scope N pins c s H ex) elt (exX .O X.K pe me)) (nd:(cs.filterMap Cp.is).Nodup:=by decide) (hp:p=true->cs.filterMap Cp.is=[]:=by decide)
  (hs:∀ x,foldedSetIterable iter X.env x=pure x:=by intro _;rfl):PE X (.ListComp elt [⟨.Name x px,iter,ifs,0⟩] scope pos) (tX .O C (pa && p) E (Qa5 par cs j mi mt me)):=
 Qag (Qko hc B hi (fun _ _ _ _ _=>Qbb (i:=j) B.nd hjN (.inl (lookup_relabel_local hx)) (.inr (lookup_relabel_local hx))) ht he hs) fun _ _ _ h=>Qcz hK hj nd hp h
theorem Qp5 {y:Str}{py spos:Pos}{i0:Nat}(hK:C.K=X.K)(hc:X.calm=true)(hXN:X.N.Nodup)(hi0:X.N[i0]? = some y)(hy:Loc X.env.scope y)(B:Blk X scope N (cs.map Cp.ix))(hjN:N[j]? = some x)(hj:cs[j]? = some .me)(hx:scope.names.lookup x=some .local)(hi:PI X (.Name x px) iter (tI C pa E mi))
  (ht:∀ pins c s H ex,PIf (X.blk scope N pins c s H ex) ifs (exT X.K pc mt)) (he:∀ pins c s H ex,PE (X.blk scope N pins c s H ex) elt (exX .O X.K pe me)) (nd:(cs.filterMap Cp.is).Nodup:=by decide)
  (hsw:swapsWith (.ListComp elt [⟨.Name x px,iter,ifs,0⟩] scope pos) (some (.Name y py)) spos.line X.env=pure true:=by rfl)
  (hf:X.fn y=true\/X.env.scope.names.lookup y=some .local:=by first | exact .inl rfl | exact .inr rfl | assumption)
  (hs:∀ x,foldedSetIterable iter X.env x=pure x:=by intro _;rfl):PS X (.Assign [.Name y py] (.ListComp elt [⟨.Name x px,iter,ifs,0⟩] scope pos) spos) (tS rk C E (Qdb i0 (Qa5 par cs j mi mt me))):=
 Qa3 (QgX hc hXN hi0 hy B hi (fun _ _ _ _ _=>Qbb (i:=j) B.nd hjN (.inl (lookup_relabel_local hx)) (.inr (lookup_relabel_local hx))) ht he hsw hf hs) fun D σ H h=>by
  have q:=QjH (p:=pa && false) h
  exact Qcz (p:=false) hK hj nd (fun z=>nomatch z) q
end
instance {i j:Int}:Decidable (CMul i j):=by unfold CMul;infer_instance
instance {i j:Int}:Decidable (Qk5 i j):=by unfold Qk5;infer_instance
instance {i j:Int}:Decidable (Qfi i j):=by unfold Qfi;infer_instance
noncomputable def gI0 (f:Int->Int->D):D->D->Option D
 |.int i,.int j=>some (f i j)
 |_,_=>none
noncomputable def gIc (c:Int->Int->Prop)[∀ i j,Decidable (c i j)](f:Int->Int->D):D->D->Option D
 |.int i,.int j=>if c i j then some (f i j) else none
 |_,_=>none
section
variable {K:PySem.W.Frag}
theorem Qe0 {f:Int->Int->D}{g:Int->Int->V}(h:∀ i j,(f i j).sc=some (g i j)):OpD K (rI0 g) (gI0 f):=fun H v u d e res r q eg=>by
 unfold gI0 at eg
 split at eg
 ·next i j=>
  cases eg
  obtain rfl:=r.det_sc (w:=.int i) rfl
  obtain rfl:=q.det_sc (w:=.int j) rfl
  exact ⟨_,h i j,fun Q hq=>⟨i,j,rfl,rfl,hq⟩⟩
 ·cases eg
theorem Qla {c:Int->Int->Prop}[∀ i j,Decidable (c i j)]{f:Int->Int->D}{g:Int->Int->V}(h:∀ i j,(f i j).sc=some (g i j)):OpD K (rI c g) (gIc c f):=fun H v u d e res r q eg=>by
 unfold gIc at eg
 split at eg
 ·next i j=>
  by_cases cc:c i j
  ·rw [if_pos cc] at eg;cases eg
   obtain rfl:=r.det_sc (w:=.int i) rfl
   obtain rfl:=q.det_sc (w:=.int j) rfl
   exact ⟨_,h i j,fun Q hq=>⟨i,j,rfl,rfl,cc,hq⟩⟩
  ·rw [if_neg cc] at eg;cases eg
 ·cases eg
def Qq7:=gI0 fun i j=>.int (i+j)
def Qrm:=gI0 fun i j=>.int (i - j)
def QsD:=gIc CMul fun i j=>.int (i * j)
def Qs7:=gIc Qfi fun i j=>.int (i / j)
def Qrg:=gIc (fun _ j=>0<j) fun i j=>.int (i % j)
def Qti:=gIc Qk5 fun i j=>.int (i ^ j.toNat)
def gLt:=gI0 fun i j=>.bl (decide (i<j))
def gLe:=gI0 fun i j=>.bl (decide (i<=j))
def gGt:=gI0 fun i j=>.bl (decide (j<i))
def gGe:=gI0 fun i j=>.bl (decide (j<=i))
theorem QiT:OpD K (rI0 fun i j=>.int (i+j)) Qq7:=Qe0 fun _ _=>rfl
theorem Qtu:OpD K (rI0 fun i j=>.int (i - j)) Qrm:=Qe0 fun _ _=>rfl
theorem Qn7:OpD K (rI CMul fun i j=>.int (i * j)) QsD:=Qla fun _ _=>rfl
theorem Qtb:OpD K (rI Qfi fun i j=>.int (i / j)) Qs7:=Qla fun _ _=>rfl
theorem Qrc:OpD K (rI (fun _ j=>0<j) fun i j=>.int (i % j)) Qrg:=Qla fun _ _=>rfl
theorem QsV:OpD K (rI Qk5 fun i j=>.int (i ^ j.toNat)) Qti:=Qla fun _ _=>rfl
theorem dLt:OpD K (rI0 fun i j=>.bl (decide (i<j))) gLt:=Qe0 fun _ _=>rfl
theorem dLe:OpD K (rI0 fun i j=>.bl (decide (i<=j))) gLe:=Qe0 fun _ _=>rfl
theorem dGt:OpD K (rI0 fun i j=>.bl (decide (j<i))) gGt:=Qe0 fun _ _=>rfl
end
def QdK (f:D->D->Option Bool):List D->List D->Option Bool
 |x :: xs,y :: ys=>(f x y).bind fun a=>(QdK f xs ys).map fun b=>a && b
 |_,_=>some true
def eqS (x y:V):Option Bool:=if (QqC x y && Qcj x && Qcj y)=true then some (decide (x=y)) else none
def Qrt (f:D->D->Option Bool):D->D->Option Bool
 |.nd .lst xs,.nd .lst ys=>if xs.length=ys.length then QdK f xs ys else some false
 |.nd .tup xs,.nd .tup ys=>if xs.length=ys.length then QdK f xs ys else (QdK f xs ys).map fun _=>false
 |d,e=>d.sc.bind fun x=>e.sc.bind fun y=>eqS x y
noncomputable def eqb:Nat->D->D->Option Bool
 |0=>fun _ _=>none
 |n+1=>Qrt (eqb n)
theorem QbK {n:Nat}{d e:D}{b:Bool}(h:eqb (n+1) d e=some b) :
  (∃ xs ys,d=.nd .lst xs/\e=.nd .lst ys/\((xs.length=ys.length/\QdK (eqb n) xs ys=some b)\/(xs.length≠ys.length/\b=false)))\/
  (∃ xs ys c,d=.nd .tup xs/\e=.nd .tup ys/\QdK (eqb n) xs ys=some c/\b=(c && xs.length == ys.length))\/
  (∃ x y,d.sc=some x/\e.sc=some y/\eqS x y=some b):=by
 replace h:Qrt (eqb n) d e=some b:=h
 unfold Qrt at h
 split at h
 ·next xs ys=>
  left
  refine ⟨xs,ys,rfl,rfl,?_⟩
  by_cases c:xs.length=ys.length
  ·rw [if_pos c] at h;exact .inl ⟨c,h⟩
  ·rw [if_neg c] at h;cases h;exact .inr ⟨c,rfl⟩
 ·next xs ys=>
  right;left
  by_cases c:xs.length=ys.length
  ·rw [if_pos c] at h;exact ⟨xs,ys,b,rfl,rfl,h,by simp [c]⟩
  ·rw [if_neg c] at h
   obtain ⟨c',h1,h2⟩:=Option.map_eq_some_iff.mp h
   exact ⟨xs,ys,c',rfl,rfl,h1,by simp [c,h2.symm]⟩
 ·right;right
  obtain ⟨x,h1,h2⟩:=Option.bind_eq_some_iff.mp h
  obtain ⟨y,h3,h4⟩:=Option.bind_eq_some_iff.mp h2
  exact ⟨x,y,h1,h3,h4⟩
theorem Qg2 {f:D->D->Option Bool}:∀ {xs ys:List D} {b:Bool},QdK f xs ys=some b->∃ e:Nat->Bool,(∀ j x y,xs[j]? = some x->ys[j]? = some y->f x y=some (e j))/\(List.range (min xs.length ys.length)).all e=b
 | [],ys,b,h=>by
  unfold QdK at h;cases h
  exact ⟨fun _=>true,fun j x y h=>by simp at h,by simp⟩
 |x :: xs,[],b,h=>by
  unfold QdK at h;cases h
  exact ⟨fun _=>true,fun j x y _ h=>by simp at h,by simp⟩
 |x :: xs,y :: ys,b,h=>by
  unfold QdK at h
  obtain ⟨a,h1,h2⟩:=Option.bind_eq_some_iff.mp h
  obtain ⟨c,h3,rfl⟩:=Option.map_eq_some_iff.mp h2
  obtain ⟨e,k1,k2⟩:=Qg2 h3
  refine ⟨fun j=>match j with | 0=>a | j+1=>e j,fun j x' y' hx hy=>?_,?_⟩
  ·cases j with
   |zero=>simp at hx hy;subst hx hy;exact h1
   |succ j=>exact k1 j x' y' (by simpa using hx) (by simpa using hy)
  ·have em:min (x :: xs).length (y :: ys).length=min xs.length ys.length+1:=by simp
   rw [em,List.range_succ_eq_map,List.all_cons,List.all_map,← k2]
   rfl
theorem RL.getV {K:PySem.W.Frag}{F:Hp}{vs:List L2.V}{ds:List D}{i:Nat}{v:L2.V}(r:RL K F vs ds)(e:vs[i]? = some v):∃ d,ds[i]? = some d/\R K F v d:=by
 induction i generalizing vs ds with
 |zero=>cases r with
  |nil=>simp at e
  |cons h r=>simp at e;subst e;exact ⟨_,rfl,h⟩
 |succ i ih=>cases r with
  |nil=>simp at e
  |cons h r=>
   obtain ⟨v,h1,h2⟩:=ih r (by simpa using e)
   exact ⟨v,by simpa using h1,h2⟩
theorem Qkj {x y:V}{b:Bool}(h:eqS x y=some b):QqC x y=true/\Qcj x=true/\Qcj y=true/\b=decide (x=y)/\eqV x y=decide (x=y):=by
 unfold eqS at h
 by_cases c:(QqC x y && Qcj x && Qcj y)=true
 ·rw [if_pos c] at h;cases h
  have c0:=c
  rw [Bool.and_eq_true,Bool.and_eq_true] at c
  refine ⟨c.1.1,c.1.2,c.2,rfl,?_⟩
  cases x<;>cases y<;>first
   |rfl
   |(rw [Qf2];rfl)
   |(rw [QjD];rfl)
   |(rw [Qga];rfl)
   |exact absurd (show false=true from c.1.1) (by decide)
   |exact absurd (show false=true from c.1.2) (by decide)
   |exact absurd (show false=true from c.2) (by decide)
   |(simp [eqV];done)
 ·rw [if_neg c] at h;cases h
section
variable {X:Cx}{pins:List (Addr × Obj)}{σ:L2.St}{H:Hp}{s:Shared}
theorem Qep (I:Inv X pins σ H s):∀ {n:Nat} {v:L2.V} {d e:D} {b:Bool},R X.K H v d->R X.K H v e->eqb n d e=some b->b=true
 |0,_,_,_,_,_,_,h=>by cases h
 |n+1,v,d,e,b,r,q,h=>by
  have key:∀ {vs:List L2.V} {xs ys:List D} {c:Bool},RL X.K H vs xs->RL X.K H vs ys->QdK (eqb n) xs ys=some c->c=true:=by
   intro vs
   induction vs with
   |nil=>intro xs ys c h1 h2 h3;cases h1;cases h2;unfold QdK at h3;cases h3;rfl
   |cons v vs ih=>
    intro xs ys c h1 h2 h3
    cases h1 with
    |cons a1 b1=>
     cases h2 with
     |cons a2 b2=>
      unfold QdK at h3
      obtain ⟨a,e1,e2⟩:=Option.bind_eq_some_iff.mp h3
      obtain ⟨c',e3,rfl⟩:=Option.map_eq_some_iff.mp e2
      rw [Qep I a1 a2 e1,ih b1 b2 e3]
      rfl
  rcases QbK h with ⟨xs,ys,rfl,rfl,hh⟩ | ⟨xs,ys,c,rfl,rfl,hh,rfl⟩ | ⟨x,y,hx,hy,hh⟩
  ·obtain ⟨a,vs,rfl,a1,l1⟩:=r.inv
   obtain ⟨a',vs',e',a2,l2⟩:=q.inv
   cases e'
   have ev:=I.list_inj a1.sql a2.sql
   subst ev
   rcases hh with ⟨_,hh⟩ | ⟨hh,_⟩
   ·exact key l1 l2 hh
   ·exact absurd (by rw [← l1.length,← l2.length]) hh
  ·obtain ⟨a,vs,rfl,a1,l1⟩:=r.inv
   obtain ⟨a',vs',e',a2,l2⟩:=q.inv
   cases e'
   have ev:=I.tuple_inj a1.sqt a2.sqt
   subst ev
   rw [key l1 l2 hh]
   simp [← l1.length,← l2.length]
  ·obtain ⟨_,_,_,rfl,_⟩:=Qkj hh
   have e1:=r.det_sc hx
   have e2:=q.det_sc hy
   exact decide_eq_true (e1.symm.trans e2)
theorem Qi7 (I:Inv X pins σ H s):∀ {n:Nat} {v:L2.V} {d d' x:D} {c c':Bool},R X.K H v d->R X.K H v d'->eqb n d x=some c->eqb n d' x=some c'->c=c'
 |0,_,_,_,_,_,_,_,_,h,_=>by cases h
 |n+1,v,d,d',x,c,c',r,q,h,h'=>by
  have key:∀ {vs:List L2.V} {xs xs' ys:List D} {c c':Bool},RL X.K H vs xs->RL X.K H vs xs'->QdK (eqb n) xs ys=some c->QdK (eqb n) xs' ys=some c'->c=c':=by
   intro vs
   induction vs with
   |nil=>intro xs xs' ys c c' h1 h2 h3 h4;cases h1;cases h2;rw [h3] at h4;exact Option.some.inj h4
   |cons v vs ih=>
    intro xs xs' ys c c' h1 h2 h3 h4
    cases h1 with
    |cons a1 b1=>
     cases h2 with
     |cons a2 b2=>
      cases ys with
      |nil=>unfold QdK at h3 h4;rw [h3] at h4;exact Option.some.inj h4
      |cons y ys=>
       unfold QdK at h3 h4
       obtain ⟨a,e1,e2⟩:=Option.bind_eq_some_iff.mp h3
       obtain ⟨c1,e3,rfl⟩:=Option.map_eq_some_iff.mp e2
       obtain ⟨a',e1',e2'⟩:=Option.bind_eq_some_iff.mp h4
       obtain ⟨c1',e3',rfl⟩:=Option.map_eq_some_iff.mp e2'
       rw [Qi7 I a1 a2 e1 e1',ih b1 b2 e3 e3']
  rcases QbK h with ⟨xs,ys,rfl,rfl,hh⟩ | ⟨xs,ys,c0,rfl,rfl,hh,rfl⟩ | ⟨x0,y0,hx,hy,hh⟩
  ·rcases QbK h' with ⟨xs',ys',rfl,e2,hh'⟩ | ⟨_,_,_,_,e2,_⟩ | ⟨_,_,_,e2,_⟩
   ·cases e2
    obtain ⟨a,vs,rfl,a1,l1⟩:=r.inv
    obtain ⟨a',vs',e',a2,l2⟩:=q.inv
    cases e'
    have ev:=I.list_inj a1.sql a2.sql
    subst ev
    have el:xs.length=xs'.length:=by rw [← l1.length,← l2.length]
    rcases hh with ⟨g1,hh⟩ | ⟨g1,rfl⟩<;>rcases hh' with ⟨g2,hh'⟩ | ⟨g2,rfl⟩
    ·exact key l1 l2 hh hh'
    ·exact absurd (el▸g1) g2
    ·exact absurd (el▸g2) g1
    ·rfl
   ·cases e2
   ·cases e2
  ·rcases QbK h' with ⟨_,_,_,e2,_⟩ | ⟨xs',ys',c1,rfl,e2,hh',rfl⟩ | ⟨_,_,_,e2,_⟩
   ·cases e2
   ·cases e2
    obtain ⟨a,vs,rfl,a1,l1⟩:=r.inv
    obtain ⟨a',vs',e',a2,l2⟩:=q.inv
    cases e'
    have ev:=I.tuple_inj a1.sqt a2.sqt
    subst ev
    rw [key l1 l2 hh hh',← l1.length,← l2.length]
   ·cases e2
  ·rcases QbK h' with ⟨_,_,_,rfl,_⟩ | ⟨_,_,_,_,rfl,_⟩ | ⟨x1,y1,hx',hy',hh'⟩
   ·cases hy
   ·cases hy
   ·rw [hy] at hy';cases hy'
    obtain rfl:=r.det_sc hx
    obtain rfl:=q.det_sc hx'
    rw [hh] at hh'
    exact Option.some.inj hh'
theorem Qd7 (I:Inv X pins σ H s){n:Nat}{A:Around}(hu:A.units<cLine)(cmp:∀ {v u:L2.V} {d e:D} {b:Bool} {p q:Value},R X.K H v d->R X.K H u e->RelV v p->RelV u q->eqb n d e=some b->SeqAt.EqAt A.in1 s p q b){a a':Addr}{vs us:List L2.V}{xs ys:List D}(l1:RL X.K H vs xs)(l2:RL X.K H us ys){c:Bool}(h:QdK (eqb n) xs ys=some c) :
  (SqL X.K H a vs->SqL X.K H a' us->xs.length=ys.length->SeqAt.RcAt A s (.ref a) (.ref a') c/\SeqAt.RcNeAt A s (.ref a) (.ref a') (!c))/\(SqT X.K H a vs->SqT X.K H a' us->SeqAt.RcAt A s (.ref a) (.ref a') (c && xs.length == ys.length)/\SeqAt.RcNeAt A s (.ref a) (.ref a') (!(c && xs.length == ys.length))):=by
 obtain ⟨e,k1,k2⟩:=Qg2 h
 have key:∀ {its its2:List Value},Vals vs its->Vals us its2->∀ j (h1:j<its.toArray.size) (h2:j<its2.toArray.size),SeqAt.EqAt A.in1 s its.toArray[j] its2.toArray[j] (e j):=fun {its its2} rv rv2 j h1 h2=>by
  rw [List.size_toArray] at h1 h2
  have z1:=rv.length
  have z2:=rv2.length
  obtain ⟨v,hv⟩:∃ v,vs[j]? = some v:=⟨vs[j]'(by omega),List.getElem?_eq_getElem _⟩
  obtain ⟨w,hw⟩:∃ v,us[j]? = some v:=⟨us[j]'(by omega),List.getElem?_eq_getElem _⟩
  obtain ⟨p,hp,rp⟩:=rv.get hv
  obtain ⟨q,hq,rq⟩:=rv2.get hw
  obtain ⟨x,hx,rx⟩:=l1.getV hv
  obtain ⟨y,hy,ry⟩:=l2.getV hw
  have q1:its.toArray[j]=p:=by
   rw [List.getElem?_eq_getElem h1] at hp
   simpa using Option.some.inj hp
  have q2:its2.toArray[j]=q:=by
   rw [List.getElem?_eq_getElem h2] at hq
   simpa using Option.some.inj hq
  rw [q1,q2]
  exact cmp rx ry rp rq (k1 j x y hx hy)
 have e1:=l1.length
 have e2:=l2.length
 refine ⟨fun a1 a2 hl=>?_,fun a1 a2=>?_⟩
 ·obtain ⟨its,rv,p,_⟩:=I.list a1
  obtain ⟨its2,rv2,p2,_⟩:=I.list a2
  have z1:=rv.length
  have z2:=rv2.length
  have es:its.toArray.size=its2.toArray.size:=by rw [List.size_toArray,List.size_toArray];omega
  have ec:(List.range its.toArray.size).all e=c:=by
   rw [← k2,List.size_toArray,← z1,e1]
   congr 2
   omega
  rw [← ec]
  exact ⟨SeqAt.RcAt.lists p.isList p2.isList es hu (key rv rv2),SeqAt.RcNeAt.lists p.isList p2.isList es hu (key rv rv2)⟩
 ·obtain ⟨its,rv,p,_⟩:=I.tuple a1
  obtain ⟨its2,rv2,p2,_⟩:=I.tuple a2
  have z1:=rv.length
  have z2:=rv2.length
  have ec:((List.range (min its.toArray.size its2.toArray.size)).all e && its.toArray.size == its2.toArray.size)=(c && xs.length == ys.length):=by
   rw [← k2,List.size_toArray,List.size_toArray,← z1,← z2,e1,e2]
  rw [← ec]
  exact ⟨SeqAt.RcAt.tuples p p2 hu (key rv rv2),SeqAt.RcNeAt.tuples p p2 hu (key rv rv2)⟩
theorem Qh6 (I:Inv X pins σ H s){A:Around}(hu:A.units<cLine){a a':Addr}{vs us:List L2.V}(a1:SqL X.K H a vs)(a2:SqL X.K H a' us)(hl:vs.length≠us.length):SeqAt.RcAt A s (.ref a) (.ref a') false/\SeqAt.RcNeAt A s (.ref a) (.ref a') true:=by
 obtain ⟨its,rv,p,_⟩:=I.list a1
 obtain ⟨its2,rv2,p2,_⟩:=I.list a2
 have z1:=rv.length
 have z2:=rv2.length
 have es:(its.toArray.size != its2.toArray.size)=true:=by rw [List.size_toArray,List.size_toArray];simp;omega
 exact ⟨SeqAt.RcAt.lists_lengths p.isList p2.isList es hu,SeqAt.RcNeAt.lists_lengths p.isList p2.isList es hu⟩
theorem Qge (I:Inv X pins σ H s):∀ {n:Nat} {A:Around},A.units+n<cLine->∀ {v u:L2.V} {d e:D} {b:Bool} {p q:Value},R X.K H v d->R X.K H u e->RelV v p->RelV u q->eqb n d e=some b->SeqAt.EqAt A s p q b
 |0,_,_,_,_,_,_,_,_,_,_,_,_,_,h=>by cases h
 |n+1,A,hu,v,u,d,e,b,p,q,r,r',rp,rq,h=>by
  have hA:A.in1.units+n<cLine:=by show A.units+1+n<cLine;omega
  have hu':A.units<cLine:=by omega
  rcases QbK h with ⟨xs,ys,rfl,rfl,hh⟩ | ⟨xs,ys,c,rfl,rfl,hh,rfl⟩ | ⟨x,y,hx,hy,hh⟩
  ·obtain ⟨a,vs,rfl,a1,l1⟩:=r.inv
   obtain ⟨a',us,rfl,a2,l2⟩:=r'.inv
   cases rp;cases rq
   by_cases ea:a=a'
   ·subst ea
    rw [Qep I r r' h]
    exact SeqAt.EqAt.same _
   ·refine SeqAt.EqAt.of_refs ea ?_
    rcases hh with ⟨hl,hh⟩ | ⟨hl,rfl⟩
    ·exact ((Qd7 I hu' (fun r1 r2 p1 p2 e1=>Qge I hA r1 r2 p1 p2 e1) l1 l2 hh).1 a1.sql a2.sql hl).1
    ·exact (Qh6 I hu' a1.sql a2.sql (by rw [l1.length,l2.length];exact hl)).1
  ·obtain ⟨a,vs,rfl,a1,l1⟩:=r.inv
   obtain ⟨a',us,rfl,a2,l2⟩:=r'.inv
   cases rp;cases rq
   by_cases ea:a=a'
   ·subst ea
    rw [Qep I r r' h]
    exact SeqAt.EqAt.same _
   ·exact SeqAt.EqAt.of_refs ea ((Qd7 I hu' (fun r1 r2 p1 p2 e1=>Qge I hA r1 r2 p1 p2 e1) l1 l2 hh).2 a1.sqt a2.sqt).1
  ·obtain ⟨_,f1,f2,rfl,ev⟩:=Qkj hh
   obtain rfl:=r.det_sc hx
   obtain rfl:=r'.det_sc hy
   rw [← ev]
   exact Qly rp rq f1 f2
end
def Qn1 (K:PySem.W.Frag)(n:Nat)(f:Bool->Bool):R2:=fun x y H Q=>∃ d e b,R K H x d/\R K H y e/\eqb n d e=some b/\Q (.bl (f b)) H
section
variable {X:Cx}
theorem Qbz {n:Nat}(hu:X.A.units+n<cLine):OpR X (compareOp .Eq) (Qn1 X.K n id):=by
 intro pins s σ H x y v u Q I rx ry h
 obtain ⟨d,e,b,r,r',he,q⟩:=h
 cases n with
 |zero=>cases he
 |succ n=>
  have hA:X.A.in1.units+n<cLine:=by show X.A.units+1+n<cLine;omega
  have hu':X.A.units<cLine:=by omega
  rcases QbK he with ⟨xs,ys,rfl,rfl,hh⟩ | ⟨xs,ys,c,rfl,rfl,hh,rfl⟩ | ⟨x',y',hx,hy,hh⟩
  ·obtain ⟨a,vs,rfl,a1,l1⟩:=r.inv
   obtain ⟨a',us,rfl,a2,l2⟩:=r'.inv
   cases rx;cases ry
   rcases hh with ⟨hl,hh⟩ | ⟨hl,rfl⟩
   ·exact ((Qd7 I hu' (fun r1 r2 p1 p2 e1=>Qge I hA r1 r2 p1 p2 e1) l1 l2 hh).1 a1.sql a2.sql hl).1 _ _ _ _ ⟨.bl _,H,I,rfl,q⟩
   ·exact (Qh6 I hu' a1.sql a2.sql (by rw [l1.length,l2.length];exact hl)).1 _ _ _ _ ⟨.bl _,H,I,rfl,q⟩
  ·obtain ⟨a,vs,rfl,a1,l1⟩:=r.inv
   obtain ⟨a',us,rfl,a2,l2⟩:=r'.inv
   cases rx;cases ry
   exact ((Qd7 I hu' (fun r1 r2 p1 p2 e1=>Qge I hA r1 r2 p1 p2 e1) l1 l2 hh).2 a1.sqt a2.sqt).1 _ _ _ _ ⟨.bl _,H,I,rfl,q⟩
  ·obtain ⟨sc,f1,f2,rfl,ev⟩:=Qkj hh
   obtain rfl:=r.det_sc hx
   obtain rfl:=r'.det_sc hy
   exact QjU pins s σ H x y v u Q I rx ry ⟨sc,q⟩
theorem Qdt {n:Nat}(hu:X.A.units+n<cLine):OpR X (compareOp .NotEq) (Qn1 X.K n not):=by
 intro pins s σ H x y v u Q I rx ry h
 obtain ⟨d,e,b,r,r',he,q⟩:=h
 cases n with
 |zero=>cases he
 |succ n=>
  have hA:X.A.in1.units+n<cLine:=by show X.A.units+1+n<cLine;omega
  have hu':X.A.units<cLine:=by omega
  rcases QbK he with ⟨xs,ys,rfl,rfl,hh⟩ | ⟨xs,ys,c,rfl,rfl,hh,rfl⟩ | ⟨x',y',hx,hy,hh⟩
  ·obtain ⟨a,vs,rfl,a1,l1⟩:=r.inv
   obtain ⟨a',us,rfl,a2,l2⟩:=r'.inv
   cases rx;cases ry
   rcases hh with ⟨hl,hh⟩ | ⟨hl,rfl⟩
   ·exact ((Qd7 I hu' (fun r1 r2 p1 p2 e1=>Qge I hA r1 r2 p1 p2 e1) l1 l2 hh).1 a1.sql a2.sql hl).2 _ _ _ _ ⟨.bl _,H,I,rfl,q⟩
   ·exact (Qh6 I hu' a1.sql a2.sql (by rw [l1.length,l2.length];exact hl)).2 _ _ _ _ ⟨.bl _,H,I,rfl,q⟩
  ·obtain ⟨a,vs,rfl,a1,l1⟩:=r.inv
   obtain ⟨a',us,rfl,a2,l2⟩:=r'.inv
   cases rx;cases ry
   exact ((Qd7 I hu' (fun r1 r2 p1 p2 e1=>Qge I hA r1 r2 p1 p2 e1) l1 l2 hh).2 a1.sqt a2.sqt).2 _ _ _ _ ⟨.bl _,H,I,rfl,q⟩
  ·obtain ⟨sc,f1,f2,rfl,ev⟩:=Qkj hh
   obtain rfl:=r.det_sc hx
   obtain rfl:=r'.det_sc hy
   exact Qri pins s σ H x y v u Q I rx ry ⟨sc,q⟩
def inL (f:D->D->Option Bool)(x:D):List D->Option Bool
 | []=>some false
 |y :: ys=>(f y x).bind fun a=>(inL f x ys).map fun b=>a || b
noncomputable def inb (n:Nat):D->D->Option Bool
 |x,.nd .lst ys=>inL (eqb n) x ys
 |x,.nd .tup ys=>inL (eqb n) x ys
 |_,_=>none
theorem Qii {f:D->D->Option Bool}{x:D}:∀ {ys:List D} {b:Bool},inL f x ys=some b->(∀ y∈ys,∃ c,f y x=some c)/\(ys.any fun y=>(f y x).getD false)=b
 | [],b,h=>by unfold inL at h;cases h;exact ⟨(fun _ z=>nomatch z),rfl⟩
 |y :: ys,b,h=>by
  unfold inL at h
  obtain ⟨a,h1,h2⟩:=Option.bind_eq_some_iff.mp h
  obtain ⟨c,h3,rfl⟩:=Option.map_eq_some_iff.mp h2
  obtain ⟨k1,k2⟩:=Qii h3
  refine ⟨fun z hz=>?_,by rw [List.any_cons,h1,k2];rfl⟩
  rcases List.mem_cons.mp hz with rfl | hz
  ·exact ⟨a,h1⟩
  ·exact k1 z hz
open Classical in
noncomputable def Qhj (K:PySem.W.Frag)(H:Hp)(n:Nat)(x:D)(u:Value):Bool:=if h:∃ v d c,RelV v u/\R K H v d/\eqb n d x=some c then (Classical.choose (Classical.choose_spec (Classical.choose_spec h))) else false
theorem QjS {n:Nat}{pins:List (Addr × Obj)}{σ:L2.St}{H:Hp}{s:Shared}(I:Inv X pins σ H s)(hu:X.A.units+n+1<cLine){v:L2.V}{vv:Value}{x:D}(rx:R X.K H v x)(rv:RelV v vv){us:List L2.V}{its:List Value}{ys:List D}(l:RL X.K H us ys)(r:Vals us its){b:Bool}(h:inL (eqb n) x ys=some b) :
  (∀ w∈its,SeqAt.EqAt X.A.in1 s w vv (Qhj X.K H n x w))/\its.any (Qhj X.K H n x)=b:=by
 have hA:X.A.in1.units+n<cLine:=by show X.A.units+1+n<cLine;omega
 -- one answer of a value
 have one:∀ {u:L2.V} {d:D} {c:Bool} {w:Value},RelV u w->R X.K H u d->eqb n d x=some c->SeqAt.EqAt X.A.in1 s w vv (Qhj X.K H n x w):=fun {u d c w} r1 r2 r3=>by
  have ex:∃ v d c,RelV v w/\R X.K H v d/\eqb n d x=some c:=⟨u,d,c,r1,r2,r3⟩
  unfold Qhj
  rw [dif_pos ex]
  have sp:=Classical.choose_spec (Classical.choose_spec (Classical.choose_spec ex))
  exact Qge I hA sp.2.1 rx sp.1 rv sp.2.2
 have val:∀ {u:L2.V} {d:D} {c:Bool} {w:Value},RelV u w->R X.K H u d->eqb n d x=some c->Qhj X.K H n x w=c:=fun {u d c w} r1 r2 r3=>by
  have ex:∃ v d c,RelV v w/\R X.K H v d/\eqb n d x=some c:=⟨u,d,c,r1,r2,r3⟩
  unfold Qhj
  rw [dif_pos ex]
  have sp:=Classical.choose_spec (Classical.choose_spec (Classical.choose_spec ex))
  have ev:=r1.inj sp.1
  exact Qi7 I (ev▸sp.2.1) r2 sp.2.2 r3
 obtain ⟨k1,k2⟩:=Qii h
 constructor
 ·intro w hw
  obtain ⟨j,hj⟩:=List.getElem?_of_mem hw
  have lj:j<us.length:=by rw [r.length];exact (List.getElem?_eq_some_iff.mp hj).1
  obtain ⟨u,hu'⟩:∃ u,us[j]? = some u:=⟨us[j],List.getElem?_eq_getElem lj⟩
  obtain ⟨w',hw',rw'⟩:=r.get hu'
  rw [hj] at hw';cases hw'
  obtain ⟨y,hy,ry⟩:=l.getV hu'
  obtain ⟨c,hc⟩:=k1 y (List.mem_of_getElem? hy)
  exact one rw' ry hc
 ·rw [← k2]
  have go:∀ {us:List L2.V} {its:List Value} {ys:List D},RL X.K H us ys->Vals us its->(∀ y∈ys,∃ c,eqb n y x=some c)->its.any (Qhj X.K H n x)=ys.any fun y=>(eqb n y x).getD false:=by
   intro us
   induction us with
   |nil=>intro its ys h1 h2 _;cases h1;cases h2;rfl
   |cons u us ih=>
    intro its ys h1 h2 h3
    cases h1 with
    |cons a1 b1=>
     cases h2 with
     |cons a2 b2=>
      obtain ⟨c,hc⟩:=h3 _ List.mem_cons_self
      rw [List.any_cons,List.any_cons,ih b1 b2 fun y hy=>h3 y (List.mem_cons_of_mem _ hy),val a2 a1 hc,hc]
      rfl
  exact go l r k1
def QrV (K:PySem.W.Frag)(n:Nat)(f:Bool->Bool):R2:=fun x y H Q=>∃ d e b,R K H x d/\R K H y e/\inb n d e=some b/\Q (.bl (f b)) H
theorem Ql9 {n:Nat}{d e:D}{b:Bool}(h:inb n d e=some b):∃ ys,(e=.nd .lst ys\/e=.nd .tup ys)/\inL (eqb n) d ys=some b:=by
 unfold inb at h
 split at h
 ·exact ⟨_,.inl rfl,h⟩
 ·exact ⟨_,.inr rfl,h⟩
 ·cases h
theorem QjC {n:Nat}(hu:X.A.units+n+1<cLine):OpR X (compareOp .In) (QrV X.K n id):=by
 intro pins s σ H x y v u Q I rx ry h
 obtain ⟨d,e,b,r,r',he,q⟩:=h
 obtain ⟨ys,hy,hl⟩:=Ql9 he
 rcases hy with rfl | rfl
 ·obtain ⟨a,us,rfl,a1,l1⟩:=r'.inv
  cases ry
  obtain ⟨its,rv,pl,_⟩:=I.list a1.sql
  obtain ⟨k1,k2⟩:=QjS I hu r rx l1 rv hl
  refine SeqAt.in_listAt (Qhj X.K H n d) pl.isList (fun w hw=>k1 w (by simpa using hw)) ⟨.bl b,H,I,?_,q⟩
  rw [show its.toArray.any (Qhj X.K H n d)=its.any (Qhj X.K H n d) by simp,k2]
  rfl
 ·obtain ⟨a,us,rfl,a1,l1⟩:=r'.inv
  cases ry
  obtain ⟨its,rv,pl,_⟩:=I.tuple a1.sqt
  obtain ⟨k1,k2⟩:=QjS I hu r rx l1 rv hl
  refine SeqAt.in_tupleAt (Qhj X.K H n d) pl (fun w hw=>k1 w (by simpa using hw)) ⟨.bl b,H,I,?_,q⟩
  rw [show its.toArray.any (Qhj X.K H n d)=its.any (Qhj X.K H n d) by simp,k2]
  rfl
end
def gEq (d e:D):Option D:=(eqb 30 d e).map .bl
def gNe (d e:D):Option D:=(eqb 30 d e).map fun b=>.bl (!b)
def gIn (d e:D):Option D:=(inb 30 d e).map .bl
section
variable {K:PySem.W.Frag}
theorem dEq:OpD K (Qn1 K 30 id) gEq:=fun H v u d e res r q eg=>by
 obtain ⟨b,hb,rfl⟩:=Option.map_eq_some_iff.mp eg
 exact ⟨_,rfl,fun Q hq=>⟨d,e,b,r,q,hb,hq⟩⟩
theorem dNe:OpD K (Qn1 K 30 not) gNe:=fun H v u d e res r q eg=>by
 obtain ⟨b,hb,rfl⟩:=Option.map_eq_some_iff.mp eg
 exact ⟨_,rfl,fun Q hq=>⟨d,e,b,r,q,hb,hq⟩⟩
theorem dIn:OpD K (QrV K 30 id) gIn:=fun H v u d e res r q eg=>by
 obtain ⟨b,hb,rfl⟩:=Option.map_eq_some_iff.mp eg
 exact ⟨_,rfl,fun Q hq=>⟨d,e,b,r,q,hb,hq⟩⟩
end
end TL
namespace TL
open PySem PySem.Spec L2
section
variable {X:Cx}{C:Cn}{E:XE}{p pa pb pc:Bool}{e a b c:Expr}{es:List Expr}{m ma mb mc:ME}{mr:MA}{pos:Pos}{k ka kb kc:Kd}{ks:List Kd}
def Qso:D->Option D
 |.int i=>some (.int (-i))
 |_=>none
def mUn (g:D->Option D)(m:ME):ME:=fun ρ=>(m ρ).bind fun r=>Rs.of ((g r.1).map fun d=>(d,r.2))
theorem Qll (ha:PE X a (tX ka C pa E ma))(ok:ka.on true=true:=by rfl):PE X (.UnaryOp .USub a pos) (tX .V C pa E (mUn Qso ma)):=Qag (QrF Qp0 ha) fun σ H Q ⟨F,ρ,τ,fp,I,h⟩=>by
 refine ⟨F,ρ,τ,fp,I,h.split.mono fun r1 h1 F1 H1 fp1 v1 I1 n1 f1=>?_⟩
 rw [Kd.tk_on ok] at I1
 obtain ⟨z,ez,h3⟩:=h1.of
 obtain ⟨res,eg,rfl⟩:=Option.map_eq_some_iff.mp ez
 have rr:=Kd.stay ok f1 .refl I1
 unfold Qso at eg
 split at eg
 ·next i ei=>
  cases eg
  rw [ei] at rr
  exact ⟨i,rr.det_sc rfl,h3 F1 H1 fp1 _ I1 n1 (.sc rfl)⟩
 ·cases eg
def Qfh (g g':D->D->Option D)(ma mb mc:ME):ME:=fun ρ=>(ma ρ).bind fun r1=>(mb r1.2).bind fun r2=>(Rs.of ((g r1.1 r2.1).bind asB)).bind fun q=>if q=true then (mc r2.2).bind fun r3=>Rs.of ((g' r2.1 r3.1).map fun d=>(d,r3.2)) else .ok (.bl false,r2.2)
theorem Qix {r r':R2}{g g':D->D->Option D}(hg:OpD C.K r g)(hg':OpD C.K r' g')(ok:ka.on pb=true)(ok2:kb.on pc=true)(ok2':kb.on true=true)(ok3:kc.on true=true){σ:L2.St}{H:Hp}{Q:VK}(h:tX .V C (pa && (pb && pc)) E (Qfh g g' ma mb mc) σ H Q):Qlg r r' (tX ka C pa E ma) (tX kb C pb E mb) (tX kc C pc E mc) σ H Q:=by
 obtain ⟨F,ρ,τ,fp,I,h⟩:=h
 refine ⟨F,ρ,τ,fp,I,h.split.mono fun r1 h1 F1 H1 fp1 v1 I1 n1 f1=>?_⟩
 rw [Kd.tk_on ok] at I1
 refine ⟨F1,r1.2,τ,fp1,I1,h1.split.mono fun r2 h2 F2 H2 fp2 v2 I2 n2 f2=>?_⟩
 rw [Kd.tk_on ok2'] at I2
 obtain ⟨q,eq,h3⟩:=h2.split.of
 obtain ⟨d,eg,eb⟩:=Option.bind_eq_some_iff.mp eq
 obtain ⟨w,ew,hw⟩:=hg H2 v1 v2 _ _ _ (R.top I2 (Kd.stay ok f1 n2 I2)) (R.top I2 (Kd.stay ok2' f2 .refl I2)) eg
 rw [Qlz eb] at ew
 cases ew
 refine hw _ ⟨q,rfl,?_⟩
 by_cases c:q=true
 ·rw [if_pos c] at h3 ⊢
  refine ⟨F2,r2.2,τ,fp2,I2,h3.split.mono fun r3 h4 F3 H3 fp3 v3 I3 n3 f3=>?_⟩
  rw [Kd.tk_on ok3] at I3
  obtain ⟨z,ez,h5⟩:=h4.of
  obtain ⟨res,eg',rfl⟩:=Option.map_eq_some_iff.mp ez
  obtain ⟨w',ew',hw'⟩:=hg' H3 v2 v3 _ _ _ (R.top I3 (Kd.stay ok2 f2 n3 I3)) (R.top I3 (Kd.stay ok3 f3 .refl I3)) eg'
  exact hw' _ (h5 F3 H3 fp3 w' I3 (n1.trans (n2.trans n3)) (.sc ew'))
 ·rw [if_neg c] at h3 ⊢
  exact h3 F2 H2 fp2 _ I2 ((n1.trans n2).weak fun z=>by cases pa<;>cases pb<;>cases pc<;>simp_all) (.sc rfl)
theorem Qgw {op op':CmpOp}{r r':R2}{g g':D->D->Option D}(ho:OpR X (compareOp op) r)(ho':OpR X (compareOp op') r')(hg:OpD C.K r g)(hg':OpD C.K r' g')(ha:PE X a (tX ka C pa E ma))(hb:PE X b (tX kb C pb E mb))(hc:PE X c (tX kc C pc E mc))(ok:ka.on pb=true:=by rfl)(ok2:kb.on pc=true:=by rfl)(ok2':kb.on true=true:=by rfl)(ok3:kc.on true=true:=by rfl)
  (hm:lastMarks [op,op'] [b,c]=false:=by with_unfolding_all rfl):PT X (.Compare a [op,op'] [b,c] pos) (tT C (pa && (pb && pc)) E (QaE (Qfh g g' ma mb mc))):=QcM (QkL ho ho' ha hb hc hm) fun _ _ _ h=>by
 have q:=QbN (k:=.V) rfl h
 exact Qix hg hg' ok ok2 ok2' ok3 q
def QeK:List D->Option D
 | [.nd .lst ds]=>some (.int ds.length)
 | [.nd .tup ds]=>some (.int ds.length)
 | [.str s]=>if s.length<=sizeLine then some (.int s.length) else none
 |_=>none
theorem QiB (hK:C.K=X.K):QcQ C.K (fun xs H Q=>∃ x n,xs=[x]/\QsU X.K x H n/\Q (.int (n:Nat)) H) QeK:=fun H vs ds res r eg=>by
 unfold QeK at eg
 split at eg
 ·obtain ⟨v,rfl,h⟩:=r.one
  obtain ⟨a,us,rfl,h1,h2⟩:=h.inv
  cases eg
  exact ⟨_,rfl,fun Q hq=>⟨.ref a,_,rfl,.inl ⟨us,hK▸h1.sql,h2.length.symm⟩,hq⟩⟩
 ·obtain ⟨v,rfl,h⟩:=r.one
  obtain ⟨a,us,rfl,h1,h2⟩:=h.inv
  cases eg
  exact ⟨_,rfl,fun Q hq=>⟨.ref a,_,rfl,.inr ⟨us,hK▸h1.sqt,h2.length.symm⟩,hq⟩⟩
 ·next s=>
  obtain ⟨v,rfl,h⟩:=r.one
  obtain rfl:=h.det_sc (w:=.str s) rfl
  by_cases c:s.length<=sizeLine
  ·rw [if_pos c] at eg;cases eg
   exact ⟨_,rfl,fun Q hq=>⟨.str s,_,rfl,⟨c,rfl⟩,hq⟩⟩
  ·rw [if_neg c] at eg;cases eg
 ·cases eg
noncomputable def gI2 (f:Int->Int->Int):List D->Option D
 | [.int i,.int j]=>some (.int (f i j))
 |_=>none
def QtU:=gI2 fun i j=>if j > i then j else i
def Qtw:=gI2 fun i j=>if j<i then j else i
theorem dI2 {K:PySem.W.Frag}{f:Int->Int->Int}:QcQ K (fun xs H Q=>∃ i j,xs=[.int i,.int j]/\Q (.int (f i j)) H) (gI2 f):=fun H vs ds res r eg=>by
 unfold gI2 at eg
 split at eg
 ·next i j=>
  cases eg
  obtain ⟨v,u,rfl,h1,h2⟩:=r.two
  obtain rfl:=h1.det_sc (w:=.int i) rfl
  obtain rfl:=h2.det_sc (w:=.int j) rfl
  exact ⟨_,rfl,fun Q hq=>⟨i,j,rfl,hq⟩⟩
 ·cases eg
def QhO:List D->Option (List Bool)
 | []=>some []
 |.bl b :: ds=>(QhO ds).map (b :: ·)
 |_=>none
def Qji:List D->Option D
 | [.nd .lst ds]=>(QhO ds).map fun bs=>.bl (bs.all fun b=>b)
 |_=>none
def Qoi:List D->Option D
 | [.nd .lst ds]=>(QhO ds).map fun bs=>.bl (bs.any fun b=>b)
 |_=>none
theorem QeF {K:PySem.W.Frag}{H:Hp}:∀ {vs:List L2.V} {ds:List D} {bs:List Bool},RL K H vs ds->QhO ds=some bs->vs=bs.map V.bl
 |_,_,_,.nil,e=>by unfold QhO at e;cases e;rfl
 |_,_,_,.cons (d:=d) h r,e=>by
  cases d with
  |bl b=>
   unfold QhO at e
   obtain ⟨bs,h1,rfl⟩:=Option.map_eq_some_iff.mp e
   rw [QeF r h1,h.det_sc (w:=.bl b) rfl]
   rfl
  |_=>cases e
theorem QpO (hK:C.K=X.K):QcQ C.K (fun xs H Q=>∃ (p:Addr) (bs:List Bool),xs=[.ref p]/\SqL X.K H p (bs.map V.bl)/\Q (.bl (bs.all fun b=>b)) H) Qji:=fun H vs ds res r eg=>by
 unfold Qji at eg
 split at eg
 ·obtain ⟨v,rfl,h⟩:=r.one
  obtain ⟨a,us,rfl,h1,h2⟩:=h.inv
  obtain ⟨bs,hb,rfl⟩:=Option.map_eq_some_iff.mp eg
  exact ⟨_,rfl,fun Q hq=>⟨a,bs,rfl,by rw [← QeF h2 hb];exact hK▸h1.sql,hq⟩⟩
 ·cases eg
theorem QdO (hc:X.calm=true):Qbo X (.builtin "any") (fun xs H Q=>∃ (p:Addr) (bs:List Bool),xs=[.ref p]/\SqL X.K H p (bs.map V.bl)/\Q (.bl (bs.any fun b=>b)) H):=by
 intro pins s σ H xs us Q I r h
 obtain ⟨p,bs,rfl,hp,q⟩:=h
 obtain ⟨u,rfl,ru⟩:=Vals.one r
 cases ru
 obtain ⟨its,rv,pl,hz⟩:=I.list hp
 have lt:=pl.isList
 have ltp:p<s.heap.objs.size:=by obtain ⟨o,ho,_⟩:=lt;exact Heap.lt_size ho
 refine PySem.call_any_walk (wpAny_pyIter_list lt ?_)
 have hlen:=rv.length
 have W:=Walks.list (prog:=X.prog) (w:=X.w) (A:=X.A.in1) (I.ok.hd hc) s.heap.objs.size p (Nat.ne_of_lt ltp) its.toArray
 refine ⟨_,_,_,_,_,_,fun j=>bs.getD j true,rfl,W,⟨⟨_,Heap.get?_push_size _ rfl,rfl,rfl⟩,lt.at fun o e=>Heap.get?_push_of_some _ e⟩,fun i v s1 Q1 E1 hP hQ=>?_,fun h' tk k=>?_⟩
 ·obtain ⟨hi,hv⟩:∃ hi:i<its.length,v=its[i]:=by
   have z:its.toArray[i]? = some v:=hP
   rw [List.getElem?_toArray] at z
   obtain ⟨h1,h2⟩:=List.getElem?_eq_some_iff.mp z
   exact ⟨h1,h2.symm⟩
  obtain ⟨b,hb⟩:∃ b,bs[i]? = some b:=⟨bs[i]'(by rw [List.length_map] at hlen;omega),List.getElem?_eq_getElem _⟩
  obtain ⟨u,hu,rb⟩:=rv.get (show (bs.map V.bl)[i]? = some (.bl b) by rw [List.getElem?_map,hb];rfl)
  have e:v=.bool b:=by
   rw [List.getElem?_eq_getElem hi] at hu
   rw [hv,Option.some.inj hu]
   exact rb
  subst e
  have e2:bs.getD i true=b:=by rw [List.getD_eq_getElem?_getD,hb];rfl
  have hQ':Q1 (bs.getD i true) s1:=hQ
  rw [e2] at hQ'
  exact wpAny_truthy_bool hQ'
 ·have e:(List.range its.toArray.size).any (fun j=>bs.getD j true)=bs.any fun b=>b:=by
   have l2:its.toArray.size=bs.length:=by rw [List.size_toArray,← hlen,List.length_map]
   rw [l2,Bool.eq_iff_iff,List.any_eq_true,List.any_eq_true]
   constructor
   ·rintro ⟨i,hi,z⟩
    have hi:=List.mem_range.mp hi
    rw [List.getD_eq_getElem?_getD,List.getElem?_eq_getElem hi] at z
    exact ⟨_,List.getElem_mem hi,z⟩
   ·rintro ⟨b,hb,z⟩
    obtain ⟨i,hi⟩:=List.getElem?_of_mem hb
    refine ⟨i,List.mem_range.mpr (List.getElem?_eq_some_iff.mp hi).1,?_⟩
    rw [List.getD_eq_getElem?_getD,hi]
    exact z
  rw [e]
  have I0:Inv X pins σ H { s with heap:=s.heap.push { cls:=.type "list_iterator",data:=.fields #[.ref p,.int 0 0] } }:=I.kept (t':=s.toks) fun b o z=>Heap.get?_push_of_some _ z
  have fp:=I.fpOk (b:=s.heap.objs.size) (H':=H) (Nat.le_refl _) I.fresh
  obtain ⟨f0,f1,f2,f3,f4,f5⟩:=fp
  exact ⟨.bl _,H,I0.turned (t':=tk) (it:=s.heap.objs.size) (fun b o hb z=>k b o (by simpa using hb) z) f0 f1 f3 f4 f5,rfl,q⟩
theorem QtC (hK:C.K=X.K):QcQ C.K (fun xs H Q=>∃ (p:Addr) (bs:List Bool),xs=[.ref p]/\SqL X.K H p (bs.map V.bl)/\Q (.bl (bs.any fun b=>b)) H) Qoi:=fun H vs ds res r eg=>by
 unfold Qoi at eg
 split at eg
 ·obtain ⟨v,rfl,h⟩:=r.one
  obtain ⟨a,us,rfl,h1,h2⟩:=h.inv
  obtain ⟨bs,hb,rfl⟩:=Option.map_eq_some_iff.mp eg
  exact ⟨_,rfl,fun Q hq=>⟨a,bs,rfl,by rw [← QeF h2 hb];exact hK▸h1.sql,hq⟩⟩
 ·cases eg
theorem Qke:bootBuiltins "any" = some (.builtin "any"):=by decide +kernel
theorem QcA:bootBuiltins "all" = some (.builtin "all"):=by decide +kernel
theorem QiN:bootBuiltins "max" = some (.builtin "max"):=by decide +kernel
theorem Qew:bootBuiltins "isinstance" = some (.builtin "isinstance"):=by decide +kernel
theorem Qfm:bootBuiltins "int" = some (.type "int"):=by decide +kernel
theorem Qhw:bootBuiltins "bool" = some (.type "bool"):=by decide +kernel
theorem QeX:bootBuiltins "str" = some (.type "str"):=by decide +kernel
inductive Ty where
 |non | bool | int | str | list | tuple | dict
 deriving DecidableEq
def Ty.nm:Ty->String
 |.non => "NoneType" |.bool => "bool" |.int => "int" |.str => "str" |.list => "list" |.tuple => "tuple" |.dict => "dict"
def Ty.of:D->Option Ty
 |.int _=>some .int | .bl _=>some .bool | .non=>some .non | .str _=>some .str | .ty _=>none | .cls _=>none
 |.nd .lst _=>some .list | .nd .tup _=>some .tuple | .nd (.dT _) _=>some .dict | .nd (.dK _) _=>some .dict | .nd (.ins _ _) _=>none | .nd (.exc _) _=>none
def Ty.sub (t u:Ty):Bool:=t == u || (t == .bool && u == .int)
def Ty.byName (c:String):Option Ty:=if c = "int" then some .int else if c = "bool" then some .bool else if c = "str" then some .str else if c = "list" then some .list else if c = "tuple" then some .tuple else if c = "dict" then some .dict else none
theorem Qfx {c:String}{u:Ty}(h:Ty.byName c=some u):c=u.nm/\u≠.non:=by
 unfold Ty.byName at h
 repeat' split at h
 all_goals first | (cases h;subst_vars;exact ⟨rfl,by decide⟩) | cases h
theorem Qih (K:PySem.W.Frag)(t u:Ty)(hu:u≠.non):PySem.W.kitOne K (.type t.nm) (.type u.nm)=some (t.sub u):=by
 cases t<;>cases u<;>first | exact absurd rfl hu | with_unfolding_all rfl
def QpN (d:D)(c:String):Option Bool:=(Ty.of d).bind fun t=>(Ty.byName c).map fun u=>t.sub u
def QpW:List D->Option (List String)
 | []=>some []
 |.ty c :: r=>(QpW r).map (c :: ·)
 |_=>none
def Qfq (d:D):List String->Option Bool
 | []=>some false
 |c :: r=>(QpN d c).bind fun b=>if b=true then some true else Qfq d r
def Qk0:List D->Option D
 | [d,.ty c]=>(QpN d c).map .bl
 | [d,.nd .tup ts]=>(QpW ts).bind fun cs=>((Ty.of d).bind fun _=>Qfq d cs).map .bl
 |_=>none
theorem Qiy {pins:List (Addr × Obj)}{σ:L2.St}{H:Hp}{s:Shared}{x:L2.V}{u:Value}{d:D}{t:Ty}(I:Inv X pins σ H s)(rx:RelV x u)(r:R X.K H x d)(ht:Ty.of d=some t):∃ Z:Heap->Prop,PySem.W.KitX X.K u (.type t.nm) Z/\Z s.heap/\u≠.builtin "__main__.__loader__#opaque" := by
 cases d with
 |int i=>cases ht;obtain rfl:=r.det_sc (w:=.int i) rfl;exact Qd2 I rx (.int i)
 |bl b=>cases ht;obtain rfl:=r.det_sc (w:=.bl b) rfl;exact Qd2 I rx (.bl b)
 |non=>cases ht;obtain rfl:=r.det_sc (w:=.non) rfl;exact Qd2 I rx .non
 |str z=>cases ht;obtain rfl:=r.det_sc (w:=.str z) rfl;exact Qd2 I rx (.str z)
 |ty n=>cases ht
 |cls n=>cases ht
 |nd tg ds=>
  obtain ⟨a,vs,rfl,h1,h2⟩:=r.inv
  cases (show u=Value.ref a from rx)
  cases tg with
  |lst=>
   cases ht
   obtain ⟨its,_,pl,_⟩:=I.list h1.sql
   obtain ⟨o,n,e,c,_,_⟩:=pl
   exact ⟨_,PySem.W.kitx_list,⟨o,e,c⟩,fun z=>nomatch z⟩
  |tup=>
   cases ht
   obtain ⟨its,_,pl,_⟩:=I.tuple h1.sqt
   obtain ⟨o,e,c,_⟩:=pl
   exact ⟨_,PySem.W.kitx_tuple,⟨o,e,c⟩,fun z=>nomatch z⟩
  |ins _ _=>cases ht
  |exc _=>cases ht
  |dT ks=>cases ht;exact Qd2 I (show RelV (.ref a) (.ref a) from rfl) (.dT h1.2)
  |dK ks=>cases ht;exact Qd2 I (show RelV (.ref a) (.ref a) from rfl) (.dK h1.2)
theorem Qfy {K:PySem.W.Frag}{d:D}{t:Ty}(ht:Ty.of d=some t):∀ {cs:List String} {b:Bool},Qfq d cs=some b->PySem.W.kitAny K (.type t.nm) (cs.map Value.type)=some b
 | [],b,h=>by unfold Qfq at h;cases h;rfl
 |c :: r,b,h=>by
  unfold Qfq at h
  obtain ⟨b1,h1,h2⟩:=Option.bind_eq_some_iff.mp h
  unfold QpN at h1
  rw [ht] at h1
  obtain ⟨u,hu,rfl⟩:=Option.map_eq_some_iff.mp h1
  obtain ⟨rfl,hn⟩:=Qfx hu
  have hk:=Qih K t u hn
  show (match PySem.W.kitOne K (.type t.nm) (.type u.nm) with | some true=>some true | some false=>PySem.W.kitAny K (.type t.nm) (r.map Value.type) | none=>none)=some b
  rw [hk]
  by_cases cc:t.sub u=true
  ·rw [if_pos cc] at h2;cases h2
   rw [cc]
  ·rw [if_neg cc] at h2
   rw [show t.sub u=false by simpa using cc]
   exact Qfy ht h2
theorem Qh7 {K:PySem.W.Frag}{H:Hp}:∀ {vs:List L2.V} {ts:List D} {cs:List String},RL K H vs ts->QpW ts=some cs->vs=cs.map V.ty
 |_,_,_,.nil,e=>by unfold QpW at e;cases e;rfl
 |_,_,_,.cons (d:=d) h r,e=>by
  cases d with
  |ty b=>
   unfold QpW at e
   obtain ⟨bs,h1,rfl⟩:=Option.map_eq_some_iff.mp e
   rw [Qh7 r h1,h.det_sc (w:=.ty b) rfl]
   rfl
  |_=>cases e
def QqP (K:PySem.W.Frag):List L2.V->Hp->VK->Prop:=fun xs H Q=>∃ ds b,RL K H xs ds/\Qk0 ds=some (.bl b)/\Q (.bl b) H
theorem Qm3 {d:D}{c:String}{b:Bool}(h:QpN d c=some b):∃ t u,Ty.of d=some t/\Ty.byName c=some u/\b=t.sub u:=by
 unfold QpN at h
 obtain ⟨t,h1,h2⟩:=Option.bind_eq_some_iff.mp h
 obtain ⟨u,h3,rfl⟩:=Option.map_eq_some_iff.mp h2
 exact ⟨t,u,h1,h3,rfl⟩
theorem Qfw:Qbo X (.builtin "isinstance") (QqP X.K):=by
 intro pins s σ H xs us Q I r h
 obtain ⟨ds,b,rl,hg,q⟩:=h
 unfold Qk0 at hg
 split at hg
 ·next d c=>
  obtain ⟨b',hb,e⟩:=Option.map_eq_some_iff.mp hg
  cases e
  obtain ⟨t,u,h1,h2,rfl⟩:=Qm3 hb
  obtain ⟨x,y,rfl,rx,ry⟩:=rl.two
  obtain rfl:=ry.det_sc (w:=.ty c) rfl
  obtain ⟨p,w',rfl,ru,rc⟩:=Vals.two r
  cases rc
  obtain ⟨Z,k,z,ne⟩:=Qiy I ru rx h1
  obtain ⟨rfl,hn⟩:=Qfx h2
  exact PySem.W.kia_one k I.kIn z (Qih _ t u hn) ne fun tk=>⟨.bl _,H,I.tok tk,rfl,q⟩
 ·next d ts=>
  obtain ⟨cs,hc,hg⟩:=Option.bind_eq_some_iff.mp hg
  obtain ⟨b',hb,e⟩:=Option.map_eq_some_iff.mp hg
  cases e
  obtain ⟨x,y,rfl,rx,ry⟩:=rl.two
  obtain ⟨a,vs,rfl,h1,h2⟩:=ry.inv
  obtain ⟨p,w',rfl,ru,rc⟩:=Vals.two r
  cases rc
  have ev:=Qh7 h2 hc
  subst ev
  obtain ⟨its,rv,pl,_⟩:=I.tuple h1.sqt
  obtain ⟨⟨cls,dd,data,sl⟩,g1,g2,n,g3⟩:=pl
  have e2:=QjO rv
  subst e2
  simp only at g2 g3
  subst g2 g3
  cases ht:Ty.of d with
  |none=>rw [ht] at hb;cases hb
  |some t=>
   rw [ht] at hb
   obtain ⟨Z,k,z,ne⟩:=Qiy I ru rx ht
   exact PySem.W.kia_tup k I.kIn z g1 (Qfy ht hb) ne fun tk=>⟨.bl _,H,I.tok tk,rfl,q⟩
 ·cases hg
theorem Qs5 (hK:C.K=X.K):QcQ C.K (QqP X.K) Qk0:=fun H vs ds res r eg=>by
 have e:∃ b,res=.bl b:=by
  unfold Qk0 at eg
  split at eg
  ·obtain ⟨b,_,rfl⟩:=Option.map_eq_some_iff.mp eg;exact ⟨b,rfl⟩
  ·obtain ⟨cs,_,eg⟩:=Option.bind_eq_some_iff.mp eg
   obtain ⟨b,_,rfl⟩:=Option.map_eq_some_iff.mp eg;exact ⟨b,rfl⟩
  ·cases eg
 obtain ⟨b,rfl⟩:=e
 exact ⟨_,rfl,fun Q hq=>⟨ds,b,hK▸r,eg,hq⟩⟩
noncomputable def Qeo (ds:List D):List D:=ds.zipIdx.map fun x=>.tup [.int (x.2:Nat),x.1]
theorem Qhe {K:PySem.W.Frag}{F:Hp}{a:Addr}{kd:Bool}{vs:List L2.V}{ds:List D}(h:At K F a (if kd then .lst else .tup) vs)(r:RL K F vs ds):ItD K F (Qeo ds) (Itq kd K a):=by
 have up:∀ {F' H:Hp},Same F F'->Same F' H->SqB kd K H a vs:=fun s1 s2=>by
  cases kd with
  |true=>exact (At.same (t:=.lst) h (s1.trans s2)).sql
  |false=>exact (At.same (t:=.tup) h (s1.trans s2)).sqt
 have get:∀ {i:Nat} {d:D},(Qeo ds)[i]? = some d->∃ x,ds[i]? = some x/\d=.tup [.int (i:Nat),x]:=fun {i d} e=>by
  unfold Qeo at e
  rw [List.getElem?_map] at e
  obtain ⟨q,hq,rfl⟩:=Option.map_eq_some_iff.mp e
  rw [List.getElem?_zipIdx] at hq
  obtain ⟨x,hx,rfl⟩:=Option.map_eq_some_iff.mp hq
  exact ⟨x,hx,by simp⟩
 refine ⟨fun {C F' H σ ρ τ fp i d} hk I s e=>?_,fun {C F' H σ ρ τ fp} hk I s=>?_⟩
 ·obtain ⟨x,hx,rfl⟩:=get e
  obtain ⟨v,ev,rv⟩:=r.get hx
  have q:=up s I.fh
  have fin:∀ {T:Addr} {y:L2.V},H T=none->y=v->∃ F'',SI C F'' (upd H T (.tup [.int (i:Nat),y])) σ ρ τ fp/\Nx true F' H fp F'' (upd H T (.tup [.int (i:Nat),y])) fp/\R K F'' (.ref T) (.tup [.int (i:Nat),x]):=fun {T y} hT ey=>by
   subst ey
   have s2:=Same.upd (o:=HO.tup [.int (i:Nat),y]) (I.fh.free hT)
   exact ⟨_,I.lay hT,⟨s2,fun _=>Qd5 I hT⟩,.nd (t:=.tup) Qah (.cons (.sc rfl) (.cons (rv.same (s.trans s2)) .nil))⟩
  cases kd with
  |true=>exact ⟨⟨vs,v,q,ev⟩,fun x0 H' ⟨T,y,hT,e1,e2,e3⟩=>by
    subst e1 e2
    have z:=e3 vs q
    rw [ev] at z
    exact fin hT (Option.some.inj z).symm⟩
  |false=>exact ⟨⟨vs,v,q,ev⟩,fun x0 H' ⟨T,y,hT,e1,e2,e3⟩=>by
    subst e1 e2
    have z:=e3 vs q
    rw [ev] at z
    exact fin hT (Option.some.inj z).symm⟩
 ·have q:=up s I.fh
  have l:=r.length
  have l2:(Qeo ds).length=ds.length:=by unfold Qeo;rw [List.length_map,List.length_zipIdx]
  cases kd with
  |true=>exact ⟨vs,q,by omega⟩
  |false=>exact ⟨vs,q,by omega⟩
def QkP (mr:MA):MA:=fun ρ=>(mr ρ).bind fun r=>(Rs.of (Qhn r.1)).bind fun ds=>.ok (Qeo ds,r.2)
theorem Qmc {es:List Expr}{k0:Nat}{tp px:Pos}(hm:X.mg "enumerate" = none)(hK:C.K=X.K)(ha:PA X [e] (tA ks C p E mr))(ok:knL ks=true:=by rfl)(hg:Gl X "enumerate" := by rfl)(hs:starEach [e] X.env=(false,eval e X.env) :: starEach [] X.env:=by rfl)(hpl:(backTo pos (starEach [] X.env)).any (·.1)=false:=by rfl) :
  PI X (.Tuple es k0 tp) (.Call (.Name "enumerate" px) [e] [] pos) (tI C p E (QkP mr)):=QeA (QkW hg hm ha hs hpl) fun σ H RR ⟨F,ρ,τ,fp,I,h⟩=>by
 refine ⟨F,ρ,τ,fp,I,h.split.mono fun r hr F1 H1 fp1 vs I1 n1 f1=>?_⟩
 rw [QaY (Qcl ok)] at I1
 obtain ⟨ds,eg,h2⟩:=hr.split.of
 obtain ⟨q,us,rfl,hs,rl⟩:=QgC (f1.kn ok) eg
 rcases hs with hs | hs
 ·refine ⟨q,true,rfl,⟨us,by rw [← hK];exact (At.same hs I1.fh).sql⟩,h2 F1 H1 fp1 _ I1 n1 ?_⟩
  rw [← hK]
  exact Qhe (kd:=true) hs rl
 ·refine ⟨q,false,rfl,⟨us,by rw [← hK];exact (At.same hs I1.fh).sqt⟩,h2 F1 H1 fp1 _ I1 n1 ?_⟩
  rw [← hK]
  exact Qhe (kd:=false) hs rl
end
noncomputable def Qd8 (ρ:Rho)(i:Nat):Option (Bool × List D):=match ρ[i]? with
 |some (some (.own (.nd .lst ds)))=>some (false,ds)
 |some (some (.par (.nd .lst ds)))=>some (true,ds)
 |_=>none
theorem Qi0 {ρ:Rho}{i:Nat}{q:Bool × List D}(h:Qd8 ρ i=some q):ρ[i]? = some (some (mkS q.1 (.lst q.2))):=by
 unfold Qd8 at h
 split at h
 ·next e=>cases h;exact e
 ·next e=>cases h;exact e
 ·cases h
section
variable {K:PySem.W.Frag}{F H:Hp}
theorem OL.snoc {vs:List L2.V}{ds:List D}{f g:List Addr}{v:L2.V}{d:D}(o:OL K F H vs ds f)(h:O K F H v d g):OL K F H (vs++[v]) (ds++[d]) (f++g):=by
 have q:=o.app (.cons h .nil)
 rw [List.append_nil] at q
 exact q
theorem O.lstInv {v:L2.V}{ds:List D}{f:List Addr}(o:O K F H v (.nd .lst ds) f):∃ a vs g,v=.ref a/\f=a :: g/\H a=some (.lst vs)/\OL K F H vs ds g:=by
 cases o with
 |sc e=>cases e
 |im m h r=>cases m
 |mt h r=>exact ⟨_,_,_,rfl,rfl,h,r⟩
end
section
variable {X:Cx}{C:Cn}{E:XE}{p:Bool}{e a b:Expr}{es:List Expr}{m mi:ME}{pos:Pos}{rk:Kd}
theorem SI.relist {F H:Hp}{σ:L2.St}{ρ:Rho}{τ:List (L2.V × D)}{fp:List Addr}{i:Nat}{par:Bool}{ds:List D}(I:SI C F H σ ρ τ fp)(es:ρ[i]? = some (some (mkS par (.lst ds)))):∃ l vs f rest,σ[i]? = some (some (.ref l))/\H l=some (.lst vs)/\OL C.K F H vs ds f/\fp.Perm ((l :: f)++rest)/\(∀ b∈l :: f,QbT C par b)/\
  ∀ {H':Hp} {vs':List L2.V} {ds':List D} {f':List Addr},H' l=some (.lst vs')->OL C.K F H' vs' ds' f'->(∀ b,b∈rest->H' b=H b)->(∀ b o,H b=some o->b∉l :: f->H' b=some o)->(∀ b,H' b=none->H b=none)->((l :: f')++rest).Nodup->(∀ b∈f',F b=none/\QbT C par b)->SI C F H' σ (ρ.set i (some (mkS par (.lst ds')))) τ ((l :: f')++rest):=by
 obtain ⟨x,f0,g0,rest,ex,s1,pm,w0,w1,cl⟩:=I.cut es
 obtain ⟨v,fi,ev,ho,efi,wfi⟩:∃ v fi,x=some v/\O C.K F H v (.nd .lst ds) fi/\f0++g0=fi/\∀ a∈fi,QbT C par a:=by
  cases par with
  |false=>cases s1 with | own h=>exact ⟨_,_,rfl,h,by simp,fun a ha=>.inl (w0 a ha)⟩
  |true=>cases s1 with | par h=>exact ⟨_,_,rfl,h,rfl,fun a ha=>(w1 a ha).elim (fun z=>.inr ⟨rfl,z⟩) fun z=>.inl z⟩
 subst ev
 obtain ⟨l,vs,g,rfl,rfl,hl,ol⟩:=ho.lstInv
 have pm':fp.Perm ((l :: g)++rest):=by
  rw [← efi,List.append_assoc];exact pm
 have ndp:=pm'.nodup_iff.mp I.nd
 refine ⟨l,vs,g,rest,ex,hl,ol,pm',wfi,fun {H' vs' ds' f'} hl' ol' hk kp dm nd fr=>?_⟩
 have hF:Same F H':=fun b o e=>by
  refine kp b o (I.fh b o e) fun z=>?_
  have:=I.ap b (pm'.mem_iff.mpr (List.mem_append_left _ z))
  rw [e] at this;cases this
 have nop:∀ b,C.H₀ b≠none->b∉C.A->b∉l :: g:=fun b h1 h2 z=>by
  rcases wfi b z with y | y
  ·exact h1 y
  ·exact h2 y.2
 have apn:∀ b∈(l :: f')++rest,F b=none:=fun b hb=>by
  rcases List.mem_append.mp hb with z | z
  ·rcases List.mem_cons.mp z with rfl | z
   ·exact I.ap _ (pm'.mem_iff.mpr (by simp))
   ·exact (fr b z).1
  ·exact I.ap b (pm'.mem_iff.mpr (List.mem_append_right _ z))
 have frn:∀ b∈l :: f',QbT C par b:=fun b hb=>by
  rcases List.mem_cons.mp hb with rfl | z
  ·exact wfi _ List.mem_cons_self
  ·exact (fr b z).2
 have es':=es
 cases par with
 |false=>
  have J:=cl (F':=F) (H':=H') (x':=some (.ref l)) (s':=some (.own (.lst ds'))) (f0':=l :: f') (g0':=[]) (Same.refl F) hF hk dm (fun b o e n z=>kp b o z (nop b (by rw [e];simp) n)) (fun _ _ z=>.inl z) (.own (.mt (t:=.lst) hl' ol')) nd apn (fun b hb=>(frn b hb).resolve_right fun z=>nomatch z.1) (fun _ z=>nomatch z) (fun v hv=>by
   obtain ⟨_,d',z⟩:=I.pr _ _ hv
   rw [es] at z;cases z)
  rw [QaR ex] at J
  exact J
 |true=>
  have J:=cl (F':=F) (H':=H') (x':=some (.ref l)) (s':=some (.par (.lst ds'))) (f0':=[]) (g0':=l :: f') (Same.refl F) hF hk dm (fun b o e n z=>kp b o z (nop b (by rw [e];simp) n)) (fun _ _ z=>.inl z) (.par (.mt (t:=.lst) hl' ol')) nd apn (fun _ z=>nomatch z) (fun b hb=>(frn b hb).elim (fun z=>.inr z) fun z=>.inl z.2) (fun v hv=>⟨by
   obtain ⟨z,_⟩:=I.pr _ _ hv
   rw [ex] at z;exact Option.some.inj z,_,rfl⟩)
  rw [QaR ex] at J
  exact J
theorem SI.remake {F H:Hp}{σ:L2.St}{ρ:Rho}{τ:List (L2.V × D)}{fp:List Addr}{i:Nat}{par:Bool}{ds:List D}(I:SI C F H σ ρ τ fp)(es:ρ[i]? = some (some (mkS par (.lst ds)))):∃ l vs f rest,σ[i]? = some (some (.ref l))/\H l=some (.lst vs)/\OL C.K F H vs ds f/\fp.Perm ((l :: f)++rest)/\(∀ b∈l :: f,QbT C par b)/\
  ∀ {vs':List L2.V} {ds':List D} {f':List Addr},OL C.K F H vs' ds' f'->((l :: f')++rest).Nodup->(∀ b∈f',F b=none/\QbT C par b)->SI C F (upd H l (.lst vs')) σ (ρ.set i (some (mkS par (.lst ds')))) τ ((l :: f')++rest):=by
 obtain ⟨l,vs,f,rest,ex,hl,ol,pm,w,cl⟩:=I.relist es
 have ndp:=pm.nodup_iff.mp I.nd
 refine ⟨l,vs,f,rest,ex,hl,ol,pm,w,fun {vs' ds' f'} ol' nd fr=>?_⟩
 have nl:∀ {b:Addr},b∈f'\/b∈rest->b≠l:=fun {b} hb z=>by
  subst z
  have:=(List.nodup_cons.mp (show (b :: (f'++rest)).Nodup from nd)).1
  exact this (List.mem_append.mpr hb)
 refine cl Qah (ol'.keep (Same.refl _) fun b hb=>Qad (nl (.inl hb))) (fun b hb=>Qad (nl (.inr hb))) (fun b o e n=>(Qad (by intro z;subst z;exact n List.mem_cons_self)).trans e) (fun b e=>?_) nd fr
 by_cases hb:b=l
 ·subst hb;rw [Qah] at e;cases e
 ·rw [Qad hb] at e;exact e
def QqX (i:Nat)(m:ME):MS:=fun ρ=>(Rs.of (Qd8 ρ i)).bind fun _=>(m ρ).bind fun r=>(Rs.of (Qd8 r.2 i)).bind fun q=>if q.2.length<sizeLine then .ok (.nx,r.2.set i (some (mkS q.1 (.lst (q.2++[r.1]))))) else .no
theorem QkZ {i:Nat}{x:Str}{np apos cpos:Pos}(hK:C.K=X.K)(hN:X.N[i]? = some x)(hv:Vis X.env.scope x)(he:PE X e (tX .O C p E m))(hs:swapsWith (.Call (.Attribute (.Name x np) "append" apos) [e] [] cpos) none pos.line X.env=pure false:=by rfl)
  (hbase:attributeBase (.Name x np) "append" X.env (eval (.Name x np) X.env)=eval (.Name x np) X.env:=by rfl) (hfew:((backTo cpos (starEach [e] X.env)).all (fun x=>!x.1) && (backToKw cpos (keywordEach [] X.env)).all (fun x=>x.1.isSome) && decide ([e].length+([]:List Keyword).length+(if ([]:List Keyword).isEmpty then 0 else 1)<30))=true:=by rfl)
  (hline:(apos.endLine == cpos.line)=true:=by rfl) (hst:starEach [e] X.env=(false,eval e X.env) :: starEach [] X.env:=by rfl) (hplain:(backTo cpos (starEach [] X.env)).any (·.1)=false:=by rfl) (hd:(x == ("__debug__" : Str))=false:=by decide) (hcd:(x == ("__classdict__" : Str))=false:=by decide) :
  PS X (.Expr (.Call (.Attribute (.Name x np) "append" apos) [e] [] cpos) pos) (tS rk C E (QqX i m)):=
 Qa3 (Qil (Qjy PySem.F.plainAttrs_list PySem.F.slot_list_append PySem.F.type_list_append Qh2 (QdD hN hv hd hcd) (Qeg he Qgs hst) hbase hfew hline hst hplain) hs) fun D σ H ⟨F,ρ,fp,I,h⟩=>by
 obtain ⟨q0,e0,h⟩:=h.split.of
 obtain ⟨l0,vs0,f0,rest0,ex0,hl0,_⟩:=I.relist (Qi0 e0)
 refine ⟨_,ex0,.inl ⟨rfl,vs0,SqL.of hl0⟩,F,ρ,[],fp,I,h.split.run.mono fun r hr F1 H1 fp1 v I1 n1 _=>?_⟩
 obtain ⟨q,eq,h2⟩:=hr.split.of
 obtain ⟨ft,restt,ot,pmt,J,t0,tap,tnd⟩:=SI.pop (τ:=[]) I1
 obtain ⟨l,vs,f,rest,ex,hl,ol,pm,w,cl⟩:=J.remake (Qi0 eq)
 have el:l=l0:=by rw [ex0] at ex;cases ex;rfl
 subst el
 by_cases hz:q.2.length<sizeLine
 ·rw [if_pos hz] at h2
  have ndJ:=pm.nodup_iff.mp J.nd
  refine ⟨l,vs,v,rfl,rfl,hl,by rw [ol.length];exact hz,?_⟩
  refine h2 F1 _ σ _ n1.f (cl (ol.snoc ot) ?_ fun b hb=>?_)
  ·have pp:(ft++((l :: f)++rest)).Perm ((l :: (f++ft))++rest):=by
    rw [List.perm_iff_count]
    intro a
    simp only [List.count_append,List.count_cons]
    omega
   exact pp.nodup_iff.mp ((pm.append_left ft).nodup_iff.mp tnd)
  ·rcases List.mem_append.mp hb with z | z
   ·exact ⟨J.ap b (pm.mem_iff.mpr (by simp [z])),w b (List.mem_cons_of_mem _ z)⟩
   ·exact ⟨tap b z,.inl (t0 b z)⟩
 ·rw [if_neg hz] at h2;exact h2.elim
noncomputable def asL:D->Option (List D)
 |.nd .lst ds=>some ds
 |_=>none
theorem QeV {d:D}{ds:List D}(h:asL d=some ds):d=.nd .lst ds:=by
 unfold asL at h
 split at h
 ·cases h;rfl
 ·cases h
noncomputable def asI:D->Option Int
 |.int i=>some i
 |_=>none
theorem QoC {d:D}{i:Int}(h:asI d=some i):d=.int i:=by
 cases d<;>cases h
 rfl
def QsM (i:Nat)(m:ME):MS:=fun ρ=>(Rs.of (Qd8 ρ i)).bind fun _=>(m ρ).bind fun r=>(Rs.of (Qd8 r.2 i)).bind fun q=>(Rs.of (asL r.1)).bind fun ds=>if q.2.length+ds.length<=sizeLine then .ok (.nx,r.2.set i (some (mkS q.1 (.lst (q.2++ds))))) else .no
def QoM (i:Nat)(m mi:ME):MS:=fun ρ=>(m ρ).bind fun r=>(Rs.of (Qd8 r.2 i)).bind fun _=>(mi r.2).bind fun s=>(Rs.of (Qd8 s.2 i)).bind fun q=>(Rs.of ((asI s.1).bind fun n=>ixN q.2.length n)).bind fun j=>
 .ok (.nx,s.2.set i (some (mkS q.1 (.lst (q.2.set j r.1)))))
end
section
variable {X:Cx}{C:Cn}{E:XE}{p pa pb:Bool}{e a b:Expr}{es:List Expr}{m ma mb:ME}{pos:Pos}{k ka kb:Kd}{ks:List Kd}
def Qsq (K:PySem.W.Frag):R2:=fun x y H Q=>∃ l b xs zs,x=.ref l/\y=.ref b/\SqL K H l xs/\SqL K H b zs/\xs.length+zs.length<=sizeLine/\∀ p,H p=none->Q (.ref p) (upd H p (.lst (xs++zs)))
theorem Qjl:OpR X (binaryOp .Add) (Qsq X.K):=by
 intro pins s σ H x y v u Q I rx ry h
 obtain ⟨l,b,xs,zs,rfl,rfl,hH,hB,hz,q⟩:=h
 cases rx
 cases ry
 obtain ⟨its,r,pl,z⟩:=I.list hH
 obtain ⟨its2,r2,pl2,z2⟩:=I.list hB
 obtain ⟨⟨cls,dd,data,sl⟩,n,ho,hc,hdd,hd⟩:=pl
 obtain ⟨⟨cls2,dd2,data2,sl2⟩,n2,ho2,hc2,hdd2,hd2⟩:=pl2
 cases hc;cases hd;cases hc2;cases hd2
 have hl:=r.length
 have hl2:=r2.length
 refine PySem.concat_meets ⟨_,ho,rfl⟩ ⟨_,ho2,rfl⟩ PySem.noFill_list_add PySem.seq_list_add PySem.F.slot_list_add PySem.F.entry_list_add (PySem.F.args_list_add_2 _ _) (PyProof.Rows.list_addW l b its.toArray its2.toArray n n2 dd dd2 sl sl2 (by rw [List.size_toArray,List.size_toArray];omega)) ⟨ho,ho2,?_⟩
 have ea:its.toArray++its2.toArray=(its++its2).toArray:=by simp
 rw [ea]
 exact ⟨.ref _,_,I.lnew (t':=s.toks) (r.append r2) (by rw [List.length_append];omega),rfl,q _ I.fresh⟩
def QmR (ma mb:ME):ME:=fun ρ=>(ma ρ).bind fun r1=>(mb r1.2).bind fun r2=>(Rs.of (asL r1.1)).bind fun xs=>(Rs.of (asL r2.1)).bind fun ys=>if xs.length+ys.length<=sizeLine then .ok (.lst (xs++ys),r2.2) else .no
def Qmv (ma mb:ME):ME:=fun ρ=>(ma ρ).bind fun r1=>(mb r1.2).bind fun r2=>(Rs.of (asL r1.1)).bind fun xs=>(Rs.of (asL r2.1)).bind fun ys=>if xs.length+ys.length<=sizeLine then (if D.immL (xs++ys)=true then .ok (.lst (xs++ys),r2.2) else .no) else .no
theorem QgV (hK:C.K=X.K)(ha:PE X a (tX .V C pa E ma))(hb:PE X b (tX .V C pb E mb)):PE X (.BinOp a .Add b pos) (tX .V C (pa && pb) E (QmR ma mb)):=Qag (QmD Qjl ha hb) fun σ H Q ⟨F,ρ,τ,fp,I,h⟩=>by
 refine ⟨F,ρ,τ,fp,I,h.split.mono fun r1 h1 F1 H1 fp1 v1 I1 n1 f1=>?_⟩
 refine ⟨F1,r1.2,τ,fp1,I1,h1.split.mono fun r2 h2 F2 H2 fp2 v2 I2 n2 f2=>?_⟩
 obtain ⟨xs,e1,h3⟩:=h2.split.of
 obtain ⟨ys,e2,h4⟩:=h3.split.of
 have g1:R C.K F2 v1 (.nd .lst xs):=by rw [← QeV e1];exact R.same n2.f f1
 have g2:R C.K F2 v2 (.nd .lst ys):=by rw [← QeV e2];exact f2
 obtain ⟨l1,us,rfl,a1,rl1⟩:=g1.inv
 obtain ⟨l2,ws,rfl,a2,rl2⟩:=g2.inv
 by_cases hz:xs.length+ys.length<=sizeLine
 ·rw [if_pos hz] at h4
  refine ⟨l1,l2,us,ws,rfl,rfl,hK▸At.same a1 I2.fh,hK▸At.same a2 I2.fh,by rw [rl1.length,rl2.length];exact hz,fun q hq=>?_⟩
  have s:=Same.upd (o:=HO.lst (us++ws)) (I2.fh.free hq)
  exact h4 _ _ fp2 _ (I2.lay hq) (((n1.trans n2).trans (q:=true) ⟨s,fun _=>Qd5 I2 hq⟩).weak fun z=>by simpa using z) (.nd (t:=.lst) (.inl (.inl Qah)) ((rl1.app rl2).same s))
 ·rw [if_neg hz] at h4;exact h4.elim
theorem Qqm (hK:C.K=X.K)(ha:PE X a (tX ka C pa E ma))(hb:PE X b (tX kb C pb E mb))(ok:ka.on pb=true:=by rfl)(ok2:kb.on true=true:=by rfl):PE X (.BinOp a .Add b pos) (tX .O C (pa && pb) E (Qmv ma mb)):=Qag (QmD Qjl ha hb) fun σ H Q ⟨F,ρ,τ,fp,I,h⟩=>by
 refine ⟨F,ρ,τ,fp,I,h.split.mono fun r1 h1 F1 H1 fp1 v1 I1 n1 f1=>?_⟩
 rw [Kd.tk_on ok] at I1
 refine ⟨F1,r1.2,τ,fp1,I1,h1.split.mono fun r2 h2 F2 H2 fp2 v2 I2 n2 f2=>?_⟩
 rw [Kd.tk_on ok2] at I2
 obtain ⟨xs,e1,h3⟩:=h2.split.of
 obtain ⟨ys,e2,h4⟩:=h3.split.of
 have g1:R C.K (jn F2 H2 fp2) v1 (.nd .lst xs):=by rw [← QeV e1];exact Kd.stay ok f1 n2 I2
 have g2:R C.K (jn F2 H2 fp2) v2 (.nd .lst ys):=by rw [← QeV e2];exact Kd.stay ok2 f2 .refl I2
 obtain ⟨l1,us,rfl,a1,rl1⟩:=g1.inv
 obtain ⟨l2,ws,rfl,a2,rl2⟩:=g2.inv
 by_cases hz:xs.length+ys.length<=sizeLine
 ·rw [if_pos hz] at h4
  by_cases hi:D.immL (xs++ys)=true
  ·rw [if_pos hi] at h4
   refine ⟨l1,l2,us,ws,rfl,rfl,hK▸At.same a1 (QbD I2.fh),hK▸At.same a2 (QbD I2.fh),by rw [rl1.length,rl2.length];exact hz,fun q hq=>?_⟩
   exact h4 _ _ _ _ (I2.newList hq (I2.loL (rl1.app rl2) hi) hi) (((n1.trans n2).trans (q:=true) ⟨Same.refl _,fun _=>Qgx I2 hq⟩).weak fun z=>by simpa using z) True.intro
  ·rw [if_neg hi] at h4;exact h4.elim
 ·rw [if_neg hz] at h4;exact h4.elim
abbrev MO:=Rho->Rs (Option Int × Rho)
def tO (C:Cn)(p:Bool)(E:XE)(m:MO):TO:=fun σ H Q=>∃ F ρ τ fp,SI C F H σ ρ τ fp/\Run C E σ (m ρ) fun r=>∀ F' H' fp',SI C F' H' σ r.2 τ fp'->Nx p F H fp F' H' fp'->Q r.1 H'
def Qs4:MO:=fun ρ=>.ok (none,ρ)
def QsX (m:ME):MO:=fun ρ=>(m ρ).bind fun r=>(Rs.of (asI r.1)).bind fun i=>.ok (some i,r.2)
theorem Qju {e:Option Expr}{t t':TO}(h:PO X e t)(k:∀ σ H Q,t' σ H Q->t σ H Q):PO X e t':=fun pins s σ H Q I q=>h pins s σ H Q I (k _ _ _ q)
theorem QdR:PO X none (tO C true E Qs4):=Qju Qmh fun σ H Q ⟨F,ρ,τ,fp,I,h⟩=>h F H fp I .refl
theorem QaX (h:PE X e (tX k C p E m))(ok:k.on true=true:=by rfl):PO X (some e) (tO C p E (QsX m)):=Qju (Qmr h) fun σ H Q ⟨F,ρ,τ,fp,I,h⟩=>by
 refine ⟨F,ρ,τ,fp,I,h.split.mono fun r1 h1 F1 H1 fp1 v1 I1 n1 f1=>?_⟩
 rw [Kd.tk_on ok] at I1
 obtain ⟨i,ei,h2⟩:=h1.split.of
 have rr:=Kd.stay ok f1 .refl I1
 rw [QoC ei] at rr
 exact ⟨i,rr.det_sc rfl,h2 F1 H1 fp1 I1 n1⟩
noncomputable def Qc9 {α:Type}(xs:List α)(lo hi:Option Int):List α:=(xs.drop (HT.sIx xs.length 0 lo)).take (HT.sIx xs.length xs.length hi - HT.sIx xs.length 0 lo)
theorem RL.drop {K:PySem.W.Frag}{F:Hp}{vs:List L2.V}{ds:List D}(n:Nat)(r:RL K F vs ds):RL K F (vs.drop n) (ds.drop n):=by
 induction n generalizing vs ds with
 |zero=>exact r
 |succ n ih=>cases r with
  |nil=>exact .nil
  |cons _ r=>exact ih r
theorem RL.take {K:PySem.W.Frag}{F:Hp}{vs:List L2.V}{ds:List D}(n:Nat)(r:RL K F vs ds):RL K F (vs.take n) (ds.take n):=by
 induction n generalizing vs ds with
 |zero=>exact .nil
 |succ n ih=>cases r with
  |nil=>exact .nil
  |cons h r=>exact .cons h (ih r)
theorem RL.cut {K:PySem.W.Frag}{F:Hp}{vs:List L2.V}{ds:List D}{lo hi:Option Int}(r:RL K F vs ds):RL K F (Qmz vs lo hi) (Qc9 ds lo hi):=by
 unfold Qmz Qc9
 rw [r.length]
 exact (r.drop _).take _
def Qr3 (m:ME)(lo hi:MO):ME:=fun ρ=>(m ρ).bind fun r=>(lo r.2).bind fun l=>(hi l.2).bind fun h=>(Rs.of (asL r.1)).bind fun xs=>.ok (.lst (Qc9 xs l.1 h.1),h.2)
def Qs0 (m:ME)(lo hi:MO):ME:=fun ρ=>(m ρ).bind fun r=>(lo r.2).bind fun l=>(hi l.2).bind fun h=>(Rs.of (asL r.1)).bind fun xs=>if D.immL (Qc9 xs l.1 h.1)=true then .ok (.lst (Qc9 xs l.1 h.1),h.2) else .no
variable {lo hi:Option Expr}{ml mh:MO}{p2:Pos}
theorem Qfd (hK:C.K=X.K)(he:PE X e (tX .V C p E m))(hl:PO X lo (tO C pa E ml))(hu:PO X hi (tO C pb E mh)):PE X (.Subscript e (.Slice lo hi none p2) pos) (tX .V C (p && (pa && pb)) E (Qr3 m ml mh)):=Qag (QgY QlW he hl hu) fun σ H Q ⟨F,ρ,τ,fp,I,h⟩=>by
 refine ⟨F,ρ,τ,fp,I,h.split.mono fun r1 h1 F1 H1 fp1 v1 I1 n1 f1=>?_⟩
 refine ⟨F1,r1.2,τ,fp1,I1,h1.split.mono fun r2 h2 F2 H2 fp2 I2 n2=>?_⟩
 refine ⟨F2,r2.2,τ,fp2,I2,h2.split.mono fun r3 h3 F3 H3 fp3 I3 n3=>?_⟩
 obtain ⟨xs,e1,h4⟩:=h3.split.of
 have g1:R C.K F3 v1 (.nd .lst xs):=by rw [← QeV e1];exact R.same (n2.f.trans n3.f) f1
 obtain ⟨l1,us,rfl,a1,rl1⟩:=g1.inv
 refine ⟨l1,us,rfl,by rw [← hK];exact (At.same a1 I3.fh).sql,fun q hq=>?_⟩
 have s:=Same.upd (o:=HO.lst (Qmz us r2.1 r3.1)) (I3.fh.free hq)
 exact h4 _ _ fp3 _ (I3.lay hq) (((n1.trans (n2.trans n3)).trans (q:=true) ⟨s,fun _=>Qd5 I3 hq⟩).weak fun z=>by simpa using z) (.nd (t:=.lst) (.inl (.inl Qah)) (rl1.cut.same s))
def Qf8:D->Option Key
 |.int i=>some (.inl i)
 |.str s=>some (.inr s)
 |_=>none
def Qoy:List D->Option (List Key)
 | []=>some []
 |d :: ds=>(Qf8 d).bind fun k=>(Qoy ds).map (k :: ·)
def Qsy:D->Option (List Key)
 |.nd .tup ds=>Qoy ds
 |_=>none
theorem QhS {K:PySem.W.Frag}{F:Hp}:∀ {vs:List L2.V} {ds:List D} {ks:List Key},RL K F vs ds->Qoy ds=some ks->vs=ks.map kV
 |_,_,_,.nil,e=>by unfold Qoy at e;cases e;rfl
 |_,_,_,.cons (d:=d) h r,e=>by
  unfold Qoy at e
  obtain ⟨k,h1,h2⟩:=Option.bind_eq_some_iff.mp e
  obtain ⟨ks,h3,rfl⟩:=Option.map_eq_some_iff.mp h2
  rw [List.map_cons,← QhS r h3]
  cases d with
  |int i=>cases h1;rw [h.det_sc (w:=.int i) rfl];rfl
  |str z=>cases h1;rw [h.det_sc (w:=.str z) rfl];rfl
  |_=>cases h1
theorem Qqc {K:PySem.W.Frag}{F:Hp}{v:L2.V}{d:D}{ks:List Key}(r:R K F v d)(e:Qsy d=some ks):∃ b,v=.ref b/\F b=some (.tup (ks.map kV)):=by
 unfold Qsy at e
 split at e
 ·obtain ⟨a,vs,rfl,h1,h2⟩:=r.inv
  have ev:=QhS h2 e
  subst ev
  exact ⟨a,rfl,h1⟩
 ·cases e
theorem Qg0 {κ:Type}[DecidableEq κ]:∀ {ks:List κ} {vs:List V} {k:κ},ks.length=vs.length->(QdS (ks.zip vs) k).isSome=ks.any fun x=>decide (x=k)
 | [],[],k,_=>rfl
 | [],_ :: _,_,h=>by cases h
 |_ :: _,[],_,h=>by cases h
 |x :: ks,v :: vs,k,h=>by
  rw [List.zip_cons_cons]
  by_cases e:x=k
  ·rw [Qcu e,List.any_cons,decide_eq_true e];rfl
  ·rw [QbO e,Qg0 (by simpa using h),List.any_cons,decide_eq_false e];rfl
noncomputable def QdN {κ:Type}[DecidableEq κ](ks:List κ)(ds:List D)(k:κ)(d:D):List κ × List D:=if (ks.any fun x=>decide (x=k))=true then (ks,List.zipWith (fun x y=>if x=k then d else y) ks ds) else (ks++[k],ds++[d])
theorem QfO {κ:Type}[DecidableEq κ]{k:κ}:∀ {ks:List κ} {vs:List V},ks.length=vs.length->((ks.zip vs).any fun kv=>decide (kv.1=k))=ks.any fun x=>decide (x=k)
 | [],[],_=>rfl
 | [],_ :: _,h=>by cases h
 |_ :: _,[],h=>by cases h
 |x :: ks,v :: vs,h=>by rw [List.zip_cons_cons,List.any_cons,List.any_cons,QfO (by simpa using h)]
theorem QgD {κ:Type}[DecidableEq κ]{k:κ}{v:V}:∀ {ks:List κ} {vs:List V},ks.length=vs.length->(ks.zip vs).map (fun kv=>if kv.1=k then (kv.1,v) else kv)=ks.zip (List.zipWith (fun x y=>if x=k then v else y) ks vs)
 | [],[],_=>rfl
 | [],_ :: _,h=>by cases h
 |_ :: _,[],h=>by cases h
 |x :: ks,y :: vs,h=>by
  rw [List.zip_cons_cons,List.map_cons,List.zipWith_cons_cons,List.zip_cons_cons,QgD (by simpa using h)]
  by_cases e:x=k
  ·simp [e]
  ·simp [e]
theorem Qgc {κ:Type}[DecidableEq κ]{K:PySem.W.Frag}{F:Hp}{k:κ}{v:L2.V}{d:D}(hv:R K F v d):∀ {ks:List κ} {vs:List L2.V} {ds:List D},RL K F vs ds->RL K F (List.zipWith (fun x y=>if x=k then v else y) ks vs) (List.zipWith (fun x y=>if x=k then d else y) ks ds)
 | [],_,_,.nil=>.nil
 | [],_,_,.cons _ _=>.nil
 |_ :: _,_,_,.nil=>.nil
 |x :: ks,_,_,.cons h r=>by
  rw [List.zipWith_cons_cons,List.zipWith_cons_cons]
  by_cases e:x=k
  ·rw [if_pos e,if_pos e];exact .cons hv (Qgc hv r)
  ·rw [if_neg e,if_neg e];exact .cons h (Qgc hv r)
theorem Qfk {κ:Type}[DecidableEq κ]{k:κ}{d:D}(hd:d.imm=true):∀ {ks:List κ} {ds:List D},D.immL ds=true->D.immL (List.zipWith (fun x y=>if x=k then d else y) ks ds)=true
 | [],_,_=>rfl
 |_ :: _,[],_=>rfl
 |x :: ks,y :: ds,h=>by
  obtain ⟨h1,h2⟩:=QaU h
  rw [List.zipWith_cons_cons,D.immL,Bool.and_eq_true]
  refine ⟨?_,Qfk hd h2⟩
  by_cases e:x=k
  ·rw [if_pos e];exact hd
  ·rw [if_neg e];exact h1
theorem OL.rl {K:PySem.W.Frag}{F H:Hp}{vs:List L2.V}{ds:List D}{f:List Addr}(o:OL K F H vs ds f)(hi:D.immL ds=true):RL K F vs ds:=by
 have e:=o.imm0 hi
 subst e
 exact o.r (Same.refl F) (fun _ z=>nomatch z)
theorem SI.retag {F H:Hp}{σ:L2.St}{ρ:Rho}{τ:List (L2.V × D)}{fp:List Addr}{i:Nat}{par:Bool}{t:Tag}{ds:List D}(I:SI C F H σ ρ τ fp)(mt:t.mut=true)(es:ρ[i]? = some (some (mkS par (.nd t ds)))):∃ l vs f rest,σ[i]? = some (some (.ref l))/\Mt H l t vs/\OL C.K F H vs ds f/\fp.Perm ((l :: f)++rest)/\(∀ b∈l :: f,QbT C par b)/\
  ∀ {o:HO} {t':Tag} {vs':List L2.V} {ds':List D} {f':List Addr},Mt (upd H l o) l t' vs'->OL C.K F H vs' ds' f'->((l :: f')++rest).Nodup->(∀ b∈f',F b=none/\QbT C par b)->SI C F (upd H l o) σ (ρ.set i (some (mkS par (.nd t' ds')))) τ ((l :: f')++rest):=by
 obtain ⟨x,f0,g0,rest,ex,s1,pm,w0,w1,cl⟩:=I.cut es
 obtain ⟨v,fi,ev,ho,efi,wfi⟩:∃ v fi,x=some v/\O C.K F H v (.nd t ds) fi/\f0++g0=fi/\∀ a∈fi,QbT C par a:=by
  cases par with
  |false=>cases s1 with | own h=>exact ⟨_,_,rfl,h,by simp,fun a ha=>.inl (w0 a ha)⟩
  |true=>cases s1 with | par h=>exact ⟨_,_,rfl,h,rfl,fun a ha=>(w1 a ha).elim (fun z=>.inr ⟨rfl,z⟩) fun z=>.inl z⟩
 subst ev
 cases ho with
 |sc e=>cases e
 |im m h r=>rw [mt] at m;cases m
 | @mt l _ vs _ g hl ol=>
  have pm':fp.Perm ((l :: g)++rest):=by rw [← efi,List.append_assoc];exact pm
  have ndp:=pm'.nodup_iff.mp I.nd
  refine ⟨l,vs,g,rest,ex,hl,ol,pm',wfi,fun {o t' vs' ds' f'} hl' ol' nd fr=>?_⟩
  have nl:∀ {b:Addr},b∈f'\/b∈rest->b≠l:=fun {b} hb z=>by
   subst z
   have:=(List.nodup_cons.mp (show (b :: (f'++rest)).Nodup from nd)).1
   exact this (List.mem_append.mpr hb)
  have kp:∀ b o',H b=some o'->b∉l :: g->upd H l o b=some o':=fun b o' e n=>(Qad (by intro z;subst z;exact n List.mem_cons_self)).trans e
  have dm:∀ b,upd H l o b=none->H b=none:=fun b e=>by
   by_cases hb:b=l
   ·subst hb;rw [Qah] at e;cases e
   ·rw [Qad hb] at e;exact e
  have hF:Same F (upd H l o):=fun b o' e=>by
   refine kp b o' (I.fh b o' e) fun z=>?_
   have:=I.ap b (pm'.mem_iff.mpr (List.mem_append_left _ z))
   rw [e] at this;cases this
  have nop:∀ b,C.H₀ b≠none->b∉C.A->b∉l :: g:=fun b h1 h2 z=>by
   rcases wfi b z with y | y
   ·exact h1 y
   ·exact h2 y.2
  have apn:∀ b∈(l :: f')++rest,F b=none:=fun b hb=>by
   rcases List.mem_append.mp hb with z | z
   ·rcases List.mem_cons.mp z with rfl | z
    ·exact I.ap _ (pm'.mem_iff.mpr (by simp))
    ·exact (fr b z).1
   ·exact I.ap b (pm'.mem_iff.mpr (List.mem_append_right _ z))
  have frn:∀ b∈l :: f',QbT C par b:=fun b hb=>by
   rcases List.mem_cons.mp hb with rfl | z
   ·exact wfi _ List.mem_cons_self
   ·exact (fr b z).2
  have on:=ol'.keep (Same.refl _) (H':=upd H l o) fun b hb=>Qad (nl (.inl hb))
  cases par with
  |false=>
   have J:=cl (F':=F) (H':=upd H l o) (x':=some (.ref l)) (s':=some (.own (.nd t' ds'))) (f0':=l :: f') (g0':=[]) (Same.refl F) hF (fun b hb=>Qad (nl (.inr hb))) dm (fun b o' e n z=>kp b o' z (nop b (by rw [e];simp) n)) (fun _ _ z=>.inl z) (.own (.mt hl' on)) nd apn (fun b hb=>(frn b hb).resolve_right fun z=>nomatch z.1) (fun _ z=>nomatch z) (fun v hv=>by
    obtain ⟨_,d',z⟩:=I.pr _ _ hv
    rw [es] at z;cases z)
   rw [QaR ex] at J
   exact J
  |true=>
   have J:=cl (F':=F) (H':=upd H l o) (x':=some (.ref l)) (s':=some (.par (.nd t' ds'))) (f0':=[]) (g0':=l :: f') (Same.refl F) hF (fun b hb=>Qad (nl (.inr hb))) dm (fun b o' e n z=>kp b o' z (nop b (by rw [e];simp) n)) (fun _ _ z=>.inl z) (.par (.mt hl' on)) nd apn (fun _ z=>nomatch z) (fun b hb=>(frn b hb).elim (fun z=>.inr z) fun z=>.inl z.2) (fun v hv=>⟨by
    obtain ⟨z,_⟩:=I.pr _ _ hv
    rw [ex] at z;exact Option.some.inj z,_,rfl⟩)
   rw [QaR ex] at J
   exact J
end
section
variable {P:Program}{w:World}{K:PySem.W.Frag}{mg:Str->Option Value}{base:Heap}{N:List Str}{qual:Str}{scope:Scope}{f:Addr}{cd:Value}{A:Around}{outer:List Env}{s:Shared}{H:Hp}{E:XK}
theorem Qao:QeJ (Qb3 (CXe P w) P w K mg base N qual scope f cd A outer s H E) (fun _=>E):=fun pins σ H1 s1 e s' I h=>Qsz pins σ H1 s1 e s' I h
end
def Qdd (K:PySem.W.Frag)(D:Ends):List (Addr × Nat × TS)->Value->Option Addr->L2.St->Hp->Prop
 | [],_,_,_,_=>False
 |(C,i,ts) :: r,cv,dx,σ,H=>(PySem.W.exmOne K cv (.ref C)=some true/\∀ e:Addr,H e=none->ts (D.less i) (σ.set i (some (.ref e))) (upd H e (QdP e cv dx)))\/(PySem.W.exmOne K cv (.ref C)=some false/\Qdd K D r cv dx σ H)
section
variable {X:Cx}{pins:List (Addr × Obj)}{σ:L2.St}{H:Hp}{hs:List ExceptHandler}{D:Ends}
theorem QmY {h:ExceptHandler}{rest:List ExceptHandler}{cls:List (Addr × Nat × TS)}(p:PHA X (h :: rest) cls):∃ x np n b₀ suite pos C i ts r,h=.ExceptHandler (some (.Name x np)) (some n) (b₀ :: suite) pos/\cls=(C,i,ts) :: r/\
  PHA X (.ExceptHandler (some (.Name x np)) (some n) (b₀ :: suite) pos :: rest) ((C,i,ts) :: r):=by
 obtain ⟨t,n,b,pos⟩:=h
 cases t with
 |none=>exact (show False from p).elim
 |some e=>
  cases e with
  |Name x np=>
   cases n with
   |none=>exact (show False from p).elim
   |some n=>
    cases b with
    |nil=>exact (show False from p).elim
    |cons b₀ suite=>
     cases cls with
     |nil=>exact (show False from p).elim
     |cons c r=>exact ⟨x,np,n,b₀,suite,pos,c.1,c.2.1,c.2.2,r,rfl,rfl,p⟩
  |_=>exact (show False from p).elim
theorem Qku (d:IsDef X){e:Addr}{cv a0:Value}{dx:Option Addr}{B:Heap}{l:List Env}:∀ {hs:List ExceptHandler} {cls:List (Addr × Nat × TS)},PHA X hs cls->∀ {s:Shared},Inv X pins σ H s->
  (∀ {h':Heap},B.StaysIn h'->s.heap.UpToSlots h'->Inv X pins σ H { s with heap:=h' })->Heap.FlyingW B l e cv a0 s.heap->
  X.s₀.heap.get? e=none->H e=none->e≠X.env.locals->(∀ y c,X.env.cells.lookup y=some c->c≠e)->(∀ p∈X.pn++pins,p.1≠e)->X.base.get? e=none->(∀ b∈X.fs,b≠e)->(∀ d,dx=some d->∃ oe,s.heap.get? e=some oe/\oe.dict=some d)->Qdd X.K D cls cv dx σ H->
  wpAny (model X.prog X.w) X.A (handleBy (.ref e) X.env hs) (SP X pins D) X.xe s:=by
 intro hs
 induction hs with
 |nil=>
  intro cls p s I on fl x1 x2 x3 x4 x5 x6 x7 dk k
  cases cls with
  |nil=>exact absurd k id
  |cons c r=>exact (show False from p).elim
 |cons h rest ih=>
  intro cls p s I on fl x1 x2 x3 x4 x5 x6 x7 dk k
  obtain ⟨x,np,n,b₀,suite,pos,C,i,ts,r,rfl,rfl,p⟩:=QmY p
  obtain ⟨hg,hm,hdb,hN,hi,hkl,hll,hsu,hr⟩:=p
  obtain ⟨ob,hob,hoc⟩:=fl.there
  refine wpAny_handleBy_cons (codeAny_handlers_test (Qca (X:=X.sui (.ref e)) I.insui hg hm ?_ hdb)) (by intro q;cases q)
  have LT:PySem.W.Looks (model X.prog X.w) s.heap (typeOf (.ref e)) cv:=by rw [← hoc];exact (PySem.W.Looks.ld hob).andThen .now
  rcases k with ⟨em,k⟩ | ⟨em,k⟩
  ·refine (PySem.W.exm_one I.kIn LT em) _ _ _ s (fun _ _ z=>z) ?_
   refine PySem.codeAny_handlers_suite_as (Qfc (QbM _ _) (PyProof.Rows.lands_againW fl fun h' fl' up kk=>?_))
   have I2:Inv X pins σ H { s with heap:=h' }:=on fl'.1 up
   obtain ⟨ob',vs',hob',hoc',hdt',_⟩:=fl'.first
   have I3:Inv X pins σ (upd H e (QdP e cv dx)) { s with heap:=h' }:=I2.track x1 x2 x3 x4 x5 x6 x7 ⟨⟨ob',hob',hoc',fun d0 z=>⟨(let ⟨o1,q1,q2⟩:=dk d0 z;(kk.get q1 hob').trans q2),by unfold PySem.W.notCls;rw [hdt']⟩⟩,⟨ob',hob'⟩,fun h1 h2 ⟨o,q1,q2⟩ q=>⟨o,q o q1,q2⟩⟩
   refine Qde (X:=X.sui (.ref e)) I3.insui hN hi (.inl hkl) (show RelV (.ref e) (.ref e) from rfl) (fun s2 I4=>?_) (.inr hll)
   refine wpAny_mono (hsu (.ref e) pins _ _ _ (D.less i) I4 (k e x2)) (fun f s3 q=>?_) fun _ _ z=>z.elim
   show wpAny (model X.prog X.w) X.A (do bindName X.env n .none;unbindBehindTheSuite X.env n pos) (fun _ s₃=>SP X pins D f s₃) X.xe s3
   cases f with
   |next=>obtain ⟨σ',H',J,q⟩:=q;exact Qco (J.outsui I.ok.hd) hN hi hkl fun s4 J4=>⟨_,H',J4,q⟩
   |brk=>obtain ⟨σ',H',J,q⟩:=q;exact Qco (J.outsui I.ok.hd) hN hi hkl fun s4 J4=>⟨_,H',J4,q⟩
   |cont=>obtain ⟨σ',H',J,q⟩:=q;exact Qco (J.outsui I.ok.hd) hN hi hkl fun s4 J4=>⟨_,H',J4,q⟩
   |ret v=>obtain ⟨y,σ',H',J,rv,q⟩:=q;exact Qco (J.outsui I.ok.hd) hN hi hkl fun s4 J4=>⟨y,_,H',J4,rv,q⟩
  ·refine (PySem.W.exm_one I.kIn LT em) _ _ _ s (fun _ _ z=>z) ?_
   exact ih hr I on fl x1 x2 x3 x4 x5 x6 x7 dk k
theorem QoX (d:IsDef X){cls:List (Addr × Nat × TS)}(ph:PHA X hs cls):QeJ (X.tryc hs pins D) (fun σ cv dx H'=>Qdd X.K D cls cv dx σ H'):=fun pins' σ H1 s1 ev s' I h=>by
 obtain ⟨e,cv,dx,H',rfl,I',x,k⟩:=I.raised h
 have J:Inv X pins σ H' s':=I'.outof
 obtain ⟨dk,e1,e2,oe,vs,a0,T,oT,ts,he,hc,h0,hd,h1,hTe,n1,n2,hT,hdT,h3⟩:=x
 have I0:Inv X pins σ H1 s1:=I.outof
 have fr:X.A.frames=some (X.env :: X.outer):=by rw [J.ok.frames,d.stk]
 have nw:∀ {Pr:Addr->Prop},Pr e->Pr T->∀ b∈[e,T],Pr b:=fun p1 p2 b hb=>by
  rcases List.mem_cons.mp hb with rfl | hb
  ·exact p1
  ·rw [List.mem_singleton.mp hb];exact p2
 have ne:∀ b:Addr,(∃ o,s1.heap.get? b=some o)->b≠e/\b≠T:=fun b ⟨o,q⟩=>⟨(fun z=>by rw [z,e1] at q;cases q),(fun z=>by rw [z,n1] at q;cases q)⟩
 have nl:=ne X.env.locals (let ⟨_,⟨o,_,_,ho,_⟩,_⟩:=I0.loc;⟨o,ho⟩)
 have ncell:∀ y c,X.env.cells.lookup y=some c->c≠e/\c≠T:=fun y c q=>ne c (let ⟨v,o,ho,_⟩:=I0.cell y c q;⟨o,ho⟩)
 have npin:∀ p∈X.pn++pins,p.1≠e/\p.1≠T:=fun p hp=>ne p.1 ⟨_,(I0.pin p hp).1⟩
 have on:∀ {h':Heap},(QhK X [e,T] s'.heap).StaysIn h'->s'.heap.UpToSlots h'->Inv X pins σ H' { s' with heap:=h' }:=fun {h'} st up=>
  J.flew (extra:=[e,T]) d (nw (I0.old d.ex e1) (I0.old d.ex n1)) (nw e2 n2) (nw (Ne.symm nl.1) (Ne.symm nl.2)) (nw (fun y c q=>(ncell y c q).1) fun y c q=>(ncell y c q).2) (nw (fun p hp=>(npin p hp).1) fun p hp=>(npin p hp).2) (Qgd J st up)
 have fly:Heap.FlyingW (QhK X [e,T] s'.heap) (X.env :: X.outer) e cv a0 s'.heap:=
  ⟨QcL,Qbm (by simp),by rw [← d.stk];exact Qb7 J,oe,vs,T,oT,ts,he,⟨hc,h0⟩,hd,h1,Qbm (by simp),hTe,hT,hdT,h3⟩
 have hbase:X.base.get? e=none:=by
  cases q:X.base.get? e with
  |none=>rfl
  |some o=>exact absurd rfl (ne e ⟨o,I0.bk _ _ q⟩).1
 have hfs:∀ b∈X.fs,b≠e:=fun b hb=>by
  obtain ⟨o,q,_⟩:=I0.frames b (d.fs_in b hb)
  exact (ne b ⟨o,q⟩).1
 refine Qfc (Qc4 _ _) (wpAny_looks_onW fr d.fr fly fun h4 held up4 kk4=>Qfc (QbM _ _) (wpAny_landsW held fun h5 fl5 up5 kk5=>?_))
 have I5:Inv X pins σ H' { s' with heap:=h5 }:=on fl5.1 (up4.trans up5)
 exact Qku d (B:=QhK X [e,T] s'.heap) (s:={ s' with heap:=h5 }) ph I5 (fun {h'} st up=>on st ((up4.trans up5).trans up)) fl5 (I0.old d.ex e1) e2 (Ne.symm nl.1) (fun y c q=>(ncell y c q).1) (fun p hp=>(npin p hp).1) hbase hfs (fun d0 z=>by
  obtain ⟨o1,q1,q2⟩:=dk d0 z
  obtain ⟨o2,p1,_⟩:=fl5.there
  exact ⟨o2,p1,((kk4.trans kk5).get q1 p1).trans q2⟩) k
end
def Qra (c:Xc):D:=.nd (.exc c.c) (match c.l with | none=>[] | some n=>[.int n])
def QbP (K:PySem.W.Frag)(c:Xc)(ρ:Rho):List (Addr × Nat × MS)->Rs (Fl × Rho)
 | []=>.no
 |(C,i,ms) :: r=>match PySem.W.exmOne K (.ref c.c) (.ref C) with
  |some true=>(Rs.of (setF ρ i (Qra c))).bind fun ρ1=>(ms ρ1).bind fun q=>match q.1 with
   |.rt d=>.ok (.rt d,q.2)
   |f=>.ok (f,q.2.set i none)
  |some false=>QbP K c ρ r
  |none=>.no
def noX {α:Type}:Rs α->Rs α
 |.ex _ _=>.no
 |r=>r
def QnF (K:PySem.W.Frag)(m:MS)(hs:List (Addr × Nat × MS)):MS:=fun ρ=>match m ρ with
 |.ex c ρ'=>noX (QbP K c ρ' hs)
 |r=>r
theorem RunS.noX {C:Cn}{E:XE}{α:Type}{r:Rs α}{k:α->Prop}(h:RunS C E (noX r) k):RunS C EF r k:=by
 cases r with
 |ok a=>exact h
 |ex c ρ=>exact h.elim
 |no=>exact h
def hdl (rk:Kd)(C:Cn)(hs:List (Addr × Nat × MS)):List (Addr × Nat × TS):=hs.map fun h=>(h.1,h.2.1,tS rk C EF h.2.2)
section
variable {X:Cx}{C:Cn}{rk:Kd}{E:XE}
theorem QlJ {K:PySem.W.Frag}{F H:Hp}{c:Xc}{dx:Option Addr}{e:Addr}(hd:∀ n,c.l=some n->∃ d,dx=some d/\F d=some (QfM d [("line",.int n)]))(h0:c.l=none->dx=none)(he:F e=none):R K (upd F e (QdP e (.ref c.c) dx)) (.ref e) (Qra c):=by
 unfold Qra
 cases hl:c.l with
 |none=>
  rw [h0 hl]
  exact .nd (t:=.exc c.c) (.inl ⟨rfl,Qah⟩) .nil
 |some n=>
  obtain ⟨d,rfl,q⟩:=hd n hl
  exact .nd (t:=.exc c.c) (.inr ⟨d,_,rfl,Qah,by rw [Qad (fun z=>by rw [z,he] at q;cases q)];exact q⟩) (.cons (.sc rfl) .nil)
theorem QcP (hK:C.K=X.K){D:Ends}{c:Xc}{dx:Option Addr}{F0:Hp}:∀ {hs:List (Addr × Nat × MS)} {ρ:Rho} {F H:Hp} {σ:L2.St} {fp:List Addr},SI C F H σ ρ [] fp->Same F0 F->(∀ n,c.l=some n->∃ d,dx=some d/\F d=some (QfM d [("line",.int n)]))->(c.l=none->dx=none)->RunS C EF (QbP X.K c ρ hs) (fun r=>Out rk C D F0 r.1 r.2)->Qdd X.K D (hdl rk C hs) (.ref c.c) dx σ H
 | [],ρ,F,H,σ,fp,I,s0,hd,h0,h=>h
 |(C',i,ms) :: r,ρ,F,H,σ,fp,I,s0,hd,h0,h=>by
  unfold QbP at h
  split at h
  ·next em=>
   refine .inl ⟨em,fun e he=>?_⟩
   obtain ⟨ρ1,e1,h1⟩:=h.split.of
   have I2:=I.lay (o:=QdP e (.ref c.c) dx) he
   have rr:R C.K (upd F e (QdP e (.ref c.c) dx)) (.ref e) (Qra c):=QlJ (H:=H) hd h0 (I.fh.free he)
   obtain ⟨fp',I3,_⟩:=SI.setF I2 rr e1
   have sF:Same F0 (upd F e (QdP e (.ref c.c) dx)):=s0.trans (Same.upd (I.fh.free he))
   have npar:∀ v,(i,v)∉C.pars:=fun v hv=>by
    obtain ⟨_,d,z⟩:=I.pr _ _ hv
    unfold setF at e1
    rw [z] at e1;cases e1
   refine ⟨_,ρ1,fp',I3,h1.split.mono fun q hq=>?_⟩
   obtain ⟨f,ρ2⟩:=q
   have clr:∀ {F4 H4:Hp} {σ4:L2.St} {fp4:List Addr},SI C F4 H4 σ4 ρ2 [] fp4->∃ fp5,SI C F4 H4 (σ4.set i none) (ρ2.set i none) [] fp5:=fun {F4 H4 σ4 fp4} I4=>by
    by_cases hl:i<ρ2.length
    ·obtain ⟨z,f0,g0,rest,ez,s1,pm,w0,w1,cl⟩:=I4.cut (i:=i) (s:=ρ2[i]) (List.getElem?_eq_getElem hl)
     have nd:=pm.nodup_iff.mp I4.nd
     exact ⟨_,cl (x':=none) (s':=none) (f0':=[]) (g0':=[]) (Same.refl _) I4.fh (fun _ _=>rfl) (fun _ z=>z) (fun _ _ _ _ z=>z) (fun _ _ z=>.inl z) .non (List.nodup_append.mp (List.nodup_append.mp nd).2.1).2.1 (fun a ha=>I4.ap a (pm.mem_iff.mpr (by simp at ha;simp [ha]))) (fun _ z=>nomatch z) (fun _ z=>nomatch z) (fun v hv=>(npar v hv).elim)⟩
    ·have hl2:¬ i<σ4.length:=by rw [I4.len];exact hl
     rw [List.set_eq_of_length_le (by omega),List.set_eq_of_length_le (by omega)]
     exact ⟨_,I4⟩
   cases f with
   |nx=>
    intro F4 H4 σ4 fp4 s4 I4
    obtain ⟨fp5,I5⟩:=clr I4
    exact hq F4 H4 _ fp5 (sF.trans s4) I5
   |bk=>
    intro F4 H4 σ4 fp4 s4 I4
    obtain ⟨fp5,I5⟩:=clr I4
    exact hq F4 H4 _ fp5 (sF.trans s4) I5
   |ct=>
    intro F4 H4 σ4 fp4 s4 I4
    obtain ⟨fp5,I5⟩:=clr I4
    exact hq F4 H4 _ fp5 (sF.trans s4) I5
   |rt d=>
    intro F4 H4 σ4 fp4 v s4 I4 f4
    exact hq F4 H4 σ4 fp4 v (sF.trans s4) I4 f4
  ·next em=>exact .inr ⟨em,QcP hK I s0 hd h0 h⟩
  ·exact h.elim
theorem SI.base {F H:Hp}{σ:L2.St}{ρ:Rho}{τ:List (L2.V × D)}{fp:List Addr}(I:SI C F H σ ρ τ fp):SI { C with F₀:=F } F H σ ρ τ fp:=⟨I.sl,I.nd,I.ap,I.fh,Same.refl F,fun b o e=>.inl e,I.kp,I.dm,I.pr⟩
theorem SI.unbase {F H F1 H1:Hp}{σ σ1:L2.St}{ρ ρ1:Rho}{τ τ1:List (L2.V × D)}{fp fp1:List Addr}(I:SI C F H σ ρ τ fp)(J:SI { C with F₀:=F } F1 H1 σ1 ρ1 τ1 fp1):SI C F1 H1 σ1 ρ1 τ1 fp1:=⟨J.sl,J.nd,J.ap,J.fh,I.f0.trans J.f0,fun b o e=>(J.fn b o e).elim (fun z=>I.fn b o z) fun z=>.inr z,J.kp,J.dm,J.pr⟩
theorem QrM {body:List Stmt}{h₀:ExceptHandler}{hr:List ExceptHandler}{pos:Pos}{ms:MS}{hs:List (Addr × Nat × MS)}(hK:C.K=X.K)(d:IsDef X)(ph:PHA X (h₀ :: hr) (hdl rk C hs))
  (hb:∀ C':Cn,C'.K=X.K->∀ (E:XE) (pins:List (Addr × Obj)) (D:Ends),QeJ (X.tryc (h₀ :: hr) pins D) E->PSs (X.tryc (h₀ :: hr) pins D) body (tS rk C' E ms)):PS X (.Try body (h₀ :: hr) [] [] pos) (tS rk C E (QnF X.K ms hs)):=by
 intro pins s σ H D I h
 obtain ⟨F,ρ,fp,J,h⟩:=h
 refine wpAny_Try_except (wpAny_mono (hb { C with F₀:=F } hK _ pins D (QoX d ph) [] s σ H D I.into ⟨F,ρ,fp,J.base,?_⟩) (fun f s1 q=>?_) fun _ _ z=>z)
 ·have hrun:=h
  unfold QnF at hrun
  cases em:ms ρ with
  |no=>rw [em] at hrun;exact hrun
  |ok q=>
   rw [em] at hrun
   obtain ⟨f,ρ1⟩:=q
   cases f with
   |nx=>exact fun F1 H1 σ1 fp1 s1 J1=>hrun F1 H1 σ1 fp1 s1 (J.unbase J1)
   |bk=>exact fun F1 H1 σ1 fp1 s1 J1=>hrun F1 H1 σ1 fp1 s1 (J.unbase J1)
   |ct=>exact fun F1 H1 σ1 fp1 s1 J1=>hrun F1 H1 σ1 fp1 s1 (J.unbase J1)
   |rt d=>exact fun F1 H1 σ1 fp1 v s1 J1 f1=>hrun F1 H1 σ1 fp1 v s1 (J.unbase J1) (by cases rk<;>exact f1)
  |ex c ρ'=>
   rw [em] at hrun
   intro F1 H1 σ1 fp1 J1
   unfold EX
   cases hl:c.l with
   |none=>exact QcP (F0:=F) hK (J.unbase J1) J1.f0 (fun n z=>by rw [hl] at z;cases z) (fun _=>rfl) hrun.noX
   |some n=>
    intro d0 hd0
    have J2:=J1.know hd0 True.intro
    exact QcP (F0:=F) hK (J.unbase J2) J2.f0 (fun m z=>⟨d0,rfl,by rw [hl] at z;cases z;exact Qah⟩) (fun z=>by rw [hl] at z;cases z) hrun.noX
 ·cases f with
  |next=>obtain ⟨σ',H',J,q⟩:=q;exact wpAny_execs_nil ⟨σ',H',J.outof,q⟩
  |brk=>obtain ⟨σ',H',J,q⟩:=q;exact ⟨σ',H',J.outof,q⟩
  |cont=>obtain ⟨σ',H',J,q⟩:=q;exact ⟨σ',H',J.outof,q⟩
  |ret v=>obtain ⟨y,σ',H',J,rv,q⟩:=q;exact ⟨y,σ',H',J.outof,rv,q⟩
variable {mr:MA}{ks:List Kd}
noncomputable def Qld:List Kd->List D->Rho->Option (List D × Rho)
 | [],_,ρ=>some ([],ρ)
 |.O :: ks,d :: ds,ρ=>(Qld ks ds ρ).map fun q=>(d :: q.1,q.2)
 |.S i :: ks,_ :: ds,ρ=>(Qld ks ds ρ).bind fun q=>match q.2[i]? with
  |some (some (.own d))=>some (d :: q.1,q.2.set i none)
  |_=>none
 |_,_,_=>none
def Qrk (ks:List Kd)(mr:MA):ME:=fun ρ=>(mr ρ).bind fun r=>(Rs.of (Qld ks r.1 r.2)).bind fun q=>if q.1.length<=sizeLine then .ok (.tup q.1,q.2) else .no
end
section
variable {X:Cx}{C:Cn}{E:XE}{p pa pc:Bool}{a c:Expr}{m mi:ME}{pos:Pos}{k rk:Kd}
theorem QeD {A:Around}{k:Nat}(hr:Room k A):A.units+30<cLine:=by have:=hr.units;omega
theorem QqI {A:Around}{k:Nat}(hr:Room k A):A.units+30+1<cLine:=by have:=hr.units;omega
theorem QhQ (hK:C.K=X.K):OpD C.K (Qn1 X.K 30 id) gEq:=by rw [hK];exact dEq
theorem Qnb (hK:C.K=X.K):OpD C.K (Qn1 X.K 30 not) gNe:=by rw [hK];exact dNe
theorem QrT (hK:C.K=X.K):OpD C.K (QrV X.K 30 id) gIn:=by rw [hK];exact dIn
theorem xb (i:Nat){x:Str}{pos:Pos}(hN:X.N[i]? = some x:=by rfl)(hv:Vis X.env.scope x:=by first | exact Or.inl rfl | exact Or.inr (Or.inl rfl) | exact Or.inr (Or.inr rfl))(hd:(x == ("__debug__" : Str))=false:=by decide)(hcd:(x == ("__classdict__" : Str))=false:=by decide):PE X (.Name x pos) (tX .B C true E (mB i)):=Qqk hN hv hd hcd
theorem xv (i:Nat){x:Str}{pos:Pos}(hN:X.N[i]? = some x:=by rfl)(hv:Vis X.env.scope x:=by first | exact Or.inl rfl | exact Or.inr (Or.inl rfl) | exact Or.inr (Or.inr rfl))(hd:(x == ("__debug__" : Str))=false:=by decide)(hcd:(x == ("__classdict__" : Str))=false:=by decide):PE X (.Name x pos) (tX .V C true E (mV i)):=Qqb hN hv hd hcd
theorem xo (i:Nat){x:Str}{pos:Pos}(hN:X.N[i]? = some x:=by rfl)(hv:Vis X.env.scope x:=by first | exact Or.inl rfl | exact Or.inr (Or.inl rfl) | exact Or.inr (Or.inr rfl))(hd:(x == ("__debug__" : Str))=false:=by decide)(hcd:(x == ("__classdict__" : Str))=false:=by decide):PE X (.Name x pos) (tX .O C true E (mO i)):=QpF hN hv hd hcd
theorem xs (i:Nat){x:Str}{pos:Pos}(hN:X.N[i]? = some x:=by rfl)(hv:Vis X.env.scope x:=by first | exact Or.inl rfl | exact Or.inr (Or.inl rfl) | exact Or.inr (Or.inr rfl))(hd:(x == ("__debug__" : Str))=false:=by decide)(hcd:(x == ("__classdict__" : Str))=false:=by decide):PE X (.Name x pos) (tX (.S i) C true E (mS i)):=Qql hN hv hd hcd
theorem spk {P:Program}{w:World}{K:PySem.W.Frag}{mg:Str->Option Value}{base:Heap}{n:Nat}{x:Str}{ps:List Str}{io:List Bool}{f:List D->Fr}(D:QcO P w K mg base n x ps (spF K io rk f))(hC:C.K=K):QcO P w K mg base n x ps (spF C.K io rk f):=by rw [hC];exact D
def QnM (i:Nat)(m:ME):MS:=Qcr i m
theorem QfY {elt iter:Expr}{x y:Str}{px py pos spos:Pos}{ifs:List Expr}{scope:Scope}{N:List Str}{cs:List Cp}{j i0:Nat}{par:Bool}{mi:MA}{mt:MT}{me:ME}{pc pe:Bool}(hK:C.K=X.K)(hc:X.calm=true)(hXN:X.N.Nodup)(hi0:X.N[i0]? = some y)(hy:Loc X.env.scope y)(B:Blk X scope N (cs.map Cp.ix))(hjN:N[j]? = some x)(hj:cs[j]? = some .me)(hx:scope.names.lookup x=some .local)(hi:PI X (.Name x px) iter (tI C pa E mi))
  (ht:∀ pins c s H ex,PIf (X.blk scope N pins c s H ex) ifs (exT X.K pc mt)) (he:∀ pins c s H ex,PE (X.blk scope N pins c s H ex) elt (exX .O X.K pe me)) (nd:(cs.filterMap Cp.is).Nodup:=by decide)
  (hsw:swapsWith (.ListComp elt [⟨.Name x px,iter,ifs,0⟩] scope pos) (some (.Name y py)) spos.line X.env=pure true:=by rfl)
  (hf:X.fn y=true\/X.env.scope.names.lookup y=some .local:=by first | exact .inl rfl | exact .inr rfl | assumption)
  (hs:∀ x,foldedSetIterable iter X.env x=pure x:=by intro _;rfl):PS X (.Assign [.Name y py] (.ListComp elt [⟨.Name x px,iter,ifs,0⟩] scope pos) spos) (tS rk C E (QnM i0 (Qa5 par cs j mi mt me))):=
 Qa3 (QgX hc hXN hi0 hy B hi (fun _ _ _ _ _=>Qbb (i:=j) B.nd hjN (.inl (lookup_relabel_local hx)) (.inr (lookup_relabel_local hx))) ht he hsw hf hs) fun D σ H h=>by
  have q:=Qf0 (p:=pa && false) h
  refine Qcz (p:=false) (par:=par) hK hj nd (fun z=>nomatch z) ?_
  obtain ⟨F,ρ,τ,fp,I,r⟩:=q
  exact ⟨F,ρ,τ,fp,I,r.mono fun a z F' H' fp' v I' n f=>by
   obtain ⟨F2,rest,J,sf,rr,je⟩:=SI.freeze (show SI C F' H' σ a.2 ((v,a.1) :: τ) fp' from I')
   exact z F2 H' rest v J ⟨n.f.trans sf,fun hp=>by rw [je];exact n.g hp⟩ rr⟩
end
section
variable {k:Kd}{n:Nat}
noncomputable def Qs8 (i:Int)(n:Nat):List D:=(List.range n).map fun k=>.int (i+(k:Nat))
end
def W {α:Type}(r:Rs α)(k:α->Prop):Prop:=∃ a,r=.ok a/\k a
section
variable {α β:Type}{k:α->Prop}
theorem W_ok {a:α}:W (.ok a) k↔k a:=⟨fun ⟨b,e,h⟩=>by cases e;exact h,fun h=>⟨a,rfl,h⟩⟩
theorem W_bind {x:Rs β}{f:β->Rs α}:W (x.bind f) k↔W x fun a=>W (f a) k:=by
 cases x with
 |ok a=>exact ⟨fun h=>⟨a,rfl,h⟩,fun ⟨b,e,h⟩=>by cases e;exact h⟩
 |ex c ρ=>exact ⟨fun ⟨_,e,_⟩=>(nomatch e),fun ⟨_,e,_⟩=>(nomatch e)⟩
 |no=>exact ⟨fun ⟨_,e,_⟩=>(nomatch e),fun ⟨_,e,_⟩=>(nomatch e)⟩
theorem W_of {a:α}:W (Rs.of (some a)) k↔k a:=W_ok
theorem W.mono {r:Rs α}{k':α->Prop}(h:W r k)(m:∀ a,k a->k' a):W r k':=by obtain ⟨a,e,h⟩:=h;exact ⟨a,e,m a h⟩
theorem W.eq {r:Rs α}{a:α}(h:W r fun b=>b=a):r=.ok a:=by obtain ⟨b,e,rfl⟩:=h;exact e
end
def FW (r:Fr)(P:D->List D->Prop):Prop:=∃ d os,r=.ok d os/\P d os
theorem Qbt {io:List Bool}{n:Nat}{mb:MS}{ds:List D}{P:D->List D->Prop}(h:W (mb (QnX io n ds)) fun q=>∃ d os,q.1=.rt d/\outs io q.2=some os/\P d os):FW (QcJ io n mb ds) P:=by
 obtain ⟨⟨f,ρ⟩,e,d,os,rfl,ho,p⟩:=h
 refine ⟨d,os,?_,p⟩
 unfold QcJ
 rw [e]
 dsimp only at ho ⊢
 rw [ho]
theorem Qm8 {rk:Kd}{f:List D->Fr}{mr:MA}{ρ ρ1:Rho}{args:List D}{P:D->List D->Prop}{k:D × Rho->Prop}(h1:mr ρ=.ok (args,ρ1))(h3:FW (f args) P)(h4:∀ d os,P d os->(rk=.V->d.imm=true)/\k (d,ρ1)):W (QaJ rk f mr ρ) k:=by
 obtain ⟨d,os,e,p⟩:=h3
 refine ⟨_,?_,(h4 d os p).2⟩
 unfold QaJ
 rw [h1]
 show (match f args with | .ok d _=>_ | .ex c=>_ | .no=>_)=_
 rw [e]
 cases rk with
 |V=>show (if d.imm=true then _ else _)=_;rw [if_pos ((h4 d os p).1 rfl)]
 |O=>rfl
 |B=>rfl
 |S i=>rfl
theorem Qbh {m u:MS}{ρ:Rho}{k:Fl × Rho->Prop}(J:Rho->Prop)(h1:W (m ρ) fun r=>r.1=.nx/\J r.2)(h2:∀ ρ,J ρ->W (u ρ) k):W (QbQ m u ρ) k:=by
 obtain ⟨⟨f,ρ1⟩,e,e2,hj⟩:=h1
 obtain ⟨a,e3,h3⟩:=h2 ρ1 hj
 refine ⟨a,?_,h3⟩
 have e2':f=.nx:=e2
 subst e2'
 unfold QbQ
 rw [e]
 exact e3
inductive Fa2 (P:D->D->Prop):List D->List D->Prop
 |nil:Fa2 P [] []
 |cons {x y:D} {xs ys:List D} (h:P x y) (r:Fa2 P xs ys):Fa2 P (x :: xs) (y :: ys)
theorem Fa2.length {P:D->D->Prop}:∀ {xs ys:List D},Fa2 P xs ys->ys.length=xs.length
 |_,_,.nil=>rfl
 |_,_,.cons _ r=>by simp [r.length]
theorem QhV {j:Nat}{tc:MT}{te:ME}{Inv:Rho->Prop}{Pd:D->D->Prop}:∀ {ds:List D} {ρ:Rho} {acc:List D},(∀ d∈ds,∀ ρ,Inv ρ->∃ ρ0,setF ρ j d=some ρ0/\W (tc ρ0) fun c=>c.1=true/\W (te c.2) fun r=>Inv (r.2.set j none)/\Pd d r.1)->Inv ρ->acc.length+ds.length<=sizeLine->
  W (QcR j tc te ds ρ acc) fun q=>Inv q.2/\∃ ys,q.1=acc++ys/\Fa2 Pd ds ys
 | [],ρ,acc,h,i,l=>W_ok.mpr ⟨i,[],by simp,.nil⟩
 |d :: ds,ρ,acc,h,i,l=>by
  obtain ⟨ρ0,e0,h1⟩:=h d List.mem_cons_self ρ i
  unfold QcR
  rw [e0]
  refine W_bind.mpr (W_of.mpr (W_bind.mpr (h1.mono fun c hz=>?_)))
  obtain ⟨hc,h2⟩:=hz
  rw [if_pos hc]
  refine W_bind.mpr (h2.mono fun r hz=>?_)
  obtain ⟨h3,h4⟩:=hz
  rw [if_pos (by simp at l;omega)]
  refine (QhV (acc:=acc++[r.1]) (fun d' hd'=>h d' (List.mem_cons_of_mem _ hd')) h3 (by simp at l ⊢;omega)).mono fun q ⟨h5,ys,e,f⟩=>⟨h5,r.1 :: ys,by rw [e];simp,.cons h4 f⟩
theorem Qo7 {par:Bool}{cs:List Cp}{j:Nat}{mi:MA}{tc:MT}{te:ME}{ρ ρ1 ρb:Rho}{ds di:List D}{k:D × Rho->Prop}{Inv:Rho->Prop}{Pd:D->D->Prop}(h1:mi ρ=.ok (ds,ρ1))(h2:QbX par ρ1 (cs.filterMap Cp.is)=some di)(h3:Qc3 ρ1 cs di=some ρb)
  (hs:∀ d∈ds,∀ ρ,Inv ρ->∃ ρ0,setF ρ j d=some ρ0/\W (tc ρ0) fun c=>c.1=true/\W (te c.2) fun r=>Inv (r.2.set j none)/\Pd d r.1) (i:Inv ρb) (l:ds.length<=sizeLine)
  (hk:∀ ys ρ2,Inv ρ2->Fa2 Pd ds ys->∃ os,outs (ioB cs) ρ2=some os/\k (.lst ys,QbA par ρ1 (cs.filterMap Cp.is) os)):W (Qa5 par cs j mi tc te ρ) k:=by
 obtain ⟨⟨q1,q2⟩,e,h4,ys,eq,h5⟩:=QhV (acc:=[]) hs i (by simpa using l)
 have eq':ys=q1:=eq.symm
 subst eq'
 obtain ⟨os,ho,h6⟩:=hk ys q2 h4 h5
 refine ⟨_,?_,h6⟩
 unfold Qa5
 rw [h1]
 show ((Rs.of (QbX par ρ1 (cs.filterMap Cp.is))).bind _)=_
 rw [h2]
 show ((Rs.of (Qc3 ρ1 cs di)).bind _)=_
 rw [h3]
 show (match QcR j tc te ds ρb [] with | .ok q=>_ | _=>_)=_
 rw [e]
 show ((Rs.of (outs (ioB cs) q2)).bind _)=_
 rw [ho]
 rfl
theorem QcV {j:Nat}{tc:MT}{te:ME}{f:D->Bool}{g:D->D}{ρ:Rho}:∀ {ds:List D} {acc:List D},(∀ d∈ds,∃ ρ0,setF ρ j d=some ρ0/\tc ρ0=.ok (f d,ρ0)/\(f d=true->te ρ0=.ok (g d,ρ0))/\ρ0.set j none=ρ)->acc.length+ds.length<=sizeLine->
  QcR j tc te ds ρ acc=.ok (acc++(ds.filter f).map g,ρ)
 | [],acc,h,l=>by simp [QcR]
 |d :: ds,acc,h,l=>by
  obtain ⟨ρ0,e0,e1,e2,e3⟩:=h d List.mem_cons_self
  unfold QcR
  rw [e0]
  show ((tc ρ0).bind _)=_
  rw [e1]
  by_cases hf:f d=true
  ·show (if f d=true then _ else _)=_
   rw [if_pos hf,e2 hf]
   show (if acc.length<sizeLine then _ else _)=_
   rw [if_pos (by simp at l;omega),e3,QcV (fun d' hd'=>h d' (List.mem_cons_of_mem _ hd')) (by simp at l ⊢;omega),List.filter_cons,if_pos hf]
   simp
  ·show (if f d=true then _ else _)=_
   rw [if_neg hf,e3,QcV (fun d' hd'=>h d' (List.mem_cons_of_mem _ hd')) (by simp at l ⊢;omega),List.filter_cons,if_neg hf]
theorem Qh3 {par:Bool}{cs:List Cp}{j:Nat}{mi:MA}{tc:MT}{te:ME}{ρ ρ1 ρb:Rho}{ds di os:List D}{f:D->Bool}{g:D->D}(h1:mi ρ=.ok (ds,ρ1))(h2:QbX par ρ1 (cs.filterMap Cp.is)=some di)(h3:Qc3 ρ1 cs di=some ρb)
  (hs:∀ d∈ds,∃ ρ0,setF ρb j d=some ρ0/\tc ρ0=.ok (f d,ρ0)/\(f d=true->te ρ0=.ok (g d,ρ0))/\ρ0.set j none=ρb) (l:ds.length<=sizeLine) (ho:outs (ioB cs) ρb=some os) (hp:QbA par ρ1 (cs.filterMap Cp.is) os=ρ1):Qa5 par cs j mi tc te ρ=.ok (.lst ((ds.filter f).map g),ρ1):=by
 unfold Qa5
 rw [h1]
 show ((Rs.of (QbX par ρ1 (cs.filterMap Cp.is))).bind _)=_
 rw [h2]
 show ((Rs.of (Qc3 ρ1 cs di)).bind _)=_
 rw [h3]
 show (match QcR j tc te ds ρb [] with | .ok q=>_ | _=>_)=_
 rw [QcV hs (by simpa using l)]
 show ((Rs.of (outs (ioB cs) ρb)).bind _)=_
 rw [ho]
 show Rs.ok _=_
 rw [hp]
 simp
theorem QcG {par:Bool}{cs:List Cp}{j:Nat}{mi:MA}{te:ME}{ρ ρ1 ρb:Rho}{ds di os:List D}{g:D->D}(h1:mi ρ=.ok (ds,ρ1))(h2:QbX par ρ1 (cs.filterMap Cp.is)=some di)(h3:Qc3 ρ1 cs di=some ρb)
  (hs:∀ d∈ds,∃ ρ0,setF ρb j d=some ρ0/\te ρ0=.ok (g d,ρ0)/\ρ0.set j none=ρb) (l:ds.length<=sizeLine) (ho:outs (ioB cs) ρb=some os) (hp:QbA par ρ1 (cs.filterMap Cp.is) os=ρ1):Qa5 par cs j mi Qhv te ρ=.ok (.lst (ds.map g),ρ1):=by
 rw [Qh3 (f:=fun _=>true) (g:=g) h1 h2 h3 (fun d hd=>by obtain ⟨ρ0,e1,e2,e3⟩:=hs d hd;exact ⟨ρ0,e1,rfl,fun _=>e2,e3⟩) l ho hp,List.filter_eq_self.mpr fun _ _=>rfl]
theorem Qlv {tg:D->Rho->Option Rho}{mb:MS}{k:Fl × Rho->Prop}(Inv:Nat->Rho->Prop){ds:List D}(step:∀ i d ρ,ds[i]? = some d->Inv i ρ->∃ ρ1,tg d ρ=some ρ1/\W (mb ρ1) fun r=>r.1=.nx/\Inv (i+1) r.2) :
  ∀ (n i:Nat) (ρ:Rho),ds.length - i=n->i<=ds.length->Inv i ρ->(∀ ρ',Inv ds.length ρ'->k (.nx,ρ'))->W (QfG tg mb (ds.drop i) ρ) k
 |0,i,ρ,hn,hi,h,hk=>by
  have:i=ds.length:=by omega
  subst this
  rw [List.drop_length]
  exact W_ok.mpr (hk _ h)
 |n+1,i,ρ,hn,hi,h,hk=>by
  have hlt:i<ds.length:=by omega
  rw [List.drop_eq_getElem_cons hlt]
  obtain ⟨ρ1,e1,h1⟩:=step i ds[i] ρ (List.getElem?_eq_getElem hlt) h
  unfold QfG
  rw [e1]
  refine W_bind.mpr (W_of.mpr (W_bind.mpr (h1.mono fun r hz=>?_)))
  obtain ⟨e2,h2⟩:=hz
  rw [e2]
  exact Qlv Inv step n (i+1) r.2 (by omega) (by omega) h2 hk
theorem QeB {a b:Int}:gEq (.int a) (.int b)=some (.bl (decide (a=b))):=by
 show (eqS (.int a) (.int b)).map D.bl=_
 unfold eqS
 rw [if_pos (by rfl)]
 show some _=some _
 congr 2
 by_cases h:a=b<;>simp [h]
theorem Qm1 {a b:Int}:gNe (.int a) (.int b)=some (.bl (decide (a≠b))):=by
 have:=QeB (a:=a) (b:=b)
 unfold gEq at this
 unfold gNe
 cases h:eqb 30 (.int a) (.int b) with
 |none=>rw [h] at this;cases this
 |some c=>
  rw [h] at this
  cases this
  show some _=some _
  by_cases h:a=b<;>simp [h]
theorem Qtq {a b c:Int}:gIn (.int a) (.nd .tup [.int b,.int c])=some (.bl (decide (b=a\/c=a))):=by
 have h1:=QeB (a:=b) (b:=a)
 have h2:=QeB (a:=c) (b:=a)
 obtain ⟨x,e1,e1'⟩:=Option.map_eq_some_iff.mp h1
 obtain ⟨y,e2,e2'⟩:=Option.map_eq_some_iff.mp h2
 show ((inL (eqb 30) (.int a) [.int b,.int c])).map D.bl=_
 unfold inL inL inL
 rw [e1,e2]
 cases e1';cases e2'
 show some _=some _
 by_cases q:b=a<;>by_cases r:c=a<;>simp [q,r]
section
variable {s:Option Sl}{ρ ρ1 ρ2:Rho}{k:D × Rho->Prop}{kt:Bool × Rho->Prop}{ka:List D × Rho->Prop}{ko:Option Int × Rho->Prop}{kf:Fl × Rho->Prop}{a b m u:ME}{mt mu:MT}{mr:MA}{ms mv:MS}{d x y:D}{xs ys:List D}{i:Nat}{g:D->D->Option D}{c:Bool}{lo hi:MO}
def vK (o:Option (Option Sl))(i:Nat)(ρ:Rho):Rs (D × Rho):=match o with
 |some (some (.frz d))=>.ok (d,ρ)
 |some (some (.own d))=>.ok (d,ρ.set i (some (.frz d)))
 |_=>.no
theorem QqR:vK (some (some (.frz d))) i ρ=.ok (d,ρ):=rfl
theorem QoF:vK (some (some (.own d))) i ρ=.ok (d,ρ.set i (some (.frz d))):=rfl
theorem w_V:W (mV i (s :: ρ)) k↔W (vK ((s :: ρ)[i]?) i (s :: ρ)) k:=Iff.rfl
def bK (o:Option (Option Sl))(ρ:Rho):Rs (D × Rho):=match o with
 |some (some (.frz d))=>.ok (d,ρ)
 |some (some (.own d))=>.ok (d,ρ)
 |some (some (.par d))=>.ok (d,ρ)
 |_=>.no
theorem QpL:bK (some (some (.frz d))) ρ=.ok (d,ρ):=rfl
theorem QpY:bK (some (some (.own d))) ρ=.ok (d,ρ):=rfl
theorem QqF:bK (some (some (.par d))) ρ=.ok (d,ρ):=rfl
theorem w_B:W (mB i (s :: ρ)) k↔W (bK ((s :: ρ)[i]?) (s :: ρ)) k:=Iff.rfl
def oK (o:Option (Option Sl))(i:Nat)(ρ:Rho):Rs (D × Rho):=match o with
 |some (some (.own d))=>.ok (d,ρ.set i none)
 |_=>.no
theorem QoQ:oK (some (some (.own d))) i ρ=.ok (d,ρ.set i none):=rfl
theorem w_O:W (mO i (s :: ρ)) k↔W (oK ((s :: ρ)[i]?) i (s :: ρ)) k:=Iff.rfl
def sK (o:Option (Option Sl))(ρ:Rho):Rs (D × Rho):=match o with
 |some (some (.own d))=>.ok (d,ρ)
 |some (some (.par d))=>.ok (d,ρ)
 |_=>.no
theorem Qqy:sK (some (some (.own d))) ρ=.ok (d,ρ):=rfl
theorem Qok:sK (some (some (.par d))) ρ=.ok (d,ρ):=rfl
theorem w_S:W (mS i (s :: ρ)) k↔W (sK ((s :: ρ)[i]?) (s :: ρ)) k:=Iff.rfl
theorem w_C:W (mC d (s :: ρ)) k↔k (d,s :: ρ):=W_ok
def iK (r:D × Rho):Rs (D × Rho):=if r.1.imm=true then .ok r else .no
theorem Qsu:iK (d,ρ)=if d.imm=true then .ok (d,ρ) else .no:=rfl
theorem w_I:W (mI m (s :: ρ)) k↔W (m (s :: ρ)) fun r=>W (iK r) k:=W_bind
def opK (g:D->D->Option D)(r1 r2:D × Rho):Rs (D × Rho):=Rs.of ((g r1.1 r2.1).map fun d=>(d,r2.2))
theorem QoV:opK g (x,ρ1) (y,ρ2)=Rs.of ((g x y).map fun d=>(d,ρ2)):=rfl
theorem QtN:W (mOp g a b (s :: ρ)) k↔W (a (s :: ρ)) fun r1=>W (b r1.2) fun r2=>W (opK g r1 r2) k:=by simp only [mOp,W_bind,opK]
def tK (r:D × Rho):Rs (Bool × Rho):=Rs.of ((asB r.1).map fun b=>(b,r.2))
theorem Qss:tK (.bl c,ρ)=.ok (c,ρ):=rfl
theorem Qpu:W (QaE m (s :: ρ)) kt↔W (m (s :: ρ)) fun r=>W (tK r) kt:=W_bind
def nK (r:Bool × Rho):Rs (Bool × Rho):=.ok (!r.1,r.2)
theorem QrI:nK (c,ρ)=.ok (!c,ρ):=rfl
theorem Qrh:W (Qhr mt (s :: ρ)) kt↔W (mt (s :: ρ)) fun r=>W (nK r) kt:=W_bind
def anK (u:MT)(r:Bool × Rho):Rs (Bool × Rho):=if r.1=true then u r.2 else .ok (false,r.2)
theorem Qo2:anK mu (c,ρ)=if c=true then mu ρ else .ok (false,ρ):=rfl
theorem Qsd:W (Qrs mt mu (s :: ρ)) kt↔W (mt (s :: ρ)) fun r=>W (anK mu r) kt:=W_bind
def orK (u:MT)(r:Bool × Rho):Rs (Bool × Rho):=if r.1=true then .ok (true,r.2) else u r.2
theorem QpD:orK mu (c,ρ)=if c=true then .ok (true,ρ) else mu ρ:=rfl
theorem QtA:W (mOr mt mu (s :: ρ)) kt↔W (mt (s :: ρ)) fun r=>W (orK mu r) kt:=W_bind
def feK (a b:ME)(r:Bool × Rho):Rs (D × Rho):=if r.1=true then a r.2 else b r.2
theorem Qpo:feK a b (c,ρ)=if c=true then a ρ else b ρ:=rfl
theorem QrZ:W (QtL mt a b (s :: ρ)) k↔W (mt (s :: ρ)) fun r=>W (feK a b r) k:=W_bind
theorem Qru:W (QaL (s :: ρ)) ka↔ka ([],s :: ρ):=W_ok
def coK (r:D × Rho)(q:List D × Rho):Rs (List D × Rho):=.ok (r.1 :: q.1,q.2)
theorem Qq1:coK (d,ρ1) (xs,ρ2)=.ok (d :: xs,ρ2):=rfl
theorem QoW:W (Qai m mr (s :: ρ)) ka↔W (m (s :: ρ)) fun r=>W (mr r.2) fun q=>W (coK r q) ka:=by simp only [Qai,W_bind,coK]
def cbK (g:List D->Option D)(r:List D × Rho):Rs (D × Rho):=Rs.of ((g r.1).map fun d=>(d,r.2))
theorem Qpx {g:List D->Option D}:cbK g (xs,ρ)=Rs.of ((g xs).map fun d=>(d,ρ)):=rfl
theorem Qm5 {g:List D->Option D}:W (Qas g mr (s :: ρ)) k↔W (mr (s :: ρ)) fun r=>W (cbK g r) k:=W_bind
def lsK (r:List D × Rho):Rs (D × Rho):=if r.1.length<=sizeLine then .ok (.lst r.1,r.2) else .no
theorem Qpj:lsK (xs,ρ)=if xs.length<=sizeLine then .ok (.lst xs,ρ) else .no:=rfl
theorem Qsl:W (QsT mr (s :: ρ)) k↔W (mr (s :: ρ)) fun r=>W (lsK r) k:=W_bind
def tuK (r:List D × Rho):Rs (D × Rho):=if r.1.length<=sizeLine then .ok (.tup r.1,r.2) else .no
theorem Qor:tuK (xs,ρ)=if xs.length<=sizeLine then .ok (.tup xs,ρ) else .no:=rfl
theorem Qrv:W (Qki mr (s :: ρ)) k↔W (mr (s :: ρ)) fun r=>W (tuK r) k:=W_bind
def loK (r:List D × Rho):Rs (D × Rho):=if r.1.length<=sizeLine then (if D.immL r.1=true then .ok (.lst r.1,r.2) else .no) else .no
theorem Qp1:loK (xs,ρ)=if xs.length<=sizeLine then (if D.immL xs=true then .ok (.lst xs,ρ) else .no) else .no:=rfl
theorem Qn6:W (Qnp mr (s :: ρ)) k↔W (mr (s :: ρ)) fun r=>W (loK r) k:=W_bind
def liK (r:List D × Rho):Rs (D × Rho):=(Rs.of (Qhn r.1)).bind fun ds=>if D.immL ds=true then .ok (.lst ds,r.2) else .no
theorem Qqn:liK ([.nd .lst xs],ρ)=if D.immL xs=true then .ok (.lst xs,ρ) else .no:=rfl
theorem QnH:W (Qpw mr (s :: ρ)) k↔W (mr (s :: ρ)) fun r=>W (liK r) k:=W_bind
theorem Qo0:W (QdQ (s :: ρ)) kf↔kf (.nx,s :: ρ):=W_ok
def sqK (u:MS)(r:Fl × Rho):Rs (Fl × Rho):=match r.1 with
 |.nx=>u r.2
 |f=>.ok (f,r.2)
theorem Qoa:sqK mv (.nx,ρ)=mv ρ:=rfl
theorem QqE:sqK mv (.rt d,ρ)=.ok (.rt d,ρ):=rfl
theorem QrD:W (QbQ ms mv (s :: ρ)) kf↔W (ms (s :: ρ)) fun r=>W (sqK mv r) kf:=W_bind
def rtK (r:D × Rho):Rs (Fl × Rho):=.ok (.rt r.1,r.2)
theorem QpI:rtK (d,ρ)=.ok (.rt d,ρ):=rfl
theorem Qsi:W (QfH m (s :: ρ)) kf↔W (m (s :: ρ)) fun r=>W (rtK r) kf:=W_bind
def ifK (a b:MS)(r:Bool × Rho):Rs (Fl × Rho):=if r.1=true then a r.2 else b r.2
theorem Qpq:ifK ms mv (c,ρ)=if c=true then ms ρ else mv ρ:=rfl
theorem QtX:W (mIf mt ms mv (s :: ρ)) kf↔W (mt (s :: ρ)) fun r=>W (ifK ms mv r) kf:=W_bind
def svK (i:Nat)(r:D × Rho):Rs (Fl × Rho):=(Rs.of (setF r.2 i r.1)).bind fun ρ'=>.ok (.nx,ρ')
theorem Qqz:svK i (d,ρ)=(Rs.of (setF ρ i d)).bind fun ρ'=>.ok (.nx,ρ'):=rfl
theorem Qq3:W (Qcr i m (s :: ρ)) kf↔W (m (s :: ρ)) fun r=>W (svK i r) kf:=W_bind
theorem Qn9:W (QnM i m (s :: ρ)) kf↔W (m (s :: ρ)) fun r=>W (svK i r) kf:=W_bind
def soK (i:Nat)(r:D × Rho):Rs (Fl × Rho):=(Rs.of (setW r.2 i r.1)).bind fun ρ'=>.ok (.nx,ρ')
theorem Qq4:soK i (d,ρ)=(Rs.of (setW ρ i d)).bind fun ρ'=>.ok (.nx,ρ'):=rfl
theorem QoY:W (Qdb i m (s :: ρ)) kf↔W (m (s :: ρ)) fun r=>W (soK i r) kf:=W_bind
def unK (g:D->Option D)(r:D × Rho):Rs (D × Rho):=Rs.of ((g r.1).map fun d=>(d,r.2))
theorem Qpm {g:D->Option D}:unK g (d,ρ)=Rs.of ((g d).map fun d=>(d,ρ)):=rfl
theorem Qtv {g:D->Option D}:W (mUn g m (s :: ρ)) k↔W (m (s :: ρ)) fun r=>W (unK g r) k:=W_bind
def ixK (i:Nat)(m:ME)(r:D × Rho):Rs (Fl × Rho):=(Rs.of (Qd8 r.2 i)).bind fun _=>(m r.2).bind fun s=>(Rs.of (Qd8 s.2 i)).bind fun q=>(Rs.of ((asI s.1).bind fun n=>ixN q.2.length n)).bind fun j=>
 .ok (.nx,s.2.set i (some (mkS q.1 (.lst (q.2.set j r.1)))))
def Qr1 (i:Nat)(d:D)(t:D × Rho):Rs (Fl × Rho):=(Rs.of (Qd8 t.2 i)).bind fun q=>(Rs.of ((asI t.1).bind fun n=>ixN q.2.length n)).bind fun j=>
 .ok (.nx,t.2.set i (some (mkS q.1 (.lst (q.2.set j d)))))
theorem QnU:Qr1 i d (x,ρ)=(Rs.of (Qd8 ρ i)).bind fun q=>(Rs.of ((asI x).bind fun n=>ixN q.2.length n)).bind fun j=>.ok (.nx,ρ.set i (some (mkS q.1 (.lst (q.2.set j d))))):=rfl
theorem QoK:W (ixK i m (d,s :: ρ)) kf↔W (Rs.of (Qd8 (s :: ρ) i)) fun _=>W (m (s :: ρ)) fun t=>W (Qr1 i d t) kf:=by simp only [ixK,W_bind,Qr1]
theorem Qnt:W (QoM i a m (s :: ρ)) kf↔W (a (s :: ρ)) fun r=>W (ixK i m r) kf:=W_bind
def apK (i:Nat)(r:D × Rho):Rs (Fl × Rho):=(Rs.of (Qd8 r.2 i)).bind fun q=>if q.2.length<sizeLine then .ok (.nx,r.2.set i (some (mkS q.1 (.lst (q.2++[r.1]))))) else .no
theorem QqK:apK i (d,ρ)=(Rs.of (Qd8 ρ i)).bind fun q=>if q.2.length<sizeLine then .ok (.nx,ρ.set i (some (mkS q.1 (.lst (q.2++[d]))))) else .no:=rfl
theorem Qrw:W (QqX i m (s :: ρ)) kf↔W (Rs.of (Qd8 (s :: ρ) i)) fun _=>W (m (s :: ρ)) fun r=>W (apK i r) kf:=by simp only [QqX,W_bind,apK]
theorem Qr0:W (Qs4 (s :: ρ)) ko↔ko (none,s :: ρ):=W_ok
def prK (r:D × Rho):Rs (Option Int × Rho):=(Rs.of (asI r.1)).bind fun i=>.ok (some i,r.2)
theorem Qqp {j:Int}:prK (.int j,ρ)=.ok (some j,ρ):=rfl
theorem QsF:W (QsX m (s :: ρ)) ko↔W (m (s :: ρ)) fun r=>W (prK r) ko:=W_bind
def slK (r:D × Rho)(l h:Option Int × Rho):Rs (D × Rho):=(Rs.of (asL r.1)).bind fun xs=>.ok (.lst (Qc9 xs l.1 h.1),h.2)
theorem Qqd {l h:Option Int}:slK (.nd .lst xs,ρ) (l,ρ1) (h,ρ2)=.ok (.lst (Qc9 xs l h),ρ2):=rfl
theorem QrO:W (Qr3 m lo hi (s :: ρ)) k↔W (m (s :: ρ)) fun r=>W (lo r.2) fun l=>W (hi l.2) fun h=>W (slK r l h) k:=by simp only [Qr3,W_bind,slK]
def skK (r:D × Rho)(l h:Option Int × Rho):Rs (D × Rho):=(Rs.of (asL r.1)).bind fun xs=>if D.immL (Qc9 xs l.1 h.1)=true then .ok (.lst (Qc9 xs l.1 h.1),h.2) else .no
theorem Qp9 {l h:Option Int}:skK (.nd .lst xs,ρ) (l,ρ1) (h,ρ2)=if D.immL (Qc9 xs l h)=true then .ok (.lst (Qc9 xs l h),ρ2) else .no:=rfl
theorem QsI:W (Qs0 m lo hi (s :: ρ)) k↔W (m (s :: ρ)) fun r=>W (lo r.2) fun l=>W (hi l.2) fun h=>W (skK r l h) k:=by simp only [Qs0,W_bind,skK]
def ctK (r1 r2:D × Rho):Rs (D × Rho):=(Rs.of (asL r1.1)).bind fun xs=>(Rs.of (asL r2.1)).bind fun ys=>if xs.length+ys.length<=sizeLine then .ok (.lst (xs++ys),r2.2) else .no
theorem Qpi:ctK (.nd .lst xs,ρ1) (.nd .lst ys,ρ2)=if xs.length+ys.length<=sizeLine then .ok (.lst (xs++ys),ρ2) else .no:=rfl
theorem Qpk:W (QmR a b (s :: ρ)) k↔W (a (s :: ρ)) fun r1=>W (b r1.2) fun r2=>W (ctK r1 r2) k:=by simp only [QmR,W_bind,ctK]
def cuK (r1 r2:D × Rho):Rs (D × Rho):=(Rs.of (asL r1.1)).bind fun xs=>(Rs.of (asL r2.1)).bind fun ys=>if xs.length+ys.length<=sizeLine then (if D.immL (xs++ys)=true then .ok (.lst (xs++ys),r2.2) else .no) else .no
theorem Qqi:cuK (.nd .lst xs,ρ1) (.nd .lst ys,ρ2)=if xs.length+ys.length<=sizeLine then (if D.immL (xs++ys)=true then .ok (.lst (xs++ys),ρ2) else .no) else .no:=rfl
theorem QoN:W (Qmv a b (s :: ρ)) k↔W (a (s :: ρ)) fun r1=>W (b r1.2) fun r2=>W (cuK r1 r2) k:=by simp only [Qmv,W_bind,cuK]
def avK (b:ME)(r:D × Rho):Rs (D × Rho):=(Rs.of (asB r.1)).bind fun c=>if c=true then b r.2 else .ok (.bl false,r.2)
theorem QpB:avK b (.bl c,ρ)=if c=true then b ρ else .ok (.bl false,ρ):=rfl
theorem Qqj:W (QiQ a b (s :: ρ)) k↔W (a (s :: ρ)) fun r=>W (avK b r) k:=W_bind
def chK (g g':D->D->Option D)(mc:ME)(r1 r2:D × Rho):Rs (D × Rho):=(Rs.of ((g r1.1 r2.1).bind asB)).bind fun q=>if q=true then (mc r2.2).bind fun r3=>Rs.of ((g' r2.1 r3.1).map fun d=>(d,r3.2)) else .ok (.bl false,r2.2)
theorem Qpz {g':D->D->Option D}:chK g g' u (x,ρ1) (y,ρ2)=(Rs.of ((g x y).bind asB)).bind fun q=>if q=true then (u ρ2).bind fun r3=>Rs.of ((g' y r3.1).map fun d=>(d,r3.2)) else .ok (.bl false,ρ2):=rfl
theorem Qnh {g':D->D->Option D}:W (Qfh g g' a b u (s :: ρ)) k↔W (a (s :: ρ)) fun r1=>W (b r1.2) fun r2=>W (chK g g' u r1 r2) k:=by simp only [Qfh,W_bind,chK]
end
section
variable {io:List Bool}{n:Nat}{mb:MS}{ds os:List D}{d:D}{ρ ρ1:Rho}{c:Xc}
theorem Ql1 (h:mb (QnX io n ds)=.ex c ρ):QcJ io n mb ds=.ex c:=by unfold QcJ;rw [h]
theorem Qk6 {rk:Kd}{f:List D->Fr}{mr:MA}{args:List D}(h1:mr ρ=.ok (args,ρ1))(h2:f args=.ok d os)(h3:rk=.V->d.imm=true):QaJ rk f mr ρ=.ok (d,ρ1):=by
 have:=Qm8 (rk:=rk) (k:=fun r=>r=(d,ρ1)) (P:=fun d' _=>d'=d) h1 ⟨d,os,h2,rfl⟩ fun d' os' e=>⟨fun z=>e▸h3 z,by rw [e]⟩
 exact this.eq
theorem QkV {rk:Kd}{f:List D->Fr}{mr:MA}{args:List D}(h1:mr ρ=.ok (args,ρ1))(h2:f args=.ex c):QaJ rk f mr ρ=.ex c ρ1:=by
 unfold QaJ
 rw [h1]
 show (match f args with | .ok d _=>_ | .ex c=>_ | .no=>_)=_
 rw [h2]
theorem QdT {m u:MS}(h:m ρ=.ok (.nx,ρ1)):QbQ m u ρ=u ρ1:=by unfold QbQ;rw [h];rfl
theorem QlA {m u:MS}(h:m ρ=.ex c ρ1):QbQ m u ρ=.ex c ρ1:=by unfold QbQ;rw [h];rfl
end
def QtR (t:Tag):Prop:=t=.lst\/t=.tup
theorem Qdr {t:Tag}{ds:List D}{i:Nat}{d:D}(h:QtR t)(e:ds[i]? = some d):gIx (.nd t ds) (.int i)=some d:=by
 have:atI ds (i:Int)=some d:=by
  unfold atI ixN
  have:=(List.getElem?_eq_some_iff.mp e).1
  rw [if_pos (Int.natCast_nonneg i),if_pos (by omega)]
  exact e
 rcases h with rfl | rfl<;>exact this
theorem Qmn {mt:MT}{m u:MS}{ρ ρ1:Rho}{b:Bool}(h:mt ρ=.ok (b,ρ1)):mIf mt m u ρ=if b=true then m ρ1 else u ρ1:=by unfold mIf;rw [h];rfl
theorem QjU {g:D->D->Option D}{a b:ME}{ρ ρ1 ρ2:Rho}{x y d:D}(h1:a ρ=.ok (x,ρ1))(h2:b ρ1=.ok (y,ρ2))(hg:g x y=some d):mOp g a b ρ=.ok (d,ρ2):=by
 unfold mOp;rw [h1]
 show ((b ρ1).bind _)=_
 rw [h2]
 show Rs.of ((g x y).map _)=_
 rw [hg];rfl
theorem Qgb {bs:List Bool}:Qji [.lst (bs.map .bl)]=some (.bl (bs.all fun b=>b)):=by
 have:QhO (bs.map .bl)=some bs:=by
  induction bs with
  |nil=>rfl
  |cons b bs ih=>rw [List.map_cons,QhO,ih];rfl
 show (QhO (bs.map .bl)).map _=_
 rw [this];rfl
theorem Qmj {bs:List Bool}:Qoi [.lst (bs.map .bl)]=some (.bl (bs.any fun b=>b)):=by
 have:QhO (bs.map .bl)=some bs:=by
  induction bs with
  |nil=>rfl
  |cons b bs ih=>rw [List.map_cons,QhO,ih];rfl
 show (QhO (bs.map .bl)).map _=_
 rw [this];rfl
def pl (q:Int × Int):D:=.tup [.int q.1,.int q.2]
section
variable {X:Cx}{C:Cn}{E:XE}{pa pb:Bool}{o e:Expr}{es:List Expr}{mo:ME}{mr:MA}{ks:List Kd}
def asS:D->Option Str
 |.str s=>some s
 |_=>none
theorem QdV {d:D}{z:Str}(h:asS d=some z):d=.str z:=by
 cases d<;>first | cases h;done | (cases h;rfl)
theorem R.str {K:PySem.W.Frag}{F:Hp}{v:L2.V}{z:Str}(r:R K F v (.str z)):v=.str z:=by
 cases r with | sc e=>cases e;rfl
theorem R.int {K:PySem.W.Frag}{F:Hp}{v:L2.V}{z:Int}(r:R K F v (.int z)):v=.int z:=by
 cases r with | sc e=>cases e;rfl
theorem R.bl {K:PySem.W.Frag}{F:Hp}{v:L2.V}{z:Bool}(r:R K F v (.bl z)):v=.bl z:=by
 cases r with | sc e=>cases e;rfl
def MtD (K:PySem.W.Frag)(r:L2.V->List L2.V->Hp->VK->Prop)(g:Str->List D->Option D):Prop:=∀ H z vs ds res,RL K H vs ds->g z ds=some res->∃ w,res.sc=some w/\∀ Q:VK,Q w H->r (.str z) vs H Q
def mBM (g:Str->List D->Option D)(mo:ME)(mr:MA):ME:=fun ρ=>(mo ρ).bind fun r1=>(Rs.of (asS r1.1)).bind fun z=>(mr r1.2).bind fun r2=>Rs.of ((g z r2.1).map fun d=>(d,r2.2))
theorem Qka {name:Str}{id:String}{r:L2.V->List L2.V->Hp->VK->Prop}{g:Str->List D->Option D}{apos cpos:Pos}(slot:Slot "str" name id)(hty:typeOf (.builtin id)=pure (.type "method_descriptor"))(hm:MtR X id r)(hg:MtD C.K r g)
  (ho:PE X o (tX .V C pa E mo)) (ha:PA X (e :: es) (tA ks C pb E mr)) (ok:rdL ks=true:=by rfl) (hbase:attributeBase o name X.env (eval o X.env)=eval o X.env:=by rfl)
  (hfew:((backTo cpos (starEach (e :: es) X.env)).all (fun x=>!x.1) && (backToKw cpos (keywordEach [] X.env)).all (fun x=>x.1.isSome)
   && decide ((e :: es).length+([]:List Keyword).length+(if ([]:List Keyword).isEmpty then 0 else 1)<30))=true:=by rfl)
  (hline:(apos.endLine == cpos.line)=true:=by rfl) (hs:starEach (e :: es) X.env=(false,eval e X.env) :: starEach es X.env:=by rfl) (hplain:(backTo cpos (starEach es X.env)).any (·.1)=false:=by rfl) :
  PE X (.Call (.Attribute o name apos) (e :: es) [] cpos) (tX .V C (pa && pb) E (mBM g mo mr)):=
 Qag (Qjy PySem.F.plainAttrs_str slot hty hm ho ha hbase hfew hline hs hplain) fun σ H Q ⟨F,ρ,τ,fp,I,h⟩=>by
  refine ⟨F,ρ,τ,fp,I,h.split.mono fun r1 h1 F1 H1 fp1 v I1 n1 f1=>?_⟩
  obtain ⟨z,ez,h2⟩:=h1.split.of
  obtain ⟨d,ρ1⟩:=r1
  obtain rfl:=QdV ez
  obtain rfl:=R.str f1
  refine ⟨rfl,F1,ρ1,τ,fp1,I1,h2.split.mono fun r2 h3 F2 H2 fp2 vs I2 n2 f2=>?_⟩
  rw [QaY ok] at I2
  obtain ⟨q,eq,h4⟩:=h3.of
  obtain ⟨res,eg,rfl⟩:=Option.map_eq_some_iff.mp eq
  obtain ⟨w,ew,hw⟩:=hg H2 z vs _ _ (RL.same (QbD I2.fh) (f2.rd I2 ok)) eg
  exact hw _ (h4 F2 H2 fp2 w I2 (n1.trans n2) (.sc ew))
def QnK:List D->Option (List Str)
 | []=>some []
 |.str s :: r=>(QnK r).map (s :: ·)
 |_=>none
theorem QjP {K:PySem.W.Frag}{F:Hp}:∀ {vs:List L2.V} {ds:List D} {ys:List Str},RL K F vs ds->QnK ds=some ys->vs=ys.map L2.V.str
 |_,_,_,.nil,h=>by cases h;rfl
 |_,_,_,.cons (d:=d) r q,h=>by
  cases d with
  |str s=>
   obtain ⟨ys,e,rfl⟩:=Option.map_eq_some_iff.mp (show (QnK _).map (s :: ·)=some _ from h)
   rw [R.str r,QjP q e];rfl
  |_=>cases h
def QmN (sep:Str):List D->Option D
 | [.nd .lst ds]=>(QnK ds).bind fun ys=>if JoinOk sep ys=true then some (.str (Str.join sep ys)) else none
 |_=>none
theorem QnP (hK:C.K=X.K):MtD C.K (QqH X.K) QmN:=fun H z vs ds res r eg=>by
 unfold QmN at eg
 split at eg
 ·obtain ⟨ys,e1,e2⟩:=Option.bind_eq_some_iff.mp eg
  split at e2
  ·rename_i ok
   cases e2
   obtain ⟨v,rfl,r1⟩:=r.one
   obtain ⟨q,us,rfl,ha,rl⟩:=r1.inv
   refine ⟨_,rfl,fun Q h=>⟨z,q,ys,rfl,rfl,?_,ok,h⟩⟩
   have:us=ys.map L2.V.str:=QjP rl e1
   rw [← this,← hK];exact ha
  ·cases e2
 ·cases eg
def Qgp (z:Str):List D->Option D
 | [.str y]=>some (.bl (PySem.Txt.startswith z y))
 |_=>none
theorem QlN:MtD C.K QhW Qgp:=fun H z vs ds res r eg=>by
 unfold Qgp at eg
 split at eg
 ·cases eg
  obtain ⟨v,rfl,r1⟩:=r.one
  obtain rfl:=R.str r1
  exact ⟨_,rfl,fun Q h=>⟨z,_,rfl,rfl,h⟩⟩
 ·cases eg
def Qa7 (mo:ME)(mr:MA):ME:=fun ρ=>(mo ρ).bind fun r1=>(Rs.of (asS r1.1)).bind fun z=>(mr r1.2).bind fun r2=>(Rs.of (match r2.1 with | [.str y]=>if (y.length == 0)=false/\z.length+2<=sizeLine/\(PySem.Txt.split z y).length<=sizeLine then some (PySem.Txt.split z y) else none | _=>none)).bind fun ys=>.ok (.lst (ys.map D.str),r2.2)
theorem QdI:∀ ys:List Str,D.immL (ys.map D.str)=true
 | []=>rfl
 |y :: ys=>by rw [List.map_cons];show (true && D.immL (ys.map D.str))=true;rw [QdI ys];rfl
theorem QfR {K:PySem.W.Frag}{F:Hp}:∀ ys:List Str,RL K F (ys.map L2.V.str) (ys.map D.str)
 | []=>.nil
 |y :: ys=>.cons (.sc rfl) (QfR ys)
theorem Qdj {apos cpos:Pos}(ho:PE X o (tX .V C pa E mo))(ha:PA X [e] (tA ks C pb E mr))(ok:rdL ks=true:=by rfl)(hbase:attributeBase o "split" X.env (eval o X.env)=eval o X.env:=by rfl)
  (hfew:((backTo cpos (starEach [e] X.env)).all (fun x=>!x.1) && (backToKw cpos (keywordEach [] X.env)).all (fun x=>x.1.isSome)
   && decide ([e].length+([]:List Keyword).length+(if ([]:List Keyword).isEmpty then 0 else 1)<30))=true:=by rfl)
  (hline:(apos.endLine == cpos.line)=true:=by rfl) (hs:starEach [e] X.env=(false,eval e X.env) :: starEach [] X.env:=by rfl) (hplain:(backTo cpos (starEach [] X.env)).any (·.1)=false:=by rfl) :
  PE X (.Call (.Attribute o "split" apos) [e] [] cpos) (tX .O C (pa && pb) E (Qa7 mo mr)):=
 Qag (Qjy PySem.F.plainAttrs_str PySem.F.slot_str_split PySem.F.type_str_split QgI ho ha hbase hfew hline hs hplain) fun σ H Q ⟨F,ρ,τ,fp,I,h⟩=>by
  refine ⟨F,ρ,τ,fp,I,h.split.mono fun r1 h1 F1 H1 fp1 v I1 n1 f1=>?_⟩
  obtain ⟨z,ez,h2⟩:=h1.split.of
  obtain ⟨d,ρ1⟩:=r1
  obtain rfl:=QdV ez
  obtain rfl:=R.str f1
  refine ⟨rfl,F1,ρ1,τ,fp1,I1,h2.split.mono fun r2 h3 F2 H2 fp2 vs I2 n2 f2=>?_⟩
  rw [QaY ok] at I2
  obtain ⟨ys,eq,h4⟩:=h3.split.of
  have rl:=f2.rd I2 ok
  obtain ⟨ds,ρ2⟩:=r2
  dsimp only at eq rl
  split at eq
  ·split at eq
   ·rename_i y cnd
    cases eq
    obtain ⟨v,rfl,r1⟩:=rl.one
    obtain rfl:=R.str r1
    refine ⟨z,y,rfl,rfl,cnd.1,cnd.2.1,cnd.2.2,fun l hl=>?_⟩
    exact h4 _ _ _ _ (I2.newList hl (QfR _) (QdI _)) ((n1.trans n2).trans (q:=true) ⟨Same.refl _,fun _=>Qgx I2 hl⟩ |>.weak fun z=>by simpa using z) True.intro
   ·cases eq
  ·cases eq
end
section
variable {X:Cx}{C:Cn}{E:XE}{p pa pb:Bool}{e a b c:Expr}{m ma mb:ME}{pos:Pos}{k ka kb:Kd}
def QnW:D->D->Option D
 |.str z,.int i=>if z.length<=sizeLine then (atI z.cps.toList i).map fun c=>.str ⟨#[c]⟩ else none
 |_,_=>none
theorem QtW {K:PySem.W.Frag}:OpD K QsA QnW:=fun H v u d e res r q eg=>by
 unfold QnW at eg
 split at eg
 ·split at eg
  ·rename_i z i hz
   obtain ⟨c,e1,rfl⟩:=Option.map_eq_some_iff.mp eg
   obtain rfl:=R.str r
   obtain rfl:=R.int q
   exact ⟨_,rfl,fun Q h=>⟨z,i,c,rfl,rfl,hz,e1,h⟩⟩
  ·cases eg
 ·cases eg
theorem Qnr (ha:PE X a (tX ka C pa E ma))(hb:PE X b (tX kb C pb E mb))(ok:ka.on pb=true:=by rfl)(ok2:kb.on true=true:=by rfl)(hs:Qf9 b:=by intro _ _;rfl):PE X (.Subscript a b pos) (tX .V C (pa && pb) E (mOp QnW ma mb)):=
 Qag (Qpf Qdl ha hb hs) fun _ _ _ h=>QgG QtW ok ok2 h
def QlY:D->D->Option D
 |.str x,.str y=>if x.length+y.length<=sizeLine then some (.str (x++y)) else none
 |_,_=>none
theorem Qkg {K:PySem.W.Frag}:OpD K (fun x y H Q=>∃ i j,x=.str i/\y=.str j/\i.length+j.length<=sizeLine/\Q (.str (i++j)) H) QlY:=fun H v u d e res r q eg=>by
 unfold QlY at eg
 split at eg
 ·split at eg
  ·rename_i x y hz
   cases eg
   obtain rfl:=R.str r
   obtain rfl:=R.str q
   exact ⟨_,rfl,fun Q h=>⟨_,_,rfl,rfl,hz,h⟩⟩
  ·cases eg
 ·cases eg
def Qou (x y:Str):Bool:=!(Builtin.Str.occurrences y x 0 y.length 1).isEmpty
def Qml (f:Bool->Bool):D->D->Option D
 |.str x,.str y=>some (.bl (f (Qou x y)))
 |_,_=>none
theorem Qq6 {K:PySem.W.Frag}:OpD K (fun x y H Q=>∃ i j,x=.str i/\y=.str j/\Q (.bl (!(Builtin.Str.occurrences j i 0 j.length 1).isEmpty)) H) (Qml id):=fun H v u d e res r q eg=>by
 unfold Qml at eg
 split at eg
 ·cases eg
  obtain rfl:=R.str r
  obtain rfl:=R.str q
  exact ⟨_,rfl,fun Q h=>⟨_,_,rfl,rfl,h⟩⟩
 ·cases eg
def QbB (z:Str):List D:=z.cps.toList.map fun c=>.str ⟨#[c]⟩
theorem QmF {K:PySem.W.Frag}{F:Hp}{z:Str}:ItD K F (QbB z) (Its z):=by
 refine ⟨fun {C F' H σ ρ τ fp i d} hk I s e=>?_,fun {C F' H σ ρ τ fp} hk I s=>?_⟩
 ·unfold QbB at e
  rw [List.getElem?_map] at e
  obtain ⟨c,ec,rfl⟩:=Option.map_eq_some_iff.mp e
  rw [Array.getElem?_toList] at ec
  refine ⟨(Array.getElem?_eq_some_iff.mp ec).1,fun x H' ⟨e1,c',e2,e3⟩=>?_⟩
  subst e1
  rw [ec] at e2;cases e2
  subst e3
  exact ⟨F',I,.refl,.sc rfl⟩
 ·show z.cps.size<=(QbB z).length
  unfold QbB
  rw [List.length_map,Array.length_toList]
  exact Nat.le_refl _
def Qic (m:ME):MA:=fun ρ=>(m ρ).bind fun r=>(Rs.of (asS r.1)).bind fun z=>.ok (QbB z,r.2)
theorem QgF {tg l:Expr}(hl:PE X l (tX .V C p E m)):PI X tg l (tI C p E (Qic m)):=QeA (Qqg hl) fun σ H RR ⟨F,ρ,τ,fp,I,h⟩=>by
 refine ⟨F,ρ,τ,fp,I,h.split.mono fun r hr F1 H1 fp1 v I1 n1 f1=>?_⟩
 obtain ⟨z,ez,h2⟩:=hr.split.of
 obtain ⟨d,ρ1⟩:=r
 obtain rfl:=QdV ez
 obtain rfl:=R.str f1
 exact ⟨z,rfl,h2 F1 H1 fp1 _ I1 n1 QmF⟩
def Qlo:List D->Option D
 | [.int i]=>some (.int i)
 | [.bl k]=>some (.int (if k then 1 else 0))
 | [.str x]=>if x.length<=640 then (PySem.intText? x).map D.int else none
 |_=>none
theorem QfB:Qbo X (.type "int") (fun xs H Q=>(∃ i,xs=[.int i]/\Q (.int i) H)\/(∃ k,xs=[.bl k]/\Q (.int (if k then 1 else 0)) H)\/(∃ (x:Str) (n:Int),xs=[.str x]/\PySem.intText? x=some n/\x.length<=640/\Q (.int n) H)):=fun pins s σ H xs us Q I r h=>by
 rcases h with h | h | h
 ·exact Qe1 pins s σ H xs us Q I r (.inl h)
 ·exact Qe1 pins s σ H xs us Q I r (.inr h)
 ·exact QeE pins s σ H xs us Q I r h
theorem Qs3 {K:PySem.W.Frag}:QcQ K (fun xs H Q=>(∃ i,xs=[.int i]/\Q (.int i) H)\/(∃ k,xs=[.bl k]/\Q (.int (if k then 1 else 0)) H)\/(∃ (x:Str) (n:Int),xs=[.str x]/\PySem.intText? x=some n/\x.length<=640/\Q (.int n) H)) Qlo:=fun H vs ds res r eg=>by
 unfold Qlo at eg
 split at eg
 ·cases eg
  obtain ⟨v,rfl,r1⟩:=r.one
  obtain rfl:=R.int r1
  exact ⟨_,rfl,fun Q h=>.inl ⟨_,rfl,h⟩⟩
 ·cases eg
  obtain ⟨v,rfl,r1⟩:=r.one
  obtain rfl:=R.bl r1
  exact ⟨_,rfl,fun Q h=>.inr (.inl ⟨_,rfl,h⟩)⟩
 ·split at eg
  ·rename_i hz
   obtain ⟨n,e1,rfl⟩:=Option.map_eq_some_iff.mp eg
   obtain ⟨v,rfl,r1⟩:=r.one
   obtain rfl:=R.str r1
   exact ⟨_,rfl,fun Q h=>.inr (.inr ⟨_,_,rfl,e1,hz,h⟩)⟩
  ·cases eg
 ·cases eg
end
section
variable {X:Cx}{C:Cn}{E:XE}{pa pb:Bool}{o e a b c:Expr}{m ma mb mi:ME}{pos:Pos}{k ka kb rk:Kd}{ks:List Kd}
def Qbp {κ:Type}[DecidableEq κ]:List κ->List D->κ->Option D
 |x :: ks,d :: ds,k=>if x=k then some d else Qbp ks ds k
 |_,_,_=>none
theorem Qcv {κ:Type}[DecidableEq κ]{K:PySem.W.Frag}{F:Hp}:∀ {ks:List κ} {vs:List L2.V} {ds:List D} {k:κ} {d:D},RL K F vs ds->Qbp ks ds k=some d->∃ v,QdS (ks.zip vs) k=some v/\R K F v d
 | [],_,_,_,_,_,h=>by cases h
 |_ :: _,_,_,_,_,.nil,h=>by cases h
 |x :: ks,v :: vs,d :: ds,k,y,.cons r q,h=>by
  rw [List.zip_cons_cons]
  by_cases e:x=k
  ·rw [Qbp,if_pos e] at h;cases h
   exact ⟨v,Qcu e,r⟩
  ·rw [Qbp,if_neg e] at h
   obtain ⟨w,h1,h2⟩:=Qcv q h
   exact ⟨w,by rw [QbO e];exact h1,h2⟩
theorem Qd3 {K:PySem.W.Frag}{F:Hp}{v:L2.V}{d:D}{k:Key}(r:R K F v d)(e:Qf8 d=some k):v=kV k:=by
 cases d with
 |int i=>cases e;rw [r.det_sc (w:=.int i) rfl];rfl
 |str z=>cases e;rw [r.det_sc (w:=.str z) rfl];rfl
 |_=>cases e
def Qlw:D->D->Option D
 |.nd (.dT ks) ds,y=>(Qsy y).bind fun k=>Qbp ks ds k
 |.nd (.dK ks) ds,y=>(Qf8 y).bind fun k=>Qbp ks ds k
 |_,_=>none
theorem QnC {F H:Hp}{v u:L2.V}{y d x:D}(hs:Same F H)(r2:R C.K F u d)(r1:R C.K F v y)(eg:Qlw d y=some x):∃ l w,u=.ref l/\DGet H l v (some w)/\R C.K F w x:=by
 unfold Qlw at eg
 split at eg
 ·obtain ⟨l,us,rfl,h1,h2⟩:=r2.inv
  obtain ⟨k,ek,e2⟩:=Option.bind_eq_some_iff.mp eg
  obtain ⟨bb,rfl,hb⟩:=Qqc r1 ek
  obtain ⟨w,hw,rw'⟩:=Qcv h2 e2
  exact ⟨l,w,rfl,.inr ⟨_,k,bb,.of (hs _ _ h1.2),rfl,hs _ _ hb,hw.symm⟩,rw'⟩
 ·obtain ⟨l,us,rfl,h1,h2⟩:=r2.inv
  obtain ⟨k,ek,e2⟩:=Option.bind_eq_some_iff.mp eg
  obtain ⟨w,hw,rw'⟩:=Qcv h2 e2
  exact ⟨l,w,rfl,.inl ⟨_,k,.of (hs _ _ h1.2),Qd3 r1 ek,hw.symm⟩,rw'⟩
 ·cases eg
theorem QhI (hu:X.A.units+1<cLine)(ha:PE X a (tX ka C pa E ma))(hb:PE X b (tX kb C pb E mb))(ok:ka.on pb=true:=by rfl)(ok2:kb.on true=true:=by rfl)(hs:QqY b:=by intro _ _;rfl):PE X (.Subscript a b pos) (tX .B C (pa && pb) E (mOp Qlw ma mb)):=Qag (QnB hu ha hb hs) fun σ H Q ⟨F,ρ,τ,fp,I,h⟩=>by
 refine ⟨F,ρ,τ,fp,I,h.split.mono fun r1 h1 F1 H1 fp1 v1 I1 n1 f1=>?_⟩
 rw [Kd.tk_on ok] at I1
 refine ⟨F1,r1.2,τ,fp1,I1,h1.split.mono fun r2 h2 F2 H2 fp2 v2 I2 n2 f2=>?_⟩
 rw [Kd.tk_on ok2] at I2
 obtain ⟨z,ez,h3⟩:=h2.of
 obtain ⟨res,eg,rfl⟩:=Option.map_eq_some_iff.mp ez
 obtain ⟨l,w,rfl,hg,rw'⟩:=QnC (QbD I2.fh) (Kd.stay ok f1 n2 I2) (Kd.stay ok2 f2 .refl I2) eg
 exact ⟨l,w,rfl,hg,h3 F2 H2 fp2 w I2 (n1.trans n2) rw'⟩
def Qhs (ρ:Rho)(i:Nat):Option (Bool × List Key × List D):=match ρ[i]? with
 |some (some (.own (.nd (.dK ks) ds)))=>some (false,ks,ds)
 |some (some (.par (.nd (.dK ks) ds)))=>some (true,ks,ds)
 |_=>none
theorem QjB {ρ:Rho}{i:Nat}{q:Bool × List Key × List D}(h:Qhs ρ i=some q):ρ[i]? = some (some (mkS q.1 (.nd (.dK q.2.1) q.2.2))):=by
 unfold Qhs at h
 split at h
 ·next e=>cases h;exact e
 ·next e=>cases h;exact e
 ·cases h
def Qlp (i:Nat)(mv mk:ME):MS:=fun ρ=>(mv ρ).bind fun r=>(Rs.of (Qhs r.2 i)).bind fun _=>(mk r.2).bind fun s=>(Rs.of (Qhs s.2 i)).bind fun q=>(Rs.of (Qf8 s.1)).bind fun k=>
 if q.2.1.length<sizeLine then (if (r.1.imm && D.immL q.2.2)=true then .ok (.nx,s.2.set i (some (mkS q.1 (.nd (.dK (QdN q.2.1 q.2.2 k r.1).1) (QdN q.2.1 q.2.2 k r.1).2)))) else .no) else .no
theorem Qgg {i:Nat}{x:Str}{np spos:Pos}{ix:Expr}(hu:X.A.units+1<cLine)(hN:X.N[i]? = some x)(hv:Vis X.env.scope x)(he:PE X e (tX .V C pa E m))(hi:PE X ix (tX .V C pb E mi))(hs:swapsWith e (some (.Subscript (.Name x np) ix spos)) pos.line X.env=pure false:=by rfl)(hd:(x == ("__debug__" : Str))=false:=by decide)(hcd:(x == ("__classdict__" : Str))=false:=by decide) :
  PS X (.Assign [.Subscript (.Name x np) ix spos] e pos) (tS rk C E (Qlp i m mi)):=Qa3 (Qna hu (QdD hN hv hd hcd) hi he hs) fun DD σ H ⟨F,ρ,fp,I,h⟩=>by
 refine ⟨F,ρ,[],fp,I,h.split.run.mono fun r hr F1 H1 fp1 v I1 n1 f1=>?_⟩
 obtain ⟨q0,e0,hr⟩:=hr.split.of
 obtain ⟨l0,vs0,g0,rest0,ex0,hl0,_⟩:=SI.retag I1 rfl (QjB e0)
 refine ⟨_,ex0,F1,r.2,[],fp1,I1,hr.split.run.mono fun s hs F2 H2 fp2 kv I2 n2 f2=>?_⟩
 obtain ⟨q,eq,h2⟩:=hs.split.of
 obtain ⟨key,ek,h3⟩:=h2.split.of
 obtain ⟨l,vs,f,rest,ex,hl,ol,pm,w,cl⟩:=SI.retag I2 rfl (QjB eq)
 have el:l=l0:=by rw [ex0] at ex;cases ex;rfl
 subst el
 by_cases hz:q.2.1.length<sizeLine
 ·rw [if_pos hz] at h3
  by_cases hi:(r.1.imm && D.immL q.2.2)=true
  ·rw [if_pos hi] at h3
   obtain ⟨i1,i2⟩:=Bool.and_eq_true_iff.mp hi
   have ekv:=Qd3 f2 ek
   have rl:=ol.rl i2
   have rv:R C.K F2 v r.1:=R.same n2.f f1
   have ef:f=[]:=ol.imm0 i2
   subst ef
   have lv:q.2.1.length=vs.length:=hl.1
   have hkv:(q.2.1.zip vs).length<sizeLine:=by rw [List.length_zip,← lv,Nat.min_self];exact hz
   refine ⟨l,_,rfl,.inl ⟨_,key,hl.2,ekv,hkv,rfl⟩,?_⟩
   have fin:∀ {vs':List L2.V},Qda (q.2.1.zip vs) key v=(QdN q.2.1 q.2.2 key r.1).1.zip vs'->(QdN q.2.1 q.2.2 key r.1).1.length=vs'.length->RL C.K F2 vs' (QdN q.2.1 q.2.2 key r.1).2->D.immL (QdN q.2.1 q.2.2 key r.1).2=true->DD.nx σ (upd H2 l (.dK (Qda (q.2.1.zip vs) key v))):=fun {vs'} e1 e2 r' hi'=>by
    rw [e1]
    exact h3 F2 _ σ _ (n1.f.trans n2.f) (cl (t':=.dK _) (vs':=vs') ⟨e2,Qah⟩ (r'.o hi') (pm.nodup_iff.mp I2.nd) (fun _ z=>nomatch z))
   unfold QdN at fin
   by_cases c:(q.2.1.any fun x=>decide (x=key))=true
   ·rw [if_pos c] at fin
    refine fin (vs':=List.zipWith (fun x y=>if x=key then v else y) q.2.1 vs) ?_ (by rw [List.length_zipWith,← lv,Nat.min_self]) (Qgc rv rl) (Qfk i1 i2)
    unfold Qda
    rw [QfO lv,if_pos c,QgD lv]
   ·rw [if_neg c] at fin
    refine fin (vs':=vs++[v]) ?_ (by simp [lv]) (rl.app (.cons rv .nil)) (Qkt i2 (Qf6 fun d hd=>by rw [List.mem_singleton.mp hd];exact i1))
    unfold Qda
    rw [QfO lv,if_neg c,List.zip_append lv]
    rfl
  ·rw [if_neg hi] at h3;exact h3.elim
 ·rw [if_neg hz] at h3;exact h3.elim
end
section
variable {X:Cx}{C:Cn}{E:XE}{o e a b:Expr}{m:ME}{pos:Pos}{k:Kd}
def QhZ:List ME->MA
 | []=>QaL
 |m :: r=>Qai m (QhZ r)
def prs (C:Cn)(E:XE)(kms:List (Str × ME)):List (TE × TE):=kms.map fun km=>(tC (.str km.1),tX .V C false E km.2)
def kvs (kms:List (Str × ME))(vs:List L2.V):List (Key × L2.V):=(kms.map fun km=>(Sum.inr km.1:Key)).zip vs
theorem Qg9:∀ {kms:List (Str × ME)} {σ:L2.St} {F H:Hp} {ρ:Rho} {τ:List (L2.V × D)} {fp:List Addr} {Z:List (L2.V × L2.V)->Hp->Prop},SI C F H σ ρ τ fp->
  Run C E σ (QhZ (kms.map (·.2)) ρ) (fun r=>∀ F' H' fp' vs,SI C F' H' σ r.2 τ fp'->Same F F'->RL C.K F' vs r.1->vs.length=kms.length->Z ((kvs kms vs).map fun kv=>(kV kv.1,kv.2)) H')->QgM (prs C E kms) σ H Z
 | [],σ,F,H,ρ,τ,fp,Z,I,h=>h F H fp [] I (Same.refl _) .nil rfl
 |(x,m) :: kms,σ,F,H,ρ,τ,fp,Z,I,h=>by
  refine ⟨F,ρ,τ,fp,I,h.split.mono fun r1 h1 F1 H1 fp1 v I1 n1 f1=>?_⟩
  refine Qg9 I1 (h1.split.mono fun r2 h2 F2 H2 fp2 vs I2 s2 rl lv=>?_)
  exact h2 F2 H2 fp2 (v :: vs) I2 (n1.f.trans s2) (.cons (R.same s2 f1) rl) (by rw [List.length_cons,List.length_cons,lv])
theorem Qfg:∀ {kvs acc:List (Key × L2.V)},((acc++kvs).map (·.1)).Nodup->QcZ acc kvs=acc++kvs
 | [],acc,_=>by rw [List.append_nil];rfl
 |(k,v) :: r,acc,h=>by
  have e:acc++(k,v) :: r=(acc++[(k,v)])++r:=by simp
  have hn:QdS acc k=none:=by
   cases q:QdS acc k with
   |none=>rfl
   |some w=>
    have z:(acc.any fun kv=>decide (kv.1=k))=true:=by rw [Qcs,q];rfl
    obtain ⟨kv,hm,he⟩:=List.any_eq_true.mp z
    have he:kv.1=k:=of_decide_eq_true he
    rw [List.map_append,List.map_cons] at h
    exact absurd he ((List.nodup_append.mp h).2.2 kv.1 (List.mem_map_of_mem hm) k List.mem_cons_self)
  show QcZ (Qda acc k v) r=_
  rw [Qj6 _ hn,Qfg (by rw [← e];exact h),← e]
def QkQ (kms:List (Str × ME)):ME:=fun ρ=>(QhZ (kms.map (·.2)) ρ).bind fun r=>if (kms.map (·.1)).Nodup/\kms.length<=15/\D.immL r.1=true then .ok (.nd (.dK (kms.map fun km=>(Sum.inr km.1:Key))) r.1,r.2) else .no
theorem QfX {keys:List (Option Expr)}{values:List Expr}{kms:List (Str × ME)}(h:PPs X pos keys values (prs C E kms))(hall:keys.all (·.isSome)=true:=by rfl)(hl:keys.length=values.length:=by rfl)(h0:keys≠[]:=by simp)
  (h15:keys.length<=15:=by decide):PE X (.Dict keys values pos) (tX .O C false E (QkQ kms)):=Qag (QmI h hall hl h0 h15) fun σ H Q ⟨F,ρ,τ,fp,I,h⟩ q hq=>by
 have I0:SI C F (upd H q (.dK [])) σ ρ τ fp:=I.lay0 hq
 have fq:F q=none:=I.fh.free hq
 have nq:q∉fp:=fun z=>by
  obtain ⟨_,e,_⟩:=I.mem q z
  rw [hq] at e;cases e
 have I1:SI C F (upd H q (.dK [])) σ ρ ((.ref q,.nd (.dK []) []) :: τ) ([q]++fp):=I0.push (.mt (t:=.dK []) ⟨rfl,Qah⟩ .nil) (fun a ha=>by rw [List.mem_singleton.mp ha];exact I.dm q hq) (fun a ha=>by rw [List.mem_singleton.mp ha];exact fq) (by simpa using ⟨nq,I.nd⟩)
 refine Qg9 I1 (h.split.mono fun r2 h2 F2 H2 fp2 vs I2 s2 rl lv=>?_)
 obtain ⟨f,rest,oo,pm,J,z1,z2,nd⟩:=I2.pop
 have key:H2 q=some (.dK [])/\f=[q]:=by
  cases oo with
  |sc e=>cases e
  |im m _ _=>cases m
  |mt hm ol=>
   cases ol
   exact ⟨hm.2,rfl⟩
 obtain ⟨hq2,rfl⟩:=key
 by_cases cnd:(kms.map (·.1)).Nodup/\kms.length<=15/\D.immL r2.1=true
 ·rw [if_pos cnd] at h2
  have lk:(kms.map fun km=>(Sum.inr km.1:Key)).length=vs.length:=by rw [List.length_map,lv]
  have ndk:((kvs kms vs).map (·.1)).Nodup:=by
   unfold kvs
   rw [QfV lk]
   have:(kms.map fun km=>(Sum.inr km.1:Key))=(kms.map (·.1)).map (Sum.inr:Str->Key):=by rw [List.map_map];rfl
   rw [this]
   exact List.Pairwise.map _ (fun _ _ h e=>h (Sum.inr.inj e)) cnd.1
  have mg:QcZ [] (kvs kms vs)=kvs kms vs:=by
   have:=Qfg (acc:=[]) (kvs:=kvs kms vs) (by rw [List.nil_append];exact ndk)
   rwa [List.nil_append] at this
  refine ⟨hq2,kvs kms vs,rfl,?_,?_⟩
  ·unfold kvs
   rw [List.length_zip,lk,Nat.min_self,lv];exact cnd.2.1
  ·rw [mg]
   have fq2:F2 q=none:=z2 q List.mem_cons_self
   have nr:q∉rest:=fun z=>by
    have:=(List.nodup_append.mp nd).2.2 q List.mem_cons_self q z
    exact this rfl
   have J1:SI C F2 (upd H2 q (.dK (kvs kms vs))) σ r2.2 τ rest:=J.step (Same.refl F2) (fun b ob e=>by rw [Qad (Qaj e fq2)];exact J.fh b ob e) (fun a ha=>Qad fun z=>nr (z▸ha)) J.ap (fun b ob e=>.inl e)
    (fun b ob e0 _ e=>by
     rw [Qad (Qaj e0 (z1 q List.mem_cons_self))];exact e) (fun b e=>by
     by_cases hb:b=q
     ·subst hb;rw [Qah] at e;cases e
     ·rw [Qad hb] at e;exact e)
   have J2:=J1.push (v:=.ref q) (d:=.nd (.dK (kms.map fun km=>(Sum.inr km.1:Key))) r2.1) (f:=[q]) (.mt (t:=.dK _) (vs:=vs) ⟨lk,Qah⟩ (rl.o cnd.2.2)) z1 z2 nd
   exact h2 F2 _ _ _ J2 ⟨s2,fun z=>by cases z⟩ True.intro
 ·rw [if_neg cnd] at h2;exact h2.elim
end
section
variable {X:Cx}{e:Expr}
def Qr2:List D->Option D
 | [.int i]=>if i.natAbs.log2<1920 then some (.str (toString i)) else none
 | [.str x]=>some (.str x)
 |_=>none
def QqL:List L2.V->Hp->VK->Prop:=fun xs H Q=>(∃ i,xs=[.int i]/\i.natAbs.log2<1920/\Q (.str (toString i)) H)\/∃ x,xs=[.str x]/\Q (.str x) H
theorem Qi5:Qbo X (.type "str") QqL:=fun pins s σ H xs us Q I r h=>by
 rcases h with h | ⟨x,rfl,q⟩
 ·exact Qfs pins s σ H xs us Q I r h
 ·obtain ⟨u,rfl,t,rfl⟩:=Qcc r
  exact PySem.P.str_of_str ⟨.str x,H,I,⟨_,rfl⟩,q⟩
theorem QtE {K:PySem.W.Frag}:QcQ K QqL Qr2:=fun H vs ds res r eg=>by
 unfold Qr2 at eg
 split at eg
 ·split at eg
  ·rename_i hz
   cases eg
   obtain ⟨v,rfl,r1⟩:=r.one
   obtain rfl:=R.int r1
   exact ⟨_,rfl,fun Q h=>.inl ⟨_,rfl,hz,h⟩⟩
  ·cases eg
 ·cases eg
  obtain ⟨v,rfl,r1⟩:=r.one
  obtain rfl:=R.str r1
  exact ⟨_,rfl,fun Q h=>.inr ⟨_,rfl,h⟩⟩
 ·cases eg
def isN:D->Bool
 |.non=>true
 |_=>false
def Qph (f:Bool->Bool):D->D->Option D
 |d,.non=>some (.bl (f (isN d)))
 |_,_=>none
theorem QrS {K:PySem.W.Frag}{F:Hp}{v:L2.V}{d:D}(r:R K F v d):decide (v=.non)=isN d:=by
 cases r with
 |sc e=>cases d<;>first | (cases e;rfl) | (cases e;simp [isN]) | cases e
 |nd h q=>simp [isN]
theorem QtS {K:PySem.W.Frag}:OpD K (fun x y H Q=>y=.non/\Q (.bl (decide (x=.non))) H) (Qph id):=fun H v u d e res r q eg=>by
 unfold Qph at eg
 split at eg
 ·cases eg
  obtain rfl:=q.det_sc (w:=.non) rfl
  exact ⟨_,rfl,fun Q h=>⟨rfl,by rw [QrS r];exact h⟩⟩
 ·cases eg
end
section
def Qpa (i:Nat):ME:=fun ρ=>match ρ[i]? with
 |some (some (.own (.nd .lst ds)))=>.ok (.tup ds,ρ.set i none)
 |_=>.no
end
def Qn5 (P:Program)(w:World)(K:PySem.W.Frag)(p:Addr)(kvs:List (Key × L2.V)):Prop:=(p == sysModules)=false/\∀ h:Heap,K.In h->∃ vs,KV kvs vs/\h.DictOf (Qar P w) p vs
section
variable {X:Cx}{C:Cn}{E:XE}{pa:Bool}{o e a:Expr}{es:List Expr}{ma:ME}{pos:Pos}{k ka:Kd}{ks:List Kd}
def QsO (ty:TE)(kvs:List (Key × L2.V))(f:Bool->Bool):TE:=fun σ H Q=>ty σ H fun y H1=>∃ k,y=kV k/\Q (.bl (f (QdS kvs k).isSome)) H1
theorem Qjo {q:Addr}{kvs:List (Key × L2.V)}{x:Str}{px:Pos}{ty:TE}(W:Qn5 X.prog X.w X.K q kvs)(hm:X.mg x=some (.ref q))(hi:PE X e ty)(hg:Gl X x:=by rfl)(hdb:(x == ("__debug__" : Str))=false:=by decide):PC X .NotIn e (.Name x px) (QsO ty kvs not):=by
 intro pins s σ H Q I h
 refine thn (hi pins s σ H _ I h) fun iv s1 hz=>?_
 obtain ⟨y,H1,I1,ry,k,ey,q1⟩:=hz
 refine Qca I1 hg hm ?_ hdb
 subst ey
 obtain ⟨hd,W⟩:=W
 obtain ⟨vs,rel,dd⟩:=W _ I1.kIn
 refine wpAny_notIn_of (QfD ry) hd dd.mapOf ?_
 rw [← (rel.val k).isSome_eq]
 exact ⟨.bl (!(QdS kvs k).isSome),H1,I1.tok _,rfl,q1⟩
def Qtr (ty:TE)(kvs:List (Key × L2.V)):TE:=fun σ H Q=>ty σ H fun y H1=>∃ k v,y=kV k/\QdS kvs k=some v/\Q v H1
theorem Qog {q:Addr}{kvs:List (Key × L2.V)}{x:Str}{px:Pos}{ty:TE}(W:Qn5 X.prog X.w X.K q kvs)(hm:X.mg x=some (.ref q))(hi:PE X e ty)(hs:QqY e:=by intro _ _;rfl)(hg:Gl X x:=by rfl)(hdb:(x == ("__debug__" : Str))=false:=by decide):PE X (.Subscript (.Name x px) e pos) (Qtr ty kvs):=by
 intro pins s σ H Q I h
 refine Qja PySem.F.slot_dict_getitem.lookup hs (Qca I hg hm (thn (hi pins s σ H _ I h) fun iv s2 hz=>?_) hdb)
 obtain ⟨y,H2,I2,ry,k,v,ey,ev,q2⟩:=hz
 subst ey
 obtain ⟨hd,W⟩:=W
 obtain ⟨vs,rel,dd⟩:=W _ I2.kIn
 obtain ⟨w',hw,rw'⟩:=RelO.some_of (v:=v) (o:=valueAt vs k) (by rw [← ev];exact rel.val k)
 obtain ⟨ob,es,ep,ho,ex,_⟩:=id dd
 exact ⟨⟨ob,ho,ex.1⟩,wpAny_getItem_of (QfD ry) dd.mapOf hw ⟨v,H2,I2.tok _,rw',q2⟩⟩
def Qn4 (ks:List Key)(f:Bool->Bool)(d:D):Option D:=(Qf8 d).map fun k=>.bl (f (ks.any fun x=>decide (x=k)))
theorem Qos {kvs:List (Key × L2.V)}{f:Bool->Bool}(ok:ka.on true=true){σ:L2.St}{H:Hp}{Q:VK}(h:tX .V C pa E (mUn (Qn4 (kvs.map (·.1)) f) ma) σ H Q):QsO (tX ka C pa E ma) kvs f σ H Q:=by
 obtain ⟨F,ρ,τ,fp,I,h⟩:=h
 refine ⟨F,ρ,τ,fp,I,h.split.mono fun r1 h1 F1 H1 fp1 v1 I1 n1 f1=>?_⟩
 rw [Kd.tk_on ok] at I1
 obtain ⟨z,ez,h3⟩:=h1.of
 obtain ⟨res,eg,rfl⟩:=Option.map_eq_some_iff.mp ez
 obtain ⟨k,ek,rfl⟩:=Option.map_eq_some_iff.mp (show (Qf8 r1.1).map _=some res from eg)
 have ev:=Qd3 (R.top I1 (Kd.stay ok f1 .refl I1)) ek
 refine ⟨k,ev,?_⟩
 have e1:(QdS kvs k).isSome=(kvs.map (·.1)).any fun x=>decide (x=k):=by
  rw [← Qcs,List.any_map];rfl
 rw [e1]
 exact h3 F1 H1 fp1 _ I1 n1 (.sc rfl)
theorem QoZ {q:Addr}{kvs:List (Key × L2.V)}{x:Str}{px:Pos}(W:Qn5 X.prog X.w X.K q kvs)(hm:X.mg x=some (.ref q))(hi:PE X e (tX ka C pa E ma))(ok:ka.on true=true:=by rfl)(hmk:behindInMarks .NotIn (.Name x px)=false:=by rfl)(hg:Gl X x:=by rfl)(hdb:(x == ("__debug__" : Str))=false:=by decide) :
  PT X (.Compare e [.NotIn] [.Name x px] pos) (tT C pa E (QaE (mUn (Qn4 (kvs.map (·.1)) not) ma))):=QcM (QlD (Qjo W hm hi hg hdb) hmk) fun σ H Q h=>by
 refine Qos ok ?_
 obtain ⟨F,ρ,τ,fp,I,h⟩:=QbN (k:=.V) rfl h
 exact ⟨F,ρ,τ,fp,I,h⟩
def Qtd (ks:List Key)(as:List Addr)(d:D):Option D:=(Qf8 d).bind fun k=>Qbp ks (as.map D.cls) k
theorem Qrp {q:Addr}{ks:List Key}{as:List Addr}{x:Str}{px:Pos}(W:Qn5 X.prog X.w X.K q (ks.zip (as.map L2.V.ref)))(hm:X.mg x=some (.ref q))(hi:PE X e (tX ka C pa E ma))(ok:ka.on true=true:=by rfl)(hs:QqY e:=by intro _ _;rfl)(hg:Gl X x:=by rfl)(hdb:(x == ("__debug__" : Str))=false:=by decide) :
  PE X (.Subscript (.Name x px) e pos) (tX .V C pa E (mUn (Qtd ks as) ma)):=Qag (Qog W hm hi hs hg hdb) fun σ H Q ⟨F,ρ,τ,fp,I,h⟩=>by
 refine ⟨F,ρ,τ,fp,I,h.split.mono fun r1 h1 F1 H1 fp1 v1 I1 n1 f1=>?_⟩
 rw [Kd.tk_on ok] at I1
 obtain ⟨z,ez,h3⟩:=h1.of
 obtain ⟨res,eg,rfl⟩:=Option.map_eq_some_iff.mp ez
 obtain ⟨k,ek,el⟩:=Option.bind_eq_some_iff.mp (show (Qf8 r1.1).bind _=some res from eg)
 have rl:∀ as:List Addr,RL C.K F1 (as.map L2.V.ref) (as.map D.cls):=fun as=>by
  induction as with
  |nil=>exact .nil
  |cons a r ih=>exact .cons (.sc rfl) ih
 obtain ⟨w,hw,rw'⟩:=Qcv (rl as) el
 exact ⟨k,w,Qd3 (R.top I1 (Kd.stay ok f1 .refl I1)) ek,hw,h3 F1 H1 fp1 w I1 n1 rw'⟩
end
def WTup (K:PySem.W.Frag)(p:Addr)(ys:List Str):Prop:=∃ (o:Obj) (its:Array Value) (n:Nat),K.lookup p=some o/\o.cls=.type "tuple" /\ o.dict=none/\o.data=.seq its n/\its.size<=sizeLine/\Vals (ys.map L2.V.str) its.toList
theorem WTup.sqt {K:PySem.W.Frag}{p:Addr}{ys:List Str}{H:Hp}(h:WTup K p ys):SqT K H p (ys.map L2.V.str):=by
 obtain ⟨o,its,n,h1,h2,_,h3,h4,h5⟩:=h
 exact .inr ⟨o,its,n,h1,h2,h3,h4,h5⟩
theorem QeG:∀ ys:List Str,(ys.map L2.V.str).all Qcj=true
 | []=>rfl
 |y :: ys=>by rw [List.map_cons,List.all_cons,QeG ys];rfl
section
variable {X:Cx}{C:Cn}{E:XE}{p pa pb:Bool}{o e c:Expr}{mo:ME}{mr:MA}{ks:List Kd}
def Qe2 (z:Str)(ys:List Str):Nat:=ys.countP fun y=>decide (y=z)
theorem QgH {z:Str}:∀ {ys:List Str} {us:List Value},Vals (ys.map L2.V.str) us->us.countP (eqU (.str z))=Qe2 z ys
 | [],_,.nil=>rfl
 |y :: ys,_,.cons r t=>by
  unfold Qe2
  rw [List.countP_cons,List.countP_cons,QgH t,Qi6 r rfl]
  rfl
def Qmo (K:PySem.W.Frag):L2.V->List L2.V->Hp->VK->Prop:=fun x vs H Q=>∃ p ys z,x=.ref p/\vs=[.str z]/\WTup K p ys/\Q (.int (Qe2 z ys)) H
theorem Qif:MtR X "tuple.count" (Qmo X.K):=by
 intro pins s σ H x vs v us Q I rx rv h
 obtain ⟨p,ys,z,rfl,rfl,⟨⟨oc,od,oda,osl⟩,its,n,h1,h2,h2',h3,h4,h5⟩,q⟩:=h
 cases rx
 obtain ⟨u,rfl,ru⟩:=Qcc rv
 dsimp only at h2 h2' h3
 subst h2 h2' h3
 have ho:=I.kIn _ _ h1
 refine PySem.call_meets PySem.F.slot_tuple_count ⟨_,ho,rfl⟩ PySem.F.entry_tuple_count (PySem.F.args_tuple_count_2 _ _) (PySem.SeqAt.tuple_countAt p its n none osl u (eqU (.str z))) ⟨ho,fun y hy=>?_,?_⟩
 ·exact Qdh ru rfl h5 (QeG ys) y (Array.mem_toList_iff.mpr hy)
 ·rw [QgH h5]
  exact ⟨.int (Qe2 z ys),H,I.tok _,⟨_,rfl⟩,q⟩
def asC:D->Option Addr
 |.cls c=>some c
 |_=>none
theorem QpR {d:D}{z:Addr}(h:asC d=some z):d=.cls z:=by
 cases d<;>first | cases h;done | (cases h;rfl)
def QfP (tab:List (Addr × List Str))(mo:ME)(mr:MA):ME:=fun ρ=>(mo ρ).bind fun r1=>(Rs.of ((asC r1.1).bind fun q=>tab.lookup q)).bind fun ys=>(mr r1.2).bind fun r2=>Rs.of ((match r2.1 with | [.str z]=>some (D.int (Qe2 z ys)) | _=>none).map fun d=>(d,r2.2))
def QkC (K:PySem.W.Frag)(tab:List (Addr × List Str)):Prop:=∀ q ys,tab.lookup q=some ys->WTup K q ys
theorem QjY {tab:List (Addr × List Str)}{apos cpos:Pos}(ht:QkC X.K tab)(ho:PE X o (tX .V C pa E mo))(ha:PA X [e] (tA ks C pb E mr))(ok:rdL ks=true:=by rfl)(hbase:attributeBase o "count" X.env (eval o X.env)=eval o X.env:=by rfl)
  (hfew:((backTo cpos (starEach [e] X.env)).all (fun x=>!x.1) && (backToKw cpos (keywordEach [] X.env)).all (fun x=>x.1.isSome)
   && decide ([e].length+([]:List Keyword).length+(if ([]:List Keyword).isEmpty then 0 else 1)<30))=true:=by rfl)
  (hline:(apos.endLine == cpos.line)=true:=by rfl) (hs:starEach [e] X.env=(false,eval e X.env) :: starEach [] X.env:=by rfl) (hplain:(backTo cpos (starEach [] X.env)).any (·.1)=false:=by rfl) :
  PE X (.Call (.Attribute o "count" apos) [e] [] cpos) (tX .V C (pa && pb) E (QfP tab mo mr)):=
 Qag (Qjy PySem.F.plainAttrs_tuple PySem.F.slot_tuple_count PySem.F.type_tuple_count Qif ho ha hbase hfew hline hs hplain) fun σ H Q ⟨F,ρ,τ,fp,I,h⟩=>by
  refine ⟨F,ρ,τ,fp,I,h.split.mono fun r1 h1 F1 H1 fp1 v I1 n1 f1=>?_⟩
  obtain ⟨ys,ez,h2⟩:=h1.split.of
  obtain ⟨q,eq,el⟩:=Option.bind_eq_some_iff.mp ez
  obtain ⟨d,ρ1⟩:=r1
  obtain rfl:=QpR eq
  obtain rfl:=R.det_sc (w:=.ref q) f1 rfl
  have W:=ht q ys el
  refine ⟨?_,F1,ρ1,τ,fp1,I1,h2.split.mono fun r2 h3 F2 H2 fp2 vs I2 n2 f2=>?_⟩
  ·obtain ⟨ob,its,n,w1,w2,w3,_⟩:=W
   exact .inr (.inl ⟨rfl,ob,w1,w2,w3⟩)
  rw [QaY ok] at I2
  obtain ⟨z,ez2,h4⟩:=h3.of
  obtain ⟨res,eg,rfl⟩:=Option.map_eq_some_iff.mp ez2
  have rl:=f2.rd I2 ok
  obtain ⟨ds,ρ2⟩:=r2
  dsimp only at eg rl
  split at eg
  ·cases eg
   obtain ⟨v,rfl,r1⟩:=rl.one
   obtain rfl:=R.str r1
   exact ⟨q,ys,_,rfl,rfl,W,h4 F2 H2 fp2 _ I2 (n1.trans n2) (.sc rfl)⟩
  ·cases eg
def Qm7 (tab:List (Addr × List Str)):List D->Option D
 | [.cls q]=>(tab.lookup q).map fun ys=>.int (ys.length:Nat)
 |_=>none
theorem Qsh {tab:List (Addr × List Str)}(ht:QkC X.K tab):QcQ C.K (fun xs H Q=>∃ p ys,xs=[.ref p]/\(SqL X.K H p ys\/SqT X.K H p ys)/\Q (.int ys.length) H) (Qm7 tab):=fun H vs ds res r eg=>by
 unfold Qm7 at eg
 split at eg
 ·obtain ⟨ys,el,rfl⟩:=Option.map_eq_some_iff.mp eg
  obtain ⟨v,rfl,r1⟩:=r.one
  obtain rfl:=R.det_sc (w:=.ref _) r1 rfl
  exact ⟨_,rfl,fun Q h=>⟨_,ys.map L2.V.str,rfl,.inr (ht _ _ el).sqt,by rw [List.length_map];exact h⟩⟩
 ·cases eg
def Qq8 (q:Addr)(ys:List Str)(f:Bool->Bool):D->D->Option D
 |.str z,.cls c=>if c=q then some (.bl (f (ys.any fun y=>decide (y=z)))) else none
 |_,_=>none
theorem Qha {z:Str}:∀ ys:List Str,inV (.str z) (ys.map L2.V.str)=ys.any fun y=>decide (y=z)
 | []=>rfl
 |y :: ys=>by
  have:=Qha (z:=z) ys
  unfold inV at this ⊢
  rw [List.map_cons,List.any_cons,List.any_cons,this]
  rfl
theorem QtJ {ys:List Str}{q:Addr}(ht:WTup X.K q ys):OpD C.K (rIn X.K true) (Qq8 q ys not):=fun H v u d e res r rq eg=>by
 unfold Qq8 at eg
 split at eg
 ·split at eg
  ·rename_i hc
   cases eg
   subst hc
   obtain rfl:=R.str r
   obtain rfl:=R.det_sc (w:=.ref _) rq rfl
   exact ⟨_,rfl,fun Q h=>⟨_,_,rfl,.inr ht.sqt,rfl,QeG ys,by rw [Qha];exact h⟩⟩
  ·cases eg
 ·cases eg
end
inductive EntOk (w:World):List DictEntry->List (Key × L2.V)->List (Key × Value)->Prop
 |nil:EntOk w [] [] []
 |cons {e:DictEntry} {k:Key} {v:L2.V} {es:List DictEntry} {kvs:List (Key × L2.V)} {vs:List (Key × Value)} (h1:Qgk k e.key=true) (h2:e.hash=Qk7 w k) (h3:RelV v e.val) (r:EntOk w es kvs vs):EntOk w (e :: es) ((k,v) :: kvs) ((k,e.val) :: vs)
theorem EntOk.kv {w:World}{es:List DictEntry}{kvs:List (Key × L2.V)}{vs:List (Key × Value)}(h:EntOk w es kvs vs):KV kvs vs:=by
 induction h with
 |nil=>exact .nil
 |cons h1 h2 h3 r ih=>exact .cons ⟨rfl,h3⟩ ih
theorem EntOk.prs {P:Program}{w:World}{es:List DictEntry}{kvs:List (Key × L2.V)}{vs:List (Key × Value)}(h:EntOk w es kvs vs):Pairs (Qar P w) es vs:=by
 induction h with
 |nil=>exact .nil
 |cons h1 h2 h3 r ih=>exact .cons h1 rfl ih
theorem EntOk.keys {P:Program}{w:World}{es:List DictEntry}{kvs:List (Key × L2.V)}{vs:List (Key × Value)}(h:EntOk w es kvs vs):∀ e∈es,∃ k,(Qar P w).is k e.key=true/\e.hash=(Qar P w).hash k:=by
 induction h with
 |nil=>exact fun _ z=>nomatch z
 |cons h1 h2 h3 r ih=>
  intro e he
  rcases List.mem_cons.mp he with rfl | he
  ·exact ⟨_,h1,h2⟩
  ·exact ih e he
theorem EntOk.fst {w:World}{es:List DictEntry}{kvs:List (Key × L2.V)}{vs:List (Key × Value)}(h:EntOk w es kvs vs):vs.map (·.1)=kvs.map (·.1):=by
 induction h with
 |nil=>rfl
 |cons h1 h2 h3 r ih=>rw [List.map_cons,List.map_cons,ih]
theorem Qnz {P:Program}{w:World}{K:PySem.W.Frag}{p:Addr}{es:Array DictEntry}{ep:Nat}{kvs:List (Key × L2.V)}{vs:List (Key × Value)}(hs:(p == sysModules)=false)(hl:K.lookup p=some ⟨.type "dict",none,.dict es ep,#[]⟩)(h:EntOk w es.toList kvs vs)(nd:(kvs.map (·.1)).Nodup):Qn5 P w K p kvs:=
 ⟨hs,fun hp hin=>⟨vs,h.kv,_,es,ep,hin _ _ hl,⟨rfl,rfl,rfl⟩,rfl,fun e he=>h.keys e (Array.mem_toList_iff.mpr he),h.prs,by rw [h.fst];exact nd⟩⟩
theorem QbE {K:PySem.W.Frag}{p:Addr}{its:Array Value}{n:Nat}{sl:Array (Option Value)}{ys:List Str}(hl:K.lookup p=some ⟨.type "tuple",none,.seq its n,sl⟩)(hz:its.size<=sizeLine)(hv:Vals (ys.map L2.V.str) its.toList):WTup K p ys:=
 ⟨_,its,n,hl,rfl,rfl,rfl,hz,hv⟩
theorem QgE {K:PySem.W.Frag}:∀ {tab:List (Addr × List Str)},(∀ x∈tab,WTup K x.1 x.2)->QkC K tab
 | [],_,q,ys,e=>by cases e
 |(a,zs) :: r,h,q,ys,e=>by
  rw [List.lookup_cons] at e
  split at e
  ·rename_i hq
   cases e
   have:q=a:=by simpa using hq
   subst this
   exact h _ List.mem_cons_self
  ·exact QgE (fun x hx=>h x (List.mem_cons_of_mem _ hx)) q ys e
theorem QmG {α:Type}{P:α->Prop}:∀ d∈([]:List α),P d:=fun _ h=>nomatch h
theorem Qbr {α:Type}{P:α->Prop}{x:α}{xs:List α}(h:P x)(r:∀ d∈xs,P d):∀ d∈x :: xs,P d:=fun d hd=>by
 rcases List.mem_cons.mp hd with rfl | hd
 ·exact h
 ·exact r d hd
section
variable {s:Option Sl}{ρ ρ1 ρ2:Rho}{k:D × Rho->Prop}{ka:List D × Rho->Prop}{kf:Fl × Rho->Prop}{m:ME}{mr:MA}{d x y:D}{xs ys:List D}{i:Nat}{c:Bool}
def clK (rk:Kd)(f:List D->Fr)(r:List D × Rho):Rs (D × Rho):=match f r.1 with
 |.ok d _=>match rk with
  |.V=>if d.imm=true then .ok (d,r.2) else .no
  |_=>.ok (d,r.2)
 |.ex c=>.ex c r.2
 |.no=>.no
theorem Qnv {rk:Kd}{f:List D->Fr}:W (QaJ rk f mr (s :: ρ)) k↔W (mr (s :: ρ)) fun r=>W (clK rk f r) k:=W_bind
theorem QfN {f:List D->Fr}{os:List D}(h:f xs=.ok d os):W (clK .V f (xs,ρ)) k↔d.imm=true/\k (d,ρ):=by
 show W (match f xs with | .ok d _=>_ | .ex c=>_ | .no=>_) k↔_
 rw [h]
 show W (if d.imm=true then _ else _) k↔_
 by_cases hd:d.imm=true
 ·rw [if_pos hd];exact ⟨fun z=>⟨hd,W_ok.mp z⟩,fun z=>W_ok.mpr z.2⟩
 ·rw [if_neg hd];exact ⟨fun ⟨_,e,_⟩=>(nomatch e),fun z=>absurd z.1 hd⟩
theorem QhG {f:List D->Fr}{os:List D}(h:f xs=.ok d os):W (clK .O f (xs,ρ)) k↔k (d,ρ):=by
 show W (match f xs with | .ok d _=>_ | .ex c=>_ | .no=>_) k↔_
 rw [h];exact W_ok
def bmK (g:Str->List D->Option D)(r1:D × Rho)(z:Str)(r2:List D × Rho):Rs (D × Rho):=Rs.of ((g z r2.1).map fun d=>(d,r2.2))
theorem Qox {g:Str->List D->Option D}{z:Str}{r1:D × Rho}:bmK g r1 z (xs,ρ)=Rs.of ((g z xs).map fun d=>(d,ρ)):=rfl
theorem Qtn {g:Str->List D->Option D}:W (mBM g m mr (s :: ρ)) k↔W (m (s :: ρ)) fun r1=>W (Rs.of (asS r1.1)) fun z=>W (mr r1.2) fun r2=>W (bmK g r1 z r2) k:=by simp only [mBM,W_bind,bmK]
def dpK (i:Nat)(mk:ME)(r:D × Rho):Rs (Fl × Rho):=(Rs.of (Qhs r.2 i)).bind fun _=>(mk r.2).bind fun s=>(Rs.of (Qhs s.2 i)).bind fun q=>(Rs.of (Qf8 s.1)).bind fun k=>
 if q.2.1.length<sizeLine then (if (r.1.imm && D.immL q.2.2)=true then .ok (.nx,s.2.set i (some (mkS q.1 (.nd (.dK (QdN q.2.1 q.2.2 k r.1).1) (QdN q.2.1 q.2.2 k r.1).2)))) else .no) else .no
def QrC (i:Nat)(d:D)(t:D × Rho):Rs (Fl × Rho):=(Rs.of (Qhs t.2 i)).bind fun q=>(Rs.of (Qf8 t.1)).bind fun k=>
 if q.2.1.length<sizeLine then (if (d.imm && D.immL q.2.2)=true then .ok (.nx,t.2.set i (some (mkS q.1 (.nd (.dK (QdN q.2.1 q.2.2 k d).1) (QdN q.2.1 q.2.2 k d).2)))) else .no) else .no
theorem QlL:QrC i d (x,ρ)=(Rs.of (Qhs ρ i)).bind fun q=>(Rs.of (Qf8 x)).bind fun k=>
 if q.2.1.length<sizeLine then (if (d.imm && D.immL q.2.2)=true then .ok (.nx,ρ.set i (some (mkS q.1 (.nd (.dK (QdN q.2.1 q.2.2 k d).1) (QdN q.2.1 q.2.2 k d).2)))) else .no) else .no:=rfl
theorem Qqe {mk:ME}:W (dpK i mk (d,s :: ρ)) kf↔W (Rs.of (Qhs (s :: ρ) i)) fun _=>W (mk (s :: ρ)) fun t=>W (QrC i d t) kf:=by simp only [dpK,W_bind,QrC]
theorem Qm6 {mk:ME}:W (Qlp i m mk (s :: ρ)) kf↔W (m (s :: ρ)) fun r=>W (dpK i mk r) kf:=W_bind
theorem Qqs {kms:List (Str × ME)}:W (QkQ kms (s :: ρ)) k↔W (QhZ (kms.map (·.2)) (s :: ρ)) fun r=>W (if (kms.map (·.1)).Nodup/\kms.length<=15/\D.immL r.1=true then Rs.ok (.nd (.dK (kms.map fun km=>(Sum.inr km.1:Key))) r.1,r.2) else .no) k:=W_bind
def tvK (r:List D × Rho):Rs (D × Rho):=(Rs.of (Qhn r.1)).bind fun ds=>.ok (.tup ds,r.2)
theorem QlO:tvK ([.nd .lst xs],ρ)=.ok (.tup xs,ρ):=rfl
theorem QlU:tvK ([.nd .tup xs],ρ)=.ok (.tup xs,ρ):=rfl
theorem QoD:W (Qqo mr (s :: ρ)) k↔W (mr (s :: ρ)) fun r=>W (tvK r) k:=W_bind
def exK (i:Nat)(r:D × Rho):Rs (Fl × Rho):=(Rs.of (Qd8 r.2 i)).bind fun q=>(Rs.of (asL r.1)).bind fun ds=>if q.2.length+ds.length<=sizeLine then .ok (.nx,r.2.set i (some (mkS q.1 (.lst (q.2++ds))))) else .no
theorem Qom:exK i (d,ρ)=(Rs.of (Qd8 ρ i)).bind fun q=>(Rs.of (asL d)).bind fun ds=>if q.2.length+ds.length<=sizeLine then .ok (.nx,ρ.set i (some (mkS q.1 (.lst (q.2++ds))))) else .no:=rfl
theorem QrW:W (QsM i m (s :: ρ)) kf↔W (Rs.of (Qd8 (s :: ρ) i)) fun _=>W (m (s :: ρ)) fun r=>W (exK i r) kf:=by simp only [QsM,W_bind,exK]
def cK (par:Bool)(as:List (Option Nat))(f:List D->Fr)(r:List D × Rho):Rs (D × Rho):=(Rs.of (QbX par r.2 (as.filterMap id))).bind fun dis=>match f (QkG as r.1 dis) with
 |.ok d outs=>.ok (d,QbA par r.2 (as.filterMap id) outs)
 |.ex c=>if (as.filterMap id).isEmpty=true then .ex c r.2 else .no
 |.no=>.no
theorem QoR {par:Bool}{as:List (Option Nat)}{f:List D->Fr}:W (Qi4 par as f mr (s :: ρ)) k↔W (mr (s :: ρ)) fun r=>W (cK par as f r) k:=W_bind
theorem QsW {par:Bool}{as:List (Option Nat)}{f:List D->Fr}{args dis:List D}{P:D->List D->Prop}(h2:QbX par ρ (as.filterMap id)=some dis)(h3:FW (f (QkG as args dis)) P)(h4:∀ d os,P d os->k (d,QbA par ρ (as.filterMap id) os)):W (cK par as f (args,ρ)) k:=by
 obtain ⟨d,os,e,p⟩:=h3
 refine ⟨_,?_,h4 d os p⟩
 unfold cK
 rw [h2]
 show (match f (QkG as args dis) with | .ok d outs=>_ | .ex c=>_ | .no=>_)=_
 rw [e]
theorem Qky {par:Bool}{i:Nat}{f:List D->Fr}{p0 p:D}{P:D->List D->Prop}(hi:ρ[i]? = some (some (mkS par p)))(h3:FW (f [p]) P)(h4:∀ d os,P d os->∃ q,os=[q]/\k (d,ρ.set i (some (mkS par q)))):W (cK par [some i] f ([p0],ρ)) k:=by
 refine QsW (dis:=[p]) ?_ h3 fun d os h=>?_
 ·show QbX par ρ [i]=_
  unfold QbX QbX;rw [hi];cases par<;>rfl
 ·obtain ⟨q,rfl,h5⟩:=h4 d os h;exact h5
theorem Qp7 {par:Bool}{i:Nat}{f:List D->Fr}{p0 p x:D}{P:D->List D->Prop}(hi:ρ[i]? = some (some (mkS par p)))(h3:FW (f [p,x]) P)(h4:∀ d os,P d os->∃ q,os=[q]/\k (d,ρ.set i (some (mkS par q)))):W (cK par [some i,none] f ([p0,x],ρ)) k:=by
 refine QsW (dis:=[p]) ?_ h3 fun d os h=>?_
 ·show QbX par ρ [i]=_
  unfold QbX QbX;rw [hi];cases par<;>rfl
 ·obtain ⟨q,rfl,h5⟩:=h4 d os h;exact h5
theorem QrX {rk:Kd}{f:List D->Fr}{P:D->List D->Prop}(h3:FW (f xs) P)(h4:∀ d os,P d os->(rk=.V->d.imm=true)/\k (d,ρ)):W (clK rk f (xs,ρ)) k:=by
 obtain ⟨d,os,e,p⟩:=h3
 refine ⟨_,?_,(h4 d os p).2⟩
 unfold clK
 dsimp only
 rw [e]
 cases rk with
 |V=>show (if d.imm=true then _ else _)=_;rw [if_pos ((h4 d os p).1 rfl)]
 |O=>rfl
 |B=>rfl
 |S i=>rfl
def flK (tg:D->Rho->Option Rho)(mb:MS)(r:List D × Rho):Rs (Fl × Rho):=QfG tg mb r.1 r.2
theorem Qr9 {mi:MA}{tg:D->Rho->Option Rho}{mb:MS}:W (Qrb mi tg mb (s :: ρ)) kf↔W (mi (s :: ρ)) fun r=>W (flK tg mb r) kf:=W_bind
theorem Qpv {tg:D->Rho->Option Rho}{mb:MS}{ds:List D}(Inv:Nat->Rho->Prop)(i:Inv 0 ρ)(step:∀ i d ρ,ds[i]? = some d->Inv i ρ->∃ ρ1,tg d ρ=some ρ1/\W (mb ρ1) fun r=>r.1=.nx/\Inv (i+1) r.2)
  (hk:∀ ρ',Inv ds.length ρ'->kf (.nx,ρ')):W (flK tg mb (ds,ρ)) kf:=by
 have:=Qlv Inv step ds.length 0 ρ (by simp) (Nat.zero_le _) i hk
 rw [List.drop_zero] at this
 exact this
def fnK (tg:D->Rho->Option Rho)(mb:MS)(ds:List D)(r:Fl × Rho):Rs (Fl × Rho):=match r.1 with
  |.nx=>QfG tg mb ds r.2
  |.ct=>QfG tg mb ds r.2
  |.bk=>.ok (.nx,r.2)
  |.rt d=>.ok (.rt d,r.2)
theorem Qpp {tg:D->Rho->Option Rho}{mb:MS}:fnK tg mb xs (.nx,ρ)=flK tg mb (xs,ρ):=rfl
theorem QpS {tg:D->Rho->Option Rho}{mb:MS}:fnK tg mb xs (.rt d,ρ)=.ok (.rt d,ρ):=rfl
def rgK (r:List D × Rho):Rs (List D × Rho):=(Rs.of (Qjs r.1)).bind fun n=>.ok ((List.range n.toNat).map fun j=>.int ((0:Int)+(j:Nat)),r.2)
theorem QpQ {n:Int}:rgK ([.int n],ρ)=if -4611686018427387904<=n/\n<4611686018427387904 then .ok ((List.range n.toNat).map fun j=>.int ((0:Int)+(j:Nat)),ρ) else .no:=by
 have e:(2:Int) ^ 62=4611686018427387904:=by decide
 show (Rs.of (if -(2 ^ 62)<=n/\n<2 ^ 62 then some n else none)).bind _=_
 rw [e]
 split<;>rfl
theorem Qny:liK ([.nd .tup xs],ρ)=if D.immL xs=true then .ok (.lst xs,ρ) else .no:=rfl
def toK (o:Option (Option Sl))(i:Nat)(ρ:Rho):Rs (D × Rho):=match o with
 |some (some (.own (.nd .lst ds)))=>.ok (.tup ds,ρ.set i none)
 |_=>.no
theorem Qnn:toK (some (some (.own (.nd .lst xs)))) i ρ=.ok (.tup xs,ρ.set i none):=rfl
theorem QnL:W (Qpa i (s :: ρ)) k↔W (toK ((s :: ρ)[i]?) i (s :: ρ)) k:=Iff.rfl
def spK (z:Str)(r2:List D × Rho):Rs (D × Rho):=(Rs.of (match r2.1 with | [.str y]=>if (y.length == 0)=false/\z.length+2<=sizeLine/\(PySem.Txt.split z y).length<=sizeLine then some (PySem.Txt.split z y) else none | _=>none)).bind fun ys=>.ok (.lst (ys.map D.str),r2.2)
theorem QlI {z y:Str}{ws:List Str}(h:PySem.Txt.split z y=ws)(h1:(y.length == 0)=false)(h2:z.length+2<=sizeLine)(h3:ws.length<=sizeLine):spK z ([.str y],ρ)=.ok (.lst (ws.map D.str),ρ):=by
 show (Rs.of (if (y.length == 0)=false/\z.length+2<=sizeLine/\(PySem.Txt.split z y).length<=sizeLine then some (PySem.Txt.split z y) else none)).bind _=_
 rw [h,if_pos ⟨h1,h2,h3⟩];rfl
theorem QlZ:W (Qa7 m mr (s :: ρ)) k↔W (m (s :: ρ)) fun r1=>W (Rs.of (asS r1.1)) fun z=>W (mr r1.2) fun r2=>W (spK z r2) k:=by simp only [Qa7,W_bind,spK];try exact Iff.rfl
def Qry (ys:List Str)(r2:List D × Rho):Rs (D × Rho):=Rs.of ((match r2.1 with | [.str z]=>some (D.int (Qe2 z ys)) | _=>none).map fun d=>(d,r2.2))
theorem Qmg {ys:List Str}{z:Str}:Qry ys ([.str z],ρ)=.ok (.int (Qe2 z ys),ρ):=rfl
theorem Qkn {tab:List (Addr × List Str)}:W (QfP tab m mr (s :: ρ)) k↔W (m (s :: ρ)) fun r1=>W (Rs.of ((asC r1.1).bind fun q=>tab.lookup q)) fun ys=>W (mr r1.2) fun r2=>W (Qry ys r2) k:=by simp only [QfP,W_bind,Qry];try exact Iff.rfl
theorem QqW:W (QpU mr (s :: ρ)) ka↔W (mr (s :: ρ)) fun r=>W (rgK r) ka:=W_bind
def siK (r:D × Rho):Rs (List D × Rho):=(Rs.of (Qhn [r.1])).bind fun ds=>.ok (ds,r.2)
theorem Qnq:siK (.nd .lst xs,ρ)=.ok (xs,ρ):=rfl
theorem Qno:siK (.nd .tup xs,ρ)=.ok (xs,ρ):=rfl
theorem Qqh:W (QbV m (s :: ρ)) ka↔W (m (s :: ρ)) fun r=>W (siK r) ka:=W_bind
def enK (r:List D × Rho):Rs (List D × Rho):=(Rs.of (Qhn r.1)).bind fun ds=>.ok (Qeo ds,r.2)
theorem Qmw:enK ([.nd .lst xs],ρ)=.ok (Qeo xs,ρ):=rfl
theorem QnV:enK ([.nd .tup xs],ρ)=.ok (Qeo xs,ρ):=rfl
theorem Qon:W (QkP mr (s :: ρ)) ka↔W (mr (s :: ρ)) fun r=>W (enK r) ka:=W_bind
def stK (r:D × Rho):Rs (List D × Rho):=(Rs.of (asS r.1)).bind fun z=>.ok (QbB z,r.2)
theorem Qov {z:Str}:stK (.str z,ρ)=.ok (QbB z,ρ):=rfl
theorem Qqw:W (Qic m (s :: ρ)) ka↔W (m (s :: ρ)) fun r=>W (stK r) ka:=W_bind
def cmK (par:Bool)(cs:List Cp)(j:Nat)(tc:MT)(te:ME)(r:List D × Rho):Rs (D × Rho):=(Rs.of (QbX par r.2 (cs.filterMap Cp.is))).bind fun di=>(Rs.of (Qc3 r.2 cs di)).bind fun ρb=>
 match QcR j tc te r.1 ρb [] with
 |.ok q=>(Rs.of (outs (ioB cs) q.2)).bind fun os=>.ok (.lst q.1,QbA par r.2 (cs.filterMap Cp.is) os)
 |_=>.no
theorem Qpg {par:Bool}{cs:List Cp}{j:Nat}{mi:MA}{tc:MT}{te:ME}:W (Qa5 par cs j mi tc te (s :: ρ)) k↔W (mi (s :: ρ)) fun r=>W (cmK par cs j tc te r) k:=W_bind
theorem QpJ {par:Bool}{cs:List Cp}{j:Nat}{tc:MT}{te:ME}{ρb:Rho}{ds di:List D}{Inv:Rho->Prop}{Pd:D->D->Prop}(h2:QbX par ρ (cs.filterMap Cp.is)=some di)(h3:Qc3 ρ cs di=some ρb)
  (hs:∀ d∈ds,∀ ρ,Inv ρ->∃ ρ0,setF ρ j d=some ρ0/\W (tc ρ0) fun c=>c.1=true/\W (te c.2) fun r=>Inv (r.2.set j none)/\Pd d r.1) (i:Inv ρb) (l:ds.length<=sizeLine)
  (hk:∀ ys ρ2,Inv ρ2->Fa2 Pd ds ys->∃ os,outs (ioB cs) ρ2=some os/\k (.lst ys,QbA par ρ (cs.filterMap Cp.is) os)):W (cmK par cs j tc te (ds,ρ)) k:=by
 have:=Qo7 (par:=par) (cs:=cs) (j:=j) (mi:=fun ρ=>.ok (ds,ρ)) (ρ:=ρ) rfl h2 h3 hs i l hk
 exact this
theorem Qkb {par:Bool}{cs:List Cp}{j:Nat}{te:ME}{ρb:Rho}{ds di os:List D}{g:D->D}(h2:QbX par ρ (cs.filterMap Cp.is)=some di)(h3:Qc3 ρ cs di=some ρb)
  (hs:∀ d∈ds,∃ ρ0,setF ρb j d=some ρ0/\te ρ0=.ok (g d,ρ0)/\ρ0.set j none=ρb) (l:ds.length<=sizeLine) (ho:outs (ioB cs) ρb=some os) (hp:QbA par ρ (cs.filterMap Cp.is) os=ρ) (hk:k (.lst (ds.map g),ρ)):W (cmK par cs j Qhv te (ds,ρ)) k:=by
 have:=QcG (par:=par) (cs:=cs) (j:=j) (mi:=fun ρ=>.ok (ds,ρ)) (ρ:=ρ) rfl h2 h3 hs l ho hp
 exact ⟨_,this,hk⟩
theorem QdH {f:D->D->Option Bool}:∀ {ds:List D},(∀ d∈ds,f d d=some true)->QdK f ds ds=some true
 | [],_=>rfl
 |d :: ds,h=>by
  rw [QdK,h d List.mem_cons_self,QdH fun x hx=>h x (List.mem_cons_of_mem _ hx)];rfl
def D.pln:Nat->D->Bool
 |0,_=>false
 |n+1,.nd .lst ds=>ds.all (D.pln n)
 |n+1,.nd .tup ds=>ds.all (D.pln n)
 |_+1,.int _=>true
 |_+1,.str _=>true
 |_+1,.bl _=>true
 |_+1,.non=>true
 |_,_=>false
theorem Qdi:∀ (n:Nat) (d:D),d.pln n=true->eqb n d d=some true
 |0,_,h=>absurd (show false=true from h) (by decide)
 |n+1,.nd .lst ds,h=>by
  show (if ds.length=ds.length then QdK (eqb n) ds ds else _)=_
  rw [if_pos rfl]
  exact QdH fun d hd=>Qdi n d (List.all_eq_true.mp h d hd)
 |n+1,.nd .tup ds,h=>by
  show (if ds.length=ds.length then QdK (eqb n) ds ds else _)=_
  rw [if_pos rfl]
  exact QdH fun d hd=>Qdi n d (List.all_eq_true.mp h d hd)
 |n+1,.int i,_=>by show eqS (V.int i) (V.int i)=_;unfold eqS;rw [if_pos (by rfl)];simp
 |n+1,.str i,_=>by show eqS (V.str i) (V.str i)=_;unfold eqS;rw [if_pos (by rfl)];simp
 |n+1,.bl i,_=>by show eqS (V.bl i) (V.bl i)=_;unfold eqS;rw [if_pos (by cases i<;>rfl)];simp
 |n+1,.non,_=>by show eqS (V.non) (V.non)=_;unfold eqS;rw [if_pos (by rfl)];simp
 |n+1,.nd (.ins _ _) _,h=>absurd (show false=true from h) (by decide)
 |n+1,.nd (.dT _) _,h=>absurd (show false=true from h) (by decide)
 |n+1,.nd (.dK _) _,h=>absurd (show false=true from h) (by decide)
 |n+1,.nd (.exc _) _,h=>absurd (show false=true from h) (by decide)
 |n+1,.ty _,h=>absurd (show false=true from h) (by decide)
 |n+1,.cls _,h=>absurd (show false=true from h) (by decide)
theorem Qkx {d:D}(h:d.pln 30=true):gEq d d=some (.bl true):=by
 show (eqb 30 d d).map _=_
 rw [Qdi 30 d h];rfl
theorem Qee {d:D}(h:d.pln 30=true):gNe d d=some (.bl false):=by
 show (eqb 30 d d).map _=_
 rw [Qdi 30 d h];rfl
end
section
variable {m:ME}{n:Nat}{nm f:Str}{k:Addr}
def QmX:List Str->List D->Str->Option D
 |n :: ns,d :: ds,f=>if (f == n)=true then some d else QmX ns ds f
 |_,_,_=>none
def Qtp (k:Addr)(f:Str):D->Option D
 |.nd (.ins k' ns) ds=>if k'=k then QmX ns ds f else none
 |_=>none
def QmQ (k:Addr)(nm:Str):D->Bool
 |.nd (.ins k' ns) _=>decide (k'=k) && ns.all (fun n=>!(nm == n))
 |_=>false
def QtQ (k:Addr)(nm:Str)(m:ME):ME:=fun ρ=>(m ρ).bind fun r=>if QmQ k nm r.1=true then .ok r else .no
end
section
variable {X:Cx}{C:Cn}{E:XE}{p:Bool}{e:Expr}{m:ME}{pos:Pos}{rk:Kd}{f:Str}
def QsB (tg:D->Rho->Option Rho)(m:ME):MS:=fun ρ=>(m ρ).bind fun r=>(Rs.of (tg r.1 r.2)).bind fun ρ'=>.ok (.nx,ρ')
theorem Qr6 {tge:Expr}{g:TG}{tg:D->Rho->Option Rho}(hg:PG X tge g)(gd:GD C g tg)(he:PE X e (tX .V C p E m))(hs:swapsWithSole [tge] e pos.line X.env=pure false:=by rfl)(hw:swappedStores [tge] e X.env=pure none:=by rfl)(h1:(assignEach [tge] X.env).map (·.2)=[assign tge X.env]:=by rfl) :
  PS X (.Assign [tge] e pos) (tS rk C E (QsB tg m)):=Qa3 (QqZ he hg hs hw h1) fun D σ H ⟨F,ρ,fp,I,h⟩=>by
 refine ⟨F,ρ,[],fp,I,h.split.run.mono fun r hr F1 H1 fp1 v I1 n1 f1=>?_⟩
 obtain ⟨ρ',e1,h2⟩:=hr.split.of
 exact gd F1 H1 σ r.2 [] fp1 v r.1 ρ' I1 f1 e1 _ fun σ' fp' J _=>h2 F1 H1 σ' fp' n1.f J
end
end TL
namespace TL
open PySem PySem.Spec L2 L2.Srt
section
variable {α:Type}{lt:α->α->Bool}
def QsQ (lt:α->α->Bool)(x:α):List α->List α
 | []=>[x]
 |y :: ys=>if lt x y=true then x :: y :: ys else y :: QsQ lt x ys
noncomputable def Qq5 (lt:α->α->Bool):List α->List α
 | []=>[]
 |x :: xs=>QsQ lt x (Qq5 lt xs)
end
def npD (x:NP):D:=.tup [.int x.1,pl x.2]
def pnD (x:PN):D:=.tup [pl x.1,.int x.2]
def QtB:D->Option NP
 |.nd .tup [.int n,.nd .tup [.int a,.int b]]=>some (n,(a,b))
 |_=>none
def npL:List D->Option (List NP)
 | []=>some []
 |d :: ds=>(QtB d).bind fun x=>(npL ds).map (x :: ·)
section
variable {a b:Expr}{m:ME}{mr:MA}{ks:List Kd}
def QiS:List D->Option (List NP)
 | [.nd .lst ds]=>(npL ds).bind fun ps=>if ps.Nodup/\ps.length<=4000 then some (Qq5 Qtz ps) else none
 |_=>none
def Qqa (mr:MA):ME:=fun ρ=>(mr ρ).bind fun r=>(Rs.of (QiS r.1)).bind fun ps=>.ok (.lst (ps.map npD),r.2)
def Qty:List Key->Option (Int × Int)
 | [.inl a,.inl b]=>some (a,b)
 |_=>none
noncomputable def Qlj:List (List Key)->List D->Option (List PN)
 | [],[]=>some []
 |k :: ks,.int n :: ds=>(Qty k).bind fun q=>(Qlj ks ds).map ((q,n) :: ·)
 |_,_=>none
def Qiu:D->Option (List PN)
 |.nd (.dT ks) ds=>Qlj ks ds
 |_=>none
def Qo3 (m:ME):ME:=fun ρ=>(m ρ).bind fun r=>(Rs.of (Qiu r.1)).bind fun ps=>if ps.length<=4000 then .ok (.lst ((Qq5 Qtc ps).map pnD),r.2) else .no
end
end TL
namespace TL
open PySem PySem.Spec L2
def QsH (m:ME):MA:=fun ρ=>(m ρ).bind fun r=>(Rs.of (Qhn [r.1])).bind fun ds=>if D.immL ds=true then .ok (ds,r.2) else .no
def QgW (tc:MT)(te:ME):List D->Rho->List D->Rs (List D × Rho)
 | [],ρ,acc=>.ok (acc,ρ)
 |d :: ds,ρ,acc=>(Rs.of (QhM 0 1 d ρ)).bind fun ρ0=>(tc ρ0).bind fun c=>if c.1=true then (te c.2).bind fun r=>if acc.length<sizeLine then QgW tc te ds ((r.2.set 1 none).set 0 none) (acc++[r.1]) else .no
  else QgW tc te ds ((c.2.set 1 none).set 0 none) acc
def Qpd (par:Bool)(cs:List Cp)(mi:MA)(tc:MT)(te:ME):ME:=fun ρ=>(mi ρ).bind fun r=>(Rs.of (QbX par r.2 (cs.filterMap Cp.is))).bind fun di=>(Rs.of (Qc3 r.2 cs di)).bind fun ρb=>
 match QgW tc te r.1 ρb [] with
 |.ok q=>(Rs.of (outs (ioB cs) q.2)).bind fun os=>.ok (.lst q.1,QbA par r.2 (cs.filterMap Cp.is) os)
 |_=>.no
end TL
namespace TL
open PySem PySem.Spec L2 PyProof.Rows
section
variable {m:ME}{mr:MA}
def QoE (mr:MA):ME:=fun ρ=>(mr ρ).bind fun r=>(Rs.of (Qjs r.1)).bind fun n=>if n.toNat<=2 ^ 24 then .ok (.lst (Qs8 0 n.toNat),r.2) else .no
def Qsr (m:ME):ME:=fun ρ=>(m ρ).bind fun r=>(Rs.of (asL r.1)).bind fun xs=>if D.immL xs.reverse=true then .ok (.lst xs.reverse,r.2) else .no
end
end TL
namespace TL
open PySem PySem.Spec L2
section
variable {P:Program}{w:World}{K:PySem.W.Frag}{mg:Str->Option Value}{base:Heap}{x qual:Str}{st:Stmt}{f:Addr}{fd:FuncData}{N ps:List Str}{k:Nat}
theorem fnU {io:List Bool}{rk:Kd}{mb:MS}(Fn:Fun K x qual st f fd)(S:QcS N ps (Qal st))(hio:io.length=ps.length)(hrk:rk=.V\/rk=.O)
  (hbody:∀ {cdv:Value} {A:Around} {outer:List Env} {s:Shared} {H:Hp} {E:XK} {C:Cn},C.K=K->Room k (A.deeper (PyProof.Rows.envOfC qual (Qal st) s.heap.objs.size f cdv))->A.handled=none->N.Nodup->PassesOwn (model P w) (A.deeper (PyProof.Rows.envOfC qual (Qal st) s.heap.objs.size f cdv)) (PyProof.Rows.envOfC qual (Qal st) s.heap.objs.size f cdv) (Qb3 (CXe P w) P w K mg base N qual (Qal st) f cdv A outer s H E).xe->
   PSs (Qb3 (CXe P w) P w K mg base N qual (Qal st) f cdv A outer s H E) (Qbc st) (tS rk C (fun _=>E) mb)):FnOk P w K mg base (CXe P w) (k+1) f fd ps (spF K io rk (QcJ io N.length mb)):=
 fnT Fn S hio hrk fun _ _ _ _ _ _ _ hC hr hd=>hbody hC hr hd S.nd QtI
end
section
variable {X:Cx}{C:Cn}
def QfW (K:PySem.W.Frag):List D->Option D
 | [.nd (.exc c) _,.cls C]=>(PySem.W.kitOne K (.ref c) (.ref C)).bind fun b=>if b=true\/Qba K c=true then some (.bl b) else none
 | [.nd (.exc c) _,.ty n]=>(PySem.W.kitOne K (.ref c) (.type n)).bind fun b=>if b=true\/Qba K c=true then some (.bl b) else none
 |_=>none
theorem QrB (hK:C.K=X.K):QcQ C.K (QpG X.K) (QfW X.K):=fun H vs ds res r eg=>by
 unfold QfW at eg
 split at eg
 ·next c _ C'=>
  obtain ⟨v,u,rfl,h1,h2⟩:=r.two
  obtain ⟨a,us,rfl,g1,g2⟩:=h1.inv
  obtain rfl:=h2.det_sc (w:=.ref C') rfl
  obtain ⟨b,eb,e2⟩:=Option.bind_eq_some_iff.mp eg
  split at e2
  ·next k=>
   cases e2
   exact ⟨_,rfl,fun Q hq=>⟨a,c,_,_,b,rfl,rfl,g1.elim (fun z=>⟨_,z.2⟩) (fun ⟨_,_,_,z,_⟩=>⟨_,z⟩),eb,fun z=>k.resolve_left (by rw [z];decide),hq⟩⟩
  ·cases e2
 ·next c _ n=>
  obtain ⟨v,u,rfl,h1,h2⟩:=r.two
  obtain ⟨a,us,rfl,g1,g2⟩:=h1.inv
  obtain rfl:=h2.det_sc (w:=.ty n) rfl
  obtain ⟨b,eb,e2⟩:=Option.bind_eq_some_iff.mp eg
  split at e2
  ·next k=>
   cases e2
   exact ⟨_,rfl,fun Q hq=>⟨a,c,_,_,b,rfl,rfl,g1.elim (fun z=>⟨_,z.2⟩) (fun ⟨_,_,_,z,_⟩=>⟨_,z⟩),eb,fun z=>k.resolve_left (by rw [z];decide),hq⟩⟩
  ·cases e2
 ·cases eg
end
section
variable {X:Cx}{C:Cn}{E:XE}{k:Kd}{ks:List Kd}{pa pb:Bool}{m:ME}{mr:MA}{es:List Expr}{p:Pos}
theorem QaB {c:Const}{j:Nat}(ha:PE X (.Constant c j p) (tX k C pa E m))(hr:PA X es (tA ks C pb E mr))(ok:k.ona pb=true:=by rfl):PA X (.Constant c j p :: es) (tA (k :: ks) C (pa && pb) E (Qai m mr)):=Qaa ha hr ok rfl
theorem Qr8 {l:List Expr}{j:Nat}(ha:PE X (.Tuple l j p) (tX k C pa E m))(hr:PA X es (tA ks C pb E mr))(ok:k.ona pb=true:=by rfl):PA X (.Tuple l j p :: es) (tA (k :: ks) C (pa && pb) E (Qai m mr)):=Qaa ha hr ok rfl
theorem Qn0 {a b:Expr}{o:Operator}(ha:PE X (.BinOp a o b p) (tX k C pa E m))(hr:PA X es (tA ks C pb E mr))(ok:k.ona pb=true:=by rfl):PA X (.BinOp a o b p :: es) (tA (k :: ks) C (pa && pb) E (Qai m mr)):=Qaa ha hr ok rfl
theorem Qt0 {a:Expr}{o:UnaryOp}(ha:PE X (.UnaryOp o a p) (tX k C pa E m))(hr:PA X es (tA ks C pb E mr))(ok:k.ona pb=true:=by rfl):PA X (.UnaryOp o a p :: es) (tA (k :: ks) C (pa && pb) E (Qai m mr)):=Qaa ha hr ok rfl
theorem QpH {rk:Kd}{K:PySem.W.Frag}{body:List Stmt}{h₀:ExceptHandler}{hr:List ExceptHandler}{ms:MS}{hs:List (Addr × Nat × MS)}(eK:X.K=K)(hK:C.K=X.K)(d:IsDef X)(ph:PHA X (h₀ :: hr) (hdl rk C hs))
  (hb:∀ C':Cn,C'.K=X.K->∀ (E:XE) (pins:List (Addr × Obj)) (D:Ends),QeJ (X.tryc (h₀ :: hr) pins D) E->PSs (X.tryc (h₀ :: hr) pins D) body (tS rk C' E ms)):PS X (.Try body (h₀ :: hr) [] [] p) (tS rk C E (QnF K ms hs)):=eK▸QrM hK d ph hb
end
structure Y where
 P:Program
 w:World
 mg:Str->Option Value
 base:Heap
abbrev Df (K:PySem.W.Frag)(Cy:Y->Prop)(nm q:Str)(st:Stmt)(lv:Nat)(ps:List Str)(io:List Bool)(rk:Kd)(n:Nat)(Hy:Y->Prop->Prop):Type:=
 {m:MS // ∀ {y:Y} {f:Addr} {fd:FuncData},Cy y->Fun K nm q st f fd->Hy y (FnOk y.P y.w K y.mg y.base (CXe y.P y.w) lv f fd ps (spF K io rk (QcJ io n m)))}
abbrev Dg (K:PySem.W.Frag)(Cy:Y->Prop)(nm:Str)(st:Stmt)(lv:Nat)(ps:List Str)(io:List Bool)(rk:Kd)(n:Nat)(Hy:Y->Prop->Prop):Type:=Df K Cy nm nm st lv ps io rk n Hy
section
variable {K:PySem.W.Frag}{Cy:Y->Prop}{nm q:Str}{st:Stmt}{lv:Nat}{ps:List Str}{io:List Bool}{rk:Kd}{n:Nat}{Hy:Y->Prop->Prop}{c:Addr}
def dfn (d:Df K Cy nm q st lv ps io rk n Hy):List D->Fr:=QcJ io n d.1
abbrev Tf (K:PySem.W.Frag)(y:Y)(lv:Nat)(nm:Str)(ps:List Str)(io:List Bool)(rk:Kd)(f:List D->Fr):Prop:=QcO y.P y.w K y.mg y.base lv nm ps (spF K io rk f)
def Nf (K:PySem.W.Frag)(nm q:Str)(st:Stmt):Prop:=∃ f fd,PySem.W.nsIn K mainGlobals nm=some (some (.ref f))/\Fun K nm q st f fd
abbrev Bn (K:PySem.W.Frag)(nm q:Str)(st:Stmt)(ps:List Str):Prop:=∀ (kV doc pm:Value) (an:Option Addr) (cdv ct:Value) (us:List Value),us.length=ps.length->bindArgs (PySem.W.fnOf nm q (QcN st) (Qbc st) (Qal st) .none kV doc pm an cdv ct) ⟨us,[]⟩=pure (ps.zip us)
variable {y:Y}{h:Heap}
theorem Qfe (X:K.In h)(G:h.Ns mainGlobals y.mg)(c:Cy y)(a:Nf K nm q st)(d:Df K Cy nm q st lv ps io rk n Hy)(b:Bn K nm q st ps)(g:∀ R,Hy y R->R):Tf K y lv nm ps io rk (dfn d):=
 let ⟨f,fd,e,F⟩:=a;⟨f,fd,g _ (d.2 c F),PySem.W.mg_of X G e,F.kp,F.binds b⟩
end
theorem ar0 {P:List Value->Prop}(h:P []):∀ us,us.length=0->P us:=fun us e=>by rw [List.length_eq_zero_iff.mp e];exact h
theorem arS {n:Nat}{P:List Value->Prop}(h:∀ a us,us.length=n->P (a :: us)):∀ us,us.length=n+1->P us:=fun us e=>by cases us with
 |nil=>cases e
 |cons a us=>exact h a us (Nat.succ.inj e)
theorem ar1 {P:List Value->Prop}(h:∀ a0,P [a0]):∀ us,us.length=1->P us:=arS fun a=>ar0 (h a)
theorem ar2 {P:List Value->Prop}(h:∀ a0 a1,P [a0,a1]):∀ us,us.length=2->P us:=arS fun a=>ar1 (h a)
def Qiw (K:PySem.W.Frag):Sp:=fun vs H Q _=>∃ (a:Addr) (ns:List Int),vs=[.ref a]/\SqL K H a (ns.map V.int)/\∀ H',Q (.bl true) H'
theorem Qjz {K:PySem.W.Frag}{F:Hp}:∀ (ns:List Int),RL K F (ns.map V.int) (ns.map D.int)
 | []=>.nil
 |a :: l=>.cons (.sc rfl) (Qjz l)
theorem Qot {K:PySem.W.Frag}{f:List D->Fr}(e:∀ ns:List Int,f [.lst (ns.map .int)]=.ok (.bl true) [])(vs:List L2.V)(H:Hp)(Q:VK)(E:XK)(h:Qiw K vs H Q E):spF K [false] .V f vs H Q E:=by
 obtain ⟨a,ns,rfl,hs,hq⟩:=h
 refine ⟨H,[.lst (ns.map .int)],[],.val (.nd (t:=.lst) hs (Qjz ns)) .nil,List.nodup_nil,(fun _ z=>nomatch z),Same.refl H,?_⟩
 rw [e ns]
 intro F' H' v fr fo _ _ _ _ _ r _ _ _ _ _
 obtain rfl:=r.1.det_sc (w:=.bl true) rfl
 exact hq H'
theorem QqB {l:PySem.W.OpenLaw}{w:World}{K:PySem.W.Frag}{h:Heap}{mg:Str->Option Value}{fa:Addr}{st:Stmt}{lv n:Nat}{Cy:Y->Prop}{Hy:Y->Prop->Prop}(X:K.In h)(G:h.Ns mainGlobals mg)(hfa:mg "law" = some (.ref fa))(a:Nf K "law" "law" st)(d:Df K Cy "law" "law" st lv ["_law_script"] [false] .V n Hy)
  (c:∀ base,Cy ⟨l.prog,w,mg,base⟩) (g:∀ base R,Hy ⟨l.prog,w,mg,base⟩ R->R) (e:∀ ns:List Int,dfn d [.lst (ns.map .int)]=.ok (.bl true) []) (b:∀ (kV dc pm:Value) (an:Option Addr) (cd ct:Value) (s:Shared) (v:Value),BindsTo s (PySem.W.fnOf "law" "law" (QcN st) (Qbc st) (Qal st) .none kV dc pm an cd ct) ⟨[v],[]⟩ [("_law_script",v)]) :
  ∃ fd:FuncData,(∀ (s:Shared) (v:Value),BindsTo s fd ⟨[v],[]⟩ [("_law_script",v)])/\∀ base:Heap,K.In base->base.Ns mainGlobals mg->FnOk l.prog w K mg base (CXe l.prog w) lv fa fd ["_law_script"] (Qiw K):=by
 obtain ⟨f,fd,e1,F⟩:=a
 cases hfa.symm.trans (PySem.W.mg_of X G e1)
 obtain ⟨_,_,kV,dc,pm,an,cd,ct,_,rfl,_⟩:=F.ex
 exact ⟨_,b kV dc pm an cd ct,fun base _ _=>(g base _ (d.2 (c base) F)).imp fun vs H Q E hh=>Qot e vs H Q E hh⟩
theorem walk {l:PySem.W.OpenLaw}{q:Program}{loose:List Str}{XP:(Str->Option Value)->Heap->Prop}{YP:World->Heap->Prop}{d:DefRec}{K:Params->PySem.W.Frag}{k:Nat}(hr:Room k callerA)(hn:l.most=some 63)(hdf:d.params.defaults=[])
  (hY:∀ (w:World) (h:Heap),YP w h->(K w.params).In h)
  (F:∀ (w:World) (mg:Str->Option Value) (fa:Addr) (h:Heap),(K w.params).In h->h.Ns mainGlobals mg->mg d.name=some (.ref fa)->
   ∃ fd:FuncData,(∀ (s:Shared) (u:Value),BindsTo s fd ⟨[u],[]⟩ [("_law_script",u)])/\∀ base:Heap,(K w.params).In base->base.Ns mainGlobals mg->FnOk l.prog w (K w.params) mg base (CXe l.prog w) k fa fd ["_law_script"] (Qiw (K w.params))) :
  PySem.W.WalkO q loose XP YP l.row.toRowW d [] (fun f vs=>PySem.call f vs):=
 L2.Qmf (n:=63) (k:=k) (x := "_law_script") (CX:=fun w=>CXe l.prog w) (sp:=fun w=>Qiw (K w.params)) hn (by decide) hdf hr hY F (fun _ _ a ns hl _ hS=>⟨a,ns,rfl,hS,fun _=>rfl⟩) fun _ _ _ _ _ ⟨_,_,_,_,_,_,_,_,_,_,z⟩=>z
end TL
namespace L2
open PySem PySem.Spec PyProof.Rows YE
section
variable {X:Cx}
def Qsv (K:PySem.W.Frag)(ta:TE)(f:Str):TE:=fun σ H Q=>ta σ H fun x H1=>∃ a C d fs v,x=.ref a/\H1 a=some (QdP a (.ref C) (some d))/\H1 d=some (QfM d fs)/\ECls K C/\NoAttr K C f/\fs.lookup f=some v/\Q v H1
theorem QmT {e:Expr}{f:Str}{pos:Pos}{ta:TE}(he:PE X e ta)(hb:attributeBase e f X.env (eval e X.env)=eval e X.env):PE X (.Attribute e f pos) (Qsv X.K ta f):=by
 intro pins s σ H Q I h
 refine QmV hb (thn (he pins s σ H _ I h) fun u s1 hz=>?_)
 obtain ⟨x,H1,I1,rx,a,C,d,fs,v,ex,h1,h2,ec,n,l,q⟩:=hz
 subst ex
 obtain rfl:u=Value.ref a:=rx
 obtain ⟨⟨o1,e0,hc,hd⟩,_⟩:=I1.hok a _ h1
 obtain ⟨⟨mA,n1,r,wi⟩,_⟩:=I1.hok d _ h2
 obtain ⟨u,hu,ru⟩:=RelO.some_of (v:=v) (o:=mA f) (by rw [← l];exact r f)
 obtain ⟨oD,e1,lk⟩:=Qfj n1
 have J:PySem.W.InstAt s1.heap a o1 C (some oD):=⟨e0,hc,(hd d rfl).2,by rw [(hd d rfl).1];exact e1⟩
 exact QmS ec I1.kIn J n (by rw [lk,hu]) (Qjx ru) ⟨v,H1,I1.tok _,ru,q⟩
end
end L2
namespace TL
open PySem PySem.Spec L2
theorem Qt4 {H:Hp}{d e:Addr}{o o' o'':HO}(ne:d≠e):upd (upd (upd H d o) e o') d o''=upd (upd H e o') d o'':=by
 funext b
 unfold upd
 by_cases h:b=d
 ·simp [h]
 ·simp [h]
abbrev Te (K:PySem.W.Frag)(y:Y)(c:Addr)(nm:Str):Prop:=Qez y.P y.w K y.mg y.base CX0 c 1 nm ["self","line"] (Qfn K c)
section
variable {P:Program}{w:World}{K:PySem.W.Frag}{mg:Str->Option Value}{base:Heap}{N:List Str}{qual:Str}{scope:Scope}{f:Addr}{cd:Value}{A:Around}{outer:List Env}{s:Shared}{H:Hp}{E:XK}{C:Cn}{rk:Kd}{p:Bool}{ks:List Kd}{mr:MA}
def Qes (c:Addr)(mr:MA):MS:=fun ρ=>(mr ρ).bind fun r=>match r.1 with
 | [.int n]=>.ex ⟨c,some n⟩ r.2
 |_=>.no
theorem Qj8 {k:Nat}{x:Str}{np cpos pos:Pos}{e:Expr}{c:Addr}(hr:A.handled=none)(D:Qez P w K mg base CX0 c k x ["self","line"] (Qfn K c))(hm:Room (k+1) (Qb3 (CXe P w) P w K mg base N qual scope f cd A outer s H E).A)
  (ha:PA (Qb3 (CXe P w) P w K mg base N qual scope f cd A outer s H E) [e] (tA ks C p (fun _=>E) mr)) (ok:rdL ks=true:=by rfl) (hg:Gl (Qb3 (CXe P w) P w K mg base N qual scope f cd A outer s H E) x:=by rfl)
  (hdb:(x == ("__debug__" : Str))=false:=by decide) (hs:starEach [e] (Qb3 (CXe P w) P w K mg base N qual scope f cd A outer s H E).env=(false,eval e (Qb3 (CXe P w) P w K mg base N qual scope f cd A outer s H E).env) :: starEach [] (Qb3 (CXe P w) P w K mg base N qual scope f cd A outer s H E).env:=by rfl)
  (hpl:(backTo cpos (starEach [] (Qb3 (CXe P w) P w K mg base N qual scope f cd A outer s H E).env)).any (·.1)=false:=by rfl) :
  PS (Qb3 (CXe P w) P w K mg base N qual scope f cd A outer s H E) (.Raise (some (.Call (.Name x np) [e] [] cpos)) none pos) (tS rk C (fun _=>E) (Qes c mr)):=Qa3 (QjG hr D hm hg ha hdb hs hpl) fun DD σ H ⟨F,ρ,fp,I,h⟩=>by
 obtain ⟨fi,_,_,hi,_⟩:=D.ex
 refine ⟨F,ρ,[],fp,I,h.split.run.mono fun r h1 F1 H1 fp1 vs I1 n1 f1=>?_⟩
 rw [QaY ok] at I1
 have rr:=f1.rd I1 ok
 split at h1
 ·next n en=>
  rw [en] at rr
  obtain ⟨v,rfl,rv⟩:=rr.one
  obtain rfl:=rv.det_sc (w:=.int n) rfl
  refine ⟨by show 1<=sizeLine;decide,fun a ha new=>⟨a,.int n,fi,rfl,Qah,hi,fun d hd=>?_⟩⟩
  have ne:d≠a:=fun z=>by subst z;rw [Qah] at hd;cases hd
  rw [Qad ne] at hd
  refine ⟨rfl,a,d,n,H1,rfl,new,ha,hd,ne,by rw [Qmk],h1 F1 _ σ fp1 (I1.lay0 hd) d Qah⟩
 ·exact h1.elim
end
section
variable {X:Cx}{C:Cn}{E:XE}{p:Bool}{e:Expr}{m:ME}{pos:Pos}{ka:Kd}
def Qej (c0:Addr):D->Option D
 |.nd (.exc c) [.int n]=>if c=c0 then some (.int n) else none
 |_=>none
theorem Qlt {c0:Addr}(ec:YE.ECls X.K c0)(na:NoAttr X.K c0 "line")(he:PE X e (tX ka C p E m))(ok:ka.on true=true:=by rfl)(hb:attributeBase e "line" X.env (eval e X.env)=eval e X.env:=by rfl):PE X (.Attribute e "line" pos) (tX .V C p E (mUn (Qej c0) m)):=Qag (QmT he hb) fun σ H Q ⟨F,ρ,τ,fp,I,h⟩=>by
 refine ⟨F,ρ,τ,fp,I,h.split.mono fun r1 h1 F1 H1 fp1 v1 I1 n1 f1=>?_⟩
 rw [Kd.tk_on ok] at I1
 obtain ⟨z,ez,h3⟩:=h1.of
 obtain ⟨res,eg,rfl⟩:=Option.map_eq_some_iff.mp ez
 have rr:=Kd.stay ok f1 .refl I1
 unfold Qej at eg
 split at eg
 ·next c n ei=>
  rw [ei] at rr
  split at eg
  ·next ec0=>
   cases eg
   subst ec0
   obtain ⟨a,us,rfl,g1,g2⟩:=rr.inv
   obtain ⟨u,rfl,ru⟩:=g2.one
   obtain rfl:=ru.det_sc (w:=.int n) rfl
   obtain ⟨d,v,e1,e2,e3⟩:=g1.resolve_left (fun z=>nomatch z.1)
   cases e1
   exact ⟨a,c,d,_,_,rfl,QbD I1.fh _ _ e2,QbD I1.fh _ _ e3,ec,na,rfl,h3 F1 H1 fp1 _ I1 n1 (.sc rfl)⟩
  ·cases eg
 ·cases eg
end
end TL
namespace L2
open PySem PySem.Spec PyProof.Rows
section
variable {X:Cx}
def Qtt:V->Option Int->Option Int->Hp->VK->Prop:=fun x lo hi H Q=>∃ z:Str,x=.str z/\z.length<=sizeLine/\Q (.str (Txt.slice z lo hi)) H
theorem Qjj {v:Value}{p:Option Int}(h:IsPart v p):∃ l:Option (Int × Tok),v=partValue l/\l.map (·.1)=p:=by
 cases h with
 |none=>exact ⟨none,rfl,rfl⟩
 |int i t=>exact ⟨some (i,t),rfl,rfl⟩
theorem Qpr:SlR X Qtt:=by
 intro pins s σ H x v vl vu lo hi sl Q I rx hs pl pu h
 obtain ⟨z,rfl,hz,q⟩:=h
 obtain ⟨t,rfl⟩:=rx
 obtain ⟨l,rfl,rfl⟩:=Qjj pl
 obtain ⟨u,rfl,rfl⟩:=Qjj pu
 refine ⟨"str",_,PySem.F.slot_str_getitem.lookup,typeIs_str _ _ _,wpAny_getItem_str_slice (l:=l) (u:=u) (st:=none) hs rfl ?_⟩
 have e:(sliceMade z t l u none).post (EP X pins σ Q) s↔(if ((1:Int) == 1 && (PySem.Builtin.Str.strSliceIndices (l.map (·.1)) (u.map (·.1)) 1 z.length).length == z.length)=true then Made.val (.str z t) else .str ⟨((PySem.Builtin.Str.strSliceIndices (l.map (·.1)) (u.map (·.1)) 1 z.length).filterMap (z.cps[·]?)).toArray⟩).post (EP X pins σ Q) s:=Iff.rfl
 refine e.mpr ?_
 have le:=Txt.slice_le z (l.map (·.1)) (u.map (·.1))
 unfold Txt.slice at q le
 split
 ·next c=>
  rw [if_pos c] at q
  exact ⟨.str _,H,I,⟨_,rfl⟩,q⟩
 ·next c=>
  rw [if_neg c] at q le
  exact ⟨Nat.le_trans le hz,.str _,H,I.tok _,⟨_,rfl⟩,q⟩
end
end L2
namespace TL
open PySem PySem.Spec L2
section
variable {X:Cx}{C:Cn}{E:XE}{p pa pb:Bool}{e:Expr}{m:ME}{pos p2:Pos}{lo hi:Option Expr}{ml mh:MO}
def QrN (m:ME)(lo hi:MO):ME:=fun ρ=>(m ρ).bind fun r=>(lo r.2).bind fun l=>(hi l.2).bind fun h=>(Rs.of (asS r.1)).bind fun z=>if z.length<=sizeLine then .ok (.str (Txt.slice z l.1 h.1),h.2) else .no
theorem QhY (he:PE X e (tX .V C p E m))(hl:PO X lo (tO C pa E ml))(hu:PO X hi (tO C pb E mh)):PE X (.Subscript e (.Slice lo hi none p2) pos) (tX .V C (p && (pa && pb)) E (QrN m ml mh)):=Qag (QgY Qpr he hl hu) fun σ H Q ⟨F,ρ,τ,fp,I,h⟩=>by
 refine ⟨F,ρ,τ,fp,I,h.split.mono fun r1 h1 F1 H1 fp1 v1 I1 n1 f1=>?_⟩
 refine ⟨F1,r1.2,τ,fp1,I1,h1.split.mono fun r2 h2 F2 H2 fp2 I2 n2=>?_⟩
 refine ⟨F2,r2.2,τ,fp2,I2,h2.split.mono fun r3 h3 F3 H3 fp3 I3 n3=>?_⟩
 obtain ⟨z,e1,h4⟩:=h3.split.of
 have f1:R C.K F1 v1 r1.1:=f1
 rw [QdV e1] at f1
 obtain rfl:=R.str f1
 by_cases hz:z.length<=sizeLine
 ·rw [if_pos hz] at h4
  exact ⟨z,rfl,hz,h4 F3 H3 fp3 _ I3 (n1.trans (n2.trans n3)) (.sc rfl)⟩
 ·rw [if_neg hz] at h4;exact h4.elim
variable {s:Option Sl}{ρ ρ1 ρ2:Rho}{k:D × Rho->Prop}
def ssK (r:D × Rho)(l h:Option Int × Rho):Rs (D × Rho):=(Rs.of (asS r.1)).bind fun z=>if z.length<=sizeLine then .ok (.str (Txt.slice z l.1 h.1),h.2) else .no
theorem QqA {z:Str}{l h:Option Int}:ssK (.str z,ρ) (l,ρ1) (h,ρ2)=if z.length<=sizeLine then .ok (.str (Txt.slice z l h),ρ2) else .no:=rfl
theorem QrL:W (QrN m ml mh (s :: ρ)) k↔W (m (s :: ρ)) fun r=>W (ml r.2) fun l=>W (mh l.2) fun h=>W (ssK r l h) k:=by simp only [QrN,W_bind,ssK]
end
end TL
namespace L2
open PySem PySem.Spec PyProof.Rows
theorem Qk2 {M:Model}{A:Around}{a:Addr}{x:Str}{v:Value}{Q:Unit->Shared->Prop}{E:Value->Shared->Prop}{s:Shared}(h:wpAny M A (nsSet a x v) Q E s) :
  wpAny M A (nsSet a x v) (fun r s'=>0<s'.toks/\Q r s') E s:=fun Γ p hΓ=>by
 have h1:=h Γ p hΓ
 unfold nsSet at h1 ⊢
 rw [Sem.wp_bind'] at h1 ⊢
 refine Sem.wp_mono M Γ _ (fun hh p1 s1 h2=>?_) (fun _ _ _ z=>z) p s h1
 rw [Sem.wp_bind'] at h2 ⊢
 change Sem.wp M Γ _ _ _ p1 { s1 with toks:=s1.toks+1 } at h2
 change Sem.wp M Γ _ _ _ p1 { s1 with toks:=s1.toks+1 }
 exact Sem.wp_mono M Γ _ (fun k p2 s2 h3=>Sem.wp_mono M Γ _ (fun _ _ _ z=>z) (fun _ _ _ z=>z.2) _ _ (Sem.wp_toks M Γ 1 _ _ _ _ _ h3.1 h3.2)) (fun _ _ _ z=>z.2) _ _ (Sem.wp_toks M Γ 1 _ _ _ _ _ (Nat.succ_le_succ (Nat.zero_le _)) h2)
section
variable {X:Cx}
def PEk (X:Cx)(e:Expr)(t:TE):Prop:=
 ∀ (pins:List (Addr × Obj)) (s:Shared) (σ:St) (H:Hp) (Q:VK),Inv X pins σ H s->0<s.toks->t σ H Q->wpAny (model X.prog X.w) X.A (eval e X.env) (EP X pins σ Q) X.xe s
def PTk (X:Cx)(e:Expr)(t:TT):Prop:=
 ∀ (pins:List (Addr × Obj)) (s:Shared) (σ:St) (H:Hp) (Q:Bool->Hp->Prop),Inv X pins σ H s->0<s.toks->t σ H Q->wpAny (model X.prog X.w) X.A (isTrue e X.env (eval e X.env)) (TP X pins σ Q) X.xe s
def PAk (X:Cx)(es:List Expr)(t:TA):Prop:=
 ∀ (pos:Pos) (pins:List (Addr × Obj)) (s:Shared) (σ:St) (H:Hp) (Q:List V->Hp->Prop),Inv X pins σ H s->0<s.toks->t σ H Q->wpAny (model X.prog X.w) X.A (spliced (backTo pos (starEach es X.env))) (AP X pins σ Q) X.xe s
def PIk (X:Cx)(tg iter:Expr)(wi:TI):Prop:=
 ∀ (pins:List (Addr × Obj)) (s:Shared) (σ:St) (H:Hp) (R:It->Hp->Prop),Inv X pins σ H s->0<s.toks->wi σ H R->
  wpAny (model X.prog X.w) X.A (eval iter X.env) (fun v s1=>wpAny (model X.prog X.w) X.A (pyIter v) (PIE X pins σ tg R) X.xe s1) X.xe s
def Qn3 (X:Cx)(st:List Stmt)(t:TS):Prop:=
 ∀ (pins:List (Addr × Obj)) (s:Shared) (σ:St) (H:Hp) (D:Ends),Inv X pins σ H s->0<s.toks->t D σ H->wpAny (model X.prog X.w) X.A (execs st X.env) (SP X pins D) X.xe s
theorem Qcn {e:Expr}{t t':TE}(h:PEk X e t)(k:∀ σ H Q,t' σ H Q->t σ H Q):PEk X e t':=fun pins s σ H Q I tk q=>h pins s σ H Q I tk (k _ _ _ q)
theorem QkO {e:Expr}{t t':TT}(h:PTk X e t)(k:∀ σ H Q,t' σ H Q->t σ H Q):PTk X e t':=fun pins s σ H Q I tk q=>h pins s σ H Q I tk (k _ _ _ q)
theorem Qk4 {e:List Expr}{t t':TA}(h:PAk X e t)(k:∀ σ H Q,t' σ H Q->t σ H Q):PAk X e t':=fun pos pins s σ H Q I tk q=>h pos pins s σ H Q I tk (k _ _ _ q)
theorem Qj9 {tg l:Expr}{t t':TI}(h:PIk X tg l t)(k:∀ σ H R,t' σ H R->t σ H R):PIk X tg l t':=fun pins s σ H Q I tk q=>h pins s σ H Q I tk (k _ _ _ q)
theorem Qit {e:List Stmt}{t t':TS}(h:Qn3 X e t)(k:∀ D σ H,t' D σ H->t D σ H):Qn3 X e t':=fun pins s σ H D I tk q=>h pins s σ H D I tk (k _ _ _ q)
def QsC (y w:Str)(to:TE):TE:=fun σ H Q=>to σ H fun x H1=>∃ z,x=.str z/\z.length<=1048576/\Q (.str (Txt.replace z y w)) H1
theorem Qkw {o:Expr}{to:TE}{apos cpos p1 p2:Pos}{y w:Str}{j1 j2}(ho:PE X o to)(hyw:(y == w)=false)(hw:w.length<=14)
  (hbase:attributeBase o "replace" X.env (eval o X.env)=eval o X.env:=by rfl) (hline:(apos.endLine == cpos.line)=true:=by rfl) :
  PEk X (.Call (.Attribute o "replace" apos) [.Constant (.str y) j1 p1,.Constant (.str w) j2 p2] [] cpos) (QsC y w to):=by
 intro pins s σ H Q I tk h
 refine wpAny_Call_method_late hbase rfl hline rfl (wpAny_mono (wpAny_toks_of (n:=1) tk (ho pins s σ H _ I h)) (fun v s1 hz=>?_) fun _ _ z=>z.2)
 obtain ⟨t1,x,H1,I1,r1,z,rfl,hz,q⟩:=hz
 obtain ⟨h1,h2⟩:=QjJ I1 r1 (show tyV X.K "str" (.str z) H1 from rfl)
 refine ⟨"str","str.replace",PySem.F.plainAttrs_str,PySem.F.slot_str_replace,PySem.F.type_str_replace,h1,h2,?_⟩
 refine Calls.callWith_builtin rfl (Calls.evalArgs_plain ?_)
 refine Calls.spliced_cons (Calls.Constant_str (k:=j1) (pos:=p1) (Calls.spliced_cons (Calls.Constant_str (k:=j2) (pos:=p2) (Calls.spliced_nil ?_))))
 obtain ⟨t,rfl⟩:=r1
 exact SC.replaceW (Nat.ne_of_gt t1) (Nat.ne_of_gt (Nat.succ_pos _)) (Nat.ne_of_lt (Nat.lt_succ_self _)) hyw hz hw fun t' k=>⟨.str _,H1,(I1.tok _),⟨_,rfl⟩,q⟩
variable {o e:Expr}{es:List Expr}{to te:TE}{t:TA}{name:Str}{apos cpos pos:Pos}{T id:String}{r:V->List V->Hp->VK->Prop}
theorem QqS (pa:PlainAttrs T)(slot:Slot T name id)(hty:typeOf (.builtin id)=pure (.type "method_descriptor"))(hm:MtR X id r)(ho:PEk X o to)(ha:PA X (e :: es) t)
  (hbase:attributeBase o name X.env (eval o X.env)=eval o X.env:=by rfl)
  (hfew:((backTo cpos (starEach (e :: es) X.env)).all (fun x=>!x.1) && (backToKw cpos (keywordEach [] X.env)).all (fun x=>x.1.isSome)
   && decide ((e :: es).length+([]:List Keyword).length+(if ([]:List Keyword).isEmpty then 0 else 1)<30))=true:=by rfl)
  (hline:(apos.endLine == cpos.line)=true:=by rfl) (hs:starEach (e :: es) X.env=(false,eval e X.env) :: starEach es X.env:=by rfl) (hplain:(backTo cpos (starEach es X.env)).any (·.1)=false:=by rfl) :
  PEk X (.Call (.Attribute o name apos) (e :: es) [] cpos) (tBM X.K T r to t):=by
 intro pins s σ H Q I tk h
 refine wpAny_Call_method_late hbase hfew hline rfl (thn (ho pins s σ H _ I tk h) fun v s1 hz=>?_)
 obtain ⟨x,H1,I1,r1,ty,q1⟩:=hz
 obtain ⟨h1,h2⟩:=QjJ I1 r1 ty
 refine ⟨T,id,pa,slot,hty,h1,h2,?_⟩
 have hA:=ha cpos pins s1 σ H1 _ I1 q1
 rw [hs] at hA ⊢
 refine Calls.callWith_builtin (by show (false || (backTo cpos (starEach es X.env)).any (·.1))=false;rw [hplain]<;>rfl) (Calls.evalArgs_plain ?_)
 refine thn hA fun us s2 hz=>?_
 obtain ⟨vs,H2,I2,r2,q2⟩:=hz
 exact hm pins s2 σ H2 x vs v us Q I2 r1 r2 q2
theorem QlR {tg l:Expr}{tl:TE}(hl:PEk X l tl):PIk X tg l (Qte X.K tl):=by
 intro pins s σ H R I tk h
 refine thn (hl pins s σ H _ I tk h) fun v s1 hz=>?_
 obtain ⟨x,H1,I1,r1,a,kd,e,⟨xs,hq⟩,q⟩:=hz
 subst e
 cases r1
 cases kd with
 |true=>
  obtain ⟨its,rv,p,hz⟩:=I1.list (show SqL X.K H1 a xs from hq)
  refine wpAny_pyIter_list p.isList ?_
  refine ⟨s1.heap.objs.size,[s1.heap.objs.size],_,_,H1,rfl,I1.kept (t':=s1.toks) fun b o e=>Heap.get?_push_of_some _ e,QfF a _,⟨_,Heap.get?_push_size _ rfl,rfl,rfl⟩,fun b hb=>?_,q⟩
  have e:b=s1.heap.objs.size:=by simpa using hb
  subst e
  exact I1.fpOk (Nat.le_refl _) (I1.hok.fresh (Nat.le_refl _))
 |false=>
  obtain ⟨its,rv,p,hz⟩:=I1.tuple (show SqT X.K H1 a xs from hq)
  refine wpAny_pyIter_tuple (show s1.heap.IsTuple a its.toArray from p) ?_
  refine ⟨s1.heap.objs.size,[s1.heap.objs.size],_,_,H1,rfl,I1.kept (t':=s1.toks) fun b o e=>Heap.get?_push_of_some _ e,Qd4 a _,⟨_,Heap.get?_push_size _ rfl,rfl,rfl⟩,fun b hb=>?_,q⟩
  have e:b=s1.heap.objs.size:=by simpa using hb
  subst e
  exact I1.fpOk (Nat.le_refl _) (I1.hok.fresh (Nat.le_refl _))
theorem Qi8 {elt iter tg:Expr}{ifs:List Expr}{scope:Scope}{N:List Str}{ix:List (Option Nat)}{wi:TI}{g:TG}{tc:TT}{te:TE}
  (hc:X.calm=true) (B:Blk X scope N ix) (hi:PIk X tg iter wi) (hg:∀ pins C s H ex,PG (X.blk scope N pins C s H ex) tg g)
  (ht:∀ pins C s H ex,PIf (X.blk scope N pins C s H ex) ifs tc) (he:∀ pins C s H ex,PE (X.blk scope N pins C s H ex) elt te)
  (hs:∀ x,foldedSetIterable iter X.env x=pure x:=by intro _;rfl):PEk X (.ListComp elt [⟨tg,iter,ifs,0⟩] scope pos) (Qfo wi ix g tc te):=by
 intro pins s σ H Q I tk h
 rw [eval_ListComp]
 exact Qdw hc B hg ht he hs I (fun R r=>hi pins s σ H R I tk r) h fun {s4 H3 D C ys m} hn all _ _ _ _ _ q _=>⟨m,hn,fun h' sb=>⟨.ref D,upd H3 D (.lst ys),all h' sb,rfl,q⟩⟩
theorem Qma (ha:PEk X e te)(hs:starEach [e] X.env=(false,eval e X.env) :: starEach [] X.env:=by rfl):PAk X [e] (QqO te Qs2):=by
 intro pos pins s σ H Q I tk h
 rw [hs]
 show wpAny _ _ (spliced ((false,eval e X.env) :: backTo pos (starEach [] X.env))) _ _ s
 refine Calls.spliced_cons (thn (ha pins s σ H _ I tk h) fun u s1 hz=>?_)
 obtain ⟨x,H1,I1,r1,q1⟩:=hz
 refine thn (Qgs pos pins s1 σ H1 _ I1 q1) fun us s2 hz=>?_
 obtain ⟨xs,H2,I2,r2,q2⟩:=hz
 exact ⟨x :: xs,H2,I2,.cons r1 r2,q2⟩
theorem Qjd {x:Str}{p:Pos}{r:List V->Hp->VK->Prop}(hc:Qbo X (.builtin id) r)(hg:Gl X x)(hm:X.mg x=none)(hv:bootBuiltins x=some (.builtin id))(ha:PAk X (e :: es) t)(hn:x ≠ "__name__" := by decide)(hdb:(x == ("__debug__" : Str))=false:=by decide)
  (he:starEach (e :: es) X.env=(false,eval e X.env) :: starEach es X.env:=by rfl) (hpl:(backTo pos (starEach es X.env)).any (·.1)=false:=by rfl):PEk X (.Call (.Name x p) (e :: es) [] pos) (tCB r t):=by
 intro pins s σ H Q I tk h
 refine wpAny_Call_Name_kw (QdW I hg hm hv ?_ hn hdb)
 refine PyProof.Rows.callWith_builtin1 (thn (ha pos pins s σ H _ I tk h) fun us s1 hz=>?_) he hpl
 obtain ⟨vs,H1,I1,r1,q1⟩:=hz
 exact hc pins s1 σ H1 vs us Q I1 r1 q1
theorem QlK {te:TE}(h:PEk X e te)(he:∀ whole,isTrue e X.env whole=(do let v ← whole;standAt e.pos;holding [v] (truthy v)):=by intro _;rfl):PTk X e (tB te):=by
 intro pins s σ H Q I tk hw
 refine isTrue_plain (thn (h pins s σ H _ I tk hw) fun v s1 hz=>?_) (he _)
 obtain ⟨x,H1,I1,r1,d,rfl,q⟩:=hz
 cases r1
 exact wpAny_truthy_bool ⟨H1,I1,q⟩
theorem QlM {c:Expr}{a b rest:List Stmt}{tc:TT}{t u v:TS}(hc:PTk X c tc)(ha:PSs X a t)(hb:PSs X b u)(hr:PSs X rest v):Qn3 X (.If c a b pos :: rest) (Qre (Qth tc t u) v):=by
 intro pins s σ H D I tk h
 refine wpAny_execs_cons (thn (Q:=SP X pins { D with nx:=v D }) (wpAny_If (thn (hc pins s σ H _ I tk h) fun d s1 hz=>?_)) fun f s1 q=>?_)
 ·obtain ⟨H1,I1,q1⟩:=hz
  cases d with
  |true=>exact ha pins s1 σ H1 _ I1 q1
  |false=>exact hb pins s1 σ H1 _ I1 q1
 ·cases f with
  |next=>
   obtain ⟨σ',H',I',q⟩:=q
   exact hr pins s1 σ' H' D I' q
  |ret v=>exact q
  |brk=>exact q
  |cont=>exact q
theorem Qk3 {i:Nat}{x:Str}{rest:List Stmt}{u:TS}{pos':Pos}(hN:X.N.Nodup)(hi:X.N[i]? = some x)(hx:X.env.scope.names.lookup x=some .local)(he:PE X e te)(hr:Qn3 X rest u)(hs:swapsWith e (some (.Name x pos')) pos.line X.env=pure false:=by rfl) :
  PSs X (.Assign [.Name x pos'] e pos :: rest) (Qre (QnZ te (QdB i)) u):=by
 intro pins s σ H D I h
 refine wpAny_execs_cons (wpAny_Assign_Name (thn (he pins s σ H _ I h) fun v s1 hz=>?_) hs)
 obtain ⟨y,H1,I1,r1,q1⟩:=hz
 have hcls:(X.env.scope.kind == .class || (X.env.scope.kind == .module && X.env.locals != X.env.globals))=false:=by rw [I1.ok.kind];rfl
 have st:=Qde (M:=model X.prog X.w) (A:=X.A) (E:=X.xe) (Q:=fun _ s2=>Inv X pins (σ.set i (some y)) H1 s2) I1 hN hi (.inl hx) r1 (fun s2 I2=>I2) (.inr hx)
 rw [storeName_local hx hcls] at st ⊢
 exact thn (Qk2 st) fun _ s2 hz=>hr pins s2 _ H1 D hz.2 hz.1 q1
end
end L2
namespace TL
open PySem PySem.Spec L2
section
variable {X:Cx}{C:Cn}{E:XE}{p pa pb pc pe:Bool}{o e a c:Expr}{es:List Expr}{m mo:ME}{mr mi:MA}{mt:MT}{me:ME}{ms mu mv:MS}{pos:Pos}{k rk:Kd}{ks:List Kd}
def Qhz (y w:Str)(mo:ME):ME:=fun ρ=>(mo ρ).bind fun r1=>(Rs.of (asS r1.1)).bind fun z=>if z.length<=1048576 then .ok (.str (Txt.replace z y w),r1.2) else .no
theorem Qpt {apos cpos p1 p2:Pos}{y w:Str}{j1 j2}(ho:PE X o (tX .V C pa E mo))(hyw:(y == w)=false:=by decide)(hw:w.length<=14:=by decide)
  (hbase:attributeBase o "replace" X.env (eval o X.env)=eval o X.env:=by rfl) (hline:(apos.endLine == cpos.line)=true:=by rfl) :
  PEk X (.Call (.Attribute o "replace" apos) [.Constant (.str y) j1 p1,.Constant (.str w) j2 p2] [] cpos) (tX .V C pa E (Qhz y w mo)):=Qcn (Qkw ho hyw hw hbase hline) fun σ H Q h=>by
 obtain ⟨F,ρ,τ,fp,I,h⟩:=h
 refine ⟨F,ρ,τ,fp,I,h.split.mono fun r1 h1 F1 H1 fp1 v I1 n1 f1=>?_⟩
 obtain ⟨z,ez,h2⟩:=h1.split.of
 obtain ⟨d,ρ1⟩:=r1
 obtain rfl:=QdV ez
 obtain rfl:=R.str f1
 by_cases hz:z.length<=1048576
 ·rw [if_pos hz] at h2
  exact ⟨z,rfl,hz,h2 F1 H1 fp1 _ I1 n1 (.sc rfl)⟩
 ·rw [if_neg hz] at h2
  exact h2.elim
theorem Qoc (h:PEk X e (tX .O C p E m)):PEk X e (tX .V C p E m):=Qcn h fun σ H Q h=>by
 obtain ⟨F,ρ,τ,fp,I,r⟩:=h
 refine ⟨F,ρ,τ,fp,I,r.mono fun a z F' H' fp' v I' n f=>?_⟩
 obtain ⟨F2,rest,J,sf,rr,je⟩:=SI.freeze (show SI C F' H' σ a.2 ((v,a.1) :: τ) fp' from I')
 exact z F2 H' rest v J ⟨n.f.trans sf,fun hp=>by rw [je];exact n.g hp⟩ rr
theorem QkT {apos cpos:Pos}(ho:PEk X o (tX .V C pa E mo))(ha:PA X [e] (tA ks C pb E mr))(ok:rdL ks=true:=by rfl)(hbase:attributeBase o "split" X.env (eval o X.env)=eval o X.env:=by rfl)
  (hfew:((backTo cpos (starEach [e] X.env)).all (fun x=>!x.1) && (backToKw cpos (keywordEach [] X.env)).all (fun x=>x.1.isSome)
   && decide ([e].length+([]:List Keyword).length+(if ([]:List Keyword).isEmpty then 0 else 1)<30))=true:=by rfl)
  (hline:(apos.endLine == cpos.line)=true:=by rfl) (hs:starEach [e] X.env=(false,eval e X.env) :: starEach [] X.env:=by rfl) (hplain:(backTo cpos (starEach [] X.env)).any (·.1)=false:=by rfl) :
  PEk X (.Call (.Attribute o "split" apos) [e] [] cpos) (tX .O C (pa && pb) E (Qa7 mo mr)):=
 Qcn (QqS PySem.F.plainAttrs_str PySem.F.slot_str_split PySem.F.type_str_split QgI ho ha hbase hfew hline hs hplain) fun σ H Q h=>by
  obtain ⟨F,ρ,τ,fp,I,h⟩:=h
  refine ⟨F,ρ,τ,fp,I,h.split.mono fun r1 h1 F1 H1 fp1 v I1 n1 f1=>?_⟩
  obtain ⟨z,ez,h2⟩:=h1.split.of
  obtain ⟨d,ρ1⟩:=r1
  obtain rfl:=QdV ez
  obtain rfl:=R.str f1
  refine ⟨rfl,F1,ρ1,τ,fp1,I1,h2.split.mono fun r2 h3 F2 H2 fp2 vs I2 n2 f2=>?_⟩
  rw [QaY ok] at I2
  obtain ⟨ys,eq,h4⟩:=h3.split.of
  have rl:=f2.rd I2 ok
  obtain ⟨ds,ρ2⟩:=r2
  dsimp only at eq rl
  split at eq
  ·split at eq
   ·rename_i y cnd
    cases eq
    obtain ⟨v,rfl,r1⟩:=rl.one
    obtain rfl:=R.str r1
    refine ⟨z,y,rfl,rfl,cnd.1,cnd.2.1,cnd.2.2,fun l hl=>?_⟩
    exact h4 _ _ _ _ (I2.newList hl (QfR _) (QdI _)) ((n1.trans n2).trans (q:=true) ⟨Same.refl _,fun _=>Qgx I2 hl⟩ |>.weak fun z=>by simpa using z) True.intro
   ·cases eq
  ·cases eq
theorem Qqr {tg l:Expr}(hK:C.K=X.K)(hl:PEk X l (tX .V C p E m)):PIk X tg l (tI C p E (QbV m)):=Qj9 (QlR hl) fun σ H RR h=>by
 obtain ⟨F,ρ,τ,fp,I,h⟩:=h
 refine ⟨F,ρ,τ,fp,I,h.split.mono fun r hr F1 H1 fp1 v I1 n1 f1=>?_⟩
 obtain ⟨ds,eg,h2⟩:=hr.split.of
 obtain ⟨q,us,eq,hs,rl⟩:=QgC (.cons f1 .nil) eg
 cases eq
 rcases hs with hs | hs
 ·refine ⟨q,true,rfl,⟨us,by rw [← hK];exact (At.same hs I1.fh).sql⟩,h2 F1 H1 fp1 _ I1 n1 ?_⟩
  rw [← hK]
  exact Qef (kd:=true) hs rl
 ·refine ⟨q,false,rfl,⟨us,by rw [← hK];exact (At.same hs I1.fh).sqt⟩,h2 F1 H1 fp1 _ I1 n1 ?_⟩
  rw [← hK]
  exact Qef (kd:=false) hs rl
theorem Ql4 {par:Bool}{cs:List Cp}{scope:Scope}{N:List Str}{j:Nat}{x:Str}{px:Pos}{iter elt:Expr}{ifs:List Expr}(hK:C.K=X.K)(hc:X.calm=true)(B:Blk X scope N (cs.map Cp.ix))(hjN:N[j]? = some x)(hj:cs[j]? = some .me)(hx:scope.names.lookup x=some .local)(hi:PIk X (.Name x px) iter (tI C pa E mi))
  (ht:∀ pins c s H ex,PIf (X.blk scope N pins c s H ex) ifs (exT X.K pc mt)) (he:∀ pins c s H ex,PE (X.blk scope N pins c s H ex) elt (exX .O X.K pe me)) (nd:(cs.filterMap Cp.is).Nodup:=by decide) (hp:p=true->cs.filterMap Cp.is=[]:=by decide)
  (hs:∀ x,foldedSetIterable iter X.env x=pure x:=by intro _;rfl):PEk X (.ListComp elt [⟨.Name x px,iter,ifs,0⟩] scope pos) (tX .O C (pa && p) E (Qa5 par cs j mi mt me)):=
 Qcn (Qi8 hc B hi (fun _ _ _ _ _=>Qbb (i:=j) B.nd hjN (.inl (lookup_relabel_local hx)) (.inr (lookup_relabel_local hx))) ht he hs) fun _ _ _ h=>Qcz hK hj nd hp h
theorem QqM (ha:PEk X e (tX .V C pa E m))(hs:starEach [e] X.env=(false,eval e X.env) :: starEach [] X.env:=by rfl):PAk X [e] (tA [.V] C (pa && true) E (Qai m QaL)):=Qk4 (Qma ha hs) fun σ H Q h=>by
 obtain ⟨F,ρ,τ,fp,I,r⟩:=h
 refine ⟨F,ρ,τ,fp,I,r.split.mono fun r1 h1 F1 H1 fp1 v1 I1 n1 f1=>?_⟩
 exact h1 F1 H1 fp1 [v1] I1 (n1.weak fun z=>by simpa using z) (.cons f1 .nil)
theorem Qnu {x:Str}{px:Pos}{id:String}{r:List L2.V->Hp->VK->Prop}{g:List D->Option D}(hc:Qbo X (.builtin id) r)(hg:QcQ C.K r g)(hm:X.mg x=none)(hv:bootBuiltins x=some (.builtin id))(ha:PAk X (e :: es) (tA ks C p E mr))(ok:rdL ks=true:=by rfl)(hgl:Gl X x:=by rfl)(hn:x ≠ "__name__" := by decide)(hdb:(x == ("__debug__" : Str))=false:=by decide)
  (he:starEach (e :: es) X.env=(false,eval e X.env) :: starEach es X.env:=by rfl) (hpl:(backTo pos (starEach es X.env)).any (·.1)=false:=by rfl):PEk X (.Call (.Name x px) (e :: es) [] pos) (tX .V C p E (Qas g mr)):=
 Qcn (Qjd hc hgl hm hv ha hn hdb he hpl) fun _ _ _ h=>QjL hg ok h
theorem Qn8 (h:PEk X e (tX k C p E m))(ok:k.on true=true:=by rfl)(he:∀ whole,isTrue e X.env whole=(do let v ← whole;standAt e.pos;holding [v] (truthy v)):=by intro _;rfl):PTk X e (tT C p E (QaE m)):=
 QkO (QlK h he) fun _ _ _ h=>QbN ok h
theorem Qt1 {sa sb rest:List Stmt}(hc:PTk X c (tT C p E mt))(ha:PSs X sa (tS rk C E ms))(hb:PSs X sb (tS rk C E mu))(hr:PSs X rest (tS rk C E mv)):Qn3 X (.If c sa sb pos :: rest) (tS rk C E (QbQ (mIf mt ms mu) mv)):=Qit (QlM hc ha hb hr) fun D σ H h=>by
 obtain ⟨F,ρ,fp,I,h⟩:=h
 have q:tS rk C E (mIf mt ms mu) { D with nx:=tS rk C E mv D } σ H:=by
  refine ⟨F,ρ,fp,I,h.split.mono fun r hr=>?_⟩
  obtain ⟨f,ρ1⟩:=r
  cases f with
  |nx=>exact fun F1 H1 σ1 fp1 s1 I1=>⟨F1,ρ1,fp1,I1,hr.mono fun q z=>z.mono s1⟩
  |rt d=>exact hr
  |bk=>exact hr
  |ct=>exact hr
 obtain ⟨F,ρ,fp,I,h⟩:=q
 refine ⟨F,ρ,[],fp,I,h.split.run.mono fun r hr F1 H1 fp1 I1 n1=>?_⟩
 by_cases cc:r.1=true
 ·rw [if_pos cc] at hr ⊢;exact ⟨F1,r.2,fp1,I1,hr.mono fun q z=>z.mono n1.f⟩
 ·rw [if_neg cc] at hr ⊢;exact ⟨F1,r.2,fp1,I1,hr.mono fun q z=>z.mono n1.f⟩
theorem Qod {i:Nat}{x:Str}{rest:List Stmt}{pos':Pos}(hN:X.N.Nodup)(hi:X.N[i]? = some x)(hx:X.env.scope.names.lookup x=some .local)(he:PE X e (tX .V C p E m))(hr:Qn3 X rest (tS rk C E mu))(hs:swapsWith e (some (.Name x pos')) pos.line X.env=pure false:=by rfl) :
  PSs X (.Assign [.Name x pos'] e pos :: rest) (tS rk C E (QbQ (Qcr i m) mu)):=Qer (Qk3 hN hi hx he hr hs) fun D σ H h=>by
 obtain ⟨F,ρ,fp,I,h⟩:=h
 have q:tS rk C E (Qcr i m) { D with nx:=tS rk C E mu D } σ H:=by
  refine ⟨F,ρ,fp,I,h.split.mono fun r hr=>?_⟩
  obtain ⟨f,ρ1⟩:=r
  cases f with
  |nx=>exact fun F1 H1 σ1 fp1 s1 I1=>⟨F1,ρ1,fp1,I1,hr.mono fun q z=>z.mono s1⟩
  |rt d=>exact hr
  |bk=>exact hr
  |ct=>exact hr
 exact Qf0 q
end
def QhH:D->D->Option Bool
 |y,.nd (.dK ks) _=>(Qf8 y).map fun k=>ks.any fun x=>decide (x=k)
 |_,_=>none
def Ql6 (f:Bool->Bool)(my md:ME):ME:=fun ρ=>(my ρ).bind fun r1=>(md r1.2).bind fun r2=>Rs.of ((QhH r1.1 r2.1).map fun b=>(.bl (f b),r2.2))
section
variable {X:Cx}{C:Cn}{E:XE}{pa pb:Bool}{o e f a b c:Expr}{m ma mb mc mo:ME}{mr:MA}{pos apos cpos:Pos}{k ka kb:Kd}{ks:List Kd}
theorem QjZ {F H:Hp}{v u:L2.V}{y d:D}{q:Bool}(hs:Same F H)(r1:R C.K F v y)(r2:R C.K F u d)(eg:QhH y d=some q):∃ l o,u=.ref l/\DGet H l v o/\o.isSome=q:=by
 unfold QhH at eg
 split at eg
 ·obtain ⟨l,us,rfl,h1,h2⟩:=r2.inv
  obtain ⟨k,ek,rfl⟩:=Option.map_eq_some_iff.mp eg
  obtain rfl:=Qd3 r1 ek
  exact ⟨l,_,rfl,DGet.k (hs _ _ h1.2),Qg0 h1.1⟩
 ·cases eg
theorem QpX (hu:X.A.units+1<cLine)(hy:PE X a (tX ka C pa E ma))(hd:PE X b (tX kb C pb E mb))(ok:ka.on pb=true:=by rfl)(ok2:kb.on true=true:=by rfl)(hm:behindInMarks .NotIn b=false:=by rfl):PT X (.Compare a [.NotIn] [b] pos) (tT C (pa && pb) E (QaE (Ql6 not ma mb))):=QcM (QlD (Qje hu hy hd) hm) fun σ H Q h=>by
 obtain ⟨F,ρ,τ,fp,I,h⟩:=QbN (k:=.V) rfl h
 refine ⟨F,ρ,τ,fp,I,h.split.mono fun r1 h1 F1 H1 fp1 v1 I1 n1 f1=>?_⟩
 rw [Kd.tk_on ok] at I1
 refine ⟨F1,r1.2,τ,fp1,I1,h1.split.mono fun r2 h2 F2 H2 fp2 v2 I2 n2 f2=>?_⟩
 rw [Kd.tk_on ok2] at I2
 obtain ⟨z,ez,h3⟩:=h2.of
 obtain ⟨q,eg,rfl⟩:=Option.map_eq_some_iff.mp ez
 obtain ⟨l,o,rfl,hg,rfl⟩:=QjZ (QbD I2.fh) (Kd.stay ok f1 n2 I2) (Kd.stay ok2 f2 .refl I2) eg
 exact ⟨l,o,rfl,hg,h3 F2 H2 fp2 _ I2 (n1.trans n2) (.sc rfl)⟩
def Qsx:D->Option (List Key × List D)
 |.nd (.dK ks) ds=>some (ks,ds)
 |_=>none
theorem Qjw {d:D}{q:List Key × List D}(h:Qsx d=some q):d=.nd (.dK q.1) q.2:=by
 unfold Qsx at h
 split at h
 ·cases h;rfl
 ·cases h
def Qnk (q:List Key × List D)(y x:D):Option D:=(Qf8 y).bind fun k=>match Qbp q.1 q.2 k with
 |some d=>if d.imm=true then some d else none
 |none=>some x
theorem Qgu {κ:Type}[DecidableEq κ]{K:PySem.W.Frag}{F:Hp}:∀ {ks:List κ} {vs:List L2.V} {ds:List D} {k:κ},RL K F vs ds->Qbp ks ds k=none->ks.length=vs.length->QdS (ks.zip vs) k=none
 | [],_,_,_,_,_,_=>rfl
 |_ :: _,_,_,_,.nil,_,l=>by cases l
 |x :: ks,v :: vs,d :: ds,k,.cons r q,h,l=>by
  rw [List.zip_cons_cons]
  by_cases e:x=k
  ·rw [Qbp,if_pos e] at h;cases h
  ·rw [Qbp,if_neg e] at h
   rw [QbO e]
   exact Qgu q h (by simpa using l)
def QjA (md my mx:ME):ME:=fun ρ=>(md ρ).bind fun r1=>(Rs.of (Qsx r1.1)).bind fun q=>(my r1.2).bind fun r2=>(mx r2.2).bind fun r3=>Rs.of ((Qnk q r2.1 r3.1).map fun d=>(d,r3.2))
theorem QkK (hu:X.A.units+1<cLine)(ho:PE X o (tX ka C pa E ma))(he:PE X e (tX kb C true E mb))(hf:PE X f (tX .V C true E mc))(ok:ka.on true=true:=by rfl)(ok2:kb.on true=true:=by rfl)(m:M2 X o "get" apos e f cpos:=by exact ⟨rfl,rfl,rfl,rfl⟩) :
  PE X (.Call (.Attribute o "get" apos) [e,f] [] cpos) (tX .V C pa E (QjA ma mb mc)):=Qag (Qkm hu ho he hf m) fun σ H Q h=>by
 obtain ⟨F,ρ,τ,fp,I,h⟩:=h
 refine ⟨F,ρ,τ,fp,I,h.split.mono fun r1 h1 F1 H1 fp1 v1 I1 n1 f1=>?_⟩
 rw [Kd.tk_on ok] at I1
 obtain ⟨q,eq,h1⟩:=h1.split.of
 have g1:=Kd.stay ok f1 .refl I1
 rw [Qjw eq] at g1
 obtain ⟨a,us,rfl,at1,rl1⟩:=g1.inv
 refine ⟨a,rfl,.inl ⟨q.1.zip us,.inl (QbD I1.fh _ _ at1.2)⟩,F1,r1.2,τ,fp1,I1,h1.split.mono fun r2 h2 F2 H2 fp2 v2 I2 n2 f2=>?_⟩
 rw [Kd.tk_on ok2] at I2
 refine ⟨F2,r2.2,τ,fp2,I2,h2.split.mono fun r3 h3 F3 H3 fp3 v3 I3 n3 f3=>?_⟩
 obtain ⟨z,ez,h4⟩:=h3.of
 obtain ⟨res,eg,rfl⟩:=Option.map_eq_some_iff.mp ez
 have n23:Nx true F1 H1 fp1 F3 H3 fp3:=n2.trans n3
 have gd:=Kd.stay ok f1 n23 I3
 rw [Qjw eq] at gd
 have gy:=Kd.stay ok2 f2 n3 I3
 obtain ⟨a',us',ea,at3,rl3⟩:=gd.inv
 cases ea
 obtain ⟨k,ek,e2⟩:=Option.bind_eq_some_iff.mp (show (Qf8 r2.1).bind _=some res from eg)
 obtain rfl:=Qd3 gy ek
 refine ⟨_,DGet.k (k:=k) (QbD I3.fh _ _ at3.2),?_⟩
 cases ev:Qbp q.1 q.2 k with
 |some d=>
  rw [ev] at e2
  obtain ⟨v,ev1,rv⟩:=Qcv rl3 ev
  rw [ev1]
  by_cases hi:d.imm=true
  ·have e2:(if d.imm=true then some d else none)=some res:=e2
   rw [if_pos hi] at e2
   cases e2
   have:=I3.loL (.cons rv .nil) (by show (D.imm _ && true)=true;rw [hi];rfl)
   cases this with
   |cons r _=>exact h4 F3 H3 fp3 v I3 ((n1.trans n23).weak fun z=>by simp [z]) r
  ·have e2:(if d.imm=true then some d else none)=some res:=e2
   rw [if_neg hi] at e2;cases e2
 |none=>
  rw [ev] at e2
  have e2:some r3.1=some res:=e2
  cases e2
  rw [Qgu rl3 ev at3.1]
  exact h4 F3 H3 fp3 v3 I3 ((n1.trans n23).weak fun z=>by simp [z]) f3
def QqN:D->Option Bool
 |.non=>some true
 |.nd .tup _=>some false
 |_=>none
def QiM:List D->Option Bool
 | []=>some false
 |y :: ys=>(QqN y).bind fun a=>(QiM ys).map fun b=>a || b
def QkF:List D->Option Nat
 | []=>none
 |y :: ys=>(QqN y).bind fun a=>if a=true then some 0 else (QkF ys).map (· + 1)
def QjW:Value->Bool
 |.none=>true
 |_=>false
theorem Qio {pins:List (Addr × Obj)}{σ:L2.St}{H:Hp}{s:Shared}(I:Inv X pins σ H s)(hu:X.A.units+31<cLine){u:L2.V}{d:D}{v:Value}{b:Bool}(r:R X.K H u d)(rv:RelV u v)(h:QqN d=some b):SeqAt.EqAt X.A.in1 s v .none (QjW v)/\QjW v=b:=by
 have hA:X.A.in1.units<cLine:=by show X.A.units+1<cLine;omega
 unfold QqN at h
 split at h
 ·cases h
  obtain rfl:=R.det_sc (w:=.non) r rfl
  cases rv
  exact ⟨SeqAt.EqAt.same _,rfl⟩
 ·cases h
  obtain ⟨a,ws,rfl,a1,l1⟩:=r.inv
  cases rv
  obtain ⟨its,_,pl,_⟩:=I.tuple a1.sqt
  exact ⟨SeqAt.EqAt.tuple_none pl hA,rfl⟩
 ·cases h
theorem Qf1 {pins:List (Addr × Obj)}{σ:L2.St}{H:Hp}{s:Shared}(I:Inv X pins σ H s)(hu:X.A.units+31<cLine):∀ {us:List L2.V} {ys:List D} {its:List Value} {b:Bool},RL X.K H us ys->Vals us its->QiM ys=some b->(∀ w∈its,SeqAt.EqAt X.A.in1 s w .none (QjW w))/\its.any QjW=b
 |_,_,_,_,.nil,.nil,h=>by cases h;exact ⟨(fun _ z=>nomatch z),rfl⟩
 |_,_,_,_,.cons r l,.cons rv vs,h=>by
  unfold QiM at h
  obtain ⟨a,h1,h2⟩:=Option.bind_eq_some_iff.mp h
  obtain ⟨c,h3,rfl⟩:=Option.map_eq_some_iff.mp h2
  obtain ⟨k1,k2⟩:=Qf1 I hu l vs h3
  obtain ⟨k3,k4⟩:=Qio I hu r rv h1
  refine ⟨fun w hw=>?_,by rw [List.any_cons,k4,k2]⟩
  rcases List.mem_cons.mp hw with rfl | hw
  ·exact k3
  ·exact k1 w hw
theorem QhU {pins:List (Addr × Obj)}{σ:L2.St}{H:Hp}{s:Shared}(I:Inv X pins σ H s)(hu:X.A.units+31<cLine):∀ {us:List L2.V} {ys:List D} {its:List Value} {j:Nat},RL X.K H us ys->Vals us its->QkF ys=some j->(∃ w,its[j]? = some w/\QjW w=true)/\∀ (i:Nat) w,i<j->its[i]? = some w->QjW w=false
 |_,_,_,_,.nil,.nil,h=>by cases h
 |_,_,_,j,.cons r l,.cons rv vs,h=>by
  unfold QkF at h
  obtain ⟨a,h1,h2⟩:=Option.bind_eq_some_iff.mp h
  obtain ⟨_,k4⟩:=Qio I hu r rv h1
  cases a with
  |true=>cases h2;exact ⟨⟨_,rfl,k4⟩,fun i w hi=>absurd hi (Nat.not_lt_zero i)⟩
  |false=>
   obtain ⟨j',h3,rfl⟩:=Option.map_eq_some_iff.mp (show (QkF _).map (· + 1)=some j from h2)
   obtain ⟨k1,k2⟩:=QhU I hu l vs h3
   refine ⟨k1,fun i w hi hw=>?_⟩
   cases i with
   |zero=>cases hw;exact k4
   |succ i=>exact k2 i w (Nat.lt_of_succ_lt_succ hi) hw
def QsZ (K:PySem.W.Frag):R2:=fun x y H Q=>∃ ys b,x=.non/\R K H y (.nd .lst ys)/\QiM ys=some b/\Q (.bl b) H
theorem Qj4 (hu:X.A.units+31<cLine):OpR X (compareOp .In) (QsZ X.K):=by
 intro pins s σ H x y v u Q I rx ry h
 obtain ⟨ys,b,rfl,r,hb,q⟩:=h
 cases rx
 obtain ⟨a,us,rfl,a1,l1⟩:=r.inv
 cases ry
 obtain ⟨its,rv,pl,_⟩:=I.list a1.sql
 obtain ⟨k1,k2⟩:=Qf1 I hu l1 rv hb
 refine SeqAt.in_listAt QjW pl.isList (fun w hw=>k1 w (by simpa using hw)) ⟨.bl b,H,I,?_,q⟩
 rw [show its.toArray.any QjW=its.any QjW by simp,k2]
 rfl
def QjK:D->D->Option D
 |.non,.nd .lst ys=>(QiM ys).map .bl
 |_,_=>none
theorem Qoj (hK:C.K=X.K):OpD C.K (QsZ X.K) QjK:=fun H v u d e res r q eg=>by
 unfold QjK at eg
 split at eg
 ·obtain ⟨b,hb,rfl⟩:=Option.map_eq_some_iff.mp eg
  obtain rfl:=R.det_sc (w:=.non) r rfl
  exact ⟨_,rfl,fun Q hq=>⟨_,b,rfl,hK▸q,hb,hq⟩⟩
 ·cases eg
def Qq9 (ys:List D):D->Option Nat
 |.non=>if (QiM ys).isSome=true/\ys.length<1000000 then QkF ys else none
 |_=>none
def QtT (K:PySem.W.Frag):L2.V->List L2.V->Hp->VK->Prop:=fun x vs H Q=>∃ ys j,vs=[.non]/\R K H x (.nd .lst ys)/\Qq9 ys .non=some j/\Q (.int ((j:Nat):Int)) H
theorem QqJ (hu:X.A.units+31<cLine):MtR X "list.index" (QtT X.K):=by
 intro pins s σ H x vs v us Q I rx rv h
 obtain ⟨ys,j,rfl,r,he,q⟩:=h
 by_cases cc:(QiM ys).isSome=true/\ys.length<1000000
 ·have he:QkF ys=some j:=(if_pos cc).symm.trans he
  obtain ⟨b,hb⟩:=Option.isSome_iff_exists.mp cc.1
  obtain ⟨a,ws,rfl,a1,l1⟩:=r.inv
  cases rx
  obtain ⟨u,rfl,ru⟩:=Qcc rv
  cases ru
  obtain ⟨its,rvs,⟨⟨oc,od,oda,osl⟩,n,h1,h2,h3,h4⟩,hz⟩:=I.list a1.sql
  dsimp only at h2 h3 h4
  subst h2 h3 h4
  obtain ⟨k1,_⟩:=Qf1 I hu l1 rvs hb
  obtain ⟨⟨w,e1,e2⟩,e3⟩:=QhU I hu l1 rvs he
  have hj:j<its.length:=(List.getElem?_eq_some_iff.mp e1).1
  have ll:its.length=ys.length:=by rw [← rvs.length,l1.length]
  refine PySem.call_meets PySem.F.slot_list_index ⟨_,h1,rfl⟩ PySem.F.entry_list_index (PySem.F.args_list_index_2 _ _) (PySem.SeqAt.list_indexAt a its.toArray n none osl .none QjW j (by simpa using hj) (by omega) ?_ fun i hi hij=>?_) ⟨h1,fun y hy=>k1 y (by simpa using hy),?_⟩
  ·have:=(List.getElem?_eq_some_iff.mp e1).2
   simpa [this] using e2
  ·have hi':i<its.length:=by simpa using hi
   have:=e3 i its[i] hij (List.getElem?_eq_getElem hi')
   simpa using this
  ·exact ⟨.int _,H,I.tok _,⟨_,rfl⟩,q⟩
 ·have he:(none:Option Nat)=some j:=(if_neg cc).symm.trans he
  cases he
def QsP:List D->Option D
 | [d]=>some d
 |_=>none
def Qro:D->Option (List D)
 |.nd .lst ys=>some ys
 |_=>none
theorem QmA {d:D}{ys:List D}(h:Qro d=some ys):d=.nd .lst ys:=by
 unfold Qro at h
 split at h
 ·cases h;rfl
 ·cases h
def Qtg (mo:ME)(mr:MA):ME:=fun ρ=>(mo ρ).bind fun r1=>(Rs.of (Qro r1.1)).bind fun ys=>(mr r1.2).bind fun r2=>Rs.of (((QsP r2.1).bind fun e=>Qq9 ys e).map fun j=>(.int ((j:Nat):Int),r2.2))
theorem Qrl (hu:X.A.units+31<cLine)(hK:C.K=X.K)(ho:PE X o (tX ka C pa E mo))(ha:PA X [e] (tA ks C true E mr))(oko:ka.on true=true:=by rfl)(ok:rdL ks=true:=by rfl)(hbase:attributeBase o "index" X.env (eval o X.env)=eval o X.env:=by rfl)
  (hfew:((backTo cpos (starEach [e] X.env)).all (fun x=>!x.1) && (backToKw cpos (keywordEach [] X.env)).all (fun x=>x.1.isSome)
   && decide ([e].length+([]:List Keyword).length+(if ([]:List Keyword).isEmpty then 0 else 1)<30))=true:=by rfl)
  (hline:(apos.endLine == cpos.line)=true:=by rfl) (hs:starEach [e] X.env=(false,eval e X.env) :: starEach [] X.env:=by rfl) (hplain:(backTo cpos (starEach [] X.env)).any (·.1)=false:=by rfl) :
  PE X (.Call (.Attribute o "index" apos) [e] [] cpos) (tX .V C pa E (Qtg mo mr)):=
 Qag (Qjy PySem.F.plainAttrs_list PySem.F.slot_list_index PySem.F.type_list_index (QqJ hu) ho ha hbase hfew hline hs hplain) fun σ H Q h=>by
  obtain ⟨F,ρ,τ,fp,I,h⟩:=h
  refine ⟨F,ρ,τ,fp,I,h.split.mono fun r1 h1 F1 H1 fp1 v I1 n1 f1=>?_⟩
  rw [Kd.tk_on oko] at I1
  obtain ⟨ys,eb,h2⟩:=h1.split.of
  have g1:=Kd.stay oko f1 .refl I1
  obtain ⟨d,ρ1⟩:=r1
  obtain rfl:=QmA eb
  obtain ⟨q,us,rfl,hq,rl⟩:=g1.inv
  refine ⟨.inl ⟨rfl,_,by rw [← hK];exact (At.same hq (QbD I1.fh)).sql⟩,F1,ρ1,τ,fp1,I1,h2.split.mono fun r2 h3 F2 H2 fp2 vs I2 n2 f2=>?_⟩
  rw [QaY ok] at I2
  obtain ⟨z,ez,h4⟩:=h3.of
  obtain ⟨j,eg,rfl⟩:=Option.map_eq_some_iff.mp ez
  obtain ⟨x,ex,eg2⟩:=Option.bind_eq_some_iff.mp eg
  clear eg
  have rl2:=f2.rd I2 ok
  obtain ⟨ds,ρ2⟩:=r2
  dsimp only at ex rl2
  unfold QsP at ex
  split at ex
  ·cases ex
   obtain ⟨v,rfl,r1⟩:=rl2.one
   have g2:=Kd.stay oko f1 n2 I2
   have hx:x=.non:=by
    cases x<;>first | rfl | (cases (show (none:Option Nat)=some j from eg2))
   subst hx
   obtain rfl:=R.det_sc (w:=.non) r1 rfl
   exact ⟨ys,j,rfl,by rw [← hK];exact R.same (QbD I2.fh) g2,eg2,h4 F2 H2 fp2 _ I2 ((n1.trans n2).weak fun z=>by simp [z]) (.sc rfl)⟩
  ·cases ex
end
end TL
namespace TL
open PySem PySem.Spec L2 L2.Srt
section
variable {s:Option Sl}{ρ ρ1:Rho}{k:D × Rho->Prop}{kf:Fl × Rho->Prop}{a b m:ME}{mr:MA}{d x y:D}{i:Nat}{c:Bool}
theorem W_eq {α:Type}{r:Rs α}{x:α}:W r (fun a=>a=x)↔r=.ok x:=⟨fun ⟨a,e,h⟩=>by rw [e,h],fun h=>⟨x,h,rfl⟩⟩
theorem QdA {r:Fr}{d:D}{os:List D}(h:FW r fun a b=>a=d/\b=os):r=.ok d os:=by obtain ⟨a,b,e,rfl,rfl⟩:=h;exact e
theorem Qoz:W (Qsp m (s :: ρ)) kf↔W (m (s :: ρ)) fun r=>kf (.nx,r.2):=by
 show W ((m (s :: ρ)).bind fun r=>.ok (.nx,r.2)) kf↔_
 simp only [W_bind,W_ok]
def nvK (r:D × Rho):Rs (D × Rho):=Rs.of ((asB r.1).map fun b=>(.bl (!b),r.2))
theorem QoI:nvK (.bl c,ρ)=.ok (.bl (!c),ρ):=rfl
theorem Qp6:W (Qsn m (s :: ρ)) k↔W (m (s :: ρ)) fun r=>W (nvK r) k:=W_bind
theorem Qsf {tg:D->Rho->Option Rho}:W (QsB tg m (s :: ρ)) kf↔W (m (s :: ρ)) fun r=>W (Rs.of (tg r.1 r.2)) fun ρ'=>kf (.nx,ρ'):=by
 show W ((m (s :: ρ)).bind fun r=>(Rs.of (tg r.1 r.2)).bind fun ρ'=>.ok (.nx,ρ')) kf↔_
 simp only [W_bind,W_ok]
theorem Ql0 {i j:Nat}:QhM i j (.nd .tup [x,y]) ρ=(setF ρ i x).bind fun ρ1=>setF ρ1 j y:=rfl
def Qtj (k:Addr)(nm:Str)(r:D × Rho):Rs (D × Rho):=if QmQ k nm r.1=true then .ok r else .no
theorem QnJ {a:Addr}{nm:Str}:Qtj a nm (d,ρ)=if QmQ a nm d=true then .ok (d,ρ) else .no:=rfl
theorem QsE {a:Addr}{nm:Str}:W (QtQ a nm m (s :: ρ)) k↔W (m (s :: ρ)) fun r=>W (Qtj a nm r) k:=W_bind
theorem QrY {a:Addr}{f:Str}:Qtp a f (.nd (.ins a [f]) [d])=some d:=by
 show (if a=a then QmX [f] [d] f else none)=_
 rw [if_pos rfl]
 show (if (f == f)=true then some d else _)=_
 rw [if_pos (by simp)]
def Qts (r:D × Rho):Rs (D × Rho):=(Rs.of (Qiu r.1)).bind fun ps=>if ps.length<=4000 then .ok (.lst ((Qq5 Qtc ps).map pnD),r.2) else .no
theorem Ql3:W (Qo3 m (s :: ρ)) k↔W (m (s :: ρ)) fun r=>W (Qts r) k:=W_bind
def QtH (r:List D × Rho):Rs (D × Rho):=(Rs.of (QiS r.1)).bind fun ps=>.ok (.lst (ps.map npD),r.2)
theorem Qng:W (Qqa mr (s :: ρ)) k↔W (mr (s :: ρ)) fun r=>W (QtH r) k:=W_bind
end
def sbK (r:D × Rho):Rs (List D × Rho):=(Rs.of (Qhn [r.1])).bind fun ds=>if D.immL ds=true then .ok (ds,r.2) else .no
theorem QoJ {m:ME}{s:Option Sl}{ρ:Rho}{ka:List D × Rho->Prop}:W (QsH m (s :: ρ)) ka↔W (m (s :: ρ)) fun r=>W (sbK r) ka:=W_bind
theorem Qjq {xs:List D}{i:Int}:gIx (.nd .lst xs) (.int i)=atI xs i:=rfl
theorem Qt6 {xs:List D}{i:Int}:gIx (.nd .tup xs) (.int i)=atI xs i:=rfl
theorem Qed {xs:List D}:QeK [.nd .lst xs]=some (.int xs.length):=rfl
theorem Qrz {xs:List D}:QeK [.nd .tup xs]=some (.int xs.length):=rfl
theorem Qg3:∀ (l:List Int),D.immL (l.map .int)=true
 | []=>rfl
 |_ :: l=>Qg3 l
end TL
namespace TL
open PySem PySem.Spec L2
section
variable {s:Option Sl}{ρ:Rho}{k:D × Rho->Prop}{m:ME}{mr:MA}
def QtY (par:Bool)(cs:List Cp)(tc:MT)(te:ME)(r:List D × Rho):Rs (D × Rho):=(Rs.of (QbX par r.2 (cs.filterMap Cp.is))).bind fun di=>(Rs.of (Qc3 r.2 cs di)).bind fun ρb=>
 match QgW tc te r.1 ρb [] with
 |.ok q=>(Rs.of (outs (ioB cs) q.2)).bind fun os=>.ok (.lst q.1,QbA par r.2 (cs.filterMap Cp.is) os)
 |_=>.no
theorem QnA {par:Bool}{cs:List Cp}{mi:MA}{tc:MT}{te:ME}:W (Qpd par cs mi tc te (s :: ρ)) k↔W (mi (s :: ρ)) fun r=>W (QtY par cs tc te r) k:=W_bind
def rvK (r:D × Rho):Rs (D × Rho):=(Rs.of (asL r.1)).bind fun xs=>if D.immL xs.reverse=true then .ok (.lst xs.reverse,r.2) else .no
theorem QqV {xs:List D}:rvK (.nd .lst xs,ρ)=if D.immL xs.reverse=true then .ok (.lst xs.reverse,ρ) else .no:=rfl
theorem Qqt:W (Qsr m (s :: ρ)) k↔W (m (s :: ρ)) fun r=>W (rvK r) k:=W_bind
def lrK (r:List D × Rho):Rs (D × Rho):=(Rs.of (Qjs r.1)).bind fun n=>if n.toNat<=2 ^ 24 then .ok (.lst (Qs8 0 n.toNat),r.2) else .no
theorem Qm9:W (QoE mr (s :: ρ)) k↔W (mr (s :: ρ)) fun r=>W (lrK r) k:=W_bind
def tpK (ks:List Kd)(r:List D × Rho):Rs (D × Rho):=(Rs.of (Qld ks r.1 r.2)).bind fun q=>if q.1.length<=sizeLine then .ok (.tup q.1,q.2) else .no
theorem QpP {ks:List Kd}:W (Qrk ks mr (s :: ρ)) k↔W (mr (s :: ρ)) fun r=>W (tpK ks r) k:=W_bind
end
end TL
namespace G94
open PySem PySem.Spec L2 TL
structure Z where
 K:PySem.W.Frag
 c_GlowError:Addr
 c_NoText:Addr
 t_FIGURES:Tok
 t_LETTERS:Tok
 t_MOST_LETTERS:Tok
 t_MOST_PLAYED_FIGURES:Tok
 q_LAMP_WORDS:Addr
 q_PARTS:Addr
 w_PARTS_0:Addr
 w_PARTS_1:Addr
 w_PARTS_2:Addr
 w_PARTS_3:Addr
 w_PARTS_4:Addr
 w_PARTS_5:Addr
 w_PARTS_6:Addr
def tab (z:Z):List (Addr × List Str):=[(z.w_PARTS_0,["place","strength"]),(z.w_PARTS_1,["place"]),(z.w_PARTS_2,["place","place"]),(z.w_PARTS_3,["place","strength"]),(z.w_PARTS_4,["place"]),(z.w_PARTS_5,["place"]),(z.w_PARTS_6,["place","loss"])]
def top (i:Nat):Stmt:=PySem.Challenge.pw_glowcells_k94_whole_deeds_read_by_hand.main.body.getD i (.Pass ⟨0,0,0,0⟩)
structure Con (z:Z)(y:Y):Prop where
 all_:y.mg "all" = none
 any_:y.mg "any" = none
 bool:y.mg "bool" = none
 enumerate:y.mg "enumerate" = none
 int_:y.mg "int" = none
 isinstance:y.mg "isinstance" = none
 len:y.mg "len" = none
 max_:y.mg "max" = none
 range:y.mg "range" = none
 str_:y.mg "str" = none
 tuple:y.mg "tuple" = none
 g_GlowError:y.mg "GlowError" = some (.ref z.c_GlowError)
 g_NoText:y.mg "NoText" = some (.ref z.c_NoText)
 k_FIGURES:y.mg "FIGURES" = some (.str "0123456789" z.t_FIGURES)
 k_LETTERS:y.mg "LETTERS" = some (.str "abcdefghijklmnopqrstuvwxyz" z.t_LETTERS)
 k_MOST_LETTERS:y.mg "MOST_LETTERS" = some (.int 8 z.t_MOST_LETTERS)
 k_MOST_PLAYED_FIGURES:y.mg "MOST_PLAYED_FIGURES" = some (.int 200 z.t_MOST_PLAYED_FIGURES)
 g_LAMP_WORDS:y.mg "LAMP_WORDS" = some (.ref z.q_LAMP_WORDS)
 g_PARTS:y.mg "PARTS" = some (.ref z.q_PARTS)
 t_LAMP_WORDS:WTup z.K z.q_LAMP_WORDS ["put","out","move","turn"]
 w_PARTS:Qn5 y.P y.w z.K z.q_PARTS (List.zip [.inr "put",.inr "out",.inr "move",.inr "turn",.inr "wall",.inr "open",.inr "glass"] ([z.w_PARTS_0,z.w_PARTS_1,z.w_PARTS_2,z.w_PARTS_3,z.w_PARTS_4,z.w_PARTS_5,z.w_PARTS_6].map L2.V.ref))
 tab:QkC z.K (tab z)
 ec_NoText:YE.ECls z.K z.c_NoText
 es_NoText:Qsw z.K z.c_NoText
 nl_NoText:NoAttr z.K z.c_NoText "line"
 eb_NoText:Qp8 z.K z.c_GlowError
 dummy:True
noncomputable section
set_option hygiene false in
local macro_rules
 | `($x^^^$y)=>`(Room.mono $x (by decide))
 | `($x <<< $y)=>`(fnU (N:=$x) F ⟨rfl,rfl,rfl,by decide +kernel,rfl,by decide +kernel,by decide +kernel⟩ rfl (.inl rfl) fun hC hr hd S hown=>$y)
 | `($x >>> $y)=>`(fnU (N:=$x) F ⟨rfl,rfl,rfl,by decide +kernel,rfl,by decide +kernel,by decide +kernel⟩ rfl (.inr rfl) fun hC hr hd S hown=>$y)
abbrev Qg7 (z:Z)(y:Y):Prop:=Te z.K y z.c_NoText "NoText"
theorem Qkh {z:Z}{y:Y}{f:Addr}{fd:FuncData}(con:Con z y)(F:Fun z.K "__init__" "NoText.__init__" (QhR (top 2) 0) f fd):FnOk y.P y.w z.K y.mg y.base CX0 1 f fd ["self","line"] (Qfn z.K z.c_NoText):=by
 refine F.ok (N:=["self","line"]) ⟨rfl,rfl,rfl,by decide +kernel,rfl,by decide +kernel,by decide +kernel⟩ (fun vs H Q E h=>?_) (fun cdv A outer s H vs Q E hr h=>?_)
 ·obtain ⟨e,x,f,rfl,_⟩:=h;rfl
 ·obtain ⟨e,x,fi,rfl,he,hi,k⟩:=h
  refine ⟨_,QgQ (Qil (QkR con.eb_NoText con.g_GlowError (Qeg (pv 0) (Qeg (pv 1) Qgs))) rfl) (Qin (QkS (pv 0) (pv 1) rfl)),?_⟩
  refine ⟨_,rfl,_,rfl,e,_,none,[x],fi,rfl,he,hi,(by show 1<=sizeLine;decide),_,rfl,_,rfl,e,_,rfl,he,con.es_NoText,con.nl_NoText,fun d hd=>?_⟩
  rw [Qt4 (Qaj he hd).symm];exact k d hd
def Qb8 (z:Z):Dg z.K (Con z) "is_colour" (top 8)  1 ["value"] [false] .V 1 fun _ R=>R:=
 ⟨_,fun con F  => ["value"] <<< (Qaf (QcY (PW.pt (QcH (Qc5 (Qc1 (Qaq Qfw (Qs5 hC) con.isinstance Qew (Qaa (xv 0) (Qaa (Qik con.str_ QeX) Qab))))) (Qc6 (Qc5 (Qgw QkM QkM dLe dLe Qac (Qaq QaK (QiB hC) con.len PySem.boot_len (Qaa (xv 0) Qab)) (QcK (d:=.int 8) rfl ⟨_,rfl⟩ con.k_MOST_LETTERS)))))) (Qam (Qaw Qk9)) QaV)
  (Qam (Qaw (Qaq (QaD rfl) (QpO hC) con.all_ QcA (Qaa (QeL (Qb6 (p:=true) (par:=false) (cs:=[.me]) (N:=["sign"]) (j:=0) hC rfl Blk.of rfl rfl rfl (QgF (xv 0)) (fun _ _ _ _ _=>Qby) (fun _ _ _ _ _=>Qc8 fun Cb hb=>(Qbw (QfC Qcm Qq6 (xv 0) (QcK (d:=.str "abcdefghijklmnopqrstuvwxyz") rfl ⟨_,rfl⟩ con.k_LETTERS) (by with_unfolding_all rfl)))))) Qab)))))⟩
def Qdk (z:Z):List D->Fr:=QcJ [false] 1 (Qb8 z).1
abbrev Qdp (z:Z)(y:Y):Prop:=Tf z.K y 1 "is_colour" ["value"] [false] .V (Qdk z)
def Qbq (z:Z):Dg z.K (Con z) "read_number" (top 11)  1 ["word","most"] [false,false] .V 2 fun _ R=>R:=
 ⟨_,fun con F  => ["word","most"] <<< (Qaf (QcY (PW.pt (QcH (Qc5 (Qgw QkM QkM dLe dLe Qac (Qaq QaK (QiB hC) con.len PySem.boot_len (Qaa (xv 0) Qab)) (xv 1))) (Qc6 (Qc5 (Qc1 (Qaq (QaD rfl) (QpO hC) con.all_ QcA (Qaa (QeL (Qb6 (p:=true) (par:=false) (cs:=[.me]) (N:=["sign"]) (j:=0) hC rfl Blk.of rfl rfl rfl (QgF (xv 0)) (fun _ _ _ _ _=>Qby) (fun _ _ _ _ _=>Qc8 fun Cb hb=>(Qbw (QfC Qcm Qq6 (xv 0) (QcK (d:=.str "0123456789") rfl ⟨_,rfl⟩ con.k_FIGURES) (by with_unfolding_all rfl)))))) Qab))))))) (Qam (Qaw Qbk)) QaV)
  (Qaf (QcY (PW.pt (Qgm (Qc1 (Qka PySem.F.slot_str_startswith PySem.F.type_str_startswith Qia QlN (xv 0) (QaB Qae Qab))) (Qc6 (Qax (Qdt (QeD hr)) (Qnb hC) (xv 0) Qae (QaA _))))) (Qam (Qaw Qbk)) QaV)
  (Qam (Qaw (Qek QfB Qs3 con.int_ Qfm (Qaa (xv 0) Qab))))))⟩
def Qcx (z:Z):List D->Fr:=QcJ [false,false] 2 (Qbq z).1
abbrev QcD (z:Z)(y:Y):Prop:=Tf z.K y 1 "read_number" ["word","most"] [false,false] .V (Qcx z)
def QbH (z:Z):Dg z.K (Con z) "_law_purse" (top 18)  1 ["_law_script","_law_k"] [false,false] .O 3 fun _ R=>R:=
 ⟨_,fun con F  => ["_law_script","_law_k","_law_cell"] >>> (Qaf (Qat (i:=2) S rfl (Or.inl rfl) (Qa6 hC (QgV hC (Qfd hC (xv 0) (QaX (xv 1)) (QaX (Qcy QbF QiT (xv 1) Qac))) (Qb1 (QaB Qac Qab))) Qac))
  (Qam (Qaw (QfX (kms:=[("left",(mV 2)),("salt",(mOp Qrg (mOp Qq7 (mOp Qq7 (mV 2) (mOp QsD (mC (.int 977)) (mV 1))) (mC (.int 1))) (mC (.int 18446744073709551616))))]) (QaC Qa8 (QaO (q:=false) (xv 2) (by decide)) (QaC Qa8 (QaO (q:=false) (Qcy QgZ Qrc (Qcy QbF QiT (Qcy QbF QiT (xv 2) (Qcy Qfb Qn7 Qac (xv 1))) Qac) Qac) (by decide)) QfU))))))⟩
def QbL (z:Z):List D->Fr:=QcJ [false,false] 3 (QbH z).1
abbrev Qc2 (z:Z)(y:Y):Prop:=Tf z.K y 1 "_law_purse" ["_law_script","_law_k"] [false,false] .O (QbL z)
def Qck (z:Z):Dg z.K (Con z) "_law_take" (top 19)  1 ["_law_purse_here","_law_room"] [true,false] .V 4 fun _ R=>R:=
 ⟨_,fun con F  => ["_law_purse_here","_law_room","_law_more","_law_found"] <<< (Qaf (QcY (Qax (QjC (QqI hr)) (QrT hC) (QhI (QdE hr) (xb 0) Qae) (Qa9 (QaB Qac (Qt0 (Qll Qac) Qab))) rfl) (Qaf (Qat (i:=2) S rfl (Or.inl rfl) (Qcy QbF QiT (Qcy Qfb Qn7 (QhI (QdE hr) (xb 0) Qae) Qac) Qac))
  (Qaf (Qgg (i:=0) (QdE hr) rfl (by first | exact Or.inl rfl | exact Or.inr (Or.inl rfl) | exact Or.inr (Or.inr rfl)) (Qcy QgZ Qrc (xv 2) Qac) Qae)
  (Qam (Qaw (Qcy QgZ Qrc (Qcy Qgq Qtb (QhI (QdE hr) (xb 0) Qae) Qac) (xv 1)))))) QaV)
  (Qaf (Qat (i:=3) S rfl (Or.inl rfl) (Qcy QgZ Qrc (QhI (QdE hr) (xb 0) Qae) (xv 1)))
  (Qaf (Qgg (i:=0) (QdE hr) rfl (by first | exact Or.inl rfl | exact Or.inr (Or.inl rfl) | exact Or.inr (Or.inr rfl)) (Qcy Qgq Qtb (QhI (QdE hr) (xb 0) Qae) (xv 1)) Qae)
  (Qam (Qaw (xv 3))))))⟩
def Qa1 (z:Z):List D->Fr:=QcJ [true,false] 4 (Qck z).1
abbrev QaF (z:Z)(y:Y):Prop:=Tf z.K y 1 "_law_take" ["_law_purse_here","_law_room"] [true,false] .V (Qa1 z)
def QaN (z:Z):Dg z.K (Con z) "_law_is_figures" (top 25)  1 ["_law_word_here"] [false] .V 1 fun _ R=>R:=
 ⟨_,fun con F  => ["_law_word_here"] <<< (Qaf (QcY (PW.pt (QcH (Qax (Qbz (QeD hr)) (QhQ hC) (xv 0) Qae (QaA _)) (Qc6 (PW.pt (Qgm (Qax (Qbz (QeD hr)) (QhQ hC) (Qnr (xv 0) Qac) Qae (QaA _)) (Qc6 (Qax (Qdt (QeD hr)) (Qnb hC) (xv 0) Qae (QaA _)))))))) (Qam (Qaw Qk9)) QaV)
  (Qam (Qaw (Qaq (QaD rfl) (QpO hC) con.all_ QcA (Qaa (QeL (Qb6 (p:=true) (par:=false) (cs:=[.me]) (N:=["_law_sign"]) (j:=0) hC rfl Blk.of rfl rfl rfl (QgF (xv 0)) (fun _ _ _ _ _=>Qby) (fun _ _ _ _ _=>Qc8 fun Cb hb=>(Qbw (QfC Qcm Qq6 (xv 0) Qae (by with_unfolding_all rfl)))))) Qab)))))⟩
def Qav (z:Z):List D->Fr:=QcJ [false] 1 (QaN z).1
abbrev Qbj (z:Z)(y:Y):Prop:=Tf z.K y 1 "_law_is_figures" ["_law_word_here"] [false] .V (Qav z)
def Qbf (z:Z):Dg z.K (Con z) "_law_is_name" (top 26)  1 ["_law_word_here"] [false] .V 1 fun _ R=>R:=
 ⟨_,fun con F  => ["_law_word_here"] <<< (Qam (Qaw (Qp2 (QfC QkH dLt Qac (Qaq QaK (QiB hC) con.len PySem.boot_len (Qaa (xv 0) Qab)) (QaA _)) (Qp2 (QfC QkH dLt (Qaq QaK (QiB hC) con.len PySem.boot_len (Qaa (xv 0) Qab)) Qac (QaA _)) (Qr4 (Qaq (QaD rfl) (QpO hC) con.all_ QcA (Qaa (QeL (Qb6 (p:=true) (par:=false) (cs:=[.me]) (N:=["_law_sign"]) (j:=0) hC rfl Blk.of rfl rfl rfl (QgF (xv 0)) (fun _ _ _ _ _=>Qby) (fun _ _ _ _ _=>Qc8 fun Cb hb=>(Qbw (QfC Qcm Qq6 (xv 0) Qae (by with_unfolding_all rfl)))))) Qab)))))))⟩
def Qbg (z:Z):List D->Fr:=QcJ [false] 1 (Qbf z).1
abbrev Qb2 (z:Z)(y:Y):Prop:=Tf z.K y 1 "_law_is_name" ["_law_word_here"] [false] .V (Qbg z)
def QdF (z:Z):Dg z.K (Con z) "deed_of" (top 16)  2 ["head","words"] [false,false] .V 6 fun y R=>QcD z y->R:=
 ⟨_,fun con F D_read_number=>["head","words","numbers","parts","many","places"] <<< (Qaf (Qat (i:=2) S rfl (Or.inr rfl) (QeL (Qb6 (p:=true) (par:=false) (cs:=[.me]) (N:=["word"]) (j:=0) hC rfl Blk.of rfl rfl rfl (Qg5 hC (xv 1)) (fun _ _ _ _ _=>Qby) (fun _ _ _ _ _=>Qc8 fun Cb hb=>(Qbw (QbW (spk D_read_number hb) QeM (hr^^^0) (Qaa (xv 0) (Qaa (QcK (d:=.int 200) rfl ⟨_,rfl⟩ con.k_MOST_PLAYED_FIGURES) Qab))))))))
  (Qaf (Qat (i:=3) S rfl (Or.inl rfl) (Qrp (ks:=[.inr "put",.inr "out",.inr "move",.inr "turn",.inr "wall",.inr "open",.inr "glass"]) (as:=[z.w_PARTS_0,z.w_PARTS_1,z.w_PARTS_2,z.w_PARTS_3,z.w_PARTS_4,z.w_PARTS_5,z.w_PARTS_6]) con.w_PARTS con.g_PARTS (Qa6 hC (xv 0) Qac)))
  (Qaf (Qat (i:=4) S rfl (Or.inl rfl) (QjY con.tab (xv 3) (QaB Qae Qab)))
  (Qaf (QcY (PW.pt (QcH (Qax (QjC (QqI hr)) (QrT hC) Qbk (xv 2) rfl) (Qc6 (Qax (Qdt (QeD hr)) (Qnb hC) (Qaq QaK (QiB hC) con.len PySem.boot_len (Qaa (xv 2) Qab)) (Qcy QbF QiT (Qaq QfA (Qsh con.tab) con.len PySem.boot_len (Qaa (xv 3) Qab)) (xv 4)) (QaA _))))) (Qam (Qaw Qbk)) QaV)
  (Qaf (QfY (i0:=5) (par:=false) (cs:=[.me,.fz 2]) (N:=["number","numbers"]) (j:=0) hC rfl S rfl (Or.inl rfl) Blk.of rfl rfl rfl (Qds con.range (Qaa (xv 4) Qab)) (fun _ _ _ _ _=>Qby) (fun _ _ _ _ _=>Qc8 fun Cb hb=>(Qbw (Qa9 (Qaa (Qa6 hb (xv 1) (Qcy Qfb Qn7 Qac (xv 0))) (Qaa (Qa6 hb (xv 1) (Qcy QbF QiT (Qcy Qfb Qn7 Qac (xv 0)) Qac)) Qab))))))
  (Qam (Qaw (QgA con.tuple hC (Qn0 (QgV hC (QgV hC (xv 0) (xv 5)) (Qfd hC (xv 2) (QaX (Qcy Qfb Qn7 Qac (xv 4))) QdR)) Qab)))))))))⟩
def QeR (z:Z):List D->Fr:=QcJ [false,false] 6 (QdF z).1
abbrev Qft (z:Z)(y:Y):Prop:=Tf z.K y 2 "deed_of" ["head","words"] [false,false] .V (QeR z)
def Qb9 (z:Z):Dg z.K (Con z) "_law_word" (top 20)  2 ["_law_purse_here"] [true] .V 1 fun y R=>QaF z y->R:=
 ⟨_,fun con F D__law_take=>["_law_purse_here"] <<< (@Qaf _ _ _ _ _ _ _ _ (@QcY _ _ _ _ _ _ _ _ _ _ _ _ (Qax (Qbz (QeD hr)) (QhQ hC) (QdL (par:=true) (as:=[some 0,none]) (p:=false) (spk D__law_take hC) Qao (hr^^^0) (@Qaa _ _ _ _ _ _ _ _ _ _ _ (xs 0) (@Qaa _ _ _ _ _ _ _ _ _ _ _ Qac Qab rfl rfl) rfl rfl)) Qac (QaA _)) (Qam (@Qaw _ _ _ _ _ _ _ _ (@Qa6 _ _ _ _ _ _ _ _ _ _ _ hC (@Qb1 _ _ _ _ _ _ _ _ (@QaB _ _ _ _ _ _ _ _ _ _ _ _ _ Qae (@QaB _ _ _ _ _ _ _ _ _ _ _ _ _ Qae (@QaB _ _ _ _ _ _ _ _ _ _ _ _ _ Qae (@QaB _ _ _ _ _ _ _ _ _ _ _ _ _ Qae (@QaB _ _ _ _ _ _ _ _ _ _ _ _ _ Qae (@QaB _ _ _ _ _ _ _ _ _ _ _ _ _ Qae (@QaB _ _ _ _ _ _ _ _ _ _ _ _ _ Qae (@QaB _ _ _ _ _ _ _ _ _ _ _ _ _ Qae Qab rfl) rfl) rfl) rfl) rfl) rfl) rfl) rfl) rfl) (QdL (par:=true) (as:=[some 0,none]) (p:=false) (spk D__law_take hC) Qao (hr^^^0) (@Qaa _ _ _ _ _ _ _ _ _ _ _ (xs 0) (@Qaa _ _ _ _ _ _ _ _ _ _ _ Qac Qab rfl rfl) rfl rfl)) rfl (fun _ _=>rfl)))) QaV) (Qam (@Qaw _ _ _ _ _ _ _ _ (@Qa6 _ _ _ _ _ _ _ _ _ _ _ hC (@Qb1 _ _ _ _ _ _ _ _ (@QaB _ _ _ _ _ _ _ _ _ _ _ _ _ Qae (@QaB _ _ _ _ _ _ _ _ _ _ _ _ _ Qae (@QaB _ _ _ _ _ _ _ _ _ _ _ _ _ Qae (@QaB _ _ _ _ _ _ _ _ _ _ _ _ _ Qae (@QaB _ _ _ _ _ _ _ _ _ _ _ _ _ Qae (@QaB _ _ _ _ _ _ _ _ _ _ _ _ _ Qae (@QaB _ _ _ _ _ _ _ _ _ _ _ _ _ Qae Qab rfl) rfl) rfl) rfl) rfl) rfl) rfl) rfl) (QdL (par:=true) (as:=[some 0,none]) (p:=false) (spk D__law_take hC) Qao (hr^^^0) (@Qaa _ _ _ _ _ _ _ _ _ _ _ (xs 0) (@Qaa _ _ _ _ _ _ _ _ _ _ _ Qac Qab rfl rfl) rfl rfl)) rfl (fun _ _=>rfl)))))⟩
def Qb5 (z:Z):List D->Fr:=QcJ [true] 1 (Qb9 z).1
abbrev QdC (z:Z)(y:Y):Prop:=Tf z.K y 2 "_law_word" ["_law_purse_here"] [true] .V (Qb5 z)
def Qbs (z:Z):Dg z.K (Con z) "_law_colour" (top 21)  2 ["_law_purse_here"] [true] .V 5 fun y R=>QaF z y->R:=
 ⟨_,fun con F D__law_take=>["_law_purse_here","_law_odd","_law_which","_law_found","_law_k"] <<< (@Qaf _ _ _ _ _ _ _ _ (@Qat _ _ _ _ _ _ _ _ 1 _ _ S rfl (Or.inl rfl) (@Qb1 _ _ _ _ _ _ _ _ (@QaB _ _ _ _ _ _ _ _ _ _ _ _ _ Qae (@QaB _ _ _ _ _ _ _ _ _ _ _ _ _ Qae (@QaB _ _ _ _ _ _ _ _ _ _ _ _ _ Qae (@QaB _ _ _ _ _ _ _ _ _ _ _ _ _ Qae (@QaB _ _ _ _ _ _ _ _ _ _ _ _ _ Qae (@QaB _ _ _ _ _ _ _ _ _ _ _ _ _ Qae Qab rfl) rfl) rfl) rfl) rfl) rfl) rfl) rfl (by first | exact Or.inr rfl | exact Or.inl rfl)) (@Qaf _ _ _ _ _ _ _ _ (@Qat _ _ _ _ _ _ _ _ 2 _ _ S rfl (Or.inl rfl) (QdL (par:=true) (as:=[some 0,none]) (p:=false) (spk D__law_take hC) Qao (hr^^^0) (@Qaa _ _ _ _ _ _ _ _ _ _ _ (xs 0) (@Qaa _ _ _ _ _ _ _ _ _ _ _ Qac Qab rfl rfl) rfl rfl)) rfl (by first | exact Or.inr rfl | exact Or.inl rfl)) (@Qaf _ _ _ _ _ _ _ _ (@QcY _ _ _ _ _ _ _ _ _ _ _ _ (Qax QkH dLt (xv 2) (Qaq QaK (QiB hC) con.len PySem.boot_len (@Qaa _ _ _ _ _ _ _ _ _ _ _ (xv 1) Qab rfl rfl)) (QaA _)) (Qam (@Qaw _ _ _ _ _ _ _ _ (@Qa6 _ _ _ _ _ _ _ _ _ _ _ hC (xv 1) (xv 2) rfl (fun _ _=>rfl)))) QaV) (@Qaf _ _ _ _ _ _ _ _ (@Qat _ _ _ _ _ _ _ _ 3 _ _ S rfl (Or.inl rfl) Qae rfl (by first | exact Or.inr rfl | exact Or.inl rfl)) (@Qaf _ _ _ _ _ _ _ _ (Qnc hown rfl (Qds con.range (@Qn0 _ _ _ _ _ _ _ _ _ _ _ _ _ _ (@Qcy _ _ _ _ _ _ _ _ _ _ _ _ _ _ _ QbF QiT Qac (QdL (par:=true) (as:=[some 0,none]) (p:=false) (spk D__law_take hC) Qao (hr^^^0) (@Qaa _ _ _ _ _ _ _ _ _ _ _ (xs 0) (@Qaa _ _ _ _ _ _ _ _ _ _ _ Qac Qab rfl rfl) rfl rfl)) rfl rfl) Qab rfl)) (Qbb (i:=4) S rfl (Or.inl rfl)) Qiq (Qam (@Qat _ _ _ _ _ _ _ _ 3 _ _ S rfl (Or.inl rfl) (@Qcy _ _ _ _ _ _ _ _ _ _ _ _ _ _ _ QbR Qkg (xv 3) (Qnr Qae (QdL (par:=true) (as:=[some 0,none]) (p:=false) (spk D__law_take hC) Qao (hr^^^0) (@Qaa _ _ _ _ _ _ _ _ _ _ _ (xs 0) (@Qaa _ _ _ _ _ _ _ _ _ _ _ Qac Qab rfl rfl) rfl rfl))) rfl rfl) rfl (by first | exact Or.inr rfl | exact Or.inl rfl)))) (Qam (@Qaw _ _ _ _ _ _ _ _ (xv 3))))))))⟩
def Qa0 (z:Z):List D->Fr:=QcJ [true] 5 (Qbs z).1
abbrev Qcw (z:Z)(y:Y):Prop:=Tf z.K y 2 "_law_colour" ["_law_purse_here"] [true] .V (Qa0 z)
def Qbd (z:Z):Dg z.K (Con z) "_law_figures" (top 22)  2 ["_law_purse_here"] [true] .V 3 fun y R=>QaF z y->R:=
 ⟨_,fun con F D__law_take=>["_law_purse_here","_law_odd","_law_which"] <<< (@Qaf _ _ _ _ _ _ _ _ (@Qat _ _ _ _ _ _ _ _ 1 _ _ S rfl (Or.inl rfl) (@Qb1 _ _ _ _ _ _ _ _ (@QaB _ _ _ _ _ _ _ _ _ _ _ _ _ Qae (@QaB _ _ _ _ _ _ _ _ _ _ _ _ _ Qae (@QaB _ _ _ _ _ _ _ _ _ _ _ _ _ Qae (@QaB _ _ _ _ _ _ _ _ _ _ _ _ _ Qae (@QaB _ _ _ _ _ _ _ _ _ _ _ _ _ Qae (@QaB _ _ _ _ _ _ _ _ _ _ _ _ _ Qae (@QaB _ _ _ _ _ _ _ _ _ _ _ _ _ Qae (@QaB _ _ _ _ _ _ _ _ _ _ _ _ _ Qae (@QaB _ _ _ _ _ _ _ _ _ _ _ _ _ Qae Qab rfl) rfl) rfl) rfl) rfl) rfl) rfl) rfl) rfl) rfl) rfl (by first | exact Or.inr rfl | exact Or.inl rfl)) (@Qaf _ _ _ _ _ _ _ _ (@Qat _ _ _ _ _ _ _ _ 2 _ _ S rfl (Or.inl rfl) (QdL (par:=true) (as:=[some 0,none]) (p:=false) (spk D__law_take hC) Qao (hr^^^0) (@Qaa _ _ _ _ _ _ _ _ _ _ _ (xs 0) (@Qaa _ _ _ _ _ _ _ _ _ _ _ Qac Qab rfl rfl) rfl rfl)) rfl (by first | exact Or.inr rfl | exact Or.inl rfl)) (@Qaf _ _ _ _ _ _ _ _ (@QcY _ _ _ _ _ _ _ _ _ _ _ _ (Qax QkH dLt (xv 2) (Qaq QaK (QiB hC) con.len PySem.boot_len (@Qaa _ _ _ _ _ _ _ _ _ _ _ (xv 1) Qab rfl rfl)) (QaA _)) (Qam (@Qaw _ _ _ _ _ _ _ _ (@Qa6 _ _ _ _ _ _ _ _ _ _ _ hC (xv 1) (xv 2) rfl (fun _ _=>rfl)))) QaV) (Qam (@Qaw _ _ _ _ _ _ _ _ (Qek Qi5 QtE con.str_ QeX (@Qaa _ _ _ _ _ _ _ _ _ _ _ (QdL (par:=true) (as:=[some 0,none]) (p:=false) (spk D__law_take hC) Qao (hr^^^0) (@Qaa _ _ _ _ _ _ _ _ _ _ _ (xs 0) (@Qaa _ _ _ _ _ _ _ _ _ _ _ (@Qa6 _ _ _ _ _ _ _ _ _ _ _ hC (@Qb1 _ _ _ _ _ _ _ _ (@QaB _ _ _ _ _ _ _ _ _ _ _ _ _ Qac (@QaB _ _ _ _ _ _ _ _ _ _ _ _ _ Qac (@Qn0 _ _ _ _ _ _ _ _ _ _ _ _ _ _ (@Qcy _ _ _ _ _ _ _ _ _ _ _ _ _ _ _ QlE QsV Qac Qac rfl rfl) (@Qn0 _ _ _ _ _ _ _ _ _ _ _ _ _ _ (@Qcy _ _ _ _ _ _ _ _ _ _ _ _ _ _ _ QlE QsV Qac Qac rfl rfl) Qab rfl) rfl) rfl) rfl) rfl) (QdL (par:=true) (as:=[some 0,none]) (p:=false) (spk D__law_take hC) Qao (hr^^^0) (@Qaa _ _ _ _ _ _ _ _ _ _ _ (xs 0) (@Qaa _ _ _ _ _ _ _ _ _ _ _ Qac Qab rfl rfl) rfl rfl)) rfl (fun _ _=>rfl)) Qab rfl rfl) rfl rfl)) Qab rfl rfl)))))))⟩
def Qbi (z:Z):List D->Fr:=QcJ [true] 3 (Qbd z).1
abbrev QbY (z:Z)(y:Y):Prop:=Tf z.K y 2 "_law_figures" ["_law_purse_here"] [true] .V (Qbi z)
def Qbu (z:Z):Dg z.K (Con z) "_law_spoilt" (top 24)  2 ["_law_purse_here","_law_text"] [true,false] .V 8 fun y R=>QaF z y->R:=
 ⟨_,fun con F D__law_take=>["_law_purse_here","_law_text","_law_k","_law_at","_law_sign","_law_way","_law_put","_law_rest"] <<< (Qaf (Qnc hown rfl (Qds con.range (Qaa (Qaq (Qjp rfl) dI2 con.max_ QiN (QaB Qac (Qn0 (Qcy QoP Qtu (QdL (par:=true) (as:=[some 0,none]) (p:=false) (spk D__law_take hC) Qao (hr^^^0) (Qaa (xs 0) (Qaa Qac Qab))) Qac) Qab))) Qab)) (Qbb (i:=2) S rfl (Or.inl rfl)) Qiq (Qaf (Qat (i:=3) S rfl (Or.inl rfl) (QdL (par:=true) (as:=[some 0,none]) (p:=false) (spk D__law_take hC) Qao (hr^^^0) (Qaa (xs 0) (Qaa (Qcy QbF QiT (Qaq QaK (QiB hC) con.len PySem.boot_len (Qaa (xv 1) Qab)) Qac) Qab))))
  (Qaf (Qat (i:=4) S rfl (Or.inl rfl) (Qnr Qae (QdL (par:=true) (as:=[some 0,none]) (p:=false) (spk D__law_take hC) Qao (hr^^^0) (Qaa (xs 0) (Qaa Qac Qab)))))
  (Qaf (Qat (i:=5) S rfl (Or.inl rfl) (QdL (par:=true) (as:=[some 0,none]) (p:=false) (spk D__law_take hC) Qao (hr^^^0) (Qaa (xs 0) (Qaa Qac Qab))))
  (Qaf (Qat (i:=6) S rfl (Or.inl rfl) (Qa6 hC (Qb1 (Qaa (xv 4) (QaB Qae (Qaa (xv 4) Qab)))) (xv 5)))
  (Qaf (Qat (i:=7) S rfl (Or.inl rfl) (QhY (xv 1) (QaX (Qcy QbF QiT (xv 3) (Qa6 hC (Qb1 (QaB Qac (QaB Qac (QaB Qac Qab)))) (xv 5)))) QdR))
  (Qam (Qat (i:=1) S rfl (Or.inl rfl) (Qcy QbR Qkg (Qcy QbR Qkg (QhY (xv 1) QdR (QaX (xv 3))) (xv 6)) (xv 7))))))))))
  (Qam (Qaw (xv 1))))⟩
def Qbn (z:Z):List D->Fr:=QcJ [true,false] 8 (Qbu z).1
abbrev QcE (z:Z)(y:Y):Prop:=Tf z.K y 2 "_law_spoilt" ["_law_purse_here","_law_text"] [true,false] .V (Qbn z)
def Qbe (z:Z):Dg z.K (Con z) "_law_deed_of" (top 27)  2 ["_law_line"] [false] .V 8 fun y R=>Qbj z y->Qb2 z y->R:=
 ⟨_,fun con F D__law_is_figures D__law_is_name=>["_law_line","_law_forms","_law_words","_law_coloured","_law_many","_law_told_here","_law_numbers","_law_found"] <<< (@Qaf _ _ _ _ _ _ _ _ (@QdY _ _ _ _ _ _ _ _ 1 _ _ S rfl (Or.inl rfl) (@QfX _ _ _ _ _ _ [("put",(Qki (Qai (mC (.int 1)) (Qai (mC (.int 3)) QaL)))),("out",(Qki (Qai (mC (.int 1)) (Qai (mC (.int 2)) QaL)))),("move",(Qki (Qai (mC (.int 1)) (Qai (mC (.int 4)) QaL)))),("turn",(Qki (Qai (mC (.int 1)) (Qai (mC (.int 3)) QaL)))),("wall",(Qki (Qai (mC (.int 0)) (Qai (mC (.int 2)) QaL)))),("open",(Qki (Qai (mC (.int 0)) (Qai (mC (.int 2)) QaL))))] (@QaC _ _ _ _ _ _ _ _ _ Qa8 (@QaO _ _ _ _ _ _ _ false (@Qa9 _ _ _ _ _ _ _ _ _ (@QaB _ _ _ _ _ _ _ _ _ _ _ _ _ Qac (@QaB _ _ _ _ _ _ _ _ _ _ _ _ _ Qac Qab rfl) rfl) rfl) (by decide)) (@QaC _ _ _ _ _ _ _ _ _ Qa8 (@QaO _ _ _ _ _ _ _ false (@Qa9 _ _ _ _ _ _ _ _ _ (@QaB _ _ _ _ _ _ _ _ _ _ _ _ _ Qac (@QaB _ _ _ _ _ _ _ _ _ _ _ _ _ Qac Qab rfl) rfl) rfl) (by decide)) (@QaC _ _ _ _ _ _ _ _ _ Qa8 (@QaO _ _ _ _ _ _ _ false (@Qa9 _ _ _ _ _ _ _ _ _ (@QaB _ _ _ _ _ _ _ _ _ _ _ _ _ Qac (@QaB _ _ _ _ _ _ _ _ _ _ _ _ _ Qac Qab rfl) rfl) rfl) (by decide)) (@QaC _ _ _ _ _ _ _ _ _ Qa8 (@QaO _ _ _ _ _ _ _ false (@Qa9 _ _ _ _ _ _ _ _ _ (@QaB _ _ _ _ _ _ _ _ _ _ _ _ _ Qac (@QaB _ _ _ _ _ _ _ _ _ _ _ _ _ Qac Qab rfl) rfl) rfl) (by decide)) (@QaC _ _ _ _ _ _ _ _ _ Qa8 (@QaO _ _ _ _ _ _ _ false (@Qa9 _ _ _ _ _ _ _ _ _ (@QaB _ _ _ _ _ _ _ _ _ _ _ _ _ Qac (@QaB _ _ _ _ _ _ _ _ _ _ _ _ _ Qac Qab rfl) rfl) rfl) (by decide)) (@QaC _ _ _ _ _ _ _ _ _ Qa8 (@QaO _ _ _ _ _ _ _ false (@Qa9 _ _ _ _ _ _ _ _ _ (@QaB _ _ _ _ _ _ _ _ _ _ _ _ _ Qac (@QaB _ _ _ _ _ _ _ _ _ _ _ _ _ Qac Qab rfl) rfl) rfl) (by decide)) QfU)))))) rfl rfl (by simp) (by decide)) rfl (by first | exact Or.inr rfl | exact Or.inl rfl)) (@Qaf _ _ _ _ _ _ _ _ (Qgg (i:=1) (QdE hr) rfl (by first | exact Or.inl rfl | exact Or.inr (Or.inl rfl) | exact Or.inr (Or.inr rfl)) (@Qa9 _ _ _ _ _ _ _ _ _ (@QaB _ _ _ _ _ _ _ _ _ _ _ _ _ Qac (@QaB _ _ _ _ _ _ _ _ _ _ _ _ _ Qac Qab rfl) rfl) rfl) Qae) (@Qaf _ _ _ _ _ _ _ _ (@Qat _ _ _ _ _ _ _ _ 2 _ _ S rfl (Or.inl rfl) (@QeL _ _ _ _ _ _ (Qdj (xv 0) (@QaB _ _ _ _ _ _ _ _ _ _ _ _ _ Qae Qab rfl))) rfl (by first | exact Or.inr rfl | exact Or.inl rfl)) (@Qaf _ _ _ _ _ _ _ _ (@QcY _ _ _ _ _ _ _ _ _ _ _ _ (QpX (QdE hr) (@Qa6 _ _ _ _ _ _ _ _ _ _ _ hC (xv 2) Qac rfl (fun _ _=>rfl)) (xb 1)) (Qam (@Qaw _ _ _ _ _ _ _ _ Qbk)) QaV) (@Qaf _ _ _ _ _ _ _ _ (Qr6 (Qlu rfl (Qdc (Qbb (i:=3) S rfl (Or.inl rfl)) (Qdc (Qbb (i:=4) S rfl (Or.inl rfl)) Qie))) (Qh9 hC) (Qsc (QhI (QdE hr) (xb 1) (@Qa6 _ _ _ _ _ _ _ _ _ _ _ hC (xv 2) Qac rfl (fun _ _=>rfl))))) (@Qaf _ _ _ _ _ _ _ _ (@Qat _ _ _ _ _ _ _ _ 5 _ _ S rfl (Or.inl rfl) (Qfd hC (xv 2) (QaX (@Qcy _ _ _ _ _ _ _ _ _ _ _ _ _ _ _ QbF QiT Qac (xv 3) rfl rfl)) QdR) rfl (by first | exact Or.inr rfl | exact Or.inl rfl)) (@Qaf _ _ _ _ _ _ _ _ (@QcY _ _ _ _ _ _ _ _ _ _ _ _ (PW.pt (QcH (Qax (Qdt (QeD hr)) (Qnb hC) (Qaq QaK (QiB hC) con.len PySem.boot_len (@Qaa _ _ _ _ _ _ _ _ _ _ _ (xv 5) Qab rfl rfl)) (xv 4) (QaA _)) (Qc6 (Qc5 (Qc1 (Qaq (QaD rfl) (QpO hC) con.all_ QcA (@Qaa _ _ _ _ _ _ _ _ _ _ _ (@QeL _ _ _ _ _ _ (Qb6 (p:=true) (par:=false) (cs:=[.me]) (N:=["_law_word_here"]) (j:=0) hC rfl Blk.of rfl rfl rfl (Qg5 hC (xv 5)) (fun _ _ _ _ _=>Qby) (fun _ _ _ _ _=>Qc8 fun Cb hb=>(@Qbw _ _ _ _ _ _ (QbW (spk D__law_is_figures hb) QeM (hr^^^0) (@Qaa _ _ _ _ _ _ _ _ _ _ _ (xv 0) Qab rfl rfl)))))) Qab rfl rfl))))))) (Qam (@Qaw _ _ _ _ _ _ _ _ Qbk)) QaV) (@Qaf _ _ _ _ _ _ _ _ (@QcY _ _ _ _ _ _ _ _ _ _ _ _ (PW.pt (Qgm (Qax (Qbz (QeD hr)) (QhQ hC) (xv 3) Qac (QaA _)) (Qc6 (Qc5 (Qc1 (QbW (spk D__law_is_name hC) Qao (hr^^^0) (@Qaa _ _ _ _ _ _ _ _ _ _ _ (@Qa6 _ _ _ _ _ _ _ _ _ _ _ hC (xv 2) Qac rfl (fun _ _=>rfl)) Qab rfl rfl))))))) (Qam (@Qaw _ _ _ _ _ _ _ _ Qbk)) QaV) (@Qaf _ _ _ _ _ _ _ _ (QfY (i0:=6) (par:=false) (cs:=[.me]) (N:=["_law_word_here"]) (j:=0) hC rfl S rfl (Or.inl rfl) Blk.of rfl rfl rfl (Qg5 hC (xv 5)) (fun _ _ _ _ _=>Qby) (fun _ _ _ _ _=>Qc8 fun Cb hb=>(@Qbw _ _ _ _ _ _ (Qek QfB Qs3 con.int_ Qfm (@Qaa _ _ _ _ _ _ _ _ _ _ _ (xv 0) Qab rfl rfl))))) (@Qaf _ _ _ _ _ _ _ _ (@QdY _ _ _ _ _ _ _ _ 7 _ _ S rfl (Or.inl rfl) (Qqm hC (Qfd hC (xv 2) QdR (QaX (@Qcy _ _ _ _ _ _ _ _ _ _ _ _ _ _ _ QbF QiT Qac (xv 3) rfl rfl))) (@Qb1 _ _ _ _ _ _ _ _ (@Qr8 _ _ _ _ _ _ _ _ _ _ _ _ _ (@Qa9 _ _ _ _ _ _ _ _ _ (@Qaa _ _ _ _ _ _ _ _ _ _ _ (@Qa6 _ _ _ _ _ _ _ _ _ _ _ hC (xv 6) Qac rfl (fun _ _=>rfl)) (@Qaa _ _ _ _ _ _ _ _ _ _ _ (@Qa6 _ _ _ _ _ _ _ _ _ _ _ hC (xv 6) Qac rfl (fun _ _=>rfl)) Qab rfl rfl) rfl rfl) rfl) Qab rfl) rfl)) rfl (by first | exact Or.inr rfl | exact Or.inl rfl)) (@Qaf _ _ _ _ _ _ _ _ (@QcY _ _ _ _ _ _ _ _ _ _ _ _ (Qax (Qbz (QeD hr)) (QhQ hC) (@Qa6 _ _ _ _ _ _ _ _ _ _ _ hC (xv 2) Qac rfl (fun _ _=>rfl)) Qae (QaA _)) (Qam (QkZ (i:=7) hC rfl (by first | exact Or.inl rfl | exact Or.inr (Or.inl rfl) | exact Or.inr (Or.inr rfl)) (@Qbw _ _ _ _ _ _ (@Qa9 _ _ _ _ _ _ _ _ _ (@Qaa _ _ _ _ _ _ _ _ _ _ _ (@Qa6 _ _ _ _ _ _ _ _ _ _ _ hC (xv 6) Qac rfl (fun _ _=>rfl)) (@Qaa _ _ _ _ _ _ _ _ _ _ _ (@Qa6 _ _ _ _ _ _ _ _ _ _ _ hC (xv 6) Qac rfl (fun _ _=>rfl)) Qab rfl rfl) rfl rfl) rfl)))) (Qam (@QcY _ _ _ _ _ _ _ _ _ _ _ _ (Qax (Qbz (QeD hr)) (QhQ hC) (xv 4) Qac (QaA _)) (Qam (QkZ (i:=7) hC rfl (by first | exact Or.inl rfl | exact Or.inr (Or.inl rfl) | exact Or.inr (Or.inr rfl)) (@Qbw _ _ _ _ _ _ (@Qa6 _ _ _ _ _ _ _ _ _ _ _ hC (xv 6) Qac rfl (fun _ _=>rfl))))) QaV))) (Qam (@Qaw _ _ _ _ _ _ _ _ (QgA con.tuple hC (@Qaa _ _ _ _ _ _ _ _ _ _ _ (xv 7) Qab rfl rfl)))))))))))))))⟩
def QaS (z:Z):List D->Fr:=QcJ [false] 8 (Qbe z).1
abbrev QbZ (z:Z)(y:Y):Prop:=Tf z.K y 2 "_law_deed_of" ["_law_line"] [false] .V (QaS z)
def Qcg (z:Z):Dg z.K (Con z) "read_deed" (top 15)  3 ["line"] [false] .V 2 fun y R=>Qdp z y->Qft z y->R:=
 ⟨_,fun con F D_is_colour D_deed_of=>["line","words"] <<< (Qaf (Qat (i:=1) S rfl (Or.inl rfl) (QeL (Qdj (xv 0) (QaB Qae Qab))))
  (Qaf (QcY (QoZ (kvs:=List.zip [.inr "put",.inr "out",.inr "move",.inr "turn",.inr "wall",.inr "open",.inr "glass"] ([z.w_PARTS_0,z.w_PARTS_1,z.w_PARTS_2,z.w_PARTS_3,z.w_PARTS_4,z.w_PARTS_5,z.w_PARTS_6].map L2.V.ref)) con.w_PARTS con.g_PARTS (Qa6 hC (xv 1) Qac)) (Qam (Qaw Qbk)) QaV)
  (Qaf (QcY (Qax QeT (QtJ con.t_LAMP_WORDS) (Qa6 hC (xv 1) Qac) (QcK (d:=.cls z.q_LAMP_WORDS) rfl rfl con.g_LAMP_WORDS) rfl) (Qam (Qaw (QbW (spk D_deed_of hC) Qao (hr^^^0) (Qaa (Qfd hC (xv 1) QdR (QaX Qac)) (Qaa (Qfd hC (xv 1) (QaX Qac) QdR) Qab))))) QaV)
  (Qaf (QcY (PW.pt (QcH (Qax (Qbz (QeD hr)) (QhQ hC) (Qaq QaK (QiB hC) con.len PySem.boot_len (Qaa (xv 1) Qab)) Qac (QaA _)) (Qc6 (Qc5 (Qc1 (QbW (spk D_is_colour hC) Qao (hr^^^0) (Qaa (Qa6 hC (xv 1) Qac) Qab))))))) (Qam (Qaw Qbk)) QaV)
  (Qam (Qaw (QbW (spk D_deed_of hC) Qao (hr^^^0) (Qaa (Qfd hC (xv 1) QdR (QaX Qac)) (Qaa (Qfd hC (xv 1) (QaX Qac) QdR) Qab)))))))))⟩
def Qa4 (z:Z):List D->Fr:=QcJ [false] 2 (Qcg z).1
abbrev Qdm (z:Z)(y:Y):Prop:=Tf z.K y 3 "read_deed" ["line"] [false] .V (Qa4 z)
def QaQ (z:Z):Dg z.K (Con z) "_law_drawn_line" (top 23)  3 ["_law_purse_here"] [true] .V 4 fun y R=>QaF z y->QdC z y->Qcw z y->QbY z y->R:=
 ⟨_,fun con F D__law_take D__law_word D__law_colour D__law_figures=>["_law_purse_here","_law_word_here","_law_many","_law_words"] <<< (@Qaf _ _ _ _ _ _ _ _ (@Qat _ _ _ _ _ _ _ _ 1 _ _ S rfl (Or.inl rfl) (QdL (par:=true) (as:=[some 0]) (p:=false) (spk D__law_word hC) Qao (hr^^^0) (@Qaa _ _ _ _ _ _ _ _ _ _ _ (xs 0) Qab rfl rfl)) rfl (by first | exact Or.inr rfl | exact Or.inl rfl)) (@Qaf _ _ _ _ _ _ _ _ (@Qat _ _ _ _ _ _ _ _ 2 _ _ S rfl (Or.inl rfl) (@QkK _ _ _ _ _ _ _ _ _ _ _ _ _ _ (QdE hr) (@QeL _ _ _ _ _ _ (@QfX _ _ _ _ _ _ [("put",(mC (.int 3))),("out",(mC (.int 2))),("move",(mC (.int 4))),("turn",(mC (.int 3))),("glass",(mC (.int 3)))] (@QaC _ _ _ _ _ _ _ _ _ Qa8 (@QaO _ _ _ _ _ _ _ false Qac (by decide)) (@QaC _ _ _ _ _ _ _ _ _ Qa8 (@QaO _ _ _ _ _ _ _ false Qac (by decide)) (@QaC _ _ _ _ _ _ _ _ _ Qa8 (@QaO _ _ _ _ _ _ _ false Qac (by decide)) (@QaC _ _ _ _ _ _ _ _ _ Qa8 (@QaO _ _ _ _ _ _ _ false Qac (by decide)) (@QaC _ _ _ _ _ _ _ _ _ Qa8 (@QaO _ _ _ _ _ _ _ false Qac (by decide)) QfU))))) rfl rfl (by simp) (by decide))) (xv 1) Qac rfl rfl ⟨rfl,rfl,rfl,rfl⟩) rfl (by first | exact Or.inr rfl | exact Or.inl rfl)) (@Qaf _ _ _ _ _ _ _ _ (@QcY _ _ _ _ _ _ _ _ _ _ _ _ (Qax (Qbz (QeD hr)) (QhQ hC) (QdL (par:=true) (as:=[some 0,none]) (p:=false) (spk D__law_take hC) Qao (hr^^^0) (@Qaa _ _ _ _ _ _ _ _ _ _ _ (xs 0) (@Qaa _ _ _ _ _ _ _ _ _ _ _ Qac Qab rfl rfl) rfl rfl)) Qac (QaA _)) (Qam (@Qat _ _ _ _ _ _ _ _ 2 _ _ S rfl (Or.inl rfl) (QdL (par:=true) (as:=[some 0,none]) (p:=false) (spk D__law_take hC) Qao (hr^^^0) (@Qaa _ _ _ _ _ _ _ _ _ _ _ (xs 0) (@Qaa _ _ _ _ _ _ _ _ _ _ _ Qac Qab rfl rfl) rfl rfl)) rfl (by first | exact Or.inr rfl | exact Or.inl rfl))) QaV) (@Qaf _ _ _ _ _ _ _ _ (@QdY _ _ _ _ _ _ _ _ 3 _ _ S rfl (Or.inl rfl) (@Qgz _ _ _ _ _ _ _ _ (@Qaa _ _ _ _ _ _ _ _ _ _ _ (xv 1) Qab rfl rfl) rfl) rfl (by first | exact Or.inr rfl | exact Or.inl rfl)) (@Qaf _ _ _ _ _ _ _ _ (@QcY _ _ _ _ _ _ _ _ _ _ _ _ (PW.pt (QcH (Qax (QjC (QqI hr)) (QrT hC) (xv 1) (@Qa9 _ _ _ _ _ _ _ _ _ (@QaB _ _ _ _ _ _ _ _ _ _ _ _ _ Qae (@QaB _ _ _ _ _ _ _ _ _ _ _ _ _ Qae (@QaB _ _ _ _ _ _ _ _ _ _ _ _ _ Qae (@QaB _ _ _ _ _ _ _ _ _ _ _ _ _ Qae Qab rfl) rfl) rfl) rfl) rfl) rfl) (Qc6 (Qax (Qbz (QeD hr)) (QhQ hC) (QdL (par:=true) (as:=[some 0,none]) (p:=false) (spk D__law_take hC) Qao (hr^^^0) (@Qaa _ _ _ _ _ _ _ _ _ _ _ (xs 0) (@Qaa _ _ _ _ _ _ _ _ _ _ _ Qac Qab rfl rfl) rfl rfl)) Qac (QaA _))))) (Qam (QkZ (i:=3) hC rfl (by first | exact Or.inl rfl | exact Or.inr (Or.inl rfl) | exact Or.inr (Or.inr rfl)) (@Qbw _ _ _ _ _ _ (QdL (par:=true) (as:=[some 0]) (p:=false) (spk D__law_colour hC) Qao (hr^^^0) (@Qaa _ _ _ _ _ _ _ _ _ _ _ (xs 0) Qab rfl rfl))))) QaV) (Qam (@Qaw _ _ _ _ _ _ _ _ (Qka PySem.F.slot_str_join PySem.F.type_str_join QfJ (QnP hC) Qae (@Qn0 _ _ _ _ _ _ _ _ _ _ _ _ _ _ (QgV hC (xv 3) (@QeL _ _ _ _ _ _ (Qb6 (p:=false) (par:=true) (cs:=[.me,.io 0]) (N:=["_law_k","_law_purse_here"]) (j:=0) hC rfl Blk.of rfl rfl rfl (Qds con.range (@Qaa _ _ _ _ _ _ _ _ _ _ _ (xv 2) Qab rfl rfl)) (fun _ _ _ _ _=>Qby) (fun _ _ _ _ _=>Qc8 fun Cb hb=>(@Qbw _ _ _ _ _ _ (QdL (par:=true) (as:=[some 1]) (p:=false) (spk D__law_figures hb) QeM (hr^^^0) (@Qaa _ _ _ _ _ _ _ _ _ _ _ (xs 1) Qab rfl rfl))))))) Qab rfl)))))))))⟩
def QaP (z:Z):List D->Fr:=QcJ [true] 4 (QaQ z).1
abbrev Qbl (z:Z)(y:Y):Prop:=Tf z.K y 3 "_law_drawn_line" ["_law_purse_here"] [true] .V (QaP z)
def Qch (z:Z):Dg z.K (Con z) "_law_read" (top 28)  3 ["_law_text"] [false] .O 2 fun y R=>QbZ z y->R:=
 ⟨_,fun con F D__law_deed_of=>["_law_text","_law_found"] >>> (Qaf (QcY (Qax (Qbz (QeD hr)) (QhQ hC) (xv 0) Qae (QaA _)) (Qam (Qaw (Qgz Qab))) QaV)
  (Qaf (Qp5 (i0:=1) (par:=false) (cs:=[.me]) (N:=["_law_line"]) (j:=0) hC rfl S rfl (Or.inl rfl) Blk.of rfl rfl rfl (Qg5 hC (QeL (Qdj (xv 0) (QaB Qae Qab)))) (fun _ _ _ _ _=>Qby) (fun _ _ _ _ _=>Qc8 fun Cb hb=>(Qbw (QbW (spk D__law_deed_of hb) QeM (hr^^^0) (Qaa (xv 0) Qab)))))
  (Qaf (QcY (Qax (Qj4 (QqI hr)) (Qoj hC) Qbk (xb 1) rfl) (Qam (Qaw (Qbw (Qrl (QqI hr) hC (xb 1) (QaB Qbk Qab))))) QaV)
  (Qam (Qaw (xo 1))))))⟩
def Qdv (z:Z):List D->Fr:=QcJ [false] 2 (Qch z).1
abbrev Qdq (z:Z)(y:Y):Prop:=Tf z.K y 3 "_law_read" ["_law_text"] [false] .O (Qdv z)
def QaT (z:Z):Dg z.K (Con z) "read_deeds" (top 14)  4 ["text"] [false] .O 5 fun y R=>Qg7 z y->Qdm z y->R:=
 ⟨_,fun con F D_NoText D_read_deed=>["text","deeds","number","line","deed"] >>> (Qaf (QcY (Qax (Qbz (QeD hr)) (QhQ hC) (xv 0) Qae (QaA _)) (Qam (Qaw (Qgz Qab))) QaV)
  (Qaf (QdY (i:=1) S rfl (Or.inl rfl) (Qgz Qab))
  (Qaf (Qnc hown rfl (Qmc con.enumerate hC (Qaa (QeL (Qdj (xv 0) (QaB Qae Qab))) Qab)) (Qlu rfl (Qdc (Qbb (i:=2) S rfl (Or.inl rfl)) (Qdc (Qbb (i:=3) S rfl (Or.inl rfl)) Qie))) (Qh9 hC) (Qaf (Qat (i:=4) S rfl (Or.inl rfl) (QbW (spk D_read_deed hC) Qao (hr^^^0) (Qaa (xv 3) Qab)))
  (Qaf (QcY (Qax Qpb QtS (xv 4) Qbk (QaA _)) (Qam (Qj8 hd D_NoText (hr^^^0) (Qaa (xv 2) Qab))) QaV)
  (Qam (QkZ (i:=1) hC rfl (by first | exact Or.inl rfl | exact Or.inr (Or.inl rfl) | exact Or.inr (Or.inr rfl)) (Qbw (xv 4)))))))
  (Qam (Qaw (xo 1))))))⟩
def Qap (z:Z):List D->Fr:=QcJ [false] 5 (QaT z).1
abbrev Qc0 (z:Z)(y:Y):Prop:=Tf z.K y 4 "read_deeds" ["text"] [false] .O (Qap z)
def Qce (z:Z):Dg z.K (Con z) "_law_told" (top 29)  5 ["_law_text"] [false] .O 3 fun y R=>Qc0 z y->R:=
 ⟨_,fun con F D_read_deeds=>["_law_text","_law_found","e"] >>> (Qaf (QpH (K:=z.K) (hs:=[(z.c_NoText,2,(QbQ (mIf (mOr (QaE (Qas Qk0 (Qai (mUn (Qej z.c_NoText) (mV 2)) (Qai (mC (.ty "bool")) QaL)))) (Qhr (QaE (Qas (QfW z.K) (Qai (mV 2) (Qai (mC (.cls z.c_GlowError)) QaL)))))) (QfH (mI (mC .non))) QdQ)
  (QfH (mI (mUn (Qej z.c_NoText) (mV 2))))))]) rfl hC Qet (QkU (i:=2) con.g_NoText S (fun ev=>(Qaf (QcY (PW.pt (QcH (Qc1 (Qaq Qfw (Qs5 hC) con.isinstance Qew (Qaa (Qlt con.ec_NoText con.nl_NoText (xv 2)) (Qaa (Qik con.bool Qhw) Qab)))) (Qc6 (Qc5 (Qc1 (Qaq (g:=QfW z.K) Qim (QrB hC) con.isinstance Qew (Qaa (xv 2) (Qaa (QcK (d:=.cls z.c_GlowError) rfl rfl con.g_GlowError) Qab)))))))) (Qam (Qaw (Qbw Qbk))) QaV)
  (Qam (Qaw (Qbw (Qlt con.ec_NoText con.nl_NoText (xv 2))))))) QnT) (fun C' hK' E' pins' D' hx=>(Qam (QdY (i:=1) S rfl (Or.inl rfl) (QbW (spk D_read_deeds hK') hx (hr^^^0) (Qaa (xv 0) Qab))))))
  (Qam (Qaw (xo 1))))⟩
def Qdx (z:Z):List D->Fr:=QcJ [false] 3 (Qce z).1
abbrev Qdu (z:Z)(y:Y):Prop:=Tf z.K y 5 "_law_told" ["_law_text"] [false] .O (Qdx z)
def Qns (z:Z):Dg z.K (Con z) "law" (top 30)  6 ["_law_script"] [false] .V 5 fun y R=>Qc2 z y->QaF z y->QcE z y->Qbl z y->Qdq z y->Qdu z y->R:=
 ⟨_,fun con F D__law_purse D__law_take D__law_spoilt D__law_drawn_line D__law_read D__law_told=>["_law_script","_law_purse_here","_law_lines","_law_text","_law_wanted"] <<< (Qaf (QdY (i:=1) S rfl (Or.inr rfl) (QbW (spk D__law_purse hC) Qao (hr^^^0) (Qaa (xv 0) (QaB Qac Qab))))
  (Qaf (QfY (i0:=2) (par:=false) (cs:=[.me,.io 1]) (N:=["_law_k","_law_purse_here"]) (j:=0) hC rfl S rfl (Or.inl rfl) Blk.of rfl rfl rfl (Qds con.range (Qaa (QdL (par:=false) (as:=[some 1,none]) (p:=false) (spk D__law_take hC) Qao (hr^^^0) (Qaa (xs 1) (Qaa Qac Qab))) Qab)) (fun _ _ _ _ _=>Qby) (fun _ _ _ _ _=>Qc8 fun Cb hb=>(Qbw (QdL (par:=true) (as:=[some 1]) (p:=false) (spk D__law_drawn_line hb) QeM (hr^^^0) (Qaa (xs 1) Qab)))))
  (Qod (i:=3) S rfl rfl (QdL (par:=false) (as:=[some 1,none]) (p:=false) (spk D__law_spoilt hC) Qao (hr^^^0) (Qaa (xs 1) (Qaa (Qka PySem.F.slot_str_join PySem.F.type_str_join QfJ (QnP hC) Qae (Qaa (xv 2) Qab)) Qab)))
  (Qt1 (Qn8 (Qnu (QdO rfl) (QtC hC) con.any_ Qke (QqM (Qoc (Ql4 (p:=true) (par:=false) (cs:=[.me]) (N:=["_law_word_here"]) (j:=0) hC rfl Blk.of rfl rfl rfl (Qqr hC (Qoc (QkT (Qpt (xv 3)) (QaB Qae Qab)))) (fun _ _ _ _ _=>Qby) (fun _ _ _ _ _=>Qc8 fun Cb hb=>(Qbw (QfC Qrj dGt (Qaq QaK (QiB hb) con.len PySem.boot_len (Qaa (xv 0) Qab)) Qac (QaA _))))))))) (Qam (Qat (i:=3) S rfl (Or.inl rfl) (Qka PySem.F.slot_str_join PySem.F.type_str_join QfJ (QnP hC) Qae (Qaa (xv 2) Qab)))) QaV
  (Qaf (Qat (i:=4) S rfl (Or.inl rfl) (QeL (QbW (spk D__law_read hC) Qao (hr^^^0) (Qaa (xv 3) Qab))))
  (Qaf (QcY (PW.pt (QcH (Qax (Qdt (QeD hr)) (Qnb hC) (QeL (QbW (spk D__law_told hC) Qao (hr^^^0) (Qaa (xv 3) Qab))) (xv 4) (QaA _)) (Qc6 (Qax (Qdt (QeD hr)) (Qnb hC) (QeL (QbW (spk D__law_told hC) Qao (hr^^^0) (QaB Qae Qab))) (Qb1 (Qr8 (Qa9 (QaB Qae (Qr8 (Qa9 (QaB Qac (QaB Qac Qab))) Qab))) Qab)) (QaA _))))) (Qam (Qaw Qk9)) QaV)
  (Qaf (Qat (i:=3) S rfl (Or.inl rfl) (Qcy QbR Qkg (xv 3) Qae))
  (Qaf (QcY (Qax (Qdt (QeD hr)) (Qnb hC) (QeL (QbW (spk D__law_told hC) Qao (hr^^^0) (Qaa (xv 3) Qab))) (QeL (QbW (spk D__law_read hC) Qao (hr^^^0) (Qaa (xv 3) Qab))) (QaA _)) (Qam (Qaw Qk9)) QaV)
  (Qam (Qaw (QfC (Qbz (QeD hr)) (QhQ hC) (QeL (QbW (spk D__law_told hC) Qao (hr^^^0) (Qaa (QhY (xv 3) QdR (QaX (Qll Qac))) Qab))) (xv 4) (QaA _))))))))))))⟩
def QoH (z:Z):List D->Fr:=QcJ [false] 5 (Qns z).1
end
end G94
open PySem PySem.Spec L2 L2.Srt TL
local macro_rules
 | `(~~~$x)=>`(some (TL.Sl.frz $x))
local macro_rules
 | `(tactic| simp? only [$xs,*])=>`(tactic| simp only [w_S,Qqy,Qok,QqR,QoF,w_V,QpL,QpY,QqF,w_B,QoQ,w_O,w_C,Qsu,w_I,QoV,QtN,Qss,Qpu,QrI,Qrh,Qo2,Qsd,QpD,QtA,Qpo,QrZ,Qru,Qq1,QoW,Qpx,Qm5,Qpj,Qsl,Qor,Qrv,Qp1,Qn6,Qqn,QnH,Qo0,Qoa,QqE,QrD,QpI,Qsi,Qpq,QtX,Qqz,Qq3,Qn9,Qq4,QoY,Qpm,Qtv,QnU,QoK,Qnt,QqK,Qrw,Qpi,Qpk,Qqi,QoN,QpB,Qqj,Qpz,Qnh,W_ok,W_bind,Int.reduceEq,W_of,setF,setW,Qso,Qd8,mkS,asB,asI,asL,Qjq,Qt6,atI,ixN,Qq7,TL.Qrm,QsD,Qs7,Qrg,Qti,gLt,gLe,gGt,gGe,gI0,gIc,QeB,Qm1,QtU,Qtw,gI2,Qed,Qrz,QnX,Qkq,List.zipWith_cons_cons,List.zipWith_nil_left,List.zipWith_nil_right,List.replicate,List.cons_append,List.nil_append,List.append_nil,List.length_cons,List.length_nil,List.getElem?_cons_zero,List.getElem?_cons_succ,List.getElem?_nil,List.set_cons_zero,List.set_cons_succ,List.set_nil,Option.map_some,Option.map_none,Option.bind_some,Option.bind_none,Nat.reduceAdd,Nat.reduceSub,Bool.false_eq_true,if_true,if_false,Nat.reduceLT,Nat.reduceLeDiff,Int.reduceLT,Int.reduceLE,Int.toNat_zero,Int.reduceToNat,Int.toNat_one,Int.cast_ofNat_Int,Cp.is,List.filterMap_cons,QbA,QbX,QkG,outs,List.filterMap_cons_none,List.filterMap_cons_some,List.filterMap_nil,id,D.imm,D.immL,Bool.true_and,Bool.and_true,Tag.mut,Bool.not_false,Bool.not_true,decide_eq_true_eq,Bool.decide_eq_true,Int.reduceNeg,sizeLine_eq,Nat.reducePow,Qtq,Nat.zero_add,Nat.succ_eq_add_one,ite_true,ite_false,Bool.not_eq_true,decide_true,decide_false,Qnv,QlO,QlU,QoD,Qom,QrW,List.map_cons,List.map_nil,Qr9,QpQ,QqW,Qnq,Qno,Qqh,Qmw,QnV,Qon,Qpg,Qpp,QpS,Qny,QoR,Qoz,QoI,Qp6,Qsf,Ql0,QnJ,QsE,QrY,Ql3,Qng,QoJ,QnA,QqV,Qqt,Qm9,QpP,Qqp,Qqd,Qr0,QsF,QrO,Qtn,Qox,asS,QlZ,Qqw,Qov,Qgp,Qr2,Qlo,QrL,QqA,Qm6,Qqe,QlL,Qf8,QlY,asC,Qmg,Qhs,QhZ,Qp9,Qnn,Qkn,Qqs,QsI,QnL,$xs,*])
namespace G94
open PySem PySem.Spec L2 L2.Srt TL
variable {z:Z}
theorem Ws {m u:MS}{ρ:Rho}{k:Fl × Rho->Prop}(ρ0:Rho)(h1:W (m ρ) fun r=>r.1=.nx/\r.2=ρ0)(h2:W (u ρ0) k):W (QbQ m u ρ) k:=Qbh (fun ρ=>ρ=ρ0) h1 (by rintro _ rfl;exact h2)
def Qn2 (l s:Int):D:=.nd (.dK [.inr "left",.inr "salt"]) [.int l,.int s]
def Pot (d:D):Prop:=∃ l s:Int,d=Qn2 l s
def spT (n:Int)(d:D)(os:List D):Prop:=∃ r p,d=.int r/\os=[p]/\Pot p/\0<=r/\r<n
theorem Qm4:¬ ((Sum.inr ("left" : Str):Key)=Sum.inr ("salt" : Str)):=by decide +kernel
theorem QjR (l s:Int):Qlw (Qn2 l s) (.str "left")=some (.int l):=by
 show Qbp _ _ _=_
 rw [Qbp,if_pos rfl]
theorem Qi3 (l s:Int):Qlw (Qn2 l s) (.str "salt")=some (.int s):=by
 show Qbp _ _ _=_
 rw [Qbp,if_neg Qm4,Qbp,if_pos rfl]
theorem QeH (l s x:Int):D.nd (.dK (QdN [(Sum.inr ("left" : Str):Key),.inr "salt"] [.int l,.int s] (.inr ("left" : Str)) (.int x)).1) (QdN [(Sum.inr ("left" : Str):Key),.inr "salt"] [.int l,.int s] (.inr ("left" : Str)) (.int x)).2=Qn2 x s:=by
 unfold QdN
 rw [if_pos (by decide +kernel)]
 show D.nd _ [if (Sum.inr ("left" : Str):Key)=Sum.inr ("left" : Str) then D.int x else D.int l,if (Sum.inr ("salt" : Str):Key)=Sum.inr ("left" : Str) then D.int x else D.int s]=_
 rw [if_pos rfl,if_neg (fun h=>Qm4 h.symm)]
 rfl
theorem Qen (l s x:Int):D.nd (.dK (QdN [(Sum.inr ("left" : Str):Key),.inr "salt"] [.int l,.int s] (.inr ("salt" : Str)) (.int x)).1) (QdN [(Sum.inr ("left" : Str):Key),.inr "salt"] [.int l,.int s] (.inr ("salt" : Str)) (.int x)).2=Qn2 l x:=by
 unfold QdN
 rw [if_pos (by decide +kernel)]
 show D.nd _ [if (Sum.inr ("left" : Str):Key)=Sum.inr ("salt" : Str) then D.int x else D.int l,if (Sum.inr ("salt" : Str):Key)=Sum.inr ("salt" : Str) then D.int x else D.int s]=_
 rw [if_pos rfl,if_neg Qm4]
 rfl
theorem Qnw {p:D}{n:Int}(hp:Pot p)(h0:0<n)(h1:n<115792089237316195423570985008687907853269984665640564039457584007913129639936):FW (Qa1 z [p,.int n]) (spT n):=by
 obtain ⟨l,s,rfl⟩:=hp
 unfold Qa1
 refine Qbt ?_
 dsimp only [Qck]
 have cn:∀ a,Qfi a n:=fun a=>⟨h0,h1⟩
 have c1:CMul s 6364136223846793005:=.inr (by decide)
 have c2:∀ a:Int,Qfi a 8192:=fun a=>⟨by decide,by decide⟩
 have g1:(0:Int)<18446744073709551616:=by decide
 have d1:∀ {l s:Int} {ρ:Rho},Qhs (some (.par (Qn2 l s)) :: ρ) 0=some (true,[.inr "left",.inr "salt"],[.int l,.int s]):=rfl
 by_cases hv:(0:Int)=l\/-1=l
 ·simp? only [-Qhs,d1,QjR,Qi3,QeH,Qen,hv,c1,c2,g1,h0,cn]
  exact ⟨_,_,rfl,rfl,_,_,rfl,rfl,⟨_,_,rfl⟩,Int.emod_nonneg _ (by omega),Int.emod_lt_of_pos _ h0⟩
 ·simp? only [-Qhs,d1,QjR,Qi3,QeH,Qen,hv,cn,h0]
  exact ⟨_,_,rfl,rfl,_,_,rfl,rfl,⟨_,_,rfl⟩,Int.emod_nonneg _ (by omega),Int.emod_lt_of_pos _ h0⟩
def script (xs:List Int):D:=.lst (xs.map .int)
theorem Qe5 {par:Bool}{i:Nat}{ρ:Rho}{p p0:D}{n:Int}{k:D × Rho->Prop}(hp:Pot p)(h0:0<n)(h1:n<115792089237316195423570985008687907853269984665640564039457584007913129639936)(hi:ρ[i]? = some (some (mkS par p)))
  (h:∀ r q,Pot q->0<=r->r<n->k (.int r,ρ.set i (some (mkS par q)))):W (cK par [some i,none] (Qa1 z) ([p0,.int n],ρ)) k:=
 Qp7 hi (Qnw hp h0 h1) fun d os ⟨r,q,e1,e2,hq,g0,g1⟩=>by subst e1 e2;exact ⟨q,rfl,h r q hq g0 g1⟩
theorem Qop {α:Type}(xs:List α):Qc9 xs (some 0) (some (0+1))=xs.take 1:=by
 unfold Qc9
 have e0:HT.sIx xs.length 0 (some 0)=0:=by
  have:=HT.sIx_nat xs.length 0 0;simpa using this
 have e1:HT.sIx xs.length xs.length (some (0+1))=min 1 xs.length:=HT.sIx_nat xs.length xs.length 1
 rw [e0,e1,List.drop_zero,Nat.sub_zero]
 cases xs<;>simp
theorem QkX (xs:List Int):FW (QbL z [script xs,.int 0]) (fun d os=>os=[]/\Pot d):=by
 unfold QbL
 refine Qbt ?_
 dsimp only [QbH]
 unfold script
 have c1:CMul 977 0:=.inr (by decide)
 have g1:(0:Int)<18446744073709551616:=by decide
 have nd:(["left","salt"]:List Str).Nodup:=by decide +kernel
 cases xs with
 |nil=>
  simp? only [c1,g1,Qop,nd,List.take_nil,true_and]
  exact ⟨_,_,rfl,rfl,rfl,_,_,rfl⟩
 |cons x r=>
  simp? only [c1,g1,Qop,nd,List.take_succ_cons,List.take_zero,true_and]
  exact ⟨_,_,rfl,rfl,rfl,_,_,rfl⟩
end G94
namespace G94
open PySem PySem.Spec L2 L2.Srt TL PySem.NumText
variable {z:Z}
theorem QdG (c:Nat):∀ l:List Nat,(Qau c l).length<=l.length+1/\∀ w∈Qau c l,w.length<=l.length
 | []=>⟨Nat.le_refl _,fun w h=>by
  have:w=[]:=by simpa [Qau] using h
  rw [this];exact Nat.le_refl _⟩
 |d :: l=>by
  obtain ⟨h1,h2⟩:=QdG c l
  by_cases hc:d=c
  ·rw [Qau,if_pos hc]
   refine ⟨by simp;omega,fun w hw=>?_⟩
   rcases List.mem_cons.mp hw with rfl | hw
   ·simp
   ·have:=h2 w hw;simp;omega
  ·rw [Qau,if_neg hc]
   obtain ⟨h,t,e⟩:=Qcp c l
   rw [e] at h1 h2 ⊢
   refine ⟨by simp at h1 ⊢;omega,fun w hw=>?_⟩
   rcases List.mem_cons.mp hw with rfl | hw
   ·have:=h2 h List.mem_cons_self;simp;omega
   ·have:=h2 w (List.mem_cons_of_mem _ hw);simp;omega
theorem Qct (x:Str)(c:Nat):(Txt.split x ⟨#[c]⟩).length<=x.length+1/\(∀ w∈Txt.split x ⟨#[c]⟩,w.length<=x.length)/\Txt.split x ⟨#[c]⟩≠[]:=by
 have hl:x.cps.toList.length=x.length:=Array.length_toList
 obtain ⟨h1,h2⟩:=QdG c x.cps.toList
 rw [QaH]
 refine ⟨by rw [List.length_map];omega,fun w hw=>?_,?_⟩
 ·obtain ⟨v,hv,rfl⟩:=List.mem_map.mp hw
  have:=h2 v hv
  show v.toArray.size<=_
  rw [List.size_toArray];omega
 ·obtain ⟨h,t,e⟩:=Qcp c x.cps.toList
  rw [e];simp
theorem Qg6:(" " : Str)=⟨#[32]⟩:=by decide +kernel
theorem Qe7:("\n" : Str)=⟨#[10]⟩:=by decide +kernel
theorem QaI {x y:Str}:gEq (.str x) (.str y)=some (.bl (decide (x=y))):=by
 show (eqS (.str x) (.str y)).map D.bl=_
 unfold eqS
 rw [if_pos (by rfl)]
 show some _=some _
 congr 2
 by_cases h:x=y<;>simp [h]
theorem Qev {x y:Str}:gNe (.str x) (.str y)=some (.bl (!decide (x=y))):=by
 show (eqS (.str x) (.str y)).map _=_
 unfold eqS
 rw [if_pos (by rfl)]
 show some _=some _
 congr 3
 by_cases h:x=y<;>simp [h]
def Qis:D->Bool
 |.str s=>Qou s "0123456789"
 |_=>false
def Qgv (w:Str):Bool:=(QbB w).all Qis
theorem dig_of {w:Str}:Qgv w=true↔AllDigits w.cps.toList:=by
 unfold Qgv QbB AllDigits
 rw [List.all_map,List.all_eq_true]
 refine forall_congr' fun c=>forall_congr' fun hc=>?_
 show Qou ⟨#[c]⟩ "0123456789" = true↔_
 unfold Qou
 rw [StrLaws.found_one,QnD,decide_eq_true_eq]
 simp only [List.mem_cons,List.not_mem_nil,or_false]
 omega
theorem Qh1 {w:Str}{r:Rho}(hl:w.length<=1000000):Qas Qji (Qai (Qa5 false [.me] 0 (Qic (mV 0)) Qhv (mI (mOp (Qml id) (mV 0) (mC (.str "0123456789"))))) QaL) (~~~(.str w) :: r)=.ok (.bl (Qgv w),~~~(.str w) :: r):=W_eq.mp (by
 simp? only []
 refine Qkb (ρb:=[none]) (di:=[]) (os:=[]) (g:=fun d=>.bl (Qis d)) rfl rfl (fun d hd=>?_) (by rw [sizeLine_eq];unfold QbB;rw [List.length_map,Array.length_toList];exact Nat.le_trans hl (by decide)) rfl rfl ?_
 ·refine ⟨[~~~d],rfl,?_,rfl⟩
  obtain ⟨c,hc,rfl⟩:=List.mem_map.mp hd
  refine W_eq.mp ?_
  simp? only [Qml,id]
  rfl
 ·have e:(QbB w).map (fun d=>D.bl (Qis d))=((QbB w).map Qis).map .bl:=by rw [List.map_map];rfl
  have e2:Qji [.lst ((QbB w).map fun d=>D.bl (Qis d))]=some (.bl (Qgv w)):=by
   rw [e,Qgb,List.all_map];rfl
  simp? only [e2])
theorem QaZ {s:Str}(h:s.length<=1000000):QeK [.str s]=some (.int s.length):=if_pos (by rw [sizeLine_eq];omega)
def Qbx (w:Str)(c:Nat):Bool:=decide (w.cps.toList[0]? = some c)
theorem QfL (w:Str):Txt.startswith w "0" = Qbx w 48:=by
 have e:("0" : Str)=⟨#[48]⟩:=by decide +kernel
 rw [Bool.eq_iff_iff,Qbx,decide_eq_true_eq,e]
 unfold Txt.startswith
 rw [Bool.and_eq_true_iff,← StrLaws.subAt_one w 48 0,decide_eq_true_eq]
def val (w:Str):Int:=(digitsVal w.cps.toList:Nat)
theorem Qjm {x y:Str}(h:x.cps.toList=y.cps.toList):x=y:=Qjt (by simpa using h)
theorem QiH {w:Str}(hd:Qgv w=true)(h1:1<=w.length)(h2:w.length<=200):Qlo [.str w]=some (.int (val w)):=by
 have hl:w.cps.toList.length=w.length:=Array.length_toList
 have e:=intText_digits (x:=w) (dig_of.mp hd) (fun z=>by rw [z] at hl;simp at hl;omega) (by omega)
 show (if w.length<=640 then (PySem.intText? w).map D.int else none)=_
 rw [if_pos (by omega),e];rfl
variable {z:Z}
theorem Qbv {ρ ρ1:Rho}{mt:MT}{A u:MS}{b:Bool}{k:Fl × Rho->Prop}(t:mt ρ=.ok (b,ρ1))(h1:b=true->W (A ρ1) fun r=>(∃ d,r.1=.rt d)/\k r)(h2:b=false->W (u ρ1) k):W (QbQ (mIf mt A QdQ) u ρ) k:=by
 unfold QbQ
 rw [Qmn t]
 cases b with
 |true=>
  obtain ⟨⟨f,ρ2⟩,e,⟨d,e2⟩,hk⟩:=h1 rfl
  have e2:f=.rt d:=e2
  subst e2
  rw [if_pos rfl,e]
  exact W_ok.mpr hk
 |false=>rw [if_neg (by decide)];exact h2 rfl
section
variable {w:Str}{ρ ρ1:Rho}
theorem Qfa {m:ME}{d:D}{k:Fl × Rho->Prop}(h:m ρ=.ok (d,ρ1))(hk:k (.rt d,ρ1)):W (QfH m ρ) fun r=>(∃ d,r.1=.rt d)/\k r:=by
 refine ⟨(.rt d,ρ1),?_,⟨d,rfl⟩,hk⟩
 unfold QfH;rw [h];rfl
theorem QjT (w:Str):w = "" \/ ∃ c cs,w.cps.toList=c :: cs:=by
 cases e:w.cps.toList with
 |nil=>exact .inl (Qjm (e.trans (by decide +kernel)))
 |cons c cs=>exact .inr ⟨c,cs,rfl⟩
theorem ix0 {c:Nat}{cs:List Nat}(h:w.cps.toList=c :: cs)(hl:w.length<=1000000):QnW (.str w) (.int 0)=some (.str ⟨#[c]⟩):=by
 show (if w.length<=sizeLine then (atI w.cps.toList 0).map _ else none)=_
 have e:atI (c :: cs) 0=some c:=by unfold atI ixN;simp
 rw [if_pos (by rw [sizeLine_eq];omega),h,e];rfl
theorem is0 {c:Nat}:decide ((⟨#[c]⟩:Str) = "0")=decide (c=48):=by
 have e:("0" : Str)=⟨#[48]⟩:=by decide +kernel
 rw [e]
 by_cases h:c=48
 ·subst h;simp
 ·rw [decide_eq_false h,decide_eq_false]
  intro q;injection q with q;simp at q;exact h q
theorem Qf4 {c k:Nat}{cs:List Nat}(h:w.cps.toList=c :: cs):Qbx w k=decide (c=k):=by
 unfold Qbx;rw [h];simp
def QdM (w:Str):D:=if 1<=w.length/\w.length<=200/\Qgv w=true/\¬ (Qbx w 48=true/\w ≠ "0") then .int (val w) else .non
theorem QjQ (hl:w.length<=1000000):Qcx z [.str w,.int 200]=.ok (QdM w) []:=QdA (Qbt (by
 dsimp only [Qbq]
 show W (QbQ _ _ [~~~(.str w),~~~(.int 200)]) _
 have fin:∀ {n:D} {r:Rho},QdM w=n->outs [false,false] r=some []->∃ d os,Fl.rt n=.rt d/\outs [false,false] r=some os/\d=QdM w/\os=[]:=fun e h=>⟨_,[],rfl,h,e.symm,rfl⟩
 refine Qbv (b:=!decide (1<=w.length/\w.length<=200/\Qgv w=true)) (ρ1:=[~~~(.str w),~~~(.int 200)]) ?_ (fun h=>Qfa rfl (fin ?_ rfl)) fun h1=>?_
 ·have af:=Qh1 (w:=w) (r:=[~~~(.int 200)]) hl
  have tf:Qhr (QaE (Qas Qji (Qai (Qa5 false [.me] 0 (Qic (mV 0)) Qhv (mI (mOp (Qml id) (mV 0) (mC (.str "0123456789"))))) QaL))) [~~~(.str w),~~~(.int 200)]=.ok (!Qgv w,[~~~(.str w),~~~(.int 200)]):=by
   unfold Qhr QaE;rw [af];rfl
  have tc:Qhr (QaE (Qfh gLe gLe (mC (.int 1)) (Qas QeK (Qai (mV 0) QaL)) (mV 1))) [~~~(.str w),~~~(.int 200)]=.ok (!decide (1<=w.length/\w.length<=200),[~~~(.str w),~~~(.int 200)]):=by
   by_cases c1:(1:Int)<=(w.length:Int)
   ·have d1:1<=w.length:=by omega
    by_cases c2:(w.length:Int)<=200
    ·have d2:w.length<=200:=by omega
     exact W_eq.mp (by simp? only [QaZ hl,c1,c2,d1,d2,and_self])
    ·have d2:¬ w.length<=200:=by omega
     exact W_eq.mp (by simp? only [QaZ hl,c1,c2,d1,d2,and_false])
   ·have d1:¬ 1<=w.length:=by omega
    exact W_eq.mp (by simp? only [QaZ hl,c1,d1,false_and])
  unfold mOr
  rw [tc]
  by_cases c:1<=w.length/\w.length<=200
  ·show (if (!decide (1<=w.length/\w.length<=200))=true then _ else Qhr _ _)=_
   rw [decide_eq_true c,if_neg (by decide),tf]
   congr 2
   by_cases d:Qgv w=true
   ·rw [d,decide_eq_true ⟨c.1,c.2,rfl⟩]
   ·rw [show Qgv w=false by simpa using d,decide_eq_false (fun q=>by simp at q)]
  ·show (if (!decide (1<=w.length/\w.length<=200))=true then _ else _)=_
   rw [decide_eq_false c,if_pos (by decide),decide_eq_false (fun q=>c ⟨q.1,q.2.1⟩)];rfl
 ·unfold QdM;rw [if_neg (fun q=>by rw [decide_eq_true ⟨q.1,q.2.1,q.2.2.1⟩] at h;cases h)]
 have h1:1<=w.length/\w.length<=200/\Qgv w=true:=by simpa using h1
 refine Qbv (b:=decide (Qbx w 48=true/\w ≠ "0")) (ρ1:=[~~~(.str w),~~~(.int 200)]) ?_ (fun h=>Qfa rfl (fin ?_ rfl)) fun h2=>?_
 ·by_cases c:Qbx w 48=true
  ·by_cases c2:w = "0"
   ·exact W_eq.mp (by simp? only [QfL,c,Qev,eq_true c2,ne_eq,not_true_eq_false,and_false])
   ·exact W_eq.mp (by simp? only [QfL,c,Qev,c2,ne_eq,not_false_eq_true,and_self])
  ·have c':Qbx w 48=false:=by simpa using c
   exact W_eq.mp (by simp? only [QfL,c',false_and])
 ·unfold QdM;rw [if_neg (fun q=>q.2.2.2 (of_decide_eq_true h))]
 have h2:=of_decide_eq_false h2
 simp? only [-Qlo,QiH h1.2.2 h1.1 h1.2.1]
 exact ⟨_,[],rfl,rfl,by unfold QdM;rw [if_pos ⟨h1.1,h1.2.1,h1.2.2,h2⟩],rfl⟩))
end
variable {z:Z}
section
variable {w:Str}{ρ1:Rho}
def QhB (w:Str):Bool:=decide (¬ (w = "" \/ (Qbx w 48=true/\w ≠ "0"))) && Qgv w
theorem QhJ (hl:w.length<=1000000):Qav z [.str w]=.ok (.bl (QhB w)) []:=QdA (Qbt (by
 dsimp only [QaN]
 show W (QbQ _ _ [~~~(.str w)]) _
 refine Qbv (b:=decide (w = "" \/ (Qbx w 48=true/\w ≠ "0"))) (ρ1:=[~~~(.str w)]) ?_ (fun h=>Qfa rfl ⟨_,[],rfl,rfl,?_,rfl⟩) fun h=>?_
 ·rcases QjT w with e | ⟨c,cs,e⟩
  ·exact W_eq.mp (by simp? only [QaI,eq_true e,true_or])
  ·have n0:¬ w = "" := fun q=>by rw [q,show ("" : Str).cps.toList=[] by decide +kernel] at e;cases e
   have g:=ix0 e hl
   by_cases c2:c=48
   ·by_cases c3:w = "0"
    ·exact W_eq.mp (by simp? only [QaI,Qev,n0,g,is0,eq_true c2,Qf4 e,eq_true c3,ne_eq,not_true_eq_false,and_false,or_self])
    ·exact W_eq.mp (by simp? only [QaI,Qev,n0,g,is0,eq_true c2,Qf4 e,c3,ne_eq,not_false_eq_true,and_self,or_true])
   ·exact W_eq.mp (by simp? only [QaI,n0,g,is0,c2,Qf4 e,false_and,or_self])
 ·unfold QhB
  rw [decide_eq_false (fun q=>q (of_decide_eq_true h))];rfl
 ·refine ⟨(.rt (.bl (Qgv w)),[~~~(.str w)]),?_,_,[],rfl,rfl,?_,rfl⟩
  ·unfold QfH;rw [Qh1 hl];rfl
  ·unfold QhB
   rw [decide_eq_true (of_decide_eq_false h),Bool.true_and]))
theorem QiK (hl:w.length<=200):QdM w=if QhB w=true then .int (val w) else .non:=by
 have h0:w.length=0↔w = "" := by
  rcases QjT w with e | ⟨c,cs,e⟩
  ·rw [e];decide +kernel
  ·have:w.cps.toList.length=w.length:=Array.length_toList
   rw [e] at this
   simp at this
   exact ⟨fun h=>by omega,fun h=>by rw [h,show ("" : Str).cps.toList=[] by decide +kernel] at e;cases e⟩
 unfold QdM QhB
 by_cases c:1<=w.length/\w.length<=200/\Qgv w=true/\¬ (Qbx w 48=true/\w ≠ "0")
 ·rw [if_pos c,if_pos]
  rw [decide_eq_true (show ¬ (w = "" \/ (Qbx w 48=true/\w ≠ "0")) from fun q=>by rcases q with q | q;(have:=h0.mpr q;omega);exact c.2.2.2 q),c.2.2.1];rfl
 ·rw [if_neg c,if_neg]
  intro q
  obtain ⟨q1,q2⟩:=(Bool.and_eq_true _ _).mp q
  have q1:=of_decide_eq_true q1
  exact c ⟨by have:=mt h0.mp (fun e=>q1 (.inl e));omega,hl,q2,fun e=>q1 (.inr e)⟩
def Qh4:D->Bool
 |.str s=>Qou s "abcdefghijklmnopqrstuvwxyz"
 |_=>false
def Qrd (w:Str):Bool:=(QbB w).all Qh4
theorem Qh0 {r:Rho}(hl:w.length<=1000000):Qas Qji (Qai (Qa5 false [.me] 0 (Qic (mV 0)) Qhv (mI (mOp (Qml id) (mV 0) (mC (.str "abcdefghijklmnopqrstuvwxyz"))))) QaL) (~~~(.str w) :: r)=.ok (.bl (Qrd w),~~~(.str w) :: r):=W_eq.mp (by
 simp? only []
 refine Qkb (ρb:=[none]) (di:=[]) (os:=[]) (g:=fun d=>.bl (Qh4 d)) rfl rfl (fun d hd=>?_) (by rw [sizeLine_eq];unfold QbB;rw [List.length_map,Array.length_toList];exact Nat.le_trans hl (by decide)) rfl rfl ?_
 ·refine ⟨[~~~d],rfl,?_,rfl⟩
  obtain ⟨c,hc,rfl⟩:=List.mem_map.mp hd
  refine W_eq.mp ?_
  simp? only [Qml,id]
  rfl
 ·have e:(QbB w).map (fun d=>D.bl (Qh4 d))=((QbB w).map Qh4).map .bl:=by rw [List.map_map];rfl
  have e2:Qji [.lst ((QbB w).map fun d=>D.bl (Qh4 d))]=some (.bl (Qrd w)):=by
   rw [e,Qgb,List.all_map];rfl
  simp? only [e2])
def QfI (w:Str):Bool:=decide (1<=w.length/\w.length<=8) && Qrd w
theorem Qjr (hl:w.length<=1000000):Qdk z [.str w]=.ok (.bl (QfI w)) []:=QdA (Qbt (by
 dsimp only [Qb8]
 show W (QbQ _ _ [~~~(.str w)]) _
 refine Qbv (b:=!decide (1<=w.length/\w.length<=8)) (ρ1:=[~~~(.str w)]) ?_ (fun h=>Qfa rfl ⟨_,[],rfl,rfl,?_,rfl⟩) fun h=>?_
 ·have i1:Qk0 [.str w,.ty "str"]=some (.bl true):=rfl
  by_cases c1:(1:Int)<=(w.length:Int)
  ·have d1:1<=w.length:=by omega
   by_cases c2:(w.length:Int)<=8
   ·have d2:w.length<=8:=by omega
    exact W_eq.mp (by simp? only [i1,QaZ hl,c1,c2,d1,d2,and_self])
   ·have d2:¬ w.length<=8:=by omega
    exact W_eq.mp (by simp? only [i1,QaZ hl,c1,c2,d1,d2,and_false])
  ·have d1:¬ 1<=w.length:=by omega
   exact W_eq.mp (by simp? only [i1,QaZ hl,c1,d1,false_and])
 ·unfold QfI
  rw [Bool.not_eq_true'] at h;rw [h];rfl
 ·refine ⟨(.rt (.bl (Qrd w)),[~~~(.str w)]),?_,_,[],rfl,rfl,?_,rfl⟩
  ·unfold QfH;rw [Qh0 hl];rfl
  ·unfold QfI
   rw [Bool.not_eq_false'] at h;rw [h];rfl))
theorem QlX (hl:w.length<=1000000):Qbg z [.str w]=.ok (.bl (QfI w)) []:=QdA (Qbt (by
 dsimp only [Qbf]
 show W (QfH (QiQ _ (QiQ _ _)) [~~~(.str w)]) _
 have t1:mOp gLt (mC (.int 0)) (Qas QeK (Qai (mV 0) QaL)) [~~~(.str w)]=.ok (.bl (decide ((0:Int)<w.length)),[~~~(.str w)]):=W_eq.mp (by simp? only [QaZ hl])
 have t2:mOp gLt (Qas QeK (Qai (mV 0) QaL)) (mC (.int 9)) [~~~(.str w)]=.ok (.bl (decide ((w.length:Int)<9)),[~~~(.str w)]):=W_eq.mp (by simp? only [QaZ hl])
 have t3:=Qh0 (w:=w) (r:=[]) hl
 refine ⟨(.rt (.bl (QfI w)),[~~~(.str w)]),?_,_,[],rfl,rfl,rfl,rfl⟩
 unfold QfH QiQ
 rw [t1]
 by_cases c1:(0:Int)<w.length
 ·rw [decide_eq_true c1]
  show ((mOp gLt (Qas QeK (Qai (mV 0) QaL)) (mC (.int 9)) [~~~(.str w)]).bind _).bind _=_
  rw [t2]
  by_cases c2:(w.length:Int)<9
  ·rw [decide_eq_true c2]
   show (Qas Qji _ [~~~(.str w)]).bind _=_
   rw [t3]
   unfold QfI
   rw [decide_eq_true ⟨by omega,by omega⟩];rfl
  ·rw [decide_eq_false c2]
   unfold QfI
   rw [decide_eq_false (fun q=>by omega)];rfl
 ·rw [decide_eq_false c1]
  unfold QfI
  rw [decide_eq_false (fun q=>by omega)];rfl))
end
variable {z:Z}
structure Zok (z:Z):Prop where
 ex:PySem.W.exmOne z.K (.ref z.c_NoText) (.ref z.c_NoText)=some true
 kt:PySem.W.kitOne z.K (.ref z.c_NoText) (.ref z.c_GlowError)=some true
 t0:(tab z).lookup z.w_PARTS_0=some [("place" : Str),"strength"]
 t1:(tab z).lookup z.w_PARTS_1=some [("place" : Str)]
 t2:(tab z).lookup z.w_PARTS_2=some [("place" : Str),"place"]
 t3:(tab z).lookup z.w_PARTS_3=some [("place" : Str),"strength"]
 t4:(tab z).lookup z.w_PARTS_4=some [("place" : Str)]
 t5:(tab z).lookup z.w_PARTS_5=some [("place" : Str)]
 t6:(tab z).lookup z.w_PARTS_6=some [("place" : Str),"loss"]
def IxW (z:Z)(w:Str):Option D:=Qtd [.inr "put",.inr "out",.inr "move",.inr "turn",.inr "wall",.inr "open",.inr "glass"] [z.w_PARTS_0,z.w_PARTS_1,z.w_PARTS_2,z.w_PARTS_3,z.w_PARTS_4,z.w_PARTS_5,z.w_PARTS_6] (.str w)
theorem Qjn {ns:List Int}{i:Int}{k:Nat}(hi:i=k)(hk:k<ns.length):gIx (.lst (ns.map .int)) (.int i)=some (.int (ns.getD k 0)):=by
 subst hi
 refine Qdr (.inl rfl) ?_
 rw [List.getElem?_map,List.getD_eq_getElem?_getD,List.getElem?_eq_getElem hk];rfl
theorem QcI {α:Type}{xs:List α}{i:Int}{k:Nat}(hi:i=k)(hk:k<=xs.length):Qc9 xs (some i) none=xs.drop k:=by
 subst hi
 unfold Qc9
 rw [HT.sIx_nat,HT.sIx_none,Nat.min_eq_left hk,List.take_of_length_le (by rw [List.length_drop];exact Nat.le_refl _)]
theorem QgR {α:Type}{xs:List α}{i:Int}{k:Nat}(hi:i=k)(hk:k<=xs.length):Qc9 xs none (some i)=xs.take k:=by
 subst hi
 unfold Qc9
 rw [HT.sIx_nat,HT.sIx_none,Nat.min_eq_left hk,List.drop_zero,Nat.sub_zero]
def Qfz (ts:List Str):Bool:=ts.all QhB
theorem Ql5 {w:Str}:(QdM w).imm=true:=by unfold QdM;split<;>rfl
theorem Qli:∀ ts:List Str,(∀ t∈ts,t.length<=200)->inL (eqb 30) .non (ts.map QdM)=some (!Qfz ts)
 | [],_=>rfl
 |w :: ws,h=>by
  rw [List.map_cons,inL,Qli ws fun t ht=>h t (List.mem_cons_of_mem _ ht),QiK (h w List.mem_cons_self)]
  unfold Qfz
  rw [List.all_cons]
  cases QhB w<;>rfl
theorem QgN:∀ {ts:List Str},(∀ t∈ts,t.length<=200)->Qfz ts=true->ts.map QdM=(ts.map val).map .int
 | [],_,_=>rfl
 |w :: ws,h,hf=>by
  unfold Qfz at hf
  rw [List.all_cons] at hf
  obtain ⟨h1,h2⟩:=(Bool.and_eq_true _ _).mp hf
  rw [List.map_cons,List.map_cons,List.map_cons,QgN (fun t ht=>h t (List.mem_cons_of_mem _ ht)) h2,QiK (h w List.mem_cons_self),if_pos h1]
def QsL:D->D
 |.str w=>QdM w
 |d=>d
def QjX (c:Nat)(ns:List Int):List D:=(List.range c).map fun j=>D.tup [.int (ns.getD (2 * j) 0),.int (ns.getD (2 * j+1) 0)]
def Qa2 (head ts:List Str)(c n:Nat):D:=if Qfz ts=true/\ts.length=n+c then .tup (head.map .str++QjX c (ts.map val)++((ts.map val).drop (2 * c)).map .int) else .non
theorem Qhd:∀ l:List Str,D.immL (l.map D.str)=true
 | []=>rfl
 |_ :: l=>by show (true && D.immL (l.map D.str))=true;rw [Qhd l];rfl
theorem QdX {w:Str}{r ts:List Str}{a:Addr}{ys:List Str}(hr:r.length<=1)(h1:IxW z w=some (.cls a))(h2:(tab z).lookup a=some ys)(hy:ys.length<=2)(hc:Qe2 "place" ys<=ys.length)(hk:2 * Qe2 "place" ys<=ys.length+Qe2 "place" ys)(ht:∀ t∈ts,t.length<=200)(hn:ts.length<=1000000) :
  QeR z [.lst ((w :: r).map .str),.lst (ts.map .str)]=.ok (Qa2 (w :: r) ts (Qe2 "place" ys) ys.length) []:=QdA (Qbt (by
 dsimp only [QdF]
 generalize hcc:Qe2 "place" ys=c at hc hk ⊢
 generalize hH:D.lst ((w :: r).map D.str)=H
 have ixH:gIx H (.int 0)=some (.str w):=by rw [← hH];exact Qdr (i:=0) (.inl rfl) rfl
 refine Ws [~~~H,~~~(.lst (ts.map .str)),~~~(.lst (ts.map QdM)),none,none,none] ?_ ?_
 ·simp? only []
  refine Qkb (ρb:=[none]) (di:=[]) (os:=[]) (g:=QsL) rfl rfl (fun d hd=>?_) (by rw [sizeLine_eq,List.length_map];omega) rfl rfl ?_
  ·refine ⟨[~~~d],rfl,?_,rfl⟩
   obtain ⟨v,hv,rfl⟩:=List.mem_map.mp hd
   have e:=QjQ (z:=z) (w:=v) (by have:=ht v hv;omega)
   refine W_eq.mp ?_
   simp? only [QfN e,Ql5,and_self]
   exact ⟨trivial,rfl⟩
  ·have e:(ts.map D.str).map QsL=ts.map QdM:=by rw [List.map_map];rfl
   rw [e]
   simp? only []
   exact ⟨trivial,trivial⟩
 unfold IxW at h1
 refine Ws [~~~H,~~~(.lst (ts.map .str)),~~~(.lst (ts.map QdM)),~~~(.cls a),none,none] ?_ ?_
 ·simp? only [-Qjq,ixH,h1]
  exact ⟨trivial,trivial⟩
 refine Ws [~~~H,~~~(.lst (ts.map .str)),~~~(.lst (ts.map QdM)),~~~(.cls a),~~~(.int c),none] ?_ ?_
 ·simp? only [h2,hcc]
  exact ⟨trivial,trivial⟩
 have gl:QeK [.lst (ts.map QdM)]=some (.int ts.length):=by show some (D.int ((ts.map QdM).length:Nat))=_;rw [List.length_map]
 have gw:Qm7 (tab z) [.cls a]=some (.int (ys.length:Nat)):=by show ((tab z).lookup a).map _=_;rw [h2];rfl
 have gi:gIn .non (.lst (ts.map QdM))=some (.bl (!Qfz ts)):=by
  show (inL (eqb 30) .non (ts.map QdM)).map _=_
  rw [Qli ts ht];rfl
 refine Qbv (b:=!decide (Qfz ts=true/\ts.length=ys.length+c)) (ρ1:=[~~~H,~~~(.lst (ts.map .str)),~~~(.lst (ts.map QdM)),~~~(.cls a),~~~(.int c),none]) ?_ (fun h=>Qfa rfl ⟨_,[],rfl,rfl,?_,rfl⟩) fun h=>?_
 ·cases hf:Qfz ts with
  |false=>exact W_eq.mp (by simp? only [gi,hf,Bool.not_false,false_and])
  |true=>
   by_cases c2:(ts.length:Int)=(ys.length:Int)+(c:Int)
   ·have c3:ts.length=ys.length+c:=by omega
    have bb:(!decide (true=true/\ts.length=ys.length+c))=false:=by rw [decide_eq_true ⟨rfl,c3⟩];rfl
    rw [bb]
    exact W_eq.mp (by simp? only [-Qed,gi,gl,gw,hf,Bool.not_true,c2,ne_eq,not_true_eq_false])
   ·have c3:¬ ts.length=ys.length+c:=by omega
    have bb:(!decide (true=true/\ts.length=ys.length+c))=true:=by rw [decide_eq_false fun q=>c3 q.2];rfl
    rw [bb]
    exact W_eq.mp (by simp? only [-Qed,gi,gl,gw,hf,Bool.not_true,c2,ne_eq,not_false_eq_true])
 ·unfold Qa2
  rw [if_neg]
  rw [Bool.not_eq_true'] at h
  exact of_decide_eq_false h
 rw [Bool.not_eq_false'] at h
 obtain ⟨hf,hlen⟩:=of_decide_eq_true h
 rw [QgN ht hf]
 generalize hns:ts.map val=ns
 have hnl:ns.length=ys.length+c:=by rw [← hns,List.length_map,hlen]
 refine Ws [~~~H,~~~(.lst (ts.map .str)),~~~(.lst (ns.map .int)),~~~(.cls a),~~~(.int c),~~~(.lst (QjX c ns))] ?_ ?_
 ·have b0 : -4611686018427387904<=(c:Int)/\(c:Int)<4611686018427387904:=by omega
  simp? only [b0,and_self]
  refine Qkb (ρb:=[none,~~~(.lst (ns.map .int))]) (di:=[]) (os:=[]) (g:=fun d=>match d with | .int j=>.tup [.int (ns.getD (2 * j.toNat) 0),.int (ns.getD (2 * j.toNat+1) 0)] | d=>d) rfl rfl (fun d hd=>?_) (by rw [sizeLine_eq,List.length_map,List.length_range];omega) rfl rfl ?_
  ·refine ⟨[~~~d,~~~(.lst (ns.map .int))],rfl,?_,rfl⟩
   obtain ⟨j,hj,rfl⟩:=List.mem_map.mp hd
   rw [List.mem_range,Int.toNat_natCast] at hj
   have m1:CMul 2 ((0:Int)+(j:Nat)):=.inl (by omega)
   have x1:gIx (.lst (ns.map .int)) (.int (2 * ((0:Int)+(j:Nat))))=some (.int (ns.getD (2 * j) 0)):=Qjn (by omega) (by omega)
   have x2:gIx (.lst (ns.map .int)) (.int (2 * ((0:Int)+(j:Nat))+1))=some (.int (ns.getD (2 * j+1) 0)):=Qjn (by omega) (by omega)
   have tj:((0:Int)+(j:Nat)).toNat=j:=by omega
   dsimp only
   rw [tj]
   refine W_eq.mp ?_
   simp? only [-Qjq,m1,x1,x2]
  ·have e:((List.range c).map fun j=>D.int ((0:Int)+(j:Nat))).map (fun d=>match d with | .int j=>D.tup [.int (ns.getD (2 * j.toNat) 0),.int (ns.getD (2 * j.toNat+1) 0)] | d=>d)=QjX c ns:=by
    unfold QjX
    rw [List.map_map]
    refine List.map_congr_left fun j hj=>?_
    show D.tup [.int (ns.getD (2 * ((0:Int)+(j:Nat)).toNat) 0),.int (ns.getD (2 * ((0:Int)+(j:Nat)).toNat+1) 0)]=_
    have tj:((0:Int)+(j:Nat)).toNat=j:=by omega
    rw [tj]
   rw [Int.toNat_natCast,e]
   simp? only []
   exact ⟨trivial,trivial⟩
 have hml:(QjX c ns).length=c:=by unfold QjX;rw [List.length_map,List.length_range]
 have m1:CMul 2 (c:Int):=.inl (by omega)
 have x1:Qc9 (ns.map D.int) (some (2 * (c:Int))) none=(ns.drop (2 * c)).map .int:=by
  rw [QcI (k:=2 * c) (by omega) (by rw [List.length_map];omega),List.map_drop]
 have z1:(r.map D.str).length+1+(QjX c ns).length<=16777216:=by rw [List.length_map];omega
 have z2:((r.map D.str)++QjX c ns).length+1+((ns.drop (2 * c)).map D.int).length<=16777216:=by rw [List.length_append,List.length_map,List.length_map,List.length_drop];omega
 subst hH
 simp? only [m1,x1,z1,z2]
 refine ⟨_,[],rfl,rfl,?_,rfl⟩
 unfold Qa2
 rw [if_pos ⟨hf,hlen⟩,hns]
 rfl))
variable {z:Z}
section
variable {w l:Str}{ws rest:List Str}
def wds (l:Str):List Str:=Txt.split l " "
theorem Qcd (l:Str):(wds l).length<=l.length+1/\(∀ w∈wds l,w.length<=l.length)/\wds l≠[]:=by unfold wds;rw [Qg6];exact Qct l 32
theorem QiP {ρ:Rho}(hl:l.length<=1000000):spK l ([.str " "],ρ)=.ok (.lst ((wds l).map D.str),ρ):=QlI rfl (by decide +kernel) (by rw [sizeLine_eq];omega) (by rw [sizeLine_eq];have:=(Qcd l).1;omega)
def kd (w:Str):Option (Bool × Nat × Nat):=if w = "put" \/ w = "turn" then some (true,1,2) else if w = "out" then some (true,1,1) else if w = "move" then some (true,2,2) else if w = "wall" \/ w = "open" then some (false,1,1) else if w = "glass" then some (false,1,2) else none
def dlW (b:Bool)(c n:Nat)(w:Str)(rest:List Str):D:=if b=true then (match rest with
 | []=>.non
 |col :: ts=>if QfI col=true then Qa2 [w,col] ts c n else .non) else Qa2 [w] rest c n
def dl:List Str->D
 | []=>.non
 |w :: rest=>match kd w with
  |none=>.non
  |some (b,c,n)=>dlW b c n w rest
theorem Qoo (h:kd w=none):dl (w :: rest)=.non:=by
 show (match kd w with | none=>D.non | some (b,c,n)=>dlW b c n w rest)=_
 rw [h]
theorem Qgi {b:Bool}{c n:Nat}(h:kd w=some (b,c,n)):dl (w :: rest)=dlW b c n w rest:=by
 show (match kd w with | none=>D.non | some (b,c,n)=>dlW b c n w rest)=_
 rw [h]
def FD:D:=.nd (.dK [.inr "put",.inr "out",.inr "move",.inr "turn",.inr "wall",.inr "open",.inr "glass"]) [.tup [.int 1,.int 3],.tup [.int 1,.int 2],.tup [.int 1,.int 4],.tup [.int 1,.int 3],.tup [.int 0,.int 2],.tup [.int 0,.int 2],.tup [.int 0,.int 3]]
structure Kx (z:Z)(w:Str)(b:Bool)(c n:Nat):Prop where
 i1:Qn4 [.inr "put",.inr "out",.inr "move",.inr "turn",.inr "wall",.inr "open",.inr "glass"] not (.str w)=some (.bl false)
 i2:Qq8 z.q_LAMP_WORDS ["put","out","move","turn"] not (.str w) (.cls z.q_LAMP_WORDS)=some (.bl (!b))
 ix:∃ a ys,IxW z w=some (.cls a)/\(tab z).lookup a=some ys/\Qe2 "place" ys=c/\ys.length=n
 dn:QhH (.str w) FD=some true
 dx:Qlw FD (.str w)=some (.tup [.int (if b=true then 1 else 0),.int ((n+c:Nat):Int)])
 mv:gEq (.str w) (.str "move")=some (.bl (decide (c=2)))
 cn:(c=1/\n=1)\/(c=1/\n=2)\/(c=2/\n=2)
theorem Qgf {w:Str}{b:Bool}(h:(([("put" : Str),"out","move","turn"]:List Str).any fun y=>decide (y=w))=b):Qq8 z.q_LAMP_WORDS ["put","out","move","turn"] not (.str w) (.cls z.q_LAMP_WORDS)=some (.bl (!b)):=by
 show (if z.q_LAMP_WORDS=z.q_LAMP_WORDS then some (D.bl (not _)) else none)=_
 rw [if_pos rfl,h]
theorem QsN:Qe2 "place" ["place","strength"]=1:=by decide +kernel
theorem QrP:Qe2 "place" ["place"]=1:=by decide +kernel
theorem Qt5:Qe2 "place" ["place","place"]=2:=by decide +kernel
theorem Qtx:Qe2 "place" ["place","loss"]=1:=by decide +kernel
theorem Qob (hz:Zok z){b:Bool}{c n:Nat}(h:kd w=some (b,c,n)):Kx z w b c n:=by
 unfold kd at h
 split at h
 ·next q=>
  cases h
  rcases q with rfl | rfl
  ·exact ⟨by rfl,Qgf (b:=true) (by decide +kernel),⟨_,_,by rfl,hz.t0,QsN,rfl⟩,by rfl,by rfl,by rw [QaI];congr 2,.inr (.inl ⟨rfl,rfl⟩)⟩
  ·exact ⟨by rfl,Qgf (b:=true) (by decide +kernel),⟨_,_,by rfl,hz.t3,QsN,rfl⟩,by rfl,by rfl,by rw [QaI];congr 2,.inr (.inl ⟨rfl,rfl⟩)⟩
 split at h
 ·next q=>
  cases h;subst q
  exact ⟨by rfl,Qgf (b:=true) (by decide +kernel),⟨_,_,by rfl,hz.t1,QrP,rfl⟩,by rfl,by rfl,by rw [QaI];congr 2,.inl ⟨rfl,rfl⟩⟩
 split at h
 ·next q=>
  cases h;subst q
  exact ⟨by rfl,Qgf (b:=true) (by decide +kernel),⟨_,_,by rfl,hz.t2,Qt5,rfl⟩,by rfl,by rfl,by rw [QaI];congr 2,.inr (.inr ⟨rfl,rfl⟩)⟩
 split at h
 ·next q=>
  cases h
  rcases q with rfl | rfl
  ·exact ⟨by rfl,Qgf (b:=false) (by decide +kernel),⟨_,_,by rfl,hz.t4,QrP,rfl⟩,by rfl,by rfl,by rw [QaI];congr 2,.inl ⟨rfl,rfl⟩⟩
  ·exact ⟨by rfl,Qgf (b:=false) (by decide +kernel),⟨_,_,by rfl,hz.t5,QrP,rfl⟩,by rfl,by rfl,by rw [QaI];congr 2,.inl ⟨rfl,rfl⟩⟩
 split at h
 ·next q=>
  cases h;subst q
  exact ⟨by rfl,Qgf (b:=false) (by decide +kernel),⟨_,_,by rfl,hz.t6,Qtx,rfl⟩,by rfl,by rfl,by rw [QaI];congr 2,.inr (.inl ⟨rfl,rfl⟩)⟩
 ·cases h
theorem Ql7 (h:kd w=none):w ≠ "put" /\ w ≠ "out" /\ w ≠ "move" /\ w ≠ "turn" /\ w ≠ "wall" /\ w ≠ "open" /\ w ≠ "glass" := by
 unfold kd at h
 split at h;cases h
 next q1=>
 split at h;cases h
 next q2=>
 split at h;cases h
 next q3=>
 split at h;cases h
 next q4=>
 split at h;cases h
 next q5=>
 exact ⟨fun q=>q1 (.inl q),q2,q3,fun q=>q1 (.inr q),fun q=>q4 (.inl q),fun q=>q4 (.inr q),q5⟩
theorem no7 (h:kd w=none):(([.inr "put",.inr "out",.inr "move",.inr "turn",.inr "wall",.inr "open",.inr "glass"]:List Key).any fun x=>decide (x=(.inr w:Key)))=false:=by
 obtain ⟨h1,h2,h3,h4,h5,h6,h7⟩:=Ql7 h
 have e:∀ s:Str,w≠s->decide ((.inr s:Key)=.inr w)=false:=fun s n=>decide_eq_false fun q=>n (Sum.inr.inj q).symm
 simp only [List.any_cons,List.any_nil,e _ h1,e _ h2,e _ h3,e _ h4,e _ h5,e _ h6,e _ h7,Bool.or_self]
theorem QcB {head ts:List Str}{c n:Nat}:(Qa2 head ts c n).imm=true:=by
 unfold Qa2
 split
 ·show D.immL _=true
  have ap:∀ {a b:List D},D.immL a=true->D.immL b=true->D.immL (a++b)=true:=fun {a b} h1 h2=>by
   induction a with
   |nil=>exact h2
   |cons x a ih=>
    obtain ⟨q1,q2⟩:=(Bool.and_eq_true _ _).mp (show (x.imm && D.immL a)=true from h1)
    show (x.imm && D.immL (a++b))=true
    rw [q1,ih q2];rfl
  refine ap (ap (Qhd _) ?_) (Qg3 _)
  unfold QjX
  generalize List.range c=L
  induction L with
  |nil=>rfl
  |cons x L ih=>show (true && D.immL _)=true;rw [Bool.true_and];exact ih
 ·rfl
theorem Qlf:(dl ws).imm=true:=by
 unfold dl
 split
 ·rfl
 ·split
  ·rfl
  ·unfold dlW
   split
   ·split
    ·rfl
    ·split
     ·exact QcB
     ·rfl
   ·exact QcB
theorem Qe8 (hz:Zok z)(hl:l.length<=1000000)(hw:∀ w∈wds l,w.length<=200):Qa4 z [.str l]=.ok (dl (wds l)) []:=QdA (Qbt (by
 dsimp only [Qcg]
 show W (QbQ _ _ [~~~(.str l),none]) _
 have hn:=(Qcd l).1
 have ne:=(Qcd l).2.2
 refine Ws [~~~(.str l),~~~(.lst ((wds l).map D.str))] ?_ ?_
 ·simp? only [QiP hl]
  exact ⟨trivial,trivial⟩
 generalize hws:wds l=ws at hw hn ne ⊢
 obtain ⟨w,rest,rfl⟩:∃ w rest,ws=w :: rest:=by
  cases ws with
  |nil=>exact absurd rfl ne
  |cons a b=>exact ⟨a,b,rfl⟩
 have ix:gIx (.lst ((w :: rest).map D.str)) (.int 0)=some (.str w):=Qdr (i:=0) (.inl rfl) rfl
 generalize hS:[some (Sl.frz (.str l)),some (Sl.frz (.lst ((w :: rest).map D.str)))]=S
 have t1:∀ {b:Bool},Qn4 [.inr "put",.inr "out",.inr "move",.inr "turn",.inr "wall",.inr "open",.inr "glass"] not (.str w)=some (.bl b)->QaE (mUn (Qn4 [.inr "put",.inr "out",.inr "move",.inr "turn",.inr "wall",.inr "open",.inr "glass"] not) (mOp gIx (mV 1) (mC (.int 0)))) S=.ok (b,S):=fun {b} h=>by
  subst hS
  exact W_eq.mp (by simp? only [-Qjq,-List.map_cons,ix,h])
 have out0:outs [false] S=some []:=by subst hS;rfl
 have fin:∀ {d:D},dl (w :: rest)=d->∃ d' os,Fl.rt d=.rt d'/\outs [false] S=some os/\d'=dl (w :: rest)/\os=[]:=fun e=>⟨_,[],rfl,out0,e.symm,rfl⟩
 have rn:QfH (mC .non) S=.ok (.rt .non,S):=rfl
 cases hk:kd w with
 |none=>
  have g:Qn4 [.inr "put",.inr "out",.inr "move",.inr "turn",.inr "wall",.inr "open",.inr "glass"] not (.str w)=some (.bl true):=by
   have:=no7 hk
   show some (D.bl (not _))=_
   rw [this];rfl
  refine Qbv (t1 g) (fun _=>Qfa rfl (fin ?_)) fun h=>nomatch h
  exact Qoo hk
 |some q=>
  obtain ⟨b,c,n⟩:=q
  obtain ⟨i1,i2,⟨a,ys,ia,il,ic,iy⟩,_,_,_,cn⟩:=Qob hz hk
  have edl:dl (w :: rest)=dlW b c n w rest:=Qgi hk
  have hr:∀ t∈rest,t.length<=200:=fun t ht=>hw t (List.mem_cons_of_mem _ ht)
  have hn2:rest.length<=1000000:=by simp at hn;omega
  refine Qbv (t1 i1) (fun h=>nomatch h) fun _=>?_
  refine Qbv (b:=!b) (ρ1:=S) (by subst hS;exact W_eq.mp (by simp? only [-Qjq,-List.map_cons,ix,i2])) (fun h=>?_) fun h=>?_
  ·have hb:b=false:=by simpa using h
   subst hb
   have e:=QdX (z:=z) (w:=w) (r:=[]) (ts:=rest) (by simp) ia il (by omega) (by omega) (by omega) hr hn2
   rw [ic,iy] at e
   have c1:Qc9 ((w :: rest).map D.str) none (some 1)=[w].map D.str:=(QgR (k:=1) rfl (by simp)).trans rfl
   have c2:Qc9 ((w :: rest).map D.str) (some 1) none=rest.map D.str:=(QcI (k:=1) rfl (by simp)).trans rfl
   refine Qfa (d:=Qa2 [w] rest c n) (ρ1:=S) ?_ (fin (by rw [edl];rfl))
   subst hS
   exact W_eq.mp (by simp? only [-List.map_cons,-List.map_nil,c1,c2,QfN e,QcB];exact ⟨trivial,trivial⟩)
  ·have hb:b=true:=by simpa using h
   subst hb
   cases rest with
   |nil=>
    refine Qbv (b:=true) (ρ1:=S) ?_ (fun _=>Qfa rfl (fin (by rw [edl];rfl))) fun h=>nomatch h
    subst hS
    have gl:QeK [.lst ([w].map D.str)]=some (.int 1):=rfl
    exact W_eq.mp (by simp? only [-Qed,-List.map_cons,-List.map_nil,gl])
   |cons col ts=>
    have hcl:col.length<=1000000:=by have:=hr col List.mem_cons_self;omega
    have gl:QeK [.lst ((w :: col :: ts).map D.str)]=some (.int ((ts.length:Nat)+2)):=by
     show some (D.int (((w :: col :: ts).map D.str).length:Nat))=_
     congr 2
     simp only [List.length_map,List.length_cons];omega
    have ng:¬ ((ts.length:Int)+2=1):=by omega
    have ix1:gIx (.lst ((w :: col :: ts).map D.str)) (.int 1)=some (.str col):=Qdr (i:=1) (.inl rfl) rfl
    refine Qbv (b:=!QfI col) (ρ1:=S) ?_ (fun h=>Qfa rfl (fin ?_)) fun h=>?_
    ·subst hS
     exact W_eq.mp (by simp? only [-Qed,-Qjq,-List.map_cons,gl,ng,ix1,QfN (Qjr (z:=z) hcl)];exact ⟨trivial,trivial⟩)
    ·rw [edl]
     unfold dlW
     rw [if_pos rfl]
     show (if QfI col=true then _ else _)=_
     rw [if_neg (by rw [Bool.not_eq_true'] at h;rw [h];decide)]
    ·have hc:QfI col=true:=by simpa using h
     have e:=QdX (z:=z) (w:=w) (r:=[col]) (ts:=ts) (by simp) ia il (by omega) (by omega) (by omega) (fun t ht=>hr t (List.mem_cons_of_mem _ ht)) (by simp at hn2;omega)
     rw [ic,iy] at e
     have c1:Qc9 ((w :: col :: ts).map D.str) none (some 2)=[w,col].map D.str:=(QgR (k:=2) rfl (by simp)).trans rfl
     have c2:Qc9 ((w :: col :: ts).map D.str) (some 2) none=ts.map D.str:=(QcI (k:=2) rfl (by simp)).trans rfl
     refine ⟨(.rt (Qa2 [w,col] ts c n),S),?_,fin ?_⟩
     ·subst hS
      exact W_eq.mp (by simp? only [-List.map_cons,-List.map_nil,c1,c2,QfN e,QcB];exact ⟨trivial,trivial⟩)
     ·rw [edl]
      unfold dlW
      rw [if_pos rfl]
      show (if QfI col=true then _ else _)=_
      rw [if_pos hc]))
end
variable {z:Z}
section
variable {w l:Str}{ws rest ts:List Str}
theorem QtZ:D.nd (.dK (QdN ([.inr "put",.inr "out",.inr "move",.inr "turn",.inr "wall",.inr "open"]:List Key) [.tup [.int 1,.int 3],.tup [.int 1,.int 2],.tup [.int 1,.int 4],.tup [.int 1,.int 3],.tup [.int 0,.int 2],.tup [.int 0,.int 2]] (.inr ("glass" : Str)) (.tup [.int 0,.int 3])).1) (QdN ([.inr "put",.inr "out",.inr "move",.inr "turn",.inr "wall",.inr "open"]:List Key) [.tup [.int 1,.int 3],.tup [.int 1,.int 2],.tup [.int 1,.int 4],.tup [.int 1,.int 3],.tup [.int 0,.int 2],.tup [.int 0,.int 2]] (.inr ("glass" : Str)) (.tup [.int 0,.int 3])).2=FD:=by
 unfold QdN
 rw [if_neg (by decide +kernel)]
 rfl
def sL (l:Str)(ws:List Str)(c m t n f:Option Sl):Rho:=[~~~(.str l),some (.own FD),~~~(.lst (ws.map D.str)),c,m,t,n,f]
theorem Qmy {i:Nat}{m:ME}{ρ ρ1 ρ2:Rho}{d:D}(h:m ρ=.ok (d,ρ1))(hs:setW ρ1 i d=some ρ2):Qdb i m ρ=.ok (.nx,ρ2):=by
 unfold Qdb
 rw [h]
 show (Rs.of (setW ρ1 i d)).bind _=_
 rw [hs];rfl
theorem cb1 {g:List D->Option D}{m:ME}{ρ ρ1:Rho}{d e:D}(h:m ρ=.ok (d,ρ1))(hg:g [d]=some e):Qas g (Qai m QaL) ρ=.ok (e,ρ1):=by
 unfold Qas Qai
 rw [h]
 show Rs.of ((g [d]).map _)=_
 rw [hg];rfl
theorem Qkz {m n f c:Option Sl}(ht:∀ t∈ts,t.length<=200)(hn:ts.length<=1000000):Qas Qji (Qai (Qa5 false [.me] 0 (QbV (mV 5)) Qhv (mI (QaJ .V (Qav z) (Qai (mV 0) QaL)))) QaL) (sL l ws c m (~~~(.lst (ts.map D.str))) n f)=.ok (.bl (Qfz ts),sL l ws c m (~~~(.lst (ts.map D.str))) n f):=by
 have e2:QbV (mV 5) (sL l ws c m (~~~(.lst (ts.map D.str))) n f)=.ok (ts.map D.str,sL l ws c m (~~~(.lst (ts.map D.str))) n f):=rfl
 have e3:Qa5 false [.me] 0 (QbV (mV 5)) Qhv (mI (QaJ .V (Qav z) (Qai (mV 0) QaL))) (sL l ws c m (~~~(.lst (ts.map D.str))) n f)=.ok (.lst ((ts.map D.str).map fun d=>match d with | .str w=>.bl (QhB w) | d=>d),sL l ws c m (~~~(.lst (ts.map D.str))) n f):=
  QcG (g:=fun d=>match d with | .str w=>.bl (QhB w) | d=>d) (di:=[]) (ρb:=[none]) (os:=[]) e2 rfl rfl (fun d hd=>by
   obtain ⟨w,hw,rfl⟩:=List.mem_map.mp hd
   have e:=QhJ (z:=z) (w:=w) (by have:=ht w hw;omega)
   refine ⟨[~~~(.str w)],rfl,W_eq.mp ?_,rfl⟩
   simp? only [QfN e]
   exact ⟨trivial,trivial⟩) (by rw [sizeLine_eq,List.length_map];omega) rfl rfl
 have e4:(ts.map D.str).map (fun d=>match d with | .str w=>D.bl (QhB w) | d=>d)=(ts.map QhB).map .bl:=by rw [List.map_map,List.map_map];rfl
 rw [e4] at e3
 refine cb1 e3 ?_
 rw [Qgb,List.all_map];rfl
theorem Qnf (hl:w.length<=200)(h:QhB w=true):Qlo [.str w]=some (.int (val w)):=by
 unfold QhB at h
 obtain ⟨h1,h2⟩:=(Bool.and_eq_true _ _).mp h
 refine QiH h2 ?_ hl
 rcases QjT w with e | ⟨c,cs,e⟩
 ·exact absurd (.inl e) (of_decide_eq_true h1)
 ·have:w.cps.toList.length=w.length:=Array.length_toList
  rw [e] at this;simp at this;omega
theorem Qkf {m n f c:Option Sl}(ht:∀ t∈ts,t.length<=200)(hn:ts.length<=1000000)(hf:Qfz ts=true):Qa5 false [.me] 0 (QbV (mV 5)) Qhv (mI (Qas Qlo (Qai (mV 0) QaL))) (sL l ws c m (~~~(.lst (ts.map D.str))) n f)=.ok (.lst ((ts.map val).map .int),sL l ws c m (~~~(.lst (ts.map D.str))) n f):=by
 have e2:QbV (mV 5) (sL l ws c m (~~~(.lst (ts.map D.str))) n f)=.ok (ts.map D.str,sL l ws c m (~~~(.lst (ts.map D.str))) n f):=rfl
 refine (QcG (g:=fun d=>match d with | .str w=>.int (val w) | d=>d) (di:=[]) (ρb:=[none]) (os:=[]) e2 rfl rfl (fun d hd=>by
   obtain ⟨w,hw,rfl⟩:=List.mem_map.mp hd
   have e:=Qnf (w:=w) (ht w hw) (List.all_eq_true.mp hf w hw)
   refine ⟨[~~~(.str w)],rfl,W_eq.mp ?_,rfl⟩
   simp? only [-Qlo,e]) (by rw [sizeLine_eq,List.length_map];omega) rfl rfl).trans ?_
 rw [List.map_map,List.map_map];rfl
theorem Qf7 (hz:Zok z)(hl:l.length<=1000000)(hw:∀ w∈wds l,w.length<=200):QaS z [.str l]=.ok (dl (wds l)) []:=QdA (Qbt (by
 dsimp only [Qbe]
 show W (QbQ _ _ [~~~(.str l),none,none,none,none,none,none,none]) _
 have hn:=(Qcd l).1
 have ne:=(Qcd l).2.2
 have nd:(["put","out","move","turn","wall","open"]:List Str).Nodup:=by decide +kernel
 refine Ws [~~~(.str l),some (.own (.nd (.dK [.inr "put",.inr "out",.inr "move",.inr "turn",.inr "wall",.inr "open"]) [.tup [.int 1,.int 3],.tup [.int 1,.int 2],.tup [.int 1,.int 4],.tup [.int 1,.int 3],.tup [.int 0,.int 2],.tup [.int 0,.int 2]])),none,none,none,none,none,none] ?_ ?_
 ·simp? only [nd,true_and,and_self]
 refine Ws [~~~(.str l),some (.own FD),none,none,none,none,none,none] ?_ ?_
 ·simp? only [QtZ]
  exact ⟨trivial,trivial⟩
 refine Qbh (fun ρ=>ρ=sL l (wds l) none none none none none) ?_ ?_
 ·simp? only [QiP hl]
  exact ⟨trivial,rfl⟩
 rintro ρ rfl
 generalize hws:wds l=ws at hw hn ne ⊢
 obtain ⟨w,rest,rfl⟩:∃ w rest,ws=w :: rest:=by
  cases ws with
  |nil=>exact absurd rfl ne
  |cons a b=>exact ⟨a,b,rfl⟩
 have ix:gIx (.lst ((w :: rest).map D.str)) (.int 0)=some (.str w):=Qdr (i:=0) (.inl rfl) rfl
 have mx:∀ {c m t n f:Option Sl},mOp gIx (mV 2) (mC (.int 0)) (sL l (w :: rest) c m t n f)=.ok (.str w,sL l (w :: rest) c m t n f):=fun {c m t n f}=>by
  show Rs.of ((gIx (.lst ((w :: rest).map D.str)) (.int 0)).map _)=_
  rw [ix];rfl
 have t1:∀ {b:Bool},QhH (.str w) FD=some b->QaE (Ql6 not (mOp gIx (mV 2) (mC (.int 0))) (mB 1)) (sL l (w :: rest) none none none none none)=.ok (!b,sL l (w :: rest) none none none none none):=fun {b} h=>by
  have mb:mB 1 (sL l (w :: rest) none none none none none)=.ok (FD,sL l (w :: rest) none none none none none):=rfl
  simp only [QaE,Ql6,mx,mb,Rs.bind,h,Option.map_some,Rs.of,asB]
 cases hk:kd w with
 |none=>
  have g:QhH (.str w) FD=some false:=by
   show some _=_
   exact congrArg some (no7 hk)
  exact Qbv (t1 g) (fun _=>Qfa rfl ⟨_,[],rfl,rfl,(Qoo hk).symm,rfl⟩) fun h=>nomatch h
 |some q=>
  obtain ⟨b,c,n⟩:=q
  obtain ⟨_,_,_,dn,dx,mv,cn⟩:=Qob hz hk
  rw [Qgi hk]
  refine Qbv (t1 dn) (fun h=>nomatch h) fun _=>?_
  have hr:∀ t∈rest,t.length<=200:=fun t ht=>hw t (List.mem_cons_of_mem _ ht)
  have hn2:rest.length<=1000000:=by simp at hn;omega
  obtain ⟨hd,ts,bi,nb,ebi,h1,h2,h3,ht,htl,hnm,hfin⟩:∃ (hd ts:List Str) (bi:Int) (nb:Bool),(if b=true then (1:Int) else 0)=bi/\Qc9 ((w :: rest).map D.str) (some (1+bi)) none=ts.map D.str/\(ts.length=n+c->Qc9 ((w :: rest).map D.str) none (some (1+bi))=hd.map D.str)/\(hd=[w]\/∃ col,hd=[w,col])/\(∀ t∈ts,t.length<=200)/\ts.length<=1000000/\
    (∀ {m t q f:Option Sl},ts.length=n+c->Qrs (QaE (mOp gEq (mV 3) (mC (.int 1)))) (Qhr (QaE (QaJ .V (Qbg z) (Qai (mOp gIx (mV 2) (mC (.int 1))) QaL)))) (sL l (w :: rest) (~~~(.int bi)) m t q f)=.ok (nb,sL l (w :: rest) (~~~(.int bi)) m t q f))/\
    dlW b c n w rest=if Qfz ts=true/\ts.length=n+c then (if nb=true then .non else Qa2 hd ts c n) else .non:=by
   cases b with
   |false=>
    refine ⟨[w],rest,0,false,rfl,(QcI (k:=1) rfl (by simp)).trans rfl,fun _=>(QgR (k:=1) rfl (by simp)).trans rfl,.inl rfl,hr,hn2,fun {m t q f} _=>?_,?_⟩
    ·unfold sL
     exact W_eq.mp (by simp? only [])
    ·show Qa2 [w] rest c n=_
     by_cases q:Qfz rest=true/\rest.length=n+c
     ·rw [if_pos q,if_neg (by decide)]
     ·rw [if_neg q];unfold Qa2;rw [if_neg q]
   |true=>
    cases rest with
    |nil=>
     refine ⟨[w],[],1,false,rfl,by rfl,fun h=>absurd h (by simp;omega),.inl rfl,(fun _ h=>nomatch h),by decide,fun {m t q f} h=>absurd h (by simp;omega),?_⟩
     rw [if_neg (fun q=>by have:=q.2;simp at this;omega)]
     rfl
    |cons col ts=>
     have hcl:col.length<=1000000:=by have:=hr col List.mem_cons_self;omega
     have ix1:gIx (.lst ((w :: col :: ts).map D.str)) (.int 1)=some (.str col):=Qdr (i:=1) (.inl rfl) rfl
     refine ⟨[w,col],ts,1,!QfI col,rfl,(QcI (k:=2) rfl (by simp)).trans rfl,fun _=>(QgR (k:=2) rfl (by simp)).trans rfl,.inr ⟨col,rfl⟩,fun t h=>hr t (List.mem_cons_of_mem _ h),by simp at hn2;omega,fun {m t q f} _=>?_,?_⟩
     ·unfold sL
      exact W_eq.mp (by simp? only [-Qjq,-List.map_cons,ix1,QfN (QlX (z:=z) hcl)];exact ⟨trivial,trivial⟩)
     ·show (if QfI col=true then Qa2 [w,col] ts c n else .non)=_
      cases hc:QfI col with
      |true=>
       rw [if_pos rfl]
       by_cases q:Qfz ts=true/\ts.length=n+c
       ·rw [if_pos q];rfl
       ·rw [if_neg q];unfold Qa2;rw [if_neg q]
      |false=>
       rw [if_neg (by decide)]
       split
       ·rfl
       ·rfl
  have mb:mB 1 (sL l (w :: rest) none none none none none)=.ok (FD,sL l (w :: rest) none none none none none):=rfl
  refine Qbh (fun ρ=>ρ=sL l (w :: rest) (~~~(.int bi)) (~~~(.int ((n+c:Nat):Int))) none none none) ?_ ?_
  ·refine ⟨(.nx,sL l (w :: rest) (~~~(.int bi)) (~~~(.int ((n+c:Nat):Int))) none none none),?_,rfl,rfl⟩
   have e:mOp Qlw (mB 1) (mOp gIx (mV 2) (mC (.int 0))) (sL l (w :: rest) none none none none none)=.ok (.tup [.int bi,.int ((n+c:Nat):Int)],sL l (w :: rest) none none none none none):=by
    show ((mB 1 _).bind _)=_
    rw [mb]
    show ((mOp gIx (mV 2) (mC (.int 0)) _).bind _)=_
    rw [mx]
    show Rs.of ((Qlw FD (.str w)).map _)=_
    rw [dx,ebi];rfl
   unfold QsB mI
   rw [e]
   rfl
  rintro ρ rfl
  refine Qbh (fun ρ=>ρ=sL l (w :: rest) (~~~(.int bi)) (~~~(.int ((n+c:Nat):Int))) (~~~(.lst (ts.map D.str))) none none) ?_ ?_
  ·unfold sL
   simp? only [-List.map_cons,h1]
   exact ⟨trivial,trivial⟩
  rintro ρ rfl
  generalize hS:sL l (w :: rest) (~~~(.int bi)) (~~~(.int ((n+c:Nat):Int))) (~~~(.lst (ts.map D.str))) none none=S
  have out0:outs [false] S=some []:=by subst hS;rfl
  refine Qbv (b:=!decide (Qfz ts=true/\ts.length=n+c)) (ρ1:=S) ?_ (fun h=>Qfa rfl ⟨_,[],rfl,out0,?_,rfl⟩) fun h=>?_
  ·have gl:QaE (mOp gNe (Qas QeK (Qai (mV 5) QaL)) (mV 4)) S=.ok (!decide (ts.length=n+c),S):=by
    subst hS
    have g5:QeK [.lst (ts.map D.str)]=some (.int ts.length):=by show some (D.int ((ts.map D.str).length:Nat))=_;rw [List.length_map]
    by_cases q:ts.length=n+c
    ·have q2:¬ ((ts.length:Int)≠((n+c:Nat):Int)):=by omega
     rw [decide_eq_true q]
     exact W_eq.mp (by unfold sL;simp? only [-Qed,g5,q2,Bool.not_true])
    ·have q2:(ts.length:Int)≠((n+c:Nat):Int):=by omega
     rw [decide_eq_false q]
     exact W_eq.mp (by unfold sL;simp? only [-Qed,g5,q2,Bool.not_false,not_false_eq_true,ne_eq])
   have gf:Qhr (QaE (Qas Qji (Qai (Qa5 false [.me] 0 (QbV (mV 5)) Qhv (mI (QaJ .V (Qav z) (Qai (mV 0) QaL)))) QaL))) S=.ok (!Qfz ts,S):=by
    subst hS
    unfold Qhr QaE;rw [Qkz ht htl];rfl
   unfold mOr
   rw [gl]
   by_cases q:ts.length=n+c
   ·rw [decide_eq_true q]
    show Qhr _ S=_
    rw [gf]
    congr 2
    cases Qfz ts with
    |true=>rw [decide_eq_true ⟨rfl,q⟩]
    |false=>rw [decide_eq_false (fun e=>by cases e.1)]
   ·rw [decide_eq_false q,decide_eq_false (fun e=>q e.2)];rfl
  ·rw [hfin,if_neg]
   rw [Bool.not_eq_true'] at h
   exact of_decide_eq_false h
  rw [Bool.not_eq_false'] at h
  obtain ⟨hf,hlen⟩:=of_decide_eq_true h
  rw [hfin,if_pos ⟨hf,hlen⟩]
  refine Qbv (b:=nb) (ρ1:=S) (by subst hS;exact hnm hlen) (fun h=>Qfa rfl ⟨_,[],rfl,out0,by rw [if_pos h],rfl⟩) fun h=>?_
  rw [if_neg (by rw [h];decide)]
  subst hS
  have ai:=Qkf (l:=l) (ws:=w :: rest) (ts:=ts) (c:= ~~~(.int bi)) (m:= ~~~(.int ((n+c:Nat):Int))) (n:=none) (f:=none) ht htl hf
  refine Qbh (fun ρ=>ρ=sL l (w :: rest) (~~~(.int bi)) (~~~(.int ((n+c:Nat):Int))) (~~~(.lst (ts.map D.str))) (~~~(.lst ((ts.map val).map .int))) none) ?_ ?_
  ·refine ⟨(.nx,sL l (w :: rest) (~~~(.int bi)) (~~~(.int ((n+c:Nat):Int))) (~~~(.lst (ts.map D.str))) (~~~(.lst ((ts.map val).map .int))) none),?_,rfl,rfl⟩
   unfold QnM Qcr
   rw [ai];rfl
  rintro ρ rfl
  have h2:=h2 hlen
  have hnl:(ts.map val).length=n+c:=by rw [List.length_map,hlen]
  have edr:Qa2 hd ts c n=.tup (hd.map .str++QjX c (ts.map val)++((ts.map val).drop (2 * c)).map .int):=by unfold Qa2;rw [if_pos ⟨hf,hlen⟩]
  rw [edr]
  generalize ts.map val=ns at hnl
  clear edr ai
  have fin:∀ {ρ:Rho} {d e:D},outs [false] ρ=some []->d=e->∃ d' os,Fl.rt d=.rt d'/\outs [false] ρ=some os/\d'=e/\os=[]:=fun h e=>⟨_,[],rfl,h,e,rfl⟩
  have h2c:Qc9 (D.str w :: rest.map D.str) none (some (1+bi))=hd.map D.str:=h2
  have hp0:(0:Int)<(((rest.map D.str).length+1:Nat):Int):=by omega
  rcases cn with ⟨rfl,rfl⟩ | ⟨rfl,rfl⟩ | ⟨rfl,rfl⟩
  ·obtain ⟨a,b',rfl⟩:∃ a b',ns=[a,b']:=match ns,hnl with | [a,b'],_=>⟨a,b',rfl⟩
   have e2:decide ((1:Nat)=2)=false:=rfl
   rw [e2] at mv
   rcases h3 with rfl | ⟨col,rfl⟩
   all_goals
    unfold sL
    simp? only [List.map_cons,List.map_nil,h2c,mv,hp0]
    exact ⟨_,[],rfl,rfl,rfl,rfl⟩
  ·obtain ⟨a,b',c',rfl⟩:∃ a b' c',ns=[a,b',c']:=match ns,hnl with | [a,b',c'],_=>⟨a,b',c',rfl⟩
   have e2:decide ((1:Nat)=2)=false:=rfl
   rw [e2] at mv
   rcases h3 with rfl | ⟨col,rfl⟩
   all_goals
    unfold sL
    simp? only [List.map_cons,List.map_nil,h2c,mv,hp0]
    exact ⟨_,[],rfl,rfl,rfl,rfl⟩
  ·obtain ⟨a,b',c',d',rfl⟩:∃ a b' c' d',ns=[a,b',c',d']:=match ns,hnl with | [a,b',c',d'],_=>⟨a,b',c',d',rfl⟩
   have e2:decide ((2:Nat)=2)=true:=rfl
   rw [e2] at mv
   rcases h3 with rfl | ⟨col,rfl⟩
   all_goals
    unfold sL
    simp? only [List.map_cons,List.map_nil,h2c,mv,hp0]
    exact ⟨_,[],rfl,rfl,rfl,rfl⟩))
end
variable {z:Z}
def NF (s:Option Sl):Prop:=s=none\/∃ d,s = ~~~d
section
variable {w l t:Str}{ρ ρ1 ρ2:Rho}{A:List D}{a b c:Option Sl}
def Qak (l:Str):D:=dl (wds l)
def Qel:D->Bool
 |.non=>true
 |_=>false
def idx:List D->Option Nat
 | []=>none
 |d :: ds=>if Qel d=true then some 0 else (idx ds).map (· + 1)
theorem Qid (ws:List Str):dl ws=.non\/∃ xs,dl ws=.tup xs:=by
 have r:∀ h ts c n,Qa2 h ts c n=.non\/∃ xs,Qa2 h ts c n=.tup xs:=fun h ts c n=>by
  unfold Qa2
  split
  ·exact .inr ⟨_,rfl⟩
  ·exact .inl rfl
 unfold dl
 split
 ·exact .inl rfl
 ·split
  ·exact .inl rfl
  ·unfold dlW
   split
   ·split
    ·exact .inl rfl
    ·split
     ·exact r _ _ _ _
     ·exact .inl rfl
   ·exact r _ _ _ _
theorem QoB (l:Str):Qph id (Qak l) .non=some (.bl (Qel (Qak l))):=by
 rcases Qid (wds l) with h | ⟨xs,h⟩
 ·unfold Qak;rw [h];rfl
 ·unfold Qak;rw [h];rfl
def st (t:Str)(A:List D)(a b c:Option Sl):Rho:=[~~~(.str t),some (.own (.lst A)),a,b,c]
abbrev bdR (z:Z):MS:=(QbQ (Qcr 4 (QaJ .V (Qa4 z) (Qai (mV 3) QaL)))
  (QbQ (mIf (QaE (mOp (Qph id) (mV 4) (mC .non))) (Qes z.c_NoText (Qai (mV 2) QaL)) QdQ)
  (QqX 1 (mI (mV 4)))))
theorem Qk1 {c:Addr}{mr:MA}{n:Int}(h:mr ρ=.ok ([.int n],ρ1)):Qes c mr ρ=.ex ⟨c,some n⟩ ρ1:=by
 unfold Qes;rw [h];rfl
theorem Qo4 {mt:MT}{A u:MS}{c:Xc}(t:mt ρ=.ok (true,ρ1))(h:A ρ1=.ex c ρ2):QbQ (mIf mt A QdQ) u ρ=.ex c ρ2:=by
 refine QlA ?_
 rw [Qmn t,if_pos rfl];exact h
theorem QiF {mt:MT}{A u:MS}(t:mt ρ=.ok (false,ρ1)):QbQ (mIf mt A QdQ) u ρ=u ρ1:=by
 refine QdT ?_
 rw [Qmn t,if_neg (by decide)];rfl
theorem QpM {m u:MS}{d:D}(h:m ρ=.ok (.rt d,ρ1)):QbQ m u ρ=.ok (.rt d,ρ1):=by unfold QbQ;rw [h];rfl
theorem QnS (hz:Zok z){k:Nat}(hc:NF c)(hl:l.length<=1000000)(hw:∀ w∈wds l,w.length<=200)(hA:A.length<2000000):bdR z (st t A (~~~(.int k)) (~~~(.str l)) c) =
  if Qel (Qak l)=true then .ex ⟨z.c_NoText,some (k:Int)⟩ (st t A (~~~(.int k)) (~~~(.str l)) (~~~(Qak l))) else .ok (.nx,st t (A++[Qak l]) (~~~(.int k)) (~~~(.str l)) (~~~(Qak l))):=by
 have im:(Qak l).imm=true:=Qlf
 have rd:Qa4 z [.str l]=.ok (Qak l) []:=Qe8 hz hl hw
 have e1:Qcr 4 (QaJ .V (Qa4 z) (Qai (mV 3) QaL)) (st t A (~~~(.int k)) (~~~(.str l)) c)=.ok (.nx,st t A (~~~(.int k)) (~~~(.str l)) (~~~(Qak l))):=by
  unfold Qcr;rw [Qk6 (args:=[.str l]) rfl rd (fun _=>im)]
  rcases hc with rfl | ⟨_,rfl⟩<;>rfl
 unfold bdR
 rw [QdT e1]
 have t1:QaE (mOp (Qph id) (mV 4) (mC .non)) (st t A (~~~(.int k)) (~~~(.str l)) (~~~(Qak l)))=.ok (Qel (Qak l),st t A (~~~(.int k)) (~~~(.str l)) (~~~(Qak l))):=W_eq.mp (by unfold st;simp? only [QoB])
 cases hn:Qel (Qak l) with
 |true=>
  rw [if_pos rfl]
  exact Qo4 (t1.trans (by rw [hn])) (Qk1 rfl)
 |false=>
  rw [if_neg (by decide)]
  refine (QiF (t1.trans (by rw [hn]))).trans (W_eq.mp ?_)
  have hz:A.length<16777216:=by omega
  unfold st
  simp? only [im,hz]
def QjV (k:Nat)(ls:List Str):List D:=((ls.map D.str).zipIdx k).map fun x=>.tup [.int (x.2:Nat),x.1]
theorem Qjg {k:Nat}{ls:List Str}:QjV k (l :: ls)=.tup [.int (k:Nat),.str l] :: QjV (k+1) ls:=by
 unfold QjV;rw [List.map_cons,List.zipIdx_cons,List.map_cons]
theorem Qr7 {k:Nat}(ha:NF a)(hb:NF b):QhM 2 3 (.tup [.int (k:Nat),.str l]) (st t A a b c)=some (st t A (~~~(.int (k:Nat))) (~~~(.str l)) c):=by
 rcases ha with rfl | ⟨_,rfl⟩<;>rcases hb with rfl | ⟨_,rfl⟩<;>rfl
theorem QiZ (hz:Zok z):∀ {ls:List Str} {A:List D} {a b c:Option Sl},NF a->NF b->NF c->(∀ l∈ls,l.length<=1000000/\∀ w∈wds l,w.length<=200)->A.length+ls.length<2000000->
  (∃ n ρ',idx (ls.map Qak)=some n/\QfG (QhM 2 3) (bdR z) (QjV A.length ls) (st t A a b c)=.ex ⟨z.c_NoText,some ((A.length+n:Nat):Int)⟩ ρ')\/∃ a' b' c',idx (ls.map Qak)=none/\NF a'/\NF b'/\NF c'/\QfG (QhM 2 3) (bdR z) (QjV A.length ls) (st t A a b c)=.ok (.nx,st t (A++ls.map Qak) a' b' c')
 | [],A,a,b,c,ha,hb,hc,_,_=>.inr ⟨a,b,c,rfl,ha,hb,hc,by rw [List.map_nil,List.append_nil];rfl⟩
 |l :: ls,A,a,b,c,ha,hb,hc,hl,hA=>by
  obtain ⟨l1,l2⟩:=hl l List.mem_cons_self
  have e:=QnS (z:=z) (t:=t) (l:=l) (A:=A) (c:=c) hz (k:=A.length) hc l1 l2 (by simp at hA;omega)
  have st':QfG (QhM 2 3) (bdR z) (QjV A.length (l :: ls)) (st t A a b c)=(bdR z (st t A (~~~(.int A.length)) (~~~(.str l)) c)).bind fun r=>match r.1 with
   |.nx=>QfG (QhM 2 3) (bdR z) (QjV (A.length+1) ls) r.2
   |.ct=>QfG (QhM 2 3) (bdR z) (QjV (A.length+1) ls) r.2
   |.bk=>.ok (.nx,r.2)
   |.rt d=>.ok (.rt d,r.2):=by
   rw [Qjg]
   show (Rs.of (QhM 2 3 _ _)).bind _=_
   rw [Qr7 ha hb];rfl
  rw [st',e,List.map_cons]
  unfold idx
  cases hn:Qel (Qak l) with
  |true=>exact .inl ⟨0,_,rfl,rfl⟩
  |false=>
   rw [if_neg (by decide),if_neg (by decide)]
   have ih:=QiZ hz (ls:=ls) (A:=A++[Qak l]) (a:= ~~~(.int A.length)) (b:= ~~~(.str l)) (c:= ~~~(Qak l)) (.inr ⟨_,rfl⟩) (.inr ⟨_,rfl⟩) (.inr ⟨_,rfl⟩) (fun x hx=>hl x (List.mem_cons_of_mem _ hx)) (by simp at hA ⊢;omega)
   have le:(A++[Qak l]).length=A.length+1:=by rw [List.length_append];rfl
   rw [le] at ih
   rcases ih with ⟨n,ρ2,h1,h2⟩ | ⟨a',b',c',h1,h4,h5,h6,h7⟩
   ·refine .inl ⟨n+1,ρ2,by rw [h1];rfl,?_⟩
    rw [show A.length+(n+1)=A.length+1+n by omega]
    exact h2
   ·refine .inr ⟨a',b',c',by rw [h1];rfl,h4,h5,h6,?_⟩
    rw [List.append_assoc] at h7
    exact h7
def lns (t:Str):List Str:=Txt.split t "\n"
theorem Qdo (t:Str):(lns t).length<=t.length+1/\(∀ w∈lns t,w.length<=t.length)/\lns t≠[]:=by unfold lns;rw [Qe7];exact Qct t 10
theorem QlG {ρ:Rho}(hl:t.length<=1000000):spK t ([.str "\n"],ρ)=.ok (.lst ((lns t).map D.str),ρ):=QlI rfl (by decide +kernel) (by rw [sizeLine_eq];omega) (by rw [sizeLine_eq];have:=(Qdo t).1;omega)
theorem QrK (hl:t.length<=1000000):QkP (Qai (Qa7 (mV 0) (Qai (mC (.str "\n")) QaL)) QaL) (st t [] none none none)=.ok (QjV 0 (lns t),st t [] none none none):=W_eq.mp (by
 unfold st
 simp? only [QlG hl]
 rfl)
def Sh (t:Str):Prop:=∀ l∈lns t,∀ w∈wds l,w.length<=200
theorem QkJ (hz:Zok z)(hl:t.length<=999990)(hs:Sh t)(ne:t ≠ ""):Qap z [.str t]=(match idx ((lns t).map Qak) with
  |some n=>.ex ⟨z.c_NoText,some (n:Int)⟩
  |none=>.ok (.lst ((lns t).map Qak)) []):=by
 have hl':t.length<=1000000:=by omega
 have t0:QaE (mOp gEq (mV 0) (mC (.str ""))) [~~~(.str t),none,none,none,none]=.ok (false,[~~~(.str t),none,none,none,none]):=W_eq.mp (by simp? only [QaI,ne])
 have f0:Qdb 1 (Qnp QaL) [~~~(.str t),none,none,none,none]=.ok (.nx,st t [] none none none):=rfl
 have hf:∀ ρ,Qrb (QkP (Qai (Qa7 (mV 0) (Qai (mC (.str "\n")) QaL)) QaL)) (QhM 2 3) (bdR z) (st t [] none none none)=ρ↔QfG (QhM 2 3) (bdR z) (QjV 0 (lns t)) (st t [] none none none)=ρ:=fun ρ=>by
  unfold Qrb;rw [QrK hl'];rfl
 rcases QiZ (z:=z) (t:=t) hz (ls:=lns t) (A:=[]) (a:=none) (b:=none) (c:=none) (.inl rfl) (.inl rfl) (.inl rfl) (fun x hx=>⟨Nat.le_trans ((Qdo t).2.1 x hx) hl',hs x hx⟩) (by have:=(Qdo t).1;simp;omega) with ⟨n,ρ',h1,h2⟩ | ⟨a',b',c',h1,h4,h5,h6,h7⟩
 ·rw [h1]
  show _=Fr.ex _
  refine Ql1 (ρ:=ρ') ?_
  dsimp only [QaT]
  show QbQ _ _ [~~~(.str t),none,none,none,none]=_
  rw [QiF t0,QdT f0]
  refine QlA ((hf _).mpr ?_)
  rw [show ([]:List D).length+n=n by simp] at h2
  exact h2
 ·rw [h1]
  show _=Fr.ok _ _
  refine QdA (Qbt ?_)
  dsimp only [QaT]
  show W (QbQ _ _ [~~~(.str t),none,none,none,none]) _
  rw [QiF t0,QdT f0,QdT ((hf _).mpr h7)]
  refine ⟨(.rt (.lst ((lns t).map Qak)),(st t ((lns t).map Qak) a' b' c').set 1 none),rfl,_,[],rfl,?_,rfl,rfl⟩
  rcases h4 with rfl | ⟨_,rfl⟩<;>rcases h5 with rfl | ⟨_,rfl⟩<;>rcases h6 with rfl | ⟨_,rfl⟩<;>rfl
theorem Qq0:Qap z [.str ""]=.ok (.lst []) []:=QdA (Qbt (by
 dsimp only [QaT]
 show W (QbQ _ _ [~~~(.str ""),none,none,none,none]) _
 refine Qbv (b:=true) (ρ1:=[~~~(.str ""),none,none,none,none]) (W_eq.mp (by simp? only [QaI,decide_true])) (fun _=>Qfa rfl ⟨_,[],rfl,rfl,rfl,rfl⟩) fun h=>nomatch h))
def QdJ (t:Str):D:=if t = "" then .lst [] else match idx ((lns t).map Qak) with
 |some n=>.int n
 |none=>.lst ((lns t).map Qak)
end
variable {z:Z}
section
variable {w l t:Str}{ρ1:Rho}
theorem Qgh (hz:Zok z)(hl:t.length<=999990)(hs:Sh t):Qdx z [.str t]=.ok (QdJ t) []:=QdA (Qbt (by
 dsimp only [Qce]
 show W (QbQ _ _ [~~~(.str t),none,none]) _
 have good:∀ {A:List D},Qap z [.str t]=.ok (.lst A) []->QdJ t=.lst A->W (QbQ (QnF z.K (Qdb 1 (QaJ .O (Qap z) (Qai (mV 0) QaL))) [(z.c_NoText,2,(QbQ (mIf (mOr (QaE (Qas Qk0 (Qai (mUn (Qej z.c_NoText) (mV 2)) (Qai (mC (.ty "bool")) QaL)))) (Qhr (QaE (Qas (QfW z.K) (Qai (mV 2) (Qai (mC (.cls z.c_GlowError)) QaL)))))) (QfH (mI (mC .non))) QdQ) (QfH (mI (mUn (Qej z.c_NoText) (mV 2))))))]) (QfH (mO 1)) [~~~(.str t),none,none]) fun q=>∃ d os,q.1=.rt d/\outs [false] q.2=some os/\d=QdJ t/\os=[]:=fun {A} e h=>by
  have sv:Qdb 1 (QaJ .O (Qap z) (Qai (mV 0) QaL)) [~~~(.str t),none,none]=.ok (.nx,[~~~(.str t),some (.own (.lst A)),none]):=by
   exact W_eq.mp (by simp? only [QhG e])
  have tr:∀ hs,QnF z.K (Qdb 1 (QaJ .O (Qap z) (Qai (mV 0) QaL))) hs [~~~(.str t),none,none]=.ok (.nx,[~~~(.str t),some (.own (.lst A)),none]):=fun hs=>by unfold QnF;rw [sv]
  rw [QdT (tr _),h]
  exact ⟨(.rt (.lst A),[~~~(.str t),none,none]),rfl,_,[],rfl,rfl,rfl,rfl⟩
 by_cases ne:t = ""
 ·refine good (A:=[]) (by rw [ne];exact Qq0) ?_
  unfold QdJ;rw [if_pos ne]
 have e:=QkJ (z:=z) hz hl hs ne
 cases hg:idx ((lns t).map Qak) with
 |some n=>
  rw [hg] at e
  have ea:QdJ t=.int n:=by unfold QdJ;rw [if_neg ne,hg]
  have e:Qap z [.str t]=.ex ⟨z.c_NoText,some (n:Int)⟩:=e
  have sx:Qdb 1 (QaJ .O (Qap z) (Qai (mV 0) QaL)) [~~~(.str t),none,none]=.ex ⟨z.c_NoText,some (n:Int)⟩ [~~~(.str t),none,none]:=by
   unfold Qdb;rw [QkV (args:=[.str t]) rfl e];rfl
  refine ⟨(.rt (.int n),[~~~(.str t),none,~~~(.nd (.exc z.c_NoText) [.int n])]),?_,_,[],rfl,rfl,ea.symm,rfl⟩
  have i1:QfW z.K [.nd (.exc z.c_NoText) [.int n],.cls z.c_GlowError]=some (.bl true):=by
   show (PySem.W.kitOne z.K (.ref z.c_NoText) (.ref z.c_GlowError)).bind _=_
   rw [hz.kt]
   show (if true=true\/Qba z.K z.c_NoText=true then some (D.bl true) else none)=_
   exact if_pos (Or.inl rfl)
  have i2:Qej z.c_NoText (.nd (.exc z.c_NoText) [.int n])=some (.int n):=if_pos rfl
  have i3:Qk0 [.int (n:Int),.ty "bool"]=some (.bl false):=rfl
  have hd:QbQ (mIf (mOr (QaE (Qas Qk0 (Qai (mUn (Qej z.c_NoText) (mV 2)) (Qai (mC (.ty "bool")) QaL)))) (Qhr (QaE (Qas (QfW z.K) (Qai (mV 2) (Qai (mC (.cls z.c_GlowError)) QaL)))))) (QfH (mI (mC .non))) QdQ) (QfH (mI (mUn (Qej z.c_NoText) (mV 2)))) [~~~(.str t),none,~~~(.nd (.exc z.c_NoText) [.int n])]=.ok (.rt (.int n),[~~~(.str t),none,~~~(.nd (.exc z.c_NoText) [.int n])]):=W_eq.mp (by
   simp? only [i1,i2,i3])
  refine QpM ?_
  unfold QnF
  rw [sx]
  show noX (QbP z.K ⟨z.c_NoText,some (n:Int)⟩ _ _)=_
  unfold QbP
  rw [hz.ex]
  show noX ((QbQ _ _ [~~~(.str t),none,~~~(.nd (.exc z.c_NoText) [.int n])]).bind _)=_
  rw [hd];rfl
 |none=>
  rw [hg] at e
  exact good e (by unfold QdJ;rw [if_neg ne,hg])))
theorem Qlq (l:Str):QqN (Qak l)=some (Qel (Qak l)):=by
 rcases Qid (wds l) with h | ⟨xs,h⟩
 ·unfold Qak;rw [h];rfl
 ·unfold Qak;rw [h];rfl
theorem QnR:∀ ls:List Str,QiM (ls.map Qak)=some ((idx (ls.map Qak)).isSome)
 | []=>rfl
 |l :: ls=>by
  rw [List.map_cons,QiM,QnR ls,Qlq,idx]
  cases Qel (Qak l) with
  |true=>rfl
  |false=>
   show some (false || _)=_
   rw [if_neg (by decide),Bool.false_or,Option.isSome_map]
theorem Qlh:∀ ls:List Str,QkF (ls.map Qak)=idx (ls.map Qak)
 | []=>rfl
 |l :: ls=>by
  rw [List.map_cons,QkF,Qlh ls,Qlq,idx]
  cases Qel (Qak l)<;>rfl
theorem Qi9 (hz:Zok z)(hl:t.length<=999990)(hs:Sh t):Qdv z [.str t]=.ok (QdJ t) []:=QdA (Qbt (by
 dsimp only [Qch]
 show W (QbQ _ _ [~~~(.str t),none]) _
 have hl':t.length<=1000000:=by omega
 refine Qbv (b:=decide (t = "")) (ρ1:=[~~~(.str t),none]) (W_eq.mp (by simp? only [QaI])) (fun h=>Qfa rfl ⟨_,[],rfl,rfl,?_,rfl⟩) fun h=>?_
 ·unfold QdJ;rw [if_pos (of_decide_eq_true h)]
 have ne:=of_decide_eq_false h
 have hn:=(Qdo t).1
 have cmp:Qa5 false [.me] 0 (QbV (Qa7 (mV 0) (Qai (mC (.str "\n")) QaL))) Qhv (mI (QaJ .V (QaS z) (Qai (mV 0) QaL))) [~~~(.str t),none]=.ok (.lst ((lns t).map Qak),[~~~(.str t),none]):=by
  have e1:Qa7 (mV 0) (Qai (mC (.str "\n")) QaL) [~~~(.str t),none]=.ok (.lst ((lns t).map D.str),[~~~(.str t),none]):=by
   unfold Qa7;exact QlG hl'
  have e2:QbV (Qa7 (mV 0) (Qai (mC (.str "\n")) QaL)) [~~~(.str t),none]=.ok ((lns t).map D.str,[~~~(.str t),none]):=by unfold QbV;rw [e1];rfl
  refine (QcG (g:=fun d=>match d with | .str w=>Qak w | d=>d) (di:=[]) (ρb:=[none]) (os:=[]) e2 rfl rfl ?_ (by rw [sizeLine_eq,List.length_map];omega) rfl rfl).trans ?_
  ·intro d hd
   obtain ⟨x,hx,rfl⟩:=List.mem_map.mp hd
   have e:QaS z [.str x]=.ok (Qak x) []:=Qf7 hz (Nat.le_trans ((Qdo t).2.1 x hx) hl') (hs x hx)
   have im:(Qak x).imm=true:=Qlf
   refine ⟨[~~~(.str x)],rfl,W_eq.mp ?_,rfl⟩
   simp? only [QfN e,im,true_and]
  ·rw [List.map_map];rfl
 refine Ws [~~~(.str t),some (.own (.lst ((lns t).map Qak)))] ?_ ?_
 ·refine ⟨(.nx,[~~~(.str t),some (.own (.lst ((lns t).map Qak)))]),Qmy cmp rfl,rfl,rfl⟩
 have gi:QjK .non (.lst ((lns t).map Qak))=some (.bl (idx ((lns t).map Qak)).isSome):=by
  show (QiM ((lns t).map Qak)).map _=_
  rw [QnR];rfl
 refine Qbv (b:=(idx ((lns t).map Qak)).isSome) (ρ1:=[~~~(.str t),some (.own (.lst ((lns t).map Qak)))]) (W_eq.mp (by simp? only [gi])) (fun h=>?_) fun h=>?_
 ·obtain ⟨n,hg⟩:=Option.isSome_iff_exists.mp h
  have gx:Qq9 ((lns t).map Qak) .non=some n:=by
   show (if (QiM ((lns t).map Qak)).isSome=true/\((lns t).map Qak).length<1000000 then QkF ((lns t).map Qak) else none)=_
   rw [if_pos ⟨by rw [QnR];rfl,by rw [List.length_map];omega⟩,Qlh,hg]
  have mx:Qtg (mB 1) (Qai (mC .non) QaL) [~~~(.str t),some (.own (.lst ((lns t).map Qak)))]=.ok (.int n,[~~~(.str t),some (.own (.lst ((lns t).map Qak)))]):=by
   show Rs.of ((Qq9 ((lns t).map Qak) .non).map _)=_
   rw [gx];rfl
  refine Qfa (d:=.int n) (ρ1:=[~~~(.str t),some (.own (.lst ((lns t).map Qak)))]) ?_ ⟨_,[],rfl,rfl,?_,rfl⟩
  ·unfold mI;rw [mx];rfl
  ·unfold QdJ;rw [if_neg ne,hg]
 ·have hg:idx ((lns t).map Qak)=none:=by
   cases e:idx ((lns t).map Qak) with
   |none=>rfl
   |some n=>rw [e] at h;cases h
  refine ⟨(.rt (.lst ((lns t).map Qak)),[~~~(.str t),none]),rfl,_,[],rfl,rfl,?_,rfl⟩
  unfold QdJ;rw [if_neg ne,hg]))
end
theorem Qb4 (c:Nat):∀ (x y:List Nat),Qau c (x++c :: y)=Qau c x++Qau c y
 | [],y=>by
  show (if c=c then [] :: Qau c y else _)=_
  rw [if_pos rfl];rfl
 |d :: x,y=>by
  have ih:=Qb4 c x y
  show Qau c (d :: (x++c :: y))=_
  by_cases h:d=c
  ·rw [Qau,if_pos h,ih,Qau,if_pos h];rfl
  ·obtain ⟨p,q,e⟩:=Qcp c x
   rw [Qau,if_neg h,ih,Qau,if_neg h,e];rfl
theorem Qdz (c:Nat):∀ (w:Str) (ws:List Str),Qau c (Str.join ⟨#[c]⟩ (w :: ws)).cps.toList=(w :: ws).flatMap fun y=>Qau c y.cps.toList
 |w,[]=>by
  show Qau c w.cps.toList=_
  simp
 |w,v :: ws=>by
  have e:(Str.join ⟨#[c]⟩ (w :: v :: ws)).cps.toList=w.cps.toList++c :: (Str.join ⟨#[c]⟩ (v :: ws)).cps.toList:=by
   show (w++⟨#[c]⟩++Str.join ⟨#[c]⟩ (v :: ws)).cps.toList=_
   rw [QcC,QcC,Array.toList_append,Array.toList_append]
   simp
  rw [e,Qb4,Qdz c v ws]
  simp only [List.flatMap_cons]
theorem QkA {t l w:Str}(hl:l∈lns t)(hw:w∈wds l):w∈wds (Txt.replace t "\n" " "):=by
 unfold lns at hl
 unfold wds at hw ⊢
 rw [Qg6] at hw ⊢
 rw [Qe7] at hl ⊢
 rw [StrLaws.replace_one]
 cases e:Txt.split t ⟨#[10]⟩ with
 |nil=>rw [e] at hl;cases hl
 |cons a as=>
  rw [QaH,Qdz]
  rw [QaH] at hw
  obtain ⟨q,hq,rfl⟩:=List.mem_map.mp hw
  rw [e] at hl
  exact List.mem_map.mpr ⟨q,List.mem_flatMap.mpr ⟨l,hl,hq⟩,rfl⟩
theorem QrR {t:Str}(h:∀ w∈wds (Txt.replace t "\n" " "),w.length<=60):Sh t:=fun l hl w hw=>Nat.le_trans (h w (QkA hl hw)) (by decide)
theorem Qir (c:Nat):∀ l:List Nat,((Qau c l).map List.length).sum+(Qau c l).length=l.length+1
 | []=>rfl
 |d :: l=>by
  have ih:=Qir c l
  by_cases h:d=c
  ·rw [Qau,if_pos h]
   simp only [List.map_cons,List.sum_cons,List.length_cons,List.length_nil]
   omega
  ·rw [Qau,if_neg h]
   obtain ⟨p,q,e⟩:=Qcp c l
   rw [e] at ih ⊢
   simp only [List.map_cons,List.sum_cons,List.length_cons] at ih ⊢
   omega
theorem Qj5 {t:Str}(hl:t.length<=900000):(Txt.replace t "\n" " ").length<=999990:=by
 rw [Qe7,StrLaws.replace_one]
 have h1:=StrLaws.join_length_le " " (Txt.split t ⟨#[10]⟩)
 have h2:=Qir 10 t.cps.toList
 have e:t.cps.toList.length=t.length:=Array.length_toList
 have e1:(" " : Str).length=1:=by decide +kernel
 have e2:((Txt.split t ⟨#[10]⟩).map (·.length)).sum=((Qau 10 t.cps.toList).map List.length).sum:=by
  rw [QaH,List.map_map]
  congr 1
 have e3:(Txt.split t ⟨#[10]⟩).length=(Qau 10 t.cps.toList).length:=by rw [QaH,List.length_map]
 rw [e1,e2,e3] at h1
 omega
theorem QpE (t:Str):lns (t++("\n" : Str))=lns t++[("" : Str)]:=by
 unfold lns
 rw [Qe7,QaH,QaH,QcC,Array.toList_append]
 show (Qau 10 (t.cps.toList++10 :: [])).map _=_
 rw [Qb4,List.map_append]
 congr 1
theorem QjM:wds "" = [("" : Str)]:=by decide +kernel
theorem Qo8 {t:Str}(h:Sh t):Sh (t++("\n" : Str)):=fun l hl w hw=>by
 rw [QpE] at hl
 rcases List.mem_append.mp hl with q | q
 ·exact h l q w hw
 ·rw [List.mem_singleton.mp q,QjM,List.mem_singleton] at hw
  rw [hw];decide +kernel
theorem Qoq {ws:List Str}:(dl ws).pln 29=true:=by
 have r:∀ h ts c n,(Qa2 h ts c n).pln 29=true:=fun h ts c n=>by
  unfold Qa2
  split
  ·refine List.all_eq_true.mpr fun d hd=>?_
   rcases List.mem_append.mp hd with q | q
   ·rcases List.mem_append.mp q with q | q
    ·obtain ⟨s,_,rfl⟩:=List.mem_map.mp q;rfl
    ·obtain ⟨s,_,rfl⟩:=List.mem_map.mp q;rfl
   ·obtain ⟨s,_,rfl⟩:=List.mem_map.mp q;rfl
  ·rfl
 unfold dl
 split
 ·rfl
 ·split
  ·rfl
  ·unfold dlW
   split
   ·split
    ·rfl
    ·split
     ·exact r _ _ _ _
     ·rfl
   ·exact r _ _ _ _
theorem Qeh {t:Str}:(QdJ t).pln 30=true:=by
 unfold QdJ
 split
 ·rfl
 ·split
  ·rfl
  ·refine List.all_eq_true.mpr fun d hd=>?_
   obtain ⟨s,_,rfl⟩:=List.mem_map.mp hd
   exact Qoq
variable {z:Z}
def WP (w:Str):Prop:=w.length<=60/\10∉w.cps.toList
def QlQ (d:D)(os:List D):Prop:=∃ q w,os=[q]/\Pot q/\d=.str w/\WP w
theorem Qdl {ws:List Str}{r:Int}(h0:0<=r)(h1:r<ws.length):∃ w,w∈ws/\gIx (.lst (ws.map D.str)) (.int r)=some (.str w):=by
 have l:r.toNat<ws.length:=by omega
 refine ⟨ws[r.toNat],List.getElem_mem l,?_⟩
 have e:=Qdr (t:=.lst) (ds:=ws.map D.str) (i:=r.toNat) (d:=.str ws[r.toNat]) (.inl rfl) (by rw [List.getElem?_map,List.getElem?_eq_getElem l];rfl)
 rwa [show ((r.toNat:Nat):Int)=r by omega] at e
theorem QlT {p:D}(hp:Pot p):FW (Qb5 z [p]) QlQ:=by
 unfold Qb5
 refine Qbt ?_
 dsimp only [Qb9]
 simp? only []
 refine Qe5 hp (by decide) (by decide) rfl fun r p1 hp1 a0 a1=>?_
 by_cases c:r=0
 ·simp? only [c]
  refine Qe5 hp1 (by decide) (by decide) rfl fun k p2 hp2 k0 k1=>?_
  obtain ⟨w,hw,ew⟩:=Qdl (ws:=["","Put","puts","glas","0","#","wal","in"]) k0 k1
  have ok:∀ w∈(["","Put","puts","glas","0","#","wal","in"]:List Str),(w.length<=60/\10∉w.cps.toList):=by decide +kernel
  simp only [List.map_cons,List.map_nil] at ew
  simp? only [-Qjq,ew]
  exact ⟨_,_,rfl,rfl,p2,w,rfl,hp2,rfl,ok w hw⟩
 ·simp? only [c]
  refine Qe5 hp1 (by decide) (by decide) rfl fun k p2 hp2 k0 k1=>?_
  obtain ⟨w,hw,ew⟩:=Qdl (ws:=["put","out","move","turn","wall","open","glass"]) k0 k1
  have ok:∀ w∈(["put","out","move","turn","wall","open","glass"]:List Str),(w.length<=60/\10∉w.cps.toList):=by decide +kernel
  simp only [List.map_cons,List.map_nil] at ew
  simp? only [-Qjq,ew]
  exact ⟨_,_,rfl,rfl,p2,w,rfl,hp2,rfl,ok w hw⟩
structure NameP (n:Nat)(x:Str):Prop where
 len:x.length=n
 let_:∀ c∈x.cps.toList,97<=c/\c<=122
theorem Qmq:("abcdefghijklmnopqrstuvwxyz" : Str).cps.toList=List.range' 97 26:=by decide +kernel
theorem Qmt {r:Int}(h0:0<=r)(h1:r<26):QnW (.str "abcdefghijklmnopqrstuvwxyz") (.int r)=some (.str ⟨#[97+r.toNat]⟩):=by
 have hl:("abcdefghijklmnopqrstuvwxyz" : Str).length<=sizeLine:=by decide +kernel
 show (if ("abcdefghijklmnopqrstuvwxyz" : Str).length<=sizeLine then (atI ("abcdefghijklmnopqrstuvwxyz" : Str).cps.toList r).map _ else none)=_
 rw [if_pos hl,Qmq]
 have:atI (List.range' 97 26) r=some (97+r.toNat):=by
  unfold atI ixN
  rw [if_pos h0,List.length_range',if_pos (by omega)]
  show (List.range' 97 26)[r.toNat]? = _
  rw [List.getElem?_range' (by omega)]
  simp
 rw [this];rfl
theorem NameP.snoc {n:Nat}{x:Str}{c:Nat}(h:NameP n x)(hc:97<=c/\c<=122):NameP (n+1) (x++(⟨#[c]⟩:Str)):=by
 refine ⟨?_,fun d hd=>?_⟩
 ·show (x.cps++#[c]).size=_
  rw [Array.size_append]
  have:=h.len
  show x.cps.size+1=_
  exact congrArg (· + 1) this
 ·rw [QcC,Array.toList_append,List.mem_append] at hd
  rcases hd with hd | hd
  ·exact h.let_ d hd
  ·rw [List.mem_singleton.mp hd];exact hc
theorem nm0:NameP 0 "" := by
 have e:("" : Str).cps.toList=[]:=by decide +kernel
 exact ⟨by decide +kernel,fun c hc=>by rw [e] at hc;cases hc⟩
def oddC:List Str:=["","Ab","a1","abcdefghi","7","a-b"]
def oddF:List Str:=["","00","01","-1","+2","1_0","a","1.","0x1"]
theorem QiD {p:D}(hp:Pot p):FW (Qa0 z [p]) QlQ:=by
 unfold Qa0
 refine Qbt ?_
 dsimp only [Qbs]
 refine Ws [some (.par p),~~~(.lst (oddC.map D.str)),none,none,none] ?_ ?_
 ·simp? only []
  exact ⟨trivial,rfl⟩
 refine Qbh (fun ρ=>∃ q r,Pot q/\0<=r/\r<60/\ρ=[some (.par q),~~~(.lst (oddC.map D.str)),~~~(.int r),none,none]) ?_ ?_
 ·simp? only []
  refine Qe5 hp (by decide) (by decide) rfl fun r p1 hp1 a0 a1=>?_
  simp? only []
  exact ⟨trivial,p1,r,hp1,a0,a1,rfl⟩
 rintro ρ ⟨q,r,hq,r0,r1,rfl⟩
 have gl:QeK [.lst (oddC.map D.str)]=some (.int 6):=rfl
 refine Qbv (b:=decide (r<6)) (ρ1:=[some (.par q),~~~(.lst (oddC.map D.str)),~~~(.int r),none,none]) (W_eq.mp (by simp? only [-Qed,-List.map_cons,-List.map_nil,gl])) (fun h=>?_) fun h=>?_
 ·obtain ⟨w,hw,ew⟩:=Qdl (ws:=oddC) r0 (of_decide_eq_true h)
  have ok:∀ w∈oddC,(w.length<=60/\10∉w.cps.toList):=by decide +kernel
  refine Qfa (d:=.str w) (ρ1:=[some (.par q),~~~(.lst (oddC.map D.str)),~~~(.int r),none,none]) ?_ ⟨_,[q],rfl,rfl,q,w,rfl,hq,rfl,ok w hw⟩
  exact QjU rfl rfl ew
 generalize D.lst (oddC.map D.str)=O
 refine Ws [some (.par q),~~~O,~~~(.int r),~~~(.str ""),none] ?_ ?_
 ·simp? only []
  exact ⟨trivial,trivial⟩
 simp? only []
 refine Qe5 (n:=8) hq (by decide) (by decide) rfl fun r1 p1 hp1 g0 g1=>?_
 have b1 : -4611686018427387904<=1+r1/\1+r1<4611686018427387904:=by omega
 simp? only [b1,and_self]
 refine Qpv (fun i ρ=>∃ q nm s,Pot q/\NameP i nm/\ρ=[some (.par q),~~~O,~~~(.int r),~~~(.str nm),s]/\NF s) ⟨p1,"",none,hp1,nm0,rfl,.inl rfl⟩ ?_ ?_
 ·rintro i d ρ hd ⟨q,nm,s,hq,hn,rfl,hs⟩
  have hi:=(List.getElem?_eq_some_iff.mp hd).1
  rw [List.length_map,List.length_range] at hi
  refine ⟨[some (.par q),~~~O,~~~(.int r),~~~(.str nm),~~~d],by rcases hs with rfl | ⟨_,rfl⟩<;>rfl,?_⟩
  simp? only []
  refine Qe5 (n:=26) hq (by decide) (by decide) rfl fun r2 p2 hp2 k0 k1=>?_
  have hz:nm.length+(⟨#[97+r2.toNat]⟩:Str).length<=16777216:=by
   show nm.length+1<=_
   rw [hn.len];omega
  simp? only [Qmt k0 k1,hz]
  exact ⟨trivial,_,_,_,hp2,hn.snoc (by omega),rfl,.inr ⟨_,rfl⟩⟩
 ·rintro ρ ⟨q,nm,s,hq,hn,rfl,hs⟩
  rw [List.length_map,List.length_range] at hn
  simp? only []
  refine ⟨_,[q],rfl,?_,q,nm,rfl,hq,rfl,by rw [hn.len];omega,fun hc=>?_⟩
  ·rcases hs with rfl | ⟨_,rfl⟩<;>rfl
  ·have:=hn.let_ 10 hc;omega
theorem QmO {p:D}(hp:Pot p):FW (Qbi z [p]) QlQ:=by
 unfold Qbi
 refine Qbt ?_
 dsimp only [Qbd]
 have cp1:Qk5 10 20:=by unfold Qk5;decide
 have cp2:Qk5 10 60:=by unfold Qk5;decide
 have e20:(10:Int) ^ 20=100000000000000000000:=by decide
 have e60:(10:Int) ^ 60=1000000000000000000000000000000000000000000000000000000000000:=by decide
 refine Ws [some (.par p),~~~(.lst (oddF.map D.str)),none] ?_ ?_
 ·simp? only []
  exact ⟨trivial,rfl⟩
 refine Qbh (fun ρ=>∃ q r,Pot q/\0<=r/\r<90/\ρ=[some (.par q),~~~(.lst (oddF.map D.str)),~~~(.int r)]) ?_ ?_
 ·simp? only []
  refine Qe5 hp (by decide) (by decide) rfl fun r p1 hp1 a0 a1=>?_
  simp? only []
  exact ⟨trivial,p1,r,hp1,a0,a1,rfl⟩
 rintro ρ ⟨q,r,hq,r0,r1,rfl⟩
 have gl:QeK [.lst (oddF.map D.str)]=some (.int 9):=rfl
 refine Qbv (b:=decide (r<9)) (ρ1:=[some (.par q),~~~(.lst (oddF.map D.str)),~~~(.int r)]) (W_eq.mp (by simp? only [-Qed,-List.map_cons,-List.map_nil,gl])) (fun h=>?_) fun h=>?_
 ·obtain ⟨w,hw,ew⟩:=Qdl (ws:=oddF) r0 (of_decide_eq_true h)
  have ok:∀ w∈oddF,(w.length<=60/\10∉w.cps.toList):=by decide +kernel
  refine Qfa (d:=.str w) (ρ1:=[some (.par q),~~~(.lst (oddF.map D.str)),~~~(.int r)]) ?_ ⟨_,[q],rfl,rfl,q,w,rfl,hq,rfl,ok w hw⟩
  exact QjU rfl rfl ew
 generalize D.lst (oddF.map D.str)=O
 simp? only [cp1,cp2]
 refine Qe5 hq (by decide) (by decide) rfl fun k p1 hp1 k0 k1=>?_
 have fin:∀ {m n:Int} {q:D},Pot q->0<=n->n<m->m<=10 ^ 60->n.natAbs.log2<1920/\WP (Str.ofString (toString n)):=fun {m n q} hq n0 n1 m1=>by
  obtain ⟨x,rfl⟩:∃ x:Nat,n=(x:Int):=⟨n.toNat,by omega⟩
  refine ⟨PySem.Spec.log2_small (Nat.lt_of_lt_of_le (m:=10 ^ 60) ?_ (by decide +kernel)),(Qks (m:=x) (k:=60) (by decide) (by omega)).2,fun hc=>?_⟩
  ·have:(10:Nat) ^ 60=1000000000000000000000000000000000000000000000000000000000000:=by decide
   omega
  ·have:=Qj0 (m:=x) 10 hc;omega
 rcases (by omega:k=0\/k=1\/k=2\/k=3) with rfl | rfl | rfl | rfl
 all_goals
  simp? only []
  refine Qe5 hp1 (by omega) (by omega) rfl fun n p2 hp2 n0 n1=>?_
  obtain ⟨l1,l2⟩:=fin hp2 n0 n1 (by omega)
  simp? only [l1]
  exact ⟨_,_,rfl,rfl,p2,_,rfl,hp2,rfl,l2⟩
variable {z:Z}
theorem QdZ {sep:Str}{ys:List Str}(h:JoinOk sep ys=true):QmN sep [.lst (ys.map D.str)]=some (.str (Str.join sep ys)):=by
 have e:QnK (ys.map D.str)=some ys:=by
  clear h
  induction ys with
  |nil=>rfl
  |cons y ys ih=>rw [List.map_cons,QnK,ih];rfl
 show (QnK (ys.map D.str)).bind _=_
 rw [e]
 exact if_pos h
theorem QgO:∀ {ds ys:List D},Fa2 (fun _ y=>∃ w:Str,y=.str w/\WP w) ds ys->∃ ws:List Str,ys=ws.map D.str/\∀ w∈ws,WP w
 |_,_,.nil=>⟨[],rfl,fun _ h=>nomatch h⟩
 |_,_,.cons h r=>by
  obtain ⟨w,e,hw⟩:=h
  obtain ⟨ws,e2,h2⟩:=QgO r
  subst e e2
  exact ⟨w :: ws,rfl,fun v hv=>(List.mem_cons.mp hv).elim (fun h=>h▸hw) (h2 v)⟩
def D5:D:=.nd (.dK [.inr "put",.inr "out",.inr "move",.inr "turn",.inr "glass"]) [.int 3,.int 2,.int 4,.int 3,.int 3]
theorem QtD (w:Str):∃ m:Int,0<=m/\m<=5/\Qnk ([.inr "put",.inr "out",.inr "move",.inr "turn",.inr "glass"],[.int 3,.int 2,.int 4,.int 3,.int 3]) (.str w) (.int 2)=some (.int m):=by
 show ∃ m:Int,0<=m/\m<=5/\(match Qbp ([.inr "put",.inr "out",.inr "move",.inr "turn",.inr "glass"]:List Key) [.int 3,.int 2,.int 4,.int 3,.int 3] (.inr w) with | some d=>if d.imm=true then some d else none | none=>some (D.int 2))=some (.int m)
 simp only [Qbp]
 split
 ·next h=>
  split at h
  ·cases h;exact ⟨3,by decide,by decide,rfl⟩
  split at h
  ·cases h;exact ⟨2,by decide,by decide,rfl⟩
  split at h
  ·cases h;exact ⟨4,by decide,by decide,rfl⟩
  split at h
  ·cases h;exact ⟨3,by decide,by decide,rfl⟩
  split at h
  ·cases h;exact ⟨3,by decide,by decide,rfl⟩
  ·cases h
 ·exact ⟨2,by decide,by decide,rfl⟩
def Qeu (l:Str):Prop:=∃ ws:List Str,l=Str.join " " ws/\ws≠[]/\ws.length<=8/\∀ w∈ws,WP w
theorem QnQ {p:D}(hp:Pot p):FW (QaP z [p]) (fun d os=>∃ q l,os=[q]/\Pot q/\d=.str l/\Qeu l):=by
 unfold QaP
 refine Qbt ?_
 dsimp only [QaQ]
 refine Qbh (fun ρ=>∃ q w,Pot q/\WP w/\ρ=[some (.par q),~~~(.str w),none,none]) ?_ ?_
 ·simp? only []
  refine Qky rfl (QlT hp) fun d os hz=>?_
  obtain ⟨q,w,e1,hq,e2,hw⟩:=hz
  subst e1 e2
  refine ⟨q,rfl,?_⟩
  simp? only []
  exact ⟨trivial,q,w,hq,hw,rfl⟩
 rintro ρ ⟨q,w,hq,hw,rfl⟩
 refine Qbh (fun ρ=>∃ m:Int,0<=m/\m<=5/\ρ=[some (.par q),~~~(.str w),~~~(.int m),none]) ?_ ?_
 ·obtain ⟨m,m0,m1,em⟩:=QtD w
  refine ⟨(.nx,[some (.par q),~~~(.str w),~~~(.int m),none]),?_,rfl,m,m0,m1,rfl⟩
  have nd:(["put","out","move","turn","glass"]:List Str).Nodup:=by decide +kernel
  have ed:QkQ [("put",(mC (.int 3))),("out",(mC (.int 2))),("move",(mC (.int 4))),("turn",(mC (.int 3))),("glass",(mC (.int 3)))] [some (.par q),~~~(.str w),none,none]=.ok (D5,[some (.par q),~~~(.str w),none,none]):=W_eq.mp (by
   simp? only [nd,true_and,and_self]
   rfl)
  have eg:QjA (QkQ [("put",(mC (.int 3))),("out",(mC (.int 2))),("move",(mC (.int 4))),("turn",(mC (.int 3))),("glass",(mC (.int 3)))]) (mV 1) (mC (.int 2)) [some (.par q),~~~(.str w),none,none]=.ok (.int m,[some (.par q),~~~(.str w),none,none]):=by
   unfold QjA
   rw [ed]
   show Rs.of ((Qnk ([.inr "put",.inr "out",.inr "move",.inr "turn",.inr "glass"],[.int 3,.int 2,.int 4,.int 3,.int 3]) (.str w) (.int 2)).map _)=_
   rw [em];rfl
  unfold Qcr
  rw [eg];rfl
 rintro ρ ⟨m,m0,m1,rfl⟩
 refine Qbh (fun ρ=>∃ (q:D) (m:Int),Pot q/\0<=m/\m<=5/\ρ=[some (.par q),~~~(.str w),~~~(.int m),none]) ?_ ?_
 ·simp? only []
  refine Qe5 hq (by decide) (by decide) rfl fun r p1 hp1 a0 a1=>?_
  by_cases c:r=0
  ·simp? only [c]
   refine Qe5 hp1 (by decide) (by decide) rfl fun k p2 hp2 k0 k1=>?_
   simp? only []
   exact ⟨trivial,p2,k,hp2,k0,by omega,rfl⟩
  ·simp? only [c]
   exact ⟨trivial,p1,m,hp1,m0,m1,rfl⟩
 rintro ρ ⟨q1,m,hq1,m0,m1,rfl⟩
 refine Ws [some (.par q1),~~~(.str w),~~~(.int m),some (.own (.lst ([w].map D.str)))] ?_ ?_
 ·simp? only [List.map_cons,List.map_nil]
  exact ⟨trivial,trivial⟩
 refine Qbh (fun ρ=>∃ (q:D) (ws:List Str),Pot q/\ws≠[]/\ws.length<=2/\(∀ w∈ws,WP w)/\ρ=[some (.par q),~~~(.str w),~~~(.int m),some (.own (.lst (ws.map D.str)))]) ?_ ?_
 ·have col:∀ {q:D},Pot q->W (QqX 3 (mI (Qi4 true [some 0] (Qa0 z) (Qai (mS 0) QaL))) [some (.par q),~~~(.str w),~~~(.int m),some (.own (.lst ([w].map D.str)))]) fun r=>r.1=.nx/\∃ (q:D) (ws:List Str),Pot q/\ws≠[]/\ws.length<=2/\(∀ w∈ws,WP w)/\r.2=[some (.par q),~~~(.str w),~~~(.int m),some (.own (.lst (ws.map D.str)))]:=fun {q} hq=>by
   simp? only []
   refine Qky rfl (QiD hq) fun d os hz=>?_
   obtain ⟨q',c,e1,hq',e2,hc⟩:=hz
   subst e1 e2
   refine ⟨q',rfl,?_⟩
   simp? only [List.map_cons,List.map_nil]
   exact ⟨trivial,q',[w,c],hq',by simp,by simp,fun v hv=>(List.mem_cons.mp hv).elim (fun h=>h▸hw) fun h=>List.mem_singleton.mp h▸hc,rfl⟩
  have no:∀ {q:D},Pot q->W (QdQ [some (.par q),~~~(.str w),~~~(.int m),some (.own (.lst ([w].map D.str)))]) fun r=>r.1=.nx/\∃ (q:D) (ws:List Str),Pot q/\ws≠[]/\ws.length<=2/\(∀ w∈ws,WP w)/\r.2=[some (.par q),~~~(.str w),~~~(.int m),some (.own (.lst (ws.map D.str)))]:=fun {q} hq=>
   W_ok.mpr ⟨rfl,q,[w],hq,by simp,by simp,fun v hv=>List.mem_singleton.mp hv▸hw,rfl⟩
  obtain ⟨b,gb⟩:∃ b,gIn (.str w) (.tup [.str "put",.str "out",.str "move",.str "turn"])=some (.bl b):=⟨_,rfl⟩
  have tk:∀ {k:Bool × Rho->Prop},(∀ (b:Bool) q,Pot q->k (b,[some (.par q),~~~(.str w),~~~(.int m),some (.own (.lst ([w].map D.str)))]))->W (QaE (mOp gEq (Qi4 true [some 0,none] (Qa1 z) (Qai (mS 0) (Qai (mC (.int 30)) QaL))) (mC (.int 0))) [some (.par q1),~~~(.str w),~~~(.int m),some (.own (.lst ([w].map D.str)))]) k:=fun {k} hk=>by
   simp? only []
   refine Qe5 hq1 (by decide) (by decide) rfl fun r p1 hp1 a0 a1=>?_
   simp? only []
   exact hk _ _ hp1
  have t1:QaE (mOp gIn (mV 1) (Qki (Qai (mC (.str "put")) (Qai (mC (.str "out")) (Qai (mC (.str "move")) (Qai (mC (.str "turn")) QaL)))))) [some (.par q1),~~~(.str w),~~~(.int m),some (.own (.lst ([w].map D.str)))]=.ok (b,[some (.par q1),~~~(.str w),~~~(.int m),some (.own (.lst ([w].map D.str)))]):=W_eq.mp (by simp? only [gb])
  refine W_bind.mpr ?_
  unfold mOr
  rw [t1]
  cases b with
  |true=>exact ⟨_,rfl,col hq1⟩
  |false=>
   obtain ⟨⟨b,ρ1⟩,e,h⟩:=tk (k:=fun r=>∃ (b:Bool) (q:D),Pot q/\r=(b,[some (.par q),~~~(.str w),~~~(.int m),some (.own (.lst ([w].map D.str)))])) fun b q hq=>⟨b,q,hq,rfl⟩
   obtain ⟨b',q',hq',eq⟩:=h
   refine ⟨(b,ρ1),e,?_⟩
   cases eq
   cases b with
   |true=>exact col hq'
   |false=>exact no hq'
 rintro ρ ⟨q2,ws,hq2,ne,wl,hws,rfl⟩
 have b0 : -4611686018427387904<=m/\m<4611686018427387904:=by omega
 simp? only [b0,and_self]
 refine QpJ (ρb:=[none,some (.par q2)]) (di:=[q2]) (Inv:=fun ρ=>∃ q,Pot q/\ρ=[none,some (.par q)]) (Pd:=fun _ y=>∃ w:Str,y=.str w/\WP w) rfl rfl (fun d hd ρ hI=>?_) ⟨q2,hq2,rfl⟩ (by rw [sizeLine_eq,List.length_map,List.length_range];omega) ?_
 ·obtain ⟨q,hq,rfl⟩:=hI
  refine ⟨[~~~d,some (.par q)],rfl,⟨(true,[~~~d,some (.par q)]),rfl,rfl,?_⟩⟩
  simp? only []
  refine Qky rfl (QmO hq) fun d os hz=>?_
  obtain ⟨q',w,e1,hq',e2,hw⟩:=hz
  subst e1 e2
  refine ⟨q',rfl,?_⟩
  simp? only []
  exact ⟨⟨q',hq',rfl⟩,w,rfl,hw⟩
 ·rintro ys ρ2 ⟨q,hq,rfl⟩ hf
  obtain ⟨vs,rfl,hvs⟩:=QgO hf
  have hn:=hf.length
  rw [List.length_map,List.length_map,List.length_range] at hn
  refine ⟨[q],rfl,?_⟩
  have all:∀ x∈ws++vs,WP x:=fun x hx=>(List.mem_append.mp hx).elim (hws x) (hvs x)
  have jl:(ws++vs).length<=8:=by rw [List.length_append];omega
  have jo:=Qls (sep := " ") (B:=60) (ws:=ws++vs) (fun x hx=>(all x hx).1) (by decide +kernel) (by omega)
  have ej:=QdZ jo
  rw [List.map_append] at ej
  have z1:(ws.map D.str).length+(vs.map D.str).length<=16777216:=by rw [List.length_map,List.length_map];omega
  simp? only [z1,ej]
  exact ⟨_,[q],rfl,rfl,q,_,rfl,hq,rfl,ws++vs,rfl,by simp [ne],jl,all⟩
variable {z:Z}
theorem Qtl {r:Int}(h0:0<=r)(h1:r<16):∃ c:Nat,QnW (.str "ab 0123456789\n_p") (.int r)=some (.str ⟨#[c]⟩):=by
 have hl:("ab 0123456789\n_p" : Str).length<=sizeLine:=by decide +kernel
 have e:("ab 0123456789\n_p" : Str).cps.toList.length=16:=by decide +kernel
 have l:r.toNat<("ab 0123456789\n_p" : Str).cps.toList.length:=by omega
 refine ⟨("ab 0123456789\n_p" : Str).cps.toList[r.toNat],?_⟩
 show (if ("ab 0123456789\n_p" : Str).length<=sizeLine then (atI ("ab 0123456789\n_p" : Str).cps.toList r).map _ else none)=_
 rw [if_pos hl]
 unfold atI ixN
 rw [if_pos h0,if_pos (by rw [e];exact h1)]
 show ((("ab 0123456789\n_p" : Str).cps.toList[r.toNat]?).map _)=_
 rw [List.getElem?_eq_getElem l];rfl
theorem Qem (x y:Str):(x++y).length=x.length+y.length:=by
 show (x.cps++y.cps).size=_
 rw [Array.size_append];rfl
def s8 (q:D)(u:Str)(a b c d e f:Option Sl):Rho:=[some (.par q),~~~(.str u),a,b,c,d,e,f]
theorem Qol {q:D}{u:Str}{a b c d e f:Option Sl}{x:D}:(NF a->setF (s8 q u a b c d e f) 2 x=some (s8 q u (~~~x) b c d e f))/\(NF b->setF (s8 q u a b c d e f) 3 x=some (s8 q u a (~~~x) c d e f))/\(NF c->setF (s8 q u a b c d e f) 4 x=some (s8 q u a b (~~~x) d e f))/\(NF d->setF (s8 q u a b c d e f) 5 x=some (s8 q u a b c (~~~x) e f))/\(NF e->setF (s8 q u a b c d e f) 6 x=some (s8 q u a b c d (~~~x) f))/\(NF f->setF (s8 q u a b c d e f) 7 x=some (s8 q u a b c d e (~~~x))):=by
 refine ⟨fun h=>?_,fun h=>?_,fun h=>?_,fun h=>?_,fun h=>?_,fun h=>?_⟩<;>rcases h with rfl | ⟨_,rfl⟩<;>rfl
theorem QhC {a:Option Sl}{ρ:Rho}(h:NF a):outs [] (a :: ρ)=outs [] ρ:=by rcases h with rfl | ⟨_,rfl⟩<;>rfl
theorem Qrf {q:D}{u:Str}{a b c d e f:Option Sl}(ha:NF a)(hb:NF b)(hc:NF c)(hd:NF d)(he:NF e)(hf:NF f):outs [true,false] (s8 q u a b c d e f)=some [q]:=by
 show (outs [] [a,b,c,d,e,f]).map _=_
 rw [QhC ha,QhC hb,QhC hc,QhC hd,QhC he,QhC hf];rfl
theorem Qne {i:Nat}{m:ME}{ρ ρ1 ρ2:Rho}{d:D}(h:m ρ=.ok (d,ρ1))(hs:setF ρ1 i d=some ρ2):Qcr i m ρ=.ok (.nx,ρ2):=by
 unfold Qcr
 rw [h]
 show (Rs.of (setF ρ1 i d)).bind _=_
 rw [hs];rfl
theorem QjI {p:D}{t:Str}(hp:Pot p)(ht:t.length<=70000):FW (Qbn z [p,.str t]) (fun d os=>∃ q u,os=[q]/\Pot q/\d=.str u/\u.length<=900000):=by
 unfold Qbn
 refine Qbt ?_
 dsimp only [Qbu]
 refine Qbh (fun ρ=>∃ q u a b c d e f,Pot q/\u.length<=900000/\NF a/\NF b/\NF c/\NF d/\NF e/\NF f/\ρ=s8 q u a b c d e f) ?_ ?_
 ·simp? only []
  refine Qe5 hp (by decide) (by decide) rfl fun r p1 hp1 a0 a1=>?_
  obtain ⟨m,em,m0,m3⟩:∃ m:Int,(if r - 4 > 0 then r - 4 else 0)=m/\0<=m/\m<=3:=⟨_,rfl,by split<;>omega,by split<;>omega⟩
  have b1 : -4611686018427387904<=m/\m<4611686018427387904:=by omega
  simp? only [em,b1,and_self]
  refine Qpv (fun i ρ=>∃ q u a b c d e f,Pot q/\u.length+1<=2 ^ i * 70001/\NF a/\NF b/\NF c/\NF d/\NF e/\NF f/\ρ=s8 q u a b c d e f) ⟨p1,t,none,none,none,none,none,none,hp1,by omega,.inl rfl,.inl rfl,.inl rfl,.inl rfl,.inl rfl,.inl rfl,rfl⟩ ?_ ?_
  ·rintro i x ρ hx ⟨q,u,a,b,c,d,e,f,hq,hu,ha,hb,hc,hd,he,hf,rfl⟩
   have hi:=(List.getElem?_eq_some_iff.mp hx).1
   rw [List.length_map,List.length_range] at hi
   have i3:i<3:=by omega
   have hu2:u.length+1<=280004:=by
    rcases (by omega:i=0\/i=1\/i=2) with rfl | rfl | rfl<;>omega
   refine ⟨s8 q u (~~~x) b c d e f,Qol.1 ha,?_⟩
   have gl:QeK [.str u]=some (.int u.length):=if_pos (by rw [sizeLine_eq];omega)
   refine Qbh (fun ρ=>∃ q n,Pot q/\ρ=s8 q u (~~~x) (~~~(.int n)) c d e f) ?_ ?_
   ·unfold s8
    simp? only [gl]
    refine Qe5 hq (by omega) (by omega) rfl fun n p2 hp2 n0 n1=>?_
    rcases hb with rfl | ⟨_,rfl⟩
    ·simp? only []
     exact ⟨trivial,p2,n,hp2,rfl⟩
    ·simp? only []
     exact ⟨trivial,p2,n,hp2,rfl⟩
   rintro ρ ⟨q1,n,hq1,rfl⟩
   refine Qbh (fun ρ=>∃ q k,Pot q/\ρ=s8 q u (~~~x) (~~~(.int n)) (~~~(.str ⟨#[k]⟩)) d e f) ?_ ?_
   ·unfold s8
    simp? only []
    refine Qe5 hq1 (by omega) (by omega) rfl fun m p2 hp2 n0 n1=>?_
    obtain ⟨k,ek⟩:=Qtl n0 n1
    simp? only [ek]
    rcases hc with rfl | ⟨_,rfl⟩
    ·simp? only []
     exact ⟨trivial,p2,k,hp2,rfl⟩
    ·simp? only []
     exact ⟨trivial,p2,k,hp2,rfl⟩
   rintro ρ ⟨q2,k,hq2,rfl⟩
   refine Qbh (fun ρ=>∃ q w,Pot q/\0<=w/\w<3/\ρ=s8 q u (~~~x) (~~~(.int n)) (~~~(.str ⟨#[k]⟩)) (~~~(.int w)) e f) ?_ ?_
   ·unfold s8
    simp? only []
    refine Qe5 hq2 (by omega) (by omega) rfl fun m p2 hp2 n0 n1=>?_
    rcases hd with rfl | ⟨_,rfl⟩
    ·simp? only []
     exact ⟨trivial,p2,m,hp2,n0,n1,rfl⟩
    ·simp? only []
     exact ⟨trivial,p2,m,hp2,n0,n1,rfl⟩
   rintro ρ ⟨q3,w,hq3,w0,w3,rfl⟩
   have l0:u.length<=16777216:=by omega
   have pw:2 ^ (i+1) * 70001=2 * (2 ^ i * 70001):=by rw [Nat.pow_succ];omega
   obtain ⟨g,o,hg,eg,eo⟩:∃ (g:Str) (o:Int),g.length<=1/\gIx (.lst [.str ⟨#[k]⟩,.str "",.str ⟨#[k]⟩]) (.int w)=some (.str g)/\gIx (.lst [.int 0,.int 1,.int 1]) (.int w)=some (.int o):=by
    rcases (by omega:w=0\/w=1\/w=2) with rfl | rfl | rfl
    ·exact ⟨⟨#[k]⟩,0,Nat.le_refl 1,rfl,rfl⟩
    ·exact ⟨"",1,by decide +kernel,rfl,rfl⟩
    ·exact ⟨⟨#[k]⟩,1,Nat.le_refl 1,rfl,rfl⟩
   refine Qbh (fun ρ=>ρ=s8 q3 u (~~~x) (~~~(.int n)) (~~~(.str ⟨#[k]⟩)) (~~~(.int w)) (~~~(.str g)) f) ?_ ?_
   ·refine ⟨(.nx,s8 q3 u (~~~x) (~~~(.int n)) (~~~(.str ⟨#[k]⟩)) (~~~(.int w)) (~~~(.str g)) f),?_,rfl,rfl⟩
    exact Qne (QjU (x:=.lst [.str ⟨#[k]⟩,.str "",.str ⟨#[k]⟩]) rfl rfl eg) (Qol.2.2.2.2.1 he)
   rintro ρ rfl
   have s1:=Txt.slice_le u none (some n)
   have s2:=Txt.slice_le u (some (n+o)) none
   refine Qbh (fun ρ=>ρ=s8 q3 u (~~~x) (~~~(.int n)) (~~~(.str ⟨#[k]⟩)) (~~~(.int w)) (~~~(.str g)) (~~~(.str (Txt.slice u (some (n+o)) none)))) ?_ ?_
   ·unfold s8
    rcases hf with rfl | ⟨_,rfl⟩
    ·simp? only [-Qjq,eo,l0]
     exact ⟨trivial,trivial⟩
    ·simp? only [-Qjq,eo,l0]
     exact ⟨trivial,trivial⟩
   rintro ρ rfl
   have t1:(Txt.slice u none (some n)).length+g.length<=16777216:=by omega
   have t2:(Txt.slice u none (some n)++g).length+(Txt.slice u (some (n+o)) none).length<=16777216:=by simp only [Qem];omega
   have t3:(Txt.slice u none (some n)++g++Txt.slice u (some (n+o)) none).length+1<=2 ^ (i+1) * 70001:=by simp only [Qem,pw];omega
   unfold s8
   simp? only [l0,t1,t2]
   exact ⟨trivial,_,_,_,_,_,_,_,_,hq3,t3,.inr ⟨_,rfl⟩,.inr ⟨_,rfl⟩,.inr ⟨_,rfl⟩,.inr ⟨_,rfl⟩,.inr ⟨_,rfl⟩,.inr ⟨_,rfl⟩,rfl⟩
  ·rintro ρ ⟨q,u,a,b,c,d,e,f,hq,hu,ha,hb,hc,hd,he,hf,rfl⟩
   rw [List.length_map,List.length_range] at hu
   refine ⟨rfl,q,u,a,b,c,d,e,f,hq,?_,ha,hb,hc,hd,he,hf,rfl⟩
   rcases (by omega:m.toNat=0\/m.toNat=1\/m.toNat=2\/m.toNat=3) with e | e | e | e<;>rw [e] at hu<;>omega
 rintro ρ ⟨q,u,a,b,c,d,e,f,hq,hu,ha,hb,hc,hd,he,hf,rfl⟩
 exact ⟨(.rt (.str u),s8 q u a b c d e f),rfl,_,[q],rfl,Qrf ha hb hc hd he hf,q,u,rfl,hq,rfl,hu⟩
variable {z:Z}
theorem Qq2 (t:Str):Txt.slice (t++("\n" : Str)) none (some (-1))=t:=by
 have hl:(t++("\n" : Str)).length=t.length+1:=by rw [Qem];rfl
 have h:=eq_of_beq (PyProof.Rows.slice_closes_to_neg (x:=t++("\n" : Str)) (j:=-1) (k:=t.length) (by decide) (by omega) (by omega))
 rw [h]
 have e:t.cps.toList.length=t.length:=Array.length_toList
 refine Qjm ?_
 show List.take ((t.length:Int) - 0).toNat (List.drop 0 (t++("\n" : Str)).cps.toList)=_
 rw [List.drop_zero,show ((t.length:Int) - 0).toNat=t.length by omega,QcC,Array.toList_append,← e,List.take_left']
 rfl
theorem QgU {l:Str}(h:Qeu l):l.length<=488:=by
 obtain ⟨ws,rfl,_,hl,hw⟩:=h
 have:=Qgr (sep := " ") (B:=60) (ws:=ws) (fun w h=>(hw w h).1) (by decide +kernel)
 omega
theorem Qhx {l w:Str}(h:Qeu l)(hw:w∈wds l):w.length<=60:=by
 obtain ⟨ws,rfl,ne,_,hws⟩:=h
 unfold wds at hw
 rw [Qg6,QaH] at hw
 cases ws with
 |nil=>exact absurd rfl ne
 |cons a as=>
  rw [Qdz] at hw
  obtain ⟨q,hq,rfl⟩:=List.mem_map.mp hw
  obtain ⟨y,hy,hq⟩:=List.mem_flatMap.mp hq
  have h1:=(QdG 32 y.cps.toList).2 q hq
  have h2:=(hws y hy).1
  have e:y.cps.toList.length=y.length:=Array.length_toList
  show q.toArray.size<=60
  rw [List.size_toArray];omega
theorem QmZ {l:Str}(h:Qeu l):10∉l.cps.toList:=by
 obtain ⟨ws,rfl,ne,_,hws⟩:=h
 rw [Qg6]
 exact QgT (fun y hy=>(hws y hy).2) (by decide)
theorem QmK {ls:List Str}(h:∀ l∈ls,Qeu l):Sh (Str.join "\n" ls):=by
 cases ls with
 |nil=>
  have e:lns (Str.join "\n" [])=[("" : Str)]:=by decide +kernel
  intro l hl w hw
  rw [e,List.mem_singleton] at hl
  rw [hl,QjM,List.mem_singleton] at hw
  rw [hw];decide +kernel
 |cons a as=>
  have e:lns (Str.join "\n" (a :: as))=a :: as:=by
   unfold lns
   rw [Qe7]
   exact QhD (by simp) fun y hy=>QmZ (h y hy)
  intro l hl w hw
  rw [e] at hl
  exact Nat.le_trans (Qhx (h l hl) hw) (by decide)
def ex1:Str := "wall 0 1"
theorem Qjb:lns ex1=[ex1]:=by decide +kernel
theorem QiW:wds ex1=[("wall" : Str),"0","1"]:=by decide +kernel
theorem QlS:QdJ ex1=.lst [.tup [.str "wall",.tup [.int 0,.int 1]]]:=by
 have k:kd "wall" = some (false,1,1):=by decide +kernel
 have f:Qfz ["0","1"]=true:=by decide +kernel
 have v0:val "0" = 0:=by decide +kernel
 have v1:val "1" = 1:=by decide +kernel
 have d:Qak ex1=.tup [.str "wall",.tup [.int 0,.int 1]]:=by
  unfold Qak
  rw [QiW,Qgi k]
  show Qa2 ["wall"] ["0","1"] 1 1=_
  unfold Qa2
  rw [if_pos ⟨f,rfl⟩]
  show D.tup [.str "wall",.tup [.int (val "0"),.int (val "1")]]=_
  rw [v0,v1]
 unfold QdJ
 rw [if_neg (by decide +kernel),Qjb,List.map_cons,d]
 rfl
theorem QoG:Sh ex1:=fun l hl w hw=>by
 rw [Qjb,List.mem_singleton] at hl
 rw [hl,QiW] at hw
 have:∀ w∈(["wall","0","1"]:List Str),w.length<=200:=by decide +kernel
 exact this w hw
theorem Qhc:∀ {ds ys:List D},Fa2 (fun _ y=>∃ w:Str,y=.str w/\Qeu w) ds ys->∃ ws:List Str,ys=ws.map D.str/\∀ w∈ws,Qeu w
 |_,_,.nil=>⟨[],rfl,fun _ h=>nomatch h⟩
 |_,_,.cons h r=>by
  obtain ⟨w,e,hw⟩:=h
  obtain ⟨ws,e2,h2⟩:=Qhc r
  subst e e2
  exact ⟨w :: ws,rfl,fun v hv=>(List.mem_cons.mp hv).elim (fun h=>h▸hw) (h2 v)⟩
def s5 (ns:List Int)(p:D)(ls:List Str)(t a:Option Sl):Rho:=[~~~(script ns),some (.own p),~~~(.lst (ls.map D.str)),t,a]
theorem Qqv {ns:List Int}{p:D}{ls:List Str}{t:Str}{a:Option Sl}(hl:t.length<=900000):QaE (Qas Qoi (Qai (Qa5 false [.me] 0 (QbV (Qa7 (Qhz "\n" " " (mV 3)) (Qai (mC (.str " ")) QaL))) Qhv (mI (mOp gGt (Qas QeK (Qai (mV 0) QaL)) (mC (.int 60))))) QaL)) (s5 ns p ls (~~~(.str t)) a)=.ok ((wds (Txt.replace t "\n" " ")).any fun w=>decide (60<w.length),s5 ns p ls (~~~(.str t)) a):=by
 have hr:=Qj5 hl
 generalize hS:s5 ns p ls (~~~(.str t)) a=S
 generalize hR:Txt.replace t "\n" " " = R at hr
 have e0:Qhz "\n" " " (mV 3) S=.ok (.str R,S):=by
  subst hS hR
  show (if t.length<=1048576 then Rs.ok _ else Rs.no)=_
  exact if_pos (by omega)
 have e1:Qa7 (Qhz "\n" " " (mV 3)) (Qai (mC (.str " ")) QaL) S=.ok (.lst ((wds R).map D.str),S):=by
  unfold Qa7;rw [e0];exact QiP (by omega)
 have e2:QbV (Qa7 (Qhz "\n" " " (mV 3)) (Qai (mC (.str " ")) QaL)) S=.ok ((wds R).map D.str,S):=by unfold QbV;rw [e1];rfl
 have hn:=(Qcd R).1
 have e3:Qa5 false [.me] 0 (QbV (Qa7 (Qhz "\n" " " (mV 3)) (Qai (mC (.str " ")) QaL))) Qhv (mI (mOp gGt (Qas QeK (Qai (mV 0) QaL)) (mC (.int 60)))) S=.ok (.lst (((wds R).map fun w=>decide (60<w.length)).map .bl),S):=by
  refine (QcG (g:=fun d=>match d with | .str w=>.bl (decide (60<w.length)) | d=>d) (di:=[]) (ρb:=[none]) (os:=[]) e2 (by subst hS;rfl) (by subst hS;rfl) ?_ (by rw [sizeLine_eq,List.length_map];omega) (by subst hS;rfl) rfl).trans ?_
  ·intro d hd
   obtain ⟨x,hx,rfl⟩:=List.mem_map.mp hd
   have hx2:=(Qcd R).2.1 x hx
   refine ⟨[~~~(.str x)],rfl,W_eq.mp ?_,rfl⟩
   have gl:=QaZ (s:=x) (by omega)
   by_cases c:(x.length:Int) > 60
   ·have c2:60<x.length:=by omega
    simp? only [gl,c,c2]
   ·have c2:¬ 60<x.length:=by omega
    simp? only [gl,c,c2]
  ·subst hS
   rw [List.map_map,List.map_map];rfl
 have e4:=cb1 (g:=Qoi) e3 Qmj
 unfold QaE
 rw [e4,List.any_map];rfl
theorem QoS (hz:Zok z)(ns:List Int):FW (QoH z [script ns]) (fun d os=>d=.bl true/\os=[]):=Qbt (by
 dsimp only [Qns]
 refine Qbh (fun ρ=>∃ q,Pot q/\ρ=[~~~(script ns),some (.own q),none,none,none]) ?_ ?_
 ·simp? only []
  refine QrX (QkX ns) fun d os hz=>?_
  obtain ⟨e,hp⟩:=hz
  refine ⟨(fun h=>nomatch h),?_⟩
  simp? only []
  exact ⟨trivial,d,hp,rfl⟩
 rintro ρ ⟨p,hp,rfl⟩
 refine Qbh (fun ρ=>∃ (q:D) (ls:List Str),Pot q/\ls.length<=12/\(∀ l∈ls,Qeu l)/\ρ=s5 ns q ls none none) ?_ ?_
 ·simp? only []
  refine Qe5 (par:=false) hp (by decide) (by decide) rfl fun r p1 hp1 r0 r1=>?_
  have b0 : -4611686018427387904<=r/\r<4611686018427387904:=by omega
  simp? only [b0,and_self]
  refine QpJ (ρb:=[none,some (.par p1)]) (di:=[p1]) (Inv:=fun ρ=>∃ q,Pot q/\ρ=[none,some (.par q)]) (Pd:=fun _ y=>∃ w:Str,y=.str w/\Qeu w) rfl rfl (fun d hd ρ hI=>?_) ⟨p1,hp1,rfl⟩ (by rw [sizeLine_eq,List.length_map,List.length_range];omega) ?_
  ·obtain ⟨q,hq,rfl⟩:=hI
   refine ⟨[~~~d,some (.par q)],rfl,⟨(true,[~~~d,some (.par q)]),rfl,rfl,?_⟩⟩
   simp? only []
   refine Qky rfl (QnQ hq) fun d os hz=>?_
   obtain ⟨q',w,e1,hq',e2,hw⟩:=hz
   subst e1 e2
   refine ⟨q',rfl,?_⟩
   simp? only []
   exact ⟨⟨q',hq',rfl⟩,w,rfl,hw⟩
  ·rintro ys ρ2 ⟨q,hq,rfl⟩ hf
   obtain ⟨ls,rfl,hls⟩:=Qhc hf
   have hn:=hf.length
   rw [List.length_map,List.length_map,List.length_range] at hn
   refine ⟨[q],rfl,?_⟩
   simp? only []
   exact ⟨trivial,q,ls,hq,by omega,hls,rfl⟩
 rintro ρ ⟨p1,ls,hp1,hn,hls,rfl⟩
 have jo:=Qls (sep := "\n") (B:=488) (ws:=ls) (fun l h=>QgU (hls l h)) (by decide +kernel) (by omega)
 have jl:=Qgr (sep := "\n") (B:=488) (ws:=ls) (fun l h=>QgU (hls l h)) (by decide +kernel)
 have ej:=QdZ jo
 refine Qbh (fun ρ=>∃ (q:D) (t:Str),Pot q/\t.length<=900000/\ρ=s5 ns q ls (~~~(.str t)) none) ?_ ?_
 ·unfold s5
  simp? only [ej]
  refine Qp7 (par:=false) rfl (QjI hp1 (by omega)) fun d os hz=>?_
  obtain ⟨q,u,e1,hq,e2,hu⟩:=hz
  subst e1 e2
  refine ⟨q,rfl,?_⟩
  simp? only []
  exact ⟨trivial,q,u,hq,hu,rfl⟩
 rintro ρ ⟨p2,u,hp2,hu,rfl⟩
 refine Qbh (fun ρ=>∃ t:Str,t.length<=900000/\Sh t/\ρ=s5 ns p2 ls (~~~(.str t)) none) ?_ ?_
 ·have ta:=Qqv (ns:=ns) (p:=p2) (ls:=ls) (t:=u) (a:=none) hu
  show W (mIf _ _ _ _) _
  refine W_bind.mpr ⟨_,ta,?_⟩
  cases hb:(wds (Txt.replace u "\n" " ")).any fun w=>decide (60<w.length) with
  |true=>
   refine ⟨(.nx,s5 ns p2 ls (~~~(.str (Str.join "\n" ls))) none),?_,rfl,Str.join "\n" ls,by omega,QmK hls,rfl⟩
   show Qcr 3 _ _=_
   unfold s5
   exact W_eq.mp (by simp? only [ej])
  |false=>
   refine ⟨(.nx,s5 ns p2 ls (~~~(.str u)) none),rfl,rfl,u,hu,QrR fun w hw=>?_,rfl⟩
   have:=(List.any_eq_false.mp hb) w hw
   simpa using this
 rintro ρ ⟨t,ht,hs,rfl⟩
 have rd:=Qi9 (z:=z) (t:=t) hz (by omega) hs
 have tl:=Qgh (z:=z) (t:=t) hz (by omega) hs
 have tx:=Qgh (z:=z) (t:=ex1) hz (by decide +kernel) QoG
 have hl2:(t++("\n" : Str)).length=t.length+1:=by rw [Qem];rfl
 have rd2:=Qi9 (z:=z) (t:=t++("\n" : Str)) hz (by omega) (Qo8 hs)
 have tl2:=Qgh (z:=z) (t:=t++("\n" : Str)) hz (by omega) (Qo8 hs)
 have n0:gNe (QdJ t) (QdJ t)=some (.bl false):=Qee Qeh
 have e0:gEq (QdJ t) (QdJ t)=some (.bl true):=Qkx Qeh
 have n2:gNe (QdJ (t++("\n" : Str))) (QdJ (t++("\n" : Str)))=some (.bl false):=Qee Qeh
 have n1:gNe (QdJ ex1) (.lst [.tup [.str "wall",.tup [.int 0,.int 1]]])=some (.bl false):=by
  have:=Qee (Qeh (t:=ex1))
  rw [QlS] at this ⊢;exact this
 unfold ex1 at tx n1
 have la:t.length+("\n" : Str).length<=16777216:=by rw [show ("\n" : Str).length=1 by decide +kernel];omega
 have lb:(t++("\n" : Str)).length<=16777216:=by omega
 have cn:=Qq2 t
 unfold s5
 simp? only [QhG rd,QhG tl,QhG tx,QhG rd2,QhG tl2,n0,n1,n2,e0,la,lb,cn]
 exact ⟨_,[],rfl,rfl,rfl,rfl⟩)
theorem law_ok (hz:Zok z)(ns:List Int):QoH z [script ns]=.ok (.bl true) []:=by
 obtain ⟨d,os,e,rfl,rfl⟩:=QoS hz ns
 exact e
end G94
namespace G94
open PySem PySem.Spec L2 TL
def Ne (K:PySem.W.Frag)(c:Addr)(q:Str)(st:Stmt):Prop:=∃ f fd,PySem.W.findIn K (.ref c) "__init__" = some (some (.ref f))/\Qhp K c f=true/\PySem.W.isFn K (.ref f)=true/\Fun K "__init__" q st f fd
def Qmb (K:PySem.W.Frag)(C:Addr):Bool:=PySem.W.findIn K (.ref C) "__getattribute__" == some (some (.builtin "BaseException.__getattribute__")) && PySem.W.findIn K (.ref C) "__getattr__" == some none && PySem.W.hasDictIn K C &&
 PySem.W.mroIn K C (.type "BaseException") == some true && PySem.W.mroIn K C (.type "object") == some true && PySem.W.findIn K (.ref C) "__class__" == some (some (.builtin "object.__class__"))
theorem Ql8 {K:PySem.W.Frag}{C:Addr}(h:Qmb K C=true):YE.ECls K C:=by
 simp only [Qmb,Bool.and_eq_true,beq_iff_eq] at h
 obtain ⟨⟨⟨⟨⟨h1,h2⟩,h3⟩,h4⟩,h5⟩,h6⟩:=h
 exact ⟨h1,h2,h3,h4,h5,h6⟩
def Qmx (K:PySem.W.Frag)(C:Addr):Bool:=PySem.W.findIn K (.ref C) "__setattr__" == some (some (.builtin "object.__setattr__")) && (PySem.W.clsIn K C).any (fun cd=>YE.excOver cd.mro) && PySem.W.mroIn K C (.type "object") == some true && PySem.W.hasDictIn K C
theorem QmH {K:PySem.W.Frag}{C:Addr}(h:Qmx K C=true):Qsw K C:=by
 simp only [Qmx,Bool.and_eq_true,beq_iff_eq] at h
 obtain ⟨⟨⟨h1,h2⟩,h3⟩,h4⟩:=h
 exact ⟨h1,h2,h3,h4⟩
theorem all_mk {l:PySem.W.OpenLaw}{w:World}{K:PySem.W.Frag}{h:Heap}{mg:Str->Option Value}{t_FIGURES t_LETTERS t_MOST_LETTERS t_MOST_PLAYED_FIGURES:Tok}{fa c_GlowError c_NoText q_LAMP_WORDS q_PARTS w_PARTS_0 w_PARTS_1 w_PARTS_2 w_PARTS_3 w_PARTS_4 w_PARTS_5 w_PARTS_6:Addr}(X:K.In h)(G:h.Ns mainGlobals mg)(hfa:mg "law" = some (.ref fa))
  {u_LAMP_WORDS_0 u_LAMP_WORDS_1 u_LAMP_WORDS_2 u_LAMP_WORDS_3:Tok} {n_LAMP_WORDS:Nat} {sl_LAMP_WORDS:Array (Option Value)}
  {h_PARTS_0 h_PARTS_1 h_PARTS_2 h_PARTS_3 h_PARTS_4 h_PARTS_5 h_PARTS_6:Int} {v_PARTS_0 v_PARTS_1 v_PARTS_2 v_PARTS_3 v_PARTS_4 v_PARTS_5 v_PARTS_6:Tok} {ep_PARTS:Nat}
  {u_PARTS_0_0 u_PARTS_0_1:Tok} {n_PARTS_0:Nat} {sl_PARTS_0:Array (Option Value)}
  {u_PARTS_1_0:Tok} {n_PARTS_1:Nat} {sl_PARTS_1:Array (Option Value)}
  {u_PARTS_2_0 u_PARTS_2_1:Tok} {n_PARTS_2:Nat} {sl_PARTS_2:Array (Option Value)}
  {u_PARTS_3_0 u_PARTS_3_1:Tok} {n_PARTS_3:Nat} {sl_PARTS_3:Array (Option Value)}
  {u_PARTS_4_0:Tok} {n_PARTS_4:Nat} {sl_PARTS_4:Array (Option Value)}
  {u_PARTS_5_0:Tok} {n_PARTS_5:Nat} {sl_PARTS_5:Array (Option Value)}
  {u_PARTS_6_0 u_PARTS_6_1:Tok} {n_PARTS_6:Nat} {sl_PARTS_6:Array (Option Value)}
  (a1:Nf K "is_colour" "is_colour" (top 8))
  (a2:Nf K "read_number" "read_number" (top 11))
  (a3:Nf K "_law_purse" "_law_purse" (top 18))
  (a4:Nf K "_law_take" "_law_take" (top 19))
  (a5:Nf K "_law_is_figures" "_law_is_figures" (top 25))
  (a6:Nf K "_law_is_name" "_law_is_name" (top 26))
  (a7:Nf K "deed_of" "deed_of" (top 16))
  (a8:Nf K "_law_word" "_law_word" (top 20))
  (a9:Nf K "_law_colour" "_law_colour" (top 21))
  (a10:Nf K "_law_figures" "_law_figures" (top 22))
  (a11:Nf K "_law_spoilt" "_law_spoilt" (top 24))
  (a12:Nf K "_law_deed_of" "_law_deed_of" (top 27))
  (a13:Nf K "read_deed" "read_deed" (top 15))
  (a14:Nf K "_law_drawn_line" "_law_drawn_line" (top 23))
  (a15:Nf K "_law_read" "_law_read" (top 28))
  (a16:Nf K "read_deeds" "read_deeds" (top 14))
  (a17:Nf K "_law_told" "_law_told" (top 29))
  (a18:Nf K "law" "law" (top 30))
  (z0:PySem.W.nsIn K mainGlobals "all" = some none)
  (z1:PySem.W.nsIn K mainGlobals "any" = some none)
  (z2:PySem.W.nsIn K mainGlobals "bool" = some none)
  (z3:PySem.W.nsIn K mainGlobals "enumerate" = some none)
  (z4:PySem.W.nsIn K mainGlobals "int" = some none)
  (z5:PySem.W.nsIn K mainGlobals "isinstance" = some none)
  (z6:PySem.W.nsIn K mainGlobals "len" = some none)
  (z7:PySem.W.nsIn K mainGlobals "max" = some none)
  (z8:PySem.W.nsIn K mainGlobals "range" = some none)
  (z9:PySem.W.nsIn K mainGlobals "str" = some none)
  (z10:PySem.W.nsIn K mainGlobals "tuple" = some none)
  (g_GlowError:PySem.W.nsIn K mainGlobals "GlowError" = some (some (.ref c_GlowError)))
  (g_NoText:PySem.W.nsIn K mainGlobals "NoText" = some (some (.ref c_NoText)))
  (k_FIGURES:PySem.W.nsIn K mainGlobals "FIGURES" = some (some (.str "0123456789" t_FIGURES)))
  (k_LETTERS:PySem.W.nsIn K mainGlobals "LETTERS" = some (some (.str "abcdefghijklmnopqrstuvwxyz" t_LETTERS)))
  (k_MOST_LETTERS:PySem.W.nsIn K mainGlobals "MOST_LETTERS" = some (some (.int 8 t_MOST_LETTERS)))
  (k_MOST_PLAYED_FIGURES:PySem.W.nsIn K mainGlobals "MOST_PLAYED_FIGURES" = some (some (.int 200 t_MOST_PLAYED_FIGURES)))
  (g_LAMP_WORDS:PySem.W.nsIn K mainGlobals "LAMP_WORDS" = some (some (.ref q_LAMP_WORDS)))
  (tl_LAMP_WORDS:K.lookup q_LAMP_WORDS=some ⟨.type "tuple",none,.seq #[.str "put" u_LAMP_WORDS_0,.str "out" u_LAMP_WORDS_1,.str "move" u_LAMP_WORDS_2,.str "turn" u_LAMP_WORDS_3] n_LAMP_WORDS,sl_LAMP_WORDS⟩)
  (g_PARTS:PySem.W.nsIn K mainGlobals "PARTS" = some (some (.ref q_PARTS)))
  (lw_PARTS:K.lookup q_PARTS=some ⟨.type "dict",none,.dict #[⟨h_PARTS_0,.str "put" v_PARTS_0,.ref w_PARTS_0⟩,⟨h_PARTS_1,.str "out" v_PARTS_1,.ref w_PARTS_1⟩,⟨h_PARTS_2,.str "move" v_PARTS_2,.ref w_PARTS_2⟩,⟨h_PARTS_3,.str "turn" v_PARTS_3,.ref w_PARTS_3⟩,⟨h_PARTS_4,.str "wall" v_PARTS_4,.ref w_PARTS_4⟩,⟨h_PARTS_5,.str "open" v_PARTS_5,.ref w_PARTS_5⟩,⟨h_PARTS_6,.str "glass" v_PARTS_6,.ref w_PARTS_6⟩] ep_PARTS,#[]⟩)
  (ns_PARTS:(q_PARTS == sysModules)=false)
  (hh_PARTS_0:h_PARTS_0=Qk7 w (.inr "put"))
  (hh_PARTS_1:h_PARTS_1=Qk7 w (.inr "out"))
  (hh_PARTS_2:h_PARTS_2=Qk7 w (.inr "move"))
  (hh_PARTS_3:h_PARTS_3=Qk7 w (.inr "turn"))
  (hh_PARTS_4:h_PARTS_4=Qk7 w (.inr "wall"))
  (hh_PARTS_5:h_PARTS_5=Qk7 w (.inr "open"))
  (hh_PARTS_6:h_PARTS_6=Qk7 w (.inr "glass"))
  (tl_PARTS_0:K.lookup w_PARTS_0=some ⟨.type "tuple",none,.seq #[.str "place" u_PARTS_0_0,.str "strength" u_PARTS_0_1] n_PARTS_0,sl_PARTS_0⟩)
  (tl_PARTS_1:K.lookup w_PARTS_1=some ⟨.type "tuple",none,.seq #[.str "place" u_PARTS_1_0] n_PARTS_1,sl_PARTS_1⟩)
  (tl_PARTS_2:K.lookup w_PARTS_2=some ⟨.type "tuple",none,.seq #[.str "place" u_PARTS_2_0,.str "place" u_PARTS_2_1] n_PARTS_2,sl_PARTS_2⟩)
  (tl_PARTS_3:K.lookup w_PARTS_3=some ⟨.type "tuple",none,.seq #[.str "place" u_PARTS_3_0,.str "strength" u_PARTS_3_1] n_PARTS_3,sl_PARTS_3⟩)
  (tl_PARTS_4:K.lookup w_PARTS_4=some ⟨.type "tuple",none,.seq #[.str "place" u_PARTS_4_0] n_PARTS_4,sl_PARTS_4⟩)
  (tl_PARTS_5:K.lookup w_PARTS_5=some ⟨.type "tuple",none,.seq #[.str "place" u_PARTS_5_0] n_PARTS_5,sl_PARTS_5⟩)
  (tl_PARTS_6:K.lookup w_PARTS_6=some ⟨.type "tuple",none,.seq #[.str "place" u_PARTS_6_0,.str "loss" u_PARTS_6_1] n_PARTS_6,sl_PARTS_6⟩)
  (zt_PARTS_0:List.lookup w_PARTS_0 ([(w_PARTS_0,[("place" : Str),"strength"]),(w_PARTS_1,[("place" : Str)]),(w_PARTS_2,[("place" : Str),"place"]),(w_PARTS_3,[("place" : Str),"strength"]),(w_PARTS_4,[("place" : Str)]),(w_PARTS_5,[("place" : Str)]),(w_PARTS_6,[("place" : Str),"loss"])]:List (Addr × List Str))=some [("place" : Str),"strength"])
  (zt_PARTS_1:List.lookup w_PARTS_1 ([(w_PARTS_0,[("place" : Str),"strength"]),(w_PARTS_1,[("place" : Str)]),(w_PARTS_2,[("place" : Str),"place"]),(w_PARTS_3,[("place" : Str),"strength"]),(w_PARTS_4,[("place" : Str)]),(w_PARTS_5,[("place" : Str)]),(w_PARTS_6,[("place" : Str),"loss"])]:List (Addr × List Str))=some [("place" : Str)])
  (zt_PARTS_2:List.lookup w_PARTS_2 ([(w_PARTS_0,[("place" : Str),"strength"]),(w_PARTS_1,[("place" : Str)]),(w_PARTS_2,[("place" : Str),"place"]),(w_PARTS_3,[("place" : Str),"strength"]),(w_PARTS_4,[("place" : Str)]),(w_PARTS_5,[("place" : Str)]),(w_PARTS_6,[("place" : Str),"loss"])]:List (Addr × List Str))=some [("place" : Str),"place"])
  (zt_PARTS_3:List.lookup w_PARTS_3 ([(w_PARTS_0,[("place" : Str),"strength"]),(w_PARTS_1,[("place" : Str)]),(w_PARTS_2,[("place" : Str),"place"]),(w_PARTS_3,[("place" : Str),"strength"]),(w_PARTS_4,[("place" : Str)]),(w_PARTS_5,[("place" : Str)]),(w_PARTS_6,[("place" : Str),"loss"])]:List (Addr × List Str))=some [("place" : Str),"strength"])
  (zt_PARTS_4:List.lookup w_PARTS_4 ([(w_PARTS_0,[("place" : Str),"strength"]),(w_PARTS_1,[("place" : Str)]),(w_PARTS_2,[("place" : Str),"place"]),(w_PARTS_3,[("place" : Str),"strength"]),(w_PARTS_4,[("place" : Str)]),(w_PARTS_5,[("place" : Str)]),(w_PARTS_6,[("place" : Str),"loss"])]:List (Addr × List Str))=some [("place" : Str)])
  (zt_PARTS_5:List.lookup w_PARTS_5 ([(w_PARTS_0,[("place" : Str),"strength"]),(w_PARTS_1,[("place" : Str)]),(w_PARTS_2,[("place" : Str),"place"]),(w_PARTS_3,[("place" : Str),"strength"]),(w_PARTS_4,[("place" : Str)]),(w_PARTS_5,[("place" : Str)]),(w_PARTS_6,[("place" : Str),"loss"])]:List (Addr × List Str))=some [("place" : Str)])
  (zt_PARTS_6:List.lookup w_PARTS_6 ([(w_PARTS_0,[("place" : Str),"strength"]),(w_PARTS_1,[("place" : Str)]),(w_PARTS_2,[("place" : Str),"place"]),(w_PARTS_3,[("place" : Str),"strength"]),(w_PARTS_4,[("place" : Str)]),(w_PARTS_5,[("place" : Str)]),(w_PARTS_6,[("place" : Str),"loss"])]:List (Addr × List Str))=some [("place" : Str),"loss"])
  (u_NoText:Ne K c_NoText "NoText.__init__" (QhR (top 2) 0)) (kc_NoText:PySem.W.keepIn K (.ref c_NoText)=true)
  (b1_NoText:PySem.W.specialIn K (.ref c_GlowError) "__getattribute__" = some (some (.builtin "type.__getattribute__")))
  (b2_NoText:PySem.W.readsIn K c_GlowError (.type "type")=true)
  (b3_NoText:PySem.W.findCls K (.ref c_GlowError) (.type "type") "__init__" = some (.val (.builtin "ValueError.__init__")))
  (b4_NoText:Qmb K c_NoText=true)
  (b5_NoText:Qmx K c_NoText=true)
  (b6_NoText:PySem.W.findIn K (.ref c_NoText) "line" = some none)
  (ex:PySem.W.exmOne K (.ref c_NoText) (.ref c_NoText)=some true)
  (kt:PySem.W.kitOne K (.ref c_NoText) (.ref c_GlowError)=some true)
  :
  ∃ fd:FuncData,(∀ (s:Shared) (v:Value),BindsTo s fd ⟨[v],[]⟩ [("_law_script",v)])/\∀ base:Heap,K.In base->base.Ns mainGlobals mg->FnOk l.prog w K mg base (CXe l.prog w) 6 fa fd ["_law_script"] (Qiw K):=by
 let z:Z:=⟨K,c_GlowError,c_NoText,t_FIGURES,t_LETTERS,t_MOST_LETTERS,t_MOST_PLAYED_FIGURES,q_LAMP_WORDS,q_PARTS,w_PARTS_0,w_PARTS_1,w_PARTS_2,w_PARTS_3,w_PARTS_4,w_PARTS_5,w_PARTS_6⟩
 have con:∀ base,Con z ⟨l.prog,w,mg,base⟩:=fun _=>⟨PySem.W.mg_none_of X G z0,PySem.W.mg_none_of X G z1,PySem.W.mg_none_of X G z2,PySem.W.mg_none_of X G z3,PySem.W.mg_none_of X G z4,PySem.W.mg_none_of X G z5,PySem.W.mg_none_of X G z6,PySem.W.mg_none_of X G z7,PySem.W.mg_none_of X G z8,PySem.W.mg_none_of X G z9,PySem.W.mg_none_of X G z10,PySem.W.mg_of X G g_GlowError,PySem.W.mg_of X G g_NoText,PySem.W.mg_of X G k_FIGURES,PySem.W.mg_of X G k_LETTERS,PySem.W.mg_of X G k_MOST_LETTERS,PySem.W.mg_of X G k_MOST_PLAYED_FIGURES,PySem.W.mg_of X G g_LAMP_WORDS,PySem.W.mg_of X G g_PARTS,QbE (ys:=["put","out","move","turn"]) tl_LAMP_WORDS (show (4:Nat)<=sizeLine by rw [sizeLine_eq];decide) (.cons ⟨_,rfl⟩ (.cons ⟨_,rfl⟩ (.cons ⟨_,rfl⟩ (.cons ⟨_,rfl⟩ .nil)))),Qnz ns_PARTS lw_PARTS (.cons (k:=.inr "put") (v:=.ref w_PARTS_0) (QaW _ _) hh_PARTS_0 rfl (.cons (k:=.inr "out") (v:=.ref w_PARTS_1) (QaW _ _) hh_PARTS_1 rfl (.cons (k:=.inr "move") (v:=.ref w_PARTS_2) (QaW _ _) hh_PARTS_2 rfl (.cons (k:=.inr "turn") (v:=.ref w_PARTS_3) (QaW _ _) hh_PARTS_3 rfl (.cons (k:=.inr "wall") (v:=.ref w_PARTS_4) (QaW _ _) hh_PARTS_4 rfl (.cons (k:=.inr "open") (v:=.ref w_PARTS_5) (QaW _ _) hh_PARTS_5 rfl (.cons (k:=.inr "glass") (v:=.ref w_PARTS_6) (QaW _ _) hh_PARTS_6 rfl .nil))))))) (show ([.inr "put",.inr "out",.inr "move",.inr "turn",.inr "wall",.inr "open",.inr "glass"]:List Key).Nodup by decide +kernel),QgE (Qbr (QbE (ys:=["place","strength"]) tl_PARTS_0 (show (2:Nat)<=sizeLine by rw [sizeLine_eq];decide) (.cons ⟨_,rfl⟩ (.cons ⟨_,rfl⟩ .nil))) (Qbr (QbE (ys:=["place"]) tl_PARTS_1 (show (1:Nat)<=sizeLine by rw [sizeLine_eq];decide) (.cons ⟨_,rfl⟩ .nil)) (Qbr (QbE (ys:=["place","place"]) tl_PARTS_2 (show (2:Nat)<=sizeLine by rw [sizeLine_eq];decide) (.cons ⟨_,rfl⟩ (.cons ⟨_,rfl⟩ .nil))) (Qbr (QbE (ys:=["place","strength"]) tl_PARTS_3 (show (2:Nat)<=sizeLine by rw [sizeLine_eq];decide) (.cons ⟨_,rfl⟩ (.cons ⟨_,rfl⟩ .nil))) (Qbr (QbE (ys:=["place"]) tl_PARTS_4 (show (1:Nat)<=sizeLine by rw [sizeLine_eq];decide) (.cons ⟨_,rfl⟩ .nil)) (Qbr (QbE (ys:=["place"]) tl_PARTS_5 (show (1:Nat)<=sizeLine by rw [sizeLine_eq];decide) (.cons ⟨_,rfl⟩ .nil)) (Qbr (QbE (ys:=["place","loss"]) tl_PARTS_6 (show (2:Nat)<=sizeLine by rw [sizeLine_eq];decide) (.cons ⟨_,rfl⟩ (.cons ⟨_,rfl⟩ .nil))) QmG))))))),Ql8 b4_NoText,QmH b5_NoText,b6_NoText,⟨b1_NoText,b2_NoText,b3_NoText⟩,True.intro⟩
 have hz:Zok z:=⟨ex,kt,zt_PARTS_0,zt_PARTS_1,zt_PARTS_2,zt_PARTS_3,zt_PARTS_4,zt_PARTS_5,zt_PARTS_6⟩
 refine QqB X G hfa a18 (Qns z) con (fun base R g=>?_) (fun ns=>law_ok hz ns) (fun _ _ _ _ _ _ _ _=>.of_eq rfl)
 let y:Y:=⟨l.prog,w,mg,base⟩
 have c:Con z y:=con base
 have D_NoText:Qg7 z y:=let ⟨f,fd,_,e,i,F⟩:=u_NoText;⟨f,fd,Qkh c F,e,i,kc_NoText,PySem.W.mg_of X G g_NoText,F.binds fun _ _ _ _ _ _=>ar2 fun _ _=>rfl⟩
 have D_is_colour:Qdp z y:=Qfe X G c a1 (Qb8 z) (fun _ _ _ _ _ _=>ar1 fun _=>rfl) (fun _ g=>g)
 have D_read_number:QcD z y:=Qfe X G c a2 (Qbq z) (fun _ _ _ _ _ _=>ar2 fun _ _=>rfl) (fun _ g=>g)
 have D__law_purse:Qc2 z y:=Qfe X G c a3 (QbH z) (fun _ _ _ _ _ _=>ar2 fun _ _=>rfl) (fun _ g=>g)
 have D__law_take:QaF z y:=Qfe X G c a4 (Qck z) (fun _ _ _ _ _ _=>ar2 fun _ _=>rfl) (fun _ g=>g)
 have D__law_is_figures:Qbj z y:=Qfe X G c a5 (QaN z) (fun _ _ _ _ _ _=>ar1 fun _=>rfl) (fun _ g=>g)
 have D__law_is_name:Qb2 z y:=Qfe X G c a6 (Qbf z) (fun _ _ _ _ _ _=>ar1 fun _=>rfl) (fun _ g=>g)
 have D_deed_of:Qft z y:=Qfe X G c a7 (QdF z) (fun _ _ _ _ _ _=>ar2 fun _ _=>rfl) (fun _ g=>g D_read_number)
 have D__law_word:QdC z y:=Qfe X G c a8 (Qb9 z) (fun _ _ _ _ _ _=>ar1 fun _=>rfl) (fun _ g=>g D__law_take)
 have D__law_colour:Qcw z y:=Qfe X G c a9 (Qbs z) (fun _ _ _ _ _ _=>ar1 fun _=>rfl) (fun _ g=>g D__law_take)
 have D__law_figures:QbY z y:=Qfe X G c a10 (Qbd z) (fun _ _ _ _ _ _=>ar1 fun _=>rfl) (fun _ g=>g D__law_take)
 have D__law_spoilt:QcE z y:=Qfe X G c a11 (Qbu z) (fun _ _ _ _ _ _=>ar2 fun _ _=>rfl) (fun _ g=>g D__law_take)
 have D__law_deed_of:QbZ z y:=Qfe X G c a12 (Qbe z) (fun _ _ _ _ _ _=>ar1 fun _=>rfl) (fun _ g=>g D__law_is_figures D__law_is_name)
 have D_read_deed:Qdm z y:=Qfe X G c a13 (Qcg z) (fun _ _ _ _ _ _=>ar1 fun _=>rfl) (fun _ g=>g D_is_colour D_deed_of)
 have D__law_drawn_line:Qbl z y:=Qfe X G c a14 (QaQ z) (fun _ _ _ _ _ _=>ar1 fun _=>rfl) (fun _ g=>g D__law_take D__law_word D__law_colour D__law_figures)
 have D__law_read:Qdq z y:=Qfe X G c a15 (Qch z) (fun _ _ _ _ _ _=>ar1 fun _=>rfl) (fun _ g=>g D__law_deed_of)
 have D_read_deeds:Qc0 z y:=Qfe X G c a16 (QaT z) (fun _ _ _ _ _ _=>ar1 fun _=>rfl) (fun _ g=>g D_NoText D_read_deed)
 have D__law_told:Qdu z y:=Qfe X G c a17 (Qce z) (fun _ _ _ _ _ _=>ar1 fun _=>rfl) (fun _ g=>g D_read_deeds)
 exact g D__law_purse D__law_take D__law_spoilt D__law_drawn_line D__law_read D__law_told
end G94
def PySem.W.Fast.tw1215133087444667922:=()
def PySem.W.Fast.tw5431636044319712942:=()
def PySem.W.Fast.tw14961242676174870434:=()
def PySem.W.Fast.tw1811113157685808011:=()
def PySem.W.Fast.tw7083276710314308602:=()
def PySem.W.Fast.tw9819536748945900213:=()
def PySem.W.Fast.tw12786346846336437006:=()
def PySem.W.Fast.tw8323009937669655152:=()
def PySem.W.Fast.tw7486321521850812101:=()
def PySem.W.Fast.tw13498261429165246405:=()
def PySem.W.Fast.tw11113725932325867640:=()
def PySem.W.Fast.tw16431024785656675612:=()
def PySem.W.Fast.tw9593504058250567440:=()
def PySem.W.Fast.tw7074672397751473277:=()
def PySem.W.Fast.tw6464047077646156517:=()
def PySem.W.Fast.tw8229470645149139904:=()
def PySem.W.Fast.tw11383072362989043286:=()
def PySem.W.Fast.tw7593929305564700007:=()
def PySem.W.Fast.tw2015541853049049599:=()
def PySem.W.Fast.tw7579864409717711522:=()
def PySem.W.Fast.tw17049353595417796757:=()
def PySem.W.Fast.tw15362314945326770878:=()
def PySem.W.Fast.tw6075326601856203143:=()
def PySem.W.Fast.tw8171656310847924402:=()
def PySem.W.Fast.tw3122402205428243187:=()
def PySem.W.Fast.tw12926429541393342207:=()
def PySem.W.Fast.tw5179793734071730220:=()
def PySem.W.Fast.tw11399262599782542875:=()
def PySem.W.Fast.tw16830270337362467723:=()
def PySem.W.Fast.tw11637316437745251386:=()
def PySem.W.Fast.tw14042514237496810320:=()
def PySem.W.Fast.tw4358390761242749779:=()
def PySem.W.Fast.tw10350446102769616587:=()
def PySem.W.Fast.tw12003603966626263126:=()
def PySem.W.Fast.tw4764687355710209497:=()
def PySem.W.Fast.tw4973359239991355428:=()
def PySem.W.Fast.tw17137822166904798442:=()
def PySem.W.Fast.tw6921866310102062510:=()
def PySem.W.Fast.tw4320581302940362374:=()
def PySem.W.Fast.tw17808564574980820666:=()
def PySem.W.Fast.tw3649662865488821042:=()
def PySem.W.Fast.tw11774589473339420290:=()
def PySem.W.Fast.tw15636296697837400894:=()
def PySem.W.Fast.tw8287481429032715731:=()
def PySem.W.Fast.tw13942925925245974538:=()
def PySem.W.Fast.tw10319850332823769161:=()
def PySem.W.Fast.tw10612463823437282480:=()
def PySem.W.Fast.tw11626354378633980437:=()
def PySem.W.Fast.tw1705478712655181218:=()
def PySem.W.Fast.tw17581971986729001846:=()
def PySem.W.Fast.tw16854268133606526287:=()
def PySem.W.Fast.tw13335338734239481587:=()
def PySem.W.Fast.tw16405414817935290358:=()
def PySem.W.Fast.tw2328675822315169487:=()
def PySem.W.Fast.tw18274380898230411552:=()
def PySem.W.Fast.tw7199771956604453688:=()
def PySem.W.Fast.tw17914515109851132376:=()
def PySem.W.Fast.tw6386526143959133289:=()
def PySem.W.Fast.tw3774565919265685635:=()
def PySem.W.Fast.tw9326680718079979600:=()
def PySem.W.Fast.tw2615546378577828031:=()
def PySem.W.Fast.tw2847231353036114107:=()
def PySem.W.Fast.tw1505927622228354728:=()
def PySem.W.Fast.tw10367514611013188684:=()
def PySem.W.Fast.tw17137209457670303451:=()
def PySem.W.Fast.tw1119329136158945263:=()
def PySem.W.Fast.tw14734309934200706210:=()
def PySem.W.Fast.tw1100389603078331874:=()
def PySem.W.Fast.tw12850813689134090955:=()
def PySem.W.Fast.tw5988923000235038507:=()
def PySem.W.Fast.tw6010233129488991529:=()
def PySem.W.Fast.tw701670289768249776:=()
def PySem.W.Fast.tw2717420145186454840:=()
def PySem.W.Fast.tw12106701011744876483:=()
def PySem.W.Fast.tw11306473590204975924:=()
def PySem.W.Fast.tw3644800775091129528:=()
def PySem.W.Fast.tw10739629555277405944:=()
def PySem.W.Fast.tw3865983124000602489:=()
def PySem.W.Fast.tw15380375456134144173:=()
def PySem.W.Fast.tw9077621925344427077:=()
def PySem.W.Fast.tw1204133559591590422:=()
def PySem.W.Fast.tw15344329351794523481:=()
def PySem.W.Fast.tw14403631877559745859:=()
def PySem.W.Fast.tw12915599032389725124:=()
def PySem.W.Fast.tw2585231071566108719:=()
def PySem.W.Fast.tw4546944326095384602:=()
def PySem.W.Fast.tw14367244070364816269:=()
def PySem.W.Fast.tw11467691148615400334:=()
def PySem.W.Fast.tw9579487764368541095:=()
def PySem.W.Fast.tw9316657478362550764:=()
def PySem.W.Fast.tw15277915636656300685:=()
def PySem.W.Fast.tw10591675415789943518:=()
def PySem.W.Fast.tw5369439079645135784:=()
def PySem.W.Fast.tw16795112288154649285:=()
def PySem.W.Fast.tw10644040260962223801:=()
def PySem.W.Fast.tw15312104169223170206:=()
def PySem.W.Fast.tw11099264070003593708:=()
def PySem.W.Fast.tw14532994029269362390:=()
def PySem.W.Fast.tw1301797258911140619:=()
def PySem.W.Fast.tw11134422984248993265:=()
def PySem.W.Fast.tw13550294102061648891:=()
def PySem.W.Fast.tw11475160281318495502:=()
def PySem.W.Fast.tw14162017119617472410:=()
def PySem.W.Fast.tw15198042469374458918:=()
def PySem.W.Fast.tw3108657081716636309:=()
def PySem.W.Fast.tw10816710013528430036:=()
def PySem.W.Fast.tw8483814087120728113:=()
def PySem.W.Fast.tw17037250011114326835:=()
def PySem.W.Fast.tw9815444554663920006:=()
def PySem.W.Fast.tw4922865610183260161:=()
def PySem.W.Fast.tw13536007616973708280:=()
def PySem.W.Fast.tw6719045906224514363:=()
def PySem.W.Fast.tw4142916100690563660:=()
def PySem.W.Fast.tw14021422200876892966:=()
def PySem.W.Fast.tw17755053646583933732:=()
def PySem.W.Fast.tw4870752162888045041:=()
def PySem.W.Fast.tw8307120791919974222:=()
def PySem.W.Fast.tw13478939586376343651:=()
def PySem.W.Fast.tw8102467374176462933:=()
open PySem PySem.W PyProof.Rows
set_option maxRecDepth 100000 in
set_option maxHeartbeats 0 in
theorem PySem.Challenge.cw_glowcells_k94_whole_deeds_read_by_hand_holds : PySem.Challenge.rw_glowcells_k94_whole_deeds_read_by_hand.Holds := by
 w_on;o_law;k_head;(case hw=>w_witness2)
 k_fill
 refine TL.walk (l:=PySem.Challenge.rw_glowcells_k94_whole_deeds_read_by_hand) (k:=6) ⟨rfl,by decide,by decide,rfl⟩ rfl rfl (fun w h Y=>PySem.W.kIn_of Y) ?F
 case F=>
  intro w mg fa h KX GG hmg
  refine' _root_.G94.all_mk KX GG hmg ?a1 ?a2 ?a3 ?a4 ?a5 ?a6 ?a7 ?a8 ?a9 ?a10 ?a11 ?a12 ?a13 ?a14 ?a15 ?a16 ?a17 ?a18 ?z0 ?z1 ?z2 ?z3 ?z4 ?z5 ?z6 ?z7 ?z8 ?z9 ?z10 ?g_GlowError ?g_NoText ?k_FIGURES ?k_LETTERS ?k_MOST_LETTERS ?k_MOST_PLAYED_FIGURES ?g_LAMP_WORDS ?tl_LAMP_WORDS ?g_PARTS ?lw_PARTS ?ns_PARTS ?hh_PARTS_0 ?hh_PARTS_1 ?hh_PARTS_2 ?hh_PARTS_3 ?hh_PARTS_4 ?hh_PARTS_5 ?hh_PARTS_6 ?tl_PARTS_0 ?tl_PARTS_1 ?tl_PARTS_2 ?tl_PARTS_3 ?tl_PARTS_4 ?tl_PARTS_5 ?tl_PARTS_6 ?zt_PARTS_0 ?zt_PARTS_1 ?zt_PARTS_2 ?zt_PARTS_3 ?zt_PARTS_4 ?zt_PARTS_5 ?zt_PARTS_6 ?u_NoText ?kc_NoText ?b1_NoText ?b2_NoText ?b3_NoText ?b4_NoText ?b5_NoText ?b6_NoText ?ex ?kt
  (case g_GlowError=>k_is)
  (case g_NoText=>k_is)
  (case g_LAMP_WORDS=>k_is)
  (case g_PARTS=>k_is)
  all_goals try k_is
  all_goals try exact ⟨_,_,by k_is,L2.QlB (by k_is) (by k_is) (by k_is)⟩
  all_goals try exact ⟨_,_,by k_is,by kernel_rfl,by k_is,L2.QlB (by k_is) (by k_is) (by k_is)⟩
  all_goals try kernel_rfl
  all_goals try kit_is
  all_goals try kts_exm
  all_goals try rfl
