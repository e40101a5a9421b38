import PyProof.Rows.All
import Wide.All
import OpenK.AllK
import Wide.FinOn
import Lean
import PyProof.EqAt
import PyProof.EqKinds
import PyProof.TupleCall
import PyProof.NeKinds
import KE.KTryMore
import PyProof.ExcBaseAll.ValueError
import OpenK.KOwn
import PyProof.ConsumeWalk
import KE.KIntText
import PyProof.EnumFor
import PyProof.EnumMake
import PyProof.StrWalks
import KE.KRevSl
import PyProof.ReprRoads
import PyProof.ReprBulk
import PyProof.Draws
import PyProof.TupleIter
import PyProof.WalksMore
import KE.KIsAll
import PyProof.RulesAs
import PyProof.NsDelKeeps
import PyProof.Rows.SetFrom
import PyProof.SetRoads
import PyProof.ListRange
import PySem.Challenge.RW_glowcells_k15_whole_texts_back
set_option Elab.async false
set_option linter.all false
set_option maxRecDepth 100000
namespace L2
open PySem PySem.Spec PyProof.Rows

abbrev Key := Sum Int Str
def keyIs : Key → Value → Bool
  | .inl k, v => Value.isInt k v
  | .inr x, v => Value.isStrOf x v
def keyH (w : World) : Key → Int
  | .inl k => hashInt k
  | .inr x => hashStr w x
theorem keyIs_shape : ∀ {k : Key} {v : Value}, keyIs k v = true → (∃ i t, k = Sum.inl i ∧ v = Value.int i t) ∨ (∃ x t, k = Sum.inr x ∧ v = Value.str x t)
  | .inl i, v, h => by
    obtain ⟨t, e⟩ := Value.isInt_shape (k := i) (v := v) h
    exact .inl ⟨i, t, rfl, e⟩
  | .inr x, v, h => by
    obtain ⟨t, e⟩ := Value.isStrOf_shape (x := x) (v := v) h
    exact .inr ⟨x, t, rfl, e⟩
theorem keyIs_int (i : Int) (t : Tok) : keyIs (.inl i) (.int i t) = true := by simp [keyIs, Value.isInt]
theorem keyIs_str (x : Str) (t : Tok) : keyIs (.inr x) (.str x t) = true := by simp [keyIs, Value.isStrOf]
theorem key_ll (a b : Int) : decide ((Sum.inl a : Key) = Sum.inl b) = (a == b) := by
  by_cases e : a = b
  · subst e; simp
  · have h : ¬ (Sum.inl a : Key) = Sum.inl b := fun q => e (Sum.inl.inj q)
    rw [decide_eq_false h]
    exact (beq_eq_false_iff_ne.mpr e).symm
theorem key_rr (a b : Str) : decide ((Sum.inr a : Key) = Sum.inr b) = decide (a = b) := by
  by_cases e : a = b
  · subst e; simp
  · have h : ¬ (Sum.inr a : Key) = Sum.inr b := fun q => e (Sum.inr.inj q)
    rw [decide_eq_false h, decide_eq_false e]
theorem key_lr (a : Int) (b : Str) : decide ((Sum.inl a : Key) = Sum.inr b) = false := decide_eq_false (fun q => nomatch q)
theorem key_rl (a : Str) (b : Int) : decide ((Sum.inr a : Key) = Sum.inl b) = false := decide_eq_false (fun q => nomatch q)

def mixKind (prog : Program) (w : World) : PySem.KeyKind prog w Key where
  is := keyIs
  hash := keyH w
  inj := fun v a b ha hb => by
    rcases keyIs_shape ha with ⟨i, t, rfl, rfl⟩ | ⟨x, t, rfl, rfl⟩
    · rcases keyIs_shape hb with ⟨j, u, rfl, e⟩ | ⟨y, u, rfl, e⟩
      · injection e with e1 _; rw [e1]
      · exact nomatch e
    · rcases keyIs_shape hb with ⟨j, u, rfl, e⟩ | ⟨y, u, rfl, e⟩
      · exact nomatch e
      · injection e with e1 _; rw [e1]
  byValue := fun k v h => by
    rcases keyIs_shape h with ⟨i, t, rfl, rfl⟩ | ⟨x, t, rfl, rfl⟩ <;> rfl
  pyHash := fun hv h => by
    rcases keyIs_shape hv with ⟨i, t, rfl, rfl⟩ | ⟨x, t, rfl, rfl⟩
    · exact wpAny_pyHash_int h
    · exact wpAny_pyHash_str h
  eqBool := fun hu hv h => by
    rcases keyIs_shape hu with ⟨i, t, rfl, rfl⟩ | ⟨x, t, rfl, rfl⟩
    · rcases keyIs_shape hv with ⟨j, u, rfl, rfl⟩ | ⟨y, u, rfl, rfl⟩
      · rw [key_ll] at h; exact wpAny_eqBool_int h
      · rw [key_lr] at h; exact SeqAt.EqAt.int_str i t y u _ _ _ _ h
    · rcases keyIs_shape hv with ⟨j, u, rfl, rfl⟩ | ⟨y, u, rfl, rfl⟩
      · rw [key_rl] at h; exact SeqAt.EqAt.str_int x t j u _ _ _ _ h
      · rw [key_rr] at h; exact wpAny_eqBool_str h
  «strs» := fun k x t v h => by
    rcases keyIs_shape h with ⟨i, u, rfl, e⟩ | ⟨y, u, rfl, e⟩
    · exact nomatch e
    · injection e with e1 _
      subst e1
      cases v <;> rfl

theorem mixKind_int (prog : Program) (w : World) (i : Int) (t : Tok) : (mixKind prog w).is (.inl i) (.int i t) = true := keyIs_int i t
theorem mixKind_str (prog : Program) (w : World) (x : Str) (t : Tok) : (mixKind prog w).is (.inr x) (.str x t) = true := keyIs_str x t
end L2

namespace L2
open PySem PySem.Spec PyProof.Rows

inductive V where
  | non | bl (b : Bool) | int (i : Int) | str (x : Str) | byt (b : Array UInt8) | flt (b : UInt64) | ref (a : Addr) | ty (n : String)
  deriving DecidableEq

def RelV : V → Value → Prop
  | .non, u => u = Value.none
  | .bl b, u => u = Value.bool b
  | .int i, u => ∃ t, u = Value.int i t
  | .str x, u => ∃ t, u = Value.str x t
  | .byt b, u => ∃ t, u = Value.bytes b t
  | .flt b, u => ∃ t, u = Value.float b t
  | .ref a, u => u = Value.ref a
  | .ty n, u => u = Value.type n

abbrev Vals : List V → List Value → Prop := Paired RelV
theorem Vals.length {xs : List V} {us : List Value} (r : Vals xs us) : xs.length = us.length := Paired.length r
theorem Vals.get : ∀ {xs : List V} {us : List Value} {i : Nat} {x : V}, Vals xs us → xs[i]? = some x → ∃ u, us[i]? = some u ∧ RelV x u
  | _, _, _, _, .nil, e => by simp at e
  | _, _, 0, _, .cons r _, e => by simp at e; subst e; exact ⟨_, rfl, r⟩
  | _, _, i + 1, x, .cons _ t, e => by
    obtain ⟨u, h1, h2⟩ := Vals.get (i := i) (x := x) t (by simpa using e)
    exact ⟨u, by simpa using h1, h2⟩
theorem Vals.set {x : V} {u : Value} (r : RelV x u) : ∀ {xs : List V} {us : List Value} (i : Nat), Vals xs us → Vals (xs.set i x) (us.set i u)
  | _, _, _, .nil => .nil
  | _, _, 0, .cons _ t => .cons r t
  | _, _, i + 1, .cons q t => .cons q (Vals.set r i t)
theorem Vals.append : ∀ {xs ys : List V} {us ws : List Value}, Vals xs us → Vals ys ws → Vals (xs ++ ys) (us ++ ws)
  | _, _, _, _, .nil, s => s
  | _, _, _, _, .cons r t, s => .cons r (Vals.append t s)
theorem Vals.take : ∀ {xs : List V} {us : List Value} (n : Nat), Vals xs us → Vals (xs.take n) (us.take n)
  | _, _, 0, _ => .nil
  | _, _, _ + 1, .nil => .nil
  | _, _, n + 1, .cons r t => .cons r (Vals.take n t)
theorem Vals.drop : ∀ {xs : List V} {us : List Value} (n : Nat), Vals xs us → Vals (xs.drop n) (us.drop n)
  | _, _, 0, r => r
  | _, _, _ + 1, .nil => .nil
  | _, _, n + 1, .cons _ t => Vals.drop n t
theorem Vals.none_of : ∀ {xs : List V} {us : List Value} {i : Nat}, Vals xs us → xs[i]? = none → us[i]? = none := fun {xs us i} r e => by
  have h1 := r.length
  have h2 : xs.length ≤ i := List.getElem?_eq_none_iff.mp e
  exact List.getElem?_eq_none_iff.mpr (by omega)

def RelO : Option V → Option Value → Prop
  | some v, some u => RelV v u
  | none, none => True
  | _, _ => False
def KV {κ : Type} : List (κ × V) → List (κ × Value) → Prop := Paired fun (p : κ × V) (q : κ × Value) => p.1 = q.1 ∧ RelV p.2 q.2

def kV : Key → V
  | .inl i => .int i
  | .inr x => .str x

inductive HO where
  /-- a list -/
  | lst (xs : List V)
  /-- a tuple (never changes) -/
  | tup (xs : List V)
  /-- a dict whose keys are ints and texts; one whose keys are tuples of ints and texts (the empty one is both) -/
  | dK (kvs : List (Key × V)) | dT (kvs : List (List Key × V))
  /-- a set of ints: its members, its size -/
  | set (S : Int → Bool) (n : Nat)
  /-- an instance of the class at C, its dict at dx, its attributes -/
  | ins (C dx : Addr) (fs : List (Str × V))
  /-- the dict of the instance at x -/
  | own (x : Addr)
  /-- the dict of an exception -/
  | xd (fs : List (Str × V))
  /-- a bound method, f of x -/
  | met (f x : Addr)
  /-- a range object lo, lo + 1, .. below hi -/
  | rng (lo hi : Int)
  /-- a thing that is known to the object (the script; a dict while a loop walks it): read, never written while it is so -/
  | frz (o : Obj) (u : HO)
  /-- a code object's table -/
  | tbl (ps : Array Value)
  /-- any other thing, by what is true of its one object (a def of one's own: SetO a S n := HO.ext fun h => ..) -/
  | ext (φ : Heap → Prop)

abbrev Hp := Addr → Option HO
def upd (H : Hp) (a : Addr) (o : HO) : Hp := fun b => if b = a then some o else H b
theorem upd_same {H : Hp} {a : Addr} {o : HO} : upd H a o a = some o := by unfold upd; rw [if_pos rfl]
theorem upd_ne {H : Hp} {a b : Addr} {o : HO} (h : b ≠ a) : upd H a o b = H b := by unfold upd; rw [if_neg h]
theorem upd_upd {H : Hp} {a : Addr} {o u : HO} : upd (upd H a o) a u = upd H a u := by
  funext b; unfold upd; split <;> rfl
theorem ne_of {H : Hp} {a b : Addr} {o u : HO} (h : H a = some o) (h' : H b = some u) (d : o ≠ u) : a ≠ b := by
  intro e; subst e; rw [h] at h'; exact d (Option.some.inj h')
theorem ne_of_none {H : Hp} {a b : Addr} {o : HO} (h : H a = some o) (h' : H b = none) : a ≠ b := by
  intro e; subst e; rw [h] at h'; cases h'

section
variable (P : Program) (w : World)
def ObjOk (H : Hp) (h : Heap) (a : Addr) : HO → Prop
  | .lst xs => xs.length ≤ sizeLine ∧ ∃ (its : List Value) (n : Nat), Vals xs its ∧ h.get? a = some { cls := .type "list", data := .seq its.toArray n }
  | .tup xs => xs.length ≤ sizeLine ∧ ∃ its : List Value, Vals xs its ∧ IsTup h a its.toArray
  | .dK kvs => kvs.length ≤ sizeLine ∧ (a == sysModules) = false ∧ ∃ vs, KV kvs vs ∧ h.DictOf (mixKind P w) a vs
  | .dT kvs => kvs.length ≤ sizeLine ∧ (a == sysModules) = false ∧ ∃ xs : List (List Key × Addr × Value),
      Paired (fun (p : List Key × V) (q : List Key × Addr × Value) => p.1 = q.1 ∧ H q.2.1 = some (.tup (p.1.map kV)) ∧ RelV p.2 q.2.2) kvs xs ∧
      ∃ o es ep, h.get? a = some o ∧ o.ExactDict ∧ o.data = .dict es ep ∧ es.toList = xs.map (entryOfKey (tupleKind (mixKind P w))) ∧ (xs.map (·.1)).Nodup
  | .set S n => h.SetOf (intKind P w) a S n
  | .ins C dx fs => H dx = some (.own a) ∧ fs.length ≤ 1000 ∧ dx ≠ a ∧ h.get? a = some (PySem.W.instObj C dx) ∧
      ∃ mA, h.Ns1 dx mA ∧ (∀ f, RelO (fs.lookup f) (mA f)) ∧ PySem.Within mA (fs.map (·.1))
  | .own _ => ∃ o, h.get? a = some o
  | .xd fs => ∃ mA, h.Ns1 a mA ∧ ∀ f, RelO (fs.lookup f) (mA f)
  | .rng lo hi => ∃ t u v, h.get? a = some { cls := .type "range", data := .fields #[.int lo t, .int hi u, .int 1 v] }
  | .frz o u => h.get? a = some o ∧ ObjOk H h a u
  | .tbl ps => h.get? a = some { cls := .none, data := .fields ps }
  | .met f x => h.get? a = some (PySem.W.methodObj (.ref f) (.ref x))
  | .ext φ => φ h ∧ (∃ o, h.get? a = some o) ∧ ∀ h1 h2 : Heap, φ h1 → (∀ o, h1.get? a = some o → h2.get? a = some o) → φ h2
def HOk (H : Hp) (h : Heap) : Prop := ∀ a o, H a = some o → ObjOk P w H h a o
end

section
variable {P : Program} {w : World} {H H' : Hp} {h h' : Heap} {a : Addr} {o : HO}
theorem ObjOk.lt (x : ObjOk P w H h a o) : a < h.objs.size := by
  cases o with
  | lst xs => obtain ⟨_, _, _, _, e⟩ := x; exact Heap.lt_size e
  | tup xs => obtain ⟨_, _, _, p⟩ := x; exact p.lt
  | dK kvs => obtain ⟨_, _, _, _, o, _, _, e, _⟩ := x; exact Heap.lt_size e
  | dT kvs => obtain ⟨_, _, _, _, o, _, _, e, _⟩ := x; exact Heap.lt_size e
  | set S n => obtain ⟨o, _, _, _, e, _⟩ := x; exact Heap.lt_size e
  | ins C dx fs => obtain ⟨_, _, _, e, _⟩ := x; exact Heap.lt_size e
  | own y => obtain ⟨_, e⟩ := x; exact Heap.lt_size e
  | xd fs => obtain ⟨_, ⟨_, _, _, e, _⟩, _⟩ := x; exact Heap.lt_size e
  | rng lo hi => obtain ⟨_, _, _, e⟩ := x; exact Heap.lt_size e
  | frz ob u => obtain ⟨e, _⟩ := x; exact Heap.lt_size e
  | tbl ps => exact Heap.lt_size (show h.get? a = some _ from x)
  | met f y => exact Heap.lt_size (show h.get? a = some _ from x)
  | ext φ => obtain ⟨_, ⟨_, e⟩, _⟩ := x; exact Heap.lt_size e
theorem Paired.mapP {α β : Type} {F G : α → β → Prop} : ∀ {l₁ : List α} {l₂ : List β}, Paired F l₁ l₂ → (∀ a b, F a b → G a b) → Paired G l₁ l₂
  | _, _, .nil, _ => .nil
  | _, _, .cons r t, f => .cons (f _ _ r) (Paired.mapP t f)
theorem Paired.imp' {α β : Type} {F G : α → β → Prop} (f : ∀ a b, F a b → G a b) {l₁ : List α} {l₂ : List β} (r : Paired F l₁ l₂) : Paired G l₁ l₂ := Paired.mapP r f
theorem ObjOk.stay (x : ObjOk P w H h a o) (k : ∀ b u, (b = a ∨ H b = some (.own a)) → h.get? b = some u → h'.get? b = some u)
    (ho : ∀ b, H b = some (.own a) → H' b = some (.own a)) (ht : ∀ b xs, H b = some (.tup xs) → H' b = some (.tup xs)) : ObjOk P w H' h' a o := by
  induction o with
  | lst xs => obtain ⟨z, its, n, r, e⟩ := x; exact ⟨z, its, n, r, k _ _ (.inl rfl) e⟩
  | tup xs => obtain ⟨z, its, r, ob, e, c⟩ := x; exact ⟨z, its, r, ob, k _ _ (.inl rfl) e, c⟩
  | dK kvs => obtain ⟨z, y, vs, r, ob, es, ep, e, c⟩ := x; exact ⟨z, y, vs, r, ob, es, ep, k _ _ (.inl rfl) e, c⟩
  | dT kvs =>
    obtain ⟨z, y, xs, r, ob, es, ep, e, c⟩ := x
    exact ⟨z, y, xs, Paired.mapP r fun p q z => ⟨z.1, ht _ _ z.2.1, z.2.2⟩, ob, es, ep, k _ _ (.inl rfl) e, c⟩
  | set S n => obtain ⟨ob, es, ep, t, e, c⟩ := x; exact ⟨ob, es, ep, t, k _ _ (.inl rfl) e, c⟩
  | ins C dx fs =>
    obtain ⟨d, z, ne, e, mA, ⟨od, es, ep, e2, c⟩, r⟩ := x
    exact ⟨ho _ d, z, ne, k _ _ (.inl rfl) e, mA, ⟨od, es, ep, k _ _ (.inr d) e2, c⟩, r⟩
  | own y => obtain ⟨ob, e⟩ := x; exact ⟨ob, k _ _ (.inl rfl) e⟩
  | xd fs => obtain ⟨mA, ⟨od, es, ep, e, c⟩, r⟩ := x; exact ⟨mA, ⟨od, es, ep, k _ _ (.inl rfl) e, c⟩, r⟩
  | rng lo hi => obtain ⟨t, u, v, e⟩ := x; exact ⟨t, u, v, k _ _ (.inl rfl) e⟩
  | frz ob u ih => obtain ⟨e, q⟩ := x; exact ⟨k _ _ (.inl rfl) e, ih q⟩
  | tbl ps =>
    have e : h.get? a = some { cls := .none, data := .fields ps } := x
    show h'.get? a = some { cls := .none, data := .fields ps }
    exact k a _ (.inl rfl) e
  | met f y =>
    have e : h.get? a = some (PySem.W.methodObj (.ref f) (.ref y)) := x
    show h'.get? a = some (PySem.W.methodObj (.ref f) (.ref y))
    exact k a _ (.inl rfl) e
  | ext φ => obtain ⟨p, ⟨o, e⟩, st⟩ := x; exact ⟨st _ _ p fun o q => k _ _ (.inl rfl) q, ⟨o, k _ _ (.inl rfl) e⟩, st⟩
theorem HOk.lt (x : HOk P w H h) (e : H a = some o) : a < h.objs.size := (x a o e).lt
theorem HOk.fresh (x : HOk P w H h) (e : h.objs.size ≤ a) : H a = none := by
  cases q : H a with
  | none => rfl
  | some u => exact absurd (Nat.lt_of_lt_of_le (x.lt q) e) (Nat.lt_irrefl _)
theorem HOk.kept (x : HOk P w H h) (k : ∀ b u, h.get? b = some u → h'.get? b = some u) : HOk P w H h' := fun a o e =>
  (x a o e).stay (fun b u _ q => k b u q) (fun _ q => q) fun _ _ q => q
theorem HOk.laid (x : HOk P w H h) (k : ∀ b u, h.get? b = some u → h'.get? b = some u) (hp : h.objs.size ≤ a) (new : ObjOk P w (upd H a o) h' a o) : HOk P w (upd H a o) h' := fun b u e => by
  have hn := x.fresh hp
  by_cases hb : b = a
  · subst hb; rw [upd_same] at e; cases e; exact new
  · rw [upd_ne hb] at e
    exact (x b u e).stay (fun c v _ q => k c v q) (fun c q => by rw [upd_ne (ne_of_none q hn)]; exact q) fun c xs q => by rw [upd_ne (ne_of_none q hn)]; exact q
end

def Rd (H : Hp) (a : Addr) (u : HO) : Prop := H a = some u ∨ ∃ o, H a = some (.frz o u)
theorem Rd.of {H : Hp} {a : Addr} {u : HO} (h : H a = some u) : Rd H a u := .inl h
theorem Rd.ok {P : Program} {w : World} {H : Hp} {h : Heap} {a : Addr} {u : HO} (r : Rd H a u) (x : HOk P w H h) : ObjOk P w H h a u := by
  rcases r with r | ⟨o, r⟩
  · exact x a u r
  · obtain ⟨_, q⟩ := x a _ r
    exact q
def Mut : Option HO → Prop
  | some (.lst _) => True
  | some (.dK _) => True
  | some (.dT _) => True
  | some (.set _ _) => True
  | some (.ins _ _ _) => True
  | some (.ext _) => True
  | _ => False
section
variable {P : Program} {w : World} {H : Hp} {h h' : Heap} {x e : Addr} {o' : HO}
theorem HOk.write (ok : HOk P w H h) (mu : Mut (H x)) (he : e = x ∨ H e = some (.own x)) (k : ∀ b u, b ≠ e → h.get? b = some u → h'.get? b = some u) (heo : ∃ u, h'.get? e = some u)
    (new : ObjOk P w (upd H x o') h' x o') : HOk P w (upd H x o') h' := fun b u q => by
  have nown : ∀ c y, H c = some (.own y) → c ≠ x := fun c y r z => by subst z; rw [r] at mu; exact mu
  have ntup : ∀ c xs, H c = some (.tup xs) → c ≠ x := fun c xs r z => by subst z; rw [r] at mu; exact mu
  by_cases hb : b = x
  · subst hb; rw [upd_same] at q; cases q; exact new
  · rw [upd_ne hb] at q
    by_cases hbe : b = e
    · have q' : H b = some (.own x) := by
        rcases he with z | z
        · exact absurd (hbe.trans z) hb
        · rw [hbe]; exact z
      rw [q] at q'; cases q'
      obtain ⟨v, hv⟩ := heo
      exact ⟨v, by rw [hbe]; exact hv⟩
    · refine (ok b u q).stay (fun c v hc r => k c v ?_ r) (fun c r => by rw [upd_ne (nown c b r)]; exact r) fun c xs r => by rw [upd_ne (ntup c xs r)]; exact r
      rcases hc with rfl | hc
      · exact hbe
      · rintro rfl
        rcases he with z | z
        · exact nown c b hc z
        · rw [hc] at z; cases z; exact hb rfl
end

structure Un (fs ex : List Addr) (H H' : Hp) (h h' : Heap) : Prop where
  keep : ∀ b o, h.get? b = some o → H b = none → b ∉ fs → b ∉ ex → h'.get? b = some o
  slot : ∀ b o, h.get? b = some o → H b = none → b ∈ fs → b ∉ ex → ∃ sl, h'.get? b = some { o with slots := sl }
  free : ∀ b o, h.get? b = some o → H b = none → b ∉ ex → H' b = none
  there : ∀ b o, h.get? b = some o → b ∉ ex → ∃ o', h'.get? b = some o'
  tups : ∀ b xs, H b = some (.tup xs) → H' b = some (.tup xs)
  frzs : ∀ b o u, H b = some (.frz o u) → H' b = some (.frz o u)
  tbls : ∀ b ps, H b = some (.tbl ps) → ∃ more, H' b = some (.tbl (ps ++ more))
section
variable {fs fs' ex ex' : List Addr} {H H1 H2 : Hp} {h h1 h2 h' : Heap} {a x e : Addr} {o : HO}
theorem Un.any (u : Un fs ex H H1 h h1) {b : Addr} {ob : Obj} (q : h.get? b = some ob) (n : H b = none) (hx : b ∉ ex) : ∃ sl, h1.get? b = some { ob with slots := sl } := by
  by_cases hb : b ∈ fs
  · exact u.slot b ob q n hb hx
  · exact ⟨ob.slots, u.keep b ob q n hb hx⟩
theorem Un.trans (a : Un fs ex H H1 h h1) (b : Un fs ex H1 H2 h1 h2) : Un fs ex H H2 h h2 where
  keep := fun c ob q n hc hx => b.keep c ob (a.keep c ob q n hc hx) (a.free c ob q n hx) hc hx
  slot := fun c ob q n hc hx => by
    obtain ⟨sl, e1⟩ := a.slot c ob q n hc hx
    obtain ⟨sl', e2⟩ := b.slot c _ e1 (a.free c ob q n hx) hc hx
    exact ⟨sl', e2⟩
  free := fun c ob q n hx => by
    obtain ⟨o', e1⟩ := a.there c ob q hx
    exact b.free c o' e1 (a.free c ob q n hx) hx
  there := fun c ob q hx => by
    obtain ⟨o', e1⟩ := a.there c ob q hx
    exact b.there c o' e1 hx
  tups := fun c xs q => b.tups c xs (a.tups c xs q)
  frzs := fun c ob xs q => b.frzs c ob xs (a.frzs c ob xs q)
  tbls := fun c ps q => by
    obtain ⟨m1, e1⟩ := a.tbls c ps q
    obtain ⟨m2, e2⟩ := b.tbls c _ e1
    exact ⟨m1 ++ m2, by rw [e2, Array.append_assoc]⟩
theorem Un.kept (k : ∀ b u, h.get? b = some u → h'.get? b = some u) : Un fs ex H H h h' :=
  ⟨fun b ob q _ _ _ => k b ob q, fun b ob q _ _ _ => ⟨ob.slots, k b ob q⟩, fun _ _ _ n _ => n, fun b ob q _ => ⟨ob, k b ob q⟩, fun _ _ q => q, fun _ _ _ q => q, fun _ ps q => ⟨#[], by rw [q]; simp⟩⟩
theorem Un.refl : Un fs ex H H h h := Un.kept fun _ _ q => q
theorem Un.laid (k : ∀ b u, h.get? b = some u → h'.get? b = some u) (hp : h.objs.size ≤ a) (hn : H a = none) : Un fs ex H (upd H a o) h h' where
  keep := fun b u q _ _ _ => k b u q
  slot := fun b u q _ _ _ => ⟨u.slots, k b u q⟩
  free := fun b u q n _ => by rw [upd_ne (Nat.ne_of_lt (Nat.lt_of_lt_of_le (Heap.lt_size q) hp))]; exact n
  there := fun b u q _ => ⟨u, k b u q⟩
  tups := fun b xs q => by rw [upd_ne (ne_of_none q hn)]; exact q
  frzs := fun b u xs q => by rw [upd_ne (ne_of_none q hn)]; exact q
  tbls := fun b ps q => ⟨#[], by rw [upd_ne (ne_of_none q hn), q]; simp⟩
theorem Un.write (mu : Mut (H x)) (he : e = x ∨ H e = some (.own x)) (k : ∀ b u, b ≠ e → h.get? b = some u → h'.get? b = some u) (heo : ∃ u, h'.get? e = some u) : Un fs ex H (upd H x o) h h' := by
  have hx : ∀ b, H b = none → b ≠ x := fun b n z => by subst z; rw [n] at mu; exact mu
  have hb : ∀ b, H b = none → b ≠ e := fun b n z => by
    subst z
    rcases he with r | r
    · exact hx b n r
    · rw [n] at r; cases r
  have hm : ∀ b u, H b = some u → ¬ Mut (some u) → b ≠ x := fun b u q nm z => by subst z; rw [q] at mu; exact nm mu
  refine ⟨fun b u q n _ _ => k b u (hb b n) q, fun b u q n _ _ => ⟨u.slots, k b u (hb b n) q⟩, fun b u q n _ => by rw [upd_ne (hx b n)]; exact n, fun b u q _ => ?_,
    fun b xs q => by rw [upd_ne (hm b _ q fun z => z)]; exact q, fun b u xs q => by rw [upd_ne (hm b _ q fun z => z)]; exact q, fun b ps q => ⟨#[], by rw [upd_ne (hm b _ q fun z => z), q]; simp⟩⟩
  by_cases hbe : b = e
  · subst hbe; exact heo
  · exact ⟨u, k b u hbe q⟩
theorem Un.mono (u : Un fs ex H H1 h h1) (hs : ∀ b ∈ fs, b ∈ fs') (hx : ∀ b ∈ ex, b ∈ ex') : Un fs' ex' H H1 h h1 :=
  ⟨fun b ob q n hb he => u.keep b ob q n (fun z => hb (hs b z)) fun z => he (hx b z), fun _ _ q n _ he => u.any q n fun z => he (hx _ z), fun b ob q n he => u.free b ob q n fun z => he (hx b z), fun b ob q he => u.there b ob q fun z => he (hx b z), u.tups, u.frzs, u.tbls⟩
end

def trk (h : Heap) (H : Hp) : List Addr := (List.range h.objs.size).filter fun a => (H a).isSome
def hidT (h : Heap) (H : Hp) : Heap := PySem.W.hideAll h (trk h H)
theorem hidT_size (h : Heap) (H : Hp) : (hidT h H).objs.size = h.objs.size := PySem.W.hideAll_size _ _
theorem hidT_get {h : Heap} {H : Hp} {b : Addr} {o : Obj} (e : h.get? b = some o) (n : H b = none) : (hidT h H).get? b = some o :=
  PySem.W.hideAll_get _ e fun hm => by
    have q : (H b).isSome = true := (List.mem_filter.mp hm).2
    rw [n] at q; simp at q
theorem of_hidT {h : Heap} {H : Hp} {b : Addr} {o : Obj} (e : (hidT h H).get? b = some o) : h.get? b = some o ∧ H b = none := by
  have e' : h.get? b = some o := PySem.W.of_hideAll (trk h H) e
  refine ⟨e', ?_⟩
  cases q : H b with
  | none => rfl
  | some x =>
    have hm : b ∈ trk h H := List.mem_filter.mpr ⟨List.mem_range.mpr (Heap.lt_size e'), by simp [q]⟩
    have z : (hidT h H).get? b = none := PySem.W.hideAll_none (trk h H) hm
    rw [z] at e; cases e

def allNews (g h : Heap) (L : Addr) : List (Addr × Obj) := (List.range h.objs.size).filterMap fun a => if a = L ∨ (g.get? a).isSome = true then none else (h.get? a).map fun o => (a, o)
def rest (g h : Heap) (L d : Addr) : List (Addr × Obj) := (allNews g h L).filter fun p => decide (p.1 ≠ d)
end L2

namespace L2
open PySem PySem.Spec PyProof.Rows

structure Mod (K : PySem.W.Frag) (mg : Str → Option Value) (base : Heap) : Prop where
  kin : K.In base
  glob : base.Ns mainGlobals mg
  blt : ∃ mb, base.Ns builtinsNs mb ∧ ∀ x : Str, x ≠ "__name__" → mb x = bootBuiltins x
  nolimit : base.NoLimit

structure Cx where
  prog : Program
  w : World
  K : PySem.W.Frag
  mg : Str → Option Value
  base : Heap
  A : Around
  N : List Str
  s₀ : Shared
  H₀ : Hp
  env : Env
  outer : List Env
  stack : List Env
  ex : List Addr
  fn : Str → Bool
  calm : Bool
  pn : List (Addr × Obj)
  xe : Value → Shared → Prop
def frs (l : List Env) : List Addr := l.filterMap (·.frame)
abbrev Cx.fs (X : Cx) : List Addr := frs X.outer

def Vis (sc : Scope) (x : Str) : Prop := sc.names.lookup x = some .local ∨ sc.names.lookup x = some .cell ∨ sc.names.lookup x = some .free
def Loc (sc : Scope) (x : Str) : Prop := sc.names.lookup x = some .local ∨ sc.names.lookup x = some .cell
def Look (env : Env) (h : Heap) (m : Str → Option Value) (x : Str) (u : Value) : Prop :=
  (env.kindOf x = some .local ∧ m x = some u) ∨ ((env.kindOf x = some .cell ∨ env.kindOf x = some .free) ∧ ∃ c, env.cells.lookup x = some c ∧ h.IsCell c (some u))

structure Cx.Ok (X : Cx) : Prop where
  mod : Mod X.K X.mg X.base
  kind : X.env.scope.kind = .function
  glob : X.env.globals = mainGlobals
  blt : X.env.builtins = builtinsNs
  above : X.s₀.heap.objs.size ≤ X.env.locals
  inj : ∀ x y c, X.env.cells.lookup x = some c → X.env.cells.lookup y = some c → x = y
  has : ∀ x, (X.env.kindOf x = some .cell ∨ X.env.kindOf x = some .free) → ∃ c, X.env.cells.lookup x = some c
  cab : ∀ x c, X.fn x = true → X.env.cells.lookup x = some c → X.s₀.heap.objs.size ≤ c
  hd : X.calm = true → X.A.handled = none
  frames : X.A.frames = some X.stack
  stk : X.stack = X.outer ∨ (X.stack = X.env :: X.outer ∧ X.env.frame = some X.env.locals)
  exf : ∀ b ∈ X.ex, b ≠ X.env.locals ∧ ∀ x c, X.env.cells.lookup x = some c → c ≠ b
  bs : ∀ b o, X.base.get? b = some o → X.s₀.heap.get? b = some o ∧ X.H₀ b = none
  bsz : X.base.objs.size ≤ X.s₀.heap.objs.size
  noex : ∀ b o, X.base.get? b = some o → b ∉ X.ex
  exfs : ∀ b ∈ X.ex, b ∉ X.fs
  funs : X.s₀.heap.FunFrames X.base X.outer
  frf : ∀ b ∈ X.fs, X.H₀ b = none

structure Inv (X : Cx) (pins : List (Addr × Obj)) (σ : List (Option V)) (H : Hp) (s : Shared) : Prop where
  ok : X.Ok
  os : s.os = X.s₀.os
  bare : AllBare s.gens
  base : Un X.fs X.ex X.H₀ H X.s₀.heap s.heap
  loc : ∃ m, s.heap.Ns X.env.locals m ∧ ∀ (i : Nat) (x : Str) (v : V), X.N[i]? = some x → σ[i]? = some (some v) → Vis X.env.scope x → ∃ u, RelV v u ∧ Look X.env s.heap m x u
  cell : ∀ x c, X.env.cells.lookup x = some c → ∃ v, s.heap.IsCell c v
  free : H X.env.locals = none
  freeC : ∀ x c, X.env.cells.lookup x = some c → H c = none
  pin : ∀ p ∈ X.pn ++ pins, s.heap.get? p.1 = some p.2 ∧ H p.1 = none ∧ p.1 ≠ X.env.locals ∧ p.1 ∉ X.fs ∧ ∀ v, p.2.data ≠ .cell v
  hok : HOk X.prog X.w H s.heap
  len : σ.length = X.N.length

section
variable {X : Cx} {pins : List (Addr × Obj)} {σ : List (Option V)} {H H' : Hp} {s : Shared} {h' : Heap}

theorem Cx.Ok.nofr (ok : X.Ok) {b : Addr} {o : Obj} (e : X.base.get? b = some o) : b ∉ X.fs := fun hb => by
  have := (ok.funs.mem hb).1
  rw [e] at this; cases this
theorem Inv.bs (I : Inv X pins σ H s) : ∀ b o, X.base.get? b = some o → s.heap.get? b = some o ∧ H b = none := fun b o e =>
  ⟨I.base.keep b o (I.ok.bs b o e).1 (I.ok.bs b o e).2 (I.ok.nofr e) (I.ok.noex b o e), I.base.free b o (I.ok.bs b o e).1 (I.ok.bs b o e).2 (I.ok.noex b o e)⟩
theorem Inv.bk (I : Inv X pins σ H s) : ∀ b o, X.base.get? b = some o → s.heap.get? b = some o := fun b o e => (I.bs b o e).1
theorem Inv.mod (I : Inv X pins σ H s) : Mod X.K X.mg X.base := I.ok.mod
theorem Inv.kIn (I : Inv X pins σ H s) : X.K.In s.heap := I.ok.mod.kin.keeps I.bk
theorem Inv.nolimit (I : Inv X pins σ H s) : s.heap.NoLimit := I.ok.mod.nolimit.keeps I.bk
theorem Inv.fr (I : Inv X pins σ H s) : ∃ m, Fr X.base X.env.locals s.heap m :=
  let ⟨m, hn, _⟩ := I.loc
  ⟨m, hn, I.bk, Nat.le_trans I.ok.bsz I.ok.above⟩
theorem Inv.lt (I : Inv X pins σ H s) : X.env.locals < s.heap.objs.size := let ⟨_, hn, _⟩ := I.loc; hn.lt
theorem Inv.sz (I : Inv X pins σ H s) : X.s₀.heap.objs.size ≤ s.heap.objs.size := Nat.le_trans I.ok.above (Nat.le_of_lt I.lt)
theorem Inv.nofs (I : Inv X pins σ H s) {a : Addr} (h : s.heap.objs.size ≤ a) : a ∉ X.fs := fun hb => by
  obtain ⟨_, o, ho, _⟩ := I.ok.funs.mem hb
  exact absurd (Nat.lt_of_lt_of_le (Heap.lt_size ho) (Nat.le_trans I.sz h)) (Nat.lt_irrefl _)
theorem Inv.cne (I : Inv X pins σ H s) : ∀ x c, X.env.cells.lookup x = some c → c ≠ X.env.locals := fun x c e z => by
  obtain ⟨v, o, ho, hd⟩ := I.cell x c e
  obtain ⟨m, ⟨o', es, ep, ho', hd', _⟩, _⟩ := I.loc
  rw [z, ho'] at ho; cases ho; rw [hd'] at hd; cases hd
theorem Inv.funs (I : Inv X pins σ H s) : s.heap.FunFrames X.base X.outer := by
  have all : ∀ (l : List Env), (∀ b ∈ frs l, b ∈ X.fs) → X.s₀.heap.FunFrames X.base l → s.heap.FunFrames X.base l := by
    intro l
    induction l with
    | nil => intro _ _; trivial
    | cons env r ih =>
      intro hs hl
      obtain ⟨hk, ⟨L, o, hf, hn, ho, hd⟩, hr⟩ := hl
      have hL : L ∈ X.fs := hs L (by unfold frs; rw [List.filterMap_cons, hf]; exact List.mem_cons_self)
      obtain ⟨sl, e⟩ := I.base.slot L o ho (I.ok.frf L hL) hL fun z => I.ok.exfs L z hL
      exact ⟨hk, ⟨L, _, hf, hn, e, hd⟩, ih (fun b hb => hs b (by unfold frs; rw [List.filterMap_cons, hf]; exact List.mem_cons_of_mem _ hb)) hr⟩
  exact all X.outer (fun _ hb => hb) I.ok.funs

theorem Inv.stack (I : Inv X pins σ H s) : s.heap.FunFrames X.base X.stack := by
  rcases I.ok.stk with e | ⟨e, hf⟩
  · rw [e]; exact I.funs
  · rw [e]
    obtain ⟨m, hn, _⟩ := I.loc
    refine .cons (by rw [I.ok.kind]; decide) hf hn ?_ I.funs
    exact Heap.get?_none_of_le (Nat.le_trans I.ok.bsz I.ok.above)
theorem Inv.stkSub (I : Inv X pins σ H s) : ∀ b ∈ frs X.stack, b ∈ X.env.locals :: X.fs := fun b hb => by
  rcases I.ok.stk with e | ⟨e, hf⟩
  · rw [e] at hb; exact List.mem_cons_of_mem _ hb
  · rw [e] at hb
    unfold frs at hb
    rw [List.filterMap_cons, hf] at hb
    exact hb
theorem Inv.stkFree (I : Inv X pins σ H s) : ∀ b ∈ frs X.stack, H b = none := fun b hb => by
  rcases List.mem_cons.mp (I.stkSub b hb) with e | hb
  · rw [e]; exact I.free
  · obtain ⟨_, o, ho, _⟩ := I.ok.funs.mem hb
    exact I.base.free b o ho (I.ok.frf b hb) fun z => I.ok.exfs b z hb

theorem Inv.step {g' : Array GenState} {t' : Nat} {d' : Drawn} {ch : List Addr} (I : Inv X pins σ H s)
    (hch : ∀ b ∈ ch, (b ∈ X.ex ∨ X.s₀.heap.objs.size ≤ b) ∧ b ≠ X.env.locals ∧ (∀ x c, X.env.cells.lookup x = some c → c ≠ b) ∧ ∀ p ∈ X.pn ++ pins, p.1 ≠ b)
    (keep : ∀ b o, b ≠ X.env.locals → b ∉ X.fs → b ∉ ch → s.heap.get? b = some o → H b = none → h'.get? b = some o)
    (slot : ∀ b o, b ≠ X.env.locals → b ∈ X.fs → b ∉ ch → s.heap.get? b = some o → H b = none → ∃ sl, h'.get? b = some { o with slots := sl }) (free : ∀ b o, b ∉ ch → s.heap.get? b = some o → H b = none → H' b = none)
    (there : ∀ b o, b ∉ ch → s.heap.get? b = some o → ∃ o', h'.get? b = some o')
    (tups : ∀ b xs, H b = some (.tup xs) → H' b = some (.tup xs)) (frzs : ∀ b o u, H b = some (.frz o u) → H' b = some (.frz o u)) (tbls : ∀ b ps, H b = some (.tbl ps) → ∃ more, H' b = some (.tbl (ps ++ more)))
    (ns : ∀ m, s.heap.Ns X.env.locals m → h'.Ns X.env.locals m) (hok : HOk X.prog X.w H' h') (hg : AllBare g') :
    Inv X pins σ H' { s with heap := h', gens := g', drawn := d', toks := t' } := by
  have neL : ∀ b o, X.s₀.heap.get? b = some o → b ≠ X.env.locals := fun b o e => Nat.ne_of_lt (Nat.lt_of_lt_of_le (Heap.lt_size e) I.ok.above)
  have neC : ∀ b o, X.s₀.heap.get? b = some o → b ∉ X.ex → b ∉ ch := fun b o e hx hb => by
    rcases (hch b hb).1 with z | z
    · exact hx z
    · exact absurd (Nat.lt_of_lt_of_le (Heap.lt_size e) z) (Nat.lt_irrefl _)
  have cellK : ∀ x c, X.env.cells.lookup x = some c → ∀ v, s.heap.IsCell c v → h'.IsCell c v := fun x c e v ⟨o, ho, hd⟩ => by
    have nch : c ∉ ch := fun z => (hch c z).2.2.1 x c e rfl
    by_cases hc : c ∈ X.fs
    · obtain ⟨sl, q⟩ := slot c o (I.cne x c e) hc nch ho (I.freeC x c e)
      exact ⟨_, q, hd⟩
    · exact ⟨o, keep c o (I.cne x c e) hc nch ho (I.freeC x c e), hd⟩
  refine ⟨I.ok, I.os, hg, ⟨fun b o e n hb hx => ?_, fun b o e n hb hx => ?_, fun b o e n hx => ?_, fun b o e hx => ?_, fun b xs e => tups b xs (I.base.tups b xs e), fun b o xs e => frzs b o xs (I.base.frzs b o xs e), fun b ps e => ?_⟩, ?_, fun x c e => ?_, ?_, fun x c e => ?_, fun p hp => ?_, hok, I.len⟩
  · exact keep b o (neL b o e) hb (neC b o e hx) (I.base.keep b o e n hb hx) (I.base.free b o e n hx)
  · obtain ⟨sl, e1⟩ := I.base.slot b o e n hb hx
    obtain ⟨sl', e2⟩ := slot b _ (neL b o e) hb (neC b o e hx) e1 (I.base.free b o e n hx)
    exact ⟨sl', e2⟩
  · obtain ⟨o', e1⟩ := I.base.there b o e hx
    exact free b o' (neC b o e hx) e1 (I.base.free b o e n hx)
  · obtain ⟨o', e1⟩ := I.base.there b o e hx
    exact there b o' (neC b o e hx) e1
  · obtain ⟨m1, e1⟩ := I.base.tbls b ps e
    obtain ⟨m2, e2⟩ := tbls b _ e1
    exact ⟨m1 ++ m2, by rw [e2, Array.append_assoc]⟩
  · obtain ⟨m, hn, hl⟩ := I.loc
    refine ⟨m, ns m hn, fun i x v e1 e2 e3 => ?_⟩
    obtain ⟨u, r, l⟩ := hl i x v e1 e2 e3
    refine ⟨u, r, ?_⟩
    rcases l with l | ⟨k, c, e, z⟩
    · exact .inl l
    · exact .inr ⟨k, c, e, cellK x c e _ z⟩
  · obtain ⟨v, z⟩ := I.cell x c e
    exact ⟨v, cellK x c e v z⟩
  · obtain ⟨m, ⟨o, _, _, ho, _⟩, _⟩ := I.loc
    exact free _ o (fun z => (hch _ z).2.1 rfl) ho I.free
  · obtain ⟨v, o, ho, hd⟩ := I.cell x c e
    exact free c o (fun z => (hch c z).2.2.1 x c e rfl) ho (I.freeC x c e)
  · obtain ⟨e, n, ne, nf, d⟩ := I.pin p hp
    have nch : p.1 ∉ ch := fun z => (hch p.1 z).2.2.2 p hp rfl
    exact ⟨keep p.1 p.2 ne nf nch e n, free p.1 p.2 nch e n, ne, nf, d⟩
theorem Inv.un {t' : Nat} (I : Inv X pins σ H s) (u : Un X.fs [] H H' s.heap h') (hok : HOk X.prog X.w H' h') : Inv X pins σ H' { s with heap := h', toks := t' } := by
  obtain ⟨m, ⟨o, es, ep, ho, r⟩, _⟩ := id I.loc
  obtain ⟨sl, hL⟩ := u.any ho I.free (by simp)
  exact I.step (g' := s.gens) (d' := s.drawn) (ch := []) (fun _ z => nomatch z) (fun b o _ hb _ e n => u.keep b o e n hb (by simp)) (fun b o _ hb _ e n => u.slot b o e n hb (by simp)) (fun b o _ e n => u.free b o e n (by simp)) (fun b o _ e => u.there b o e (by simp)) u.tups u.frzs u.tbls (fun m' hm => by
    obtain ⟨o', es', ep', ho', r'⟩ := hm
    rw [ho] at ho'; cases ho'
    exact ⟨_, es', ep', hL, r'⟩) hok I.bare
theorem Inv.call {g' : Array GenState} {t' : Nat} {d' : Drawn} {ch : List Addr} (I : Inv X pins σ H s) (u : Un (frs X.stack) ch H H' s.heap h') (hok : HOk X.prog X.w H' h') (hg : AllBare g')
    (hch : ∀ b ∈ ch, (b ∈ X.ex ∨ X.s₀.heap.objs.size ≤ b) ∧ b ≠ X.env.locals ∧ (∀ x c, X.env.cells.lookup x = some c → c ≠ b) ∧ ∀ p ∈ X.pn ++ pins, p.1 ≠ b) :
    Inv X pins σ H' { s with heap := h', gens := g', drawn := d', toks := t' } := by
  obtain ⟨m, ⟨o, es, ep, ho, r⟩, _⟩ := id I.loc
  obtain ⟨sl, hL⟩ := u.any ho I.free fun z => (hch _ z).2.1 rfl
  exact I.step (ch := ch) hch (fun b o hL hb hc e n => u.keep b o e n (fun z => (List.mem_cons.mp (I.stkSub b z)).elim hL hb) hc) (fun b o _ _ hc e n => u.any e n hc) (fun b o hc e n => u.free b o e n hc) (fun b o hc e => u.there b o e hc) u.tups u.frzs u.tbls (fun m' hm => by
    obtain ⟨o', es', ep', ho', r'⟩ := hm
    rw [ho] at ho'; cases ho'
    exact ⟨_, es', ep', hL, r'⟩) hok hg
theorem Inv.turned {t' : Nat} {it : Addr} (I : Inv X pins σ H s) (k : ∀ b o, b ≠ it → s.heap.get? b = some o → h'.get? b = some o) (hn : H it = none) (hL : it ≠ X.env.locals)
    (h1 : it ∈ X.ex ∨ X.s₀.heap.objs.size ≤ it) (h2 : ∀ x c, X.env.cells.lookup x = some c → c ≠ it) (h3 : ∀ p ∈ X.pn ++ pins, p.1 ≠ it) : Inv X pins σ H { s with heap := h', toks := t' } := by
  have nit : ∀ b u, H b = some u → b ≠ it := fun b u e z => by rw [z, hn] at e; cases e
  refine I.step (g' := s.gens) (d' := s.drawn) (ch := [it]) (fun b hb => ?_) (fun b o _ _ hc e _ => k b o (fun z => hc (by simp [z])) e) (fun b o _ _ hc e _ => ⟨o.slots, k b o (fun z => hc (by simp [z])) e⟩) (fun _ _ _ _ n => n)
    (fun b o hc e => ⟨o, k b o (fun z => hc (by simp [z])) e⟩) (fun _ _ e => e) (fun _ _ _ e => e) (fun b ps e => ⟨#[], by rw [e]; simp⟩) (fun m hm => ?_) (fun b u e => ?_) I.bare
  · have e : b = it := by simpa using hb
    subst e
    exact ⟨h1, hL, h2, h3⟩
  · obtain ⟨o, es, ep, ho, r⟩ := hm
    exact ⟨o, es, ep, k _ o (Ne.symm hL) ho, r⟩
  · refine (I.hok b u e).stay (fun c v hc q => k c v ?_ q) (fun _ q => q) fun _ _ q => q
    rcases hc with z | z
    · rw [z]; exact nit b u e
    · exact nit c _ z
theorem Inv.tok (I : Inv X pins σ H s) (t : Nat) : Inv X pins σ H { s with toks := t } := I.un (h' := s.heap) (t' := t) Un.refl I.hok
theorem Inv.kept {t' : Nat} (I : Inv X pins σ H s) (k : ∀ b u, s.heap.get? b = some u → h'.get? b = some u) : Inv X pins σ H { s with heap := h', toks := t' } := I.un (Un.kept k) (I.hok.kept k)
theorem Inv.laid {a : Addr} {o : HO} {t' : Nat} (I : Inv X pins σ H s) (k : ∀ b u, s.heap.get? b = some u → h'.get? b = some u) (hp : s.heap.objs.size ≤ a) (new : ObjOk X.prog X.w (upd H a o) h' a o) :
    Inv X pins σ (upd H a o) { s with heap := h', toks := t' } := I.un (Un.laid k hp (I.hok.fresh hp)) (I.hok.laid k hp new)
theorem Inv.write {x e : Addr} {o : HO} {t' : Nat} (I : Inv X pins σ H s) (mu : Mut (H x)) (he : e = x ∨ H e = some (.own x)) (k : ∀ b u, b ≠ e → s.heap.get? b = some u → h'.get? b = some u) (heo : ∃ u, h'.get? e = some u)
    (new : ObjOk X.prog X.w (upd H x o) h' x o) : Inv X pins σ (upd H x o) { s with heap := h', toks := t' } := I.un (Un.write mu he k heo) (I.hok.write mu he k heo new)
theorem Inv.weak {σ' : List (Option V)} (I : Inv X pins σ H s) (hl : σ'.length = σ.length) (w : ∀ (i : Nat) v, σ'[i]? = some (some v) → σ[i]? = some (some v)) : Inv X pins σ' H s :=
  ⟨I.ok, I.os, I.bare, I.base, let ⟨m, hn, hl'⟩ := I.loc; ⟨m, hn, fun i x v e1 e2 e3 => hl' i x v e1 (w i v e2) e3⟩, I.cell, I.free, I.freeC, I.pin, I.hok, hl.trans I.len⟩
theorem Inv.pins_of {pins' : List (Addr × Obj)} (I : Inv X pins σ H s) (h : ∀ p ∈ pins', s.heap.get? p.1 = some p.2 ∧ H p.1 = none ∧ p.1 ≠ X.env.locals ∧ p.1 ∉ X.fs ∧ ∀ v, p.2.data ≠ .cell v) : Inv X pins' σ H s :=
  ⟨I.ok, I.os, I.bare, I.base, I.loc, I.cell, I.free, I.freeC, fun p hp => (List.mem_append.mp hp).elim (fun z => I.pin p (List.mem_append_left _ z)) (h p), I.hok, I.len⟩

theorem nodup_ix {N : List Str} (hN : N.Nodup) {i j : Nat} {x : Str} (a : N[i]? = some x) (b : N[j]? = some x) : i = j := by
  obtain ⟨h1, e1⟩ := List.getElem?_eq_some_iff.mp a
  obtain ⟨h2, e2⟩ := List.getElem?_eq_some_iff.mp b
  exact (List.getElem_inj hN).mp (e1.trans e2.symm)

theorem store_ok2 {M : Model} {A : Around} {E : Value → Shared → Prop} {i : Nat} {x : Str} {v : V} {u : Value} {Q : Unit → Shared → Prop} (I : Inv X pins σ H s) (hN : X.N.Nodup) (hi : X.N[i]? = some x) (hx : Loc X.env.scope x) (r : RelV v u)
    (h : ∀ s', Inv X pins (σ.set i (some v)) H s' → (∃ a, Heap.SameBut a s.heap s'.heap ∧ (a = X.env.locals ∨ X.env.cells.lookup x = some a)) → Q () s') (hf : X.fn x = true ∨ X.env.scope.names.lookup x = some .local := by first | exact .inl rfl | exact .inr rfl | assumption) : wpAny M A (storeName X.env x u) Q E s := by
  obtain ⟨m, hn, hl⟩ := id I.loc
  have hcls : (X.env.scope.kind == .class || (X.env.scope.kind == .module && X.env.locals != X.env.globals)) = false := by rw [I.ok.kind]; rfl
  have hiσ : i < σ.length := by rw [I.len]; exact (List.getElem?_eq_some_iff.mp hi).1
  have cne := I.cne
  have tracked : ∀ {a : Addr} {h' : Heap}, (∃ o, s.heap.get? a = some o ∧ H a = none) → Heap.SameBut a s.heap h' → HOk X.prog X.w H h' := fun {a h'} ha hs b ob e => by
    obtain ⟨_, _, hfree⟩ := ha
    refine (I.hok b ob e).stay (fun c w' hc q => (hs.2 c ?_).trans q) (fun _ q => q) fun _ _ q => q
    rintro rfl
    rcases hc with rfl | hc
    · rw [hfree] at e; cases e
    · rw [hfree] at hc; cases hc
  rcases hx with hk | hk
  · refine wpAny_storeName_local hk hn (fun h' hn' hs => ?_) hcls
    obtain ⟨oL, _, _, hoL, _⟩ := id hn
    refine h _ ⟨I.ok, I.os, I.bare, ⟨fun b o e n hb hx => ?_, fun b o e n hb hx => ?_, I.base.free, fun b o e hx => ?_, I.base.tups, I.base.frzs, I.base.tbls⟩, ⟨_, hn', fun j y v' e1 e2 e3 => ?_⟩, fun y c e => ?_, I.free, I.freeC, fun p hp => ?_, tracked ⟨oL, hoL, I.free⟩ hs, by simpa using I.len⟩ ⟨_, hs, .inl rfl⟩
    · exact (hs.2 b (Nat.ne_of_lt (Nat.lt_of_lt_of_le (Heap.lt_size e) I.ok.above))).trans (I.base.keep b o e n hb hx)
    · obtain ⟨sl, e1⟩ := I.base.slot b o e n hb hx
      exact ⟨sl, (hs.2 b (Nat.ne_of_lt (Nat.lt_of_lt_of_le (Heap.lt_size e) I.ok.above))).trans e1⟩
    · obtain ⟨o', e1⟩ := I.base.there b o e hx
      exact ⟨o', (hs.2 b (Nat.ne_of_lt (Nat.lt_of_lt_of_le (Heap.lt_size e) I.ok.above))).trans e1⟩
    · by_cases hj : j = i
      · subst hj
        rw [hi] at e1; cases e1
        rw [List.getElem?_set_self hiσ] at e2
        cases e2
        exact ⟨u, r, .inl ⟨hk, by simp⟩⟩
      · rw [List.getElem?_set_ne (Ne.symm hj)] at e2
        obtain ⟨u', r', q⟩ := hl j y v' e1 e2 e3
        refine ⟨u', r', ?_⟩
        rcases q with ⟨k, e⟩ | ⟨k, c, e, z⟩
        · refine .inl ⟨k, ?_⟩
          have : y ≠ x := fun e => hj (nodup_ix hN e1 (e ▸ hi))
          simp [this, e]
        · exact .inr ⟨k, c, e, z.sameBut hs (cne y c e)⟩
    · obtain ⟨w', z⟩ := I.cell y c e
      exact ⟨w', z.sameBut hs (cne y c e)⟩
    · obtain ⟨e, n, ne, nf, d⟩ := I.pin p hp
      exact ⟨(hs.2 p.1 ne).trans e, n, ne, nf, d⟩
  · have hfn : X.fn x = true := by
      rcases hf with z | z
      · exact z
      · rw [z] at hk; cases hk
    obtain ⟨c, hc⟩ := I.ok.has x (.inl hk)
    obtain ⟨w', z⟩ := I.cell x c hc
    refine wpAny_storeName_cell I.ok.kind hk hc z (fun h' hc' hs => ?_)
    obtain ⟨oc, hoc, hocd⟩ := id z
    refine h { s with heap := h' } ⟨I.ok, I.os, I.bare, ⟨fun b o e n hb hx => ?_, fun b o e n hb hx => ?_, I.base.free, fun b o e hx => ?_, I.base.tups, I.base.frzs, I.base.tbls⟩, ⟨m, hn.sameBut hs (Ne.symm (cne x c hc)), fun j y v' e1 e2 e3 => ?_⟩, fun y c' e => ?_, I.free, I.freeC, fun p hp => ?_, tracked ⟨oc, hoc, I.freeC x c hc⟩ hs, by simpa using I.len⟩ ⟨c, hs, .inr hc⟩
    · exact (hs.2 b (Nat.ne_of_lt (Nat.lt_of_lt_of_le (Heap.lt_size e) (I.ok.cab x c hfn hc)))).trans (I.base.keep b o e n hb hx)
    · obtain ⟨sl, e1⟩ := I.base.slot b o e n hb hx
      exact ⟨sl, (hs.2 b (Nat.ne_of_lt (Nat.lt_of_lt_of_le (Heap.lt_size e) (I.ok.cab x c hfn hc)))).trans e1⟩
    · obtain ⟨o', e1⟩ := I.base.there b o e hx
      exact ⟨o', (hs.2 b (Nat.ne_of_lt (Nat.lt_of_lt_of_le (Heap.lt_size e) (I.ok.cab x c hfn hc)))).trans e1⟩
    · by_cases hj : j = i
      · subst hj
        rw [hi] at e1; cases e1
        rw [List.getElem?_set_self hiσ] at e2
        cases e2
        exact ⟨u, r, .inr ⟨.inl hk, c, hc, hc'⟩⟩
      · rw [List.getElem?_set_ne (Ne.symm hj)] at e2
        obtain ⟨u', r', q⟩ := hl j y v' e1 e2 e3
        refine ⟨u', r', ?_⟩
        rcases q with q | ⟨k, c', e, z'⟩
        · exact .inl q
        · refine .inr ⟨k, c', e, z'.sameBut hs ?_⟩
          rintro rfl
          exact hj (nodup_ix hN e1 (I.ok.inj _ _ _ e hc ▸ hi))
    · by_cases hcc : c' = c
      · subst hcc; exact ⟨_, hc'⟩
      · obtain ⟨w2, z2⟩ := I.cell y c' e
        exact ⟨w2, z2.sameBut hs hcc⟩
    · obtain ⟨e, n, ne, nf, d⟩ := I.pin p hp
      refine ⟨(hs.2 p.1 ?_).trans e, n, ne, nf, d⟩
      intro q
      rw [q, hoc] at e
      have q' : oc = p.2 := Option.some.inj e
      exact d w' (by rw [← q']; exact hocd)
theorem store_ok {M : Model} {A : Around} {E : Value → Shared → Prop} {i : Nat} {x : Str} {v : V} {u : Value} {Q : Unit → Shared → Prop} (I : Inv X pins σ H s) (hN : X.N.Nodup) (hi : X.N[i]? = some x) (hx : Loc X.env.scope x) (r : RelV v u)
    (h : ∀ s', Inv X pins (σ.set i (some v)) H s' → Q () s') (hf : X.fn x = true ∨ X.env.scope.names.lookup x = some .local := by first | exact .inl rfl | exact .inr rfl | assumption) : wpAny M A (storeName X.env x u) Q E s :=
  store_ok2 I hN hi hx r (fun s' I' _ => h s' I') hf
theorem Inv.call' {s' : Shared} {ch : List Addr} (I : Inv X pins σ H s) (ho : s'.os = s.os) (u : Un (frs X.stack) ch H H' s.heap s'.heap) (hok : HOk X.prog X.w H' s'.heap) (hg : AllBare s'.gens)
    (hch : ∀ b ∈ ch, (b ∈ X.ex ∨ X.s₀.heap.objs.size ≤ b) ∧ b ≠ X.env.locals ∧ (∀ x c, X.env.cells.lookup x = some c → c ≠ b) ∧ ∀ p ∈ X.pn ++ pins, p.1 ≠ b) : Inv X pins σ H' s' := by
  obtain ⟨h', g', d', t', o'⟩ := s'
  have e : o' = s.os := ho
  subst e
  exact I.call (g' := g') (t' := t') (d' := d') u hok hg hch
end

abbrev XK := Value → Option Addr → Hp → Prop
abbrev St := List (Option V)
abbrev VK := V → Hp → Prop
abbrev TE := St → Hp → VK → Prop
abbrev TT := St → Hp → (Bool → Hp → Prop) → Prop
abbrev TA := St → Hp → (List V → Hp → Prop) → Prop
structure Ends where
  nx : St → Hp → Prop
  rt : VK
  bk : St → Hp → Prop := fun _ _ => False
  ct : St → Hp → Prop := fun _ _ => False
abbrev TS := Ends → St → Hp → Prop

def EP (X : Cx) (pins : List (Addr × Obj)) (σ : St) (Q : VK) (u : Value) (s' : Shared) : Prop := ∃ v H', Inv X pins σ H' s' ∧ RelV v u ∧ Q v H'
def TP (X : Cx) (pins : List (Addr × Obj)) (σ : St) (Q : Bool → Hp → Prop) (b : Bool) (s' : Shared) : Prop := ∃ H', Inv X pins σ H' s' ∧ Q b H'
def AP (X : Cx) (pins : List (Addr × Obj)) (σ : St) (Q : List V → Hp → Prop) (us : List Value) (s' : Shared) : Prop := ∃ vs H', Inv X pins σ H' s' ∧ Vals vs us ∧ Q vs H'
def SP (X : Cx) (pins : List (Addr × Obj)) (D : Ends) (f : Flow) (s' : Shared) : Prop :=
  match f with
  | .next => ∃ σ' H', Inv X pins σ' H' s' ∧ D.nx σ' H'
  | .brk => ∃ σ' H', Inv X pins σ' H' s' ∧ D.bk σ' H'
  | .cont => ∃ σ' H', Inv X pins σ' H' s' ∧ D.ct σ' H'
  | .ret u => ∃ v σ' H', Inv X pins σ' H' s' ∧ RelV v u ∧ D.rt v H'

def PE (X : Cx) (e : Expr) (t : TE) : Prop :=
  ∀ (pins : List (Addr × Obj)) (s : Shared) (σ : St) (H : Hp) (Q : VK), Inv X pins σ H s → t σ H Q → wpAny (model X.prog X.w) X.A (eval e X.env) (EP X pins σ Q) X.xe s
def PT (X : Cx) (e : Expr) (t : TT) : Prop :=
  ∀ (pins : List (Addr × Obj)) (s : Shared) (σ : St) (H : Hp) (Q : Bool → Hp → Prop), Inv X pins σ H s → t σ H Q → wpAny (model X.prog X.w) X.A (isTrue e X.env (eval e X.env)) (TP X pins σ Q) X.xe s
def PW (X : Cx) (e : Expr) (t : TT) : Prop :=
  ∀ (whole : Sem Value) (pins : List (Addr × Obj)) (s : Shared) (σ : St) (H : Hp) (Q : Bool → Hp → Prop), Inv X pins σ H s → t σ H Q → wpAny (model X.prog X.w) X.A (isTrue e X.env whole) (TP X pins σ Q) X.xe s
theorem PW.pt {X : Cx} {e : Expr} {t : TT} (h : PW X e t) : PT X e t := h _
def PA (X : Cx) (es : List Expr) (t : TA) : Prop :=
  ∀ (pos : Pos) (pins : List (Addr × Obj)) (s : Shared) (σ : St) (H : Hp) (Q : List V → Hp → Prop), Inv X pins σ H s → t σ H Q → wpAny (model X.prog X.w) X.A (spliced (backTo pos (starEach es X.env))) (AP X pins σ Q) X.xe s
def PS (X : Cx) (st : Stmt) (t : TS) : Prop :=
  ∀ (pins : List (Addr × Obj)) (s : Shared) (σ : St) (H : Hp) (D : Ends), Inv X pins σ H s → t D σ H → wpAny (model X.prog X.w) X.A (exec st X.env) (SP X pins D) X.xe s
def PSs (X : Cx) (st : List Stmt) (t : TS) : Prop :=
  ∀ (pins : List (Addr × Obj)) (s : Shared) (σ : St) (H : Hp) (D : Ends), Inv X pins σ H s → t D σ H → wpAny (model X.prog X.w) X.A (execs st X.env) (SP X pins D) X.xe s
theorem thn {α : Type} {t : Sem α} {Q Q' : α → Shared → Prop} {M : Model} {A : Around} {E : Value → Shared → Prop} {s : Shared} (h : wpAny M A t Q E s) (hQ : ∀ a s, Q a s → Q' a s) : wpAny M A t Q' E s := wpAny_mono h hQ fun _ _ x => x
end L2

namespace L2
open PySem PySem.Spec PyProof.Rows
section
variable {X : Cx}

def tVar (i : Nat) : TE := fun σ H Q => ∃ v, σ[i]? = some (some v) ∧ Q v H
def tC (v : V) : TE := fun _ H Q => Q v H
theorem pe_var {i : Nat} {x : Str} {pos : Pos} (hN : X.N[i]? = some x) (hv : Vis X.env.scope x) (hd : (x == ("__debug__" : Str)) = false := by decide) (hcd : (x == ("__classdict__" : Str)) = false := by decide) : PE X (.Name x pos) (tVar i) := by
  intro pins s σ H Q I h
  obtain ⟨v, e, h⟩ := h
  obtain ⟨m, hn, hl⟩ := I.loc
  obtain ⟨u, r, l⟩ := hl i x v hN e hv
  have fin : EP X pins σ Q u s := ⟨v, H, I, r, h⟩
  rcases l with ⟨hk, hm⟩ | ⟨hk, c, hc, hcell⟩
  · exact wpAny_Name (wpAny_loadName_local I.ok.kind hk hn hm fin) hd
  · rcases hk with hk | hk
    · exact wpAny_Name (wpAny_loadName_cell I.ok.kind hk hc hcell fin) hd
    · exact wpAny_Name (wpAny_loadName_free I.ok.kind hk hc hcell fin hcd) hd
theorem pe_int {i j pos} : PE X (.Constant (.int i) j pos) (tC (.int i)) := fun _ _ _ H _ I h => wpAny_Constant_int ⟨.int i, H, I.tok _, ⟨_, rfl⟩, h⟩
theorem pe_bl {b j pos} : PE X (.Constant (.bool b) j pos) (tC (.bl b)) := fun _ _ _ H _ I h => Constant_bool ⟨.bl b, H, I, rfl, h⟩
theorem pe_non {j pos} : PE X (.Constant .none j pos) (tC .non) := fun _ _ _ H _ I h => Constant_none ⟨.non, H, I, rfl, h⟩
theorem pe_str {x j pos} : PE X (.Constant (.str x) j pos) (tC (.str x)) := fun _ _ _ H _ I h => Calls.Constant_str ⟨.str x, H, I.tok _, ⟨_, rfl⟩, h⟩

def Gl (X : Cx) (x : Str) : Prop := X.env.kindOf x = some .globalImplicit
theorem ld_glob {E : Value → Shared → Prop} {pins : List (Addr × Obj)} {s : Shared} {σ : St} {H : Hp} {x : Str} {u : Value} {pos : Pos} {Q : Value → Shared → Prop} (I : Inv X pins σ H s) (hg : Gl X x) (hm : X.mg x = some u) (h : Q u s)
    (hd : (x == ("__debug__" : Str)) = false := by decide) : wpAny (model X.prog X.w) X.A (eval (.Name x pos) X.env) Q E s :=
  Calls.Name_function_global I.ok.kind hg (Calls.loadGlobal_global (by rw [I.ok.glob]; exact I.mod.glob.keeps I.bk) hm h) hd
theorem ld_blt {E : Value → Shared → Prop} {pins : List (Addr × Obj)} {s : Shared} {σ : St} {H : Hp} {x : Str} {u : Value} {pos : Pos} {Q : Value → Shared → Prop} (I : Inv X pins σ H s) (hg : Gl X x) (hm : X.mg x = none) (hv : bootBuiltins x = some u) (h : Q u s)
    (hn : x ≠ "__name__" := by decide) (hd : (x == ("__debug__" : Str)) = false := by decide) : wpAny (model X.prog X.w) X.A (eval (.Name x pos) X.env) Q E s := by
  obtain ⟨mb, h1, h2⟩ := I.mod.blt
  exact Calls.Name_function_global I.ok.kind hg (Calls.loadGlobal_builtin (by rw [I.ok.glob]; exact I.mod.glob.keeps I.bk) hm (by rw [I.ok.blt]; exact h1.keeps I.bk) ((h2 x hn).trans hv) h) hd
theorem pe_glob {x : Str} {v : V} {u : Value} {pos : Pos} (hg : Gl X x) (hm : X.mg x = some u) (r : RelV v u) (hd : (x == ("__debug__" : Str)) = false := by decide) : PE X (.Name x pos) (tC v) :=
  fun _ _ _ H _ I h => ld_glob I hg hm ⟨v, H, I, r, h⟩ hd
theorem pe_bltn {x : Str} {v : V} {u : Value} {pos : Pos} (hg : Gl X x) (hm : X.mg x = none) (hv : bootBuiltins x = some u) (r : RelV v u) (hn : x ≠ "__name__" := by decide) (hd : (x == ("__debug__" : Str)) = false := by decide) : PE X (.Name x pos) (tC v) :=
  fun _ _ _ H _ I h => ld_blt I hg hm hv ⟨v, H, I, r, h⟩ hn hd

variable {a b : Expr} {ta tb : TE} {pos : Pos}
def tB (t : TE) : TT := fun σ H Q => t σ H fun x H1 => ∃ c, x = .bl c ∧ Q c H1
theorem pt_val {e : Expr} {t : TE} (h : PE X e t) (he : ∀ whole, isTrue e X.env whole = (do let v ← whole; standAt e.pos; holding [v] (truthy v)) := by intro _; rfl) : PT X e (tB t) := by
  intro pins s σ H Q I hw
  refine isTrue_plain (thn (h pins s σ H _ I hw) fun v s1 ⟨x, H1, I1, r1, q1⟩ => ?_) (he _)
  obtain ⟨d, rfl, q⟩ := q1
  cases r1
  exact wpAny_truthy_bool ⟨H1, I1, q⟩

variable {tA tB' : TT} {rest : List Expr}
def tAnd (t u : TT) : TT := fun σ H Q => t σ H fun c H1 => if c = true then u σ H1 Q else Q false H1
def tOr (t u : TT) : TT := fun σ H Q => t σ H fun c H1 => if c = true then Q true H1 else u σ H1 Q
def tNot (t : TT) : TT := fun σ H Q => t σ H fun c H1 => Q (!c) H1
theorem pw_and1 (ha : PT X a tA) : PW X (.BoolOp .And [a] pos) tA := by
  intro wh pins s σ H Q I h
  refine isTrue_and (thn (ha pins s σ H Q I h) fun c s1 e => ?_)
  cases c with
  | true => exact isTrue_and_nil e
  | false => exact e
theorem pw_or1 (ha : PT X a tA) : PW X (.BoolOp .Or [a] pos) tA := by
  intro wh pins s σ H Q I h
  refine isTrue_or (thn (ha pins s σ H Q I h) fun c s1 e => ?_)
  cases c with
  | false => exact isTrue_or_nil e
  | true => exact e
theorem pw_and (ha : PT X a tA) (hb : PW X (.BoolOp .And (b :: rest) pos) tB') : PW X (.BoolOp .And (a :: b :: rest) pos) (tAnd tA tB') := by
  intro wh pins s σ H Q I h
  refine isTrue_and (thn (ha pins s σ H _ I h) fun c s1 ⟨H1, I1, q1⟩ => ?_)
  cases c with
  | true => exact hb wh pins s1 σ H1 Q I1 q1
  | false => exact ⟨H1, I1, q1⟩
theorem pw_or (ha : PT X a tA) (hb : PW X (.BoolOp .Or (b :: rest) pos) tB') : PW X (.BoolOp .Or (a :: b :: rest) pos) (tOr tA tB') := by
  intro wh pins s σ H Q I h
  refine isTrue_or (thn (ha pins s σ H _ I h) fun c s1 ⟨H1, I1, q1⟩ => ?_)
  cases c with
  | true => exact ⟨H1, I1, q1⟩
  | false => exact hb wh pins s1 σ H1 Q I1 q1
theorem pt_not (ha : PT X a tA) : PT X (.UnaryOp .Not a pos) (tNot tA) := by
  intro pins s σ H Q I h
  exact isTrue_not (ha pins s σ H (fun c H1 => Q (!c) H1) I h)
def tAndV (ta tb : TE) : TE := fun σ H Q => ta σ H fun x H1 => ∃ c, x = .bl c ∧ if c = true then tb σ H1 Q else Q (.bl false) H1
def tNotV (ta : TE) : TE := fun σ H Q => ta σ H fun x H1 => ∃ c, x = .bl c ∧ Q (.bl (!c)) H1
theorem pe_one {op} {t : TE} (h : PE X a t) : PE X (.BoolOp op [a] pos) t := fun pins s σ H Q I hw => BoolOp_one (h pins s σ H Q I hw)
theorem pe_and (ha : PE X a ta) (hb : PE X (.BoolOp .And (b :: rest) pos) tb) : PE X (.BoolOp .And (a :: b :: rest) pos) (tAndV ta tb) := by
  intro pins s σ H Q I h
  refine BoolOp_and (thn (ha pins s σ H _ I h) fun v s1 ⟨x, H1, I1, r1, q1⟩ => ?_)
  obtain ⟨c, rfl, q1⟩ := q1
  cases r1
  refine wpAny_truthy_bool ?_
  cases c with
  | true => exact hb pins s1 σ H1 Q I1 q1
  | false => exact ⟨.bl false, H1, I1, rfl, q1⟩
theorem pe_not (ha : PE X a ta) : PE X (.UnaryOp .Not a pos) (tNotV ta) := by
  intro pins s σ H Q I h
  refine UnaryOp_ (thn (ha pins s σ H _ I h) fun v s1 ⟨x, H1, I1, r1, q1⟩ => ?_)
  obtain ⟨c, rfl, q1⟩ := q1
  cases r1
  exact not_of (wpAny_truthy_bool ⟨.bl (!c), H1, I1, rfl, q1⟩)
end
end L2

namespace L2
open PySem PySem.Spec PyProof.Rows

def SqL (K : PySem.W.Frag) (H : Hp) (a : Addr) (xs : List V) : Prop :=
  Rd H a (.lst xs) ∨
    ∃ (o : Obj) (its : Array Value) (n : Nat), K.lookup a = some o ∧ o.cls = .type "list" ∧ o.dict = none ∧ o.data = .seq its n ∧ its.size ≤ sizeLine ∧ Vals xs its.toList
def SqT (K : PySem.W.Frag) (H : Hp) (a : Addr) (xs : List V) : Prop :=
  Rd H a (.tup xs) ∨
    ∃ (o : Obj) (its : Array Value) (n : Nat), K.lookup a = some o ∧ o.cls = .type "tuple" ∧ o.data = .seq its n ∧ its.size ≤ sizeLine ∧ Vals xs its.toList
def absV : Value → Option V
  | .none => some .non
  | .bool b => some (.bl b)
  | .int i _ => some (.int i)
  | .str x _ => some (.str x)
  | .bytes b _ => some (.byt b)
  | .float b _ => some (.flt b)
  | .ref a => some (.ref a)
  | .type n => some (.ty n)
  | _ => none
theorem RelV.abs {x : V} {u : Value} (r : RelV x u) : absV u = some x := by
  cases x with
  | non => cases r; rfl
  | bl _ => cases r; rfl
  | int _ => obtain ⟨t, rfl⟩ := r; rfl
  | str _ => obtain ⟨t, rfl⟩ := r; rfl
  | byt _ => obtain ⟨t, rfl⟩ := r; rfl
  | flt _ => obtain ⟨t, rfl⟩ := r; rfl
  | ref _ => cases r; rfl
  | ty _ => cases r; rfl
theorem RelV.inj {x y : V} {u : Value} (r : RelV x u) (q : RelV y u) : x = y := Option.some.inj (r.abs.symm.trans q.abs)
theorem Vals.inj : ∀ {xs ys : List V} {us : List Value}, Vals xs us → Vals ys us → xs = ys
  | _, _, _, .nil, .nil => rfl
  | _, _, _, .cons r t, .cons r' t' => by rw [r.inj r', Vals.inj t t']
section
variable {X : Cx} {pins : List (Addr × Obj)} {σ : St} {H : Hp} {s : Shared} {a : Addr} {xs ys : List V}
theorem SqL.of {K : PySem.W.Frag} (h : H a = some (.lst xs)) : SqL K H a xs := .inl (.inl h)
theorem SqT.of {K : PySem.W.Frag} (h : H a = some (.tup xs)) : SqT K H a xs := .inl (.inl h)
theorem Inv.list (I : Inv X pins σ H s) (h : SqL X.K H a xs) : ∃ its : List Value, Vals xs its ∧ PlainL s.heap a its.toArray ∧ xs.length ≤ sizeLine := by
  rcases h with h | ⟨o, its, n, hk, hc, hd, hs, hz, r⟩
  · obtain ⟨z, its, n, r, e⟩ := h.ok I.hok
    exact ⟨its, r, ⟨_, n, e, rfl, rfl, rfl⟩, z⟩
  · refine ⟨its.toList, r, ⟨o, n, I.kIn a o hk, hc, hd, by simpa using hs⟩, ?_⟩
    have e := r.length
    simp only [Array.length_toList] at e
    omega
theorem Inv.tuple (I : Inv X pins σ H s) (h : SqT X.K H a xs) : ∃ its : List Value, Vals xs its ∧ IsTup s.heap a its.toArray ∧ xs.length ≤ sizeLine := by
  rcases h with h | ⟨o, its, n, hk, hc, hs, hz, r⟩
  · obtain ⟨z, its, r, p⟩ := h.ok I.hok
    exact ⟨its, r, p, z⟩
  · refine ⟨its.toList, r, ⟨o, I.kIn a o hk, hc, n, by simpa using hs⟩, ?_⟩
    have e := r.length
    simp only [Array.length_toList] at e
    omega
theorem Inv.list_inj (I : Inv X pins σ H s) (h : SqL X.K H a xs) (h' : SqL X.K H a ys) : xs = ys := by
  obtain ⟨its, r, ⟨o, n, e, _, _, d⟩, _⟩ := I.list h
  obtain ⟨its', r', ⟨o', n', e', _, _, d'⟩, _⟩ := I.list h'
  rw [e] at e'; cases e'
  rw [d] at d'
  injection d' with d1 _
  have : its = its' := by simpa using congrArg Array.toList d1
  subst this
  exact r.inj r'
theorem Inv.tuple_inj (I : Inv X pins σ H s) (h : SqT X.K H a xs) (h' : SqT X.K H a ys) : xs = ys := by
  obtain ⟨its, r, ⟨o, e, _, n, d⟩, _⟩ := I.tuple h
  obtain ⟨its', r', ⟨o', e', _, n', d'⟩, _⟩ := I.tuple h'
  rw [e] at e'; cases e'
  rw [d] at d'
  injection d' with d1 _
  have : its = its' := by simpa using congrArg Array.toList d1
  subst this
  exact r.inj r'
end

abbrev Cx.wish (X : Cx) (E : Value → Shared → Prop) : Cx := { X with xe := E }
abbrev Cx.nox (X : Cx) : Cx := X.wish fun _ _ => False
theorem Cx.Ok.wish {X : Cx} (ok : X.Ok) (E : Value → Shared → Prop) : (X.wish E).Ok :=
  ⟨ok.mod, ok.kind, ok.glob, ok.blt, ok.above, ok.inj, ok.has, ok.cab, ok.hd, ok.frames, ok.stk, ok.exf, ok.bs, ok.bsz, ok.noex, ok.exfs, ok.funs, ok.frf⟩
theorem Cx.Ok.unwish {X : Cx} {E : Value → Shared → Prop} (ok : (X.wish E).Ok) : X.Ok :=
  ⟨ok.mod, ok.kind, ok.glob, ok.blt, ok.above, ok.inj, ok.has, ok.cab, ok.hd, ok.frames, ok.stk, ok.exf, ok.bs, ok.bsz, ok.noex, ok.exfs, ok.funs, ok.frf⟩
section
variable {X : Cx} {pins : List (Addr × Obj)} {σ : St} {H : Hp} {s : Shared} {E : Value → Shared → Prop}
theorem Inv.wish (I : Inv X pins σ H s) (E : Value → Shared → Prop) : Inv (X.wish E) pins σ H s := ⟨I.ok.wish E, I.os, I.bare, I.base, I.loc, I.cell, I.free, I.freeC, I.pin, I.hok, I.len⟩
theorem Inv.unwish (I : Inv (X.wish E) pins σ H s) : Inv X pins σ H s := ⟨I.ok.unwish, I.os, I.bare, I.base, I.loc, I.cell, I.free, I.freeC, I.pin, I.hok, I.len⟩
theorem SP.unwish {D : Ends} {f : Flow} {s' : Shared} (h : SP (X.wish E) pins D f s') : SP X pins D f s' := by
  cases f with
  | next => obtain ⟨σ', H', I, q⟩ := h; exact ⟨σ', H', I.unwish, q⟩
  | brk => obtain ⟨σ', H', I, q⟩ := h; exact ⟨σ', H', I.unwish, q⟩
  | cont => obtain ⟨σ', H', I, q⟩ := h; exact ⟨σ', H', I.unwish, q⟩
  | ret u => obtain ⟨v, σ', H', I, r, q⟩ := h; exact ⟨v, σ', H', I.unwish, r, q⟩
theorem PE.nox {e : Expr} {t : TE} (h : PE X.nox e t) : PE X e t := fun pins s σ H Q I hw =>
  wpAny_mono (h pins s σ H Q (I.wish _) hw) (fun _ _ ⟨v, H', I', r, q⟩ => ⟨v, H', I'.unwish, r, q⟩) fun _ _ z => False.elim z
theorem PT.nox {e : Expr} {t : TT} (h : PT X.nox e t) : PT X e t := fun pins s σ H Q I hw =>
  wpAny_mono (h pins s σ H Q (I.wish _) hw) (fun _ _ ⟨H', I', q⟩ => ⟨H', I'.unwish, q⟩) fun _ _ z => False.elim z
theorem PSs.nox {st : List Stmt} {t : TS} (h : PSs X.nox st t) : PSs X st t := fun pins s σ H D I hw =>
  wpAny_mono (h pins s σ H D (I.wish _) hw) (fun _ _ q => q.unwish) fun _ _ z => False.elim z
end

section
variable {X : Cx} {st : Stmt} {rest : List Stmt} {t u : TS} {e : Expr} {te : TE} {pos : Pos}
def tNext : TS := fun D σ H => D.nx σ H
def tSeq (t u : TS) : TS := fun D σ H => t { D with nx := u D } σ H
theorem pss_nil : PSs X [] tNext := fun _ _ σ H _ I h => wpAny_execs_nil ⟨σ, H, I, h⟩
theorem pss_cons (h1 : PS X st t) (h2 : PSs X rest u) : PSs X (st :: rest) (tSeq t u) := by
  intro pins s σ H D I h
  refine wpAny_execs_cons (thn (h1 pins s σ H { D with nx := u D } I h) fun f s1 q => ?_)
  cases f with
  | next =>
    obtain ⟨σ', H', I', q⟩ := q
    exact h2 pins s1 σ' H' D I' q
  | ret v => exact q
  | brk => exact q
  | cont => exact q
theorem pss_one (h1 : PS X st t) : PSs X [st] t := by
  intro pins s σ H D I h
  refine wpAny_execs_cons (thn (h1 pins s σ H D I h) fun f s1 q => ?_)
  cases f with
  | next => exact wpAny_execs_nil q
  | ret v => exact q
  | brk => exact q
  | cont => exact q
theorem Inv.quiet {pins : List (Addr × Obj)} {σ : St} {H : Hp} {s : Shared} (I : Inv X pins σ H s) : interactive X.env = false := by simp [interactive, I.ok.kind]
def tDrop (te : TE) : TS := fun D σ H => te σ H fun _ H1 => D.nx σ H1
theorem ps_expr (he : PE X e te) (hs : swapsWith e none pos.line X.env = pure false := by rfl) : PS X (.Expr e pos) (tDrop te) := by
  intro pins s σ H D I h
  exact wpAny_Expr_any (thn (he pins s σ H _ I h) fun v s1 ⟨x, H1, I1, r1, q1⟩ => ⟨σ, H1, I1, q1⟩) I.quiet hs
def tRet (te : TE) : TS := fun D σ H => te σ H D.rt
theorem ps_ret (he : PE X e te) : PS X (.Return (some e) pos) (tRet te) := by
  intro pins s σ H D I h
  exact wpAny_Return_some (thn (he pins s σ H _ I h) fun v s1 ⟨x, H1, I1, r1, q1⟩ => ⟨x, σ, H1, I1, r1, q1⟩)
def tIfS (c : TT) (t u : TS) : TS := fun D σ H => c σ H fun b H1 => if b = true then t D σ H1 else u D σ H1
theorem ps_if {c : Expr} {a b : List Stmt} {tc : TT} (hc : PT X c tc) (ha : PSs X a t) (hb : PSs X b u) : PS X (.If c a b pos) (tIfS tc t u) := by
  intro pins s σ H D I h
  refine wpAny_If (thn (hc pins s σ H _ I h) fun d s1 ⟨H1, I1, q1⟩ => ?_)
  cases d with
  | true => exact ha pins s1 σ H1 D I1 q1
  | false => exact hb pins s1 σ H1 D I1 q1
def tNever : TS := fun _ _ _ => False
theorem pss_never {sts : List Stmt} : PSs X sts tNever := fun _ _ _ _ _ _ h => h.elim
end

abbrev TG := V → St → Hp → (St → Hp → Prop) → Prop
abbrev TGs := List V → St → Hp → (St → Hp → Prop) → Prop
def PG (X : Cx) (target : Expr) (t : TG) : Prop :=
  ∀ (pins : List (Addr × Obj)) (s : Shared) (σ : St) (H : Hp) (v : V) (u : Value) (Q : St → Hp → Prop), Inv X pins σ H s → RelV v u → t v σ H Q →
    wpAny (model X.prog X.w) X.A (assign target X.env u) (fun _ s' => ∃ σ' H', Inv X pins σ' H' s' ∧ Q σ' H') X.xe s
def PGs (X : Cx) (ts : List Expr) (t : TGs) : Prop :=
  ∀ (pins : List (Addr × Obj)) (s : Shared) (σ : St) (H : Hp) (vs : List V) (us : List Value) (Q : St → Hp → Prop), Inv X pins σ H s → Vals vs us → t vs σ H Q →
    wpAny (model X.prog X.w) X.A (assignInOrder ((assignEach ts X.env).map (·.2)) us) (fun _ s' => ∃ σ' H', Inv X pins σ' H' s' ∧ Q σ' H') X.xe s
abbrev TSet := V → V → V → Hp → (Hp → Prop) → Prop
def PSet (X : Cx) (t : TSet) : Prop :=
  ∀ (pins : List (Addr × Obj)) (s : Shared) (σ : St) (H : Hp) (o i v : V) (ov iv u : Value) (Q : Hp → Prop), Inv X pins σ H s → RelV o ov → RelV i iv → RelV v u → t o i v H Q →
    wpAny (model X.prog X.w) X.A (setItem ov iv u) (fun _ s' => ∃ H', Inv X pins σ H' s' ∧ Q H') X.xe s
section
variable {X : Cx} {pos : Pos}
def gName (i : Nat) : TG := fun v σ H Q => Q (σ.set i (some v)) H
theorem pg_name {i : Nat} {x : Str} (hN : X.N.Nodup) (hi : X.N[i]? = some x) (hx : Loc X.env.scope x) (hf : X.fn x = true ∨ X.env.scope.names.lookup x = some .local := by first | exact .inl rfl | exact .inr rfl | assumption) : PG X (.Name x pos) (gName i) := by
  intro pins s σ H v u Q I r h
  exact wpAny_assign_Name (store_ok I hN hi hx r (fun s' I' => ⟨_, H, I', h⟩) hf)
def gNil : TGs := fun vs σ H Q => vs = [] ∧ Q σ H
def gCons (t : TG) (u : TGs) : TGs := fun vs σ H Q => ∃ v r, vs = v :: r ∧ t v σ H fun σ' H' => u r σ' H' Q
theorem pgs_nil : PGs X [] gNil := by
  intro pins s σ H vs us Q I r h
  obtain ⟨e, h⟩ := h
  subst e
  cases r
  exact assignInOrder_nil ⟨σ, H, I, h⟩
theorem pgs_cons {e : Expr} {es : List Expr} {t : TG} {u : TGs} (h1 : PG X e t) (h2 : PGs X es u)
    (hs : (assignEach (e :: es) X.env).map (·.2) = assign e X.env :: (assignEach es X.env).map (·.2) := by rfl) : PGs X (e :: es) (gCons t u) := by
  intro pins s σ H vs us Q I r h
  obtain ⟨v, vr, e1, h⟩ := h
  subst e1
  cases r with
  | cons r rr =>
    rw [hs]
    refine assignInOrder_cons (thn (h1 pins s σ H _ _ _ I r h) fun _ s1 ⟨σ1, H1, I1, q1⟩ => ?_)
    exact h2 pins s1 σ1 H1 _ _ Q I1 rr q1
def gTup (K : PySem.W.Frag) (n : Nat) (t : TGs) : TG := fun v σ H Q => ∃ a xs, v = .ref a ∧ SqT K H a xs ∧ xs.length = n ∧ t xs σ H Q
theorem pg_tup {es : List Expr} {k : Nat} {t : TGs} {n : Nat} (hc : X.calm = true) (h : PGs X es t)
    (hn : (assignEach es X.env).length = n := by rfl) (hst : (assignEach es X.env).findIdx? (·.1) = none := by rfl) : PG X (.Tuple es k pos) (gTup X.K n t) := by
  intro pins s σ H v u Q I r hw
  obtain ⟨a, xs, e1, hq, hl, hw⟩ := hw
  subst e1
  cases r
  obtain ⟨its, rv, ht, hz⟩ := I.tuple hq
  refine assign_Tuple_tuple (I.ok.hd hc) ht (by simp [hn, ← hl, rv.length]) hst fun h' hx => ?_
  have I1 : Inv X pins σ H { s with heap := h' } := I.kept (t' := s.toks) fun b o e => hx b o (Nat.ne_of_lt (Heap.lt_size e)) e
  exact h pins _ σ H xs _ Q I1 (by simpa using rv) hw
def gSub (to ti : TE) (t : TSet) : TG := fun v σ H Q => to σ H fun o H1 => ti σ H1 fun i H2 => t o i v H2 fun H3 => Q σ H3
theorem pg_sub {o i : Expr} {to ti : TE} {t : TSet} (ho : PE X o to) (hi : PE X i ti) (hs : PSet X t)
    (ha : ∀ v, assign (.Subscript o i pos) X.env v = (do
      let ov ← holding [v] (eval o X.env)
      let iv ← holding [v, ov] (eval i X.env)
      standAt pos
      holding [v, ov, iv] (setItem ov iv v)
      release [v, ov, iv] []) := by intro _; rfl) : PG X (.Subscript o i pos) (gSub to ti t) := by
  intro pins s σ H v u Q I r h
  rw [ha]
  refine wpAny_bind (wpAny_holding (thn (ho pins s σ H _ I h) fun ov s1 ⟨x, H1, I1, r1, q1⟩ => ?_))
  refine wpAny_bind (wpAny_holding (thn (hi pins s1 σ H1 _ I1 q1) fun iv s2 ⟨y, H2, I2, r2, q2⟩ => ?_))
  refine wpAny_bind (wpAny_standAt (wpAny_bind (wpAny_holding (thn (hs pins s2 σ H2 x y v ov iv u _ I2 r1 r2 r q2) fun _ s3 ⟨H3, I3, q3⟩ => ?_))))
  exact wpAny_release ⟨σ, H3, I3, q3⟩
def tAsg (te : TE) (g : TG) : TS := fun D σ H => te σ H fun x H1 => g x σ H1 D.nx
theorem ps_asg {tg e : Expr} {te : TE} {g : TG} (he : PE X e te) (hg : PG X tg g) (hs : swapsWithSole [tg] e pos.line X.env = pure false := by rfl) (hw : swappedStores [tg] e X.env = pure none := by rfl)
    (h1 : (assignEach [tg] X.env).map (·.2) = [assign tg X.env] := by rfl) : PS X (.Assign [tg] e pos) (tAsg te g) := by
  intro pins s σ H D I h
  refine wpAny_Assign_stores (thn (he pins s σ H _ I h) fun v s1 ⟨x, H1, I1, r1, q1⟩ => ?_) hs hw
  rw [h1]
  exact thn (hg pins s1 σ H1 x v _ I1 r1 q1) fun _ s2 q => q
theorem ps_set {i : Nat} {x : Str} {e : Expr} {te : TE} {pos' : Pos} (hN : X.N.Nodup) (hi : X.N[i]? = some x) (hx : Loc X.env.scope x) (he : PE X e te) (hs : swapsWith e (some (.Name x pos')) pos.line X.env = pure false := by rfl) (hf : X.fn x = true ∨ X.env.scope.names.lookup x = some .local := by first | exact .inl rfl | exact .inr rfl | assumption) :
    PS X (.Assign [.Name x pos'] e pos) (tAsg te (gName i)) := by
  intro pins s σ H D I h
  refine wpAny_Assign_Name (thn (he pins s σ H _ I h) fun v s1 ⟨y, H1, I1, r1, q1⟩ => ?_) hs
  exact store_ok I1 hN hi hx r1 (fun s2 I2 => ⟨_, H1, I2, q1⟩) hf
end

section
variable {X : Cx} {pos : Pos}
end

structure It where
  go : Nat → Hp → Prop
  yld : Nat → Hp → V → Hp → Prop
  stop : Nat → Hp → Prop
def FpOk (X : Cx) (pins : List (Addr × Obj)) (H : Hp) (b : Addr) : Prop :=
  H b = none ∧ b ≠ X.env.locals ∧ b ∉ X.fs ∧ (b ∈ X.ex ∨ X.s₀.heap.objs.size ≤ b) ∧ (∀ x c, X.env.cells.lookup x = some c → c ≠ b) ∧ ∀ p ∈ X.pn ++ pins, p.1 ≠ b
theorem Inv.fpOk {X : Cx} {pins : List (Addr × Obj)} {σ : St} {H H' : Hp} {s : Shared} {b : Addr} (I : Inv X pins σ H s) (hb : s.heap.objs.size ≤ b) (hn : H' b = none) : FpOk X pins H' b := by
  refine ⟨hn, Nat.ne_of_gt (Nat.lt_of_lt_of_le I.lt hb), I.nofs hb, .inr (Nat.le_trans I.sz hb), fun x c e z => ?_, fun p hp z => ?_⟩
  · obtain ⟨v, q⟩ := I.cell x c e
    exact absurd (Nat.lt_of_lt_of_le q.lt (by rw [z]; exact hb)) (Nat.lt_irrefl _)
  · exact absurd (Nat.lt_of_lt_of_le (Heap.lt_size (I.pin p hp).1) (by rw [z]; exact hb)) (Nat.lt_irrefl _)
structure Turn (P : Program) (w : World) (K : PySem.W.Frag) (tg : Expr) (J : It) (fp : List Addr) (it : Addr) (tn : Nat → Heap → Prop) : Prop where
  mem : it ∈ fp
  obj : ∀ i h, tn i h → ∀ b ∈ fp, ∃ o, h.get? b = some o ∧ ∀ v, o.data ≠ .cell v
  keep : ∀ i h h', tn i h → (∀ b ∈ fp, ∀ o, h.get? b = some o → h'.get? b = some o) → tn i h'
  item : ∀ (X : Cx), X.prog = P → X.w = w → X.K = K → X.calm = true → ∀ (i : Nat) (pins : List (Addr × Obj)) (s : Shared) (σ : St) (H : Hp) (E : Value → Shared → Prop), Inv X pins σ H s → (∀ b ∈ fp, FpOk X pins H b) → tn i s.heap → J.go i H →
    wpAny (model P w) X.A (pyNext (.ref it)) (fun r s1 => ∃ u, r = some u ∧
      wpAny (model P w) X.A (letOwnedTupleGo tg (.ref it) u) (fun _ s2 => ∃ x H', Inv X pins σ H' s2 ∧ RelV x u ∧ J.yld i H x H' ∧ tn (i + 1) s2.heap ∧ ∀ b ∈ fp, H' b = none) E s1) E s
  done : ∀ (X : Cx), X.prog = P → X.w = w → X.K = K → X.calm = true → ∀ (i : Nat) (pins : List (Addr × Obj)) (s : Shared) (σ : St) (H : Hp) (E : Value → Shared → Prop), Inv X pins σ H s → (∀ b ∈ fp, FpOk X pins H b) → tn i s.heap → J.stop i H →
    wpAny (model P w) X.A (pyNext (.ref it)) (fun r s1 => r = none ∧ Inv X pins σ H s1) E s
  self : ∀ (A : Around) (i : Nat) (s : Shared) (Q : Value → Shared → Prop) (E : Value → Shared → Prop), tn i s.heap → Q (.ref it) s → wpAny (model P w) A (pyIter (.ref it)) Q E s
abbrev TI := St → Hp → (It → Hp → Prop) → Prop
def PIE (X : Cx) (pins : List (Addr × Obj)) (σ : St) (tg : Expr) (R : It → Hp → Prop) (itv : Value) (s2 : Shared) : Prop :=
  ∃ (it : Addr) (fp : List Addr) (tn : Nat → Heap → Prop) (J : It) (H' : Hp), itv = .ref it ∧ Inv X pins σ H' s2 ∧ Turn X.prog X.w X.K tg J fp it tn ∧ tn 0 s2.heap ∧ (∀ b ∈ fp, FpOk X pins H' b) ∧ R J H'
def PI (X : Cx) (tg iter : Expr) (wi : TI) : Prop :=
  ∀ (pins : List (Addr × Obj)) (s : Shared) (σ : St) (H : Hp) (R : It → Hp → Prop), Inv X pins σ H s → wi σ H R →
    wpAny (model X.prog X.w) X.A (eval iter X.env) (fun v s1 => wpAny (model X.prog X.w) X.A (pyIter v) (PIE X pins σ tg R) X.xe s1) X.xe s

theorem go_of {M : Model} {A : Around} {E : Value → Shared → Prop} {s : Shared} {tg : Expr} {it : Addr} {u : Value} {o : Obj} {n : String} {vs : Array Value} {Q : Unit → Shared → Prop} (ho : s.heap.get? it = some o) (hc : o.cls = .type n) (hd : o.data = .fields vs)
    (hn : ["enumerate", "zip", "dict_itemiterator", "dict_reverseitemiterator", "odict_iterator", "itertools.zip_longest", "itertools.pairwise"].contains n = false) (hQ : Q () s) : wpAny M A (letOwnedTupleGo tg (.ref it) u) Q E s := by
  unfold letOwnedTupleGo
  cases tg <;> first
    | exact wpAny_pure hQ
    | (cases u <;> first
        | exact wpAny_pure hQ
        | (refine wpAny_bind (wpAny_load ho ?_)
           rw [hc, hd]
           show wpAny M A (if (["enumerate", "zip", "dict_itemiterator", "dict_reverseitemiterator", "odict_iterator", "itertools.zip_longest", "itertools.pairwise"].contains n && vs[0]? == some (rawInt _)) = true then _ else _) Q E s
           rw [if_neg (by intro h; rw [hn, Bool.false_and] at h; cases h)]
           exact wpAny_pure hQ))

def Itl (K : PySem.W.Frag) (a : Addr) : It :=
  ⟨fun i H => ∃ xs x, SqL K H a xs ∧ xs[i]? = some x, fun i H x H' => H' = H ∧ ∀ xs, SqL K H a xs → xs[i]? = some x, fun i H => ∃ xs, SqL K H a xs ∧ xs.length ≤ i⟩
def Itt (K : PySem.W.Frag) (a : Addr) : It :=
  ⟨fun i H => ∃ xs x, SqT K H a xs ∧ xs[i]? = some x, fun i H x H' => H' = H ∧ ∀ xs, SqT K H a xs → xs[i]? = some x, fun i H => ∃ xs, SqT K H a xs ∧ xs.length ≤ i⟩
def Itr (lo : Int) (n : Nat) : It := ⟨fun i _ => i < n, fun i H x H' => H' = H ∧ x = .int (lo + i), fun i _ => n ≤ i⟩
theorem turn_list {P : Program} {w : World} {K : PySem.W.Frag} {tg : Expr} (a it : Addr) : Turn P w K tg (Itl K a) [it] it (fun i h => h.IsListIter it a i) where
  mem := by simp
  obj := fun i h st b hb => by
    have e : b = it := by simpa using hb
    subst e
    obtain ⟨o, e, c, d⟩ := st
    exact ⟨o, e, fun v z => by rw [d] at z; cases z⟩
  keep := fun i h h' st k => st.at fun o e => k it (by simp) o e
  item := by
    intro X hP hw hK hc i pins s σ H E I hf st hg
    subst hP hw hK
    obtain ⟨xs, x, hq, hx⟩ := hg
    obtain ⟨its, rv, p, hz⟩ := I.list hq
    obtain ⟨u, hu, ru⟩ := rv.get hx
    obtain ⟨f0, f1, f2, f3, f4, f5⟩ := hf it (by simp)
    refine wpAny_pyNext_list_item st p.isList (x := u) (by simpa using hu) fun h' st' sb => ?_
    have I1 : Inv X pins σ H { s with heap := h' } := I.turned (t' := s.toks) (fun b o hb e => (sb.2 b hb).trans e) f0 f1 f3 f4 f5
    obtain ⟨o, e, c, d⟩ := id st'
    exact ⟨u, rfl, go_of (s := { s with heap := h' }) e c d (by decide) ⟨x, H, I1, ru, ⟨rfl, fun ys hy => by rw [I.list_inj hy hq]; exact hx⟩, st', fun b hb => (hf b hb).1⟩⟩
  done := by
    intro X hP hw hK hc i pins s σ H E I hf st hg
    subst hP hw hK
    obtain ⟨xs, hq, hx⟩ := hg
    obtain ⟨its, rv, p, hz⟩ := I.list hq
    obtain ⟨f0, f1, f2, f3, f4, f5⟩ := hf it (by simp)
    have hl := rv.length
    exact wpAny_pyNext_list_end (I.ok.hd hc) st p.isList (by simp; omega) fun h' eb => ⟨rfl, I.turned (t' := s.toks) (fun b o hb e => eb b o hb e) f0 f1 f3 f4 f5⟩
  self := fun _ _ _ _ _ st h => wpAny_pyIter_listiter st h
theorem turn_tuple {P : Program} {w : World} {K : PySem.W.Frag} {tg : Expr} (a it : Addr) : Turn P w K tg (Itt K a) [it] it (fun i h => h.IsTupleIter it a i) where
  mem := by simp
  obj := fun i h st b hb => by
    have e : b = it := by simpa using hb
    subst e
    obtain ⟨o, e, c, d⟩ := st
    exact ⟨o, e, fun v z => by rw [d] at z; cases z⟩
  keep := fun i h h' st k => st.at fun o e => k it (by simp) o e
  item := by
    intro X hP hw hK hc i pins s σ H E I hf st hg
    subst hP hw hK
    obtain ⟨xs, x, hq, hx⟩ := hg
    obtain ⟨its, rv, p, hz⟩ := I.tuple hq
    obtain ⟨u, hu, ru⟩ := rv.get hx
    obtain ⟨f0, f1, f2, f3, f4, f5⟩ := hf it (by simp)
    refine wpAny_pyNext_tuple_item st (show s.heap.IsTuple a its.toArray from p) (x := u) (by simpa using hu) fun h' st' sb => ?_
    have I1 : Inv X pins σ H { s with heap := h' } := I.turned (t' := s.toks) (fun b o hb e => (sb.2 b hb).trans e) f0 f1 f3 f4 f5
    obtain ⟨o, e, c, d⟩ := id st'
    exact ⟨u, rfl, go_of (s := { s with heap := h' }) e c d (by decide) ⟨x, H, I1, ru, ⟨rfl, fun ys hy => by rw [I.tuple_inj hy hq]; exact hx⟩, st', fun b hb => (hf b hb).1⟩⟩
  done := by
    intro X hP hw hK hc i pins s σ H E I hf st hg
    subst hP hw hK
    obtain ⟨xs, hq, hx⟩ := hg
    obtain ⟨its, rv, p, hz⟩ := I.tuple hq
    obtain ⟨f0, f1, f2, f3, f4, f5⟩ := hf it (by simp)
    have hl := rv.length
    exact wpAny_pyNext_tuple_end (I.ok.hd hc) st (show s.heap.IsTuple a its.toArray from p) (by simp; omega) fun h' eb => ⟨rfl, I.turned (t' := s.toks) (fun b o hb e => eb b o hb e) f0 f1 f3 f4 f5⟩
  self := fun _ _ _ _ _ st h => wpAny_pyIter_tupleiter st h
theorem turn_range {P : Program} {w : World} {K : PySem.W.Frag} {tg : Expr} (it : Addr) (lo : Int) (n : Nat) : Turn P w K tg (Itr lo n) [it] it (fun i h => IsRangeIter h it (lo + (i : Nat) * 1) ((n : Int) - (i : Nat)) 1) where
  mem := by simp
  obj := fun i h st b hb => by
    have e : b = it := by simpa using hb
    subst e
    exact ⟨_, st, fun v z => by
      have z' : Data.fields _ = Data.cell v := z
      cases z'⟩
  keep := fun i h h' st k => k it (by simp) _ st
  item := by
    intro X hP hw hK hc i pins s σ H E I hf st hg
    subst hP hw hK
    obtain ⟨f0, f1, f2, f3, f4, f5⟩ := hf it (by simp)
    have W := Walks.range (prog := X.prog) (w := X.w) (I.ok.hd hc) it lo 1 n
    refine W.item i s _ _ hg st fun v h' tk hv st' kk => ?_
    obtain ⟨t, rfl⟩ := hv
    have I1 : Inv X pins σ H { s with heap := h', toks := tk } := I.turned (fun b o hb e => kk b o (by simpa using hb) e) f0 f1 f3 f4 f5
    refine ⟨_, rfl, go_of (s := { s with heap := h', toks := tk }) (n := "range_iterator") st' rfl rfl (by decide) ⟨.int (lo + i), H, I1, ⟨t, ?_⟩, ⟨rfl, rfl⟩, st', fun b hb => (hf b hb).1⟩⟩
    rw [Int.mul_one]
  done := by
    intro X hP hw hK hc i pins s σ H E I hf st hg
    subst hP hw hK
    obtain ⟨f0, f1, f2, f3, f4, f5⟩ := hf it (by simp)
    exact wpAny_pyNext_range_end (I.ok.hd hc) st (by have : n ≤ i := hg; omega) fun h' eb => ⟨rfl, I.turned (t' := s.toks) (fun b o hb e => eb b o hb e) f0 f1 f3 f4 f5⟩
  self := fun _ _ _ _ _ st h => wpAny_pyIter_rangeiter st h
end L2

namespace L2
open PySem PySem.Spec PyProof.Rows
section
variable {X : Cx} {tg : Expr}
def iList (K : PySem.W.Frag) (tl : TE) : TI := fun σ H R => tl σ H fun x H1 => ∃ a, x = .ref a ∧ (∃ xs, SqL K H1 a xs) ∧ R (Itl K a) H1
def iTup (K : PySem.W.Frag) (tl : TE) : TI := fun σ H R => tl σ H fun x H1 => ∃ a, x = .ref a ∧ (∃ xs, SqT K H1 a xs) ∧ R (Itt K a) H1
theorem pi_list {l : Expr} {tl : TE} (hl : PE X l tl) : PI X tg l (iList X.K tl) := by
  intro pins s σ H R I h
  refine thn (hl pins s σ H _ I h) fun v s1 ⟨x, H1, I1, r1, q1⟩ => ?_
  obtain ⟨a, e, ⟨xs, hq⟩, q⟩ := q1
  subst e
  cases r1
  obtain ⟨its, rv, p, hz⟩ := I1.list hq
  refine wpAny_pyIter_list p.isList ?_
  refine ⟨s1.heap.objs.size, [s1.heap.objs.size], _, _, H1, rfl, I1.kept (t' := s1.toks) fun b o e => Heap.get?_push_of_some _ e, turn_list a _, ⟨_, Heap.get?_push_size _ rfl, rfl, rfl⟩, fun b hb => ?_, q⟩
  have e : b = s1.heap.objs.size := by simpa using hb
  subst e
  exact I1.fpOk (Nat.le_refl _) (I1.hok.fresh (Nat.le_refl _))
theorem pi_tup {l : Expr} {tl : TE} (hl : PE X l tl) : PI X tg l (iTup X.K tl) := by
  intro pins s σ H R I h
  refine thn (hl pins s σ H _ I h) fun v s1 ⟨x, H1, I1, r1, q1⟩ => ?_
  obtain ⟨a, e, ⟨xs, hq⟩, q⟩ := q1
  subst e
  cases r1
  obtain ⟨its, rv, p, hz⟩ := I1.tuple hq
  refine wpAny_pyIter_tuple (show s1.heap.IsTuple a its.toArray from p) ?_
  refine ⟨s1.heap.objs.size, [s1.heap.objs.size], _, _, H1, rfl, I1.kept (t' := s1.toks) fun b o e => Heap.get?_push_of_some _ e, turn_tuple a _, ⟨_, Heap.get?_push_size _ rfl, rfl, rfl⟩, fun b hb => ?_, q⟩
  have e : b = s1.heap.objs.size := by simpa using hb
  subst e
  exact I1.fpOk (Nat.le_refl _) (I1.hok.fresh (Nat.le_refl _))
theorem range_it {pins : List (Addr × Obj)} {σ : St} {H : Hp} {s : Shared} {R : It → Hp → Prop} {E : Value → Shared → Prop} {lo hi : Int} {t u v : Tok} {tk : Nat} (I : Inv X pins σ H s) (h1 : -(2 ^ 62) ≤ lo) (h2 : lo < 2 ^ 62) (h3 : -(2 ^ 62) ≤ hi) (h4 : hi < 2 ^ 62)
    (q : R (Itr lo (hi - lo).toNat) H) : wpAny (model X.prog X.w) X.A (pyIter (.ref s.heap.objs.size)) (PIE X pins σ tg R) E { s with heap := s.heap.push { cls := .type "range", data := .fields #[.int lo t, .int hi u, .int 1 v] }, toks := tk } := by
  refine wpAny_pyIter_range (IsRange.new ..) (small_one h1 h2 h3 h4) ?_
  have I1 : Inv X pins σ H { s with heap := s.heap.push { cls := .type "range", data := .fields #[.int lo t, .int hi u, .int 1 v] }, toks := tk } := I.kept fun b o e => Heap.get?_push_of_some _ e
  refine ⟨(s.heap.push { cls := .type "range", data := .fields #[.int lo t, .int hi u, .int 1 v] }).objs.size, [(s.heap.push { cls := .type "range", data := .fields #[.int lo t, .int hi u, .int 1 v] }).objs.size], _, _, H, rfl,
    I1.kept (t' := tk) fun b o e => Heap.get?_push_of_some _ e, turn_range _ lo (hi - lo).toNat, ?_, fun b hb => ?_, q⟩
  · have e1 : lo + ((0 : Nat) : Int) * 1 = lo := by simp
    have e2 : (((hi - lo).toNat : Nat) : Int) - ((0 : Nat) : Int) = Builtin.Range.rangeSize lo hi 1 := by rw [rangeSize_one]; split <;> omega
    show IsRangeIter _ _ (lo + ((0 : Nat) : Int) * 1) ((((hi - lo).toNat : Nat) : Int) - ((0 : Nat) : Int)) 1
    rw [e1, e2]
    exact Heap.get?_push_size _ rfl
  · have e : b = (s.heap.push { cls := .type "range", data := .fields #[.int lo t, .int hi u, .int 1 v] }).objs.size := by simpa using hb
    subst e
    exact I1.fpOk (Nat.le_refl _) (I1.hok.fresh (Nat.le_refl _))
def iRng1 (ta : TA) : TI := fun σ H R => ta σ H fun vs H1 => ∃ j : Int, vs = [.int j] ∧ -(2 ^ 62) ≤ j ∧ j < 2 ^ 62 ∧ R (Itr 0 j.toNat) H1
theorem pi_range1 {a : Expr} {ta : TA} {p pos : Pos} (hg : Gl X "range") (hm : X.mg "range" = none) (ha : PA X [a] ta) (hs : starEach [a] X.env = [(false, eval a X.env)] := by rfl) : PI X tg (.Call (.Name "range" p) [a] [] pos) (iRng1 ta) := by
  intro pins s σ H R I h
  refine Call_ (ld_blt I hg hm boot_range (PyProof.Rows.callWith_type1 (thn (ha pos pins s σ H _ I h) fun us s1 ⟨vs, H1, I1, r1, q1⟩ => ?_) hs rfl))
  obtain ⟨j, e, q1, q2, q⟩ := q1
  subst e
  cases r1 with
  | cons r rr =>
    cases rr
    obtain ⟨t, rfl⟩ := r
    exact call_range_1 (range_it I1 (by omega) (by omega) q1 q2 (by simpa using q))
def tFor (wi : TI) (g : TG) (tb : TS) : TS := fun D σ H => wi σ H fun J H1 => ∃ W : Nat → Nat → St → Hp → Prop, (∃ m, W 0 m σ H1) ∧ ∀ i m σ H, W i m σ H →
  (J.stop i H ∧ D.nx σ H) ∨ (J.go i H ∧ ∃ N : St → Hp → Prop, (∀ σ' H', N σ' H' → ∃ m', m' < m ∧ W (i + 1) m' σ' H') ∧ ∀ x H', J.yld i H x H' → g x σ H' fun σ2 H2 => tb { D with nx := N, ct := N, bk := D.nx } σ2 H2)
def pinsAt (fp : List Addr) (h : Heap) : List (Addr × Obj) := fp.filterMap fun b => (h.get? b).map fun o => (b, o)
theorem mem_pinsAt {fp : List Addr} {h : Heap} {b : Addr} {o : Obj} (hb : b ∈ fp) (e : h.get? b = some o) : (b, o) ∈ pinsAt fp h := List.mem_filterMap.mpr ⟨b, hb, by rw [e]; rfl⟩
theorem of_pinsAt {fp : List Addr} {h : Heap} {p : Addr × Obj} (hp : p ∈ pinsAt fp h) : p.1 ∈ fp ∧ h.get? p.1 = some p.2 := by
  obtain ⟨b, hb, e⟩ := List.mem_filterMap.mp hp
  cases q : h.get? b with
  | none => rw [q] at e; cases e
  | some o =>
    rw [q] at e
    have e' : (b, o) = p := Option.some.inj e
    subst e'
    exact ⟨hb, q⟩
theorem Inv.pinned {pins : List (Addr × Obj)} {σ : St} {H : Hp} {s : Shared} {fp : List Addr} (I : Inv X pins σ H s) (hf : ∀ b ∈ fp, FpOk X pins H b) (ho : ∀ b ∈ fp, ∃ o, s.heap.get? b = some o ∧ ∀ v, o.data ≠ .cell v) : Inv X (pins ++ pinsAt fp s.heap) σ H s :=
  I.pins_of fun p hp => (List.mem_append.mp hp).elim (fun z => I.pin p (List.mem_append_right _ z)) fun z => by
    obtain ⟨hb, e⟩ := of_pinsAt z
    obtain ⟨f0, f1, f2, _⟩ := hf p.1 hb
    obtain ⟨o, e', d⟩ := ho p.1 hb
    rw [e] at e'; cases e'
    exact ⟨e, f0, f1, f2, d⟩
theorem Inv.unpinned {pins pl : List (Addr × Obj)} {σ : St} {H : Hp} {s : Shared} (I : Inv X (pins ++ pl) σ H s) : Inv X pins σ H s := I.pins_of fun p hp => I.pin p (List.mem_append_right _ (List.mem_append_left _ hp))
theorem ps_for {iter : Expr} {body : List Stmt} {wi : TI} {g : TG} {tb : TS} {pos : Pos} (hp : PassesOwn (model X.prog X.w) X.A X.env X.xe) (hc : X.calm = true) (hi : PI X tg iter wi) (hg : PG X tg g) (hb : PSs X body tb)
    (hs : ∀ x, foldedSetIterable iter X.env x = pure x := by intro _; rfl) : PS X (.For tg iter body [] pos) (tFor wi g tb) := by
  intro pins s σ H D I h
  refine wpAny_For (thn (hi pins s σ H _ I h) fun v s1 h1 => thn h1 fun itv s2 h2 => ?_) hs
  obtain ⟨it, fp, tn, J, H2, e, I2, T, st2, f2, W, ⟨m0, w0⟩, turn⟩ := h2
  subst e
  -- what stays true of the iterator's objects through the loop
  have stat : ∀ {H' : Hp}, (∀ b ∈ fp, H' b = none) → ∀ b ∈ fp, FpOk X pins H' b := fun hn b hb => ⟨hn b hb, (f2 b hb).2⟩
  refine codeAny_forLoop_any (fun n s' => ∃ i σ' H', Inv X pins σ' H' s' ∧ tn i s'.heap ∧ (∀ b ∈ fp, H' b = none) ∧ W i n σ' H') ?_ m0 ⟨0, σ, H2, I2, st2, fun b hb => (f2 b hb).1, w0⟩
  rintro n s3 ⟨i, σ3, H3, I3, st3, fr3, w3⟩
  rcases turn i n σ3 H3 w3 with ⟨stop, qn⟩ | ⟨go, N, hN, step⟩
  · refine wpAny_passesOwn hp (thn (T.done X rfl rfl rfl hc i pins s3 σ3 H3 X.xe I3 (stat fr3) st3 stop) fun r s4 ⟨hr, I4⟩ => ?_)
    subst hr
    exact wpAny_execs_nil ⟨σ3, H3, I4, qn⟩
  · refine wpAny_passesOwn hp (thn (T.item X rfl rfl rfl hc i pins s3 σ3 H3 X.xe I3 (stat fr3) st3 go) fun r s4 ⟨u, hr, h4⟩ => ?_)
    subst hr
    refine wpAny_passesOwn hp (thn h4 fun _ s5 ⟨x, H5, I5, r5, y5, st5, fr5⟩ => ?_)
    have I5' := I5.pinned (stat fr5) (T.obj _ _ st5)
    refine wpAny_passesOwn hp (thn (hg _ s5 σ3 H5 x u _ I5' r5 (step x H5 y5)) fun _ s6 ⟨σ6, H6, I6, q6⟩ => ?_)
    refine wpAny_passesOwn hp (thn (hb _ s6 σ6 H6 _ I6 q6) fun f s7 q7 => ?_)
    have again : ∀ {σ7 : St} {H7 : Hp}, Inv X (pins ++ pinsAt fp s5.heap) σ7 H7 s7 → N σ7 H7 → ∃ m, m < n ∧ ∃ i σ' H', Inv X pins σ' H' s7 ∧ tn i s7.heap ∧ (∀ b ∈ fp, H' b = none) ∧ W i m σ' H' := fun {σ7 H7} I7 n7 => by
      obtain ⟨m', hm, w7⟩ := hN σ7 H7 n7
      refine ⟨m', hm, i + 1, σ7, H7, I7.unpinned, T.keep _ _ _ st5 fun b hb o e => (I7.pin (b, o) (List.mem_append_right _ (List.mem_append_right _ (mem_pinsAt hb e)))).1, fun b hb => ?_, w7⟩
      obtain ⟨o, e, d⟩ := T.obj _ _ st5 b hb
      exact (I7.pin (b, o) (List.mem_append_right _ (List.mem_append_right _ (mem_pinsAt hb e)))).2.1
    cases f with
    | next => obtain ⟨σ7, H7, I7, n7⟩ := q7; exact again I7 n7
    | cont => obtain ⟨σ7, H7, I7, n7⟩ := q7; exact again I7 n7
    | brk => obtain ⟨σ7, H7, I7, q7⟩ := q7; exact ⟨σ7, H7, I7.unpinned, q7⟩
    | ret v => obtain ⟨x7, σ7, H7, I7, r7, q7⟩ := q7; exact ⟨x7, σ7, H7, I7.unpinned, r7, q7⟩
end

theorem for_list {K : PySem.W.Frag} {a : Addr} {xs : List V} {g : TG} {tb : TS} {D : Ends} {σ : St} {H : Hp} (Pv : Nat → St → Hp → Prop) (h0 : Pv 0 σ H) (hl : ∀ i σ H, i ≤ xs.length → Pv i σ H → SqL K H a xs)
    (hs : ∀ i x σ H, xs[i]? = some x → Pv i σ H → g x σ H fun σ2 H2 => tb { D with nx := Pv (i + 1), ct := Pv (i + 1), bk := D.nx } σ2 H2) (hd : ∀ σ H, Pv xs.length σ H → D.nx σ H) :
    ∃ W : Nat → Nat → St → Hp → Prop, (∃ m, W 0 m σ H) ∧ ∀ i m σ H, W i m σ H →
      ((Itl K a).stop i H ∧ D.nx σ H) ∨ ((Itl K a).go i H ∧ ∃ N : St → Hp → Prop, (∀ σ' H', N σ' H' → ∃ m', m' < m ∧ W (i + 1) m' σ' H') ∧ ∀ x H', (Itl K a).yld i H x H' → g x σ H' fun σ2 H2 => tb { D with nx := N, ct := N, bk := D.nx } σ2 H2) := by
  refine ⟨fun i m σ H => m = xs.length - i ∧ i ≤ xs.length ∧ Pv i σ H, ⟨xs.length, by simp, Nat.zero_le _, h0⟩, ?_⟩
  rintro i m σ H ⟨rfl, hi, p⟩
  have q := hl i σ H hi p
  by_cases hlt : i < xs.length
  · refine .inr ⟨⟨xs, xs[i], q, by simp [hlt]⟩, Pv (i + 1), fun σ' H' p' => ⟨xs.length - (i + 1), by omega, rfl, hlt, p'⟩, fun x H' y => ?_⟩
    obtain ⟨e, y⟩ := y
    subst e
    exact hs i x σ _ (y xs q) p
  · have e : i = xs.length := by omega
    subst e
    exact .inl ⟨⟨xs, q, Nat.le_refl _⟩, hd σ H p⟩
theorem for_tup {K : PySem.W.Frag} {a : Addr} {xs : List V} {g : TG} {tb : TS} {D : Ends} {σ : St} {H : Hp} (Pv : Nat → St → Hp → Prop) (h0 : Pv 0 σ H) (hl : ∀ i σ H, i ≤ xs.length → Pv i σ H → SqT K H a xs)
    (hs : ∀ i x σ H, xs[i]? = some x → Pv i σ H → g x σ H fun σ2 H2 => tb { D with nx := Pv (i + 1), ct := Pv (i + 1), bk := D.nx } σ2 H2) (hd : ∀ σ H, Pv xs.length σ H → D.nx σ H) :
    ∃ W : Nat → Nat → St → Hp → Prop, (∃ m, W 0 m σ H) ∧ ∀ i m σ H, W i m σ H →
      ((Itt K a).stop i H ∧ D.nx σ H) ∨ ((Itt K a).go i H ∧ ∃ N : St → Hp → Prop, (∀ σ' H', N σ' H' → ∃ m', m' < m ∧ W (i + 1) m' σ' H') ∧ ∀ x H', (Itt K a).yld i H x H' → g x σ H' fun σ2 H2 => tb { D with nx := N, ct := N, bk := D.nx } σ2 H2) := by
  refine ⟨fun i m σ H => m = xs.length - i ∧ i ≤ xs.length ∧ Pv i σ H, ⟨xs.length, by simp, Nat.zero_le _, h0⟩, ?_⟩
  rintro i m σ H ⟨rfl, hi, p⟩
  have q := hl i σ H hi p
  by_cases hlt : i < xs.length
  · refine .inr ⟨⟨xs, xs[i], q, by simp [hlt]⟩, Pv (i + 1), fun σ' H' p' => ⟨xs.length - (i + 1), by omega, rfl, hlt, p'⟩, fun x H' y => ?_⟩
    obtain ⟨e, y⟩ := y
    subst e
    exact hs i x σ _ (y xs q) p
  · have e : i = xs.length := by omega
    subst e
    exact .inl ⟨⟨xs, q, Nat.le_refl _⟩, hd σ H p⟩
theorem for_range {lo : Int} {n : Nat} {g : TG} {tb : TS} {D : Ends} {σ : St} {H : Hp} (Pv : Nat → St → Hp → Prop) (h0 : Pv 0 σ H)
    (hs : ∀ i σ H, i < n → Pv i σ H → g (.int (lo + i)) σ H fun σ2 H2 => tb { D with nx := Pv (i + 1), ct := Pv (i + 1), bk := D.nx } σ2 H2) (hd : ∀ σ H, Pv n σ H → D.nx σ H) :
    ∃ W : Nat → Nat → St → Hp → Prop, (∃ m, W 0 m σ H) ∧ ∀ i m σ H, W i m σ H →
      ((Itr lo n).stop i H ∧ D.nx σ H) ∨ ((Itr lo n).go i H ∧ ∃ N : St → Hp → Prop, (∀ σ' H', N σ' H' → ∃ m', m' < m ∧ W (i + 1) m' σ' H') ∧ ∀ x H', (Itr lo n).yld i H x H' → g x σ H' fun σ2 H2 => tb { D with nx := N, ct := N, bk := D.nx } σ2 H2) := by
  refine ⟨fun i m σ H => m = n - i ∧ i ≤ n ∧ Pv i σ H, ⟨n, by simp, Nat.zero_le _, h0⟩, ?_⟩
  rintro i m σ H ⟨rfl, hi, p⟩
  by_cases hlt : i < n
  · refine .inr ⟨hlt, Pv (i + 1), fun σ' H' p' => ⟨n - (i + 1), by omega, rfl, hlt, p'⟩, fun x H' y => ?_⟩
    obtain ⟨e, y⟩ := y
    subst e y
    exact hs i σ _ hlt p
  · have e : i = n := by omega
    subst e
    exact .inl ⟨Nat.le_refl _, hd σ H p⟩
end L2

namespace L2
open PySem PySem.Spec PyProof.Rows

abbrev R2 := V → V → Hp → VK → Prop
def OpR (X : Cx) (f : Value → Value → Sem Value) (r : R2) : Prop :=
  ∀ (pins : List (Addr × Obj)) (s : Shared) (σ : St) (H : Hp) (x y : V) (v u : Value) (Q : VK), Inv X pins σ H s → RelV x v → RelV y u → r x y H Q →
    wpAny (model X.prog X.w) X.A (f v u) (EP X pins σ Q) X.xe s
def UnR (X : Cx) (f : Value → Sem Value) (r : V → Hp → VK → Prop) : Prop :=
  ∀ (pins : List (Addr × Obj)) (s : Shared) (σ : St) (H : Hp) (x : V) (v : Value) (Q : VK), Inv X pins σ H s → RelV x v → r x H Q →
    wpAny (model X.prog X.w) X.A (f v) (EP X pins σ Q) X.xe s
def CallR (X : Cx) (f : Value) (r : List V → Hp → VK → Prop) : Prop :=
  ∀ (pins : List (Addr × Obj)) (s : Shared) (σ : St) (H : Hp) (xs : List V) (us : List Value) (Q : VK), Inv X pins σ H s → Vals xs us → r xs H Q →
    wpAny (model X.prog X.w) X.A (call f us) (EP X pins σ Q) X.xe s
def tOp (r : R2) (ta tb : TE) : TE := fun σ H Q => ta σ H fun x H1 => tb σ H1 fun y H2 => r x y H2 Q
def tUn (r : V → Hp → VK → Prop) (ta : TE) : TE := fun σ H Q => ta σ H fun x H1 => r x H1 Q
def rI (C : Int → Int → Prop) (g : Int → Int → V) : R2 := fun x y H Q => ∃ i j, x = .int i ∧ y = .int j ∧ C i j ∧ Q (g i j) H
def rI0 (g : Int → Int → V) : R2 := fun x y H Q => ∃ i j, x = .int i ∧ y = .int j ∧ Q (g i j) H
def rU (g : Int → V) : V → Hp → VK → Prop := fun x H Q => ∃ i, x = .int i ∧ Q (g i) H

section
variable {X : Cx} {a b c : Expr} {ta tb tc : TE} {pos : Pos}

theorem binT (ha : PE X a ta) (hb : PE X b tb) {pins : List (Addr × Obj)} {s : Shared} {σ : St} {H : Hp} {R : V → V → Hp → Prop} (I : Inv X pins σ H s)
    (h : ta σ H fun x H1 => tb σ H1 fun y H2 => R x y H2) {Q : Value → Shared → Prop} {f : Value → Value → Sem Value}
    (hf : ∀ v u s2 x y H2, Inv X pins σ H2 s2 → RelV x v → RelV y u → R x y H2 → wpAny (model X.prog X.w) X.A (f v u) Q X.xe s2) :
    wpAny (model X.prog X.w) X.A (eval a X.env) (fun v s₁ => wpAny (model X.prog X.w) X.A (eval b X.env) (fun u s₂ => wpAny (model X.prog X.w) X.A (f v u) Q X.xe s₂) X.xe s₁) X.xe s := by
  refine thn (ha pins s σ H _ I h) fun v s1 ⟨x, H1, I1, r1, q1⟩ => ?_
  refine thn (hb pins s1 σ H1 _ I1 q1) fun u s2 ⟨y, H2, I2, r2, q2⟩ => ?_
  exact hf v u s2 x y H2 I2 r1 r2 q2

theorem pe_op {op : Operator} {r : R2} (ho : OpR X (binaryOp op) r) (ha : PE X a ta) (hb : PE X b tb) : PE X (.BinOp a op b pos) (tOp r ta tb) := by
  intro pins s σ H Q I h
  exact wpAny_BinOp (binT ha hb I h fun v u s2 x y H2 I2 rx ry q => ho pins s2 σ H2 x y v u Q I2 rx ry q)
theorem pe_un {op : UnaryOp} {r : V → Hp → VK → Prop} (ho : UnR X (unaryOp op) r) (ha : PE X a ta) : PE X (.UnaryOp op a pos) (tUn r ta) := by
  intro pins s σ H Q I h
  exact UnaryOp_ (thn (ha pins s σ H _ I h) fun v s1 ⟨x, H1, I1, r1, q1⟩ => ho pins s1 σ H1 x v Q I1 r1 q1)
theorem opI {f : Value → Value → Sem Value} {C : Int → Int → Prop} {g : Int → Int → Int}
    (rule : ∀ (i j : Int) (t u : Tok) (s : Shared) (Q : Value → Shared → Prop) (E : Value → Shared → Prop), C i j → Q (.int (g i j) s.toks) { s with toks := s.toks + 1 } → wpAny (model X.prog X.w) X.A (f (.int i t) (.int j u)) Q E s) :
    OpR X f (rI C fun i j => .int (g i j)) := by
  intro pins s σ H x y v u Q I rx ry h
  obtain ⟨i, j, rfl, rfl, hc, q⟩ := h
  obtain ⟨t, rfl⟩ := rx
  obtain ⟨t', rfl⟩ := ry
  exact rule i j t t' s _ _ hc ⟨.int (g i j), H, I.tok _, ⟨_, rfl⟩, q⟩
theorem opI0 {f : Value → Value → Sem Value} {g : Int → Int → Int}
    (rule : ∀ (i j : Int) (t u : Tok) (s : Shared) (Q : Value → Shared → Prop) (E : Value → Shared → Prop), Q (.int (g i j) s.toks) { s with toks := s.toks + 1 } → wpAny (model X.prog X.w) X.A (f (.int i t) (.int j u)) Q E s) :
    OpR X f (rI0 fun i j => .int (g i j)) := by
  intro pins s σ H x y v u Q I rx ry h
  obtain ⟨i, j, rfl, rfl, q⟩ := h
  obtain ⟨t, rfl⟩ := rx
  obtain ⟨t', rfl⟩ := ry
  exact rule i j t t' s _ _ ⟨.int (g i j), H, I.tok _, ⟨_, rfl⟩, q⟩
theorem opB0 {f : Value → Value → Sem Value} {g : Int → Int → Bool}
    (rule : ∀ (i j : Int) (t u : Tok) (s : Shared) (Q : Value → Shared → Prop) (E : Value → Shared → Prop), Q (.bool (g i j)) s → wpAny (model X.prog X.w) X.A (f (.int i t) (.int j u)) Q E s) :
    OpR X f (rI0 fun i j => .bl (g i j)) := by
  intro pins s σ H x y v u Q I rx ry h
  obtain ⟨i, j, rfl, rfl, q⟩ := h
  obtain ⟨t, rfl⟩ := rx
  obtain ⟨t', rfl⟩ := ry
  exact rule i j t t' s _ _ ⟨.bl (g i j), H, I, rfl, q⟩

def CPow (i j : Int) : Prop := 0 ≤ j ∧ j ≤ 1000000 ∧ i.natAbs < 2 ^ 64
def CMul (i j : Int) : Prop := (-(2 ^ 64) < i ∧ i < 2 ^ 64) ∨ (-(2 ^ 64) < j ∧ j < 2 ^ 64)
theorem CMul.ok {i j : Int} (h : CMul i j) : IntMulOk i j := by
  rcases h with ⟨h1, h2⟩ | ⟨h1, h2⟩
  · exact .of_left (intBits_le_64 h1 h2)
  · exact .of_right (intBits_le_64 h1 h2)
theorem op_add : OpR X (binaryOp .Add) (rI0 fun i j => .int (i + j)) := opI0 fun _ _ _ _ _ _ _ q => add_int q
theorem op_sub : OpR X (binaryOp .Sub) (rI0 fun i j => .int (i - j)) := opI0 fun _ _ _ _ _ _ _ q => sub_int q
theorem op_mul : OpR X (binaryOp .Mult) (rI CMul fun i j => .int (i * j)) := opI fun _ _ _ _ _ _ _ hc q => mul_int q hc.ok
theorem op_mod : OpR X (binaryOp .Mod) (rI (fun _ j => 0 < j) fun i j => .int (i % j)) := opI fun i j _ _ _ _ _ hc q => by
  have h1 : (0 : Int) < j := hc
  exact mod_int' (by omega) (by rw [Int.fmod_eq_emod_of_nonneg i (by omega)]; exact q)
theorem op_pow : OpR X (binaryOp .Pow) (rI CPow fun i j => .int (i ^ j.toNat)) := opI fun _ _ _ _ _ _ _ hc q => pow_int_small hc.1 hc.2.1 hc.2.2 q
theorem unI {f : Value → Sem Value} {g : Int → Int}
    (rule : ∀ (i : Int) (t : Tok) (s : Shared) (Q : Value → Shared → Prop) (E : Value → Shared → Prop), Q (.int (g i) s.toks) { s with toks := s.toks + 1 } → wpAny (model X.prog X.w) X.A (f (.int i t)) Q E s) :
    UnR X f (rU fun i => .int (g i)) := by
  intro pins s σ H x v Q I rx h
  obtain ⟨i, rfl, q⟩ := h
  obtain ⟨t, rfl⟩ := rx
  exact rule i t s _ _ ⟨.int (g i), H, I.tok _, ⟨_, rfl⟩, q⟩
theorem un_neg : UnR X (unaryOp .USub) (rU fun i => .int (-i)) := unI fun _ _ _ _ _ q => neg_int q
end

def scal : V → V → Bool
  | .non, .non => true | .non, .int _ => true | .int _, .non => true | .non, .bl _ => true | .bl _, .non => true | .non, .str _ => true | .str _, .non => true
  | .int _, .int _ => true | .bl _, .bl _ => true | .str _, .str _ => true | .byt _, .byt _ => true
  | .int _, .str _ => true | .str _, .int _ => true | .bl _, .str _ => true | .str _, .bl _ => true
  | _, _ => false
def rEq : R2 := fun x y H Q => scal x y = true ∧ Q (.bl (decide (x = y))) H
def rNe : R2 := fun x y H Q => scal x y = true ∧ Q (.bl (!decide (x = y))) H

theorem dec_int {i j : Int} : decide (V.int i = V.int j) = (i == j) := by
  rw [Bool.eq_iff_iff]
  simp
theorem dec_bl {i j : Bool} : decide (V.bl i = V.bl j) = (i == j) := by
  rw [Bool.eq_iff_iff]
  simp
theorem dec_str {i j : Str} : decide (V.str i = V.str j) = (i == j) := by
  rw [Bool.eq_iff_iff]
  simp
theorem dec_byt {i j : Array UInt8} : decide (V.byt i = V.byt j) = (i.toList == j.toList) := by
  rw [Bool.eq_iff_iff]
  cases i
  cases j
  simp

section
variable {X : Cx} {a b c : Expr} {ta tb tc : TE} {pos : Pos}
theorem fin_bl {pins : List (Addr × Obj)} {σ : St} {H : Hp} {s : Shared} {Q : VK} {k k' : Bool} (I : Inv X pins σ H s) (q : Q (.bl k) H) (e : k = k') : EP X pins σ Q (.bool k') s := by
  subst e
  exact ⟨.bl k, H, I, rfl, q⟩
theorem op_eq : OpR X (compareOp .Eq) rEq := by
  intro pins s σ H x y v u Q I rx ry h
  obtain ⟨hs, q⟩ := h
  cases x with
  | non =>
    cases rx
    cases y with
    | non => cases ry; exact PySem.EqNone.eq_none_none (fin_bl I q (by simp))
    | bl j => cases ry; exact PySem.EqNone.eq_none_bool (fin_bl I q (by simp))
    | int j => obtain ⟨t', rfl⟩ := ry; exact PySem.EqNone.eq_none_int (fin_bl I q (by simp))
    | str j => obtain ⟨t', rfl⟩ := ry; exact PySem.EqNone.eq_none_str (fin_bl I q (by simp))
    | _ => exact absurd (show false = true from hs) Bool.false_ne_true
  | bl i =>
    cases rx
    cases y with
    | non => cases ry; exact PySem.EqNone.eq_bool_none (fin_bl I q (by simp))
    | bl j => cases ry; exact eq_bool (fin_bl I q dec_bl)
    | str j => obtain ⟨t', rfl⟩ := ry; exact PySem.EqMixed.eq_bool_str (fin_bl I q (by simp))
    | _ => exact absurd (show false = true from hs) Bool.false_ne_true
  | int i =>
    obtain ⟨t, rfl⟩ := rx
    cases y with
    | non => cases ry; exact PySem.EqNone.eq_int_none (fin_bl I q (by simp))
    | int j => obtain ⟨t', rfl⟩ := ry; exact eq_int (fin_bl I q dec_int)
    | str j => obtain ⟨t', rfl⟩ := ry; exact PySem.EqMixed.eq_int_str (fin_bl I q (by simp))
    | _ => exact absurd (show false = true from hs) Bool.false_ne_true
  | str i =>
    obtain ⟨t, rfl⟩ := rx
    cases y with
    | non => cases ry; exact PySem.EqNone.eq_str_none (fin_bl I q (by simp))
    | bl j => cases ry; exact PySem.EqMixed.eq_str_bool (fin_bl I q (by simp))
    | int j => obtain ⟨t', rfl⟩ := ry; exact PySem.EqMixed.eq_str_int (fin_bl I q (by simp))
    | str j => obtain ⟨t', rfl⟩ := ry; exact eq_str (fin_bl I q dec_str)
    | _ => exact absurd (show false = true from hs) Bool.false_ne_true
  | byt i =>
    obtain ⟨t, rfl⟩ := rx
    cases y with
    | byt j => obtain ⟨t', rfl⟩ := ry; exact PySem.W.eq_bytes (fin_bl I q dec_byt)
    | _ => exact absurd (show false = true from hs) Bool.false_ne_true
  | _ => cases y <;> exact absurd (show false = true from hs) Bool.false_ne_true
theorem op_ne : OpR X (compareOp .NotEq) rNe := by
  intro pins s σ H x y v u Q I rx ry h
  obtain ⟨hs, q⟩ := h
  cases x with
  | non =>
    cases rx
    cases y with
    | non => cases ry; exact PySem.EqNone.ne_none_none (fin_bl I q (by simp))
    | bl j => cases ry; exact PySem.EqNone.ne_none_bool (fin_bl I q (by simp))
    | int j => obtain ⟨t', rfl⟩ := ry; exact PySem.EqNone.ne_none_int (fin_bl I q (by simp))
    | str j => obtain ⟨t', rfl⟩ := ry; exact PySem.EqNone.ne_none_str (fin_bl I q (by simp))
    | _ => exact absurd (show false = true from hs) Bool.false_ne_true
  | bl i =>
    cases rx
    cases y with
    | non => cases ry; exact PySem.EqNone.ne_bool_none (fin_bl I q (by simp))
    | bl j => cases ry; exact ne_bool (fin_bl I q (congrArg not dec_bl))
    | str j => obtain ⟨t', rfl⟩ := ry; exact PySem.EqMixed.ne_bool_str (fin_bl I q (by simp))
    | _ => exact absurd (show false = true from hs) Bool.false_ne_true
  | int i =>
    obtain ⟨t, rfl⟩ := rx
    cases y with
    | non => cases ry; exact PySem.EqNone.ne_int_none (fin_bl I q (by simp))
    | int j => obtain ⟨t', rfl⟩ := ry; exact ne_int (fin_bl I q (congrArg not dec_int))
    | str j => obtain ⟨t', rfl⟩ := ry; exact PySem.EqMixed.ne_int_str (fin_bl I q (by simp))
    | _ => exact absurd (show false = true from hs) Bool.false_ne_true
  | str i =>
    obtain ⟨t, rfl⟩ := rx
    cases y with
    | non => cases ry; exact PySem.EqNone.ne_str_none (fin_bl I q (by simp))
    | bl j => cases ry; exact PySem.EqMixed.ne_str_bool (fin_bl I q (by simp))
    | int j => obtain ⟨t', rfl⟩ := ry; exact PySem.EqMixed.ne_str_int (fin_bl I q (by simp))
    | str j => obtain ⟨t', rfl⟩ := ry; exact ne_str (fin_bl I q (congrArg not dec_str))
    | _ => exact absurd (show false = true from hs) Bool.false_ne_true
  | byt i =>
    obtain ⟨t, rfl⟩ := rx
    cases y with
    | byt j => obtain ⟨t', rfl⟩ := ry; exact PySem.W.ne_bytes (fin_bl I q (congrArg not dec_byt))
    | _ => exact absurd (show false = true from hs) Bool.false_ne_true
  | _ => cases y <;> exact absurd (show false = true from hs) Bool.false_ne_true

theorem op_lt : OpR X (compareOp .Lt) (rI0 fun i j => .bl (decide (i < j))) := opB0 fun _ _ _ _ _ _ _ q => lt_int q
theorem op_le : OpR X (compareOp .LtE) (rI0 fun i j => .bl (decide (i ≤ j))) := opB0 fun _ _ _ _ _ _ _ q => le_int q
theorem op_gt : OpR X (compareOp .Gt) (rI0 fun i j => .bl (decide (j < i))) := opB0 fun _ _ _ _ _ _ _ q => gt_int q
theorem op_in_str : OpR X (compareOp .In) (fun x y H Q => ∃ i j, x = .str i ∧ y = .str j ∧ Q (.bl (!(Builtin.Str.occurrences j i 0 j.length 1).isEmpty)) H) := by
  intro pins s σ H x y v u Q I rx ry h
  obtain ⟨i, j, rfl, rfl, q⟩ := h
  obtain ⟨t, rfl⟩ := rx
  obtain ⟨t', rfl⟩ := ry
  exact in_str (fin_bl I q rfl)

theorem op_isN : OpR X (compareOp .Is) (fun x y H Q => y = .non ∧ Q (.bl (decide (x = .non))) H) := by
  intro pins s σ H x y v u Q I rx ry h
  obtain ⟨rfl, q⟩ := h
  cases ry
  refine is_none_gen (fin_bl I q ?_)
  cases x <;> first
    | (cases rx; rfl)
    | (obtain ⟨t, rfl⟩ := rx; rfl)
theorem OpR.or {f : Value → Value → Sem Value} {r r' : R2} (h : OpR X f r) (h' : OpR X f r') : OpR X f (fun x y H Q => r x y H Q ∨ r' x y H Q) := by
  intro pins s σ H x y v u Q I rx ry q
  rcases q with q | q
  · exact h pins s σ H x y v u Q I rx ry q
  · exact h' pins s σ H x y v u Q I rx ry q

theorem nomark (b : Expr) {op : CmpOp} (h : op ≠ .In := by decide) (h2 : op ≠ .NotIn := by decide) : behindInMarks op b = false := by
  have e1 : (op == CmpOp.In) = false := by cases op <;> first | rfl | exact absurd rfl h
  have e2 : (op == CmpOp.NotIn) = false := by cases op <;> first | rfl | exact absurd rfl h2
  cases b <;> simp [behindInMarks, e1, e2]
theorem pe_cmpR {op : CmpOp} {r : R2} (ho : OpR X (compareOp op) r) (ha : PE X a ta) (hb : PE X b tb) (hm : behindInMarks op b = false) : PE X (.Compare a [op] [b] pos) (tOp r ta tb) := by
  intro pins s σ H Q I h
  exact wpAny_Compare1 (binT ha hb I h fun v u s2 x y H2 I2 rx ry q => ho pins s2 σ H2 x y v u Q I2 rx ry q) hm
def tTest (t : TE) : TT := fun σ H Q => t σ H fun x H' => ∃ k, x = .bl k ∧ Q k H'
theorem pt_cmpR {op : CmpOp} {r : R2} (ho : OpR X (compareOp op) r) (ha : PE X a ta) (hb : PE X b tb) (hm : behindInMarks op b = false) : PT X (.Compare a [op] [b] pos) (tTest (tOp r ta tb)) := by
  intro pins s σ H Q I h
  refine wpAny_isTrue_Compare1 (thn (ha pins s σ H _ I h) fun v s1 ⟨x, H1, I1, r1, q1⟩ => thn (hb pins s1 σ H1 _ I1 q1) fun u s2 ⟨y, H2, I2, r2, q2⟩ =>
    thn (ho pins s2 σ H2 x y v u _ I2 r1 r2 q2) fun c s3 ⟨z, H3, I3, r3, k, e, q3⟩ => ?_) hm
  subst e
  cases r3
  exact wpAny_truthy_bool ⟨H3, I3, q3⟩
def tChain (r r' : R2) (ta tb tc : TE) : TE := fun σ H Q => ta σ H fun x H1 => tb σ H1 fun y H2 => r x y H2 fun z H3 => ∃ k, z = .bl k ∧
  (if k = true then tc σ H3 fun w' H4 => r' y w' H4 Q else Q (.bl false) H3)
theorem pe_chain {op op' : CmpOp} {r r' : R2} (ho : OpR X (compareOp op) r) (ho' : OpR X (compareOp op') r') (ha : PE X a ta) (hb : PE X b tb) (hc : PE X c tc)
    (hm : lastMarks [op, op'] [b, c] = false := by with_unfolding_all rfl) : PE X (.Compare a [op, op'] [b, c] pos) (tChain r r' ta tb tc) := by
  intro pins s σ H Q I h
  refine Compare_chain (thn (ha pins s σ H _ I h) fun v s1 ⟨x, H1, I1, r1, q1⟩ => chain_link (thn (hb pins s1 σ H1 _ I1 q1) fun u s2 ⟨y, H2, I2, r2, q2⟩ =>
    thn (ho pins s2 σ H2 x y v u _ I2 r1 r2 q2) fun d s3 ⟨z, H3, I3, r3, k, e, q3⟩ => ?_)) hm
  subst e
  cases r3
  refine wpAny_truthy_bool ?_
  cases k with
  | false => exact ite_ff ⟨.bl false, H3, I3, rfl, q3⟩
  | true => exact ite_tt (chain_last (thn (hc pins s3 σ H3 _ I3 q3) fun w' s4 ⟨z', H4, I4, r4, q4⟩ => ho' pins s4 σ H4 y z' u w' Q I4 r2 r4 q4))
theorem pt_chain {op op' : CmpOp} {r r' : R2} (ho : OpR X (compareOp op) r) (ho' : OpR X (compareOp op') r') (ha : PE X a ta) (hb : PE X b tb) (hc : PE X c tc)
    (hm : lastMarks [op, op'] [b, c] = false := by with_unfolding_all rfl) : PT X (.Compare a [op, op'] [b, c] pos) (tTest (tChain r r' ta tb tc)) := by
  intro pins s σ H Q I h
  refine isTrue_chain (thn (ha pins s σ H _ I h) fun v s1 ⟨x, H1, I1, r1, q1⟩ => test_link (thn (hb pins s1 σ H1 _ I1 q1) fun u s2 ⟨y, H2, I2, r2, q2⟩ =>
    thn (ho pins s2 σ H2 x y v u _ I2 r1 r2 q2) fun d s3 ⟨z, H3, I3, r3, k, e, q3⟩ => ?_)) hm
  subst e
  cases r3
  refine wpAny_truthy_bool ?_
  cases k with
  | false =>
    obtain ⟨k', e', q'⟩ := q3
    cases e'
    exact ite_ff ⟨H3, I3, q'⟩
  | true =>
    refine ite_tt (test_last (thn (hc pins s3 σ H3 _ I3 q3) fun w' s4 ⟨z', H4, I4, r4, q4⟩ => thn (ho' pins s4 σ H4 y z' u w' _ I4 r2 r4 q4) fun d' s5 ⟨z2, H5, I5, r5, k2, e2, q5⟩ => ?_))
    subst e2
    cases r5
    exact wpAny_truthy_bool ⟨H5, I5, q5⟩

theorem line63 : (sizeLine : Nat) < 2 ^ 63 := by rw [sizeLine_eq]; decide
theorem vals1 {x : V} {us : List Value} (r : Vals [x] us) : ∃ u, us = [u] ∧ RelV x u := by
  cases r with
  | cons r1 r2 => cases r2; exact ⟨_, rfl, r1⟩
theorem vals2 {x y : V} {us : List Value} (r : Vals [x, y] us) : ∃ u w', us = [u, w'] ∧ RelV x u ∧ RelV y w' := by
  cases r with
  | cons r1 r2 =>
    cases r2 with
    | cons r3 r4 => cases r4; exact ⟨_, _, rfl, r1, r3⟩
theorem call_max2 (hc : X.calm = true) : CallR X (.builtin "max") (fun xs H Q => ∃ i j, xs = [.int i, .int j] ∧ Q (.int (if j > i then j else i)) H) := by
  intro pins s σ H xs us Q I r h
  obtain ⟨i, j, rfl, q⟩ := h
  obtain ⟨u, w', rfl, ⟨t, rfl⟩, ⟨t', rfl⟩⟩ := vals2 r
  refine max_two_ints (I.ok.hd hc) fun h' tk k => ⟨_, H, I.kept k, ?_, q⟩
  by_cases hj : j > i
  · rw [if_pos hj, if_pos hj]; exact ⟨_, rfl⟩
  · rw [if_neg hj, if_neg hj]; exact ⟨_, rfl⟩
theorem call_str_int : CallR X (.type "str") (fun xs H Q => ∃ i, xs = [.int i] ∧ i.natAbs.log2 < 1920 ∧ Q (.str (toString i)) H) := by
  intro pins s σ H xs us Q I r h
  obtain ⟨i, rfl, hz, q⟩ := h
  obtain ⟨u, rfl, t, rfl⟩ := vals1 r
  exact PySem.P.str_of_int hz ⟨.str _, H, I.tok _, ⟨_, rfl⟩, q⟩
end
end L2

namespace L2
open PySem PySem.Spec PyProof.Rows

structure ObjM (h : Heap) (x dx C : Addr) (mA : Str → Option Value) : Prop where
  obj : h.get? x = some (PySem.W.instObj C dx)
  ns : h.Ns1 dx mA
  ne : dx ≠ x

theorem lookIn_ns {h : Heap} {dx : Addr} {mA : Str → Option Value} (n : h.Ns1 dx mA) : ∃ od, h.get? dx = some od ∧ ∀ name, PySem.W.lookIn name od = some (mA name) := by
  obtain ⟨o, es, ep, ho, hd, hk, _, hm⟩ := n
  refine ⟨o, ho, fun name => ?_⟩
  have e := hm name
  unfold nsFind findBy at e
  rw [← Array.find?_toList] at e
  unfold PySem.W.lookIn
  rw [hd]
  dsimp only
  split
  · rename_i y q
    rw [q] at e
    exact congrArg some e
  · rename_i q
    rw [q] at e
    have a : es.toList.any (·.refKey) = false := by
      rw [List.any_eq_false]
      intro y hy
      obtain ⟨z, t, hkey⟩ := hk y (Array.mem_toList_iff.mp hy)
      simp [DictEntry.refKey, hkey]
    have a' : ¬ es.toList.any (·.refKey) = true := by rw [a]; exact Bool.false_ne_true
    rw [if_neg a']
    exact congrArg some e

theorem ObjM.look {h : Heap} {x dx C : Addr} {mA : Str → Option Value} (I : ObjM h x dx C mA) : ∃ od, PySem.W.InstAt h x (PySem.W.instObj C dx) C (some od) ∧ ∀ name, PySem.W.lookIn name od = some (mA name) :=
  let ⟨od, ho, hl⟩ := lookIn_ns I.ns
  ⟨od, ⟨I.obj, rfl, rfl, ho⟩, hl⟩

section
variable {prog : Program} {w : World} {A : Around} {E : Value → Shared → Prop} {s : Shared} {K : PySem.W.Frag} {x dx C f : Addr} {mA : Str → Option Value} {name : Str} {v : Value}

theorem get_map {expr : Bool} {Q : Value → Shared → Prop} (X : K.In s.heap) (I : ObjM s.heap x dx C mA) (hg : PySem.W.plainGet K C name = true) (hh : PySem.W.hasDictIn K C = true)
    (ha : PySem.W.findIn K (.ref C) name = some none) (hv : mA name = some v) (hv' : PySem.W.handedIn v = true) (h : Q v { s with toks := s.toks + 1 }) :
    wpAny (model prog w) A (getAttr (.ref x) name expr) Q E s := by
  obtain ⟨od, J, hl⟩ := I.look
  exact PySem.W.get_value X J (PySem.W.plainGet_of hg).1 (PySem.W.findObj_own hh ha rfl (by rw [hl, hv])) hv' h

theorem get_meth {pl : Sem Bool} {Q : Value × List Value → Shared → Prop} (X : K.In s.heap) (I : ObjM s.heap x dx C mA) (hg : PySem.W.plainGet K C name = true)
    (hf : PySem.W.findIn K (.ref C) name = some (some (.ref f))) (ht : PySem.W.isFn K (.ref f) = true) (hv : mA name = none) (h : Q (.ref f, [.ref x]) s) :
    wpAny (model prog w) A (getMethod (.ref x) name pl) Q E s := by
  obtain ⟨od, J, hl⟩ := I.look
  exact PySem.W.method_fn X J (PySem.W.plainGet_of hg).1 (PySem.W.plainGet_of hg).2 hf (beq_iff_eq.mp ht) (by show (PySem.W.lookIn name od).map (·.isSome) = some false; rw [hl, hv]; rfl) h

theorem set_map {ns : List Str} {Q : Unit → Shared → Prop} (X : K.In s.heap) (I : ObjM s.heap x dx C mA)
    (hs : PySem.W.findIn K (.ref C) "__setattr__" = some (some (.builtin "object.__setattr__"))) (hp : PySem.W.plainOver K C = true) (ht : PySem.W.takerIn K C name = some none) (hh : PySem.W.hasDictIn K C = true)
    (hw : PySem.Within mA ns) (hsz : ns.length ≤ sizeLine)
    (h : ∀ h', ObjM h' x dx C (fun y => if y = name then some v else mA y) → Heap.SameBut dx s.heap h' → Q () { s with heap := h', toks := s.toks + 2 }) :
    wpAny (model prog w) A (setAttr (.ref x) name v) Q E s := by
  obtain ⟨od, J, hl⟩ := I.look
  refine PySem.W.set_plain X J hs (PySem.W.osa_open (s := { s with toks := s.toks + 1 }) (r := none) X J hp ht fun b => ?_)
  obtain ⟨cd, hc, hd'⟩ := PySem.W.any_some hh
  have hx : s.heap.get? x = some ⟨.ref C, some dx, .plain, #[]⟩ := I.obj
  refine wpAny_bind (wpAny_pure (wpAny_bind (wpAny_bind (wpAny_loadPart hx (wpAny_bind (PySem.W.Looks.here (s := { s with toks := s.toks + 1 }) (PySem.W.looks_clsIn X hc) ?_))))))
  rw [hd']
  refine wpAny_pure (a := some dx) (wpAny_bind (wpAny_pure (wpAny_bind ?_)))
  refine wpAny_nsSet1 (s := { s with toks := s.toks + 1 }) I.ns fun h' hn2 hs2 => ?_
  obtain ⟨oD, esD, epD, hoD, hdD, hcD⟩ := hn2.count (PySem.Within.cons name v hw)
  refine wpAny_bind (wpAny_lookBehind hoD (by rw [hdD]; exact pastItsLine_dict (Nat.le_trans hcD (by rw [List.length_cons]; omega))) ?_)
  exact wpAny_pure (h _ ⟨(hs2.2 _ (Ne.symm I.ne)).trans I.obj, hn2, I.ne⟩ hs2)

theorem make_map {R : Result → Shared → Prop} {vs : List Value} {kw : List (Str × Value)} (X : K.In s.heap) (hm : PySem.W.makesIn K C = true)
    (hi : PySem.W.findIn K (.ref C) "__init__" = some (some (.ref f))) (hf : PySem.W.typeIn K (.ref f) = some (.type "function"))
    (h : codeAny (model prog w) (A.under (.builtin "type.__call__" ⟨.ref C :: vs, kw⟩)) (.call (.ref f) ⟨.ref (s.heap.objs.size + 1) :: vs, kw⟩) (PySem.W.InitBack (s.heap.objs.size + 1) R)
      { s with heap := (s.heap.push PySem.W.emptyDict).push (PySem.W.instObj C s.heap.objs.size) }) :
    codeAny (model prog w) A (.call (.ref C) ⟨vs, kw⟩) R s := by
  obtain ⟨hh, g, d, t, os⟩ := s
  exact PySem.W.make_core (PySem.W.makes_of X hm) (PySem.W.looks_findIn X hi) (fun self => PySem.W.bind_fn X self hf) (.inl rfl) h
end

def putF (f : Str) (v : V) : List (Str × V) → List (Str × V)
  | [] => [(f, v)]
  | (g, x) :: r => if g = f then (g, v) :: r else (g, x) :: putF f v r
theorem lookup_putF (f g : Str) (v : V) : ∀ fs : List (Str × V), (putF f v fs).lookup g = if g = f then some v else fs.lookup g
  | [] => by
    show List.lookup g [(f, v)] = _
    by_cases h : g = f
    · have hb : (g == f) = true := beq_iff_eq.mpr h
      simp only [List.lookup, hb, if_pos h]
    · have hb : (g == f) = false := beq_eq_false_iff_ne.mpr h
      simp only [List.lookup, hb, if_neg h]
  | (k, x) :: r => by
    have ih := lookup_putF f g v r
    rw [show putF f v ((k, x) :: r) = (if k = f then (k, v) :: r else (k, x) :: putF f v r) from rfl]
    by_cases hk : k = f
    · rw [if_pos hk]
      by_cases h : g = k
      · have hb : (g == k) = true := beq_iff_eq.mpr h
        simp only [List.lookup, hb, if_pos (h.trans hk)]
      · have hb : (g == k) = false := beq_eq_false_iff_ne.mpr h
        simp only [List.lookup, hb, if_neg (fun e : g = f => h (e.trans hk.symm))]
    · rw [if_neg hk]
      by_cases h : g = k
      · have hb : (g == k) = true := beq_iff_eq.mpr h
        simp only [List.lookup, hb, if_neg (fun e : g = f => hk (h.symm.trans e))]
      · have hb : (g == k) = false := beq_eq_false_iff_ne.mpr h
        simp only [List.lookup, hb]
        exact ih
theorem keys_putF (f : Str) (v : V) : ∀ fs : List (Str × V), f ∈ (putF f v fs).map (·.1) ∧ ∀ g, g ∈ fs.map (·.1) → g ∈ (putF f v fs).map (·.1)
  | [] => ⟨by simp [putF], fun g h => by simp at h⟩
  | (k, x) :: r => by
    obtain ⟨i1, i2⟩ := keys_putF f v r
    rw [show putF f v ((k, x) :: r) = (if k = f then (k, v) :: r else (k, x) :: putF f v r) from rfl]
    by_cases hk : k = f
    · rw [if_pos hk]
      subst hk
      exact ⟨by simp, fun g h => by simpa using h⟩
    · rw [if_neg hk]
      refine ⟨?_, fun g h => ?_⟩
      · rw [List.map_cons]
        exact List.mem_cons_of_mem _ i1
      · rw [List.map_cons] at h ⊢
        rcases List.mem_cons.mp h with e | e
        · exact List.mem_cons.mpr (.inl e)
        · exact List.mem_cons_of_mem _ (i2 g e)
theorem length_putF (f : Str) (v : V) : ∀ fs : List (Str × V), (putF f v fs).length ≤ fs.length + 1
  | [] => by simp [putF]
  | (k, x) :: r => by
    have ih := length_putF f v r
    rw [show putF f v ((k, x) :: r) = (if k = f then (k, v) :: r else (k, x) :: putF f v r) from rfl]
    by_cases hk : k = f
    · rw [if_pos hk, List.length_cons, List.length_cons]; omega
    · rw [if_neg hk, List.length_cons, List.length_cons]; omega

theorem RelO.some_of {v : V} {o : Option Value} (r : RelO (some v) o) : ∃ u, o = some u ∧ RelV v u := by
  cases o with
  | none => exact (show False from r).elim
  | some u => exact ⟨u, rfl, r⟩
theorem RelO.none_of {o : Option Value} (r : RelO none o) : o = none := by
  cases o with
  | none => rfl
  | some u => exact (show False from r).elim
theorem handed_of {v : V} {u : Value} (r : RelV v u) : PySem.W.handedIn u = true := by
  cases v with
  | non => cases (show u = Value.none from r); rfl
  | bl b => cases (show u = Value.bool b from r); rfl
  | int i => obtain ⟨t, e⟩ := (show ∃ t, u = Value.int i t from r); cases e; rfl
  | str x => obtain ⟨t, e⟩ := (show ∃ t, u = Value.str x t from r); cases e; rfl
  | byt b => obtain ⟨t, e⟩ := (show ∃ t, u = Value.bytes b t from r); cases e; rfl
  | flt b => obtain ⟨t, e⟩ := (show ∃ t, u = Value.float b t from r); cases e; rfl
  | ref a => cases (show u = Value.ref a from r); rfl
  | ty n => cases (show u = Value.type n from r); rfl

section
variable {P : Program} {w : World} {H H' : Hp} {h h' : Heap} {a C dx : Addr} {fs fs' : List (Str × V)}
theorem ins_get (hok : HOk P w H h) (e : H a = some (.ins C dx fs)) : ∃ mA, ObjM h a dx C mA ∧ (∀ f, RelO (fs.lookup f) (mA f)) ∧ PySem.Within mA (fs.map (·.1)) ∧ fs.length ≤ 1000 ∧ H dx = some (.own a) := by
  obtain ⟨d, z, ne, ob, mA, n, r, q⟩ := (show ObjOk P w H h a (.ins C dx fs) from hok a _ e)
  exact ⟨mA, ⟨ob, n, ne⟩, r, q, z, d⟩
end

structure Cls (K : PySem.W.Frag) (C : Addr) : Prop where
  pg : PySem.W.plainGet K C Str.empty = true
  hd : PySem.W.hasDictIn K C = true
  po : PySem.W.plainOver K C = true
  sa : PySem.W.findIn K (.ref C) "__setattr__" = some (some (.builtin "object.__setattr__"))
theorem Cls.get {K : PySem.W.Frag} {C : Addr} (c : Cls K C) (f : Str) : PySem.W.plainGet K C f = true := c.pg
def NoAttr (K : PySem.W.Frag) (C : Addr) (f : Str) : Prop := PySem.W.findIn K (.ref C) f = some none
theorem NoAttr.taker {K : PySem.W.Frag} {C : Addr} {f : Str} (n : NoAttr K C f) : PySem.W.takerIn K C f = some none := by
  unfold PySem.W.takerIn
  rw [show PySem.W.findIn K (.ref C) f = some none from n]
  rfl
structure Meth (K : PySem.W.Frag) (C : Addr) (m : Str) (f : Addr) : Prop where
  at_ : PySem.W.findIn K (.ref C) m = some (some (.ref f))
  fn : PySem.W.isFn K (.ref f) = true
  kp : PySem.W.keepIn K (.ref f) = true

section
variable {X : Cx} {pins : List (Addr × Obj)} {σ : St} {H : Hp} {s : Shared} {a C dx : Addr} {fs : List (Str × V)} {f : Str} {v : V} {A : Around} {E : Value → Shared → Prop}

theorem getattr_ok {b : Bool} {Q : Value → Shared → Prop} (I : Inv X pins σ H s) (e : H a = some (.ins C dx fs)) (c : Cls X.K C) (n : NoAttr X.K C f) (l : fs.lookup f = some v)
    (h : ∀ u s', Inv X pins σ H s' → RelV v u → Q u s') : wpAny (model X.prog X.w) A (getAttr (.ref a) f b) Q E s := by
  obtain ⟨mA, O, r, _, _, _⟩ := ins_get I.hok e
  obtain ⟨u, hu, ru⟩ := RelO.some_of (v := v) (o := mA f) (by rw [← l]; exact r f)
  exact get_map I.kIn O (c.get f) c.hd n hu (handed_of ru) (h u _ (I.tok _) ru)

theorem getmeth_ok {m : Str} {g : Addr} {pl : Sem Bool} {Q : Value × List Value → Shared → Prop} (I : Inv X pins σ H s) (e : H a = some (.ins C dx fs)) (c : Cls X.K C) (k : Meth X.K C m g) (l : fs.lookup m = none)
    (h : Q (.ref g, [.ref a]) s) : wpAny (model X.prog X.w) A (getMethod (.ref a) m pl) Q E s := by
  obtain ⟨mA, O, r, _, _, _⟩ := ins_get I.hok e
  have hn : mA m = none := RelO.none_of (by rw [← l]; exact r m)
  exact get_meth I.kIn O (c.get m) k.at_ k.fn hn h

theorem setattr_ok {y : V} {u : Value} {Q : Unit → Shared → Prop} (I : Inv X pins σ H s) (e : H a = some (.ins C dx fs)) (c : Cls X.K C) (n : NoAttr X.K C f) (hl : fs.length < 1000) (ry : RelV y u)
    (h : ∀ s', Inv X pins σ (upd H a (.ins C dx (putF f y fs))) s' → Q () s') : wpAny (model X.prog X.w) A (setAttr (.ref a) f u) Q E s := by
  obtain ⟨mA, O, r, wi, _, ho⟩ := ins_get I.hok e
  have hz : (fs.map (·.1)).length ≤ sizeLine := by rw [List.length_map, sizeLine_eq]; omega
  refine set_map I.kIn O c.sa c.po n.taker c.hd wi hz fun h' O' sb => h _ ?_
  have hd : ∃ o, h'.get? dx = some o := let ⟨o, _, _, e', _⟩ := O'.ns; ⟨o, e'⟩
  refine I.write (x := a) (e := dx) (by rw [e]; exact True.intro) (.inr ho) (fun b q hb z => (sb.2 b hb).trans z) hd ?_
  refine ⟨by rw [upd_ne O.ne]; exact ho, ?_, O.ne, O'.obj, _, O'.ns, fun g => ?_, fun g hg => ?_⟩
  · have := length_putF f y fs; omega
  · show RelO ((putF f y fs).lookup g) (if g = f then some u else mA g)
    rw [lookup_putF]
    by_cases q : g = f
    · rw [if_pos q, if_pos q]; exact ry
    · rw [if_neg q, if_neg q]; exact r g
  · by_cases q : g = f
    · rw [q]; exact (keys_putF f y fs).1
    · refine (keys_putF f y fs).2 g (wi g fun z => hg ?_)
      show (if g = f then some u else mA g) = none
      rw [if_neg q]; exact z

theorem Inv.made (I : Inv X pins σ H s) : Inv X pins σ (upd (upd H s.heap.objs.size (.own (s.heap.objs.size + 1))) (s.heap.objs.size + 1) (.ins C s.heap.objs.size []))
    { s with heap := (s.heap.push PySem.W.emptyDict).push (PySem.W.instObj C s.heap.objs.size) } := by
  have e1 : (s.heap.push PySem.W.emptyDict).get? s.heap.objs.size = some PySem.W.emptyDict := Heap.get?_push_size s.heap rfl
  have e2 : ((s.heap.push PySem.W.emptyDict).push (PySem.W.instObj C s.heap.objs.size)).get? (s.heap.objs.size + 1) = some (PySem.W.instObj C s.heap.objs.size) := by
    have := Heap.get?_push_size (s.heap.push PySem.W.emptyDict) (o := PySem.W.instObj C s.heap.objs.size) rfl
    rwa [Heap.size_push] at this
  have e3 : (s.heap.push PySem.W.emptyDict).Ns s.heap.objs.size (fun _ => none) := ⟨PySem.W.emptyDict, #[], _, e1, rfl, (fun e he => absurd he (by simp)), fun _ => rfl⟩
  have I1 := I.laid (a := s.heap.objs.size) (o := .own (s.heap.objs.size + 1)) (h' := s.heap.push PySem.W.emptyDict) (t' := s.toks) (fun b u q => Heap.get?_push_of_some _ q) (Nat.le_refl _) ⟨_, e1⟩
  refine I1.laid (a := s.heap.objs.size + 1) (o := .ins C s.heap.objs.size []) (t' := s.toks) (fun b u q => Heap.get?_push_of_some _ q) (Nat.le_of_eq (Heap.size_push _ _)) ?_
  have ne : s.heap.objs.size ≠ s.heap.objs.size + 1 := Nat.ne_of_lt (Nat.lt_succ_self _)
  refine ⟨by rw [upd_ne ne, upd_same], Nat.zero_le _, ne, e2, fun _ => none, (Heap.Ns1.of_empty e3).at fun o q => Heap.get?_push_of_some _ q, fun _ => True.intro, fun y hy => absurd rfl hy⟩

theorem attr_of {prog : Program} {w : World} {env : Env} {e : Expr} {f : Str} {pos : Pos} {s : Shared} {Q : Value → Shared → Prop} (hb : attributeBase e f env (eval e env) = eval e env)
    (h : wpAny (model prog w) A (eval e env) (fun o s₁ => wpAny (model prog w) A (getAttr o f true) Q E s₁) E s) : wpAny (model prog w) A (eval (.Attribute e f pos) env) Q E s :=
  Attribute_any_ h (by rw [arm_eval_Attribute, hb])
end

def tFld (K : PySem.W.Frag) (ta : TE) (f : Str) : TE := fun σ H Q => ta σ H fun x H1 => ∃ a C dx fs v, x = .ref a ∧ H1 a = some (.ins C dx fs) ∧ Cls K C ∧ NoAttr K C f ∧ fs.lookup f = some v ∧ Q v H1
def sFld (K : PySem.W.Frag) (ta tv : TE) (f : Str) : TS := fun D σ H => tv σ H fun y H1 => ta σ H1 fun x H2 => ∃ a C dx fs, x = .ref a ∧ H2 a = some (.ins C dx fs) ∧ Cls K C ∧ NoAttr K C f ∧ fs.length < 1000 ∧
  D.nx σ (upd H2 a (.ins C dx (putF f y fs)))
section
variable {X : Cx} {o e value : Expr} {f : Str} {pos pos' tpos : Pos} {ta tv : TE}
theorem pe_fld (he : PE X e ta) (hb : attributeBase e f X.env (eval e X.env) = eval e X.env) : PE X (.Attribute e f pos) (tFld X.K ta f) := by
  intro pins s σ H Q I h
  refine attr_of hb (thn (he pins s σ H _ I h) fun u s1 ⟨x, H1, I1, rx, a, C, dx, fs, v, ex, ea, c, n, l, q⟩ => ?_)
  subst ex
  obtain rfl : u = Value.ref a := rx
  exact getattr_ok I1 ea c n l fun u' s2 I2 ru => ⟨v, H1, I2, ru, q⟩
theorem ps_fld (ha : PE X o ta) (hv : PE X value tv) (hs : swapsWith value (some (.Attribute o f pos')) pos.line X.env = pure false) : PS X (.Assign [.Attribute o f pos'] value pos) (sFld X.K ta tv f) := by
  intro pins s σ H D I h
  refine plainObj_wpAny_Assign_Attribute (thn (hv pins s σ H _ I h) fun u s1 ⟨y, H1, I1, ry, q⟩ => thn (ha pins s1 σ H1 _ I1 q) fun ov s2 ⟨x, H2, I2, rx, a, C, dx, fs, ex, ea, c, n, l, q2⟩ => ?_) hs
  subst ex
  obtain rfl : ov = Value.ref a := rx
  exact setattr_ok I2 ea c n l ry fun s3 I3 => ⟨σ, _, I3, q2⟩
end

section
variable {X : Cx} {pins : List (Addr × Obj)} {σ : St} {H : Hp} {s : Shared} {A : Around} {E : Value → Shared → Prop} {Q : Value → Shared → Prop} {c : Value} {b : Bool}
inductive TyOf (K : PySem.W.Frag) (H : Hp) : V → Value → Prop where
  | non : TyOf K H .non (.type "NoneType")
  | bl (x : Bool) : TyOf K H (.bl x) (.type "bool")
  | int (i : Int) : TyOf K H (.int i) (.type "int")
  | str (x : Str) : TyOf K H (.str x) (.type "str")
  | flt (x : UInt64) : TyOf K H (.flt x) (.type "float")
  | lst {a : Addr} {xs : List V} (e : H a = some (.lst xs)) : TyOf K H (.ref a) (.type "list")
  | frz {a : Addr} {o : Obj} {xs : List V} (e : H a = some (.frz o (.lst xs))) : TyOf K H (.ref a) (.type "list")
  | tup {a : Addr} {xs : List V} (e : H a = some (.tup xs)) : TyOf K H (.ref a) (.type "tuple")
  | dK {a : Addr} {kvs : List (Key × V)} (e : H a = some (.dK kvs)) : TyOf K H (.ref a) (.type "dict")
  | dT {a : Addr} {kvs : List (List Key × V)} (e : H a = some (.dT kvs)) : TyOf K H (.ref a) (.type "dict")
  | ins {a C dx : Addr} {fs : List (Str × V)} (e : H a = some (.ins C dx fs)) (cl : Cls K C) (ha : PySem.W.findIn K (.ref C) "__class__" = some (some (.builtin "object.__class__")))
      (hn : PySem.W.specialIn K (.builtin "object.__class__") "__get__" = some (some (.builtin "getset_descriptor.__get__"))) (htk : PySem.W.takesIn K (.builtin "object.__class__") = some true)
      (hm : PySem.W.mroIn K C (.type "object") = some true) : TyOf K H (.ref a) (.ref C)
end
end L2

namespace L2
open PySem PySem.Spec PyProof.Rows

structure Room (k : Nat) (A : Around) : Prop where
  hd : A.handled = none
  dp : A.depth + 3 * k + 5 < recursionLimit
  un : A.units + 16 * k + 200 < cLine
  gd : A.guards = some []
theorem Room.mono {j k : Nat} {A : Around} (r : Room k A) (h : j ≤ k) : Room j A := ⟨r.hd, by have := r.dp; omega, by have := r.un; omega, r.gd⟩
theorem Room.deeper {k : Nat} {A : Around} (r : Room (k + 1) A) (env : Env) : Room k (A.deeper env) :=
  ⟨r.hd, by have := r.dp; show A.depth + 1 + 3 * k + 5 < _; omega, by have := r.un; show A.units + 3 + 16 * k + 200 < _; omega, r.gd⟩
theorem Room.in1 {k : Nat} {A : Around} (r : Room (k + 1) A) : Room k A.in1 :=
  ⟨r.hd, by have := r.dp; show A.depth + 3 * k + 5 < _; omega, by have := r.un; show A.units + 1 + 16 * k + 200 < _; omega, r.gd⟩
theorem make_depth {A : Around} {C : Addr} {us : List Value} {kw : List (Str × Value)} : (A.under (.builtin "type.__call__" ⟨.ref C :: us, kw⟩)).depth = A.depth + 1 := by
  first | rfl | simp [Around.under, Code.weight, Code.isCreation, Code.isGuard, Code.isCaller, Code.frames, Code.isFrame, guardIds]
theorem make_units {A : Around} {C : Addr} {us : List Value} {kw : List (Str × Value)} : (A.under (.builtin "type.__call__" ⟨.ref C :: us, kw⟩)).units = A.units + 1 := by
  first | rfl | simp [Around.under, Code.cUnits, Code.frames, Code.isFrame]
theorem make_gd {A : Around} {C : Addr} {us : List Value} {kw : List (Str × Value)} (h : A.guards = some []) : (A.under (.builtin "type.__call__" ⟨.ref C :: us, kw⟩)).guards = some [] := by
  have e : (Code.builtin "type.__call__" ⟨.ref C :: us, kw⟩).guards = [] := by simp [Code.guards, Code.isGuard, guardIds]
  unfold Around.under
  dsimp only
  rw [e, h]
  rfl
theorem Room.make {k : Nat} {A : Around} (r : Room (k + 1) A) (C : Addr) (us : List Value) (kw : List (Str × Value)) : Room k (A.under (.builtin "type.__call__" ⟨.ref C :: us, kw⟩)) :=
  ⟨r.hd, by have := r.dp; rw [make_depth]; omega, by have := r.un; rw [make_units]; omega, make_gd r.gd⟩
theorem Room.depth {k : Nat} {A : Around} (r : Room k A) : A.depth < recursionLimit := by have := r.dp; omega
theorem Room.units {k : Nat} {A : Around} (r : Room k A) : A.units + 64 < cLine := by have := r.un; omega
def tNil : TA := fun _ H Q => Q [] H
def tCons (ta : TE) (tr : TA) : TA := fun σ H Q => ta σ H fun x H1 => tr σ H1 fun xs H2 => Q (x :: xs) H2
section
variable {X : Cx} {e : Expr} {es : List Expr} {te : TE} {t : TA} {pos : Pos}
theorem pa_nil : PA X [] tNil := fun _ _ _ _ H Q I h => Calls.spliced_nil ⟨[], H, I, .nil, h⟩
theorem pa_cons (ha : PE X e te) (hr : PA X es t) (hs : starEach (e :: es) X.env = (false, eval e X.env) :: starEach es X.env := by rfl) : PA X (e :: es) (tCons te t) := by
  intro pos pins s σ H Q I h
  rw [hs]
  show wpAny _ _ (spliced ((false, eval e X.env) :: backTo pos (starEach es X.env))) _ _ s
  refine Calls.spliced_cons (thn (ha pins s σ H _ I h) fun u s1 ⟨x, H1, I1, r1, q1⟩ => ?_)
  exact thn (hr pos pins s1 σ H1 _ I1 q1) fun us s2 ⟨xs, H2, I2, r2, q2⟩ => ⟨x :: xs, H2, I2, .cons r1 r2, q2⟩

def tTup (t : TA) : TE := fun σ H Q => t σ H fun xs H1 => xs.length ≤ sizeLine ∧ ∀ p, H1 p = none → Q (.ref p) (upd H1 p (.tup xs))
def tLst (t : TA) : TE := fun σ H Q => t σ H fun xs H1 => xs.length ≤ sizeLine ∧ ∀ p, H1 p = none → Q (.ref p) (upd H1 p (.lst xs))
theorem pe_tup {x1} (h : PA X es t) : PE X (.Tuple es x1 pos) (tTup t) := by
  intro pins s σ H Q I hq
  refine wpAny_Tuple_spliced (thn (h pos pins s σ H _ I hq) fun us s1 ⟨xs, H1, I1, r, z, q⟩ => ⟨by rw [← r.length]; exact z, ?_⟩)
  have hf : H1 s1.heap.objs.size = none := I1.hok.fresh (Nat.le_refl _)
  refine ⟨.ref s1.heap.objs.size, upd H1 s1.heap.objs.size (.tup xs), I1.laid (t' := s1.toks) (fun b u e => Heap.get?_push_of_some _ e) (Nat.le_refl _) ?_, rfl, q _ hf⟩
  exact ⟨z, us, r, ⟨_, Heap.get?_push_size _ rfl, rfl, _, rfl⟩⟩
theorem pe_lst (h : PA X es t) : PE X (.List es pos) (tLst t) := by
  intro pins s σ H Q I hq
  refine wpAny_List_spliced (thn (h pos pins s σ H _ I hq) fun us s1 ⟨xs, H1, I1, r, z, q⟩ => ⟨by rw [← r.length]; exact z, ?_⟩)
  have hf : H1 s1.heap.objs.size = none := I1.hok.fresh (Nat.le_refl _)
  refine ⟨.ref s1.heap.objs.size, upd H1 s1.heap.objs.size (.lst xs), I1.laid (t' := s1.toks) (fun b u e => Heap.get?_push_of_some _ e) (Nat.le_refl _) ?_, rfl, q _ hf⟩
  exact ⟨z, us, 0, r, Heap.get?_push_size _ rfl⟩
end

abbrev Sp := List V → Hp → VK → XK → Prop
abbrev CXT := List Env → Hp → Shared → XK → Value → Shared → Prop

structure Env0 (P : Program) (w : World) (K : PySem.W.Frag) (mg : Str → Option Value) (base : Heap) (A : Around) (outer : List Env) (s : Shared) (H : Hp) : Prop where
  frames : A.frames = some outer
  mod : Mod K mg base
  bs : ∀ b o, base.get? b = some o → s.heap.get? b = some o ∧ H b = none
  bsz : base.objs.size ≤ s.heap.objs.size
  funs : s.heap.FunFrames base outer
  frf : ∀ b ∈ frs outer, H b = none
  hok : HOk P w H s.heap
  bare : AllBare s.gens
def CE (outer : List Env) (P : Program) (w : World) (H : Hp) (s : Shared) (Q : VK) (u : Value) (s' : Shared) : Prop :=
  ∃ v H', s'.os = s.os ∧ AllBare s'.gens ∧ Un (frs outer) [] H H' s.heap s'.heap ∧ HOk P w H' s'.heap ∧ RelV v u ∧ Q v H'
def CR (CX : CXT) (outer : List Env) (P : Program) (w : World) (H : Hp) (s : Shared) (Q : VK) (E : XK) (r : Result) (s' : Shared) : Prop :=
  match r with
  | .ok (.ret u) => CE outer P w H s Q u s'
  | .ok _ => False
  | .error e => CX outer H s E e s'
structure FnOk (P : Program) (w : World) (K : PySem.W.Frag) (mg : Str → Option Value) (base : Heap) (CX : CXT) (k : Nat) (f : Addr) (fd : FuncData) (ps : List Str) (sp : Sp) : Prop where
  len : ∀ vs H Q E, sp vs H Q E → vs.length = ps.length
  run : ∀ (A : Around) (outer : List Env) (s : Shared) (H : Hp) (args : Args) (us : List Value) (vs : List V) (Q : VK) (E : XK), Room k A → Env0 P w K mg base A outer s H → BindsTo s fd args (ps.zip us) → Vals vs us → sp vs H Q E →
    codeAny (model P w) A (.call (.ref f) args) (CR CX outer P w H s Q E) s
theorem FnOk.mono {P : Program} {w : World} {K : PySem.W.Frag} {mg : Str → Option Value} {base : Heap} {CX : CXT} {j k : Nat} {f : Addr} {fd : FuncData} {ps : List Str} {sp : Sp} (F : FnOk P w K mg base CX j f fd ps sp) (h : j ≤ k) :
    FnOk P w K mg base CX k f fd ps sp := ⟨F.len, fun A outer s H args us vs Q E hr => F.run A outer s H args us vs Q E (hr.mono h)⟩
theorem FnOk.imp {P : Program} {w : World} {K : PySem.W.Frag} {mg : Str → Option Value} {base : Heap} {CX : CXT} {k : Nat} {f : Addr} {fd : FuncData} {ps : List Str} {sp sp' : Sp} (F : FnOk P w K mg base CX k f fd ps sp)
    (h : ∀ vs H Q E, sp' vs H Q E → sp vs H Q E) : FnOk P w K mg base CX k f fd ps sp' :=
  ⟨fun vs H Q E q => F.len vs H Q E (h _ _ _ _ q), fun A outer s H args us vs Q E hr he hb hv hs => F.run A outer s H args us vs Q E hr he hb hv (h _ _ _ _ hs)⟩

theorem Env0.make {P : Program} {w : World} {K : PySem.W.Frag} {mg : Str → Option Value} {base : Heap} {A : Around} {outer : List Env} {s : Shared} {H : Hp} (e : Env0 P w K mg base A outer s H) (C : Addr) (us : List Value) (kw : List (Str × Value)) :
    Env0 P w K mg base (A.under (.builtin "type.__call__" ⟨.ref C :: us, kw⟩)) outer s H := ⟨by first | exact e.frames | (simpa [Around.under, Code.envs, Code.isFrame, pushEnvs] using e.frames), e.mod, e.bs, e.bsz, e.funs, e.frf, e.hok, e.bare⟩
theorem Env0.in1 {P : Program} {w : World} {K : PySem.W.Frag} {mg : Str → Option Value} {base : Heap} {A : Around} {outer : List Env} {s : Shared} {H : Hp} (e : Env0 P w K mg base A outer s H) :
    Env0 P w K mg base A.in1 outer s H := ⟨e.frames, e.mod, e.bs, e.bsz, e.funs, e.frf, e.hok, e.bare⟩

section
variable {X : Cx} {pins : List (Addr × Obj)} {σ : St} {H : Hp} {s s' : Shared}
theorem Inv.env0 (I : Inv X pins σ H s) : Env0 X.prog X.w X.K X.mg X.base X.A X.stack s H :=
  ⟨I.ok.frames, I.ok.mod, I.bs, Nat.le_trans I.ok.bsz I.sz, I.stack, I.stkFree, I.hok, I.bare⟩
theorem Inv.after {Q : VK} {u : Value} (I : Inv X pins σ H s) (h : CE X.stack X.prog X.w H s Q u s') : EP X pins σ Q u s' := by
  obtain ⟨v, H', os, bare, un, hok, r, q⟩ := h
  obtain ⟨hh, g, d, t, os'⟩ := s'
  obtain rfl : os' = s.os := os
  exact ⟨v, H', I.call (h' := hh) (g' := g) (d' := d) (t' := t) (ch := []) un hok bare (fun b z => absurd z (by simp)), r, q⟩
end

def tCall (sp : Sp) (dvs : List V) (E : XK) (t : TA) : TE := fun σ H Q => t σ H fun vs H1 => sp (vs ++ dvs) H1 Q E
def tMeth (C : Addr) (m : Str) (sp : Sp) (dvs : List V) (E : XK) (ta : TE) (t : TA) : TE := fun σ H Q => ta σ H fun x H1 => ∃ a dx fs, x = .ref a ∧ H1 a = some (.ins C dx fs) ∧ fs.lookup m = none ∧
  t σ H1 fun vs H2 => sp (x :: (vs ++ dvs)) H2 Q E
def tMake (C : Addr) (sp : Sp) (dvs : List V) (E : XK) (t : TA) : TE := fun σ H Q => t σ H fun vs H1 => ∀ x dx, H1 x = none → H1 dx = none → dx ≠ x →
  sp (.ref x :: (vs ++ dvs)) (upd (upd H1 dx (.own x)) x (.ins C dx [])) (fun v H2 => v = .non ∧ Q (.ref x) H2) E

def Binds (K : PySem.W.Frag) (fd : FuncData) (ps : List Str) (ds : List Value) : Prop :=
  ∀ (s : Shared) (us : List Value), K.In s.heap → (us ++ ds).length = ps.length → BindsTo s fd ⟨us, []⟩ (ps.zip (us ++ ds))
theorem Binds.all {K : PySem.W.Frag} {fd : FuncData} {ps : List Str} (h : ∀ us : List Value, us.length = ps.length → bindArgs fd ⟨us, []⟩ = pure (ps.zip us)) : Binds K fd ps [] := fun s us _ hl => by
  rw [List.append_nil] at hl ⊢
  exact .of_eq (h us hl)

def Passes (CX : CXT) (X : Cx) (E : XK) : Prop := ∀ (pins : List (Addr × Obj)) (σ : St) (H : Hp) (s : Shared) (e : Value) (s' : Shared), Inv X pins σ H s → CX X.stack H s E e s' → X.xe e s'

section
variable {X : Cx} {CX : CXT} {k : Nat} {f C : Addr} {fd : FuncData} {ps : List Str} {sp : Sp} {dvs : List V} {ds : List Value} {E : XK} {x m : Str} {p pos apos : Pos} {e o : Expr} {es : List Expr} {ta : TE} {t : TA}

theorem run_fn {pins : List (Addr × Obj)} {σ : St} {H : Hp} {s : Shared} {Q : VK} {us : List Value} {vs : List V} (F : FnOk X.prog X.w X.K X.mg X.base CX k f fd ps sp) (hr : Room k X.A) (hb : Binds X.K fd ps ds) (hd : Vals dvs ds) (hx : Passes CX X E)
    (I : Inv X pins σ H s) (r : Vals vs us) (h : sp (vs ++ dvs) H Q E) : wpAny (model X.prog X.w) X.A (call (.ref f) us) (EP X pins σ Q) X.xe s := by
  have r2 : Vals (vs ++ dvs) (us ++ ds) := r.append hd
  have hl : (us ++ ds).length = ps.length := by rw [← r2.length]; exact F.len _ _ _ _ h
  refine wpAny_call (codeAny_mono (F.run X.A X.stack s H ⟨us, []⟩ (us ++ ds) (vs ++ dvs) Q E hr I.env0 (hb s us I.kIn hl) r2 h) fun r s' hq => ?_)
  cases r with
  | error e => exact hx pins σ H s e s' I hq
  | ok fl =>
    cases fl with
    | ret u => exact I.after hq
    | next => exact False.elim hq
    | brk => exact False.elim hq
    | cont => exact False.elim hq

theorem pe_call (F : FnOk X.prog X.w X.K X.mg X.base CX k f fd ps sp) (hr : Room k X.A) (hg : Gl X x) (hm : X.mg x = some (.ref f)) (hk : PySem.W.keepIn X.K (.ref f) = true) (hb : Binds X.K fd ps ds) (hd : Vals dvs ds) (hx : Passes CX X E)
    (ha : PA X (e :: es) t) (hdb : (x == ("__debug__" : Str)) = false := by decide) (he : starEach (e :: es) X.env = (false, eval e X.env) :: starEach es X.env := by rfl) (hpl : (backTo pos (starEach es X.env)).any (·.1) = false := by rfl) :
    PE X (.Call (.Name x p) (e :: es) [] pos) (tCall sp dvs E t) := by
  intro pins s σ H Q I h
  refine wpAny_Call_Name_kw (ld_glob I hg hm ?_ hdb)
  refine PySem.W.callWith_K (h₀ := X.base) I.ok.mod.kin hk (thn (ha pos pins s σ H _ I h) fun us s1 ⟨vs, H1, I1, r, q⟩ => ⟨I1.kIn, ?_⟩) he hpl
  exact run_fn F hr hb hd hx I1 r q
theorem pe_meth {pl : Sem Bool} (he : PE X o ta) (c : Cls X.K C) (hm : Meth X.K C m f) (F : FnOk X.prog X.w X.K X.mg X.base CX k f fd ps sp) (hr : Room k X.A) (hb : Binds X.K fd ps ds) (hd : Vals dvs ds) (hx : Passes CX X E) (ha : PA X (e :: es) t)
    (hst : starEach (e :: es) X.env = (false, eval e X.env) :: starEach es X.env := by rfl) (hpl : (backTo pos (starEach es X.env)).any (·.1) = false := by rfl)
    (ht : eval (.Call (.Attribute o m apos) (e :: es) [] pos) X.env = (do
      let ov ← eval o X.env
      standAt apos.atName
      let (f, first) ← holding [ov] (getMethod ov m pl)
      callWith pos f first (backTo pos (starEach (e :: es) X.env)) (backToKw pos (keywordEach [] X.env))) := by rfl) :
    PE X (.Call (.Attribute o m apos) (e :: es) [] pos) (tMeth C m sp dvs E ta t) := by
  intro pins s σ H Q I h
  refine PySem.W.methodCall_KW (pl := pl) (thn (he pins s σ H _ I h) fun u s1 ⟨x, H1, I1, rx, a, dx, fs, ex, ea, l, q⟩ => ?_) ht
  subst ex
  obtain rfl : u = Value.ref a := rx
  refine getmeth_ok I1 ea c hm l ?_
  refine PySem.W.callWith_K (first := [.ref a]) (h₀ := X.base) I.ok.mod.kin hm.kp (thn (ha pos pins s1 σ H1 _ I1 q) fun us s2 ⟨vs, H2, I2, r, q2⟩ => ⟨I2.kIn, ?_⟩) hst hpl
  exact run_fn (us := .ref a :: us) (vs := .ref a :: vs) F hr hb hd hx I2 (.cons rfl r) q2
theorem pe_meth0 {pl : Sem Bool} (he : PE X o ta) (c : Cls X.K C) (hm : Meth X.K C m f) (F : FnOk X.prog X.w X.K X.mg X.base CX k f fd ps sp) (hr : Room k X.A) (hb : Binds X.K fd ps ds) (hd : Vals dvs ds) (hx : Passes CX X E)
    (ht : eval (.Call (.Attribute o m apos) [] [] pos) X.env = (do
      let ov ← eval o X.env
      standAt apos.atName
      let (f, first) ← holding [ov] (getMethod ov m pl)
      callWith pos f first (backTo pos (starEach [] X.env)) (backToKw pos (keywordEach [] X.env))) := by rfl) :
    PE X (.Call (.Attribute o m apos) [] [] pos) (tMeth C m sp dvs E ta tNil) := by
  intro pins s σ H Q I h
  refine PySem.W.methodCall_KW (pl := pl) (thn (he pins s σ H _ I h) fun u s1 ⟨x, H1, I1, rx, a, dx, fs, ex, ea, l, q⟩ => ?_) ht
  subst ex
  obtain rfl : u = Value.ref a := rx
  refine getmeth_ok I1 ea c hm l ?_
  exact PySem.W.callWith_K0 (first := [.ref a]) I1.kIn hm.kp (run_fn (us := [.ref a]) (vs := [.ref a]) F hr hb hd hx I1 (.cons rfl .nil) q)

structure Mk (K : PySem.W.Frag) (C f : Addr) : Prop where
  makes : PySem.W.makesIn K C = true
  init : PySem.W.findIn K (.ref C) "__init__" = some (some (.ref f))
  fn : PySem.W.isFn K (.ref f) = true
  kp : PySem.W.keepIn K (.ref C) = true

theorem run_make {pins : List (Addr × Obj)} {σ : St} {H : Hp} {s : Shared} {Q : VK} {us : List Value} {vs : List V} (M : Mk X.K C f) (F : FnOk X.prog X.w X.K X.mg X.base CX k f fd ps sp) (hr : Room (k + 1) X.A) (hb : Binds X.K fd ps ds) (hd : Vals dvs ds)
    (hx : Passes CX X E) (I : Inv X pins σ H s) (r : Vals vs us)
    (h : ∀ x dx, H x = none → H dx = none → dx ≠ x → sp (.ref x :: (vs ++ dvs)) (upd (upd H dx (.own x)) x (.ins C dx [])) (fun v H2 => v = .non ∧ Q (.ref x) H2) E) :
    wpAny (model X.prog X.w) X.A (call (.ref C) us) (EP X pins σ Q) X.xe s := by
  have hq := h (s.heap.objs.size + 1) s.heap.objs.size (I.hok.fresh (Nat.le_succ _)) (I.hok.fresh (Nat.le_refl _)) (Nat.ne_of_lt (Nat.lt_succ_self _))
  have I2 := Inv.made (C := C) I
  have r2 : Vals (V.ref (s.heap.objs.size + 1) :: (vs ++ dvs)) (Value.ref (s.heap.objs.size + 1) :: (us ++ ds)) := .cons rfl (r.append hd)
  have hl : (Value.ref (s.heap.objs.size + 1) :: us ++ ds).length = ps.length := by
    have e := r2.length
    rw [F.len _ _ _ _ hq] at e
    exact e.symm
  refine wpAny_call (make_map (f := f) I.kIn M.makes M.init (beq_iff_eq.mp M.fn) (codeAny_mono (F.run _ X.stack _ _ ⟨Value.ref (s.heap.objs.size + 1) :: us, []⟩ (Value.ref (s.heap.objs.size + 1) :: (us ++ ds)) _ _ E (hr.make C us [])
    (I2.env0.make C us []) (hb _ (Value.ref (s.heap.objs.size + 1) :: us) I2.kIn hl) r2 hq) fun r s' hq' => ?_))
  cases r with
  | error e => exact hx pins σ _ _ e s' I2 hq'
  | ok fl =>
    cases fl with
    | ret u =>
      obtain ⟨v, H', I3, rv, ev, q3⟩ := I2.after hq'
      subst ev
      exact ⟨rv, ⟨V.ref (s.heap.objs.size + 1), H', I3, rfl, q3⟩⟩
    | next => exact False.elim hq'
    | brk => exact False.elim hq'
    | cont => exact False.elim hq'
theorem pe_make (M : Mk X.K C f) (F : FnOk X.prog X.w X.K X.mg X.base CX k f fd ps sp) (hr : Room (k + 1) X.A) (hg : Gl X x) (hm : X.mg x = some (.ref C)) (hb : Binds X.K fd ps ds) (hd : Vals dvs ds) (hx : Passes CX X E)
    (ha : PA X (e :: es) t) (hdb : (x == ("__debug__" : Str)) = false := by decide) (he : starEach (e :: es) X.env = (false, eval e X.env) :: starEach es X.env := by rfl) (hpl : (backTo pos (starEach es X.env)).any (·.1) = false := by rfl) :
    PE X (.Call (.Name x p) (e :: es) [] pos) (tMake C sp dvs E t) := by
  intro pins s σ H Q I h
  refine wpAny_Call_Name_kw (ld_glob I hg hm ?_ hdb)
  refine PySem.W.callWith_K (h₀ := X.base) I.ok.mod.kin M.kp (thn (ha pos pins s σ H _ I h) fun us s1 ⟨vs, H1, I1, r, q⟩ => ⟨I1.kIn, ?_⟩) he hpl
  exact run_make M F hr hb hd hx I1 r q
end

section
variable {X : Cx} {CX : CXT} {k : Nat} {f C : Addr} {fd : FuncData} {ps ks : List Str} {sp : Sp} {E : XK} {x m : Str} {p pos apos kpos : Pos} {e o : Expr} {es : List Expr} {kws : List Keyword} {te ta : TE} {t tk : TA} {nm : Option Str}
variable {g : List Value → List Value → List Value} {gV : List V → List V → List V}
end

structure FnScope (N P : List Str) (sc : Scope) : Prop where
  kind : sc.kind = .function
  co : sc.isCoroutine = false
  gen : sc.isGenerator = false
  nd : N.Nodup
  pre : N.take P.length = P
  par : ∀ x ∈ P, sc.names.lookup x = some .local ∨ sc.names.lookup x = some .cell
  nofree : ∀ y ∈ sc.names, y.2 ≠ .free

theorem bindL_out {kindOf : Str → Option NameKind} {x : Str} : ∀ {binds : List (Str × Value)} {m : Str → Option Value}, (∀ v, (x, v) ∉ binds) → bindL kindOf binds m x = m x
  | [], _, _ => rfl
  | (n, v) :: r, m, h => by
    unfold bindL
    rw [bindL_out fun w hw => h w (List.mem_cons_of_mem _ hw)]
    split
    · have : x ≠ n := by rintro rfl; exact h v List.mem_cons_self
      simp [this]
    · rfl
theorem bindC_out {kindOf : Str → Option NameKind} {x : Str} : ∀ {binds : List (Str × Value)} {m : Str → Option Value}, (∀ v, (x, v) ∉ binds) → bindC kindOf binds m x = m x
  | [], _, _ => rfl
  | (n, v) :: r, m, h => by
    unfold bindC
    rw [bindC_out fun w hw => h w (List.mem_cons_of_mem _ hw)]
    split
    · rfl
    · have : x ≠ n := by rintro rfl; exact h v List.mem_cons_self
      simp [this]
theorem bindL_get {kindOf : Str → Option NameKind} {x : Str} {v : Value} : ∀ {P : List Str} {vs : List Value} {i : Nat} {m : Str → Option Value}, P.Nodup → P[i]? = some x → vs[i]? = some v → kindOf x = some .local →
    bindL kindOf (P.zip vs) m x = some v
  | [], _, _, _, _, h, _, _ => by simp at h
  | _ :: _, [], _, _, _, _, h, _ => by simp at h
  | p :: P, w :: vs, 0, m, nd, h1, h2, hk => by
    simp at h1 h2; subst h1; subst h2
    show bindL kindOf ((p, w) :: P.zip vs) m p = _
    unfold bindL
    rw [bindL_out fun v hv => (List.nodup_cons.mp nd).1 (List.of_mem_zip hv).1, if_pos hk]
    simp
  | p :: P, w :: vs, i + 1, m, nd, h1, h2, hk => by
    show bindL kindOf ((p, w) :: P.zip vs) m x = _
    unfold bindL
    exact bindL_get (i := i) (List.nodup_cons.mp nd).2 (by simpa using h1) (by simpa using h2) hk
theorem bindC_get {kindOf : Str → Option NameKind} {x : Str} {v : Value} : ∀ {P : List Str} {vs : List Value} {i : Nat} {m : Str → Option Value}, P.Nodup → P[i]? = some x → vs[i]? = some v → kindOf x ≠ some .local →
    bindC kindOf (P.zip vs) m x = some v
  | [], _, _, _, _, h, _, _ => by simp at h
  | _ :: _, [], _, _, _, _, h, _ => by simp at h
  | p :: P, w :: vs, 0, m, nd, h1, h2, hk => by
    simp at h1 h2; subst h1; subst h2
    show bindC kindOf ((p, w) :: P.zip vs) m p = _
    unfold bindC
    rw [bindC_out fun v hv => (List.nodup_cons.mp nd).1 (List.of_mem_zip hv).1, if_neg hk]
    simp
  | p :: P, w :: vs, i + 1, m, nd, h1, h2, hk => by
    show bindC kindOf ((p, w) :: P.zip vs) m x = _
    unfold bindC
    exact bindC_get (i := i) (List.nodup_cons.mp nd).2 (by simpa using h1) (by simpa using h2) hk

def start (N : List Str) (vs : List V) : St := vs.map some ++ List.replicate (N.length - vs.length) none

def cxOf (CX : CXT) (P : Program) (w : World) (K : PySem.W.Frag) (mg : Str → Option Value) (base : Heap) (N : List Str) (qual : Str) (scope : Scope) (f : Addr) (cd : Value) (A : Around) (outer : List Env) (s : Shared) (H : Hp) (E : XK) : Cx where
  prog := P
  w := w
  K := K
  mg := mg
  base := base
  A := A.deeper (envOfC qual scope s.heap.objs.size f cd)
  N := N
  s₀ := s
  H₀ := H
  env := envOfC qual scope s.heap.objs.size f cd
  outer := outer
  stack := envOfC qual scope s.heap.objs.size f cd :: outer
  ex := []
  calm := true
  fn := fun _ => true
  pn := []
  xe := fun e s' => wpAny (model P w) (A.deeper (envOfC qual scope s.heap.objs.size f cd)) (leaving (envOfC qual scope s.heap.objs.size f cd) e) (fun _ s'' => CX outer H s E e s'') (fun e' s'' => CX outer H s E e' s'') s'

theorem cell_has {sc : Scope} {n : Nat} {x : Str} (h : sc.names.lookup x = some .cell) : ∃ c, (cellsFrom n sc.names []).lookup x = some c := by
  have q := PySem.W.cellsFrom_some sc.names n [] (.inl h)
  exact Option.isSome_iff_exists.mp q

theorem inv_start {CX : CXT} {P : Program} {w : World} {K : PySem.W.Frag} {mg : Str → Option Value} {base : Heap} {N ps : List Str} {qual : Str} {scope : Scope} {f : Addr} {cd : Value} {A : Around} {outer : List Env} {s s1 : Shared} {H : Hp} {E : XK} {us : List Value} {vs : List V}
    (S : FnScope N ps scope) (hd : A.handled = none) (e0 : Env0 P w K mg base A outer s H) (hl : vs.length = ps.length) (r : Vals vs us)
    (x : InCallC s s.heap.objs.size (bindL (envOfC qual scope s.heap.objs.size f cd).kindOf (ps.zip us) fun _ => none) (cellsFrom (s.heap.objs.size + 1) scope.names []) (bindC (envOfC qual scope s.heap.objs.size f cd).kindOf (ps.zip us) fun _ => none) s1) :
    Inv (cxOf CX P w K mg base N qual scope f cd A outer s H E) [] (start N vs) H s1 := by
  have hpl : ps.length ≤ N.length := by have := congrArg List.length S.pre; rw [List.length_take] at this; omega
  obtain ⟨h1, tk, rfl, hk⟩ := x.done
  have noA : ∀ b : Addr, b ∉ (cxOf CX P w K mg base N qual scope f cd A outer s H E).ex := fun b z => absurd (show b ∈ ([] : List Addr) from z) (by simp)
  refine ⟨⟨e0.mod, S.kind, rfl, rfl, Nat.le_refl _, fun y z c h1 h2 => ?_, fun y hy => ?_, fun y c _ h => ?_, fun _ => hd, Around.frames_deeper e0.frames, .inr ⟨rfl, rfl⟩, fun b z => absurd z (noA b), e0.bs, e0.bsz, fun b _ _ => noA b, fun b z => absurd z (noA b), e0.funs, e0.frf⟩,
    rfl, e0.bare, Un.kept hk, ⟨_, x.toInCall.ns, fun i y v h1 h2 h3 => ?_⟩, fun y c h => ⟨_, x.cell y c h⟩, e0.hok.fresh (Nat.le_refl _), fun y c h => ?_, fun p hp => absurd (show p ∈ ([] : List (Addr × Obj)) from hp) (by simp), e0.hok.kept hk, ?_⟩
  · exact name_of_addr x.apart (PySem.mem_of_lookup h1) (PySem.mem_of_lookup h2)
  · have hy : scope.names.lookup y = some .cell ∨ scope.names.lookup y = some .free := hy
    rcases hy with hy | hy
    · exact cell_has hy
    · exact absurd rfl (S.nofree _ (PySem.mem_of_lookup hy))
  · exact Nat.le_of_lt (x.above y c (PySem.mem_of_lookup h))
  · have hi : i < vs.length := by
      unfold start at h2
      by_cases hi : i < vs.length
      · exact hi
      · rw [List.getElem?_append_right (by simpa using hi)] at h2
        rw [List.getElem?_replicate] at h2
        split at h2 <;> cases h2
    have ha : vs[i]? = some v := by
      unfold start at h2
      rw [List.getElem?_append_left (by simpa using hi), List.getElem?_map] at h2
      cases e : vs[i]? with
      | none => rw [e] at h2; cases h2
      | some a => rw [e] at h2; cases h2; rfl
    obtain ⟨u, hu, rv⟩ := r.get ha
    have hp : ps[i]? = some y := by
      rw [← S.pre, List.getElem?_take_of_lt (by omega)]; exact h1
    have ndP : ps.Nodup := by rw [← S.pre]; exact S.nd.sublist (List.take_sublist _ _)
    refine ⟨u, rv, ?_⟩
    rcases S.par y (List.mem_of_getElem? hp) with k | k
    · exact .inl ⟨k, bindL_get ndP hp hu k⟩
    · obtain ⟨c, e⟩ := cell_has (n := s.heap.objs.size + 1) k
      refine .inr ⟨.inl k, c, e, ?_⟩
      have q := x.cell y c e
      rw [bindC_get ndP hp hu (by show scope.names.lookup y ≠ _; rw [k]; decide)] at q
      exact q
  · exact e0.hok.fresh (Nat.le_of_lt (x.above y c (PySem.mem_of_lookup h)))
  · unfold start
    show _ = N.length
    rw [List.length_append, List.length_map, List.length_replicate]
    omega

theorem fn_of {CX : CXT} {P : Program} {w : World} {K : PySem.W.Frag} {mg : Str → Option Value} {base : Heap} {k : Nat} {f : Addr} {name qual : Str} {params : Arguments} {body : List Stmt} {scope : Scope} {dV kV doc pm cdv ct oc : Value} {an od : Option Addr}
    {osl : Array (Option Value)} {N ps : List Str} {sp : Sp} (lk : K.lookup f = some ⟨oc, od, .func (PySem.W.fnOf name qual params body scope dV kV doc pm an cdv ct), osl⟩) (hcd : PySem.W.codeIn K cdv qual = true) (S : FnScope N ps scope)
    (len : ∀ vs H Q E, sp vs H Q E → vs.length = ps.length)
    (hbody : ∀ (A : Around) (outer : List Env) (s : Shared) (H : Hp) (vs : List V) (Q : VK) (E : XK), Room k (A.deeper (envOfC qual scope s.heap.objs.size f cdv)) → sp vs H Q E →
      ∃ t, PSs (cxOf CX P w K mg base N qual scope f cdv A outer s H E) body t ∧ t { nx := fun _ H' => Q .non H', rt := Q } (start N vs) H) :
    FnOk P w K mg base CX (k + 1) f (PySem.W.fnOf name qual params body scope dV kV doc pm an cdv ct) ps sp := by
  refine ⟨len, fun A outer s H args us vs Q E hr e0 hb r hsp => ?_⟩
  have hl := len _ _ _ _ hsp
  have KX : K.In s.heap := e0.mod.kin.keeps fun b o e => (e0.bs b o e).1
  have lim : s.heap.NoLimit := e0.mod.nolimit.keeps fun b o e => (e0.bs b o e).1
  have hkind : ∀ y ∈ ps.zip us, scope.names.lookup y.1 = some .local ∨ (scope.names.lookup y.1 = some .cell ∧ ((cellsFrom (s.heap.objs.size + 1) scope.names []).lookup y.1).isSome = true) := fun ⟨n, v⟩ hy => by
    rcases S.par n (List.of_mem_zip hy).1 with q | q
    · exact .inl q
    · exact .inr ⟨q, PySem.W.cellsFrom_some _ _ _ (.inl q)⟩
  refine codeAny_call_function hr.depth (KX _ _ lk) rfl S.co S.gen rfl (PySem.W.codeRec_of KX hcd) (hb _ _ _ _ ?_)
  refine wpAny_newFunctionEnv_cells S.kind hkind fun env he s1 x => ?_
  subst he
  refine ⟨lim.keeps x.toInCall.keep, codeAny_func ?_⟩
  obtain ⟨t, ht, hq⟩ := hbody A outer s H vs Q E (hr.deeper _) hsp
  have I : Inv (cxOf CX P w K mg base N qual scope f cdv A outer s H E) [] (start N vs) H s1 := inv_start S hr.hd e0 hl r x
  refine wpAny_mono (ht [] s1 (start N vs) H _ I hq) (fun fl s' hs => ?_) fun e s' hs => hs
  have fin : ∀ {σ' : St} {H' : Hp} {v : V} {u : Value}, Inv (cxOf CX P w K mg base N qual scope f cdv A outer s H E) [] σ' H' s' → RelV v u → Q v H' → CE outer P w H s Q u s' :=
    fun {σ' H' v u} J rv q => ⟨v, H', J.os, J.bare, J.base, J.hok, rv, q⟩
  cases fl with
  | ret u =>
    obtain ⟨v, σ', H', J, rv, q⟩ := hs
    exact fin J rv q
  | next =>
    obtain ⟨σ', H', J, q⟩ := hs
    exact fin (v := V.non) (u := Value.none) J rfl q
  | brk =>
    obtain ⟨_, _, _, q⟩ := hs
    exact False.elim q
  | cont =>
    obtain ⟨_, _, _, q⟩ := hs
    exact False.elim q
end L2

namespace L2
open PySem PySem.Spec PyProof.Rows
section
variable {X : Cx} {x : Str} {p pos : Pos} {e : Expr} {es : List Expr} {t : TA} {id T : String} {r : List V → Hp → VK → Prop}

def tCB (r : List V → Hp → VK → Prop) (t : TA) : TE := fun σ H Q => t σ H fun vs H1 => r vs H1 Q
theorem pe_callB (hc : CallR X (.builtin id) r) (hg : Gl X x) (hm : X.mg x = none) (hv : bootBuiltins x = some (.builtin id)) (ha : PA X (e :: es) t) (hn : x ≠ "__name__" := by decide) (hdb : (x == ("__debug__" : Str)) = false := by decide)
    (he : starEach (e :: es) X.env = (false, eval e X.env) :: starEach es X.env := by rfl) (hpl : (backTo pos (starEach es X.env)).any (·.1) = false := by rfl) : PE X (.Call (.Name x p) (e :: es) [] pos) (tCB r t) := by
  intro pins s σ H Q I h
  refine wpAny_Call_Name_kw (ld_blt I hg hm hv ?_ hn hdb)
  exact PyProof.Rows.callWith_builtin1 (thn (ha pos pins s σ H _ I h) fun us s1 ⟨vs, H1, I1, r1, q1⟩ => hc pins s1 σ H1 vs us Q I1 r1 q1) he hpl
theorem pe_callTy (hc : CallR X (.type T) r) (hg : Gl X x) (hm : X.mg x = none) (hv : bootBuiltins x = some (.type T)) (ha : PA X (e :: es) t) (hn : x ≠ "__name__" := by decide) (hdb : (x == ("__debug__" : Str)) = false := by decide)
    (he : starEach (e :: es) X.env = (false, eval e X.env) :: starEach es X.env := by rfl) (hpl : (backTo pos (starEach es X.env)).any (·.1) = false := by rfl) : PE X (.Call (.Name x p) (e :: es) [] pos) (tCB r t) := by
  intro pins s σ H Q I h
  refine wpAny_Call_Name_kw (ld_blt I hg hm hv ?_ hn hdb)
  exact PyProof.Rows.callWith_type1 (thn (ha pos pins s σ H _ I h) fun us s1 ⟨vs, H1, I1, r1, q1⟩ => hc pins s1 σ H1 vs us Q I1 r1 q1) he hpl
end
end L2

namespace L2
open PySem PySem.Spec PyProof.Rows

section
variable {κ : Type} [DecidableEq κ]
def valV (kvs : List (κ × V)) (k : κ) : Option V := (kvs.find? fun kv => decide (kv.1 = k)).map (·.2)
def putK (kvs : List (κ × V)) (k : κ) (v : V) : List (κ × V) :=
  if (kvs.any fun kv => decide (kv.1 = k)) = true then kvs.map (fun kv => if kv.1 = k then (kv.1, v) else kv) else kvs ++ [(k, v)]
def dropK (kvs : List (κ × V)) (k : κ) : List (κ × V) := kvs.filter fun kv => decide (kv.1 ≠ k)

theorem valV_nil {k : κ} : valV ([] : List (κ × V)) k = none := rfl
theorem valV_pos {p : κ × V} {r : List (κ × V)} {k : κ} (e : p.1 = k) : valV (p :: r) k = some p.2 := by simp [valV, List.find?_cons, e]
theorem valV_neg {p : κ × V} {r : List (κ × V)} {k : κ} (e : ¬ p.1 = k) : valV (p :: r) k = valV r k := by simp [valV, List.find?_cons, e]
theorem valV_any (k : κ) : ∀ kvs : List (κ × V), (kvs.any fun kv => decide (kv.1 = k)) = (valV kvs k).isSome
  | [] => rfl
  | p :: r => by
    rw [List.any_cons]
    by_cases e : p.1 = k
    · simp only [valV_pos e, decide_eq_true e, Bool.true_or, Option.isSome_some]
    · rw [valV_neg e, decide_eq_false e, Bool.false_or]; exact valV_any k r
theorem length_putK (kvs : List (κ × V)) (k : κ) (v : V) : (putK kvs k v).length ≤ kvs.length + 1 := by
  unfold putK
  split
  · rw [List.length_map]; omega
  · rw [List.length_append, List.length_cons, List.length_nil]; omega
theorem putK_new {kvs : List (κ × V)} {k : κ} (v : V) (h : valV kvs k = none) : putK kvs k v = kvs ++ [(k, v)] := by
  unfold putK
  rw [valV_any, h]
  exact if_neg (by decide)

theorem RelO.isSome_eq {o : Option V} {u : Option Value} (r : RelO o u) : o.isSome = u.isSome := by
  cases o with
  | none => cases u with
    | none => rfl
    | some _ => exact (show False from r).elim
  | some _ => cases u with
    | none => exact (show False from r).elim
    | some _ => rfl
theorem RelO.getD {o : Option V} {u : Option Value} {d : V} {d' : Value} (r : RelO o u) (rd : RelV d d') : RelV (o.getD d) (u.getD d') := by
  cases o with
  | none => cases u with
    | none => exact rd
    | some _ => exact (show False from r).elim
  | some _ => cases u with
    | none => exact (show False from r).elim
    | some _ => exact r

theorem KV.val {kvs : List (κ × V)} {vs : List (κ × Value)} (r : KV kvs vs) (k : κ) : RelO (valV kvs k) (valueAt vs k) := by
  unfold KV at r
  induction r with
  | nil => exact True.intro
  | @cons p q ps qs h t ih =>
    obtain ⟨h1, h2⟩ := h
    by_cases e : p.1 = k
    · have e' : q.1 = k := h1.symm.trans e
      have b : valueAt (q :: qs) k = some q.2 := by simp [valueAt, List.find?_cons, e']
      rw [valV_pos e, b]; exact h2
    · have e' : ¬ q.1 = k := fun z => e (h1.trans z)
      have b : valueAt (q :: qs) k = valueAt qs k := by simp [valueAt, List.find?_cons, e']
      rw [valV_neg e, b]; exact ih
theorem KV.any {kvs : List (κ × V)} {vs : List (κ × Value)} (r : KV kvs vs) (k : κ) : (kvs.any fun kv => decide (kv.1 = k)) = vs.any fun kv => decide (kv.1 = k) := by
  unfold KV at r
  induction r with
  | nil => rfl
  | cons h t ih => rw [List.any_cons, List.any_cons, ih, h.1]
theorem KV.repl {kvs : List (κ × V)} {vs : List (κ × Value)} (r : KV kvs vs) (k : κ) {y : V} {u : Value} (ry : RelV y u) :
    KV (kvs.map fun kv => if kv.1 = k then (kv.1, y) else kv) (vs.map fun kv => if kv.1 = k then (kv.1, u) else kv) := by
  unfold KV at r ⊢
  induction r with
  | nil => exact .nil
  | @cons p q ps qs h t ih =>
    rw [List.map_cons, List.map_cons]
    refine .cons ?_ ih
    obtain ⟨h1, h2⟩ := h
    by_cases e : p.1 = k
    · rw [if_pos e, if_pos (h1.symm.trans e)]; exact ⟨h1, ry⟩
    · rw [if_neg e, if_neg (fun z => e (h1.trans z))]; exact ⟨h1, h2⟩
theorem KV.put {kvs : List (κ × V)} {vs : List (κ × Value)} (r : KV kvs vs) (k : κ) {y : V} {u : Value} (ry : RelV y u) : KV (putK kvs k y) (stored vs k u) := by
  unfold putK stored
  rw [r.any k]
  by_cases e : (vs.any fun kv => decide (kv.1 = k)) = true
  · rw [if_pos e, if_pos e]; exact r.repl k ry
  · rw [if_neg e, if_neg e]; exact Paired.snoc r ⟨rfl, ry⟩
theorem KV.drop {kvs : List (κ × V)} {vs : List (κ × Value)} (r : KV kvs vs) (k : κ) : KV (dropK kvs k) (without vs k) := by
  unfold KV at r ⊢
  unfold dropK without
  induction r with
  | nil => exact .nil
  | @cons p q ps qs h t ih =>
    obtain ⟨h1, h2⟩ := h
    rw [List.filter_cons, List.filter_cons]
    by_cases e : p.1 = k
    · have a : ¬ decide (p.1 ≠ k) = true := by simp [e]
      have b : ¬ decide (q.1 ≠ k) = true := by simp [h1.symm.trans e]
      rw [if_neg a, if_neg b]; exact ih
    · have e' : ¬ q.1 = k := fun z => e (h1.trans z)
      have a : decide (p.1 ≠ k) = true := by simp [e]
      have b : decide (q.1 ≠ k) = true := by simp [e']
      rw [if_pos a, if_pos b]; exact .cons ⟨h1, h2⟩ ih
theorem KV.keys {kvs : List (κ × V)} {vs : List (κ × Value)} (r : KV kvs vs) : kvs.map (·.1) = vs.map (·.1) := by
  unfold KV at r
  induction r with
  | nil => rfl
  | cons h t ih => rw [List.map_cons, List.map_cons, ih, h.1]
theorem KV.length {kvs : List (κ × V)} {vs : List (κ × Value)} (r : KV kvs vs) : kvs.length = vs.length := Paired.length r
end


theorem kV_is {P : Program} {w : World} {k : Key} {u : Value} (r : RelV (kV k) u) : (mixKind P w).is k u = true := by
  cases k with
  | inl i => obtain ⟨t, e⟩ := (show ∃ t, u = Value.int i t from r); subst e; exact mixKind_int P w i t
  | inr x => obtain ⟨t, e⟩ := (show ∃ t, u = Value.str x t from r); subst e; exact mixKind_str P w x t
theorem items_are {P : Program} {w : World} : ∀ {ks : List Key} {us : List Value}, Vals (ks.map kV) us → ItemsAre (mixKind P w) ks us
  | [], _, r => by rw [List.map_nil] at r; cases r; exact .nil
  | k :: ks, _, r => by
    rw [List.map_cons] at r
    cases r with
    | cons h t => exact .cons (kV_is h) (items_are t)

abbrev KT (H : Hp) : List (List Key × V) → List (List Key × Addr × Value) → Prop := Paired fun p q => p.1 = q.1 ∧ H q.2.1 = some (.tup (p.1.map kV)) ∧ RelV p.2 q.2.2
theorem KT.val {H : Hp} {kvs : List (List Key × V)} {xs : List (List Key × Addr × Value)} (r : KT H kvs xs) (k : List Key) : RelO (valV kvs k) ((atKey xs k).map (·.2)) := by
  induction r with
  | nil => exact True.intro
  | @cons p q ps qs h t ih =>
    obtain ⟨h1, _, h2⟩ := h
    by_cases e : p.1 = k
    · have e' : q.1 = k := h1.symm.trans e
      have b : atKey (q :: qs) k = some q.2 := by simp [atKey, List.find?_cons, e']
      rw [valV_pos e, b]; exact h2
    · have e' : ¬ q.1 = k := fun z => e (h1.trans z)
      have b : atKey (q :: qs) k = atKey qs k := by simp [atKey, List.find?_cons, e']
      rw [valV_neg e, b]; exact ih
theorem KT.repl {H : Hp} {kvs : List (List Key × V)} {xs : List (List Key × Addr × Value)} (r : KT H kvs xs) (k : List Key) {y : V} {u : Value} (ry : RelV y u) :
    KT H (kvs.map fun kv => if kv.1 = k then (kv.1, y) else kv) (xs.map (putAt k u)) := by
  induction r with
  | nil => exact .nil
  | @cons p q ps qs h t ih =>
    rw [List.map_cons, List.map_cons]
    refine .cons ?_ ih
    obtain ⟨h1, h2, h3⟩ := h
    unfold putAt
    by_cases e : p.1 = k
    · rw [if_pos e, if_pos (h1.symm.trans e)]; exact ⟨h1, h2, ry⟩
    · rw [if_neg e, if_neg (fun z => e (h1.trans z))]; exact ⟨h1, h2, h3⟩
theorem KT.put {H : Hp} {kvs : List (List Key × V)} {xs : List (List Key × Addr × Value)} (r : KT H kvs xs) (k : List Key) {b : Addr} {y : V} {u : Value} (hb : H b = some (.tup (k.map kV))) (ry : RelV y u) :
    KT H (putK kvs k y) (storedH xs k b u) := by
  have e : (kvs.any fun kv => decide (kv.1 = k)) = (atKey xs k).isSome := by
    rw [valV_any, (r.val k).isSome_eq, Option.isSome_map]
  unfold putK storedH
  rw [e]
  by_cases q : (atKey xs k).isSome = true
  · rw [if_pos q, if_pos q]; exact r.repl k ry
  · rw [if_neg q, if_neg q]; exact Paired.snoc r ⟨rfl, hb, ry⟩
theorem KT.keeps {H H' : Hp} {kvs : List (List Key × V)} {xs : List (List Key × Addr × Value)} (r : KT H kvs xs) (ht : ∀ b ys, H b = some (.tup ys) → H' b = some (.tup ys)) : KT H' kvs xs :=
  Paired.mapP r fun _ _ z => ⟨z.1, ht _ _ z.2.1, z.2.2⟩

section
variable {P : Program} {w : World} {H : Hp} {h : Heap} {a : Addr}
theorem rd_of {u : HO} (ok : HOk P w H h) (e : Rd H a u) : ObjOk P w H h a u := e.ok ok
theorem dk_rd {kvs : List (Key × V)} (ok : HOk P w H h) (e : Rd H a (.dK kvs)) : kvs.length ≤ sizeLine ∧ (a == sysModules) = false ∧ ∃ vs, KV kvs vs ∧ h.DictOf (mixKind P w) a vs :=
  show ObjOk P w H h a (.dK kvs) from rd_of ok e
theorem dk_of {kvs : List (Key × V)} (ok : HOk P w H h) (e : H a = some (.dK kvs)) : kvs.length ≤ sizeLine ∧ (a == sysModules) = false ∧ ∃ vs, KV kvs vs ∧ h.DictOf (mixKind P w) a vs := dk_rd ok (.inl e)
theorem key_of {ks : List Key} (ok : HOk P w H h) (e : H a = some (.tup (ks.map kV))) : (tupleKind (mixKind P w)).is h ks a := by
  obtain ⟨_, its, r, o, h1, h2, n, h3⟩ := (show ObjOk P w H h a (.tup (ks.map kV)) from ok a _ e)
  exact ⟨o, its.toArray, n, h1, h2, h3, by simpa using items_are r⟩
theorem dt_rd {kvs : List (List Key × V)} (ok : HOk P w H h) (e : Rd H a (.dT kvs)) : kvs.length ≤ sizeLine ∧ (a == sysModules) = false ∧
    ∃ xs, KT H kvs xs ∧ h.DictOfH (tupleKind (mixKind P w)) a xs := by
  obtain ⟨z, y, xs, r, o, es, ep, h1, h2, h3, h4, h5⟩ := (show ObjOk P w H h a (.dT kvs) from rd_of ok e)
  refine ⟨z, y, xs, r, o, es, ep, h1, h2, h3, h4, fun x hx => ?_, h5⟩
  have all : ∀ {l : List (List Key × V)} {m : List (List Key × Addr × Value)}, KT H l m → ∀ x ∈ m, (tupleKind (mixKind P w)).is h x.1 x.2.1 := by
    intro l m q
    induction q with
    | nil => intro x hx; exact nomatch hx
    | @cons p q ps qs hq t ih =>
      intro x hx
      rcases List.mem_cons.mp hx with e | hx
      · subst e
        exact key_of ok (by rw [← hq.1]; exact hq.2.1)
      · exact ih x hx
  exact all r x hx
theorem dt_of {kvs : List (List Key × V)} (ok : HOk P w H h) (e : H a = some (.dT kvs)) : kvs.length ≤ sizeLine ∧ (a == sysModules) = false ∧
    ∃ xs, KT H kvs xs ∧ h.DictOfH (tupleKind (mixKind P w)) a xs := dt_rd ok (.inl e)
end

def DGet (H : Hp) (a : Addr) (y : V) (r : Option V) : Prop :=
  (∃ kvs k, Rd H a (.dK kvs) ∧ y = kV k ∧ r = valV kvs k) ∨ ∃ kvs k b, Rd H a (.dT kvs) ∧ y = .ref b ∧ H b = some (.tup (k.map kV)) ∧ r = valV kvs k
def DPut (H : Hp) (a : Addr) (y v : V) (H' : Hp) : Prop :=
  (∃ kvs k, H a = some (.dK kvs) ∧ y = kV k ∧ kvs.length < sizeLine ∧ H' = upd H a (.dK (putK kvs k v))) ∨
  ∃ kvs k b, H a = some (.dT kvs) ∧ y = .ref b ∧ H b = some (.tup (k.map kV)) ∧ kvs.length < sizeLine ∧ H' = upd H a (.dT (putK kvs k v))
theorem DGet.k {H : Hp} {a : Addr} {kvs : List (Key × V)} {k : Key} (e : H a = some (.dK kvs)) : DGet H a (kV k) (valV kvs k) := .inl ⟨kvs, k, .inl e, rfl, rfl⟩
theorem DGet.t {H : Hp} {a b : Addr} {kvs : List (List Key × V)} {k : List Key} (e : H a = some (.dT kvs)) (eb : H b = some (.tup (k.map kV))) : DGet H a (.ref b) (valV kvs k) := .inr ⟨kvs, k, b, .inl e, rfl, eb, rfl⟩
theorem DPut.k {H : Hp} {a : Addr} {kvs : List (Key × V)} {k : Key} {v : V} (e : H a = some (.dK kvs)) (hl : kvs.length < sizeLine) : DPut H a (kV k) v (upd H a (.dK (putK kvs k v))) := .inl ⟨kvs, k, e, rfl, hl, rfl⟩
theorem DPut.t {H : Hp} {a b : Addr} {kvs : List (List Key × V)} {k : List Key} {v : V} (e : H a = some (.dT kvs)) (eb : H b = some (.tup (k.map kV))) (hl : kvs.length < sizeLine) :
    DPut H a (.ref b) v (upd H a (.dT (putK kvs k v))) := .inr ⟨kvs, k, b, e, rfl, eb, hl, rfl⟩


section
variable {X : Cx} {pins : List (Addr × Obj)} {σ : St} {H : Hp} {s : Shared} {a : Addr} {y v : V} {u r : Value} {o : Option V} {A : Around} {E : Value → Shared → Prop}

theorem Inv.big (I : Inv X pins σ H s) : sysModules < s.heap.objs.size := by
  have h : mainGlobals < s.heap.objs.size := (I.mod.glob.keeps I.bk).lt
  exact Nat.lt_trans (by decide) h

theorem d_getItem {Q : Value → Shared → Prop} (hu : A.units + 1 < cLine) (I : Inv X pins σ H s) (g : DGet H a y (some v)) (ry : RelV y u) (h : ∀ w' s', Inv X pins σ H s' → RelV v w' → Q w' s') :
    wpAny (model X.prog X.w) A (getItem (.ref a) u) Q E s := by
  rcases g with ⟨kvs, k, e, ey, l⟩ | ⟨kvs, k, b, e, ey, eb, l⟩
  · subst ey
    obtain ⟨z, hd, vs, rel, dd⟩ := dk_rd I.hok e
    obtain ⟨w', hw, rw'⟩ := RelO.some_of (v := v) (o := valueAt vs k) (by rw [l]; exact rel.val k)
    exact wpAny_getItem_of (kV_is ry) dd.mapOf hw (h w' _ (I.tok _) rw')
  · subst ey
    cases (show u = Value.ref b from ry)
    obtain ⟨z, hd, xs, rel, dd⟩ := dt_rd I.hok e
    obtain ⟨w', hw, rw'⟩ := RelO.some_of (v := v) (o := (atKey xs k).map (·.2)) (by rw [l]; exact rel.val k)
    obtain ⟨p, hp, hp2⟩ := Option.map_eq_some_iff.mp hw
    refine wpAny_getItem_heap (tupleKind_room_in1 hu) (key_of I.hok eb) dd hp ?_
    rw [hp2]
    exact h w' _ (I.tok _) rw'
theorem d_write {h' : Heap} {t' : Nat} {ob : HO} (I : Inv X pins σ H s) (mu : Mut (H a)) (hs : Heap.SameBut a s.heap h') (he : ∃ q, h'.get? a = some q) (new : ObjOk X.prog X.w (upd H a ob) h' a ob) :
    Inv X pins σ (upd H a ob) { s with heap := h', toks := t' } :=
  I.write (x := a) (e := a) mu (.inl rfl) (fun b q hb z => (hs.2 b hb).trans z) he new
theorem dk_new {P : Program} {w : World} {H' : Hp} {h' : Heap} {kvs : List (Key × V)} {vs : List (Key × Value)} (z : kvs.length ≤ sizeLine) (hd : (a == sysModules) = false) (rel : KV kvs vs) (dd : h'.DictOf (mixKind P w) a vs) :
    ObjOk P w H' h' a (.dK kvs) := ⟨z, hd, vs, rel, dd⟩
theorem d_setItem {H' : Hp} {Q : Unit → Shared → Prop} (hu : A.units + 1 < cLine) (I : Inv X pins σ H s) (g : DPut H a y v H') (ry : RelV y u) (rv : RelV v r) (h : ∀ s', Inv X pins σ H' s' → Q () s') :
    wpAny (model X.prog X.w) A (setItem (.ref a) u r) Q E s := by
  rcases g with ⟨kvs, k, e, ey, l, eH⟩ | ⟨kvs, k, b, e, ey, eb, l, eH⟩
  · subst ey eH
    obtain ⟨z, hd, vs, rel, dd⟩ := dk_of I.hok e
    have hz : vs.length ≤ sizeLine := by rw [← rel.length]; exact z
    have hl : (putK kvs k v).length ≤ sizeLine := by have := length_putK kvs k v; omega
    refine wpAny_setItem_pairs (hsz := hz) (kV_is ry) dd fun h' dd' hs => h _ ?_
    have he : ∃ q, h'.get? a = some q := let ⟨q, _, _, hq, _⟩ := dd'; ⟨q, hq⟩
    exact d_write I (by rw [e]; exact True.intro) hs he (dk_new hl hd (rel.put k rv) dd')
  · subst ey eH
    cases (show u = Value.ref b from ry)
    obtain ⟨z, hd, xs, rel, dd⟩ := dt_of I.hok e
    have hz : xs.length ≤ sizeLine := by rw [← Paired.length rel]; exact z
    have hl : (putK kvs k v).length ≤ sizeLine := by have := length_putK kvs k v; omega
    refine wpAny_setItem_heap (hsz := hz) (tupleKind_room_in1 hu) (key_of I.hok eb) dd fun h' dd' hs => h _ ?_
    obtain ⟨q, es, ep, hq, h2, h3, h4, _, h5⟩ := dd'
    refine d_write I (by rw [e]; exact True.intro) hs ⟨q, hq⟩ ⟨hl, hd, _, (rel.put k eb rv).keeps fun c ys ec => ?_, q, es, ep, hq, h2, h3, h4, h5⟩
    rw [upd_ne (ne_of ec e (fun z => nomatch z))]
    exact ec
end

section
variable {X : Cx} {pins : List (Addr × Obj)} {σ : St} {H : Hp} {s : Shared} {a : Addr} {kvs : List (Key × V)} {k : Key} {u : Value} {A : Around} {E : Value → Shared → Prop}
end


def NoSl (i : Expr) : Prop := ∀ ov iv, subscripted i false ov iv = operate [ov, iv] (getItem ov iv)
theorem subD_of {prog : Program} {w : World} {A : Around} {E : Value → Shared → Prop} {s : Shared} {env : Env} {value slice : Expr} {pos : Pos} {T id : String} {Q : Value → Shared → Prop}
    (hl : typeLookup (.type T) "__getitem__" = pure (some (.builtin id))) (hs : NoSl slice)
    (h : wpAny (model prog w) A (eval value env) (fun o s₁ => wpAny (model prog w) A (eval slice env) (fun i s₂ => s₂.TypeIs o T ∧ wpAny (model prog w) A (getItem o i) Q E s₂) E s₁) E s) :
    wpAny (model prog w) A (eval (.Subscript value slice pos) env) Q E s := by
  refine Subscript_ (wpAny_mono h (fun o s₁ h₁ => wpAny_mono h₁ (fun i s₂ h₂ => ?_) fun _ _ x => x) fun _ _ x => x)
  obtain ⟨hT, h₂⟩ := h₂
  unfold subscriptTail
  refine wpAny_bind ?_
  rw [getitemInPython_of_ne hT.not_modules]
  refine wpAny_bind (wpAny_specialOf hT hl ?_)
  have fin : wpAny (model prog w) A (subscripted slice false o i) (fun r s₃ => wpAny (model prog w) A (letTemporaryGo value o r >>= fun _ => pure r) Q E s₃) E s₂ := by
    rw [hs o i]
    exact wpAny_operating (wpAny_mono h₂ (fun r s₃ h₃ => wpAny_bind (wpAny_letTemporaryGo (wpAny_pure h₃))) fun _ _ x => x)
  first
    | exact wpAny_pure (wpAny_bind fin)
    | exact wpAny_bind (wpAny_pure (wpAny_bind fin))
    | exact wpAny_bind fin

theorem dict_typeIs {X : Cx} {pins : List (Addr × Obj)} {σ : St} {H : Hp} {s : Shared} {a : Addr} {y : V} {o : Option V} (I : Inv X pins σ H s) (g : DGet H a y o) : s.TypeIs (.ref a) "dict" := by
  rcases g with ⟨kvs, k, e, _, _⟩ | ⟨kvs, k, b, e, _, _, _⟩
  · obtain ⟨_, _, vs, _, dd⟩ := dk_rd I.hok e
    exact dd.typeIs
  · obtain ⟨_, _, xs, _, dd⟩ := dt_rd I.hok e
    exact dd.typeIs
def tDGet (td ty : TE) : TE := fun σ H Q => td σ H fun x H1 => ty σ H1 fun y H2 => ∃ a v, x = .ref a ∧ DGet H2 a y (some v) ∧ Q v H2
def sDPut (td ty tv : TE) : TS := fun D σ H => tv σ H fun v H1 => td σ H1 fun x H2 => ty σ H2 fun y H3 => ∃ a H4, x = .ref a ∧ DPut H3 a y v H4 ∧ D.nx σ H4
section
variable {X : Cx} {o i e value : Expr} {pos pos' tpos : Pos} {td ty tv : TE}
theorem pe_dget (hu : X.A.units + 1 < cLine) (ho : PE X o td) (hi : PE X i ty) (hs : NoSl i) : PE X (.Subscript o i pos) (tDGet td ty) := by
  intro pins s σ H Q I h
  refine subD_of PySem.F.slot_dict_getitem.lookup hs (thn (ho pins s σ H _ I h) fun u s1 ⟨x, H1, I1, rx, q1⟩ => thn (hi pins s1 σ H1 _ I1 q1) fun iv s2 ⟨y, H2, I2, ry, a, v, ex, g, q2⟩ => ?_)
  subst ex
  obtain rfl : u = Value.ref a := rx
  exact ⟨dict_typeIs I2 g, d_getItem hu I2 g ry fun w' s3 I3 rw' => ⟨v, H2, I3, rw', q2⟩⟩
theorem ps_dput (hu : X.A.units + 1 < cLine) (ho : PE X o td) (hi : PE X i ty) (hv : PE X value tv) (hs : swapsWith value (some (.Subscript o i pos')) pos.line X.env = pure false) :
    PS X (.Assign [.Subscript o i pos'] value pos) (sDPut td ty tv) := by
  intro pins s σ H D I h
  refine wpAny_Assign_Subscript (thn (hv pins s σ H _ I h) fun r s1 ⟨v, H1, I1, rv, q1⟩ => thn (ho pins s1 σ H1 _ I1 q1) fun u s2 ⟨x, H2, I2, rx, q2⟩ => thn (hi pins s2 σ H2 _ I2 q2) fun iv s3 ⟨y, H3, I3, ry, a, H4, ex, g, q3⟩ => ?_) hs
  subst ex
  obtain rfl : u = Value.ref a := rx
  exact d_setItem hu I3 g ry rv fun s4 I4 => ⟨σ, H4, I4, q3⟩
end


theorem dk_empty {P : Program} {w : World} {H : Hp} (h : Heap) (hb : sysModules < h.objs.size) : ObjOk P w H (h.push { cls := .type "dict", data := .dict #[] }) h.objs.size (.dK []) :=
  ⟨Nat.zero_le _, beq_eq_false_iff_ne.mpr (Ne.symm (Nat.ne_of_lt hb)), [], .nil, Heap.DictOf.new h⟩
section
variable {X : Cx} {pos : Pos}
end

def tPairs : List (TE × TE) → St → Hp → (List (V × V) → Hp → Prop) → Prop
  | [], _, H, Q => Q [] H
  | (tk, tv) :: r, σ, H, Q => tk σ H fun x H1 => tv σ H1 fun y H2 => tPairs r σ H2 fun ps H3 => Q ((x, y) :: ps) H3
abbrev VV : List (V × V) → List (Value × Value) → Prop := Paired fun p q => RelV p.1 q.1 ∧ RelV p.2 q.2
def PPs (X : Cx) (pos : Pos) (keys : List (Option Expr)) (values : List Expr) (trs : List (TE × TE)) : Prop :=
  ∀ (pins : List (Addr × Obj)) (s : Shared) (σ : St) (H : Hp) (Q : List (V × V) → Hp → Prop), Inv X pins σ H s → tPairs trs σ H Q →
    wpAny (model X.prog X.w) X.A (evalPairs (pairTrees keys values X.env pos)) (fun vs s' => ∃ ps H', Inv X pins σ H' s' ∧ VV ps vs ∧ Q ps H') X.xe s
theorem pps_nil {X : Cx} {pos : Pos} : PPs X pos [] [] [] := fun pins s σ H Q I h => pairTrees_nil_walk ⟨[], H, I, .nil, h⟩
theorem pps_cons {X : Cx} {pos : Pos} {k v : Expr} {ks : List (Option Expr)} {vs : List Expr} {tk tv : TE} {trs : List (TE × TE)} (hk : PE X k tk) (hv : PE X v tv) (hr : PPs X pos ks vs trs) :
    PPs X pos (some k :: ks) (v :: vs) ((tk, tv) :: trs) := fun pins s σ H Q I h =>
  pairTrees_cons_walk (thn (hk pins s σ H _ I h) fun u s1 ⟨x, H1, I1, rx, q1⟩ => thn (hv pins s1 σ H1 _ I1 q1) fun w2 s2 ⟨y, H2, I2, ry, q2⟩ =>
    thn (hr pins s2 σ H2 _ I2 q2) fun ws s3 ⟨ps, H3, I3, rel, q3⟩ => ⟨(x, y) :: ps, H3, I3, .cons ⟨rx, ry⟩ rel, q3⟩)

def mergeK (kvs more : List (Key × V)) : List (Key × V) := more.foldl (fun acc kv => putK acc kv.1 kv.2) kvs
theorem KV.merge : ∀ {more : List (Key × V)} {rs : List (Key × Value)} {kvs : List (Key × V)} {vs : List (Key × Value)}, KV more rs → KV kvs vs → KV (mergeK kvs more) (merged vs rs) := by
  intro more rs kvs vs r
  unfold KV at r
  induction r generalizing kvs vs with
  | nil => intro q; exact q
  | @cons p q ps qs h t ih =>
    intro r0
    have e : KV (putK kvs p.1 p.2) (stored vs q.1 q.2) := by
      have := r0.put p.1 h.2
      rw [← h.1]; exact this
    exact ih e
theorem length_mergeK : ∀ (more kvs : List (Key × V)), (mergeK kvs more).length ≤ kvs.length + more.length
  | [], kvs => by show kvs.length ≤ kvs.length + 0; omega
  | p :: r, kvs => by
    have h1 := length_mergeK r (putK kvs p.1 p.2)
    have h2 := length_putK kvs p.1 p.2
    show (mergeK (putK kvs p.1 p.2) r).length ≤ _
    rw [List.length_cons]; omega
theorem carries_of {P : Program} {w : World} : ∀ {kvs : List (Key × V)} {ws : List (Value × Value)}, VV (kvs.map fun kv => (kV kv.1, kv.2)) ws → ∃ rs, Carries (mixKind P w) ws rs ∧ KV kvs rs
  | [], _, r => by rw [List.map_nil] at r; cases r; exact ⟨[], True.intro, .nil⟩
  | p :: kvs, _, r => by
    rw [List.map_cons] at r
    cases r with
    | @cons a b as bs h t =>
      obtain ⟨rs, c, q⟩ := carries_of (P := P) (w := w) t
      obtain ⟨b1, b2⟩ := b
      exact ⟨(p.1, b2) :: rs, ⟨kV_is h.1, rfl, c⟩, .cons ⟨rfl, h.2⟩ q⟩
def tDisp (trs : List (TE × TE)) : TE := fun σ H Q => ∀ p, H p = none → tPairs trs σ (upd H p (.dK [])) fun ps H2 => H2 p = some (.dK []) ∧ ∃ kvs : List (Key × V), ps = kvs.map (fun kv => (kV kv.1, kv.2)) ∧ kvs.length ≤ 15 ∧ Q (.ref p) (upd H2 p (.dK (mergeK [] kvs)))
theorem pe_disp {X : Cx} {pos : Pos} {keys : List (Option Expr)} {values : List Expr} {trs : List (TE × TE)} (h : PPs X pos keys values trs) (hall : keys.all (·.isSome) = true) (hl : keys.length = values.length) (h0 : keys ≠ [])
    (h15 : keys.length ≤ 15) : PE X (.Dict keys values pos) (tDisp trs) := by
  intro pins s σ H Q I q
  have hn := I.hok.fresh (Nat.le_refl s.heap.objs.size)
  have I1 := I.laid (a := s.heap.objs.size) (o := .dK []) (h' := s.heap.push { cls := .type "dict", data := .dict #[] }) (t' := s.toks) (fun _ _ q => Heap.get?_push_of_some _ q) (Nat.le_refl _) (dk_empty s.heap I.big)
  refine wpAny_Dict_walk (knd := mixKind X.prog X.w) hall hl h0 h15 (thn (h pins _ σ _ _ I1 (q _ hn)) fun ws s2 ⟨ps, H2, I2, rel, e, kvs, ep, lk, q2⟩ => ?_)
  subst ep
  obtain ⟨rs, c, rk⟩ := carries_of (P := X.prog) (w := X.w) rel
  obtain ⟨z, hd, vs0, r0, dd⟩ := dk_of I2.hok e
  cases r0
  refine ⟨rs, c, dd, fun h' dd' hs => ⟨.ref s.heap.objs.size, _, ?_, rfl, q2⟩⟩
  have hz : (mergeK [] kvs).length ≤ sizeLine := by
    have h1 := length_mergeK kvs []
    rw [List.length_nil] at h1
    rw [sizeLine_eq]; omega
  have he : ∃ q, h'.get? s.heap.objs.size = some q := let ⟨q, _, _, hq, _⟩ := dd'; ⟨q, hq⟩
  exact d_write I2 (by rw [e]; exact True.intro) hs he (dk_new hz hd (rk.merge .nil) dd')


structure M1 (X : Cx) (o : Expr) (m : Str) (apos : Pos) (e : Expr) (cpos : Pos) : Prop where
  base : attributeBase o m X.env (eval o X.env) = eval o X.env
  few : ((backTo cpos (starEach [e] X.env)).all (fun x => !x.1) && (backToKw cpos (keywordEach [] X.env)).all (fun x => x.1.isSome)
    && decide (([e] : List Expr).length + ([] : List Keyword).length + (if ([] : List Keyword).isEmpty then 0 else 1) < 30)) = true
  line : (apos.endLine == cpos.line) = true
  trees : backTo cpos (starEach [e] X.env) = [(false, eval e X.env)]
structure M2 (X : Cx) (o : Expr) (m : Str) (apos : Pos) (e f : Expr) (cpos : Pos) : Prop where
  base : attributeBase o m X.env (eval o X.env) = eval o X.env
  few : ((backTo cpos (starEach [e, f] X.env)).all (fun x => !x.1) && (backToKw cpos (keywordEach [] X.env)).all (fun x => x.1.isSome)
    && decide (([e, f] : List Expr).length + ([] : List Keyword).length + (if ([] : List Keyword).isEmpty then 0 else 1) < 30)) = true
  line : (apos.endLine == cpos.line) = true
  trees : backTo cpos (starEach [e, f] X.env) = [(false, eval e X.env), (false, eval f X.env)]

section
variable {X : Cx} {pins : List (Addr × Obj)} {σ : St} {H : Hp} {s : Shared} {a : Addr} {y d : V} {u r : Value} {o : Option V} {A : Around} {E : Value → Shared → Prop}
end

section
variable {X : Cx} {o e f : Expr} {apos cpos : Pos} {td ty tx : TE}
end

section
variable {X : Cx} {pins : List (Addr × Obj)} {σ : St} {H : Hp} {s : Shared} {a : Addr} {kvs : List (Key × V)} {A : Around} {E : Value → Shared → Prop}
end


section
variable {X : Cx} {pins : List (Addr × Obj)} {σ : St} {H : Hp} {s : Shared} {a : Addr} {y : V} {u : Value} {A : Around} {E : Value → Shared → Prop}
end
end L2

namespace HT
open PySem PyProof.Rows

section
open PySem.SeqAt
open PySem.AutoSeq1 (wpAny_loadPart')
open PySem.MeetsSeq PySem.MeetsSeq2 PySem.MeetsSeq3

end

section
variable {prog : Program} {w : World} {A : Around} {E : Value → Shared → Prop} {s : Shared}

def sIx (n d : Nat) : Option Int → Nat
  | none => d
  | some v => if v < 0 then (v + (n : Int)).toNat else min v.toNat n
theorem sIx_nat (n d k : Nat) : sIx n d (some (k : Int)) = min k n := by
  show (if (k : Int) < 0 then ((k : Int) + (n : Int)).toNat else min (k : Int).toNat n) = min k n
  rw [if_neg (by omega), Int.toNat_natCast]
end
end HT

namespace L2
open PySem PySem.Spec PyProof.Rows

abbrev TO := St → Hp → (Option Int → Hp → Prop) → Prop
def PO (X : Cx) (e : Option Expr) (t : TO) : Prop :=
  ∀ (pins : List (Addr × Obj)) (s : Shared) (σ : St) (H : Hp) (Q : Option Int → Hp → Prop), Inv X pins σ H s → t σ H Q →
    wpAny (model X.prog X.w) X.A (evalPart e X.env) (fun u s' => ∃ o H', Inv X pins σ H' s' ∧ IsPart u o ∧ Q o H') X.xe s
def tPart (t : TE) : TO := fun σ H Q => t σ H fun x H1 => ∃ i, x = .int i ∧ Q (some i) H1

section
variable {X : Cx} {e : Expr} {te : TE} {lo hi : Option Expr} {tl th : TO} {pos p2 : Pos}

theorem po_some (h : PE X e te) : PO X (some e) (tPart te) := by
  intro pins s σ H Q I hw
  rw [evalPart_some]
  refine thn (h pins s σ H _ I hw) fun u s1 ⟨x, H1, I1, r1, q1⟩ => ?_
  obtain ⟨i, rfl, q⟩ := q1
  obtain ⟨t, rfl⟩ := r1
  exact ⟨some i, H1, I1, .int i t, q⟩

def SlR (X : Cx) (r : V → Option Int → Option Int → Hp → VK → Prop) : Prop :=
  ∀ (pins : List (Addr × Obj)) (s : Shared) (σ : St) (H : Hp) (x : V) (v vl vu : Value) (lo hi : Option Int) (sl : Addr) (Q : VK), Inv X pins σ H s → RelV x v → s.heap.IsSliceOf sl vl vu .none → IsPart vl lo → IsPart vu hi → r x lo hi H Q →
    ∃ T id, typeLookup (.type T) "__getitem__" = pure (some (.builtin id)) ∧ s.TypeIs v T ∧ wpAny (model X.prog X.w) X.A (getItem v (.ref sl)) (EP X pins σ Q) X.xe s
theorem SlR.or {r r' : V → Option Int → Option Int → Hp → VK → Prop} (h : SlR X r) (h' : SlR X r') : SlR X (fun x lo hi H Q => r x lo hi H Q ∨ r' x lo hi H Q) := by
  intro pins s σ H x v vl vu lo hi sl Q I rx hs pl pu q
  rcases q with q | q
  · exact h pins s σ H x v vl vu lo hi sl Q I rx hs pl pu q
  · exact h' pins s σ H x v vl vu lo hi sl Q I rx hs pl pu q
def tSl (r : V → Option Int → Option Int → Hp → VK → Prop) (te : TE) (tl th : TO) : TE := fun σ H Q => te σ H fun x H1 => tl σ H1 fun l H2 => th σ H2 fun u H3 => r x l u H3 Q
theorem pe_slice {r : V → Option Int → Option Int → Hp → VK → Prop} (hr : SlR X r) (he : PE X e te) (hl : PO X lo tl) (hu : PO X hi th) : PE X (.Subscript e (.Slice lo hi none p2) pos) (tSl r te tl th) := by
  intro pins s σ H Q I h
  refine Subscript_ (thn (he pins s σ H _ I h) fun v s1 ⟨x, H1, I1, r1, q1⟩ => ?_)
  refine wpAny_Slice (thn (hl pins s1 σ H1 _ I1 q1) fun vl s2 ⟨l, H2, I2, pl, q2⟩ => thn (hu pins s2 σ H2 _ I2 q2) fun vu s3 ⟨u, H3, I3, pu, q3⟩ => ?_)
  rw [evalPart_none]
  refine wpAny_pure ?_
  have I4 : Inv X pins σ H3 { s3 with heap := s3.heap.push { cls := .type "slice", data := .fields #[vl, vu, .none] } } := I3.kept (t' := s3.toks) fun b ob q => Heap.get?_push_of_some _ q
  obtain ⟨T, id, hT, ht, hg⟩ := hr pins { s3 with heap := s3.heap.push { cls := .type "slice", data := .fields #[vl, vu, .none] } } σ H3 x v vl vu l u s3.heap.objs.size Q I4 r1 (Heap.IsSliceOf.new ..) pl pu q3
  show wpAny (model X.prog X.w) X.A (subscriptTail e (.Slice lo hi none p2) v (.ref s3.heap.objs.size)) (EP X pins σ Q) X.xe { s3 with heap := s3.heap.push { cls := .type "slice", data := .fields #[vl, vu, .none] } }
  exact tail_any (ops := [.ref s3.heap.objs.size, v]) ht hT hg (by with_unfolding_all rfl)

def cutV (xs : List V) (lo hi : Option Int) : List V := (xs.drop (HT.sIx xs.length 0 lo)).take (HT.sIx xs.length xs.length hi - HT.sIx xs.length 0 lo)
theorem cutV_length (xs : List V) (lo hi : Option Int) : (cutV xs lo hi).length ≤ xs.length := by
  unfold cutV
  rw [List.length_take, List.length_drop]
  omega
end
end L2

namespace L2
open PySem PySem.Spec PyProof.Rows

def ixN (n : Nat) (i : Int) : Option Nat := if 0 ≤ i then (if i < n then some i.toNat else none) else if -(n : Int) ≤ i then some (i + n).toNat else none
def atI {α : Type} (xs : List α) (i : Int) : Option α := (ixN xs.length i).bind fun j => xs[j]?
theorem ixN_seq {n : Nat} {i : Int} {j : Nat} (h : ixN n i = some j) : seqIndex? i n = some j ∧ j < n ∧ -(n : Int) ≤ i ∧ i < n := by
  unfold ixN at h
  by_cases h0 : 0 ≤ i
  · rw [if_pos h0] at h
    by_cases h1 : i < n
    · rw [if_pos h1] at h
      have e : i.toNat = j := Option.some.inj h
      exact ⟨by rw [seqIndex_of h0 h1, e], by omega, by omega, h1⟩
    · rw [if_neg h1] at h; cases h
  · rw [if_neg h0] at h
    by_cases h1 : -(n : Int) ≤ i
    · rw [if_pos h1] at h
      have e : (i + n).toNat = j := Option.some.inj h
      exact ⟨by rw [seqIndex_neg (by omega) h1, e], by omega, h1, by omega⟩
    · rw [if_neg h1] at h; cases h
theorem atI_get {α : Type} {xs : List α} {i : Int} {v : α} (h : atI xs i = some v) : ∃ j, seqIndex? i xs.length = some j ∧ xs[j]? = some v ∧ j < xs.length ∧ -(xs.length : Int) ≤ i ∧ i < xs.length := by
  unfold atI at h
  cases e : ixN xs.length i with
  | none => rw [e] at h; cases h
  | some j =>
    rw [e] at h
    obtain ⟨h1, h2, h3, h4⟩ := ixN_seq e
    exact ⟨j, h1, h, h2, h3, h4⟩
theorem atI_nat {α : Type} {xs : List α} {j : Nat} {v : α} (h : xs[j]? = some v) : atI xs (j : Int) = some v := by
  have hj : j < xs.length := (List.getElem?_eq_some_iff.mp h).1
  have e : ixN xs.length (j : Int) = some j := by
    unfold ixN
    rw [if_pos (by omega), if_pos (by omega)]; simp
  unfold atI; rw [e]; exact h
def PlainIx (b : Expr) : Prop := ∀ o i, subscripted b false o i = operate [o, i] (getItem o i)
def IxR (X : Cx) (r : R2) : Prop :=
  ∀ (value slice : Expr) (pins : List (Addr × Obj)) (s : Shared) (σ : St) (H : Hp) (x y : V) (v u : Value) (Q : VK), Inv X pins σ H s → RelV x v → RelV y u → r x y H Q →
    subscripted slice false v u = operate [v, u] (getItem v u) → wpAny (model X.prog X.w) X.A (subscriptTail value slice v u) (EP X pins σ Q) X.xe s
def MtR (X : Cx) (id : String) (r : V → List V → Hp → VK → Prop) : Prop :=
  ∀ (pins : List (Addr × Obj)) (s : Shared) (σ : St) (H : Hp) (x : V) (xs : List V) (v : Value) (us : List Value) (Q : VK), Inv X pins σ H s → RelV x v → Vals xs us → r x xs H Q →
    wpAny (model X.prog X.w) X.A (call (.builtin id) (v :: us)) (EP X pins σ Q) X.xe s
section
variable {X : Cx} {a b : Expr} {ta tb : TE} {pos : Pos}
theorem IxR.or {r r' : R2} (h : IxR X r) (h' : IxR X r') : IxR X (fun x y H Q => r x y H Q ∨ r' x y H Q) := by
  intro value slice pins s σ H x y v u Q I rx ry q hs
  rcases q with q | q
  · exact h value slice pins s σ H x y v u Q I rx ry q hs
  · exact h' value slice pins s σ H x y v u Q I rx ry q hs
theorem MtR.or {id : String} {r r' : V → List V → Hp → VK → Prop} (h : MtR X id r) (h' : MtR X id r') : MtR X id (fun x xs H Q => r x xs H Q ∨ r' x xs H Q) := by
  intro pins s σ H x xs v us Q I rx rs q
  rcases q with q | q
  · exact h pins s σ H x xs v us Q I rx rs q
  · exact h' pins s σ H x xs v us Q I rx rs q
theorem pe_ix {r : R2} (hr : IxR X r) (ha : PE X a ta) (hb : PE X b tb) (hs : PlainIx b) : PE X (.Subscript a b pos) (tOp r ta tb) := by
  intro pins s σ H Q I h
  exact Subscript_ (binT ha hb I h fun v u s2 x y H2 I2 rx ry q => hr a b pins s2 σ H2 x y v u Q I2 rx ry q (hs _ _))

def rIxL (K : PySem.W.Frag) : R2 := fun x y H Q => ∃ p xs i v, x = .ref p ∧ y = .int i ∧ SqL K H p xs ∧ atI xs i = some v ∧ Q v H
def rIxT (K : PySem.W.Frag) : R2 := fun x y H Q => ∃ p xs i v, x = .ref p ∧ y = .int i ∧ SqT K H p xs ∧ atI xs i = some v ∧ Q v H
def rIxS : R2 := fun x y H Q => ∃ z i c, x = .str z ∧ y = .int i ∧ z.length ≤ sizeLine ∧ atI z.cps.toList i = some c ∧ Q (.str ⟨#[c]⟩) H
theorem ix_list : IxR X (rIxL X.K) := by
  intro value slice pins s σ H x y v u Q I rx ry h hs
  obtain ⟨p, xs, i, z, rfl, rfl, hq, he, q⟩ := h
  cases rx
  obtain ⟨t, rfl⟩ := ry
  obtain ⟨its, r, pl, hz⟩ := I.list hq
  obtain ⟨j, h1, h2, h3, h4, h5⟩ := atI_get he
  obtain ⟨w, ew, rw'⟩ := r.get h2
  have hl := r.length
  have hn := line63
  have fin : EP X pins σ Q w s := ⟨z, H, I, rw', q⟩
  by_cases h0 : 0 ≤ i
  · have hj : i.toNat = j := by
      rw [seqIndex_of h0 h5] at h1
      exact Option.some.inj h1
    exact item_listR pl.isList h0 (by omega) (by rw [hj]; simpa using ew) fin hs
  · have hj : (i + (its.toArray.size : Int)).toNat = j := by
      rw [seqIndex_neg (by omega) h4] at h1
      rw [List.size_toArray, ← hl]
      exact Option.some.inj h1
    exact subscriptTail_builtinR (x := w) pl.isList.typeIs slot_list_getitem.lookup
      (wpAny_getItem_list_neg (Q := fun r s' => r = w ∧ EP X pins σ Q r s') pl.isList (by omega) (by rw [List.size_toArray] <;> omega) (by omega) (by rw [hj]; simpa using ew) ⟨rfl, fin⟩) hs
theorem ix_tup : IxR X (rIxT X.K) := by
  intro value slice pins s σ H x y v u Q I rx ry h hs
  obtain ⟨p, xs, i, z, rfl, rfl, hq, he, q⟩ := h
  cases rx
  obtain ⟨t, rfl⟩ := ry
  obtain ⟨its, r, pl, hz⟩ := I.tuple hq
  obtain ⟨j, h1, h2, h3, h4, h5⟩ := atI_get he
  obtain ⟨w, ew, rw'⟩ := r.get h2
  have hl := r.length
  have hn := line63
  have fin : EP X pins σ Q w s := ⟨z, H, I, rw', q⟩
  exact subscriptTail_builtinR (x := w) pl.typeIs slot_tuple_getitem.lookup
    (getItem_tuple (j := j) (Q := fun r s' => r = w ∧ EP X pins σ Q r s') pl (by omega) (by omega) (by rw [List.size_toArray, ← hl]; exact h1) (by simpa using ew) ⟨rfl, fin⟩) hs
theorem ix_str : IxR X rIxS := by
  intro value slice pins s σ H x y v u Q I rx ry h hs
  obtain ⟨z, i, c, rfl, rfl, hz, he, q⟩ := h
  obtain ⟨t, rfl⟩ := rx
  obtain ⟨t', rfl⟩ := ry
  obtain ⟨j, h1, h2, h3, h4, h5⟩ := atI_get he
  have hl : z.cps.toList.length = z.length := by simp [Str.length]
  rw [hl] at h1 h4 h5
  have hn := line63
  exact tail_any (typeIs_str s z t) slot_str_getitem.lookup (getItem_str (c := c) (by
    have e1 : decide (i < -(2 ^ 63 : Int)) = false := decide_eq_false (by omega)
    have e2 : decide (i ≥ 2 ^ 63) = false := decide_eq_false (by omega)
    rw [e1, e2, Bool.or_false]) (by rw [h1]; simpa using h2) ⟨.str ⟨#[c]⟩, H, I.tok _, ⟨_, rfl⟩, q⟩) hs
def rIx (K : PySem.W.Frag) : R2 := fun x y H Q => rIxL K x y H Q ∨ rIxT K x y H Q ∨ rIxS x y H Q
theorem ix_seq : IxR X (rIx X.K) := ix_list.or (ix_tup.or ix_str)

theorem mapSeq_set (its : List Value) (n j : Nat) (u : Value) : Obj.mapSeq (·.setIfInBounds j u) { cls := .type "list", data := .seq its.toArray n } = { cls := .type "list", data := .seq (its.set j u).toArray n } := by
  simp [Obj.mapSeq]
theorem Inv.lst {pins : List (Addr × Obj)} {σ : St} {H : Hp} {s : Shared} {p : Addr} {xs : List V} (I : Inv X pins σ H s) (h : H p = some (.lst xs)) :
    ∃ (its : List Value) (n : Nat), Vals xs its ∧ s.heap.get? p = some { cls := .type "list", data := .seq its.toArray n } ∧ xs.length ≤ sizeLine := by
  obtain ⟨z, its, n, r, e⟩ := I.hok p _ h
  exact ⟨its, n, r, e, z⟩
theorem Inv.lstUpd {pins : List (Addr × Obj)} {σ : St} {H : Hp} {s : Shared} {p : Addr} {xs ys : List V} {its its' : List Value} {n n' : Nat} {f : Obj → Obj} (I : Inv X pins σ H s) (h : H p = some (.lst xs))
    (ho : s.heap.get? p = some { cls := .type "list", data := .seq its.toArray n }) (hf : f { cls := .type "list", data := .seq its.toArray n } = { cls := .type "list", data := .seq its'.toArray n' }) (r : Vals ys its') (hz : ys.length ≤ sizeLine) (t : Nat) :
    Inv X pins σ (upd H p (.lst ys)) { s with heap := s.heap.update p f, toks := t } := by
  have e : (s.heap.update p f).get? p = some { cls := .type "list", data := .seq its'.toArray n' } := by
    rw [Heap.get?_update_self f ho (by rw [hf] <;> rfl), hf]
  refine I.write (x := p) (e := p) (by rw [h]; trivial) (.inl rfl) (fun b u hb q => (Heap.get?_update_other _ _ (Ne.symm hb)).trans q) ⟨_, e⟩ ?_
  exact ⟨hz, its', n', r, e⟩
def rSetL : V → V → V → Hp → (Hp → Prop) → Prop := fun o i v H Q => ∃ p xs k j, o = .ref p ∧ i = .int k ∧ H p = some (.lst xs) ∧ ixN xs.length k = some j ∧ Q (upd H p (.lst (xs.set j v)))
theorem set_list : PSet X rSetL := by
  intro pins s σ H o i v ov iv u Q I ro ri rv h
  obtain ⟨p, xs, k, j, rfl, rfl, hp, hj, q⟩ := h
  cases ro
  obtain ⟨t, rfl⟩ := ri
  obtain ⟨its, n, r, ho, hz⟩ := I.lst hp
  obtain ⟨h1, h2, h3, h4⟩ := ixN_seq hj
  have hl := r.length
  have hn := line63
  have I' : Inv X pins σ (upd H p (.lst (xs.set j v))) { s with heap := s.heap.update p (Obj.mapSeq (·.setIfInBounds j u)) } :=
    I.lstUpd hp ho (mapSeq_set its n j u) (r.set rv j) (by rw [List.length_set]; exact hz) s.toks
  by_cases h0 : 0 ≤ k
  · have hk : k.toNat = j := by
      rw [seqIndex_of h0 h4] at h1
      exact Option.some.inj h1
    exact PySem.W.ki_setAt ho h0 (by omega) (by rw [List.size_toArray, ← hl]; exact h4) (by rw [hk]; exact ⟨_, I', q⟩)
  · have hk : (k + (its.toArray.size : Int)).toNat = j := by
      rw [seqIndex_neg (by omega) h3] at h1
      rw [List.size_toArray, ← hl]
      exact Option.some.inj h1
    exact PySem.W.ki_setBack ho (by omega) (by rw [List.size_toArray, ← hl]; exact h3) (by omega) (by rw [hk]; exact ⟨_, I', q⟩)

theorem slice_bounds (lo hi : Option Int) (n : Nat) : (sliceBounds lo hi none n).1 = ((HT.sIx n 0 lo : Nat) : Int) ∧ (sliceBounds lo hi none n).2.1 = ((HT.sIx n n hi : Nat) : Int) ∧ (sliceBounds lo hi none n).2.2 = 1 := by
  refine ⟨?_, ?_, rfl⟩
  · cases lo with
    | none => simp [sliceBounds, HT.sIx]
    | some i =>
      simp only [sliceBounds, HT.sIx, Option.getD_none, show (1 : Int) > 0 by decide, if_true]
      by_cases h : i < 0
      · simp only [h, if_true] <;> omega
      · simp only [h, if_false] <;> omega
  · cases hi with
    | none => simp [sliceBounds, HT.sIx]
    | some i =>
      simp only [sliceBounds, HT.sIx, Option.getD_none, show (1 : Int) > 0 by decide, if_true]
      by_cases h : i < 0
      · simp only [h, if_true] <;> omega
      · simp only [h, if_false] <;> omega
theorem slicePick_cut (its : List Value) (lo hi : Option Int) : slicePick its.toArray lo hi none = ((its.drop (HT.sIx its.length 0 lo)).take (HT.sIx its.length its.length hi - HT.sIx its.length 0 lo)).toArray := by
  obtain ⟨h1, h2, h3⟩ := slice_bounds lo hi its.toArray.size
  unfold slicePick
  rw [h1, h2, h3]
  simp only [sliceRange_one, pick_run, List.size_toArray] <;> rfl
def rSlL (K : PySem.W.Frag) : V → Option Int → Option Int → Hp → VK → Prop := fun x lo hi H Q => ∃ a xs, x = .ref a ∧ SqL K H a xs ∧ ∀ p, H p = none → Q (.ref p) (upd H p (.lst (cutV xs lo hi)))
theorem sl_list : SlR X (rSlL X.K) := by
  intro pins s σ H x v vl vu lo hi sl Q I rx hs pl pu h
  obtain ⟨a, xs, rfl, hx, q⟩ := h
  cases rx
  obtain ⟨its, r, ht, hz⟩ := I.list hx
  have hlen := r.length
  refine ⟨"list", _, slot_list_getitem.lookup, ht.isList.typeIs, ?_⟩
  refine wpAny_getItem_list_slice ht.isList hs pl pu .none (by simp) ?_ (by rw [List.size_toArray] <;> omega)
  rw [slicePick_cut, ← hlen]
  refine ⟨.ref s.heap.objs.size, _, I.laid (t' := s.toks) (o := .lst (cutV xs lo hi)) (fun b ob q => Heap.get?_push_of_some _ q) (Nat.le_refl _) ?_, rfl, q _ (I.hok.fresh (Nat.le_refl _))⟩
  exact ⟨Nat.le_trans (cutV_length xs lo hi) hz, _, 0, (r.drop (HT.sIx xs.length 0 lo)).take (HT.sIx xs.length xs.length hi - HT.sIx xs.length 0 lo), Heap.get?_push_size _ rfl⟩

def flatV : V → Bool
  | .non => true
  | .bl _ => true
  | .int _ => true
  | .str _ => true
  | _ => false
def eqV : V → V → Bool
  | .non, .non => true
  | .bl a, .bl b => a == b
  | .bl a, .int b => (if a then 1 else 0) == b
  | .int a, .bl b => a == (if b then 1 else 0)
  | .int a, .int b => a == b
  | .str a, .str b => a == b
  | _, _ => false
theorem eqAt_V {A : Around} {s : Shared} {y x : V} {u v : Value} (ry : RelV y u) (rx : RelV x v) (fy : flatV y = true) (fx : flatV x = true) : SeqAt.EqAt A s u v (eqV y x) := by
  cases y with
  | non =>
    cases ry
    cases x with
    | non => cases rx; exact SeqAt.EqAt.same _
    | bl b => cases rx; exact SeqAt.EqAt.none_bool b
    | int b => obtain ⟨t, rfl⟩ := rx; exact SeqAt.EqAt.none_int b t
    | str b => obtain ⟨t, rfl⟩ := rx; exact SeqAt.EqAt.none_str b t
    | _ => exact absurd (show false = true from fx) Bool.false_ne_true
  | bl a =>
    cases ry
    cases x with
    | non => cases rx; exact SeqAt.EqAt.bool_none a
    | bl b => cases rx; exact SeqAt.EqAt.bool_bool a b
    | int b => obtain ⟨t, rfl⟩ := rx; exact SeqAt.EqAt.bool_int a b t
    | str b => obtain ⟨t, rfl⟩ := rx; exact SeqAt.EqAt.bool_str a b t
    | _ => exact absurd (show false = true from fx) Bool.false_ne_true
  | int a =>
    obtain ⟨t', rfl⟩ := ry
    cases x with
    | non => cases rx; exact SeqAt.EqAt.int_none a t'
    | bl b => cases rx; exact SeqAt.EqAt.int_bool a t' b
    | int b => obtain ⟨t, rfl⟩ := rx; exact SeqAt.EqAt.int_int a t' b t
    | str b => obtain ⟨t, rfl⟩ := rx; exact SeqAt.EqAt.int_str a t' b t
    | _ => exact absurd (show false = true from fx) Bool.false_ne_true
  | str a =>
    obtain ⟨t', rfl⟩ := ry
    cases x with
    | non => cases rx; exact SeqAt.EqAt.str_none a t'
    | bl b => cases rx; exact SeqAt.EqAt.str_bool a t' b
    | int b => obtain ⟨t, rfl⟩ := rx; exact SeqAt.EqAt.str_int a t' b t
    | str b => obtain ⟨t, rfl⟩ := rx; exact SeqAt.EqAt.str_str a t' b t
    | _ => exact absurd (show false = true from fx) Bool.false_ne_true
  | _ => exact absurd (show false = true from fy) Bool.false_ne_true
def eqU (x : V) (u : Value) : Bool := match u with
  | .none => eqV .non x
  | .bool b => eqV (.bl b) x
  | .int i _ => eqV (.int i) x
  | .str z _ => eqV (.str z) x
  | _ => false
theorem eqU_of {x y : V} {u : Value} (r : RelV y u) (f : flatV y = true) : eqU x u = eqV y x := by
  cases y with
  | non => cases r; rfl
  | bl b => cases r; rfl
  | int i => obtain ⟨t, rfl⟩ := r; rfl
  | str z => obtain ⟨t, rfl⟩ := r; rfl
  | _ => exact absurd (show false = true from f) Bool.false_ne_true
theorem any_eqU {x : V} : ∀ {xs : List V} {us : List Value}, Vals xs us → xs.all flatV = true → us.any (eqU x) = xs.any fun y => eqV y x
  | _, _, .nil, _ => rfl
  | y :: xs, u :: us, .cons r t, f => by
    rw [List.all_cons, Bool.and_eq_true] at f
    rw [List.any_cons, List.any_cons, eqU_of r f.1, any_eqU t f.2]
theorem mem_eqAt {A : Around} {s : Shared} {x : V} {v : Value} (rx : RelV x v) (fx : flatV x = true) : ∀ {xs : List V} {us : List Value}, Vals xs us → xs.all flatV = true → ∀ u ∈ us, SeqAt.EqAt A s u v (eqU x u)
  | _, _, .nil, _ => fun u hu => by cases hu
  | y :: xs, u :: us, .cons r t, f => fun u' hu => by
    rw [List.all_cons, Bool.and_eq_true] at f
    rcases List.mem_cons.mp hu with rfl | hu
    · rw [eqU_of r f.1]; exact eqAt_V r rx f.1 fx
    · exact mem_eqAt rx fx t f.2 u' hu
def inV (x : V) (xs : List V) : Bool := xs.any fun y => eqV y x
def rIn (K : PySem.W.Frag) (neg : Bool) : R2 := fun x y H Q => ∃ p xs, y = .ref p ∧ (SqL K H p xs ∨ SqT K H p xs) ∧ flatV x = true ∧ xs.all flatV = true ∧ Q (.bl (if neg then !inV x xs else inV x xs)) H
theorem op_in_seq : OpR X (compareOp .In) (rIn X.K false) := by
  intro pins s σ H x y v u Q I rx ry h
  obtain ⟨p, xs, rfl, hq, fx, fs, q⟩ := h
  cases ry
  rcases hq with hq | hq
  · obtain ⟨its, r, pl, hz⟩ := I.list hq
    refine SeqAt.in_listAt (eqU x) pl.isList (fun w hw => mem_eqAt rx fx r fs w (by simpa using hw)) ⟨.bl _, H, I, rfl, ?_⟩
    rw [show its.toArray.any (eqU x) = its.any (eqU x) by simp, any_eqU r fs]
    exact q
  · obtain ⟨its, r, pl, hz⟩ := I.tuple hq
    refine SeqAt.in_tupleAt (eqU x) pl (fun w hw => mem_eqAt rx fx r fs w (by simpa using hw)) ⟨.bl _, H, I, rfl, ?_⟩
    rw [show its.toArray.any (eqU x) = its.any (eqU x) by simp, any_eqU r fs]
    exact q
theorem call_len_seq : CallR X (.builtin "len") (fun xs H Q => ∃ p ys, xs = [.ref p] ∧ (SqL X.K H p ys ∨ SqT X.K H p ys) ∧ Q (.int ys.length) H) := by
  intro pins s σ H xs us Q I r h
  obtain ⟨p, ys, rfl, hq, q⟩ := h
  obtain ⟨u, rfl, rx⟩ := vals1 r
  cases rx
  have hn := line63
  rcases hq with hq | hq
  · obtain ⟨its, r', pl, hz⟩ := I.list hq
    have hlen := r'.length
    exact Calls.call_len_list pl.isList (by simp only [List.size_toArray] <;> omega) ⟨.int ys.length, H, I.tok _, ⟨s.toks + 1, by rw [List.size_toArray, hlen]⟩, q⟩
  · obtain ⟨its, r', pl, hz⟩ := I.tuple hq
    have hlen := r'.length
    exact len_tuple pl (by simp only [List.size_toArray] <;> omega) ⟨.int ys.length, H, I.tok _, ⟨s.toks + 1, by rw [List.size_toArray, hlen]⟩, q⟩
theorem call_len_str : CallR X (.builtin "len") (fun xs H Q => ∃ z, xs = [.str z] ∧ z.length ≤ sizeLine ∧ Q (.int z.length) H) := by
  intro pins s σ H xs us Q I r h
  obtain ⟨z, rfl, hz, q⟩ := h
  obtain ⟨u, rfl, t, rfl⟩ := vals1 r
  have hn := line63
  exact len_str (by omega) ⟨.int z.length, H, I.tok _, ⟨_, rfl⟩, q⟩
theorem CallR.or {f : Value} {r r' : List V → Hp → VK → Prop} (h : CallR X f r) (h' : CallR X f r') : CallR X f (fun xs H Q => r xs H Q ∨ r' xs H Q) := by
  intro pins s σ H xs us Q I rs q
  rcases q with q | q
  · exact h pins s σ H xs us Q I rs q
  · exact h' pins s σ H xs us Q I rs q
theorem call_list_of : CallR X (.type "list") (fun xs H Q => ∃ p ys, xs = [.ref p] ∧ (SqL X.K H p ys ∨ SqT X.K H p ys) ∧ ∀ l, H l = none → Q (.ref l) (upd H l (.lst ys))) := by
  intro pins s σ H xs us Q I r h
  obtain ⟨p, ys, rfl, hq, q⟩ := h
  obtain ⟨u, rfl, rx⟩ := vals1 r
  cases rx
  have fin : ∀ (its : List Value), Vals ys its → ys.length ≤ sizeLine → ∀ (h' : Heap) (c' : Nat), (∀ b o', s.heap.get? b = some o' → h'.get? b = some o') →
      h'.get? s.heap.objs.size = some { cls := .type "list", dict := none, data := .seq its.toArray c', slots := #[] } → EP X pins σ Q (.ref s.heap.objs.size) { s with heap := h' } := fun its r' hz h' c' kp e =>
    ⟨.ref s.heap.objs.size, _, I.laid (t' := s.toks) kp (Nat.le_refl _) (show ObjOk X.prog X.w _ h' _ (.lst ys) from ⟨hz, its, c', r', e⟩), rfl, q _ (I.hok.fresh (Nat.le_refl _))⟩
  rcases hq with hq | hq
  · obtain ⟨its, r', pl, hz⟩ := I.list hq
    have hlen := r'.length
    obtain ⟨o, ho, hc, n, hd⟩ := pl.isList
    exact call_list_seq p (.inl rfl) ho hc hd (fun h' c' kp e => fin its r' hz h' c' kp e) (by simp only [List.size_toArray] <;> omega)
  · obtain ⟨its, r', pl, hz⟩ := I.tuple hq
    have hlen := r'.length
    obtain ⟨o, ho, hc, n, hd⟩ := pl
    exact call_list_seq p (.inr rfl) ho hc hd (fun h' c' kp e => fin its r' hz h' c' kp e) (by simp only [List.size_toArray] <;> omega)
theorem call_tuple_of : CallR X (.type "tuple") (fun xs H Q => ∃ p ys, xs = [.ref p] ∧ ((SqL X.K H p ys ∧ ∀ l, H l = none → Q (.ref l) (upd H l (.tup ys))) ∨ (SqT X.K H p ys ∧ Q (.ref p) H))) := by
  intro pins s σ H xs us Q I r h
  obtain ⟨p, ys, rfl, h⟩ := h
  obtain ⟨u, rfl, rx⟩ := vals1 r
  cases rx
  rcases h with ⟨hq, q⟩ | ⟨hq, q⟩
  · obtain ⟨its, r', pl, hz⟩ := I.list hq
    have hlen := r'.length
    refine call_tuple_list pl.isList (fun h' kp => ?_) (by simp only [List.size_toArray] <;> omega)
    have I1 : Inv X pins σ H { s with heap := h' } := I.kept (t' := s.toks) kp
    have I2 : Inv X pins σ (upd H h'.objs.size (.tup ys)) { s with heap := h'.push { cls := .type "tuple", data := .seq its.toArray } } :=
      I1.laid (t' := s.toks) (fun b o e => Heap.get?_push_of_some _ e) (Nat.le_refl _) (show ObjOk X.prog X.w _ _ _ (.tup ys) from ⟨hz, its, r', IsTup.new _ _⟩)
    exact ⟨.ref h'.objs.size, _, I2, rfl, q _ (I1.hok.fresh (Nat.le_refl _))⟩
  · obtain ⟨its, r', pl, hz⟩ := I.tuple hq
    exact call_tuple_same pl ⟨.ref p, H, I, rfl, q⟩

def tyV (K : PySem.W.Frag) (T : String) (x : V) (H : Hp) : Prop := match x with
  | .str _ => T = "str"
  | .int _ => T = "int"
  | .ref p => (T = "list" ∧ ∃ xs, SqL K H p xs) ∨ (T = "tuple" ∧ ∃ o, K.lookup p = some o ∧ o.cls = .type "tuple" ∧ o.dict = none) ∨
      (T = "dict" ∧ ((∃ kvs, H p = some (.dK kvs)) ∨ ∃ kvs, H p = some (.dT kvs))) ∨ (T = "set" ∧ ∃ S n, H p = some (.set S n))
  | _ => False
theorem tyV_is {pins : List (Addr × Obj)} {σ : St} {H : Hp} {s : Shared} {T : String} {x : V} {v : Value} (I : Inv X pins σ H s) (r : RelV x v) (ty : tyV X.K T x H) :
    s.TypeIs v T ∧ ∀ a, v = .ref a → ∃ ob, s.heap.get? a = some ob ∧ ob.dict = none := by
  cases x with
  | str z =>
    obtain ⟨t, rfl⟩ := r
    cases (show T = "str" from ty)
    exact ⟨typeIs_str s z t, fun _ e => nomatch e⟩
  | int i =>
    obtain ⟨t, rfl⟩ := r
    cases (show T = "int" from ty)
    exact ⟨typeIs_int s i t, fun _ e => nomatch e⟩
  | ref p =>
    cases r
    rcases ty with ⟨rfl, xs, hq⟩ | ⟨rfl, o, hk, hc, hd⟩ | ⟨rfl, hk⟩ | ⟨rfl, S, n, hk⟩
    · obtain ⟨its, _, pl, _⟩ := I.list hq
      refine ⟨pl.isList.typeIs, fun a e => ?_⟩
      cases e
      obtain ⟨o, n, e, c, hd, _⟩ := pl
      exact ⟨o, e, hd⟩
    · refine ⟨⟨o, I.kIn p o hk, hc⟩, fun a e => ?_⟩
      cases e
      exact ⟨o, I.kIn _ o hk, hd⟩
    · have z : ∃ o, s.heap.get? p = some o ∧ o.ExactDict := by
        rcases hk with ⟨kvs, hk⟩ | ⟨kvs, hk⟩
        · obtain ⟨_, _, _, _, o, _, _, e, ex, _⟩ := I.hok p _ hk
          exact ⟨o, e, ex⟩
        · obtain ⟨_, _, _, _, o, _, _, e, ex, _⟩ := I.hok p _ hk
          exact ⟨o, e, ex⟩
      obtain ⟨o, e, ex⟩ := z
      refine ⟨⟨o, e, ex.1⟩, fun a e2 => ?_⟩
      cases e2
      exact ⟨o, e, ex.2.1⟩
    · obtain ⟨o, _, _, _, e, ex, _⟩ := I.hok p _ hk
      refine ⟨⟨o, e, ex.1⟩, fun a e2 => ?_⟩
      cases e2
      exact ⟨o, e, ex.2.1⟩
  | _ => exact False.elim ty
def tBM (K : PySem.W.Frag) (T : String) (r : V → List V → Hp → VK → Prop) (to : TE) (t : TA) : TE := fun σ H Q => to σ H fun x H1 => tyV K T x H1 ∧ t σ H1 fun xs H2 => r x xs H2 Q
variable {o e : Expr} {es : List Expr} {to : TE} {t : TA} {name : Str} {apos cpos : Pos} {T id : String} {r : V → List V → Hp → VK → Prop}
theorem pe_bm (pa : PlainAttrs T) (slot : Slot T name id) (hty : typeOf (.builtin id) = pure (.type "method_descriptor")) (hm : MtR X id r) (ho : PE X o to) (ha : PA X (e :: es) t)
    (hbase : attributeBase o name X.env (eval o X.env) = eval o X.env := by rfl)
    (hfew : ((backTo cpos (starEach (e :: es) X.env)).all (fun x => !x.1) && (backToKw cpos (keywordEach [] X.env)).all (fun x => x.1.isSome)
      && decide ((e :: es).length + ([] : List Keyword).length + (if ([] : List Keyword).isEmpty then 0 else 1) < 30)) = true := by rfl)
    (hline : (apos.endLine == cpos.line) = true := by rfl) (hs : starEach (e :: es) X.env = (false, eval e X.env) :: starEach es X.env := by rfl) (hplain : (backTo cpos (starEach es X.env)).any (·.1) = false := by rfl) :
    PE X (.Call (.Attribute o name apos) (e :: es) [] cpos) (tBM X.K T r to t) := by
  intro pins s σ H Q I h
  refine wpAny_Call_method_late hbase hfew hline rfl (thn (ho pins s σ H _ I h) fun v s1 ⟨x, H1, I1, r1, ty, q1⟩ => ?_)
  obtain ⟨h1, h2⟩ := tyV_is I1 r1 ty
  refine ⟨T, id, pa, slot, hty, h1, h2, ?_⟩
  have hA := ha cpos pins s1 σ H1 _ I1 q1
  rw [hs] at hA ⊢
  refine Calls.callWith_builtin (by show (false || (backTo cpos (starEach es X.env)).any (·.1)) = false; rw [hplain] <;> rfl) (Calls.evalArgs_plain ?_)
  exact thn hA fun us s2 ⟨vs, H2, I2, r2, q2⟩ => hm pins s2 σ H2 x vs v us Q I2 r1 r2 q2
end
end L2

namespace L2
open PySem PySem.Spec PyProof.Rows

def MtM (X : Cx) (id : String) (r : V → List V → Hp → VK → Prop) : Prop :=
  ∀ (pins : List (Addr × Obj)) (s : Shared) (σ : St) (H : Hp) (x : V) (xs : List V) (v : Value) (us : List Value) (Q : VK), Inv X pins σ H s → RelV x v → Vals xs us → r x xs H Q →
    wpAny (model X.prog X.w) X.A (call (.builtin id) (v :: us)) (EP X pins σ Q) X.xe s

theorem Vals.one : ∀ {x : V} {us : List Value}, Vals [x] us → ∃ u, us = [u] ∧ RelV x u
  | _, _, .cons r .nil => ⟨_, rfl, r⟩
theorem Vals.two : ∀ {x y : V} {us : List Value}, Vals [x, y] us → ∃ u v, us = [u, v] ∧ RelV x u ∧ RelV y v
  | _, _, _, .cons r (.cons q .nil) => ⟨_, _, rfl, r, q⟩
theorem Vals.zero : ∀ {us : List Value}, Vals [] us → us = []
  | _, .nil => rfl
theorem Vals.rep {xs : List V} {us : List Value} (h : Vals xs us) : ∀ k : Nat, Vals (List.replicate k xs).flatten (List.replicate k us).flatten
  | 0 => .nil
  | k + 1 => by
    rw [List.replicate_succ, List.replicate_succ, List.flatten_cons, List.flatten_cons]
    exact Vals.append h (Vals.rep h k)
theorem foldl_rep (its : List Value) : ∀ (k : Nat) (acc : List Value),
    List.foldl (fun x1 x2 => x1 ++ x2) acc.toArray (List.replicate k its.toArray) = (acc ++ (List.replicate k its).flatten).toArray
  | 0, acc => by simp
  | k + 1, acc => by
    have e : acc.toArray ++ its.toArray = (acc ++ its).toArray := by simp
    have e2 : (acc ++ its) ++ (List.replicate k its).flatten = acc ++ (List.replicate (k + 1) its).flatten := by
      rw [List.replicate_succ, List.flatten_cons, List.append_assoc]
    rw [← e2, ← foldl_rep its k (acc ++ its), ← e, List.replicate_succ, List.foldl_cons]

section
variable {X : Cx} {pins : List (Addr × Obj)} {σ : St} {H : Hp} {s : Shared} {l b : Addr} {xs ys zs : List V}

theorem Inv.lset {its its' : List Value} {n : Nat} {f : Array Value → Array Value} {t' : Nat} (I : Inv X pins σ H s) (hH : H l = some (.lst xs))
    (e : s.heap.get? l = some { cls := .type "list", data := .seq its.toArray n }) (hf : f its.toArray = its'.toArray) (hv : Vals ys its') (hz : ys.length ≤ sizeLine) :
    Inv X pins σ (upd H l (.lst ys)) { s with heap := s.heap.update l (Obj.mapSeq f), toks := t' } := by
  have q := PySem.IsL.update e f
  rw [hf] at q
  refine I.write (x := l) (e := l) (by rw [hH]; exact trivial) (.inl rfl) (fun b' u hb hu => (Heap.get?_update_other s.heap (Obj.mapSeq f) (Ne.symm hb)).trans hu) ⟨_, q⟩ ?_
  exact ⟨hz, its', _, hv, q⟩
theorem Inv.lnew {its : List Value} {t' : Nat} (I : Inv X pins σ H s) (hv : Vals ys its) (hz : ys.length ≤ sizeLine) :
    Inv X pins σ (upd H s.heap.objs.size (.lst ys)) { s with heap := s.heap.push { cls := .type "list", data := .seq its.toArray }, toks := t' } :=
  I.laid (fun _ _ q => Heap.get?_push_of_some _ q) (Nat.le_refl _) ⟨hz, its, 0, hv, Heap.get?_push_size _ rfl⟩
theorem Inv.fresh (I : Inv X pins σ H s) : H s.heap.objs.size = none := I.hok.fresh (Nat.le_refl _)
theorem Inv.lstM (I : Inv X pins σ H s) (hH : H l = some (.lst xs)) : xs.length ≤ sizeLine ∧ ∃ (its : List Value) (n : Nat), Vals xs its ∧ xs.length = its.length ∧ s.heap.get? l = some { cls := .type "list", data := .seq its.toArray n } := by
  obtain ⟨z, its, n, r, e⟩ := I.hok l _ hH
  exact ⟨z, its, n, r, r.length, e⟩

theorem notLongL {n : Nat} (h : n ≤ sizeLine) : Builtin.List.listTooLong n = false := by
  unfold Builtin.List.listTooLong
  exact decide_eq_false (by omega)
end

section
variable {X : Cx}

def rAppend : V → List V → Hp → VK → Prop := fun x vs H Q => ∃ l xs y, x = .ref l ∧ vs = [y] ∧ H l = some (.lst xs) ∧ xs.length < sizeLine ∧ Q .non (upd H l (.lst (xs ++ [y])))
theorem mt_append : MtM X "list.append" rAppend := by
  intro pins s σ H x vs v us Q I rx rv h
  obtain ⟨l, xs, y, rfl, rfl, hH, hz, q⟩ := h
  cases rx
  obtain ⟨u, rfl, ru⟩ := rv.one
  obtain ⟨z, its, n, r, hl, e⟩ := I.lstM hH
  refine call_meets F.slot_list_append ⟨_, e, rfl⟩ F.entry_list_append (F.args_list_append_2 _ _) (PySem.list_append l its.toArray n u (by rw [List.size_toArray]; omega)) ⟨e, ?_⟩
  refine ⟨.non, _, I.lset (its' := its ++ [u]) hH e (by simp) (r.append (.cons ru .nil)) ?_, rfl, q⟩
  rw [List.length_append, List.length_singleton]
  omega

def rCat : R2 := fun x y H Q => ∃ l b xs zs, x = .ref l ∧ y = .ref b ∧ H l = some (.lst xs) ∧ H b = some (.lst zs) ∧ xs.length + zs.length ≤ sizeLine ∧ ∀ p, H p = none → Q (.ref p) (upd H p (.lst (xs ++ zs)))
theorem op_cat : OpR X (binaryOp .Add) rCat := by
  intro pins s σ H x y v u Q I rx ry h
  obtain ⟨l, b, xs, zs, rfl, rfl, hH, hB, hz, q⟩ := h
  cases rx
  cases ry
  obtain ⟨z, its, n, r, hl, e⟩ := I.lstM hH
  obtain ⟨z2, its2, n2, r2, hl2, e2⟩ := I.lstM hB
  refine PySem.P.add_list e e2 ?_ (by rw [List.size_toArray, List.size_toArray]; omega)
  have ea : its.toArray ++ its2.toArray = (its ++ its2).toArray := by simp
  rw [ea]
  exact ⟨.ref _, _, I.lnew (t' := s.toks) (r.append r2) (by rw [List.length_append]; omega), rfl, q _ I.fresh⟩
def rRep : R2 := fun x y H Q => ∃ l k xs, x = .ref l ∧ y = .int k ∧ H l = some (.lst xs) ∧ -(2 ^ 63) ≤ k ∧ k < 2 ^ 63 ∧ xs.length * k.toNat ≤ sizeLine ∧
  ∀ p, H p = none → Q (.ref p) (upd H p (.lst (List.replicate k.toNat xs).flatten))
theorem len_rep {α : Type} (xs : List α) (k : Nat) : (List.replicate k xs).flatten.length = k * xs.length := by
  induction k with
  | zero => simp
  | succ k ih => rw [List.replicate_succ, List.flatten_cons, List.length_append, ih, Nat.succ_mul, Nat.add_comm]
theorem op_rep : OpR X (binaryOp .Mult) rRep := by
  intro pins s σ H x y v u Q I rx ry h
  obtain ⟨l, k, xs, rfl, rfl, hH, h1, h2, hz, q⟩ := h
  cases rx
  obtain ⟨t, rfl⟩ := ry
  obtain ⟨z, its, n, r, hl, e⟩ := I.lstM hH
  have hlen : its.toArray.size * k.toNat ≤ sizeLine := by rw [List.size_toArray, ← hl]; exact hz
  have hcap : ¬ its.toArray.size * k.toNat > (2 ^ 63 - 1) / 8 := by
    have : (sizeLine : Nat) ≤ (2 ^ 63 - 1) / 8 := by decide
    omega
  have hfit : ¬ (!Builtin.List.listFitsIndex k) = true := by
    rw [fitsIndex_both h1 h2]
    exact Bool.false_ne_true
  have hlong : ¬ Builtin.List.listTooLong (its.toArray.size * k.toNat) = true := by
    rw [notLongL hlen]
    exact Bool.false_ne_true
  have hnew : List.foldl (fun x1 x2 => x1 ++ x2) #[] (List.replicate (if its.toArray.isEmpty = true then 0 else k.toNat) its.toArray) = (List.replicate k.toNat its).flatten.toArray := by
    have f0 : ∀ m : Nat, List.foldl (fun x1 x2 => x1 ++ x2) #[] (List.replicate m its.toArray) = (List.replicate m its).flatten.toArray := fun m => by
      have := foldl_rep its m []
      rw [List.nil_append] at this
      exact this
    rw [f0]
    cases its with
    | nil => simp
    | cons a r' => rw [if_neg (by simp)]
  refine wpAny_binaryOp_repeat_ref (T := "list") (U := "int") (by decide) ⟨_, e, rfl⟩ (fun s' => typeIs_int s' k t) noFill_list_mul F.fills_int_mul F.slot_int_rmul repeat_list F.slot_int_index.lookup
    (call_meets F.slot_int_rmul (typeIs_int s k t) F.entry_int_rmul (F.args_int_rmul_2 _ _) (int___rmul___int_list k t l its.toArray n)
      ⟨e, rfl, ⟨_, e, rfl⟩, call_meets F.slot_list_mul ⟨_, e, rfl⟩ F.entry_list_mul (F.args_list_mul_2 _ _) (AutoListH.list___mul___list_int_3 l its.toArray n k t hfit hcap hlong) ⟨e, ?_⟩⟩)
  rw [hnew]
  exact ⟨.ref _, _, I.lnew (t' := s.toks) (r.rep k.toNat) (by rw [len_rep, Nat.mul_comm]; exact hz), rfl, q _ I.fresh⟩

end

section
variable {prog : Program} {w : World} {A : Around} {E : Value → Shared → Prop} {s : Shared}
end

section
variable {X : Cx}
end
end L2

namespace Att
open PySem PySem.W PySem.Calls PyProof.Rows

theorem ints_of_wellAll {P : Params} {h : Heap} : ∀ (ns : List Int) (vs : List Value), WellAll P h vs (ns.map WData.int) → IntsAre vs ns := by
  intro ns
  induction ns with
  | nil =>
    intro vs w
    rw [List.map_nil] at w
    cases w
    exact .nil
  | cons n ns ih =>
    intro vs w
    rw [List.map_cons] at w
    cases w with
    | cons a b =>
      cases a
      exact .cons _ _ (ih _ b)

theorem script_of {l : OpenLaw} {n : Nat} (hn : l.most = some n) {P : Params} {h : Heap} {args : List WData} {vals : List Value}
    (hpre : l.row.toRowW.claim.pre args = true) (hwl : WellAll P h vals args) :
    ∃ a vs ns, vals = [Value.ref a] ∧ args = [WData.list (ns.map WData.int)] ∧ h.get? a = some { cls := .type "list", data := .seq vs.toArray } ∧ IntsAre vs ns ∧ ns.length ≤ n := by
  have hsh : WShape.hasAll [] args [.list .int] = true := (pre_splitW hpre).1
  have hc : l.pre.holds [] { args := args } = true := (pre_splitW hpre).2
  obtain ⟨d, r, rfl, h1, h2⟩ := hasAllW_cons hsh
  obtain rfl := hasAllW_nil h2
  obtain ⟨xs, rfl, h3⟩ := hasW_list h1
  obtain ⟨ns, rfl⟩ := items_int h3
  have hlen : ns.length ≤ n := by
    unfold OpenLaw.pre at hc
    have h4 : (WTm.not (.lt (.lit (.int (n : Int))) (.len (.arg 0)))).holds [] { args := [.list (ns.map .int)] } = true := by
      have h4 := (holds_andW hc).1
      rw [hn] at h4
      exact h4
    have h5 := condW_of h4 (w_not (w_lt w_lit (w_len_list (w_arg rfl))))
    rw [List.length_map] at h5
    refine Nat.le_of_not_lt fun q => ?_
    have q' : (n : Int) < ((ns.length : Nat) : Int) := by omega
    first
      | (rw [decide_eq_true q'] at h5; exact absurd h5 (by decide))
      | (simp at h5; omega)
  cases hwl with
  | cons w1 w2 =>
    cases w2
    cases w1 with
    | list ho hall => exact ⟨_, _, ns, rfl, rfl, ho, ints_of_wellAll ns _ hall, hlen⟩

theorem post_true (l : OpenLaw) (args : List WData) : l.row.toRowW.claim.post args (.bool true) args = true :=
  postW_of (r := l.row.toRowW) (X := (true == true))
    (show WShape.has [] (.bool true) .bool = true by first | rfl | decide | simp [WShape.has, WShape.arms, WShape.armsAll])
    (show (WTm.eq .res (.lit (.bool true))).value [] { args := args, res := some (.bool true), after := args } = some (.bool (true == true)) from w_eq_bool (w_res rfl) w_lit) rfl

theorem attach_call {l : OpenLaw} {n : Nat} {q : Program} {loose : List Str} {XP : (Str → Option Value) → Heap → Prop} {YP : World → Heap → Prop} {d : DefRec}
    (hn : l.most = some n) (hdf : d.params.defaults = [])
    (call : ∀ (w : World) (s₀ s₁ : Shared) (mg mb : Str → Option Value) (fa : Addr) (o : Obj) (pm cd doc : Value) (a : Addr) (vs : List Value) (ns : List Int),
      Ground q loose [] XP w s₀ mg mb s₁.heap → YP w s₁.heap →
      s₁.heap.get? fa = some o → o.data = .func (docDef d.name d.params d.body d.scope pm cd doc) → s₁.heap.CodeRec cd d.name → mg d.name = some (.ref fa) →
      s₁.heap.get? a = some { cls := .type "list", data := .seq vs.toArray } → IntsAre vs ns → ns.length ≤ n → s₁.gens = #[] →
      codeAny (model l.prog w) callerA (.call (.ref fa) ⟨[.ref a], []⟩) (fun r s' => r = .ok (.ret (.bool true)) ∧ OldK s₁.heap s'.heap ∧ s'.os = s₁.os ∧ AllBare s'.gens) s₁) :
    WalkO q loose XP YP l.row.toRowW d [] (fun f vs => PySem.call f vs) := by
  intro w s₀ s₁ mg mb G Y fa o pm cd doc dV kV ho hd hcd hD hmg hg args vals as hpre hlay hrd hwl hlo
  obtain rfl : dV = .none := Dflts.none hD hdf
  obtain rfl : kV = .none := Dflts.noKw hD
  obtain ⟨a, vs, ns, rfl, rfl, hobj, hints, hlen⟩ := script_of hn hpre hwl
  refine enter_call (codeAny_mono (call w s₀ s₁ mg mb fa o pm cd doc a vs ns G Y ho (fd_plain hd) hcd hmg hobj hints hlen hg) fun r s' hq => ?_)
  obtain ⟨rfl, h2, h3, h4⟩ := hq
  exact ⟨.inl ⟨.bool true, .bool true, [], rfl, fun _ => rfl, .bool true, post_true l _, fun _ => ⟨List.Pairwise.nil, fun _ hm => (nomatch hm)⟩⟩, h2, h3, h4⟩

section
variable {prog : Program} {w : World} {A : Around} {E : Value → Shared → Prop} {s : Shared} {K : Frag}

end
end Att

namespace L2
open PySem PySem.Spec PyProof.Rows

theorem vals_ints : ∀ {vs : List Value} {ns : List Int}, IntsAre vs ns → Vals (ns.map V.int) vs
  | _, _, .nil => .nil
  | _, _, .cons n t h => .cons ⟨t, rfl⟩ (vals_ints h)

def Only (H : Hp) : Prop := ∀ b, H b = none ∨ ∃ o xs, H b = some (.frz o (.lst xs))

theorem law_call {P : Program} {w : World} {K : PySem.W.Frag} {mg mb : Str → Option Value} {CX : CXT} {k : Nat} {fa a : Addr} {fd : FuncData} {x : Str} {sp : Sp} {s₁ : Shared} {vs : List Value} {ns : List Int}
    (KX : K.In s₁.heap) (hns : s₁.heap.Ns mainGlobals mg) (hb : s₁.heap.Ns builtinsNs mb) (hbb : ∀ x : Str, x ≠ "__name__" → mb x = bootBuiltins x) (hlim : s₁.heap.NoLimit) (hg : s₁.gens = #[])
    (ha : s₁.heap.get? a = some { cls := .type "list", data := .seq vs.toArray }) (hi : IntsAre vs ns) (hl : ns.length ≤ sizeLine) (hr : Room k callerA)
    (F : ∀ base : Heap, K.In base → base.Ns mainGlobals mg → FnOk P w K mg base CX k fa fd [x] sp) (hbind : ∀ (s : Shared) (u : Value), BindsTo s fd ⟨[u], []⟩ [(x, u)])
    (hsp : ∀ H : Hp, Only H → SqL K H a (ns.map V.int) → sp [.ref a] H (fun v _ => v = .bl true) fun _ _ _ => False)
    (hCX : ∀ H e s', CX [] H s₁ (fun _ _ _ => False) e s' → False) :
    codeAny (model P w) callerA (.call (.ref fa) ⟨[.ref a], []⟩) (fun r s' => r = .ok (.ret (.bool true)) ∧ OldK s₁.heap s'.heap ∧ s'.os = s₁.os ∧ AllBare s'.gens) s₁ := by
  have rv := vals_ints hi
  have lenV := hi.length
  -- from an abstract heap in which nothing but the script may be tracked
  have core : ∀ H : Hp, Only H → SqL K H a (ns.map V.int) → HOk P w H s₁.heap → (∀ b, H b ≠ none → b = a) → (H a ≠ none → K.lookup a = none) →
      codeAny (model P w) callerA (.call (.ref fa) ⟨[.ref a], []⟩) (fun r s' => r = .ok (.ret (.bool true)) ∧ OldK s₁.heap s'.heap ∧ s'.os = s₁.os ∧ AllBare s'.gens) s₁ := by
    intro H hO hS hok hA hK
    have base_of : ∀ {b : Addr} {o : Obj}, s₁.heap.get? b = some o → H b = none → (hidT s₁.heap H).get? b = some o := fun e n => hidT_get e n
    have noA : ∀ {b : Addr} {o : Obj} {es : Array DictEntry} {ep : Nat}, s₁.heap.get? b = some o → o.data = .dict es ep → H b = none := fun {b o es ep} e d => by
      cases q : H b with
      | none => rfl
      | some u =>
        have e' : b = a := hA b (by rw [q]; simp)
        subst e'
        rw [ha] at e; cases e
        have d' : Data.seq vs.toArray _ = Data.dict es ep := d
        cases d'
    have nsK : ∀ {b : Addr} {m : Str → Option Value}, s₁.heap.Ns b m → (hidT s₁.heap H).Ns b m := fun {b m} ⟨o, es, ep, e, d, r⟩ => ⟨o, es, ep, base_of e (noA e d), d, r⟩
    have hKb : K.In (hidT s₁.heap H) := fun b o e => base_of (KX b o e) (by
      cases q : H b with
      | none => rfl
      | some u =>
        have e' : b = a := hA b (by rw [q]; simp)
        subst e'
        rw [hK (by rw [q]; simp)] at e; cases e)
    have hM : Mod K mg (hidT s₁.heap H) := ⟨hKb, nsK hns, ⟨mb, nsK hb, hbb⟩, let ⟨mc, h1, h2⟩ := hlim; ⟨mc, nsK h1, h2⟩⟩
    have e0 : Env0 P w K mg (hidT s₁.heap H) callerA [] s₁ H := ⟨rfl, hM, fun b o e => of_hidT e, Nat.le_of_eq (hidT_size _ _), trivial, fun b hb => absurd (show b ∈ ([] : List Addr) from hb) (by simp), hok, .of_eq hg⟩
    refine codeAny_mono ((F _ hKb (nsK hns)).run callerA [] s₁ H ⟨[.ref a], []⟩ [.ref a] [.ref a] _ _ hr e0 (hbind s₁ (.ref a)) (.cons rfl .nil) (hsp H hO hS)) fun r s' h => ?_
    cases r with
    | error e => exact (hCX H e s' h).elim
    | ok fl =>
      cases fl with
      | next => exact False.elim h
      | brk => exact False.elim h
      | cont => exact False.elim h
      | ret u =>
        obtain ⟨v, H', os, bare, un, hok', r', q⟩ := h
        have q' : v = .bl true := q
        subst q'
        obtain rfl : u = Value.bool true := r'
        refine ⟨rfl, OldK.of_keep fun b o e => ?_, os, bare⟩
        cases q : H b with
        | none => exact un.keep b o e q (by intro z; exact absurd (show b ∈ ([] : List Addr) from z) (by simp)) (by simp)
        | some u =>
          rcases hO b with z | ⟨ob, xs, z⟩
          · rw [q] at z; cases z
          · have z2 := un.frzs b ob _ z
            obtain ⟨e1, _⟩ := hok b _ z
            obtain ⟨e2, _⟩ := hok' b _ z2
            rw [e] at e1; cases e1
            exact e2
  cases hk : K.lookup a with
  | some o =>
    -- the script is one of the module's own objects
    have e := KX a o hk
    rw [ha] at e
    cases e
    refine core (fun _ => none) (fun _ => .inl rfl) (.inr ⟨_, vs.toArray, _, hk, rfl, rfl, rfl, by rw [List.size_toArray, lenV]; exact hl, by simpa using rv⟩) (fun b u z => by have z' : (none : Option HO) = some u := z; cases z') (fun b z => absurd rfl z) fun z => absurd rfl z
  | none =>
    refine core (fun b => if b = a then some (.frz { cls := .type "list", data := .seq vs.toArray } (.lst (ns.map V.int))) else none) (fun b => ?_) (.inl (.inr ⟨{ cls := .type "list", data := .seq vs.toArray }, if_pos rfl⟩)) (fun b u z => ?_) (fun b z => ?_) fun _ => hk
    · by_cases hb : b = a
      · exact .inr ⟨_, _, if_pos hb⟩
      · exact .inl (if_neg hb)
    · by_cases hb : b = a
      · have z' := (if_pos hb).symm.trans z
        cases z'
        subst hb
        exact ⟨ha, by rw [List.length_map]; exact hl, vs, _, rv, ha⟩
      · have z' := (if_neg hb).symm.trans z
        cases z'
    · by_cases hb : b = a
      · exact hb
      · exact absurd (if_neg hb) z
end L2

namespace L2
open PySem PySem.Spec PyProof.Rows

theorem walk_of {l : PySem.W.OpenLaw} {n k : Nat} {q : Program} {loose : List Str} {XP : (Str → Option Value) → Heap → Prop} {YP : World → Heap → Prop} {d : DefRec} {K : Params → PySem.W.Frag} {CX : World → CXT} {sp : World → Sp} {x : Str}
    (hn : l.most = some n) (hn2 : n ≤ sizeLine) (hdf : d.params.defaults = []) (hr : Room k callerA)
    (hY : ∀ (w : World) (h : Heap), YP w h → (K w.params).In h)
    (F : ∀ (w : World) (mg : Str → Option Value) (fa : Addr) (h : Heap), (K w.params).In h → h.Ns mainGlobals mg → mg d.name = some (.ref fa) →
      ∃ fd : FuncData, (∀ (s : Shared) (u : Value), BindsTo s fd ⟨[u], []⟩ [(x, u)]) ∧
        ∀ base : Heap, (K w.params).In base → base.Ns mainGlobals mg → FnOk l.prog w (K w.params) mg base (CX w) k fa fd [x] (sp w))
    (hsp : ∀ (w : World) (H : Hp) (a : Addr) (ns : List Int), ns.length ≤ n → Only H → SqL (K w.params) H a (ns.map V.int) → sp w [.ref a] H (fun v _ => v = .bl true) fun _ _ _ => False)
    (hCX : ∀ (w : World) (H : Hp) (s : Shared) (e : Value) (s' : Shared), CX w [] H s (fun _ _ _ => False) e s' → False) :
    PySem.W.WalkO q loose XP YP l.row.toRowW d [] (fun f vs => PySem.call f vs) := by
  refine Att.attach_call hn hdf fun w s₀ s₁ mg mb fa o pm cd doc a vs ns G Y ho hd hcd hmg hobj hints hlen hg => ?_
  have KX := hY w _ Y
  obtain ⟨fd, hb, hF⟩ := F w mg fa _ KX G.T.g hmg
  exact law_call KX G.T.g G.T.b G.T.builtins G.T.nolimit hg hobj hints (Nat.le_trans hlen hn2) hr hF hb (fun H hO hS => hsp w H a ns hlen hO hS) fun H e s' => hCX w H s₁ e s'
end L2

namespace L2
open PySem PySem.Spec PyProof.Rows

def inClass (s : Stmt) (j : Nat) : Stmt := match s with
  | .ClassDef _ _ _ body _ _ _ _ _ _ _ => body.getD j (.Pass ⟨0, 0, 0, 0⟩)
  | _ => .Pass ⟨0, 0, 0, 0⟩
def defArgs (s : Stmt) : Arguments := match s with
  | .FunctionDef _ a _ _ _ _ _ _ _ _ => a
  | _ => { posonlyargs := [], args := [], vararg := none, kwonlyargs := [], kw_defaults := [], kwarg := none, defaults := [] }
def defBody (s : Stmt) : List Stmt := match s with
  | .FunctionDef _ _ b _ _ _ _ _ _ _ => b
  | _ => []
def defScope (s : Stmt) : Scope := match s with
  | .FunctionDef _ _ _ _ _ _ sc _ _ _ => sc
  | _ => { kind := .function, names := [], isGenerator := false, isCoroutine := false }

abbrev CX0 : CXT := fun _ _ _ _ _ _ => False
abbrev E0 : XK := fun _ _ _ => False
theorem pass0 {X : Cx} : Passes CX0 X E0 := fun _ _ _ _ _ _ _ h => h.elim

structure Fun (K : PySem.W.Frag) (x qual : Str) (st : Stmt) (f : Addr) (fd : FuncData) : Prop where
  ex : ∃ (oc : Value) (od : Option Addr) (kV doc pm : Value) (an : Option Addr) (cdv ct : Value) (osl : Array (Option Value)),
    fd = PySem.W.fnOf x qual (defArgs st) (defBody st) (defScope st) .none kV doc pm an cdv ct ∧ K.lookup f = some ⟨oc, od, .func fd, osl⟩ ∧ PySem.W.codeIn K cdv qual = true
  kp : PySem.W.keepIn K (.ref f) = true
section
variable {P : Program} {w : World} {K : PySem.W.Frag} {mg : Str → Option Value} {base : Heap}
theorem Fun.ok {x qual : Str} {st : Stmt} {f : Addr} {fd : FuncData} {N ps : List Str} {k : Nat} {sp : Sp} (F : Fun K x qual st f fd) (S : FnScope N ps (defScope st)) (len : ∀ vs H Q E, sp vs H Q E → vs.length = ps.length)
    (hbody : ∀ (cdv : Value) (A : Around) (outer : List Env) (s : Shared) (H : Hp) (vs : List V) (Q : VK) (E : XK), Room k (A.deeper (envOfC qual (defScope st) s.heap.objs.size f cdv)) → sp vs H Q E →
      ∃ t, PSs (cxOf CX0 P w K mg base N qual (defScope st) f cdv A outer s H E).nox (defBody st) t ∧ t { nx := fun _ H' => Q .non H', rt := Q } (start N vs) H) : FnOk P w K mg base CX0 (k + 1) f fd ps sp := by
  obtain ⟨oc, od, kV, doc, pm, an, cdv, ct, osl, rfl, lk, hcd⟩ := F.ex
  refine fn_of lk hcd S len fun A outer s H vs Q E hr hsp => ?_
  obtain ⟨t, h, q⟩ := hbody cdv A outer s H vs Q E hr hsp
  exact ⟨t, h.nox, q⟩
theorem Fun.binds {x qual : Str} {st : Stmt} {f : Addr} {fd : FuncData} {ps : List Str} (F : Fun K x qual st f fd)
    (h : ∀ (kV doc pm : Value) (an : Option Addr) (cdv ct : Value) (us : List Value), us.length = ps.length → bindArgs (PySem.W.fnOf x qual (defArgs st) (defBody st) (defScope st) .none kV doc pm an cdv ct) ⟨us, []⟩ = pure (ps.zip us)) : Binds K fd ps [] := by
  obtain ⟨oc, od, kV, doc, pm, an, cdv, ct, osl, rfl, lk, hcd⟩ := F.ex
  exact .all (h kV doc pm an cdv ct)
theorem fun_mk {x qual : Str} {st : Stmt} {f : Addr} {oc : Value} {od an : Option Addr} {osl : Array (Option Value)} {kV doc pm cdv ct : Value} (l : K.lookup f = some ⟨oc, od, .func (PySem.W.fnOf x qual (defArgs st) (defBody st) (defScope st) .none kV doc pm an cdv ct), osl⟩)
    (c : PySem.W.codeIn K cdv qual = true) (k : PySem.W.keepIn K (.ref f) = true) : Fun K x qual st f (PySem.W.fnOf x qual (defArgs st) (defBody st) (defScope st) .none kV doc pm an cdv ct) := ⟨⟨oc, od, kV, doc, pm, an, cdv, ct, osl, rfl, l, c⟩, k⟩
end
theorem hu_of {A : Around} {k : Nat} (hr : Room k A) : A.units + 1 < cLine := Nat.lt_of_le_of_lt (Nat.add_le_add_left (by decide : 1 ≤ 64) _) hr.units
theorem small1000 {n : Nat} (h : n ≤ 1000) : n < sizeLine := Nat.lt_of_le_of_lt h (by decide)

section
variable {X : Cx}
theorem pv (i : Nat) {x : Str} {pos : Pos} (hN : X.N[i]? = some x := by rfl) (hv : Vis X.env.scope x := by first | exact Or.inl rfl | exact Or.inr (Or.inl rfl) | exact Or.inr (Or.inr rfl)) (hd : (x == ("__debug__" : Str)) = false := by decide)
    (hcd : (x == ("__classdict__" : Str)) = false := by decide) : PE X (.Name x pos) (tVar i) := pe_var hN hv hd hcd
end

theorem iteF {A B : Prop} (h : B) : if false = true then A else B := by
  rw [if_neg Bool.false_ne_true]
  exact h
theorem iteT {A B : Prop} (h : A) : if true = true then A else B := by
  rw [if_pos rfl]
  exact h
theorem ite2 {c A B : Prop} [Decidable c] (h1 : c → A) (h2 : ¬ c → B) : if c then A else B := by
  by_cases h : c
  · rw [if_pos h]
    exact h1 h
  · rw [if_neg h]
    exact h2 h
theorem iteNS {c A B : Prop} [Decidable c] (hc : c) (h : B) : if (!decide c) = true then A else B := by
  rw [decide_eq_true hc]
  exact iteF h

def Same (H H' : Hp) : Prop := ∀ b o, H b = some o → H' b = some o
theorem Same.refl (H : Hp) : Same H H := fun _ _ h => h
theorem Same.trans {H H1 H2 : Hp} (a : Same H H1) (b : Same H1 H2) : Same H H2 := fun c o h => b c o (a c o h)
theorem Same.free {H H' : Hp} (e : Same H H') {l : Addr} (h : H' l = Option.none) : H l = Option.none := by
  cases q : H l with
  | none => rfl
  | some o =>
    rw [e l o q] at h
    cases h
theorem Same.seq {K : PySem.W.Frag} {H H' : Hp} {a : Addr} {xs : List V} (e : Same H H') (h : SqL K H a xs) : SqL K H' a xs := by
  rcases h with (h | ⟨o, h⟩) | h
  · exact .inl (.inl (e _ _ h))
  · exact .inl (.inr ⟨o, e _ _ h⟩)
  · exact .inr h

section
variable {κ : Type} [DecidableEq κ]
end
end L2

set_option Elab.async false
set_option linter.all false
set_option maxRecDepth 100000
set_option maxHeartbeats 4000000
namespace L2
open PySem PySem.Spec PyProof.Rows

theorem forIn_fold {α β : Type} {l : List α} {f : α → β → Sem (ForInStep β)} {g : α → β → β} (h : ∀ x ∈ l, ∀ c, f x c = pure (.yield (g x c))) : ∀ c : β, forIn l c f = pure (l.foldl (fun c x => g x c) c) := by
  induction l with
  | nil => intro c; rfl
  | cons x l ih =>
    intro c
    rw [List.forIn_cons, h x List.mem_cons_self, pure_bind]
    exact ih (fun y hy => h y (List.mem_cons_of_mem _ hy)) _

def closeL (cells : List (Str × Addr)) (names : List (Str × NameKind)) : List (Str × Addr) :=
  names.foldl (fun c x => if (x.2 == NameKind.free) = true then (x.1, (cells.lookup x.1).getD 0) :: c else c) []

theorem closure_eq {scope : Scope} {env : Env} (h : ∀ x ∈ scope.names, x.2 = .free → ∃ c, env.cells.lookup x.1 = some c) : closureFor scope env = pure (closeL env.cells scope.names) := by
  simp only [closureFor]
  rw [forIn_fold (g := fun (x : Str × NameKind) c => if (x.2 == NameKind.free) = true then (x.1, (env.cells.lookup x.1).getD 0) :: c else c) (fun x hx c => by
    obtain ⟨n, kind⟩ := x
    by_cases hk : kind = .free
    · subst hk
      obtain ⟨a, ha⟩ := h _ hx rfl
      simp [cellOf, ha]
    · have hb : (kind == NameKind.free) = false := by simpa using hk
      simp only [hb, Bool.false_eq_true, if_false])]
  rfl

theorem closeL_mem {cells : List (Str × Addr)} : ∀ (names : List (Str × NameKind)) (acc : List (Str × Addr)), (∀ x ∈ names, x.2 = .free → ∃ c, cells.lookup x.1 = some c) → (∀ p ∈ acc, cells.lookup p.1 = some p.2) →
    ∀ p ∈ names.foldl (fun c (x : Str × NameKind) => if (x.2 == NameKind.free) = true then (x.1, (cells.lookup x.1).getD 0) :: c else c) acc, cells.lookup p.1 = some p.2
  | [], _, _, ha => ha
  | (n, k) :: r, acc, h, ha => by
    rw [List.foldl_cons]
    refine closeL_mem r _ (fun x hx => h x (List.mem_cons_of_mem _ hx)) ?_
    by_cases hk : k = .free
    · subst hk
      obtain ⟨a, e⟩ := h (n, .free) List.mem_cons_self rfl
      intro p hp
      simp only [beq_self_eq_true, if_true] at hp
      rcases List.mem_cons.mp hp with rfl | hp
      · show cells.lookup n = some ((cells.lookup n).getD 0)
        have e' : cells.lookup n = some a := e
        rw [e']; rfl
      · exact ha p hp
    · have hb : (k == NameKind.free) = false := by simpa using hk
      simp only [hb, Bool.false_eq_true, if_false]
      exact ha
theorem closeL_key {cells : List (Str × Addr)} {y : Str} : ∀ (names : List (Str × NameKind)) (acc : List (Str × Addr)), ((y, NameKind.free) ∈ names ∨ y ∈ acc.map (·.1)) →
    y ∈ (names.foldl (fun c (x : Str × NameKind) => if (x.2 == NameKind.free) = true then (x.1, (cells.lookup x.1).getD 0) :: c else c) acc).map (·.1)
  | [], acc, h => h.elim (fun z => nomatch z) fun z => z
  | (n, k) :: r, acc, h => by
    rw [List.foldl_cons]
    refine closeL_key r _ ?_
    rcases h with h | h
    · rcases List.mem_cons.mp h with e | h
      · cases e
        refine .inr ?_
        simp
      · exact .inl h
    · refine .inr ?_
      split
      · exact List.mem_cons_of_mem _ h
      · exact h
theorem lookup_key {y : Str} : ∀ {l : List (Str × Addr)}, y ∈ l.map (·.1) → ∃ c, l.lookup y = some c
  | [], h => nomatch h
  | (n, a) :: r, h => by
    by_cases e : y = n
    · subst e
      exact ⟨a, by simp [List.lookup_cons]⟩
    · have hb : (y == n) = false := by simpa using e
      have hr : y ∈ r.map (·.1) := (List.mem_cons.mp h).resolve_left e
      obtain ⟨c, hc⟩ := lookup_key hr
      exact ⟨c, by rw [List.lookup_cons, hb]; exact hc⟩
theorem relabel_free {env : Env} {y : Str} : ∀ {names : List (Str × NameKind)} {k : NameKind}, (∀ z ∈ names, z.2 ≠ .cell) →
    (names.map fun (n, k) => if (k == NameKind.free && env.scope.kind == .function && env.kindOf n == some .cell) then (n, NameKind.cell) else (n, k)).lookup y = some k → k = .cell ∨ k = .free → (y, NameKind.free) ∈ names
  | [], _, _, h, _ => by simp at h
  | (n, k0) :: r, k, hc, h, hk => by
    rw [List.map_cons] at h
    by_cases e : y = n
    · subst e
      by_cases c : (k0 == NameKind.free && env.scope.kind == .function && env.kindOf y == some .cell) = true
      · have hf : k0 = .free := by
          have := c
          simp only [Bool.and_eq_true] at this
          simpa using this.1.1
        subst hf
        exact List.mem_cons_self
      · have h' : k0 = k := by
          rw [show (match (y, k0) with | (n, k) => if (k == NameKind.free && env.scope.kind == .function && env.kindOf n == some .cell) = true then (n, NameKind.cell) else (n, k)) = (y, k0) from if_neg c] at h
          simpa [List.lookup_cons] using h
        subst h'
        rcases hk with rfl | rfl
        · exact absurd rfl (hc _ List.mem_cons_self)
        · exact List.mem_cons_self
    · have hb : (y == n) = false := by simpa using e
      refine List.mem_cons_of_mem _ (relabel_free (env := env) (k := k) (fun z hz => hc z (List.mem_cons_of_mem _ hz)) ?_ hk)
      by_cases c : (k0 == NameKind.free && env.scope.kind == .function && env.kindOf n == some .cell) = true
      · rw [show (match (n, k0) with | (n, k) => if (k == NameKind.free && env.scope.kind == .function && env.kindOf n == some .cell) = true then (n, NameKind.cell) else (n, k)) = (n, NameKind.cell) from if_pos c, List.lookup_cons, hb] at h
        exact h
      · rw [show (match (n, k0) with | (n, k) => if (k == NameKind.free && env.scope.kind == .function && env.kindOf n == some .cell) = true then (n, NameKind.cell) else (n, k)) = (n, k0) from if_neg c, List.lookup_cons, hb] at h
        exact h

theorem relabel_of_free {env : Env} {y : Str} : ∀ {names : List (Str × NameKind)}, names.lookup y = some .free →
    (names.map fun (n, k) => if (k == NameKind.free && env.scope.kind == .function && env.kindOf n == some .cell) then (n, NameKind.cell) else (n, k)).lookup y = some .cell ∨
    (names.map fun (n, k) => if (k == NameKind.free && env.scope.kind == .function && env.kindOf n == some .cell) then (n, NameKind.cell) else (n, k)).lookup y = some .free
  | [], h => by simp at h
  | (n, k) :: r, h => by
    have ih := @relabel_of_free env y r
    show List.lookup y ((if (k == NameKind.free && env.scope.kind == .function && env.kindOf n == some .cell) = true then (n, NameKind.cell) else (n, k)) :: _) = _ ∨ List.lookup y ((if (k == NameKind.free && env.scope.kind == .function && env.kindOf n == some .cell) = true then (n, NameKind.cell) else (n, k)) :: _) = _
    cases hx : y == n with
    | true =>
      simp only [List.lookup_cons, hx] at h
      cases h
      by_cases hc : (NameKind.free == NameKind.free && env.scope.kind == .function && env.kindOf n == some .cell) = true
      · rw [if_pos hc]; simp [List.lookup_cons, hx]
      · rw [if_neg hc]; simp [List.lookup_cons, hx]
    | false =>
      simp only [List.lookup_cons, hx] at h
      by_cases hc : (k == NameKind.free && env.scope.kind == .function && env.kindOf n == some .cell) = true
      · rw [if_pos hc]; simp only [List.lookup_cons, hx]; exact ih h
      · rw [if_neg hc]; simp only [List.lookup_cons, hx]; exact ih h

structure Blk (X : Cx) (scope : Scope) (N : List Str) (ix : List (Option Nat)) : Prop where
  kind : scope.kind = .function
  nocell : ∀ y ∈ scope.names, y.2 ≠ .cell
  names : ∀ y ∈ scope.names, y.2 = .local → scope.names.lookup y.1 = some .local
  free : ∀ y ∈ scope.names, y.2 = .free → X.env.kindOf y.1 = some .cell ∨ X.env.kindOf y.1 = some .free
  nd : N.Nodup
  len : ix.length = N.length
  slots : ∀ (j i : Nat) (y : Str), ix[j]? = some (some i) → N[j]? = some y → X.N[i]? = some y ∧ scope.names.lookup y = some .free

def blkSt (ix : List (Option Nat)) (σ : St) : St := ix.map fun o => o.bind fun i => (σ[i]?).join

def Cx.blk (X : Cx) (scope : Scope) (N : List Str) (pins : List (Addr × Obj)) (C : Addr) (s : Shared) (H : Hp) (ex : List Addr) : Cx :=
  { X with N := N, s₀ := s, H₀ := H, env := compEnvC scope (closeL X.env.cells scope.names) C X.env, outer := X.stack, stack := X.stack, ex := ex, fn := fun _ => false, pn := X.pn ++ pins, xe := fun _ _ => False }

def PIf (X : Cx) (ifs : List Expr) (t : TT) : Prop :=
  ∀ (pins : List (Addr × Obj)) (s : Shared) (σ : St) (H : Hp) (Q : Bool → Hp → Prop), Inv X pins σ H s → t σ H Q →
    wpAny (model X.prog X.w) X.A (forIn ifs true fun c r => if r = true then do let ok ← isTrue c X.env (eval c X.env); pure (ForInStep.yield ok) else pure (ForInStep.yield r)) (TP X pins σ Q) X.xe s
def tYes : TT := fun _ H Q => Q true H
theorem pif_nil {X : Cx} : PIf X [] tYes := fun pins s σ H Q I h => wpAny_tests_nil ⟨H, I, h⟩
theorem pif_one {X : Cx} {c : Expr} {t : TT} (h : PT X c t) : PIf X [c] t := fun pins s σ H Q I q => wpAny_tests_one (h pins s σ H Q I q)

theorem codeAny_compLoop_go {prog : Program} {w : World} {A : Around} {R : Result → Shared → Prop} {s : Shared} {elt target iter : Expr} {ifs : List Expr} {scope : Scope} {pos : Pos} {it acc : Value} {env : Env} (I : Nat → Shared → Prop)
    (turn : ∀ n s, I n s → wpAny (model prog w) A (pyNext it) (fun r s₁ => match r with
      | none => R (.ok .next) s₁
      | some v => wpAny (model prog w) A (letOwnedTupleGo target it v) (fun _ s₀ => wpAny (model prog w) A (assign target env v) (fun _ s₂ =>
          wpAny (model prog w) A (forIn ifs true fun c r => if r = true then do let ok ← isTrue c env (eval c env); pure (ForInStep.yield ok) else pure (ForInStep.yield r)) (fun ok s₃ =>
            if ok = true then wpAny (model prog w) A (eval elt env) (fun x s₄ =>
              wpAny (model prog w) A (call (.builtin "list.append") [acc, x]) (fun _ s₅ => ∃ m, m < n ∧ I m s₅) (fun _ _ => False) s₄) (fun _ _ => False) s₃
            else ∃ m, m < n ∧ I m s₃) (fun _ _ => False) s₂) (fun _ _ => False) s₀) (fun _ _ => False) s₁) (fun _ _ => False) s)
    (n : Nat) (h : I n s) :
    codeAny (model prog w) A (.compLoop (.ListComp elt [⟨target, iter, ifs, 0⟩] scope pos) 0 it acc env) R s := by
  refine codeAny_loop rfl I (fun n s hI => ?_) n h
  show wpAny _ A ((compTurn (.ListComp elt [⟨target, iter, ifs, 0⟩] scope pos) 0 it acc env).onRaise (fun x => do noteFrame x env; theTreesLotGoes x)) _ _ s
  refine wpAny_noted ?_
  rw [compTurn_list]
  refine wpAny_bind (wpAny_standAt (wpAny_bind (wpAny_mono (turn n s hI) (fun r s₁ h₁ => ?_) fun _ _ h' => h'.elim)))
  cases r with
  | none => exact wpAny_pure h₁
  | some v =>
    refine wpAny_bind (wpAny_mono h₁ (fun _ s₀ h₀ => ?_) fun _ _ h' => h'.elim)
    refine wpAny_bind (wpAny_mono h₀ (fun _ s₂ h₂ => wpAny_bind (wpAny_mono h₂ (fun ok s₃ h₃ => ?_) fun _ _ h' => h'.elim)) fun _ _ h' => h'.elim)
    cases ok with
    | false => exact wpAny_pure ⟨rfl, h₃⟩
    | true =>
      exact wpAny_bind (wpAny_bind (wpAny_mono h₃ (fun x s₄ h₄ => wpAny_bind (wpAny_mono h₄ (fun _ s₅ h₅ => wpAny_pure (wpAny_pure ⟨rfl, h₅⟩)) fun _ _ h' => h'.elim)) fun _ _ h' => h'.elim))

theorem HOk.track {P : Program} {w : World} {H : Hp} {h : Heap} {a : Addr} {o : HO} (x : HOk P w H h) (hn : H a = none) (new : ObjOk P w (upd H a o) h a o) : HOk P w (upd H a o) h := fun b u e => by
  by_cases hb : b = a
  · subst hb; rw [upd_same] at e; cases e; exact new
  · rw [upd_ne hb] at e
    exact (x b u e).stay (fun c v _ q => q) (fun c q => by rw [upd_ne (ne_of_none q hn)]; exact q) fun c xs q => by rw [upd_ne (ne_of_none q hn)]; exact q
theorem HOk.but {P : Program} {w : World} {H : Hp} {h h' : Heap} {a : Addr} (x : HOk P w H h) (hn : H a = none) (sb : Heap.SameBut a h h') : HOk P w H h' := fun b u e => by
  refine (x b u e).stay (fun c v hc q => (sb.2 c ?_).trans q) (fun _ q => q) fun _ _ q => q
  rintro rfl
  rcases hc with rfl | hc
  · rw [hn] at e; cases e
  · rw [hn] at hc; cases hc

def tComp (wi : TI) (ix : List (Option Nat)) (j : Nat) (tc : TT) (te : TE) : TE := fun σ H Q => wi σ H fun J H1 => ∃ W : Nat → Nat → List V → Hp → Prop, (∃ m, W 0 m [] H1) ∧ ∀ i m ys H, W i m ys H →
  (J.stop i H ∧ ∀ D, H D = none → Q (.ref D) (upd H D (.lst ys))) ∨
  (J.go i H ∧ ∃ N : List V → Hp → Prop, (∀ ys' H', N ys' H' → ∃ m', m' < m ∧ W (i + 1) m' ys' H') ∧ ∀ x H', J.yld i H x H' →
    tc ((blkSt ix σ).set j (some x)) H' fun c H2 => if c = true then te ((blkSt ix σ).set j (some x)) H2 fun y H3 => ys.length < sizeLine ∧ N (ys ++ [y]) H3 else N ys H2)

theorem pe_comp {X : Cx} {elt iter : Expr} {x : Str} {px pos : Pos} {ifs : List Expr} {scope : Scope} {N : List Str} {ix : List (Option Nat)} {j : Nat} {wi : TI} {tc : TT} {te : TE}
    (hc : X.calm = true) (B : Blk X scope N ix) (hj : N[j]? = some x) (hix : ix[j]? = some none) (hx : scope.names.lookup x = some .local) (hi : PI X (.Name x px) iter wi)
    (ht : ∀ pins C s H ex, PIf (X.blk scope N pins C s H ex) ifs tc) (he : ∀ pins C s H ex, PE (X.blk scope N pins C s H ex) elt te)
    (hs : ∀ x, foldedSetIterable iter X.env x = pure x := by intro _; rfl) : PE X (.ListComp elt [⟨.Name x px, iter, ifs, 0⟩] scope pos) (tComp wi ix j tc te) := by
  intro pins s σ H Q I h
  rw [eval_ListComp]
  have hcl : ∀ y ∈ scope.names, y.2 = .free → ∃ c, X.env.cells.lookup y.1 = some c := fun y hy hf => I.ok.has y.1 (B.free y hy hf)
  refine wpAny_comprehension_free (use := none) (cl := closeL X.env.cells scope.names) rfl hs (closure_eq hcl) B.kind B.names ?_
  refine thn (hi pins s σ H _ I h) fun v s1 h1 => thn h1 fun itv s2 h2 => ?_
  obtain ⟨it, fp, tn, J, H2, e, I2, T, st2, f2, W, ⟨m0, w0⟩, turn⟩ := h2
  subst e
  refine wpAny_newObj_type (wpAny_newFunctionEnv B.nocell (by intro y hy; simp at hy) (fun h₁ hns₁ hsb₁ => ?_) B.kind)
  dsimp only at hns₁ hsb₁ ⊢
  generalize hHp : s2.heap.push { cls := .type "list", dict := none, data := .seq ([] : List Value).toArray } = Hq at hns₁ hsb₁ ⊢
  generalize hD : s2.heap.objs.size = D at hns₁ hsb₁ ⊢
  generalize hCq : Hq.objs.size = C at hns₁ hsb₁ ⊢
  have hC : C = D + 1 := by rw [← hCq, ← hHp, Heap.size_push, hD]
  have hDC : D ≠ C := by omega
  have below : ∀ b o, s2.heap.get? b = some o → b ≠ C ∧ b ≠ D := fun b o e => by
    have h1 : b < D := by rw [← hD]; exact Heap.lt_size e
    exact ⟨Nat.ne_of_lt (Nat.lt_of_lt_of_le h1 (by rw [hC]; exact Nat.le_succ D)), Nat.ne_of_lt h1⟩
  have old : ∀ b o, s2.heap.get? b = some o → h₁.get? b = some o := fun b o e => hsb₁.extBut b o (below b o e).1 (Heap.get?_push_of_some _ (hHp ▸ Heap.get?_push_of_some _ e))
  have hDobj : h₁.get? D = some { cls := .type "list", data := .seq ([] : List Value).toArray } :=
    hsb₁.extBut _ _ hDC (Heap.get?_push_of_some _ (hHp ▸ hD ▸ Heap.get?_push_size _ rfl))
  have H2D : H2 D = none := I2.hok.fresh (by rw [hD]; exact Nat.le_refl _)
  have H2C : H2 C = none := I2.hok.fresh (by rw [hD]; omega)
  have clM : ∀ y c, (closeL X.env.cells scope.names).lookup y = some c → X.env.cells.lookup y = some c := fun y c e => closeL_mem scope.names [] hcl (fun p hp => nomatch hp) (y, c) (PySem.mem_of_lookup e)
  have fpLt : ∀ b ∈ fp, ∃ o, s2.heap.get? b = some o := fun b hb => let ⟨o, e, _⟩ := T.obj 0 _ st2 b hb; ⟨o, e⟩
  have pinLt : ∀ p ∈ X.pn ++ pins, s2.heap.get? p.1 = some p.2 := fun p hp => (I2.pin p hp).1
  have cellLt : ∀ y c, X.env.cells.lookup y = some c → ∃ o, s2.heap.get? c = some o := fun y c e => let ⟨v, o, ho, _⟩ := I2.cell y c e; ⟨o, ho⟩
  let Xb : Cx := X.blk scope N pins C s2 H2 fp
  have okb : Xb.Ok := by
    refine ⟨I2.ok.mod, B.kind, I2.ok.glob, I2.ok.blt, ?_, fun y z c e1 e2 => I2.ok.inj y z c (clM y c e1) (clM z c e2), fun y hy => ?_, fun y c hf _ => ?_, I2.ok.hd, I2.ok.frames, .inl rfl, fun b hb => ?_, I2.bs, Nat.le_trans I2.ok.bsz I2.sz, fun b o e hb => ?_, fun b hb hf => ?_, I2.stack, I2.stkFree⟩
    · show s2.heap.objs.size ≤ C
      rw [hD]; omega
    · have hy' : (y, NameKind.free) ∈ scope.names := by
        rcases hy with hy | hy
        · exact relabel_free (env := X.env) B.nocell (show (relabel scope X.env).names.lookup y = some .cell from hy) (.inl rfl)
        · exact relabel_free (env := X.env) B.nocell (show (relabel scope X.env).names.lookup y = some .free from hy) (.inr rfl)
      exact lookup_key (closeL_key scope.names [] (.inl hy'))
    · exact absurd (show false = true from hf) Bool.false_ne_true
    · obtain ⟨o, e⟩ := fpLt b hb
      refine ⟨(below b o e).1, fun y c hy => ?_⟩
      exact (f2 b hb).2.2.2.2.1 y c (clM y c hy)
    · rcases (f2 b hb).2.2.2.1 with z | z
      · exact I2.ok.noex b o e z
      · exact absurd (Nat.lt_of_lt_of_le (Heap.lt_size e) (Nat.le_trans I2.ok.bsz z)) (Nat.lt_irrefl _)
    · rcases List.mem_cons.mp (I2.stkSub b hf) with z | z
      · exact (f2 b hb).2.1 z
      · exact (f2 b hb).2.2.1 z
  have σlen : (blkSt ix σ).length = N.length := by unfold blkSt; rw [List.length_map]; exact B.len
  have σj : (blkSt ix σ)[j]? = some none := by unfold blkSt; rw [List.getElem?_map, hix]; rfl
  have pinFs : ∀ p ∈ X.pn ++ pins, p.1 ∉ frs X.stack := fun p hp z => by
    obtain ⟨_, _, n1, n2, _⟩ := I2.pin p hp
    exact (List.mem_cons.mp (I2.stkSub p.1 z)).elim n1 n2
  have DFs : D ∉ frs X.stack := fun z => by
    rcases List.mem_cons.mp (I2.stkSub D z) with q | q
    · have h3 := I2.lt
      rw [hD, ← q] at h3
      exact absurd h3 (Nat.lt_irrefl _)
    · exact I2.nofs (by rw [hD]; exact Nat.le_refl _) q
  -- at the block's start
  have Ib : Inv Xb [(D, { cls := .type "list", data := .seq ([] : List Value).toArray })] (blkSt ix σ) H2 { s2 with heap := h₁, toks := s2.toks + ([] : List (Str × Value)).length } := by
    refine ⟨okb, rfl, I2.bare, Un.kept old, ⟨_, hns₁, fun a y v e1 e2 e3 => ?_⟩, fun y c e => ?_, H2C, fun y c e => I2.freeC y c (clM y c e), fun p hp => ?_, I2.hok.kept old, σlen⟩
    · unfold blkSt at e2
      rw [List.getElem?_map] at e2
      cases q : ix[a]? with
      | none => rw [q] at e2; cases e2
      | some o =>
        rw [q] at e2
        cases o with
        | none => cases e2
        | some i =>
          have e2' : (σ[i]?).join = some v := Option.some.inj e2
          have e2'' : σ[i]? = some (some v) := by
            cases r : σ[i]? with
            | none => rw [r] at e2'; cases e2'
            | some t => rw [r] at e2'; exact congrArg some e2'
          obtain ⟨n1, n2'⟩ := B.slots a i y q e1
          have n2 : (y, NameKind.free) ∈ scope.names := PySem.mem_of_lookup n2'
          have kf := B.free _ n2 rfl
          obtain ⟨m, _, hl⟩ := I2.loc
          obtain ⟨u, r, l⟩ := hl i y v n1 e2'' (kf.elim (fun z => .inr (.inl z)) fun z => .inr (.inr z))
          refine ⟨u, r, ?_⟩
          rcases l with ⟨l, _⟩ | ⟨_, c, hc1, hc2⟩
          · rcases kf with z | z <;> (rw [show X.env.kindOf y = some .local from l] at z; cases z)
          · obtain ⟨c', hc'⟩ := lookup_key (closeL_key (cells := X.env.cells) scope.names [] (.inl n2))
            have : c' = c := Option.some.inj ((clM y c' hc').symm.trans hc1)
            subst this
            have kb : (relabel scope X.env).names.lookup y = some .cell ∨ (relabel scope X.env).names.lookup y = some .free := relabel_of_free n2'
            obtain ⟨oc, hoc, hcd⟩ := hc2
            exact .inr ⟨kb, c', hc', oc, old _ _ hoc, hcd⟩
    · obtain ⟨v, oc, hoc, hcd⟩ := I2.cell y c (clM y c e)
      exact ⟨v, oc, old _ _ hoc, hcd⟩
    · rcases List.mem_append.mp hp with hp | hp
      · obtain ⟨p1, p2, p3, p4, p5⟩ := I2.pin p hp
        exact ⟨old _ _ p1, p2, (below _ _ p1).1, pinFs p hp, p5⟩
      · have e : p = (D, { cls := .type "list", data := .seq ([] : List Value).toArray }) := by simpa using hp
        subst e
        exact ⟨hDobj, H2D, hDC, DFs, fun v z => nomatch z⟩
  have stat : ∀ {H' : Hp} {ob : Obj}, (∀ b ∈ fp, H' b = none) → ∀ b ∈ fp, FpOk Xb [(D, ob)] H' b := fun {H' ob} hn b hb => by
    obtain ⟨o, e⟩ := fpLt b hb
    refine ⟨hn b hb, (below b o e).1, okb.exfs b hb, .inl hb, fun y c hy => (f2 b hb).2.2.2.2.1 y c (clM y c hy), fun p hp z => ?_⟩
    rcases List.mem_append.mp hp with hp | hp
    · exact (f2 b hb).2.2.2.2.2 p hp z
    · have q : p = (D, ob) := by simpa using hp
      subst q
      exact (below b o e).2 z.symm
  have loop : codeAny (model X.prog X.w) X.A (.compLoop (.ListComp elt [⟨.Name x px, iter, ifs, 0⟩] scope pos) 0 (.ref it) (.ref D) (compEnvC scope (closeL X.env.cells scope.names) C X.env))
      (compPost (model X.prog X.w) X.A X.xe none (EP X pins σ Q) (.ref D) C) { s2 with heap := h₁, toks := s2.toks + ([] : List (Str × Value)).length } := by
    refine codeAny_compLoop_go (fun n s' => ∃ i ys H' its k, Inv Xb [(D, { cls := .type "list", data := .seq (List.toArray its) k })] (blkSt ix σ) H' s' ∧ tn i s'.heap ∧ (∀ b ∈ fp, H' b = none) ∧ Vals ys its ∧ ys.length ≤ sizeLine ∧ W i n ys H') ?_ m0
      ⟨0, [], H2, [], _, Ib, T.keep _ _ _ st2 fun b _ o e => old b o e, fun b hb => (f2 b hb).1, .nil, Nat.zero_le _, w0⟩
    rintro n s3 ⟨i, ys, H3, its, k, I3, st3, fr3, hv3, hz3, w3⟩
    rcases turn i n ys H3 w3 with ⟨stop, qn⟩ | ⟨go, N', hN, step⟩
    · refine thn (T.done Xb rfl rfl rfl hc i _ s3 _ H3 (fun _ _ => False) I3 (stat fr3) st3 stop) fun r s4 ⟨hr, I4⟩ => ?_
      subst hr
      obtain ⟨m, hn, _⟩ := I4.loc
      have hp4 := I4.pin (D, { cls := .type "list", data := .seq its.toArray k }) (by simp)
      obtain ⟨gD, nD, _, _, _⟩ := hp4
      refine ⟨m, hn, fun h' sb => ⟨.ref D, upd H3 D (.lst ys), ?_, rfl, qn D nD⟩⟩
      have n3C : H3 C = none := I4.free
      have un4 : Un (frs X.stack) fp H2 H3 s2.heap s4.heap := I4.base
      have gD' : h'.get? D = some { cls := .type "list", data := .seq its.toArray k } := (sb.2 D hDC).trans gD
      have up : ∀ b o, s2.heap.get? b = some o → h'.get? b = s4.heap.get? b := fun b o e => sb.2 b (below b o e).1
      refine I2.call' (ch := fp) (s' := { s4 with heap := h' }) I4.os ?_ ?_ I4.bare fun b hb => ⟨(f2 b hb).2.2.2.1, (f2 b hb).2.1, (f2 b hb).2.2.2.2.1, (f2 b hb).2.2.2.2.2⟩
      · refine ⟨fun b o e n hb hx => (up b o e).trans (un4.keep b o e n hb hx), fun b o e n hb hx => ?_, fun b o e n hx => ?_, fun b o e hx => ?_, fun b xs e => ?_, fun b o u e => ?_, fun b ps e => ?_⟩
        · obtain ⟨sl, q⟩ := un4.slot b o e n hb hx
          exact ⟨sl, (up b o e).trans q⟩
        · rw [upd_ne (below b o e).2]; exact un4.free b o e n hx
        · obtain ⟨o', q⟩ := un4.there b o e hx
          exact ⟨o', (up b o e).trans q⟩
        · have q := un4.tups b xs e
          rw [upd_ne (ne_of_none q nD)]; exact q
        · have q := un4.frzs b o u e
          rw [upd_ne (ne_of_none q nD)]; exact q
        · obtain ⟨more, q⟩ := un4.tbls b ps e
          exact ⟨more, by rw [upd_ne (ne_of_none q nD)]; exact q⟩
      · exact (HOk.but I4.hok n3C sb).track nD ⟨hz3, its, k, hv3, gD'⟩
    · refine thn (T.item Xb rfl rfl rfl hc i _ s3 _ H3 (fun _ _ => False) I3 (stat fr3) st3 go) fun r s4 ⟨u, hr, h4⟩ => ?_
      subst hr
      refine thn h4 fun _ s5 ⟨x5, H5, I5, r5, y5, st5, fr5⟩ => ?_
      have I5' := I5.pinned (stat fr5) (T.obj _ _ st5)
      have hg : PG Xb (.Name x px) (gName j) := pg_name (X := Xb) (i := j) B.nd hj (.inl (lookup_relabel_local hx)) (.inr (lookup_relabel_local hx))
      refine thn (hg _ s5 _ H5 x5 u (fun σ' H' => σ' = (blkSt ix σ).set j (some x5) ∧ H' = H5) I5' r5 ⟨rfl, rfl⟩) fun _ s6 ⟨σ6, H6, I6, e6, e6'⟩ => ?_
      subst e6 e6'
      refine thn (ht pins C s2 H2 fp _ s6 _ _ _ I6 (step x5 _ y5)) fun ok s7 ⟨H7, I7, q7⟩ => ?_
      have back : ∀ {H8 : Hp} {s8 : Shared} {ob : Obj} {ys' : List V} {its' : List Value} {k' : Nat}, Inv Xb ([(D, ob)] ++ pinsAt fp s5.heap) ((blkSt ix σ).set j (some x5)) H8 s8 → ob = { cls := .type "list", data := .seq its'.toArray k' } → Vals ys' its' → ys'.length ≤ sizeLine → N' ys' H8 →
          ∃ m, m < n ∧ ∃ i ys H' its k, Inv Xb [(D, { cls := .type "list", data := .seq (List.toArray its) k })] (blkSt ix σ) H' s8 ∧ tn i s8.heap ∧ (∀ b ∈ fp, H' b = none) ∧ Vals ys its ∧ ys.length ≤ sizeLine ∧ W i m ys H' := fun {H8 s8 ob ys' its' k'} I8 eo hv8 hz8 n8 => by
        subst eo
        obtain ⟨m', hm, w8⟩ := hN ys' H8 n8
        refine ⟨m', hm, i + 1, ys', H8, its', k', ?_, T.keep _ _ _ st5 fun b hb o e => (I8.pin (b, o) (List.mem_append_right _ (List.mem_append_right _ (mem_pinsAt hb e)))).1, fun b hb => ?_, hv8, hz8, w8⟩
        · refine (I8.unpinned).weak (by rw [List.length_set]) fun a v e => ?_
          have na : j ≠ a := fun z => by rw [← z, σj] at e; cases e
          rw [List.getElem?_set_ne na]; exact e
        · obtain ⟨o, e, d⟩ := T.obj _ _ st5 b hb
          exact (I8.pin (b, o) (List.mem_append_right _ (List.mem_append_right _ (mem_pinsAt hb e)))).2.1
      cases ok with
      | false => exact back I7 rfl hv3 hz3 q7
      | true =>
        have q7' : te ((blkSt ix σ).set j (some x5)) H7 fun y H3 => ys.length < sizeLine ∧ N' (ys ++ [y]) H3 := q7
        show wpAny _ _ (eval elt _) _ _ _
        refine thn (he pins C s2 H2 fp _ s7 _ H7 _ I7 q7') fun y8 s8 ⟨v8, H8, I8, r8, hz8, q8⟩ => ?_
        have gD8 := (I8.pin (D, { cls := .type "list", data := .seq its.toArray k }) (by simp)).1
        have nD8 := (I8.pin (D, { cls := .type "list", data := .seq its.toArray k }) (by simp)).2.1
        have hl8 := hv3.length
        refine wpAny_list_append_plain (hsz := by rw [List.size_toArray]; omega) ⟨k, gD8⟩ fun h9 pl9 sb9 => ?_
        obtain ⟨k9, g9⟩ := pl9
        have g9' : h9.get? D = some { cls := .type "list", data := .seq (its ++ [y8]).toArray k9 } := by rw [g9]; simp
        have pinsP : ∀ p ∈ pinsAt fp s5.heap, p.1 ≠ D := fun p hp z => by
          obtain ⟨hb, _⟩ := of_pinsAt hp
          obtain ⟨o, e⟩ := fpLt p.1 hb
          exact (below _ o e).2 z
        have I8' : Inv Xb (pinsAt fp s5.heap) ((blkSt ix σ).set j (some x5)) H8 s8 := I8.pins_of fun p hp => I8.pin p (List.mem_append_right _ (List.mem_append_right _ hp))
        have I9 : Inv Xb (pinsAt fp s5.heap) ((blkSt ix σ).set j (some x5)) H8 { s8 with heap := h9 } := I8'.turned (t' := s8.toks) (fun b o hb e => (sb9.2 b hb).trans e) nD8 hDC (.inr (by show s2.heap.objs.size ≤ D; rw [hD]; exact Nat.le_refl _))
          (fun y c hy z => by obtain ⟨o, e⟩ := cellLt y c (clM y c hy); exact (below c o e).2 z)
          (fun p hp z => by
            rcases List.mem_append.mp hp with hp | hp
            · exact (below _ _ (pinLt p hp)).2 z
            · exact pinsP p hp z)
        have I10 : Inv Xb ([(D, { cls := .type "list", data := .seq (its ++ [y8]).toArray k9 })] ++ pinsAt fp s5.heap) ((blkSt ix σ).set j (some x5)) H8 { s8 with heap := h9 } := I9.pins_of fun p hp => by
          rcases List.mem_append.mp hp with hp | hp
          · have q : p = (D, { cls := .type "list", data := .seq (its ++ [y8]).toArray k9 }) := by simpa using hp
            subst q
            exact ⟨g9', nD8, hDC, DFs, fun v z => nomatch z⟩
          · exact I9.pin p (List.mem_append_right _ hp)
        exact back I10 rfl (hv3.append (.cons r8 .nil)) (by rw [List.length_append, List.length_singleton]; omega) q8
  exact codeAny_compStart_list loop (T.self _ 0 _ _ _ (T.keep _ _ _ st2 fun b _ o e => old b o e) loop)
end L2

set_option Elab.async false
set_option linter.all false
set_option maxRecDepth 100000
set_option maxHeartbeats 4000000
namespace L2
open PySem PySem.Spec PyProof.Rows
section
variable {X : Cx}
def CDivB (i j : Int) : Prop := 0 < j ∧ j < 115792089237316195423570985008687907853269984665640564039457584007913129639936
theorem log2_big {j : Int} (h : CDivB 0 j) : j.natAbs.log2 < 9000 := by
  have h1 : (0 : Int) < j := h.1
  have h2 : j < 115792089237316195423570985008687907853269984665640564039457584007913129639936 := h.2
  have e : (2 : Nat) ^ 256 = 115792089237316195423570985008687907853269984665640564039457584007913129639936 := by decide
  have h3 : j.natAbs < 2 ^ 256 := by rw [e]; omega
  have h4 : j.natAbs.log2 < 256 := (Nat.log2_lt (by omega)).mpr h3
  omega
theorem op_fdivB : OpR X (binaryOp .FloorDiv) (rI CDivB fun i j => .int (i / j)) := opI fun i j _ _ _ _ _ hc q => by
  have h1 : (0 : Int) < j := hc.1
  exact floordiv_int (by omega) (by rw [Int.fdiv_eq_ediv_of_nonneg i (by omega)]; exact q) (.inl (PyProof.noPylong_of_log2 (log2_big ⟨hc.1, hc.2⟩)))

theorem kit_of {pins : List (Addr × Obj)} {σ : St} {H : Hp} {s : Shared} {x : V} {u t : Value} (I : Inv X pins σ H s) (rx : RelV x u) (ty : TyOf X.K H x t) :
    ∃ Z : Heap → Prop, PySem.W.KitX X.K u t Z ∧ Z s.heap ∧ u ≠ .builtin "__main__.__loader__#opaque" := by
  cases ty with
  | non => cases (show u = Value.none from rx); exact ⟨_, PySem.W.kitx_none, True.intro, fun z => nomatch z⟩
  | bl y => cases (show u = Value.bool y from rx); exact ⟨_, PySem.W.kitx_bool, True.intro, fun z => nomatch z⟩
  | int i => obtain ⟨t, q⟩ := (show ∃ t, u = Value.int i t from rx); cases q; exact ⟨_, PySem.W.kitx_int, True.intro, fun z => nomatch z⟩
  | str y => obtain ⟨t, q⟩ := (show ∃ t, u = Value.str y t from rx); cases q; exact ⟨_, PySem.W.kitx_str, True.intro, fun z => nomatch z⟩
  | flt y => obtain ⟨t, q⟩ := (show ∃ t, u = Value.float y t from rx); cases q; exact ⟨_, PySem.W.kitx_float, True.intro, fun z => nomatch z⟩
  | @lst a xs ea =>
    cases (show u = Value.ref a from rx)
    obtain ⟨_, _, n, _, h1⟩ := (show ObjOk X.prog X.w H s.heap a (.lst xs) from I.hok a _ ea)
    exact ⟨_, PySem.W.kitx_list, ⟨_, h1, rfl⟩, fun z => nomatch z⟩
  | @frz a ob xs ea =>
    cases (show u = Value.ref a from rx)
    obtain ⟨_, _, _, n, _, h1⟩ := (show ObjOk X.prog X.w H s.heap a (.frz ob (.lst xs)) from I.hok a _ ea)
    exact ⟨_, PySem.W.kitx_list, ⟨_, h1, rfl⟩, fun z => nomatch z⟩
  | @tup a xs ea =>
    cases (show u = Value.ref a from rx)
    obtain ⟨_, _, _, p⟩ := (show ObjOk X.prog X.w H s.heap a (.tup xs) from I.hok a _ ea)
    obtain ⟨o, h1, h2, _⟩ := p
    exact ⟨_, PySem.W.kitx_tuple, ⟨o, h1, h2⟩, fun z => nomatch z⟩
  | @dK a kvs ea =>
    cases (show u = Value.ref a from rx)
    obtain ⟨_, _, vs, _, p⟩ := (show ObjOk X.prog X.w H s.heap a (.dK kvs) from I.hok a _ ea)
    obtain ⟨o, es, ep, h1, h2, _⟩ := p
    exact ⟨_, PySem.W.kitx_dict, ⟨o, h1, h2.1⟩, fun z => nomatch z⟩
  | @dT a kvs ea =>
    cases (show u = Value.ref a from rx)
    obtain ⟨_, _, xs, _, o, es, ep, h1, h2, _⟩ := (show ObjOk X.prog X.w H s.heap a (.dT kvs) from I.hok a _ ea)
    exact ⟨_, PySem.W.kitx_dict, ⟨o, h1, h2.1⟩, fun z => nomatch z⟩
  | @ins a C dx fs ea cl ha hn htk hm =>
    cases (show u = Value.ref a from rx)
    obtain ⟨mA, O, _⟩ := ins_get I.hok ea
    obtain ⟨od, J, _⟩ := O.look
    exact ⟨_, PySem.W.kitx_own (cl.get _) cl.hd ha hn htk hm, J, fun z => nomatch z⟩

def rIsi (K : PySem.W.Frag) : List V → Hp → VK → Prop := fun xs H Q => ∃ x c t b, xs = [x, .ty c] ∧ TyOf K H x t ∧ PySem.W.kitOne K t (.type c) = some b ∧ Q (.bl b) H
theorem call_isi : CallR X (.builtin "isinstance") (rIsi X.K) := by
  intro pins s σ H xs us Q I r h
  obtain ⟨x, c, t, b, rfl, ty, e, q⟩ := h
  obtain ⟨u, w', rfl, ru, rc⟩ := vals2 r
  cases rc
  obtain ⟨Z, k, z, ne⟩ := kit_of I ru ty
  exact PySem.W.kia_one k I.kIn z e ne fun tk => ⟨.bl b, H, I.tok tk, rfl, q⟩
theorem vals_ty : ∀ {cs : List String} {us : List Value}, Vals (cs.map V.ty) us → us = cs.map Value.type
  | [], _, .nil => rfl
  | c :: cs, _, .cons r t => by
    cases r
    rw [vals_ty t]; rfl
def rIsiT (K : PySem.W.Frag) : List V → Hp → VK → Prop := fun xs H Q => ∃ (x : V) (p : Addr) (cs : List String) (t : Value) (b : Bool), xs = [x, .ref p] ∧ H p = some (.tup (cs.map V.ty)) ∧ TyOf K H x t ∧ PySem.W.kitAny K t (cs.map Value.type) = some b ∧ Q (.bl b) H
theorem call_isiT : CallR X (.builtin "isinstance") (rIsiT X.K) := by
  intro pins s σ H xs us Q I r h
  obtain ⟨x, p, cs, t, b, rfl, hp, ty, e, q⟩ := h
  obtain ⟨u, w', rfl, ru, rc⟩ := vals2 r
  cases rc
  obtain ⟨Z, k, z, ne⟩ := kit_of I ru ty
  obtain ⟨_, its, rv, ⟨cls, dd, data, sl⟩, h1, h2, n, h3⟩ := (show ObjOk X.prog X.w H s.heap p (.tup (cs.map V.ty)) from I.hok p _ hp)
  have e2 := vals_ty rv
  subst e2
  simp only at h2 h3
  subst h2 h3
  exact PySem.W.kia_tup k I.kIn z h1 e ne fun tk => ⟨.bl b, H, I.tok tk, rfl, q⟩

theorem Paired.get {α β : Type} {F : α → β → Prop} : ∀ {l : List α} {m : List β} {i : Nat} {a : α}, Paired F l m → l[i]? = some a → ∃ b, m[i]? = some b ∧ F a b
  | _, _, _, _, .nil, e => by simp at e
  | _, _, 0, _, .cons r _, e => by simp at e; subst e; exact ⟨_, rfl, r⟩
  | _, _, i + 1, x, .cons _ t, e => by
    obtain ⟨u, h1, h2⟩ := Paired.get (i := i) (a := x) t (by simpa using e)
    exact ⟨u, by simpa using h1, h2⟩
theorem Paired.det {α β : Type} {F : α → β → Prop} (d : ∀ a b c, F a b → F a c → b = c) : ∀ {l : List α} {m k : List β}, Paired F l m → Paired F l k → m = k
  | _, _, _, .nil, .nil => rfl
  | _, _, _, .cons r t, .cons r' t' => by rw [d _ _ _ r r', Paired.det d t t']
theorem range_all {α : Type} [DecidableEq α] {xs ys : List α} {n : Nat} (h1 : xs.length = n) (h2 : ys.length = n) : (List.range n).all (fun j => decide (xs[j]? = ys[j]?)) = decide (xs = ys) := by
  rw [Bool.eq_iff_iff, List.all_eq_true, decide_eq_true_iff]
  constructor
  · intro h
    apply List.ext_getElem?
    intro i
    by_cases hi : i < n
    · exact of_decide_eq_true (h i (List.mem_range.mpr hi))
    · rw [List.getElem?_eq_none (by omega), List.getElem?_eq_none (by omega)]
  · intro h i _
    subst h
    exact decide_eq_true rfl

variable {pins : List (Addr × Obj)} {σ : St} {H : Hp} {s : Shared}
theorem rc_list {α : Type} [DecidableEq α] {R : V → α → Prop} (I : Inv X pins σ H s) {A : Around} (hu : A.units < cLine)
    (cmp : ∀ v v' u u' x x', R v x → R v' x' → RelV v u → RelV v' u' → SeqAt.EqAt A.in1 s u u' (decide (x = x'))) {a b : Addr} {vs ws : List V} {xs ys : List α} (ha : SqL X.K H a vs) (hb : SqL X.K H b ws) (pa : Paired R vs xs) (pb : Paired R ws ys) :
    SeqAt.RcAt A s (.ref a) (.ref b) (decide (xs = ys)) ∧ SeqAt.RcNeAt A s (.ref a) (.ref b) (!decide (xs = ys)) := by
  obtain ⟨its, rv, p, _⟩ := I.list ha
  obtain ⟨its2, rv2, p2, _⟩ := I.list hb
  have l1 := rv.length
  have l2 := rv2.length
  have l3 := Paired.length pa
  have l4 := Paired.length pb
  by_cases hl : its.length = its2.length
  · have e1 : its.toArray.size = its2.toArray.size := by rw [List.size_toArray, List.size_toArray]; exact hl
    have key : ∀ j (h1 : j < its.toArray.size) (h2 : j < its2.toArray.size), SeqAt.EqAt A.in1 s its.toArray[j] its2.toArray[j] ((fun j => decide (xs[j]? = ys[j]?)) j) := fun j h1 h2 => by
      rw [List.size_toArray] at h1 h2
      obtain ⟨v, hv⟩ : ∃ v, vs[j]? = some v := ⟨vs[j]'(by omega), List.getElem?_eq_getElem _⟩
      obtain ⟨w, hw⟩ : ∃ v, ws[j]? = some v := ⟨ws[j]'(by omega), List.getElem?_eq_getElem _⟩
      obtain ⟨u, hu1, ru⟩ := rv.get hv
      obtain ⟨u', hu2, ru'⟩ := rv2.get hw
      obtain ⟨x, hx, rx⟩ := Paired.get pa hv
      obtain ⟨y, hy, ry⟩ := Paired.get pb hw
      have q1 : its.toArray[j] = u := by
        rw [List.getElem?_eq_getElem h1] at hu1
        simpa using Option.some.inj hu1
      have q2 : its2.toArray[j] = u' := by
        rw [List.getElem?_eq_getElem h2] at hu2
        simpa using Option.some.inj hu2
      rw [q1, q2]
      show SeqAt.EqAt A.in1 s u u' (decide (xs[j]? = ys[j]?))
      rw [hx, hy, show decide (some x = some y) = decide (x = y) by simp]
      exact cmp v w u u' x y rx ry ru ru'
    have e2 : (List.range its.toArray.size).all (fun j => decide (xs[j]? = ys[j]?)) = decide (xs = ys) := range_all (by rw [List.size_toArray]; omega) (by rw [List.size_toArray]; omega)
    rw [← e2]
    exact ⟨SeqAt.RcAt.lists p.isList p2.isList e1 hu key, SeqAt.RcNeAt.lists p.isList p2.isList e1 hu key⟩
  · have e1 : (its.toArray.size != its2.toArray.size) = true := by rw [List.size_toArray, List.size_toArray]; simpa using hl
    have e2 : decide (xs = ys) = false := decide_eq_false fun z => hl (by have := congrArg List.length z; omega)
    rw [e2]
    exact ⟨SeqAt.RcAt.lists_lengths p.isList p2.isList e1 hu, SeqAt.RcNeAt.lists_lengths p.isList p2.isList e1 hu⟩
theorem eq_of_list {α : Type} [DecidableEq α] {R : V → α → Prop} (I : Inv X pins σ H s) {A : Around} (hu : A.units < cLine) (det : ∀ v x y, R v x → R v y → x = y)
    (cmp : ∀ v v' u u' x x', R v x → R v' x' → RelV v u → RelV v' u' → SeqAt.EqAt A.in1 s u u' (decide (x = x'))) {a b : Addr} {vs ws : List V} {xs ys : List α} (ha : SqL X.K H a vs) (hb : SqL X.K H b ws) (pa : Paired R vs xs) (pb : Paired R ws ys) :
    SeqAt.EqAt A s (.ref a) (.ref b) (decide (xs = ys)) := by
  by_cases e : a = b
  · subst e
    have q := I.list_inj ha hb
    subst q
    rw [decide_eq_true (Paired.det det pa pb)]
    exact SeqAt.EqAt.same _
  · exact SeqAt.EqAt.of_refs e (rc_list I hu cmp ha hb pa pb).1

def RInt (v : V) (x : Int) : Prop := v = .int x
theorem pair_ints : ∀ xs : List Int, Paired RInt (xs.map V.int) xs
  | [] => .nil
  | x :: xs => .cons rfl (pair_ints xs)
theorem cmp_int {A : Around} {v v' : V} {u u' : Value} {x x' : Int} (h : RInt v x) (h' : RInt v' x') (r : RelV v u) (r' : RelV v' u') : SeqAt.EqAt A s u u' (decide (x = x')) := by
  cases h; cases h'
  obtain ⟨t, rfl⟩ := r
  obtain ⟨t', rfl⟩ := r'
  rw [show decide (x = x') = (x == x') by rw [Bool.beq_eq_decide_eq]]
  exact SeqAt.EqAt.int_int x t x' t'
def RRow (K : PySem.W.Frag) (H : Hp) (v : V) (xs : List Int) : Prop := ∃ r, v = .ref r ∧ SqL K H r (xs.map V.int)
theorem cmp_row (I : Inv X pins σ H s) {A : Around} (hu : A.units < cLine) {v v' : V} {u u' : Value} {x x' : List Int} (h : RRow X.K H v x) (h' : RRow X.K H v' x') (r : RelV v u) (r' : RelV v' u') : SeqAt.EqAt A s u u' (decide (x = x')) := by
  obtain ⟨a, rfl, q⟩ := h
  obtain ⟨b, rfl, q'⟩ := h'
  cases r; cases r'
  exact eq_of_list I hu (fun v x y h h' => V.int.inj (h.symm.trans h')) (fun v v' u u' x x' h h' r r' => cmp_int h h' r r') q q' (pair_ints _) (pair_ints _)
def Grid (K : PySem.W.Frag) (H : Hp) (a : Addr) (xss : List (List Int)) : Prop := ∃ vs, SqL K H a vs ∧ Paired (RRow K H) vs xss
def rGrid (K : PySem.W.Frag) (f : Bool → Bool) : R2 := fun x y H Q => ∃ a b xss yss, x = .ref a ∧ y = .ref b ∧ Grid K H a xss ∧ Grid K H b yss ∧ Q (.bl (f (decide (xss = yss)))) H
theorem op_ne_grid (hu : X.A.units + 1 < cLine) : OpR X (compareOp .NotEq) (rGrid X.K not) := by
  intro pins s σ H x y v u Q I rx ry h
  obtain ⟨a, b, xss, yss, rfl, rfl, ⟨vs, ga, pa⟩, ⟨ws, gb, pb⟩, q⟩ := h
  cases rx; cases ry
  exact (rc_list I (by omega) (fun v v' u u' x x' h h' r r' => cmp_row I (A := X.A.in1) hu h h' r r') ga gb pa pb).2 _ _ _ _ ⟨.bl _, H, I, rfl, q⟩
end

theorem comp_list {K : PySem.W.Frag} {a : Addr} {xs : List V} {B : V → List V → Hp → (List V → Hp → Prop) → Prop} {Z : Addr → List V → Hp → Prop} {H : Hp} (Pv : Nat → List V → Hp → Prop) (h0 : Pv 0 [] H) (hl : ∀ i ys H, i ≤ xs.length → Pv i ys H → SqL K H a xs)
    (hs : ∀ i x ys H, xs[i]? = some x → Pv i ys H → B x ys H (Pv (i + 1))) (hd : ∀ ys H, Pv xs.length ys H → ∀ D, H D = none → Z D ys H) :
    ∃ W : Nat → Nat → List V → Hp → Prop, (∃ m, W 0 m [] H) ∧ ∀ i m ys H, W i m ys H →
      ((Itl K a).stop i H ∧ ∀ D, H D = none → Z D ys H) ∨
      ((Itl K a).go i H ∧ ∃ N : List V → Hp → Prop, (∀ ys' H', N ys' H' → ∃ m', m' < m ∧ W (i + 1) m' ys' H') ∧ ∀ x H', (Itl K a).yld i H x H' → B x ys H' N) := by
  refine ⟨fun i m ys H => m = xs.length - i ∧ i ≤ xs.length ∧ Pv i ys H, ⟨xs.length, by simp, Nat.zero_le _, h0⟩, ?_⟩
  rintro i m ys H ⟨rfl, hi, p⟩
  have q := hl i ys H hi p
  by_cases hlt : i < xs.length
  · refine .inr ⟨⟨xs, xs[i], q, by simp [hlt]⟩, Pv (i + 1), fun ys' H' p' => ⟨xs.length - (i + 1), by omega, rfl, hlt, p'⟩, fun x H' y => ?_⟩
    obtain ⟨e, y⟩ := y
    subst e
    exact hs i x ys H' (y xs q) p
  · have e : i = xs.length := by omega
    subst e
    exact .inl ⟨⟨xs, q, Nat.le_refl _⟩, hd ys H p⟩
theorem comp_tup {K : PySem.W.Frag} {a : Addr} {xs : List V} {B : V → List V → Hp → (List V → Hp → Prop) → Prop} {Z : Addr → List V → Hp → Prop} {H : Hp} (Pv : Nat → List V → Hp → Prop) (h0 : Pv 0 [] H) (hl : ∀ i ys H, i ≤ xs.length → Pv i ys H → SqT K H a xs)
    (hs : ∀ i x ys H, xs[i]? = some x → Pv i ys H → B x ys H (Pv (i + 1))) (hd : ∀ ys H, Pv xs.length ys H → ∀ D, H D = none → Z D ys H) :
    ∃ W : Nat → Nat → List V → Hp → Prop, (∃ m, W 0 m [] H) ∧ ∀ i m ys H, W i m ys H →
      ((Itt K a).stop i H ∧ ∀ D, H D = none → Z D ys H) ∨
      ((Itt K a).go i H ∧ ∃ N : List V → Hp → Prop, (∀ ys' H', N ys' H' → ∃ m', m' < m ∧ W (i + 1) m' ys' H') ∧ ∀ x H', (Itt K a).yld i H x H' → B x ys H' N) := by
  refine ⟨fun i m ys H => m = xs.length - i ∧ i ≤ xs.length ∧ Pv i ys H, ⟨xs.length, by simp, Nat.zero_le _, h0⟩, ?_⟩
  rintro i m ys H ⟨rfl, hi, p⟩
  have q := hl i ys H hi p
  by_cases hlt : i < xs.length
  · refine .inr ⟨⟨xs, xs[i], q, by simp [hlt]⟩, Pv (i + 1), fun ys' H' p' => ⟨xs.length - (i + 1), by omega, rfl, hlt, p'⟩, fun x H' y => ?_⟩
    obtain ⟨e, y⟩ := y
    subst e
    exact hs i x ys H' (y xs q) p
  · have e : i = xs.length := by omega
    subst e
    exact .inl ⟨⟨xs, q, Nat.le_refl _⟩, hd ys H p⟩
theorem comp_range {lo : Int} {n : Nat} {B : V → List V → Hp → (List V → Hp → Prop) → Prop} {Z : Addr → List V → Hp → Prop} {H : Hp} (Pv : Nat → List V → Hp → Prop) (h0 : Pv 0 [] H)
    (hs : ∀ i ys H, i < n → Pv i ys H → B (.int (lo + i)) ys H (Pv (i + 1))) (hd : ∀ ys H, Pv n ys H → ∀ D, H D = none → Z D ys H) :
    ∃ W : Nat → Nat → List V → Hp → Prop, (∃ m, W 0 m [] H) ∧ ∀ i m ys H, W i m ys H →
      ((Itr lo n).stop i H ∧ ∀ D, H D = none → Z D ys H) ∨
      ((Itr lo n).go i H ∧ ∃ N : List V → Hp → Prop, (∀ ys' H', N ys' H' → ∃ m', m' < m ∧ W (i + 1) m' ys' H') ∧ ∀ x H', (Itr lo n).yld i H x H' → B x ys H' N) := by
  refine ⟨fun i m ys H => m = n - i ∧ i ≤ n ∧ Pv i ys H, ⟨n, by simp, Nat.zero_le _, h0⟩, ?_⟩
  rintro i m ys H ⟨rfl, hi, p⟩
  by_cases hlt : i < n
  · refine .inr ⟨hlt, Pv (i + 1), fun ys' H' p' => ⟨n - (i + 1), by omega, rfl, hlt, p'⟩, fun x H' y => ?_⟩
    obtain ⟨e, y⟩ := y
    subst e y
    exact hs i ys H' hlt p
  · have e : i = n := by omega
    subst e
    exact .inl ⟨Nat.le_refl _, hd ys H p⟩

theorem yes {σ : St} {H : Hp} {A B : Hp → Prop} (h : A H) : tYes σ H fun c H2 => if c = true then A H2 else B H2 := by
  show if true = true then A H else B H
  exact iteT h
end L2

set_option Elab.async false
set_option linter.all false
set_option maxRecDepth 100000
set_option maxHeartbeats 4000000
namespace L2
open PySem PySem.Spec PyProof.Rows
structure Callee (P : Program) (w : World) (K : PySem.W.Frag) (mg : Str → Option Value) (base : Heap) (k : Nat) (x : Str) (ps : List Str) (sp : Sp) : Prop where
  ex : ∃ f fd, FnOk P w K mg base CX0 k f fd ps sp ∧ mg x = some (.ref f) ∧ PySem.W.keepIn K (.ref f) = true ∧ Binds K fd ps []
structure MCallee (P : Program) (w : World) (K : PySem.W.Frag) (mg : Str → Option Value) (base : Heap) (C : Addr) (k : Nat) (m : Str) (ps : List Str) (sp : Sp) : Prop where
  ex : ∃ f fd, FnOk P w K mg base CX0 k f fd ps sp ∧ Meth K C m f ∧ Binds K fd ps []
section
variable {X : Cx} {k : Nat} {C : Addr} {ps : List Str} {sp : Sp} {x m : Str} {p pos apos : Pos} {e o : Expr} {es : List Expr} {ta : TE} {t : TA}
theorem pe_fn (D : Callee X.prog X.w X.K X.mg X.base k x ps sp) (hr : Room k X.A) (ha : PA X (e :: es) t) (hg : Gl X x := by rfl)
    (hdb : (x == ("__debug__" : Str)) = false := by decide) (he : starEach (e :: es) X.env = (false, eval e X.env) :: starEach es X.env := by rfl) (hpl : (backTo pos (starEach es X.env)).any (·.1) = false := by rfl) :
    PE X (.Call (.Name x p) (e :: es) [] pos) (tCall sp [] E0 t) := by
  obtain ⟨f, fd, F, hm, hk, hb⟩ := D.ex
  exact pe_call F hr hg hm hk hb .nil pass0 ha hdb he hpl
theorem pe_m {pl : Sem Bool} (he : PE X o ta) (c : Cls X.K C) (D : MCallee X.prog X.w X.K X.mg X.base C k m ps sp) (hr : Room k X.A) (ha : PA X (e :: es) t)
    (hst : starEach (e :: es) X.env = (false, eval e X.env) :: starEach es X.env := by rfl) (hpl : (backTo pos (starEach es X.env)).any (·.1) = false := by rfl)
    (ht : eval (.Call (.Attribute o m apos) (e :: es) [] pos) X.env = (do
      let ov ← eval o X.env
      standAt apos.atName
      let (f, first) ← holding [ov] (getMethod ov m pl)
      callWith pos f first (backTo pos (starEach (e :: es) X.env)) (backToKw pos (keywordEach [] X.env))) := by rfl) :
    PE X (.Call (.Attribute o m apos) (e :: es) [] pos) (tMeth C m sp [] E0 ta t) := by
  obtain ⟨f, fd, F, hm, hb⟩ := D.ex
  exact pe_meth he c hm F hr hb .nil pass0 ha hst hpl ht
theorem pe_m0 {pl : Sem Bool} (he : PE X o ta) (c : Cls X.K C) (D : MCallee X.prog X.w X.K X.mg X.base C k m ps sp) (hr : Room k X.A)
    (ht : eval (.Call (.Attribute o m apos) [] [] pos) X.env = (do
      let ov ← eval o X.env
      standAt apos.atName
      let (f, first) ← holding [ov] (getMethod ov m pl)
      callWith pos f first (backTo pos (starEach [] X.env)) (backToKw pos (keywordEach [] X.env))) := by rfl) :
    PE X (.Call (.Attribute o m apos) [] [] pos) (tMeth C m sp [] E0 ta tNil) := by
  obtain ⟨f, fd, F, hm, hb⟩ := D.ex
  exact pe_meth0 he c hm F hr hb .nil pass0 ht
end

theorem Blk.of {X : Cx} {scope : Scope} {N : List Str} {ix : List (Option Nat)} (kind : scope.kind = .function := by rfl)
    (c1 : (scope.names.all fun y => y.2 != NameKind.cell) = true := by rfl)
    (c2 : (scope.names.all fun y => y.2 != NameKind.local || scope.names.lookup y.1 == some NameKind.local) = true := by rfl)
    (c3 : (scope.names.all fun y => y.2 != NameKind.free || (X.env.scope.names.lookup y.1 == some NameKind.cell || X.env.scope.names.lookup y.1 == some NameKind.free)) = true := by rfl)
    (nd : N.Nodup := by decide +kernel) (len : ix.length = N.length := by rfl)
    (c4 : ((List.zip ix N).all fun p => match p.1 with | none => true | some i => X.N[i]? == some p.2 && scope.names.lookup p.2 == some NameKind.free) = true := by rfl) : Blk X scope N ix where
  kind := kind
  nocell := fun y hy e => by
    have q := List.all_eq_true.mp c1 y hy
    rw [e] at q
    exact absurd q (by decide)
  names := fun y hy e => by
    have q := List.all_eq_true.mp c2 y hy
    rw [e] at q
    exact beq_iff_eq.mp (by simpa using q)
  free := fun y hy e => by
    have q := List.all_eq_true.mp c3 y hy
    rw [e] at q
    have q' : (X.env.scope.names.lookup y.1 == some NameKind.cell || X.env.scope.names.lookup y.1 == some NameKind.free) = true := by simpa using q
    rcases Bool.or_eq_true_iff.mp q' with z | z
    · exact .inl (beq_iff_eq.mp z)
    · exact .inr (beq_iff_eq.mp z)
  nd := nd
  len := len
  slots := fun j i y h1 h2 => by
    have hm : (some i, y) ∈ List.zip ix N := by
      have e : (List.zip ix N)[j]? = some (some i, y) := by rw [List.getElem?_zip_eq_some]; exact ⟨h1, h2⟩
      exact List.mem_of_getElem? e
    have q := List.all_eq_true.mp c4 _ hm
    have q' : (X.N[i]? == some y && scope.names.lookup y == some NameKind.free) = true := q
    obtain ⟨z1, z2⟩ := Bool.and_eq_true_iff.mp q'
    exact ⟨beq_iff_eq.mp z1, beq_iff_eq.mp z2⟩

def sq : Bool → List V → HO
  | true, xs => .lst xs
  | false, xs => .tup xs
def SqB (kd : Bool) (K : PySem.W.Frag) (H : Hp) (a : Addr) (xs : List V) : Prop := match kd with
  | true => SqL K H a xs
  | false => SqT K H a xs
def Itb (kd : Bool) (K : PySem.W.Frag) (a : Addr) : It := match kd with
  | true => Itl K a
  | false => Itt K a
theorem SqB.of {kd : Bool} {K : PySem.W.Frag} {H : Hp} {a : Addr} {xs : List V} (h : H a = some (sq kd xs)) : SqB kd K H a xs := by
  cases kd with
  | true => exact SqL.of h
  | false => exact SqT.of h
theorem SqB.or {kd : Bool} {K : PySem.W.Frag} {H : Hp} {a : Addr} {xs : List V} (h : SqB kd K H a xs) : SqL K H a xs ∨ SqT K H a xs := by
  cases kd with
  | true => exact .inl h
  | false => exact .inr h
theorem TyOf.sq {kd : Bool} {K : PySem.W.Frag} {H : Hp} {a : Addr} {xs : List V} (h : H a = some (sq kd xs)) : TyOf K H (.ref a) (.type (if kd then "list" else "tuple")) := by
  cases kd with
  | true => exact .lst h
  | false => exact .tup h
def iSeq (K : PySem.W.Frag) (tl : TE) : TI := fun σ H R => tl σ H fun x H1 => ∃ a kd, x = .ref a ∧ (∃ xs, SqB kd K H1 a xs) ∧ R (Itb kd K a) H1
theorem pi_seq {X : Cx} {tg l : Expr} {tl : TE} (hl : PE X l tl) : PI X tg l (iSeq X.K tl) := by
  intro pins s σ H R I h
  refine thn (hl pins s σ H _ I h) fun v s1 ⟨x, H1, I1, r1, q1⟩ => ?_
  obtain ⟨a, kd, e, ⟨xs, hq⟩, q⟩ := q1
  subst e
  cases r1
  cases kd with
  | true =>
    obtain ⟨its, rv, p, hz⟩ := I1.list (show SqL X.K H1 a xs from hq)
    refine wpAny_pyIter_list p.isList ?_
    refine ⟨s1.heap.objs.size, [s1.heap.objs.size], _, _, H1, rfl, I1.kept (t' := s1.toks) fun b o e => Heap.get?_push_of_some _ e, turn_list a _, ⟨_, Heap.get?_push_size _ rfl, rfl, rfl⟩, fun b hb => ?_, q⟩
    have e : b = s1.heap.objs.size := by simpa using hb
    subst e
    exact I1.fpOk (Nat.le_refl _) (I1.hok.fresh (Nat.le_refl _))
  | false =>
    obtain ⟨its, rv, p, hz⟩ := I1.tuple (show SqT X.K H1 a xs from hq)
    refine wpAny_pyIter_tuple (show s1.heap.IsTuple a its.toArray from p) ?_
    refine ⟨s1.heap.objs.size, [s1.heap.objs.size], _, _, H1, rfl, I1.kept (t' := s1.toks) fun b o e => Heap.get?_push_of_some _ e, turn_tuple a _, ⟨_, Heap.get?_push_size _ rfl, rfl, rfl⟩, fun b hb => ?_, q⟩
    have e : b = s1.heap.objs.size := by simpa using hb
    subst e
    exact I1.fpOk (Nat.le_refl _) (I1.hok.fresh (Nat.le_refl _))
theorem for_seq {kd : Bool} {K : PySem.W.Frag} {a : Addr} {xs : List V} {g : TG} {tb : TS} {D : Ends} {σ : St} {H : Hp} (Pv : Nat → St → Hp → Prop) (h0 : Pv 0 σ H) (hl : ∀ i σ H, i ≤ xs.length → Pv i σ H → SqB kd K H a xs)
    (hs : ∀ i x σ H, xs[i]? = some x → Pv i σ H → g x σ H fun σ2 H2 => tb { D with nx := Pv (i + 1), ct := Pv (i + 1), bk := D.nx } σ2 H2) (hd : ∀ σ H, Pv xs.length σ H → D.nx σ H) :
    ∃ W : Nat → Nat → St → Hp → Prop, (∃ m, W 0 m σ H) ∧ ∀ i m σ H, W i m σ H →
      ((Itb kd K a).stop i H ∧ D.nx σ H) ∨ ((Itb kd K a).go i H ∧ ∃ N : St → Hp → Prop, (∀ σ' H', N σ' H' → ∃ m', m' < m ∧ W (i + 1) m' σ' H') ∧ ∀ x H', (Itb kd K a).yld i H x H' → g x σ H' fun σ2 H2 => tb { D with nx := N, ct := N, bk := D.nx } σ2 H2) := by
  cases kd with
  | true => exact for_list Pv h0 hl hs hd
  | false => exact for_tup Pv h0 hl hs hd
theorem comp_seq {kd : Bool} {K : PySem.W.Frag} {a : Addr} {xs : List V} {B : V → List V → Hp → (List V → Hp → Prop) → Prop} {Z : Addr → List V → Hp → Prop} {H : Hp} (Pv : Nat → List V → Hp → Prop) (h0 : Pv 0 [] H) (hl : ∀ i ys H, i ≤ xs.length → Pv i ys H → SqB kd K H a xs)
    (hs : ∀ i x ys H, xs[i]? = some x → Pv i ys H → B x ys H (Pv (i + 1))) (hd : ∀ ys H, Pv xs.length ys H → ∀ D, H D = none → Z D ys H) :
    ∃ W : Nat → Nat → List V → Hp → Prop, (∃ m, W 0 m [] H) ∧ ∀ i m ys H, W i m ys H →
      ((Itb kd K a).stop i H ∧ ∀ D, H D = none → Z D ys H) ∨
      ((Itb kd K a).go i H ∧ ∃ N : List V → Hp → Prop, (∀ ys' H', N ys' H' → ∃ m', m' < m ∧ W (i + 1) m' ys' H') ∧ ∀ x H', (Itb kd K a).yld i H x H' → B x ys H' N) := by
  cases kd with
  | true => exact comp_list Pv h0 hl hs hd
  | false => exact comp_tup Pv h0 hl hs hd

section
variable {X : Cx} {K : PySem.W.Frag}
theorem call_list_k (h : X.K = K) : CallR X (.type "list") (fun xs H Q => ∃ p ys, xs = [.ref p] ∧ (SqL K H p ys ∨ SqT K H p ys) ∧ ∀ l, H l = none → Q (.ref l) (upd H l (.lst ys))) := by subst h; exact call_list_of
theorem call_tuple_k (h : X.K = K) : CallR X (.type "tuple") (fun xs H Q => ∃ p ys, xs = [.ref p] ∧ ((SqL K H p ys ∧ ∀ l, H l = none → Q (.ref l) (upd H l (.tup ys))) ∨ (SqT K H p ys ∧ Q (.ref p) H))) := by subst h; exact call_tuple_of
theorem pi_list_k {tg l : Expr} {tl : TE} (h : X.K = K) (hl : PE X l tl) : PI X tg l (iList K tl) := by subst h; exact pi_list hl
end

theorem Same.upd {H : Hp} {a : Addr} {o : HO} (h : H a = none) : Same H (upd H a o) := fun b u e => by rw [upd_ne (ne_of_none e h)]; exact e
def But (p : Addr) (H H' : Hp) : Prop := ∀ b o, H b = some o → b ≠ p → H' b = some o
theorem But.refl (p : Addr) (H : Hp) : But p H H := fun _ _ e _ => e
theorem Same.but {p : Addr} {H H' : Hp} (h : Same H H') : But p H H' := fun b o e _ => h b o e
theorem But.trans {p : Addr} {H H1 H2 : Hp} (a : But p H H1) (b : But p H1 H2) : But p H H2 := fun c o e n => b c o (a c o e n) n
theorem But.upd {p : Addr} {H : Hp} {o : HO} : But p H (L2.upd H p o) := fun b u e n => by rw [upd_ne n]; exact e
theorem But.new {p a : Addr} {H H' : Hp} {o : HO} (h : But p H H') (n : H' a = none) : But p H (L2.upd H' a o) := h.trans (Same.upd n).but

def purseKv (l z : Int) : List (Key × V) := [(Sum.inr "left", V.int l), (Sum.inr "salt", V.int z)]
def Purse (H : Hp) (p : Addr) : Prop := ∃ l z, H p = some (.dK (purseKv l z)) ∧ 0 ≤ z ∧ z < 18446744073709551616
theorem ls0 : ¬ ("left" : Str) = "salt" := by decide +kernel
theorem ls : ¬ (Sum.inr ("left" : Str) : Key) = Sum.inr ("salt" : Str) := fun h => ls0 (Sum.inr.inj h)
theorem sl : ¬ (Sum.inr ("salt" : Str) : Key) = Sum.inr ("left" : Str) := fun h => ls h.symm
theorem val_left (l z : Int) : valV (purseKv l z) (Sum.inr "left") = some (.int l) := valV_pos rfl
theorem val_salt (l z : Int) : valV (purseKv l z) (Sum.inr "salt") = some (.int z) := by
  unfold purseKv
  rw [valV_neg ls, valV_pos rfl]
theorem put_left (l l' z : Int) : putK (purseKv l z) (Sum.inr "left") (.int l') = purseKv l' z := by
  unfold putK purseKv
  simp
  exact fun h => absurd h.symm ls0
theorem put_salt (l z z' : Int) : putK (purseKv l z) (Sum.inr "salt") (.int z') = purseKv l z' := by
  unfold putK purseKv
  simp [ls0]
theorem get_left {H : Hp} {p : Addr} {l z : Int} (h : H p = some (.dK (purseKv l z))) : DGet H p (.str "left") (some (.int l)) := by
  have q := DGet.k (k := Sum.inr "left") h
  rw [val_left] at q
  exact q
theorem get_salt {H : Hp} {p : Addr} {l z : Int} (h : H p = some (.dK (purseKv l z))) : DGet H p (.str "salt") (some (.int z)) := by
  have q := DGet.k (k := Sum.inr "salt") h
  rw [val_salt] at q
  exact q
theorem set_left {H : Hp} {p : Addr} {l z : Int} (l' : Int) (h : H p = some (.dK (purseKv l z))) : DPut H p (.str "left") (.int l') (upd H p (.dK (purseKv l' z))) := by
  have q := DPut.k (k := Sum.inr "left") (v := .int l') h (show 2 < sizeLine by decide)
  rw [put_left] at q
  exact q
theorem set_salt {H : Hp} {p : Addr} {l z : Int} (z' : Int) (h : H p = some (.dK (purseKv l z))) : DPut H p (.str "salt") (.int z') (upd H p (.dK (purseKv l z'))) := by
  have q := DPut.k (k := Sum.inr "salt") (v := .int z') h (show 2 < sizeLine by decide)
  rw [put_salt] at q
  exact q
theorem Purse.but {H H' : Hp} {p q : Addr} (h : Purse H p) (b : But q H H') (n : p ≠ q) : Purse H' p := by
  obtain ⟨l, z, e, h1, h2⟩ := h
  exact ⟨l, z, b p _ e n, h1, h2⟩
theorem Purse.same {H H' : Hp} {p : Addr} (h : Purse H p) (b : Same H H') : Purse H' p := by
  obtain ⟨l, z, e, h1, h2⟩ := h
  exact ⟨l, z, b p _ e, h1, h2⟩
end L2

set_option Elab.async false
set_option linter.all false
set_option maxRecDepth 100000
set_option maxHeartbeats 4000000
namespace L2
open PySem PySem.Spec PyProof.Rows
structure ExcAt (s : Shared) (H : Hp) (h : Heap) (e : Addr) (cv : Value) : Prop where
  new : s.heap.get? e = none
  free : H e = none
  tr : ∃ oe vs a0 T oT ts, h.get? e = some oe ∧ oe.cls = cv ∧ vs[0]? = some a0 ∧ oe.data = .fields vs ∧ vs[1]? = some (.ref T) ∧ T ≠ e ∧ s.heap.get? T = none ∧ H T = none ∧ h.get? T = some oT ∧ oT.data = .fields ts ∧ ts[3]? = some .none
def CXe (P : Program) (w : World) : CXT := fun outer H s E ev s' => ∃ e cv H', ev = .ref e ∧ s'.os = s.os ∧ AllBare s'.gens ∧ Un (frs outer) [] H H' s.heap s'.heap ∧ HOk P w H' s'.heap ∧ ExcAt s H' s'.heap e cv ∧ E cv none H'
structure IsDef (X : Cx) : Prop where
  stk : X.stack = X.env :: X.outer
  fr : X.env.frame = some X.env.locals
  ex : X.ex = []

section
variable {X : Cx} {pins : List (Addr × Obj)} {σ : St} {H : Hp} {s : Shared}
theorem Inv.frames (I : Inv X pins σ H s) : ∀ b ∈ frs X.stack, ∃ o, s.heap.get? b = some o ∧ ∀ vs, o.data ≠ .fields vs := fun b hb => (I.stack.mem hb).2
theorem frs_all {l : List Env} : ∀ env ∈ l, ∀ a, env.frame = some a → a ∈ frs l := fun env he a hf => List.mem_filterMap.mpr ⟨env, he, hf⟩
structure Flew (X : Cx) (extra : List Addr) (h h' : Heap) : Prop where
  keep : ∀ b o, h.get? b = some o → b ∉ frs X.stack → b ∉ extra → h'.get? b = some o
  slot : ∀ b o, h.get? b = some o → b ∈ frs X.stack → ∃ sl, h'.get? b = some { o with slots := sl }
theorem Inv.baseOf {h' : Heap} {extra : List Addr} (I : Inv X pins σ H s) (hs : ∀ b ∈ frs X.stack, b = X.env.locals ∨ b ∈ X.fs) (hx : ∀ b ∈ extra, X.s₀.heap.get? b = none) (f : Flew X extra s.heap h') (hfs : ∀ b ∈ X.fs, b ∈ frs X.stack) :
    Un X.fs X.ex X.H₀ H X.s₀.heap h' := by
  have nx : ∀ b o, X.s₀.heap.get? b = some o → b ∉ extra := fun b o e z => by rw [hx b z] at e; cases e
  have nl : ∀ b o, X.s₀.heap.get? b = some o → b ∉ X.fs → b ∉ frs X.stack := fun b o e n z => by
    rcases hs b z with q | q
    · exact absurd (Nat.lt_of_lt_of_le (Heap.lt_size e) I.ok.above) (by rw [q]; exact Nat.lt_irrefl _)
    · exact n q
  refine ⟨fun b o e n hb hx' => f.keep b o (I.base.keep b o e n hb hx') (nl b o e hb) (nx b o e), fun b o e n hb hx' => ?_, I.base.free, fun b o e hx' => ?_, I.base.tups, I.base.frzs, I.base.tbls⟩
  · obtain ⟨sl, q⟩ := I.base.slot b o e n hb hx'
    obtain ⟨sl', q'⟩ := f.slot b _ q (hfs b hb)
    exact ⟨sl', q'⟩
  · obtain ⟨o', q⟩ := I.base.there b o e hx'
    by_cases hb : b ∈ frs X.stack
    · obtain ⟨sl, q'⟩ := f.slot b o' q hb
      exact ⟨_, q'⟩
    · exact ⟨o', f.keep b o' q hb (nx b o e)⟩
theorem Inv.hokOf {h' : Heap} {extra : List Addr} (I : Inv X pins σ H s) (hx : ∀ b ∈ extra, H b = none) (f : Flew X extra s.heap h') : HOk X.prog X.w H h' := fun a o e => by
  have exact' : ∀ b u, (∃ z, H b = some z) → s.heap.get? b = some u → h'.get? b = some u := fun b u ⟨z, hz⟩ q => f.keep b u q (fun m => by rw [I.stkFree b m] at hz; cases hz) fun m => by rw [hx b m] at hz; cases hz
  refine (I.hok a o e).stay (fun b u hb q => exact' b u ?_ q) (fun _ q => q) fun _ _ q => q
  rcases hb with rfl | hb
  · exact ⟨_, e⟩
  · exact ⟨_, hb⟩
theorem IsDef.in_stack (d : IsDef X) (b : Addr) (hb : b ∈ frs X.stack) : b = X.env.locals ∨ b ∈ X.fs := by
  rw [d.stk] at hb
  unfold frs at hb
  rw [List.filterMap_cons, d.fr] at hb
  exact List.mem_cons.mp hb
theorem IsDef.fs_in (d : IsDef X) (b : Addr) (hb : b ∈ X.fs) : b ∈ frs X.stack := by
  rw [d.stk]
  unfold frs
  rw [List.filterMap_cons, d.fr]
  exact List.mem_cons_of_mem _ hb
def hidE (X : Cx) (extra : List Addr) (h : Heap) : Heap := PySem.W.hideAll h (frs X.stack ++ extra)
theorem hidE_stays {extra : List Addr} {h : Heap} : (hidE X extra h).StaysIn h := fun b o e => PySem.W.of_hideAll _ e
theorem hidE_frames {extra : List Addr} (I : Inv X pins σ H s) : s.heap.FunFrames (hidE X extra s.heap) X.stack := PySem.W.funFrames_hide I.stack fun env he a hf => List.mem_append_left _ (frs_all env he a hf)
theorem hidE_none {extra : List Addr} {h : Heap} {b : Addr} (hb : b ∈ extra) : (hidE X extra h).get? b = none := PySem.W.hideAll_none _ (List.mem_append_right _ hb)
theorem flew_of {extra : List Addr} {h' : Heap} (I : Inv X pins σ H s) (k : (hidE X extra s.heap).StaysIn h') (u : s.heap.UpToSlots h') : Flew X extra s.heap h' := by
  refine ⟨fun b o e n1 n2 => k b o (PySem.W.hideAll_get _ e fun z => (List.mem_append.mp z).elim n1 n2), fun b o e hb => ?_⟩
  obtain ⟨o', e', hd⟩ := I.frames b hb
  rw [e] at e'; cases e'
  exact u b o e hd
theorem Inv.there {T : Addr} {o : HO} (I : Inv X pins σ H s) (q : H T = some o) : ∃ ob, s.heap.get? T = some ob := by
  have z := I.hok T o q
  cases o with
  | lst xs => obtain ⟨_, _, _, _, e⟩ := z; exact ⟨_, e⟩
  | tup xs => obtain ⟨_, _, _, ob, e, _⟩ := z; exact ⟨_, e⟩
  | dK kvs => obtain ⟨_, _, _, _, ob, _, _, e, _⟩ := z; exact ⟨_, e⟩
  | dT kvs => obtain ⟨_, _, _, _, ob, _, _, e, _⟩ := z; exact ⟨_, e⟩
  | set S n => obtain ⟨ob, _, _, _, e, _⟩ := z; exact ⟨_, e⟩
  | ins C dx fs => obtain ⟨_, _, _, e, _⟩ := z; exact ⟨_, e⟩
  | own y => obtain ⟨_, e⟩ := z; exact ⟨_, e⟩
  | xd fs => obtain ⟨_, ⟨_, _, _, e, _⟩, _⟩ := z; exact ⟨_, e⟩
  | rng lo hi => obtain ⟨_, _, _, e⟩ := z; exact ⟨_, e⟩
  | frz ob u => obtain ⟨e, _⟩ := z; exact ⟨_, e⟩
  | tbl ps => exact ⟨_, (show s.heap.get? T = some _ from z)⟩
  | met f y => exact ⟨_, (show s.heap.get? T = some _ from z)⟩
  | ext φ => obtain ⟨_, ⟨_, e⟩, _⟩ := z; exact ⟨_, e⟩
theorem Inv.unheld {T : Addr} (I : Inv X pins σ H s) (h : s.heap.get? T = none) : H T = none := by
  cases q : H T with
  | none => rfl
  | some o =>
    obtain ⟨ob, q'⟩ := I.there q
    rw [h] at q'; cases q'
theorem new_of {extra : List Addr} {h' : Heap} {T : Addr} {oT : Obj} {ts : Array Value} (I : Inv X pins σ H s) (hex : X.ex = []) (x1 : ∀ b ∈ extra, X.s₀.heap.get? b = none) (x2 : ∀ b ∈ extra, H b = none) (f : Flew X extra s.heap h')
    (hB : (hidE X extra s.heap).get? T = none) (hT : h'.get? T = some oT) (hd : oT.data = .fields ts) : X.s₀.heap.get? T = none ∧ H T = none := by
  have nf : T ∉ frs X.stack := fun z => by
    obtain ⟨o, e, nd⟩ := I.frames T z
    obtain ⟨sl, q⟩ := f.slot T o e z
    rw [hT] at q; cases q
    exact nd ts hd
  have key : T ∈ extra ∨ s.heap.get? T = none := by
    by_cases hm : T ∈ extra
    · exact .inl hm
    · refine .inr ?_
      cases e : s.heap.get? T with
      | none => rfl
      | some o =>
        have q : (hidE X extra s.heap).get? T = some o := PySem.W.hideAll_get _ e fun z => (List.mem_append.mp z).elim nf hm
        rw [hB] at q; cases q
  rcases key with m | e
  · exact ⟨x1 T m, x2 T m⟩
  · refine ⟨?_, ?_⟩
    · cases q : X.s₀.heap.get? T with
      | none => rfl
      | some o =>
        obtain ⟨o', q'⟩ := I.base.there T o q (by rw [hex]; simp)
        rw [e] at q'; cases q'
    · cases q : H T with
      | none => rfl
      | some o =>
        obtain ⟨ob, q'⟩ := I.there q
        rw [e] at q'; cases q'
theorem cx_fin {h' : Heap} {extra : List Addr} {e : Addr} {cv : Value} {E : XK} (d : IsDef X) (I : Inv X pins σ H s) (x1 : ∀ b ∈ extra, X.s₀.heap.get? b = none) (x2 : ∀ b ∈ extra, H b = none) (f : Flew X extra s.heap h') (x : ExcAt X.s₀ H h' e cv) (k : E cv none H) :
    CXe X.prog X.w X.outer X.H₀ X.s₀ E (.ref e) { s with heap := h' } := by
  have u := I.baseOf d.in_stack x1 f d.fs_in
  rw [d.ex] at u
  exact ⟨e, cv, H, rfl, I.os, I.bare, u, I.hokOf x2 f, x, k⟩
theorem Inv.old (I : Inv X pins σ H s) (hex : X.ex = []) {b : Addr} (h : s.heap.get? b = none) : X.s₀.heap.get? b = none := by
  cases q : X.s₀.heap.get? b with
  | none => rfl
  | some o =>
    obtain ⟨o', q'⟩ := I.base.there b o q (by rw [hex]; simp)
    rw [h] at q'; cases q'
theorem xc_of {B h' : Heap} {l : List Env} {e : Addr} {cv a0 : Value} {extra : List Addr} (I : Inv X pins σ H s) (hex : X.ex = []) (x1 : ∀ b ∈ extra, X.s₀.heap.get? b = none) (x2 : ∀ b ∈ extra, H b = none) (f : Flew X extra s.heap h')
    (fl : Heap.FlyingW (hidE X extra s.heap) l e cv a0 h') (e1 : X.s₀.heap.get? e = none) (e2 : H e = none) : ExcAt X.s₀ H h' e cv := by
  obtain ⟨_, _, _, oe, vs, T, oT, ts, he, ⟨hc, h0⟩, hd, h1, hB, hTe, hT, hdT, h3⟩ := fl
  obtain ⟨n1, n2⟩ := new_of I hex x1 x2 f hB hT hdT
  exact ⟨e1, e2, oe, vs, a0, T, oT, ts, he, hc, h0, hd, h1, hTe, n1, n2, hT, hdT, h3⟩
theorem leave_made {h1 : Heap} {e : Addr} {cv : Value} {args : List Value} {E : XK} {E1 : Value → Shared → Prop} (d : IsDef X) (I : Inv X pins σ H s) (m : Heap.MadeExcOf s.heap h1 e cv args) (k : E cv none H) :
    wpAny (model X.prog X.w) X.A (leaving X.env (.ref e)) (fun _ s2 => CXe X.prog X.w X.outer X.H₀ X.s₀ E (.ref e) s2) E1 { s with heap := h1 } := by
  have fr : X.A.frames = some (X.env :: X.outer) := by rw [I.ok.frames, d.stk]
  have hl : s.heap.FunFrames (hidE X [] s.heap) (X.env :: X.outer) := by rw [← d.stk]; exact hidE_frames I
  refine wpAny_leaves_madeW (h := s.heap) fr d.fr hidE_stays hl m fun h' t fl _ _ up => ?_
  have f : Flew X [] s.heap h' := flew_of I fl.1 ((Heap.UpToSlots.of_keeps m.keeps).trans up)
  have no : ∀ {Pr : Addr → Prop}, ∀ b ∈ ([] : List Addr), Pr b := fun b z => absurd z (by simp)
  exact cx_fin (s := s) (extra := []) d I no no f (xc_of (B := s.heap) I d.ex no no f fl (I.old d.ex m.new) (I.unheld m.new)) k
theorem leave_on {e : Addr} {cv : Value} {E : XK} {E1 : Value → Shared → Prop} (d : IsDef X) (I : Inv X pins σ H s) (x : ExcAt X.s₀ H s.heap e cv) (k : E cv none H) :
    wpAny (model X.prog X.w) X.A (leaving X.env (.ref e)) (fun _ s2 => CXe X.prog X.w X.outer X.H₀ X.s₀ E (.ref e) s2) E1 s := by
  obtain ⟨e1, e2, oe, vs, a0, T, oT, ts, he, hc, h0, hd, h1, hTe, n1, n2, hT, hdT, h3⟩ := x
  have fr : X.A.frames = some (X.env :: X.outer) := by rw [I.ok.frames, d.stk]
  have x1 : ∀ b ∈ [e, T], X.s₀.heap.get? b = none := fun b hb => by
    rcases List.mem_cons.mp hb with rfl | hb
    · exact e1
    · rw [List.mem_singleton.mp hb]; exact n1
  have x2 : ∀ b ∈ [e, T], H b = none := fun b hb => by
    rcases List.mem_cons.mp hb with rfl | hb
    · exact e2
    · rw [List.mem_singleton.mp hb]; exact n2
  have fly : Heap.FlyingW (hidE X [e, T] s.heap) (X.env :: X.outer) e cv a0 s.heap :=
    ⟨hidE_stays, hidE_none (by simp), by rw [← d.stk]; exact hidE_frames I, oe, vs, T, oT, ts, he, ⟨hc, h0⟩, hd, h1, hidE_none (by simp), hTe, hT, hdT, h3⟩
  refine wpAny_leaves_onW fr d.fr fly fun h' fl up => ?_
  have f : Flew X [e, T] s.heap h' := flew_of I fl.1 up
  exact cx_fin (s := s) d I x1 x2 f (xc_of (B := s.heap) I d.ex x1 x2 f fl e1 e2) k
theorem Inv.raised {e : Value} {E : XK} {s' : Shared} (I : Inv X pins σ H s) (h : CXe X.prog X.w X.stack H s E e s') : ∃ ea cv H', e = .ref ea ∧ Inv X pins σ H' s' ∧ ExcAt s H' s'.heap ea cv ∧ E cv none H' := by
  obtain ⟨ea, cv, H', rfl, os, bare, un, hok, x, k⟩ := h
  exact ⟨ea, cv, H', rfl, I.call' (ch := []) os un hok bare (fun b z => absurd z (by simp)), x, k⟩
theorem ExcAt.older {s' : Shared} {h : Heap} {e : Addr} {cv : Value} (x : ExcAt s H h e cv) (k : ∀ b, s.heap.get? b = none → s'.heap.get? b = none) : ExcAt s' H h e cv := by
  obtain ⟨e1, e2, oe, vs, a0, T, oT, ts, he, hc, h0, hd, h1, hTe, n1, n2, r⟩ := x
  exact ⟨k _ e1, e2, oe, vs, a0, T, oT, ts, he, hc, h0, hd, h1, hTe, k _ n1, n2, r⟩
end
end L2

set_option Elab.async false
set_option linter.all false
set_option maxRecDepth 100000
set_option maxHeartbeats 4000000
namespace L2
open PySem PySem.Spec PyProof.Rows
section
variable {CX : CXT} {P : Program} {w : World} {K : PySem.W.Frag} {mg : Str → Option Value} {base : Heap} {N : List Str} {qual : Str} {scope : Scope} {f : Addr} {cd : Value} {A : Around} {outer : List Env} {s : Shared} {H : Hp} {E : XK}
theorem isDef_cx : IsDef (cxOf CX P w K mg base N qual scope f cd A outer s H E) := ⟨rfl, rfl, rfl⟩
theorem passE : Passes (CXe P w) (cxOf (CXe P w) P w K mg base N qual scope f cd A outer s H E) E := fun pins σ H1 s1 e s' I h => by
  obtain ⟨ea, cv, H', rfl, I', x, k⟩ := I.raised h
  exact leave_on isDef_cx I' (x.older fun b z => I.old rfl z) k
theorem ownE : PassesOwn (model P w) (A.deeper (envOfC qual scope s.heap.objs.size f cd)) (envOfC qual scope s.heap.objs.size f cd) (cxOf (CXe P w) P w K mg base N qual scope f cd A outer s H E).xe := PassesOwn.leaving
theorem exc_of_in {h : Heap} {C : Addr} {bmB : List Value} {newId : String} (X : K.In h) (q : PySem.W.excIn K C bmB newId = true) :
    ∃ bm N nm qn bs hdc sn sub ab col dd k0 k1 k2 k3 k5 mN, h.get? C = some (excClassObj nm qn C N bs bm hdc sn sub ab col dd k0 k1 k2 k3 k5 newId) ∧ h.Ns N mN ∧ mN "__init__" = none ∧ OwnTail h bmB bm := by
  unfold PySem.W.excIn at q
  split at q
  · next dd cd sl ho =>
    split at q
    · next C' bm k0 k1 k2 k3 n k5 hm hs =>
      rw [Bool.and_eq_true, Bool.and_eq_true, Bool.and_eq_true, Bool.and_eq_true, Bool.and_eq_true] at q
      obtain ⟨⟨⟨⟨⟨q1, q2⟩, q3⟩, q4⟩, q5⟩, q6⟩ := q
      have r1 := beq_iff_eq.mp q1
      have r2 := beq_iff_eq.mp q2
      have r6 := beq_iff_eq.mp q6
      subst r1 r2
      obtain ⟨nm, bs, mro, ns, qn, hdc, sn, sub, ab, col, del⟩ := cd
      have r3 : del = false := by simpa using q3
      have r7 : mro = .ref C' :: bm := hm
      subst r3 r7
      obtain ⟨ls⟩ := sl
      have r8 : ls = [k0, k1, k2, k3, some (.builtin n), k5] := hs
      subst r8
      exact ⟨bm, ns, nm, qn, bs, hdc, sn, sub, ab, col, dd, k0, k1, k2, k3, k5, _, X _ _ ho, .of_isNs (PySem.W.isNs_of_in X q5), PySem.W.nsMap_none_of_in X q5 r6, PySem.W.tail_of_in X q4⟩
    · cases q
  · cases q
def tRaise (C : Addr) (E : XK) (ta : TA) : TS := fun _ σ H => ta σ H fun vs H1 => vs.length ≤ sizeLine ∧ E (.ref C) none H1
abbrev bmV : List Value := [.type "ValueError", .type "Exception", .type "BaseException", .type "object"]
theorem ps_raise {x : Str} {np cpos pos : Pos} {e : Expr} {es : List Expr} {ta : TA} {C : Addr} (hr : A.handled = none) (hx : PySem.W.excIn K C bmV "ValueError.__new__" = true)
    (hg : Gl (cxOf (CXe P w) P w K mg base N qual scope f cd A outer s H E) x) (hm : mg x = some (.ref C)) (ha : PA (cxOf (CXe P w) P w K mg base N qual scope f cd A outer s H E) (e :: es) ta)
    (hdb : (x == ("__debug__" : Str)) = false := by decide) (hs : starEach (e :: es) (cxOf (CXe P w) P w K mg base N qual scope f cd A outer s H E).env = (false, eval e (cxOf (CXe P w) P w K mg base N qual scope f cd A outer s H E).env) :: starEach es (cxOf (CXe P w) P w K mg base N qual scope f cd A outer s H E).env := by rfl)
    (hpl : (backTo cpos (starEach (e :: es) (cxOf (CXe P w) P w K mg base N qual scope f cd A outer s H E).env)).any (·.1) = false := by rfl) :
    PS (cxOf (CXe P w) P w K mg base N qual scope f cd A outer s H E) (.Raise (some (.Call (.Name x np) (e :: es) [] cpos)) none pos) (tRaise C E ta) := by
  intro pins s1 σ H1 D I h
  obtain ⟨bm, N', nm, qn, bs, hdc, sn, sub, ab, col, dd, k0, k1, k2, k3, k5, mN, hC, hN, hni, TL⟩ := exc_of_in I.mod.kin hx
  have hb : bm.contains (.type "BaseException") = true := TL.hasType (by decide +kernel)
  refine wpAny_Raise_call_subT (nm := nm) (q := qn) (N := N') (bs := bs) (hdct := hdc) (sn := sn) (sub := sub) (ab := ab) (col := col) (dd := dd) (k0 := k0) (k1 := k1) (k2 := k2) (k3 := k3) (k5 := k5) PySem.F.excBase_ValueError hb hr hpl hni (ld_glob I hg hm ⟨rfl, ?_⟩ hdb)
  have hA := ha cpos pins s1 σ H1 _ I h
  rw [hs] at hA ⊢
  refine Calls.evalArgs_plain (thn hA fun us s2 ⟨vs, H2, I2, r2, hz, k⟩ => ?_)
  refine ⟨rfl, by rw [← r2.length]; exact hz, I2.bk _ _ hC, hN.keeps I2.bk, TL.keeps I2.bk, fun h' ea m => ?_⟩
  exact leave_made isDef_cx I2 m k
end
theorem Fun.okE {P : Program} {w : World} {K : PySem.W.Frag} {mg : Str → Option Value} {base : Heap} {x qual : Str} {st : Stmt} {f : Addr} {fd : FuncData} {N ps : List Str} {k : Nat} {sp : Sp} (F : Fun K x qual st f fd) (S : FnScope N ps (defScope st)) (len : ∀ vs H Q E, sp vs H Q E → vs.length = ps.length)
    (hbody : ∀ (cdv : Value) (A : Around) (outer : List Env) (s : Shared) (H : Hp) (vs : List V) (Q : VK) (E : XK), Room k (A.deeper (envOfC qual (defScope st) s.heap.objs.size f cdv)) → A.handled = none → sp vs H Q E →
      ∃ t, PSs (cxOf (CXe P w) P w K mg base N qual (defScope st) f cdv A outer s H E) (defBody st) t ∧ t { nx := fun _ H' => Q .non H', rt := Q } (start N vs) H) : FnOk P w K mg base (CXe P w) (k + 1) f fd ps sp := by
  obtain ⟨oc, od, kV, doc, pm, an, cdv, ct, osl, rfl, lk, hcd⟩ := F.ex
  exact fn_of lk hcd S len fun A outer s H vs Q E hr hsp => hbody cdv A outer s H vs Q E hr hr.hd hsp

def Clauses (K : PySem.W.Frag) (D : Ends) : List (Addr × TS) → Value → Hp → Prop
  | [], _, _ => False
  | (C, ts) :: r, cv, H => (PySem.W.exmOne K cv (.ref C) = some true ∧ ∀ σ : St, ts D σ H) ∨ (PySem.W.exmOne K cv (.ref C) = some false ∧ Clauses K D r cv H)
def Cx.sui (X : Cx) (ev : Value) : Cx := { X with A := X.A.mark (some ev), calm := false, xe := fun _ _ => False }
def PH (X : Cx) : List ExceptHandler → List (Addr × TS) → Prop
  | .ExceptHandler (some (.Name x np)) none (b₀ :: suite) pos :: rest, (C, ts) :: r => Gl X x ∧ X.mg x = some (.ref C) ∧ (x == ("__debug__" : Str)) = false ∧ (∀ ev, PSs (X.sui ev) (b₀ :: suite) ts) ∧ PH X rest r
  | [], [] => True
  | _, _ => False
section
variable {X : Cx} {hs : List ExceptHandler} {pins pins' : List (Addr × Obj)} {σ : St} {H : Hp} {s : Shared} {D : Ends}
theorem Inv.insui {ev : Value} (I : Inv X pins σ H s) : Inv (X.sui ev) pins σ H s :=
  ⟨⟨I.ok.mod, I.ok.kind, I.ok.glob, I.ok.blt, I.ok.above, I.ok.inj, I.ok.has, I.ok.cab, fun z => absurd (show false = true from z) Bool.false_ne_true, I.ok.frames, I.ok.stk, I.ok.exf, I.ok.bs, I.ok.bsz, I.ok.noex, I.ok.exfs, I.ok.funs, I.ok.frf⟩, I.os, I.bare, I.base, I.loc, I.cell, I.free, I.freeC, I.pin, I.hok, I.len⟩
theorem Inv.outsui {ev : Value} (hd : X.calm = true → X.A.handled = none) (I : Inv (X.sui ev) pins σ H s) : Inv X pins σ H s :=
  ⟨⟨I.ok.mod, I.ok.kind, I.ok.glob, I.ok.blt, I.ok.above, I.ok.inj, I.ok.has, I.ok.cab, hd, I.ok.frames, I.ok.stk, I.ok.exf, I.ok.bs, I.ok.bsz, I.ok.noex, I.ok.exfs, I.ok.funs, I.ok.frf⟩, I.os, I.bare, I.base, I.loc, I.cell, I.free, I.freeC, I.pin, I.hok, I.len⟩

theorem handled (d : IsDef X) {e : Addr} {cv a0 : Value} {B : Heap} {l : List Env} : ∀ {hs : List ExceptHandler} {cls : List (Addr × TS)}, PH X hs cls → ∀ {s : Shared}, Inv X pins σ H s →
    (∀ {h' : Heap}, B.StaysIn h' → s.heap.UpToSlots h' → Inv X pins σ H { s with heap := h' }) → Heap.FlyingW B l e cv a0 s.heap → Clauses X.K D cls cv H →
    wpAny (model X.prog X.w) X.A (handleBy (.ref e) X.env hs) (SP X pins D) X.xe s
  | .ExceptHandler (some (.Name x np)) none (b₀ :: suite) pos :: rest, (C, ts) :: r, p, s, I, on, fl, k => by
    obtain ⟨hg, hm, hdb, hsu, hr⟩ := p
    obtain ⟨ob, hob, hoc⟩ := fl.there
    refine wpAny_handleBy_cons (codeAny_handlers_test (ld_glob (X := X.sui (.ref e)) I.insui hg hm ?_ hdb)) (by intro q; cases q)
    have LT : PySem.W.Looks (model X.prog X.w) s.heap (typeOf (.ref e)) cv := by rw [← hoc]; exact (PySem.W.Looks.ld hob).andThen .now
    rcases k with ⟨em, k⟩ | ⟨em, k⟩
    · refine (PySem.W.exm_one I.kIn LT em) _ _ _ s (fun _ _ z => z) ?_
      refine codeAny_handlers_suite (lands_againW fl fun h' fl' up => ?_)
      have I2 : Inv X pins σ H { s with heap := h' } := on fl'.1 up
      refine wpAny_mono (hsu (.ref e) pins _ σ H D I2.insui (k σ)) (fun f s2 q => ?_) fun _ _ z => z.elim
      show SP X pins D f s2
      cases f with
      | next => obtain ⟨σ', H', J, q⟩ := q; exact ⟨σ', H', J.outsui I.ok.hd, q⟩
      | brk => obtain ⟨σ', H', J, q⟩ := q; exact ⟨σ', H', J.outsui I.ok.hd, q⟩
      | cont => obtain ⟨σ', H', J, q⟩ := q; exact ⟨σ', H', J.outsui I.ok.hd, q⟩
      | ret v => obtain ⟨y, σ', H', J, rv, q⟩ := q; exact ⟨y, σ', H', J.outsui I.ok.hd, rv, q⟩
    · refine (PySem.W.exm_one I.kIn LT em) _ _ _ s (fun _ _ z => z) ?_
      exact handled d hr I on fl k
  | [], [], _, _, _, _, _, k => absurd k id

end
end L2

set_option Elab.async false
set_option linter.all false
set_option maxRecDepth 100000
set_option maxHeartbeats 4000000
namespace L2
open PySem PySem.Spec PyProof.Rows
theorem ps_setc {X : Cx} {elt iter : Expr} {x y : Str} {px py pos spos : Pos} {ifs : List Expr} {scope : Scope} {N : List Str} {ix : List (Option Nat)} {j i0 : Nat} {wi : TI} {tc : TT} {te : TE}
    (hc : X.calm = true) (hXN : X.N.Nodup) (hi0 : X.N[i0]? = some y) (hy : Loc X.env.scope y) (B : Blk X scope N ix) (hj : N[j]? = some x) (hix : ix[j]? = some none) (hx : scope.names.lookup x = some .local) (hi : PI X (.Name x px) iter wi)
    (ht : ∀ pins C s H ex, PIf (X.blk scope N pins C s H ex) ifs tc) (he : ∀ pins C s H ex, PE (X.blk scope N pins C s H ex) elt te)
    (hsw : swapsWith (.ListComp elt [⟨.Name x px, iter, ifs, 0⟩] scope pos) (some (.Name y py)) spos.line X.env = pure true := by rfl)
    (hf : X.fn y = true ∨ X.env.scope.names.lookup y = some .local := by first | exact .inl rfl | exact .inr rfl | assumption)
    (hs : ∀ x, foldedSetIterable iter X.env x = pure x := by intro _; rfl) : PS X (.Assign [.Name y py] (.ListComp elt [⟨.Name x px, iter, ifs, 0⟩] scope pos) spos) (tAsg (tComp wi ix j tc te) (gName i0)) := by
  intro pins s σ H DD I h
  rw [exec_Assign_Name_used _ _ _ _ hsw]
  refine wpAny_bind (wpAny_standAt (wpAny_bind ?_))
  show wpAny _ X.A (do
    let _ ← comprehension (.ListComp elt [⟨.Name x px, iter, ifs, 0⟩] scope pos) scope X.env _ (newList []) false (eval iter X.env) (some (assign (.Name y py) X.env))) _ _ s
  refine wpAny_bind (thn (Q := fun _ s' => SP X pins DD .next s') ?_ fun _ s' hq => wpAny_pure (wpAny_pure hq))
  have hcl : ∀ y ∈ scope.names, y.2 = .free → ∃ c, X.env.cells.lookup y.1 = some c := fun y hy hf => I.ok.has y.1 (B.free y hy hf)
  refine wpAny_comprehension_free (use := some (assign (.Name y py) X.env)) (cl := closeL X.env.cells scope.names) rfl hs (closure_eq hcl) B.kind B.names ?_
  refine thn (hi pins s σ H _ I h) fun v s1 h1 => thn h1 fun itv s2 h2 => ?_
  obtain ⟨it, fp, tn, J, H2, e, I2, T, st2, f2, W, ⟨m0, w0⟩, turn⟩ := h2
  subst e
  refine wpAny_newObj_type (wpAny_newFunctionEnv B.nocell (by intro y hy; simp at hy) (fun h₁ hns₁ hsb₁ => ?_) B.kind)
  dsimp only at hns₁ hsb₁ ⊢
  generalize hHp : s2.heap.push { cls := .type "list", dict := none, data := .seq ([] : List Value).toArray } = Hq at hns₁ hsb₁ ⊢
  generalize hD : s2.heap.objs.size = D at hns₁ hsb₁ ⊢
  generalize hCq : Hq.objs.size = C at hns₁ hsb₁ ⊢
  have hC : C = D + 1 := by rw [← hCq, ← hHp, Heap.size_push, hD]
  have hDC : D ≠ C := by omega
  have below : ∀ b o, s2.heap.get? b = some o → b ≠ C ∧ b ≠ D := fun b o e => by
    have h1 : b < D := by rw [← hD]; exact Heap.lt_size e
    exact ⟨Nat.ne_of_lt (Nat.lt_of_lt_of_le h1 (by rw [hC]; exact Nat.le_succ D)), Nat.ne_of_lt h1⟩
  have old : ∀ b o, s2.heap.get? b = some o → h₁.get? b = some o := fun b o e => hsb₁.extBut b o (below b o e).1 (Heap.get?_push_of_some _ (hHp ▸ Heap.get?_push_of_some _ e))
  have hDobj : h₁.get? D = some { cls := .type "list", data := .seq ([] : List Value).toArray } :=
    hsb₁.extBut _ _ hDC (Heap.get?_push_of_some _ (hHp ▸ hD ▸ Heap.get?_push_size _ rfl))
  have H2D : H2 D = none := I2.hok.fresh (by rw [hD]; exact Nat.le_refl _)
  have H2C : H2 C = none := I2.hok.fresh (by rw [hD]; omega)
  have clM : ∀ y c, (closeL X.env.cells scope.names).lookup y = some c → X.env.cells.lookup y = some c := fun y c e => closeL_mem scope.names [] hcl (fun p hp => nomatch hp) (y, c) (PySem.mem_of_lookup e)
  have fpLt : ∀ b ∈ fp, ∃ o, s2.heap.get? b = some o := fun b hb => let ⟨o, e, _⟩ := T.obj 0 _ st2 b hb; ⟨o, e⟩
  have pinLt : ∀ p ∈ X.pn ++ pins, s2.heap.get? p.1 = some p.2 := fun p hp => (I2.pin p hp).1
  have cellLt : ∀ y c, X.env.cells.lookup y = some c → ∃ o, s2.heap.get? c = some o := fun y c e => let ⟨v, o, ho, _⟩ := I2.cell y c e; ⟨o, ho⟩
  let Xb : Cx := X.blk scope N pins C s2 H2 fp
  have okb : Xb.Ok := by
    refine ⟨I2.ok.mod, B.kind, I2.ok.glob, I2.ok.blt, ?_, fun y z c e1 e2 => I2.ok.inj y z c (clM y c e1) (clM z c e2), fun y hy => ?_, fun y c hf _ => ?_, I2.ok.hd, I2.ok.frames, .inl rfl, fun b hb => ?_, I2.bs, Nat.le_trans I2.ok.bsz I2.sz, fun b o e hb => ?_, fun b hb hf => ?_, I2.stack, I2.stkFree⟩
    · show s2.heap.objs.size ≤ C
      rw [hD]; omega
    · have hy' : (y, NameKind.free) ∈ scope.names := by
        rcases hy with hy | hy
        · exact relabel_free (env := X.env) B.nocell (show (relabel scope X.env).names.lookup y = some .cell from hy) (.inl rfl)
        · exact relabel_free (env := X.env) B.nocell (show (relabel scope X.env).names.lookup y = some .free from hy) (.inr rfl)
      exact lookup_key (closeL_key scope.names [] (.inl hy'))
    · exact absurd (show false = true from hf) Bool.false_ne_true
    · obtain ⟨o, e⟩ := fpLt b hb
      refine ⟨(below b o e).1, fun y c hy => ?_⟩
      exact (f2 b hb).2.2.2.2.1 y c (clM y c hy)
    · rcases (f2 b hb).2.2.2.1 with z | z
      · exact I2.ok.noex b o e z
      · exact absurd (Nat.lt_of_lt_of_le (Heap.lt_size e) (Nat.le_trans I2.ok.bsz z)) (Nat.lt_irrefl _)
    · rcases List.mem_cons.mp (I2.stkSub b hf) with z | z
      · exact (f2 b hb).2.1 z
      · exact (f2 b hb).2.2.1 z
  have σlen : (blkSt ix σ).length = N.length := by unfold blkSt; rw [List.length_map]; exact B.len
  have σj : (blkSt ix σ)[j]? = some none := by unfold blkSt; rw [List.getElem?_map, hix]; rfl
  have pinFs : ∀ p ∈ X.pn ++ pins, p.1 ∉ frs X.stack := fun p hp z => by
    obtain ⟨_, _, n1, n2, _⟩ := I2.pin p hp
    exact (List.mem_cons.mp (I2.stkSub p.1 z)).elim n1 n2
  have DFs : D ∉ frs X.stack := fun z => by
    rcases List.mem_cons.mp (I2.stkSub D z) with q | q
    · have h3 := I2.lt
      rw [hD, ← q] at h3
      exact absurd h3 (Nat.lt_irrefl _)
    · exact I2.nofs (by rw [hD]; exact Nat.le_refl _) q
  -- at the block's start
  have Ib : Inv Xb [(D, { cls := .type "list", data := .seq ([] : List Value).toArray })] (blkSt ix σ) H2 { s2 with heap := h₁, toks := s2.toks + ([] : List (Str × Value)).length } := by
    refine ⟨okb, rfl, I2.bare, Un.kept old, ⟨_, hns₁, fun a y v e1 e2 e3 => ?_⟩, fun y c e => ?_, H2C, fun y c e => I2.freeC y c (clM y c e), fun p hp => ?_, I2.hok.kept old, σlen⟩
    · unfold blkSt at e2
      rw [List.getElem?_map] at e2
      cases q : ix[a]? with
      | none => rw [q] at e2; cases e2
      | some o =>
        rw [q] at e2
        cases o with
        | none => cases e2
        | some i =>
          have e2' : (σ[i]?).join = some v := Option.some.inj e2
          have e2'' : σ[i]? = some (some v) := by
            cases r : σ[i]? with
            | none => rw [r] at e2'; cases e2'
            | some t => rw [r] at e2'; exact congrArg some e2'
          obtain ⟨n1, n2'⟩ := B.slots a i y q e1
          have n2 : (y, NameKind.free) ∈ scope.names := PySem.mem_of_lookup n2'
          have kf := B.free _ n2 rfl
          obtain ⟨m, _, hl⟩ := I2.loc
          obtain ⟨u, r, l⟩ := hl i y v n1 e2'' (kf.elim (fun z => .inr (.inl z)) fun z => .inr (.inr z))
          refine ⟨u, r, ?_⟩
          rcases l with ⟨l, _⟩ | ⟨_, c, hc1, hc2⟩
          · rcases kf with z | z <;> (rw [show X.env.kindOf y = some .local from l] at z; cases z)
          · obtain ⟨c', hc'⟩ := lookup_key (closeL_key (cells := X.env.cells) scope.names [] (.inl n2))
            have : c' = c := Option.some.inj ((clM y c' hc').symm.trans hc1)
            subst this
            have kb : (relabel scope X.env).names.lookup y = some .cell ∨ (relabel scope X.env).names.lookup y = some .free := relabel_of_free n2'
            obtain ⟨oc, hoc, hcd⟩ := hc2
            exact .inr ⟨kb, c', hc', oc, old _ _ hoc, hcd⟩
    · obtain ⟨v, oc, hoc, hcd⟩ := I2.cell y c (clM y c e)
      exact ⟨v, oc, old _ _ hoc, hcd⟩
    · rcases List.mem_append.mp hp with hp | hp
      · obtain ⟨p1, p2, p3, p4, p5⟩ := I2.pin p hp
        exact ⟨old _ _ p1, p2, (below _ _ p1).1, pinFs p hp, p5⟩
      · have e : p = (D, { cls := .type "list", data := .seq ([] : List Value).toArray }) := by simpa using hp
        subst e
        exact ⟨hDobj, H2D, hDC, DFs, fun v z => nomatch z⟩
  have stat : ∀ {H' : Hp} {ob : Obj}, (∀ b ∈ fp, H' b = none) → ∀ b ∈ fp, FpOk Xb [(D, ob)] H' b := fun {H' ob} hn b hb => by
    obtain ⟨o, e⟩ := fpLt b hb
    refine ⟨hn b hb, (below b o e).1, okb.exfs b hb, .inl hb, fun y c hy => (f2 b hb).2.2.2.2.1 y c (clM y c hy), fun p hp z => ?_⟩
    rcases List.mem_append.mp hp with hp | hp
    · exact (f2 b hb).2.2.2.2.2 p hp z
    · have q : p = (D, ob) := by simpa using hp
      subst q
      exact (below b o e).2 z.symm
  have loop : codeAny (model X.prog X.w) X.A (.compLoop (.ListComp elt [⟨.Name x px, iter, ifs, 0⟩] scope pos) 0 (.ref it) (.ref D) (compEnvC scope (closeL X.env.cells scope.names) C X.env))
      (compPost (model X.prog X.w) X.A X.xe (some (assign (.Name y py) X.env)) (fun _ s' => SP X pins DD .next s') (.ref D) C) { s2 with heap := h₁, toks := s2.toks + ([] : List (Str × Value)).length } := by
    refine codeAny_compLoop_go (fun n s' => ∃ i ys H' its k, Inv Xb [(D, { cls := .type "list", data := .seq (List.toArray its) k })] (blkSt ix σ) H' s' ∧ tn i s'.heap ∧ (∀ b ∈ fp, H' b = none) ∧ Vals ys its ∧ ys.length ≤ sizeLine ∧ W i n ys H') ?_ m0
      ⟨0, [], H2, [], _, Ib, T.keep _ _ _ st2 fun b _ o e => old b o e, fun b hb => (f2 b hb).1, .nil, Nat.zero_le _, w0⟩
    rintro n s3 ⟨i, ys, H3, its, k, I3, st3, fr3, hv3, hz3, w3⟩
    rcases turn i n ys H3 w3 with ⟨stop, qn⟩ | ⟨go, N', hN, step⟩
    · refine thn (T.done Xb rfl rfl rfl hc i _ s3 _ H3 (fun _ _ => False) I3 (stat fr3) st3 stop) fun r s4 ⟨hr, I4⟩ => ?_
      subst hr
      obtain ⟨m, hn, _⟩ := I4.loc
      have hp4 := I4.pin (D, { cls := .type "list", data := .seq its.toArray k }) (by simp)
      obtain ⟨gD, nD, _, _, _⟩ := hp4
      have all : ∀ h', Heap.SameBut C s4.heap h' → Inv X pins σ (upd H3 D (.lst ys)) { s4 with heap := h' } := fun h' sb => by
        have n3C : H3 C = none := I4.free
        have un4 : Un (frs X.stack) fp H2 H3 s2.heap s4.heap := I4.base
        have gD' : h'.get? D = some { cls := .type "list", data := .seq its.toArray k } := (sb.2 D hDC).trans gD
        have up : ∀ b o, s2.heap.get? b = some o → h'.get? b = s4.heap.get? b := fun b o e => sb.2 b (below b o e).1
        refine I2.call' (ch := fp) (s' := { s4 with heap := h' }) I4.os ?_ ?_ I4.bare fun b hb => ⟨(f2 b hb).2.2.2.1, (f2 b hb).2.1, (f2 b hb).2.2.2.2.1, (f2 b hb).2.2.2.2.2⟩
        · refine ⟨fun b o e n hb hx => (up b o e).trans (un4.keep b o e n hb hx), fun b o e n hb hx => ?_, fun b o e n hx => ?_, fun b o e hx => ?_, fun b xs e => ?_, fun b o u e => ?_, fun b ps e => ?_⟩
          · obtain ⟨sl, q⟩ := un4.slot b o e n hb hx
            exact ⟨sl, (up b o e).trans q⟩
          · rw [upd_ne (below b o e).2]; exact un4.free b o e n hx
          · obtain ⟨o', q⟩ := un4.there b o e hx
            exact ⟨o', (up b o e).trans q⟩
          · have q := un4.tups b xs e
            rw [upd_ne (ne_of_none q nD)]; exact q
          · have q := un4.frzs b o u e
            rw [upd_ne (ne_of_none q nD)]; exact q
          · obtain ⟨more, q⟩ := un4.tbls b ps e
            exact ⟨more, by rw [upd_ne (ne_of_none q nD)]; exact q⟩
        · exact (HOk.but I4.hok n3C sb).track nD ⟨hz3, its, k, hv3, gD'⟩
      have J4 : Inv X pins σ (upd H3 D (.lst ys)) s4 := all s4.heap (Heap.SameBut.refl _ _)
      show wpAny _ X.A (assign (.Name y py) X.env (.ref D)) _ _ s4
      refine wpAny_assign_Name (store_ok2 J4 hXN hi0 hy (show RelV (.ref D) (.ref D) from rfl) (fun s5 I5 ⟨a, sb, ha⟩ => ?_) hf)
      have naC : C ≠ a := fun z => by
        rcases ha with q | q
        · have l1 := I2.lt
          rw [hD, ← q, ← z, hC] at l1
          exact absurd l1 (Nat.not_lt.mpr (Nat.le_succ D))
        · obtain ⟨o, q'⟩ := cellLt y a q
          exact (below a o q').1 z.symm
      refine ⟨m, hn.sameBut sb naC, fun h' sb' => ?_⟩
      have nC : upd H3 D (.lst ys) C = none := by rw [upd_ne (Ne.symm hDC)]; exact I4.free
      refine ⟨_, _, I5.turned (t' := s5.toks) (it := C) (fun b o hb e => (sb'.2 b hb).trans e) nC (fun z => ?_) (.inr (Nat.le_trans I2.sz (by rw [hD]; omega))) (fun y' c hy' z => ?_) (fun p hp z => ?_), qn D nD⟩
      · have l1 := I2.lt
        rw [hD, ← z, hC] at l1
        exact absurd l1 (Nat.not_lt.mpr (Nat.le_succ D))
      · obtain ⟨o, q'⟩ := cellLt y' c hy'
        exact (below c o q').1 z
      · exact (below _ _ (pinLt p hp)).1 z
    · refine thn (T.item Xb rfl rfl rfl hc i _ s3 _ H3 (fun _ _ => False) I3 (stat fr3) st3 go) fun r s4 ⟨u, hr, h4⟩ => ?_
      subst hr
      refine thn h4 fun _ s5 ⟨x5, H5, I5, r5, y5, st5, fr5⟩ => ?_
      have I5' := I5.pinned (stat fr5) (T.obj _ _ st5)
      have hg : PG Xb (.Name x px) (gName j) := pg_name (X := Xb) (i := j) B.nd hj (.inl (lookup_relabel_local hx)) (.inr (lookup_relabel_local hx))
      refine thn (hg _ s5 _ H5 x5 u (fun σ' H' => σ' = (blkSt ix σ).set j (some x5) ∧ H' = H5) I5' r5 ⟨rfl, rfl⟩) fun _ s6 ⟨σ6, H6, I6, e6, e6'⟩ => ?_
      subst e6 e6'
      refine thn (ht pins C s2 H2 fp _ s6 _ _ _ I6 (step x5 _ y5)) fun ok s7 ⟨H7, I7, q7⟩ => ?_
      have back : ∀ {H8 : Hp} {s8 : Shared} {ob : Obj} {ys' : List V} {its' : List Value} {k' : Nat}, Inv Xb ([(D, ob)] ++ pinsAt fp s5.heap) ((blkSt ix σ).set j (some x5)) H8 s8 → ob = { cls := .type "list", data := .seq its'.toArray k' } → Vals ys' its' → ys'.length ≤ sizeLine → N' ys' H8 →
          ∃ m, m < n ∧ ∃ i ys H' its k, Inv Xb [(D, { cls := .type "list", data := .seq (List.toArray its) k })] (blkSt ix σ) H' s8 ∧ tn i s8.heap ∧ (∀ b ∈ fp, H' b = none) ∧ Vals ys its ∧ ys.length ≤ sizeLine ∧ W i m ys H' := fun {H8 s8 ob ys' its' k'} I8 eo hv8 hz8 n8 => by
        subst eo
        obtain ⟨m', hm, w8⟩ := hN ys' H8 n8
        refine ⟨m', hm, i + 1, ys', H8, its', k', ?_, T.keep _ _ _ st5 fun b hb o e => (I8.pin (b, o) (List.mem_append_right _ (List.mem_append_right _ (mem_pinsAt hb e)))).1, fun b hb => ?_, hv8, hz8, w8⟩
        · refine (I8.unpinned).weak (by rw [List.length_set]) fun a v e => ?_
          have na : j ≠ a := fun z => by rw [← z, σj] at e; cases e
          rw [List.getElem?_set_ne na]; exact e
        · obtain ⟨o, e, d⟩ := T.obj _ _ st5 b hb
          exact (I8.pin (b, o) (List.mem_append_right _ (List.mem_append_right _ (mem_pinsAt hb e)))).2.1
      cases ok with
      | false => exact back I7 rfl hv3 hz3 q7
      | true =>
        have q7' : te ((blkSt ix σ).set j (some x5)) H7 fun y H3 => ys.length < sizeLine ∧ N' (ys ++ [y]) H3 := q7
        show wpAny _ _ (eval elt _) _ _ _
        refine thn (he pins C s2 H2 fp _ s7 _ H7 _ I7 q7') fun y8 s8 ⟨v8, H8, I8, r8, hz8, q8⟩ => ?_
        have gD8 := (I8.pin (D, { cls := .type "list", data := .seq its.toArray k }) (by simp)).1
        have nD8 := (I8.pin (D, { cls := .type "list", data := .seq its.toArray k }) (by simp)).2.1
        have hl8 := hv3.length
        refine wpAny_list_append_plain (hsz := by rw [List.size_toArray]; omega) ⟨k, gD8⟩ fun h9 pl9 sb9 => ?_
        obtain ⟨k9, g9⟩ := pl9
        have g9' : h9.get? D = some { cls := .type "list", data := .seq (its ++ [y8]).toArray k9 } := by rw [g9]; simp
        have pinsP : ∀ p ∈ pinsAt fp s5.heap, p.1 ≠ D := fun p hp z => by
          obtain ⟨hb, _⟩ := of_pinsAt hp
          obtain ⟨o, e⟩ := fpLt p.1 hb
          exact (below _ o e).2 z
        have I8' : Inv Xb (pinsAt fp s5.heap) ((blkSt ix σ).set j (some x5)) H8 s8 := I8.pins_of fun p hp => I8.pin p (List.mem_append_right _ (List.mem_append_right _ hp))
        have I9 : Inv Xb (pinsAt fp s5.heap) ((blkSt ix σ).set j (some x5)) H8 { s8 with heap := h9 } := I8'.turned (t' := s8.toks) (fun b o hb e => (sb9.2 b hb).trans e) nD8 hDC (.inr (by show s2.heap.objs.size ≤ D; rw [hD]; exact Nat.le_refl _))
          (fun y c hy z => by obtain ⟨o, e⟩ := cellLt y c (clM y c hy); exact (below c o e).2 z)
          (fun p hp z => by
            rcases List.mem_append.mp hp with hp | hp
            · exact (below _ _ (pinLt p hp)).2 z
            · exact pinsP p hp z)
        have I10 : Inv Xb ([(D, { cls := .type "list", data := .seq (its ++ [y8]).toArray k9 })] ++ pinsAt fp s5.heap) ((blkSt ix σ).set j (some x5)) H8 { s8 with heap := h9 } := I9.pins_of fun p hp => by
          rcases List.mem_append.mp hp with hp | hp
          · have q : p = (D, { cls := .type "list", data := .seq (its ++ [y8]).toArray k9 }) := by simpa using hp
            subst q
            exact ⟨g9', nD8, hDC, DFs, fun v z => nomatch z⟩
          · exact I9.pin p (List.mem_append_right _ hp)
        exact back I10 rfl (hv3.append (.cons r8 .nil)) (by rw [List.length_append, List.length_singleton]; omega) q8
  exact codeAny_compStart_list loop (T.self _ 0 _ _ _ (T.keep _ _ _ st2 fun b _ o e => old b o e) loop)

section
variable {X : Cx} {pins : List (Addr × Obj)} {σ : St} {H : Hp} {s : Shared}
def RPair (K : PySem.W.Frag) (H : Hp) (v : V) (p : Int × Int) : Prop := ∃ r, v = .ref r ∧ SqT K H r [.int p.1, .int p.2]
theorem det_pair (I : Inv X pins σ H s) (v : V) (x y : Int × Int) (h : RPair X.K H v x) (h' : RPair X.K H v y) : x = y := by
  obtain ⟨r, rfl, q⟩ := h
  obtain ⟨r', e, q'⟩ := h'
  cases e
  have z := I.tuple_inj q q'
  injection z with z1 z2
  injection z2 with z2 _
  injection z1 with z1
  injection z2 with z2
  exact Prod.ext z1 z2
theorem cmp_pair (I : Inv X pins σ H s) {A : Around} (hu : A.units < cLine) {v v' : V} {u u' : Value} {x x' : Int × Int} (h : RPair X.K H v x) (h' : RPair X.K H v' x') (r : RelV v u) (r' : RelV v' u') : SeqAt.EqAt A s u u' (decide (x = x')) := by
  obtain ⟨a, rfl, q⟩ := h
  obtain ⟨b, rfl, q'⟩ := h'
  cases r; cases r'
  by_cases e : a = b
  · subst e
    rw [decide_eq_true (det_pair I (.ref a) x x' ⟨a, rfl, q⟩ ⟨a, rfl, q'⟩)]
    exact SeqAt.EqAt.same _
  · obtain ⟨its, rv, p, _⟩ := I.tuple q
    obtain ⟨its2, rv2, p2, _⟩ := I.tuple q'
    obtain ⟨u1, w1, rfl, ru1, rw1⟩ := vals2 rv
    obtain ⟨u2, w2, rfl, ru2, rw2⟩ := vals2 rv2
    obtain ⟨t1, rfl⟩ := ru1
    obtain ⟨t2, rfl⟩ := rw1
    obtain ⟨t3, rfl⟩ := ru2
    obtain ⟨t4, rfl⟩ := rw2
    refine SeqAt.EqAt.of_refs e ?_
    have key := SeqAt.RcAt.tuples (A := A) (e := fun j => if j = 0 then x.1 == x'.1 else x.2 == x'.2) (show s.heap.IsTuple a [Value.int x.1 t1, Value.int x.2 t2].toArray from p) (show s.heap.IsTuple b [Value.int x'.1 t3, Value.int x'.2 t4].toArray from p2) hu (fun j h1 h2 => by
      have hj : j = 0 ∨ j = 1 := by simp at h1; omega
      rcases hj with rfl | rfl
      · exact SeqAt.EqAt.int_int x.1 t1 x'.1 t3
      · exact SeqAt.EqAt.int_int x.2 t2 x'.2 t4)
    have e2 : ((List.range (min [Value.int x.1 t1, Value.int x.2 t2].toArray.size [Value.int x'.1 t3, Value.int x'.2 t4].toArray.size)).all (fun j => if j = 0 then x.1 == x'.1 else x.2 == x'.2) && [Value.int x.1 t1, Value.int x.2 t2].toArray.size == [Value.int x'.1 t3, Value.int x'.2 t4].toArray.size) = decide (x = x') := by
      obtain ⟨x1, x2⟩ := x
      obtain ⟨y1, y2⟩ := x'
      by_cases h1 : x1 = y1 <;> by_cases h2 : x2 = y2 <;> simp [h1, h2, List.range_succ]
    rw [e2] at key
    exact key
def Pairs (K : PySem.W.Frag) (H : Hp) (a : Addr) (ps : List (Int × Int)) : Prop := ∃ vs, SqL K H a vs ∧ Paired (RPair K H) vs ps
def rPairs (K : PySem.W.Frag) (f : Bool → Bool) : R2 := fun x y H Q => ∃ a b ps qs, x = .ref a ∧ y = .ref b ∧ Pairs K H a ps ∧ Pairs K H b qs ∧ Q (.bl (f (decide (ps = qs)))) H
theorem op_ne_pairs (hu : X.A.units + 1 < cLine) : OpR X (compareOp .NotEq) (rPairs X.K not) := by
  intro pins s σ H x y v u Q I rx ry h
  obtain ⟨a, b, ps, qs, rfl, rfl, ⟨vs, ga, pa⟩, ⟨ws, gb, pb⟩, q⟩ := h
  cases rx; cases ry
  exact (rc_list I (by omega) (fun v v' u u' x x' h h' r r' => cmp_pair I (A := X.A.in1) hu h h' r r') ga gb pa pb).2 _ _ _ _ ⟨.bl _, H, I, rfl, q⟩
theorem passF {P : Program} {w : World} : Passes (CXe P w) X (fun _ _ _ => False) := fun pins σ H s e s' I h => by
  obtain ⟨_, _, _, _, _, _, _, _, _, k⟩ := h
  exact k.elim
end
structure CalleeE (P : Program) (w : World) (K : PySem.W.Frag) (mg : Str → Option Value) (base : Heap) (k : Nat) (x : Str) (ps : List Str) (sp : Sp) : Prop where
  ex : ∃ f fd, FnOk P w K mg base (CXe P w) k f fd ps sp ∧ mg x = some (.ref f) ∧ PySem.W.keepIn K (.ref f) = true ∧ Binds K fd ps []
structure MCalleeE (P : Program) (w : World) (K : PySem.W.Frag) (mg : Str → Option Value) (base : Heap) (C : Addr) (k : Nat) (m : Str) (ps : List Str) (sp : Sp) : Prop where
  ex : ∃ f fd, FnOk P w K mg base (CXe P w) k f fd ps sp ∧ Meth K C m f ∧ Binds K fd ps []
structure KCalleeE (P : Program) (w : World) (K : PySem.W.Frag) (mg : Str → Option Value) (base : Heap) (C : Addr) (k : Nat) (x : Str) (ps : List Str) (sp : Sp) : Prop where
  ex : ∃ f fd, FnOk P w K mg base (CXe P w) k f fd ps sp ∧ Mk K C f ∧ mg x = some (.ref C) ∧ Binds K fd ps []
section
variable {X : Cx} {k : Nat} {C : Addr} {ps : List Str} {sp : Sp} {x m : Str} {p pos apos : Pos} {e o : Expr} {es : List Expr} {ta : TE} {t : TA} {E : XK}
theorem pe_fnE (D : CalleeE X.prog X.w X.K X.mg X.base k x ps sp) (hx : Passes (CXe X.prog X.w) X E) (hr : Room k X.A) (ha : PA X (e :: es) t) (hg : Gl X x := by rfl)
    (hdb : (x == ("__debug__" : Str)) = false := by decide) (he : starEach (e :: es) X.env = (false, eval e X.env) :: starEach es X.env := by rfl) (hpl : (backTo pos (starEach es X.env)).any (·.1) = false := by rfl) :
    PE X (.Call (.Name x p) (e :: es) [] pos) (tCall sp [] E t) := by
  obtain ⟨f, fd, F, hm, hk, hb⟩ := D.ex
  exact pe_call F hr hg hm hk hb .nil hx ha hdb he hpl
theorem pe_newE (D : KCalleeE X.prog X.w X.K X.mg X.base C k x ps sp) (hx : Passes (CXe X.prog X.w) X E) (hr : Room (k + 1) X.A) (ha : PA X (e :: es) t) (hg : Gl X x := by rfl)
    (hdb : (x == ("__debug__" : Str)) = false := by decide) (he : starEach (e :: es) X.env = (false, eval e X.env) :: starEach es X.env := by rfl) (hpl : (backTo pos (starEach es X.env)).any (·.1) = false := by rfl) :
    PE X (.Call (.Name x p) (e :: es) [] pos) (tMake C sp [] E t) := by
  obtain ⟨f, fd, F, M, hm, hb⟩ := D.ex
  exact pe_make M F hr hg hm hb .nil hx ha hdb he hpl
theorem pe_mE {pl : Sem Bool} (he : PE X o ta) (c : Cls X.K C) (D : MCalleeE X.prog X.w X.K X.mg X.base C k m ps sp) (hx : Passes (CXe X.prog X.w) X E) (hr : Room k X.A) (ha : PA X (e :: es) t)
    (hst : starEach (e :: es) X.env = (false, eval e X.env) :: starEach es X.env := by rfl) (hpl : (backTo pos (starEach es X.env)).any (·.1) = false := by rfl)
    (ht : eval (.Call (.Attribute o m apos) (e :: es) [] pos) X.env = (do
      let ov ← eval o X.env
      standAt apos.atName
      let (f, first) ← holding [ov] (getMethod ov m pl)
      callWith pos f first (backTo pos (starEach (e :: es) X.env)) (backToKw pos (keywordEach [] X.env))) := by rfl) :
    PE X (.Call (.Attribute o m apos) (e :: es) [] pos) (tMeth C m sp [] E ta t) := by
  obtain ⟨f, fd, F, hm, hb⟩ := D.ex
  exact pe_meth he c hm F hr hb .nil hx ha hst hpl ht
end
end L2

set_option Elab.async false
set_option linter.all false
set_option maxRecDepth 100000
set_option maxHeartbeats 4000000
namespace L2
open PySem PySem.Spec PyProof.Rows
end L2

set_option Elab.async false
set_option linter.all false
set_option maxRecDepth 100000
set_option maxHeartbeats 4000000
namespace L2
open PySem PySem.Spec PyProof.Rows
section
variable {X : Cx}
theorem call_all_bools (hc : X.calm = true) : CallR X (.builtin "all") (fun xs H Q => ∃ (p : Addr) (bs : List Bool), xs = [.ref p] ∧ SqL X.K H p (bs.map V.bl) ∧ Q (.bl (bs.all fun b => b)) H) := by
  intro pins s σ H xs us Q I r h
  obtain ⟨p, bs, rfl, hp, q⟩ := h
  obtain ⟨u, rfl, ru⟩ := vals1 r
  cases ru
  obtain ⟨its, rv, pl, hz⟩ := I.list hp
  have lt := pl.isList
  have ltp : p < s.heap.objs.size := by obtain ⟨o, ho, _⟩ := lt; exact Heap.lt_size ho
  refine call_all_walk (wpAny_pyIter_list lt ?_)
  have hlen := rv.length
  have W := Walks.list (prog := X.prog) (w := X.w) (A := X.A.in1) (I.ok.hd hc) s.heap.objs.size p (Nat.ne_of_lt ltp) its.toArray
  refine ⟨_, _, _, _, _, _, fun j => bs.getD j true, rfl, W, ⟨⟨_, Heap.get?_push_size _ rfl, rfl, rfl⟩, lt.at fun o e => Heap.get?_push_of_some _ e⟩, fun i v s1 Q1 E1 hP hQ => ?_, fun h' tk k => ?_⟩
  · obtain ⟨hi, hv⟩ : ∃ hi : i < its.length, v = its[i] := by
      have z : its.toArray[i]? = some v := hP
      rw [List.getElem?_toArray] at z
      obtain ⟨h1, h2⟩ := List.getElem?_eq_some_iff.mp z
      exact ⟨h1, h2.symm⟩
    obtain ⟨b, hb⟩ : ∃ b, bs[i]? = some b := ⟨bs[i]'(by rw [List.length_map] at hlen; omega), List.getElem?_eq_getElem _⟩
    obtain ⟨u, hu, rb⟩ := rv.get (show (bs.map V.bl)[i]? = some (.bl b) by rw [List.getElem?_map, hb]; rfl)
    have e : v = .bool b := by
      rw [List.getElem?_eq_getElem hi] at hu
      rw [hv, Option.some.inj hu]
      exact rb
    subst e
    have e2 : bs.getD i true = b := by rw [List.getD_eq_getElem?_getD, hb]; rfl
    have hQ' : Q1 (bs.getD i true) s1 := hQ
    rw [e2] at hQ'
    exact wpAny_truthy_bool hQ'
  · have e : (List.range its.toArray.size).all (fun j => bs.getD j true) = bs.all fun b => b := by
      have l2 : its.toArray.size = bs.length := by rw [List.size_toArray, ← hlen, List.length_map]
      rw [l2, Bool.eq_iff_iff, List.all_eq_true, List.all_eq_true]
      constructor
      · intro h b hb
        obtain ⟨i, hi⟩ := List.getElem?_of_mem hb
        have z := h i (List.mem_range.mpr (List.getElem?_eq_some_iff.mp hi).1)
        rw [List.getD_eq_getElem?_getD, hi] at z
        exact z
      · intro h i hi
        have hi := List.mem_range.mp hi
        rw [List.getD_eq_getElem?_getD, List.getElem?_eq_getElem hi]
        exact h _ (List.getElem_mem hi)
    rw [e]
    have I0 : Inv X pins σ H { s with heap := s.heap.push { cls := .type "list_iterator", data := .fields #[.ref p, .int 0 0] } } := I.kept (t' := s.toks) fun b o z => Heap.get?_push_of_some _ z
    have fp := I.fpOk (b := s.heap.objs.size) (H' := H) (Nat.le_refl _) I.fresh
    obtain ⟨f0, f1, f2, f3, f4, f5⟩ := fp
    exact ⟨.bl _, H, I0.turned (t' := tk) (it := s.heap.objs.size) (fun b o hb z => k b o (by simpa using hb) z) f0 f1 f3 f4 f5, rfl, q⟩
end
end L2

set_option Elab.async false
set_option linter.all false
set_option maxRecDepth 100000
set_option maxHeartbeats 4000000
namespace L2
open PySem PySem.Spec PyProof.Rows
section
variable {X : Cx} {pins : List (Addr × Obj)} {σ : St} {H : Hp} {s : Shared} {h' : Heap}
theorem Inv.turnedL {t' : Nat} {ch : List Addr} (I : Inv X pins σ H s) (k : ∀ b o, b ∉ ch → s.heap.get? b = some o → h'.get? b = some o) (f : ∀ b ∈ ch, FpOk X pins H b) : Inv X pins σ H { s with heap := h', toks := t' } := by
  have nit : ∀ b u, H b = some u → b ∉ ch := fun b u e z => by rw [(f b z).1] at e; cases e
  refine I.step (g' := s.gens) (d' := s.drawn) (ch := ch) (fun b hb => ?_) (fun b o _ _ hc e _ => k b o hc e) (fun b o _ _ hc e _ => ⟨o.slots, k b o hc e⟩) (fun _ _ _ _ n => n)
    (fun b o hc e => ⟨o, k b o hc e⟩) (fun _ _ e => e) (fun _ _ _ e => e) (fun b ps e => ⟨#[], by rw [e]; simp⟩) (fun m hm => ?_) (fun b u e => ?_) I.bare
  · obtain ⟨f0, f1, f2, f3, f4, f5⟩ := f b hb
    exact ⟨f3, f1, f4, f5⟩
  · obtain ⟨o, es, ep, ho, r⟩ := hm
    exact ⟨o, es, ep, k _ o (fun z => (f _ z).2.1 rfl) ho, r⟩
  · refine (I.hok b u e).stay (fun c v hc q => k c v ?_ q) (fun _ q => q) fun _ _ q => q
    rcases hc with z | z
    · rw [z]; exact nit b u e
    · exact nit c _ z
theorem Inv.laidL {t' : Nat} {ch : List Addr} {a : Addr} {o : HO} (I : Inv X pins σ H s) (k : ∀ b o, b ∉ ch → s.heap.get? b = some o → h'.get? b = some o) (f : ∀ b ∈ ch, FpOk X pins H b) (hp : s.heap.objs.size ≤ a) (new : ObjOk X.prog X.w (upd H a o) h' a o) : Inv X pins σ (upd H a o) { s with heap := h', toks := t' } := by
  have nit : ∀ b u, H b = some u → b ∉ ch := fun b u e z => by rw [(f b z).1] at e; cases e
  have hn : H a = none := I.hok.fresh hp
  have na : ∀ b u, H b = some u → b ≠ a := fun b u e z => by rw [z, hn] at e; cases e
  refine I.step (g' := s.gens) (d' := s.drawn) (ch := ch) (fun b hb => ?_) (fun b o _ _ hc e _ => k b o hc e) (fun b o _ _ hc e _ => ⟨o.slots, k b o hc e⟩) (fun b o _ e n => ?_)
    (fun b o hc e => ⟨o, k b o hc e⟩) (fun b xs e => ?_) (fun b o u e => ?_) (fun b ps e => ⟨#[], ?_⟩) (fun m hm => ?_) (fun b u e => ?_) I.bare
  · obtain ⟨f0, f1, f2, f3, f4, f5⟩ := f b hb
    exact ⟨f3, f1, f4, f5⟩
  · rw [upd_ne (Nat.ne_of_lt (Nat.lt_of_lt_of_le (Heap.lt_size e) hp))]; exact n
  · rw [upd_ne (na _ _ e)]; exact e
  · rw [upd_ne (na _ _ e)]; exact e
  · rw [upd_ne (na _ _ e), e]; simp
  · obtain ⟨o, es, ep, ho, r⟩ := hm
    exact ⟨o, es, ep, k _ o (fun z => (f _ z).2.1 rfl) ho, r⟩
  · by_cases z : b = a
    · subst z
      rw [upd_same] at e
      cases e
      exact new
    · rw [upd_ne z] at e
      refine (I.hok b u e).stay (fun c v hc q => k c v ?_ q) (fun _ q => ?_) fun _ _ q => ?_
      · rcases hc with z | z
        · rw [z]; exact nit b u e
        · exact nit c _ z
      · first | exact q | (rw [upd_ne (na _ _ q)]; exact q)
      · first | exact q | (rw [upd_ne (na _ _ q)]; exact q)
end
section
variable {X : Cx}
theorem call_int_text : CallR X (.type "int") (fun xs H Q => ∃ (x : Str) (n : Int), xs = [.str x] ∧ PySem.intText? x = some n ∧ x.length ≤ 640 ∧ Q (.int n) H) := by
  intro pins s σ H xs us Q I r h
  obtain ⟨x, n, rfl, hn, hl, q⟩ := h
  obtain ⟨u, rfl, t, rfl⟩ := vals1 r
  exact PySem.W.KIN.call_text hn hl ⟨.int n, H, I.tok _, ⟨_, rfl⟩, q⟩
theorem vals_strs : ∀ {ys : List Str} {us : List Value}, Vals (ys.map V.str) us → ∃ l : List (Str × Tok), us = strValues l ∧ l.map (·.1) = ys
  | [], _, .nil => ⟨[], rfl, rfl⟩
  | y :: ys, _, .cons r t => by
    obtain ⟨tk, rfl⟩ := r
    obtain ⟨l, rfl, e⟩ := vals_strs t
    exact ⟨(y, tk) :: l, rfl, by rw [List.map_cons, e]⟩
theorem strs_vals : ∀ (l : List (Str × Tok)), Vals ((l.map (·.1)).map V.str) (strValues l)
  | [] => .nil
  | p :: l => .cons ⟨p.2, rfl⟩ (strs_vals l)
def rJoin (K : PySem.W.Frag) : V → List V → Hp → VK → Prop := fun x vs H Q => ∃ (sep : Str) (a : Addr) (ys : List Str), x = .str sep ∧ vs = [.ref a] ∧ SqL K H a (ys.map V.str) ∧ JoinOk sep ys = true ∧ Q (.str (Str.join sep ys)) H
theorem mt_join : MtR X "str.join" (rJoin X.K) := by
  intro pins s σ H x vs v us Q I rx rv h
  obtain ⟨sep, a, ys, rfl, rfl, hq, ok, q⟩ := h
  obtain ⟨t, rfl⟩ := rx
  obtain ⟨u, rfl, ru⟩ := vals1 rv
  cases ru
  obtain ⟨its, r, p, _⟩ := I.list hq
  obtain ⟨l, rfl, e⟩ := vals_strs r
  refine SC.join (D := a) (l := l) (texts := ys) p.isList e ok fun t' k => ?_
  rw [show Txt.join sep ys = Str.join sep ys from StrLaws.glued_eq_join sep ys]
  exact ⟨.str _, H, I.tok _, ⟨_, rfl⟩, q⟩
theorem split_exact {prog : Program} {w : World} {A : Around} {E : Value → Shared → Prop} {s : Shared} {x y : Str} {t u : Tok} {Q : Value → Shared → Prop} (hy : (y.length == 0) = false)
    (hq : ∀ l k, l.map (·.1) = Txt.split x y → Q (.ref s.heap.objs.size) { s with toks := k, heap := s.heap.push { cls := .type "list", data := .seq (strValues l).toArray } })
    (hsz : x.length ≤ sizeLine) (hsz2 : (Builtin.Str.partsBetween x (Builtin.Str.occurrences x y 0 x.length (x.length + 1)) y.length).length ≤ sizeLine) :
    wpAny (model prog w) A (call (.builtin "str.split") [.str x t, .str y u]) Q E s := by
  cases h1 : (decide (x.length < y.length) || decide (Builtin.Str.strKind x < Builtin.Str.strKind y))
  · cases hf : (Builtin.Str.occurrences x y 0 x.length (x.length + 1)).isEmpty
    · refine call_meets F.slot_str_split (typeIs_str _ _ _) F.entry_str_split (F.args_str_split_2 _ _) (meets_str_split_sep x y t u h1 hy hf hsz hsz2) ?_
      show wants Q E _ { s with toks := _, heap := s.heap.push { cls := .type "list", data := .seq (strsFrom s.toks (Builtin.Str.partsBetween x (Builtin.Str.occurrences x y 0 x.length (x.length + 1)) y.length)).toArray } }
      rw [strsFrom_eq]
      exact hq (numbered s.toks _) _ ((numbered_texts _ _).trans ((if_neg (ne_true_of_eq_false h1)).trans (if_neg (ne_true_of_eq_false hf))).symm)
    · exact call_meets F.slot_str_split (typeIs_str _ _ _) F.entry_str_split (F.args_str_split_2 _ _) (meets_str_split_not_found x y t u h1 hy hf)
        (hq [(x, t)] s.toks ((if_neg (ne_true_of_eq_false h1)).trans (if_pos hf)).symm)
  · exact call_meets F.slot_str_split (typeIs_str _ _ _) F.entry_str_split (F.args_str_split_2 _ _) (meets_str_split_cannot_occur x y t u h1)
      (hq [(x, t)] s.toks (if_pos h1).symm)
def rSplit : V → List V → Hp → VK → Prop := fun x vs H Q => ∃ (z y : Str), x = .str z ∧ vs = [.str y] ∧ (y.length == 0) = false ∧ z.length + 2 ≤ sizeLine ∧ (Txt.split z y).length ≤ sizeLine ∧ ∀ l, H l = none → Q (.ref l) (upd H l (.lst ((Txt.split z y).map V.str)))
theorem split_len (x y : Str) : (Builtin.Str.partsBetween x (Builtin.Str.occurrences x y 0 x.length (x.length + 1)) y.length).length ≤ x.length + 2 := by
  have e1 := StrLaws.occ_length_le x y 0 x.length (x.length + 1)
  rw [length_partsBetween]; omega
theorem mt_split : MtR X "str.split" rSplit := by
  intro pins s σ H x vs v us Q I rx rv h
  obtain ⟨z, y, rfl, rfl, hy, hz, hn, q⟩ := h
  obtain ⟨t, rfl⟩ := rx
  obtain ⟨u, rfl, ru⟩ := vals1 rv
  obtain ⟨t', rfl⟩ := ru
  refine split_exact hy (fun l k e => ?_) (by omega) (Nat.le_trans (split_len z y) hz)
  refine ⟨.ref s.heap.objs.size, _, I.laid (t' := k) (fun b u e => Heap.get?_push_of_some _ e) (Nat.le_refl _) ?_, rfl, q _ (I.hok.fresh (Nat.le_refl _))⟩
  exact ⟨by rw [List.length_map]; exact hn, strValues l, 0, by rw [← e]; exact strs_vals l, Heap.get?_push_size _ rfl⟩
def rStarts : V → List V → Hp → VK → Prop := fun x vs H Q => ∃ (z y : Str), x = .str z ∧ vs = [.str y] ∧ Q (.bl (Txt.startswith z y)) H
theorem mt_starts : MtR X "str.startswith" rStarts := by
  intro pins s σ H x vs v us Q I rx rv h
  obtain ⟨z, y, rfl, rfl, q⟩ := h
  obtain ⟨t, rfl⟩ := rx
  obtain ⟨u, rfl, ru⟩ := vals1 rv
  obtain ⟨t', rfl⟩ := ru
  exact SC.startswith ⟨.bl _, H, I, rfl, q⟩
def Its (x : Str) : It := ⟨fun i _ => i < x.cps.size, fun i H v H' => H' = H ∧ ∃ c, x.cps[i]? = some c ∧ v = .str ⟨#[c]⟩, fun i _ => x.cps.size ≤ i⟩
theorem turn_str {P : Program} {w : World} {K : PySem.W.Frag} {tg : Expr} {it : Addr} {x : Str} {t : Tok} {ty : String}
    (W : ∀ A' : Around, A'.handled = none → Walks P w A' it [it] [it] x.cps.size (SignAt x) (fun i h => h.IsStrIter it ty x t i))
    (hty : ["enumerate", "zip", "dict_itemiterator", "dict_reverseitemiterator", "odict_iterator", "itertools.zip_longest", "itertools.pairwise"].contains ty = false)
    (S : ∀ (A : Around) (i : Nat) (s : Shared) (Q : Value → Shared → Prop) (E : Value → Shared → Prop), s.heap.IsStrIter it ty x t i → Q (.ref it) s → wpAny (model P w) A (pyIter (.ref it)) Q E s) :
    Turn P w K tg (Its x) [it] it (fun i h => i ≤ x.cps.size ∧ h.IsStrIter it ty x t i) where
  mem := by simp
  obj := fun i h st b hb => by
    have e : b = it := by simpa using hb
    subst e
    obtain ⟨_, o, e, c, d⟩ := st
    exact ⟨o, e, fun v z => by rw [d] at z; cases z⟩
  keep := fun i h h' st k => ⟨st.1, let ⟨o, ho, r⟩ := st.2; ⟨o, k it (by simp) o ho, r⟩⟩
  item := by
    intro X hP hw hK hc i pins s σ H E I hf st hg
    subst hP hw hK
    refine (W X.A (I.ok.hd hc)).item i s _ _ hg st.2 fun v h' tk hv st' kk => ?_
    obtain ⟨c, u, hx, rfl⟩ := hv
    have I1 : Inv X pins σ H { s with heap := h', toks := tk } := I.turnedL (fun b o hb e => kk b o hb e) hf
    obtain ⟨o, e, cl, d⟩ := id st'
    exact ⟨_, rfl, go_of (s := { s with heap := h', toks := tk }) e cl d hty ⟨.str ⟨#[c]⟩, H, I1, ⟨u, rfl⟩, ⟨rfl, c, hx, rfl⟩, ⟨hg, st'⟩, fun b hb => (hf b hb).1⟩⟩
  done := by
    intro X hP hw hK hc i pins s σ H E I hf st hg
    subst hP hw hK
    have e : i = x.cps.size := Nat.le_antisymm st.1 hg
    subst e
    exact (W X.A (I.ok.hd hc)).done s _ _ st.2 fun h' tk kk => ⟨rfl, I.turnedL (fun b o hb e => kk b o hb e) hf⟩
  self := fun A i s Q E st h => S A i s Q E st.2 h
def iStr (tl : TE) : TI := fun σ H R => tl σ H fun x H1 => ∃ z, x = .str z ∧ R (Its z) H1
theorem pi_str {tg l : Expr} {tl : TE} (hl : PE X l tl) : PI X tg l (iStr tl) := by
  intro pins s σ H R I h
  refine thn (hl pins s σ H _ I h) fun v s1 ⟨x, H1, I1, r1, q1⟩ => ?_
  obtain ⟨z, rfl, q⟩ := q1
  obtain ⟨t, rfl⟩ := r1
  have fp : ∀ b ∈ [s1.heap.objs.size], FpOk X pins H1 b := fun b hb => by
    have e : b = s1.heap.objs.size := by simpa using hb
    subst e
    exact I1.fpOk (Nat.le_refl _) (I1.hok.fresh (Nat.le_refl _))
  cases ha : z.cps.all (· < 128)
  · refine wpAny_pyIter_wide ha ?_
    exact ⟨s1.heap.objs.size, [s1.heap.objs.size], _, Its z, H1, rfl, I1.kept (t' := s1.toks) fun b o e => Heap.get?_push_of_some _ e, turn_str (t := t) (fun A' hA => Walks.strWide hA _ z t) (by decide) (fun _ _ _ _ _ st hQ => wpAny_pyIter_striter_wide st hQ), ⟨Nat.zero_le _, _, Heap.get?_push_size _ rfl, rfl, rfl⟩, fp, q⟩
  · refine wpAny_pyIter_ascii ha ?_
    exact ⟨s1.heap.objs.size, [s1.heap.objs.size], _, Its z, H1, rfl, I1.kept (t' := s1.toks) fun b o e => Heap.get?_push_of_some _ e, turn_str (t := t) (fun A' hA => Walks.strAscii hA _ z t) (by decide) (fun _ _ _ _ _ st hQ => wpAny_pyIter_striter_ascii st hQ), ⟨Nat.zero_le _, _, Heap.get?_push_size _ rfl, rfl, rfl⟩, fp, q⟩
theorem comp_str {x : Str} {B : V → List V → Hp → (List V → Hp → Prop) → Prop} {Z : Addr → List V → Hp → Prop} {H : Hp} (Pv : Nat → List V → Hp → Prop) (h0 : Pv 0 [] H)
    (hs : ∀ i c ys H, x.cps[i]? = some c → Pv i ys H → B (.str ⟨#[c]⟩) ys H (Pv (i + 1))) (hd : ∀ ys H, Pv x.cps.size ys H → ∀ D, H D = none → Z D ys H) :
    ∃ W : Nat → Nat → List V → Hp → Prop, (∃ m, W 0 m [] H) ∧ ∀ i m ys H, W i m ys H →
      ((Its x).stop i H ∧ ∀ D, H D = none → Z D ys H) ∨
      ((Its x).go i H ∧ ∃ N : List V → Hp → Prop, (∀ ys' H', N ys' H' → ∃ m', m' < m ∧ W (i + 1) m' ys' H') ∧ ∀ v H', (Its x).yld i H v H' → B v ys H' N) := by
  refine ⟨fun i m ys H => m = x.cps.size - i ∧ i ≤ x.cps.size ∧ Pv i ys H, ⟨x.cps.size, by simp, Nat.zero_le _, h0⟩, ?_⟩
  rintro i m ys H ⟨rfl, hi, p⟩
  by_cases hlt : i < x.cps.size
  · refine .inr ⟨hlt, Pv (i + 1), fun ys' H' p' => ⟨x.cps.size - (i + 1), by omega, rfl, hlt, p'⟩, fun v H' y => ?_⟩
    obtain ⟨e, c, hc, rfl⟩ := y
    subst e
    exact hs i c ys H' hc p
  · have e : i = x.cps.size := by omega
    subst e
    exact .inl ⟨Nat.le_refl _, hd ys H p⟩
def Ite (K : PySem.W.Frag) (a : Addr) : It :=
  ⟨fun i H => ∃ xs x, SqL K H a xs ∧ xs[i]? = some x, fun i H v H' => ∃ T x, H T = none ∧ v = .ref T ∧ H' = upd H T (.tup [.int (i : Nat), x]) ∧ ∀ xs, SqL K H a xs → xs[i]? = some x, fun i H => ∃ xs, SqL K H a xs ∧ xs.length ≤ i⟩
theorem turn_enum {P : Program} {w : World} {K : PySem.W.Frag} {es : List Expr} {k : Nat} {tp : Pos} (a e it : Addr) (hne : e ≠ it) : Turn P w K (.Tuple es k tp) (Ite K a) [e, it] e (fun i h => (∃ old, IsEnum h e it ((i : Nat) : Int) old) ∧ h.IsListIter it a i) where
  mem := by simp
  obj := fun i h st b hb => by
    obtain ⟨⟨old, he⟩, o, ho, c, d⟩ := st
    rcases List.mem_cons.mp hb with rfl | hb
    · exact ⟨_, he, fun v z => by cases z⟩
    · have q : b = it := by simpa using hb
      subst q
      exact ⟨o, ho, fun v z => by rw [d] at z; cases z⟩
  keep := fun i h h' st k => by
    obtain ⟨⟨old, he⟩, hit⟩ := st
    exact ⟨⟨old, k e (by simp) _ he⟩, hit.at fun o q => k it (by simp) o q⟩
  item := by
    intro X hP hw hK hc i pins s σ H E I hf st hg
    subst hP hw hK
    obtain ⟨⟨old, he⟩, hit⟩ := st
    obtain ⟨xs, x, hq, hx⟩ := hg
    obtain ⟨its, rv, p, hz⟩ := I.list hq
    obtain ⟨u, hu, ru⟩ := rv.get hx
    refine wpAny_pyNext_enum_item he hit p.isList (x := u) (by simpa using hu) hne fun h1 heo hit1 ht1 hz1 hk1 => ?_
    refine ⟨_, rfl, wpAny_letOwnedTupleGo_enum heo fun h2 he2 hs2 => ?_⟩
    have hel : e < s.heap.objs.size := Heap.lt_size he
    have hT : H s.heap.objs.size = none := I.hok.fresh (Nat.le_refl _)
    have kk : ∀ b o, b ∉ [e, it] → s.heap.get? b = some o → h2.get? b = some o := fun b o hb q => by
      have nb : b ≠ e := fun z => hb (by simp [z])
      have ni : b ≠ it := fun z => hb (by simp [z])
      exact (hs2.2 b nb).trans (hk1 b o nb ni q)
    have gT : h2.get? s.heap.objs.size = some { cls := .type "tuple", data := .seq #[.int i s.toks, u] } := (hs2.2 _ (Nat.ne_of_gt hel)).trans ht1
    -- the heap ahead of the tuple
    have I1 : Inv X pins σ (upd H s.heap.objs.size (.tup [.int (i : Nat), x])) { s with heap := h2, toks := s.toks + 1 } := I.laidL kk hf (Nat.le_refl _) ⟨by show 2 ≤ sizeLine; decide, [.int i s.toks, u], .cons ⟨_, rfl⟩ (.cons ru .nil), ⟨_, gT, rfl, _, rfl⟩⟩
    refine ⟨.ref s.heap.objs.size, _, I1, rfl, ⟨s.heap.objs.size, x, hT, rfl, rfl, fun ys hy => by rw [I.list_inj hy hq]; exact hx⟩, ⟨⟨u, ?_⟩, hit1.extBut hs2.extBut (Ne.symm hne)⟩, fun b hb => ?_⟩
    · have : ((i + 1 : Nat) : Int) = (i : Int) + 1 := by push_cast; rfl
      rw [this]; exact he2
    · have nb : b ≠ s.heap.objs.size := by
        rcases List.mem_cons.mp hb with rfl | hb
        · exact Nat.ne_of_lt hel
        · have q : b = it := by simpa using hb
          subst q
          obtain ⟨o, ho, _⟩ := hit
          exact Nat.ne_of_lt (Heap.lt_size ho)
      rw [upd_ne nb]
      exact (hf b hb).1
  done := by
    intro X hP hw hK hc i pins s σ H E I hf st hg
    subst hP hw hK
    obtain ⟨⟨old, he⟩, hit⟩ := st
    obtain ⟨xs, hq, hx⟩ := hg
    obtain ⟨its, rv, p, hz⟩ := I.list hq
    have hl := rv.length
    exact wpAny_pyNext_enum_end (I.ok.hd hc) he hit p.isList (by simp; omega) fun h' eb => ⟨rfl, I.turnedL (ch := [e, it]) (t' := s.toks) (fun b o hb q => eb b o (fun z => hb (by simp [z])) q) hf⟩
  self := fun _ _ _ _ _ st h => let ⟨_, he⟩ := st.1; wpAny_pyIter_enum he h
def iEnum (K : PySem.W.Frag) (ta : TA) : TI := fun σ H R => ta σ H fun vs H1 => ∃ a, vs = [.ref a] ∧ (∃ xs, SqL K H1 a xs) ∧ R (Ite K a) H1
theorem boot_enum : bootBuiltins "enumerate" = some (.type "enumerate") := by decide +kernel
theorem pi_enum {es : List Expr} {k : Nat} {tp : Pos} {e : Expr} {ta : TA} {p pos : Pos} (hg : Gl X "enumerate") (hm : X.mg "enumerate" = none) (ha : PA X [e] ta) (hs : starEach [e] X.env = (false, eval e X.env) :: starEach [] X.env := by rfl)
    (hpl : (backTo pos (starEach [] X.env)).any (·.1) = false := by rfl) : PI X (.Tuple es k tp) (.Call (.Name "enumerate" p) [e] [] pos) (iEnum X.K ta) := by
  intro pins s σ H R I h
  refine wpAny_Call_Name_kw (ld_blt I hg hm boot_enum ?_ (by decide) (by decide))
  refine PyProof.Rows.callWith_type1 (thn (ha pos pins s σ H _ I h) fun us s1 ⟨vs, H1, I1, r1, a, e1, ⟨xs, hq⟩, q⟩ => ?_) hs hpl
  subst e1
  obtain ⟨u, rfl, ru⟩ := vals1 r1
  cases ru
  obtain ⟨its, rv, pl, hz⟩ := I1.list hq
  refine call_enumerate_list pl.isList fun h' he hit hsz kp => wpAny_pyIter_enum he ?_
  have I2 : Inv X pins σ H1 { s1 with heap := h' } := I1.kept (t' := s1.toks) kp
  refine ⟨s1.heap.objs.size + 1, [s1.heap.objs.size + 1, s1.heap.objs.size], _, Ite X.K a, H1, rfl, I2, turn_enum a _ _ (Nat.succ_ne_self _), ⟨⟨_, he⟩, hit⟩, fun b hb => ?_, q⟩
  have hb' : s1.heap.objs.size ≤ b := by
    rcases List.mem_cons.mp hb with rfl | hb
    · exact Nat.le_succ _
    · have z : b = s1.heap.objs.size := by simpa using hb
      rw [z]; exact Nat.le_refl _
  have f := I1.fpOk (H' := H1) hb' (I1.hok.fresh hb')
  exact f
theorem for_enum {K : PySem.W.Frag} {a : Addr} {xs : List V} {g : TG} {tb : TS} {D : Ends} {σ : St} {H : Hp} (Pv : Nat → St → Hp → Prop) (h0 : Pv 0 σ H) (hl : ∀ i σ H, i ≤ xs.length → Pv i σ H → SqL K H a xs)
    (hs : ∀ i x σ H T, xs[i]? = some x → Pv i σ H → H T = none → g (.ref T) σ (upd H T (.tup [.int (i : Nat), x])) fun σ2 H2 => tb { D with nx := Pv (i + 1), ct := Pv (i + 1), bk := D.nx } σ2 H2) (hd : ∀ σ H, Pv xs.length σ H → D.nx σ H) :
    ∃ W : Nat → Nat → St → Hp → Prop, (∃ m, W 0 m σ H) ∧ ∀ i m σ H, W i m σ H →
      ((Ite K a).stop i H ∧ D.nx σ H) ∨ ((Ite K a).go i H ∧ ∃ N : St → Hp → Prop, (∀ σ' H', N σ' H' → ∃ m', m' < m ∧ W (i + 1) m' σ' H') ∧ ∀ x H', (Ite K a).yld i H x H' → g x σ H' fun σ2 H2 => tb { D with nx := N, ct := N, bk := D.nx } σ2 H2) := by
  refine ⟨fun i m σ H => m = xs.length - i ∧ i ≤ xs.length ∧ Pv i σ H, ⟨xs.length, by simp, Nat.zero_le _, h0⟩, ?_⟩
  rintro i m σ H ⟨rfl, hi, p⟩
  have q := hl i σ H hi p
  by_cases hlt : i < xs.length
  · refine .inr ⟨⟨xs, xs[i], q, by simp [hlt]⟩, Pv (i + 1), fun σ' H' p' => ⟨xs.length - (i + 1), by omega, rfl, hlt, p'⟩, fun v H' y => ?_⟩
    obtain ⟨T, x, hT, rfl, rfl, hx⟩ := y
    exact hs i x σ H T (hx xs q) p hT
  · have e : i = xs.length := by omega
    subst e
    exact .inl ⟨⟨xs, q, Nat.le_refl _⟩, hd σ H p⟩
end
end L2

set_option Elab.async false
set_option linter.all false
set_option maxRecDepth 100000
set_option maxHeartbeats 4000000
namespace L2
open PySem PySem.Spec PyProof.Rows Builtin.Str
theorem strExt {a b : Str} (h : a.cps = b.cps) : a = b := by
  cases a; cases b; exact congrArg Str.mk h
theorem strApp (a b : Str) : (a ++ b).cps = a.cps ++ b.cps := rfl
def cutAt (c : Nat) : List Nat → List (List Nat)
  | [] => [[]]
  | d :: r => if d = c then [] :: cutAt c r else match cutAt c r with
    | [] => [[d]]
    | h :: t => (d :: h) :: t
theorem cutAt_ne (c : Nat) (l : List Nat) : ∃ h t, cutAt c l = h :: t := by
  cases l with
  | nil => exact ⟨_, _, rfl⟩
  | cons d r =>
    unfold cutAt
    split
    · exact ⟨_, _, rfl⟩
    · split <;> exact ⟨_, _, rfl⟩
theorem cutAt_app (c : Nat) : ∀ (w r : List Nat), c ∉ w → cutAt c (w ++ c :: r) = w :: cutAt c r
  | [], r, _ => by
    show cutAt c (c :: r) = _
    rw [cutAt, if_pos rfl]
  | d :: w, r, h => by
    have nd : d ≠ c := fun z => h (z ▸ List.mem_cons_self ..)
    show cutAt c (d :: (w ++ c :: r)) = _
    rw [cutAt, if_neg nd, cutAt_app c w r fun z => h (List.mem_cons_of_mem _ z)]
theorem cutAt_no (c : Nat) : ∀ (w : List Nat), c ∉ w → cutAt c w = [w]
  | [], _ => rfl
  | d :: w, h => by
    have nd : d ≠ c := fun z => h (z ▸ List.mem_cons_self ..)
    rw [cutAt, if_neg nd, cutAt_no c w fun z => h (List.mem_cons_of_mem _ z)]
theorem occ_all (x : Str) (c : Nat) : occurrences x ⟨#[c]⟩ 0 x.length (x.length + 1) = (List.range' 0 (x.length + 1)).filter (fun i => x.cps.toList[i]? == some c) := by
  rw [StrLaws.occ_eq]
  have key : ∀ (m a : Nat) (arr : Array Nat) (free : Nat), a + m = x.length + 1 → free ≤ a → arr.size ≤ a →
      (forIn (m := Id) (List.range' a m) (arr, free) (StrLaws.occBody x ⟨#[c]⟩ x.length (x.length + 1))).run.fst.toList = arr.toList ++ (List.range' a m).filter (fun i => x.cps.toList[i]? == some c) := by
    intro m
    induction m with
    | zero => intro a arr free _ _ _; simp
    | succ m ih =>
      intro a arr free h1 h2 h3
      rw [List.range'_succ, List.forIn_cons]
      by_cases hc : x.cps.toList[a]? = some c
      · have hs := (StrLaws.subAt_one x c a).mpr hc
        have hcond : ((arr.size < x.length + 1 ∧ free ≤ a) ∧ a + (⟨#[c]⟩ : Str).length ≤ x.length) ∧ subAt x ⟨#[c]⟩ a = true := ⟨⟨⟨by omega, h2⟩, hs.1⟩, hs.2⟩
        simp only [StrLaws.occBody, if_pos hcond]
        have e := ih (a + 1) (arr.push a) (a + 1) (by omega) (Nat.le_refl _) (by rw [Array.size_push]; omega)
        have e' : (List.filter (fun i => x.cps.toList[i]? == some c) (a :: List.range' (a + 1) m)) = a :: List.filter (fun i => x.cps.toList[i]? == some c) (List.range' (a + 1) m) := by
          rw [List.filter_cons, if_pos (by rw [hc]; exact beq_self_eq_true _)]
        rw [e']
        have e2 : arr.toList ++ a :: List.filter (fun i => x.cps.toList[i]? == some c) (List.range' (a + 1) m) = (arr.push a).toList ++ List.filter (fun i => x.cps.toList[i]? == some c) (List.range' (a + 1) m) := by simp
        rw [e2, ← e]
        rfl
      · have hcond : ¬ (((arr.size < x.length + 1 ∧ free ≤ a) ∧ a + (⟨#[c]⟩ : Str).length ≤ x.length) ∧ subAt x ⟨#[c]⟩ a = true) := fun z => hc ((StrLaws.subAt_one x c a).mp ⟨z.1.2, z.2⟩)
        simp only [StrLaws.occBody, if_neg hcond]
        have e := ih (a + 1) arr free (by omega) (by omega) (by omega)
        have e' : (List.filter (fun i => x.cps.toList[i]? == some c) (a :: List.range' (a + 1) m)) = List.filter (fun i => x.cps.toList[i]? == some c) (List.range' (a + 1) m) := by
          rw [List.filter_cons, if_neg (by simpa using hc)]
        rw [e', ← e]
        rfl
  have := key (x.length + 1) 0 #[] 0 (by omega) (Nat.le_refl _) (by simp)
  simpa using this
theorem split_parts (x y : Str) : Txt.split x y = partsBetween x (occurrences x y 0 x.length (x.length + 1)) y.length := by
  unfold Txt.split
  split
  · rename_i h
    rw [PySem.W.occ_nil_of_no x y _ fun i hi => ?_, PySem.W.parts_nil]
    rcases Bool.or_eq_true_iff.mp h with h | h
    · have := of_decide_eq_true h; omega
    · cases e : subAt x y i
      · rfl
      · have := PySem.W.kind_le x y e; have := of_decide_eq_true h; omega
  · split
    · rename_i h; rw [List.isEmpty_iff.mp h, PySem.W.parts_nil]
    · rfl
theorem sub_list (x : Str) (i j : Nat) : strSub x i j = ⟨((x.cps.toList.drop i).take (j - i)).toArray⟩ := strExt (by
  have := StrLaws.strSub_toList x i j
  rw [← this])
theorem sub_cons (x : Str) {a k d : Nat} (h : a < k) (hd : x.cps.toList[a]? = some d) : strSub x a k = ⟨(d :: (strSub x (a + 1) k).cps.toList).toArray⟩ := by
  rw [sub_list, sub_list]
  have e1 : x.cps.toList.drop a = d :: x.cps.toList.drop (a + 1) := by
    obtain ⟨h1, h2⟩ := List.getElem?_eq_some_iff.mp hd
    rw [← h2]; exact List.drop_eq_getElem_cons h1
  rw [e1, show k - a = (k - (a + 1)) + 1 by omega, List.take_succ_cons]
theorem parts_cons (x : Str) {a d : Nat} (hd : x.cps.toList[a]? = some d) (ha : a < x.length) : ∀ (cuts : List Nat), (∀ k ∈ cuts, a < k) → ∃ h t, StrLaws.partsFrom x 1 (a + 1) cuts = h :: t ∧ StrLaws.partsFrom x 1 a cuts = ⟨(d :: h.cps.toList).toArray⟩ :: t
  | [], _ => ⟨_, [], rfl, by
      show [strSub x a x.length] = _
      rw [sub_cons x ha hd]⟩
  | k :: r, h => ⟨_, _, rfl, by
      show strSub x a k :: _ = _
      rw [sub_cons x (h k (List.mem_cons_self ..)) hd]⟩
theorem parts_cut (x : Str) (c : Nat) : ∀ (m a : Nat), a + m = x.length → StrLaws.partsFrom x 1 a ((List.range' a (m + 1)).filter (fun i => x.cps.toList[i]? == some c)) = (cutAt c (x.cps.toList.drop a)).map fun l => (⟨l.toArray⟩ : Str) := by
  have hlen : x.cps.toList.length = x.length := Array.length_toList
  intro m
  induction m with
  | zero =>
    intro a ha
    have e0 : x.cps.toList[a]? = none := List.getElem?_eq_none (by omega)
    have e1 : x.cps.toList.drop a = [] := List.drop_eq_nil_of_le (by omega)
    have e2 : (List.range' a (0 + 1)).filter (fun i => x.cps.toList[i]? == some c) = [] := by
      rw [List.range'_succ, List.filter_cons, e0]
      rfl
    rw [e2, e1]
    show [strSub x a x.length] = [(⟨[].toArray⟩ : Str)]
    rw [sub_list, e1, List.take_nil]
  | succ m ih =>
    intro a ha
    have hlt : a < x.cps.toList.length := by omega
    obtain ⟨d, hd⟩ : ∃ d, x.cps.toList[a]? = some d := ⟨_, List.getElem?_eq_getElem hlt⟩
    have e1 : x.cps.toList.drop a = d :: x.cps.toList.drop (a + 1) := by
      obtain ⟨h1, h2⟩ := List.getElem?_eq_some_iff.mp hd
      rw [← h2]; exact List.drop_eq_getElem_cons h1
    have ih' := ih (a + 1) (by omega)
    rw [e1, List.range'_succ]
    by_cases hc : d = c
    · subst hc
      rw [List.filter_cons, if_pos (by rw [hd]; exact beq_self_eq_true _), cutAt, if_pos rfl]
      show strSub x a a :: StrLaws.partsFrom x 1 (a + 1) _ = _
      rw [ih', sub_list, Nat.sub_self, List.take_zero]
      rfl
    · rw [List.filter_cons, if_neg (by rw [hd]; simpa using hc), cutAt, if_neg hc]
      obtain ⟨h, t, q1, q2⟩ := parts_cons x hd (by omega) ((List.range' (a + 1) (m + 1)).filter (fun i => x.cps.toList[i]? == some c)) fun k hk => by
        have := (List.mem_range'_1.mp (List.mem_filter.mp hk).1).1
        omega
      rw [q2]
      rw [q1] at ih'
      obtain ⟨h', t', q3⟩ := cutAt_ne c (x.cps.toList.drop (a + 1))
      rw [q3] at ih' ⊢
      rw [List.map_cons] at ih'
      injection ih' with i1 i2
      rw [i1, i2]
      rfl
theorem split_cut (x : Str) (c : Nat) : Txt.split x ⟨#[c]⟩ = (cutAt c x.cps.toList).map fun l => (⟨l.toArray⟩ : Str) := by
  rw [split_parts, StrLaws.partsBetween_eq, occ_all]
  have := parts_cut x c x.length 0 (by omega)
  rw [List.drop_zero] at this
  exact this
theorem cut_join (c : Nat) : ∀ (w : Str) (ws : List Str), (∀ y ∈ w :: ws, c ∉ y.cps.toList) → cutAt c (Str.join ⟨#[c]⟩ (w :: ws)).cps.toList = (w :: ws).map fun y => y.cps.toList
  | w, [], h => by
    show cutAt c w.cps.toList = [w.cps.toList]
    exact cutAt_no c _ (h w (List.mem_cons_self ..))
  | w, v :: ws, h => by
    have e : (Str.join ⟨#[c]⟩ (w :: v :: ws)).cps.toList = w.cps.toList ++ c :: (Str.join ⟨#[c]⟩ (v :: ws)).cps.toList := by
      show (w ++ ⟨#[c]⟩ ++ Str.join ⟨#[c]⟩ (v :: ws)).cps.toList = _
      rw [strApp, strApp, Array.toList_append, Array.toList_append]
      simp
    rw [e, cutAt_app c _ _ (h w (List.mem_cons_self ..)), cut_join c v ws fun y hy => h y (List.mem_cons_of_mem _ hy)]
    rfl
theorem split_join {c : Nat} {ws : List Str} (ne : ws ≠ []) (h : ∀ y ∈ ws, c ∉ y.cps.toList) : Txt.split (Str.join ⟨#[c]⟩ ws) ⟨#[c]⟩ = ws := by
  cases ws with
  | nil => exact absurd rfl ne
  | cons w ws =>
    rw [split_cut, cut_join c w ws h, List.map_map]
    conv => rhs; rw [← List.map_id (w :: ws)]
    exact List.map_congr_left fun y _ => strExt (by simp)
theorem join_mem {c d : Nat} : ∀ {ws : List Str}, (∀ y ∈ ws, d ∉ y.cps.toList) → d ≠ c → d ∉ (Str.join ⟨#[c]⟩ ws).cps.toList
  | [], _, _ => by
    show d ∉ ((#[] : Array Nat)).toList
    simp
  | [w], h, _ => h w (List.mem_cons_self ..)
  | w :: v :: ws, h, n => by
    have ih := join_mem (ws := v :: ws) (fun y hy => h y (List.mem_cons_of_mem _ hy)) n
    show d ∉ (w ++ ⟨#[c]⟩ ++ Str.join ⟨#[c]⟩ (v :: ws)).cps.toList
    rw [strApp, strApp, Array.toList_append, Array.toList_append]
    have h1 := h w (List.mem_cons_self ..)
    simp only [List.mem_append, not_or]
    exact ⟨⟨h1, by simpa using n⟩, ih⟩
theorem joinOk {sep : Str} {ws : List Str} {B : Nat} (h : ∀ y ∈ ws, y.length ≤ B) (hs : sep.length = 1) (hz : ws.length * B + ws.length ≤ 1000000) : JoinOk sep ws = true := by
  unfold JoinOk
  rw [Bool.not_eq_true']
  exact StrLaws.joinFits h (by rw [hs]; omega)
theorem join_len {sep : Str} {ws : List Str} {B : Nat} (h : ∀ y ∈ ws, y.length ≤ B) (hs : sep.length = 1) : (Str.join sep ws).length ≤ ws.length * B + ws.length := by
  have h1 := StrLaws.join_length_le sep ws
  have h2 := StrLaws.sumLen_le ws h
  rw [hs] at h1
  omega
open PySem.W.KIN PySem.NumText in
theorem head_dig (m : Nat) : 0 < m → ∀ ch, (Nat.toDigits 10 m)[0]? = some ch → ch ≠ '0' := by
  induction m using Nat.strongRecOn with
  | _ m ih =>
    intro hp ch hc
    by_cases h : m < 10
    · rw [Nat.toDigits_of_lt_base h] at hc
      have e : Nat.digitChar m = ch := Option.some.inj hc
      subst e
      have : ∀ d : Nat, d < 10 → 0 < d → Nat.digitChar d ≠ '0' := by decide
      exact this m h hp
    · have hm : m % 10 < 10 := Nat.mod_lt m (by decide)
      have t : Nat.toDigits 10 (m / 10) ++ Nat.toDigits 10 (m % 10) = Nat.toDigits 10 (10 * (m / 10) + m % 10) := Nat.toDigits_append_toDigits (by decide) (by omega) hm
      rw [Nat.div_add_mod] at t
      rw [← t] at hc
      have hl := toDigits_len_ge 10 (m / 10)
      rw [List.getElem?_append_left (by omega)] at hc
      exact ih (m / 10) (by omega) (by omega) ch hc
def numW (n : Int) : Str := Str.ofString (toString n)
theorem numW_list (m : Nat) : (numW (m : Int)).cps.toList = (Nat.toDigits 10 m).map Char.toNat := PySem.W.KIN.signs_num m
theorem numW_dig {m : Nat} : ∀ c ∈ (numW (m : Int)).cps.toList, 48 ≤ c ∧ c ≤ 57 := by
  intro c hc
  rw [numW_list] at hc
  obtain ⟨ch, hch, e⟩ := List.mem_map.mp hc
  have r := digit_range (Nat.isDigit_of_mem_toDigits (by decide) (by decide) hch)
  rw [← e]
  exact r
theorem numW_len {m : Nat} {k : Nat} (hk : 0 < k) (h : (m : Int) < 10 ^ k) : 1 ≤ (numW (m : Int)).length ∧ (numW (m : Int)).length ≤ k := by
  refine ⟨?_, toString_length_le (by omega) hk h⟩
  have hl := toDigits_len_ge 10 m
  have e : (numW (m : Int)).cps.toList.length = (numW (m : Int)).length := Array.length_toList
  rw [numW_list, List.length_map] at e
  omega
theorem numW_reads {m : Nat} (h : (m : Int) < 10 ^ 60) : PySem.intText? (numW (m : Int)) = some (m : Int) := by
  have hl := numW_len (by decide) h
  have hne : (numW (m : Int)).cps.toList ≠ [] := fun z => by
    have e : (numW (m : Int)).cps.toList.length = (numW (m : Int)).length := Array.length_toList
    rw [z] at e
    have := hl.1
    rw [← e] at this
    exact absurd this (by decide)
  have e := PySem.intText_digits (x := numW (m : Int)) numW_dig hne (by omega)
  rw [numW_list, PySem.W.KIN.val_back] at e
  exact e
theorem numW_head {m : Nat} (h : 0 < m) : Txt.startswith (numW (m : Int)) "0" = false := by
  cases e : Txt.startswith (numW (m : Int)) "0" with
  | false => rfl
  | true =>
    exfalso
    unfold Txt.startswith at e
    obtain ⟨e1, e2⟩ := Bool.and_eq_true_iff.mp e
    have z : ("0" : Str) = ⟨#[48]⟩ := by decide +kernel
    rw [z] at e1 e2
    have q := (StrLaws.subAt_one (numW (m : Int)) 48 0).mp ⟨of_decide_eq_true e1, e2⟩
    rw [numW_list, List.getElem?_map] at q
    obtain ⟨ch, hc, he⟩ := Option.map_eq_some_iff.mp q
    have n0 := head_dig m h ch hc
    exact n0 (Char.ext (UInt32.toNat_inj.mp (by simpa using he)))
theorem figures : ("0123456789" : Str).cps.toList = [48, 49, 50, 51, 52, 53, 54, 55, 56, 57] := by decide +kernel
theorem in_fig {c : Nat} (h : 48 ≤ c ∧ c ≤ 57) : (!(occurrences ("0123456789" : Str) ⟨#[c]⟩ 0 ("0123456789" : Str).length 1).isEmpty) = true := by
  rw [StrLaws.found_one, figures, decide_eq_true_eq]
  simp only [List.mem_cons, List.not_mem_nil, or_false]
  omega
def wordOf (n : Int) : Str := if n = 0 then "#" else if n = 1 then "." else numW n
theorem num_of {n : Int} (h0 : 0 ≤ n) (h1 : n ≠ 0) (h2 : n ≠ 1) : ∃ m : Nat, n = (m : Int) ∧ 2 ≤ m := ⟨n.toNat, by omega, by omega⟩
theorem hash_list : ("#" : Str).cps.toList = [35] := by decide +kernel
theorem dot_list : ("." : Str).cps.toList = [46] := by decide +kernel
theorem word_no {n : Int} (h0 : 0 ≤ n) {c : Nat} (hc : c = 10 ∨ c = 32) : c ∉ (wordOf n).cps.toList := by
  unfold wordOf
  split
  · rw [hash_list]; rcases hc with rfl | rfl <;> decide
  · split
    · rw [dot_list]; rcases hc with rfl | rfl <;> decide
    · rename_i h1 h2
      obtain ⟨m, rfl, _⟩ := num_of h0 h1 h2
      intro z
      have := numW_dig c z
      omega
theorem word_len {n : Int} (h0 : 0 ≤ n) (h : n < 10 ^ 60) : (wordOf n).length ≤ 60 := by
  unfold wordOf
  split
  · show (1 : Nat) ≤ 60; decide
  · split
    · show (1 : Nat) ≤ 60; decide
    · obtain ⟨m, rfl⟩ := Int.eq_ofNat_of_zero_le h0
      exact (numW_len (by decide) h).2
theorem numW_hash {m : Nat} (h : (m : Int) < 10 ^ 60) : numW (m : Int) ≠ "#" := fun z => by
  have e := numW_reads h
  rw [z] at e
  have : PySem.intText? ("#" : Str) = none := by decide +kernel
  rw [this] at e
  cases e
theorem numW_dot {m : Nat} (h : (m : Int) < 10 ^ 60) : numW (m : Int) ≠ "." := fun z => by
  have e := numW_reads h
  rw [z] at e
  have : PySem.intText? ("." : Str) = none := by decide +kernel
  rw [this] at e
  cases e
end L2

set_option Elab.async false
set_option linter.all false
set_option maxRecDepth 100000
set_option maxHeartbeats 4000000
namespace L2
open PySem PySem.Spec PyProof.Rows
section
variable {X : Cx} {e se : Expr} {te ts : TE} {pos p2 : Pos}
end
mutual
inductive RdD (H : Hp) : V → PyData → Prop
  | int (n : Int) : RdD H (.int n) (.int n)
  | str (x : Str) : RdD H (.str x) (.str x)
  | bl (b : Bool) : RdD H (.bl b) (.bool b)
  | non : RdD H .non .none
  | lst {a : Addr} {xs : List V} {ds : List PyData} : H a = some (.lst xs) → RdA H xs ds → RdD H (.ref a) (.list ds)
  | tup {a : Addr} {xs : List V} {ds : List PyData} : H a = some (.tup xs) → RdA H xs ds → RdD H (.ref a) (.tuple ds)
inductive RdA (H : Hp) : List V → List PyData → Prop
  | nil : RdA H [] []
  | cons {v : V} {vs : List V} {d : PyData} {ds : List PyData} : RdD H v d → RdA H vs ds → RdA H (v :: vs) (d :: ds)
end
section
variable {X : Cx} {pins : List (Addr × Obj)} {σ : St} {H H' : Hp} {s : Shared}
mutual
theorem RdD.same (e : Same H H') : ∀ {v : V} {d : PyData}, RdD H v d → RdD H' v d
  | _, _, .int n => .int n
  | _, _, .str n => .str n
  | _, _, .bl n => .bl n
  | _, _, .non => .non
  | _, _, .lst h r => .lst (e _ _ h) (RdA.same e r)
  | _, _, .tup h r => .tup (e _ _ h) (RdA.same e r)
theorem RdA.same (e : Same H H') : ∀ {v : List V} {d : List PyData}, RdA H v d → RdA H' v d
  | _, _, .nil => .nil
  | _, _, .cons h r => .cons (RdD.same e h) (RdA.same e r)
end
end
section
variable {prog : Program} {w : World} {A : Around} {E : Value → Shared → Prop} {s : Shared}
end
section
variable {X : Cx}
end
end L2
namespace L2
open PySem PySem.Spec PyProof.Rows
section
variable {X : Cx}
end
theorem depthAll_le {k : Nat} : ∀ {ds : List PyData}, (∀ d ∈ ds, d.depth ≤ k) → PyData.depthAll ds ≤ k
  | [], _ => by simp [PyData.depthAll]
  | d :: ds, h => by
    have h1 := h d (List.mem_cons_self ..)
    have h2 := depthAll_le fun x hx => h x (List.mem_cons_of_mem _ hx)
    simp only [PyData.depthAll]
    exact Nat.max_le.mpr ⟨h1, h2⟩
theorem showAll_of : ∀ {ds : List PyData}, (∀ d ∈ ds, d.showable = true) → PyData.showableAll ds = true
  | [], _ => by simp [PyData.showableAll]
  | d :: ds, h => by
    simp only [PyData.showableAll, h d (List.mem_cons_self ..), showAll_of fun x hx => h x (List.mem_cons_of_mem _ hx), Bool.and_self]
theorem shortAll_of {B : Nat} : ∀ {ds : List PyData}, (∀ d ∈ ds, d.leavesShort B = true) → PyData.leavesShortAll B ds = true
  | [], _ => by simp [PyData.leavesShortAll]
  | d :: ds, h => by
    simp only [PyData.leavesShortAll, h d (List.mem_cons_self ..), shortAll_of fun x hx => h x (List.mem_cons_of_mem _ hx), Bool.and_self]
theorem bulkAll_le {k : Nat} : ∀ {ds : List PyData}, (∀ d ∈ ds, d.bulk ≤ k) → PyData.bulkAll ds ≤ (k + 1) * ds.length
  | [], _ => by simp [PyData.bulkAll]
  | d :: ds, h => by
    have h1 := h d (List.mem_cons_self ..)
    have h2 := bulkAll_le fun x hx => h x (List.mem_cons_of_mem _ hx)
    simp only [PyData.bulkAll, List.length_cons, Nat.mul_succ]
    omega
structure Sh (k b : Nat) (d : PyData) : Prop where
  sh : d.showable = true
  dp : d.depth ≤ k
  bk : d.bulk ≤ b
  sl : d.leavesShort 61 = true
theorem Sh.int {n : Int} (h : n.natAbs < 10 ^ 60) : Sh 0 0 (.int n) where
  sh := by
    simp only [PyData.showable]
    exact decide_eq_true (PySem.Spec.log2_small (Nat.lt_of_lt_of_le h (by decide +kernel)))
  dp := by simp [PyData.depth]
  bk := by simp [PyData.bulk]
  sl := by
    have e := int_text_length_le10 (k := 60) (by decide) h
    simp only [PyData.leavesShort]
    refine decide_eq_true ?_
    show (Str.ofString (toString n)).length ≤ 61
    rw [PySem.ofString_length]; exact e
theorem Sh.list {k b m : Nat} {ds : List PyData} (h : ∀ d ∈ ds, Sh k b d) (hm : ds.length ≤ m) : Sh (k + 1) ((b + 1) * m) (.list ds) where
  sh := by simp only [PyData.showable]; exact showAll_of fun d hd => (h d hd).sh
  dp := by simp only [PyData.depth]; exact Nat.succ_le_succ (depthAll_le fun d hd => (h d hd).dp)
  bk := by simp only [PyData.bulk]; exact Nat.le_trans (bulkAll_le fun d hd => (h d hd).bk) (Nat.mul_le_mul_left _ hm)
  sl := by simp only [PyData.leavesShort]; exact shortAll_of fun d hd => (h d hd).sl
theorem Sh.tuple {k b m : Nat} {ds : List PyData} (h : ∀ d ∈ ds, Sh k b d) (hm : ds.length ≤ m) : Sh (k + 1) ((b + 1) * m) (.tuple ds) where
  sh := by simp only [PyData.showable]; exact showAll_of fun d hd => (h d hd).sh
  dp := by simp only [PyData.depth]; exact Nat.succ_le_succ (depthAll_le fun d hd => (h d hd).dp)
  bk := by simp only [PyData.bulk]; exact Nat.le_trans (bulkAll_le fun d hd => (h d hd).bk) (Nat.mul_le_mul_left _ hm)
  sl := by simp only [PyData.leavesShort]; exact shortAll_of fun d hd => (h d hd).sl
theorem RdA.ints {H : Hp} : ∀ xs : List Int, RdA H (xs.map V.int) (xs.map PyData.int)
  | [] => .nil
  | x :: xs => .cons (.int x) (RdA.ints xs)
def P2 (H : Hp) (p : Addr) : Prop := ∃ n k : Int, H p = some (.lst [.int n, .int k])
theorem P2.same {H H' : Hp} {p : Addr} (h : P2 H p) (b : Same H H') : P2 H' p := by
  obtain ⟨n, k, h⟩ := h
  exact ⟨n, k, b _ _ h⟩
theorem P2.but {H H' : Hp} {p q : Addr} (h : P2 H p) (b : But q H H') (n : p ≠ q) : P2 H' p := by
  obtain ⟨x, k, h⟩ := h
  exact ⟨x, k, b _ _ h n⟩
theorem But.free {p l : Addr} {H H' : Hp} (h : But p H H') (n : H' l = none) (d : l ≠ p) : H l = none := by
  cases e : H l with
  | none => rfl
  | some o => rw [h l o e d] at n; cases n
end L2

set_option Elab.async false
set_option linter.all false
set_option maxRecDepth 100000
set_option maxHeartbeats 4000000
namespace L2
open PySem PySem.Spec PyProof.Rows
section
variable {X : Cx} {pins : List (Addr × Obj)} {σ : St} {H : Hp} {s : Shared}
theorem Inv.track {a : Addr} {o : HO} (I : Inv X pins σ H s) (h0 : X.s₀.heap.get? a = none) (hn : H a = none) (nl : a ≠ X.env.locals) (nc : ∀ y c, X.env.cells.lookup y = some c → c ≠ a) (np : ∀ p ∈ X.pn ++ pins, p.1 ≠ a) (hb : X.base.get? a = none) (hf : ∀ b ∈ X.fs, b ≠ a)
    (new : ObjOk X.prog X.w (upd H a o) s.heap a o) : Inv X pins σ (upd H a o) s := by
  have ne0 : ∀ b z, X.s₀.heap.get? b = some z → b ≠ a := fun b z e q => by rw [q, h0] at e; cases e
  refine ⟨I.ok, I.os, I.bare, ⟨I.base.keep, I.base.slot, fun b z e n hx => by rw [upd_ne (ne0 b z e)]; exact I.base.free b z e n hx, I.base.there, fun b xs e => ?_, fun b z u e => ?_, fun b ps e => ?_⟩, I.loc, I.cell, by rw [upd_ne (Ne.symm nl)]; exact I.free, fun y c e => by rw [upd_ne (nc y c e)]; exact I.freeC y c e, fun p hp => ?_, I.hok.track hn new, I.len⟩
  · have q := I.base.tups b xs e
    rw [upd_ne (ne_of_none q hn)]; exact q
  · have q := I.base.frzs b z u e
    rw [upd_ne (ne_of_none q hn)]; exact q
  · obtain ⟨more, q⟩ := I.base.tbls b ps e
    exact ⟨more, by rw [upd_ne (ne_of_none q hn)]; exact q⟩
  · obtain ⟨e, n, r⟩ := I.pin p hp
    exact ⟨e, by rw [upd_ne (np p hp)]; exact n, r⟩
variable {hs : List ExceptHandler} {D : Ends}
end
end L2

set_option Elab.async false
set_option linter.all false
set_option maxRecDepth 100000
set_option maxHeartbeats 4000000
namespace L2
open PySem PySem.Spec PyProof.Rows
section
variable {X : Cx} {K : PySem.W.Frag}
end
end L2

set_option Elab.async false
set_option linter.all false
set_option maxRecDepth 100000
set_option maxHeartbeats 4000000
namespace L2
open PySem PySem.Spec PyProof.Rows
section
variable {X : Cx} {K : PySem.W.Frag}
end
structure Sw (k b : Nat) (d : PyData) : Prop where
  sh : d.showable = true
  dp : d.depth ≤ k
  bk : d.bulk ≤ b
  sl : d.leavesShort 64 = true
theorem Sw.mono {k b k' b' : Nat} {d : PyData} (h : Sw k b d) (hk : k ≤ k') (hb : b ≤ b') : Sw k' b' d := ⟨h.sh, Nat.le_trans h.dp hk, Nat.le_trans h.bk hb, h.sl⟩
theorem Sw.int {n : Int} (h : n.natAbs < 10 ^ 62) : Sw 0 0 (.int n) where
  sh := by
    simp only [PyData.showable]
    exact decide_eq_true (PySem.Spec.log2_small (Nat.lt_of_lt_of_le h (by decide +kernel)))
  dp := by simp [PyData.depth]
  bk := by simp [PyData.bulk]
  sl := by
    have e := int_text_length_le10 (k := 62) (by decide) h
    simp only [PyData.leavesShort]
    refine decide_eq_true ?_
    show (Str.ofString (toString n)).length ≤ 64
    rw [PySem.ofString_length]; exact Nat.le_trans e (by decide)
theorem Sw.bool (b : Bool) : Sw 0 0 (.bool b) := ⟨by simp [PyData.showable], by simp [PyData.depth], by simp [PyData.bulk], by simp [PyData.leavesShort]⟩
theorem Sw.none : Sw 0 0 .none := ⟨by simp [PyData.showable], by simp [PyData.depth], by simp [PyData.bulk], by simp [PyData.leavesShort]⟩
theorem Sw.str {x : Str} {n : Nat} (h : x.cps.size ≤ n) (hc : (x.cps.toList.all fun c => decide (c < 16 ^ 8)) = true) : Sw 0 n (.str x) := ⟨by simp [PyData.showable], by simp [PyData.depth], by simpa [PyData.bulk] using h, by simpa only [PyData.leavesShort] using hc⟩
theorem Sw.list {k b m : Nat} {ds : List PyData} (h : ∀ d ∈ ds, Sw k b d) (hm : ds.length ≤ m) : Sw (k + 1) ((b + 1) * m) (.list ds) where
  sh := by simp only [PyData.showable]; exact showAll_of fun d hd => (h d hd).sh
  dp := by simp only [PyData.depth]; exact Nat.succ_le_succ (depthAll_le fun d hd => (h d hd).dp)
  bk := by simp only [PyData.bulk]; exact Nat.le_trans (bulkAll_le fun d hd => (h d hd).bk) (Nat.mul_le_mul_left _ hm)
  sl := by simp only [PyData.leavesShort]; exact shortAll_of fun d hd => (h d hd).sl
theorem Sw.tuple {k b m : Nat} {ds : List PyData} (h : ∀ d ∈ ds, Sw k b d) (hm : ds.length ≤ m) : Sw (k + 1) ((b + 1) * m) (.tuple ds) where
  sh := by simp only [PyData.showable]; exact showAll_of fun d hd => (h d hd).sh
  dp := by simp only [PyData.depth]; exact Nat.succ_le_succ (depthAll_le fun d hd => (h d hd).dp)
  bk := by simp only [PyData.bulk]; exact Nat.le_trans (bulkAll_le fun d hd => (h d hd).bk) (Nat.mul_le_mul_left _ hm)
  sl := by simp only [PyData.leavesShort]; exact shortAll_of fun d hd => (h d hd).sl
end L2

set_option Elab.async false
set_option linter.all false
set_option maxRecDepth 100000
set_option maxHeartbeats 4000000
namespace G
open PySem L2 PyProof.Rows
def top (i : Nat) : Stmt := PySem.Challenge.pw_glowcells_k15_whole_texts_back.main.body.getD i (.Pass ⟨0, 0, 0, 0⟩)
abbrev sPair : Stmt := top 10
abbrev sAround : Stmt := top 17
abbrev sIsWall : Stmt := inClass (top 16) 8
abbrev sWhole : Stmt := top 8
abbrev sListed : Stmt := top 9
abbrev sWithin : Stmt := top 18
abbrev sRect : Stmt := top 19
abbrev sSized : Stmt := top 20
abbrev sCheckL : Stmt := top 21
abbrev sIsLoss : Stmt := top 22
abbrev sWriteF : Stmt := top 28
abbrev sWriteR : Stmt := top 29
abbrev sWriteL : Stmt := top 30
abbrev sReadF : Stmt := top 31
abbrev sReadR : Stmt := top 32
abbrev sReadL : Stmt := top 33
abbrev sRN : Stmt := top 34
abbrev sPurse : Stmt := top 36
abbrev sTake : Stmt := top 37
abbrev sDraw : Stmt := top 38
abbrev sGrid : Stmt := top 39
abbrev sWord : Stmt := top 40
abbrev sText : Stmt := top 41
abbrev sShort : Stmt := top 42
abbrev sGoes : Stmt := top 43
abbrev sLaw : Stmt := top 44
abbrev sInit : Stmt := inClass (top 16) 0
abbrev sHigh : Stmt := inClass (top 16) 1
abbrev sWide : Stmt := inClass (top 16) 2
abbrev sRows : Stmt := inClass (top 16) 3
abbrev sLoss : Stmt := inClass (top 16) 4
abbrev sBeside : Stmt := inClass (top 16) 5
abbrev sHas : Stmt := inClass (top 16) 9
abbrev sCheck : Stmt := inClass (top 16) 10

structure Txt (K : PySem.W.Frag) (mg : Str → Option Value) : Prop where
  isi : mg "isinstance" = none
  len : mg "len" = none
  list : mg "list" = none
  tuple : mg "tuple" = none
  int : mg "int" = none
  bool : mg "bool" = none
  range : mg "range" = none
  max : mg "max" = none
  str : mg "str" = none
  all : mg "all" = none
  enum : mg "enumerate" = none
  most : ∃ t, mg "MOST" = some (.int 30 t)
  wall : ∃ t, mg "WALL_LOSS" = some (.int 0 t)
  open_ : ∃ t, mg "OPEN_LOSS" = some (.int 1 t)
  wallW : ∃ t, mg "WALL_WORD" = some (.str "#" t)
  openW : ∃ t, mg "OPEN_WORD" = some (.str "." t)
  figs : ∃ t, mg "FIGURES" = some (.str "0123456789" t)
  mostF : ∃ t, mg "MOST_FIGURES" = some (.int 60 t)
  leastG : ∃ t, mg "LEAST_GLASS" = some (.int 2 t)

theorem kit_ii (K : PySem.W.Frag) : PySem.W.kitOne K (.type "int") (.type "int") = some true := by with_unfolding_all rfl
theorem kit_ib (K : PySem.W.Frag) : PySem.W.kitOne K (.type "int") (.type "bool") = some false := by with_unfolding_all rfl
theorem kit_lt (K : PySem.W.Frag) (kd : Bool) : PySem.W.kitAny K (.type (if kd then "list" else "tuple")) (["list", "tuple"].map Value.type) = some true := by
  cases kd <;> with_unfolding_all rfl

abbrev E60 : Int := 1000000000000000000000000000000000000000000000000000000000000
def okL (xs : List Int) : Prop := ∀ v ∈ xs, 0 ≤ v ∧ v < E60
structure Dim (xss : List (List Int)) (n : Nat) : Prop where
  h1 : 1 ≤ xss.length
  h2 : xss.length ≤ 30
  w1 : 1 ≤ n
  w2 : n ≤ 30
  row : ∀ xs ∈ xss, xs.length = n ∧ okL xs
def RowAt (H : Hp) (r : Addr) (xs : List Int) : Prop := ∃ kd, H r = some (sq kd (xs.map V.int))
theorem map_ref {rs : List Addr} {i : Nat} {y : V} (h : (rs.map V.ref)[i]? = some y) : ∃ r, rs[i]? = some r ∧ y = .ref r := by
  rw [List.getElem?_map] at h
  cases e : rs[i]? with
  | none => rw [e] at h; cases h
  | some z => rw [e] at h; exact ⟨z, rfl, (Option.some.inj h).symm⟩
theorem map_int {xs : List Int} {i : Nat} {y : V} (h : (xs.map V.int)[i]? = some y) : ∃ r, xs[i]? = some r ∧ y = .int r := by
  rw [List.getElem?_map] at h
  cases e : xs[i]? with
  | none => rw [e] at h; cases h
  | some z => rw [e] at h; exact ⟨z, rfl, (Option.some.inj h).symm⟩
theorem ixB {K : PySem.W.Frag} {H : Hp} {kd : Bool} {a : Addr} {xs : List V} {i : Int} {v : V} {Q : VK} (h : SqB kd K H a xs) (hi : atI xs i = some v) (q : Q v H) : rIx K (.ref a) (.int i) H Q := by
  cases kd with
  | true => exact .inl ⟨a, xs, i, v, rfl, rfl, h, hi, q⟩
  | false => exact .inr (.inl ⟨a, xs, i, v, rfl, rfl, h, hi, q⟩)

inductive Plain (H : Hp) : V → Prop
  | non : Plain H .non
  | bl (b : Bool) : Plain H (.bl b)
  | int (i : Int) : Plain H (.int i)
  | str (t : Str) : Plain H (.str t)
  | tup (a : Addr) (xs : List V) (h : H a = some (.tup xs)) : Plain H (.ref a)
  | lst (a : Addr) (xs : List V) (h : H a = some (.lst xs)) : Plain H (.ref a)
inductive NotListed (H : Hp) : V → Prop
  | non : NotListed H .non
  | int (i : Int) : NotListed H (.int i)
  | str (t : Str) : NotListed H (.str t)
  | dct (a : Addr) (h : H a = some (.dK [])) : NotListed H (.ref a)
def whole : V → Bool
  | .int _ => true
  | _ => false
def inR (e : Int) : V → Bool
  | .int i => decide (0 ≤ i) && decide (i < e)
  | _ => false
def spWholeG : Sp := fun vs H Q _ => ∃ x, vs = [x] ∧ Plain H x ∧ Q (.bl (whole x)) H
def spListedG : Sp := fun vs H Q _ => ∃ x b, vs = [x] ∧ ((b = true ∧ ∃ a kd xs, x = .ref a ∧ H a = some (sq kd xs)) ∨ (b = false ∧ NotListed H x)) ∧ ∀ H', Same H H' → Q (.bl b) H'
def spWithinG : Sp := fun vs H Q _ => ∃ x e, vs = [x, .int e] ∧ Plain H x ∧ Q (.bl (inR e x)) H
def spListed : Sp := fun vs H Q _ => ∃ a kd xs, vs = [.ref a] ∧ H a = some (sq kd xs) ∧ ∀ H', Same H H' → Q (.bl true) H'
def spSized : Sp := fun vs H Q _ => ∃ a kd xs, vs = [.ref a] ∧ H a = some (sq kd xs) ∧ 1 ≤ xs.length ∧ xs.length ≤ 30 ∧ ∀ H', Same H H' → Q (.bl true) H'
structure DimV (vss : List (List V)) (n : Nat) : Prop where
  h1 : 1 ≤ vss.length
  h2 : vss.length ≤ 30
  w1 : 1 ≤ n
  w2 : n ≤ 30
  row : ∀ vs ∈ vss, vs.length = n
def RowV (H : Hp) (r : Addr) (vs : List V) : Prop := ∃ kd, H r = some (sq kd vs)
def okV (v : V) : Bool := inR E60 v
def spRectV : Sp := fun vs H Q _ => ∃ a kd rs vss n, vs = [.ref a] ∧ H a = some (sq kd (rs.map V.ref)) ∧ Paired (RowV H) rs vss ∧ DimV vss n ∧ ∀ H', Same H H' → Q (.bl true) H'
def spIsLossG : Sp := fun vs H Q _ => ∃ v, vs = [v] ∧ Plain H v ∧ Q (.bl (okV v)) H
def spCheckLE (CL : Addr) : Sp := fun vs H Q E => ∃ a kd xs, vs = [.ref a] ∧ H a = some (sq kd xs) ∧ (∀ v ∈ xs, Plain H v) ∧ (∀ H', Same H H' → xs.all okV = true → Q .non H') ∧ (∀ H', Same H H' → xs.all okV = false → E (.ref CL) none H')
structure TxtL (K : PySem.W.Frag) (mg : Str → Option Value) (CL : Addr) : Prop where
  mgL : mg "NoLoss" = some (.ref CL)
  exL : PySem.W.excIn K CL bmV "ValueError.__new__" = true
theorem Plain.same {H H' : Hp} {x : V} (p : Plain H x) (s : Same H H') : Plain H' x := by
  cases p with
  | non => exact .non
  | bl b => exact .bl b
  | int i => exact .int i
  | str t => exact .str t
  | tup a xs h => exact .tup a xs (s _ _ h)
  | lst a xs h => exact .lst a xs (s _ _ h)

section
variable {P : Program} {w : World} {K : PySem.W.Frag} {mg : Str → Option Value} {base : Heap}
theorem scWhole : FnScope ["value"] ["value"] (defScope sWhole) := ⟨rfl, rfl, rfl, by decide +kernel, rfl, by decide +kernel, by decide +kernel⟩
theorem ok_wholeG {f : Addr} {fd : FuncData} (F : Fun K "is_whole" "is_whole" sWhole f fd) (T : Txt K mg) : FnOk P w K mg base CX0 1 f fd ["value"] spWholeG := by
  refine F.ok scWhole (fun vs H Q E h => ?_) (fun cdv A outer s H vs Q E hr h => ?_)
  · obtain ⟨x, rfl, _⟩ := h; rfl
  · obtain ⟨x, rfl, pl, k⟩ := h
    refine ⟨_, pss_one (ps_ret (pe_and (pe_callB call_isi (by rfl) T.isi boot_isinstance (pa_cons (pv 0) (pa_cons (pe_bltn (v := .ty "int") (by rfl) T.int boot_int rfl) pa_nil)))
      (pe_one (pe_not (pe_callB call_isi (by rfl) T.isi boot_isinstance (pa_cons (pv 0) (pa_cons (pe_bltn (v := .ty "bool") (by rfl) T.bool boot_bool rfl) pa_nil))))))), ?_⟩
    cases pl with
    | int i =>
      refine ⟨_, rfl, .int i, "int", .type "int", true, rfl, .int i, kit_ii K, true, rfl, iteT ?_⟩
      exact ⟨_, rfl, .int i, "bool", .type "int", false, rfl, .int i, kit_ib K, false, rfl, k⟩
    | bl b =>
      refine ⟨_, rfl, .bl b, "int", .type "bool", true, rfl, .bl b, (by with_unfolding_all rfl), true, rfl, iteT ?_⟩
      exact ⟨_, rfl, .bl b, "bool", .type "bool", true, rfl, .bl b, (by with_unfolding_all rfl), true, rfl, k⟩
    | non => exact ⟨_, rfl, .non, "int", .type "NoneType", false, rfl, .non, (by with_unfolding_all rfl), false, rfl, iteF k⟩
    | str t => exact ⟨_, rfl, .str t, "int", .type "str", false, rfl, .str t, (by with_unfolding_all rfl), false, rfl, iteF k⟩
    | tup a xs h => exact ⟨_, rfl, .ref a, "int", .type "tuple", false, rfl, .tup h, (by with_unfolding_all rfl), false, rfl, iteF k⟩
    | lst a xs h => exact ⟨_, rfl, .ref a, "int", .type "list", false, rfl, .lst h, (by with_unfolding_all rfl), false, rfl, iteF k⟩
theorem scListed : FnScope ["value"] ["value"] (defScope sListed) := ⟨rfl, rfl, rfl, by decide +kernel, rfl, by decide +kernel, by decide +kernel⟩
theorem ok_listedG {f : Addr} {fd : FuncData} (F : Fun K "is_listed" "is_listed" sListed f fd) (T : Txt K mg) : FnOk P w K mg base CX0 1 f fd ["value"] spListedG := by
  refine F.ok scListed (fun vs H Q E h => ?_) (fun cdv A outer s H vs Q E hr h => ?_)
  · obtain ⟨x, b, rfl, _⟩ := h; rfl
  · obtain ⟨x, b, rfl, ls, k⟩ := h
    refine ⟨_, pss_one (ps_ret (pe_callB call_isiT (by rfl) T.isi boot_isinstance (pa_cons (pv 0) (pa_cons (pe_tup (pa_cons (pe_bltn (v := .ty "list") (by rfl) T.list boot_list rfl) (pa_cons (pe_bltn (v := .ty "tuple") (by rfl) T.tuple boot_tuple rfl) pa_nil))) pa_nil)))), ?_⟩
    refine ⟨_, rfl, (by show 2 ≤ sizeLine; decide), fun p hp => ?_⟩
    rcases ls with ⟨rfl, a, kd, xs, rfl, ha⟩ | ⟨rfl, nl⟩
    · exact ⟨.ref a, p, ["list", "tuple"], _, true, rfl, upd_same, TyOf.sq (kd := kd) (xs := xs) (by rw [upd_ne (ne_of_none ha hp)]; exact ha), kit_lt K kd, k _ (Same.upd hp)⟩
    · cases nl with
      | non => exact ⟨.non, p, ["list", "tuple"], _, false, rfl, upd_same, .non, (by with_unfolding_all rfl), k _ (Same.upd hp)⟩
      | int i => exact ⟨.int i, p, ["list", "tuple"], _, false, rfl, upd_same, .int i, (by with_unfolding_all rfl), k _ (Same.upd hp)⟩
      | str t => exact ⟨.str t, p, ["list", "tuple"], _, false, rfl, upd_same, .str t, (by with_unfolding_all rfl), k _ (Same.upd hp)⟩
      | dct a h => exact ⟨.ref a, p, ["list", "tuple"], _, false, rfl, upd_same, .dK (kvs := []) (by rw [upd_ne (ne_of_none h hp)]; exact h), (by with_unfolding_all rfl), k _ (Same.upd hp)⟩
theorem listed_of {f : Addr} {fd : FuncData} {ps : List Str} (F : FnOk P w K mg base CX0 1 f fd ps spListedG) : FnOk P w K mg base CX0 1 f fd ps spListed := F.imp fun vs H Q E ⟨a, kd, xs, e, ha, k⟩ => ⟨.ref a, true, e, .inl ⟨rfl, a, kd, xs, rfl, ha⟩, k⟩
theorem scWithin : FnScope ["value", "end"] ["value", "end"] (defScope sWithin) := ⟨rfl, rfl, rfl, by decide +kernel, rfl, by decide +kernel, by decide +kernel⟩
theorem ok_withinG {f : Addr} {fd : FuncData} (F : Fun K "is_within" "is_within" sWithin f fd) (T : Txt K mg) (D1 : Callee P w K mg base 1 "is_whole" ["value"] spWholeG) : FnOk P w K mg base CX0 2 f fd ["value", "end"] spWithinG := by
  refine F.ok scWithin (fun vs H Q E h => ?_) (fun cdv A outer s H vs Q E hr h => ?_)
  · obtain ⟨x, e, rfl, _⟩ := h; rfl
  · obtain ⟨x, e, rfl, pl, k⟩ := h
    refine ⟨_, pss_one (ps_ret (pe_and (pe_fn D1 hr (pa_cons (pv 0) pa_nil)) (pe_one (pe_chain op_le op_lt pe_int (pv 0) (pv 1))))), ?_⟩
    refine ⟨_, rfl, x, rfl, pl, _, rfl, ?_⟩
    cases pl with
    | int i =>
      refine iteT ⟨_, rfl, _, _, rfl, rfl, _, rfl, ?_⟩
      have k' : Q (.bl (decide (0 ≤ i) && decide (i < e))) H := k
      by_cases h0 : 0 ≤ i
      · refine ite2 (fun _ => ⟨_, rfl, _, _, rfl, rfl, ?_⟩) (fun z => absurd (decide_eq_true h0) z)
        rw [decide_eq_true h0, Bool.true_and] at k'
        exact k'
      · refine ite2 (fun z => absurd (of_decide_eq_true z) h0) (fun _ => ?_)
        rw [decide_eq_false h0, Bool.false_and] at k'
        exact k'
    | bl b => exact iteF k
    | non => exact iteF k
    | str t => exact iteF k
    | tup a xs h => exact iteF k
    | lst a xs h => exact iteF k
theorem scSized : FnScope ["listed"] ["listed"] (defScope sSized) := ⟨rfl, rfl, rfl, by decide +kernel, rfl, by decide +kernel, by decide +kernel⟩
theorem ok_sized {f : Addr} {fd : FuncData} (F : Fun K "is_sized" "is_sized" sSized f fd) (T : Txt K mg) (D1 : Callee P w K mg base 1 "is_listed" ["value"] spListed) : FnOk P w K mg base CX0 2 f fd ["listed"] spSized := by
  refine F.ok scSized (fun vs H Q E h => ?_) (fun cdv A outer s H vs Q E hr h => ?_)
  · obtain ⟨a, kd, xs, rfl, _⟩ := h; rfl
  · obtain ⟨a, kd, xs, rfl, ha, n1, n2, k⟩ := h
    obtain ⟨tm, hm⟩ := T.most
    refine ⟨_, pss_one (ps_ret (pe_and (pe_fn D1 hr (pa_cons (pv 0) pa_nil)) (pe_one (pe_chain op_le op_le pe_int (pe_callB call_len_seq (by rfl) T.len PySem.boot_len (pa_cons (pv 0) pa_nil)) (pe_glob (v := .int 30) (by rfl) hm ⟨tm, rfl⟩))))), ?_⟩
    refine ⟨_, rfl, a, kd, xs, rfl, ha, fun H1 s1 => ⟨true, rfl, iteT ?_⟩⟩
    refine ⟨_, rfl, a, xs, rfl, (SqB.of (s1 _ _ ha)).or, _, _, rfl, rfl, _, rfl, ?_⟩
    refine ite2 (fun _ => ⟨_, _, rfl, rfl, ?_⟩) (fun z => absurd (decide_eq_true (by omega)) z)
    show Q (.bl (decide ((xs.length : Int) ≤ 30))) H1
    rw [decide_eq_true (show (xs.length : Int) ≤ 30 by omega)]
    exact k H1 s1
theorem scRect : FnScope ["rows", "row"] ["rows"] (defScope sRect) := ⟨rfl, rfl, rfl, by decide +kernel, rfl, by decide +kernel, by decide +kernel⟩
theorem ok_rectV {f : Addr} {fd : FuncData} (F : Fun K "is_rectangle" "is_rectangle" sRect f fd) (T : Txt K mg) (D1 : Callee P w K mg base 2 "is_sized" ["listed"] spSized) : FnOk P w K mg base CX0 3 f fd ["rows"] spRectV := by
  refine F.ok scRect (fun vs H Q E h => ?_) (fun cdv A outer s H vs Q E hr h => ?_)
  · obtain ⟨a, kd, rs, vss, n, rfl, _⟩ := h; rfl
  · obtain ⟨a, kd, rs, vss, n, rfl, ha, pr, D, k⟩ := h
    have hl := Paired.length pr
    refine ⟨_, pss_cons (ps_if (pt_not (pt_val (pe_fn D1 hr (pa_cons (pv 0) pa_nil)))) (pss_one (ps_ret pe_bl)) pss_nil)
      (pss_cons (ps_for PassesOwn.never rfl (pi_seq (pv 0)) (pg_name (i := 1) scRect.nd rfl (Or.inl rfl))
        (pss_one (ps_if (PW.pt (pw_or (pt_not (pt_val (pe_fn D1 hr (pa_cons (pv 1) pa_nil)))) (pw_or1 (pt_cmpR op_ne (pe_callB call_len_seq (by rfl) T.len PySem.boot_len (pa_cons (pv 1) pa_nil)) (pe_callB call_len_seq (by rfl) T.len PySem.boot_len (pa_cons (pe_ix ix_seq (pv 0) pe_int (fun _ _ => rfl)) pa_nil)) (nomark _)))))
          (pss_one (ps_ret pe_bl)) pss_nil)))
      (pss_one (ps_ret pe_bl))), ?_⟩
    have h1 := D.h1
    have h2 := D.h2
    have w1 := D.w1
    have w2 := D.w2
    refine ⟨_, rfl, a, kd, _, rfl, ha, (by rw [List.length_map]; omega), (by rw [List.length_map]; omega), fun H1 s1 => ⟨true, rfl, iteF ?_⟩⟩
    refine ⟨_, rfl, a, kd, rfl, ⟨_, SqB.of (s1 _ _ ha)⟩, for_seq (xs := rs.map V.ref) (fun i σ H2 => ∃ v, σ = [some (.ref a), v] ∧ Same H H2) ⟨none, rfl, s1⟩ (fun i σ H2 _ ⟨_, _, s2⟩ => SqB.of (s2 _ _ ha)) ?_ ?_⟩
    · rintro i y σ H2 hi ⟨v, rfl, s2⟩
      obtain ⟨r, er, rfl⟩ := map_ref hi
      obtain ⟨xs, ex, kd', hr'⟩ := Paired.get pr er
      obtain ⟨r0, er0⟩ : ∃ r0, rs[0]? = some r0 := ⟨rs[0]'(by omega), List.getElem?_eq_getElem _⟩
      obtain ⟨xs0, ex0, kd0, hr0⟩ := Paired.get pr er0
      have l1 := D.row xs (List.mem_of_getElem? ex)
      have l0 := D.row xs0 (List.mem_of_getElem? ex0)
      refine ⟨_, rfl, r, kd', _, rfl, s2 _ _ hr', (by omega), (by omega), fun H3 s3 => ⟨true, rfl, iteF ?_⟩⟩
      have s4 : Same H H3 := s2.trans s3
      refine ⟨_, rfl, r, _, rfl, (SqB.of (s4 _ _ hr')).or, _, rfl, ixB (SqB.of (s4 _ _ ha)) (atI_nat (j := 0) (v := .ref r0) (by rw [List.getElem?_map, er0]; rfl)) ⟨r0, _, rfl, (SqB.of (s4 _ _ hr0)).or, rfl, _, rfl, ?_⟩⟩
      exact iteNS (by rw [l1, l0]) ⟨_, rfl, s4⟩
    · rintro σ H2 ⟨v, rfl, s2⟩
      exact k H2 s2
theorem scIsLoss : FnScope ["value"] ["value"] (defScope sIsLoss) := ⟨rfl, rfl, rfl, by decide +kernel, rfl, by decide +kernel, by decide +kernel⟩
theorem pow60 : (10 : Int) ^ (60 : Int).toNat = E60 := by decide
theorem ok_isLossG {f : Addr} {fd : FuncData} (F : Fun K "is_loss" "is_loss" sIsLoss f fd) (T : Txt K mg) (D1 : Callee P w K mg base 2 "is_within" ["value", "end"] spWithinG) : FnOk P w K mg base CX0 3 f fd ["value"] spIsLossG := by
  refine F.ok scIsLoss (fun vs H Q E h => ?_) (fun cdv A outer s H vs Q E hr h => ?_)
  · obtain ⟨v, rfl, _⟩ := h; rfl
  · obtain ⟨v, rfl, pl, k⟩ := h
    refine ⟨_, pss_one (ps_ret (pe_fn D1 hr (pa_cons (pv 0) (pa_cons (pe_op op_pow pe_int pe_int) pa_nil)))), ?_⟩
    exact ⟨_, rfl, _, _, rfl, rfl, ⟨by decide, by decide, by decide⟩, v, E60, (by show [v, V.int ((10 : Int) ^ (60 : Int).toNat)] = _; rw [pow60]), pl, k⟩
theorem scCheckL : FnScope ["row", "value"] ["row"] (defScope sCheckL) := ⟨rfl, rfl, rfl, by decide +kernel, rfl, by decide +kernel, by decide +kernel⟩
theorem ok_checkLE {f CL : Addr} {fd : FuncData} (F : Fun K "check_losses" "check_losses" sCheckL f fd) (T : Txt K mg) (TL : TxtL K mg CL) (D1 : Callee P w K mg base 3 "is_loss" ["value"] spIsLossG) : FnOk P w K mg base (CXe P w) 4 f fd ["row"] (spCheckLE CL) := by
  refine F.okE scCheckL (fun vs H Q E h => ?_) (fun cdv A outer s H vs Q E hr hh h => ?_)
  · obtain ⟨a, kd, xs, rfl, _⟩ := h; rfl
  · obtain ⟨a, kd, xs, rfl, ha, ok, k1, k2⟩ := h
    refine ⟨_, pss_one (ps_for ownE rfl (pi_seq (pv 0)) (pg_name (i := 1) scCheckL.nd rfl (Or.inl rfl)) (pss_one (ps_if (pt_not (pt_val (pe_fn D1 hr (pa_cons (pv 1) pa_nil)))) (pss_one (ps_raise hh TL.exL (by rfl) TL.mgL (pa_cons pe_str pa_nil))) pss_nil))), ?_⟩
    refine ⟨_, rfl, a, kd, rfl, ⟨_, SqB.of ha⟩, for_seq (xs := xs) (fun i σ H2 => ∃ v, σ = [some (.ref a), v] ∧ (xs.take i).all okV = true ∧ Same H H2) ⟨none, rfl, (by rw [List.take_zero]; rfl), Same.refl H⟩ (fun i σ H2 _ ⟨_, _, _, s2⟩ => SqB.of (s2 _ _ ha)) ?_ ?_⟩
    · rintro i y σ H2 hi ⟨v, rfl, al, s2⟩
      have hm := List.mem_of_getElem? hi
      refine ⟨_, rfl, y, rfl, (ok y hm).same s2, okV y, rfl, ?_⟩
      cases hb : okV y with
      | true =>
        refine iteF ⟨_, rfl, ?_, s2⟩
        rw [List.take_add_one, hi, List.all_append, al]
        simp [hb]
      | false =>
        refine iteT ⟨(by show 1 ≤ sizeLine; decide), k2 H2 s2 ?_⟩
        cases hx : xs.all okV with
        | false => rfl
        | true => rw [List.all_eq_true.mp hx y hm] at hb; cases hb
    · rintro σ H2 ⟨v, rfl, al, s2⟩
      rw [List.take_length] at al
      exact k1 H2 s2 al
end
end G

set_option Elab.async false
set_option linter.all false
set_option maxRecDepth 100000
set_option maxHeartbeats 4000000
namespace G
open PySem L2 PyProof.Rows
def TupAt (H : Hp) (r : Addr) (xs : List Int) : Prop := H r = some (.tup (xs.map V.int))
def LstAt (H : Hp) (r : Addr) (xs : List Int) : Prop := H r = some (.lst (xs.map V.int))
def flds (t : Addr) : List (Str × V) := [("losses", V.ref t)]
theorem flds_losses (t : Addr) : (flds t).lookup ("losses" : Str) = some (.ref t) := by simp [flds, List.lookup_cons]
theorem flds_no (t : Addr) {m : Str} (h : ¬ m = "losses") : (flds t).lookup m = none := by
  have hb : (m == ("losses" : Str)) = false := by simpa using h
  simp [flds, List.lookup_cons, hb]
def FloorAt (C : Addr) (H : Hp) (p : Addr) (xss : List (List Int)) : Prop := ∃ dx t ts, H p = some (.ins C dx (flds t)) ∧ H t = some (.tup (ts.map V.ref)) ∧ Paired (TupAt H) ts xss
structure TxtC (K : PySem.W.Frag) (C : Addr) : Prop where
  cl : Cls K C
  nl : NoAttr K C "losses"
theorem FloorAt.same {C : Addr} {H H' : Hp} {p : Addr} {xss : List (List Int)} (f : FloorAt C H p xss) (s : Same H H') : FloorAt C H' p xss := by
  obtain ⟨dx, t, ts, h1, h2, h3⟩ := f
  exact ⟨dx, t, ts, s _ _ h1, s _ _ h2, Paired.imp' (fun _ _ z => s _ _ z) h3⟩
theorem take_snoc {α : Type} {xs : List α} {i : Nat} {x : α} (h : xs[i]? = some x) : xs.take (i + 1) = xs.take i ++ [x] := by
  rw [List.take_add_one, h]; rfl

def spHigh (C : Addr) : Sp := fun vs H Q _ => ∃ p xss, vs = [.ref p] ∧ FloorAt C H p xss ∧ Q (.int xss.length) H
def spWide (C : Addr) : Sp := fun vs H Q _ => ∃ p xss n, vs = [.ref p] ∧ FloorAt C H p xss ∧ Dim xss n ∧ Q (.int n) H
structure Place (H : Hp) (q : Addr) (xss : List (List Int)) (n : Nat) (i j : Nat) : Prop where
  at_ : ∃ kd, H q = some (sq kd [.int i, .int j])
  hi : i < xss.length
  hj : j < n
def spFRows (C : Addr) : Sp := fun vs H Q _ => ∃ p xss n, vs = [.ref p] ∧ FloorAt C H p xss ∧ Dim xss n ∧ ∀ a rs H', H' a = some (.lst (rs.map V.ref)) → Paired (LstAt H') rs xss → Same H H' → H a = none → (∀ r ∈ rs, H r = none) → a ∉ rs → rs.Nodup → Q (.ref a) H'

theorem nodup_snoc {α : Type} {l : List α} {a : α} (n : l.Nodup) (h : a ∉ l) : (l ++ [a]).Nodup := by
  rw [List.nodup_append]
  exact ⟨n, by simp, fun x hx y hy => by rw [List.mem_singleton.mp hy]; exact fun z => h (z ▸ hx)⟩
theorem fresh_of {H : Hp} {rs : List Addr} {xss : List (List Int)} {l : Addr} (p : Paired (LstAt H) rs xss) (h : H l = none) : l ∉ rs := fun hm => by
  obtain ⟨i, hi⟩ := List.getElem?_of_mem hm
  obtain ⟨xs, _, q⟩ := Paired.get p hi
  exact ne_of_none q h rfl
def spInitE (C CL : Addr) : Sp := fun vs H Q E => ∃ p dx h kd rs vss n, vs = [.ref p, .ref h] ∧ H p = some (.ins C dx []) ∧ H h = some (sq kd (rs.map V.ref)) ∧ Paired (RowV H) rs vss ∧ DimV vss n ∧ (∀ vs ∈ vss, ∀ v ∈ vs, Plain H v) ∧
  ((∃ xss : List (List Int), vss = xss.map (fun xs => xs.map V.int) ∧ Dim xss n ∧ ∀ H', FloorAt C H' p xss → But p H H' → Q .non H') ∨ ((∃ vs ∈ vss, vs.all okV = false) ∧ ∀ H', Same H H' → E (.ref CL) none H'))
theorem okV_int {z : Int} (h : 0 ≤ z ∧ z < E60) : okV (.int z) = true := by
  show (decide (0 ≤ z) && decide (z < E60)) = true
  rw [decide_eq_true h.1, decide_eq_true h.2]; rfl
theorem okV_row {xs : List Int} (h : okL xs) : (xs.map V.int).all okV = true := by
  rw [List.all_eq_true]
  intro v hv
  obtain ⟨z, hz, rfl⟩ := List.mem_map.mp hv
  exact okV_int (h z hz)
theorem row_of {H : Hp} {rs : List Addr} {xss : List (List Int)} (p : Paired (RowV H) rs (xss.map fun xs => xs.map V.int)) : Paired (RowAt H) rs xss := by
  generalize e : (xss.map fun xs => xs.map V.int) = vss at p
  induction p generalizing xss with
  | nil => cases xss with
    | nil => exact .nil
    | cons x xs => cases e
  | cons z t ih => cases xss with
    | nil => cases e
    | cons x xs =>
      rw [List.map_cons] at e
      injection e with e1 e2
      subst e1
      exact .cons z (ih e2)
section
variable {P : Program} {w : World} {K : PySem.W.Frag} {mg : Str → Option Value} {base : Heap} {C CL : Addr}
theorem scInit : FnScope ["self", "rows", "row"] ["self", "rows"] (defScope sInit) := ⟨rfl, rfl, rfl, by decide +kernel, rfl, by decide +kernel, by decide +kernel⟩
theorem ok_initE {f : Addr} {fd : FuncData} (F : Fun K "__init__" "Floor.__init__" sInit f fd) (T : Txt K mg) (TC : TxtC K C) (D1 : Callee P w K mg base 3 "is_rectangle" ["rows"] spRectV) (D2 : CalleeE P w K mg base 4 "check_losses" ["row"] (spCheckLE CL)) :
    FnOk P w K mg base (CXe P w) 5 f fd ["self", "rows"] (spInitE C CL) := by
  refine F.okE scInit (fun vs H Q E h => ?_) (fun cdv A outer s H vs Q E hr hh h => ?_)
  · obtain ⟨p, dx, h, kd, rs, vss, n, rfl, _⟩ := h; rfl
  · obtain ⟨p, dx, h, kd, rs, vss, n, rfl, hp, hh', pr, D, pl, k⟩ := h
    have hl := Paired.length pr
    have h2 := D.h2
    refine ⟨_, pss_cons (ps_if (pt_not (pt_val (pe_fn D1 (hr.mono (by decide)) (pa_cons (pv 1) pa_nil)))) pss_never pss_nil)
      (pss_cons (ps_for ownE rfl (pi_seq (pv 1)) (pg_name (i := 2) scInit.nd rfl (Or.inl rfl)) (pss_one (ps_expr (pe_fnE D2 passE hr (pa_cons (pv 2) pa_nil)))))
      (pss_one (ps_fld (pv 0) (pe_callTy call_tuple_of (by rfl) T.tuple boot_tuple (pa_cons (pe_comp (N := ["row"]) (ix := [none]) (j := 0) rfl Blk.of rfl rfl rfl (pi_seq (pv 1)) (fun _ _ _ _ _ => pif_nil) (fun _ _ _ _ _ => pe_callTy (call_tuple_k (K := K) rfl) (by rfl) T.tuple boot_tuple (pa_cons (pv 0) pa_nil))) pa_nil)) rfl))), ?_⟩
    refine ⟨_, rfl, h, kd, rs, vss, n, rfl, hh', pr, D, fun H1 s1 => ⟨true, rfl, iteF ?_⟩⟩
    refine ⟨_, rfl, h, kd, rfl, ⟨_, SqB.of (s1 _ _ hh')⟩, for_seq (xs := rs.map V.ref) (fun i σ H2 => ∃ v, σ = [some (.ref p), some (.ref h), v] ∧ (∀ vs ∈ vss.take i, vs.all okV = true) ∧ Same H H2) ⟨none, rfl, (by rw [List.take_zero]; exact fun vs z => nomatch z), s1⟩ (fun i σ H2 _ ⟨_, _, _, s2⟩ => SqB.of (s2 _ _ hh')) ?_ ?_⟩
    · rintro i y σ H2 hi ⟨v, rfl, al, s2⟩
      obtain ⟨r, er, rfl⟩ := map_ref hi
      obtain ⟨xs, ex, kd', hr'⟩ := Paired.get pr er
      have hm := List.mem_of_getElem? ex
      refine ⟨_, rfl, r, kd', xs, rfl, s2 _ _ hr', fun v hv => (pl xs hm v hv).same s2, fun H3 s3 ok => ⟨_, rfl, fun vs hv => ?_, s2.trans s3⟩, fun H3 s3 no => ?_⟩
      · rw [take_snoc ex] at hv
        rcases List.mem_append.mp hv with hv | hv
        · exact al vs hv
        · rw [List.mem_singleton.mp hv]; exact ok
      · rcases k with ⟨xss, rfl, DD, _⟩ | ⟨_, k⟩
        · obtain ⟨zs, hz, rfl⟩ := List.mem_map.mp hm
          rw [okV_row (DD.row zs hz).2] at no
          cases no
        · exact k H3 (s2.trans s3)
    · rintro σ H2 ⟨v, rfl, al, s2⟩
      rw [List.length_map, List.take_of_length_le (by omega)] at al
      rcases k with ⟨xss, rfl, DD, k⟩ | ⟨⟨bad, hb, no⟩, _⟩
      · have prr : Paired (RowAt H) rs xss := row_of pr
        rw [List.length_map] at hl h2
        refine ⟨_, rfl, h, kd, rfl, ⟨_, SqB.of (s2 _ _ hh')⟩, comp_seq (xs := rs.map V.ref) (fun i ys H3 => ∃ ts, ys = ts.map V.ref ∧ Paired (TupAt H3) ts (xss.take i) ∧ Same H H3) ⟨[], rfl, by rw [List.take_zero]; exact .nil, s2⟩ (fun i ys H3 _ ⟨_, _, _, s3⟩ => SqB.of (s3 _ _ hh')) ?_ ?_⟩
        · rintro i y ys H3 hi ⟨ts, rfl, pt, s3⟩
          obtain ⟨r, er, rfl⟩ := map_ref hi
          obtain ⟨xs, ex, kd', hr'⟩ := Paired.get prr er
          have lt := Paired.length pt
          rw [List.length_take] at lt
          have sz : (ts.map V.ref).length < sizeLine := by rw [List.length_map]; exact small1000 (by omega)
          refine yes ?_
          cases kd' with
          | true =>
            refine ⟨_, rfl, r, _, rfl, .inl ⟨SqL.of (s3 _ _ hr'), fun l hl' => ⟨sz, ts ++ [l], by rw [List.map_append]; rfl, ?_, s3.trans (Same.upd hl')⟩⟩⟩
            rw [take_snoc ex]
            exact Paired.snoc (Paired.imp' (fun _ _ z => Same.upd hl' _ _ z) pt) upd_same
          | false =>
            refine ⟨_, rfl, r, _, rfl, .inr ⟨SqT.of (s3 _ _ hr'), sz, ts ++ [r], by rw [List.map_append]; rfl, ?_, s3⟩⟩
            rw [take_snoc ex]
            exact Paired.snoc pt (s3 _ _ hr')
        · rintro ys H3 ⟨ts, rfl, pt, s3⟩ D' hD'
          rw [List.length_map, List.take_of_length_le (by omega)] at pt
          have lt := Paired.length pt
          refine ⟨D', _, rfl, .inl ⟨SqL.of upd_same, fun t ht => ?_⟩⟩
          have s4 : Same H3 (upd (upd H3 D' (.lst (ts.map V.ref))) t (.tup (ts.map V.ref))) := (Same.upd hD').trans (Same.upd ht)
          have hp4 := s4 _ _ (s3 _ _ hp)
          have ntp : t ≠ p := ne_of (H := upd (upd H3 D' (.lst (ts.map V.ref))) t (.tup (ts.map V.ref))) upd_same hp4 (by intro z; cases z)
          have hp3 := s3 _ _ hp
          refine ⟨_, rfl, p, C, dx, [], rfl, hp4, TC.cl, TC.nl, (by show 0 < 1000; decide), k _ ⟨dx, t, ts, upd_same, (by rw [upd_ne ntp]; exact upd_same), Paired.imp' (fun r xs z => ?_) pt⟩ ((s3.trans s4).but.trans But.upd)⟩
          have nrp : r ≠ p := ne_of z hp3 (by intro z; cases z)
          show upd _ p _ r = _
          rw [upd_ne nrp]
          exact s4 _ _ z
      · rw [al bad hb] at no
        cases no
theorem scHigh : FnScope ["self"] ["self"] (defScope sHigh) := ⟨rfl, rfl, rfl, by decide +kernel, rfl, by decide +kernel, by decide +kernel⟩
theorem ok_high {f : Addr} {fd : FuncData} (F : Fun K "high" "Floor.high" sHigh f fd) (T : Txt K mg) (TC : TxtC K C) : FnOk P w K mg base CX0 1 f fd ["self"] (spHigh C) := by
  refine F.ok scHigh (fun vs H Q E h => ?_) (fun cdv A outer s H vs Q E hr h => ?_)
  · obtain ⟨p, xss, rfl, _⟩ := h; rfl
  · obtain ⟨p, xss, rfl, ⟨dx, t, ts, h1, h2, h3⟩, k⟩ := h
    refine ⟨_, pss_one (ps_ret (pe_callB call_len_seq (by rfl) T.len PySem.boot_len (pa_cons (pe_fld (pv 0) rfl) pa_nil))), ?_⟩
    have hl := Paired.length h3
    refine ⟨_, rfl, p, C, dx, _, _, rfl, h1, TC.cl, TC.nl, flds_losses t, t, _, rfl, .inr (SqT.of h2), ?_⟩
    show Q (.int ((ts.map V.ref).length : Nat)) H
    rw [List.length_map, hl]
    exact k
theorem row0 {ts : List Addr} {xss : List (List Int)} {n : Nat} {R : Addr → List Int → Prop} (p : Paired R ts xss) (D : Dim xss n) : ∃ r xs, ts[0]? = some r ∧ xss[0]? = some xs ∧ R r xs ∧ xs.length = n := by
  have hl := Paired.length p
  have h1 := D.h1
  obtain ⟨r, er⟩ : ∃ r, ts[0]? = some r := ⟨ts[0]'(by omega), List.getElem?_eq_getElem _⟩
  obtain ⟨xs, ex, q⟩ := Paired.get p er
  exact ⟨r, xs, er, ex, q, (D.row xs (List.mem_of_getElem? ex)).1⟩
theorem at_ref {rs : List Addr} {i : Nat} {r : Addr} (h : rs[i]? = some r) : atI (rs.map V.ref) (i : Int) = some (.ref r) := atI_nat (by rw [List.getElem?_map, h]; rfl)
theorem at_int {xs : List Int} {i : Nat} {r : Int} (h : xs[i]? = some r) : atI (xs.map V.int) (i : Int) = some (.int r) := atI_nat (by rw [List.getElem?_map, h]; rfl)
theorem scWide : FnScope ["self"] ["self"] (defScope sWide) := ⟨rfl, rfl, rfl, by decide +kernel, rfl, by decide +kernel, by decide +kernel⟩
theorem ok_wide {f : Addr} {fd : FuncData} (F : Fun K "wide" "Floor.wide" sWide f fd) (T : Txt K mg) (TC : TxtC K C) : FnOk P w K mg base CX0 1 f fd ["self"] (spWide C) := by
  refine F.ok scWide (fun vs H Q E h => ?_) (fun cdv A outer s H vs Q E hr h => ?_)
  · obtain ⟨p, xss, n, rfl, _⟩ := h; rfl
  · obtain ⟨p, xss, n, rfl, ⟨dx, t, ts, h1, h2, h3⟩, D, k⟩ := h
    refine ⟨_, pss_one (ps_ret (pe_callB call_len_seq (by rfl) T.len PySem.boot_len (pa_cons (pe_ix ix_tup (pe_fld (pv 0) rfl) pe_int (fun _ _ => rfl)) pa_nil))), ?_⟩
    obtain ⟨r, xs, er, ex, hr', hn⟩ := row0 h3 D
    refine ⟨_, rfl, p, C, dx, _, _, rfl, h1, TC.cl, TC.nl, flds_losses t, t, _, 0, _, rfl, rfl, SqT.of h2, at_ref er, r, _, rfl, .inr (SqT.of hr'), ?_⟩
    show Q (.int ((xs.map V.int).length : Nat)) H
    rw [List.length_map, hn]
    exact k
theorem scRows : FnScope ["self"] ["self"] (defScope sRows) := ⟨rfl, rfl, rfl, by decide +kernel, rfl, by decide +kernel, by decide +kernel⟩
theorem ok_rows {f : Addr} {fd : FuncData} (F : Fun K "rows" "Floor.rows" sRows f fd) (T : Txt K mg) (TC : TxtC K C) : FnOk P w K mg base CX0 1 f fd ["self"] (spFRows C) := by
  refine F.ok scRows (fun vs H Q E h => ?_) (fun cdv A outer s H vs Q E hr h => ?_)
  · obtain ⟨p, xss, n, rfl, _⟩ := h; rfl
  · obtain ⟨p, xss, n, rfl, ⟨dx, t, ts, h1, h2, h3⟩, D, k⟩ := h
    have hl := Paired.length h3
    have hh2 := D.h2
    refine ⟨_, pss_one (ps_ret (pe_comp (N := ["row"]) (ix := [none]) (j := 0) rfl Blk.of rfl rfl rfl (pi_tup (pe_fld (pv 0) rfl)) (fun _ _ _ _ _ => pif_nil) (fun _ _ _ _ _ => pe_callTy (call_list_k (K := K) rfl) (by rfl) T.list boot_list (pa_cons (pv 0) pa_nil)))), ?_⟩
    refine ⟨_, rfl, p, C, dx, _, _, rfl, h1, TC.cl, TC.nl, flds_losses t, t, rfl, ⟨_, SqT.of h2⟩, comp_tup (xs := ts.map V.ref) (fun i ys H3 => ∃ rs, ys = rs.map V.ref ∧ Paired (LstAt H3) rs (xss.take i) ∧ Same H H3 ∧ (∀ r ∈ rs, H r = none) ∧ rs.Nodup) ⟨[], rfl, by rw [List.take_zero]; exact .nil, Same.refl H, (fun r z => nomatch z), List.nodup_nil⟩ (fun i ys H3 _ ⟨_, _, _, s3, _, _⟩ => SqT.of (s3 _ _ h2)) ?_ ?_⟩
    · rintro i y ys H3 hi ⟨rs, rfl, pt, s3, fr, nd⟩
      obtain ⟨r, er, rfl⟩ := map_ref hi
      obtain ⟨xs, ex, hr'⟩ := Paired.get h3 er
      have lt := Paired.length pt
      rw [List.length_take] at lt
      have sz : (rs.map V.ref).length < sizeLine := by rw [List.length_map]; exact small1000 (by omega)
      refine yes ⟨_, rfl, r, _, rfl, .inr (SqT.of (s3 _ _ hr')), fun l hl' => ⟨sz, rs ++ [l], by rw [List.map_append]; rfl, ?_, s3.trans (Same.upd hl'), fun z hz => ?_, ?_⟩⟩
      · rw [take_snoc ex]
        exact Paired.snoc (Paired.imp' (fun _ _ z => Same.upd hl' _ _ z) pt) upd_same
      · rcases List.mem_append.mp hz with hz | hz
        · exact fr z hz
        · rw [List.mem_singleton.mp hz]; exact s3.free hl'
      · exact nodup_snoc nd (fresh_of pt hl')
    · rintro ys H3 ⟨rs, rfl, pt, s3, fr, nd⟩ D' hD'
      rw [List.length_map, List.take_of_length_le (by omega)] at pt
      refine k D' rs _ upd_same (Paired.imp' (fun _ _ z => Same.upd hD' _ _ z) pt) (s3.trans (Same.upd hD')) (s3.free hD') fr (fun hm => ?_) nd
      obtain ⟨i, hi⟩ := List.getElem?_of_mem hm
      obtain ⟨xs, _, q⟩ := Paired.get pt hi
      exact ne_of_none q hD' rfl
end
end G

set_option Elab.async false
set_option linter.all false
set_option maxRecDepth 100000
set_option maxHeartbeats 4000000
namespace G
open PySem L2 PyProof.Rows
def RowsAt (H : Hp) (a : Addr) (rs : List Addr) (xss : List (List Int)) : Prop := H a = some (.lst (rs.map V.ref)) ∧ Paired (LstAt H) rs xss
theorem RowsAt.same {H H' : Hp} {a : Addr} {rs : List Addr} {xss : List (List Int)} (r : RowsAt H a rs xss) (s : Same H H') : RowsAt H' a rs xss := ⟨s _ _ r.1, Paired.imp' (fun _ _ z => s _ _ z) r.2⟩
theorem RowsAt.but {H H' : Hp} {a p : Addr} {rs : List Addr} {xss : List (List Int)} (r : RowsAt H a rs xss) (P : Purse H p) (b : But p H H') : RowsAt H' a rs xss := by
  obtain ⟨l, z, hp, _⟩ := P
  exact ⟨b _ _ r.1 (ne_of r.1 hp (by intro z; cases z)), Paired.imp' (fun r xs z => b _ _ z (ne_of z hp (by intro z; cases z))) r.2⟩
theorem grid_of {K : PySem.W.Frag} {H : Hp} {a : Addr} {rs : List Addr} {xss : List (List Int)} (r : RowsAt H a rs xss) : Grid K H a xss := by
  refine ⟨_, SqL.of r.1, ?_⟩
  have : ∀ {rs : List Addr} {xss : List (List Int)}, Paired (LstAt H) rs xss → Paired (RRow K H) (rs.map V.ref) xss := by
    intro rs xss h
    induction h with
    | nil => exact .nil
    | cons z _ ih => exact .cons ⟨_, rfl, SqL.of z⟩ ih
  exact this r.2

def spPurse (K : PySem.W.Frag) : Sp := fun vs H Q _ => ∃ (a : Addr) (ns : List Int), vs = [.ref a, .int 0] ∧ SqL K H a (ns.map V.int) ∧ ns.length ≤ 63 ∧ ∀ p H', Purse H' p → Same H H' → Q (.ref p) H'
def spTake : Sp := fun vs H Q _ => ∃ p r, vs = [.ref p, .int r] ∧ Purse H p ∧ 0 < r ∧ r < 115792089237316195423570985008687907853269984665640564039457584007913129639936 ∧ ∀ n H', 0 ≤ n → n < r → Purse H' p → But p H H' → Q (.int n) H'
def spDraw : Sp := fun vs H Q _ => ∃ p, vs = [.ref p] ∧ Purse H p ∧ ∀ n H', 0 ≤ n → n < E60 → Purse H' p → But p H H' → Q (.int n) H'
def spGrid : Sp := fun vs H Q _ => ∃ p, vs = [.ref p] ∧ Purse H p ∧ ∀ a rs xss n H', RowsAt H' a rs xss → Dim xss n → Purse H' p → But p H H' → Q (.ref a) H'

theorem cut1 (ns : List Int) : ∃ c, atI (cutV (ns.map V.int) (some 0) (some (0 + 1)) ++ [V.int 0]) 0 = some (V.int c) := by
  have e1 : HT.sIx (ns.map V.int).length 0 (some (0 : Int)) = 0 := by
    have := HT.sIx_nat (ns.map V.int).length 0 0
    simpa using this
  have e2 : HT.sIx (ns.map V.int).length (ns.map V.int).length (some ((0 : Int) + 1)) = min 1 (ns.map V.int).length := HT.sIx_nat (ns.map V.int).length (ns.map V.int).length 1
  unfold cutV
  rw [e1, e2]
  cases ns with
  | nil => exact ⟨0, atI_nat (j := 0) rfl⟩
  | cons n r =>
    refine ⟨n, atI_nat (j := 0) ?_⟩
    have : min 1 ((n :: r).map V.int).length - 0 = 1 := by simp
    rw [this]
    rfl
theorem merge_purse (l z : Int) : mergeK [] [(Sum.inr "left", V.int l), (Sum.inr "salt", V.int z)] = purseKv l z := by
  have h1 : valV ([(Sum.inr ("left" : Str), V.int l)] : List (Key × V)) (Sum.inr ("salt" : Str)) = none := by rw [valV_neg ls]; rfl
  show putK (putK [] (Sum.inr ("left" : Str) : Key) (V.int l)) (Sum.inr ("salt" : Str)) (V.int z) = purseKv l z
  rw [putK_new _ (valV_nil (κ := Key))]
  show putK [(Sum.inr ("left" : Str), V.int l)] (Sum.inr ("salt" : Str)) (V.int z) = purseKv l z
  rw [putK_new _ h1]
  rfl
theorem e60_big : (1000 : Int) < E60 := by decide

section
variable {P : Program} {w : World} {K : PySem.W.Frag} {mg : Str → Option Value} {base : Heap} {C : Addr}
theorem scPurse : FnScope ["_law_script", "_law_k", "_law_cell"] ["_law_script", "_law_k"] (defScope sPurse) := ⟨rfl, rfl, rfl, by decide +kernel, rfl, by decide +kernel, by decide +kernel⟩
theorem ok_purse {f : Addr} {fd : FuncData} (F : Fun K "_law_purse" "_law_purse" sPurse f fd) (T : Txt K mg) : FnOk P w K mg base CX0 1 f fd ["_law_script", "_law_k"] (spPurse K) := by
  refine F.ok scPurse (fun vs H Q E h => ?_) (fun cdv A outer s H vs Q E hr h => ?_)
  · obtain ⟨a, ns, rfl, _⟩ := h; rfl
  · obtain ⟨a, ns, rfl, hS, hn, k⟩ := h
    refine ⟨_, pss_cons (ps_set (i := 2) scPurse.nd rfl (Or.inl rfl) (pe_ix ix_list (pe_op op_cat (pe_slice sl_list (pv 0) (po_some (pv 1)) (po_some (pe_op op_add (pv 1) pe_int))) (pe_lst (pa_cons pe_int pa_nil))) pe_int (fun _ _ => rfl)))
      (pss_one (ps_ret (pe_disp (pps_cons pe_str (pv 2) (pps_cons pe_str (pe_op op_mod (pe_op op_add (pe_op op_add (pv 2) (pe_op op_mul pe_int (pv 1))) pe_int) pe_int) pps_nil)) rfl rfl (by simp) (by decide)))), ?_⟩
    obtain ⟨c, hc⟩ := cut1 ns
    refine ⟨_, rfl, _, rfl, _, rfl, _, rfl, _, _, rfl, rfl, _, rfl, a, _, rfl, hS, fun l1 hl1 => ⟨(by show 1 ≤ sizeLine; decide), fun l2 hl2 => ?_⟩⟩
    have n12 : l1 ≠ l2 := ne_of_none (H := upd H l1 _) upd_same hl2
    refine ⟨l1, l2, _, _, rfl, rfl, (by rw [upd_ne n12]; exact upd_same), upd_same, ?_, fun l3 hl3 => ⟨l3, _, _, _, rfl, rfl, SqL.of upd_same, hc, ?_⟩⟩
    · have := cutV_length (ns.map V.int) (some 0) (some (0 + 1))
      rw [List.length_map] at this
      show (cutV (ns.map V.int) (some 0) (some (0 + 1))).length + 1 ≤ sizeLine
      exact Nat.le_of_lt (small1000 (by omega))
    · refine fun p hp => ⟨_, rfl, _, rfl, _, rfl, _, _, rfl, rfl, .inl ⟨by decide, by decide⟩, _, _, rfl, rfl, _, _, rfl, rfl, _, _, rfl, rfl, (by show (0 : Int) < 18446744073709551616; decide), upd_same, [(Sum.inr "left", .int c), (Sum.inr "salt", .int _)], rfl, (by show 2 ≤ 15; decide), ?_⟩
      rw [merge_purse]
      refine k p _ ⟨c, _, upd_same, Int.emod_nonneg _ (by decide), Int.emod_lt_of_pos _ (by decide)⟩ ?_
      rw [upd_upd]
      exact (((Same.upd hl1).trans (Same.upd hl2)).trans (Same.upd hl3)).trans (Same.upd hp)
theorem scTake : FnScope ["_law_purse_here", "_law_room", "_law_more", "_law_found"] ["_law_purse_here", "_law_room"] (defScope sTake) := ⟨rfl, rfl, rfl, by decide +kernel, rfl, by decide +kernel, by decide +kernel⟩
theorem ok_take {f : Addr} {fd : FuncData} (F : Fun K "_law_take" "_law_take" sTake f fd) (T : Txt K mg) : FnOk P w K mg base CX0 1 f fd ["_law_purse_here", "_law_room"] spTake := by
  refine F.ok scTake (fun vs H Q E h => ?_) (fun cdv A outer s H vs Q E hr h => ?_)
  · obtain ⟨p, r, rfl, _⟩ := h; rfl
  · obtain ⟨p, r, rfl, ⟨l, z, hp, z1, z2⟩, r1, r2, k⟩ := h
    have hu := hu_of hr
    refine ⟨_, pss_cons (ps_if (pt_cmpR op_in_seq (pe_dget hu (pv 0) pe_str (fun _ _ => rfl)) (pe_tup (pa_cons pe_int (pa_cons (pe_un un_neg pe_int) pa_nil))) (by with_unfolding_all rfl))
        (pss_cons (ps_set (i := 2) scTake.nd rfl (Or.inl rfl) (pe_op op_add (pe_op op_mul (pe_dget hu (pv 0) pe_str (fun _ _ => rfl)) pe_int) pe_int))
        (pss_cons (ps_dput hu (pv 0) pe_str (pe_op op_mod (pv 2) pe_int) rfl)
        (pss_one (ps_ret (pe_op op_mod (pe_op op_fdivB (pe_dget hu (pv 0) pe_str (fun _ _ => rfl)) pe_int) (pv 1))))))
        pss_nil)
      (pss_cons (ps_set (i := 3) scTake.nd rfl (Or.inl rfl) (pe_op op_mod (pe_dget hu (pv 0) pe_str (fun _ _ => rfl)) (pv 1)))
      (pss_cons (ps_dput hu (pv 0) pe_str (pe_op op_fdivB (pe_dget hu (pv 0) pe_str (fun _ _ => rfl)) (pv 1)) rfl)
      (pss_one (ps_ret (pv 3))))), ?_⟩
    refine ⟨_, rfl, p, _, rfl, get_left hp, _, rfl, (by show 2 ≤ sizeLine; decide), fun t ht => ⟨t, _, rfl, .inr (SqT.of upd_same), rfl, rfl, _, rfl, ?_⟩⟩
    have npt : p ≠ t := ne_of_none hp ht
    have hp1 : upd H t (.tup [.int 0, .int (-1)]) p = some (.dK (purseKv l z)) := by rw [upd_ne npt]; exact hp
    have b1 : But p H (upd H t (.tup [.int 0, .int (-1)])) := (Same.upd ht).but
    refine ite2 (fun _ => ?_) (fun _ => ?_)
    · refine ⟨_, rfl, p, _, rfl, get_salt hp1, _, _, rfl, rfl, .inl ⟨by omega, by omega⟩, _, _, rfl, rfl, ?_⟩
      refine ⟨_, rfl, _, _, rfl, rfl, (by show (0 : Int) < 18446744073709551616; decide), _, rfl, p, _, rfl, set_salt _ hp1, ?_⟩
      refine ⟨_, rfl, p, _, rfl, get_salt upd_same, _, _, rfl, rfl, ⟨by decide, by decide⟩, _, rfl, _, _, rfl, rfl, r1, ?_⟩
      exact k _ _ (Int.emod_nonneg _ (by omega)) (Int.emod_lt_of_pos _ r1) ⟨l, _, upd_same, Int.emod_nonneg _ (by decide), Int.emod_lt_of_pos _ (by decide)⟩ (b1.trans But.upd)
    · refine ⟨_, rfl, p, _, rfl, get_left hp1, _, rfl, _, _, rfl, rfl, r1, ?_⟩
      refine ⟨_, rfl, p, _, rfl, get_left hp1, _, rfl, _, _, rfl, rfl, ⟨r1, r2⟩, _, rfl, p, _, rfl, set_left _ hp1, ?_⟩
      exact ⟨_, rfl, k _ _ (Int.emod_nonneg _ (by omega)) (Int.emod_lt_of_pos _ r1) ⟨_, z, upd_same, z1, z2⟩ (b1.trans But.upd)⟩
def pw : Nat → Int
  | 0 => 1000000000000
  | k + 1 => pw k * 1000000000000
theorem pw4 : pw 4 = E60 := by decide
theorem scDraw : FnScope ["_law_purse_here", "_law_kind", "_law_small", "_law_found", "_law_k"] ["_law_purse_here"] (defScope sDraw) := ⟨rfl, rfl, rfl, by decide +kernel, rfl, by decide +kernel, by decide +kernel⟩
theorem ok_draw {f : Addr} {fd : FuncData} (F : Fun K "_law_loss" "_law_loss" sDraw f fd) (T : Txt K mg) (D1 : Callee P w K mg base 1 "_law_take" ["_law_purse_here", "_law_room"] spTake) : FnOk P w K mg base CX0 2 f fd ["_law_purse_here"] spDraw := by
  refine F.ok scDraw (fun vs H Q E h => ?_) (fun cdv A outer s H vs Q E hr h => ?_)
  · obtain ⟨p, rfl, _⟩ := h; rfl
  · obtain ⟨p, rfl, P0, k⟩ := h
    refine ⟨_, pss_cons (ps_set (i := 1) scDraw.nd rfl (Or.inl rfl) (pe_fn D1 hr (pa_cons (pv 0) (pa_cons pe_int pa_nil))))
      (pss_cons (ps_if (pt_cmpR op_lt (pv 1) pe_int (nomark _)) (pss_one (ps_ret (pe_ix ix_list (pe_lst (pa_cons pe_int (pa_cons pe_int (pa_cons pe_int (pa_cons pe_int (pa_cons pe_int pa_nil)))))) (pv 1) (fun _ _ => rfl)))) pss_nil)
      (pss_cons (ps_if (pt_cmpR op_eq (pv 1) pe_int (nomark _)) (pss_one (ps_ret (pe_op op_add pe_int (pe_fn D1 hr (pa_cons (pv 0) (pa_cons pe_int pa_nil)))))) pss_nil)
      (pss_cons (ps_set (i := 2) scDraw.nd rfl (Or.inl rfl) pe_int)
      (pss_cons (ps_set (i := 3) scDraw.nd rfl (Or.inl rfl) (pe_fn D1 hr (pa_cons (pv 0) (pa_cons (pv 2) pa_nil))))
      (pss_cons (ps_if (pt_cmpR op_eq (pv 1) pe_int (nomark _)) (pss_one (ps_for PassesOwn.never rfl (pi_range1 (by rfl) T.range (pa_cons pe_int pa_nil)) (pg_name (i := 4) scDraw.nd rfl (Or.inl rfl))
          (pss_one (ps_set (i := 3) scDraw.nd rfl (Or.inl rfl) (pe_op op_add (pe_op op_mul (pv 3) (pv 2)) (pe_fn D1 hr (pa_cons (pv 0) (pa_cons (pv 2) pa_nil)))))))) pss_nil)
      (pss_one (ps_ret (pe_callB (call_max2 rfl) (by rfl) T.max boot_max (pa_cons pe_int (pa_cons (pv 3) pa_nil)))))))))), ?_⟩
    refine ⟨_, rfl, p, 8, rfl, P0, by decide, by decide, fun kd H1 kd1 kd2 P1 b1 => ?_⟩
    refine ⟨_, rfl, _, _, rfl, rfl, _, rfl, ?_⟩
    refine ite2 (fun c => ?_) (fun c => ?_)
    · have hk : kd < 5 := of_decide_eq_true c
      refine ⟨(by show 5 ≤ sizeLine; decide), fun l hl => ?_⟩
      have fin : ∀ v : Int, 0 ≤ v → v < E60 → Q (.int v) (upd H1 l (.lst [.int 0, .int 1, .int 1, .int 0, .int 1])) := fun v v1 v2 => k v _ v1 v2 (P1.same (Same.upd hl)) (b1.new hl)
      have h5 : kd = 0 ∨ kd = 1 ∨ kd = 2 ∨ kd = 3 ∨ kd = 4 := by omega
      rcases h5 with rfl | rfl | rfl | rfl | rfl
      · exact ⟨_, rfl, l, _, _, _, rfl, rfl, SqL.of upd_same, atI_nat (j := 0) rfl, fin 0 (by decide) (by decide)⟩
      · exact ⟨_, rfl, l, _, _, _, rfl, rfl, SqL.of upd_same, atI_nat (j := 1) rfl, fin 1 (by decide) (by decide)⟩
      · exact ⟨_, rfl, l, _, _, _, rfl, rfl, SqL.of upd_same, atI_nat (j := 2) rfl, fin 1 (by decide) (by decide)⟩
      · exact ⟨_, rfl, l, _, _, _, rfl, rfl, SqL.of upd_same, atI_nat (j := 3) rfl, fin 0 (by decide) (by decide)⟩
      · exact ⟨_, rfl, l, _, _, _, rfl, rfl, SqL.of upd_same, atI_nat (j := 4) rfl, fin 1 (by decide) (by decide)⟩
    · refine ⟨_, rfl, rfl, _, rfl, ?_⟩
      refine ite2 (fun _ => ?_) (fun _ => ?_)
      · refine ⟨_, rfl, p, 9, rfl, P1, by decide, by decide, fun n H2 n1 n2 P2 b2 => ⟨_, _, rfl, rfl, k _ _ (by omega) (by have := e60_big; omega) P2 (b1.trans b2)⟩⟩
      · refine ⟨_, rfl, _, rfl, p, _, rfl, P1, by decide, by decide, fun f0 H2 f1 f2 P2 b2 => ?_⟩
        have last : ∀ (v : Int) (H' : Hp) (x : Option V), 0 ≤ v → v < E60 → Purse H' p → But p H H' → (tRet (tCB (fun xs H Q => ∃ i j, xs = [.int i, .int j] ∧ Q (.int (if j > i then j else i)) H) (tCons (tC (.int 2)) (tCons (tVar 3) tNil)))) { nx := fun _ H' => Q .non H', rt := Q } [some (.ref p), some (.int kd), some (.int 1000000000000), some (.int v), x] H' := fun v H' x v1 v2 P' b' => by
          refine ⟨_, rfl, 2, v, rfl, ?_⟩
          split
          · exact k _ _ (by omega) v2 P' b'
          · exact k _ _ (by decide) (by decide) P' b'
        refine ⟨_, rfl, rfl, _, rfl, ?_⟩
        refine ite2 (fun _ => ?_) (fun _ => ?_)
        · refine ⟨4, rfl, by decide, by decide, for_range (n := 4) (fun i σ H3 => ∃ v x, σ = [some (.ref p), some (.int kd), some (.int 1000000000000), some (.int v), x] ∧ 0 ≤ v ∧ v < pw i ∧ Purse H3 p ∧ But p H H3) ⟨f0, none, rfl, f1, f2, P2, b1.trans b2⟩ ?_ ?_⟩
          · rintro i σ H3 hi ⟨v, x, rfl, v1, v2, P3, b3⟩
            refine ⟨_, rfl, _, rfl, _, _, rfl, rfl, .inr ⟨by decide, by decide⟩, _, rfl, _, rfl, p, _, rfl, P3, by decide, by decide, fun t H4 t1 t2 P4 b4 => ⟨_, _, rfl, rfl, _, _, rfl, ?_, ?_, P4, b3.trans b4⟩⟩
            · omega
            · show _ < pw i * 1000000000000
              omega
          · rintro σ H3 ⟨v, x, rfl, v1, v2, P3, b3⟩
            exact last v H3 x v1 (by rw [← pw4]; exact v2) P3 b3
        · exact last f0 H2 none f1 (by have : (1000000000000 : Int) < E60 := by decide
                                       omega) P2 (b1.trans b2)
end
end G

set_option Elab.async false
set_option linter.all false
set_option maxRecDepth 100000
set_option maxHeartbeats 4000000
namespace G
open PySem L2 PyProof.Rows
section
variable {P : Program} {w : World} {K : PySem.W.Frag} {mg : Str → Option Value} {base : Heap} {C : Addr}
theorem scGrid : FnScope ["_law_purse_here", "_law_most", "_law_high", "_law_wide"] ["_law_purse_here"] (defScope sGrid) := ⟨rfl, rfl, rfl, by decide +kernel, rfl, by decide +kernel, by decide +kernel⟩
theorem ok_grid {f : Addr} {fd : FuncData} (F : Fun K "_law_rows" "_law_rows" sGrid f fd) (T : Txt K mg) (D1 : Callee P w K mg base 1 "_law_take" ["_law_purse_here", "_law_room"] spTake) (D2 : Callee P w K mg base 2 "_law_loss" ["_law_purse_here"] spDraw) :
    FnOk P w K mg base CX0 3 f fd ["_law_purse_here"] spGrid := by
  refine F.ok scGrid (fun vs H Q E h => ?_) (fun cdv A outer s H vs Q E hr h => ?_)
  · obtain ⟨p, rfl, _⟩ := h; rfl
  · obtain ⟨p, rfl, P0, k⟩ := h
    have hr1 : Room 1 _ := hr.mono (by decide)
    refine ⟨_, pss_cons (ps_set (i := 1) scGrid.nd rfl (Or.inl rfl) (pe_ix ix_list (pe_lst (pa_cons pe_int (pa_cons pe_int (pa_cons pe_int (pa_cons pe_int pa_nil))))) (pe_fn D1 hr1 (pa_cons (pv 0) (pa_cons pe_int pa_nil))) (fun _ _ => rfl)))
      (pss_cons (ps_set (i := 2) scGrid.nd rfl (Or.inl rfl) (pe_op op_add pe_int (pe_fn D1 hr1 (pa_cons (pv 0) (pa_cons (pv 1) pa_nil)))))
      (pss_cons (ps_set (i := 3) scGrid.nd rfl (Or.inr rfl) (pe_op op_add pe_int (pe_fn D1 hr1 (pa_cons (pv 0) (pa_cons (pv 1) pa_nil)))))
      (pss_one (ps_ret (pe_comp (N := ["_law_row", "_law_purse_here", "_law_wide"]) (ix := [none, some 0, some 3]) (j := 0) rfl Blk.of rfl rfl rfl (pi_range1 (by rfl) T.range (pa_cons (pv 2) pa_nil)) (fun _ _ _ _ _ => pif_nil)
        (fun _ _ _ _ _ => pe_comp (N := ["_law_column", "_law_purse_here"]) (ix := [none, some 1]) (j := 0) rfl Blk.of rfl rfl rfl (pi_range1 (by rfl) T.range (pa_cons (pv 2) pa_nil)) (fun _ _ _ _ _ => pif_nil)
          (fun _ _ _ _ _ => pe_fn D2 hr (pa_cons (pv 1) pa_nil)))))))), ?_⟩
    refine ⟨(by show 4 ≤ sizeLine; decide), fun l hl => ⟨_, rfl, p, 4, rfl, P0.same (Same.upd hl), by decide, by decide, fun m H1 m1 m2 P1 b1 => ?_⟩⟩
    have npl : p ≠ l := by
      obtain ⟨_, _, e, _⟩ := P0
      exact ne_of_none e hl
    have hl1 : H1 l = some (.lst [.int 5, .int 30, .int 3, .int 9]) := b1 _ _ upd_same npl.symm
    have b1' : But p H H1 := (Same.upd hl).but.trans b1
    obtain ⟨mo, mo1, mo2, hm⟩ : ∃ mo : Int, 1 ≤ mo ∧ mo ≤ 30 ∧ atI [V.int 5, .int 30, .int 3, .int 9] m = some (.int mo) := by
      have h4 : m = 0 ∨ m = 1 ∨ m = 2 ∨ m = 3 := by omega
      rcases h4 with rfl | rfl | rfl | rfl
      · exact ⟨5, by decide, by decide, atI_nat (j := 0) rfl⟩
      · exact ⟨30, by decide, by decide, atI_nat (j := 1) rfl⟩
      · exact ⟨3, by decide, by decide, atI_nat (j := 2) rfl⟩
      · exact ⟨9, by decide, by decide, atI_nat (j := 3) rfl⟩
    refine ⟨l, _, _, _, rfl, rfl, SqL.of hl1, hm, ?_⟩
    refine ⟨_, rfl, _, rfl, p, mo, rfl, P1, by omega, by omega, fun h0 H2 h1 h2 P2 b2 => ⟨_, _, rfl, rfl, ?_⟩⟩
    refine ⟨_, rfl, _, rfl, p, mo, rfl, P2, by omega, by omega, fun w0 H3 w1 w2 P3 b3 => ⟨_, _, rfl, rfl, ?_⟩⟩
    have b3' : But p H H3 := (b1'.trans b2).trans b3
    refine ⟨_, rfl, _, rfl, by omega, by omega, comp_range (n := (1 + h0).toNat) (fun i ys H4 => ∃ rs xss, ys = rs.map V.ref ∧ Paired (LstAt H4) rs xss ∧ xss.length = i ∧ (∀ xs ∈ xss, xs.length = (1 + w0).toNat ∧ okL xs) ∧ Purse H4 p ∧ But p H H4)
      ⟨[], [], rfl, .nil, rfl, (fun xs z => nomatch z), P3, b3'⟩ ?_ ?_⟩
    · rintro i ys H4 hi ⟨rs, xss, rfl, pr, hlen, hg, P4, b4⟩
      have hln := Paired.length pr
      have sz : (rs.map V.ref).length < sizeLine := by rw [List.length_map]; exact small1000 (by omega)
      refine yes ⟨_, rfl, _, rfl, by omega, by omega, comp_range (n := (1 + w0).toNat) (fun i ys H5 => ∃ xs, ys = xs.map V.int ∧ xs.length = i ∧ okL xs ∧ Purse H5 p ∧ But p H4 H5) ⟨[], rfl, rfl, (fun v z => nomatch z), P4, But.refl p H4⟩ ?_ ?_⟩
      · rintro i' ys' H5 hi' ⟨xs, rfl, hl', ok', P5, b5⟩
        refine yes ⟨_, rfl, p, rfl, P5, fun v H6 v1 v2 P6 b6 => ⟨by rw [List.length_map]; exact small1000 (by omega), xs ++ [v], by rw [List.map_append]; rfl, by rw [List.length_append, List.length_singleton, hl'], fun z hz => ?_, P6, b5.trans b6⟩⟩
        rcases List.mem_append.mp hz with hz | hz
        · exact ok' z hz
        · rw [List.mem_singleton.mp hz]; exact ⟨v1, v2⟩
      · rintro ys' H5 ⟨xs, rfl, hl', ok', P5, b5⟩ D hD
        refine ⟨sz, rs ++ [D], xss ++ [xs], by rw [List.map_append]; rfl, ?_, by rw [List.length_append, List.length_singleton, hlen], fun z hz => ?_, P5.same (Same.upd hD), (b4.trans b5).new hD⟩
        · obtain ⟨_, _, e4, _⟩ := P4
          exact Paired.snoc (Paired.imp' (fun r x z => Same.upd hD _ _ (b5 _ _ z (ne_of z e4 (by intro z; cases z)))) pr) upd_same
        · rcases List.mem_append.mp hz with hz | hz
          · exact hg z hz
          · rw [List.mem_singleton.mp hz]; exact ⟨hl', ok'⟩
    · rintro ys H4 ⟨rs, xss, rfl, pr, hlen, hg, P4, b4⟩ D hD
      exact k D rs xss (1 + w0).toNat _ ⟨upd_same, Paired.imp' (fun r x z => Same.upd hD _ _ z) pr⟩ ⟨by omega, by omega, by omega, by omega, hg⟩ (P4.same (Same.upd hD)) (b4.new hD)
end
end G

set_option Elab.async false
set_option linter.all false
set_option maxRecDepth 100000
set_option maxHeartbeats 4000000
namespace G
open PySem L2 PyProof.Rows
inductive HasV (H : Hp) (h n : Nat) : V → Bool → Prop
  | no (x : V) : NotListed H x → HasV H h n x false
  | len (a : Addr) (kd : Bool) (xs : List V) : H a = some (sq kd xs) → xs.length ≠ 2 → HasV H h n (.ref a) false
  | two (a : Addr) (kd : Bool) (u v : V) : H a = some (sq kd [u, v]) → Plain H u → Plain H v → HasV H h n (.ref a) (inR h u && inR n v)
theorem NotListed.same {H H' : Hp} {x : V} (p : NotListed H x) (s : Same H H') : NotListed H' x := by
  cases p with
  | non => exact .non
  | int i => exact .int i
  | str t => exact .str t
  | dct a h => exact .dct a (s _ _ h)
theorem HasV.same {H H' : Hp} {h n : Nat} {x : V} {b : Bool} (p : HasV H h n x b) (s : Same H H') : HasV H' h n x b := by
  cases p with
  | no x q => exact .no x (q.same s)
  | len a kd xs e l => exact .len a kd xs (s _ _ e) l
  | two a kd u v e p1 p2 => exact .two a kd u v (s _ _ e) (p1.same s) (p2.same s)
theorem HasV.but {H H' : Hp} {h n : Nat} {x : V} {b : Bool} {p : Addr} (q : HasV H h n x b) (P : Purse H p) (s : But p H H') : HasV H' h n x b := by
  obtain ⟨l, z, hp, _⟩ := P
  have st : ∀ b o, H b = some o → (∀ l z, o ≠ .dK (purseKv l z)) → H' b = some o := fun b o e n => s b o e fun q => by rw [q, hp] at e; exact n l z (Option.some.inj e).symm
  have pl : ∀ {u : V}, Plain H u → Plain H' u := fun {u} p => by
    cases p with
    | non => exact .non
    | bl b => exact .bl b
    | int i => exact .int i
    | str t => exact .str t
    | tup a xs h => exact .tup a xs (st _ _ h fun l z q => by cases q)
    | lst a xs h => exact .lst a xs (st _ _ h fun l z q => by cases q)
  cases q with
  | no x q => cases q with
    | non => exact .no _ .non
    | int i => exact .no _ (.int i)
    | str t => exact .no _ (.str t)
    | dct a h => exact .no _ (.dct a (st _ _ h fun l z q => by cases q))
  | len a kd xs e l => exact .len a kd xs (st _ _ e fun l z q => by cases kd <;> cases q) l
  | two a kd u v e p1 p2 => exact .two a kd u v (st _ _ e fun l z q => by cases kd <;> cases q) (pl p1) (pl p2)
theorem Place.has {H : Hp} {q : Addr} {xss : List (List Int)} {n i j : Nat} (p : Place H q xss n i j) : HasV H xss.length n (.ref q) true := by
  obtain ⟨⟨kd, h⟩, hi, hj⟩ := p
  have z := HasV.two (h := xss.length) (n := n) q kd (.int i) (.int j) h (.int _) (.int _)
  have e : (inR xss.length (.int i) && inR n (.int j)) = true := by
    show ((decide ((0 : Int) ≤ i) && decide ((i : Int) < xss.length)) && (decide ((0 : Int) ≤ j) && decide ((j : Int) < n))) = true
    rw [decide_eq_true (show (0 : Int) ≤ (i : Int) by omega), decide_eq_true (show (i : Int) < (xss.length : Int) by omega), decide_eq_true (show (0 : Int) ≤ (j : Int) by omega), decide_eq_true (show (j : Int) < (n : Int) by omega)]
    rfl
  rw [e] at z
  exact z
theorem Place.same {H H' : Hp} {q : Addr} {xss : List (List Int)} {n i j : Nat} (p : Place H q xss n i j) (s : Same H H') : Place H' q xss n i j := ⟨let ⟨kd, h⟩ := p.at_; ⟨kd, s _ _ h⟩, p.hi, p.hj⟩
theorem place_of {H : Hp} {xss : List (List Int)} {n : Nat} {x : V} (p : HasV H xss.length n x true) : ∃ q i j, x = .ref q ∧ Place H q xss n i j := by
  generalize hb : true = b at p
  cases p with
  | no x q => cases hb
  | len a kd xs e l => cases hb
  | two a kd u v e p1 p2 =>
    obtain ⟨b1, b2⟩ := Bool.and_eq_true_iff.mp hb.symm
    cases p1 with
    | int i =>
      cases p2 with
      | int j =>
        obtain ⟨i1, i2⟩ := Bool.and_eq_true_iff.mp (show (decide (0 ≤ i) && decide (i < (xss.length : Int))) = true from b1)
        obtain ⟨j1, j2⟩ := Bool.and_eq_true_iff.mp (show (decide (0 ≤ j) && decide (j < (n : Int))) = true from b2)
        have i1 := of_decide_eq_true i1
        have i2 := of_decide_eq_true i2
        have j1 := of_decide_eq_true j1
        have j2 := of_decide_eq_true j2
        obtain ⟨i', rfl⟩ := Int.eq_ofNat_of_zero_le i1
        obtain ⟨j', rfl⟩ := Int.eq_ofNat_of_zero_le j1
        exact ⟨a, i', j', rfl, ⟨kd, e⟩, by omega, by omega⟩
      | _ => exact absurd (show false = true from b2) Bool.false_ne_true
    | _ => exact absurd (show false = true from b1) Bool.false_ne_true

def spHasG (C : Addr) : Sp := fun vs H Q _ => ∃ p x xss n b, vs = [.ref p, x] ∧ FloorAt C H p xss ∧ Dim xss n ∧ HasV H xss.length n x b ∧ ∀ H', Same H H' → Q (.bl b) H'
def spCheckE (C CP : Addr) : Sp := fun vs H Q E => ∃ p x xss n b, vs = [.ref p, x] ∧ FloorAt C H p xss ∧ Dim xss n ∧ HasV H xss.length n x b ∧ ∀ H', Same H H' → if b = true then Q .non H' else E (.ref CP) none H'
def lossAt (xss : List (List Int)) (i j : Nat) : Int := ((xss[i]?).getD [])[j]?.getD 0
def spLossE (C CP : Addr) : Sp := fun vs H Q E => ∃ p x xss n, vs = [.ref p, x] ∧ FloorAt C H p xss ∧ Dim xss n ∧ ((HasV H xss.length n x false ∧ ∀ H', Same H H' → E (.ref CP) none H') ∨ (∃ q i j, x = .ref q ∧ Place H q xss n i j ∧ ∀ H', Same H H' → Q (.int (lossAt xss i j)) H'))
theorem lossAt_of {xss : List (List Int)} {i j : Nat} {xs : List Int} {v : Int} (h1 : xss[i]? = some xs) (h2 : xs[j]? = some v) : lossAt xss i j = v := by
  unfold lossAt
  rw [h1]
  show xs[j]?.getD 0 = v
  rw [h2]; rfl
def PairAt (H : Hp) (r : Addr) (p : Int × Int) : Prop := H r = some (.tup [.int p.1, .int p.2])
def openAt (xss : List (List Int)) (n : Nat) (p : Int × Int) : Bool := (inR xss.length (.int p.1) && inR n (.int p.2)) && !decide (lossAt xss p.1.toNat p.2.toNat = 0)
def around (i j : Int) : List (Int × Int) := [(i - 1, j), (i, j - 1), (i, j + 1), (i + 1, j)]
def besideL (xss : List (List Int)) (n : Nat) (i j : Nat) : List (Int × Int) := (around i j).filter (openAt xss n)
def spBesideE (C CP : Addr) : Sp := fun vs H Q E => ∃ p x xss n, vs = [.ref p, x] ∧ FloorAt C H p xss ∧ Dim xss n ∧ ((HasV H xss.length n x false ∧ ∀ H', Same H H' → E (.ref CP) none H') ∨ (∃ q i j, x = .ref q ∧ Place H q xss n i j ∧
  ∀ a as H', H' a = some (.lst (as.map V.ref)) → Paired (PairAt H') as (besideL xss n i j) → Same H H' → H a = none → Q (.ref a) H'))
structure TxtP (K : PySem.W.Frag) (mg : Str → Option Value) (CP : Addr) : Prop where
  mgP : mg "NoPlace" = some (.ref CP)
  exP : PySem.W.excIn K CP bmV "ValueError.__new__" = true
  exm : PySem.W.exmOne K (.ref CP) (.ref CP) = some true
inductive PairV (H : Hp) : V → Bool → Prop
  | no (x : V) (nl : NotListed H x) : PairV H x false
  | len (a : Addr) (kd : Bool) (xs : List V) (ha : H a = some (sq kd xs)) (nl : xs.length ≠ 2) : PairV H (.ref a) false
  | two (a : Addr) (kd : Bool) (u v : V) (ha : H a = some (sq kd [u, v])) : PairV H (.ref a) true
def spPair : Sp := fun vs H Q _ => ∃ x c, vs = [x] ∧ PairV H x c ∧ ∀ H', Same H H' → Q (.bl c) H'
def spAround : Sp := fun vs H Q _ => ∃ (q : Addr) (kd : Bool) (i j : Nat), vs = [.ref q] ∧ H q = some (sq kd [.int i, .int j]) ∧ ∀ L ts H', H' L = some (.lst (ts.map V.ref)) → Paired (PairAt H') ts (around i j) → Same H H' → Q (.ref L) H'
def spIsWall (C : Addr) : Sp := fun vs H Q _ => ∃ p q xss n i j, vs = [.ref p, .ref q] ∧ FloorAt C H p xss ∧ Dim xss n ∧ Place H q xss n i j ∧ Q (.bl (decide (lossAt xss i j = 0))) H
section
variable {P : Program} {w : World} {K : PySem.W.Frag} {mg : Str → Option Value} {base : Heap} {C CP : Addr}
theorem scPair : FnScope ["value"] ["value"] (defScope sPair) := ⟨rfl, rfl, rfl, by decide +kernel, rfl, by decide +kernel, by decide +kernel⟩
theorem ok_pair {f : Addr} {fd : FuncData} (F : Fun K "is_pair" "is_pair" sPair f fd) (T : Txt K mg) (D1 : Callee P w K mg base 1 "is_listed" ["value"] spListedG) : FnOk P w K mg base CX0 2 f fd ["value"] spPair := by
  refine F.ok scPair (fun vs H Q E h => ?_) (fun cdv A outer s H vs Q E hr h => ?_)
  · obtain ⟨x, c, rfl, _⟩ := h; rfl
  · obtain ⟨x, c, rfl, pv', k⟩ := h
    refine ⟨_, pss_one (ps_ret (pe_and (pe_fn D1 hr (pa_cons (pv 0) pa_nil)) (pe_one (pe_cmpR op_eq (pe_callB call_len_seq (by rfl) T.len PySem.boot_len (pa_cons (pv 0) pa_nil)) pe_int (nomark _))))), ?_⟩
    cases pv' with
    | no x nl => exact ⟨_, rfl, x, false, rfl, .inr ⟨rfl, nl⟩, fun H1 s1 => ⟨false, rfl, iteF (k H1 s1)⟩⟩
    | len a kd xs ha nl =>
      refine ⟨_, rfl, .ref a, true, rfl, .inl ⟨rfl, a, kd, xs, rfl, ha⟩, fun H1 s1 => ⟨true, rfl, iteT ?_⟩⟩
      refine ⟨_, rfl, a, _, rfl, (SqB.of (s1 _ _ ha)).or, rfl, ?_⟩
      have ne : ¬ (V.int (xs.length : Nat) = V.int 2) := fun z => nl (by injection z with z; omega)
      rw [decide_eq_false ne]
      exact k H1 s1
    | two a kd u v ha =>
      refine ⟨_, rfl, .ref a, true, rfl, .inl ⟨rfl, a, kd, _, rfl, ha⟩, fun H1 s1 => ⟨true, rfl, iteT ?_⟩⟩
      exact ⟨_, rfl, a, _, rfl, (SqB.of (s1 _ _ ha)).or, rfl, k H1 s1⟩
theorem scHas : FnScope ["self", "place"] ["self", "place"] (defScope sHas) := ⟨rfl, rfl, rfl, by decide +kernel, rfl, by decide +kernel, by decide +kernel⟩
theorem ok_hasG {f : Addr} {fd : FuncData} (F : Fun K "has" "Floor.has" sHas f fd) (T : Txt K mg) (TC : TxtC K C) (D1 : Callee P w K mg base 2 "is_pair" ["value"] spPair) (D2 : Callee P w K mg base 2 "is_within" ["value", "end"] spWithinG)
    (M1 : MCallee P w K mg base C 1 "high" ["self"] (spHigh C)) (M2 : MCallee P w K mg base C 1 "wide" ["self"] (spWide C)) : FnOk P w K mg base CX0 3 f fd ["self", "place"] (spHasG C) := by
  refine F.ok scHas (fun vs H Q E h => ?_) (fun cdv A outer s H vs Q E hr h => ?_)
  · obtain ⟨p, x, xss, n, b, rfl, _⟩ := h; rfl
  · obtain ⟨p, x, xss, n, b, rfl, fl, D, hv, k⟩ := h
    have hr1 : Room 1 _ := hr.mono (by decide)
    refine ⟨_, pss_cons (ps_if (pt_not (pt_val (pe_fn D1 hr (pa_cons (pv 1) pa_nil)))) (pss_one (ps_ret pe_bl)) pss_nil)
      (pss_one (ps_ret (pe_and (pe_fn D2 hr (pa_cons (pe_ix ix_seq (pv 1) pe_int (fun _ _ => rfl)) (pa_cons (pe_m0 (pv 0) TC.cl M1 hr1) pa_nil)))
        (pe_one (pe_fn D2 hr (pa_cons (pe_ix ix_seq (pv 1) pe_int (fun _ _ => rfl)) (pa_cons (pe_m0 (pv 0) TC.cl M2 hr1) pa_nil))))))), ?_⟩
    cases hv with
    | no x nl => exact ⟨_, rfl, x, false, rfl, .no x nl, fun H1 s1 => ⟨false, rfl, iteT (k H1 s1)⟩⟩
    | len a kd xs ha nl => exact ⟨_, rfl, .ref a, false, rfl, .len a kd xs ha nl, fun H1 s1 => ⟨false, rfl, iteT (k H1 s1)⟩⟩
    | two a kd u v ha p1 p2 =>
      refine ⟨_, rfl, .ref a, true, rfl, .two a kd u v ha, fun H1 s1 => ⟨true, rfl, iteF ?_⟩⟩
      have ha1 := s1 _ _ ha
      obtain ⟨dx, t, ts, h1, h2, h3⟩ := fl.same s1
      refine ⟨_, rfl, ixB (SqB.of ha1) (atI_nat (j := 0) rfl) ⟨_, rfl, p, dx, _, rfl, h1, flds_no t (by decide +kernel), p, xss, rfl, ⟨dx, t, ts, h1, h2, h3⟩, u, _, rfl, p1.same s1, _, rfl, ?_⟩⟩
      cases hb : inR xss.length u with
      | false =>
        refine iteF ?_
        have k1 := k H1 s1
        rw [hb, Bool.false_and] at k1
        exact k1
      | true =>
        refine iteT ⟨_, rfl, ixB (SqB.of ha1) (atI_nat (j := 1) rfl) ⟨_, rfl, p, dx, _, rfl, h1, flds_no t (by decide +kernel), p, xss, n, rfl, ⟨dx, t, ts, h1, h2, h3⟩, D, v, _, rfl, p2.same s1, ?_⟩⟩
        have k1 := k H1 s1
        rw [hb, Bool.true_and] at k1
        exact k1
theorem scCheck : FnScope ["self", "place"] ["self", "place"] (defScope sCheck) := ⟨rfl, rfl, rfl, by decide +kernel, rfl, by decide +kernel, by decide +kernel⟩
theorem ok_checkE {f : Addr} {fd : FuncData} (F : Fun K "check_place" "Floor.check_place" sCheck f fd) (T : Txt K mg) (TC : TxtC K C) (TP : TxtP K mg CP) (M1 : MCallee P w K mg base C 3 "has" ["self", "place"] (spHasG C)) : FnOk P w K mg base (CXe P w) 4 f fd ["self", "place"] (spCheckE C CP) := by
  refine F.okE scCheck (fun vs H Q E h => ?_) (fun cdv A outer s H vs Q E hr hh h => ?_)
  · obtain ⟨p, x, xss, n, b, rfl, _⟩ := h; rfl
  · obtain ⟨p, x, xss, n, b, rfl, fl, D, hv, k⟩ := h
    refine ⟨_, pss_one (ps_if (pt_not (pt_val (pe_m (pv 0) TC.cl M1 hr (pa_cons (pv 1) pa_nil)))) (pss_one (ps_raise hh TP.exP (by rfl) TP.mgP (pa_cons pe_str pa_nil))) pss_nil), ?_⟩
    obtain ⟨dx, t, ts, h1, h2, h3⟩ := id fl
    refine ⟨_, rfl, p, dx, _, rfl, h1, flds_no t (by decide +kernel), _, rfl, p, x, xss, n, b, rfl, fl, D, hv, fun H1 s1 => ⟨b, rfl, ?_⟩⟩
    have k1 := k H1 s1
    cases b with
    | true => exact iteF k1
    | false => exact iteT ⟨(by show 1 ≤ sizeLine; decide), k1⟩
theorem scLoss : FnScope ["self", "place"] ["self", "place"] (defScope sLoss) := ⟨rfl, rfl, rfl, by decide +kernel, rfl, by decide +kernel, by decide +kernel⟩
theorem ok_lossE {f : Addr} {fd : FuncData} (F : Fun K "loss" "Floor.loss" sLoss f fd) (T : Txt K mg) (TC : TxtC K C) (M1 : MCalleeE P w K mg base C 4 "check_place" ["self", "place"] (spCheckE C CP)) : FnOk P w K mg base (CXe P w) 5 f fd ["self", "place"] (spLossE C CP) := by
  refine F.okE scLoss (fun vs H Q E h => ?_) (fun cdv A outer s H vs Q E hr hh h => ?_)
  · obtain ⟨p, x, xss, n, rfl, _⟩ := h; rfl
  · obtain ⟨p, x, xss, n, rfl, fl, D, k⟩ := h
    refine ⟨_, pss_cons (ps_expr (pe_mE (pv 0) TC.cl M1 passE hr (pa_cons (pv 1) pa_nil)))
      (pss_one (ps_ret (pe_ix ix_tup (pe_ix ix_tup (pe_fld (pv 0) rfl) (pe_ix ix_seq (pv 1) pe_int (fun _ _ => rfl)) (fun _ _ => rfl)) (pe_ix ix_seq (pv 1) pe_int (fun _ _ => rfl)) (fun _ _ => rfl)))), ?_⟩
    obtain ⟨dx, t, ts, h1, h2, h3⟩ := id fl
    rcases k with ⟨hv, k⟩ | ⟨q, i, j, rfl, pl, k⟩
    · exact ⟨_, rfl, p, dx, _, rfl, h1, flds_no t (by decide +kernel), _, rfl, p, x, xss, n, false, rfl, fl, D, hv, fun H1 s1 => iteF (k H1 s1)⟩
    · refine ⟨_, rfl, p, dx, _, rfl, h1, flds_no t (by decide +kernel), _, rfl, p, .ref q, xss, n, true, rfl, fl, D, pl.has, fun H1 s1 => iteT ?_⟩
      obtain ⟨⟨kd, hq⟩, hi, hj⟩ := id pl
      have hl := Paired.length h3
      obtain ⟨r, er⟩ : ∃ r, ts[i]? = some r := ⟨ts[i]'(by omega), List.getElem?_eq_getElem _⟩
      obtain ⟨xs, ex, hx⟩ := Paired.get h3 er
      have hn := (D.row xs (List.mem_of_getElem? ex)).1
      obtain ⟨v, ev⟩ : ∃ v, xs[j]? = some v := ⟨xs[j]'(by omega), List.getElem?_eq_getElem _⟩
      have hq1 := s1 _ _ hq
      have k1 := k H1 s1
      rw [lossAt_of ex ev] at k1
      exact ⟨_, rfl, p, C, dx, _, _, rfl, s1 _ _ h1, TC.cl, TC.nl, flds_losses t, _, rfl, ixB (SqB.of hq1) (atI_nat (j := 0) rfl) ⟨t, _, _, _, rfl, rfl, SqT.of (s1 _ _ h2), at_ref er, _, rfl, ixB (SqB.of hq1) (atI_nat (j := 1) rfl) ⟨r, _, _, _, rfl, rfl, SqT.of (s1 _ _ hx), at_int ev, k1⟩⟩⟩
theorem scAround : FnScope ["place", "row", "column"] ["place"] (defScope sAround) := ⟨rfl, rfl, rfl, by decide +kernel, rfl, by decide +kernel, by decide +kernel⟩
theorem ok_around {f : Addr} {fd : FuncData} (F : Fun K "around" "around" sAround f fd) (T : Txt K mg) : FnOk P w K mg base CX0 1 f fd ["place"] spAround := by
  refine F.ok scAround (fun vs H Q E h => ?_) (fun cdv A outer s H1 vs Q E hr h => ?_)
  · obtain ⟨q, kd, i, j, rfl, _⟩ := h; rfl
  · obtain ⟨q, kd, i, j, rfl, hq1, k⟩ := h
    refine ⟨_, pss_cons (ps_set (i := 1) scAround.nd rfl (Or.inl rfl) (pe_ix ix_seq (pv 0) pe_int (fun _ _ => rfl)))
      (pss_cons (ps_set (i := 2) scAround.nd rfl (Or.inl rfl) (pe_ix ix_seq (pv 0) pe_int (fun _ _ => rfl)))
      (pss_one (ps_ret (pe_lst (pa_cons (pe_tup (pa_cons (pe_op op_sub (pv 1) pe_int) (pa_cons (pv 2) pa_nil))) (pa_cons (pe_tup (pa_cons (pv 1) (pa_cons (pe_op op_sub (pv 2) pe_int) pa_nil)))
        (pa_cons (pe_tup (pa_cons (pv 1) (pa_cons (pe_op op_add (pv 2) pe_int) pa_nil))) (pa_cons (pe_tup (pa_cons (pe_op op_add (pv 1) pe_int) (pa_cons (pv 2) pa_nil))) pa_nil)))))))), ?_⟩
    refine ⟨_, rfl, ixB (SqB.of hq1) (atI_nat (j := 0) rfl) ?_⟩
    refine ⟨_, rfl, ixB (SqB.of hq1) (atI_nat (j := 1) rfl) ?_⟩
    refine ⟨_, rfl, _, _, rfl, rfl, _, rfl, (by show 2 ≤ sizeLine; decide), fun t1 ht1 => ?_⟩
    refine ⟨_, rfl, _, rfl, _, _, rfl, rfl, (by show 2 ≤ sizeLine; decide), fun t2 ht2 => ?_⟩
    refine ⟨_, rfl, _, rfl, _, _, rfl, rfl, (by show 2 ≤ sizeLine; decide), fun t3 ht3 => ?_⟩
    refine ⟨_, rfl, _, _, rfl, rfl, _, rfl, (by show 2 ≤ sizeLine; decide), fun t4 ht4 => ?_⟩
    refine ⟨(by show 4 ≤ sizeLine; decide), fun L hL => ?_⟩
    generalize hH5 : upd (upd (upd (upd H1 t1 (.tup [.int ((i : Int) - 1), .int j])) t2 (.tup [.int i, .int ((j : Int) - 1)])) t3 (.tup [.int i, .int ((j : Int) + 1)])) t4 (.tup [.int ((i : Int) + 1), .int j]) = H5 at hL ⊢
    have a4 : PairAt H5 t4 ((i : Int) + 1, j) := by rw [← hH5]; exact upd_same
    have a3 : PairAt H5 t3 ((i : Int), (j : Int) + 1) := by rw [← hH5]; exact Same.upd ht4 _ _ upd_same
    have a2 : PairAt H5 t2 ((i : Int), (j : Int) - 1) := by rw [← hH5]; exact Same.upd ht4 _ _ (Same.upd ht3 _ _ upd_same)
    have a1 : PairAt H5 t1 ((i : Int) - 1, (j : Int)) := by rw [← hH5]; exact Same.upd ht4 _ _ (Same.upd ht3 _ _ (Same.upd ht2 _ _ upd_same))
    have s5 : Same H1 H5 := by rw [← hH5]; exact (((Same.upd ht1).trans (Same.upd ht2)).trans (Same.upd ht3)).trans (Same.upd ht4)
    have s6 : Same H5 (upd H5 L (.lst [.ref t1, .ref t2, .ref t3, .ref t4])) := Same.upd hL
    exact k L [t1, t2, t3, t4] _ upd_same (.cons (s6 _ _ a1) (.cons (s6 _ _ a2) (.cons (s6 _ _ a3) (.cons (s6 _ _ a4) .nil)))) (s5.trans s6)
theorem scIsWall : FnScope ["self", "place"] ["self", "place"] (defScope sIsWall) := ⟨rfl, rfl, rfl, by decide +kernel, rfl, by decide +kernel, by decide +kernel⟩
theorem ok_isWall {f : Addr} {fd : FuncData} (F : Fun K "is_wall" "Floor.is_wall" sIsWall f fd) (T : Txt K mg) (TC : TxtC K C) : FnOk P w K mg base CX0 1 f fd ["self", "place"] (spIsWall C) := by
  refine F.ok scIsWall (fun vs H Q E h => ?_) (fun cdv A outer s H vs Q E hr h => ?_)
  · obtain ⟨p, q, xss, n, i, j, rfl, _⟩ := h; rfl
  · obtain ⟨p, q, xss, n, i, j, rfl, fl, D, pl, k⟩ := h
    obtain ⟨tw, hw⟩ := T.wall
    refine ⟨_, pss_one (ps_ret (pe_cmpR op_eq (pe_ix ix_tup (pe_ix ix_tup (pe_fld (pv 0) rfl) (pe_ix ix_seq (pv 1) pe_int (fun _ _ => rfl)) (fun _ _ => rfl)) (pe_ix ix_seq (pv 1) pe_int (fun _ _ => rfl)) (fun _ _ => rfl)) (pe_glob (v := .int 0) (by rfl) hw ⟨tw, rfl⟩) (nomark _))), ?_⟩
    obtain ⟨dx, t, ts, h1, h2, h3⟩ := id fl
    obtain ⟨⟨kd, hq⟩, hi, hj⟩ := id pl
    have hl := Paired.length h3
    obtain ⟨r, er⟩ : ∃ r, ts[i]? = some r := ⟨ts[i]'(by omega), List.getElem?_eq_getElem _⟩
    obtain ⟨xs, ex, hx⟩ := Paired.get h3 er
    have hn := (D.row xs (List.mem_of_getElem? ex)).1
    obtain ⟨v, ev⟩ : ∃ v, xs[j]? = some v := ⟨xs[j]'(by omega), List.getElem?_eq_getElem _⟩
    rw [lossAt_of ex ev] at k
    refine ⟨_, rfl, p, C, dx, _, _, rfl, h1, TC.cl, TC.nl, flds_losses t, _, rfl, ixB (SqB.of hq) (atI_nat (j := 0) rfl) ⟨t, _, _, _, rfl, rfl, SqT.of h2, at_ref er, _, rfl, ixB (SqB.of hq) (atI_nat (j := 1) rfl) ⟨r, _, _, _, rfl, rfl, SqT.of hx, at_int ev, rfl, ?_⟩⟩⟩
    rw [show decide (V.int v = V.int 0) = decide (v = 0) by simp]
    exact k
theorem scBeside : FnScope ["self", "place"] ["self", "place"] (defScope sBeside) := ⟨rfl, rfl, rfl, by decide +kernel, rfl, by decide +kernel, by decide +kernel⟩
theorem ok_besideE {f : Addr} {fd : FuncData} (F : Fun K "beside" "Floor.beside" sBeside f fd) (T : Txt K mg) (TC : TxtC K C) (M1 : MCalleeE P w K mg base C 4 "check_place" ["self", "place"] (spCheckE C CP)) (M2 : MCallee P w K mg base C 3 "has" ["self", "place"] (spHasG C))
    (M3 : MCallee P w K mg base C 1 "is_wall" ["self", "place"] (spIsWall C)) (Da : Callee P w K mg base 1 "around" ["place"] spAround) : FnOk P w K mg base (CXe P w) 6 f fd ["self", "place"] (spBesideE C CP) := by
  refine F.okE scBeside (fun vs H Q E h => ?_) (fun cdv A outer s H vs Q E hr hh h => ?_)
  · obtain ⟨p, x, xss, n, rfl, _⟩ := h; rfl
  · obtain ⟨p, x, xss, n, rfl, fl, D, k⟩ := h
    refine ⟨_, pss_cons (ps_expr (pe_mE (pv 0) TC.cl M1 passE (hr.mono (by decide)) (pa_cons (pv 1) pa_nil)))
      (pss_one (ps_ret (pe_comp (N := ["near", "self"]) (ix := [none, some 0]) (j := 0) rfl Blk.of rfl rfl rfl (pi_list (pe_fn Da (hr.mono (by decide)) (pa_cons (pv 1) pa_nil)))
        (fun _ _ _ _ _ => pif_one (PW.pt (pw_and (pt_val (pe_m (pv 1) TC.cl M2 (hr.mono (by decide)) (pa_cons (pv 0) pa_nil))) (pw_and1 (pt_not (pt_val (pe_m (pv 1) TC.cl M3 (hr.mono (by decide)) (pa_cons (pv 0) pa_nil)))))))) 
        (fun _ _ _ _ _ => pv 0)))), ?_⟩
    obtain ⟨dx, t, ts, h1, h2, h3⟩ := id fl
    rcases k with ⟨hv, k⟩ | ⟨q, i, j, rfl, pl, k⟩
    · exact ⟨_, rfl, p, dx, _, rfl, h1, flds_no t (by decide +kernel), _, rfl, p, x, xss, n, false, rfl, fl, D, hv, fun H1 s1 => iteF (k H1 s1)⟩
    · refine ⟨_, rfl, p, dx, _, rfl, h1, flds_no t (by decide +kernel), _, rfl, p, .ref q, xss, n, true, rfl, fl, D, pl.has, fun H1 s1 => iteT ?_⟩
      obtain ⟨⟨kd, hq⟩, hi, hj⟩ := id pl
      have hq1 := s1 _ _ hq
      refine ⟨_, rfl, q, kd, i, j, rfl, hq1, fun L tt H6 hL6 pa s6 => ?_⟩
      have s06 : Same H H6 := s1.trans s6
      refine ⟨L, rfl, ⟨_, SqL.of hL6⟩, comp_list (xs := tt.map V.ref) (fun m ys H7 => ∃ as, ys = as.map V.ref ∧ Paired (PairAt H7) as (((around i j).take m).filter (openAt xss n)) ∧ Same H6 H7) ⟨[], rfl, .nil, Same.refl H6⟩ (fun m ys H7 _ ⟨_, _, _, s7⟩ => SqL.of (s7 _ _ hL6)) ?_ ?_⟩
      · rintro m y ys H7 hm ⟨as, rfl, pp, s7⟩
        obtain ⟨r, er, rfl⟩ := map_ref hm
        obtain ⟨⟨a, b⟩, eab, hr'⟩ := Paired.get pa er
        have hr7 : H7 r = some (sq false [.int a, .int b]) := s7 _ _ hr'
        have tk := take_snoc eab
        have lt : as.length ≤ 4 := by
          have l1 := Paired.length pp
          have l2 : (((around i j).take m).filter (openAt xss n)).length ≤ ((around i j).take m).length := List.length_filter_le _ _
          have l3 : ((around i j).take m).length ≤ 4 := by rw [List.length_take]; exact Nat.min_le_right _ _
          omega
        have fl7 := fl.same (s06.trans s7)
        obtain ⟨dx7, t7, ts7, f1, f2, f3⟩ := id fl7
        refine ⟨_, rfl, p, dx7, _, rfl, f1, flds_no t7 (by decide +kernel), _, rfl, p, .ref r, xss, n, _, rfl, fl7, D, .two r false (.int a) (.int b) hr7 (.int a) (.int b), fun H8 s8 => ⟨_, rfl, ?_⟩⟩
        cases hb : (inR xss.length (.int a) && inR n (.int b)) with
        | false =>
          refine iteF (iteF ⟨as, rfl, ?_, s7.trans s8⟩)
          rw [tk, List.filter_append]
          have : openAt xss n (a, b) = false := by unfold openAt; rw [hb]; rfl
          rw [show [(a, b)].filter (openAt xss n) = [] by simp [this], List.append_nil]
          exact Paired.imp' (fun _ _ z => s8 _ _ z) pp
        | true =>
          have hv : HasV H8 xss.length n (.ref r) true := by
            have z := HasV.two (H := H8) (h := xss.length) (n := n) r false (.int a) (.int b) (s8 _ _ hr7) (.int a) (.int b)
            rw [hb] at z
            exact z
          obtain ⟨q', i', j', e', pl'⟩ := place_of hv
          cases e'
          obtain ⟨kd', hq'⟩ := pl'.at_
          have eab' : a = (i' : Int) ∧ b = (j' : Int) := by
            have z := (s8 _ _ hr7).symm.trans hq'
            cases kd' with
            | true => cases z
            | false =>
              injection z with z
              injection z with z
              injection z with z1 z2
              injection z2 with z2 _
              injection z1 with z1
              injection z2 with z2
              exact ⟨z1, z2⟩
          obtain ⟨rfl, rfl⟩ := eab'
          have fl8 := fl7.same s8
          obtain ⟨dx8, t8, ts8, g1, g2, g3⟩ := id fl8
          refine iteT ⟨_, rfl, p, dx8, _, rfl, g1, flds_no t8 (by decide +kernel), _, rfl, p, r, xss, n, i', j', rfl, fl8, D, pl', _, rfl, ?_⟩
          have op : openAt xss n ((i' : Int), (j' : Int)) = !decide (lossAt xss i' j' = 0) := by
            unfold openAt
            rw [hb, Bool.true_and]
            simp
          cases hz : decide (lossAt xss i' j' = 0) with
          | true =>
            refine iteF ⟨as, rfl, ?_, s7.trans s8⟩
            rw [tk, List.filter_append, show [((i' : Int), (j' : Int))].filter (openAt xss n) = [] by simp [op, hz], List.append_nil]
            exact Paired.imp' (fun _ _ z => s8 _ _ z) pp
          | false =>
            refine iteT ⟨_, rfl, by rw [List.length_map]; exact small1000 (by omega), as ++ [r], by rw [List.map_append]; rfl, ?_, s7.trans s8⟩
            rw [tk, List.filter_append, show [((i' : Int), (j' : Int))].filter (openAt xss n) = [((i' : Int), (j' : Int))] by simp [op, hz]]
            exact Paired.snoc (Paired.imp' (fun _ _ z => s8 _ _ z) pp) (s8 _ _ hr7)
      · rintro ys H7 ⟨as, rfl, pp, s7⟩ D' hD'
        have sD : Same H7 (upd H7 D' (.lst (as.map V.ref))) := Same.upd hD'
        have eall : (around i j).take (tt.map V.ref).length = around i j := List.take_of_length_le (by rw [List.length_map, Paired.length pa]; exact Nat.le_refl _)
        rw [eall] at pp
        exact k D' as _ upd_same (Paired.imp' (fun _ _ z => sD _ _ z) pp) ((s06.trans s7).trans sD) ((s06.trans s7).free hD')
end
end G

set_option Elab.async false
set_option linter.all false
set_option maxRecDepth 100000
set_option maxHeartbeats 4000000
namespace L2
open PySem PySem.Spec PyProof.Rows
theorem ixN_nat {n j : Nat} (h : j < n) : ixN n (j : Int) = some j := by
  unfold ixN
  rw [if_pos (by omega), if_pos (by omega)]
  simp
section
variable {X : Cx} {K : PySem.W.Frag}
theorem mt_join_k (h : X.K = K) : MtR X "str.join" (rJoin K) := by subst h; exact mt_join
theorem pe_bm_k {o e : Expr} {es : List Expr} {to : TE} {t : TA} {name : Str} {apos cpos : Pos} {T id : String} {r : V → List V → Hp → VK → Prop} (hK : X.K = K) (pa : PlainAttrs T) (slot : Slot T name id) (hty : typeOf (.builtin id) = pure (.type "method_descriptor")) (hm : MtR X id r) (ho : PE X o to) (ha : PA X (e :: es) t)
    (hbase : attributeBase o name X.env (eval o X.env) = eval o X.env := by rfl)
    (hfew : ((backTo cpos (starEach (e :: es) X.env)).all (fun x => !x.1) && (backToKw cpos (keywordEach [] X.env)).all (fun x => x.1.isSome)
      && decide ((e :: es).length + ([] : List Keyword).length + (if ([] : List Keyword).isEmpty then 0 else 1) < 30)) = true := by rfl)
    (hline : (apos.endLine == cpos.line) = true := by rfl) (hs : starEach (e :: es) X.env = (false, eval e X.env) :: starEach es X.env := by rfl) (hplain : (backTo cpos (starEach es X.env)).any (·.1) = false := by rfl) :
    PE X (.Call (.Attribute o name apos) (e :: es) [] cpos) (tBM K T r to t) := by subst hK; exact pe_bm pa slot hty hm ho ha hbase hfew hline hs hplain
end
end L2
namespace G
open PySem L2 PyProof.Rows
theorem paired_keep {α : Type} {R R' : Addr → α → Prop} {r : Addr} (keep : ∀ a x, a ≠ r → R a x → R' a x) {rs : List Addr} {xs : List α} (n : r ∉ rs) (p : Paired R rs xs) : Paired R' rs xs := by
  induction p with
  | nil => exact .nil
  | cons z _ ih => exact .cons (keep _ _ (fun q => n (q ▸ List.mem_cons_self ..)) z) (ih fun q => n (List.mem_cons_of_mem _ q))
theorem paired_set {α : Type} {R R' : Addr → α → Prop} {r : Addr} {y : α} (keep : ∀ a x, a ≠ r → R a x → R' a x) (new : R' r y) : ∀ {rs : List Addr} {xs : List α} {i : Nat}, Paired R rs xs → rs.Nodup → rs[i]? = some r → Paired R' rs (xs.set i y)
  | _, _, _, .nil, _, e => by simp at e
  | _, _, 0, .cons z t, nd, e => by
    simp at e
    subst e
    obtain ⟨n1, n2⟩ := List.nodup_cons.mp nd
    refine .cons new ?_
    exact paired_keep keep n1 t
  | _, _, i + 1, .cons z t, nd, e => by
    obtain ⟨n1, n2⟩ := List.nodup_cons.mp nd
    have e' := e
    rw [List.getElem?_cons_succ] at e'
    exact .cons (keep _ _ (fun q => n1 (q ▸ List.mem_of_getElem? e')) z) (paired_set keep new t n2 e')
def setAt (xss : List (List Int)) (i j : Nat) (z : Int) : List (List Int) := xss.set i (((xss[i]?).getD []).set j z)
theorem setAt_len (xss : List (List Int)) (i j : Nat) (z : Int) : (setAt xss i j z).length = xss.length := List.length_set
theorem setAt_dim {xss : List (List Int)} {n i j : Nat} {z : Int} (D : Dim xss n) (hi : i < xss.length) (hz : 0 ≤ z ∧ z < E60) : Dim (setAt xss i j z) n := by
  refine ⟨by rw [setAt_len]; exact D.h1, by rw [setAt_len]; exact D.h2, D.w1, D.w2, fun xs hx => ?_⟩
  unfold setAt at hx
  rcases List.mem_or_eq_of_mem_set hx with hx | rfl
  · exact D.row xs hx
  · have e : xss[i]? = some xss[i] := List.getElem?_eq_getElem hi
    obtain ⟨l, ok⟩ := D.row xss[i] (List.getElem_mem hi)
    rw [e]
    refine ⟨by rw [List.length_set]; exact l, fun v hv => ?_⟩
    rcases List.mem_or_eq_of_mem_set hv with hv | rfl
    · exact ok v hv
    · exact hz
theorem rowV_of {H : Hp} {rs : List Addr} {xss : List (List Int)} (p : Paired (LstAt H) rs xss) : Paired (RowV H) rs (xss.map fun xs => xs.map V.int) := by
  induction p with
  | nil => exact .nil
  | cons z _ ih => exact .cons ⟨true, z⟩ ih
theorem map_set {α β : Type} (f : α → β) (l : List α) (i : Nat) (x : α) : (l.set i x).map f = (l.map f).set i (f x) := List.map_set
theorem cell_at {H : Hp} {g : Addr} {rs : List Addr} {xss : List (List Int)} {n i j : Nat} (r : RowsAt H g rs xss) (D : Dim xss n) (hi : i < xss.length) (hj : j < n) :
    ∃ (a : Addr) (xs : List Int), rs[i]? = some a ∧ H a = some (.lst (xs.map V.int)) ∧ xs[j]? = some (lossAt xss i j) ∧ 0 ≤ lossAt xss i j := by
  have hl := Paired.length r.2
  obtain ⟨a, ea⟩ : ∃ a, rs[i]? = some a := ⟨rs[i]'(by omega), List.getElem?_eq_getElem _⟩
  obtain ⟨xs, ex, hx⟩ := Paired.get r.2 ea
  obtain ⟨hn, ok⟩ := D.row xs (List.mem_of_getElem? ex)
  obtain ⟨v, ev⟩ : ∃ v, xs[j]? = some v := ⟨xs[j]'(by omega), List.getElem?_eq_getElem _⟩
  have e := lossAt_of ex ev
  exact ⟨a, xs, ea, hx, by rw [e]; exact ev, by rw [e]; exact (ok v (List.mem_of_getElem? ev)).1⟩
theorem prs_of {K : PySem.W.Frag} {H : Hp} {a : Addr} {as : List Addr} {qs : List (Int × Int)} (h : H a = some (.lst (as.map V.ref))) (p : Paired (PairAt H) as qs) : Pairs K H a qs := by
  refine ⟨_, SqL.of h, ?_⟩
  have : ∀ {as : List Addr} {qs : List (Int × Int)}, Paired (PairAt H) as qs → Paired (RPair K H) (as.map V.ref) qs := by
    intro as qs h
    induction h with
    | nil => exact .nil
    | cons z _ ih => exact .cons ⟨_, rfl, SqT.of z⟩ ih
  exact this p

theorem sp_eq : (" " : Str) = ⟨#[32]⟩ := by decide +kernel
theorem nl_eq : ("\n" : Str) = ⟨#[10]⟩ := by decide +kernel
def rowText (xs : List Int) : Str := Str.join " " (xs.map wordOf)
def text (xss : List (List Int)) : Str := Str.join "\n" (xss.map rowText)
theorem words_len {xs : List Int} (h : okL xs) : ∀ y ∈ xs.map wordOf, y.length ≤ 60 := fun y hy => by
  obtain ⟨n, hn, rfl⟩ := List.mem_map.mp hy
  exact word_len (h n hn).1 (by have := (h n hn).2; exact this)
theorem row_ok {xs : List Int} (h : okL xs) (hl : xs.length ≤ 30) : JoinOk " " (xs.map wordOf) = true := joinOk (words_len h) (by decide) (by rw [List.length_map]; omega)
theorem row_len {xs : List Int} (h : okL xs) (hl : xs.length ≤ 30) : (rowText xs).length ≤ 1830 := by
  have := join_len (sep := " ") (words_len h) (by decide)
  rw [List.length_map] at this
  unfold rowText
  omega
theorem rows_len {xss : List (List Int)} {n : Nat} (D : Dim xss n) : ∀ y ∈ xss.map rowText, y.length ≤ 1830 := fun y hy => by
  obtain ⟨xs, hx, rfl⟩ := List.mem_map.mp hy
  have h := D.row xs hx
  have := D.w2
  exact row_len h.2 (by omega)
theorem text_ok {xss : List (List Int)} {n : Nat} (D : Dim xss n) : JoinOk "\n" (xss.map rowText) = true := by
  have := D.h2
  exact joinOk (rows_len D) (by decide) (by rw [List.length_map]; omega)
theorem text_len {xss : List (List Int)} {n : Nat} (D : Dim xss n) : (text xss).length ≤ 54930 := by
  have h2 := D.h2
  have := join_len (sep := "\n") (rows_len D) (by decide)
  rw [List.length_map] at this
  unfold text
  omega
theorem row_split {xs : List Int} (h : okL xs) (ne : xs ≠ []) : Txt.split (rowText xs) " " = xs.map wordOf := by
  unfold rowText
  rw [sp_eq]
  refine split_join (fun z => ne (List.map_eq_nil_iff.mp z)) fun y hy => ?_
  obtain ⟨n, hn, rfl⟩ := List.mem_map.mp hy
  exact word_no (h n hn).1 (.inr rfl)
theorem text_split {xss : List (List Int)} {n : Nat} (D : Dim xss n) : Txt.split (text xss) "\n" = xss.map rowText := by
  unfold text
  rw [nl_eq]
  refine split_join (fun z => ?_) fun y hy => ?_
  · have h1 := D.h1
    rw [List.map_eq_nil_iff.mp z] at h1
    exact absurd h1 (by decide)
  · obtain ⟨xs, hx, rfl⟩ := List.mem_map.mp hy
    unfold rowText
    rw [sp_eq]
    refine join_mem (fun y hy => ?_) (by decide)
    obtain ⟨n, hn, rfl⟩ := List.mem_map.mp hy
    exact word_no ((D.row xs hx).2 n hn).1 (.inl rfl)
theorem log_e60 {i : Int} (h0 : 0 ≤ i) (h : i < E60) : i.natAbs.log2 < 1920 := by
  by_cases z : i.natAbs = 0
  · rw [z]; decide +kernel
  · have h1 : i.natAbs.log2 < 200 := (Nat.log2_lt z).mpr (by
      have : (E60 : Int) < 2 ^ 200 := by decide
      omega)
    omega
def spWriteL : Sp := fun vs H Q _ => ∃ n, vs = [.int n] ∧ 0 ≤ n ∧ n < E60 ∧ Q (.str (wordOf n)) H
def spWriteR : Sp := fun vs H Q _ => ∃ a xs, vs = [.ref a] ∧ LstAt H a xs ∧ okL xs ∧ xs.length ≤ 30 ∧ ∀ H', Same H H' → Q (.str (rowText xs)) H'
def spWriteF (C : Addr) : Sp := fun vs H Q _ => ∃ p xss n, vs = [.ref p] ∧ FloorAt C H p xss ∧ Dim xss n ∧ ∀ H', Same H H' → Q (.str (text xss)) H'
def spText : Sp := fun vs H Q _ => ∃ g rs xss n, vs = [.ref g] ∧ RowsAt H g rs xss ∧ Dim xss n ∧ ∀ H', Same H H' → Q (.str (text xss)) H'
def spRN : Sp := fun vs H Q _ => ∃ m : Nat, vs = [.str (numW (m : Int)), .int 60] ∧ 2 ≤ m ∧ (m : Int) < E60 ∧ ∀ H', Same H H' → Q (.int (m : Int)) H'
def spReadL : Sp := fun vs H Q _ => ∃ n, vs = [.str (wordOf n)] ∧ 0 ≤ n ∧ n < E60 ∧ ∀ H', Same H H' → Q (.int n) H'
def spReadR : Sp := fun vs H Q _ => ∃ xs, vs = [.str (rowText xs)] ∧ okL xs ∧ 1 ≤ xs.length ∧ xs.length ≤ 30 ∧ ∀ a H', LstAt H' a xs → Same H H' → H a = none → Q (.ref a) H'
def spReadF (C : Addr) : Sp := fun vs H Q _ => ∃ xss n, vs = [.str (text xss)] ∧ Dim xss n ∧ ∀ a H', FloorAt C H' a xss → Same H H' → Q (.ref a) H'
section
variable {P : Program} {w : World} {K : PySem.W.Frag} {mg : Str → Option Value} {base : Heap} {C CP CL : Addr}
theorem scWriteL : FnScope ["loss"] ["loss"] (defScope sWriteL) := ⟨rfl, rfl, rfl, by decide +kernel, rfl, by decide +kernel, by decide +kernel⟩
theorem word_ends {n : Int} {Q : VK} {H : Hp} (h0 : 0 ≤ n) (h1 : n < E60) (k : Q (.str (wordOf n)) H) : if decide (V.int n = V.int 0) = true then Q (.str "#") H else if decide (V.int n = V.int 1) = true then Q (.str ".") H else ∃ i, [V.int n] = [.int i] ∧ i.natAbs.log2 < 1920 ∧ Q (.str (toString i)) H := by
  unfold wordOf at k
  by_cases z : n = 0
  · subst z
    rw [if_pos (decide_eq_true rfl)]
    rw [if_pos rfl] at k
    exact k
  · rw [if_neg (fun q => z (by have := of_decide_eq_true q; injection this))]
    rw [if_neg z] at k
    by_cases z1 : n = 1
    · subst z1
      rw [if_pos (decide_eq_true rfl)]
      rw [if_pos rfl] at k
      exact k
    · rw [if_neg (fun q => z1 (by have := of_decide_eq_true q; injection this))]
      rw [if_neg z1] at k
      exact ⟨n, rfl, log_e60 h0 h1, k⟩
theorem ok_writeL {f : Addr} {fd : FuncData} (F : Fun K "write_loss" "write_loss" sWriteL f fd) (T : Txt K mg) : FnOk P w K mg base CX0 1 f fd ["loss"] spWriteL := by
  refine F.ok scWriteL (fun vs H Q E h => ?_) (fun cdv A outer s H vs Q E hr h => ?_)
  · obtain ⟨n, rfl, _⟩ := h; rfl
  · obtain ⟨n, rfl, h0, h1, k⟩ := h
    obtain ⟨t1, e1⟩ := T.wall
    obtain ⟨t2, e2⟩ := T.open_
    obtain ⟨t3, e3⟩ := T.wallW
    obtain ⟨t4, e4⟩ := T.openW
    refine ⟨_, pss_cons (ps_if (pt_cmpR op_eq (pv 0) (pe_glob (v := .int 0) (by rfl) e1 ⟨t1, rfl⟩) (nomark _)) (pss_one (ps_ret (pe_glob (v := .str "#") (by rfl) e3 ⟨t3, rfl⟩))) pss_nil)
      (pss_cons (ps_if (pt_cmpR op_eq (pv 0) (pe_glob (v := .int 1) (by rfl) e2 ⟨t2, rfl⟩) (nomark _)) (pss_one (ps_ret (pe_glob (v := .str ".") (by rfl) e4 ⟨t4, rfl⟩))) pss_nil)
      (pss_one (ps_ret (pe_callTy call_str_int (by rfl) T.str boot_str (pa_cons (pv 0) pa_nil))))), ?_⟩
    have z := word_ends (Q := Q) h0 h1 k
    refine ⟨_, rfl, rfl, _, rfl, ite2 (fun c => ?_) (fun c => ?_)⟩
    · rw [if_pos c] at z; exact z
    · rw [if_neg c] at z
      refine ⟨_, rfl, rfl, _, rfl, ite2 (fun c2 => ?_) (fun c2 => ?_)⟩
      · rw [if_pos c2] at z; exact z
      · rw [if_neg c2] at z; exact ⟨_, rfl, z⟩
theorem scWord : FnScope ["_law_loss_here"] ["_law_loss_here"] (defScope sWord) := ⟨rfl, rfl, rfl, by decide +kernel, rfl, by decide +kernel, by decide +kernel⟩
theorem ok_word {f : Addr} {fd : FuncData} (F : Fun K "_law_word" "_law_word" sWord f fd) (T : Txt K mg) : FnOk P w K mg base CX0 1 f fd ["_law_loss_here"] spWriteL := by
  refine F.ok scWord (fun vs H Q E h => ?_) (fun cdv A outer s H vs Q E hr h => ?_)
  · obtain ⟨n, rfl, _⟩ := h; rfl
  · obtain ⟨n, rfl, h0, h1, k⟩ := h
    refine ⟨_, pss_cons (ps_if (pt_cmpR op_eq (pv 0) pe_int (nomark _)) (pss_one (ps_ret pe_str)) pss_nil)
      (pss_cons (ps_if (pt_cmpR op_eq (pv 0) pe_int (nomark _)) (pss_one (ps_ret pe_str)) pss_nil)
      (pss_one (ps_ret (pe_callTy call_str_int (by rfl) T.str boot_str (pa_cons (pv 0) pa_nil))))), ?_⟩
    have z := word_ends (Q := Q) h0 h1 k
    refine ⟨_, rfl, rfl, _, rfl, ite2 (fun c => ?_) (fun c => ?_)⟩
    · rw [if_pos c] at z; exact z
    · rw [if_neg c] at z
      refine ⟨_, rfl, rfl, _, rfl, ite2 (fun c2 => ?_) (fun c2 => ?_)⟩
      · rw [if_pos c2] at z; exact z
      · rw [if_neg c2] at z; exact ⟨_, rfl, z⟩
theorem scWriteR : FnScope ["row"] ["row"] (defScope sWriteR) := ⟨rfl, rfl, rfl, by decide +kernel, rfl, by decide +kernel, by decide +kernel⟩
theorem ok_writeR {f : Addr} {fd : FuncData} (F : Fun K "write_row" "write_row" sWriteR f fd) (T : Txt K mg) (D1 : Callee P w K mg base 1 "write_loss" ["loss"] spWriteL) : FnOk P w K mg base CX0 2 f fd ["row"] spWriteR := by
  refine F.ok scWriteR (fun vs H Q E h => ?_) (fun cdv A outer s H vs Q E hr h => ?_)
  · obtain ⟨a, xs, rfl, _⟩ := h; rfl
  · obtain ⟨a, xs, rfl, ha, ok, hl, k⟩ := h
    refine ⟨_, pss_one (ps_ret (pe_bm PySem.F.plainAttrs_str PySem.F.slot_str_join PySem.F.type_str_join mt_join pe_str (pa_cons (pe_comp (N := ["loss"]) (ix := [none]) (j := 0) rfl Blk.of rfl rfl rfl (pi_list (pv 0)) (fun _ _ _ _ _ => pif_nil) (fun _ _ _ _ _ => pe_fn D1 hr (pa_cons (pv 0) pa_nil))) pa_nil))), ?_⟩
    refine ⟨rfl, _, rfl, a, rfl, ⟨_, SqL.of ha⟩, comp_list (xs := xs.map V.int) (fun i ys H3 => ys = ((xs.take i).map wordOf).map V.str ∧ H3 = H) ⟨by rw [List.take_zero]; rfl, rfl⟩ (fun i ys H3 _ ⟨_, e⟩ => by rw [e]; exact SqL.of ha) ?_ ?_⟩
    · rintro i y ys H3 hi ⟨rfl, rfl⟩
      obtain ⟨v, ev, rfl⟩ := map_int hi
      have hv := ok v (List.mem_of_getElem? ev)
      have li : i < xs.length := (List.getElem?_eq_some_iff.mp ev).1
      refine yes ⟨_, rfl, v, rfl, hv.1, hv.2, by rw [List.length_map, List.length_map, List.length_take]; exact small1000 (by omega), ?_, rfl⟩
      rw [take_snoc ev, List.map_append, List.map_append]; rfl
    · rintro ys H3 ⟨rfl, rfl⟩ D' hD'
      rw [List.length_map, List.take_length]
      exact ⟨" ", D', xs.map wordOf, rfl, rfl, SqL.of upd_same, row_ok ok hl, k _ (Same.upd hD')⟩
theorem scWriteF : FnScope ["floor"] ["floor"] (defScope sWriteF) := ⟨rfl, rfl, rfl, by decide +kernel, rfl, by decide +kernel, by decide +kernel⟩
theorem ok_writeF {f : Addr} {fd : FuncData} (F : Fun K "write_floor" "write_floor" sWriteF f fd) (T : Txt K mg) (TC : TxtC K C) (M : MCallee P w K mg base C 1 "rows" ["self"] (spFRows C)) (D1 : Callee P w K mg base 2 "write_row" ["row"] spWriteR) : FnOk P w K mg base CX0 3 f fd ["floor"] (spWriteF C) := by
  refine F.ok scWriteF (fun vs H Q E h => ?_) (fun cdv A outer s H vs Q E hr h => ?_)
  · obtain ⟨p, xss, n, rfl, _⟩ := h; rfl
  · obtain ⟨p, xss, n, rfl, fl, D, k⟩ := h
    refine ⟨_, pss_one (ps_ret (pe_bm PySem.F.plainAttrs_str PySem.F.slot_str_join PySem.F.type_str_join mt_join pe_str (pa_cons (pe_comp (N := ["row"]) (ix := [none]) (j := 0) rfl Blk.of rfl rfl rfl (pi_list (pe_m0 (pv 0) TC.cl M (hr.mono (by decide)))) (fun _ _ _ _ _ => pif_nil) (fun _ _ _ _ _ => pe_fn D1 hr (pa_cons (pv 0) pa_nil))) pa_nil))), ?_⟩
    obtain ⟨dx, t, ts, h1, h2, h3⟩ := id fl
    have d3 := D.w2
    have d2 := D.h2
    refine ⟨rfl, _, rfl, p, dx, _, rfl, h1, flds_no t (by decide +kernel), p, xss, n, rfl, fl, D, fun a rs H1 ha pr s1 na nrs nar nd => ⟨a, rfl, ⟨_, SqL.of ha⟩, ?_⟩⟩
    have hl := Paired.length pr
    refine comp_list (xs := rs.map V.ref) (fun i ys H3 => ys = ((xss.take i).map rowText).map V.str ∧ Same H1 H3) ⟨by rw [List.take_zero]; rfl, Same.refl H1⟩ (fun i ys H3 _ ⟨_, s3⟩ => SqL.of (s3 _ _ ha)) ?_ ?_
    · rintro i y ys H3 hi ⟨rfl, s3⟩
      obtain ⟨r, er, rfl⟩ := map_ref hi
      obtain ⟨xs, ex, hx⟩ := Paired.get pr er
      have hd := D.row xs (List.mem_of_getElem? ex)
      have li : i < xss.length := (List.getElem?_eq_some_iff.mp ex).1
      refine yes ⟨_, rfl, r, xs, rfl, s3 _ _ hx, hd.2, by omega, fun H4 s4 => ⟨by rw [List.length_map, List.length_map, List.length_take]; exact small1000 (by omega), ?_, s3.trans s4⟩⟩
      rw [take_snoc ex, List.map_append, List.map_append]; rfl
    · rintro ys H3 ⟨rfl, s3⟩ D' hD'
      rw [List.length_map, hl, List.take_length]
      exact ⟨"\n", D', xss.map rowText, rfl, rfl, SqL.of upd_same, text_ok D, k _ ((s1.trans s3).trans (Same.upd hD'))⟩
theorem scText : FnScope ["_law_rows_here"] ["_law_rows_here"] (defScope sText) := ⟨rfl, rfl, rfl, by decide +kernel, rfl, by decide +kernel, by decide +kernel⟩
theorem ok_text {f : Addr} {fd : FuncData} (F : Fun K "_law_text" "_law_text" sText f fd) (T : Txt K mg) (D1 : Callee P w K mg base 1 "_law_word" ["_law_loss_here"] spWriteL) : FnOk P w K mg base CX0 2 f fd ["_law_rows_here"] spText := by
  refine F.ok scText (fun vs H Q E h => ?_) (fun cdv A outer s H vs Q E hr h => ?_)
  · obtain ⟨g, rs, xss, n, rfl, _⟩ := h; rfl
  · obtain ⟨g, rs, xss, n, rfl, ra, D, k⟩ := h
    refine ⟨_, pss_one (ps_ret (pe_bm PySem.F.plainAttrs_str PySem.F.slot_str_join PySem.F.type_str_join mt_join pe_str (pa_cons (pe_comp (N := ["_law_row"]) (ix := [none]) (j := 0) rfl Blk.of rfl rfl rfl (pi_list (pv 0)) (fun _ _ _ _ _ => pif_nil)
      (fun _ _ _ _ _ => pe_bm_k (K := K) rfl PySem.F.plainAttrs_str PySem.F.slot_str_join PySem.F.type_str_join (mt_join_k (K := K) rfl) pe_str (pa_cons (pe_comp (N := ["_law_loss_here"]) (ix := [none]) (j := 0) rfl Blk.of rfl rfl rfl (pi_list_k (K := K) rfl (pv 0)) (fun _ _ _ _ _ => pif_nil) (fun _ _ _ _ _ => pe_fn D1 hr (pa_cons (pv 0) pa_nil))) pa_nil))) pa_nil))), ?_⟩
    have d3 := D.w2
    have d2 := D.h2
    have hl := Paired.length ra.2
    refine ⟨rfl, _, rfl, g, rfl, ⟨_, SqL.of ra.1⟩, comp_list (xs := rs.map V.ref) (fun i ys H3 => ys = ((xss.take i).map rowText).map V.str ∧ Same H H3) ⟨by rw [List.take_zero]; rfl, Same.refl H⟩ (fun i ys H3 _ ⟨_, s3⟩ => SqL.of (s3 _ _ ra.1)) ?_ ?_⟩
    · rintro i y ys H3 hi ⟨rfl, s3⟩
      obtain ⟨r, er, rfl⟩ := map_ref hi
      obtain ⟨xs, ex, hx⟩ := Paired.get ra.2 er
      have hd := D.row xs (List.mem_of_getElem? ex)
      have li : i < xss.length := (List.getElem?_eq_some_iff.mp ex).1
      have hx3 := s3 _ _ hx
      refine yes ⟨rfl, _, rfl, r, rfl, ⟨_, SqL.of hx3⟩, comp_list (xs := xs.map V.int) (fun i ys H4 => ys = ((xs.take i).map wordOf).map V.str ∧ H4 = H3) ⟨by rw [List.take_zero]; rfl, rfl⟩ (fun i ys H4 _ ⟨_, e⟩ => by rw [e]; exact SqL.of hx3) ?_ ?_⟩
      · rintro i' y' ys' H4 hi' ⟨rfl, rfl⟩
        obtain ⟨v, ev, rfl⟩ := map_int hi'
        have hv := hd.2 v (List.mem_of_getElem? ev)
        have li' : i' < xs.length := (List.getElem?_eq_some_iff.mp ev).1
        refine yes ⟨_, rfl, v, rfl, hv.1, hv.2, by rw [List.length_map, List.length_map, List.length_take]; exact small1000 (by omega), ?_, rfl⟩
        rw [take_snoc ev, List.map_append, List.map_append]; rfl
      · rintro ys' H4 ⟨rfl, rfl⟩ D' hD'
        rw [List.length_map, List.take_length]
        refine ⟨" ", D', xs.map wordOf, rfl, rfl, SqL.of upd_same, row_ok hd.2 (by omega), by rw [List.length_map, List.length_map, List.length_take]; exact small1000 (by omega), ?_, s3.trans (Same.upd hD')⟩
        rw [take_snoc ex, List.map_append, List.map_append]; rfl
    · rintro ys H3 ⟨rfl, s3⟩ D' hD'
      rw [List.length_map, hl, List.take_length]
      exact ⟨"\n", D', xss.map rowText, rfl, rfl, SqL.of upd_same, text_ok D, k _ (s3.trans (Same.upd hD'))⟩
end
end G

set_option Elab.async false
set_option linter.all false
set_option maxRecDepth 100000
set_option maxHeartbeats 4000000
namespace G
open PySem L2 PyProof.Rows
theorem all_true (n : Nat) : (List.replicate n true).all (fun b => b) = true := by
  rw [List.all_eq_true]
  intro b hb
  exact (List.mem_replicate.mp hb).2
theorem e60_pow : (E60 : Int) = 10 ^ 60 := by decide
section
variable {P : Program} {w : World} {K : PySem.W.Frag} {mg : Str → Option Value} {base : Heap} {C CP CL : Addr}
theorem scRN : FnScope ["word", "most"] ["word", "most"] (defScope sRN) := ⟨rfl, rfl, rfl, by decide +kernel, rfl, by decide +kernel, by decide +kernel⟩
theorem ok_rn {f : Addr} {fd : FuncData} (F : Fun K "read_number" "read_number" sRN f fd) (T : Txt K mg) : FnOk P w K mg base CX0 1 f fd ["word", "most"] spRN := by
  refine F.ok scRN (fun vs H Q E h => ?_) (fun cdv A outer s H vs Q E hr h => ?_)
  · obtain ⟨m, rfl, _⟩ := h; rfl
  · obtain ⟨m, rfl, h2, h1, k⟩ := h
    obtain ⟨t2, e2⟩ := T.figs
    rw [e60_pow] at h1
    refine ⟨_, pss_cons (ps_if (PW.pt (pw_or (pt_not (pt_chain op_le op_le pe_int (pe_callB call_len_str (by rfl) T.len PySem.boot_len (pa_cons (pv 0) pa_nil)) (pv 1)))
        (pw_or1 (pt_not (pt_val (pe_callB (call_all_bools rfl) (by rfl) T.all boot_all (pa_cons (pe_comp (N := ["sign"]) (ix := [none]) (j := 0) rfl Blk.of rfl rfl rfl (pi_str (pv 0)) (fun _ _ _ _ _ => pif_nil)
        (fun _ _ _ _ _ => pe_cmpR op_in_str (pv 0) (pe_glob (v := .str "0123456789") (by rfl) e2 ⟨t2, rfl⟩) (by with_unfolding_all rfl))) pa_nil))))))) (pss_one (ps_ret pe_non)) pss_nil)
      (pss_cons (ps_if (PW.pt (pw_and (pt_val (pe_bm PySem.F.plainAttrs_str PySem.F.slot_str_startswith PySem.F.type_str_startswith mt_starts (pv 0) (pa_cons pe_str pa_nil))) (pw_and1 (pt_cmpR op_ne (pv 0) pe_str (nomark _))))) (pss_one (ps_ret pe_non)) pss_nil)
      (pss_one (ps_ret (pe_callTy call_int_text (by rfl) T.int boot_int (pa_cons (pv 0) pa_nil))))), ?_⟩
    have hl := numW_len (by decide) h1
    have hz : (numW (m : Int)).length ≤ sizeLine := Nat.le_of_lt (small1000 (by omega))
    refine ⟨_, rfl, _, rfl, hz, _, _, rfl, rfl, _, rfl, ?_⟩
    rw [if_pos (decide_eq_true (show (1 : Int) ≤ ((numW (m : Int)).length : Nat) by omega))]
    refine ⟨_, rfl, _, _, rfl, rfl, _, rfl, ?_⟩
    rw [decide_eq_true (show (((numW (m : Int)).length : Nat) : Int) ≤ 60 by omega)]
    refine iteF ?_
    refine ⟨_, rfl, _, rfl, comp_str (x := numW (m : Int)) (fun i ys H3 => ys = (List.replicate i true).map V.bl ∧ i ≤ 60 ∧ H3 = H) ⟨rfl, by decide, rfl⟩ ?_ ?_⟩
    · rintro i c ys H3 hc ⟨rfl, li, rfl⟩
      have hm : c ∈ (numW (m : Int)).cps.toList := by
        rw [← Array.getElem?_toList] at hc
        exact List.mem_of_getElem? hc
      have hi : i < (numW (m : Int)).length := (Array.getElem?_eq_some_iff.mp hc).1
      refine yes ⟨_, rfl, _, _, rfl, rfl, ?_⟩
      rw [in_fig (numW_dig c hm)]
      refine ⟨by rw [List.length_map, List.length_replicate]; exact small1000 (by omega), ?_, by omega, rfl⟩
      rw [List.replicate_succ', List.map_append]; rfl
    · rintro ys H3 ⟨rfl, li, rfl⟩ D' hD'
      refine ⟨D', _, rfl, SqL.of upd_same, ?_⟩
      rw [all_true]
      refine ⟨true, rfl, iteF ?_⟩
      refine ⟨_, rfl, rfl, _, _, rfl, rfl, _, rfl, ?_⟩
      rw [numW_head (by omega)]
      refine iteF ?_
      refine iteF ?_
      refine ⟨_, rfl, _, _, rfl, numW_reads h1, ?_, k _ (Same.upd hD')⟩
      have := (numW_len (k := 60) (by decide) h1).2
      omega
theorem scReadL : FnScope ["word", "loss"] ["word"] (defScope sReadL) := ⟨rfl, rfl, rfl, by decide +kernel, rfl, by decide +kernel, by decide +kernel⟩
theorem ok_readL {f : Addr} {fd : FuncData} (F : Fun K "read_loss" "read_loss" sReadL f fd) (T : Txt K mg) (D1 : Callee P w K mg base 1 "read_number" ["word", "most"] spRN) : FnOk P w K mg base CX0 2 f fd ["word"] spReadL := by
  refine F.ok scReadL (fun vs H Q E h => ?_) (fun cdv A outer s H vs Q E hr h => ?_)
  · obtain ⟨n, rfl, _⟩ := h; rfl
  · obtain ⟨n, rfl, h0, h1, k⟩ := h
    obtain ⟨t1, e1⟩ := T.wall
    obtain ⟨t2, e2⟩ := T.open_
    obtain ⟨t3, e3⟩ := T.wallW
    obtain ⟨t4, e4⟩ := T.openW
    obtain ⟨t5, e5⟩ := T.mostF
    obtain ⟨t6, e6⟩ := T.leastG
    refine ⟨_, pss_cons (ps_if (pt_cmpR op_eq (pv 0) (pe_glob (v := .str "#") (by rfl) e3 ⟨t3, rfl⟩) (nomark _)) (pss_one (ps_ret (pe_glob (v := .int 0) (by rfl) e1 ⟨t1, rfl⟩))) pss_nil)
      (pss_cons (ps_if (pt_cmpR op_eq (pv 0) (pe_glob (v := .str ".") (by rfl) e4 ⟨t4, rfl⟩) (nomark _)) (pss_one (ps_ret (pe_glob (v := .int 1) (by rfl) e2 ⟨t2, rfl⟩))) pss_nil)
      (pss_cons (ps_set (i := 1) scReadL.nd rfl (Or.inl rfl) (pe_fn D1 hr (pa_cons (pv 0) (pa_cons (pe_glob (v := .int 60) (by rfl) e5 ⟨t5, rfl⟩) pa_nil))))
      (pss_cons (ps_if (PW.pt (pw_or (pt_cmpR op_isN (pv 1) pe_non (nomark _)) (pw_or1 (pt_cmpR op_lt (pv 1) (pe_glob (v := .int 2) (by rfl) e6 ⟨t6, rfl⟩) (nomark _))))) (pss_one (ps_ret pe_non)) pss_nil)
      (pss_one (ps_ret (pv 1)))))), ?_⟩
    refine ⟨_, rfl, rfl, _, rfl, ?_⟩
    by_cases z : n = 0
    · subst z
      exact iteT (k H (Same.refl H))
    by_cases z1 : n = 1
    · subst z1
      refine ite2 (fun c => ?_) (fun _ => ⟨_, rfl, rfl, _, rfl, iteT (k H (Same.refl H))⟩)
      exact absurd (of_decide_eq_true c) (by show ¬ (V.str "." = V.str "#"); intro q; injection q with q; exact absurd q (by decide +kernel))
    obtain ⟨m, rfl, h2⟩ := num_of h0 z z1
    have ew : wordOf (m : Int) = numW (m : Int) := by unfold wordOf; rw [if_neg z, if_neg z1]
    have h1' := h1
    rw [e60_pow] at h1'
    rw [ew]
    refine ite2 (fun c => ?_) (fun _ => ⟨_, rfl, rfl, _, rfl, ite2 (fun c => ?_) (fun _ => ?_)⟩)
    · have q := of_decide_eq_true c
      injection q with q
      exact absurd q (numW_hash h1')
    · have q := of_decide_eq_true c
      injection q with q
      exact absurd q (numW_dot h1')
    · refine ⟨_, rfl, m, rfl, h2, h1, fun H1 s1 => ?_⟩
      refine ⟨_, rfl, rfl, _, rfl, iteF ?_⟩
      refine ⟨_, rfl, _, _, rfl, rfl, _, rfl, ?_⟩
      rw [decide_eq_false (show ¬ ((m : Int) < 2) by omega)]
      exact iteF ⟨_, rfl, k H1 s1⟩
theorem scReadR : FnScope ["line", "row"] ["line"] (defScope sReadR) := ⟨rfl, rfl, rfl, by decide +kernel, rfl, by decide +kernel, by decide +kernel⟩
theorem ok_readR {f : Addr} {fd : FuncData} (F : Fun K "read_row" "read_row" sReadR f fd) (T : Txt K mg) (D1 : Callee P w K mg base 2 "read_loss" ["word"] spReadL) : FnOk P w K mg base CX0 3 f fd ["line"] spReadR := by
  refine F.ok scReadR (fun vs H Q E h => ?_) (fun cdv A outer s H vs Q E hr h => ?_)
  · obtain ⟨xs, rfl, _⟩ := h; rfl
  · obtain ⟨xs, rfl, ok, l1, l2, k⟩ := h
    obtain ⟨t1, e1⟩ := T.most
    refine ⟨_, pss_cons (ps_setc (i0 := 1) (N := ["word"]) (ix := [none]) (j := 0) rfl scReadR.nd rfl (Or.inl rfl) Blk.of rfl rfl rfl (pi_list (pe_bm PySem.F.plainAttrs_str PySem.F.slot_str_split PySem.F.type_str_split mt_split (pv 0) (pa_cons pe_str pa_nil))) (fun _ _ _ _ _ => pif_nil) (fun _ _ _ _ _ => pe_fn D1 hr (pa_cons (pv 0) pa_nil)))
      (pss_cons (ps_if (PW.pt (pw_or (pt_cmpR op_gt (pe_callB call_len_seq (by rfl) T.len PySem.boot_len (pa_cons (pv 1) pa_nil)) (pe_glob (v := .int 30) (by rfl) e1 ⟨t1, rfl⟩) (nomark _)) (pw_or1 (pt_cmpR op_in_seq pe_non (pv 1) (by with_unfolding_all rfl))))) (pss_one (ps_ret pe_non)) pss_nil)
      (pss_one (ps_ret (pv 1)))), ?_⟩
    have ne : xs ≠ [] := fun z => by rw [z] at l1; exact absurd l1 (by decide)
    have rl := row_len ok l2
    have es := row_split ok ne
    have big : ∀ {x : Nat}, x ≤ 10000 → x ≤ sizeLine := fun h => Nat.le_trans h (by decide)
    refine ⟨_, rfl, rfl, _, _, rfl, rfl, (by decide +kernel), big (by omega), (by rw [es, List.length_map]; exact big (by omega)), fun l hl' => ?_⟩
    rw [es]
    have sl : Same H (upd H l (.lst ((xs.map wordOf).map V.str))) := Same.upd hl'
    have al : upd H l (.lst ((xs.map wordOf).map V.str)) l = some (.lst ((xs.map wordOf).map V.str)) := upd_same
    generalize upd H l (.lst ((xs.map wordOf).map V.str)) = H1 at sl al ⊢
    refine ⟨l, rfl, ⟨_, SqL.of al⟩, comp_list (xs := (xs.map wordOf).map V.str) (fun i ys H3 => ys = (xs.take i).map V.int ∧ Same H1 H3) ⟨by rw [List.take_zero]; rfl, Same.refl H1⟩ (fun i ys H3 _ ⟨_, s3⟩ => SqL.of (s3 _ _ al)) ?_ ?_⟩
    · rintro i y ys H3 hi ⟨rfl, s3⟩
      rw [List.map_map, List.getElem?_map] at hi
      obtain ⟨v, ev, rfl⟩ := Option.map_eq_some_iff.mp hi
      have hv := ok v (List.mem_of_getElem? ev)
      have li : i < xs.length := (List.getElem?_eq_some_iff.mp ev).1
      refine yes ⟨_, rfl, v, rfl, hv.1, hv.2, fun H4 s4 => ⟨by rw [List.length_map, List.length_take]; exact small1000 (by omega), ?_, s3.trans s4⟩⟩
      rw [take_snoc ev, List.map_append]; rfl
    · rintro ys H3 ⟨rfl, s3⟩ D' hD'
      rw [List.length_map, List.length_map, List.take_length]
      have sD : Same H3 (upd H3 D' (.lst (xs.map V.int))) := Same.upd hD'
      have aD : upd H3 D' (.lst (xs.map V.int)) D' = some (.lst (xs.map V.int)) := upd_same
      have nD : H D' = none := (sl.trans s3).free hD'
      generalize upd H3 D' (.lst (xs.map V.int)) = H4 at sD aD ⊢
      refine ⟨_, rfl, D', _, rfl, .inl (SqL.of aD), _, _, rfl, rfl, _, rfl, ?_⟩
      refine ite2 (fun c => ?_) (fun _ => ?_)
      · have q := of_decide_eq_true c
        rw [List.length_map] at q
        exact absurd q (by omega)
      refine ⟨_, rfl, D', _, rfl, .inl (SqL.of aD), rfl, ?_, _, rfl, ?_⟩
      · rw [List.all_eq_true]
        intro v hv
        obtain ⟨z, _, rfl⟩ := List.mem_map.mp hv
        rfl
      · have ni : inV .non (xs.map V.int) = false := by
          unfold inV
          rw [List.any_eq_false]
          intro v hv
          obtain ⟨z, _, rfl⟩ := List.mem_map.mp hv
          show ¬ (eqV (.int z) .non = true)
          intro q
          cases q
        rw [show (if false = true then !inV .non (xs.map V.int) else inV .non (xs.map V.int)) = false from ni]
        exact iteF ⟨_, rfl, k D' H4 aD ((sl.trans s3).trans sD) nD⟩
end
end G

set_option Elab.async false
set_option linter.all false
set_option maxRecDepth 100000
set_option maxHeartbeats 4000000
namespace G
open PySem L2 PyProof.Rows
theorem dimV_of {xss : List (List Int)} {n : Nat} (D : Dim xss n) : DimV (xss.map fun xs => xs.map V.int) n := ⟨by rw [List.length_map]; exact D.h1, by rw [List.length_map]; exact D.h2, D.w1, D.w2, fun vs hv => by
  obtain ⟨zs, hz, rfl⟩ := List.mem_map.mp hv
  rw [List.length_map]; exact (D.row zs hz).1⟩
theorem plains_of {xss : List (List Int)} {H : Hp} : ∀ vs ∈ (xss.map fun xs => xs.map V.int), ∀ v ∈ vs, Plain H v := fun vs hv v hv' => by
  obtain ⟨zs, hz, rfl⟩ := List.mem_map.mp hv
  obtain ⟨z, _, rfl⟩ := List.mem_map.mp hv'
  exact .int z
section
variable {P : Program} {w : World} {K : PySem.W.Frag} {mg : Str → Option Value} {base : Heap} {C CP CL : Addr}
theorem scReadF : FnScope ["text", "rows", "number", "line", "row"] ["text"] (defScope sReadF) := ⟨rfl, rfl, rfl, by decide +kernel, rfl, by decide +kernel, by decide +kernel⟩
theorem ok_readF {f : Addr} {fd : FuncData} (F : Fun K "read_floor" "read_floor" sReadF f fd) (T : Txt K mg) (D1 : Callee P w K mg base 3 "read_row" ["line"] spReadR) (D5 : KCalleeE P w K mg base C 5 "Floor" ["self", "rows"] (spInitE C CL)) : FnOk P w K mg base CX0 7 f fd ["text"] (spReadF C) := by
  refine F.ok scReadF (fun vs H Q E h => ?_) (fun cdv A outer s H vs Q E hr h => ?_)
  · obtain ⟨xss, n, rfl, _⟩ := h; rfl
  · obtain ⟨xss, n, rfl, D, k⟩ := h
    obtain ⟨t1, e1⟩ := T.most
    refine ⟨_, pss_cons (ps_set (i := 1) scReadF.nd rfl (Or.inl rfl) (pe_lst pa_nil))
      (pss_cons (ps_for PassesOwn.never rfl (pi_enum (by rfl) T.enum (pa_cons (pe_bm PySem.F.plainAttrs_str PySem.F.slot_str_split PySem.F.type_str_split mt_split (pv 0) (pa_cons pe_str pa_nil)) pa_nil)) (pg_tup rfl (pgs_cons (pg_name (i := 2) scReadF.nd rfl (Or.inl rfl)) (pgs_cons (pg_name (i := 3) scReadF.nd rfl (Or.inl rfl)) pgs_nil)))
        (pss_cons (ps_set (i := 4) scReadF.nd rfl (Or.inl rfl) (pe_fn D1 (hr.mono (by decide)) (pa_cons (pv 3) pa_nil)))
        (pss_cons (ps_if (PW.pt (pw_or (pt_cmpR op_eq (pv 2) (pe_glob (v := .int 30) (by rfl) e1 ⟨t1, rfl⟩) (nomark _)) (pw_or1 (pt_cmpR op_isN (pv 4) pe_non (nomark _))))) pss_never pss_nil)
        (pss_cons (ps_if (PW.pt (pw_and (pt_cmpR op_gt (pv 2) pe_int (nomark _)) (pw_and1 (pt_cmpR op_ne (pe_callB call_len_seq (by rfl) T.len PySem.boot_len (pa_cons (pv 4) pa_nil)) (pe_callB call_len_seq (by rfl) T.len PySem.boot_len (pa_cons (pe_ix ix_list (pv 1) pe_int (fun _ _ => rfl)) pa_nil)) (nomark _))))) pss_never pss_nil)
        (pss_one (ps_expr (pe_bm PySem.F.plainAttrs_list PySem.F.slot_list_append PySem.F.type_list_append mt_append (pv 1) (pa_cons (pv 4) pa_nil))))))))
      (pss_one (ps_ret (pe_newE D5 passF hr (pa_cons (pv 1) pa_nil))))), ?_⟩
    have h2 := D.h2
    have w1 := D.w1
    have w2 := D.w2
    refine ⟨(by show 0 ≤ sizeLine; decide), fun R hR => ?_⟩
    have sR : Same H (upd H R (.lst [])) := Same.upd hR
    have aR : upd H R (.lst []) R = some (.lst []) := upd_same
    generalize upd H R (.lst []) = H1 at sR aR ⊢
    have es := text_split D
    have tl := text_len D
    have big : ∀ {x : Nat}, x ≤ 1000000 → x ≤ sizeLine := fun h => Nat.le_trans h (by decide)
    refine ⟨_, rfl, rfl, _, _, rfl, rfl, (by decide +kernel), big (by omega), (by rw [es, List.length_map]; exact big (by omega)), fun L hL => ?_⟩
    rw [es]
    have sL : Same H1 (upd H1 L (.lst ((xss.map rowText).map V.str))) := Same.upd hL
    have aL : upd H1 L (.lst ((xss.map rowText).map V.str)) L = some (.lst ((xss.map rowText).map V.str)) := upd_same
    generalize upd H1 L (.lst ((xss.map rowText).map V.str)) = H2 at sL aL ⊢
    have nLR : L ≠ R := (ne_of_none aR hL).symm
    refine ⟨L, rfl, ⟨_, SqL.of aL⟩, for_enum (xs := (xss.map rowText).map V.str) (fun i σ H3 => ∃ q2 q3 q4 rs, σ = [some (.str (text xss)), some (.ref R), q2, q3, q4] ∧ H3 R = some (.lst (rs.map V.ref)) ∧ Paired (LstAt H3) rs (xss.take i) ∧ R ∉ rs ∧ But R H2 H3) ⟨none, none, none, [], rfl, sL _ _ aR, by rw [List.take_zero]; exact .nil, (fun z => nomatch z), But.refl R H2⟩ (fun i σ H3 _ ⟨_, _, _, _, _, _, _, _, b3⟩ => SqL.of (b3 _ _ aL nLR)) ?_ ?_⟩
    · rintro i y σ H3 TT hi ⟨q2, q3, q4, rs, rfl, hR3, pr, nR, b3⟩ hT
      rw [List.map_map, List.getElem?_map] at hi
      obtain ⟨xs, ex, rfl⟩ := Option.map_eq_some_iff.mp hi
      have hd := D.row xs (List.mem_of_getElem? ex)
      have li : i < xss.length := (List.getElem?_eq_some_iff.mp ex).1
      have sT : Same H3 (upd H3 TT (.tup [.int (i : Nat), .str (rowText xs)])) := Same.upd hT
      have aT : upd H3 TT (.tup [.int (i : Nat), .str (rowText xs)]) TT = some (.tup [.int (i : Nat), .str (rowText xs)]) := upd_same
      show gTup _ _ _ _ _ (upd H3 TT (.tup [.int (i : Nat), .str (rowText xs)])) _
      generalize upd H3 TT (.tup [.int (i : Nat), .str (rowText xs)]) = H4 at sT aT ⊢
      refine ⟨TT, _, rfl, SqT.of aT, rfl, _, _, rfl, _, _, rfl, rfl, ?_⟩
      refine ⟨_, rfl, xs, rfl, hd.2, by omega, by omega, fun a H5 ha s5 na => ?_⟩
      refine ⟨_, rfl, rfl, _, rfl, ite2 (fun c => ?_) (fun _ => ?_)⟩
      · have q := of_decide_eq_true c
        injection q with q
        exact absurd q (by omega)
      refine ⟨_, rfl, rfl, _, rfl, ?_⟩
      refine ite2 (fun c => ?_) (fun _ => ?_)
      · have q := of_decide_eq_true c
        cases q
      have s35 := sT.trans s5
      have hR5 := s35 _ _ hR3
      have lr := Paired.length pr
      rw [List.length_take] at lr
      have naR : a ≠ R := fun z => by rw [z] at na; rw [sT _ _ hR3] at na; cases na
      have last : (∃ q2' q3' q4' rs', [some (V.str (text xss)), some (.ref R), some (.int (i : Nat)), some (.str (rowText xs)), some (.ref a)] = [some (.str (text xss)), some (.ref R), q2', q3', q4'] ∧ upd H5 R (.lst (rs.map V.ref ++ [.ref a])) R = some (.lst (rs'.map V.ref)) ∧ Paired (LstAt (upd H5 R (.lst (rs.map V.ref ++ [.ref a])))) rs' (xss.take (i + 1)) ∧ R ∉ rs' ∧ But R H2 (upd H5 R (.lst (rs.map V.ref ++ [.ref a])))) := by
        refine ⟨_, _, _, rs ++ [a], rfl, by rw [upd_same, List.map_append]; rfl, ?_, fun z => ?_, (b3.trans s35.but).trans But.upd⟩
        · rw [take_snoc ex]
          refine Paired.snoc ?_ (by show upd _ R _ a = _; rw [upd_ne naR]; exact ha)
          refine paired_keep (r := R) (fun b y nb z => ?_) nR pr
          show upd _ R _ b = _
          rw [upd_ne nb]; exact s35 _ _ z
        · rcases List.mem_append.mp z with z | z
          · exact nR z
          · exact naR (List.mem_singleton.mp z).symm
      refine ⟨_, rfl, _, _, rfl, rfl, _, rfl, ite2 (fun c => ?_) (fun _ => ?_)⟩
      · have hpos : (0 : Int) < (i : Nat) := of_decide_eq_true c
        obtain ⟨r0, er0⟩ : ∃ r0, rs[0]? = some r0 := ⟨rs[0]'(by omega), List.getElem?_eq_getElem _⟩
        obtain ⟨xs0, ex0, hx0⟩ := Paired.get pr er0
        have hm0 : xs0 ∈ xss := List.mem_of_mem_take (List.mem_of_getElem? ex0)
        have hn0 := (D.row xs0 hm0).1
        refine ⟨_, rfl, a, _, rfl, .inl (SqL.of ha), _, rfl, R, _, 0, _, rfl, rfl, SqL.of hR5, at_ref er0, r0, _, rfl, .inl (SqL.of (s35 _ _ hx0)), rfl, _, rfl, ?_⟩
        refine iteNS (by rw [List.length_map, List.length_map, hd.1, hn0]) ?_
        exact ⟨_, rfl, .inl ⟨rfl, _, SqL.of hR5⟩, _, rfl, R, _, _, rfl, rfl, hR5, small1000 (by rw [List.length_map]; omega), last⟩
      · exact ⟨_, rfl, .inl ⟨rfl, _, SqL.of hR5⟩, _, rfl, R, _, _, rfl, rfl, hR5, small1000 (by rw [List.length_map]; omega), last⟩
    · rintro σ H3 ⟨q2, q3, q4, rs, rfl, hR3, pr, nR, b3⟩
      rw [List.length_map, List.length_map, List.take_length] at pr
      refine ⟨_, rfl, fun y dy ny ndy ney => ?_⟩
      have s4 : Same H3 (upd (upd H3 dy (.own y)) y (.ins C dy [])) := fun b o e => by
        rw [upd_ne (ne_of_none e ny), upd_ne (ne_of_none e ndy)]
        exact e
      refine ⟨y, dy, R, true, rs, xss.map (fun xs => xs.map V.int), n, rfl, upd_same, s4 _ _ hR3, Paired.imp' (fun _ _ ⟨kd, z⟩ => ⟨kd, s4 _ _ z⟩) (rowV_of pr), dimV_of D, plains_of, .inl ⟨xss, rfl, D, fun H5 fl5 b5 => ⟨rfl, k y H5 fl5 fun b o e => ?_⟩⟩⟩
      have e3 := b3 b o (sL _ _ (sR _ _ e)) (ne_of_none e hR)
      exact b5 b o (s4 _ _ e3) (ne_of_none e3 ny)
end
end G

set_option Elab.async false
set_option linter.all false
set_option maxRecDepth 100000
set_option maxHeartbeats 4000000
namespace G
open PySem L2 PyProof.Rows
def spShort : Sp := fun vs H Q _ => ∃ g rs xss n, vs = [.ref g] ∧ RowsAt H g rs xss ∧ Dim xss n ∧ ∀ a rs' xss' H', RowsAt H' a rs' xss' → Dim xss' n → Same H H' → Q (.ref a) H'
def spGoes : Sp := fun vs H Q _ => ∃ g rs xss n, vs = [.ref g] ∧ RowsAt H g rs xss ∧ Dim xss n ∧ ∀ H', Same H H' → Q (.bl true) H'
theorem pow12 : (10 : Int) ^ (12 : Int).toNat = 1000000000000 := by decide
def cut12 (xs : List Int) : List Int := xs.map fun i => i % 1000000000000
section
variable {P : Program} {w : World} {K : PySem.W.Frag} {mg : Str → Option Value} {base : Heap} {C CP CL : Addr}
theorem scShort : FnScope ["_law_rows_here"] ["_law_rows_here"] (defScope sShort) := ⟨rfl, rfl, rfl, by decide +kernel, rfl, by decide +kernel, by decide +kernel⟩
theorem ok_short {f : Addr} {fd : FuncData} (F : Fun K "_law_short" "_law_short" sShort f fd) (T : Txt K mg) : FnOk P w K mg base CX0 1 f fd ["_law_rows_here"] spShort := by
  refine F.ok scShort (fun vs H Q E h => ?_) (fun cdv A outer s H vs Q E hr h => ?_)
  · obtain ⟨g, rs, xss, n, rfl, _⟩ := h; rfl
  · obtain ⟨g, rs, xss, n, rfl, ra, D, k⟩ := h
    refine ⟨_, pss_cons (ps_if (pt_cmpR op_le (pe_op op_mul (pe_callB call_len_seq (by rfl) T.len PySem.boot_len (pa_cons (pv 0) pa_nil)) (pe_callB call_len_seq (by rfl) T.len PySem.boot_len (pa_cons (pe_ix ix_list (pv 0) pe_int (fun _ _ => rfl)) pa_nil))) pe_int (nomark _)) (pss_one (ps_ret (pv 0))) pss_nil)
      (pss_one (ps_ret (pe_comp (N := ["_law_row"]) (ix := [none]) (j := 0) rfl Blk.of rfl rfl rfl (pi_list (pv 0)) (fun _ _ _ _ _ => pif_nil)
        (fun _ _ _ _ _ => pe_comp (N := ["_law_loss_here"]) (ix := [none]) (j := 0) rfl Blk.of rfl rfl rfl (pi_list_k (K := K) rfl (pv 0)) (fun _ _ _ _ _ => pif_nil) (fun _ _ _ _ _ => pe_op op_mod (pv 0) (pe_op op_pow pe_int pe_int)))))), ?_⟩
    have hl := Paired.length ra.2
    have d2 := D.h2
    have d3 := D.w2
    obtain ⟨r0, xs0, er0, ex0, hr0, hn0⟩ := row0 ra.2 D
    refine ⟨_, rfl, g, _, rfl, .inl (SqL.of ra.1), _, rfl, g, _, 0, _, rfl, rfl, SqL.of ra.1, at_ref er0, r0, _, rfl, .inl (SqL.of hr0), _, _, rfl, rfl, .inl ⟨by rw [List.length_map]; omega, by rw [List.length_map]; omega⟩, _, _, rfl, rfl, _, rfl, ite2 (fun _ => ?_) (fun _ => ?_)⟩
    · exact ⟨_, rfl, k g rs xss H ra D (Same.refl H)⟩
    refine ⟨_, rfl, g, rfl, ⟨_, SqL.of ra.1⟩, comp_list (xs := rs.map V.ref) (fun i ys H3 => ∃ ts, ys = ts.map V.ref ∧ Paired (LstAt H3) ts ((xss.take i).map cut12) ∧ Same H H3) ⟨[], rfl, by rw [List.take_zero]; exact .nil, Same.refl H⟩ (fun i ys H3 _ ⟨_, _, _, s3⟩ => SqL.of (s3 _ _ ra.1)) ?_ ?_⟩
    · rintro i y ys H3 hi ⟨ts, rfl, pt, s3⟩
      obtain ⟨r, er, rfl⟩ := map_ref hi
      obtain ⟨xs, ex, hx⟩ := Paired.get ra.2 er
      have hd := D.row xs (List.mem_of_getElem? ex)
      have lt := Paired.length pt
      rw [List.length_map, List.length_take] at lt
      have hx3 := s3 _ _ hx
      refine yes ⟨_, rfl, r, rfl, ⟨_, SqL.of hx3⟩, comp_list (xs := xs.map V.int) (fun i ys H4 => ys = (cut12 (xs.take i)).map V.int ∧ H4 = H3) ⟨by rw [List.take_zero]; rfl, rfl⟩ (fun i ys H4 _ ⟨_, e⟩ => by rw [e]; exact SqL.of hx3) ?_ ?_⟩
      · rintro i' y' ys' H4 hi' ⟨rfl, rfl⟩
        obtain ⟨v, ev, rfl⟩ := map_int hi'
        have li' : i' < xs.length := (List.getElem?_eq_some_iff.mp ev).1
        refine yes ⟨_, rfl, _, _, rfl, rfl, ⟨by decide, by decide, by decide⟩, _, _, rfl, rfl, (by show (0 : Int) < (10 : Int) ^ (12 : Int).toNat; rw [pow12]; decide), by unfold cut12; rw [List.length_map, List.length_map, List.length_take]; exact small1000 (by omega), ?_, rfl⟩
        unfold cut12
        rw [take_snoc ev, List.map_append, List.map_append, pow12]; rfl
      · rintro ys' H4 ⟨rfl, rfl⟩ D' hD'
        rw [show (xs.map V.int).length = xs.length from List.length_map .., List.take_length]
        refine ⟨by rw [List.length_map]; exact small1000 (by omega), ts ++ [D'], by rw [List.map_append]; rfl, ?_, s3.trans (Same.upd hD')⟩
        rw [take_snoc ex, List.map_append]
        exact Paired.snoc (Paired.imp' (fun _ _ z => Same.upd hD' _ _ z) pt) upd_same
    · rintro ys H3 ⟨ts, rfl, pt, s3⟩ D' hD'
      rw [List.length_map, hl, List.take_length] at pt
      refine k D' ts (xss.map cut12) _ ⟨upd_same, Paired.imp' (fun _ _ z => Same.upd hD' _ _ z) pt⟩ ⟨by rw [List.length_map]; exact D.h1, by rw [List.length_map]; exact D.h2, D.w1, D.w2, fun xs hx => ?_⟩ (s3.trans (Same.upd hD'))
      obtain ⟨zs, hz, rfl⟩ := List.mem_map.mp hx
      refine ⟨by unfold cut12; rw [List.length_map]; exact (D.row zs hz).1, fun v hv => ?_⟩
      obtain ⟨u, _, rfl⟩ := List.mem_map.mp hv
      have h1 := Int.emod_nonneg u (show (1000000000000 : Int) ≠ 0 by decide)
      have h2 := Int.emod_lt_of_pos u (show (0 : Int) < 1000000000000 by decide)
      have h3 : (1000000000000 : Int) < E60 := by decide
      exact ⟨h1, by omega⟩
theorem scGoes : FnScope ["_law_rows_here", "_law_floor", "_law_text_here", "_law_other", "_law_row", "_law_column"] ["_law_rows_here"] (defScope sGoes) := ⟨rfl, rfl, rfl, by decide +kernel, rfl, by decide +kernel, by decide +kernel⟩
theorem ok_goes {f : Addr} {fd : FuncData} (F : Fun K "_law_goes" "_law_goes" sGoes f fd) (T : Txt K mg) (TC : TxtC K C) (M1 : MCallee P w K mg base C 1 "rows" ["self"] (spFRows C)) (M2 : MCallee P w K mg base C 1 "high" ["self"] (spHigh C)) (M3 : MCallee P w K mg base C 1 "wide" ["self"] (spWide C))
    (M4 : MCalleeE P w K mg base C 5 "loss" ["self", "place"] (spLossE C CP)) (M5 : MCalleeE P w K mg base C 6 "beside" ["self", "place"] (spBesideE C CP)) (D5 : KCalleeE P w K mg base C 5 "Floor" ["self", "rows"] (spInitE C CL)) (D1 : Callee P w K mg base 3 "write_floor" ["floor"] (spWriteF C))
    (D2 : Callee P w K mg base 2 "_law_text" ["_law_rows_here"] spText) (D3 : Callee P w K mg base 7 "read_floor" ["text"] (spReadF C)) : FnOk P w K mg base CX0 8 f fd ["_law_rows_here"] spGoes := by
  refine F.ok scGoes (fun vs H Q E h => ?_) (fun cdv A outer s H vs Q E hr h => ?_)
  · obtain ⟨g, rs, xss, n, rfl, _⟩ := h; rfl
  · obtain ⟨g, rs, xss, n, rfl, ra, D, k⟩ := h
    have hr1 : Room 1 _ := hr.mono (by decide)
    have hr3 : Room 3 _ := hr.mono (by decide)
    have hr6 : Room 6 _ := hr.mono (by decide)
    have hu := hu_of hr
    refine ⟨_, pss_cons (ps_set (i := 1) scGoes.nd rfl (Or.inl rfl) (pe_newE D5 passF hr6 (pa_cons (pv 0) pa_nil)))
      (pss_cons (ps_set (i := 2) scGoes.nd rfl (Or.inl rfl) (pe_fn D1 hr3 (pa_cons (pv 1) pa_nil)))
      (pss_cons (ps_if (PW.pt (pw_or (pt_cmpR op_ne (pv 2) (pe_fn D2 (hr.mono (by decide)) (pa_cons (pv 0) pa_nil)) (nomark _)) (pw_or1 (pt_cmpR (op_ne_grid hu) (pe_m0 (pv 1) TC.cl M1 hr1) (pv 0) (nomark _))))) (pss_one (ps_ret pe_bl)) pss_nil)
      (pss_cons (ps_set (i := 3) scGoes.nd rfl (Or.inl rfl) (pe_fn D3 hr (pa_cons (pv 2) pa_nil)))
      (pss_cons (ps_if (PW.pt (pw_or (pt_cmpR (op_ne_grid hu) (pe_m0 (pv 3) TC.cl M1 hr1) (pv 0) (nomark _)) (pw_or1 (pt_cmpR op_ne (pe_fn D1 hr3 (pa_cons (pv 3) pa_nil)) (pv 2) (nomark _))))) (pss_one (ps_ret pe_bl)) pss_nil)
      (pss_cons (ps_if (PW.pt (pw_or (pt_cmpR op_ne (pe_m0 (pv 3) TC.cl M2 hr1) (pe_callB call_len_seq (by rfl) T.len PySem.boot_len (pa_cons (pv 0) pa_nil)) (nomark _)) (pw_or1 (pt_cmpR op_ne (pe_m0 (pv 3) TC.cl M3 hr1) (pe_callB call_len_seq (by rfl) T.len PySem.boot_len (pa_cons (pe_ix ix_list (pv 0) pe_int (fun _ _ => rfl)) pa_nil)) (nomark _))))) (pss_one (ps_ret pe_bl)) pss_nil)
      (pss_cons (ps_for PassesOwn.never rfl (pi_range1 (by rfl) T.range (pa_cons (pe_callB call_len_seq (by rfl) T.len PySem.boot_len (pa_cons (pv 0) pa_nil)) pa_nil)) (pg_name (i := 4) scGoes.nd rfl (Or.inl rfl))
        (pss_one (ps_for PassesOwn.never rfl (pi_range1 (by rfl) T.range (pa_cons (pe_callB call_len_seq (by rfl) T.len PySem.boot_len (pa_cons (pe_ix ix_list (pv 0) pe_int (fun _ _ => rfl)) pa_nil)) pa_nil)) (pg_name (i := 5) scGoes.nd rfl (Or.inl rfl))
          (pss_cons (ps_if (pt_cmpR op_ne (pe_mE (pv 3) TC.cl M4 passF (hr.mono (by decide)) (pa_cons (pe_tup (pa_cons (pv 4) (pa_cons (pv 5) pa_nil))) pa_nil)) (pe_ix ix_list (pe_ix ix_list (pv 0) (pv 4) (fun _ _ => rfl)) (pv 5) (fun _ _ => rfl)) (nomark _)) (pss_one (ps_ret pe_bl)) pss_nil)
          (pss_one (ps_if (pt_cmpR (op_ne_pairs hu) (pe_mE (pv 3) TC.cl M5 passF hr6 (pa_cons (pe_tup (pa_cons (pv 4) (pa_cons (pv 5) pa_nil))) pa_nil)) (pe_mE (pv 1) TC.cl M5 passF hr6 (pa_cons (pe_tup (pa_cons (pv 4) (pa_cons (pv 5) pa_nil))) pa_nil)) (nomark _)) (pss_one (ps_ret pe_bl)) pss_nil))))))
      (pss_one (ps_ret pe_bl)))))))), ?_⟩
    have hl := Paired.length ra.2
    have d2 := D.h2
    have d3 := D.w2
    obtain ⟨r0, xs0, er0, ex0, hr0, hn0⟩ := row0 ra.2 D
    -- the floor
    refine ⟨_, rfl, fun x dx nx ndx nex => ?_⟩
    have s4 : Same H (upd (upd H dx (.own x)) x (.ins C dx [])) := fun b o e => by
      rw [upd_ne (ne_of_none e nx), upd_ne (ne_of_none e ndx)]
      exact e
    refine ⟨x, dx, g, true, rs, xss.map (fun xs => xs.map V.int), n, rfl, upd_same, s4 _ _ ra.1, Paired.imp' (fun _ _ ⟨kd, z⟩ => ⟨kd, s4 _ _ z⟩) (rowV_of ra.2), dimV_of D, plains_of, .inl ⟨xss, rfl, D, fun H1 fl1 b1 => ⟨rfl, ?_⟩⟩⟩
    have s1 : Same H H1 := fun b o e => b1 b o (s4 b o e) (ne_of_none e nx)
    refine ⟨_, rfl, x, xss, n, rfl, fl1, D, fun H2 s2 => ?_⟩
    have s02 := s1.trans s2
    refine ⟨_, rfl, _, rfl, g, rs, xss, n, rfl, ra.same s02, D, fun H3 s3 => ⟨rfl, _, rfl, iteNS rfl ?_⟩⟩
    have s03 := s02.trans s3
    have fl3 := fl1.same (s2.trans s3)
    obtain ⟨dx3, t3, ts3, f1, f2, f3⟩ := id fl3
    refine ⟨_, rfl, x, dx3, _, rfl, f1, flds_no t3 (by decide +kernel), x, xss, n, rfl, fl3, D, fun a rs1 H4 ha pr1 s5 _ _ _ _ => ?_⟩
    have s04 := s03.trans s5
    refine ⟨_, rfl, a, g, xss, xss, rfl, rfl, grid_of ⟨ha, pr1⟩, grid_of (ra.same s04), _, rfl, iteNS rfl ?_⟩
    refine ⟨_, rfl, xss, n, rfl, D, fun y H5 fl5 s5' => ?_⟩
    have s05 := s04.trans s5'
    have flx5 := fl3.same (s5.trans s5')
    obtain ⟨dy5, t5, ts5, g1, g2, g3⟩ := id fl5
    refine ⟨_, rfl, y, dy5, _, rfl, g1, flds_no t5 (by decide +kernel), y, xss, n, rfl, fl5, D, fun a' rs2 H6 ha' pr2 s6 _ _ _ _ => ?_⟩
    have s06 := s05.trans s6
    refine ⟨_, rfl, a', g, xss, xss, rfl, rfl, grid_of ⟨ha', pr2⟩, grid_of (ra.same s06), _, rfl, iteNS rfl ?_⟩
    refine ⟨_, rfl, y, xss, n, rfl, fl5.same s6, D, fun H7 s7 => ⟨_, rfl, rfl, _, rfl, iteNS rfl ?_⟩⟩
    have s07 := s06.trans s7
    have fly := fl5.same (s6.trans s7)
    have flx := flx5.same (s6.trans s7)
    have R7 := ra.same s07
    obtain ⟨dy, ty, tys, y1, y2, y3⟩ := id fly
    obtain ⟨dxx, tx, txs, x1, x2, x3⟩ := id flx
    refine ⟨_, rfl, y, dy, _, rfl, y1, flds_no ty (by decide +kernel), y, xss, rfl, fly, _, rfl, g, _, rfl, .inl (SqL.of R7.1), rfl, _, rfl, iteNS (by rw [List.length_map, hl]) ?_⟩
    refine ⟨_, rfl, y, dy, _, rfl, y1, flds_no ty (by decide +kernel), y, xss, n, rfl, fly, D, _, rfl, g, _, 0, _, rfl, rfl, SqL.of R7.1, at_ref er0, r0, _, rfl, .inl (SqL.of (s07 _ _ hr0)), rfl, _, rfl, iteNS (by rw [List.length_map, hn0]) ?_⟩
    refine ⟨_, rfl, g, _, rfl, .inl (SqL.of R7.1), _, rfl, (by rw [List.length_map]; omega), (by rw [List.length_map]; omega), for_range (fun i σ H2 => ∃ u v, σ = [some (.ref g), some (.ref x), some (.str (text xss)), some (.ref y), u, v] ∧ Same H7 H2) ⟨none, none, rfl, Same.refl H7⟩ ?_ ?_⟩
    · rintro i σ H8 hi ⟨u, v, rfl, s8⟩
      rw [List.length_map] at hi
      have R8 := R7.same s8
      have hi' : i < xss.length := by omega
      refine ⟨_, rfl, g, _, 0, _, rfl, rfl, SqL.of R8.1, at_ref er0, r0, _, rfl, .inl (SqL.of (s8 _ _ (s07 _ _ hr0))), _, rfl, (by rw [List.length_map]; omega), (by rw [List.length_map]; omega), for_range (fun j σ H3 => ∃ v, σ = [some (.ref g), some (.ref x), some (.str (text xss)), some (.ref y), some (.int ((0 : Int) + (i : Nat))), v] ∧ Same H7 H3) ⟨v, rfl, s8⟩ ?_ ?_⟩
      · rintro j σ H9 hj ⟨v', rfl, s9⟩
        rw [List.length_map, hn0] at hj
        have hj' : j < n := by omega
        have z1 : ((0 : Int) + (i : Nat)) = (i : Int) := by omega
        have z2 : ((0 : Int) + (j : Nat)) = (j : Int) := by omega
        rw [z1, z2]
        refine ⟨_, rfl, y, dy, _, rfl, s9 _ _ y1, flds_no ty (by decide +kernel), _, rfl, _, rfl, (by show 2 ≤ sizeLine; decide), fun q hq => ?_⟩
        have sq1 : Same H9 (upd H9 q (.tup [.int (i : Int), .int (j : Int)])) := Same.upd hq
        have aq : upd H9 q (.tup [.int (i : Int), .int (j : Int)]) q = some (.tup [.int (i : Int), .int (j : Int)]) := upd_same
        generalize upd H9 q (.tup [.int (i : Int), .int (j : Int)]) = H10 at sq1 aq ⊢
        have s10 := s9.trans sq1
        refine ⟨y, .ref q, xss, n, rfl, fly.same s10, D, .inr ⟨q, i, j, rfl, ⟨⟨false, aq⟩, hi', hj'⟩, fun H11 s11 => ?_⟩⟩
        have s711 := s10.trans s11
        have R11 := R7.same s711
        obtain ⟨ar, xs, ea, hx, ev, _⟩ := cell_at R11 D hi' hj'
        refine ⟨_, rfl, _, rfl, g, _, _, _, rfl, rfl, SqL.of R11.1, at_ref ea, _, rfl, ar, _, _, _, rfl, rfl, SqL.of hx, at_int ev, rfl, _, rfl, iteNS rfl ?_⟩
        refine ⟨_, rfl, y, dy, _, rfl, s711 _ _ y1, flds_no ty (by decide +kernel), _, rfl, _, rfl, (by show 2 ≤ sizeLine; decide), fun q' hq' => ?_⟩
        have sq2 : Same H11 (upd H11 q' (.tup [.int (i : Int), .int (j : Int)])) := Same.upd hq'
        have aq2 : upd H11 q' (.tup [.int (i : Int), .int (j : Int)]) q' = some (.tup [.int (i : Int), .int (j : Int)]) := upd_same
        generalize upd H11 q' (.tup [.int (i : Int), .int (j : Int)]) = H12 at sq2 aq2 ⊢
        have s712 := s711.trans sq2
        refine ⟨y, .ref q', xss, n, rfl, fly.same s712, D, .inr ⟨q', i, j, rfl, ⟨⟨false, aq2⟩, hi', hj'⟩, fun ta tas H13 hta pta s13 nta => ?_⟩⟩
        have s713 := s712.trans s13
        refine ⟨_, rfl, x, dxx, _, rfl, s713 _ _ x1, flds_no tx (by decide +kernel), _, rfl, _, rfl, (by show 2 ≤ sizeLine; decide), fun q3 hq3 => ?_⟩
        have sq3 : Same H13 (upd H13 q3 (.tup [.int (i : Int), .int (j : Int)])) := Same.upd hq3
        have aq3 : upd H13 q3 (.tup [.int (i : Int), .int (j : Int)]) q3 = some (.tup [.int (i : Int), .int (j : Int)]) := upd_same
        generalize upd H13 q3 (.tup [.int (i : Int), .int (j : Int)]) = H14 at sq3 aq3 ⊢
        have s714 := s713.trans sq3
        refine ⟨x, .ref q3, xss, n, rfl, flx.same s714, D, .inr ⟨q3, i, j, rfl, ⟨⟨false, aq3⟩, hi', hj'⟩, fun wa was H15 hwa pwa s15 nwa => ?_⟩⟩
        have s1315 := sq3.trans s15
        exact ⟨ta, wa, _, _, rfl, rfl, prs_of (s1315 _ _ hta) (Paired.imp' (fun _ _ z => s1315 _ _ z) pta), prs_of hwa pwa, _, rfl, iteNS rfl ⟨_, rfl, s714.trans s15⟩⟩
      · rintro σ H9 ⟨v', rfl, s9⟩
        exact ⟨_, _, rfl, s9⟩
    · rintro σ H8 ⟨u, v, rfl, s8⟩
      exact k H8 (s07.trans s8)
def spLaw (K : PySem.W.Frag) : Sp := fun vs H Q _ => ∃ (a : Addr) (ns : List Int), vs = [.ref a] ∧ SqL K H a (ns.map V.int) ∧ ns.length ≤ 63 ∧ ∀ H', Q (.bl true) H'
theorem rep_one {α : Type} (x : α) (k : Nat) : (List.replicate k [x]).flatten = List.replicate k x := by
  induction k with
  | zero => rfl
  | succ k ih => rw [List.replicate_succ, List.flatten_cons, ih]; rfl
theorem pair_rep {R : Addr → List Int → Prop} {a : Addr} {xs : List Int} (h : R a xs) : ∀ k, Paired R (List.replicate k a) (List.replicate k xs)
  | 0 => .nil
  | k + 1 => .cons h (pair_rep h k)
theorem scLaw : FnScope ["_law_script", "_law_purse_here", "_law_rows_here", "_law_other", "_law_row", "_law_column"] ["_law_script"] (defScope sLaw) := ⟨rfl, rfl, rfl, by decide +kernel, rfl, by decide +kernel, by decide +kernel⟩
theorem ok_law {f : Addr} {fd : FuncData} (F : Fun K "law" "law" sLaw f fd) (T : Txt K mg) (D1 : Callee P w K mg base 1 "_law_purse" ["_law_script", "_law_k"] (spPurse K)) (D2 : Callee P w K mg base 3 "_law_rows" ["_law_purse_here"] spGrid)
    (D3 : Callee P w K mg base 1 "_law_take" ["_law_purse_here", "_law_room"] spTake) (D4 : Callee P w K mg base 2 "_law_loss" ["_law_purse_here"] spDraw) (D5 : Callee P w K mg base 1 "_law_short" ["_law_rows_here"] spShort) (D6 : Callee P w K mg base 8 "_law_goes" ["_law_rows_here"] spGoes) : FnOk P w K mg base CX0 9 f fd ["_law_script"] (spLaw K) := by
  refine F.ok scLaw (fun vs H Q E h => ?_) (fun cdv A outer s H vs Q E hr h => ?_)
  · obtain ⟨a, ns, rfl, _⟩ := h; rfl
  · obtain ⟨a, ns, rfl, hS, hlen, k⟩ := h
    have hr1 : Room 1 _ := hr.mono (by decide)
    have hr2 : Room 2 _ := hr.mono (by decide)
    have hr3 : Room 3 _ := hr.mono (by decide)
    refine ⟨_, pss_cons (ps_set (i := 1) scLaw.nd rfl (Or.inl rfl) (pe_fn D1 hr1 (pa_cons (pv 0) (pa_cons pe_int pa_nil))))
      (pss_cons (ps_set (i := 2) scLaw.nd rfl (Or.inl rfl) (pe_fn D5 hr1 (pa_cons (pe_fn D2 hr3 (pa_cons (pv 1) pa_nil)) pa_nil)))
      (pss_cons (ps_setc (i0 := 3) (N := ["_law_row"]) (ix := [none]) (j := 0) rfl scLaw.nd rfl (Or.inl rfl) Blk.of rfl rfl rfl (pi_list (pv 2)) (fun _ _ _ _ _ => pif_nil) (fun _ _ _ _ _ => pe_callTy (call_list_k (K := K) rfl) (by rfl) T.list boot_list (pa_cons (pv 0) pa_nil)))
      (pss_cons (ps_set (i := 4) scLaw.nd rfl (Or.inl rfl) (pe_fn D3 hr1 (pa_cons (pv 1) (pa_cons (pe_callB call_len_seq (by rfl) T.len PySem.boot_len (pa_cons (pv 2) pa_nil)) pa_nil))))
      (pss_cons (ps_set (i := 5) scLaw.nd rfl (Or.inl rfl) (pe_fn D3 hr1 (pa_cons (pv 1) (pa_cons (pe_callB call_len_seq (by rfl) T.len PySem.boot_len (pa_cons (pe_ix ix_list (pv 2) pe_int (fun _ _ => rfl)) pa_nil)) pa_nil))))
      (pss_cons (ps_asg (pe_ix ix_list (pe_ix ix_list (pe_fn D5 hr1 (pa_cons (pe_op op_rep (pe_lst (pa_cons (pe_op op_rep (pe_lst (pa_cons (pe_fn D4 hr2 (pa_cons (pv 1) pa_nil)) pa_nil)) pe_int) pa_nil)) pe_int) pa_nil)) pe_int (fun _ _ => rfl)) pe_int (fun _ _ => rfl)) (pg_sub (pe_ix ix_list (pv 3) (pv 4) (fun _ _ => rfl)) (pv 5) set_list))
      (pss_one (ps_ret (pe_and (pe_fn D6 hr (pa_cons (pv 2) pa_nil)) (pe_and (pe_fn D6 hr (pa_cons (pv 3) pa_nil)) (pe_one (pe_fn D6 hr (pa_cons (pv 2) pa_nil)))))))))))), ?_⟩
    refine ⟨_, rfl, a, ns, rfl, hS, hlen, fun p H1 P1 s1 => ?_⟩
    refine ⟨_, rfl, p, rfl, P1, fun g0 rs0 xss0 n H2 R2 D0 P2 b2 => ⟨g0, rs0, xss0, n, rfl, R2, D0, fun g rs xss H3 ra D s3 => ?_⟩⟩
    have P3 := P2.same s3
    have hl := Paired.length ra.2
    have d1 := D.h1
    have d2 := D.h2
    have w1 := D.w1
    have w2 := D.w2
    obtain ⟨r0, xs0, er0, ex0, hr0, hn0⟩ := row0 ra.2 D
    refine ⟨_, rfl, g, rfl, ⟨_, SqL.of ra.1⟩, comp_list (xs := rs.map V.ref) (fun i ys H4 => ∃ ts, ys = ts.map V.ref ∧ Paired (LstAt H4) ts (xss.take i) ∧ Same H3 H4 ∧ (∀ r ∈ ts, H3 r = none) ∧ ts.Nodup) ⟨[], rfl, by rw [List.take_zero]; exact .nil, Same.refl H3, (fun r z => nomatch z), List.nodup_nil⟩ (fun i ys H4 _ ⟨_, _, _, s4, _, _⟩ => SqL.of (s4 _ _ ra.1)) ?_ ?_⟩
    · rintro i y ys H4 hi ⟨ts, rfl, pt, s4, fr, nd⟩
      obtain ⟨r, er, rfl⟩ := map_ref hi
      obtain ⟨xs, ex, hr'⟩ := Paired.get ra.2 er
      have lt := Paired.length pt
      rw [List.length_take] at lt
      have sz : (ts.map V.ref).length < sizeLine := by rw [List.length_map]; exact small1000 (by omega)
      refine yes ⟨_, rfl, r, _, rfl, .inl (SqL.of (s4 _ _ hr')), fun l hl' => ⟨sz, ts ++ [l], by rw [List.map_append]; rfl, ?_, s4.trans (Same.upd hl'), fun z hz => ?_, nodup_snoc nd (fresh_of pt hl')⟩⟩
      · rw [take_snoc ex]
        exact Paired.snoc (Paired.imp' (fun _ _ z => Same.upd hl' _ _ z) pt) upd_same
      · rcases List.mem_append.mp hz with hz | hz
        · exact fr z hz
        · rw [List.mem_singleton.mp hz]; exact s4.free hl'
    · rintro ys H4 ⟨ts, rfl, pt, s4, fr, nd⟩ OT hOT
      rw [List.length_map, hl, List.take_length] at pt
      have nO := fresh_of pt hOT
      have s5 : Same H4 (upd H4 OT (.lst (ts.map V.ref))) := Same.upd hOT
      have aO : upd H4 OT (.lst (ts.map V.ref)) OT = some (.lst (ts.map V.ref)) := upd_same
      generalize upd H4 OT (.lst (ts.map V.ref)) = H5 at s5 aO ⊢
      have s35 := s4.trans s5
      have P5 := P3.same s35
      have R5 := ra.same s35
      have O5 : RowsAt H5 OT ts xss := ⟨aO, Paired.imp' (fun _ _ z => s5 _ _ z) pt⟩
      refine ⟨_, rfl, _, rfl, g, _, rfl, .inl (SqL.of R5.1), p, _, rfl, P5, (by rw [List.length_map]; omega), (by rw [List.length_map]; omega), fun i H6 i1 i2 P6 b6 => ?_⟩
      rw [List.length_map] at i2
      have R6 := R5.but P5 b6
      have O6 := O5.but P5 b6
      obtain ⟨r6, xs6, er6, ex6, hr6, hn6⟩ := row0 R6.2 D
      refine ⟨_, rfl, _, rfl, g, _, 0, _, rfl, rfl, SqL.of R6.1, at_ref er6, r6, _, rfl, .inl (SqL.of hr6), p, _, rfl, P6, (by rw [List.length_map]; omega), (by rw [List.length_map]; omega), fun j H7 j1 j2 P7 b7 => ?_⟩
      rw [List.length_map, hn6] at j2
      have R7 := R6.but P6 b7
      have O7 := O6.but P6 b7
      obtain ⟨i', rfl⟩ := Int.eq_ofNat_of_zero_le i1
      obtain ⟨j', rfl⟩ := Int.eq_ofNat_of_zero_le j1
      refine ⟨_, rfl, p, rfl, P7, fun v H8 v1 v2 P8 b8 => ?_⟩
      have R8 := R7.but P7 b8
      have O8 := O7.but P7 b8
      refine ⟨(by show 1 ≤ sizeLine; decide), fun l1 hl1 => ?_⟩
      have q1 : Same H8 (upd H8 l1 (.lst [.int v])) := Same.upd hl1
      have c1 : upd H8 l1 (.lst [.int v]) l1 = some (.lst [.int v]) := upd_same
      generalize upd H8 l1 (.lst [.int v]) = H9 at q1 c1 ⊢
      refine ⟨l1, 30, _, rfl, rfl, c1, by decide, by decide, (by show 1 * 30 ≤ sizeLine; decide), fun l2 hl2 => ?_⟩
      rw [rep_one]
      have q2 : Same H9 (upd H9 l2 (.lst (List.replicate (30 : Int).toNat (.int v)))) := Same.upd hl2
      have c2 : upd H9 l2 (.lst (List.replicate (30 : Int).toNat (.int v))) l2 = some (.lst (List.replicate (30 : Int).toNat (.int v))) := upd_same
      generalize upd H9 l2 (.lst (List.replicate (30 : Int).toNat (.int v))) = H10 at q2 c2 ⊢
      refine ⟨(by show 1 ≤ sizeLine; decide), fun l3 hl3 => ?_⟩
      have q3 : Same H10 (upd H10 l3 (.lst [.ref l2])) := Same.upd hl3
      have c3 : upd H10 l3 (.lst [.ref l2]) l3 = some (.lst [.ref l2]) := upd_same
      generalize upd H10 l3 (.lst [.ref l2]) = H11 at q3 c3 ⊢
      refine ⟨l3, 11, _, rfl, rfl, c3, by decide, by decide, (by show 1 * 11 ≤ sizeLine; decide), fun l4 hl4 => ?_⟩
      rw [rep_one]
      have q4 : Same H11 (upd H11 l4 (.lst (List.replicate (11 : Int).toNat (.ref l2)))) := Same.upd hl4
      have c4 : upd H11 l4 (.lst (List.replicate (11 : Int).toNat (.ref l2))) l4 = some (.lst (List.replicate (11 : Int).toNat (.ref l2))) := upd_same
      generalize upd H11 l4 (.lst (List.replicate (11 : Int).toNat (.ref l2))) = H12 at q4 c4 ⊢
      have q812 := ((q1.trans q2).trans q3).trans q4
      have RL : RowsAt H12 l4 (List.replicate 11 l2) (List.replicate 11 (List.replicate 30 v)) := by
        refine ⟨by rw [c4, List.map_replicate]; rfl, pair_rep ?_ 11⟩
        show H12 l2 = _
        rw [List.map_replicate]
        exact (q3.trans q4) _ _ c2
      have DL : Dim (List.replicate 11 (List.replicate 30 v)) 30 := ⟨by rw [List.length_replicate]; decide, by rw [List.length_replicate]; decide, by decide, by decide, fun xs hx => by
        rw [(List.mem_replicate.mp hx).2]
        exact ⟨List.length_replicate, fun u hu => by rw [(List.mem_replicate.mp hu).2]; exact ⟨v1, v2⟩⟩⟩
      refine ⟨l4, _, _, 30, rfl, RL, DL, fun a4 rs4 xs4 H13 R13 D4' s13 => ?_⟩
      obtain ⟨r4, x4, er4, ex4, hr4, hn4⟩ := row0 R13.2 D4'
      have ok4 := (D4'.row x4 (List.mem_of_getElem? ex4)).2
      obtain ⟨z, ez⟩ : ∃ z, x4[0]? = some z := ⟨x4[0]'(by omega), List.getElem?_eq_getElem _⟩
      have hz := ok4 z (List.mem_of_getElem? ez)
      refine ⟨a4, _, 0, _, rfl, rfl, SqL.of R13.1, at_ref er4, r4, _, 0, _, rfl, rfl, SqL.of hr4, at_int ez, ?_⟩
      have s813 := q812.trans s13
      have R13' := R8.same s813
      have O13 := O8.same s813
      have ltO := Paired.length O13.2
      obtain ⟨r, er⟩ : ∃ r, ts[i']? = some r := ⟨ts[i']'(by omega), List.getElem?_eq_getElem _⟩
      obtain ⟨xs, ex, hx⟩ := Paired.get O13.2 er
      have hnx := (D.row xs (List.mem_of_getElem? ex)).1
      have n3r := fr r (List.mem_of_getElem? er)
      refine ⟨_, rfl, _, rfl, OT, _, _, _, rfl, rfl, SqL.of O13.1, at_ref er, _, rfl, r, _, _, j', rfl, rfl, hx, ixN_nat (by rw [List.length_map]; omega), ?_⟩
      have nOr : OT ≠ r := fun q => nO (by rw [q]; exact List.mem_of_getElem? er)
      have ngr : g ≠ r := ne_of_none ra.1 n3r
      have R14 : RowsAt (upd H13 r (.lst ((xs.map V.int).set j' (.int z)))) g rs xss := by
        refine ⟨by rw [upd_ne ngr]; exact R13'.1, ?_⟩
        refine paired_keep (r := r) (fun b y nb q => ?_) (fun hm => ?_) R13'.2
        · show upd _ r _ b = _
          rw [upd_ne nb]; exact q
        · obtain ⟨i0, hi0⟩ := List.getElem?_of_mem hm
          obtain ⟨_, _, q⟩ := Paired.get ra.2 hi0
          exact ne_of_none q n3r rfl
      have O14 : RowsAt (upd H13 r (.lst ((xs.map V.int).set j' (.int z)))) OT ts (setAt xss i' j' z) := by
        refine ⟨by rw [upd_ne nOr]; exact O13.1, ?_⟩
        unfold setAt
        rw [ex]
        refine paired_set (r := r) (fun b y nb q => ?_) ?_ O13.2 nd er
        · show upd _ r _ b = _
          rw [upd_ne nb]; exact q
        · show upd _ r _ r = _
          rw [upd_same]
          show _ = some (HO.lst ((xs.set j' z).map V.int))
          rw [map_set]
      generalize upd H13 r (.lst ((xs.map V.int).set j' (.int z))) = H14 at R14 O14 ⊢
      refine ⟨_, rfl, g, rs, xss, n, rfl, R14, D, fun H15 s15 => ⟨true, rfl, iteT ?_⟩⟩
      refine ⟨_, rfl, OT, ts, _, n, rfl, O14.same s15, setAt_dim D (by omega) hz, fun H16 s16 => ⟨true, rfl, iteT ?_⟩⟩
      exact ⟨_, rfl, g, rs, xss, n, rfl, R14.same (s15.trans s16), D, fun H17 s17 => k H17⟩
end
end G

set_option Elab.async false
set_option linter.all false
set_option maxRecDepth 100000
set_option maxHeartbeats 4000000
namespace G
open PySem L2 PyProof.Rows
theorem all_mk {l : PySem.W.OpenLaw} {w : World} {K : PySem.W.Frag} {h : Heap} {mg : Str → Option Value} {tM tW tO tWW tOW tF tMF tLG : Tok} {fa C CP CL f1 f2 f3 f4 f5 f6 f7 f8 f9 f10 f11 f12 f13 f14 f15 f16 f17 f18 f19 f20 f21 f22 f23 f24 f25 f26 f27 f28 f29 f30 f31 f32 f33 f34 : Addr} (X : K.In h) (G : h.Ns mainGlobals mg) (hfa : mg "law" = some (.ref fa))
    {od1 an1 : Option Addr} {sl1 : Array (Option Value)} {oc1 kV1 dc1 pm1 cd1 ct1 : Value}
    {od2 an2 : Option Addr} {sl2 : Array (Option Value)} {oc2 kV2 dc2 pm2 cd2 ct2 : Value}
    {od3 an3 : Option Addr} {sl3 : Array (Option Value)} {oc3 kV3 dc3 pm3 cd3 ct3 : Value}
    {od4 an4 : Option Addr} {sl4 : Array (Option Value)} {oc4 kV4 dc4 pm4 cd4 ct4 : Value}
    {od5 an5 : Option Addr} {sl5 : Array (Option Value)} {oc5 kV5 dc5 pm5 cd5 ct5 : Value}
    {od6 an6 : Option Addr} {sl6 : Array (Option Value)} {oc6 kV6 dc6 pm6 cd6 ct6 : Value}
    {od7 an7 : Option Addr} {sl7 : Array (Option Value)} {oc7 kV7 dc7 pm7 cd7 ct7 : Value}
    {od8 an8 : Option Addr} {sl8 : Array (Option Value)} {oc8 kV8 dc8 pm8 cd8 ct8 : Value}
    {od9 an9 : Option Addr} {sl9 : Array (Option Value)} {oc9 kV9 dc9 pm9 cd9 ct9 : Value}
    {od10 an10 : Option Addr} {sl10 : Array (Option Value)} {oc10 kV10 dc10 pm10 cd10 ct10 : Value}
    {od11 an11 : Option Addr} {sl11 : Array (Option Value)} {oc11 kV11 dc11 pm11 cd11 ct11 : Value}
    {od12 an12 : Option Addr} {sl12 : Array (Option Value)} {oc12 kV12 dc12 pm12 cd12 ct12 : Value}
    {od13 an13 : Option Addr} {sl13 : Array (Option Value)} {oc13 kV13 dc13 pm13 cd13 ct13 : Value}
    {od14 an14 : Option Addr} {sl14 : Array (Option Value)} {oc14 kV14 dc14 pm14 cd14 ct14 : Value}
    {od15 an15 : Option Addr} {sl15 : Array (Option Value)} {oc15 kV15 dc15 pm15 cd15 ct15 : Value}
    {od16 an16 : Option Addr} {sl16 : Array (Option Value)} {oc16 kV16 dc16 pm16 cd16 ct16 : Value}
    {od17 an17 : Option Addr} {sl17 : Array (Option Value)} {oc17 kV17 dc17 pm17 cd17 ct17 : Value}
    {od18 an18 : Option Addr} {sl18 : Array (Option Value)} {oc18 kV18 dc18 pm18 cd18 ct18 : Value}
    {od19 an19 : Option Addr} {sl19 : Array (Option Value)} {oc19 kV19 dc19 pm19 cd19 ct19 : Value}
    {od20 an20 : Option Addr} {sl20 : Array (Option Value)} {oc20 kV20 dc20 pm20 cd20 ct20 : Value}
    {od21 an21 : Option Addr} {sl21 : Array (Option Value)} {oc21 kV21 dc21 pm21 cd21 ct21 : Value}
    {od22 an22 : Option Addr} {sl22 : Array (Option Value)} {oc22 kV22 dc22 pm22 cd22 ct22 : Value}
    {od23 an23 : Option Addr} {sl23 : Array (Option Value)} {oc23 kV23 dc23 pm23 cd23 ct23 : Value}
    {od24 an24 : Option Addr} {sl24 : Array (Option Value)} {oc24 kV24 dc24 pm24 cd24 ct24 : Value}
    {od25 an25 : Option Addr} {sl25 : Array (Option Value)} {oc25 kV25 dc25 pm25 cd25 ct25 : Value}
    {od26 an26 : Option Addr} {sl26 : Array (Option Value)} {oc26 kV26 dc26 pm26 cd26 ct26 : Value}
    {od27 an27 : Option Addr} {sl27 : Array (Option Value)} {oc27 kV27 dc27 pm27 cd27 ct27 : Value}
    {od28 an28 : Option Addr} {sl28 : Array (Option Value)} {oc28 kV28 dc28 pm28 cd28 ct28 : Value}
    {od29 an29 : Option Addr} {sl29 : Array (Option Value)} {oc29 kV29 dc29 pm29 cd29 ct29 : Value}
    {od30 an30 : Option Addr} {sl30 : Array (Option Value)} {oc30 kV30 dc30 pm30 cd30 ct30 : Value}
    {od31 an31 : Option Addr} {sl31 : Array (Option Value)} {oc31 kV31 dc31 pm31 cd31 ct31 : Value}
    {od32 an32 : Option Addr} {sl32 : Array (Option Value)} {oc32 kV32 dc32 pm32 cd32 ct32 : Value}
    {od33 an33 : Option Addr} {sl33 : Array (Option Value)} {oc33 kV33 dc33 pm33 cd33 ct33 : Value}
    {od34 an34 : Option Addr} {sl34 : Array (Option Value)} {oc34 kV34 dc34 pm34 cd34 ct34 : Value}
    (aC : PySem.W.nsIn K mainGlobals "Floor" = some (some (.ref C))) (pg : PySem.W.plainGet K C Str.empty = true) (hd : PySem.W.hasDictIn K C = true) (po : PySem.W.plainOver K C = true) (sa : PySem.W.findIn K (.ref C) "__setattr__" = some (some (.builtin "object.__setattr__"))) (mk : PySem.W.makesIn K C = true) (kc : PySem.W.keepIn K (.ref C) = true) (nl : PySem.W.findIn K (.ref C) "losses" = some none)
    (a1 : PySem.W.nsIn K mainGlobals "is_whole" = some (some (.ref f1)))
    (l1 : K.lookup f1 = some ⟨oc1, od1, .func (PySem.W.fnOf "is_whole" "is_whole" (defArgs sWhole) (defBody sWhole) (defScope sWhole) .none kV1 dc1 pm1 an1 cd1 ct1), sl1⟩) (c1 : PySem.W.codeIn K cd1 "is_whole" = true) (k1 : PySem.W.keepIn K (.ref f1) = true)
    (a2 : PySem.W.nsIn K mainGlobals "is_pair" = some (some (.ref f2)))
    (l2 : K.lookup f2 = some ⟨oc2, od2, .func (PySem.W.fnOf "is_pair" "is_pair" (defArgs sPair) (defBody sPair) (defScope sPair) .none kV2 dc2 pm2 an2 cd2 ct2), sl2⟩) (c2 : PySem.W.codeIn K cd2 "is_pair" = true) (k2 : PySem.W.keepIn K (.ref f2) = true)
    (a3 : PySem.W.nsIn K mainGlobals "around" = some (some (.ref f3)))
    (l3 : K.lookup f3 = some ⟨oc3, od3, .func (PySem.W.fnOf "around" "around" (defArgs sAround) (defBody sAround) (defScope sAround) .none kV3 dc3 pm3 an3 cd3 ct3), sl3⟩) (c3 : PySem.W.codeIn K cd3 "around" = true) (k3 : PySem.W.keepIn K (.ref f3) = true)
    (a4 : PySem.W.nsIn K mainGlobals "is_listed" = some (some (.ref f4)))
    (l4 : K.lookup f4 = some ⟨oc4, od4, .func (PySem.W.fnOf "is_listed" "is_listed" (defArgs sListed) (defBody sListed) (defScope sListed) .none kV4 dc4 pm4 an4 cd4 ct4), sl4⟩) (c4 : PySem.W.codeIn K cd4 "is_listed" = true) (k4 : PySem.W.keepIn K (.ref f4) = true)
    (a5 : PySem.W.nsIn K mainGlobals "is_within" = some (some (.ref f5)))
    (l5 : K.lookup f5 = some ⟨oc5, od5, .func (PySem.W.fnOf "is_within" "is_within" (defArgs sWithin) (defBody sWithin) (defScope sWithin) .none kV5 dc5 pm5 an5 cd5 ct5), sl5⟩) (c5 : PySem.W.codeIn K cd5 "is_within" = true) (k5 : PySem.W.keepIn K (.ref f5) = true)
    (a6 : PySem.W.nsIn K mainGlobals "is_rectangle" = some (some (.ref f6)))
    (l6 : K.lookup f6 = some ⟨oc6, od6, .func (PySem.W.fnOf "is_rectangle" "is_rectangle" (defArgs sRect) (defBody sRect) (defScope sRect) .none kV6 dc6 pm6 an6 cd6 ct6), sl6⟩) (c6 : PySem.W.codeIn K cd6 "is_rectangle" = true) (k6 : PySem.W.keepIn K (.ref f6) = true)
    (a7 : PySem.W.nsIn K mainGlobals "is_sized" = some (some (.ref f7)))
    (l7 : K.lookup f7 = some ⟨oc7, od7, .func (PySem.W.fnOf "is_sized" "is_sized" (defArgs sSized) (defBody sSized) (defScope sSized) .none kV7 dc7 pm7 an7 cd7 ct7), sl7⟩) (c7 : PySem.W.codeIn K cd7 "is_sized" = true) (k7 : PySem.W.keepIn K (.ref f7) = true)
    (a8 : PySem.W.nsIn K mainGlobals "check_losses" = some (some (.ref f8)))
    (l8 : K.lookup f8 = some ⟨oc8, od8, .func (PySem.W.fnOf "check_losses" "check_losses" (defArgs sCheckL) (defBody sCheckL) (defScope sCheckL) .none kV8 dc8 pm8 an8 cd8 ct8), sl8⟩) (c8 : PySem.W.codeIn K cd8 "check_losses" = true) (k8 : PySem.W.keepIn K (.ref f8) = true)
    (a9 : PySem.W.nsIn K mainGlobals "is_loss" = some (some (.ref f9)))
    (l9 : K.lookup f9 = some ⟨oc9, od9, .func (PySem.W.fnOf "is_loss" "is_loss" (defArgs sIsLoss) (defBody sIsLoss) (defScope sIsLoss) .none kV9 dc9 pm9 an9 cd9 ct9), sl9⟩) (c9 : PySem.W.codeIn K cd9 "is_loss" = true) (k9 : PySem.W.keepIn K (.ref f9) = true)
    (a10 : PySem.W.nsIn K mainGlobals "_law_purse" = some (some (.ref f10)))
    (l10 : K.lookup f10 = some ⟨oc10, od10, .func (PySem.W.fnOf "_law_purse" "_law_purse" (defArgs sPurse) (defBody sPurse) (defScope sPurse) .none kV10 dc10 pm10 an10 cd10 ct10), sl10⟩) (c10 : PySem.W.codeIn K cd10 "_law_purse" = true) (k10 : PySem.W.keepIn K (.ref f10) = true)
    (a11 : PySem.W.nsIn K mainGlobals "_law_take" = some (some (.ref f11)))
    (l11 : K.lookup f11 = some ⟨oc11, od11, .func (PySem.W.fnOf "_law_take" "_law_take" (defArgs sTake) (defBody sTake) (defScope sTake) .none kV11 dc11 pm11 an11 cd11 ct11), sl11⟩) (c11 : PySem.W.codeIn K cd11 "_law_take" = true) (k11 : PySem.W.keepIn K (.ref f11) = true)
    (a12 : PySem.W.nsIn K mainGlobals "_law_loss" = some (some (.ref f12)))
    (l12 : K.lookup f12 = some ⟨oc12, od12, .func (PySem.W.fnOf "_law_loss" "_law_loss" (defArgs sDraw) (defBody sDraw) (defScope sDraw) .none kV12 dc12 pm12 an12 cd12 ct12), sl12⟩) (c12 : PySem.W.codeIn K cd12 "_law_loss" = true) (k12 : PySem.W.keepIn K (.ref f12) = true)
    (a13 : PySem.W.nsIn K mainGlobals "_law_rows" = some (some (.ref f13)))
    (l13 : K.lookup f13 = some ⟨oc13, od13, .func (PySem.W.fnOf "_law_rows" "_law_rows" (defArgs sGrid) (defBody sGrid) (defScope sGrid) .none kV13 dc13 pm13 an13 cd13 ct13), sl13⟩) (c13 : PySem.W.codeIn K cd13 "_law_rows" = true) (k13 : PySem.W.keepIn K (.ref f13) = true)
    (a14 : PySem.W.nsIn K mainGlobals "write_floor" = some (some (.ref f14)))
    (l14 : K.lookup f14 = some ⟨oc14, od14, .func (PySem.W.fnOf "write_floor" "write_floor" (defArgs sWriteF) (defBody sWriteF) (defScope sWriteF) .none kV14 dc14 pm14 an14 cd14 ct14), sl14⟩) (c14 : PySem.W.codeIn K cd14 "write_floor" = true) (k14 : PySem.W.keepIn K (.ref f14) = true)
    (a15 : PySem.W.nsIn K mainGlobals "write_row" = some (some (.ref f15)))
    (l15 : K.lookup f15 = some ⟨oc15, od15, .func (PySem.W.fnOf "write_row" "write_row" (defArgs sWriteR) (defBody sWriteR) (defScope sWriteR) .none kV15 dc15 pm15 an15 cd15 ct15), sl15⟩) (c15 : PySem.W.codeIn K cd15 "write_row" = true) (k15 : PySem.W.keepIn K (.ref f15) = true)
    (a16 : PySem.W.nsIn K mainGlobals "write_loss" = some (some (.ref f16)))
    (l16 : K.lookup f16 = some ⟨oc16, od16, .func (PySem.W.fnOf "write_loss" "write_loss" (defArgs sWriteL) (defBody sWriteL) (defScope sWriteL) .none kV16 dc16 pm16 an16 cd16 ct16), sl16⟩) (c16 : PySem.W.codeIn K cd16 "write_loss" = true) (k16 : PySem.W.keepIn K (.ref f16) = true)
    (a17 : PySem.W.nsIn K mainGlobals "read_floor" = some (some (.ref f17)))
    (l17 : K.lookup f17 = some ⟨oc17, od17, .func (PySem.W.fnOf "read_floor" "read_floor" (defArgs sReadF) (defBody sReadF) (defScope sReadF) .none kV17 dc17 pm17 an17 cd17 ct17), sl17⟩) (c17 : PySem.W.codeIn K cd17 "read_floor" = true) (k17 : PySem.W.keepIn K (.ref f17) = true)
    (a18 : PySem.W.nsIn K mainGlobals "read_row" = some (some (.ref f18)))
    (l18 : K.lookup f18 = some ⟨oc18, od18, .func (PySem.W.fnOf "read_row" "read_row" (defArgs sReadR) (defBody sReadR) (defScope sReadR) .none kV18 dc18 pm18 an18 cd18 ct18), sl18⟩) (c18 : PySem.W.codeIn K cd18 "read_row" = true) (k18 : PySem.W.keepIn K (.ref f18) = true)
    (a19 : PySem.W.nsIn K mainGlobals "read_loss" = some (some (.ref f19)))
    (l19 : K.lookup f19 = some ⟨oc19, od19, .func (PySem.W.fnOf "read_loss" "read_loss" (defArgs sReadL) (defBody sReadL) (defScope sReadL) .none kV19 dc19 pm19 an19 cd19 ct19), sl19⟩) (c19 : PySem.W.codeIn K cd19 "read_loss" = true) (k19 : PySem.W.keepIn K (.ref f19) = true)
    (a20 : PySem.W.nsIn K mainGlobals "read_number" = some (some (.ref f20)))
    (l20 : K.lookup f20 = some ⟨oc20, od20, .func (PySem.W.fnOf "read_number" "read_number" (defArgs sRN) (defBody sRN) (defScope sRN) .none kV20 dc20 pm20 an20 cd20 ct20), sl20⟩) (c20 : PySem.W.codeIn K cd20 "read_number" = true) (k20 : PySem.W.keepIn K (.ref f20) = true)
    (a21 : PySem.W.nsIn K mainGlobals "_law_word" = some (some (.ref f21)))
    (l21 : K.lookup f21 = some ⟨oc21, od21, .func (PySem.W.fnOf "_law_word" "_law_word" (defArgs sWord) (defBody sWord) (defScope sWord) .none kV21 dc21 pm21 an21 cd21 ct21), sl21⟩) (c21 : PySem.W.codeIn K cd21 "_law_word" = true) (k21 : PySem.W.keepIn K (.ref f21) = true)
    (a22 : PySem.W.nsIn K mainGlobals "_law_text" = some (some (.ref f22)))
    (l22 : K.lookup f22 = some ⟨oc22, od22, .func (PySem.W.fnOf "_law_text" "_law_text" (defArgs sText) (defBody sText) (defScope sText) .none kV22 dc22 pm22 an22 cd22 ct22), sl22⟩) (c22 : PySem.W.codeIn K cd22 "_law_text" = true) (k22 : PySem.W.keepIn K (.ref f22) = true)
    (a23 : PySem.W.nsIn K mainGlobals "_law_short" = some (some (.ref f23)))
    (l23 : K.lookup f23 = some ⟨oc23, od23, .func (PySem.W.fnOf "_law_short" "_law_short" (defArgs sShort) (defBody sShort) (defScope sShort) .none kV23 dc23 pm23 an23 cd23 ct23), sl23⟩) (c23 : PySem.W.codeIn K cd23 "_law_short" = true) (k23 : PySem.W.keepIn K (.ref f23) = true)
    (a24 : PySem.W.nsIn K mainGlobals "_law_goes" = some (some (.ref f24)))
    (l24 : K.lookup f24 = some ⟨oc24, od24, .func (PySem.W.fnOf "_law_goes" "_law_goes" (defArgs sGoes) (defBody sGoes) (defScope sGoes) .none kV24 dc24 pm24 an24 cd24 ct24), sl24⟩) (c24 : PySem.W.codeIn K cd24 "_law_goes" = true) (k24 : PySem.W.keepIn K (.ref f24) = true)
    (a25 : PySem.W.nsIn K mainGlobals "law" = some (some (.ref f25)))
    (l25 : K.lookup f25 = some ⟨oc25, od25, .func (PySem.W.fnOf "law" "law" (defArgs sLaw) (defBody sLaw) (defScope sLaw) .none kV25 dc25 pm25 an25 cd25 ct25), sl25⟩) (c25 : PySem.W.codeIn K cd25 "law" = true) (k25 : PySem.W.keepIn K (.ref f25) = true)
    (a26 : PySem.W.findIn K (.ref C) "__init__" = some (some (.ref f26))) (i26 : PySem.W.isFn K (.ref f26) = true)
    (l26 : K.lookup f26 = some ⟨oc26, od26, .func (PySem.W.fnOf "__init__" "Floor.__init__" (defArgs sInit) (defBody sInit) (defScope sInit) .none kV26 dc26 pm26 an26 cd26 ct26), sl26⟩) (c26 : PySem.W.codeIn K cd26 "Floor.__init__" = true) (k26 : PySem.W.keepIn K (.ref f26) = true)
    (a27 : PySem.W.findIn K (.ref C) "high" = some (some (.ref f27))) (i27 : PySem.W.isFn K (.ref f27) = true)
    (l27 : K.lookup f27 = some ⟨oc27, od27, .func (PySem.W.fnOf "high" "Floor.high" (defArgs sHigh) (defBody sHigh) (defScope sHigh) .none kV27 dc27 pm27 an27 cd27 ct27), sl27⟩) (c27 : PySem.W.codeIn K cd27 "Floor.high" = true) (k27 : PySem.W.keepIn K (.ref f27) = true)
    (a28 : PySem.W.findIn K (.ref C) "wide" = some (some (.ref f28))) (i28 : PySem.W.isFn K (.ref f28) = true)
    (l28 : K.lookup f28 = some ⟨oc28, od28, .func (PySem.W.fnOf "wide" "Floor.wide" (defArgs sWide) (defBody sWide) (defScope sWide) .none kV28 dc28 pm28 an28 cd28 ct28), sl28⟩) (c28 : PySem.W.codeIn K cd28 "Floor.wide" = true) (k28 : PySem.W.keepIn K (.ref f28) = true)
    (a29 : PySem.W.findIn K (.ref C) "rows" = some (some (.ref f29))) (i29 : PySem.W.isFn K (.ref f29) = true)
    (l29 : K.lookup f29 = some ⟨oc29, od29, .func (PySem.W.fnOf "rows" "Floor.rows" (defArgs sRows) (defBody sRows) (defScope sRows) .none kV29 dc29 pm29 an29 cd29 ct29), sl29⟩) (c29 : PySem.W.codeIn K cd29 "Floor.rows" = true) (k29 : PySem.W.keepIn K (.ref f29) = true)
    (a30 : PySem.W.findIn K (.ref C) "loss" = some (some (.ref f30))) (i30 : PySem.W.isFn K (.ref f30) = true)
    (l30 : K.lookup f30 = some ⟨oc30, od30, .func (PySem.W.fnOf "loss" "Floor.loss" (defArgs sLoss) (defBody sLoss) (defScope sLoss) .none kV30 dc30 pm30 an30 cd30 ct30), sl30⟩) (c30 : PySem.W.codeIn K cd30 "Floor.loss" = true) (k30 : PySem.W.keepIn K (.ref f30) = true)
    (a31 : PySem.W.findIn K (.ref C) "beside" = some (some (.ref f31))) (i31 : PySem.W.isFn K (.ref f31) = true)
    (l31 : K.lookup f31 = some ⟨oc31, od31, .func (PySem.W.fnOf "beside" "Floor.beside" (defArgs sBeside) (defBody sBeside) (defScope sBeside) .none kV31 dc31 pm31 an31 cd31 ct31), sl31⟩) (c31 : PySem.W.codeIn K cd31 "Floor.beside" = true) (k31 : PySem.W.keepIn K (.ref f31) = true)
    (a32 : PySem.W.findIn K (.ref C) "has" = some (some (.ref f32))) (i32 : PySem.W.isFn K (.ref f32) = true)
    (l32 : K.lookup f32 = some ⟨oc32, od32, .func (PySem.W.fnOf "has" "Floor.has" (defArgs sHas) (defBody sHas) (defScope sHas) .none kV32 dc32 pm32 an32 cd32 ct32), sl32⟩) (c32 : PySem.W.codeIn K cd32 "Floor.has" = true) (k32 : PySem.W.keepIn K (.ref f32) = true)
    (a33 : PySem.W.findIn K (.ref C) "is_wall" = some (some (.ref f33))) (i33 : PySem.W.isFn K (.ref f33) = true)
    (l33 : K.lookup f33 = some ⟨oc33, od33, .func (PySem.W.fnOf "is_wall" "Floor.is_wall" (defArgs sIsWall) (defBody sIsWall) (defScope sIsWall) .none kV33 dc33 pm33 an33 cd33 ct33), sl33⟩) (c33 : PySem.W.codeIn K cd33 "Floor.is_wall" = true) (k33 : PySem.W.keepIn K (.ref f33) = true)
    (a34 : PySem.W.findIn K (.ref C) "check_place" = some (some (.ref f34))) (i34 : PySem.W.isFn K (.ref f34) = true)
    (l34 : K.lookup f34 = some ⟨oc34, od34, .func (PySem.W.fnOf "check_place" "Floor.check_place" (defArgs sCheck) (defBody sCheck) (defScope sCheck) .none kV34 dc34 pm34 an34 cd34 ct34), sl34⟩) (c34 : PySem.W.codeIn K cd34 "Floor.check_place" = true) (k34 : PySem.W.keepIn K (.ref f34) = true)
    (z0 : PySem.W.nsIn K mainGlobals "isinstance" = some none) (z1 : PySem.W.nsIn K mainGlobals "len" = some none) (z2 : PySem.W.nsIn K mainGlobals "list" = some none) (z3 : PySem.W.nsIn K mainGlobals "tuple" = some none) (z4 : PySem.W.nsIn K mainGlobals "int" = some none) (z5 : PySem.W.nsIn K mainGlobals "bool" = some none) (z6 : PySem.W.nsIn K mainGlobals "range" = some none) (z7 : PySem.W.nsIn K mainGlobals "max" = some none) (z8 : PySem.W.nsIn K mainGlobals "str" = some none) (z9 : PySem.W.nsIn K mainGlobals "all" = some none) (z10 : PySem.W.nsIn K mainGlobals "enumerate" = some none) (aM : PySem.W.nsIn K mainGlobals "MOST" = some (some (.int 30 tM))) (aW : PySem.W.nsIn K mainGlobals "WALL_LOSS" = some (some (.int 0 tW))) (aP : PySem.W.nsIn K mainGlobals "NoPlace" = some (some (.ref CP))) (xP : PySem.W.excIn K CP bmV "ValueError.__new__" = true) (eP : PySem.W.exmOne K (.ref CP) (.ref CP) = some true) (aL : PySem.W.nsIn K mainGlobals "NoLoss" = some (some (.ref CL))) (xL : PySem.W.excIn K CL bmV "ValueError.__new__" = true) (aO : PySem.W.nsIn K mainGlobals "OPEN_LOSS" = some (some (.int 1 tO))) (aWW : PySem.W.nsIn K mainGlobals "WALL_WORD" = some (some (.str "#" tWW))) (aOW : PySem.W.nsIn K mainGlobals "OPEN_WORD" = some (some (.str "." tOW))) (aF : PySem.W.nsIn K mainGlobals "FIGURES" = some (some (.str "0123456789" tF))) (aMF : PySem.W.nsIn K mainGlobals "MOST_FIGURES" = some (some (.int 60 tMF))) (aLG : PySem.W.nsIn K mainGlobals "LEAST_GLASS" = some (some (.int 2 tLG))) :
    ∃ fd : FuncData, (∀ (s : Shared) (v : Value), BindsTo s fd ⟨[v], []⟩ [("_law_script", v)]) ∧ ∀ base : Heap, K.In base → base.Ns mainGlobals mg → FnOk l.prog w K mg base CX0 9 fa fd ["_law_script"] (spLaw K) := by
  have e := hfa.symm.trans (PySem.W.mg_of X G a25)
  cases e
  have T : Txt K mg := ⟨PySem.W.mg_none_of X G z0, PySem.W.mg_none_of X G z1, PySem.W.mg_none_of X G z2, PySem.W.mg_none_of X G z3, PySem.W.mg_none_of X G z4, PySem.W.mg_none_of X G z5, PySem.W.mg_none_of X G z6, PySem.W.mg_none_of X G z7, PySem.W.mg_none_of X G z8, PySem.W.mg_none_of X G z9, PySem.W.mg_none_of X G z10, ⟨tM, PySem.W.mg_of X G aM⟩, ⟨tW, PySem.W.mg_of X G aW⟩, ⟨tO, PySem.W.mg_of X G aO⟩, ⟨tWW, PySem.W.mg_of X G aWW⟩, ⟨tOW, PySem.W.mg_of X G aOW⟩, ⟨tF, PySem.W.mg_of X G aF⟩, ⟨tMF, PySem.W.mg_of X G aMF⟩, ⟨tLG, PySem.W.mg_of X G aLG⟩⟩
  have TC : TxtC K C := ⟨⟨pg, hd, po, sa⟩, nl⟩
  have TL : TxtL K mg CL := ⟨PySem.W.mg_of X G aL, xL⟩
  have TP : TxtP K mg CP := ⟨PySem.W.mg_of X G aP, xP, eP⟩
  have F1 := fun_mk (st := sWhole) l1 c1 k1
  have b1 := F1.binds (ps := ["value"]) fun _ _ _ _ _ _ us hl => match us, hl with | [_], _ => rfl
  have F2 := fun_mk (st := sPair) l2 c2 k2
  have b2 := F2.binds (ps := ["value"]) fun _ _ _ _ _ _ us hl => match us, hl with | [_], _ => rfl
  have F3 := fun_mk (st := sAround) l3 c3 k3
  have b3 := F3.binds (ps := ["place"]) fun _ _ _ _ _ _ us hl => match us, hl with | [_], _ => rfl
  have F4 := fun_mk (st := sListed) l4 c4 k4
  have b4 := F4.binds (ps := ["value"]) fun _ _ _ _ _ _ us hl => match us, hl with | [_], _ => rfl
  have F5 := fun_mk (st := sWithin) l5 c5 k5
  have b5 := F5.binds (ps := ["value", "end"]) fun _ _ _ _ _ _ us hl => match us, hl with | [_, _], _ => rfl
  have F6 := fun_mk (st := sRect) l6 c6 k6
  have b6 := F6.binds (ps := ["rows"]) fun _ _ _ _ _ _ us hl => match us, hl with | [_], _ => rfl
  have F7 := fun_mk (st := sSized) l7 c7 k7
  have b7 := F7.binds (ps := ["listed"]) fun _ _ _ _ _ _ us hl => match us, hl with | [_], _ => rfl
  have F8 := fun_mk (st := sCheckL) l8 c8 k8
  have b8 := F8.binds (ps := ["row"]) fun _ _ _ _ _ _ us hl => match us, hl with | [_], _ => rfl
  have F9 := fun_mk (st := sIsLoss) l9 c9 k9
  have b9 := F9.binds (ps := ["value"]) fun _ _ _ _ _ _ us hl => match us, hl with | [_], _ => rfl
  have F10 := fun_mk (st := sPurse) l10 c10 k10
  have b10 := F10.binds (ps := ["_law_script", "_law_k"]) fun _ _ _ _ _ _ us hl => match us, hl with | [_, _], _ => rfl
  have F11 := fun_mk (st := sTake) l11 c11 k11
  have b11 := F11.binds (ps := ["_law_purse_here", "_law_room"]) fun _ _ _ _ _ _ us hl => match us, hl with | [_, _], _ => rfl
  have F12 := fun_mk (st := sDraw) l12 c12 k12
  have b12 := F12.binds (ps := ["_law_purse_here"]) fun _ _ _ _ _ _ us hl => match us, hl with | [_], _ => rfl
  have F13 := fun_mk (st := sGrid) l13 c13 k13
  have b13 := F13.binds (ps := ["_law_purse_here"]) fun _ _ _ _ _ _ us hl => match us, hl with | [_], _ => rfl
  have F14 := fun_mk (st := sWriteF) l14 c14 k14
  have b14 := F14.binds (ps := ["floor"]) fun _ _ _ _ _ _ us hl => match us, hl with | [_], _ => rfl
  have F15 := fun_mk (st := sWriteR) l15 c15 k15
  have b15 := F15.binds (ps := ["row"]) fun _ _ _ _ _ _ us hl => match us, hl with | [_], _ => rfl
  have F16 := fun_mk (st := sWriteL) l16 c16 k16
  have b16 := F16.binds (ps := ["loss"]) fun _ _ _ _ _ _ us hl => match us, hl with | [_], _ => rfl
  have F17 := fun_mk (st := sReadF) l17 c17 k17
  have b17 := F17.binds (ps := ["text"]) fun _ _ _ _ _ _ us hl => match us, hl with | [_], _ => rfl
  have F18 := fun_mk (st := sReadR) l18 c18 k18
  have b18 := F18.binds (ps := ["line"]) fun _ _ _ _ _ _ us hl => match us, hl with | [_], _ => rfl
  have F19 := fun_mk (st := sReadL) l19 c19 k19
  have b19 := F19.binds (ps := ["word"]) fun _ _ _ _ _ _ us hl => match us, hl with | [_], _ => rfl
  have F20 := fun_mk (st := sRN) l20 c20 k20
  have b20 := F20.binds (ps := ["word", "most"]) fun _ _ _ _ _ _ us hl => match us, hl with | [_, _], _ => rfl
  have F21 := fun_mk (st := sWord) l21 c21 k21
  have b21 := F21.binds (ps := ["_law_loss_here"]) fun _ _ _ _ _ _ us hl => match us, hl with | [_], _ => rfl
  have F22 := fun_mk (st := sText) l22 c22 k22
  have b22 := F22.binds (ps := ["_law_rows_here"]) fun _ _ _ _ _ _ us hl => match us, hl with | [_], _ => rfl
  have F23 := fun_mk (st := sShort) l23 c23 k23
  have b23 := F23.binds (ps := ["_law_rows_here"]) fun _ _ _ _ _ _ us hl => match us, hl with | [_], _ => rfl
  have F24 := fun_mk (st := sGoes) l24 c24 k24
  have b24 := F24.binds (ps := ["_law_rows_here"]) fun _ _ _ _ _ _ us hl => match us, hl with | [_], _ => rfl
  have F25 := fun_mk (st := sLaw) l25 c25 k25
  have F26 := fun_mk (st := sInit) l26 c26 k26
  have b26 := F26.binds (ps := ["self", "rows"]) fun _ _ _ _ _ _ us hl => match us, hl with | [_, _], _ => rfl
  have F27 := fun_mk (st := sHigh) l27 c27 k27
  have b27 := F27.binds (ps := ["self"]) fun _ _ _ _ _ _ us hl => match us, hl with | [_], _ => rfl
  have F28 := fun_mk (st := sWide) l28 c28 k28
  have b28 := F28.binds (ps := ["self"]) fun _ _ _ _ _ _ us hl => match us, hl with | [_], _ => rfl
  have F29 := fun_mk (st := sRows) l29 c29 k29
  have b29 := F29.binds (ps := ["self"]) fun _ _ _ _ _ _ us hl => match us, hl with | [_], _ => rfl
  have F30 := fun_mk (st := sLoss) l30 c30 k30
  have b30 := F30.binds (ps := ["self", "place"]) fun _ _ _ _ _ _ us hl => match us, hl with | [_, _], _ => rfl
  have F31 := fun_mk (st := sBeside) l31 c31 k31
  have b31 := F31.binds (ps := ["self", "place"]) fun _ _ _ _ _ _ us hl => match us, hl with | [_, _], _ => rfl
  have F32 := fun_mk (st := sHas) l32 c32 k32
  have b32 := F32.binds (ps := ["self", "place"]) fun _ _ _ _ _ _ us hl => match us, hl with | [_, _], _ => rfl
  have F33 := fun_mk (st := sIsWall) l33 c33 k33
  have b33 := F33.binds (ps := ["self", "place"]) fun _ _ _ _ _ _ us hl => match us, hl with | [_, _], _ => rfl
  have F34 := fun_mk (st := sCheck) l34 c34 k34
  have b34 := F34.binds (ps := ["self", "place"]) fun _ _ _ _ _ _ us hl => match us, hl with | [_, _], _ => rfl
  refine ⟨PySem.W.fnOf "law" "law" (defArgs sLaw) (defBody sLaw) (defScope sLaw) .none kV25 dc25 pm25 an25 cd25 ct25, fun s v => .of_eq rfl, fun base _ _ => ?_⟩
  have G_whole : Callee l.prog w K mg base 1 "is_whole" ["value"] (spWholeG) := ⟨_, _, ok_wholeG F1 T, PySem.W.mg_of X G a1, k1, b1⟩
  have G_listed : Callee l.prog w K mg base 1 "is_listed" ["value"] (spListedG) := ⟨_, _, ok_listedG F4 T, PySem.W.mg_of X G a4, k4, b4⟩
  have G_within : Callee l.prog w K mg base 2 "is_within" ["value", "end"] (spWithinG) := ⟨_, _, ok_withinG F5 T G_whole, PySem.W.mg_of X G a5, k5, b5⟩
  have D_is_listed : Callee l.prog w K mg base 1 "is_listed" ["value"] (spListed) := ⟨_, _, listed_of (ok_listedG F4 T), PySem.W.mg_of X G a4, k4, b4⟩
  have D_is_sized : Callee l.prog w K mg base 2 "is_sized" ["listed"] (spSized) := ⟨_, _, ok_sized F7 T D_is_listed, PySem.W.mg_of X G a7, k7, b7⟩
  have D_is_rectangle : Callee l.prog w K mg base 3 "is_rectangle" ["rows"] (spRectV) := ⟨_, _, ok_rectV F6 T D_is_sized, PySem.W.mg_of X G a6, k6, b6⟩
  have G_isloss : Callee l.prog w K mg base 3 "is_loss" ["value"] (spIsLossG) := ⟨_, _, ok_isLossG F9 T G_within, PySem.W.mg_of X G a9, k9, b9⟩
  have E_check : CalleeE l.prog w K mg base 4 "check_losses" ["row"] (spCheckLE CL) := ⟨_, _, ok_checkLE F8 T TL G_isloss, PySem.W.mg_of X G a8, k8, b8⟩
  have K_floor : KCalleeE l.prog w K mg base C 5 "Floor" ["self", "rows"] (spInitE C CL) := ⟨_, _, ok_initE F26 T TC D_is_rectangle E_check, ⟨mk, a26, i26, kc⟩, PySem.W.mg_of X G aC, b26⟩
  have M_high : MCallee l.prog w K mg base C 1 "high" ["self"] (spHigh C) := ⟨_, _, ok_high F27 T TC, ⟨a27, i27, k27⟩, b27⟩
  have M_wide : MCallee l.prog w K mg base C 1 "wide" ["self"] (spWide C) := ⟨_, _, ok_wide F28 T TC, ⟨a28, i28, k28⟩, b28⟩
  have M_rows : MCallee l.prog w K mg base C 1 "rows" ["self"] (spFRows C) := ⟨_, _, ok_rows F29 T TC, ⟨a29, i29, k29⟩, b29⟩
  have D_is_pair : Callee l.prog w K mg base 2 "is_pair" ["value"] (spPair) := ⟨_, _, ok_pair F2 T G_listed, PySem.W.mg_of X G a2, k2, b2⟩
  have D_around : Callee l.prog w K mg base 1 "around" ["place"] (spAround) := ⟨_, _, ok_around F3 T, PySem.W.mg_of X G a3, k3, b3⟩
  have M_has : MCallee l.prog w K mg base C 3 "has" ["self", "place"] (spHasG C) := ⟨_, _, ok_hasG F32 T TC D_is_pair G_within M_high M_wide, ⟨a32, i32, k32⟩, b32⟩
  have M_is_wall : MCallee l.prog w K mg base C 1 "is_wall" ["self", "place"] (spIsWall C) := ⟨_, _, ok_isWall F33 T TC, ⟨a33, i33, k33⟩, b33⟩
  have M_check_place : MCalleeE l.prog w K mg base C 4 "check_place" ["self", "place"] (spCheckE C CP) := ⟨_, _, ok_checkE F34 T TC TP M_has, ⟨a34, i34, k34⟩, b34⟩
  have M_loss : MCalleeE l.prog w K mg base C 5 "loss" ["self", "place"] (spLossE C CP) := ⟨_, _, ok_lossE F30 T TC M_check_place, ⟨a30, i30, k30⟩, b30⟩
  have M_beside : MCalleeE l.prog w K mg base C 6 "beside" ["self", "place"] (spBesideE C CP) := ⟨_, _, ok_besideE F31 T TC M_check_place M_has M_is_wall D_around, ⟨a31, i31, k31⟩, b31⟩
  have D_law_purse : Callee l.prog w K mg base 1 "_law_purse" ["_law_script", "_law_k"] (spPurse K) := ⟨_, _, ok_purse F10 T, PySem.W.mg_of X G a10, k10, b10⟩
  have D_law_take : Callee l.prog w K mg base 1 "_law_take" ["_law_purse_here", "_law_room"] (spTake) := ⟨_, _, ok_take F11 T, PySem.W.mg_of X G a11, k11, b11⟩
  have D_law_loss : Callee l.prog w K mg base 2 "_law_loss" ["_law_purse_here"] (spDraw) := ⟨_, _, ok_draw F12 T D_law_take, PySem.W.mg_of X G a12, k12, b12⟩
  have D_law_rows : Callee l.prog w K mg base 3 "_law_rows" ["_law_purse_here"] (spGrid) := ⟨_, _, ok_grid F13 T D_law_take D_law_loss, PySem.W.mg_of X G a13, k13, b13⟩
  have D_write_loss : Callee l.prog w K mg base 1 "write_loss" ["loss"] (spWriteL) := ⟨_, _, ok_writeL F16 T, PySem.W.mg_of X G a16, k16, b16⟩
  have D_write_row : Callee l.prog w K mg base 2 "write_row" ["row"] (spWriteR) := ⟨_, _, ok_writeR F15 T D_write_loss, PySem.W.mg_of X G a15, k15, b15⟩
  have D_write_floor : Callee l.prog w K mg base 3 "write_floor" ["floor"] (spWriteF C) := ⟨_, _, ok_writeF F14 T TC M_rows D_write_row, PySem.W.mg_of X G a14, k14, b14⟩
  have D_read_number : Callee l.prog w K mg base 1 "read_number" ["word", "most"] (spRN) := ⟨_, _, ok_rn F20 T, PySem.W.mg_of X G a20, k20, b20⟩
  have D_read_loss : Callee l.prog w K mg base 2 "read_loss" ["word"] (spReadL) := ⟨_, _, ok_readL F19 T D_read_number, PySem.W.mg_of X G a19, k19, b19⟩
  have D_read_row : Callee l.prog w K mg base 3 "read_row" ["line"] (spReadR) := ⟨_, _, ok_readR F18 T D_read_loss, PySem.W.mg_of X G a18, k18, b18⟩
  have D_read_floor : Callee l.prog w K mg base 7 "read_floor" ["text"] (spReadF C) := ⟨_, _, ok_readF F17 T D_read_row K_floor, PySem.W.mg_of X G a17, k17, b17⟩
  have D_law_word : Callee l.prog w K mg base 1 "_law_word" ["_law_loss_here"] (spWriteL) := ⟨_, _, ok_word F21 T, PySem.W.mg_of X G a21, k21, b21⟩
  have D_law_text : Callee l.prog w K mg base 2 "_law_text" ["_law_rows_here"] (spText) := ⟨_, _, ok_text F22 T D_law_word, PySem.W.mg_of X G a22, k22, b22⟩
  have D_law_short : Callee l.prog w K mg base 1 "_law_short" ["_law_rows_here"] (spShort) := ⟨_, _, ok_short F23 T, PySem.W.mg_of X G a23, k23, b23⟩
  have D_law_goes : Callee l.prog w K mg base 8 "_law_goes" ["_law_rows_here"] (spGoes) := ⟨_, _, ok_goes F24 T TC M_rows M_high M_wide M_loss M_beside K_floor D_write_floor D_law_text D_read_floor, PySem.W.mg_of X G a24, k24, b24⟩
  exact ok_law F25 T D_law_purse D_law_rows D_law_take D_law_loss D_law_short D_law_goes
theorem walk {l : PySem.W.OpenLaw} {q : Program} {loose : List Str} {XP : (Str → Option Value) → Heap → Prop} {YP : World → Heap → Prop} {d : DefRec} {K : Params → PySem.W.Frag} (hn : l.most = some 63) (hdf : d.params.defaults = [])
    (hY : ∀ (w : World) (h : Heap), YP w h → (K w.params).In h)
    (F : ∀ (w : World) (mg : Str → Option Value) (fa : Addr) (h : Heap), (K w.params).In h → h.Ns mainGlobals mg → mg d.name = some (.ref fa) →
      ∃ fd : FuncData, (∀ (s : Shared) (u : Value), BindsTo s fd ⟨[u], []⟩ [("_law_script", u)]) ∧ ∀ base : Heap, (K w.params).In base → base.Ns mainGlobals mg → FnOk l.prog w (K w.params) mg base CX0 9 fa fd ["_law_script"] (spLaw (K w.params))) :
    PySem.W.WalkO q loose XP YP l.row.toRowW d [] (fun f vs => PySem.call f vs) :=
  L2.walk_of (n := 63) (k := 9) (x := "_law_script") (CX := fun _ => CX0) (sp := fun w => spLaw (K w.params)) hn (by decide) hdf ⟨rfl, by decide, by decide, rfl⟩ hY F (fun _ _ a ns hl _ hS => ⟨a, ns, rfl, hS, hl, fun _ => rfl⟩) fun _ _ _ _ _ z => z
end G
open PySem PySem.W PyProof.Rows
set_option maxRecDepth 100000 in
set_option maxHeartbeats 0 in
theorem PySem.Challenge.cw_glowcells_k15_whole_texts_back_holds : PySem.Challenge.rw_glowcells_k15_whole_texts_back.Holds := by
  w_on; o_law; k_head; (case hw => w_witness2)
  k_fill
  refine G.walk (l := PySem.Challenge.rw_glowcells_k15_whole_texts_back) rfl rfl (fun w h Y => PySem.W.kIn_of Y) ?F
  case F =>
    intro w mg fa h KX GG hmg
    refine' _root_.G.all_mk KX GG hmg ?aC ?pg ?hd ?po ?sa ?mk ?kc ?nl ?a1 ?l1 ?c1 ?k1 ?a2 ?l2 ?c2 ?k2 ?a3 ?l3 ?c3 ?k3 ?a4 ?l4 ?c4 ?k4 ?a5 ?l5 ?c5 ?k5 ?a6 ?l6 ?c6 ?k6 ?a7 ?l7 ?c7 ?k7 ?a8 ?l8 ?c8 ?k8 ?a9 ?l9 ?c9 ?k9 ?a10 ?l10 ?c10 ?k10 ?a11 ?l11 ?c11 ?k11 ?a12 ?l12 ?c12 ?k12 ?a13 ?l13 ?c13 ?k13 ?a14 ?l14 ?c14 ?k14 ?a15 ?l15 ?c15 ?k15 ?a16 ?l16 ?c16 ?k16 ?a17 ?l17 ?c17 ?k17 ?a18 ?l18 ?c18 ?k18 ?a19 ?l19 ?c19 ?k19 ?a20 ?l20 ?c20 ?k20 ?a21 ?l21 ?c21 ?k21 ?a22 ?l22 ?c22 ?k22 ?a23 ?l23 ?c23 ?k23 ?a24 ?l24 ?c24 ?k24 ?a25 ?l25 ?c25 ?k25 ?a26 ?i26 ?l26 ?c26 ?k26 ?a27 ?i27 ?l27 ?c27 ?k27 ?a28 ?i28 ?l28 ?c28 ?k28 ?a29 ?i29 ?l29 ?c29 ?k29 ?a30 ?i30 ?l30 ?c30 ?k30 ?a31 ?i31 ?l31 ?c31 ?k31 ?a32 ?i32 ?l32 ?c32 ?k32 ?a33 ?i33 ?l33 ?c33 ?k33 ?a34 ?i34 ?l34 ?c34 ?k34 ?z0 ?z1 ?z2 ?z3 ?z4 ?z5 ?z6 ?z7 ?z8 ?z9 ?z10 ?aM ?aW ?aP ?xP ?eP ?aL ?xL ?aO ?aWW ?aOW ?aF ?aMF ?aLG
    (case aC => k_is)
    (case pg => k_is)
    (case hd => k_is)
    (case po => k_is)
    (case sa => k_is)
    (case mk => k_is)
    (case kc => k_is)
    (case nl => k_is)
    (case a1 => k_is)
    (case l1 => k_is)
    (case c1 => k_is)
    (case k1 => k_is)
    (case a2 => k_is)
    (case l2 => k_is)
    (case c2 => k_is)
    (case k2 => k_is)
    (case a3 => k_is)
    (case l3 => k_is)
    (case c3 => k_is)
    (case k3 => k_is)
    (case a4 => k_is)
    (case l4 => k_is)
    (case c4 => k_is)
    (case k4 => k_is)
    (case a5 => k_is)
    (case l5 => k_is)
    (case c5 => k_is)
    (case k5 => k_is)
    (case a6 => k_is)
    (case l6 => k_is)
    (case c6 => k_is)
    (case k6 => k_is)
    (case a7 => k_is)
    (case l7 => k_is)
    (case c7 => k_is)
    (case k7 => k_is)
    (case a8 => k_is)
    (case l8 => k_is)
    (case c8 => k_is)
    (case k8 => k_is)
    (case a9 => k_is)
    (case l9 => k_is)
    (case c9 => k_is)
    (case k9 => k_is)
    (case a10 => k_is)
    (case l10 => k_is)
    (case c10 => k_is)
    (case k10 => k_is)
    (case a11 => k_is)
    (case l11 => k_is)
    (case c11 => k_is)
    (case k11 => k_is)
    (case a12 => k_is)
    (case l12 => k_is)
    (case c12 => k_is)
    (case k12 => k_is)
    (case a13 => k_is)
    (case l13 => k_is)
    (case c13 => k_is)
    (case k13 => k_is)
    (case a14 => k_is)
    (case l14 => k_is)
    (case c14 => k_is)
    (case k14 => k_is)
    (case a15 => k_is)
    (case l15 => k_is)
    (case c15 => k_is)
    (case k15 => k_is)
    (case a16 => k_is)
    (case l16 => k_is)
    (case c16 => k_is)
    (case k16 => k_is)
    (case a17 => k_is)
    (case l17 => k_is)
    (case c17 => k_is)
    (case k17 => k_is)
    (case a18 => k_is)
    (case l18 => k_is)
    (case c18 => k_is)
    (case k18 => k_is)
    (case a19 => k_is)
    (case l19 => k_is)
    (case c19 => k_is)
    (case k19 => k_is)
    (case a20 => k_is)
    (case l20 => k_is)
    (case c20 => k_is)
    (case k20 => k_is)
    (case a21 => k_is)
    (case l21 => k_is)
    (case c21 => k_is)
    (case k21 => k_is)
    (case a22 => k_is)
    (case l22 => k_is)
    (case c22 => k_is)
    (case k22 => k_is)
    (case a23 => k_is)
    (case l23 => k_is)
    (case c23 => k_is)
    (case k23 => k_is)
    (case a24 => k_is)
    (case l24 => k_is)
    (case c24 => k_is)
    (case k24 => k_is)
    (case a25 => k_is)
    (case l25 => k_is)
    (case c25 => k_is)
    (case k25 => k_is)
    (case a26 => k_is)
    (case i26 => k_is)
    (case l26 => k_is)
    (case c26 => k_is)
    (case k26 => k_is)
    (case a27 => k_is)
    (case i27 => k_is)
    (case l27 => k_is)
    (case c27 => k_is)
    (case k27 => k_is)
    (case a28 => k_is)
    (case i28 => k_is)
    (case l28 => k_is)
    (case c28 => k_is)
    (case k28 => k_is)
    (case a29 => k_is)
    (case i29 => k_is)
    (case l29 => k_is)
    (case c29 => k_is)
    (case k29 => k_is)
    (case a30 => k_is)
    (case i30 => k_is)
    (case l30 => k_is)
    (case c30 => k_is)
    (case k30 => k_is)
    (case a31 => k_is)
    (case i31 => k_is)
    (case l31 => k_is)
    (case c31 => k_is)
    (case k31 => k_is)
    (case a32 => k_is)
    (case i32 => k_is)
    (case l32 => k_is)
    (case c32 => k_is)
    (case k32 => k_is)
    (case a33 => k_is)
    (case i33 => k_is)
    (case l33 => k_is)
    (case c33 => k_is)
    (case k33 => k_is)
    (case a34 => k_is)
    (case i34 => k_is)
    (case l34 => k_is)
    (case c34 => k_is)
    (case k34 => k_is)
    (case z0 => k_is)
    (case z1 => k_is)
    (case z2 => k_is)
    (case z3 => k_is)
    (case z4 => k_is)
    (case z5 => k_is)
    (case z6 => k_is)
    (case z7 => k_is)
    (case z8 => k_is)
    (case z9 => k_is)
    (case z10 => k_is)
    (case aM => k_is)
    (case aW => k_is)
    (case aP => k_is)
    (case xP => dsimp only [L2.bmV]; k_exc)
    (case eP => kts_exm)
    (case aL => k_is)
    (case xL => dsimp only [L2.bmV]; k_exc)
    (case aO => k_is)
    (case aWW => k_is)
    (case aOW => k_is)
    (case aF => k_is)
    (case aMF => k_is)
    (case aLG => k_is)
